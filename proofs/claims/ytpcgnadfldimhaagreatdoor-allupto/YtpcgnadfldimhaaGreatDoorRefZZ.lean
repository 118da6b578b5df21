/-
 The document's answer: Cancel and Done that are refused.
-/
import Derived.Test.YtpcgnadfldimhaaGreatDoorRefBB
import Derived.Test.YtpcgnadfldimhaaGreatDoorSchB
import Derived.Laws.AppendOwnNone
namespace Go.Proofs.YtpcgnadfldimhaaGreatDoor
open Go.RowKit

set_option maxHeartbeats 2000000 in
set_option maxRecDepth 100000 in
theorem ends_5 (base bc : Nat) (nodes jobs wall last now : Int) (v : Value) (L : List Job) (w : World) (h : RefO base bc nodes jobs wall last now v L w) (kind id : Int) (hid : id < 1 ∨ (L.length : Int) < id) :
  Calls Tryz.prog 78 #[.pointer (some ⟨bc, 0, none⟩), .int .i64 kind, .int .i64 id] w (Left base bc nodes jobs wall last v ⟨5, 0, 0, 0, [], [], now, L⟩ w) := by
 have hlt0 := h.lt
 have hlen := h.len
 obtain ⟨p, cap, rfl, hC⟩ := h.toC
 have c5 := hC.c5
 by_cases h1 : id < 1
 ·go_enter Tryz.func78, Tryz.ntmps78
  go_wp2
  exact bodyPost_ret (v := .agg #[.int .i64 5, .int .i64 0, .int .i64 0, .int .i64 0, .slice none 0 0, .slice none 0 0]) (results_cell_row Tryz.results78 _ _ w.heap.size _ _ _ _ rfl (heap_alloc_new w _) Tryz.underlying34 rfl (by kernel_rfl)) rfl (left_refused h ((Kept.refl _ _).alloc _) 5 0 0 0)
 ·have h2 : (L.length : Int) < id := by omega
  go_enter Tryz.func78, Tryz.ntmps78
  go_wp2
  exact bodyPost_ret (v := .agg #[.int .i64 5, .int .i64 0, .int .i64 0, .int .i64 0, .slice none 0 0, .slice none 0 0]) (results_cell_row Tryz.results78 _ _ w.heap.size _ _ _ _ rfl (heap_alloc_new w _) Tryz.underlying34 rfl (by kernel_rfl)) rfl (left_refused h ((Kept.refl _ _).alloc _) 5 0 0 0)

/-- The world behind the look at the job. -/
theorem ends_pre (w : World) (a b c d e : Int) : ∃ W, W = ((w.alloc (.cells #[.int .i64 0, .int .i64 0, .int .i64 0, .int .i64 0, .slice none 0 0, .slice none 0 0] 34)).alloc (.cells #[.int .i64 a, .int .i64 b, .int .i64 c, .int .i64 d, .int .i64 e] 148)).alloc (.cells #[.int .i64 a, .int .i64 b, .int .i64 c, .int .i64 d, .int .i64 e] 148) ∧ Below w.heap.size w W ∧ W.heap[w.heap.size]? = some (.cells #[.int .i64 0, .int .i64 0, .int .i64 0, .int .i64 0, .slice none 0 0, .slice none 0 0] 34 (0, 0)) ∧ W.heap[w.heap.size + 1]? = some (.cells #[.int .i64 a, .int .i64 b, .int .i64 c, .int .i64 d, .int .i64 e] 148 (0, 0)) := by
 refine ⟨_, rfl, (((Below.refl w.heap.size w).alloc (Nat.le_refl _) _).alloc (by simp) _).alloc (by simp; omega) _, ?_, ?_⟩
 ·exact (Below.heap_alloc _ _ _ (by simp; omega)).trans ((Below.heap_alloc _ _ _ (by simp)).trans (heap_alloc_new w _))
 ·exact (Below.heap_alloc _ _ _ (by simp)).trans (alloc_at _ _ _ (by simp))

set_option maxHeartbeats 2000000 in
set_option maxRecDepth 100000 in
theorem ends_6 (base bc : Nat) (nodes jobs wall last now : Int) (v : Value) (L : List Job) (w : World) (h : RefO base bc nodes jobs wall last now v L w) (kind : Int) (i : Nat) (j : Job) (hj : L[i]? = some j) (hr : j.live = false ∨ (kind = 3 ∧ j.phase ≠ 2)) :
  Calls Tryz.prog 78 #[.pointer (some ⟨bc, 0, none⟩), .int .i64 kind, .int .i64 ((i : Int) + 1)] w (Left base bc nodes jobs wall last v ⟨6, 0, 0, 0, [], [], now, L⟩ w) := by
 have hlt0 := h.lt
 have hlen := h.len
 have hi' := (List.getElem?_eq_some_iff.1 hj).1
 obtain ⟨g, cap, rfl⟩ : ∃ g cap, v = .slice (some ⟨g, 0, none⟩) L.length cap := by
  rcases own_forms h.own with ⟨_, hn⟩ | ⟨g, c2, e⟩
  ·omega
  ·exact ⟨g, c2, e⟩
 have c5 := h.cell 5
 simp at c5
 have hgl : g < w.heap.size := (h.own.lt g rfl).2
 have k1 : (0 : Int) ≤ (i : Int) := by omega
 have k2 : (i : Int) < (L.length : Int) := by omega
 obtain ⟨wd, wl, ph, st, en⟩ := j
 have hrow : ∀ o, (w.alloc o).rangeAt g (i * 5) [.int .i64 wd, .int .i64 wl, .int .i64 ph, .int .i64 st, .int .i64 en] := fun o t u hu => by
  have ht : t < 5 := (List.getElem?_eq_some_iff.1 hu).1
  exact cellUp (((h.own.cellAt (i * 5 + t) (by omega)).trans (flat_at _ i _ t hj ht)).trans hu) o
 go_enter Tryz.func78, Tryz.ntmps78
 go_wp2_with (first | (refine wpList_load_mid rfl 148 _ rfl g (i * 5) rfl [.int .i64 wd, .int .i64 wl, .int .i64 ph, .int .i64 st, .int .i64 en] _ (hrow _) Tryz.underlying148 rfl (by kernel_rfl) ?_) | (go_at_call 112; refine (live_any wd wl ph st en _).mono ?_; rintro e w2 ⟨rfl, hw2⟩; refine Hid.out ?_))
 refine Lib.hid ?_
 obtain ⟨W, hW, hb, hq, hm⟩ := ends_pre w wd wl ph st en
 rw [← hW]
 clear hw2 hW hrow
 have q0 := cell_of_row _ _ 0 _ _ (0, 0) hq
 have q1 := cell_of_row _ _ 1 _ _ (0, 0) hq
 have q2 := cell_of_row _ _ 2 _ _ (0, 0) hq
 have q3 := cell_of_row _ _ 3 _ _ (0, 0) hq
 have q4 := cell_of_row _ _ 4 _ _ (0, 0) hq
 have q5 := cell_of_row _ _ 5 _ _ (0, 0) hq
 have qf := fun j => frozen_of_row _ _ j _ _ hq
 have m2 := cell_of_row _ _ 2 _ _ (0, 0) hm
 simp at q0 q1 q2 q3 q4 q5 m2
 have HQ := Lib.hid hq
 have HB := Lib.hid hb
 have HR := Lib.hid hr
 clear hq hb hm hr
 by_cases hlv : liveB ph = false
 ·go_wp2
  exact bodyPost_ret (v := .agg #[.int .i64 6, .int .i64 0, .int .i64 0, .int .i64 0, .slice none 0 0, .slice none 0 0]) (results_cell_row Tryz.results78 _ _ w.heap.size _ _ _ _ rfl (six_block HQ.out _ _ _ _ _ _) Tryz.underlying34 rfl (by kernel_rfl)) rfl (left_refused h ((Kept.of_below (S := fun _ => False) HB.out).six (Or.inr (Nat.le_refl _)) _ _ _ _ _ _) 6 0 0 0)
 ·have hlv2 : liveB ph = true := by simpa using hlv
  clear hlv
  obtain ⟨k3, hp⟩ : kind = 3 ∧ ph ≠ 2 := by
   rcases HR.out with e | e
   ·have e2 : liveB ph = false := e
    rw [hlv2] at e2
    simp at e2
   ·exact e
  subst k3
  go_wp2
  exact bodyPost_ret (v := .agg #[.int .i64 6, .int .i64 0, .int .i64 0, .int .i64 0, .slice none 0 0, .slice none 0 0]) (results_cell_row Tryz.results78 _ _ w.heap.size _ _ _ _ rfl (six_block HQ.out _ _ _ _ _ _) Tryz.underlying34 rfl (by kernel_rfl)) rfl (left_refused h ((Kept.of_below (S := fun _ => False) HB.out).six (Or.inr (Nat.le_refl _)) _ _ _ _ _ _) 6 0 0 0)

end Go.Proofs.YtpcgnadfldimhaaGreatDoor
namespace Go.Proofs.YtpcgnadfldimhaaGreatDoor
open Go.RowKit

/-- A job's five cells, stored. -/
theorem RefO.storeJob {base bc g cap i : Nat} {nodes jobs wall last now : Int} {L : List Job} {j : Job} {w : World} (h : RefO base bc nodes jobs wall last now (.slice (some ⟨g, 0, none⟩) L.length cap) L w) (hj : L[i]? = some j) (j' : Job) :
  RefO base bc nodes jobs wall last now (.slice (some ⟨g, 0, none⟩) L.length cap) (L.set i j') (w.setCells g (i * 5) [.int .i64 j'.width, .int .i64 j'.wall, .int .i64 j'.phase, .int .i64 j'.start, .int .i64 j'.stop]) ∧ Kept (fun k => k = g) w (w.setCells g (i * 5) [.int .i64 j'.width, .int .i64 j'.wall, .int .i64 j'.phase, .int .i64 j'.start, .int .i64 j'.stop]) := by
 have hlt := (List.getElem?_eq_some_iff.1 hj).1
 have step : ∀ (M : List Job) (a b : Job) (t : Nat) (u : Value) (X : World), RefO base bc nodes jobs wall last now (.slice (some ⟨g, 0, none⟩) L.length cap) M X → M.length = L.length → M[i]? = some a → t < 5 → a.cells.set t u = b.cells → RefO base bc nodes jobs wall last now (.slice (some ⟨g, 0, none⟩) L.length cap) (M.set i b) (X.setCell ⟨g, i * 5 + t, none⟩ u) := fun M a b t u X hX hM ha ht e => by
  rw [← hM] at hX ⊢
  exact hX.store i a b t u ha ht e
 obtain ⟨a0, a1, a2, a3, a4⟩ := j'
 obtain ⟨b0, b1, b2, b3, b4⟩ := j
 have s0 := step L ⟨b0, b1, b2, b3, b4⟩ ⟨a0, b1, b2, b3, b4⟩ 0 (.int .i64 a0) w h rfl hj (by omega) rfl
 have s1 := step _ ⟨a0, b1, b2, b3, b4⟩ ⟨a0, a1, b2, b3, b4⟩ 1 (.int .i64 a1) _ s0 (by simp) (by simp [hlt]) (by omega) rfl
 have s2 := step _ ⟨a0, a1, b2, b3, b4⟩ ⟨a0, a1, a2, b3, b4⟩ 2 (.int .i64 a2) _ s1 (by simp) (by simp [hlt]) (by omega) rfl
 have s3 := step _ ⟨a0, a1, a2, b3, b4⟩ ⟨a0, a1, a2, a3, b4⟩ 3 (.int .i64 a3) _ s2 (by simp) (by simp [hlt]) (by omega) rfl
 have s4 := step _ ⟨a0, a1, a2, a3, b4⟩ ⟨a0, a1, a2, a3, a4⟩ 4 (.int .i64 a4) _ s3 (by simp) (by simp [hlt]) (by omega) rfl
 simp only [List.set_set] at s4
 refine ⟨s4, ?_⟩
 exact (((((Kept.refl (fun k => k = g) w).setCell (p := ⟨g, i * 5, none⟩) (Or.inl rfl) _).setCell (p := ⟨g, i * 5 + 1, none⟩) (Or.inl rfl) _).setCell (p := ⟨g, i * 5 + 1 + 1, none⟩) (Or.inl rfl) _).setCell (p := ⟨g, i * 5 + 1 + 1 + 1, none⟩) (Or.inl rfl) _).setCell (p := ⟨g, i * 5 + 1 + 1 + 1 + 1, none⟩) (Or.inl rfl) _

/-- Behind the store of the job that ended. -/
theorem ends_mid {g : Nat} {w W Y Z : World} (hgl : g < w.heap.size) (hs1 : w.heap.size + 1 < W.heap.size) (hb : Below w.heap.size w W) (hq : W.heap[w.heap.size]? = some (.cells #[.int .i64 0, .int .i64 0, .int .i64 0, .int .i64 0, .slice none 0 0, .slice none 0 0] 34 (0, 0))) (yK : Kept (fun k => k = w.heap.size + 1) W Y) (zK : Kept (fun k => k = g) Y Z) : Kept (fun k => k = g) w Z ∧ w.heap.size < Z.heap.size ∧ Z.heap[w.heap.size]? = some (.cells #[.int .i64 0, .int .i64 0, .int .i64 0, .int .i64 0, .slice none 0 0, .slice none 0 0] 34 (0, 0)) := by
 have hsY := yK.size
 have hsZ := zK.size
 refine ⟨((Kept.of_below hb).trans yK (fun i e => Or.inr (by omega))).trans zK (fun i e => Or.inl e), by omega, ?_⟩
 exact (zK.block _ (by omega) (by omega)).trans ((yK.block _ (by omega) (by omega)).trans hq)

/-- Behind moving up and what starts. -/
theorem ends_app {g cap n : Nat} {es : List Ev} {x : Value} {w Z w2 w3 : World} (zK : Kept (fun k => k = g) w Z) (hz : w.heap.size < Z.heap.size) (hq : Z.heap[w.heap.size]? = some (.cells #[.int .i64 0, .int .i64 0, .int .i64 0, .int .i64 0, .slice none 0 0, .slice none 0 0] 34 (0, 0)))
  (hk2 : Kept (fun k => (Value.slice (some ⟨g, 0, none⟩) n cap).ownBlock = some k) Z w2) (ho2 : w2.ownsRow Z.heap.size 55 4 x es.length (flatE es)) (hk3 : Kept (fun k => (Value.slice (some ⟨g, 0, none⟩) n cap).ownBlock = some k) w2 w3) (hg : g < w.heap.size) :
  (w3.ownsRow Z.heap.size 55 4 x es.length (flatE es) ∧ Kept (fun k => k = g) w w3) ∧ w3.heap[w.heap.size]? = some (.cells #[.int .i64 0, .int .i64 0, .int .i64 0, .int .i64 0, .slice none 0 0, .slice none 0 0] 34 (0, 0)) ∧ w.heap.size < w3.heap.size := by
 have hs2 := hk2.size
 have hs3 := hk3.size
 have e2 : ∀ k, (Value.slice (some ⟨g, 0, none⟩) n cap).ownBlock = some k → k = g := fun k e => by simpa [Value.ownBlock] using e.symm
 refine ⟨⟨owns_on ho2 (fun k e => hk3.block k (ho2.lt k e).2 (fun e3 => by have := e2 k e3; have := (ho2.lt k e).1; have := zK.size; omega)), (zK.trans (hk2.mono e2) (fun i e => Or.inl e)).trans (hk3.mono e2) (fun i e => Or.inl e)⟩, ?_, by omega⟩
 exact (hk3.block _ (by omega) (fun e3 => by have := e2 _ e3; omega)).trans ((hk2.block _ (by omega) (fun e3 => by have := e2 _ e3; omega)).trans hq)

/-- Behind the answer's store. -/
theorem ends_fin {base bc g cap n zs : Nat} {nodes jobs wall last now : Int} {M : List Job} {es N : List Ev} {x : Value} {w w4 : World} (hx : w4.ownsRow zs 55 4 x (es ++ N).length (flatE (es ++ N))) (hR : RefO base bc nodes jobs wall last now (.slice (some ⟨g, 0, none⟩) n cap) M w4) (hk : Kept (fun k => k = g) w w4) (hg : g < w.heap.size) (hq : w4.heap[w.heap.size]? = some (.cells #[.int .i64 0, .int .i64 0, .int .i64 0, .int .i64 0, .slice none 0 0, .slice none 0 0] 34 (0, 0))) (hxb : ∀ k, x.ownBlock = some k → w.heap.size < k) (hz : w.heap.size < zs) :
  Left base bc nodes jobs wall last (.slice (some ⟨g, 0, none⟩) n cap) ⟨0, 0, 0, 0, [], es ++ N, now, M⟩ w (.returned (.agg #[.int .i64 0, .int .i64 0, .int .i64 0, .int .i64 0, .slice none 0 0, x])) (six w4 w.heap.size (.int .i64 0) (.int .i64 0) (.int .i64 0) (.int .i64 0) (.slice none 0 0) x) := by
 have hk6 := (Kept.refl (fun k => k = w.heap.size) w4).six (g := w.heap.size) (Or.inl rfl) (.int .i64 0) (.int .i64 0) (.int .i64 0) (.int .i64 0) (.slice none 0 0) x
 have hs := hk.size
 have hb : bc ≠ w.heap.size := fun e => by
  have := hR.blk
  rw [e, hq] at this
  simp at this
 refine ⟨_, x, .slice (some ⟨g, 0, none⟩) n cap, rfl, World.ownsRow_nil _ _ _ _, owns_on (owns_mono hx (by omega)) (fun k e => hk6.block k (hx.lt k e).2 (fun e2 => by have := hxb k e; omega)), hR.kept hk6 (fun k e => ⟨fun e2 => hb (e2.symm.trans e), fun e2 => by simp [Value.ownBlock] at e2; omega⟩), ?_, fun k e => Or.inl e⟩
 exact (hk.mono (T := fun k => k = bc ∨ (Value.slice (some ⟨g, 0, none⟩) n cap).ownBlock = some k) (fun k e => Or.inr (by simp [Value.ownBlock, e]))).trans hk6 (fun k e => Or.inr (by omega))

set_option maxHeartbeats 4000000 in
set_option maxRecDepth 100000 in
theorem ends_yes (base bc : Nat) (nodes jobs wall last now : Int) (v : Value) (L : List Job) (w : World) (h : RefO base bc nodes jobs wall last now v L w) (hG : Good nodes jobs wall last now L) (kind : Int) (hkd : kind = 2 ∨ kind = 3) (i : Nat) (j : Job) (hj : L[i]? = some j) (hl : j.live = true) (hk3 : kind = 3 → j.phase = 2) :
  Calls Tryz.prog 78 #[.pointer (some ⟨bc, 0, none⟩), .int .i64 kind, .int .i64 ((i : Int) + 1)] w fun e w' => ∃ M es, Rounds nodes now (L.set i (j.early now (if kind = 3 then 3 else 5))) es M ∧ Left base bc nodes jobs wall last v ⟨0, 0, 0, 0, [], es ++ startE M now M.length, now, M.map (Job.go now)⟩ w e w' := by
 obtain ⟨i0, hi, hz0, hz1, hz2⟩ := info_parts Tryz.infoEv
 have hlt0 := h.lt
 have hlen := h.len
 have hi' := (List.getElem?_eq_some_iff.1 hj).1
 obtain ⟨g, cap, rfl⟩ : ∃ g cap, v = .slice (some ⟨g, 0, none⟩) L.length cap := by
  rcases own_forms h.own with ⟨_, hn⟩ | ⟨g, c2, e⟩
  ·omega
  ·exact ⟨g, c2, e⟩
 have c5 := h.cell 5
 simp at c5
 have hgl : g < w.heap.size := (h.own.lt g rfl).2
 have k1 : (0 : Int) ≤ (i : Int) := by omega
 have k2 : (i : Int) < (L.length : Int) := by omega
 have hce := calm_early hG hj hl (ph := if kind = 3 then 3 else 5) (by split <;> omega)
 have hoe := offs_early hG hj (ph := if kind = 3 then 3 else 5) (by split <;> omega)
 have n0 := hG.now0
 have n1 := hG.now1
 have hcf := hG.conf
 obtain ⟨wd, wl, ph, st, en⟩ := j
 have hlv : liveB ph = true := hl
 have hph : ph = 1 ∨ ph = 2 := by simpa [liveB] using hlv
 have hrow : ∀ o, (w.alloc o).rangeAt g (i * 5) [.int .i64 wd, .int .i64 wl, .int .i64 ph, .int .i64 st, .int .i64 en] := fun o t u hu => by
  have ht : t < 5 := (List.getElem?_eq_some_iff.1 hu).1
  exact cellUp (((h.own.cellAt (i * 5 + t) (by omega)).trans (flat_at _ i _ t hj ht)).trans hu) o
 go_enter Tryz.func78, Tryz.ntmps78
 go_wp2_with (first | (refine wpList_load_mid rfl 148 _ rfl g (i * 5) rfl [.int .i64 wd, .int .i64 wl, .int .i64 ph, .int .i64 st, .int .i64 en] _ (hrow _) Tryz.underlying148 rfl (by kernel_rfl) ?_) | (go_at_call 112; refine (live_any wd wl ph st en _).mono ?_; rintro e w2 ⟨rfl, hw2⟩; refine Hid.out ?_))
 refine Lib.hid ?_
 obtain ⟨W, hW, hb, hq, hm⟩ := ends_pre w wd wl ph st en
 rw [← hW]
 clear hw2 hW hrow
 have m0 := cell_of_row _ _ 0 _ _ (0, 0) hm
 have m1 := cell_of_row _ _ 1 _ _ (0, 0) hm
 have m2 := cell_of_row _ _ 2 _ _ (0, 0) hm
 have m3 := cell_of_row _ _ 3 _ _ (0, 0) hm
 have m4 := cell_of_row _ _ 4 _ _ (0, 0) hm
 have mf := fun j => frozen_of_row _ _ j _ _ hm
 simp at m0 m1 m2 m3 m4
 have hRW : RefO base bc nodes jobs wall last now (.slice (some ⟨g, 0, none⟩) L.length cap) L W := h.kept (S := fun _ => False) (Kept.of_below hb) (fun _ e => e.elim)
 have d4 := hRW.cell 4
 have d5 := hRW.cell 5
 simp at d4 d5
 have HQ := Lib.hid hq
 have HB := Lib.hid hb
 have HM := Lib.hid hm
 have HR := Lib.hid hRW
 have HK3 := Lib.hid hk3
 have hs1 : w.heap.size + 1 < W.heap.size := (Array.getElem?_eq_some_iff.1 hm).1
 have ne1 : bc ≠ w.heap.size + 1 := by omega
 have ne2 : g ≠ w.heap.size + 1 := by omega
 have HJ := Lib.hid hj
 obtain ⟨J, HJE⟩ : ∃ J : Job, Hid (J = (⟨wd, wl, ph, st, en⟩ : Job).early now (if kind = 3 then 3 else 5)) := ⟨_, Lib.hid rfl⟩
 rw [← HJE.out] at hce hoe
 have HCE := Lib.hid hce
 have HOE := Lib.hid hoe
 have HCF := Lib.hid hcf
 clear hq hb hm hRW hk3 c5 hce hoe hcf hj hl hlv
 have HGo : ∀ Y, Kept (fun k => k = w.heap.size + 1) W Y → Y.heap[w.heap.size + 1]? = some (.cells #[.int .i64 J.width, .int .i64 J.wall, .int .i64 J.phase, .int .i64 J.start, .int .i64 J.stop] 148 (0, 0)) → True := fun _ _ _ => trivial
 clear HGo
 rcases hkd with rfl | rfl
 ·rcases hph with rfl | rfl
  ·go_wp2
   have yJ : J = ⟨wd, wl, 5, now, now⟩ := HJE.out.trans (by simp [Job.early])
   have y0 : (((W.setCell ⟨w.heap.size + 1, 3, none⟩ (.int .i64 now)).setCell ⟨w.heap.size + 1, 4, none⟩ (.int .i64 now)).setCell ⟨w.heap.size + 1, 2, none⟩ (.int .i64 5)).heap[w.heap.size + 1]? = some (.cells #[.int .i64 J.width, .int .i64 J.wall, .int .i64 J.phase, .int .i64 J.start, .int .i64 J.stop] 148 (0, 0)) := by rw [yJ]; exact heap_setCell_same _ _ 2 _ _ _ (heap_setCell_same _ _ 4 _ _ _ (heap_setCell_same _ _ 3 _ _ _ HM.out))
   have yK : Kept (fun k => k = w.heap.size + 1) W (((W.setCell ⟨w.heap.size + 1, 3, none⟩ (.int .i64 now)).setCell ⟨w.heap.size + 1, 4, none⟩ (.int .i64 now)).setCell ⟨w.heap.size + 1, 2, none⟩ (.int .i64 5)) := (((Kept.refl (fun k => k = w.heap.size + 1) W).setCell (p := ⟨w.heap.size + 1, 3, none⟩) (Or.inl rfl) _).setCell (p := ⟨w.heap.size + 1, 4, none⟩) (Or.inl rfl) _).setCell (p := ⟨w.heap.size + 1, 2, none⟩) (Or.inl rfl) _
   generalize (((W.setCell ⟨w.heap.size + 1, 3, none⟩ (.int .i64 now)).setCell ⟨w.heap.size + 1, 4, none⟩ (.int .i64 now)).setCell ⟨w.heap.size + 1, 2, none⟩ (.int .i64 5)) = Y at y0 yK ⊢
   clear yJ m0 m1 m2 m3 m4 mf d4 d5
   have HY0 := Lib.hid y0
   have HYK := Lib.hid yK
   have hRY : RefO base bc nodes jobs wall last now (.slice (some ⟨g, 0, none⟩) L.length cap) L Y := HR.out.kept yK (fun k e => ⟨fun e2 => ne1 (e2.symm.trans e), fun e2 => by simp [Value.ownBlock] at e2; omega⟩)
   have a0 := cell_of_row _ _ 0 _ _ (0, 0) y0
   have a1 := cell_of_row _ _ 1 _ _ (0, 0) y0
   have a2 := cell_of_row _ _ 2 _ _ (0, 0) y0
   have a3 := cell_of_row _ _ 3 _ _ (0, 0) y0
   have a4 := cell_of_row _ _ 4 _ _ (0, 0) y0
   have d5 := hRY.cell 5
   have r0 := (hRY.own.cellAt (i * 5 + 0) (by omega)).trans (flat_at _ i _ 0 HJ.out (by omega))
   have r1 := (hRY.own.cellAt (i * 5 + 1) (by omega)).trans (flat_at _ i _ 1 HJ.out (by omega))
   have r2 := (hRY.own.cellAt (i * 5 + 2) (by omega)).trans (flat_at _ i _ 2 HJ.out (by omega))
   have r3 := (hRY.own.cellAt (i * 5 + 3) (by omega)).trans (flat_at _ i _ 3 HJ.out (by omega))
   have r4 := (hRY.own.cellAt (i * 5 + 4) (by omega)).trans (flat_at _ i _ 4 HJ.out (by omega))
   have rf := fun t => hRY.own.frozenAt t
   simp [Job.cells] at a0 a1 a2 a3 a4 d5 r0 r1 r2 r3 r4
   obtain ⟨zR, zK⟩ := hRY.storeJob HJ.out J
   have HZR := Lib.hid zR
   have HZK := Lib.hid zK
   clear y0 yK hRY zR zK
   go_region
   obtain ⟨Z, hZ, HZ⟩ : ∃ Z, Z = (((((Y.setCell ⟨g, i * 5, none⟩ (.int .i64 J.width)).setCell ⟨g, i * 5 + 1, none⟩ (.int .i64 J.wall)).setCell ⟨g, i * 5 + 2, none⟩ (.int .i64 J.phase)).setCell ⟨g, i * 5 + 3, none⟩ (.int .i64 J.start)).setCell ⟨g, i * 5 + 4, none⟩ (.int .i64 J.stop)).drew ∧ Hid (RefO base bc nodes jobs wall last now (.slice (some ⟨g, 0, none⟩) L.length cap) (L.set i J) Z ∧ Kept (fun k => k = g) w Z ∧ w.heap.size < Z.heap.size ∧ Z.heap[w.heap.size]? = some (.cells #[.int .i64 0, .int .i64 0, .int .i64 0, .int .i64 0, .slice none 0 0, .slice none 0 0] 34 (0, 0))) :=
    ⟨_, rfl, Lib.hid ⟨HZR.out.on (fun _ _ => rfl), ends_mid hgl hs1 HB.out HQ.out HYK.out HZK.out.drew⟩⟩
   rw [← hZ]
   clear hZ a0 a1 a2 a3 a4 d5 r0 r1 r2 r3 r4 rf
   go_wp2_with (go_at_call 113; refine (refUp_any base bc nodes jobs wall last now _ (L.set i J) Z HZ.out.1 HCE.out HCF.out n0 n1 HOE.out).mono ?_; rintro e w2 ⟨x, M, es, rfl, hrd, hown2, hR2, hk2⟩; refine Hid.out ?_)
   refine Lib.hid ?_
   obtain ⟨px, cx, rfl⟩ := own_slice hown2
   have HRD := Lib.hid hrd
   have HO2 := Lib.hid hown2
   have HR2 := Lib.hid hR2
   have HK2 := Lib.hid hk2
   clear hrd hown2 hR2 hk2
   go_wp2_with (go_at_call 111; refine (starts_any base bc nodes jobs wall last now _ M w2 HR2.out).mono ?_; rintro e w3 ⟨x2, rfl, hown3, hR3, hk3⟩; refine Hid.out ?_)
   refine Lib.hid ?_
   obtain ⟨HA, HS⟩ := ends_app HZ.out.2.1 HZ.out.2.2.1 HZ.out.2.2.2 HK2.out HO2.out hk3 hgl
   have hes := rounds_offs HRD.out (HCE.out.fine n0)
   have hML := (good_rounds HCE.out n0 HRD.out).2.2
   rw [List.length_set] at hML
   have hMle : M.length ≤ 1000000000 := by rw [hML]; exact hlen
   clear hML
   have hsl := startE_len M now M.length
   have hoe2 := HOE.out
   have HHA := Lib.hid HA
   have HHS := Lib.hid HS
   have hz3 := HS.2
   have q3 := HS.1
   have q0 := cell_of_row _ _ 0 _ _ (0, 0) q3
   have q1 := cell_of_row _ _ 1 _ _ (0, 0) q3
   have q2 := cell_of_row _ _ 2 _ _ (0, 0) q3
   have q3' := cell_of_row _ _ 3 _ _ (0, 0) q3
   have q4 := cell_of_row _ _ 4 _ _ (0, 0) q3
   have q5 := cell_of_row _ _ 5 _ _ (0, 0) q3
   have qf := fun j => frozen_of_row _ _ j _ _ q3
   simp at q0 q1 q2 q3' q4 q5
   clear HA HS q3
   have HR3 := Lib.hid hR3
   have hxb : ∀ k, (Value.slice px es.length cx).ownBlock = some k → w.heap.size < k := fun k e => by have := (HO2.out.lt k e).1; have := HZ.out.2.2.1; omega
   have HXB := Lib.hid hxb
   have hZs := HZ.out.2.2.1
   have hZ3 : Z.heap.size ≤ w3.heap.size := by have := HK2.out.size; have := hk3.size; omega
   clear hR3 hk3 hxb
   rcases own_forms hown3 with ⟨rfl, hn0⟩ | ⟨gy, cy, rfl⟩
   ·have hN0 : startE M now M.length = [] := List.eq_nil_of_length_eq_zero hn0
    have HFI := Lib.hid (ends_fin (x := .slice px es.length cx) (N := []) (by simpa using HHA.out.1) HR3.out HHA.out.2 hgl HHS.out.1 (fun k e => HXB.out k e) hZs)
    clear hown3
    go_wp2_with (at_builtin; refine wpList_append_own_none rfl _ _ 32 rfl Z.heap.size 55 i0 4 Tryz.underlying32 hi _ _ _ rfl HHA.out.1 rfl ?_)
    refine bodyPost_ret (v := .agg #[.int .i64 0, .int .i64 0, .int .i64 0, .int .i64 0, .slice none 0 0, .slice px es.length cx]) (results_cell_row Tryz.results78 _ _ w.heap.size _ _ _ _ rfl (six_block HHS.out.1 _ _ _ _ _ _) Tryz.underlying34 rfl (by kernel_rfl)) rfl ?_
    refine ⟨M, es, by have hh := HRD.out; rw [HJE.out] at hh; simpa using hh, ?_⟩
    rw [hN0]
    exact HFI.out
   ·have hc1 := hown3.1
    have hce := fun u hu => cells_one (startE M now M.length) u hu
    have HO3 := Lib.hid hown3
    clear hown3
    go_wp2_with (at_builtin; refine wpList_append_own _ rfl _ _ 32 rfl Z.heap.size 55 i0 (.agg #[.int .i64 0, .int .i64 0, .int .i64 0, .int .i64 0]) 4 32 Tryz.underlying32 hi hz0 hz1 hz2 rfl (by decide) _ _ _ rfl HHA.out.1 ⟨gy, 0, none⟩ (startE M now M.length).length cy (flatE (startE M now M.length)) rfl hc1 (HO3.out.cells rfl) hce (by unfold maxLen; omega) (by omega) (by omega) ?_)
    intro v6 w6 hown6 hgrow _
    have hK6 : Kept (fun k => (Value.slice px es.length cx).ownBlock = some k) w3 w6 := (Kept.refl _ _).grown hgrow (fun i e => Or.inl e)
    have hR6 : RefO base bc nodes jobs wall last now (.slice (some ⟨g, 0, none⟩) L.length cap) (M.map (Job.go now)) w6 := HR3.out.kept hK6 (fun k e => ⟨fun e2 => by have := HXB.out k e; omega, fun e2 => by simp [Value.ownBlock] at e2; have := HXB.out k e; omega⟩)
    have hq6 := (hK6.block w.heap.size (by omega) (fun e => by have := HXB.out _ e; omega)).trans HHS.out.1
    have hk6 : Kept (fun k => k = g) w w6 := HHA.out.2.trans hK6 (fun k e => Or.inr (Nat.le_of_lt (HXB.out k e)))
    obtain ⟨p6, c6, rfl⟩ := own_slice hown6
    have HFI := Lib.hid (ends_fin (N := startE M now M.length) (by simpa [flatE] using hown6) hR6 hk6 hgl hq6 (fun k e => by have := (hown6.lt k e).1; omega) hZs)
    have HQ6 := Lib.hid hq6
    have q0 := cell_of_row _ _ 0 _ _ (0, 0) hq6
    have q1 := cell_of_row _ _ 1 _ _ (0, 0) hq6
    have q2 := cell_of_row _ _ 2 _ _ (0, 0) hq6
    have q3 := cell_of_row _ _ 3 _ _ (0, 0) hq6
    have q4 := cell_of_row _ _ 4 _ _ (0, 0) hq6
    have q5 := cell_of_row _ _ 5 _ _ (0, 0) hq6
    have qf := fun j => frozen_of_row _ _ j _ _ hq6
    simp at q0 q1 q2 q3 q4 q5
    clear hown6 hgrow hK6 hR6 hq6 hk6
    go_wp2
    refine bodyPost_ret (v := .agg #[.int .i64 0, .int .i64 0, .int .i64 0, .int .i64 0, .slice none 0 0, .slice p6 (es.length + (startE M now M.length).length) c6]) (results_cell_row Tryz.results78 _ _ w.heap.size _ _ _ _ rfl (six_block HQ6.out _ _ _ _ _ _) Tryz.underlying34 rfl (by kernel_rfl)) rfl ?_
    exact ⟨M, es, by have hh := HRD.out; rw [HJE.out] at hh; simpa using hh, HFI.out⟩
  ·go_wp2
   have yJ : J = ⟨wd, wl, 5, st, now⟩ := HJE.out.trans (by simp [Job.early])
   have y0 : ((W.setCell ⟨w.heap.size + 1, 4, none⟩ (.int .i64 now)).setCell ⟨w.heap.size + 1, 2, none⟩ (.int .i64 5)).heap[w.heap.size + 1]? = some (.cells #[.int .i64 J.width, .int .i64 J.wall, .int .i64 J.phase, .int .i64 J.start, .int .i64 J.stop] 148 (0, 0)) := by rw [yJ]; exact heap_setCell_same _ _ 2 _ _ _ (heap_setCell_same _ _ 4 _ _ _ HM.out)
   have yK : Kept (fun k => k = w.heap.size + 1) W ((W.setCell ⟨w.heap.size + 1, 4, none⟩ (.int .i64 now)).setCell ⟨w.heap.size + 1, 2, none⟩ (.int .i64 5)) := ((Kept.refl (fun k => k = w.heap.size + 1) W).setCell (p := ⟨w.heap.size + 1, 4, none⟩) (Or.inl rfl) _).setCell (p := ⟨w.heap.size + 1, 2, none⟩) (Or.inl rfl) _
   generalize ((W.setCell ⟨w.heap.size + 1, 4, none⟩ (.int .i64 now)).setCell ⟨w.heap.size + 1, 2, none⟩ (.int .i64 5)) = Y at y0 yK ⊢
   clear yJ m0 m1 m2 m3 m4 mf d4 d5
   have HY0 := Lib.hid y0
   have HYK := Lib.hid yK
   have hRY : RefO base bc nodes jobs wall last now (.slice (some ⟨g, 0, none⟩) L.length cap) L Y := HR.out.kept yK (fun k e => ⟨fun e2 => ne1 (e2.symm.trans e), fun e2 => by simp [Value.ownBlock] at e2; omega⟩)
   have a0 := cell_of_row _ _ 0 _ _ (0, 0) y0
   have a1 := cell_of_row _ _ 1 _ _ (0, 0) y0
   have a2 := cell_of_row _ _ 2 _ _ (0, 0) y0
   have a3 := cell_of_row _ _ 3 _ _ (0, 0) y0
   have a4 := cell_of_row _ _ 4 _ _ (0, 0) y0
   have d5 := hRY.cell 5
   have r0 := (hRY.own.cellAt (i * 5 + 0) (by omega)).trans (flat_at _ i _ 0 HJ.out (by omega))
   have r1 := (hRY.own.cellAt (i * 5 + 1) (by omega)).trans (flat_at _ i _ 1 HJ.out (by omega))
   have r2 := (hRY.own.cellAt (i * 5 + 2) (by omega)).trans (flat_at _ i _ 2 HJ.out (by omega))
   have r3 := (hRY.own.cellAt (i * 5 + 3) (by omega)).trans (flat_at _ i _ 3 HJ.out (by omega))
   have r4 := (hRY.own.cellAt (i * 5 + 4) (by omega)).trans (flat_at _ i _ 4 HJ.out (by omega))
   have rf := fun t => hRY.own.frozenAt t
   simp [Job.cells] at a0 a1 a2 a3 a4 d5 r0 r1 r2 r3 r4
   obtain ⟨zR, zK⟩ := hRY.storeJob HJ.out J
   have HZR := Lib.hid zR
   have HZK := Lib.hid zK
   clear y0 yK hRY zR zK
   go_region
   obtain ⟨Z, hZ, HZ⟩ : ∃ Z, Z = (((((Y.setCell ⟨g, i * 5, none⟩ (.int .i64 J.width)).setCell ⟨g, i * 5 + 1, none⟩ (.int .i64 J.wall)).setCell ⟨g, i * 5 + 2, none⟩ (.int .i64 J.phase)).setCell ⟨g, i * 5 + 3, none⟩ (.int .i64 J.start)).setCell ⟨g, i * 5 + 4, none⟩ (.int .i64 J.stop)).drew ∧ Hid (RefO base bc nodes jobs wall last now (.slice (some ⟨g, 0, none⟩) L.length cap) (L.set i J) Z ∧ Kept (fun k => k = g) w Z ∧ w.heap.size < Z.heap.size ∧ Z.heap[w.heap.size]? = some (.cells #[.int .i64 0, .int .i64 0, .int .i64 0, .int .i64 0, .slice none 0 0, .slice none 0 0] 34 (0, 0))) :=
    ⟨_, rfl, Lib.hid ⟨HZR.out.on (fun _ _ => rfl), ends_mid hgl hs1 HB.out HQ.out HYK.out HZK.out.drew⟩⟩
   rw [← hZ]
   clear hZ a0 a1 a2 a3 a4 d5 r0 r1 r2 r3 r4 rf
   go_wp2_with (go_at_call 113; refine (refUp_any base bc nodes jobs wall last now _ (L.set i J) Z HZ.out.1 HCE.out HCF.out n0 n1 HOE.out).mono ?_; rintro e w2 ⟨x, M, es, rfl, hrd, hown2, hR2, hk2⟩; refine Hid.out ?_)
   refine Lib.hid ?_
   obtain ⟨px, cx, rfl⟩ := own_slice hown2
   have HRD := Lib.hid hrd
   have HO2 := Lib.hid hown2
   have HR2 := Lib.hid hR2
   have HK2 := Lib.hid hk2
   clear hrd hown2 hR2 hk2
   go_wp2_with (go_at_call 111; refine (starts_any base bc nodes jobs wall last now _ M w2 HR2.out).mono ?_; rintro e w3 ⟨x2, rfl, hown3, hR3, hk3⟩; refine Hid.out ?_)
   refine Lib.hid ?_
   obtain ⟨HA, HS⟩ := ends_app HZ.out.2.1 HZ.out.2.2.1 HZ.out.2.2.2 HK2.out HO2.out hk3 hgl
   have hes := rounds_offs HRD.out (HCE.out.fine n0)
   have hML := (good_rounds HCE.out n0 HRD.out).2.2
   rw [List.length_set] at hML
   have hMle : M.length ≤ 1000000000 := by rw [hML]; exact hlen
   clear hML
   have hsl := startE_len M now M.length
   have hoe2 := HOE.out
   have HHA := Lib.hid HA
   have HHS := Lib.hid HS
   have hz3 := HS.2
   have q3 := HS.1
   have q0 := cell_of_row _ _ 0 _ _ (0, 0) q3
   have q1 := cell_of_row _ _ 1 _ _ (0, 0) q3
   have q2 := cell_of_row _ _ 2 _ _ (0, 0) q3
   have q3' := cell_of_row _ _ 3 _ _ (0, 0) q3
   have q4 := cell_of_row _ _ 4 _ _ (0, 0) q3
   have q5 := cell_of_row _ _ 5 _ _ (0, 0) q3
   have qf := fun j => frozen_of_row _ _ j _ _ q3
   simp at q0 q1 q2 q3' q4 q5
   clear HA HS q3
   have HR3 := Lib.hid hR3
   have hxb : ∀ k, (Value.slice px es.length cx).ownBlock = some k → w.heap.size < k := fun k e => by have := (HO2.out.lt k e).1; have := HZ.out.2.2.1; omega
   have HXB := Lib.hid hxb
   have hZs := HZ.out.2.2.1
   have hZ3 : Z.heap.size ≤ w3.heap.size := by have := HK2.out.size; have := hk3.size; omega
   clear hR3 hk3 hxb
   rcases own_forms hown3 with ⟨rfl, hn0⟩ | ⟨gy, cy, rfl⟩
   ·have hN0 : startE M now M.length = [] := List.eq_nil_of_length_eq_zero hn0
    have HFI := Lib.hid (ends_fin (x := .slice px es.length cx) (N := []) (by simpa using HHA.out.1) HR3.out HHA.out.2 hgl HHS.out.1 (fun k e => HXB.out k e) hZs)
    clear hown3
    go_wp2_with (at_builtin; refine wpList_append_own_none rfl _ _ 32 rfl Z.heap.size 55 i0 4 Tryz.underlying32 hi _ _ _ rfl HHA.out.1 rfl ?_)
    refine bodyPost_ret (v := .agg #[.int .i64 0, .int .i64 0, .int .i64 0, .int .i64 0, .slice none 0 0, .slice px es.length cx]) (results_cell_row Tryz.results78 _ _ w.heap.size _ _ _ _ rfl (six_block HHS.out.1 _ _ _ _ _ _) Tryz.underlying34 rfl (by kernel_rfl)) rfl ?_
    refine ⟨M, es, by have hh := HRD.out; rw [HJE.out] at hh; simpa using hh, ?_⟩
    rw [hN0]
    exact HFI.out
   ·have hc1 := hown3.1
    have hce := fun u hu => cells_one (startE M now M.length) u hu
    have HO3 := Lib.hid hown3
    clear hown3
    go_wp2_with (at_builtin; refine wpList_append_own _ rfl _ _ 32 rfl Z.heap.size 55 i0 (.agg #[.int .i64 0, .int .i64 0, .int .i64 0, .int .i64 0]) 4 32 Tryz.underlying32 hi hz0 hz1 hz2 rfl (by decide) _ _ _ rfl HHA.out.1 ⟨gy, 0, none⟩ (startE M now M.length).length cy (flatE (startE M now M.length)) rfl hc1 (HO3.out.cells rfl) hce (by unfold maxLen; omega) (by omega) (by omega) ?_)
    intro v6 w6 hown6 hgrow _
    have hK6 : Kept (fun k => (Value.slice px es.length cx).ownBlock = some k) w3 w6 := (Kept.refl _ _).grown hgrow (fun i e => Or.inl e)
    have hR6 : RefO base bc nodes jobs wall last now (.slice (some ⟨g, 0, none⟩) L.length cap) (M.map (Job.go now)) w6 := HR3.out.kept hK6 (fun k e => ⟨fun e2 => by have := HXB.out k e; omega, fun e2 => by simp [Value.ownBlock] at e2; have := HXB.out k e; omega⟩)
    have hq6 := (hK6.block w.heap.size (by omega) (fun e => by have := HXB.out _ e; omega)).trans HHS.out.1
    have hk6 : Kept (fun k => k = g) w w6 := HHA.out.2.trans hK6 (fun k e => Or.inr (Nat.le_of_lt (HXB.out k e)))
    obtain ⟨p6, c6, rfl⟩ := own_slice hown6
    have HFI := Lib.hid (ends_fin (N := startE M now M.length) (by simpa [flatE] using hown6) hR6 hk6 hgl hq6 (fun k e => by have := (hown6.lt k e).1; omega) hZs)
    have HQ6 := Lib.hid hq6
    have q0 := cell_of_row _ _ 0 _ _ (0, 0) hq6
    have q1 := cell_of_row _ _ 1 _ _ (0, 0) hq6
    have q2 := cell_of_row _ _ 2 _ _ (0, 0) hq6
    have q3 := cell_of_row _ _ 3 _ _ (0, 0) hq6
    have q4 := cell_of_row _ _ 4 _ _ (0, 0) hq6
    have q5 := cell_of_row _ _ 5 _ _ (0, 0) hq6
    have qf := fun j => frozen_of_row _ _ j _ _ hq6
    simp at q0 q1 q2 q3 q4 q5
    clear hown6 hgrow hK6 hR6 hq6 hk6
    go_wp2
    refine bodyPost_ret (v := .agg #[.int .i64 0, .int .i64 0, .int .i64 0, .int .i64 0, .slice none 0 0, .slice p6 (es.length + (startE M now M.length).length) c6]) (results_cell_row Tryz.results78 _ _ w.heap.size _ _ _ _ rfl (six_block HQ6.out _ _ _ _ _ _) Tryz.underlying34 rfl (by kernel_rfl)) rfl ?_
    exact ⟨M, es, by have hh := HRD.out; rw [HJE.out] at hh; simpa using hh, HFI.out⟩
 ·have h2 : ph = 2 := HK3.out rfl
  subst h2
  go_wp2
  have yJ : J = ⟨wd, wl, 3, st, now⟩ := HJE.out.trans (by simp [Job.early])
  have y0 : (((W.setCell ⟨w.heap.size + 1, 4, none⟩ (.int .i64 now)).setCell ⟨w.heap.size + 1, 2, none⟩ (.int .i64 5)).setCell ⟨w.heap.size + 1, 2, none⟩ (.int .i64 3)).heap[w.heap.size + 1]? = some (.cells #[.int .i64 J.width, .int .i64 J.wall, .int .i64 J.phase, .int .i64 J.start, .int .i64 J.stop] 148 (0, 0)) := by rw [yJ]; exact heap_setCell_same _ _ 2 _ _ _ (heap_setCell_same _ _ 2 _ _ _ (heap_setCell_same _ _ 4 _ _ _ HM.out))
  have yK : Kept (fun k => k = w.heap.size + 1) W (((W.setCell ⟨w.heap.size + 1, 4, none⟩ (.int .i64 now)).setCell ⟨w.heap.size + 1, 2, none⟩ (.int .i64 5)).setCell ⟨w.heap.size + 1, 2, none⟩ (.int .i64 3)) := (((Kept.refl (fun k => k = w.heap.size + 1) W).setCell (p := ⟨w.heap.size + 1, 4, none⟩) (Or.inl rfl) _).setCell (p := ⟨w.heap.size + 1, 2, none⟩) (Or.inl rfl) _).setCell (p := ⟨w.heap.size + 1, 2, none⟩) (Or.inl rfl) _
  generalize (((W.setCell ⟨w.heap.size + 1, 4, none⟩ (.int .i64 now)).setCell ⟨w.heap.size + 1, 2, none⟩ (.int .i64 5)).setCell ⟨w.heap.size + 1, 2, none⟩ (.int .i64 3)) = Y at y0 yK ⊢
  clear yJ m0 m1 m2 m3 m4 mf d4 d5
  have HY0 := Lib.hid y0
  have HYK := Lib.hid yK
  have hRY : RefO base bc nodes jobs wall last now (.slice (some ⟨g, 0, none⟩) L.length cap) L Y := HR.out.kept yK (fun k e => ⟨fun e2 => ne1 (e2.symm.trans e), fun e2 => by simp [Value.ownBlock] at e2; omega⟩)
  have a0 := cell_of_row _ _ 0 _ _ (0, 0) y0
  have a1 := cell_of_row _ _ 1 _ _ (0, 0) y0
  have a2 := cell_of_row _ _ 2 _ _ (0, 0) y0
  have a3 := cell_of_row _ _ 3 _ _ (0, 0) y0
  have a4 := cell_of_row _ _ 4 _ _ (0, 0) y0
  have d5 := hRY.cell 5
  have r0 := (hRY.own.cellAt (i * 5 + 0) (by omega)).trans (flat_at _ i _ 0 HJ.out (by omega))
  have r1 := (hRY.own.cellAt (i * 5 + 1) (by omega)).trans (flat_at _ i _ 1 HJ.out (by omega))
  have r2 := (hRY.own.cellAt (i * 5 + 2) (by omega)).trans (flat_at _ i _ 2 HJ.out (by omega))
  have r3 := (hRY.own.cellAt (i * 5 + 3) (by omega)).trans (flat_at _ i _ 3 HJ.out (by omega))
  have r4 := (hRY.own.cellAt (i * 5 + 4) (by omega)).trans (flat_at _ i _ 4 HJ.out (by omega))
  have rf := fun t => hRY.own.frozenAt t
  simp [Job.cells] at a0 a1 a2 a3 a4 d5 r0 r1 r2 r3 r4
  obtain ⟨zR, zK⟩ := hRY.storeJob HJ.out J
  have HZR := Lib.hid zR
  have HZK := Lib.hid zK
  clear y0 yK hRY zR zK
  go_region
  obtain ⟨Z, hZ, HZ⟩ : ∃ Z, Z = (((((Y.setCell ⟨g, i * 5, none⟩ (.int .i64 J.width)).setCell ⟨g, i * 5 + 1, none⟩ (.int .i64 J.wall)).setCell ⟨g, i * 5 + 2, none⟩ (.int .i64 J.phase)).setCell ⟨g, i * 5 + 3, none⟩ (.int .i64 J.start)).setCell ⟨g, i * 5 + 4, none⟩ (.int .i64 J.stop)).drew ∧ Hid (RefO base bc nodes jobs wall last now (.slice (some ⟨g, 0, none⟩) L.length cap) (L.set i J) Z ∧ Kept (fun k => k = g) w Z ∧ w.heap.size < Z.heap.size ∧ Z.heap[w.heap.size]? = some (.cells #[.int .i64 0, .int .i64 0, .int .i64 0, .int .i64 0, .slice none 0 0, .slice none 0 0] 34 (0, 0))) :=
   ⟨_, rfl, Lib.hid ⟨HZR.out.on (fun _ _ => rfl), ends_mid hgl hs1 HB.out HQ.out HYK.out HZK.out.drew⟩⟩
  rw [← hZ]
  clear hZ a0 a1 a2 a3 a4 d5 r0 r1 r2 r3 r4 rf
  go_wp2_with (go_at_call 113; refine (refUp_any base bc nodes jobs wall last now _ (L.set i J) Z HZ.out.1 HCE.out HCF.out n0 n1 HOE.out).mono ?_; rintro e w2 ⟨x, M, es, rfl, hrd, hown2, hR2, hk2⟩; refine Hid.out ?_)
  refine Lib.hid ?_
  obtain ⟨px, cx, rfl⟩ := own_slice hown2
  have HRD := Lib.hid hrd
  have HO2 := Lib.hid hown2
  have HR2 := Lib.hid hR2
  have HK2 := Lib.hid hk2
  clear hrd hown2 hR2 hk2
  go_wp2_with (go_at_call 111; refine (starts_any base bc nodes jobs wall last now _ M w2 HR2.out).mono ?_; rintro e w3 ⟨x2, rfl, hown3, hR3, hk3⟩; refine Hid.out ?_)
  refine Lib.hid ?_
  obtain ⟨HA, HS⟩ := ends_app HZ.out.2.1 HZ.out.2.2.1 HZ.out.2.2.2 HK2.out HO2.out hk3 hgl
  have hes := rounds_offs HRD.out (HCE.out.fine n0)
  have hML := (good_rounds HCE.out n0 HRD.out).2.2
  rw [List.length_set] at hML
  have hMle : M.length ≤ 1000000000 := by rw [hML]; exact hlen
  clear hML
  have hsl := startE_len M now M.length
  have hoe2 := HOE.out
  have HHA := Lib.hid HA
  have HHS := Lib.hid HS
  have hz3 := HS.2
  have q3 := HS.1
  have q0 := cell_of_row _ _ 0 _ _ (0, 0) q3
  have q1 := cell_of_row _ _ 1 _ _ (0, 0) q3
  have q2 := cell_of_row _ _ 2 _ _ (0, 0) q3
  have q3' := cell_of_row _ _ 3 _ _ (0, 0) q3
  have q4 := cell_of_row _ _ 4 _ _ (0, 0) q3
  have q5 := cell_of_row _ _ 5 _ _ (0, 0) q3
  have qf := fun j => frozen_of_row _ _ j _ _ q3
  simp at q0 q1 q2 q3' q4 q5
  clear HA HS q3
  have HR3 := Lib.hid hR3
  have hxb : ∀ k, (Value.slice px es.length cx).ownBlock = some k → w.heap.size < k := fun k e => by have := (HO2.out.lt k e).1; have := HZ.out.2.2.1; omega
  have HXB := Lib.hid hxb
  have hZs := HZ.out.2.2.1
  have hZ3 : Z.heap.size ≤ w3.heap.size := by have := HK2.out.size; have := hk3.size; omega
  clear hR3 hk3 hxb
  rcases own_forms hown3 with ⟨rfl, hn0⟩ | ⟨gy, cy, rfl⟩
  ·have hN0 : startE M now M.length = [] := List.eq_nil_of_length_eq_zero hn0
   have HFI := Lib.hid (ends_fin (x := .slice px es.length cx) (N := []) (by simpa using HHA.out.1) HR3.out HHA.out.2 hgl HHS.out.1 (fun k e => HXB.out k e) hZs)
   clear hown3
   go_wp2_with (at_builtin; refine wpList_append_own_none rfl _ _ 32 rfl Z.heap.size 55 i0 4 Tryz.underlying32 hi _ _ _ rfl HHA.out.1 rfl ?_)
   refine bodyPost_ret (v := .agg #[.int .i64 0, .int .i64 0, .int .i64 0, .int .i64 0, .slice none 0 0, .slice px es.length cx]) (results_cell_row Tryz.results78 _ _ w.heap.size _ _ _ _ rfl (six_block HHS.out.1 _ _ _ _ _ _) Tryz.underlying34 rfl (by kernel_rfl)) rfl ?_
   refine ⟨M, es, by have hh := HRD.out; rw [HJE.out] at hh; simpa using hh, ?_⟩
   rw [hN0]
   exact HFI.out
  ·have hc1 := hown3.1
   have hce := fun u hu => cells_one (startE M now M.length) u hu
   have HO3 := Lib.hid hown3
   clear hown3
   go_wp2_with (at_builtin; refine wpList_append_own _ rfl _ _ 32 rfl Z.heap.size 55 i0 (.agg #[.int .i64 0, .int .i64 0, .int .i64 0, .int .i64 0]) 4 32 Tryz.underlying32 hi hz0 hz1 hz2 rfl (by decide) _ _ _ rfl HHA.out.1 ⟨gy, 0, none⟩ (startE M now M.length).length cy (flatE (startE M now M.length)) rfl hc1 (HO3.out.cells rfl) hce (by unfold maxLen; omega) (by omega) (by omega) ?_)
   intro v6 w6 hown6 hgrow _
   have hK6 : Kept (fun k => (Value.slice px es.length cx).ownBlock = some k) w3 w6 := (Kept.refl _ _).grown hgrow (fun i e => Or.inl e)
   have hR6 : RefO base bc nodes jobs wall last now (.slice (some ⟨g, 0, none⟩) L.length cap) (M.map (Job.go now)) w6 := HR3.out.kept hK6 (fun k e => ⟨fun e2 => by have := HXB.out k e; omega, fun e2 => by simp [Value.ownBlock] at e2; have := HXB.out k e; omega⟩)
   have hq6 := (hK6.block w.heap.size (by omega) (fun e => by have := HXB.out _ e; omega)).trans HHS.out.1
   have hk6 : Kept (fun k => k = g) w w6 := HHA.out.2.trans hK6 (fun k e => Or.inr (Nat.le_of_lt (HXB.out k e)))
   obtain ⟨p6, c6, rfl⟩ := own_slice hown6
   have HFI := Lib.hid (ends_fin (N := startE M now M.length) (by simpa [flatE] using hown6) hR6 hk6 hgl hq6 (fun k e => by have := (hown6.lt k e).1; omega) hZs)
   have HQ6 := Lib.hid hq6
   have q0 := cell_of_row _ _ 0 _ _ (0, 0) hq6
   have q1 := cell_of_row _ _ 1 _ _ (0, 0) hq6
   have q2 := cell_of_row _ _ 2 _ _ (0, 0) hq6
   have q3 := cell_of_row _ _ 3 _ _ (0, 0) hq6
   have q4 := cell_of_row _ _ 4 _ _ (0, 0) hq6
   have q5 := cell_of_row _ _ 5 _ _ (0, 0) hq6
   have qf := fun j => frozen_of_row _ _ j _ _ hq6
   simp at q0 q1 q2 q3 q4 q5
   clear hown6 hgrow hK6 hR6 hq6 hk6
   go_wp2
   refine bodyPost_ret (v := .agg #[.int .i64 0, .int .i64 0, .int .i64 0, .int .i64 0, .slice none 0 0, .slice p6 (es.length + (startE M now M.length).length) c6]) (results_cell_row Tryz.results78 _ _ w.heap.size _ _ _ _ rfl (six_block HQ6.out _ _ _ _ _ _) Tryz.underlying34 rfl (by kernel_rfl)) rfl ?_
   exact ⟨M, es, by have hh := HRD.out; rw [HJE.out] at hh; simpa using hh, HFI.out⟩

end Go.Proofs.YtpcgnadfldimhaaGreatDoor
namespace Go.Proofs.YtpcgnadfldimhaaGreatDoor
open Go.RowKit

/-- ends: all that it answers. -/
theorem ends_any (base bc : Nat) (nodes jobs wall last now : Int) (v : Value) (L : List Job) (w : World) (h : RefO base bc nodes jobs wall last now v L w) (hG : Good nodes jobs wall last now L) (kind id : Int) (hkd : kind = 2 ∨ kind = 3) :
  Calls Tryz.prog 78 #[.pointer (some ⟨bc, 0, none⟩), .int .i64 kind, .int .i64 id] w fun e w' => ∃ o, EndO nodes now L kind id o ∧ Left base bc nodes jobs wall last v o w e w' := by
 by_cases hid : id < 1 ∨ (L.length : Int) < id
 ·exact (ends_5 base bc nodes jobs wall last now v L w h kind id hid).mono fun e w' hh => ⟨_, Or.inl ⟨hid, rfl⟩, hh⟩
 ·obtain ⟨i, rfl⟩ : ∃ i : Nat, id = (i : Int) + 1 := ⟨(id - 1).toNat, by omega⟩
  obtain ⟨j, hj⟩ : ∃ j, L[i]? = some j := ⟨_, List.getElem?_eq_getElem (by omega)⟩
  by_cases hr : j.live = false ∨ (kind = 3 ∧ j.phase ≠ 2)
  ·exact (ends_6 base bc nodes jobs wall last now v L w h kind i j hj hr).mono fun e w' hh => ⟨_, Or.inr ⟨i, j, rfl, hj, Or.inl ⟨hr, rfl⟩⟩, hh⟩
  ·have hl : j.live = true := by
    cases e : j.live with
    | true => rfl
    | false => exact absurd (Or.inl e) hr
   have h3 : kind = 3 → j.phase = 2 := fun e => by
    by_cases e2 : j.phase = 2
    ·exact e2
    ·exact absurd (Or.inr ⟨e, e2⟩) hr
   exact (ends_yes base bc nodes jobs wall last now v L w h hG kind hkd i j hj hl h3).mono fun e w' ⟨M, es, hd, hh⟩ => ⟨_, Or.inr ⟨i, j, rfl, hj, Or.inr ⟨hl, h3, M, es, hd, rfl⟩⟩, hh⟩

set_option maxHeartbeats 4000000 in
set_option maxRecDepth 100000 in
theorem do_end2 (base bc : Nat) (nodes jobs wall last now : Int) (v : Value) (L : List Job) (w : World) (h : RefO base bc nodes jobs wall last now v L w) (hG : Good nodes jobs wall last now L) (x y : Int) (hr : rendOk 2 x y = true) :
  Calls Tryz.prog 44 #[.pointer (some ⟨bc, 0, none⟩), .agg #[.int .i64 2, .int .i64 x, .int .i64 y]] w fun e w' => ∃ o, EndO nodes now L 2 x o ∧ Left base bc nodes jobs wall last v o w e w' := by
 have hlt0 := h.lt
 have hvb : ∀ k, v.ownBlock = some k → k < w.heap.size := fun k e => (h.own.lt k e).2
 have hs := rendOk_some hr
 obtain ⟨s, HS⟩ : ∃ s, Hid (rend 2 x y = s) := ⟨_, Lib.hid rfl⟩
 rw [HS.out] at hs
 clear hr
 go_enter Tryz.func44, Tryz.ntmps44
 go_wp2_with (go_at_call 42; refine (refR_any _ 2 x y).mono ?_; rintro e w1 ⟨rfl, hb1⟩; rw [HS.out]; refine Hid.out ?_)
 refine Lib.hid ?_
 have hz1 := hb1.size
 simp at hz1
 have hx1 : w1.heap[w.heap.size]? = some (.cells #[.int .i64 2, .int .i64 x, .int .i64 y] 29 (0, 0)) := (hb1.block _ (by simp; omega)).trans ((Below.heap_alloc _ _ _ (by simp)).trans (heap_alloc_new _ _))
 have hq1 : w1.heap[w.heap.size + 1]? = some (.cells #[.int .i64 0, .int .i64 0, .int .i64 0, .int .i64 0, .slice none 0 0, .slice none 0 0] 34 (0, 0)) := (hb1.block _ (by simp)).trans (alloc_at _ _ _ (by simp))
 have hk1 : Kept (fun _ => False) w w1 := (((Kept.refl _ w).alloc _).alloc _).trans (T := fun _ => False) (Kept.of_below hb1) (fun _ e => e.elim)
 have hR1 := h.kept hk1 (fun _ e => e.elim)
 have x0 := cell_of_row _ _ 0 _ _ (0, 0) hx1
 have x1 := cell_of_row _ _ 1 _ _ (0, 0) hx1
 have x2 := cell_of_row _ _ 2 _ _ (0, 0) hx1
 have q0 := cell_of_row _ _ 0 _ _ (0, 0) hq1
 have q1 := cell_of_row _ _ 1 _ _ (0, 0) hq1
 have q2 := cell_of_row _ _ 2 _ _ (0, 0) hq1
 have q3 := cell_of_row _ _ 3 _ _ (0, 0) hq1
 have q4 := cell_of_row _ _ 4 _ _ (0, 0) hq1
 have q5 := cell_of_row _ _ 5 _ _ (0, 0) hq1
 have qf := fun j => frozen_of_row _ _ j _ _ hq1
 simp at x0 x1 x2 q0 q1 q2 q3 q4 q5
 clear hb1
 have hC := ends_any base bc nodes jobs wall last now v L w1 hR1 hG 2 x (by omega)
 have HC := Lib.hid hC
 clear hC
 go_wp2_with (go_at_call 78; refine (HC.out).mono ?_; rintro e w2 ⟨o, hO, y, z, v', rfl, hy, hx, hR, hk, hv'⟩; refine Hid.out ?_)
 refine Lib.hid ?_
 obtain ⟨py, cy, rfl⟩ := own_slice hy
 obtain ⟨pz, cz, rfl⟩ := own_slice hx
 have hq2 := left_block hlt0 hvb hk (by omega) (by omega) hq1
 have r0 := cell_of_row _ _ 0 _ _ (0, 0) hq2
 have r1 := cell_of_row _ _ 1 _ _ (0, 0) hq2
 have r2 := cell_of_row _ _ 2 _ _ (0, 0) hq2
 have r3 := cell_of_row _ _ 3 _ _ (0, 0) hq2
 have r4 := cell_of_row _ _ 4 _ _ (0, 0) hq2
 have r5 := cell_of_row _ _ 5 _ _ (0, 0) hq2
 have rf := fun j => frozen_of_row _ _ j _ _ hq2
 simp at r0 r1 r2 r3 r4 r5
 go_wp2
 exact bodyPost_ret (v := .agg #[.int .i64 o.err, .int .i64 o.a, .int .i64 o.b, .int .i64 o.c, .slice py o.rows.length cy, .slice pz o.evs.length cz]) (results_cell_row Tryz.results44 _ _ (w.heap.size + 1) _ _ _ _ rfl (six_block hq2 _ _ _ _ _ _) Tryz.underlying34 rfl (by kernel_rfl)) rfl ⟨o, hO, left_wrap hk1 hlt0 hvb hy hx hR hk hv' _ (by omega) (by omega) _ _ _ _ _ _⟩

set_option maxHeartbeats 4000000 in
set_option maxRecDepth 100000 in
theorem do_end3 (base bc : Nat) (nodes jobs wall last now : Int) (v : Value) (L : List Job) (w : World) (h : RefO base bc nodes jobs wall last now v L w) (hG : Good nodes jobs wall last now L) (x y : Int) (hr : rendOk 3 x y = true) :
  Calls Tryz.prog 44 #[.pointer (some ⟨bc, 0, none⟩), .agg #[.int .i64 3, .int .i64 x, .int .i64 y]] w fun e w' => ∃ o, EndO nodes now L 3 x o ∧ Left base bc nodes jobs wall last v o w e w' := by
 have hlt0 := h.lt
 have hvb : ∀ k, v.ownBlock = some k → k < w.heap.size := fun k e => (h.own.lt k e).2
 have hs := rendOk_some hr
 obtain ⟨s, HS⟩ : ∃ s, Hid (rend 3 x y = s) := ⟨_, Lib.hid rfl⟩
 rw [HS.out] at hs
 clear hr
 go_enter Tryz.func44, Tryz.ntmps44
 go_wp2_with (go_at_call 42; refine (refR_any _ 3 x y).mono ?_; rintro e w1 ⟨rfl, hb1⟩; rw [HS.out]; refine Hid.out ?_)
 refine Lib.hid ?_
 have hz1 := hb1.size
 simp at hz1
 have hx1 : w1.heap[w.heap.size]? = some (.cells #[.int .i64 3, .int .i64 x, .int .i64 y] 29 (0, 0)) := (hb1.block _ (by simp; omega)).trans ((Below.heap_alloc _ _ _ (by simp)).trans (heap_alloc_new _ _))
 have hq1 : w1.heap[w.heap.size + 1]? = some (.cells #[.int .i64 0, .int .i64 0, .int .i64 0, .int .i64 0, .slice none 0 0, .slice none 0 0] 34 (0, 0)) := (hb1.block _ (by simp)).trans (alloc_at _ _ _ (by simp))
 have hk1 : Kept (fun _ => False) w w1 := (((Kept.refl _ w).alloc _).alloc _).trans (T := fun _ => False) (Kept.of_below hb1) (fun _ e => e.elim)
 have hR1 := h.kept hk1 (fun _ e => e.elim)
 have x0 := cell_of_row _ _ 0 _ _ (0, 0) hx1
 have x1 := cell_of_row _ _ 1 _ _ (0, 0) hx1
 have x2 := cell_of_row _ _ 2 _ _ (0, 0) hx1
 have q0 := cell_of_row _ _ 0 _ _ (0, 0) hq1
 have q1 := cell_of_row _ _ 1 _ _ (0, 0) hq1
 have q2 := cell_of_row _ _ 2 _ _ (0, 0) hq1
 have q3 := cell_of_row _ _ 3 _ _ (0, 0) hq1
 have q4 := cell_of_row _ _ 4 _ _ (0, 0) hq1
 have q5 := cell_of_row _ _ 5 _ _ (0, 0) hq1
 have qf := fun j => frozen_of_row _ _ j _ _ hq1
 simp at x0 x1 x2 q0 q1 q2 q3 q4 q5
 clear hb1
 have hC := ends_any base bc nodes jobs wall last now v L w1 hR1 hG 3 x (by omega)
 have HC := Lib.hid hC
 clear hC
 go_wp2_with (go_at_call 78; refine (HC.out).mono ?_; rintro e w2 ⟨o, hO, y, z, v', rfl, hy, hx, hR, hk, hv'⟩; refine Hid.out ?_)
 refine Lib.hid ?_
 obtain ⟨py, cy, rfl⟩ := own_slice hy
 obtain ⟨pz, cz, rfl⟩ := own_slice hx
 have hq2 := left_block hlt0 hvb hk (by omega) (by omega) hq1
 have r0 := cell_of_row _ _ 0 _ _ (0, 0) hq2
 have r1 := cell_of_row _ _ 1 _ _ (0, 0) hq2
 have r2 := cell_of_row _ _ 2 _ _ (0, 0) hq2
 have r3 := cell_of_row _ _ 3 _ _ (0, 0) hq2
 have r4 := cell_of_row _ _ 4 _ _ (0, 0) hq2
 have r5 := cell_of_row _ _ 5 _ _ (0, 0) hq2
 have rf := fun j => frozen_of_row _ _ j _ _ hq2
 simp at r0 r1 r2 r3 r4 r5
 go_wp2
 exact bodyPost_ret (v := .agg #[.int .i64 o.err, .int .i64 o.a, .int .i64 o.b, .int .i64 o.c, .slice py o.rows.length cy, .slice pz o.evs.length cz]) (results_cell_row Tryz.results44 _ _ (w.heap.size + 1) _ _ _ _ rfl (six_block hq2 _ _ _ _ _ _) Tryz.underlying34 rfl (by kernel_rfl)) rfl ⟨o, hO, left_wrap hk1 hlt0 hvb hy hx hR hk hv' _ (by omega) (by omega) _ _ _ _ _ _⟩

end Go.Proofs.YtpcgnadfldimhaaGreatDoor
namespace Go.Proofs.YtpcgnadfldimhaaGreatDoor
open Go.RowKit

theorem do_refE (base bc : Nat) (nodes jobs wall last now : Int) (v : Value) (L : List Job) (w : World) (h : RefO base bc nodes jobs wall last now v L w) (hG : Good nodes jobs wall last now L) (hl : L.length < 1000000000) (hbase : base ≤ w.heap.size) (k x y : Int) :
  Calls Tryz.prog 44 #[.pointer (some ⟨bc, 0, none⟩), .agg #[.int .i64 k, .int .i64 x, .int .i64 y]] w fun e w' => ∃ o, DoE nodes jobs wall last now L k x y o ∧ Left base bc nodes jobs wall last v o w e w' := by
 have hcf := hG.conf
 unfold ConfOk at hcf
 have hn0 := hG.now0
 have hn1 := hG.now1
 have hm0 : 0 ≤ jobs * wall := Int.mul_nonneg (by omega) (by omega)
 by_cases hk : k = 2 ∨ k = 3
 ·cases hr : rendOk k x y with
  | false => exact (do_bad base bc nodes jobs wall last now v L w h hG.widths hG.times (by omega) (by omega) (by omega) hn0 (by omega) hl hbase k x y hr).mono fun e w' hh => ⟨_, Or.inl (Or.inl ⟨hr, rfl⟩), hh⟩
  | true =>
   rcases hk with rfl | rfl
   ·exact (do_end2 base bc nodes jobs wall last now v L w h hG x y hr).mono fun e w' ⟨o, ho, hh⟩ => ⟨o, Or.inr ⟨hr, Or.inl rfl, ho⟩, hh⟩
   ·exact (do_end3 base bc nodes jobs wall last now v L w h hG x y hr).mono fun e w' ⟨o, ho, hh⟩ => ⟨o, Or.inr ⟨hr, Or.inr rfl, ho⟩, hh⟩
 ·exact (do_ref base bc nodes jobs wall last now v L w h hG.widths hG.times (by omega) (by omega) (by omega) hn0 (by omega) hl hbase k x y (by omega) (by omega)).mono fun e w' ⟨o, ho, hh⟩ => ⟨o, Or.inl ho, hh⟩

end Go.Proofs.YtpcgnadfldimhaaGreatDoor
