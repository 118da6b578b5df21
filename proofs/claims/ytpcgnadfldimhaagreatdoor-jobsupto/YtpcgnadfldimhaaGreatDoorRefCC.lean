/-
  The document's answer: Tick.
-/
import Derived.Test.YtpcgnadfldimhaaGreatDoorRefBB
import Derived.Test.YtpcgnadfldimhaaGreatDoorSchA
import Derived.Laws.AppendOwnNone
import Derived.Test.YtpcgnadfldimhaaGreatDoorRefR
namespace Go.Proofs.YtpcgnadfldimhaaGreatDoor
open Go.RowKit

theorem RefO.setNow {base bc : Nat} {nodes jobs wall last now : Int} {v : Value} {L : List Job} {w : World} (h : RefO base bc nodes jobs wall last now v L w) (t : Int) : RefO base bc nodes jobs wall last t v L (w.setCell ⟨bc, 4, none⟩ (.int .i64 t)) :=
  ⟨heap_setCell_same w bc 4 _ _ _ h.blk, ownsRow_setCell_other h.own h.apart _, h.apart, h.low, h.len⟩

/-- How many elements the slice at a has. -/
def lenAt (w : World) (a : Addr) : Nat := match w.cell? a with
  | some (.slice _ n _) => n
  | _ => 0

set_option maxHeartbeats 4000000 in
set_option maxRecDepth 100000 in
theorem tick_no (base bc : Nat) (nodes jobs wall last now : Int) (v : Value) (L : List Job) (w : World) (h : RefO base bc nodes jobs wall last now v L w) (n : Int) (hn : 0 ≤ n) (hn' : n ≤ 999999999999999999) (ht : 0 ≤ now) (ht' : now ≤ 5000000000000000000) (hA : last < now + n) :
    Calls Tryz.prog 79 #[.pointer (some ⟨bc, 0, none⟩), .int .i64 n] w (Left base bc nodes jobs wall last v ⟨7, 0, 0, 0, [], [], now, L⟩ w) := by
  have c3 := h.cell 3
  have c4 := h.cell 4
  simp at c3 c4
  have hlt0 := h.lt
  go_enter Tryz.func79, Tryz.ntmps79
  go_wp2
  exact bodyPost_ret (v := .agg #[.int .i64 7, .int .i64 0, .int .i64 0, .int .i64 0, .slice none 0 0, .slice none 0 0]) (results_cell_row Tryz.results79 _ _ w.heap.size _ _ _ _ rfl (heap_alloc_new w _) Tryz.underlying34 rfl (by kernel_rfl)) rfl (left_refused h ((Kept.refl _ w).alloc _) 7 0 0 0)

theorem cells_one (l : List Ev) (u : Value) (h : u ∈ flatE l) : u.oneCell' = true := by
  simp only [flatE, List.mem_flatMap, Ev.cells, List.mem_cons, List.not_mem_nil, or_false] at h
  obtain ⟨e, _, rfl | rfl | rfl | rfl⟩ := h <;> rfl

/-- How memory stands while time goes on. -/
structure TW (base bc : Nat) (nodes jobs wall last nw : Int) (v : Value) (w : World) (M : List Job) (es : List Ev) (x : Value) (wr : World) : Prop where
  ref : RefO base bc nodes jobs wall last nw v M wr
  own : wr.ownsRow (w.heap.size + 2) 55 4 x es.length (flatE es)
  r : wr.heap[w.heap.size + 1]? = some (.cells #[.int .i64 0, .int .i64 0, .int .i64 0, .int .i64 0, .slice none 0 0, x] 34 (0, 0))
  q : wr.heap[w.heap.size]? = some (.cells #[.int .i64 0, .int .i64 0, .int .i64 0, .int .i64 0, .slice none 0 0, .slice none 0 0] 34 (0, 0))
  kept : Kept (fun k => k = bc ∨ v.ownBlock = some k) w wr
  lt : w.heap.size + 2 ≤ wr.heap.size

theorem TW.drewN {base bc : Nat} {nodes jobs wall last nw : Int} {v : Value} {w : World} {M : List Job} {es : List Ev} {x : Value} {wr : World} (h : TW base bc nodes jobs wall last nw v w M es x wr) (n : Nat) : TW base bc nodes jobs wall last nw v w M es x (wr.drewN n) :=
  ⟨h.ref.on (fun _ _ => rfl), h.own, h.r, h.q, h.kept.drewN n, h.lt⟩

theorem TW.setNow {base bc : Nat} {nodes jobs wall last nw : Int} {v : Value} {w : World} {M : List Job} {es : List Ev} {x : Value} {wr : World} (h : TW base bc nodes jobs wall last nw v w M es x wr) (hb : bc < w.heap.size) (t : Int) : TW base bc nodes jobs wall last t v w M es x (wr.setCell ⟨bc, 4, none⟩ (.int .i64 t)) :=
  ⟨h.ref.setNow t, ownsRow_setCell_other h.own (fun e => by have := (h.own.lt _ e).1; simp at this; omega) _, (Below.heap_setCell _ _ _ _ (by simp; omega)).trans h.r, (Below.heap_setCell _ _ _ _ (by simp; omega)).trans h.q, h.kept.setCell (p := ⟨bc, 4, none⟩) (Or.inl (Or.inl rfl)) _, by simpa using h.lt⟩

theorem TW.alloc {base bc : Nat} {nodes jobs wall last nw : Int} {v : Value} {w : World} {M : List Job} {es : List Ev} {x : Value} {wr : World} (h : TW base bc nodes jobs wall last nw v w M es x wr) (o : Obj) : TW base bc nodes jobs wall last nw v w M es x (wr.alloc o) :=
  ⟨h.ref.kept (S := fun _ => False) ((Kept.refl _ _).alloc o) (fun _ e => e.elim), h.own.alloc o, (Below.heap_alloc _ _ _ (by have := h.lt; omega)).trans h.r, (Below.heap_alloc _ _ _ (by have := h.lt; omega)).trans h.q, h.kept.alloc o, by have := h.lt; simp; omega⟩

/-- Only the row of the jobs has changed. -/
theorem TW.jobs {base bc : Nat} {nodes jobs wall last nw : Int} {v : Value} {w : World} {M : List Job} {es : List Ev} {x : Value} {wr : World} (h : TW base bc nodes jobs wall last nw v w M es x wr) {M' : List Job} {w' : World} (hv : ∀ k, v.ownBlock = some k → k < w.heap.size) (hk : Kept (fun k => v.ownBlock = some k) wr w') (hr : RefO base bc nodes jobs wall last nw v M' w') : TW base bc nodes jobs wall last nw v w M' es x w' := by
  have hlt := h.lt
  refine ⟨hr, owns_on h.own (fun k e => hk.block k (h.own.lt k e).2 (fun e2 => ?_)), (hk.block _ (by omega) (fun e2 => ?_)).trans h.r, (hk.block _ (by omega) (fun e2 => ?_)).trans h.q, h.kept.trans hk (fun i e => Or.inl (Or.inr e)), Nat.le_trans hlt hk.size⟩
  · have := hv _ e2
    have := (h.own.lt k e).1
    omega
  · have := hv _ e2
    omega
  · have := hv _ e2
    omega

/-- Events more. -/
theorem TW.push {base bc : Nat} {nodes jobs wall last nw : Int} {v : Value} {w : World} {M : List Job} {es : List Ev} {x : Value} {wr : World} (h : TW base bc nodes jobs wall last nw v w M es x wr) (hb : bc < w.heap.size) (hv : ∀ k, v.ownBlock = some k → k < w.heap.size) {ns : List Ev} {x' : Value} {w' : World} (hg : wr.grownBy w' x.ownBlock) (ho : w'.ownsRow (w.heap.size + 2) 55 4 x' (es.length + ns.length) (flatE es ++ flatE ns)) :
    TW base bc nodes jobs wall last nw v w M (es ++ ns) x' (w'.setCell ⟨w.heap.size + 1, 5, none⟩ x') := by
  have hlt := h.lt
  have hsz := hg.size
  have hx : ∀ k, x.ownBlock = some k → w.heap.size + 2 ≤ k := fun k e => (h.own.lt k e).1
  have hk1 : Kept (fun k => x.ownBlock = some k) wr w' := (Kept.refl _ _).grown hg (fun i e => Or.inl e)
  have hr1 := h.ref.kept hk1 (fun k e => ⟨fun e2 => by have := hx k e; omega, fun e2 => by have := hx k e; have := hv k e2; omega⟩)
  have hk2 : Kept (fun k => k = w.heap.size + 1) w' (w'.setCell ⟨w.heap.size + 1, 5, none⟩ x') := (Kept.refl (fun k => k = w.heap.size + 1) w').setCell (p := ⟨w.heap.size + 1, 5, none⟩) (Or.inl rfl) x'
  refine ⟨hr1.kept hk2 (fun k e => ⟨by omega, fun e2 => by have := hv k e2; omega⟩), ?_, heap_setCell_same w' _ 5 _ _ x' ((hk1.block _ (by omega) (fun e => by have := hx _ e; omega)).trans h.r), (hk2.block _ (by omega) (by omega)).trans ((hk1.block _ (by omega) (fun e => by have := hx _ e; omega)).trans h.q), (h.kept.grown hg (fun i e => Or.inr (by have := hx i e; omega))).setCell (p := ⟨w.heap.size + 1, 5, none⟩) (Or.inr (by simp)) x', by simp; omega⟩
  have e : flatE (es ++ ns) = flatE es ++ flatE ns := by simp [flatE]
  rw [e, List.length_append]
  exact ownsRow_setCell_other ho (fun e => absurd (ho.lt _ e).1 (by simp)) x'

set_option maxHeartbeats 8000000 in
set_option maxRecDepth 100000 in
theorem tick_yes (base bc : Nat) (nodes jobs wall last now : Int) (v : Value) (L : List Job) (w : World) (h : RefO base bc nodes jobs wall last now v L w) (n : Int) (hn : 0 ≤ n) (hn' : n ≤ 999999999999999999) (ht : 0 ≤ now) (ht' : now ≤ 5000000000000000000) (hA : now + n ≤ last) :
    Calls Tryz.prog 79 #[.pointer (some ⟨bc, 0, none⟩), .int .i64 n] w fun e w' => ∃ M es, Goes (now + n) L M es ∧ nextN M (now + n) M.length < 0 ∧ Left base bc nodes jobs wall last v ⟨0, 0, 0, 0, [], es, now + n, M⟩ w e w' := by
  obtain ⟨i0, hi, hz0, hz1, hz2⟩ := info_parts Tryz.infoEv
  have c3 := h.cell 3
  have c4 := h.cell 4
  simp at c3 c4
  have hlt0 := h.lt
  have hlen := h.len
  go_enter Tryz.func79, Tryz.ntmps79
  have hz : TW base bc nodes jobs wall last now v w L [] (.slice none 0 0) ((w.alloc (.cells #[.int .i64 0, .int .i64 0, .int .i64 0, .int .i64 0, .slice none 0 0, .slice none 0 0] 34)).alloc (.cells #[.int .i64 0, .int .i64 0, .int .i64 0, .int .i64 0, .slice none 0 0, .slice none 0 0] 34)) := by
    have hk : Kept (fun _ => False) w ((w.alloc (.cells #[.int .i64 0, .int .i64 0, .int .i64 0, .int .i64 0, .slice none 0 0, .slice none 0 0] 34)).alloc (.cells #[.int .i64 0, .int .i64 0, .int .i64 0, .int .i64 0, .slice none 0 0, .slice none 0 0] 34)) := ((Kept.refl _ _).alloc _).alloc _
    exact ⟨h.kept hk (fun _ e => e.elim), World.ownsRow_nil _ _ _ _, alloc_at _ _ _ (by simp), (Below.heap_alloc _ _ _ (by simp)).trans (heap_alloc_new _ _), hk.mono (fun _ e => e.elim), by simp⟩
  obtain ⟨p, cap, rfl, hC⟩ := hz.ref.toC
  have hvb : ∀ k, (Value.slice p L.length cap).ownBlock = some k → k < w.heap.size := fun k e => (h.own.lt k e).2
  have HVB := Lib.hid hvb
  clear hvb
  have HZ := Lib.hid hz
  clear hz
  go_wp2_with (go_at_call 114; refine (next_any bc nodes jobs wall last now p cap L _ hC (now + n)).mono ?_; rintro e w' ⟨rfl, rfl⟩)
  go_loopw [7] (fun tv wr => ∃ M es x nw, tv = .int .i64 (nextN M (now + n) M.length) ∧ Goes (now + n) L M es ∧ TW base bc nodes jobs wall last nw (.slice p L.length cap) w M es x wr) (fun _ wr => 2 * L.length - lenAt wr ⟨w.heap.size + 1, 5, none⟩)
  case atStart => exact ⟨L, [], _, now, rfl, .none, HZ.out⟩
  case round =>
    obtain ⟨WR, hWR⟩ : ∃ W, W = wr := ⟨_, rfl⟩
    obtain ⟨M, es, x, nw, rfl, hG, hTW⟩ := hrel
    rw [← hWR] at hTW ⊢
    clear hWR
    have HG := Lib.hid hG
    clear hG HZ hC
    obtain ⟨t, HT⟩ : ∃ t, Hid (nextN M (now + n) M.length = t) := ⟨_, Lib.hid rfl⟩
    rw [HT.out]
    have hlm := (goes_todo HG.out).2
    by_cases ht0 : 0 ≤ t
    · have g4 := hTW.ref.cell 4
      have gf4 := hTW.ref.frozen 4
      simp at g4
      obtain ⟨px0, cx0, rfl⟩ := own_slice hTW.own
      have HLen : Hid (lenAt WR ⟨w.heap.size + 1, 5, none⟩ = es.length) := Lib.hid (by
        have e := cell_of_row _ _ 5 _ _ (0, 0) hTW.r
        simp at e
        simp [lenAt, e])
      have hT1 := hTW.setNow hlt0 t
      have HT1 := Lib.hid hT1
      clear hT1 hTW
      go_wp2_with fail
      go_loopw [8] (fun iv w2 => ∃ k x2, iv = .int .i64 ((k : Nat) : Int) ∧ k ≤ M.length ∧ TW base bc nodes jobs wall last t (.slice p L.length cap) w (haltL M t k) (es ++ haltE M t k) x2 w2) (fun iv _ => M.length - (intOf iv).toNat)
      case atStart => exact ⟨0, _, rfl, Nat.zero_le _, by rw [haltL_zero]; simpa [haltE] using HT1.out⟩
      case round =>
        obtain ⟨k, x2, rfl, hk, hW⟩ := hrel
        obtain ⟨E, HE⟩ : ∃ E, Hid (es ++ haltE M t k = E) := ⟨_, Lib.hid rfl⟩
        rw [HE.out] at hW
        have hEl : E.length ≤ todo L + M.length := by
          have h1 := (goes_todo HG.out).1
          have h2 := haltE_len M t k
          rw [← HE.out, List.length_append]
          omega
        obtain ⟨px, cx, rfl⟩ := own_slice hW.own
        have hll : (haltL M t k).length = L.length := (haltL_len M t k).trans hlm
        have d5 := hW.ref.cell 5
        simp at d5
        by_cases hlt : k < M.length
        · obtain ⟨j, hj⟩ : ∃ j, M[k]? = some j := ⟨_, List.getElem?_eq_getElem hlt⟩
          have hj' : (haltL M t k)[k]? = some j := (haltL_at M t k).trans hj
          obtain ⟨g, rfl⟩ : ∃ g, p = some ⟨g, 0, none⟩ := by
            rcases own_forms hW.ref.own with ⟨_, hn⟩ | ⟨g, c2, e⟩
            · rw [hll] at hn
              omega
            · exact ⟨g, by simpa using (Value.slice.inj e).1⟩
          have hr' : RefO base bc nodes jobs wall last t (.slice (some ⟨g, 0, none⟩) (haltL M t k).length cap) (haltL M t k) wr := by rw [hll]; exact hW.ref
          have HS := Lib.hid (haltE_step M t k j hj)
          have HL := Lib.hid (haltL_step M t k j hj)
          have r2 := (hr'.own.cellAt (k * 5 + 2) (by omega)).trans (flat_at _ k j 2 hj' (by omega))
          have r4 := (hr'.own.cellAt (k * 5 + 4) (by omega)).trans (flat_at _ k j 4 hj' (by omega))
          have f2 := hr'.own.frozenAt (k * 5 + 2)
          obtain ⟨wd, wl, ph, st, en⟩ := j
          simp [Job.cells] at r2 r4
          have HR' := Lib.hid hr'
          have HW := Lib.hid hW
          clear hr' hW
          by_cases hg : ph = 2 ∧ en = t
          · obtain ⟨rfl, rfl⟩ := hg
            have HS2 : Hid (haltE M en (k + 1) = haltE M en k ++ [⟨2, (k : Int) + 1, en, 0⟩]) := Lib.hid (by rw [haltE_step M en k _ hj, if_pos ⟨rfl, rfl⟩])
            have hgo : Job.halt en ⟨wd, wl, 2, st, en⟩ = ⟨wd, wl, 4, st, en⟩ := by simp [Job.halt]
            have hst := HR'.out.store k ⟨wd, wl, 2, st, en⟩ ⟨wd, wl, 4, st, en⟩ 2 (.int .i64 4) hj' (by omega) rfl
            rw [hll] at hst
            have hW1 := HW.out.jobs HVB.out ((Kept.refl (fun k => (Value.slice (some ⟨g, 0, none⟩) L.length cap).ownBlock = some k) wr).setCell (p := ⟨g, k * 5 + 2, none⟩) (Or.inl rfl) (.int .i64 4)) hst
            rw [← hgo, ← HL.out] at hW1
            have m5 := cell_of_row _ _ 5 _ _ (0, 0) hW1.r
            simp at m5
            have hw2 := hW1.lt
            simp at hw2
            have hel2 := todo_le L
            have HW1 := Lib.hid hW1
            clear hst hW1
            go_wp2_with (at_builtin; refine wpList_append_lies _ rfl _ _ 32 rfl (w.heap.size + 2) 55 i0 (.agg #[.int .i64 0, .int .i64 0, .int .i64 0, .int .i64 0]) 4 32 Tryz.underlying32 hi hz0 hz1 hz2 rfl (by decide) _ _ _ rfl (HW1.out.own.alloc _) ⟨wr.heap.size, 0, none⟩ 1 1 [.int .i64 2, .int .i64 ((k : Int) + 1), .int .i64 en, .int .i64 0] rfl rfl (news_at _ #[.int .i64 2, .int .i64 ((k : Int) + 1), .int .i64 en, .int .i64 0] _ _ (by simp)) (by intro u' hu'; simp at hu'; rcases hu' with rfl | rfl | rfl | rfl <;> rfl) (by decide) (by unfold maxLen; omega) (by omega) (by simp; omega) _ rfl ?_)
            intro g2 c3' w4 hown4 hgrow hat hlt4
            have hW2 := (HW1.out.alloc (.cells #[.int .i64 2, .int .i64 ((k : Int) + 1), .int .i64 en, .int .i64 0] 55)).push (ns := [⟨2, (k : Int) + 1, en, 0⟩]) hlt0 HVB.out hgrow (by simpa [flatE, Ev.cells] using hown4)
            have k5 : w4.heap[w.heap.size + 1]? = _ := (hgrow.block _ (by simp; omega) (fun e => by have := (HW1.out.own.lt _ e.symm).1; omega)).trans (HW1.out.alloc _).r
            have n5 := cell_of_row _ _ 5 _ _ (0, 0) k5
            have nf := frozen_of_row _ _ 5 _ _ k5
            simp at n5
            have HW2 := Lib.hid hW2
            clear hW2 hown4 hgrow k5
            go_wp2
            all_goals exact ⟨⟨k + 1, _, by go_num, by omega, by rw [HS2.out, ← List.append_assoc, HE.out]; exact HW2.out⟩, by simp [intOf]; omega⟩
          · have hW3 : Hid (TW base bc nodes jobs wall last t (.slice (some ⟨g, 0, none⟩) L.length cap) w (haltL M t (k + 1)) (es ++ haltE M t (k + 1)) (.slice px E.length cx) wr) := Lib.hid (by
              have e1 : Job.halt t ⟨wd, wl, ph, st, en⟩ = ⟨wd, wl, ph, st, en⟩ := by simp only [Job.halt]; rw [if_neg hg]
              have e2 : (haltL M t k).set k ⟨wd, wl, ph, st, en⟩ = haltL M t k := by
                have := (List.getElem?_eq_some_iff.1 hj').2
                rw [← this]
                exact List.set_getElem_self _
              rw [HL.out, HS.out, if_neg hg, e1, e2, HE.out]
              exact HW.out)
            by_cases h1 : ph = 2
            · subst h1
              have h2 : ¬ en = t := fun e => hg ⟨rfl, e⟩
              go_wp2
              exact ⟨⟨k + 1, _, by go_num, by omega, hW3.out⟩, by simp [intOf]; omega⟩
            · go_wp2
              exact ⟨⟨k + 1, _, by go_num, by omega, hW3.out⟩, by simp [intOf]; omega⟩
        · obtain rfl : k = M.length := by omega
          have hW' := hW
          rw [haltL_all] at hW'
          have HW := Lib.hid hW'
          clear hW hW'
          go_wp2_with (go_at_call 111; refine (starts_any base bc nodes jobs wall last t _ (M.map (Job.halt t)) _ HW.out.ref).mono ?_; rintro e w5 ⟨y, rfl, hown5, hR5, hk5⟩; refine Hid.out ?_)
          refine Lib.hid ?_
          have hW5 := HW.out.jobs HVB.out hk5 hR5
          obtain ⟨N, HN⟩ : ∃ N, Hid (startE (M.map (Job.halt t)) t (M.map (Job.halt t)).length = N) := ⟨_, Lib.hid rfl⟩
          rw [HN.out] at hown5
          have hNl : N.length ≤ M.length := by
            have := startE_len (M.map (Job.halt t)) t (M.map (Job.halt t)).length
            rw [HN.out] at this
            simpa using this
          have HM : Hid (es ++ momE M t = E ++ N) := Lib.hid (by
            rw [← HE.out, ← HN.out, momE, List.append_assoc, List.length_map])
          have hel2 := todo_le L
          have m5 := cell_of_row _ _ 5 _ _ (0, 0) hW5.r
          have mf := frozen_of_row _ _ 5 _ _ hW5.r
          simp at m5
          have hw5 := hW5.lt
          have HW5 := Lib.hid hW5
          clear hW5 hR5 hk5
          have fin : ∀ (W : World) (X : Value), TW base bc nodes jobs wall last t (.slice p L.length cap) w (momL M t) (E ++ N) X W → Calls Tryz.prog 114 #[.pointer (some ⟨bc, 0, none⟩), .int .i64 (now + n)] W fun e w' => e = .returned (.int .i64 (nextN (momL M t) (now + n) (momL M t).length)) ∧ w' = W := fun W X hX => by
            obtain ⟨p2, cap2, _, hC2⟩ := hX.ref.toC
            exact next_any bc nodes jobs wall last t p2 cap2 _ W hC2 (now + n)
          have FIN := Lib.hid fin
          clear fin
          have HGm : Hid (Goes (now + n) L (momL M t) (E ++ N)) := Lib.hid (by
            rw [← HM.out]
            have := Goes.more HG.out (by rw [HT.out]; exact ht0)
            rw [HT.out] at this
            exact this)
          have LEN : Hid (∀ (W : World) (X : Value), TW base bc nodes jobs wall last t (.slice p L.length cap) w (momL M t) (E ++ N) X W → 2 * L.length - lenAt W ⟨w.heap.size + 1, 5, none⟩ < 2 * L.length - lenAt WR ⟨w.heap.size + 1, 5, none⟩) := Lib.hid (fun W X hX => by
            obtain ⟨p3, c3, rfl⟩ := own_slice hX.own
            have e := cell_of_row _ _ 5 _ _ (0, 0) hX.r
            simp at e
            have e2 : lenAt W ⟨w.heap.size + 1, 5, none⟩ = (E ++ N).length := by simp [lenAt, e]
            have e3 := (goes_todo HGm.out).1
            have e4 : 1 ≤ (momE M t).length := by
              obtain ⟨j, hj, hd⟩ := next_due M (now + n) M.length (by rw [HT.out]; exact ht0)
              rw [HT.out] at hd
              exact mom_some M t ⟨j, hj, by omega, hd⟩
            have e5 : (E ++ N).length = es.length + (momE M t).length := by rw [← HM.out, List.length_append]
            rw [e2, HLen.out]
            omega)
          rcases own_forms hown5 with ⟨rfl, hn0⟩ | ⟨gy, cy, rfl⟩
          · have hN0 : N = [] := List.eq_nil_of_length_eq_zero hn0
            have hP := HW5.out.push (ns := N) hlt0 HVB.out (⟨rfl, rfl, rfl, Nat.le_refl _, fun _ _ _ => rfl⟩ : w5.grownBy w5 _) (by rw [hN0]; simpa [flatE] using HW5.out.own)
            have HP := Lib.hid hP
            clear hP
            go_wp2_with (first | (at_builtin; refine wpList_append_own_none rfl _ _ 32 rfl (w.heap.size + 2) 55 i0 4 Tryz.underlying32 hi _ _ _ rfl HW5.out.own rfl ?_) | (go_at_call 114; refine (FIN.out _ _ HP.out).mono ?_; rintro e w' ⟨rfl, rfl⟩))
            all_goals exact ⟨⟨momL M t, E ++ N, _, t, rfl, HGm.out, HP.out⟩, LEN.out _ _ HP.out⟩
          · have hc1 := hown5.1
            have hce := fun u hu => cells_one N u hu
            have hsz5 : wr.heap.size ≤ w5.heap.size := by have := (hown5.lt gy rfl); omega
            have HO5 := Lib.hid hown5
            clear hown5
            go_wp2_with (at_builtin; refine wpList_append_own _ rfl _ _ 32 rfl (w.heap.size + 2) 55 i0 (.agg #[.int .i64 0, .int .i64 0, .int .i64 0, .int .i64 0]) 4 32 Tryz.underlying32 hi hz0 hz1 hz2 rfl (by decide) _ _ _ rfl HW5.out.own ⟨gy, 0, none⟩ N.length cy (flatE N) rfl hc1 (HO5.out.cells rfl) hce (by unfold maxLen; omega) (by omega) (by omega) ?_)
            intro v6 w6 hown6 hgrow _
            have hP := HW5.out.push (ns := N) hlt0 HVB.out hgrow hown6
            obtain ⟨p6, c6, rfl⟩ := own_slice hown6
            have k5 : w6.heap[w.heap.size + 1]? = _ := (hgrow.block _ (by omega) (fun e => by have := (HW5.out.own.lt _ e.symm).1; omega)).trans HW5.out.r
            have n5 := cell_of_row _ _ 5 _ _ (0, 0) k5
            have nf := frozen_of_row _ _ 5 _ _ k5
            simp at n5
            have HP := Lib.hid hP
            clear hP hown6 hgrow k5
            go_wp2_with fail
            refine (FIN.out _ _ HP.out).mono ?_
            rintro e w' ⟨rfl, rfl⟩
            go_wp2
            all_goals exact ⟨⟨momL M t, E ++ N, _, t, rfl, HGm.out, HP.out⟩, LEN.out _ _ HP.out⟩
    · obtain ⟨px0, cx0, rfl⟩ := own_slice hTW.own
      have hN := hTW.setNow hlt0 (now + n)
      have g4 := hTW.ref.cell 4
      have gf4 := hTW.ref.frozen 4
      simp at g4
      have m0 := cell_of_row _ _ 0 _ _ (0, 0) hN.r
      have m1 := cell_of_row _ _ 1 _ _ (0, 0) hN.r
      have m2 := cell_of_row _ _ 2 _ _ (0, 0) hN.r
      have m3 := cell_of_row _ _ 3 _ _ (0, 0) hN.r
      have m4 := cell_of_row _ _ 4 _ _ (0, 0) hN.r
      have m5 := cell_of_row _ _ 5 _ _ (0, 0) hN.r
      have mf := fun j => frozen_of_row _ _ j _ _ hN.r
      have n0 := cell_of_row _ _ 0 _ _ (0, 0) hN.q
      have n1 := cell_of_row _ _ 1 _ _ (0, 0) hN.q
      have n2 := cell_of_row _ _ 2 _ _ (0, 0) hN.q
      have n3 := cell_of_row _ _ 3 _ _ (0, 0) hN.q
      have n4 := cell_of_row _ _ 4 _ _ (0, 0) hN.q
      have n5 := cell_of_row _ _ 5 _ _ (0, 0) hN.q
      have nf := fun j => frozen_of_row _ _ j _ _ hN.q
      simp at m0 m1 m2 m3 m4 m5 n0 n1 n2 n3 n4 n5
      have HN := Lib.hid hN
      clear hN hTW
      generalize hWN : WR.setCell ⟨bc, 4, none⟩ (.int .i64 (now + n)) = WN at *
      go_wp2
      have hk9 := (Kept.refl (fun k => k = w.heap.size) WN).six (g := w.heap.size) (Or.inl rfl) (.int .i64 0) (.int .i64 0) (.int .i64 0) (.int .i64 0) (.slice none 0 0) (.slice px0 es.length cx0)
      have hlt9 := HN.out.lt
      refine bodyPost_ret (v := .agg #[.int .i64 0, .int .i64 0, .int .i64 0, .int .i64 0, .slice none 0 0, .slice px0 es.length cx0]) (results_cell_row Tryz.results79 _ _ w.heap.size _ _ _ _ rfl (six_block HN.out.q _ _ _ _ _ _) Tryz.underlying34 rfl (by kernel_rfl)) rfl ?_
      refine ⟨M, es, HG.out, by rw [HT.out]; omega, .slice none 0 0, .slice px0 es.length cx0, .slice p L.length cap, rfl, World.ownsRow_nil _ _ _ _, ?_, ?_, HN.out.kept.six (Or.inr (Nat.le_refl _)) _ _ _ _ _ _, fun k e => Or.inl e⟩
      · exact owns_on (owns_mono HN.out.own (by omega)) (fun k e => hk9.block k (HN.out.own.lt k e).2 (by have := (HN.out.own.lt k e).1; omega))
      · exact HN.out.ref.kept hk9 (fun k e => ⟨by omega, fun e2 => by have := HVB.out k e2; omega⟩)

theorem tick_ref (base bc : Nat) (nodes jobs wall last now : Int) (v : Value) (L : List Job) (w : World) (h : RefO base bc nodes jobs wall last now v L w) (n : Int) (hn : 0 ≤ n) (hn' : n ≤ 999999999999999999) (ht : 0 ≤ now) (ht' : now ≤ 5000000000000000000) :
    Calls Tryz.prog 79 #[.pointer (some ⟨bc, 0, none⟩), .int .i64 n] w fun e w' => ∃ o, TickO last now L n o ∧ Left base bc nodes jobs wall last v o w e w' := by
  by_cases hA : last < now + n
  · exact (tick_no base bc nodes jobs wall last now v L w h n hn hn' ht ht' hA).mono fun e w' hl => ⟨_, Or.inl ⟨hA, rfl⟩, hl⟩
  · exact (tick_yes base bc nodes jobs wall last now v L w h n hn hn' ht ht' (by omega)).mono fun e w' ⟨M, es, h1, h2, h3⟩ => ⟨_, Or.inr ⟨by omega, M, es, h1, h2, rfl⟩, h3⟩

end Go.Proofs.YtpcgnadfldimhaaGreatDoor
namespace Go.Proofs.YtpcgnadfldimhaaGreatDoor
open Go.RowKit

theorem rendOk_some {k x y : Int} (h : rendOk k x y = true) : ((rend k x y).toList == []) = false := by
  have h' := h
  simp only [rendOk, Bool.and_eq_true, decide_eq_true_eq] at h'
  obtain ⟨⟨⟨h1, h7⟩, _⟩, _⟩ := h'
  have hw := word_ne k.toNat (by omega) (by omega)
  unfold rend
  rw [if_pos h]
  rw [beq_eq_false_iff_ne] at hw ⊢
  intro e
  apply hw
  have e2 : (rendL k.toNat x y) = [] := by simpa [ByteArray.toList_eq] using e
  simp [rendL] at e2
  simpa [ByteArray.toList_eq] using e2.1
theorem rendOk_none {k x y : Int} (h : rendOk k x y = false) : ((rend k x y).toList == []) = true := by
  unfold rend
  rw [if_neg (by rw [h]; decide)]
  simp [ByteArray.toList_eq]

/-- What a call leaves that was made by another, which hands its answer on. -/
theorem left_wrap {base bc : Nat} {nodes jobs wall last : Int} {v y x v' : Value} {o : Out} {w w1 w2 : World} (hk1 : Kept (fun _ => False) w w1) (hb : bc < w.heap.size) (hv : ∀ k, v.ownBlock = some k → k < w.heap.size)
    (hy : w2.ownsRow w1.heap.size 57 4 y o.rows.length (flatR o.rows)) (hx : w2.ownsRow w1.heap.size 55 4 x o.evs.length (flatE o.evs)) (hR : RefO base bc nodes jobs wall last o.now v' o.L w2) (hk : Kept (fun k => k = bc ∨ v.ownBlock = some k) w1 w2) (hv' : ∀ k, v'.ownBlock = some k → v.ownBlock = some k ∨ w1.heap.size ≤ k)
    (g : Nat) (hg : w.heap.size ≤ g) (hg' : g < w1.heap.size) (a0 a1 a2 a3 a4 a5 : Value) :
    Left base bc nodes jobs wall last v o w (.returned (.agg #[.int .i64 o.err, .int .i64 o.a, .int .i64 o.b, .int .i64 o.c, y, x])) (six w2 g a0 a1 a2 a3 a4 a5) := by
  have hs1 := hk1.size
  have hs2 := hk.size
  have h9 := (Kept.refl (fun k => k = g) w2).six (g := g) (Or.inl rfl) a0 a1 a2 a3 a4 a5
  refine ⟨y, x, v', rfl, ?_, ?_, ?_, ?_, fun k e => (hv' k e).imp id (fun e => by omega)⟩
  · exact owns_on (owns_mono hy hs1) (fun k e => h9.block k (hy.lt k e).2 (by have := (hy.lt k e).1; omega))
  · exact owns_on (owns_mono hx hs1) (fun k e => h9.block k (hx.lt k e).2 (by have := (hx.lt k e).1; omega))
  · exact hR.kept h9 (fun k e => ⟨by omega, fun e2 => by
      rcases hv' k e2 with e3 | e3
      · have := hv k e3
        omega
      · omega⟩)
  · exact ((hk1.mono (fun _ e => e.elim)).trans hk (fun i e => Or.inl e)).six (Or.inr hg) a0 a1 a2 a3 a4 a5

theorem left_block {bc : Nat} {v : Value} {w w1 w2 : World} {g : Nat} {c : Obj} (hb : bc < w.heap.size) (hv : ∀ k, v.ownBlock = some k → k < w.heap.size) (hk : Kept (fun k => k = bc ∨ v.ownBlock = some k) w1 w2) (hg : w.heap.size ≤ g) (hg' : g < w1.heap.size) (h : w1.heap[g]? = some c) : w2.heap[g]? = some c :=
  (hk.block g hg' (fun e => e.elim (by omega) (fun e2 => by have := hv g e2; omega))).trans h

set_option maxHeartbeats 4000000 in
set_option maxRecDepth 100000 in
theorem do_bad (base bc : Nat) (nodes jobs wall last now : Int) (v : Value) (L : List Job) (w : World) (h : RefO base bc nodes jobs wall last now v L w) (_hw : Widths L) (_hT : Times L) (_hn : 1 ≤ nodes) (_hn' : nodes ≤ 64) (_hwa : wall ≤ 1000000000) (_ht : 0 ≤ now) (_ht' : now ≤ 5000000000000000000) (_hl : L.length < 1000000000) (_hbase : base ≤ w.heap.size) (k x y : Int) (hr : rendOk k x y = false) :
    Calls Tryz.prog 44 #[.pointer (some ⟨bc, 0, none⟩), .agg #[.int .i64 k, .int .i64 x, .int .i64 y]] w (Left base bc nodes jobs wall last v ⟨1, 0, 0, 0, [], [], now, L⟩ w) := by
  have hlt0 := h.lt
  have hvb : ∀ k, v.ownBlock = some k → k < w.heap.size := fun k e => (h.own.lt k e).2
  have hs := rendOk_none hr
  obtain ⟨s, HS⟩ : ∃ s, Hid (rend k x y = s) := ⟨_, Lib.hid rfl⟩
  rw [HS.out] at hs
  clear hr
  go_enter Tryz.func44, Tryz.ntmps44
  go_wp2_with (go_at_call 42; refine (refR_any _ k x y).mono ?_; rintro e w1 ⟨rfl, hb1⟩; rw [HS.out]; refine Hid.out ?_)
  refine Lib.hid ?_
  have hz1 := hb1.size
  simp at hz1
  have hx1 : w1.heap[w.heap.size]? = some (.cells #[.int .i64 k, .int .i64 x, .int .i64 y] 29 (0, 0)) := (hb1.block _ (by simp; omega)).trans ((Below.heap_alloc _ _ _ (by simp)).trans (heap_alloc_new _ _))
  have hq1 : w1.heap[w.heap.size + 1]? = some (.cells #[.int .i64 0, .int .i64 0, .int .i64 0, .int .i64 0, .slice none 0 0, .slice none 0 0] 34 (0, 0)) := (hb1.block _ (by simp)).trans (alloc_at _ _ _ (by simp))
  have hk1 : Kept (fun _ => False) w w1 := (((Kept.refl _ w).alloc _).alloc _).trans (T := fun _ => False) (Kept.of_below hb1) (fun _ e => e.elim)
  have hR1 := h.kept hk1 (fun _ e => e.elim)
  have x0 := cell_of_row _ _ 0 _ _ (0, 0) hx1
  have x1 := cell_of_row _ _ 1 _ _ (0, 0) hx1
  have x2 := cell_of_row _ _ 2 _ _ (0, 0) hx1
  have q0 := cell_of_row _ _ 0 _ _ (0, 0) hq1
  have q1 := cell_of_row _ _ 1 _ _ (0, 0) hq1
  have q2 := cell_of_row _ _ 2 _ _ (0, 0) hq1
  have q3 := cell_of_row _ _ 3 _ _ (0, 0) hq1
  have q4 := cell_of_row _ _ 4 _ _ (0, 0) hq1
  have q5 := cell_of_row _ _ 5 _ _ (0, 0) hq1
  have qf := fun j => frozen_of_row _ _ j _ _ hq1
  simp at x0 x1 x2 q0 q1 q2 q3 q4 q5
  clear hb1
  go_wp2
  exact bodyPost_ret (v := .agg #[.int .i64 1, .int .i64 0, .int .i64 0, .int .i64 0, .slice none 0 0, .slice none 0 0]) (results_cell_row Tryz.results44 _ _ (w.heap.size + 1) _ _ _ _ rfl (six_block hq1 _ _ _ _ _ _) Tryz.underlying34 rfl (by kernel_rfl)) rfl (left_refused h (hk1.six (Or.inr (by omega)) _ _ _ _ _ _) 1 0 0 0)

set_option maxHeartbeats 4000000 in
set_option maxRecDepth 100000 in
theorem do_submit (base bc : Nat) (nodes jobs wall last now : Int) (v : Value) (L : List Job) (w : World) (h : RefO base bc nodes jobs wall last now v L w) (hw : Widths L) (hT : Times L) (hn : 1 ≤ nodes) (hn' : nodes ≤ 64) (hwa : wall ≤ 1000000000) (ht : 0 ≤ now) (ht' : now ≤ 5000000000000000000) (hl : L.length < 1000000000) (hbase : base ≤ w.heap.size) (x y : Int) (hr : rendOk 1 x y = true) (o : Out) (HO : Hid (submitO nodes jobs wall now L x y = o)) :
    Calls Tryz.prog 44 #[.pointer (some ⟨bc, 0, none⟩), .agg #[.int .i64 1, .int .i64 x, .int .i64 y]] w (Left base bc nodes jobs wall last v o w) := by
  have hlt0 := h.lt
  have hvb : ∀ k, v.ownBlock = some k → k < w.heap.size := fun k e => (h.own.lt k e).2
  have hs := rendOk_some hr
  obtain ⟨s, HS⟩ : ∃ s, Hid (rend 1 x y = s) := ⟨_, Lib.hid rfl⟩
  rw [HS.out] at hs
  clear hr
  go_enter Tryz.func44, Tryz.ntmps44
  go_wp2_with (go_at_call 42; refine (refR_any _ 1 x y).mono ?_; rintro e w1 ⟨rfl, hb1⟩; rw [HS.out]; refine Hid.out ?_)
  refine Lib.hid ?_
  have hz1 := hb1.size
  simp at hz1
  have hx1 : w1.heap[w.heap.size]? = some (.cells #[.int .i64 1, .int .i64 x, .int .i64 y] 29 (0, 0)) := (hb1.block _ (by simp; omega)).trans ((Below.heap_alloc _ _ _ (by simp)).trans (heap_alloc_new _ _))
  have hq1 : w1.heap[w.heap.size + 1]? = some (.cells #[.int .i64 0, .int .i64 0, .int .i64 0, .int .i64 0, .slice none 0 0, .slice none 0 0] 34 (0, 0)) := (hb1.block _ (by simp)).trans (alloc_at _ _ _ (by simp))
  have hk1 : Kept (fun _ => False) w w1 := (((Kept.refl _ w).alloc _).alloc _).trans (T := fun _ => False) (Kept.of_below hb1) (fun _ e => e.elim)
  have hR1 := h.kept hk1 (fun _ e => e.elim)
  have x0 := cell_of_row _ _ 0 _ _ (0, 0) hx1
  have x1 := cell_of_row _ _ 1 _ _ (0, 0) hx1
  have x2 := cell_of_row _ _ 2 _ _ (0, 0) hx1
  have q0 := cell_of_row _ _ 0 _ _ (0, 0) hq1
  have q1 := cell_of_row _ _ 1 _ _ (0, 0) hq1
  have q2 := cell_of_row _ _ 2 _ _ (0, 0) hq1
  have q3 := cell_of_row _ _ 3 _ _ (0, 0) hq1
  have q4 := cell_of_row _ _ 4 _ _ (0, 0) hq1
  have q5 := cell_of_row _ _ 5 _ _ (0, 0) hq1
  have qf := fun j => frozen_of_row _ _ j _ _ hq1
  simp at x0 x1 x2 q0 q1 q2 q3 q4 q5
  clear hb1
  have hC := submit_ref base bc nodes jobs wall last now v L w1 hR1 hw hT x y hn hn' hwa ht ht' hl (by omega)
  rw [HO.out] at hC
  have HC := Lib.hid hC
  clear hC
  go_wp2_with (go_at_call 77; refine (HC.out).mono ?_; rintro e w2 ⟨y, z, v', rfl, hy, hx, hR, hk, hv'⟩; refine Hid.out ?_)
  refine Lib.hid ?_
  obtain ⟨py, cy, rfl⟩ := own_slice hy
  obtain ⟨pz, cz, rfl⟩ := own_slice hx
  have hq2 := left_block hlt0 hvb hk (by omega) (by omega) hq1
  have r0 := cell_of_row _ _ 0 _ _ (0, 0) hq2
  have r1 := cell_of_row _ _ 1 _ _ (0, 0) hq2
  have r2 := cell_of_row _ _ 2 _ _ (0, 0) hq2
  have r3 := cell_of_row _ _ 3 _ _ (0, 0) hq2
  have r4 := cell_of_row _ _ 4 _ _ (0, 0) hq2
  have r5 := cell_of_row _ _ 5 _ _ (0, 0) hq2
  have rf := fun j => frozen_of_row _ _ j _ _ hq2
  simp at r0 r1 r2 r3 r4 r5
  go_wp2
  exact bodyPost_ret (v := .agg #[.int .i64 o.err, .int .i64 o.a, .int .i64 o.b, .int .i64 o.c, .slice py o.rows.length cy, .slice pz o.evs.length cz]) (results_cell_row Tryz.results44 _ _ (w.heap.size + 1) _ _ _ _ rfl (six_block hq2 _ _ _ _ _ _) Tryz.underlying34 rfl (by kernel_rfl)) rfl (left_wrap hk1 hlt0 hvb hy hx hR hk hv' _ (by omega) (by omega) _ _ _ _ _ _)

set_option maxHeartbeats 4000000 in
set_option maxRecDepth 100000 in
theorem do_tick (base bc : Nat) (nodes jobs wall last now : Int) (v : Value) (L : List Job) (w : World) (h : RefO base bc nodes jobs wall last now v L w) (_hw : Widths L) (_hT : Times L) (_hn : 1 ≤ nodes) (_hn' : nodes ≤ 64) (_hwa : wall ≤ 1000000000) (ht : 0 ≤ now) (ht' : now ≤ 5000000000000000000) (_hl : L.length < 1000000000) (_hbase : base ≤ w.heap.size) (x y : Int) (hx0 : 0 ≤ x) (hx9 : x ≤ 999999999999999999) (hr : rendOk 4 x y = true) :
    Calls Tryz.prog 44 #[.pointer (some ⟨bc, 0, none⟩), .agg #[.int .i64 4, .int .i64 x, .int .i64 y]] w fun e w' => ∃ o, TickO last now L x o ∧ Left base bc nodes jobs wall last v o w e w' := by
  have hlt0 := h.lt
  have hvb : ∀ k, v.ownBlock = some k → k < w.heap.size := fun k e => (h.own.lt k e).2
  have hs := rendOk_some hr
  obtain ⟨s, HS⟩ : ∃ s, Hid (rend 4 x y = s) := ⟨_, Lib.hid rfl⟩
  rw [HS.out] at hs
  clear hr
  go_enter Tryz.func44, Tryz.ntmps44
  go_wp2_with (go_at_call 42; refine (refR_any _ 4 x y).mono ?_; rintro e w1 ⟨rfl, hb1⟩; rw [HS.out]; refine Hid.out ?_)
  refine Lib.hid ?_
  have hz1 := hb1.size
  simp at hz1
  have hx1 : w1.heap[w.heap.size]? = some (.cells #[.int .i64 4, .int .i64 x, .int .i64 y] 29 (0, 0)) := (hb1.block _ (by simp; omega)).trans ((Below.heap_alloc _ _ _ (by simp)).trans (heap_alloc_new _ _))
  have hq1 : w1.heap[w.heap.size + 1]? = some (.cells #[.int .i64 0, .int .i64 0, .int .i64 0, .int .i64 0, .slice none 0 0, .slice none 0 0] 34 (0, 0)) := (hb1.block _ (by simp)).trans (alloc_at _ _ _ (by simp))
  have hk1 : Kept (fun _ => False) w w1 := (((Kept.refl _ w).alloc _).alloc _).trans (T := fun _ => False) (Kept.of_below hb1) (fun _ e => e.elim)
  have hR1 := h.kept hk1 (fun _ e => e.elim)
  have x0 := cell_of_row _ _ 0 _ _ (0, 0) hx1
  have x1 := cell_of_row _ _ 1 _ _ (0, 0) hx1
  have x2 := cell_of_row _ _ 2 _ _ (0, 0) hx1
  have q0 := cell_of_row _ _ 0 _ _ (0, 0) hq1
  have q1 := cell_of_row _ _ 1 _ _ (0, 0) hq1
  have q2 := cell_of_row _ _ 2 _ _ (0, 0) hq1
  have q3 := cell_of_row _ _ 3 _ _ (0, 0) hq1
  have q4 := cell_of_row _ _ 4 _ _ (0, 0) hq1
  have q5 := cell_of_row _ _ 5 _ _ (0, 0) hq1
  have qf := fun j => frozen_of_row _ _ j _ _ hq1
  simp at x0 x1 x2 q0 q1 q2 q3 q4 q5
  clear hb1
  go_wp2_with (go_at_call 79; refine (tick_ref base bc nodes jobs wall last now v L w1 hR1 x hx0 hx9 ht ht').mono ?_; rintro e w2 ⟨o, hO, y, z, v', rfl, hy, hx, hR, hk, hv'⟩; refine Hid.out ?_)
  refine Lib.hid ?_
  obtain ⟨py, cy, rfl⟩ := own_slice hy
  obtain ⟨pz, cz, rfl⟩ := own_slice hx
  have hq2 := left_block hlt0 hvb hk (by omega) (by omega) hq1
  have r0 := cell_of_row _ _ 0 _ _ (0, 0) hq2
  have r1 := cell_of_row _ _ 1 _ _ (0, 0) hq2
  have r2 := cell_of_row _ _ 2 _ _ (0, 0) hq2
  have r3 := cell_of_row _ _ 3 _ _ (0, 0) hq2
  have r4 := cell_of_row _ _ 4 _ _ (0, 0) hq2
  have r5 := cell_of_row _ _ 5 _ _ (0, 0) hq2
  have rf := fun j => frozen_of_row _ _ j _ _ hq2
  simp at r0 r1 r2 r3 r4 r5
  go_wp2
  exact bodyPost_ret (v := .agg #[.int .i64 o.err, .int .i64 o.a, .int .i64 o.b, .int .i64 o.c, .slice py o.rows.length cy, .slice pz o.evs.length cz]) (results_cell_row Tryz.results44 _ _ (w.heap.size + 1) _ _ _ _ rfl (six_block hq2 _ _ _ _ _ _) Tryz.underlying34 rfl (by kernel_rfl)) rfl ⟨o, hO, left_wrap hk1 hlt0 hvb hy hx hR hk hv' _ (by omega) (by omega) _ _ _ _ _ _⟩

set_option maxHeartbeats 4000000 in
set_option maxRecDepth 100000 in
theorem do_info (base bc : Nat) (nodes jobs wall last now : Int) (v : Value) (L : List Job) (w : World) (h : RefO base bc nodes jobs wall last now v L w) (hw : Widths L) (_hT : Times L) (hn : 1 ≤ nodes) (hn' : nodes ≤ 64) (_hwa : wall ≤ 1000000000) (_ht : 0 ≤ now) (_ht' : now ≤ 5000000000000000000) (_hl : L.length < 1000000000) (_hbase : base ≤ w.heap.size) (x y : Int) (hr : rendOk 7 x y = true) :
    Calls Tryz.prog 44 #[.pointer (some ⟨bc, 0, none⟩), .agg #[.int .i64 7, .int .i64 x, .int .i64 y]] w (Left base bc nodes jobs wall last v ⟨0, now, freeN L nodes L.length, liveN L L.length, [], [], now, L⟩ w) := by
  obtain ⟨nl, HL⟩ : ∃ n, Hid (liveN L L.length = n) := ⟨_, Lib.hid rfl⟩
  obtain ⟨nf, HF⟩ : ∃ n, Hid (freeN L nodes L.length = n) := ⟨_, Lib.hid rfl⟩
  rw [HL.out, HF.out]
  have hlt0 := h.lt
  have hvb : ∀ k, v.ownBlock = some k → k < w.heap.size := fun k e => (h.own.lt k e).2
  have hs := rendOk_some hr
  obtain ⟨s, HS⟩ : ∃ s, Hid (rend 7 x y = s) := ⟨_, Lib.hid rfl⟩
  rw [HS.out] at hs
  clear hr
  go_enter Tryz.func44, Tryz.ntmps44
  go_wp2_with (go_at_call 42; refine (refR_any _ 7 x y).mono ?_; rintro e w1 ⟨rfl, hb1⟩; rw [HS.out]; refine Hid.out ?_)
  refine Lib.hid ?_
  have hz1 := hb1.size
  simp at hz1
  have hx1 : w1.heap[w.heap.size]? = some (.cells #[.int .i64 7, .int .i64 x, .int .i64 y] 29 (0, 0)) := (hb1.block _ (by simp; omega)).trans ((Below.heap_alloc _ _ _ (by simp)).trans (heap_alloc_new _ _))
  have hq1 : w1.heap[w.heap.size + 1]? = some (.cells #[.int .i64 0, .int .i64 0, .int .i64 0, .int .i64 0, .slice none 0 0, .slice none 0 0] 34 (0, 0)) := (hb1.block _ (by simp)).trans (alloc_at _ _ _ (by simp))
  have hk1 : Kept (fun _ => False) w w1 := (((Kept.refl _ w).alloc _).alloc _).trans (T := fun _ => False) (Kept.of_below hb1) (fun _ e => e.elim)
  have hR1 := h.kept hk1 (fun _ e => e.elim)
  have x0 := cell_of_row _ _ 0 _ _ (0, 0) hx1
  have x1 := cell_of_row _ _ 1 _ _ (0, 0) hx1
  have x2 := cell_of_row _ _ 2 _ _ (0, 0) hx1
  have q0 := cell_of_row _ _ 0 _ _ (0, 0) hq1
  have q1 := cell_of_row _ _ 1 _ _ (0, 0) hq1
  have q2 := cell_of_row _ _ 2 _ _ (0, 0) hq1
  have q3 := cell_of_row _ _ 3 _ _ (0, 0) hq1
  have q4 := cell_of_row _ _ 4 _ _ (0, 0) hq1
  have q5 := cell_of_row _ _ 5 _ _ (0, 0) hq1
  have qf := fun j => frozen_of_row _ _ j _ _ hq1
  simp at x0 x1 x2 q0 q1 q2 q3 q4 q5
  clear hb1
  obtain ⟨p, cap, rfl, hC⟩ := hR1.toC
  go_wp2_with (go_at_call 80; refine (count_any bc nodes jobs wall last now p cap L _ hC hw (by omega) hn').mono ?_; rintro e w2 ⟨rfl, hb2⟩; rw [HL.out, HF.out]; refine Hid.out ?_)
  refine Lib.hid ?_
  have hk2 : Kept (fun k => k = bc ∨ (Value.slice p L.length cap).ownBlock = some k) w1 w2 := Kept.of_below hb2
  have hR2 := hR1.kept (S := fun _ => False) (Kept.of_below hb2) (fun _ e => e.elim)
  have hq2 := left_block hlt0 hvb hk2 (by omega) (by omega) hq1
  have r0 := cell_of_row _ _ 0 _ _ (0, 0) hq2
  have r1 := cell_of_row _ _ 1 _ _ (0, 0) hq2
  have r2 := cell_of_row _ _ 2 _ _ (0, 0) hq2
  have r3 := cell_of_row _ _ 3 _ _ (0, 0) hq2
  have r4 := cell_of_row _ _ 4 _ _ (0, 0) hq2
  have r5 := cell_of_row _ _ 5 _ _ (0, 0) hq2
  have rf := fun j => frozen_of_row _ _ j _ _ hq2
  have s4 := hR2.cell 4
  simp at r0 r1 r2 r3 r4 r5 s4
  go_wp2
  exact bodyPost_ret (v := .agg #[.int .i64 0, .int .i64 now, .int .i64 nf, .int .i64 nl, .slice none 0 0, .slice none 0 0]) (results_cell_row Tryz.results44 _ _ (w.heap.size + 1) _ _ _ _ rfl (six_block hq2 _ _ _ _ _ _) Tryz.underlying34 rfl (by kernel_rfl)) rfl (left_wrap (o := ⟨0, now, nf, nl, [], [], now, L⟩) hk1 hlt0 hvb (World.ownsRow_nil _ _ _ _) (World.ownsRow_nil _ _ _ _) hR2 hk2 (fun k e => Or.inl e) _ (by omega) (by omega) _ _ _ _ _ _)

end Go.Proofs.YtpcgnadfldimhaaGreatDoor
