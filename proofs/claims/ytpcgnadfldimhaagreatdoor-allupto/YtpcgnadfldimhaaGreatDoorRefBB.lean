/-
 The document's answer: Submit.
-/
import Derived.Test.YtpcgnadfldimhaaGreatDoorRefAA
import Derived.Deep.AppendLies
import Derived.Test.YtpcgnadfldimhaaGreatDoorSchA
import Derived.Laws.AppendOwnNone
import Derived.Test.YtpcgnadfldimhaaGreatDoorRefR
namespace Go.Proofs.YtpcgnadfldimhaaGreatDoor
open Go.RowKit

theorem Tryz.infoJob : (Tryz.prog.info? 148).map (fun i => (i.zero, i.size, i.bytes)) = some (some (.agg #[.int .i64 0, .int .i64 0, .int .i64 0, .int .i64 0, .int .i64 0]), 5, 40) := by kernel_rfl

def RowV.cells (r : RowV) : List Value := [.int .i64 r.id, .int .i64 r.promise, .int .i64 r.width, .int .i64 r.wall]
def flatR (l : List RowV) : List Value := l.flatMap RowV.cells

theorem earliest_le (L : List Job) (nodes now width wl but : Int) (hT : Times L) (h0 : 0 ≤ now) (h1 : now ≤ 5000000000000000000) : -1 ≤ earliest L nodes now width wl but ∧ earliest L nodes now width wl but ≤ 5000000000000000000 := by
 have hb : ∀ k, -1 ≤ bestN L nodes now width wl but k ∧ bestN L nodes now width wl but k ≤ 5000000000000000000 := fun k => by
  induction k with
  | zero => simp [bestN]
  | succ k ih =>
   unfold bestN
   cases e : L[k]? with
   | none => exact ih
   | some j =>
    have := hT j (List.mem_of_getElem? e)
    simp only
    split
    ·exact ih
    ·split
     ·omega
     ·exact ih
 unfold earliest
 split
 ·omega
 ·exact hb _

theorem RefO.setL {base bc : Nat} {nodes jobs wall last now : Int} {v v' : Value} {L M : List Job} {w w' : World} (h : RefO base bc nodes jobs wall last now v L w) (hb : w'.heap[bc]? = w.heap[bc]?) (ho : w'.ownsRow base 148 5 v' M.length (flat M)) (ha : v'.ownBlock ≠ some bc) (hl : M.length ≤ 1000000000) :
  RefO base bc nodes jobs wall last now v' M (w'.setCell ⟨bc, 5, none⟩ v') := by
 refine ⟨?_, ownsRow_setCell_other ho ha _, ha, h.low, hl⟩
 exact heap_setCell_same w' bc 5 _ _ v' (hb.trans h.blk)

/-- Six cells of a block, written. -/
abbrev six (u : World) (g : Nat) (x0 x1 x2 x3 x4 x5 : Value) : World := (((((u.setCell ⟨g, 0, none⟩ x0).setCell ⟨g, 1, none⟩ x1).setCell ⟨g, 2, none⟩ x2).setCell ⟨g, 3, none⟩ x3).setCell ⟨g, 4, none⟩ x4).setCell ⟨g, 5, none⟩ x5
theorem six_block {u : World} {g : Nat} {y0 y1 y2 y3 y4 y5 : Value} {t : TypeId} (h : u.heap[g]? = some (.cells #[y0, y1, y2, y3, y4, y5] t (0, 0))) (x0 x1 x2 x3 x4 x5 : Value) :
  (six u g x0 x1 x2 x3 x4 x5).heap[g]? = some (.cells #[x0, x1, x2, x3, x4, x5] t (0, 0)) :=
 heap_setCell_same _ g 5 _ _ x5 (heap_setCell_same _ g 4 _ _ x4 (heap_setCell_same _ g 3 _ _ x3 (heap_setCell_same _ g 2 _ _ x2 (heap_setCell_same _ g 1 _ _ x1 (heap_setCell_same _ g 0 _ _ x0 h)))))
theorem Kept.six {S : Nat → Prop} {w u : World} (h : Kept S w u) {g : Nat} (hg : S g ∨ w.heap.size ≤ g) (x0 x1 x2 x3 x4 x5 : Value) : Kept S w (six u g x0 x1 x2 x3 x4 x5) :=
 ((((((h.setCell (p := ⟨g, 0, none⟩) hg _).setCell (p := ⟨g, 1, none⟩) hg _).setCell (p := ⟨g, 2, none⟩) hg _).setCell (p := ⟨g, 3, none⟩) hg _).setCell (p := ⟨g, 4, none⟩) hg _).setCell (p := ⟨g, 5, none⟩) hg _)
theorem Kept.mono {S T : Nat → Prop} {w w' : World} (h : Kept S w w') (hT : ∀ k, S k → T k) : Kept T w w' := ⟨h.os, h.tape, h.output, h.size, fun k hk hn => h.block k hk (fun hs => hn (hT k hs))⟩

/-- What a call of the document's cluster leaves. -/
def Left (base bc : Nat) (nodes jobs wall last : Int) (v : Value) (o : Out) (w : World) (e : Ending) (w' : World) : Prop :=
 ∃ y x v', e = .returned (.agg #[.int .i64 o.err, .int .i64 o.a, .int .i64 o.b, .int .i64 o.c, y, x]) ∧ w'.ownsRow w.heap.size 57 4 y o.rows.length (flatR o.rows) ∧ w'.ownsRow w.heap.size 55 4 x o.evs.length (flatE o.evs) ∧ RefO base bc nodes jobs wall last o.now v' o.L w' ∧ Kept (fun k => k = bc ∨ v.ownBlock = some k) w w' ∧ (∀ k, v'.ownBlock = some k → v.ownBlock = some k ∨ w.heap.size ≤ k)

theorem left_refused {base bc : Nat} {nodes jobs wall last now : Int} {v : Value} {L : List Job} {w w' : World} (h : RefO base bc nodes jobs wall last now v L w) (hk : Kept (fun _ => False) w w') (r a b c : Int) :
  Left base bc nodes jobs wall last v ⟨r, a, b, c, [], [], now, L⟩ w (.returned (.agg #[.int .i64 r, .int .i64 a, .int .i64 b, .int .i64 c, .slice none 0 0, .slice none 0 0])) w' :=
 ⟨_, _, v, rfl, World.ownsRow_nil _ _ _ _, World.ownsRow_nil _ _ _ _, h.kept hk (fun _ e => e.elim), hk.mono (fun _ e => e.elim), fun _k e => Or.inl e⟩

set_option maxHeartbeats 2000000 in
set_option maxRecDepth 100000 in
theorem submit_no2 (base bc : Nat) (nodes jobs wall last now : Int) (v : Value) (L : List Job) (w : World) (h : RefO base bc nodes jobs wall last now v L w) (hw : Widths L) (_hT : Times L) (width wl : Int)
  (hn : 1 ≤ nodes) (hn' : nodes ≤ 64) (_hwa : wall ≤ 1000000000) (_ht : 0 ≤ now) (_ht' : now ≤ 5000000000000000000) (_hl : L.length < 1000000000) (hA : width < 1 ∨ nodes < width) (_hbase : base ≤ w.heap.size) :
  Calls Tryz.prog 77 #[.pointer (some ⟨bc, 0, none⟩), .int .i64 width, .int .i64 wl] w (Left base bc nodes jobs wall last v ⟨2, 0, 0, 0, [], [], now, L⟩ w) := by
 have hlt0 := h.lt
 obtain ⟨p, cap, rfl, hC⟩ := h.toC
 obtain ⟨n, HN⟩ : ∃ n, Hid (liveN L L.length = n) := ⟨_, Lib.hid rfl⟩
 have hn2 := liveN_le L L.length
 rw [HN.out] at hn2
 go_enter Tryz.func77, Tryz.ntmps77
 have hC1 := fun o => hC.on ((Below.refl w.heap.size w).alloc (Nat.le_refl _) o)
 go_wp2_with (go_at_call 80; refine (count_any bc nodes jobs wall last now p cap L _ (hC1 _) hw (by omega) hn').mono ?_; rintro e w1 ⟨rfl, hb1⟩; rw [HN.out]; refine Hid.out ?_)
 refine Lib.hid ?_
 have hq : w1.heap[w.heap.size]? = some (.cells #[.int .i64 0, .int .i64 0, .int .i64 0, .int .i64 0, .slice none 0 0, .slice none 0 0] 34 (0, 0)) := (hb1.block w.heap.size (by simp)).trans (heap_alloc_new w _)
 have q0 := cell_of_row _ _ 0 _ _ (0, 0) hq
 have q1 := cell_of_row _ _ 1 _ _ (0, 0) hq
 have q2 := cell_of_row _ _ 2 _ _ (0, 0) hq
 have q3 := cell_of_row _ _ 3 _ _ (0, 0) hq
 have q4 := cell_of_row _ _ 4 _ _ (0, 0) hq
 have q5 := cell_of_row _ _ 5 _ _ (0, 0) hq
 have qf := fun j => frozen_of_row _ _ j _ _ hq
 simp at q0 q1 q2 q3 q4 q5
 have hbw : Below w.heap.size w w1 := ((Below.refl w.heap.size w).alloc (Nat.le_refl _) _).trans (hb1.mono (by simp))
 have hlt1 : w.heap.size < w1.heap.size := by have := hb1.size; simp at this; omega
 have hC2 := hC.on hbw
 have c0 := hC2.c0
 have c1 := hC2.c1
 have c2 := hC2.c2
 clear hb1
 have hk1 : Kept (fun _ => False) w w1 := Kept.of_below hbw
 by_cases hA1 : width < 1
 ·clear hA
  go_wp2
  exact bodyPost_ret (v := .agg #[.int .i64 2, .int .i64 0, .int .i64 0, .int .i64 0, .slice none 0 0, .slice none 0 0]) (results_cell_row Tryz.results77 _ _ w.heap.size _ _ _ _ rfl (six_block hq _ _ _ _ _ _) Tryz.underlying34 rfl (by kernel_rfl)) rfl (left_refused h (hk1.six (Or.inr (Nat.le_refl _)) _ _ _ _ _ _) 2 0 0 0)
 ·have hA2 : nodes < width := by omega
  clear hA
  go_wp2
  exact bodyPost_ret (v := .agg #[.int .i64 2, .int .i64 0, .int .i64 0, .int .i64 0, .slice none 0 0, .slice none 0 0]) (results_cell_row Tryz.results77 _ _ w.heap.size _ _ _ _ rfl (six_block hq _ _ _ _ _ _) Tryz.underlying34 rfl (by kernel_rfl)) rfl (left_refused h (hk1.six (Or.inr (Nat.le_refl _)) _ _ _ _ _ _) 2 0 0 0)

set_option maxHeartbeats 2000000 in
set_option maxRecDepth 100000 in
theorem submit_no3 (base bc : Nat) (nodes jobs wall last now : Int) (v : Value) (L : List Job) (w : World) (h : RefO base bc nodes jobs wall last now v L w) (hw : Widths L) (_hT : Times L) (width wl : Int)
  (hn : 1 ≤ nodes) (hn' : nodes ≤ 64) (_hwa : wall ≤ 1000000000) (_ht : 0 ≤ now) (_ht' : now ≤ 5000000000000000000) (_hl : L.length < 1000000000) (w1' : 1 ≤ width) (w2' : width ≤ nodes) (hB : wl < 1 ∨ wall < wl) (_hbase : base ≤ w.heap.size) :
  Calls Tryz.prog 77 #[.pointer (some ⟨bc, 0, none⟩), .int .i64 width, .int .i64 wl] w (Left base bc nodes jobs wall last v ⟨3, 0, 0, 0, [], [], now, L⟩ w) := by
 have hlt0 := h.lt
 obtain ⟨p, cap, rfl, hC⟩ := h.toC
 obtain ⟨n, HN⟩ : ∃ n, Hid (liveN L L.length = n) := ⟨_, Lib.hid rfl⟩
 have hn2 := liveN_le L L.length
 rw [HN.out] at hn2
 go_enter Tryz.func77, Tryz.ntmps77
 have hC1 := fun o => hC.on ((Below.refl w.heap.size w).alloc (Nat.le_refl _) o)
 go_wp2_with (go_at_call 80; refine (count_any bc nodes jobs wall last now p cap L _ (hC1 _) hw (by omega) hn').mono ?_; rintro e w1 ⟨rfl, hb1⟩; rw [HN.out]; refine Hid.out ?_)
 refine Lib.hid ?_
 have hq : w1.heap[w.heap.size]? = some (.cells #[.int .i64 0, .int .i64 0, .int .i64 0, .int .i64 0, .slice none 0 0, .slice none 0 0] 34 (0, 0)) := (hb1.block w.heap.size (by simp)).trans (heap_alloc_new w _)
 have q0 := cell_of_row _ _ 0 _ _ (0, 0) hq
 have q1 := cell_of_row _ _ 1 _ _ (0, 0) hq
 have q2 := cell_of_row _ _ 2 _ _ (0, 0) hq
 have q3 := cell_of_row _ _ 3 _ _ (0, 0) hq
 have q4 := cell_of_row _ _ 4 _ _ (0, 0) hq
 have q5 := cell_of_row _ _ 5 _ _ (0, 0) hq
 have qf := fun j => frozen_of_row _ _ j _ _ hq
 simp at q0 q1 q2 q3 q4 q5
 have hbw : Below w.heap.size w w1 := ((Below.refl w.heap.size w).alloc (Nat.le_refl _) _).trans (hb1.mono (by simp))
 have hlt1 : w.heap.size < w1.heap.size := by have := hb1.size; simp at this; omega
 have hC2 := hC.on hbw
 have c0 := hC2.c0
 have c1 := hC2.c1
 have c2 := hC2.c2
 clear hb1
 have hk1 : Kept (fun _ => False) w w1 := Kept.of_below hbw
 by_cases hA1 : wl < 1
 ·clear hB
  go_wp2
  exact bodyPost_ret (v := .agg #[.int .i64 3, .int .i64 0, .int .i64 0, .int .i64 0, .slice none 0 0, .slice none 0 0]) (results_cell_row Tryz.results77 _ _ w.heap.size _ _ _ _ rfl (six_block hq _ _ _ _ _ _) Tryz.underlying34 rfl (by kernel_rfl)) rfl (left_refused h (hk1.six (Or.inr (Nat.le_refl _)) _ _ _ _ _ _) 3 0 0 0)
 ·have hA2 : wall < wl := by omega
  clear hB
  go_wp2
  exact bodyPost_ret (v := .agg #[.int .i64 3, .int .i64 0, .int .i64 0, .int .i64 0, .slice none 0 0, .slice none 0 0]) (results_cell_row Tryz.results77 _ _ w.heap.size _ _ _ _ rfl (six_block hq _ _ _ _ _ _) Tryz.underlying34 rfl (by kernel_rfl)) rfl (left_refused h (hk1.six (Or.inr (Nat.le_refl _)) _ _ _ _ _ _) 3 0 0 0)

set_option maxHeartbeats 2000000 in
set_option maxRecDepth 100000 in
theorem submit_no4 (base bc : Nat) (nodes jobs wall last now : Int) (v : Value) (L : List Job) (w : World) (h : RefO base bc nodes jobs wall last now v L w) (hw : Widths L) (_hT : Times L) (width wl : Int)
  (hn : 1 ≤ nodes) (hn' : nodes ≤ 64) (_hwa : wall ≤ 1000000000) (_ht : 0 ≤ now) (_ht' : now ≤ 5000000000000000000) (_hl : L.length < 1000000000) (w1' : 1 ≤ width) (w2' : width ≤ nodes) (w3' : 1 ≤ wl) (w4' : wl ≤ wall) (hD0 : jobs ≤ (liveN L L.length : Int)) (_hbase : base ≤ w.heap.size) :
  Calls Tryz.prog 77 #[.pointer (some ⟨bc, 0, none⟩), .int .i64 width, .int .i64 wl] w (Left base bc nodes jobs wall last v ⟨4, 0, 0, 0, [], [], now, L⟩ w) := by
 have hlt0 := h.lt
 obtain ⟨p, cap, rfl, hC⟩ := h.toC
 obtain ⟨n, HN⟩ : ∃ n, Hid (liveN L L.length = n) := ⟨_, Lib.hid rfl⟩
 have hn2 := liveN_le L L.length
 rw [HN.out] at hn2
 go_enter Tryz.func77, Tryz.ntmps77
 have hC1 := fun o => hC.on ((Below.refl w.heap.size w).alloc (Nat.le_refl _) o)
 go_wp2_with (go_at_call 80; refine (count_any bc nodes jobs wall last now p cap L _ (hC1 _) hw (by omega) hn').mono ?_; rintro e w1 ⟨rfl, hb1⟩; rw [HN.out]; refine Hid.out ?_)
 refine Lib.hid ?_
 have hq : w1.heap[w.heap.size]? = some (.cells #[.int .i64 0, .int .i64 0, .int .i64 0, .int .i64 0, .slice none 0 0, .slice none 0 0] 34 (0, 0)) := (hb1.block w.heap.size (by simp)).trans (heap_alloc_new w _)
 have q0 := cell_of_row _ _ 0 _ _ (0, 0) hq
 have q1 := cell_of_row _ _ 1 _ _ (0, 0) hq
 have q2 := cell_of_row _ _ 2 _ _ (0, 0) hq
 have q3 := cell_of_row _ _ 3 _ _ (0, 0) hq
 have q4 := cell_of_row _ _ 4 _ _ (0, 0) hq
 have q5 := cell_of_row _ _ 5 _ _ (0, 0) hq
 have qf := fun j => frozen_of_row _ _ j _ _ hq
 simp at q0 q1 q2 q3 q4 q5
 have hbw : Below w.heap.size w w1 := ((Below.refl w.heap.size w).alloc (Nat.le_refl _) _).trans (hb1.mono (by simp))
 have hlt1 : w.heap.size < w1.heap.size := by have := hb1.size; simp at this; omega
 have hC2 := hC.on hbw
 have c0 := hC2.c0
 have c1 := hC2.c1
 have c2 := hC2.c2
 clear hb1
 have hk1 : Kept (fun _ => False) w w1 := Kept.of_below hbw
 have hD : jobs ≤ (n : Int) := by rw [← HN.out]; exact hD0
 clear hD0
 go_wp2
 exact bodyPost_ret (v := .agg #[.int .i64 4, .int .i64 0, .int .i64 0, .int .i64 0, .slice none 0 0, .slice none 0 0]) (results_cell_row Tryz.results77 _ _ w.heap.size _ _ _ _ rfl (six_block hq _ _ _ _ _ _) Tryz.underlying34 rfl (by kernel_rfl)) rfl (left_refused h (hk1.six (Or.inr (Nat.le_refl _)) _ _ _ _ _ _) 4 0 0 0)

end Go.Proofs.YtpcgnadfldimhaaGreatDoor
namespace Go.Proofs.YtpcgnadfldimhaaGreatDoor
open Go.RowKit

set_option maxHeartbeats 2000000 in
set_option maxRecDepth 100000 in
theorem submit_yes (base bc : Nat) (nodes jobs wall last now : Int) (v : Value) (L : List Job) (w : World) (h : RefO base bc nodes jobs wall last now v L w) (hw : Widths L) (hT : Times L) (width wl : Int)
  (hn : 1 ≤ nodes) (hn' : nodes ≤ 64) (hwa : wall ≤ 1000000000) (ht : 0 ≤ now) (ht' : now ≤ 5000000000000000000) (hl : L.length < 1000000000) (w1' : 1 ≤ width) (w2' : width ≤ nodes) (w3' : 1 ≤ wl) (w4' : wl ≤ wall) (hD0 : ¬ jobs ≤ (liveN L L.length : Int)) (t : Int) (HE : Hid (earliest L nodes now width wl (-1) = t)) (M : List Job) (HM : Hid (L ++ [⟨width, wl, 1, t, t + wl⟩] = M)) (hbase : base ≤ w.heap.size) :
  Calls Tryz.prog 77 #[.pointer (some ⟨bc, 0, none⟩), .int .i64 width, .int .i64 wl] w (Left base bc nodes jobs wall last v ⟨0, (M.length : Int), t, 0, [], startE M now M.length, now, M.map (Job.go now)⟩ w) := by
 obtain ⟨i0, hi, hz0, hz1, hz2⟩ := info_parts Tryz.infoJob
 have hlt0 := h.lt
 obtain ⟨p, cap, rfl, hC⟩ := h.toC
 obtain ⟨n, HN⟩ : ∃ n, Hid (liveN L L.length = n) := ⟨_, Lib.hid rfl⟩
 have hn2 := liveN_le L L.length
 rw [HN.out] at hn2
 go_enter Tryz.func77, Tryz.ntmps77
 have hC1 := fun o => hC.on ((Below.refl w.heap.size w).alloc (Nat.le_refl _) o)
 go_wp2_with (go_at_call 80; refine (count_any bc nodes jobs wall last now p cap L _ (hC1 _) hw (by omega) hn').mono ?_; rintro e w1 ⟨rfl, hb1⟩; rw [HN.out]; refine Hid.out ?_)
 refine Lib.hid ?_
 have hq : w1.heap[w.heap.size]? = some (.cells #[.int .i64 0, .int .i64 0, .int .i64 0, .int .i64 0, .slice none 0 0, .slice none 0 0] 34 (0, 0)) := (hb1.block w.heap.size (by simp)).trans (heap_alloc_new w _)
 have q0 := cell_of_row _ _ 0 _ _ (0, 0) hq
 have q1 := cell_of_row _ _ 1 _ _ (0, 0) hq
 have q2 := cell_of_row _ _ 2 _ _ (0, 0) hq
 have q3 := cell_of_row _ _ 3 _ _ (0, 0) hq
 have q4 := cell_of_row _ _ 4 _ _ (0, 0) hq
 have q5 := cell_of_row _ _ 5 _ _ (0, 0) hq
 have qf := fun j => frozen_of_row _ _ j _ _ hq
 simp at q0 q1 q2 q3 q4 q5
 have hbw : Below w.heap.size w w1 := ((Below.refl w.heap.size w).alloc (Nat.le_refl _) _).trans (hb1.mono (by simp))
 have hlt1 : w.heap.size < w1.heap.size := by have := hb1.size; simp at this; omega
 have hC2 := hC.on hbw
 have c0 := hC2.c0
 have c1 := hC2.c1
 have c2 := hC2.c2
 clear hb1
 have hk1 : Kept (fun _ => False) w w1 := Kept.of_below hbw
 have hD : (n : Int) < jobs := by rw [← HN.out]; omega
 clear hD0
 have he := earliest_le L nodes now width wl (-1) hT ht ht'
 rw [HE.out] at he
 go_wp2_with (go_at_call 110; refine (earliest_any bc nodes jobs wall last now p cap L _ hC2 hw hT width wl (-1) ht ht' (by omega) (by omega) (by omega) (by omega)).mono ?_; rintro e w2 ⟨rfl, hb2⟩; rw [HE.out]; refine Hid.out ?_)
 refine Lib.hid ?_
 have hR2 : RefO base bc nodes jobs wall last now (.slice p L.length cap) L w2 := h.kept (Kept.of_below (hbw.trans (hb2.mono hbw.size))) (fun _ e => e.elim) (S := fun _ => False)
 have e5 := hR2.cell 5
 simp at e5
 have ef5 := hR2.frozen 5
 have hs2 := hb2.size
 have hown2 := hR2.own
 go_wp2_with (at_builtin; refine wpList_append_lies _ rfl _ _ 144 rfl base 148 i0 (.agg #[.int .i64 0, .int .i64 0, .int .i64 0, .int .i64 0, .int .i64 0]) 5 40 Tryz.underlying144 hi hz0 hz1 hz2 rfl (by decide) _ _ _ rfl (hown2.alloc _) ⟨w2.heap.size, 0, none⟩ 1 1 [.int .i64 width, .int .i64 wl, .int .i64 1, .int .i64 t, .int .i64 (t + wl)] rfl rfl (news_at _ #[.int .i64 width, .int .i64 wl, .int .i64 1, .int .i64 t, .int .i64 (t + wl)] _ _ (by simp)) (by intro u' hu'; simp at hu'; rcases hu' with rfl | rfl | rfl | rfl | rfl <;> rfl) (by decide) (by unfold maxLen; omega) (by omega) (by simp; omega) _ rfl ?_)
 intro g c2 w3 hown3 hgrow hat hlt3
 have hML : M.length = L.length + 1 := by rw [← HM.out]; simp
 have hMf : flat M = flat L ++ [.int .i64 width, .int .i64 wl, .int .i64 1, .int .i64 t, .int .i64 (t + wl)] := by rw [← HM.out]; simp [flat, Job.cells]
 have hsz3 := hgrow.size
 simp at hsz3
 have hvb : ∀ k, (Value.slice p L.length cap).ownBlock = some k → k < w.heap.size := fun k e => (h.own.lt k e).2
 have hgb : g ≠ bc := fun e => by
  rcases hat with e2 | e2
  ·exact h.apart (by rw [e2, e])
  ·have := h.lt
   omega
 have hgw : g ≠ w.heap.size := fun e => by
  rcases hat with e2 | e2
  ·have := hvb g e2
   omega
  ·omega
 have hbc3 : w3.heap[bc]? = w2.heap[bc]? := (hgrow.block bc (by simp; omega) (fun e => h.apart e.symm)).trans (Below.heap_alloc _ _ _ (by omega))
 have hq3 : w3.heap[w.heap.size]? = w1.heap[w.heap.size]? := ((hgrow.block w.heap.size (by simp; omega) (fun e => by have := hvb _ e.symm; omega)).trans (Below.heap_alloc _ _ _ (by omega))).trans (hb2.block _ hlt1)
 have hk3 : Kept (fun k => k = bc ∨ (Value.slice p L.length cap).ownBlock = some k) w w3 := ((Kept.of_below (hbw.trans (hb2.mono hbw.size))).alloc _).grown hgrow (fun i e => Or.inl (Or.inr e))
 rw [← hMf, ← hML] at hown3
 have hR4 : RefO base bc nodes jobs wall last now (.slice (some ⟨g, 0, none⟩) (L.length + 1) c2) M (w3.setCell ⟨bc, 5, none⟩ (.slice (some ⟨g, 0, none⟩) (L.length + 1) c2)) := hR2.setL hbc3 (by rw [← hML]; exact hown3) (by simpa [Value.ownBlock] using hgb) (by omega)
 have f5 : w3.cell? ⟨bc, 5, none⟩ = some (.slice p L.length cap) := by rw [World.cell?_of_block hbc3]; exact e5
 have ff5 : w3.frozen? ⟨bc, 5, none⟩ = false := by rw [World.frozen?_of_block hbc3]; exact ef5
 have HR4 := Lib.hid hR4
 have HQ3 := Lib.hid (hq3.trans hq)
 have HK3 := Lib.hid hk3
 clear hR4 hq3 hk3 hown3 hgrow hown2 hR2 hbc3 hq q0 q1 q2 q3 q4 q5 qf c0 c1 hC2 hC1 hC e5 ef5 hMf
 go_wp2_with (go_at_call 111; refine (starts_any base bc nodes jobs wall last now _ M _ (HR4.out.kept (S := fun _ => False) ((Kept.refl _ _).alloc _) (fun _ e => e.elim))).mono ?_; rintro e w6 ⟨x, rfl, hown6, hR6, hk6⟩; refine Hid.out ?_)
 refine Lib.hid ?_
 obtain ⟨px, cx, rfl⟩ := own_slice hown6
 have hs6 := hk6.size
 simp at hs6
 have hm6 : w6.heap[w3.heap.size]? = some (.cells #[.int .i64 0, .int .i64 ((L.length : Int) + 1), .int .i64 t, .int .i64 0, .slice none 0 0, .slice none 0 0] 34 (0, 0)) := (hk6.block w3.heap.size (by simp) (fun e => by simp [Value.ownBlock] at e; omega)).trans (alloc_at _ _ _ (by simp))
 have hq6 : w6.heap[w.heap.size]? = some (.cells #[.int .i64 0, .int .i64 0, .int .i64 0, .int .i64 0, .slice none 0 0, .slice none 0 0] 34 (0, 0)) := (hk6.block w.heap.size (by simp; omega) (fun e => by simp [Value.ownBlock] at e; omega)).trans ((Below.heap_alloc _ _ _ (by simp; omega)).trans ((Below.heap_setCell _ _ _ _ (by simp; omega)).trans HQ3.out))
 have m0 := cell_of_row _ _ 0 _ _ (0, 0) hm6
 have m1 := cell_of_row _ _ 1 _ _ (0, 0) hm6
 have m2 := cell_of_row _ _ 2 _ _ (0, 0) hm6
 have m3 := cell_of_row _ _ 3 _ _ (0, 0) hm6
 have m4 := cell_of_row _ _ 4 _ _ (0, 0) hm6
 have m5 := cell_of_row _ _ 5 _ _ (0, 0) hm6
 have mf := fun j => frozen_of_row _ _ j _ _ hm6
 have n0 := cell_of_row _ _ 0 _ _ (0, 0) hq6
 have n1 := cell_of_row _ _ 1 _ _ (0, 0) hq6
 have n2 := cell_of_row _ _ 2 _ _ (0, 0) hq6
 have n3 := cell_of_row _ _ 3 _ _ (0, 0) hq6
 have n4 := cell_of_row _ _ 4 _ _ (0, 0) hq6
 have n5 := cell_of_row _ _ 5 _ _ (0, 0) hq6
 have nf := fun j => frozen_of_row _ _ j _ _ hq6
 simp at m0 m1 m2 m3 m4 m5 n0 n1 n2 n3 n4 n5
 have hne : w3.heap.size ≠ w.heap.size := by omega
 have hne' : w.heap.size ≠ w3.heap.size := by omega
 go_wp2
 have hk5 := (HK3.out.setCell (p := ⟨bc, 5, none⟩) (Or.inl (Or.inl rfl)) (.slice (some ⟨g, 0, none⟩) (L.length + 1) c2)).alloc (.cells #[.int .i64 0, .int .i64 ((L.length : Int) + 1), .int .i64 t, .int .i64 0, .slice none 0 0, .slice none 0 0] 34)
 have hk7 : Kept (fun k => k = bc ∨ (Value.slice p L.length cap).ownBlock = some k) w w6 := hk5.trans hk6 (fun i e => by
  simp [Value.ownBlock] at e
  subst e
  rcases hat with e2 | e2
  ·exact Or.inl (Or.inr e2)
  ·right; omega)
 rw [hML] at hown6 ⊢
 have hk8 := (hk7.setCell (p := ⟨w3.heap.size, 5, none⟩) (Or.inr (by simp; omega)) (.slice px (startE M now (L.length + 1)).length cx)).six (g := w.heap.size) (Or.inr (Nat.le_refl _)) (.int .i64 0) (.int .i64 ((L.length : Int) + 1)) (.int .i64 t) (.int .i64 0) (.slice none 0 0) (.slice px (startE M now (L.length + 1)).length cx)
 have hk9 := ((Kept.refl (fun k => k = w3.heap.size ∨ k = w.heap.size) w6).setCell (p := ⟨w3.heap.size, 5, none⟩) (Or.inl (Or.inl rfl)) (.slice px (startE M now (L.length + 1)).length cx)).six (g := w.heap.size) (Or.inl (Or.inr rfl)) (.int .i64 0) (.int .i64 ((L.length : Int) + 1)) (.int .i64 t) (.int .i64 0) (.slice none 0 0) (.slice px (startE M now (L.length + 1)).length cx)
 have hq8 := (Below.heap_setCell w6 ⟨w3.heap.size, 5, none⟩ (.slice px (startE M now (L.length + 1)).length cx) w.heap.size (by simp; omega)).trans hq6
 refine bodyPost_ret (v := .agg #[.int .i64 0, .int .i64 ((L.length : Int) + 1), .int .i64 t, .int .i64 0, .slice none 0 0, .slice px (startE M now (L.length + 1)).length cx]) (results_cell_row Tryz.results77 _ _ w.heap.size _ _ _ _ rfl (six_block hq8 _ _ _ _ _ _) Tryz.underlying34 rfl (by kernel_rfl)) rfl ?_
 refine ⟨.slice none 0 0, .slice px (startE M now (L.length + 1)).length cx, .slice (some ⟨g, 0, none⟩) (L.length + 1) c2, by simp, World.ownsRow_nil _ _ _ _, ?_, ?_, hk8, ?_⟩
 ·refine owns_on (w := w6) (owns_mono hown6 (by simp; omega)) (fun k e => hk9.block k (hown6.lt k e).2 (fun hs => ?_))
  have := (hown6.lt k e).1
  simp at this
  omega
 ·refine hR6.kept hk9 (fun k hs => ⟨fun e => ?_, fun e => ?_⟩)
  ·have := h.lt
   omega
  ·simp [Value.ownBlock] at e
   omega
 ·intro k e
  simp [Value.ownBlock] at e
  subst e
  rcases hat with e2 | e2
  ·exact Or.inl e2
  ·right; omega

theorem submit_ref (base bc : Nat) (nodes jobs wall last now : Int) (v : Value) (L : List Job) (w : World) (h : RefO base bc nodes jobs wall last now v L w) (hw : Widths L) (hT : Times L) (width wl : Int)
  (hn : 1 ≤ nodes) (hn' : nodes ≤ 64) (hwa : wall ≤ 1000000000) (ht : 0 ≤ now) (ht' : now ≤ 5000000000000000000) (hl : L.length < 1000000000) (hbase : base ≤ w.heap.size) :
  Calls Tryz.prog 77 #[.pointer (some ⟨bc, 0, none⟩), .int .i64 width, .int .i64 wl] w (Left base bc nodes jobs wall last v (submitO nodes jobs wall now L width wl) w) := by
 by_cases hA : width < 1 ∨ nodes < width
 ·rw [show submitO nodes jobs wall now L width wl = ⟨2, 0, 0, 0, [], [], now, L⟩ by simp only [submitO]; rw [if_pos hA]]
  exact submit_no2 base bc nodes jobs wall last now v L w h hw hT width wl hn hn' hwa ht ht' hl hA hbase
 ·by_cases hB : wl < 1 ∨ wall < wl
  ·rw [show submitO nodes jobs wall now L width wl = ⟨3, 0, 0, 0, [], [], now, L⟩ by simp only [submitO]; rw [if_neg hA, if_pos hB]]
   exact submit_no3 base bc nodes jobs wall last now v L w h hw hT width wl hn hn' hwa ht ht' hl (by omega) (by omega) hB hbase
  ·by_cases hD : jobs ≤ (liveN L L.length : Int)
   ·rw [show submitO nodes jobs wall now L width wl = ⟨4, 0, 0, 0, [], [], now, L⟩ by simp only [submitO]; rw [if_neg hA, if_neg hB, if_pos hD]]
    exact submit_no4 base bc nodes jobs wall last now v L w h hw hT width wl hn hn' hwa ht ht' hl (by omega) (by omega) (by omega) (by omega) hD hbase
   ·rw [show submitO nodes jobs wall now L width wl = _ by simp only [submitO]; rw [if_neg hA, if_neg hB, if_neg hD]]
    exact submit_yes base bc nodes jobs wall last now v L w h hw hT width wl hn hn' hwa ht ht' hl (by omega) (by omega) (by omega) (by omega) hD _ (Lib.hid rfl) _ (Lib.hid rfl) hbase

end Go.Proofs.YtpcgnadfldimhaaGreatDoor
namespace Go.Proofs.YtpcgnadfldimhaaGreatDoor
open Go.RowKit

theorem roundL_step (nodes now : Int) (L : List Job) (k : Nat) : roundL nodes now L (k + 1) = turnL nodes now (roundL nodes now L k) k := rfl
theorem roundE_step (nodes now : Int) (L : List Job) (k : Nat) : roundE nodes now L (k + 1) = roundE nodes now L k ++ turnE nodes now (roundL nodes now L k) k := rfl
theorem turn_no {nodes now : Int} {L : List Job} {i : Nat} {j : Job} (hj : L[i]? = some j) (h : ¬ (j.phase = 1 ∧ earliest L nodes now j.width j.wall i < j.start)) : turnL nodes now L i = L ∧ turnE nodes now L i = [] := by
 unfold turnL turnE
 rw [hj]
 simp only [if_neg h, and_self]
theorem turn_yes {nodes now : Int} {L : List Job} {i : Nat} {j : Job} (hj : L[i]? = some j) (h1 : j.phase = 1) (h : earliest L nodes now j.width j.wall i < j.start) : turnL nodes now L i = L.set i (j.moved (earliest L nodes now j.width j.wall i)) ∧ turnE nodes now L i = [⟨3, (i : Int) + 1, j.start, earliest L nodes now j.width j.wall i⟩] := by
 unfold turnL turnE
 rw [hj]
 simp only [h1, h, and_self, if_true]

theorem Calm.widths {nodes jobs wall last now : Int} {L : List Job} (h : Calm nodes jobs wall last now L) (hc : ConfOk nodes jobs wall last) : Widths L := fun j hj => ⟨(h.each j hj).1, by have := (h.each j hj).2.1; have := hc.2.1; omega⟩
theorem Calm.times {nodes jobs wall last now : Int} {L : List Job} (h : Calm nodes jobs wall last now L) (hc : ConfOk nodes jobs wall last) : Times L := fun j hj => by
 obtain ⟨_, _, h1, h2, h3, _⟩ := h.each j hj
 obtain ⟨_, _, _, _, _, _, _, c⟩ := hc
 omega

theorem calm_moves {nodes jobs wall last now : Int} {L M : List Job} {es : List Ev} (h : Calm nodes jobs wall last now L) (h0 : 0 ≤ now) (hm : Moves nodes now L M es) : Calm nodes jobs wall last now M := by
 induction hm with
 | none => exact h
 | more hm hn ih => exact calm_round ih h0 _

/-- Behind the two stores. -/
theorem refUp_end {base bc g cap k n : Nat} {nodes jobs wall last now T : Int} {L : List Job} {j : Job} {es : List Ev} {S : Nat → Prop} {v' : Value} {w wr w4 : World} (hj : L[k]? = some j) (hr : RefO base bc nodes jobs wall last now (.slice (some ⟨g, 0, none⟩) L.length cap) L w4)
  (ho : w4.ownsRow w.heap.size 55 4 v' (es.length + 1) (flatE es ++ [.int .i64 3, .int .i64 ((k : Int) + 1), .int .i64 j.start, .int .i64 T])) (hg : v'.ownBlock ≠ some g) (hk : Kept (fun k => (Value.slice (some ⟨g, 0, none⟩) n cap).ownBlock = some k) w wr) (hk4 : Kept S wr w4) (hS : ∀ i, S i → w.heap.size ≤ i) :
  ((w4.setCell ⟨g, k * 5 + 3, none⟩ (.int .i64 T)).setCell ⟨g, k * 5 + 4, none⟩ (.int .i64 (T + j.wall))).ownsRow w.heap.size 55 4 v' (es ++ [(⟨3, (k : Int) + 1, j.start, T⟩ : Ev)]).length (flatE (es ++ [(⟨3, (k : Int) + 1, j.start, T⟩ : Ev)])) ∧ RefO base bc nodes jobs wall last now (.slice (some ⟨g, 0, none⟩) L.length cap) (L.set k (j.moved T)) ((w4.setCell ⟨g, k * 5 + 3, none⟩ (.int .i64 T)).setCell ⟨g, k * 5 + 4, none⟩ (.int .i64 (T + j.wall))) ∧ Kept (fun k => (Value.slice (some ⟨g, 0, none⟩) n cap).ownBlock = some k) w ((w4.setCell ⟨g, k * 5 + 3, none⟩ (.int .i64 T)).setCell ⟨g, k * 5 + 4, none⟩ (.int .i64 (T + j.wall))) := by
 have hlt := (List.getElem?_eq_some_iff.1 hj).1
 refine ⟨?_, ?_, ?_⟩
 ·have h2 := ownsRow_setCell_other (ownsRow_setCell_other ho (a := ⟨g, k * 5 + 3, none⟩) hg (.int .i64 T)) (a := ⟨g, k * 5 + 4, none⟩) hg (.int .i64 (T + j.wall))
  simpa [flatE, Ev.cells] using h2
 ·have s1 := hr.store k j { j with start := T } 3 (.int .i64 T) hj (by omega) rfl
  have e1 : (L.set k { j with start := T }).length = L.length := List.length_set
  rw [← e1] at s1
  have s2 := s1.store k { j with start := T } (j.moved T) 4 (.int .i64 (T + j.wall)) (by simp [hlt]) (by omega) rfl
  rw [e1, List.set_set] at s2
  exact s2
 ·exact ((hk.trans hk4 (fun i e => Or.inr (hS i e))).setCell (p := ⟨g, k * 5 + 3, none⟩) (Or.inl rfl) _).setCell (p := ⟨g, k * 5 + 4, none⟩) (Or.inl rfl) _

set_option maxHeartbeats 4000000 in
set_option maxRecDepth 100000 in
theorem refUp_any (base bc : Nat) (nodes jobs wall last now : Int) (v : Value) (L : List Job) (w : World) (h : RefO base bc nodes jobs wall last now v L w) (hc : Calm nodes jobs wall last now L) (hcf : ConfOk nodes jobs wall last) (h0 : 0 ≤ now) (h1 : now ≤ last) (ho : offs now L ≤ 900000000000) :
  Calls Tryz.prog 113 #[.pointer (some ⟨bc, 0, none⟩)] w fun e w' => ∃ x M es, e = .returned x ∧ Rounds nodes now L es M ∧ w'.ownsRow w.heap.size 55 4 x es.length (flatE es) ∧ RefO base bc nodes jobs wall last now v M w' ∧ Kept (fun k => v.ownBlock = some k) w w' := by
 obtain ⟨i0, hi, hz0, hz1, hz2⟩ := info_parts Tryz.infoEv
 have hlen := h.len
 have hlt0 := h.lt
 obtain ⟨p, cap, rfl, hC⟩ := h.toC
 clear hC
 go_enter Tryz.func113, Tryz.ntmps113
 go_wp2
 go_loopw [3, 4] (fun x ag wr => ∃ M es, Moves nodes now L M es ∧ wr.ownsRow w.heap.size 55 4 x es.length (flatE es) ∧ RefO base bc nodes jobs wall last now (.slice p L.length cap) M wr ∧ Kept (fun k => (Value.slice p L.length cap).ownBlock = some k) w wr ∧ (ag = .bool true ∨ (ag = .bool false ∧ roundE nodes now M M.length = []))) (fun x ag _ => match ag with | .bool true => 1 + 900000000000 - (match x with | .slice _ n _ => n | _ => 0) | _ => 0)
 case atStart => exact ⟨L, [], .none, World.ownsRow_nil _ _ _ _, h, Kept.refl _ _, Or.inl rfl⟩
 case round =>
  obtain ⟨M, es, hm, hown, hr, hkp, hag⟩ := hrel
  obtain ⟨hF, hoff, hML⟩ := fine_moves (hc.fine h0) hm
  obtain ⟨px, cx, hx0⟩ := own_slice hown
  have hcM : Calm nodes jobs wall last now M := calm_moves hc h0 hm
  rcases hag with rfl | ⟨rfl, hE⟩
  ·go_wp2
   go_loopw [3, 4, 5] (fun x ag i wr => ∃ k : Nat, k ≤ M.length ∧ i = .int .i64 k ∧ ag = .bool (!(roundE nodes now M k).isEmpty) ∧ wr.ownsRow w.heap.size 55 4 x (es ++ roundE nodes now M k).length (flatE (es ++ roundE nodes now M k)) ∧ RefO base bc nodes jobs wall last now (.slice p L.length cap) (roundL nodes now M k) wr ∧ Kept (fun k => (Value.slice p L.length cap).ownBlock = some k) w wr) (fun _ _ i _ => M.length - (intOf i).toNat)
   case atStart => exact ⟨0, Nat.zero_le _, rfl, rfl, by simpa [roundE] using hown, hr, hkp⟩
   case round =>
    obtain ⟨k, hk, rfl, rfl, hown2, hr2, hkp2⟩ := hrel
    have hll : (roundL nodes now M k).length = M.length := roundL_len nodes now M k
    have d5 := hr2.cell 5
    simp at d5
    have hlt2 := hr2.lt
    by_cases hlt : k < M.length
    ·obtain ⟨j, hj⟩ : ∃ j, (roundL nodes now M k)[k]? = some j := ⟨_, List.getElem?_eq_getElem (by omega)⟩
     obtain ⟨g, rfl⟩ : ∃ g, p = some ⟨g, 0, none⟩ := by
      rcases own_forms hr2.own with ⟨_, hn⟩ | ⟨g, c2, e⟩
      ·omega
      ·exact ⟨g, by simpa using (Value.slice.inj e).1⟩
     have hLL : L.length = (roundL nodes now M k).length := by omega
     have hr3 : RefO base bc nodes jobs wall last now (.slice (some ⟨g, 0, none⟩) (roundL nodes now M k).length cap) (roundL nodes now M k) wr := by rw [← hLL]; exact hr2
     have r := fun t (ht : t < 5) => (hr3.own.cellAt (k * 5 + t) (by omega)).trans (flat_at _ k j t hj ht)
     have r0 := r 0 (by omega)
     have r1 := r 1 (by omega)
     have r2 := r 2 (by omega)
     have r3 := r 3 (by omega)
     have r4 := r 4 (by omega)
     have rf := fun t => hr3.own.frozenAt t
     have hgl : g < wr.heap.size := (hr3.own.lt g rfl).2
     have hcR := calm_round hcM h0 k
     have hjc := hcR.each j (List.mem_of_getElem? hj)
     have k1 : (0 : Int) ≤ (k : Int) := by omega
     have k2 : (k : Int) < (L.length : Int) := by omega
     clear hLL
     obtain ⟨wd, wl, ph, st, en⟩ := j
     simp [Job.cells] at r0 r1 r2 r3 r4
     simp only at hjc
     have hrow : wr.rangeAt g (k * 5) [.int .i64 wd, .int .i64 wl, .int .i64 ph, .int .i64 st, .int .i64 en] := fun t u hu => by
      have ht : t < 5 := (List.getElem?_eq_some_iff.1 hu).1
      rw [r t ht]; exact hu
     have HN : ∀ W, Below wr.heap.size wr W → turnL nodes now (roundL nodes now M k) k = roundL nodes now M k ∧ turnE nodes now (roundL nodes now M k) k = [] → ∃ k1 : Nat, k1 ≤ M.length ∧ Value.int .i64 ((k : Int) + 1) = .int .i64 k1 ∧ (Value.bool !(roundE nodes now M k).isEmpty) = .bool (!(roundE nodes now M k1).isEmpty) ∧ W.ownsRow w.heap.size 55 4 u3 (es ++ roundE nodes now M k1).length (flatE (es ++ roundE nodes now M k1)) ∧ RefO base bc nodes jobs wall last now (.slice (some ⟨g, 0, none⟩) L.length cap) (roundL nodes now M k1) W ∧ Kept (fun k => (Value.slice (some ⟨g, 0, none⟩) L.length cap).ownBlock = some k) w W := fun W hb hn => by
      refine ⟨k + 1, by omega, by simp, ?_, ?_, ?_, hkp2.trans (Kept.of_below hb) (fun _ e => Or.inl e)⟩
      ·rw [roundE_step, hn.2, List.append_nil]
      ·rw [roundE_step, hn.2, List.append_nil]
       exact owns_on hown2 (fun k e => hb.block k (hown2.lt k e).2)
      ·rw [roundL_step, hn.1]
       exact hr2.kept (S := fun _ => False) (Kept.of_below hb) (fun _ e => e.elim)
     have HH := Lib.hid HN
     clear HN
     by_cases hp : ph = 1
     ·subst hp
      obtain ⟨T, HT⟩ : ∃ T, Hid (earliest (roundL nodes now M k) nodes now wd wl k = T) := ⟨_, Lib.hid rfl⟩
      have hcf' := hcf
      unfold ConfOk at hcf'
      have hm0 : 0 ≤ jobs * wall := Int.mul_nonneg (by omega) (by omega)
      have hW := hcR.widths hcf
      have hTm := hcR.times hcf
      have HC := Lib.hid (fun o => by
       obtain ⟨p3, cap3, e3, hC3⟩ := (hr3.kept (S := fun _ => False) ((Kept.refl _ wr).alloc o) (fun _ e => e.elim)).toC
       exact earliest_any bc nodes jobs wall last now p3 cap3 (roundL nodes now M k) (wr.alloc o) hC3 hW hTm wd wl k h0 (by omega) (by omega) (by omega) (by omega) (by omega))
      go_wp2_with (first | (refine wpList_load_mid rfl 148 _ rfl g (k * 5) rfl [.int .i64 wd, .int .i64 wl, .int .i64 1, .int .i64 st, .int .i64 en] _ hrow Tryz.underlying148 rfl (by kernel_rfl) ?_) | (go_at_call 110; refine (HC.out _).mono ?_; rintro e w3 ⟨rfl, hb3⟩; rw [HT.out]; refine Hid.out ?_))
      refine Lib.hid ?_
      have hbw : Below wr.heap.size wr w3 := ((Below.refl _ _).alloc (Nat.le_refl _) _).trans (hb3.mono (by simp))
      have hq := (hb3.block wr.heap.size (by simp)).trans (heap_alloc_new wr _)
      have q0 := cell_of_row _ _ 0 _ _ (0, 0) hq
      have q1 := cell_of_row _ _ 1 _ _ (0, 0) hq
      have q3 := cell_of_row _ _ 3 _ _ (0, 0) hq
      simp at q0 q1 q3
      have hr5 : RefO base bc nodes jobs wall last now (.slice (some ⟨g, 0, none⟩) (roundL nodes now M k).length cap) (roundL nodes now M k) w3 := hr3.kept (S := fun _ => False) (Kept.of_below hbw) (fun _ e => e.elim)
      have hown5 : w3.ownsRow w.heap.size 55 4 u3 (es ++ roundE nodes now M k).length (flatE (es ++ roundE nodes now M k)) := owns_on hown2 (fun k e => hbw.block k (hown2.lt k e).2)
      have hz3 : wr.heap.size < w3.heap.size := (Array.getElem?_eq_some_iff.1 hq).1
      have e5 := hr5.cell 5
      simp at e5
      have HBW := Lib.hid hbw
      clear hb3 hbw hq d5 r0 r1 r2 r3 r4
      by_cases hT : T < st
      ·have HY := Lib.hid (turn_yes (nodes := nodes) (now := now) hj rfl (by simp only; rw [HT.out]; exact hT))
       have hfr := (fine_round hF k).2
       have hlx : (es ++ roundE nodes now M k).length ≤ 900000000000 := by rw [List.length_append]; omega
       have hub : u3.ownBlock ≠ some wr.heap.size := fun e => by have := (hown2.lt _ e).2; omega
       have hug : u3.ownBlock ≠ some g := fun e => owns_apart hown5 hr5.own (by decide) g e (by simp [Value.ownBlock])
       have hs0 := hkp2.size
       have hgw : g < w.heap.size := (h.own.lt g rfl).2
       have HO2 := Lib.hid (fun i e => (hown5.lt i e).1)
       have t0 : 0 ≤ T := by
        have e := (earliest_ge (roundL nodes now M k) nodes now wd wl k (hcR.fine h0).wide h0 (by omega) (by omega)).1
        rw [HT.out] at e
        omega
       have t1 : T + wl ≤ 9000000000000000000 := by omega
       have t2 : 0 ≤ T + wl := by omega
       obtain ⟨px3, cx3, hx3⟩ := own_slice hown5
       subst hx3
       go_wp2_with (at_builtin; refine wpList_append_own _ rfl _ _ 32 rfl w.heap.size 55 i0 (.agg #[.int .i64 0, .int .i64 0, .int .i64 0, .int .i64 0]) 4 32 Tryz.underlying32 hi hz0 hz1 hz2 rfl (by decide) _ _ _ rfl (hown5.alloc _) ⟨w3.heap.size, 0, none⟩ 1 1 [.int .i64 3, .int .i64 ((k : Int) + 1), .int .i64 st, .int .i64 T] rfl rfl (news_at _ #[.int .i64 3, .int .i64 ((k : Int) + 1), .int .i64 st, .int .i64 T] _ _ (by simp)) (by intro u' hu'; simp at hu'; rcases hu' with rfl | rfl | rfl | rfl <;> rfl) (by unfold maxLen; omega) (by omega) (by simp; omega) ?_)
       intro v' w4 hown' hgrow _
       rw [← List.length_append] at hown' hgrow
       have hKg : Kept (fun j => (Value.slice px3 (es ++ roundE nodes now M k).length cx3).ownBlock = some j) w3 w4 := ((Kept.refl _ _).alloc _).grown hgrow (fun i e => Or.inl e)
       have hr6 : RefO base bc nodes jobs wall last now (.slice (some ⟨g, 0, none⟩) (roundL nodes now M k).length cap) (roundL nodes now M k) w4 := hr5.kept hKg (fun i e => ⟨fun e2 => owns_not hown5 hr5.blk (by decide) (e2 ▸ e), fun e2 => by simp [Value.ownBlock] at e2; subst e2; exact hug e⟩)
       have p1 : w4.cell? ⟨wr.heap.size, 1, none⟩ = some (.int .i64 wl) := (World.cell?_of_block (a := ⟨wr.heap.size, 1, none⟩) (hKg.block wr.heap.size hz3 hub)).trans q1
       have f5 := hr6.cell 5
       simp at f5
       have f3 := hr6.own.frozenAt (k * 5 + 3)
       have f4 := hr6.own.frozenAt (k * 5 + 4)
       have c3 := (hr6.own.cellAt (k * 5 + 3) (by omega)).trans (flat_at _ k _ 3 hj (by omega))
       have c4 := (hr6.own.cellAt (k * 5 + 4) (by omega)).trans (flat_at _ k _ 4 hj (by omega))
       simp [Job.cells] at c3 c4
       obtain ⟨pv, cv, hv'⟩ := own_slice hown'
       have n1 : wr.heap.size ≠ g := by omega
       have n2 : bc ≠ g := fun e => hr6.apart (by simp [Value.ownBlock, e])
       have HO := Lib.hid hown'
       have HKG := Lib.hid hKg
       have HR6 := Lib.hid hr6
       clear hown' hgrow hKg hr6 q0 q1 q3 e5
       go_wp2
       have p1' : (w4.setCell ⟨g, k * 5 + 3, none⟩ (.int .i64 T)).cell? ⟨wr.heap.size, 1, none⟩ = some (.int .i64 wl) := (World.cell?_of_block (a := ⟨wr.heap.size, 1, none⟩) (Below.heap_setCell _ _ _ _ n1)).trans p1
       have HF := Lib.hid (refUp_end (j := ⟨wd, wl, 1, st, en⟩) (T := T) hj HR6.out HO.out (by intro e; have := (HO.out.lt g e).1; omega) hkp2 ((Kept.of_below (S := fun i => w.heap.size ≤ i) HBW.out).trans HKG.out (fun i e => Or.inl (HO2.out i e))) (fun i e => e))
       have hP1 := p1
       clear p1'
       go_region
       all_goals
        go_wp2
        refine ⟨⟨k + 1, by omega, by go_num, ?_, ?_, ?_, ?_⟩, by simp [intOf]; omega⟩
        ·rw [roundE_step, HY.out.2]
         simp
        ·rw [roundE_step, HY.out.2, HT.out, ← List.append_assoc]
         exact owns_on HF.out.1 (fun _ _ => rfl)
        ·rw [roundL_step, HY.out.1, HT.out]
         have := HF.out.2.1
         rw [hll, hML] at this
         exact this.on (fun _ _ => rfl)
        ·exact HF.out.2.2.drew
      ·have HN2 := Lib.hid (turn_no (nodes := nodes) (now := now) hj (fun e => hT (by rw [← HT.out]; exact e.2)))
       go_wp2
       exact ⟨HH.out _ HBW.out HN2.out, by simp [intOf]; omega⟩
     ·have HT := Lib.hid (turn_no (nodes := nodes) (now := now) hj (fun e => hp e.1))
      go_wp2_with (refine wpList_load_mid rfl 148 _ rfl g (k * 5) rfl [.int .i64 wd, .int .i64 wl, .int .i64 ph, .int .i64 st, .int .i64 en] _ hrow Tryz.underlying148 rfl (by kernel_rfl) ?_)
      exact ⟨HH.out _ ((Below.refl _ _).alloc (Nat.le_refl _) _) HT.out, by simp [intOf]; omega⟩
    ·obtain rfl : k = M.length := by omega
     obtain ⟨px2, cx2, hx2⟩ := own_slice hown2
     rw [List.length_append] at hx2
     go_wp2
     rw [hx0, hx2]
     by_cases hE : roundE nodes now M M.length = []
     ·have e1 := round_none M.length hE
      rw [e1] at hr2
      rw [hE] at hown2 ⊢
      rw [List.append_nil] at hown2
      rw [hE, List.length_nil, Nat.add_zero] at hx2
      subst hx2
      refine ⟨⟨M, es, hm, hown2, hr2, hkp2, Or.inr ⟨rfl, hE⟩⟩, ?_⟩
      simp
      omega
     ·have hne : (roundE nodes now M M.length).isEmpty = false := by
       cases e : roundE nodes now M M.length with
       | nil => exact absurd e hE
       | cons _ _ => rfl
      have hpos : 0 < (roundE nodes now M M.length).length := List.length_pos_iff.2 hE
      rw [hne]
      subst hx2
      refine ⟨⟨_, _, .more hm hE, hown2, hr2, hkp2, Or.inl rfl⟩, ?_⟩
      simp
      omega
  ·go_wp2
   go_ret
   refine ⟨_, M, es, rfl, ?_, hown, hr, hkp⟩
   have := hm.rounds (.done hE)
   simpa using this

end Go.Proofs.YtpcgnadfldimhaaGreatDoor
namespace Go.Proofs.YtpcgnadfldimhaaGreatDoor
open Go.RowKit

theorem RefO.setNow {base bc : Nat} {nodes jobs wall last now : Int} {v : Value} {L : List Job} {w : World} (h : RefO base bc nodes jobs wall last now v L w) (t : Int) : RefO base bc nodes jobs wall last t v L (w.setCell ⟨bc, 4, none⟩ (.int .i64 t)) :=
 ⟨heap_setCell_same w bc 4 _ _ _ h.blk, ownsRow_setCell_other h.own h.apart _, h.apart, h.low, h.len⟩

/-- How many elements the slice at a has. -/
def lenAt (w : World) (a : Addr) : Nat := match w.cell? a with
 | some (.slice _ n _) => n
 | _ => 0

set_option maxHeartbeats 4000000 in
set_option maxRecDepth 100000 in
theorem tick_no (base bc : Nat) (nodes jobs wall last now : Int) (v : Value) (L : List Job) (w : World) (h : RefO base bc nodes jobs wall last now v L w) (n : Int) (hn : 0 ≤ n) (hn' : n ≤ 999999999999999999) (ht : 0 ≤ now) (ht' : now ≤ 5000000000000000000) (hA : last < now + n) :
  Calls Tryz.prog 79 #[.pointer (some ⟨bc, 0, none⟩), .int .i64 n] w (Left base bc nodes jobs wall last v ⟨7, 0, 0, 0, [], [], now, L⟩ w) := by
 have c3 := h.cell 3
 have c4 := h.cell 4
 simp at c3 c4
 have hlt0 := h.lt
 go_enter Tryz.func79, Tryz.ntmps79
 go_wp2
 exact bodyPost_ret (v := .agg #[.int .i64 7, .int .i64 0, .int .i64 0, .int .i64 0, .slice none 0 0, .slice none 0 0]) (results_cell_row Tryz.results79 _ _ w.heap.size _ _ _ _ rfl (heap_alloc_new w _) Tryz.underlying34 rfl (by kernel_rfl)) rfl (left_refused h ((Kept.refl _ w).alloc _) 7 0 0 0)

theorem cells_one (l : List Ev) (u : Value) (h : u ∈ flatE l) : u.oneCell' = true := by
 simp only [flatE, List.mem_flatMap, Ev.cells, List.mem_cons, List.not_mem_nil, or_false] at h
 obtain ⟨e, _, rfl | rfl | rfl | rfl⟩ := h <;> rfl

/-- How memory stands while time goes on. -/
structure TW (base bc : Nat) (nodes jobs wall last nw : Int) (v : Value) (w : World) (M : List Job) (es : List Ev) (x : Value) (wr : World) : Prop where
 ref : RefO base bc nodes jobs wall last nw v M wr
 own : wr.ownsRow (w.heap.size + 2) 55 4 x es.length (flatE es)
 r : wr.heap[w.heap.size + 1]? = some (.cells #[.int .i64 0, .int .i64 0, .int .i64 0, .int .i64 0, .slice none 0 0, x] 34 (0, 0))
 q : wr.heap[w.heap.size]? = some (.cells #[.int .i64 0, .int .i64 0, .int .i64 0, .int .i64 0, .slice none 0 0, .slice none 0 0] 34 (0, 0))
 kept : Kept (fun k => k = bc ∨ v.ownBlock = some k) w wr
 lt : w.heap.size + 2 ≤ wr.heap.size

theorem TW.drewN {base bc : Nat} {nodes jobs wall last nw : Int} {v : Value} {w : World} {M : List Job} {es : List Ev} {x : Value} {wr : World} (h : TW base bc nodes jobs wall last nw v w M es x wr) (n : Nat) : TW base bc nodes jobs wall last nw v w M es x (wr.drewN n) :=
 ⟨h.ref.on (fun _ _ => rfl), h.own, h.r, h.q, h.kept.drewN n, h.lt⟩

theorem TW.setNow {base bc : Nat} {nodes jobs wall last nw : Int} {v : Value} {w : World} {M : List Job} {es : List Ev} {x : Value} {wr : World} (h : TW base bc nodes jobs wall last nw v w M es x wr) (hb : bc < w.heap.size) (t : Int) : TW base bc nodes jobs wall last t v w M es x (wr.setCell ⟨bc, 4, none⟩ (.int .i64 t)) :=
 ⟨h.ref.setNow t, ownsRow_setCell_other h.own (fun e => by have := (h.own.lt _ e).1; simp at this; omega) _, (Below.heap_setCell _ _ _ _ (by simp; omega)).trans h.r, (Below.heap_setCell _ _ _ _ (by simp; omega)).trans h.q, h.kept.setCell (p := ⟨bc, 4, none⟩) (Or.inl (Or.inl rfl)) _, by simpa using h.lt⟩

theorem TW.alloc {base bc : Nat} {nodes jobs wall last nw : Int} {v : Value} {w : World} {M : List Job} {es : List Ev} {x : Value} {wr : World} (h : TW base bc nodes jobs wall last nw v w M es x wr) (o : Obj) : TW base bc nodes jobs wall last nw v w M es x (wr.alloc o) :=
 ⟨h.ref.kept (S := fun _ => False) ((Kept.refl _ _).alloc o) (fun _ e => e.elim), h.own.alloc o, (Below.heap_alloc _ _ _ (by have := h.lt; omega)).trans h.r, (Below.heap_alloc _ _ _ (by have := h.lt; omega)).trans h.q, h.kept.alloc o, by have := h.lt; simp; omega⟩

/-- Only the row of the jobs has changed. -/
theorem TW.jobs {base bc : Nat} {nodes jobs wall last nw : Int} {v : Value} {w : World} {M : List Job} {es : List Ev} {x : Value} {wr : World} (h : TW base bc nodes jobs wall last nw v w M es x wr) {M' : List Job} {w' : World} (hv : ∀ k, v.ownBlock = some k → k < w.heap.size) (hk : Kept (fun k => v.ownBlock = some k) wr w') (hr : RefO base bc nodes jobs wall last nw v M' w') : TW base bc nodes jobs wall last nw v w M' es x w' := by
 have hlt := h.lt
 refine ⟨hr, owns_on h.own (fun k e => hk.block k (h.own.lt k e).2 (fun e2 => ?_)), (hk.block _ (by omega) (fun e2 => ?_)).trans h.r, (hk.block _ (by omega) (fun e2 => ?_)).trans h.q, h.kept.trans hk (fun i e => Or.inl (Or.inr e)), Nat.le_trans hlt hk.size⟩
 ·have := hv _ e2
  have := (h.own.lt k e).1
  omega
 ·have := hv _ e2
  omega
 ·have := hv _ e2
  omega

/-- Events more. -/
theorem TW.push {base bc : Nat} {nodes jobs wall last nw : Int} {v : Value} {w : World} {M : List Job} {es : List Ev} {x : Value} {wr : World} (h : TW base bc nodes jobs wall last nw v w M es x wr) (hb : bc < w.heap.size) (hv : ∀ k, v.ownBlock = some k → k < w.heap.size) {ns : List Ev} {x' : Value} {w' : World} (hg : wr.grownBy w' x.ownBlock) (ho : w'.ownsRow (w.heap.size + 2) 55 4 x' (es.length + ns.length) (flatE es ++ flatE ns)) :
  TW base bc nodes jobs wall last nw v w M (es ++ ns) x' (w'.setCell ⟨w.heap.size + 1, 5, none⟩ x') := by
 have hlt := h.lt
 have hsz := hg.size
 have hx : ∀ k, x.ownBlock = some k → w.heap.size + 2 ≤ k := fun k e => (h.own.lt k e).1
 have hk1 : Kept (fun k => x.ownBlock = some k) wr w' := (Kept.refl _ _).grown hg (fun i e => Or.inl e)
 have hr1 := h.ref.kept hk1 (fun k e => ⟨fun e2 => by have := hx k e; omega, fun e2 => by have := hx k e; have := hv k e2; omega⟩)
 have hk2 : Kept (fun k => k = w.heap.size + 1) w' (w'.setCell ⟨w.heap.size + 1, 5, none⟩ x') := (Kept.refl (fun k => k = w.heap.size + 1) w').setCell (p := ⟨w.heap.size + 1, 5, none⟩) (Or.inl rfl) x'
 refine ⟨hr1.kept hk2 (fun k e => ⟨by omega, fun e2 => by have := hv k e2; omega⟩), ?_, heap_setCell_same w' _ 5 _ _ x' ((hk1.block _ (by omega) (fun e => by have := hx _ e; omega)).trans h.r), (hk2.block _ (by omega) (by omega)).trans ((hk1.block _ (by omega) (fun e => by have := hx _ e; omega)).trans h.q), (h.kept.grown hg (fun i e => Or.inr (by have := hx i e; omega))).setCell (p := ⟨w.heap.size + 1, 5, none⟩) (Or.inr (by simp)) x', by simp; omega⟩
 have e : flatE (es ++ ns) = flatE es ++ flatE ns := by simp [flatE]
 rw [e, List.length_append]
 exact ownsRow_setCell_other ho (fun e => absurd (ho.lt _ e).1 (by simp)) x'

set_option maxHeartbeats 8000000 in
set_option maxRecDepth 100000 in
theorem tick_yes (base bc : Nat) (nodes jobs wall last now : Int) (v : Value) (L : List Job) (w : World) (h : RefO base bc nodes jobs wall last now v L w) (n : Int) (hn : 0 ≤ n) (hn' : n ≤ 999999999999999999) (ht : 0 ≤ now) (ht' : now ≤ 5000000000000000000) (hA : now + n ≤ last) :
  Calls Tryz.prog 79 #[.pointer (some ⟨bc, 0, none⟩), .int .i64 n] w fun e w' => ∃ M es, Goes (now + n) L M es ∧ nextN M (now + n) M.length < 0 ∧ Left base bc nodes jobs wall last v ⟨0, 0, 0, 0, [], es, now + n, M⟩ w e w' := by
 obtain ⟨i0, hi, hz0, hz1, hz2⟩ := info_parts Tryz.infoEv
 have c3 := h.cell 3
 have c4 := h.cell 4
 simp at c3 c4
 have hlt0 := h.lt
 have hlen := h.len
 go_enter Tryz.func79, Tryz.ntmps79
 have hz : TW base bc nodes jobs wall last now v w L [] (.slice none 0 0) ((w.alloc (.cells #[.int .i64 0, .int .i64 0, .int .i64 0, .int .i64 0, .slice none 0 0, .slice none 0 0] 34)).alloc (.cells #[.int .i64 0, .int .i64 0, .int .i64 0, .int .i64 0, .slice none 0 0, .slice none 0 0] 34)) := by
  have hk : Kept (fun _ => False) w ((w.alloc (.cells #[.int .i64 0, .int .i64 0, .int .i64 0, .int .i64 0, .slice none 0 0, .slice none 0 0] 34)).alloc (.cells #[.int .i64 0, .int .i64 0, .int .i64 0, .int .i64 0, .slice none 0 0, .slice none 0 0] 34)) := ((Kept.refl _ _).alloc _).alloc _
  exact ⟨h.kept hk (fun _ e => e.elim), World.ownsRow_nil _ _ _ _, alloc_at _ _ _ (by simp), (Below.heap_alloc _ _ _ (by simp)).trans (heap_alloc_new _ _), hk.mono (fun _ e => e.elim), by simp⟩
 obtain ⟨p, cap, rfl, hC⟩ := hz.ref.toC
 have hvb : ∀ k, (Value.slice p L.length cap).ownBlock = some k → k < w.heap.size := fun k e => (h.own.lt k e).2
 have HVB := Lib.hid hvb
 clear hvb
 have HZ := Lib.hid hz
 clear hz
 go_wp2_with (go_at_call 114; refine (next_any bc nodes jobs wall last now p cap L _ hC (now + n)).mono ?_; rintro e w' ⟨rfl, rfl⟩)
 go_loopw [7] (fun tv wr => ∃ M es x nw, tv = .int .i64 (nextN M (now + n) M.length) ∧ Goes (now + n) L M es ∧ TW base bc nodes jobs wall last nw (.slice p L.length cap) w M es x wr) (fun _ wr => 2 * L.length - lenAt wr ⟨w.heap.size + 1, 5, none⟩)
 case atStart => exact ⟨L, [], _, now, rfl, .none, HZ.out⟩
 case round =>
  obtain ⟨WR, hWR⟩ : ∃ W, W = wr := ⟨_, rfl⟩
  obtain ⟨M, es, x, nw, rfl, hG, hTW⟩ := hrel
  rw [← hWR] at hTW ⊢
  clear hWR
  have HG := Lib.hid hG
  clear hG HZ hC
  obtain ⟨t, HT⟩ : ∃ t, Hid (nextN M (now + n) M.length = t) := ⟨_, Lib.hid rfl⟩
  rw [HT.out]
  have hlm := (goes_todo HG.out).2
  by_cases ht0 : 0 ≤ t
  ·have g4 := hTW.ref.cell 4
   have gf4 := hTW.ref.frozen 4
   simp at g4
   obtain ⟨px0, cx0, rfl⟩ := own_slice hTW.own
   have HLen : Hid (lenAt WR ⟨w.heap.size + 1, 5, none⟩ = es.length) := Lib.hid (by
    have e := cell_of_row _ _ 5 _ _ (0, 0) hTW.r
    simp at e
    simp [lenAt, e])
   have hT1 := hTW.setNow hlt0 t
   have HT1 := Lib.hid hT1
   clear hT1 hTW
   go_wp2_with fail
   go_loopw [8] (fun iv w2 => ∃ k x2, iv = .int .i64 ((k : Nat) : Int) ∧ k ≤ M.length ∧ TW base bc nodes jobs wall last t (.slice p L.length cap) w (haltL M t k) (es ++ haltE M t k) x2 w2) (fun iv _ => M.length - (intOf iv).toNat)
   case atStart => exact ⟨0, _, rfl, Nat.zero_le _, by rw [haltL_zero]; simpa [haltE] using HT1.out⟩
   case round =>
    obtain ⟨k, x2, rfl, hk, hW⟩ := hrel
    obtain ⟨E, HE⟩ : ∃ E, Hid (es ++ haltE M t k = E) := ⟨_, Lib.hid rfl⟩
    rw [HE.out] at hW
    have hEl : E.length ≤ todo L + M.length := by
     have h1 := (goes_todo HG.out).1
     have h2 := haltE_len M t k
     rw [← HE.out, List.length_append]
     omega
    obtain ⟨px, cx, rfl⟩ := own_slice hW.own
    have hll : (haltL M t k).length = L.length := (haltL_len M t k).trans hlm
    have d5 := hW.ref.cell 5
    simp at d5
    by_cases hlt : k < M.length
    ·obtain ⟨j, hj⟩ : ∃ j, M[k]? = some j := ⟨_, List.getElem?_eq_getElem hlt⟩
     have hj' : (haltL M t k)[k]? = some j := (haltL_at M t k).trans hj
     obtain ⟨g, rfl⟩ : ∃ g, p = some ⟨g, 0, none⟩ := by
      rcases own_forms hW.ref.own with ⟨_, hn⟩ | ⟨g, c2, e⟩
      ·rw [hll] at hn
       omega
      ·exact ⟨g, by simpa using (Value.slice.inj e).1⟩
     have hr' : RefO base bc nodes jobs wall last t (.slice (some ⟨g, 0, none⟩) (haltL M t k).length cap) (haltL M t k) wr := by rw [hll]; exact hW.ref
     have HS := Lib.hid (haltE_step M t k j hj)
     have HL := Lib.hid (haltL_step M t k j hj)
     have r2 := (hr'.own.cellAt (k * 5 + 2) (by omega)).trans (flat_at _ k j 2 hj' (by omega))
     have r4 := (hr'.own.cellAt (k * 5 + 4) (by omega)).trans (flat_at _ k j 4 hj' (by omega))
     have f2 := hr'.own.frozenAt (k * 5 + 2)
     obtain ⟨wd, wl, ph, st, en⟩ := j
     simp [Job.cells] at r2 r4
     have HR' := Lib.hid hr'
     have HW := Lib.hid hW
     clear hr' hW
     by_cases hg : ph = 2 ∧ en = t
     ·obtain ⟨rfl, rfl⟩ := hg
      have HS2 : Hid (haltE M en (k + 1) = haltE M en k ++ [⟨2, (k : Int) + 1, en, 0⟩]) := Lib.hid (by rw [haltE_step M en k _ hj, if_pos ⟨rfl, rfl⟩])
      have hgo : Job.halt en ⟨wd, wl, 2, st, en⟩ = ⟨wd, wl, 4, st, en⟩ := by simp [Job.halt]
      have hst := HR'.out.store k ⟨wd, wl, 2, st, en⟩ ⟨wd, wl, 4, st, en⟩ 2 (.int .i64 4) hj' (by omega) rfl
      rw [hll] at hst
      have hW1 := HW.out.jobs HVB.out ((Kept.refl (fun k => (Value.slice (some ⟨g, 0, none⟩) L.length cap).ownBlock = some k) wr).setCell (p := ⟨g, k * 5 + 2, none⟩) (Or.inl rfl) (.int .i64 4)) hst
      rw [← hgo, ← HL.out] at hW1
      have m5 := cell_of_row _ _ 5 _ _ (0, 0) hW1.r
      simp at m5
      have hw2 := hW1.lt
      simp at hw2
      have hel2 := todo_le L
      have HW1 := Lib.hid hW1
      clear hst hW1
      go_wp2_with (at_builtin; refine wpList_append_lies _ rfl _ _ 32 rfl (w.heap.size + 2) 55 i0 (.agg #[.int .i64 0, .int .i64 0, .int .i64 0, .int .i64 0]) 4 32 Tryz.underlying32 hi hz0 hz1 hz2 rfl (by decide) _ _ _ rfl (HW1.out.own.alloc _) ⟨wr.heap.size, 0, none⟩ 1 1 [.int .i64 2, .int .i64 ((k : Int) + 1), .int .i64 en, .int .i64 0] rfl rfl (news_at _ #[.int .i64 2, .int .i64 ((k : Int) + 1), .int .i64 en, .int .i64 0] _ _ (by simp)) (by intro u' hu'; simp at hu'; rcases hu' with rfl | rfl | rfl | rfl <;> rfl) (by decide) (by unfold maxLen; omega) (by omega) (by simp; omega) _ rfl ?_)
      intro g2 c3' w4 hown4 hgrow hat hlt4
      have hW2 := (HW1.out.alloc (.cells #[.int .i64 2, .int .i64 ((k : Int) + 1), .int .i64 en, .int .i64 0] 55)).push (ns := [⟨2, (k : Int) + 1, en, 0⟩]) hlt0 HVB.out hgrow (by simpa [flatE, Ev.cells] using hown4)
      have k5 : w4.heap[w.heap.size + 1]? = _ := (hgrow.block _ (by simp; omega) (fun e => by have := (HW1.out.own.lt _ e.symm).1; omega)).trans (HW1.out.alloc _).r
      have n5 := cell_of_row _ _ 5 _ _ (0, 0) k5
      have nf := frozen_of_row _ _ 5 _ _ k5
      simp at n5
      have HW2 := Lib.hid hW2
      clear hW2 hown4 hgrow k5
      go_wp2
      all_goals exact ⟨⟨k + 1, _, by go_num, by omega, by rw [HS2.out, ← List.append_assoc, HE.out]; exact HW2.out⟩, by simp [intOf]; omega⟩
     ·have hW3 : Hid (TW base bc nodes jobs wall last t (.slice (some ⟨g, 0, none⟩) L.length cap) w (haltL M t (k + 1)) (es ++ haltE M t (k + 1)) (.slice px E.length cx) wr) := Lib.hid (by
       have e1 : Job.halt t ⟨wd, wl, ph, st, en⟩ = ⟨wd, wl, ph, st, en⟩ := by simp only [Job.halt]; rw [if_neg hg]
       have e2 : (haltL M t k).set k ⟨wd, wl, ph, st, en⟩ = haltL M t k := by
        have := (List.getElem?_eq_some_iff.1 hj').2
        rw [← this]
        exact List.set_getElem_self _
       rw [HL.out, HS.out, if_neg hg, e1, e2, HE.out]
       exact HW.out)
      by_cases h1 : ph = 2
      ·subst h1
       have h2 : ¬ en = t := fun e => hg ⟨rfl, e⟩
       go_wp2
       exact ⟨⟨k + 1, _, by go_num, by omega, hW3.out⟩, by simp [intOf]; omega⟩
      ·go_wp2
       exact ⟨⟨k + 1, _, by go_num, by omega, hW3.out⟩, by simp [intOf]; omega⟩
    ·obtain rfl : k = M.length := by omega
     have hW' := hW
     rw [haltL_all] at hW'
     have HW := Lib.hid hW'
     clear hW hW'
     go_wp2_with (go_at_call 111; refine (starts_any base bc nodes jobs wall last t _ (M.map (Job.halt t)) _ HW.out.ref).mono ?_; rintro e w5 ⟨y, rfl, hown5, hR5, hk5⟩; refine Hid.out ?_)
     refine Lib.hid ?_
     have hW5 := HW.out.jobs HVB.out hk5 hR5
     obtain ⟨N, HN⟩ : ∃ N, Hid (startE (M.map (Job.halt t)) t (M.map (Job.halt t)).length = N) := ⟨_, Lib.hid rfl⟩
     rw [HN.out] at hown5
     have hNl : N.length ≤ M.length := by
      have := startE_len (M.map (Job.halt t)) t (M.map (Job.halt t)).length
      rw [HN.out] at this
      simpa using this
     have HM : Hid (es ++ momE M t = E ++ N) := Lib.hid (by
      rw [← HE.out, ← HN.out, momE, List.append_assoc, List.length_map])
     have hel2 := todo_le L
     have m5 := cell_of_row _ _ 5 _ _ (0, 0) hW5.r
     have mf := frozen_of_row _ _ 5 _ _ hW5.r
     simp at m5
     have hw5 := hW5.lt
     have HW5 := Lib.hid hW5
     clear hW5 hR5 hk5
     have fin : ∀ (W : World) (X : Value), TW base bc nodes jobs wall last t (.slice p L.length cap) w (momL M t) (E ++ N) X W → Calls Tryz.prog 114 #[.pointer (some ⟨bc, 0, none⟩), .int .i64 (now + n)] W fun e w' => e = .returned (.int .i64 (nextN (momL M t) (now + n) (momL M t).length)) ∧ w' = W := fun W X hX => by
      obtain ⟨p2, cap2, _, hC2⟩ := hX.ref.toC
      exact next_any bc nodes jobs wall last t p2 cap2 _ W hC2 (now + n)
     have FIN := Lib.hid fin
     clear fin
     have HGm : Hid (Goes (now + n) L (momL M t) (E ++ N)) := Lib.hid (by
      rw [← HM.out]
      have := Goes.more HG.out (by rw [HT.out]; exact ht0)
      rw [HT.out] at this
      exact this)
     have LEN : Hid (∀ (W : World) (X : Value), TW base bc nodes jobs wall last t (.slice p L.length cap) w (momL M t) (E ++ N) X W → 2 * L.length - lenAt W ⟨w.heap.size + 1, 5, none⟩ < 2 * L.length - lenAt WR ⟨w.heap.size + 1, 5, none⟩) := Lib.hid (fun W X hX => by
      obtain ⟨p3, c3, rfl⟩ := own_slice hX.own
      have e := cell_of_row _ _ 5 _ _ (0, 0) hX.r
      simp at e
      have e2 : lenAt W ⟨w.heap.size + 1, 5, none⟩ = (E ++ N).length := by simp [lenAt, e]
      have e3 := (goes_todo HGm.out).1
      have e4 : 1 ≤ (momE M t).length := by
       obtain ⟨j, hj, hd⟩ := next_due M (now + n) M.length (by rw [HT.out]; exact ht0)
       rw [HT.out] at hd
       exact mom_some M t ⟨j, hj, by omega, hd⟩
      have e5 : (E ++ N).length = es.length + (momE M t).length := by rw [← HM.out, List.length_append]
      rw [e2, HLen.out]
      omega)
     rcases own_forms hown5 with ⟨rfl, hn0⟩ | ⟨gy, cy, rfl⟩
     ·have hN0 : N = [] := List.eq_nil_of_length_eq_zero hn0
      have hP := HW5.out.push (ns := N) hlt0 HVB.out (⟨rfl, rfl, rfl, Nat.le_refl _, fun _ _ _ => rfl⟩ : w5.grownBy w5 _) (by rw [hN0]; simpa [flatE] using HW5.out.own)
      have HP := Lib.hid hP
      clear hP
      go_wp2_with (first | (at_builtin; refine wpList_append_own_none rfl _ _ 32 rfl (w.heap.size + 2) 55 i0 4 Tryz.underlying32 hi _ _ _ rfl HW5.out.own rfl ?_) | (go_at_call 114; refine (FIN.out _ _ HP.out).mono ?_; rintro e w' ⟨rfl, rfl⟩))
      all_goals exact ⟨⟨momL M t, E ++ N, _, t, rfl, HGm.out, HP.out⟩, LEN.out _ _ HP.out⟩
     ·have hc1 := hown5.1
      have hce := fun u hu => cells_one N u hu
      have hsz5 : wr.heap.size ≤ w5.heap.size := by have := (hown5.lt gy rfl); omega
      have HO5 := Lib.hid hown5
      clear hown5
      go_wp2_with (at_builtin; refine wpList_append_own _ rfl _ _ 32 rfl (w.heap.size + 2) 55 i0 (.agg #[.int .i64 0, .int .i64 0, .int .i64 0, .int .i64 0]) 4 32 Tryz.underlying32 hi hz0 hz1 hz2 rfl (by decide) _ _ _ rfl HW5.out.own ⟨gy, 0, none⟩ N.length cy (flatE N) rfl hc1 (HO5.out.cells rfl) hce (by unfold maxLen; omega) (by omega) (by omega) ?_)
      intro v6 w6 hown6 hgrow _
      have hP := HW5.out.push (ns := N) hlt0 HVB.out hgrow hown6
      obtain ⟨p6, c6, rfl⟩ := own_slice hown6
      have k5 : w6.heap[w.heap.size + 1]? = _ := (hgrow.block _ (by omega) (fun e => by have := (HW5.out.own.lt _ e.symm).1; omega)).trans HW5.out.r
      have n5 := cell_of_row _ _ 5 _ _ (0, 0) k5
      have nf := frozen_of_row _ _ 5 _ _ k5
      simp at n5
      have HP := Lib.hid hP
      clear hP hown6 hgrow k5
      go_wp2_with fail
      refine (FIN.out _ _ HP.out).mono ?_
      rintro e w' ⟨rfl, rfl⟩
      go_wp2
      all_goals exact ⟨⟨momL M t, E ++ N, _, t, rfl, HGm.out, HP.out⟩, LEN.out _ _ HP.out⟩
  ·obtain ⟨px0, cx0, rfl⟩ := own_slice hTW.own
   have hN := hTW.setNow hlt0 (now + n)
   have g4 := hTW.ref.cell 4
   have gf4 := hTW.ref.frozen 4
   simp at g4
   have m0 := cell_of_row _ _ 0 _ _ (0, 0) hN.r
   have m1 := cell_of_row _ _ 1 _ _ (0, 0) hN.r
   have m2 := cell_of_row _ _ 2 _ _ (0, 0) hN.r
   have m3 := cell_of_row _ _ 3 _ _ (0, 0) hN.r
   have m4 := cell_of_row _ _ 4 _ _ (0, 0) hN.r
   have m5 := cell_of_row _ _ 5 _ _ (0, 0) hN.r
   have mf := fun j => frozen_of_row _ _ j _ _ hN.r
   have n0 := cell_of_row _ _ 0 _ _ (0, 0) hN.q
   have n1 := cell_of_row _ _ 1 _ _ (0, 0) hN.q
   have n2 := cell_of_row _ _ 2 _ _ (0, 0) hN.q
   have n3 := cell_of_row _ _ 3 _ _ (0, 0) hN.q
   have n4 := cell_of_row _ _ 4 _ _ (0, 0) hN.q
   have n5 := cell_of_row _ _ 5 _ _ (0, 0) hN.q
   have nf := fun j => frozen_of_row _ _ j _ _ hN.q
   simp at m0 m1 m2 m3 m4 m5 n0 n1 n2 n3 n4 n5
   have HN := Lib.hid hN
   clear hN hTW
   generalize hWN : WR.setCell ⟨bc, 4, none⟩ (.int .i64 (now + n)) = WN at *
   go_wp2
   have hk9 := (Kept.refl (fun k => k = w.heap.size) WN).six (g := w.heap.size) (Or.inl rfl) (.int .i64 0) (.int .i64 0) (.int .i64 0) (.int .i64 0) (.slice none 0 0) (.slice px0 es.length cx0)
   have hlt9 := HN.out.lt
   refine bodyPost_ret (v := .agg #[.int .i64 0, .int .i64 0, .int .i64 0, .int .i64 0, .slice none 0 0, .slice px0 es.length cx0]) (results_cell_row Tryz.results79 _ _ w.heap.size _ _ _ _ rfl (six_block HN.out.q _ _ _ _ _ _) Tryz.underlying34 rfl (by kernel_rfl)) rfl ?_
   refine ⟨M, es, HG.out, by rw [HT.out]; omega, .slice none 0 0, .slice px0 es.length cx0, .slice p L.length cap, rfl, World.ownsRow_nil _ _ _ _, ?_, ?_, HN.out.kept.six (Or.inr (Nat.le_refl _)) _ _ _ _ _ _, fun k e => Or.inl e⟩
   ·exact owns_on (owns_mono HN.out.own (by omega)) (fun k e => hk9.block k (HN.out.own.lt k e).2 (by have := (HN.out.own.lt k e).1; omega))
   ·exact HN.out.ref.kept hk9 (fun k e => ⟨by omega, fun e2 => by have := HVB.out k e2; omega⟩)

theorem tick_ref (base bc : Nat) (nodes jobs wall last now : Int) (v : Value) (L : List Job) (w : World) (h : RefO base bc nodes jobs wall last now v L w) (n : Int) (hn : 0 ≤ n) (hn' : n ≤ 999999999999999999) (ht : 0 ≤ now) (ht' : now ≤ 5000000000000000000) :
  Calls Tryz.prog 79 #[.pointer (some ⟨bc, 0, none⟩), .int .i64 n] w fun e w' => ∃ o, TickO last now L n o ∧ Left base bc nodes jobs wall last v o w e w' := by
 by_cases hA : last < now + n
 ·exact (tick_no base bc nodes jobs wall last now v L w h n hn hn' ht ht' hA).mono fun e w' hl => ⟨_, Or.inl ⟨hA, rfl⟩, hl⟩
 ·exact (tick_yes base bc nodes jobs wall last now v L w h n hn hn' ht ht' (by omega)).mono fun e w' ⟨M, es, h1, h2, h3⟩ => ⟨_, Or.inr ⟨by omega, M, es, h1, h2, rfl⟩, h3⟩

end Go.Proofs.YtpcgnadfldimhaaGreatDoor
namespace Go.Proofs.YtpcgnadfldimhaaGreatDoor
open Go.RowKit

theorem rendOk_some {k x y : Int} (h : rendOk k x y = true) : ((rend k x y).toList == []) = false := by
 have h' := h
 simp only [rendOk, Bool.and_eq_true, decide_eq_true_eq] at h'
 obtain ⟨⟨⟨h1, h7⟩, _⟩, _⟩ := h'
 have hw := word_ne k.toNat (by omega) (by omega)
 unfold rend
 rw [if_pos h]
 rw [beq_eq_false_iff_ne] at hw ⊢
 intro e
 apply hw
 have e2 : (rendL k.toNat x y) = [] := by simpa [ByteArray.toList_eq] using e
 simp [rendL] at e2
 simpa [ByteArray.toList_eq] using e2.1
theorem rendOk_none {k x y : Int} (h : rendOk k x y = false) : ((rend k x y).toList == []) = true := by
 unfold rend
 rw [if_neg (by rw [h]; decide)]
 simp [ByteArray.toList_eq]

/-- What a call leaves that was made by another, which hands its answer on. -/
theorem left_wrap {base bc : Nat} {nodes jobs wall last : Int} {v y x v' : Value} {o : Out} {w w1 w2 : World} (hk1 : Kept (fun _ => False) w w1) (hb : bc < w.heap.size) (hv : ∀ k, v.ownBlock = some k → k < w.heap.size)
  (hy : w2.ownsRow w1.heap.size 57 4 y o.rows.length (flatR o.rows)) (hx : w2.ownsRow w1.heap.size 55 4 x o.evs.length (flatE o.evs)) (hR : RefO base bc nodes jobs wall last o.now v' o.L w2) (hk : Kept (fun k => k = bc ∨ v.ownBlock = some k) w1 w2) (hv' : ∀ k, v'.ownBlock = some k → v.ownBlock = some k ∨ w1.heap.size ≤ k)
  (g : Nat) (hg : w.heap.size ≤ g) (hg' : g < w1.heap.size) (a0 a1 a2 a3 a4 a5 : Value) :
  Left base bc nodes jobs wall last v o w (.returned (.agg #[.int .i64 o.err, .int .i64 o.a, .int .i64 o.b, .int .i64 o.c, y, x])) (six w2 g a0 a1 a2 a3 a4 a5) := by
 have hs1 := hk1.size
 have hs2 := hk.size
 have h9 := (Kept.refl (fun k => k = g) w2).six (g := g) (Or.inl rfl) a0 a1 a2 a3 a4 a5
 refine ⟨y, x, v', rfl, ?_, ?_, ?_, ?_, fun k e => (hv' k e).imp id (fun e => by omega)⟩
 ·exact owns_on (owns_mono hy hs1) (fun k e => h9.block k (hy.lt k e).2 (by have := (hy.lt k e).1; omega))
 ·exact owns_on (owns_mono hx hs1) (fun k e => h9.block k (hx.lt k e).2 (by have := (hx.lt k e).1; omega))
 ·exact hR.kept h9 (fun k e => ⟨by omega, fun e2 => by
   rcases hv' k e2 with e3 | e3
   ·have := hv k e3
    omega
   ·omega⟩)
 ·exact ((hk1.mono (fun _ e => e.elim)).trans hk (fun i e => Or.inl e)).six (Or.inr hg) a0 a1 a2 a3 a4 a5

theorem left_block {bc : Nat} {v : Value} {w w1 w2 : World} {g : Nat} {c : Obj} (hb : bc < w.heap.size) (hv : ∀ k, v.ownBlock = some k → k < w.heap.size) (hk : Kept (fun k => k = bc ∨ v.ownBlock = some k) w1 w2) (hg : w.heap.size ≤ g) (hg' : g < w1.heap.size) (h : w1.heap[g]? = some c) : w2.heap[g]? = some c :=
 (hk.block g hg' (fun e => e.elim (by omega) (fun e2 => by have := hv g e2; omega))).trans h

set_option maxHeartbeats 4000000 in
set_option maxRecDepth 100000 in
theorem do_bad (base bc : Nat) (nodes jobs wall last now : Int) (v : Value) (L : List Job) (w : World) (h : RefO base bc nodes jobs wall last now v L w) (_hw : Widths L) (_hT : Times L) (_hn : 1 ≤ nodes) (_hn' : nodes ≤ 64) (_hwa : wall ≤ 1000000000) (_ht : 0 ≤ now) (_ht' : now ≤ 5000000000000000000) (_hl : L.length < 1000000000) (_hbase : base ≤ w.heap.size) (k x y : Int) (hr : rendOk k x y = false) :
  Calls Tryz.prog 44 #[.pointer (some ⟨bc, 0, none⟩), .agg #[.int .i64 k, .int .i64 x, .int .i64 y]] w (Left base bc nodes jobs wall last v ⟨1, 0, 0, 0, [], [], now, L⟩ w) := by
 have hlt0 := h.lt
 have hvb : ∀ k, v.ownBlock = some k → k < w.heap.size := fun k e => (h.own.lt k e).2
 have hs := rendOk_none hr
 obtain ⟨s, HS⟩ : ∃ s, Hid (rend k x y = s) := ⟨_, Lib.hid rfl⟩
 rw [HS.out] at hs
 clear hr
 go_enter Tryz.func44, Tryz.ntmps44
 go_wp2_with (go_at_call 42; refine (refR_any _ k x y).mono ?_; rintro e w1 ⟨rfl, hb1⟩; rw [HS.out]; refine Hid.out ?_)
 refine Lib.hid ?_
 have hz1 := hb1.size
 simp at hz1
 have hx1 : w1.heap[w.heap.size]? = some (.cells #[.int .i64 k, .int .i64 x, .int .i64 y] 29 (0, 0)) := (hb1.block _ (by simp; omega)).trans ((Below.heap_alloc _ _ _ (by simp)).trans (heap_alloc_new _ _))
 have hq1 : w1.heap[w.heap.size + 1]? = some (.cells #[.int .i64 0, .int .i64 0, .int .i64 0, .int .i64 0, .slice none 0 0, .slice none 0 0] 34 (0, 0)) := (hb1.block _ (by simp)).trans (alloc_at _ _ _ (by simp))
 have hk1 : Kept (fun _ => False) w w1 := (((Kept.refl _ w).alloc _).alloc _).trans (T := fun _ => False) (Kept.of_below hb1) (fun _ e => e.elim)
 have hR1 := h.kept hk1 (fun _ e => e.elim)
 have x0 := cell_of_row _ _ 0 _ _ (0, 0) hx1
 have x1 := cell_of_row _ _ 1 _ _ (0, 0) hx1
 have x2 := cell_of_row _ _ 2 _ _ (0, 0) hx1
 have q0 := cell_of_row _ _ 0 _ _ (0, 0) hq1
 have q1 := cell_of_row _ _ 1 _ _ (0, 0) hq1
 have q2 := cell_of_row _ _ 2 _ _ (0, 0) hq1
 have q3 := cell_of_row _ _ 3 _ _ (0, 0) hq1
 have q4 := cell_of_row _ _ 4 _ _ (0, 0) hq1
 have q5 := cell_of_row _ _ 5 _ _ (0, 0) hq1
 have qf := fun j => frozen_of_row _ _ j _ _ hq1
 simp at x0 x1 x2 q0 q1 q2 q3 q4 q5
 clear hb1
 go_wp2
 exact bodyPost_ret (v := .agg #[.int .i64 1, .int .i64 0, .int .i64 0, .int .i64 0, .slice none 0 0, .slice none 0 0]) (results_cell_row Tryz.results44 _ _ (w.heap.size + 1) _ _ _ _ rfl (six_block hq1 _ _ _ _ _ _) Tryz.underlying34 rfl (by kernel_rfl)) rfl (left_refused h (hk1.six (Or.inr (by omega)) _ _ _ _ _ _) 1 0 0 0)

set_option maxHeartbeats 4000000 in
set_option maxRecDepth 100000 in
theorem do_submit (base bc : Nat) (nodes jobs wall last now : Int) (v : Value) (L : List Job) (w : World) (h : RefO base bc nodes jobs wall last now v L w) (hw : Widths L) (hT : Times L) (hn : 1 ≤ nodes) (hn' : nodes ≤ 64) (hwa : wall ≤ 1000000000) (ht : 0 ≤ now) (ht' : now ≤ 5000000000000000000) (hl : L.length < 1000000000) (hbase : base ≤ w.heap.size) (x y : Int) (hr : rendOk 1 x y = true) (o : Out) (HO : Hid (submitO nodes jobs wall now L x y = o)) :
  Calls Tryz.prog 44 #[.pointer (some ⟨bc, 0, none⟩), .agg #[.int .i64 1, .int .i64 x, .int .i64 y]] w (Left base bc nodes jobs wall last v o w) := by
 have hlt0 := h.lt
 have hvb : ∀ k, v.ownBlock = some k → k < w.heap.size := fun k e => (h.own.lt k e).2
 have hs := rendOk_some hr
 obtain ⟨s, HS⟩ : ∃ s, Hid (rend 1 x y = s) := ⟨_, Lib.hid rfl⟩
 rw [HS.out] at hs
 clear hr
 go_enter Tryz.func44, Tryz.ntmps44
 go_wp2_with (go_at_call 42; refine (refR_any _ 1 x y).mono ?_; rintro e w1 ⟨rfl, hb1⟩; rw [HS.out]; refine Hid.out ?_)
 refine Lib.hid ?_
 have hz1 := hb1.size
 simp at hz1
 have hx1 : w1.heap[w.heap.size]? = some (.cells #[.int .i64 1, .int .i64 x, .int .i64 y] 29 (0, 0)) := (hb1.block _ (by simp; omega)).trans ((Below.heap_alloc _ _ _ (by simp)).trans (heap_alloc_new _ _))
 have hq1 : w1.heap[w.heap.size + 1]? = some (.cells #[.int .i64 0, .int .i64 0, .int .i64 0, .int .i64 0, .slice none 0 0, .slice none 0 0] 34 (0, 0)) := (hb1.block _ (by simp)).trans (alloc_at _ _ _ (by simp))
 have hk1 : Kept (fun _ => False) w w1 := (((Kept.refl _ w).alloc _).alloc _).trans (T := fun _ => False) (Kept.of_below hb1) (fun _ e => e.elim)
 have hR1 := h.kept hk1 (fun _ e => e.elim)
 have x0 := cell_of_row _ _ 0 _ _ (0, 0) hx1
 have x1 := cell_of_row _ _ 1 _ _ (0, 0) hx1
 have x2 := cell_of_row _ _ 2 _ _ (0, 0) hx1
 have q0 := cell_of_row _ _ 0 _ _ (0, 0) hq1
 have q1 := cell_of_row _ _ 1 _ _ (0, 0) hq1
 have q2 := cell_of_row _ _ 2 _ _ (0, 0) hq1
 have q3 := cell_of_row _ _ 3 _ _ (0, 0) hq1
 have q4 := cell_of_row _ _ 4 _ _ (0, 0) hq1
 have q5 := cell_of_row _ _ 5 _ _ (0, 0) hq1
 have qf := fun j => frozen_of_row _ _ j _ _ hq1
 simp at x0 x1 x2 q0 q1 q2 q3 q4 q5
 clear hb1
 have hC := submit_ref base bc nodes jobs wall last now v L w1 hR1 hw hT x y hn hn' hwa ht ht' hl (by omega)
 rw [HO.out] at hC
 have HC := Lib.hid hC
 clear hC
 go_wp2_with (go_at_call 77; refine (HC.out).mono ?_; rintro e w2 ⟨y, z, v', rfl, hy, hx, hR, hk, hv'⟩; refine Hid.out ?_)
 refine Lib.hid ?_
 obtain ⟨py, cy, rfl⟩ := own_slice hy
 obtain ⟨pz, cz, rfl⟩ := own_slice hx
 have hq2 := left_block hlt0 hvb hk (by omega) (by omega) hq1
 have r0 := cell_of_row _ _ 0 _ _ (0, 0) hq2
 have r1 := cell_of_row _ _ 1 _ _ (0, 0) hq2
 have r2 := cell_of_row _ _ 2 _ _ (0, 0) hq2
 have r3 := cell_of_row _ _ 3 _ _ (0, 0) hq2
 have r4 := cell_of_row _ _ 4 _ _ (0, 0) hq2
 have r5 := cell_of_row _ _ 5 _ _ (0, 0) hq2
 have rf := fun j => frozen_of_row _ _ j _ _ hq2
 simp at r0 r1 r2 r3 r4 r5
 go_wp2
 exact bodyPost_ret (v := .agg #[.int .i64 o.err, .int .i64 o.a, .int .i64 o.b, .int .i64 o.c, .slice py o.rows.length cy, .slice pz o.evs.length cz]) (results_cell_row Tryz.results44 _ _ (w.heap.size + 1) _ _ _ _ rfl (six_block hq2 _ _ _ _ _ _) Tryz.underlying34 rfl (by kernel_rfl)) rfl (left_wrap hk1 hlt0 hvb hy hx hR hk hv' _ (by omega) (by omega) _ _ _ _ _ _)

set_option maxHeartbeats 4000000 in
set_option maxRecDepth 100000 in
theorem do_tick (base bc : Nat) (nodes jobs wall last now : Int) (v : Value) (L : List Job) (w : World) (h : RefO base bc nodes jobs wall last now v L w) (_hw : Widths L) (_hT : Times L) (_hn : 1 ≤ nodes) (_hn' : nodes ≤ 64) (_hwa : wall ≤ 1000000000) (ht : 0 ≤ now) (ht' : now ≤ 5000000000000000000) (_hl : L.length < 1000000000) (_hbase : base ≤ w.heap.size) (x y : Int) (hx0 : 0 ≤ x) (hx9 : x ≤ 999999999999999999) (hr : rendOk 4 x y = true) :
  Calls Tryz.prog 44 #[.pointer (some ⟨bc, 0, none⟩), .agg #[.int .i64 4, .int .i64 x, .int .i64 y]] w fun e w' => ∃ o, TickO last now L x o ∧ Left base bc nodes jobs wall last v o w e w' := by
 have hlt0 := h.lt
 have hvb : ∀ k, v.ownBlock = some k → k < w.heap.size := fun k e => (h.own.lt k e).2
 have hs := rendOk_some hr
 obtain ⟨s, HS⟩ : ∃ s, Hid (rend 4 x y = s) := ⟨_, Lib.hid rfl⟩
 rw [HS.out] at hs
 clear hr
 go_enter Tryz.func44, Tryz.ntmps44
 go_wp2_with (go_at_call 42; refine (refR_any _ 4 x y).mono ?_; rintro e w1 ⟨rfl, hb1⟩; rw [HS.out]; refine Hid.out ?_)
 refine Lib.hid ?_
 have hz1 := hb1.size
 simp at hz1
 have hx1 : w1.heap[w.heap.size]? = some (.cells #[.int .i64 4, .int .i64 x, .int .i64 y] 29 (0, 0)) := (hb1.block _ (by simp; omega)).trans ((Below.heap_alloc _ _ _ (by simp)).trans (heap_alloc_new _ _))
 have hq1 : w1.heap[w.heap.size + 1]? = some (.cells #[.int .i64 0, .int .i64 0, .int .i64 0, .int .i64 0, .slice none 0 0, .slice none 0 0] 34 (0, 0)) := (hb1.block _ (by simp)).trans (alloc_at _ _ _ (by simp))
 have hk1 : Kept (fun _ => False) w w1 := (((Kept.refl _ w).alloc _).alloc _).trans (T := fun _ => False) (Kept.of_below hb1) (fun _ e => e.elim)
 have hR1 := h.kept hk1 (fun _ e => e.elim)
 have x0 := cell_of_row _ _ 0 _ _ (0, 0) hx1
 have x1 := cell_of_row _ _ 1 _ _ (0, 0) hx1
 have x2 := cell_of_row _ _ 2 _ _ (0, 0) hx1
 have q0 := cell_of_row _ _ 0 _ _ (0, 0) hq1
 have q1 := cell_of_row _ _ 1 _ _ (0, 0) hq1
 have q2 := cell_of_row _ _ 2 _ _ (0, 0) hq1
 have q3 := cell_of_row _ _ 3 _ _ (0, 0) hq1
 have q4 := cell_of_row _ _ 4 _ _ (0, 0) hq1
 have q5 := cell_of_row _ _ 5 _ _ (0, 0) hq1
 have qf := fun j => frozen_of_row _ _ j _ _ hq1
 simp at x0 x1 x2 q0 q1 q2 q3 q4 q5
 clear hb1
 go_wp2_with (go_at_call 79; refine (tick_ref base bc nodes jobs wall last now v L w1 hR1 x hx0 hx9 ht ht').mono ?_; rintro e w2 ⟨o, hO, y, z, v', rfl, hy, hx, hR, hk, hv'⟩; refine Hid.out ?_)
 refine Lib.hid ?_
 obtain ⟨py, cy, rfl⟩ := own_slice hy
 obtain ⟨pz, cz, rfl⟩ := own_slice hx
 have hq2 := left_block hlt0 hvb hk (by omega) (by omega) hq1
 have r0 := cell_of_row _ _ 0 _ _ (0, 0) hq2
 have r1 := cell_of_row _ _ 1 _ _ (0, 0) hq2
 have r2 := cell_of_row _ _ 2 _ _ (0, 0) hq2
 have r3 := cell_of_row _ _ 3 _ _ (0, 0) hq2
 have r4 := cell_of_row _ _ 4 _ _ (0, 0) hq2
 have r5 := cell_of_row _ _ 5 _ _ (0, 0) hq2
 have rf := fun j => frozen_of_row _ _ j _ _ hq2
 simp at r0 r1 r2 r3 r4 r5
 go_wp2
 exact bodyPost_ret (v := .agg #[.int .i64 o.err, .int .i64 o.a, .int .i64 o.b, .int .i64 o.c, .slice py o.rows.length cy, .slice pz o.evs.length cz]) (results_cell_row Tryz.results44 _ _ (w.heap.size + 1) _ _ _ _ rfl (six_block hq2 _ _ _ _ _ _) Tryz.underlying34 rfl (by kernel_rfl)) rfl ⟨o, hO, left_wrap hk1 hlt0 hvb hy hx hR hk hv' _ (by omega) (by omega) _ _ _ _ _ _⟩

set_option maxHeartbeats 4000000 in
set_option maxRecDepth 100000 in
theorem do_info (base bc : Nat) (nodes jobs wall last now : Int) (v : Value) (L : List Job) (w : World) (h : RefO base bc nodes jobs wall last now v L w) (hw : Widths L) (_hT : Times L) (hn : 1 ≤ nodes) (hn' : nodes ≤ 64) (_hwa : wall ≤ 1000000000) (_ht : 0 ≤ now) (_ht' : now ≤ 5000000000000000000) (_hl : L.length < 1000000000) (_hbase : base ≤ w.heap.size) (x y : Int) (hr : rendOk 7 x y = true) :
  Calls Tryz.prog 44 #[.pointer (some ⟨bc, 0, none⟩), .agg #[.int .i64 7, .int .i64 x, .int .i64 y]] w (Left base bc nodes jobs wall last v ⟨0, now, freeN L nodes L.length, liveN L L.length, [], [], now, L⟩ w) := by
 obtain ⟨nl, HL⟩ : ∃ n, Hid (liveN L L.length = n) := ⟨_, Lib.hid rfl⟩
 obtain ⟨nf, HF⟩ : ∃ n, Hid (freeN L nodes L.length = n) := ⟨_, Lib.hid rfl⟩
 rw [HL.out, HF.out]
 have hlt0 := h.lt
 have hvb : ∀ k, v.ownBlock = some k → k < w.heap.size := fun k e => (h.own.lt k e).2
 have hs := rendOk_some hr
 obtain ⟨s, HS⟩ : ∃ s, Hid (rend 7 x y = s) := ⟨_, Lib.hid rfl⟩
 rw [HS.out] at hs
 clear hr
 go_enter Tryz.func44, Tryz.ntmps44
 go_wp2_with (go_at_call 42; refine (refR_any _ 7 x y).mono ?_; rintro e w1 ⟨rfl, hb1⟩; rw [HS.out]; refine Hid.out ?_)
 refine Lib.hid ?_
 have hz1 := hb1.size
 simp at hz1
 have hx1 : w1.heap[w.heap.size]? = some (.cells #[.int .i64 7, .int .i64 x, .int .i64 y] 29 (0, 0)) := (hb1.block _ (by simp; omega)).trans ((Below.heap_alloc _ _ _ (by simp)).trans (heap_alloc_new _ _))
 have hq1 : w1.heap[w.heap.size + 1]? = some (.cells #[.int .i64 0, .int .i64 0, .int .i64 0, .int .i64 0, .slice none 0 0, .slice none 0 0] 34 (0, 0)) := (hb1.block _ (by simp)).trans (alloc_at _ _ _ (by simp))
 have hk1 : Kept (fun _ => False) w w1 := (((Kept.refl _ w).alloc _).alloc _).trans (T := fun _ => False) (Kept.of_below hb1) (fun _ e => e.elim)
 have hR1 := h.kept hk1 (fun _ e => e.elim)
 have x0 := cell_of_row _ _ 0 _ _ (0, 0) hx1
 have x1 := cell_of_row _ _ 1 _ _ (0, 0) hx1
 have x2 := cell_of_row _ _ 2 _ _ (0, 0) hx1
 have q0 := cell_of_row _ _ 0 _ _ (0, 0) hq1
 have q1 := cell_of_row _ _ 1 _ _ (0, 0) hq1
 have q2 := cell_of_row _ _ 2 _ _ (0, 0) hq1
 have q3 := cell_of_row _ _ 3 _ _ (0, 0) hq1
 have q4 := cell_of_row _ _ 4 _ _ (0, 0) hq1
 have q5 := cell_of_row _ _ 5 _ _ (0, 0) hq1
 have qf := fun j => frozen_of_row _ _ j _ _ hq1
 simp at x0 x1 x2 q0 q1 q2 q3 q4 q5
 clear hb1
 obtain ⟨p, cap, rfl, hC⟩ := hR1.toC
 go_wp2_with (go_at_call 80; refine (count_any bc nodes jobs wall last now p cap L _ hC hw (by omega) hn').mono ?_; rintro e w2 ⟨rfl, hb2⟩; rw [HL.out, HF.out]; refine Hid.out ?_)
 refine Lib.hid ?_
 have hk2 : Kept (fun k => k = bc ∨ (Value.slice p L.length cap).ownBlock = some k) w1 w2 := Kept.of_below hb2
 have hR2 := hR1.kept (S := fun _ => False) (Kept.of_below hb2) (fun _ e => e.elim)
 have hq2 := left_block hlt0 hvb hk2 (by omega) (by omega) hq1
 have r0 := cell_of_row _ _ 0 _ _ (0, 0) hq2
 have r1 := cell_of_row _ _ 1 _ _ (0, 0) hq2
 have r2 := cell_of_row _ _ 2 _ _ (0, 0) hq2
 have r3 := cell_of_row _ _ 3 _ _ (0, 0) hq2
 have r4 := cell_of_row _ _ 4 _ _ (0, 0) hq2
 have r5 := cell_of_row _ _ 5 _ _ (0, 0) hq2
 have rf := fun j => frozen_of_row _ _ j _ _ hq2
 have s4 := hR2.cell 4
 simp at r0 r1 r2 r3 r4 r5 s4
 go_wp2
 exact bodyPost_ret (v := .agg #[.int .i64 0, .int .i64 now, .int .i64 nf, .int .i64 nl, .slice none 0 0, .slice none 0 0]) (results_cell_row Tryz.results44 _ _ (w.heap.size + 1) _ _ _ _ rfl (six_block hq2 _ _ _ _ _ _) Tryz.underlying34 rfl (by kernel_rfl)) rfl (left_wrap (o := ⟨0, now, nf, nl, [], [], now, L⟩) hk1 hlt0 hvb (World.ownsRow_nil _ _ _ _) (World.ownsRow_nil _ _ _ _) hR2 hk2 (fun k e => Or.inl e) _ (by omega) (by omega) _ _ _ _ _ _)

end Go.Proofs.YtpcgnadfldimhaaGreatDoor
