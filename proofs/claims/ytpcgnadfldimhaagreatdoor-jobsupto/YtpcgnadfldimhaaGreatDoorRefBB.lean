/-
  The document's answer: Submit.
-/
import Derived.Test.YtpcgnadfldimhaaGreatDoorRefAA
import Derived.Deep.AppendLies
namespace Go.Proofs.YtpcgnadfldimhaaGreatDoor
open Go.RowKit

theorem Tryz.infoJob : (Tryz.prog.info? 148).map (fun i => (i.zero, i.size, i.bytes)) = some (some (.agg #[.int .i64 0, .int .i64 0, .int .i64 0, .int .i64 0, .int .i64 0]), 5, 40) := by kernel_rfl

def RowV.cells (r : RowV) : List Value := [.int .i64 r.id, .int .i64 r.promise, .int .i64 r.width, .int .i64 r.wall]
def flatR (l : List RowV) : List Value := l.flatMap RowV.cells

theorem earliest_le (L : List Job) (nodes now width wl but : Int) (hT : Times L) (h0 : 0 ≤ now) (h1 : now ≤ 5000000000000000000) : -1 ≤ earliest L nodes now width wl but ∧ earliest L nodes now width wl but ≤ 5000000000000000000 := by
  have hb : ∀ k, -1 ≤ bestN L nodes now width wl but k ∧ bestN L nodes now width wl but k ≤ 5000000000000000000 := fun k => by
    induction k with
    | zero => simp [bestN]
    | succ k ih =>
      unfold bestN
      cases e : L[k]? with
      | none => exact ih
      | some j =>
        have := hT j (List.mem_of_getElem? e)
        simp only
        split
        · exact ih
        · split
          · omega
          · exact ih
  unfold earliest
  split
  · omega
  · exact hb _

theorem RefO.setL {base bc : Nat} {nodes jobs wall last now : Int} {v v' : Value} {L M : List Job} {w w' : World} (h : RefO base bc nodes jobs wall last now v L w) (hb : w'.heap[bc]? = w.heap[bc]?) (ho : w'.ownsRow base 148 5 v' M.length (flat M)) (ha : v'.ownBlock ≠ some bc) (hl : M.length ≤ 1000000000) :
    RefO base bc nodes jobs wall last now v' M (w'.setCell ⟨bc, 5, none⟩ v') := by
  refine ⟨?_, ownsRow_setCell_other ho ha _, ha, h.low, hl⟩
  exact heap_setCell_same w' bc 5 _ _ v' (hb.trans h.blk)

/-- Six cells of a block, written. -/
abbrev six (u : World) (g : Nat) (x0 x1 x2 x3 x4 x5 : Value) : World := (((((u.setCell ⟨g, 0, none⟩ x0).setCell ⟨g, 1, none⟩ x1).setCell ⟨g, 2, none⟩ x2).setCell ⟨g, 3, none⟩ x3).setCell ⟨g, 4, none⟩ x4).setCell ⟨g, 5, none⟩ x5
theorem six_block {u : World} {g : Nat} {y0 y1 y2 y3 y4 y5 : Value} {t : TypeId} (h : u.heap[g]? = some (.cells #[y0, y1, y2, y3, y4, y5] t (0, 0))) (x0 x1 x2 x3 x4 x5 : Value) :
    (six u g x0 x1 x2 x3 x4 x5).heap[g]? = some (.cells #[x0, x1, x2, x3, x4, x5] t (0, 0)) :=
  heap_setCell_same _ g 5 _ _ x5 (heap_setCell_same _ g 4 _ _ x4 (heap_setCell_same _ g 3 _ _ x3 (heap_setCell_same _ g 2 _ _ x2 (heap_setCell_same _ g 1 _ _ x1 (heap_setCell_same _ g 0 _ _ x0 h)))))
theorem Kept.six {S : Nat → Prop} {w u : World} (h : Kept S w u) {g : Nat} (hg : S g ∨ w.heap.size ≤ g) (x0 x1 x2 x3 x4 x5 : Value) : Kept S w (six u g x0 x1 x2 x3 x4 x5) :=
  ((((((h.setCell (p := ⟨g, 0, none⟩) hg _).setCell (p := ⟨g, 1, none⟩) hg _).setCell (p := ⟨g, 2, none⟩) hg _).setCell (p := ⟨g, 3, none⟩) hg _).setCell (p := ⟨g, 4, none⟩) hg _).setCell (p := ⟨g, 5, none⟩) hg _)
theorem Kept.mono {S T : Nat → Prop} {w w' : World} (h : Kept S w w') (hT : ∀ k, S k → T k) : Kept T w w' := ⟨h.os, h.tape, h.output, h.size, fun k hk hn => h.block k hk (fun hs => hn (hT k hs))⟩

/-- What a call of the document's cluster leaves. -/
def Left (base bc : Nat) (nodes jobs wall last : Int) (v : Value) (o : Out) (w : World) (e : Ending) (w' : World) : Prop :=
  ∃ y x v', e = .returned (.agg #[.int .i64 o.err, .int .i64 o.a, .int .i64 o.b, .int .i64 o.c, y, x]) ∧ w'.ownsRow w.heap.size 57 4 y o.rows.length (flatR o.rows) ∧ w'.ownsRow w.heap.size 55 4 x o.evs.length (flatE o.evs) ∧ RefO base bc nodes jobs wall last o.now v' o.L w' ∧ Kept (fun k => k = bc ∨ v.ownBlock = some k) w w' ∧ (∀ k, v'.ownBlock = some k → v.ownBlock = some k ∨ w.heap.size ≤ k)

theorem left_refused {base bc : Nat} {nodes jobs wall last now : Int} {v : Value} {L : List Job} {w w' : World} (h : RefO base bc nodes jobs wall last now v L w) (hk : Kept (fun _ => False) w w') (r a b c : Int) :
    Left base bc nodes jobs wall last v ⟨r, a, b, c, [], [], now, L⟩ w (.returned (.agg #[.int .i64 r, .int .i64 a, .int .i64 b, .int .i64 c, .slice none 0 0, .slice none 0 0])) w' :=
  ⟨_, _, v, rfl, World.ownsRow_nil _ _ _ _, World.ownsRow_nil _ _ _ _, h.kept hk (fun _ e => e.elim), hk.mono (fun _ e => e.elim), fun _k e => Or.inl e⟩

set_option maxHeartbeats 2000000 in
set_option maxRecDepth 100000 in
theorem submit_no2 (base bc : Nat) (nodes jobs wall last now : Int) (v : Value) (L : List Job) (w : World) (h : RefO base bc nodes jobs wall last now v L w) (hw : Widths L) (_hT : Times L) (width wl : Int)
    (hn : 1 ≤ nodes) (hn' : nodes ≤ 64) (_hwa : wall ≤ 1000000000) (_ht : 0 ≤ now) (_ht' : now ≤ 5000000000000000000) (_hl : L.length < 1000000000) (hA : width < 1 ∨ nodes < width) (_hbase : base ≤ w.heap.size) :
    Calls Tryz.prog 77 #[.pointer (some ⟨bc, 0, none⟩), .int .i64 width, .int .i64 wl] w (Left base bc nodes jobs wall last v ⟨2, 0, 0, 0, [], [], now, L⟩ w) := by
  have hlt0 := h.lt
  obtain ⟨p, cap, rfl, hC⟩ := h.toC
  obtain ⟨n, HN⟩ : ∃ n, Hid (liveN L L.length = n) := ⟨_, Lib.hid rfl⟩
  have hn2 := liveN_le L L.length
  rw [HN.out] at hn2
  go_enter Tryz.func77, Tryz.ntmps77
  have hC1 := fun o => hC.on ((Below.refl w.heap.size w).alloc (Nat.le_refl _) o)
  go_wp2_with (go_at_call 80; refine (count_any bc nodes jobs wall last now p cap L _ (hC1 _) hw (by omega) hn').mono ?_; rintro e w1 ⟨rfl, hb1⟩; rw [HN.out]; refine Hid.out ?_)
  refine Lib.hid ?_
  have hq : w1.heap[w.heap.size]? = some (.cells #[.int .i64 0, .int .i64 0, .int .i64 0, .int .i64 0, .slice none 0 0, .slice none 0 0] 34 (0, 0)) := (hb1.block w.heap.size (by simp)).trans (heap_alloc_new w _)
  have q0 := cell_of_row _ _ 0 _ _ (0, 0) hq
  have q1 := cell_of_row _ _ 1 _ _ (0, 0) hq
  have q2 := cell_of_row _ _ 2 _ _ (0, 0) hq
  have q3 := cell_of_row _ _ 3 _ _ (0, 0) hq
  have q4 := cell_of_row _ _ 4 _ _ (0, 0) hq
  have q5 := cell_of_row _ _ 5 _ _ (0, 0) hq
  have qf := fun j => frozen_of_row _ _ j _ _ hq
  simp at q0 q1 q2 q3 q4 q5
  have hbw : Below w.heap.size w w1 := ((Below.refl w.heap.size w).alloc (Nat.le_refl _) _).trans (hb1.mono (by simp))
  have hlt1 : w.heap.size < w1.heap.size := by have := hb1.size; simp at this; omega
  have hC2 := hC.on hbw
  have c0 := hC2.c0
  have c1 := hC2.c1
  have c2 := hC2.c2
  clear hb1
  have hk1 : Kept (fun _ => False) w w1 := Kept.of_below hbw
  by_cases hA1 : width < 1
  · clear hA
    go_wp2
    exact bodyPost_ret (v := .agg #[.int .i64 2, .int .i64 0, .int .i64 0, .int .i64 0, .slice none 0 0, .slice none 0 0]) (results_cell_row Tryz.results77 _ _ w.heap.size _ _ _ _ rfl (six_block hq _ _ _ _ _ _) Tryz.underlying34 rfl (by kernel_rfl)) rfl (left_refused h (hk1.six (Or.inr (Nat.le_refl _)) _ _ _ _ _ _) 2 0 0 0)
  · have hA2 : nodes < width := by omega
    clear hA
    go_wp2
    exact bodyPost_ret (v := .agg #[.int .i64 2, .int .i64 0, .int .i64 0, .int .i64 0, .slice none 0 0, .slice none 0 0]) (results_cell_row Tryz.results77 _ _ w.heap.size _ _ _ _ rfl (six_block hq _ _ _ _ _ _) Tryz.underlying34 rfl (by kernel_rfl)) rfl (left_refused h (hk1.six (Or.inr (Nat.le_refl _)) _ _ _ _ _ _) 2 0 0 0)

set_option maxHeartbeats 2000000 in
set_option maxRecDepth 100000 in
theorem submit_no3 (base bc : Nat) (nodes jobs wall last now : Int) (v : Value) (L : List Job) (w : World) (h : RefO base bc nodes jobs wall last now v L w) (hw : Widths L) (_hT : Times L) (width wl : Int)
    (hn : 1 ≤ nodes) (hn' : nodes ≤ 64) (_hwa : wall ≤ 1000000000) (_ht : 0 ≤ now) (_ht' : now ≤ 5000000000000000000) (_hl : L.length < 1000000000) (w1' : 1 ≤ width) (w2' : width ≤ nodes) (hB : wl < 1 ∨ wall < wl) (_hbase : base ≤ w.heap.size) :
    Calls Tryz.prog 77 #[.pointer (some ⟨bc, 0, none⟩), .int .i64 width, .int .i64 wl] w (Left base bc nodes jobs wall last v ⟨3, 0, 0, 0, [], [], now, L⟩ w) := by
  have hlt0 := h.lt
  obtain ⟨p, cap, rfl, hC⟩ := h.toC
  obtain ⟨n, HN⟩ : ∃ n, Hid (liveN L L.length = n) := ⟨_, Lib.hid rfl⟩
  have hn2 := liveN_le L L.length
  rw [HN.out] at hn2
  go_enter Tryz.func77, Tryz.ntmps77
  have hC1 := fun o => hC.on ((Below.refl w.heap.size w).alloc (Nat.le_refl _) o)
  go_wp2_with (go_at_call 80; refine (count_any bc nodes jobs wall last now p cap L _ (hC1 _) hw (by omega) hn').mono ?_; rintro e w1 ⟨rfl, hb1⟩; rw [HN.out]; refine Hid.out ?_)
  refine Lib.hid ?_
  have hq : w1.heap[w.heap.size]? = some (.cells #[.int .i64 0, .int .i64 0, .int .i64 0, .int .i64 0, .slice none 0 0, .slice none 0 0] 34 (0, 0)) := (hb1.block w.heap.size (by simp)).trans (heap_alloc_new w _)
  have q0 := cell_of_row _ _ 0 _ _ (0, 0) hq
  have q1 := cell_of_row _ _ 1 _ _ (0, 0) hq
  have q2 := cell_of_row _ _ 2 _ _ (0, 0) hq
  have q3 := cell_of_row _ _ 3 _ _ (0, 0) hq
  have q4 := cell_of_row _ _ 4 _ _ (0, 0) hq
  have q5 := cell_of_row _ _ 5 _ _ (0, 0) hq
  have qf := fun j => frozen_of_row _ _ j _ _ hq
  simp at q0 q1 q2 q3 q4 q5
  have hbw : Below w.heap.size w w1 := ((Below.refl w.heap.size w).alloc (Nat.le_refl _) _).trans (hb1.mono (by simp))
  have hlt1 : w.heap.size < w1.heap.size := by have := hb1.size; simp at this; omega
  have hC2 := hC.on hbw
  have c0 := hC2.c0
  have c1 := hC2.c1
  have c2 := hC2.c2
  clear hb1
  have hk1 : Kept (fun _ => False) w w1 := Kept.of_below hbw
  by_cases hA1 : wl < 1
  · clear hB
    go_wp2
    exact bodyPost_ret (v := .agg #[.int .i64 3, .int .i64 0, .int .i64 0, .int .i64 0, .slice none 0 0, .slice none 0 0]) (results_cell_row Tryz.results77 _ _ w.heap.size _ _ _ _ rfl (six_block hq _ _ _ _ _ _) Tryz.underlying34 rfl (by kernel_rfl)) rfl (left_refused h (hk1.six (Or.inr (Nat.le_refl _)) _ _ _ _ _ _) 3 0 0 0)
  · have hA2 : wall < wl := by omega
    clear hB
    go_wp2
    exact bodyPost_ret (v := .agg #[.int .i64 3, .int .i64 0, .int .i64 0, .int .i64 0, .slice none 0 0, .slice none 0 0]) (results_cell_row Tryz.results77 _ _ w.heap.size _ _ _ _ rfl (six_block hq _ _ _ _ _ _) Tryz.underlying34 rfl (by kernel_rfl)) rfl (left_refused h (hk1.six (Or.inr (Nat.le_refl _)) _ _ _ _ _ _) 3 0 0 0)

set_option maxHeartbeats 2000000 in
set_option maxRecDepth 100000 in
theorem submit_no4 (base bc : Nat) (nodes jobs wall last now : Int) (v : Value) (L : List Job) (w : World) (h : RefO base bc nodes jobs wall last now v L w) (hw : Widths L) (_hT : Times L) (width wl : Int)
    (hn : 1 ≤ nodes) (hn' : nodes ≤ 64) (_hwa : wall ≤ 1000000000) (_ht : 0 ≤ now) (_ht' : now ≤ 5000000000000000000) (_hl : L.length < 1000000000) (w1' : 1 ≤ width) (w2' : width ≤ nodes) (w3' : 1 ≤ wl) (w4' : wl ≤ wall) (hD0 : jobs ≤ (liveN L L.length : Int)) (_hbase : base ≤ w.heap.size) :
    Calls Tryz.prog 77 #[.pointer (some ⟨bc, 0, none⟩), .int .i64 width, .int .i64 wl] w (Left base bc nodes jobs wall last v ⟨4, 0, 0, 0, [], [], now, L⟩ w) := by
  have hlt0 := h.lt
  obtain ⟨p, cap, rfl, hC⟩ := h.toC
  obtain ⟨n, HN⟩ : ∃ n, Hid (liveN L L.length = n) := ⟨_, Lib.hid rfl⟩
  have hn2 := liveN_le L L.length
  rw [HN.out] at hn2
  go_enter Tryz.func77, Tryz.ntmps77
  have hC1 := fun o => hC.on ((Below.refl w.heap.size w).alloc (Nat.le_refl _) o)
  go_wp2_with (go_at_call 80; refine (count_any bc nodes jobs wall last now p cap L _ (hC1 _) hw (by omega) hn').mono ?_; rintro e w1 ⟨rfl, hb1⟩; rw [HN.out]; refine Hid.out ?_)
  refine Lib.hid ?_
  have hq : w1.heap[w.heap.size]? = some (.cells #[.int .i64 0, .int .i64 0, .int .i64 0, .int .i64 0, .slice none 0 0, .slice none 0 0] 34 (0, 0)) := (hb1.block w.heap.size (by simp)).trans (heap_alloc_new w _)
  have q0 := cell_of_row _ _ 0 _ _ (0, 0) hq
  have q1 := cell_of_row _ _ 1 _ _ (0, 0) hq
  have q2 := cell_of_row _ _ 2 _ _ (0, 0) hq
  have q3 := cell_of_row _ _ 3 _ _ (0, 0) hq
  have q4 := cell_of_row _ _ 4 _ _ (0, 0) hq
  have q5 := cell_of_row _ _ 5 _ _ (0, 0) hq
  have qf := fun j => frozen_of_row _ _ j _ _ hq
  simp at q0 q1 q2 q3 q4 q5
  have hbw : Below w.heap.size w w1 := ((Below.refl w.heap.size w).alloc (Nat.le_refl _) _).trans (hb1.mono (by simp))
  have hlt1 : w.heap.size < w1.heap.size := by have := hb1.size; simp at this; omega
  have hC2 := hC.on hbw
  have c0 := hC2.c0
  have c1 := hC2.c1
  have c2 := hC2.c2
  clear hb1
  have hk1 : Kept (fun _ => False) w w1 := Kept.of_below hbw
  have hD : jobs ≤ (n : Int) := by rw [← HN.out]; exact hD0
  clear hD0
  go_wp2
  exact bodyPost_ret (v := .agg #[.int .i64 4, .int .i64 0, .int .i64 0, .int .i64 0, .slice none 0 0, .slice none 0 0]) (results_cell_row Tryz.results77 _ _ w.heap.size _ _ _ _ rfl (six_block hq _ _ _ _ _ _) Tryz.underlying34 rfl (by kernel_rfl)) rfl (left_refused h (hk1.six (Or.inr (Nat.le_refl _)) _ _ _ _ _ _) 4 0 0 0)

end Go.Proofs.YtpcgnadfldimhaaGreatDoor
namespace Go.Proofs.YtpcgnadfldimhaaGreatDoor
open Go.RowKit

set_option maxHeartbeats 2000000 in
set_option maxRecDepth 100000 in
theorem submit_yes (base bc : Nat) (nodes jobs wall last now : Int) (v : Value) (L : List Job) (w : World) (h : RefO base bc nodes jobs wall last now v L w) (hw : Widths L) (hT : Times L) (width wl : Int)
    (hn : 1 ≤ nodes) (hn' : nodes ≤ 64) (hwa : wall ≤ 1000000000) (ht : 0 ≤ now) (ht' : now ≤ 5000000000000000000) (hl : L.length < 1000000000) (w1' : 1 ≤ width) (w2' : width ≤ nodes) (w3' : 1 ≤ wl) (w4' : wl ≤ wall) (hD0 : ¬ jobs ≤ (liveN L L.length : Int)) (t : Int) (HE : Hid (earliest L nodes now width wl (-1) = t)) (M : List Job) (HM : Hid (L ++ [⟨width, wl, 1, t, t + wl⟩] = M)) (hbase : base ≤ w.heap.size) :
    Calls Tryz.prog 77 #[.pointer (some ⟨bc, 0, none⟩), .int .i64 width, .int .i64 wl] w (Left base bc nodes jobs wall last v ⟨0, (M.length : Int), t, 0, [], startE M now M.length, now, M.map (Job.go now)⟩ w) := by
  obtain ⟨i0, hi, hz0, hz1, hz2⟩ := info_parts Tryz.infoJob
  have hlt0 := h.lt
  obtain ⟨p, cap, rfl, hC⟩ := h.toC
  obtain ⟨n, HN⟩ : ∃ n, Hid (liveN L L.length = n) := ⟨_, Lib.hid rfl⟩
  have hn2 := liveN_le L L.length
  rw [HN.out] at hn2
  go_enter Tryz.func77, Tryz.ntmps77
  have hC1 := fun o => hC.on ((Below.refl w.heap.size w).alloc (Nat.le_refl _) o)
  go_wp2_with (go_at_call 80; refine (count_any bc nodes jobs wall last now p cap L _ (hC1 _) hw (by omega) hn').mono ?_; rintro e w1 ⟨rfl, hb1⟩; rw [HN.out]; refine Hid.out ?_)
  refine Lib.hid ?_
  have hq : w1.heap[w.heap.size]? = some (.cells #[.int .i64 0, .int .i64 0, .int .i64 0, .int .i64 0, .slice none 0 0, .slice none 0 0] 34 (0, 0)) := (hb1.block w.heap.size (by simp)).trans (heap_alloc_new w _)
  have q0 := cell_of_row _ _ 0 _ _ (0, 0) hq
  have q1 := cell_of_row _ _ 1 _ _ (0, 0) hq
  have q2 := cell_of_row _ _ 2 _ _ (0, 0) hq
  have q3 := cell_of_row _ _ 3 _ _ (0, 0) hq
  have q4 := cell_of_row _ _ 4 _ _ (0, 0) hq
  have q5 := cell_of_row _ _ 5 _ _ (0, 0) hq
  have qf := fun j => frozen_of_row _ _ j _ _ hq
  simp at q0 q1 q2 q3 q4 q5
  have hbw : Below w.heap.size w w1 := ((Below.refl w.heap.size w).alloc (Nat.le_refl _) _).trans (hb1.mono (by simp))
  have hlt1 : w.heap.size < w1.heap.size := by have := hb1.size; simp at this; omega
  have hC2 := hC.on hbw
  have c0 := hC2.c0
  have c1 := hC2.c1
  have c2 := hC2.c2
  clear hb1
  have hk1 : Kept (fun _ => False) w w1 := Kept.of_below hbw
  have hD : (n : Int) < jobs := by rw [← HN.out]; omega
  clear hD0
  have he := earliest_le L nodes now width wl (-1) hT ht ht'
  rw [HE.out] at he
  go_wp2_with (go_at_call 110; refine (earliest_any bc nodes jobs wall last now p cap L _ hC2 hw hT width wl (-1) ht ht' (by omega) (by omega) (by omega) (by omega)).mono ?_; rintro e w2 ⟨rfl, hb2⟩; rw [HE.out]; refine Hid.out ?_)
  refine Lib.hid ?_
  have hR2 : RefO base bc nodes jobs wall last now (.slice p L.length cap) L w2 := h.kept (Kept.of_below (hbw.trans (hb2.mono hbw.size))) (fun _ e => e.elim) (S := fun _ => False)
  have e5 := hR2.cell 5
  simp at e5
  have ef5 := hR2.frozen 5
  have hs2 := hb2.size
  have hown2 := hR2.own
  go_wp2_with (at_builtin; refine wpList_append_lies _ rfl _ _ 144 rfl base 148 i0 (.agg #[.int .i64 0, .int .i64 0, .int .i64 0, .int .i64 0, .int .i64 0]) 5 40 Tryz.underlying144 hi hz0 hz1 hz2 rfl (by decide) _ _ _ rfl (hown2.alloc _) ⟨w2.heap.size, 0, none⟩ 1 1 [.int .i64 width, .int .i64 wl, .int .i64 1, .int .i64 t, .int .i64 (t + wl)] rfl rfl (news_at _ #[.int .i64 width, .int .i64 wl, .int .i64 1, .int .i64 t, .int .i64 (t + wl)] _ _ (by simp)) (by intro u' hu'; simp at hu'; rcases hu' with rfl | rfl | rfl | rfl | rfl <;> rfl) (by decide) (by unfold maxLen; omega) (by omega) (by simp; omega) _ rfl ?_)
  intro g c2 w3 hown3 hgrow hat hlt3
  have hML : M.length = L.length + 1 := by rw [← HM.out]; simp
  have hMf : flat M = flat L ++ [.int .i64 width, .int .i64 wl, .int .i64 1, .int .i64 t, .int .i64 (t + wl)] := by rw [← HM.out]; simp [flat, Job.cells]
  have hsz3 := hgrow.size
  simp at hsz3
  have hvb : ∀ k, (Value.slice p L.length cap).ownBlock = some k → k < w.heap.size := fun k e => (h.own.lt k e).2
  have hgb : g ≠ bc := fun e => by
    rcases hat with e2 | e2
    · exact h.apart (by rw [e2, e])
    · have := h.lt
      omega
  have hgw : g ≠ w.heap.size := fun e => by
    rcases hat with e2 | e2
    · have := hvb g e2
      omega
    · omega
  have hbc3 : w3.heap[bc]? = w2.heap[bc]? := (hgrow.block bc (by simp; omega) (fun e => h.apart e.symm)).trans (Below.heap_alloc _ _ _ (by omega))
  have hq3 : w3.heap[w.heap.size]? = w1.heap[w.heap.size]? := ((hgrow.block w.heap.size (by simp; omega) (fun e => by have := hvb _ e.symm; omega)).trans (Below.heap_alloc _ _ _ (by omega))).trans (hb2.block _ hlt1)
  have hk3 : Kept (fun k => k = bc ∨ (Value.slice p L.length cap).ownBlock = some k) w w3 := ((Kept.of_below (hbw.trans (hb2.mono hbw.size))).alloc _).grown hgrow (fun i e => Or.inl (Or.inr e))
  rw [← hMf, ← hML] at hown3
  have hR4 : RefO base bc nodes jobs wall last now (.slice (some ⟨g, 0, none⟩) (L.length + 1) c2) M (w3.setCell ⟨bc, 5, none⟩ (.slice (some ⟨g, 0, none⟩) (L.length + 1) c2)) := hR2.setL hbc3 (by rw [← hML]; exact hown3) (by simpa [Value.ownBlock] using hgb) (by omega)
  have f5 : w3.cell? ⟨bc, 5, none⟩ = some (.slice p L.length cap) := by rw [World.cell?_of_block hbc3]; exact e5
  have ff5 : w3.frozen? ⟨bc, 5, none⟩ = false := by rw [World.frozen?_of_block hbc3]; exact ef5
  have HR4 := Lib.hid hR4
  have HQ3 := Lib.hid (hq3.trans hq)
  have HK3 := Lib.hid hk3
  clear hR4 hq3 hk3 hown3 hgrow hown2 hR2 hbc3 hq q0 q1 q2 q3 q4 q5 qf c0 c1 hC2 hC1 hC e5 ef5 hMf
  go_wp2_with (go_at_call 111; refine (starts_any base bc nodes jobs wall last now _ M _ (HR4.out.kept (S := fun _ => False) ((Kept.refl _ _).alloc _) (fun _ e => e.elim))).mono ?_; rintro e w6 ⟨x, rfl, hown6, hR6, hk6⟩; refine Hid.out ?_)
  refine Lib.hid ?_
  obtain ⟨px, cx, rfl⟩ := own_slice hown6
  have hs6 := hk6.size
  simp at hs6
  have hm6 : w6.heap[w3.heap.size]? = some (.cells #[.int .i64 0, .int .i64 ((L.length : Int) + 1), .int .i64 t, .int .i64 0, .slice none 0 0, .slice none 0 0] 34 (0, 0)) := (hk6.block w3.heap.size (by simp) (fun e => by simp [Value.ownBlock] at e; omega)).trans (alloc_at _ _ _ (by simp))
  have hq6 : w6.heap[w.heap.size]? = some (.cells #[.int .i64 0, .int .i64 0, .int .i64 0, .int .i64 0, .slice none 0 0, .slice none 0 0] 34 (0, 0)) := (hk6.block w.heap.size (by simp; omega) (fun e => by simp [Value.ownBlock] at e; omega)).trans ((Below.heap_alloc _ _ _ (by simp; omega)).trans ((Below.heap_setCell _ _ _ _ (by simp; omega)).trans HQ3.out))
  have m0 := cell_of_row _ _ 0 _ _ (0, 0) hm6
  have m1 := cell_of_row _ _ 1 _ _ (0, 0) hm6
  have m2 := cell_of_row _ _ 2 _ _ (0, 0) hm6
  have m3 := cell_of_row _ _ 3 _ _ (0, 0) hm6
  have m4 := cell_of_row _ _ 4 _ _ (0, 0) hm6
  have m5 := cell_of_row _ _ 5 _ _ (0, 0) hm6
  have mf := fun j => frozen_of_row _ _ j _ _ hm6
  have n0 := cell_of_row _ _ 0 _ _ (0, 0) hq6
  have n1 := cell_of_row _ _ 1 _ _ (0, 0) hq6
  have n2 := cell_of_row _ _ 2 _ _ (0, 0) hq6
  have n3 := cell_of_row _ _ 3 _ _ (0, 0) hq6
  have n4 := cell_of_row _ _ 4 _ _ (0, 0) hq6
  have n5 := cell_of_row _ _ 5 _ _ (0, 0) hq6
  have nf := fun j => frozen_of_row _ _ j _ _ hq6
  simp at m0 m1 m2 m3 m4 m5 n0 n1 n2 n3 n4 n5
  have hne : w3.heap.size ≠ w.heap.size := by omega
  have hne' : w.heap.size ≠ w3.heap.size := by omega
  go_wp2
  have hk5 := (HK3.out.setCell (p := ⟨bc, 5, none⟩) (Or.inl (Or.inl rfl)) (.slice (some ⟨g, 0, none⟩) (L.length + 1) c2)).alloc (.cells #[.int .i64 0, .int .i64 ((L.length : Int) + 1), .int .i64 t, .int .i64 0, .slice none 0 0, .slice none 0 0] 34)
  have hk7 : Kept (fun k => k = bc ∨ (Value.slice p L.length cap).ownBlock = some k) w w6 := hk5.trans hk6 (fun i e => by
    simp [Value.ownBlock] at e
    subst e
    rcases hat with e2 | e2
    · exact Or.inl (Or.inr e2)
    · right; omega)
  rw [hML] at hown6 ⊢
  have hk8 := (hk7.setCell (p := ⟨w3.heap.size, 5, none⟩) (Or.inr (by simp; omega)) (.slice px (startE M now (L.length + 1)).length cx)).six (g := w.heap.size) (Or.inr (Nat.le_refl _)) (.int .i64 0) (.int .i64 ((L.length : Int) + 1)) (.int .i64 t) (.int .i64 0) (.slice none 0 0) (.slice px (startE M now (L.length + 1)).length cx)
  have hk9 := ((Kept.refl (fun k => k = w3.heap.size ∨ k = w.heap.size) w6).setCell (p := ⟨w3.heap.size, 5, none⟩) (Or.inl (Or.inl rfl)) (.slice px (startE M now (L.length + 1)).length cx)).six (g := w.heap.size) (Or.inl (Or.inr rfl)) (.int .i64 0) (.int .i64 ((L.length : Int) + 1)) (.int .i64 t) (.int .i64 0) (.slice none 0 0) (.slice px (startE M now (L.length + 1)).length cx)
  have hq8 := (Below.heap_setCell w6 ⟨w3.heap.size, 5, none⟩ (.slice px (startE M now (L.length + 1)).length cx) w.heap.size (by simp; omega)).trans hq6
  refine bodyPost_ret (v := .agg #[.int .i64 0, .int .i64 ((L.length : Int) + 1), .int .i64 t, .int .i64 0, .slice none 0 0, .slice px (startE M now (L.length + 1)).length cx]) (results_cell_row Tryz.results77 _ _ w.heap.size _ _ _ _ rfl (six_block hq8 _ _ _ _ _ _) Tryz.underlying34 rfl (by kernel_rfl)) rfl ?_
  refine ⟨.slice none 0 0, .slice px (startE M now (L.length + 1)).length cx, .slice (some ⟨g, 0, none⟩) (L.length + 1) c2, by simp, World.ownsRow_nil _ _ _ _, ?_, ?_, hk8, ?_⟩
  · refine owns_on (w := w6) (owns_mono hown6 (by simp; omega)) (fun k e => hk9.block k (hown6.lt k e).2 (fun hs => ?_))
    have := (hown6.lt k e).1
    simp at this
    omega
  · refine hR6.kept hk9 (fun k hs => ⟨fun e => ?_, fun e => ?_⟩)
    · have := h.lt
      omega
    · simp [Value.ownBlock] at e
      omega
  · intro k e
    simp [Value.ownBlock] at e
    subst e
    rcases hat with e2 | e2
    · exact Or.inl e2
    · right; omega

theorem submit_ref (base bc : Nat) (nodes jobs wall last now : Int) (v : Value) (L : List Job) (w : World) (h : RefO base bc nodes jobs wall last now v L w) (hw : Widths L) (hT : Times L) (width wl : Int)
    (hn : 1 ≤ nodes) (hn' : nodes ≤ 64) (hwa : wall ≤ 1000000000) (ht : 0 ≤ now) (ht' : now ≤ 5000000000000000000) (hl : L.length < 1000000000) (hbase : base ≤ w.heap.size) :
    Calls Tryz.prog 77 #[.pointer (some ⟨bc, 0, none⟩), .int .i64 width, .int .i64 wl] w (Left base bc nodes jobs wall last v (submitO nodes jobs wall now L width wl) w) := by
  by_cases hA : width < 1 ∨ nodes < width
  · rw [show submitO nodes jobs wall now L width wl = ⟨2, 0, 0, 0, [], [], now, L⟩ by simp only [submitO]; rw [if_pos hA]]
    exact submit_no2 base bc nodes jobs wall last now v L w h hw hT width wl hn hn' hwa ht ht' hl hA hbase
  · by_cases hB : wl < 1 ∨ wall < wl
    · rw [show submitO nodes jobs wall now L width wl = ⟨3, 0, 0, 0, [], [], now, L⟩ by simp only [submitO]; rw [if_neg hA, if_pos hB]]
      exact submit_no3 base bc nodes jobs wall last now v L w h hw hT width wl hn hn' hwa ht ht' hl (by omega) (by omega) hB hbase
    · by_cases hD : jobs ≤ (liveN L L.length : Int)
      · rw [show submitO nodes jobs wall now L width wl = ⟨4, 0, 0, 0, [], [], now, L⟩ by simp only [submitO]; rw [if_neg hA, if_neg hB, if_pos hD]]
        exact submit_no4 base bc nodes jobs wall last now v L w h hw hT width wl hn hn' hwa ht ht' hl (by omega) (by omega) (by omega) (by omega) hD hbase
      · rw [show submitO nodes jobs wall now L width wl = _ by simp only [submitO]; rw [if_neg hA, if_neg hB, if_neg hD]]
        exact submit_yes base bc nodes jobs wall last now v L w h hw hT width wl hn hn' hwa ht ht' hl (by omega) (by omega) (by omega) (by omega) hD _ (Lib.hid rfl) _ (Lib.hid rfl) hbase

end Go.Proofs.YtpcgnadfldimhaaGreatDoor
