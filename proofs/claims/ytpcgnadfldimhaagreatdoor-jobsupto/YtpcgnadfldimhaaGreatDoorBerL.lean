/-
  Do: the lock, and what it guards, by the contract of that.
-/
import Derived.Test.YtpcgnadfldimhaaGreatDoorLocks
import Derived.Test.YtpcgnadfldimhaaGreatDoorMemG
namespace Go.Proofs.YtpcgnadfldimhaaGreatDoor
open Go.RowKit

theorem unlock_late (a : Addr) (u : FrameMode) (w : World) (hc : w.cell? a = some (.int .i32 1)) (hz : w.frozen? a = false) : CallsD Tryz.prog 32 #[.pointer (some a)] u w fun e u' w' => u' = u ∧ (e = .returned (.tuple #[]) ∧ w' = w.setCell a (.int .i32 0)) := Go.MuLone.unlock_deferred muLib a u w hc hz

abbrev noughtsR : Array Value := #[.int .i64 0, .int .i64 0, .int .i64 0, .int .i64 0, .slice none 0 0, .slice none 0 0]
abbrev outer' (s0 s1 : Value) (bi : Nat) : Obj := .cells #[s0, s1, .pointer (some ⟨bi, 0, none⟩)] 87

abbrev putL (w : World) (g : Nat) (x0 x1 x2 x3 x4 x5 : Value) : World := (((((w.setCell ⟨g, 0, none⟩ x0).setCell ⟨g, 1, none⟩ x1).setCell ⟨g, 2, none⟩ x2).setCell ⟨g, 3, none⟩ x3).setCell ⟨g, 4, none⟩ x4).setCell ⟨g, 5, none⟩ x5
/-- What Do leaves behind its last store, ahead of Unlock. -/
theorem doL_end {w W1 w2 w4 : World} {bx bi : Nat} {y0 y1 y2 y3 y4 y5 x0 x1 x2 x3 x4 x5 : Value} (hlt : bx < w.heap.size) (hz1 : w.heap.size + 1 < W1.heap.size) (hz2 : w.heap.size + 1 < w2.heap.size) (hb : Below w2.heap.size w2 w4) (_hz4 : w2.heap.size < w4.heap.size) (hg : w4.heap[w.heap.size + 1]? = some (.cells #[y0, y1, y2, y3, y4, y5] 34 (0, 0))) (hx : w4.heap[bx]? = some (outer' (.int .i32 1) (.int .u32 0) bi)) :
    Kept (fun j => j = bx ∨ (w.heap.size ≤ j ∧ j < W1.heap.size)) w2 (putL (w4.setCell ⟨w2.heap.size, 0, none⟩ x0) (w.heap.size + 1) x0 x1 x2 x3 x4 x5) ∧ (putL (w4.setCell ⟨w2.heap.size, 0, none⟩ x0) (w.heap.size + 1) x0 x1 x2 x3 x4 x5).heap[w.heap.size + 1]? = some (.cells #[x0, x1, x2, x3, x4, x5] 34 (0, 0)) ∧ (putL (w4.setCell ⟨w2.heap.size, 0, none⟩ x0) (w.heap.size + 1) x0 x1 x2 x3 x4 x5).heap[bx]? = some (outer' (.int .i32 1) (.int .u32 0) bi) := by
  have e1 : (fun j => j = bx ∨ (w.heap.size ≤ j ∧ j < W1.heap.size)) (w.heap.size + 1) := Or.inr ⟨by omega, hz1⟩
  have k0 : Kept (fun j => j = bx ∨ (w.heap.size ≤ j ∧ j < W1.heap.size)) w2 (w4.setCell ⟨w2.heap.size, 0, none⟩ x0) := (Kept.of_below hb).setCell (p := ⟨w2.heap.size, 0, none⟩) (Or.inr (Nat.le_refl _)) _
  have h0 : (w4.setCell ⟨w2.heap.size, 0, none⟩ x0).heap[w.heap.size + 1]? = some (.cells #[y0, y1, y2, y3, y4, y5] 34 (0, 0)) := (Below.heap_setCell _ _ _ _ (by show w.heap.size + 1 ≠ w2.heap.size; omega)).trans hg
  have b0 : (w4.setCell ⟨w2.heap.size, 0, none⟩ x0).heap[bx]? = some (outer' (.int .i32 1) (.int .u32 0) bi) := (Below.heap_setCell _ _ _ _ (by show bx ≠ w2.heap.size; omega)).trans hx
  have ne : bx ≠ w.heap.size + 1 := by omega
  generalize w4.setCell ⟨w2.heap.size, 0, none⟩ x0 = u at *
  refine ⟨(((((k0.setCell (p := ⟨w.heap.size + 1, 0, none⟩) (Or.inl e1) _).setCell (p := ⟨w.heap.size + 1, 1, none⟩) (Or.inl e1) _).setCell (p := ⟨w.heap.size + 1, 2, none⟩) (Or.inl e1) _).setCell (p := ⟨w.heap.size + 1, 3, none⟩) (Or.inl e1) _).setCell (p := ⟨w.heap.size + 1, 4, none⟩) (Or.inl e1) _).setCell (p := ⟨w.heap.size + 1, 5, none⟩) (Or.inl e1) _, ?_, ?_⟩
  · exact heap_setCell_same _ _ 5 _ _ _ (heap_setCell_same _ _ 4 _ _ _ (heap_setCell_same _ _ 3 _ _ _ (heap_setCell_same _ _ 2 _ _ _ (heap_setCell_same _ _ 1 _ _ _ (heap_setCell_same _ _ 0 _ _ _ h0)))))
  · exact (Below.heap_setCell _ _ _ _ ne).trans ((Below.heap_setCell _ _ _ _ ne).trans ((Below.heap_setCell _ _ _ _ ne).trans ((Below.heap_setCell _ _ _ _ ne).trans ((Below.heap_setCell _ _ _ _ ne).trans ((Below.heap_setCell _ _ _ _ ne).trans b0)))))

theorem replyL_size : (Tryz.prog.info? 34).map (·.size) = some 6 := by kernel_rfl

set_option maxHeartbeats 2000000 in
set_option maxRecDepth 100000 in
theorem doL (bx bi : Nat) (w : World) (k x y : Int) (hbx : w.heap[bx]? = some (outer' (.int .i32 0) (.int .u32 0) bi)) (T : Int → Int → Int → Value → Value → Value → Int → World → World → Prop)
    (hD : ∀ W, Kept (fun j => j = bx) w W → W.heap[bx]? = some (outer' (.int .i32 1) (.int .u32 0) bi) → Calls Tryz.prog 33 #[.pointer (some ⟨bx, 0, none⟩), .agg #[.int .i64 k, .int .i64 x, .int .i64 y]] W fun e w2 => ∃ e0 x1 x2 x3 p4 n4 c4 p5 n5 c5 err er, e = .returned (.tuple #[.agg #[.int .i64 e0, .int .i64 x1, .int .i64 x2, .int .i64 x3, .slice p4 n4 c4, .slice p5 n5 c5], err]) ∧ W.heap.size ≤ w2.heap.size ∧ (∀ j, w.heap.size ≤ j → j < W.heap.size → w2.heap[j]? = W.heap[j]?) ∧ w2.heap[bx]? = W.heap[bx]? ∧ T x1 x2 x3 (.slice p4 n4 c4) (.slice p5 n5 c5) err er W w2)
    (hE : ∀ x1 x2 x3 ys xs err er W w2, T x1 x2 x3 ys xs err er W w2 → ∀ W3, Below w2.heap.size w2 W3 → Calls Tryz.prog 34 #[err] W3 fun e w4 => e = .returned (.int .i64 er) ∧ Below W3.heap.size W3 w4) :
    Calls Tryz.prog 16 #[.pointer (some ⟨bx, 0, none⟩), .agg #[.int .i64 k, .int .i64 x, .int .i64 y]] w fun e w' => ∃ x1 x2 x3 p4 n4 c4 p5 n5 c5 err er W w2, e = .returned (.agg #[.int .i64 er, .int .i64 x1, .int .i64 x2, .int .i64 x3, .slice p4 n4 c4, .slice p5 n5 c5]) ∧ Kept (fun j => j = bx) w W ∧ T x1 x2 x3 (.slice p4 n4 c4) (.slice p5 n5 c5) err er W w2 ∧ Kept (fun j => j = bx ∨ (w.heap.size ≤ j ∧ j < W.heap.size)) w2 w' ∧ w'.heap[bx]? = some (outer' (.int .i32 0) (.int .u32 0) bi) := by
  have hlt : bx < w.heap.size := (Array.getElem?_eq_some_iff.1 hbx).1
  have hB : Below w.heap.size w ((w.alloc (.cells #[.int .i64 k, .int .i64 x, .int .i64 y] 29)).alloc (.cells #[.int .i64 0, .int .i64 0, .int .i64 0, .int .i64 0, .slice none 0 0, .slice none 0 0] 34)) := ((Below.refl _ _).alloc (Nat.le_refl _) _).alloc (by simp) _
  have hb0 := (hB.block bx hlt).trans hbx
  have c0 := cell_of_row _ _ 0 _ _ (0, 0) hb0
  have cf := frozen_of_row _ _ 0 _ _ hb0
  simp at c0
  go_enter_defers Tryz.func16, Tryz.ntmps16
  go_wp2_with (go_at_call 31; refine (lock_any ⟨bx, 0, none⟩ _ c0 cf).mono ?_; rintro e w1 ⟨rfl, hw1⟩; refine Hid.out ?_)
  refine Lib.hid ?_
  clear hB hb0 c0 cf hw1
  have K1 : Kept (fun j => j = bx) w (((w.setCell ⟨bx, 0, none⟩ (.int .i32 1)).alloc (.cells #[.int .i64 k, .int .i64 x, .int .i64 y] 29)).alloc (.cells noughtsR 34)) := (((Kept.refl (fun j => j = bx) w).setCell (p := ⟨bx, 0, none⟩) (Or.inl rfl) _).alloc _).alloc _
  have b0 : (w.setCell ⟨bx, 0, none⟩ (.int .i32 1)).heap[bx]? = some (outer' (.int .i32 1) (.int .u32 0) bi) := heap_setCell_same w bx 0 _ _ _ hbx
  have b1 := ((Below.heap_alloc ((w.setCell ⟨bx, 0, none⟩ (.int .i32 1)).alloc (.cells #[.int .i64 k, .int .i64 x, .int .i64 y] 29)) (.cells noughtsR 34) bx (by simp; omega)).trans (Below.heap_alloc _ (.cells #[.int .i64 k, .int .i64 x, .int .i64 y] 29) bx (by simp; omega))).trans b0
  have g0 := (Below.heap_alloc ((w.setCell ⟨bx, 0, none⟩ (.int .i32 1)).alloc (.cells #[.int .i64 k, .int .i64 x, .int .i64 y] 29)) (.cells noughtsR 34) w.heap.size (by simp)).trans (alloc_at (w.setCell ⟨bx, 0, none⟩ (.int .i32 1)) _ _ (by simp))
  have g1 := alloc_at ((w.setCell ⟨bx, 0, none⟩ (.int .i32 1)).alloc (.cells #[.int .i64 k, .int .i64 x, .int .i64 y] 29)) (.cells noughtsR 34) (w.heap.size + 1) (by simp)
  generalize ((w.setCell ⟨bx, 0, none⟩ (.int .i32 1)).alloc (.cells #[.int .i64 k, .int .i64 x, .int .i64 y] 29)).alloc (.cells noughtsR 34) = W1 at *
  have hz1 : w.heap.size + 1 < W1.heap.size := (Array.getElem?_eq_some_iff.1 g1).1
  have m0 := cell_of_row _ _ 0 _ _ (0, 0) g0
  have m1 := cell_of_row _ _ 1 _ _ (0, 0) g0
  have m2 := cell_of_row _ _ 2 _ _ (0, 0) g0
  simp at m0 m1 m2
  clear b0
  have HG1 := Lib.hid g1
  have HB1 := Lib.hid b1
  have HK1 := Lib.hid K1
  clear g0 g1 b1 K1
  have HD := Lib.hid hD
  have HE := Lib.hid hE
  clear hD hE hbx
  go_wp2_with (go_at_call 33; refine (HD.out _ HK1.out HB1.out).mono ?_; rintro e w2 ⟨e0, x1, x2, x3, p4, n4, c4, p5, n5, c5, err, er, rfl, hs2, hsp, hx2, hT⟩; refine Hid.out ?_)
  refine Lib.hid ?_
  have g1' := (hsp (w.heap.size + 1) (by omega) hz1).trans HG1.out
  have HT := Lib.hid hT
  have HX2 := Lib.hid (hx2.trans HB1.out)
  have HSP := Lib.hid hsp
  have hz2 : w.heap.size + 1 < w2.heap.size := by omega
  have HG2 := Lib.hid g1'
  clear hT hx2 hsp g1' m0 m1 m2
  have rb := alloc_at w2 (.cells #[.int .i64 e0, .int .i64 x1, .int .i64 x2, .int .i64 x3, .slice p4 n4 c4, .slice p5 n5 c5] 34) w2.heap.size rfl
  have hb3 : Below w2.heap.size w2 (w2.alloc (.cells #[.int .i64 e0, .int .i64 x1, .int .i64 x2, .int .i64 x3, .slice p4 n4 c4, .slice p5 n5 c5] 34)) := (Below.refl _ _).alloc (Nat.le_refl _) _
  have HRB := Lib.hid rb
  have HB3 := Lib.hid hb3
  clear rb hb3
  go_wp2_with (go_at_call 34; refine (HE.out _ _ _ _ _ _ _ _ _ HT.out _ HB3.out).mono ?_; rintro e w4 ⟨rfl, hb4⟩; refine Hid.out ?_)
  refine Lib.hid ?_
  have r4 := (hb4.block w2.heap.size (by simp)).trans HRB.out
  have hb24 : Below w2.heap.size w2 w4 := HB3.out.trans (hb4.mono (by simp))
  have g4 := (hb24.block (w.heap.size + 1) hz2).trans HG2.out
  have x4 := (hb24.block bx (by omega)).trans HX2.out
  have s0 := cell_of_row _ _ 0 _ _ (0, 0) r4
  have s1 := cell_of_row _ _ 1 _ _ (0, 0) r4
  have s2 := cell_of_row _ _ 2 _ _ (0, 0) r4
  have s3 := cell_of_row _ _ 3 _ _ (0, 0) r4
  have s4 := cell_of_row _ _ 4 _ _ (0, 0) r4
  have s5 := cell_of_row _ _ 5 _ _ (0, 0) r4
  have sf := fun j => frozen_of_row _ _ j _ _ r4
  have q0 := cell_of_row _ _ 0 _ _ (0, 0) g4
  have q1 := cell_of_row _ _ 1 _ _ (0, 0) g4
  have q2 := cell_of_row _ _ 2 _ _ (0, 0) g4
  have q3 := cell_of_row _ _ 3 _ _ (0, 0) g4
  have q4 := cell_of_row _ _ 4 _ _ (0, 0) g4
  have q5 := cell_of_row _ _ 5 _ _ (0, 0) g4
  have qf := fun j => frozen_of_row _ _ j _ _ g4
  simp at s0 s1 s2 s3 s4 s5 q0 q1 q2 q3 q4 q5
  have hne1 : w2.heap.size ≠ w.heap.size + 1 := by omega
  have hz4 : w2.heap.size < w4.heap.size := (Array.getElem?_eq_some_iff.1 r4).1
  have HR4 := Lib.hid r4
  have HG4 := Lib.hid g4
  have HX4 := Lib.hid x4
  have HB4 := Lib.hid hb24
  clear r4 g4 x4 hb4 hb24
  go_wp2
  obtain ⟨K5, G5, X5⟩ := doL_end (x0 := .int .i64 er) (x1 := .int .i64 x1) (x2 := .int .i64 x2) (x3 := .int .i64 x3) (x4 := .slice p4 n4 c4) (x5 := .slice p5 n5 c5) hlt hz1 hz2 HB4.out hz4 HG4.out HX4.out
  unfold putL at K5 G5 X5
  generalize (((((((w4.setCell ⟨w2.heap.size, 0, none⟩ (.int .i64 er)).setCell ⟨w.heap.size + 1, 0, none⟩ (.int .i64 er)).setCell ⟨w.heap.size + 1, 1, none⟩ (.int .i64 x1)).setCell ⟨w.heap.size + 1, 2, none⟩ (.int .i64 x2)).setCell ⟨w.heap.size + 1, 3, none⟩ (.int .i64 x3)).setCell ⟨w.heap.size + 1, 4, none⟩ (.slice p4 n4 c4)).setCell ⟨w.heap.size + 1, 5, none⟩ (.slice p5 n5 c5)) = W5 at K5 G5 X5 ⊢
  clear s0 s1 s2 s3 s4 s5 sf q0 q1 q2 q3 q4 q5 qf
  have cx := cell_of_row _ _ 0 _ _ (0, 0) X5
  have f5 := frozen_of_row _ _ 0 _ _ X5
  simp at cx
  refine leaves_cons (f := 32) (args := #[.pointer (some ⟨bx, 0, none⟩)]) (by simp) (by simp [go_sem]) ?_
  refine (unlock_late ⟨bx, 0, none⟩ .returning _ cx f5).mono ?_
  rintro e u' w'' ⟨rfl, rfl, rfl⟩
  have ne : w.heap.size + 1 ≠ bx := by omega
  refine ⟨_, results_cell_row Tryz.results16 _ _ (w.heap.size + 1) 34 #[.int .i64 er, .int .i64 x1, .int .i64 x2, .int .i64 x3, .slice p4 n4 c4, .slice p5 n5 c5] (0, 0) _ rfl ((Below.heap_setCell _ _ _ _ ne).trans G5) Tryz.underlying34 rfl replyL_size, x1, x2, x3, p4, n4, c4, p5, n5, c5, err, er, W1, w2, rfl, HK1.out, HT.out, K5.setCell (p := ⟨bx, 0, none⟩) (Or.inl (Or.inl rfl)) _, heap_setCell_same _ _ 0 _ _ _ X5⟩
end Go.Proofs.YtpcgnadfldimhaaGreatDoor
