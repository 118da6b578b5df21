/-
 The lock: the numbers under which this program holds the library's text of it; Lock where it is free, Unlock where it is held.
-/
import Derived.Test.YtpcgnadfldimhaaGreatDoorMemG
import Derived.Conc.MuLone
import Derived.Test.YtpcgnadfldimhaaGreatDoorRend
import Derived.Test.YtpcgnadfldimhaaGreatDoorCluH
import Derived.Test.YtpcgnadfldimhaaGreatDoorErrX
namespace Go.Proofs.YtpcgnadfldimhaaGreatDoor
open Go.RowKit

abbrev muLink : Go.Conc.Locks.MuLink := { lock := 31, unlock := 32, ilock := 51, iunlock := 52, lockSlow := 86, unlockSlow := 89, disable := 82, enable := 84, acquire := 85, relMerge := 87, cas32 := 83, add32 := 88, tMutex := 84, tIMutex := 82, tPMutex := 111, tPIMutex := 152, tPI32 := 154, tUP := 156, tNoCopy := 79, tU32 := 80 }
theorem muLib : Go.Conc.Locks.MuLib Tryz.prog muLink :=
 ⟨Tryz.func31, Tryz.func32, Tryz.func51, Tryz.func52, Tryz.func82, Tryz.func84, Tryz.func85, Tryz.func87, Tryz.func83, Tryz.func88, Tryz.underlying82, Tryz.runUnderlying82, Tryz.sizeOf82, Tryz.isAgg82, Tryz.zeroValue82, Tryz.underlying84, Tryz.runUnderlying84, Tryz.sizeOf84, Tryz.isAgg84, Tryz.zeroValue84, Tryz.underlying111, Tryz.runUnderlying111, Tryz.sizeOf111, Tryz.isAgg111, Tryz.zeroValue111, Tryz.underlying152, Tryz.runUnderlying152, Tryz.sizeOf152, Tryz.isAgg152, Tryz.zeroValue152, Tryz.underlying154, Tryz.runUnderlying154, Tryz.sizeOf154, Tryz.isAgg154, Tryz.zeroValue154, Tryz.underlying156, Tryz.runUnderlying156, Tryz.sizeOf156, Tryz.isAgg156, Tryz.zeroValue156, Tryz.underlying79, Tryz.runUnderlying79, Tryz.sizeOf79, Tryz.isAgg79, Tryz.zeroValue79, Tryz.underlying21, Tryz.runUnderlying21, Tryz.sizeOf21, Tryz.isAgg21, Tryz.zeroValue21, (by kernel_rfl)⟩

theorem lock_any (a : Addr) (w : World) (hc : w.cell? a = some (.int .i32 0)) (hz : w.frozen? a = false) : Calls Tryz.prog 31 #[.pointer (some a)] w fun e w' => e = .returned (.tuple #[]) ∧ w' = w.setCell a (.int .i32 1) := Go.MuLone.lock_free muLib a w hc hz
end Go.Proofs.YtpcgnadfldimhaaGreatDoor
namespace Go.Proofs.YtpcgnadfldimhaaGreatDoor
open Go.RowKit

abbrev outer (s0 s1 : Value) (bi : Nat) : Obj := .cells #[s0, s1, .pointer (some ⟨bi, 0, none⟩)] 87

set_option maxHeartbeats 1000000 in
set_option maxRecDepth 100000 in
theorem doB_bad (bx : Value) (a : Addr) (m : Int) (w : World) (h : Env a m w) (k x y : Int) (hr : rendOk k x y = false) :
  Calls Tryz.prog 33 #[bx, .agg #[.int .i64 k, .int .i64 x, .int .i64 y]] w fun e w' => ∃ b, e = .returned (.tuple #[.agg noughts6, .iface 209 (.pointer (some ⟨b, 0, none⟩))]) ∧ Refusal a b w' ∧ Below w.heap.size w w' := by
 have hB : Below w.heap.size w ((w.alloc (.cells #[.int .i64 k, .int .i64 x, .int .i64 y] 29)).alloc (.cells noughts6 34)) := ((Below.refl _ _).alloc (Nat.le_refl _) _).alloc (by simp) _
 have hW := write_full a m _ (h.on hB) k x y
 have hq := alloc_at (w.alloc (.cells #[.int .i64 k, .int .i64 x, .int .i64 y] 29)) (.cells noughts6 34) (w.heap.size + 1) (by simp)
 have HW := Lib.hid hW
 have HB := Lib.hid hB
 have HQ := Lib.hid hq
 clear h hW hB hq
 go_enter Tryz.func33, Tryz.ntmps33
 go_wp2_with (go_at_call 39; refine HW.out.mono ?_; rintro e w1 ⟨v, rfl, hb1, hv⟩; rw [hr] at hv; simp only [Bool.false_eq_true, false_and, false_or, true_and] at hv; obtain ⟨b, rfl, hR⟩ := hv; refine Hid.out ?_)
 refine Lib.hid ?_
 have hq1 : w1.heap[w.heap.size + 1]? = some (.cells noughts6 34 (0, 0)) := (hb1.block _ (by simp)).trans HQ.out
 have hbw : Below w.heap.size w w1 := HB.out.trans (hb1.mono (by simp; omega))
 have hz1 : w.heap.size + 1 < w1.heap.size := (Array.getElem?_eq_some_iff.1 hq1).1
 have q0 := cell_of_row _ _ 0 _ _ (0, 0) hq1
 have q1 := cell_of_row _ _ 1 _ _ (0, 0) hq1
 have q2 := cell_of_row _ _ 2 _ _ (0, 0) hq1
 have q3 := cell_of_row _ _ 3 _ _ (0, 0) hq1
 have q4 := cell_of_row _ _ 4 _ _ (0, 0) hq1
 have q5 := cell_of_row _ _ 5 _ _ (0, 0) hq1
 have qf := fun j => frozen_of_row _ _ j _ _ hq1
 simp at q0 q1 q2 q3 q4 q5
 have hb6 := Lib.hid (putR_block hq1 (.int .i64 0) (.int .i64 0) (.int .i64 0) (.int .i64 0) (.slice none 0 0) (.slice none 0 0))
 have hK6 := Lib.hid (((Kept.of_below (S := fun k => w.heap.size ≤ k) hbw).putR (g := w.heap.size + 1) (Or.inl (by omega)) (.int .i64 0) (.int .i64 0) (.int .i64 0) (.int .i64 0) (.slice none 0 0) (.slice none 0 0)).below (Nat.le_refl _) (fun k e => e))
 have hR6 : Hid (Refusal a b (putR w1 (w.heap.size + 1) (.int .i64 0) (.int .i64 0) (.int .i64 0) (.int .i64 0) (.slice none 0 0) (.slice none 0 0))) := Lib.hid (by
  have hKo := (Kept.refl (fun k => k = w.heap.size + 1) w1).putR (g := w.heap.size + 1) (Or.inl rfl) (.int .i64 0) (.int .i64 0) (.int .i64 0) (.int .i64 0) (.slice none 0 0) (.slice none 0 0)
  generalize putR w1 (w.heap.size + 1) (.int .i64 0) (.int .i64 0) (.int .i64 0) (.int .i64 0) (.slice none 0 0) (.slice none 0 0) = W at *
  have hc : ∀ (c : Nat) (t' : TypeId) (v' : Value), w1.cell? ⟨c, 1, none⟩ = some (.iface t' v') → W.cell? ⟨c, 1, none⟩ = some (.iface t' v') := fun c t' v' hc => by
   have hne : c ≠ w.heap.size + 1 := fun e => by rw [e, q1] at hc; simp at hc
   rw [World.cell?_of_block (hKo.block c (block_lt_of_cell (a := ⟨c, 1, none⟩) hc) hne)]
   exact hc
  rcases hR with h1 | ⟨c, h1, h2⟩
  ·exact Or.inl (hc b _ _ h1)
  ·exact Or.inr ⟨c, hc b _ _ h1, hc c _ _ h2⟩)
 clear hq1 hbw hb1 hR HW HB HQ
 go_wp2
 refine bodyPost_ret (v := .tuple #[.agg noughts6, .iface 209 (.pointer (some ⟨b, 0, none⟩))]) (results_reply Tryz.results33 _ _ (w.heap.size + 1) _ _ _ _ _ _ rfl hb6.out) rfl ?_
 exact ⟨b, rfl, hR6.out, hK6.out⟩

end Go.Proofs.YtpcgnadfldimhaaGreatDoor
namespace Go.Proofs.YtpcgnadfldimhaaGreatDoor
open Go.RowKit

/-- Blocks from H on are as they were. -/
def Spare (H : Nat) (w w' : World) : Prop := w.heap.size ≤ w'.heap.size ∧ ∀ k, H ≤ k → k < w.heap.size → w'.heap[k]? = w.heap[k]?
theorem Spare.of_below {H : Nat} {w w' : World} (h : Below w.heap.size w w') : Spare H w w' := ⟨h.size, fun k _ hk => h.block k hk⟩
theorem Spare.of_trail {bi : Nat} {vr vl vh vr' vl' vh' : Value} {w0 w w' : World} (h : Trail bi vr vl vh vr' vl' vh' w w') (hc : ∀ k, clB bi vr vl vh k → k < w0.heap.size) : Spare w0.heap.size w w' := ⟨h.kept.size, fun k h1 h2 => h.kept.block k h2 (fun e => by have := hc k e; omega)⟩

set_option maxHeartbeats 1000000 in
set_option maxRecDepth 100000 in
theorem doB_1 (bx bi : Nat) (s0 s1 : Value) (a : Addr) (m : Int) (w : World) (h : Env a m w) (hbx : w.heap[bx]? = some (outer s0 s1 bi)) (x y : Int) (hr : rendOk 1 x y = true) (T : Value → Value → World → World → Prop)
  (hS : ∀ W, Below w.heap.size w W → Calls Tryz.prog 53 #[.pointer (some ⟨bi, 0, none⟩), .int .i64 x, .int .i64 y] W fun e w2 => ∃ e0 x1 x2 x3 p4 n4 c4 p5 n5 c5 err, e = .returned (.tuple #[.agg #[.int .i64 e0, .int .i64 x1, .int .i64 x2, .int .i64 x3, .slice p4 n4 c4, .slice p5 n5 c5], err]) ∧ Spare w.heap.size W w2 ∧ T (.agg #[.int .i64 e0, .int .i64 x1, .int .i64 x2, .int .i64 x3, .slice p4 n4 c4, .slice p5 n5 c5]) err W w2) :
  Calls Tryz.prog 33 #[.pointer (some ⟨bx, 0, none⟩), .agg #[.int .i64 1, .int .i64 x, .int .i64 y]] w fun e w' => ∃ e0 x1 x2 x3 p4 n4 c4 p5 n5 c5 err W w2, e = .returned (.tuple #[.agg #[.int .i64 e0, .int .i64 x1, .int .i64 x2, .int .i64 x3, .slice p4 n4 c4, .slice p5 n5 c5], err]) ∧ Below w.heap.size w W ∧ w.heap.size + 1 < W.heap.size ∧ Spare w.heap.size W w2 ∧ T (.agg #[.int .i64 e0, .int .i64 x1, .int .i64 x2, .int .i64 x3, .slice p4 n4 c4, .slice p5 n5 c5]) err W w2 ∧ Kept (fun k => k = w.heap.size + 1) w2 w' ∧ w2.heap[w.heap.size + 1]? = some (.cells noughts6 34 (0, 0)) := by
 have hB : Below w.heap.size w ((w.alloc (.cells #[.int .i64 1, .int .i64 x, .int .i64 y] 29)).alloc (.cells noughts6 34)) := ((Below.refl _ _).alloc (Nat.le_refl _) _).alloc (by simp) _
 have hW := write_full a m _ (h.on hB) 1 x y
 have hq := alloc_at (w.alloc (.cells #[.int .i64 1, .int .i64 x, .int .i64 y] 29)) (.cells noughts6 34) (w.heap.size + 1) (by simp)
 have hp := (Below.heap_alloc (w.alloc (.cells #[.int .i64 1, .int .i64 x, .int .i64 y] 29)) (.cells noughts6 34) w.heap.size (by simp)).trans (heap_alloc_new w _)
 have hlt : bx < w.heap.size := (Array.getElem?_eq_some_iff.1 hbx).1
 have HW := Lib.hid hW
 have HB := Lib.hid hB
 have HQ := Lib.hid hq
 have HP := Lib.hid hp
 have HX := Lib.hid hbx
 have HS := Lib.hid hS
 clear h hW hB hq hp hbx hS
 go_enter Tryz.func33, Tryz.ntmps33
 go_wp2_with (go_at_call 39; refine HW.out.mono ?_; rintro e w1 ⟨v, rfl, hb1, hv⟩; rw [hr] at hv; simp only [Bool.true_eq_false, false_and, or_false, true_and] at hv; subst hv; refine Hid.out ?_)
 refine Lib.hid ?_
 have hbw : Below w.heap.size w w1 := HB.out.trans (hb1.mono (by simp; omega))
 have hq1 : w1.heap[w.heap.size + 1]? = some (.cells noughts6 34 (0, 0)) := (hb1.block _ (by simp)).trans HQ.out
 have hp1 : w1.heap[w.heap.size]? = some (.cells #[.int .i64 1, .int .i64 x, .int .i64 y] 29 (0, 0)) := (hb1.block _ (by simp; omega)).trans HP.out
 have hx1 : w1.heap[bx]? = some (outer s0 s1 bi) := (hbw.block bx hlt).trans HX.out
 have hz1 : w.heap.size + 1 < w1.heap.size := (Array.getElem?_eq_some_iff.1 hq1).1
 have m0 := cell_of_row _ _ 0 _ _ (0, 0) hp1
 have m1 := cell_of_row _ _ 1 _ _ (0, 0) hp1
 have m2 := cell_of_row _ _ 2 _ _ (0, 0) hp1
 have o2 := cell_of_row _ _ 2 _ _ (0, 0) hx1
 simp at m0 m1 m2 o2
 have HQ1 := Lib.hid hq1
 have HBW := Lib.hid hbw
 clear hq1 hp1 hx1 hbw hb1 HW HB HQ HP HX
 go_wp2
 go_region_with (go_at_call 53; refine (HS.out _ HBW.out.drew).mono ?_; rintro e w2 ⟨e0, x1, x2, x3, p4, n4, c4, p5, n5, c5, err, rfl, hsp, hT⟩; have hq2 := (hsp.2 (w.heap.size + 1) (by omega) hz1).trans HQ1.out; have q0 := cell_of_row _ _ 0 _ _ (0, 0) hq2; have q1 := cell_of_row _ _ 1 _ _ (0, 0) hq2; have q2 := cell_of_row _ _ 2 _ _ (0, 0) hq2; have q3 := cell_of_row _ _ 3 _ _ (0, 0) hq2; have q4 := cell_of_row _ _ 4 _ _ (0, 0) hq2; have q5 := cell_of_row _ _ 5 _ _ (0, 0) hq2; have qf := (fun j => frozen_of_row _ _ j _ _ hq2); simp at q0 q1 q2 q3 q4 q5; have hb6 := Lib.hid (putR_block hq2 (.int .i64 e0) (.int .i64 x1) (.int .i64 x2) (.int .i64 x3) (.slice p4 n4 c4) (.slice p5 n5 c5)); have hK6 := Lib.hid ((Kept.refl (fun k => k = w.heap.size + 1) w2).putR (g := w.heap.size + 1) (Or.inl rfl) (.int .i64 e0) (.int .i64 x1) (.int .i64 x2) (.int .i64 x3) (.slice p4 n4 c4) (.slice p5 n5 c5)); have HSp := Lib.hid hsp; have HT := Lib.hid hT; have HQ2 := Lib.hid hq2; clear hq2 hsp hT)
 all_goals
  go_wp2
  refine bodyPost_ret (v := .tuple #[.agg #[.int .i64 e0, .int .i64 x1, .int .i64 x2, .int .i64 x3, .slice p4 n4 c4, .slice p5 n5 c5], err]) (results_reply Tryz.results33 _ _ (w.heap.size + 1) _ _ _ _ _ _ rfl hb6.out) rfl ?_
  exact ⟨e0, x1, x2, x3, p4, n4, c4, p5, n5, c5, _, _, w2, rfl, HBW.out.drew, hz1, HSp.out, HT.out, hK6.out, HQ2.out⟩

set_option maxHeartbeats 1000000 in
set_option maxRecDepth 100000 in
theorem doB_2 (bx bi : Nat) (s0 s1 : Value) (a : Addr) (m : Int) (w : World) (h : Env a m w) (hbx : w.heap[bx]? = some (outer s0 s1 bi)) (x y : Int) (hr : rendOk 2 x y = true) (T : Value → Value → World → World → Prop)
  (hS : ∀ W, Below w.heap.size w W → Calls Tryz.prog 54 #[.pointer (some ⟨bi, 0, none⟩), .int .i64 x] W fun e w2 => ∃ e0 x1 x2 x3 p4 n4 c4 p5 n5 c5 err, e = .returned (.tuple #[.agg #[.int .i64 e0, .int .i64 x1, .int .i64 x2, .int .i64 x3, .slice p4 n4 c4, .slice p5 n5 c5], err]) ∧ Spare w.heap.size W w2 ∧ T (.agg #[.int .i64 e0, .int .i64 x1, .int .i64 x2, .int .i64 x3, .slice p4 n4 c4, .slice p5 n5 c5]) err W w2) :
  Calls Tryz.prog 33 #[.pointer (some ⟨bx, 0, none⟩), .agg #[.int .i64 2, .int .i64 x, .int .i64 y]] w fun e w' => ∃ e0 x1 x2 x3 p4 n4 c4 p5 n5 c5 err W w2, e = .returned (.tuple #[.agg #[.int .i64 e0, .int .i64 x1, .int .i64 x2, .int .i64 x3, .slice p4 n4 c4, .slice p5 n5 c5], err]) ∧ Below w.heap.size w W ∧ w.heap.size + 1 < W.heap.size ∧ Spare w.heap.size W w2 ∧ T (.agg #[.int .i64 e0, .int .i64 x1, .int .i64 x2, .int .i64 x3, .slice p4 n4 c4, .slice p5 n5 c5]) err W w2 ∧ Kept (fun k => k = w.heap.size + 1) w2 w' ∧ w2.heap[w.heap.size + 1]? = some (.cells noughts6 34 (0, 0)) := by
 have hB : Below w.heap.size w ((w.alloc (.cells #[.int .i64 2, .int .i64 x, .int .i64 y] 29)).alloc (.cells noughts6 34)) := ((Below.refl _ _).alloc (Nat.le_refl _) _).alloc (by simp) _
 have hW := write_full a m _ (h.on hB) 2 x y
 have hq := alloc_at (w.alloc (.cells #[.int .i64 2, .int .i64 x, .int .i64 y] 29)) (.cells noughts6 34) (w.heap.size + 1) (by simp)
 have hp := (Below.heap_alloc (w.alloc (.cells #[.int .i64 2, .int .i64 x, .int .i64 y] 29)) (.cells noughts6 34) w.heap.size (by simp)).trans (heap_alloc_new w _)
 have hlt : bx < w.heap.size := (Array.getElem?_eq_some_iff.1 hbx).1
 have HW := Lib.hid hW
 have HB := Lib.hid hB
 have HQ := Lib.hid hq
 have HP := Lib.hid hp
 have HX := Lib.hid hbx
 have HS := Lib.hid hS
 clear h hW hB hq hp hbx hS
 go_enter Tryz.func33, Tryz.ntmps33
 go_wp2_with (go_at_call 39; refine HW.out.mono ?_; rintro e w1 ⟨v, rfl, hb1, hv⟩; rw [hr] at hv; simp only [Bool.true_eq_false, false_and, or_false, true_and] at hv; subst hv; refine Hid.out ?_)
 refine Lib.hid ?_
 have hbw : Below w.heap.size w w1 := HB.out.trans (hb1.mono (by simp; omega))
 have hq1 : w1.heap[w.heap.size + 1]? = some (.cells noughts6 34 (0, 0)) := (hb1.block _ (by simp)).trans HQ.out
 have hp1 : w1.heap[w.heap.size]? = some (.cells #[.int .i64 2, .int .i64 x, .int .i64 y] 29 (0, 0)) := (hb1.block _ (by simp; omega)).trans HP.out
 have hx1 : w1.heap[bx]? = some (outer s0 s1 bi) := (hbw.block bx hlt).trans HX.out
 have hz1 : w.heap.size + 1 < w1.heap.size := (Array.getElem?_eq_some_iff.1 hq1).1
 have m0 := cell_of_row _ _ 0 _ _ (0, 0) hp1
 have m1 := cell_of_row _ _ 1 _ _ (0, 0) hp1
 have m2 := cell_of_row _ _ 2 _ _ (0, 0) hp1
 have o2 := cell_of_row _ _ 2 _ _ (0, 0) hx1
 simp at m0 m1 m2 o2
 have HQ1 := Lib.hid hq1
 have HBW := Lib.hid hbw
 clear hq1 hp1 hx1 hbw hb1 HW HB HQ HP HX
 go_wp2
 go_region_with (go_at_call 54; refine (HS.out _ HBW.out.drew).mono ?_; rintro e w2 ⟨e0, x1, x2, x3, p4, n4, c4, p5, n5, c5, err, rfl, hsp, hT⟩; have hq2 := (hsp.2 (w.heap.size + 1) (by omega) hz1).trans HQ1.out; have q0 := cell_of_row _ _ 0 _ _ (0, 0) hq2; have q1 := cell_of_row _ _ 1 _ _ (0, 0) hq2; have q2 := cell_of_row _ _ 2 _ _ (0, 0) hq2; have q3 := cell_of_row _ _ 3 _ _ (0, 0) hq2; have q4 := cell_of_row _ _ 4 _ _ (0, 0) hq2; have q5 := cell_of_row _ _ 5 _ _ (0, 0) hq2; have qf := (fun j => frozen_of_row _ _ j _ _ hq2); simp at q0 q1 q2 q3 q4 q5; have hb6 := Lib.hid (putR_block hq2 (.int .i64 e0) (.int .i64 x1) (.int .i64 x2) (.int .i64 x3) (.slice p4 n4 c4) (.slice p5 n5 c5)); have hK6 := Lib.hid ((Kept.refl (fun k => k = w.heap.size + 1) w2).putR (g := w.heap.size + 1) (Or.inl rfl) (.int .i64 e0) (.int .i64 x1) (.int .i64 x2) (.int .i64 x3) (.slice p4 n4 c4) (.slice p5 n5 c5)); have HSp := Lib.hid hsp; have HT := Lib.hid hT; have HQ2 := Lib.hid hq2; clear hq2 hsp hT)
 all_goals
  go_wp2
  refine bodyPost_ret (v := .tuple #[.agg #[.int .i64 e0, .int .i64 x1, .int .i64 x2, .int .i64 x3, .slice p4 n4 c4, .slice p5 n5 c5], err]) (results_reply Tryz.results33 _ _ (w.heap.size + 1) _ _ _ _ _ _ rfl hb6.out) rfl ?_
  exact ⟨e0, x1, x2, x3, p4, n4, c4, p5, n5, c5, _, _, w2, rfl, HBW.out.drew, hz1, HSp.out, HT.out, hK6.out, HQ2.out⟩

set_option maxHeartbeats 1000000 in
set_option maxRecDepth 100000 in
theorem doB_3 (bx bi : Nat) (s0 s1 : Value) (a : Addr) (m : Int) (w : World) (h : Env a m w) (hbx : w.heap[bx]? = some (outer s0 s1 bi)) (x y : Int) (hr : rendOk 3 x y = true) (T : Value → Value → World → World → Prop)
  (hS : ∀ W, Below w.heap.size w W → Calls Tryz.prog 55 #[.pointer (some ⟨bi, 0, none⟩), .int .i64 x] W fun e w2 => ∃ e0 x1 x2 x3 p4 n4 c4 p5 n5 c5 err, e = .returned (.tuple #[.agg #[.int .i64 e0, .int .i64 x1, .int .i64 x2, .int .i64 x3, .slice p4 n4 c4, .slice p5 n5 c5], err]) ∧ Spare w.heap.size W w2 ∧ T (.agg #[.int .i64 e0, .int .i64 x1, .int .i64 x2, .int .i64 x3, .slice p4 n4 c4, .slice p5 n5 c5]) err W w2) :
  Calls Tryz.prog 33 #[.pointer (some ⟨bx, 0, none⟩), .agg #[.int .i64 3, .int .i64 x, .int .i64 y]] w fun e w' => ∃ e0 x1 x2 x3 p4 n4 c4 p5 n5 c5 err W w2, e = .returned (.tuple #[.agg #[.int .i64 e0, .int .i64 x1, .int .i64 x2, .int .i64 x3, .slice p4 n4 c4, .slice p5 n5 c5], err]) ∧ Below w.heap.size w W ∧ w.heap.size + 1 < W.heap.size ∧ Spare w.heap.size W w2 ∧ T (.agg #[.int .i64 e0, .int .i64 x1, .int .i64 x2, .int .i64 x3, .slice p4 n4 c4, .slice p5 n5 c5]) err W w2 ∧ Kept (fun k => k = w.heap.size + 1) w2 w' ∧ w2.heap[w.heap.size + 1]? = some (.cells noughts6 34 (0, 0)) := by
 have hB : Below w.heap.size w ((w.alloc (.cells #[.int .i64 3, .int .i64 x, .int .i64 y] 29)).alloc (.cells noughts6 34)) := ((Below.refl _ _).alloc (Nat.le_refl _) _).alloc (by simp) _
 have hW := write_full a m _ (h.on hB) 3 x y
 have hq := alloc_at (w.alloc (.cells #[.int .i64 3, .int .i64 x, .int .i64 y] 29)) (.cells noughts6 34) (w.heap.size + 1) (by simp)
 have hp := (Below.heap_alloc (w.alloc (.cells #[.int .i64 3, .int .i64 x, .int .i64 y] 29)) (.cells noughts6 34) w.heap.size (by simp)).trans (heap_alloc_new w _)
 have hlt : bx < w.heap.size := (Array.getElem?_eq_some_iff.1 hbx).1
 have HW := Lib.hid hW
 have HB := Lib.hid hB
 have HQ := Lib.hid hq
 have HP := Lib.hid hp
 have HX := Lib.hid hbx
 have HS := Lib.hid hS
 clear h hW hB hq hp hbx hS
 go_enter Tryz.func33, Tryz.ntmps33
 go_wp2_with (go_at_call 39; refine HW.out.mono ?_; rintro e w1 ⟨v, rfl, hb1, hv⟩; rw [hr] at hv; simp only [Bool.true_eq_false, false_and, or_false, true_and] at hv; subst hv; refine Hid.out ?_)
 refine Lib.hid ?_
 have hbw : Below w.heap.size w w1 := HB.out.trans (hb1.mono (by simp; omega))
 have hq1 : w1.heap[w.heap.size + 1]? = some (.cells noughts6 34 (0, 0)) := (hb1.block _ (by simp)).trans HQ.out
 have hp1 : w1.heap[w.heap.size]? = some (.cells #[.int .i64 3, .int .i64 x, .int .i64 y] 29 (0, 0)) := (hb1.block _ (by simp; omega)).trans HP.out
 have hx1 : w1.heap[bx]? = some (outer s0 s1 bi) := (hbw.block bx hlt).trans HX.out
 have hz1 : w.heap.size + 1 < w1.heap.size := (Array.getElem?_eq_some_iff.1 hq1).1
 have m0 := cell_of_row _ _ 0 _ _ (0, 0) hp1
 have m1 := cell_of_row _ _ 1 _ _ (0, 0) hp1
 have m2 := cell_of_row _ _ 2 _ _ (0, 0) hp1
 have o2 := cell_of_row _ _ 2 _ _ (0, 0) hx1
 simp at m0 m1 m2 o2
 have HQ1 := Lib.hid hq1
 have HBW := Lib.hid hbw
 clear hq1 hp1 hx1 hbw hb1 HW HB HQ HP HX
 go_wp2
 go_region_with (go_at_call 55; refine (HS.out _ HBW.out.drew).mono ?_; rintro e w2 ⟨e0, x1, x2, x3, p4, n4, c4, p5, n5, c5, err, rfl, hsp, hT⟩; have hq2 := (hsp.2 (w.heap.size + 1) (by omega) hz1).trans HQ1.out; have q0 := cell_of_row _ _ 0 _ _ (0, 0) hq2; have q1 := cell_of_row _ _ 1 _ _ (0, 0) hq2; have q2 := cell_of_row _ _ 2 _ _ (0, 0) hq2; have q3 := cell_of_row _ _ 3 _ _ (0, 0) hq2; have q4 := cell_of_row _ _ 4 _ _ (0, 0) hq2; have q5 := cell_of_row _ _ 5 _ _ (0, 0) hq2; have qf := (fun j => frozen_of_row _ _ j _ _ hq2); simp at q0 q1 q2 q3 q4 q5; have hb6 := Lib.hid (putR_block hq2 (.int .i64 e0) (.int .i64 x1) (.int .i64 x2) (.int .i64 x3) (.slice p4 n4 c4) (.slice p5 n5 c5)); have hK6 := Lib.hid ((Kept.refl (fun k => k = w.heap.size + 1) w2).putR (g := w.heap.size + 1) (Or.inl rfl) (.int .i64 e0) (.int .i64 x1) (.int .i64 x2) (.int .i64 x3) (.slice p4 n4 c4) (.slice p5 n5 c5)); have HSp := Lib.hid hsp; have HT := Lib.hid hT; have HQ2 := Lib.hid hq2; clear hq2 hsp hT)
 all_goals
  go_wp2
  refine bodyPost_ret (v := .tuple #[.agg #[.int .i64 e0, .int .i64 x1, .int .i64 x2, .int .i64 x3, .slice p4 n4 c4, .slice p5 n5 c5], err]) (results_reply Tryz.results33 _ _ (w.heap.size + 1) _ _ _ _ _ _ rfl hb6.out) rfl ?_
  exact ⟨e0, x1, x2, x3, p4, n4, c4, p5, n5, c5, _, _, w2, rfl, HBW.out.drew, hz1, HSp.out, HT.out, hK6.out, HQ2.out⟩

set_option maxHeartbeats 1000000 in
set_option maxRecDepth 100000 in
theorem doB_4 (bx bi : Nat) (s0 s1 : Value) (a : Addr) (m : Int) (w : World) (h : Env a m w) (hbx : w.heap[bx]? = some (outer s0 s1 bi)) (x y : Int) (hr : rendOk 4 x y = true) (T : Value → Value → World → World → Prop)
  (hS : ∀ W, Below w.heap.size w W → Calls Tryz.prog 56 #[.pointer (some ⟨bi, 0, none⟩), .int .i64 x] W fun e w2 => ∃ e0 x1 x2 x3 p4 n4 c4 p5 n5 c5 err, e = .returned (.tuple #[.agg #[.int .i64 e0, .int .i64 x1, .int .i64 x2, .int .i64 x3, .slice p4 n4 c4, .slice p5 n5 c5], err]) ∧ Spare w.heap.size W w2 ∧ T (.agg #[.int .i64 e0, .int .i64 x1, .int .i64 x2, .int .i64 x3, .slice p4 n4 c4, .slice p5 n5 c5]) err W w2) :
  Calls Tryz.prog 33 #[.pointer (some ⟨bx, 0, none⟩), .agg #[.int .i64 4, .int .i64 x, .int .i64 y]] w fun e w' => ∃ e0 x1 x2 x3 p4 n4 c4 p5 n5 c5 err W w2, e = .returned (.tuple #[.agg #[.int .i64 e0, .int .i64 x1, .int .i64 x2, .int .i64 x3, .slice p4 n4 c4, .slice p5 n5 c5], err]) ∧ Below w.heap.size w W ∧ w.heap.size + 1 < W.heap.size ∧ Spare w.heap.size W w2 ∧ T (.agg #[.int .i64 e0, .int .i64 x1, .int .i64 x2, .int .i64 x3, .slice p4 n4 c4, .slice p5 n5 c5]) err W w2 ∧ Kept (fun k => k = w.heap.size + 1) w2 w' ∧ w2.heap[w.heap.size + 1]? = some (.cells noughts6 34 (0, 0)) := by
 have hB : Below w.heap.size w ((w.alloc (.cells #[.int .i64 4, .int .i64 x, .int .i64 y] 29)).alloc (.cells noughts6 34)) := ((Below.refl _ _).alloc (Nat.le_refl _) _).alloc (by simp) _
 have hW := write_full a m _ (h.on hB) 4 x y
 have hq := alloc_at (w.alloc (.cells #[.int .i64 4, .int .i64 x, .int .i64 y] 29)) (.cells noughts6 34) (w.heap.size + 1) (by simp)
 have hp := (Below.heap_alloc (w.alloc (.cells #[.int .i64 4, .int .i64 x, .int .i64 y] 29)) (.cells noughts6 34) w.heap.size (by simp)).trans (heap_alloc_new w _)
 have hlt : bx < w.heap.size := (Array.getElem?_eq_some_iff.1 hbx).1
 have HW := Lib.hid hW
 have HB := Lib.hid hB
 have HQ := Lib.hid hq
 have HP := Lib.hid hp
 have HX := Lib.hid hbx
 have HS := Lib.hid hS
 clear h hW hB hq hp hbx hS
 go_enter Tryz.func33, Tryz.ntmps33
 go_wp2_with (go_at_call 39; refine HW.out.mono ?_; rintro e w1 ⟨v, rfl, hb1, hv⟩; rw [hr] at hv; simp only [Bool.true_eq_false, false_and, or_false, true_and] at hv; subst hv; refine Hid.out ?_)
 refine Lib.hid ?_
 have hbw : Below w.heap.size w w1 := HB.out.trans (hb1.mono (by simp; omega))
 have hq1 : w1.heap[w.heap.size + 1]? = some (.cells noughts6 34 (0, 0)) := (hb1.block _ (by simp)).trans HQ.out
 have hp1 : w1.heap[w.heap.size]? = some (.cells #[.int .i64 4, .int .i64 x, .int .i64 y] 29 (0, 0)) := (hb1.block _ (by simp; omega)).trans HP.out
 have hx1 : w1.heap[bx]? = some (outer s0 s1 bi) := (hbw.block bx hlt).trans HX.out
 have hz1 : w.heap.size + 1 < w1.heap.size := (Array.getElem?_eq_some_iff.1 hq1).1
 have m0 := cell_of_row _ _ 0 _ _ (0, 0) hp1
 have m1 := cell_of_row _ _ 1 _ _ (0, 0) hp1
 have m2 := cell_of_row _ _ 2 _ _ (0, 0) hp1
 have o2 := cell_of_row _ _ 2 _ _ (0, 0) hx1
 simp at m0 m1 m2 o2
 have HQ1 := Lib.hid hq1
 have HBW := Lib.hid hbw
 clear hq1 hp1 hx1 hbw hb1 HW HB HQ HP HX
 go_wp2
 go_region_with (go_at_call 56; refine (HS.out _ HBW.out.drew).mono ?_; rintro e w2 ⟨e0, x1, x2, x3, p4, n4, c4, p5, n5, c5, err, rfl, hsp, hT⟩; have hq2 := (hsp.2 (w.heap.size + 1) (by omega) hz1).trans HQ1.out; have q0 := cell_of_row _ _ 0 _ _ (0, 0) hq2; have q1 := cell_of_row _ _ 1 _ _ (0, 0) hq2; have q2 := cell_of_row _ _ 2 _ _ (0, 0) hq2; have q3 := cell_of_row _ _ 3 _ _ (0, 0) hq2; have q4 := cell_of_row _ _ 4 _ _ (0, 0) hq2; have q5 := cell_of_row _ _ 5 _ _ (0, 0) hq2; have qf := (fun j => frozen_of_row _ _ j _ _ hq2); simp at q0 q1 q2 q3 q4 q5; have hb6 := Lib.hid (putR_block hq2 (.int .i64 e0) (.int .i64 x1) (.int .i64 x2) (.int .i64 x3) (.slice p4 n4 c4) (.slice p5 n5 c5)); have hK6 := Lib.hid ((Kept.refl (fun k => k = w.heap.size + 1) w2).putR (g := w.heap.size + 1) (Or.inl rfl) (.int .i64 e0) (.int .i64 x1) (.int .i64 x2) (.int .i64 x3) (.slice p4 n4 c4) (.slice p5 n5 c5)); have HSp := Lib.hid hsp; have HT := Lib.hid hT; have HQ2 := Lib.hid hq2; clear hq2 hsp hT)
 all_goals
  go_wp2
  refine bodyPost_ret (v := .tuple #[.agg #[.int .i64 e0, .int .i64 x1, .int .i64 x2, .int .i64 x3, .slice p4 n4 c4, .slice p5 n5 c5], err]) (results_reply Tryz.results33 _ _ (w.heap.size + 1) _ _ _ _ _ _ rfl hb6.out) rfl ?_
  exact ⟨e0, x1, x2, x3, p4, n4, c4, p5, n5, c5, _, _, w2, rfl, HBW.out.drew, hz1, HSp.out, HT.out, hK6.out, HQ2.out⟩

set_option maxHeartbeats 1000000 in
set_option maxRecDepth 100000 in
theorem doB_5 (bx bi : Nat) (s0 s1 : Value) (a : Addr) (m : Int) (w : World) (h : Env a m w) (hbx : w.heap[bx]? = some (outer s0 s1 bi)) (x y : Int) (hr : rendOk 5 x y = true) (T : Value → Value → World → World → Prop)
  (hS : ∀ W, Below w.heap.size w W → Calls Tryz.prog 57 #[.pointer (some ⟨bi, 0, none⟩), .int .i64 x] W fun e w2 => ∃ e0 x1 x2 x3 p4 n4 c4 p5 n5 c5 err, e = .returned (.tuple #[.agg #[.int .i64 e0, .int .i64 x1, .int .i64 x2, .int .i64 x3, .slice p4 n4 c4, .slice p5 n5 c5], err]) ∧ Spare w.heap.size W w2 ∧ T (.agg #[.int .i64 e0, .int .i64 x1, .int .i64 x2, .int .i64 x3, .slice p4 n4 c4, .slice p5 n5 c5]) err W w2) :
  Calls Tryz.prog 33 #[.pointer (some ⟨bx, 0, none⟩), .agg #[.int .i64 5, .int .i64 x, .int .i64 y]] w fun e w' => ∃ e0 x1 x2 x3 p4 n4 c4 p5 n5 c5 err W w2, e = .returned (.tuple #[.agg #[.int .i64 e0, .int .i64 x1, .int .i64 x2, .int .i64 x3, .slice p4 n4 c4, .slice p5 n5 c5], err]) ∧ Below w.heap.size w W ∧ w.heap.size + 1 < W.heap.size ∧ Spare w.heap.size W w2 ∧ T (.agg #[.int .i64 e0, .int .i64 x1, .int .i64 x2, .int .i64 x3, .slice p4 n4 c4, .slice p5 n5 c5]) err W w2 ∧ Kept (fun k => k = w.heap.size + 1) w2 w' ∧ w2.heap[w.heap.size + 1]? = some (.cells noughts6 34 (0, 0)) := by
 have hB : Below w.heap.size w ((w.alloc (.cells #[.int .i64 5, .int .i64 x, .int .i64 y] 29)).alloc (.cells noughts6 34)) := ((Below.refl _ _).alloc (Nat.le_refl _) _).alloc (by simp) _
 have hW := write_full a m _ (h.on hB) 5 x y
 have hq := alloc_at (w.alloc (.cells #[.int .i64 5, .int .i64 x, .int .i64 y] 29)) (.cells noughts6 34) (w.heap.size + 1) (by simp)
 have hp := (Below.heap_alloc (w.alloc (.cells #[.int .i64 5, .int .i64 x, .int .i64 y] 29)) (.cells noughts6 34) w.heap.size (by simp)).trans (heap_alloc_new w _)
 have hlt : bx < w.heap.size := (Array.getElem?_eq_some_iff.1 hbx).1
 have HW := Lib.hid hW
 have HB := Lib.hid hB
 have HQ := Lib.hid hq
 have HP := Lib.hid hp
 have HX := Lib.hid hbx
 have HS := Lib.hid hS
 clear h hW hB hq hp hbx hS
 go_enter Tryz.func33, Tryz.ntmps33
 go_wp2_with (go_at_call 39; refine HW.out.mono ?_; rintro e w1 ⟨v, rfl, hb1, hv⟩; rw [hr] at hv; simp only [Bool.true_eq_false, false_and, or_false, true_and] at hv; subst hv; refine Hid.out ?_)
 refine Lib.hid ?_
 have hbw : Below w.heap.size w w1 := HB.out.trans (hb1.mono (by simp; omega))
 have hq1 : w1.heap[w.heap.size + 1]? = some (.cells noughts6 34 (0, 0)) := (hb1.block _ (by simp)).trans HQ.out
 have hp1 : w1.heap[w.heap.size]? = some (.cells #[.int .i64 5, .int .i64 x, .int .i64 y] 29 (0, 0)) := (hb1.block _ (by simp; omega)).trans HP.out
 have hx1 : w1.heap[bx]? = some (outer s0 s1 bi) := (hbw.block bx hlt).trans HX.out
 have hz1 : w.heap.size + 1 < w1.heap.size := (Array.getElem?_eq_some_iff.1 hq1).1
 have m0 := cell_of_row _ _ 0 _ _ (0, 0) hp1
 have m1 := cell_of_row _ _ 1 _ _ (0, 0) hp1
 have m2 := cell_of_row _ _ 2 _ _ (0, 0) hp1
 have o2 := cell_of_row _ _ 2 _ _ (0, 0) hx1
 simp at m0 m1 m2 o2
 have HQ1 := Lib.hid hq1
 have HBW := Lib.hid hbw
 clear hq1 hp1 hx1 hbw hb1 HW HB HQ HP HX
 go_wp2
 go_region_with (go_at_call 57; refine (HS.out _ HBW.out.drew).mono ?_; rintro e w2 ⟨e0, x1, x2, x3, p4, n4, c4, p5, n5, c5, err, rfl, hsp, hT⟩; have hq2 := (hsp.2 (w.heap.size + 1) (by omega) hz1).trans HQ1.out; have q0 := cell_of_row _ _ 0 _ _ (0, 0) hq2; have q1 := cell_of_row _ _ 1 _ _ (0, 0) hq2; have q2 := cell_of_row _ _ 2 _ _ (0, 0) hq2; have q3 := cell_of_row _ _ 3 _ _ (0, 0) hq2; have q4 := cell_of_row _ _ 4 _ _ (0, 0) hq2; have q5 := cell_of_row _ _ 5 _ _ (0, 0) hq2; have qf := (fun j => frozen_of_row _ _ j _ _ hq2); simp at q0 q1 q2 q3 q4 q5; have hb6 := Lib.hid (putR_block hq2 (.int .i64 e0) (.int .i64 x1) (.int .i64 x2) (.int .i64 x3) (.slice p4 n4 c4) (.slice p5 n5 c5)); have hK6 := Lib.hid ((Kept.refl (fun k => k = w.heap.size + 1) w2).putR (g := w.heap.size + 1) (Or.inl rfl) (.int .i64 e0) (.int .i64 x1) (.int .i64 x2) (.int .i64 x3) (.slice p4 n4 c4) (.slice p5 n5 c5)); have HSp := Lib.hid hsp; have HT := Lib.hid hT; have HQ2 := Lib.hid hq2; clear hq2 hsp hT)
 all_goals
  go_wp2
  refine bodyPost_ret (v := .tuple #[.agg #[.int .i64 e0, .int .i64 x1, .int .i64 x2, .int .i64 x3, .slice p4 n4 c4, .slice p5 n5 c5], err]) (results_reply Tryz.results33 _ _ (w.heap.size + 1) _ _ _ _ _ _ rfl hb6.out) rfl ?_
  exact ⟨e0, x1, x2, x3, p4, n4, c4, p5, n5, c5, _, _, w2, rfl, HBW.out.drew, hz1, HSp.out, HT.out, hK6.out, HQ2.out⟩

set_option maxHeartbeats 1000000 in
set_option maxRecDepth 100000 in
theorem doB_6 (bx bi : Nat) (s0 s1 : Value) (a : Addr) (m : Int) (w : World) (h : Env a m w) (hbx : w.heap[bx]? = some (outer s0 s1 bi)) (x y : Int) (hr : rendOk 6 x y = true) (T : Value → Value → World → World → Prop)
  (hS : ∀ W, Below w.heap.size w W → Calls Tryz.prog 58 #[.pointer (some ⟨bi, 0, none⟩)] W fun e w2 => ∃ e0 x1 x2 x3 p4 n4 c4 p5 n5 c5, e = .returned (.agg #[.int .i64 e0, .int .i64 x1, .int .i64 x2, .int .i64 x3, .slice p4 n4 c4, .slice p5 n5 c5]) ∧ Spare w.heap.size W w2 ∧ T (.agg #[.int .i64 e0, .int .i64 x1, .int .i64 x2, .int .i64 x3, .slice p4 n4 c4, .slice p5 n5 c5]) .nilIface W w2) :
  Calls Tryz.prog 33 #[.pointer (some ⟨bx, 0, none⟩), .agg #[.int .i64 6, .int .i64 x, .int .i64 y]] w fun e w' => ∃ e0 x1 x2 x3 p4 n4 c4 p5 n5 c5 err W w2, e = .returned (.tuple #[.agg #[.int .i64 e0, .int .i64 x1, .int .i64 x2, .int .i64 x3, .slice p4 n4 c4, .slice p5 n5 c5], err]) ∧ Below w.heap.size w W ∧ w.heap.size + 1 < W.heap.size ∧ Spare w.heap.size W w2 ∧ T (.agg #[.int .i64 e0, .int .i64 x1, .int .i64 x2, .int .i64 x3, .slice p4 n4 c4, .slice p5 n5 c5]) err W w2 ∧ Kept (fun k => k = w.heap.size + 1) w2 w' ∧ w2.heap[w.heap.size + 1]? = some (.cells noughts6 34 (0, 0)) := by
 have hB : Below w.heap.size w ((w.alloc (.cells #[.int .i64 6, .int .i64 x, .int .i64 y] 29)).alloc (.cells noughts6 34)) := ((Below.refl _ _).alloc (Nat.le_refl _) _).alloc (by simp) _
 have hW := write_full a m _ (h.on hB) 6 x y
 have hq := alloc_at (w.alloc (.cells #[.int .i64 6, .int .i64 x, .int .i64 y] 29)) (.cells noughts6 34) (w.heap.size + 1) (by simp)
 have hp := (Below.heap_alloc (w.alloc (.cells #[.int .i64 6, .int .i64 x, .int .i64 y] 29)) (.cells noughts6 34) w.heap.size (by simp)).trans (heap_alloc_new w _)
 have hlt : bx < w.heap.size := (Array.getElem?_eq_some_iff.1 hbx).1
 have HW := Lib.hid hW
 have HB := Lib.hid hB
 have HQ := Lib.hid hq
 have HP := Lib.hid hp
 have HX := Lib.hid hbx
 have HS := Lib.hid hS
 clear h hW hB hq hp hbx hS
 go_enter Tryz.func33, Tryz.ntmps33
 go_wp2_with (go_at_call 39; refine HW.out.mono ?_; rintro e w1 ⟨v, rfl, hb1, hv⟩; rw [hr] at hv; simp only [Bool.true_eq_false, false_and, or_false, true_and] at hv; subst hv; refine Hid.out ?_)
 refine Lib.hid ?_
 have hbw : Below w.heap.size w w1 := HB.out.trans (hb1.mono (by simp; omega))
 have hq1 : w1.heap[w.heap.size + 1]? = some (.cells noughts6 34 (0, 0)) := (hb1.block _ (by simp)).trans HQ.out
 have hp1 : w1.heap[w.heap.size]? = some (.cells #[.int .i64 6, .int .i64 x, .int .i64 y] 29 (0, 0)) := (hb1.block _ (by simp; omega)).trans HP.out
 have hx1 : w1.heap[bx]? = some (outer s0 s1 bi) := (hbw.block bx hlt).trans HX.out
 have hz1 : w.heap.size + 1 < w1.heap.size := (Array.getElem?_eq_some_iff.1 hq1).1
 have m0 := cell_of_row _ _ 0 _ _ (0, 0) hp1
 have m1 := cell_of_row _ _ 1 _ _ (0, 0) hp1
 have m2 := cell_of_row _ _ 2 _ _ (0, 0) hp1
 have o2 := cell_of_row _ _ 2 _ _ (0, 0) hx1
 simp at m0 m1 m2 o2
 have HQ1 := Lib.hid hq1
 have HBW := Lib.hid hbw
 clear hq1 hp1 hx1 hbw hb1 HW HB HQ HP HX
 go_wp2_with (go_at_call 58; refine (HS.out _ HBW.out).mono ?_; rintro e w2 ⟨e0, x1, x2, x3, p4, n4, c4, p5, n5, c5, rfl, hsp, hT⟩; have hq2 := (hsp.2 (w.heap.size + 1) (by omega) hz1).trans HQ1.out; have q0 := cell_of_row _ _ 0 _ _ (0, 0) hq2; have q1 := cell_of_row _ _ 1 _ _ (0, 0) hq2; have q2 := cell_of_row _ _ 2 _ _ (0, 0) hq2; have q3 := cell_of_row _ _ 3 _ _ (0, 0) hq2; have q4 := cell_of_row _ _ 4 _ _ (0, 0) hq2; have q5 := cell_of_row _ _ 5 _ _ (0, 0) hq2; have qf := (fun j => frozen_of_row _ _ j _ _ hq2); simp at q0 q1 q2 q3 q4 q5; have hb6 := Lib.hid (putR_block hq2 (.int .i64 e0) (.int .i64 x1) (.int .i64 x2) (.int .i64 x3) (.slice p4 n4 c4) (.slice p5 n5 c5)); have hK6 := Lib.hid ((Kept.refl (fun k => k = w.heap.size + 1) w2).putR (g := w.heap.size + 1) (Or.inl rfl) (.int .i64 e0) (.int .i64 x1) (.int .i64 x2) (.int .i64 x3) (.slice p4 n4 c4) (.slice p5 n5 c5)); have HSp := Lib.hid hsp; have HT := Lib.hid hT; have HQ2 := Lib.hid hq2; clear hq2 hsp hT; refine Hid.out ?_)
 refine Lib.hid ?_
 all_goals
  go_wp2
  refine bodyPost_ret (v := .tuple #[.agg #[.int .i64 e0, .int .i64 x1, .int .i64 x2, .int .i64 x3, .slice p4 n4 c4, .slice p5 n5 c5], .nilIface]) (results_reply Tryz.results33 _ _ (w.heap.size + 1) _ _ _ _ _ _ rfl hb6.out) rfl ?_
  exact ⟨e0, x1, x2, x3, p4, n4, c4, p5, n5, c5, _, _, w2, rfl, HBW.out, hz1, HSp.out, HT.out, hK6.out, HQ2.out⟩

set_option maxHeartbeats 1000000 in
set_option maxRecDepth 100000 in
theorem doB_7 (bx bi : Nat) (s0 s1 : Value) (a : Addr) (m : Int) (w : World) (h : Env a m w) (hbx : w.heap[bx]? = some (outer s0 s1 bi)) (x y : Int) (hr : rendOk 7 x y = true) (T : Value → Value → World → World → Prop)
  (hS : ∀ W, Below w.heap.size w W → Calls Tryz.prog 59 #[.pointer (some ⟨bi, 0, none⟩)] W fun e w2 => ∃ e0 x1 x2 x3 p4 n4 c4 p5 n5 c5, e = .returned (.agg #[.int .i64 e0, .int .i64 x1, .int .i64 x2, .int .i64 x3, .slice p4 n4 c4, .slice p5 n5 c5]) ∧ Spare w.heap.size W w2 ∧ T (.agg #[.int .i64 e0, .int .i64 x1, .int .i64 x2, .int .i64 x3, .slice p4 n4 c4, .slice p5 n5 c5]) .nilIface W w2) :
  Calls Tryz.prog 33 #[.pointer (some ⟨bx, 0, none⟩), .agg #[.int .i64 7, .int .i64 x, .int .i64 y]] w fun e w' => ∃ e0 x1 x2 x3 p4 n4 c4 p5 n5 c5 err W w2, e = .returned (.tuple #[.agg #[.int .i64 e0, .int .i64 x1, .int .i64 x2, .int .i64 x3, .slice p4 n4 c4, .slice p5 n5 c5], err]) ∧ Below w.heap.size w W ∧ w.heap.size + 1 < W.heap.size ∧ Spare w.heap.size W w2 ∧ T (.agg #[.int .i64 e0, .int .i64 x1, .int .i64 x2, .int .i64 x3, .slice p4 n4 c4, .slice p5 n5 c5]) err W w2 ∧ Kept (fun k => k = w.heap.size + 1) w2 w' ∧ w2.heap[w.heap.size + 1]? = some (.cells noughts6 34 (0, 0)) := by
 have hB : Below w.heap.size w ((w.alloc (.cells #[.int .i64 7, .int .i64 x, .int .i64 y] 29)).alloc (.cells noughts6 34)) := ((Below.refl _ _).alloc (Nat.le_refl _) _).alloc (by simp) _
 have hW := write_full a m _ (h.on hB) 7 x y
 have hq := alloc_at (w.alloc (.cells #[.int .i64 7, .int .i64 x, .int .i64 y] 29)) (.cells noughts6 34) (w.heap.size + 1) (by simp)
 have hp := (Below.heap_alloc (w.alloc (.cells #[.int .i64 7, .int .i64 x, .int .i64 y] 29)) (.cells noughts6 34) w.heap.size (by simp)).trans (heap_alloc_new w _)
 have hlt : bx < w.heap.size := (Array.getElem?_eq_some_iff.1 hbx).1
 have HW := Lib.hid hW
 have HB := Lib.hid hB
 have HQ := Lib.hid hq
 have HP := Lib.hid hp
 have HX := Lib.hid hbx
 have HS := Lib.hid hS
 clear h hW hB hq hp hbx hS
 go_enter Tryz.func33, Tryz.ntmps33
 go_wp2_with (go_at_call 39; refine HW.out.mono ?_; rintro e w1 ⟨v, rfl, hb1, hv⟩; rw [hr] at hv; simp only [Bool.true_eq_false, false_and, or_false, true_and] at hv; subst hv; refine Hid.out ?_)
 refine Lib.hid ?_
 have hbw : Below w.heap.size w w1 := HB.out.trans (hb1.mono (by simp; omega))
 have hq1 : w1.heap[w.heap.size + 1]? = some (.cells noughts6 34 (0, 0)) := (hb1.block _ (by simp)).trans HQ.out
 have hp1 : w1.heap[w.heap.size]? = some (.cells #[.int .i64 7, .int .i64 x, .int .i64 y] 29 (0, 0)) := (hb1.block _ (by simp; omega)).trans HP.out
 have hx1 : w1.heap[bx]? = some (outer s0 s1 bi) := (hbw.block bx hlt).trans HX.out
 have hz1 : w.heap.size + 1 < w1.heap.size := (Array.getElem?_eq_some_iff.1 hq1).1
 have m0 := cell_of_row _ _ 0 _ _ (0, 0) hp1
 have m1 := cell_of_row _ _ 1 _ _ (0, 0) hp1
 have m2 := cell_of_row _ _ 2 _ _ (0, 0) hp1
 have o2 := cell_of_row _ _ 2 _ _ (0, 0) hx1
 simp at m0 m1 m2 o2
 have HQ1 := Lib.hid hq1
 have HBW := Lib.hid hbw
 clear hq1 hp1 hx1 hbw hb1 HW HB HQ HP HX
 go_wp2_with (go_at_call 59; refine (HS.out _ HBW.out).mono ?_; rintro e w2 ⟨e0, x1, x2, x3, p4, n4, c4, p5, n5, c5, rfl, hsp, hT⟩; have hq2 := (hsp.2 (w.heap.size + 1) (by omega) hz1).trans HQ1.out; have q0 := cell_of_row _ _ 0 _ _ (0, 0) hq2; have q1 := cell_of_row _ _ 1 _ _ (0, 0) hq2; have q2 := cell_of_row _ _ 2 _ _ (0, 0) hq2; have q3 := cell_of_row _ _ 3 _ _ (0, 0) hq2; have q4 := cell_of_row _ _ 4 _ _ (0, 0) hq2; have q5 := cell_of_row _ _ 5 _ _ (0, 0) hq2; have qf := (fun j => frozen_of_row _ _ j _ _ hq2); simp at q0 q1 q2 q3 q4 q5; have hb6 := Lib.hid (putR_block hq2 (.int .i64 e0) (.int .i64 x1) (.int .i64 x2) (.int .i64 x3) (.slice p4 n4 c4) (.slice p5 n5 c5)); have hK6 := Lib.hid ((Kept.refl (fun k => k = w.heap.size + 1) w2).putR (g := w.heap.size + 1) (Or.inl rfl) (.int .i64 e0) (.int .i64 x1) (.int .i64 x2) (.int .i64 x3) (.slice p4 n4 c4) (.slice p5 n5 c5)); have HSp := Lib.hid hsp; have HT := Lib.hid hT; have HQ2 := Lib.hid hq2; clear hq2 hsp hT; refine Hid.out ?_)
 refine Lib.hid ?_
 all_goals
  go_wp2
  refine bodyPost_ret (v := .tuple #[.agg #[.int .i64 e0, .int .i64 x1, .int .i64 x2, .int .i64 x3, .slice p4 n4 c4, .slice p5 n5 c5], .nilIface]) (results_reply Tryz.results33 _ _ (w.heap.size + 1) _ _ _ _ _ _ rfl hb6.out) rfl ?_
  exact ⟨e0, x1, x2, x3, p4, n4, c4, p5, n5, c5, _, _, w2, rfl, HBW.out, hz1, HSp.out, HT.out, hK6.out, HQ2.out⟩

end Go.Proofs.YtpcgnadfldimhaaGreatDoor
