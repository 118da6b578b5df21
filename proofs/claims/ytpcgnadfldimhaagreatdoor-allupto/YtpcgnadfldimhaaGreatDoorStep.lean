/-
 A step of a script that reads a line or writes a command, by its contracts.
-/
import Derived.Test.YtpcgnadfldimhaaGreatDoorRefQ
namespace Go.Proofs.YtpcgnadfldimhaaGreatDoor
open Go.RowKit

theorem num_any (k : Int) (w : World) : Calls Tryz.prog 41 #[.int .i64 k] w fun e w' => e = .returned (.int .i64 k) ∧ w' = w := by
 go_enter Tryz.func41, Tryz.ntmps41
 go_wp2
 go_ret
 exact ⟨rfl, rfl⟩

/-- What both readings of a line answer. -/
def Ans (s : ByteArray) (k x y r : Int) : Prop := (∃ n : Nat, k = n ∧ Cmd s n x y ∧ r = 0) ∨ ((∀ n x y, ¬ Cmd s n x y) ∧ k = 0 ∧ x = 0 ∧ y = 0 ∧ r = 1)

theorem ans_ex (s : ByteArray) : ∃ k x y r, Ans s k x y r := by
 by_cases h : ∃ n x y, Cmd s n x y
 ·obtain ⟨n, x, y, hc⟩ := h
  exact ⟨n, x, y, 0, Or.inl ⟨n, rfl, hc, rfl⟩⟩
 ·exact ⟨0, 0, 0, 1, Or.inr ⟨fun n x y hc => h ⟨n, x, y, hc⟩, rfl, rfl, rfl, rfl⟩⟩

theorem parse_ans (a : Addr) (m : Int) (w : World) (h : Env a m w) (s : ByteArray) (hm : s.size ≤ maxLen) (k x y r : Int) (hA : Ans s k x y r) :
  Calls Tryz.prog 37 #[.string s] w fun e w' => e = .returned (.tuple #[.agg #[.int .i64 k, .int .i64 x, .int .i64 y], .int .i64 r]) ∧ Below w.heap.size w w' := by
 rcases hA with ⟨n, rfl, hc, rfl⟩ | ⟨hc, rfl, rfl, rfl, rfl⟩
 ·exact parse_cmd a m w h s n x y hc
 ·exact parse_nocmd a m w h s hm hc

theorem refP_ans (w : World) (s : ByteArray) (hm : s.size ≤ maxLen) (k x y r : Int) (hA : Ans s k x y r) :
  Calls Tryz.prog 40 #[.string s] w fun e w' => e = .returned (.tuple #[.agg #[.int .i64 k, .int .i64 x, .int .i64 y], .int .i64 r]) ∧ Below w.heap.size w w' := by
 rcases hA with ⟨n, rfl, hc, rfl⟩ | ⟨hc, rfl, rfl, rfl, rfl⟩
 ·exact refP_cmd s w n x y hc
 ·exact refP_nocmd s w hm hc

theorem new_old {w w1 : World} {cs : Array Value} {t : TypeId} (hb : Below (w.alloc (.cells cs t)).heap.size (w.alloc (.cells cs t)) w1) (j : Nat) : w1.cell? ⟨w.heap.size, j, none⟩ = cs[j]? :=
 (hb.cell (p := ⟨w.heap.size, j, none⟩) (by simp)).trans (cell_of_row _ _ j _ t (0, 0) (heap_alloc_new w (.cells cs t)))

set_option maxHeartbeats 2000000 in
set_option maxRecDepth 100000 in
theorem step_parse (a : Addr) (m : Int) (w : World) (h : Env a m w) (p : Value) (i c1 c2 c3 c4 d1 d2 d3 : Int) (s : ByteArray) (hm : s.size ≤ maxLen) :
  Calls Tryz.prog 28 #[p, .agg #[.int .i64 1, .int .i64 i, .int .i64 c1, .int .i64 c2, .int .i64 c3, .int .i64 c4, .int .i64 d1, .int .i64 d2, .int .i64 d3, .string s]] w fun e w' => e = .returned (.bool true) ∧ Below w.heap.size w w' := by
 obtain ⟨k, x, y, r, hA⟩ := ans_ex s
 have hE1 : ∀ o, Env a m (w.alloc o) := fun o => h.on ((Below.refl _ _).alloc (Nat.le_refl _) _)
 go_enter Tryz.func28, Tryz.ntmps28
 go_wp2_with (go_at_call 37; refine (parse_ans a m _ (hE1 _) s hm k x y r hA).mono ?_; rintro e w1 ⟨rfl, hb1⟩; refine Hid.out ?_)
 refine Lib.hid ?_
 have q9 := new_old hb1 9
 have hb := ((Below.refl w.heap.size w).alloc (Nat.le_refl _) _).trans (hb1.mono (by simp))
 have hlt := hb1.size
 simp at hlt
 have hlt' : w.heap.size < w1.heap.size := by omega
 simp at q9
 clear hb1
 go_wp2_with (go_at_call 40; refine (refP_ans _ s hm k x y r hA).mono ?_; rintro e w2 ⟨rfl, hb2⟩; refine Hid.out ?_)
 refine Lib.hid ?_
 have v0 := new_old hb2 0
 have v1 := new_old hb2 1
 have v2 := new_old hb2 2
 have hz2 := hb2.size
 simp at v0 v1 v2 hz2
 have hlt2 : w1.heap.size < w2.heap.size := by omega
 have hbz := (hb.alloc hb.size _).trans (hb2.mono (by simp; omega))
 clear hb2
 go_wp2_with (go_at_call 41; refine (num_any _ _).mono ?_; rintro e w' ⟨rfl, rfl⟩)
 go_ret
 exact ⟨by simp, hbz.alloc hbz.size _⟩

set_option maxHeartbeats 2000000 in
set_option maxRecDepth 100000 in
theorem step_render (a : Addr) (m : Int) (w : World) (h : Env a m w) (p : Value) (i c1 c2 c3 c4 d1 d2 d3 : Int) (s : ByteArray) :
  Calls Tryz.prog 28 #[p, .agg #[.int .i64 2, .int .i64 i, .int .i64 c1, .int .i64 c2, .int .i64 c3, .int .i64 c4, .int .i64 d1, .int .i64 d2, .int .i64 d3, .string s]] w fun e w' => e = .returned (.bool true) ∧ Below w.heap.size w w' := by
 have hE1 : ∀ o, Env a m (w.alloc o) := fun o => h.on ((Below.refl _ _).alloc (Nat.le_refl _) _)
 go_enter Tryz.func28, Tryz.ntmps28
 go_wp2_with (go_at_call 27; refine (render_any a m _ (hE1 _) d1 d2 d3).mono ?_; rintro e w1 ⟨rfl, hb1⟩; refine Hid.out ?_)
 refine Lib.hid ?_
 have q6 := new_old hb1 6
 have q7 := new_old hb1 7
 have q8 := new_old hb1 8
 have hb := ((Below.refl w.heap.size w).alloc (Nat.le_refl _) _).trans (hb1.mono (by simp))
 simp at q6 q7 q8
 clear hb1
 go_wp2_with (go_at_call 42; refine (refR_any _ d1 d2 d3).mono ?_; rintro e w2 ⟨rfl, hb2⟩; refine Hid.out ?_)
 refine Lib.hid ?_
 go_wp2
 go_ret
 exact ⟨by simp, hb.trans (hb2.mono hb.size)⟩

end Go.Proofs.YtpcgnadfldimhaaGreatDoor
