/-
 The document's answer: its numbers, its words, which number a command may have.
-/
import Derived.Test.YtpcgnadfldimhaaGreatDoorLeaf
namespace Go.Proofs.YtpcgnadfldimhaaGreatDoor
open Go.RowKit

set_option maxHeartbeats 400000 in
theorem number_any (s : ByteArray) (w : World) (hs : s.size ≤ maxLen) :
  Calls Tryz.prog 74 #[.string s] w fun e w' => e = .returned (.int .i64 (numVal s)) ∧ w' = w := by
 unfold maxLen at hs
 by_cases h0 : s.size < 1
 ·go_enter Tryz.func74, Tryz.ntmps74
  go_wp2
  go_ret
  exact ⟨ret_int (numVal_short s (Or.inl h0)).symm, rfl⟩
 by_cases h1 : 18 < s.size
 ·go_enter Tryz.func74, Tryz.ntmps74
  go_wp2
  go_ret
  exact ⟨ret_int (numVal_short s (Or.inr h1)).symm, rfl⟩
 go_enter Tryz.func74, Tryz.ntmps74
 go_wp2
 go_loop [3, 4] (fun n i => ∃ k : Nat, k ≤ s.size ∧ i = .int .i64 k ∧ n = .int .i64 (digitsVal (s.data.toList.take k)) ∧ allDig (s.data.toList.take k) = true) (fun _ i => s.size - (intOf i).toNat)
 case atStart => exact ⟨0, Nat.zero_le _, rfl, by simp [digitsVal], by simp [allDig]⟩
 case round =>
  obtain ⟨k, hk, rfl, rfl, hd⟩ := hrel
  have HD := Lib.hid hd
  clear hd
  by_cases hlt : k < s.size
  ·have hb : digitsVal (s.data.toList.take k) ≤ 100000000000000000 := digitsVal_take _ _ (by omega) HD.out
   by_cases hc1 : (s[k].toNat : Int) < 48
   ·go_wp2
    go_ret
    exact ⟨ret_int (numVal_stop s k hlt (Or.inl hc1)).symm, rfl⟩
   by_cases hc2 : (57 : Int) < (s[k].toNat : Int)
   ·go_wp2
    go_ret
    exact ⟨ret_int (numVal_stop s k hlt (Or.inr hc2)).symm, rfl⟩
   have HS := Lib.hid (digitsVal_step s k hlt)
   go_wp2
   exact ⟨⟨k + 1, by omega, by go_num, val_int (by have := HS.out; omega), allDig_step s k hlt HD.out (by omega) (by omega)⟩, by simp [intOf]; omega⟩
  ·go_wp2
   go_ret
   exact ⟨ret_int (numVal_end s (by omega) (by omega) k (by omega) HD.out).symm, rfl⟩

set_option maxHeartbeats 400000 in
theorem fits_any (n : Int) (has : Bool) (w : World) :
  Calls Tryz.prog 75 #[.int .i64 n, .bool has] w fun e w' => e = .returned (.bool (fitsB n has)) ∧ w' = w := by
 cases has
 ·go_enter Tryz.func75, Tryz.ntmps75
  go_wp2
  go_ret
  exact ⟨by simp [fitsB], rfl⟩
 ·by_cases h : 0 ≤ n
  ·go_enter Tryz.func75, Tryz.ntmps75
   go_wp2
   go_ret
   exact ⟨by simp [fitsB, h], rfl⟩
  ·go_enter Tryz.func75, Tryz.ntmps75
   go_wp2
   go_ret
   exact ⟨by simp [fitsB]; omega, rfl⟩

set_option maxHeartbeats 1000000 in
theorem word_none (k : Int) (w : World) (h : k < 1 ∨ 7 < k) :
  Calls Tryz.prog 73 #[.int .i64 k] w fun e w' => e = .returned (.tuple #[.string ⟨#[]⟩, .int .i64 0]) ∧ Below w.heap.size w w' := by
 rcases h with h | h
 ·go_enter Tryz.func73, Tryz.ntmps73
  go_wp2
  go_ret2
  exact ⟨rfl, ((Below.refl _ _).alloc (Nat.le_refl _) _).alloc (by simp) _⟩
 ·go_enter Tryz.func73, Tryz.ntmps73
  go_wp2
  go_ret2
  exact ⟨rfl, ((Below.refl _ _).alloc (Nat.le_refl _) _).alloc (by simp) _⟩

set_option maxHeartbeats 1000000 in
theorem word_some (k : Nat) (w : World) (h : 1 ≤ k) (h' : k ≤ 7) :
  Calls Tryz.prog 73 #[.int .i64 k] w fun e w' => e = .returned (.tuple #[.string (wordB k), .int .i64 (numsN k)]) ∧ Below w.heap.size w w' := by
 have hk : k = 1 ∨ k = 2 ∨ k = 3 ∨ k = 4 ∨ k = 5 ∨ k = 6 ∨ k = 7 := by omega
 rcases hk with rfl | rfl | rfl | rfl | rfl | rfl | rfl
 all_goals
  go_enter Tryz.func73, Tryz.ntmps73
  go_wp2
  go_quiet (fail)
  go_wp2
  go_ret2
  exact ⟨rfl, below_drewN (((Below.refl _ _).alloc (Nat.le_refl _) _).alloc (by simp) _) _⟩

end Go.Proofs.YtpcgnadfldimhaaGreatDoor
