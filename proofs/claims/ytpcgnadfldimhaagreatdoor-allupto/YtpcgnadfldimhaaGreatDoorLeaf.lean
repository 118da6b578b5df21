/-
 THE SMALL FUNCTIONS, each by its contract.
-/
import Derived.Test.YtpcgnadfldimhaaGreatDoorSpec
import Derived.Test.YtpcgnadfldimhaaGreatDoorIs
import Derived.WalkSpells
import Derived.Lib.Hide
import Derived.WalkSmall
import Derived.Deep.QuietTactic
import Derived.BigQuiet
import Derived.Deep.RegionWith
import Derived.WalkLawsBesides
namespace Go.Proofs.YtpcgnadfldimhaaGreatDoor
open Go.RowKit

theorem ret_int {k : IntKind} {a b : Int} (h : a = b) : Ending.returned (.int k a) = .returned (.int k b) := by rw [h]

theorem val_int {k : IntKind} {a b : Int} (h : a = b) : Value.int k a = Value.int k b := by rw [h]
theorem ret_int_nil {k : IntKind} {a b : Int} (h : a = b) : Ending.returned (.tuple #[.int k a, .nilIface]) = .returned (.tuple #[.int k b, .nilIface]) := by rw [h]

set_option maxHeartbeats 400000 in
theorem about_any (p : ByteArray) (t : TypeId) (x : Value) (w : World) :
  Calls Tryz.prog 69 #[.string p, .iface t x] w fun e w' => e = .returned (.iface 209 (.pointer (some ⟨w.heap.size, 0, none⟩))) ∧ w' = w.alloc (.cells #[.string p, .iface t x] 211) := by
 go_enter Tryz.func69, Tryz.ntmps69
 go_wp2
 go_ret
 exact ⟨rfl, rfl⟩

set_option maxHeartbeats 400000 in
theorem refuse_any (p : ByteArray) (a : Addr) (w : World) (hE : w.cell? ⟨9, 0, none⟩ = some (.iface 315 (.pointer (some a)))) :
  Calls Tryz.prog 70 #[.string p] w fun e w' => e = .returned (.iface 209 (.pointer (some ⟨w.heap.size, 0, none⟩))) ∧ w' = w.alloc (.cells #[.string p, .iface 315 (.pointer (some a))] 211) := by
 go_enter Tryz.func70, Tryz.ntmps70
 go_wp2
 go_ret
 exact ⟨rfl, rfl⟩

set_option maxHeartbeats 400000 in
theorem readNumber_yes (s : ByteArray) (w : World) (hs : s.size ≤ maxLen) (hv : Hid (0 ≤ numVal s)) :
  Calls Tryz.prog 134 #[.string s] w fun e w' => e = .returned (.tuple #[.int .i64 (numVal s), .nilIface]) ∧ w' = w := by
 unfold maxLen at hs
 have h0 : 1 ≤ s.size := by
  rcases Nat.lt_or_ge s.size 1 with h | h
  ·have := hv.out; rw [numVal_short s (Or.inl h)] at this; omega
  ·exact h
 have h1 : s.size ≤ 18 := by
  rcases Nat.lt_or_ge 18 s.size with h | h
  ·have := hv.out; rw [numVal_short s (Or.inr h)] at this; omega
  ·exact h
 go_enter Tryz.func134, Tryz.ntmps134
 go_wp2
 go_loop [4, 18] (fun n i => ∃ k : Nat, k ≤ s.size ∧ i = .int .i64 k ∧ n = .int .i64 (digitsVal (s.data.toList.take k)) ∧ allDig (s.data.toList.take k) = true) (fun _ i => s.size - (intOf i).toNat)
 case atStart => exact ⟨0, Nat.zero_le _, rfl, by simp [digitsVal], by simp [allDig]⟩
 case round =>
  obtain ⟨k, hk, rfl, rfl, hd⟩ := hrel
  have HD := Lib.hid hd
  clear hd
  by_cases hlt : k < s.size
  ·have hb : digitsVal (s.data.toList.take k) ≤ 100000000000000000 := digitsVal_take _ _ (by omega) HD.out
   have hc1 : ¬ (s[k].toNat : Int) < 48 := fun h => by have := hv.out; rw [numVal_stop s k hlt (Or.inl h)] at this; omega
   have hc2 : ¬ (57 : Int) < (s[k].toNat : Int) := fun h => by have := hv.out; rw [numVal_stop s k hlt (Or.inr h)] at this; omega
   have HS := Lib.hid (digitsVal_step s k hlt)
   go_wp2
   exact ⟨⟨k + 1, by omega, by go_num, val_int (by have := HS.out; omega), allDig_step s k hlt HD.out (by omega) (by omega)⟩, by simp [intOf]; omega⟩
  ·go_wp2
   go_ret2
   exact ⟨ret_int_nil (numVal_end s (by omega) (by omega) k (by omega) HD.out).symm, rfl⟩

set_option maxHeartbeats 400000 in
theorem readNumber_no (s : ByteArray) (a : Addr) (w : World) (hE : w.cell? ⟨9, 0, none⟩ = some (.iface 315 (.pointer (some a)))) (hs : s.size ≤ maxLen) (hv : Hid (numVal s = -1)) :
  Calls Tryz.prog 134 #[.string s] w fun e w' => e = .returned (.tuple #[.int .i64 0, .iface 209 (.pointer (some ⟨w.heap.size, 0, none⟩))]) ∧ ∃ p : ByteArray, w' = w.alloc (.cells #[.string p, .iface 315 (.pointer (some a))] 211) := by
 unfold maxLen at hs
 by_cases h0 : s.size < 1
 ·go_enter Tryz.func134, Tryz.ntmps134
  go_wp2_with (go_at_call 70; refine (refuse_any _ a _ hE).mono ?_; rintro e w' ⟨rfl, rfl⟩)
  go_ret2
  exact ⟨rfl, _, rfl⟩
 by_cases h1 : 18 < s.size
 ·go_enter Tryz.func134, Tryz.ntmps134
  go_wp2_with (go_at_call 70; refine (refuse_any _ a _ hE).mono ?_; rintro e w' ⟨rfl, rfl⟩)
  go_ret2
  exact ⟨rfl, _, rfl⟩
 go_enter Tryz.func134, Tryz.ntmps134
 go_wp2
 go_loop [4, 18] (fun n i => ∃ k : Nat, k ≤ s.size ∧ i = .int .i64 k ∧ n = .int .i64 (digitsVal (s.data.toList.take k)) ∧ allDig (s.data.toList.take k) = true) (fun _ i => s.size - (intOf i).toNat)
 case atStart => exact ⟨0, Nat.zero_le _, rfl, by simp [digitsVal], by simp [allDig]⟩
 case round =>
  obtain ⟨k, hk, rfl, rfl, hd⟩ := hrel
  have HD := Lib.hid hd
  clear hd
  by_cases hlt : k < s.size
  ·have hb : digitsVal (s.data.toList.take k) ≤ 100000000000000000 := digitsVal_take _ _ (by omega) HD.out
   by_cases hc1 : (s[k].toNat : Int) < 48
   ·go_wp2_with (go_at_call 70; refine (refuse_any _ a _ hE).mono ?_; rintro e w' ⟨rfl, rfl⟩)
    go_ret2
    exact ⟨rfl, _, rfl⟩
   by_cases hc2 : (57 : Int) < (s[k].toNat : Int)
   ·go_wp2_with (go_at_call 70; refine (refuse_any _ a _ hE).mono ?_; rintro e w' ⟨rfl, rfl⟩)
    go_ret2
    exact ⟨rfl, _, rfl⟩
   have HS := Lib.hid (digitsVal_step s k hlt)
   go_wp2
   exact ⟨⟨k + 1, by omega, by go_num, val_int (by have := HS.out; omega), allDig_step s k hlt HD.out (by omega) (by omega)⟩, by simp [intOf]; omega⟩
  ·exfalso
   have e := numVal_end s (by omega) (by omega) k (by omega) HD.out
   rw [hv.out] at e
   omega

set_option maxHeartbeats 400000 in
theorem allows_any (k : Int) (p : ByteArray) (m : Int) (i n : Int) (w : World) :
  Calls Tryz.prog 68 #[.agg #[.int .i64 k, .string p, .int .i64 m], .int .i64 i, .int .i64 n] w fun e w' => e = .returned (.bool (fitsB n (decide (i < m)))) ∧ w' = w.alloc (.cells #[.int .i64 k, .string p, .int .i64 m] 129) := by
 by_cases hm : m ≤ i
 ·have hmi : ¬ i < m := by omega
  go_enter Tryz.func68, Tryz.ntmps68
  go_wp2
  go_ret
  exact ⟨by rw [show decide (i < m) = false from by simp; omega]; simp [fitsB], rfl⟩
 ·have hm' : i < m := by omega
  by_cases h : 0 ≤ n
  ·go_enter Tryz.func68, Tryz.ntmps68
   go_wp2
   go_ret
   exact ⟨by simp [fitsB, h], rfl⟩
  ·go_enter Tryz.func68, Tryz.ntmps68
   go_wp2
   go_ret
   exact ⟨by simp [fitsB]; omega, rfl⟩

end Go.Proofs.YtpcgnadfldimhaaGreatDoor
