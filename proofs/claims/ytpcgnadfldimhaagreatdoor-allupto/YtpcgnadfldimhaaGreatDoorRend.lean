/-
 berth.Render by its contract.
-/
import Derived.Test.YtpcgnadfldimhaaGreatDoorWriteB
namespace Go.Proofs.YtpcgnadfldimhaaGreatDoor
open Go.RowKit

/-- How a command is written. -/
def rendL (n : Nat) (x y : Int) : List UInt8 := (wordB n).data.toList ++ ((if 0 < numsN n then 32 :: Lib.decDigits x.toNat else []) ++ (if 1 < numsN n then 32 :: Lib.decDigits y.toNat else []))
def rendOk (k x y : Int) : Bool := decide (1 ≤ k) && decide (k ≤ 7) && fitsB x (decide (0 < numsN k.toNat)) && fitsB y (decide (1 < numsN k.toNat))
def rend (k x y : Int) : ByteArray := if rendOk k x y = true then ⟨(rendL k.toNat x y).toArray⟩ else ⟨#[]⟩

theorem fits_true {x : Int} (h : fitsB x true = true) : ∃ n : Nat, x = n ∧ n ≤ 999999999999999999 := by
 simp [fitsB] at h
 exact ⟨x.toNat, by omega, by omega⟩
theorem fits_false {x : Int} (h : fitsB x false = true) : x = 0 := by
 simpa [fitsB] using h

theorem write_full (a : Addr) (m : Int) (w : World) (h : Env a m w) (k x y : Int) :
  Calls Tryz.prog 39 #[.agg #[.int .i64 k, .int .i64 x, .int .i64 y]] w fun e w' => ∃ v, e = .returned (.tuple #[.string (rend k x y), v]) ∧ Below w.heap.size w w' ∧ ((rendOk k x y = true ∧ v = .nilIface) ∨ (rendOk k x y = false ∧ ∃ b, v = .iface 209 (.pointer (some ⟨b, 0, none⟩)) ∧ Refusal a b w')) := by
 by_cases hk : 1 ≤ k ∧ k ≤ 7
 ·obtain ⟨n, rfl⟩ : ∃ n : Nat, k = n := ⟨k.toNat, by omega⟩
  have h1 : 1 ≤ n := by omega
  have h7 : n ≤ 7 := by omega
  have hi1 : (1 : Int) ≤ n := by omega
  have hi7 : (n : Int) ≤ 7 := by omega
  unfold rend rendOk
  simp only [Int.toNat_natCast, hi1, hi7, decide_true, Bool.true_and]
  by_cases hA : fitsB x (decide (0 < numsN n)) = true
  ·by_cases hB : fitsB y (decide (1 < numsN n)) = true
   ·rw [hA, hB]
    simp only [Bool.and_self, if_true]
    rcases numsN_cases n with h0 | h1' | h2
    ·rw [h0] at hA hB
     have := fits_false hA
     have := fits_false hB
     subst x y
     refine (write_0 a m w h n h1 h7 (Lib.hid h0)).mono ?_
     rintro e w' ⟨rfl, hb⟩
     exact ⟨.nilIface, by simp [rendL, h0], hb, Or.inl ⟨by simp, rfl⟩⟩
    ·rw [h1'] at hA hB
     obtain ⟨u, rfl, hu⟩ := fits_true hA
     have := fits_false hB
     subst y
     refine (write_1 a m w h n h1 h7 (Lib.hid h1') u hu).mono ?_
     rintro e w' ⟨rfl, hb⟩
     exact ⟨.nilIface, by simp [rendL, h1'], hb, Or.inl ⟨by simp, rfl⟩⟩
    ·rw [h2] at hA hB
     obtain ⟨u, rfl, hu⟩ := fits_true hA
     obtain ⟨v, rfl, hv⟩ := fits_true hB
     refine (write_2 a m w h n h1 h7 (Lib.hid h2) u hu v hv).mono ?_
     rintro e w' ⟨rfl, hb⟩
     exact ⟨.nilIface, by simp [rendL, h2], hb, Or.inl ⟨by simp, rfl⟩⟩
   ·rw [hA, Bool.eq_false_iff.2 hB]
    simp only [Bool.and_false, Bool.false_eq_true, if_false]
    have hB' := Bool.eq_false_iff.2 hB
    rcases numsN_cases n with h0 | h1' | h2
    ·rw [h0] at hA hB'
     have := fits_false hA
     subst x
     exact (write_badB0 a m w h n h1 h7 (Lib.hid h0) y (Lib.hid (by simpa using hB'))).mono (fun e w' hh => by obtain ⟨b, h1, h2, h3⟩ := hh; exact ⟨_, h1, h3, Or.inr ⟨by simp, b, rfl, h2⟩⟩)
    ·rw [h1'] at hA hB'
     obtain ⟨u, rfl, hu⟩ := fits_true hA
     exact (write_badB1 a m w h n h1 h7 (Lib.hid h1') u hu y (Lib.hid (by simpa using hB'))).mono (fun e w' hh => by obtain ⟨b, h1, h2, h3⟩ := hh; exact ⟨_, h1, h3, Or.inr ⟨by simp, b, rfl, h2⟩⟩)
    ·rw [h2] at hA hB'
     obtain ⟨u, rfl, hu⟩ := fits_true hA
     exact (write_badB2 a m w h n h1 h7 (Lib.hid h2) u hu y (Lib.hid (by simpa using hB'))).mono (fun e w' hh => by obtain ⟨b, h1, h2, h3⟩ := hh; exact ⟨_, h1, h3, Or.inr ⟨by simp, b, rfl, h2⟩⟩)
  ·rw [Bool.eq_false_iff.2 hA]
   simp only [Bool.false_and, Bool.false_eq_true, if_false]
   have hA' := Bool.eq_false_iff.2 hA
   rcases numsN_cases n with h0 | h1' | h2
   ·rw [h0] at hA'
    exact (write_badA0 a m w h n h1 h7 (Lib.hid h0) x y (Lib.hid (by simpa using hA'))).mono (fun e w' hh => by obtain ⟨b, h1, h2, h3⟩ := hh; exact ⟨_, h1, h3, Or.inr ⟨by simp, b, rfl, h2⟩⟩)
   ·rw [h1'] at hA'
    exact (write_badA1 a m w h n h1 h7 (Lib.hid h1') x y (Lib.hid (by simpa using hA'))).mono (fun e w' hh => by obtain ⟨b, h1, h2, h3⟩ := hh; exact ⟨_, h1, h3, Or.inr ⟨by simp, b, rfl, h2⟩⟩)
   ·rw [h2] at hA'
    exact (write_badA2 a m w h n h1 h7 (Lib.hid h2) x y (Lib.hid (by simpa using hA'))).mono (fun e w' hh => by obtain ⟨b, h1, h2, h3⟩ := hh; exact ⟨_, h1, h3, Or.inr ⟨by simp, b, rfl, h2⟩⟩)
 ·have hr : rendOk k x y = false := by
   unfold rendOk
   by_cases h1 : 1 ≤ k
   ·have : ¬ k ≤ 7 := fun h7 => hk ⟨h1, h7⟩
    simp [this]
   ·simp [h1]
  unfold rend
  rw [hr]
  exact (write_kind a m w h k x y (by omega)).mono (fun e w' hh => by obtain ⟨b, h1, h2, h3⟩ := hh; exact ⟨_, h1, h3, Or.inr ⟨by simp, b, rfl, h2⟩⟩)

theorem write_any (a : Addr) (m : Int) (w : World) (h : Env a m w) (k x y : Int) :
  Calls Tryz.prog 39 #[.agg #[.int .i64 k, .int .i64 x, .int .i64 y]] w fun e w' => ∃ v, e = .returned (.tuple #[.string (rend k x y), v]) ∧ Below w.heap.size w w' :=
 (write_full a m w h k x y).mono (fun e w' hh => by obtain ⟨v, h1, h2, _⟩ := hh; exact ⟨v, h1, h2⟩)

set_option maxHeartbeats 400000 in
theorem render_any (a : Addr) (m : Int) (w : World) (h : Env a m w) (k x y : Int) :
  Calls Tryz.prog 27 #[.agg #[.int .i64 k, .int .i64 x, .int .i64 y]] w fun e w' => e = .returned (.string (rend k x y)) ∧ Below w.heap.size w w' := by
 have hE1 : ∀ o, Env a m (w.alloc o) := fun o => h.on ((Below.refl _ _).alloc (Nat.le_refl _) _)
 go_enter Tryz.func27, Tryz.ntmps27
 go_wp2_with (go_at_call 39; refine (write_any a m _ (hE1 _) k x y).mono ?_; rintro e w' ⟨v, rfl, hb⟩)
 go_ret
 exact ⟨rfl, ((Below.refl w.heap.size w).alloc (Nat.le_refl _) _).trans (hb.mono (by simp))⟩

end Go.Proofs.YtpcgnadfldimhaaGreatDoor
