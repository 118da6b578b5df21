/-
 PLAIN MATHEMATICS, of no program: numbers out of digits; lines cut at blanks; what a line says; how a command is written.
-/
import Derived.Lib.Split
import Derived.Lib.SplitLaws
import Derived.Lib.ItoaLen
namespace Go.Proofs.YtpcgnadfldimhaaGreatDoor

/-- The number that digits say. -/
def digitsVal (l : List UInt8) : Nat := l.foldl (fun n c => n * 10 + (c.toNat - 48)) 0
def isDig (c : UInt8) : Bool := decide (48 ≤ (c.toNat : Int) ∧ (c.toNat : Int) ≤ 57)
def allDig (l : List UInt8) : Bool := l.all isDig
/-- A number's value; -1: it is none. -/
def numVal (s : ByteArray) : Int := if 1 ≤ s.size ∧ s.size ≤ 18 ∧ allDig s.data.toList = true then (digitsVal s.data.toList : Int) else -1

theorem digitsVal_snoc (l : List UInt8) (c : UInt8) : digitsVal (l ++ [c]) = digitsVal l * 10 + (c.toNat - 48) := by
 simp [digitsVal, List.foldl_append]
theorem allDig_snoc (l : List UInt8) (c : UInt8) : allDig (l ++ [c]) = (allDig l && isDig c) := by
 simp [allDig, List.all_append]
theorem dv_lt : ∀ (l : List UInt8) (a : Nat), allDig l = true → l.foldl (fun n c => n * 10 + (c.toNat - 48)) a < (a + 1) * 10 ^ l.length
 | [], a, _ => by simp
 | c :: r, a, h => by
  simp only [allDig, List.all_cons, Bool.and_eq_true, isDig, decide_eq_true_eq] at h
  have ih := dv_lt r (a * 10 + (c.toNat - 48)) h.2
  simp only [List.foldl_cons, List.length_cons]
  refine Nat.lt_of_lt_of_le ih ?_
  rw [Nat.pow_succ, Nat.mul_comm (10 ^ r.length) 10, ← Nat.mul_assoc]
  exact Nat.mul_le_mul_right _ (by omega)
theorem digitsVal_lt (l : List UInt8) (h : allDig l = true) : digitsVal l < 10 ^ l.length := by
 have := dv_lt l 0 h
 simpa [digitsVal] using this
theorem digitsVal_take (l : List UInt8) (k : Nat) (hk : k ≤ 17) (h : allDig (l.take k) = true) : digitsVal (l.take k) ≤ 100000000000000000 := by
 have h1 := digitsVal_lt _ h
 have h2 : (l.take k).length ≤ 17 := by rw [List.length_take]; omega
 have h3 : 10 ^ (l.take k).length ≤ 10 ^ 17 := Nat.pow_le_pow_right (by omega) h2
 have h4 : (10 : Nat) ^ 17 = 100000000000000000 := by decide
 omega
theorem take_snoc (s : ByteArray) (k : Nat) (h : k < s.size) : s.data.toList.take (k + 1) = s.data.toList.take k ++ [s[k]] := by
 rw [List.take_succ_eq_append_getElem (by simpa using h)]; rfl
theorem take_all (s : ByteArray) (k : Nat) (h : s.size ≤ k) : s.data.toList.take k = s.data.toList := by
 rw [List.take_of_length_le (by simpa using h)]
theorem digitsVal_step (s : ByteArray) (k : Nat) (h : k < s.size) : digitsVal (s.data.toList.take (k + 1)) = digitsVal (s.data.toList.take k) * 10 + (s[k].toNat - 48) := by
 rw [take_snoc s k h, digitsVal_snoc]
theorem allDig_step (s : ByteArray) (k : Nat) (h : k < s.size) (h0 : allDig (s.data.toList.take k) = true) (h1 : (48 : Int) ≤ (s[k].toNat : Int)) (h2 : (s[k].toNat : Int) ≤ 57) : allDig (s.data.toList.take (k + 1)) = true := by
 rw [take_snoc s k h, allDig_snoc, h0]; simp [isDig, h1, h2]
theorem allDig_prefix (l : List UInt8) (k : Nat) (h : allDig l = true) : allDig (l.take k) = true := by
 unfold allDig at *
 rw [List.all_eq_true] at *
 exact fun x hx => h x (List.mem_of_mem_take hx)
theorem allDig_stop (s : ByteArray) (k : Nat) (h : k < s.size) (h1 : (s[k].toNat : Int) < 48 ∨ (57 : Int) < (s[k].toNat : Int)) : allDig s.data.toList = false := by
 cases e : allDig s.data.toList with
 | false => rfl
 | true =>
  have := allDig_prefix _ (k + 1) e
  rw [take_snoc s k h, allDig_snoc] at this
  simp [isDig] at this
  omega
theorem numVal_short (s : ByteArray) (h : s.size < 1 ∨ 18 < s.size) : numVal s = -1 := by
 unfold numVal; rw [if_neg (by omega)]
theorem numVal_stop (s : ByteArray) (k : Nat) (h : k < s.size) (h1 : (s[k].toNat : Int) < 48 ∨ (57 : Int) < (s[k].toNat : Int)) : numVal s = -1 := by
 unfold numVal; rw [if_neg]; rw [allDig_stop s k h h1]; simp
theorem numVal_end (s : ByteArray) (h0 : 1 ≤ s.size) (h1 : s.size ≤ 18) (k : Nat) (hk : s.size ≤ k) (h : allDig (s.data.toList.take k) = true) : numVal s = (digitsVal (s.data.toList.take k) : Int) := by
 rw [take_all s k hk] at *
 unfold numVal; rw [if_pos ⟨h0, h1, h⟩]
theorem numVal_or (s : ByteArray) : numVal s = -1 ∨ (0 ≤ numVal s ∧ numVal s ≤ 999999999999999999) := by
 unfold numVal
 split
 ·right
  rename_i h
  have h1 := digitsVal_lt _ h.2.2
  have h2 : s.data.toList.length = s.size := by simp
  have h3 : 10 ^ s.data.toList.length ≤ 10 ^ 18 := Nat.pow_le_pow_right (by omega) (by omega)
  have h4 : (10 : Nat) ^ 18 = 1000000000000000000 := by decide
  omega
 ·left; rfl

/-- May a command have this number? -/
def fitsB (n : Int) (has : Bool) : Bool := if has then decide (0 ≤ n) && decide (n ≤ 999999999999999999) else n == 0

/-- The commands' words, by their kinds; how many numbers each has. -/
def wordB (k : Nat) : ByteArray := if k = 1 then ⟨#[83, 85, 66, 77, 73, 84]⟩ else if k = 2 then ⟨#[67, 65, 78, 67, 69, 76]⟩ else if k = 3 then ⟨#[68, 79, 78, 69]⟩ else if k = 4 then ⟨#[84, 73, 67, 75]⟩ else if k = 5 then ⟨#[83, 84, 65, 84]⟩ else if k = 6 then ⟨#[81, 85, 69, 85, 69]⟩ else if k = 7 then ⟨#[73, 78, 70, 79]⟩ else ⟨#[]⟩
def numsN (k : Nat) : Nat := if k = 1 then 2 else if k = 2 then 1 else if k = 3 then 1 else if k = 4 then 1 else if k = 5 then 1 else 0
end Go.Proofs.YtpcgnadfldimhaaGreatDoor
