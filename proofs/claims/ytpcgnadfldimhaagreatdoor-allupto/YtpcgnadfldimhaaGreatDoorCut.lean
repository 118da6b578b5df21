/-
 PLAIN MATHEMATICS: a line, cut at its blanks.
-/
import Derived.Test.YtpcgnadfldimhaaGreatDoorCmd
namespace Go.Proofs.YtpcgnadfldimhaaGreatDoor

def cutL : List UInt8 → List (List UInt8)
 | [] => [[]]
 | c :: r => if c = 32 then [] :: cutL r else match cutL r with
  | [] => [[c]]
  | p :: ps => (c :: p) :: ps

theorem index_hit (r : List UInt8) : Lib.index (32 :: r) [32] = 0 := by
 unfold Lib.index
 simp [List.isPrefixOf]
theorem index_miss (c : UInt8) (r : List UInt8) (h : c ≠ 32) : Lib.index (c :: r) [32] = if Lib.index r [32] == -1 then -1 else Lib.index r [32] + 1 := by
 have h' : (32 == c) = false := by simp; exact fun e => h e.symm
 rw [Lib.index]
 simp [List.isPrefixOf, h']
theorem index_some (r : List UInt8) (h : 0 < r.count 32) : 0 ≤ Lib.index r [32] := by
 induction r with
 | nil => simp at h
 | cons c r ih =>
  by_cases hc : c = 32
  ·subst hc; rw [index_hit]; omega
  ·rw [index_miss c r hc]
   have := ih (by rw [List.count_cons_of_ne (by simpa using hc)] at h; exact h)
   rw [if_neg (by simp; omega)]
   omega

theorem splitK_cut : ∀ (l : List UInt8), Lib.splitK [32] 0 (l.count 32) l = cutL l
 | [] => rfl
 | c :: r => by
  have ih := splitK_cut r
  by_cases hc : c = 32
  ·subst hc
   rw [List.count_cons_self, Lib.splitK, index_hit]
   simp [cutL, ih]
  ·rw [List.count_cons_of_ne (by simpa using hc)]
   rcases Nat.eq_zero_or_pos (r.count 32) with h0 | hp
   ·rw [h0] at ih ⊢
    rw [Lib.splitK] at ih ⊢
    simp [cutL, hc, ← ih]
   ·obtain ⟨k, hk⟩ : ∃ k, r.count 32 = k + 1 := ⟨r.count 32 - 1, by omega⟩
    have hi := index_some r hp
    rw [hk] at ih ⊢
    rw [Lib.splitK] at ih ⊢
    rw [index_miss c r hc]
    have hne : (Lib.index r [32] == -1) = false := by simp; omega
    rw [hne] at ih ⊢
    have hne2 : (Lib.index r [32] + 1 == -1) = false := by simp; omega
    simp only [Bool.false_eq_true, if_false, hne2] at ih ⊢
    obtain ⟨i, e⟩ := Int.eq_ofNat_of_zero_le hi
    rw [e] at ih ⊢
    have e1 : ((i : Int) + 1).toNat = i + 1 := by omega
    simp only [e1, Int.toNat_natCast, Nat.add_zero, List.length_singleton, List.take_succ_cons, List.drop_succ_cons] at ih ⊢
    simp [cutL, hc, ← ih]

theorem data_inj {l r : List ByteArray} (h : l.map (·.data.toList) = r.map (·.data.toList)) : l = r := by
 induction l generalizing r with
 | nil => cases r with
  | nil => rfl
  | cons b r => simp at h
 | cons a l ih => cases r with
  | nil => simp at h
  | cons b r =>
   simp only [List.map_cons, List.cons.injEq] at h
   have : a = b := by
    cases a; cases b
    simp only at h
    congr 1
    exact Array.toList_inj.1 h.1
   rw [this, ih h.2]

theorem pcs_cut (s : ByteArray) : pcs s = (cutL s.data.toList).map fun l => ⟨l.toArray⟩ := by
 apply data_inj
 unfold pcs
 rw [Lib.splitB_data]
 have hc : Lib.countB s ⟨#[32]⟩ = s.data.toList.count 32 := Lib.count_one 32 s.data.toList
 rw [hc]
 show Lib.splitK [32] 0 _ _ = _
 rw [splitK_cut]
 simp [Function.comp_def]

theorem cutL_word (p : List UInt8) (h : ∀ c, c ∈ p → c ≠ 32) : cutL p = [p] := by
 induction p with
 | nil => rfl
 | cons c r ih =>
  rw [cutL, if_neg (h c (by simp)), ih (fun d hd => h d (by simp [hd]))]

theorem cutL_app (p r : List UInt8) (h : ∀ c, c ∈ p → c ≠ 32) : cutL (p ++ 32 :: r) = p :: cutL r := by
 induction p with
 | nil => simp [cutL]
 | cons c q ih =>
  rw [List.cons_append, cutL, if_neg (h c (by simp)), ih (fun d hd => h d (by simp [hd]))]

end Go.Proofs.YtpcgnadfldimhaaGreatDoor
