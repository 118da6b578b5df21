/-
 What a line says ('Cmd'), and berth.Parse by it; how a command is written ('rend'), and berth.Render by it.
-/
import Derived.Test.YtpcgnadfldimhaaGreatDoorParse
namespace Go.Proofs.YtpcgnadfldimhaaGreatDoor
open Go.RowKit

/-- The line's pieces, cut at each blank. -/
def pcs (s : ByteArray) : List ByteArray := Lib.splitB ⟨#[32]⟩ 0 (Lib.countB s ⟨#[32]⟩) s

theorem pcs_length (s : ByteArray) : (pcs s).length = Lib.countB s ⟨#[32]⟩ + 1 := Lib.splitB_all ⟨#[32]⟩ (by decide) 0 _ s rfl

theorem splitB_size (sep : ByteArray) : ∀ (k : Nat) (s p : ByteArray), p ∈ Lib.splitB sep 0 k s → p.size ≤ s.size
 | 0, s, p, h => by rw [Lib.splitB_zero] at h; simp at h; rw [h]; exact Nat.le_refl _
 | k + 1, s, p, h => by
  unfold Lib.splitB at h
  split at h
  ·simp at h; rw [h]; exact Nat.le_refl _
  ·simp only [List.mem_cons] at h
   rcases h with h | h
   ·rw [h, ByteArray.size_extract]; omega
   ·have := splitB_size sep k _ p h
    rw [ByteArray.size_extract] at this
    omega

theorem pcs_size (s p : ByteArray) (h : p ∈ pcs s) : p.size ≤ s.size := splitB_size _ _ _ _ h

/-- The line s is the command n with the numbers x and y. -/
def Cmd (s : ByteArray) (n : Nat) (x y : Int) : Prop :=
 s.size ≤ 100 ∧ 1 ≤ n ∧ n ≤ 7 ∧ ∃ ps, pcs s = wordB n :: ps ∧ ps.length = numsN n ∧ x = num1 n ps ∧ y = num2 n ps ∧ 0 ≤ x ∧ 0 ≤ y

theorem eq_of_toList {p q : ByteArray} (h : (p.toList == q.toList) = true) : p = q := by
 rw [beq_iff_eq, ByteArray.toList_eq, ByteArray.toList_eq] at h
 cases p; cases q
 simp only at h
 congr 1
 exact Array.toList_inj.1 h

theorem parse_cmd (a : Addr) (m : Int) (w : World) (h : Env a m w) (s : ByteArray) (n : Nat) (x y : Int) (hc : Cmd s n x y) :
  Calls Tryz.prog 37 #[.string s] w fun e w' => e = .returned (.tuple #[.agg #[.int .i64 (n : Int), .int .i64 x, .int .i64 y], .int .i64 0]) ∧ Below w.heap.size w w' := by
 obtain ⟨hs, h1, h7, ps, hp, hl, rfl, rfl, hx, hy⟩ := hc
 have hcnt := pcs_length s
 rw [hp, List.length_cons] at hcnt
 have hsz : ∀ x, x ∈ ps → x.size ≤ maxLen := fun x hx => by
  have := pcs_size s x (by rw [hp]; exact List.mem_cons_of_mem _ hx)
  unfold maxLen; omega
 refine parse_yes a m w h s n _ _ (Lib.hid fun W hW => ?_)
 cases ps with
 | nil =>
  have h0 : Lib.countB s ⟨#[32]⟩ = 0 := by simpa using hcnt.symm
  refine read_good0 a m W hW s hs n h1 h7 (Lib.hid h0) (Lib.hid (by unfold pcs at hp; rw [h0] at hp; exact hp)) (Lib.hid rfl) (Lib.hid (by simpa using hl)) (Lib.hid hx) (Lib.hid hy) (Lib.hid hsz)
 | cons q r =>
  have h0 : Lib.countB s ⟨#[32]⟩ = r.length + 1 := by simp at hcnt; omega
  refine read_good1 a m W hW s hs n h1 h7 r.length (q :: r) (Lib.hid h0) (Lib.hid (by unfold pcs at hp; rw [h0] at hp; exact hp)) (Lib.hid rfl) (Lib.hid (by simpa using hl)) (Lib.hid hx) (Lib.hid hy) (Lib.hid hsz)

theorem parse_nocmd (a : Addr) (m : Int) (w : World) (h : Env a m w) (s : ByteArray) (hm : s.size ≤ maxLen) (hc : ∀ n x y, ¬ Cmd s n x y) :
  Calls Tryz.prog 37 #[.string s] w fun e w' => e = .returned (.tuple #[.agg #[.int .i64 0, .int .i64 0, .int .i64 0], .int .i64 1]) ∧ Below w.heap.size w w' := by
 refine parse_no a m w h s (Lib.hid fun W hW => ?_)
 by_cases hs : s.size ≤ 100
 ·have hcnt := pcs_length s
  cases hp : pcs s with
  | nil => rw [hp] at hcnt; simp at hcnt
  | cons p ps =>
   rw [hp, List.length_cons] at hcnt
   have hsz : ∀ x, x ∈ ps → x.size ≤ maxLen := fun x hx => by
    have := pcs_size s x (by rw [hp]; exact List.mem_cons_of_mem _ hx)
    unfold maxLen; omega
   by_cases hw : ∃ n, 1 ≤ n ∧ n ≤ 7 ∧ ((wordB n).toList == p.toList) = true
   ·obtain ⟨n, h1, h7, hn⟩ := hw
    have := eq_of_toList hn
    subst this
    have hbad : ps.length = numsN n → ¬ (0 ≤ num1 n ps ∧ 0 ≤ num2 n ps) := fun hl hh => hc n _ _ ⟨hs, h1, h7, ps, hp, hl, rfl, rfl, hh.1, hh.2⟩
    cases ps with
    | nil =>
     have h0 : Lib.countB s ⟨#[32]⟩ = 0 := by simpa using hcnt.symm
     exact read_bad0 a m W hW s hs n h1 h7 (Lib.hid h0) (Lib.hid (by unfold pcs at hp; rw [h0] at hp; exact hp)) (Lib.hid rfl) (Lib.hid hbad) (Lib.hid hsz)
    | cons q r =>
     have h0 : Lib.countB s ⟨#[32]⟩ = r.length + 1 := by simp at hcnt; omega
     exact read_bad1 a m W hW s hs n h1 h7 r.length (q :: r) (Lib.hid h0) (Lib.hid (by unfold pcs at hp; rw [h0] at hp; exact hp)) (Lib.hid rfl) (Lib.hid hbad) (Lib.hid hsz)
   ·exact read_noword a m W hW s hs _ p ps (Lib.hid rfl) (Lib.hid hp) (Lib.hid fun n h1 h7 => by
     cases e : ((wordB n).toList == p.toList) with
     | false => rfl
     | true => exact absurd ⟨n, h1, h7, e⟩ hw)
 ·exact read_long a m W hW s (by omega) hm

end Go.Proofs.YtpcgnadfldimhaaGreatDoor
