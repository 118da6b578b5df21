/-
 The numbers of a command, read: (shape).readNumbers by its contracts.
-/
import Derived.Test.YtpcgnadfldimhaaGreatDoorShape
namespace Go.Proofs.YtpcgnadfldimhaaGreatDoor
open Go.RowKit

theorem old1 {w : World} {a : Addr} {v : Value} (h : w.cell? a = some v) (o : Obj) : (w.alloc o).cell? a = some v := Lib.cell?_alloc_marked o h
theorem old3 {w : World} {a : Addr} {v : Value} (h : w.cell? a = some v) (o1 o2 o3 : Obj) : (((w.alloc o1).alloc o2).alloc o3).cell? a = some v := old1 (old1 (old1 h _) _) _

theorem new4 {w : World} (o1 o2 o3 : Obj) (x y : Value) (t : TypeId) : ((((w.alloc o1).alloc o2).alloc o3).alloc (.cells #[x, y] t)).cell? ⟨w.heap.size + 1 + 1 + 1, 1, none⟩ = some y := by
 have hn := heap_alloc_new (((w.alloc o1).alloc o2).alloc o3) (.cells #[x, y] t)
 have e : (((w.alloc o1).alloc o2).alloc o3).heap.size = w.heap.size + 1 + 1 + 1 := by simp
 rw [e] at hn
 exact (cell_of_row _ _ 1 #[x, y] t (0, 0) hn).trans rfl
theorem below3 {w : World} (o1 o2 o3 : Obj) : Below w.heap.size w (((w.alloc o1).alloc o2).alloc o3) := (((Below.refl _ _).alloc (Nat.le_refl _) _).alloc (by simp) _).alloc (by simp <;> omega) _
theorem below4 {w : World} (o1 o2 o3 o4 : Obj) : Below w.heap.size w ((((w.alloc o1).alloc o2).alloc o3).alloc o4) := (below3 o1 o2 o3).alloc (by simp <;> omega) _

set_option maxHeartbeats 400000 in
set_option maxRecDepth 100000 in
theorem readNumbers_count (a : Addr) (m : Int) (w : World) (h : Env a m w) (K : Int) (p : ByteArray) (L : Int) (ad : Option Addr) (len cap : Nat) (hne : ((len : Int) != L) = true) :
  Calls Tryz.prog 108 #[.agg #[.int .i64 K, .string p, .int .i64 L], .slice ad len cap] w fun e w' => ∃ b, e = .returned (.tuple #[.agg #[.int .i64 0, .int .i64 0], .iface 209 (.pointer (some ⟨b, 0, none⟩))]) ∧ w.heap.size ≤ b ∧ w'.cell? ⟨b, 1, none⟩ = some (.iface 315 (.pointer (some a))) ∧ Below w.heap.size w w' := by
 have hE := old3 h.err
 go_enter Tryz.func108, Tryz.ntmps108
 go_wp2_with fail
 go_region_with (go_at_call 70; refine (refuse_any _ a _ (by exact hE _ _ _)).mono ?_; rintro e w' ⟨rfl, rfl⟩)
 all_goals go_wp2
 all_goals exact bodyPost_ret (v := .tuple #[.agg #[.int .i64 0, .int .i64 0], .iface 209 (.pointer (some ⟨w.heap.size + 1 + 1 + 1, 0, none⟩))]) (by simp [results, Tryz.results108, go_sem]) rfl ⟨w.heap.size + 1 + 1 + 1, rfl, by omega, (by show World.cell? _ _ = _; exact new4 _ _ _ _ _ _), below_drewN (n := 1) (below4 _ _ _ _)⟩

set_option maxHeartbeats 400000 in
set_option maxRecDepth 100000 in
theorem readNumbers_0 (w : World) (K : Int) (p : ByteArray) (ad : Option Addr) (cap : Nat) :
  Calls Tryz.prog 108 #[.agg #[.int .i64 K, .string p, .int .i64 0], .slice ad 0 cap] w fun e w' => e = .returned (.tuple #[.agg #[.int .i64 0, .int .i64 0], .nilIface]) ∧ Below w.heap.size w w' := by
 go_enter Tryz.func108, Tryz.ntmps108
 go_wp2
 refine wp_loop_rounds 1 ?_
 rw [rounds_succ]
 go_wp2
 exact bodyPost_ret (v := .tuple #[.agg #[.int .i64 0, .int .i64 0], .nilIface]) (by simp [results, Tryz.results108, go_sem]) rfl ⟨rfl, below3 _ _ _⟩

set_option maxHeartbeats 400000 in
set_option maxRecDepth 100000 in
theorem readNumbers_1yes (w : World) (K : Int) (p : ByteArray) (g o cap : Nat) (x : ByteArray) (hs : x.size ≤ maxLen) (hx : w.cell? ⟨g, o, none⟩ = some (.string x)) (hv : Hid (0 ≤ numVal x)) :
  Calls Tryz.prog 108 #[.agg #[.int .i64 K, .string p, .int .i64 1], .slice (some ⟨g, o, none⟩) 1 cap] w fun e w' => e = .returned (.tuple #[.agg #[.int .i64 (numVal x), .int .i64 0], .nilIface]) ∧ Below w.heap.size w w' := by
 have hx3 := old3 hx
 clear hx
 go_enter Tryz.func108, Tryz.ntmps108
 go_wp2
 refine wp_loop_rounds 2 ?_
 rw [rounds_succ]
 go_wp2_with (go_at_call 134; refine (readNumber_yes _ _ hs hv).mono ?_; rintro e w' ⟨rfl, rfl⟩)
 rw [rounds_succ]
 go_wp2
 exact bodyPost_ret (v := .tuple #[.agg #[.int .i64 (numVal x), .int .i64 0], .nilIface]) (by simp [results, Tryz.results108, go_sem]) rfl ⟨rfl, below3 _ _ _⟩

set_option maxHeartbeats 400000 in
set_option maxRecDepth 100000 in
theorem readNumbers_1no (a : Addr) (m : Int) (w : World) (h : Env a m w) (K : Int) (p : ByteArray) (g o cap : Nat) (x : ByteArray) (hs : x.size ≤ maxLen) (hx : w.cell? ⟨g, o, none⟩ = some (.string x)) (hv : Hid (numVal x = -1)) :
  Calls Tryz.prog 108 #[.agg #[.int .i64 K, .string p, .int .i64 1], .slice (some ⟨g, o, none⟩) 1 cap] w fun e w' => ∃ b, e = .returned (.tuple #[.agg #[.int .i64 0, .int .i64 0], .iface 209 (.pointer (some ⟨b, 0, none⟩))]) ∧ w.heap.size ≤ b ∧ w'.cell? ⟨b, 1, none⟩ = some (.iface 315 (.pointer (some a))) ∧ Below w.heap.size w w' := by
 have hE := old3 h.err
 have hx3 := old3 hx
 clear hx
 go_enter Tryz.func108, Tryz.ntmps108
 go_wp2
 refine wp_loop_rounds 1 ?_
 rw [rounds_succ]
 go_wp2_with (go_at_call 134; refine (readNumber_no _ a _ (by exact hE _ _ _) hs hv).mono ?_; rintro e w' ⟨rfl, q, rfl⟩)
 exact bodyPost_ret (v := .tuple #[.agg #[.int .i64 0, .int .i64 0], .iface 209 (.pointer (some ⟨w.heap.size + 1 + 1 + 1, 0, none⟩))]) (by simp [results, Tryz.results108, go_sem]) rfl ⟨w.heap.size + 1 + 1 + 1, rfl, by omega, new4 _ _ _ _ _ _, below4 _ _ _ _⟩

set_option maxHeartbeats 400000 in
set_option maxRecDepth 100000 in
theorem readNumbers_2no (a : Addr) (m : Int) (w : World) (h : Env a m w) (K : Int) (p : ByteArray) (g o cap : Nat) (x : ByteArray) (hs : x.size ≤ maxLen) (hx : w.cell? ⟨g, o, none⟩ = some (.string x)) (hv : Hid (numVal x = -1)) :
  Calls Tryz.prog 108 #[.agg #[.int .i64 K, .string p, .int .i64 2], .slice (some ⟨g, o, none⟩) 2 cap] w fun e w' => ∃ b, e = .returned (.tuple #[.agg #[.int .i64 0, .int .i64 0], .iface 209 (.pointer (some ⟨b, 0, none⟩))]) ∧ w.heap.size ≤ b ∧ w'.cell? ⟨b, 1, none⟩ = some (.iface 315 (.pointer (some a))) ∧ Below w.heap.size w w' := by
 have hE := old3 h.err
 have hx3 := old3 hx
 clear hx
 go_enter Tryz.func108, Tryz.ntmps108
 go_wp2
 refine wp_loop_rounds 1 ?_
 rw [rounds_succ]
 go_wp2_with (go_at_call 134; refine (readNumber_no _ a _ (by exact hE _ _ _) hs hv).mono ?_; rintro e w' ⟨rfl, q, rfl⟩)
 exact bodyPost_ret (v := .tuple #[.agg #[.int .i64 0, .int .i64 0], .iface 209 (.pointer (some ⟨w.heap.size + 1 + 1 + 1, 0, none⟩))]) (by simp [results, Tryz.results108, go_sem]) rfl ⟨w.heap.size + 1 + 1 + 1, rfl, by omega, new4 _ _ _ _ _ _, below4 _ _ _ _⟩

set_option maxHeartbeats 400000 in
set_option maxRecDepth 100000 in
theorem readNumbers_2yn (a : Addr) (m : Int) (w : World) (h : Env a m w) (K : Int) (p : ByteArray) (g o cap : Nat) (x y : ByteArray) (hs : x.size ≤ maxLen) (hx : w.cell? ⟨g, o, none⟩ = some (.string x)) (hs' : y.size ≤ maxLen) (hy : w.cell? ⟨g, o + 1, none⟩ = some (.string y)) (hv : Hid (0 ≤ numVal x)) (hv' : Hid (numVal y = -1)) :
  Calls Tryz.prog 108 #[.agg #[.int .i64 K, .string p, .int .i64 2], .slice (some ⟨g, o, none⟩) 2 cap] w fun e w' => ∃ b, e = .returned (.tuple #[.agg #[.int .i64 0, .int .i64 0], .iface 209 (.pointer (some ⟨b, 0, none⟩))]) ∧ w.heap.size ≤ b ∧ w'.cell? ⟨b, 1, none⟩ = some (.iface 315 (.pointer (some a))) ∧ Below w.heap.size w w' := by
 have hE := old3 h.err
 have hx3 := old3 hx
 have hy3 := old3 hy
 clear hx hy
 go_enter Tryz.func108, Tryz.ntmps108
 go_wp2
 refine wp_loop_rounds 2 ?_
 rw [rounds_succ]
 go_wp2_with (go_at_call 134; refine (readNumber_yes _ _ hs hv).mono ?_; rintro e w' ⟨rfl, rfl⟩)
 rw [rounds_succ]
 go_wp2_with (go_at_call 134; refine (readNumber_no _ a _ (by exact hE _ _ _) hs' hv').mono ?_; rintro e w' ⟨rfl, q, rfl⟩)
 exact bodyPost_ret (v := .tuple #[.agg #[.int .i64 0, .int .i64 0], .iface 209 (.pointer (some ⟨w.heap.size + 1 + 1 + 1, 0, none⟩))]) (by simp [results, Tryz.results108, go_sem]) rfl ⟨w.heap.size + 1 + 1 + 1, rfl, by omega, new4 _ _ _ _ _ _, below4 _ _ _ _⟩

set_option maxHeartbeats 400000 in
set_option maxRecDepth 100000 in
theorem readNumbers_2yy (w : World) (K : Int) (p : ByteArray) (g o cap : Nat) (x y : ByteArray) (hs : x.size ≤ maxLen) (hx : w.cell? ⟨g, o, none⟩ = some (.string x)) (hs' : y.size ≤ maxLen) (hy : w.cell? ⟨g, o + 1, none⟩ = some (.string y)) (hv : Hid (0 ≤ numVal x)) (hv' : Hid (0 ≤ numVal y)) :
  Calls Tryz.prog 108 #[.agg #[.int .i64 K, .string p, .int .i64 2], .slice (some ⟨g, o, none⟩) 2 cap] w fun e w' => e = .returned (.tuple #[.agg #[.int .i64 (numVal x), .int .i64 (numVal y)], .nilIface]) ∧ Below w.heap.size w w' := by
 have hx3 := old3 hx
 have hy3 := old3 hy
 clear hx hy
 go_enter Tryz.func108, Tryz.ntmps108
 go_wp2
 refine wp_loop_rounds 3 ?_
 rw [rounds_succ]
 go_wp2_with (go_at_call 134; refine (readNumber_yes _ _ hs hv).mono ?_; rintro e w' ⟨rfl, rfl⟩)
 rw [rounds_succ]
 go_wp2_with (go_at_call 134; refine (readNumber_yes _ _ hs' hv').mono ?_; rintro e w' ⟨rfl, rfl⟩)
 rw [rounds_succ]
 go_wp2
 exact bodyPost_ret (v := .tuple #[.agg #[.int .i64 (numVal x), .int .i64 (numVal y)], .nilIface]) (by simp [results, Tryz.results108, go_sem]) rfl ⟨rfl, below3 _ _ _⟩

/-- A command's numbers. -/
def num1 (n : Nat) (xs : List ByteArray) : Int := if 0 < numsN n then numVal (xs.getD 0 ByteArray.empty) else 0
def num2 (n : Nat) (xs : List ByteArray) : Int := if 1 < numsN n then numVal (xs.getD 1 ByteArray.empty) else 0

/-- The slice holds the texts xs. -/
def Fields (W : World) (ad : Option Addr) (xs : List ByteArray) : Prop := (∀ j x, xs[j]? = some x → ∃ g o, ad = some ⟨g, o, none⟩ ∧ W.cell? ⟨g, o + j, none⟩ = some (.string x)) ∧ ∀ x, x ∈ xs → x.size ≤ maxLen

theorem numsN_cases (n : Nat) : numsN n = 0 ∨ numsN n = 1 ∨ numsN n = 2 := by
 unfold numsN
 repeat' split
 all_goals simp

theorem readNumbers_good (W : World) (n : Nat) (ad : Option Addr) (len cap : Nat) (xs : List ByteArray) (hl : xs.length = len) (hn : len = numsN n) (hF : Fields W ad xs) (hA : 0 ≤ num1 n xs) (hB : 0 ≤ num2 n xs) :
  Calls Tryz.prog 108 #[.agg #[.int .i64 (n : Int), .string (wordB n), .int .i64 (numsN n : Int)], .slice ad len cap] W fun e w' => e = .returned (.tuple #[.agg #[.int .i64 (num1 n xs), .int .i64 (num2 n xs)], .nilIface]) ∧ Below W.heap.size W w' := by
 unfold num1 num2 at *
 rcases numsN_cases n with h0 | h1 | h2
 ·rw [h0] at hn hA hB ⊢
  subst hn
  exact readNumbers_0 W n (wordB n) ad cap
 ·rw [h1] at hn hA hB ⊢
  subst hn
  match xs, hl with
  | [x], _ =>
   obtain ⟨g, o, rfl, hx⟩ := hF.1 0 x rfl
   exact readNumbers_1yes W n (wordB n) g o cap x (hF.2 x (by simp)) hx (Lib.hid (by simpa using hA))
 ·rw [h2] at hn hA hB ⊢
  subst hn
  match xs, hl with
  | [x, y], _ =>
   obtain ⟨g, o, rfl, hx⟩ := hF.1 0 x rfl
   obtain ⟨g', o', hh, hy⟩ := hF.1 1 y rfl
   obtain ⟨rfl, rfl⟩ : g' = g ∧ o' = o := by
    simp at hh; exact ⟨hh.1.symm, hh.2.symm⟩
   exact readNumbers_2yy W n (wordB n) g' o' cap x y (hF.2 x (by simp)) hx (hF.2 y (by simp)) hy (Lib.hid (by simpa using hA)) (Lib.hid (by simpa using hB))

theorem numVal_neg {s : ByteArray} (h : ¬ 0 ≤ numVal s) : numVal s = -1 := by
 rcases numVal_or s with h' | h'
 ·exact h'
 ·omega

theorem readNumbers_bad (a : Addr) (m : Int) (W : World) (h : Env a m W) (n : Nat) (ad : Option Addr) (len cap : Nat) (xs : List ByteArray) (hl : xs.length = len) (hF : Fields W ad xs) (hbad0 : len = numsN n → ¬ (0 ≤ num1 n xs ∧ 0 ≤ num2 n xs)) :
  Calls Tryz.prog 108 #[.agg #[.int .i64 (n : Int), .string (wordB n), .int .i64 (numsN n : Int)], .slice ad len cap] W fun e w' => ∃ b, e = .returned (.tuple #[.agg #[.int .i64 0, .int .i64 0], .iface 209 (.pointer (some ⟨b, 0, none⟩))]) ∧ W.heap.size ≤ b ∧ w'.cell? ⟨b, 1, none⟩ = some (.iface 315 (.pointer (some a))) ∧ Below W.heap.size W w' := by
 by_cases hn : len = numsN n
 ·have hbad := hbad0 hn
  clear hbad0
  unfold num1 num2 at hbad
  rcases numsN_cases n with h0 | h1 | h2
  ·rw [h0] at hbad
   exact absurd ⟨by simp, by simp⟩ hbad
  ·rw [h1] at hn hbad ⊢
   subst hn
   match xs, hl with
   | [x], _ =>
    obtain ⟨g, o, rfl, hx⟩ := hF.1 0 x rfl
    have hv : ¬ 0 ≤ numVal x := fun hh => hbad ⟨by simpa using hh, by simp⟩
    exact readNumbers_1no a m W h n (wordB n) g o cap x (hF.2 x (by simp)) hx (Lib.hid (numVal_neg hv))
  ·rw [h2] at hn hbad ⊢
   subst hn
   match xs, hl with
   | [x, y], _ =>
    obtain ⟨g, o, rfl, hx⟩ := hF.1 0 x rfl
    obtain ⟨g', o', hh, hy⟩ := hF.1 1 y rfl
    obtain ⟨rfl, rfl⟩ : g' = g ∧ o' = o := by
     simp at hh; exact ⟨hh.1.symm, hh.2.symm⟩
    by_cases hv : 0 ≤ numVal x
    ·have hv' : ¬ 0 ≤ numVal y := fun hh => hbad ⟨by simpa using hv, by simpa using hh⟩
     exact readNumbers_2yn a m W h n (wordB n) g' o' cap x y (hF.2 x (by simp)) hx (hF.2 y (by simp)) hy (Lib.hid hv) (Lib.hid (numVal_neg hv'))
    ·exact readNumbers_2no a m W h n (wordB n) g' o' cap x (hF.2 x (by simp)) hx (Lib.hid (numVal_neg hv))
 ·exact readNumbers_count a m W h n (wordB n) (numsN n) ad len cap (by rw [bne_iff_ne]; omega)

end Go.Proofs.YtpcgnadfldimhaaGreatDoor
