/-
 The document's Parse by its contract: a line that is a command.
-/
import Derived.Test.YtpcgnadfldimhaaGreatDoorRefP
namespace Go.Proofs.YtpcgnadfldimhaaGreatDoor
open Go.RowKit

set_option maxHeartbeats 2000000 in
set_option maxRecDepth 100000 in
theorem refP_yes (s : ByteArray) (w : World) (hs : s.size ≤ 100) (n : Nat) (hn1 : 1 ≤ n) (hn7 : n ≤ 7) (ps : List ByteArray) (HP : Hid (pcs s = wordB n :: ps)) (HL : Hid (ps.length = numsN n)) (HA : Hid (0 ≤ num1 n ps)) (HB : Hid (0 ≤ num2 n ps)) :
  Calls Tryz.prog 40 #[.string s] w fun e w' => e = .returned (.tuple #[.agg #[.int .i64 (n : Int), .int .i64 (num1 n ps), .int .i64 (num2 n ps)], .int .i64 0]) ∧ Below w.heap.size w w' := by
 have HS : Hid (∀ x, x ∈ ps → x.size ≤ maxLen) := Lib.hid fun x hx => by
  have := pcs_size s x (by rw [HP.out]; exact List.mem_cons_of_mem _ hx)
  unfold maxLen; omega
 have hpl : ps.length ≤ 100 := by
  have h1 := pcs_length s
  rw [HP.out, List.length_cons] at h1
  have h2 := Lib.countB_le ⟨#[32]⟩ (by decide) s.size s (Nat.le_refl _)
  omega
 go_enter Tryz.func40, Tryz.ntmps40
 go_wp2_with (go_at_call 72; refine (pieces_any s _ hs).mono ?_; rintro e w1 ⟨v, rfl, hown, hb1⟩; refine Hid.out ?_)
 refine Lib.hid ?_
 obtain ⟨g, cap, rfl, hlie⟩ := lie_of hown
 rw [HP.out] at hlie ⊢
 rw [List.length_cons]
 have c := three_old hb1
 have hbw := ((Below.refl w.heap.size w).alloc (Nat.le_refl _) _).trans (hb1.mono (by simp))
 clear hb1 hown
 go_wp2
 go_loopw [5] (fun i wr => ∃ k : Nat, 1 ≤ k ∧ k ≤ n ∧ i = .int .i64 k ∧ Below w1.heap.size w1 wr) (fun i _ => 8 - (intOf i).toNat)
 case atStart => exact ⟨1, by omega, by omega, rfl, Below.refl _ _⟩
 case round =>
  obtain ⟨k, hk1, hk8, rfl, hb⟩ := hrel
  go_wp2_with (go_at_call 73; refine (word_some k _ hk1 (by omega)).mono ?_; rintro e w2 ⟨rfl, hb2⟩; refine Hid.out ?_)
  refine Lib.hid ?_
  have hbb : Below w1.heap.size w1 w2 := hb.trans (hb2.mono hb.size)
  have hl2 := hlie.on hbb
  have q0 := hl2 0 (wordB n) rfl
  have hgl : g < w2.heap.size := block_lt_of_cell q0
  by_cases hkn : k < n
  ·have hw' := wordB_ne n k hn1 hn7 hk1 (by omega) (by omega)
   go_wp2
   exact ⟨⟨k + 1, by omega, by omega, by go_num, hbb⟩, by simp [intOf]; omega⟩
  ·obtain rfl : k = n := by omega
   have hw0 : w.heap.size < w1.heap.size := block_lt_of_cell c.1.1
   have hlt0 : w.heap.size < w2.heap.size := Nat.lt_of_lt_of_le hw0 hbb.size
   have r0 := (hbb.cell (p := ⟨w.heap.size, 0, none⟩) hw0).trans c.1.1
   have r1 := (hbb.cell (p := ⟨w.heap.size, 1, none⟩) hw0).trans c.1.2.1
   have r2 := (hbb.cell (p := ⟨w.heap.size, 2, none⟩) hw0).trans c.1.2.2
   have fr := fun j => (hbb.frozen (p := ⟨w.heap.size, j, none⟩) hw0).trans (c.2 j)
   have hbz := hbw.trans (hbb.mono hbw.size)
   rcases numsN_cases k with hN | hN | hN
   ·have HQ : Hid (ps = []) := Lib.hid (List.eq_nil_of_length_eq_zero (by rw [HL.out, hN]))
    have hla : ps.length ≤ 0 := by rw [HL.out, hN]; omega
    rw [hN]
    go_wp2
    all_goals
     have rr := read3 r0 r1 r2 (.int .i64 (k : Int)) (.int .i64 0) (.int .i64 0)
     have rr0 := fun o => old1 rr.1 o
     have rr1 := fun o => old1 rr.2.1 o
     have rr2 := fun o => old1 rr.2.2 o
     exact bodyPost_ret (v := .tuple #[.agg #[.int .i64 (k : Int), .int .i64 0, .int .i64 0], .int .i64 0]) (by simp [results, Tryz.results40, go_sem, rr0, rr1, rr2]) rfl ⟨by simp [num1, num2, hN], (((hbz.setCell (by simp) _).setCell (by simp) _).setCell (by simp) _).alloc (by have := hbz.size; simp; omega) _⟩

   ·obtain ⟨q, HQ⟩ : ∃ q, Hid (ps = [q]) := by
     have hl : ps.length = 1 := by rw [HL.out, hN]
     match ps, hl with
     | [q], _ => exact ⟨q, Lib.hid rfl⟩
    have hla : ps.length ≤ 1 := by rw [HL.out, hN]; omega
    have hlb : 1 ≤ ps.length := by rw [HL.out, hN]; omega
    have q1 := hl2 1 q (by rw [HQ.out]; rfl)
    have hq := HS.out q (by rw [HQ.out]; simp)
    have hv : 0 ≤ numVal q := by have := HA.out; rw [num1, hN, HQ.out] at this; simpa using this
    have hd : decide (numVal q < 0) = false := by simp; omega
    rw [hN]
    go_wp2_with (go_at_call 74; refine (number_is _ q _ hq rfl).mono ?_; rintro e w' ⟨rfl, rfl⟩)
    all_goals
     have rr := read3 r0 r1 r2 (.int .i64 (k : Int)) (.int .i64 (numVal q)) (.int .i64 0)
     have rr0 := fun o => old1 rr.1 o
     have rr1 := fun o => old1 rr.2.1 o
     have rr2 := fun o => old1 rr.2.2 o
     exact bodyPost_ret (v := .tuple #[.agg #[.int .i64 (k : Int), .int .i64 (numVal q), .int .i64 0], .int .i64 0]) (by simp [results, Tryz.results40, go_sem, rr0, rr1, rr2]) rfl ⟨by simp [num1, num2, hN, HQ.out], (((hbz.setCell (by simp) _).setCell (by simp) _).setCell (by simp) _).alloc (by have := hbz.size; simp; omega) _⟩

   ·obtain ⟨q, r, HQ⟩ : ∃ q r, Hid (ps = [q, r]) := by
     have hl : ps.length = 2 := by rw [HL.out, hN]
     match ps, hl with
     | [q, r], _ => exact ⟨q, r, Lib.hid rfl⟩
    have hla : ps.length ≤ 2 := by rw [HL.out, hN]; omega
    have hlb : 2 ≤ ps.length := by rw [HL.out, hN]; omega
    have q1 := hl2 1 q (by rw [HQ.out]; rfl)
    have q2 := hl2 2 r (by rw [HQ.out]; rfl)
    have hq := HS.out q (by rw [HQ.out]; simp)
    have hr := HS.out r (by rw [HQ.out]; simp)
    have hv : 0 ≤ numVal q := by have := HA.out; rw [num1, hN, HQ.out] at this; simpa using this
    have hd : decide (numVal q < 0) = false := by simp; omega
    have hv' : 0 ≤ numVal r := by have := HB.out; rw [num2, hN, HQ.out] at this; simpa using this
    have hd' : decide (numVal r < 0) = false := by simp; omega
    rw [hN]
    go_wp2_with fail
    refine (number_is _ q _ hq rfl).mono ?_
    rintro e w' ⟨rfl, rfl⟩
    go_wp2_with fail
    refine (number_is _ r _ hr rfl).mono ?_
    rintro e w' ⟨rfl, rfl⟩
    go_wp2
    all_goals
     have rr := read3 r0 r1 r2 (.int .i64 (k : Int)) (.int .i64 (numVal q)) (.int .i64 (numVal r))
     have rr0 := fun o => old1 rr.1 o
     have rr1 := fun o => old1 rr.2.1 o
     have rr2 := fun o => old1 rr.2.2 o
     exact bodyPost_ret (v := .tuple #[.agg #[.int .i64 (k : Int), .int .i64 (numVal q), .int .i64 (numVal r)], .int .i64 0]) (by simp [results, Tryz.results40, go_sem, rr0, rr1, rr2]) rfl ⟨by simp [num1, num2, hN, HQ.out], (((hbz.setCell (by simp) _).setCell (by simp) _).setCell (by simp) _).alloc (by have := hbz.size; simp; omega) _⟩

theorem refP_cmd (s : ByteArray) (w : World) (n : Nat) (x y : Int) (hc : Cmd s n x y) :
  Calls Tryz.prog 40 #[.string s] w fun e w' => e = .returned (.tuple #[.agg #[.int .i64 (n : Int), .int .i64 x, .int .i64 y], .int .i64 0]) ∧ Below w.heap.size w w' := by
 obtain ⟨hs, h1, h7, ps, hp, hl, rfl, rfl, hx, hy⟩ := hc
 exact refP_yes s w hs n h1 h7 ps (Lib.hid hp) (Lib.hid hl) (Lib.hid hx) (Lib.hid hy)

theorem refP_nocmd (s : ByteArray) (w : World) (hm : s.size ≤ maxLen) (hc : ∀ n x y, ¬ Cmd s n x y) :
  Calls Tryz.prog 40 #[.string s] w fun e w' => e = .returned (.tuple #[.agg #[.int .i64 0, .int .i64 0, .int .i64 0], .int .i64 1]) ∧ Below w.heap.size w w' := by
 by_cases hs : s.size ≤ 100
 ·exact refP_no s w hs (Lib.hid hc)
 ·exact refP_long s w hm (by omega)

end Go.Proofs.YtpcgnadfldimhaaGreatDoor
