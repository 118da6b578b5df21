/-
 The document's Parse by its contract.
-/
import Derived.Test.YtpcgnadfldimhaaGreatDoorPieces
namespace Go.Proofs.YtpcgnadfldimhaaGreatDoor
open Go.RowKit

theorem number_is (v : Int) (s : ByteArray) (w : World) (hs : s.size ≤ maxLen) (hv : numVal s = v) :
  Calls Tryz.prog 74 #[.string s] w fun e w' => e = .returned (.int .i64 v) ∧ w' = w := by
 subst hv
 exact number_any s w hs

set_option maxHeartbeats 1000000 in
set_option maxRecDepth 100000 in
theorem refP_long (s : ByteArray) (w : World) (hm : s.size ≤ maxLen) (hs : 100 < s.size) :
  Calls Tryz.prog 40 #[.string s] w fun e w' => e = .returned (.tuple #[.agg #[.int .i64 0, .int .i64 0, .int .i64 0], .int .i64 1]) ∧ Below w.heap.size w w' := by
 unfold maxLen at hm
 go_enter Tryz.func40, Tryz.ntmps40
 go_wp2
 exact bodyPost_ret (v := .tuple #[.agg #[.int .i64 0, .int .i64 0, .int .i64 0], .int .i64 1]) (by simp [results, Tryz.results40, go_sem]) rfl ⟨rfl, (Below.refl _ _).alloc (Nat.le_refl _) _⟩

/-- The pieces lie at block g. -/
def Lie (ps : List ByteArray) (g : Nat) (w : World) : Prop := ∀ j p, ps[j]? = some p → w.cell? ⟨g, j, none⟩ = some (.string p)

theorem Lie.on {ps : List ByteArray} {g : Nat} {w w' : World} (h : Lie ps g w) (hb : Below w.heap.size w w') : Lie ps g w' := fun j p hj => (hb.cell (block_lt_of_cell (h j p hj))).trans (h j p hj)

theorem lie_of {w1 : World} {B : Nat} {v : Value} {s : ByteArray} (h : w1.ownsRow B 9 1 v (cutL s.data.toList).length ((cutL s.data.toList).map fun l => Value.string ⟨l.toArray⟩)) : ∃ g cap, v = .slice (some ⟨g, 0, none⟩) (pcs s).length cap ∧ Lie (pcs s) g w1 := by
 have hp := pcs_cut s
 have hl : (cutL s.data.toList).length = (pcs s).length := by rw [hp]; simp
 have hm : ((cutL s.data.toList).map fun l => Value.string ⟨l.toArray⟩) = (pcs s).map Value.string := by rw [hp]; simp [Function.comp_def]
 rw [hl, hm] at h
 rcases h.2 with ⟨-, h0⟩ | ⟨g, cap, cur, rfl, -, -, -, -, -, -⟩
 ·have := pcs_length s; omega
 ·refine ⟨g, cap, rfl, fun j p hj => ?_⟩
  have := h.cells (g := g) rfl j (.string p) (by simp [hj])
  rw [Addr.add_lit, Nat.zero_add] at this
  exact this

set_option maxHeartbeats 2000000 in
set_option maxRecDepth 100000 in
theorem refP_no (s : ByteArray) (w : World) (hs : s.size ≤ 100) (HN : Hid (∀ n x y, ¬ Cmd s n x y)) :
  Calls Tryz.prog 40 #[.string s] w fun e w' => e = .returned (.tuple #[.agg #[.int .i64 0, .int .i64 0, .int .i64 0], .int .i64 1]) ∧ Below w.heap.size w w' := by
 obtain ⟨p, ps, HP⟩ : ∃ p ps, Hid (pcs s = p :: ps) := by
  cases e : pcs s with
  | nil => have := pcs_length s; rw [e] at this; simp at this
  | cons p ps => exact ⟨p, ps, Lib.hid rfl⟩
 have HS : Hid (∀ x, x ∈ ps → x.size ≤ maxLen) := Lib.hid fun x hx => by
  have := pcs_size s x (by rw [HP.out]; exact List.mem_cons_of_mem _ hx)
  unfold maxLen; omega
 have hpl : ps.length ≤ 100 := by
  have h1 := pcs_length s
  rw [HP.out, List.length_cons] at h1
  have h2 := Lib.countB_le ⟨#[32]⟩ (by decide) s.size s (Nat.le_refl _)
  omega
 go_enter Tryz.func40, Tryz.ntmps40
 go_wp2_with (go_at_call 72; refine (pieces_any s _ hs).mono ?_; rintro e w1 ⟨v, rfl, hown, hb1⟩; refine Hid.out ?_)
 refine Lib.hid ?_
 obtain ⟨g, cap, rfl, hlie⟩ := lie_of hown
 rw [HP.out] at hlie ⊢
 rw [List.length_cons]
 have c := three_old hb1
 have hbw := ((Below.refl w.heap.size w).alloc (Nat.le_refl _) _).trans (hb1.mono (by simp))
 clear hb1 hown
 go_wp2
 go_loopw [5] (fun i wr => ∃ k : Nat, 1 ≤ k ∧ k ≤ 8 ∧ i = .int .i64 k ∧ Below w1.heap.size w1 wr) (fun i _ => 8 - (intOf i).toNat)
 case atStart => exact ⟨1, by omega, by omega, rfl, Below.refl _ _⟩
 case round =>
  obtain ⟨k, hk1, hk8, rfl, hb⟩ := hrel
  by_cases h7 : k ≤ 7
  ·go_wp2_with (go_at_call 73; refine (word_some k _ hk1 h7).mono ?_; rintro e w2 ⟨rfl, hb2⟩; refine Hid.out ?_)
   refine Lib.hid ?_
   have hbb : Below w1.heap.size w1 w2 := hb.trans (hb2.mono hb.size)
   have hl2 := hlie.on hbb
   have q0 := hl2 0 p rfl
   have hgl : g < w2.heap.size := block_lt_of_cell q0
   by_cases hw : (p.toList == (wordB k).toList) = true
   ·have HW := Lib.hid (eq_of_toList hw)
    rcases numsN_cases k with hN | hN | hN
    ·by_cases hl : ps.length = 0
     ·exfalso
      obtain rfl := List.eq_nil_of_length_eq_zero hl
      exact HN.out k 0 0 ⟨hs, hk1, h7, [], by rw [HP.out, HW.out], by rw [hN]; rfl, by simp [num1, hN], by simp [num2, hN], by omega, by omega⟩
     ·rw [hN]
      go_wp2
      exact ⟨⟨k + 1, by omega, by omega, by go_num, hbb⟩, by simp [intOf]; omega⟩
    ·by_cases hl : ps.length = 1
     ·obtain ⟨q, HQ⟩ : ∃ q, Hid (ps = [q]) := by
       match ps, hl with
       | [q], _ => exact ⟨q, Lib.hid rfl⟩
      have hla : ps.length ≤ 1 := by omega
      have hlb : 1 ≤ ps.length := by omega
      clear hl
      ·rw [hN]
       have q1 := hl2 1 q (by rw [HQ.out]; rfl)
       have hq := HS.out q (by rw [HQ.out]; simp)
       have hv : numVal q = -1 := by
        rcases numVal_or q with h | h
        ·exact h
        ·exact absurd ⟨hs, hk1, h7, [q], by rw [HP.out, HW.out, HQ.out], by rw [hN]; rfl, rfl, rfl, by simp [num1, hN]; omega, by simp [num2, hN]⟩ (HN.out k _ _)
       have HV := Lib.hid hv
       clear hv
       go_wp2_with (go_at_call 74; refine (number_is (-1) q _ hq HV.out).mono ?_; rintro e w' ⟨rfl, rfl⟩)
       go_roundw
       case rel => exact ⟨k + 1, by omega, by omega, by go_num, hbb.alloc hbb.size _⟩
       case measure => simp [intOf]; omega
     ·rw [hN]
      go_wp2
      exact ⟨⟨k + 1, by omega, by omega, by go_num, hbb⟩, by simp [intOf]; omega⟩
    ·by_cases hl : ps.length = 2
     ·obtain ⟨q, r, HQ⟩ : ∃ q r, Hid (ps = [q, r]) := by
       match ps, hl with
       | [q, r], _ => exact ⟨q, r, Lib.hid rfl⟩
      have hla : ps.length ≤ 2 := by omega
      have hlb : 2 ≤ ps.length := by omega
      clear hl
      ·rw [hN]
       have q1 := hl2 1 q (by rw [HQ.out]; rfl)
       have q2 := hl2 2 r (by rw [HQ.out]; rfl)
       have hq := HS.out q (by rw [HQ.out]; simp)
       have hr := HS.out r (by rw [HQ.out]; simp)
       have hbad : ¬ (0 ≤ numVal q ∧ 0 ≤ numVal r) := fun hh => HN.out k _ _ ⟨hs, hk1, h7, [q, r], by rw [HP.out, HW.out, HQ.out], by rw [hN]; rfl, rfl, rfl, by simpa [num1, hN] using hh.1, by simpa [num2, hN] using hh.2⟩
       by_cases hv1 : 0 ≤ numVal q
       ·have HV2 := Lib.hid (numVal_neg (s := r) (fun hh => hbad ⟨hv1, hh⟩))
        clear hbad
        go_wp2_with fail
        refine (number_is _ q _ hq rfl).mono ?_
        rintro e w' ⟨rfl, rfl⟩
        go_wp2_with fail
        refine (number_is (-1) r _ hr HV2.out).mono ?_
        rintro e w' ⟨rfl, rfl⟩
        go_wp2
        go_roundw
        case rel => exact ⟨k + 1, by omega, by omega, by go_num, hbb.alloc hbb.size _⟩
        case measure => simp [intOf]; omega
       ·have HV1 := Lib.hid (numVal_neg hv1)
        clear hbad hv1
        go_wp2_with fail
        refine (number_is (-1) q _ hq HV1.out).mono ?_
        rintro e w' ⟨rfl, rfl⟩
        go_wp2_with fail
        refine (number_is _ r _ hr rfl).mono ?_
        rintro e w' ⟨rfl, rfl⟩
        go_wp2
        go_roundw
        case rel => exact ⟨k + 1, by omega, by omega, by go_num, hbb.alloc hbb.size _⟩
        case measure => simp [intOf]; omega
     ·rw [hN]
      go_wp2
      exact ⟨⟨k + 1, by omega, by omega, by go_num, hbb⟩, by simp [intOf]; omega⟩
   ·have hw' := Bool.eq_false_iff.2 hw
    clear hw
    go_wp2
    exact ⟨⟨k + 1, by omega, by omega, by go_num, hbb⟩, by simp [intOf]; omega⟩
  ·obtain rfl : k = 8 := by omega
   have hw0 : w.heap.size < w1.heap.size := block_lt_of_cell c.1.1
   have r0 := (hb.cell (p := ⟨w.heap.size, 0, none⟩) hw0).trans c.1.1
   have r1 := (hb.cell (p := ⟨w.heap.size, 1, none⟩) hw0).trans c.1.2.1
   have r2 := (hb.cell (p := ⟨w.heap.size, 2, none⟩) hw0).trans c.1.2.2
   have fr := fun j => (hb.frozen (p := ⟨w.heap.size, j, none⟩) hw0).trans (c.2 j)
   have hbz := hbw.trans (hb.mono hbw.size)
   go_wp2
   have rr := read3 r0 r1 r2 (.int .i64 0) (.int .i64 0) (.int .i64 0)
   exact bodyPost_ret (v := .tuple #[.agg #[.int .i64 0, .int .i64 0, .int .i64 0], .int .i64 1]) (by simp [results, Tryz.results40, go_sem, rr.1, rr.2.1, rr.2.2]) rfl ⟨rfl, ((hbz.setCell (by simp) _).setCell (by simp) _).setCell (by simp) _⟩

end Go.Proofs.YtpcgnadfldimhaaGreatDoor
