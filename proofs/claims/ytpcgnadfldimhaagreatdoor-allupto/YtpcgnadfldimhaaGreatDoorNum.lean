/-
 strconv.AppendInt at base 10, at a number from 0 on, onto a row of the call's own, whatever mark lies behind it.
-/
import Derived.Test.YtpcgnadfldimhaaGreatDoorOwn
import Derived.Test.YtpcgnadfldimhaaGreatDoorShelf
import Derived.Test.YtpcgnadfldimhaaGreatDoorChecked
import Derived.Lib.Walk
import Derived.Lib.ItoaWalk
import Derived.Lib.ItoaMem
import Derived.Lib.AppendIntMem
import Derived.Lib.BufferKept
import Derived.Lib.OwnKind
import Derived.Lib.Slices
import Derived.Lib.Hide
import Derived.OwnWalk
import Derived.WalkKit
import Derived.BigCall
import Derived.BigGuard
import Derived.CellFam
namespace Go.Proofs.YtpcgnadfldimhaaGreatDoor
open Go.Shelf Go.RowKit Go.Sort Go.Lib

theorem Tryz.infoByte : (Tryz.prog.info? 5).map (fun i => (i.zero, i.size, i.bytes)) = some (some (.int .u8 0), 1, 1) := by kernel_rfl

set_option maxHeartbeats 1000000 in
set_option maxRecDepth 100000 in
theorem appUint_small (B n u : Nat) (hu : u < 100) (sv : Value) (xs : List Value) (w : World) (hown : Mine w B sv n xs) (hB : B ≤ w.heap.size) (hlim : n ≤ 99000000000000) :
  Calls Tryz.prog 135 #[sv, .int .u64 u, .int .i64 10] w fun e w' => ∃ v', e = .returned v' ∧ Mine w' B v' (n + (Lib.decDigits u).length) (xs ++ Lib.byteCells (Lib.decDigits u)) ∧ Below B w w' := by
 obtain ⟨i0, hi, hz0, hz1, hz2⟩ := info_parts Tryz.infoByte
 have hlen : (Lib.decDigits u).length ≤ 20 := by
  rw [Lib.decDigits_length]
  by_cases h10 : u < 10
  ·rw [Lib.nDigits_small h10]; omega
  ·rw [Lib.nDigits_big h10, Lib.nDigits_small (show u / 10 < 10 by omega)]; omega
 have hsz : (⟨(Lib.decDigits u).toArray⟩ : ByteArray).size = (Lib.decDigits u).length := by simp [ByteArray.size]
 go_enter Tryz.func135, Tryz.ntmps135
 go_wp2_with (first
  | (go_at_call 148; refine (Tryz.internal_strconv_small u hu _).mono ?_; rintro e w' ⟨rfl, rfl⟩)
  | (at_builtin; refine wpList_append_mine rfl _ _ 123 9 rfl 5 i0 Tryz.underlying123 hi hz0 hz1 hz2 B n _ xs rfl hown _ rfl _ _ (Src.ofString _ Tryz.underlying9 _) hB (by rw [hsz]; omega) ?_))
 intro v' w1 hown' hb
 go_wp2
 go_ret
 refine ⟨v', rfl, ?_, hb⟩
 first | exact hown' | (rw [hsz] at hown'; exact hown')

set_option maxHeartbeats 2000000 in
set_option maxRecDepth 100000 in
theorem appUint_big (B n u : Nat) (hu : 100 ≤ u) (hu64 : u < 18446744073709551616) (sv : Value) (xs : List Value) (w : World) (hown : Mine w B sv n xs) (hBw : B ≤ w.heap.size) (hlim : n ≤ 99000000000000)
  (htab : Lib.TabIs Tryz.prog w "internal/strconv.uint64pow10" .u64 Lib.pow10Tab) :
  Calls Tryz.prog 135 #[sv, .int .u64 u, .int .i64 10] w fun e w' => ∃ v', e = .returned v' ∧ Mine w' B v' (n + (Lib.decDigits u).length) (xs ++ Lib.byteCells (Lib.decDigits u)) ∧ Below B w w' := by
 obtain ⟨i0, hi, hz0, hz1, hz2⟩ := info_parts Tryz.infoByte
 have hu1 : 1 ≤ u := by omega
 have hnd20 : Lib.nDigits u ≤ 20 := by have := Lib.numDigits_eq u hu1 hu64; split at this <;> omega
 have hal : Tryz.prog.arrayLen 265 = 24 := by simp [Program.arrayLen, Tryz.underlying265]
 have hsl : ∀ W, (Instr.sliceAt 265 (.pointer (some ⟨w.heap.size, 0, none⟩)) none (some (.int .i64 (Lib.nDigits u : Int))) none).run Tryz.prog W = .ok (.slice (some ⟨w.heap.size, 0, none⟩) (Lib.nDigits u) 24) W := fun W => by
  rw [run_sliceAt_array_h W 265 ⟨w.heap.size, 0, none⟩ (by simp [Program.arrayLen, Program.elem, Tryz.underlying265]) .i64 (Lib.nDigits u : Int) (by omega) (by rw [hal]; omega)]
  go_simp
 have hH0 := Lib.holds_zero0 w 265 (Lib.nDigits u) (by omega)
 have hfmt := Tryz.internal_strconv_formatBase10 w.heap.size 0 24 u (Array.replicate (Lib.nDigits u) 0) (w.alloc (.cells Lib.zeros24 265)) hH0 (by rw [Array.size_replicate]; exact Lib.lt_pow_nDigits u) hu64 (by rw [Array.size_replicate]; omega)
 rw [Array.size_replicate] at hfmt
 have HH0 := Lib.hid hH0
 have iu : (100 : Int) ≤ (u : Int) := by omega
 clear hH0 hal
 go_enter Tryz.func135, Tryz.ntmps135
 go_wp2_with (go_at_call 149; refine (Tryz.internal_strconv_numDigits u hu1 hu64 _ (Lib.tabIs_alloc htab _)).mono ?_; rintro e w' ⟨rfl, rfl⟩)
 go_at_call 150
 refine hfmt.mono ?_
 rintro e w' ⟨rfl, k, v', dk, rfl, hF⟩
 have hcells : ∀ j u', (Lib.byteCells (Lib.decDigits u))[j]? = some u' → ((putRow (fun (b : UInt8) => Value.int .u8 (b.toNat : Int)) (w.alloc (.cells Lib.zeros24 265)) w.heap.size 0 dk).drewN k).cell? ((⟨w.heap.size, 0, none⟩ : Addr).add j) = some u' := by
  intro j u' hj
  have hjl : j < (Lib.decDigits u).length := by
   have h5 := (List.getElem?_eq_some_iff.1 hj).1
   rwa [Lib.byteCells_length] at h5
  have e5 : (Lib.byteCells (Lib.decDigits u))[j]? = some (Value.int .u8 ((Lib.decDigits u)[j].toNat : Int)) := by simp [Lib.byteCells, hjl]
  rw [e5] at hj
  cases hj
  rw [Lib.row_is_numeral hF j hjl, Lib.add_plain, World.cell?_drewN]
  exact cell?_putRow (fun (b : UInt8) => Value.int .u8 (b.toNat : Int)) _ w.heap.size 0 _ dk HH0.out (by rw [hF.size, Array.size_replicate]) j (by rw [hF.size]; rw [Lib.decDigits_length] at hjl; exact hjl)
 obtain ⟨os, eo⟩ := Lib.fin_at w (.cells Lib.zeros24 265) dk k 0
 have hnx2 : Below w.heap.size w ((putRow (fun (b : UInt8) => Value.int .u8 (b.toNat : Int)) (w.alloc (.cells Lib.zeros24 265)) w.heap.size 0 dk).drewN k) := by rw [eo]; exact Lib.below_grow w.heap.size w (Nat.le_refl _) k os
 generalize (putRow (fun (b : UInt8) => Value.int .u8 (b.toNat : Int)) (w.alloc (.cells Lib.zeros24 265)) w.heap.size 0 dk).drewN k = W2 at hcells hnx2 ⊢
 clear eo HH0 hfmt
 have hown2 := hown.on hnx2
 have hsz2 := hnx2.size
 have hdl : (Lib.byteCells (Lib.decDigits u)).length = Lib.nDigits u := by rw [Lib.byteCells_length, Lib.decDigits_length]
 go_wp2_with (at_builtin; refine wpList_append_mine rfl _ _ 123 123 rfl 5 i0 Tryz.underlying123 hi hz0 hz1 hz2 B n _ xs rfl hown2 _ rfl (Lib.nDigits u) (Lib.byteCells (Lib.decDigits u)) (Src.ofSlice _ Tryz.underlying123 ⟨w.heap.size, 0, none⟩ (Lib.nDigits u) 24 _ (by rw [hdl, Nat.mul_one]) hcells (by intro u' hu'; simp only [Lib.byteCells, List.mem_map] at hu'; obtain ⟨b, _, rfl⟩ := hu'; rfl)) (by omega) (by omega) ?_)
 intro v2 w3 hown3 hb3
 go_wp2
 go_ret
 refine ⟨v2, rfl, ?_, (hnx2.mono hBw).trans hb3⟩
 rw [Lib.decDigits_length]
 exact hown3

theorem appUint_any (B n u : Nat) (hu64 : u < 18446744073709551616) (sv : Value) (xs : List Value) (w : World) (hown : Mine w B sv n xs) (hBw : B ≤ w.heap.size) (hlim : n ≤ 99000000000000)
  (htab : Lib.TabIs Tryz.prog w "internal/strconv.uint64pow10" .u64 Lib.pow10Tab) :
  Calls Tryz.prog 135 #[sv, .int .u64 u, .int .i64 10] w fun e w' => ∃ v', e = .returned v' ∧ Mine w' B v' (n + (Lib.decDigits u).length) (xs ++ Lib.byteCells (Lib.decDigits u)) ∧ Below B w w' := by
 by_cases hu : u < 100
 ·exact appUint_small B n u hu sv xs w hown hBw hlim
 ·exact appUint_big B n u (by omega) hu64 sv xs w hown hBw hlim htab

set_option maxHeartbeats 1000000 in
theorem appInt_any (B n u : Nat) (hu : u ≤ 9223372036854775807) (sv : Value) (xs : List Value) (w : World) (hown : Mine w B sv n xs) (hBw : B ≤ w.heap.size) (hlim : n ≤ 99000000000000)
  (htab : Lib.TabIs Tryz.prog w "internal/strconv.uint64pow10" .u64 Lib.pow10Tab) :
  Calls Tryz.prog 71 #[sv, .int .i64 u, .int .i64 10] w fun e w' => ∃ v', e = .returned v' ∧ Mine w' B v' (n + (Lib.decDigits u).length) (xs ++ Lib.byteCells (Lib.decDigits u)) ∧ Below B w w' := by
 go_enter Tryz.func71, Tryz.ntmps71
 go_wp2_with (first | (go_at_call 109; go_in) | (go_at_call 135; refine (appUint_any B n u (by omega) sv xs _ hown hBw hlim htab).mono ?_; rintro e w' ⟨v', rfl, h1, h2⟩))
 go_ret
 exact ⟨v', rfl, h1, h2⟩

end Go.Proofs.YtpcgnadfldimhaaGreatDoor
