/-
 command.Write, by its contracts.
-/
import Derived.Test.YtpcgnadfldimhaaGreatDoorParse
import Derived.Test.YtpcgnadfldimhaaGreatDoorNum
namespace Go.Proofs.YtpcgnadfldimhaaGreatDoor
open Go.RowKit

theorem word_len (k : Nat) : (wordB k).size ≤ 6 := by
 unfold wordB
 repeat' split
 all_goals decide

theorem allows_is (ok : Bool) (k : Int) (p : ByteArray) (m : Int) (i n : Int) (hf : fitsB n (decide (i < m)) = ok) (w : World) :
  Calls Tryz.prog 68 #[.agg #[.int .i64 k, .string p, .int .i64 m], .int .i64 i, .int .i64 n] w fun e w' => e = .returned (.bool ok) ∧ w' = w.alloc (.cells #[.int .i64 k, .string p, .int .i64 m] 129) := by
 subst hf
 exact allows_any k p m i n w

theorem pair_at0 (x y : Int) (W : World) : (Instr.index 132 (.agg #[.int .i64 x, .int .i64 y]) (.int .i64 0)).run Tryz.prog W = .ok (.int .i64 x) W := by kernel_rfl
theorem pair_at1 (x y : Int) (W : World) : (Instr.index 132 (.agg #[.int .i64 x, .int .i64 y]) (.int .i64 1)).run Tryz.prog W = .ok (.int .i64 y) W := by kernel_rfl

/-- The command at block p, the shape at block q. -/
structure Held (p q : Nat) (x y k d l : Value) (wr : World) : Prop where
 x : wr.cell? ⟨p, 1, none⟩ = some x
 y : wr.cell? ⟨p, 2, none⟩ = some y
 k : wr.cell? ⟨q, 0, none⟩ = some k
 d : wr.cell? ⟨q, 1, none⟩ = some d
 l : wr.cell? ⟨q, 2, none⟩ = some l

theorem Held.on {p q B : Nat} {x y k d l : Value} {wr wr' : World} (h : Held p q x y k d l wr) (hb : Below B wr wr') (hp : p < B) (hq : q < B) : Held p q x y k d l wr' :=
 ⟨(hb.cell hp).trans h.x, (hb.cell hp).trans h.y, (hb.cell hq).trans h.k, (hb.cell hq).trans h.d, (hb.cell hq).trans h.l⟩

theorem held_first {w1 w2 : World} {p : Nat} {x y k d l : Value} {t : TypeId} (c1 : w1.cell? ⟨p, 1, none⟩ = some x) (c2 : w1.cell? ⟨p, 2, none⟩ = some y) (hb : Below (w1.heap.size + 1) (w1.alloc (.cells #[k, d, l] t)) w2) : Held p w1.heap.size x y k d l w2 := by
 have hp : p < w1.heap.size := block_lt_of_cell c1
 have hq := fun j => cell_of_row _ _ j _ t (0, 0) (heap_alloc_new w1 (.cells #[k, d, l] t))
 exact ⟨(hb.cell (by simp; omega)).trans (old1 c1 _), (hb.cell (by simp; omega)).trans (old1 c2 _), (hb.cell (by simp)).trans (hq 0), (hb.cell (by simp)).trans (hq 1), (hb.cell (by simp)).trans (hq 2)⟩

theorem mine_congr {w : World} {B : Nat} {v : Value} {n : Nat} {xs ys : List Value} (h : Mine w B v n xs) (e : xs = ys) : Mine w B v n ys := e ▸ h

theorem dec_len (x : Nat) (hx : x ≤ 999999999999999999) : (Lib.decDigits x).length ≤ 20 := by
 by_cases h0 : x = 0
 ·subst h0; rw [Lib.decDigits_length, Lib.nDigits_small (by omega)]; omega
 ·rw [Lib.decDigits_length]
  have := Lib.numDigits_eq x (by omega) (by omega)
  split at this <;> omega

theorem fits_nat (x : Nat) (hx : x ≤ 999999999999999999) : fitsB (x : Int) true = true := by simp [fitsB]; omega

set_option maxHeartbeats 2000000 in
set_option maxRecDepth 100000 in
theorem write_2 (a : Addr) (m : Int) (w : World) (h : Env a m w) (n : Nat) (hn1 : 1 ≤ n) (hn7 : n ≤ 7) (HL : Hid (numsN n = 2)) (x : Nat) (hx : x ≤ 999999999999999999) (y : Nat) (hy : y ≤ 999999999999999999) :
  Calls Tryz.prog 39 #[.agg #[.int .i64 (n : Int), .int .i64 (x : Int), .int .i64 (y : Int)]] w fun e w' => e = .returned (.tuple #[.string ⟨((wordB n).data.toList ++ 32 :: Lib.decDigits x ++ 32 :: Lib.decDigits y).toArray⟩, .nilIface]) ∧ Below w.heap.size w w' := by
 obtain ⟨i0, hi, hz0, hz1, hz2⟩ := info_parts Tryz.infoByte
 have hE1 : ∀ o, Env a m (w.alloc o) := fun o => h.on ((Below.refl _ _).alloc (Nat.le_refl _) _)
 go_enter Tryz.func39, Tryz.ntmps39
 go_wp2_with (go_at_call 67; refine (shapeOfKind_yes a m _ (hE1 _) n hn1 hn7).mono ?_; rintro e w1 ⟨rfl, hb1⟩; refine Hid.out ?_)
 refine Lib.hid ?_
 have hz1' := hb1.size
 simp at hz1'
 have c := three_old hb1
 have hb1' := ((Below.refl w.heap.size w).alloc (Nat.le_refl _) _).trans (hb1.mono (by simp))
 clear hb1
 have c1 := c.1.2.1
 have c2 := c.1.2.2
 clear c
 unfold shp
 rw [HL.out]
 go_wp2_with (refine wpList_bytes_mine rfl 9 123 5 _ rfl (wordB n) rfl Tryz.underlying9 Tryz.underlying123 Tryz.underlying5 ?_)
 intro v2 w2 hm2 hb2
 have hz2' := hb2.size
 simp at hz2'
 have hH2 := held_first c1 c2 hb2
 have hbw2 : Below w.heap.size w w2 := (hb1'.alloc (by omega) _).trans (hb2.mono (by omega))
 have hwl : (wordB n).size ≤ 6 := word_len n
 have hE2 : Env a m w2 := h.on hbw2
 clear hb2 c1 c2
 have e1 := hH2.x
 have e2 := hH2.y
 have s0 := hH2.k
 have s1 := hH2.d
 have s2 := hH2.l
 have hlt1 : w1.heap.size < w2.heap.size := by omega
 have hlt0 : w.heap.size < w2.heap.size := by omega
 have i0' := pair_at0 x y
 have i1' := pair_at1 x y
 go_wp2
 refine wp_loop_rounds 3 ?_
 rw [rounds_succ]
 go_wp2_with (first
  | (go_at_call 68; refine (allows_is true _ _ _ _ _ (by simpa using fits_nat x hx) _).mono ?_; rintro e w' ⟨rfl, rfl⟩)
  | (at_builtin; refine wpList_append_mine rfl _ _ 123 123 rfl 5 i0 Tryz.underlying123 hi hz0 hz1 hz2 (w1.heap.size + 1) _ _ _ rfl (hm2.on (below2 _ _)) _ rfl 1 [.int .u8 32] (Src.ofSlice _ Tryz.underlying123 ⟨w2.heap.size + 1, 0, none⟩ 1 1 _ rfl (by intro j u' hj; match j, hj with | 0, hj => simp at hj; subst hj; simp [Addr.add]) (by intro u' hu'; simp at hu'; subst hu'; rfl)) (by simp; omega) (by omega) ?_))
 intro v3 w3 hm3 hb3
 have hb3' : Below (w1.heap.size + 1) w2 w3 := (((Below.refl _ _).alloc (by omega) _).alloc (by simp; omega) _).trans hb3
 have hH3 := hH2.on hb3' (by omega) (by omega)
 have hbw3 := hbw2.trans (hb3'.mono (by omega))
 have hE3 : Env a m w3 := h.on hbw3
 have hz3' := hb3'.size
 have dl2 := dec_len x hx
 clear hb3 hb3' hm2 hH2 hbw2 hE2
 clear e1 e2 s0 s1 s2 hlt1 hlt0
 go_wp2_with (go_at_call 71; refine (appInt_any (w1.heap.size + 1) _ x (by omega) v3 _ w3 hm3 (by omega) (by omega) hE3.tab).mono ?_; rintro e w4 ⟨v4, rfl, hm4, hb4⟩; refine Hid.out ?_)
 refine Lib.hid ?_
 have hH4 := hH3.on hb4 (by omega) (by omega)
 have hbw4 := hbw3.trans (hb4.mono (by omega))
 have hE4 : Env a m w4 := h.on hbw4
 have hz4' := hb4.size
 clear hb4 hm3 hH3 hbw3 hE3
 have e1 := hH4.x
 have e2 := hH4.y
 have s0 := hH4.k
 have s1 := hH4.d
 have s2 := hH4.l
 have hlt1 : w1.heap.size < w4.heap.size := by omega
 have hlt0 : w.heap.size < w4.heap.size := by omega
 go_wp2
 rw [rounds_succ]
 go_wp2_with (first
  | (go_at_call 68; refine (allows_is true _ _ _ _ _ (by simpa using fits_nat y hy) _).mono ?_; rintro e w' ⟨rfl, rfl⟩)
  | (at_builtin; refine wpList_append_mine rfl _ _ 123 123 rfl 5 i0 Tryz.underlying123 hi hz0 hz1 hz2 (w1.heap.size + 1) _ _ _ rfl (hm4.on (below2 _ _)) _ rfl 1 [.int .u8 32] (Src.ofSlice _ Tryz.underlying123 ⟨w4.heap.size + 1, 0, none⟩ 1 1 _ rfl (by intro j u' hj; match j, hj with | 0, hj => simp at hj; subst hj; simp [Addr.add]) (by intro u' hu'; simp at hu'; subst hu'; rfl)) (by simp; omega) (by omega) ?_))
 intro v5 w5 hm5 hb5
 have hb5' : Below (w1.heap.size + 1) w4 w5 := (((Below.refl _ _).alloc (by omega) _).alloc (by simp; omega) _).trans hb5
 have hH5 := hH4.on hb5' (by omega) (by omega)
 have hbw5 := hbw4.trans (hb5'.mono (by omega))
 have hE5 : Env a m w5 := h.on hbw5
 have hz5' := hb5'.size
 have dl4 := dec_len y hy
 clear hb5 hb5' hm4 hH4 hbw4 hE4
 clear e1 e2 s0 s1 s2 hlt1 hlt0
 go_wp2_with (go_at_call 71; refine (appInt_any (w1.heap.size + 1) _ y (by omega) v5 _ w5 hm5 (by omega) (by omega) hE5.tab).mono ?_; rintro e w6 ⟨v6, rfl, hm6, hb6⟩; refine Hid.out ?_)
 refine Lib.hid ?_
 have hH6 := hH5.on hb6 (by omega) (by omega)
 have hbw6 := hbw5.trans (hb6.mono (by omega))
 have hE6 : Env a m w6 := h.on hbw6
 have hz6' := hb6.size
 clear hb6 hm5 hH5 hbw5 hE5
 have e1 := hH6.x
 have e2 := hH6.y
 have s0 := hH6.k
 have s1 := hH6.d
 have s2 := hH6.l
 have hlt1 : w1.heap.size < w6.heap.size := by omega
 have hlt0 : w.heap.size < w6.heap.size := by omega
 go_wp2
 have hl := mine_congr hm6 (ys := Lib.byteCells ((wordB n).data.toList ++ 32 :: Lib.decDigits x ++ 32 :: Lib.decDigits y)) (by simp [Lib.byteCells, byteCells])
 have hcv : (convert 123 9 v6).run Tryz.prog w6 = .ok (.string ⟨((wordB n).data.toList ++ 32 :: Lib.decDigits x ++ 32 :: Lib.decDigits y).toArray⟩) w6 := run_string_mine hl 123 9 5 Tryz.underlying123 Tryz.underlying5 Tryz.underlying9
 clear hl hm6
 rw [rounds_succ]
 go_wp2
 go_ret2
 exact ⟨by simp, hbw6⟩

set_option maxHeartbeats 2000000 in
set_option maxRecDepth 100000 in
theorem write_1 (a : Addr) (m : Int) (w : World) (h : Env a m w) (n : Nat) (hn1 : 1 ≤ n) (hn7 : n ≤ 7) (HL : Hid (numsN n = 1)) (x : Nat) (hx : x ≤ 999999999999999999) :
  Calls Tryz.prog 39 #[.agg #[.int .i64 (n : Int), .int .i64 (x : Int), .int .i64 0]] w fun e w' => e = .returned (.tuple #[.string ⟨((wordB n).data.toList ++ 32 :: Lib.decDigits x).toArray⟩, .nilIface]) ∧ Below w.heap.size w w' := by
 obtain ⟨i0, hi, hz0, hz1, hz2⟩ := info_parts Tryz.infoByte
 have hE1 : ∀ o, Env a m (w.alloc o) := fun o => h.on ((Below.refl _ _).alloc (Nat.le_refl _) _)
 go_enter Tryz.func39, Tryz.ntmps39
 go_wp2_with (go_at_call 67; refine (shapeOfKind_yes a m _ (hE1 _) n hn1 hn7).mono ?_; rintro e w1 ⟨rfl, hb1⟩; refine Hid.out ?_)
 refine Lib.hid ?_
 have hz1' := hb1.size
 simp at hz1'
 have c := three_old hb1
 have hb1' := ((Below.refl w.heap.size w).alloc (Nat.le_refl _) _).trans (hb1.mono (by simp))
 clear hb1
 have c1 := c.1.2.1
 have c2 := c.1.2.2
 clear c
 unfold shp
 rw [HL.out]
 go_wp2_with (refine wpList_bytes_mine rfl 9 123 5 _ rfl (wordB n) rfl Tryz.underlying9 Tryz.underlying123 Tryz.underlying5 ?_)
 intro v2 w2 hm2 hb2
 have hz2' := hb2.size
 simp at hz2'
 have hH2 := held_first c1 c2 hb2
 have hbw2 : Below w.heap.size w w2 := (hb1'.alloc (by omega) _).trans (hb2.mono (by omega))
 have hwl : (wordB n).size ≤ 6 := word_len n
 have hE2 : Env a m w2 := h.on hbw2
 clear hb2 c1 c2
 have e1 := hH2.x
 have e2 := hH2.y
 have s0 := hH2.k
 have s1 := hH2.d
 have s2 := hH2.l
 have hlt1 : w1.heap.size < w2.heap.size := by omega
 have hlt0 : w.heap.size < w2.heap.size := by omega
 have i0' := pair_at0 x 0
 have i1' := pair_at1 x 0
 go_wp2
 refine wp_loop_rounds 3 ?_
 rw [rounds_succ]
 go_wp2_with (first
  | (go_at_call 68; refine (allows_is true _ _ _ _ _ (by simpa using fits_nat x hx) _).mono ?_; rintro e w' ⟨rfl, rfl⟩)
  | (at_builtin; refine wpList_append_mine rfl _ _ 123 123 rfl 5 i0 Tryz.underlying123 hi hz0 hz1 hz2 (w1.heap.size + 1) _ _ _ rfl (hm2.on (below2 _ _)) _ rfl 1 [.int .u8 32] (Src.ofSlice _ Tryz.underlying123 ⟨w2.heap.size + 1, 0, none⟩ 1 1 _ rfl (by intro j u' hj; match j, hj with | 0, hj => simp at hj; subst hj; simp [Addr.add]) (by intro u' hu'; simp at hu'; subst hu'; rfl)) (by simp; omega) (by omega) ?_))
 intro v3 w3 hm3 hb3
 have hb3' : Below (w1.heap.size + 1) w2 w3 := (((Below.refl _ _).alloc (by omega) _).alloc (by simp; omega) _).trans hb3
 have hH3 := hH2.on hb3' (by omega) (by omega)
 have hbw3 := hbw2.trans (hb3'.mono (by omega))
 have hE3 : Env a m w3 := h.on hbw3
 have hz3' := hb3'.size
 have dl2 := dec_len x hx
 clear hb3 hb3' hm2 hH2 hbw2 hE2
 clear e1 e2 s0 s1 s2 hlt1 hlt0
 go_wp2_with (go_at_call 71; refine (appInt_any (w1.heap.size + 1) _ x (by omega) v3 _ w3 hm3 (by omega) (by omega) hE3.tab).mono ?_; rintro e w4 ⟨v4, rfl, hm4, hb4⟩; refine Hid.out ?_)
 refine Lib.hid ?_
 have hH4 := hH3.on hb4 (by omega) (by omega)
 have hbw4 := hbw3.trans (hb4.mono (by omega))
 have hE4 : Env a m w4 := h.on hbw4
 have hz4' := hb4.size
 clear hb4 hm3 hH3 hbw3 hE3
 have e1 := hH4.x
 have e2 := hH4.y
 have s0 := hH4.k
 have s1 := hH4.d
 have s2 := hH4.l
 have hlt1 : w1.heap.size < w4.heap.size := by omega
 have hlt0 : w.heap.size < w4.heap.size := by omega
 go_wp2
 rw [rounds_succ]
 go_wp2_with (go_at_call 68; refine (allows_is true _ _ _ _ _ (by simp [fitsB]) _).mono ?_; rintro e w' ⟨rfl, rfl⟩)
 have hl := mine_congr hm4 (ys := Lib.byteCells ((wordB n).data.toList ++ 32 :: Lib.decDigits x)) (by simp [Lib.byteCells, byteCells])
 have hcv : ∀ o, (convert 123 9 v4).run Tryz.prog (w4.alloc o) = .ok (.string ⟨((wordB n).data.toList ++ 32 :: Lib.decDigits x).toArray⟩) (w4.alloc o) := fun o => run_string_mine (hl.on ((Below.refl _ _).alloc (Nat.le_refl _) o)) 123 9 5 Tryz.underlying123 Tryz.underlying5 Tryz.underlying9
 clear hl hm4
 rw [rounds_succ]
 go_wp2
 go_ret2
 exact ⟨rfl, hbw4.trans (((Below.refl _ _).alloc (Nat.le_refl _) _).mono (by omega))⟩

set_option maxHeartbeats 2000000 in
set_option maxRecDepth 100000 in
theorem write_0 (a : Addr) (m : Int) (w : World) (h : Env a m w) (n : Nat) (hn1 : 1 ≤ n) (hn7 : n ≤ 7) (HL : Hid (numsN n = 0)) :
  Calls Tryz.prog 39 #[.agg #[.int .i64 (n : Int), .int .i64 0, .int .i64 0]] w fun e w' => e = .returned (.tuple #[.string ⟨((wordB n).data.toList).toArray⟩, .nilIface]) ∧ Below w.heap.size w w' := by
 obtain ⟨i0, hi, hz0, hz1, hz2⟩ := info_parts Tryz.infoByte
 have hE1 : ∀ o, Env a m (w.alloc o) := fun o => h.on ((Below.refl _ _).alloc (Nat.le_refl _) _)
 go_enter Tryz.func39, Tryz.ntmps39
 go_wp2_with (go_at_call 67; refine (shapeOfKind_yes a m _ (hE1 _) n hn1 hn7).mono ?_; rintro e w1 ⟨rfl, hb1⟩; refine Hid.out ?_)
 refine Lib.hid ?_
 have hz1' := hb1.size
 simp at hz1'
 have c := three_old hb1
 have hb1' := ((Below.refl w.heap.size w).alloc (Nat.le_refl _) _).trans (hb1.mono (by simp))
 clear hb1
 have c1 := c.1.2.1
 have c2 := c.1.2.2
 clear c
 unfold shp
 rw [HL.out]
 go_wp2_with (refine wpList_bytes_mine rfl 9 123 5 _ rfl (wordB n) rfl Tryz.underlying9 Tryz.underlying123 Tryz.underlying5 ?_)
 intro v2 w2 hm2 hb2
 have hz2' := hb2.size
 simp at hz2'
 have hH2 := held_first c1 c2 hb2
 have hbw2 : Below w.heap.size w w2 := (hb1'.alloc (by omega) _).trans (hb2.mono (by omega))
 have hwl : (wordB n).size ≤ 6 := word_len n
 have hE2 : Env a m w2 := h.on hbw2
 clear hb2 c1 c2
 have e1 := hH2.x
 have e2 := hH2.y
 have s0 := hH2.k
 have s1 := hH2.d
 have s2 := hH2.l
 have hlt1 : w1.heap.size < w2.heap.size := by omega
 have hlt0 : w.heap.size < w2.heap.size := by omega
 have i0' := pair_at0 0 0
 have i1' := pair_at1 0 0
 go_wp2
 refine wp_loop_rounds 3 ?_
 rw [rounds_succ]
 go_wp2_with (go_at_call 68; refine (allows_is true _ _ _ _ _ (by simp [fitsB]) _).mono ?_; rintro e w' ⟨rfl, rfl⟩)
 rw [rounds_succ]
 go_wp2_with (go_at_call 68; refine (allows_is true _ _ _ _ _ (by simp [fitsB]) _).mono ?_; rintro e w' ⟨rfl, rfl⟩)
 have hl := mine_congr hm2 (ys := Lib.byteCells ((wordB n).data.toList)) (by simp [Lib.byteCells, byteCells])
 have hcv : ∀ o o', (convert 123 9 v2).run Tryz.prog ((w2.alloc o).alloc o') = .ok (.string ⟨((wordB n).data.toList).toArray⟩) ((w2.alloc o).alloc o') := fun o o' => run_string_mine (hl.on (below2 o o')) 123 9 5 Tryz.underlying123 Tryz.underlying5 Tryz.underlying9
 clear hl hm2
 rw [rounds_succ]
 go_wp2
 go_ret2
 exact ⟨rfl, hbw2.trans ((below2 _ _).mono (by omega))⟩

end Go.Proofs.YtpcgnadfldimhaaGreatDoor
