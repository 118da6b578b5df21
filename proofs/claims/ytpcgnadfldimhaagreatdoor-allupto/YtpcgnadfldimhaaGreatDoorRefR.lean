/-
 The document's Render by its contract.
-/
import Derived.Test.YtpcgnadfldimhaaGreatDoorRend
import Derived.Test.YtpcgnadfldimhaaGreatDoorRefN
namespace Go.Proofs.YtpcgnadfldimhaaGreatDoor
open Go.RowKit

theorem ba_ext {a b : ByteArray} (h : a.data.toList = b.data.toList) : a = b := by
 cases a; cases b
 simp only at h
 congr 1
 exact Array.toList_inj.1 h

theorem bcat (a b : List UInt8) : ((⟨a.toArray⟩ : ByteArray) ++ (⟨b.toArray⟩ : ByteArray)) = ⟨(a ++ b).toArray⟩ := by
 have h : ((⟨a.toArray⟩ : ByteArray) ++ (⟨b.toArray⟩ : ByteArray)).data = a.toArray ++ b.toArray := by simp
 cases hx : ((⟨a.toArray⟩ : ByteArray) ++ (⟨b.toArray⟩ : ByteArray)) with
 | mk d => rw [hx] at h; simp only at h; rw [h]; simp

theorem digits_one (u : Nat) (h : ¬ 9 < u) : ((⟨#[]⟩ : ByteArray) ++ (⟨#[48 + UInt8.ofNat (u % 10)]⟩ : ByteArray)) = ⟨(Lib.decDigits u).toArray⟩ := by
 rw [Lib.decDigits_one (by omega), show u % 10 = u from by omega]
 rw [show (⟨#[]⟩ : ByteArray) = ⟨([] : List UInt8).toArray⟩ from rfl, show (⟨#[48 + UInt8.ofNat u]⟩ : ByteArray) = ⟨[48 + UInt8.ofNat u].toArray⟩ from rfl, bcat]
 simp

theorem digits_more (u : Nat) (h : 9 < u) : ((⟨(Lib.decDigits (u / 10)).toArray⟩ : ByteArray) ++ (⟨#[48 + UInt8.ofNat (u % 10)]⟩ : ByteArray)) = ⟨(Lib.decDigits u).toArray⟩ := by
 rw [show (⟨#[48 + UInt8.ofNat (u % 10)]⟩ : ByteArray) = ⟨[48 + UInt8.ofNat (u % 10)].toArray⟩ from rfl, bcat]
 conv => rhs; rw [Lib.decDigits, dif_neg (by omega)]
 simp

theorem one_byte (u : Nat) (W : World) : (convert 123 9 (.slice (some ⟨W.heap.size, 0, none⟩) 1 1)).run Tryz.prog (W.alloc (.cells #[.int .u8 (48 + (u : Int) % 10)] 5)) = .ok (.string ⟨#[UInt8.ofNat (48 + u % 10)]⟩) (W.alloc (.cells #[.int .u8 (48 + (u : Int) % 10)] 5)) :=
 run_convert_bytes_back (P := Tryz.prog) _ 123 9 5 ⟨W.heap.size, 0, none⟩ 1 [UInt8.ofNat (48 + u % 10)] Tryz.underlying123 Tryz.underlying5 Tryz.underlying9 (fun j hj => by
  obtain rfl : j = 0 := by simpa using hj
  rw [Addr.add_lit]
  refine (cell_of_row _ _ 0 _ _ (0, 0) (heap_alloc_new W _)).trans ?_
  simp
  omega)

theorem ret_str {a b : ByteArray} (h : a = b) : Ending.returned (.string a) = .returned (.string b) := by rw [h]

set_option maxRecDepth 100000 in
theorem digits_any (k : Nat) : ∀ (u : Nat) (w : World), u < 10 ^ k → u ≤ 999999999999999999 →
  Calls Tryz.prog 76 #[.int .i64 (u : Int)] w fun e w' => e = .returned (.string ⟨(Lib.decDigits u).toArray⟩) ∧ Below w.heap.size w w' := by
 have hcv := one_byte
 induction k with
 | zero =>
  intro u w hk hu
  have h9 : ¬ 9 < u := by simp at hk; omega
  have hc := hcv u
  clear hcv hk
  go_enter Tryz.func76, Tryz.ntmps76
  go_wp2_with fail
  go_ret
  exact ⟨ret_str (digits_one u h9), (Below.refl _ _).alloc (Nat.le_refl _) _⟩
 | succ k ih =>
  intro u w hk hu
  have hc := hcv u
  clear hcv
  have HK := Lib.hid hk
  clear hk
  have dl := dec_len (u / 10) (by omega)
  by_cases h9 : 9 < u
  ·go_enter Tryz.func76, Tryz.ntmps76
   go_wp2_with fail
   rw [show ((u : Int) / 10) = ((u / 10 : Nat) : Int) from by omega]
   refine (ih (u / 10) _ (by have := HK.out; rw [Nat.pow_succ] at this; omega) (by omega)).mono ?_
   rintro e w1 ⟨rfl, hb⟩
   go_wp2_with fail
   go_ret
   exact ⟨ret_str (digits_more u h9), hb.alloc hb.size _⟩
  ·go_enter Tryz.func76, Tryz.ntmps76
   go_wp2_with fail
   go_ret
   exact ⟨ret_str (digits_one u h9), (Below.refl _ _).alloc (Nat.le_refl _) _⟩

theorem digits_is (u : Nat) (hu : u ≤ 999999999999999999) (w : World) :
  Calls Tryz.prog 76 #[.int .i64 (u : Int)] w fun e w' => e = .returned (.string ⟨(Lib.decDigits u).toArray⟩) ∧ Below w.heap.size w w' :=
 digits_any 18 u w (by have : (10 : Nat) ^ 18 = 1000000000000000000 := by decide
                       omega) hu

theorem word_ne (n : Nat) (h1 : 1 ≤ n) (h7 : n ≤ 7) : ((wordB n).toList == []) = false := by
 have hj : n = 1 ∨ n = 2 ∨ n = 3 ∨ n = 4 ∨ n = 5 ∨ n = 6 ∨ n = 7 := by omega
 rcases hj with rfl | rfl | rfl | rfl | rfl | rfl | rfl <;> decide +kernel

theorem fits_is (ok : Bool) (n : Int) (has : Bool) (hf : fitsB n has = ok) (w : World) :
  Calls Tryz.prog 75 #[.int .i64 n, .bool has] w fun e w' => e = .returned (.bool ok) ∧ w' = w := by
 subst hf
 exact fits_any n has w

set_option maxHeartbeats 1000000 in
set_option maxRecDepth 100000 in
theorem refR_kind (k x y : Int) (w : World) (hk : k < 1 ∨ 7 < k) :
  Calls Tryz.prog 42 #[.agg #[.int .i64 k, .int .i64 x, .int .i64 y]] w fun e w' => e = .returned (.string ⟨#[]⟩) ∧ Below w.heap.size w w' := by
 go_enter Tryz.func42, Tryz.ntmps42
 go_wp2_with (go_at_call 73; refine (word_none k _ hk).mono ?_; rintro e w1 ⟨rfl, hb1⟩; refine Hid.out ?_)
 refine Lib.hid ?_
 have c := three_old hb1
 have c1 := c.1.2.1
 have c2 := c.1.2.2
 have hb := ((Below.refl w.heap.size w).alloc (Nat.le_refl _) _).trans (hb1.mono (by simp))
 clear hb1 c
 go_wp2_with (go_at_call 75; refine (fits_any _ _ _).mono ?_; rintro e w' ⟨rfl, rfl⟩)
 go_ret
 exact ⟨rfl, hb⟩

set_option maxHeartbeats 1000000 in
set_option maxRecDepth 100000 in
theorem refR_badA0 (n : Nat) (hn1 : 1 ≤ n) (hn7 : n ≤ 7) (HL : Hid (numsN n = 0)) (x y : Int) (hf : Hid (fitsB x (decide ((0 : Int) < 0)) = false)) (w : World) :
  Calls Tryz.prog 42 #[.agg #[.int .i64 (n : Int), .int .i64 x, .int .i64 y]] w fun e w' => e = .returned (.string ⟨#[]⟩) ∧ Below w.heap.size w w' := by
 have hq := word_ne n hn1 hn7
 have hwl := word_len n
 go_enter Tryz.func42, Tryz.ntmps42
 go_wp2_with (go_at_call 73; refine (word_some n _ hn1 hn7).mono ?_; rintro e w1 ⟨rfl, hb1⟩; refine Hid.out ?_)
 refine Lib.hid ?_
 rw [HL.out]
 have c := three_old hb1
 have c1 := c.1.2.1
 have c2 := c.1.2.2
 have hb := ((Below.refl w.heap.size w).alloc (Nat.le_refl _) _).trans (hb1.mono (by simp))
 clear hb1 c
 go_wp2_with fail
 refine (fits_is false _ _ (by exact hf.out) _).mono ?_
 rintro e w' ⟨rfl, rfl⟩
 go_wp2_with fail
 refine (fits_any _ _ _).mono ?_
 rintro e w' ⟨rfl, rfl⟩
 go_wp2
 go_ret
 exact ⟨rfl, hb⟩

set_option maxHeartbeats 1000000 in
set_option maxRecDepth 100000 in
theorem refR_badB0 (n : Nat) (hn1 : 1 ≤ n) (hn7 : n ≤ 7) (HL : Hid (numsN n = 0)) (x y : Int) (ha : Hid (fitsB x (decide ((0 : Int) < 0)) = true)) (hf : Hid (fitsB y (decide ((1 : Int) < 0)) = false)) (w : World) :
  Calls Tryz.prog 42 #[.agg #[.int .i64 (n : Int), .int .i64 x, .int .i64 y]] w fun e w' => e = .returned (.string ⟨#[]⟩) ∧ Below w.heap.size w w' := by
 have hq := word_ne n hn1 hn7
 have hwl := word_len n
 go_enter Tryz.func42, Tryz.ntmps42
 go_wp2_with (go_at_call 73; refine (word_some n _ hn1 hn7).mono ?_; rintro e w1 ⟨rfl, hb1⟩; refine Hid.out ?_)
 refine Lib.hid ?_
 rw [HL.out]
 have c := three_old hb1
 have c1 := c.1.2.1
 have c2 := c.1.2.2
 have hb := ((Below.refl w.heap.size w).alloc (Nat.le_refl _) _).trans (hb1.mono (by simp))
 clear hb1 c
 go_wp2_with fail
 refine (fits_is true _ _ (by exact ha.out) _).mono ?_
 rintro e w' ⟨rfl, rfl⟩
 go_wp2_with fail
 refine (fits_is false _ _ (by exact hf.out) _).mono ?_
 rintro e w' ⟨rfl, rfl⟩
 go_wp2
 go_ret
 exact ⟨rfl, hb⟩

set_option maxHeartbeats 1000000 in
set_option maxRecDepth 100000 in
theorem refR_badA1 (n : Nat) (hn1 : 1 ≤ n) (hn7 : n ≤ 7) (HL : Hid (numsN n = 1)) (x y : Int) (hf : Hid (fitsB x (decide ((0 : Int) < 1)) = false)) (w : World) :
  Calls Tryz.prog 42 #[.agg #[.int .i64 (n : Int), .int .i64 x, .int .i64 y]] w fun e w' => e = .returned (.string ⟨#[]⟩) ∧ Below w.heap.size w w' := by
 have hq := word_ne n hn1 hn7
 have hwl := word_len n
 go_enter Tryz.func42, Tryz.ntmps42
 go_wp2_with (go_at_call 73; refine (word_some n _ hn1 hn7).mono ?_; rintro e w1 ⟨rfl, hb1⟩; refine Hid.out ?_)
 refine Lib.hid ?_
 rw [HL.out]
 have c := three_old hb1
 have c1 := c.1.2.1
 have c2 := c.1.2.2
 have hb := ((Below.refl w.heap.size w).alloc (Nat.le_refl _) _).trans (hb1.mono (by simp))
 clear hb1 c
 go_wp2_with fail
 refine (fits_is false _ _ (by exact hf.out) _).mono ?_
 rintro e w' ⟨rfl, rfl⟩
 go_wp2_with fail
 refine (fits_any _ _ _).mono ?_
 rintro e w' ⟨rfl, rfl⟩
 go_wp2
 go_ret
 exact ⟨rfl, hb⟩

set_option maxHeartbeats 1000000 in
set_option maxRecDepth 100000 in
theorem refR_badB1 (n : Nat) (hn1 : 1 ≤ n) (hn7 : n ≤ 7) (HL : Hid (numsN n = 1)) (x y : Int) (ha : Hid (fitsB x (decide ((0 : Int) < 1)) = true)) (hf : Hid (fitsB y (decide ((1 : Int) < 1)) = false)) (w : World) :
  Calls Tryz.prog 42 #[.agg #[.int .i64 (n : Int), .int .i64 x, .int .i64 y]] w fun e w' => e = .returned (.string ⟨#[]⟩) ∧ Below w.heap.size w w' := by
 have hq := word_ne n hn1 hn7
 have hwl := word_len n
 go_enter Tryz.func42, Tryz.ntmps42
 go_wp2_with (go_at_call 73; refine (word_some n _ hn1 hn7).mono ?_; rintro e w1 ⟨rfl, hb1⟩; refine Hid.out ?_)
 refine Lib.hid ?_
 rw [HL.out]
 have c := three_old hb1
 have c1 := c.1.2.1
 have c2 := c.1.2.2
 have hb := ((Below.refl w.heap.size w).alloc (Nat.le_refl _) _).trans (hb1.mono (by simp))
 clear hb1 c
 go_wp2_with fail
 refine (fits_is true _ _ (by exact ha.out) _).mono ?_
 rintro e w' ⟨rfl, rfl⟩
 go_wp2_with fail
 refine (fits_is false _ _ (by exact hf.out) _).mono ?_
 rintro e w' ⟨rfl, rfl⟩
 go_wp2
 go_ret
 exact ⟨rfl, hb⟩

set_option maxHeartbeats 1000000 in
set_option maxRecDepth 100000 in
theorem refR_badA2 (n : Nat) (hn1 : 1 ≤ n) (hn7 : n ≤ 7) (HL : Hid (numsN n = 2)) (x y : Int) (hf : Hid (fitsB x (decide ((0 : Int) < 2)) = false)) (w : World) :
  Calls Tryz.prog 42 #[.agg #[.int .i64 (n : Int), .int .i64 x, .int .i64 y]] w fun e w' => e = .returned (.string ⟨#[]⟩) ∧ Below w.heap.size w w' := by
 have hq := word_ne n hn1 hn7
 have hwl := word_len n
 go_enter Tryz.func42, Tryz.ntmps42
 go_wp2_with (go_at_call 73; refine (word_some n _ hn1 hn7).mono ?_; rintro e w1 ⟨rfl, hb1⟩; refine Hid.out ?_)
 refine Lib.hid ?_
 rw [HL.out]
 have c := three_old hb1
 have c1 := c.1.2.1
 have c2 := c.1.2.2
 have hb := ((Below.refl w.heap.size w).alloc (Nat.le_refl _) _).trans (hb1.mono (by simp))
 clear hb1 c
 go_wp2_with fail
 refine (fits_is false _ _ (by exact hf.out) _).mono ?_
 rintro e w' ⟨rfl, rfl⟩
 go_wp2_with fail
 refine (fits_any _ _ _).mono ?_
 rintro e w' ⟨rfl, rfl⟩
 go_wp2
 go_ret
 exact ⟨rfl, hb⟩

set_option maxHeartbeats 1000000 in
set_option maxRecDepth 100000 in
theorem refR_badB2 (n : Nat) (hn1 : 1 ≤ n) (hn7 : n ≤ 7) (HL : Hid (numsN n = 2)) (x y : Int) (ha : Hid (fitsB x (decide ((0 : Int) < 2)) = true)) (hf : Hid (fitsB y (decide ((1 : Int) < 2)) = false)) (w : World) :
  Calls Tryz.prog 42 #[.agg #[.int .i64 (n : Int), .int .i64 x, .int .i64 y]] w fun e w' => e = .returned (.string ⟨#[]⟩) ∧ Below w.heap.size w w' := by
 have hq := word_ne n hn1 hn7
 have hwl := word_len n
 go_enter Tryz.func42, Tryz.ntmps42
 go_wp2_with (go_at_call 73; refine (word_some n _ hn1 hn7).mono ?_; rintro e w1 ⟨rfl, hb1⟩; refine Hid.out ?_)
 refine Lib.hid ?_
 rw [HL.out]
 have c := three_old hb1
 have c1 := c.1.2.1
 have c2 := c.1.2.2
 have hb := ((Below.refl w.heap.size w).alloc (Nat.le_refl _) _).trans (hb1.mono (by simp))
 clear hb1 c
 go_wp2_with fail
 refine (fits_is true _ _ (by exact ha.out) _).mono ?_
 rintro e w' ⟨rfl, rfl⟩
 go_wp2_with fail
 refine (fits_is false _ _ (by exact hf.out) _).mono ?_
 rintro e w' ⟨rfl, rfl⟩
 go_wp2
 go_ret
 exact ⟨rfl, hb⟩

set_option maxHeartbeats 1000000 in
set_option maxRecDepth 100000 in
theorem refR_0 (n : Nat) (hn1 : 1 ≤ n) (hn7 : n ≤ 7) (HL : Hid (numsN n = 0))  (w : World) :
  Calls Tryz.prog 42 #[.agg #[.int .i64 (n : Int), .int .i64 0, .int .i64 0]] w fun e w' => e = .returned (.string ⟨(wordB n).data.toList.toArray⟩) ∧ Below w.heap.size w w' := by
 have hq := word_ne n hn1 hn7
 have hwl := word_len n
 go_enter Tryz.func42, Tryz.ntmps42
 go_wp2_with (go_at_call 73; refine (word_some n _ hn1 hn7).mono ?_; rintro e w1 ⟨rfl, hb1⟩; refine Hid.out ?_)
 refine Lib.hid ?_
 rw [HL.out]
 have c := three_old hb1
 have c1 := c.1.2.1
 have c2 := c.1.2.2
 have hb := ((Below.refl w.heap.size w).alloc (Nat.le_refl _) _).trans (hb1.mono (by simp))
 clear hb1 c
 go_wp2_with fail
 refine (fits_is true _ _ (by simp [fitsB]) _).mono ?_
 rintro e w' ⟨rfl, rfl⟩
 go_wp2_with fail
 refine (fits_is true _ _ (by simp [fitsB]) _).mono ?_
 rintro e w' ⟨rfl, rfl⟩
 go_wp2
 go_ret
 exact ⟨rfl, hb⟩

set_option maxHeartbeats 1000000 in
set_option maxRecDepth 100000 in
theorem refR_1 (n : Nat) (hn1 : 1 ≤ n) (hn7 : n ≤ 7) (HL : Hid (numsN n = 1)) (x : Nat) (hx : x ≤ 999999999999999999) (w : World) :
  Calls Tryz.prog 42 #[.agg #[.int .i64 (n : Int), .int .i64 (x : Int), .int .i64 0]] w fun e w' => e = .returned (.string ⟨((wordB n).data.toList ++ 32 :: Lib.decDigits x).toArray⟩) ∧ Below w.heap.size w w' := by
 have hq := word_ne n hn1 hn7
 have hwl := word_len n
 go_enter Tryz.func42, Tryz.ntmps42
 go_wp2_with (go_at_call 73; refine (word_some n _ hn1 hn7).mono ?_; rintro e w1 ⟨rfl, hb1⟩; refine Hid.out ?_)
 refine Lib.hid ?_
 rw [HL.out]
 have c := three_old hb1
 have c1 := c.1.2.1
 have c2 := c.1.2.2
 have hb := ((Below.refl w.heap.size w).alloc (Nat.le_refl _) _).trans (hb1.mono (by simp))
 clear hb1 c
 go_wp2_with fail
 refine (fits_is true _ _ (by simpa using fits_nat x hx) _).mono ?_
 rintro e w' ⟨rfl, rfl⟩
 go_wp2_with fail
 refine (fits_is true _ _ (by simp [fitsB]) _).mono ?_
 rintro e w' ⟨rfl, rfl⟩
 have dx := dec_len x hx
 go_wp2_with fail
 refine (digits_is x hx _).mono ?_
 rintro e w2 ⟨rfl, hb2⟩
 go_wp2
 go_ret
 refine ⟨ret_str ?_, hb.trans (hb2.mono hb.size)⟩
 exact ba_ext (by simp [ByteArray.data_append])

set_option maxHeartbeats 1000000 in
set_option maxRecDepth 100000 in
theorem refR_2 (n : Nat) (hn1 : 1 ≤ n) (hn7 : n ≤ 7) (HL : Hid (numsN n = 2)) (x : Nat) (hx : x ≤ 999999999999999999) (y : Nat) (hy : y ≤ 999999999999999999) (w : World) :
  Calls Tryz.prog 42 #[.agg #[.int .i64 (n : Int), .int .i64 (x : Int), .int .i64 (y : Int)]] w fun e w' => e = .returned (.string ⟨((wordB n).data.toList ++ 32 :: Lib.decDigits x ++ 32 :: Lib.decDigits y).toArray⟩) ∧ Below w.heap.size w w' := by
 have hq := word_ne n hn1 hn7
 have hwl := word_len n
 go_enter Tryz.func42, Tryz.ntmps42
 go_wp2_with (go_at_call 73; refine (word_some n _ hn1 hn7).mono ?_; rintro e w1 ⟨rfl, hb1⟩; refine Hid.out ?_)
 refine Lib.hid ?_
 rw [HL.out]
 have c := three_old hb1
 have c1 := c.1.2.1
 have c2 := c.1.2.2
 have hb := ((Below.refl w.heap.size w).alloc (Nat.le_refl _) _).trans (hb1.mono (by simp))
 clear hb1 c
 go_wp2_with fail
 refine (fits_is true _ _ (by simpa using fits_nat x hx) _).mono ?_
 rintro e w' ⟨rfl, rfl⟩
 go_wp2_with fail
 refine (fits_is true _ _ (by simpa using fits_nat y hy) _).mono ?_
 rintro e w' ⟨rfl, rfl⟩
 have dx := dec_len x hx
 have dy := dec_len y hy
 go_wp2_with fail
 refine (digits_is x hx _).mono ?_
 rintro e w2 ⟨rfl, hb2⟩
 have c2' := (hb2.cell (p := ⟨w.heap.size, 2, none⟩) (block_lt_of_cell c2)).trans c2
 go_wp2_with fail
 refine (digits_is y hy _).mono ?_
 rintro e w3 ⟨rfl, hb3⟩
 go_wp2
 go_ret
 refine ⟨ret_str ?_, (hb.trans (hb2.mono hb.size)).trans (hb3.mono (Nat.le_trans hb.size hb2.size))⟩
 exact ba_ext (by simp [ByteArray.data_append])

theorem refR_any (w : World) (k x y : Int) :
  Calls Tryz.prog 42 #[.agg #[.int .i64 k, .int .i64 x, .int .i64 y]] w fun e w' => e = .returned (.string (rend k x y)) ∧ Below w.heap.size w w' := by
 by_cases hk : 1 ≤ k ∧ k ≤ 7
 ·obtain ⟨n, rfl⟩ : ∃ n : Nat, k = n := ⟨k.toNat, by omega⟩
  have h1 : 1 ≤ n := by omega
  have h7 : n ≤ 7 := by omega
  have hi1 : (1 : Int) ≤ n := by omega
  have hi7 : (n : Int) ≤ 7 := by omega
  unfold rend rendOk
  simp only [Int.toNat_natCast, hi1, hi7, decide_true, Bool.true_and]
  by_cases hA : fitsB x (decide (0 < numsN n)) = true
  ·by_cases hB : fitsB y (decide (1 < numsN n)) = true
   ·rw [hA, hB]
    simp only [Bool.and_self, if_true]
    rcases numsN_cases n with h0 | h1' | h2
    ·rw [h0] at hA hB
     have := fits_false hA
     have := fits_false hB
     subst x y
     refine (refR_0 n h1 h7 (Lib.hid h0) w).mono ?_
     rintro e w' ⟨rfl, hb⟩
     exact ⟨by simp [rendL, h0], hb⟩
    ·rw [h1'] at hA hB
     obtain ⟨u, rfl, hu⟩ := fits_true hA
     have := fits_false hB
     subst y
     refine (refR_1 n h1 h7 (Lib.hid h1') u hu w).mono ?_
     rintro e w' ⟨rfl, hb⟩
     exact ⟨by simp [rendL, h1'], hb⟩
    ·rw [h2] at hA hB
     obtain ⟨u, rfl, hu⟩ := fits_true hA
     obtain ⟨v, rfl, hv⟩ := fits_true hB
     refine (refR_2 n h1 h7 (Lib.hid h2) u hu v hv w).mono ?_
     rintro e w' ⟨rfl, hb⟩
     exact ⟨by simp [rendL, h2], hb⟩
   ·rw [hA, Bool.eq_false_iff.2 hB]
    simp only [Bool.and_false, Bool.false_eq_true, if_false]
    have hB' := Bool.eq_false_iff.2 hB
    rcases numsN_cases n with h0 | h1' | h2
    ·rw [h0] at hA hB'
     exact refR_badB0 n h1 h7 (Lib.hid h0) x y (Lib.hid (by simpa using hA)) (Lib.hid (by simpa using hB')) w
    ·rw [h1'] at hA hB'
     exact refR_badB1 n h1 h7 (Lib.hid h1') x y (Lib.hid (by simpa using hA)) (Lib.hid (by simpa using hB')) w
    ·rw [h2] at hA hB'
     exact refR_badB2 n h1 h7 (Lib.hid h2) x y (Lib.hid (by simpa using hA)) (Lib.hid (by simpa using hB')) w
  ·rw [Bool.eq_false_iff.2 hA]
   simp only [Bool.false_and, Bool.false_eq_true, if_false]
   have hA' := Bool.eq_false_iff.2 hA
   rcases numsN_cases n with h0 | h1' | h2
   ·rw [h0] at hA'
    exact refR_badA0 n h1 h7 (Lib.hid h0) x y (Lib.hid (by simpa using hA')) w
   ·rw [h1'] at hA'
    exact refR_badA1 n h1 h7 (Lib.hid h1') x y (Lib.hid (by simpa using hA')) w
   ·rw [h2] at hA'
    exact refR_badA2 n h1 h7 (Lib.hid h2) x y (Lib.hid (by simpa using hA')) w
 ·have hr : rendOk k x y = false := by
   unfold rendOk
   by_cases h1 : 1 ≤ k
   ·have : ¬ k ≤ 7 := fun h7 => hk ⟨h1, h7⟩
    simp [this]
   ·simp [h1]
  unfold rend
  rw [hr]
  exact refR_kind k x y w (by omega)

end Go.Proofs.YtpcgnadfldimhaaGreatDoor
