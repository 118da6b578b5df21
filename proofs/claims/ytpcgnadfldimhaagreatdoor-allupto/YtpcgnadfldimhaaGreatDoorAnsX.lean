/-
 OF NO PROGRAM: a row of bytes that grows in blocks of a set: append onto it, or onto none; 'string(b)'.
-/
import Derived.Test.YtpcgnadfldimhaaGreatDoorOwn
import Derived.Test.YtpcgnadfldimhaaGreatDoorMemG
import Derived.Test.YtpcgnadfldimhaaGreatDoorNum
import Derived.Test.YtpcgnadfldimhaaGreatDoorSchA
import Derived.Lib.ItoaLen
import Derived.Test.YtpcgnadfldimhaaGreatDoorNums
import Derived.Test.YtpcgnadfldimhaaGreatDoorRefBB
namespace Go.Proofs.YtpcgnadfldimhaaGreatDoor
open Go.RowKit

/-- The slice v of n bytes, none or in a block of S: its cells are xs; behind them, up to the capacity, there are cells that may be written. -/
def MineS (w : World) (S : Nat → Prop) (v : Value) (n : Nat) (xs : List Value) : Prop :=
 xs.length = n ∧ ((v = .slice none 0 0 ∧ n = 0) ∨ ∃ g cap, v = .slice (some ⟨g, 0, none⟩) n cap ∧ S g ∧ (∀ j u, xs[j]? = some u → w.cell? ⟨g, j, none⟩ = some u) ∧
  (∀ j, n ≤ j → j < cap → (w.cell? ⟨g, j, none⟩).isSome = true ∧ w.frozen? ⟨g, j, none⟩ = false) ∧ g < w.heap.size)

theorem MineS.nil (w : World) (S : Nat → Prop) : MineS w S (.slice none 0 0) 0 [] := ⟨rfl, Or.inl ⟨rfl, rfl⟩⟩
theorem MineS.on {w w' : World} {S : Nat → Prop} {v : Value} {n : Nat} {xs : List Value} (h : MineS w S v n xs) (hb : Below w.heap.size w w') : MineS w' S v n xs := by
 obtain ⟨h2, h⟩ := h
 refine ⟨h2, h.imp id ?_⟩
 rintro ⟨g, cap, rfl, h1, h3, h4, h5⟩
 refine ⟨g, cap, rfl, h1, fun j u hj => ?_, fun j hj hc => ?_, Nat.lt_of_lt_of_le h5 hb.size⟩
 ·exact (hb.cell (p := ⟨g, j, none⟩) h5).trans (h3 j u hj)
 ·obtain ⟨a, b⟩ := h4 j hj hc
  exact ⟨by rw [hb.cell (p := ⟨g, j, none⟩) h5]; exact a, by rw [hb.frozen (p := ⟨g, j, none⟩) h5]; exact b⟩
theorem MineS.mono {w : World} {S T : Nat → Prop} {v : Value} {n : Nat} {xs : List Value} (h : MineS w S v n xs) (hT : ∀ k, v.ownBlock = some k → S k → T k) : MineS w T v n xs := by
 obtain ⟨h2, h⟩ := h
 refine ⟨h2, h.imp id ?_⟩
 rintro ⟨g, cap, rfl, h1, h3⟩
 exact ⟨g, cap, rfl, hT g rfl h1, h3⟩
theorem MineS.slice {w : World} {S : Nat → Prop} {v : Value} {n : Nat} {xs : List Value} (h : MineS w S v n xs) : ∃ p c, v = .slice p n c := by
 rcases h.2 with ⟨rfl, rfl⟩ | ⟨g, cap, rfl, _⟩
 ·exact ⟨_, _, rfl⟩
 ·exact ⟨_, _, rfl⟩
theorem MineS.lt {w : World} {S : Nat → Prop} {v : Value} {n : Nat} {xs : List Value} (h : MineS w S v n xs) (k : Nat) (hk : v.ownBlock = some k) : S k ∧ k < w.heap.size := by
 rcases h.2 with ⟨rfl, rfl⟩ | ⟨g, cap, rfl, h1, _, _, h5⟩
 ·simp [Value.ownBlock] at hk
 ·simp [Value.ownBlock] at hk
  subst hk
  exact ⟨h1, h5⟩

theorem kept_setCells {S : Nat → Prop} {w : World} {g : Nat} (hg : S g) (vs : List Value) (o : Nat) : Kept S w (w.setCells g o vs) := by
 have hk := World.keptBut_setCells g (may := fun _ => True) vs o w (fun _ _ => trivial)
 have hsz : ∀ (vs : List Value) (o : Nat) (w : World), (w.setCells g o vs).heap.size = w.heap.size ∧ (w.setCells g o vs).tape = w.tape ∧ ∀ k, k ≠ g → (w.setCells g o vs).heap[k]? = w.heap[k]? := by
  intro vs
  induction vs with
  | nil => intro o w; exact ⟨rfl, rfl, fun _ _ => rfl⟩
  | cons v r ih =>
   intro o w
   obtain ⟨a, b, c⟩ := ih (o + 1) (w.setCell ⟨g, o, none⟩ v)
   refine ⟨a.trans (by simp), b.trans rfl, fun k hk => (c k hk).trans (heap_setCell_other w _ k v hk)⟩
 obtain ⟨a, b, c⟩ := hsz vs o w
 exact ⟨hk.1, b, hk.2.1, Nat.le_of_eq a.symm, fun k _ hn => c k (fun e => hn (e ▸ hg))⟩

variable {P : Program}

theorem wpList_append_mineS {w : World} {ops : Array Oper} {rest : List Oper} {o : Oper} {a : Act} {Q : Exit → Act → World → Prop} (hg : o.guard = none) (s x : Operand) (t tx : TypeId)
  (hop : o.op = Op.call { callee := Callee.builtin Builtin.append, args := #[s, x], argTypes := #[t, tx] })
  (e : TypeId) (i : TypeInfo) (ht : P.underlying t = some (.slice e)) (hi : P.info? e = some i) (hz : i.zero = some (.int .u8 0)) (hsize : i.size = 1) (hby : i.bytes = 1)
  (S : Nat → Prop) (n : Nat) (v : Value) (xs : List Value) (hs : a.eval s = v) (hown : MineS w S v n xs) (xv : Value) (hx : a.eval x = xv) (m : Nat) (news : List Value) (hsrc : Src P 1 tx xv m news w)
  (hS : ∀ k, w.heap.size ≤ k → S k) (hlim : n + m ≤ 100000000000000) (hm0 : 0 < m)
  (h : ∀ v' w', MineS w' S v' (n + m) (xs ++ news) → Kept S w w' → wpList P ops Q rest (a.put o.dst v') w') : wpList P ops Q (o :: rest) a w := by
 refine wpList_plain hg fun K hK => ?_
 obtain ⟨hl, hform⟩ := hown
 have hnl : news.length = m := by have := hsrc.newsLen; omega
 have hgrow : ∀ (base : Option Addr) (cap : Nat), v = .slice base n cap → cap < n + m → (Builtin.firstCells i.size n (.slice base n cap)).run P w.drew = .ok xs.toArray w.drew → o.wp P a w K Q := fun base cap hv hr hfirst => by
  subst hv
  have hge := grownCap_ge w (n + m) cap e
  have hrun := run_append_grow_src (P := P) w t tx o.type e i (.int .u8 0) ht hi hz base n cap xs hfirst xv m news (by rw [hsize]; exact hsrc) hr (by omega)
   (growslice_fits (by omega) (by rw [hby]; omega))
  unfold Oper.wp
  simp [execOp, hop, resolve, invoke, builtin, hs, hx, hrun, Result.andThen, -World.alloc_eq, -World.drew_eq]
  have hn := heap_alloc_new w.drew (.cells ((xs ++ news).toArray ++ Builtin.zeroCells (Value.int .u8 0).cells (grownCap w (n + m) cap e - (n + m))) e)
  have hc := fun j => cell_of_row (w.drew.alloc (.cells ((xs ++ news).toArray ++ Builtin.zeroCells (Value.int .u8 0).cells (grownCap w (n + m) cap e - (n + m))) e)) w.heap.size j _ e (0, 0) hn
  have hf := fun j => frozen_of_row (w.drew.alloc (.cells ((xs ++ news).toArray ++ Builtin.zeroCells (Value.int .u8 0).cells (grownCap w (n + m) cap e - (n + m))) e)) w.heap.size j _ e hn
  have hbl : Below w.heap.size w (w.drew.alloc (.cells ((xs ++ news).toArray ++ Builtin.zeroCells (Value.int .u8 0).cells (grownCap w (n + m) cap e - (n + m))) e)) := (below_drewN (n := 1) (Below.refl w.heap.size w)).alloc (Nat.le_refl _) _
  refine hK _ _ (h _ _ ⟨by simp; omega, Or.inr ⟨w.heap.size, _, rfl, hS _ (Nat.le_refl _), fun j u hj => ?_, fun j hj hcc => ⟨?_, hf j⟩, by simp⟩⟩ (Kept.of_below hbl))
  ·rw [hc j]
   have hlt := (List.getElem?_eq_some_iff.1 hj).1
   rw [Array.getElem?_append_left (by simpa using hlt)]
   simpa using hj
  ·rw [hc j]
   simp [Builtin.zeroCells, Value.cells]
   omega
 rcases hform with ⟨rfl, rfl⟩ | ⟨g, cap, rfl, hBg, hcs, hsp, hgl⟩
 ·obtain rfl : xs = [] := List.length_eq_zero_iff.1 hl
  exact hgrow none 0 rfl (by omega) (run_firstCells_none w.drew _ _ _ _)
 ·by_cases hr : n + m ≤ cap
  ·have hrun := run_append_room_src (P := P) w t tx o.type e i ht hi g 0 n cap xv m news (by rw [hsize]; exact hsrc) hr
    (fun j hj => by rw [hsize, Nat.mul_one, Nat.zero_add]; exact (hsp (n + j) (by omega) (by omega)).1) (fun j hj => by rw [hsize, Nat.mul_one, Nat.zero_add]; exact (hsp (n + j) (by omega) (by omega)).2)
   rw [hsize, Nat.mul_one, Nat.zero_add] at hrun
   unfold Oper.wp
   simp [execOp, hop, resolve, invoke, builtin, hs, hx, hrun, Result.andThen]
   have hkp : Kept S w (w.setCells g n news) := kept_setCells hBg _ _
   refine hK _ _ (h _ _ ⟨by simp; omega, Or.inr ⟨g, cap, rfl, hBg, fun j u hj => ?_, fun j hj hc => ?_, Nat.lt_of_lt_of_le hgl hkp.size⟩⟩ hkp)
   ·rcases Nat.lt_or_ge j n with hjn | hjn
    ·rw [World.cell?_setCells_out g news n w ⟨g, j, none⟩ (fun _ _ => Or.inl hjn)]
     exact hcs j u (by rw [List.getElem?_append_left (by omega)] at hj; exact hj)
    ·rw [List.getElem?_append_right (by omega), hl] at hj
     have hlt := (List.getElem?_eq_some_iff.1 hj).1
     have hin := World.cell?_setCells_in g news n w (fun k hk => (hsp (n + k) (by omega) (by omega)).1) (j - n) hlt
     rw [show n + (j - n) = j from by omega] at hin
     rw [hin]
     rw [List.getElem?_eq_getElem hlt] at hj
     exact hj
   ·rw [World.cell?_setCells_out g news n w ⟨g, j, none⟩ (fun _ _ => Or.inr (by simp; omega)), World.frozen?_setCells]
    exact hsp j (by omega) hc
  ·exact hgrow (some ⟨g, 0, none⟩) cap rfl (by omega) (by rw [hsize]; exact run_firstCells_some w.drew 1 n ⟨g, 0, none⟩ n cap xs (by omega) (fun j u hj => by rw [Addr.add_lit]; simpa using hcs j u hj))

/-- 'string(b)'. -/
theorem run_string_mineS {w : World} {S : Nat → Prop} {v : Value} {n : Nat} {l : List UInt8} (h : MineS w S v n (Lib.byteCells l)) (hn : 0 < n) (src dst e : TypeId) (hs : P.underlying src = some (.slice e)) (he : P.underlying e = some (.int .u8)) (hd : P.underlying dst = some .string) :
  (convert src dst v).run P w = .ok (.string ⟨l.toArray⟩) w := by
 obtain ⟨hl, ⟨_, h0⟩ | ⟨g, cap, rfl, _, hc, _⟩⟩ := h
 ·omega
 rw [Lib.byteCells_length] at hl
 subst hl
 exact run_convert_bytes_back (P := P) w src dst e ⟨g, 0, none⟩ cap l hs he hd (fun j hj => by rw [Addr.add_lit, Nat.zero_add]; exact hc j _ (by simp [Lib.byteCells, hj]))

end Go.Proofs.YtpcgnadfldimhaaGreatDoor
namespace Go.Proofs.YtpcgnadfldimhaaGreatDoor
open Go.Shelf Go.RowKit Go.Sort Go.Lib

set_option maxHeartbeats 1000000 in
set_option maxRecDepth 100000 in
theorem appUint_smallS (S : Nat → Prop) (n u : Nat) (hu : u < 100) (sv : Value) (xs : List Value) (w : World) (hown : MineS w S sv n xs) (hS : ∀ k, w.heap.size ≤ k → S k) (hlim : n ≤ 99000000000000) :
  Calls Tryz.prog 135 #[sv, .int .u64 u, .int .i64 10] w fun e w' => ∃ v', e = .returned v' ∧ MineS w' S v' (n + (Lib.decDigits u).length) (xs ++ Lib.byteCells (Lib.decDigits u)) ∧ Kept S w w' := by
 obtain ⟨i0, hi, hz0, hz1, hz2⟩ := info_parts Tryz.infoByte
 have hlen : (Lib.decDigits u).length ≤ 20 := by
  rw [Lib.decDigits_length]
  by_cases h10 : u < 10
  ·rw [Lib.nDigits_small h10]; omega
  ·rw [Lib.nDigits_big h10, Lib.nDigits_small (show u / 10 < 10 by omega)]; omega
 have hsz : (⟨(Lib.decDigits u).toArray⟩ : ByteArray).size = (Lib.decDigits u).length := by simp [ByteArray.size]
 have hpos : 1 ≤ (Lib.decDigits u).length := by rw [Lib.decDigits_length]; exact Lib.nDigits_pos u
 go_enter Tryz.func135, Tryz.ntmps135
 go_wp2_with (first
  | (go_at_call 148; refine (Tryz.internal_strconv_small u hu _).mono ?_; rintro e w' ⟨rfl, rfl⟩)
  | (at_builtin; refine wpList_append_mineS rfl _ _ 123 9 rfl 5 i0 Tryz.underlying123 hi hz0 hz1 hz2 S n _ xs rfl hown _ rfl _ _ (Src.ofString _ Tryz.underlying9 _) hS (by rw [hsz]; omega) (by rw [hsz]; omega) ?_))
 intro v' w1 hown' hb
 go_wp2
 go_ret
 refine ⟨v', rfl, ?_, hb⟩
 first | exact hown' | (rw [hsz] at hown'; exact hown')

set_option maxHeartbeats 2000000 in
set_option maxRecDepth 100000 in
theorem appUint_bigS (S : Nat → Prop) (n u : Nat) (hu : 100 ≤ u) (hu64 : u < 18446744073709551616) (sv : Value) (xs : List Value) (w : World) (hown : MineS w S sv n xs) (hS : ∀ k, w.heap.size ≤ k → S k) (hlim : n ≤ 99000000000000)
  (htab : Lib.TabIs Tryz.prog w "internal/strconv.uint64pow10" .u64 Lib.pow10Tab) :
  Calls Tryz.prog 135 #[sv, .int .u64 u, .int .i64 10] w fun e w' => ∃ v', e = .returned v' ∧ MineS w' S v' (n + (Lib.decDigits u).length) (xs ++ Lib.byteCells (Lib.decDigits u)) ∧ Kept S w w' := by
 obtain ⟨i0, hi, hz0, hz1, hz2⟩ := info_parts Tryz.infoByte
 have hu1 : 1 ≤ u := by omega
 have hpos := Lib.nDigits_pos u
 have hnd20 : Lib.nDigits u ≤ 20 := by have := Lib.numDigits_eq u hu1 hu64; split at this <;> omega
 have hal : Tryz.prog.arrayLen 265 = 24 := by simp [Program.arrayLen, Tryz.underlying265]
 have hsl : ∀ W, (Instr.sliceAt 265 (.pointer (some ⟨w.heap.size, 0, none⟩)) none (some (.int .i64 (Lib.nDigits u : Int))) none).run Tryz.prog W = .ok (.slice (some ⟨w.heap.size, 0, none⟩) (Lib.nDigits u) 24) W := fun W => by
  rw [run_sliceAt_array_h W 265 ⟨w.heap.size, 0, none⟩ (by simp [Program.arrayLen, Program.elem, Tryz.underlying265]) .i64 (Lib.nDigits u : Int) (by omega) (by rw [hal]; omega)]
  go_simp
 have hH0 := Lib.holds_zero0 w 265 (Lib.nDigits u) (by omega)
 have hfmt := Tryz.internal_strconv_formatBase10 w.heap.size 0 24 u (Array.replicate (Lib.nDigits u) 0) (w.alloc (.cells Lib.zeros24 265)) hH0 (by rw [Array.size_replicate]; exact Lib.lt_pow_nDigits u) hu64 (by rw [Array.size_replicate]; omega)
 rw [Array.size_replicate] at hfmt
 have HH0 := Lib.hid hH0
 have iu : (100 : Int) ≤ (u : Int) := by omega
 clear hH0 hal
 go_enter Tryz.func135, Tryz.ntmps135
 go_wp2_with (go_at_call 149; refine (Tryz.internal_strconv_numDigits u hu1 hu64 _ (Lib.tabIs_alloc htab _)).mono ?_; rintro e w' ⟨rfl, rfl⟩)
 go_at_call 150
 refine hfmt.mono ?_
 rintro e w' ⟨rfl, k, v', dk, rfl, hF⟩
 have hcells : ∀ j u', (Lib.byteCells (Lib.decDigits u))[j]? = some u' → ((putRow (fun (b : UInt8) => Value.int .u8 (b.toNat : Int)) (w.alloc (.cells Lib.zeros24 265)) w.heap.size 0 dk).drewN k).cell? ((⟨w.heap.size, 0, none⟩ : Addr).add j) = some u' := by
  intro j u' hj
  have hjl : j < (Lib.decDigits u).length := by
   have h5 := (List.getElem?_eq_some_iff.1 hj).1
   rwa [Lib.byteCells_length] at h5
  have e5 : (Lib.byteCells (Lib.decDigits u))[j]? = some (Value.int .u8 ((Lib.decDigits u)[j].toNat : Int)) := by simp [Lib.byteCells, hjl]
  rw [e5] at hj
  cases hj
  rw [Lib.row_is_numeral hF j hjl, Lib.add_plain, World.cell?_drewN]
  exact cell?_putRow (fun (b : UInt8) => Value.int .u8 (b.toNat : Int)) _ w.heap.size 0 _ dk HH0.out (by rw [hF.size, Array.size_replicate]) j (by rw [hF.size]; rw [Lib.decDigits_length] at hjl; exact hjl)
 obtain ⟨os, eo⟩ := Lib.fin_at w (.cells Lib.zeros24 265) dk k 0
 have hnx2 : Below w.heap.size w ((putRow (fun (b : UInt8) => Value.int .u8 (b.toNat : Int)) (w.alloc (.cells Lib.zeros24 265)) w.heap.size 0 dk).drewN k) := by rw [eo]; exact Lib.below_grow w.heap.size w (Nat.le_refl _) k os
 generalize (putRow (fun (b : UInt8) => Value.int .u8 (b.toNat : Int)) (w.alloc (.cells Lib.zeros24 265)) w.heap.size 0 dk).drewN k = W2 at hcells hnx2 ⊢
 clear eo HH0 hfmt
 have hown2 := hown.on hnx2
 have hsz2 := hnx2.size
 have hdl : (Lib.byteCells (Lib.decDigits u)).length = Lib.nDigits u := by rw [Lib.byteCells_length, Lib.decDigits_length]
 go_wp2_with (at_builtin; refine wpList_append_mineS rfl _ _ 123 123 rfl 5 i0 Tryz.underlying123 hi hz0 hz1 hz2 S n _ xs rfl hown2 _ rfl (Lib.nDigits u) (Lib.byteCells (Lib.decDigits u)) (Src.ofSlice _ Tryz.underlying123 ⟨w.heap.size, 0, none⟩ (Lib.nDigits u) 24 _ (by rw [hdl, Nat.mul_one]) hcells (by intro u' hu'; simp only [Lib.byteCells, List.mem_map] at hu'; obtain ⟨b, _, rfl⟩ := hu'; rfl)) (fun k hk => hS k (by omega)) (by omega) (by omega) ?_)
 intro v2 w3 hown3 hb3
 go_wp2
 go_ret
 refine ⟨v2, rfl, ?_, (Kept.of_below (S := S) hnx2).trans hb3 (fun _ e => Or.inl e)⟩
 rw [Lib.decDigits_length]
 exact hown3

theorem appUint_anyS (S : Nat → Prop) (n u : Nat) (hu64 : u < 18446744073709551616) (sv : Value) (xs : List Value) (w : World) (hown : MineS w S sv n xs) (hS : ∀ k, w.heap.size ≤ k → S k) (hlim : n ≤ 99000000000000)
  (htab : Lib.TabIs Tryz.prog w "internal/strconv.uint64pow10" .u64 Lib.pow10Tab) :
  Calls Tryz.prog 135 #[sv, .int .u64 u, .int .i64 10] w fun e w' => ∃ v', e = .returned v' ∧ MineS w' S v' (n + (Lib.decDigits u).length) (xs ++ Lib.byteCells (Lib.decDigits u)) ∧ Kept S w w' := by
 by_cases hu : u < 100
 ·exact appUint_smallS S n u hu sv xs w hown hS hlim
 ·exact appUint_bigS S n u (by omega) hu64 sv xs w hown hS hlim htab

set_option maxHeartbeats 1000000 in
theorem appInt_anyS (S : Nat → Prop) (n u : Nat) (hu : u ≤ 9223372036854775807) (sv : Value) (xs : List Value) (w : World) (hown : MineS w S sv n xs) (hS : ∀ k, w.heap.size ≤ k → S k) (hlim : n ≤ 99000000000000)
  (htab : Lib.TabIs Tryz.prog w "internal/strconv.uint64pow10" .u64 Lib.pow10Tab) :
  Calls Tryz.prog 71 #[sv, .int .i64 u, .int .i64 10] w fun e w' => ∃ v', e = .returned v' ∧ MineS w' S v' (n + (Lib.decDigits u).length) (xs ++ Lib.byteCells (Lib.decDigits u)) ∧ Kept S w w' := by
 go_enter Tryz.func71, Tryz.ntmps71
 go_wp2_with (first | (go_at_call 109; go_in) | (go_at_call 135; refine (appUint_anyS S n u (by omega) sv xs _ hown hS hlim htab).mono ?_; rintro e w' ⟨v', rfl, h1, h2⟩))
 go_ret
 exact ⟨v', rfl, h1, h2⟩

end Go.Proofs.YtpcgnadfldimhaaGreatDoor
namespace Go.Proofs.YtpcgnadfldimhaaGreatDoor

/-- A line: words, numbers with a blank ahead of each, the line's end. -/
def numsL (ns : List Int) : List UInt8 := ns.flatMap fun n => 32 :: Lib.decDigits n.toNat
def lineL (words : List UInt8) (ns : List Int) : List UInt8 := words ++ numsL ns ++ [10]
def okW : List UInt8 := [79, 75]
def errW (e : Int) : List UInt8 := if e = 1 then [65, 82, 71] else if e = 2 then [87, 73, 68, 84, 72] else if e = 3 then [87, 65, 76, 76] else if e = 4 then [70, 85, 76, 76] else if e = 5 then [74, 79, 66] else if e = 6 then [80, 72, 65, 83, 69] else [84, 73, 77, 69]
def phaseW (p : Int) : List UInt8 := if p = 1 then [81, 85, 69, 85, 69, 68] else if p = 2 then [82, 85, 78, 78, 73, 78, 71] else if p = 3 then [70, 73, 78, 73, 83, 72, 69, 68] else if p = 4 then [84, 73, 77, 69, 68, 79, 85, 84] else [67, 65, 78, 67, 69, 76, 76, 69, 68]
def firstL (kind : Int) (o : Out) : List UInt8 := if kind = 1 then lineL okW [o.a, o.b] else if kind = 5 then lineL (okW ++ 32 :: phaseW o.a) [o.b, o.c] else if kind = 6 then lineL okW [(o.rows.length : Int)] else if kind = 7 then lineL okW [o.a, o.b, o.c] else lineL okW []
def rowL (r : RowV) : List UInt8 := lineL [74, 79, 66] [r.id, r.promise, r.width, r.wall]
def evL (e : Ev) : List UInt8 := if e.kind = 1 then lineL [83, 84, 65, 82, 84] [e.id, e.time] else if e.kind = 2 then lineL [69, 78, 68] [e.id, e.time] else lineL [77, 79, 86, 69, 68] [e.id, e.time, e.dest]
def errL (e : Int) : List UInt8 := lineL ([69, 82, 82, 32] ++ errW e) []
def answerL (kind : Int) (o : Out) : List UInt8 := if o.err = 0 then firstL kind o ++ o.rows.flatMap rowL ++ o.evs.flatMap evL else errL o.err

/-- Numbers that an answer may hold. -/
def NumOk (n : Int) : Prop := 0 ≤ n ∧ n ≤ 9223372036854775807
def RowV.ok (r : RowV) : Prop := NumOk r.id ∧ NumOk r.promise ∧ NumOk r.width ∧ NumOk r.wall
def Ev.okT (e : Ev) : Prop := NumOk e.id ∧ NumOk e.time ∧ NumOk e.dest
structure OutOk (o : Out) : Prop where
 err : 0 ≤ o.err ∧ o.err ≤ 7
 a : NumOk o.a
 b : NumOk o.b
 c : NumOk o.c
 rows : ∀ r ∈ o.rows, r.ok
 evs : ∀ e ∈ o.evs, e.okT

theorem decI_len {n : Int} (h : NumOk n) : (Lib.decDigits n.toNat).length ≤ 20 := by
 rw [Lib.decDigits_length]
 exact Lib.nDigits_le20 _ (by have := h.1; have := h.2; omega)
theorem numsL_len : ∀ ns : List Int, (∀ n ∈ ns, NumOk n) → (numsL ns).length ≤ 21 * ns.length
 | [], _ => by simp [numsL]
 | n :: r, h => by
  have ih := numsL_len r (fun k hk => h k (List.mem_cons_of_mem _ hk))
  have hd := decI_len (h n (List.mem_cons_self ..))
  simp only [numsL, List.flatMap_cons, List.length_append, List.length_cons] at ih ⊢
  omega
theorem lineL_len (words : List UInt8) (ns : List Int) (h : ∀ n ∈ ns, NumOk n) : (lineL words ns).length ≤ words.length + 21 * ns.length + 1 := by
 have := numsL_len ns h
 simp only [lineL, List.length_append, List.length_singleton]
 omega
theorem rowL_len {r : RowV} (h : r.ok) : (rowL r).length ≤ 90 := by
 have := lineL_len [74, 79, 66] [r.id, r.promise, r.width, r.wall] (by intro n hn; simp at hn; rcases hn with rfl | rfl | rfl | rfl <;> first | exact h.1 | exact h.2.1 | exact h.2.2.1 | exact h.2.2.2)
 simp only [List.length_cons, List.length_nil] at this
 unfold rowL
 omega
theorem evL_len {e : Ev} (h : e.okT) : (evL e).length ≤ 70 := by
 unfold evL
 split
 ·have := lineL_len [83, 84, 65, 82, 84] [e.id, e.time] (by intro n hn; simp at hn; rcases hn with rfl | rfl <;> first | exact h.1 | exact h.2.1)
  simp only [List.length_cons, List.length_nil] at this
  omega
 split
 ·have := lineL_len [69, 78, 68] [e.id, e.time] (by intro n hn; simp at hn; rcases hn with rfl | rfl <;> first | exact h.1 | exact h.2.1)
  simp only [List.length_cons, List.length_nil] at this
  omega
 ·have := lineL_len [77, 79, 86, 69, 68] [e.id, e.time, e.dest] (by intro n hn; simp at hn; rcases hn with rfl | rfl | rfl <;> first | exact h.1 | exact h.2.1 | exact h.2.2)
  simp only [List.length_cons, List.length_nil] at this
  omega
theorem flatU_len {α : Type} (f : α → List UInt8) (c : Nat) : ∀ l : List α, (∀ a ∈ l, (f a).length ≤ c) → (l.flatMap f).length ≤ c * l.length
 | [], _ => by simp
 | a :: r, h => by
  have ih := flatU_len f c r (fun k hk => h k (List.mem_cons_of_mem _ hk))
  have ha := h a (List.mem_cons_self ..)
  simp only [List.flatMap_cons, List.length_append, List.length_cons, Nat.mul_add, Nat.mul_one]
  omega
theorem phaseW_len (p : Int) : (phaseW p).length ≤ 9 := by unfold phaseW; split <;> (try split) <;> (try split) <;> (try split) <;> decide
theorem errW_len (e : Int) : (errW e).length ≤ 5 := by unfold errW; split <;> (try split) <;> (try split) <;> (try split) <;> (try split) <;> (try split) <;> decide
theorem firstL_len (kind : Int) {o : Out} (h : OutOk o) (hr : o.rows.length ≤ 1000000000) : (firstL kind o).length ≤ 80 := by
 unfold firstL
 have hp := phaseW_len o.a
 split
 ·have := lineL_len okW [o.a, o.b] (by intro n hn; simp at hn; rcases hn with rfl | rfl <;> first | exact h.a | exact h.b)
  simp only [okW, List.length_cons, List.length_nil] at this ⊢
  omega
 split
 ·have := lineL_len (okW ++ 32 :: phaseW o.a) [o.b, o.c] (by intro n hn; simp at hn; rcases hn with rfl | rfl <;> first | exact h.b | exact h.c)
  simp only [okW, List.length_cons, List.length_nil, List.length_append] at this ⊢
  omega
 split
 ·have := lineL_len okW [(o.rows.length : Int)] (by intro n hn; simp at hn; subst hn; unfold NumOk; omega)
  simp only [okW, List.length_cons, List.length_nil] at this ⊢
  omega
 split
 ·have := lineL_len okW [o.a, o.b, o.c] (by intro n hn; simp at hn; rcases hn with rfl | rfl | rfl <;> first | exact h.a | exact h.b | exact h.c)
  simp only [okW, List.length_cons, List.length_nil] at this ⊢
  omega
 ·have := lineL_len okW [] (by intro n hn; simp at hn)
  simp only [okW, List.length_cons, List.length_nil] at this ⊢
  omega

theorem firstL_ok (kind : Int) (o : Out) : ∃ r, firstL kind o = 79 :: 75 :: r ∧ r ≠ [] := by
 unfold firstL lineL okW
 split
 ·exact ⟨_, rfl, by simp⟩
 split
 ·exact ⟨_, rfl, by simp⟩
 split
 ·exact ⟨_, rfl, by simp⟩
 split
 ·exact ⟨_, rfl, by simp⟩
 ·exact ⟨_, rfl, by simp⟩
end Go.Proofs.YtpcgnadfldimhaaGreatDoor
namespace Go.Proofs.YtpcgnadfldimhaaGreatDoor
open Go.RowKit

/-- Numbers lie at p. -/
def NumsAt (w : World) (p : Option Addr) (ns : List Int) : Prop := ∀ i n, ns[i]? = some n → ∃ b off, p = some ⟨b, off, none⟩ ∧ w.cell? ⟨b, off + i, none⟩ = some (.int .i64 n)

theorem byteCells_words (words : List UInt8) : byteCells (⟨words.toArray⟩ : ByteArray) = Lib.byteCells words := by
 simp [byteCells, Lib.byteCells]
theorem byteCells_app (l m : List UInt8) : Lib.byteCells (l ++ m) = Lib.byteCells l ++ Lib.byteCells m := by simp [Lib.byteCells]
theorem MineS.at_kept {w w' : World} {S : Nat → Prop} {k : Nat} (h : Kept S w w') (hk : k < w.heap.size) (hn : ¬ S k) (j : Nat) : w'.cell? ⟨k, j, none⟩ = w.cell? ⟨k, j, none⟩ := World.cell?_of_block (a := ⟨k, j, none⟩) (h.block k hk hn)

set_option maxHeartbeats 4000000 in
set_option maxRecDepth 100000 in
theorem appendLine_any (a : Addr) (m : Int) (w0 w : World) (hE : Env a m w0) (h0 : Below w0.heap.size w0 w) (S : Nat → Prop) (hS : ∀ k, w.heap.size ≤ k → S k) (hS0 : ∀ k, S k → w0.heap.size ≤ k) (n : Nat) (sv : Value) (xs : List Value) (hown : MineS w S sv n xs) (words : List UInt8) (hw : 0 < words.length) (hw2 : words.length ≤ 30) (p : Option Addr) (cap : Nat) (ns : List Int) (hns : NumsAt w p ns) (hoff : ∀ b off, p = some ⟨b, off, none⟩ → ¬ S b) (hok : ∀ x ∈ ns, NumOk x) (hlen : ns.length ≤ 4) (hn : n ≤ 90000000000000) :
  Calls Tryz.prog 64 #[sv, .string ⟨words.toArray⟩, .slice p ns.length cap] w fun e w' => ∃ v', e = .returned v' ∧ MineS w' S v' (n + (lineL words ns).length) (xs ++ Lib.byteCells (lineL words ns)) ∧ Kept S w w' := by
 obtain ⟨i0, hi, hz0, hz1, hz2⟩ := info_parts Tryz.infoByte
 have hsz : (⟨words.toArray⟩ : ByteArray).size = words.length := by simp [ByteArray.size]
 have HE := Lib.hid hE
 have HNS := Lib.hid hns
 have HOF := Lib.hid hoff
 have HOK := Lib.hid hok
 have HB0 := Lib.hid h0
 have HS := Lib.hid hS
 have HS0 := Lib.hid hS0
 clear hE hns hoff hok h0 hS0
 go_enter Tryz.func64, Tryz.ntmps64
 go_wp2_with (at_builtin; refine wpList_append_mineS rfl _ _ 123 9 rfl 5 i0 Tryz.underlying123 hi hz0 hz1 hz2 S n _ xs rfl hown _ rfl _ _ (Src.ofString _ Tryz.underlying9 _) hS (by rw [hsz]; omega) (by rw [hsz]; omega) ?_)
 intro v1 w1 hown1 hk1
 rw [byteCells_words] at hown1
 clear hown hS
 go_wp2
 go_loopw [0, 14] (fun tx i wr => ∃ k : Nat, k ≤ ns.length ∧ i = .int .i64 k ∧ Hid (MineS wr S tx (n + (words ++ numsL (ns.take k)).length) (xs ++ Lib.byteCells (words ++ numsL (ns.take k)))) ∧ Hid (Kept S w wr)) (fun _ i _ => ns.length - (intOf i).toNat)
 case atStart => exact ⟨0, Nat.zero_le _, rfl, Lib.hid (by simpa [numsL] using hown1), Lib.hid hk1⟩
 case round =>
  obtain ⟨k, hk, rfl, HM, HK⟩ := hrel
  clear hown1 hk1
  have hnl : (numsL (ns.take k)).length ≤ 84 := by
   have := numsL_len (ns.take k) (fun x hx => HOK.out x (List.mem_of_mem_take hx))
   have : (ns.take k).length ≤ 4 := by rw [List.length_take]; omega
   omega
  have hll : (words ++ numsL (ns.take k)).length ≤ 120 := by rw [List.length_append]; omega
  obtain ⟨tx, cx, rfl⟩ := HM.out.slice
  by_cases hlt : k < ns.length
  ·obtain ⟨x, hx⟩ : ∃ x, ns[k]? = some x := ⟨_, List.getElem?_eq_getElem hlt⟩
   obtain ⟨b, off, rfl, hc0⟩ := HNS.out k x hx
   have hbl : b < w.heap.size := block_lt_of_cell hc0
   have hc : wr.cell? ⟨b, off + k, none⟩ = some (.int .i64 x) := (MineS.at_kept HK.out hbl (HOF.out b off rfl) _).trans hc0
   have hox := HOK.out x (List.mem_of_getElem? hx)
   obtain ⟨u, rfl⟩ : ∃ u : Nat, x = (u : Int) := ⟨x.toNat, by have := hox.1; omega⟩
   have hu : u ≤ 9223372036854775807 := by have := hox.2; omega
   have HT : Hid (words ++ numsL (ns.take (k + 1)) = (words ++ numsL (ns.take k)) ++ ([32] ++ Lib.decDigits u)) := Lib.hid (by
    rw [List.take_succ_eq_append_getElem hlt, (List.getElem?_eq_some_iff.1 hx).2]
    simp [numsL])
   generalize words ++ numsL (ns.take k) = T at *
   clear hc0 hox
   have hB : ∀ o, Below wr.heap.size wr (wr.alloc o) := fun o => (Below.refl _ _).alloc (Nat.le_refl _) o
   have hSr : ∀ k, wr.heap.size ≤ k → S k := fun k e => HS.out k (Nat.le_trans HK.out.size e)
   go_wp2_with (at_builtin; refine wpList_append_mineS rfl _ _ 123 123 rfl 5 i0 Tryz.underlying123 hi hz0 hz1 hz2 S _ _ _ rfl (HM.out.on (hB _)) _ rfl 1 [.int .u8 32] (Src.ofSlice _ Tryz.underlying123 ⟨wr.heap.size, 0, none⟩ 1 1 _ rfl (by intro j u' hj; match j, hj with | 0, hj => simp at hj; subst hj; simp [Addr.add]) (by intro u' hu'; simp at hu'; subst hu'; rfl)) (fun k e => hSr k (by simp at e; omega)) (by omega) (by omega) ?_)
   intro v2 w2 hown2 hk2
   have HK2 : Hid (Kept S w w2) := Lib.hid ((HK.out.trans (Kept.of_below (S := S) (hB _)) (fun _ e => Or.inl e)).trans hk2 (fun _ e => Or.inl e))
   have HM2 := Lib.hid hown2
   obtain ⟨q2, c2, rfl⟩ := hown2.slice
   have HE2 : Hid (Env a m w2) := Lib.hid (HE.out.on (HB0.out.trans (HK2.out.below HB0.out.size (fun k e => HS0.out k e))))
   have hs2 : ∀ k, w2.heap.size ≤ k → S k := fun k e => HS.out k (Nat.le_trans HK2.out.size e)
   clear hown2 hk2 hB hc
   go_wp2_with (go_at_call 71; refine (appInt_anyS S _ u hu _ _ _ HM2.out hs2 (by omega) HE2.out.tab).mono ?_; rintro e w3 ⟨v3, rfl, hm3, hk3⟩; refine Hid.out ?_)
   refine Lib.hid ?_
   have HK3 := Lib.hid (HK2.out.trans hk3 (fun _ e => Or.inl e))
   have HM3 : Hid (MineS w3 S v3 (n + (words ++ numsL (ns.take (k + 1))).length) (xs ++ Lib.byteCells (words ++ numsL (ns.take (k + 1))))) := Lib.hid (by
    rw [HT.out, List.length_append, byteCells_app, byteCells_app, ← List.append_assoc, ← List.append_assoc, List.length_append, ← Nat.add_assoc, ← Nat.add_assoc]
    have e := hm3
    rw [← List.append_assoc xs] at e
    exact e)
   obtain ⟨q3, c3, rfl⟩ := hm3.slice
   clear hm3 hk3
   go_wp2
   go_roundw
   case rel => exact ⟨k + 1, by omega, by go_num, HM3, HK3⟩
   case measure => simp [intOf]; omega
  ·obtain rfl : k = ns.length := by omega
   have HT : Hid (lineL words ns = (words ++ numsL (ns.take ns.length)) ++ [10]) := Lib.hid (by rw [List.take_length]; rfl)
   generalize words ++ numsL (ns.take ns.length) = T at *
   have hB : ∀ o, Below wr.heap.size wr (wr.alloc o) := fun o => (Below.refl _ _).alloc (Nat.le_refl _) o
   have hSr : ∀ k, wr.heap.size ≤ k → S k := fun k e => HS.out k (Nat.le_trans HK.out.size e)
   go_wp2_with (at_builtin; refine wpList_append_mineS rfl _ _ 123 123 rfl 5 i0 Tryz.underlying123 hi hz0 hz1 hz2 S _ _ _ rfl (HM.out.on (hB _)) _ rfl 1 [.int .u8 10] (Src.ofSlice _ Tryz.underlying123 ⟨wr.heap.size, 0, none⟩ 1 1 _ rfl (by intro j u' hj; match j, hj with | 0, hj => simp at hj; subst hj; simp [Addr.add]) (by intro u' hu'; simp at hu'; subst hu'; rfl)) (fun k e => hSr k (by simp at e; omega)) (by omega) (by omega) ?_)
   intro v2 w2 hown2 hk2
   have HK2 : Hid (Kept S w w2) := Lib.hid ((HK.out.trans (Kept.of_below (S := S) (hB _)) (fun _ e => Or.inl e)).trans hk2 (fun _ e => Or.inl e))
   have HM2 := Lib.hid hown2
   clear hown2 hk2 hB
   go_wp2
   go_ret
   refine ⟨v2, rfl, ?_, HK2.out⟩
   rw [HT.out, List.length_append, byteCells_app, ← List.append_assoc, ← Nat.add_assoc]
   have e := HM2.out
   rw [← List.append_assoc xs] at e
   exact e

end Go.Proofs.YtpcgnadfldimhaaGreatDoor
namespace Go.Proofs.YtpcgnadfldimhaaGreatDoor
open Go.RowKit

/-- appendLine at numbers that were just laid. -/
theorem appendLine_new (a : Addr) (m : Int) (w0 w W : World) (hE : Env a m w0) (h0 : Below w0.heap.size w0 w) (hb : Below w.heap.size w W) (S : Nat → Prop) (hS : ∀ k, w.heap.size ≤ k → S k) (hS0 : ∀ k, S k → w0.heap.size ≤ k) (n : Nat) (sv : Value) (xs : List Value) (hown : MineS w S sv n xs) (words : List UInt8) (hw : 0 < words.length) (hw2 : words.length ≤ 30) (p : Option Addr) (cap : Nat) (ns : List Int) (hns : NumsAt W p ns) (hnew : ∀ b off, p = some ⟨b, off, none⟩ → w.heap.size ≤ b ∧ b < W.heap.size) (hok : ∀ x ∈ ns, NumOk x) (hlen : ns.length ≤ 4) (hn : n ≤ 90000000000000) :
  Calls Tryz.prog 64 #[sv, .string ⟨words.toArray⟩, .slice p ns.length cap] W fun e w' => ∃ p' c', e = .returned (.slice p' (n + (lineL words ns).length) c') ∧ MineS w' S (.slice p' (n + (lineL words ns).length) c') (n + (lineL words ns).length) (xs ++ Lib.byteCells (lineL words ns)) ∧ Kept S w w' ∧ (∀ k, w.heap.size ≤ k → k < W.heap.size → w'.heap[k]? = W.heap[k]?) := by
 have hT : ∀ k, (S k ∧ ¬ (w.heap.size ≤ k ∧ k < W.heap.size)) → S k := fun k e => e.1
 have hs := hb.size
 refine (appendLine_any a m w0 W hE (h0.trans (hb.mono h0.size)) (fun k => S k ∧ ¬ (w.heap.size ≤ k ∧ k < W.heap.size)) (fun k e => ⟨hS k (by omega), by omega⟩) (fun k e => hS0 k e.1) n sv xs ((hown.on hb).mono (fun k e1 e2 => ⟨e2, by have := (hown.lt k e1).2; omega⟩)) words hw hw2 p cap ns hns (fun b off hp e => e.2 (hnew b off hp)) hok hlen hn).mono ?_
 rintro e w' ⟨v', rfl, hm, hk⟩
 obtain ⟨p', c', rfl⟩ := hm.slice
 exact ⟨p', c', rfl, hm.mono (fun k _ e => e.1), (Kept.of_below (S := S) hb).trans (hk.mono hT) (fun _ e => Or.inl e), fun k h1 h2 => hk.block k h2 (fun e => e.2 ⟨h1, h2⟩)⟩

theorem numsAt_none (w : World) : NumsAt w none [] := fun i n h => by simp at h

theorem numsAt_new (X : World) (cs : Array Value) (t : TypeId) (ns : List Int) (hcs : cs.toList = ns.map (Value.int .i64)) (b : Nat) (hb : X.heap.size = b) : NumsAt (X.alloc (.cells cs t)) (some ⟨b, 0, none⟩) ns := fun i x hx => by
 refine ⟨b, 0, rfl, ?_⟩
 have := news_at X cs t b hb i (.int .i64 x) (by rw [hcs, List.getElem?_map, hx]; rfl)
 rw [Addr.add_lit] at this
 exact this

set_option maxHeartbeats 4000000 in
set_option maxRecDepth 100000 in
theorem appendEvent_any (a : Addr) (m : Int) (w0 w : World) (hE : Env a m w0) (h0 : Below w0.heap.size w0 w) (S : Nat → Prop) (hS : ∀ k, w.heap.size ≤ k → S k) (hS0 : ∀ k, S k → w0.heap.size ≤ k) (n : Nat) (sv : Value) (xs : List Value) (hown : MineS w S sv n xs) (e : Ev) (hok : e.okT) (hn : n ≤ 90000000000000) :
  Calls Tryz.prog 66 #[sv, .agg #[.int .i64 e.kind, .int .i64 e.id, .int .i64 e.time, .int .i64 e.dest]] w fun r w' => ∃ p' c', r = .returned (.slice p' (n + (evL e).length) c') ∧ MineS w' S (.slice p' (n + (evL e).length) c') (n + (evL e).length) (xs ++ Lib.byteCells (evL e)) ∧ Kept S w w' := by
 obtain ⟨kd, id, tm, de⟩ := e
 obtain ⟨o1, o2, o3⟩ := hok
 simp only at o1 o2 o3
 have HA := Lib.hid (fun W hb => appendLine_new a m w0 w W hE h0 hb S hS hS0 n sv xs hown)
 obtain ⟨ps, cs, rfl⟩ := hown.slice
 clear hE h0 hS hS0 hown
 simp only [evL]
 by_cases h1 : kd = 1
 ·subst h1
  rw [if_pos rfl]
  go_enter Tryz.func66, Tryz.ntmps66
  go_wp2_with (go_at_call 64; refine (HA.out _ (((Below.refl _ _).alloc (Nat.le_refl _) _).alloc (by simp) _) [83, 84, 65, 82, 84] (by decide) (by decide) (some ⟨w.heap.size + 1, 0, none⟩) 2 [id, tm] (numsAt_new _ _ _ _ rfl _ (by simp)) (fun b off hp => by simp at hp; simp; omega) (by intro x hx; simp at hx; rcases hx with rfl | rfl <;> assumption) (by simp) hn).mono ?_; rintro r w1 ⟨p', c', rfl, hm, hk, _⟩; refine Hid.out ?_)
  refine Lib.hid ?_
  have HM := Lib.hid hm
  have HK := Lib.hid hk
  clear hm hk
  go_wp2
  go_ret
  exact ⟨p', c', rfl, HM.out, HK.out⟩
 rw [if_neg h1]
 by_cases h2 : kd = 2
 ·subst h2
  rw [if_pos rfl]
  go_enter Tryz.func66, Tryz.ntmps66
  go_wp2_with (go_at_call 64; refine (HA.out _ (((Below.refl _ _).alloc (Nat.le_refl _) _).alloc (by simp) _) [69, 78, 68] (by decide) (by decide) (some ⟨w.heap.size + 1, 0, none⟩) 2 [id, tm] (numsAt_new _ _ _ _ rfl _ (by simp)) (fun b off hp => by simp at hp; simp; omega) (by intro x hx; simp at hx; rcases hx with rfl | rfl <;> assumption) (by simp) hn).mono ?_; rintro r w1 ⟨p', c', rfl, hm, hk, _⟩; refine Hid.out ?_)
  refine Lib.hid ?_
  have HM := Lib.hid hm
  have HK := Lib.hid hk
  clear hm hk
  go_wp2
  go_ret
  exact ⟨p', c', rfl, HM.out, HK.out⟩
 ·rw [if_neg h2]
  go_enter Tryz.func66, Tryz.ntmps66
  go_wp2_with (go_at_call 64; refine (HA.out _ (((Below.refl _ _).alloc (Nat.le_refl _) _).alloc (by simp) _) [77, 79, 86, 69, 68] (by decide) (by decide) (some ⟨w.heap.size + 1, 0, none⟩) 3 [id, tm, de] (numsAt_new _ _ _ _ rfl _ (by simp)) (fun b off hp => by simp at hp; simp; omega) (by intro x hx; simp at hx; rcases hx with rfl | rfl | rfl <;> assumption) (by simp) hn).mono ?_; rintro r w1 ⟨p', c', rfl, hm, hk, _⟩; refine Hid.out ?_)
  refine Lib.hid ?_
  have HM := Lib.hid hm
  have HK := Lib.hid hk
  clear hm hk
  go_wp2
  go_ret
  exact ⟨p', c', rfl, HM.out, HK.out⟩

end Go.Proofs.YtpcgnadfldimhaaGreatDoor
namespace Go.Proofs.YtpcgnadfldimhaaGreatDoor
open Go.RowKit

/-- The names of errors and of phases, as they are laid. -/
def errCells : List Value := [.string ⟨#[]⟩, .string ⟨#[65, 82, 71]⟩, .string ⟨#[87, 73, 68, 84, 72]⟩, .string ⟨#[87, 65, 76, 76]⟩, .string ⟨#[70, 85, 76, 76]⟩, .string ⟨#[74, 79, 66]⟩, .string ⟨#[80, 72, 65, 83, 69]⟩, .string ⟨#[84, 73, 77, 69]⟩]
def phaseCells : List Value := [.string ⟨#[]⟩, .string ⟨#[81, 85, 69, 85, 69, 68]⟩, .string ⟨#[82, 85, 78, 78, 73, 78, 71]⟩, .string ⟨#[70, 73, 78, 73, 83, 72, 69, 68]⟩, .string ⟨#[84, 73, 77, 69, 68, 79, 85, 84]⟩, .string ⟨#[67, 65, 78, 67, 69, 76, 76, 69, 68]⟩]
structure NamesE (w : World) : Prop where
 errs : ∀ j v, errCells[j]? = some v → w.cell? ⟨5, j, none⟩ = some v
 phases : ∀ j v, phaseCells[j]? = some v → w.cell? ⟨7, j, none⟩ = some v
 size : 17 ≤ w.heap.size
theorem NamesE.on {w w' : World} (h : NamesE w) (hb : Below w.heap.size w w') : NamesE w' :=
 ⟨fun j v e => (hb.cell (p := ⟨5, j, none⟩) (by have := h.size; simp; omega)).trans (h.errs j v e), fun j v e => (hb.cell (p := ⟨7, j, none⟩) (by have := h.size; simp; omega)).trans (h.phases j v e), Nat.le_trans h.size hb.size⟩
theorem err_at {w : World} (h : NamesE w) (j : Nat) (h1 : 1 ≤ j) (h5 : j ≤ 7) : w.cell? ⟨5, j, none⟩ = some (.string ⟨(errW j).toArray⟩) := by
 refine h.errs j _ ?_
 match j, h1, h5 with
 | 1, _, _ => rfl
 | 2, _, _ => rfl
 | 3, _, _ => rfl
 | 4, _, _ => rfl
 | 5, _, _ => rfl
 | 6, _, _ => rfl
 | 7, _, _ => rfl

theorem NumsAt.drewN {w : World} {p : Option Addr} {ns : List Int} {n : Nat} (h : NumsAt w p ns) : NumsAt (w.drewN n) p ns := fun i x hx => by
 obtain ⟨b, off, e, hc⟩ := h i x hx
 exact ⟨b, off, e, by rw [World.cell?_drewN]; exact hc⟩

/-- What appendFirst leaves. -/
def FirstQ (S : Nat → Prop) (w : World) (t : List UInt8) (r : Ending) (w' : World) : Prop :=
 ∃ p' c', r = .returned (.slice p' t.length c') ∧ MineS w' S (.slice p' t.length c') t.length (Lib.byteCells t) ∧ Kept S w w'

/-- appendLine onto nothing. -/
theorem appendLine_0 (a : Addr) (m : Int) (w0 w : World) (hE : Env a m w0) (h0 : Below w0.heap.size w0 w) (S : Nat → Prop) (hS : ∀ k, w.heap.size ≤ k → S k) (hS0 : ∀ k, S k → w0.heap.size ≤ k) (words : List UInt8) (hw : 0 < words.length) (hw2 : words.length ≤ 30) (p : Option Addr) (cap : Nat) (ns : List Int) (hok : ∀ x ∈ ns, NumOk x) (hlen : ns.length ≤ 4) (W : World) (hb : Below w.heap.size w W) (hns : NumsAt W p ns) (hnew : ∀ b off, p = some ⟨b, off, none⟩ → w.heap.size ≤ b ∧ b < W.heap.size) :
  Calls Tryz.prog 64 #[.slice none 0 0, .string ⟨words.toArray⟩, .slice p ns.length cap] W (FirstQ S w (lineL words ns)) := by
 refine (appendLine_new a m w0 w W hE h0 hb S hS hS0 0 (.slice none 0 0) [] (MineS.nil w S) words hw hw2 p cap ns hns hnew hok hlen (by omega)).mono ?_
 rintro e w' ⟨p', c', rfl, hm, hk, _⟩
 rw [Nat.zero_add, List.nil_append] at hm
 exact ⟨p', c', by rw [Nat.zero_add], hm, hk⟩

theorem appendLine_0K (a : Addr) (m : Int) (w0 w : World) (hE : Env a m w0) (h0 : Below w0.heap.size w0 w) (S : Nat → Prop) (hS : ∀ k, w.heap.size ≤ k → S k) (hS0 : ∀ k, S k → w0.heap.size ≤ k) (words : List UInt8) (hw : 0 < words.length) (hw2 : words.length ≤ 30) (p : Option Addr) (cap : Nat) (ns : List Int) (hok : ∀ x ∈ ns, NumOk x) (hlen : ns.length ≤ 4) (W : World) (hb : Below w.heap.size w W) (hns : NumsAt W p ns) (hnew : ∀ b off, p = some ⟨b, off, none⟩ → w.heap.size ≤ b ∧ b < W.heap.size) :
  Calls Tryz.prog 64 #[.slice none 0 0, .string ⟨words.toArray⟩, .slice p ns.length cap] W fun r w' => FirstQ S w (lineL words ns) r w' ∧ ∀ k, w.heap.size ≤ k → k < W.heap.size → w'.heap[k]? = W.heap[k]? := by
 refine (appendLine_new a m w0 w W hE h0 hb S hS hS0 0 (.slice none 0 0) [] (MineS.nil w S) words hw hw2 p cap ns hns hnew hok hlen (by omega)).mono ?_
 rintro e w' ⟨p', c', rfl, hm, hk, hn⟩
 rw [Nat.zero_add, List.nil_append] at hm
 exact ⟨⟨p', c', by rw [Nat.zero_add], hm, hk⟩, hn⟩

theorem cat_bytes (l m : List UInt8) : (⟨l.toArray⟩ : ByteArray) ++ (⟨m.toArray⟩ : ByteArray) = ⟨(l ++ m).toArray⟩ := by
 apply ByteArray.ext
 rw [ByteArray.data_append]
 simp

set_option maxHeartbeats 4000000 in
set_option maxRecDepth 100000 in
theorem appendFirst_plain (a : Addr) (m : Int) (w0 w : World) (hE : Env a m w0) (h0 : Below w0.heap.size w0 w) (S : Nat → Prop) (hS : ∀ k, w.heap.size ≤ k → S k) (hS0 : ∀ k, S k → w0.heap.size ≤ k) (kind : Int) (hk5 : kind ≠ 5) (o : Out) (hok : OutOk o) (p1 : Option Addr) (c1 : Nat) (p2 : Option Addr) (n2 c2 : Nat) (hr : o.rows.length ≤ 1000000000) :
  Calls Tryz.prog 65 #[.slice none 0 0, .int .i64 kind, .agg #[.int .i64 o.err, .int .i64 o.a, .int .i64 o.b, .int .i64 o.c, .slice p1 o.rows.length c1, .slice p2 n2 c2]] w (FirstQ S w (firstL kind o)) := by
 have HA := Lib.hid (appendLine_0 a m w0 w hE h0 S hS hS0 [79, 75] (by decide) (by decide))
 have ha0 := hok.a
 have hb0 := hok.b
 have hc0 := hok.c
 have hn0 : NumOk (o.rows.length : Int) := by unfold NumOk; omega
 obtain ⟨er, oa, ob, oc, rs, es, nw, L⟩ := o
 simp only at ha0 hb0 hc0 hr hn0
 clear hE h0 hS hS0 hok
 simp only [firstL, if_neg hk5, okW]
 by_cases h1 : kind = 1
 ·subst h1
  rw [if_pos rfl]
  go_enter Tryz.func65, Tryz.ntmps65
  go_wp2_with (go_at_call 64; refine (HA.out (some ⟨w.heap.size + 1, 0, none⟩) 2 [oa, ob] (by intro x hx; simp at hx; rcases hx with rfl | rfl <;> assumption) (by simp) _ (((Below.refl _ _).alloc (Nat.le_refl _) _).alloc (by simp) _) (numsAt_new _ _ _ _ rfl _ (by simp)) (fun b off hp => by simp at hp; simp; omega)).mono ?_; rintro r w1 ⟨p', c', rfl, hm, hk⟩; refine Hid.out ?_)
  refine Lib.hid ?_
  have HM := Lib.hid hm
  have HK := Lib.hid hk
  clear hm hk
  go_wp2
  go_ret
  exact ⟨p', c', rfl, HM.out, HK.out⟩
 rw [if_neg h1]
 by_cases h6 : kind = 6
 ·subst h6
  rw [if_pos rfl]
  go_enter Tryz.func65, Tryz.ntmps65
  go_wp2_with (go_at_call 64; refine (HA.out (some ⟨w.heap.size + 1, 0, none⟩) 1 [(rs.length : Int)] (by intro x hx; simp at hx; subst hx; assumption) (by simp) _ (((Below.refl _ _).alloc (Nat.le_refl _) _).alloc (by simp) _) (numsAt_new _ _ _ _ rfl _ (by simp)) (fun b off hp => by simp at hp; simp; omega)).mono ?_; rintro r w1 ⟨p', c', rfl, hm, hk⟩; refine Hid.out ?_)
  refine Lib.hid ?_
  have HM := Lib.hid hm
  have HK := Lib.hid hk
  clear hm hk
  go_wp2
  go_ret
  exact ⟨p', c', rfl, HM.out, HK.out⟩
 rw [if_neg h6]
 by_cases h7 : kind = 7
 ·subst h7
  rw [if_pos rfl]
  go_enter Tryz.func65, Tryz.ntmps65
  go_wp2_with (go_at_call 64; refine (HA.out (some ⟨w.heap.size + 1, 0, none⟩) 3 [oa, ob, oc] (by intro x hx; simp at hx; rcases hx with rfl | rfl | rfl <;> assumption) (by simp) _ (((Below.refl _ _).alloc (Nat.le_refl _) _).alloc (by simp) _) (numsAt_new _ _ _ _ rfl _ (by simp)) (fun b off hp => by simp at hp; simp; omega)).mono ?_; rintro r w1 ⟨p', c', rfl, hm, hk⟩; refine Hid.out ?_)
  refine Lib.hid ?_
  have HM := Lib.hid hm
  have HK := Lib.hid hk
  clear hm hk
  go_wp2
  go_ret
  exact ⟨p', c', rfl, HM.out, HK.out⟩
 ·rw [if_neg h7]
  go_enter Tryz.func65, Tryz.ntmps65
  go_wp2_with (go_at_call 64; refine (HA.out none 0 [] (by intro x hx; simp at hx) (by simp) _ ((Below.refl _ _).alloc (Nat.le_refl _) _) (numsAt_none _) (fun b off hp => by simp at hp)).mono ?_; rintro r w1 ⟨p', c', rfl, hm, hk⟩; refine Hid.out ?_)
  refine Lib.hid ?_
  have HM := Lib.hid hm
  have HK := Lib.hid hk
  clear hm hk
  go_wp2
  go_ret
  exact ⟨p', c', rfl, HM.out, HK.out⟩

end Go.Proofs.YtpcgnadfldimhaaGreatDoor
namespace Go.Proofs.YtpcgnadfldimhaaGreatDoor
open Go.RowKit

set_option maxHeartbeats 4000000 in
set_option maxRecDepth 100000 in
theorem appendFirst_stat1 (a : Addr) (m : Int) (w0 w : World) (hE : Env a m w0) (hNm : NamesE w0) (h0 : Below w0.heap.size w0 w) (S : Nat → Prop) (hS : ∀ k, w.heap.size ≤ k → S k) (hS0 : ∀ k, S k → w0.heap.size ≤ k) (er ob oc : Int) (hb0 : NumOk ob) (hc0 : NumOk oc) (p1 : Option Addr) (n1 c1 : Nat) (p2 : Option Addr) (n2 c2 : Nat) :
  Calls Tryz.prog 65 #[.slice none 0 0, .int .i64 5, .agg #[.int .i64 er, .int .i64 1, .int .i64 ob, .int .i64 oc, .slice p1 n1 c1, .slice p2 n2 c2]] w (FirstQ S w (lineL (okW ++ 32 :: phaseW 1) [ob, oc])) := by
 have hN := hNm.on h0
 have f1 := hN.phases 1 _ rfl
 have hz := hN.size
 have hz2 : 7 < w.heap.size := by omega
 have hnS : ¬ S 7 := fun e => by have h1 := hS0 _ e; have h2 := hNm.size; omega
 have HA := Lib.hid (appendLine_0K a m w0 w hE h0 S hS hS0 [79, 75, 32, 81, 85, 69, 85, 69, 68] (by decide) (by decide))
 have hT : lineL [79, 75, 32, 81, 85, 69, 85, 69, 68] [ob, oc] = lineL (okW ++ 32 :: phaseW 1) [ob, oc] := rfl
 have hcat : (⟨#[79, 75, 32]⟩ : ByteArray) ++ (⟨#[81, 85, 69, 85, 69, 68]⟩ : ByteArray) = ⟨[79, 75, 32, 81, 85, 69, 85, 69, 68].toArray⟩ := cat_bytes [79, 75, 32] [81, 85, 69, 85, 69, 68]
 generalize lineL (okW ++ 32 :: phaseW 1) [ob, oc] = T at *
 clear hE h0 hS hS0 hNm hN
 go_enter Tryz.func65, Tryz.ntmps65
 go_wp2_with fail
 have hx1 := heap_alloc_new w (.cells #[.int .i64 er, .int .i64 1, .int .i64 ob, .int .i64 oc, .slice p1 n1 c1, .slice p2 n2 c2] 34)
 have hB0 : Below w.heap.size w (w.alloc (.cells #[.int .i64 er, .int .i64 1, .int .i64 ob, .int .i64 oc, .slice p1 n1 c1, .slice p2 n2 c2] 34)) := (Below.refl _ _).alloc (Nat.le_refl _) _
 have hsz1 : (w.alloc (.cells #[.int .i64 er, .int .i64 1, .int .i64 ob, .int .i64 oc, .slice p1 n1 c1, .slice p2 n2 c2] 34)).heap.size = w.heap.size + 1 := by simp
 generalize w.alloc (.cells #[.int .i64 er, .int .i64 1, .int .i64 ob, .int .i64 oc, .slice p1 n1 c1, .slice p2 n2 c2] 34) = W1 at *
 have x1 := cell_of_row _ _ 1 _ _ (0, 0) hx1
 have x2 := cell_of_row _ _ 2 _ _ (0, 0) hx1
 have x3 := cell_of_row _ _ 3 _ _ (0, 0) hx1
 have f0 := (hB0.cell (p := ⟨7, 1, none⟩) hz2).trans f1
 simp at x1 x2 x3
 have hGl : 7 < W1.heap.size := by omega
 have hwl : w.heap.size < W1.heap.size := by omega
 have HA2 : Hid (∀ W, Below W1.heap.size W1 W → NumsAt W (some ⟨w.heap.size + 1, 0, none⟩) [ob, oc] → w.heap.size + 1 < W.heap.size → Calls Tryz.prog 64 #[.slice none 0 0, .string ((⟨#[79, 75, 32]⟩ : ByteArray) ++ (⟨#[81, 85, 69, 85, 69, 68]⟩ : ByteArray)), .slice (some ⟨w.heap.size + 1, 0, none⟩) 2 2] W fun r w' => ∃ p' c', r = .returned (.slice p' T.length c') ∧ w'.cell? ⟨w.heap.size, 1, none⟩ = some (.int .i64 1) ∧ w'.cell? ⟨w.heap.size, 2, none⟩ = some (.int .i64 ob) ∧ w'.cell? ⟨w.heap.size, 3, none⟩ = some (.int .i64 oc) ∧ w'.cell? ⟨7, 1, none⟩ = some (.string ⟨#[81, 85, 69, 85, 69, 68]⟩) ∧ Hid (MineS w' S (.slice p' T.length c') T.length (Lib.byteCells T)) ∧ Hid (Kept S w w')) := Lib.hid (fun W hW hns hlt => by
  rw [hcat]
  refine (HA.out (some ⟨w.heap.size + 1, 0, none⟩) 2 [ob, oc] (by intro x hx; simp at hx; rcases hx with rfl | rfl <;> assumption) (by simp) W (hB0.trans (hW.mono hB0.size)) hns (fun b off hp => by simp at hp; omega)).mono ?_
  rintro e w3 ⟨⟨p', c', rfl, hm, hk⟩, hn⟩
  rw [hT] at hm ⊢
  have hx3 := (hn w.heap.size (Nat.le_refl _) (by omega)).trans ((hW.block _ hwl).trans hx1)
  have z1 := cell_of_row _ _ 1 _ _ (0, 0) hx3
  have z2 := cell_of_row _ _ 2 _ _ (0, 0) hx3
  have z3 := cell_of_row _ _ 3 _ _ (0, 0) hx3
  simp at z1 z2 z3
  exact ⟨p', c', rfl, z1, z2, z3, (World.cell?_of_block (a := ⟨7, 1, none⟩) (hk.block _ hz2 hnS)).trans f1, Lib.hid hm, Lib.hid hk⟩)
 clear HA hx1 hB0 f1 hcat
 go_region_held3 (fun w' => w'.cell? ⟨w.heap.size, 1, none⟩ = some (.int .i64 1) ∧ w'.cell? ⟨w.heap.size, 2, none⟩ = some (.int .i64 ob) ∧ w'.cell? ⟨w.heap.size, 3, none⟩ = some (.int .i64 oc) ∧ w'.cell? ⟨7, 1, none⟩ = some (.string ⟨#[81, 85, 69, 85, 69, 68]⟩)) (go_keep) (first | (go_at_call 64; refine (HA2.out _ (by repeat (first | exact Below.refl _ _ | refine Below.drew ?_ | refine below_drewN ?_ _ | refine Below.alloc ?_ (by simp) _)) (by repeat (first | exact numsAt_new _ _ _ _ rfl _ hsz1 | refine NumsAt.drewN ?_ | refine NumsAt.drewN (n := 1) ?_)) (by simp; omega)).mono ?_; rintro e w3 ⟨p', c', rfl, z1, z2, z3, z4, HM, HK⟩))
 all_goals go_wp2
 all_goals go_ret
 all_goals exact ⟨p', c', rfl, HM.out, HK.out⟩

set_option maxHeartbeats 4000000 in
set_option maxRecDepth 100000 in
theorem appendFirst_stat2 (a : Addr) (m : Int) (w0 w : World) (hE : Env a m w0) (hNm : NamesE w0) (h0 : Below w0.heap.size w0 w) (S : Nat → Prop) (hS : ∀ k, w.heap.size ≤ k → S k) (hS0 : ∀ k, S k → w0.heap.size ≤ k) (er ob oc : Int) (hb0 : NumOk ob) (hc0 : NumOk oc) (p1 : Option Addr) (n1 c1 : Nat) (p2 : Option Addr) (n2 c2 : Nat) :
  Calls Tryz.prog 65 #[.slice none 0 0, .int .i64 5, .agg #[.int .i64 er, .int .i64 2, .int .i64 ob, .int .i64 oc, .slice p1 n1 c1, .slice p2 n2 c2]] w (FirstQ S w (lineL (okW ++ 32 :: phaseW 2) [ob, oc])) := by
 have hN := hNm.on h0
 have f1 := hN.phases 2 _ rfl
 have hz := hN.size
 have hz2 : 7 < w.heap.size := by omega
 have hnS : ¬ S 7 := fun e => by have h1 := hS0 _ e; have h2 := hNm.size; omega
 have HA := Lib.hid (appendLine_0K a m w0 w hE h0 S hS hS0 [79, 75, 32, 82, 85, 78, 78, 73, 78, 71] (by decide) (by decide))
 have hT : lineL [79, 75, 32, 82, 85, 78, 78, 73, 78, 71] [ob, oc] = lineL (okW ++ 32 :: phaseW 2) [ob, oc] := rfl
 have hcat : (⟨#[79, 75, 32]⟩ : ByteArray) ++ (⟨#[82, 85, 78, 78, 73, 78, 71]⟩ : ByteArray) = ⟨[79, 75, 32, 82, 85, 78, 78, 73, 78, 71].toArray⟩ := cat_bytes [79, 75, 32] [82, 85, 78, 78, 73, 78, 71]
 generalize lineL (okW ++ 32 :: phaseW 2) [ob, oc] = T at *
 clear hE h0 hS hS0 hNm hN
 go_enter Tryz.func65, Tryz.ntmps65
 go_wp2_with fail
 have hx1 := heap_alloc_new w (.cells #[.int .i64 er, .int .i64 2, .int .i64 ob, .int .i64 oc, .slice p1 n1 c1, .slice p2 n2 c2] 34)
 have hB0 : Below w.heap.size w (w.alloc (.cells #[.int .i64 er, .int .i64 2, .int .i64 ob, .int .i64 oc, .slice p1 n1 c1, .slice p2 n2 c2] 34)) := (Below.refl _ _).alloc (Nat.le_refl _) _
 have hsz1 : (w.alloc (.cells #[.int .i64 er, .int .i64 2, .int .i64 ob, .int .i64 oc, .slice p1 n1 c1, .slice p2 n2 c2] 34)).heap.size = w.heap.size + 1 := by simp
 generalize w.alloc (.cells #[.int .i64 er, .int .i64 2, .int .i64 ob, .int .i64 oc, .slice p1 n1 c1, .slice p2 n2 c2] 34) = W1 at *
 have x1 := cell_of_row _ _ 1 _ _ (0, 0) hx1
 have x2 := cell_of_row _ _ 2 _ _ (0, 0) hx1
 have x3 := cell_of_row _ _ 3 _ _ (0, 0) hx1
 have f0 := (hB0.cell (p := ⟨7, 2, none⟩) hz2).trans f1
 simp at x1 x2 x3
 have hGl : 7 < W1.heap.size := by omega
 have hwl : w.heap.size < W1.heap.size := by omega
 have HA2 : Hid (∀ W, Below W1.heap.size W1 W → NumsAt W (some ⟨w.heap.size + 1, 0, none⟩) [ob, oc] → w.heap.size + 1 < W.heap.size → Calls Tryz.prog 64 #[.slice none 0 0, .string ((⟨#[79, 75, 32]⟩ : ByteArray) ++ (⟨#[82, 85, 78, 78, 73, 78, 71]⟩ : ByteArray)), .slice (some ⟨w.heap.size + 1, 0, none⟩) 2 2] W fun r w' => ∃ p' c', r = .returned (.slice p' T.length c') ∧ w'.cell? ⟨w.heap.size, 1, none⟩ = some (.int .i64 2) ∧ w'.cell? ⟨w.heap.size, 2, none⟩ = some (.int .i64 ob) ∧ w'.cell? ⟨w.heap.size, 3, none⟩ = some (.int .i64 oc) ∧ w'.cell? ⟨7, 2, none⟩ = some (.string ⟨#[82, 85, 78, 78, 73, 78, 71]⟩) ∧ Hid (MineS w' S (.slice p' T.length c') T.length (Lib.byteCells T)) ∧ Hid (Kept S w w')) := Lib.hid (fun W hW hns hlt => by
  rw [hcat]
  refine (HA.out (some ⟨w.heap.size + 1, 0, none⟩) 2 [ob, oc] (by intro x hx; simp at hx; rcases hx with rfl | rfl <;> assumption) (by simp) W (hB0.trans (hW.mono hB0.size)) hns (fun b off hp => by simp at hp; omega)).mono ?_
  rintro e w3 ⟨⟨p', c', rfl, hm, hk⟩, hn⟩
  rw [hT] at hm ⊢
  have hx3 := (hn w.heap.size (Nat.le_refl _) (by omega)).trans ((hW.block _ hwl).trans hx1)
  have z1 := cell_of_row _ _ 1 _ _ (0, 0) hx3
  have z2 := cell_of_row _ _ 2 _ _ (0, 0) hx3
  have z3 := cell_of_row _ _ 3 _ _ (0, 0) hx3
  simp at z1 z2 z3
  exact ⟨p', c', rfl, z1, z2, z3, (World.cell?_of_block (a := ⟨7, 2, none⟩) (hk.block _ hz2 hnS)).trans f1, Lib.hid hm, Lib.hid hk⟩)
 clear HA hx1 hB0 f1 hcat
 go_region_held3 (fun w' => w'.cell? ⟨w.heap.size, 1, none⟩ = some (.int .i64 2) ∧ w'.cell? ⟨w.heap.size, 2, none⟩ = some (.int .i64 ob) ∧ w'.cell? ⟨w.heap.size, 3, none⟩ = some (.int .i64 oc) ∧ w'.cell? ⟨7, 2, none⟩ = some (.string ⟨#[82, 85, 78, 78, 73, 78, 71]⟩)) (go_keep) (first | (go_at_call 64; refine (HA2.out _ (by repeat (first | exact Below.refl _ _ | refine Below.drew ?_ | refine below_drewN ?_ _ | refine Below.alloc ?_ (by simp) _)) (by repeat (first | exact numsAt_new _ _ _ _ rfl _ hsz1 | refine NumsAt.drewN ?_ | refine NumsAt.drewN (n := 1) ?_)) (by simp; omega)).mono ?_; rintro e w3 ⟨p', c', rfl, z1, z2, z3, z4, HM, HK⟩))
 all_goals go_wp2
 all_goals go_ret
 all_goals exact ⟨p', c', rfl, HM.out, HK.out⟩

set_option maxHeartbeats 4000000 in
set_option maxRecDepth 100000 in
theorem appendFirst_stat3 (a : Addr) (m : Int) (w0 w : World) (hE : Env a m w0) (hNm : NamesE w0) (h0 : Below w0.heap.size w0 w) (S : Nat → Prop) (hS : ∀ k, w.heap.size ≤ k → S k) (hS0 : ∀ k, S k → w0.heap.size ≤ k) (er ob oc : Int) (hb0 : NumOk ob) (hc0 : NumOk oc) (p1 : Option Addr) (n1 c1 : Nat) (p2 : Option Addr) (n2 c2 : Nat) :
  Calls Tryz.prog 65 #[.slice none 0 0, .int .i64 5, .agg #[.int .i64 er, .int .i64 3, .int .i64 ob, .int .i64 oc, .slice p1 n1 c1, .slice p2 n2 c2]] w (FirstQ S w (lineL (okW ++ 32 :: phaseW 3) [ob, oc])) := by
 have hN := hNm.on h0
 have f1 := hN.phases 3 _ rfl
 have hz := hN.size
 have hz2 : 7 < w.heap.size := by omega
 have hnS : ¬ S 7 := fun e => by have h1 := hS0 _ e; have h2 := hNm.size; omega
 have HA := Lib.hid (appendLine_0K a m w0 w hE h0 S hS hS0 [79, 75, 32, 70, 73, 78, 73, 83, 72, 69, 68] (by decide) (by decide))
 have hT : lineL [79, 75, 32, 70, 73, 78, 73, 83, 72, 69, 68] [ob, oc] = lineL (okW ++ 32 :: phaseW 3) [ob, oc] := rfl
 have hcat : (⟨#[79, 75, 32]⟩ : ByteArray) ++ (⟨#[70, 73, 78, 73, 83, 72, 69, 68]⟩ : ByteArray) = ⟨[79, 75, 32, 70, 73, 78, 73, 83, 72, 69, 68].toArray⟩ := cat_bytes [79, 75, 32] [70, 73, 78, 73, 83, 72, 69, 68]
 generalize lineL (okW ++ 32 :: phaseW 3) [ob, oc] = T at *
 clear hE h0 hS hS0 hNm hN
 go_enter Tryz.func65, Tryz.ntmps65
 go_wp2_with fail
 have hx1 := heap_alloc_new w (.cells #[.int .i64 er, .int .i64 3, .int .i64 ob, .int .i64 oc, .slice p1 n1 c1, .slice p2 n2 c2] 34)
 have hB0 : Below w.heap.size w (w.alloc (.cells #[.int .i64 er, .int .i64 3, .int .i64 ob, .int .i64 oc, .slice p1 n1 c1, .slice p2 n2 c2] 34)) := (Below.refl _ _).alloc (Nat.le_refl _) _
 have hsz1 : (w.alloc (.cells #[.int .i64 er, .int .i64 3, .int .i64 ob, .int .i64 oc, .slice p1 n1 c1, .slice p2 n2 c2] 34)).heap.size = w.heap.size + 1 := by simp
 generalize w.alloc (.cells #[.int .i64 er, .int .i64 3, .int .i64 ob, .int .i64 oc, .slice p1 n1 c1, .slice p2 n2 c2] 34) = W1 at *
 have x1 := cell_of_row _ _ 1 _ _ (0, 0) hx1
 have x2 := cell_of_row _ _ 2 _ _ (0, 0) hx1
 have x3 := cell_of_row _ _ 3 _ _ (0, 0) hx1
 have f0 := (hB0.cell (p := ⟨7, 3, none⟩) hz2).trans f1
 simp at x1 x2 x3
 have hGl : 7 < W1.heap.size := by omega
 have hwl : w.heap.size < W1.heap.size := by omega
 have HA2 : Hid (∀ W, Below W1.heap.size W1 W → NumsAt W (some ⟨w.heap.size + 1, 0, none⟩) [ob, oc] → w.heap.size + 1 < W.heap.size → Calls Tryz.prog 64 #[.slice none 0 0, .string ((⟨#[79, 75, 32]⟩ : ByteArray) ++ (⟨#[70, 73, 78, 73, 83, 72, 69, 68]⟩ : ByteArray)), .slice (some ⟨w.heap.size + 1, 0, none⟩) 2 2] W fun r w' => ∃ p' c', r = .returned (.slice p' T.length c') ∧ w'.cell? ⟨w.heap.size, 1, none⟩ = some (.int .i64 3) ∧ w'.cell? ⟨w.heap.size, 2, none⟩ = some (.int .i64 ob) ∧ w'.cell? ⟨w.heap.size, 3, none⟩ = some (.int .i64 oc) ∧ w'.cell? ⟨7, 3, none⟩ = some (.string ⟨#[70, 73, 78, 73, 83, 72, 69, 68]⟩) ∧ Hid (MineS w' S (.slice p' T.length c') T.length (Lib.byteCells T)) ∧ Hid (Kept S w w')) := Lib.hid (fun W hW hns hlt => by
  rw [hcat]
  refine (HA.out (some ⟨w.heap.size + 1, 0, none⟩) 2 [ob, oc] (by intro x hx; simp at hx; rcases hx with rfl | rfl <;> assumption) (by simp) W (hB0.trans (hW.mono hB0.size)) hns (fun b off hp => by simp at hp; omega)).mono ?_
  rintro e w3 ⟨⟨p', c', rfl, hm, hk⟩, hn⟩
  rw [hT] at hm ⊢
  have hx3 := (hn w.heap.size (Nat.le_refl _) (by omega)).trans ((hW.block _ hwl).trans hx1)
  have z1 := cell_of_row _ _ 1 _ _ (0, 0) hx3
  have z2 := cell_of_row _ _ 2 _ _ (0, 0) hx3
  have z3 := cell_of_row _ _ 3 _ _ (0, 0) hx3
  simp at z1 z2 z3
  exact ⟨p', c', rfl, z1, z2, z3, (World.cell?_of_block (a := ⟨7, 3, none⟩) (hk.block _ hz2 hnS)).trans f1, Lib.hid hm, Lib.hid hk⟩)
 clear HA hx1 hB0 f1 hcat
 go_region_held3 (fun w' => w'.cell? ⟨w.heap.size, 1, none⟩ = some (.int .i64 3) ∧ w'.cell? ⟨w.heap.size, 2, none⟩ = some (.int .i64 ob) ∧ w'.cell? ⟨w.heap.size, 3, none⟩ = some (.int .i64 oc) ∧ w'.cell? ⟨7, 3, none⟩ = some (.string ⟨#[70, 73, 78, 73, 83, 72, 69, 68]⟩)) (go_keep) (first | (go_at_call 64; refine (HA2.out _ (by repeat (first | exact Below.refl _ _ | refine Below.drew ?_ | refine below_drewN ?_ _ | refine Below.alloc ?_ (by simp) _)) (by repeat (first | exact numsAt_new _ _ _ _ rfl _ hsz1 | refine NumsAt.drewN ?_ | refine NumsAt.drewN (n := 1) ?_)) (by simp; omega)).mono ?_; rintro e w3 ⟨p', c', rfl, z1, z2, z3, z4, HM, HK⟩))
 all_goals go_wp2
 all_goals go_ret
 all_goals exact ⟨p', c', rfl, HM.out, HK.out⟩

set_option maxHeartbeats 4000000 in
set_option maxRecDepth 100000 in
theorem appendFirst_stat4 (a : Addr) (m : Int) (w0 w : World) (hE : Env a m w0) (hNm : NamesE w0) (h0 : Below w0.heap.size w0 w) (S : Nat → Prop) (hS : ∀ k, w.heap.size ≤ k → S k) (hS0 : ∀ k, S k → w0.heap.size ≤ k) (er ob oc : Int) (hb0 : NumOk ob) (hc0 : NumOk oc) (p1 : Option Addr) (n1 c1 : Nat) (p2 : Option Addr) (n2 c2 : Nat) :
  Calls Tryz.prog 65 #[.slice none 0 0, .int .i64 5, .agg #[.int .i64 er, .int .i64 4, .int .i64 ob, .int .i64 oc, .slice p1 n1 c1, .slice p2 n2 c2]] w (FirstQ S w (lineL (okW ++ 32 :: phaseW 4) [ob, oc])) := by
 have hN := hNm.on h0
 have f1 := hN.phases 4 _ rfl
 have hz := hN.size
 have hz2 : 7 < w.heap.size := by omega
 have hnS : ¬ S 7 := fun e => by have h1 := hS0 _ e; have h2 := hNm.size; omega
 have HA := Lib.hid (appendLine_0K a m w0 w hE h0 S hS hS0 [79, 75, 32, 84, 73, 77, 69, 68, 79, 85, 84] (by decide) (by decide))
 have hT : lineL [79, 75, 32, 84, 73, 77, 69, 68, 79, 85, 84] [ob, oc] = lineL (okW ++ 32 :: phaseW 4) [ob, oc] := rfl
 have hcat : (⟨#[79, 75, 32]⟩ : ByteArray) ++ (⟨#[84, 73, 77, 69, 68, 79, 85, 84]⟩ : ByteArray) = ⟨[79, 75, 32, 84, 73, 77, 69, 68, 79, 85, 84].toArray⟩ := cat_bytes [79, 75, 32] [84, 73, 77, 69, 68, 79, 85, 84]
 generalize lineL (okW ++ 32 :: phaseW 4) [ob, oc] = T at *
 clear hE h0 hS hS0 hNm hN
 go_enter Tryz.func65, Tryz.ntmps65
 go_wp2_with fail
 have hx1 := heap_alloc_new w (.cells #[.int .i64 er, .int .i64 4, .int .i64 ob, .int .i64 oc, .slice p1 n1 c1, .slice p2 n2 c2] 34)
 have hB0 : Below w.heap.size w (w.alloc (.cells #[.int .i64 er, .int .i64 4, .int .i64 ob, .int .i64 oc, .slice p1 n1 c1, .slice p2 n2 c2] 34)) := (Below.refl _ _).alloc (Nat.le_refl _) _
 have hsz1 : (w.alloc (.cells #[.int .i64 er, .int .i64 4, .int .i64 ob, .int .i64 oc, .slice p1 n1 c1, .slice p2 n2 c2] 34)).heap.size = w.heap.size + 1 := by simp
 generalize w.alloc (.cells #[.int .i64 er, .int .i64 4, .int .i64 ob, .int .i64 oc, .slice p1 n1 c1, .slice p2 n2 c2] 34) = W1 at *
 have x1 := cell_of_row _ _ 1 _ _ (0, 0) hx1
 have x2 := cell_of_row _ _ 2 _ _ (0, 0) hx1
 have x3 := cell_of_row _ _ 3 _ _ (0, 0) hx1
 have f0 := (hB0.cell (p := ⟨7, 4, none⟩) hz2).trans f1
 simp at x1 x2 x3
 have hGl : 7 < W1.heap.size := by omega
 have hwl : w.heap.size < W1.heap.size := by omega
 have HA2 : Hid (∀ W, Below W1.heap.size W1 W → NumsAt W (some ⟨w.heap.size + 1, 0, none⟩) [ob, oc] → w.heap.size + 1 < W.heap.size → Calls Tryz.prog 64 #[.slice none 0 0, .string ((⟨#[79, 75, 32]⟩ : ByteArray) ++ (⟨#[84, 73, 77, 69, 68, 79, 85, 84]⟩ : ByteArray)), .slice (some ⟨w.heap.size + 1, 0, none⟩) 2 2] W fun r w' => ∃ p' c', r = .returned (.slice p' T.length c') ∧ w'.cell? ⟨w.heap.size, 1, none⟩ = some (.int .i64 4) ∧ w'.cell? ⟨w.heap.size, 2, none⟩ = some (.int .i64 ob) ∧ w'.cell? ⟨w.heap.size, 3, none⟩ = some (.int .i64 oc) ∧ w'.cell? ⟨7, 4, none⟩ = some (.string ⟨#[84, 73, 77, 69, 68, 79, 85, 84]⟩) ∧ Hid (MineS w' S (.slice p' T.length c') T.length (Lib.byteCells T)) ∧ Hid (Kept S w w')) := Lib.hid (fun W hW hns hlt => by
  rw [hcat]
  refine (HA.out (some ⟨w.heap.size + 1, 0, none⟩) 2 [ob, oc] (by intro x hx; simp at hx; rcases hx with rfl | rfl <;> assumption) (by simp) W (hB0.trans (hW.mono hB0.size)) hns (fun b off hp => by simp at hp; omega)).mono ?_
  rintro e w3 ⟨⟨p', c', rfl, hm, hk⟩, hn⟩
  rw [hT] at hm ⊢
  have hx3 := (hn w.heap.size (Nat.le_refl _) (by omega)).trans ((hW.block _ hwl).trans hx1)
  have z1 := cell_of_row _ _ 1 _ _ (0, 0) hx3
  have z2 := cell_of_row _ _ 2 _ _ (0, 0) hx3
  have z3 := cell_of_row _ _ 3 _ _ (0, 0) hx3
  simp at z1 z2 z3
  exact ⟨p', c', rfl, z1, z2, z3, (World.cell?_of_block (a := ⟨7, 4, none⟩) (hk.block _ hz2 hnS)).trans f1, Lib.hid hm, Lib.hid hk⟩)
 clear HA hx1 hB0 f1 hcat
 go_region_held3 (fun w' => w'.cell? ⟨w.heap.size, 1, none⟩ = some (.int .i64 4) ∧ w'.cell? ⟨w.heap.size, 2, none⟩ = some (.int .i64 ob) ∧ w'.cell? ⟨w.heap.size, 3, none⟩ = some (.int .i64 oc) ∧ w'.cell? ⟨7, 4, none⟩ = some (.string ⟨#[84, 73, 77, 69, 68, 79, 85, 84]⟩)) (go_keep) (first | (go_at_call 64; refine (HA2.out _ (by repeat (first | exact Below.refl _ _ | refine Below.drew ?_ | refine below_drewN ?_ _ | refine Below.alloc ?_ (by simp) _)) (by repeat (first | exact numsAt_new _ _ _ _ rfl _ hsz1 | refine NumsAt.drewN ?_ | refine NumsAt.drewN (n := 1) ?_)) (by simp; omega)).mono ?_; rintro e w3 ⟨p', c', rfl, z1, z2, z3, z4, HM, HK⟩))
 all_goals go_wp2
 all_goals go_ret
 all_goals exact ⟨p', c', rfl, HM.out, HK.out⟩

set_option maxHeartbeats 4000000 in
set_option maxRecDepth 100000 in
theorem appendFirst_stat5 (a : Addr) (m : Int) (w0 w : World) (hE : Env a m w0) (hNm : NamesE w0) (h0 : Below w0.heap.size w0 w) (S : Nat → Prop) (hS : ∀ k, w.heap.size ≤ k → S k) (hS0 : ∀ k, S k → w0.heap.size ≤ k) (er ob oc : Int) (hb0 : NumOk ob) (hc0 : NumOk oc) (p1 : Option Addr) (n1 c1 : Nat) (p2 : Option Addr) (n2 c2 : Nat) :
  Calls Tryz.prog 65 #[.slice none 0 0, .int .i64 5, .agg #[.int .i64 er, .int .i64 5, .int .i64 ob, .int .i64 oc, .slice p1 n1 c1, .slice p2 n2 c2]] w (FirstQ S w (lineL (okW ++ 32 :: phaseW 5) [ob, oc])) := by
 have hN := hNm.on h0
 have f1 := hN.phases 5 _ rfl
 have hz := hN.size
 have hz2 : 7 < w.heap.size := by omega
 have hnS : ¬ S 7 := fun e => by have h1 := hS0 _ e; have h2 := hNm.size; omega
 have HA := Lib.hid (appendLine_0K a m w0 w hE h0 S hS hS0 [79, 75, 32, 67, 65, 78, 67, 69, 76, 76, 69, 68] (by decide) (by decide))
 have hT : lineL [79, 75, 32, 67, 65, 78, 67, 69, 76, 76, 69, 68] [ob, oc] = lineL (okW ++ 32 :: phaseW 5) [ob, oc] := rfl
 have hcat : (⟨#[79, 75, 32]⟩ : ByteArray) ++ (⟨#[67, 65, 78, 67, 69, 76, 76, 69, 68]⟩ : ByteArray) = ⟨[79, 75, 32, 67, 65, 78, 67, 69, 76, 76, 69, 68].toArray⟩ := cat_bytes [79, 75, 32] [67, 65, 78, 67, 69, 76, 76, 69, 68]
 generalize lineL (okW ++ 32 :: phaseW 5) [ob, oc] = T at *
 clear hE h0 hS hS0 hNm hN
 go_enter Tryz.func65, Tryz.ntmps65
 go_wp2_with fail
 have hx1 := heap_alloc_new w (.cells #[.int .i64 er, .int .i64 5, .int .i64 ob, .int .i64 oc, .slice p1 n1 c1, .slice p2 n2 c2] 34)
 have hB0 : Below w.heap.size w (w.alloc (.cells #[.int .i64 er, .int .i64 5, .int .i64 ob, .int .i64 oc, .slice p1 n1 c1, .slice p2 n2 c2] 34)) := (Below.refl _ _).alloc (Nat.le_refl _) _
 have hsz1 : (w.alloc (.cells #[.int .i64 er, .int .i64 5, .int .i64 ob, .int .i64 oc, .slice p1 n1 c1, .slice p2 n2 c2] 34)).heap.size = w.heap.size + 1 := by simp
 generalize w.alloc (.cells #[.int .i64 er, .int .i64 5, .int .i64 ob, .int .i64 oc, .slice p1 n1 c1, .slice p2 n2 c2] 34) = W1 at *
 have x1 := cell_of_row _ _ 1 _ _ (0, 0) hx1
 have x2 := cell_of_row _ _ 2 _ _ (0, 0) hx1
 have x3 := cell_of_row _ _ 3 _ _ (0, 0) hx1
 have f0 := (hB0.cell (p := ⟨7, 5, none⟩) hz2).trans f1
 simp at x1 x2 x3
 have hGl : 7 < W1.heap.size := by omega
 have hwl : w.heap.size < W1.heap.size := by omega
 have HA2 : Hid (∀ W, Below W1.heap.size W1 W → NumsAt W (some ⟨w.heap.size + 1, 0, none⟩) [ob, oc] → w.heap.size + 1 < W.heap.size → Calls Tryz.prog 64 #[.slice none 0 0, .string ((⟨#[79, 75, 32]⟩ : ByteArray) ++ (⟨#[67, 65, 78, 67, 69, 76, 76, 69, 68]⟩ : ByteArray)), .slice (some ⟨w.heap.size + 1, 0, none⟩) 2 2] W fun r w' => ∃ p' c', r = .returned (.slice p' T.length c') ∧ w'.cell? ⟨w.heap.size, 1, none⟩ = some (.int .i64 5) ∧ w'.cell? ⟨w.heap.size, 2, none⟩ = some (.int .i64 ob) ∧ w'.cell? ⟨w.heap.size, 3, none⟩ = some (.int .i64 oc) ∧ w'.cell? ⟨7, 5, none⟩ = some (.string ⟨#[67, 65, 78, 67, 69, 76, 76, 69, 68]⟩) ∧ Hid (MineS w' S (.slice p' T.length c') T.length (Lib.byteCells T)) ∧ Hid (Kept S w w')) := Lib.hid (fun W hW hns hlt => by
  rw [hcat]
  refine (HA.out (some ⟨w.heap.size + 1, 0, none⟩) 2 [ob, oc] (by intro x hx; simp at hx; rcases hx with rfl | rfl <;> assumption) (by simp) W (hB0.trans (hW.mono hB0.size)) hns (fun b off hp => by simp at hp; omega)).mono ?_
  rintro e w3 ⟨⟨p', c', rfl, hm, hk⟩, hn⟩
  rw [hT] at hm ⊢
  have hx3 := (hn w.heap.size (Nat.le_refl _) (by omega)).trans ((hW.block _ hwl).trans hx1)
  have z1 := cell_of_row _ _ 1 _ _ (0, 0) hx3
  have z2 := cell_of_row _ _ 2 _ _ (0, 0) hx3
  have z3 := cell_of_row _ _ 3 _ _ (0, 0) hx3
  simp at z1 z2 z3
  exact ⟨p', c', rfl, z1, z2, z3, (World.cell?_of_block (a := ⟨7, 5, none⟩) (hk.block _ hz2 hnS)).trans f1, Lib.hid hm, Lib.hid hk⟩)
 clear HA hx1 hB0 f1 hcat
 go_region_held3 (fun w' => w'.cell? ⟨w.heap.size, 1, none⟩ = some (.int .i64 5) ∧ w'.cell? ⟨w.heap.size, 2, none⟩ = some (.int .i64 ob) ∧ w'.cell? ⟨w.heap.size, 3, none⟩ = some (.int .i64 oc) ∧ w'.cell? ⟨7, 5, none⟩ = some (.string ⟨#[67, 65, 78, 67, 69, 76, 76, 69, 68]⟩)) (go_keep) (first | (go_at_call 64; refine (HA2.out _ (by repeat (first | exact Below.refl _ _ | refine Below.drew ?_ | refine below_drewN ?_ _ | refine Below.alloc ?_ (by simp) _)) (by repeat (first | exact numsAt_new _ _ _ _ rfl _ hsz1 | refine NumsAt.drewN ?_ | refine NumsAt.drewN (n := 1) ?_)) (by simp; omega)).mono ?_; rintro e w3 ⟨p', c', rfl, z1, z2, z3, z4, HM, HK⟩))
 all_goals go_wp2
 all_goals go_ret
 all_goals exact ⟨p', c', rfl, HM.out, HK.out⟩

theorem appendFirst_stat (a : Addr) (m : Int) (w0 w : World) (hE : Env a m w0) (hNm : NamesE w0) (h0 : Below w0.heap.size w0 w) (S : Nat → Prop) (hS : ∀ k, w.heap.size ≤ k → S k) (hS0 : ∀ k, S k → w0.heap.size ≤ k) (o : Out) (hok : OutOk o) (p1 : Option Addr) (n1 c1 : Nat) (p2 : Option Addr) (n2 c2 : Nat) (hp : 1 ≤ o.a ∧ o.a ≤ 5) :
  Calls Tryz.prog 65 #[.slice none 0 0, .int .i64 5, .agg #[.int .i64 o.err, .int .i64 o.a, .int .i64 o.b, .int .i64 o.c, .slice p1 n1 c1, .slice p2 n2 c2]] w (FirstQ S w (lineL (okW ++ 32 :: phaseW o.a) [o.b, o.c])) := by
 have hb0 := hok.b
 have hc0 := hok.c
 obtain ⟨er, oa, ob, oc, rs, es, nw, L⟩ := o
 simp only at hp hb0 hc0 ⊢
 have hcases : oa = 1 ∨ oa = 2 ∨ oa = 3 ∨ oa = 4 ∨ oa = 5 := by omega
 rcases hcases with rfl | rfl | rfl | rfl | rfl
 ·exact appendFirst_stat1 a m w0 w hE hNm h0 S hS hS0 er ob oc hb0 hc0 p1 n1 c1 p2 n2 c2
 ·exact appendFirst_stat2 a m w0 w hE hNm h0 S hS hS0 er ob oc hb0 hc0 p1 n1 c1 p2 n2 c2
 ·exact appendFirst_stat3 a m w0 w hE hNm h0 S hS hS0 er ob oc hb0 hc0 p1 n1 c1 p2 n2 c2
 ·exact appendFirst_stat4 a m w0 w hE hNm h0 S hS hS0 er ob oc hb0 hc0 p1 n1 c1 p2 n2 c2
 ·exact appendFirst_stat5 a m w0 w hE hNm h0 S hS hS0 er ob oc hb0 hc0 p1 n1 c1 p2 n2 c2

end Go.Proofs.YtpcgnadfldimhaaGreatDoor
namespace Go.Proofs.YtpcgnadfldimhaaGreatDoor
open Go.RowKit

theorem kept_up {w w' : World} (h : Kept (fun k => w.heap.size ≤ k) w w') : Below w.heap.size w w' := h.below (Nat.le_refl _) (fun _ e => e)
set_option maxHeartbeats 4000000 in
set_option maxRecDepth 100000 in
theorem writeA_err (a : Addr) (m : Int) (w0 w : World) (hE : Env a m w0) (hNm : NamesE w0) (h0 : Below w0.heap.size w0 w) (kind e oa ob oc : Int) (he : 1 ≤ e ∧ e ≤ 7) (p1 : Option Addr) (n1 c1 : Nat) (p2 : Option Addr) (n2 c2 : Nat) :
  Calls Tryz.prog 38 #[.int .i64 kind, .agg #[.int .i64 e, .int .i64 oa, .int .i64 ob, .int .i64 oc, .slice p1 n1 c1, .slice p2 n2 c2]] w fun r w' => r = .returned (.string ⟨(errL e).toArray⟩) ∧ Below w.heap.size w w' := by
 obtain ⟨j, rfl⟩ : ∃ j : Nat, e = (j : Int) := ⟨e.toNat, by omega⟩
 have hj1 : 1 ≤ j := by omega
 have hj7 : j ≤ 7 := by omega
 have hN := hNm.on h0
 have f1 := err_at hN j hj1 hj7
 have hz := hN.size
 have hpl := errW_len (j : Int)
 have hz2 : 5 < w.heap.size := by omega
 have HA := Lib.hid (appendLine_0 a m w0 w hE h0 (fun k => w.heap.size ≤ k) (fun _ e => e) (fun _ e => Nat.le_trans h0.size e) ([69, 82, 82, 32] ++ errW (j : Int)) (by simp) (by simp; omega))
 have hcat : (⟨#[69, 82, 82, 32]⟩ : ByteArray) ++ (⟨(errW (j : Int)).toArray⟩ : ByteArray) = ⟨([69, 82, 82, 32] ++ errW (j : Int)).toArray⟩ := cat_bytes [69, 82, 82, 32] _
 have hsz : (⟨(errW (j : Int)).toArray⟩ : ByteArray).size ≤ 5 := by simpa [ByteArray.size] using hpl
 have hT : lineL ([69, 82, 82, 32] ++ errW (j : Int)) [] = errL (j : Int) := rfl
 have hTn : 0 < (errL (j : Int)).length := by simp [errL, lineL]
 have HA2 : Hid (∀ W, Below w.heap.size w W → Calls Tryz.prog 64 #[.slice none 0 0, .string ((⟨#[69, 82, 82, 32]⟩ : ByteArray) ++ (⟨(errW (j : Int)).toArray⟩ : ByteArray)), .slice none 0 0] W (FirstQ (fun k => w.heap.size ≤ k) w (errL (j : Int)))) := Lib.hid (fun W hW => by
  rw [hcat, ← hT]
  exact HA.out none 0 [] (by intro x hx; simp at hx) (by simp) W hW (numsAt_none _) (fun b off hp => by simp at hp))
 generalize (⟨(errW (j : Int)).toArray⟩ : ByteArray) = P at *
 generalize errL (j : Int) = T at *
 clear hE h0 hNm hN HA hcat hT
 go_enter Tryz.func38, Tryz.ntmps38
 go_wp2_with (go_at_call 64; refine (HA2.out _ ((Below.refl _ _).alloc (Nat.le_refl _) _)).mono ?_; rintro r w1 ⟨p', c', rfl, hm, hk⟩; refine Hid.out ?_)
 refine Lib.hid ?_
 have hcv : (convert 123 9 (.slice p' T.length c')).run Tryz.prog w1 = .ok (.string ⟨T.toArray⟩) w1 := run_string_mineS hm hTn 123 9 5 Tryz.underlying123 Tryz.underlying5 Tryz.underlying9
 have HK := Lib.hid (kept_up hk)
 clear hm hk
 go_wp2
 go_ret
 exact ⟨rfl, HK.out⟩

set_option maxHeartbeats 8000000 in
set_option maxRecDepth 100000 in
theorem writeA_ok (a : Addr) (m : Int) (w0 w : World) (hE : Env a m w0) (hNm : NamesE w0) (h0 : Below w0.heap.size w0 w) (kind : Int) (o : Out) (hok : OutOk o) (he : o.err = 0) (hr : o.rows.length ≤ 1000000000) (hv : o.evs.length ≤ 1000000000000) (hp : kind = 5 → 1 ≤ o.a ∧ o.a ≤ 5) (p1 : Option Addr) (c1 : Nat) (p2 : Option Addr) (c2 : Nat) (hY : Laid RowV.cells 4 w p1 o.rows) (hV : Laid Ev.cells 4 w p2 o.evs) :
  Calls Tryz.prog 38 #[.int .i64 kind, .agg #[.int .i64 o.err, .int .i64 o.a, .int .i64 o.b, .int .i64 o.c, .slice p1 o.rows.length c1, .slice p2 o.evs.length c2]] w fun r w' => r = .returned (.string ⟨(answerL kind o).toArray⟩) ∧ Below w.heap.size w w' := by
 obtain ⟨W1, hW1⟩ : ∃ W1, W1 = w.alloc (.cells #[.int .i64 o.err, .int .i64 o.a, .int .i64 o.b, .int .i64 o.c, .slice p1 o.rows.length c1, .slice p2 o.evs.length c2] 34) := ⟨_, rfl⟩
 have hB1 : Below w.heap.size w W1 := by rw [hW1]; exact (Below.refl _ _).alloc (Nat.le_refl _) _
 have hx1 : W1.heap[w.heap.size]? = some (.cells #[.int .i64 o.err, .int .i64 o.a, .int .i64 o.b, .int .i64 o.c, .slice p1 o.rows.length c1, .slice p2 o.evs.length c2] 34 (0, 0)) := by rw [hW1]; exact heap_alloc_new _ _
 have h01 := h0.trans (hB1.mono h0.size)
 have hs01 := h01.size
 have HF : Hid (Calls Tryz.prog 65 #[.slice none 0 0, .int .i64 kind, .agg #[.int .i64 o.err, .int .i64 o.a, .int .i64 o.b, .int .i64 o.c, .slice p1 o.rows.length c1, .slice p2 o.evs.length c2]] W1 (FirstQ (fun k => W1.heap.size ≤ k) W1 (firstL kind o))) := Lib.hid (by
  by_cases h5 : kind = 5
  ·subst h5
   exact appendFirst_stat a m w0 W1 hE hNm h01 (fun k => W1.heap.size ≤ k) (fun _ e => e) (fun _ e => Nat.le_trans hs01 e) o hok p1 _ c1 p2 _ c2 (hp rfl)
  ·exact appendFirst_plain a m w0 W1 hE h01 (fun k => W1.heap.size ≤ k) (fun _ e => e) (fun _ e => Nat.le_trans hs01 e) kind h5 o hok p1 c1 p2 _ c2 hr)
 have HE := Lib.hid hE
 have H01 := Lib.hid h01
 have HY := Lib.hid (hY.on hB1)
 have HV := Lib.hid (hV.on hB1)
 have HOK := Lib.hid hok
 have HB1 := Lib.hid hB1
 have hfl := firstL_len kind hok hr
 have HLR := Lib.hid (fun k => flatU_len rowL 90 (o.rows.take k) (fun r hr => rowL_len (hok.rows r (List.mem_of_mem_take hr))))
 have HLE := Lib.hid (fun k => flatU_len evL 70 (o.evs.take k) (fun r hr => evL_len (hok.evs r (List.mem_of_mem_take hr))))
 have HAN : Hid (answerL kind o = firstL kind o ++ o.rows.flatMap rowL ++ o.evs.flatMap evL) := Lib.hid (by unfold answerL; rw [if_pos he])
 have x0 := cell_of_row _ _ 0 _ _ (0, 0) hx1
 have x1 := cell_of_row _ _ 1 _ _ (0, 0) hx1
 have x2 := cell_of_row _ _ 2 _ _ (0, 0) hx1
 have x3 := cell_of_row _ _ 3 _ _ (0, 0) hx1
 have x4 := cell_of_row _ _ 4 _ _ (0, 0) hx1
 have x5 := cell_of_row _ _ 5 _ _ (0, 0) hx1
 simp at x0 x1 x2 x3 x4 x5
 have hxl : w.heap.size < W1.heap.size := (Array.getElem?_eq_some_iff.1 hx1).1
 have HS := Lib.hid (fun (wr : World) (hb : Below W1.heap.size W1 wr) (n : Nat) (sv : Value) (xs : List Value) (hown : MineS wr (fun k => W1.heap.size ≤ k) sv n xs) W hW => appendLine_new a m w0 wr W hE (h01.trans (hb.mono hs01)) hW (fun k => W1.heap.size ≤ k) (fun k e => Nat.le_trans hb.size e) (fun _ e => Nat.le_trans hs01 e) n sv xs hown)
 have HEV := Lib.hid (fun (wr : World) (hb : Below W1.heap.size W1 wr) (n : Nat) (sv : Value) (xs : List Value) (hown : MineS wr (fun k => W1.heap.size ≤ k) sv n xs) (e : Ev) (he : e.okT) hn => appendEvent_any a m w0 wr hE (h01.trans (hb.mono hs01)) (fun k => W1.heap.size ≤ k) (fun k e => Nat.le_trans hb.size e) (fun _ e => Nat.le_trans hs01 e) n sv xs hown e he hn)
 obtain ⟨er, oa, ob, oc, rs, es, nw, L⟩ := o
 simp only at *
 subst he
 clear hE hNm h0 hok hp hY hV h01 hB1 hx1 hs01
 go_enter Tryz.func38, Tryz.ntmps38
 go_wp2_with (go_at_call 65; rw [← hW1]; refine HF.out.mono ?_; rintro r w1 ⟨p', c', rfl, hm, hk⟩; refine Hid.out ?_)
 refine Lib.hid ?_
 have HB2 := Lib.hid (kept_up hk)
 have HM := Lib.hid hm
 have y4 := (HB2.out.cell (p := ⟨w.heap.size, 4, none⟩) hxl).trans x4
 have hl2 := HB2.out.size
 clear hm hk HF hW1
 generalize hF : firstL kind ⟨0, oa, ob, oc, rs, es, nw, L⟩ = F at *
 go_wp2_with fail
 go_loopw [5, 26] (fun tx i wr => ∃ (k : Nat) (p : Option Addr) (c : Nat), k ≤ rs.length ∧ i = .int .i64 k ∧ tx = .slice p (F ++ (rs.take k).flatMap rowL).length c ∧ Hid (MineS wr (fun k => W1.heap.size ≤ k) (.slice p (F ++ (rs.take k).flatMap rowL).length c) (F ++ (rs.take k).flatMap rowL).length (Lib.byteCells (F ++ (rs.take k).flatMap rowL))) ∧ Hid (Below W1.heap.size W1 wr)) (fun _ i _ => rs.length - (intOf i).toNat)
 case atStart => exact ⟨0, p', c', Nat.zero_le _, rfl, by simp, Lib.hid (by simpa using HM.out), HB2⟩
 case round =>
  obtain ⟨k, p, c, hk, rfl, rfl, HMr, HBr⟩ := hrel
  have hlr := HLR.out k
  have hlk : (rs.take k).length ≤ rs.length := by rw [List.length_take]; omega
  have hTl : (F ++ (rs.take k).flatMap rowL).length ≤ 100000000000 := by rw [List.length_append]; omega
  have hwr := HBr.out.size
  by_cases hlt : k < rs.length
  ·obtain ⟨r, hr2⟩ : ∃ r, rs[k]? = some r := ⟨_, List.getElem?_eq_getElem hlt⟩
   obtain ⟨b, rfl, hrow⟩ := (HY.out.on HBr.out) k r hr2
   have hro := HOK.out.rows r (List.mem_of_getElem? hr2)
   have HT : Hid (F ++ (rs.take (k + 1)).flatMap rowL = (F ++ (rs.take k).flatMap rowL) ++ rowL r) := Lib.hid (by
    rw [List.take_succ_eq_append_getElem hlt, (List.getElem?_eq_some_iff.1 hr2).2, List.flatMap_append, List.append_assoc]
    simp)
   have HAL := Lib.hid (fun W hW => HS.out wr HBr.out _ _ _ HMr.out W hW)
   have q0 := hrow 0 _ rfl
   have q1 := hrow 1 _ rfl
   have q2 := hrow 2 _ rfl
   have q3 := hrow 3 _ rfl
   rw [Nat.add_zero] at q0
   generalize F ++ (rs.take k).flatMap rowL = T at *
   clear hrow hr2
   obtain ⟨id, pr, wd, wl⟩ := r
   obtain ⟨o1, o2, o3, o4⟩ := hro
   simp only at o1 o2 o3 o4 q0 q1 q2 q3
   go_wp2_with (go_at_call 64; refine (HAL.out _ (((Below.refl _ _).alloc (Nat.le_refl _) _).alloc (by simp) _) [74, 79, 66] (by decide) (by decide) (some ⟨wr.heap.size + 1, 0, none⟩) 4 [id, pr, wd, wl] (numsAt_new _ _ _ _ rfl _ (by simp)) (fun b off hp => by simp at hp; simp; omega) (by intro x hx; simp at hx; rcases hx with rfl | rfl | rfl | rfl <;> assumption) (by simp) (by omega)).mono ?_; rintro r w3 ⟨p3, c3, rfl, hm, hk3, _⟩; refine Hid.out ?_)
   refine Lib.hid ?_
   have HM3 := Lib.hid hm
   have HB3 : Hid (Below W1.heap.size W1 w3) := Lib.hid (HBr.out.trans (hk3.below hwr (fun _ e => e)))
   clear hm hk3
   go_wp2
   go_roundw
   case rel => exact ⟨k + 1, p3, c3, by omega, by go_num, by rw [HT.out, List.length_append]; rfl, Lib.hid (by rw [HT.out, List.length_append, byteCells_app]; exact HM3.out), HB3⟩
   case measure => simp [intOf]; omega
  ·obtain rfl : k = rs.length := by omega
   rw [List.take_length] at HMr hTl ⊢
   have y5 := (HBr.out.cell (p := ⟨w.heap.size, 5, none⟩) hxl).trans x5
   clear y4
   generalize hG : F ++ rs.flatMap rowL = G at *
   go_wp2_with fail
   go_loopw [5, 45] (fun tx i wx => ∃ (k : Nat) (p : Option Addr) (c : Nat), k ≤ es.length ∧ i = .int .i64 k ∧ tx = .slice p (G ++ (es.take k).flatMap evL).length c ∧ Hid (MineS wx (fun k => W1.heap.size ≤ k) (.slice p (G ++ (es.take k).flatMap evL).length c) (G ++ (es.take k).flatMap evL).length (Lib.byteCells (G ++ (es.take k).flatMap evL))) ∧ Hid (Below W1.heap.size W1 wx)) (fun _ i _ => es.length - (intOf i).toNat)
   case atStart => exact ⟨0, p, c, Nat.zero_le _, rfl, by simp, Lib.hid (by simpa using HMr.out), HBr⟩
   case round =>
    obtain ⟨k, p, c, hk, rfl, rfl, HMx, HBx⟩ := hrel
    obtain ⟨wx, hwx0⟩ : ∃ wx, wx = wr := ⟨_, rfl⟩
    subst hwx0
    have hle := HLE.out k
    have hlk : (es.take k).length ≤ es.length := by rw [List.length_take]; omega
    have hTl2 : (G ++ (es.take k).flatMap evL).length ≤ 80000000000000 := by rw [List.length_append]; omega
    have hwx := HBx.out.size
    by_cases hlt : k < es.length
    ·obtain ⟨e, he2⟩ : ∃ e, es[k]? = some e := ⟨_, List.getElem?_eq_getElem hlt⟩
     obtain ⟨b, rfl, hrow⟩ := (HV.out.on HBx.out) k e he2
     have heo := HOK.out.evs e (List.mem_of_getElem? he2)
     have HT : Hid (G ++ (es.take (k + 1)).flatMap evL = (G ++ (es.take k).flatMap evL) ++ evL e) := Lib.hid (by
      rw [List.take_succ_eq_append_getElem hlt, (List.getElem?_eq_some_iff.1 he2).2, List.flatMap_append, List.append_assoc]
      simp)
     have HAE := Lib.hid (fun o => HEV.out (wx.alloc o) (HBx.out.trans (((Below.refl _ _).alloc (Nat.le_refl _) o).mono hwx)) _ _ _ (HMx.out.on ((Below.refl _ _).alloc (Nat.le_refl _) o)) e heo (by omega))
     have q0 := hrow 0 _ rfl
     have q1 := hrow 1 _ rfl
     have q2 := hrow 2 _ rfl
     have q3 := hrow 3 _ rfl
     rw [Nat.add_zero] at q0
     generalize G ++ (es.take k).flatMap evL = T at *
     clear hrow he2 heo
     obtain ⟨kd, id, tm, de⟩ := e
     simp only at q0 q1 q2 q3 HAE
     go_wp2_with (go_at_call 66; refine (HAE.out _).mono ?_; rintro r w3 ⟨p3, c3, rfl, hm, hk3⟩; refine Hid.out ?_)
     refine Lib.hid ?_
     have HM3 := Lib.hid hm
     have HB3 : Hid (Below W1.heap.size W1 w3) := Lib.hid ((HBx.out.trans (((Below.refl _ _).alloc (Nat.le_refl _) _).mono hwx)).trans (hk3.below (by simp; omega) (fun _ e => e)))
     clear hm hk3
     go_wp2
     go_roundw
     case rel => exact ⟨k + 1, p3, c3, by omega, by go_num, by rw [HT.out, List.length_append], Lib.hid (by rw [HT.out, List.length_append, byteCells_app]; exact HM3.out), HB3⟩
     case measure => simp [intOf]; omega
    ·obtain rfl : k = es.length := by omega
     rw [List.take_length] at HMx hTl2 ⊢
     have hA : answerL kind ⟨0, oa, ob, oc, rs, es, nw, L⟩ = G ++ es.flatMap evL := by rw [HAN.out, ← hG]
     have hpos : 0 < (G ++ es.flatMap evL).length := by
      obtain ⟨r, e1, _⟩ := firstL_ok kind ⟨0, oa, ob, oc, rs, es, nw, L⟩
      rw [← hG, ← hF, e1]
      simp
     generalize G ++ es.flatMap evL = T at *
     have hcv : (convert 123 9 (.slice p T.length c)).run Tryz.prog wx = .ok (.string ⟨T.toArray⟩) wx := run_string_mineS HMx.out hpos 123 9 5 Tryz.underlying123 Tryz.underlying5 Tryz.underlying9
     go_wp2
     go_ret
     exact ⟨by rw [hA]; rfl, HB1.out.trans (HBx.out.mono HB1.out.size)⟩

end Go.Proofs.YtpcgnadfldimhaaGreatDoor
