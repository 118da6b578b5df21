/-
 WHAT THE PROGRAM KEEPS AT PACKAGE LEVEL ('Env'), and the two look-ups in the table of shapes.
-/
import Derived.Test.YtpcgnadfldimhaaGreatDoorLeaf
import Derived.Lib.AppendIntMem
import Derived.Deep.MidRow
import Derived.Lib.SlBytesConst
namespace Go.Proofs.YtpcgnadfldimhaaGreatDoor
open Go.RowKit

/-- The table's cells. -/
def shapeCells : List Value := [.int .i64 1, .string ⟨#[83, 85, 66, 77, 73, 84]⟩, .int .i64 2, .int .i64 2, .string ⟨#[67, 65, 78, 67, 69, 76]⟩, .int .i64 1, .int .i64 3, .string ⟨#[68, 79, 78, 69]⟩, .int .i64 1, .int .i64 4, .string ⟨#[84, 73, 67, 75]⟩, .int .i64 1, .int .i64 5, .string ⟨#[83, 84, 65, 84]⟩, .int .i64 1, .int .i64 6, .string ⟨#[81, 85, 69, 85, 69]⟩, .int .i64 0, .int .i64 7, .string ⟨#[73, 78, 70, 79]⟩, .int .i64 0]

/-- The variable at g holds the sentinel p. -/
structure Sent (g : Nat) (p : Addr) (w : World) : Prop where
 cell : w.cell? ⟨g, 0, none⟩ = some (.iface 315 (.pointer (some p)))
 whole : Whole w p

theorem Sent.on {g : Nat} {p : Addr} {w w' : World} {B : Nat} (h : Sent g p w) (hb : Below B w w') (hg : g < B) (hp : p.block < B) : Sent g p w' where
 cell := (hb.cell (by simpa using hg)).trans h.cell
 whole := by obtain ⟨c, t, e⟩ := h.whole; exact ⟨c, t, (hb.block _ hp).trans e⟩
theorem Sent.low {g : Nat} {p : Addr} {w : World} (h : Sent g p w) : p.block < w.heap.size := by
 obtain ⟨c, t, e⟩ := h.whole
 exact (Array.getElem?_eq_some_iff.1 e).1
theorem Sent.up {g : Nat} {p : Addr} {w : World} (h : Sent g p w) (hg : g < w.heap.size) (o : Obj) : Sent g p (w.alloc o) := h.on ((Below.refl w.heap.size w).alloc (Nat.le_refl _) o) hg h.low

/-- What berth.errnoOf asks about: five sentinels of package cluster, no two of them one, none of them the one at a; and the type 'error' as errors.As reads it. -/
structure Asks (a p1 p2 p3 p4 p5 : Addr) (w : World) : Prop where
 s1 : Sent 0 p1 w
 s2 : Sent 1 p2 w
 s3 : Sent 2 p3 w
 s4 : Sent 4 p4 w
 s5 : Sent 3 p5 w
 own : Whole w a
 n1 : a ≠ p1
 n2 : a ≠ p2
 n3 : a ≠ p3
 n4 : a ≠ p4
 n5 : a ≠ p5
 d21 : p2 ≠ p1
 d31 : p3 ≠ p1
 d32 : p3 ≠ p2
 d51 : p5 ≠ p1
 d52 : p5 ≠ p2
 d53 : p5 ≠ p3
 d41 : p4 ≠ p1
 d42 : p4 ≠ p2
 d43 : p4 ≠ p3
 d45 : p4 ≠ p5
 typ : w.cell? ⟨6, 0, none⟩ = some (.iface 234 (.agg #[.pointer (some ⟨17, 89, none⟩)]))
 size : 17 ≤ w.heap.size

theorem Whole.low {w : World} {p : Addr} (h : Whole w p) : p.block < w.heap.size := by
 obtain ⟨c, t, e⟩ := h
 exact (Array.getElem?_eq_some_iff.1 e).1
theorem Whole.on {p : Addr} {w w' : World} {B : Nat} (h : Whole w p) (hb : Below B w w') (hp : p.block < B) : Whole w' p := by obtain ⟨c, t, e⟩ := h; exact ⟨c, t, (hb.block _ hp).trans e⟩

theorem Asks.on {a p1 p2 p3 p4 p5 : Addr} {w w' : World} (h : Asks a p1 p2 p3 p4 p5 w) (hb : Below w.heap.size w w') : Asks a p1 p2 p3 p4 p5 w' := by
 have hs := h.size
 exact ⟨h.s1.on hb (by omega) h.s1.low, h.s2.on hb (by omega) h.s2.low, h.s3.on hb (by omega) h.s3.low, h.s4.on hb (by omega) h.s4.low, h.s5.on hb (by omega) h.s5.low, h.own.on hb h.own.low, h.n1, h.n2, h.n3, h.n4, h.n5, h.d21, h.d31, h.d32, h.d51, h.d52, h.d53, h.d41, h.d42, h.d43, h.d45, (hb.cell (by simp; omega)).trans h.typ, Nat.le_trans h.size hb.size⟩

/-- The package-level variables read as laid. -/
structure Env (a : Addr) (m : Int) (w : World) : Prop where
 err : w.cell? ⟨9, 0, none⟩ = some (.iface 315 (.pointer (some a)))
 shapes : ∀ j v, shapeCells[j]? = some v → w.cell? ⟨8, j, none⟩ = some v
 most : w.cell? ⟨12, 0, none⟩ = some (.int .i64 m)
 tab : Lib.TabIs Tryz.prog w "internal/strconv.uint64pow10" .u64 Lib.pow10Tab
 size : 17 ≤ w.heap.size
 asks : ∃ p1 p2 p3 p4 p5, Asks a p1 p2 p3 p4 p5 w

theorem Env.on {a : Addr} {m : Int} {w w' : World} (h : Env a m w) (hb : Below w.heap.size w w') : Env a m w' where
 err := (hb.cell (by have := h.size; simp; omega)).trans h.err
 shapes := fun j v hj => (hb.cell (by have := h.size; simp; omega)).trans (h.shapes j v hj)
 most := (hb.cell (by have := h.size; simp; omega)).trans h.most
 tab := Lib.tabBelow_of_tabIs h.tab w' hb
 size := Nat.le_trans h.size hb.size
 asks := by obtain ⟨p1, p2, p3, p4, p5, k⟩ := h.asks; exact ⟨p1, p2, p3, p4, p5, k.on hb⟩

theorem Env.range {a : Addr} {m : Int} {w : World} (h : Env a m w) (o : Obj) : (w.alloc o).rangeAt 8 0 shapeCells := fun j v hj => by
 rw [Nat.zero_add]
 exact (((Below.refl w.heap.size w).alloc (Nat.le_refl _) o).cell (by have := h.size; simp; omega)).trans (h.shapes j v hj)

/-- A shape. -/
def shp (k : Nat) : Value := .agg #[.int .i64 (k : Int), .string (wordB k), .int .i64 (numsN k : Int)]

theorem shape_at0 (W : World) : (Instr.index 208 (.agg shapeCells.toArray) (.int .i64 ((0 : Nat) : Int))).run Tryz.prog W = .ok (.agg #[.int .i64 ((0 + 1 : Nat) : Int), .string (wordB (0 + 1)), .int .i64 (numsN (0 + 1) : Int)]) W := by kernel_rfl
theorem shape_at1 (W : World) : (Instr.index 208 (.agg shapeCells.toArray) (.int .i64 ((1 : Nat) : Int))).run Tryz.prog W = .ok (.agg #[.int .i64 ((1 + 1 : Nat) : Int), .string (wordB (1 + 1)), .int .i64 (numsN (1 + 1) : Int)]) W := by kernel_rfl
theorem shape_at2 (W : World) : (Instr.index 208 (.agg shapeCells.toArray) (.int .i64 ((2 : Nat) : Int))).run Tryz.prog W = .ok (.agg #[.int .i64 ((2 + 1 : Nat) : Int), .string (wordB (2 + 1)), .int .i64 (numsN (2 + 1) : Int)]) W := by kernel_rfl
theorem shape_at3 (W : World) : (Instr.index 208 (.agg shapeCells.toArray) (.int .i64 ((3 : Nat) : Int))).run Tryz.prog W = .ok (.agg #[.int .i64 ((3 + 1 : Nat) : Int), .string (wordB (3 + 1)), .int .i64 (numsN (3 + 1) : Int)]) W := by kernel_rfl
theorem shape_at4 (W : World) : (Instr.index 208 (.agg shapeCells.toArray) (.int .i64 ((4 : Nat) : Int))).run Tryz.prog W = .ok (.agg #[.int .i64 ((4 + 1 : Nat) : Int), .string (wordB (4 + 1)), .int .i64 (numsN (4 + 1) : Int)]) W := by kernel_rfl
theorem shape_at5 (W : World) : (Instr.index 208 (.agg shapeCells.toArray) (.int .i64 ((5 : Nat) : Int))).run Tryz.prog W = .ok (.agg #[.int .i64 ((5 + 1 : Nat) : Int), .string (wordB (5 + 1)), .int .i64 (numsN (5 + 1) : Int)]) W := by kernel_rfl
theorem shape_at6 (W : World) : (Instr.index 208 (.agg shapeCells.toArray) (.int .i64 ((6 : Nat) : Int))).run Tryz.prog W = .ok (.agg #[.int .i64 ((6 + 1 : Nat) : Int), .string (wordB (6 + 1)), .int .i64 (numsN (6 + 1) : Int)]) W := by kernel_rfl
theorem shape_at (k : Nat) (hk : k < 7) (W : World) : (Instr.index 208 (.agg shapeCells.toArray) (.int .i64 (k : Int))).run Tryz.prog W = .ok (.agg #[.int .i64 ((k + 1 : Nat) : Int), .string (wordB (k + 1)), .int .i64 (numsN (k + 1) : Int)]) W := by
 match k, hk with
 | 0, _ => exact shape_at0 W
 | 1, _ => exact shape_at1 W
 | 2, _ => exact shape_at2 W
 | 3, _ => exact shape_at3 W
 | 4, _ => exact shape_at4 W
 | 5, _ => exact shape_at5 W
 | 6, _ => exact shape_at6 W

theorem wordB_ne (j k : Nat) (h1 : 1 ≤ j) (h2 : j ≤ 7) (h3 : 1 ≤ k) (h4 : k ≤ 7) (h : j ≠ k) : ((wordB j).toList == (wordB k).toList) = false := by
 have hj : j = 1 ∨ j = 2 ∨ j = 3 ∨ j = 4 ∨ j = 5 ∨ j = 6 ∨ j = 7 := by omega
 have hk : k = 1 ∨ k = 2 ∨ k = 3 ∨ k = 4 ∨ k = 5 ∨ k = 6 ∨ k = 7 := by omega
 rcases hj with rfl | rfl | rfl | rfl | rfl | rfl | rfl <;> rcases hk with rfl | rfl | rfl | rfl | rfl | rfl | rfl <;> first | exact absurd rfl h | decide +kernel

theorem three_cells {w wr : World} {x y z : Value} {t : TypeId} (hb : Below (w.heap.size + 1) (w.alloc (.cells #[x, y, z] t)) wr) (o : Obj) :
  (wr.alloc o).cell? ⟨w.heap.size, 0, none⟩ = some x ∧ (wr.alloc o).cell? ⟨w.heap.size, 1, none⟩ = some y ∧ (wr.alloc o).cell? ⟨w.heap.size, 2, none⟩ = some z ∧ (wr.alloc o).frozen? ⟨w.heap.size, 0, none⟩ = false ∧ (wr.alloc o).frozen? ⟨w.heap.size, 1, none⟩ = false ∧ (wr.alloc o).frozen? ⟨w.heap.size, 2, none⟩ = false := by
 have hb := hb.alloc (o := o) (by have := hb.size; simpa using this)
 refine ⟨?_, ?_, ?_, ?_, ?_, ?_⟩
 ·exact (hb.cell (by simp)).trans (by simp)
 ·exact (hb.cell (by simp)).trans (by simp)
 ·exact (hb.cell (by simp)).trans (by simp)
 ·exact (hb.frozen (by simp)).trans (by simp)
 ·exact (hb.frozen (by simp)).trans (by simp)
 ·exact (hb.frozen (by simp)).trans (by simp)

theorem far3 {u : World} {g b j : Nat} (h : g ≠ b) (x y z : Value) : (((u.setCell ⟨g, 0, none⟩ x).setCell ⟨g, 1, none⟩ y).setCell ⟨g, 2, none⟩ z).cell? ⟨b, j, none⟩ = u.cell? ⟨b, j, none⟩ := by
 have e : ∀ i, (⟨g, i, none⟩ : Addr) ≠ ⟨b, j, none⟩ := fun i hh => h (congrArg Addr.block hh)
 rw [World.cell?_setCell_other _ _ _ _ (e 2), World.cell?_setCell_other _ _ _ _ (e 1), World.cell?_setCell_other _ _ _ _ (e 0)]

theorem read3 {u : World} {g : Nat} {x y z : Value} (h0 : u.cell? ⟨g, 0, none⟩ = some x) (h1 : u.cell? ⟨g, 1, none⟩ = some y) (h2 : u.cell? ⟨g, 2, none⟩ = some z) (x' y' z' : Value) :
  (((u.setCell ⟨g, 0, none⟩ x').setCell ⟨g, 1, none⟩ y').setCell ⟨g, 2, none⟩ z').cell? ⟨g, 0, none⟩ = some x' ∧ (((u.setCell ⟨g, 0, none⟩ x').setCell ⟨g, 1, none⟩ y').setCell ⟨g, 2, none⟩ z').cell? ⟨g, 1, none⟩ = some y' ∧ (((u.setCell ⟨g, 0, none⟩ x').setCell ⟨g, 1, none⟩ y').setCell ⟨g, 2, none⟩ z').cell? ⟨g, 2, none⟩ = some z' := by
 refine ⟨?_, ?_, ?_⟩
 ·rw [World.cell?_setCell_other _ _ _ _ (by simp), World.cell?_setCell_other _ _ _ _ (by simp), World.cell?_setCell_same _ _ _ h0]
 ·rw [World.cell?_setCell_other _ _ _ _ (by simp), World.cell?_setCell_same _ _ _ (u := y) (by rw [World.cell?_setCell_other _ _ _ _ (by simp)]; exact h1)]
 ·rw [World.cell?_setCell_same _ _ _ (u := z) (by rw [World.cell?_setCell_other _ _ _ _ (by simp), World.cell?_setCell_other _ _ _ _ (by simp)]; exact h2)]

set_option maxHeartbeats 400000 in
set_option maxRecDepth 100000 in
theorem shapeOfWord_yes (a : Addr) (m : Int) (w : World) (h : Env a m w) (n : Nat) (hn1 : 1 ≤ n) (hn7 : n ≤ 7) :
  Calls Tryz.prog 107 #[.string (wordB n)] w fun e w' => e = .returned (.tuple #[shp n, .nilIface]) ∧ Below w.heap.size w w' := by
 have hsz := h.size
 go_enter Tryz.func107, Tryz.ntmps107
 go_wp2_with (refine wpList_load_mid rfl 208 (.global 8) rfl 8 0 rfl shapeCells _ (h.range _) Tryz.underlying208 rfl (by kernel_rfl) ?_)
 go_loopw [7] (fun i wr => ∃ k : Nat, k < n ∧ i = .int .i64 k ∧ Below (w.heap.size + 1) (w.alloc (.cells #[.int .i64 0, .string ⟨#[]⟩, .int .i64 0] 129)) wr) (fun i _ => 7 - (intOf i).toNat)
 case atStart => exact ⟨0, by omega, rfl, Below.refl _ _⟩
 case round =>
  obtain ⟨k, hk, rfl, hb⟩ := hrel
  have hw := hb.size
  simp at hw
  have c0 := fun o => (three_cells hb o).1
  have c1 := fun o => (three_cells hb o).2.1
  have c2 := fun o => (three_cells hb o).2.2.1
  have f0 := fun o => (three_cells hb o).2.2.2.1
  have f1 := fun o => (three_cells hb o).2.2.2.2.1
  have f2 := fun o => (three_cells hb o).2.2.2.2.2
  have ix := shape_at k (by omega)
  by_cases hk1 : k + 1 = n
  ·subst hk1
   go_wp2
   have r := read3 (c0 (.cells #[.int .i64 ((k : Int) + 1), .string (wordB (k + 1)), .int .i64 (numsN (k + 1) : Int)] 129)) (c1 _) (c2 _) (.int .i64 ((k : Int) + 1)) (.string (wordB (k + 1))) (.int .i64 (numsN (k + 1) : Int))
   exact bodyPost_ret (v := .tuple #[shp (k + 1), .nilIface]) (by simp [results, Tryz.results107, go_sem, shp, r.1, r.2.1, r.2.2]) rfl ⟨rfl, (((((((Below.refl w.heap.size w).alloc (Nat.le_refl _) _).trans (hb.mono (by omega))).alloc (by omega) _).setCell (by simp) _).setCell (by simp) _).setCell (by simp) _)⟩
  ·have hq := wordB_ne (k + 1) n (by omega) (by omega) hn1 hn7 hk1
   go_wp2
   exact ⟨⟨k + 1, by omega, by go_num, hb.alloc (by omega) _⟩, by simp [intOf]; omega⟩

set_option maxHeartbeats 400000 in
set_option maxRecDepth 100000 in
theorem shapeOfKind_yes (a : Addr) (m : Int) (w : World) (h : Env a m w) (n : Nat) (hn1 : 1 ≤ n) (hn7 : n ≤ 7) :
  Calls Tryz.prog 67 #[.int .i64 (n : Int)] w fun e w' => e = .returned (.tuple #[shp n, .nilIface]) ∧ Below w.heap.size w w' := by
 have hsz := h.size
 go_enter Tryz.func67, Tryz.ntmps67
 go_wp2_with (refine wpList_load_mid rfl 208 (.global 8) rfl 8 0 rfl shapeCells _ (h.range _) Tryz.underlying208 rfl (by kernel_rfl) ?_)
 go_loopw [7] (fun i wr => ∃ k : Nat, k < n ∧ i = .int .i64 k ∧ Below (w.heap.size + 1) (w.alloc (.cells #[.int .i64 0, .string ⟨#[]⟩, .int .i64 0] 129)) wr) (fun i _ => 7 - (intOf i).toNat)
 case atStart => exact ⟨0, by omega, rfl, Below.refl _ _⟩
 case round =>
  obtain ⟨k, hk, rfl, hb⟩ := hrel
  have hw := hb.size
  simp at hw
  have c0 := fun o => (three_cells hb o).1
  have c1 := fun o => (three_cells hb o).2.1
  have c2 := fun o => (three_cells hb o).2.2.1
  have f0 := fun o => (three_cells hb o).2.2.2.1
  have f1 := fun o => (three_cells hb o).2.2.2.2.1
  have f2 := fun o => (three_cells hb o).2.2.2.2.2
  have ix := shape_at k (by omega)
  by_cases hk1 : k + 1 = n
  ·subst hk1
   go_wp2
   have r := read3 (c0 (.cells #[.int .i64 ((k : Int) + 1), .string (wordB (k + 1)), .int .i64 (numsN (k + 1) : Int)] 129)) (c1 _) (c2 _) (.int .i64 ((k : Int) + 1)) (.string (wordB (k + 1))) (.int .i64 (numsN (k + 1) : Int))
   exact bodyPost_ret (v := .tuple #[shp (k + 1), .nilIface]) (by simp [results, Tryz.results67, go_sem, shp, r.1, r.2.1, r.2.2]) rfl ⟨rfl, (((((((Below.refl w.heap.size w).alloc (Nat.le_refl _) _).trans (hb.mono (by omega))).alloc (by omega) _).setCell (by simp) _).setCell (by simp) _).setCell (by simp) _)⟩
  ·have hq : ((k : Int) + 1 == (n : Int)) = false := beq_eq_false_iff_ne.2 (by omega)
   go_wp2
   exact ⟨⟨k + 1, by omega, by go_num, hb.alloc (by omega) _⟩, by simp [intOf]; omega⟩

set_option maxHeartbeats 400000 in
set_option maxRecDepth 100000 in
theorem shapeOfWord_no (a : Addr) (m : Int) (w : World) (h : Env a m w) (s : ByteArray) (hs : ∀ n, 1 ≤ n → n ≤ 7 → ((wordB n).toList == s.toList) = false) :
  Calls Tryz.prog 107 #[.string s] w fun e w' => ∃ b, e = .returned (.tuple #[.agg #[.int .i64 0, .string ⟨#[]⟩, .int .i64 0], .iface 209 (.pointer (some ⟨b, 0, none⟩))]) ∧ w.heap.size ≤ b ∧ w'.cell? ⟨b, 1, none⟩ = some (.iface 315 (.pointer (some a))) ∧ Below w.heap.size w w' := by
 have hsz := h.size
 go_enter Tryz.func107, Tryz.ntmps107
 go_wp2_with (refine wpList_load_mid rfl 208 (.global 8) rfl 8 0 rfl shapeCells _ (h.range _) Tryz.underlying208 rfl (by kernel_rfl) ?_)
 go_loopw [7] (fun i wr => ∃ k : Nat, k ≤ 7 ∧ i = .int .i64 k ∧ Below (w.heap.size + 1) (w.alloc (.cells #[.int .i64 0, .string ⟨#[]⟩, .int .i64 0] 129)) wr) (fun i _ => 7 - (intOf i).toNat)
 case atStart => exact ⟨0, by omega, rfl, Below.refl _ _⟩
 case round =>
  obtain ⟨k, hk, rfl, hb⟩ := hrel
  have hw := hb.size
  simp at hw
  have c0 := fun o => (three_cells hb o).1
  have c1 := fun o => (three_cells hb o).2.1
  have c2 := fun o => (three_cells hb o).2.2.1
  have f0 := fun o => (three_cells hb o).2.2.2.1
  have f1 := fun o => (three_cells hb o).2.2.2.2.1
  have f2 := fun o => (three_cells hb o).2.2.2.2.2
  by_cases hlt : k < 7
  ·have ix := shape_at k hlt
   have hq := hs (k + 1) (by omega) (by omega)
   go_wp2
   exact ⟨⟨k + 1, by omega, by go_num, hb.alloc (by omega) _⟩, by simp [intOf]; omega⟩
  ·have hE : wr.cell? ⟨9, 0, none⟩ = some (.iface 315 (.pointer (some a))) := (hb.cell (by simp <;> omega)).trans ((((Below.refl w.heap.size w).alloc (Nat.le_refl _) _).cell (by simp <;> omega)).trans h.err)
   go_wp2_with (go_at_call 70; refine (refuse_any _ a _ hE).mono ?_; rintro e w' ⟨rfl, rfl⟩)
   have r := fun o => read3 (c0 o) (c1 o) (c2 o) (.int .i64 0) (.string ⟨#[]⟩) (.int .i64 0)
   have r0 := fun o => (r o).1
   have r1 := fun o => (r o).2.1
   have r2 := fun o => (r o).2.2
   refine bodyPost_ret (v := .tuple #[.agg #[.int .i64 0, .string ⟨#[]⟩, .int .i64 0], .iface 209 (.pointer (some ⟨wr.heap.size, 0, none⟩))]) (by simp [results, Tryz.results107, go_sem, r0, r1, r2]) rfl ⟨wr.heap.size, rfl, by omega, ?_, (((((((Below.refl w.heap.size w).alloc (Nat.le_refl _) _).trans (hb.mono (by omega))).alloc (by omega) _).setCell (by simp) _).setCell (by simp) _).setCell (by simp) _)⟩
   exact (far3 (by omega) _ _ _).trans (by simp)

set_option maxHeartbeats 400000 in
set_option maxRecDepth 100000 in
theorem shapeOfKind_no (a : Addr) (m : Int) (w : World) (h : Env a m w) (n : Int) (hn : n < 1 ∨ 7 < n) :
  Calls Tryz.prog 67 #[.int .i64 n] w fun e w' => ∃ b, e = .returned (.tuple #[.agg #[.int .i64 0, .string ⟨#[]⟩, .int .i64 0], .iface 209 (.pointer (some ⟨b, 0, none⟩))]) ∧ w.heap.size ≤ b ∧ w'.cell? ⟨b, 1, none⟩ = some (.iface 315 (.pointer (some a))) ∧ Below w.heap.size w w' := by
 have hsz := h.size
 go_enter Tryz.func67, Tryz.ntmps67
 go_wp2_with (refine wpList_load_mid rfl 208 (.global 8) rfl 8 0 rfl shapeCells _ (h.range _) Tryz.underlying208 rfl (by kernel_rfl) ?_)
 go_loopw [7] (fun i wr => ∃ k : Nat, k ≤ 7 ∧ i = .int .i64 k ∧ Below (w.heap.size + 1) (w.alloc (.cells #[.int .i64 0, .string ⟨#[]⟩, .int .i64 0] 129)) wr) (fun i _ => 7 - (intOf i).toNat)
 case atStart => exact ⟨0, by omega, rfl, Below.refl _ _⟩
 case round =>
  obtain ⟨k, hk, rfl, hb⟩ := hrel
  have hw := hb.size
  simp at hw
  have c0 := fun o => (three_cells hb o).1
  have c1 := fun o => (three_cells hb o).2.1
  have c2 := fun o => (three_cells hb o).2.2.1
  have f0 := fun o => (three_cells hb o).2.2.2.1
  have f1 := fun o => (three_cells hb o).2.2.2.2.1
  have f2 := fun o => (three_cells hb o).2.2.2.2.2
  by_cases hlt : k < 7
  ·have ix := shape_at k hlt
   have hq : ((k : Int) + 1 == n) = false := beq_eq_false_iff_ne.2 (by omega)
   go_wp2
   exact ⟨⟨k + 1, by omega, by go_num, hb.alloc (by omega) _⟩, by simp [intOf]; omega⟩
  ·have hE : wr.cell? ⟨9, 0, none⟩ = some (.iface 315 (.pointer (some a))) := (hb.cell (by simp <;> omega)).trans ((((Below.refl w.heap.size w).alloc (Nat.le_refl _) _).cell (by simp <;> omega)).trans h.err)
   go_wp2_with (go_at_call 70; refine (refuse_any _ a _ hE).mono ?_; rintro e w' ⟨rfl, rfl⟩)
   have r := fun o => read3 (c0 o) (c1 o) (c2 o) (.int .i64 0) (.string ⟨#[]⟩) (.int .i64 0)
   have r0 := fun o => (r o).1
   have r1 := fun o => (r o).2.1
   have r2 := fun o => (r o).2.2
   refine bodyPost_ret (v := .tuple #[.agg #[.int .i64 0, .string ⟨#[]⟩, .int .i64 0], .iface 209 (.pointer (some ⟨wr.heap.size, 0, none⟩))]) (by simp [results, Tryz.results67, go_sem, r0, r1, r2]) rfl ⟨wr.heap.size, rfl, by omega, ?_, (((((((Below.refl w.heap.size w).alloc (Nat.le_refl _) _).trans (hb.mono (by omega))).alloc (by omega) _).setCell (by simp) _).setCell (by simp) _).setCell (by simp) _)⟩
   exact (far3 (by omega) _ _ _).trans (by simp)

end Go.Proofs.YtpcgnadfldimhaaGreatDoor
