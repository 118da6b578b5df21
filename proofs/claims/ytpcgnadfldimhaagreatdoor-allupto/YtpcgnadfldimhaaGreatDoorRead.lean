/-
 command.Read, berth.errnoOf, berth.Parse, by their contracts.
-/
import Derived.Test.YtpcgnadfldimhaaGreatDoorNums
import Derived.Test.YtpcgnadfldimhaaGreatDoorShelf
namespace Go.Proofs.YtpcgnadfldimhaaGreatDoor
open Go.RowKit

theorem bcell {B : Nat} {W w1 : World} (hb : Below B W w1) : (∀ b o, b < B → w1.cell? ⟨b, o, none⟩ = W.cell? ⟨b, o, none⟩) ∧ (∀ b o, b < B → w1.frozen? ⟨b, o, none⟩ = W.frozen? ⟨b, o, none⟩) :=
 ⟨fun b o h => hb.cell (p := ⟨b, o, none⟩) h, fun b o h => hb.frozen (p := ⟨b, o, none⟩) h⟩

theorem below2 {w : World} (o1 o2 : Obj) : Below w.heap.size w ((w.alloc o1).alloc o2) := ((Below.refl _ _).alloc (Nat.le_refl _) _).alloc (by simp) _

theorem fields_on {w1 w2 : World} {ad : Option Addr} {xs : List ByteArray} (h : Fields w1 ad xs) (hb : Below w1.heap.size w1 w2) : Fields w2 ad xs := by
 refine ⟨fun j x hj => ?_, h.2⟩
 obtain ⟨g, o, rfl, hx⟩ := h.1 j x hj
 exact ⟨g, o, rfl, (hb.cell (block_lt_of_cell hx)).trans hx⟩

theorem fields_up1 {w1 : World} {ad : Option Addr} {xs : List ByteArray} (h : Fields w1 ad xs) {o : Obj} : Fields (w1.alloc o).drew ad xs := fields_on h (below_drewN (n := 1) ((Below.refl _ _).alloc (Nat.le_refl _) _))
theorem fields_up2 {w1 : World} {ad : Option Addr} {xs : List ByteArray} (h : Fields w1 ad xs) {o o' : Obj} : Fields ((w1.alloc o).alloc o').drew ad xs := fields_on h (below_drewN (n := 1) (below2 _ _))

theorem fields1 {w w1 : World} {o : Obj} {x : ByteArray} {ps : List ByteArray} {t : TypeId} (hb : Below ((w.alloc o).alloc (.cells (Value.string x :: ps.map Value.string).toArray t)).heap.size ((w.alloc o).alloc (.cells (Value.string x :: ps.map Value.string).toArray t)) w1) (hs : ∀ x, x ∈ ps → x.size ≤ maxLen) :
  Fields w1 (some ⟨w.heap.size + 1, 1, none⟩) ps := by
 refine ⟨fun j y hj => ⟨_, _, rfl, (hb.cell (by simp)).trans ?_⟩, hs⟩
 have hn := heap_alloc2_new w o (.cells (Value.string x :: ps.map Value.string).toArray t)
 refine (cell_of_row _ _ (1 + j) _ t (0, 0) hn).trans ?_
 rw [Nat.add_comm 1 j]
 simp [hj]

theorem head3 {w w1 : World} {x y z : Value} {t : TypeId} {o : Obj} (hb : Below ((w.alloc (.cells #[x, y, z] t)).alloc o).heap.size ((w.alloc (.cells #[x, y, z] t)).alloc o) w1) :
  (w1.cell? ⟨w.heap.size, 0, none⟩ = some x ∧ w1.cell? ⟨w.heap.size, 1, none⟩ = some y ∧ w1.cell? ⟨w.heap.size, 2, none⟩ = some z) ∧ ∀ j, w1.frozen? ⟨w.heap.size, j, none⟩ = false := by
 have hn := heap_alloc2_old w (.cells #[x, y, z] t) o
 have hc := fun j => (hb.cell (p := ⟨w.heap.size, j, none⟩) (by simp; omega)).trans (cell_of_row _ _ j _ t (0, 0) hn)
 exact ⟨⟨hc 0, hc 1, hc 2⟩, fun j => (hb.frozen (p := ⟨w.heap.size, j, none⟩) (by simp; omega)).trans (frozen_of_row _ _ j _ t hn)⟩

/-- What lies behind the reading of the numbers: the shape at block p, the numbers at block q, the result at the first new block. -/
structure Ready (w : World) (p q : Nat) (k d x y : Value) (wr : World) : Prop where
 k0 : wr.cell? ⟨p, 0, none⟩ = some k
 k1 : wr.cell? ⟨p, 1, none⟩ = some d
 n0 : wr.cell? ⟨q, 0, none⟩ = some x
 n1 : wr.cell? ⟨q, 1, none⟩ = some y
 r0 : wr.cell? ⟨w.heap.size, 0, none⟩ = some (.int .i64 0)
 r1 : wr.cell? ⟨w.heap.size, 1, none⟩ = some (.int .i64 0)
 r2 : wr.cell? ⟨w.heap.size, 2, none⟩ = some (.int .i64 0)
 fr : ∀ j, wr.frozen? ⟨w.heap.size, j, none⟩ = false
 bel : Below w.heap.size w wr

theorem readyA {w w1 w2 : World} {k d l x y : Value} {t t' : TypeId} (hb1 : Below w.heap.size w w1) (hz : w.heap.size + 1 + 1 ≤ w1.heap.size)
  (h0 : (w1.cell? ⟨w.heap.size, 0, none⟩ = some (.int .i64 0) ∧ w1.cell? ⟨w.heap.size, 1, none⟩ = some (.int .i64 0) ∧ w1.cell? ⟨w.heap.size, 2, none⟩ = some (.int .i64 0)) ∧ ∀ j, w1.frozen? ⟨w.heap.size, j, none⟩ = false)
  (hb2 : Below (w1.alloc (.cells #[k, d, l] t)).drew.heap.size (w1.alloc (.cells #[k, d, l] t)).drew w2) : Ready w w1.heap.size w2.heap.size k d x y (w2.alloc (.cells #[x, y] t')) := by
 have hb3 := hb2.alloc (o := .cells #[x, y] t') hb2.size
 have hz2 := hb2.size
 simp at hz2
 have hw : Below w1.heap.size w1 (w1.alloc (.cells #[k, d, l] t)).drew := below_drewN (n := 1) ((Below.refl _ _).alloc (Nat.le_refl _) _)
 have hb4 : Below w1.heap.size w1 (w2.alloc (.cells #[x, y] t')) := hw.trans (hb3.mono (by simp))
 have hn := heap_alloc_new w1 (.cells #[k, d, l] t)
 have hq := heap_alloc_new w2 (.cells #[x, y] t')
 exact {
  k0 := (hb3.cell (by simp)).trans (cell_of_row (w1.alloc (.cells #[k, d, l] t)) _ 0 _ t (0, 0) hn)
  k1 := (hb3.cell (by simp)).trans (cell_of_row (w1.alloc (.cells #[k, d, l] t)) _ 1 _ t (0, 0) hn)
  n0 := cell_of_row _ _ 0 _ t' (0, 0) hq
  n1 := cell_of_row _ _ 1 _ t' (0, 0) hq
  r0 := (hb4.cell (by simp; omega)).trans h0.1.1
  r1 := (hb4.cell (by simp; omega)).trans h0.1.2.1
  r2 := (hb4.cell (by simp; omega)).trans h0.1.2.2
  fr := fun j => (hb4.frozen (by simp; omega)).trans (h0.2 j)
  bel := hb1.trans (hb4.mono (by omega)) }

theorem far2 {u : World} {g b j : Nat} (h : g ≠ b) (x y : Value) : ((u.setCell ⟨g, 0, none⟩ x).setCell ⟨g, 1, none⟩ y).cell? ⟨b, j, none⟩ = u.cell? ⟨b, j, none⟩ := by
 have e : ∀ i, (⟨g, i, none⟩ : Addr) ≠ ⟨b, j, none⟩ := fun i hh => h (congrArg Addr.block hh)
 rw [World.cell?_setCell_other _ _ _ _ (e 1), World.cell?_setCell_other _ _ _ _ (e 0)]

theorem readyB {w w1 w2 : World} {k d l x y z z' : Value} {t t' : TypeId} (hb1 : Below w.heap.size w w1) (hz : w.heap.size + 1 + 1 ≤ w1.heap.size)
  (h0 : (w1.cell? ⟨w.heap.size, 0, none⟩ = some (.int .i64 0) ∧ w1.cell? ⟨w.heap.size, 1, none⟩ = some (.int .i64 0) ∧ w1.cell? ⟨w.heap.size, 2, none⟩ = some (.int .i64 0)) ∧ ∀ j, w1.frozen? ⟨w.heap.size, j, none⟩ = false)
  (hb2 : Below ((w1.alloc (.cells #[k, d, l] t)).alloc (.cells #[z, z'] t')).drew.heap.size ((w1.alloc (.cells #[k, d, l] t)).alloc (.cells #[z, z'] t')).drew w2) : Ready w w1.heap.size (w1.heap.size + 1) k d x y ((w2.setCell ⟨w1.heap.size + 1, 0, none⟩ x).setCell ⟨w1.heap.size + 1, 1, none⟩ y) := by
 have hz2 := hb2.size
 simp at hz2
 have hw : Below w1.heap.size w1 ((w1.alloc (.cells #[k, d, l] t)).alloc (.cells #[z, z'] t')).drew := below_drewN (n := 1) (below2 _ _)
 have hb4 : Below w1.heap.size w1 w2 := hw.trans (hb2.mono (by simp; omega))
 have hb5 : Below w1.heap.size w1 ((w2.setCell ⟨w1.heap.size + 1, 0, none⟩ x).setCell ⟨w1.heap.size + 1, 1, none⟩ y) := (hb4.setCell (by simp) _).setCell (by simp) _
 have hn := heap_alloc2_old w1 (.cells #[k, d, l] t) (.cells #[z, z'] t')
 have hq := heap_alloc2_new w1 (.cells #[k, d, l] t) (.cells #[z, z'] t')
 have c0 : w2.cell? ⟨w1.heap.size + 1, 0, none⟩ = some z := (hb2.cell (by simp)).trans (cell_of_row ((w1.alloc (.cells #[k, d, l] t)).alloc (.cells #[z, z'] t')) _ 0 _ t' (0, 0) hq)
 have c1 : w2.cell? ⟨w1.heap.size + 1, 1, none⟩ = some z' := (hb2.cell (by simp)).trans (cell_of_row ((w1.alloc (.cells #[k, d, l] t)).alloc (.cells #[z, z'] t')) _ 1 _ t' (0, 0) hq)
 exact {
  k0 := (far2 (by omega) _ _).trans ((hb2.cell (by simp; omega)).trans (cell_of_row ((w1.alloc (.cells #[k, d, l] t)).alloc (.cells #[z, z'] t')) _ 0 _ t (0, 0) hn))
  k1 := (far2 (by omega) _ _).trans ((hb2.cell (by simp; omega)).trans (cell_of_row ((w1.alloc (.cells #[k, d, l] t)).alloc (.cells #[z, z'] t')) _ 1 _ t (0, 0) hn))
  n0 := by rw [World.cell?_setCell_other _ _ _ _ (by simp), World.cell?_setCell_same _ _ _ c0]
  n1 := by rw [World.cell?_setCell_same _ _ _ (u := z') (by rw [World.cell?_setCell_other _ _ _ _ (by simp)]; exact c1)]
  r0 := (hb5.cell (by simp; omega)).trans h0.1.1
  r1 := (hb5.cell (by simp; omega)).trans h0.1.2.1
  r2 := (hb5.cell (by simp; omega)).trans h0.1.2.2
  fr := fun j => (hb5.frozen (by simp; omega)).trans (h0.2 j)
  bel := hb1.trans (hb5.mono (by omega)) }

end Go.Proofs.YtpcgnadfldimhaaGreatDoor
