/-
 The law's own functions: two rows, two events, two replies: the same?
-/
import Derived.Test.YtpcgnadfldimhaaGreatDoorRefDD
import Derived.Deep.RegionLaw
namespace Go.Proofs.YtpcgnadfldimhaaGreatDoor
open Go.RowKit

theorem lawNum (k : Int) (w : World) : Calls Tryz.prog 41 #[.int .i64 k] w fun e w' => e = .returned (.int .i64 k) ∧ w' = w := by
 go_enter Tryz.func41, Tryz.ntmps41
 go_wp2
 go_ret
 exact ⟨rfl, rfl⟩

theorem lawNumQ (k : Int) (w : World) : Calls Tryz.prog 41 #[.int .i64 k] w fun e w' => e = .returned (.int .i64 k) ∧ ∃ m, w' = w.drewN m :=
 (lawNum k w).mono fun _ _ h => ⟨h.1, 0, h.2⟩

set_option maxHeartbeats 1000000 in
theorem sameRow_eq (a b c d : Int) (w : World) : Calls Tryz.prog 49 #[.agg #[.int .i64 a, .int .i64 b, .int .i64 c, .int .i64 d], .agg #[.int .i64 a, .int .i64 b, .int .i64 c, .int .i64 d]] w fun e w' => e = .returned (.bool true) ∧ Below w.heap.size w w' := by
 go_enter Tryz.func49, Tryz.ntmps49
 go_wp2
 go_ret
 exact ⟨rfl, ((Below.refl _ _).alloc (Nat.le_refl _) _).alloc (by simp) _⟩

set_option maxHeartbeats 1000000 in
theorem sameEvent_eq (a b c d : Int) (w : World) : Calls Tryz.prog 50 #[.agg #[.int .i64 a, .int .i64 b, .int .i64 c, .int .i64 d], .agg #[.int .i64 a, .int .i64 b, .int .i64 c, .int .i64 d]] w fun e w' => e = .returned (.bool true) ∧ Below w.heap.size w w' := by
 go_enter Tryz.func50, Tryz.ntmps50
 go_wp2
 go_ret
 exact ⟨rfl, ((Below.refl _ _).alloc (Nat.le_refl _) _).alloc (by simp) _⟩

theorem below_cell {w w' : World} (hb : Below w.heap.size w w') {p : Addr} {v : Value} (h : w.cell? p = some v) : w'.cell? p = some v := (hb.cell (block_lt_of_cell h)).trans h

/-- Four cells of an element each, as they lie. -/
theorem four_at {α : Type} (f : α → List Value) (h4 : ∀ a, (f a).length = 4) : ∀ (l : List α) (i : Nat) (a : α) (t : Nat), l[i]? = some a → t < 4 → (l.flatMap f)[i * 4 + t]? = (f a)[t]?
 | [], i, a, t, h, _ => by simp at h
 | x :: r, 0, a, t, h, ht => by
  simp at h
  subst h
  rw [List.flatMap_cons, List.getElem?_append_left (by rw [h4]; omega)]
  congr 1
  omega
 | x :: r, i + 1, a, t, h, ht => by
  have ih := four_at f h4 r i a t (by simpa using h) ht
  rw [List.flatMap_cons, List.getElem?_append_right (by rw [h4]; omega), h4, ← ih]
  congr 1
  omega

/-- An element of an owned row reads as it lies. -/
theorem own_range {α : Type} (f : α → List Value) (h4 : ∀ a, (f a).length = 4) {w : World} {base : Nat} {e : TypeId} {g n cap : Nat} {l : List α} (h : w.ownsRow base e 4 (.slice (some ⟨g, 0, none⟩) n cap) n (l.flatMap f)) (hn : l.length = n) (i : Nat) (a : α) (hi : l[i]? = some a) : w.rangeAt g (i * 4) (f a) := fun t u hu => by
 have ht : t < 4 := by have := (List.getElem?_eq_some_iff.1 hu).1; rw [h4] at this; exact this
 have hil := (List.getElem?_eq_some_iff.1 hi).1
 rw [h.cellAt (i * 4 + t) (by omega), four_at f h4 l i a t hi ht]
 exact hu

set_option maxHeartbeats 4000000 in
set_option maxRecDepth 100000 in
theorem same_any (er a b c : Int) (y1 x1 y2 x2 : Value) (rows : List RowV) (evs : List Ev) (b1 b2 b3 b4 : Nat) (w : World)
  (hy1 : w.ownsRow b1 57 4 y1 rows.length (flatR rows)) (hx1 : w.ownsRow b2 55 4 x1 evs.length (flatE evs)) (hy2 : w.ownsRow b3 57 4 y2 rows.length (flatR rows)) (hx2 : w.ownsRow b4 55 4 x2 evs.length (flatE evs)) (hr : rows.length ≤ 1000000000) (he : evs.length ≤ 1000000000000) :
  Calls Tryz.prog 45 #[.agg #[.int .i64 er, .int .i64 a, .int .i64 b, .int .i64 c, y1, x1], .agg #[.int .i64 er, .int .i64 a, .int .i64 b, .int .i64 c, y2, x2]] w fun e w' => e = .returned (.bool true) ∧ Below w.heap.size w w' := by
 obtain ⟨py1, cy1, rfl⟩ := own_slice hy1
 obtain ⟨px1, cx1, rfl⟩ := own_slice hx1
 obtain ⟨py2, cy2, rfl⟩ := own_slice hy2
 obtain ⟨px2, cx2, rfl⟩ := own_slice hx2
 go_enter Tryz.func45, Tryz.ntmps45
 have hA : ((w.alloc (.cells #[.int .i64 er, .int .i64 a, .int .i64 b, .int .i64 c, .slice py1 rows.length cy1, .slice px1 evs.length cx1] 34)).alloc (.cells #[.int .i64 er, .int .i64 a, .int .i64 b, .int .i64 c, .slice py2 rows.length cy2, .slice px2 evs.length cx2] 34)).heap[w.heap.size]? = some (.cells #[.int .i64 er, .int .i64 a, .int .i64 b, .int .i64 c, .slice py1 rows.length cy1, .slice px1 evs.length cx1] 34 (0, 0)) := (Below.heap_alloc _ _ _ (by simp)).trans (heap_alloc_new _ _)
 have hB : ((w.alloc (.cells #[.int .i64 er, .int .i64 a, .int .i64 b, .int .i64 c, .slice py1 rows.length cy1, .slice px1 evs.length cx1] 34)).alloc (.cells #[.int .i64 er, .int .i64 a, .int .i64 b, .int .i64 c, .slice py2 rows.length cy2, .slice px2 evs.length cx2] 34)).heap[w.heap.size + 1]? = some (.cells #[.int .i64 er, .int .i64 a, .int .i64 b, .int .i64 c, .slice py2 rows.length cy2, .slice px2 evs.length cx2] 34 (0, 0)) := alloc_at _ _ _ (by simp)
 have hb : Below w.heap.size w ((w.alloc (.cells #[.int .i64 er, .int .i64 a, .int .i64 b, .int .i64 c, .slice py1 rows.length cy1, .slice px1 evs.length cx1] 34)).alloc (.cells #[.int .i64 er, .int .i64 a, .int .i64 b, .int .i64 c, .slice py2 rows.length cy2, .slice px2 evs.length cx2] 34)) := ((Below.refl _ _).alloc (Nat.le_refl _) _).alloc (by simp) _
 have hsz : ((w.alloc (.cells #[.int .i64 er, .int .i64 a, .int .i64 b, .int .i64 c, .slice py1 rows.length cy1, .slice px1 evs.length cx1] 34)).alloc (.cells #[.int .i64 er, .int .i64 a, .int .i64 b, .int .i64 c, .slice py2 rows.length cy2, .slice px2 evs.length cx2] 34)).heap.size = w.heap.size + 2 := by simp
 go_wp2
 generalize ((w.alloc (.cells #[.int .i64 er, .int .i64 a, .int .i64 b, .int .i64 c, .slice py1 rows.length cy1, .slice px1 evs.length cx1] 34)).alloc (.cells #[.int .i64 er, .int .i64 a, .int .i64 b, .int .i64 c, .slice py2 rows.length cy2, .slice px2 evs.length cx2] 34)) = W at *
 have p0 := cell_of_row _ _ 0 _ _ (0, 0) hA
 have p1 := cell_of_row _ _ 1 _ _ (0, 0) hA
 have p2 := cell_of_row _ _ 2 _ _ (0, 0) hA
 have p3 := cell_of_row _ _ 3 _ _ (0, 0) hA
 have p4 := cell_of_row _ _ 4 _ _ (0, 0) hA
 have p5 := cell_of_row _ _ 5 _ _ (0, 0) hA
 have q0 := cell_of_row _ _ 0 _ _ (0, 0) hB
 have q1 := cell_of_row _ _ 1 _ _ (0, 0) hB
 have q2 := cell_of_row _ _ 2 _ _ (0, 0) hB
 have q3 := cell_of_row _ _ 3 _ _ (0, 0) hB
 have q4 := cell_of_row _ _ 4 _ _ (0, 0) hB
 have q5 := cell_of_row _ _ 5 _ _ (0, 0) hB
 simp at p0 p1 p2 p3 p4 p5 q0 q1 q2 q3 q4 q5
 go_quiet (first | (go_at_call 41; exact Calls.quiet_of (lawNumQ _ _)))
 have hsz2 : w.heap.size + 2 ≤ W.heap.size := by omega
 clear hsz
 have HY1 := Lib.hid (owns_on hy1 (fun k e => hb.block k (hy1.lt k e).2))
 have HX1 := Lib.hid (owns_on hx1 (fun k e => hb.block k (hx1.lt k e).2))
 have HY2 := Lib.hid (owns_on hy2 (fun k e => hb.block k (hy2.lt k e).2))
 have HX2 := Lib.hid (owns_on hx2 (fun k e => hb.block k (hx2.lt k e).2))
 have HA := Lib.hid hA
 have HB := Lib.hid hB
 have HBW := Lib.hid hb
 clear hy1 hx1 hy2 hx2 hA hB hb
 go_wp2
 go_loopw [5] (fun iv wr => ∃ k : Nat, iv = .int .i64 k ∧ k ≤ rows.length ∧ Below W.heap.size W wr) (fun iv _ => rows.length - (intOf iv).toNat)
 case atStart => exact ⟨0, rfl, Nat.zero_le _, ⟨rfl, rfl, rfl, Nat.le_refl _, fun _ _ => rfl⟩⟩
 case round =>
  obtain ⟨k, rfl, hk, hbr⟩ := hrel
  have a4 := (hbr.cell (p := ⟨w.heap.size, 4, none⟩) (by simp; omega)).trans p4
  have b4 := (hbr.cell (p := ⟨w.heap.size + 1, 4, none⟩) (by simp; omega)).trans q4
  by_cases hlt : k < rows.length
  ·obtain ⟨j, hj⟩ : ∃ j, rows[k]? = some j := ⟨_, List.getElem?_eq_getElem hlt⟩
   obtain ⟨g1, rfl⟩ : ∃ g, py1 = some ⟨g, 0, none⟩ := by
    rcases own_forms HY1.out with ⟨_, hn⟩ | ⟨g, c2, e⟩
    ·omega
    ·exact ⟨g, by simpa using (Value.slice.inj e).1⟩
   obtain ⟨g2, rfl⟩ : ∃ g, py2 = some ⟨g, 0, none⟩ := by
    rcases own_forms HY2.out with ⟨_, hn⟩ | ⟨g, c2, e⟩
    ·omega
    ·exact ⟨g, by simpa using (Value.slice.inj e).1⟩
   have r1 := own_range RowV.cells (fun _ => rfl) (owns_on HY1.out (fun k e => hbr.block k (HY1.out.lt k e).2)) rfl k j hj
   have r2 := own_range RowV.cells (fun _ => rfl) (owns_on HY2.out (fun k e => hbr.block k (HY2.out.lt k e).2)) rfl k j hj
   obtain ⟨i1, i2, i3, i4⟩ := j
   have r1 : wr.rangeAt g1 (k * 4) [.int .i64 i1, .int .i64 i2, .int .i64 i3, .int .i64 i4] := r1
   have r2 : wr.rangeAt g2 (k * 4) [.int .i64 i1, .int .i64 i2, .int .i64 i3, .int .i64 i4] := r2
   have c10 := r1 0 _ rfl
   have c11 := r1 1 _ rfl
   have c12 := r1 2 _ rfl
   have c13 := r1 3 _ rfl
   have c20 := r2 0 _ rfl
   have c21 := r2 1 _ rfl
   have c22 := r2 2 _ rfl
   have c23 := r2 3 _ rfl
   rw [Nat.add_zero] at c10 c20
   have e1 : (0 : Int) ≤ (k : Int) := by omega
   have e2 : (k : Int) < (rows.length : Int) := by omega
   clear r1 r2 hj
   go_wp2
   go_region_held3 (fun w' => w'.cell? ⟨w.heap.size, 4, none⟩ = some (.slice (some ⟨g1, 0, none⟩) rows.length cy1) ∧ w'.cell? ⟨w.heap.size + 1, 4, none⟩ = some (.slice (some ⟨g2, 0, none⟩) rows.length cy2) ∧ w'.cell? ⟨g1, k * 4, none⟩ = some (.int .i64 i1) ∧ w'.cell? ⟨g1, k * 4 + 1, none⟩ = some (.int .i64 i2) ∧ w'.cell? ⟨g1, k * 4 + 2, none⟩ = some (.int .i64 i3) ∧ w'.cell? ⟨g1, k * 4 + 3, none⟩ = some (.int .i64 i4) ∧ w'.cell? ⟨g2, k * 4, none⟩ = some (.int .i64 i1) ∧ w'.cell? ⟨g2, k * 4 + 1, none⟩ = some (.int .i64 i2) ∧ w'.cell? ⟨g2, k * 4 + 2, none⟩ = some (.int .i64 i3) ∧ w'.cell? ⟨g2, k * 4 + 3, none⟩ = some (.int .i64 i4)) ((first | go_keep | ((repeat' apply And.intro) <;> (apply hC; assumption)))) (first | (go_at_call 49; refine (sameRow_eq _ _ _ _ _).mono ?_; rintro e w2 ⟨rfl, hb2⟩; have hC := fun p v h => below_cell (p := p) (v := v) hb2 h))
   all_goals
    have hbs : Below W.heap.size W w2 := (hbr.trans (c := wr.drew) ⟨rfl, rfl, rfl, Nat.le_refl _, fun _ _ => rfl⟩).trans (hb2.mono hbr.size)
    go_wp2
    exact ⟨⟨k + 1, by go_num, by omega, hbs⟩, by simp [intOf]; omega⟩
  ·have HBR := Lib.hid hbr
   have a5 := (hbr.cell (p := ⟨w.heap.size, 5, none⟩) (by simp; omega)).trans p5
   clear hbr hk
   go_wp2
   go_loopw [7] (fun iv wr => ∃ k : Nat, iv = .int .i64 k ∧ k ≤ evs.length ∧ Below W.heap.size W wr) (fun iv _ => evs.length - (intOf iv).toNat)
   case atStart => exact ⟨0, rfl, Nat.zero_le _, HBR.out⟩
   case round =>
    obtain ⟨k, rfl, hk, hbr⟩ := hrel
    have a5 := (hbr.cell (p := ⟨w.heap.size, 5, none⟩) (by simp; omega)).trans p5
    have b5 := (hbr.cell (p := ⟨w.heap.size + 1, 5, none⟩) (by simp; omega)).trans q5
    by_cases hlt : k < evs.length
    ·obtain ⟨j, hj⟩ : ∃ j, evs[k]? = some j := ⟨_, List.getElem?_eq_getElem hlt⟩
     obtain ⟨g1, rfl⟩ : ∃ g, px1 = some ⟨g, 0, none⟩ := by
      rcases own_forms HX1.out with ⟨_, hn⟩ | ⟨g, c2, e⟩
      ·omega
      ·exact ⟨g, by simpa using (Value.slice.inj e).1⟩
     obtain ⟨g2, rfl⟩ : ∃ g, px2 = some ⟨g, 0, none⟩ := by
      rcases own_forms HX2.out with ⟨_, hn⟩ | ⟨g, c2, e⟩
      ·omega
      ·exact ⟨g, by simpa using (Value.slice.inj e).1⟩
     have r1 := own_range Ev.cells (fun _ => rfl) (owns_on HX1.out (fun k e => hbr.block k (HX1.out.lt k e).2)) rfl k j hj
     have r2 := own_range Ev.cells (fun _ => rfl) (owns_on HX2.out (fun k e => hbr.block k (HX2.out.lt k e).2)) rfl k j hj
     obtain ⟨i1, i2, i3, i4⟩ := j
     have r1 : wr.rangeAt g1 (k * 4) [.int .i64 i1, .int .i64 i2, .int .i64 i3, .int .i64 i4] := r1
     have r2 : wr.rangeAt g2 (k * 4) [.int .i64 i1, .int .i64 i2, .int .i64 i3, .int .i64 i4] := r2
     have c10 := r1 0 _ rfl
     have c11 := r1 1 _ rfl
     have c12 := r1 2 _ rfl
     have c13 := r1 3 _ rfl
     have c20 := r2 0 _ rfl
     have c21 := r2 1 _ rfl
     have c22 := r2 2 _ rfl
     have c23 := r2 3 _ rfl
     rw [Nat.add_zero] at c10 c20
     have e1 : (0 : Int) ≤ (k : Int) := by omega
     have e2 : (k : Int) < (evs.length : Int) := by omega
     clear r1 r2 hj
     go_wp2
     go_region_held3 (fun w' => w'.cell? ⟨w.heap.size, 5, none⟩ = some (.slice (some ⟨g1, 0, none⟩) evs.length cx1) ∧ w'.cell? ⟨w.heap.size + 1, 5, none⟩ = some (.slice (some ⟨g2, 0, none⟩) evs.length cx2) ∧ w'.cell? ⟨g1, k * 4, none⟩ = some (.int .i64 i1) ∧ w'.cell? ⟨g1, k * 4 + 1, none⟩ = some (.int .i64 i2) ∧ w'.cell? ⟨g1, k * 4 + 2, none⟩ = some (.int .i64 i3) ∧ w'.cell? ⟨g1, k * 4 + 3, none⟩ = some (.int .i64 i4) ∧ w'.cell? ⟨g2, k * 4, none⟩ = some (.int .i64 i1) ∧ w'.cell? ⟨g2, k * 4 + 1, none⟩ = some (.int .i64 i2) ∧ w'.cell? ⟨g2, k * 4 + 2, none⟩ = some (.int .i64 i3) ∧ w'.cell? ⟨g2, k * 4 + 3, none⟩ = some (.int .i64 i4)) ((first | go_keep | ((repeat' apply And.intro) <;> (apply hC; assumption)))) (first | (go_at_call 50; refine (sameEvent_eq _ _ _ _ _).mono ?_; rintro e w2 ⟨rfl, hb2⟩; have hC := fun p v h => below_cell (p := p) (v := v) hb2 h))
     all_goals
      have hbs : Below W.heap.size W w2 := (hbr.trans (c := wr.drew) ⟨rfl, rfl, rfl, Nat.le_refl _, fun _ _ => rfl⟩).trans (hb2.mono hbr.size)
      go_wp2
      exact ⟨⟨k + 1, by go_num, by omega, hbs⟩, by simp [intOf]; omega⟩
    ·go_wp2
     go_ret
     exact ⟨rfl, HBW.out.trans (hbr.mono HBW.out.size)⟩

end Go.Proofs.YtpcgnadfldimhaaGreatDoor
namespace Go.Proofs.YtpcgnadfldimhaaGreatDoor
open Go.RowKit

/-- A list of elements of four cells that all hold m. -/
def Marked (w : World) (v : Value) (m : Int) : Prop := ∃ p n c, v = .slice p n c ∧ n ≤ 2000000000000 ∧ ∀ j, j < n * 4 → ∃ g, p = some ⟨g, 0, none⟩ ∧ w.cell? ⟨g, j, none⟩ = some (.int .i64 m)

theorem Marked.on {w w' : World} {v : Value} {m : Int} (h : Marked w v m) (hb : Below w.heap.size w w') : Marked w' v m := by
 obtain ⟨p, n, c, e, hn, hc⟩ := h
 exact ⟨p, n, c, e, hn, fun j hj => by obtain ⟨g, e2, hg⟩ := hc j hj; exact ⟨g, e2, below_cell hb hg⟩⟩

/-- The lists that came out, of one kind, and their marks. -/
structure Lists (w : World) (t : TypeId) (rs ms : Value) (vs : List Value) (is : List Int) : Prop where
 rows : ∃ base, w.ownsRow base t 1 rs vs.length vs
 marks : ∃ base, w.ownsRow base 3 1 ms is.length (is.map fun i => Value.int .i64 i)
 len : is.length = vs.length
 few : vs.length ≤ 8000000000
 each : ∀ (i : Nat) v m, vs[i]? = some v → is[i]? = some m → Marked w v m

theorem Lists.on {w w' : World} {t : TypeId} {rs ms : Value} {vs : List Value} {is : List Int} (h : Lists w t rs ms vs is) (hb : Below w.heap.size w w') : Lists w' t rs ms vs is := by
 obtain ⟨b1, h1⟩ := h.rows
 obtain ⟨b2, h2⟩ := h.marks
 exact ⟨⟨b1, owns_on h1 (fun k e => hb.block k (h1.lt k e).2)⟩, ⟨b2, owns_on h2 (fun k e => hb.block k (h2.lt k e).2)⟩, h.len, h.few, fun i v m hv hm => (h.each i v m hv hm).on hb⟩

set_option maxHeartbeats 8000000 in
set_option maxRecDepth 100000 in
theorem looks_any (wb : Nat) (cs rs es m0 m1 : Value) (vr ve : List Value) (ir ie : List Int) (w : World)
  (hW : w.heap[wb]? = some (.cells #[cs, rs, es, m0, m1] 71 (0, 0))) (hR : Lists w 31 rs m0 vr ir) (hE : Lists w 32 es m1 ve ie) :
  Calls Tryz.prog 30 #[.pointer (some ⟨wb, 0, none⟩)] w fun e w' => e = .returned (.bool true) ∧ Below w.heap.size w w' := by
 obtain ⟨bR, oR⟩ := hR.rows
 obtain ⟨bM, oM⟩ := hR.marks
 obtain ⟨bE, oE⟩ := hE.rows
 obtain ⟨bN, oN⟩ := hE.marks
 obtain ⟨pR, cR, rfl⟩ := own_slice oR
 obtain ⟨pM, cM, rfl⟩ := own_slice oM
 obtain ⟨pE, cE, rfl⟩ := own_slice oE
 obtain ⟨pN, cN, rfl⟩ := own_slice oN
 have c1 := cell_of_row _ _ 1 _ _ (0, 0) hW
 have c2 := cell_of_row _ _ 2 _ _ (0, 0) hW
 have c3 := cell_of_row _ _ 3 _ _ (0, 0) hW
 have c4 := cell_of_row _ _ 4 _ _ (0, 0) hW
 simp at c1 c2 c3 c4
 have hlenR := hR.len
 have hfewR := hR.few
 have hlenE := hE.len
 have hfewE := hE.few
 have HR := Lib.hid hR
 have HE := Lib.hid hE
 have HOR := Lib.hid oR
 have HOM := Lib.hid oM
 have HOE := Lib.hid oE
 have HON := Lib.hid oN
 clear hR hE oR oM oE oN hW
 go_enter Tryz.func30, Tryz.ntmps30
 go_wp2
 go_loopw [3] (fun iv wr => ∃ k : Nat, iv = .int .i64 k ∧ k ≤ vr.length ∧ Below w.heap.size w wr) (fun iv _ => vr.length - (intOf iv).toNat)
 case atStart => exact ⟨0, rfl, Nat.zero_le _, Below.refl _ _⟩
 case round =>
  obtain ⟨k, rfl, hk, hbr⟩ := hrel
  have d1 := below_cell hbr c1
  have d3 := below_cell hbr c3
  by_cases hlt : k < vr.length
  ·obtain ⟨v, hv⟩ : ∃ v, vr[k]? = some v := ⟨_, List.getElem?_eq_getElem hlt⟩
   obtain ⟨m, hm⟩ : ∃ m, ir[k]? = some m := ⟨_, List.getElem?_eq_getElem (by omega)⟩
   obtain ⟨p, n, c, rfl, hn, hcell⟩ := HR.out.each k v m hv hm
   obtain ⟨gM, rfl⟩ : ∃ g, pM = some ⟨g, 0, none⟩ := by
    rcases own_forms HOM.out with ⟨_, hn⟩ | ⟨g, c2, e⟩
    ·omega
    ·exact ⟨g, by simpa using (Value.slice.inj e).1⟩
   obtain ⟨gR, rfl⟩ : ∃ g, pR = some ⟨g, 0, none⟩ := by
    rcases own_forms HOR.out with ⟨_, hn⟩ | ⟨g, c2, e⟩
    ·omega
    ·exact ⟨g, by simpa using (Value.slice.inj e).1⟩
   have hmk : w.cell? ⟨gM, k, none⟩ = some (.int .i64 m) := by
    rw [HOM.out.cellAt k (by omega), List.getElem?_map, hm]
    rfl
   have hrk : w.cell? ⟨gR, k, none⟩ = some (.slice p n c) := by
    rw [HOR.out.cellAt k (by omega)]
    exact hv
   have HC := Lib.hid hcell
   have e1 := below_cell hbr hmk
   clear hcell hv hm
   go_wp2
   go_loopw [5] (fun jv w2 => ∃ q : Nat, jv = .int .i64 q ∧ q ≤ n ∧ Below w.heap.size w w2) (fun jv _ => n - (intOf jv).toNat)
   case atStart => exact ⟨0, rfl, Nat.zero_le _, hbr⟩
   case round =>
    obtain ⟨q, rfl, hq, hb2⟩ := hrel
    have f1 := below_cell hb2 c1
    have f2 := below_cell hb2 hrk
    by_cases hlq : q < n
    ·obtain ⟨g, rfl, h0⟩ := HC.out (q * 4) (by omega)
     have hrow : wr.rangeAt g (q * 4) [.int .i64 m, .int .i64 m, .int .i64 m, .int .i64 m] := fun t u hu => by
      have ht : t < 4 := (List.getElem?_eq_some_iff.1 hu).1
      obtain ⟨g', e', h'⟩ := HC.out (q * 4 + t) (by omega)
      simp at e'
      subst e'
      rw [below_cell hb2 h']
      match t, ht, hu with
      | 0, _, hu => simpa using hu
      | 1, _, hu => simpa using hu
      | 2, _, hu => simpa using hu
      | 3, _, hu => simpa using hu
     go_wp2_with (first | (refine wpList_load_mid rfl 57 _ rfl g (q * 4) rfl [.int .i64 m, .int .i64 m, .int .i64 m, .int .i64 m] _ hrow Tryz.underlying57 rfl (by kernel_rfl) ?_) | (go_at_call 49; refine (sameRow_eq _ _ _ _ _).mono ?_; rintro e w3 ⟨rfl, hb3⟩; have hb4 := hb2.trans (hb3.mono hb2.size)))
     all_goals exact ⟨⟨q + 1, by go_num, by omega, hb4⟩, by simp [intOf]; omega⟩
    ·go_wp2
     all_goals exact ⟨⟨k + 1, by go_num, by omega, hb2⟩, by simp [intOf]; omega⟩
  ·have HBR := Lib.hid hbr
   have d2 := below_cell hbr c2
   clear hbr hk
   go_wp2
   go_loopw [7] (fun iv wr => ∃ k : Nat, iv = .int .i64 k ∧ k ≤ ve.length ∧ Below w.heap.size w wr) (fun iv _ => ve.length - (intOf iv).toNat)
   case atStart => exact ⟨0, rfl, Nat.zero_le _, HBR.out⟩
   case round =>
    obtain ⟨k, rfl, hk, hbr⟩ := hrel
    have d1 := below_cell hbr c2
    have d3 := below_cell hbr c4
    by_cases hlt : k < ve.length
    ·obtain ⟨v, hv⟩ : ∃ v, ve[k]? = some v := ⟨_, List.getElem?_eq_getElem hlt⟩
     obtain ⟨m, hm⟩ : ∃ m, ie[k]? = some m := ⟨_, List.getElem?_eq_getElem (by omega)⟩
     obtain ⟨p, n, c, rfl, hn, hcell⟩ := HE.out.each k v m hv hm
     obtain ⟨gM, rfl⟩ : ∃ g, pN = some ⟨g, 0, none⟩ := by
      rcases own_forms HON.out with ⟨_, hn⟩ | ⟨g, c2, e⟩
      ·omega
      ·exact ⟨g, by simpa using (Value.slice.inj e).1⟩
     obtain ⟨gR, rfl⟩ : ∃ g, pE = some ⟨g, 0, none⟩ := by
      rcases own_forms HOE.out with ⟨_, hn⟩ | ⟨g, c2, e⟩
      ·omega
      ·exact ⟨g, by simpa using (Value.slice.inj e).1⟩
     have hmk : w.cell? ⟨gM, k, none⟩ = some (.int .i64 m) := by
      rw [HON.out.cellAt k (by omega), List.getElem?_map, hm]
      rfl
     have hrk : w.cell? ⟨gR, k, none⟩ = some (.slice p n c) := by
      rw [HOE.out.cellAt k (by omega)]
      exact hv
     have HC := Lib.hid hcell
     have e1 := below_cell hbr hmk
     clear hcell hv hm
     go_wp2
     go_loopw [9] (fun jv w2 => ∃ q : Nat, jv = .int .i64 q ∧ q ≤ n ∧ Below w.heap.size w w2) (fun jv _ => n - (intOf jv).toNat)
     case atStart => exact ⟨0, rfl, Nat.zero_le _, hbr⟩
     case round =>
      obtain ⟨q, rfl, hq, hb2⟩ := hrel
      have f1 := below_cell hb2 c2
      have f2 := below_cell hb2 hrk
      by_cases hlq : q < n
      ·obtain ⟨g, rfl, h0⟩ := HC.out (q * 4) (by omega)
       have hrow : wr.rangeAt g (q * 4) [.int .i64 m, .int .i64 m, .int .i64 m, .int .i64 m] := fun t u hu => by
        have ht : t < 4 := (List.getElem?_eq_some_iff.1 hu).1
        obtain ⟨g', e', h'⟩ := HC.out (q * 4 + t) (by omega)
        simp at e'
        subst e'
        rw [below_cell hb2 h']
        match t, ht, hu with
        | 0, _, hu => simpa using hu
        | 1, _, hu => simpa using hu
        | 2, _, hu => simpa using hu
        | 3, _, hu => simpa using hu
       go_wp2_with (first | (refine wpList_load_mid rfl 55 _ rfl g (q * 4) rfl [.int .i64 m, .int .i64 m, .int .i64 m, .int .i64 m] _ hrow Tryz.underlying55 rfl (by kernel_rfl) ?_) | (go_at_call 50; refine (sameEvent_eq _ _ _ _ _).mono ?_; rintro e w3 ⟨rfl, hb3⟩; have hb4 := hb2.trans (hb3.mono hb2.size)))
       all_goals exact ⟨⟨q + 1, by go_num, by omega, hb4⟩, by simp [intOf]; omega⟩
      ·go_wp2
       all_goals exact ⟨⟨k + 1, by go_num, by omega, hb2⟩, by simp [intOf]; omega⟩
    ·go_wp2
     go_ret
     exact ⟨rfl, hbr⟩

end Go.Proofs.YtpcgnadfldimhaaGreatDoor
namespace Go.Proofs.YtpcgnadfldimhaaGreatDoor
open Go.RowKit

/-- Behind such an append, where all elements hold m: what was marked so is still so marked; the new one is too. -/
theorem marked_append {w w' : World} {base : Nat} {e : TypeId} {v : Value} {n k g cap H : Nat} {m : Int} (hlow : n + k ≤ 2000000000000) (ho : w'.ownsRow base e 4 (.slice (some ⟨g, 0, none⟩) (n + k) cap) (n + k) (List.replicate ((n + k) * 4) (.int .i64 m)))
  (hp : (v = .slice (some ⟨g, 0, none⟩) n cap ∧ w.grownBy w' (some g)) ∨ (g = H ∧ w.grownBy w' none)) :
  Marked w' (.slice (some ⟨g, 0, none⟩) (n + k) cap) m ∧ ∀ p q c, q ≤ n + k → Marked w (.slice p q c) m → Marked w' (.slice p q c) m := by
 have hc : ∀ j, j < (n + k) * 4 → w'.cell? ⟨g, j, none⟩ = some (.int .i64 m) := fun j hj => by
  rw [ho.cellAt j hj]
  simp [hj]
 refine ⟨⟨_, _, _, rfl, hlow, fun j hj => ⟨g, rfl, hc j hj⟩⟩, fun p q c hq ⟨p', q', c', e', hq', hcell⟩ => ?_⟩
 obtain ⟨rfl, rfl, rfl⟩ := Value.slice.inj e'
 refine ⟨p, q, c, rfl, hq', fun j hj => ?_⟩
 obtain ⟨gg, rfl, hg⟩ := hcell j hj
 refine ⟨gg, rfl, ?_⟩
 by_cases hgg : gg = g
 ·subst hgg
  exact hc j (by omega)
 ·have hlt : gg < w.heap.size := block_lt_of_cell (a := ⟨gg, j, none⟩) hg
  rcases hp with ⟨_, hgr⟩ | ⟨_, hgr⟩
  ·rw [World.cell?_of_block (hgr.block gg hlt (by simpa using fun e => hgg e))]
   exact hg
  ·rw [World.cell?_of_block (hgr.block gg hlt (by simp))]
   exact hg

end Go.Proofs.YtpcgnadfldimhaaGreatDoor
namespace Go.Proofs.YtpcgnadfldimhaaGreatDoor
open Go.RowKit

/-- The first i elements hold m. -/
def fill (xs : List Value) (m : Int) (i : Nat) : List Value := List.replicate (i * 4) (.int .i64 m) ++ xs.drop (i * 4)
theorem fill_zero (xs : List Value) (m : Int) : fill xs m 0 = xs := by simp [fill]
theorem fill_all (xs : List Value) (m : Int) (n : Nat) (h : xs.length = n * 4) : fill xs m n = List.replicate (n * 4) (.int .i64 m) := by
 simp [fill, List.drop_eq_nil_of_le (Nat.le_of_eq h)]
theorem fill_len (xs : List Value) (m : Int) (n i : Nat) (h : xs.length = n * 4) (hi : i ≤ n) : (fill xs m i).length = n * 4 := by
 simp [fill, h]
 omega
theorem set_at_rep (k : Nat) (a u : Value) (r : List Value) : (List.replicate k u ++ a :: r).set k u = List.replicate (k + 1) u ++ r := by
 rw [List.set_append_right _ _ (by simp)]
 simp [List.replicate_succ', List.append_assoc]
theorem fill_step (xs : List Value) (m : Int) (n i : Nat) (h : xs.length = n * 4) (hi : i < n) : ((((fill xs m i).set (i * 4) (.int .i64 m)).set (i * 4 + 1) (.int .i64 m)).set (i * 4 + 2) (.int .i64 m)).set (i * 4 + 3) (.int .i64 m) = fill xs m (i + 1) := by
 have hl : (xs.drop (i * 4)).length = n * 4 - i * 4 := by simp [h]
 match e : xs.drop (i * 4), hl with
 | [], hl => simp at hl; omega
 | [_], hl => simp at hl; omega
 | [_, _], hl => simp at hl; omega
 | [_, _, _], hl => simp at hl; omega
 | a :: b :: c :: d :: r, hl =>
  have e2 : xs.drop ((i + 1) * 4) = r := by
   have : xs.drop (i * 4 + 4) = (xs.drop (i * 4)).drop 4 := by rw [List.drop_drop]
   rw [show (i + 1) * 4 = i * 4 + 4 by omega, this, e]
   rfl
  simp only [fill]
  rw [e, e2, set_at_rep, set_at_rep, set_at_rep, set_at_rep]
  rw [show (i + 1) * 4 = i * 4 + 1 + 1 + 1 + 1 by omega]

/-- Four cells of an owned row, written. -/
abbrev put4 (w : World) (g i : Nat) (m : Int) : World := (((w.setCell ⟨g, i * 4, none⟩ (.int .i64 m)).setCell ⟨g, i * 4 + 1, none⟩ (.int .i64 m)).setCell ⟨g, i * 4 + 2, none⟩ (.int .i64 m)).setCell ⟨g, i * 4 + 3, none⟩ (.int .i64 m)
theorem owns_put4 {w : World} {base : Nat} {e : TypeId} {g n cap : Nat} {xs : List Value} {m : Int} {i : Nat} (h0 : xs.length = n * 4) (hi : i < n) (h : w.ownsRow base e 4 (.slice (some ⟨g, 0, none⟩) n cap) n (fill xs m i)) : (put4 w g i m).ownsRow base e 4 (.slice (some ⟨g, 0, none⟩) n cap) n (fill xs m (i + 1)) := by
 have h1 := (h.stored (i * 4) (.int .i64 m)).1
 have h2 := (h1.stored (i * 4 + 1) (.int .i64 m)).1
 have h3 := (h2.stored (i * 4 + 2) (.int .i64 m)).1
 have h4 := (h3.stored (i * 4 + 3) (.int .i64 m)).1
 rw [fill_step xs m n i h0 hi] at h4
 exact h4
theorem Kept.put4 {S : Nat → Prop} {w u : World} (h : Kept S w u) {g : Nat} (hg : S g ∨ w.heap.size ≤ g) (i : Nat) (m : Int) : Kept S w (put4 u g i m) :=
 (((h.setCell (p := ⟨g, i * 4, none⟩) hg _).setCell (p := ⟨g, i * 4 + 1, none⟩) hg _).setCell (p := ⟨g, i * 4 + 2, none⟩) hg _).setCell (p := ⟨g, i * 4 + 3, none⟩) hg _

/-- How memory stands while an owner writes its list full: the list is full of m; the block pb holds one such element; what was made of it is so marked. -/
structure Half (bl pb : Nat) (w0 : World) (e : TypeId) (l : Value) (n : Nat) (m : Int) (vs : List Value) (wr : World) : Prop where
 own : wr.ownsRow bl e 4 l n (List.replicate (n * 4) (.int .i64 m))
 el : wr.heap[pb]? = some (.cells #[.int .i64 m, .int .i64 m, .int .i64 m, .int .i64 m] e (0, 0))
 kept : Kept (fun k => l.ownBlock = some k) w0 wr
 few : n + 3 ≤ 2000000000000
 pb0 : w0.heap.size ≤ pb
 low : ∀ k, l.ownBlock = some k → k < w0.heap.size
 made : ∀ v ∈ vs, ∃ p q c, v = .slice p q c ∧ q ≤ n + vs.length ∧ Marked wr v m ∧ ∀ k, v.ownBlock = some k → l.ownBlock = some k ∨ (w0.heap.size ≤ k ∧ k < wr.heap.size)

theorem Half.self {bl pb : Nat} {w0 : World} {e : TypeId} {l : Value} {n : Nat} {m : Int} {vs : List Value} {wr : World} (h : Half bl pb w0 e l n m vs wr) : Marked wr l m := by
 have hf := h.few
 rcases own_forms h.own with ⟨rfl, rfl⟩ | ⟨g, c, rfl⟩
 ·exact ⟨none, 0, 0, rfl, by omega, fun j hj => by omega⟩
 ·refine ⟨_, n, c, rfl, by omega, fun j hj => ⟨g, rfl, ?_⟩⟩
  rw [h.own.cellAt j hj]
  simp [hj]

theorem Half.append {bl pb : Nat} {w0 : World} {e : TypeId} {l : Value} {n : Nat} {m : Int} {vs : List Value} {wr : World} (h : Half bl pb w0 e l n m vs wr) (hv : vs.length ≤ 2) (o : Obj) {w' : World} {g cap H : Nat} (hH : H = (wr.alloc o).heap.size)
  (ho : w'.ownsRow bl e 4 (.slice (some ⟨g, 0, none⟩) (n + (vs.length + 1)) cap) (n + (vs.length + 1)) (List.replicate (n * 4) (.int .i64 m) ++ List.replicate ((vs.length + 1) * 4) (.int .i64 m)))
  (hp : (l = .slice (some ⟨g, 0, none⟩) n cap ∧ (wr.alloc o).grownBy w' (some g)) ∨ (g = H ∧ (wr.alloc o).grownBy w' none)) :
  Half bl pb w0 e l n m (vs ++ [.slice (some ⟨g, 0, none⟩) (n + (vs.length + 1)) cap]) w' := by
 have hsz := h.kept.size
 have hpb := (Array.getElem?_eq_some_iff.1 h.el).1
 have hf := h.few
 have ho2 : w'.ownsRow bl e 4 (.slice (some ⟨g, 0, none⟩) (n + (vs.length + 1)) cap) (n + (vs.length + 1)) (List.replicate ((n + (vs.length + 1)) * 4) (.int .i64 m)) := by
  rw [List.replicate_append_replicate] at ho
  rw [Nat.add_mul]
  exact ho
 have hma := marked_append (w := wr.alloc o) (v := l) (by omega) ho2 hp
 have hgl : ∀ k, l.ownBlock = some k → k < wr.heap.size := fun k e => by have := h.low k e; omega
 have hbl : ∀ k, k < wr.heap.size → ¬ l.ownBlock = some k → w'.heap[k]? = wr.heap[k]? := fun k hk hn => by
  rcases hp with ⟨rfl, hg⟩ | ⟨_, hg⟩
  ·exact (hg.block k (by simp; omega) (fun e => hn (by simpa [Value.ownBlock] using e.symm))).trans (Below.heap_alloc _ _ _ hk)
  ·exact (hg.block k (by simp; omega) (by simp)).trans (Below.heap_alloc _ _ _ hk)
 refine ⟨owns_append (h.own.alloc o) ho hp, (hbl pb hpb (fun e => by have := h.low pb e; have := h.pb0; omega)).trans h.el, (h.kept.alloc o).parts hp (fun k e => Or.inl e), hf, h.pb0, h.low, fun v hmem => ?_⟩
 rcases List.mem_append.1 hmem with hmem | hmem
 ·obtain ⟨p, q, c, rfl, hq, hM, hb⟩ := h.made v hmem
  refine ⟨p, q, c, rfl, by simp; omega, hma.2 p q c (by omega) (hM.on ((Below.refl _ _).alloc (Nat.le_refl _) o)), fun k e => (hb k e).imp id (fun e2 => ⟨e2.1, ?_⟩)⟩
  have h1 : (wr.alloc o).heap.size ≤ w'.heap.size := by rcases hp with ⟨_, hg⟩ | ⟨_, hg⟩ <;> exact hg.size
  simp at h1
  omega
 ·simp at hmem
  subst hmem
  refine ⟨_, _, _, rfl, by simp, hma.1, fun k e => ?_⟩
  simp [Value.ownBlock] at e
  subst e
  rcases hp with ⟨rfl, _⟩ | ⟨e2, _⟩
  ·exact Or.inl rfl
  ·refine Or.inr ⟨?_, (ho.lt g rfl).2⟩
   rw [e2, hH]; simp; omega

theorem Tryz.infoRows : (Tryz.prog.info? 31).map (fun i => (i.zero, i.size, i.bytes)) = some (some (.slice none 0 0), 1, 24) := by kernel_rfl
theorem Tryz.infoEvents : (Tryz.prog.info? 32).map (fun i => (i.zero, i.size, i.bytes)) = some (some (.slice none 0 0), 1, 24) := by kernel_rfl
theorem Tryz.infoInt : (Tryz.prog.info? 3).map (fun i => (i.zero, i.size, i.bytes)) = some (some (.int .i64 0), 1, 8) := by kernel_rfl

/-- The law's memory. -/
structure LawM (B wb : Nat) (cs rs es m0 m1 : Value) (vr ve : List Value) (ir ie : List Int) (w : World) : Prop where
 W : w.heap[wb]? = some (.cells #[cs, rs, es, m0, m1] 71 (0, 0))
 oR : w.ownsRow B 31 1 rs vr.length vr
 oE : w.ownsRow B 32 1 es ve.length ve
 oM : w.ownsRow B 3 1 m0 ir.length (ir.map fun i => Value.int .i64 i)
 oN : w.ownsRow B 3 1 m1 ie.length (ie.map fun i => Value.int .i64 i)
 two : ∀ k, m0.ownBlock = some k → m1.ownBlock ≠ some k
 low : B ≤ wb

/-- Which blocks are the law's own. -/
def lawB (wb : Nat) (rs es m0 m1 : Value) (k : Nat) : Prop := k = wb ∨ rs.ownBlock = some k ∨ es.ownBlock = some k ∨ m0.ownBlock = some k ∨ m1.ownBlock = some k

theorem LawM.on {B wb : Nat} {cs rs es m0 m1 : Value} {vr ve : List Value} {ir ie : List Int} {w w' : World} (h : LawM B wb cs rs es m0 m1 vr ve ir ie w) (hk : ∀ k, lawB wb rs es m0 m1 k → w'.heap[k]? = w.heap[k]?) : LawM B wb cs rs es m0 m1 vr ve ir ie w' :=
 ⟨(hk wb (Or.inl rfl)).trans h.W, owns_on h.oR (fun k e => hk k (Or.inr (Or.inl e))), owns_on h.oE (fun k e => hk k (Or.inr (Or.inr (Or.inl e)))), owns_on h.oM (fun k e => hk k (Or.inr (Or.inr (Or.inr (Or.inl e))))), owns_on h.oN (fun k e => hk k (Or.inr (Or.inr (Or.inr (Or.inr e))))), h.two, h.low⟩
theorem LawM.lt {B wb : Nat} {cs rs es m0 m1 : Value} {vr ve : List Value} {ir ie : List Int} {w : World} (h : LawM B wb cs rs es m0 m1 vr ve ir ie w) (k : Nat) (hk : lawB wb rs es m0 m1 k) : k < w.heap.size := by
 rcases hk with rfl | e | e | e | e
 ·exact (Array.getElem?_eq_some_iff.1 h.W).1
 ·exact (h.oR.lt k e).2
 ·exact (h.oE.lt k e).2
 ·exact (h.oM.lt k e).2
 ·exact (h.oN.lt k e).2
theorem LawM.kept {B wb : Nat} {cs rs es m0 m1 : Value} {vr ve : List Value} {ir ie : List Int} {w w' : World} {S : Nat → Prop} (h : LawM B wb cs rs es m0 m1 vr ve ir ie w) (hK : Kept S w w') (hS : ∀ k, S k → ¬ lawB wb rs es m0 m1 k) : LawM B wb cs rs es m0 m1 vr ve ir ie w' :=
 h.on fun k hk => hK.block k (h.lt k hk) (fun hs => hS k hs hk)

theorem LawM.pushR {B wb : Nat} {cs rs es m0 m1 : Value} {vr ve : List Value} {ir ie : List Int} {w w1 : World} {g c : Nat} {ns : List Value} (h : LawM B wb cs rs es m0 m1 vr ve ir ie w) (ho : w1.ownsRow B 31 1 (.slice (some ⟨g, 0, none⟩) (vr.length + ns.length) c) (vr.length + ns.length) (vr ++ ns)) (hg : w.grownBy w1 rs.ownBlock) :
  w1.heap[wb]? = some (.cells #[cs, rs, es, m0, m1] 71 (0, 0)) ∧ LawM B wb cs (.slice (some ⟨g, 0, none⟩) (vr.length + ns.length) c) es m0 m1 (vr ++ ns) ve ir ie (w1.setCell ⟨wb, 1, none⟩ (.slice (some ⟨g, 0, none⟩) (vr.length + ns.length) c)) := by
 have h1 : w1.heap[wb]? = some (.cells #[cs, rs, es, m0, m1] 71 (0, 0)) := (hg.block wb (Array.getElem?_eq_some_iff.1 h.W).1 (fun e => owns_not h.oR h.W (by decide) e.symm)).trans h.W
 have koE := owns_on h.oE (w' := w1) (fun k e => hg.block k (h.oE.lt k e).2 (fun e2 => owns_apart h.oR h.oE (by decide) k e2.symm e))
 have koM := owns_on h.oM (w' := w1) (fun k e => hg.block k (h.oM.lt k e).2 (fun e2 => owns_apart h.oR h.oM (by decide) k e2.symm e))
 have koN := owns_on h.oN (w' := w1) (fun k e => hg.block k (h.oN.lt k e).2 (fun e2 => owns_apart h.oR h.oN (by decide) k e2.symm e))
 exact ⟨h1, heap_setCell_same w1 wb 1 _ _ _ h1, (by rw [List.length_append]; exact ownsRow_setCell_other ho (owns_not ho h1 (by decide)) _), ownsRow_setCell_other koE (owns_not koE h1 (by decide)) _, ownsRow_setCell_other koM (owns_not koM h1 (by decide)) _, ownsRow_setCell_other koN (owns_not koN h1 (by decide)) _, h.two, h.low⟩

theorem LawM.pushE {B wb : Nat} {cs rs es m0 m1 : Value} {vr ve : List Value} {ir ie : List Int} {w w1 : World} {g c : Nat} {ns : List Value} (h : LawM B wb cs rs es m0 m1 vr ve ir ie w) (ho : w1.ownsRow B 32 1 (.slice (some ⟨g, 0, none⟩) (ve.length + ns.length) c) (ve.length + ns.length) (ve ++ ns)) (hg : w.grownBy w1 es.ownBlock) :
  w1.heap[wb]? = some (.cells #[cs, rs, es, m0, m1] 71 (0, 0)) ∧ LawM B wb cs rs (.slice (some ⟨g, 0, none⟩) (ve.length + ns.length) c) m0 m1 vr (ve ++ ns) ir ie (w1.setCell ⟨wb, 2, none⟩ (.slice (some ⟨g, 0, none⟩) (ve.length + ns.length) c)) := by
 have h1 : w1.heap[wb]? = some (.cells #[cs, rs, es, m0, m1] 71 (0, 0)) := (hg.block wb (Array.getElem?_eq_some_iff.1 h.W).1 (fun e => owns_not h.oE h.W (by decide) e.symm)).trans h.W
 have koR := owns_on h.oR (w' := w1) (fun k e => hg.block k (h.oR.lt k e).2 (fun e2 => owns_apart h.oE h.oR (by decide) k e2.symm e))
 have koM := owns_on h.oM (w' := w1) (fun k e => hg.block k (h.oM.lt k e).2 (fun e2 => owns_apart h.oE h.oM (by decide) k e2.symm e))
 have koN := owns_on h.oN (w' := w1) (fun k e => hg.block k (h.oN.lt k e).2 (fun e2 => owns_apart h.oE h.oN (by decide) k e2.symm e))
 exact ⟨h1, heap_setCell_same w1 wb 2 _ _ _ h1, ownsRow_setCell_other koR (owns_not koR h1 (by decide)) _, (by rw [List.length_append]; exact ownsRow_setCell_other ho (owns_not ho h1 (by decide)) _), ownsRow_setCell_other koM (owns_not koM h1 (by decide)) _, ownsRow_setCell_other koN (owns_not koN h1 (by decide)) _, h.two, h.low⟩

theorem LawM.pushM {B wb : Nat} {cs rs es m0 m1 : Value} {vr ve : List Value} {ir ie : List Int} {w w1 : World} {g c : Nat} {ns : List Int} (h : LawM B wb cs rs es m0 m1 vr ve ir ie w) (ho : w1.ownsRow B 3 1 (.slice (some ⟨g, 0, none⟩) (ir.length + ns.length) c) (ir.length + ns.length) ((ir.map fun i => Value.int .i64 i) ++ (ns.map fun i => Value.int .i64 i))) (hg : w.grownBy w1 m0.ownBlock) (hat : m0.ownBlock = some g ∨ g = w.heap.size) :
  w1.heap[wb]? = some (.cells #[cs, rs, es, m0, m1] 71 (0, 0)) ∧ LawM B wb cs rs es (.slice (some ⟨g, 0, none⟩) (ir.length + ns.length) c) m1 vr ve (ir ++ ns) ie (w1.setCell ⟨wb, 3, none⟩ (.slice (some ⟨g, 0, none⟩) (ir.length + ns.length) c)) := by
 have h1 : w1.heap[wb]? = some (.cells #[cs, rs, es, m0, m1] 71 (0, 0)) := (hg.block wb (Array.getElem?_eq_some_iff.1 h.W).1 (fun e => owns_not h.oM h.W (by decide) e.symm)).trans h.W
 have koR := owns_on h.oR (w' := w1) (fun k e => hg.block k (h.oR.lt k e).2 (fun e2 => owns_apart h.oM h.oR (by decide) k e2.symm e))
 have koE := owns_on h.oE (w' := w1) (fun k e => hg.block k (h.oE.lt k e).2 (fun e2 => owns_apart h.oM h.oE (by decide) k e2.symm e))
 have koN := owns_on h.oN (w' := w1) (fun k e => hg.block k (h.oN.lt k e).2 (fun e2 => h.two k e2.symm e))
 exact ⟨h1, heap_setCell_same w1 wb 3 _ _ _ h1, ownsRow_setCell_other koR (owns_not koR h1 (by decide)) _, ownsRow_setCell_other koE (owns_not koE h1 (by decide)) _, (by rw [List.length_append, List.map_append]; exact ownsRow_setCell_other ho (owns_not ho h1 (by decide)) _), ownsRow_setCell_other koN (owns_not koN h1 (by decide)) _, (fun k e e2 => by
  simp [Value.ownBlock] at e
  subst e
  rcases hat with e3 | e3
  ·exact h.two g e3 e2
  ·have := (h.oN.lt g e2).2
   omega), h.low⟩

theorem LawM.pushN {B wb : Nat} {cs rs es m0 m1 : Value} {vr ve : List Value} {ir ie : List Int} {w w1 : World} {g c : Nat} {ns : List Int} (h : LawM B wb cs rs es m0 m1 vr ve ir ie w) (ho : w1.ownsRow B 3 1 (.slice (some ⟨g, 0, none⟩) (ie.length + ns.length) c) (ie.length + ns.length) ((ie.map fun i => Value.int .i64 i) ++ (ns.map fun i => Value.int .i64 i))) (hg : w.grownBy w1 m1.ownBlock) (hat : m1.ownBlock = some g ∨ g = w.heap.size) :
  w1.heap[wb]? = some (.cells #[cs, rs, es, m0, m1] 71 (0, 0)) ∧ LawM B wb cs rs es m0 (.slice (some ⟨g, 0, none⟩) (ie.length + ns.length) c) vr ve ir (ie ++ ns) (w1.setCell ⟨wb, 4, none⟩ (.slice (some ⟨g, 0, none⟩) (ie.length + ns.length) c)) := by
 have h1 : w1.heap[wb]? = some (.cells #[cs, rs, es, m0, m1] 71 (0, 0)) := (hg.block wb (Array.getElem?_eq_some_iff.1 h.W).1 (fun e => owns_not h.oN h.W (by decide) e.symm)).trans h.W
 have koR := owns_on h.oR (w' := w1) (fun k e => hg.block k (h.oR.lt k e).2 (fun e2 => owns_apart h.oN h.oR (by decide) k e2.symm e))
 have koE := owns_on h.oE (w' := w1) (fun k e => hg.block k (h.oE.lt k e).2 (fun e2 => owns_apart h.oN h.oE (by decide) k e2.symm e))
 have koM := owns_on h.oM (w' := w1) (fun k e => hg.block k (h.oM.lt k e).2 (fun e2 => h.two k e e2.symm))
 exact ⟨h1, heap_setCell_same w1 wb 4 _ _ _ h1, ownsRow_setCell_other koR (owns_not koR h1 (by decide)) _, ownsRow_setCell_other koE (owns_not koE h1 (by decide)) _, ownsRow_setCell_other koM (owns_not koM h1 (by decide)) _, (by rw [List.length_append, List.map_append]; exact ownsRow_setCell_other ho (owns_not ho h1 (by decide)) _), (fun k e e2 => by
  simp [Value.ownBlock] at e2
  subst e2
  rcases hat with e3 | e3
  ·exact h.two g e e3
  ·have := (h.oM.lt g e).2
   omega), h.low⟩

/-- What is none of the law's kinds lies apart from the law's own blocks. -/
theorem LawM.avoid {B wb : Nat} {cs rs es m0 m1 : Value} {vr ve : List Value} {ir ie : List Int} {w : World} (h : LawM B wb cs rs es m0 m1 vr ve ir ie w) {b : Nat} {e : TypeId} {s n : Nat} {v : Value} {xs : List Value} (ho : w.ownsRow b e s v n xs) (h1 : e ≠ 71) (h2 : e ≠ 31) (h3 : e ≠ 32) (h4 : e ≠ 3) (k : Nat) (hk : v.ownBlock = some k) : ¬ lawB wb rs es m0 m1 k := fun hh => by
 rcases hh with rfl | e2 | e2 | e2 | e2
 ·exact owns_not ho h.W h1 hk
 ·exact owns_apart ho h.oR h2 k hk e2
 ·exact owns_apart ho h.oE h3 k hk e2
 ·exact owns_apart ho h.oM h4 k hk e2
 ·exact owns_apart ho h.oN h4 k hk e2

theorem Marked.kept {S : Nat → Prop} {w w' : World} {v : Value} {m : Int} (h : Marked w v m) (hK : Kept S w w') (hS : ∀ k, v.ownBlock = some k → ¬ S k) : Marked w' v m := by
 obtain ⟨p, n, c, rfl, hn, hc⟩ := h
 refine ⟨p, n, c, rfl, hn, fun j hj => ?_⟩
 obtain ⟨g, rfl, hg⟩ := hc j hj
 refine ⟨g, rfl, ?_⟩
 rw [World.cell?_of_block (hK.block g (block_lt_of_cell (a := ⟨g, j, none⟩) hg) (hS g rfl))]
 exact hg

/-- Lists that are so marked, in l's own block or in blocks that are new since w0, none of them among lb. -/
def Grp (w0 w : World) (l : Value) (m : Int) (vs : List Value) (lb : Nat → Prop) : Prop := ∀ v ∈ l :: vs, Marked w v m ∧ ∀ k, v.ownBlock = some k → (l.ownBlock = some k ∨ w0.heap.size ≤ k) ∧ ¬ lb k ∧ k < w.heap.size

theorem Grp.on {w0 w w' : World} {l : Value} {m : Int} {vs : List Value} {lb lb' : Nat → Prop} (h : Grp w0 w l m vs lb) (hK : Kept lb w w') (hl : ∀ k, lb' k → lb k ∨ w.heap.size ≤ k) : Grp w0 w' l m vs lb' := fun v hv => by
 obtain ⟨h1, h2⟩ := h v hv
 refine ⟨h1.kept hK (fun k e => (h2 k e).2.1), fun k e => ⟨(h2 k e).1, fun e2 => ?_, Nat.lt_of_lt_of_le (h2 k e).2.2 hK.size⟩⟩
 rcases hl k e2 with e3 | e3
 ·exact (h2 k e).2.1 e3
 ·have := (h2 k e).2.2
  omega
theorem Grp.far {w0 w w' : World} {l : Value} {m : Int} {vs : List Value} {lb S : Nat → Prop} (h : Grp w0 w l m vs lb) (hK : Kept S w w') (hS : ∀ k, S k → l.ownBlock ≠ some k ∧ k < w0.heap.size) : Grp w0 w' l m vs lb := fun v hv => by
 obtain ⟨h1, h2⟩ := h v hv
 refine ⟨h1.kept hK (fun k e hs => ?_), fun k e => ⟨(h2 k e).1, (h2 k e).2.1, Nat.lt_of_lt_of_le (h2 k e).2.2 hK.size⟩⟩
 rcases (h2 k e).1 with e3 | e3
 ·exact (hS k hs).1 e3
 ·have := (hS k hs).2
  omega
theorem Half.grp {bl pb : Nat} {w0 : World} {e : TypeId} {l : Value} {n : Nat} {m : Int} {vs : List Value} {wr : World} {lb : Nat → Prop} (h : Half bl pb w0 e l n m vs wr) (hlb : ∀ k, lb k → l.ownBlock ≠ some k ∧ k < w0.heap.size) : Grp w0 wr l m vs lb := fun v hv => by
 have hsz := h.kept.size
 rcases List.mem_cons.1 hv with rfl | hv
 ·exact ⟨h.self, fun k e => ⟨Or.inl e, fun e2 => (hlb k e2).1 e, by have := h.low k e; omega⟩⟩
 ·obtain ⟨p, q, c, rfl, _, hM, hb⟩ := h.made v hv
  refine ⟨hM, fun k e => ?_⟩
  rcases hb k e with e2 | e2
  ·exact ⟨Or.inl e2, fun e3 => (hlb k e3).1 e2, by have := h.low k e2; omega⟩
  ·exact ⟨Or.inr e2.1, fun e3 => by have := (hlb k e3).2; omega, e2.2⟩

end Go.Proofs.YtpcgnadfldimhaaGreatDoor
namespace Go.Proofs.YtpcgnadfldimhaaGreatDoor
open Go.RowKit

theorem lawB_R {wb : Nat} {rs es m0 m1 : Value} {g n c k H : Nat} (hat : rs.ownBlock = some g ∨ H ≤ g) (h : lawB wb (.slice (some ⟨g, 0, none⟩) n c) es m0 m1 k) : lawB wb rs es m0 m1 k ∨ H ≤ k := by
 rcases h with e | e | e | e | e
 ·exact Or.inl (Or.inl e)
 ·simp [Value.ownBlock] at e
  subst e
  exact hat.imp (fun e => Or.inr (Or.inl e)) id
 ·exact Or.inl (Or.inr (Or.inr (Or.inl e)))
 ·exact Or.inl (Or.inr (Or.inr (Or.inr (Or.inl e))))
 ·exact Or.inl (Or.inr (Or.inr (Or.inr (Or.inr e))))
theorem lawB_E {wb : Nat} {rs es m0 m1 : Value} {g n c k H : Nat} (hat : es.ownBlock = some g ∨ H ≤ g) (h : lawB wb rs (.slice (some ⟨g, 0, none⟩) n c) m0 m1 k) : lawB wb rs es m0 m1 k ∨ H ≤ k := by
 rcases h with e | e | e | e | e
 ·exact Or.inl (Or.inl e)
 ·exact Or.inl (Or.inr (Or.inl e))
 ·simp [Value.ownBlock] at e
  subst e
  exact hat.imp (fun e => Or.inr (Or.inr (Or.inl e))) id
 ·exact Or.inl (Or.inr (Or.inr (Or.inr (Or.inl e))))
 ·exact Or.inl (Or.inr (Or.inr (Or.inr (Or.inr e))))
theorem lawB_M {wb : Nat} {rs es m0 m1 : Value} {g n c k H : Nat} (hat : m0.ownBlock = some g ∨ H ≤ g) (h : lawB wb rs es (.slice (some ⟨g, 0, none⟩) n c) m1 k) : lawB wb rs es m0 m1 k ∨ H ≤ k := by
 rcases h with e | e | e | e | e
 ·exact Or.inl (Or.inl e)
 ·exact Or.inl (Or.inr (Or.inl e))
 ·exact Or.inl (Or.inr (Or.inr (Or.inl e)))
 ·simp [Value.ownBlock] at e
  subst e
  exact hat.imp (fun e => Or.inr (Or.inr (Or.inr (Or.inl e)))) id
 ·exact Or.inl (Or.inr (Or.inr (Or.inr (Or.inr e))))
theorem lawB_N {wb : Nat} {rs es m0 m1 : Value} {g n c k H : Nat} (hat : m1.ownBlock = some g ∨ H ≤ g) (h : lawB wb rs es m0 (.slice (some ⟨g, 0, none⟩) n c) k) : lawB wb rs es m0 m1 k ∨ H ≤ k := by
 rcases h with e | e | e | e | e
 ·exact Or.inl (Or.inl e)
 ·exact Or.inl (Or.inr (Or.inl e))
 ·exact Or.inl (Or.inr (Or.inr (Or.inl e)))
 ·exact Or.inl (Or.inr (Or.inr (Or.inr (Or.inl e))))
 ·simp [Value.ownBlock] at e
  subst e
  exact hat.imp (fun e => Or.inr (Or.inr (Or.inr (Or.inr e)))) id

theorem Grp.base {w0 w1 w : World} {l : Value} {m : Int} {vs : List Value} {lb : Nat → Prop} (h : Grp w1 w l m vs lb) (hs : w0.heap.size ≤ w1.heap.size) : Grp w0 w l m vs lb := fun v hv => ⟨(h v hv).1, fun k e => ⟨((h v hv).2 k e).1.imp id (fun e2 => by omega), ((h v hv).2 k e).2⟩⟩

/-- What own leaves. -/
def Owned (B wb : Nat) (cs rs es m0 m1 l kk : Value) (vr ve : List Value) (ir ie : List Int) (m : Int) (w w' : World) : Prop :=
 ∃ rs' es' m0' m1' a1 a2 a3 d1 d2 d3, LawM B wb cs rs' es' m0' m1' (vr ++ [l, a1, a2, a3]) (ve ++ [kk, d1, d2, d3]) (ir ++ [m, m, m, m]) (ie ++ [m, m, m, m]) w' ∧
  Grp w w' l m [a1, a2, a3] (lawB wb rs' es' m0' m1') ∧ Grp w w' kk m [d1, d2, d3] (lawB wb rs' es' m0' m1') ∧
  Kept (fun k => l.ownBlock = some k ∨ kk.ownBlock = some k ∨ lawB wb rs es m0 m1 k) w w' ∧ (∀ k, lawB wb rs' es' m0' m1' k → lawB wb rs es m0 m1 k ∨ w.heap.size ≤ k)

set_option maxHeartbeats 16000000 in
set_option maxRecDepth 100000 in
theorem own_any (B wb : Nat) (cs rs es m0 m1 l kk : Value) (vr ve : List Value) (ir ie : List Int) (nl nk bl bk : Nat) (xs ys : List Value) (w : World)
  (hL : LawM B wb cs rs es m0 m1 vr ve ir ie w) (hB : B ≤ w.heap.size)
  (hl : w.ownsRow bl 57 4 l nl xs) (hk : w.ownsRow bk 55 4 kk nk ys)
  (hir : ir.length ≤ 7000000000) (hie : ie.length ≤ 7000000000) (hvr : vr.length ≤ 7000000000) (hve : ve.length ≤ 7000000000) (hnl : nl ≤ 1000000000) (hnk : nk ≤ 1000000000000) (hbl0 : bl ≤ w.heap.size) (hbk0 : bk ≤ w.heap.size) :
  Calls Tryz.prog 46 #[.pointer (some ⟨wb, 0, none⟩), l, kk] w fun e w' => e = .returned (.tuple #[]) ∧ Owned B wb cs rs es m0 m1 l kk vr ve ir ie (-1 - (ir.length : Int)) w w' := by
 obtain ⟨i0, hi, hz0, hz1, hz2⟩ := info_parts Tryz.infoRow
 obtain ⟨j0, hj, hw0, hw1, hw2⟩ := info_parts Tryz.infoEv
 obtain ⟨pl, cl, rfl⟩ := own_slice hl
 obtain ⟨pk, ck, rfl⟩ := own_slice hk
 obtain ⟨iR, hiR, hR0, hR1, hR2⟩ := info_parts Tryz.infoRows
 obtain ⟨iE, hiE, hE0, hE1, hE2⟩ := info_parts Tryz.infoEvents
 obtain ⟨iI, hiI, hI0, hI1, hI2⟩ := info_parts Tryz.infoInt
 obtain ⟨pM, cM, rfl⟩ := own_slice hL.oM
 obtain ⟨pR, cR, rfl⟩ := own_slice hL.oR
 obtain ⟨pN, cN, rfl⟩ := own_slice hL.oN
 obtain ⟨pE, cE, rfl⟩ := own_slice hL.oE
 have c3 := cell_of_row _ _ 3 _ _ (0, 0) hL.W
 simp at c3
 have hwb : wb < w.heap.size := hL.lt wb (Or.inl rfl)
 have HAVr := Lib.hid (hL.avoid hl (by decide) (by decide) (by decide) (by decide))
 have HLr := Lib.hid hL
 clear hL
 obtain ⟨m, hm⟩ : ∃ m : Int, m = -1 - (ir.length : Int) := ⟨_, rfl⟩
 rw [← hm]
 go_enter Tryz.func46, Tryz.ntmps46
 go_wp2
 rw [← hm]
 have HM := Lib.hid hm
 clear hm
 have hx0r := hl.1
 have hPr : (w.alloc (.cells #[.int .i64 m, .int .i64 m, .int .i64 m, .int .i64 m] 57)).heap[w.heap.size]? = some (.cells #[.int .i64 m, .int .i64 m, .int .i64 m, .int .i64 m] 57 (0, 0)) := heap_alloc_new _ _
 have hlowr := fun b e => (hl.lt b e).2
 go_loopw [8] (fun iv wr => ∃ k : Nat, iv = .int .i64 k ∧ k ≤ nl ∧ wr.ownsRow bl 57 4 (.slice pl nl cl) nl (fill xs m k) ∧ wr.heap[w.heap.size]? = some (.cells #[.int .i64 m, .int .i64 m, .int .i64 m, .int .i64 m] 57 (0, 0)) ∧ Kept (fun k => (Value.slice pl nl cl).ownBlock = some k) w wr) (fun iv _ => nl - (intOf iv).toNat)
 case atStart => exact ⟨0, rfl, Nat.zero_le _, by rw [fill_zero]; exact hl.alloc _, hPr, (Kept.refl _ _).alloc _⟩
 case round =>
  obtain ⟨kr, rfl, hknr, hown, hp, hkp⟩ := hrel
  have p0 := cell_of_row _ _ 0 _ _ (0, 0) hp
  have p1 := cell_of_row _ _ 1 _ _ (0, 0) hp
  have p2 := cell_of_row _ _ 2 _ _ (0, 0) hp
  have p3 := cell_of_row _ _ 3 _ _ (0, 0) hp
  simp at p0 p1 p2 p3
  by_cases hlt : kr < nl
  ·obtain ⟨g, rfl⟩ : ∃ g, pl = some ⟨g, 0, none⟩ := by
    rcases own_forms hown with ⟨_, hn⟩ | ⟨g, c2, e⟩
    ·omega
    ·exact ⟨g, by simpa using (Value.slice.inj e).1⟩
   have hgl : g < w.heap.size := hlowr g rfl
   have hfl := fill_len xs m nl kr hx0r (by omega)
   obtain ⟨u0, s0⟩ : ∃ u, wr.cell? ⟨g, kr * 4, none⟩ = some u := ⟨_, (hown.cellAt (kr * 4) (by omega)).trans (List.getElem?_eq_getElem (by omega))⟩
   obtain ⟨u1, s1⟩ : ∃ u, wr.cell? ⟨g, kr * 4 + 1, none⟩ = some u := ⟨_, (hown.cellAt (kr * 4 + 1) (by omega)).trans (List.getElem?_eq_getElem (by omega))⟩
   obtain ⟨u2, s2⟩ : ∃ u, wr.cell? ⟨g, kr * 4 + 2, none⟩ = some u := ⟨_, (hown.cellAt (kr * 4 + 2) (by omega)).trans (List.getElem?_eq_getElem (by omega))⟩
   obtain ⟨u3, s3⟩ : ∃ u, wr.cell? ⟨g, kr * 4 + 3, none⟩ = some u := ⟨_, (hown.cellAt (kr * 4 + 3) (by omega)).trans (List.getElem?_eq_getElem (by omega))⟩
   have sf := fun j => hown.frozenAt j
   have HO := Lib.hid (owns_put4 hx0r hlt hown)
   have HK := Lib.hid (hkp.put4 (g := g) (Or.inl rfl) kr m)
   have HP : Hid ((put4 wr g kr m).heap[w.heap.size]? = some (.cells #[.int .i64 m, .int .i64 m, .int .i64 m, .int .i64 m] 57 (0, 0))) := Lib.hid (((Kept.refl (fun k => k = g) wr).put4 (Or.inl rfl) kr m).block w.heap.size (by have := (Array.getElem?_eq_some_iff.1 hp).1; omega) (by omega) |>.trans hp)
   clear hown hkp hp
   go_wp2
   all_goals exact ⟨⟨kr + 1, by go_num, by omega, HO.out, HP.out, HK.out⟩, by simp [intOf]; omega⟩
  ·obtain rfl : kr = nl := by omega
   rw [fill_all xs m kr hx0r] at hown
   have hblr : bl ≤ wr.heap.size := by have := hkp.size; omega
   have HH0r : Hid (Half bl w.heap.size w 57 (.slice pl kr cl) kr m [] wr) := Lib.hid ⟨hown, hp, hkp, by omega, Nat.le_refl _, hlowr, fun v hv => by simp at hv⟩
   clear hown hp hkp
   go_wp2_with (at_builtin; refine wpList_append_parts _ rfl _ _ 31 rfl bl 57 i0 (.agg #[.int .i64 0, .int .i64 0, .int .i64 0, .int .i64 0]) 4 32 Tryz.underlying31 hi hz0 hz1 hz2 rfl (by decide) _ _ _ rfl (HH0r.out.own.alloc _) ⟨wr.heap.size, 0, none⟩ 1 1 [.int .i64 m, .int .i64 m, .int .i64 m, .int .i64 m] rfl rfl (news_at _ #[.int .i64 m, .int .i64 m, .int .i64 m, .int .i64 m] _ _ (by simp)) (by intro u' hu'; simp at hu'; subst hu'; rfl) (by decide) (by unfold maxLen; omega) (by omega) (by simp; omega) _ rfl ?_)
   intro g1r c1r w1r own part
   have hH := HH0r.out.append (by simp) (.cells #[.int .i64 m, .int .i64 m, .int .i64 m, .int .i64 m] 57) rfl (by simpa using own) (by simpa using part)
   have hb1r : bl ≤ w1r.heap.size := by have := hH.kept.size; omega
   have HH1r := Lib.hid hH
   have e := hH.el
   have p0 := cell_of_row _ _ 0 _ _ (0, 0) e
   have p1 := cell_of_row _ _ 1 _ _ (0, 0) e
   have p2 := cell_of_row _ _ 2 _ _ (0, 0) e
   have p3 := cell_of_row _ _ 3 _ _ (0, 0) e
   simp at p0 p1 p2 p3
   clear own part hH e
   go_wp2_with (at_builtin; refine wpList_append_parts _ rfl _ _ 31 rfl bl 57 i0 (.agg #[.int .i64 0, .int .i64 0, .int .i64 0, .int .i64 0]) 4 32 Tryz.underlying31 hi hz0 hz1 hz2 rfl (by decide) _ _ _ rfl (HH1r.out.own.alloc _) ⟨w1r.heap.size, 0, none⟩ 2 2 [.int .i64 m, .int .i64 m, .int .i64 m, .int .i64 m, .int .i64 m, .int .i64 m, .int .i64 m, .int .i64 m] rfl rfl (news_at _ #[.int .i64 m, .int .i64 m, .int .i64 m, .int .i64 m, .int .i64 m, .int .i64 m, .int .i64 m, .int .i64 m] _ _ (by simp)) (by intro u' hu'; simp at hu'; subst hu'; rfl) (by decide) (by unfold maxLen; omega) (by omega) (by simp; omega) _ rfl ?_)
   intro g2r c2r w2r own part
   have hH := HH1r.out.append (by simp) (.cells #[.int .i64 m, .int .i64 m, .int .i64 m, .int .i64 m, .int .i64 m, .int .i64 m, .int .i64 m, .int .i64 m] 57) rfl (by simpa using own) (by simpa using part)
   have hb2r : bl ≤ w2r.heap.size := by have := hH.kept.size; omega
   have HH2r := Lib.hid hH
   have e := hH.el
   have p0 := cell_of_row _ _ 0 _ _ (0, 0) e
   have p1 := cell_of_row _ _ 1 _ _ (0, 0) e
   have p2 := cell_of_row _ _ 2 _ _ (0, 0) e
   have p3 := cell_of_row _ _ 3 _ _ (0, 0) e
   simp at p0 p1 p2 p3
   clear own part hH e
   go_wp2_with (at_builtin; refine wpList_append_parts _ rfl _ _ 31 rfl bl 57 i0 (.agg #[.int .i64 0, .int .i64 0, .int .i64 0, .int .i64 0]) 4 32 Tryz.underlying31 hi hz0 hz1 hz2 rfl (by decide) _ _ _ rfl (HH2r.out.own.alloc _) ⟨w2r.heap.size, 0, none⟩ 3 3 [.int .i64 m, .int .i64 m, .int .i64 m, .int .i64 m, .int .i64 m, .int .i64 m, .int .i64 m, .int .i64 m, .int .i64 m, .int .i64 m, .int .i64 m, .int .i64 m] rfl rfl (news_at _ #[.int .i64 m, .int .i64 m, .int .i64 m, .int .i64 m, .int .i64 m, .int .i64 m, .int .i64 m, .int .i64 m, .int .i64 m, .int .i64 m, .int .i64 m, .int .i64 m] _ _ (by simp)) (by intro u' hu'; simp at hu'; subst hu'; rfl) (by decide) (by unfold maxLen; omega) (by omega) (by simp; omega) _ rfl ?_)
   intro g3r c3r w3r own part
   have hH := HH2r.out.append (by simp) (.cells #[.int .i64 m, .int .i64 m, .int .i64 m, .int .i64 m, .int .i64 m, .int .i64 m, .int .i64 m, .int .i64 m, .int .i64 m, .int .i64 m, .int .i64 m, .int .i64 m] 57) rfl (by simpa using own) (by simpa using part)
   have hb3r : bl ≤ w3r.heap.size := by have := hH.kept.size; omega
   have HH3r := Lib.hid hH
   have e := hH.el
   have p0 := cell_of_row _ _ 0 _ _ (0, 0) e
   have p1 := cell_of_row _ _ 1 _ _ (0, 0) e
   have p2 := cell_of_row _ _ 2 _ _ (0, 0) e
   have p3 := cell_of_row _ _ 3 _ _ (0, 0) e
   simp at p0 p1 p2 p3
   clear own part hH e
   have hL3 := HLr.out.kept HH3r.out.kept HAVr.out
   have hs3r := HH3r.out.kept.size
   have hG3r : Grp w w3r (.slice pl kr cl) m [.slice (some ⟨g1r, 0, none⟩) (kr + 1) c1r, .slice (some ⟨g2r, 0, none⟩) (kr + 2) c2r, .slice (some ⟨g3r, 0, none⟩) (kr + 3) c3r] (lawB wb (.slice pR vr.length cR) (.slice pE ve.length cE) (.slice pM ir.length cM) (.slice pN ie.length cN)) := HH3r.out.grp (fun k e => ⟨fun e2 => HAVr.out k e2 e, HLr.out.lt k e⟩)
   have HG3r := Lib.hid hG3r
   have d1 := cell_of_row _ _ 1 _ _ (0, 0) hL3.W
   simp at d1
   have HL3r := Lib.hid hL3
   have HA3 := Lib.hid (hL3.kept (S := fun _ => False) ((Kept.refl _ _).alloc (.cells #[.slice pl kr cl, .slice (some ⟨g1r, 0, none⟩) (kr + 1) c1r, .slice (some ⟨g2r, 0, none⟩) (kr + 2) c2r, .slice (some ⟨g3r, 0, none⟩) (kr + 3) c3r] 31)) (fun _ e => e.elim))
   clear hL3 hG3r
   go_wp2_with (at_builtin; refine wpList_append_lies _ rfl _ _ 67 rfl B 31 iR (.slice none 0 0) 1 24 Tryz.underlying67 hiR hR0 hR1 hR2 rfl (by decide) _ _ _ rfl HA3.out.oR ⟨w3r.heap.size, 0, none⟩ 4 4 [.slice pl kr cl, .slice (some ⟨g1r, 0, none⟩) (kr + 1) c1r, .slice (some ⟨g2r, 0, none⟩) (kr + 2) c2r, .slice (some ⟨g3r, 0, none⟩) (kr + 3) c3r] rfl rfl (news_at _ #[.slice pl kr cl, .slice (some ⟨g1r, 0, none⟩) (kr + 1) c1r, .slice (some ⟨g2r, 0, none⟩) (kr + 2) c2r, .slice (some ⟨g3r, 0, none⟩) (kr + 3) c3r] _ _ (by simp)) (by intro u' hu'; simp at hu'; rcases hu' with rfl | rfl | rfl | rfl <;> rfl) (by decide) (by unfold maxLen; omega) (by omega) (by simp; omega) _ rfl ?_)
   intro gRr cRr w4r ownR growR hatR ltR
   obtain ⟨hW4, hL4⟩ := HA3.out.pushR (ns := [.slice pl kr cl, .slice (some ⟨g1r, 0, none⟩) (kr + 1) c1r, .slice (some ⟨g2r, 0, none⟩) (kr + 2) c2r, .slice (some ⟨g3r, 0, none⟩) (kr + 3) c3r]) ownR growR
   have hL4 : LawM B wb cs (.slice (some ⟨gRr, 0, none⟩) (vr.length + 4) cRr) (.slice pE ve.length cE) (.slice pM ir.length cM) (.slice pN ie.length cN) (vr ++ [.slice pl kr cl, .slice (some ⟨g1r, 0, none⟩) (kr + 1) c1r, .slice (some ⟨g2r, 0, none⟩) (kr + 2) c2r, .slice (some ⟨g3r, 0, none⟩) (kr + 3) c3r]) ve ir ie (w4r.setCell ⟨wb, 1, none⟩ (.slice (some ⟨gRr, 0, none⟩) (vr.length + 4) cRr)) := hL4
   have k1 := cell_of_row _ _ 1 _ _ (0, 0) hW4
   have kf := frozen_of_row _ _ 1 _ _ hW4
   simp at k1
   have hs4 : w3r.heap.size + 1 ≤ w4r.heap.size := by have := growR.size; simpa using this
   have K4r : Hid (Kept (lawB wb (.slice pR vr.length cR) (.slice pE ve.length cE) (.slice pM ir.length cM) (.slice pN ie.length cN)) w3r (w4r.setCell ⟨wb, 1, none⟩ (.slice (some ⟨gRr, 0, none⟩) (vr.length + 4) cRr))) := Lib.hid (((((Kept.refl (lawB wb (.slice pR vr.length cR) (.slice pE ve.length cE) (.slice pM ir.length cM) (.slice pN ie.length cN)) w3r).alloc _).grown growR (fun i e => Or.inl (Or.inr (Or.inl e)))).setCell (p := ⟨wb, 1, none⟩) (Or.inl (Or.inl rfl)) _))
   have HRr : Hid ((Value.slice pR vr.length cR).ownBlock = some gRr ∨ w3r.heap.size ≤ gRr) := Lib.hid (hatR.imp id (fun e => by rw [e]; simp))
   have d3 := cell_of_row _ _ 3 _ _ (0, 0) hL4.W
   simp at d3
   have HL4r := Lib.hid hL4
   have hs5r : w3r.heap.size + 1 ≤ (w4r.setCell ⟨wb, 1, none⟩ (.slice (some ⟨gRr, 0, none⟩) (vr.length + 4) cRr)).heap.size := by simpa using hs4
   have hw5 : wb < (w4r.setCell ⟨wb, 1, none⟩ (.slice (some ⟨gRr, 0, none⟩) (vr.length + 4) cRr)).heap.size := by simp; omega
   clear hW4 hL4 ownR growR hatR
   go_wp2
   generalize (w4r.setCell ⟨wb, 1, none⟩ (.slice (some ⟨gRr, 0, none⟩) (vr.length + 4) cRr)) = W5r at *
   have HA4 := Lib.hid (HL4r.out.kept (S := fun _ => False) ((Kept.refl _ _).alloc (.cells #[.int .i64 m, .int .i64 m, .int .i64 m, .int .i64 m] 3)) (fun _ e => e.elim))
   have N3 := World.new_ne W5r _ d3
   simp at N3
   have HB4 : Hid (LawM B wb cs (.slice (some ⟨gRr, 0, none⟩) (vr.length + 4) cRr) (.slice pE ve.length cE) (.slice pM ir.length cM) (.slice pN ie.length cN) (vr ++ [.slice pl kr cl, .slice (some ⟨g1r, 0, none⟩) (kr + 1) c1r, .slice (some ⟨g2r, 0, none⟩) (kr + 2) c2r, .slice (some ⟨g3r, 0, none⟩) (kr + 3) c3r]) ve ir ie (W5r.alloc (.cells #[.int .i64 m, .int .i64 m, .int .i64 m, .int .i64 m] 3)).drew) := Lib.hid (HA4.out.on (fun _ _ => rfl))
   go_cut [6] (fun mv wr => mv = .int .i64 m ∧ ∃ gMr cMr, LawM B wb cs (.slice (some ⟨gRr, 0, none⟩) (vr.length + 4) cRr) (.slice pE ve.length cE) (.slice (some ⟨gMr, 0, none⟩) (ir.length + 4) cMr) (.slice pN ie.length cN) (vr ++ [.slice pl kr cl, .slice (some ⟨g1r, 0, none⟩) (kr + 1) c1r, .slice (some ⟨g2r, 0, none⟩) (kr + 2) c2r, .slice (some ⟨g3r, 0, none⟩) (kr + 3) c3r]) ve (ir ++ [m, m, m, m]) ie wr ∧ Kept (lawB wb (.slice (some ⟨gRr, 0, none⟩) (vr.length + 4) cRr) (.slice pE ve.length cE) (.slice pM ir.length cM) (.slice pN ie.length cN)) W5r wr ∧ ((Value.slice pM ir.length cM).ownBlock = some gMr ∨ W5r.heap.size ≤ gMr))
   case first =>
    go_region_law (refine step_append_lies _ rfl _ _ 53 rfl B 3 iI (.int .i64 0) 1 8 Tryz.underlying53 hiI hI0 hI1 hI2 rfl (by decide) (.slice pM ir.length cM) ir.length _ rfl HB4.out.oM ⟨W5r.heap.size, 0, none⟩ 4 4 [.int .i64 m, .int .i64 m, .int .i64 m, .int .i64 m] rfl rfl (news_at W5r #[.int .i64 m, .int .i64 m, .int .i64 m, .int .i64 m] _ _ (by simp)) (by intro u' hu'; simp at hu'; subst hu'; rfl) (by decide) (by unfold maxLen; omega) (by omega) (by simp; omega) _ rfl ?_; intro gMr cMr w6 ownM growM hatM ltM; obtain ⟨hW6, hL6⟩ := HB4.out.pushM (ns := [m, m, m, m]) ownM growM (hatM.imp id (fun e => by simpa using e)); have z3 := cell_of_row _ _ 3 _ _ (0, 0) hW6; have zf := frozen_of_row _ _ 3 _ _ hW6; simp at z3; have HL6 := Lib.hid hL6; have K6 : Hid (Kept (lawB wb (.slice (some ⟨gRr, 0, none⟩) (vr.length + 4) cRr) (.slice pE ve.length cE) (.slice pM ir.length cM) (.slice pN ie.length cN)) W5r (w6.setCell ⟨wb, 3, none⟩ (.slice (some ⟨gMr, 0, none⟩) (ir.length + 4) cMr))) := Lib.hid (((((Kept.refl (lawB wb (.slice (some ⟨gRr, 0, none⟩) (vr.length + 4) cRr) (.slice pE ve.length cE) (.slice pM ir.length cM) (.slice pN ie.length cN)) W5r).alloc _).drew).grown growM (fun i e => Or.inl (Or.inr (Or.inr (Or.inr (Or.inl e)))))).setCell (p := ⟨wb, 3, none⟩) (Or.inl (Or.inl rfl)) _); have H6 : Hid ((Value.slice pM ir.length cM).ownBlock = some gMr ∨ W5r.heap.size ≤ gMr) := Lib.hid (hatM.imp id (fun e => by rw [e]; simp)); clear hW6 hL6 ownM growM hatM)
    all_goals go_wp2_with fail
    all_goals go_meet
    all_goals exact ⟨rfl, gMr, cMr, HL6.out, K6.out, H6.out⟩
   case rest =>
    obtain ⟨rfl, gMr, cMr, hL6r, hK6r, hM6r⟩ := hcut
    obtain ⟨wd, hwc⟩ : ∃ W, W = wc := ⟨_, rfl⟩
    rw [← hwc] at hL6r hK6r ⊢
    clear hwc
    have hG5r : Grp w W5r _ m _ (lawB wb (.slice (some ⟨gRr, 0, none⟩) (vr.length + 4) cRr) (.slice pE ve.length cE) (.slice pM ir.length cM) (.slice pN ie.length cN)) := HG3r.out.on K4r.out (fun k e => lawB_R HRr.out e)
    have hG6r : Grp w wd _ m _ (lawB wb (.slice (some ⟨gRr, 0, none⟩) (vr.length + 4) cRr) (.slice pE ve.length cE) (.slice (some ⟨gMr, 0, none⟩) (ir.length + 4) cMr) (.slice pN ie.length cN)) := hG5r.on hK6r (fun k e => lawB_M hM6r e)
    clear hG5r
    have hk3 := owns_on hk (fun k e => HH3r.out.kept.block k (hk.lt k e).2 (fun e2 => owns_apart hl hk (by decide) k e2 e))
    have hk5 := owns_on hk3 (fun k e => K4r.out.block k (hk3.lt k e).2 (HL3r.out.avoid hk3 (by decide) (by decide) (by decide) (by decide) k e))
    have hkd := owns_on hk5 (fun k e => hK6r.block k (hk5.lt k e).2 (HL4r.out.avoid hk5 (by decide) (by decide) (by decide) (by decide) k e))
    have hsd : w.heap.size ≤ wd.heap.size := by have := hK6r.size; omega
    have Kd : Hid (Kept (fun k => (Value.slice pl kr cl).ownBlock = some k ∨ (lawB wb (.slice pR vr.length cR) (.slice pE ve.length cE) (.slice pM ir.length cM) (.slice pN ie.length cN)) k) w wd) := Lib.hid (((HH3r.out.kept.mono (fun k e => Or.inl e)).trans K4r.out (fun k e => Or.inl (Or.inr e))).trans hK6r (fun k e => (lawB_R HRr.out e).imp (fun e => Or.inr e) (fun e => by omega)))
    have HAVv := Lib.hid (hL6r.avoid hkd (by decide) (by decide) (by decide) (by decide))
    have HLv := Lib.hid hL6r
    have hapart : ∀ k, (Value.slice pk nk ck).ownBlock = some k → (Value.slice pl kr cl).ownBlock ≠ some k ∧ k < w.heap.size := fun k e => ⟨fun e2 => owns_apart hl hk (by decide) k e2 e, (hk.lt k e).2⟩
    have HAP := Lib.hid hapart
    have HG6r := Lib.hid hG6r
    have HM6r := Lib.hid hM6r
    have HK6r := Lib.hid hK6r
    have e4 := cell_of_row _ _ 4 _ _ (0, 0) hL6r.W
    simp at e4
    clear hk3 hk5 hapart hG6r hL6r hM6r hK6r hk
    go_wp2
    have hx0v := hkd.1
    have hPv : (wd.alloc (.cells #[.int .i64 m, .int .i64 m, .int .i64 m, .int .i64 m] 55)).heap[wd.heap.size]? = some (.cells #[.int .i64 m, .int .i64 m, .int .i64 m, .int .i64 m] 55 (0, 0)) := heap_alloc_new _ _
    have hlowv := fun b e => (hkd.lt b e).2
    go_loopw [13] (fun iv wr => ∃ k : Nat, iv = .int .i64 k ∧ k ≤ nk ∧ wr.ownsRow bk 55 4 (.slice pk nk ck) nk (fill ys m k) ∧ wr.heap[wd.heap.size]? = some (.cells #[.int .i64 m, .int .i64 m, .int .i64 m, .int .i64 m] 55 (0, 0)) ∧ Kept (fun k => (Value.slice pk nk ck).ownBlock = some k) wd wr) (fun iv _ => nk - (intOf iv).toNat)
    case atStart => exact ⟨0, rfl, Nat.zero_le _, by rw [fill_zero]; exact hkd.alloc _, hPv, (Kept.refl _ _).alloc _⟩
    case round =>
     obtain ⟨kv, rfl, hknv, hown, hp, hkp⟩ := hrel
     have p0 := cell_of_row _ _ 0 _ _ (0, 0) hp
     have p1 := cell_of_row _ _ 1 _ _ (0, 0) hp
     have p2 := cell_of_row _ _ 2 _ _ (0, 0) hp
     have p3 := cell_of_row _ _ 3 _ _ (0, 0) hp
     simp at p0 p1 p2 p3
     by_cases hlt : kv < nk
     ·obtain ⟨g, rfl⟩ : ∃ g, pk = some ⟨g, 0, none⟩ := by
       rcases own_forms hown with ⟨_, hn⟩ | ⟨g, c2, e⟩
       ·omega
       ·exact ⟨g, by simpa using (Value.slice.inj e).1⟩
      have hgl : g < wd.heap.size := hlowv g rfl
      have hfl := fill_len ys m nk kv hx0v (by omega)
      obtain ⟨u0, s0⟩ : ∃ u, wr.cell? ⟨g, kv * 4, none⟩ = some u := ⟨_, (hown.cellAt (kv * 4) (by omega)).trans (List.getElem?_eq_getElem (by omega))⟩
      obtain ⟨u1, s1⟩ : ∃ u, wr.cell? ⟨g, kv * 4 + 1, none⟩ = some u := ⟨_, (hown.cellAt (kv * 4 + 1) (by omega)).trans (List.getElem?_eq_getElem (by omega))⟩
      obtain ⟨u2, s2⟩ : ∃ u, wr.cell? ⟨g, kv * 4 + 2, none⟩ = some u := ⟨_, (hown.cellAt (kv * 4 + 2) (by omega)).trans (List.getElem?_eq_getElem (by omega))⟩
      obtain ⟨u3, s3⟩ : ∃ u, wr.cell? ⟨g, kv * 4 + 3, none⟩ = some u := ⟨_, (hown.cellAt (kv * 4 + 3) (by omega)).trans (List.getElem?_eq_getElem (by omega))⟩
      have sf := fun j => hown.frozenAt j
      have HO := Lib.hid (owns_put4 hx0v hlt hown)
      have HK := Lib.hid (hkp.put4 (g := g) (Or.inl rfl) kv m)
      have HP : Hid ((put4 wr g kv m).heap[wd.heap.size]? = some (.cells #[.int .i64 m, .int .i64 m, .int .i64 m, .int .i64 m] 55 (0, 0))) := Lib.hid (((Kept.refl (fun k => k = g) wr).put4 (Or.inl rfl) kv m).block wd.heap.size (by have := (Array.getElem?_eq_some_iff.1 hp).1; omega) (by omega) |>.trans hp)
      clear hown hkp hp
      go_wp2
      all_goals exact ⟨⟨kv + 1, by go_num, by omega, HO.out, HP.out, HK.out⟩, by simp [intOf]; omega⟩
     ·obtain rfl : kv = nk := by omega
      rw [fill_all ys m kv hx0v] at hown
      have hblv : bk ≤ wr.heap.size := by have := hkp.size; omega
      have HH0v : Hid (Half bk wd.heap.size wd 55 (.slice pk kv ck) kv m [] wr) := Lib.hid ⟨hown, hp, hkp, by omega, Nat.le_refl _, hlowv, fun v hv => by simp at hv⟩
      clear hown hp hkp
      go_wp2_with (at_builtin; refine wpList_append_parts _ rfl _ _ 32 rfl bk 55 j0 (.agg #[.int .i64 0, .int .i64 0, .int .i64 0, .int .i64 0]) 4 32 Tryz.underlying32 hj hw0 hw1 hw2 rfl (by decide) _ _ _ rfl (HH0v.out.own.alloc _) ⟨wr.heap.size, 0, none⟩ 1 1 [.int .i64 m, .int .i64 m, .int .i64 m, .int .i64 m] rfl rfl (news_at _ #[.int .i64 m, .int .i64 m, .int .i64 m, .int .i64 m] _ _ (by simp)) (by intro u' hu'; simp at hu'; subst hu'; rfl) (by decide) (by unfold maxLen; omega) (by omega) (by simp; omega) _ rfl ?_)
      intro g1v c1v w1v own part
      have hH := HH0v.out.append (by simp) (.cells #[.int .i64 m, .int .i64 m, .int .i64 m, .int .i64 m] 55) rfl (by simpa using own) (by simpa using part)
      have hb1v : bk ≤ w1v.heap.size := by have := hH.kept.size; omega
      have HH1v := Lib.hid hH
      have e := hH.el
      have p0 := cell_of_row _ _ 0 _ _ (0, 0) e
      have p1 := cell_of_row _ _ 1 _ _ (0, 0) e
      have p2 := cell_of_row _ _ 2 _ _ (0, 0) e
      have p3 := cell_of_row _ _ 3 _ _ (0, 0) e
      simp at p0 p1 p2 p3
      clear own part hH e
      go_wp2_with (at_builtin; refine wpList_append_parts _ rfl _ _ 32 rfl bk 55 j0 (.agg #[.int .i64 0, .int .i64 0, .int .i64 0, .int .i64 0]) 4 32 Tryz.underlying32 hj hw0 hw1 hw2 rfl (by decide) _ _ _ rfl (HH1v.out.own.alloc _) ⟨w1v.heap.size, 0, none⟩ 2 2 [.int .i64 m, .int .i64 m, .int .i64 m, .int .i64 m, .int .i64 m, .int .i64 m, .int .i64 m, .int .i64 m] rfl rfl (news_at _ #[.int .i64 m, .int .i64 m, .int .i64 m, .int .i64 m, .int .i64 m, .int .i64 m, .int .i64 m, .int .i64 m] _ _ (by simp)) (by intro u' hu'; simp at hu'; subst hu'; rfl) (by decide) (by unfold maxLen; omega) (by omega) (by simp; omega) _ rfl ?_)
      intro g2v c2v w2v own part
      have hH := HH1v.out.append (by simp) (.cells #[.int .i64 m, .int .i64 m, .int .i64 m, .int .i64 m, .int .i64 m, .int .i64 m, .int .i64 m, .int .i64 m] 55) rfl (by simpa using own) (by simpa using part)
      have hb2v : bk ≤ w2v.heap.size := by have := hH.kept.size; omega
      have HH2v := Lib.hid hH
      have e := hH.el
      have p0 := cell_of_row _ _ 0 _ _ (0, 0) e
      have p1 := cell_of_row _ _ 1 _ _ (0, 0) e
      have p2 := cell_of_row _ _ 2 _ _ (0, 0) e
      have p3 := cell_of_row _ _ 3 _ _ (0, 0) e
      simp at p0 p1 p2 p3
      clear own part hH e
      go_wp2_with (at_builtin; refine wpList_append_parts _ rfl _ _ 32 rfl bk 55 j0 (.agg #[.int .i64 0, .int .i64 0, .int .i64 0, .int .i64 0]) 4 32 Tryz.underlying32 hj hw0 hw1 hw2 rfl (by decide) _ _ _ rfl (HH2v.out.own.alloc _) ⟨w2v.heap.size, 0, none⟩ 3 3 [.int .i64 m, .int .i64 m, .int .i64 m, .int .i64 m, .int .i64 m, .int .i64 m, .int .i64 m, .int .i64 m, .int .i64 m, .int .i64 m, .int .i64 m, .int .i64 m] rfl rfl (news_at _ #[.int .i64 m, .int .i64 m, .int .i64 m, .int .i64 m, .int .i64 m, .int .i64 m, .int .i64 m, .int .i64 m, .int .i64 m, .int .i64 m, .int .i64 m, .int .i64 m] _ _ (by simp)) (by intro u' hu'; simp at hu'; subst hu'; rfl) (by decide) (by unfold maxLen; omega) (by omega) (by simp; omega) _ rfl ?_)
      intro g3v c3v w3v own part
      have hH := HH2v.out.append (by simp) (.cells #[.int .i64 m, .int .i64 m, .int .i64 m, .int .i64 m, .int .i64 m, .int .i64 m, .int .i64 m, .int .i64 m, .int .i64 m, .int .i64 m, .int .i64 m, .int .i64 m] 55) rfl (by simpa using own) (by simpa using part)
      have hb3v : bk ≤ w3v.heap.size := by have := hH.kept.size; omega
      have HH3v := Lib.hid hH
      have e := hH.el
      have p0 := cell_of_row _ _ 0 _ _ (0, 0) e
      have p1 := cell_of_row _ _ 1 _ _ (0, 0) e
      have p2 := cell_of_row _ _ 2 _ _ (0, 0) e
      have p3 := cell_of_row _ _ 3 _ _ (0, 0) e
      simp at p0 p1 p2 p3
      clear own part hH e
      have hL3 := HLv.out.kept HH3v.out.kept HAVv.out
      have hs3v := HH3v.out.kept.size
      have hG3v : Grp wd w3v (.slice pk kv ck) m [.slice (some ⟨g1v, 0, none⟩) (kv + 1) c1v, .slice (some ⟨g2v, 0, none⟩) (kv + 2) c2v, .slice (some ⟨g3v, 0, none⟩) (kv + 3) c3v] (lawB wb (.slice (some ⟨gRr, 0, none⟩) (vr.length + 4) cRr) (.slice pE ve.length cE) (.slice (some ⟨gMr, 0, none⟩) (ir.length + 4) cMr) (.slice pN ie.length cN)) := HH3v.out.grp (fun k e => ⟨fun e2 => HAVv.out k e2 e, HLv.out.lt k e⟩)
      have HG3v := Lib.hid hG3v
      have d1 := cell_of_row _ _ 2 _ _ (0, 0) hL3.W
      simp at d1
      have HL3v := Lib.hid hL3
      have HA3 := Lib.hid (hL3.kept (S := fun _ => False) ((Kept.refl _ _).alloc (.cells #[.slice pk kv ck, .slice (some ⟨g1v, 0, none⟩) (kv + 1) c1v, .slice (some ⟨g2v, 0, none⟩) (kv + 2) c2v, .slice (some ⟨g3v, 0, none⟩) (kv + 3) c3v] 32)) (fun _ e => e.elim))
      clear hL3 hG3v
      go_wp2_with (at_builtin; refine wpList_append_lies _ rfl _ _ 68 rfl B 32 iE (.slice none 0 0) 1 24 Tryz.underlying68 hiE hE0 hE1 hE2 rfl (by decide) _ _ _ rfl HA3.out.oE ⟨w3v.heap.size, 0, none⟩ 4 4 [.slice pk kv ck, .slice (some ⟨g1v, 0, none⟩) (kv + 1) c1v, .slice (some ⟨g2v, 0, none⟩) (kv + 2) c2v, .slice (some ⟨g3v, 0, none⟩) (kv + 3) c3v] rfl rfl (news_at _ #[.slice pk kv ck, .slice (some ⟨g1v, 0, none⟩) (kv + 1) c1v, .slice (some ⟨g2v, 0, none⟩) (kv + 2) c2v, .slice (some ⟨g3v, 0, none⟩) (kv + 3) c3v] _ _ (by simp)) (by intro u' hu'; simp at hu'; rcases hu' with rfl | rfl | rfl | rfl <;> rfl) (by decide) (by unfold maxLen; omega) (by omega) (by simp; omega) _ rfl ?_)
      intro gRv cRv w4v ownR growR hatR ltR
      obtain ⟨hW4, hL4⟩ := HA3.out.pushE (ns := [.slice pk kv ck, .slice (some ⟨g1v, 0, none⟩) (kv + 1) c1v, .slice (some ⟨g2v, 0, none⟩) (kv + 2) c2v, .slice (some ⟨g3v, 0, none⟩) (kv + 3) c3v]) ownR growR
      have hL4 : LawM B wb cs (.slice (some ⟨gRr, 0, none⟩) (vr.length + 4) cRr) (.slice (some ⟨gRv, 0, none⟩) (ve.length + 4) cRv) (.slice (some ⟨gMr, 0, none⟩) (ir.length + 4) cMr) (.slice pN ie.length cN) (vr ++ [.slice pl kr cl, .slice (some ⟨g1r, 0, none⟩) (kr + 1) c1r, .slice (some ⟨g2r, 0, none⟩) (kr + 2) c2r, .slice (some ⟨g3r, 0, none⟩) (kr + 3) c3r]) (ve ++ [.slice pk kv ck, .slice (some ⟨g1v, 0, none⟩) (kv + 1) c1v, .slice (some ⟨g2v, 0, none⟩) (kv + 2) c2v, .slice (some ⟨g3v, 0, none⟩) (kv + 3) c3v]) (ir ++ [m, m, m, m]) ie (w4v.setCell ⟨wb, 2, none⟩ (.slice (some ⟨gRv, 0, none⟩) (ve.length + 4) cRv)) := hL4
      have k1 := cell_of_row _ _ 2 _ _ (0, 0) hW4
      have kf := frozen_of_row _ _ 2 _ _ hW4
      simp at k1
      have hs4 : w3v.heap.size + 1 ≤ w4v.heap.size := by have := growR.size; simpa using this
      have K4v : Hid (Kept (lawB wb (.slice (some ⟨gRr, 0, none⟩) (vr.length + 4) cRr) (.slice pE ve.length cE) (.slice (some ⟨gMr, 0, none⟩) (ir.length + 4) cMr) (.slice pN ie.length cN)) w3v (w4v.setCell ⟨wb, 2, none⟩ (.slice (some ⟨gRv, 0, none⟩) (ve.length + 4) cRv))) := Lib.hid (((((Kept.refl (lawB wb (.slice (some ⟨gRr, 0, none⟩) (vr.length + 4) cRr) (.slice pE ve.length cE) (.slice (some ⟨gMr, 0, none⟩) (ir.length + 4) cMr) (.slice pN ie.length cN)) w3v).alloc _).grown growR (fun i e => Or.inl (Or.inr (Or.inr (Or.inl e))))).setCell (p := ⟨wb, 2, none⟩) (Or.inl (Or.inl rfl)) _))
      have HRv : Hid ((Value.slice pE ve.length cE).ownBlock = some gRv ∨ w3v.heap.size ≤ gRv) := Lib.hid (hatR.imp id (fun e => by rw [e]; simp))
      have d3 := cell_of_row _ _ 4 _ _ (0, 0) hL4.W
      simp at d3
      have HL4v := Lib.hid hL4
      have hs5v : w3v.heap.size + 1 ≤ (w4v.setCell ⟨wb, 2, none⟩ (.slice (some ⟨gRv, 0, none⟩) (ve.length + 4) cRv)).heap.size := by simpa using hs4
      have hw5 : wb < (w4v.setCell ⟨wb, 2, none⟩ (.slice (some ⟨gRv, 0, none⟩) (ve.length + 4) cRv)).heap.size := by simp; omega
      clear hW4 hL4 ownR growR hatR
      go_wp2
      generalize (w4v.setCell ⟨wb, 2, none⟩ (.slice (some ⟨gRv, 0, none⟩) (ve.length + 4) cRv)) = W5v at *
      have HA4 := Lib.hid (HL4v.out.kept (S := fun _ => False) ((Kept.refl _ _).alloc (.cells #[.int .i64 m, .int .i64 m, .int .i64 m, .int .i64 m] 3)) (fun _ e => e.elim))
      have N3 := World.new_ne W5v _ d3
      simp at N3
      have HB4 : Hid (LawM B wb cs (.slice (some ⟨gRr, 0, none⟩) (vr.length + 4) cRr) (.slice (some ⟨gRv, 0, none⟩) (ve.length + 4) cRv) (.slice (some ⟨gMr, 0, none⟩) (ir.length + 4) cMr) (.slice pN ie.length cN) (vr ++ [.slice pl kr cl, .slice (some ⟨g1r, 0, none⟩) (kr + 1) c1r, .slice (some ⟨g2r, 0, none⟩) (kr + 2) c2r, .slice (some ⟨g3r, 0, none⟩) (kr + 3) c3r]) (ve ++ [.slice pk kv ck, .slice (some ⟨g1v, 0, none⟩) (kv + 1) c1v, .slice (some ⟨g2v, 0, none⟩) (kv + 2) c2v, .slice (some ⟨g3v, 0, none⟩) (kv + 3) c3v]) (ir ++ [m, m, m, m]) ie (W5v.alloc (.cells #[.int .i64 m, .int .i64 m, .int .i64 m, .int .i64 m] 3)).drew) := Lib.hid (HA4.out.on (fun _ _ => rfl))
      go_region_law (refine step_append_lies _ rfl _ _ 53 rfl B 3 iI (.int .i64 0) 1 8 Tryz.underlying53 hiI hI0 hI1 hI2 rfl (by decide) (.slice pN ie.length cN) ie.length _ rfl HB4.out.oN ⟨W5v.heap.size, 0, none⟩ 4 4 [.int .i64 m, .int .i64 m, .int .i64 m, .int .i64 m] rfl rfl (news_at W5v #[.int .i64 m, .int .i64 m, .int .i64 m, .int .i64 m] _ _ (by simp)) (by intro u' hu'; simp at hu'; subst hu'; rfl) (by decide) (by unfold maxLen; omega) (by omega) (by simp; omega) _ rfl ?_; intro gMv cMv w6 ownM growM hatM ltM; obtain ⟨hW6, hL6⟩ := HB4.out.pushN (ns := [m, m, m, m]) ownM growM (hatM.imp id (fun e => by simpa using e)); have z3 := cell_of_row _ _ 4 _ _ (0, 0) hW6; have zf := frozen_of_row _ _ 4 _ _ hW6; simp at z3; have HL6 := Lib.hid hL6; have K6 : Hid (Kept (lawB wb (.slice (some ⟨gRr, 0, none⟩) (vr.length + 4) cRr) (.slice (some ⟨gRv, 0, none⟩) (ve.length + 4) cRv) (.slice (some ⟨gMr, 0, none⟩) (ir.length + 4) cMr) (.slice pN ie.length cN)) W5v (w6.setCell ⟨wb, 4, none⟩ (.slice (some ⟨gMv, 0, none⟩) (ie.length + 4) cMv))) := Lib.hid (((((Kept.refl (lawB wb (.slice (some ⟨gRr, 0, none⟩) (vr.length + 4) cRr) (.slice (some ⟨gRv, 0, none⟩) (ve.length + 4) cRv) (.slice (some ⟨gMr, 0, none⟩) (ir.length + 4) cMr) (.slice pN ie.length cN)) W5v).alloc _).drew).grown growM (fun i e => Or.inl (Or.inr (Or.inr (Or.inr (Or.inr e)))))).setCell (p := ⟨wb, 4, none⟩) (Or.inl (Or.inl rfl)) _); have H6 : Hid ((Value.slice pN ie.length cN).ownBlock = some gMv ∨ W5v.heap.size ≤ gMv) := Lib.hid (hatM.imp id (fun e => by rw [e]; simp)); clear hW6 hL6 ownM growM hatM)
      all_goals go_wp2
      all_goals go_end0
      all_goals
       have hs7 : w.heap.size ≤ w3v.heap.size := by omega
       have hs8 : w.heap.size ≤ W5v.heap.size := by omega
       have sw6 : ∀ k, lawB wb (.slice (some ⟨gRr, 0, none⟩) (vr.length + 4) cRr) (.slice pE ve.length cE) (.slice (some ⟨gMr, 0, none⟩) (ir.length + 4) cMr) (.slice pN ie.length cN) k → lawB wb (.slice pR vr.length cR) (.slice pE ve.length cE) (.slice pM ir.length cM) (.slice pN ie.length cN) k ∨ w.heap.size ≤ k := fun k e => by
        rcases lawB_M HM6r.out e with e2 | e2
        ·exact (lawB_R HRr.out e2).imp id (fun e3 => by omega)
        ·exact Or.inr (by omega)
       have sw7 : ∀ k, lawB wb (.slice (some ⟨gRr, 0, none⟩) (vr.length + 4) cRr) (.slice (some ⟨gRv, 0, none⟩) (ve.length + 4) cRv) (.slice (some ⟨gMr, 0, none⟩) (ir.length + 4) cMr) (.slice pN ie.length cN) k → lawB wb (.slice pR vr.length cR) (.slice pE ve.length cE) (.slice pM ir.length cM) (.slice pN ie.length cN) k ∨ w.heap.size ≤ k := fun k e => by
        rcases lawB_E HRv.out e with e2 | e2
        ·exact sw6 k e2
        ·exact Or.inr (by omega)
       have sw8 : ∀ k, lawB wb (.slice (some ⟨gRr, 0, none⟩) (vr.length + 4) cRr) (.slice (some ⟨gRv, 0, none⟩) (ve.length + 4) cRv) (.slice (some ⟨gMr, 0, none⟩) (ir.length + 4) cMr) (.slice (some ⟨gMv, 0, none⟩) (ie.length + 4) cMv) k → lawB wb (.slice pR vr.length cR) (.slice pE ve.length cE) (.slice pM ir.length cM) (.slice pN ie.length cN) k ∨ w.heap.size ≤ k := fun k e => by
        rcases lawB_N H6.out e with e2 | e2
        ·exact sw7 k e2
        ·exact Or.inr (by omega)
       have gv : Grp wd _ _ m _ (lawB wb (.slice (some ⟨gRr, 0, none⟩) (vr.length + 4) cRr) (.slice (some ⟨gRv, 0, none⟩) (ve.length + 4) cRv) (.slice (some ⟨gMr, 0, none⟩) (ir.length + 4) cMr) (.slice (some ⟨gMv, 0, none⟩) (ie.length + 4) cMv)) := (HG3v.out.on K4v.out (fun k e => lawB_E HRv.out e)).on K6.out (fun k e => lawB_N H6.out e)
       have gr : Grp w _ _ m _ (lawB wb (.slice (some ⟨gRr, 0, none⟩) (vr.length + 4) cRr) (.slice (some ⟨gRv, 0, none⟩) (ve.length + 4) cRv) (.slice (some ⟨gMr, 0, none⟩) (ir.length + 4) cMr) (.slice (some ⟨gMv, 0, none⟩) (ie.length + 4) cMv)) := ((HG6r.out.far HH3v.out.kept HAP.out).on K4v.out (fun k e => lawB_E HRv.out e)).on K6.out (fun k e => lawB_N H6.out e)
       refine ⟨rfl, (.slice (some ⟨gRr, 0, none⟩) (vr.length + 4) cRr), (.slice (some ⟨gRv, 0, none⟩) (ve.length + 4) cRv), (.slice (some ⟨gMr, 0, none⟩) (ir.length + 4) cMr), (.slice (some ⟨gMv, 0, none⟩) (ie.length + 4) cMv), _, _, _, _, _, _, HL6.out, gr, gv.base hsd, ?_, sw8⟩
       exact (((Kd.out.mono (fun k e => e.imp id Or.inr)).trans HH3v.out.kept (fun k e => Or.inl (Or.inr (Or.inl e)))).trans K4v.out (fun k e => (sw6 k e).imp (fun e => Or.inr (Or.inr e)) id)).trans K6.out (fun k e => (sw7 k e).imp (fun e => Or.inr (Or.inr e)) id)

end Go.Proofs.YtpcgnadfldimhaaGreatDoor
