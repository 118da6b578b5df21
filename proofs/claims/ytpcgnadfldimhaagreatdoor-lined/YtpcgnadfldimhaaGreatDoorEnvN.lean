/-
  From what the row lists to the names of errors and of phases.
-/
import Derived.Test.YtpcgnadfldimhaaGreatDoorBerZ
import Derived.Test.YtpcgnadfldimhaaGreatDoorAnsX
namespace Go.Proofs.YtpcgnadfldimhaaGreatDoor
open Go.ChangeShapes Go.WideShapes Go.ChangeAt Go.RowKit

theorem gErrN : Tryz.prog.globalNamed "berth/answer.errorNames" = some 5 := by kernel_rfl
theorem gErrNType : (Tryz.prog.globals[5]?).map (·.type) = some 125 := by kernel_rfl
theorem gPhaN : Tryz.prog.globalNamed "berth/answer.phaseNames" = some 7 := by kernel_rfl
theorem gPhaNType : (Tryz.prog.globals[7]?).map (·.type) = some 207 := by kernel_rfl

set_option maxRecDepth 100000 in
theorem errs_of {W : World} {cs : Array Value} {fuel : Nat} {p : List MemPlace} {base : Nat} {sp : Nat → Bool} {held : Bool} {enc : TypeId × Value → Unit} (hd : DataW.trod enc Tryz.prog W base sp held fuel 125 cs.toList = some (Rows.laid_berth_answer_errorNames, p)) :
    cs.toList = errCells := by
  obtain ⟨xs, m, rfl, ex, hlen, hl, hel⟩ := DataW.trod_array Tryz.underlying125 hd
  have e3 := (DataW.agg.inj (Prod.mk.inj ex).1).symm
  match xs, hl with
  | [y0, y1, y2, y3, y4, y5, y6, y7], _ =>
    simp only [List.map_cons, List.map_nil, List.cons.injEq, and_true] at e3
    rw [cellsStr] at hel
    have cN : Tryz.prog.cellsOf 125 = 8 := by kernel_rfl
    rw [cN] at hlen
    generalize cs.toList = l at *
    match l, hlen with
    | [a0, a1, a2, a3, a4, a5, a6, a7], _ =>
      obtain ⟨s0, b0, d0, _⟩ := DataW.trod_string Tryz.underlying9 (hel 0 (by omega))
      obtain ⟨s1, b1, d1, _⟩ := DataW.trod_string Tryz.underlying9 (hel 1 (by omega))
      obtain ⟨s2, b2, d2, _⟩ := DataW.trod_string Tryz.underlying9 (hel 2 (by omega))
      obtain ⟨s3, b3, d3, _⟩ := DataW.trod_string Tryz.underlying9 (hel 3 (by omega))
      obtain ⟨s4, b4, d4, _⟩ := DataW.trod_string Tryz.underlying9 (hel 4 (by omega))
      obtain ⟨s5, b5, d5, _⟩ := DataW.trod_string Tryz.underlying9 (hel 5 (by omega))
      obtain ⟨s6, b6, d6, _⟩ := DataW.trod_string Tryz.underlying9 (hel 6 (by omega))
      obtain ⟨s7, b7, d7, _⟩ := DataW.trod_string Tryz.underlying9 (hel 7 (by omega))
      rw [show y0 = _ from d0, show y1 = _ from d1, show y2 = _ from d2, show y3 = _ from d3, show y4 = _ from d4, show y5 = _ from d5, show y6 = _ from d6, show y7 = _ from d7] at e3
      simp at e3 b0 b1 b2 b3 b4 b5 b6 b7
      obtain ⟨t0, t1, t2, t3, t4, t5, t6, t7⟩ := e3
      subst b0 b1 b2 b3 b4 b5 b6 b7
      rw [str_of t1, str_of t2, str_of t3, str_of t4, str_of t5, str_of t6, str_of t7]
      have z0 : s0 = ⟨#[]⟩ := by
        cases s0
        simpa using t0
      rw [z0]
      rfl

set_option maxRecDepth 100000 in
theorem phases_of {W : World} {cs : Array Value} {fuel : Nat} {p : List MemPlace} {base : Nat} {sp : Nat → Bool} {held : Bool} {enc : TypeId × Value → Unit} (hd : DataW.trod enc Tryz.prog W base sp held fuel 207 cs.toList = some (Rows.laid_berth_answer_phaseNames, p)) :
    cs.toList = phaseCells := by
  obtain ⟨xs, m, rfl, ex, hlen, hl, hel⟩ := DataW.trod_array Tryz.underlying207 hd
  have e3 := (DataW.agg.inj (Prod.mk.inj ex).1).symm
  match xs, hl with
  | [y0, y1, y2, y3, y4, y5], _ =>
    simp only [List.map_cons, List.map_nil, List.cons.injEq, and_true] at e3
    rw [cellsStr] at hel
    have cN : Tryz.prog.cellsOf 207 = 6 := by kernel_rfl
    rw [cN] at hlen
    generalize cs.toList = l at *
    match l, hlen with
    | [a0, a1, a2, a3, a4, a5], _ =>
      obtain ⟨s0, b0, d0, _⟩ := DataW.trod_string Tryz.underlying9 (hel 0 (by omega))
      obtain ⟨s1, b1, d1, _⟩ := DataW.trod_string Tryz.underlying9 (hel 1 (by omega))
      obtain ⟨s2, b2, d2, _⟩ := DataW.trod_string Tryz.underlying9 (hel 2 (by omega))
      obtain ⟨s3, b3, d3, _⟩ := DataW.trod_string Tryz.underlying9 (hel 3 (by omega))
      obtain ⟨s4, b4, d4, _⟩ := DataW.trod_string Tryz.underlying9 (hel 4 (by omega))
      obtain ⟨s5, b5, d5, _⟩ := DataW.trod_string Tryz.underlying9 (hel 5 (by omega))
      rw [show y0 = _ from d0, show y1 = _ from d1, show y2 = _ from d2, show y3 = _ from d3, show y4 = _ from d4, show y5 = _ from d5] at e3
      simp at e3 b0 b1 b2 b3 b4 b5
      obtain ⟨t0, t1, t2, t3, t4, t5⟩ := e3
      subst b0 b1 b2 b3 b4 b5
      rw [str_of t1, str_of t2, str_of t3, str_of t4, str_of t5]
      have z0 : s0 = ⟨#[]⟩ := by
        cases s0
        simpa using t0
      rw [z0]
      rfl

theorem namesE_of {W : World} (hL : laidMetH Tryz.prog Rows.commandsRow.laid W) (hsh : W.ShapedOpen Tryz.prog) : NamesE W := by
  have h1 : ∀ j v, errCells[j]? = some v → W.cell? ⟨5, j, none⟩ = some v := by
    obtain ⟨ps, ⟨g, t, cs, fuel, p, q, hg, ht, hv, hd, _, _⟩, _, _⟩ := laid_one hL "berth/answer.errorNames" Rows.laid_berth_answer_errorNames rfl
    obtain rfl := Option.some.inj (gErrN.symm.trans hg)
    obtain rfl := Option.some.inj (gErrNType.symm.trans ht)
    have hcs := errs_of hd
    intro j v hj
    rw [World.var?_cell gErrN hv j]
    rw [← hcs] at hj
    simpa using hj
  have h2 : ∀ j v, phaseCells[j]? = some v → W.cell? ⟨7, j, none⟩ = some v := by
    obtain ⟨ps, ⟨g, t, cs, fuel, p, q, hg, ht, hv, hd, _, _⟩, _, _⟩ := laid_one hL "berth/answer.phaseNames" Rows.laid_berth_answer_phaseNames rfl
    obtain rfl := Option.some.inj (gPhaN.symm.trans hg)
    obtain rfl := Option.some.inj (gPhaNType.symm.trans ht)
    have hcs := phases_of hd
    intro j v hj
    rw [World.var?_cell gPhaN hv j]
    rw [← hcs] at hj
    simpa using hj
  exact ⟨h1, h2, size_of_shaped hsh⟩

end Go.Proofs.YtpcgnadfldimhaaGreatDoor
