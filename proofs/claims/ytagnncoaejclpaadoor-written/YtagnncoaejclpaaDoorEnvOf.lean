/-
  From what the row lists to what the walks ask of the package-level variables.
-/
import Derived.Test.YtagnncoaejclpaaDoorCards
import Derived.Test.YtagnncoaejclpaaDoorTie
import Derived.Test.YtagnncoaejclpaaDoorShape
import Derived.Test.YtagnncoaejclpaaDoorShelf
import Derived.ProofKit
import Derived.OpenShut
import Derived.MakeChecks
import Derived.Lay
import Derived.Lib.LaidTab
import Derived.Stop.LaidErr
import Derived.Deep.DeepHandedRow
namespace Go.Proofs.YtagnncoaejclpaaDoor
open Go.ChangeShapes Go.WideShapes Go.ChangeAt Go.RowKit

theorem own : ownKnob Tryd.prog.godebug = none := by kernel_rfl
theorem gErr : Tryd.prog.globalNamed "berth/command.ErrForm" = some 0 := by kernel_rfl
theorem gErrType : (Tryd.prog.globals[0]?).map (·.type) = some 49 := by kernel_rfl
theorem gShapes : Tryd.prog.globalNamed "berth/command.shapes" = some 1 := by kernel_rfl
theorem gShapesType : (Tryd.prog.globals[1]?).map (·.type) = some 111 := by kernel_rfl
theorem gPow : Tryd.prog.globalNamed "internal/strconv.uint64pow10" = some 3 := by kernel_rfl
theorem gPowType : (Tryd.prog.globals[3]?).map (·.type) = some 151 := by kernel_rfl
theorem cellsPow : Tryd.prog.cellsOf 151 = 20 := by kernel_rfl
theorem cellsU64 : Tryd.prog.cellsOf 138 = 1 := by kernel_rfl
theorem cellsShape : Tryd.prog.cellsOf 82 = 3 := by kernel_rfl
theorem cellsInt : Tryd.prog.cellsOf 3 = 1 := by kernel_rfl
theorem cellsStr : Tryd.prog.cellsOf 9 = 1 := by kernel_rfl
theorem cellsErrS : Tryd.prog.cellsOf 192 = 1 := by kernel_rfl
theorem starErr : "*" ++ "errors.errorString" = "*errors.errorString" := by decide
theorem rowErr (u : TypeId) (h : Tryd.prog.typeName? 3 u = some "*errors.errorString") : u = 165 :=
  typeName_ptr_named (nm := "errors.errorString") (by rw [starErr]; kernel_rfl) (by kernel_rfl) (by decide) u (by rw [starErr]; exact h)

theorem size_of_shaped {W : World} (hsh : W.ShapedOpen Tryd.prog) : 8 ≤ W.heap.size := by
  have hs : (((begin Tryd.prog (fun _ _ => 0) default).world.heap[8 - 1]?).bind Obj.row?).isSome = true := by kernel_rfl
  obtain ⟨x, hx⟩ := Option.isSome_iff_exists.1 hs
  obtain ⟨cs, h, -, -⟩ := hsh.1 (8 - 1) x.1 x.2 (by rw [show Tryd.prog.globals.size = 8 from by kernel_rfl]; decide) hx
  have := (Array.getElem?_eq_some_iff.1 h).1
  omega


set_option maxRecDepth 100000 in
theorem shape_of_trod {H : Type} {enc : TypeId × Value → H} {w : World} {base : Nat} {sp : Nat → Bool} {held : Bool} {fuel : Nat} {cs : List Value} {x : DataW H × List MemPlace}
    (h : DataW.trod enc Tryd.prog w base sp held fuel 82 cs = some x) : ∃ (k : Int) (s : ByteArray) (n : Int), cs = [.int .i64 k, .string s, .int .i64 n] ∧ x.1 = .agg [.lit (.int .i64 k), .lit (.string s.data.toList), .lit (.int .i64 n)] := by
  obtain ⟨xs, m, rfl, rfl, hl, hx, hf⟩ := DataW.trod_struct Tryd.underlying82 h
  rw [cellsShape] at hl
  match cs, hl with
  | [a, b, c], _ =>
    have hx3 : xs.length = 3 := hx
    match xs, hx3 with
    | [y0, y1, y2], _ =>
      have h0 : DataW.trod enc Tryd.prog w base sp held m 3 (List.take (Tryd.prog.cellsOf 3) (List.drop 0 [a, b, c])) = some y0 := hf 0 _ rfl
      have h1 : DataW.trod enc Tryd.prog w base sp held m 9 (List.take (Tryd.prog.cellsOf 9) (List.drop 1 [a, b, c])) = some y1 := hf 1 _ rfl
      have h2 : DataW.trod enc Tryd.prog w base sp held m 3 (List.take (Tryd.prog.cellsOf 3) (List.drop 2 [a, b, c])) = some y2 := hf 2 _ rfl
      rw [cellsInt] at h0 h2
      rw [cellsStr] at h1
      obtain ⟨k, e0, rfl, _⟩ := DataW.trod_int Tryd.underlying3 h0
      obtain ⟨s, e1, rfl, _⟩ := DataW.trod_string Tryd.underlying9 h1
      obtain ⟨n, e2, rfl, _⟩ := DataW.trod_int Tryd.underlying3 h2
      simp at e0 e1 e2
      subst e0 e1 e2
      exact ⟨k, s, n, rfl, rfl⟩

theorem str_of {s : ByteArray} {l : List UInt8} (h : s.data.toList = l) : s = ⟨l.toArray⟩ := by
  cases s
  simp only at h
  subst h
  simp

set_option maxRecDepth 100000 in
theorem shapes_of {W : World} {cs : Array Value} {fuel : Nat} {p : List MemPlace} {base : Nat} {sp : Nat → Bool} {held : Bool} {enc : TypeId × Value → Unit} (hd : DataW.trod enc Tryd.prog W base sp held fuel 111 cs.toList = some (Rows.laid_berth_command_shapes, p)) :
    cs.toList = shapeCells := by
  obtain ⟨xs, m, rfl, ex, hlen, hl, hel⟩ := DataW.trod_array Tryd.underlying111 hd
  have e3 := (DataW.agg.inj (Prod.mk.inj ex).1).symm
  match xs, hl with
  | [y0, y1, y2, y3, y4, y5, y6], _ =>
    simp only [List.map_cons, List.map_nil, List.cons.injEq, and_true] at e3
    rw [cellsShape] at hel
    have c21 : Tryd.prog.cellsOf 111 = 21 := by kernel_rfl
    rw [c21] at hlen
    generalize cs.toList = l at *
    match l, hlen with
    | [a0, a1, a2, a3, a4, a5, a6, a7, a8, a9, a10, a11, a12, a13, a14, a15, a16, a17, a18, a19, a20], _ =>
      obtain ⟨k0, s0, n0, b0, d0⟩ := shape_of_trod (hel 0 (by omega))
      obtain ⟨k1, s1, n1, b1, d1⟩ := shape_of_trod (hel 1 (by omega))
      obtain ⟨k2, s2, n2, b2, d2⟩ := shape_of_trod (hel 2 (by omega))
      obtain ⟨k3, s3, n3, b3, d3⟩ := shape_of_trod (hel 3 (by omega))
      obtain ⟨k4, s4, n4, b4, d4⟩ := shape_of_trod (hel 4 (by omega))
      obtain ⟨k5, s5, n5, b5, d5⟩ := shape_of_trod (hel 5 (by omega))
      obtain ⟨k6, s6, n6, b6, d6⟩ := shape_of_trod (hel 6 (by omega))
      rw [d0, d1, d2, d3, d4, d5, d6] at e3
      simp at e3 b0 b1 b2 b3 b4 b5 b6
      obtain ⟨⟨rfl, t0, rfl⟩, ⟨rfl, t1, rfl⟩, ⟨rfl, t2, rfl⟩, ⟨rfl, t3, rfl⟩, ⟨rfl, t4, rfl⟩, ⟨rfl, t5, rfl⟩, rfl, t6, rfl⟩ := e3
      obtain ⟨rfl, rfl, rfl⟩ := b0
      obtain ⟨rfl, rfl, rfl⟩ := b1
      obtain ⟨rfl, rfl, rfl⟩ := b2
      obtain ⟨rfl, rfl, rfl⟩ := b3
      obtain ⟨rfl, rfl, rfl⟩ := b4
      obtain ⟨rfl, rfl, rfl⟩ := b5
      obtain ⟨rfl, rfl, rfl⟩ := b6
      rw [str_of t0, str_of t1, str_of t2, str_of t3, str_of t4, str_of t5, str_of t6]
      rfl

theorem env_of {W : World} (hL : laidMetH Tryd.prog Rows.commandsRow.laid W) (hsh : W.ShapedOpen Tryd.prog) : ∃ a m, Env a m W := by
  rw [MakeChecks.laidMetH_plain _ _ _ (by kernel_rfl)] at hL
  have hp := hL.tail.tail
  have htab := Lib.tabIs_of_head (zs := Lib.pow10Tab) gPow gPowType Tryd.underlying151 Tryd.underlying138 cellsU64 cellsPow hp
  have hs := hp.tail.tail
  obtain ⟨a, s, hv0, -, -, -⟩ := laid_sentinel hs.tail gErr gErrType Tryd.underlying49 rowErr Tryd.underlying165 Tryd.underlying192 rfl rfl Tryd.underlying9 cellsErrS cellsStr
  obtain ⟨ps, ⟨g, t, cs, fuel, p, q, hg, ht, hv, hd, _, _⟩, _, _⟩ := hs
  obtain rfl := Option.some.inj (gShapes.symm.trans hg)
  obtain rfl := Option.some.inj (gShapesType.symm.trans ht)
  have hcs := shapes_of hd
  obtain ⟨m, hm⟩ := Tryd.laysM146.s1_3 W hsh
  refine ⟨a, m, ⟨World.var?_cell gErr hv0 0, fun j v hj => ?_, hm, htab, size_of_shaped hsh⟩⟩
  rw [World.var?_cell gShapes hv j]
  rw [← hcs] at hj
  simpa using hj

end Go.Proofs.YtagnncoaejclpaaDoor
