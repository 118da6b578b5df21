/-
 From what the row lists to what the walks ask of the package-level variables.
-/
import Derived.Test.YtpcgnadfldimhaaGreatDoorCards
import Derived.Test.YtpcgnadfldimhaaGreatDoorTie
import Derived.Test.YtpcgnadfldimhaaGreatDoorShape
import Derived.Test.YtpcgnadfldimhaaGreatDoorShelf
import Derived.ProofKit
import Derived.OpenShut
import Derived.MakeChecks
import Derived.Lay
import Derived.Lib.LaidTab
import Derived.Stop.LaidErr
import Derived.LaidSub
import Derived.LaidHandle
import Derived.Deep.DeepHandedRow
namespace Go.Proofs.YtpcgnadfldimhaaGreatDoor
open Go.ChangeShapes Go.WideShapes Go.ChangeAt Go.RowKit

theorem own : ownKnob Tryz.prog.godebug = none := by kernel_rfl
theorem gShapes : Tryz.prog.globalNamed "berth/command.shapes" = some 8 := by kernel_rfl
theorem gShapesType : (Tryz.prog.globals[8]?).map (·.type) = some 208 := by kernel_rfl
theorem gPow : Tryz.prog.globalNamed "internal/strconv.uint64pow10" = some 11 := by kernel_rfl
theorem gPowType : (Tryz.prog.globals[11]?).map (·.type) = some 287 := by kernel_rfl
theorem cellsPow : Tryz.prog.cellsOf 287 = 20 := by kernel_rfl
theorem cellsU64 : Tryz.prog.cellsOf 254 = 1 := by kernel_rfl
theorem cellsShape : Tryz.prog.cellsOf 129 = 3 := by kernel_rfl
theorem cellsInt : Tryz.prog.cellsOf 3 = 1 := by kernel_rfl
theorem cellsStr : Tryz.prog.cellsOf 9 = 1 := by kernel_rfl
theorem cellsErrS : Tryz.prog.cellsOf 335 = 1 := by kernel_rfl
theorem starErr : "*" ++ "errors.errorString" = "*errors.errorString" := by decide
theorem rowErr (u : TypeId) (h : Tryz.prog.typeName? 3 u = some "*errors.errorString") : u = 315 :=
 typeName_ptr_named (nm := "errors.errorString") (by rw [starErr]; kernel_rfl) (by kernel_rfl) (by decide) u (by rw [starErr]; exact h)

/-- One of the listed variables, alone. -/
theorem laid_one {laid : List (String × DataW Unit)} {W : World} (h : laidMetH Tryz.prog laid W) (n : String) (d : DataW Unit) (e : ((laid.filter fun x => x.2.handleName?.isNone).filter fun x => x.1 == n) = [(n, d)]) : laidMet Tryz.prog [(n, d)] W := by
 have k := (laidMetH_iff.1 h).1.filter (fun x => x.1 == n)
 rw [e] at k
 exact k

/-- A sentinel's variable: the pointer, what it points at, and that this is a whole block. -/
theorem laid_sent_any {P : Program} {n nm : String} {text : List UInt8} {W : World} {g : Nat} {ti tp te ts : TypeId} {ms : Array (String × TypeId)} {f : Field} (h : laidMet P [(n, .iface nm (.ptr (.agg [.lit (.string text)])))] W)
  (hg : P.globalNamed n = some g) (ht : (P.globals[g]?).map (·.type) = some ti) (hi : P.underlying ti = some (.interface ms)) (hrow : ∀ u, P.typeName? 3 u = some nm → u = tp)
  (hp : P.underlying tp = some (.pointer te)) (he : P.underlying te = some (.struct #[f])) (hft : f.type = ts) (hfo : f.offset = 0) (hs : P.underlying ts = some .string) (hc : P.cellsOf te = 1) (hcs : P.cellsOf ts = 1) :
  ∃ (a : Addr) (s : ByteArray), W.cell? ⟨g, 0, none⟩ = some (.iface tp (.pointer (some a))) ∧ W.cell? a = some (.string s) ∧ s.data.toList = text ∧ ∃ c t, W.heap[a.block]? = some (.cells c t (0, 0)) := by
 obtain ⟨ps, ⟨g0, t0, cs0, f0, p0, q0, hg0, ht0, hv0, hd0, hq, e0⟩, _, hrows⟩ := h
 obtain rfl := Option.some.inj (hg.symm.trans hg0)
 obtain rfl := Option.some.inj (ht.symm.trans ht0)
 subst e0
 obtain ⟨l0⟩ := cs0
 have ok0 : ∀ u v, l0 = [.iface u v] → Value.okWide P W .any 0 u v := fun u v e => by
  subst e
  exact (hrows g 0 (by simp [MemPlace.row])).2 u v (by simpa using World.var?_cell hg0 hv0 0)
 obtain ⟨a0, s0, rfl, hc0, hs0, hz0, hp⟩ := errorString_of_trod hi hrow hp he hft hfo hs hc hcs hd0 ok0
 subst hp
 refine ⟨a0, s0, by simpa using World.var?_cell hg0 hv0 0, hc0, hs0, ?_⟩
 exact (hrows a0.block a0.off (by simp [MemPlace.row])).1

theorem laid_sent {n : String} {text : List UInt8} {W : World} {g : Nat} (h : laidMet Tryz.prog [(n, .iface "*errors.errorString" (.ptr (.agg [.lit (.string text)])))] W)
  (hg : Tryz.prog.globalNamed n = some g) (ht : (Tryz.prog.globals[g]?).map (·.type) = some 89) :
  ∃ (a : Addr) (s : ByteArray), W.cell? ⟨g, 0, none⟩ = some (.iface 315 (.pointer (some a))) ∧ W.cell? a = some (.string s) ∧ s.data.toList = text ∧ Whole W a :=
 laid_sent_any h hg ht Tryz.underlying89 rowErr Tryz.underlying315 Tryz.underlying335 rfl rfl Tryz.underlying9 cellsErrS cellsStr

theorem etNamed : Tryz.prog.globalNamed "errors.errorType" = some 6 := by kernel_rfl
theorem etRtype : (Tryz.prog.cutTypes.find? (·.1 == "internal/reflectlite.rtype")).map (·.2) = some 234 := by kernel_rfl
set_option maxRecDepth 100000 in
theorem etRow : ((List.range 346).filter fun t => Tryz.prog.rowNamed t [101, 114, 114, 111, 114]) = [89] := by kernel_rfl
theorem etSize : Tryz.prog.types.size = 346 := by kernel_rfl

set_option maxRecDepth 100000 in
theorem laid_typ {W : World} (h2 : handlesMet Tryz.prog [("errors.errorType", Rows.laid_errors_errorType)] W) : W.cell? ⟨6, 0, none⟩ = some (.iface 234 (.agg #[.pointer (some ⟨17, 89, none⟩)])) := by
 obtain ⟨name, u, ty, e1, e2, e3, e4, e5⟩ := h2 _ (List.mem_singleton.2 rfl)
 have en : name = [101, 114, 114, 111, 114] := (Option.some.inj e1).symm
 subst en
 obtain rfl := Option.some.inj (etRtype.symm.trans e2)
 have hm : ty ∈ (List.range 346).filter fun t => Tryz.prog.rowNamed t [101, 114, 114, 111, 114] := List.mem_filter.2 ⟨List.mem_range.2 (by rw [← etSize]; exact e3), e4⟩
 rw [etRow] at hm
 obtain rfl := List.mem_singleton.1 hm
 have hh : typeHandle Tryz.prog 89 = .pointer (some ⟨17, 89, none⟩) := by kernel_rfl
 rw [hh] at e5
 simpa using World.var?_cell etNamed e5 0

theorem size_of_shaped {W : World} (hsh : W.ShapedOpen Tryz.prog) : 17 ≤ W.heap.size := by
 have hs : (((begin Tryz.prog (fun _ _ => 0) default).world.heap[17 - 1]?).bind Obj.row?).isSome = true := by kernel_rfl
 obtain ⟨x, hx⟩ := Option.isSome_iff_exists.1 hs
 obtain ⟨cs, h, -, -⟩ := hsh.1 (17 - 1) x.1 x.2 (by rw [show Tryz.prog.globals.size = 17 from by kernel_rfl]; decide) hx
 have := (Array.getElem?_eq_some_iff.1 h).1
 omega

set_option maxRecDepth 100000 in
theorem shape_of_trod {H : Type} {enc : TypeId × Value → H} {w : World} {base : Nat} {sp : Nat → Bool} {held : Bool} {fuel : Nat} {cs : List Value} {x : DataW H × List MemPlace}
  (h : DataW.trod enc Tryz.prog w base sp held fuel 129 cs = some x) : ∃ (k : Int) (s : ByteArray) (n : Int), cs = [.int .i64 k, .string s, .int .i64 n] ∧ x.1 = .agg [.lit (.int .i64 k), .lit (.string s.data.toList), .lit (.int .i64 n)] := by
 obtain ⟨xs, m, rfl, rfl, hl, hx, hf⟩ := DataW.trod_struct Tryz.underlying129 h
 rw [cellsShape] at hl
 match cs, hl with
 | [a, b, c], _ =>
  have hx3 : xs.length = 3 := hx
  match xs, hx3 with
  | [y0, y1, y2], _ =>
   have h0 : DataW.trod enc Tryz.prog w base sp held m 3 (List.take (Tryz.prog.cellsOf 3) (List.drop 0 [a, b, c])) = some y0 := hf 0 _ rfl
   have h1 : DataW.trod enc Tryz.prog w base sp held m 9 (List.take (Tryz.prog.cellsOf 9) (List.drop 1 [a, b, c])) = some y1 := hf 1 _ rfl
   have h2 : DataW.trod enc Tryz.prog w base sp held m 3 (List.take (Tryz.prog.cellsOf 3) (List.drop 2 [a, b, c])) = some y2 := hf 2 _ rfl
   rw [cellsInt] at h0 h2
   rw [cellsStr] at h1
   obtain ⟨k, e0, rfl, _⟩ := DataW.trod_int Tryz.underlying3 h0
   obtain ⟨s, e1, rfl, _⟩ := DataW.trod_string Tryz.underlying9 h1
   obtain ⟨n, e2, rfl, _⟩ := DataW.trod_int Tryz.underlying3 h2
   simp at e0 e1 e2
   subst e0 e1 e2
   exact ⟨k, s, n, rfl, rfl⟩

theorem str_of {s : ByteArray} {l : List UInt8} (h : s.data.toList = l) : s = ⟨l.toArray⟩ := by
 cases s
 simp only at h
 subst h
 simp

set_option maxRecDepth 100000 in
theorem shapes_of {W : World} {cs : Array Value} {fuel : Nat} {p : List MemPlace} {base : Nat} {sp : Nat → Bool} {held : Bool} {enc : TypeId × Value → Unit} (hd : DataW.trod enc Tryz.prog W base sp held fuel 208 cs.toList = some (Rows.laid_berth_command_shapes, p)) :
  cs.toList = shapeCells := by
 obtain ⟨xs, m, rfl, ex, hlen, hl, hel⟩ := DataW.trod_array Tryz.underlying208 hd
 have e3 := (DataW.agg.inj (Prod.mk.inj ex).1).symm
 match xs, hl with
 | [y0, y1, y2, y3, y4, y5, y6], _ =>
  simp only [List.map_cons, List.map_nil, List.cons.injEq, and_true] at e3
  rw [cellsShape] at hel
  have c21 : Tryz.prog.cellsOf 208 = 21 := by kernel_rfl
  rw [c21] at hlen
  generalize cs.toList = l at *
  match l, hlen with
  | [a0, a1, a2, a3, a4, a5, a6, a7, a8, a9, a10, a11, a12, a13, a14, a15, a16, a17, a18, a19, a20], _ =>
   obtain ⟨k0, s0, n0, b0, d0⟩ := shape_of_trod (hel 0 (by omega))
   obtain ⟨k1, s1, n1, b1, d1⟩ := shape_of_trod (hel 1 (by omega))
   obtain ⟨k2, s2, n2, b2, d2⟩ := shape_of_trod (hel 2 (by omega))
   obtain ⟨k3, s3, n3, b3, d3⟩ := shape_of_trod (hel 3 (by omega))
   obtain ⟨k4, s4, n4, b4, d4⟩ := shape_of_trod (hel 4 (by omega))
   obtain ⟨k5, s5, n5, b5, d5⟩ := shape_of_trod (hel 5 (by omega))
   obtain ⟨k6, s6, n6, b6, d6⟩ := shape_of_trod (hel 6 (by omega))
   rw [d0, d1, d2, d3, d4, d5, d6] at e3
   simp at e3 b0 b1 b2 b3 b4 b5 b6
   obtain ⟨⟨rfl, t0, rfl⟩, ⟨rfl, t1, rfl⟩, ⟨rfl, t2, rfl⟩, ⟨rfl, t3, rfl⟩, ⟨rfl, t4, rfl⟩, ⟨rfl, t5, rfl⟩, rfl, t6, rfl⟩ := e3
   obtain ⟨rfl, rfl, rfl⟩ := b0
   obtain ⟨rfl, rfl, rfl⟩ := b1
   obtain ⟨rfl, rfl, rfl⟩ := b2
   obtain ⟨rfl, rfl, rfl⟩ := b3
   obtain ⟨rfl, rfl, rfl⟩ := b4
   obtain ⟨rfl, rfl, rfl⟩ := b5
   obtain ⟨rfl, rfl, rfl⟩ := b6
   rw [str_of t0, str_of t1, str_of t2, str_of t3, str_of t4, str_of t5, str_of t6]
   rfl

theorem apart {W : World} {a b : Addr} {s r : ByteArray} (ha : W.cell? a = some (.string s)) (hb : W.cell? b = some (.string r)) {x y : List UInt8} (hs : s.data.toList = x) (hr : r.data.toList = y) (h : x ≠ y) : a ≠ b := fun e => by
 subst e
 obtain rfl : s = r := by simpa using ha.symm.trans hb
 exact h (hs.symm.trans hr)

theorem env_of {W : World} (hL : laidMetH Tryz.prog Rows.commandsRow.laid W) (hsh : W.ShapedOpen Tryz.prog) : ∃ a m, Env a m W := by
 have htab := Lib.tabIs_of_head (zs := Lib.pow10Tab) gPow gPowType Tryz.underlying287 Tryz.underlying254 cellsU64 cellsPow (laid_one hL "internal/strconv.uint64pow10" Rows.laid_internal_strconv_uint64pow10 rfl)
 obtain ⟨a, s, ca, ta, xa, wa⟩ := laid_sent (laid_one hL "berth/command.ErrForm" Rows.laid_berth_command_ErrForm rfl) (g := 9) (by kernel_rfl) (by kernel_rfl)
 obtain ⟨p1, s1, c1, t1, x1, w1⟩ := laid_sent (laid_one hL "berth/cluster.ErrWidth" Rows.laid_berth_cluster_ErrWidth rfl) (g := 0) (by kernel_rfl) (by kernel_rfl)
 obtain ⟨p2, s2, c2, t2, x2, w2⟩ := laid_sent (laid_one hL "berth/cluster.ErrWall" Rows.laid_berth_cluster_ErrWall rfl) (g := 1) (by kernel_rfl) (by kernel_rfl)
 obtain ⟨p3, s3, c3, t3, x3, w3⟩ := laid_sent (laid_one hL "berth/cluster.ErrFull" Rows.laid_berth_cluster_ErrFull rfl) (g := 2) (by kernel_rfl) (by kernel_rfl)
 obtain ⟨p4, s4, c4, t4, x4, w4⟩ := laid_sent (laid_one hL "berth/cluster.ErrTime" Rows.laid_berth_cluster_ErrTime rfl) (g := 4) (by kernel_rfl) (by kernel_rfl)
 obtain ⟨p5, s5, c5, t5, x5, w5⟩ := laid_sent (laid_one hL "berth/cluster.ErrPhase" Rows.laid_berth_cluster_ErrPhase rfl) (g := 3) (by kernel_rfl) (by kernel_rfl)
 have htyp := laid_typ (W := W) (laidMetH_iff.1 hL).2
 have hs := laid_one hL "berth/command.shapes" Rows.laid_berth_command_shapes rfl
 obtain ⟨ps, ⟨g, t, cs, fuel, p, q, hg, ht, hv, hd, _, _⟩, _, _⟩ := hs
 obtain rfl := Option.some.inj (gShapes.symm.trans hg)
 obtain rfl := Option.some.inj (gShapesType.symm.trans ht)
 have hcs := shapes_of hd
 obtain ⟨m, hm⟩ := Tryz.laysM146.s1_3 W hsh
 refine ⟨a, m, ⟨ca, fun j v hj => ?_, hm, htab, size_of_shaped hsh, p1, p2, p3, p4, p5, ⟨c1, w1⟩, ⟨c2, w2⟩, ⟨c3, w3⟩, ⟨c4, w4⟩, ⟨c5, w5⟩, wa, apart ta t1 xa x1 (by decide), apart ta t2 xa x2 (by decide), apart ta t3 xa x3 (by decide), apart ta t4 xa x4 (by decide), apart ta t5 xa x5 (by decide), apart t2 t1 x2 x1 (by decide), apart t3 t1 x3 x1 (by decide), apart t3 t2 x3 x2 (by decide), apart t5 t1 x5 x1 (by decide), apart t5 t2 x5 x2 (by decide), apart t5 t3 x5 x3 (by decide), apart t4 t1 x4 x1 (by decide), apart t4 t2 x4 x2 (by decide), apart t4 t3 x4 x3 (by decide), apart t4 t5 x4 x5 (by decide), htyp, size_of_shaped hsh⟩⟩
 rw [World.var?_cell gShapes hv j]
 rw [← hcs] at hj
 simpa using hj

/-! ### A world that meets the condition -/
/-- The settled world, the handle of the type 'error' laid. -/
noncomputable def wit0 (os : Os) : World :=
 let w0 := World.holding Tryz.prog os ⟨#[], #[], []⟩
 { w0 with heap := w0.heap.modify 6 fun
   | .cells _ t frozen => .cells #[.iface 234 (.agg #[.pointer (some ⟨17, 89, none⟩)])] t frozen
   | o => o }
def plainLaid : List (String × DataW Unit) := Rows.commandsRow.laid.filter fun x => x.2.handleName?.isNone
/-- .. and the other listed variables. -/
noncomputable def wit (os : Os) : World := (wit0 os).layVars Tryz.prog plainLaid
theorem wit_os (os : Os) : (wit os).os = os := by
 unfold wit
 rw [World.layVars_os]
 rfl
theorem wit_met (os : Os) (args : Array Value) : laidMetH Tryz.prog Rows.commandsRow.laid ((wit os).forCall (fun _ _ => 0) ⟨#[], args, []⟩).memory := by
 refine laidMetH_of_parts ?_ (by kernel_rfl)
 have e1 : (plainLaid.filter fun x => (plainLaid.map (·.1)).contains x.1) = plainLaid := List.filter_eq_self.2 fun x hx => List.contains_iff_mem.2 (List.mem_map.2 ⟨x, hx, rfl⟩)
 have e2 : (plainLaid.filter fun x => !(plainLaid.map (·.1)).contains x.1) = [] := List.filter_eq_nil_iff.2 fun x hx => by rw [List.contains_iff_mem.2 (List.mem_map.2 ⟨x, hx, rfl⟩)]; simp
 have h : laidMet Tryz.prog plainLaid (wit os) := laidMet_layVars (w0 := wit0 os) (plainLaid.map (·.1)) [] (by rw [e1]; rfl) (by rw [e1]; kernel_rfl) (by rw [e1]; kernel_rfl) (by rw [e2]; exact LaidIn.none)
 exact h.of_heap (by simp [World.memory, World.forCall, Input.heap])

end Go.Proofs.YtpcgnadfldimhaaGreatDoor
