/-
  From what the rows of the statements without the document's answer list to what the walks ask of the package-level variables.
-/
import Derived.Test.YtpcgnadfldimhaaGreatDoorBerZ
namespace Go.Proofs.YtpcgnadfldimhaaGreatDoor
open Go.ChangeShapes Go.WideShapes Go.ChangeAt Go.RowKit

theorem envK_of {W : World} (hL : laidMetH Tryz.prog Rows.keptRow.laid W) (hsh : W.ShapedOpen Tryz.prog) : ∃ a m, Env a m W := by
  have htab := Lib.tabIs_of_head (zs := Lib.pow10Tab) gPow gPowType Tryz.underlying287 Tryz.underlying254 cellsU64 cellsPow (laid_one hL "internal/strconv.uint64pow10" Rows.laid_internal_strconv_uint64pow10 rfl)
  obtain ⟨a, s, ca, ta, xa, wa⟩ := laid_sent (laid_one hL "berth/command.ErrForm" Rows.laid_berth_command_ErrForm rfl) (g := 9) (by kernel_rfl) (by kernel_rfl)
  obtain ⟨p1, s1, c1, t1, x1, w1⟩ := laid_sent (laid_one hL "berth/cluster.ErrWidth" Rows.laid_berth_cluster_ErrWidth rfl) (g := 0) (by kernel_rfl) (by kernel_rfl)
  obtain ⟨p2, s2, c2, t2, x2, w2⟩ := laid_sent (laid_one hL "berth/cluster.ErrWall" Rows.laid_berth_cluster_ErrWall rfl) (g := 1) (by kernel_rfl) (by kernel_rfl)
  obtain ⟨p3, s3, c3, t3, x3, w3⟩ := laid_sent (laid_one hL "berth/cluster.ErrFull" Rows.laid_berth_cluster_ErrFull rfl) (g := 2) (by kernel_rfl) (by kernel_rfl)
  obtain ⟨p4, s4, c4, t4, x4, w4⟩ := laid_sent (laid_one hL "berth/cluster.ErrTime" Rows.laid_berth_cluster_ErrTime rfl) (g := 4) (by kernel_rfl) (by kernel_rfl)
  obtain ⟨p5, s5, c5, t5, x5, w5⟩ := laid_sent (laid_one hL "berth/cluster.ErrPhase" Rows.laid_berth_cluster_ErrPhase rfl) (g := 3) (by kernel_rfl) (by kernel_rfl)
  have htyp := laid_typ (W := W) (laidMetH_iff.1 hL).2
  have hs := laid_one hL "berth/command.shapes" Rows.laid_berth_command_shapes rfl
  obtain ⟨ps, ⟨g, t, cs, fuel, p, q, hg, ht, hv, hd, _, _⟩, _, _⟩ := hs
  obtain rfl := Option.some.inj (gShapes.symm.trans hg)
  obtain rfl := Option.some.inj (gShapesType.symm.trans ht)
  have hcs := shapes_of hd
  obtain ⟨m, hm⟩ := Tryz.laysM146.s1_3 W hsh
  refine ⟨a, m, ⟨ca, fun j v hj => ?_, hm, htab, size_of_shaped hsh, p1, p2, p3, p4, p5, ⟨c1, w1⟩, ⟨c2, w2⟩, ⟨c3, w3⟩, ⟨c4, w4⟩, ⟨c5, w5⟩, wa, apart ta t1 xa x1 (by decide), apart ta t2 xa x2 (by decide), apart ta t3 xa x3 (by decide), apart ta t4 xa x4 (by decide), apart ta t5 xa x5 (by decide), apart t2 t1 x2 x1 (by decide), apart t3 t1 x3 x1 (by decide), apart t3 t2 x3 x2 (by decide), apart t5 t1 x5 x1 (by decide), apart t5 t2 x5 x2 (by decide), apart t5 t3 x5 x3 (by decide), apart t4 t1 x4 x1 (by decide), apart t4 t2 x4 x2 (by decide), apart t4 t3 x4 x3 (by decide), apart t4 t5 x4 x5 (by decide), htyp, size_of_shaped hsh⟩⟩
  rw [World.var?_cell gShapes hv j]
  rw [← hcs] at hj
  simpa using hj

theorem envXK_of {W : World} (hL : laidMetH Tryz.prog Rows.keptRow.laid W) (hsh : W.ShapedOpen Tryz.prog) : ∃ a m, EnvX a m W := by
  obtain ⟨a, m, hE⟩ := envK_of hL hsh
  obtain ⟨p1, p2, p3, p4, p5, hA⟩ := hE.asks
  obtain ⟨p0, s0, c0, t0, x0, w0⟩ := laid_sent (laid_one hL "berth/cluster.ErrConfig" Rows.laid_berth_cluster_ErrConfig rfl) (g := 10) (by kernel_rfl) (by kernel_rfl)
  obtain ⟨q1, s1, c1, t1, x1, w1⟩ := laid_sent (laid_one hL "berth/cluster.ErrWidth" Rows.laid_berth_cluster_ErrWidth rfl) (g := 0) (by kernel_rfl) (by kernel_rfl)
  obtain ⟨q2, s2, c2, t2, x2, w2⟩ := laid_sent (laid_one hL "berth/cluster.ErrWall" Rows.laid_berth_cluster_ErrWall rfl) (g := 1) (by kernel_rfl) (by kernel_rfl)
  obtain ⟨q3, s3, c3, t3, x3, w3⟩ := laid_sent (laid_one hL "berth/cluster.ErrFull" Rows.laid_berth_cluster_ErrFull rfl) (g := 2) (by kernel_rfl) (by kernel_rfl)
  obtain ⟨q4, s4, c4, t4, x4, w4⟩ := laid_sent (laid_one hL "berth/cluster.ErrTime" Rows.laid_berth_cluster_ErrTime rfl) (g := 4) (by kernel_rfl) (by kernel_rfl)
  obtain ⟨q5, s5, c5, t5, x5, w5⟩ := laid_sent (laid_one hL "berth/cluster.ErrPhase" Rows.laid_berth_cluster_ErrPhase rfl) (g := 3) (by kernel_rfl) (by kernel_rfl)
  obtain rfl := sent_same hA.s1 c1
  obtain rfl := sent_same hA.s2 c2
  obtain rfl := sent_same hA.s3 c3
  obtain rfl := sent_same hA.s4 c4
  obtain rfl := sent_same hA.s5 c5
  exact ⟨a, m, hE, p1, p2, p3, p4, p5, p0, hA, ⟨c0, w0⟩, apart t0 t1 x0 x1 (by decide), apart t0 t2 x0 x2 (by decide), apart t0 t3 x0 x3 (by decide), apart t0 t4 x0 x4 (by decide), apart t0 t5 x0 x5 (by decide)⟩

def plainLaidK : List (String × DataW Unit) := Rows.keptRow.laid.filter fun x => x.2.handleName?.isNone
/-- .. and the other listed variables. -/
noncomputable def witK (os : Os) : World := (wit0 os).layVars Tryz.prog plainLaidK
theorem witK_os (os : Os) : (witK os).os = os := by
  unfold witK
  rw [World.layVars_os]
  rfl
theorem witK_met (os : Os) (args : Array Value) : laidMetH Tryz.prog Rows.keptRow.laid ((witK os).forCall (fun _ _ => 0) ⟨#[], args, []⟩).memory := by
  refine laidMetH_of_parts ?_ (by kernel_rfl)
  have e1 : (plainLaidK.filter fun x => (plainLaidK.map (·.1)).contains x.1) = plainLaidK := List.filter_eq_self.2 fun x hx => List.contains_iff_mem.2 (List.mem_map.2 ⟨x, hx, rfl⟩)
  have e2 : (plainLaidK.filter fun x => !(plainLaidK.map (·.1)).contains x.1) = [] := List.filter_eq_nil_iff.2 fun x hx => by rw [List.contains_iff_mem.2 (List.mem_map.2 ⟨x, hx, rfl⟩)]; simp
  have h : laidMet Tryz.prog plainLaidK (witK os) := laidMet_layVars (w0 := wit0 os) (plainLaidK.map (·.1)) [] (by rw [e1]; rfl) (by rw [e1]; kernel_rfl) (by rw [e1]; kernel_rfl) (by rw [e2]; exact LaidIn.none)
  exact h.of_heap (by simp [World.memory, World.forCall, Input.heap])

end Go.Proofs.YtpcgnadfldimhaaGreatDoor
