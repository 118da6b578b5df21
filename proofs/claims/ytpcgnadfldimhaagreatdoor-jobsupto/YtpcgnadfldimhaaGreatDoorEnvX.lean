/-
  From what the row lists to what the walks ask of the package-level variables, the sentinel of New's refusals too.
-/
import Derived.Test.YtpcgnadfldimhaaGreatDoorEnvOf
import Derived.Test.YtpcgnadfldimhaaGreatDoorBerE
namespace Go.Proofs.YtpcgnadfldimhaaGreatDoor
open Go.ChangeShapes Go.WideShapes Go.ChangeAt Go.RowKit

theorem sent_same {g : Nat} {p q : Addr} {w : World} (h : Sent g p w) (c : w.cell? ⟨g, 0, none⟩ = some (.iface 315 (.pointer (some q)))) : p = q := by
  have := h.cell.symm.trans c
  simpa using this

theorem envX_of {W : World} (hL : laidMetH Tryz.prog Rows.commandsRow.laid W) (hsh : W.ShapedOpen Tryz.prog) : ∃ a m, EnvX a m W := by
  obtain ⟨a, m, hE⟩ := env_of hL hsh
  obtain ⟨p1, p2, p3, p4, p5, hA⟩ := hE.asks
  obtain ⟨p0, s0, c0, t0, x0, w0⟩ := laid_sent (laid_one hL "berth/cluster.ErrConfig" Rows.laid_berth_cluster_ErrConfig rfl) (g := 10) (by kernel_rfl) (by kernel_rfl)
  obtain ⟨q1, s1, c1, t1, x1, w1⟩ := laid_sent (laid_one hL "berth/cluster.ErrWidth" Rows.laid_berth_cluster_ErrWidth rfl) (g := 0) (by kernel_rfl) (by kernel_rfl)
  obtain ⟨q2, s2, c2, t2, x2, w2⟩ := laid_sent (laid_one hL "berth/cluster.ErrWall" Rows.laid_berth_cluster_ErrWall rfl) (g := 1) (by kernel_rfl) (by kernel_rfl)
  obtain ⟨q3, s3, c3, t3, x3, w3⟩ := laid_sent (laid_one hL "berth/cluster.ErrFull" Rows.laid_berth_cluster_ErrFull rfl) (g := 2) (by kernel_rfl) (by kernel_rfl)
  obtain ⟨q4, s4, c4, t4, x4, w4⟩ := laid_sent (laid_one hL "berth/cluster.ErrTime" Rows.laid_berth_cluster_ErrTime rfl) (g := 4) (by kernel_rfl) (by kernel_rfl)
  obtain ⟨q5, s5, c5, t5, x5, w5⟩ := laid_sent (laid_one hL "berth/cluster.ErrPhase" Rows.laid_berth_cluster_ErrPhase rfl) (g := 3) (by kernel_rfl) (by kernel_rfl)
  obtain rfl := sent_same hA.s1 c1
  obtain rfl := sent_same hA.s2 c2
  obtain rfl := sent_same hA.s3 c3
  obtain rfl := sent_same hA.s4 c4
  obtain rfl := sent_same hA.s5 c5
  exact ⟨a, m, hE, p1, p2, p3, p4, p5, p0, hA, ⟨c0, w0⟩, apart t0 t1 x0 x1 (by decide), apart t0 t2 x0 x2 (by decide), apart t0 t3 x0 x3 (by decide), apart t0 t4 x0 x4 (by decide), apart t0 t5 x0 x5 (by decide)⟩

end Go.Proofs.YtpcgnadfldimhaaGreatDoor
