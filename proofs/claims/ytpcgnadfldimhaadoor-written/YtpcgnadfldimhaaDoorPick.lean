/-
  berthkeep.pick at 17.
-/
import Derived.Test.YtpcgnadfldimhaaDoorSays
namespace Go.Proofs.YtpcgnadfldimhaaDoor
open Go.RowKit

set_option maxHeartbeats 2000000 in
theorem pick_17 (z : Int) (h1 : -9223372036854775808 ≤ z) (h2 : z ≤ 9223372036854775807) (w : World) : Calls Tryd.prog 6 #[.int .i64 z, .int .i64 17] w fun e w' => (∃ r : Nat, e = .returned (.int .i64 r) ∧ r ≤ 16) ∧ w' = w := by
  go_enter Tryd.func6, Tryd.ntmps6
  by_cases hz : z < 0
  · go_wp2
    go_ret
    obtain ⟨u, hu⟩ : ∃ u : Nat, z + 1 = -(u : Int) := ⟨(-(z + 1)).toNat, by omega⟩
    have e : -((z + 1).tmod 17) = ((u % 17 : Nat) : Int) := by rw [hu, Int.neg_tmod, Int.neg_neg]; rfl
    refine ⟨⟨u % 17, ?_, by omega⟩, rfl⟩
    rw [← e]
    rfl
  · go_wp2
    go_ret
    obtain ⟨u, rfl⟩ : ∃ u : Nat, z = (u : Int) := ⟨z.toNat, by omega⟩
    exact ⟨⟨u % 17, rfl, by omega⟩, rfl⟩

end Go.Proofs.YtpcgnadfldimhaaDoor
