/-
 New: what a cluster can be made of; the cluster as it begins.
-/
import Derived.Test.YtpcgnadfldimhaaGreatDoorMemG
import Derived.Test.YtpcgnadfldimhaaGreatDoorShape
import Derived.Test.YtpcgnadfldimhaaGreatDoorSchA
namespace Go.Proofs.YtpcgnadfldimhaaGreatDoor
open Go.RowKit

theorem rowC0 (nodes jobs wall last : Int) (w : World) : (Instr.index 250 (.agg #[.string ⟨#[110, 111, 100, 101, 115]⟩, .int .i64 nodes, .int .i64 1, .int .i64 64, .string ⟨#[106, 111, 98, 115]⟩, .int .i64 jobs, .int .i64 1, .int .i64 30, .string ⟨#[119, 97, 108, 108]⟩, .int .i64 wall, .int .i64 1, .int .i64 1000000000, .string ⟨#[101, 110, 100]⟩, .int .i64 last, .int .i64 0, .int .i64 4611686018427387904]) (.int .i64 0)).run Tryz.prog w = .ok (.agg #[.string ⟨#[110, 111, 100, 101, 115]⟩, .int .i64 nodes, .int .i64 1, .int .i64 64]) w := by kernel_rfl
theorem rowC1 (nodes jobs wall last : Int) (w : World) : (Instr.index 250 (.agg #[.string ⟨#[110, 111, 100, 101, 115]⟩, .int .i64 nodes, .int .i64 1, .int .i64 64, .string ⟨#[106, 111, 98, 115]⟩, .int .i64 jobs, .int .i64 1, .int .i64 30, .string ⟨#[119, 97, 108, 108]⟩, .int .i64 wall, .int .i64 1, .int .i64 1000000000, .string ⟨#[101, 110, 100]⟩, .int .i64 last, .int .i64 0, .int .i64 4611686018427387904]) (.int .i64 1)).run Tryz.prog w = .ok (.agg #[.string ⟨#[106, 111, 98, 115]⟩, .int .i64 jobs, .int .i64 1, .int .i64 30]) w := by kernel_rfl
theorem rowC2 (nodes jobs wall last : Int) (w : World) : (Instr.index 250 (.agg #[.string ⟨#[110, 111, 100, 101, 115]⟩, .int .i64 nodes, .int .i64 1, .int .i64 64, .string ⟨#[106, 111, 98, 115]⟩, .int .i64 jobs, .int .i64 1, .int .i64 30, .string ⟨#[119, 97, 108, 108]⟩, .int .i64 wall, .int .i64 1, .int .i64 1000000000, .string ⟨#[101, 110, 100]⟩, .int .i64 last, .int .i64 0, .int .i64 4611686018427387904]) (.int .i64 2)).run Tryz.prog w = .ok (.agg #[.string ⟨#[119, 97, 108, 108]⟩, .int .i64 wall, .int .i64 1, .int .i64 1000000000]) w := by kernel_rfl
theorem rowC3 (nodes jobs wall last : Int) (w : World) : (Instr.index 250 (.agg #[.string ⟨#[110, 111, 100, 101, 115]⟩, .int .i64 nodes, .int .i64 1, .int .i64 64, .string ⟨#[106, 111, 98, 115]⟩, .int .i64 jobs, .int .i64 1, .int .i64 30, .string ⟨#[119, 97, 108, 108]⟩, .int .i64 wall, .int .i64 1, .int .i64 1000000000, .string ⟨#[101, 110, 100]⟩, .int .i64 last, .int .i64 0, .int .i64 4611686018427387904]) (.int .i64 3)).run Tryz.prog w = .ok (.agg #[.string ⟨#[101, 110, 100]⟩, .int .i64 last, .int .i64 0, .int .i64 4611686018427387904]) w := by kernel_rfl

theorem belowAllocs1 (w : World) (o1 o2 o3 : Obj) : Below w.heap.size w (((w.alloc o1).alloc o2).alloc o3) := (((Below.refl w.heap.size w).alloc (Nat.le_refl _) o1).alloc (by simp) o2).alloc (by simp; omega) o3
theorem belowAllocs2 (w : World) (o1 o2 o3 o4 : Obj) : Below w.heap.size w ((((w.alloc o1).alloc o2).alloc o3).alloc o4) := (belowAllocs1 w o1 o2 o3).alloc (by simp; omega) o4
theorem belowAllocs3 (w : World) (o1 o2 o3 o4 o5 : Obj) : Below w.heap.size w (((((w.alloc o1).alloc o2).alloc o3).alloc o4).alloc o5) := (belowAllocs2 w o1 o2 o3 o4).alloc (by simp; omega) o5
theorem belowAllocs (w : World) (o1 o2 o3 o4 o5 : Obj) : Below w.heap.size w (((((w.alloc o1).alloc o2).alloc o3).alloc o4).alloc o5) := belowAllocs3 w o1 o2 o3 o4 o5
theorem belowAllocs4 (w : World) (o1 o2 o3 o4 o5 o6 : Obj) : Below w.heap.size w ((((((w.alloc o1).alloc o2).alloc o3).alloc o4).alloc o5).alloc o6) := (belowAllocs3 w o1 o2 o3 o4 o5).alloc (by simp; omega) o6

set_option maxHeartbeats 4000000 in
set_option maxRecDepth 100000 in
theorem checkC_ok (nodes jobs wall last : Int) (w : World) (hc : ConfOk nodes jobs wall last) :
  Calls Tryz.prog 105 #[.agg #[.int .i64 nodes, .int .i64 jobs, .int .i64 wall, .int .i64 last]] w fun e w' => e = .returned .nilIface ∧ Below w.heap.size w w' := by
 obtain ⟨b1, b2, b3, b4, b5, b6, b7, b8⟩ := hc
 have hm0 : 0 ≤ jobs * wall := Int.mul_nonneg (by omega) (by omega)
 have hm1 : jobs * wall ≤ 30 * 1000000000 := Int.mul_le_mul (by omega) (by omega) (by omega) (by omega)
 have b9 : last ≤ 4611686018427387904 := by omega
 have x0 := rowC0 nodes jobs wall last
 have x1 := rowC1 nodes jobs wall last
 have x2 := rowC2 nodes jobs wall last
 have x3 := rowC3 nodes jobs wall last
 go_enter Tryz.func105, Tryz.ntmps105
 go_wp2
 refine wp_loop_rounds 5 ?_
 rw [rounds_succ]
 go_wp2
 rw [rounds_succ]
 go_wp2
 rw [rounds_succ]
 go_wp2
 rw [rounds_succ]
 go_wp2
 rw [rounds_succ]
 go_wp2
 go_ret
 exact ⟨rfl, belowAllocs w _ _ _ _ _⟩

/-- A ValueError at block vb around the sentinel at p. -/
def ValC (w : World) (vb : Nat) (p : Addr) : Prop := w.cell? ⟨vb, 2, none⟩ = some (.iface 315 (.pointer (some p)))

theorem valC_new (u : World) (vb : Nat) (h : u.heap.size = vb) (s x : Value) (p : Addr) : ValC (u.alloc (.cells #[s, x, .iface 315 (.pointer (some p))] 180)) vb p := by
 have := cell_of_row _ _ 2 _ _ (0, 0) (alloc_at u (.cells #[s, x, .iface 315 (.pointer (some p))] 180) vb h)
 unfold ValC
 simpa using this

set_option maxHeartbeats 8000000 in
set_option maxRecDepth 100000 in
theorem checkC_no (nodes jobs wall last : Int) (w : World) (p : Addr) (hS : Sent 10 p w) (hz : 10 < w.heap.size) (hc : ¬ ConfOk nodes jobs wall last) :
  Calls Tryz.prog 105 #[.agg #[.int .i64 nodes, .int .i64 jobs, .int .i64 wall, .int .i64 last]] w fun e w' => ∃ vb, e = .returned (.iface 178 (.pointer (some ⟨vb, 0, none⟩))) ∧ ValC w' vb p ∧ Below w.heap.size w w' := by
 have s0 := hS.cell
 have hz1 : 10 < w.heap.size + 1 := by omega
 have hz2 : 10 < w.heap.size + 1 + 1 := by omega
 have hz3 : 10 < w.heap.size + 1 + 1 + 1 := by omega
 have hz4 : 10 < w.heap.size + 1 + 1 + 1 + 1 := by omega
 have hz5 : 10 < w.heap.size + 1 + 1 + 1 + 1 + 1 := by omega
 have x0 := rowC0 nodes jobs wall last
 have x1 := rowC1 nodes jobs wall last
 have x2 := rowC2 nodes jobs wall last
 have x3 := rowC3 nodes jobs wall last
 clear hS
 by_cases a1 : nodes < 1
 ·go_enter Tryz.func105, Tryz.ntmps105
  go_wp2
  refine wp_loop_rounds 1 ?_
  rw [rounds_succ]
  go_wp2
  go_ret
  exact ⟨_, rfl, valC_new _ _ (by simp) _ _ _, belowAllocs1 w _ _ _⟩
 by_cases a2 : 64 < nodes
 ·go_enter Tryz.func105, Tryz.ntmps105
  go_wp2
  refine wp_loop_rounds 1 ?_
  rw [rounds_succ]
  go_wp2
  go_ret
  exact ⟨_, rfl, valC_new _ _ (by simp) _ _ _, belowAllocs1 w _ _ _⟩
 by_cases a3 : jobs < 1
 ·go_enter Tryz.func105, Tryz.ntmps105
  go_wp2
  refine wp_loop_rounds 2 ?_
  rw [rounds_succ]
  go_wp2
  rw [rounds_succ]
  go_wp2
  go_ret
  exact ⟨_, rfl, valC_new _ _ (by simp) _ _ _, belowAllocs2 w _ _ _ _⟩
 by_cases a4 : 30 < jobs
 ·go_enter Tryz.func105, Tryz.ntmps105
  go_wp2
  refine wp_loop_rounds 2 ?_
  rw [rounds_succ]
  go_wp2
  rw [rounds_succ]
  go_wp2
  go_ret
  exact ⟨_, rfl, valC_new _ _ (by simp) _ _ _, belowAllocs2 w _ _ _ _⟩
 by_cases a5 : wall < 1
 ·go_enter Tryz.func105, Tryz.ntmps105
  go_wp2
  refine wp_loop_rounds 3 ?_
  rw [rounds_succ]
  go_wp2
  rw [rounds_succ]
  go_wp2
  rw [rounds_succ]
  go_wp2
  go_ret
  exact ⟨_, rfl, valC_new _ _ (by simp) _ _ _, belowAllocs3 w _ _ _ _ _⟩
 by_cases a6 : 1000000000 < wall
 ·go_enter Tryz.func105, Tryz.ntmps105
  go_wp2
  refine wp_loop_rounds 3 ?_
  rw [rounds_succ]
  go_wp2
  rw [rounds_succ]
  go_wp2
  rw [rounds_succ]
  go_wp2
  go_ret
  exact ⟨_, rfl, valC_new _ _ (by simp) _ _ _, belowAllocs3 w _ _ _ _ _⟩
 by_cases a7 : last < 0
 ·go_enter Tryz.func105, Tryz.ntmps105
  go_wp2
  refine wp_loop_rounds 4 ?_
  rw [rounds_succ]
  go_wp2
  rw [rounds_succ]
  go_wp2
  rw [rounds_succ]
  go_wp2
  rw [rounds_succ]
  go_wp2
  go_ret
  exact ⟨_, rfl, valC_new _ _ (by simp) _ _ _, belowAllocs4 w _ _ _ _ _ _⟩
 by_cases a8 : 4611686018427387904 < last
 ·go_enter Tryz.func105, Tryz.ntmps105
  go_wp2
  refine wp_loop_rounds 4 ?_
  rw [rounds_succ]
  go_wp2
  rw [rounds_succ]
  go_wp2
  rw [rounds_succ]
  go_wp2
  rw [rounds_succ]
  go_wp2
  go_ret
  exact ⟨_, rfl, valC_new _ _ (by simp) _ _ _, belowAllocs4 w _ _ _ _ _ _⟩
 have hm0 : 0 ≤ jobs * wall := Int.mul_nonneg (by omega) (by omega)
 have hm1 : jobs * wall ≤ 30 * 1000000000 := Int.mul_le_mul (by omega) (by omega) (by omega) (by omega)
 have a9 : 4611686018427387904 < last + jobs * wall := by
  unfold ConfOk at hc
  omega
 go_enter Tryz.func105, Tryz.ntmps105
 go_wp2
 refine wp_loop_rounds 5 ?_
 rw [rounds_succ]
 go_wp2
 rw [rounds_succ]
 go_wp2
 rw [rounds_succ]
 go_wp2
 rw [rounds_succ]
 go_wp2
 rw [rounds_succ]
 go_wp2
 go_ret
 exact ⟨_, rfl, valC_new _ _ (by simp) _ _ _, belowAllocs4 w _ _ _ _ _ _⟩

end Go.Proofs.YtpcgnadfldimhaaGreatDoor
