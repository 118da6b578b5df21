/-
  New.
-/
import Derived.Test.YtpcgnadfldimhaaGreatDoorBerD
import Derived.Test.YtpcgnadfldimhaaGreatDoorBerM
namespace Go.Proofs.YtpcgnadfldimhaaGreatDoor
open Go.RowKit

/-- What New's refusals ask for besides. -/
structure EnvX (a : Addr) (m : Int) (w : World) : Prop where
  env : Env a m w
  cfg : ∃ p1 p2 p3 p4 p5 p0, Asks a p1 p2 p3 p4 p5 w ∧ Sent 10 p0 w ∧ p0 ≠ p1 ∧ p0 ≠ p2 ∧ p0 ≠ p3 ∧ p0 ≠ p4 ∧ p0 ≠ p5
theorem EnvX.on {a : Addr} {m : Int} {w w' : World} (h : EnvX a m w) (hb : Below w.heap.size w w') : EnvX a m w' := by
  obtain ⟨p1, p2, p3, p4, p5, p0, hA, hS, n⟩ := h.cfg
  exact ⟨h.env.on hb, p1, p2, p3, p4, p5, p0, hA.on hb, hS.on hb (by have := h.env.size; omega) hS.low, n⟩

theorem newB_no (a : Addr) (m : Int) (nodes jobs wall last : Int) (w : World) (hE : EnvX a m w) (hc : ¬ ConfOk nodes jobs wall last) :
    Calls Tryz.prog 35 #[.agg #[.int .i64 nodes, .int .i64 jobs, .int .i64 wall, .int .i64 last]] w fun e w' => e = .returned (.tuple #[.pointer none, .int .i64 1]) ∧ Below w.heap.size w w' := by
  obtain ⟨p1, p2, p3, p4, p5, p0, hA, hS, n1, n2, n3, n4, n5⟩ := hE.cfg
  have hz := hE.env.size
  refine newN_no nodes jobs wall last w p0 hS (by omega) hc (fun W pa hb hR => ?_)
  have hb0 : p0.block < w.heap.size := hS.low
  exact errno_v0 a p1 p2 p3 p4 p5 p0 pa W (hA.on hb) ((hS.on hb (by omega) hb0).whole) n1 n2 n3 n4 n5 hR

theorem newB_yes (B : Nat) (nodes jobs wall last : Int) (w : World) (hc : ConfOk nodes jobs wall last) (hB : B ≤ w.heap.size) :
    Calls Tryz.prog 35 #[.agg #[.int .i64 nodes, .int .i64 jobs, .int .i64 wall, .int .i64 last]] w fun e w' => ∃ bx bi, e = .returned (.tuple #[.pointer (some ⟨bx, 0, none⟩), .int .i64 0]) ∧ Below w.heap.size w w' ∧ Prog B bx bi nodes jobs wall last 0 (.slice none 0 0) (.slice none 0 0) (.slice none 0 0) [] [] w' ∧ w.heap.size ≤ bx ∧ w.heap.size ≤ bi := by
  refine (newN_yes nodes jobs wall last w hc).mono ?_
  rintro e w' ⟨bx, bi, rfl, hb, h1, h2, l1, l2⟩
  exact ⟨bx, bi, rfl, hb, ⟨h1, ⟨⟨⟨h2, World.ownsRow_nil _ _ _ _, by simp⟩, World.ownsRow_nil _ _ _ _, World.ownsRow_nil _ _ _ _, by simp, by simp [seats, seatsN]⟩, ⟨fun i j hj => by simp at hj, fun e he => by simp at he, by simp⟩, fun k _ h1 => by simp at h1, by simp⟩, by omega, by omega⟩, l1, l2⟩

end Go.Proofs.YtpcgnadfldimhaaGreatDoor
