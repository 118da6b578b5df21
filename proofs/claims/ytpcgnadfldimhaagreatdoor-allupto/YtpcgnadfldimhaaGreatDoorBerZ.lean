/-
 New: the walks of cluster.New and berth.New.
-/
import Derived.Test.YtpcgnadfldimhaaGreatDoorBerN
import Derived.Test.YtpcgnadfldimhaaGreatDoorBerY
import Derived.Test.YtpcgnadfldimhaaGreatDoorEnvOf
namespace Go.Proofs.YtpcgnadfldimhaaGreatDoor
open Go.RowKit

abbrev bornC (nodes jobs wall last : Int) : Array Value := #[.int .i64 nodes, .int .i64 jobs, .int .i64 wall, .int .i64 last, .int .i64 0, .slice none 0 0, .slice none 0 0, .slice none 0 0]

set_option maxHeartbeats 2000000 in
set_option maxRecDepth 100000 in
theorem newC_no (nodes jobs wall last : Int) (w : World) (p : Addr) (hS : Sent 10 p w) (hz : 10 < w.heap.size) (hc : ¬ ConfOk nodes jobs wall last) :
  Calls Tryz.prog 62 #[.agg #[.int .i64 nodes, .int .i64 jobs, .int .i64 wall, .int .i64 last]] w fun e w' => ∃ pa, e = .returned (.tuple #[.pointer none, .iface 160 (.pointer (some ⟨pa, 0, none⟩))]) ∧ RefV w' pa p ∧ Below w.heap.size w w' := by
 have hB : ∀ o, Below w.heap.size w (w.alloc o) := fun o => (Below.refl _ _).alloc (Nat.le_refl _) o
 have HC := Lib.hid (fun o => checkC_no nodes jobs wall last (w.alloc o) p (hS.up hz o) (by simp; omega) hc)
 clear hS
 go_enter Tryz.func62, Tryz.ntmps62
 go_wp2_with (go_at_call 105; refine (HC.out _).mono ?_; rintro e w1 ⟨vb, rfl, hv, hb1⟩; refine Hid.out ?_)
 refine Lib.hid ?_
 have HB1 := Lib.hid ((hB _).trans (hb1.mono (by simp)))
 have HV := Lib.hid hv
 clear hb1 hv hB HC
 go_wp2
 go_ret2
 refine ⟨w1.heap.size, rfl, ⟨vb, ?_, cellUp HV.out _⟩, HB1.out.alloc HB1.out.size _⟩
 simp

set_option maxHeartbeats 2000000 in
set_option maxRecDepth 100000 in
theorem newC_yes (nodes jobs wall last : Int) (w : World) (hc : ConfOk nodes jobs wall last) :
  Calls Tryz.prog 62 #[.agg #[.int .i64 nodes, .int .i64 jobs, .int .i64 wall, .int .i64 last]] w fun e w' => ∃ bi, e = .returned (.tuple #[.pointer (some ⟨bi, 0, none⟩), .nilIface]) ∧ w'.heap[bi]? = some (.cells (bornC nodes jobs wall last) 174 (0, 0)) ∧ w.heap.size ≤ bi ∧ Below w.heap.size w w' := by
 have hB : ∀ o, Below w.heap.size w (w.alloc o) := fun o => (Below.refl _ _).alloc (Nat.le_refl _) o
 have HC := Lib.hid (fun o => checkC_ok nodes jobs wall last (w.alloc o) hc)
 go_enter Tryz.func62, Tryz.ntmps62
 go_wp2_with (go_at_call 105; refine (HC.out _).mono ?_; rintro e w1 ⟨rfl, hb1⟩; refine Hid.out ?_)
 refine Lib.hid ?_
 have hq := (hb1.block w.heap.size (by simp)).trans (heap_alloc_new w _)
 have q0 := cell_of_row _ _ 0 _ _ (0, 0) hq
 have q1 := cell_of_row _ _ 1 _ _ (0, 0) hq
 have q2 := cell_of_row _ _ 2 _ _ (0, 0) hq
 have q3 := cell_of_row _ _ 3 _ _ (0, 0) hq
 simp at q0 q1 q2 q3
 have HB1 := Lib.hid ((hB _).trans (hb1.mono (by simp)))
 have hs1 : w.heap.size ≤ w1.heap.size := HB1.out.size
 clear hb1 hB HC hq
 go_wp2
 go_ret2
 exact ⟨w1.heap.size, rfl, alloc_at w1 _ _ rfl, hs1, HB1.out.alloc HB1.out.size _⟩

set_option maxHeartbeats 2000000 in
set_option maxRecDepth 100000 in
theorem newN_no (nodes jobs wall last : Int) (w : World) (p : Addr) (hS : Sent 10 p w) (hz : 10 < w.heap.size) (hc : ¬ ConfOk nodes jobs wall last)
  (hE : ∀ W pa, Below w.heap.size w W → RefV W pa p → Calls Tryz.prog 34 #[.iface 160 (.pointer (some ⟨pa, 0, none⟩))] W fun e w' => e = .returned (.int .i64 1) ∧ Below W.heap.size W w') :
  Calls Tryz.prog 35 #[.agg #[.int .i64 nodes, .int .i64 jobs, .int .i64 wall, .int .i64 last]] w fun e w' => e = .returned (.tuple #[.pointer none, .int .i64 1]) ∧ Below w.heap.size w w' := by
 have hB : ∀ o, Below w.heap.size w (w.alloc o) := fun o => (Below.refl _ _).alloc (Nat.le_refl _) o
 have HC := Lib.hid (fun o => newC_no nodes jobs wall last (w.alloc o) p (hS.up hz o) (by simp; omega) hc)
 have HE := Lib.hid hE
 clear hS hE
 go_enter Tryz.func35, Tryz.ntmps35
 go_wp2_with (go_at_call 62; refine (HC.out _).mono ?_; rintro e w1 ⟨pa, rfl, hR, hb1⟩; refine Hid.out ?_)
 refine Lib.hid ?_
 have HB1 := Lib.hid ((hB _).trans (hb1.mono (by simp)))
 have HR := Lib.hid hR
 clear hb1 hR hB HC
 go_wp2_with (go_at_call 34; refine (HE.out _ pa HB1.out HR.out).mono ?_; rintro e w2 ⟨rfl, hb2⟩; refine Hid.out ?_)
 refine Lib.hid ?_
 have HB2 := Lib.hid (HB1.out.trans (hb2.mono HB1.out.size))
 clear hb2
 go_wp2
 go_ret2
 exact ⟨rfl, HB2.out⟩

set_option maxHeartbeats 2000000 in
set_option maxRecDepth 100000 in
theorem newN_yes (nodes jobs wall last : Int) (w : World) (hc : ConfOk nodes jobs wall last) :
  Calls Tryz.prog 35 #[.agg #[.int .i64 nodes, .int .i64 jobs, .int .i64 wall, .int .i64 last]] w fun e w' => ∃ bx bi, e = .returned (.tuple #[.pointer (some ⟨bx, 0, none⟩), .int .i64 0]) ∧ Below w.heap.size w w' ∧ w'.heap[bx]? = some (.cells #[.int .i32 0, .int .u32 0, .pointer (some ⟨bi, 0, none⟩)] 87 (0, 0)) ∧ w'.heap[bi]? = some (.cells (bornC nodes jobs wall last) 174 (0, 0)) ∧ w.heap.size ≤ bx ∧ w.heap.size ≤ bi := by
 have hB : ∀ o, Below w.heap.size w (w.alloc o) := fun o => (Below.refl _ _).alloc (Nat.le_refl _) o
 have HC := Lib.hid (fun o => newC_yes nodes jobs wall last (w.alloc o) hc)
 go_enter Tryz.func35, Tryz.ntmps35
 go_wp2_with (go_at_call 62; refine (HC.out _).mono ?_; rintro e w1 ⟨bi, rfl, hq, hl, hb1⟩; refine Hid.out ?_)
 refine Lib.hid ?_
 have HB1 := Lib.hid ((hB _).trans (hb1.mono (by simp)))
 have HQ := Lib.hid hq
 have hs1 : w.heap.size ≤ w1.heap.size := HB1.out.size
 have hlb : w.heap.size ≤ bi := by simp at hl; omega
 clear hb1 hB HC hq hl
 go_wp2
 go_ret2
 exact ⟨w1.heap.size, bi, rfl, HB1.out.alloc HB1.out.size _, alloc_at w1 _ _ rfl, (Below.heap_alloc _ _ _ (Array.getElem?_eq_some_iff.1 HQ.out).1).trans HQ.out, hs1, hlb⟩

end Go.Proofs.YtpcgnadfldimhaaGreatDoor
namespace Go.Proofs.YtpcgnadfldimhaaGreatDoor
open Go.RowKit

/-- What New's refusals ask for besides. -/
structure EnvX (a : Addr) (m : Int) (w : World) : Prop where
 env : Env a m w
 cfg : ∃ p1 p2 p3 p4 p5 p0, Asks a p1 p2 p3 p4 p5 w ∧ Sent 10 p0 w ∧ p0 ≠ p1 ∧ p0 ≠ p2 ∧ p0 ≠ p3 ∧ p0 ≠ p4 ∧ p0 ≠ p5
theorem EnvX.on {a : Addr} {m : Int} {w w' : World} (h : EnvX a m w) (hb : Below w.heap.size w w') : EnvX a m w' := by
 obtain ⟨p1, p2, p3, p4, p5, p0, hA, hS, n⟩ := h.cfg
 exact ⟨h.env.on hb, p1, p2, p3, p4, p5, p0, hA.on hb, hS.on hb (by have := h.env.size; omega) hS.low, n⟩

theorem newB_no (a : Addr) (m : Int) (nodes jobs wall last : Int) (w : World) (hE : EnvX a m w) (hc : ¬ ConfOk nodes jobs wall last) :
  Calls Tryz.prog 35 #[.agg #[.int .i64 nodes, .int .i64 jobs, .int .i64 wall, .int .i64 last]] w fun e w' => e = .returned (.tuple #[.pointer none, .int .i64 1]) ∧ Below w.heap.size w w' := by
 obtain ⟨p1, p2, p3, p4, p5, p0, hA, hS, n1, n2, n3, n4, n5⟩ := hE.cfg
 have hz := hE.env.size
 refine newN_no nodes jobs wall last w p0 hS (by omega) hc (fun W pa hb hR => ?_)
 have hb0 : p0.block < w.heap.size := hS.low
 exact errno_v0 a p1 p2 p3 p4 p5 p0 pa W (hA.on hb) ((hS.on hb (by omega) hb0).whole) n1 n2 n3 n4 n5 hR

theorem newB_yes (B : Nat) (nodes jobs wall last : Int) (w : World) (hc : ConfOk nodes jobs wall last) (hB : B ≤ w.heap.size) :
  Calls Tryz.prog 35 #[.agg #[.int .i64 nodes, .int .i64 jobs, .int .i64 wall, .int .i64 last]] w fun e w' => ∃ bx bi, e = .returned (.tuple #[.pointer (some ⟨bx, 0, none⟩), .int .i64 0]) ∧ Below w.heap.size w w' ∧ Prog B bx bi nodes jobs wall last 0 (.slice none 0 0) (.slice none 0 0) (.slice none 0 0) [] [] w' ∧ w.heap.size ≤ bx ∧ w.heap.size ≤ bi := by
 refine (newN_yes nodes jobs wall last w hc).mono ?_
 rintro e w' ⟨bx, bi, rfl, hb, h1, h2, l1, l2⟩
 exact ⟨bx, bi, rfl, hb, ⟨h1, ⟨⟨⟨h2, World.ownsRow_nil _ _ _ _, by simp⟩, World.ownsRow_nil _ _ _ _, World.ownsRow_nil _ _ _ _, by simp, by simp [seats, seatsN]⟩, ⟨fun i j hj => by simp at hj, fun e he => by simp at he, by simp⟩, fun k _ h1 => by simp at h1, by simp⟩, by omega, by omega⟩, l1, l2⟩

end Go.Proofs.YtpcgnadfldimhaaGreatDoor
namespace Go.Proofs.YtpcgnadfldimhaaGreatDoor
open Go.ChangeShapes Go.WideShapes Go.ChangeAt Go.RowKit

theorem sent_same {g : Nat} {p q : Addr} {w : World} (h : Sent g p w) (c : w.cell? ⟨g, 0, none⟩ = some (.iface 315 (.pointer (some q)))) : p = q := by
 have := h.cell.symm.trans c
 simpa using this

theorem envX_of {W : World} (hL : laidMetH Tryz.prog Rows.commandsRow.laid W) (hsh : W.ShapedOpen Tryz.prog) : ∃ a m, EnvX a m W := by
 obtain ⟨a, m, hE⟩ := env_of hL hsh
 obtain ⟨p1, p2, p3, p4, p5, hA⟩ := hE.asks
 obtain ⟨p0, s0, c0, t0, x0, w0⟩ := laid_sent (laid_one hL "berth/cluster.ErrConfig" Rows.laid_berth_cluster_ErrConfig rfl) (g := 10) (by kernel_rfl) (by kernel_rfl)
 obtain ⟨q1, s1, c1, t1, x1, w1⟩ := laid_sent (laid_one hL "berth/cluster.ErrWidth" Rows.laid_berth_cluster_ErrWidth rfl) (g := 0) (by kernel_rfl) (by kernel_rfl)
 obtain ⟨q2, s2, c2, t2, x2, w2⟩ := laid_sent (laid_one hL "berth/cluster.ErrWall" Rows.laid_berth_cluster_ErrWall rfl) (g := 1) (by kernel_rfl) (by kernel_rfl)
 obtain ⟨q3, s3, c3, t3, x3, w3⟩ := laid_sent (laid_one hL "berth/cluster.ErrFull" Rows.laid_berth_cluster_ErrFull rfl) (g := 2) (by kernel_rfl) (by kernel_rfl)
 obtain ⟨q4, s4, c4, t4, x4, w4⟩ := laid_sent (laid_one hL "berth/cluster.ErrTime" Rows.laid_berth_cluster_ErrTime rfl) (g := 4) (by kernel_rfl) (by kernel_rfl)
 obtain ⟨q5, s5, c5, t5, x5, w5⟩ := laid_sent (laid_one hL "berth/cluster.ErrPhase" Rows.laid_berth_cluster_ErrPhase rfl) (g := 3) (by kernel_rfl) (by kernel_rfl)
 obtain rfl := sent_same hA.s1 c1
 obtain rfl := sent_same hA.s2 c2
 obtain rfl := sent_same hA.s3 c3
 obtain rfl := sent_same hA.s4 c4
 obtain rfl := sent_same hA.s5 c5
 exact ⟨a, m, hE, p1, p2, p3, p4, p5, p0, hA, ⟨c0, w0⟩, apart t0 t1 x0 x1 (by decide), apart t0 t2 x0 x2 (by decide), apart t0 t3 x0 x3 (by decide), apart t0 t4 x0 x4 (by decide), apart t0 t5 x0 x5 (by decide)⟩

end Go.Proofs.YtpcgnadfldimhaaGreatDoor
