/-
  New: the walks of cluster.New and berth.New.
-/
import Derived.Test.YtpcgnadfldimhaaGreatDoorBerN
namespace Go.Proofs.YtpcgnadfldimhaaGreatDoor
open Go.RowKit

abbrev bornC (nodes jobs wall last : Int) : Array Value := #[.int .i64 nodes, .int .i64 jobs, .int .i64 wall, .int .i64 last, .int .i64 0, .slice none 0 0, .slice none 0 0, .slice none 0 0]

set_option maxHeartbeats 2000000 in
set_option maxRecDepth 100000 in
theorem newC_no (nodes jobs wall last : Int) (w : World) (p : Addr) (hS : Sent 10 p w) (hz : 10 < w.heap.size) (hc : ¬ ConfOk nodes jobs wall last) :
    Calls Tryz.prog 62 #[.agg #[.int .i64 nodes, .int .i64 jobs, .int .i64 wall, .int .i64 last]] w fun e w' => ∃ pa, e = .returned (.tuple #[.pointer none, .iface 160 (.pointer (some ⟨pa, 0, none⟩))]) ∧ RefV w' pa p ∧ Below w.heap.size w w' := by
  have hB : ∀ o, Below w.heap.size w (w.alloc o) := fun o => (Below.refl _ _).alloc (Nat.le_refl _) o
  have HC := Lib.hid (fun o => checkC_no nodes jobs wall last (w.alloc o) p (hS.up hz o) (by simp; omega) hc)
  clear hS
  go_enter Tryz.func62, Tryz.ntmps62
  go_wp2_with (go_at_call 105; refine (HC.out _).mono ?_; rintro e w1 ⟨vb, rfl, hv, hb1⟩; refine Hid.out ?_)
  refine Lib.hid ?_
  have HB1 := Lib.hid ((hB _).trans (hb1.mono (by simp)))
  have HV := Lib.hid hv
  clear hb1 hv hB HC
  go_wp2
  go_ret2
  refine ⟨w1.heap.size, rfl, ⟨vb, ?_, cellUp HV.out _⟩, HB1.out.alloc HB1.out.size _⟩
  simp

set_option maxHeartbeats 2000000 in
set_option maxRecDepth 100000 in
theorem newC_yes (nodes jobs wall last : Int) (w : World) (hc : ConfOk nodes jobs wall last) :
    Calls Tryz.prog 62 #[.agg #[.int .i64 nodes, .int .i64 jobs, .int .i64 wall, .int .i64 last]] w fun e w' => ∃ bi, e = .returned (.tuple #[.pointer (some ⟨bi, 0, none⟩), .nilIface]) ∧ w'.heap[bi]? = some (.cells (bornC nodes jobs wall last) 174 (0, 0)) ∧ w.heap.size ≤ bi ∧ Below w.heap.size w w' := by
  have hB : ∀ o, Below w.heap.size w (w.alloc o) := fun o => (Below.refl _ _).alloc (Nat.le_refl _) o
  have HC := Lib.hid (fun o => checkC_ok nodes jobs wall last (w.alloc o) hc)
  go_enter Tryz.func62, Tryz.ntmps62
  go_wp2_with (go_at_call 105; refine (HC.out _).mono ?_; rintro e w1 ⟨rfl, hb1⟩; refine Hid.out ?_)
  refine Lib.hid ?_
  have hq := (hb1.block w.heap.size (by simp)).trans (heap_alloc_new w _)
  have q0 := cell_of_row _ _ 0 _ _ (0, 0) hq
  have q1 := cell_of_row _ _ 1 _ _ (0, 0) hq
  have q2 := cell_of_row _ _ 2 _ _ (0, 0) hq
  have q3 := cell_of_row _ _ 3 _ _ (0, 0) hq
  simp at q0 q1 q2 q3
  have HB1 := Lib.hid ((hB _).trans (hb1.mono (by simp)))
  have hs1 : w.heap.size ≤ w1.heap.size := HB1.out.size
  clear hb1 hB HC hq
  go_wp2
  go_ret2
  exact ⟨w1.heap.size, rfl, alloc_at w1 _ _ rfl, hs1, HB1.out.alloc HB1.out.size _⟩

set_option maxHeartbeats 2000000 in
set_option maxRecDepth 100000 in
theorem newN_no (nodes jobs wall last : Int) (w : World) (p : Addr) (hS : Sent 10 p w) (hz : 10 < w.heap.size) (hc : ¬ ConfOk nodes jobs wall last)
    (hE : ∀ W pa, Below w.heap.size w W → RefV W pa p → Calls Tryz.prog 34 #[.iface 160 (.pointer (some ⟨pa, 0, none⟩))] W fun e w' => e = .returned (.int .i64 1) ∧ Below W.heap.size W w') :
    Calls Tryz.prog 35 #[.agg #[.int .i64 nodes, .int .i64 jobs, .int .i64 wall, .int .i64 last]] w fun e w' => e = .returned (.tuple #[.pointer none, .int .i64 1]) ∧ Below w.heap.size w w' := by
  have hB : ∀ o, Below w.heap.size w (w.alloc o) := fun o => (Below.refl _ _).alloc (Nat.le_refl _) o
  have HC := Lib.hid (fun o => newC_no nodes jobs wall last (w.alloc o) p (hS.up hz o) (by simp; omega) hc)
  have HE := Lib.hid hE
  clear hS hE
  go_enter Tryz.func35, Tryz.ntmps35
  go_wp2_with (go_at_call 62; refine (HC.out _).mono ?_; rintro e w1 ⟨pa, rfl, hR, hb1⟩; refine Hid.out ?_)
  refine Lib.hid ?_
  have HB1 := Lib.hid ((hB _).trans (hb1.mono (by simp)))
  have HR := Lib.hid hR
  clear hb1 hR hB HC
  go_wp2_with (go_at_call 34; refine (HE.out _ pa HB1.out HR.out).mono ?_; rintro e w2 ⟨rfl, hb2⟩; refine Hid.out ?_)
  refine Lib.hid ?_
  have HB2 := Lib.hid (HB1.out.trans (hb2.mono HB1.out.size))
  clear hb2
  go_wp2
  go_ret2
  exact ⟨rfl, HB2.out⟩

set_option maxHeartbeats 2000000 in
set_option maxRecDepth 100000 in
theorem newN_yes (nodes jobs wall last : Int) (w : World) (hc : ConfOk nodes jobs wall last) :
    Calls Tryz.prog 35 #[.agg #[.int .i64 nodes, .int .i64 jobs, .int .i64 wall, .int .i64 last]] w fun e w' => ∃ bx bi, e = .returned (.tuple #[.pointer (some ⟨bx, 0, none⟩), .int .i64 0]) ∧ Below w.heap.size w w' ∧ w'.heap[bx]? = some (.cells #[.int .i32 0, .int .u32 0, .pointer (some ⟨bi, 0, none⟩)] 87 (0, 0)) ∧ w'.heap[bi]? = some (.cells (bornC nodes jobs wall last) 174 (0, 0)) ∧ w.heap.size ≤ bx ∧ w.heap.size ≤ bi := by
  have hB : ∀ o, Below w.heap.size w (w.alloc o) := fun o => (Below.refl _ _).alloc (Nat.le_refl _) o
  have HC := Lib.hid (fun o => newC_yes nodes jobs wall last (w.alloc o) hc)
  go_enter Tryz.func35, Tryz.ntmps35
  go_wp2_with (go_at_call 62; refine (HC.out _).mono ?_; rintro e w1 ⟨bi, rfl, hq, hl, hb1⟩; refine Hid.out ?_)
  refine Lib.hid ?_
  have HB1 := Lib.hid ((hB _).trans (hb1.mono (by simp)))
  have HQ := Lib.hid hq
  have hs1 : w.heap.size ≤ w1.heap.size := HB1.out.size
  have hlb : w.heap.size ≤ bi := by simp at hl; omega
  clear hb1 hB HC hq hl
  go_wp2
  go_ret2
  exact ⟨w1.heap.size, bi, rfl, HB1.out.alloc HB1.out.size _, alloc_at w1 _ _ rfl, (Below.heap_alloc _ _ _ (Array.getElem?_eq_some_iff.1 HQ.out).1).trans HQ.out, hs1, hlb⟩

end Go.Proofs.YtpcgnadfldimhaaGreatDoor
