/-
 command.Read where the line is too long or has no such word; berth.errnoOf; berth.Parse.
-/
import Derived.Test.YtpcgnadfldimhaaGreatDoorReadA
import Derived.Test.YtpcgnadfldimhaaGreatDoorReadB
import Derived.Test.YtpcgnadfldimhaaGreatDoorAs
namespace Go.Proofs.YtpcgnadfldimhaaGreatDoor
open Go.RowKit

set_option maxHeartbeats 1000000 in
set_option maxRecDepth 100000 in
theorem read_long (a : Addr) (m : Int) (w : World) (h : Env a m w) (s : ByteArray) (hs : 100 < s.size) (hm : s.size ≤ maxLen) :
  Calls Tryz.prog 63 #[.string s] w fun e w' => ∃ b, e = .returned (.tuple #[.agg #[.int .i64 0, .int .i64 0, .int .i64 0], .iface 209 (.pointer (some ⟨b, 0, none⟩))]) ∧ Refusal a b w' ∧ Below w.heap.size w w' := by
 have hE := old1 h.err
 unfold maxLen at hm
 go_enter Tryz.func63, Tryz.ntmps63
 go_wp2_with (go_at_call 70; refine (refuse_any _ a _ (by exact hE _)).mono ?_; rintro e w' ⟨rfl, rfl⟩)
 exact bodyPost_ret (v := .tuple #[.agg #[.int .i64 0, .int .i64 0, .int .i64 0], .iface 209 (.pointer (some ⟨w.heap.size + 1, 0, none⟩))]) (by simp [results, Tryz.results63, go_sem]) rfl ⟨w.heap.size + 1, rfl, Or.inl (newcell (by simp) 1), below2 _ _⟩

set_option maxHeartbeats 1000000 in
set_option maxRecDepth 100000 in
theorem read_noword (a : Addr) (m : Int) (w : World) (h : Env a m w) (s : ByteArray) (hs : s.size ≤ 100) (cnt : Nat) (p : ByteArray) (ps : List ByteArray) (HC : Hid (Lib.countB s ⟨#[32]⟩ = cnt)) (HP : Hid (Lib.splitB ⟨#[32]⟩ 0 cnt s = p :: ps)) (HW : Hid (∀ n, 1 ≤ n → n ≤ 7 → ((wordB n).toList == p.toList) = false)) :
  Calls Tryz.prog 63 #[.string s] w fun e w' => ∃ b, e = .returned (.tuple #[.agg #[.int .i64 0, .int .i64 0, .int .i64 0], .iface 209 (.pointer (some ⟨b, 0, none⟩))]) ∧ Refusal a b w' ∧ Below w.heap.size w w' := by
 have hm1 := old1 h.most
 go_enter Tryz.func63, Tryz.ntmps63
 go_wp2_with (go_at_call 106; refine (Tryz.strings_Split s ⟨#[32]⟩ m _ (by omega) (by exact hm1 _) (by decide)).mono ?_; rintro e w' ⟨rfl, rfl⟩; rw [HC.out, HP.out, List.map_cons])
 refine (shapeOfWord_no a m _ (h.on (below2 _ _)) p HW.out).mono ?_
 rintro e w1 ⟨b, rfl, hlb, heb, hb1⟩
 have hz1 := hb1.size
 simp at hz1 hlb
 have h0 := head3 hb1
 have hb1' := (below2 _ _).trans (hb1.mono (by simp; omega))
 have hlt : w.heap.size < w1.heap.size := by omega
 have r0 := h0.1.1
 have r1 := h0.1.2.1
 have r2 := h0.1.2.2
 have fr := h0.2
 clear hb1 h0
 have hbl : b < w1.heap.size := block_lt_of_cell heb
 go_wp2
 have rr := read3 r0 r1 r2 (.int .i64 0) (.int .i64 0) (.int .i64 0)
 have rr0 := fun o => old1 rr.1 o
 have rr1 := fun o => old1 rr.2.1 o
 have rr2 := fun o => old1 rr.2.2 o
 exact bodyPost_ret (v := .tuple #[.agg #[.int .i64 0, .int .i64 0, .int .i64 0], .iface 209 (.pointer (some ⟨b, 0, none⟩))]) (by simp [results, Tryz.results63, go_sem, rr0, rr1, rr2]) rfl ⟨b, rfl, Or.inl (old1 ((far3 (by omega) _ _ _).trans heb) _), (((hb1'.setCell (by simp) _).setCell (by simp) _).setCell (by simp) _).alloc (by simp; omega) _⟩

theorem below_errno (w : World) : Below w.heap.size w (w.alloc (.cells #[.pointer none] 115)) := (Below.refl _ _).alloc (Nat.le_refl _) _

set_option maxHeartbeats 400000 in
theorem errno_nil (w : World) :
  Calls Tryz.prog 34 #[.nilIface] w fun e w' => e = .returned (.int .i64 0) ∧ Below w.heap.size w w' := by
 go_enter Tryz.func34, Tryz.ntmps34
 go_wp2
 exact bodyPost_ret (v := .int .i64 0) (by simp [results, Tryz.results34, go_sem]) rfl ⟨rfl, (Below.refl _ _).alloc (Nat.le_refl _) _⟩

set_option maxHeartbeats 1000000 in
set_option maxRecDepth 100000 in
theorem errno_bad (a : Addr) (b : Nat) (w : World) (hA : ∃ p1 p2 p3 p4 p5, Asks a p1 p2 p3 p4 p5 w) (hR : Refusal a b w) :
  Calls Tryz.prog 34 #[.iface 209 (.pointer (some ⟨b, 0, none⟩))] w fun e w' => e = .returned (.int .i64 1) ∧ Below w.heap.size w w' := by
 obtain ⟨p1, p2, p3, p4, p5, hA⟩ := hA
 have bel := below_errno w
 have hA1 := hA.on bel
 have c1 := hA1.s1.cell
 have c2 := hA1.s2.cell
 have c3 := hA1.s3.cell
 have c4 := hA1.s4.cell
 have c5 := hA1.s5.cell
 rcases hR with h1 | ⟨c, h1, h2⟩
 ·have k1 := cell_up h1 (.cells #[.pointer none] 115)
  go_enter Tryz.func34, Tryz.ntmps34
  go_wp2_with (go_at_call 60; refine (is_miss1 b a p1 _ k1 hA1.n1 hA1.own hA1.s1.whole).mono ?_; rintro e w' ⟨rfl, rfl⟩; refine Hid.out ?_)
  refine Lib.hid ?_
  go_wp2_with (go_at_call 60; refine (is_miss1 b a p2 _ k1 hA1.n2 hA1.own hA1.s2.whole).mono ?_; rintro e w' ⟨rfl, rfl⟩; refine Hid.out ?_)
  refine Lib.hid ?_
  go_wp2_with (go_at_call 60; refine (is_miss1 b a p3 _ k1 hA1.n3 hA1.own hA1.s3.whole).mono ?_; rintro e w' ⟨rfl, rfl⟩; refine Hid.out ?_)
  refine Lib.hid ?_
  go_wp2_with (go_at_call 60; refine (is_miss1 b a p5 _ k1 hA1.n5 hA1.own hA1.s5.whole).mono ?_; rintro e w' ⟨rfl, rfl⟩; refine Hid.out ?_)
  refine Lib.hid ?_
  go_wp2_with (go_at_call 60; refine (is_miss1 b a p4 _ k1 hA1.n4 hA1.own hA1.s4.whole).mono ?_; rintro e w' ⟨rfl, rfl⟩; refine Hid.out ?_)
  refine Lib.hid ?_
  go_wp2_with (go_at_call 61; refine (as_miss1 b a _ _ hA1.typ k1).mono ?_; rintro e w' ⟨rfl, rfl⟩)
  exact bodyPost_ret (v := .int .i64 1) (by simp [results, Tryz.results34, go_sem]) rfl ⟨rfl, bel.trans ((below_as _ _).mono bel.size)⟩
 ·have k1 := cell_up h1 (.cells #[.pointer none] 115)
  have k2 := cell_up h2 (.cells #[.pointer none] 115)
  go_enter Tryz.func34, Tryz.ntmps34
  go_wp2_with (go_at_call 60; refine (is_miss2 b c a p1 _ k1 k2 hA1.n1 hA1.own hA1.s1.whole).mono ?_; rintro e w' ⟨rfl, rfl⟩; refine Hid.out ?_)
  refine Lib.hid ?_
  go_wp2_with (go_at_call 60; refine (is_miss2 b c a p2 _ k1 k2 hA1.n2 hA1.own hA1.s2.whole).mono ?_; rintro e w' ⟨rfl, rfl⟩; refine Hid.out ?_)
  refine Lib.hid ?_
  go_wp2_with (go_at_call 60; refine (is_miss2 b c a p3 _ k1 k2 hA1.n3 hA1.own hA1.s3.whole).mono ?_; rintro e w' ⟨rfl, rfl⟩; refine Hid.out ?_)
  refine Lib.hid ?_
  go_wp2_with (go_at_call 60; refine (is_miss2 b c a p5 _ k1 k2 hA1.n5 hA1.own hA1.s5.whole).mono ?_; rintro e w' ⟨rfl, rfl⟩; refine Hid.out ?_)
  refine Lib.hid ?_
  go_wp2_with (go_at_call 60; refine (is_miss2 b c a p4 _ k1 k2 hA1.n4 hA1.own hA1.s4.whole).mono ?_; rintro e w' ⟨rfl, rfl⟩; refine Hid.out ?_)
  refine Lib.hid ?_
  go_wp2_with (go_at_call 61; refine (as_miss2 b c a _ _ hA1.typ k1 k2).mono ?_; rintro e w' ⟨rfl, rfl⟩)
  exact bodyPost_ret (v := .int .i64 1) (by simp [results, Tryz.results34, go_sem]) rfl ⟨rfl, bel.trans ((below_as _ _).mono bel.size)⟩

theorem three_old {w w1 : World} {x y z : Value} {t : TypeId} (hb : Below (w.alloc (.cells #[x, y, z] t)).heap.size (w.alloc (.cells #[x, y, z] t)) w1) :
  (w1.cell? ⟨w.heap.size, 0, none⟩ = some x ∧ w1.cell? ⟨w.heap.size, 1, none⟩ = some y ∧ w1.cell? ⟨w.heap.size, 2, none⟩ = some z) ∧ ∀ j, w1.frozen? ⟨w.heap.size, j, none⟩ = false := by
 have hn := heap_alloc_new w (.cells #[x, y, z] t)
 have hc := fun j => (hb.cell (p := ⟨w.heap.size, j, none⟩) (by simp)).trans (cell_of_row _ _ j _ t (0, 0) hn)
 exact ⟨⟨hc 0, hc 1, hc 2⟩, fun j => (hb.frozen (p := ⟨w.heap.size, j, none⟩) (by simp)).trans (frozen_of_row _ _ j _ t hn)⟩

theorem new_drew {w w1 : World} {cs : Array Value} {t : TypeId} (hb : Below (w.alloc (.cells cs t)).drew.heap.size (w.alloc (.cells cs t)).drew w1) (j : Nat) : w1.cell? ⟨w.heap.size, j, none⟩ = cs[j]? :=
 (hb.cell (p := ⟨w.heap.size, j, none⟩) (by simp)).trans (cell_of_row _ _ j _ t (0, 0) (heap_alloc_new w (.cells cs t)))

theorem Refusal.up {a : Addr} {b : Nat} {w : World} (h : Refusal a b w) (o : Obj) : Refusal a b (w.alloc o).drew := by
 rcases h with h1 | ⟨c, h1, h2⟩
 ·exact Or.inl (old1 h1 o)
 ·exact Or.inr ⟨c, old1 h1 o, old1 h2 o⟩

set_option maxHeartbeats 1000000 in
set_option maxRecDepth 100000 in
theorem parse_yes (a : Addr) (m : Int) (w : World) (h : Env a m w) (s : ByteArray) (k x y : Int) (H : Hid (∀ W, Env a m W → Calls Tryz.prog 63 #[.string s] W fun e w' => e = .returned (.tuple #[.agg #[.int .i64 k, .int .i64 x, .int .i64 y], .nilIface]) ∧ Below W.heap.size W w')) :
  Calls Tryz.prog 37 #[.string s] w fun e w' => e = .returned (.tuple #[.agg #[.int .i64 k, .int .i64 x, .int .i64 y], .int .i64 0]) ∧ Below w.heap.size w w' := by
 have hE1 : ∀ o, Env a m (w.alloc o) := fun o => h.on ((Below.refl _ _).alloc (Nat.le_refl _) _)
 go_enter Tryz.func37, Tryz.ntmps37
 go_wp2_with (go_at_call 63; refine (H.out _ (hE1 _)).mono ?_; rintro e w1 ⟨rfl, hb1⟩; refine Hid.out ?_)
 refine Lib.hid ?_
 have hz1 := hb1.size
 simp at hz1
 have hlt : w.heap.size < w1.heap.size := by omega
 have hE2 : Env a m w1 := (hE1 _).on hb1
 have c0 := three_old hb1
 have hb1' := ((Below.refl w.heap.size w).alloc (Nat.le_refl _) _).trans (hb1.mono (by simp))
 clear hb1
 have r0 := c0.1.1
 have r1 := c0.1.2.1
 have r2 := c0.1.2.2
 have fr := c0.2
 go_wp2_with fail
 go_region_with (go_at_call 34; refine (errno_nil _).mono ?_; rintro e w2 ⟨rfl, hb2⟩; have hx := ((Below.refl w1.heap.size w1).alloc (Nat.le_refl _) _).drew.trans (hb2.mono (by simp)); have z2 := hx.size; have s0 := (hx.cell (p := ⟨w.heap.size, 0, none⟩) hlt).trans r0; have s1 := (hx.cell (p := ⟨w.heap.size, 1, none⟩) hlt).trans r1; have s2 := (hx.cell (p := ⟨w.heap.size, 2, none⟩) hlt).trans r2; have ff := fun j => (hx.frozen (p := ⟨w.heap.size, j, none⟩) hlt).trans (fr j); have q0 := new_drew hb2 0; have q1 := new_drew hb2 1; have q2 := new_drew hb2 2; simp at q0 q1 q2)
 all_goals go_wp2
 all_goals
  have rr := read3 s0 s1 s2 (.int .i64 k) (.int .i64 x) (.int .i64 y)
  have rr0 := rr.1
  have rr1 := rr.2.1
  have rr2 := rr.2.2
  exact bodyPost_ret (v := .tuple #[.agg #[.int .i64 k, .int .i64 x, .int .i64 y], .int .i64 0]) (by simp [results, Tryz.results37, go_sem, rr0, rr1, rr2]) rfl ⟨rfl, ((((hb1'.trans (hx.mono (by omega))).setCell (by simp) _).setCell (by simp) _).setCell (by simp) _)⟩

set_option maxHeartbeats 1000000 in
set_option maxRecDepth 100000 in
theorem parse_no (a : Addr) (m : Int) (w : World) (h : Env a m w) (s : ByteArray) (H : Hid (∀ W, Env a m W → Calls Tryz.prog 63 #[.string s] W fun e w' => ∃ b, e = .returned (.tuple #[.agg #[.int .i64 0, .int .i64 0, .int .i64 0], .iface 209 (.pointer (some ⟨b, 0, none⟩))]) ∧ Refusal a b w' ∧ Below W.heap.size W w')) :
  Calls Tryz.prog 37 #[.string s] w fun e w' => e = .returned (.tuple #[.agg #[.int .i64 0, .int .i64 0, .int .i64 0], .int .i64 1]) ∧ Below w.heap.size w w' := by
 have hE1 : ∀ o, Env a m (w.alloc o) := fun o => h.on ((Below.refl _ _).alloc (Nat.le_refl _) _)
 go_enter Tryz.func37, Tryz.ntmps37
 go_wp2_with (go_at_call 63; refine (H.out _ (hE1 _)).mono ?_; rintro e w1 ⟨b, rfl, hR, hb1⟩; refine Hid.out ?_)
 refine Lib.hid ?_
 have hz1 := hb1.size
 simp at hz1
 have hlt : w.heap.size < w1.heap.size := by omega
 have hE2 : Env a m w1 := (hE1 _).on hb1
 have c0 := three_old hb1
 have hb1' := ((Below.refl w.heap.size w).alloc (Nat.le_refl _) _).trans (hb1.mono (by simp))
 clear hb1
 have r0 := c0.1.1
 have r1 := c0.1.2.1
 have r2 := c0.1.2.2
 have fr := c0.2
 have hA3 : ∀ o, ∃ p1 p2 p3 p4 p5, Asks a p1 p2 p3 p4 p5 (w1.alloc o).drew := fun o => (hE2.on ((Below.refl _ _).alloc (Nat.le_refl _) o).drew).asks
 have hR3 : ∀ o, Refusal a b (w1.alloc o).drew := fun o => hR.up o
 clear hR
 go_wp2_with fail
 go_region_with (go_at_call 34; refine (errno_bad a b _ ?_ ?_).mono ?_; exact hA3 _; exact hR3 _; rintro e w2 ⟨rfl, hb2⟩; have hx := ((Below.refl w1.heap.size w1).alloc (Nat.le_refl _) _).drew.trans (hb2.mono (by simp)); have z2 := hx.size; have s0 := (hx.cell (p := ⟨w.heap.size, 0, none⟩) hlt).trans r0; have s1 := (hx.cell (p := ⟨w.heap.size, 1, none⟩) hlt).trans r1; have s2 := (hx.cell (p := ⟨w.heap.size, 2, none⟩) hlt).trans r2; have ff := fun j => (hx.frozen (p := ⟨w.heap.size, j, none⟩) hlt).trans (fr j); have q0 := new_drew hb2 0; have q1 := new_drew hb2 1; have q2 := new_drew hb2 2; simp at q0 q1 q2)
 all_goals go_wp2
 all_goals
  have rr := read3 s0 s1 s2 (.int .i64 0) (.int .i64 0) (.int .i64 0)
  have rr0 := rr.1
  have rr1 := rr.2.1
  have rr2 := rr.2.2
  exact bodyPost_ret (v := .tuple #[.agg #[.int .i64 0, .int .i64 0, .int .i64 0], .int .i64 1]) (by simp [results, Tryz.results37, go_sem, rr0, rr1, rr2]) rfl ⟨rfl, ((((hb1'.trans (hx.mono (by omega))).setCell (by simp) _).setCell (by simp) _).setCell (by simp) _)⟩

end Go.Proofs.YtpcgnadfldimhaaGreatDoor
