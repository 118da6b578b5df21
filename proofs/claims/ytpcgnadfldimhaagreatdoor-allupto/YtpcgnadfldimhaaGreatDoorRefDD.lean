/-
 The document's answer: Stat and Queue.
-/
import Derived.Test.YtpcgnadfldimhaaGreatDoorRefBB
import Derived.Deep.RegionHeld3
import Derived.Test.YtpcgnadfldimhaaGreatDoorSchA
namespace Go.Proofs.YtpcgnadfldimhaaGreatDoor
open Go.RowKit

set_option maxHeartbeats 4000000 in
set_option maxRecDepth 100000 in
theorem do_stat_no (base bc : Nat) (nodes jobs wall last now : Int) (v : Value) (L : List Job) (w : World) (h : RefO base bc nodes jobs wall last now v L w) (_hw : Widths L) (_hT : Times L) (_hn : 1 ≤ nodes) (_hn' : nodes ≤ 64) (_hwa : wall ≤ 1000000000) (_ht : 0 ≤ now) (_ht' : now ≤ 5000000000000000000) (_hl : L.length < 1000000000) (_hbase : base ≤ w.heap.size) (x y : Int) (hr : rendOk 5 x y = true) (hA : x < 1 ∨ (L.length : Int) < x) :
  Calls Tryz.prog 44 #[.pointer (some ⟨bc, 0, none⟩), .agg #[.int .i64 5, .int .i64 x, .int .i64 y]] w (Left base bc nodes jobs wall last v ⟨5, 0, 0, 0, [], [], now, L⟩ w) := by
 have hlt0 := h.lt
 have hvb : ∀ k, v.ownBlock = some k → k < w.heap.size := fun k e => (h.own.lt k e).2
 have hs := rendOk_some hr
 obtain ⟨s, HS⟩ : ∃ s, Hid (rend 5 x y = s) := ⟨_, Lib.hid rfl⟩
 rw [HS.out] at hs
 clear hr
 go_enter Tryz.func44, Tryz.ntmps44
 go_wp2_with (go_at_call 42; refine (refR_any _ 5 x y).mono ?_; rintro e w1 ⟨rfl, hb1⟩; rw [HS.out]; refine Hid.out ?_)
 refine Lib.hid ?_
 have hz1 := hb1.size
 simp at hz1
 have hx1 : w1.heap[w.heap.size]? = some (.cells #[.int .i64 5, .int .i64 x, .int .i64 y] 29 (0, 0)) := (hb1.block _ (by simp; omega)).trans ((Below.heap_alloc _ _ _ (by simp)).trans (heap_alloc_new _ _))
 have hq1 : w1.heap[w.heap.size + 1]? = some (.cells #[.int .i64 0, .int .i64 0, .int .i64 0, .int .i64 0, .slice none 0 0, .slice none 0 0] 34 (0, 0)) := (hb1.block _ (by simp)).trans (alloc_at _ _ _ (by simp))
 have hk1 : Kept (fun _ => False) w w1 := (((Kept.refl _ w).alloc _).alloc _).trans (T := fun _ => False) (Kept.of_below hb1) (fun _ e => e.elim)
 have hR1 := h.kept hk1 (fun _ e => e.elim)
 have x0 := cell_of_row _ _ 0 _ _ (0, 0) hx1
 have x1 := cell_of_row _ _ 1 _ _ (0, 0) hx1
 have x2 := cell_of_row _ _ 2 _ _ (0, 0) hx1
 have q0 := cell_of_row _ _ 0 _ _ (0, 0) hq1
 have q1 := cell_of_row _ _ 1 _ _ (0, 0) hq1
 have q2 := cell_of_row _ _ 2 _ _ (0, 0) hq1
 have q3 := cell_of_row _ _ 3 _ _ (0, 0) hq1
 have q4 := cell_of_row _ _ 4 _ _ (0, 0) hq1
 have q5 := cell_of_row _ _ 5 _ _ (0, 0) hq1
 have qf := fun j => frozen_of_row _ _ j _ _ hq1
 simp at x0 x1 x2 q0 q1 q2 q3 q4 q5
 clear hb1
 obtain ⟨p, cap, rfl, hC⟩ := hR1.toC
 have d5 := hC.c5
 clear hC
 by_cases hA1 : x < 1
 ·clear hA
  go_wp2
  go_quiet (fail)
  go_wp2
  exact bodyPost_ret (v := .agg #[.int .i64 5, .int .i64 0, .int .i64 0, .int .i64 0, .slice none 0 0, .slice none 0 0]) (results_cell_row Tryz.results44 _ _ (w.heap.size + 1) _ _ _ _ rfl (six_block (u := w1.drewN _) hq1 _ _ _ _ _ _) Tryz.underlying34 rfl (by kernel_rfl)) rfl (left_refused h ((hk1.drewN _).six (Or.inr (by omega)) _ _ _ _ _ _) 5 0 0 0)
 ·have hA2 : (L.length : Int) < x := by omega
  clear hA
  go_wp2
  go_quiet (fail)
  go_wp2
  exact bodyPost_ret (v := .agg #[.int .i64 5, .int .i64 0, .int .i64 0, .int .i64 0, .slice none 0 0, .slice none 0 0]) (results_cell_row Tryz.results44 _ _ (w.heap.size + 1) _ _ _ _ rfl (six_block (u := w1.drewN _) hq1 _ _ _ _ _ _) Tryz.underlying34 rfl (by kernel_rfl)) rfl (left_refused h ((hk1.drewN _).six (Or.inr (by omega)) _ _ _ _ _ _) 5 0 0 0)

set_option maxHeartbeats 4000000 in
set_option maxRecDepth 100000 in
theorem do_stat_yes (base bc : Nat) (nodes jobs wall last now : Int) (v : Value) (L : List Job) (w : World) (h : RefO base bc nodes jobs wall last now v L w) (_hw : Widths L) (_hT : Times L) (_hn : 1 ≤ nodes) (_hn' : nodes ≤ 64) (_hwa : wall ≤ 1000000000) (_ht : 0 ≤ now) (_ht' : now ≤ 5000000000000000000) (hl : L.length < 1000000000) (_hbase : base ≤ w.heap.size) (i : Nat) (y : Int) (hr : rendOk 5 ((i : Int) + 1) y = true) (j : Job) (hj : L[i]? = some j) :
  Calls Tryz.prog 44 #[.pointer (some ⟨bc, 0, none⟩), .agg #[.int .i64 5, .int .i64 ((i : Int) + 1), .int .i64 y]] w (Left base bc nodes jobs wall last v ⟨0, j.phase, j.start, j.stop, [], [], now, L⟩ w) := by
 have hil := (List.getElem?_eq_some_iff.1 hj).1
 have hlt0 := h.lt
 have hvb : ∀ k, v.ownBlock = some k → k < w.heap.size := fun k e => (h.own.lt k e).2
 have hs := rendOk_some hr
 obtain ⟨s, HS⟩ : ∃ s, Hid (rend 5 ((i : Int) + 1) y = s) := ⟨_, Lib.hid rfl⟩
 rw [HS.out] at hs
 clear hr
 go_enter Tryz.func44, Tryz.ntmps44
 go_wp2_with (go_at_call 42; refine (refR_any _ 5 ((i : Int) + 1) y).mono ?_; rintro e w1 ⟨rfl, hb1⟩; rw [HS.out]; refine Hid.out ?_)
 refine Lib.hid ?_
 have hz1 := hb1.size
 simp at hz1
 have hx1 : w1.heap[w.heap.size]? = some (.cells #[.int .i64 5, .int .i64 ((i : Int) + 1), .int .i64 y] 29 (0, 0)) := (hb1.block _ (by simp; omega)).trans ((Below.heap_alloc _ _ _ (by simp)).trans (heap_alloc_new _ _))
 have hq1 : w1.heap[w.heap.size + 1]? = some (.cells #[.int .i64 0, .int .i64 0, .int .i64 0, .int .i64 0, .slice none 0 0, .slice none 0 0] 34 (0, 0)) := (hb1.block _ (by simp)).trans (alloc_at _ _ _ (by simp))
 have hk1 : Kept (fun _ => False) w w1 := (((Kept.refl _ w).alloc _).alloc _).trans (T := fun _ => False) (Kept.of_below hb1) (fun _ e => e.elim)
 have hR1 := h.kept hk1 (fun _ e => e.elim)
 have x0 := cell_of_row _ _ 0 _ _ (0, 0) hx1
 have x1 := cell_of_row _ _ 1 _ _ (0, 0) hx1
 have x2 := cell_of_row _ _ 2 _ _ (0, 0) hx1
 have q0 := cell_of_row _ _ 0 _ _ (0, 0) hq1
 have q1 := cell_of_row _ _ 1 _ _ (0, 0) hq1
 have q2 := cell_of_row _ _ 2 _ _ (0, 0) hq1
 have q3 := cell_of_row _ _ 3 _ _ (0, 0) hq1
 have q4 := cell_of_row _ _ 4 _ _ (0, 0) hq1
 have q5 := cell_of_row _ _ 5 _ _ (0, 0) hq1
 have qf := fun j => frozen_of_row _ _ j _ _ hq1
 simp at x0 x1 x2 q0 q1 q2 q3 q4 q5
 clear hb1
 obtain ⟨p, cap, rfl, hC⟩ := hR1.toC
 have d5 := hC.c5
 obtain ⟨b, rfl, hrow⟩ := hC.row i j hj
 obtain ⟨wd, wl, ph, st, en⟩ := j
 clear hC
 have hB1 : decide ((i : Int) + 1 < 1) = false := by simp; omega
 have hB2 : decide ((L.length : Int) < (i : Int) + 1) = false := by simp; omega
 have hB3 : ¬ ((i : Int) + 1 < 1) := by omega
 have hB4 : ¬ ((L.length : Int) < (i : Int) + 1) := by omega
 go_wp2
 go_quiet (fail)
 have c0 := hrow 0 _ rfl
 have c1 := hrow 1 _ rfl
 have c2 := hrow 2 _ rfl
 have c3 := hrow 3 _ rfl
 have c4 := hrow 4 _ rfl
 rw [Nat.add_zero] at c0
 have e1 : (0 : Int) ≤ (i : Int) := by omega
 have e2 : (i : Int) < (L.length : Int) := by omega
 have ew : IntKind.i64.wrap ((i : Int) + 1 - 1) = (i : Int) := by rw [IntKind.wrap_i64]; omega
 have ew2 : IntKind.i64.wrap (i : Int) = (i : Int) := by rw [IntKind.wrap_i64]; omega
 have HQ1 : Hid ((w1.drewN nq).heap[w.heap.size + 1]? = some (.cells #[.int .i64 0, .int .i64 0, .int .i64 0, .int .i64 0, .slice none 0 0, .slice none 0 0] 34 (0, 0))) := Lib.hid hq1
 have HK1 := Lib.hid (hk1.drewN nq)
 have HR1 : Hid (RefO base bc nodes jobs wall last now (.slice (some ⟨b, 0, none⟩) L.length cap) L (w1.drewN nq)) := Lib.hid (hR1.on (fun _ _ => rfl))
 have HV := Lib.hid hvb
 have d5 : (w1.drewN nq).cell? ⟨bc, 5, none⟩ = some (.slice (some ⟨b, 0, none⟩) L.length cap) := d5
 have x1 : (w1.drewN nq).cell? ⟨w.heap.size, 1, none⟩ = some (.int .i64 ((i : Int) + 1)) := x1
 have c0 : (w1.drewN nq).cell? ⟨b, i * 5, none⟩ = some (.int .i64 wd) := c0
 have c1 : (w1.drewN nq).cell? ⟨b, i * 5 + 1, none⟩ = some (.int .i64 wl) := c1
 have c2 : (w1.drewN nq).cell? ⟨b, i * 5 + 2, none⟩ = some (.int .i64 ph) := c2
 have c3 : (w1.drewN nq).cell? ⟨b, i * 5 + 3, none⟩ = some (.int .i64 st) := c3
 have c4 : (w1.drewN nq).cell? ⟨b, i * 5 + 4, none⟩ = some (.int .i64 en) := c4
 have hz2 : w.heap.size + 1 + 1 ≤ (w1.drewN nq).heap.size := hz1
 clear hx1 hq1 hk1 hR1 hrow hB1 hB2 hB3 hB4 hs q0 q1 q2 q3 q4 q5 qf x0 x2 hj hvb hl _ht _ht' _hn _hn' _hwa _hw _hT _hbase hz1
 go_wp2
 generalize w1.drewN nq = W1 at *
 have N5 := World.new_ne W1 _ d5
 have N1 := World.new_ne W1 _ x1
 have M0 := World.new_ne W1 _ c0
 simp at N5 N1 M0
 go_region_held3 (fun w' => w'.cell? ⟨bc, 5, none⟩ = some (.slice (some ⟨b, 0, none⟩) L.length cap) ∧ w'.cell? ⟨w.heap.size, 1, none⟩ = some (.int .i64 ((i : Int) + 1)) ∧ w'.cell? ⟨b, i * 5, none⟩ = some (.int .i64 wd) ∧ w'.cell? ⟨b, i * 5 + 1, none⟩ = some (.int .i64 wl) ∧ w'.cell? ⟨b, i * 5 + 2, none⟩ = some (.int .i64 ph) ∧ w'.cell? ⟨b, i * 5 + 3, none⟩ = some (.int .i64 st) ∧ w'.cell? ⟨b, i * 5 + 4, none⟩ = some (.int .i64 en)) (go_keep) (fail)
 have hj2 : ((W1.alloc (.cells #[.int .i64 wd, .int .i64 wl, .int .i64 ph, .int .i64 st, .int .i64 en] 148)).drew).heap[W1.heap.size]? = some (.cells #[.int .i64 wd, .int .i64 wl, .int .i64 ph, .int .i64 st, .int .i64 en] 148 (0, 0)) := heap_alloc_new W1 _
 have hq2 : ((W1.alloc (.cells #[.int .i64 wd, .int .i64 wl, .int .i64 ph, .int .i64 st, .int .i64 en] 148)).drew).heap[w.heap.size + 1]? = some (.cells #[.int .i64 0, .int .i64 0, .int .i64 0, .int .i64 0, .slice none 0 0, .slice none 0 0] 34 (0, 0)) := (Below.heap_alloc W1 _ _ (by omega)).trans HQ1.out
 have HK2 : Hid (Kept (fun k => k = bc ∨ (Value.slice (some ⟨b, 0, none⟩) L.length cap).ownBlock = some k) W1 ((W1.alloc (.cells #[.int .i64 wd, .int .i64 wl, .int .i64 ph, .int .i64 st, .int .i64 en] 148)).drew)) := Lib.hid (Kept.of_below (((Below.refl W1.heap.size W1).alloc (Nat.le_refl _) _).drew))
 have HR2 : Hid (RefO base bc nodes jobs wall last now (.slice (some ⟨b, 0, none⟩) L.length cap) L ((W1.alloc (.cells #[.int .i64 wd, .int .i64 wl, .int .i64 ph, .int .i64 st, .int .i64 en] 148)).drew)) := Lib.hid ((HR1.out.kept (S := fun _ => False) ((Kept.refl _ W1).alloc _) (fun _ e => e.elim)).on (fun _ _ => rfl))
 generalize (W1.alloc (.cells #[.int .i64 wd, .int .i64 wl, .int .i64 ph, .int .i64 st, .int .i64 en] 148)).drew = W2 at *
 have k2 := cell_of_row _ _ 2 _ _ (0, 0) hj2
 have k3 := cell_of_row _ _ 3 _ _ (0, 0) hj2
 have k4 := cell_of_row _ _ 4 _ _ (0, 0) hj2
 have r0 := cell_of_row _ _ 0 _ _ (0, 0) hq2
 have r1 := cell_of_row _ _ 1 _ _ (0, 0) hq2
 have r2 := cell_of_row _ _ 2 _ _ (0, 0) hq2
 have r3 := cell_of_row _ _ 3 _ _ (0, 0) hq2
 have r4 := cell_of_row _ _ 4 _ _ (0, 0) hq2
 have r5 := cell_of_row _ _ 5 _ _ (0, 0) hq2
 have rf := fun j => frozen_of_row _ _ j _ _ hq2
 simp at k2 k3 k4 r0 r1 r2 r3 r4 r5
 clear d5 x1 c0 c1 c2 c3 c4 hj2
 go_wp2
 exact bodyPost_ret (v := .agg #[.int .i64 0, .int .i64 ph, .int .i64 st, .int .i64 en, .slice none 0 0, .slice none 0 0]) (results_cell_row Tryz.results44 _ _ (w.heap.size + 1) _ _ _ _ rfl (six_block hq2 _ _ _ _ _ _) Tryz.underlying34 rfl (by kernel_rfl)) rfl (left_wrap (o := ⟨0, ph, st, en, [], [], now, L⟩) HK1.out hlt0 HV.out (World.ownsRow_nil _ _ _ _) (World.ownsRow_nil _ _ _ _) HR2.out HK2.out (fun k e => Or.inl e) _ (by omega) (by omega) _ _ _ _ _ _)

end Go.Proofs.YtpcgnadfldimhaaGreatDoor
namespace Go.Proofs.YtpcgnadfldimhaaGreatDoor
open Go.RowKit

theorem Tryz.infoRow : (Tryz.prog.info? 57).map (fun i => (i.zero, i.size, i.bytes)) = some (some (.agg #[.int .i64 0, .int .i64 0, .int .i64 0, .int .i64 0]), 4, 32) := by kernel_rfl

/-- The queued ones of the first k jobs. -/
def queueN (L : List Job) : Nat → List RowV
 | 0 => []
 | k + 1 => match L[k]? with
  | some j => if j.phase = 1 then queueN L k ++ [⟨(k : Int) + 1, j.start, j.width, j.wall⟩] else queueN L k
  | none => queueN L k
theorem queueN_step (L : List Job) (k : Nat) (j : Job) (h : L[k]? = some j) : queueN L (k + 1) = if j.phase = 1 then queueN L k ++ [⟨(k : Int) + 1, j.start, j.width, j.wall⟩] else queueN L k := by
 simp [queueN, h]
theorem queueN_len (L : List Job) : ∀ k, (queueN L k).length ≤ k
 | 0 => by simp [queueN]
 | k + 1 => by
  have ih := queueN_len L k
  unfold queueN
  cases L[k]? with
  | none => simp only; omega
  | some j => simp only; split <;> simp <;> omega

structure QW (base bc : Nat) (nodes jobs wall last now : Int) (v : Value) (w : World) (L : List Job) (rb : Nat) (rows : List RowV) (x : Value) (wr : World) : Prop where
 ref : RefO base bc nodes jobs wall last now v L wr
 own : wr.ownsRow (rb + 1) 57 4 x rows.length (flatR rows)
 r : wr.heap[rb]? = some (.cells #[.int .i64 0, .int .i64 0, .int .i64 0, .int .i64 0, x, .slice none 0 0] 34 (0, 0))
 q : wr.heap[w.heap.size + 1]? = some (.cells #[.int .i64 0, .int .i64 0, .int .i64 0, .int .i64 0, .slice none 0 0, .slice none 0 0] 34 (0, 0))
 kept : Kept (fun _ => False) w wr
 lt : rb + 1 ≤ wr.heap.size
 far : w.heap.size + 2 ≤ rb

theorem QW.alloc {base bc : Nat} {nodes jobs wall last now : Int} {v : Value} {w : World} {L : List Job} {rb : Nat} {rows : List RowV} {x : Value} {wr : World} (h : QW base bc nodes jobs wall last now v w L rb rows x wr) (o : Obj) : QW base bc nodes jobs wall last now v w L rb rows x (wr.alloc o) :=
 ⟨h.ref.kept (S := fun _ => False) ((Kept.refl _ _).alloc o) (fun _ e => e.elim), h.own.alloc o, (Below.heap_alloc _ _ _ (by have := h.lt; omega)).trans h.r, (Below.heap_alloc _ _ _ (by have := h.lt; have := h.far; omega)).trans h.q, h.kept.alloc o, by have := h.lt; simp; omega, h.far⟩
theorem QW.push {base bc : Nat} {nodes jobs wall last now : Int} {v : Value} {w : World} {L : List Job} {rb : Nat} {rows : List RowV} {x : Value} {wr : World} (h : QW base bc nodes jobs wall last now v w L rb rows x wr) (hb : bc < w.heap.size) (hv : ∀ k, v.ownBlock = some k → k < w.heap.size) {ns : List RowV} {x' : Value} {w' : World} (hg : wr.grownBy w' x.ownBlock) (ho : w'.ownsRow (rb + 1) 57 4 x' (rows.length + ns.length) (flatR rows ++ flatR ns)) :
  QW base bc nodes jobs wall last now v w L rb (rows ++ ns) x' (w'.setCell ⟨rb, 4, none⟩ x') := by
 have hlt := h.lt
 have hfar := h.far
 have hsz := hg.size
 have hx : ∀ k, x.ownBlock = some k → rb + 1 ≤ k := fun k e => (h.own.lt k e).1
 have hk1 : Kept (fun k => x.ownBlock = some k) wr w' := (Kept.refl _ _).grown hg (fun i e => Or.inl e)
 have hr1 := h.ref.kept hk1 (fun k e => ⟨fun e2 => by have := hx k e; omega, fun e2 => by have := hx k e; have := hv k e2; omega⟩)
 have hk2 : Kept (fun k => k = rb) w' (w'.setCell ⟨rb, 4, none⟩ x') := (Kept.refl (fun k => k = rb) w').setCell (p := ⟨rb, 4, none⟩) (Or.inl rfl) x'
 refine ⟨hr1.kept hk2 (fun k e => ⟨by omega, fun e2 => by have := hv k e2; omega⟩), ?_, heap_setCell_same w' _ 4 _ _ x' ((hk1.block _ (by omega) (fun e => by have := hx _ e; omega)).trans h.r), (hk2.block _ (by omega) (by omega)).trans ((hk1.block _ (by omega) (fun e => by have := hx _ e; omega)).trans h.q), (h.kept.grown hg (fun i e => Or.inr (by have := hx i e; omega))).setCell (p := ⟨rb, 4, none⟩) (Or.inr (by simp; omega)) x', by simp; omega, hfar⟩
 have e : flatR (rows ++ ns) = flatR rows ++ flatR ns := by simp [flatR]
 rw [e, List.length_append]
 exact ownsRow_setCell_other ho (fun e => absurd (ho.lt _ e).1 (by simp)) x'

set_option maxHeartbeats 8000000 in
set_option maxRecDepth 100000 in
theorem do_queue (base bc : Nat) (nodes jobs wall last now : Int) (v : Value) (L : List Job) (w : World) (h : RefO base bc nodes jobs wall last now v L w) (_hw : Widths L) (_hT : Times L) (_hn : 1 ≤ nodes) (_hn' : nodes ≤ 64) (_hwa : wall ≤ 1000000000) (_ht : 0 ≤ now) (_ht' : now ≤ 5000000000000000000) (hl : L.length < 1000000000) (_hbase : base ≤ w.heap.size) (x y : Int) (hr : rendOk 6 x y = true) :
  Calls Tryz.prog 44 #[.pointer (some ⟨bc, 0, none⟩), .agg #[.int .i64 6, .int .i64 x, .int .i64 y]] w (Left base bc nodes jobs wall last v ⟨0, 0, 0, 0, queueN L L.length, [], now, L⟩ w) := by
 obtain ⟨i0, hi, hz0, hz1', hz2⟩ := info_parts Tryz.infoRow
 have hlt0 := h.lt
 have hvb : ∀ k, v.ownBlock = some k → k < w.heap.size := fun k e => (h.own.lt k e).2
 have hs := rendOk_some hr
 obtain ⟨s, HS⟩ : ∃ s, Hid (rend 6 x y = s) := ⟨_, Lib.hid rfl⟩
 rw [HS.out] at hs
 clear hr
 go_enter Tryz.func44, Tryz.ntmps44
 go_wp2_with (go_at_call 42; refine (refR_any _ 6 x y).mono ?_; rintro e w1 ⟨rfl, hb1⟩; rw [HS.out]; refine Hid.out ?_)
 refine Lib.hid ?_
 have hz1 := hb1.size
 simp at hz1
 have hx1 : w1.heap[w.heap.size]? = some (.cells #[.int .i64 6, .int .i64 x, .int .i64 y] 29 (0, 0)) := (hb1.block _ (by simp; omega)).trans ((Below.heap_alloc _ _ _ (by simp)).trans (heap_alloc_new _ _))
 have hq1 : w1.heap[w.heap.size + 1]? = some (.cells #[.int .i64 0, .int .i64 0, .int .i64 0, .int .i64 0, .slice none 0 0, .slice none 0 0] 34 (0, 0)) := (hb1.block _ (by simp)).trans (alloc_at _ _ _ (by simp))
 have hk1 : Kept (fun _ => False) w w1 := (((Kept.refl _ w).alloc _).alloc _).trans (T := fun _ => False) (Kept.of_below hb1) (fun _ e => e.elim)
 have hR1 := h.kept hk1 (fun _ e => e.elim)
 have x0 := cell_of_row _ _ 0 _ _ (0, 0) hx1
 have x1 := cell_of_row _ _ 1 _ _ (0, 0) hx1
 have x2 := cell_of_row _ _ 2 _ _ (0, 0) hx1
 have q0 := cell_of_row _ _ 0 _ _ (0, 0) hq1
 have q1 := cell_of_row _ _ 1 _ _ (0, 0) hq1
 have q2 := cell_of_row _ _ 2 _ _ (0, 0) hq1
 have q3 := cell_of_row _ _ 3 _ _ (0, 0) hq1
 have q4 := cell_of_row _ _ 4 _ _ (0, 0) hq1
 have q5 := cell_of_row _ _ 5 _ _ (0, 0) hq1
 have qf := fun j => frozen_of_row _ _ j _ _ hq1
 simp at x0 x1 x2 q0 q1 q2 q3 q4 q5
 clear hb1
 obtain ⟨p, cap, rfl, hC⟩ := hR1.toC
 have hlen := hC.len
 clear hC
 have HVB := Lib.hid hvb
 have hQ0 : QW base bc nodes jobs wall last now (.slice p L.length cap) w L w1.heap.size [] (.slice none 0 0) (w1.alloc (.cells #[.int .i64 0, .int .i64 0, .int .i64 0, .int .i64 0, .slice none 0 0, .slice none 0 0] 34)) :=
  ⟨hR1.kept (S := fun _ => False) ((Kept.refl _ _).alloc _) (fun _ e => e.elim), World.ownsRow_nil _ _ _ _, heap_alloc_new _ _, (Below.heap_alloc _ _ _ (by omega)).trans hq1, hk1.alloc _, by simp, by omega⟩
 have HQ0 := Lib.hid hQ0
 have d5 := hQ0.ref.cell 5
 simp at d5
 clear hQ0 hvb hq1 hk1 hR1 hx1 x1 x2 q0 q1 q2 q3 q4 q5 qf _hw _hT _hn _hn' _hwa _ht _ht' _hbase
 go_wp2
 generalize HWA : w1.alloc (.cells #[.int .i64 0, .int .i64 0, .int .i64 0, .int .i64 0, .slice none 0 0, .slice none 0 0] 34) = WA at *
 obtain ⟨rb, HRB⟩ : ∃ rb, rb = w1.heap.size := ⟨_, rfl⟩
 rw [← HRB] at HQ0 ⊢
 clear HRB HWA
 go_loopw [8] (fun iv wr => ∃ (k : Nat) (x2 : Value), iv = .int .i64 k ∧ k ≤ L.length ∧ QW base bc nodes jobs wall last now (.slice p L.length cap) w L rb (queueN L k) x2 wr) (fun iv _ => L.length - (intOf iv).toNat)
 case atStart => exact ⟨0, _, rfl, Nat.zero_le _, HQ0.out⟩
 case round =>
  obtain ⟨k, x2, rfl, hk, hW⟩ := hrel
  obtain ⟨px, cx, rfl⟩ := own_slice hW.own
  have d5 := hW.ref.cell 5
  simp at d5
  have hlr := hW.lt
  have hfar := hW.far
  by_cases hlt : k < L.length
  ·obtain ⟨j, hj⟩ : ∃ j, L[k]? = some j := ⟨_, List.getElem?_eq_getElem hlt⟩
   obtain ⟨p2, cap2, hv2, hC2⟩ := hW.ref.toC
   obtain ⟨rfl, rfl⟩ : p2 = p ∧ cap2 = cap := by simp at hv2; exact ⟨hv2.1.symm, hv2.2.symm⟩
   obtain ⟨g, rfl, hrow⟩ := hC2.row k j hj
   have HS := Lib.hid (queueN_step L k j hj)
   have hql := queueN_len L k
   obtain ⟨wd, wl, ph, st, en⟩ := j
   have HW := Lib.hid hW
   have HA := Lib.hid (hW.alloc (.cells #[.int .i64 wd, .int .i64 wl, .int .i64 ph, .int .i64 st, .int .i64 en] 148))
   clear hW hC2 hj hv2
   by_cases h1 : ph = 1
   ·subst h1
    have m4 := cell_of_row _ _ 4 _ _ (0, 0) HA.out.r
    simp at m4
    go_wp2_with (first | (refine wpList_load_mid rfl 148 _ rfl g (k * 5) rfl [.int .i64 wd, .int .i64 wl, .int .i64 1, .int .i64 st, .int .i64 en] _ hrow Tryz.underlying148 rfl (by kernel_rfl) ?_) | (at_builtin; refine wpList_append_lies _ rfl _ _ 31 rfl (rb + 1) 57 i0 (.agg #[.int .i64 0, .int .i64 0, .int .i64 0, .int .i64 0]) 4 32 Tryz.underlying31 hi hz0 hz1' hz2 rfl (by decide) _ _ _ rfl (HA.out.own.alloc _) ⟨wr.heap.size + 1, 0, none⟩ 1 1 [.int .i64 ((k : Int) + 1), .int .i64 st, .int .i64 wd, .int .i64 wl] rfl rfl (news_at _ #[.int .i64 ((k : Int) + 1), .int .i64 st, .int .i64 wd, .int .i64 wl] _ _ (by simp)) (by intro u' hu'; simp at hu'; rcases hu' with rfl | rfl | rfl | rfl <;> rfl) (by decide) (by unfold maxLen; omega) (by omega) (by simp; omega) _ rfl ?_))
    intro g2 c3' w4 hown4 hgrow hat hlt4
    have hW2 := (HA.out.alloc (.cells #[.int .i64 ((k : Int) + 1), .int .i64 st, .int .i64 wd, .int .i64 wl] 57)).push (ns := [⟨(k : Int) + 1, st, wd, wl⟩]) hlt0 HVB.out hgrow (by simpa [flatR, RowV.cells] using hown4)
    have k5 : w4.heap[rb]? = _ := (hgrow.block _ (by simp; omega) (fun e => by have := (HA.out.own.lt _ e.symm).1; omega)).trans (HA.out.alloc _).r
    have n5 := cell_of_row _ _ 4 _ _ (0, 0) k5
    have nf := frozen_of_row _ _ 4 _ _ k5
    simp at n5
    have HW2 := Lib.hid hW2
    have HS2 : Hid (queueN L (k + 1) = queueN L k ++ [⟨(k : Int) + 1, st, wd, wl⟩]) := Lib.hid (by rw [HS.out]; simp)
    clear hW2 hown4 hgrow k5
    go_wp2
    all_goals exact ⟨⟨k + 1, _, by go_num, by omega, by rw [HS2.out]; exact HW2.out⟩, by simp [intOf]; omega⟩
   ·go_wp2_with (refine wpList_load_mid rfl 148 _ rfl g (k * 5) rfl [.int .i64 wd, .int .i64 wl, .int .i64 ph, .int .i64 st, .int .i64 en] _ hrow Tryz.underlying148 rfl (by kernel_rfl) ?_)
    all_goals exact ⟨⟨k + 1, _, by go_num, by omega, by rw [HS.out, if_neg h1]; exact HA.out⟩, by simp [intOf]; omega⟩
  ·obtain rfl : k = L.length := by omega
   have m0 := cell_of_row _ _ 0 _ _ (0, 0) hW.r
   have m1 := cell_of_row _ _ 1 _ _ (0, 0) hW.r
   have m2 := cell_of_row _ _ 2 _ _ (0, 0) hW.r
   have m3 := cell_of_row _ _ 3 _ _ (0, 0) hW.r
   have m4 := cell_of_row _ _ 4 _ _ (0, 0) hW.r
   have m5 := cell_of_row _ _ 5 _ _ (0, 0) hW.r
   have n0 := cell_of_row _ _ 0 _ _ (0, 0) hW.q
   have n1 := cell_of_row _ _ 1 _ _ (0, 0) hW.q
   have n2 := cell_of_row _ _ 2 _ _ (0, 0) hW.q
   have n3 := cell_of_row _ _ 3 _ _ (0, 0) hW.q
   have n4 := cell_of_row _ _ 4 _ _ (0, 0) hW.q
   have n5 := cell_of_row _ _ 5 _ _ (0, 0) hW.q
   have nf := fun j => frozen_of_row _ _ j _ _ hW.q
   simp at m0 m1 m2 m3 m4 m5 n0 n1 n2 n3 n4 n5
   have HW := Lib.hid hW
   clear hW
   go_wp2
   have h9 := (Kept.refl (fun k => k = w.heap.size + 1) wr).six (g := w.heap.size + 1) (Or.inl rfl) (.int .i64 0) (.int .i64 0) (.int .i64 0) (.int .i64 0) (.slice px (queueN L L.length).length cx) (.slice none 0 0)
   refine bodyPost_ret (v := .agg #[.int .i64 0, .int .i64 0, .int .i64 0, .int .i64 0, .slice px (queueN L L.length).length cx, .slice none 0 0]) (results_cell_row Tryz.results44 _ _ (w.heap.size + 1) _ _ _ _ rfl (six_block HW.out.q _ _ _ _ _ _) Tryz.underlying34 rfl (by kernel_rfl)) rfl ?_
   refine ⟨.slice px (queueN L L.length).length cx, .slice none 0 0, .slice p L.length cap, rfl, ?_, World.ownsRow_nil _ _ _ _, ?_, (HW.out.kept.mono (fun _ e => e.elim)).six (Or.inr (by omega)) _ _ _ _ _ _, fun k e => Or.inl e⟩
   ·exact owns_on (owns_mono HW.out.own (by omega)) (fun k e => h9.block k (HW.out.own.lt k e).2 (by have := (HW.out.own.lt k e).1; omega))
   ·exact HW.out.ref.kept h9 (fun k e => ⟨by omega, fun e2 => by have := HVB.out k e2; omega⟩)

end Go.Proofs.YtpcgnadfldimhaaGreatDoor
namespace Go.Proofs.YtpcgnadfldimhaaGreatDoor
open Go.RowKit

set_option maxHeartbeats 4000000 in
set_option maxRecDepth 100000 in
theorem refNew_no (nodes jobs wall last : Int) (w : World) (hc : ¬ ConfOk nodes jobs wall last) :
  Calls Tryz.prog 48 #[.agg #[.int .i64 nodes, .int .i64 jobs, .int .i64 wall, .int .i64 last]] w fun e w' => e = .returned (.tuple #[.pointer none, .int .i64 1]) ∧ Below w.heap.size w w' := by
 by_cases a1 : nodes < 1
 ·go_enter Tryz.func48, Tryz.ntmps48
  go_wp2
  go_ret2
  exact ⟨rfl, (Below.refl _ _).alloc (Nat.le_refl _) _⟩
 by_cases a2 : 64 < nodes
 ·go_enter Tryz.func48, Tryz.ntmps48
  go_wp2
  go_ret2
  exact ⟨rfl, (Below.refl _ _).alloc (Nat.le_refl _) _⟩
 by_cases a3 : jobs < 1
 ·go_enter Tryz.func48, Tryz.ntmps48
  go_wp2
  go_ret2
  exact ⟨rfl, (Below.refl _ _).alloc (Nat.le_refl _) _⟩
 by_cases a4 : 30 < jobs
 ·go_enter Tryz.func48, Tryz.ntmps48
  go_wp2
  go_ret2
  exact ⟨rfl, (Below.refl _ _).alloc (Nat.le_refl _) _⟩
 by_cases a5 : wall < 1
 ·go_enter Tryz.func48, Tryz.ntmps48
  go_wp2
  go_ret2
  exact ⟨rfl, (Below.refl _ _).alloc (Nat.le_refl _) _⟩
 by_cases a6 : 1000000000 < wall
 ·go_enter Tryz.func48, Tryz.ntmps48
  go_wp2
  go_ret2
  exact ⟨rfl, (Below.refl _ _).alloc (Nat.le_refl _) _⟩
 by_cases a7 : last < 0
 ·go_enter Tryz.func48, Tryz.ntmps48
  go_wp2
  go_ret2
  exact ⟨rfl, (Below.refl _ _).alloc (Nat.le_refl _) _⟩
 have hm0 : 0 ≤ jobs * wall := Int.mul_nonneg (by omega) (by omega)
 have hm1 : jobs * wall ≤ 30 * 1000000000 := Int.mul_le_mul (by omega) (by omega) (by omega) (by omega)
 have a8 : 4611686018427387904 - jobs * wall < last := by
  unfold ConfOk at hc
  omega
 go_enter Tryz.func48, Tryz.ntmps48
 go_wp2
 go_ret2
 exact ⟨rfl, (Below.refl _ _).alloc (Nat.le_refl _) _⟩

set_option maxHeartbeats 4000000 in
set_option maxRecDepth 100000 in
theorem refNew_yes (nodes jobs wall last : Int) (w : World) (hc : ConfOk nodes jobs wall last) :
  Calls Tryz.prog 48 #[.agg #[.int .i64 nodes, .int .i64 jobs, .int .i64 wall, .int .i64 last]] w fun e w' => ∃ bc, e = .returned (.tuple #[.pointer (some ⟨bc, 0, none⟩), .int .i64 0]) ∧ RefO w.heap.size bc nodes jobs wall last 0 (.slice none 0 0) [] w' ∧ Below w.heap.size w w' := by
 obtain ⟨b1, b2, b3, b4, b5, b6, b7, b8⟩ := hc
 have hm0 : 0 ≤ jobs * wall := Int.mul_nonneg (by omega) (by omega)
 have hm1 : jobs * wall ≤ 30 * 1000000000 := Int.mul_le_mul (by omega) (by omega) (by omega) (by omega)
 go_enter Tryz.func48, Tryz.ntmps48
 go_wp2
 go_ret2
 refine ⟨_, rfl, ⟨?_, World.ownsRow_nil _ _ _ _, by simp [Value.ownBlock], ?_, by simp⟩, ((Below.refl _ _).alloc (Nat.le_refl _) _).alloc (by simp) _⟩
 ·exact alloc_at _ _ _ (by simp)
 ·omega

/-- What Do answers (what is neither Cancel nor Done). -/
def DoO (nodes jobs wall last now : Int) (L : List Job) (k x y : Int) (o : Out) : Prop :=
 (rendOk k x y = false ∧ o = ⟨1, 0, 0, 0, [], [], now, L⟩) ∨ (rendOk k x y = true ∧ (
  (k = 1 ∧ o = submitO nodes jobs wall now L x y) ∨
  (k = 4 ∧ TickO last now L x o) ∨
  (k = 5 ∧ (x < 1 ∨ (L.length : Int) < x) ∧ o = ⟨5, 0, 0, 0, [], [], now, L⟩) ∨
  (k = 5 ∧ ∃ (i : Nat) (j : Job), x = (i : Int) + 1 ∧ L[i]? = some j ∧ o = ⟨0, j.phase, j.start, j.stop, [], [], now, L⟩) ∨
  (k = 6 ∧ o = ⟨0, 0, 0, 0, queueN L L.length, [], now, L⟩) ∨
  (k = 7 ∧ o = ⟨0, now, freeN L nodes L.length, liveN L L.length, [], [], now, L⟩)))

theorem do_ref (base bc : Nat) (nodes jobs wall last now : Int) (v : Value) (L : List Job) (w : World) (h : RefO base bc nodes jobs wall last now v L w) (hw : Widths L) (hT : Times L) (hn : 1 ≤ nodes) (hn' : nodes ≤ 64) (hwa : wall ≤ 1000000000) (ht : 0 ≤ now) (ht' : now ≤ 5000000000000000000) (hl : L.length < 1000000000) (hbase : base ≤ w.heap.size) (k x y : Int) (h2 : k ≠ 2) (h3 : k ≠ 3) :
  Calls Tryz.prog 44 #[.pointer (some ⟨bc, 0, none⟩), .agg #[.int .i64 k, .int .i64 x, .int .i64 y]] w fun e w' => ∃ o, DoO nodes jobs wall last now L k x y o ∧ Left base bc nodes jobs wall last v o w e w' := by
 cases hr : rendOk k x y with
 | false => exact (do_bad base bc nodes jobs wall last now v L w h hw hT hn hn' hwa ht ht' hl hbase k x y hr).mono fun e w' hh => ⟨_, Or.inl ⟨hr, rfl⟩, hh⟩
 | true =>
  have hk := hr
  simp only [rendOk, Bool.and_eq_true, decide_eq_true_eq] at hk
  obtain ⟨⟨⟨k1, k7⟩, hfx⟩, _⟩ := hk
  have hkk : k = 1 ∨ k = 4 ∨ k = 5 ∨ k = 6 ∨ k = 7 := by omega
  rcases hkk with rfl | rfl | rfl | rfl | rfl
  ·exact (do_submit base bc nodes jobs wall last now v L w h hw hT hn hn' hwa ht ht' hl hbase x y hr _ (Lib.hid rfl)).mono fun e w' hh => ⟨_, Or.inr ⟨hr, Or.inl ⟨rfl, rfl⟩⟩, hh⟩
  ·have hx : 0 ≤ x ∧ x ≤ 999999999999999999 := by
    obtain ⟨m, rfl, hm⟩ := fits_true (x := x) (by simpa [numsN] using hfx)
    omega
   exact (do_tick base bc nodes jobs wall last now v L w h hw hT hn hn' hwa ht ht' hl hbase x y hx.1 hx.2 hr).mono fun e w' ⟨o, h1, hh⟩ => ⟨o, Or.inr ⟨hr, Or.inr (Or.inl ⟨rfl, h1⟩)⟩, hh⟩
  ·by_cases hA : x < 1 ∨ (L.length : Int) < x
   ·exact (do_stat_no base bc nodes jobs wall last now v L w h hw hT hn hn' hwa ht ht' hl hbase x y hr hA).mono fun e w' hh => ⟨_, Or.inr ⟨hr, Or.inr (Or.inr (Or.inl ⟨rfl, hA, rfl⟩))⟩, hh⟩
   ·obtain ⟨i, rfl⟩ : ∃ i : Nat, x = (i : Int) + 1 := ⟨(x - 1).toNat, by omega⟩
    obtain ⟨j, hj⟩ : ∃ j, L[i]? = some j := ⟨_, List.getElem?_eq_getElem (by omega)⟩
    exact (do_stat_yes base bc nodes jobs wall last now v L w h hw hT hn hn' hwa ht ht' hl hbase i y hr j hj).mono fun e w' hh => ⟨_, Or.inr ⟨hr, Or.inr (Or.inr (Or.inr (Or.inl ⟨rfl, i, j, rfl, hj, rfl⟩)))⟩, hh⟩
  ·exact (do_queue base bc nodes jobs wall last now v L w h hw hT hn hn' hwa ht ht' hl hbase x y hr).mono fun e w' hh => ⟨_, Or.inr ⟨hr, Or.inr (Or.inr (Or.inr (Or.inr (Or.inl ⟨rfl, rfl⟩))))⟩, hh⟩
  ·exact (do_info base bc nodes jobs wall last now v L w h hw hT hn hn' hwa ht ht' hl hbase x y hr).mono fun e w' hh => ⟨_, Or.inr ⟨hr, Or.inr (Or.inr (Or.inr (Or.inr (Or.inr ⟨rfl, rfl⟩))))⟩, hh⟩

end Go.Proofs.YtpcgnadfldimhaaGreatDoor
namespace Go.Proofs.YtpcgnadfldimhaaGreatDoor

theorem Good.widths {nodes jobs wall last now : Int} {L : List Job} (h : Good nodes jobs wall last now L) : Widths L := fun j hj => ⟨(h.each j hj).1, by have := (h.each j hj).2.1; have := h.conf.2.1; omega⟩
theorem Good.times {nodes jobs wall last now : Int} {L : List Job} (h : Good nodes jobs wall last now L) : Times L := fun j hj => by
 obtain ⟨_, _, h1, h2, h3, _⟩ := h.each j hj
 obtain ⟨_, _, _, _, _, _, _, c⟩ := h.conf
 omega

/-- What Do answers (neither Cancel nor Done) leaves it true; and no list is longer than one job more. -/
theorem good_do {nodes jobs wall last now k x y : Int} {L : List Job} {o : Out} (h : Good nodes jobs wall last now L) (ho : DoO nodes jobs wall last now L k x y o) : Good nodes jobs wall last o.now o.L ∧ o.L.length ≤ L.length + 1 := by
 rcases ho with ⟨_, rfl⟩ | ⟨hr, ⟨_, rfl⟩ | ⟨rfl, ht⟩ | ⟨_, _, rfl⟩ | ⟨_, _, _, _, _, rfl⟩ | ⟨_, rfl⟩ | ⟨_, rfl⟩⟩
 ·exact ⟨h, Nat.le_succ _⟩
 ·refine ⟨good_submit h, ?_⟩
  unfold submitO
  split
  ·exact Nat.le_succ _
  split
  ·exact Nat.le_succ _
  split
  ·exact Nat.le_succ _
  simp
 ·have hx : 0 ≤ x := by
   simp only [rendOk, Bool.and_eq_true, decide_eq_true_eq] at hr
   obtain ⟨⟨_, hfx⟩, _⟩ := hr
   obtain ⟨m, rfl, hm⟩ := fits_true (x := x) (by simpa [numsN] using hfx)
   omega
  refine ⟨good_tick h hx ht, ?_⟩
  rcases ht with ⟨_, rfl⟩ | ⟨_, M, es, hg, _, rfl⟩
  ·exact Nat.le_succ _
  ·have := (goes_todo hg).2
   show M.length ≤ L.length + 1
   omega
 ·exact ⟨h, Nat.le_succ _⟩
 ·exact ⟨h, Nat.le_succ _⟩
 ·exact ⟨h, Nat.le_succ _⟩
 ·exact ⟨h, Nat.le_succ _⟩

end Go.Proofs.YtpcgnadfldimhaaGreatDoor
namespace Go.Proofs.YtpcgnadfldimhaaGreatDoor

/-- The rows by the seats are the rows by the jobs. -/
theorem rows_queueN (L : List Job) (h : ∀ j ∈ L, j.phase = 1 → j.start + j.wall = j.stop) : ∀ k, k ≤ L.length → rowsS L (seatsN L k) = queueN L k
 | 0, _ => rfl
 | k + 1, hk => by
  have ih := rows_queueN L h k (by omega)
  have e : L[k]? = some L[k] := List.getElem?_eq_getElem (by omega)
  have hm := h L[k] (List.getElem_mem _)
  generalize L[k] = j at *
  unfold seatsN queueN
  rw [e]
  simp only
  by_cases hl : j.live = true
  ·rw [if_pos hl]
   unfold rowsS at ih ⊢
   rw [List.filterMap_append, ih]
   simp only [List.filterMap_cons, List.filterMap_nil, recOf_at e]
   by_cases hp : j.phase = 1
   ·rw [if_pos hp, if_pos hp]
    have := hm hp
    have e2 : j.stop - j.start = j.wall := by omega
    simp [e2]
   ·rw [if_neg hp, if_neg hp]; simp
  ·rw [if_neg hl]
   have hp : ¬ j.phase = 1 := fun hp => hl (by simp [Job.live, liveB, hp])
   rw [if_neg hp]
   exact ih

theorem Good.rows {nodes jobs wall last now : Int} {L : List Job} (h : Good nodes jobs wall last now L) : rowsS L (seats L) = queueN L L.length :=
 rows_queueN L (fun j hj hp => (h.each j hj).2.2.2.2.2.2.2 (by simp [Job.live, liveB, hp])) L.length (Nat.le_refl _)

/-- The new job's promise lies below what numbers hold. -/
theorem Good.promise {nodes jobs wall last now x y : Int} {L : List Job} (h : Good nodes jobs wall last now L) (x1 : 1 ≤ x) (x2 : x ≤ nodes) (y1 : 1 ≤ y) (y2 : y ≤ wall) (hf : ¬ jobs ≤ (liveN L L.length : Int)) : now ≤ earliest L nodes now x y (-1) ∧ earliest L nodes now x y (-1) ≤ 5000000000000000000 := by
 have hg := good_submit (x := x) (y := y) h
 have hge := (earliest_ge L nodes now x y (-1) h.wide h.now0 y1 x2).1
 unfold submitO at hg
 rw [if_neg (by omega), if_neg (by omega), if_neg hf] at hg
 simp only at hg
 have hm := hg.each ((⟨x, y, 1, earliest L nodes now x y (-1), earliest L nodes now x y (-1) + y⟩ : Job).go now) (List.mem_map.2 ⟨_, List.mem_append.2 (Or.inr (List.mem_singleton.2 rfl)), rfl⟩)
 obtain ⟨g1, g2, _, _, _⟩ := go_same now (⟨x, y, 1, earliest L nodes now x y (-1), earliest L nodes now x y (-1) + y⟩ : Job)
 obtain ⟨_, _, _, _, _, _, _, c⟩ := h.conf
 rw [g1, g2] at hm
 obtain ⟨_, _, m1, m2, m3, _⟩ := hm
 simp only at m1 m2 m3
 exact ⟨hge, by omega⟩

/-- What Submit's run leaves is the document's. -/
theorem Good.submit {nodes jobs wall last now x y : Int} {L M : List Job} {es : List Ev} (h : Good nodes jobs wall last now L) (x1 : 1 ≤ x) (x2 : x ≤ nodes) (y1 : 1 ≤ y) (y2 : y ≤ wall) (hf : ¬ jobs ≤ (liveN L L.length : Int)) (hR : Runs now (L ++ [⟨x, y, 1, earliest L nodes now x y (-1), earliest L nodes now x y (-1) + y⟩]) es M) :
  submitO nodes jobs wall now L x y = ⟨0, (L.length : Int) + 1, earliest L nodes now x y (-1), 0, [], es, now, M⟩ := by
 have hp := (h.promise x1 x2 y1 y2 hf).1
 unfold submitO
 rw [if_neg (by omega), if_neg (by omega), if_neg hf]
 generalize earliest L nodes now x y (-1) = t at *
 have h0 := h.now0
 obtain ⟨rfl, rfl⟩ := runs_now (fun j hj hj1 => by
   rcases List.mem_append.1 hj with hj | hj
   ·exact Int.le_of_lt ((h.phased j hj).1 hj1)
   ·obtain rfl := List.mem_singleton.1 hj; exact hp) (fun j hj hj2 => by
   rcases List.mem_append.1 hj with hj | hj
   ·exact ((h.phased j hj).2 hj2).2
   ·obtain rfl := List.mem_singleton.1 hj; simp at hj2) (fun j hj ha => by
   rcases List.mem_append.1 hj with hj | hj
   ·exact h.sane j hj ha
   ·obtain rfl := List.mem_singleton.1 hj; simp only; omega) hR
 simp

theorem tick_runs {nodes jobs wall last now n : Int} {L M : List Job} {es : List Ev} (h : Good nodes jobs wall last now L) (hn : now + n ≤ last) (hR : Runs (now + n) L es M) : TickO last now L n ⟨0, 0, 0, 0, [], es, now + n, M⟩ := by
 obtain ⟨hg, h0⟩ := runs_goes h.sane hR
 exact Or.inr ⟨hn, M, es, hg, h0, rfl⟩

theorem tickO_unique {nodes jobs wall last now n : Int} {L : List Job} {o o' : Out} (h : Good nodes jobs wall last now L) (h1 : TickO last now L n o) (h2 : TickO last now L n o') : o = o' := by
 rcases h1 with ⟨a, rfl⟩ | ⟨a, M, es, hg, h0, rfl⟩
 ·rcases h2 with ⟨b, rfl⟩ | ⟨b, _⟩
  ·rfl
  ·omega
 ·rcases h2 with ⟨b, _⟩ | ⟨b, M', es', hg', h0', rfl⟩
  ·omega
  ·obtain ⟨rfl, rfl⟩ := Runs.unique (goes_runs hg h.sane h0) (goes_runs hg' h.sane h0')
   rfl

theorem doO_unique {nodes jobs wall last now k x y : Int} {L : List Job} {o o' : Out} (h : Good nodes jobs wall last now L) (h1 : DoO nodes jobs wall last now L k x y o) (h2 : DoO nodes jobs wall last now L k x y o') : o = o' := by
 rcases h1 with ⟨r, rfl⟩ | ⟨r, h1⟩
 ·rcases h2 with ⟨_, rfl⟩ | ⟨r2, _⟩
  ·rfl
  ·rw [r] at r2; simp at r2
 ·rcases h2 with ⟨r2, _⟩ | ⟨_, h2⟩
  ·rw [r] at r2; simp at r2
  rcases h1 with ⟨k1, rfl⟩ | ⟨k1, h1⟩ | ⟨k1, h1, rfl⟩ | ⟨k1, i, j, e1, e2, rfl⟩ | ⟨k1, rfl⟩ | ⟨k1, rfl⟩ <;> rcases h2 with ⟨k2, rfl⟩ | ⟨k2, h2⟩ | ⟨k2, h2, rfl⟩ | ⟨k2, i', j', e1', e2', rfl⟩ | ⟨k2, rfl⟩ | ⟨k2, rfl⟩ <;> first | rfl | omega | skip
  ·exact tickO_unique h h1 h2
  ·have := (List.getElem?_eq_some_iff.1 e2').1; omega
  ·have := (List.getElem?_eq_some_iff.1 e2).1; omega
  ·obtain rfl : i = i' := by omega
   obtain rfl := Option.some.inj (e2.symm.trans e2')
   rfl

/-- How long the lists of an answer can be. -/
theorem doO_small {nodes jobs wall last now k x y : Int} {L : List Job} {o : Out} (h1 : DoO nodes jobs wall last now L k x y o) (hl : L.length < 1000000000) : o.rows.length ≤ 1000000000 ∧ o.evs.length ≤ 1000000000000 := by
 rcases h1 with ⟨_, rfl⟩ | ⟨hr, ⟨_, rfl⟩ | ⟨rfl, ht⟩ | ⟨_, _, rfl⟩ | ⟨_, _, _, _, _, rfl⟩ | ⟨_, rfl⟩ | ⟨_, rfl⟩⟩
 ·simp
 ·unfold submitO
  split
  ·simp
  split
  ·simp
  split
  ·simp
  have := startE_len (L ++ [⟨x, y, 1, earliest L nodes now x y (-1), earliest L nodes now x y (-1) + y⟩]) now (L.length + 1)
  simp
  omega
 ·rcases ht with ⟨_, rfl⟩ | ⟨_, M, es, hg, _, rfl⟩
  ·simp
  ·have := (goes_todo hg).1
   have := todo_le L
   simp
   omega
 ·simp
 ·simp
 ·have := queueN_len L L.length
  simp
  omega
 ·simp

end Go.Proofs.YtpcgnadfldimhaaGreatDoor
