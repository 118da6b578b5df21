/-
 The program's cluster: which jobs are refused.
-/
import Derived.Test.YtpcgnadfldimhaaGreatDoorCluF
import Derived.Test.YtpcgnadfldimhaaGreatDoorMemG
import Derived.Test.YtpcgnadfldimhaaGreatDoorShape
import Derived.Test.YtpcgnadfldimhaaGreatDoorSchA
namespace Go.Proofs.YtpcgnadfldimhaaGreatDoor
open Go.RowKit

theorem belowN {B : Nat} {a w : World} (h : Below B a w) (n : Nat) : Below B a (w.drewN n) := h.trans ⟨rfl, rfl, rfl, Nat.le_refl _, fun _ _ => rfl⟩
/-- A ValueError at block vb around the sentinel at p. -/
def ValE (w : World) (vb : Nat) (p : Addr) : Prop := w.cell? ⟨vb, 2, none⟩ = some (.iface 315 (.pointer (some p)))

set_option maxHeartbeats 2000000 in
set_option maxRecDepth 100000 in
theorem checkJob_w (base bi : Nat) (nodes jobs wall last now : Int) (vr vl vh : Value) (R : List Job) (S : List (Int × Int)) (E : List Ev) (w : World) (h : Cl base bi nodes jobs wall last now vr vl vh R S E w) (a p1 p2 p3 p4 p5 : Addr) (hA : Asks a p1 p2 p3 p4 p5 w) (width wl : Int) (hw : width < 1 ∨ nodes < width) :
  Calls Tryz.prog 90 #[.pointer (some ⟨bi, 0, none⟩), .int .i64 width, .int .i64 wl] w fun e w' => ∃ vb, e = .returned (.iface 178 (.pointer (some ⟨vb, 0, none⟩))) ∧ ValE w' vb p1 ∧ Below w.heap.size w w' := by
 have c0 := h.cell 0
 simp at c0
 have s1 := hA.s1.cell
 have hlt := h.hp.lt
 clear h hA
 by_cases h1 : width < 1
 ·go_enter Tryz.func90, Tryz.ntmps90
  go_wp2
  go_ret
  exact ⟨w.heap.size, rfl, by unfold ValE; simp, (Below.refl _ _).alloc (Nat.le_refl _) _⟩
 ·have h2 : nodes < width := by omega
  go_enter Tryz.func90, Tryz.ntmps90
  go_wp2
  go_ret
  exact ⟨w.heap.size, rfl, by unfold ValE; simp, (Below.refl _ _).alloc (Nat.le_refl _) _⟩

set_option maxHeartbeats 2000000 in
set_option maxRecDepth 100000 in
theorem checkJob_l (base bi : Nat) (nodes jobs wall last now : Int) (vr vl vh : Value) (R : List Job) (S : List (Int × Int)) (E : List Ev) (w : World) (h : Cl base bi nodes jobs wall last now vr vl vh R S E w) (a p1 p2 p3 p4 p5 : Addr) (hA : Asks a p1 p2 p3 p4 p5 w) (width wl : Int) (hw1 : 1 ≤ width) (hw2 : width ≤ nodes) (hl : wl < 1 ∨ wall < wl) :
  Calls Tryz.prog 90 #[.pointer (some ⟨bi, 0, none⟩), .int .i64 width, .int .i64 wl] w fun e w' => ∃ vb, e = .returned (.iface 178 (.pointer (some ⟨vb, 0, none⟩))) ∧ ValE w' vb p2 ∧ Below w.heap.size w w' := by
 have c0 := h.cell 0
 have c2 := h.cell 2
 simp at c0 c2
 have s2 := hA.s2.cell
 have hlt := h.hp.lt
 clear h hA
 by_cases h1 : wl < 1
 ·go_enter Tryz.func90, Tryz.ntmps90
  go_wp2
  go_ret
  exact ⟨w.heap.size, rfl, by unfold ValE; simp, (Below.refl _ _).alloc (Nat.le_refl _) _⟩
 ·have h2 : wall < wl := by omega
  go_enter Tryz.func90, Tryz.ntmps90
  go_wp2
  go_ret
  exact ⟨w.heap.size, rfl, by unfold ValE; simp, (Below.refl _ _).alloc (Nat.le_refl _) _⟩

set_option maxHeartbeats 2000000 in
set_option maxRecDepth 100000 in
theorem checkJob_f (base bi : Nat) (nodes jobs wall last now : Int) (vr vl vh : Value) (R : List Job) (S : List (Int × Int)) (E : List Ev) (w : World) (h : Cl base bi nodes jobs wall last now vr vl vh R S E w) (a p1 p2 p3 p4 p5 : Addr) (hA : Asks a p1 p2 p3 p4 p5 w) (width wl : Int) (hw1 : 1 ≤ width) (hw2 : width ≤ nodes) (hl1 : 1 ≤ wl) (hl2 : wl ≤ wall) (hf : jobs ≤ (S.length : Int)) :
  Calls Tryz.prog 90 #[.pointer (some ⟨bi, 0, none⟩), .int .i64 width, .int .i64 wl] w fun e w' => ∃ vb, e = .returned (.iface 178 (.pointer (some ⟨vb, 0, none⟩))) ∧ ValE w' vb p3 ∧ Below w.heap.size w w' := by
 obtain ⟨pl, cl, rfl⟩ := own_slice h.liv
 have c0 := h.cell 0
 have c1 := h.cell 1
 have c2 := h.cell 2
 have c6 := h.cell 6
 simp at c0 c1 c2 c6
 have s3 := hA.s3.cell
 have hlt := h.hp.lt
 clear h hA
 go_enter Tryz.func90, Tryz.ntmps90
 go_wp2
 go_quiet (fail)
 go_wp2
 go_region
 all_goals
  go_wp2
  go_ret
  exact ⟨w.heap.size, rfl, (cell_of_row _ _ 2 _ _ (0, 0) (alloc_at _ _ w.heap.size rfl)).trans rfl, (belowN (Below.refl w.heap.size w) _).alloc (Nat.le_refl _) _⟩

set_option maxHeartbeats 2000000 in
set_option maxRecDepth 100000 in
theorem checkJob_ok (base bi : Nat) (nodes jobs wall last now : Int) (vr vl vh : Value) (R : List Job) (S : List (Int × Int)) (E : List Ev) (w : World) (h : Cl base bi nodes jobs wall last now vr vl vh R S E w) (width wl : Int) (hw1 : 1 ≤ width) (hw2 : width ≤ nodes) (hl1 : 1 ≤ wl) (hl2 : wl ≤ wall) (hf : ¬ jobs ≤ (S.length : Int)) :
  Calls Tryz.prog 90 #[.pointer (some ⟨bi, 0, none⟩), .int .i64 width, .int .i64 wl] w fun e w' => e = .returned .nilIface ∧ Below w.heap.size w w' := by
 obtain ⟨pl, cl, rfl⟩ := own_slice h.liv
 have c0 := h.cell 0
 have c1 := h.cell 1
 have c2 := h.cell 2
 have c6 := h.cell 6
 simp at c0 c1 c2 c6
 have hlt := h.hp.lt
 have hf' : (S.length : Int) < jobs := by omega
 clear h hf
 go_enter Tryz.func90, Tryz.ntmps90
 go_wp2
 go_quiet (fail)
 go_wp2
 go_ret
 exact ⟨rfl, belowN (Below.refl w.heap.size w) _⟩

end Go.Proofs.YtpcgnadfldimhaaGreatDoor
namespace Go.Proofs.YtpcgnadfldimhaaGreatDoor
open Go.RowKit

abbrev noughts6 : Array Value := #[.int .i64 0, .int .i64 0, .int .i64 0, .int .i64 0, .slice none 0 0, .slice none 0 0]

/-- A reply, stored into its block. -/
abbrev putR (w : World) (g : Nat) (x0 x1 x2 x3 x4 x5 : Value) : World := (((((w.setCell ⟨g, 0, none⟩ x0).setCell ⟨g, 1, none⟩ x1).setCell ⟨g, 2, none⟩ x2).setCell ⟨g, 3, none⟩ x3).setCell ⟨g, 4, none⟩ x4).setCell ⟨g, 5, none⟩ x5
theorem putR_block {u : World} {g : Nat} {y0 y1 y2 y3 y4 y5 : Value} {t : TypeId} (h : u.heap[g]? = some (.cells #[y0, y1, y2, y3, y4, y5] t (0, 0))) (x0 x1 x2 x3 x4 x5 : Value) : (putR u g x0 x1 x2 x3 x4 x5).heap[g]? = some (.cells #[x0, x1, x2, x3, x4, x5] t (0, 0)) :=
 heap_setCell_same _ _ 5 _ _ _ (heap_setCell_same _ _ 4 _ _ _ (heap_setCell_same _ _ 3 _ _ _ (heap_setCell_same _ _ 2 _ _ _ (heap_setCell_same _ _ 1 _ _ _ (heap_setCell_same _ _ 0 _ _ _ h)))))
theorem Kept.putR {S : Nat → Prop} {w u : World} (h : Kept S w u) {g : Nat} (hg : S g ∨ w.heap.size ≤ g) (x0 x1 x2 x3 x4 x5 : Value) : Kept S w (putR u g x0 x1 x2 x3 x4 x5) :=
 (((((h.setCell (p := ⟨g, 0, none⟩) hg _).setCell (p := ⟨g, 1, none⟩) hg _).setCell (p := ⟨g, 2, none⟩) hg _).setCell (p := ⟨g, 3, none⟩) hg _).setCell (p := ⟨g, 4, none⟩) hg _).setCell (p := ⟨g, 5, none⟩) hg _
theorem putR_size (u : World) (g : Nat) (x0 x1 x2 x3 x4 x5 : Value) : (putR u g x0 x1 x2 x3 x4 x5).heap.size = u.heap.size := by simp

/-- Results: a reply in its cells, and a slot. -/
theorem results_reply {fn : Func} {p u : Tmp} (h : fn.results = #[.cell p 34, .tmp u]) (tmps : Array Value) (w : World) (g : Nat) (x0 x1 x2 x3 x4 x5 : Value) (hp : tmps.getD p undef = .pointer (some ⟨g, 0, none⟩)) (hg : w.heap[g]? = some (.cells #[x0, x1, x2, x3, x4, x5] 34 (0, 0))) :
  (results fn tmps).run Tryz.prog w = .ok (.tuple #[.agg #[x0, x1, x2, x3, x4, x5], tmps.getD u undef]) w := by
 have hl := run_loadVar_row (P := Tryz.prog) w g 34 34 #[x0, x1, x2, x3, x4, x5] (0, 0) _ hg Tryz.underlying34 rfl (by kernel_rfl)
 rw [results_cell_tmp h]
 simp only [hp, asAddr, Sem.run_pure, Result.andThen_ok, hl]

/-- A refusal: the reply is empty, a CallError is laid around the ValueError. -/
theorem refuse_end {w w1 : World} {vb : Nat} {p : Addr} (s : Value) (hq : w1.heap[w.heap.size]? = some (.cells noughts6 34 (0, 0))) (hv : ValE w1 vb p) (hb : Below w.heap.size w w1) :
  ((putR w1 w.heap.size (.int .i64 0) (.int .i64 0) (.int .i64 0) (.int .i64 0) (.slice none 0 0) (.slice none 0 0)).alloc (.cells #[s, .iface 178 (.pointer (some ⟨vb, 0, none⟩))] 162)).heap[w.heap.size]? = some (.cells noughts6 34 (0, 0)) ∧
  RefV ((putR w1 w.heap.size (.int .i64 0) (.int .i64 0) (.int .i64 0) (.int .i64 0) (.slice none 0 0) (.slice none 0 0)).alloc (.cells #[s, .iface 178 (.pointer (some ⟨vb, 0, none⟩))] 162)) w1.heap.size p ∧
  Below w.heap.size w ((putR w1 w.heap.size (.int .i64 0) (.int .i64 0) (.int .i64 0) (.int .i64 0) (.slice none 0 0) (.slice none 0 0)).alloc (.cells #[s, .iface 178 (.pointer (some ⟨vb, 0, none⟩))] 162)) := by
 have hs1 : w.heap.size < w1.heap.size := (Array.getElem?_eq_some_iff.1 hq).1
 have hvb : vb ≠ w.heap.size := fun e => by
  have q2 := cell_of_row _ _ 2 _ _ (0, 0) hq
  unfold ValE at hv
  rw [e, q2] at hv
  simp at hv
 have hvl : vb < w1.heap.size := block_lt_of_cell (a := ⟨vb, 2, none⟩) hv
 have hK6 := (Kept.refl (fun k => k = w.heap.size) w1).putR (g := w.heap.size) (Or.inl rfl) (.int .i64 0) (.int .i64 0) (.int .i64 0) (.int .i64 0) (.slice none 0 0) (.slice none 0 0)
 have hb6 := putR_block hq (.int .i64 0) (.int .i64 0) (.int .i64 0) (.int .i64 0) (.slice none 0 0) (.slice none 0 0)
 have hz6 := putR_size w1 w.heap.size (.int .i64 0) (.int .i64 0) (.int .i64 0) (.int .i64 0) (.slice none 0 0) (.slice none 0 0)
 generalize putR w1 w.heap.size (.int .i64 0) (.int .i64 0) (.int .i64 0) (.int .i64 0) (.slice none 0 0) (.slice none 0 0) = W6 at *
 refine ⟨(Below.heap_alloc _ _ _ (by omega)).trans hb6, ⟨vb, ?_, ?_⟩, ?_⟩
 ·have := cell_of_row _ _ 1 _ _ (0, 0) (alloc_at W6 (.cells #[s, .iface 178 (.pointer (some ⟨vb, 0, none⟩))] 162) w1.heap.size hz6)
  simpa using this
 ·refine cellUp ?_ _
  rw [World.cell?_of_block (hK6.block vb hvl hvb)]
  exact hv
 ·exact ((Kept.of_below (S := fun k => w.heap.size ≤ k) hb).trans hK6 (fun k e => Or.inr (by omega))).alloc _ |>.below (Nat.le_refl _) (fun k e => e)

set_option maxHeartbeats 1000000 in
set_option maxRecDepth 100000 in
theorem submitC_no (bi : Nat) (w : World) (p : Addr) (width wl : Int)
  (hK : ∀ w1, Below w.heap.size w w1 → Calls Tryz.prog 90 #[.pointer (some ⟨bi, 0, none⟩), .int .i64 width, .int .i64 wl] w1 fun e w' => ∃ vb, e = .returned (.iface 178 (.pointer (some ⟨vb, 0, none⟩))) ∧ ValE w' vb p ∧ Below w1.heap.size w1 w') :
  Calls Tryz.prog 53 #[.pointer (some ⟨bi, 0, none⟩), .int .i64 width, .int .i64 wl] w fun e w' => ∃ pa, e = .returned (.tuple #[.agg noughts6, .iface 160 (.pointer (some ⟨pa, 0, none⟩))]) ∧ RefV w' pa p ∧ Below w.heap.size w w' := by
 have hB : ∀ o, Below w.heap.size w (w.alloc o) := fun o => (Below.refl _ _).alloc (Nat.le_refl _) o
 have HK := Lib.hid hK
 clear hK
 go_enter Tryz.func53, Tryz.ntmps53
 go_wp2_with (go_at_call 90; refine (HK.out _ (hB _)).mono ?_; rintro e w1 ⟨vb, rfl, hv, hb1⟩; refine Hid.out ?_)
 refine Lib.hid ?_
 have hq : w1.heap[w.heap.size]? = some (.cells noughts6 34 (0, 0)) := (hb1.block _ (by simp)).trans (heap_alloc_new w _)
 have hs1 : w.heap.size < w1.heap.size := (Array.getElem?_eq_some_iff.1 hq).1
 have q0 := cell_of_row _ _ 0 _ _ (0, 0) hq
 have q1 := cell_of_row _ _ 1 _ _ (0, 0) hq
 have q2 := cell_of_row _ _ 2 _ _ (0, 0) hq
 have q3 := cell_of_row _ _ 3 _ _ (0, 0) hq
 have q4 := cell_of_row _ _ 4 _ _ (0, 0) hq
 have q5 := cell_of_row _ _ 5 _ _ (0, 0) hq
 have qf := fun j => frozen_of_row _ _ j _ _ hq
 simp at q0 q1 q2 q3 q4 q5
 have HE := Lib.hid (fun s => refuse_end s hq hv ((hB _).trans (hb1.mono (by simp))))
 clear hq hv hb1 hB
 go_wp2
 refine bodyPost_ret (v := .tuple #[.agg noughts6, .iface 160 (.pointer (some ⟨w1.heap.size, 0, none⟩))]) (results_reply Tryz.results53 _ _ w.heap.size _ _ _ _ _ _ rfl (HE.out _).1) rfl ?_
 exact ⟨w1.heap.size, rfl, (HE.out _).2⟩

end Go.Proofs.YtpcgnadfldimhaaGreatDoor
namespace Go.Proofs.YtpcgnadfldimhaaGreatDoor
open Go.RowKit

/-- What a call of the cluster leaves: the reply's events x, owned, none of the cluster's own blocks; the cluster. -/
structure CluLeft (base bi : Nat) (nodes jobs wall last now : Int) (vr vl vh : Value) (M : List Job) (es : List Ev) (x : Value) (w w' : World) : Prop where
 own : w'.ownsRow w.heap.size 55 4 x es.length (gfl Ev.four es)
 clu : ∃ vr' vl' vh' E', Clu base bi nodes jobs wall last now vr' vl' vh' M E' w' ∧ Trail bi vr vl vh vr' vl' vh' w w' ∧ ∀ k, x.ownBlock = some k → ¬ clB bi vr' vl' vh' k

theorem Due.app {L : List Job} {E F : List Ev} {width wl st en : Int} (h : Due L E) (hp : F.Perm (E ++ [⟨1, (L.length : Int) + 1, st, 0⟩])) : Due (L ++ [⟨width, wl, 1, st, en⟩]) F := by
 have d := h.add (b := ⟨width, wl, 1, st, en⟩) (Or.inl rfl)
 have e : (⟨width, wl, 1, st, en⟩ : Job).event L.length = ⟨1, (L.length : Int) + 1, st, 0⟩ := by simp [Job.event, Job.due]
 rw [e] at d
 exact d.perm hp

/-- Behind what happens, and the reply's store into its own block. -/
theorem cluLeft_end {base bi : Nat} {fin nodes jobs wall last now : Int} {vr vl vh vr4 vl4 vh4 vl5 vh5 x : Value} {L M : List Job} {es E : List Ev} {w w4 w5 : World} (h : Hap base bi fin nodes jobs wall last now vr4 vl4 vh4 L w4 vl5 vh5 x M es E w5) (hT : Trail bi vr vl vh vr4 vl4 vh4 w w4) (hs : w.heap.size < w4.heap.size) (hn : ¬ clB bi vr4 vl4 vh4 w.heap.size) (x0 x1 x2 x3 x4 x5 : Value) : CluLeft base bi nodes jobs wall last now vr vl vh M es x w (putR w5 w.heap.size x0 x1 x2 x3 x4 x5) := by
 have hK := (Kept.refl (fun k => k = w.heap.size) w5).putR (g := w.heap.size) (Or.inl rfl) x0 x1 x2 x3 x4 x5
 have hs5 := h.trail.kept.size
 have hn5 : ¬ clB bi vr4 vl5 vh5 w.heap.size := fun e => by
  rcases h.trail.new _ e with e | e
  ·exact hn e
  ·omega
 generalize putR w5 w.heap.size x0 x1 x2 x3 x4 x5 = W at *
 have hTT := hT.trans h.trail
 refine ⟨owns_on (owns_mono h.own (by omega)) (fun k e => hK.block k (h.own.lt k e).2 (fun e2 => by have := (h.own.lt k e).1; omega)), vr4, vl5, vh5, E, ⟨h.clu.cl.kept hK (fun k e => e ▸ hn5), h.clu.due, h.clu.heap, h.clu.few⟩, ⟨hTT.kept.trans hK (fun k e => Or.inr (by omega)), hTT.new⟩, h.apart⟩

set_option maxHeartbeats 1000000 in
set_option maxRecDepth 100000 in
theorem submitC_yes (base bi : Nat) (nodes jobs wall last now : Int) (vr vl vh : Value) (L : List Job) (E : List Ev) (w : World) (h : Clu base bi nodes jobs wall last now vr vl vh L E w) (hbase : base ≤ w.heap.size) (hL : L.length < 1000000000) (hW : ∀ j ∈ L, 1 ≤ j.width ∧ j.width ≤ 64) (hS : ∀ j ∈ L, j.stop ≤ 5000000000000000000) (hn : nodes ≤ 64) (hwa : wall ≤ 1000000000) (t0 : 0 ≤ now) (t1 : now ≤ 5000000000000000000) (width wl : Int) (w1' : 1 ≤ width) (w2' : width ≤ nodes) (w3' : 1 ≤ wl) (w4' : wl ≤ wall) (hf : ¬ jobs ≤ (liveN L L.length : Int)) (t : Int) (HT : Hid (earliest L nodes now width wl (-1) = t)) (ht : t ≤ 5000000000000000000) (ht0 : 0 ≤ t) :
  Calls Tryz.prog 53 #[.pointer (some ⟨bi, 0, none⟩), .int .i64 width, .int .i64 wl] w fun e w' => ∃ x M es, e = .returned (.tuple #[.agg #[.int .i64 0, .int .i64 ((L.length : Int) + 1), .int .i64 t, .int .i64 0, .slice none 0 0, x], .nilIface]) ∧ Runs now (L ++ [⟨width, wl, 1, t, t + wl⟩]) es M ∧ CluLeft base bi nodes jobs wall last now vr vl vh M es x w w' := by
 have hSl : (seats L).length = liveN L L.length := seatsN_len L L.length
 have hEl := h.few
 have hSe : (seats L).length ≤ L.length := by rw [hSl]; exact liveN_le L L.length
 have hRl := resS_len L (-1) (seats L)
 rw [show resS L (-1) (seats L) = resN L (-1) L.length from resS_seats L (-1) L.length] at hRl
 have HK := Lib.hid (fun (w1 : World) (hb : Below w.heap.size w w1) => checkJob_ok base bi nodes jobs wall last now vr vl vh L (seats L) E w1 (h.cl.below hb) width wl w1' w2' w3' w4' (by rw [hSl]; exact hf))
 have HP := Lib.hid (fun (w1 : World) (hb : Below w.heap.size w w1) => plan_any base bi nodes jobs wall last now vr vl vh L E w1 (h.cl.below hb) (-1))
 have HH := Lib.hid h
 have hlt := h.cl.hp.lt
 clear h
 go_enter Tryz.func53, Tryz.ntmps53
 have hB : ∀ o, Below w.heap.size w (w.alloc o) := fun o => (Below.refl _ _).alloc (Nat.le_refl _) o
 go_wp2_with (go_at_call 90; refine (HK.out _ (hB _)).mono ?_; rintro e w1 ⟨rfl, hb1⟩; refine Hid.out ?_)
 refine Lib.hid ?_
 have hq : w1.heap[w.heap.size]? = some (.cells noughts6 34 (0, 0)) := (hb1.block _ (by simp)).trans (heap_alloc_new w _)
 have hbw : Below w.heap.size w w1 := (hB _).trans (hb1.mono (by simp))
 have c4 := (HH.out.cl.below hbw).cell 4
 simp at c4
 have HQ := Lib.hid hq
 have HBW := Lib.hid hbw
 have hs1 : w.heap.size < w1.heap.size := (Array.getElem?_eq_some_iff.1 hq).1
 have hlt1 : bi < w1.heap.size := by omega
 clear hb1 hq hbw hB HK
 go_wp2
 go_region_with (first | (go_at_call 91; refine (HP.out _ (HBW.out.drew)).mono ?_; rintro e w2 ⟨pp, cp, rfl, hlaid, hb2⟩; have c4' := (hb2.cell (p := ⟨bi, 4, none⟩) hlt1).trans c4; have HL2 := Lib.hid hlaid; have HB2 := Lib.hid hb2; clear hlaid hb2) | (go_at_call 92; refine (pearliest_any L (-1) nodes width wl now pp cp _ HL2.out hW hS (by omega) (by omega) w2' hn w3' (by omega) t0 t1).mono ?_; rintro e w3 ⟨rfl, hb3⟩; rw [HT.out]; have HB3 := Lib.hid hb3; clear hb3))
 all_goals
  have hb3w : Below w.heap.size w w3 := ((HBW.out.drew).trans (HB2.out.mono HBW.out.size)).trans (HB3.out.mono (Nat.le_trans HBW.out.size HB2.out.size))
  have hs3 := hb3w.size
  have hq3 : w3.heap[w.heap.size]? = some (.cells noughts6 34 (0, 0)) := (HB3.out.block _ (Nat.lt_of_lt_of_le hs1 HB2.out.size)).trans ((HB2.out.block _ hs1).trans HQ.out)
  have hs3' : w.heap.size < w3.heap.size := (Array.getElem?_eq_some_iff.1 hq3).1
  have hC3 := HH.out.cl.below hb3w
  have hA := add_any base bi nodes jobs wall last now vr vl vh L (seats L) E w3 hC3 (by omega) hL (by omega) (by omega) (fun e he => HH.out.due.ok e he) HH.out.heap width wl t (t + wl)
  have HB3w := Lib.hid hb3w
  have HQ3 := Lib.hid hq3
  have hnB : Hid (¬ clB bi vr vl vh w.heap.size) := Lib.hid (fun e => by have := HH.out.cl.lt _ e; omega)
  clear hb3w hq3 hC3 c4 HP HB2 HB3 HBW HQ
  try clear c4'
  go_wp2_with (go_at_call 93; refine hA.mono ?_; rintro e w4 ⟨rfl, vr4, vl4, vh4, F, hpF, hhF, hC4, hT4⟩; refine Hid.out ?_)
  refine Lib.hid ?_
  have hFl : F.length = E.length + 1 := by rw [hpF.length_eq]; simp
  have hClu4 : Clu base bi nodes jobs wall last now vr4 vl4 vh4 (L ++ [⟨width, wl, 1, t, t + wl⟩]) F w4 := ⟨by rw [seats_add L ⟨width, wl, 1, t, t + wl⟩ (by simp [Job.live, liveB])]; exact hC4, HH.out.due.app hpF, hhF, by simp; omega⟩
  have hN := happen_any base bi now nodes jobs wall last now vr4 vl4 vh4 _ F w4 hClu4 (by have := hT4.kept.size; omega)
  have c44 := hC4.cell 4
  simp at c44
  have hlt4 := hC4.hp.lt
  have hq4 := (hT4.kept.block w.heap.size hs3' hnB.out).trans HQ3.out
  have hnB4 : Hid (¬ clB bi vr4 vl4 vh4 w.heap.size) := Lib.hid (fun e => by rcases hT4.new _ e with e | e; exact hnB.out e; omega)
  have HT4 := Lib.hid hT4
  have HQ4 := Lib.hid hq4
  have hs4 : w.heap.size < w4.heap.size := (Array.getElem?_eq_some_iff.1 hq4).1
  clear hA hC4 hT4 hq4 hClu4
  go_wp2_with (go_at_call 94; refine hN.mono ?_; rintro e w5 ⟨x, M, es, E', vl5, vh5, rfl, hRun, hHap⟩; obtain ⟨px, cx, rfl⟩ := own_slice hHap.own; refine Hid.out ?_)
  refine Lib.hid ?_
  clear hN c44
  have hq5 := (hHap.trail.kept.block w.heap.size hs4 hnB4.out).trans HQ4.out
  have q0 := cell_of_row _ _ 0 _ _ (0, 0) hq5
  have q1 := cell_of_row _ _ 1 _ _ (0, 0) hq5
  have q2 := cell_of_row _ _ 2 _ _ (0, 0) hq5
  have q3 := cell_of_row _ _ 3 _ _ (0, 0) hq5
  have q4 := cell_of_row _ _ 4 _ _ (0, 0) hq5
  have q5 := cell_of_row _ _ 5 _ _ (0, 0) hq5
  have qf := fun j => frozen_of_row _ _ j _ _ hq5
  simp at q0 q1 q2 q3 q4 q5
  have HQ5 := Lib.hid hq5
  have HHap := Lib.hid hHap
  have HRun := Lib.hid hRun
  clear hq5 hHap hRun
  go_wp2
  have hb6 := putR_block HQ5.out (.int .i64 0) (.int .i64 ((L.length : Int) + 1)) (.int .i64 t) (.int .i64 0) (.slice none 0 0) (.slice px es.length cx)
  refine bodyPost_ret (v := .tuple #[.agg #[.int .i64 0, .int .i64 ((L.length : Int) + 1), .int .i64 t, .int .i64 0, .slice none 0 0, .slice px es.length cx], .nilIface]) (results_reply Tryz.results53 _ _ w.heap.size _ _ _ _ _ _ rfl hb6) rfl ?_
  refine ⟨_, M, es, rfl, HRun.out, cluLeft_end HHap.out ((Trail.ofBelow HB3w.out).trans HT4.out) hs4 hnB4.out _ _ _ _ _ _⟩

end Go.Proofs.YtpcgnadfldimhaaGreatDoor
namespace Go.Proofs.YtpcgnadfldimhaaGreatDoor
open Go.RowKit

theorem there_block {X : World} {g : Nat} {cs : Array Value} {t : TypeId} (h : X.heap[g]? = some (.cells cs t (0, 0))) : X.there g 0 cs.size := fun j hj => by
 rw [Nat.zero_add, cell_of_row _ _ j _ _ (0, 0) h]
 exact ⟨by simp [hj], frozen_of_row _ _ j _ _ h⟩
/-- A refusal in memory, and the empty reply stored into its own block. -/
theorem refuse_put {w X : World} {pa : Nat} {p : Addr} (hq : X.heap[w.heap.size]? = some (.cells noughts6 34 (0, 0))) (hR : RefV X pa p) (hb : Below w.heap.size w X) :
  (X.setCells w.heap.size 0 noughts6.toList).heap[w.heap.size]? = some (.cells noughts6 34 (0, 0)) ∧ RefV (X.setCells w.heap.size 0 noughts6.toList) pa p ∧ Below w.heap.size w (X.setCells w.heap.size 0 noughts6.toList) := by
 have hs1 : w.heap.size < X.heap.size := (Array.getElem?_eq_some_iff.1 hq).1
 have hK6 := (Kept.refl (fun k => k = w.heap.size) X).putR (g := w.heap.size) (Or.inl rfl) (.int .i64 0) (.int .i64 0) (.int .i64 0) (.int .i64 0) (.slice none 0 0) (.slice none 0 0)
 have hb6 := putR_block hq (.int .i64 0) (.int .i64 0) (.int .i64 0) (.int .i64 0) (.slice none 0 0) (.slice none 0 0)
 obtain ⟨pb, h1, h2⟩ := hR
 have q1 := cell_of_row _ _ 1 _ _ (0, 0) hq
 have q2 := cell_of_row _ _ 2 _ _ (0, 0) hq
 have n1 : pa ≠ w.heap.size := fun e => by rw [e, q1] at h1; simp at h1
 have n2 : pb ≠ w.heap.size := fun e => by rw [e, q2] at h2; simp at h2
 have e : X.setCells w.heap.size 0 noughts6.toList = putR X w.heap.size (.int .i64 0) (.int .i64 0) (.int .i64 0) (.int .i64 0) (.slice none 0 0) (.slice none 0 0) := rfl
 rw [e]
 generalize putR X w.heap.size (.int .i64 0) (.int .i64 0) (.int .i64 0) (.int .i64 0) (.slice none 0 0) (.slice none 0 0) = W6 at *
 refine ⟨hb6, ⟨pb, ?_, ?_⟩, ((Kept.of_below (S := fun k => w.heap.size ≤ k) hb).trans hK6 (fun k e => Or.inr (by omega))).below (Nat.le_refl _) (fun k e => e)⟩
 ·rw [World.cell?_of_block (hK6.block pa (block_lt_of_cell (a := ⟨pa, 1, none⟩) h1) n1)]; exact h1
 ·rw [World.cell?_of_block (hK6.block pb (block_lt_of_cell (a := ⟨pb, 2, none⟩) h2) n2)]; exact h2
theorem refuse_putJ {w X : World} {pa : Nat} (hq : X.heap[w.heap.size]? = some (.cells noughts6 34 (0, 0))) (hR : RefJ X pa) (hb : Below w.heap.size w X) :
  (X.setCells w.heap.size 0 noughts6.toList).heap[w.heap.size]? = some (.cells noughts6 34 (0, 0)) ∧ RefJ (X.setCells w.heap.size 0 noughts6.toList) pa ∧ Below w.heap.size w (X.setCells w.heap.size 0 noughts6.toList) := by
 have hs1 : w.heap.size < X.heap.size := (Array.getElem?_eq_some_iff.1 hq).1
 have hK6 := (Kept.refl (fun k => k = w.heap.size) X).putR (g := w.heap.size) (Or.inl rfl) (.int .i64 0) (.int .i64 0) (.int .i64 0) (.int .i64 0) (.slice none 0 0) (.slice none 0 0)
 have hb6 := putR_block hq (.int .i64 0) (.int .i64 0) (.int .i64 0) (.int .i64 0) (.slice none 0 0) (.slice none 0 0)
 obtain ⟨c, h1⟩ := hR
 have q1 := cell_of_row _ _ 1 _ _ (0, 0) hq
 have n1 : pa ≠ w.heap.size := fun e => by rw [e, q1] at h1; simp at h1
 have e : X.setCells w.heap.size 0 noughts6.toList = putR X w.heap.size (.int .i64 0) (.int .i64 0) (.int .i64 0) (.int .i64 0) (.slice none 0 0) (.slice none 0 0) := rfl
 rw [e]
 generalize putR X w.heap.size (.int .i64 0) (.int .i64 0) (.int .i64 0) (.int .i64 0) (.slice none 0 0) (.slice none 0 0) = W6 at *
 refine ⟨hb6, ⟨c, ?_⟩, ((Kept.of_below (S := fun k => w.heap.size ≤ k) hb).trans hK6 (fun k e => Or.inr (by omega))).below (Nat.le_refl _) (fun k e => e)⟩
 rw [World.cell?_of_block (hK6.block pa (block_lt_of_cell (a := ⟨pa, 1, none⟩) h1) n1)]; exact h1

theorem refv_alloc {W1 : World} (s1 x s2 : Value) (p : Addr) : RefV ((W1.alloc (.cells #[s1, x, .iface 315 (.pointer (some p))] 180)).alloc (.cells #[s2, .iface 178 (.pointer (some ⟨W1.heap.size, 0, none⟩))] 162)) (W1.heap.size + 1) p := by
 refine ⟨W1.heap.size, ?_, ?_⟩
 ·exact (cell_of_row _ _ 1 _ _ (0, 0) (alloc_at (W1.alloc (.cells #[s1, x, .iface 315 (.pointer (some p))] 180)) (.cells #[s2, .iface 178 (.pointer (some ⟨W1.heap.size, 0, none⟩))] 162) (W1.heap.size + 1) (by simp))).trans rfl
 ·refine cellUp ?_ _
  exact (cell_of_row _ _ 2 _ _ (0, 0) (alloc_at W1 (.cells #[s1, x, .iface 315 (.pointer (some p))] 180) W1.heap.size rfl)).trans rfl

/-- The time goes on. -/
theorem Clu.tick {base bi : Nat} {nodes jobs wall last now : Int} {vr vl vh : Value} {L : List Job} {E : List Ev} {w : World} (h : Clu base bi nodes jobs wall last now vr vl vh L E w) (t : Int) : Clu base bi nodes jobs wall last t vr vl vh L E (w.setCell ⟨bi, 4, none⟩ (.int .i64 t)) ∧ Trail bi vr vl vh vr vl vh w (w.setCell ⟨bi, 4, none⟩ (.int .i64 t)) := by
 obtain ⟨nr, nl, nh⟩ := h.cl.blocks
 exact ⟨⟨⟨⟨heap_setCell_same w bi 4 _ _ _ h.cl.hp.blk, h.cl.hp.row.on (fun k e => Below.heap_setCell _ _ _ k (nh k e).1), h.cl.hp.len⟩, owns_on h.cl.rcd (fun k e => Below.heap_setCell _ _ _ k (nr k e).1), owns_on h.cl.liv (fun k e => Below.heap_setCell _ _ _ k (nl k e).1), h.cl.len, h.cl.few⟩, h.due, h.heap, h.few⟩, ⟨(Kept.refl _ w).setCell (p := ⟨bi, 4, none⟩) (Or.inl (Or.inl rfl)) _, fun k e => Or.inl e⟩⟩

set_option maxHeartbeats 1000000 in
set_option maxRecDepth 100000 in
theorem tickC_yes (base bi : Nat) (nodes jobs wall last now : Int) (vr vl vh : Value) (L : List Job) (E : List Ev) (w : World) (h : Clu base bi nodes jobs wall last now vr vl vh L E w) (hbase : base ≤ w.heap.size) (t0 : 0 ≤ now) (l1 : last ≤ 5000000000000000000) (n : Int) (n0 : 0 ≤ n) (hn : now + n ≤ last) :
  Calls Tryz.prog 56 #[.pointer (some ⟨bi, 0, none⟩), .int .i64 n] w fun e w' => ∃ x M es, e = .returned (.tuple #[.agg #[.int .i64 0, .int .i64 0, .int .i64 0, .int .i64 0, .slice none 0 0, x], .nilIface]) ∧ Runs (now + n) L es M ∧ CluLeft base bi nodes jobs wall last (now + n) vr vl vh M es x w w' := by
 have hB : Below w.heap.size w (w.alloc (.cells noughts6 34)) := (Below.refl _ _).alloc (Nat.le_refl _) _
 have h1 : Clu base bi nodes jobs wall last now vr vl vh L E (w.alloc (.cells noughts6 34)) := ⟨h.cl.below hB, h.due, h.heap, h.few⟩
 have hq := heap_alloc_new w (.cells noughts6 34)
 have hlt : bi < w.heap.size := h.cl.hp.lt
 have hnB : Hid (¬ clB bi vr vl vh w.heap.size) := Lib.hid (fun e => by have := h.cl.lt _ e; omega)
 have hz : w.heap.size < (w.alloc (.cells noughts6 34)).heap.size := by simp
 have c3 := h1.cl.cell 3
 have c4 := h1.cl.cell 4
 have f4 := h1.cl.frozen 4
 simp at c3 c4
 clear h
 go_enter Tryz.func56, Tryz.ntmps56
 go_wp2
 have HB := Lib.hid hB
 have H1 := Lib.hid h1
 have HQ := Lib.hid hq
 clear hB h1 hq
 generalize w.alloc (.cells noughts6 34) = W at *
 go_quiet (fail)
 have d4 : (W.drewN nq).cell? ⟨bi, 4, none⟩ = some (.int .i64 now) := c4
 have e4 : (W.drewN nq).frozen? ⟨bi, 4, none⟩ = false := f4
 have hlt2 : bi < (W.drewN nq).heap.size := by show bi < W.heap.size; omega
 have hz2 : w.heap.size < (W.drewN nq).heap.size := hz
 have hc2 : Clu base bi nodes jobs wall last now vr vl vh L E (W.drewN nq) := ⟨H1.out.cl.on (fun _ _ => rfl), H1.out.due, H1.out.heap, H1.out.few⟩
 have hq2 : (W.drewN nq).heap[w.heap.size]? = some (.cells noughts6 34 (0, 0)) := HQ.out
 have hb2 : Below w.heap.size w (W.drewN nq) := belowN HB.out nq
 generalize W.drewN nq = W1 at *
 obtain ⟨hC3, hT3⟩ := hc2.tick (now + n)
 have hs3 : (W1.setCell ⟨bi, 4, none⟩ (.int .i64 (now + n))).heap.size = W1.heap.size := by simp
 have hN := happen_any base bi (now + n) nodes jobs wall last (now + n) vr vl vh L E _ hC3 (by rw [hs3]; omega)
 have HC3 := Lib.hid hC3
 have HT3 := Lib.hid ((Trail.ofBelow hb2).trans hT3)
 have HQ3 := Lib.hid ((hT3.kept.block w.heap.size hz2 hnB.out).trans hq2)
 clear HB H1 HQ c3 c4 f4 hc2 hq2 hb2 hC3 hT3 hs3 hz
 go_wp2_with (go_at_call 94; refine hN.mono ?_; rintro e w5 ⟨x, M, es, E', vl5, vh5, rfl, hRun, hHap⟩; obtain ⟨px, cx, rfl⟩ := own_slice hHap.own; refine Hid.out ?_)
 refine Lib.hid ?_
 clear hN
 have hs4 : w.heap.size < (W1.setCell ⟨bi, 4, none⟩ (.int .i64 (now + n))).heap.size := by simp; omega
 have hq5 := (hHap.trail.kept.block w.heap.size hs4 hnB.out).trans HQ3.out
 have q0 := cell_of_row _ _ 0 _ _ (0, 0) hq5
 have q1 := cell_of_row _ _ 1 _ _ (0, 0) hq5
 have q2 := cell_of_row _ _ 2 _ _ (0, 0) hq5
 have q3 := cell_of_row _ _ 3 _ _ (0, 0) hq5
 have q4 := cell_of_row _ _ 4 _ _ (0, 0) hq5
 have q5 := cell_of_row _ _ 5 _ _ (0, 0) hq5
 have qf := fun j => frozen_of_row _ _ j _ _ hq5
 simp at q0 q1 q2 q3 q4 q5
 have hb6 := putR_block hq5 (.int .i64 0) (.int .i64 0) (.int .i64 0) (.int .i64 0) (.slice none 0 0) (.slice px es.length cx)
 have HL := Lib.hid (cluLeft_end hHap HT3.out hs4 hnB.out (.int .i64 0) (.int .i64 0) (.int .i64 0) (.int .i64 0) (.slice none 0 0) (.slice px es.length cx))
 have HB6 := Lib.hid hb6
 have HRun := Lib.hid hRun
 clear hq5 hHap hRun hb6 hs4 HC3 HT3 HQ3
 go_wp2
 refine bodyPost_ret (v := .tuple #[.agg #[.int .i64 0, .int .i64 0, .int .i64 0, .int .i64 0, .slice none 0 0, .slice px es.length cx], .nilIface]) (results_reply Tryz.results56 _ _ w.heap.size _ _ _ _ _ _ rfl HB6.out) rfl ?_
 exact ⟨_, M, es, rfl, HRun.out, HL.out⟩

end Go.Proofs.YtpcgnadfldimhaaGreatDoor
namespace Go.Proofs.YtpcgnadfldimhaaGreatDoor
open Go.RowKit

theorem noughts6_one : noughts6.all (·.oneCell') = true := by kernel_rfl
theorem store_reply {ops : Array Oper} {rest : List Oper} {op : Oper} {a : Act} {w : World} {Q : Exit → Act → World → Prop} (hgd : op.guard = none) (x y : Operand) (ho : op.op = .store 34 x y) (b : Nat) (cells : Array Value) (hx : a.eval x = .pointer (some ⟨b, 0, none⟩)) (hy : a.eval y = .agg cells) (ht : w.there b 0 cells.size) (hi : (Tryz.prog.info? 34).map (·.size) = some cells.size) (h1 : cells.all (·.oneCell') = true) (h : ∀ X, Hid (X = w.setCells b 0 cells.toList) → wpList Tryz.prog ops Q rest (a.put op.dst undef) X) : wpList Tryz.prog ops Q (op :: rest) a w :=
 wpList_store_mid hgd _ x y ho b 0 cells hx hy ht hi h1 (h _ (Lib.hid rfl))
theorem reply_size : (Tryz.prog.info? 34).map (·.size) = some noughts6.size := by kernel_rfl

set_option maxHeartbeats 1000000 in
set_option maxRecDepth 100000 in
theorem tickC_no (base bi : Nat) (nodes jobs wall last now : Int) (vr vl vh : Value) (R : List Job) (S : List (Int × Int)) (E : List Ev) (w : World) (h : Cl base bi nodes jobs wall last now vr vl vh R S E w) (a p1 p2 p3 p4 p5 : Addr) (hA : Asks a p1 p2 p3 p4 p5 w) (_t0 : 0 ≤ now) (t1 : now ≤ last) (_l1 : last ≤ 5000000000000000000) (n : Int) (hn : last < now + n) (hn1 : n ≤ 999999999999999999) :
  Calls Tryz.prog 56 #[.pointer (some ⟨bi, 0, none⟩), .int .i64 n] w fun e w' => ∃ pa, e = .returned (.tuple #[.agg noughts6, .iface 160 (.pointer (some ⟨pa, 0, none⟩))]) ∧ RefV w' pa p4 ∧ Below w.heap.size w w' := by
 have hB : Below w.heap.size w (w.alloc (.cells noughts6 34)) := (Below.refl _ _).alloc (Nat.le_refl _) _
 have c3 := (h.below hB).cell 3
 have c4 := (h.below hB).cell 4
 simp at c3 c4
 have s4 := (hA.on hB).s4.cell
 have hq := heap_alloc_new w (.cells noughts6 34)
 have hlt : bi < (w.alloc (.cells noughts6 34)).heap.size := by simp; have := h.hp.lt; omega
 have hz : w.heap.size < (w.alloc (.cells noughts6 34)).heap.size := by simp
 have hng : 17 ≤ (w.alloc (.cells noughts6 34)).heap.size := (hA.on hB).size
 clear h hA
 go_enter Tryz.func56, Tryz.ntmps56
 go_wp2
 generalize w.alloc (.cells noughts6 34) = W at *
 go_quiet (fail)
 have hB2 := belowN hB nq
 have hq2 : (W.drewN nq).heap[w.heap.size]? = some (.cells noughts6 34 (0, 0)) := hq
 have d4 : (W.drewN nq).cell? ⟨4, 0, none⟩ = some (.iface 315 (.pointer (some p4))) := s4
 have hz2 : w.heap.size < (W.drewN nq).heap.size := hz
 have hng2 : 17 ≤ (W.drewN nq).heap.size := hng
 generalize W.drewN nq = W1 at *
 have HE := Lib.hid (fun s1 x s2 => refuse_put ((Below.heap_alloc (W1.alloc _) _ _ (by simp; omega)).trans ((Below.heap_alloc W1 _ _ hz2).trans hq2)) (refv_alloc s1 x s2 p4) ((hB2.alloc hB2.size _).alloc (by have := hB2.size; simp; omega) _))
 have HTh := Lib.hid (fun o1 o2 => there_block (X := (W1.alloc o1).alloc o2) ((Below.heap_alloc (W1.alloc o1) o2 _ (by simp; omega)).trans ((Below.heap_alloc W1 o1 _ hz2).trans hq2)))
 clear hB hq hB2 hq2 s4 hz hng c3 c4 hlt
 go_wp2_with (refine store_reply rfl _ _ rfl w.heap.size noughts6 rfl rfl (HTh.out _ _) reply_size noughts6_one ?_; intro X5 HX5; refine Hid.out ?_)
 refine Lib.hid ?_
 have he : X5.heap[w.heap.size]? = some (.cells noughts6 34 (0, 0)) ∧ RefV X5 (W1.heap.size + 1) p4 ∧ Below w.heap.size w X5 := by
  rw [HX5.out]
  exact HE.out _ _ _
 have HE5 := Lib.hid he
 clear he HX5 HE HTh
 go_wp2
 refine bodyPost_ret (v := .tuple #[.agg noughts6, .iface 160 (.pointer (some ⟨W1.heap.size + 1, 0, none⟩))]) (results_reply Tryz.results56 _ _ w.heap.size _ _ _ _ _ _ rfl HE5.out.1) rfl ?_
 exact ⟨W1.heap.size + 1, rfl, HE5.out.2⟩

end Go.Proofs.YtpcgnadfldimhaaGreatDoor
namespace Go.Proofs.YtpcgnadfldimhaaGreatDoor
open Go.RowKit

theorem drew_at (w : World) (k : Nat) : w.drew.heap[k]? = w.heap[k]? := rfl

set_option maxHeartbeats 1000000 in
set_option maxRecDepth 100000 in
theorem find_no (base bi : Nat) (nodes jobs wall last now : Int) (vr vl vh : Value) (R : List Job) (S : List (Int × Int)) (E : List Ev) (w : World) (h : Cl base bi nodes jobs wall last now vr vl vh R S E w) (x : Int) (hx : x < 1 ∨ (R.length : Int) < x) :
  Calls Tryz.prog 97 #[.pointer (some ⟨bi, 0, none⟩), .int .i64 x] w fun e w' => e = .returned (.tuple #[.pointer none, .iface 115 (.pointer (some ⟨w.heap.size, 0, none⟩))]) ∧ w' = w.alloc (.cells #[.int .i64 x] 232) := by
 obtain ⟨pr, cr, rfl⟩ := own_slice h.rcd
 have c5 := h.cell 5
 simp at c5
 have hlt := h.hp.lt
 clear h
 by_cases h1 : x < 1
 ·go_enter Tryz.func97, Tryz.ntmps97
  go_wp2
  go_ret2
  exact ⟨rfl, rfl⟩
 ·have h2 : (R.length : Int) < x := by omega
  go_enter Tryz.func97, Tryz.ntmps97
  go_wp2
  go_ret2
  exact ⟨rfl, rfl⟩

set_option maxHeartbeats 1000000 in
set_option maxRecDepth 100000 in
theorem find_yes (base bi g cap : Nat) (nodes jobs wall last now : Int) (vl vh : Value) (R : List Job) (S : List (Int × Int)) (E : List Ev) (w : World) (h : Cl base bi nodes jobs wall last now (.slice (some ⟨g, 0, none⟩) R.length cap) vl vh R S E w) (i : Nat) (hi : i < R.length) :
  Calls Tryz.prog 97 #[.pointer (some ⟨bi, 0, none⟩), .int .i64 ((i : Int) + 1)] w fun e w' => e = .returned (.tuple #[.pointer (some ⟨g, i * 3, none⟩), .nilIface]) ∧ w' = w := by
 have hR := recordOf_any base bi g cap nodes jobs wall last now vl vh R S E w h i hi
 have c5 := h.cell 5
 simp at c5
 have hlt := h.hp.lt
 have h1 : ¬ (i : Int) + 1 < 1 := by omega
 have h2 : ¬ (R.length : Int) < (i : Int) + 1 := by omega
 clear h
 go_enter Tryz.func97, Tryz.ntmps97
 go_wp2_with (go_at_call 98; refine hR.mono ?_; rintro e w1 ⟨rfl, hw⟩; subst w1)
 go_ret2
 exact ⟨rfl, rfl⟩

set_option maxHeartbeats 1000000 in
set_option maxRecDepth 100000 in
theorem statC_no (base bi : Nat) (nodes jobs wall last now : Int) (vr vl vh : Value) (R : List Job) (S : List (Int × Int)) (E : List Ev) (w : World) (h : Cl base bi nodes jobs wall last now vr vl vh R S E w) (x : Int) (hx : x < 1 ∨ (R.length : Int) < x) :
  Calls Tryz.prog 57 #[.pointer (some ⟨bi, 0, none⟩), .int .i64 x] w fun e w' => ∃ pa, e = .returned (.tuple #[.agg noughts6, .iface 160 (.pointer (some ⟨pa, 0, none⟩))]) ∧ RefJ w' pa ∧ Below w.heap.size w w' := by
 have hB : Below w.heap.size w (w.alloc (.cells noughts6 34)) := (Below.refl _ _).alloc (Nat.le_refl _) _
 have hF := find_no base bi nodes jobs wall last now vr vl vh R S E _ (h.below hB) x hx
 have hq := heap_alloc_new w (.cells noughts6 34)
 have hz : w.heap.size < (w.alloc (.cells noughts6 34)).heap.size := by simp
 clear h
 go_enter Tryz.func57, Tryz.ntmps57
 have HF := Lib.hid hF
 clear hF
 go_wp2_with (go_at_call 97; refine HF.out.mono ?_; rintro e w1 ⟨rfl, hw⟩; have HW := Lib.hid hw; clear hw; refine Hid.out ?_)
 refine Lib.hid ?_
 have hq1 : w1.heap[w.heap.size]? = some (.cells noughts6 34 (0, 0)) := by rw [HW.out]; exact (Below.heap_alloc _ _ _ hz).trans hq
 have hb1 : Below w.heap.size w w1 := by rw [HW.out]; exact hB.alloc hB.size _
 have hz1 : w.heap.size < w1.heap.size := (Array.getElem?_eq_some_iff.1 hq1).1
 clear HW HF hB hq hz
 have HE := Lib.hid (fun s (v : Value) (c : Addr) => refuse_putJ (X := w1.alloc (.cells #[s, .iface 115 (.pointer (some c))] 162)) (pa := w1.heap.size) ((Below.heap_alloc w1 _ _ hz1).trans hq1) ⟨c, (cell_of_row _ _ 1 _ _ (0, 0) (heap_alloc_new w1 _)).trans rfl⟩ (hb1.alloc hb1.size _))
 have HTh := Lib.hid (fun o1 => there_block (X := w1.alloc o1) ((Below.heap_alloc w1 o1 _ hz1).trans hq1))
 clear hq1 hb1
 go_wp2_with (refine store_reply rfl _ _ rfl w.heap.size noughts6 rfl rfl (HTh.out _) reply_size noughts6_one ?_; intro X5 HX5; refine Hid.out ?_)
 refine Lib.hid ?_
 have he : X5.heap[w.heap.size]? = some (.cells noughts6 34 (0, 0)) ∧ RefJ X5 w1.heap.size ∧ Below w.heap.size w X5 := by
  rw [HX5.out]
  exact HE.out _ .nilIface _
 have HE5 := Lib.hid he
 clear he HX5 HE HTh
 go_wp2
 refine bodyPost_ret (v := .tuple #[.agg noughts6, .iface 160 (.pointer (some ⟨w1.heap.size, 0, none⟩))]) (results_reply Tryz.results57 _ _ w.heap.size _ _ _ _ _ _ rfl HE5.out.1) rfl ?_
 exact ⟨w1.heap.size, rfl, HE5.out.2⟩

set_option maxHeartbeats 1000000 in
set_option maxRecDepth 100000 in
theorem statC_yes (base bi : Nat) (nodes jobs wall last now : Int) (vr vl vh : Value) (R : List Job) (S : List (Int × Int)) (E : List Ev) (w : World) (h : Cl base bi nodes jobs wall last now vr vl vh R S E w) (i : Nat) (j : Job) (hj : R[i]? = some j) :
  Calls Tryz.prog 57 #[.pointer (some ⟨bi, 0, none⟩), .int .i64 ((i : Int) + 1)] w fun e w' => e = .returned (.tuple #[.agg #[.int .i64 0, .int .i64 j.phase, .int .i64 j.start, .int .i64 j.stop, .slice none 0 0, .slice none 0 0], .nilIface]) ∧ Below w.heap.size w w' := by
 have hB : Below w.heap.size w (w.alloc (.cells noughts6 34)) := (Below.refl _ _).alloc (Nat.le_refl _) _
 obtain ⟨g, cap, rfl, r0, r1, r2, rf, hg⟩ := (h.below hB).recs i j hj
 have hF := find_yes base bi g cap nodes jobs wall last now vl vh R S E _ (h.below hB) i (List.getElem?_eq_some_iff.1 hj).1
 have hq := heap_alloc_new w (.cells noughts6 34)
 have hz : w.heap.size < (w.alloc (.cells noughts6 34)).heap.size := by simp
 have hgw : g < w.heap.size := h.lt g (Or.inr (Or.inl rfl))
 obtain ⟨wd, wl, ph, st, en⟩ := j
 simp only at r0 r1 r2
 clear h hj
 go_enter Tryz.func57, Tryz.ntmps57
 have HF := Lib.hid hF
 clear hF
 go_wp2_with (go_at_call 97; refine HF.out.mono ?_; rintro e w1 ⟨rfl, hw⟩; have HW := Lib.hid hw; clear hw; refine Hid.out ?_)
 refine Lib.hid ?_
 rw [← HW.out] at hq hB r0 r1 r2 rf hg hz
 clear HW HF
 have q0 := cell_of_row _ _ 0 _ _ (0, 0) hq
 have q1 := cell_of_row _ _ 1 _ _ (0, 0) hq
 have q2 := cell_of_row _ _ 2 _ _ (0, 0) hq
 have q3 := cell_of_row _ _ 3 _ _ (0, 0) hq
 have q4 := cell_of_row _ _ 4 _ _ (0, 0) hq
 have q5 := cell_of_row _ _ 5 _ _ (0, 0) hq
 have qf := fun j => frozen_of_row _ _ j _ _ hq
 simp at q0 q1 q2 q3 q4 q5
 have hb6 := Lib.hid ((drew_at (putR w1 w.heap.size (.int .i64 0) (.int .i64 ph) (.int .i64 st) (.int .i64 en) (.slice none 0 0) (.slice none 0 0)) w.heap.size).trans (putR_block hq (.int .i64 0) (.int .i64 ph) (.int .i64 st) (.int .i64 en) (.slice none 0 0) (.slice none 0 0)))
 have hK6 := Lib.hid ((((Kept.of_below (S := fun k => w.heap.size ≤ k) hB).putR (g := w.heap.size) (Or.inl (Nat.le_refl _)) (.int .i64 0) (.int .i64 ph) (.int .i64 st) (.int .i64 en) (.slice none 0 0) (.slice none 0 0)).below (Nat.le_refl _) (fun k e => e)).drew)
 clear hq hB
 go_wp2
 go_region
 all_goals
  go_wp2
  refine bodyPost_ret (v := .tuple #[.agg #[.int .i64 0, .int .i64 ph, .int .i64 st, .int .i64 en, .slice none 0 0, .slice none 0 0], .nilIface]) (results_reply Tryz.results57 _ _ w.heap.size _ _ _ _ _ _ rfl hb6.out) rfl ?_
  exact ⟨rfl, hK6.out⟩

end Go.Proofs.YtpcgnadfldimhaaGreatDoor
namespace Go.Proofs.YtpcgnadfldimhaaGreatDoor
open Go.RowKit

theorem freeS_bound (L : List Job) (nodes : Int) (hW : ∀ j ∈ L, 1 ≤ j.width ∧ j.width ≤ 64) : ∀ m, m ≤ (seats L).length → nodes - 64 * m ≤ freeS L nodes ((seats L).take m) ∧ freeS L nodes ((seats L).take m) ≤ nodes
 | 0, _ => by simp [freeS]
 | m + 1, hm => by
  have ih := freeS_bound L nodes hW m (by omega)
  obtain ⟨s, hs⟩ : ∃ s, (seats L)[m]? = some s := ⟨_, List.getElem?_eq_getElem (by omega)⟩
  obtain ⟨i, j, hj, _, rfl⟩ := seats_at L m s hs
  rw [freeS_step L nodes (seats L) m i j hs hj]
  have := hW j (List.mem_of_getElem? hj)
  split <;> omega

set_option maxHeartbeats 1000000 in
set_option maxRecDepth 100000 in
theorem infoC_any (base bi : Nat) (nodes jobs wall last now : Int) (vr vl vh : Value) (L : List Job) (E : List Ev) (w : World) (h : Cl base bi nodes jobs wall last now vr vl vh L (seats L) E w) (hW : ∀ j ∈ L, 1 ≤ j.width ∧ j.width ≤ 64) (hn : 1 ≤ nodes) (hn' : nodes ≤ 64) :
  Calls Tryz.prog 59 #[.pointer (some ⟨bi, 0, none⟩)] w fun e w' => e = .returned (.agg #[.int .i64 0, .int .i64 now, .int .i64 (freeN L nodes L.length), .int .i64 (liveN L L.length), .slice none 0 0, .slice none 0 0]) ∧ Below w.heap.size w w' := by
 have hB : Below w.heap.size w (w.alloc (.cells noughts6 34)) := (Below.refl _ _).alloc (Nat.le_refl _) _
 obtain ⟨pl, cl, rfl⟩ := own_slice h.liv
 have c0 := (h.below hB).cell 0
 have c6 := (h.below hB).cell 6
 simp at c0 c6
 have hq := heap_alloc_new w (.cells noughts6 34)
 have hlt : bi < w.heap.size := h.hp.lt
 have hfew := h.few
 have HH := Lib.hid h
 have HB0 := Lib.hid hB
 have HQ0 := Lib.hid hq
 clear h hB hq
 go_enter Tryz.func59, Tryz.ntmps59
 go_wp2
 go_loopw [3, 16] (fun fv iv wr => ∃ m : Nat, m ≤ (seats L).length ∧ iv = .int .i64 m ∧ fv = .int .i64 (freeS L nodes ((seats L).take m)) ∧ Below w.heap.size w wr ∧ wr.heap[w.heap.size]? = some (.cells noughts6 34 (0, 0))) (fun _ iv _ => (seats L).length - (intOf iv).toNat)
 case atStart => exact ⟨0, Nat.zero_le _, rfl, by simp [freeS], HB0.out, HQ0.out⟩
 case round =>
  obtain ⟨m, hm, rfl, rfl, hbr, hq⟩ := hrel
  have hC := HH.out.below hbr
  have hsr := hbr.size
  have hqlt := (Array.getElem?_eq_some_iff.1 hq).1
  have hfb := freeS_bound L nodes hW m hm
  by_cases hml : m < (seats L).length
  ·obtain ⟨s, hs⟩ : ∃ s, (seats L)[m]? = some s := ⟨_, List.getElem?_eq_getElem hml⟩
   obtain ⟨i, j, hj, hlv, rfl⟩ := seats_at L m s hs
   obtain ⟨b, hb, hrow⟩ := owns_laid seatC_len hC.liv rfl m _ hs
   subst hb
   have HS := Lib.hid (freeS_step L nodes (seats L) m i j hs hj)
   obtain ⟨gr, cr, rfl, r0, r1, r2, rf, hgr⟩ := hC.recs i j hj
   have hii := (List.getElem?_eq_some_iff.1 hj).1
   have hwj := hW j (List.mem_of_getElem? hj)
   obtain ⟨wd, wl, ph, st, en⟩ := j
   simp only at r0 r1 r2 hwj
   have hB1 : Below wr.heap.size wr (wr.alloc (.cells #[.int .i64 ((i : Int) + 1), .int .i64 wd] 187)) := (Below.refl _ _).alloc (Nat.le_refl _) _
   have hR := recordOf_any base bi gr cr nodes jobs wall last now _ vh L (seats L) E _ (hC.below hB1) i hii
   generalize freeS L nodes ((seats L).take m) = fr at *
   have HB := Lib.hid (hbr.alloc hbr.size (.cells #[.int .i64 ((i : Int) + 1), .int .i64 wd] 187))
   have HQ := Lib.hid ((Below.heap_alloc wr (.cells #[.int .i64 ((i : Int) + 1), .int .i64 wd] 187) _ hqlt).trans hq)
   clear hbr hq hC hj hs hB1
   by_cases hp : ph = 2
   ·subst hp
    go_wp2_with (first | (refine wpList_load_mid rfl 187 _ rfl b (m * 2) rfl [.int .i64 ((i : Int) + 1), .int .i64 wd] _ hrow Tryz.underlying187 rfl (by kernel_rfl) ?_) | (go_at_call 98; refine hR.mono ?_; rintro e w1 ⟨rfl, hw⟩; subst w1))
    go_roundw
    case rel => exact ⟨m + 1, by omega, by go_num, vint (by rw [HS.out]; simp), HB.out, HQ.out⟩
    case measure => simp [intOf]; omega
   ·go_wp2_with (first | (refine wpList_load_mid rfl 187 _ rfl b (m * 2) rfl [.int .i64 ((i : Int) + 1), .int .i64 wd] _ hrow Tryz.underlying187 rfl (by kernel_rfl) ?_) | (go_at_call 98; refine hR.mono ?_; rintro e w1 ⟨rfl, hw⟩; subst w1))
    go_roundw
    case rel => exact ⟨m + 1, by omega, by go_num, vint (by rw [HS.out]; simp [hp]), HB.out, HQ.out⟩
    case measure => simp [intOf]; omega
  ·obtain rfl : m = (seats L).length := by omega
   rw [List.take_length] at hfb ⊢
   have hfr : freeS L nodes (seats L) = freeN L nodes L.length := freeS_seats L nodes L.length
   have HSL : Hid ((seats L).length = liveN L L.length) := Lib.hid (seatsN_len L L.length)
   have c4 := hC.cell 4
   have c6' := hC.cell 6
   simp at c4 c6'
   rw [hfr] at hfb ⊢
   have hlt2 : bi < wr.heap.size := by omega
   have q0 := cell_of_row _ _ 0 _ _ (0, 0) hq
   have q1 := cell_of_row _ _ 1 _ _ (0, 0) hq
   have q2 := cell_of_row _ _ 2 _ _ (0, 0) hq
   have q3 := cell_of_row _ _ 3 _ _ (0, 0) hq
   have q4 := cell_of_row _ _ 4 _ _ (0, 0) hq
   have q5 := cell_of_row _ _ 5 _ _ (0, 0) hq
   have qf := fun j => frozen_of_row _ _ j _ _ hq
   simp at q0 q1 q2 q3 q4 q5
   generalize hfn : freeN L nodes L.length = fr at *
   have hb6 := Lib.hid ((drew_at (putR wr w.heap.size (.int .i64 0) (.int .i64 now) (.int .i64 fr) (.int .i64 ((seats L).length : Int)) (.slice none 0 0) (.slice none 0 0)) w.heap.size).trans (putR_block hq (.int .i64 0) (.int .i64 now) (.int .i64 fr) (.int .i64 ((seats L).length : Int)) (.slice none 0 0) (.slice none 0 0)))
   have hK6 := Lib.hid ((((Kept.of_below (S := fun k => w.heap.size ≤ k) hbr).putR (g := w.heap.size) (Or.inl (Nat.le_refl _)) (.int .i64 0) (.int .i64 now) (.int .i64 fr) (.int .i64 ((seats L).length : Int)) (.slice none 0 0) (.slice none 0 0)).below (Nat.le_refl _) (fun k e => e)).drew)
   clear hq hbr hC
   go_wp2
   go_region
   all_goals
    go_wp2
    refine bodyPost_ret (v := .agg #[.int .i64 0, .int .i64 now, .int .i64 fr, .int .i64 ((seats L).length : Int), .slice none 0 0, .slice none 0 0]) (results_cell_row Tryz.results59 _ _ w.heap.size _ _ _ _ rfl hb6.out Tryz.underlying34 rfl (by kernel_rfl)) rfl ?_
    exact ⟨by rw [hfn, ← HSL.out], hK6.out⟩

end Go.Proofs.YtpcgnadfldimhaaGreatDoor
namespace Go.Proofs.YtpcgnadfldimhaaGreatDoor
open Go.RowKit

theorem Tryz.infoRowP : (Tryz.prog.info? 57).map (fun i => (i.zero, i.size, i.bytes)) = some (some (.agg #[.int .i64 0, .int .i64 0, .int .i64 0, .int .i64 0]), 4, 32) := by kernel_rfl
def RowV.four (r : RowV) : List Value := [.int .i64 r.id, .int .i64 r.promise, .int .i64 r.width, .int .i64 r.wall]
theorem RowV.four_len (r : RowV) : r.four.length = 4 := rfl

set_option maxHeartbeats 2000000 in
set_option maxRecDepth 100000 in
theorem queueC_any (base bi : Nat) (nodes jobs wall last now : Int) (vr vl vh : Value) (L : List Job) (E : List Ev) (w : World) (h : Cl base bi nodes jobs wall last now vr vl vh L (seats L) E w) (hT : ∀ j ∈ L, 0 ≤ j.start ∧ 0 ≤ j.stop ∧ j.stop ≤ 5000000000000000000 ∧ j.start ≤ j.stop) :
  Calls Tryz.prog 58 #[.pointer (some ⟨bi, 0, none⟩)] w fun e w' => ∃ y, e = .returned (.agg #[.int .i64 0, .int .i64 0, .int .i64 0, .int .i64 0, y, .slice none 0 0]) ∧ w'.ownsRow (w.heap.size + 1) 57 4 y (rowsS L (seats L)).length (gfl RowV.four (rowsS L (seats L))) ∧ Below w.heap.size w w' := by
 obtain ⟨i0, hi, hz0, hz1, hz2⟩ := info_parts Tryz.infoRowP
 have hB : Below w.heap.size w (w.alloc (.cells noughts6 34)) := (Below.refl _ _).alloc (Nat.le_refl _) _
 obtain ⟨pl, cl, rfl⟩ := own_slice h.liv
 have c6 := (h.below hB).cell 6
 simp at c6
 have hq := heap_alloc_new w (.cells noughts6 34)
 have hlt : bi < w.heap.size := h.hp.lt
 have hfew := h.few
 have HH := Lib.hid h
 have HB0 := Lib.hid hB
 have HQ0 := Lib.hid hq
 clear h hB hq
 go_enter Tryz.func58, Tryz.ntmps58
 go_wp2
 go_loopw [3, 12] (fun xv iv wr => ∃ m : Nat, m ≤ (seats L).length ∧ iv = .int .i64 m ∧ wr.ownsRow (w.heap.size + 1) 57 4 xv (rowsS L ((seats L).take m)).length (gfl RowV.four (rowsS L ((seats L).take m))) ∧ Below w.heap.size w wr ∧ wr.heap[w.heap.size]? = some (.cells noughts6 34 (0, 0))) (fun _ iv _ => (seats L).length - (intOf iv).toNat)
 case atStart => exact ⟨0, Nat.zero_le _, rfl, World.ownsRow_nil _ _ _ _, HB0.out, HQ0.out⟩
 case round =>
  obtain ⟨m, hm, rfl, hown, hbr, hq⟩ := hrel
  have hC := HH.out.below hbr
  have hsr := hbr.size
  have hqlt := (Array.getElem?_eq_some_iff.1 hq).1
  obtain ⟨px, cx, rfl⟩ := own_slice hown
  have hrl := rowsS_len L ((seats L).take m)
  rw [List.length_take, Nat.min_eq_left hm] at hrl
  by_cases hml : m < (seats L).length
  ·obtain ⟨s, hs⟩ : ∃ s, (seats L)[m]? = some s := ⟨_, List.getElem?_eq_getElem hml⟩
   obtain ⟨i, j, hj, hlv, rfl⟩ := seats_at L m s hs
   obtain ⟨b, hb, hrow⟩ := owns_laid seatC_len hC.liv rfl m _ hs
   subst hb
   have HS := Lib.hid (rowsS_step L (seats L) m i j hs hj)
   obtain ⟨gr, cr, rfl, r0, r1, r2, rf, hgr⟩ := hC.recs i j hj
   have hii := (List.getElem?_eq_some_iff.1 hj).1
   have hTj := hT j (List.mem_of_getElem? hj)
   obtain ⟨wd, wl, ph, st, en⟩ := j
   simp only at r0 r1 r2 hTj
   have hB1 : Below wr.heap.size wr (wr.alloc (.cells #[.int .i64 ((i : Int) + 1), .int .i64 wd] 187)) := (Below.refl _ _).alloc (Nat.le_refl _) _
   have hR := recordOf_any base bi gr cr nodes jobs wall last now _ vh L (seats L) E _ (hC.below hB1) i hii
   have HB := Lib.hid (hbr.alloc hbr.size (.cells #[.int .i64 ((i : Int) + 1), .int .i64 wd] 187))
   have HQ := Lib.hid ((Below.heap_alloc wr (.cells #[.int .i64 ((i : Int) + 1), .int .i64 wd] 187) _ hqlt).trans hq)
   have HO := Lib.hid (hown.alloc (.cells #[.int .i64 ((i : Int) + 1), .int .i64 wd] 187))
   have HN1 : Hid ((Value.slice px (rowsS L ((seats L).take m)).length cx).ownBlock ≠ some wr.heap.size) := Lib.hid (fun e => by have := (hown.lt _ e).2; omega)
   have HN2 : Hid ((Value.slice px (rowsS L ((seats L).take m)).length cx).ownBlock ≠ some gr) := Lib.hid (fun e => owns_apart hown hC.rcd (by decide) gr e (by simp [Value.ownBlock]))
   have HN3 : Hid (∀ k, (Value.slice px (rowsS L ((seats L).take m)).length cx).ownBlock = some k → w.heap.size + 1 ≤ k) := Lib.hid (fun k e => (hown.lt k e).1)
   clear hbr hq hC hj hs hB1 hown
   by_cases hp : ph = 1
   ·subst hp
    have s0 : (wr.alloc (.cells #[.int .i64 ((i : Int) + 1), .int .i64 wd] 187)).cell? ⟨wr.heap.size, 0, none⟩ = some (.int .i64 ((i : Int) + 1)) := by simp
    have s1 : (wr.alloc (.cells #[.int .i64 ((i : Int) + 1), .int .i64 wd] 187)).cell? ⟨wr.heap.size, 1, none⟩ = some (.int .i64 wd) := by simp
    have t0 := cellUp r0 (.cells #[.int .i64 ((i : Int) + 1), .int .i64 wd] 187)
    have t1 := cellUp r1 (.cells #[.int .i64 ((i : Int) + 1), .int .i64 wd] 187)
    have t2 := cellUp r2 (.cells #[.int .i64 ((i : Int) + 1), .int .i64 wd] 187)
    have hszW : wr.heap.size + 1 ≤ (wr.alloc (.cells #[.int .i64 ((i : Int) + 1), .int .i64 wd] 187)).heap.size := by simp
    go_wp2_with (first | (refine wpList_load_mid rfl 187 _ rfl b (m * 2) rfl [.int .i64 ((i : Int) + 1), .int .i64 wd] _ hrow Tryz.underlying187 rfl (by kernel_rfl) ?_) | (go_at_call 98; refine hR.mono ?_; rintro e w1 ⟨rfl, hw⟩; subst w1))
    generalize wr.alloc (.cells #[.int .i64 ((i : Int) + 1), .int .i64 wd] 187) = W at *
    have n1 : wr.heap.size < W.heap.size := by omega
    have n2 : gr < W.heap.size := by omega
    clear r0 r1 r2 rf hR hrow
    go_region_held3 (fun w' => w'.cell? ⟨wr.heap.size, 0, none⟩ = some (.int .i64 ((i : Int) + 1)) ∧ w'.cell? ⟨wr.heap.size, 1, none⟩ = some (.int .i64 wd) ∧ w'.cell? ⟨gr, i * 3 + 1, none⟩ = some (.int .i64 st) ∧ w'.cell? ⟨gr, i * 3 + 2, none⟩ = some (.int .i64 en)) (go_keep) (first | (refine step_append_lies _ rfl _ _ 31 rfl (w.heap.size + 1) 57 i0 (.agg #[.int .i64 0, .int .i64 0, .int .i64 0, .int .i64 0]) 4 32 Tryz.underlying31 hi hz0 hz1 hz2 rfl (by decide) (.slice px (rowsS L ((seats L).take m)).length cx) (rowsS L ((seats L).take m)).length _ rfl (HO.out.alloc _) ⟨W.heap.size, 0, none⟩ 1 1 [.int .i64 ((i : Int) + 1), .int .i64 st, .int .i64 wd, .int .i64 (IntKind.i64.wrap (en - st))] rfl rfl (news_at W #[.int .i64 ((i : Int) + 1), .int .i64 st, .int .i64 wd, .int .i64 (IntKind.i64.wrap (en - st))] _ _ rfl) (by intro u' hu'; simp at hu'; rcases hu' with rfl | rfl | rfl | rfl <;> rfl) (by decide) (by unfold maxLen; omega) (by omega) (by simp; omega) _ rfl ?_; intro g cap w4 own grow hat lt; have HW4 := Lib.hid own; have HG4 := Lib.hid grow; have kk : ∀ k, k < W.heap.size → (Value.slice px (rowsS L ((seats L).take m)).length cx).ownBlock ≠ some k → w4.heap[k]? = W.heap[k]? := (fun k hk hne => (grow.block k (by simp; omega) (fun e => hne e.symm)).trans (Below.heap_alloc W _ k hk)); have k0 := (World.cell?_of_block (a := ⟨wr.heap.size, 0, none⟩) (kk wr.heap.size n1 HN1.out)).trans s0; have k1 := (World.cell?_of_block (a := ⟨wr.heap.size, 1, none⟩) (kk wr.heap.size n1 HN1.out)).trans s1; have k2 := (World.cell?_of_block (a := ⟨gr, i * 3 + 1, none⟩) (kk gr n2 HN2.out)).trans t1; have k3 := (World.cell?_of_block (a := ⟨gr, i * 3 + 2, none⟩) (kk gr n2 HN2.out)).trans t2; have HK4 := Lib.hid kk; clear own grow kk))
    all_goals
     have hwr : IntKind.i64.wrap (en - st) = en - st := wrap_small _ (by omega) (by omega)
     have hown5 : w4.ownsRow (w.heap.size + 1) 57 4 (.slice (some ⟨g, 0, none⟩) ((rowsS L ((seats L).take m)).length + 1) cap) (rowsS L ((seats L).take (m + 1))).length (gfl RowV.four (rowsS L ((seats L).take (m + 1)))) := by
      rw [HS.out, if_pos trivial, gfl_append, List.length_append, List.length_singleton]
      have := HW4.out
      rw [hwr] at this
      exact this
     have HO5 := Lib.hid hown5
     have HB5 := Lib.hid (((((Kept.of_below (S := fun k => w.heap.size ≤ k) HB.out).alloc _).drew).grown HG4.out (fun k e => Or.inl (by have := HN3.out k e; omega))).below (Nat.le_refl _) (fun k e => e))
     have HQ5 := Lib.hid ((HK4.out w.heap.size (by omega) (fun e => by have := HN3.out _ e; omega)).trans HQ.out)
     clear hown5 hwr HW4 HG4 HK4 k0 k1 k2 k3
     go_wp2
     go_roundw
     case rel => exact ⟨m + 1, by omega, by go_num, HO5.out, HB5.out, HQ5.out⟩
     case measure => simp [intOf]; omega
   ·go_wp2_with (first | (refine wpList_load_mid rfl 187 _ rfl b (m * 2) rfl [.int .i64 ((i : Int) + 1), .int .i64 wd] _ hrow Tryz.underlying187 rfl (by kernel_rfl) ?_) | (go_at_call 98; refine hR.mono ?_; rintro e w1 ⟨rfl, hw⟩; subst w1))
    go_roundw
    case rel => exact ⟨m + 1, by omega, by go_num, by rw [HS.out, if_neg hp]; exact HO.out, HB.out, HQ.out⟩
    case measure => simp [intOf]; omega
  ·obtain rfl : m = (seats L).length := by omega
   rw [List.take_length] at hown
   have q0 := cell_of_row _ _ 0 _ _ (0, 0) hq
   have q1 := cell_of_row _ _ 1 _ _ (0, 0) hq
   have q2 := cell_of_row _ _ 2 _ _ (0, 0) hq
   have q3 := cell_of_row _ _ 3 _ _ (0, 0) hq
   have q4 := cell_of_row _ _ 4 _ _ (0, 0) hq
   have q5 := cell_of_row _ _ 5 _ _ (0, 0) hq
   have qf := fun j => frozen_of_row _ _ j _ _ hq
   simp at q0 q1 q2 q3 q4 q5
   rw [List.take_length]
   have hb6 := Lib.hid (putR_block hq (.int .i64 0) (.int .i64 0) (.int .i64 0) (.int .i64 0) (.slice px (rowsS L (seats L)).length cx) (.slice none 0 0))
   have hK6 := Lib.hid (((Kept.of_below (S := fun k => w.heap.size ≤ k) hbr).putR (g := w.heap.size) (Or.inl (Nat.le_refl _)) (.int .i64 0) (.int .i64 0) (.int .i64 0) (.int .i64 0) (.slice px (rowsS L (seats L)).length cx) (.slice none 0 0)).below (Nat.le_refl _) (fun k e => e))
   have hKo := (Kept.refl (fun k => k = w.heap.size) wr).putR (g := w.heap.size) (Or.inl rfl) (.int .i64 0) (.int .i64 0) (.int .i64 0) (.int .i64 0) (.slice px (rowsS L (seats L)).length cx) (.slice none 0 0)
   have hO6 := Lib.hid (owns_on (w' := putR wr w.heap.size (.int .i64 0) (.int .i64 0) (.int .i64 0) (.int .i64 0) (.slice px (rowsS L (seats L)).length cx) (.slice none 0 0)) hown (fun k e => hKo.block k (hown.lt k e).2 (fun e2 => by have := (hown.lt k e).1; omega)))
   clear hq hbr hC hKo hown
   go_wp2
   refine bodyPost_ret (v := .agg #[.int .i64 0, .int .i64 0, .int .i64 0, .int .i64 0, .slice px (rowsS L (seats L)).length cx, .slice none 0 0]) (results_cell_row Tryz.results58 _ _ w.heap.size _ _ _ _ rfl hb6.out Tryz.underlying34 rfl (by kernel_rfl)) rfl ?_
   exact ⟨_, rfl, hO6.out, hK6.out⟩

end Go.Proofs.YtpcgnadfldimhaaGreatDoor
