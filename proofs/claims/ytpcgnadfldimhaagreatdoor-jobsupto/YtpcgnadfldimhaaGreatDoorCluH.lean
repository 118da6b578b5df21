/-
  The program's cluster: which jobs are refused.
-/
import Derived.Test.YtpcgnadfldimhaaGreatDoorCluF
import Derived.Test.YtpcgnadfldimhaaGreatDoorMemG
import Derived.Test.YtpcgnadfldimhaaGreatDoorShape
import Derived.Test.YtpcgnadfldimhaaGreatDoorSchA
namespace Go.Proofs.YtpcgnadfldimhaaGreatDoor
open Go.RowKit

theorem belowN {B : Nat} {a w : World} (h : Below B a w) (n : Nat) : Below B a (w.drewN n) := h.trans ⟨rfl, rfl, rfl, Nat.le_refl _, fun _ _ => rfl⟩
/-- A ValueError at block vb around the sentinel at p. -/
def ValE (w : World) (vb : Nat) (p : Addr) : Prop := w.cell? ⟨vb, 2, none⟩ = some (.iface 315 (.pointer (some p)))

set_option maxHeartbeats 2000000 in
set_option maxRecDepth 100000 in
theorem checkJob_w (base bi : Nat) (nodes jobs wall last now : Int) (vr vl vh : Value) (R : List Job) (S : List (Int × Int)) (E : List Ev) (w : World) (h : Cl base bi nodes jobs wall last now vr vl vh R S E w) (a p1 p2 p3 p4 p5 : Addr) (hA : Asks a p1 p2 p3 p4 p5 w) (width wl : Int) (hw : width < 1 ∨ nodes < width) :
    Calls Tryz.prog 90 #[.pointer (some ⟨bi, 0, none⟩), .int .i64 width, .int .i64 wl] w fun e w' => ∃ vb, e = .returned (.iface 178 (.pointer (some ⟨vb, 0, none⟩))) ∧ ValE w' vb p1 ∧ Below w.heap.size w w' := by
  have c0 := h.cell 0
  simp at c0
  have s1 := hA.s1.cell
  have hlt := h.hp.lt
  clear h hA
  by_cases h1 : width < 1
  · go_enter Tryz.func90, Tryz.ntmps90
    go_wp2
    go_ret
    exact ⟨w.heap.size, rfl, by unfold ValE; simp, (Below.refl _ _).alloc (Nat.le_refl _) _⟩
  · have h2 : nodes < width := by omega
    go_enter Tryz.func90, Tryz.ntmps90
    go_wp2
    go_ret
    exact ⟨w.heap.size, rfl, by unfold ValE; simp, (Below.refl _ _).alloc (Nat.le_refl _) _⟩

set_option maxHeartbeats 2000000 in
set_option maxRecDepth 100000 in
theorem checkJob_l (base bi : Nat) (nodes jobs wall last now : Int) (vr vl vh : Value) (R : List Job) (S : List (Int × Int)) (E : List Ev) (w : World) (h : Cl base bi nodes jobs wall last now vr vl vh R S E w) (a p1 p2 p3 p4 p5 : Addr) (hA : Asks a p1 p2 p3 p4 p5 w) (width wl : Int) (hw1 : 1 ≤ width) (hw2 : width ≤ nodes) (hl : wl < 1 ∨ wall < wl) :
    Calls Tryz.prog 90 #[.pointer (some ⟨bi, 0, none⟩), .int .i64 width, .int .i64 wl] w fun e w' => ∃ vb, e = .returned (.iface 178 (.pointer (some ⟨vb, 0, none⟩))) ∧ ValE w' vb p2 ∧ Below w.heap.size w w' := by
  have c0 := h.cell 0
  have c2 := h.cell 2
  simp at c0 c2
  have s2 := hA.s2.cell
  have hlt := h.hp.lt
  clear h hA
  by_cases h1 : wl < 1
  · go_enter Tryz.func90, Tryz.ntmps90
    go_wp2
    go_ret
    exact ⟨w.heap.size, rfl, by unfold ValE; simp, (Below.refl _ _).alloc (Nat.le_refl _) _⟩
  · have h2 : wall < wl := by omega
    go_enter Tryz.func90, Tryz.ntmps90
    go_wp2
    go_ret
    exact ⟨w.heap.size, rfl, by unfold ValE; simp, (Below.refl _ _).alloc (Nat.le_refl _) _⟩

set_option maxHeartbeats 2000000 in
set_option maxRecDepth 100000 in
theorem checkJob_f (base bi : Nat) (nodes jobs wall last now : Int) (vr vl vh : Value) (R : List Job) (S : List (Int × Int)) (E : List Ev) (w : World) (h : Cl base bi nodes jobs wall last now vr vl vh R S E w) (a p1 p2 p3 p4 p5 : Addr) (hA : Asks a p1 p2 p3 p4 p5 w) (width wl : Int) (hw1 : 1 ≤ width) (hw2 : width ≤ nodes) (hl1 : 1 ≤ wl) (hl2 : wl ≤ wall) (hf : jobs ≤ (S.length : Int)) :
    Calls Tryz.prog 90 #[.pointer (some ⟨bi, 0, none⟩), .int .i64 width, .int .i64 wl] w fun e w' => ∃ vb, e = .returned (.iface 178 (.pointer (some ⟨vb, 0, none⟩))) ∧ ValE w' vb p3 ∧ Below w.heap.size w w' := by
  obtain ⟨pl, cl, rfl⟩ := own_slice h.liv
  have c0 := h.cell 0
  have c1 := h.cell 1
  have c2 := h.cell 2
  have c6 := h.cell 6
  simp at c0 c1 c2 c6
  have s3 := hA.s3.cell
  have hlt := h.hp.lt
  clear h hA
  go_enter Tryz.func90, Tryz.ntmps90
  go_wp2
  go_quiet (fail)
  go_wp2
  go_region
  all_goals
    go_wp2
    go_ret
    exact ⟨w.heap.size, rfl, (cell_of_row _ _ 2 _ _ (0, 0) (alloc_at _ _ w.heap.size rfl)).trans rfl, (belowN (Below.refl w.heap.size w) _).alloc (Nat.le_refl _) _⟩

set_option maxHeartbeats 2000000 in
set_option maxRecDepth 100000 in
theorem checkJob_ok (base bi : Nat) (nodes jobs wall last now : Int) (vr vl vh : Value) (R : List Job) (S : List (Int × Int)) (E : List Ev) (w : World) (h : Cl base bi nodes jobs wall last now vr vl vh R S E w) (width wl : Int) (hw1 : 1 ≤ width) (hw2 : width ≤ nodes) (hl1 : 1 ≤ wl) (hl2 : wl ≤ wall) (hf : ¬ jobs ≤ (S.length : Int)) :
    Calls Tryz.prog 90 #[.pointer (some ⟨bi, 0, none⟩), .int .i64 width, .int .i64 wl] w fun e w' => e = .returned .nilIface ∧ Below w.heap.size w w' := by
  obtain ⟨pl, cl, rfl⟩ := own_slice h.liv
  have c0 := h.cell 0
  have c1 := h.cell 1
  have c2 := h.cell 2
  have c6 := h.cell 6
  simp at c0 c1 c2 c6
  have hlt := h.hp.lt
  have hf' : (S.length : Int) < jobs := by omega
  clear h hf
  go_enter Tryz.func90, Tryz.ntmps90
  go_wp2
  go_quiet (fail)
  go_wp2
  go_ret
  exact ⟨rfl, belowN (Below.refl w.heap.size w) _⟩

end Go.Proofs.YtpcgnadfldimhaaGreatDoor
namespace Go.Proofs.YtpcgnadfldimhaaGreatDoor
open Go.RowKit

abbrev noughts6 : Array Value := #[.int .i64 0, .int .i64 0, .int .i64 0, .int .i64 0, .slice none 0 0, .slice none 0 0]

/-- A reply, stored into its block. -/
abbrev putR (w : World) (g : Nat) (x0 x1 x2 x3 x4 x5 : Value) : World := (((((w.setCell ⟨g, 0, none⟩ x0).setCell ⟨g, 1, none⟩ x1).setCell ⟨g, 2, none⟩ x2).setCell ⟨g, 3, none⟩ x3).setCell ⟨g, 4, none⟩ x4).setCell ⟨g, 5, none⟩ x5
theorem putR_block {u : World} {g : Nat} {y0 y1 y2 y3 y4 y5 : Value} {t : TypeId} (h : u.heap[g]? = some (.cells #[y0, y1, y2, y3, y4, y5] t (0, 0))) (x0 x1 x2 x3 x4 x5 : Value) : (putR u g x0 x1 x2 x3 x4 x5).heap[g]? = some (.cells #[x0, x1, x2, x3, x4, x5] t (0, 0)) :=
  heap_setCell_same _ _ 5 _ _ _ (heap_setCell_same _ _ 4 _ _ _ (heap_setCell_same _ _ 3 _ _ _ (heap_setCell_same _ _ 2 _ _ _ (heap_setCell_same _ _ 1 _ _ _ (heap_setCell_same _ _ 0 _ _ _ h)))))
theorem Kept.putR {S : Nat → Prop} {w u : World} (h : Kept S w u) {g : Nat} (hg : S g ∨ w.heap.size ≤ g) (x0 x1 x2 x3 x4 x5 : Value) : Kept S w (putR u g x0 x1 x2 x3 x4 x5) :=
  (((((h.setCell (p := ⟨g, 0, none⟩) hg _).setCell (p := ⟨g, 1, none⟩) hg _).setCell (p := ⟨g, 2, none⟩) hg _).setCell (p := ⟨g, 3, none⟩) hg _).setCell (p := ⟨g, 4, none⟩) hg _).setCell (p := ⟨g, 5, none⟩) hg _
theorem putR_size (u : World) (g : Nat) (x0 x1 x2 x3 x4 x5 : Value) : (putR u g x0 x1 x2 x3 x4 x5).heap.size = u.heap.size := by simp

/-- Results: a reply in its cells, and a slot. -/
theorem results_reply {fn : Func} {p u : Tmp} (h : fn.results = #[.cell p 34, .tmp u]) (tmps : Array Value) (w : World) (g : Nat) (x0 x1 x2 x3 x4 x5 : Value) (hp : tmps.getD p undef = .pointer (some ⟨g, 0, none⟩)) (hg : w.heap[g]? = some (.cells #[x0, x1, x2, x3, x4, x5] 34 (0, 0))) :
    (results fn tmps).run Tryz.prog w = .ok (.tuple #[.agg #[x0, x1, x2, x3, x4, x5], tmps.getD u undef]) w := by
  have hl := run_loadVar_row (P := Tryz.prog) w g 34 34 #[x0, x1, x2, x3, x4, x5] (0, 0) _ hg Tryz.underlying34 rfl (by kernel_rfl)
  rw [results_cell_tmp h]
  simp only [hp, asAddr, Sem.run_pure, Result.andThen_ok, hl]

/-- A refusal: the reply is empty, a CallError is laid around the ValueError. -/
theorem refuse_end {w w1 : World} {vb : Nat} {p : Addr} (s : Value) (hq : w1.heap[w.heap.size]? = some (.cells noughts6 34 (0, 0))) (hv : ValE w1 vb p) (hb : Below w.heap.size w w1) :
    ((putR w1 w.heap.size (.int .i64 0) (.int .i64 0) (.int .i64 0) (.int .i64 0) (.slice none 0 0) (.slice none 0 0)).alloc (.cells #[s, .iface 178 (.pointer (some ⟨vb, 0, none⟩))] 162)).heap[w.heap.size]? = some (.cells noughts6 34 (0, 0)) ∧
    RefV ((putR w1 w.heap.size (.int .i64 0) (.int .i64 0) (.int .i64 0) (.int .i64 0) (.slice none 0 0) (.slice none 0 0)).alloc (.cells #[s, .iface 178 (.pointer (some ⟨vb, 0, none⟩))] 162)) w1.heap.size p ∧
    Below w.heap.size w ((putR w1 w.heap.size (.int .i64 0) (.int .i64 0) (.int .i64 0) (.int .i64 0) (.slice none 0 0) (.slice none 0 0)).alloc (.cells #[s, .iface 178 (.pointer (some ⟨vb, 0, none⟩))] 162)) := by
  have hs1 : w.heap.size < w1.heap.size := (Array.getElem?_eq_some_iff.1 hq).1
  have hvb : vb ≠ w.heap.size := fun e => by
    have q2 := cell_of_row _ _ 2 _ _ (0, 0) hq
    unfold ValE at hv
    rw [e, q2] at hv
    simp at hv
  have hvl : vb < w1.heap.size := block_lt_of_cell (a := ⟨vb, 2, none⟩) hv
  have hK6 := (Kept.refl (fun k => k = w.heap.size) w1).putR (g := w.heap.size) (Or.inl rfl) (.int .i64 0) (.int .i64 0) (.int .i64 0) (.int .i64 0) (.slice none 0 0) (.slice none 0 0)
  have hb6 := putR_block hq (.int .i64 0) (.int .i64 0) (.int .i64 0) (.int .i64 0) (.slice none 0 0) (.slice none 0 0)
  have hz6 := putR_size w1 w.heap.size (.int .i64 0) (.int .i64 0) (.int .i64 0) (.int .i64 0) (.slice none 0 0) (.slice none 0 0)
  generalize putR w1 w.heap.size (.int .i64 0) (.int .i64 0) (.int .i64 0) (.int .i64 0) (.slice none 0 0) (.slice none 0 0) = W6 at *
  refine ⟨(Below.heap_alloc _ _ _ (by omega)).trans hb6, ⟨vb, ?_, ?_⟩, ?_⟩
  · have := cell_of_row _ _ 1 _ _ (0, 0) (alloc_at W6 (.cells #[s, .iface 178 (.pointer (some ⟨vb, 0, none⟩))] 162) w1.heap.size hz6)
    simpa using this
  · refine cellUp ?_ _
    rw [World.cell?_of_block (hK6.block vb hvl hvb)]
    exact hv
  · exact ((Kept.of_below (S := fun k => w.heap.size ≤ k) hb).trans hK6 (fun k e => Or.inr (by omega))).alloc _ |>.below (Nat.le_refl _) (fun k e => e)

set_option maxHeartbeats 1000000 in
set_option maxRecDepth 100000 in
theorem submitC_no (bi : Nat) (w : World) (p : Addr) (width wl : Int)
    (hK : ∀ w1, Below w.heap.size w w1 → Calls Tryz.prog 90 #[.pointer (some ⟨bi, 0, none⟩), .int .i64 width, .int .i64 wl] w1 fun e w' => ∃ vb, e = .returned (.iface 178 (.pointer (some ⟨vb, 0, none⟩))) ∧ ValE w' vb p ∧ Below w1.heap.size w1 w') :
    Calls Tryz.prog 53 #[.pointer (some ⟨bi, 0, none⟩), .int .i64 width, .int .i64 wl] w fun e w' => ∃ pa, e = .returned (.tuple #[.agg noughts6, .iface 160 (.pointer (some ⟨pa, 0, none⟩))]) ∧ RefV w' pa p ∧ Below w.heap.size w w' := by
  have hB : ∀ o, Below w.heap.size w (w.alloc o) := fun o => (Below.refl _ _).alloc (Nat.le_refl _) o
  have HK := Lib.hid hK
  clear hK
  go_enter Tryz.func53, Tryz.ntmps53
  go_wp2_with (go_at_call 90; refine (HK.out _ (hB _)).mono ?_; rintro e w1 ⟨vb, rfl, hv, hb1⟩; refine Hid.out ?_)
  refine Lib.hid ?_
  have hq : w1.heap[w.heap.size]? = some (.cells noughts6 34 (0, 0)) := (hb1.block _ (by simp)).trans (heap_alloc_new w _)
  have hs1 : w.heap.size < w1.heap.size := (Array.getElem?_eq_some_iff.1 hq).1
  have q0 := cell_of_row _ _ 0 _ _ (0, 0) hq
  have q1 := cell_of_row _ _ 1 _ _ (0, 0) hq
  have q2 := cell_of_row _ _ 2 _ _ (0, 0) hq
  have q3 := cell_of_row _ _ 3 _ _ (0, 0) hq
  have q4 := cell_of_row _ _ 4 _ _ (0, 0) hq
  have q5 := cell_of_row _ _ 5 _ _ (0, 0) hq
  have qf := fun j => frozen_of_row _ _ j _ _ hq
  simp at q0 q1 q2 q3 q4 q5
  have HE := Lib.hid (fun s => refuse_end s hq hv ((hB _).trans (hb1.mono (by simp))))
  clear hq hv hb1 hB
  go_wp2
  refine bodyPost_ret (v := .tuple #[.agg noughts6, .iface 160 (.pointer (some ⟨w1.heap.size, 0, none⟩))]) (results_reply Tryz.results53 _ _ w.heap.size _ _ _ _ _ _ rfl (HE.out _).1) rfl ?_
  exact ⟨w1.heap.size, rfl, (HE.out _).2⟩

end Go.Proofs.YtpcgnadfldimhaaGreatDoor
namespace Go.Proofs.YtpcgnadfldimhaaGreatDoor
open Go.RowKit

/-- What a call of the cluster leaves: the reply's events x, owned, none of the cluster's own blocks; the cluster. -/
structure CluLeft (base bi : Nat) (nodes jobs wall last now : Int) (vr vl vh : Value) (M : List Job) (es : List Ev) (x : Value) (w w' : World) : Prop where
  own : w'.ownsRow w.heap.size 55 4 x es.length (gfl Ev.four es)
  clu : ∃ vr' vl' vh' E', Clu base bi nodes jobs wall last now vr' vl' vh' M E' w' ∧ Trail bi vr vl vh vr' vl' vh' w w' ∧ ∀ k, x.ownBlock = some k → ¬ clB bi vr' vl' vh' k

theorem Due.app {L : List Job} {E F : List Ev} {width wl st en : Int} (h : Due L E) (hp : F.Perm (E ++ [⟨1, (L.length : Int) + 1, st, 0⟩])) : Due (L ++ [⟨width, wl, 1, st, en⟩]) F := by
  have d := h.add (b := ⟨width, wl, 1, st, en⟩) (Or.inl rfl)
  have e : (⟨width, wl, 1, st, en⟩ : Job).event L.length = ⟨1, (L.length : Int) + 1, st, 0⟩ := by simp [Job.event, Job.due]
  rw [e] at d
  exact d.perm hp

/-- Behind what happens, and the reply's store into its own block. -/
theorem cluLeft_end {base bi : Nat} {fin nodes jobs wall last now : Int} {vr vl vh vr4 vl4 vh4 vl5 vh5 x : Value} {L M : List Job} {es E : List Ev} {w w4 w5 : World} (h : Hap base bi fin nodes jobs wall last now vr4 vl4 vh4 L w4 vl5 vh5 x M es E w5) (hT : Trail bi vr vl vh vr4 vl4 vh4 w w4) (hs : w.heap.size < w4.heap.size) (hn : ¬ clB bi vr4 vl4 vh4 w.heap.size) (x0 x1 x2 x3 x4 x5 : Value) : CluLeft base bi nodes jobs wall last now vr vl vh M es x w (putR w5 w.heap.size x0 x1 x2 x3 x4 x5) := by
  have hK := (Kept.refl (fun k => k = w.heap.size) w5).putR (g := w.heap.size) (Or.inl rfl) x0 x1 x2 x3 x4 x5
  have hs5 := h.trail.kept.size
  have hn5 : ¬ clB bi vr4 vl5 vh5 w.heap.size := fun e => by
    rcases h.trail.new _ e with e | e
    · exact hn e
    · omega
  generalize putR w5 w.heap.size x0 x1 x2 x3 x4 x5 = W at *
  have hTT := hT.trans h.trail
  refine ⟨owns_on (owns_mono h.own (by omega)) (fun k e => hK.block k (h.own.lt k e).2 (fun e2 => by have := (h.own.lt k e).1; omega)), vr4, vl5, vh5, E, ⟨h.clu.cl.kept hK (fun k e => e ▸ hn5), h.clu.due, h.clu.heap, h.clu.few⟩, ⟨hTT.kept.trans hK (fun k e => Or.inr (by omega)), hTT.new⟩, h.apart⟩

set_option maxHeartbeats 1000000 in
set_option maxRecDepth 100000 in
theorem submitC_yes (base bi : Nat) (nodes jobs wall last now : Int) (vr vl vh : Value) (L : List Job) (E : List Ev) (w : World) (h : Clu base bi nodes jobs wall last now vr vl vh L E w) (hbase : base ≤ w.heap.size) (hL : L.length < 1000000000) (hW : ∀ j ∈ L, 1 ≤ j.width ∧ j.width ≤ 64) (hS : ∀ j ∈ L, j.stop ≤ 5000000000000000000) (hn : nodes ≤ 64) (hwa : wall ≤ 1000000000) (t0 : 0 ≤ now) (t1 : now ≤ 5000000000000000000) (width wl : Int) (w1' : 1 ≤ width) (w2' : width ≤ nodes) (w3' : 1 ≤ wl) (w4' : wl ≤ wall) (hf : ¬ jobs ≤ (liveN L L.length : Int)) (t : Int) (HT : Hid (earliest L nodes now width wl (-1) = t)) (ht : t ≤ 5000000000000000000) (ht0 : 0 ≤ t) :
    Calls Tryz.prog 53 #[.pointer (some ⟨bi, 0, none⟩), .int .i64 width, .int .i64 wl] w fun e w' => ∃ x M es, e = .returned (.tuple #[.agg #[.int .i64 0, .int .i64 ((L.length : Int) + 1), .int .i64 t, .int .i64 0, .slice none 0 0, x], .nilIface]) ∧ Runs now (L ++ [⟨width, wl, 1, t, t + wl⟩]) es M ∧ CluLeft base bi nodes jobs wall last now vr vl vh M es x w w' := by
  have hSl : (seats L).length = liveN L L.length := seatsN_len L L.length
  have hEl := h.few
  have hSe : (seats L).length ≤ L.length := by rw [hSl]; exact liveN_le L L.length
  have hRl := resS_len L (-1) (seats L)
  rw [show resS L (-1) (seats L) = resN L (-1) L.length from resS_seats L (-1) L.length] at hRl
  have HK := Lib.hid (fun (w1 : World) (hb : Below w.heap.size w w1) => checkJob_ok base bi nodes jobs wall last now vr vl vh L (seats L) E w1 (h.cl.below hb) width wl w1' w2' w3' w4' (by rw [hSl]; exact hf))
  have HP := Lib.hid (fun (w1 : World) (hb : Below w.heap.size w w1) => plan_any base bi nodes jobs wall last now vr vl vh L E w1 (h.cl.below hb) (-1))
  have HH := Lib.hid h
  have hlt := h.cl.hp.lt
  clear h
  go_enter Tryz.func53, Tryz.ntmps53
  have hB : ∀ o, Below w.heap.size w (w.alloc o) := fun o => (Below.refl _ _).alloc (Nat.le_refl _) o
  go_wp2_with (go_at_call 90; refine (HK.out _ (hB _)).mono ?_; rintro e w1 ⟨rfl, hb1⟩; refine Hid.out ?_)
  refine Lib.hid ?_
  have hq : w1.heap[w.heap.size]? = some (.cells noughts6 34 (0, 0)) := (hb1.block _ (by simp)).trans (heap_alloc_new w _)
  have hbw : Below w.heap.size w w1 := (hB _).trans (hb1.mono (by simp))
  have c4 := (HH.out.cl.below hbw).cell 4
  simp at c4
  have HQ := Lib.hid hq
  have HBW := Lib.hid hbw
  have hs1 : w.heap.size < w1.heap.size := (Array.getElem?_eq_some_iff.1 hq).1
  have hlt1 : bi < w1.heap.size := by omega
  clear hb1 hq hbw hB HK
  go_wp2
  go_region_with (first | (go_at_call 91; refine (HP.out _ (HBW.out.drew)).mono ?_; rintro e w2 ⟨pp, cp, rfl, hlaid, hb2⟩; have c4' := (hb2.cell (p := ⟨bi, 4, none⟩) hlt1).trans c4; have HL2 := Lib.hid hlaid; have HB2 := Lib.hid hb2; clear hlaid hb2) | (go_at_call 92; refine (pearliest_any L (-1) nodes width wl now pp cp _ HL2.out hW hS (by omega) (by omega) w2' hn w3' (by omega) t0 t1).mono ?_; rintro e w3 ⟨rfl, hb3⟩; rw [HT.out]; have HB3 := Lib.hid hb3; clear hb3))
  all_goals
    have hb3w : Below w.heap.size w w3 := ((HBW.out.drew).trans (HB2.out.mono HBW.out.size)).trans (HB3.out.mono (Nat.le_trans HBW.out.size HB2.out.size))
    have hs3 := hb3w.size
    have hq3 : w3.heap[w.heap.size]? = some (.cells noughts6 34 (0, 0)) := (HB3.out.block _ (Nat.lt_of_lt_of_le hs1 HB2.out.size)).trans ((HB2.out.block _ hs1).trans HQ.out)
    have hs3' : w.heap.size < w3.heap.size := (Array.getElem?_eq_some_iff.1 hq3).1
    have hC3 := HH.out.cl.below hb3w
    have hA := add_any base bi nodes jobs wall last now vr vl vh L (seats L) E w3 hC3 (by omega) hL (by omega) (by omega) (fun e he => HH.out.due.ok e he) HH.out.heap width wl t (t + wl)
    have HB3w := Lib.hid hb3w
    have HQ3 := Lib.hid hq3
    have hnB : Hid (¬ clB bi vr vl vh w.heap.size) := Lib.hid (fun e => by have := HH.out.cl.lt _ e; omega)
    clear hb3w hq3 hC3 c4 HP HB2 HB3 HBW HQ
    try clear c4'
    go_wp2_with (go_at_call 93; refine hA.mono ?_; rintro e w4 ⟨rfl, vr4, vl4, vh4, F, hpF, hhF, hC4, hT4⟩; refine Hid.out ?_)
    refine Lib.hid ?_
    have hFl : F.length = E.length + 1 := by rw [hpF.length_eq]; simp
    have hClu4 : Clu base bi nodes jobs wall last now vr4 vl4 vh4 (L ++ [⟨width, wl, 1, t, t + wl⟩]) F w4 := ⟨by rw [seats_add L ⟨width, wl, 1, t, t + wl⟩ (by simp [Job.live, liveB])]; exact hC4, HH.out.due.app hpF, hhF, by simp; omega⟩
    have hN := happen_any base bi now nodes jobs wall last now vr4 vl4 vh4 _ F w4 hClu4 (by have := hT4.kept.size; omega)
    have c44 := hC4.cell 4
    simp at c44
    have hlt4 := hC4.hp.lt
    have hq4 := (hT4.kept.block w.heap.size hs3' hnB.out).trans HQ3.out
    have hnB4 : Hid (¬ clB bi vr4 vl4 vh4 w.heap.size) := Lib.hid (fun e => by rcases hT4.new _ e with e | e; exact hnB.out e; omega)
    have HT4 := Lib.hid hT4
    have HQ4 := Lib.hid hq4
    have hs4 : w.heap.size < w4.heap.size := (Array.getElem?_eq_some_iff.1 hq4).1
    clear hA hC4 hT4 hq4 hClu4
    go_wp2_with (go_at_call 94; refine hN.mono ?_; rintro e w5 ⟨x, M, es, E', vl5, vh5, rfl, hRun, hHap⟩; obtain ⟨px, cx, rfl⟩ := own_slice hHap.own; refine Hid.out ?_)
    refine Lib.hid ?_
    clear hN c44
    have hq5 := (hHap.trail.kept.block w.heap.size hs4 hnB4.out).trans HQ4.out
    have q0 := cell_of_row _ _ 0 _ _ (0, 0) hq5
    have q1 := cell_of_row _ _ 1 _ _ (0, 0) hq5
    have q2 := cell_of_row _ _ 2 _ _ (0, 0) hq5
    have q3 := cell_of_row _ _ 3 _ _ (0, 0) hq5
    have q4 := cell_of_row _ _ 4 _ _ (0, 0) hq5
    have q5 := cell_of_row _ _ 5 _ _ (0, 0) hq5
    have qf := fun j => frozen_of_row _ _ j _ _ hq5
    simp at q0 q1 q2 q3 q4 q5
    have HQ5 := Lib.hid hq5
    have HHap := Lib.hid hHap
    have HRun := Lib.hid hRun
    clear hq5 hHap hRun
    go_wp2
    have hb6 := putR_block HQ5.out (.int .i64 0) (.int .i64 ((L.length : Int) + 1)) (.int .i64 t) (.int .i64 0) (.slice none 0 0) (.slice px es.length cx)
    refine bodyPost_ret (v := .tuple #[.agg #[.int .i64 0, .int .i64 ((L.length : Int) + 1), .int .i64 t, .int .i64 0, .slice none 0 0, .slice px es.length cx], .nilIface]) (results_reply Tryz.results53 _ _ w.heap.size _ _ _ _ _ _ rfl hb6) rfl ?_
    refine ⟨_, M, es, rfl, HRun.out, cluLeft_end HHap.out ((Trail.ofBelow HB3w.out).trans HT4.out) hs4 hnB4.out _ _ _ _ _ _⟩

end Go.Proofs.YtpcgnadfldimhaaGreatDoor
