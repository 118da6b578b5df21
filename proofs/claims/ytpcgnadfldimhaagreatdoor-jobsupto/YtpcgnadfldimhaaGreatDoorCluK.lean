/-
  The program's cluster: Tick.
-/
import Derived.Test.YtpcgnadfldimhaaGreatDoorCluH
namespace Go.Proofs.YtpcgnadfldimhaaGreatDoor
open Go.RowKit

theorem there_block {X : World} {g : Nat} {cs : Array Value} {t : TypeId} (h : X.heap[g]? = some (.cells cs t (0, 0))) : X.there g 0 cs.size := fun j hj => by
  rw [Nat.zero_add, cell_of_row _ _ j _ _ (0, 0) h]
  exact ⟨by simp [hj], frozen_of_row _ _ j _ _ h⟩
theorem setCells_putR (X : World) (g : Nat) (x0 x1 x2 x3 x4 x5 : Value) : X.setCells g 0 [x0, x1, x2, x3, x4, x5] = putR X g x0 x1 x2 x3 x4 x5 := rfl

/-- A refusal in memory, and the empty reply stored into its own block. -/
theorem refuse_put {w X : World} {pa : Nat} {p : Addr} (hq : X.heap[w.heap.size]? = some (.cells noughts6 34 (0, 0))) (hR : RefV X pa p) (hb : Below w.heap.size w X) :
    (X.setCells w.heap.size 0 noughts6.toList).heap[w.heap.size]? = some (.cells noughts6 34 (0, 0)) ∧ RefV (X.setCells w.heap.size 0 noughts6.toList) pa p ∧ Below w.heap.size w (X.setCells w.heap.size 0 noughts6.toList) := by
  have hs1 : w.heap.size < X.heap.size := (Array.getElem?_eq_some_iff.1 hq).1
  have hK6 := (Kept.refl (fun k => k = w.heap.size) X).putR (g := w.heap.size) (Or.inl rfl) (.int .i64 0) (.int .i64 0) (.int .i64 0) (.int .i64 0) (.slice none 0 0) (.slice none 0 0)
  have hb6 := putR_block hq (.int .i64 0) (.int .i64 0) (.int .i64 0) (.int .i64 0) (.slice none 0 0) (.slice none 0 0)
  obtain ⟨pb, h1, h2⟩ := hR
  have q1 := cell_of_row _ _ 1 _ _ (0, 0) hq
  have q2 := cell_of_row _ _ 2 _ _ (0, 0) hq
  have n1 : pa ≠ w.heap.size := fun e => by rw [e, q1] at h1; simp at h1
  have n2 : pb ≠ w.heap.size := fun e => by rw [e, q2] at h2; simp at h2
  have e : X.setCells w.heap.size 0 noughts6.toList = putR X w.heap.size (.int .i64 0) (.int .i64 0) (.int .i64 0) (.int .i64 0) (.slice none 0 0) (.slice none 0 0) := rfl
  rw [e]
  generalize putR X w.heap.size (.int .i64 0) (.int .i64 0) (.int .i64 0) (.int .i64 0) (.slice none 0 0) (.slice none 0 0) = W6 at *
  refine ⟨hb6, ⟨pb, ?_, ?_⟩, ((Kept.of_below (S := fun k => w.heap.size ≤ k) hb).trans hK6 (fun k e => Or.inr (by omega))).below (Nat.le_refl _) (fun k e => e)⟩
  · rw [World.cell?_of_block (hK6.block pa (block_lt_of_cell (a := ⟨pa, 1, none⟩) h1) n1)]; exact h1
  · rw [World.cell?_of_block (hK6.block pb (block_lt_of_cell (a := ⟨pb, 2, none⟩) h2) n2)]; exact h2
theorem refuse_putJ {w X : World} {pa : Nat} (hq : X.heap[w.heap.size]? = some (.cells noughts6 34 (0, 0))) (hR : RefJ X pa) (hb : Below w.heap.size w X) :
    (X.setCells w.heap.size 0 noughts6.toList).heap[w.heap.size]? = some (.cells noughts6 34 (0, 0)) ∧ RefJ (X.setCells w.heap.size 0 noughts6.toList) pa ∧ Below w.heap.size w (X.setCells w.heap.size 0 noughts6.toList) := by
  have hs1 : w.heap.size < X.heap.size := (Array.getElem?_eq_some_iff.1 hq).1
  have hK6 := (Kept.refl (fun k => k = w.heap.size) X).putR (g := w.heap.size) (Or.inl rfl) (.int .i64 0) (.int .i64 0) (.int .i64 0) (.int .i64 0) (.slice none 0 0) (.slice none 0 0)
  have hb6 := putR_block hq (.int .i64 0) (.int .i64 0) (.int .i64 0) (.int .i64 0) (.slice none 0 0) (.slice none 0 0)
  obtain ⟨c, h1⟩ := hR
  have q1 := cell_of_row _ _ 1 _ _ (0, 0) hq
  have n1 : pa ≠ w.heap.size := fun e => by rw [e, q1] at h1; simp at h1
  have e : X.setCells w.heap.size 0 noughts6.toList = putR X w.heap.size (.int .i64 0) (.int .i64 0) (.int .i64 0) (.int .i64 0) (.slice none 0 0) (.slice none 0 0) := rfl
  rw [e]
  generalize putR X w.heap.size (.int .i64 0) (.int .i64 0) (.int .i64 0) (.int .i64 0) (.slice none 0 0) (.slice none 0 0) = W6 at *
  refine ⟨hb6, ⟨c, ?_⟩, ((Kept.of_below (S := fun k => w.heap.size ≤ k) hb).trans hK6 (fun k e => Or.inr (by omega))).below (Nat.le_refl _) (fun k e => e)⟩
  rw [World.cell?_of_block (hK6.block pa (block_lt_of_cell (a := ⟨pa, 1, none⟩) h1) n1)]; exact h1

theorem refv_alloc {W1 : World} (s1 x s2 : Value) (p : Addr) : RefV ((W1.alloc (.cells #[s1, x, .iface 315 (.pointer (some p))] 180)).alloc (.cells #[s2, .iface 178 (.pointer (some ⟨W1.heap.size, 0, none⟩))] 162)) (W1.heap.size + 1) p := by
  refine ⟨W1.heap.size, ?_, ?_⟩
  · exact (cell_of_row _ _ 1 _ _ (0, 0) (alloc_at (W1.alloc (.cells #[s1, x, .iface 315 (.pointer (some p))] 180)) (.cells #[s2, .iface 178 (.pointer (some ⟨W1.heap.size, 0, none⟩))] 162) (W1.heap.size + 1) (by simp))).trans rfl
  · refine cellUp ?_ _
    exact (cell_of_row _ _ 2 _ _ (0, 0) (alloc_at W1 (.cells #[s1, x, .iface 315 (.pointer (some p))] 180) W1.heap.size rfl)).trans rfl

/-- The time goes on. -/
theorem Clu.tick {base bi : Nat} {nodes jobs wall last now : Int} {vr vl vh : Value} {L : List Job} {E : List Ev} {w : World} (h : Clu base bi nodes jobs wall last now vr vl vh L E w) (t : Int) : Clu base bi nodes jobs wall last t vr vl vh L E (w.setCell ⟨bi, 4, none⟩ (.int .i64 t)) ∧ Trail bi vr vl vh vr vl vh w (w.setCell ⟨bi, 4, none⟩ (.int .i64 t)) := by
  obtain ⟨nr, nl, nh⟩ := h.cl.blocks
  exact ⟨⟨⟨⟨heap_setCell_same w bi 4 _ _ _ h.cl.hp.blk, h.cl.hp.row.on (fun k e => Below.heap_setCell _ _ _ k (nh k e).1), h.cl.hp.len⟩, owns_on h.cl.rcd (fun k e => Below.heap_setCell _ _ _ k (nr k e).1), owns_on h.cl.liv (fun k e => Below.heap_setCell _ _ _ k (nl k e).1), h.cl.len, h.cl.few⟩, h.due, h.heap, h.few⟩, ⟨(Kept.refl _ w).setCell (p := ⟨bi, 4, none⟩) (Or.inl (Or.inl rfl)) _, fun k e => Or.inl e⟩⟩

set_option maxHeartbeats 1000000 in
set_option maxRecDepth 100000 in
theorem tickC_yes (base bi : Nat) (nodes jobs wall last now : Int) (vr vl vh : Value) (L : List Job) (E : List Ev) (w : World) (h : Clu base bi nodes jobs wall last now vr vl vh L E w) (hbase : base ≤ w.heap.size) (t0 : 0 ≤ now) (l1 : last ≤ 5000000000000000000) (n : Int) (n0 : 0 ≤ n) (hn : now + n ≤ last) :
    Calls Tryz.prog 56 #[.pointer (some ⟨bi, 0, none⟩), .int .i64 n] w fun e w' => ∃ x M es, e = .returned (.tuple #[.agg #[.int .i64 0, .int .i64 0, .int .i64 0, .int .i64 0, .slice none 0 0, x], .nilIface]) ∧ Runs (now + n) L es M ∧ CluLeft base bi nodes jobs wall last (now + n) vr vl vh M es x w w' := by
  have hB : Below w.heap.size w (w.alloc (.cells noughts6 34)) := (Below.refl _ _).alloc (Nat.le_refl _) _
  have h1 : Clu base bi nodes jobs wall last now vr vl vh L E (w.alloc (.cells noughts6 34)) := ⟨h.cl.below hB, h.due, h.heap, h.few⟩
  have hq := heap_alloc_new w (.cells noughts6 34)
  have hlt : bi < w.heap.size := h.cl.hp.lt
  have hnB : Hid (¬ clB bi vr vl vh w.heap.size) := Lib.hid (fun e => by have := h.cl.lt _ e; omega)
  have hz : w.heap.size < (w.alloc (.cells noughts6 34)).heap.size := by simp
  have c3 := h1.cl.cell 3
  have c4 := h1.cl.cell 4
  have f4 := h1.cl.frozen 4
  simp at c3 c4
  clear h
  go_enter Tryz.func56, Tryz.ntmps56
  go_wp2
  have HB := Lib.hid hB
  have H1 := Lib.hid h1
  have HQ := Lib.hid hq
  clear hB h1 hq
  generalize w.alloc (.cells noughts6 34) = W at *
  go_quiet (fail)
  have d4 : (W.drewN nq).cell? ⟨bi, 4, none⟩ = some (.int .i64 now) := c4
  have e4 : (W.drewN nq).frozen? ⟨bi, 4, none⟩ = false := f4
  have hlt2 : bi < (W.drewN nq).heap.size := by show bi < W.heap.size; omega
  have hz2 : w.heap.size < (W.drewN nq).heap.size := hz
  have hc2 : Clu base bi nodes jobs wall last now vr vl vh L E (W.drewN nq) := ⟨H1.out.cl.on (fun _ _ => rfl), H1.out.due, H1.out.heap, H1.out.few⟩
  have hq2 : (W.drewN nq).heap[w.heap.size]? = some (.cells noughts6 34 (0, 0)) := HQ.out
  have hb2 : Below w.heap.size w (W.drewN nq) := belowN HB.out nq
  generalize W.drewN nq = W1 at *
  obtain ⟨hC3, hT3⟩ := hc2.tick (now + n)
  have hs3 : (W1.setCell ⟨bi, 4, none⟩ (.int .i64 (now + n))).heap.size = W1.heap.size := by simp
  have hN := happen_any base bi (now + n) nodes jobs wall last (now + n) vr vl vh L E _ hC3 (by rw [hs3]; omega)
  have HC3 := Lib.hid hC3
  have HT3 := Lib.hid ((Trail.ofBelow hb2).trans hT3)
  have HQ3 := Lib.hid ((hT3.kept.block w.heap.size hz2 hnB.out).trans hq2)
  clear HB H1 HQ c3 c4 f4 hc2 hq2 hb2 hC3 hT3 hs3 hz
  go_wp2_with (go_at_call 94; refine hN.mono ?_; rintro e w5 ⟨x, M, es, E', vl5, vh5, rfl, hRun, hHap⟩; obtain ⟨px, cx, rfl⟩ := own_slice hHap.own; refine Hid.out ?_)
  refine Lib.hid ?_
  clear hN
  have hs4 : w.heap.size < (W1.setCell ⟨bi, 4, none⟩ (.int .i64 (now + n))).heap.size := by simp; omega
  have hq5 := (hHap.trail.kept.block w.heap.size hs4 hnB.out).trans HQ3.out
  have q0 := cell_of_row _ _ 0 _ _ (0, 0) hq5
  have q1 := cell_of_row _ _ 1 _ _ (0, 0) hq5
  have q2 := cell_of_row _ _ 2 _ _ (0, 0) hq5
  have q3 := cell_of_row _ _ 3 _ _ (0, 0) hq5
  have q4 := cell_of_row _ _ 4 _ _ (0, 0) hq5
  have q5 := cell_of_row _ _ 5 _ _ (0, 0) hq5
  have qf := fun j => frozen_of_row _ _ j _ _ hq5
  simp at q0 q1 q2 q3 q4 q5
  have hb6 := putR_block hq5 (.int .i64 0) (.int .i64 0) (.int .i64 0) (.int .i64 0) (.slice none 0 0) (.slice px es.length cx)
  have HL := Lib.hid (cluLeft_end hHap HT3.out hs4 hnB.out (.int .i64 0) (.int .i64 0) (.int .i64 0) (.int .i64 0) (.slice none 0 0) (.slice px es.length cx))
  have HB6 := Lib.hid hb6
  have HRun := Lib.hid hRun
  clear hq5 hHap hRun hb6 hs4 HC3 HT3 HQ3
  go_wp2
  refine bodyPost_ret (v := .tuple #[.agg #[.int .i64 0, .int .i64 0, .int .i64 0, .int .i64 0, .slice none 0 0, .slice px es.length cx], .nilIface]) (results_reply Tryz.results56 _ _ w.heap.size _ _ _ _ _ _ rfl HB6.out) rfl ?_
  exact ⟨_, M, es, rfl, HRun.out, HL.out⟩

end Go.Proofs.YtpcgnadfldimhaaGreatDoor
namespace Go.Proofs.YtpcgnadfldimhaaGreatDoor
open Go.RowKit

theorem noughts6_one : noughts6.all (·.oneCell') = true := by kernel_rfl
theorem store_reply {ops : Array Oper} {rest : List Oper} {op : Oper} {a : Act} {w : World} {Q : Exit → Act → World → Prop} (hgd : op.guard = none) (x y : Operand) (ho : op.op = .store 34 x y) (b : Nat) (cells : Array Value) (hx : a.eval x = .pointer (some ⟨b, 0, none⟩)) (hy : a.eval y = .agg cells) (ht : w.there b 0 cells.size) (hi : (Tryz.prog.info? 34).map (·.size) = some cells.size) (h1 : cells.all (·.oneCell') = true) (h : ∀ X, Hid (X = w.setCells b 0 cells.toList) → wpList Tryz.prog ops Q rest (a.put op.dst undef) X) : wpList Tryz.prog ops Q (op :: rest) a w :=
  wpList_store_mid hgd _ x y ho b 0 cells hx hy ht hi h1 (h _ (Lib.hid rfl))
theorem reply_size : (Tryz.prog.info? 34).map (·.size) = some noughts6.size := by kernel_rfl

set_option maxHeartbeats 1000000 in
set_option maxRecDepth 100000 in
theorem tickC_no (base bi : Nat) (nodes jobs wall last now : Int) (vr vl vh : Value) (R : List Job) (S : List (Int × Int)) (E : List Ev) (w : World) (h : Cl base bi nodes jobs wall last now vr vl vh R S E w) (a p1 p2 p3 p4 p5 : Addr) (hA : Asks a p1 p2 p3 p4 p5 w) (_t0 : 0 ≤ now) (t1 : now ≤ last) (_l1 : last ≤ 5000000000000000000) (n : Int) (hn : last < now + n) (hn1 : n ≤ 999999999999999999) :
    Calls Tryz.prog 56 #[.pointer (some ⟨bi, 0, none⟩), .int .i64 n] w fun e w' => ∃ pa, e = .returned (.tuple #[.agg noughts6, .iface 160 (.pointer (some ⟨pa, 0, none⟩))]) ∧ RefV w' pa p4 ∧ Below w.heap.size w w' := by
  have hB : Below w.heap.size w (w.alloc (.cells noughts6 34)) := (Below.refl _ _).alloc (Nat.le_refl _) _
  have c3 := (h.below hB).cell 3
  have c4 := (h.below hB).cell 4
  simp at c3 c4
  have s4 := (hA.on hB).s4.cell
  have hq := heap_alloc_new w (.cells noughts6 34)
  have hlt : bi < (w.alloc (.cells noughts6 34)).heap.size := by simp; have := h.hp.lt; omega
  have hz : w.heap.size < (w.alloc (.cells noughts6 34)).heap.size := by simp
  have hng : 17 ≤ (w.alloc (.cells noughts6 34)).heap.size := (hA.on hB).size
  clear h hA
  go_enter Tryz.func56, Tryz.ntmps56
  go_wp2
  generalize w.alloc (.cells noughts6 34) = W at *
  go_quiet (fail)
  have hB2 := belowN hB nq
  have hq2 : (W.drewN nq).heap[w.heap.size]? = some (.cells noughts6 34 (0, 0)) := hq
  have d4 : (W.drewN nq).cell? ⟨4, 0, none⟩ = some (.iface 315 (.pointer (some p4))) := s4
  have hz2 : w.heap.size < (W.drewN nq).heap.size := hz
  have hng2 : 17 ≤ (W.drewN nq).heap.size := hng
  generalize W.drewN nq = W1 at *
  have HE := Lib.hid (fun s1 x s2 => refuse_put ((Below.heap_alloc (W1.alloc _) _ _ (by simp; omega)).trans ((Below.heap_alloc W1 _ _ hz2).trans hq2)) (refv_alloc s1 x s2 p4) ((hB2.alloc hB2.size _).alloc (by have := hB2.size; simp; omega) _))
  have HTh := Lib.hid (fun o1 o2 => there_block (X := (W1.alloc o1).alloc o2) ((Below.heap_alloc (W1.alloc o1) o2 _ (by simp; omega)).trans ((Below.heap_alloc W1 o1 _ hz2).trans hq2)))
  clear hB hq hB2 hq2 s4 hz hng c3 c4 hlt
  go_wp2_with (refine store_reply rfl _ _ rfl w.heap.size noughts6 rfl rfl (HTh.out _ _) reply_size noughts6_one ?_; intro X5 HX5; refine Hid.out ?_)
  refine Lib.hid ?_
  have he : X5.heap[w.heap.size]? = some (.cells noughts6 34 (0, 0)) ∧ RefV X5 (W1.heap.size + 1) p4 ∧ Below w.heap.size w X5 := by
    rw [HX5.out]
    exact HE.out _ _ _
  have HE5 := Lib.hid he
  clear he HX5 HE HTh
  go_wp2
  refine bodyPost_ret (v := .tuple #[.agg noughts6, .iface 160 (.pointer (some ⟨W1.heap.size + 1, 0, none⟩))]) (results_reply Tryz.results56 _ _ w.heap.size _ _ _ _ _ _ rfl HE5.out.1) rfl ?_
  exact ⟨W1.heap.size + 1, rfl, HE5.out.2⟩

end Go.Proofs.YtpcgnadfldimhaaGreatDoor
