/-
 The program's cluster: Cancel and Done.
-/
import Derived.Test.YtpcgnadfldimhaaGreatDoorEarY
import Derived.Test.YtpcgnadfldimhaaGreatDoorEarX
namespace Go.Proofs.YtpcgnadfldimhaaGreatDoor
open Go.RowKit

theorem refuse_endJ {w w1 : World} {c : Addr} (s : Value) (hq : w1.heap[w.heap.size]? = some (.cells noughts6 34 (0, 0))) (hb : Below w.heap.size w w1) :
  ((putR w1 w.heap.size (.int .i64 0) (.int .i64 0) (.int .i64 0) (.int .i64 0) (.slice none 0 0) (.slice none 0 0)).alloc (.cells #[s, .iface 115 (.pointer (some c))] 162)).heap[w.heap.size]? = some (.cells noughts6 34 (0, 0)) ∧
  RefJ ((putR w1 w.heap.size (.int .i64 0) (.int .i64 0) (.int .i64 0) (.int .i64 0) (.slice none 0 0) (.slice none 0 0)).alloc (.cells #[s, .iface 115 (.pointer (some c))] 162)) w1.heap.size ∧
  Below w.heap.size w ((putR w1 w.heap.size (.int .i64 0) (.int .i64 0) (.int .i64 0) (.int .i64 0) (.slice none 0 0) (.slice none 0 0)).alloc (.cells #[s, .iface 115 (.pointer (some c))] 162)) := by
 have hs1 : w.heap.size < w1.heap.size := (Array.getElem?_eq_some_iff.1 hq).1
 have hK6 := (Kept.refl (fun k => k = w.heap.size) w1).putR (g := w.heap.size) (Or.inl rfl) (.int .i64 0) (.int .i64 0) (.int .i64 0) (.int .i64 0) (.slice none 0 0) (.slice none 0 0)
 have hb6 := putR_block hq (.int .i64 0) (.int .i64 0) (.int .i64 0) (.int .i64 0) (.slice none 0 0) (.slice none 0 0)
 have hz6 := putR_size w1 w.heap.size (.int .i64 0) (.int .i64 0) (.int .i64 0) (.int .i64 0) (.slice none 0 0) (.slice none 0 0)
 generalize putR w1 w.heap.size (.int .i64 0) (.int .i64 0) (.int .i64 0) (.int .i64 0) (.slice none 0 0) (.slice none 0 0) = W6 at *
 refine ⟨(Below.heap_alloc _ _ _ (by omega)).trans hb6, ⟨c, ?_⟩, ?_⟩
 ·have := cell_of_row _ _ 1 _ _ (0, 0) (alloc_at W6 (.cells #[s, .iface 115 (.pointer (some c))] 162) w1.heap.size hz6)
  simpa using this
 ·exact ((Kept.of_below (S := fun k => w.heap.size ≤ k) hb).trans hK6 (fun k e => Or.inr (by omega))).alloc _ |>.below (Nat.le_refl _) (fun k e => e)

set_option maxHeartbeats 1000000 in
set_option maxRecDepth 100000 in
theorem cancelC_6 (bi : Nat) (w : World) (p : Addr) (x : Int)
  (hK : ∀ w1, Below w.heap.size w w1 → w1.heap[w.heap.size + 1]? = some (.cells #[.int .i64 1, .int .i64 2] 3) → Calls Tryz.prog 95 #[.pointer (some ⟨bi, 0, none⟩), .int .i64 x, .slice (some ⟨w.heap.size + 1, 0, none⟩) 2 2] w1 fun e w' => ∃ vb, e = .returned (.iface 178 (.pointer (some ⟨vb, 0, none⟩))) ∧ ValE w' vb p ∧ Below w1.heap.size w1 w') :
  Calls Tryz.prog 54 #[.pointer (some ⟨bi, 0, none⟩), .int .i64 x] w fun e w' => ∃ pa, e = .returned (.tuple #[.agg noughts6, .iface 160 (.pointer (some ⟨pa, 0, none⟩))]) ∧ RefV w' pa p ∧ Below w.heap.size w w' := by
 have hB : Below w.heap.size w ((w.alloc (.cells noughts6 34)).alloc (.cells #[.int .i64 1, .int .i64 2] 3)) := ((Below.refl _ _).alloc (Nat.le_refl _) _).alloc (by simp) _
 have hq0 := (Below.heap_alloc (w.alloc (.cells noughts6 34)) (.cells #[.int .i64 1, .int .i64 2] 3) w.heap.size (by simp)).trans (heap_alloc_new w _)
 have HB := Lib.hid hB
 have HQ := Lib.hid hq0
 have HK := Lib.hid (hK _ hB (alloc_at _ _ (w.heap.size + 1) (by simp)))
 clear hK hB hq0
 go_enter Tryz.func54, Tryz.ntmps54
 go_wp2_with (go_at_call 95; refine HK.out.mono ?_; rintro e w1 ⟨vb, rfl, hv, hb1⟩; refine Hid.out ?_)
 refine Lib.hid ?_
 have hq : w1.heap[w.heap.size]? = some (.cells noughts6 34 (0, 0)) := (hb1.block _ (by simp; omega)).trans HQ.out
 have hs1 : w.heap.size < w1.heap.size := (Array.getElem?_eq_some_iff.1 hq).1
 have hbw : Below w.heap.size w w1 := HB.out.trans (hb1.mono (by simp; omega))
 have q0 := cell_of_row _ _ 0 _ _ (0, 0) hq
 have q1 := cell_of_row _ _ 1 _ _ (0, 0) hq
 have q2 := cell_of_row _ _ 2 _ _ (0, 0) hq
 have q3 := cell_of_row _ _ 3 _ _ (0, 0) hq
 have q4 := cell_of_row _ _ 4 _ _ (0, 0) hq
 have q5 := cell_of_row _ _ 5 _ _ (0, 0) hq
 have qf := fun j => frozen_of_row _ _ j _ _ hq
 simp at q0 q1 q2 q3 q4 q5
 have HE := Lib.hid (fun s => refuse_end s hq hv hbw)
 clear hq hv hb1 hbw HK HB HQ
 go_wp2
 refine bodyPost_ret (v := .tuple #[.agg noughts6, .iface 160 (.pointer (some ⟨w1.heap.size, 0, none⟩))]) (results_reply Tryz.results54 _ _ w.heap.size _ _ _ _ _ _ rfl (HE.out _).1) rfl ?_
 exact ⟨w1.heap.size, rfl, (HE.out _).2⟩

set_option maxHeartbeats 1000000 in
set_option maxRecDepth 100000 in
theorem cancelC_5 (bi : Nat) (w : World) (x : Int)
  (hK : ∀ w1, Below w.heap.size w w1 → w1.heap[w.heap.size + 1]? = some (.cells #[.int .i64 1, .int .i64 2] 3) → Calls Tryz.prog 95 #[.pointer (some ⟨bi, 0, none⟩), .int .i64 x, .slice (some ⟨w.heap.size + 1, 0, none⟩) 2 2] w1 fun e w' => ∃ vb, e = .returned (.iface 115 (.pointer (some ⟨vb, 0, none⟩))) ∧ Below w1.heap.size w1 w') :
  Calls Tryz.prog 54 #[.pointer (some ⟨bi, 0, none⟩), .int .i64 x] w fun e w' => ∃ pa, e = .returned (.tuple #[.agg noughts6, .iface 160 (.pointer (some ⟨pa, 0, none⟩))]) ∧ RefJ w' pa ∧ Below w.heap.size w w' := by
 have hB : Below w.heap.size w ((w.alloc (.cells noughts6 34)).alloc (.cells #[.int .i64 1, .int .i64 2] 3)) := ((Below.refl _ _).alloc (Nat.le_refl _) _).alloc (by simp) _
 have hq0 := (Below.heap_alloc (w.alloc (.cells noughts6 34)) (.cells #[.int .i64 1, .int .i64 2] 3) w.heap.size (by simp)).trans (heap_alloc_new w _)
 have HB := Lib.hid hB
 have HQ := Lib.hid hq0
 have HK := Lib.hid (hK _ hB (alloc_at _ _ (w.heap.size + 1) (by simp)))
 clear hK hB hq0
 go_enter Tryz.func54, Tryz.ntmps54
 go_wp2_with (go_at_call 95; refine HK.out.mono ?_; rintro e w1 ⟨vb, rfl, hb1⟩; refine Hid.out ?_)
 refine Lib.hid ?_
 have hq : w1.heap[w.heap.size]? = some (.cells noughts6 34 (0, 0)) := (hb1.block _ (by simp; omega)).trans HQ.out
 have hs1 : w.heap.size < w1.heap.size := (Array.getElem?_eq_some_iff.1 hq).1
 have hbw : Below w.heap.size w w1 := HB.out.trans (hb1.mono (by simp; omega))
 have q0 := cell_of_row _ _ 0 _ _ (0, 0) hq
 have q1 := cell_of_row _ _ 1 _ _ (0, 0) hq
 have q2 := cell_of_row _ _ 2 _ _ (0, 0) hq
 have q3 := cell_of_row _ _ 3 _ _ (0, 0) hq
 have q4 := cell_of_row _ _ 4 _ _ (0, 0) hq
 have q5 := cell_of_row _ _ 5 _ _ (0, 0) hq
 have qf := fun j => frozen_of_row _ _ j _ _ hq
 simp at q0 q1 q2 q3 q4 q5
 have HE := Lib.hid (fun s => refuse_endJ (c := ⟨vb, 0, none⟩) s hq hbw)
 clear hq hb1 hbw HK HB HQ
 go_wp2
 refine bodyPost_ret (v := .tuple #[.agg noughts6, .iface 160 (.pointer (some ⟨w1.heap.size, 0, none⟩))]) (results_reply Tryz.results54 _ _ w.heap.size _ _ _ _ _ _ rfl (HE.out _).1) rfl ?_
 exact ⟨w1.heap.size, rfl, (HE.out _).2⟩

set_option maxHeartbeats 1000000 in
set_option maxRecDepth 100000 in
theorem doneC_6 (bi : Nat) (w : World) (p : Addr) (x : Int)
  (hK : ∀ w1, Below w.heap.size w w1 → w1.heap[w.heap.size + 1]? = some (.cells #[.int .i64 2] 3) → Calls Tryz.prog 95 #[.pointer (some ⟨bi, 0, none⟩), .int .i64 x, .slice (some ⟨w.heap.size + 1, 0, none⟩) 1 1] w1 fun e w' => ∃ vb, e = .returned (.iface 178 (.pointer (some ⟨vb, 0, none⟩))) ∧ ValE w' vb p ∧ Below w1.heap.size w1 w') :
  Calls Tryz.prog 55 #[.pointer (some ⟨bi, 0, none⟩), .int .i64 x] w fun e w' => ∃ pa, e = .returned (.tuple #[.agg noughts6, .iface 160 (.pointer (some ⟨pa, 0, none⟩))]) ∧ RefV w' pa p ∧ Below w.heap.size w w' := by
 have hB : Below w.heap.size w ((w.alloc (.cells noughts6 34)).alloc (.cells #[.int .i64 2] 3)) := ((Below.refl _ _).alloc (Nat.le_refl _) _).alloc (by simp) _
 have hq0 := (Below.heap_alloc (w.alloc (.cells noughts6 34)) (.cells #[.int .i64 2] 3) w.heap.size (by simp)).trans (heap_alloc_new w _)
 have HB := Lib.hid hB
 have HQ := Lib.hid hq0
 have HK := Lib.hid (hK _ hB (alloc_at _ _ (w.heap.size + 1) (by simp)))
 clear hK hB hq0
 go_enter Tryz.func55, Tryz.ntmps55
 go_wp2_with (go_at_call 95; refine HK.out.mono ?_; rintro e w1 ⟨vb, rfl, hv, hb1⟩; refine Hid.out ?_)
 refine Lib.hid ?_
 have hq : w1.heap[w.heap.size]? = some (.cells noughts6 34 (0, 0)) := (hb1.block _ (by simp; omega)).trans HQ.out
 have hs1 : w.heap.size < w1.heap.size := (Array.getElem?_eq_some_iff.1 hq).1
 have hbw : Below w.heap.size w w1 := HB.out.trans (hb1.mono (by simp; omega))
 have q0 := cell_of_row _ _ 0 _ _ (0, 0) hq
 have q1 := cell_of_row _ _ 1 _ _ (0, 0) hq
 have q2 := cell_of_row _ _ 2 _ _ (0, 0) hq
 have q3 := cell_of_row _ _ 3 _ _ (0, 0) hq
 have q4 := cell_of_row _ _ 4 _ _ (0, 0) hq
 have q5 := cell_of_row _ _ 5 _ _ (0, 0) hq
 have qf := fun j => frozen_of_row _ _ j _ _ hq
 simp at q0 q1 q2 q3 q4 q5
 have HE := Lib.hid (fun s => refuse_end s hq hv hbw)
 clear hq hv hb1 hbw HK HB HQ
 go_wp2
 refine bodyPost_ret (v := .tuple #[.agg noughts6, .iface 160 (.pointer (some ⟨w1.heap.size, 0, none⟩))]) (results_reply Tryz.results55 _ _ w.heap.size _ _ _ _ _ _ rfl (HE.out _).1) rfl ?_
 exact ⟨w1.heap.size, rfl, (HE.out _).2⟩

set_option maxHeartbeats 1000000 in
set_option maxRecDepth 100000 in
theorem doneC_5 (bi : Nat) (w : World) (x : Int)
  (hK : ∀ w1, Below w.heap.size w w1 → w1.heap[w.heap.size + 1]? = some (.cells #[.int .i64 2] 3) → Calls Tryz.prog 95 #[.pointer (some ⟨bi, 0, none⟩), .int .i64 x, .slice (some ⟨w.heap.size + 1, 0, none⟩) 1 1] w1 fun e w' => ∃ vb, e = .returned (.iface 115 (.pointer (some ⟨vb, 0, none⟩))) ∧ Below w1.heap.size w1 w') :
  Calls Tryz.prog 55 #[.pointer (some ⟨bi, 0, none⟩), .int .i64 x] w fun e w' => ∃ pa, e = .returned (.tuple #[.agg noughts6, .iface 160 (.pointer (some ⟨pa, 0, none⟩))]) ∧ RefJ w' pa ∧ Below w.heap.size w w' := by
 have hB : Below w.heap.size w ((w.alloc (.cells noughts6 34)).alloc (.cells #[.int .i64 2] 3)) := ((Below.refl _ _).alloc (Nat.le_refl _) _).alloc (by simp) _
 have hq0 := (Below.heap_alloc (w.alloc (.cells noughts6 34)) (.cells #[.int .i64 2] 3) w.heap.size (by simp)).trans (heap_alloc_new w _)
 have HB := Lib.hid hB
 have HQ := Lib.hid hq0
 have HK := Lib.hid (hK _ hB (alloc_at _ _ (w.heap.size + 1) (by simp)))
 clear hK hB hq0
 go_enter Tryz.func55, Tryz.ntmps55
 go_wp2_with (go_at_call 95; refine HK.out.mono ?_; rintro e w1 ⟨vb, rfl, hb1⟩; refine Hid.out ?_)
 refine Lib.hid ?_
 have hq : w1.heap[w.heap.size]? = some (.cells noughts6 34 (0, 0)) := (hb1.block _ (by simp; omega)).trans HQ.out
 have hs1 : w.heap.size < w1.heap.size := (Array.getElem?_eq_some_iff.1 hq).1
 have hbw : Below w.heap.size w w1 := HB.out.trans (hb1.mono (by simp; omega))
 have q0 := cell_of_row _ _ 0 _ _ (0, 0) hq
 have q1 := cell_of_row _ _ 1 _ _ (0, 0) hq
 have q2 := cell_of_row _ _ 2 _ _ (0, 0) hq
 have q3 := cell_of_row _ _ 3 _ _ (0, 0) hq
 have q4 := cell_of_row _ _ 4 _ _ (0, 0) hq
 have q5 := cell_of_row _ _ 5 _ _ (0, 0) hq
 have qf := fun j => frozen_of_row _ _ j _ _ hq
 simp at q0 q1 q2 q3 q4 q5
 have HE := Lib.hid (fun s => refuse_endJ (c := ⟨vb, 0, none⟩) s hq hbw)
 clear hq hb1 hbw HK HB HQ
 go_wp2
 refine bodyPost_ret (v := .tuple #[.agg noughts6, .iface 160 (.pointer (some ⟨w1.heap.size, 0, none⟩))]) (results_reply Tryz.results55 _ _ w.heap.size _ _ _ _ _ _ rfl (HE.out _).1) rfl ?_
 exact ⟨w1.heap.size, rfl, (HE.out _).2⟩

end Go.Proofs.YtpcgnadfldimhaaGreatDoor
namespace Go.Proofs.YtpcgnadfldimhaaGreatDoor
open Go.RowKit

/-- Behind a call that leaves the cluster, the reply's store into its own block. -/
theorem cluLeft_put {base bi : Nat} {nodes jobs wall last now : Int} {vr vl vh x : Value} {M : List Job} {es : List Ev} {w w4 w5 : World} (h : CluLeft base bi nodes jobs wall last now vr vl vh M es x w4 w5) (hb : Below w.heap.size w w4) (hs : w.heap.size < w4.heap.size) (hn : ¬ clB bi vr vl vh w.heap.size) (x0 x1 x2 x3 x4 x5 : Value) : CluLeft base bi nodes jobs wall last now vr vl vh M es x w (putR w5 w.heap.size x0 x1 x2 x3 x4 x5) := by
 obtain ⟨ho, vr5, vl5, vh5, E5, hC, hT, hA⟩ := h
 have hK := (Kept.refl (fun k => k = w.heap.size) w5).putR (g := w.heap.size) (Or.inl rfl) x0 x1 x2 x3 x4 x5
 have hs5 := hT.kept.size
 have hn5 : ¬ clB bi vr5 vl5 vh5 w.heap.size := fun e => by
  rcases hT.new _ e with e | e
  ·exact hn e
  ·omega
 generalize putR w5 w.heap.size x0 x1 x2 x3 x4 x5 = W at *
 have hTT := (Trail.ofBelow hb).trans hT
 refine ⟨owns_on (owns_mono ho (by omega)) (fun k e => hK.block k (ho.lt k e).2 (fun e2 => by have := (ho.lt k e).1; omega)), vr5, vl5, vh5, E5, ⟨hC.cl.kept hK (fun k e => e ▸ hn5), hC.due, hC.heap, hC.few⟩, ⟨hTT.kept.trans hK (fun k e => Or.inr (by omega)), hTT.new⟩, hA⟩

set_option maxHeartbeats 1000000 in
set_option maxRecDepth 100000 in
theorem cancelC_yes (base bi : Nat) (nodes jobs wall last now : Int) (vr vl vh : Value) (L : List Job) (E : List Ev) (w : World) (h : Clu base bi nodes jobs wall last now vr vl vh L E w) (hbase : base ≤ w.heap.size) (hG : Good nodes jobs wall last now L) (i : Nat) (j : Job) (hj : L[i]? = some j) (hl : j.live = true)
  (hK : ∀ w1, Below w.heap.size w w1 → w1.heap[w.heap.size + 1]? = some (.cells #[.int .i64 1, .int .i64 2] 3) → Calls Tryz.prog 95 #[.pointer (some ⟨bi, 0, none⟩), .int .i64 ((i : Int) + 1), .slice (some ⟨w.heap.size + 1, 0, none⟩) 2 2] w1 fun e w' => e = .returned .nilIface ∧ Below w1.heap.size w1 w') :
  Calls Tryz.prog 54 #[.pointer (some ⟨bi, 0, none⟩), .int .i64 ((i : Int) + 1)] w fun e w' => ∃ x M es, e = .returned (.tuple #[.agg #[.int .i64 0, .int .i64 0, .int .i64 0, .int .i64 0, .slice none 0 0, x], .nilIface]) ∧ Rounds nodes now (L.set i (j.early now 5)) es M ∧ CluLeft base bi nodes jobs wall last now vr vl vh (M.map (Job.go now)) (es ++ startE M now M.length) x w w' := by
 have hB : Below w.heap.size w ((w.alloc (.cells noughts6 34)).alloc (.cells #[.int .i64 1, .int .i64 2] 3)) := ((Below.refl _ _).alloc (Nat.le_refl _) _).alloc (by simp) _
 have hq0 := (Below.heap_alloc (w.alloc (.cells noughts6 34)) (.cells #[.int .i64 1, .int .i64 2] 3) w.heap.size (by simp)).trans (heap_alloc_new w _)
 have hnB : Hid (¬ clB bi vr vl vh w.heap.size) := Lib.hid (fun e => by have := h.cl.lt _ e; omega)
 have HB := Lib.hid hB
 have HQ := Lib.hid hq0
 have HK := Lib.hid (hK _ hB (alloc_at _ _ (w.heap.size + 1) (by simp)))
 have HH := Lib.hid h
 have HG := Lib.hid hG
 have HJ := Lib.hid hj
 have HL := Lib.hid hl
 clear hK hB hq0 h hG hj hl
 go_enter Tryz.func54, Tryz.ntmps54
 go_wp2_with (go_at_call 95; refine HK.out.mono ?_; rintro e w1 ⟨rfl, hb1⟩; refine Hid.out ?_)
 refine Lib.hid ?_
 have hq : w1.heap[w.heap.size]? = some (.cells noughts6 34 (0, 0)) := (hb1.block _ (by simp; omega)).trans HQ.out
 have hs1 : w.heap.size < w1.heap.size := (Array.getElem?_eq_some_iff.1 hq).1
 have hbw : Below w.heap.size w w1 := HB.out.trans (hb1.mono (by simp; omega))
 have HN := Lib.hid (endEarly_any base bi nodes jobs wall last now vr vl vh L E w1 ⟨HH.out.cl.below hbw, HH.out.due, HH.out.heap, HH.out.few⟩ (by omega) HG.out i j HJ.out HL.out 5 (by decide) (by decide))
 have HQ1 := Lib.hid hq
 have HBW := Lib.hid hbw
 clear hq hbw hb1 HB HQ HK HH HG HJ HL
 go_wp2_with (go_at_call 96; refine HN.out.mono ?_; rintro e w5 ⟨x, M, es, rfl, hR, hC⟩; obtain ⟨fs, HFS⟩ : ∃ fs, Hid (es ++ startE M now M.length = fs) := ⟨_, Lib.hid rfl⟩; rw [HFS.out] at hC; obtain ⟨px, cx, rfl⟩ := own_slice hC.own; refine Hid.out ?_)
 refine Lib.hid ?_
 have hq5 : w5.heap[w.heap.size]? = some (.cells noughts6 34 (0, 0)) := by
  obtain ⟨_, _, _, _, _, hT, _⟩ := hC.clu
  exact (hT.kept.block w.heap.size hs1 hnB.out).trans HQ1.out
 have q0 := cell_of_row _ _ 0 _ _ (0, 0) hq5
 have q1 := cell_of_row _ _ 1 _ _ (0, 0) hq5
 have q2 := cell_of_row _ _ 2 _ _ (0, 0) hq5
 have q3 := cell_of_row _ _ 3 _ _ (0, 0) hq5
 have q4 := cell_of_row _ _ 4 _ _ (0, 0) hq5
 have q5 := cell_of_row _ _ 5 _ _ (0, 0) hq5
 have qf := fun j => frozen_of_row _ _ j _ _ hq5
 simp at q0 q1 q2 q3 q4 q5
 have hb6 := putR_block hq5 (.int .i64 0) (.int .i64 0) (.int .i64 0) (.int .i64 0) (.slice none 0 0) (.slice px fs.length cx)
 have HL := Lib.hid (cluLeft_put hC HBW.out hs1 hnB.out (.int .i64 0) (.int .i64 0) (.int .i64 0) (.int .i64 0) (.slice none 0 0) (.slice px fs.length cx))
 have HB6 := Lib.hid hb6
 have HR := Lib.hid hR
 clear hq5 hC hR hb6 HQ1 HBW HN
 go_wp2
 refine bodyPost_ret (v := .tuple #[.agg #[.int .i64 0, .int .i64 0, .int .i64 0, .int .i64 0, .slice none 0 0, .slice px fs.length cx], .nilIface]) (results_reply Tryz.results54 _ _ w.heap.size _ _ _ _ _ _ rfl HB6.out) rfl ?_
 exact ⟨_, M, es, rfl, HR.out, by rw [HFS.out]; exact HL.out⟩

set_option maxHeartbeats 1000000 in
set_option maxRecDepth 100000 in
theorem doneC_yes (base bi : Nat) (nodes jobs wall last now : Int) (vr vl vh : Value) (L : List Job) (E : List Ev) (w : World) (h : Clu base bi nodes jobs wall last now vr vl vh L E w) (hbase : base ≤ w.heap.size) (hG : Good nodes jobs wall last now L) (i : Nat) (j : Job) (hj : L[i]? = some j) (hl : j.live = true)
  (hK : ∀ w1, Below w.heap.size w w1 → w1.heap[w.heap.size + 1]? = some (.cells #[.int .i64 2] 3) → Calls Tryz.prog 95 #[.pointer (some ⟨bi, 0, none⟩), .int .i64 ((i : Int) + 1), .slice (some ⟨w.heap.size + 1, 0, none⟩) 1 1] w1 fun e w' => e = .returned .nilIface ∧ Below w1.heap.size w1 w') :
  Calls Tryz.prog 55 #[.pointer (some ⟨bi, 0, none⟩), .int .i64 ((i : Int) + 1)] w fun e w' => ∃ x M es, e = .returned (.tuple #[.agg #[.int .i64 0, .int .i64 0, .int .i64 0, .int .i64 0, .slice none 0 0, x], .nilIface]) ∧ Rounds nodes now (L.set i (j.early now 3)) es M ∧ CluLeft base bi nodes jobs wall last now vr vl vh (M.map (Job.go now)) (es ++ startE M now M.length) x w w' := by
 have hB : Below w.heap.size w ((w.alloc (.cells noughts6 34)).alloc (.cells #[.int .i64 2] 3)) := ((Below.refl _ _).alloc (Nat.le_refl _) _).alloc (by simp) _
 have hq0 := (Below.heap_alloc (w.alloc (.cells noughts6 34)) (.cells #[.int .i64 2] 3) w.heap.size (by simp)).trans (heap_alloc_new w _)
 have hnB : Hid (¬ clB bi vr vl vh w.heap.size) := Lib.hid (fun e => by have := h.cl.lt _ e; omega)
 have HB := Lib.hid hB
 have HQ := Lib.hid hq0
 have HK := Lib.hid (hK _ hB (alloc_at _ _ (w.heap.size + 1) (by simp)))
 have HH := Lib.hid h
 have HG := Lib.hid hG
 have HJ := Lib.hid hj
 have HL := Lib.hid hl
 clear hK hB hq0 h hG hj hl
 go_enter Tryz.func55, Tryz.ntmps55
 go_wp2_with (go_at_call 95; refine HK.out.mono ?_; rintro e w1 ⟨rfl, hb1⟩; refine Hid.out ?_)
 refine Lib.hid ?_
 have hq : w1.heap[w.heap.size]? = some (.cells noughts6 34 (0, 0)) := (hb1.block _ (by simp; omega)).trans HQ.out
 have hs1 : w.heap.size < w1.heap.size := (Array.getElem?_eq_some_iff.1 hq).1
 have hbw : Below w.heap.size w w1 := HB.out.trans (hb1.mono (by simp; omega))
 have HN := Lib.hid (endEarly_any base bi nodes jobs wall last now vr vl vh L E w1 ⟨HH.out.cl.below hbw, HH.out.due, HH.out.heap, HH.out.few⟩ (by omega) HG.out i j HJ.out HL.out 3 (by decide) (by decide))
 have HQ1 := Lib.hid hq
 have HBW := Lib.hid hbw
 clear hq hbw hb1 HB HQ HK HH HG HJ HL
 go_wp2_with (go_at_call 96; refine HN.out.mono ?_; rintro e w5 ⟨x, M, es, rfl, hR, hC⟩; obtain ⟨fs, HFS⟩ : ∃ fs, Hid (es ++ startE M now M.length = fs) := ⟨_, Lib.hid rfl⟩; rw [HFS.out] at hC; obtain ⟨px, cx, rfl⟩ := own_slice hC.own; refine Hid.out ?_)
 refine Lib.hid ?_
 have hq5 : w5.heap[w.heap.size]? = some (.cells noughts6 34 (0, 0)) := by
  obtain ⟨_, _, _, _, _, hT, _⟩ := hC.clu
  exact (hT.kept.block w.heap.size hs1 hnB.out).trans HQ1.out
 have q0 := cell_of_row _ _ 0 _ _ (0, 0) hq5
 have q1 := cell_of_row _ _ 1 _ _ (0, 0) hq5
 have q2 := cell_of_row _ _ 2 _ _ (0, 0) hq5
 have q3 := cell_of_row _ _ 3 _ _ (0, 0) hq5
 have q4 := cell_of_row _ _ 4 _ _ (0, 0) hq5
 have q5 := cell_of_row _ _ 5 _ _ (0, 0) hq5
 have qf := fun j => frozen_of_row _ _ j _ _ hq5
 simp at q0 q1 q2 q3 q4 q5
 have hb6 := putR_block hq5 (.int .i64 0) (.int .i64 0) (.int .i64 0) (.int .i64 0) (.slice none 0 0) (.slice px fs.length cx)
 have HL := Lib.hid (cluLeft_put hC HBW.out hs1 hnB.out (.int .i64 0) (.int .i64 0) (.int .i64 0) (.int .i64 0) (.slice none 0 0) (.slice px fs.length cx))
 have HB6 := Lib.hid hb6
 have HR := Lib.hid hR
 clear hq5 hC hR hb6 HQ1 HBW HN
 go_wp2
 refine bodyPost_ret (v := .tuple #[.agg #[.int .i64 0, .int .i64 0, .int .i64 0, .int .i64 0, .slice none 0 0, .slice px fs.length cx], .nilIface]) (results_reply Tryz.results55 _ _ w.heap.size _ _ _ _ _ _ rfl HB6.out) rfl ?_
 exact ⟨_, M, es, rfl, HR.out, by rw [HFS.out]; exact HL.out⟩

end Go.Proofs.YtpcgnadfldimhaaGreatDoor
