/-
  The statements without the document's answer: step, by its commands.
-/
import Derived.Test.YtpcgnadfldimhaaGreatDoorKepC
namespace Go.Proofs.YtpcgnadfldimhaaGreatDoor
open Go.RowKit

/-- What a step leaves. -/
def StepQ (B br bx : Nat) (K : List Kj) (L : List Job) (now : Int) (X : Nat → Prop) (c : Int × Int × Int) (w0 w : World) (e : Ending) (w' : World) : Prop :=
  e = .returned (.bool true) ∧ ∃ o X', DoE 8 12 30 1000000 now L c.1 c.2.1 c.2.2 o ∧ RunS B br bx (stepK K c o) o.L o.now o.now X' w' ∧ Kept X w w' ∧ (∀ k, X' k → X k ∨ w.heap.size ≤ k) ∧ Below w0.heap.size w0 w'

/-- Where the command lies: behind the call, or in a block that was made ahead of it. -/
def CmdAt (w : World) (k x y : Int) (xq : Value) (wr : World) : Prop := ∃ xb : Nat, xq = .pointer (some ⟨xb, 0, none⟩) ∧ wr.heap[xb]? = some (.cells #[.int .i64 k, .int .i64 x, .int .i64 y] 29 (0, 0)) ∧ Below w.heap.size w wr ∧ w.heap.size ≤ xb
theorem cmdAt_new {w w1 : World} {o : Obj} {k x y : Int} (hb : Below (w.alloc o).drew.heap.size (w.alloc o).drew w1) : CmdAt w k x y (.pointer (some ⟨w1.heap.size, 0, none⟩)) (w1.alloc (.cells #[.int .i64 k, .int .i64 x, .int .i64 y] 29)) := by
  have h0 : Below w.heap.size w (w.alloc o).drew := below_drewN (n := 1) ((Below.refl _ _).alloc (Nat.le_refl _) o)
  have h1 : Below w.heap.size w w1 := h0.trans (hb.mono h0.size)
  exact ⟨w1.heap.size, rfl, heap_alloc_new _ _, h1.alloc h1.size _, h1.size⟩
theorem cmdAt_old {w w1 : World} {o : Obj} {k x y a b c : Int} (hb : Below ((w.alloc o).alloc (.cells #[.int .i64 a, .int .i64 b, .int .i64 c] 29)).drew.heap.size ((w.alloc o).alloc (.cells #[.int .i64 a, .int .i64 b, .int .i64 c] 29)).drew w1) : CmdAt w k x y (.pointer (some ⟨w.heap.size + 1, 0, none⟩)) (((w1.setCell ⟨w.heap.size + 1, 0, none⟩ (.int .i64 k)).setCell ⟨w.heap.size + 1, 1, none⟩ (.int .i64 x)).setCell ⟨w.heap.size + 1, 2, none⟩ (.int .i64 y)) := by
  have h0 : Below w.heap.size w ((w.alloc o).alloc (.cells #[.int .i64 a, .int .i64 b, .int .i64 c] 29)).drew := below_drewN (n := 1) (((Below.refl _ _).alloc (Nat.le_refl _) o).alloc (by simp) _)
  have h1 : Below w.heap.size w w1 := h0.trans (hb.mono h0.size)
  have hq : w1.heap[w.heap.size + 1]? = some (.cells #[.int .i64 a, .int .i64 b, .int .i64 c] 29 (0, 0)) := (hb.block _ (by simp)).trans (alloc_at (w.alloc o) _ (w.heap.size + 1) (by simp))
  have q1 := heap_setCell_same w1 _ 0 _ _ (.int .i64 k) hq
  have q2 := heap_setCell_same _ _ 1 _ _ (.int .i64 x) q1
  have q3 := heap_setCell_same _ _ 2 _ _ (.int .i64 y) q2
  exact ⟨_, rfl, q3, ((h1.setCell (p := ⟨w.heap.size + 1, 0, none⟩) (by simp) _).setCell (p := ⟨w.heap.size + 1, 1, none⟩) (by simp) _).setCell (p := ⟨w.heap.size + 1, 2, none⟩) (by simp) _, by omega⟩

/-- The end of a step, put together. -/
theorem step_end {B br bx : Nat} {K Ke K' : List Kj} {L : List Job} {now nr : Int} {X X' X'' : Nat → Prop} {c : Int × Int × Int} {w0 w W1 w5 w6 : World} {o : Out} (hbx : Kept X w W1) (hK5 : Kept X W1 w5) (hN5 : ∀ k, X' k → X k ∨ W1.heap.size ≤ k) (hb5 : Below w0.heap.size w0 w5) (hB0 : w0.heap.size ≤ B) (hS5 : RunS B br bx Ke o.L nr o.now X' w5) (hD : DoE 8 12 30 1000000 now L c.1 c.2.1 c.2.2 o) (hS6 : RunS B br bx K' o.L o.now o.now X'' w6) (hK6 : Kept X' w5 w6) (hN6 : ∀ k, X'' k → X' k ∨ w5.heap.size ≤ k) (hK' : stepK K c o = K') : StepQ B br bx K L now X c w0 w (.returned (.bool true)) w6 := by
  have hs1 := hbx.size
  have hs5 := hK5.size
  refine ⟨rfl, o, X'', hD, by rw [hK']; exact hS6, (hbx.trans hK5 (fun _ e => Or.inl e)).trans hK6 (fun k e => (hN5 k e).imp id (fun e => by omega)), fun k e => ?_, hb5.trans (hK6.below hb5.size (fun k e => by have := (hS5.lt k e).1; omega))⟩
  rcases hN6 k e with e | e
  · exact (hN5 k e).imp id (fun e => by omega)
  · exact Or.inr (by omega)

set_option maxHeartbeats 8000000 in
set_option maxRecDepth 100000 in
theorem step_tick (B br bx : Nat) (K : List Kj) (L : List Job) (now : Int) (X : Nat → Prop) (a : Addr) (m : Int) (w0 : World) (hE : Env a m w0) (w : World) (h0 : Below w0.heap.size w0 w) (hB0 : w0.heap.size ≤ B) (hBw : B ≤ w.heap.size) (h : RunS B br bx K L now now X w) (hG : Good 8 12 30 1000000 now L) (hT : Told K L) (hnow : now ≤ 999000) (s0 s1 s2 x : Int) (hx0 : 0 ≤ x) (hx1 : x ≤ 14)
    (hC : ∀ W, Calls Tryz.prog 25 #[.agg #[.int .i64 s0, .int .i64 s1, .int .i64 s2], .int .i64 K.length] W fun e w' => e = .returned (.agg #[.int .i64 4, .int .i64 x, .int .i64 0]) ∧ Below W.heap.size W w') :
    Calls Tryz.prog 20 #[.pointer (some ⟨br, 0, none⟩), .agg #[.int .i64 s0, .int .i64 s1, .int .i64 s2]] w (StepQ B br bx K L now X (4, x, 0) w0 w) := by
  obtain ⟨d0, d1, hlt, hfew, p, cap, hR⟩ := h.cell
  have d2 := hR.cell.2.2
  have hn0 := hG.now0
  have hlen := hT.len
  have HRN := Lib.hid h
  have HG := Lib.hid hG
  have HE := Lib.hid hE
  have HSP := Lib.hid (fun o => step_plain (c := (4, x, 0)) (o := o) hG hT hnow (by omega) (Or.inr (Or.inl ⟨rfl, hx0, hx1, rfl⟩)))
  have HC := Lib.hid hC
  have HT := Lib.hid hT
  have HB0 := Lib.hid h0
  have hlL : L.length < 1000000000 := by omega
  clear h hR hG hT hC h0 hlen hE
  go_enter Tryz.func20, Tryz.ntmps20
  go_wp2_with fail
  go_cut [5] (fun xq wr => CmdAt w 4 x 0 xq wr)
  case first =>
    go_region_with (go_at_call 25; refine (HC.out _).mono ?_; rintro e w1 ⟨rfl, hb1⟩; obtain ⟨hc, hf⟩ := bcell hb1)
    all_goals go_wp2_with fail
    all_goals go_meet
    all_goals first | exact cmdAt_new hb1 | exact cmdAt_old hb1
  case rest =>
    obtain ⟨xb, rfl, hxq, hbx, hxb⟩ := hcut
    have hSc := HRN.out.below hbx
    obtain ⟨e0, e1, hltc, _, pc, capc, hRc⟩ := hSc.cell
    have e2 := hRc.cell.2.2
    have x0 := cell_of_row _ _ 0 _ _ (0, 0) hxq
    have x1 := cell_of_row _ _ 1 _ _ (0, 0) hxq
    have x2 := cell_of_row _ _ 2 _ _ (0, 0) hxq
    simp at x0 x1 x2
    have hxl : xb < wc.heap.size := (Array.getElem?_eq_some_iff.1 hxq).1
    have h0c := HB0.out.trans (hbx.mono HB0.out.size)
    have hsc := hbx.size
    have HL := Lib.hid (liveR_any B br bx now pc capc K wc hRc)
    have HSC := Lib.hid hSc
    have HC0 := Lib.hid h0c
    have HBX := Lib.hid hbx
    have HXQ := Lib.hid hxq
    clear hRc hSc hbx hxq h0c
    go_wp2_with (go_at_call 22; refine HL.out.mono ?_; rintro e w1 ⟨rfl, rfl⟩; refine Hid.out ?_)
    refine Lib.hid ?_
    go_wp2_with fail
    go_quiet (fail)
    go_wp2_with fail
    have hbq : Below w1.heap.size w1 (w1.drewN nq) := below_drewN (Below.refl _ _) nq
    have e0 : (w1.drewN nq).cell? ⟨br, 0, none⟩ = some (.pointer (some ⟨bx, 0, none⟩)) := e0
    have e1 : (w1.drewN nq).cell? ⟨br, 1, none⟩ = some (.int .i64 now) := e1
    have e2 : (w1.drewN nq).cell? ⟨br, 2, none⟩ = some (.slice pc K.length capc) := e2
    have x0 : (w1.drewN nq).cell? ⟨xb, 0, none⟩ = some (.int .i64 4) := x0
    have x1 : (w1.drewN nq).cell? ⟨xb, 1, none⟩ = some (.int .i64 x) := x1
    have x2 : (w1.drewN nq).cell? ⟨xb, 2, none⟩ = some (.int .i64 0) := x2
    have hxl : xb < (w1.drewN nq).heap.size := hxl
    have hltc : br < (w1.drewN nq).heap.size := hltc
    have hsc : w.heap.size ≤ (w1.drewN nq).heap.size := hsc
    have HXQ := Lib.hid (show (w1.drewN nq).heap[xb]? = _ from HXQ.out)
    have HSC := Lib.hid (HSC.out.below hbq)
    have HC0 := Lib.hid (HC0.out.trans (hbq.mono HC0.out.size))
    have HBX := Lib.hid (HBX.out.trans (hbq.mono HBX.out.size))
    clear hbq HL
    generalize w1.drewN nq = W1 at *
    have hXc : ∀ k, X k → k < W1.heap.size := fun k e => (HSC.out.lt k e).2
    have hnX : ¬ X W1.heap.size := fun e => by have := hXc _ e; omega
    have HDo := Lib.hid (fun W hW => run_did B br bx K L now now X a m w0 HE.out W1 HC0.out hB0 (by omega) HSC.out HG.out hlL 4 x 0 W hW)
    go_cut [10] (fun aq wr => ReplyAt B br bx K L now now X w0 W1 4 x 0 aq wr)
    case first =>
      go_region_with (go_at_call 16; refine (HDo.out _ (by repeat (first | exact Below.refl _ _ | refine Below.drew ?_ | refine below_drewN ?_ _ | refine Below.alloc ?_ (by simp) _))).mono ?_; rintro e w3 ⟨o, p1, c1, p2, c2, X', hD, rfl, hY, hV, hS, hK, hN, hb⟩; (try (have hq := replyCells W1.heap.size hnX hK (alloc_at W1 (.cells noughts6 34) W1.heap.size rfl); obtain ⟨q0, q1, q2, q3, q4, q5, qf, ql⟩ := hq)); have HZ := Lib.hid (And.intro hD (And.intro hY (And.intro hV (And.intro hS (And.intro hK (And.intro hN hb)))))); clear hD hY hV hS hK hN hb)
      all_goals go_wp2_with fail
      all_goals go_meet
      all_goals first | (have _hq := q0; exact replyAt_old hXc (below_drewN (n := 1) ((Below.refl _ _).alloc (Nat.le_refl _) _)) rfl (alloc_at W1 (.cells noughts6 34) W1.heap.size rfl) (by omega) HZ.out.1 HZ.out.2.1 HZ.out.2.2.1 HZ.out.2.2.2.1 HZ.out.2.2.2.2.1 HZ.out.2.2.2.2.2.1 HZ.out.2.2.2.2.2.2) | exact replyAt_new hXc (below_drewN (n := 1) (Below.refl _ _)) HZ.out.1 HZ.out.2.1 HZ.out.2.2.1 HZ.out.2.2.2.1 HZ.out.2.2.2.2.1 HZ.out.2.2.2.2.2.1 HZ.out.2.2.2.2.2.2
    case rest =>
      obtain ⟨o, p1, c1, p2, c2, X', ab, rfl, hD, haq, hY, hV, hS5, hK5, hN5, hb5, hnab, hab⟩ := hcut
      obtain ⟨hSO, _⟩ := HSP.out o hD
      have hev := (doE_small HG.out hD hlL).2
      have hnxb : ¬ X xb := fun e => by have := (HRN.out.lt xb e).2; omega
      have hx5 := (hK5.block xb hxl hnxb).trans HXQ.out
      cases hSO with
      | full hk => simp at hk
      | sub hk => simp at hk
      | none hk => simp at hk
      | late hk => simp at hk
      | ends hk => simp at hk
      | tick hk t0 t1 he hn hp ht =>
        have HTL := Lib.hid (tail_noted B br bx K o.L now o.now (now + x) X' wc hS5 _ p2 c2 o.evs hV hev now (now + x) L o.L HT.out ht hn0)
        obtain ⟨f0, f1, hl5, _, p5, cap5, hR5⟩ := hS5.cell
        have f2 := hR5.cell.2.2
        have ff := frozen_of_row _ _ 1 _ _ hR5.blk
        have a0 := cell_of_row _ _ 0 _ _ (0, 0) haq
        have a5 := cell_of_row _ _ 5 _ _ (0, 0) haq
        have y0 := cell_of_row _ _ 0 _ _ (0, 0) hx5
        simp at a0 a5 y0
        rw [he] at a0
        have hal : ab < wc.heap.size := (Array.getElem?_eq_some_iff.1 haq).1
        have hxl5 : xb < wc.heap.size := (Array.getElem?_eq_some_iff.1 hx5).1
        have hne1 : ab ≠ br := fun e => hnab (by obtain ⟨_, _, _, _, _, _, _, _, _, hX⟩ := hS5; exact (hX ab).2 (Or.inl e))
        have hKe := show stepK K (4, x, 0) o = noteK K o.evs by rw [stepK, if_pos he, hp]
        have HEND := Lib.hid (fun (w6 : World) (hS6 : RunS B br bx (noteK K o.evs) o.L o.now o.now X' w6) (hK6 : Kept X' wc w6) => step_end (c := (4, x, 0)) (Kept.of_below HBX.out) hK5 hN5 hb5 hB0 hS5 hD hS6 hK6 (fun k e => Or.inl e) hKe)
        clear hD haq hY hV hS5 hK5 hN5 hb5 hR5 hx5 ht hp hKe
        rw [hn] at HEND HTL
        go_wp2_with (go_at_call 17; refine HTL.out.mono ?_; rintro e w6 ⟨rfl, hS6, hK6⟩; refine Hid.out ?_)
        refine Lib.hid ?_
        have HF := Lib.hid (HEND.out w6 hS6 hK6)
        clear hS6 hK6
        go_wp2
        go_ret
        exact HF.out

end Go.Proofs.YtpcgnadfldimhaaGreatDoor
