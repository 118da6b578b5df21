/-
  The statements without the document's answer: a step at Submit, where no more may come.
-/
import Derived.Test.YtpcgnadfldimhaaGreatDoorKeepG
namespace Go.Proofs.YtpcgnadfldimhaaGreatDoor
open Go.RowKit

set_option maxHeartbeats 8000000 in
set_option maxRecDepth 100000 in
theorem step_full (B br bx : Nat) (K : List Kj) (L : List Job) (now : Int) (X : Nat → Prop) (a : Addr) (m : Int) (w0 : World) (hE : Env a m w0) (w : World) (h0 : Below w0.heap.size w0 w) (hB0 : w0.heap.size ≤ B) (hBw : B ≤ w.heap.size) (h : RunS B br bx K L now now X w) (hG : Good 8 12 30 1000000 now L) (hT : Told K L) (hnow : now ≤ 999000) (s0 s1 s2 x y : Int) (hx0 : 1 ≤ x) (hx1 : x ≤ 8) (hy0 : 1 ≤ y) (hy1 : y ≤ 30) (hful : 12 ≤ liveK K K.length)
    (hC : ∀ W, Calls Tryz.prog 25 #[.agg #[.int .i64 s0, .int .i64 s1, .int .i64 s2], .int .i64 K.length] W fun e w' => e = .returned (.agg #[.int .i64 1, .int .i64 x, .int .i64 y]) ∧ Below W.heap.size W w') :
    Calls Tryz.prog 20 #[.pointer (some ⟨br, 0, none⟩), .agg #[.int .i64 s0, .int .i64 s1, .int .i64 s2]] w (StepQ B br bx K L now X (1, x, y) w0 w) := by
  obtain ⟨d0, d1, hlt, hfew, p, cap, hR⟩ := h.cell
  have d2 := hR.cell.2.2
  have hn0 := hG.now0
  have hlen := hT.len
  have HRN := Lib.hid h
  have HG := Lib.hid hG
  have HE := Lib.hid hE
  have HSP := Lib.hid (fun o => step_plain (c := (1, x, y)) (o := o) hG hT hnow (by omega) (Or.inl ⟨rfl, hx0, hx1, hy0, hy1⟩))
  have HC := Lib.hid hC
  have HT := Lib.hid hT
  have HB0 := Lib.hid h0
  have hlL : L.length < 1000000000 := by omega
  clear h hR hG hT hC h0 hlen hE
  go_enter Tryz.func20, Tryz.ntmps20
  go_wp2_with fail
  go_cut [5] (fun xq wr => CmdAt w 1 x y xq wr)
  case first =>
    go_region_with (go_at_call 25; refine (HC.out _).mono ?_; rintro e w1 ⟨rfl, hb1⟩; obtain ⟨hc, hf⟩ := bcell hb1)
    all_goals go_wp2_with fail
    all_goals go_meet
    all_goals first | exact cmdAt_new hb1 | exact cmdAt_old hb1
  case rest =>
    obtain ⟨xb, rfl, hxq, hbx, hxb⟩ := hcut
    have hSc := HRN.out.below hbx
    obtain ⟨e0, e1, hltc, _, pc, capc, hRc⟩ := hSc.cell
    have e2 := hRc.cell.2.2
    have x0 := cell_of_row _ _ 0 _ _ (0, 0) hxq
    have x1 := cell_of_row _ _ 1 _ _ (0, 0) hxq
    have x2 := cell_of_row _ _ 2 _ _ (0, 0) hxq
    simp at x0 x1 x2
    have hxl : xb < wc.heap.size := (Array.getElem?_eq_some_iff.1 hxq).1
    have h0c := HB0.out.trans (hbx.mono HB0.out.size)
    have hsc := hbx.size
    have HL := Lib.hid (liveR_any B br bx now pc capc K wc hRc)
    have HSC := Lib.hid hSc
    have HC0 := Lib.hid h0c
    have HBX := Lib.hid hbx
    have HXQ := Lib.hid hxq
    clear hRc hSc hbx hxq h0c
    go_wp2_with (go_at_call 22; refine HL.out.mono ?_; rintro e w1 ⟨rfl, rfl⟩; refine Hid.out ?_)
    refine Lib.hid ?_
    have hfi : (12 : Int) ≤ (liveK K K.length : Int) := by omega
    go_wp2_with fail
    have hXc : ∀ k, X k → k < w1.heap.size := fun k e => (HSC.out.lt k e).2
    have hnX : ¬ X w1.heap.size := fun e => by have := hXc _ e; omega
    have HDo := Lib.hid (fun W hW => run_did B br bx K L now now X a m w0 HE.out w1 HC0.out hB0 (by omega) HSC.out HG.out hlL 1 x y W hW)
    go_cut [10] (fun aq wr => ReplyAt B br bx K L now now X w0 w1 1 x y aq wr)
    case first =>
      go_region_with (go_at_call 16; refine (HDo.out _ (by repeat (first | exact Below.refl _ _ | refine Below.drew ?_ | refine below_drewN ?_ _ | refine Below.alloc ?_ (by simp) _))).mono ?_; rintro e w3 ⟨o, p1, c1, p2, c2, X', hD, rfl, hY, hV, hS, hK, hN, hb⟩; (try (have hq := replyCells w1.heap.size hnX hK (alloc_at w1 (.cells noughts6 34) w1.heap.size rfl); obtain ⟨q0, q1, q2, q3, q4, q5, qf, ql⟩ := hq)); have HZ := Lib.hid (And.intro hD (And.intro hY (And.intro hV (And.intro hS (And.intro hK (And.intro hN hb)))))); clear hD hY hV hS hK hN hb)
      all_goals go_wp2_with fail
      all_goals go_meet
      all_goals first | (have _hq := q0; exact replyAt_old hXc (below_drewN (n := 1) ((Below.refl _ _).alloc (Nat.le_refl _) _)) rfl (alloc_at w1 (.cells noughts6 34) w1.heap.size rfl) (by omega) HZ.out.1 HZ.out.2.1 HZ.out.2.2.1 HZ.out.2.2.2.1 HZ.out.2.2.2.2.1 HZ.out.2.2.2.2.2.1 HZ.out.2.2.2.2.2.2) | exact replyAt_new hXc (below_drewN (n := 1) (Below.refl _ _)) HZ.out.1 HZ.out.2.1 HZ.out.2.2.1 HZ.out.2.2.2.1 HZ.out.2.2.2.2.1 HZ.out.2.2.2.2.2.1 HZ.out.2.2.2.2.2.2
    case rest =>
      obtain ⟨o, p1, c1, p2, c2, X', ab, rfl, hD, haq, hY, hV, hS5, hK5, hN5, hb5, hnab, hab⟩ := hcut
      obtain ⟨hSO, _⟩ := HSP.out o hD
      have hev := (doE_small HG.out hD hlL).2
      have hnxb : ¬ X xb := fun e => by have := (HRN.out.lt xb e).2; omega
      have hx5 := (hK5.block xb hxl hnxb).trans HXQ.out
      cases hSO with
      | tick hk => simp at hk
      | none hk => simp at hk
      | late hk => simp at hk
      | ends hk => simp at hk
      | sub hk h1 => exact absurd hful (by omega)
      | full hk h1 he hv hL hn =>
        have a0 := cell_of_row _ _ 0 _ _ (0, 0) haq
        have a5 := cell_of_row _ _ 5 _ _ (0, 0) haq
        simp at a0 a5
        rw [he] at a0
        rw [hv] at a5
        simp at a5
        have hal : ab < wc.heap.size := (Array.getElem?_eq_some_iff.1 haq).1
        have hKe : stepK K (1, x, y) o = K := by rw [stepK, if_neg (by rw [he]; decide)]
        have hS6 : RunS B br bx K o.L o.now o.now X' wc := by
          have e := hS5
          rw [hn] at e ⊢
          exact e
        have HEND := Lib.hid (step_end (c := (1, x, y)) (Kept.of_below HBX.out) hK5 hN5 hb5 hB0 hS5 hD hS6 (Kept.refl _ _) (fun k e => Or.inl e) hKe)
        clear hD haq hY hV hS5 hK5 hN5 hb5 hKe hS6
        go_wp2
        go_ret
        exact HEND.out

end Go.Proofs.YtpcgnadfldimhaaGreatDoor
