/-
  The statements without the document's answer: a step at Submit.
-/
import Derived.Test.YtpcgnadfldimhaaGreatDoorKeepG
namespace Go.Proofs.YtpcgnadfldimhaaGreatDoor
open Go.RowKit

set_option maxHeartbeats 8000000 in
set_option maxRecDepth 100000 in
theorem step_submit (B br bx : Nat) (K : List Kj) (L : List Job) (now : Int) (X : Nat → Prop) (a : Addr) (m : Int) (w0 : World) (hE : Env a m w0) (w : World) (h0 : Below w0.heap.size w0 w) (hB0 : w0.heap.size ≤ B) (hBw : B ≤ w.heap.size) (h : RunS B br bx K L now now X w) (hG : Good 8 12 30 1000000 now L) (hT : Told K L) (hnow : now ≤ 999000) (s0 s1 s2 x y : Int) (hx0 : 1 ≤ x) (hx1 : x ≤ 8) (hy0 : 1 ≤ y) (hy1 : y ≤ 30) (hK8 : K.length < 1000) (hful : ¬ 12 ≤ liveK K K.length)
    (hC : ∀ W, Calls Tryz.prog 25 #[.agg #[.int .i64 s0, .int .i64 s1, .int .i64 s2], .int .i64 K.length] W fun e w' => e = .returned (.agg #[.int .i64 1, .int .i64 x, .int .i64 y]) ∧ Below W.heap.size W w') :
    Calls Tryz.prog 20 #[.pointer (some ⟨br, 0, none⟩), .agg #[.int .i64 s0, .int .i64 s1, .int .i64 s2]] w (StepQ B br bx K L now X (1, x, y) w0 w) := by
  obtain ⟨d0, d1, hlt, hfew, p, cap, hR⟩ := h.cell
  have d2 := hR.cell.2.2
  have hn0 := hG.now0
  have hlen := hT.len
  have HRN := Lib.hid h
  have HG := Lib.hid hG
  have HE := Lib.hid hE
  have HSP := Lib.hid (fun o => step_plain (c := (1, x, y)) (o := o) hG hT hnow (by omega) (Or.inl ⟨rfl, hx0, hx1, hy0, hy1⟩))
  have HC := Lib.hid hC
  have HT := Lib.hid hT
  have HB0 := Lib.hid h0
  have hlL : L.length < 1000000000 := by omega
  clear h hR hG hT hC h0 hlen hE
  go_enter Tryz.func20, Tryz.ntmps20
  go_wp2_with fail
  go_cut [5] (fun xq wr => CmdAt w 1 x y xq wr)
  case first =>
    go_region_with (go_at_call 25; refine (HC.out _).mono ?_; rintro e w1 ⟨rfl, hb1⟩; obtain ⟨hc, hf⟩ := bcell hb1)
    all_goals go_wp2_with fail
    all_goals go_meet
    all_goals first | exact cmdAt_new hb1 | exact cmdAt_old hb1
  case rest =>
    obtain ⟨xb, rfl, hxq, hbx, hxb⟩ := hcut
    have hSc := HRN.out.below hbx
    obtain ⟨e0, e1, hltc, _, pc, capc, hRc⟩ := hSc.cell
    have e2 := hRc.cell.2.2
    have x0 := cell_of_row _ _ 0 _ _ (0, 0) hxq
    have x1 := cell_of_row _ _ 1 _ _ (0, 0) hxq
    have x2 := cell_of_row _ _ 2 _ _ (0, 0) hxq
    simp at x0 x1 x2
    have hxl : xb < wc.heap.size := (Array.getElem?_eq_some_iff.1 hxq).1
    have h0c := HB0.out.trans (hbx.mono HB0.out.size)
    have hsc := hbx.size
    have HL := Lib.hid (liveR_any B br bx now pc capc K wc hRc)
    have HSC := Lib.hid hSc
    have HC0 := Lib.hid h0c
    have HBX := Lib.hid hbx
    have HXQ := Lib.hid hxq
    clear hRc hSc hbx hxq h0c
    go_wp2_with (go_at_call 22; refine HL.out.mono ?_; rintro e w1 ⟨rfl, rfl⟩; refine Hid.out ?_)
    refine Lib.hid ?_
    have hfi : ¬ (12 : Int) ≤ (liveK K K.length : Int) := by omega
    go_wp2_with fail
    have hXc : ∀ k, X k → k < w1.heap.size := fun k e => (HSC.out.lt k e).2
    have hnX : ¬ X w1.heap.size := fun e => by have := hXc _ e; omega
    have HDo := Lib.hid (fun W hW => run_did B br bx K L now now X a m w0 HE.out w1 HC0.out hB0 (by omega) HSC.out HG.out hlL 1 x y W hW)
    go_cut [10] (fun aq wr => ReplyAt B br bx K L now now X w0 w1 1 x y aq wr)
    case first =>
      go_region_with (go_at_call 16; refine (HDo.out _ (by repeat (first | exact Below.refl _ _ | refine Below.drew ?_ | refine below_drewN ?_ _ | refine Below.alloc ?_ (by simp) _))).mono ?_; rintro e w3 ⟨o, p1, c1, p2, c2, X', hD, rfl, hY, hV, hS, hK, hN, hb⟩; (try (have hq := replyCells w1.heap.size hnX hK (alloc_at w1 (.cells noughts6 34) w1.heap.size rfl); obtain ⟨q0, q1, q2, q3, q4, q5, qf, ql⟩ := hq)); have HZ := Lib.hid (And.intro hD (And.intro hY (And.intro hV (And.intro hS (And.intro hK (And.intro hN hb)))))); clear hD hY hV hS hK hN hb)
      all_goals go_wp2_with fail
      all_goals go_meet
      all_goals first | (have _hq := q0; exact replyAt_old hXc (below_drewN (n := 1) ((Below.refl _ _).alloc (Nat.le_refl _) _)) rfl (alloc_at w1 (.cells noughts6 34) w1.heap.size rfl) (by omega) HZ.out.1 HZ.out.2.1 HZ.out.2.2.1 HZ.out.2.2.2.1 HZ.out.2.2.2.2.1 HZ.out.2.2.2.2.2.1 HZ.out.2.2.2.2.2.2) | exact replyAt_new hXc (below_drewN (n := 1) (Below.refl _ _)) HZ.out.1 HZ.out.2.1 HZ.out.2.2.1 HZ.out.2.2.2.1 HZ.out.2.2.2.2.1 HZ.out.2.2.2.2.2.1 HZ.out.2.2.2.2.2.2
    case rest =>
      obtain ⟨o, p1, c1, p2, c2, X', ab, rfl, hD, haq, hY, hV, hS5, hK5, hN5, hb5, hnab, hab⟩ := hcut
      obtain ⟨hSO, _⟩ := HSP.out o hD
      have hev := (doE_small HG.out hD hlL).2
      have hnxb : ¬ X xb := fun e => by have := (HRN.out.lt xb e).2; omega
      have hx5 := (hK5.block xb hxl hnxb).trans HXQ.out
      cases hSO with
      | tick hk => simp at hk
      | none hk => simp at hk
      | late hk => simp at hk
      | ends hk => simp at hk
      | full hk h1 => exact absurd h1 (by omega)
      | sub hk h1 he ha hb hb2 hn M hp hTM ht =>
        obtain ⟨f0, f1, hl5, _, p5, cap5, hR5⟩ := hS5.cell
        have f2 := hR5.cell.2.2
        have ff := frozen_of_row _ _ 2 _ _ hR5.blk
        have a0 := cell_of_row _ _ 0 _ _ (0, 0) haq
        have a1 := cell_of_row _ _ 1 _ _ (0, 0) haq
        have a2 := cell_of_row _ _ 2 _ _ (0, 0) haq
        have a5 := cell_of_row _ _ 5 _ _ (0, 0) haq
        have y0 := cell_of_row _ _ 0 _ _ (0, 0) hx5
        have y1 := cell_of_row _ _ 1 _ _ (0, 0) hx5
        have y2 := cell_of_row _ _ 2 _ _ (0, 0) hx5
        simp at a0 a1 a2 a5 y0 y1 y2
        rw [he] at a0
        rw [ha] at a1
        have hal : ab < wc.heap.size := (Array.getElem?_eq_some_iff.1 haq).1
        have hxl5 : xb < wc.heap.size := (Array.getElem?_eq_some_iff.1 hx5).1
        have hrow := fun k (e : (Value.slice p5 K.length cap5).ownBlock = some k) => (show X' k by
          obtain ⟨q, cq, _, _, _, _, _, hR2, _, hX⟩ := hS5
          have e1 := hR2.cell.2.2
          rw [f2] at e1
          exact (hX k).2 (Or.inr (Or.inl (by rw [← Option.some.inj e1]; exact e))))
        have hne1 : ab ≠ br := fun e => hnab (by obtain ⟨_, _, _, _, _, _, _, _, _, hX⟩ := hS5; exact (hX ab).2 (Or.inl e))
        have hnX5 : ¬ X' xb := fun e => (hN5 xb e).elim hnxb (fun e => by omega)
        have hKe := show stepK K (1, x, y) o = noteK (K ++ [⟨x, y, o.b, -1, false⟩]) o.evs by rw [stepK, if_pos he, hp]
        have HS5 := Lib.hid hS5
        have HR5 := Lib.hid hR5
        have HEND := Lib.hid (fun (X2 : Nat → Prop) (w6 : World) (hS6 : RunS B br bx (noteK (K ++ [⟨x, y, o.b, -1, false⟩]) o.evs) o.L o.now o.now X2 w6) (hK6 : Kept X' wc w6) (hN6 : ∀ k, X2 k → X' k ∨ wc.heap.size ≤ k) => step_end (c := (1, x, y)) (Kept.of_below HBX.out) hK5 hN5 hb5 hB0 hS5 hD hS6 hK6 hN6 hKe)
        have HV5 := Lib.hid hV
        have HAQ := Lib.hid haq
        have HROW := Lib.hid hrow
        have hBwc : B ≤ wc.heap.size := Nat.le_trans hBw (Nat.le_trans hsc hK5.size)
        clear hD haq hY hV hS5 hK5 hN5 hb5 hR5 hx5 hp hKe hrow
        rw [hn] at HEND
        obtain ⟨i0, hi, hz0, hz1, hz2⟩ := info_parts Tryz.infoKj
        obtain ⟨w5, hw5⟩ : ∃ w5, w5 = wc := ⟨_, rfl⟩
        subst hw5
        go_wp2_with fail
        go_cut [9] (fun q wr => q = .int .i64 0 ∧ ∃ X2, RunS B br bx (K ++ [⟨x, y, o.b, -1, false⟩]) o.L now o.now X2 wr ∧ Kept X' w5 wr ∧ (∀ k, X2 k → X' k ∨ w5.heap.size ≤ k) ∧ Kept (fun k => k = br ∨ (Value.slice p5 K.length cap5).ownBlock = some k) w5 wr)
        case first =>
          go_region_law (refine step_append_lies _ rfl _ _ 36 rfl B 42 i0 (.agg #[.int .i64 0, .int .i64 0, .int .i64 0, .int .i64 0, .bool false]) 5 40 Tryz.underlying36 hi hz0 hz1 hz2 rfl (by decide) (.slice p5 K.length cap5) K.length _ rfl (HR5.out.own.alloc _) ⟨w5.heap.size, 0, none⟩ 1 1 [.int .i64 x, .int .i64 y, .int .i64 o.b, .int .i64 (-1), .bool false] rfl rfl (news_at w5 #[.int .i64 x, .int .i64 y, .int .i64 o.b, .int .i64 (-1), .bool false] _ _ rfl) (by intro u' hu'; simp at hu'; rcases hu' with rfl | rfl | rfl | rfl | rfl <;> rfl) (by decide) (by unfold maxLen; omega) (by omega) (by simp; omega) _ rfl ?_; intro g cap w4 own grow hat lt; obtain ⟨hb4, X2, hS4, hK4, hN4, hQ4⟩ := HS5.out.push (a := ⟨x, y, o.b, -1, false⟩) hK8 HR5.out (((Below.refl _ _).alloc (Nat.le_refl _) _).drew) own grow (hat.imp id (fun e => by rw [e]; simp)); have kk : ∀ k, k < w5.heap.size → (Value.slice p5 K.length cap5).ownBlock ≠ some k → w4.heap[k]? = w5.heap[k]? := (fun k hk hne => (grow.block k (by simp; omega) (fun e => hne e.symm)).trans (Below.heap_alloc w5 _ k hk)); have k0 := cell_of_row _ _ 2 _ _ (0, 0) hb4; have kf := frozen_of_row _ _ 2 _ _ hb4; have k1 := (World.cell?_of_block (a := ⟨xb, 1, none⟩) (kk xb hxl5 (fun e => hnX5 (HROW.out xb e)))).trans y1; have k2 := (World.cell?_of_block (a := ⟨xb, 2, none⟩) (kk xb hxl5 (fun e => hnX5 (HROW.out xb e)))).trans y2; have k3 := (World.cell?_of_block (a := ⟨ab, 2, none⟩) (kk ab hal (fun e => hnab (HROW.out ab e)))).trans a2; simp at k0; have HS4 := Lib.hid hS4; have HK4 := Lib.hid hK4; have HN4 := Lib.hid hN4; have HQ4 := Lib.hid hQ4; have hlb4 : br < w4.heap.size := (Array.getElem?_eq_some_iff.1 hb4).1; clear hb4 hS4 hK4 hN4 hQ4 own grow hat kk)
          all_goals go_wp2_with fail
          all_goals go_meet
          all_goals exact ⟨rfl, X2, HS4.out, HK4.out, HN4.out, HQ4.out⟩
        case rest =>
          obtain ⟨rfl, X2, hS6, hK6, hN6, hQ6⟩ := hcut
          have hab6 := (hQ6.block ab hal (fun e => e.elim hne1 (fun e => hnab (HROW.out ab e)))).trans HAQ.out
          have hV6 := owns_on HV5.out (fun k e => hQ6.block k (HV5.out.lt k e).2 (fun e2 => e2.elim (fun e2 => owns_not HV5.out HR5.out.blk (by decide) (e2 ▸ e)) (fun e2 => owns_apart HV5.out HR5.out.own (by decide) k e e2)))
          have HTL := Lib.hid (fun W (hW : Below wc.heap.size wc W) => tail_noted B br bx (K ++ [⟨x, y, o.b, -1, false⟩]) o.L now o.now now X2 W (hS6.below hW) _ p2 c2 o.evs (owns_on hV6 (fun k e => hW.block k (hV6.lt k e).2)) hev now now M o.L hTM ht hn0)
          have HEND6 := Lib.hid (fun (nq : Nat) (w6 : World) (hS7 : RunS B br bx (noteK (K ++ [⟨x, y, o.b, -1, false⟩]) o.evs) o.L now now X2 w6) (hK7 : Kept X2 (wc.drewN nq) w6) => HEND.out X2 w6 hS7 (hK6.trans ((Kept.of_below (S := X2) (below_drewN (Below.refl _ _) nq)).trans hK7 (fun _ e => Or.inl e)) (fun k e => hN6 k e)) hN6)
          obtain ⟨g0, g1, hl6, _, p6, cap6, hR6⟩ := hS6.cell
          have g2 := hR6.cell.2.2
          rw [List.length_append, List.length_singleton] at g2
          have gf := frozen_of_row _ _ 1 _ _ hR6.blk
          have b1 := cell_of_row _ _ 1 _ _ (0, 0) hab6
          have b2 := cell_of_row _ _ 2 _ _ (0, 0) hab6
          have b5 := cell_of_row _ _ 5 _ _ (0, 0) hab6
          simp at b1 b2 b5
          rw [ha] at b1
          have hal6 : ab < wc.heap.size := (Array.getElem?_eq_some_iff.1 hab6).1
          rw [hn] at HTL
          clear hS6 hK6 hN6 hQ6 hab6 hV6 hR6 ht hTM HEND a0 a1 a2 a5 f0 f1 f2
          go_wp2_with fail
          go_quiet (fail)
          go_wp2_with (go_at_call 17; refine (HTL.out _ (below_drewN (Below.refl _ _) nq)).mono ?_; rintro e w6 ⟨rfl, hS7, hK7⟩; refine Hid.out ?_)
          refine Lib.hid ?_
          have HF := Lib.hid (HEND6.out nq w6 hS7 hK7)
          clear hS7 hK7
          go_wp2
          go_ret
          exact HF.out

end Go.Proofs.YtpcgnadfldimhaaGreatDoor
