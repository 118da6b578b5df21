/-
  The statements without the document's answer: a step at Cancel and Done.
-/
import Derived.Test.YtpcgnadfldimhaaGreatDoorKeepG
namespace Go.Proofs.YtpcgnadfldimhaaGreatDoor
open Go.RowKit

/-- What 'ended' says and leaves. -/
def EndK (K : List Kj) (k x er : Int) (Ke : List Kj) : Prop :=
  (er = 5 ∧ Ke = K ∧ (K.length : Int) < x) ∨ ∃ (i : Nat) (a : Kj), x = 1 + (i : Int) ∧ K[i]? = some a ∧ ((er = 6 ∧ Ke = K ∧ (a.over = true ∨ (k = 3 ∧ a.started < 0))) ∨ (er = 0 ∧ Ke = K.set i { a with over := true } ∧ ¬ (a.over = true ∨ (k = 3 ∧ a.started < 0))))

theorem ended_any (B br bx : Nat) (K : List Kj) (L : List Job) (nr now : Int) (X : Nat → Prop) (w : World) (h : RunS B br bx K L nr now X w) (k x y : Int) (hx0 : 1 ≤ x) (hx1 : x ≤ (K.length : Int) + 1) :
    Calls Tryz.prog 36 #[.pointer (some ⟨br, 0, none⟩), .agg #[.int .i64 k, .int .i64 x, .int .i64 y]] w fun e w' => ∃ er Ke, e = .returned (.int .i64 er) ∧ EndK K k x er Ke ∧ RunS B br bx Ke L nr now X w' ∧ Kept X w w' := by
  have h' := h
  obtain ⟨p, cap, bi, vr, vl, vh, E, hR, hP, hX⟩ := h
  by_cases hx : (K.length : Int) < x
  · refine (ended_5 B br bx nr p cap K w hR k x y hx).mono ?_
    rintro e w' ⟨rfl, hb⟩
    exact ⟨5, K, rfl, Or.inl ⟨rfl, rfl, hx⟩, h'.below hb, Kept.of_below hb⟩
  · obtain ⟨i, rfl⟩ : ∃ i : Nat, x = 1 + (i : Int) := ⟨(x - 1).toNat, by omega⟩
    obtain ⟨a, ha⟩ : ∃ a, K[i]? = some a := ⟨_, List.getElem?_eq_getElem (by omega)⟩
    refine (ended_is B br bx nr p cap K w hR k y i a ha).mono ?_
    rintro e w' (⟨ho, rfl, hb⟩ | ⟨ho, rfl, hR', hK⟩)
    · exact ⟨6, K, rfl, Or.inr ⟨i, a, rfl, ha, Or.inl ⟨rfl, rfl, ho⟩⟩, h'.below hb, Kept.of_below hb⟩
    · refine ⟨0, _, rfl, Or.inr ⟨i, a, rfl, ha, Or.inr ⟨rfl, rfl, ho⟩⟩, ⟨p, cap, bi, vr, vl, vh, E, hR', hP.kept hK (fun k e => (run_apart hR hP k e).2), fun k => by rw [List.length_set]; exact hX k⟩, hK.mono (fun k e => (hX k).2 (Or.inr (Or.inl e)))⟩

theorem ends_join {now k x er : Int} {K Ke : List Kj} {L : List Job} {o : Out} (hk : k = 2 ∨ k = 3) (hS : StepO now K L (k, x, 0) o) (hE : EndK K k x er Ke) : o.err = er ∧ (((er = 5 ∨ er = 6) ∧ o.evs = [] ∧ o.now = now ∧ Ke = K ∧ stepK K (k, x, 0) o = K) ∨ (er = 0 ∧ o.now = now ∧ ∃ M, Told Ke M ∧ Tale now now now M o.evs o.L ∧ stepK K (k, x, 0) o = noteK Ke o.evs)) := by
  cases hS with
  | full hk' => simp only at hk'; omega
  | sub hk' => simp only at hk'; omega
  | tick hk' => simp only at hk'; omega
  | none _ hx he hv hL hn =>
    simp only at hx
    rcases hE with ⟨rfl, rfl, _⟩ | ⟨i, a, rfl, ha, _⟩
    · exact ⟨he, Or.inl ⟨Or.inl rfl, hv, hn, rfl, by rw [stepK, if_neg (by rw [he]; decide)]⟩⟩
    · have := (List.getElem?_eq_some_iff.1 ha).1
      omega
  | late _ i a hx ha ho he hv hL hn =>
    simp only at hx ho
    have hi := (List.getElem?_eq_some_iff.1 ha).1
    rcases hE with ⟨rfl, rfl, _⟩ | ⟨i2, a2, hx2, ha2, h⟩
    · omega
    · obtain rfl : i = i2 := by omega
      obtain rfl := Option.some.inj (ha.symm.trans ha2)
      rcases h with ⟨rfl, rfl, _⟩ | ⟨_, _, h⟩
      · exact ⟨he, Or.inl ⟨Or.inr rfl, hv, hn, rfl, by rw [stepK, if_neg (by rw [he]; decide)]⟩⟩
      · exact absurd ho h
  | ends _ i a hx ha ho he hn M hp hT ht =>
    simp only at hx ho
    have hi := (List.getElem?_eq_some_iff.1 ha).1
    rcases hE with ⟨rfl, rfl, _⟩ | ⟨i2, a2, hx2, ha2, h⟩
    · omega
    · obtain rfl : i = i2 := by omega
      obtain rfl := Option.some.inj (ha.symm.trans ha2)
      rcases h with ⟨_, _, h⟩ | ⟨rfl, rfl, _⟩
      · exact absurd h ho
      · exact ⟨he, Or.inr ⟨rfl, hn, M, hT, ht, by rw [stepK, if_pos he, hp]⟩⟩

set_option maxHeartbeats 8000000 in
set_option maxRecDepth 100000 in
theorem step_ends (B br bx : Nat) (K : List Kj) (L : List Job) (now : Int) (X : Nat → Prop) (a : Addr) (m : Int) (w0 : World) (hE : Env a m w0) (w : World) (h0 : Below w0.heap.size w0 w) (hB0 : w0.heap.size ≤ B) (hBw : B ≤ w.heap.size) (h : RunS B br bx K L now now X w) (hG : Good 8 12 30 1000000 now L) (hT : Told K L) (hnow : now ≤ 999000) (s0 s1 s2 k x : Int) (hk23 : k = 2 ∨ k = 3) (hx0 : 1 ≤ x) (hx1 : x ≤ (K.length : Int) + 1)
    (hC : ∀ W, Calls Tryz.prog 25 #[.agg #[.int .i64 s0, .int .i64 s1, .int .i64 s2], .int .i64 K.length] W fun e w' => e = .returned (.agg #[.int .i64 k, .int .i64 x, .int .i64 0]) ∧ Below W.heap.size W w') :
    Calls Tryz.prog 20 #[.pointer (some ⟨br, 0, none⟩), .agg #[.int .i64 s0, .int .i64 s1, .int .i64 s2]] w (StepQ B br bx K L now X (k, x, 0) w0 w) := by
  obtain ⟨d0, d1, hlt, hfew, p, cap, hR⟩ := h.cell
  have d2 := hR.cell.2.2
  have hn0 := hG.now0
  have hlen := hT.len
  have HRN := Lib.hid h
  have HG := Lib.hid hG
  have HE := Lib.hid hE
  have HSP := Lib.hid (fun o => step_plain (c := (k, x, 0)) (o := o) hG hT hnow (by omega) (Or.inr (Or.inr ⟨hk23, hx0, hx1, rfl⟩)))
  have HC := Lib.hid hC
  have HT := Lib.hid hT
  have HB0 := Lib.hid h0
  have hlL : L.length < 1000000000 := by omega
  clear h hR hG hT hC h0 hlen hE
  go_enter Tryz.func20, Tryz.ntmps20
  go_wp2_with fail
  go_cut [5] (fun xq wr => CmdAt w k x 0 xq wr)
  case first =>
    go_region_with (go_at_call 25; refine (HC.out _).mono ?_; rintro e w1 ⟨rfl, hb1⟩; obtain ⟨hc, hf⟩ := bcell hb1)
    all_goals go_wp2_with fail
    all_goals go_meet
    all_goals first | exact cmdAt_new hb1 | exact cmdAt_old hb1
  case rest =>
    obtain ⟨xb, rfl, hxq, hbx, hxb⟩ := hcut
    have hSc := HRN.out.below hbx
    obtain ⟨e0, e1, hltc, _, pc, capc, hRc⟩ := hSc.cell
    have e2 := hRc.cell.2.2
    have x0 := cell_of_row _ _ 0 _ _ (0, 0) hxq
    have x1 := cell_of_row _ _ 1 _ _ (0, 0) hxq
    have x2 := cell_of_row _ _ 2 _ _ (0, 0) hxq
    simp at x0 x1 x2
    have hxl : xb < wc.heap.size := (Array.getElem?_eq_some_iff.1 hxq).1
    have h0c := HB0.out.trans (hbx.mono HB0.out.size)
    have hsc := hbx.size
    have HENI := Lib.hid (ended_any B br bx K L now now X wc hSc k x 0 hx0 hx1)
    have HL := Lib.hid (liveR_any B br bx now pc capc K wc hRc)
    have HSC := Lib.hid hSc
    have HC0 := Lib.hid h0c
    have HBX := Lib.hid hbx
    have HXQ := Lib.hid hxq
    clear hRc hSc hbx hxq h0c
    go_wp2_with (go_at_call 22; refine HL.out.mono ?_; rintro e w1 ⟨rfl, rfl⟩; refine Hid.out ?_)
    refine Lib.hid ?_
    have hk1 : ((k : Int) == 1) = false := beq_eq_false_iff_ne.2 (by omega)
    have hk4 : ((k : Int) == 4) = false := beq_eq_false_iff_ne.2 (by omega)
    have hk1' : ¬ k = 1 := by omega
    have hk4' : ¬ k = 4 := by omega
    go_wp2_with (go_at_call 36; refine HENI.out.mono ?_; rintro e W1 ⟨er, Ke, rfl, hEK, hS2, hK2⟩; refine Hid.out ?_)
    refine Lib.hid ?_
    have hnxb : ¬ X xb := fun e => by have := (HRN.out.lt xb e).2; omega
    have hx2 := (hK2.block xb hxl hnxb).trans HXQ.out
    obtain ⟨e0, e1, hltc, _, pc, capc, hRc⟩ := hS2.cell
    have e2 := hRc.cell.2.2
    have x0 := cell_of_row _ _ 0 _ _ (0, 0) hx2
    have x1 := cell_of_row _ _ 1 _ _ (0, 0) hx2
    have x2 := cell_of_row _ _ 2 _ _ (0, 0) hx2
    simp at x0 x1 x2
    have hxl : xb < W1.heap.size := (Array.getElem?_eq_some_iff.1 hx2).1
    have hsc : w.heap.size ≤ W1.heap.size := Nat.le_trans hsc hK2.size
    have HC0 := Lib.hid (HC0.out.trans (hK2.below HC0.out.size (fun k e => by have := (HRN.out.lt k e).1; omega)))
    have HSC := Lib.hid hS2
    have HXQ := Lib.hid hx2
    have HEK := Lib.hid hEK
    have HKW := Lib.hid ((Kept.of_below (S := X) HBX.out).trans hK2 (fun _ e => Or.inl e))
    clear hRc hS2 hK2 hx2 hEK
    go_wp2_with fail
    have hXc : ∀ k, X k → k < W1.heap.size := fun k e => (HSC.out.lt k e).2
    have hnX : ¬ X W1.heap.size := fun e => by have := hXc _ e; omega
    have HDo := Lib.hid (fun W hW => run_did B br bx Ke L now now X a m w0 HE.out W1 HC0.out hB0 (by omega) HSC.out HG.out hlL k x 0 W hW)
    go_cut [10] (fun aq wr => ReplyAt B br bx Ke L now now X w0 W1 k x 0 aq wr)
    case first =>
      go_region_with (go_at_call 16; refine (HDo.out _ (by repeat (first | exact Below.refl _ _ | refine Below.drew ?_ | refine below_drewN ?_ _ | refine Below.alloc ?_ (by simp) _))).mono ?_; rintro e w3 ⟨o, p1, c1, p2, c2, X', hD, rfl, hY, hV, hS, hK, hN, hb⟩; (try (have hq := replyCells W1.heap.size hnX hK (alloc_at W1 (.cells noughts6 34) W1.heap.size rfl); obtain ⟨q0, q1, q2, q3, q4, q5, qf, ql⟩ := hq)); have HZ := Lib.hid (And.intro hD (And.intro hY (And.intro hV (And.intro hS (And.intro hK (And.intro hN hb)))))); clear hD hY hV hS hK hN hb)
      all_goals go_wp2_with fail
      all_goals go_meet
      all_goals first | (have _hq := q0; exact replyAt_old hXc (below_drewN (n := 1) ((Below.refl _ _).alloc (Nat.le_refl _) _)) rfl (alloc_at W1 (.cells noughts6 34) W1.heap.size rfl) (by omega) HZ.out.1 HZ.out.2.1 HZ.out.2.2.1 HZ.out.2.2.2.1 HZ.out.2.2.2.2.1 HZ.out.2.2.2.2.2.1 HZ.out.2.2.2.2.2.2) | exact replyAt_new hXc (below_drewN (n := 1) (Below.refl _ _)) HZ.out.1 HZ.out.2.1 HZ.out.2.2.1 HZ.out.2.2.2.1 HZ.out.2.2.2.2.1 HZ.out.2.2.2.2.2.1 HZ.out.2.2.2.2.2.2
    case rest =>
      obtain ⟨o, p1, c1, p2, c2, X', ab, rfl, hD, haq, hY, hV, hS5, hK5, hN5, hb5, hnab, hab⟩ := hcut
      obtain ⟨hSO, _⟩ := HSP.out o hD
      have hev := (doE_small HG.out hD hlL).2
      have hx5 := (hK5.block xb hxl hnxb).trans HXQ.out
      have hj := ends_join hk23 hSO HEK.out
      have a0 := cell_of_row _ _ 0 _ _ (0, 0) haq
      have a5 := cell_of_row _ _ 5 _ _ (0, 0) haq
      have y0 := cell_of_row _ _ 0 _ _ (0, 0) hx5
      simp at a0 a5 y0
      have hal : ab < wc.heap.size := (Array.getElem?_eq_some_iff.1 haq).1
      have hxl5 : xb < wc.heap.size := (Array.getElem?_eq_some_iff.1 hx5).1
      obtain ⟨f0, f1, hl5, _, p5, cap5, hR5⟩ := hS5.cell
      have f2 := hR5.cell.2.2
      have ff := frozen_of_row _ _ 1 _ _ hR5.blk
      obtain ⟨hee, ⟨her, hv, hn, rfl, hKe⟩ | ⟨rfl, hn, M, hTM, ht, hKe⟩⟩ := hj
      · rw [hee] at a0
        rw [hv] at a5
        simp at a5
        have hS6 : RunS B br bx Ke o.L o.now o.now X' wc := by
          have e := hS5
          rw [hn] at e ⊢
          exact e
        have HEND := Lib.hid (step_end (c := (k, x, 0)) HKW.out hK5 hN5 hb5 hB0 hS5 hD hS6 (Kept.refl _ _) (fun k e => Or.inl e) hKe)
        clear hD haq hY hV hS5 hK5 hN5 hb5 hKe hS6 hR5 hx5 hSO hee
        have her0 : ¬ er = 0 := by omega
        have her1 : ((er : Int) == 0) = false := beq_eq_false_iff_ne.2 her0
        go_wp2
        go_ret
        exact HEND.out
      · rw [hee] at a0
        have HTL := Lib.hid (tail_noted B br bx Ke o.L now o.now now X' wc hS5 _ p2 c2 o.evs hV hev now now M o.L hTM ht hn0)
        have hne1 : ab ≠ br := fun e => hnab (by obtain ⟨_, _, _, _, _, _, _, _, _, hX⟩ := hS5; exact (hX ab).2 (Or.inl e))
        have HEND := Lib.hid (fun (w6 : World) (hS6 : RunS B br bx (noteK Ke o.evs) o.L o.now o.now X' w6) (hK6 : Kept X' wc w6) => step_end (c := (k, x, 0)) HKW.out hK5 hN5 hb5 hB0 hS5 hD hS6 hK6 (fun k e => Or.inl e) hKe)
        clear hD haq hY hV hS5 hK5 hN5 hb5 hKe hR5 hx5 hSO hee ht hTM
        rw [hn] at HEND HTL
        go_wp2_with (go_at_call 17; refine HTL.out.mono ?_; rintro e w6 ⟨rfl, hS6, hK6⟩; refine Hid.out ?_)
        refine Lib.hid ?_
        have HF := Lib.hid (HEND.out w6 hS6 hK6)
        clear hS6 hK6
        go_wp2
        go_ret
        exact HF.out

end Go.Proofs.YtpcgnadfldimhaaGreatDoor
