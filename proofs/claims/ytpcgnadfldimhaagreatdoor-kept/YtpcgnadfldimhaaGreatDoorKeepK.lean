/-
  The statement Kept, walked.
-/
import Derived.Test.YtpcgnadfldimhaaGreatDoorKepM
namespace Go.Proofs.YtpcgnadfldimhaaGreatDoor
open Go.RowKit

set_option maxHeartbeats 8000000 in
set_option maxRecDepth 100000 in
theorem kept_walk (a : Addr) (m : Int) (w : World) (hX : EnvX a m w) (ad : Option Addr) (cap : Nat) (ss : List StepV) (hS : ScriptK w ad ss) (hl : ss.length ≤ maxLen) :
    Calls Tryz.prog 6 #[.slice ad ss.length cap] w fun e w' => e = .returned (.bool true) ∧ Below w.heap.size w w' := by
  have HE := Lib.hid hX.env
  have HPL := Lib.hid (playedK_any a m w hX.env w (Below.refl _ _) ad cap ss hS hl)
  clear hX hS hl
  go_enter Tryz.func6, Tryz.ntmps6
  go_wp2_with (go_at_call 15; refine HPL.out.mono ?_; rintro e w1 ⟨br, bx, X, rfl, hR, hb1⟩; refine Hid.out ?_)
  refine Lib.hid ?_
  obtain ⟨K, L, now, hA, hRS⟩ := hR
  obtain ⟨hG, hT, hKl, hnow⟩ := hA.good (by omega)
  have h80 : min 80 ss.length ≤ 80 := by omega
  have hn0 := hG.now0
  have hnow2 : now ≤ 1120 := by omega
  have hl80 : L.length ≤ 80 := by have := hT.len; omega
  have hlL : L.length < 1000000000 := by omega
  have HG := Lib.hid hG
  have HT := Lib.hid hT
  have HSC1 := Lib.hid hRS
  have HC1 := Lib.hid hb1
  clear hA hG hT hRS hb1 HPL hnow
  obtain ⟨c0, c1, hlt1, _, _⟩ := HSC1.out.cell
  have hx1 := heap_alloc_new w1 (.cells #[.int .i64 4, .int .i64 390, .int .i64 0] 29)
  have hbx : Below w1.heap.size w1 (w1.alloc (.cells #[.int .i64 4, .int .i64 390, .int .i64 0] 29)) := (Below.refl _ _).alloc (Nat.le_refl _) _
  have HSC := Lib.hid (HSC1.out.below hbx)
  have HC0 := Lib.hid (HC1.out.trans (hbx.mono HC1.out.size))
  have hnx : ¬ X w1.heap.size := fun e => by have := (HSC1.out.lt _ e).2; omega
  clear hbx
  go_wp2_with fail
  generalize w1.alloc (.cells #[.int .i64 4, .int .i64 390, .int .i64 0] 29) = W1 at *
  have x0 := cell_of_row _ _ 0 _ _ (0, 0) hx1
  have x1 := cell_of_row _ _ 1 _ _ (0, 0) hx1
  have x2 := cell_of_row _ _ 2 _ _ (0, 0) hx1
  simp at x0 x1 x2
  have hxl : w1.heap.size < W1.heap.size := (Array.getElem?_eq_some_iff.1 hx1).1
  have hxl0 : ¬ w1.heap.size = W1.heap.size := by omega
  have HXQ := Lib.hid hx1
  obtain ⟨e0, e1, hltc, _, _⟩ := HSC.out.cell
  clear hx1 c0 c1 HSC1 HC1
  have hXc : ∀ k, X k → k < W1.heap.size := fun k e => (HSC.out.lt k e).2
  have hnX : ¬ X W1.heap.size := fun e => by have := hXc _ e; omega
  have HDo := Lib.hid (fun W hW => run_did w.heap.size br bx K L now now X a m w HE.out W1 HC0.out (Nat.le_refl _) HC0.out.size HSC.out HG.out hlL 4 390 0 W hW)
  go_cut [5] (fun aq wr => ReplyAt w.heap.size br bx K L now now X w W1 4 390 0 aq wr)
  case first =>
    go_region_with (go_at_call 16; refine (HDo.out _ (by repeat (first | exact Below.refl _ _ | refine Below.drew ?_ | refine below_drewN ?_ _ | refine Below.alloc ?_ (by simp) _))).mono ?_; rintro e w3 ⟨o, p1, c1, p2, c2, X', hD, rfl, hY, hV, hS, hK, hN, hb⟩; (try (have hq := replyCells W1.heap.size hnX hK (alloc_at W1 (.cells noughts6 34) W1.heap.size rfl); obtain ⟨q0, q1, q2, q3, q4, q5, qf, ql⟩ := hq)); have HZ := Lib.hid (And.intro hD (And.intro hY (And.intro hV (And.intro hS (And.intro hK (And.intro hN hb)))))); clear hD hY hV hS hK hN hb)
    all_goals go_wp2_with fail
    all_goals go_meet
    all_goals first | (have _hq := q0; exact replyAt_old hXc (below_drewN (n := 1) ((Below.refl _ _).alloc (Nat.le_refl _) _)) rfl (alloc_at W1 (.cells noughts6 34) W1.heap.size rfl) (HC0.out.size) HZ.out.1 HZ.out.2.1 HZ.out.2.2.1 HZ.out.2.2.2.1 HZ.out.2.2.2.2.1 HZ.out.2.2.2.2.2.1 HZ.out.2.2.2.2.2.2) | exact replyAt_new hXc (below_drewN (n := 1) (Below.refl _ _)) HZ.out.1 HZ.out.2.1 HZ.out.2.2.1 HZ.out.2.2.2.1 HZ.out.2.2.2.2.1 HZ.out.2.2.2.2.2.1 HZ.out.2.2.2.2.2.2
  case rest =>
    obtain ⟨o, p1, c1, p2, c2, X', ab, rfl, hD, haq, hY, hV, hS5, hK5, hN5, hb5, hnab, hab⟩ := hcut
    have hTO := doE_tick (by decide) hD
    obtain ⟨he, hnw, ht⟩ := tick_tale HG.out hTO (by omega) now
    have hev := (doE_small HG.out hD hlL).2
    have hG5 := (good_doE HG.out hD).1
    have hdead := all_over HG.out hTO (by omega)
    have hTN := tale_told hn0 o.evs ht HT.out
    have hx5 := (hK5.block _ hxl hnx).trans HXQ.out
    obtain ⟨f0, f1, hl5, hfew5, p5, cap5, hR5⟩ := hS5.cell
    have a0 := cell_of_row _ _ 0 _ _ (0, 0) haq
    have a5 := cell_of_row _ _ 5 _ _ (0, 0) haq
    have y1 := cell_of_row _ _ 1 _ _ (0, 0) hx5
    simp at a0 a5 y1
    rw [he] at a0
    have hal : ab < wc.heap.size := (Array.getElem?_eq_some_iff.1 haq).1
    have hxl5 : w1.heap.size < wc.heap.size := (Array.getElem?_eq_some_iff.1 hx5).1
    have hnx5 : ¬ X' w1.heap.size := fun e => (hN5 _ e).elim hnx (fun e => by omega)
    have HNR : Hid (∀ W, Below wc.heap.size wc W → Calls Tryz.prog 17 #[.pointer (some ⟨br, 0, none⟩), .slice p2 o.evs.length c2, .int .i64 now, .int .i64 (IntKind.i64.wrap (now + 390))] W fun e w' => e = .returned (.bool true) ∧ w'.cell? ⟨ab, 0, none⟩ = some (.int .i64 0) ∧ w'.cell? ⟨ab, 5, none⟩ = some (.slice p2 o.evs.length c2) ∧ w'.cell? ⟨br, 1, none⟩ = some (.int .i64 now) ∧ w'.cell? ⟨w1.heap.size, 1, none⟩ = some (.int .i64 390) ∧ Hid (RunS w.heap.size br bx (noteK K o.evs) o.L now o.now X' w') ∧ Hid (w'.heap[w1.heap.size]? = some (.cells #[.int .i64 4, .int .i64 390, .int .i64 0] 29 (0, 0))) ∧ Hid (Below w.heap.size w w') ∧ ab < w'.heap.size) := Lib.hid (fun W hW => by
      have hs := hW.size
      rw [wrap_small (now + 390) (by omega) (by omega)]
      refine (noted_run w.heap.size br bx K o.L now o.now X' W (hS5.below hW) _ p2 c2 o.evs (owns_on hV (fun k e => hW.block k (hV.lt k e).2)) hev now (now + 390) L o.L HT.out ht hn0).mono ?_
      rintro e w6 ⟨rfl, hS6, hK6⟩
      have hq6 := (hK6.block ab (by omega) hnab).trans ((hW.block ab hal).trans haq)
      have hy6 := (hK6.block _ (by omega) hnx5).trans ((hW.block _ hxl5).trans hx5)
      have z0 := cell_of_row _ _ 0 _ _ (0, 0) hq6
      have z5 := cell_of_row _ _ 5 _ _ (0, 0) hq6
      have zx := cell_of_row _ _ 1 _ _ (0, 0) hy6
      simp at z0 z5 zx
      rw [he] at z0
      exact ⟨rfl, z0, z5, hS6.cell.2.1, zx, Lib.hid hS6, Lib.hid hy6, Lib.hid (hb5.trans (((Kept.of_below (S := X') hW).trans hK6 (fun _ e => Or.inl e)).below hb5.size (fun k e => (hS5.lt k e).1))), (Array.getElem?_eq_some_iff.1 hq6).1⟩)
    have HAQ := Lib.hid haq
    have HX5 := Lib.hid hx5
    have HB5 := Lib.hid hb5
    have HSL := Lib.hid (fun k e => (hS5.lt k e).1)
    have HTN := Lib.hid hTN
    have HDE := Lib.hid hdead
    have HG5 := Lib.hid hG5
    have hlL5 : o.L.length < 1000000000 := by have := (good_doE HG.out hD).2; omega
    have hKn : (noteK K o.evs).length ≤ 1000 := by rw [noteK_len]; exact hfew5
    clear haq hx5 hb5 hTN hdead hG5 hS5 hK5 hN5 hV hY hD hTO ht hR5 HDo HG HT HSC HC0 HXQ hlL hnX hXc
    go_wp2_with fail
    go_region_held3 (fun w' => w'.cell? ⟨ab, 5, none⟩ = some (.slice p2 o.evs.length c2) ∧ w'.cell? ⟨br, 1, none⟩ = some (.int .i64 now) ∧ w'.cell? ⟨w1.heap.size, 1, none⟩ = some (.int .i64 390)) (go_keep) (first | (go_at_call 17; refine (HNR.out _ (by repeat (first | exact Below.refl _ _ | refine Below.drew ?_ | refine below_drewN ?_ _ | refine Below.alloc ?_ (by simp) _))).mono ?_; rintro e w6 ⟨rfl, z0, z5, z1, zx, HS6, HY6, HB6, hal6⟩))
    go_wp2_with fail
    generalize hKN : noteK K o.evs = KN at *
    clear z0 z5
    go_loopw [7] (fun i wr => ∃ (k : Nat) (X2 : Nat → Prop), k ≤ KN.length ∧ i = .int .i64 k ∧ Hid (RunS w.heap.size br bx KN o.L now o.now X2 wr) ∧ Hid (wr.heap[w1.heap.size]? = some (.cells #[.int .i64 4, .int .i64 390, .int .i64 0] 29 (0, 0))) ∧ Hid (¬ X2 w1.heap.size) ∧ Hid (Below w.heap.size w wr)) (fun i _ => KN.length - (intOf i).toNat)
    case atStart => exact ⟨0, X', Nat.zero_le _, rfl, HS6, HY6, Lib.hid hnx5, HB6⟩
    case round =>
      obtain ⟨k, X2, hk, rfl, HSC, HXQ, HNX, HC0⟩ := hrel
      obtain ⟨W1, hW1⟩ : ∃ W1, W1 = wr := ⟨_, rfl⟩
      subst hW1
      have HG := HG5
      have hlL := hlL5
      obtain ⟨e0, e1, hltc, hfew, pR, capR, hRM⟩ := HSC.out.cell
      have e2 := hRM.cell.2.2
      have hxl : w1.heap.size < W1.heap.size := (Array.getElem?_eq_some_iff.1 HXQ.out).1
      by_cases hlt : k < KN.length
      · obtain ⟨kj, hkj⟩ : ∃ kj, KN[k]? = some kj := ⟨_, List.getElem?_eq_getElem hlt⟩
        have hkl : k < o.L.length := by have := HTN.out.len; omega
        obtain ⟨j, hj⟩ : ∃ j, o.L[k]? = some j := ⟨_, List.getElem?_eq_getElem hkl⟩
        have hkn := HTN.out.each k kj j hkj hj
        have hjd := HDE.out j (List.mem_of_getElem? hj)
        have hov : kj.over = true := by rw [hkn.over, hjd]; rfl
        have hst := (hkn.2.2.2.2.2.2.2.1 hjd).2.2
        have hph : 3 ≤ j.phase ∧ j.phase ≤ 5 := by
          have h1 := hkn.2.2.2.1
          have h2 := hkn.2.2.2.2.1
          simp [Job.live, liveB] at hjd
          omega
        have hss := (HG.out.each j (List.mem_of_getElem? hj)).2.2.2.1
        obtain ⟨g, rfl, hrow⟩ := hRM.row k kj hkj
        have r4 := hrow 4 _ rfl
        rw [hov] at r4
        have HKJ := Lib.hid hkj
        have HJ := Lib.hid hj
        clear hkn hjd hkj hj hrow hRM
        go_wp2_with fail
        have hXc : ∀ k, X2 k → k < W1.heap.size := fun k e => (HSC.out.lt k e).2
        have HDo := Lib.hid (run_did w.heap.size br bx KN o.L now o.now X2 a m w HE.out W1 HC0.out (Nat.le_refl _) HC0.out.size HSC.out HG.out hlL 5 ((k : Int) + 1) 0 W1 (Below.refl _ _))
        go_wp2_with (go_at_call 16; refine HDo.out.mono ?_; rintro e w3 ⟨oR, pR1, cR1, pR2, cR2, XR, hD, rfl, hY, hV, hS, hK, hN, hb⟩; refine Hid.out ?_)
        refine Lib.hid ?_
        have HCUT := Lib.hid (replyAt_new (w0 := w) hXc (Below.refl _ _) hD hY hV hS hK hN hb)
        obtain ⟨fR0, fR1, flR, _, _⟩ := hS.cell
        clear hD hY hV hS hK hN hb
        go_wp2_with fail
        clear fR0 fR1 flR
        have hcut := HCUT.out
        generalize w3.alloc (.cells #[.int .i64 oR.err, .int .i64 oR.a, .int .i64 oR.b, .int .i64 oR.c, .slice pR1 oR.rows.length cR1, .slice pR2 oR.evs.length cR2] 34) = wc at *
        generalize w3.heap.size = abR at *
        clear HCUT
        obtain ⟨o2, p3, c3, p4, c4, X3, ab2, hab0, hD, haq, hY, hV, hS5, hK5, hN5, hb5, hnab, hab⟩ := hcut
        obtain rfl : abR = ab2 := by simpa using hab0
        obtain rfl := doE_stat HJ.out (by omega) hD
        have hx5 := (hK5.block _ hxl HNX.out).trans HXQ.out
        have hnx3 : ¬ X3 w1.heap.size := fun e => (hN5 _ e).elim HNX.out (fun e => by omega)
        obtain ⟨f0, f1, hl5, _, p5, cap5, hR5⟩ := hS5.cell
        have f2 := hR5.cell.2.2
        obtain ⟨g5, rfl, hrow5⟩ := hR5.row k kj HKJ.out
        have s3 := hrow5 3 _ rfl
        have b0 := cell_of_row _ _ 0 _ _ (0, 0) haq
        have b1 := cell_of_row _ _ 1 _ _ (0, 0) haq
        have b2 := cell_of_row _ _ 2 _ _ (0, 0) haq
        have b3 := cell_of_row _ _ 3 _ _ (0, 0) haq
        simp at b0 b1 b2 b3
        have hal2 : abR < wc.heap.size := (Array.getElem?_eq_some_iff.1 haq).1
        have HS3 := Lib.hid hS5
        have HX3 := Lib.hid hx5
        have HN3 := Lib.hid hnx3
        have HB3 := Lib.hid hb5
        clear hD haq hY hV hS5 hK5 hN5 hb5 hR5 hrow5 hx5 hnx3
        go_wp2_with fail
        have gA : decide (j.phase < 3) = false := decide_eq_false (by omega)
        have gB : decide (5 < j.phase) = false := decide_eq_false (by omega)
        have gC : decide (j.stop < j.start) = false := decide_eq_false (by omega)
        have hBq := fun (nq : Nat) => below_drewN (Below.refl wc.heap.size wc) nq
        have HBQ := Lib.hid hBq
        clear hBq
        by_cases hs0 : 0 ≤ kj.started
        · have est := hst hs0
          rw [est] at s3
          have gD : decide (0 ≤ j.start) = true := decide_eq_true (by omega)
          go_quiet (fail)
          go_wp2
          go_roundw
          case rel => exact ⟨k + 1, X3, by omega, by go_num, Lib.hid (HS3.out.below (HBQ.out _)), Lib.hid HX3.out, HN3, Lib.hid (HB3.out.trans ((HBQ.out _).mono HB3.out.size))⟩
          case measure => simp [intOf]; omega
        · have gD : decide (0 ≤ kj.started) = false := decide_eq_false hs0
          go_quiet (fail)
          go_wp2
          go_roundw
          case rel => exact ⟨k + 1, X3, by omega, by go_num, Lib.hid (HS3.out.below (HBQ.out _)), Lib.hid HX3.out, HN3, Lib.hid (HB3.out.trans ((HBQ.out _).mono HB3.out.size))⟩
          case measure => simp [intOf]; omega
      · obtain rfl : k = KN.length := by omega
        clear hRM
        have hXc : ∀ k, X2 k → k < W1.heap.size := fun k e => (HSC.out.lt k e).2
        have HDo := Lib.hid (run_did w.heap.size br bx KN o.L now o.now X2 a m w HE.out W1 HC0.out (Nat.le_refl _) HC0.out.size HSC.out HG.out hlL 6 0 0 W1 (Below.refl _ _))
        go_wp2_with (go_at_call 16; refine HDo.out.mono ?_; rintro e w3 ⟨oR, pR1, cR1, pR2, cR2, XR, hD, rfl, hY, hV, hS, hK, hN, hb⟩; refine Hid.out ?_)
        refine Lib.hid ?_
        have HCUT := Lib.hid (replyAt_new (w0 := w) hXc (Below.refl _ _) hD hY hV hS hK hN hb)
        obtain ⟨fR0, fR1, flR, _, _⟩ := hS.cell
        clear hD hY hV hS hK hN hb
        go_wp2_with fail
        clear fR0 fR1 flR
        have hcut := HCUT.out
        generalize w3.alloc (.cells #[.int .i64 oR.err, .int .i64 oR.a, .int .i64 oR.b, .int .i64 oR.c, .slice pR1 oR.rows.length cR1, .slice pR2 oR.evs.length cR2] 34) = wc at *
        generalize w3.heap.size = abR at *
        clear HCUT
        obtain ⟨o2, p3, c3, p4, c4, X3, ab2, hab0, hD, haq, hY, hV, hS5, hK5, hN5, hb5, hnab, hab⟩ := hcut
        obtain rfl : abR = ab2 := by simpa using hab0
        obtain rfl := doE_queue hD
        have hx5 := (hK5.block _ hxl HNX.out).trans HXQ.out
        have hnx3 : ¬ X3 w1.heap.size := fun e => (hN5 _ e).elim HNX.out (fun e => by omega)
        have hnabQ := hnab
        have b4 := cell_of_row _ _ 4 _ _ (0, 0) haq
        simp at b4
        rw [queueN_dead o.L HDE.out] at b4
        have hal2 : abR < wc.heap.size := (Array.getElem?_eq_some_iff.1 haq).1
        obtain ⟨W2, hW2⟩ : ∃ W2, W2 = wc := ⟨_, rfl⟩
        subst hW2
        have HSC := Lib.hid hS5
        have HC0 := Lib.hid hb5
        have HQ2 := Lib.hid haq
        have HX2 := Lib.hid hx5
        obtain ⟨f0, f1, hl5, _, _⟩ := hS5.cell
        have hxl2 : w1.heap.size < W2.heap.size := (Array.getElem?_eq_some_iff.1 hx5).1
        clear hD haq hY hV hS5 hK5 hN5 hb5 hx5 HDo hXc
        obtain ⟨aQ, haQ⟩ : ∃ aQ, aQ = abR := ⟨_, rfl⟩
        subst haQ
        have hXc : ∀ k, X3 k → k < W2.heap.size := fun k e => (HSC.out.lt k e).2
        have HDo := Lib.hid (run_did w.heap.size br bx KN o.L now o.now X3 a m w HE.out W2 HC0.out (Nat.le_refl _) HC0.out.size HSC.out HG.out hlL 7 0 0 W2 (Below.refl _ _))
        refine HDo.out.mono ?_
        rintro e w3 ⟨oR, pR1, cR1, pR2, cR2, XR, hD, rfl, hY, hV, hS, hK, hN, hb⟩
        have HCUT := Lib.hid (replyAt_new (w0 := w) hXc (Below.refl _ _) hD hY hV hS hK hN hb)
        obtain ⟨fR0, fR1, flR, _, _⟩ := hS.cell
        clear hD hY hV hS hK hN hb
        go_wp2_with fail
        clear fR0 fR1 flR
        have hcut := HCUT.out
        generalize w3.alloc (.cells #[.int .i64 oR.err, .int .i64 oR.a, .int .i64 oR.b, .int .i64 oR.c, .slice pR1 oR.rows.length cR1, .slice pR2 oR.evs.length cR2] 34) = wc at *
        generalize w3.heap.size = abR at *
        clear HCUT
        obtain ⟨o2, p5, c5, p6, c6, X4, ab2, hab0, hD, haq, hY, hV, hS5, hK5, hN5, hb5, hnab, hab⟩ := hcut
        obtain rfl : abR = ab2 := by simpa using hab0
        obtain rfl := doE_info hD
        have hx5 := (hK5.block _ hxl2 hnx3).trans HX2.out
        have hq5 := (hK5.block _ hal2 hnabQ).trans HQ2.out
        have b1 := cell_of_row _ _ 1 _ _ (0, 0) haq
        have b2 := cell_of_row _ _ 2 _ _ (0, 0) haq
        have b3 := cell_of_row _ _ 3 _ _ (0, 0) haq
        have b4' := cell_of_row _ _ 4 _ _ (0, 0) hq5
        have y1 := cell_of_row _ _ 1 _ _ (0, 0) hx5
        simp at b1 b2 b3 b4' y1
        rw [hnw] at b1
        rw [freeN_dead o.L 8 HDE.out] at b2
        rw [liveN_dead o.L HDE.out] at b3
        rw [queueN_dead o.L HDE.out] at b4'
        simp at b3 b4'
        obtain ⟨f0, f1, hl5, _, _⟩ := hS5.cell
        have hal3 : abR < wc.heap.size := (Array.getElem?_eq_some_iff.1 haq).1
        have hal4 : aQ < wc.heap.size := (Array.getElem?_eq_some_iff.1 hq5).1
        have hxl5 : w1.heap.size < wc.heap.size := (Array.getElem?_eq_some_iff.1 hx5).1
        have HB6 := Lib.hid hb5
        clear hD haq hY hV hS5 hK5 hN5 hb5 hx5 hq5 HDo hXc
        go_quiet (fail)
        go_wp2
        go_ret
        exact ⟨rfl, HB6.out.trans (below_drewN (Below.refl _ _) _ |>.mono HB6.out.size)⟩

end Go.Proofs.YtpcgnadfldimhaaGreatDoor
