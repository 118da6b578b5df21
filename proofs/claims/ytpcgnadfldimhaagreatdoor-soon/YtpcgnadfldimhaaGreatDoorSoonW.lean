/-
  The statement Soon, walked.
-/
import Derived.Test.YtpcgnadfldimhaaGreatDoorKeepS
namespace Go.Proofs.YtpcgnadfldimhaaGreatDoor
open Go.RowKit

theorem restK_le (K : List Kj) (now : Int) (h : ∀ k ∈ K, k.over = false → 0 ≤ k.left now ∧ k.left now ≤ 1000000) : ∀ n : Nat, 0 ≤ restK K now n ∧ restK K now n ≤ 1000000 * (n : Int)
  | 0 => by simp [restK]
  | n + 1 => by
    have ih := restK_le K now h n
    unfold restK
    cases e : K[n]? with
    | none => simp only; omega
    | some j =>
      have hj := h j (List.mem_of_getElem? e)
      simp only
      cases ho : j.over with
      | true => simp; omega
      | false =>
        have := hj ho
        simp
        omega
theorem Told.lefts {now : Int} {K : List Kj} {L : List Job} (h : Told K L) (hG : Good 8 12 30 1000000 now L) : ∀ k ∈ K, k.over = false → 0 ≤ k.left now ∧ k.left now ≤ 1000000 ∧ 1 ≤ k.wall ∧ k.wall ≤ 30 ∧ -1 ≤ k.started ∧ k.started ≤ 1000000000 := fun k hk ho => by
  obtain ⟨i, hi⟩ := List.mem_iff_getElem?.1 hk
  have hl := (List.getElem?_eq_some_iff.1 hi).1
  have hlen := h.len
  obtain ⟨j, hj⟩ : ∃ j, L[i]? = some j := ⟨_, List.getElem?_eq_getElem (by omega)⟩
  have hn := h.each i k j hi hj
  have hm := List.mem_of_getElem? hj
  obtain ⟨_, _, a1, a2, a3, a4, a5, a6⟩ := hG.each j hm
  have hov := hn.over
  rw [ho] at hov
  have hlv : j.live = true := by cases hl : j.live <;> simp [hl] at hov ⊢
  have hst := a6 hlv
  have hp := hG.phased j hm
  have hw := hn.2.1
  have n0 := hG.now0
  unfold Kj.left
  rcases active_live.2 hlv with e | e
  · have := hn.2.2.2.2.2.1 e
    rw [if_neg (by omega)]
    omega
  · have := hn.2.2.2.2.2.2.1 e
    have := hp.2 e
    rw [if_pos (by omega)]
    omega

set_option maxHeartbeats 8000000 in
set_option maxRecDepth 100000 in
theorem soon_walk (a : Addr) (m : Int) (w : World) (hX : EnvX a m w) (ad : Option Addr) (cap : Nat) (ss : List StepV) (hS : ScriptK w ad ss) (hl : ss.length ≤ maxLen) (z1 : Int) (hz1 : -9223372036854775808 ≤ z1 ∧ z1 ≤ 9223372036854775807) (z2 : Int) (hz2 : -9223372036854775808 ≤ z2 ∧ z2 ≤ 9223372036854775807) :
    Calls Tryz.prog 9 #[.slice ad ss.length cap, .int .i64 z1, .int .i64 z2] w fun e w' => e = .returned (.bool true) ∧ Below w.heap.size w w' := by
  have HE := Lib.hid hX.env
  have HPL := Lib.hid (playedK_any a m w hX.env w (Below.refl _ _) ad cap ss hS hl)
  have P8 : Hid (PK z1 8 (pickK z1 8)) := Lib.hid ⟨hz1.1, hz1.2, 8, rfl, rfl, by omega, by omega⟩
  have P30 : Hid (PK z2 30 (pickK z2 30)) := Lib.hid ⟨hz2.1, hz2.2, 30, rfl, rfl, by omega, by omega⟩
  have l8 := pickK_lt z1 8 (by omega)
  have l30 := pickK_lt z2 30 (by omega)
  clear hX hS hl hz1 hz2
  generalize pickK z1 8 = x8 at *
  generalize pickK z2 30 = x30 at *
  go_enter Tryz.func9, Tryz.ntmps9
  go_wp2_with (go_at_call 15; refine HPL.out.mono ?_; rintro e w1 ⟨br, bx, X, rfl, hR, hb1⟩; refine Hid.out ?_)
  refine Lib.hid ?_
  obtain ⟨K, L, now, hA, hRS⟩ := hR
  obtain ⟨hG, hT, hKl, hnow⟩ := hA.good (by omega)
  have h80 : min 80 ss.length ≤ 80 := by omega
  have hn0 := hG.now0
  have hnow2 : now ≤ 1120 := by omega
  have hl80 : L.length ≤ 80 := by have := hT.len; omega
  have hlL : L.length < 1000000000 := by omega
  have HLF := Lib.hid (hT.lefts hG)
  have HRL := Lib.hid (restK_le K now (fun k hk ho => ⟨(hT.lefts hG k hk ho).1, (hT.lefts hG k hk ho).2.1⟩))
  have HG := Lib.hid hG
  have HT := Lib.hid hT
  have HS1 := Lib.hid hRS
  have HB1 := Lib.hid hb1
  obtain ⟨c0, c1, hlt1, hfew, _⟩ := hRS.cell
  clear hA hG hT hRS hb1 HPL hnow
  go_wp2_with fail
  go_loopw [8, 9] (fun re i wr => ∃ q : Nat, q ≤ K.length ∧ i = .int .i64 q ∧ re = .int .i64 (restK K now q) ∧ Hid (Below w1.heap.size w1 wr)) (fun _ i _ => K.length - (intOf i).toNat)
  case atStart => exact ⟨0, Nat.zero_le _, rfl, rfl, Lib.hid (Below.refl _ _)⟩
  case round =>
    obtain ⟨q, hq, rfl, rfl, HBq⟩ := hrel
    obtain ⟨W1, hW1⟩ : ∃ W1, W1 = wr := ⟨_, rfl⟩
    subst hW1
    have HSC := Lib.hid (HS1.out.below HBq.out)
    have HC0 := Lib.hid (HB1.out.trans (HBq.out.mono HB1.out.size))
    have hrl := HRL.out q
    obtain ⟨d0, d1, hltq, _, pq, capq, hRq⟩ := HSC.out.cell
    have d2 := hRq.cell.2.2
    by_cases hql : q < K.length
    · obtain ⟨kj, hkj⟩ : ∃ kj, K[q]? = some kj := ⟨_, List.getElem?_eq_getElem hql⟩
      obtain ⟨g, rfl, hrow⟩ := hRq.row q kj hkj
      have hgl : g < W1.heap.size := (hRq.own.lt g rfl).2
      have hlf := HLF.out kj (List.mem_of_getElem? hkj)
      have r0 := hrow 0 _ rfl
      have r1 := hrow 1 _ rfl
      have r2 := hrow 2 _ rfl
      have r3 := hrow 3 _ rfl
      have r4 := hrow 4 _ rfl
      rw [Nat.add_zero] at r0
      have HRS := Lib.hid (restK_step K now q kj hkj)
      have HBN := Lib.hid (fun (o : Obj) (nq : Nat) => HBq.out.trans ((below_drewN ((Below.refl W1.heap.size W1).alloc (Nat.le_refl _) o) nq).mono HBq.out.size))
      clear hrow hRq hkj
      obtain ⟨wd, wl, pr, st, ov⟩ := kj
      simp only [Kj.left] at r0 r1 r2 r3 r4 hlf
      have HBN0 := Lib.hid (fun (o : Obj) => HBq.out.trans (((Below.refl W1.heap.size W1).alloc (Nat.le_refl _) o).mono HBq.out.size))
      cases ov with
      | true =>
        go_wp2
        go_roundw
        case rel => exact ⟨q + 1, by omega, by go_num, val_int (by rw [HRS.out]; simp), Lib.hid (HBN0.out _)⟩
        case measure => simp [intOf]; omega
      | false =>
        have hlf2 := hlf rfl
        by_cases hs0 : 0 ≤ st
        · rw [if_pos hs0] at hlf2
          go_wp2_with fail
          go_quiet (fail)
          go_wp2
          go_roundw
          case rel => exact ⟨q + 1, by omega, by go_num, val_int (by rw [HRS.out]; simp [Kj.left, hs0]), Lib.hid (HBN.out _ _)⟩
          case measure => simp [intOf]; omega
        · rw [if_neg hs0] at hlf2
          go_wp2
          go_roundw
          case rel => exact ⟨q + 1, by omega, by go_num, val_int (by rw [HRS.out]; simp [Kj.left, hs0]), Lib.hid (HBN0.out _)⟩
          case measure => simp [intOf]; omega
    · obtain rfl : q = K.length := by omega
      have HL := Lib.hid (liveR_any w.heap.size br bx now pq capq K W1 hRq)
      have hlv : liveN L L.length = liveK K K.length := by rw [HT.out.len]; exact (HT.out.live _ (Nat.le_refl _)).symm
      clear hRq
      go_wp2_with (go_at_call 22; refine HL.out.mono ?_; rintro e w2 ⟨rfl, hw2⟩; subst w2; refine Hid.out ?_)
      refine Lib.hid ?_
      go_wp2_with fail
      have hXc : ∀ k, X k → k < W1.heap.size := fun k e => (HSC.out.lt k e).2
      have hnX : ¬ X W1.heap.size := fun e => by have := hXc _ e; omega
      have HDo := Lib.hid (fun W hW => run_did w.heap.size br bx K L now now X a m w HE.out W1 HC0.out (Nat.le_refl _) HC0.out.size HSC.out HG.out hlL 1 (1 + (x8 : Int)) (1 + (x30 : Int)) W hW)
      have hneA : ¬ br = W1.heap.size := by omega
      have hneB : ¬ W1.heap.size = br := by omega
      have HDoW : Hid (∀ W, Below W1.heap.size W1 W → Calls Tryz.prog 16 #[.pointer (some ⟨bx, 0, none⟩), .agg #[.int .i64 1, .int .i64 (IntKind.i64.wrap (1 + (x8 : Int))), .int .i64 (IntKind.i64.wrap (1 + (x30 : Int)))]] W fun e w' => ∃ o p1 c1 p2 c2 X', e = .returned (.agg #[.int .i64 o.err, .int .i64 o.a, .int .i64 o.b, .int .i64 o.c, .slice p1 o.rows.length c1, .slice p2 o.evs.length c2]) ∧ w'.cell? ⟨br, 0, none⟩ = some (.pointer (some ⟨bx, 0, none⟩)) ∧ Kept X W w' ∧ Hid (DoE 8 12 30 1000000 now L 1 (1 + (x8 : Int)) (1 + (x30 : Int)) o ∧ w'.ownsRow W.heap.size 57 4 (.slice p1 o.rows.length c1) o.rows.length (flatR o.rows) ∧ w'.ownsRow W.heap.size 55 4 (.slice p2 o.evs.length c2) o.evs.length (flatE o.evs) ∧ RunS w.heap.size br bx K o.L now o.now X' w' ∧ (∀ k, X' k → X k ∨ W.heap.size ≤ k) ∧ Below w.heap.size w w')) := Lib.hid (fun W hW => by
        rw [wrap_small (1 + (x8 : Int)) (by omega) (by omega), wrap_small (1 + (x30 : Int)) (by omega) (by omega)]
        refine (HDo.out W hW).mono ?_
        rintro e w3 ⟨o, p1, c1, p2, c2, X', hD, rfl, hY, hV, hS, hK, hN, hb⟩
        exact ⟨o, p1, c1, p2, c2, X', rfl, hS.cell.1, hK, Lib.hid ⟨hD, hY, hV, hS, hN, hb⟩⟩)
      go_cut [13] (fun aq wr => ReplyAt w.heap.size br bx K L now now X w W1 1 (1 + (x8 : Int)) (1 + (x30 : Int)) aq wr)
      case first =>
        go_region_held3 (fun w' => w'.cell? ⟨br, 0, none⟩ = some (.pointer (some ⟨bx, 0, none⟩))) (go_keep) (first | (go_at_call 24; refine (pick_at (by first | exact P8.out | exact P30.out) _).mono ?_; rintro e w9 ⟨rfl, hw9⟩; subst w9) | (go_at_call 16; refine (HDoW.out _ (by repeat (first | exact Below.refl _ _ | refine Below.drew ?_ | refine below_drewN ?_ _ | refine Below.alloc ?_ (by simp) _))).mono ?_; rintro e w3 ⟨o, p1, c1, p2, c2, X', rfl, hz, hK, HZ⟩; (try (have hq := replyCells W1.heap.size hnX hK (alloc_at W1 (.cells noughts6 34) W1.heap.size rfl); obtain ⟨q0, q1, q2, q3, q4, q5, qf, ql⟩ := hq)); have HKK := Lib.hid hK; clear hK))
        all_goals go_wp2_with fail
        all_goals go_meet
        all_goals first | (have _hq := q0; exact replyAt_old hXc (below_drewN (n := 1) ((Below.refl _ _).alloc (Nat.le_refl _) _)) rfl (alloc_at W1 (.cells noughts6 34) W1.heap.size rfl) (HC0.out.size) HZ.out.1 HZ.out.2.1 HZ.out.2.2.1 HZ.out.2.2.2.1 HKK.out HZ.out.2.2.2.2.1 HZ.out.2.2.2.2.2) | exact replyAt_new hXc (below_drewN (n := 1) (Below.refl _ _)) HZ.out.1 HZ.out.2.1 HZ.out.2.2.1 HZ.out.2.2.2.1 HKK.out HZ.out.2.2.2.2.1 HZ.out.2.2.2.2.2
      case rest =>
        obtain ⟨o, p1, c1', p2, c2, X', ab, rfl, hD, haq, hY, hV, hS5, hK5, hN5, hb5, hnab, hab⟩ := hcut
        have hso := doE_submit (by simp [rendOk, fitsB, numsN]; omega) hD
        have a0 := cell_of_row _ _ 0 _ _ (0, 0) haq
        have a1 := cell_of_row _ _ 1 _ _ (0, 0) haq
        have a2 := cell_of_row _ _ 2 _ _ (0, 0) haq
        simp at a0 a1 a2
        have hal : ab < wc.heap.size := (Array.getElem?_eq_some_iff.1 haq).1
        obtain ⟨f0, f1, hl5, _, _⟩ := hS5.cell
        have HB5 := Lib.hid hb5
        have hrest := HRL.out K.length
        by_cases hf : (12 : Int) ≤ (liveK K K.length : Int)
        · have e : o = ⟨4, 0, 0, 0, [], [], now, L⟩ := by
            rw [hso]
            unfold submitO
            rw [if_neg (by omega), if_neg (by omega), if_pos (by rw [hlv]; exact hf)]
          rw [e] at a0 a1 a2
          simp only at a0 a1 a2
          clear hD haq hY hV hS5 hK5 hN5 hb5 hso e HDo hXc hnX hlv
          go_wp2
          go_ret
          exact ⟨rfl, HB5.out⟩
        · obtain ⟨s1, s2⟩ := soon_plain HT.out HG.out (width := 1 + (x8 : Int)) (wl := 1 + (x30 : Int)) (by omega) (by omega)
          have e : o.err = 0 ∧ o.b = earliest L 8 now (1 + (x8 : Int)) (1 + (x30 : Int)) (-1) := by
            rw [hso]
            unfold submitO
            rw [if_neg (by omega), if_neg (by omega), if_neg (by rw [hlv]; exact hf)]
            exact ⟨rfl, rfl⟩
          rw [e.1] at a0
          rw [e.2] at a2
          clear hD haq hY hV hS5 hK5 hN5 hb5 hso e HDo hXc hnX hlv
          generalize earliest L 8 now (1 + (x8 : Int)) (1 + (x30 : Int)) (-1) = T at *
          generalize restK K now K.length = R at *
          have gA : decide (now ≤ T) = true := decide_eq_true s1
          have gB : decide (T ≤ now + R) = true := decide_eq_true s2
          go_wp2_with fail
          go_quiet (fail)
          go_wp2
          go_ret
          exact ⟨rfl, HB5.out.trans ((below_drewN (Below.refl _ _) _).mono HB5.out.size)⟩

end Go.Proofs.YtpcgnadfldimhaaGreatDoor
