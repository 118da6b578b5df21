/-
  The statement Safe, walked.
-/
import Derived.Test.YtpcgnadfldimhaaGreatDoorKeepS
namespace Go.Proofs.YtpcgnadfldimhaaGreatDoor
open Go.RowKit

set_option maxHeartbeats 8000000 in
set_option maxRecDepth 100000 in
theorem safe_walk (a : Addr) (m : Int) (w : World) (hX : EnvX a m w) (ad : Option Addr) (cap : Nat) (ss : List StepV) (hS : ScriptK w ad ss) (hl : ss.length ≤ maxLen) :
    Calls Tryz.prog 7 #[.slice ad ss.length cap] w fun e w' => e = .returned (.bool true) ∧ Below w.heap.size w w' := by
  have HE := Lib.hid hX.env
  have HBg := Lib.hid (begun_any a m w hX.env)
  have HSc := Lib.hid hS
  have hl : ss.length ≤ 9223372036854775807 := by unfold maxLen at hl; omega
  clear hX hS
  go_enter Tryz.func7, Tryz.ntmps7
  go_wp2_with (go_at_call 18; refine HBg.out.mono ?_; rintro e w1 ⟨rfl, hb1⟩; refine Hid.out ?_)
  refine Lib.hid ?_
  have HFr := Lib.hid (fresh_any w.heap.size w1 hb1.size)
  have HB1 := Lib.hid hb1
  clear hb1
  go_wp2_with (go_at_call 19; refine HFr.out.mono ?_; rintro e w2 ⟨bx, bi, rfl, hb2, hP2, hx2, hi2⟩; refine Hid.out ?_)
  refine Lib.hid ?_
  have hb2' := HB1.out.trans (hb2.mono HB1.out.size)
  obtain ⟨X0, hR0, hX0⟩ := run_made hP2 hb2'.size ss
  have HR0 := Lib.hid hR0
  have HB2 := Lib.hid hb2'
  clear hb2 hP2 hR0 hX0 hb2'
  go_wp2
  go_loopw [3, 7] (fun ok i wr => ∃ (k : Nat) (X : Nat → Prop), k ≤ ss.length ∧ k ≤ 50 ∧ i = .int .i64 k ∧ ok = .bool true ∧ Hid (RunAt ss w.heap.size w2.heap.size bx k X wr) ∧ Hid (Below w.heap.size w wr)) (fun _ i _ => ss.length - (intOf i).toNat)
  case atStart => exact ⟨0, X0, Nat.zero_le _, by omega, rfl, rfl, HR0, Lib.hid (HB2.out.alloc HB2.out.size _)⟩
  case round =>
    obtain ⟨k, X, hk, hk8, rfl, rfl, HR, HB⟩ := hrel
    generalize w2.heap.size = br at *
    by_cases hlt : k < ss.length
    · by_cases hlt8 : k < 50
      · obtain ⟨s, hs⟩ : ∃ s, ss[k]? = some s := ⟨_, List.getElem?_eq_getElem hlt⟩
        obtain ⟨hwf, b, off, rfl, hrow⟩ := (HSc.out.on HB.out) k s hs
        have HST := Lib.hid (step_at ss w.heap.size br bx k X a m w HE.out wr HB.out (Nat.le_refl _) HB.out.size HR.out (by omega) s hs hwf)
        have q0 := hrow 0 _ rfl
        have q1 := hrow 1 _ rfl
        have q2 := hrow 2 _ rfl
        rw [Nat.add_zero] at q0
        clear hrow hwf
        go_wp2_with (go_at_call 20; refine HST.out.mono ?_; rintro e w4 ⟨rfl, X', hR', hK', hN', hb'⟩; refine Hid.out ?_)
        refine Lib.hid ?_
        obtain ⟨K, L, now, hA, hRS⟩ := hR'
        obtain ⟨hG, hT, hKl, hnow⟩ := hA.good (by omega)
        have hn0 := hG.now0
        have hl80 : L.length ≤ 80 := by have := hT.len; omega
        have hlL : L.length < 1000000000 := by omega
        have hZ := hT.size hG
        have HA := Lib.hid hA
        have HG := Lib.hid hG
        have HT := Lib.hid hT
        have HZ := Lib.hid hZ
        have HS4 := Lib.hid hRS
        have HB4 := Lib.hid hb'
        obtain ⟨c0, c1, hlt4, hfew, pM, capM, hRM⟩ := hRS.cell
        have c2 := hRM.cell.2.2
        clear hA hG hT hZ hRS hb' hK' hN' HST q0 q1 q2 hRM
        go_wp2_with fail
        go_loopw [8] (fun kk wr => ∃ q : Nat, q ≤ K.length ∧ kk = .int .i64 q ∧ Hid (Below w4.heap.size w4 wr)) (fun kk _ => K.length - (intOf kk).toNat)
        case atStart => exact ⟨0, Nat.zero_le _, rfl, Lib.hid (Below.refl _ _)⟩
        case round =>
          obtain ⟨q, hq, rfl, HBq⟩ := hrel
          obtain ⟨W1, hW1⟩ : ∃ W1, W1 = wr := ⟨_, rfl⟩
          subst hW1
          have HSC := Lib.hid (HS4.out.below HBq.out)
          have HC0 := Lib.hid (HB4.out.trans (HBq.out.mono HB4.out.size))
          obtain ⟨d0, d1, hltq, _, pq, capq, hRq⟩ := HSC.out.cell
          have d2 := hRq.cell.2.2
          by_cases hql : q < K.length
          · obtain ⟨kj, hkj⟩ : ∃ kj, K[q]? = some kj := ⟨_, List.getElem?_eq_getElem hql⟩
            obtain ⟨g, rfl, hrow⟩ := hRq.row q kj hkj
            have hgl : g < W1.heap.size := (hRq.own.lt g rfl).2
            have r2 := hrow 2 _ rfl
            have r4 := hrow 4 _ rfl
            have HU := Lib.hid (usedR_any w.heap.size br bx now _ capq K W1 hRq HZ.out kj.promise (-1))
            have hfit : usedK K kj.promise (-1) K.length ≤ 8 := by rw [HT.out.usedAll HG.out]; exact fits_ever HG.out _
            have hul := usedK_le K HZ.out kj.promise (-1) K.length
            clear hrow hRq
            go_wp2_with (go_at_call 21; refine HU.out.mono ?_; rintro e w5 ⟨rfl, hb5⟩; refine Hid.out ?_)
            refine Lib.hid ?_
            have g2 := (hb5.cell (p := ⟨br, 2, none⟩) hltq).trans d2
            have s4 := (hb5.cell (p := ⟨g, q * 5 + 4, none⟩) hgl).trans r4
            have HB5 := Lib.hid (HBq.out.trans (hb5.mono HBq.out.size))
            have hlt5 : br < w5.heap.size := Nat.lt_of_lt_of_le hltq hb5.size
            clear hb5 d0 d1 d2 r2 r4
            generalize usedK K kj.promise (-1) K.length = uu at *
            have gu : decide (8 < uu) = false := decide_eq_false (by omega)
            cases ho : kj.over with
            | true =>
              rw [ho] at s4
              go_wp2
              go_roundw
              case rel => exact ⟨q + 1, by omega, by go_num, HB5⟩
              case measure => simp [intOf]; omega
            | false =>
              rw [ho] at s4
              go_wp2
              go_roundw
              case rel => exact ⟨q + 1, by omega, by go_num, HB5⟩
              case measure => simp [intOf]; omega
          · obtain rfl : q = K.length := by omega
            clear hRq
            have hXc : ∀ k, X' k → k < W1.heap.size := fun k e => (HSC.out.lt k e).2
            have HDo := Lib.hid (run_did w.heap.size br bx K L now now X' a m w HE.out W1 HC0.out (Nat.le_refl _) HC0.out.size HSC.out HG.out hlL 7 0 0 W1 (Below.refl _ _))
            go_wp2_with (go_at_call 16; refine HDo.out.mono ?_; rintro e w3 ⟨oR, pR1, cR1, pR2, cR2, XR, hD, rfl, hY, hV, hS, hK, hN, hb⟩; refine Hid.out ?_)
            refine Lib.hid ?_
            have HCUT := Lib.hid (replyAt_new (w0 := w) hXc (Below.refl _ _) hD hY hV hS hK hN hb)
            obtain ⟨fR0, fR1, flR, _, _⟩ := hS.cell
            clear hD hY hV hS hK hN hb
            go_wp2_with fail
            clear fR0 fR1 flR
            have hcut := HCUT.out
            generalize w3.alloc (.cells #[.int .i64 oR.err, .int .i64 oR.a, .int .i64 oR.b, .int .i64 oR.c, .slice pR1 oR.rows.length cR1, .slice pR2 oR.evs.length cR2] 34) = wc at *
            generalize w3.heap.size = abR at *
            clear HCUT
            obtain ⟨o2, p3, c3, p4, c4, X3, ab2, hab0, hD, haq, hY, hV, hS5, hK5, hN5, hb5, hnab, hab⟩ := hcut
            obtain rfl : abR = ab2 := by simpa using hab0
            obtain rfl := doE_info hD
            obtain ⟨W2, hW2⟩ : ∃ W2, W2 = wc := ⟨_, rfl⟩
            subst hW2
            have hfr : freeN L 8 L.length = freeK K K.length := by rw [HT.out.len]; exact (HT.out.free_is _ (Nat.le_refl _)).symm
            have hlv : liveN L L.length = liveK K K.length := by rw [HT.out.len]; exact (HT.out.live _ (Nat.le_refl _)).symm
            have hpos := free_pos HG.out
            have b1 := cell_of_row _ _ 1 _ _ (0, 0) haq
            have b2 := cell_of_row _ _ 2 _ _ (0, 0) haq
            have b3 := cell_of_row _ _ 3 _ _ (0, 0) haq
            simp at b1 b2 b3
            rw [hfr] at b2 hpos
            rw [hlv] at b3
            have hal2 : abR < W2.heap.size := (Array.getElem?_eq_some_iff.1 haq).1
            have HS7 := Lib.hid hS5
            have HB7 := Lib.hid hb5
            have HFL := Lib.hid (freeK_le K HZ.out)
            clear hD haq hY hV hS5 hK5 hN5 hb5 hfr hlv HDo hXc
            go_loopw [11, 12] (fun fr kk wr => ∃ q : Nat, q ≤ K.length ∧ kk = .int .i64 q ∧ fr = .int .i64 (freeK K q) ∧ Hid (Below W2.heap.size W2 wr)) (fun _ kk _ => K.length - (intOf kk).toNat)
            case atStart => exact ⟨0, Nat.zero_le _, rfl, rfl, Lib.hid (Below.refl _ _)⟩
            case round =>
              obtain ⟨q, hq, rfl, rfl, HBq⟩ := hrel
              have hfl := HFL.out q
              have HSQ := Lib.hid (HS7.out.below HBq.out)
              obtain ⟨d0, d1, hltq, _, pq, capq, hRq⟩ := HSQ.out.cell
              have d2 := hRq.cell.2.2
              by_cases hql : q < K.length
              · obtain ⟨kj, hkj⟩ : ∃ kj, K[q]? = some kj := ⟨_, List.getElem?_eq_getElem hql⟩
                obtain ⟨g, rfl, hrow⟩ := hRq.row q kj hkj
                have hsz := HZ.out kj (List.mem_of_getElem? hkj)
                have r0 := hrow 0 _ rfl
                have r3 := hrow 3 _ rfl
                have r4 := hrow 4 _ rfl
                rw [Nat.add_zero] at r0
                have HFS := Lib.hid (freeK_step K q kj hkj)
                clear hrow hRq hkj
                cases ho : kj.over with
                | true =>
                  rw [ho] at r4
                  go_wp2
                  go_roundw
                  case rel => exact ⟨q + 1, by omega, by go_num, val_int (by rw [HFS.out]; simp [ho]), HBq⟩
                  case measure => simp [intOf]; omega
                | false =>
                  rw [ho] at r4
                  by_cases hs0 : 0 ≤ kj.started
                  · have gD : decide (0 ≤ kj.started) = true := decide_eq_true hs0
                    go_wp2
                    go_roundw
                    case rel => exact ⟨q + 1, by omega, by go_num, val_int (by rw [HFS.out]; simp [ho, hs0]), HBq⟩
                    case measure => simp [intOf]; omega
                  · have gD : decide (0 ≤ kj.started) = false := decide_eq_false hs0
                    go_wp2
                    go_roundw
                    case rel => exact ⟨q + 1, by omega, by go_num, val_int (by rw [HFS.out]; simp [ho, hs0]), HBq⟩
                    case measure => simp [intOf]; omega
              · obtain rfl : q = K.length := by omega
                have HLQ : Hid (∀ W, Below wr.heap.size wr W → Calls Tryz.prog 22 #[.pointer (some ⟨br, 0, none⟩)] W fun e w' => e = .returned (.int .i64 (liveK K K.length)) ∧ ∃ m, w' = W.drewN m) := Lib.hid (fun W hW => (liveR_any w.heap.size br bx now pq capq K W (hRq.below hW)).mono (fun e w' h => ⟨h.1, 0, h.2⟩))
                have z1 := (HBq.out.cell (p := ⟨abR, 1, none⟩) hal2).trans b1
                have z2 := (HBq.out.cell (p := ⟨abR, 2, none⟩) hal2).trans b2
                have z3 := (HBq.out.cell (p := ⟨abR, 3, none⟩) hal2).trans b3
                have halr : abR < wr.heap.size := Nat.lt_of_lt_of_le hal2 HBq.out.size
                have HSR := Lib.hid (fun (nq : Nat) => HS7.out.below (HBq.out.trans ((below_drewN (Below.refl wr.heap.size wr) nq).mono HBq.out.size)))
                have HBR := Lib.hid (fun (nq : Nat) => HB7.out.trans ((HBq.out.trans ((below_drewN (Below.refl wr.heap.size wr) nq).mono HBq.out.size)).mono HB7.out.size))
                clear hRq b1 b2 b3
                generalize freeK K K.length = fF at *
                generalize liveK K K.length = lL at *
                have gF : decide (fF < 0) = false := decide_eq_false (by omega)
                go_wp2_with fail
                go_quiet (first | (go_at_call 22; exact Calls.quiet_of (HLQ.out _ (by repeat (first | exact Below.refl _ _ | refine Below.drew ?_ | refine below_drewN ?_ _ | refine Below.alloc ?_ (by simp) _)))))
                go_wp2
                go_roundw
                case rel => exact ⟨k + 1, X3, by omega, by omega, by go_num, rfl, Lib.hid ⟨K, L, now, HA.out, HSR.out _⟩, Lib.hid (HBR.out _)⟩
                case measure => simp [intOf]; omega
      · have h80 : k = 50 := by omega
        have hlt8' : ¬ (k : Int) < 50 := by omega
        go_wp2
        go_ret
        exact ⟨rfl, HB.out⟩
    · obtain rfl : k = ss.length := by omega
      go_wp2
      go_ret
      exact ⟨rfl, HB.out⟩

end Go.Proofs.YtpcgnadfldimhaaGreatDoor
