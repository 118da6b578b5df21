/-
  The statement Stable, walked.
-/
import Derived.Test.YtpcgnadfldimhaaGreatDoorKeepS
namespace Go.Proofs.YtpcgnadfldimhaaGreatDoor
open Go.RowKit

set_option maxHeartbeats 8000000 in
set_option maxRecDepth 100000 in
theorem stable_walk (a : Addr) (m : Int) (w : World) (hX : EnvX a m w) (ad : Option Addr) (cap : Nat) (ss : List StepV) (hS : ScriptK w ad ss) (hl : ss.length ≤ maxLen) :
    Calls Tryz.prog 8 #[.slice ad ss.length cap] w fun e w' => e = .returned (.bool true) ∧ Below w.heap.size w w' := by
  have HE := Lib.hid hX.env
  have HBg := Lib.hid (begun_any a m w hX.env)
  have HSc := Lib.hid hS
  have hl : ss.length ≤ 9223372036854775807 := by unfold maxLen at hl; omega
  clear hX hS
  go_enter Tryz.func8, Tryz.ntmps8
  go_wp2_with (go_at_call 18; refine HBg.out.mono ?_; rintro e w1 ⟨rfl, hb1⟩; refine Hid.out ?_)
  refine Lib.hid ?_
  have HFr := Lib.hid (fresh_any w.heap.size w1 hb1.size)
  have HB1 := Lib.hid hb1
  clear hb1
  go_wp2_with (go_at_call 19; refine HFr.out.mono ?_; rintro e w2 ⟨bx, bi, rfl, hb2, hP2, hx2, hi2⟩; refine Hid.out ?_)
  refine Lib.hid ?_
  have hb2' := HB1.out.trans (hb2.mono HB1.out.size)
  obtain ⟨X0, hR0, hX0⟩ := run_made hP2 hb2'.size ss
  have HR0 := Lib.hid hR0
  have HB2 := Lib.hid hb2'
  clear hb2 hP2 hR0 hX0 hb2'
  go_wp2
  go_loopw [3, 7] (fun ok i wr => ∃ (k : Nat) (X : Nat → Prop), k ≤ ss.length ∧ k ≤ 25 ∧ i = .int .i64 k ∧ ok = .bool true ∧ Hid (RunAt ss w.heap.size w2.heap.size bx k X wr) ∧ Hid (Below w.heap.size w wr)) (fun _ i _ => ss.length - (intOf i).toNat)
  case atStart => exact ⟨0, X0, Nat.zero_le _, by omega, rfl, rfl, HR0, Lib.hid (HB2.out.alloc HB2.out.size _)⟩
  case round =>
    obtain ⟨k, X, hk, hk8, rfl, rfl, HR, HB⟩ := hrel
    generalize w2.heap.size = br at *
    by_cases hlt : k < ss.length
    · by_cases hlt8 : k < 25
      · obtain ⟨s, hs⟩ : ∃ s, ss[k]? = some s := ⟨_, List.getElem?_eq_getElem hlt⟩
        obtain ⟨hwf, b, off, rfl, hrow⟩ := (HSc.out.on HB.out) k s hs
        have HST := Lib.hid (step_at ss w.heap.size br bx k X a m w HE.out wr HB.out (Nat.le_refl _) HB.out.size HR.out (by omega) s hs hwf)
        have q0 := hrow 0 _ rfl
        have q1 := hrow 1 _ rfl
        have q2 := hrow 2 _ rfl
        rw [Nat.add_zero] at q0
        clear hrow hwf
        go_wp2_with (go_at_call 20; refine HST.out.mono ?_; rintro e w4 ⟨rfl, X', hR', hK', hN', hb'⟩; refine Hid.out ?_)
        refine Lib.hid ?_
        obtain ⟨K, L, now, hA, hRS⟩ := hR'
        obtain ⟨hG, hT, hKl, hnow⟩ := hA.good (by omega)
        have hn0 := hG.now0
        have hl80 : L.length ≤ 80 := by have := hT.len; omega
        have hlL : L.length < 1000000000 := by omega
        have hZ := hT.size hG
        have HA := Lib.hid hA
        have HG := Lib.hid hG
        have HT := Lib.hid hT
        have HZ := Lib.hid hZ
        have HS4 := Lib.hid hRS
        have HB4 := Lib.hid hb'
        obtain ⟨c0, c1, hlt4, hfew, pM, capM, hRM⟩ := hRS.cell
        have c2 := hRM.cell.2.2
        clear hA hG hT hZ hRS hb' hK' hN' HST q0 q1 q2 hRM
        go_wp2_with fail
        go_loopw [8] (fun kk wr => ∃ q : Nat, q ≤ K.length ∧ kk = .int .i64 q ∧ Hid (Below w4.heap.size w4 wr)) (fun kk _ => K.length - (intOf kk).toNat)
        case atStart => exact ⟨0, Nat.zero_le _, rfl, Lib.hid (Below.refl _ _)⟩
        case round =>
          obtain ⟨q, hq, rfl, HBq⟩ := hrel
          have HSC := Lib.hid (HS4.out.below HBq.out)
          obtain ⟨d0, d1, hltq, _, pq, capq, hRq⟩ := HSC.out.cell
          have d2 := hRq.cell.2.2
          by_cases hql : q < K.length
          · obtain ⟨kj, hkj⟩ : ∃ kj, K[q]? = some kj := ⟨_, List.getElem?_eq_getElem hql⟩
            obtain ⟨g, rfl, hrow⟩ := hRq.row q kj hkj
            have hgl : g < wr.heap.size := (hRq.own.lt g rfl).2
            have r2 := hrow 2 _ rfl
            have r3 := hrow 3 _ rfl
            have r4 := hrow 4 _ rfl
            have HKJ := Lib.hid hkj
            clear hrow hRq hkj
            cases ho : kj.over with
            | true =>
              rw [ho] at r4
              go_wp2
              go_roundw
              case rel => exact ⟨q + 1, by omega, by go_num, HBq⟩
              case measure => simp [intOf]; omega
            | false =>
              rw [ho] at r4
              by_cases hs0 : 0 ≤ kj.started
              · have gD : decide (0 ≤ kj.started) = true := decide_eq_true hs0
                go_wp2
                go_roundw
                case rel => exact ⟨q + 1, by omega, by go_num, HBq⟩
                case measure => simp [intOf]; omega
              · have gD : decide (0 ≤ kj.started) = false := decide_eq_false hs0
                obtain ⟨hp1, hp2, hp3⟩ := HT.out.room_is HG.out HKJ.out ho (by omega)
                have hsz := (HZ.out kj (List.mem_of_getElem? HKJ.out)).2.2 ho
                have HRO := Lib.hid (fun W (hW : Below w4.heap.size w4 W) (t : Int) (h0 : 0 ≤ t) (h1 : t ≤ 1000000000000000) => by
                  obtain ⟨_, _, _, _, p8, cap8, hR8⟩ := (HS4.out.below hW).cell
                  exact roomR_any w.heap.size br bx now p8 cap8 K W hR8 HZ.out t q kj HKJ.out ho h0 h1)
                have HR1 := Lib.hid (HRO.out wr HBq.out kj.promise (by omega) (by omega))
                have HP3 := Lib.hid hp3
                go_wp2_with (go_at_call 23; refine HR1.out.mono ?_; rintro e w5 ⟨rfl, hb5⟩; rw [hp2]; refine Hid.out ?_)
                refine Lib.hid ?_
                have HB5 := Lib.hid (HBq.out.trans (hb5.mono HBq.out.size))
                have g1 := (hb5.cell (p := ⟨br, 1, none⟩) hltq).trans d1
                have hlt5 : br < w5.heap.size := Nat.lt_of_lt_of_le hltq hb5.size
                clear hb5 d0 d1 d2 r2 r3 r4
                go_wp2
                go_loopw [10] (fun tt wr => ∃ t : Int, now ≤ t ∧ t ≤ kj.promise ∧ tt = .int .i64 t ∧ Hid (Below w4.heap.size w4 wr)) (fun tt _ => (kj.promise - intOf tt).toNat)
                case atStart => exact ⟨now, Int.le_refl _, hp1, rfl, HB5⟩
                case round =>
                  obtain ⟨t, ht1, ht2, rfl, HBt⟩ := hrel
                  obtain ⟨d0, d1, hltq, _, pq, capq, hRq⟩ := (HS4.out.below HBt.out).cell
                  have d2 := hRq.cell.2.2
                  obtain ⟨g, rfl, hrow⟩ := hRq.row q kj HKJ.out
                  have r2 := hrow 2 _ rfl
                  clear hrow hRq
                  by_cases htp : t < kj.promise
                  · have HR1 := Lib.hid (HRO.out wr HBt.out t (by omega) (by omega))
                    have hno := HP3.out t ht1 htp
                    go_wp2_with (go_at_call 23; refine HR1.out.mono ?_; rintro e w6 ⟨rfl, hb6⟩; rw [hno]; refine Hid.out ?_)
                    refine Lib.hid ?_
                    have HB6 := Lib.hid (HBt.out.trans (hb6.mono HBt.out.size))
                    clear hb6
                    go_wp2
                    go_roundw
                    case rel => exact ⟨t + 1, by omega, by omega, rfl, HB6⟩
                    case measure => simp [intOf]; omega
                  · go_wp2
                    go_roundw
                    case rel => exact ⟨q + 1, by omega, by go_num, HBt⟩
                    case measure => simp [intOf]; omega
          · obtain rfl : q = K.length := by omega
            go_wp2
            go_roundw
            case rel => exact ⟨k + 1, X', by omega, by omega, by go_num, rfl, Lib.hid ⟨K, L, now, HA.out, HSC.out⟩, Lib.hid (HB4.out.trans (HBq.out.mono HB4.out.size))⟩
            case measure => simp [intOf]; omega
      · have h80 : k = 25 := by omega
        have hlt8' : ¬ (k : Int) < 25 := by omega
        go_wp2
        go_ret
        exact ⟨rfl, HB.out⟩
    · obtain rfl : k = ss.length := by omega
      go_wp2
      go_ret
      exact ⟨rfl, HB.out⟩

end Go.Proofs.YtpcgnadfldimhaaGreatDoor
