/-
  The statement Steady, walked.
-/
import Derived.Test.YtpcgnadfldimhaaGreatDoorSteadP
namespace Go.Proofs.YtpcgnadfldimhaaGreatDoor
open Go.RowKit

set_option maxHeartbeats 8000000 in
set_option maxRecDepth 100000 in
theorem steady_walk (a : Addr) (m : Int) (w : World) (hX : EnvX a m w) (ad : Option Addr) (cap : Nat) (ss : List StepV) (hS : ScriptK w ad ss) (hl : ss.length ≤ maxLen) (ac : Option Addr) (cc : Nat) (ns : List Int) (hN : IntsK w ac ns) (hnl : ns.length ≤ maxLen) :
    Calls Tryz.prog 10 #[.slice ad ss.length cap, .slice ac ns.length cc] w fun e w' => e = .returned (.bool true) ∧ Below w.heap.size w w' := by
  obtain ⟨i0, hi, hz0, hz1, hz2⟩ := info_parts Tryz.infoEvP
  have HE := Lib.hid hX.env
  have HPL := Lib.hid (playedK_any a m w hX.env w (Below.refl _ _) ad cap ss hS hl)
  have HPL2 := Lib.hid (fun W hW => playedK_any a m w hX.env W hW ad cap ss hS hl)
  have HN := Lib.hid hN
  have hnl : ns.length ≤ 9223372036854775807 := by unfold maxLen at hnl; omega
  clear hX hS hl hN
  go_enter Tryz.func10, Tryz.ntmps10
  go_wp2_with (go_at_call 15; refine HPL.out.mono ?_; rintro e w1 ⟨br, bx, X, rfl, hR, hb1⟩; refine Hid.out ?_)
  refine Lib.hid ?_
  have HPLB := Lib.hid (HPL2.out w1 hb1)
  have HR1 := Lib.hid hR
  have HB1 := Lib.hid hb1
  clear hR hb1 HPL2 HPL
  go_wp2_with (go_at_call 15; refine HPLB.out.mono ?_; rintro e w2 ⟨bq, bz, Z, rfl, hR2, hb2⟩; refine Hid.out ?_)
  refine Lib.hid ?_
  obtain ⟨K, L, now, hA, hRS⟩ := HR1.out
  obtain ⟨K2, L2, now2, hA2, hRS2⟩ := hR2
  obtain ⟨rfl, rfl, rfl⟩ := hA.unique (by omega) hA2
  obtain ⟨hG, hT, hKl, hnow⟩ := hA.good (by omega)
  have h80 : min 80 ss.length ≤ 80 := by omega
  have hn0 := hG.now0
  have hnow2 : now ≤ 1120 := by omega
  have hl80 : L.length ≤ 80 := by have := hT.len; omega
  have hlL : L.length < 1000000000 := by omega
  have HG := Lib.hid hG
  have HE1 := Lib.hid (HE.out.on HB1.out)
  have HSR := Lib.hid hRS
  have HSQ := Lib.hid hRS2
  have HB2 := Lib.hid hb2
  clear hA hA2 hG hT hRS hRS2 hb2 HPLB HR1 hnow
  go_wp2_with fail
  go_loopw [7, 8, 9] (fun su lv i wr => ∃ (k : Nat) (S : Int) (o : Out) (Z2 : Nat → Prop) (p : Option Addr) (cp : Nat), k ≤ ns.length ∧ k ≤ 30 ∧ 0 ≤ S ∧ S ≤ 11 * (k : Int) ∧ i = .int .i64 k ∧ su = .int .i64 S ∧ lv = .slice p o.evs.length cp ∧ Hid (TickO 1000000 now L S o ∧ o.now = now + S ∧ o.err = 0) ∧ Hid (RunS w1.heap.size bq bz K o.L now o.now Z2 wr) ∧ Hid (wr.ownsRow w1.heap.size 55 4 (.slice p o.evs.length cp) o.evs.length (flatE o.evs)) ∧ Hid (∀ j, Z2 j → (Value.slice p o.evs.length cp).ownBlock ≠ some j) ∧ Hid (Below w1.heap.size w1 wr)) (fun _ _ i _ => ns.length - (intOf i).toNat)
  case atStart => exact ⟨0, 0, ⟨0, 0, 0, 0, [], [], now, L⟩, Z, none, 0, Nat.zero_le _, by omega, by omega, by omega, rfl, rfl, rfl, Lib.hid ⟨tick_none HG.out, by simp, rfl⟩, HSQ, Lib.hid (World.ownsRow_nil _ _ _ _), Lib.hid (fun j _ e => by simp [Value.ownBlock] at e), HB2⟩
  case round =>
    obtain ⟨k, S, o, Z2, p, cp, hk, hk30, hS0, hS1, rfl, rfl, rfl, HTK, HSC, HEV, HZA, HBq⟩ := hrel
    obtain ⟨W1, hW1⟩ : ∃ W1, W1 = wr := ⟨_, rfl⟩
    subst hW1
    have htl := tickO_len HTK.out.1
    have honow := HTK.out.2.1
    have hlo : o.L.length < 1000000000 := by omega
    have HGo := Lib.hid (good_tick HG.out hS0 HTK.out.1)
    by_cases hlt : k < ns.length
    · by_cases hlt8 : k < 30
      · obtain ⟨n0, hn0'⟩ : ∃ n0, ns[k]? = some n0 := ⟨_, List.getElem?_eq_getElem hlt⟩
        obtain ⟨hwf, b, off, rfl, hcell⟩ := (HN.out.on (HB1.out.trans (HBq.out.mono HB1.out.size))) k n0 hn0'
        have P12 : Hid (PK n0 12 (pickK n0 12)) := Lib.hid ⟨hwf.1, hwf.2, 12, rfl, rfl, by omega, by omega⟩
        have l12 := pickK_lt n0 12 (by omega)
        generalize pickK n0 12 = x12 at *
        go_wp2_with (go_at_call 24; refine (pick_at P12.out _).mono ?_; rintro e w9 ⟨rfl, hw9⟩; subst w9; refine Hid.out ?_)
        refine Lib.hid ?_
        obtain ⟨e0, e1, hltc, hfew, _⟩ := HSC.out.cell
        have HDo := Lib.hid (run_doS w1.heap.size bq bz K o.L now o.now Z2 a m w1 HE1.out W1 HBq.out (Nat.le_refl _) HBq.out.size HSC.out HGo.out hlo 4 (x12 : Int) 0)
        go_wp2_with (go_at_call 16; refine HDo.out.mono ?_; rintro e w3 ⟨oR, pR1, cR1, pR2, cR2, XR, hD, rfl, hY, hV, hS, hK, hN, hb, hAw⟩; refine Hid.out ?_)
        refine Lib.hid ?_
        obtain ⟨t1, t2, t3, t4⟩ := tick_more HG.out hS0 (by omega) (by omega) HTK.out.1 (doE_tick (by simp [rendOk, fitsB, numsN]; omega) hD)
        have hso := tickO_len t4
        clear hY hD hAw
        obtain ⟨oe, oa, ob, oc, orw, oev, onw, oL⟩ := oR
        simp only at t1 t3 t4 hso hV hS
        subst t1 t3
        rw [List.length_append] at hso
        have hA4 : Below w3.heap.size w3 (w3.alloc (.cells #[.int .i64 0, .int .i64 oa, .int .i64 ob, .int .i64 oc, .slice pR1 orw.length cR1, .slice pR2 oev.length cR2] 34)) := (Below.refl _ _).alloc (Nat.le_refl _) _
        have hL3 := owns_on HEV.out (fun j e => hK.block j (HEV.out.lt j e).2 (fun ez => HZA.out j ez e))
        have HL4 := Lib.hid (owns_on hL3 (fun j e => hA4.block j (hL3.lt j e).2))
        have HV4 := Lib.hid (owns_on hV (fun j e => hA4.block j (hV.lt j e).2))
        have HS4 := Lib.hid (hS.below hA4)
        have HB4 := Lib.hid (hb.trans (hA4.mono hb.size))
        have HZA4 : Hid (∀ j, XR j → (Value.slice p o.evs.length cp).ownBlock ≠ some j) := Lib.hid (fun j ez e => (hN j ez).elim (fun e1 => HZA.out j e1 e) (fun e1 => by have := (HEV.out.lt j e).2; omega))
        have hw1s : w1.heap.size ≤ w3.heap.size := Nat.le_trans HBq.out.size hK.size
        have hZ3 : ∀ j, XR j → j < w3.heap.size := fun j e => (hS.lt j e).2
        clear hS hK hN hb hL3 hA4 HDo e0 e1
        rcases own_forms hV with ⟨hnil, hnl0⟩ | ⟨gy, cy, hsome⟩
        · obtain ⟨rfl, _, rfl⟩ := Value.slice.inj hnil
          obtain rfl : oev = [] := List.eq_nil_of_length_eq_zero hnl0
          clear hV hnil
          go_wp2_with (at_builtin; refine wpList_append_own_none rfl _ _ 32 rfl w1.heap.size 55 i0 4 Tryz.underlying32 hi _ _ _ rfl HL4.out rfl ?_)
          go_wp2
          go_roundw
          case rel => exact ⟨k + 1, S + x12, ⟨0, 0, 0, 0, [], o.evs ++ [], now + (S + x12), oL⟩, XR, p, cp, by omega, by omega, by omega, by omega, by go_num, rfl, by rw [List.append_nil], Lib.hid ⟨t4, rfl, rfl⟩, HS4, Lib.hid (by simpa using HL4.out), Lib.hid (by simpa using HZA4.out), HB4⟩
          case measure => simp [intOf]; omega
        · obtain ⟨rfl, _, rfl⟩ := Value.slice.inj hsome
          have hc1 := hV.1
          have hce := fun u hu => evs_one oev u hu
          clear hV hsome
          go_wp2_with (at_builtin; refine wpList_append_at _ rfl _ _ 32 rfl w1.heap.size 55 i0 (.agg #[.int .i64 0, .int .i64 0, .int .i64 0, .int .i64 0]) 4 32 Tryz.underlying32 hi hz0 hz1 hz2 rfl (by decide) _ _ _ rfl HL4.out ⟨gy, 0, none⟩ oev.length cR2 (flatE oev) rfl hc1 (HV4.out.cells rfl) hce (by unfold maxLen; omega) (by omega) (by simp; omega) ?_)
          intro v6 w6 hown6 hgrow hat
          obtain ⟨p6, c6, rfl⟩ := own_slice hown6
          have hKg : Kept (fun j => (Value.slice p o.evs.length cp).ownBlock = some j) _ w6 := (Kept.refl _ _).grown hgrow (fun j e => Or.inl e)
          have HS6 := Lib.hid (HS4.out.kept hKg (fun j ez e => HZA4.out j ez e))
          have HB6 := Lib.hid (HB4.out.trans (hKg.below HB4.out.size (fun j e => (HL4.out.lt j e).1)))
          have HL6 : Hid (w6.ownsRow w1.heap.size 55 4 (.slice p6 (o.evs ++ oev).length c6) (o.evs ++ oev).length (flatE (o.evs ++ oev))) := Lib.hid (by rw [List.length_append, flatE_app]; exact hown6)
          have HZA6 : Hid (∀ j, XR j → (Value.slice p6 (o.evs ++ oev).length c6).ownBlock ≠ some j) := Lib.hid (fun j ez e => by
            rw [List.length_append] at e
            rcases hat with h | h
            · rw [h] at e
              exact HZA4.out j ez e
            · rw [h] at e
              have h1 := hZ3 j ez
              simp at e
              omega)
          clear hown6 hgrow hat hKg
          go_wp2
          go_roundw
          case rel => exact ⟨k + 1, S + x12, ⟨0, 0, 0, 0, [], o.evs ++ oev, now + (S + x12), oL⟩, XR, p6, c6, by omega, by omega, by omega, by omega, by go_num, rfl, by rw [List.length_append], Lib.hid ⟨t4, rfl, rfl⟩, HS6, HL6, HZA6, HB6⟩
          case measure => simp [intOf]; omega
      · have h30 : k = 30 := by omega
        have hlt8' : ¬ (k : Int) < 30 := by omega
        have HSW := Lib.hid (HSR.out.below HBq.out)
        have HBw := Lib.hid (HB1.out.trans (HBq.out.mono HB1.out.size))
        have hwW := HBq.out.size
        have hXlt : ∀ j, X j → j < w1.heap.size := fun j e => (HSR.out.lt j e).2
        have hZge : ∀ j, Z2 j → w1.heap.size ≤ j ∧ j < W1.heap.size := fun j e => HSC.out.lt j e
        have hw01 := HB1.out.size
        obtain ⟨e0, e1, hlr, _, _⟩ := HSW.out.cell
        have heo := HTK.out.2.2
        have HDo := Lib.hid (run_doS w.heap.size br bx K L now now X a m w HE.out W1 HBw.out (Nat.le_refl _) HBw.out.size HSW.out HG.out hlL 4 S 0)
        go_wp2_with (go_at_call 16; refine HDo.out.mono ?_; rintro e w3 ⟨oR, pR1, cR1, pR2, cR2, XR, hD, rfl, hY, hV, hS, hK, hN, hb, hAw⟩; refine Hid.out ?_)
        refine Lib.hid ?_
        obtain rfl := tickK_unique HG.out HTK.out.1 (doE_tick (by simp [rendOk, fitsB, numsN]; omega) hD)
        rw [heo]
        have hA4 : Below w3.heap.size w3 (w3.alloc (.cells #[.int .i64 0, .int .i64 o.a, .int .i64 o.b, .int .i64 o.c, .slice pR1 o.rows.length cR1, .slice pR2 o.evs.length cR2] 34)) := (Below.refl _ _).alloc (Nat.le_refl _) _
        have hx4 := heap_alloc_new w3 (.cells #[.int .i64 0, .int .i64 o.a, .int .i64 o.b, .int .i64 o.c, .slice pR1 o.rows.length cR1, .slice pR2 o.evs.length cR2] 34)
        have hL3 := owns_on HEV.out (fun j e => hK.block j (HEV.out.lt j e).2 (fun ex => by have := hXlt j ex; have := (HEV.out.lt j e).1; omega))
        have hQ3 := HSC.out.kept hK (fun j ez ex => by have := hXlt j ex; have := hZge j ez; omega)
        have HL4 := Lib.hid (owns_on hL3 (fun j e => hA4.block j (hL3.lt j e).2))
        have HV4 := Lib.hid (owns_on hV (fun j e => hA4.block j (hV.lt j e).2))
        have HS4 := Lib.hid (hS.below hA4)
        have HQ4 := Lib.hid (hQ3.below hA4)
        have HB4 := Lib.hid (hb.trans (hA4.mono hb.size))
        have hXR : ∀ j, XR j → X j ∨ W1.heap.size ≤ j := hN
        have hs3 := hK.size
        have hAw3 := hAw
        have hnA : ¬ XR w3.heap.size := fun e => by have := (hS.lt _ e).2; omega
        obtain ⟨f0, f1, hlf, _, _⟩ := hS.cell
        clear hD hY hV hS hK hN hb hAw hL3 hQ3 hA4 HDo e0 e1
        go_wp2_with fail
        clear f0 f1
        generalize w3.alloc (.cells #[.int .i64 0, .int .i64 o.a, .int .i64 o.b, .int .i64 o.c, .slice pR1 o.rows.length cR1, .slice pR2 o.evs.length cR2] 34) = W4 at *
        generalize w3.heap.size = aA at *
        have hlA : aA < W4.heap.size := (Array.getElem?_eq_some_iff.1 hx4).1
        have hLlt : ∀ j, (Value.slice p o.evs.length cp).ownBlock = some j → w1.heap.size ≤ j ∧ j < W1.heap.size := fun j e => HEV.out.lt j e
        have hZX : ∀ j, Z2 j → ¬ XR j := fun j ez ex => by
          have h1 := hZge j ez
          rcases hXR j ex with h | h
          · have := hXlt j h
            omega
          · omega
        have hLX : ∀ j, (Value.slice p o.evs.length cp).ownBlock = some j → ¬ XR j := fun j e ex => by
          have h1 := hLlt j e
          rcases hXR j ex with h | h
          · have := hXlt j h
            omega
          · omega
        refine (run_doS w.heap.size br bx K o.L now o.now XR a m w HE.out W4 HB4.out (Nat.le_refl _) HB4.out.size HS4.out HGo.out hlo 6 0 0).mono ?_
        rintro e w5 ⟨oX, pX1, cX1, pX2, cX2, XX, hD, rfl, hY, hV, hS, hK, hN, hb, hAw⟩
        have HQX : Hid (oX.rows = queueN o.L o.L.length) := Lib.hid (by rw [doE_queue hD])
        have hA6 : Below w5.heap.size w5 (w5.alloc (.cells #[.int .i64 oX.err, .int .i64 oX.a, .int .i64 oX.b, .int .i64 oX.c, .slice pX1 oX.rows.length cX1, .slice pX2 oX.evs.length cX2] 34)) := (Below.refl _ _).alloc (Nat.le_refl _) _
        have hx6 := heap_alloc_new w5 (.cells #[.int .i64 oX.err, .int .i64 oX.a, .int .i64 oX.b, .int .i64 oX.c, .slice pX1 oX.rows.length cX1, .slice pX2 oX.evs.length cX2] 34)
        have hL5 := owns_on HL4.out (fun j e => hK.block j (HL4.out.lt j e).2 (hLX j e))
        have hV5 := owns_on HV4.out (fun j e => hK.block j (HV4.out.lt j e).2 (hAw3 j e))
        have hQ5 := HQ4.out.kept hK hZX
        have HL6 := Lib.hid (owns_on hL5 (fun j e => hA6.block j (hL5.lt j e).2))
        have HV6 := Lib.hid (owns_on hV5 (fun j e => hA6.block j (hV5.lt j e).2))
        have HY6 := Lib.hid (owns_on hY (fun j e => hA6.block j (hY.lt j e).2))
        have HQ6 := Lib.hid (hQ5.below hA6)
        have HB6 := Lib.hid (hb.trans (hA6.mono hb.size))
        have hs5 := hK.size
        have hxA := (hA6.block aA (by omega)).trans ((hK.block aA hlA hnA).trans hx4)
        have hs6 := hA6.size
        obtain ⟨f0, f1, hlf5, _, _⟩ := hQ5.cell
        clear hD hV hS hK hN hb hAw hL5 hV5 hQ5 hA6 hY
        go_wp2_with fail
        clear f0 f1
        generalize w5.alloc (.cells #[.int .i64 oX.err, .int .i64 oX.a, .int .i64 oX.b, .int .i64 oX.c, .slice pX1 oX.rows.length cX1, .slice pX2 oX.evs.length cX2] 34) = W6 at *
        generalize w5.heap.size = aX at *
        have hlX : aX < W6.heap.size := (Array.getElem?_eq_some_iff.1 hx6).1
        refine (run_doS w1.heap.size bq bz K o.L now o.now Z2 a m w HE.out W6 HB6.out hw01 (by omega) HQ6.out HGo.out hlo 6 0 0).mono ?_
        rintro e w7 ⟨oY, pY1, cY1, pY2, cY2, XY, hD, rfl, hY, hV, hS, hK, hN, hb, hAw⟩
        have hqY : oY.rows = oX.rows := by rw [doE_queue hD, HQX.out]
        have hA8 : Below w7.heap.size w7 (w7.alloc (.cells #[.int .i64 oY.err, .int .i64 oY.a, .int .i64 oY.b, .int .i64 oY.c, .slice pY1 oY.rows.length cY1, .slice pY2 oY.evs.length cY2] 34)) := (Below.refl _ _).alloc (Nat.le_refl _) _
        have hx8 := heap_alloc_new w7 (.cells #[.int .i64 oY.err, .int .i64 oY.a, .int .i64 oY.b, .int .i64 oY.c, .slice pY1 oY.rows.length cY1, .slice pY2 oY.evs.length cY2] 34)
        have hL7 := owns_on HL6.out (fun j e => hK.block j (HL6.out.lt j e).2 (fun ez => HZA.out j ez e))
        have hV7 := owns_on HV6.out (fun j e => hK.block j (HV6.out.lt j e).2 (fun ez => by have := hZge j ez; have := (HV6.out.lt j e).1; omega))
        have hY7 := owns_on HY6.out (fun j e => hK.block j (HY6.out.lt j e).2 (fun ez => by have := hZge j ez; have := (HY6.out.lt j e).1; omega))
        rw [hqY] at hY hx8 hA8
        have HL8 := Lib.hid (owns_laid (c := Ev.cells) (fun _ => rfl) (l := o.evs) (owns_on hL7 (fun j e => hA8.block j (hL7.lt j e).2)) rfl)
        have HV8 := Lib.hid (owns_laid (c := Ev.cells) (fun _ => rfl) (l := o.evs) (owns_on hV7 (fun j e => hA8.block j (hV7.lt j e).2)) rfl)
        have HX8 := Lib.hid (owns_laid (c := RowV.cells) (fun _ => rfl) (l := oX.rows) (owns_on hY7 (fun j e => hA8.block j (hY7.lt j e).2)) rfl)
        have HY8 := Lib.hid (owns_laid (c := RowV.cells) (fun _ => rfl) (l := oX.rows) (owns_on hY (fun j e => hA8.block j (hY.lt j e).2)) rfl)
        have HB8 := Lib.hid (hb.trans (hA8.mono hb.size))
        have hs7 := hK.size
        have hs8 := hA8.size
        have hxA8 := (hA8.block aA (by omega)).trans ((hK.block aA (by omega) (fun ez => by have := hZge _ ez; omega)).trans hxA)
        have hxX8 := (hA8.block aX (by omega)).trans ((hK.block aX hlX (fun ez => by have := hZge _ ez; omega)).trans hx6)
        rw [hqY]
        clear hD hV hS hK hN hb hAw hL7 hV7 hY7 hA8 hY hqY
        have a0 := cell_of_row _ _ 0 _ _ (0, 0) hxA8
        have a5 := cell_of_row _ _ 5 _ _ (0, 0) hxA8
        have x4 := cell_of_row _ _ 4 _ _ (0, 0) hxX8
        have y4 : (w7.alloc (.cells #[.int .i64 oY.err, .int .i64 oY.a, .int .i64 oY.b, .int .i64 oY.c, .slice pY1 oX.rows.length cY1, .slice pY2 oY.evs.length cY2] 34)).cell? ⟨w7.heap.size, 4, none⟩ = some (.slice pY1 oX.rows.length cY1) := (cell_of_row _ _ 4 _ _ (0, 0) hx8).trans rfl
        simp at a0 a5 x4
        have hrl : oX.rows.length ≤ 1000 := by
          have := queueN_len o.L o.L.length
          rw [HQX.out]
          omega
        have hal8 : aA < w7.heap.size := by omega
        have hxl8 : aX < w7.heap.size := by omega
        go_wp2_with fail
        have hlY : w7.heap.size < (w7.alloc (.cells #[.int .i64 oY.err, .int .i64 oY.a, .int .i64 oY.b, .int .i64 oY.c, .slice pY1 oX.rows.length cY1, .slice pY2 oY.evs.length cY2] 34)).heap.size := by simp
        have hlA8 : aA < (w7.alloc (.cells #[.int .i64 oY.err, .int .i64 oY.a, .int .i64 oY.b, .int .i64 oY.c, .slice pY1 oX.rows.length cY1, .slice pY2 oY.evs.length cY2] 34)).heap.size := by simp; omega
        have hlX8 : aX < (w7.alloc (.cells #[.int .i64 oY.err, .int .i64 oY.a, .int .i64 oY.b, .int .i64 oY.c, .slice pY1 oX.rows.length cY1, .slice pY2 oY.evs.length cY2] 34)).heap.size := by simp; omega
        clear hal8 hxl8 hs8 hxA8 hxX8 hx8
        generalize w7.alloc (.cells #[.int .i64 oY.err, .int .i64 oY.a, .int .i64 oY.b, .int .i64 oY.c, .slice pY1 oX.rows.length cY1, .slice pY2 oY.evs.length cY2] 34) = W8 at *
        generalize w7.heap.size = aY at *
        go_loopw [15] (fun i wr => ∃ q : Nat, q ≤ o.evs.length ∧ i = .int .i64 q ∧ Hid (Below W8.heap.size W8 wr)) (fun i _ => o.evs.length - (intOf i).toNat)
        case atStart => exact ⟨0, Nat.zero_le _, rfl, Lib.hid (Below.refl _ _)⟩
        case round =>
          obtain ⟨q, hq, rfl, HBx⟩ := hrel
          obtain ⟨wx, hwx0⟩ : ∃ wx, wx = wr := ⟨_, rfl⟩
          subst hwx0
          have hsx := HBx.out.size
          have c5 := (HBx.out.cell (p := ⟨aA, 5, none⟩) hlA8).trans a5
          have hlA9 : aA < wx.heap.size := by omega
          by_cases hql : q < o.evs.length
          · obtain ⟨ev, hev⟩ : ∃ ev, o.evs[q]? = some ev := ⟨_, List.getElem?_eq_getElem hql⟩
            obtain ⟨gA, rfl, hrA⟩ := (HV8.out.on HBx.out) q ev hev
            obtain ⟨gL, rfl, hrL⟩ := (HL8.out.on HBx.out) q ev hev
            have r0 := hrA 0 _ rfl
            have r1 := hrA 1 _ rfl
            have r2 := hrA 2 _ rfl
            have r3 := hrA 3 _ rfl
            have s0 := hrL 0 _ rfl
            have s1 := hrL 1 _ rfl
            have s2 := hrL 2 _ rfl
            have s3 := hrL 3 _ rfl
            rw [Nat.add_zero] at r0 s0
            have hgA : gA < wx.heap.size := block_lt_of_cell r0
            have hgL : gL < wx.heap.size := block_lt_of_cell s0
            have HBN := Lib.hid (fun (nq : Nat) => HBx.out.trans ((below_drewN (Below.refl wx.heap.size wx) nq).mono HBx.out.size))
            clear hrA hrL hev
            obtain ⟨vk, vi, vt, vd⟩ := ev
            simp only at r0 r1 r2 r3 s0 s1 s2 s3
            go_wp2_with fail
            go_quiet (fail)
            go_wp2
            go_roundw
            case rel => exact ⟨q + 1, by omega, by go_num, Lib.hid (HBN.out _)⟩
            case measure => simp [intOf]; omega
          · obtain rfl : q = o.evs.length := by omega
            have c4x := (HBx.out.cell (p := ⟨aX, 4, none⟩) hlX8).trans x4
            have hlX9 : aX < wx.heap.size := by omega
            go_wp2_with fail
            go_loopw [16] (fun i wr => ∃ q : Nat, q ≤ oX.rows.length ∧ i = .int .i64 q ∧ Hid (Below W8.heap.size W8 wr)) (fun i _ => oX.rows.length - (intOf i).toNat)
            case atStart => exact ⟨0, Nat.zero_le _, rfl, HBx⟩
            case round =>
              obtain ⟨q, hq, rfl, HBy⟩ := hrel
              obtain ⟨wy, hwy0⟩ : ∃ wy, wy = wr := ⟨_, rfl⟩
              subst hwy0
              have hsy := HBy.out.size
              have d4x := (HBy.out.cell (p := ⟨aX, 4, none⟩) hlX8).trans x4
              have d4y := (HBy.out.cell (p := ⟨aY, 4, none⟩) hlY).trans y4
              have hlXy : aX < wy.heap.size := by omega
              have hlYy : aY < wy.heap.size := by omega
              clear c4x c5 hlA9 hlX9
              by_cases hql : q < oX.rows.length
              · obtain ⟨rw', hrw⟩ : ∃ rw', oX.rows[q]? = some rw' := ⟨_, List.getElem?_eq_getElem hql⟩
                obtain ⟨gA, rfl, hrA⟩ := (HX8.out.on HBy.out) q rw' hrw
                obtain ⟨gL, rfl, hrL⟩ := (HY8.out.on HBy.out) q rw' hrw
                have r0 := hrA 0 _ rfl
                have r1 := hrA 1 _ rfl
                have r2 := hrA 2 _ rfl
                have r3 := hrA 3 _ rfl
                have s0 := hrL 0 _ rfl
                have s1 := hrL 1 _ rfl
                have s2 := hrL 2 _ rfl
                have s3 := hrL 3 _ rfl
                rw [Nat.add_zero] at r0 s0
                have hgA : gA < wy.heap.size := block_lt_of_cell r0
                have hgL : gL < wy.heap.size := block_lt_of_cell s0
                have HBN := Lib.hid (fun (nq : Nat) => HBy.out.trans ((below_drewN (Below.refl wy.heap.size wy) nq).mono HBy.out.size))
                clear hrA hrL hrw
                obtain ⟨vk, vi, vt, vd⟩ := rw'
                simp only at r0 r1 r2 r3 s0 s1 s2 s3
                go_wp2_with fail
                go_quiet (fail)
                go_wp2
                go_roundw
                case rel => exact ⟨q + 1, by omega, by go_num, Lib.hid (HBN.out _)⟩
                case measure => simp [intOf]; omega
              · obtain rfl : q = oX.rows.length := by omega
                go_wp2
                go_ret
                exact ⟨rfl, HB8.out.trans (HBy.out.mono HB8.out.size)⟩
    · obtain rfl : k = ns.length := by omega
      have HSW := Lib.hid (HSR.out.below HBq.out)
      have HBw := Lib.hid (HB1.out.trans (HBq.out.mono HB1.out.size))
      have hwW := HBq.out.size
      have hXlt : ∀ j, X j → j < w1.heap.size := fun j e => (HSR.out.lt j e).2
      have hZge : ∀ j, Z2 j → w1.heap.size ≤ j ∧ j < W1.heap.size := fun j e => HSC.out.lt j e
      have hw01 := HB1.out.size
      obtain ⟨e0, e1, hlr, _, _⟩ := HSW.out.cell
      have heo := HTK.out.2.2
      have HDo := Lib.hid (run_doS w.heap.size br bx K L now now X a m w HE.out W1 HBw.out (Nat.le_refl _) HBw.out.size HSW.out HG.out hlL 4 S 0)
      go_wp2_with (go_at_call 16; refine HDo.out.mono ?_; rintro e w3 ⟨oR, pR1, cR1, pR2, cR2, XR, hD, rfl, hY, hV, hS, hK, hN, hb, hAw⟩; refine Hid.out ?_)
      refine Lib.hid ?_
      obtain rfl := tickK_unique HG.out HTK.out.1 (doE_tick (by simp [rendOk, fitsB, numsN]; omega) hD)
      rw [heo]
      have hA4 : Below w3.heap.size w3 (w3.alloc (.cells #[.int .i64 0, .int .i64 o.a, .int .i64 o.b, .int .i64 o.c, .slice pR1 o.rows.length cR1, .slice pR2 o.evs.length cR2] 34)) := (Below.refl _ _).alloc (Nat.le_refl _) _
      have hx4 := heap_alloc_new w3 (.cells #[.int .i64 0, .int .i64 o.a, .int .i64 o.b, .int .i64 o.c, .slice pR1 o.rows.length cR1, .slice pR2 o.evs.length cR2] 34)
      have hL3 := owns_on HEV.out (fun j e => hK.block j (HEV.out.lt j e).2 (fun ex => by have := hXlt j ex; have := (HEV.out.lt j e).1; omega))
      have hQ3 := HSC.out.kept hK (fun j ez ex => by have := hXlt j ex; have := hZge j ez; omega)
      have HL4 := Lib.hid (owns_on hL3 (fun j e => hA4.block j (hL3.lt j e).2))
      have HV4 := Lib.hid (owns_on hV (fun j e => hA4.block j (hV.lt j e).2))
      have HS4 := Lib.hid (hS.below hA4)
      have HQ4 := Lib.hid (hQ3.below hA4)
      have HB4 := Lib.hid (hb.trans (hA4.mono hb.size))
      have hXR : ∀ j, XR j → X j ∨ W1.heap.size ≤ j := hN
      have hs3 := hK.size
      have hAw3 := hAw
      have hnA : ¬ XR w3.heap.size := fun e => by have := (hS.lt _ e).2; omega
      obtain ⟨f0, f1, hlf, _, _⟩ := hS.cell
      clear hD hY hV hS hK hN hb hAw hL3 hQ3 hA4 HDo e0 e1
      go_wp2_with fail
      clear f0 f1
      generalize w3.alloc (.cells #[.int .i64 0, .int .i64 o.a, .int .i64 o.b, .int .i64 o.c, .slice pR1 o.rows.length cR1, .slice pR2 o.evs.length cR2] 34) = W4 at *
      generalize w3.heap.size = aA at *
      have hlA : aA < W4.heap.size := (Array.getElem?_eq_some_iff.1 hx4).1
      have hLlt : ∀ j, (Value.slice p o.evs.length cp).ownBlock = some j → w1.heap.size ≤ j ∧ j < W1.heap.size := fun j e => HEV.out.lt j e
      have hZX : ∀ j, Z2 j → ¬ XR j := fun j ez ex => by
        have h1 := hZge j ez
        rcases hXR j ex with h | h
        · have := hXlt j h
          omega
        · omega
      have hLX : ∀ j, (Value.slice p o.evs.length cp).ownBlock = some j → ¬ XR j := fun j e ex => by
        have h1 := hLlt j e
        rcases hXR j ex with h | h
        · have := hXlt j h
          omega
        · omega
      refine (run_doS w.heap.size br bx K o.L now o.now XR a m w HE.out W4 HB4.out (Nat.le_refl _) HB4.out.size HS4.out HGo.out hlo 6 0 0).mono ?_
      rintro e w5 ⟨oX, pX1, cX1, pX2, cX2, XX, hD, rfl, hY, hV, hS, hK, hN, hb, hAw⟩
      have HQX : Hid (oX.rows = queueN o.L o.L.length) := Lib.hid (by rw [doE_queue hD])
      have hA6 : Below w5.heap.size w5 (w5.alloc (.cells #[.int .i64 oX.err, .int .i64 oX.a, .int .i64 oX.b, .int .i64 oX.c, .slice pX1 oX.rows.length cX1, .slice pX2 oX.evs.length cX2] 34)) := (Below.refl _ _).alloc (Nat.le_refl _) _
      have hx6 := heap_alloc_new w5 (.cells #[.int .i64 oX.err, .int .i64 oX.a, .int .i64 oX.b, .int .i64 oX.c, .slice pX1 oX.rows.length cX1, .slice pX2 oX.evs.length cX2] 34)
      have hL5 := owns_on HL4.out (fun j e => hK.block j (HL4.out.lt j e).2 (hLX j e))
      have hV5 := owns_on HV4.out (fun j e => hK.block j (HV4.out.lt j e).2 (hAw3 j e))
      have hQ5 := HQ4.out.kept hK hZX
      have HL6 := Lib.hid (owns_on hL5 (fun j e => hA6.block j (hL5.lt j e).2))
      have HV6 := Lib.hid (owns_on hV5 (fun j e => hA6.block j (hV5.lt j e).2))
      have HY6 := Lib.hid (owns_on hY (fun j e => hA6.block j (hY.lt j e).2))
      have HQ6 := Lib.hid (hQ5.below hA6)
      have HB6 := Lib.hid (hb.trans (hA6.mono hb.size))
      have hs5 := hK.size
      have hxA := (hA6.block aA (by omega)).trans ((hK.block aA hlA hnA).trans hx4)
      have hs6 := hA6.size
      obtain ⟨f0, f1, hlf5, _, _⟩ := hQ5.cell
      clear hD hV hS hK hN hb hAw hL5 hV5 hQ5 hA6 hY
      go_wp2_with fail
      clear f0 f1
      generalize w5.alloc (.cells #[.int .i64 oX.err, .int .i64 oX.a, .int .i64 oX.b, .int .i64 oX.c, .slice pX1 oX.rows.length cX1, .slice pX2 oX.evs.length cX2] 34) = W6 at *
      generalize w5.heap.size = aX at *
      have hlX : aX < W6.heap.size := (Array.getElem?_eq_some_iff.1 hx6).1
      refine (run_doS w1.heap.size bq bz K o.L now o.now Z2 a m w HE.out W6 HB6.out hw01 (by omega) HQ6.out HGo.out hlo 6 0 0).mono ?_
      rintro e w7 ⟨oY, pY1, cY1, pY2, cY2, XY, hD, rfl, hY, hV, hS, hK, hN, hb, hAw⟩
      have hqY : oY.rows = oX.rows := by rw [doE_queue hD, HQX.out]
      have hA8 : Below w7.heap.size w7 (w7.alloc (.cells #[.int .i64 oY.err, .int .i64 oY.a, .int .i64 oY.b, .int .i64 oY.c, .slice pY1 oY.rows.length cY1, .slice pY2 oY.evs.length cY2] 34)) := (Below.refl _ _).alloc (Nat.le_refl _) _
      have hx8 := heap_alloc_new w7 (.cells #[.int .i64 oY.err, .int .i64 oY.a, .int .i64 oY.b, .int .i64 oY.c, .slice pY1 oY.rows.length cY1, .slice pY2 oY.evs.length cY2] 34)
      have hL7 := owns_on HL6.out (fun j e => hK.block j (HL6.out.lt j e).2 (fun ez => HZA.out j ez e))
      have hV7 := owns_on HV6.out (fun j e => hK.block j (HV6.out.lt j e).2 (fun ez => by have := hZge j ez; have := (HV6.out.lt j e).1; omega))
      have hY7 := owns_on HY6.out (fun j e => hK.block j (HY6.out.lt j e).2 (fun ez => by have := hZge j ez; have := (HY6.out.lt j e).1; omega))
      rw [hqY] at hY hx8 hA8
      have HL8 := Lib.hid (owns_laid (c := Ev.cells) (fun _ => rfl) (l := o.evs) (owns_on hL7 (fun j e => hA8.block j (hL7.lt j e).2)) rfl)
      have HV8 := Lib.hid (owns_laid (c := Ev.cells) (fun _ => rfl) (l := o.evs) (owns_on hV7 (fun j e => hA8.block j (hV7.lt j e).2)) rfl)
      have HX8 := Lib.hid (owns_laid (c := RowV.cells) (fun _ => rfl) (l := oX.rows) (owns_on hY7 (fun j e => hA8.block j (hY7.lt j e).2)) rfl)
      have HY8 := Lib.hid (owns_laid (c := RowV.cells) (fun _ => rfl) (l := oX.rows) (owns_on hY (fun j e => hA8.block j (hY.lt j e).2)) rfl)
      have HB8 := Lib.hid (hb.trans (hA8.mono hb.size))
      have hs7 := hK.size
      have hs8 := hA8.size
      have hxA8 := (hA8.block aA (by omega)).trans ((hK.block aA (by omega) (fun ez => by have := hZge _ ez; omega)).trans hxA)
      have hxX8 := (hA8.block aX (by omega)).trans ((hK.block aX hlX (fun ez => by have := hZge _ ez; omega)).trans hx6)
      rw [hqY]
      clear hD hV hS hK hN hb hAw hL7 hV7 hY7 hA8 hY hqY
      have a0 := cell_of_row _ _ 0 _ _ (0, 0) hxA8
      have a5 := cell_of_row _ _ 5 _ _ (0, 0) hxA8
      have x4 := cell_of_row _ _ 4 _ _ (0, 0) hxX8
      have y4 : (w7.alloc (.cells #[.int .i64 oY.err, .int .i64 oY.a, .int .i64 oY.b, .int .i64 oY.c, .slice pY1 oX.rows.length cY1, .slice pY2 oY.evs.length cY2] 34)).cell? ⟨w7.heap.size, 4, none⟩ = some (.slice pY1 oX.rows.length cY1) := (cell_of_row _ _ 4 _ _ (0, 0) hx8).trans rfl
      simp at a0 a5 x4
      have hrl : oX.rows.length ≤ 1000 := by
        have := queueN_len o.L o.L.length
        rw [HQX.out]
        omega
      have hal8 : aA < w7.heap.size := by omega
      have hxl8 : aX < w7.heap.size := by omega
      go_wp2_with fail
      have hlY : w7.heap.size < (w7.alloc (.cells #[.int .i64 oY.err, .int .i64 oY.a, .int .i64 oY.b, .int .i64 oY.c, .slice pY1 oX.rows.length cY1, .slice pY2 oY.evs.length cY2] 34)).heap.size := by simp
      have hlA8 : aA < (w7.alloc (.cells #[.int .i64 oY.err, .int .i64 oY.a, .int .i64 oY.b, .int .i64 oY.c, .slice pY1 oX.rows.length cY1, .slice pY2 oY.evs.length cY2] 34)).heap.size := by simp; omega
      have hlX8 : aX < (w7.alloc (.cells #[.int .i64 oY.err, .int .i64 oY.a, .int .i64 oY.b, .int .i64 oY.c, .slice pY1 oX.rows.length cY1, .slice pY2 oY.evs.length cY2] 34)).heap.size := by simp; omega
      clear hal8 hxl8 hs8 hxA8 hxX8 hx8
      generalize w7.alloc (.cells #[.int .i64 oY.err, .int .i64 oY.a, .int .i64 oY.b, .int .i64 oY.c, .slice pY1 oX.rows.length cY1, .slice pY2 oY.evs.length cY2] 34) = W8 at *
      generalize w7.heap.size = aY at *
      go_loopw [15] (fun i wr => ∃ q : Nat, q ≤ o.evs.length ∧ i = .int .i64 q ∧ Hid (Below W8.heap.size W8 wr)) (fun i _ => o.evs.length - (intOf i).toNat)
      case atStart => exact ⟨0, Nat.zero_le _, rfl, Lib.hid (Below.refl _ _)⟩
      case round =>
        obtain ⟨q, hq, rfl, HBx⟩ := hrel
        obtain ⟨wx, hwx0⟩ : ∃ wx, wx = wr := ⟨_, rfl⟩
        subst hwx0
        have hsx := HBx.out.size
        have c5 := (HBx.out.cell (p := ⟨aA, 5, none⟩) hlA8).trans a5
        have hlA9 : aA < wx.heap.size := by omega
        by_cases hql : q < o.evs.length
        · obtain ⟨ev, hev⟩ : ∃ ev, o.evs[q]? = some ev := ⟨_, List.getElem?_eq_getElem hql⟩
          obtain ⟨gA, rfl, hrA⟩ := (HV8.out.on HBx.out) q ev hev
          obtain ⟨gL, rfl, hrL⟩ := (HL8.out.on HBx.out) q ev hev
          have r0 := hrA 0 _ rfl
          have r1 := hrA 1 _ rfl
          have r2 := hrA 2 _ rfl
          have r3 := hrA 3 _ rfl
          have s0 := hrL 0 _ rfl
          have s1 := hrL 1 _ rfl
          have s2 := hrL 2 _ rfl
          have s3 := hrL 3 _ rfl
          rw [Nat.add_zero] at r0 s0
          have hgA : gA < wx.heap.size := block_lt_of_cell r0
          have hgL : gL < wx.heap.size := block_lt_of_cell s0
          have HBN := Lib.hid (fun (nq : Nat) => HBx.out.trans ((below_drewN (Below.refl wx.heap.size wx) nq).mono HBx.out.size))
          clear hrA hrL hev
          obtain ⟨vk, vi, vt, vd⟩ := ev
          simp only at r0 r1 r2 r3 s0 s1 s2 s3
          go_wp2_with fail
          go_quiet (fail)
          go_wp2
          go_roundw
          case rel => exact ⟨q + 1, by omega, by go_num, Lib.hid (HBN.out _)⟩
          case measure => simp [intOf]; omega
        · obtain rfl : q = o.evs.length := by omega
          have c4x := (HBx.out.cell (p := ⟨aX, 4, none⟩) hlX8).trans x4
          have hlX9 : aX < wx.heap.size := by omega
          go_wp2_with fail
          go_loopw [16] (fun i wr => ∃ q : Nat, q ≤ oX.rows.length ∧ i = .int .i64 q ∧ Hid (Below W8.heap.size W8 wr)) (fun i _ => oX.rows.length - (intOf i).toNat)
          case atStart => exact ⟨0, Nat.zero_le _, rfl, HBx⟩
          case round =>
            obtain ⟨q, hq, rfl, HBy⟩ := hrel
            obtain ⟨wy, hwy0⟩ : ∃ wy, wy = wr := ⟨_, rfl⟩
            subst hwy0
            have hsy := HBy.out.size
            have d4x := (HBy.out.cell (p := ⟨aX, 4, none⟩) hlX8).trans x4
            have d4y := (HBy.out.cell (p := ⟨aY, 4, none⟩) hlY).trans y4
            have hlXy : aX < wy.heap.size := by omega
            have hlYy : aY < wy.heap.size := by omega
            clear c4x c5 hlA9 hlX9
            by_cases hql : q < oX.rows.length
            · obtain ⟨rw', hrw⟩ : ∃ rw', oX.rows[q]? = some rw' := ⟨_, List.getElem?_eq_getElem hql⟩
              obtain ⟨gA, rfl, hrA⟩ := (HX8.out.on HBy.out) q rw' hrw
              obtain ⟨gL, rfl, hrL⟩ := (HY8.out.on HBy.out) q rw' hrw
              have r0 := hrA 0 _ rfl
              have r1 := hrA 1 _ rfl
              have r2 := hrA 2 _ rfl
              have r3 := hrA 3 _ rfl
              have s0 := hrL 0 _ rfl
              have s1 := hrL 1 _ rfl
              have s2 := hrL 2 _ rfl
              have s3 := hrL 3 _ rfl
              rw [Nat.add_zero] at r0 s0
              have hgA : gA < wy.heap.size := block_lt_of_cell r0
              have hgL : gL < wy.heap.size := block_lt_of_cell s0
              have HBN := Lib.hid (fun (nq : Nat) => HBy.out.trans ((below_drewN (Below.refl wy.heap.size wy) nq).mono HBy.out.size))
              clear hrA hrL hrw
              obtain ⟨vk, vi, vt, vd⟩ := rw'
              simp only at r0 r1 r2 r3 s0 s1 s2 s3
              go_wp2_with fail
              go_quiet (fail)
              go_wp2
              go_roundw
              case rel => exact ⟨q + 1, by omega, by go_num, Lib.hid (HBN.out _)⟩
              case measure => simp [intOf]; omega
            · obtain rfl : q = oX.rows.length := by omega
              go_wp2
              go_ret
              exact ⟨rfl, HB8.out.trans (HBy.out.mono HB8.out.size)⟩

end Go.Proofs.YtpcgnadfldimhaaGreatDoor
