/-
  The statement Lined, walked.
-/
import Derived.Test.YtpcgnadfldimhaaGreatDoorLinedP
namespace Go.Proofs.YtpcgnadfldimhaaGreatDoor
open Go.RowKit

theorem answer_len (kind : Int) {o : Out} (h : OutOk o) (hr : o.rows.length ≤ 1000000000) (hv : o.evs.length ≤ 1000000000000) : (answerL kind o).length ≤ 80000000000000 := by
  unfold answerL
  split
  · have h1 := firstL_len kind h hr
    have h2 := flatU_len rowL 90 o.rows (fun r hr => rowL_len (h.rows r hr))
    have h3 := flatU_len evL 70 o.evs (fun r hr => evL_len (h.evs r hr))
    rw [List.length_append, List.length_append]
    omega
  · have := errW_len o.err
    simp only [errL, lineL, numsL, List.length_append, List.length_cons, List.length_nil, List.flatMap_nil]
    omega
theorem answer_two {kind : Int} {o : Out} (h : o.err = 0) : ∃ r, answerL kind o = 79 :: 75 :: r ∧ r ≠ [] := by
  obtain ⟨r, e, hr⟩ := firstL_ok kind o
  unfold answerL
  rw [if_pos h, e]
  exact ⟨r ++ o.rows.flatMap rowL ++ o.evs.flatMap evL, by simp, by simp [hr]⟩

theorem byte_ten (T : List UInt8) (q : Nat) (_hq : q < T.length) (h' : q < (⟨T.toArray⟩ : ByteArray).size) : (((((⟨T.toArray⟩ : ByteArray)[q]'h').toNat : Nat) : Int) == 10) = decide (T[q] = 10) := by
  have e : (⟨T.toArray⟩ : ByteArray)[q]'h' = T[q] := rfl
  rw [e]
  by_cases h : T[q] = 10
  · rw [h]
    rfl
  · rw [decide_eq_false h]
    have : T[q].toNat ≠ 10 := fun e2 => h (UInt8.toNat_inj.1 e2)
    simp
    omega

set_option maxHeartbeats 8000000 in
set_option maxRecDepth 100000 in
theorem lined_walk (a : Addr) (m : Int) (w : World) (hX : EnvX a m w) (hNm : NamesE w) (ad : Option Addr) (cap : Nat) (ss : List StepV) (hS : ScriptK w ad ss) (hl : ss.length ≤ maxLen) :
    Calls Tryz.prog 12 #[.slice ad ss.length cap] w fun e w' => e = .returned (.bool true) ∧ Below w.heap.size w w' := by
  have HE := Lib.hid hX.env
  have HNm := Lib.hid hNm
  have HBg := Lib.hid (begun_any a m w hX.env)
  have HSc := Lib.hid hS
  have hl : ss.length ≤ 9223372036854775807 := by unfold maxLen at hl; omega
  clear hX hS hNm
  go_enter Tryz.func12, Tryz.ntmps12
  go_wp2_with (go_at_call 18; refine HBg.out.mono ?_; rintro e w1 ⟨rfl, hb1⟩; refine Hid.out ?_)
  refine Lib.hid ?_
  have HFr := Lib.hid (fresh_any w.heap.size w1 hb1.size)
  have HB1 := Lib.hid hb1
  clear hb1 HBg
  go_wp2_with (go_at_call 19; refine HFr.out.mono ?_; rintro e w2 ⟨bx, bi, rfl, hb2, hP2, hx2, hi2⟩; refine Hid.out ?_)
  refine Lib.hid ?_
  have HB2 := Lib.hid (HB1.out.trans (hb2.mono HB1.out.size))
  have HP2 := Lib.hid hP2
  have HFs := Lib.hid (fresh_any w.heap.size w2 HB2.out.size)
  clear hb2 hP2 HFr HB1
  go_wp2_with (go_at_call 19; refine HFs.out.mono ?_; rintro e w3 ⟨bz, bj, rfl, hb3, hP3, hx3, hi3⟩; refine Hid.out ?_)
  refine Lib.hid ?_
  have hB3 := HB2.out.trans (hb3.mono HB2.out.size)
  have hlx := (HP2.out.lt bx (Or.inl rfl)).2
  have hli := (HP2.out.lt bi (Or.inr (Or.inl rfl))).2
  have hlz := (hP3.lt bz (Or.inl rfl)).2
  have hlj := (hP3.lt bj (Or.inr (Or.inl rfl))).2
  have hs23 := hb3.size
  have hXA : ∀ k, progB bx bi (.slice none 0 0) (.slice none 0 0) (.slice none 0 0) k → k = bx ∨ k = bi := by
    rintro k (e | e | e | e | e)
    · exact Or.inl e
    · exact Or.inr e
    all_goals simp [Value.ownBlock] at e
  have hZA : ∀ k, progB bz bj (.slice none 0 0) (.slice none 0 0) (.slice none 0 0) k → k = bz ∨ k = bj := by
    rintro k (e | e | e | e | e)
    · exact Or.inl e
    · exact Or.inr e
    all_goals simp [Value.ownBlock] at e
  have HA0 : Hid (∀ o, ClS w.heap.size bx [] 0 (progB bx bi (.slice none 0 0) (.slice none 0 0) (.slice none 0 0)) (w3.alloc o)) := Lib.hid (fun o => ⟨bi, _, _, _, [], (HP2.out.kept (S := fun _ => False) (Kept.of_below hb3) (fun _ _ e => e)).kept (S := fun _ => False) ((Kept.refl _ _).alloc o) (fun _ _ e => e), fun _ => Iff.rfl⟩)
  have HZ0 : Hid (∀ o, ClS w.heap.size bz [] 0 (progB bz bj (.slice none 0 0) (.slice none 0 0) (.slice none 0 0)) (w3.alloc o)) := Lib.hid (fun o => ⟨bj, _, _, _, [], hP3.kept (S := fun _ => False) ((Kept.refl _ _).alloc o) (fun _ _ e => e), fun _ => Iff.rfl⟩)
  have HAP0 : Hid (∀ j, progB bz bj (.slice none 0 0) (.slice none 0 0) (.slice none 0 0) j → ¬ progB bx bi (.slice none 0 0) (.slice none 0 0) (.slice none 0 0) j) := Lib.hid (fun j ez ex => by
    have h1 := hZA j ez
    have h2 := hXA j ex
    omega)
  have HNB0 : Hid (¬ progB bx bi (.slice none 0 0) (.slice none 0 0) (.slice none 0 0) w3.heap.size ∧ ¬ progB bz bj (.slice none 0 0) (.slice none 0 0) (.slice none 0 0) w3.heap.size) := Lib.hid ⟨fun e => by have := hXA _ e; omega, fun e => by have := hZA _ e; omega⟩
  have HB3 := Lib.hid hB3
  generalize progB bx bi (.slice none 0 0) (.slice none 0 0) (.slice none 0 0) = X0 at *
  generalize progB bz bj (.slice none 0 0) (.slice none 0 0) (.slice none 0 0) = Z0 at *
  clear hb3 hP3 hB3 HP2 HFs HB2 hXA hZA
  go_wp2_with fail
  go_loopw [9, 10] (fun tk i wr => ∃ (k t : Nat) (L : List Job) (now : Int) (X Z : Nat → Prop), k ≤ ss.length ∧ k ≤ 60 ∧ t ≤ k ∧ i = .int .i64 k ∧ tk = .int .i64 t ∧ Hid (ClS w.heap.size bx L now X wr) ∧ Hid (ClS w.heap.size bz L now Z wr) ∧ Hid (∀ j, Z j → ¬ X j) ∧ Hid (¬ X w3.heap.size ∧ ¬ Z w3.heap.size) ∧ Hid (Good 8 12 30 1000000 now L ∧ Phases L ∧ L.length ≤ k) ∧ Hid (wr.heap[w3.heap.size]? = some (.cells nameV 9 (0, 0))) ∧ Hid (Below w.heap.size w wr)) (fun _ i _ => ss.length - (intOf i).toNat)
  case atStart => exact ⟨0, 0, [], 0, X0, Z0, Nat.zero_le _, by omega, by omega, rfl, rfl, Lib.hid (HA0.out _), Lib.hid (HZ0.out _), HAP0, HNB0, Lib.hid ⟨good_new conf8, fun j hj => by simp at hj, by simp⟩, Lib.hid (heap_alloc_new _ _), Lib.hid (HB3.out.alloc HB3.out.size _)⟩
  case round =>
    obtain ⟨k, t, L, now, X, Z, hk, hk8, ht, rfl, rfl, HA, HZ, HAP, HNB, HGP, HNV, HB⟩ := hrel
    generalize w3.heap.size = nb at *
    clear HA0 HZ0 HAP0 HNB0 HB3
    have hlL : L.length < 1000000000 := by have := HGP.out.2.2; omega
    obtain ⟨W1, hW1⟩ : ∃ W1, W1 = wr := ⟨_, rfl⟩
    subst hW1
    by_cases hlt : k < ss.length
    · by_cases hlt8 : k < 60
      · obtain ⟨s, hs⟩ : ∃ s, ss[k]? = some s := ⟨_, List.getElem?_eq_getElem hlt⟩
        obtain ⟨hwf, b, off, rfl, hrow⟩ := (HSc.out.on HB.out) k s hs
        have HC := Lib.hid (command_any s hwf t (by omega))
        obtain ⟨_, _, _, _, wb1, wb2⟩ := hwf
        have P5 : Hid (PK s.b 5 (pickK s.b 5)) := Lib.hid ⟨wb1, wb2, 5, rfl, rfl, by omega, by omega⟩
        generalize pickK s.b 5 = x5 at *
        have q0 := hrow 0 _ rfl
        have q1 := hrow 1 _ rfl
        have q2 := hrow 2 _ rfl
        rw [Nat.add_zero] at q0
        have HROW := Lib.hid hrow
        have hbl : b < W1.heap.size := block_lt_of_cell q0
        clear hrow
        go_wp2_with (go_at_call 25; refine (HC.out _).mono ?_; rintro e w4 ⟨rfl, hb4⟩; refine Hid.out ?_)
        refine Lib.hid ?_
        have r2 := (hb4.cell (p := ⟨b, off + k * 3 + 2, none⟩) hbl).trans q2
        have hbl4 : b < w4.heap.size := Nat.lt_of_lt_of_le hbl hb4.size
        have HB4 := Lib.hid hb4
        clear hb4 q0 q1 q2
        go_upto_if 61 with (go_at_call 24; refine (pick_at P5.out _).mono ?_; rintro e w9 ⟨rfl, hw9⟩; subst w9)
        go_cut [11] (fun xq wx => ∃ c : Int × Int × Int, (c = comK s t ∨ c = (6, 0, 0)) ∧ CmdL W1 c.1 c.2.1 c.2.2 xq wx)
        case first =>
          by_cases h4 : x5 = 4
          · have h4b : ((x5 : Int) == 4) = true := by simp [h4]
            go_wp2
            go_meet
            exact ⟨(6, 0, 0), Or.inr rfl, w4.heap.size, rfl, heap_alloc_new _ _, HB4.out.alloc HB4.out.size _, HB4.out.size⟩
          · have h4b : ((x5 : Int) == 4) = false := by simp; omega
            go_wp2
            go_meet
            exact ⟨comK s t, Or.inl rfl, w4.heap.size, rfl, heap_alloc_new _ _, HB4.out.alloc HB4.out.size _, HB4.out.size⟩
        case rest =>
          obtain ⟨c, hc, xb, rfl, hxq, hbx, hxb⟩ := hcut
          have hok : rendOk c.1 c.2.1 c.2.2 = true := by
            rcases hc with rfl | rfl
            · exact comK_ok s t (by omega)
            · decide
          obtain ⟨cn, x, y⟩ := c
          simp only at hok hxq
          obtain ⟨n, rfl, hcm⟩ := cmd_rend hok
          have x0 := cell_of_row _ _ 0 _ _ (0, 0) hxq
          have x1 := cell_of_row _ _ 1 _ _ (0, 0) hxq
          have x2 := cell_of_row _ _ 2 _ _ (0, 0) hxq
          simp at x0 x1 x2
          have hxl : xb < wc.heap.size := (Array.getElem?_eq_some_iff.1 hxq).1
          have hBc := HB.out.trans (hbx.mono HB.out.size)
          have hsc := hbx.size
          have HCM := Lib.hid hcm
          have HAc := Lib.hid (HA.out.below hbx)
          have HZc := Lib.hid (HZ.out.below hbx)
          have HNVc := Lib.hid ((hbx.block nb (Array.getElem?_eq_some_iff.1 HNV.out).1).trans HNV.out)
          have HRn := Lib.hid (render_any a m wc (HE.out.on hBc) n x y)
          have HBc := Lib.hid hBc
          have HXQ := Lib.hid hxq
          have hZlt : ∀ j, Z j → j < W1.heap.size := fun j e => (HZ.out.lt j e).2
          have hXlt : ∀ j, X j → j < W1.heap.size := fun j e => (HA.out.lt j e).2
          have hnb : nb < W1.heap.size := (Array.getElem?_eq_some_iff.1 HNV.out).1
          clear hcm hxq hbx hBc hc r2 hbl4 HB4
          go_wp2_with (go_at_call 27; refine HRn.out.mono ?_; rintro e w5 ⟨rfl, hb5⟩; refine Hid.out ?_)
          refine Lib.hid ?_
          have HB5 := Lib.hid (HBc.out.trans (hb5.mono HBc.out.size))
          have hs5 := hb5.size
          have HLn := Lib.hid (cl_line w.heap.size bx L now X a m w HE.out HNm.out w5 HB5.out (Nat.le_refl _) HB5.out.size (HAc.out.below hb5) HGP.out.1 HGP.out.2.1 hlL (rend n x y) n x y HCM.out)
          have HZ5 := Lib.hid (HZc.out.below hb5)
          have HNV5 := Lib.hid ((hb5.block nb (by omega)).trans HNVc.out)
          have HX5 := Lib.hid ((hb5.block xb hxl).trans HXQ.out)
          generalize rend n x y = R at *
          clear hb5 HRn
          go_wp2_with (go_at_call 26; refine HLn.out.mono ?_; rintro e w6 ⟨o, X6, hD, rfl, hA6, hK6, hN6, hb6⟩; refine Hid.out ?_)
          refine Lib.hid ?_
          have hx6 := (hK6.block xb (by omega) (fun e => by have := hXlt _ e; omega)).trans HX5.out
          have hnv6 := (hK6.block nb (by omega) HNB.out.1).trans HNV5.out
          have hZ6 := HZ5.out.kept hK6 (fun j ez ex => HAP.out j ez ex)
          have hs6 := hK6.size
          have HD := Lib.hid hD
          have HA6 := Lib.hid hA6
          have HB6 := Lib.hid hb6
          have hN6' : ∀ j, X6 j → X j ∨ w5.heap.size ≤ j := hN6
          have x0' := cell_of_row _ _ 0 _ _ (0, 0) hx6
          have x1' := cell_of_row _ _ 1 _ _ (0, 0) hx6
          have x2' := cell_of_row _ _ 2 _ _ (0, 0) hx6
          simp at x0' x1' x2'
          have hxl6 : xb < w6.heap.size := (Array.getElem?_eq_some_iff.1 hx6).1
          have HX6 := Lib.hid hx6
          have HNV6 := Lib.hid hnv6
          have HZ6 := Lib.hid hZ6
          have HDo := Lib.hid (cl_do w.heap.size bz L now Z a m w HE.out w6 hb6 (Nat.le_refl _) hb6.size hZ6 HGP.out.1 hlL n x y)
          clear hD hA6 hK6 hN6 hb6 hx6 hnv6 hZ6 x0 x1 x2 HLn
          generalize hT : answerL (n : Int) o = T at *
          go_wp2_with (go_at_call 16; refine HDo.out.mono ?_; rintro e w7 ⟨o2, p1, c1, p2, c2, Z7, hD2, rfl, hZ7, hK7, hN7, hb7⟩; refine Hid.out ?_)
          refine Lib.hid ?_
          obtain rfl : o = o2 := doE_unique HGP.out.1 HD.out hD2
          have hok2 := doE_ok HGP.out.1 HGP.out.2.1 hlL HD.out
          have hsm := doE_small HGP.out.1 HD.out hlL
          have herr := hok2.err
          have hG7 := good_doE HGP.out.1 HD.out
          have HGP7 : Hid (Good 8 12 30 1000000 o.now o.L ∧ Phases o.L ∧ o.L.length ≤ k + 1) := Lib.hid ⟨hG7.1, phases_doE HGP.out.2.1 HD.out, by have := hG7.2; have := HGP.out.2.2; omega⟩
          have hX6lt : ∀ j, X6 j → j < w6.heap.size := fun j e => (HA6.out.lt j e).2
          have hZX6 : ∀ j, Z j → ¬ X6 j := fun j ez ex => (hN6' j ex).elim (HAP.out j ez) (fun e => by have := hZlt j ez; omega)
          have hA7 := HA6.out.kept hK7 (fun j ex ez => hZX6 j ez ex)
          have HAP7 : Hid (∀ j, Z7 j → ¬ X6 j) := Lib.hid (fun j ez ex => (hN7 j ez).elim (fun e => hZX6 j e ex) (fun e => by have := hX6lt j ex; omega))
          have HNB7 : Hid (¬ X6 nb ∧ ¬ Z7 nb) := Lib.hid ⟨fun e => (hN6' _ e).elim HNB.out.1 (fun e => by omega), fun e => (hN7 _ e).elim HNB.out.2 (fun e => by omega)⟩
          have hnv7 := (hK7.block nb (by omega) HNB.out.2).trans HNV6.out
          have hx7 := (hK7.block xb hxl6 (fun e => by have := hZlt _ e; omega)).trans HX6.out
          have hs7 := hK7.size
          have HA7 := Lib.hid hA7
          have HZ7 := Lib.hid hZ7
          have HB7 := Lib.hid hb7
          have HNV7 := Lib.hid hnv7
          have HX7 := Lib.hid hx7
          have HOK := Lib.hid hok2
          have HSM := Lib.hid hsm
          clear hD2 hZ7 hK7 hN7 hb7 hA7 hnv7 hx7 hok2 hsm hG7 x0' x1' x2' HDo
          have hA8 : ∀ ob : Obj, Below w7.heap.size w7 (w7.alloc ob) := fun ob => (Below.refl _ _).alloc (Nat.le_refl _) ob
          have HA8 := Lib.hid hA8
          clear hA8
          by_cases he : o.err = 0
          · rw [he]
            have hT3 := answer_two (kind := (n : Int)) he
            have hTe := answerL_ends (kind := (n : Int)) he
            have hTl := answerL_last (kind := (n : Int)) he
            have hTs := answer_len (n : Int) HOK.out HSM.out.1 HSM.out.2
            rw [hT] at hT3 hTe hTl hTs
            have hrl := HSM.out.1
            have hel := HSM.out.2
            have hb8 := HA8.out (.cells #[.int .i64 0, .int .i64 o.a, .int .i64 o.b, .int .i64 o.c, .slice p1 o.rows.length c1, .slice p2 o.evs.length c2] 34)
            have hx8 := heap_alloc_new w7 (.cells #[.int .i64 0, .int .i64 o.a, .int .i64 o.b, .int .i64 o.c, .slice p1 o.rows.length c1, .slice p2 o.evs.length c2] 34)
            have hxb8 := (hb8.block xb (by omega)).trans HX7.out
            have HNV8 := Lib.hid ((hb8.block nb (by omega)).trans HNV7.out)
            have HA8' := Lib.hid (HA7.out.below hb8)
            have HZ8 := Lib.hid (HZ7.out.below hb8)
            have HB8 := Lib.hid (HB7.out.trans (hb8.mono HB7.out.size))
            have z0 := cell_of_row _ _ 0 _ _ (0, 0) HX7.out
            simp at z0
            have hxl7 : xb < w7.heap.size := by omega
            have hxl8 : ¬ xb = w7.heap.size := by omega
            go_upto_if 90 with fail
            clear z0
            have hl8 : w7.heap.size < (w7.alloc (.cells #[.int .i64 0, .int .i64 o.a, .int .i64 o.b, .int .i64 o.c, .slice p1 o.rows.length c1, .slice p2 o.evs.length c2] 34)).heap.size := by simp
            generalize w7.alloc (.cells #[.int .i64 0, .int .i64 o.a, .int .i64 o.b, .int .i64 o.c, .slice p1 o.rows.length c1, .slice p2 o.evs.length c2] 34) = W8 at *
            generalize w7.heap.size = ab at *
            have a4 := cell_of_row _ _ 4 _ _ (0, 0) hx8
            have a5 := cell_of_row _ _ 5 _ _ (0, 0) hx8
            simp at a4 a5
            go_cut [9] (fun tk wx => ∃ t' : Nat, tk = .int .i64 t' ∧ t' ≤ k + 1 ∧ wx = W8)
            case first =>
              by_cases hn1 : n = 1
              · have hn1b : ((n : Int) == 1) = true := by simp [hn1]
                go_wp2
                go_meet
                exact ⟨t + 1, by go_num, by omega, rfl⟩
              · have hn1b : ((n : Int) == 1) = false := by simp; omega
                go_wp2
                go_meet
                exact ⟨t, rfl, by omega, rfl⟩
            case rest =>
              obtain ⟨t', rfl, ht', hw8⟩ := hcut
              subst hw8
              go_wp2_with fail
              go_loopw [14, 15] (fun ln kk wx => ∃ q : Nat, q ≤ T.length ∧ kk = .int .i64 q ∧ ln = .int .i64 (ends10 (T.take q)) ∧ wx = wc) (fun _ kk _ => T.length - (intOf kk).toNat)
              case atStart => exact ⟨0, Nat.zero_le _, rfl, rfl, rfl⟩
              case round =>
                obtain ⟨q, hq, rfl, rfl, rfl⟩ := hrel
                by_cases hql : q < T.length
                · have hqs := ends_step T q hql
                  have hqe := ends_le (T.take q)
                  have hqn : (T.take q).length ≤ q := by rw [List.length_take]; omega
                  have i1 : (0 : Int) ≤ (q : Int) := by omega
                  have i2 : (q : Int) < (T.length : Int) := by omega
                  have hb10 := byte_ten T q hql (by simpa [ByteArray.size] using hql)
                  by_cases e10 : T[q] = 10
                  · rw [decide_eq_true e10] at hb10
                    rw [if_pos e10] at hqs
                    go_wp2_with fail
                    go_roundw
                    case rel => exact ⟨q + 1, by omega, by go_num, val_int (by rw [hqs]; omega), trivial⟩
                    case measure => simp [intOf]; omega
                  · rw [decide_eq_false e10] at hb10
                    rw [if_neg e10] at hqs
                    go_wp2_with fail
                    go_roundw
                    case rel => exact ⟨q + 1, by omega, by go_num, val_int (by rw [hqs]; omega), trivial⟩
                    case measure => simp [intOf]; omega
                · obtain rfl : q = T.length := by omega
                  rw [List.take_length]
                  obtain ⟨r0, hr0, hr1⟩ := hT3
                  have hlen3 : 3 ≤ T.length := by
                    rw [hr0]
                    cases r0 with
                    | nil => exact absurd rfl hr1
                    | cons _ _ => simp
                  have t3 : (3 : Int) ≤ (T.length : Int) := by omega
                  have t3' : ¬ (T.length : Int) < 3 := by omega
                  have t2 : (2 : Int) ≤ (T.length : Int) := by omega
                  have t1 : (1 : Int) ≤ (T.length : Int) := by omega
                  have hext : ((⟨T.toArray⟩ : ByteArray).extract 0 2).toList = [79, 75] := by
                    rw [ByteArray.toList_eq, ByteArray.data_extract, hr0]
                    simp
                  have hlst : ∀ h', ((((⟨T.toArray⟩ : ByteArray)[T.length - 1]'h').toNat : Nat) : Int) = 10 := fun h' => by
                    have hb := byte_ten T (T.length - 1) (by omega) h'
                    have hg : T[T.length - 1]'(by omega) = 10 := by
                      rw [List.getLast?_eq_getElem?, List.getElem?_eq_getElem (by omega)] at hTl
                      exact Option.some.inj hTl
                    rw [decide_eq_true hg] at hb
                    simpa using hb
                  have hl1 := hlst (by simp [ByteArray.size]; omega)
                  have te : ((T.length : Int) - 1).toNat = T.length - 1 := by omega
                  clear hr0 hlst
                  go_wp2_with fail
                  go_roundw
                  case rel => exact ⟨k + 1, t', o.L, o.now, X6, Z7, by omega, by omega, by omega, by go_num, rfl, HA8', HZ8, HAP7, HNB7, HGP7, HNV8, HB8⟩
                  case measure => simp [intOf]; omega
          · obtain ⟨j, hj⟩ : ∃ j : Nat, o.err = (j : Int) := ⟨o.err.toNat, by omega⟩
            have hj1 : 1 ≤ j := by omega
            have hj7 : j ≤ 7 := by omega
            have hTE : errL (j : Int) = T := by rw [← hT]; unfold answerL; rw [if_neg he, hj]
            rw [hj]
            have nv := (cell_of_row _ _ j _ _ (0, 0) HNV7.out).trans (name_at j hj1 hj7)
            rw [hTE] at nv
            have hb8 := HA8.out (.cells #[.int .i64 (j : Int), .int .i64 o.a, .int .i64 o.b, .int .i64 o.c, .slice p1 o.rows.length c1, .slice p2 o.evs.length c2] 34)
            have HNV8 := Lib.hid ((hb8.block nb (by omega)).trans HNV7.out)
            have HA8' := Lib.hid (HA7.out.below hb8)
            have HZ8 := Lib.hid (HZ7.out.below hb8)
            have HB8 := Lib.hid (HB7.out.trans (hb8.mono HB7.out.size))
            have i0 : (0 : Int) ≤ (j : Int) := by omega
            have i8 : (j : Int) < 8 := by omega
            have i7 : (j : Int) ≤ 7 := by omega
            have in0 : ¬ (j : Int) < 0 := by omega
            have in7 : ¬ (7 : Int) < (j : Int) := by omega
            have hne : ¬ (j : Int) = 0 := by omega
            have hneb : ((j : Int) == 0) = false := by simp; omega
            have hnl7 : nb < w7.heap.size := by omega
            have hnl8 : ¬ nb = w7.heap.size := by omega
            clear hT hTE hb8
            go_wp2_with fail
            go_roundw
            case rel => exact ⟨k + 1, t, o.L, o.now, X6, Z7, by omega, by omega, by omega, by go_num, rfl, HA8', HZ8, HAP7, HNB7, HGP7, HNV8, HB8⟩
            case measure => simp [intOf]; omega
      · have h60 : k = 60 := by omega
        have hlt8' : ¬ (k : Int) < 60 := by omega
        have HDa := Lib.hid (cl_do w.heap.size bx L now X a m w HE.out W1 HB.out (Nat.le_refl _) HB.out.size HA.out HGP.out.1 hlL 7 0 0)
        go_wp2_with (go_at_call 16; refine HDa.out.mono ?_; rintro e w5 ⟨o, p1, c1, p2, c2, X5, hD1, rfl, hA5, hK5, hN5, hb5⟩; refine Hid.out ?_)
        refine Lib.hid ?_
        have HD := Lib.hid hD1
        have hZ5 := HZ.out.kept hK5 (fun j ez ex => HAP.out j ez ex)
        have hs5 := hK5.size
        have hZlt : ∀ j, Z j → j < W1.heap.size := fun j e => (HZ.out.lt j e).2
        have hb6 := fun ob : Obj => (Below.refl w5.heap.size w5).alloc (Nat.le_refl _) ob
        have HDb := Lib.hid (fun ob => cl_do w.heap.size bz L now Z a m w HE.out (w5.alloc ob) (hb5.trans ((hb6 ob).mono hb5.size)) (Nat.le_refl _) (Nat.le_trans hb5.size (hb6 ob).size) (hZ5.below (hb6 ob)) HGP.out.1 hlL 7 0 0)
        clear hD1 hA5 hK5 hN5 hb5 hZ5 hb6 HDa
        go_wp2_with (go_at_call 16; refine (HDb.out _).mono ?_; rintro e w7 ⟨o2, p3, c3, p4, c4, Z7, hD2, rfl, hZ7, hK7, hN7, hb7⟩; refine Hid.out ?_)
        refine Lib.hid ?_
        obtain rfl : o = o2 := doE_unique HGP.out.1 HD.out hD2
        have hx7 := (hK7.block w5.heap.size (by simp) (fun e => by have := hZlt _ e; omega)).trans (heap_alloc_new w5 (.cells #[.int .i64 o.err, .int .i64 o.a, .int .i64 o.b, .int .i64 o.c, .slice p1 o.rows.length c1, .slice p2 o.evs.length c2] 34))
        have hl7 : w5.heap.size < w7.heap.size := (Array.getElem?_eq_some_iff.1 hx7).1
        have u1 := cell_of_row _ _ 1 _ _ (0, 0) hx7
        have u2 := cell_of_row _ _ 2 _ _ (0, 0) hx7
        have u3 := cell_of_row _ _ 3 _ _ (0, 0) hx7
        simp at u1 u2 u3
        have hb8 := fun ob : Obj => (Below.refl w7.heap.size w7).alloc (Nat.le_refl _) ob
        have HLn : Hid (∀ ob, Calls Tryz.prog 26 #[.pointer (some ⟨bx, 0, none⟩), .string ⟨#[73, 78, 70, 79, 32, 110, 111, 119]⟩] (w7.alloc ob) fun e w' => e = .returned (.string ⟨#[69, 82, 82, 32, 65, 82, 71, 10]⟩) ∧ Below (w7.alloc ob).heap.size (w7.alloc ob) w') := Lib.hid (fun ob => line_no bx a m w HE.out HNm.out (w7.alloc ob) (hb7.trans ((hb8 ob).mono hb7.size)) ⟨#[73, 78, 70, 79, 32, 110, 111, 119]⟩ (by decide) info_now)
        have HB7 := Lib.hid hb7
        clear hD2 hZ7 hK7 hN7 hb7 hb8 HDb hx7
        go_wp2_with (go_at_call 26; refine (HLn.out _).mono ?_; rintro e w9 ⟨rfl, hb9⟩; refine Hid.out ?_)
        refine Lib.hid ?_
        have hx9 := (hb9.block w7.heap.size (by simp)).trans (heap_alloc_new w7 (.cells #[.int .i64 o.err, .int .i64 o.a, .int .i64 o.b, .int .i64 o.c, .slice p3 o.rows.length c3, .slice p4 o.evs.length c4] 34))
        have v1 := cell_of_row _ _ 1 _ _ (0, 0) hx9
        have v2 := cell_of_row _ _ 2 _ _ (0, 0) hx9
        have v3 := cell_of_row _ _ 3 _ _ (0, 0) hx9
        simp at v1 v2 v3
        have hl9 : w7.heap.size < w9.heap.size := (Array.getElem?_eq_some_iff.1 hx9).1
        have hB9 : Below w7.heap.size w7 w9 := ((Below.refl _ _).alloc (Nat.le_refl _) _).trans (hb9.mono (by simp))
        have t1 := (hB9.cell (p := ⟨w5.heap.size, 1, none⟩) hl7).trans u1
        have t2 := (hB9.cell (p := ⟨w5.heap.size, 2, none⟩) hl7).trans u2
        have t3 := (hB9.cell (p := ⟨w5.heap.size, 3, none⟩) hl7).trans u3
        have hl59 : w5.heap.size < w9.heap.size := by omega
        have HB9 := Lib.hid (HB7.out.trans (hB9.mono HB7.out.size))
        clear hb9 hx9 hB9 u1 u2 u3 HLn
        go_wp2_with fail
        go_ret
        exact ⟨rfl, HB9.out⟩
    · obtain rfl : k = ss.length := by omega
      have HDa := Lib.hid (cl_do w.heap.size bx L now X a m w HE.out W1 HB.out (Nat.le_refl _) HB.out.size HA.out HGP.out.1 hlL 7 0 0)
      go_wp2_with (go_at_call 16; refine HDa.out.mono ?_; rintro e w5 ⟨o, p1, c1, p2, c2, X5, hD1, rfl, hA5, hK5, hN5, hb5⟩; refine Hid.out ?_)
      refine Lib.hid ?_
      have HD := Lib.hid hD1
      have hZ5 := HZ.out.kept hK5 (fun j ez ex => HAP.out j ez ex)
      have hs5 := hK5.size
      have hZlt : ∀ j, Z j → j < W1.heap.size := fun j e => (HZ.out.lt j e).2
      have hb6 := fun ob : Obj => (Below.refl w5.heap.size w5).alloc (Nat.le_refl _) ob
      have HDb := Lib.hid (fun ob => cl_do w.heap.size bz L now Z a m w HE.out (w5.alloc ob) (hb5.trans ((hb6 ob).mono hb5.size)) (Nat.le_refl _) (Nat.le_trans hb5.size (hb6 ob).size) (hZ5.below (hb6 ob)) HGP.out.1 hlL 7 0 0)
      clear hD1 hA5 hK5 hN5 hb5 hZ5 hb6 HDa
      go_wp2_with (go_at_call 16; refine (HDb.out _).mono ?_; rintro e w7 ⟨o2, p3, c3, p4, c4, Z7, hD2, rfl, hZ7, hK7, hN7, hb7⟩; refine Hid.out ?_)
      refine Lib.hid ?_
      obtain rfl : o = o2 := doE_unique HGP.out.1 HD.out hD2
      have hx7 := (hK7.block w5.heap.size (by simp) (fun e => by have := hZlt _ e; omega)).trans (heap_alloc_new w5 (.cells #[.int .i64 o.err, .int .i64 o.a, .int .i64 o.b, .int .i64 o.c, .slice p1 o.rows.length c1, .slice p2 o.evs.length c2] 34))
      have hl7 : w5.heap.size < w7.heap.size := (Array.getElem?_eq_some_iff.1 hx7).1
      have u1 := cell_of_row _ _ 1 _ _ (0, 0) hx7
      have u2 := cell_of_row _ _ 2 _ _ (0, 0) hx7
      have u3 := cell_of_row _ _ 3 _ _ (0, 0) hx7
      simp at u1 u2 u3
      have hb8 := fun ob : Obj => (Below.refl w7.heap.size w7).alloc (Nat.le_refl _) ob
      have HLn : Hid (∀ ob, Calls Tryz.prog 26 #[.pointer (some ⟨bx, 0, none⟩), .string ⟨#[73, 78, 70, 79, 32, 110, 111, 119]⟩] (w7.alloc ob) fun e w' => e = .returned (.string ⟨#[69, 82, 82, 32, 65, 82, 71, 10]⟩) ∧ Below (w7.alloc ob).heap.size (w7.alloc ob) w') := Lib.hid (fun ob => line_no bx a m w HE.out HNm.out (w7.alloc ob) (hb7.trans ((hb8 ob).mono hb7.size)) ⟨#[73, 78, 70, 79, 32, 110, 111, 119]⟩ (by decide) info_now)
      have HB7 := Lib.hid hb7
      clear hD2 hZ7 hK7 hN7 hb7 hb8 HDb hx7
      go_wp2_with (go_at_call 26; refine (HLn.out _).mono ?_; rintro e w9 ⟨rfl, hb9⟩; refine Hid.out ?_)
      refine Lib.hid ?_
      have hx9 := (hb9.block w7.heap.size (by simp)).trans (heap_alloc_new w7 (.cells #[.int .i64 o.err, .int .i64 o.a, .int .i64 o.b, .int .i64 o.c, .slice p3 o.rows.length c3, .slice p4 o.evs.length c4] 34))
      have v1 := cell_of_row _ _ 1 _ _ (0, 0) hx9
      have v2 := cell_of_row _ _ 2 _ _ (0, 0) hx9
      have v3 := cell_of_row _ _ 3 _ _ (0, 0) hx9
      simp at v1 v2 v3
      have hl9 : w7.heap.size < w9.heap.size := (Array.getElem?_eq_some_iff.1 hx9).1
      have hB9 : Below w7.heap.size w7 w9 := ((Below.refl _ _).alloc (Nat.le_refl _) _).trans (hb9.mono (by simp))
      have t1 := (hB9.cell (p := ⟨w5.heap.size, 1, none⟩) hl7).trans u1
      have t2 := (hB9.cell (p := ⟨w5.heap.size, 2, none⟩) hl7).trans u2
      have t3 := (hB9.cell (p := ⟨w5.heap.size, 3, none⟩) hl7).trans u3
      have hl59 : w5.heap.size < w9.heap.size := by omega
      have HB9 := Lib.hid (HB7.out.trans (hB9.mono HB7.out.size))
      clear hb9 hx9 hB9 u1 u2 u3 HLn
      go_wp2_with fail
      go_ret
      exact ⟨rfl, HB9.out⟩

end Go.Proofs.YtpcgnadfldimhaaGreatDoor
