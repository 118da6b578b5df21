/-
  The statement Refused, walked.
-/
import Derived.Test.YtpcgnadfldimhaaGreatDoorRefusP
namespace Go.Proofs.YtpcgnadfldimhaaGreatDoor
open Go.RowKit

set_option maxHeartbeats 8000000 in
set_option maxRecDepth 100000 in
theorem refused_walk (a : Addr) (m : Int) (w : World) (hX : EnvX a m w) (ad : Option Addr) (cap : Nat) (ss : List StepV) (hS : ScriptK w ad ss) (hl : ss.length ≤ maxLen) (ac : Option Addr) (cc : Nat) (ns : List Int) (hN : IntsK w ac ns) (hnl : ns.length ≤ maxLen) :
    Calls Tryz.prog 11 #[.slice ad ss.length cap, .slice ac ns.length cc] w fun e w' => e = .returned (.bool true) ∧ Below w.heap.size w w' := by
  have HE := Lib.hid hX.env
  have HBg := Lib.hid (begun_any a m w hX.env)
  have HSc := Lib.hid hS
  have HN := Lib.hid hN
  have hl : ss.length ≤ 9223372036854775807 := by unfold maxLen at hl; omega
  have hnl : ns.length ≤ 9223372036854775807 := by unfold maxLen at hnl; omega
  clear hX hS hN
  go_enter Tryz.func11, Tryz.ntmps11
  go_wp2_with (go_at_call 18; refine HBg.out.mono ?_; rintro e w1 ⟨rfl, hb1⟩; refine Hid.out ?_)
  refine Lib.hid ?_
  have HFr := Lib.hid (fresh_any w.heap.size w1 hb1.size)
  have HB1 := Lib.hid hb1
  clear hb1 HBg
  go_wp2_with (go_at_call 19; refine HFr.out.mono ?_; rintro e w2 ⟨bx, bi, rfl, hb2, hP2, hx2, hi2⟩; refine Hid.out ?_)
  refine Lib.hid ?_
  have HB2 := Lib.hid (HB1.out.trans (hb2.mono HB1.out.size))
  have HP2 := Lib.hid hP2
  have HFs := Lib.hid (fresh_any w.heap.size w2 HB2.out.size)
  clear hb2 hP2 HFr HB1
  go_wp2_with (go_at_call 19; refine HFs.out.mono ?_; rintro e w3 ⟨bz, bj, rfl, hb3, hP3, hx3, hi3⟩; refine Hid.out ?_)
  refine Lib.hid ?_
  have hB3 := HB2.out.trans (hb3.mono HB2.out.size)
  have hlx := (HP2.out.lt bx (Or.inl rfl)).2
  have hli := (HP2.out.lt bi (Or.inr (Or.inl rfl))).2
  have hlz := (hP3.lt bz (Or.inl rfl)).2
  have hlj := (hP3.lt bj (Or.inr (Or.inl rfl))).2
  obtain ⟨X0, hR0, hX0⟩ := run_made (HP2.out.kept (S := fun _ => False) (Kept.of_below hb3) (fun _ _ e => e)) hB3.size ss
  obtain ⟨Z0, hQ0, hZ0⟩ := run_made (hP3.kept (S := fun _ => False) ((Kept.refl _ _).alloc (.cells #[.pointer (some ⟨bx, 0, none⟩), .int .i64 0, .slice none 0 0] 38)) (fun _ _ e => e)) (Nat.le_trans hB3.size (by simp)) ss
  have hsz : (w3.alloc (.cells #[.pointer (some ⟨bx, 0, none⟩), .int .i64 0, .slice none 0 0] 38)).heap.size = w3.heap.size + 1 := by simp
  rw [hsz] at hQ0 hZ0
  have hs23 := hb3.size
  have HR0 := Lib.hid (hR0.kept (S := fun _ => False) ((Kept.refl _ _).alloc (.cells #[.pointer (some ⟨bz, 0, none⟩), .int .i64 0, .slice none 0 0] 38)) (fun _ _ e => e))
  have HQ0 := Lib.hid hQ0
  have HAP0 : Hid (∀ j, Z0 j → ¬ X0 j) := Lib.hid (fun j ez ex => by
    have h1 : j = w3.heap.size + 1 ∨ j = bz ∨ j = bj := by
      rcases hZ0 j ez with e | e | e | e | e | e
      · exact Or.inl e
      · exact Or.inr (Or.inl e)
      · exact Or.inr (Or.inr e)
      all_goals simp [Value.ownBlock] at e
    have h2 : j = w3.heap.size ∨ j = bx ∨ j = bi := by
      rcases hX0 j ex with e | e | e | e | e | e
      · exact Or.inl e
      · exact Or.inr (Or.inl e)
      · exact Or.inr (Or.inr e)
      all_goals simp [Value.ownBlock] at e
    omega)
  have HB3 := Lib.hid hB3
  clear hb3 hP3 hR0 hX0 hQ0 hZ0 hB3 hsz HP2 HFs HB2
  go_wp2
  generalize hbq : w3.heap.size + 1 = bq at *
  go_loopw [12] (fun i wr => ∃ (k : Nat) (X Z : Nat → Prop), k ≤ ss.length ∧ k ≤ 60 ∧ i = .int .i64 k ∧ Hid (RunAt ss w.heap.size w3.heap.size bx k X wr) ∧ Hid (RunAt ss w.heap.size bq bz k Z wr) ∧ Hid (∀ j, Z j → ¬ X j) ∧ Hid (Below w.heap.size w wr)) (fun i _ => ss.length - (intOf i).toNat)
  case atStart => exact ⟨0, X0, Z0, Nat.zero_le _, by omega, rfl, HR0, HQ0, HAP0, Lib.hid ((HB3.out.alloc HB3.out.size _).alloc (by have := HB3.out.size; simp; omega) _)⟩
  case round =>
    obtain ⟨k, X, Z, hk, hk8, rfl, HR, HQ, HAP, HB⟩ := hrel
    generalize w3.heap.size = br at *
    by_cases hlt : k < ss.length
    · by_cases hlt8 : k < 60
      · obtain ⟨K, L, now, hA, hRS⟩ := HR.out
        obtain ⟨hG, hT, hKl, hnow⟩ := hA.good (by omega)
        have hlen := hT.len
        have hlL : L.length < 1000000000 := by omega
        obtain ⟨c0, c1, hltr, hfew, pM, capM, hRM⟩ := hRS.cell
        have c2 := hRM.cell.2.2
        have HA := Lib.hid hA
        have HG := Lib.hid hG
        have HRS := Lib.hid hRS
        have HIN := Lib.hid (HN.out.on HB.out)
        clear hA hG hT hRS hRM HR hnow
        obtain ⟨W1, hW1⟩ : ∃ W1, W1 = wr := ⟨_, rfl⟩
        subst hW1
        go_upto_if 58 with fail
        go_cut [13] (fun nv wx => ∃ n0 : Int, nv = .int .i64 n0 ∧ (-9223372036854775808 ≤ n0 ∧ n0 ≤ 9223372036854775807) ∧ wx = W1)
        case first =>
          by_cases hz : ns.length = 0
          · go_wp2
            go_meet
            exact ⟨0, rfl, by omega, rfl⟩
          · have hmod : k % ns.length < ns.length := Nat.mod_lt _ (by omega)
            obtain ⟨n0, hn0⟩ : ∃ n0, ns[k % ns.length]? = some n0 := ⟨_, List.getElem?_eq_getElem hmod⟩
            obtain ⟨hwf, b, off, rfl, hcell⟩ := HIN.out _ n0 hn0
            go_wp2
            go_meet
            exact ⟨n0, rfl, hwf, rfl⟩
        case rest =>
          obtain ⟨n0, rfl, hn0, hwc⟩ := hcut
          subst hwc
          obtain ⟨W1, hW1⟩ : ∃ W1, W1 = wc := ⟨_, rfl⟩
          subst hW1
          go_wp2_with fail
          go_cut [14] (fun bd wx => ∃ bb : Nat, bd = .slice (some ⟨bb, 0, none⟩) 12 12 ∧ wx.heap[bb]? = some (.cells (badV ((L.length : Int) + 1) n0) 29 (0, 0)) ∧ Below W1.heap.size W1 wx ∧ W1.heap.size ≤ bb)
          case first =>
            go_region
            all_goals go_wp2_with fail
            all_goals go_meet
            all_goals exact ⟨_, rfl, heap_alloc_new W1 _, below_drewN (n := 1) ((Below.refl _ _).alloc (Nat.le_refl _) _), Nat.le_refl _⟩
          case rest =>
            obtain ⟨bb, rfl, hbad, hbb, hbl⟩ := hcut
            have P12 : Hid (PK n0 12 (pickK n0 12)) := Lib.hid ⟨hn0.1, hn0.2, 12, rfl, rfl, by omega, by omega⟩
            have l12 := pickK_lt n0 12 (by omega)
            generalize pickK n0 12 = k0 at *
            obtain ⟨v0, v1, v2, v3⟩ := bad_cells ((L.length : Int) + 1) n0 k0 l12
            have HBR := Lib.hid (fun o h => bad_refused (o := o) (n := n0) (k := k0) l12 HG.out (by omega) h)
            generalize (badK ((L.length : Int) + 1) n0 k0).1 = kk at *
            generalize (badK ((L.length : Int) + 1) n0 k0).2.1 = xx at *
            generalize (badK ((L.length : Int) + 1) n0 k0).2.2 = yy at *
            generalize badE k0 = ee at *
            have hbs := hbb.size
            have hblt : bb < wc.heap.size := (Array.getElem?_eq_some_iff.1 hbad).1
            have HBAD := Lib.hid hbad
            have HBB := Lib.hid hbb
            clear hbad hbb c0 c1 c2
            go_wp2_with (go_at_call 24; refine (pick_at P12.out _).mono ?_; rintro e w9 ⟨rfl, hw9⟩; subst w9; refine Hid.out ?_)
            refine Lib.hid ?_
            have hx2 := heap_alloc_new wc (.cells #[.int .i64 2, .int .i64 2, .int .i64 3, .int .i64 3, .int .i64 5, .int .i64 5, .int .i64 7, .int .i64 5, .int .i64 1, .int .i64 1, .int .i64 1, .int .i64 1] 30)
            have hb2 : Below wc.heap.size wc (wc.alloc (.cells #[.int .i64 2, .int .i64 2, .int .i64 3, .int .i64 3, .int .i64 5, .int .i64 5, .int .i64 7, .int .i64 5, .int .i64 1, .int .i64 1, .int .i64 1, .int .i64 1] 30)) := (Below.refl _ _).alloc (Nat.le_refl _) _
            generalize wc.alloc (.cells #[.int .i64 2, .int .i64 2, .int .i64 3, .int .i64 3, .int .i64 5, .int .i64 5, .int .i64 7, .int .i64 5, .int .i64 1, .int .i64 1, .int .i64 1, .int .i64 1] 30) = W2 at *
            have hs2 := hb2.size
            have hel : wc.heap.size < W2.heap.size := (Array.getElem?_eq_some_iff.1 hx2).1
            have hbl2 : bb < W2.heap.size := by omega
            have hbad2 := (hb2.block bb hblt).trans HBAD.out
            have b0 := (cell_of_row _ _ (k0 * 3) _ _ (0, 0) hbad2).trans v0
            have b1 := (cell_of_row _ _ (k0 * 3 + 1) _ _ (0, 0) hbad2).trans v1
            have b2 := (cell_of_row _ _ (k0 * 3 + 2) _ _ (0, 0) hbad2).trans v2
            have HSC := Lib.hid ((HRS.out.below HBB.out).below hb2)
            have HC1 := Lib.hid (HBB.out.trans (hb2.mono hbs))
            have HC0 := Lib.hid (HB.out.trans (HC1.out.mono HB.out.size))
            have HERR := Lib.hid hx2
            have hsW : W1.heap.size ≤ W2.heap.size := by omega
            have hne : wc.heap.size ≠ W2.heap.size := by omega
            have hbe : W1.heap.size ≤ wc.heap.size := hbs
            generalize wc.heap.size = be at *
            obtain ⟨e0, e1, hltc, _, _⟩ := HSC.out.cell
            have hXc : ∀ k, X k → k < W2.heap.size := fun k e => (HSC.out.lt k e).2
            have hXo : ∀ k, X k → k < W1.heap.size := fun k e => (HRS.out.lt k e).2
            have hnX : ¬ X W2.heap.size := fun e => by have := hXc _ e; omega
            have HDo := Lib.hid (fun W hW => run_did w.heap.size br bx K L now now X a m w HE.out W2 HC0.out (Nat.le_refl _) HC0.out.size HSC.out HG.out hlL kk xx yy W hW)
            clear hbad2 hx2 hb2 v0 v1 v2 HBAD
            go_wp2_with fail
            go_cut [17] (fun aq wr => ReplyAt w.heap.size br bx K L now now X w W2 kk xx yy aq wr)
            case first =>
              go_region_with (go_at_call 16; refine (HDo.out _ (by repeat (first | exact Below.refl _ _ | refine Below.drew ?_ | refine below_drewN ?_ _ | refine Below.alloc ?_ (by simp) _))).mono ?_; rintro e w3 ⟨o, p1, c1, p2, c2, X', hD, rfl, hY, hV, hS, hK, hN, hb⟩; (try (have hq := replyCells W2.heap.size hnX hK (alloc_at W2 (.cells noughts6 34) W2.heap.size rfl); obtain ⟨q0, q1, q2, q3, q4, q5, qf, ql⟩ := hq)); have HZ := Lib.hid (And.intro hD (And.intro hY (And.intro hV (And.intro hS (And.intro hK (And.intro hN hb)))))); clear hD hY hV hS hK hN hb)
              all_goals go_wp2_with fail
              all_goals go_meet
              all_goals first | (have _hq := q0; exact replyAt_old hXc (below_drewN (n := 1) ((Below.refl _ _).alloc (Nat.le_refl _) _)) rfl (alloc_at W2 (.cells noughts6 34) W2.heap.size rfl) (HC0.out.size) HZ.out.1 HZ.out.2.1 HZ.out.2.2.1 HZ.out.2.2.2.1 HZ.out.2.2.2.2.1 HZ.out.2.2.2.2.2.1 HZ.out.2.2.2.2.2.2) | exact replyAt_new hXc (below_drewN (n := 1) (Below.refl _ _)) HZ.out.1 HZ.out.2.1 HZ.out.2.2.1 HZ.out.2.2.2.1 HZ.out.2.2.2.2.1 HZ.out.2.2.2.2.2.1 HZ.out.2.2.2.2.2.2
            case rest =>
              obtain ⟨o, p1, c1, p2, c2, X5, ab, rfl, hD, haq, hY, hV, hS5, hK5, hN5, hb5, hnab, hab⟩ := hcut
              obtain rfl := HBR.out o hD
              have herr := (hK5.block be hel (fun e => by have := hXo _ e; omega)).trans HERR.out
              have a0 := cell_of_row _ _ 0 _ _ (0, 0) haq
              have a1 := cell_of_row _ _ 1 _ _ (0, 0) haq
              have a2 := cell_of_row _ _ 2 _ _ (0, 0) haq
              have a3 := cell_of_row _ _ 3 _ _ (0, 0) haq
              have a4 := cell_of_row _ _ 4 _ _ (0, 0) haq
              have a5 := cell_of_row _ _ 5 _ _ (0, 0) haq
              simp at a0 a1 a2 a3 a4 a5
              have ae := (cell_of_row _ _ k0 _ _ (0, 0) herr).trans v3
              have hal : ab < wc.heap.size := (Array.getElem?_eq_some_iff.1 haq).1
              have hels : be < wc.heap.size := (Array.getElem?_eq_some_iff.1 herr).1
              have hs5 := hK5.size
              have HR5 : Hid (RunAt ss w.heap.size br bx k X5 wc) := Lib.hid ⟨K, L, now, HA.out, hS5⟩
              have hZlt : ∀ j, Z j → j < W1.heap.size := fun j e => (HQ.out.lt j e).2
              have HQ5 : Hid (RunAt ss w.heap.size bq bz k Z wc) := Lib.hid ((HQ.out.kept (S := fun _ => False) (Kept.of_below HC1.out) (fun _ _ e => e)).kept hK5 (fun j e => HAP.out j e))
              have HAP5 : Hid (∀ j, Z j → ¬ X5 j) := Lib.hid (fun j ez ex => (hN5 j ex).elim (HAP.out j ez) (fun e => by have := hZlt j ez; omega))
              have HB5 := Lib.hid hb5
              obtain ⟨f0, f1, hl5, _, _⟩ := hS5.cell
              obtain ⟨W5, hW5⟩ : ∃ W5, W5 = wc := ⟨_, rfl⟩
              subst hW5
              have HI := Lib.hid (fun W (hW : Below W5.heap.size W5 W) => run_still ss w.heap.size br bx k X5 a m w HE.out W (HB5.out.trans (hW.mono HB5.out.size)) (Nat.le_refl _) (Nat.le_trans HB5.out.size hW.size) (HR5.out.kept (S := fun _ => False) (Kept.of_below hW) (fun _ _ e => e)) (by omega) 7 0 0 (fun L now o _ h => info_still h))
              have HBN := Lib.hid (fun (nq : Nat) => below_drewN (Below.refl W5.heap.size W5) nq)
              clear hD haq hY hV hS5 hK5 hN5 hb5 HDo hXc hnX herr HBR HERR
              go_wp2_with fail
              go_quiet (fail)
              go_wp2_with (go_at_call 16; refine (HI.out _ (HBN.out _)).mono ?_; rintro e w6 ⟨v6, X6, rfl, hR6, hK6, hN6, hb6⟩; refine Hid.out ?_)
              refine Lib.hid ?_
              have hK6' : Kept X5 W5 w6 := (Kept.of_below (S := X5) (HBN.out _)).trans hK6 (fun _ e => Or.inl e)
              have hN6' : ∀ j, X6 j → X5 j ∨ W5.heap.size ≤ j := hN6
              have HQ6 := Lib.hid (HQ5.out.kept hK6' (fun j e => HAP5.out j e))
              have HAP6 : Hid (∀ j, Z j → ¬ X6 j) := Lib.hid (fun j ez ex => (hN6' j ex).elim (HAP5.out j ez) (fun e => by have := hZlt j ez; omega))
              have hs6 := hK6'.size
              have HS6 := Lib.hid (run_still ss w.heap.size br bx k X6 a m w HE.out w6 hb6 (Nat.le_refl _) hb6.size hR6 (by omega) 5 1 0 (fun L now o hl h => stat_still hl h))
              obtain ⟨K6, L6, now6, _, hRS6⟩ := hR6
              obtain ⟨g0, g1, hlg, _, _⟩ := hRS6.cell
              clear hK6 hN6 hb6 hK6' hN6' hRS6 HI f0 f1
              go_wp2_with (go_at_call 16; refine HS6.out.mono ?_; rintro e w7 ⟨v7, X7, rfl, hR7, hK7, hN7, hb7⟩; refine Hid.out ?_)
              refine Lib.hid ?_
              have HQ7 := Lib.hid (HQ6.out.kept hK7 (fun j e => HAP6.out j e))
              have HAP7 : Hid (∀ j, Z j → ¬ X7 j) := Lib.hid (fun j ez ex => (hN7 j ex).elim (HAP6.out j ez) (fun e => by have := hZlt j ez; omega))
              have hs7 := hK7.size
              obtain ⟨s, hs⟩ : ∃ s, ss[k]? = some s := ⟨_, List.getElem?_eq_getElem hlt⟩
              obtain ⟨hwf, sb, soff, rfl, hrow⟩ := HSc.out k s hs
              have HST := Lib.hid (step_at ss w.heap.size br bx k X7 a m w HE.out w7 hb7 (Nat.le_refl _) hb7.size hR7 (by omega) s hs hwf)
              have q0 := hrow 0 _ rfl
              have q1 := hrow 1 _ rfl
              have q2 := hrow 2 _ rfl
              rw [Nat.add_zero] at q0
              have hsb : sb < w.heap.size := block_lt_of_cell q0
              have q70 := (hb7.cell (p := ⟨sb, soff + k * 3, none⟩) hsb).trans q0
              have q71 := (hb7.cell (p := ⟨sb, soff + k * 3 + 1, none⟩) hsb).trans q1
              have q72 := (hb7.cell (p := ⟨sb, soff + k * 3 + 2, none⟩) hsb).trans q2
              clear hR7 hK7 hN7 hb7 hrow g0 g1 HS6
              go_wp2_with (go_at_call 20; refine HST.out.mono ?_; rintro e w8 ⟨rfl, X8, hR8, hK8, hN8, hb8⟩; refine Hid.out ?_)
              refine Lib.hid ?_
              have hQ8 := HQ7.out.kept hK8 (fun j e => HAP7.out j e)
              have HAP8 : Hid (∀ j, Z j → ¬ X8 j) := Lib.hid (fun j ez ex => (hN8 j ex).elim (HAP7.out j ez) (fun e => by have := hZlt j ez; omega))
              have hs8 := hK8.size
              have HSQ := Lib.hid (step_at ss w.heap.size bq bz k Z a m w HE.out w8 hb8 (Nat.le_refl _) hb8.size hQ8 (by omega) s hs hwf)
              have HR8 := Lib.hid hR8
              have q80 := (hb8.cell (p := ⟨sb, soff + k * 3, none⟩) hsb).trans q0
              have q81 := (hb8.cell (p := ⟨sb, soff + k * 3 + 1, none⟩) hsb).trans q1
              have q82 := (hb8.cell (p := ⟨sb, soff + k * 3 + 2, none⟩) hsb).trans q2
              clear hR8 hK8 hN8 hb8 hQ8 q70 q71 q72 HST q0 q1 q2
              go_wp2_with (go_at_call 20; refine HSQ.out.mono ?_; rintro e w9 ⟨rfl, Z9, hQ9, hK9, hN9, hb9⟩; refine Hid.out ?_)
              refine Lib.hid ?_
              have hX8 : ∀ j, X8 j → j < w8.heap.size := fun j e => (HR8.out.lt j e).2
              have HR9 := Lib.hid (HR8.out.kept hK9 (fun j ex ez => HAP8.out j ez ex))
              have HAP9 : Hid (∀ j, Z9 j → ¬ X8 j) := Lib.hid (fun j ez ex => (hN9 j ez).elim (fun e => HAP8.out j e ex) (fun e => by have := hX8 j ex; omega))
              have HQ9 := Lib.hid hQ9
              have HB9 := Lib.hid hb9
              obtain ⟨K9, L9, now9, hA9, hRS9⟩ := HR9.out
              obtain ⟨K10, L10, now10, hA10, hQS9⟩ := hQ9
              obtain ⟨rfl, rfl, rfl⟩ := hA9.unique (by omega) hA10
              obtain ⟨g0, g1, hlg, _, pg, cg, hRg⟩ := hRS9.cell
              obtain ⟨h0', h1', hlh, _, ph, ch, hRh⟩ := hQS9.cell
              have g2 := hRg.cell.2.2
              have h2' := hRh.cell.2.2
              have HBM := Lib.hid (fun (nq : Nat) => below_drewN (Below.refl w9.heap.size w9) nq)
              clear hK9 hN9 hb9 hA9 hA10 hRS9 hQS9 hRg hRh q80 q81 q82 HSQ hX8
              go_wp2_with fail
              go_quiet (fail)
              go_wp2
              go_roundw
              case rel => exact ⟨k + 1, X8, Z9, by omega, by omega, by go_num, Lib.hid (HR9.out.below (HBM.out _)), Lib.hid (HQ9.out.below (HBM.out _)), HAP9, Lib.hid (HB9.out.trans ((HBM.out _).mono HB9.out.size))⟩
              case measure => simp [intOf]; omega
      · have h60 : k = 60 := by omega
        have hlt8' : ¬ (k : Int) < 60 := by omega
        obtain ⟨K, L, now, hA, hRS⟩ := HR.out
        obtain ⟨K2, L2, now2, hA2, hQS⟩ := HQ.out
        obtain ⟨rfl, rfl, rfl⟩ := hA.unique (by omega) hA2
        have hKl := (hA.good (by omega)).2.2.1
        have HRS := Lib.hid hRS
        have HQS := Lib.hid hQS
        obtain ⟨c0, c1, hltr, hfew, pM, capM, hRM⟩ := hRS.cell
        have c2 := hRM.cell.2.2
        clear hA hA2 hRS hQS hRM HR HQ HAP
        go_wp2_with fail
        go_loopw [20] (fun i wx => ∃ q : Nat, q ≤ K.length ∧ i = .int .i64 q ∧ Hid (Below wr.heap.size wr wx)) (fun i _ => K.length - (intOf i).toNat)
        case atStart => exact ⟨0, Nat.zero_le _, rfl, Lib.hid (Below.refl _ _)⟩
        case round =>
          obtain ⟨q, hq, rfl, HBx⟩ := hrel
          obtain ⟨wx, hwx0⟩ : ∃ wx, wx = wr := ⟨_, rfl⟩
          subst hwx0
          obtain ⟨d0, d1, hltd, _, pd, capd, hRd⟩ := (HRS.out.below HBx.out).cell
          obtain ⟨e0, e1, hlte, _, pe, cape, hRe⟩ := (HQS.out.below HBx.out).cell
          have d2 := hRd.cell.2.2
          have e2 := hRe.cell.2.2
          by_cases hql : q < K.length
          · obtain ⟨kj, hkj⟩ : ∃ kj, K[q]? = some kj := ⟨_, List.getElem?_eq_getElem hql⟩
            obtain ⟨gd, rfl, hrd⟩ := hRd.row q kj hkj
            obtain ⟨ge, rfl, hre⟩ := hRe.row q kj hkj
            have r0 := hrd 0 _ rfl
            have r1 := hrd 1 _ rfl
            have r2 := hrd 2 _ rfl
            have r3 := hrd 3 _ rfl
            have r4 := hrd 4 _ rfl
            have s0 := hre 0 _ rfl
            have s1 := hre 1 _ rfl
            have s2 := hre 2 _ rfl
            have s3 := hre 3 _ rfl
            have s4 := hre 4 _ rfl
            rw [Nat.add_zero] at r0 s0
            have hgd : gd < wx.heap.size := (hRd.own.lt gd rfl).2
            have hge : ge < wx.heap.size := (hRe.own.lt ge rfl).2
            have HBN := Lib.hid (fun (nq : Nat) => HBx.out.trans ((below_drewN (Below.refl wx.heap.size wx) nq).mono HBx.out.size))
            clear hrd hre hRd hRe hkj
            obtain ⟨wd, wl, pr, st, ov⟩ := kj
            simp only at r0 r1 r2 r3 r4 s0 s1 s2 s3 s4
            go_wp2_with fail
            go_quiet (fail)
            go_wp2
            go_roundw
            case rel => exact ⟨q + 1, by omega, by go_num, Lib.hid (HBN.out _)⟩
            case measure => simp [intOf]; omega
          · obtain rfl : q = K.length := by omega
            clear hRd hRe
            go_wp2
            go_ret
            exact ⟨rfl, HB.out.trans (HBx.out.mono HB.out.size)⟩
    · obtain rfl : k = ss.length := by omega
      obtain ⟨K, L, now, hA, hRS⟩ := HR.out
      obtain ⟨K2, L2, now2, hA2, hQS⟩ := HQ.out
      obtain ⟨rfl, rfl, rfl⟩ := hA.unique (by omega) hA2
      have hKl := (hA.good (by omega)).2.2.1
      have HRS := Lib.hid hRS
      have HQS := Lib.hid hQS
      obtain ⟨c0, c1, hltr, hfew, pM, capM, hRM⟩ := hRS.cell
      have c2 := hRM.cell.2.2
      clear hA hA2 hRS hQS hRM HR HQ HAP
      go_wp2_with fail
      go_loopw [20] (fun i wx => ∃ q : Nat, q ≤ K.length ∧ i = .int .i64 q ∧ Hid (Below wr.heap.size wr wx)) (fun i _ => K.length - (intOf i).toNat)
      case atStart => exact ⟨0, Nat.zero_le _, rfl, Lib.hid (Below.refl _ _)⟩
      case round =>
        obtain ⟨q, hq, rfl, HBx⟩ := hrel
        obtain ⟨wx, hwx0⟩ : ∃ wx, wx = wr := ⟨_, rfl⟩
        subst hwx0
        obtain ⟨d0, d1, hltd, _, pd, capd, hRd⟩ := (HRS.out.below HBx.out).cell
        obtain ⟨e0, e1, hlte, _, pe, cape, hRe⟩ := (HQS.out.below HBx.out).cell
        have d2 := hRd.cell.2.2
        have e2 := hRe.cell.2.2
        by_cases hql : q < K.length
        · obtain ⟨kj, hkj⟩ : ∃ kj, K[q]? = some kj := ⟨_, List.getElem?_eq_getElem hql⟩
          obtain ⟨gd, rfl, hrd⟩ := hRd.row q kj hkj
          obtain ⟨ge, rfl, hre⟩ := hRe.row q kj hkj
          have r0 := hrd 0 _ rfl
          have r1 := hrd 1 _ rfl
          have r2 := hrd 2 _ rfl
          have r3 := hrd 3 _ rfl
          have r4 := hrd 4 _ rfl
          have s0 := hre 0 _ rfl
          have s1 := hre 1 _ rfl
          have s2 := hre 2 _ rfl
          have s3 := hre 3 _ rfl
          have s4 := hre 4 _ rfl
          rw [Nat.add_zero] at r0 s0
          have hgd : gd < wx.heap.size := (hRd.own.lt gd rfl).2
          have hge : ge < wx.heap.size := (hRe.own.lt ge rfl).2
          have HBN := Lib.hid (fun (nq : Nat) => HBx.out.trans ((below_drewN (Below.refl wx.heap.size wx) nq).mono HBx.out.size))
          clear hrd hre hRd hRe hkj
          obtain ⟨wd, wl, pr, st, ov⟩ := kj
          simp only at r0 r1 r2 r3 r4 s0 s1 s2 s3 s4
          go_wp2_with fail
          go_quiet (fail)
          go_wp2
          go_roundw
          case rel => exact ⟨q + 1, by omega, by go_num, Lib.hid (HBN.out _)⟩
          case measure => simp [intOf]; omega
        · obtain rfl : q = K.length := by omega
          clear hRd hRe
          go_wp2
          go_ret
          exact ⟨rfl, HB.out.trans (HBx.out.mono HB.out.size)⟩

end Go.Proofs.YtpcgnadfldimhaaGreatDoor
