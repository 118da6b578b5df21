/-
 The program's cluster: the queued jobs, once.
-/
import Derived.Test.YtpcgnadfldimhaaGreatDoorEarX
import Derived.Test.YtpcgnadfldimhaaGreatDoorSchB
import Derived.Test.YtpcgnadfldimhaaGreatDoorRefBB
import Derived.Test.YtpcgnadfldimhaaGreatDoorCluH
import Derived.Laws.AppendOwnNone
namespace Go.Proofs.YtpcgnadfldimhaaGreatDoor
open Go.RowKit

theorem Clu.under {base bi : Nat} {nodes jobs wall last now : Int} {vr vl vh : Value} {L : List Job} {E : List Ev} {w w' : World} (h : Clu base bi nodes jobs wall last now vr vl vh L E w) (hb : Below w.heap.size w w') : Clu base bi nodes jobs wall last now vr vl vh L E w' := ⟨h.cl.below hb, h.due, h.heap, h.few⟩

/-- While the live jobs are gone through. -/
structure Once (base bi : Nat) (nodes jobs wall last now : Int) (vr vl vh0 : Value) (L : List Job) (w : World) (k : Nat) (vh x : Value) (E : List Ev) (wr : World) : Prop where
 clu : Clu base bi nodes jobs wall last now vr vl vh (roundL nodes now L k) E wr
 own : wr.ownsRow w.heap.size 55 4 x (roundE nodes now L k).length (gfl Ev.four (roundE nodes now L k))
 nil : roundE nodes now L k = [] → x = .slice none 0 0
 apart : ∀ b, x.ownBlock = some b → ¬ clB bi vr vl vh b
 trail : Trail bi vr vl vh0 vr vl vh w wr

/-- Behind a job that moved. -/
theorem once_end {base bi i k1 gx cx2 : Nat} {nodes jobs wall last now T : Int} {vr vl vh0 vh vh4 x : Value} {L : List Job} {j : Job} {E E4 : List Ev} {w wr w3 w4 w6 : World} {o : Obj} (hO : Once base bi nodes jobs wall last now vr vl vh0 L w i vh x E wr) (hb : Below wr.heap.size wr w3) (hC : Clu base bi nodes jobs wall last now vr vl vh4 ((roundL nodes now L i).set i (j.moved T)) E4 w4) (hT : Trail bi vr vl vh vr vl vh4 w3 w4) (hx : w4.ownsRow w.heap.size 55 4 x k1 (gfl Ev.four (roundE nodes now L i)))
  (hY1 : turnL nodes now (roundL nodes now L i) i = (roundL nodes now L i).set i (j.moved T)) (hY2 : turnE nodes now (roundL nodes now L i) i = [⟨3, (i : Int) + 1, j.start, T⟩]) (ho : w6.ownsRow w.heap.size 55 4 (.slice (some ⟨gx, 0, none⟩) ((roundE nodes now L i).length + 1) cx2) ((roundE nodes now L i).length + 1) (gfl Ev.four (roundE nodes now L i) ++ [.int .i64 3, .int .i64 ((i : Int) + 1), .int .i64 j.start, .int .i64 T])) (hg : (w4.alloc o).grownBy w6 x.ownBlock) (hat : x.ownBlock = some gx ∨ gx = w4.heap.size + 1) :
  Once base bi nodes jobs wall last now vr vl vh0 L w (i + 1) vh4 (.slice (some ⟨gx, 0, none⟩) ((roundE nodes now L i).length + 1) cx2) E4 w6 := by
 have hs0 := hO.trail.kept.size
 have hs3 := hb.size
 have hs4 := hT.kept.size
 have hK6 : Kept (fun k => x.ownBlock = some k) w4 w6 := ((Kept.refl _ _).alloc o).grown hg (fun k e => Or.inl e)
 have hxn : ∀ k, x.ownBlock = some k → ¬ clB bi vr vl vh4 k := fun k e e2 => by
  rcases hT.new k e2 with e3 | e3
  ·exact hO.apart k e e3
  ·have := (hO.own.lt k e).2; omega
 refine ⟨?_, ?_, ?_, ?_, ?_⟩
 ·rw [roundL_step, hY1]
  exact ⟨hC.cl.kept hK6 (fun k e e2 => hxn k e e2), hC.due, hC.heap, hC.few⟩
 ·rw [roundE_step, hY2]
  simpa [gfl, Ev.four] using ho
 ·intro e
  rw [roundE_step, hY2] at e
  simp at e
 ·intro k e e2
  obtain rfl : gx = k := by simpa [Value.ownBlock] using e
  rcases hat with e3 | e3
  ·exact hxn gx e3 e2
  ·have := hC.cl.lt gx e2
   omega
 ·have hT2 := (hO.trail.below hb).trans hT
  exact ⟨hT2.kept.trans hK6 (fun k e => Or.inr (hx.lt k e).1), hT2.new⟩

set_option maxHeartbeats 4000000 in
set_option maxRecDepth 100000 in
theorem moveOnce_any (base bi : Nat) (nodes jobs wall last now : Int) (vr vl vh : Value) (L : List Job) (E : List Ev) (w : World) (h : Clu base bi nodes jobs wall last now vr vl vh L E w) (hbase : base ≤ w.heap.size) (hc : Calm nodes jobs wall last now L) (hcf : ConfOk nodes jobs wall last) (h0 : 0 ≤ now) (h1 : now ≤ last) (ho : offs now L ≤ 900000000000) :
  Calls Tryz.prog 144 #[.pointer (some ⟨bi, 0, none⟩)] w fun e w' => ∃ x vh' E', e = .returned x ∧ Once base bi nodes jobs wall last now vr vl vh L w L.length vh' x E' w' := by
 obtain ⟨i0, hi, hz0, hz1, hz2⟩ := info_parts Tryz.infoEvP
 obtain ⟨pl, cl, rfl⟩ := own_slice h.cl.liv
 have hlt := h.cl.hp.lt
 have hfw := h.cl.few
 have hlen := h.cl.len
 have c6 := h.cl.cell 6
 simp at c6
 have hcf' := hcf
 unfold ConfOk at hcf'
 have hm0 : 0 ≤ jobs * wall := Int.mul_nonneg (by omega) (by omega)
 go_enter Tryz.func144, Tryz.ntmps144
 go_wp2
 go_loopw [3, 14] (fun x iv wr => ∃ k m E' vh', m ≤ (seats L).length ∧ iv = .int .i64 (m : Nat) ∧ k ≤ L.length ∧ (seatsN L k).length = m ∧ Once base bi nodes jobs wall last now vr (.slice pl (seats L).length cl) vh L w k vh' x E' wr) (fun _ iv _ => (seats L).length - (intOf iv).toNat)
 case atStart => exact ⟨0, 0, E, vh, Nat.zero_le _, rfl, Nat.zero_le _, rfl, ⟨h, World.ownsRow_nil _ _ _ _, fun _ => rfl, fun b e => by simp [Value.ownBlock] at e, Trail.refl _ _ _ _ _⟩⟩
 case round =>
  obtain ⟨k, m, E', vh', hm, rfl, hk, hkm, hO⟩ := hrel
  by_cases hml : m < (seats L).length
  ·obtain ⟨s, hs⟩ : ∃ s, (seats L)[m]? = some s := ⟨_, List.getElem?_eq_getElem hml⟩
   have hs2 : (seatsN L (k + (L.length - k)))[(seatsN L k).length]? = some s := by
    rw [hkm, show k + (L.length - k) = L.length by omega]
    exact hs
   obtain ⟨i, j, a1, a2, hj, hlv, rfl, a3, hdead⟩ := seat_next L k s (L.length - k) (by omega) hs2
   obtain ⟨e1, e2⟩ := round_skip nodes now L k (i - k) (fun t a q1 q2 ha e => by
    have := hdead t a q1 (by omega) ha
    rw [Job.live, liveB, e] at this
    simp at this)
   rw [show k + (i - k) = i by omega] at e1 e2
   have hOi : Once base bi nodes jobs wall last now vr (.slice pl (seats L).length cl) vh L w i vh' u3 E' wr := ⟨by rw [e1]; exact hO.clu, by rw [e2]; exact hO.own, by rw [e2]; exact hO.nil, hO.apart, hO.trail⟩
   have hil := (List.getElem?_eq_some_iff.1 hj).1
   rw [hkm] at a3
   clear hO e1 e2 hdead hs2 hkm hk a1
   have hRj : (roundL nodes now L i)[i]? = some j := (roundL_rest nodes now L i i (Nat.le_refl _)).trans hj
   have hcR := calm_round hc h0 i
   have hsR := round_seats nodes now L i
   have hC := hOi.clu.cl
   obtain ⟨b, hb, hrow⟩ := owns_laid seatC_len (by rw [hsR] at hC; exact hC.liv) rfl m _ hs
   subst hb
   obtain ⟨gr, cr, rfl, r0, r1, r2, rf, hgr⟩ := hC.recs i j hRj
   have hii := (List.getElem?_eq_some_iff.1 hRj).1
   have hjc := hcR.each j (List.mem_of_getElem? hRj)
   have hlt2 := hC.hp.lt
   have HOI := Lib.hid hOi
   have HJ := Lib.hid hRj
   obtain ⟨wd, wl, ph, st, en⟩ := j
   simp only at r0 r1 r2 hjc
   have hB1 : Below wr.heap.size wr (wr.alloc (.cells #[.int .i64 ((i : Int) + 1), .int .i64 wd] 187)) := (Below.refl _ _).alloc (Nat.le_refl _) _
   have hR := recordOf_any base bi gr cr nodes jobs wall last now _ vh' (roundL nodes now L i) _ E' _ (hC.below hB1) i hii
   by_cases hp : ph = 1
   ·subst hp
    have hew : en - st = wl := by have := hjc.2.2.2.2.2.2.2 (by simp [Job.live, liveB]); omega
    have hW := hcR.widths hcf
    have hTm := hcR.times hcf
    obtain ⟨T, HT⟩ : ∃ T, Hid (earliest (roundL nodes now L i) nodes now wd wl i = T) := ⟨_, Lib.hid rfl⟩
    have t0 : 0 ≤ T := by
     have e := (earliest_ge (roundL nodes now L i) nodes now wd wl i (hcR.fine h0).wide h0 (by omega) (by omega)).1
     rw [HT.out] at e
     omega
    have hRl := resS_len (roundL nodes now L i) i (seats (roundL nodes now L i))
    rw [show resS (roundL nodes now L i) i (seats (roundL nodes now L i)) = resN (roundL nodes now L i) i (roundL nodes now L i).length from resS_seats (roundL nodes now L i) i (roundL nodes now L i).length, hsR] at hRl
    have HP := Lib.hid (fun (w1 : World) (hb : Below wr.heap.size wr w1) => plan_any base bi nodes jobs wall last now _ _ vh' (roundL nodes now L i) E' w1 (hC.below hb) i)
    have hq := heap_alloc_new wr (.cells #[.int .i64 ((i : Int) + 1), .int .i64 wd] 187)
    have c4 := hC.cell 4
    simp at c4
    have hgb : gr < wr.heap.size := hgr
    have HW := Lib.hid hW
    have HTm := Lib.hid hTm
    have HB1 := Lib.hid hB1
    have HQ := Lib.hid hq
    clear hOi hC hRj hj hB1 h hW hTm hq
    go_wp2_with (first | (refine wpList_load_mid rfl 187 _ rfl b (m * 2) rfl [.int .i64 ((i : Int) + 1), .int .i64 wd] _ hrow Tryz.underlying187 rfl (by kernel_rfl) ?_) | (go_at_call 98; refine hR.mono ?_; rintro e w1 ⟨rfl, hw⟩; subst w1))
    obtain ⟨W1, hW1, hB1, s0, s1, x2, x4, hzW⟩ : ∃ W1, W1 = wr.alloc (.cells #[.int .i64 ((i : Int) + 1), .int .i64 wd] 187) ∧ Below wr.heap.size wr W1 ∧ W1.cell? ⟨wr.heap.size, 0, none⟩ = some (.int .i64 ((i : Int) + 1)) ∧ W1.cell? ⟨wr.heap.size, 1, none⟩ = some (.int .i64 wd) ∧ W1.cell? ⟨gr, i * 3 + 2, none⟩ = some (.int .i64 en) ∧ W1.cell? ⟨bi, 4, none⟩ = some (.int .i64 now) ∧ wr.heap.size < W1.heap.size := ⟨_, rfl, HB1.out, cell_of_row _ _ 0 _ _ (0, 0) HQ.out, cell_of_row _ _ 1 _ _ (0, 0) HQ.out, (HB1.out.cell (p := ⟨gr, i * 3 + 2, none⟩) hgr).trans r2, (HB1.out.cell (p := ⟨bi, 4, none⟩) hlt2).trans c4, by simp⟩
    rw [← hW1]
    have HBW := Lib.hid hB1
    clear hW1 HB1 HQ r0 r1 r2 c4 hR hrow c6 hB1
    have HSR := Lib.hid hsR
    have HA3 := Lib.hid a3
    have HJC := Lib.hid hjc
    have j1 := hjc.1
    have HJ3 := Lib.hid hjc.2.2.1
    have HJ4 := Lib.hid hjc.2.2.2.1
    have HJ5 : Hid (en ≤ 5000000000000000000) := Lib.hid (by have := hjc.2.2.2.2.1; omega)
    have HJS : Hid (st + wl = en) := Lib.hid (hjc.2.2.2.2.2.2.2 (by simp [Job.live, liveB]))
    have j2 := hjc.2.1
    have j6 := hjc.2.2.2.2.2.1
    have j7 := hjc.2.2.2.2.2.2.1
    have HRL : (resN (roundL nodes now L i) i (roundL nodes now L i).length).length ≤ 1000000000 := by omega
    have HO1 := Lib.hid ho
    have HC0 := Lib.hid hc
    have HCR := Lib.hid hcR
    have HCF := Lib.hid hcf
    have hg1 : gr < W1.heap.size := by omega
    have hb1 : bi < W1.heap.size := by omega
    have w64 : nodes ≤ 64 := by omega
    have wll : wl ≤ 1000000000 := by omega
    have nw5 : now ≤ 5000000000000000000 := by omega
    have HPE0 : ∀ (W : World) (pp : Option Addr) (cp : Nat) (q : Int), q = wl → Laid Res.cells 3 W pp (resN (roundL nodes now L i) i (roundL nodes now L i).length) → Calls Tryz.prog 92 #[.agg #[.int .i64 nodes, .slice pp (resN (roundL nodes now L i) i (roundL nodes now L i).length).length cp], .int .i64 wd, .int .i64 q, .int .i64 now] W fun e w' => e = .returned (.int .i64 T) ∧ Below W.heap.size W w' := by
     intro W pp cp q hq hL
     rw [hq, ← HT.out]
     exact pearliest_any (roundL nodes now L i) i nodes wd wl now pp cp W hL HW.out (fun a ha => (HTm.out a ha).2.2) HRL (by omega) j2 w64 j6 wll h0 nw5
    have HPE := Lib.hid HPE0
    clear HPE0
    have HWL : Hid (IntKind.i64.wrap wl = wl) := Lib.hid (wrap_small _ (by omega) (by omega))
    clear hsR a3 hjc hRl ho hc hcR hcf hcf' hm0 HRL
    go_region_held3 (fun w' => w'.cell? ⟨wr.heap.size, 0, none⟩ = some (.int .i64 ((i : Int) + 1)) ∧ w'.cell? ⟨wr.heap.size, 1, none⟩ = some (.int .i64 wd) ∧ w'.cell? ⟨gr, i * 3 + 2, none⟩ = some (.int .i64 en) ∧ w'.cell? ⟨bi, 4, none⟩ = some (.int .i64 now)) (go_keep) (first | (go_at_call 91; refine (HP.out _ (HBW.out.drew)).mono ?_; rintro e w2 ⟨pp, cp, rfl, hlaid, hb2⟩; have y1 := (hb2.cell (p := ⟨wr.heap.size, 1, none⟩) hzW).trans s1; have y0 := (hb2.cell (p := ⟨wr.heap.size, 0, none⟩) hzW).trans s0; have y2 := (hb2.cell (p := ⟨gr, i * 3 + 2, none⟩) hg1).trans x2; have y4 := (hb2.cell (p := ⟨bi, 4, none⟩) hb1).trans x4; have HL2 := Lib.hid hlaid; have HB2 := Lib.hid hb2; clear hlaid hb2) | (go_at_call 92; refine (HPE.out _ pp cp _ HWL.out HL2.out).mono ?_; rintro e w3 ⟨rfl, hb3⟩; have z1 := (hb3.cell (p := ⟨wr.heap.size, 1, none⟩) (block_lt_of_cell y1)).trans y1; have z0 := (hb3.cell (p := ⟨wr.heap.size, 0, none⟩) (block_lt_of_cell y0)).trans y0; have z2 := (hb3.cell (p := ⟨gr, i * 3 + 2, none⟩) (block_lt_of_cell y2)).trans y2; have z4 := (hb3.cell (p := ⟨bi, 4, none⟩) (block_lt_of_cell y4)).trans y4; have HB3 := Lib.hid hb3; clear hb3))
    all_goals
     have hbw : Below wr.heap.size wr w3 := ((HBW.out.drew).trans (HB2.out.mono HBW.out.size)).trans (HB3.out.mono (Nat.le_trans HBW.out.size HB2.out.size))
     have hs3 := hbw.size
     have HBw := Lib.hid hbw
     clear hbw HB2 HB3 HL2 HP HPE HBW y0 y1 y2 y4 s0 s1 x2 x4
     by_cases hT : T < st
     ·obtain ⟨hY1, hY2⟩ := turn_yes (nodes := nodes) (now := now) HJ.out rfl (by simp only; rw [HT.out]; exact hT)
      rw [HT.out] at hY1 hY2
      have hC3 := HOI.out.clu.under HBw.out
      have hPr := promise_any base bi nodes jobs wall last now _ _ vh' (roundL nodes now L i) E' w3 hC3 (by have := HOI.out.trail.kept.size; omega) i _ HJ.out rfl HJS.out HJ3.out HJ5.out (show (0 : Int) ≤ wl by omega) wll T t0 (by have := HJ5.out; have := HJ4.out; omega)
      have HPr := Lib.hid hPr
      have HY1 := Lib.hid hY1
      have HY2 := Lib.hid hY2
      have hnw : ¬ clB bi (.slice (some ⟨gr, 0, none⟩) (roundL nodes now L i).length cr) (.slice (some ⟨b, 0, none⟩) (seats L).length cl) vh' wr.heap.size := fun e => by have := HOI.out.clu.cl.lt _ e; omega
      have HNW := Lib.hid hnw
      have hs0 := HOI.out.trail.kept.size
      have hlx := roundE_le nodes now L i
      clear hC3 hPr hY1 hY2 hnw
      go_wp2_with (go_at_call 162; refine HPr.out.mono ?_; rintro e w4 ⟨rfl, vh4, E4, hC4, hT4⟩; refine Hid.out ?_)
      refine Lib.hid ?_
      have hs4 := hT4.kept.size
      have v0 := (World.cell?_of_block (a := ⟨wr.heap.size, 0, none⟩) (hT4.kept.block wr.heap.size (block_lt_of_cell z0) HNW.out)).trans z0
      have hu4 : w4.ownsRow w.heap.size 55 4 u3 (roundE nodes now L i).length (gfl Ev.four (roundE nodes now L i)) := owns_on (owns_on HOI.out.own (fun k e => HBw.out.block k (HOI.out.own.lt k e).2)) (fun k e => hT4.kept.block k (by have := (HOI.out.own.lt k e).2; omega) (HOI.out.apart k e))
      obtain ⟨pu, cu, hu⟩ := own_slice hu4
      subst hu
      have hzr : wr.heap.size < w4.heap.size := block_lt_of_cell (a := ⟨wr.heap.size, 0, none⟩) v0
      have HC4 := Lib.hid hC4
      have HT4 := Lib.hid hT4
      have HU4 := Lib.hid hu4
      clear hC4 hT4 hu4 HPr z0 z1 z2 z4
      go_wp2_with (at_builtin; refine wpList_append_lies _ rfl _ _ 32 rfl w.heap.size 55 i0 (.agg #[.int .i64 0, .int .i64 0, .int .i64 0, .int .i64 0]) 4 32 Tryz.underlying32 hi hz0 hz1 hz2 rfl (by decide) _ _ _ rfl (HU4.out.alloc _) ⟨w4.heap.size, 0, none⟩ 1 1 [.int .i64 3, .int .i64 ((i : Int) + 1), .int .i64 st, .int .i64 T] rfl rfl (news_at _ #[.int .i64 3, .int .i64 ((i : Int) + 1), .int .i64 st, .int .i64 T] _ _ (by simp)) (by intro u' hu'; simp at hu'; rcases hu' with rfl | rfl | rfl | rfl <;> rfl) (by decide) (by unfold maxLen; omega) (by omega) (by simp; omega) _ rfl ?_)
      intro gx cx2 w6 hown6 hgrow hat _
      have HF := Lib.hid (once_end HOI.out HBw.out HC4.out HT4.out HU4.out HY1.out HY2.out hown6 hgrow hat)
      clear hown6 hgrow hat
      go_wp2
      go_roundw
      case rel => exact ⟨i + 1, m + 1, E4, vh4, by omega, by go_num, by omega, HA3.out, HF.out⟩
      case measure => simp [intOf]; omega
     ·have hTn := turn_no (nodes := nodes) (now := now) HJ.out (fun e => hT (by rw [← HT.out]; exact e.2))
      have HF : Hid (Once base bi nodes jobs wall last now (.slice (some ⟨gr, 0, none⟩) (roundL nodes now L i).length cr) (.slice (some ⟨b, 0, none⟩) (seats L).length cl) vh L w (i + 1) vh' u3 E' w3) := Lib.hid ⟨by rw [roundL_step, hTn.1]; exact HOI.out.clu.under HBw.out, by rw [roundE_step, hTn.2, List.append_nil]; exact owns_on HOI.out.own (fun k e => HBw.out.block k (HOI.out.own.lt k e).2), by rw [roundE_step, hTn.2, List.append_nil]; exact HOI.out.nil, HOI.out.apart, HOI.out.trail.below HBw.out⟩
      clear hTn
      go_wp2
      go_roundw
      case rel => exact ⟨i + 1, m + 1, E', vh', by omega, by go_num, by omega, HA3.out, HF.out⟩
      case measure => simp [intOf]; omega
   ·have hT := turn_no (nodes := nodes) (now := now) hRj (fun e => hp e.1)
    have HF : Hid (Once base bi nodes jobs wall last now (.slice (some ⟨gr, 0, none⟩) (roundL nodes now L i).length cr) (.slice (some ⟨b, 0, none⟩) (seats L).length cl) vh L w (i + 1) vh' u3 E' (wr.alloc (.cells #[.int .i64 ((i : Int) + 1), .int .i64 wd] 187))) := Lib.hid ⟨by rw [roundL_step, hT.1]; exact hOi.clu.under hB1, by rw [roundE_step, hT.2, List.append_nil]; exact owns_on hOi.own (fun k e => hB1.block k (hOi.own.lt k e).2), by rw [roundE_step, hT.2, List.append_nil]; exact hOi.nil, hOi.apart, hOi.trail.below hB1⟩
    clear hOi hC hT hRj hj hB1 h
    go_wp2_with (first | (refine wpList_load_mid rfl 187 _ rfl b (m * 2) rfl [.int .i64 ((i : Int) + 1), .int .i64 wd] _ hrow Tryz.underlying187 rfl (by kernel_rfl) ?_) | (go_at_call 98; refine hR.mono ?_; rintro e w1 ⟨rfl, hw⟩; subst w1))
    go_roundw
    case rel => exact ⟨i + 1, m + 1, E', vh', by omega, by go_num, by omega, a3, HF.out⟩
    case measure => simp [intOf]; omega
  ·obtain rfl : m = (seats L).length := by omega
   have hlast := seat_last L k hkm
   obtain ⟨e1, e2⟩ := round_skip nodes now L k (L.length - k) (fun t a q1 q2 ha e => by
    have := hlast t a q1 (by omega) ha
    rw [Job.live, liveB, e] at this
    simp at this)
   rw [show k + (L.length - k) = L.length by omega] at e1 e2
   go_wp2
   go_ret
   exact ⟨_, vh', E', rfl, ⟨by rw [e1]; exact hO.clu, by rw [e2]; exact hO.own, by rw [e2]; exact hO.nil, hO.apart, hO.trail⟩⟩

end Go.Proofs.YtpcgnadfldimhaaGreatDoor
namespace Go.Proofs.YtpcgnadfldimhaaGreatDoor
open Go.RowKit

theorem four_one (l : List Ev) (u : Value) (h : u ∈ gfl Ev.four l) : u.oneCell' = true := by
 simp only [gfl, List.mem_flatMap, Ev.four, List.mem_cons, List.not_mem_nil, or_false] at h
 obtain ⟨e, _, rfl | rfl | rfl | rfl⟩ := h <;> rfl

theorem nilE_yes (W : World) : (binOp .eql 32 (.slice none 0 0) (.slice none 0 0)).run Tryz.prog W = .ok (.bool true) W := by kernel_rfl
theorem nilE_no (g n c : Nat) (W : World) : (binOp .eql 32 (.slice (some ⟨g, 0, none⟩) n c) (.slice none 0 0)).run Tryz.prog W = .ok (.bool false) W := by kernel_rfl

/-- Between the rounds. -/
structure Ups (base bi : Nat) (nodes jobs wall last now : Int) (vr vl vh0 : Value) (L : List Job) (w : World) (vh x : Value) (M : List Job) (es E : List Ev) (wr : World) : Prop where
 moves : Moves nodes now L M es
 clu : Clu base bi nodes jobs wall last now vr vl vh M E wr
 own : wr.ownsRow w.heap.size 55 4 x es.length (gfl Ev.four es)
 apart : ∀ b, x.ownBlock = some b → ¬ clB bi vr vl vh b
 trail : Trail bi vr vl vh0 vr vl vh w wr

/-- Behind a round in which nothing moved. -/
theorem Ups.still {base bi : Nat} {nodes jobs wall last now : Int} {vr vl vh0 vh vh2 x x2 : Value} {L M : List Job} {es E E2 : List Ev} {w wr w2 : World} (h : Ups base bi nodes jobs wall last now vr vl vh0 L w vh x M es E wr) (hO : Once base bi nodes jobs wall last now vr vl vh M wr M.length vh2 x2 E2 w2) (hE : roundE nodes now M M.length = []) : Ups base bi nodes jobs wall last now vr vl vh0 L w vh2 x M es E2 w2 := by
 have e1 := round_none M.length hE
 have hc := hO.clu
 rw [e1] at hc
 refine ⟨h.moves, hc, owns_on h.own (fun k e => hO.trail.kept.block k (h.own.lt k e).2 (h.apart k e)), fun b e e2 => ?_, h.trail.trans hO.trail⟩
 rcases hO.trail.new b e2 with e3 | e3
 ·exact h.apart b e e3
 ·have := (h.own.lt b e).2; omega

/-- Behind a round in which something moved. -/
theorem Ups.next {base bi gx cx2 : Nat} {nodes jobs wall last now : Int} {vr vl vh0 vh vh2 x x2 : Value} {L M : List Job} {es E E2 : List Ev} {w wr w2 w3 : World} (h : Ups base bi nodes jobs wall last now vr vl vh0 L w vh x M es E wr) (hO : Once base bi nodes jobs wall last now vr vl vh M wr M.length vh2 x2 E2 w2) (hE : roundE nodes now M M.length ≠ []) (ho : w3.ownsRow w.heap.size 55 4 (.slice (some ⟨gx, 0, none⟩) (es.length + (roundE nodes now M M.length).length) cx2) (es.length + (roundE nodes now M M.length).length) (gfl Ev.four es ++ gfl Ev.four (roundE nodes now M M.length))) (hg : w2.grownBy w3 x.ownBlock) (hat : x.ownBlock = some gx ∨ gx = w2.heap.size) : Ups base bi nodes jobs wall last now vr vl vh0 L w vh2 (.slice (some ⟨gx, 0, none⟩) (es.length + (roundE nodes now M M.length).length) cx2) (roundL nodes now M M.length) (es ++ roundE nodes now M M.length) E2 w3 := by
 have hs0 := h.trail.kept.size
 have hs2 := hO.trail.kept.size
 have hK : Kept (fun k => x.ownBlock = some k) w2 w3 := (Kept.refl _ _).grown hg (fun k e => Or.inl e)
 have hxn : ∀ k, x.ownBlock = some k → ¬ clB bi vr vl vh2 k := fun k e e2 => by
  rcases hO.trail.new k e2 with e3 | e3
  ·exact h.apart k e e3
  ·have := (h.own.lt k e).2; omega
 refine ⟨.more h.moves hE, ⟨hO.clu.cl.kept hK (fun k e e2 => hxn k e e2), hO.clu.due, hO.clu.heap, hO.clu.few⟩, ?_, ?_, ?_⟩
 ·rw [List.length_append]
  have e : gfl Ev.four (es ++ roundE nodes now M M.length) = gfl Ev.four es ++ gfl Ev.four (roundE nodes now M M.length) := by simp [gfl]
  rw [e]
  exact ho
 ·intro b e e2
  obtain rfl : gx = b := by simpa [Value.ownBlock] using e
  rcases hat with e3 | e3
  ·exact hxn gx e3 e2
  ·have := hO.clu.cl.lt gx e2
   omega
 ·have hT2 := h.trail.trans hO.trail
  exact ⟨hT2.kept.trans hK (fun k e => Or.inr (h.own.lt k e).1), hT2.new⟩

set_option maxHeartbeats 4000000 in
set_option maxRecDepth 100000 in
theorem moveUp_any (base bi : Nat) (nodes jobs wall last now : Int) (vr vl vh : Value) (L : List Job) (E : List Ev) (w : World) (h : Clu base bi nodes jobs wall last now vr vl vh L E w) (hbase : base ≤ w.heap.size) (hc : Calm nodes jobs wall last now L) (hcf : ConfOk nodes jobs wall last) (h0 : 0 ≤ now) (h1 : now ≤ last) (ho : offs now L ≤ 900000000000) :
  Calls Tryz.prog 130 #[.pointer (some ⟨bi, 0, none⟩)] w fun e w' => ∃ x M es vh' E', e = .returned x ∧ Rounds nodes now L es M ∧ Ups base bi nodes jobs wall last now vr vl vh L w vh' x M es E' w' := by
 obtain ⟨i0, hi, hz0, hz1, hz2⟩ := info_parts Tryz.infoEvP
 have hlen := h.cl.len
 go_enter Tryz.func130, Tryz.ntmps130
 go_wp2
 go_loopw [3] (fun x wr => ∃ M es vh' E', Ups base bi nodes jobs wall last now vr vl vh L w vh' x M es E' wr) (fun x _ => 900000000000 - (match x with | .slice _ n _ => n | _ => 0))
 case atStart => exact ⟨L, [], vh, E, ⟨.none, h, World.ownsRow_nil _ _ _ _, fun b e => by simp [Value.ownBlock] at e, Trail.refl _ _ _ _ _⟩⟩
 case round =>
  obtain ⟨M, es, vh', E', hU⟩ := hrel
  obtain ⟨hF, hoff, hML⟩ := fine_moves (hc.fine h0) hU.moves
  have hcM := calm_moves hc h0 hU.moves
  have hMo := moveOnce_any base bi nodes jobs wall last now vr vl vh' M E' wr hU.clu (by have := hU.trail.kept.size; omega) hcM hcf h0 h1 (by omega)
  have hfr := (fine_round hF M.length).2
  obtain ⟨px, cx, hx⟩ := own_slice hU.own
  subst hx
  have HU := Lib.hid hU
  have HM := Lib.hid hMo
  have hle : M.length ≤ 1000000000 := by omega
  clear hU hMo hcM hF hML h
  go_wp2_with (go_at_call 144; refine HM.out.mono ?_; rintro e w2 ⟨x2, vh2, E2, rfl, hO⟩; refine Hid.out ?_)
  refine Lib.hid ?_
  have HO := Lib.hid hO
  clear hO HM
  by_cases hE : roundE nodes now M M.length = []
  ·have hx2 := HO.out.nil hE
   subst hx2
   have HF := Lib.hid (HU.out.still HO.out hE)
   have HR := Lib.hid (HU.out.moves.rounds (.done hE))
   have hnl := nilE_yes
   go_wp2
   go_ret
   exact ⟨_, M, es, vh2, E2, rfl, by simpa using HR.out, HF.out⟩
  ·have hpos : 0 < (roundE nodes now M M.length).length := List.length_pos_iff.2 hE
   have hown2 := HO.out.own
   obtain ⟨g2, c2, hx2⟩ : ∃ g c, x2 = .slice (some ⟨g, 0, none⟩) (roundE nodes now M M.length).length c := by
    rcases own_forms hown2 with ⟨_, hn⟩ | ⟨g, c, e⟩
    ·omega
    ·exact ⟨g, c, e⟩
   subst hx2
   have hc1 := hown2.1
   have hcs := hown2.cells rfl
   have hux : w2.ownsRow w.heap.size 55 4 (.slice px es.length cx) es.length (gfl Ev.four es) := owns_on HU.out.own (fun k e => HO.out.trail.kept.block k (HU.out.own.lt k e).2 (HU.out.apart k e))
   have hsz : w.heap.size ≤ w2.heap.size := by have := HU.out.trail.kept.size; have := HO.out.trail.kept.size; omega
   have HX := Lib.hid hux
   have HCS := Lib.hid hcs
   have HE := Lib.hid hE
   have hone := Lib.hid (four_one (roundE nodes now M M.length))
   have hnl := nilE_no g2 (roundE nodes now M M.length).length c2
   clear hux hcs hown2 hE
   go_wp2_with (at_builtin; refine wpList_append_lies _ rfl _ _ 32 rfl w.heap.size 55 i0 (.agg #[.int .i64 0, .int .i64 0, .int .i64 0, .int .i64 0]) 4 32 Tryz.underlying32 hi hz0 hz1 hz2 rfl (by decide) _ _ _ rfl HX.out ⟨g2, 0, none⟩ (roundE nodes now M M.length).length c2 (gfl Ev.four (roundE nodes now M M.length)) rfl hc1 HCS.out hone.out hpos (by unfold maxLen; omega) (by omega) (by omega) _ rfl ?_)
   intro gx cx2 w3 hown3 hgrow hat _
   have HF := Lib.hid (HU.out.next HO.out HE.out hown3 hgrow hat)
   clear hown3 hgrow hat
   go_wp2
   go_roundw
   case rel => exact ⟨_, _, vh2, E2, HF.out⟩
   case measure => simp; omega

end Go.Proofs.YtpcgnadfldimhaaGreatDoor
namespace Go.Proofs.YtpcgnadfldimhaaGreatDoor
open Go.RowKit

theorem Calm.sane {nodes jobs wall last now : Int} {L : List Job} (h : Calm nodes jobs wall last now L) : Sane L := fun j hj ha => by
 obtain ⟨_, _, h1, _, _, h2, _, h3⟩ := h.each j hj
 have := h3 (active_live.1 ha)
 omega

/-- Behind moving up and what happens now: the events of both, one behind the other. -/
theorem early_end {base bi : Nat} {nodes jobs wall last now : Int} {vr vl0 vh0 vl1 vh1 vh2 vl3 vh3 x : Value} {L1 M M2 : List Job} {es es2 E2 E3 : List Ev} {x2 xx : Value} {w w1 w2 w3 w4 : World} (hT1 : Trail bi vr vl0 vh0 vr vl1 vh1 w w1) (hU : Ups base bi nodes jobs wall last now vr vl1 vh1 L1 w1 vh2 x M es E2 w2) (hH : Hap base bi now nodes jobs wall last now vr vl1 vh2 M w2 vl3 vh3 x2 M2 es2 E3 w3)
  (hx : w4.ownsRow w1.heap.size 55 4 xx (es ++ es2).length (gfl Ev.four (es ++ es2))) (hK : Kept (fun k => x.ownBlock = some k) w3 w4) (hat : ∀ k, xx.ownBlock = some k → x.ownBlock = some k ∨ w3.heap.size ≤ k) : CluLeft base bi nodes jobs wall last now vr vl0 vh0 M2 (es ++ es2) xx w w4 := by
 have s1 := hT1.kept.size
 have s2 := hU.trail.kept.size
 have s3 := hH.trail.kept.size
 have hxn : ∀ k, x.ownBlock = some k → ¬ clB bi vr vl3 vh3 k := fun k e e2 => by
  rcases hH.trail.new k e2 with e3 | e3
  ·exact hU.apart k e e3
  ·have := (hU.own.lt k e).2; omega
 have hT := (hT1.trans hU.trail).trans hH.trail
 refine ⟨owns_mono hx s1, vr, vl3, vh3, E3, ⟨hH.clu.cl.kept hK (fun k e e2 => hxn k e e2), hH.clu.due, hH.clu.heap, hH.clu.few⟩, ⟨hT.kept.trans hK (fun k e => Or.inr (by have := (hU.own.lt k e).1; omega)), hT.new⟩, fun k e e2 => ?_⟩
 rcases hat k e with e3 | e3
 ·exact hxn k e3 e2
 ·have := hH.clu.cl.lt k e2; omega

/-- What append asks for, and what it leaves of the time. -/
theorem early_app {base bi : Nat} {nodes jobs wall last now : Int} {vr vl1 vh1 vh2 vl3 vh3 x x2 : Value} {L1 M M2 : List Job} {es es2 E2 E3 : List Ev} {w1 w2 w3 : World} (hrd : Rounds nodes now L1 es M) (_hrun : Runs now M es2 M2) (hc : Calm nodes jobs wall last now L1) (n0 : 0 ≤ now) (ho : offs now L1 ≤ 900000000000) (hlen : L1.length ≤ 1000000000) (hU : Ups base bi nodes jobs wall last now vr vl1 vh1 L1 w1 vh2 x M es E2 w2) (hH : Hap base bi now nodes jobs wall last now vr vl1 vh2 M w2 vl3 vh3 x2 M2 es2 E3 w3) :
  w3.ownsRow w1.heap.size 55 4 x es.length (gfl Ev.four es) ∧ es.length + es2.length ≤ maxLen ∧ (es.length + es2.length) * 32 ≤ 140737488355328 ∧ w1.heap.size ≤ w3.heap.size ∧ ∀ w4, Kept (fun k => x.ownBlock = some k) w3 w4 → w4.cell? ⟨bi, 4, none⟩ = some (.int .i64 now) := by
 have h1 := rounds_offs hrd (hc.fine n0)
 obtain ⟨hcM, _, hML⟩ := good_rounds hc n0 hrd
 have h2 := hH.todo
 have h3 := todo_le M
 have s2 := hU.trail.kept.size
 have s3 := hH.trail.kept.size
 have hxn : ∀ k, x.ownBlock = some k → ¬ clB bi vr vl3 vh3 k := fun k e e2 => by
  rcases hH.trail.new k e2 with e3 | e3
  ·exact hU.apart k e e3
  ·have := (hU.own.lt k e).2; omega
 refine ⟨owns_on hU.own (fun k e => hH.trail.kept.block k (hU.own.lt k e).2 (hU.apart k e)), by unfold maxLen; omega, by omega, by omega, fun w4 hK => ?_⟩
 have c4 := hH.clu.cl.cell 4
 simp at c4
 rw [World.cell?_of_block (a := ⟨bi, 4, none⟩) (hK.block bi hH.clu.cl.hp.lt (fun e => hxn bi e (Or.inl rfl)))]
 exact c4

set_option maxHeartbeats 4000000 in
set_option maxRecDepth 100000 in
theorem endEarly_any (base bi : Nat) (nodes jobs wall last now : Int) (vr vl vh : Value) (L : List Job) (E : List Ev) (w : World) (h : Clu base bi nodes jobs wall last now vr vl vh L E w) (hbase : base ≤ w.heap.size) (hG : Good nodes jobs wall last now L) (i : Nat) (j : Job) (hj : L[i]? = some j) (hl : j.live = true) (ph : Int) (hp1 : ph ≠ 1) (hp2 : ph ≠ 2) :
  Calls Tryz.prog 96 #[.pointer (some ⟨bi, 0, none⟩), .int .i64 ((i : Int) + 1), .int .i64 ph] w fun e w' => ∃ x M es, e = .returned x ∧ Rounds nodes now (L.set i (j.early now ph)) es M ∧ CluLeft base bi nodes jobs wall last now vr vl vh (M.map (Job.go now)) (es ++ startE M now M.length) x w w' := by
 obtain ⟨i0, hi, hz0, hz1, hz2⟩ := info_parts Tryz.infoEvP
 have HN := Lib.hid (endNow_any base bi nodes jobs wall last now vr vl vh L E w h i j hj hl ph hp1 hp2)
 have hce := calm_early hG hj hl (ph := ph) ⟨hp1, hp2⟩
 have hoe := offs_early hG hj (ph := ph) hp1
 have n0 := hG.now0
 have n1 := hG.now1
 have hlen : (L.set i (j.early now ph)).length ≤ 1000000000 := by rw [List.length_set]; exact h.cl.len
 have HCF := Lib.hid hG.conf
 have HCE := Lib.hid hce
 have HOE := Lib.hid hoe
 clear h hce hoe hj hl hG
 go_enter Tryz.func96, Tryz.ntmps96
 go_wp2_with (go_at_call 129; refine HN.out.mono ?_; rintro e w1 ⟨rfl, vl1, vh1, E1, hC1, hT1⟩; refine Hid.out ?_)
 refine Lib.hid ?_
 have c4 := hC1.cl.cell 4
 simp at c4
 have hlt1 := hC1.cl.hp.lt
 have hs1 := hT1.kept.size
 have hM := moveUp_any base bi nodes jobs wall last now vr vl1 vh1 _ E1 w1.drew ⟨hC1.cl.on (fun _ _ => rfl), hC1.due, hC1.heap, hC1.few⟩ (by show base ≤ w1.heap.size; omega) HCE.out HCF.out n0 n1 HOE.out
 have HM := Lib.hid hM
 have HT1 := Lib.hid hT1
 have HC1 := Lib.hid hC1
 clear hM hT1 hC1 HN
 go_wp2
 go_region_held3 (fun w' => w'.cell? ⟨bi, 4, none⟩ = some (.int .i64 now)) (go_keep) (first | (go_at_call 130; refine HM.out.mono ?_; rintro e w2 ⟨x, M, es, vh2, E2, rfl, hrd, hU⟩; have k4 := hU.clu.cl.cell 4; simp at k4; have hs2 := hU.trail.kept.size; have hb2 : base ≤ w2.heap.size := Nat.le_trans hbase (Nat.le_trans hs1 hs2); have HH := Lib.hid (happen_any base bi now nodes jobs wall last now vr vl1 vh2 M E2 w2 hU.clu hb2); obtain ⟨px, cx, hx⟩ := own_slice hU.own; subst hx; have HRD := Lib.hid hrd; have HU := Lib.hid hU; clear hrd hU) | (go_at_call 94; refine HH.out.mono ?_; rintro e w3 ⟨x2, M2, es2, E3, vl3, vh3, rfl, hrun, hHap⟩; have l4 := hHap.clu.cl.cell 4; simp at l4; obtain ⟨py, cy, hy⟩ := own_slice hHap.own; subst hy; have HRN := Lib.hid hrun; have HAP := Lib.hid hHap; have AF := Lib.hid (early_app HRD.out HRN.out HCE.out n0 HOE.out hlen HU.out HAP.out); clear hrun hHap) | (refine step_append_two rfl _ _ 32 rfl w1.heap.size 55 i0 (.agg #[.int .i64 0, .int .i64 0, .int .i64 0, .int .i64 0]) 4 32 Tryz.underlying32 hi hz0 hz1 hz2 rfl (by decide) _ es.length (gfl Ev.four es) rfl AF.out.1 w2.heap.size _ es2.length (gfl Ev.four es2) rfl HAP.out.own (four_one es2) AF.out.2.1 AF.out.2.2.1 AF.out.2.2.2.1 ?_; intro pz cz w4 hz4 hK4 hat4; have HZ4 := Lib.hid hz4; have HK4 := Lib.hid hK4; have HAT := Lib.hid hat4; have l5 := AF.out.2.2.2.2 w4 hK4; clear hz4 hK4 hat4))
 all_goals
  have hcM := (good_rounds HCE.out n0 HRD.out).1
  obtain ⟨e1, e2⟩ := runs_now (fun a ha hp => (hcM.phased a ha).1 hp) (fun a ha hp => ((hcM.phased a ha).2 hp).2) hcM.sane HRN.out
  have hgf : gfl Ev.four (es ++ es2) = gfl Ev.four es ++ gfl Ev.four es2 := by simp [gfl]
  have hz5 : w4.ownsRow w1.heap.size 55 4 (.slice pz (es.length + es2.length) cz) (es ++ es2).length (gfl Ev.four (es ++ es2)) := by
   rw [List.length_append, hgf]
   exact HZ4.out
  have hF := early_end (HT1.out.below (Below.refl _ w1).drew) HU.out HAP.out hz5 HK4.out HAT.out
  clear hgf hz5
  rw [e1, e2] at hF
  have HF := Lib.hid hF
  have HE1 := Lib.hid e1
  clear hF e1 e2 hcM
  go_wp2
  go_ret
  exact ⟨_, M, es, rfl, HRD.out, by rw [HE1.out]; exact HF.out⟩

end Go.Proofs.YtpcgnadfldimhaaGreatDoor
