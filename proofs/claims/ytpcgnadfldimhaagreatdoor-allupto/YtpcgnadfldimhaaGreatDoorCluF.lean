/-
 The program's cluster: the plan of what the live jobs but one have reserved.
-/
import Derived.Test.YtpcgnadfldimhaaGreatDoorClusE
namespace Go.Proofs.YtpcgnadfldimhaaGreatDoor
open Go.RowKit

theorem Tryz.infoRes : (Tryz.prog.info? 222).map (fun i => (i.zero, i.size, i.bytes)) = some (some (.agg #[.int .i64 0, .int .i64 0, .int .i64 0]), 3, 24) := by kernel_rfl

/-- While the plan is made: its block pb holds the slice v of the reservations T. -/
structure Pln (B pb : Nat) (nodes : Int) (v : Value) (T : List Res) (w : World) : Prop where
 blk : w.heap[pb]? = some (.cells #[.int .i64 nodes, v] 165 (0, 0))
 own : w.ownsRow B 222 3 v T.length (gfl Res.cells T)
theorem Pln.below {B pb : Nat} {nodes : Int} {v : Value} {T : List Res} {w w' : World} (h : Pln B pb nodes v T w) (hb : Below w.heap.size w w') : Pln B pb nodes v T w' :=
 ⟨(hb.block pb (Array.getElem?_eq_some_iff.1 h.blk).1).trans h.blk, owns_on h.own (fun k e => hb.block k (h.own.lt k e).2)⟩
theorem Pln.push {B pb g cap : Nat} {nodes : Int} {v : Value} {T : List Res} {r : Res} {w w1 w4 : World} (h : Pln B pb nodes v T w) (h1 : Below w.heap.size w w1) (own : w4.ownsRow B 222 3 (.slice (some ⟨g, 0, none⟩) (T.length + 1) cap) (T.length + 1) (gfl Res.cells T ++ r.cells)) (grow : w1.grownBy w4 v.ownBlock) :
  w4.heap[pb]? = some (.cells #[.int .i64 nodes, v] 165 (0, 0)) ∧ Pln B pb nodes (.slice (some ⟨g, 0, none⟩) (T.length + 1) cap) (T ++ [r]) (w4.setCell ⟨pb, 1, none⟩ (.slice (some ⟨g, 0, none⟩) (T.length + 1) cap)) ∧ Kept (fun k => k = pb ∨ v.ownBlock = some k) w (w4.setCell ⟨pb, 1, none⟩ (.slice (some ⟨g, 0, none⟩) (T.length + 1) cap)) := by
 have hlt := (Array.getElem?_eq_some_iff.1 h.blk).1
 have hb : w4.heap[pb]? = some (.cells #[.int .i64 nodes, v] 165 (0, 0)) := (grow.block pb (Nat.lt_of_lt_of_le hlt h1.size) (fun e => owns_not h.own h.blk (by decide) e.symm)).trans ((h1.block pb hlt).trans h.blk)
 have ho : w4.ownsRow B 222 3 (.slice (some ⟨g, 0, none⟩) (T.length + 1) cap) (T ++ [r]).length (gfl Res.cells (T ++ [r])) := by
  rw [gfl_append, List.length_append, List.length_singleton]
  simpa [gfl] using own
 refine ⟨hb, ⟨heap_setCell_same w4 pb 1 _ _ _ hb, ownsRow_setCell_other ho (owns_not ho hb (by decide)) _⟩, ?_⟩
 exact ((Kept.of_below (S := fun k => k = pb ∨ v.ownBlock = some k) h1).grown grow (fun i e => Or.inl (Or.inr e))).setCell (p := ⟨pb, 1, none⟩) (Or.inl (Or.inl rfl)) _

set_option maxHeartbeats 8000000 in
set_option maxRecDepth 100000 in
theorem plan_any (base bi : Nat) (nodes jobs wall last now : Int) (vr vl vh : Value) (L : List Job) (E : List Ev) (w : World) (h : Cl base bi nodes jobs wall last now vr vl vh L (seats L) E w) (but : Int) :
  Calls Tryz.prog 91 #[.pointer (some ⟨bi, 0, none⟩), .int .i64 (but + 1)] w fun e w' => ∃ p cap, e = .returned (.agg #[.int .i64 nodes, .slice p (resN L but L.length).length cap]) ∧ Laid Res.cells 3 w' p (resN L but L.length) ∧ Below w.heap.size w w' := by
 obtain ⟨i0, hi, hz0, hz1, hz2⟩ := info_parts Tryz.infoRes
 have c0 := h.cell 0
 have c6 := h.cell 6
 simp at c0 c6
 have hlt := h.hp.lt
 have hfew := h.few
 obtain ⟨pl, cl, rfl⟩ := own_slice h.liv
 have H := Lib.hid h
 clear h
 have hbS : Below w.heap.size w ((w.alloc (.cells #[.int .i64 0, .slice none 0 0] 165)).alloc (.cells #[.int .i64 nodes, .slice none 0 0] 165)) := ((Below.refl _ _).alloc (Nat.le_refl _) _).alloc (by simp) _
 have HbS := Lib.hid hbS
 clear hbS
 go_enter Tryz.func91, Tryz.ntmps91
 go_wp2
 go_loopw [20] (fun iv wr => ∃ (m : Nat) (v : Value), m ≤ (seats L).length ∧ iv = .int .i64 m ∧ Pln w.heap.size (w.heap.size + 1) nodes v (resS L but ((seats L).take m)) wr ∧ Below w.heap.size w wr ∧ wr.heap[w.heap.size]? = some (.cells #[.int .i64 0, .slice none 0 0] 165 (0, 0))) (fun iv _ => (seats L).length - (intOf iv).toNat)
 case atStart => exact ⟨0, .slice none 0 0, Nat.zero_le _, rfl, ⟨alloc_at _ _ _ (by simp), World.ownsRow_nil _ _ _ _⟩, HbS.out, (Below.heap_alloc (w.alloc _) _ _ (by simp)).trans (heap_alloc_new w _)⟩
 case round =>
  obtain ⟨m, v, hm, rfl, hP, hbr, hq⟩ := hrel
  have hC := H.out.below hbr
  have hsr := hbr.size
  have hplt := (Array.getElem?_eq_some_iff.1 hP.blk).1
  have hqlt := (Array.getElem?_eq_some_iff.1 hq).1
  obtain ⟨pv, cv, rfl⟩ := own_slice hP.own
  have p0 := cell_of_row _ _ 0 _ _ (0, 0) hP.blk
  have p1 := cell_of_row _ _ 1 _ _ (0, 0) hP.blk
  have pf := fun t => frozen_of_row _ _ t _ _ hP.blk
  simp at p0 p1
  have hrl := resS_len L but ((seats L).take m)
  rw [List.length_take, Nat.min_eq_left hm] at hrl
  by_cases hml : m < (seats L).length
  ·obtain ⟨s, hs⟩ : ∃ s, (seats L)[m]? = some s := ⟨_, List.getElem?_eq_getElem hml⟩
   obtain ⟨i, j, hj, hlv, rfl⟩ := seats_at L m s hs
   obtain ⟨b, hb, hrow⟩ := owns_laid seatC_len hC.liv rfl m _ hs
   subst hb
   have HS := Lib.hid (resS_step L but (seats L) m i j hs hj)
   obtain ⟨gr, cr, rfl, r0, r1, r2, rf, hgr⟩ := hC.recs i j hj
   have hii := (List.getElem?_eq_some_iff.1 hj).1
   obtain ⟨wd, wl, ph, st, en⟩ := j
   simp only at r0 r1 r2
   have hB1 : Below wr.heap.size wr (wr.alloc (.cells #[.int .i64 ((i : Int) + 1), .int .i64 wd] 187)) := (Below.refl _ _).alloc (Nat.le_refl _) _
   have hR := recordOf_any base bi gr cr nodes jobs wall last now _ vh L (seats L) E _ (hC.below hB1) i hii
   have HP := Lib.hid hP
   have HB := Lib.hid hbr
   have HQ := Lib.hid hq
   have HP1 := Lib.hid (hP.below hB1)
   have hlen := hC.len
   clear hP hbr hq hC hj hs hB1
   by_cases hib : (i : Int) = but
   ·subst hib
    go_wp2_with (refine wpList_load_mid rfl 187 _ rfl b (m * 2) rfl [.int .i64 ((i : Int) + 1), .int .i64 wd] _ hrow Tryz.underlying187 rfl (by kernel_rfl) ?_)
    go_roundw
    case rel => exact ⟨m + 1, _, by omega, by go_num, by rw [HS.out, if_pos rfl]; exact HP1.out, HB.out.alloc HB.out.size _, (Below.heap_alloc _ _ _ hqlt).trans HQ.out⟩
    case measure => simp [intOf]; omega
   ·have hne : ¬ (i : Int) + 1 = but + 1 := by omega
    go_wp2_with (first | (refine wpList_load_mid rfl 187 _ rfl b (m * 2) rfl [.int .i64 ((i : Int) + 1), .int .i64 wd] _ hrow Tryz.underlying187 rfl (by kernel_rfl) ?_) | (go_at_call 98; refine hR.mono ?_; rintro e w1 ⟨rfl, hw⟩; subst w1))
    have s1 : (wr.alloc (.cells #[.int .i64 ((i : Int) + 1), .int .i64 wd] 187)).cell? ⟨wr.heap.size, 1, none⟩ = some (.int .i64 wd) := by simp
    have q1 := cellUp p1 (.cells #[.int .i64 ((i : Int) + 1), .int .i64 wd] 187)
    have r1' := cellUp r1 (.cells #[.int .i64 ((i : Int) + 1), .int .i64 wd] 187)
    have r2' := cellUp r2 (.cells #[.int .i64 ((i : Int) + 1), .int .i64 wd] 187)
    have hszW : wr.heap.size + 1 ≤ (wr.alloc (.cells #[.int .i64 ((i : Int) + 1), .int .i64 wd] 187)).heap.size := by simp
    have HBW := Lib.hid (HB.out.alloc HB.out.size (.cells #[.int .i64 ((i : Int) + 1), .int .i64 wd] 187))
    have HQW := Lib.hid ((Below.heap_alloc wr (.cells #[.int .i64 ((i : Int) + 1), .int .i64 wd] 187) _ hqlt).trans HQ.out)
    generalize wr.alloc (.cells #[.int .i64 ((i : Int) + 1), .int .i64 wd] 187) = W at *
    have n1 : wr.heap.size < W.heap.size := by omega
    have n2 : gr < W.heap.size := by omega
    have n3 : w.heap.size + 1 < W.heap.size := by omega
    clear p0 p1 r0 r1 r2 rf hR hrow HP HB HQ
    go_region_law (refine step_append_lies _ rfl _ _ 163 rfl w.heap.size 222 i0 (.agg #[.int .i64 0, .int .i64 0, .int .i64 0]) 3 24 Tryz.underlying163 hi hz0 hz1 hz2 rfl (by decide) (.slice pv (resS L but ((seats L).take m)).length cv) (resS L but ((seats L).take m)).length _ rfl (HP1.out.own.alloc _) ⟨W.heap.size, 0, none⟩ 1 1 [.int .i64 wd, .int .i64 st, .int .i64 en] rfl rfl (news_at W #[.int .i64 wd, .int .i64 st, .int .i64 en] _ _ rfl) (by intro u' hu'; simp at hu'; rcases hu' with rfl | rfl | rfl <;> rfl) (by decide) (by unfold maxLen; omega) (by omega) (by simp; omega) _ rfl ?_; intro g cap w4 own grow hat lt; obtain ⟨hb4, hp4, hB4⟩ := HP1.out.push (r := ⟨wd, st, en⟩) (((Below.refl _ _).alloc (Nat.le_refl _) _).drew) own grow; have d1 := cell_of_row _ _ 1 _ _ (0, 0) hb4; have df := frozen_of_row _ _ 1 _ _ hb4; simp at d1; have HP4 := Lib.hid hp4; have HB4 := Lib.hid hB4; clear hb4 hp4 hB4 own grow hat)
    all_goals
     go_wp2
     go_roundw
     case rel =>
      refine ⟨m + 1, .slice (some ⟨g, 0, none⟩) ((resS L but ((seats L).take m)).length + 1) cap, by omega, by go_num, ?_, HBW.out.trans (HB4.out.below (by omega) (fun k e => by rcases e with e | e; omega; exact (HP1.out.own.lt k e).1)), (HB4.out.block _ (by omega) (fun e => by rcases e with e | e; omega; exact owns_not HP1.out.own HQW.out (by decide) e)).trans HQW.out⟩
      rw [HS.out, if_neg hib]
      exact HP4.out
     case measure => simp [intOf]; omega
  ·obtain rfl : m = (seats L).length := by omega
   rw [List.take_length] at hP p1
   have hT : resS L but (seats L) = resN L but L.length := resS_seats L but L.length
   rw [hT] at hP p1
   have q0 := cell_of_row _ _ 0 _ _ (0, 0) hq
   have q1 := cell_of_row _ _ 1 _ _ (0, 0) hq
   have qf := fun t => frozen_of_row _ _ t _ _ hq
   simp at q0 q1
   have HP := Lib.hid hP
   have HB := Lib.hid hbr
   have HQ := Lib.hid hq
   clear hP hbr hq hC
   go_wp2
   have hbe := (HB.out.setCell (p := ⟨w.heap.size, 0, none⟩) (Nat.le_refl _) (.int .i64 nodes)).setCell (p := ⟨w.heap.size, 1, none⟩) (Nat.le_refl _) (.slice pv (resN L but L.length).length cv)
   have hb2 := heap_setCell_same _ _ 1 _ _ (.slice pv (resN L but L.length).length cv) (heap_setCell_same wr w.heap.size 0 _ _ (.int .i64 nodes) HQ.out)
   have hK2 := ((Kept.refl (fun k => k = w.heap.size) wr).setCell (p := ⟨w.heap.size, 0, none⟩) (Or.inl rfl) (.int .i64 nodes)).setCell (p := ⟨w.heap.size, 1, none⟩) (Or.inl rfl) (.slice pv (resN L but L.length).length cv)
   have hown2 := owns_on (w' := (wr.setCell ⟨w.heap.size, 0, none⟩ (.int .i64 nodes)).setCell ⟨w.heap.size, 1, none⟩ (.slice pv (resN L but L.length).length cv)) HP.out.own (fun k e => hK2.block k (HP.out.own.lt k e).2 (fun e2 => owns_not HP.out.own HQ.out (by decide) (e2 ▸ e)))
   refine bodyPost_ret (v := .agg #[.int .i64 nodes, .slice pv (resN L but L.length).length cv]) (results_cell_row Tryz.results91 _ _ w.heap.size _ _ _ _ rfl hb2 Tryz.underlying165 rfl (by kernel_rfl)) rfl ?_
   exact ⟨pv, cv, rfl, owns_laid Res.cells_len hown2 rfl, hbe⟩

end Go.Proofs.YtpcgnadfldimhaaGreatDoor
namespace Go.Proofs.YtpcgnadfldimhaaGreatDoor
open Go.RowKit

theorem Tryz.infoRec : (Tryz.prog.info? 185).map (fun i => (i.zero, i.size, i.bytes)) = some (some (.agg #[.int .i64 0, .int .i64 0, .int .i64 0]), 3, 24) := by kernel_rfl
theorem Tryz.infoSeat : (Tryz.prog.info? 187).map (fun i => (i.zero, i.size, i.bytes)) = some (some (.agg #[.int .i64 0, .int .i64 0]), 2, 16) := by kernel_rfl

theorem Cl.blocks {base bi : Nat} {nodes jobs wall last now : Int} {vr vl vh : Value} {R : List Job} {S : List (Int × Int)} {E : List Ev} {w : World} (h : Cl base bi nodes jobs wall last now vr vl vh R S E w) : (∀ k, vr.ownBlock = some k → k ≠ bi ∧ vl.ownBlock ≠ some k ∧ vh.ownBlock ≠ some k) ∧ (∀ k, vl.ownBlock = some k → k ≠ bi ∧ vr.ownBlock ≠ some k ∧ vh.ownBlock ≠ some k) ∧ (∀ k, vh.ownBlock = some k → k ≠ bi ∧ vr.ownBlock ≠ some k ∧ vl.ownBlock ≠ some k) :=
 ⟨fun k e => ⟨fun e2 => owns_not h.rcd h.hp.blk (by decide) (e2 ▸ e), owns_apart h.rcd h.liv (by decide) k e, owns_apart h.rcd h.hp.row (by decide) k e⟩,
  fun k e => ⟨fun e2 => owns_not h.liv h.hp.blk (by decide) (e2 ▸ e), owns_apart h.liv h.rcd (by decide) k e, owns_apart h.liv h.hp.row (by decide) k e⟩,
  fun k e => ⟨fun e2 => h.hp.apart (e2 ▸ e), owns_apart (e1 := 55) h.hp.row h.rcd (by decide) k e, owns_apart (e1 := 55) h.hp.row h.liv (by decide) k e⟩⟩

/-- A record more: behind the append, and the store of the new slice. -/
theorem Cl.pushR {base bi g cap : Nat} {nodes jobs wall last now : Int} {vr vl vh : Value} {R : List Job} {S : List (Int × Int)} {E : List Ev} {j : Job} {w w1 w4 : World} (h : Cl base bi nodes jobs wall last now vr vl vh R S E w) (hl : R.length < 1000000000) (h1 : Below w.heap.size w w1) (own : w4.ownsRow base 185 3 (.slice (some ⟨g, 0, none⟩) (R.length + 1) cap) (R.length + 1) (gfl Job.three R ++ j.three)) (grow : w1.grownBy w4 vr.ownBlock) (hat : vr.ownBlock = some g ∨ w.heap.size ≤ g) :
  w4.heap[bi]? = some (.cells #[.int .i64 nodes, .int .i64 jobs, .int .i64 wall, .int .i64 last, .int .i64 now, vr, vl, vh] 174 (0, 0)) ∧ Cl base bi nodes jobs wall last now (.slice (some ⟨g, 0, none⟩) (R.length + 1) cap) vl vh (R ++ [j]) S E (w4.setCell ⟨bi, 5, none⟩ (.slice (some ⟨g, 0, none⟩) (R.length + 1) cap)) ∧ Trail bi vr vl vh (.slice (some ⟨g, 0, none⟩) (R.length + 1) cap) vl vh w (w4.setCell ⟨bi, 5, none⟩ (.slice (some ⟨g, 0, none⟩) (R.length + 1) cap)) := by
 obtain ⟨nr, nl, nh⟩ := h.blocks
 have hK : ∀ k, k < w.heap.size → vr.ownBlock ≠ some k → w4.heap[k]? = w.heap[k]? := fun k hk hn => (grow.block k (Nat.lt_of_lt_of_le hk h1.size) (fun e => hn e.symm)).trans (h1.block k hk)
 have hb := (hK bi h.hp.lt (fun e => (nr bi e).1 rfl)).trans h.hp.blk
 have ho : w4.ownsRow base 185 3 (.slice (some ⟨g, 0, none⟩) (R.length + 1) cap) (R ++ [j]).length (gfl Job.three (R ++ [j])) := by
  rw [gfl_append, List.length_append, List.length_singleton]
  simpa [gfl] using own
 refine ⟨hb, ⟨⟨heap_setCell_same w4 bi 5 _ _ _ hb, ?_, h.hp.len⟩, ownsRow_setCell_other ho (owns_not ho hb (by decide)) _, ?_, by simp; omega, h.few⟩, ⟨((Kept.of_below (S := clB bi vr vl vh) h1).grown grow (fun i e => Or.inl (Or.inr (Or.inl e)))).setCell (p := ⟨bi, 5, none⟩) (Or.inl (Or.inl rfl)) _, fun k e => ?_⟩⟩
 ·exact h.hp.row.on (fun k e => (Below.heap_setCell _ _ _ k (nh k e).1).trans (hK k (World.ownsRow.lt h.hp.row k e).2 (nh k e).2.1))
 ·exact owns_on h.liv (fun k e => (Below.heap_setCell _ _ _ k (nl k e).1).trans (hK k (h.liv.lt k e).2 (nl k e).2.1))
 ·rcases e with e | e | e | e
  ·exact Or.inl (Or.inl e)
  ·simp [Value.ownBlock] at e
   subst e
   exact hat.imp (fun e => Or.inr (Or.inl e)) id
  ·exact Or.inl (Or.inr (Or.inr (Or.inl e)))
  ·exact Or.inl (Or.inr (Or.inr (Or.inr e)))
/-- A seat more. -/
theorem Cl.pushS {base bi g cap : Nat} {nodes jobs wall last now : Int} {vr vl vh : Value} {R : List Job} {S : List (Int × Int)} {E : List Ev} {s : Int × Int} {w w1 w4 : World} (h : Cl base bi nodes jobs wall last now vr vl vh R S E w) (hl : S.length < 1000000000) (h1 : Below w.heap.size w w1) (own : w4.ownsRow base 187 2 (.slice (some ⟨g, 0, none⟩) (S.length + 1) cap) (S.length + 1) (gfl seatC S ++ seatC s)) (grow : w1.grownBy w4 vl.ownBlock) (hat : vl.ownBlock = some g ∨ w.heap.size ≤ g) :
  w4.heap[bi]? = some (.cells #[.int .i64 nodes, .int .i64 jobs, .int .i64 wall, .int .i64 last, .int .i64 now, vr, vl, vh] 174 (0, 0)) ∧ Cl base bi nodes jobs wall last now vr (.slice (some ⟨g, 0, none⟩) (S.length + 1) cap) vh R (S ++ [s]) E (w4.setCell ⟨bi, 6, none⟩ (.slice (some ⟨g, 0, none⟩) (S.length + 1) cap)) ∧ Trail bi vr vl vh vr (.slice (some ⟨g, 0, none⟩) (S.length + 1) cap) vh w (w4.setCell ⟨bi, 6, none⟩ (.slice (some ⟨g, 0, none⟩) (S.length + 1) cap)) := by
 obtain ⟨nr, nl, nh⟩ := h.blocks
 have hK : ∀ k, k < w.heap.size → vl.ownBlock ≠ some k → w4.heap[k]? = w.heap[k]? := fun k hk hn => (grow.block k (Nat.lt_of_lt_of_le hk h1.size) (fun e => hn e.symm)).trans (h1.block k hk)
 have hb := (hK bi h.hp.lt (fun e => (nl bi e).1 rfl)).trans h.hp.blk
 have ho : w4.ownsRow base 187 2 (.slice (some ⟨g, 0, none⟩) (S.length + 1) cap) (S ++ [s]).length (gfl seatC (S ++ [s])) := by
  rw [gfl_append, List.length_append, List.length_singleton]
  simpa [gfl] using own
 refine ⟨hb, ⟨⟨heap_setCell_same w4 bi 6 _ _ _ hb, ?_, h.hp.len⟩, ?_, ownsRow_setCell_other ho (owns_not ho hb (by decide)) _, h.len, by simp; omega⟩, ⟨((Kept.of_below (S := clB bi vr vl vh) h1).grown grow (fun i e => Or.inl (Or.inr (Or.inr (Or.inl e))))).setCell (p := ⟨bi, 6, none⟩) (Or.inl (Or.inl rfl)) _, fun k e => ?_⟩⟩
 ·exact h.hp.row.on (fun k e => (Below.heap_setCell _ _ _ k (nh k e).1).trans (hK k (World.ownsRow.lt h.hp.row k e).2 (nh k e).2.2))
 ·exact owns_on h.rcd (fun k e => (Below.heap_setCell _ _ _ k (nr k e).1).trans (hK k (h.rcd.lt k e).2 (nr k e).2.1))
 ·rcases e with e | e | e | e
  ·exact Or.inl (Or.inl e)
  ·exact Or.inl (Or.inr (Or.inl e))
  ·simp [Value.ownBlock] at e
   subst e
   exact hat.imp (fun e => Or.inr (Or.inr (Or.inl e))) id
  ·exact Or.inl (Or.inr (Or.inr (Or.inr e)))

set_option maxHeartbeats 8000000 in
set_option maxRecDepth 100000 in
theorem add_any (base bi : Nat) (nodes jobs wall last now : Int) (vr vl vh : Value) (R : List Job) (S : List (Int × Int)) (E : List Ev) (w : World) (h : Cl base bi nodes jobs wall last now vr vl vh R S E w) (hbase : base ≤ w.heap.size) (hR : R.length < 1000000000) (hS : S.length < 1000000000) (hE : E.length < 1000000000) (hok : ∀ e ∈ E, e.ok) (hF : HeapF (evAt E) E.length) (width wl st en : Int) :
  Calls Tryz.prog 93 #[.pointer (some ⟨bi, 0, none⟩), .int .i64 width, .int .i64 st, .int .i64 en] w fun e w' => e = .returned (.int .i64 ((R.length : Int) + 1)) ∧ ∃ vr' vl' vh' F, F.Perm (E ++ [⟨1, (R.length : Int) + 1, st, 0⟩]) ∧ HeapF (evAt F) F.length ∧ Cl base bi nodes jobs wall last now vr' vl' vh' (R ++ [⟨width, wl, 1, st, en⟩]) (S ++ [((R.length : Int) + 1, width)]) F w' ∧ Trail bi vr vl vh vr' vl' vh' w w' := by
 obtain ⟨i0, hi, hz0, hz1, hz2⟩ := info_parts Tryz.infoRec
 obtain ⟨i1, hj, hy0, hy1, hy2⟩ := info_parts Tryz.infoSeat
 have c5 := h.cell 5
 simp at c5
 have hlt := h.hp.lt
 obtain ⟨pr, cr, rfl⟩ := own_slice h.rcd
 obtain ⟨pl, cl, rfl⟩ := own_slice h.liv
 have H := Lib.hid h
 clear h
 go_enter Tryz.func93, Tryz.ntmps93
 go_wp2_with (at_builtin; refine wpList_append_lies _ rfl _ _ 168 rfl base 185 i0 (.agg #[.int .i64 0, .int .i64 0, .int .i64 0]) 3 24 Tryz.underlying168 hi hz0 hz1 hz2 rfl (by decide) _ _ _ rfl (H.out.rcd.alloc _) ⟨w.heap.size, 0, none⟩ 1 1 [.int .i64 1, .int .i64 st, .int .i64 en] rfl rfl (news_at _ #[.int .i64 1, .int .i64 st, .int .i64 en] _ _ rfl) (by intro u' hu'; simp at hu'; rcases hu' with rfl | rfl | rfl <;> rfl) (by decide) (by unfold maxLen; omega) (by omega) (by simp; omega) _ rfl ?_)
 intro gr cr2 w4 own grow hat lt4
 obtain ⟨hb4, hC4, hT4⟩ := H.out.pushR (j := ⟨width, wl, 1, st, en⟩) hR ((Below.refl _ _).alloc (Nat.le_refl _) _) own grow (hat.imp id (fun e => by rw [e]; simp))
 have d5 := cell_of_row _ _ 5 _ _ (0, 0) hb4
 have f5 := frozen_of_row _ _ 5 _ _ hb4
 have d6 := cell_of_row _ _ 6 _ _ (0, 0) hb4
 simp at d5 d6
 have hlt4 : bi < w4.heap.size := (Array.getElem?_eq_some_iff.1 hb4).1
 have hs4 := hT4.kept.size
 simp at hs4
 have HC4 := Lib.hid hC4
 have HT4 := Lib.hid hT4
 clear hb4 hC4 hT4 own grow hat c5
 go_wp2_with (at_builtin; refine wpList_append_lies _ rfl _ _ 169 rfl base 187 i1 (.agg #[.int .i64 0, .int .i64 0]) 2 16 Tryz.underlying169 hj hy0 hy1 hy2 rfl (by decide) _ _ _ rfl (HC4.out.liv.alloc _) ⟨w4.heap.size, 0, none⟩ 1 1 [.int .i64 ((R.length : Int) + 1), .int .i64 width] rfl rfl (news_at _ #[.int .i64 ((R.length : Int) + 1), .int .i64 width] _ _ (by simp)) (by intro u' hu'; simp at hu'; rcases hu' with rfl | rfl <;> rfl) (by decide) (by unfold maxLen; omega) (by omega) (by simp; omega) _ rfl ?_)
 intro gl cl2 w6 own grow hat lt6
 obtain ⟨hb6, hC6, hT6⟩ := HC4.out.pushS (s := ((R.length : Int) + 1, width)) hS ((Below.refl _ _).alloc (Nat.le_refl _) _) own grow (hat.imp id (fun e => by rw [e]; simp))
 have e6 := cell_of_row _ _ 6 _ _ (0, 0) hb6
 have f6 := frozen_of_row _ _ 6 _ _ hb6
 simp at e6
 have hlt6 : bi < w6.heap.size := (Array.getElem?_eq_some_iff.1 hb6).1
 have hs6 := hT6.kept.size
 simp at hs6
 have hA := add_ev base bi _ _ _ _ _ _ _ vh E _ hC6.hp (by simp; omega) hE hok hF ⟨1, (R.length : Int) + 1, st, 0⟩ (Or.inl rfl)
 have HC6 := Lib.hid hC6
 have HT6 := Lib.hid hT6
 have HA := Lib.hid hA
 clear hb6 hC6 hT6 own grow hat hA d5 f5 d6
 go_wp2_with (go_at_call 124; refine HA.out.mono ?_; rintro r w8 ⟨rfl, g8, cap8, F, hp, hh, hH8, hk8, hat8⟩; refine Hid.out ?_)
 refine Lib.hid ?_
 obtain ⟨hC8, hT8⟩ := HC6.out.heap hH8 hk8 hat8
 have hFl : F.length = E.length + 1 := by rw [hp.length_eq]; simp
 have HC8 := Lib.hid hC8
 have HT8 := Lib.hid hT8
 clear hC8 hT8 hH8 hk8 hat8
 go_wp2
 go_ret
 exact ⟨by simp, _, _, _, F, hp, by rw [hFl]; exact hh, HC8.out, (HT4.out.trans HT6.out).trans HT8.out⟩

end Go.Proofs.YtpcgnadfldimhaaGreatDoor
