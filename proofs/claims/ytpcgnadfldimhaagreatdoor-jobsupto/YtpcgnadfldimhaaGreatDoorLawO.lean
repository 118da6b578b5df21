/-
  The law's own functions: lists that came out are written full by their owner.
-/
import Derived.Test.YtpcgnadfldimhaaGreatDoorLawAA
import Derived.Deep.RegionLaw
namespace Go.Proofs.YtpcgnadfldimhaaGreatDoor
open Go.RowKit

theorem lawB_R {wb : Nat} {rs es m0 m1 : Value} {g n c k H : Nat} (hat : rs.ownBlock = some g ∨ H ≤ g) (h : lawB wb (.slice (some ⟨g, 0, none⟩) n c) es m0 m1 k) : lawB wb rs es m0 m1 k ∨ H ≤ k := by
  rcases h with e | e | e | e | e
  · exact Or.inl (Or.inl e)
  · simp [Value.ownBlock] at e
    subst e
    exact hat.imp (fun e => Or.inr (Or.inl e)) id
  · exact Or.inl (Or.inr (Or.inr (Or.inl e)))
  · exact Or.inl (Or.inr (Or.inr (Or.inr (Or.inl e))))
  · exact Or.inl (Or.inr (Or.inr (Or.inr (Or.inr e))))
theorem lawB_E {wb : Nat} {rs es m0 m1 : Value} {g n c k H : Nat} (hat : es.ownBlock = some g ∨ H ≤ g) (h : lawB wb rs (.slice (some ⟨g, 0, none⟩) n c) m0 m1 k) : lawB wb rs es m0 m1 k ∨ H ≤ k := by
  rcases h with e | e | e | e | e
  · exact Or.inl (Or.inl e)
  · exact Or.inl (Or.inr (Or.inl e))
  · simp [Value.ownBlock] at e
    subst e
    exact hat.imp (fun e => Or.inr (Or.inr (Or.inl e))) id
  · exact Or.inl (Or.inr (Or.inr (Or.inr (Or.inl e))))
  · exact Or.inl (Or.inr (Or.inr (Or.inr (Or.inr e))))
theorem lawB_M {wb : Nat} {rs es m0 m1 : Value} {g n c k H : Nat} (hat : m0.ownBlock = some g ∨ H ≤ g) (h : lawB wb rs es (.slice (some ⟨g, 0, none⟩) n c) m1 k) : lawB wb rs es m0 m1 k ∨ H ≤ k := by
  rcases h with e | e | e | e | e
  · exact Or.inl (Or.inl e)
  · exact Or.inl (Or.inr (Or.inl e))
  · exact Or.inl (Or.inr (Or.inr (Or.inl e)))
  · simp [Value.ownBlock] at e
    subst e
    exact hat.imp (fun e => Or.inr (Or.inr (Or.inr (Or.inl e)))) id
  · exact Or.inl (Or.inr (Or.inr (Or.inr (Or.inr e))))
theorem lawB_N {wb : Nat} {rs es m0 m1 : Value} {g n c k H : Nat} (hat : m1.ownBlock = some g ∨ H ≤ g) (h : lawB wb rs es m0 (.slice (some ⟨g, 0, none⟩) n c) k) : lawB wb rs es m0 m1 k ∨ H ≤ k := by
  rcases h with e | e | e | e | e
  · exact Or.inl (Or.inl e)
  · exact Or.inl (Or.inr (Or.inl e))
  · exact Or.inl (Or.inr (Or.inr (Or.inl e)))
  · exact Or.inl (Or.inr (Or.inr (Or.inr (Or.inl e))))
  · simp [Value.ownBlock] at e
    subst e
    exact hat.imp (fun e => Or.inr (Or.inr (Or.inr (Or.inr e)))) id

theorem Grp.base {w0 w1 w : World} {l : Value} {m : Int} {vs : List Value} {lb : Nat → Prop} (h : Grp w1 w l m vs lb) (hs : w0.heap.size ≤ w1.heap.size) : Grp w0 w l m vs lb := fun v hv => ⟨(h v hv).1, fun k e => ⟨((h v hv).2 k e).1.imp id (fun e2 => by omega), ((h v hv).2 k e).2⟩⟩

/-- What own leaves. -/
def Owned (B wb : Nat) (cs rs es m0 m1 l kk : Value) (vr ve : List Value) (ir ie : List Int) (m : Int) (w w' : World) : Prop :=
  ∃ rs' es' m0' m1' a1 a2 a3 d1 d2 d3, LawM B wb cs rs' es' m0' m1' (vr ++ [l, a1, a2, a3]) (ve ++ [kk, d1, d2, d3]) (ir ++ [m, m, m, m]) (ie ++ [m, m, m, m]) w' ∧
    Grp w w' l m [a1, a2, a3] (lawB wb rs' es' m0' m1') ∧ Grp w w' kk m [d1, d2, d3] (lawB wb rs' es' m0' m1') ∧
    Kept (fun k => l.ownBlock = some k ∨ kk.ownBlock = some k ∨ lawB wb rs es m0 m1 k) w w' ∧ (∀ k, lawB wb rs' es' m0' m1' k → lawB wb rs es m0 m1 k ∨ w.heap.size ≤ k)

set_option maxHeartbeats 16000000 in
set_option maxRecDepth 100000 in
theorem own_any (B wb : Nat) (cs rs es m0 m1 l kk : Value) (vr ve : List Value) (ir ie : List Int) (nl nk bl bk : Nat) (xs ys : List Value) (w : World)
    (hL : LawM B wb cs rs es m0 m1 vr ve ir ie w) (hB : B ≤ w.heap.size)
    (hl : w.ownsRow bl 57 4 l nl xs) (hk : w.ownsRow bk 55 4 kk nk ys)
    (hir : ir.length ≤ 7000000000) (hie : ie.length ≤ 7000000000) (hvr : vr.length ≤ 7000000000) (hve : ve.length ≤ 7000000000) (hnl : nl ≤ 1000000000) (hnk : nk ≤ 1000000000000) (hbl0 : bl ≤ w.heap.size) (hbk0 : bk ≤ w.heap.size) :
    Calls Tryz.prog 46 #[.pointer (some ⟨wb, 0, none⟩), l, kk] w fun e w' => e = .returned (.tuple #[]) ∧ Owned B wb cs rs es m0 m1 l kk vr ve ir ie (-1 - (ir.length : Int)) w w' := by
  obtain ⟨i0, hi, hz0, hz1, hz2⟩ := info_parts Tryz.infoRow
  obtain ⟨j0, hj, hw0, hw1, hw2⟩ := info_parts Tryz.infoEv
  obtain ⟨pl, cl, rfl⟩ := own_slice hl
  obtain ⟨pk, ck, rfl⟩ := own_slice hk
  obtain ⟨iR, hiR, hR0, hR1, hR2⟩ := info_parts Tryz.infoRows
  obtain ⟨iE, hiE, hE0, hE1, hE2⟩ := info_parts Tryz.infoEvents
  obtain ⟨iI, hiI, hI0, hI1, hI2⟩ := info_parts Tryz.infoInt
  obtain ⟨pM, cM, rfl⟩ := own_slice hL.oM
  obtain ⟨pR, cR, rfl⟩ := own_slice hL.oR
  obtain ⟨pN, cN, rfl⟩ := own_slice hL.oN
  obtain ⟨pE, cE, rfl⟩ := own_slice hL.oE
  have c3 := cell_of_row _ _ 3 _ _ (0, 0) hL.W
  simp at c3
  have hwb : wb < w.heap.size := hL.lt wb (Or.inl rfl)
  have HAVr := Lib.hid (hL.avoid hl (by decide) (by decide) (by decide) (by decide))
  have HLr := Lib.hid hL
  clear hL
  obtain ⟨m, hm⟩ : ∃ m : Int, m = -1 - (ir.length : Int) := ⟨_, rfl⟩
  rw [← hm]
  go_enter Tryz.func46, Tryz.ntmps46
  go_wp2
  rw [← hm]
  have HM := Lib.hid hm
  clear hm
  have hx0r := hl.1
  have hPr : (w.alloc (.cells #[.int .i64 m, .int .i64 m, .int .i64 m, .int .i64 m] 57)).heap[w.heap.size]? = some (.cells #[.int .i64 m, .int .i64 m, .int .i64 m, .int .i64 m] 57 (0, 0)) := heap_alloc_new _ _
  have hlowr := fun b e => (hl.lt b e).2
  go_loopw [8] (fun iv wr => ∃ k : Nat, iv = .int .i64 k ∧ k ≤ nl ∧ wr.ownsRow bl 57 4 (.slice pl nl cl) nl (fill xs m k) ∧ wr.heap[w.heap.size]? = some (.cells #[.int .i64 m, .int .i64 m, .int .i64 m, .int .i64 m] 57 (0, 0)) ∧ Kept (fun k => (Value.slice pl nl cl).ownBlock = some k) w wr) (fun iv _ => nl - (intOf iv).toNat)
  case atStart => exact ⟨0, rfl, Nat.zero_le _, by rw [fill_zero]; exact hl.alloc _, hPr, (Kept.refl _ _).alloc _⟩
  case round =>
    obtain ⟨kr, rfl, hknr, hown, hp, hkp⟩ := hrel
    have p0 := cell_of_row _ _ 0 _ _ (0, 0) hp
    have p1 := cell_of_row _ _ 1 _ _ (0, 0) hp
    have p2 := cell_of_row _ _ 2 _ _ (0, 0) hp
    have p3 := cell_of_row _ _ 3 _ _ (0, 0) hp
    simp at p0 p1 p2 p3
    by_cases hlt : kr < nl
    · obtain ⟨g, rfl⟩ : ∃ g, pl = some ⟨g, 0, none⟩ := by
        rcases own_forms hown with ⟨_, hn⟩ | ⟨g, c2, e⟩
        · omega
        · exact ⟨g, by simpa using (Value.slice.inj e).1⟩
      have hgl : g < w.heap.size := hlowr g rfl
      have hfl := fill_len xs m nl kr hx0r (by omega)
      obtain ⟨u0, s0⟩ : ∃ u, wr.cell? ⟨g, kr * 4, none⟩ = some u := ⟨_, (hown.cellAt (kr * 4) (by omega)).trans (List.getElem?_eq_getElem (by omega))⟩
      obtain ⟨u1, s1⟩ : ∃ u, wr.cell? ⟨g, kr * 4 + 1, none⟩ = some u := ⟨_, (hown.cellAt (kr * 4 + 1) (by omega)).trans (List.getElem?_eq_getElem (by omega))⟩
      obtain ⟨u2, s2⟩ : ∃ u, wr.cell? ⟨g, kr * 4 + 2, none⟩ = some u := ⟨_, (hown.cellAt (kr * 4 + 2) (by omega)).trans (List.getElem?_eq_getElem (by omega))⟩
      obtain ⟨u3, s3⟩ : ∃ u, wr.cell? ⟨g, kr * 4 + 3, none⟩ = some u := ⟨_, (hown.cellAt (kr * 4 + 3) (by omega)).trans (List.getElem?_eq_getElem (by omega))⟩
      have sf := fun j => hown.frozenAt j
      have HO := Lib.hid (owns_put4 hx0r hlt hown)
      have HK := Lib.hid (hkp.put4 (g := g) (Or.inl rfl) kr m)
      have HP : Hid ((put4 wr g kr m).heap[w.heap.size]? = some (.cells #[.int .i64 m, .int .i64 m, .int .i64 m, .int .i64 m] 57 (0, 0))) := Lib.hid (((Kept.refl (fun k => k = g) wr).put4 (Or.inl rfl) kr m).block w.heap.size (by have := (Array.getElem?_eq_some_iff.1 hp).1; omega) (by omega) |>.trans hp)
      clear hown hkp hp
      go_wp2
      all_goals exact ⟨⟨kr + 1, by go_num, by omega, HO.out, HP.out, HK.out⟩, by simp [intOf]; omega⟩
    · obtain rfl : kr = nl := by omega
      rw [fill_all xs m kr hx0r] at hown
      have hblr : bl ≤ wr.heap.size := by have := hkp.size; omega
      have HH0r : Hid (Half bl w.heap.size w 57 (.slice pl kr cl) kr m [] wr) := Lib.hid ⟨hown, hp, hkp, by omega, Nat.le_refl _, hlowr, fun v hv => by simp at hv⟩
      clear hown hp hkp
      go_wp2_with (at_builtin; refine wpList_append_parts _ rfl _ _ 31 rfl bl 57 i0 (.agg #[.int .i64 0, .int .i64 0, .int .i64 0, .int .i64 0]) 4 32 Tryz.underlying31 hi hz0 hz1 hz2 rfl (by decide) _ _ _ rfl (HH0r.out.own.alloc _) ⟨wr.heap.size, 0, none⟩ 1 1 [.int .i64 m, .int .i64 m, .int .i64 m, .int .i64 m] rfl rfl (news_at _ #[.int .i64 m, .int .i64 m, .int .i64 m, .int .i64 m] _ _ (by simp)) (by intro u' hu'; simp at hu'; subst hu'; rfl) (by decide) (by unfold maxLen; omega) (by omega) (by simp; omega) _ rfl ?_)
      intro g1r c1r w1r own part
      have hH := HH0r.out.append (by simp) (.cells #[.int .i64 m, .int .i64 m, .int .i64 m, .int .i64 m] 57) rfl (by simpa using own) (by simpa using part)
      have hb1r : bl ≤ w1r.heap.size := by have := hH.kept.size; omega
      have HH1r := Lib.hid hH
      have e := hH.el
      have p0 := cell_of_row _ _ 0 _ _ (0, 0) e
      have p1 := cell_of_row _ _ 1 _ _ (0, 0) e
      have p2 := cell_of_row _ _ 2 _ _ (0, 0) e
      have p3 := cell_of_row _ _ 3 _ _ (0, 0) e
      simp at p0 p1 p2 p3
      clear own part hH e
      go_wp2_with (at_builtin; refine wpList_append_parts _ rfl _ _ 31 rfl bl 57 i0 (.agg #[.int .i64 0, .int .i64 0, .int .i64 0, .int .i64 0]) 4 32 Tryz.underlying31 hi hz0 hz1 hz2 rfl (by decide) _ _ _ rfl (HH1r.out.own.alloc _) ⟨w1r.heap.size, 0, none⟩ 2 2 [.int .i64 m, .int .i64 m, .int .i64 m, .int .i64 m, .int .i64 m, .int .i64 m, .int .i64 m, .int .i64 m] rfl rfl (news_at _ #[.int .i64 m, .int .i64 m, .int .i64 m, .int .i64 m, .int .i64 m, .int .i64 m, .int .i64 m, .int .i64 m] _ _ (by simp)) (by intro u' hu'; simp at hu'; subst hu'; rfl) (by decide) (by unfold maxLen; omega) (by omega) (by simp; omega) _ rfl ?_)
      intro g2r c2r w2r own part
      have hH := HH1r.out.append (by simp) (.cells #[.int .i64 m, .int .i64 m, .int .i64 m, .int .i64 m, .int .i64 m, .int .i64 m, .int .i64 m, .int .i64 m] 57) rfl (by simpa using own) (by simpa using part)
      have hb2r : bl ≤ w2r.heap.size := by have := hH.kept.size; omega
      have HH2r := Lib.hid hH
      have e := hH.el
      have p0 := cell_of_row _ _ 0 _ _ (0, 0) e
      have p1 := cell_of_row _ _ 1 _ _ (0, 0) e
      have p2 := cell_of_row _ _ 2 _ _ (0, 0) e
      have p3 := cell_of_row _ _ 3 _ _ (0, 0) e
      simp at p0 p1 p2 p3
      clear own part hH e
      go_wp2_with (at_builtin; refine wpList_append_parts _ rfl _ _ 31 rfl bl 57 i0 (.agg #[.int .i64 0, .int .i64 0, .int .i64 0, .int .i64 0]) 4 32 Tryz.underlying31 hi hz0 hz1 hz2 rfl (by decide) _ _ _ rfl (HH2r.out.own.alloc _) ⟨w2r.heap.size, 0, none⟩ 3 3 [.int .i64 m, .int .i64 m, .int .i64 m, .int .i64 m, .int .i64 m, .int .i64 m, .int .i64 m, .int .i64 m, .int .i64 m, .int .i64 m, .int .i64 m, .int .i64 m] rfl rfl (news_at _ #[.int .i64 m, .int .i64 m, .int .i64 m, .int .i64 m, .int .i64 m, .int .i64 m, .int .i64 m, .int .i64 m, .int .i64 m, .int .i64 m, .int .i64 m, .int .i64 m] _ _ (by simp)) (by intro u' hu'; simp at hu'; subst hu'; rfl) (by decide) (by unfold maxLen; omega) (by omega) (by simp; omega) _ rfl ?_)
      intro g3r c3r w3r own part
      have hH := HH2r.out.append (by simp) (.cells #[.int .i64 m, .int .i64 m, .int .i64 m, .int .i64 m, .int .i64 m, .int .i64 m, .int .i64 m, .int .i64 m, .int .i64 m, .int .i64 m, .int .i64 m, .int .i64 m] 57) rfl (by simpa using own) (by simpa using part)
      have hb3r : bl ≤ w3r.heap.size := by have := hH.kept.size; omega
      have HH3r := Lib.hid hH
      have e := hH.el
      have p0 := cell_of_row _ _ 0 _ _ (0, 0) e
      have p1 := cell_of_row _ _ 1 _ _ (0, 0) e
      have p2 := cell_of_row _ _ 2 _ _ (0, 0) e
      have p3 := cell_of_row _ _ 3 _ _ (0, 0) e
      simp at p0 p1 p2 p3
      clear own part hH e
      have hL3 := HLr.out.kept HH3r.out.kept HAVr.out
      have hs3r := HH3r.out.kept.size
      have hG3r : Grp w w3r (.slice pl kr cl) m [.slice (some ⟨g1r, 0, none⟩) (kr + 1) c1r, .slice (some ⟨g2r, 0, none⟩) (kr + 2) c2r, .slice (some ⟨g3r, 0, none⟩) (kr + 3) c3r] (lawB wb (.slice pR vr.length cR) (.slice pE ve.length cE) (.slice pM ir.length cM) (.slice pN ie.length cN)) := HH3r.out.grp (fun k e => ⟨fun e2 => HAVr.out k e2 e, HLr.out.lt k e⟩)
      have HG3r := Lib.hid hG3r
      have d1 := cell_of_row _ _ 1 _ _ (0, 0) hL3.W
      simp at d1
      have HL3r := Lib.hid hL3
      have HA3 := Lib.hid (hL3.kept (S := fun _ => False) ((Kept.refl _ _).alloc (.cells #[.slice pl kr cl, .slice (some ⟨g1r, 0, none⟩) (kr + 1) c1r, .slice (some ⟨g2r, 0, none⟩) (kr + 2) c2r, .slice (some ⟨g3r, 0, none⟩) (kr + 3) c3r] 31)) (fun _ e => e.elim))
      clear hL3 hG3r
      go_wp2_with (at_builtin; refine wpList_append_lies _ rfl _ _ 67 rfl B 31 iR (.slice none 0 0) 1 24 Tryz.underlying67 hiR hR0 hR1 hR2 rfl (by decide) _ _ _ rfl HA3.out.oR ⟨w3r.heap.size, 0, none⟩ 4 4 [.slice pl kr cl, .slice (some ⟨g1r, 0, none⟩) (kr + 1) c1r, .slice (some ⟨g2r, 0, none⟩) (kr + 2) c2r, .slice (some ⟨g3r, 0, none⟩) (kr + 3) c3r] rfl rfl (news_at _ #[.slice pl kr cl, .slice (some ⟨g1r, 0, none⟩) (kr + 1) c1r, .slice (some ⟨g2r, 0, none⟩) (kr + 2) c2r, .slice (some ⟨g3r, 0, none⟩) (kr + 3) c3r] _ _ (by simp)) (by intro u' hu'; simp at hu'; rcases hu' with rfl | rfl | rfl | rfl <;> rfl) (by decide) (by unfold maxLen; omega) (by omega) (by simp; omega) _ rfl ?_)
      intro gRr cRr w4r ownR growR hatR ltR
      obtain ⟨hW4, hL4⟩ := HA3.out.pushR (ns := [.slice pl kr cl, .slice (some ⟨g1r, 0, none⟩) (kr + 1) c1r, .slice (some ⟨g2r, 0, none⟩) (kr + 2) c2r, .slice (some ⟨g3r, 0, none⟩) (kr + 3) c3r]) ownR growR
      have hL4 : LawM B wb cs (.slice (some ⟨gRr, 0, none⟩) (vr.length + 4) cRr) (.slice pE ve.length cE) (.slice pM ir.length cM) (.slice pN ie.length cN) (vr ++ [.slice pl kr cl, .slice (some ⟨g1r, 0, none⟩) (kr + 1) c1r, .slice (some ⟨g2r, 0, none⟩) (kr + 2) c2r, .slice (some ⟨g3r, 0, none⟩) (kr + 3) c3r]) ve ir ie (w4r.setCell ⟨wb, 1, none⟩ (.slice (some ⟨gRr, 0, none⟩) (vr.length + 4) cRr)) := hL4
      have k1 := cell_of_row _ _ 1 _ _ (0, 0) hW4
      have kf := frozen_of_row _ _ 1 _ _ hW4
      simp at k1
      have hs4 : w3r.heap.size + 1 ≤ w4r.heap.size := by have := growR.size; simpa using this
      have K4r : Hid (Kept (lawB wb (.slice pR vr.length cR) (.slice pE ve.length cE) (.slice pM ir.length cM) (.slice pN ie.length cN)) w3r (w4r.setCell ⟨wb, 1, none⟩ (.slice (some ⟨gRr, 0, none⟩) (vr.length + 4) cRr))) := Lib.hid (((((Kept.refl (lawB wb (.slice pR vr.length cR) (.slice pE ve.length cE) (.slice pM ir.length cM) (.slice pN ie.length cN)) w3r).alloc _).grown growR (fun i e => Or.inl (Or.inr (Or.inl e)))).setCell (p := ⟨wb, 1, none⟩) (Or.inl (Or.inl rfl)) _))
      have HRr : Hid ((Value.slice pR vr.length cR).ownBlock = some gRr ∨ w3r.heap.size ≤ gRr) := Lib.hid (hatR.imp id (fun e => by rw [e]; simp))
      have d3 := cell_of_row _ _ 3 _ _ (0, 0) hL4.W
      simp at d3
      have HL4r := Lib.hid hL4
      have hs5r : w3r.heap.size + 1 ≤ (w4r.setCell ⟨wb, 1, none⟩ (.slice (some ⟨gRr, 0, none⟩) (vr.length + 4) cRr)).heap.size := by simpa using hs4
      have hw5 : wb < (w4r.setCell ⟨wb, 1, none⟩ (.slice (some ⟨gRr, 0, none⟩) (vr.length + 4) cRr)).heap.size := by simp; omega
      clear hW4 hL4 ownR growR hatR
      go_wp2
      generalize (w4r.setCell ⟨wb, 1, none⟩ (.slice (some ⟨gRr, 0, none⟩) (vr.length + 4) cRr)) = W5r at *
      have HA4 := Lib.hid (HL4r.out.kept (S := fun _ => False) ((Kept.refl _ _).alloc (.cells #[.int .i64 m, .int .i64 m, .int .i64 m, .int .i64 m] 3)) (fun _ e => e.elim))
      have N3 := World.new_ne W5r _ d3
      simp at N3
      have HB4 : Hid (LawM B wb cs (.slice (some ⟨gRr, 0, none⟩) (vr.length + 4) cRr) (.slice pE ve.length cE) (.slice pM ir.length cM) (.slice pN ie.length cN) (vr ++ [.slice pl kr cl, .slice (some ⟨g1r, 0, none⟩) (kr + 1) c1r, .slice (some ⟨g2r, 0, none⟩) (kr + 2) c2r, .slice (some ⟨g3r, 0, none⟩) (kr + 3) c3r]) ve ir ie (W5r.alloc (.cells #[.int .i64 m, .int .i64 m, .int .i64 m, .int .i64 m] 3)).drew) := Lib.hid (HA4.out.on (fun _ _ => rfl))
      go_cut [6] (fun mv wr => mv = .int .i64 m ∧ ∃ gMr cMr, LawM B wb cs (.slice (some ⟨gRr, 0, none⟩) (vr.length + 4) cRr) (.slice pE ve.length cE) (.slice (some ⟨gMr, 0, none⟩) (ir.length + 4) cMr) (.slice pN ie.length cN) (vr ++ [.slice pl kr cl, .slice (some ⟨g1r, 0, none⟩) (kr + 1) c1r, .slice (some ⟨g2r, 0, none⟩) (kr + 2) c2r, .slice (some ⟨g3r, 0, none⟩) (kr + 3) c3r]) ve (ir ++ [m, m, m, m]) ie wr ∧ Kept (lawB wb (.slice (some ⟨gRr, 0, none⟩) (vr.length + 4) cRr) (.slice pE ve.length cE) (.slice pM ir.length cM) (.slice pN ie.length cN)) W5r wr ∧ ((Value.slice pM ir.length cM).ownBlock = some gMr ∨ W5r.heap.size ≤ gMr))
      case first =>
        go_region_law (refine step_append_lies _ rfl _ _ 53 rfl B 3 iI (.int .i64 0) 1 8 Tryz.underlying53 hiI hI0 hI1 hI2 rfl (by decide) (.slice pM ir.length cM) ir.length _ rfl HB4.out.oM ⟨W5r.heap.size, 0, none⟩ 4 4 [.int .i64 m, .int .i64 m, .int .i64 m, .int .i64 m] rfl rfl (news_at W5r #[.int .i64 m, .int .i64 m, .int .i64 m, .int .i64 m] _ _ (by simp)) (by intro u' hu'; simp at hu'; subst hu'; rfl) (by decide) (by unfold maxLen; omega) (by omega) (by simp; omega) _ rfl ?_; intro gMr cMr w6 ownM growM hatM ltM; obtain ⟨hW6, hL6⟩ := HB4.out.pushM (ns := [m, m, m, m]) ownM growM (hatM.imp id (fun e => by simpa using e)); have z3 := cell_of_row _ _ 3 _ _ (0, 0) hW6; have zf := frozen_of_row _ _ 3 _ _ hW6; simp at z3; have HL6 := Lib.hid hL6; have K6 : Hid (Kept (lawB wb (.slice (some ⟨gRr, 0, none⟩) (vr.length + 4) cRr) (.slice pE ve.length cE) (.slice pM ir.length cM) (.slice pN ie.length cN)) W5r (w6.setCell ⟨wb, 3, none⟩ (.slice (some ⟨gMr, 0, none⟩) (ir.length + 4) cMr))) := Lib.hid (((((Kept.refl (lawB wb (.slice (some ⟨gRr, 0, none⟩) (vr.length + 4) cRr) (.slice pE ve.length cE) (.slice pM ir.length cM) (.slice pN ie.length cN)) W5r).alloc _).drew).grown growM (fun i e => Or.inl (Or.inr (Or.inr (Or.inr (Or.inl e)))))).setCell (p := ⟨wb, 3, none⟩) (Or.inl (Or.inl rfl)) _); have H6 : Hid ((Value.slice pM ir.length cM).ownBlock = some gMr ∨ W5r.heap.size ≤ gMr) := Lib.hid (hatM.imp id (fun e => by rw [e]; simp)); clear hW6 hL6 ownM growM hatM)
        all_goals go_wp2_with fail
        all_goals go_meet
        all_goals exact ⟨rfl, gMr, cMr, HL6.out, K6.out, H6.out⟩
      case rest =>
        obtain ⟨rfl, gMr, cMr, hL6r, hK6r, hM6r⟩ := hcut
        obtain ⟨wd, hwc⟩ : ∃ W, W = wc := ⟨_, rfl⟩
        rw [← hwc] at hL6r hK6r ⊢
        clear hwc
        have hG5r : Grp w W5r _ m _ (lawB wb (.slice (some ⟨gRr, 0, none⟩) (vr.length + 4) cRr) (.slice pE ve.length cE) (.slice pM ir.length cM) (.slice pN ie.length cN)) := HG3r.out.on K4r.out (fun k e => lawB_R HRr.out e)
        have hG6r : Grp w wd _ m _ (lawB wb (.slice (some ⟨gRr, 0, none⟩) (vr.length + 4) cRr) (.slice pE ve.length cE) (.slice (some ⟨gMr, 0, none⟩) (ir.length + 4) cMr) (.slice pN ie.length cN)) := hG5r.on hK6r (fun k e => lawB_M hM6r e)
        clear hG5r
        have hk3 := owns_on hk (fun k e => HH3r.out.kept.block k (hk.lt k e).2 (fun e2 => owns_apart hl hk (by decide) k e2 e))
        have hk5 := owns_on hk3 (fun k e => K4r.out.block k (hk3.lt k e).2 (HL3r.out.avoid hk3 (by decide) (by decide) (by decide) (by decide) k e))
        have hkd := owns_on hk5 (fun k e => hK6r.block k (hk5.lt k e).2 (HL4r.out.avoid hk5 (by decide) (by decide) (by decide) (by decide) k e))
        have hsd : w.heap.size ≤ wd.heap.size := by have := hK6r.size; omega
        have Kd : Hid (Kept (fun k => (Value.slice pl kr cl).ownBlock = some k ∨ (lawB wb (.slice pR vr.length cR) (.slice pE ve.length cE) (.slice pM ir.length cM) (.slice pN ie.length cN)) k) w wd) := Lib.hid (((HH3r.out.kept.mono (fun k e => Or.inl e)).trans K4r.out (fun k e => Or.inl (Or.inr e))).trans hK6r (fun k e => (lawB_R HRr.out e).imp (fun e => Or.inr e) (fun e => by omega)))
        have HAVv := Lib.hid (hL6r.avoid hkd (by decide) (by decide) (by decide) (by decide))
        have HLv := Lib.hid hL6r
        have hapart : ∀ k, (Value.slice pk nk ck).ownBlock = some k → (Value.slice pl kr cl).ownBlock ≠ some k ∧ k < w.heap.size := fun k e => ⟨fun e2 => owns_apart hl hk (by decide) k e2 e, (hk.lt k e).2⟩
        have HAP := Lib.hid hapart
        have HG6r := Lib.hid hG6r
        have HM6r := Lib.hid hM6r
        have HK6r := Lib.hid hK6r
        have e4 := cell_of_row _ _ 4 _ _ (0, 0) hL6r.W
        simp at e4
        clear hk3 hk5 hapart hG6r hL6r hM6r hK6r hk
        go_wp2
        have hx0v := hkd.1
        have hPv : (wd.alloc (.cells #[.int .i64 m, .int .i64 m, .int .i64 m, .int .i64 m] 55)).heap[wd.heap.size]? = some (.cells #[.int .i64 m, .int .i64 m, .int .i64 m, .int .i64 m] 55 (0, 0)) := heap_alloc_new _ _
        have hlowv := fun b e => (hkd.lt b e).2
        go_loopw [13] (fun iv wr => ∃ k : Nat, iv = .int .i64 k ∧ k ≤ nk ∧ wr.ownsRow bk 55 4 (.slice pk nk ck) nk (fill ys m k) ∧ wr.heap[wd.heap.size]? = some (.cells #[.int .i64 m, .int .i64 m, .int .i64 m, .int .i64 m] 55 (0, 0)) ∧ Kept (fun k => (Value.slice pk nk ck).ownBlock = some k) wd wr) (fun iv _ => nk - (intOf iv).toNat)
        case atStart => exact ⟨0, rfl, Nat.zero_le _, by rw [fill_zero]; exact hkd.alloc _, hPv, (Kept.refl _ _).alloc _⟩
        case round =>
          obtain ⟨kv, rfl, hknv, hown, hp, hkp⟩ := hrel
          have p0 := cell_of_row _ _ 0 _ _ (0, 0) hp
          have p1 := cell_of_row _ _ 1 _ _ (0, 0) hp
          have p2 := cell_of_row _ _ 2 _ _ (0, 0) hp
          have p3 := cell_of_row _ _ 3 _ _ (0, 0) hp
          simp at p0 p1 p2 p3
          by_cases hlt : kv < nk
          · obtain ⟨g, rfl⟩ : ∃ g, pk = some ⟨g, 0, none⟩ := by
              rcases own_forms hown with ⟨_, hn⟩ | ⟨g, c2, e⟩
              · omega
              · exact ⟨g, by simpa using (Value.slice.inj e).1⟩
            have hgl : g < wd.heap.size := hlowv g rfl
            have hfl := fill_len ys m nk kv hx0v (by omega)
            obtain ⟨u0, s0⟩ : ∃ u, wr.cell? ⟨g, kv * 4, none⟩ = some u := ⟨_, (hown.cellAt (kv * 4) (by omega)).trans (List.getElem?_eq_getElem (by omega))⟩
            obtain ⟨u1, s1⟩ : ∃ u, wr.cell? ⟨g, kv * 4 + 1, none⟩ = some u := ⟨_, (hown.cellAt (kv * 4 + 1) (by omega)).trans (List.getElem?_eq_getElem (by omega))⟩
            obtain ⟨u2, s2⟩ : ∃ u, wr.cell? ⟨g, kv * 4 + 2, none⟩ = some u := ⟨_, (hown.cellAt (kv * 4 + 2) (by omega)).trans (List.getElem?_eq_getElem (by omega))⟩
            obtain ⟨u3, s3⟩ : ∃ u, wr.cell? ⟨g, kv * 4 + 3, none⟩ = some u := ⟨_, (hown.cellAt (kv * 4 + 3) (by omega)).trans (List.getElem?_eq_getElem (by omega))⟩
            have sf := fun j => hown.frozenAt j
            have HO := Lib.hid (owns_put4 hx0v hlt hown)
            have HK := Lib.hid (hkp.put4 (g := g) (Or.inl rfl) kv m)
            have HP : Hid ((put4 wr g kv m).heap[wd.heap.size]? = some (.cells #[.int .i64 m, .int .i64 m, .int .i64 m, .int .i64 m] 55 (0, 0))) := Lib.hid (((Kept.refl (fun k => k = g) wr).put4 (Or.inl rfl) kv m).block wd.heap.size (by have := (Array.getElem?_eq_some_iff.1 hp).1; omega) (by omega) |>.trans hp)
            clear hown hkp hp
            go_wp2
            all_goals exact ⟨⟨kv + 1, by go_num, by omega, HO.out, HP.out, HK.out⟩, by simp [intOf]; omega⟩
          · obtain rfl : kv = nk := by omega
            rw [fill_all ys m kv hx0v] at hown
            have hblv : bk ≤ wr.heap.size := by have := hkp.size; omega
            have HH0v : Hid (Half bk wd.heap.size wd 55 (.slice pk kv ck) kv m [] wr) := Lib.hid ⟨hown, hp, hkp, by omega, Nat.le_refl _, hlowv, fun v hv => by simp at hv⟩
            clear hown hp hkp
            go_wp2_with (at_builtin; refine wpList_append_parts _ rfl _ _ 32 rfl bk 55 j0 (.agg #[.int .i64 0, .int .i64 0, .int .i64 0, .int .i64 0]) 4 32 Tryz.underlying32 hj hw0 hw1 hw2 rfl (by decide) _ _ _ rfl (HH0v.out.own.alloc _) ⟨wr.heap.size, 0, none⟩ 1 1 [.int .i64 m, .int .i64 m, .int .i64 m, .int .i64 m] rfl rfl (news_at _ #[.int .i64 m, .int .i64 m, .int .i64 m, .int .i64 m] _ _ (by simp)) (by intro u' hu'; simp at hu'; subst hu'; rfl) (by decide) (by unfold maxLen; omega) (by omega) (by simp; omega) _ rfl ?_)
            intro g1v c1v w1v own part
            have hH := HH0v.out.append (by simp) (.cells #[.int .i64 m, .int .i64 m, .int .i64 m, .int .i64 m] 55) rfl (by simpa using own) (by simpa using part)
            have hb1v : bk ≤ w1v.heap.size := by have := hH.kept.size; omega
            have HH1v := Lib.hid hH
            have e := hH.el
            have p0 := cell_of_row _ _ 0 _ _ (0, 0) e
            have p1 := cell_of_row _ _ 1 _ _ (0, 0) e
            have p2 := cell_of_row _ _ 2 _ _ (0, 0) e
            have p3 := cell_of_row _ _ 3 _ _ (0, 0) e
            simp at p0 p1 p2 p3
            clear own part hH e
            go_wp2_with (at_builtin; refine wpList_append_parts _ rfl _ _ 32 rfl bk 55 j0 (.agg #[.int .i64 0, .int .i64 0, .int .i64 0, .int .i64 0]) 4 32 Tryz.underlying32 hj hw0 hw1 hw2 rfl (by decide) _ _ _ rfl (HH1v.out.own.alloc _) ⟨w1v.heap.size, 0, none⟩ 2 2 [.int .i64 m, .int .i64 m, .int .i64 m, .int .i64 m, .int .i64 m, .int .i64 m, .int .i64 m, .int .i64 m] rfl rfl (news_at _ #[.int .i64 m, .int .i64 m, .int .i64 m, .int .i64 m, .int .i64 m, .int .i64 m, .int .i64 m, .int .i64 m] _ _ (by simp)) (by intro u' hu'; simp at hu'; subst hu'; rfl) (by decide) (by unfold maxLen; omega) (by omega) (by simp; omega) _ rfl ?_)
            intro g2v c2v w2v own part
            have hH := HH1v.out.append (by simp) (.cells #[.int .i64 m, .int .i64 m, .int .i64 m, .int .i64 m, .int .i64 m, .int .i64 m, .int .i64 m, .int .i64 m] 55) rfl (by simpa using own) (by simpa using part)
            have hb2v : bk ≤ w2v.heap.size := by have := hH.kept.size; omega
            have HH2v := Lib.hid hH
            have e := hH.el
            have p0 := cell_of_row _ _ 0 _ _ (0, 0) e
            have p1 := cell_of_row _ _ 1 _ _ (0, 0) e
            have p2 := cell_of_row _ _ 2 _ _ (0, 0) e
            have p3 := cell_of_row _ _ 3 _ _ (0, 0) e
            simp at p0 p1 p2 p3
            clear own part hH e
            go_wp2_with (at_builtin; refine wpList_append_parts _ rfl _ _ 32 rfl bk 55 j0 (.agg #[.int .i64 0, .int .i64 0, .int .i64 0, .int .i64 0]) 4 32 Tryz.underlying32 hj hw0 hw1 hw2 rfl (by decide) _ _ _ rfl (HH2v.out.own.alloc _) ⟨w2v.heap.size, 0, none⟩ 3 3 [.int .i64 m, .int .i64 m, .int .i64 m, .int .i64 m, .int .i64 m, .int .i64 m, .int .i64 m, .int .i64 m, .int .i64 m, .int .i64 m, .int .i64 m, .int .i64 m] rfl rfl (news_at _ #[.int .i64 m, .int .i64 m, .int .i64 m, .int .i64 m, .int .i64 m, .int .i64 m, .int .i64 m, .int .i64 m, .int .i64 m, .int .i64 m, .int .i64 m, .int .i64 m] _ _ (by simp)) (by intro u' hu'; simp at hu'; subst hu'; rfl) (by decide) (by unfold maxLen; omega) (by omega) (by simp; omega) _ rfl ?_)
            intro g3v c3v w3v own part
            have hH := HH2v.out.append (by simp) (.cells #[.int .i64 m, .int .i64 m, .int .i64 m, .int .i64 m, .int .i64 m, .int .i64 m, .int .i64 m, .int .i64 m, .int .i64 m, .int .i64 m, .int .i64 m, .int .i64 m] 55) rfl (by simpa using own) (by simpa using part)
            have hb3v : bk ≤ w3v.heap.size := by have := hH.kept.size; omega
            have HH3v := Lib.hid hH
            have e := hH.el
            have p0 := cell_of_row _ _ 0 _ _ (0, 0) e
            have p1 := cell_of_row _ _ 1 _ _ (0, 0) e
            have p2 := cell_of_row _ _ 2 _ _ (0, 0) e
            have p3 := cell_of_row _ _ 3 _ _ (0, 0) e
            simp at p0 p1 p2 p3
            clear own part hH e
            have hL3 := HLv.out.kept HH3v.out.kept HAVv.out
            have hs3v := HH3v.out.kept.size
            have hG3v : Grp wd w3v (.slice pk kv ck) m [.slice (some ⟨g1v, 0, none⟩) (kv + 1) c1v, .slice (some ⟨g2v, 0, none⟩) (kv + 2) c2v, .slice (some ⟨g3v, 0, none⟩) (kv + 3) c3v] (lawB wb (.slice (some ⟨gRr, 0, none⟩) (vr.length + 4) cRr) (.slice pE ve.length cE) (.slice (some ⟨gMr, 0, none⟩) (ir.length + 4) cMr) (.slice pN ie.length cN)) := HH3v.out.grp (fun k e => ⟨fun e2 => HAVv.out k e2 e, HLv.out.lt k e⟩)
            have HG3v := Lib.hid hG3v
            have d1 := cell_of_row _ _ 2 _ _ (0, 0) hL3.W
            simp at d1
            have HL3v := Lib.hid hL3
            have HA3 := Lib.hid (hL3.kept (S := fun _ => False) ((Kept.refl _ _).alloc (.cells #[.slice pk kv ck, .slice (some ⟨g1v, 0, none⟩) (kv + 1) c1v, .slice (some ⟨g2v, 0, none⟩) (kv + 2) c2v, .slice (some ⟨g3v, 0, none⟩) (kv + 3) c3v] 32)) (fun _ e => e.elim))
            clear hL3 hG3v
            go_wp2_with (at_builtin; refine wpList_append_lies _ rfl _ _ 68 rfl B 32 iE (.slice none 0 0) 1 24 Tryz.underlying68 hiE hE0 hE1 hE2 rfl (by decide) _ _ _ rfl HA3.out.oE ⟨w3v.heap.size, 0, none⟩ 4 4 [.slice pk kv ck, .slice (some ⟨g1v, 0, none⟩) (kv + 1) c1v, .slice (some ⟨g2v, 0, none⟩) (kv + 2) c2v, .slice (some ⟨g3v, 0, none⟩) (kv + 3) c3v] rfl rfl (news_at _ #[.slice pk kv ck, .slice (some ⟨g1v, 0, none⟩) (kv + 1) c1v, .slice (some ⟨g2v, 0, none⟩) (kv + 2) c2v, .slice (some ⟨g3v, 0, none⟩) (kv + 3) c3v] _ _ (by simp)) (by intro u' hu'; simp at hu'; rcases hu' with rfl | rfl | rfl | rfl <;> rfl) (by decide) (by unfold maxLen; omega) (by omega) (by simp; omega) _ rfl ?_)
            intro gRv cRv w4v ownR growR hatR ltR
            obtain ⟨hW4, hL4⟩ := HA3.out.pushE (ns := [.slice pk kv ck, .slice (some ⟨g1v, 0, none⟩) (kv + 1) c1v, .slice (some ⟨g2v, 0, none⟩) (kv + 2) c2v, .slice (some ⟨g3v, 0, none⟩) (kv + 3) c3v]) ownR growR
            have hL4 : LawM B wb cs (.slice (some ⟨gRr, 0, none⟩) (vr.length + 4) cRr) (.slice (some ⟨gRv, 0, none⟩) (ve.length + 4) cRv) (.slice (some ⟨gMr, 0, none⟩) (ir.length + 4) cMr) (.slice pN ie.length cN) (vr ++ [.slice pl kr cl, .slice (some ⟨g1r, 0, none⟩) (kr + 1) c1r, .slice (some ⟨g2r, 0, none⟩) (kr + 2) c2r, .slice (some ⟨g3r, 0, none⟩) (kr + 3) c3r]) (ve ++ [.slice pk kv ck, .slice (some ⟨g1v, 0, none⟩) (kv + 1) c1v, .slice (some ⟨g2v, 0, none⟩) (kv + 2) c2v, .slice (some ⟨g3v, 0, none⟩) (kv + 3) c3v]) (ir ++ [m, m, m, m]) ie (w4v.setCell ⟨wb, 2, none⟩ (.slice (some ⟨gRv, 0, none⟩) (ve.length + 4) cRv)) := hL4
            have k1 := cell_of_row _ _ 2 _ _ (0, 0) hW4
            have kf := frozen_of_row _ _ 2 _ _ hW4
            simp at k1
            have hs4 : w3v.heap.size + 1 ≤ w4v.heap.size := by have := growR.size; simpa using this
            have K4v : Hid (Kept (lawB wb (.slice (some ⟨gRr, 0, none⟩) (vr.length + 4) cRr) (.slice pE ve.length cE) (.slice (some ⟨gMr, 0, none⟩) (ir.length + 4) cMr) (.slice pN ie.length cN)) w3v (w4v.setCell ⟨wb, 2, none⟩ (.slice (some ⟨gRv, 0, none⟩) (ve.length + 4) cRv))) := Lib.hid (((((Kept.refl (lawB wb (.slice (some ⟨gRr, 0, none⟩) (vr.length + 4) cRr) (.slice pE ve.length cE) (.slice (some ⟨gMr, 0, none⟩) (ir.length + 4) cMr) (.slice pN ie.length cN)) w3v).alloc _).grown growR (fun i e => Or.inl (Or.inr (Or.inr (Or.inl e))))).setCell (p := ⟨wb, 2, none⟩) (Or.inl (Or.inl rfl)) _))
            have HRv : Hid ((Value.slice pE ve.length cE).ownBlock = some gRv ∨ w3v.heap.size ≤ gRv) := Lib.hid (hatR.imp id (fun e => by rw [e]; simp))
            have d3 := cell_of_row _ _ 4 _ _ (0, 0) hL4.W
            simp at d3
            have HL4v := Lib.hid hL4
            have hs5v : w3v.heap.size + 1 ≤ (w4v.setCell ⟨wb, 2, none⟩ (.slice (some ⟨gRv, 0, none⟩) (ve.length + 4) cRv)).heap.size := by simpa using hs4
            have hw5 : wb < (w4v.setCell ⟨wb, 2, none⟩ (.slice (some ⟨gRv, 0, none⟩) (ve.length + 4) cRv)).heap.size := by simp; omega
            clear hW4 hL4 ownR growR hatR
            go_wp2
            generalize (w4v.setCell ⟨wb, 2, none⟩ (.slice (some ⟨gRv, 0, none⟩) (ve.length + 4) cRv)) = W5v at *
            have HA4 := Lib.hid (HL4v.out.kept (S := fun _ => False) ((Kept.refl _ _).alloc (.cells #[.int .i64 m, .int .i64 m, .int .i64 m, .int .i64 m] 3)) (fun _ e => e.elim))
            have N3 := World.new_ne W5v _ d3
            simp at N3
            have HB4 : Hid (LawM B wb cs (.slice (some ⟨gRr, 0, none⟩) (vr.length + 4) cRr) (.slice (some ⟨gRv, 0, none⟩) (ve.length + 4) cRv) (.slice (some ⟨gMr, 0, none⟩) (ir.length + 4) cMr) (.slice pN ie.length cN) (vr ++ [.slice pl kr cl, .slice (some ⟨g1r, 0, none⟩) (kr + 1) c1r, .slice (some ⟨g2r, 0, none⟩) (kr + 2) c2r, .slice (some ⟨g3r, 0, none⟩) (kr + 3) c3r]) (ve ++ [.slice pk kv ck, .slice (some ⟨g1v, 0, none⟩) (kv + 1) c1v, .slice (some ⟨g2v, 0, none⟩) (kv + 2) c2v, .slice (some ⟨g3v, 0, none⟩) (kv + 3) c3v]) (ir ++ [m, m, m, m]) ie (W5v.alloc (.cells #[.int .i64 m, .int .i64 m, .int .i64 m, .int .i64 m] 3)).drew) := Lib.hid (HA4.out.on (fun _ _ => rfl))
            go_region_law (refine step_append_lies _ rfl _ _ 53 rfl B 3 iI (.int .i64 0) 1 8 Tryz.underlying53 hiI hI0 hI1 hI2 rfl (by decide) (.slice pN ie.length cN) ie.length _ rfl HB4.out.oN ⟨W5v.heap.size, 0, none⟩ 4 4 [.int .i64 m, .int .i64 m, .int .i64 m, .int .i64 m] rfl rfl (news_at W5v #[.int .i64 m, .int .i64 m, .int .i64 m, .int .i64 m] _ _ (by simp)) (by intro u' hu'; simp at hu'; subst hu'; rfl) (by decide) (by unfold maxLen; omega) (by omega) (by simp; omega) _ rfl ?_; intro gMv cMv w6 ownM growM hatM ltM; obtain ⟨hW6, hL6⟩ := HB4.out.pushN (ns := [m, m, m, m]) ownM growM (hatM.imp id (fun e => by simpa using e)); have z3 := cell_of_row _ _ 4 _ _ (0, 0) hW6; have zf := frozen_of_row _ _ 4 _ _ hW6; simp at z3; have HL6 := Lib.hid hL6; have K6 : Hid (Kept (lawB wb (.slice (some ⟨gRr, 0, none⟩) (vr.length + 4) cRr) (.slice (some ⟨gRv, 0, none⟩) (ve.length + 4) cRv) (.slice (some ⟨gMr, 0, none⟩) (ir.length + 4) cMr) (.slice pN ie.length cN)) W5v (w6.setCell ⟨wb, 4, none⟩ (.slice (some ⟨gMv, 0, none⟩) (ie.length + 4) cMv))) := Lib.hid (((((Kept.refl (lawB wb (.slice (some ⟨gRr, 0, none⟩) (vr.length + 4) cRr) (.slice (some ⟨gRv, 0, none⟩) (ve.length + 4) cRv) (.slice (some ⟨gMr, 0, none⟩) (ir.length + 4) cMr) (.slice pN ie.length cN)) W5v).alloc _).drew).grown growM (fun i e => Or.inl (Or.inr (Or.inr (Or.inr (Or.inr e)))))).setCell (p := ⟨wb, 4, none⟩) (Or.inl (Or.inl rfl)) _); have H6 : Hid ((Value.slice pN ie.length cN).ownBlock = some gMv ∨ W5v.heap.size ≤ gMv) := Lib.hid (hatM.imp id (fun e => by rw [e]; simp)); clear hW6 hL6 ownM growM hatM)
            all_goals go_wp2
            all_goals go_end0
            all_goals
              have hs7 : w.heap.size ≤ w3v.heap.size := by omega
              have hs8 : w.heap.size ≤ W5v.heap.size := by omega
              have sw6 : ∀ k, lawB wb (.slice (some ⟨gRr, 0, none⟩) (vr.length + 4) cRr) (.slice pE ve.length cE) (.slice (some ⟨gMr, 0, none⟩) (ir.length + 4) cMr) (.slice pN ie.length cN) k → lawB wb (.slice pR vr.length cR) (.slice pE ve.length cE) (.slice pM ir.length cM) (.slice pN ie.length cN) k ∨ w.heap.size ≤ k := fun k e => by
                rcases lawB_M HM6r.out e with e2 | e2
                · exact (lawB_R HRr.out e2).imp id (fun e3 => by omega)
                · exact Or.inr (by omega)
              have sw7 : ∀ k, lawB wb (.slice (some ⟨gRr, 0, none⟩) (vr.length + 4) cRr) (.slice (some ⟨gRv, 0, none⟩) (ve.length + 4) cRv) (.slice (some ⟨gMr, 0, none⟩) (ir.length + 4) cMr) (.slice pN ie.length cN) k → lawB wb (.slice pR vr.length cR) (.slice pE ve.length cE) (.slice pM ir.length cM) (.slice pN ie.length cN) k ∨ w.heap.size ≤ k := fun k e => by
                rcases lawB_E HRv.out e with e2 | e2
                · exact sw6 k e2
                · exact Or.inr (by omega)
              have sw8 : ∀ k, lawB wb (.slice (some ⟨gRr, 0, none⟩) (vr.length + 4) cRr) (.slice (some ⟨gRv, 0, none⟩) (ve.length + 4) cRv) (.slice (some ⟨gMr, 0, none⟩) (ir.length + 4) cMr) (.slice (some ⟨gMv, 0, none⟩) (ie.length + 4) cMv) k → lawB wb (.slice pR vr.length cR) (.slice pE ve.length cE) (.slice pM ir.length cM) (.slice pN ie.length cN) k ∨ w.heap.size ≤ k := fun k e => by
                rcases lawB_N H6.out e with e2 | e2
                · exact sw7 k e2
                · exact Or.inr (by omega)
              have gv : Grp wd _ _ m _ (lawB wb (.slice (some ⟨gRr, 0, none⟩) (vr.length + 4) cRr) (.slice (some ⟨gRv, 0, none⟩) (ve.length + 4) cRv) (.slice (some ⟨gMr, 0, none⟩) (ir.length + 4) cMr) (.slice (some ⟨gMv, 0, none⟩) (ie.length + 4) cMv)) := (HG3v.out.on K4v.out (fun k e => lawB_E HRv.out e)).on K6.out (fun k e => lawB_N H6.out e)
              have gr : Grp w _ _ m _ (lawB wb (.slice (some ⟨gRr, 0, none⟩) (vr.length + 4) cRr) (.slice (some ⟨gRv, 0, none⟩) (ve.length + 4) cRv) (.slice (some ⟨gMr, 0, none⟩) (ir.length + 4) cMr) (.slice (some ⟨gMv, 0, none⟩) (ie.length + 4) cMv)) := ((HG6r.out.far HH3v.out.kept HAP.out).on K4v.out (fun k e => lawB_E HRv.out e)).on K6.out (fun k e => lawB_N H6.out e)
              refine ⟨rfl, (.slice (some ⟨gRr, 0, none⟩) (vr.length + 4) cRr), (.slice (some ⟨gRv, 0, none⟩) (ve.length + 4) cRv), (.slice (some ⟨gMr, 0, none⟩) (ir.length + 4) cMr), (.slice (some ⟨gMv, 0, none⟩) (ie.length + 4) cMv), _, _, _, _, _, _, HL6.out, gr, gv.base hsd, ?_, sw8⟩
              exact (((Kd.out.mono (fun k e => e.imp id Or.inr)).trans HH3v.out.kept (fun k e => Or.inl (Or.inr (Or.inl e)))).trans K4v.out (fun k e => (sw6 k e).imp (fun e => Or.inr (Or.inr e)) id)).trans K6.out (fun k e => (sw7 k e).imp (fun e => Or.inr (Or.inr e)) id)

end Go.Proofs.YtpcgnadfldimhaaGreatDoor
