/-
 The program's heap of events: Push and Pop, of the slice and of the heap.
-/
import Derived.Test.YtpcgnadfldimhaaGreatDoorHeapX
import Derived.Deep.RegionLaw
namespace Go.Proofs.YtpcgnadfldimhaaGreatDoor
open Go.RowKit

abbrev Ev.agg (e : Ev) : Value := .agg #[.int .i64 e.kind, .int .i64 e.id, .int .i64 e.time, .int .i64 e.dest]

theorem Tryz.asEv (v : Value) (w : World) : (Instr.typeAssert (.iface 55 v) 20 55 false).run Tryz.prog w = .ok v w := by kernel_rfl

theorem own_cap {w : World} {base size g cap n : Nat} {e : TypeId} {xs : List Value} (h : w.ownsRow base e size (.slice (some ⟨g, 0, none⟩) n cap) n xs) : n ≤ cap := by
 rcases h.2 with ⟨e, _⟩ | ⟨g', c', cur, e, _, _, hnc, _⟩
 ·simp at e
 ·obtain ⟨_, _, rfl⟩ := Value.slice.inj e
  exact hnc

/-- Behind an append, stored into the cluster's last cell. -/
theorem Hp.push {base bi g cap : Nat} {c0 c1 c2 c3 c4 c5 c6 v : Value} {E : List Ev} {e : Ev} {w w1 w4 : World} (h : Hp base bi c0 c1 c2 c3 c4 c5 c6 v E w) (hl : E.length < 1000000000) (h1 : Below w.heap.size w w1) (own : w4.ownsRow base 55 4 (.slice (some ⟨g, 0, none⟩) (E.length + 1) cap) (E.length + 1) (gfl Ev.four E ++ e.four)) (grow : w1.grownBy w4 v.ownBlock) (hat : v.ownBlock = some g ∨ w.heap.size ≤ g) :
  w4.heap[bi]? = some (.cells #[c0, c1, c2, c3, c4, c5, c6, v] 174 (0, 0)) ∧ Hp base bi c0 c1 c2 c3 c4 c5 c6 (.slice (some ⟨g, 0, none⟩) (E.length + 1) cap) (E ++ [e]) (w4.setCell ⟨bi, 7, none⟩ (.slice (some ⟨g, 0, none⟩) (E.length + 1) cap)) ∧ Kept (fun k => k = bi ∨ v.ownBlock = some k) w (w4.setCell ⟨bi, 7, none⟩ (.slice (some ⟨g, 0, none⟩) (E.length + 1) cap)) := by
 have hb : w4.heap[bi]? = some (.cells #[c0, c1, c2, c3, c4, c5, c6, v] 174 (0, 0)) := (grow.block bi (Nat.lt_of_lt_of_le h.lt h1.size) (fun e => h.apart e.symm)).trans ((h1.block bi h.lt).trans h.blk)
 have hr : Row base (.slice (some ⟨g, 0, none⟩) (E.length + 1) cap) (E ++ [e]) w4 := by
  unfold Row
  rw [gfl_append, List.length_append, List.length_singleton]
  simpa [gfl] using own
 have hgb : g ≠ bi := fun e => by
  rcases hat with e2 | e2
  ·exact h.apart (by rw [e2, e])
  ·have := h.lt; omega
 refine ⟨hb, ⟨heap_setCell_same w4 bi 7 _ _ _ hb, hr.on (fun k e => Below.heap_setCell _ _ _ k (by simp [Value.ownBlock] at e; simp; omega)), by simp; omega⟩, ((Kept.of_below (S := fun k => k = bi ∨ v.ownBlock = some k) h1).grown grow (fun i e => Or.inl (Or.inr e))).setCell (p := ⟨bi, 7, none⟩) (Or.inl (Or.inl rfl)) _⟩

set_option maxHeartbeats 4000000 in
set_option maxRecDepth 100000 in
theorem pushM_any (base bi : Nat) (c0 c1 c2 c3 c4 c5 c6 v : Value) (E : List Ev) (w : World) (h : Hp base bi c0 c1 c2 c3 c4 c5 c6 v E w) (hbase : base ≤ w.heap.size) (hl : E.length < 1000000000) (e : Ev) :
  Calls Tryz.prog 244 #[.pointer (some ⟨bi, 7, none⟩), .iface 55 e.agg] w fun r w' => r = .returned (.tuple #[]) ∧ ∃ g cap, Hp base bi c0 c1 c2 c3 c4 c5 c6 (.slice (some ⟨g, 0, none⟩) (E.length + 1) cap) (E ++ [e]) w' ∧ Kept (fun k => k = bi ∨ v.ownBlock = some k) w w' ∧ (v.ownBlock = some g ∨ w.heap.size ≤ g) := by
 obtain ⟨i0, hi, hz0, hz1, hz2⟩ := info_parts Tryz.infoEvP
 obtain ⟨p, c, rfl⟩ := own_slice h.row
 have hlt := h.lt
 have hc := h.cell
 have hf := frozen_of_row _ _ 7 _ _ h.blk
 have HH := Lib.hid h
 have HR := Lib.hid h.row
 clear h
 obtain ⟨ka, xa, ta, da⟩ := e
 have hA := Tryz.asEv (.agg #[.int .i64 ka, .int .i64 xa, .int .i64 ta, .int .i64 da])
 show Calls Tryz.prog 244 #[.pointer (some ⟨bi, 7, none⟩), .iface 55 (.agg #[.int .i64 ka, .int .i64 xa, .int .i64 ta, .int .i64 da])] w _
 go_enter Tryz.func244, Tryz.ntmps244
 go_wp2
 go_region_law (refine step_append_lies _ rfl _ _ 170 rfl base 55 i0 (.agg #[.int .i64 0, .int .i64 0, .int .i64 0, .int .i64 0]) 4 32 Tryz.underlying170 hi hz0 hz1 hz2 rfl (by decide) (.slice p E.length c) E.length _ rfl (World.ownsRow.alloc HR.out _) ⟨w.heap.size, 0, none⟩ 1 1 [.int .i64 ka, .int .i64 xa, .int .i64 ta, .int .i64 da] rfl rfl (news_at w #[.int .i64 ka, .int .i64 xa, .int .i64 ta, .int .i64 da] _ _ rfl) (by intro u' hu'; simp at hu'; rcases hu' with rfl | rfl | rfl | rfl <;> rfl) (by decide) (by unfold maxLen; omega) (by omega) (by simp; omega) _ rfl ?_; intro g cap w4 own grow hat lt; obtain ⟨hb4, hp4, hk4⟩ := HH.out.push (e := ⟨ka, xa, ta, da⟩) hl (((Below.refl _ _).alloc (Nat.le_refl _) _).drew) own grow (hat.imp id (fun e => by rw [e]; simp)); have d7 := cell_of_row _ _ 7 _ _ (0, 0) hb4; have df := frozen_of_row _ _ 7 _ _ hb4; simp at d7; have HP4 := Lib.hid hp4; have HK4 := Lib.hid hk4; have HAT := Lib.hid hat; clear hb4 hp4 hk4 own grow hat)
 all_goals go_wp2
 all_goals exact bodyPost_end (results_none Tryz.results244 _ _ _) rfl ⟨rfl, g, cap, HP4.out, HK4.out, HAT.out.imp id (fun e => by rw [e]; simp)⟩

/-- Behind a slice that ends one event earlier. -/
theorem Hp.cut {base bi g cap n : Nat} {c0 c1 c2 c3 c4 c5 c6 : Value} {E : List Ev} {w w1 : World} (h : Hp base bi c0 c1 c2 c3 c4 c5 c6 (.slice (some ⟨g, 0, none⟩) (n + 1) cap) E w) (hn : E.length = n + 1) (hb : Below w.heap.size w w1) :
  Hp base bi c0 c1 c2 c3 c4 c5 c6 (.slice (some ⟨g, 0, none⟩) n cap) (E.take n) (w1.setCell ⟨bi, 7, none⟩ (.slice (some ⟨g, 0, none⟩) n cap)) ∧ Kept (fun k => k = bi) w (w1.setCell ⟨bi, 7, none⟩ (.slice (some ⟨g, 0, none⟩) n cap)) := by
 have h1 := h.below hb
 have hr : Row base (.slice (some ⟨g, 0, none⟩) n cap) (E.take n) w1 := by
  have hrow := h1.row
  unfold Row at hrow ⊢
  rw [hn] at hrow
  have := owns_take hrow (m := n) (by omega)
  rw [gfl_take Ev.four 4 Ev.four_len] at this
  rw [List.length_take, hn, Nat.min_eq_left (by omega)]
  exact this
 have hl := h.len
 refine ⟨⟨heap_setCell_same w1 bi 7 _ _ _ h1.blk, hr.on (fun k e => Below.heap_setCell _ _ _ k (fun e2 => h1.apart ?_)), by rw [List.length_take]; omega⟩, (Kept.of_below (S := fun k => k = bi) hb).setCell (p := ⟨bi, 7, none⟩) (Or.inl rfl) _⟩
 simp [Value.ownBlock] at e ⊢
 rw [e, e2]

set_option maxHeartbeats 4000000 in
set_option maxRecDepth 100000 in
theorem popM_any (base bi g cap n : Nat) (c0 c1 c2 c3 c4 c5 c6 : Value) (E : List Ev) (w : World) (h : Hp base bi c0 c1 c2 c3 c4 c5 c6 (.slice (some ⟨g, 0, none⟩) (n + 1) cap) E w) (hn : E.length = n + 1) :
  Calls Tryz.prog 243 #[.pointer (some ⟨bi, 7, none⟩)] w fun r w' => r = .returned (.iface 55 (evAt E n).agg) ∧ Hp base bi c0 c1 c2 c3 c4 c5 c6 (.slice (some ⟨g, 0, none⟩) n cap) (E.take n) w' ∧ Kept (fun k => k = bi) w w' := by
 have hlt := h.lt
 have hlen := h.len
 have hc := h.cell
 have hf := frozen_of_row _ _ 7 _ _ h.blk
 have hcap : n + 1 ≤ cap := by
  have hrow := h.row
  unfold Row at hrow
  rw [hn] at hrow
  exact own_cap hrow
 have hR : Row base (.slice (some ⟨g, 0, none⟩) E.length cap) E w := by rw [hn]; exact h.row
 obtain ⟨a0, a1, a2, a3⟩ := hR.cells n (by omega)
 have hg : g < w.heap.size := block_lt_of_cell (a := ⟨g, n * 4, none⟩) a0
 have HC := Lib.hid (fun w1 hb => h.cut (w1 := w1) hn hb)
 clear h hR
 generalize evAt E n = ev at *
 obtain ⟨ka, xa, ta, da⟩ := ev
 simp only at a0 a1 a2 a3
 go_enter Tryz.func243, Tryz.ntmps243
 go_wp2
 go_ret
 exact ⟨rfl, (HC.out w (Below.refl _ _)).1.below ((Below.refl _ _).alloc (Nat.le_refl _) _), (HC.out w (Below.refl _ _)).2.alloc _⟩

end Go.Proofs.YtpcgnadfldimhaaGreatDoor
namespace Go.Proofs.YtpcgnadfldimhaaGreatDoor
open Go.RowKit

theorem heapF_same {f g : Nat → Ev} {n : Nat} (h : HeapF f n) (e : ∀ k, k < n → g k = f k) : HeapF g n := fun k k0 hk => by
 have := par_lt k0
 rw [e k hk, e (par k) (by omega)]
 exact h k k0 hk
theorem evAt_take (E : List Ev) (n k : Nat) (hk : k < n) : evAt (E.take n) k = evAt E k := by
 simp [evAt, List.getElem?_take_of_lt hk]
theorem evAt_append (E : List Ev) (e : Ev) (k : Nat) (hk : k < E.length) : evAt (E ++ [e]) k = evAt E k := by
 simp [evAt, List.getElem?_append_left hk]
theorem ev_snoc (E : List Ev) (n : Nat) (h : E.length = n + 1) : E = E.take n ++ [evAt E n] := by
 have e := evAt_lt E n (by omega)
 have := List.take_add_one (l := E) (i := n)
 rw [e, List.take_of_length_le (by omega)] at this
 simpa using this
theorem take_perm (E : List Ev) (n : Nat) (h : E.length = n + 1) : (evAt E n :: E.take n).Perm E := by
 have e := ev_snoc E n h
 conv => rhs; rw [e]
 exact (List.perm_append_comm (l₁ := [evAt E n]) (l₂ := E.take n))

set_option maxHeartbeats 400000 in
theorem len_any (p : Option Addr) (n cap : Nat) (w : World) : Calls Tryz.prog 220 #[.slice p n cap] w fun e w' => e = .returned (.int .i64 n) ∧ w' = w := by
 go_enter Tryz.func220, Tryz.ntmps220
 go_wp2
 go_ret
 exact ⟨rfl, rfl⟩

set_option maxHeartbeats 4000000 in
set_option maxRecDepth 100000 in
theorem heapPush_any (base bi : Nat) (c0 c1 c2 c3 c4 c5 c6 v : Value) (E : List Ev) (w : World) (h : Hp base bi c0 c1 c2 c3 c4 c5 c6 v E w) (hbase : base ≤ w.heap.size) (hl : E.length < 1000000000) (hok : ∀ e ∈ E, e.ok) (hF : HeapF (evAt E) E.length) (e : Ev) (he : e.ok) :
  Calls Tryz.prog 139 #[.iface 260 (.pointer (some ⟨bi, 7, none⟩)), .iface 55 e.agg] w fun r w' => r = .returned (.tuple #[]) ∧ ∃ g cap F, F.Perm (E ++ [e]) ∧ HeapF (evAt F) (E.length + 1) ∧ Hp base bi c0 c1 c2 c3 c4 c5 c6 (.slice (some ⟨g, 0, none⟩) (E.length + 1) cap) F w' ∧ Kept (fun k => k = bi ∨ v.ownBlock = some k) w w' ∧ (v.ownBlock = some g ∨ w.heap.size ≤ g) := by
 have hP := pushM_any base bi c0 c1 c2 c3 c4 c5 c6 v E w h hbase hl e
 have mP := Tryz.methPush (.pointer (some ⟨bi, 7, none⟩)) w
 generalize e.agg = ea at *
 go_enter Tryz.func139, Tryz.ntmps139
 go_wp2_with (go_at_call 244; refine hP.mono ?_; rintro r w1 ⟨rfl, g, cap, hH1, hK1, hat⟩; refine Hid.out ?_)
 refine Lib.hid ?_
 have mL := Tryz.methLen ⟨bi, 7, none⟩ _ w1 hH1.cell
 have HH1 := Lib.hid hH1
 have HK1 := Lib.hid hK1
 have HAT := Lib.hid hat
 have hU : UpF (evAt (E ++ [e])) (E.length + 1) E.length := up_push (heapF_same hF (fun k hk => evAt_append E e k hk))
 have hup := up_any base bi g cap (E.length + 1) (E.length + 1) c0 c1 c2 c3 c4 c5 c6 (E ++ [e]) w1 hH1 (by simp) (Nat.le_refl _) E.length (by omega) (fun x hx => by rcases List.mem_append.1 hx with hx | hx; exact hok x hx; rw [List.mem_singleton] at hx; rw [hx]; exact he) hU
 clear hP mP hH1 hK1 hat hU
 go_wp2_with (first | (go_at_call 220; refine (len_any _ _ _ _).mono ?_; rintro r w2 ⟨rfl, hw⟩; subst hw) | (go_at_call 155; refine hup.mono ?_; rintro r w3 ⟨rfl, F, hp, hh, _, hH3, hk3⟩; refine Hid.out ?_))
 refine Lib.hid ?_
 go_wp2
 exact bodyPost_end (results_none Tryz.results139 _ _ _) rfl ⟨rfl, g, cap, F, hp, hh, hH3, HK1.out.trans hk3 (fun i e => by subst e; exact HAT.out.imp Or.inr id), HAT.out⟩

end Go.Proofs.YtpcgnadfldimhaaGreatDoor
namespace Go.Proofs.YtpcgnadfldimhaaGreatDoor
open Go.RowKit

theorem Kept.wider {S T : Nat → Prop} {w w' : World} (h : Kept S w w') (hT : ∀ k, S k → T k) : Kept T w w' := ⟨h.os, h.tape, h.output, h.size, fun k hk hn => h.block k hk (fun hs => hn (hT k hs))⟩
theorem down_none (f : Nat → Ev) (i : Nat) : DownF f 0 i i := ⟨⟨fun k _ hk => by omega, fun c _ hc => by omega⟩, Nat.le_refl _, fun h => by omega⟩

set_option maxHeartbeats 4000000 in
set_option maxRecDepth 100000 in
theorem heapPop_any (base bi g cap n : Nat) (c0 c1 c2 c3 c4 c5 c6 : Value) (E : List Ev) (w : World) (h : Hp base bi c0 c1 c2 c3 c4 c5 c6 (.slice (some ⟨g, 0, none⟩) (n + 1) cap) E w) (hn : E.length = n + 1) (hok : ∀ e ∈ E, e.ok) (hF : HeapF (evAt E) (n + 1)) :
  Calls Tryz.prog 140 #[.iface 260 (.pointer (some ⟨bi, 7, none⟩))] w fun r w' => ∃ x F, r = .returned x ∧ (evAt E 0 :: F).Perm E ∧ HeapF (evAt F) n ∧ Hp base bi c0 c1 c2 c3 c4 c5 c6 (.slice (some ⟨g, 0, none⟩) n cap) F w' ∧ Kept (fun k => k = bi ∨ k = g) w w' := by
 have hlen := h.len
 have mL := Tryz.methLen ⟨bi, 7, none⟩ _ w h.cell
 have mS := Tryz.methSwap ⟨bi, 7, none⟩ _ w h.cell
 have hS := swap_any base g cap E w (by rw [hn]; exact h.row) 0 n (by omega) (by omega) (by omega)
 rw [hn] at hS
 have HH := Lib.hid h
 clear h
 go_enter Tryz.func140, Tryz.ntmps140
 go_wp2_with (first | (go_at_call 220; refine (len_any _ _ _ _).mono ?_; rintro r w2 ⟨rfl, hw⟩; subst hw) | (go_at_call 222; refine hS.mono ?_; rintro e w2 ⟨rfl, hr2, hk2⟩; refine Hid.out ?_))
 refine Lib.hid ?_
 clear mL mS hS
 have hsl : (swapL E 0 n).length = n + 1 := (swapL_len E _ _).trans hn
 have hH2 := Hp.swapped (F := swapL E 0 n) (by rw [hn]; exact HH.out) (by rw [hn]; exact hr2) hk2 (swapL_len E _ _)
 rw [hsl] at hH2
 have hok2 : ∀ e ∈ swapL E 0 n, e.ok := fun e he => hok e ((swapL_perm E 0 n (by omega) (by omega)).mem_iff.1 he)
 have hD : DownF (evAt (swapL E 0 n)) n 0 0 := by
  rcases Nat.eq_zero_or_pos n with h0 | h0
  ·rw [h0]; exact down_none _ _
  ·rw [swapL_eq E 0 n (by omega) (by omega)]
   exact down_take (HH.out.oks hn hok) hF h0
 have hdn := down_any base bi g cap (n + 1) n c0 c1 c2 c3 c4 c5 c6 (swapL E 0 n) w2 hH2 hsl (by omega) 0 (by omega) hok2 hD
 have HK2 := Lib.hid hk2
 clear hr2 hk2 hH2 hD
 go_wp2_with (go_at_call 156; refine hdn.mono ?_; rintro e w3 ⟨F, i, rfl, hA, hB, hi, hDn⟩; refine Hid.out ?_)
 refine Lib.hid ?_
 have hFl : F.length = n + 1 := hDn.perm.length_eq.trans hsl
 have hheap : HeapF (evAt F) n := by
  rcases Nat.eq_zero_or_pos i with h0 | h0
  ·exact up_done (hB h0) (Or.inl rfl)
  ·exact hA h0
 have hPo := popM_any base bi g cap n c0 c1 c2 c3 c4 c5 c6 F w3 hDn.hp hFl
 have mP := Tryz.methPop (.pointer (some ⟨bi, 7, none⟩)) w3
 have hlast : evAt F n = evAt E 0 := by rw [hDn.far n (Nat.le_refl _), swapL_eq E 0 n (by omega) (by omega), swap_b]
 have hperm : (evAt E 0 :: F.take n).Perm E := by
  have := take_perm F n hFl
  rw [hlast] at this
  exact this.trans (hDn.perm.trans (swapL_perm E 0 n (by omega) (by omega)))
 have HK3 := Lib.hid (HK2.out.trans hDn.kept (fun i e => Or.inl e))
 have HF := Lib.hid (heapF_same hheap (fun k hk => evAt_take F n k hk))
 clear hdn hDn hA hB hheap
 go_wp2_with (go_at_call 243; refine hPo.mono ?_; rintro e w4 ⟨rfl, hH4, hk4⟩; refine Hid.out ?_)
 refine Lib.hid ?_
 go_wp2
 go_ret
 exact ⟨_, F.take n, rfl, hperm, HF.out, hH4, (HK3.out.wider (fun i e => Or.inr e)).trans hk4 (fun i e => Or.inl (Or.inl e))⟩

set_option maxHeartbeats 8000000 in
set_option maxRecDepth 100000 in
theorem heapRemove_any (base bi g cap n : Nat) (c0 c1 c2 c3 c4 c5 c6 : Value) (E : List Ev) (w : World) (h : Hp base bi c0 c1 c2 c3 c4 c5 c6 (.slice (some ⟨g, 0, none⟩) (n + 1) cap) E w) (hn : E.length = n + 1) (hok : ∀ e ∈ E, e.ok) (hF : HeapF (evAt E) (n + 1)) (j : Nat) (hj : j ≤ n) :
  Calls Tryz.prog 161 #[.iface 260 (.pointer (some ⟨bi, 7, none⟩)), .int .i64 j] w fun r w' => ∃ x F, r = .returned x ∧ (evAt E j :: F).Perm E ∧ HeapF (evAt F) n ∧ Hp base bi c0 c1 c2 c3 c4 c5 c6 (.slice (some ⟨g, 0, none⟩) n cap) F w' ∧ Kept (fun k => k = bi ∨ k = g) w w' := by
 have hlen := h.len
 have mL := Tryz.methLen ⟨bi, 7, none⟩ _ w h.cell
 by_cases hjn : j = n
 ·subst hjn
  have hPo := popM_any base bi g cap j c0 c1 c2 c3 c4 c5 c6 E w h hn
  have mP := Tryz.methPop (.pointer (some ⟨bi, 7, none⟩)) w
  clear h
  go_enter Tryz.func161, Tryz.ntmps161
  go_wp2_with (first | (go_at_call 220; refine (len_any _ _ _ _).mono ?_; rintro r w2 ⟨rfl, hw⟩; subst hw) | (go_at_call 243; refine hPo.mono ?_; rintro e w4 ⟨rfl, hH4, hk4⟩; refine Hid.out ?_))
  refine Lib.hid ?_
  go_wp2
  go_ret
  exact ⟨_, E.take j, rfl, take_perm E j hn, heapF_same (f := evAt E) (fun k k0 hk => hF k k0 (by omega)) (fun k hk => evAt_take E j k hk), hH4, hk4.wider (fun i e => Or.inl e)⟩
 ·have mS := Tryz.methSwap ⟨bi, 7, none⟩ _ w h.cell
  have hS := swap_any base g cap E w (by rw [hn]; exact h.row) j n (by omega) (by omega) (by omega)
  rw [hn] at hS
  have HH := Lib.hid h
  clear h
  have hne : ¬ (n : Int) = (j : Int) := by omega
  go_enter Tryz.func161, Tryz.ntmps161
  go_wp2_with (first | (go_at_call 220; refine (len_any _ _ _ _).mono ?_; rintro r w2 ⟨rfl, hw⟩; subst hw) | (go_at_call 222; refine hS.mono ?_; rintro e w2 ⟨rfl, hr2, hk2⟩; refine Hid.out ?_))
  refine Lib.hid ?_
  clear mL mS hS
  have hsl : (swapL E j n).length = n + 1 := (swapL_len E _ _).trans hn
  have hH2 := Hp.swapped (F := swapL E j n) (by rw [hn]; exact HH.out) (by rw [hn]; exact hr2) hk2 (swapL_len E _ _)
  rw [hsl] at hH2
  have hok2 : ∀ e ∈ swapL E j n, e.ok := fun e he => hok e ((swapL_perm E j n (by omega) (by omega)).mem_iff.1 he)
  have hD : DownF (evAt (swapL E j n)) n j j := by
   rw [swapL_eq E j n (by omega) (by omega)]
   exact down_take (HH.out.oks hn hok) hF (by omega)
  have hdn := down_any base bi g cap (n + 1) n c0 c1 c2 c3 c4 c5 c6 (swapL E j n) w2 hH2 hsl (by omega) j (by omega) hok2 hD
  have HK2 := Lib.hid hk2
  clear hr2 hk2 hH2 hD
  go_wp2_with (go_at_call 156; refine hdn.mono ?_; rintro e w3 ⟨F, i, rfl, hA, hB, hi, hDn⟩; refine Hid.out ?_)
  refine Lib.hid ?_
  have hFl : F.length = n + 1 := hDn.perm.length_eq.trans hsl
  have hlast : evAt F n = evAt E j := by rw [hDn.far n (Nat.le_refl _), swapL_eq E j n (by omega) (by omega), swap_b]
  have HPe := Lib.hid (hDn.perm.trans (swapL_perm E j n (by omega) (by omega)))
  have HK3 := Lib.hid (HK2.out.trans hDn.kept (fun i e => Or.inl e))
  have HDn := Lib.hid hDn
  clear hdn hDn
  by_cases hlt : j < i
  ·have hPo := popM_any base bi g cap n c0 c1 c2 c3 c4 c5 c6 F w3 HDn.out.hp hFl
   have mP := Tryz.methPop (.pointer (some ⟨bi, 7, none⟩)) w3
   have HF := Lib.hid (heapF_same (hA hlt) (fun k hk => evAt_take F n k hk))
   have hperm : (evAt E j :: F.take n).Perm E := by
    have := take_perm F n hFl
    rw [hlast] at this
    exact this.trans HPe.out
   clear hA hB
   go_wp2_with (go_at_call 243; refine hPo.mono ?_; rintro e w4 ⟨rfl, hH4, hk4⟩; refine Hid.out ?_)
   refine Lib.hid ?_
   go_wp2
   go_ret
   exact ⟨_, F.take n, rfl, hperm, HF.out, hH4, (HK3.out.wider (fun i e => Or.inr e)).trans hk4 (fun i e => Or.inl (Or.inl e))⟩
  ·have hU := hB (by omega)
   have hupA := up_any base bi g cap (n + 1) n c0 c1 c2 c3 c4 c5 c6 F w3 HDn.out.hp hFl (by omega) j (by omega) (fun e he => hok e (HPe.out.mem_iff.1 he)) hU
   clear hA hB
   go_wp2_with (go_at_call 155; refine hupA.mono ?_; rintro e w4 ⟨rfl, G, hpG, hhG, hlG, hHG, hkG⟩; refine Hid.out ?_)
   refine Lib.hid ?_
   clear hupA hU
   have hGl : G.length = n + 1 := hpG.length_eq.trans hFl
   have hPo := popM_any base bi g cap n c0 c1 c2 c3 c4 c5 c6 G w4 hHG hGl
   have mP := Tryz.methPop (.pointer (some ⟨bi, 7, none⟩)) w4
   have HF := Lib.hid (heapF_same hhG (fun k hk => evAt_take G n k hk))
   have hperm : (evAt E j :: G.take n).Perm E := by
    have := take_perm G n hGl
    rw [hlG n (Nat.le_refl _), hlast] at this
    exact this.trans (hpG.trans HPe.out)
   have HK4 := Lib.hid (HK3.out.trans hkG (fun i e => Or.inl e))
   clear hpG hhG hHG hkG
   go_wp2_with (go_at_call 243; refine hPo.mono ?_; rintro e w5 ⟨rfl, hH5, hk5⟩; refine Hid.out ?_)
   refine Lib.hid ?_
   go_wp2
   go_ret
   exact ⟨_, G.take n, rfl, hperm, HF.out, hH5, (HK4.out.wider (fun i e => Or.inr e)).trans hk5 (fun i e => Or.inl (Or.inl e))⟩

end Go.Proofs.YtpcgnadfldimhaaGreatDoor
namespace Go.Proofs.YtpcgnadfldimhaaGreatDoor
open Go.RowKit

set_option maxHeartbeats 4000000 in
set_option maxRecDepth 100000 in
theorem add_ev (base bi : Nat) (c0 c1 c2 c3 c4 c5 c6 v : Value) (E : List Ev) (w : World) (h : Hp base bi c0 c1 c2 c3 c4 c5 c6 v E w) (hbase : base ≤ w.heap.size) (hl : E.length < 1000000000) (hok : ∀ e ∈ E, e.ok) (hF : HeapF (evAt E) E.length) (e : Ev) (he : e.ok) :
  Calls Tryz.prog 124 #[.pointer (some ⟨bi, 7, none⟩), e.agg] w fun r w' => r = .returned (.tuple #[]) ∧ ∃ g cap F, F.Perm (E ++ [e]) ∧ HeapF (evAt F) (E.length + 1) ∧ Hp base bi c0 c1 c2 c3 c4 c5 c6 (.slice (some ⟨g, 0, none⟩) (E.length + 1) cap) F w' ∧ Kept (fun k => k = bi ∨ v.ownBlock = some k) w w' ∧ (v.ownBlock = some g ∨ w.heap.size ≤ g) := by
 have hB : Below w.heap.size w (w.alloc (.cells #[.int .i64 e.kind, .int .i64 e.id, .int .i64 e.time, .int .i64 e.dest] 55)).drew := ((Below.refl _ _).alloc (Nat.le_refl _) _).drew
 have hP := heapPush_any base bi c0 c1 c2 c3 c4 c5 c6 v E _ (h.below hB) (Nat.le_trans hbase hB.size) hl hok hF e he
 have HB := Lib.hid hB
 have HP := Lib.hid hP
 clear h hB hP
 obtain ⟨ka, xa, ta, da⟩ := e
 show Calls Tryz.prog 124 #[.pointer (some ⟨bi, 7, none⟩), .agg #[.int .i64 ka, .int .i64 xa, .int .i64 ta, .int .i64 da]] w _
 go_enter Tryz.func124, Tryz.ntmps124
 go_wp2
 go_region_with (go_at_call 139; refine HP.out.mono ?_; rintro r w1 ⟨rfl, g, cap, F, hp, hh, hH1, hk1, hat⟩)
 all_goals go_wp2
 all_goals exact bodyPost_end (results_none Tryz.results124 _ _ _) rfl ⟨rfl, g, cap, F, hp, hh, hH1, (Kept.of_below HB.out).trans hk1 (fun i e => Or.inl e), hat.imp id (fun e => Nat.le_trans HB.out.size e)⟩

set_option maxHeartbeats 4000000 in
set_option maxRecDepth 100000 in
theorem next_no (base bi : Nat) (c0 c1 c2 c3 c4 c5 c6 v : Value) (E : List Ev) (w : World) (h : Hp base bi c0 c1 c2 c3 c4 c5 c6 v E w) (fin : Int) (hq : E.length = 0 ∨ fin < (evAt E 0).time) :
  Calls Tryz.prog 125 #[.pointer (some ⟨bi, 7, none⟩), .int .i64 fin] w fun r w' => r = .returned (.tuple #[.agg #[.int .i64 0, .int .i64 0, .int .i64 0, .int .i64 0], .bool false]) ∧ Below w.heap.size w w' := by
 obtain ⟨p, c, rfl⟩ := own_slice h.row
 have hc := h.cell
 have hlt := h.lt
 have hlen := h.len
 by_cases h0 : E.length = 0
 ·rw [h0] at hc
  clear h
  go_enter Tryz.func125, Tryz.ntmps125
  go_wp2
  exact bodyPost_ret (v := .tuple #[.agg #[.int .i64 0, .int .i64 0, .int .i64 0, .int .i64 0], .bool false]) (by simp [results, Tryz.results125, go_sem]) rfl ⟨rfl, (Below.refl _ _).alloc (Nat.le_refl _) _⟩
 ·obtain ⟨g, rfl⟩ : ∃ g, p = some ⟨g, 0, none⟩ := by
   rcases own_forms h.row with ⟨_, hn⟩ | ⟨g, c2, e⟩
   ·omega
   ·exact ⟨g, (Value.slice.inj e).1⟩
  obtain ⟨a0, a1, a2, a3⟩ := h.row.cells 0 (by omega)
  have hft : fin < (evAt E 0).time := by omega
  have hg : g < w.heap.size := block_lt_of_cell (a := ⟨g, 0 * 4 + 2, none⟩) a2
  generalize evAt E 0 = ev at *
  obtain ⟨ka, xa, ta, da⟩ := ev
  simp only [Nat.zero_mul, Nat.zero_add] at a0 a1 a2 a3 hft
  have hne : ¬ (E.length : Int) = 0 := by omega
  have hpos : (0 : Int) < (E.length : Int) := by omega
  clear h
  go_enter Tryz.func125, Tryz.ntmps125
  go_wp2
  exact bodyPost_ret (v := .tuple #[.agg #[.int .i64 0, .int .i64 0, .int .i64 0, .int .i64 0], .bool false]) (by simp [results, Tryz.results125, go_sem]) rfl ⟨rfl, (Below.refl _ _).alloc (Nat.le_refl _) _⟩

set_option maxHeartbeats 4000000 in
set_option maxRecDepth 100000 in
theorem next_yes (base bi g cap n : Nat) (c0 c1 c2 c3 c4 c5 c6 : Value) (E : List Ev) (w : World) (h : Hp base bi c0 c1 c2 c3 c4 c5 c6 (.slice (some ⟨g, 0, none⟩) (n + 1) cap) E w) (hn : E.length = n + 1) (hok : ∀ e ∈ E, e.ok) (hF : HeapF (evAt E) (n + 1)) (fin : Int) (hq : (evAt E 0).time ≤ fin) :
  Calls Tryz.prog 125 #[.pointer (some ⟨bi, 7, none⟩), .int .i64 fin] w fun r w' => r = .returned (.tuple #[(evAt E 0).agg, .bool true]) ∧ ∃ F, (evAt E 0 :: F).Perm E ∧ HeapF (evAt F) n ∧ Hp base bi c0 c1 c2 c3 c4 c5 c6 (.slice (some ⟨g, 0, none⟩) n cap) F w' ∧ Kept (fun k => k = bi ∨ k = g) w w' := by
 have hc := h.cell
 have hlt := h.lt
 have hlen := h.len
 obtain ⟨a0, a1, a2, a3⟩ := Row.cells (by rw [hn]; exact h.row) 0 (by omega)
 have hg : g < w.heap.size := block_lt_of_cell (a := ⟨g, 0 * 4 + 2, none⟩) a2
 have hgb : g ≠ bi := fun e => h.apart (by simp [Value.ownBlock, e])
 have HP : ∀ w1, Below w.heap.size w w1 → _ := fun w1 hb => heapPop_any base bi g cap n c0 c1 c2 c3 c4 c5 c6 E w1 (h.below hb) hn hok hF
 have HPo := Lib.hid HP
 clear h HP
 generalize evAt E 0 = ev at *
 obtain ⟨ka, xa, ta, da⟩ := ev
 simp only [Nat.zero_mul, Nat.zero_add] at a0 a1 a2 a3 hq
 have hne : ((n : Int) + 1 == 0) = false := by simp; omega
 have hpos : (0 : Int) < (n : Int) + 1 := by omega
 have hB : Below w.heap.size w ((w.alloc (.cells #[.int .i64 0, .int .i64 0, .int .i64 0, .int .i64 0] 55)).alloc (.cells #[.int .i64 ka, .int .i64 xa, .int .i64 ta, .int .i64 da] 55)) := ((Below.refl _ _).alloc (Nat.le_refl _) _).alloc (by simp) _
 have HB := Lib.hid hB
 clear hB
 go_enter Tryz.func125, Tryz.ntmps125
 go_wp2_with (go_at_call 140; refine (HPo.out _ HB.out).mono ?_; rintro r w1 ⟨x, F, rfl, hp, hh, hH1, hk1⟩; refine Hid.out ?_)
 refine Lib.hid ?_
 have hs1 : w.heap.size + 2 ≤ w1.heap.size := by have := hk1.size; simp at this; omega
 have q0 : w1.heap[w.heap.size]? = some (.cells #[.int .i64 0, .int .i64 0, .int .i64 0, .int .i64 0] 55 (0, 0)) := (hk1.block _ (by simp; omega) (fun e => by omega)).trans ((Below.heap_alloc (w.alloc _) _ _ (by simp)).trans (heap_alloc_new w _))
 have q1 : w1.heap[w.heap.size + 1]? = some (.cells #[.int .i64 ka, .int .i64 xa, .int .i64 ta, .int .i64 da] 55 (0, 0)) := (hk1.block _ (by simp) (fun e => by omega)).trans (alloc_at _ _ _ (by simp))
 have x0 := cell_of_row _ _ 0 _ _ (0, 0) q0
 have x1 := cell_of_row _ _ 1 _ _ (0, 0) q0
 have x2 := cell_of_row _ _ 2 _ _ (0, 0) q0
 have x3 := cell_of_row _ _ 3 _ _ (0, 0) q0
 have xf := fun j => frozen_of_row _ _ j _ _ q0
 have y0 := cell_of_row _ _ 0 _ _ (0, 0) q1
 have y1 := cell_of_row _ _ 1 _ _ (0, 0) q1
 have y2 := cell_of_row _ _ 2 _ _ (0, 0) q1
 have y3 := cell_of_row _ _ 3 _ _ (0, 0) q1
 simp at x0 x1 x2 x3 y0 y1 y2 y3
 have HH1 := Lib.hid hH1
 have HK1 := Lib.hid hk1
 have HQ0 := Lib.hid q0
 clear hH1 hk1 q0 q1 a0 a1 a2 a3 hc
 go_wp2
 have hbk : (putE w1 w.heap.size 0 ⟨ka, xa, ta, da⟩).heap[w.heap.size]? = some (.cells #[.int .i64 ka, .int .i64 xa, .int .i64 ta, .int .i64 da] 55 (0, 0)) := heap_setCell_same _ _ 3 _ _ _ (heap_setCell_same _ _ 2 _ _ _ (heap_setCell_same _ _ 1 _ _ _ (heap_setCell_same _ _ 0 _ _ _ HQ0.out)))
 have hK2 := (Kept.refl (fun k => k = w.heap.size) w1).putE (g := w.heap.size) (Or.inl rfl) 0 ⟨ka, xa, ta, da⟩
 have hH2 : Hp base bi c0 c1 c2 c3 c4 c5 c6 (.slice (some ⟨g, 0, none⟩) n cap) F (putE w1 w.heap.size 0 ⟨ka, xa, ta, da⟩) := ⟨(hK2.block bi HH1.out.lt (by omega)).trans HH1.out.blk, HH1.out.row.on (fun k e => hK2.block k (World.ownsRow.lt HH1.out.row k e).2 (by simp [Value.ownBlock] at e; omega)), HH1.out.len⟩
 have z0 := cell_of_row _ _ 0 _ _ (0, 0) hbk
 have z1 := cell_of_row _ _ 1 _ _ (0, 0) hbk
 have z2 := cell_of_row _ _ 2 _ _ (0, 0) hbk
 have z3 := cell_of_row _ _ 3 _ _ (0, 0) hbk
 have hK3 : Kept (fun k => k = bi ∨ k = g) w (putE w1 w.heap.size 0 ⟨ka, xa, ta, da⟩) := (((Kept.of_below HB.out).trans HK1.out (fun i e => Or.inl e)).putE (g := w.heap.size) (Or.inr (Nat.le_refl _)) 0 ⟨ka, xa, ta, da⟩)
 simp only [putE, Nat.zero_mul, Nat.zero_add] at z0 z1 z2 z3 hH2 hK3
 generalize ((((w1.setCell _ _).setCell _ _).setCell _ _).setCell _ _) = w5 at *
 simp at z0 z1 z2 z3
 exact bodyPost_ret (v := .tuple #[.agg #[.int .i64 ka, .int .i64 xa, .int .i64 ta, .int .i64 da], .bool true]) (by simp [results, Tryz.results125, go_sem, z0, z1, z2, z3]) rfl ⟨rfl, F, hp, hh, hH2, hK3⟩

end Go.Proofs.YtpcgnadfldimhaaGreatDoor
