/-
 The program's plan: what is taken at a moment, whether there is room.
-/
import Derived.Test.YtpcgnadfldimhaaGreatDoorMemG
import Derived.Test.YtpcgnadfldimhaaGreatDoorSchA
import Derived.Test.YtpcgnadfldimhaaGreatDoorSorts
import Derived.Sort.OwnSortedInts
namespace Go.Proofs.YtpcgnadfldimhaaGreatDoor
open Go.RowKit

def Res.cells (r : Res) : List Value := [.int .i64 r.width, .int .i64 r.start, .int .i64 r.stop]
theorem Res.cells_len (r : Res) : r.cells.length = 3 := rfl

theorem usedT_take (T : List Res) (t : Int) (k : Nat) (r : Res) (h : T[k]? = some r) : usedT (T.take (k + 1)) t = usedT (T.take k) t + r.at t := by
 rw [List.take_add_one, h]
 exact usedT_append _ _ _
theorem usedT_le (T : List Res) (t : Int) (hw : ∀ r ∈ T, 1 ≤ r.width ∧ r.width ≤ 64) : 0 ≤ usedT T t ∧ usedT T t ≤ 64 * T.length := by
 induction T with
 | nil => simp [usedT]
 | cons a r ih =>
  have := ih (fun x hx => hw x (List.mem_cons_of_mem _ hx))
  have h2 := hw a (List.mem_cons_self ..)
  simp only [usedT, List.map_cons, List.sum_cons, List.length_cons] at this ⊢
  have : 0 ≤ a.at t ∧ a.at t ≤ 64 := by unfold Res.at; split <;> omega
  omega

set_option maxHeartbeats 2000000 in
set_option maxRecDepth 100000 in
theorem pfits_any (nodes width t : Int) (p : Option Addr) (cap : Nat) (T : List Res) (w : World) (h : Laid Res.cells 3 w p T) (hw : ∀ r ∈ T, 1 ≤ r.width ∧ r.width ≤ 64) (hl : T.length ≤ 1000000000) (w0 : 0 ≤ width) (w1 : width ≤ 64) :
  Calls Tryz.prog 138 #[.agg #[.int .i64 nodes, .slice p T.length cap], .int .i64 width, .int .i64 t] w fun e w' => e = .returned (.bool (fitsT T nodes width t)) ∧ Below w.heap.size w w' := by
 go_enter Tryz.func138, Tryz.ntmps138
 go_wp2
 go_loopw [1, 12] (fun v i wr => ∃ k : Nat, k ≤ T.length ∧ i = .int .i64 k ∧ v = .int .i64 (width + usedT (T.take k) t) ∧ Below w.heap.size w wr ∧ wr.cell? ⟨w.heap.size, 0, none⟩ = some (.int .i64 nodes)) (fun _ i _ => T.length - (intOf i).toNat)
 case atStart => exact ⟨0, Nat.zero_le _, rfl, by simp [usedT], (Below.refl _ _).alloc (Nat.le_refl _) _, by simp⟩
 case round =>
  obtain ⟨k, hk, rfl, rfl, hbr, hn⟩ := hrel
  have hr := h.on hbr
  have hu := usedT_le (T.take k) t (fun r hr => hw r (List.mem_of_mem_take hr))
  rw [List.length_take, Nat.min_eq_left hk] at hu
  by_cases hlt : k < T.length
  ·obtain ⟨r, hj⟩ : ∃ r, T[k]? = some r := ⟨_, List.getElem?_eq_getElem hlt⟩
   obtain ⟨b, rfl, hrow⟩ := hr k r hj
   have HS := Lib.hid (usedT_take T t k r hj)
   have hwd := hw r (List.mem_of_getElem? hj)
   obtain ⟨wd, st, en⟩ := r
   generalize usedT (T.take k) t = u at *
   simp only at hwd
   clear hj hr
   by_cases h1 : st ≤ t
   ·by_cases h2 : t < en
    ·go_wp2_with (refine wpList_load_mid rfl 222 _ rfl b (k * 3) rfl [.int .i64 wd, .int .i64 st, .int .i64 en] _ hrow Tryz.underlying222 rfl (by kernel_rfl) ?_)
     go_roundw
     case rel => exact ⟨k + 1, by omega, by go_num, vint (by rw [HS.out]; simp [Res.at, h1, h2]; omega), hbr.alloc hbr.size _, cellUp hn _⟩
     case measure => simp [intOf]; omega
    ·go_wp2_with (refine wpList_load_mid rfl 222 _ rfl b (k * 3) rfl [.int .i64 wd, .int .i64 st, .int .i64 en] _ hrow Tryz.underlying222 rfl (by kernel_rfl) ?_)
     go_roundw
     case rel => exact ⟨k + 1, by omega, by go_num, vint (by rw [HS.out]; simp [Res.at, h2]), hbr.alloc hbr.size _, cellUp hn _⟩
     case measure => simp [intOf]; omega
   ·go_wp2_with (refine wpList_load_mid rfl 222 _ rfl b (k * 3) rfl [.int .i64 wd, .int .i64 st, .int .i64 en] _ hrow Tryz.underlying222 rfl (by kernel_rfl) ?_)
    go_roundw
    case rel => exact ⟨k + 1, by omega, by go_num, vint (by rw [HS.out]; simp [Res.at, h1]), hbr.alloc hbr.size _, cellUp hn _⟩
    case measure => simp [intOf]; omega
  ·obtain rfl : k = T.length := by omega
   rw [List.take_length] at *
   go_wp2
   go_ret
   exact ⟨by simp [fitsT], hbr⟩

/-- No reservation of the first k is in the way from its start on. -/
def freeOf (T : List Res) (nodes width t wall : Int) (k : Nat) : Bool := (T.take k).all fun r => !(insideT t wall r) || fitsT T nodes width r.start
theorem freeOf_step (T : List Res) (nodes width t wall : Int) (k : Nat) (r : Res) (h : T[k]? = some r) : freeOf T nodes width t wall (k + 1) = (freeOf T nodes width t wall k && (!(insideT t wall r) || fitsT T nodes width r.start)) := by
 unfold freeOf
 rw [List.take_add_one, h]
 simp [List.all_append]
theorem freeOf_all (T : List Res) (nodes width t wall : Int) : freeOf T nodes width t wall T.length = T.all fun r => !(insideT t wall r) || fitsT T nodes width r.start := by
 unfold freeOf
 rw [List.take_length]
theorem freeOf_false (T : List Res) (nodes width t wall : Int) (r : Res) (h : r ∈ T) (h1 : insideT t wall r = true) (h2 : fitsT T nodes width r.start = false) : roomT T nodes width t wall = false := by
 unfold roomT
 rw [Bool.and_eq_false_iff]
 right
 rw [List.all_eq_false]
 exact ⟨r, h, by simp [h1, h2]⟩

set_option maxHeartbeats 4000000 in
set_option maxRecDepth 100000 in
theorem hasRoom_any (nodes width t wall : Int) (p : Option Addr) (cap : Nat) (T : List Res) (w : World) (h : Laid Res.cells 3 w p T) (hw : ∀ r ∈ T, 1 ≤ r.width ∧ r.width ≤ 64) (hl : T.length ≤ 1000000000) (w0 : 0 ≤ width) (w1 : width ≤ 64) :
  Calls Tryz.prog 123 #[.agg #[.int .i64 nodes, .slice p T.length cap], .agg #[.int .i64 width, .int .i64 t, .int .i64 (t + wall)]] w fun e w' => e = .returned (.bool (roomT T nodes width t wall)) ∧ Below w.heap.size w w' := by
 have hA : Below w.heap.size w ((w.alloc (.cells #[.int .i64 nodes, .slice p T.length cap] 165)).alloc (.cells #[.int .i64 width, .int .i64 t, .int .i64 (t + wall)] 222)) := ((Below.refl _ _).alloc (Nat.le_refl _) _).alloc (by simp) _
 have HA := Lib.hid hA
 clear hA
 have H := Lib.hid h
 clear h
 go_enter Tryz.func123, Tryz.ntmps123
 go_wp2_with (go_at_call 138; refine (pfits_any nodes width t p cap T _ (H.out.on HA.out) hw hl w0 w1).mono ?_; rintro e w1' ⟨rfl, hb1⟩; refine Hid.out ?_)
 refine Lib.hid ?_
 cases hf : fitsT T nodes width t with
 | false =>
  go_wp2
  go_ret
  exact ⟨by simp [roomT, hf], HA.out.trans (hb1.mono (by simp; omega))⟩
 | true =>
  have q0 : w1'.heap[w.heap.size]? = some (.cells #[.int .i64 nodes, .slice p T.length cap] 165 (0, 0)) := (hb1.block _ (by simp; omega)).trans ((Below.heap_alloc (w.alloc _) _ _ (by simp)).trans (heap_alloc_new w _))
  have q1 : w1'.heap[w.heap.size + 1]? = some (.cells #[.int .i64 width, .int .i64 t, .int .i64 (t + wall)] 222 (0, 0)) := (hb1.block _ (by simp)).trans (alloc_at _ _ _ (by simp))
  have hbw : Below w.heap.size w w1' := HA.out.trans (hb1.mono (by simp; omega))
  have x0 := cell_of_row _ _ 0 _ _ (0, 0) q0
  have x1 := cell_of_row _ _ 1 _ _ (0, 0) q0
  simp at x0 x1
  have HQ0 := Lib.hid q0
  have HQ1 := Lib.hid q1
  have HBW := Lib.hid hbw
  clear q0 q1 hb1 hbw
  go_wp2
  go_loopw [18] (fun i wr => ∃ k : Nat, k ≤ T.length ∧ i = .int .i64 k ∧ freeOf T nodes width t wall k = true ∧ Below w.heap.size w wr ∧ Below w1'.heap.size w1' wr) (fun i _ => T.length - (intOf i).toNat)
  case atStart => exact ⟨0, Nat.zero_le _, rfl, by simp [freeOf], HBW.out, Below.refl _ _⟩
  case round =>
   obtain ⟨k, hk, rfl, hfree, hbr, hb1r⟩ := hrel
   have hs1 : w.heap.size + 2 ≤ w1'.heap.size := (Array.getElem?_eq_some_iff.1 HQ1.out).1
   have b0 := (hb1r.block _ (by omega)).trans HQ0.out
   have b1 := (hb1r.block _ (by omega)).trans HQ1.out
   have y0 := cell_of_row _ _ 0 _ _ (0, 0) b0
   have y1 := cell_of_row _ _ 1 _ _ (0, 0) b0
   have z0 := cell_of_row _ _ 0 _ _ (0, 0) b1
   have z1 := cell_of_row _ _ 1 _ _ (0, 0) b1
   have z2 := cell_of_row _ _ 2 _ _ (0, 0) b1
   simp at y0 y1 z0 z1 z2
   have hsr := hb1r.size
   clear b0 b1
   by_cases hlt : k < T.length
   ·obtain ⟨r, hj⟩ : ∃ r, T[k]? = some r := ⟨_, List.getElem?_eq_getElem hlt⟩
    obtain ⟨b, rfl, hrow⟩ := (H.out.on hbr) k r hj
    have HS := Lib.hid (freeOf_step T nodes width t wall k r hj)
    have HF := Lib.hid (freeOf_false T nodes width t wall r (List.mem_of_getElem? hj))
    obtain ⟨wd, st, en⟩ := r
    clear hj
    have hin : insideT t wall ⟨wd, st, en⟩ = (decide (t < st) && decide (st < t + wall)) := rfl
    have N0 : w.heap.size < wr.heap.size := by omega
    have N1 : w.heap.size + 1 < wr.heap.size := by omega
    by_cases h1 : t < st
    ·by_cases h2 : st < t + wall
     ·have hin2 : insideT t wall ⟨wd, st, en⟩ = true := by simp [hin, h1, h2]
      have HB := Lib.hid hbr
      have HB1 := Lib.hid hb1r
      clear hbr hb1r
      go_wp2_with (first | (refine wpList_load_mid rfl 222 _ rfl b (k * 3) rfl [.int .i64 wd, .int .i64 st, .int .i64 en] _ hrow Tryz.underlying222 rfl (by kernel_rfl) ?_) | (go_at_call 138; refine (pfits_any nodes width st _ cap T _ (H.out.on (HB.out.alloc HB.out.size _)) hw hl w0 w1).mono ?_; rintro e w3 ⟨rfl, hb3⟩; refine Hid.out ?_))
      refine Lib.hid ?_
      cases hf2 : fitsT T nodes width st with
      | false =>
       go_wp2
       go_ret
       exact ⟨by rw [HF.out hin2 hf2]; rfl, (HB.out.alloc HB.out.size _).trans (hb3.mono (by have := HB.out.size; simp; omega))⟩
      | true =>
       go_wp2
       go_roundw
       case rel => exact ⟨k + 1, by omega, by go_num, by rw [HS.out, hfree]; simp [hf2], (HB.out.alloc HB.out.size _).trans (hb3.mono (by have := HB.out.size; simp; omega)), (HB1.out.alloc HB1.out.size _).trans (hb3.mono (by have := HB1.out.size; simp; omega))⟩
       case measure => simp [intOf]; omega
     ·go_wp2_with (refine wpList_load_mid rfl 222 _ rfl b (k * 3) rfl [.int .i64 wd, .int .i64 st, .int .i64 en] _ hrow Tryz.underlying222 rfl (by kernel_rfl) ?_)
      go_roundw
      case rel => exact ⟨k + 1, by omega, by go_num, by rw [HS.out, hfree]; simp [hin, h2], hbr.alloc hbr.size _, hb1r.alloc hb1r.size _⟩
      case measure => simp [intOf]; omega
    ·go_wp2_with (refine wpList_load_mid rfl 222 _ rfl b (k * 3) rfl [.int .i64 wd, .int .i64 st, .int .i64 en] _ hrow Tryz.underlying222 rfl (by kernel_rfl) ?_)
     go_roundw
     case rel => exact ⟨k + 1, by omega, by go_num, by rw [HS.out, hfree]; simp [hin, h1], hbr.alloc hbr.size _, hb1r.alloc hb1r.size _⟩
     case measure => simp [intOf]; omega
   ·obtain rfl : k = T.length := by omega
    go_wp2
    go_ret
    refine ⟨?_, hbr⟩
    rw [freeOf_all] at hfree
    simp [roomT, hf, hfree]

end Go.Proofs.YtpcgnadfldimhaaGreatDoor
namespace Go.Proofs.YtpcgnadfldimhaaGreatDoor
open Go.RowKit Go.Sort

theorem timesT_step (T : List Res) (now : Int) (k : Nat) (r : Res) (h : T[k]? = some r) : timesT (T.take (k + 1)) now = if now < r.stop then timesT (T.take k) now ++ [r.stop] else timesT (T.take k) now := by
 unfold timesT
 rw [List.take_add_one, h, List.filter_append]
 by_cases e : now < r.stop
 ·simp [e]
 ·simp [e]
theorem timesT_len (T : List Res) (now : Int) : (timesT T now).length ≤ T.length + 1 := by
 unfold timesT
 rw [List.length_cons, List.length_map]
 have := List.length_filter_le (fun r : Res => decide (now < r.stop)) T
 omega

theorem Tryz.infoI : (Tryz.prog.info? 3).map (fun i => (i.zero, i.size, i.bytes)) = some (some (.int .i64 0), 1, 8) := by kernel_rfl

set_option maxHeartbeats 4000000 in
set_option maxRecDepth 100000 in
theorem times_any (nodes now : Int) (p : Option Addr) (cap : Nat) (T : List Res) (w : World) (h : Laid Res.cells 3 w p T) (hl : T.length ≤ 1000000000) :
  Calls Tryz.prog 122 #[.agg #[.int .i64 nodes, .slice p T.length cap], .int .i64 now] w fun e w' => ∃ g c, e = .returned (.slice (some ⟨g, 0, none⟩) (timesT T now).length c) ∧ w'.ownsRow w.heap.size 3 1 (.slice (some ⟨g, 0, none⟩) (timesT T now).length c) (timesT T now).length (((timesT T now).mergeSort fun x y => decide (x ≤ y)).map (Value.int .i64)) ∧ Below w.heap.size w w' := by
 obtain ⟨i0, hi, hz0, hz1, hz2⟩ := info_parts Tryz.infoI
 have H := Lib.hid h
 clear h
 go_enter Tryz.func122, Tryz.ntmps122
 go_wp2
 go_loopw [5, 13] (fun x i wr => ∃ k : Nat, k ≤ T.length ∧ i = .int .i64 k ∧ wr.ownsRow w.heap.size 3 1 x (timesT (T.take k) now).length ((timesT (T.take k) now).map (Value.int .i64)) ∧ Below w.heap.size w wr) (fun _ i _ => T.length - (intOf i).toNat)
 case atStart =>
  refine ⟨0, Nat.zero_le _, rfl, ⟨by simp [timesT], Or.inr ⟨w.heap.size + 1, 1, #[.int .i64 now], by simp [timesT], by omega, alloc_at _ _ _ (by simp), by simp [timesT], by unfold maxLen; omega, rfl, by simp [timesT]⟩⟩, ((Below.refl _ _).alloc (Nat.le_refl _) _).alloc (by simp) _⟩
 case round =>
  obtain ⟨k, hk, rfl, hown, hbr⟩ := hrel
  have hsr := hbr.size
  have hll : (timesT (T.take k) now).length ≤ k + 1 := by
   have := timesT_len (T.take k) now
   rw [List.length_take, Nat.min_eq_left hk] at this
   exact this
  by_cases hlt : k < T.length
  ·obtain ⟨r, hj⟩ : ∃ r, T[k]? = some r := ⟨_, List.getElem?_eq_getElem hlt⟩
   obtain ⟨b, rfl, hrow⟩ := (H.out.on hbr) k r hj
   have HS := Lib.hid (timesT_step T now k r hj)
   obtain ⟨wd, st, en⟩ := r
   clear hj
   obtain ⟨px, cx, rfl⟩ := own_slice hown
   have HO := Lib.hid hown
   clear hown
   by_cases h1 : now < en
   ·go_wp2_with (first | (refine wpList_load_mid rfl 222 _ rfl b (k * 3) rfl [.int .i64 wd, .int .i64 st, .int .i64 en] _ hrow Tryz.underlying222 rfl (by kernel_rfl) ?_) | (at_builtin; refine wpList_append_own _ rfl _ _ 53 rfl w.heap.size 3 i0 (.int .i64 0) 1 8 Tryz.underlying53 hi hz0 hz1 hz2 rfl (by decide) _ _ _ rfl ((HO.out.alloc _).alloc _) ⟨wr.heap.size + 1, 0, none⟩ 1 1 [.int .i64 en] rfl rfl (news_at _ #[.int .i64 en] _ _ (by simp)) (by intro u' hu'; simp at hu'; rcases hu' with rfl; rfl) (by unfold maxLen; omega) (by omega) (by simp; omega) ?_))
    intro v' w1 hown' hgrow _
    have hb1 : Below w.heap.size w w1 := ((((Kept.of_below (S := fun _ => False) hbr).alloc _).alloc _).grown hgrow (fun i e => Or.inr (HO.out.lt i e).1)).below (Nat.le_refl _) (fun _ e => e.elim)
    have hown3 : w1.ownsRow w.heap.size 3 1 v' (timesT (T.take (k + 1)) now).length ((timesT (T.take (k + 1)) now).map (Value.int .i64)) := by
     rw [HS.out, if_pos h1]
     simpa using hown'
    clear hown' hgrow
    go_wp2
    go_roundw
    case rel => exact ⟨k + 1, by omega, by go_num, hown3, hb1⟩
    case measure => simp [intOf]; omega
   ·go_wp2_with (refine wpList_load_mid rfl 222 _ rfl b (k * 3) rfl [.int .i64 wd, .int .i64 st, .int .i64 en] _ hrow Tryz.underlying222 rfl (by kernel_rfl) ?_)
    go_roundw
    case rel => exact ⟨k + 1, by omega, by go_num, by rw [HS.out, if_neg h1]; exact HO.out.alloc _, hbr.alloc hbr.size _⟩
    case measure => simp [intOf]; omega
  ·obtain rfl : k = T.length := by omega
   rw [List.take_length] at hown hll
   generalize hZ : timesT T now = zs at *
   have hz : 1 ≤ zs.length := by rw [← hZ]; simp [timesT]
   rcases hown.2 with ⟨_, h0⟩ | ⟨g, c, cur, rfl, hbg, hgg, hnc, hcm, hcs, htk⟩
   ·omega
   have hH := holds_of_blockI hgg (ss := zs) (by simpa using htk)
   have hgl : g < wr.heap.size := (Array.getElem?_eq_some_iff.1 hgg).1
   have hlm : (zs.mergeSort fun x y => decide (x ≤ y)).length = zs.length := List.length_mergeSort _
   go_wp2_with (go_at_call 137; refine (Tryz.slices_Sort_int g 0 c zs _ hH hgl (by omega)).mono ?_; rintro e w' ⟨rfl, n, os, rfl⟩; refine Hid.out ?_)
   refine Lib.hid ?_
   have hown4 := ownsRow_sortedI (w := wr) (n := n) (os := os) hlm hbg hgg hnc hcm (by simpa using hcs)
   have hb4 : Below w.heap.size w (grow (putRow (Value.int .i64) (Sort.ahead wr n) g 0 (zs.mergeSort fun x y => decide (x ≤ y)).toArray) os) := ((Kept.of_below (S := fun _ => False) hbr).grown (grownBy_sortedI _) (fun i e => Or.inr (by simp at e; omega))).below (Nat.le_refl _) (fun _ e => e.elim)
   generalize grow (putRow (Value.int .i64) (Sort.ahead wr n) g 0 (zs.mergeSort fun x y => decide (x ≤ y)).toArray) os = w5 at *
   go_wp2
   go_ret
   exact ⟨g, c, by rw [hZ]; rfl, by rw [hZ]; exact hown4, hb4⟩

/-- The first of the times at which there is room; the last one needs no look. -/
theorem sort_facts (zs : List Int) : (zs.mergeSort fun x y => decide (x ≤ y)).Perm zs ∧ ∀ (p q : Nat) (a b : Int), p ≤ q → (zs.mergeSort fun x y => decide (x ≤ y))[p]? = some a → (zs.mergeSort fun x y => decide (x ≤ y))[q]? = some b → a ≤ b := by
 refine ⟨List.mergeSort_perm _ _, fun p q a b hpq ha hb => ?_⟩
 have hs := List.pairwise_mergeSort (le := fun x y : Int => decide (x ≤ y)) (fun a b c h1 h2 => by simp at *; omega) (fun a b => by simp; omega) zs
 rcases Nat.lt_or_eq_of_le hpq with h | h
 ·obtain ⟨hp, ep⟩ := List.getElem?_eq_some_iff.1 ha
  obtain ⟨hq, eq⟩ := List.getElem?_eq_some_iff.1 hb
  have := List.pairwise_iff_getElem.1 hs p q hp hq h
  rw [ep, eq] at this
  simpa using this
 ·subst h
  rw [ha] at hb
  have := Option.some.inj hb
  omega

end Go.Proofs.YtpcgnadfldimhaaGreatDoor
namespace Go.Proofs.YtpcgnadfldimhaaGreatDoor
open Go.RowKit

set_option maxHeartbeats 4000000 in
set_option maxRecDepth 100000 in
theorem earliestT_any (nodes width wall now : Int) (p : Option Addr) (cap : Nat) (T : List Res) (w : World) (h : Laid Res.cells 3 w p T) (hw : ∀ r ∈ T, 1 ≤ r.width ∧ r.width ≤ 64) (hs : ∀ r ∈ T, r.stop ≤ 5000000000000000000) (hl : T.length ≤ 1000000000) (w0 : 0 ≤ width) (w1 : width ≤ 64) (v0 : 0 ≤ wall) (v1 : wall ≤ 1000000000) (t0 : 0 ≤ now) (t1 : now ≤ 5000000000000000000) :
  Calls Tryz.prog 92 #[.agg #[.int .i64 nodes, .slice p T.length cap], .int .i64 width, .int .i64 wall, .int .i64 now] w fun e w' => ∃ (q : Nat) (r : Int), e = .returned (.int .i64 r) ∧ ((timesT T now).mergeSort fun x y => decide (x ≤ y))[q]? = some r ∧ (q + 1 < ((timesT T now).mergeSort fun x y => decide (x ≤ y)).length → roomT T nodes width r wall = true) ∧ (∀ (p : Nat) (t : Int), p < q → ((timesT T now).mergeSort fun x y => decide (x ≤ y))[p]? = some t → roomT T nodes width t wall = false) ∧ Below w.heap.size w w' := by
 have hA : ∀ o, Below w.heap.size w (w.alloc o) := fun o => (Below.refl _ _).alloc (Nat.le_refl _) _
 have H := Lib.hid h
 have HA := Lib.hid hA
 clear h hA
 have hlen0 := timesT_len T now
 have hlen1 : 1 ≤ (timesT T now).length := by simp [timesT]
 have hlm : ((timesT T now).mergeSort fun x y => decide (x ≤ y)).length = (timesT T now).length := List.length_mergeSort _
 have hmem : ∀ x ∈ (timesT T now).mergeSort fun x y => decide (x ≤ y), 0 ≤ x ∧ x ≤ 5000000000000000000 := fun x hx => by
  rw [(sort_facts (timesT T now)).1.mem_iff, timesT, List.mem_cons, List.mem_map] at hx
  rcases hx with rfl | ⟨r, hr, rfl⟩
  ·exact ⟨t0, t1⟩
  ·rw [List.mem_filter] at hr
   have := hs r hr.1
   have h2 := hr.2
   simp at h2
   omega
 go_enter Tryz.func92, Tryz.ntmps92
 go_wp2_with (go_at_call 122; refine (times_any nodes now p cap T _ (H.out.on (HA.out _)) hl).mono ?_; rintro e w1' ⟨g, c, rfl, hown, hb1⟩; refine Hid.out ?_)
 refine Lib.hid ?_
 generalize hTS : (timesT T now).mergeSort (fun x y => decide (x ≤ y)) = ts at *
 rw [← hlm] at hlen0 hlen1 hown ⊢
 clear hlm
 have q0 : w1'.heap[w.heap.size]? = some (.cells #[.int .i64 nodes, .slice p T.length cap] 165 (0, 0)) := (hb1.block _ (by simp)).trans (heap_alloc_new w _)
 have hbw : Below w.heap.size w w1' := (HA.out _).trans (hb1.mono (by simp))
 have hc : ∀ j t, ts[j]? = some t → w1'.cell? ⟨g, j, none⟩ = some (.int .i64 t) := fun j t hj => by
  have hj' := (List.getElem?_eq_some_iff.1 hj).1
  rw [hown.cellAt j (by omega)]
  simp [hj]
 have hgl : g < w1'.heap.size := (hown.lt g rfl).2
 have HQ := Lib.hid q0
 have HBW := Lib.hid hbw
 have HC := Lib.hid hc
 have hcap : ts.length ≤ c := by
  rcases hown.2 with ⟨e, _⟩ | ⟨g', c', cur, e, _, _, hnc, _⟩
  ·simp at e
  ·obtain ⟨_, _, rfl⟩ := Value.slice.inj e
   exact hnc
 clear q0 hbw hc hown hb1
 obtain ⟨m, hm⟩ : ∃ m : Nat, ts.length = m + 1 := ⟨ts.length - 1, by omega⟩
 rw [hm] at hcap hlen0 hlen1 ⊢
 obtain ⟨l, hl'⟩ : ∃ l, ts[m]? = some l := ⟨_, List.getElem?_eq_getElem (by omega)⟩
 have hlc := HC.out m l hl'
 go_wp2
 go_loopw [23] (fun i wr => ∃ k : Nat, k ≤ m ∧ i = .int .i64 k ∧ (∀ (p : Nat) (t : Int), p < k → ts[p]? = some t → roomT T nodes width t wall = false) ∧ Below w.heap.size w wr ∧ Below w1'.heap.size w1' wr) (fun i _ => m - (intOf i).toNat)
 case atStart => exact ⟨0, Nat.zero_le _, rfl, fun p t hp => by omega, HBW.out, Below.refl _ _⟩
 case round =>
  obtain ⟨k, hk, rfl, hno, hbr, hb1r⟩ := hrel
  have hs1 : w.heap.size + 1 ≤ w1'.heap.size := (Array.getElem?_eq_some_iff.1 HQ.out).1
  have b0 := (hb1r.block _ (by omega)).trans HQ.out
  have hsr := hb1r.size
  have y0 := cell_of_row _ _ 0 _ _ (0, 0) b0
  have y1 := cell_of_row _ _ 1 _ _ (0, 0) b0
  simp at y0 y1
  by_cases hlt : k < m
  ·obtain ⟨t, ht⟩ : ∃ t, ts[k]? = some t := ⟨_, List.getElem?_eq_getElem (by omega)⟩
   have hct := (hb1r.cell (p := ⟨g, k, none⟩) hgl).trans (HC.out k t ht)
   have htb := hmem t (List.mem_of_getElem? ht)
   have HT := Lib.hid ht
   have HN := Lib.hid hno
   clear ht hno
   go_wp2_with (go_at_call 123; refine (hasRoom_any nodes width t wall p cap T _ (H.out.on hbr) hw hl w0 w1).mono ?_; rintro e w3 ⟨rfl, hb3⟩; refine Hid.out ?_)
   refine Lib.hid ?_
   cases hf : roomT T nodes width t wall with
   | true =>
    go_wp2
    go_ret
    exact ⟨k, t, rfl, by rw [hTS]; exact HT.out, fun _ => hf, by rw [hTS]; exact HN.out, hbr.trans (hb3.mono hbr.size)⟩
   | false =>
    go_wp2
    go_roundw
    case rel =>
     refine ⟨k + 1, by omega, by go_num, fun p t' hp ht' => ?_, hbr.trans (hb3.mono hbr.size), hb1r.trans (hb3.mono hb1r.size)⟩
     rcases Nat.lt_or_eq_of_le (Nat.le_of_lt_succ hp) with h2 | h2
     ·exact HN.out p t' h2 ht'
     ·subst h2
      rw [HT.out] at ht'
      obtain rfl := Option.some.inj ht'
      exact hf
    case measure => simp [intOf]; omega
  ·obtain rfl : k = m := by omega
   have hcl := (hb1r.cell (p := ⟨g, k, none⟩) hgl).trans hlc
   have HN := Lib.hid hno
   clear hno
   go_wp2
   go_ret
   exact ⟨k, l, rfl, by rw [hTS]; exact hl', fun h => by rw [hTS] at h; omega, by rw [hTS]; exact HN.out, hbr⟩

/-- The program's earliest time is the document's. -/
theorem pearliest_any (L : List Job) (but nodes width wall now : Int) (p : Option Addr) (cap : Nat) (w : World) (h : Laid Res.cells 3 w p (resN L but L.length)) (hw : ∀ j ∈ L, 1 ≤ j.width ∧ j.width ≤ 64) (hs : ∀ j ∈ L, j.stop ≤ 5000000000000000000) (hl : (resN L but L.length).length ≤ 1000000000) (w0 : 0 ≤ width) (w1 : width ≤ nodes) (w2 : nodes ≤ 64) (v0 : 1 ≤ wall) (v1 : wall ≤ 1000000000) (t0 : 0 ≤ now) (t1 : now ≤ 5000000000000000000) :
  Calls Tryz.prog 92 #[.agg #[.int .i64 nodes, .slice p (resN L but L.length).length cap], .int .i64 width, .int .i64 wall, .int .i64 now] w fun e w' => e = .returned (.int .i64 (earliest L nodes now width wall but)) ∧ Below w.heap.size w w' := by
 refine (earliestT_any nodes width wall now p cap _ w h (fun r hr => ?_) (fun r hr => ?_) hl w0 (by omega) (by omega) v1 t0 t1).mono ?_
 ·obtain ⟨i, j, _, hj, _, _, rfl⟩ := (mem_resN L but r _).1 hr
  exact hw j (List.mem_of_getElem? hj)
 ·obtain ⟨i, j, _, hj, _, _, rfl⟩ := (mem_resN L but r _).1 hr
  exact hs j (List.mem_of_getElem? hj)
 ·rintro e w' ⟨q, r, rfl, hq, h1, h2, hb⟩
  obtain ⟨f1, f2⟩ := sort_facts (timesT (resN L but L.length) now)
  rw [plan_is L nodes now width wall but (fun j hj => by have := (hw j hj).1; omega) t0 v0 w1 _ f1 f2 q r hq h1 h2]
  exact ⟨rfl, hb⟩

end Go.Proofs.YtpcgnadfldimhaaGreatDoor
