/-
  The program's cluster: Stat.
-/
import Derived.Test.YtpcgnadfldimhaaGreatDoorCluK
namespace Go.Proofs.YtpcgnadfldimhaaGreatDoor
open Go.RowKit

theorem drew_at (w : World) (k : Nat) : w.drew.heap[k]? = w.heap[k]? := rfl

set_option maxHeartbeats 1000000 in
set_option maxRecDepth 100000 in
theorem find_no (base bi : Nat) (nodes jobs wall last now : Int) (vr vl vh : Value) (R : List Job) (S : List (Int × Int)) (E : List Ev) (w : World) (h : Cl base bi nodes jobs wall last now vr vl vh R S E w) (x : Int) (hx : x < 1 ∨ (R.length : Int) < x) :
    Calls Tryz.prog 97 #[.pointer (some ⟨bi, 0, none⟩), .int .i64 x] w fun e w' => e = .returned (.tuple #[.pointer none, .iface 115 (.pointer (some ⟨w.heap.size, 0, none⟩))]) ∧ w' = w.alloc (.cells #[.int .i64 x] 232) := by
  obtain ⟨pr, cr, rfl⟩ := own_slice h.rcd
  have c5 := h.cell 5
  simp at c5
  have hlt := h.hp.lt
  clear h
  by_cases h1 : x < 1
  · go_enter Tryz.func97, Tryz.ntmps97
    go_wp2
    go_ret2
    exact ⟨rfl, rfl⟩
  · have h2 : (R.length : Int) < x := by omega
    go_enter Tryz.func97, Tryz.ntmps97
    go_wp2
    go_ret2
    exact ⟨rfl, rfl⟩

set_option maxHeartbeats 1000000 in
set_option maxRecDepth 100000 in
theorem find_yes (base bi g cap : Nat) (nodes jobs wall last now : Int) (vl vh : Value) (R : List Job) (S : List (Int × Int)) (E : List Ev) (w : World) (h : Cl base bi nodes jobs wall last now (.slice (some ⟨g, 0, none⟩) R.length cap) vl vh R S E w) (i : Nat) (hi : i < R.length) :
    Calls Tryz.prog 97 #[.pointer (some ⟨bi, 0, none⟩), .int .i64 ((i : Int) + 1)] w fun e w' => e = .returned (.tuple #[.pointer (some ⟨g, i * 3, none⟩), .nilIface]) ∧ w' = w := by
  have hR := recordOf_any base bi g cap nodes jobs wall last now vl vh R S E w h i hi
  have c5 := h.cell 5
  simp at c5
  have hlt := h.hp.lt
  have h1 : ¬ (i : Int) + 1 < 1 := by omega
  have h2 : ¬ (R.length : Int) < (i : Int) + 1 := by omega
  clear h
  go_enter Tryz.func97, Tryz.ntmps97
  go_wp2_with (go_at_call 98; refine hR.mono ?_; rintro e w1 ⟨rfl, hw⟩; subst w1)
  go_ret2
  exact ⟨rfl, rfl⟩

set_option maxHeartbeats 1000000 in
set_option maxRecDepth 100000 in
theorem statC_no (base bi : Nat) (nodes jobs wall last now : Int) (vr vl vh : Value) (R : List Job) (S : List (Int × Int)) (E : List Ev) (w : World) (h : Cl base bi nodes jobs wall last now vr vl vh R S E w) (x : Int) (hx : x < 1 ∨ (R.length : Int) < x) :
    Calls Tryz.prog 57 #[.pointer (some ⟨bi, 0, none⟩), .int .i64 x] w fun e w' => ∃ pa, e = .returned (.tuple #[.agg noughts6, .iface 160 (.pointer (some ⟨pa, 0, none⟩))]) ∧ RefJ w' pa ∧ Below w.heap.size w w' := by
  have hB : Below w.heap.size w (w.alloc (.cells noughts6 34)) := (Below.refl _ _).alloc (Nat.le_refl _) _
  have hF := find_no base bi nodes jobs wall last now vr vl vh R S E _ (h.below hB) x hx
  have hq := heap_alloc_new w (.cells noughts6 34)
  have hz : w.heap.size < (w.alloc (.cells noughts6 34)).heap.size := by simp
  clear h
  go_enter Tryz.func57, Tryz.ntmps57
  have HF := Lib.hid hF
  clear hF
  go_wp2_with (go_at_call 97; refine HF.out.mono ?_; rintro e w1 ⟨rfl, hw⟩; have HW := Lib.hid hw; clear hw; refine Hid.out ?_)
  refine Lib.hid ?_
  have hq1 : w1.heap[w.heap.size]? = some (.cells noughts6 34 (0, 0)) := by rw [HW.out]; exact (Below.heap_alloc _ _ _ hz).trans hq
  have hb1 : Below w.heap.size w w1 := by rw [HW.out]; exact hB.alloc hB.size _
  have hz1 : w.heap.size < w1.heap.size := (Array.getElem?_eq_some_iff.1 hq1).1
  clear HW HF hB hq hz
  have HE := Lib.hid (fun s (v : Value) (c : Addr) => refuse_putJ (X := w1.alloc (.cells #[s, .iface 115 (.pointer (some c))] 162)) (pa := w1.heap.size) ((Below.heap_alloc w1 _ _ hz1).trans hq1) ⟨c, (cell_of_row _ _ 1 _ _ (0, 0) (heap_alloc_new w1 _)).trans rfl⟩ (hb1.alloc hb1.size _))
  have HTh := Lib.hid (fun o1 => there_block (X := w1.alloc o1) ((Below.heap_alloc w1 o1 _ hz1).trans hq1))
  clear hq1 hb1
  go_wp2_with (refine store_reply rfl _ _ rfl w.heap.size noughts6 rfl rfl (HTh.out _) reply_size noughts6_one ?_; intro X5 HX5; refine Hid.out ?_)
  refine Lib.hid ?_
  have he : X5.heap[w.heap.size]? = some (.cells noughts6 34 (0, 0)) ∧ RefJ X5 w1.heap.size ∧ Below w.heap.size w X5 := by
    rw [HX5.out]
    exact HE.out _ .nilIface _
  have HE5 := Lib.hid he
  clear he HX5 HE HTh
  go_wp2
  refine bodyPost_ret (v := .tuple #[.agg noughts6, .iface 160 (.pointer (some ⟨w1.heap.size, 0, none⟩))]) (results_reply Tryz.results57 _ _ w.heap.size _ _ _ _ _ _ rfl HE5.out.1) rfl ?_
  exact ⟨w1.heap.size, rfl, HE5.out.2⟩

set_option maxHeartbeats 1000000 in
set_option maxRecDepth 100000 in
theorem statC_yes (base bi : Nat) (nodes jobs wall last now : Int) (vr vl vh : Value) (R : List Job) (S : List (Int × Int)) (E : List Ev) (w : World) (h : Cl base bi nodes jobs wall last now vr vl vh R S E w) (i : Nat) (j : Job) (hj : R[i]? = some j) :
    Calls Tryz.prog 57 #[.pointer (some ⟨bi, 0, none⟩), .int .i64 ((i : Int) + 1)] w fun e w' => e = .returned (.tuple #[.agg #[.int .i64 0, .int .i64 j.phase, .int .i64 j.start, .int .i64 j.stop, .slice none 0 0, .slice none 0 0], .nilIface]) ∧ Below w.heap.size w w' := by
  have hB : Below w.heap.size w (w.alloc (.cells noughts6 34)) := (Below.refl _ _).alloc (Nat.le_refl _) _
  obtain ⟨g, cap, rfl, r0, r1, r2, rf, hg⟩ := (h.below hB).recs i j hj
  have hF := find_yes base bi g cap nodes jobs wall last now vl vh R S E _ (h.below hB) i (List.getElem?_eq_some_iff.1 hj).1
  have hq := heap_alloc_new w (.cells noughts6 34)
  have hz : w.heap.size < (w.alloc (.cells noughts6 34)).heap.size := by simp
  have hgw : g < w.heap.size := h.lt g (Or.inr (Or.inl rfl))
  obtain ⟨wd, wl, ph, st, en⟩ := j
  simp only at r0 r1 r2
  clear h hj
  go_enter Tryz.func57, Tryz.ntmps57
  have HF := Lib.hid hF
  clear hF
  go_wp2_with (go_at_call 97; refine HF.out.mono ?_; rintro e w1 ⟨rfl, hw⟩; have HW := Lib.hid hw; clear hw; refine Hid.out ?_)
  refine Lib.hid ?_
  rw [← HW.out] at hq hB r0 r1 r2 rf hg hz
  clear HW HF
  have q0 := cell_of_row _ _ 0 _ _ (0, 0) hq
  have q1 := cell_of_row _ _ 1 _ _ (0, 0) hq
  have q2 := cell_of_row _ _ 2 _ _ (0, 0) hq
  have q3 := cell_of_row _ _ 3 _ _ (0, 0) hq
  have q4 := cell_of_row _ _ 4 _ _ (0, 0) hq
  have q5 := cell_of_row _ _ 5 _ _ (0, 0) hq
  have qf := fun j => frozen_of_row _ _ j _ _ hq
  simp at q0 q1 q2 q3 q4 q5
  have hb6 := Lib.hid ((drew_at (putR w1 w.heap.size (.int .i64 0) (.int .i64 ph) (.int .i64 st) (.int .i64 en) (.slice none 0 0) (.slice none 0 0)) w.heap.size).trans (putR_block hq (.int .i64 0) (.int .i64 ph) (.int .i64 st) (.int .i64 en) (.slice none 0 0) (.slice none 0 0)))
  have hK6 := Lib.hid ((((Kept.of_below (S := fun k => w.heap.size ≤ k) hB).putR (g := w.heap.size) (Or.inl (Nat.le_refl _)) (.int .i64 0) (.int .i64 ph) (.int .i64 st) (.int .i64 en) (.slice none 0 0) (.slice none 0 0)).below (Nat.le_refl _) (fun k e => e)).drew)
  clear hq hB
  go_wp2
  go_region
  all_goals
    go_wp2
    refine bodyPost_ret (v := .tuple #[.agg #[.int .i64 0, .int .i64 ph, .int .i64 st, .int .i64 en, .slice none 0 0, .slice none 0 0], .nilIface]) (results_reply Tryz.results57 _ _ w.heap.size _ _ _ _ _ _ rfl hb6.out) rfl ?_
    exact ⟨rfl, hK6.out⟩

end Go.Proofs.YtpcgnadfldimhaaGreatDoor
namespace Go.Proofs.YtpcgnadfldimhaaGreatDoor
open Go.RowKit

theorem freeS_bound (L : List Job) (nodes : Int) (hW : ∀ j ∈ L, 1 ≤ j.width ∧ j.width ≤ 64) : ∀ m, m ≤ (seats L).length → nodes - 64 * m ≤ freeS L nodes ((seats L).take m) ∧ freeS L nodes ((seats L).take m) ≤ nodes
  | 0, _ => by simp [freeS]
  | m + 1, hm => by
    have ih := freeS_bound L nodes hW m (by omega)
    obtain ⟨s, hs⟩ : ∃ s, (seats L)[m]? = some s := ⟨_, List.getElem?_eq_getElem (by omega)⟩
    obtain ⟨i, j, hj, _, rfl⟩ := seats_at L m s hs
    rw [freeS_step L nodes (seats L) m i j hs hj]
    have := hW j (List.mem_of_getElem? hj)
    split <;> omega

set_option maxHeartbeats 1000000 in
set_option maxRecDepth 100000 in
theorem infoC_any (base bi : Nat) (nodes jobs wall last now : Int) (vr vl vh : Value) (L : List Job) (E : List Ev) (w : World) (h : Cl base bi nodes jobs wall last now vr vl vh L (seats L) E w) (hW : ∀ j ∈ L, 1 ≤ j.width ∧ j.width ≤ 64) (hn : 1 ≤ nodes) (hn' : nodes ≤ 64) :
    Calls Tryz.prog 59 #[.pointer (some ⟨bi, 0, none⟩)] w fun e w' => e = .returned (.agg #[.int .i64 0, .int .i64 now, .int .i64 (freeN L nodes L.length), .int .i64 (liveN L L.length), .slice none 0 0, .slice none 0 0]) ∧ Below w.heap.size w w' := by
  have hB : Below w.heap.size w (w.alloc (.cells noughts6 34)) := (Below.refl _ _).alloc (Nat.le_refl _) _
  obtain ⟨pl, cl, rfl⟩ := own_slice h.liv
  have c0 := (h.below hB).cell 0
  have c6 := (h.below hB).cell 6
  simp at c0 c6
  have hq := heap_alloc_new w (.cells noughts6 34)
  have hlt : bi < w.heap.size := h.hp.lt
  have hfew := h.few
  have HH := Lib.hid h
  have HB0 := Lib.hid hB
  have HQ0 := Lib.hid hq
  clear h hB hq
  go_enter Tryz.func59, Tryz.ntmps59
  go_wp2
  go_loopw [3, 16] (fun fv iv wr => ∃ m : Nat, m ≤ (seats L).length ∧ iv = .int .i64 m ∧ fv = .int .i64 (freeS L nodes ((seats L).take m)) ∧ Below w.heap.size w wr ∧ wr.heap[w.heap.size]? = some (.cells noughts6 34 (0, 0))) (fun _ iv _ => (seats L).length - (intOf iv).toNat)
  case atStart => exact ⟨0, Nat.zero_le _, rfl, by simp [freeS], HB0.out, HQ0.out⟩
  case round =>
    obtain ⟨m, hm, rfl, rfl, hbr, hq⟩ := hrel
    have hC := HH.out.below hbr
    have hsr := hbr.size
    have hqlt := (Array.getElem?_eq_some_iff.1 hq).1
    have hfb := freeS_bound L nodes hW m hm
    by_cases hml : m < (seats L).length
    · obtain ⟨s, hs⟩ : ∃ s, (seats L)[m]? = some s := ⟨_, List.getElem?_eq_getElem hml⟩
      obtain ⟨i, j, hj, hlv, rfl⟩ := seats_at L m s hs
      obtain ⟨b, hb, hrow⟩ := owns_laid seatC_len hC.liv rfl m _ hs
      subst hb
      have HS := Lib.hid (freeS_step L nodes (seats L) m i j hs hj)
      obtain ⟨gr, cr, rfl, r0, r1, r2, rf, hgr⟩ := hC.recs i j hj
      have hii := (List.getElem?_eq_some_iff.1 hj).1
      have hwj := hW j (List.mem_of_getElem? hj)
      obtain ⟨wd, wl, ph, st, en⟩ := j
      simp only at r0 r1 r2 hwj
      have hB1 : Below wr.heap.size wr (wr.alloc (.cells #[.int .i64 ((i : Int) + 1), .int .i64 wd] 187)) := (Below.refl _ _).alloc (Nat.le_refl _) _
      have hR := recordOf_any base bi gr cr nodes jobs wall last now _ vh L (seats L) E _ (hC.below hB1) i hii
      generalize freeS L nodes ((seats L).take m) = fr at *
      have HB := Lib.hid (hbr.alloc hbr.size (.cells #[.int .i64 ((i : Int) + 1), .int .i64 wd] 187))
      have HQ := Lib.hid ((Below.heap_alloc wr (.cells #[.int .i64 ((i : Int) + 1), .int .i64 wd] 187) _ hqlt).trans hq)
      clear hbr hq hC hj hs hB1
      by_cases hp : ph = 2
      · subst hp
        go_wp2_with (first | (refine wpList_load_mid rfl 187 _ rfl b (m * 2) rfl [.int .i64 ((i : Int) + 1), .int .i64 wd] _ hrow Tryz.underlying187 rfl (by kernel_rfl) ?_) | (go_at_call 98; refine hR.mono ?_; rintro e w1 ⟨rfl, hw⟩; subst w1))
        go_roundw
        case rel => exact ⟨m + 1, by omega, by go_num, vint (by rw [HS.out]; simp), HB.out, HQ.out⟩
        case measure => simp [intOf]; omega
      · go_wp2_with (first | (refine wpList_load_mid rfl 187 _ rfl b (m * 2) rfl [.int .i64 ((i : Int) + 1), .int .i64 wd] _ hrow Tryz.underlying187 rfl (by kernel_rfl) ?_) | (go_at_call 98; refine hR.mono ?_; rintro e w1 ⟨rfl, hw⟩; subst w1))
        go_roundw
        case rel => exact ⟨m + 1, by omega, by go_num, vint (by rw [HS.out]; simp [hp]), HB.out, HQ.out⟩
        case measure => simp [intOf]; omega
    · obtain rfl : m = (seats L).length := by omega
      rw [List.take_length] at hfb ⊢
      have hfr : freeS L nodes (seats L) = freeN L nodes L.length := freeS_seats L nodes L.length
      have HSL : Hid ((seats L).length = liveN L L.length) := Lib.hid (seatsN_len L L.length)
      have c4 := hC.cell 4
      have c6' := hC.cell 6
      simp at c4 c6'
      rw [hfr] at hfb ⊢
      have hlt2 : bi < wr.heap.size := by omega
      have q0 := cell_of_row _ _ 0 _ _ (0, 0) hq
      have q1 := cell_of_row _ _ 1 _ _ (0, 0) hq
      have q2 := cell_of_row _ _ 2 _ _ (0, 0) hq
      have q3 := cell_of_row _ _ 3 _ _ (0, 0) hq
      have q4 := cell_of_row _ _ 4 _ _ (0, 0) hq
      have q5 := cell_of_row _ _ 5 _ _ (0, 0) hq
      have qf := fun j => frozen_of_row _ _ j _ _ hq
      simp at q0 q1 q2 q3 q4 q5
      generalize hfn : freeN L nodes L.length = fr at *
      have hb6 := Lib.hid ((drew_at (putR wr w.heap.size (.int .i64 0) (.int .i64 now) (.int .i64 fr) (.int .i64 ((seats L).length : Int)) (.slice none 0 0) (.slice none 0 0)) w.heap.size).trans (putR_block hq (.int .i64 0) (.int .i64 now) (.int .i64 fr) (.int .i64 ((seats L).length : Int)) (.slice none 0 0) (.slice none 0 0)))
      have hK6 := Lib.hid ((((Kept.of_below (S := fun k => w.heap.size ≤ k) hbr).putR (g := w.heap.size) (Or.inl (Nat.le_refl _)) (.int .i64 0) (.int .i64 now) (.int .i64 fr) (.int .i64 ((seats L).length : Int)) (.slice none 0 0) (.slice none 0 0)).below (Nat.le_refl _) (fun k e => e)).drew)
      clear hq hbr hC
      go_wp2
      go_region
      all_goals
        go_wp2
        refine bodyPost_ret (v := .agg #[.int .i64 0, .int .i64 now, .int .i64 fr, .int .i64 ((seats L).length : Int), .slice none 0 0, .slice none 0 0]) (results_cell_row Tryz.results59 _ _ w.heap.size _ _ _ _ rfl hb6.out Tryz.underlying34 rfl (by kernel_rfl)) rfl ?_
        exact ⟨by rw [hfn, ← HSL.out], hK6.out⟩

end Go.Proofs.YtpcgnadfldimhaaGreatDoor
namespace Go.Proofs.YtpcgnadfldimhaaGreatDoor
open Go.RowKit

theorem Tryz.infoRowP : (Tryz.prog.info? 57).map (fun i => (i.zero, i.size, i.bytes)) = some (some (.agg #[.int .i64 0, .int .i64 0, .int .i64 0, .int .i64 0]), 4, 32) := by kernel_rfl
def RowV.four (r : RowV) : List Value := [.int .i64 r.id, .int .i64 r.promise, .int .i64 r.width, .int .i64 r.wall]
theorem RowV.four_len (r : RowV) : r.four.length = 4 := rfl

set_option maxHeartbeats 2000000 in
set_option maxRecDepth 100000 in
theorem queueC_any (base bi : Nat) (nodes jobs wall last now : Int) (vr vl vh : Value) (L : List Job) (E : List Ev) (w : World) (h : Cl base bi nodes jobs wall last now vr vl vh L (seats L) E w) (hT : ∀ j ∈ L, 0 ≤ j.start ∧ 0 ≤ j.stop ∧ j.stop ≤ 5000000000000000000 ∧ j.start ≤ j.stop) :
    Calls Tryz.prog 58 #[.pointer (some ⟨bi, 0, none⟩)] w fun e w' => ∃ y, e = .returned (.agg #[.int .i64 0, .int .i64 0, .int .i64 0, .int .i64 0, y, .slice none 0 0]) ∧ w'.ownsRow (w.heap.size + 1) 57 4 y (rowsS L (seats L)).length (gfl RowV.four (rowsS L (seats L))) ∧ Below w.heap.size w w' := by
  obtain ⟨i0, hi, hz0, hz1, hz2⟩ := info_parts Tryz.infoRowP
  have hB : Below w.heap.size w (w.alloc (.cells noughts6 34)) := (Below.refl _ _).alloc (Nat.le_refl _) _
  obtain ⟨pl, cl, rfl⟩ := own_slice h.liv
  have c6 := (h.below hB).cell 6
  simp at c6
  have hq := heap_alloc_new w (.cells noughts6 34)
  have hlt : bi < w.heap.size := h.hp.lt
  have hfew := h.few
  have HH := Lib.hid h
  have HB0 := Lib.hid hB
  have HQ0 := Lib.hid hq
  clear h hB hq
  go_enter Tryz.func58, Tryz.ntmps58
  go_wp2
  go_loopw [3, 12] (fun xv iv wr => ∃ m : Nat, m ≤ (seats L).length ∧ iv = .int .i64 m ∧ wr.ownsRow (w.heap.size + 1) 57 4 xv (rowsS L ((seats L).take m)).length (gfl RowV.four (rowsS L ((seats L).take m))) ∧ Below w.heap.size w wr ∧ wr.heap[w.heap.size]? = some (.cells noughts6 34 (0, 0))) (fun _ iv _ => (seats L).length - (intOf iv).toNat)
  case atStart => exact ⟨0, Nat.zero_le _, rfl, World.ownsRow_nil _ _ _ _, HB0.out, HQ0.out⟩
  case round =>
    obtain ⟨m, hm, rfl, hown, hbr, hq⟩ := hrel
    have hC := HH.out.below hbr
    have hsr := hbr.size
    have hqlt := (Array.getElem?_eq_some_iff.1 hq).1
    obtain ⟨px, cx, rfl⟩ := own_slice hown
    have hrl := rowsS_len L ((seats L).take m)
    rw [List.length_take, Nat.min_eq_left hm] at hrl
    by_cases hml : m < (seats L).length
    · obtain ⟨s, hs⟩ : ∃ s, (seats L)[m]? = some s := ⟨_, List.getElem?_eq_getElem hml⟩
      obtain ⟨i, j, hj, hlv, rfl⟩ := seats_at L m s hs
      obtain ⟨b, hb, hrow⟩ := owns_laid seatC_len hC.liv rfl m _ hs
      subst hb
      have HS := Lib.hid (rowsS_step L (seats L) m i j hs hj)
      obtain ⟨gr, cr, rfl, r0, r1, r2, rf, hgr⟩ := hC.recs i j hj
      have hii := (List.getElem?_eq_some_iff.1 hj).1
      have hTj := hT j (List.mem_of_getElem? hj)
      obtain ⟨wd, wl, ph, st, en⟩ := j
      simp only at r0 r1 r2 hTj
      have hB1 : Below wr.heap.size wr (wr.alloc (.cells #[.int .i64 ((i : Int) + 1), .int .i64 wd] 187)) := (Below.refl _ _).alloc (Nat.le_refl _) _
      have hR := recordOf_any base bi gr cr nodes jobs wall last now _ vh L (seats L) E _ (hC.below hB1) i hii
      have HB := Lib.hid (hbr.alloc hbr.size (.cells #[.int .i64 ((i : Int) + 1), .int .i64 wd] 187))
      have HQ := Lib.hid ((Below.heap_alloc wr (.cells #[.int .i64 ((i : Int) + 1), .int .i64 wd] 187) _ hqlt).trans hq)
      have HO := Lib.hid (hown.alloc (.cells #[.int .i64 ((i : Int) + 1), .int .i64 wd] 187))
      have HN1 : Hid ((Value.slice px (rowsS L ((seats L).take m)).length cx).ownBlock ≠ some wr.heap.size) := Lib.hid (fun e => by have := (hown.lt _ e).2; omega)
      have HN2 : Hid ((Value.slice px (rowsS L ((seats L).take m)).length cx).ownBlock ≠ some gr) := Lib.hid (fun e => owns_apart hown hC.rcd (by decide) gr e (by simp [Value.ownBlock]))
      have HN3 : Hid (∀ k, (Value.slice px (rowsS L ((seats L).take m)).length cx).ownBlock = some k → w.heap.size + 1 ≤ k) := Lib.hid (fun k e => (hown.lt k e).1)
      clear hbr hq hC hj hs hB1 hown
      by_cases hp : ph = 1
      · subst hp
        have s0 : (wr.alloc (.cells #[.int .i64 ((i : Int) + 1), .int .i64 wd] 187)).cell? ⟨wr.heap.size, 0, none⟩ = some (.int .i64 ((i : Int) + 1)) := by simp
        have s1 : (wr.alloc (.cells #[.int .i64 ((i : Int) + 1), .int .i64 wd] 187)).cell? ⟨wr.heap.size, 1, none⟩ = some (.int .i64 wd) := by simp
        have t0 := cellUp r0 (.cells #[.int .i64 ((i : Int) + 1), .int .i64 wd] 187)
        have t1 := cellUp r1 (.cells #[.int .i64 ((i : Int) + 1), .int .i64 wd] 187)
        have t2 := cellUp r2 (.cells #[.int .i64 ((i : Int) + 1), .int .i64 wd] 187)
        have hszW : wr.heap.size + 1 ≤ (wr.alloc (.cells #[.int .i64 ((i : Int) + 1), .int .i64 wd] 187)).heap.size := by simp
        go_wp2_with (first | (refine wpList_load_mid rfl 187 _ rfl b (m * 2) rfl [.int .i64 ((i : Int) + 1), .int .i64 wd] _ hrow Tryz.underlying187 rfl (by kernel_rfl) ?_) | (go_at_call 98; refine hR.mono ?_; rintro e w1 ⟨rfl, hw⟩; subst w1))
        generalize wr.alloc (.cells #[.int .i64 ((i : Int) + 1), .int .i64 wd] 187) = W at *
        have n1 : wr.heap.size < W.heap.size := by omega
        have n2 : gr < W.heap.size := by omega
        clear r0 r1 r2 rf hR hrow
        go_region_held3 (fun w' => w'.cell? ⟨wr.heap.size, 0, none⟩ = some (.int .i64 ((i : Int) + 1)) ∧ w'.cell? ⟨wr.heap.size, 1, none⟩ = some (.int .i64 wd) ∧ w'.cell? ⟨gr, i * 3 + 1, none⟩ = some (.int .i64 st) ∧ w'.cell? ⟨gr, i * 3 + 2, none⟩ = some (.int .i64 en)) (go_keep) (first | (refine step_append_lies _ rfl _ _ 31 rfl (w.heap.size + 1) 57 i0 (.agg #[.int .i64 0, .int .i64 0, .int .i64 0, .int .i64 0]) 4 32 Tryz.underlying31 hi hz0 hz1 hz2 rfl (by decide) (.slice px (rowsS L ((seats L).take m)).length cx) (rowsS L ((seats L).take m)).length _ rfl (HO.out.alloc _) ⟨W.heap.size, 0, none⟩ 1 1 [.int .i64 ((i : Int) + 1), .int .i64 st, .int .i64 wd, .int .i64 (IntKind.i64.wrap (en - st))] rfl rfl (news_at W #[.int .i64 ((i : Int) + 1), .int .i64 st, .int .i64 wd, .int .i64 (IntKind.i64.wrap (en - st))] _ _ rfl) (by intro u' hu'; simp at hu'; rcases hu' with rfl | rfl | rfl | rfl <;> rfl) (by decide) (by unfold maxLen; omega) (by omega) (by simp; omega) _ rfl ?_; intro g cap w4 own grow hat lt; have HW4 := Lib.hid own; have HG4 := Lib.hid grow; have kk : ∀ k, k < W.heap.size → (Value.slice px (rowsS L ((seats L).take m)).length cx).ownBlock ≠ some k → w4.heap[k]? = W.heap[k]? := (fun k hk hne => (grow.block k (by simp; omega) (fun e => hne e.symm)).trans (Below.heap_alloc W _ k hk)); have k0 := (World.cell?_of_block (a := ⟨wr.heap.size, 0, none⟩) (kk wr.heap.size n1 HN1.out)).trans s0; have k1 := (World.cell?_of_block (a := ⟨wr.heap.size, 1, none⟩) (kk wr.heap.size n1 HN1.out)).trans s1; have k2 := (World.cell?_of_block (a := ⟨gr, i * 3 + 1, none⟩) (kk gr n2 HN2.out)).trans t1; have k3 := (World.cell?_of_block (a := ⟨gr, i * 3 + 2, none⟩) (kk gr n2 HN2.out)).trans t2; have HK4 := Lib.hid kk; clear own grow kk))
        all_goals
          have hwr : IntKind.i64.wrap (en - st) = en - st := wrap_small _ (by omega) (by omega)
          have hown5 : w4.ownsRow (w.heap.size + 1) 57 4 (.slice (some ⟨g, 0, none⟩) ((rowsS L ((seats L).take m)).length + 1) cap) (rowsS L ((seats L).take (m + 1))).length (gfl RowV.four (rowsS L ((seats L).take (m + 1)))) := by
            rw [HS.out, if_pos trivial, gfl_append, List.length_append, List.length_singleton]
            have := HW4.out
            rw [hwr] at this
            exact this
          have HO5 := Lib.hid hown5
          have HB5 := Lib.hid (((((Kept.of_below (S := fun k => w.heap.size ≤ k) HB.out).alloc _).drew).grown HG4.out (fun k e => Or.inl (by have := HN3.out k e; omega))).below (Nat.le_refl _) (fun k e => e))
          have HQ5 := Lib.hid ((HK4.out w.heap.size (by omega) (fun e => by have := HN3.out _ e; omega)).trans HQ.out)
          clear hown5 hwr HW4 HG4 HK4 k0 k1 k2 k3
          go_wp2
          go_roundw
          case rel => exact ⟨m + 1, by omega, by go_num, HO5.out, HB5.out, HQ5.out⟩
          case measure => simp [intOf]; omega
      · go_wp2_with (first | (refine wpList_load_mid rfl 187 _ rfl b (m * 2) rfl [.int .i64 ((i : Int) + 1), .int .i64 wd] _ hrow Tryz.underlying187 rfl (by kernel_rfl) ?_) | (go_at_call 98; refine hR.mono ?_; rintro e w1 ⟨rfl, hw⟩; subst w1))
        go_roundw
        case rel => exact ⟨m + 1, by omega, by go_num, by rw [HS.out, if_neg hp]; exact HO.out, HB.out, HQ.out⟩
        case measure => simp [intOf]; omega
    · obtain rfl : m = (seats L).length := by omega
      rw [List.take_length] at hown
      have q0 := cell_of_row _ _ 0 _ _ (0, 0) hq
      have q1 := cell_of_row _ _ 1 _ _ (0, 0) hq
      have q2 := cell_of_row _ _ 2 _ _ (0, 0) hq
      have q3 := cell_of_row _ _ 3 _ _ (0, 0) hq
      have q4 := cell_of_row _ _ 4 _ _ (0, 0) hq
      have q5 := cell_of_row _ _ 5 _ _ (0, 0) hq
      have qf := fun j => frozen_of_row _ _ j _ _ hq
      simp at q0 q1 q2 q3 q4 q5
      rw [List.take_length]
      have hb6 := Lib.hid (putR_block hq (.int .i64 0) (.int .i64 0) (.int .i64 0) (.int .i64 0) (.slice px (rowsS L (seats L)).length cx) (.slice none 0 0))
      have hK6 := Lib.hid (((Kept.of_below (S := fun k => w.heap.size ≤ k) hbr).putR (g := w.heap.size) (Or.inl (Nat.le_refl _)) (.int .i64 0) (.int .i64 0) (.int .i64 0) (.int .i64 0) (.slice px (rowsS L (seats L)).length cx) (.slice none 0 0)).below (Nat.le_refl _) (fun k e => e))
      have hKo := (Kept.refl (fun k => k = w.heap.size) wr).putR (g := w.heap.size) (Or.inl rfl) (.int .i64 0) (.int .i64 0) (.int .i64 0) (.int .i64 0) (.slice px (rowsS L (seats L)).length cx) (.slice none 0 0)
      have hO6 := Lib.hid (owns_on (w' := putR wr w.heap.size (.int .i64 0) (.int .i64 0) (.int .i64 0) (.int .i64 0) (.slice px (rowsS L (seats L)).length cx) (.slice none 0 0)) hown (fun k e => hKo.block k (hown.lt k e).2 (fun e2 => by have := (hown.lt k e).1; omega)))
      clear hq hbr hC hKo hown
      go_wp2
      refine bodyPost_ret (v := .agg #[.int .i64 0, .int .i64 0, .int .i64 0, .int .i64 0, .slice px (rowsS L (seats L)).length cx, .slice none 0 0]) (results_cell_row Tryz.results58 _ _ w.heap.size _ _ _ _ rfl hb6.out Tryz.underlying34 rfl (by kernel_rfl)) rfl ?_
      exact ⟨_, rfl, hO6.out, hK6.out⟩

end Go.Proofs.YtpcgnadfldimhaaGreatDoor
