/-
 The program's cluster: which phases Cancel and Done allow.
-/
import Derived.Test.YtpcgnadfldimhaaGreatDoorCluH
import Derived.Test.YtpcgnadfldimhaaGreatDoorHeapY
import Derived.Test.YtpcgnadfldimhaaGreatDoorCluF
import Derived.Test.YtpcgnadfldimhaaGreatDoorSchA
import Derived.Test.YtpcgnadfldimhaaGreatDoorMemG
namespace Go.Proofs.YtpcgnadfldimhaaGreatDoor
open Go.RowKit

set_option maxHeartbeats 1000000 in
set_option maxRecDepth 100000 in
theorem index12 (g : Nat) (v : Int) (w : World) (c0 : w.cell? ⟨g, 0, none⟩ = some (.int .i64 1)) (c1 : w.cell? ⟨g, 1, none⟩ = some (.int .i64 2)) :
  Calls Tryz.prog 142 #[.slice (some ⟨g, 0, none⟩) 2 2, .int .i64 v] w fun e w' => e = .returned (.int .i64 (if v = 1 then 0 else if v = 2 then 1 else -1)) ∧ w' = w := by
 by_cases h1 : v = 1
 ·subst h1
  go_enter Tryz.func142, Tryz.ntmps142
  go_wp2
  refine wp_loop_rounds 1 ?_
  rw [rounds_succ]
  go_wp2
  go_ret
  exact ⟨rfl, rfl⟩
 ·by_cases h2 : v = 2
  ·subst h2
   go_enter Tryz.func142, Tryz.ntmps142
   go_wp2
   refine wp_loop_rounds 2 ?_
   rw [rounds_succ]
   go_wp2
   rw [rounds_succ]
   go_wp2
   go_ret
   exact ⟨rfl, rfl⟩
  ·go_enter Tryz.func142, Tryz.ntmps142
   go_wp2
   refine wp_loop_rounds 3 ?_
   rw [rounds_succ]
   go_wp2
   rw [rounds_succ]
   go_wp2
   rw [rounds_succ]
   go_wp2
   go_ret
   exact ⟨by simp, rfl⟩

set_option maxHeartbeats 1000000 in
set_option maxRecDepth 100000 in
theorem index2 (g : Nat) (v : Int) (w : World) (c0 : w.cell? ⟨g, 0, none⟩ = some (.int .i64 2)) :
  Calls Tryz.prog 142 #[.slice (some ⟨g, 0, none⟩) 1 1, .int .i64 v] w fun e w' => e = .returned (.int .i64 (if v = 2 then 0 else -1)) ∧ w' = w := by
 by_cases h1 : v = 2
 ·subst h1
  go_enter Tryz.func142, Tryz.ntmps142
  go_wp2
  refine wp_loop_rounds 1 ?_
  rw [rounds_succ]
  go_wp2
  go_ret
  exact ⟨rfl, rfl⟩
 ·go_enter Tryz.func142, Tryz.ntmps142
  go_wp2
  refine wp_loop_rounds 2 ?_
  rw [rounds_succ]
  go_wp2
  rw [rounds_succ]
  go_wp2
  go_ret
  exact ⟨by simp, rfl⟩

set_option maxHeartbeats 1000000 in
set_option maxRecDepth 100000 in
theorem contains12 (g : Nat) (v : Int) (w : World) (c0 : w.cell? ⟨g, 0, none⟩ = some (.int .i64 1)) (c1 : w.cell? ⟨g, 1, none⟩ = some (.int .i64 2)) :
  Calls Tryz.prog 128 #[.slice (some ⟨g, 0, none⟩) 2 2, .int .i64 v] w fun e w' => e = .returned (.bool (liveB v)) ∧ w' = w := by
 obtain ⟨r, HR⟩ : ∃ r : Int, Hid ((if v = 1 then 0 else if v = 2 then 1 else -1) = r) := ⟨_, Lib.hid rfl⟩
 have HI := Lib.hid (index12 g v w c0 c1)
 rw [HR.out] at HI
 clear c0 c1
 go_enter Tryz.func128, Tryz.ntmps128
 go_wp2_with (go_at_call 142; refine HI.out.mono ?_; rintro e w1 ⟨rfl, hw⟩; subst w1)
 go_ret
 refine ⟨?_, rfl⟩
 rw [← HR.out]
 by_cases h1 : v = 1
 ·simp [h1, liveB]
 ·by_cases h2 : v = 2
  ·simp [h2, liveB]
  ·simp [h1, h2, liveB]

set_option maxHeartbeats 1000000 in
set_option maxRecDepth 100000 in
theorem contains2 (g : Nat) (v : Int) (w : World) (c0 : w.cell? ⟨g, 0, none⟩ = some (.int .i64 2)) :
  Calls Tryz.prog 128 #[.slice (some ⟨g, 0, none⟩) 1 1, .int .i64 v] w fun e w' => e = .returned (.bool (decide (v = 2))) ∧ w' = w := by
 obtain ⟨r, HR⟩ : ∃ r : Int, Hid ((if v = 2 then 0 else -1) = r) := ⟨_, Lib.hid rfl⟩
 have HI := Lib.hid (index2 g v w c0)
 rw [HR.out] at HI
 clear c0
 go_enter Tryz.func128, Tryz.ntmps128
 go_wp2_with (go_at_call 142; refine HI.out.mono ?_; rintro e w1 ⟨rfl, hw⟩; subst w1)
 go_ret
 refine ⟨?_, rfl⟩
 rw [← HR.out]
 by_cases h1 : v = 2
 ·simp [h1]
 ·simp [h1]

/-- checkPhase, by what Contains says of the phase. -/
def PhaseOk (b : Bool) (sl : Value) (ph : Int) (w : World) : Prop := ∀ W, Below w.heap.size w W → Calls Tryz.prog 128 #[sl, .int .i64 ph] W fun e w' => e = .returned (.bool b) ∧ w' = W

set_option maxHeartbeats 1000000 in
set_option maxRecDepth 100000 in
theorem checkPhase_5 (base bi : Nat) (nodes jobs wall last now : Int) (vr vl vh : Value) (R : List Job) (S : List (Int × Int)) (E : List Ev) (w : World) (h : Cl base bi nodes jobs wall last now vr vl vh R S E w) (x : Int) (hx : x < 1 ∨ (R.length : Int) < x) (sl : Value) :
  Calls Tryz.prog 95 #[.pointer (some ⟨bi, 0, none⟩), .int .i64 x, sl] w fun e w' => ∃ vb, e = .returned (.iface 115 (.pointer (some ⟨vb, 0, none⟩))) ∧ Below w.heap.size w w' := by
 have HF := Lib.hid (find_no base bi nodes jobs wall last now vr vl vh R S E w h x hx)
 clear h
 go_enter Tryz.func95, Tryz.ntmps95
 go_wp2_with (go_at_call 97; refine HF.out.mono ?_; rintro e w1 ⟨rfl, hw⟩; have HW := Lib.hid hw; clear hw; refine Hid.out ?_)
 refine Lib.hid ?_
 go_wp2
 go_ret
 exact ⟨w.heap.size, rfl, by rw [HW.out]; exact (Below.refl _ _).alloc (Nat.le_refl _) _⟩

set_option maxHeartbeats 1000000 in
set_option maxRecDepth 100000 in
theorem checkPhase_ok (base bi : Nat) (nodes jobs wall last now : Int) (vr vl vh : Value) (R : List Job) (S : List (Int × Int)) (E : List Ev) (w : World) (h : Cl base bi nodes jobs wall last now vr vl vh R S E w) (i : Nat) (j : Job) (hj : R[i]? = some j) (sl : Value) (hP : PhaseOk true sl j.phase w) :
  Calls Tryz.prog 95 #[.pointer (some ⟨bi, 0, none⟩), .int .i64 ((i : Int) + 1), sl] w fun e w' => e = .returned .nilIface ∧ Below w.heap.size w w' := by
 obtain ⟨g, cap, rfl, r0, r1, r2, rf, hg⟩ := h.recs i j hj
 have HF := Lib.hid (find_yes base bi g cap nodes jobs wall last now vl vh R S E w h i (List.getElem?_eq_some_iff.1 hj).1)
 have HP := Lib.hid hP
 clear h r1 r2 rf hP
 go_enter Tryz.func95, Tryz.ntmps95
 go_wp2_with (first | (go_at_call 97; refine HF.out.mono ?_; rintro e w1 ⟨rfl, hw⟩; subst w1) | (go_at_call 128; refine (HP.out _ (Below.refl _ _)).mono ?_; rintro e w1 ⟨rfl, hw⟩; subst w1))
 go_ret
 exact ⟨rfl, Below.refl _ _⟩

set_option maxHeartbeats 1000000 in
set_option maxRecDepth 100000 in
theorem checkPhase_6 (base bi : Nat) (nodes jobs wall last now : Int) (vr vl vh : Value) (R : List Job) (S : List (Int × Int)) (E : List Ev) (w : World) (h : Cl base bi nodes jobs wall last now vr vl vh R S E w) (a p1 p2 p3 p4 p5 : Addr) (hA : Asks a p1 p2 p3 p4 p5 w) (i : Nat) (j : Job) (hj : R[i]? = some j) (sl : Value) (hP : PhaseOk false sl j.phase w) :
  Calls Tryz.prog 95 #[.pointer (some ⟨bi, 0, none⟩), .int .i64 ((i : Int) + 1), sl] w fun e w' => ∃ vb, e = .returned (.iface 178 (.pointer (some ⟨vb, 0, none⟩))) ∧ ValE w' vb p5 ∧ Below w.heap.size w w' := by
 obtain ⟨g, cap, rfl, r0, r1, r2, rf, hg⟩ := h.recs i j hj
 have HF := Lib.hid (find_yes base bi g cap nodes jobs wall last now vl vh R S E w h i (List.getElem?_eq_some_iff.1 hj).1)
 have HP := Lib.hid hP
 have s5 := hA.s5.cell
 clear h r1 r2 rf hP hA
 go_enter Tryz.func95, Tryz.ntmps95
 go_wp2_with (first | (go_at_call 97; refine HF.out.mono ?_; rintro e w1 ⟨rfl, hw⟩; subst w1) | (go_at_call 128; refine (HP.out _ (Below.refl _ _)).mono ?_; rintro e w1 ⟨rfl, hw⟩; subst w1))
 go_ret
 exact ⟨w.heap.size, rfl, by unfold ValE; simp, (Below.refl _ _).alloc (Nat.le_refl _) _⟩

end Go.Proofs.YtpcgnadfldimhaaGreatDoor
namespace Go.Proofs.YtpcgnadfldimhaaGreatDoor
open Go.RowKit

set_option maxHeartbeats 1000000 in
theorem evIs_any (pb : Nat) (x a b c d : Int) (w : World) (h : w.cell? ⟨pb, 0, none⟩ = some (.int .i64 x)) :
  Calls Tryz.prog 160 #[.agg #[.int .i64 a, .int .i64 b, .int .i64 c, .int .i64 d], .pointer (some ⟨pb, 0, none⟩)] w fun e w' => e = .returned (.bool (decide (b = x))) ∧ w' = w.alloc (.cells #[.int .i64 a, .int .i64 b, .int .i64 c, .int .i64 d] 55) := by
 have hlt : pb < w.heap.size := block_lt_of_cell (a := ⟨pb, 0, none⟩) h
 go_enter Tryz.func160, Tryz.ntmps160
 go_wp2
 go_ret
 exact ⟨by simp; rfl, rfl⟩

/-- No event of the first k has this id. -/
def noneEv (x : Int) (E : List Ev) (k : Nat) : Prop := ∀ (m : Nat) (s : Ev), m < k → E[m]? = some s → ¬ s.id = x

set_option maxHeartbeats 4000000 in
set_option maxRecDepth 100000 in
theorem indexEv_any (p : Option Addr) (cap pb : Nat) (x : Int) (E : List Ev) (w : World) (h : Laid Ev.four 4 w p E) (hl : E.length ≤ 1000000000) (hx : w.cell? ⟨pb, 0, none⟩ = some (.int .i64 x)) :
  Calls Tryz.prog 159 #[.slice p E.length cap, .func (.func 160) #[] #[.pointer (some ⟨pb, 0, none⟩)]] w fun e w' => ((e = .returned (.int .i64 (-1)) ∧ noneEv x E E.length) ∨ ∃ (k : Nat) (s : Ev), e = .returned (.int .i64 k) ∧ E[k]? = some s ∧ s.id = x) ∧ Below w.heap.size w w' := by
 have H := Lib.hid h
 clear h
 go_enter Tryz.func159, Tryz.ntmps159
 go_wp2
 go_loopw [8] (fun i wr => ∃ k : Nat, k ≤ E.length ∧ i = .int .i64 k ∧ noneEv x E k ∧ Below w.heap.size w wr) (fun i _ => E.length - (intOf i).toNat)
 case atStart => exact ⟨0, Nat.zero_le _, rfl, fun m s hm => by omega, Below.refl _ _⟩
 case round =>
  obtain ⟨k, hk, rfl, hno, hbr⟩ := hrel
  have hxr := (hbr.cell (p := ⟨pb, 0, none⟩) (block_lt_of_cell (a := ⟨pb, 0, none⟩) hx)).trans hx
  by_cases hlt : k < E.length
  ·obtain ⟨s, hs⟩ : ∃ s, E[k]? = some s := ⟨_, List.getElem?_eq_getElem hlt⟩
   obtain ⟨b, rfl, hrow⟩ := (H.out.on hbr) k s hs
   have HN := Lib.hid hno
   have HS := Lib.hid hs
   clear hno hs
   obtain ⟨sa, sb, sc, sd⟩ := s
   go_wp2_with (first | (refine wpList_load_mid rfl 55 _ rfl b (k * 4) rfl [.int .i64 sa, .int .i64 sb, .int .i64 sc, .int .i64 sd] _ hrow Tryz.underlying55 rfl (by kernel_rfl) ?_) | (go_at_call 160; refine (evIs_any pb x sa sb sc sd _ hxr).mono ?_; rintro e w1 ⟨rfl, hw⟩; subst w1; refine Hid.out ?_))
   refine Lib.hid ?_
   have hb2 := (hbr.alloc hbr.size (.cells #[.int .i64 sa, .int .i64 sb, .int .i64 sc, .int .i64 sd] 55))
   by_cases hq : sb = x
   ·go_wp2
    go_ret
    exact ⟨Or.inr ⟨k, ⟨sa, sb, sc, sd⟩, rfl, HS.out, hq⟩, hb2⟩
   ·go_wp2
    go_roundw
    case rel =>
     refine ⟨k + 1, by omega, by go_num, fun m s hm hs => ?_, hb2⟩
     rcases Nat.lt_or_eq_of_le (Nat.le_of_lt_succ hm) with h2 | h2
     ·exact HN.out m s h2 hs
     ·subst h2
      rw [HS.out] at hs
      obtain rfl := Option.some.inj hs
      exact hq
    case measure => simp [intOf]; omega
  ·obtain rfl : k = E.length := by omega
   go_wp2
   go_ret
   exact ⟨Or.inl ⟨rfl, hno⟩, hbr⟩

set_option maxHeartbeats 4000000 in
set_option maxRecDepth 100000 in
theorem remove_ev (base bi g cap n : Nat) (c0 c1 c2 c3 c4 c5 c6 : Value) (E : List Ev) (w : World) (h : Hp base bi c0 c1 c2 c3 c4 c5 c6 (.slice (some ⟨g, 0, none⟩) (n + 1) cap) E w) (hn : E.length = n + 1) (hok : ∀ e ∈ E, e.ok) (hF : HeapF (evAt E) (n + 1)) (x : Int) (hx : ∃ e ∈ E, e.id = x) :
  Calls Tryz.prog 143 #[.pointer (some ⟨bi, 7, none⟩), .int .i64 x] w fun r w' => r = .returned (.tuple #[]) ∧ ∃ e F, e.id = x ∧ (e :: F).Perm E ∧ HeapF (evAt F) n ∧ Hp base bi c0 c1 c2 c3 c4 c5 c6 (.slice (some ⟨g, 0, none⟩) n cap) F w' ∧ Kept (fun k => k = bi ∨ k = g) w w' := by
 have hc := h.cell
 have hlt := h.lt
 have hlen := h.len
 have HI : ∀ (W : World) (pb : Nat), Below w.heap.size w W → W.cell? ⟨pb, 0, none⟩ = some (.int .i64 x) → Calls Tryz.prog 159 #[.slice (some ⟨g, 0, none⟩) (n + 1) cap, .func (.func 160) #[] #[.pointer (some ⟨pb, 0, none⟩)]] W fun e w' => ∃ k : Nat, e = .returned (.int .i64 k) ∧ (k ≤ n ∧ (evAt E k).id = x) ∧ Below W.heap.size W w' := fun W pb hb hp => by
  have hr := (h.below hb).row
  unfold Row at hr
  have hI := indexEv_any (some ⟨g, 0, none⟩) cap pb x E W (owns_laid Ev.four_len (by rw [hn] at hr; exact hr) hn.symm) hlen hp
  rw [hn] at hI
  refine hI.mono ?_
  rintro e w' ⟨⟨_, hno⟩ | ⟨k, s, rfl, hk, hs⟩, hb2⟩
  ·obtain ⟨e1, he, hid⟩ := hx
   obtain ⟨m, hm⟩ := List.mem_iff_getElem?.1 he
   exact absurd hid (hno m e1 (by have := (List.getElem?_eq_some_iff.1 hm).1; omega) hm)
  ·have hkl := (List.getElem?_eq_some_iff.1 hk).1
   refine ⟨k, rfl, ⟨by omega, ?_⟩, hb2⟩
   rw [Option.some.inj ((evAt_lt E k hkl).symm.trans hk)]
   exact hs
 have HR : ∀ (W : World) (j : Nat), Below w.heap.size w W → j ≤ n → _ := fun W j hb hj => heapRemove_any base bi g cap n c0 c1 c2 c3 c4 c5 c6 E W (h.below hb) hn hok hF j hj
 have HIo := Lib.hid HI
 have HRo := Lib.hid HR
 have HX := Lib.hid hx
 have HNn := Lib.hid hn
 clear h HI HR hx hn
 have hB : Below w.heap.size w (w.alloc (.cells #[.int .i64 x] 3)) := (Below.refl _ _).alloc (Nat.le_refl _) _
 have HB := Lib.hid hB
 clear hB
 go_enter Tryz.func143, Tryz.ntmps143
 go_wp2_with (go_at_call 159; refine (HIo.out _ w.heap.size HB.out (by simp)).mono ?_; rintro r w1 ⟨k, rfl, ⟨hk, hid⟩, hb1⟩; refine Hid.out ?_)
 refine Lib.hid ?_
 have HB1 := Lib.hid (HB.out.trans (hb1.mono (by simp)))
 have HID := Lib.hid hid
 have k0 : (0 : Int) ≤ (k : Int) := by omega
 clear hb1 hid
 go_wp2_with (go_at_call 161; refine (HRo.out _ k HB1.out hk).mono ?_; rintro r w2 ⟨y, F, rfl, hp, hh, hH, hK⟩; refine Hid.out ?_)
 refine Lib.hid ?_
 have HP := Lib.hid hp
 have HH := Lib.hid hH
 have HK := Lib.hid hK
 clear hp hH hK
 go_wp2
 exact bodyPost_end (results_none Tryz.results143 _ _ _) rfl ⟨rfl, evAt E k, F, HID.out, HP.out, hh, HH.out, (Kept.of_below HB1.out).trans HK.out (fun i e => Or.inl e)⟩

end Go.Proofs.YtpcgnadfldimhaaGreatDoor
namespace Go.Proofs.YtpcgnadfldimhaaGreatDoor
open Go.RowKit

theorem ids_unique {E : List Ev} (h : (E.map Ev.id).Nodup) {a b : Ev} (ha : a ∈ E) (hb : b ∈ E) (e : a.id = b.id) : a = b := by
 induction E with
 | nil => simp at ha
 | cons x r ih =>
  simp only [List.map_cons, List.nodup_cons] at h
  rcases List.mem_cons.1 ha with h1 | h1 <;> rcases List.mem_cons.1 hb with h2 | h2
  ·rw [h1, h2]
  ·have := List.mem_map_of_mem (f := Ev.id) h2
   rw [← e, h1] at this
   exact absurd this h.1
  ·have := List.mem_map_of_mem (f := Ev.id) h1
   rw [e, h2] at this
   exact absurd this h.1
  ·exact ih h.2 h1 h2

/-- What was due of a job is not any more. -/
theorem due_remove (base bi : Nat) (nodes jobs wall last now : Int) (vr vl vh : Value) (R L : List Job) (S : List (Int × Int)) (E : List Ev) (w : World) (h : Cl base bi nodes jobs wall last now vr vl vh R S E w) (hD : Due L E) (hF : HeapF (evAt E) E.length) (i : Nat) (j : Job) (hj : L[i]? = some j) (ha : j.active) :
  Calls Tryz.prog 143 #[.pointer (some ⟨bi, 7, none⟩), .int .i64 ((i : Int) + 1)] w fun r w' => r = .returned (.tuple #[]) ∧ ∃ vh' F, (j.event i :: F).Perm E ∧ HeapF (evAt F) F.length ∧ Cl base bi nodes jobs wall last now vr vl vh' R S F w' ∧ Trail bi vr vl vh vr vl vh' w w' := by
 have hm := hD.has i j hj ha
 obtain ⟨n, hn⟩ : ∃ n, E.length = n + 1 := ⟨E.length - 1, by have := List.length_pos_of_mem hm; omega⟩
 obtain ⟨gh, ch, rfl⟩ : ∃ g c, vh = .slice (some ⟨g, 0, none⟩) (n + 1) c := by
  rcases own_forms h.hp.row with ⟨_, h0⟩ | ⟨g, c, e⟩
  ·omega
  ·exact ⟨g, c, by rw [← hn]; exact e⟩
 refine (remove_ev base bi gh ch n _ _ _ _ _ _ _ E w h.hp hn (fun e he => hD.ok e he) (by rw [← hn]; exact hF) ((i : Int) + 1) ⟨_, hm, rfl⟩).mono ?_
 rintro r w' ⟨rfl, e, F, hid, hp, hh, hH, hK⟩
 have hee : e = j.event i := ids_unique hD.once (hp.mem_iff.1 List.mem_cons_self) hm (by rw [hid]; rfl)
 subst hee
 have hFl : F.length = n := by have := hp.length_eq; simp at this; omega
 obtain ⟨hC, hT⟩ := h.heap hH (hK.wider (fun k e => e.imp id (fun e => by simp [Value.ownBlock, e]))) (Or.inl rfl)
 exact ⟨rfl, _, F, hp, by rw [hFl]; exact hh, hC, hT⟩

/-- Three fields of a record, stored. -/
theorem Cl.rec3 {base bi g cap : Nat} {nodes jobs wall last now : Int} {vl vh : Value} {R : List Job} {S : List (Int × Int)} {E : List Ev} {w : World} (h : Cl base bi nodes jobs wall last now (.slice (some ⟨g, 0, none⟩) R.length cap) vl vh R S E w) (i : Nat) (j j' : Job) (t : Nat) (u : Value) (M : List Job) (hM : M.length = R.length) {W : World} (hW : Cl base bi nodes jobs wall last now (.slice (some ⟨g, 0, none⟩) R.length cap) vl vh M S E W) (hj : M[i]? = some j) (ht : t < 3) (e : j.three.set t u = j'.three) :
  Cl base bi nodes jobs wall last now (.slice (some ⟨g, 0, none⟩) R.length cap) vl vh (M.set i j') S E (W.setCell ⟨g, i * 3 + t, none⟩ u) ∧ Kept (fun k => k = g) W (W.setCell ⟨g, i * 3 + t, none⟩ u) := by
 have _ := h
 rw [← hM] at hW ⊢
 exact hW.store i j j' t u hj ht e

set_option maxHeartbeats 2000000 in
set_option maxRecDepth 100000 in
theorem endNow_any (base bi : Nat) (nodes jobs wall last now : Int) (vr vl vh : Value) (L : List Job) (E : List Ev) (w : World) (h : Clu base bi nodes jobs wall last now vr vl vh L E w) (i : Nat) (j : Job) (hj : L[i]? = some j) (hl : j.live = true) (ph : Int) (hp1 : ph ≠ 1) (hp2 : ph ≠ 2) :
  Calls Tryz.prog 129 #[.pointer (some ⟨bi, 0, none⟩), .int .i64 ((i : Int) + 1), .int .i64 ph] w fun e w' => e = .returned (.tuple #[]) ∧ ∃ vl' vh' E', Clu base bi nodes jobs wall last now vr vl' vh' (L.set i (j.early now ph)) E' w' ∧ Trail bi vr vl vh vr vl' vh' w w' := by
 have hi := (List.getElem?_eq_some_iff.1 hj).1
 obtain ⟨g, cap, rfl, r0, r1, r2, rf, hg⟩ := h.cl.recs i j hj
 obtain ⟨gl, cl, rfl⟩ := seats_form h.cl.liv i j hj hl
 have hR := recordOf_any base bi g cap nodes jobs wall last now _ vh L (seats L) E w h.cl i hi
 have hlt := h.cl.hp.lt
 have hlen := h.cl.len
 have c4 := h.cl.cell 4
 simp at c4
 have ha : j.active := active_live.2 hl
 obtain ⟨wd, wl, p, st, en⟩ := j
 simp only at r0 r1 r2
 have hph : p = 1 ∨ p = 2 := by simpa [Job.live, liveB] using hl
 have hgb : bi ≠ g := fun e => owns_not h.cl.rcd h.cl.hp.blk (by decide) (by simp [Value.ownBlock, e])
 have hna : ¬ ((⟨wd, wl, p, st, en⟩ : Job).early now ph).active := by
  unfold Job.active Job.early
  simp only
  omega
 have HEND : ∀ (W : World), Cl base bi nodes jobs wall last now (.slice (some ⟨g, 0, none⟩) L.length cap) (.slice (some ⟨gl, 0, none⟩) (seats L).length cl) vh (L.set i ((⟨wd, wl, p, st, en⟩ : Job).early now ph)) (seats L) E W → Kept (fun k => k = g) w W → ∀ (r : Ending) w2, (r = .returned (.tuple #[]) ∧ Cl base bi nodes jobs wall last now (.slice (some ⟨g, 0, none⟩) L.length cap) (.slice (some ⟨gl, 0, none⟩) (stay ((i : Int) + 1) (seats L)).length cl) vh (L.set i ((⟨wd, wl, p, st, en⟩ : Job).early now ph)) (stay ((i : Int) + 1) (seats L)) E w2 ∧ Trail bi (.slice (some ⟨g, 0, none⟩) L.length cap) (.slice (some ⟨gl, 0, none⟩) (seats L).length cl) vh (.slice (some ⟨g, 0, none⟩) L.length cap) (.slice (some ⟨gl, 0, none⟩) (stay ((i : Int) + 1) (seats L)).length cl) vh W w2) → ∀ w3 vh' F, ((⟨wd, wl, p, st, en⟩ : Job).event i :: F).Perm E → HeapF (evAt F) F.length → Cl base bi nodes jobs wall last now (.slice (some ⟨g, 0, none⟩) L.length cap) (.slice (some ⟨gl, 0, none⟩) (stay ((i : Int) + 1) (seats L)).length cl) vh' (L.set i ((⟨wd, wl, p, st, en⟩ : Job).early now ph)) (stay ((i : Int) + 1) (seats L)) F w3 → Trail bi (.slice (some ⟨g, 0, none⟩) L.length cap) (.slice (some ⟨gl, 0, none⟩) (stay ((i : Int) + 1) (seats L)).length cl) vh (.slice (some ⟨g, 0, none⟩) L.length cap) (.slice (some ⟨gl, 0, none⟩) (stay ((i : Int) + 1) (seats L)).length cl) vh' w2 w3 → ∃ vl' vh' E', Clu base bi nodes jobs wall last now (.slice (some ⟨g, 0, none⟩) L.length cap) vl' vh' (L.set i ((⟨wd, wl, p, st, en⟩ : Job).early now ph)) E' w3 ∧ Trail bi (.slice (some ⟨g, 0, none⟩) L.length cap) (.slice (some ⟨gl, 0, none⟩) (seats L).length cl) vh (.slice (some ⟨g, 0, none⟩) L.length cap) vl' vh' w w3 := fun W hW hK r w2 hr w3 vh' F hp hh hC hT => by
  have hse : seats (L.set i ((⟨wd, wl, p, st, en⟩ : Job).early now ph)) = stay ((i : Int) + 1) (seats L) := seats_leave L i _ hi (by simp [Job.live, liveB, Job.early, hp1, hp2])
  have hT0 : Trail bi (.slice (some ⟨g, 0, none⟩) L.length cap) (.slice (some ⟨gl, 0, none⟩) (seats L).length cl) vh (.slice (some ⟨g, 0, none⟩) L.length cap) (.slice (some ⟨gl, 0, none⟩) (seats L).length cl) vh w W := ⟨hK.wider (fun k e => Or.inr (Or.inl (by simp [Value.ownBlock, e]))), fun k e => Or.inl e⟩
  refine ⟨_, vh', F, ⟨by rw [hse]; exact hC, (h.due.perm hp).take hna, hh, ?_⟩, (hT0.trans hr.2.2).trans hT⟩
  have h5 := hp.length_eq
  have h6 := h.few
  rw [List.length_cons] at h5
  rw [List.length_set]
  omega
 have HE := Lib.hid HEND
 have HC := Lib.hid h
 have HJ := Lib.hid hj
 have HL := Lib.hid (fun (W : World) hW => leave_any base bi gl cl nodes jobs wall last now (.slice (some ⟨g, 0, none⟩) L.length cap) vh (L.set i ((⟨wd, wl, p, st, en⟩ : Job).early now ph)) (seats L) E W hW ((i : Int) + 1))
 have HD := Lib.hid (fun (W : World) hW => due_remove base bi nodes jobs wall last now (.slice (some ⟨g, 0, none⟩) L.length cap) (.slice (some ⟨gl, 0, none⟩) (stay ((i : Int) + 1) (seats L)).length cl) vh (L.set i ((⟨wd, wl, p, st, en⟩ : Job).early now ph)) L (stay ((i : Int) + 1) (seats L)) E W hW h.due h.heap i _ hj ha)
 clear HEND
 rcases hph with rfl | rfl
 ·obtain ⟨s1, k1⟩ := h.cl.rec3 i ⟨wd, wl, 1, st, en⟩ ⟨wd, wl, 1, now, en⟩ 1 (.int .i64 now) L rfl h.cl hj (by omega) rfl
  obtain ⟨s2, k2⟩ := h.cl.rec3 i ⟨wd, wl, 1, now, en⟩ ⟨wd, wl, ph, now, en⟩ 0 (.int .i64 ph) _ (by simp) s1 (by simp [hi]) (by omega) rfl
  obtain ⟨s3, k3⟩ := h.cl.rec3 i ⟨wd, wl, ph, now, en⟩ ⟨wd, wl, ph, now, now⟩ 2 (.int .i64 now) _ (by simp) s2 (by simp [hi]) (by omega) rfl
  simp only [List.set_set, Nat.add_zero] at s3 k1 k2 k3
  have hej : (⟨wd, wl, 1, st, en⟩ : Job).early now ph = ⟨wd, wl, ph, now, now⟩ := by simp [Job.early]
  rw [← hej] at s3
  have HS := Lib.hid s3
  have HK := Lib.hid ((k1.trans k2 (fun _ e => Or.inl e)).trans k3 (fun _ e => Or.inl e))
  clear h hl hj s1 s2 s3 k1 k2 k3 hej ha hna
  go_enter Tryz.func129, Tryz.ntmps129
  go_wp2_with (first | (go_at_call 98; refine hR.mono ?_; rintro e w1 ⟨rfl, hw⟩; subst w1) | (go_at_call 141; refine (HL.out _ HS.out).mono ?_; rintro e w2 ⟨rfl, hC2, hT2⟩; refine Hid.out ?_))
  refine Lib.hid ?_
  have HC2 := Lib.hid hC2
  have HT2 := Lib.hid hT2
  clear hC2 hT2
  go_wp2_with (go_at_call 143; refine (HD.out _ HC2.out).mono ?_; rintro e w3 ⟨rfl, vh', F, hp, hh, hC3, hT3⟩; refine Hid.out ?_)
  refine Lib.hid ?_
  have HF := Lib.hid (HE.out _ HS.out HK.out _ w2 ⟨rfl, HC2.out, HT2.out⟩ w3 vh' F hp hh hC3 hT3)
  clear hp hh hC3 hT3
  go_wp2
  exact bodyPost_end (results_none Tryz.results129 _ _ _) rfl ⟨rfl, HF.out⟩
 ·obtain ⟨s2, k2⟩ := h.cl.rec3 i ⟨wd, wl, 2, st, en⟩ ⟨wd, wl, ph, st, en⟩ 0 (.int .i64 ph) L rfl h.cl hj (by omega) rfl
  obtain ⟨s3, k3⟩ := h.cl.rec3 i ⟨wd, wl, ph, st, en⟩ ⟨wd, wl, ph, st, now⟩ 2 (.int .i64 now) _ (by simp) s2 (by simp [hi]) (by omega) rfl
  simp only [List.set_set, Nat.add_zero] at s3 k2 k3
  have hej : (⟨wd, wl, 2, st, en⟩ : Job).early now ph = ⟨wd, wl, ph, st, now⟩ := by simp [Job.early]
  rw [← hej] at s3
  have HS := Lib.hid s3
  have HK := Lib.hid (k2.trans k3 (fun _ e => Or.inl e))
  clear h hl hj s2 s3 k2 k3 hej ha hna
  go_enter Tryz.func129, Tryz.ntmps129
  go_wp2_with (first | (go_at_call 98; refine hR.mono ?_; rintro e w1 ⟨rfl, hw⟩; subst w1) | (go_at_call 141; refine (HL.out _ HS.out).mono ?_; rintro e w2 ⟨rfl, hC2, hT2⟩; refine Hid.out ?_))
  refine Lib.hid ?_
  have HC2 := Lib.hid hC2
  have HT2 := Lib.hid hT2
  clear hC2 hT2
  go_wp2_with (go_at_call 143; refine (HD.out _ HC2.out).mono ?_; rintro e w3 ⟨rfl, vh', F, hp, hh, hC3, hT3⟩; refine Hid.out ?_)
  refine Lib.hid ?_
  have HF := Lib.hid (HE.out _ HS.out HK.out _ w2 ⟨rfl, HC2.out, HT2.out⟩ w3 vh' F hp hh hC3 hT3)
  clear hp hh hC3 hT3
  go_wp2
  exact bodyPost_end (results_none Tryz.results129 _ _ _) rfl ⟨rfl, HF.out⟩

end Go.Proofs.YtpcgnadfldimhaaGreatDoor
namespace Go.Proofs.YtpcgnadfldimhaaGreatDoor
open Go.RowKit

/-- An event more. -/
theorem due_add (base bi : Nat) (nodes jobs wall last now : Int) (vr vl vh : Value) (R : List Job) (S : List (Int × Int)) (E : List Ev) (w : World) (h : Cl base bi nodes jobs wall last now vr vl vh R S E w) (hbase : base ≤ w.heap.size) (hl : E.length < 1000000000) (hok : ∀ e ∈ E, e.ok) (hF : HeapF (evAt E) E.length) (e : Ev) (he : e.ok) :
  Calls Tryz.prog 124 #[.pointer (some ⟨bi, 7, none⟩), e.agg] w fun r w' => r = .returned (.tuple #[]) ∧ ∃ vh' F, F.Perm (E ++ [e]) ∧ HeapF (evAt F) F.length ∧ Cl base bi nodes jobs wall last now vr vl vh' R S F w' ∧ Trail bi vr vl vh vr vl vh' w w' := by
 refine (add_ev base bi _ _ _ _ _ _ _ vh E w h.hp hbase hl hok hF e he).mono ?_
 rintro r w' ⟨rfl, g, cap, F, hp, hh, hH, hK, hat⟩
 have hFl : F.length = E.length + 1 := by have := hp.length_eq; simpa using this
 obtain ⟨hC, hT⟩ := h.heap hH hK hat
 exact ⟨rfl, _, F, hp, by rw [hFl]; exact hh, hC, hT⟩

set_option maxHeartbeats 2000000 in
set_option maxRecDepth 100000 in
theorem promise_any (base bi : Nat) (nodes jobs wall last now : Int) (vr vl vh : Value) (L : List Job) (E : List Ev) (w : World) (h : Clu base bi nodes jobs wall last now vr vl vh L E w) (hbase : base ≤ w.heap.size) (i : Nat) (j : Job) (hj : L[i]? = some j) (hp : j.phase = 1) (hw : j.start + j.wall = j.stop) (b1 : 0 ≤ j.start) (b2 : j.stop ≤ 5000000000000000000) (b3 : 0 ≤ j.wall) (b4 : j.wall ≤ 1000000000) (t : Int) (t0 : 0 ≤ t) (t1 : t ≤ 5000000000000000000) :
  Calls Tryz.prog 162 #[.pointer (some ⟨bi, 0, none⟩), .int .i64 ((i : Int) + 1), .int .i64 t] w fun e w' => e = .returned (.tuple #[]) ∧ ∃ vh' E', Clu base bi nodes jobs wall last now vr vl vh' (L.set i (j.moved t)) E' w' ∧ Trail bi vr vl vh vr vl vh' w w' := by
 have hi := (List.getElem?_eq_some_iff.1 hj).1
 obtain ⟨g, cap, rfl, r0, r1, r2, rf, hg⟩ := h.cl.recs i j hj
 have hR := recordOf_any base bi g cap nodes jobs wall last now _ vh L (seats L) E w h.cl i hi
 have hlt := h.cl.hp.lt
 have hlen := h.cl.len
 have ha : j.active := Or.inl hp
 obtain ⟨wd, wl, p, st, en⟩ := j
 simp only at r0 r1 r2 hp hw b1 b2 b3 b4
 subst hp
 have hew : en - st = wl := by omega
 have hgb : bi ≠ g := fun e => owns_not h.cl.rcd h.cl.hp.blk (by decide) (by simp [Value.ownBlock, e])
 obtain ⟨s2, k2⟩ := h.cl.rec3 i ⟨wd, wl, 1, st, en⟩ ⟨wd, wl, 1, t, en⟩ 1 (.int .i64 t) L rfl h.cl hj (by omega) rfl
 obtain ⟨s3, k3⟩ := h.cl.rec3 i ⟨wd, wl, 1, t, en⟩ ⟨wd, wl, 1, t, t + wl⟩ 2 (.int .i64 (t + wl)) _ (by simp) s2 (by simp [hi]) (by omega) rfl
 simp only [List.set_set] at s3
 have hmv : (⟨wd, wl, 1, st, en⟩ : Job).moved t = ⟨wd, wl, 1, t, t + wl⟩ := rfl
 rw [← hmv] at s3
 have hse : seats (L.set i ((⟨wd, wl, 1, st, en⟩ : Job).moved t)) = seats L := seats_set L i _ _ hj rfl rfl
 have HS := Lib.hid s3
 have HK := Lib.hid (k2.trans k3 (fun _ e => Or.inl e))
 have HD := Lib.hid (fun (W : World) hW => due_remove base bi nodes jobs wall last now (.slice (some ⟨g, 0, none⟩) L.length cap) vl vh (L.set i ((⟨wd, wl, 1, st, en⟩ : Job).moved t)) L (seats L) E W hW h.due h.heap i _ hj ha)
 have HDU : ∀ (F G : List Ev), ((⟨wd, wl, 1, st, en⟩ : Job).event i :: F).Perm E → G.Perm (F ++ [(⟨1, (i : Int) + 1, t, 0⟩ : Ev)]) → Due (L.set i ((⟨wd, wl, 1, st, en⟩ : Job).moved t)) G ∧ G.length ≤ L.length := fun F G h1 h2 => by
  have d1 := (h.due.perm h1).take (a := ⟨wd, wl, 5, st, en⟩) (by simp [Job.active])
  have d2 := d1.put (b := (⟨wd, wl, 1, st, en⟩ : Job).moved t) hi (by simp [Job.active]) (Or.inl rfl)
  have e1 : ((⟨wd, wl, 1, st, en⟩ : Job).moved t).event i = ⟨1, (i : Int) + 1, t, 0⟩ := by simp [Job.event, Job.moved, Job.due]
  rw [e1] at d2
  have l1 := h1.length_eq
  have l2 := h2.length_eq
  have l3 := h.few
  rw [List.length_cons] at l1
  rw [List.length_append, List.length_singleton] at l2
  exact ⟨d2.perm h2, by omega⟩
 have HOK : ∀ F : List Ev, ((⟨wd, wl, 1, st, en⟩ : Job).event i :: F).Perm E → (∀ e ∈ F, e.ok) ∧ F.length < 1000000000 := fun F h1 => by
  have l1 := h1.length_eq
  have l3 := h.few
  rw [List.length_cons] at l1
  exact ⟨fun e he => h.due.ok e (h1.mem_iff.1 (List.mem_cons_of_mem _ he)), by omega⟩
 have HU := Lib.hid HDU
 have HO := Lib.hid HOK
 have HSE := Lib.hid hse
 clear h hj s2 s3 k2 k3 hmv ha HDU HOK hse
 go_enter Tryz.func162, Tryz.ntmps162
 go_wp2_with (go_at_call 98; refine hR.mono ?_; rintro e w1 ⟨rfl, hw⟩; subst w1)
 go_quiet (fail)
 have HDq := Lib.hid (HD.out (((w.drewN nq).setCell ⟨g, i * 3 + 1, none⟩ (.int .i64 t)).setCell ⟨g, i * 3 + 2, none⟩ (.int .i64 (t + wl))) (HS.out.on (fun _ _ => rfl)))
 go_wp2_with (go_at_call 143; refine HDq.out.mono ?_; rintro e w3 ⟨rfl, vh3, F, hpF, hhF, hC3, hT3⟩; refine Hid.out ?_)
 refine Lib.hid ?_
 obtain ⟨hok, hFl⟩ := HO.out F hpF
 have hs3 : w.heap.size ≤ w3.heap.size := by have h1 := hT3.kept.size; simpa using h1
 have hT0 : Trail bi (.slice (some ⟨g, 0, none⟩) L.length cap) vl vh (.slice (some ⟨g, 0, none⟩) L.length cap) vl vh3 w w3 := by
  have h1 : Trail bi (.slice (some ⟨g, 0, none⟩) L.length cap) vl vh (.slice (some ⟨g, 0, none⟩) L.length cap) vl vh w (((w.drewN nq).setCell ⟨g, i * 3 + 1, none⟩ (.int .i64 t)).setCell ⟨g, i * 3 + 2, none⟩ (.int .i64 (t + wl))) := ⟨(((Kept.refl (clB bi (.slice (some ⟨g, 0, none⟩) L.length cap) vl vh) w).drewN nq).setCell (p := ⟨g, i * 3 + 1, none⟩) (Or.inl (Or.inr (Or.inl (by simp [Value.ownBlock])))) _).setCell (p := ⟨g, i * 3 + 2, none⟩) (Or.inl (Or.inr (Or.inl (by simp [Value.ownBlock])))) _, fun k e => Or.inl e⟩
  exact h1.trans hT3
 have HAd := Lib.hid (due_add base bi nodes jobs wall last now _ vl vh3 _ (seats L) F w3 hC3 (by omega) hFl hok hhF ⟨1, (i : Int) + 1, t, 0⟩ (Or.inl rfl))
 have HT0 := Lib.hid hT0
 have HPF := Lib.hid hpF
 clear hC3 hT3 hT0 hpF
 go_wp2_with (go_at_call 124; refine HAd.out.mono ?_; rintro e w4 ⟨rfl, vh4, G, hpG, hhG, hC4, hT4⟩; refine Hid.out ?_)
 refine Lib.hid ?_
 obtain ⟨hdu, hfw⟩ := HU.out F G HPF.out hpG
 have HF : Hid (∃ vh' E', Clu base bi nodes jobs wall last now (.slice (some ⟨g, 0, none⟩) L.length cap) vl vh' (L.set i ((⟨wd, wl, 1, st, en⟩ : Job).moved t)) E' w4 ∧ Trail bi (.slice (some ⟨g, 0, none⟩) L.length cap) vl vh (.slice (some ⟨g, 0, none⟩) L.length cap) vl vh' w w4) := Lib.hid ⟨vh4, G, ⟨by rw [HSE.out]; exact hC4, hdu, hhG, by rw [List.length_set]; exact hfw⟩, HT0.out.trans hT4⟩
 clear hC4 hT4 hpG hhG hdu
 go_wp2
 exact bodyPost_end (results_none Tryz.results162 _ _ _) rfl ⟨rfl, HF.out⟩

end Go.Proofs.YtpcgnadfldimhaaGreatDoor
namespace Go.Proofs.YtpcgnadfldimhaaGreatDoor
open Go.RowKit

theorem run_append_empty {P : Program} {w : World} (base : Nat) (t ty e : TypeId) (i : TypeInfo) (size : Nat) (ht : P.underlying t = some (.slice e)) (hi : P.info? e = some i) (v : Value) (n : Nat) (xs : List Value) (hown : w.ownsRow base e size v n xs) (ad : Addr) (c : Nat) :
  (Builtin.append_ #[t, t] ty #[v, .slice (some ad) 0 c]).run P w = .ok v w := by
 rcases hown.2 with ⟨rfl, rfl⟩ | ⟨g, cap, cur, rfl, _, _, hnc, _⟩
 ·simp [Builtin.append_, run_underlying ht, sizeOf, typeInfo, hi, Builtin.lenOf, Builtin.firstCells, loadCells, loadCellsFrom]
 ·simp [Builtin.append_, run_underlying ht, sizeOf, typeInfo, hi, Builtin.lenOf, Builtin.firstCells, hnc, storeCells, loadCells, loadCellsFrom]

theorem append_two {P : Program} (w : World) (t ty : TypeId) (base : Nat) (e : TypeId) (i : TypeInfo) (z : Value) (size bytes : Nat) (ht : P.underlying t = some (.slice e)) (hi : P.info? e = some i) (hz : i.zero = some z)
  (hsize : i.size = size) (hby : i.bytes = bytes) (hzs : z.cells.size = size) (hsz : 0 < size) (v : Value) (n : Nat) (xs : List Value) (hown : w.ownsRow base e size v n xs) (b2 : Nat) (y : Value) (m : Nat) (ys : List Value) (hy : w.ownsRow b2 e size y m ys) (h1 : ∀ u ∈ ys, u.oneCell' = true) (h63 : n + m ≤ maxLen) (hbytes : (n + m) * bytes ≤ 140737488355328) (hbase : base ≤ w.heap.size) :
  ∃ p c w', (Builtin.append_ #[t, t] ty #[v, y]).run P w = .ok (.slice p (n + m) c) w' ∧ w'.ownsRow base e size (.slice p (n + m) c) (n + m) (xs ++ ys) ∧ Kept (fun k => v.ownBlock = some k) w w' ∧ ∀ k, (Value.slice p (n + m) c).ownBlock = some k → v.ownBlock = some k ∨ w.heap.size ≤ k := by
 have hys := hy.1
 obtain ⟨pv, cv, rfl⟩ := own_slice hown
 by_cases hm : m = 0
 ·subst hm
  have hn0 : ys = [] := List.eq_nil_of_length_eq_zero (by omega)
  subst hn0
  refine ⟨pv, cv, w, ?_, by simpa using hown, Kept.refl _ _, fun k e => Or.inl e⟩
  rcases own_forms hy with ⟨rfl, _⟩ | ⟨g, c, rfl⟩
  ·exact run_append_owned_none w base t ty e i size ht hi _ n xs hown
  ·exact run_append_empty base t ty e i size ht hi _ n xs hown _ c
 ·obtain ⟨g, c, rfl⟩ : ∃ g c, y = .slice (some ⟨g, 0, none⟩) m c := by
   rcases own_forms hy with ⟨_, h0⟩ | ⟨g, c, e⟩
   ·omega
   ·exact ⟨g, c, e⟩
  obtain ⟨g2, cap, w', hr, h2, h3⟩ := append_parts (P := P) w t ty base e i z size bytes ht hi hz hsize hby hzs hsz _ n xs hown ⟨g, 0, none⟩ m c ys hys (hy.cells rfl) h1 (by omega) h63 hbytes hbase
  refine ⟨_, _, w', hr, h2, ?_, fun k e => ?_⟩
  ·exact (Kept.refl (fun k => (Value.slice pv n cv).ownBlock = some k) w).parts h3 (fun k e => Or.inl e)
  ·obtain rfl : g2 = k := by simpa [Value.ownBlock] using e
   rcases h3 with ⟨e3, _⟩ | ⟨e3, _⟩
   ·exact Or.inl (by rw [e3]; simp [Value.ownBlock])
   ·exact Or.inr (by omega)

theorem step_append_two {P : Program} {w : World} {ops : Array Oper} {o : Oper} {a : Act} {K : Act → World → Prop} {Q : Exit → Act → World → Prop} {E : Prop} (hgd : o.guard = none) (s x : Operand) (t : TypeId)
  (ho : o.op = .call { callee := .builtin .append, args := #[s, x], argTypes := #[t, t] })
  (base : Nat) (e : TypeId) (i : TypeInfo) (z : Value) (size bytes : Nat) (ht : P.underlying t = some (.slice e)) (hi : P.info? e = some i) (hz : i.zero = some z)
  (hsize : i.size = size) (hby : i.bytes = bytes) (hzs : z.cells.size = size) (hsz : 0 < size) (v : Value) (n : Nat) (xs : List Value) (hs : a.eval s = v) (hown : w.ownsRow base e size v n xs) (b2 : Nat) (y : Value) (m : Nat) (ys : List Value) (hx : a.eval x = y) (hy : w.ownsRow b2 e size y m ys) (h1 : ∀ u ∈ ys, u.oneCell' = true) (h63 : n + m ≤ maxLen) (hbytes : (n + m) * bytes ≤ 140737488355328) (hbase : base ≤ w.heap.size)
  (h : ∀ p c w', w'.ownsRow base e size (.slice p (n + m) c) (n + m) (xs ++ ys) → Kept (fun k => v.ownBlock = some k) w w' → (∀ k, (Value.slice p (n + m) c).ownBlock = some k → v.ownBlock = some k ∨ w.heap.size ≤ k) → K (a.put o.dst (.slice p (n + m) c)) w') :
  if Region.wanted o (yielded ops a.tmps) = true then Oper.wp P o a w K Q else E := by
 have hw : Region.wanted o (yielded ops a.tmps) = true := by simp [Region.wanted, hgd]
 rw [if_pos hw]
 obtain ⟨p, c, w', hr, h2, h3, h4⟩ := append_two (P := P) w t o.type base e i z size bytes ht hi hz hsize hby hzs hsz v n xs hown b2 y m ys hy h1 h63 hbytes hbase
 unfold Oper.wp execOp
 simp only [ho, resolve, invoke, builtin, Sem.run_bind, Sem.run_pure, Result.andThen_ok, List.map_toArray, List.map_cons, List.map_nil, hs, hx, hr]
 exact h p c w' h2 h3 h4

end Go.Proofs.YtpcgnadfldimhaaGreatDoor
