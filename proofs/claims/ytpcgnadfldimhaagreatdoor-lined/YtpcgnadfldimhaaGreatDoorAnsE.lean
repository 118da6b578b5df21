/-
  The program's Line.
-/
import Derived.Test.YtpcgnadfldimhaaGreatDoorAnsX
import Derived.Test.YtpcgnadfldimhaaGreatDoorAnsQ
import Derived.Test.YtpcgnadfldimhaaGreatDoorBerY
import Derived.Test.YtpcgnadfldimhaaGreatDoorCmd
namespace Go.Proofs.YtpcgnadfldimhaaGreatDoor
open Go.RowKit

theorem stat_phase {nodes jobs wall last now x y : Int} {L : List Job} {o : Out} (hp : Phases L) (he : o.err = 0) (hD : DoE nodes jobs wall last now L 5 x y o) : 1 ≤ o.a ∧ o.a ≤ 5 := by
  rcases hD with (⟨_, rfl⟩ | ⟨_, ⟨h, _⟩ | ⟨h, _⟩ | ⟨_, _, rfl⟩ | ⟨_, i, j, _, hj, rfl⟩ | ⟨h, _⟩ | ⟨h, _⟩⟩) | ⟨_, h, _⟩
  · simp at he
  · omega
  · omega
  · simp at he
  · exact hp j (List.mem_of_getElem? hj)
  all_goals omega

/-- answer.Write of what Do answered. -/
theorem write_did {nodes jobs wall last now : Int} {L : List Job} {n x y : Int} {o : Out} (a : Addr) (m : Int) (w0 : World) (hE : Env a m w0) (hNm : NamesE w0) (hG : Good nodes jobs wall last now L) (hp : Phases L) (hl : L.length < 1000000000) (hD : DoE nodes jobs wall last now L n x y o) (w3 : World) (h0 : Below w0.heap.size w0 w3) (base : Nat) (p1 : Option Addr) (c1 : Nat) (p2 : Option Addr) (c2 : Nat) (hY : w3.ownsRow base 57 4 (.slice p1 o.rows.length c1) o.rows.length (flatR o.rows)) (hV : w3.ownsRow base 55 4 (.slice p2 o.evs.length c2) o.evs.length (flatE o.evs)) (W : World) (hW : Below w3.heap.size w3 W) :
    Calls Tryz.prog 38 #[.int .i64 n, .agg #[.int .i64 o.err, .int .i64 o.a, .int .i64 o.b, .int .i64 o.c, .slice p1 o.rows.length c1, .slice p2 o.evs.length c2]] W fun r w' => r = .returned (.string ⟨(answerL n o).toArray⟩) ∧ Below w3.heap.size w3 w' := by
  have hok := doE_ok hG hp hl hD
  have hsm := doE_small hG hD hl
  have h0W := h0.trans (hW.mono h0.size)
  by_cases he : o.err = 0
  · refine (writeA_ok a m w0 W hE hNm h0W n o hok he hsm.1 hsm.2 (fun h5 => by subst h5; exact stat_phase hp he hD) p1 c1 p2 c2 ((owns_laid (c := RowV.cells) (fun _ => rfl) (l := o.rows) hY rfl).on hW) ((owns_laid (c := Ev.cells) (fun _ => rfl) (l := o.evs) hV rfl).on hW)).mono ?_
    rintro r w' ⟨rfl, hb⟩
    exact ⟨rfl, hW.trans (hb.mono hW.size)⟩
  · have hr := hok.err
    refine (writeA_err a m w0 W hE hNm h0W n o.err o.a o.b o.c (by omega) p1 _ c1 p2 _ c2).mono ?_
    rintro r w' ⟨rfl, hb⟩
    exact ⟨by unfold answerL; rw [if_neg he], hW.trans (hb.mono hW.size)⟩

/-- What Line leaves of a cluster. -/
def LineQ (B bx bi : Nat) (nodes jobs wall last now : Int) (vr vl vh : Value) (L : List Job) (n x y : Int) (w : World) (e : Ending) (w' : World) : Prop :=
  ∃ o vr' vl' vh' E', DoE nodes jobs wall last now L n x y o ∧ e = .returned (.string ⟨(answerL n o).toArray⟩) ∧ Prog B bx bi nodes jobs wall last o.now vr' vl' vh' o.L E' w' ∧ Kept (progB bx bi vr vl vh) w w' ∧ ∀ k, progB bx bi vr' vl' vh' k → progB bx bi vr vl vh k ∨ w.heap.size ≤ k

set_option maxHeartbeats 4000000 in
set_option maxRecDepth 100000 in
theorem line_cmd (B bx bi : Nat) (nodes jobs wall last now : Int) (vr vl vh : Value) (L : List Job) (E : List Ev) (a : Addr) (m : Int) (w0 : World) (hE : Env a m w0) (hNm : NamesE w0) (w : World) (h0 : Below w0.heap.size w0 w) (hB0 : w0.heap.size ≤ B) (hBw : B ≤ w.heap.size) (h : Prog B bx bi nodes jobs wall last now vr vl vh L E w) (hG : Good nodes jobs wall last now L) (hp : Phases L) (hl : L.length < 1000000000) (s : ByteArray) (n : Nat) (x y : Int) (hc : Cmd s n x y) :
    Calls Tryz.prog 26 #[.pointer (some ⟨bx, 0, none⟩), .string s] w (LineQ B bx bi nodes jobs wall last now vr vl vh L n x y w) := by
  have HPs := Lib.hid (parse_cmd a m w (hE.on h0) s n x y hc)
  have HE := Lib.hid hE
  have HNm := Lib.hid hNm
  have H0 := Lib.hid h0
  have HP := Lib.hid h
  have HG := Lib.hid hG
  have HPh := Lib.hid hp
  clear hE hNm h0 h hG hp hc
  go_enter Tryz.func26, Tryz.ntmps26
  go_wp2_with (go_at_call 37; refine HPs.out.mono ?_; rintro e w1 ⟨rfl, hb1⟩; refine Hid.out ?_)
  refine Lib.hid ?_
  go_wp2_with fail
  have hx1 := heap_alloc_new w1 (.cells #[.int .i64 (n : Int), .int .i64 x, .int .i64 y] 29)
  have hB1 : Below w.heap.size w (w1.alloc (.cells #[.int .i64 (n : Int), .int .i64 x, .int .i64 y] 29)) := hb1.trans (((Below.refl _ _).alloc (Nat.le_refl _) _).mono hb1.size)
  have hws := hb1.size
  generalize w1.alloc (.cells #[.int .i64 (n : Int), .int .i64 x, .int .i64 y] 29) = W2 at *
  have x0 := cell_of_row _ _ 0 _ _ (0, 0) hx1
  have x1 := cell_of_row _ _ 1 _ _ (0, 0) hx1
  have x2 := cell_of_row _ _ 2 _ _ (0, 0) hx1
  simp at x0 x1 x2
  have hxl : w1.heap.size < W2.heap.size := (Array.getElem?_eq_some_iff.1 hx1).1
  have hplt : ∀ k, progB bx bi vr vl vh k → k < w1.heap.size := fun k e => Nat.lt_of_lt_of_le (HP.out.lt k e).2 hws
  have HDoW : Hid (∀ W, Below W2.heap.size W2 W → Calls Tryz.prog 16 #[.pointer (some ⟨bx, 0, none⟩), .agg #[.int .i64 (n : Int), .int .i64 x, .int .i64 y]] W fun e w' => ∃ (o : Out) (p1 : Option Addr) (c1 : Nat) (p2 : Option Addr) (c2 : Nat), e = .returned (.agg #[.int .i64 o.err, .int .i64 o.a, .int .i64 o.b, .int .i64 o.c, .slice p1 o.rows.length c1, .slice p2 o.evs.length c2]) ∧ w'.cell? ⟨w1.heap.size, 0, none⟩ = some (.int .i64 (n : Int)) ∧ w'.cell? ⟨w1.heap.size, 1, none⟩ = some (.int .i64 x) ∧ w'.cell? ⟨w1.heap.size, 2, none⟩ = some (.int .i64 y) ∧ w1.heap.size < w'.heap.size ∧ Hid (∀ W', Below w'.heap.size w' W' → Calls Tryz.prog 38 #[.int .i64 (n : Int), .agg #[.int .i64 o.err, .int .i64 o.a, .int .i64 o.b, .int .i64 o.c, .slice p1 o.rows.length c1, .slice p2 o.evs.length c2]] W' fun r w4 => r = .returned (.string ⟨(answerL n o).toArray⟩) ∧ Below w'.heap.size w' w4) ∧ Hid (DoE nodes jobs wall last now L n x y o ∧ ∃ vr' vl' vh' E', Prog B bx bi nodes jobs wall last o.now vr' vl' vh' o.L E' w' ∧ Kept (progB bx bi vr vl vh) w w' ∧ ∀ k, progB bx bi vr' vl' vh' k → progB bx bi vr vl vh k ∨ w.heap.size ≤ k)) := Lib.hid (fun W hW => by
    have hwW := hB1.trans (hW.mono hB1.size)
    have h0W := H0.out.trans (hwW.mono H0.out.size)
    have hs := hW.size
    have hPW := HP.out.kept (S := fun _ => False) (Kept.of_below hwW) (fun _ _ e => e)
    refine (doP B bx bi nodes jobs wall last now vr vl vh L E a m w0 HE.out W h0W hB0 (Nat.le_trans hBw hwW.size) hPW HG.out hl n x y).mono ?_
    rintro e w3 ⟨o, y1, v1, vr', vl', vh', E', hD, rfl, hY, hV, hP', hK, hN, _⟩
    obtain ⟨q1, c1, rfl⟩ := own_slice hY
    obtain ⟨q2, c2, rfl⟩ := own_slice hV
    have hx3 := (hK.block _ (by omega) (fun e => by have := hplt _ e; omega)).trans ((hW.block _ hxl).trans hx1)
    have z0 := cell_of_row _ _ 0 _ _ (0, 0) hx3
    have z1 := cell_of_row _ _ 1 _ _ (0, 0) hx3
    have z2 := cell_of_row _ _ 2 _ _ (0, 0) hx3
    simp at z0 z1 z2
    have h03 : Below w0.heap.size w0 w3 := h0W.trans (hK.below h0W.size (fun k e => by have := (hPW.lt k e).1; omega))
    exact ⟨o, q1, c1, q2, c2, rfl, z0, z1, z2, (Array.getElem?_eq_some_iff.1 hx3).1, Lib.hid (fun W' hW' => write_did a m w0 HE.out HNm.out HG.out HPh.out hl hD w3 h03 _ q1 c1 q2 c2 hY hV W' hW'), Lib.hid ⟨hD, vr', vl', vh', E', hP', (Kept.of_below (S := progB bx bi vr vl vh) hwW).trans hK (fun _ e => Or.inl e), fun k e => (hN k e).imp id (fun e => Nat.le_trans hwW.size e)⟩⟩)
  clear hx1 hB1 HPs HE HNm H0 HP HG HPh hplt hb1
  go_region_held3 (fun w' => w'.cell? ⟨w1.heap.size, 0, none⟩ = some (.int .i64 (n : Int)) ∧ w'.cell? ⟨w1.heap.size, 1, none⟩ = some (.int .i64 x) ∧ w'.cell? ⟨w1.heap.size, 2, none⟩ = some (.int .i64 y)) (go_keep) (first | (go_at_call 16; refine (HDoW.out _ (by repeat (first | exact Below.refl _ _ | refine Below.drew ?_ | refine below_drewN ?_ _ | refine Below.alloc ?_ (by simp) _))).mono ?_; rintro e w3 ⟨o, p1, c1, p2, c2, rfl, z0, z1, z2, hzl, HWr, HZ⟩) | (go_at_call 38; refine (HWr.out _ (by repeat (first | exact Below.refl _ _ | refine Below.drew ?_ | refine below_drewN ?_ _ | refine Below.alloc ?_ (by simp) _))).mono ?_; rintro e w4 ⟨rfl, hb4⟩; have y0 := (hb4.cell (p := ⟨w1.heap.size, 0, none⟩) hzl).trans z0; have y1 := (hb4.cell (p := ⟨w1.heap.size, 1, none⟩) hzl).trans z1; have y2 := (hb4.cell (p := ⟨w1.heap.size, 2, none⟩) hzl).trans z2))
  all_goals go_wp2
  all_goals go_ret
  all_goals (obtain ⟨hD, vr', vl', vh', E', hP', hK', hN'⟩ := HZ.out; exact ⟨o, vr', vl', vh', E', hD, rfl, hP'.kept (S := fun _ => False) (Kept.of_below hb4) (fun _ _ e => e), hK'.trans (Kept.of_below (S := fun _ => False) hb4) (fun _ e => e.elim), hN'⟩)

set_option maxHeartbeats 4000000 in
set_option maxRecDepth 100000 in
theorem line_no (bx : Nat) (a : Addr) (m : Int) (w0 : World) (hE : Env a m w0) (hNm : NamesE w0) (w : World) (h0 : Below w0.heap.size w0 w) (s : ByteArray) (hm : s.size ≤ maxLen) (hc : ∀ n x y, ¬ Cmd s n x y) :
    Calls Tryz.prog 26 #[.pointer (some ⟨bx, 0, none⟩), .string s] w fun e w' => e = .returned (.string ⟨(errL 1).toArray⟩) ∧ Below w.heap.size w w' := by
  have HPs := Lib.hid (parse_nocmd a m w (hE.on h0) s hm hc)
  have HWr := Lib.hid (fun W (hW : Below w.heap.size w W) => writeA_err a m w0 W hE hNm (h0.trans (hW.mono h0.size)) 0 1 0 0 0 (by omega) none 0 0 none 0 0)
  clear hE hNm h0 hc
  go_enter Tryz.func26, Tryz.ntmps26
  go_wp2_with (go_at_call 37; refine HPs.out.mono ?_; rintro e w1 ⟨rfl, hb1⟩; refine Hid.out ?_)
  refine Lib.hid ?_
  have HB1 := Lib.hid hb1
  have HW1 := Lib.hid (fun o => HWr.out (w1.alloc o) (hb1.trans (((Below.refl _ _).alloc (Nat.le_refl _) o).mono hb1.size)))
  clear hb1 HPs HWr
  go_wp2_with (go_at_call 38; refine (HW1.out _).mono ?_; rintro e w2 ⟨rfl, hb2⟩; refine Hid.out ?_)
  refine Lib.hid ?_
  have HB2 := Lib.hid (HB1.out.trans ((((Below.refl _ _).alloc (Nat.le_refl _) _).trans (hb2.mono (by simp))).mono HB1.out.size))
  clear hb2
  go_wp2
  go_ret
  exact ⟨rfl, HB2.out⟩

end Go.Proofs.YtpcgnadfldimhaaGreatDoor
