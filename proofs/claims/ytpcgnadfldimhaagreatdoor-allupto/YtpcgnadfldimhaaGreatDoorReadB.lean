/-
 command.Read: where the numbers are refused.
-/
import Derived.Test.YtpcgnadfldimhaaGreatDoorRead
import Derived.Deep.DeepCutAuto
namespace Go.Proofs.YtpcgnadfldimhaaGreatDoor
open Go.RowKit

/-- The value at block b is a Fault around ErrForm, or around such a Fault. -/
def Refusal (a : Addr) (b : Nat) (w : World) : Prop := w.cell? ⟨b, 1, none⟩ = some (.iface 315 (.pointer (some a))) ∨ ∃ c, w.cell? ⟨b, 1, none⟩ = some (.iface 209 (.pointer (some ⟨c, 0, none⟩))) ∧ w.cell? ⟨c, 1, none⟩ = some (.iface 315 (.pointer (some a)))

theorem newcell {u : World} {g : Nat} {cs : Array Value} {t : TypeId} (h : g = u.heap.size) (j : Nat) : (u.alloc (.cells cs t)).cell? ⟨g, j, none⟩ = cs[j]? := by
 subst h
 exact cell_of_row _ _ j _ t (0, 0) (heap_alloc_new _ _)

theorem env_up1 {a : Addr} {m : Int} {w1 : World} (h : Env a m w1) {o : Obj} : Env a m (w1.alloc o).drew := h.on (below_drewN (n := 1) ((Below.refl _ _).alloc (Nat.le_refl _) _))
theorem env_up2 {a : Addr} {m : Int} {w1 : World} (h : Env a m w1) {o o' : Obj} : Env a m ((w1.alloc o).alloc o').drew := h.on (below_drewN (n := 1) (below2 _ _))

set_option maxHeartbeats 1000000 in
set_option maxRecDepth 100000 in
theorem read_bad0 (a : Addr) (m : Int) (w : World) (h : Env a m w) (s : ByteArray) (hs : s.size ≤ 100) (n : Nat) (hn1 : 1 ≤ n) (hn7 : n ≤ 7) (HC : Hid (Lib.countB s ⟨#[32]⟩ = 0)) (HP : Hid (Lib.splitB ⟨#[32]⟩ 0 0 s = wordB n :: []))
  (HL : Hid (([] : List ByteArray).length = 0)) (HN : Hid (0 = numsN n → ¬ (0 ≤ num1 n [] ∧ 0 ≤ num2 n []))) (HS : Hid (∀ x, x ∈ ([] : List ByteArray) → x.size ≤ maxLen)) :
  Calls Tryz.prog 63 #[.string s] w fun e w' => ∃ b, e = .returned (.tuple #[.agg #[.int .i64 0, .int .i64 0, .int .i64 0], .iface 209 (.pointer (some ⟨b, 0, none⟩))]) ∧ Refusal a b w' ∧ Below w.heap.size w w' := by
 have hm1 := old1 h.most
 go_enter Tryz.func63, Tryz.ntmps63
 go_wp2_with (go_at_call 106; refine (Tryz.strings_Split s ⟨#[32]⟩ m _ (by omega) (by exact hm1 _) (by decide)).mono ?_; rintro e w' ⟨rfl, rfl⟩; rw [HC.out, HP.out, List.map_cons])
 refine (shapeOfWord_yes a m _ (h.on (below2 _ _)) n hn1 hn7).mono ?_
 rintro e w1 ⟨rfl, hb1⟩
 have hz1 := hb1.size
 simp at hz1
 have hF : Fields w1 (some ⟨w.heap.size + 1, 0, none⟩) [] := ⟨fun j x hj => by simp at hj, HS.out⟩
 have h0 := head3 hb1
 have hb1' := (below2 _ _).trans (hb1.mono (by simp; omega))
 have hE1 : Env a m w1 := h.on hb1'
 clear hb1
 unfold shp
 go_wp2_with fail
 go_cut [7, 6] (fun q er wr => ∃ qb b : Nat, q = .pointer (some ⟨qb, 0, none⟩) ∧ er = .iface 209 (.pointer (some ⟨b, 0, none⟩)) ∧ Ready w w1.heap.size qb (.int .i64 (n : Int)) (.string (wordB n)) (.int .i64 0) (.int .i64 0) wr ∧ w1.heap.size ≤ b ∧ wr.cell? ⟨b, 1, none⟩ = some (.iface 315 (.pointer (some a))))
 case first =>
  go_region_with (go_at_call 108; refine (readNumbers_bad a m _ ?_ n _ _ _ [] HL.out ?_ HN.out).mono ?_; (first | exact env_up1 hE1 | exact env_up2 hE1); (first | exact fields_up1 hF | exact fields_up2 hF); rintro e w2 ⟨b, rfl, hlb, heb, hb2⟩; obtain ⟨hc, hf⟩ := bcell hb2)
  all_goals go_wp2_with fail
  all_goals go_meet
  all_goals (first | exact ⟨_, b, rfl, rfl, readyA hb1' hz1 h0 hb2, by simp at hlb; omega, old1 heb _⟩ | exact ⟨_, b, rfl, rfl, readyB hb1' hz1 h0 hb2, by simp at hlb; omega, (far2 (by simp at hlb; omega) _ _).trans heb⟩)
 case rest =>
  obtain ⟨qb, b, rfl, rfl, hr, hlb, heb⟩ := hcut
  have k1 := hr.k1
  have r0 := hr.r0
  have r1 := hr.r1
  have r2 := hr.r2
  have fr := hr.fr
  have hzc := hr.bel.size
  have hlt : w.heap.size < wc.heap.size := block_lt_of_cell hr.r0
  have hbl : b < wc.heap.size := block_lt_of_cell heb
  go_wp2_with (go_at_call 69; refine (about_any _ _ _ _).mono ?_; rintro e w' ⟨rfl, rfl⟩)
  have rr := read3 r0 r1 r2 (.int .i64 0) (.int .i64 0) (.int .i64 0)
  have rr0 := fun o => old1 rr.1 o
  have rr1 := fun o => old1 rr.2.1 o
  have rr2 := fun o => old1 rr.2.2 o
  refine bodyPost_ret (v := .tuple #[.agg #[.int .i64 0, .int .i64 0, .int .i64 0], .iface 209 (.pointer (some ⟨wc.heap.size, 0, none⟩))]) (by simp [results, Tryz.results63, go_sem, rr0, rr1, rr2]) rfl ⟨wc.heap.size, rfl, Or.inr ⟨b, ?_, ?_⟩, (((hr.bel.setCell (by simp) _).setCell (by simp) _).setCell (by simp) _).alloc (by simpa using hzc) _⟩
  ·exact newcell (by simp) 1
  ·exact old1 ((far3 (by omega) _ _ _).trans heb) _

set_option maxHeartbeats 1000000 in
set_option maxRecDepth 100000 in
theorem read_bad1 (a : Addr) (m : Int) (w : World) (h : Env a m w) (s : ByteArray) (hs : s.size ≤ 100) (n : Nat) (hn1 : 1 ≤ n) (hn7 : n ≤ 7) (c : Nat) (ps : List ByteArray) (HC : Hid (Lib.countB s ⟨#[32]⟩ = (c + 1))) (HP : Hid (Lib.splitB ⟨#[32]⟩ 0 (c + 1) s = wordB n :: ps))
  (HL : Hid ((ps : List ByteArray).length = (c + 1))) (HN : Hid ((c + 1) = numsN n → ¬ (0 ≤ num1 n ps ∧ 0 ≤ num2 n ps))) (HS : Hid (∀ x, x ∈ (ps : List ByteArray) → x.size ≤ maxLen)) :
  Calls Tryz.prog 63 #[.string s] w fun e w' => ∃ b, e = .returned (.tuple #[.agg #[.int .i64 0, .int .i64 0, .int .i64 0], .iface 209 (.pointer (some ⟨b, 0, none⟩))]) ∧ Refusal a b w' ∧ Below w.heap.size w w' := by
 have hm1 := old1 h.most
 go_enter Tryz.func63, Tryz.ntmps63
 go_wp2_with (go_at_call 106; refine (Tryz.strings_Split s ⟨#[32]⟩ m _ (by omega) (by exact hm1 _) (by decide)).mono ?_; rintro e w' ⟨rfl, rfl⟩; rw [HC.out, HP.out, List.map_cons])
 refine (shapeOfWord_yes a m _ (h.on (below2 _ _)) n hn1 hn7).mono ?_
 rintro e w1 ⟨rfl, hb1⟩
 have hz1 := hb1.size
 simp at hz1
 have hF : Fields w1 (some ⟨w.heap.size + 1, 1, none⟩) ps := fields1 hb1 HS.out
 have h0 := head3 hb1
 have hb1' := (below2 _ _).trans (hb1.mono (by simp; omega))
 have hE1 : Env a m w1 := h.on hb1'
 clear hb1
 unfold shp
 go_wp2_with fail
 go_cut [7, 6] (fun q er wr => ∃ qb b : Nat, q = .pointer (some ⟨qb, 0, none⟩) ∧ er = .iface 209 (.pointer (some ⟨b, 0, none⟩)) ∧ Ready w w1.heap.size qb (.int .i64 (n : Int)) (.string (wordB n)) (.int .i64 0) (.int .i64 0) wr ∧ w1.heap.size ≤ b ∧ wr.cell? ⟨b, 1, none⟩ = some (.iface 315 (.pointer (some a))))
 case first =>
  go_region_with (go_at_call 108; refine (readNumbers_bad a m _ ?_ n _ _ _ ps HL.out ?_ HN.out).mono ?_; (first | exact env_up1 hE1 | exact env_up2 hE1); (first | exact fields_up1 hF | exact fields_up2 hF); rintro e w2 ⟨b, rfl, hlb, heb, hb2⟩; obtain ⟨hc, hf⟩ := bcell hb2)
  all_goals go_wp2_with fail
  all_goals go_meet
  all_goals (first | exact ⟨_, b, rfl, rfl, readyA hb1' hz1 h0 hb2, by simp at hlb; omega, old1 heb _⟩ | exact ⟨_, b, rfl, rfl, readyB hb1' hz1 h0 hb2, by simp at hlb; omega, (far2 (by simp at hlb; omega) _ _).trans heb⟩)
 case rest =>
  obtain ⟨qb, b, rfl, rfl, hr, hlb, heb⟩ := hcut
  have k1 := hr.k1
  have r0 := hr.r0
  have r1 := hr.r1
  have r2 := hr.r2
  have fr := hr.fr
  have hzc := hr.bel.size
  have hlt : w.heap.size < wc.heap.size := block_lt_of_cell hr.r0
  have hbl : b < wc.heap.size := block_lt_of_cell heb
  go_wp2_with (go_at_call 69; refine (about_any _ _ _ _).mono ?_; rintro e w' ⟨rfl, rfl⟩)
  have rr := read3 r0 r1 r2 (.int .i64 0) (.int .i64 0) (.int .i64 0)
  have rr0 := fun o => old1 rr.1 o
  have rr1 := fun o => old1 rr.2.1 o
  have rr2 := fun o => old1 rr.2.2 o
  refine bodyPost_ret (v := .tuple #[.agg #[.int .i64 0, .int .i64 0, .int .i64 0], .iface 209 (.pointer (some ⟨wc.heap.size, 0, none⟩))]) (by simp [results, Tryz.results63, go_sem, rr0, rr1, rr2]) rfl ⟨wc.heap.size, rfl, Or.inr ⟨b, ?_, ?_⟩, (((hr.bel.setCell (by simp) _).setCell (by simp) _).setCell (by simp) _).alloc (by simpa using hzc) _⟩
  ·exact newcell (by simp) 1
  ·exact old1 ((far3 (by omega) _ _ _).trans heb) _

end Go.Proofs.YtpcgnadfldimhaaGreatDoor
