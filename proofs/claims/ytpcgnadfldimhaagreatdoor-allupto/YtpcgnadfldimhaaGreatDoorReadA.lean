/-
 command.Read: where the line is a command.
-/
import Derived.Test.YtpcgnadfldimhaaGreatDoorRead
import Derived.Deep.DeepCutAuto
namespace Go.Proofs.YtpcgnadfldimhaaGreatDoor
open Go.RowKit

set_option maxHeartbeats 1000000 in
set_option maxRecDepth 100000 in
theorem read_good0 (a : Addr) (m : Int) (w : World) (h : Env a m w) (s : ByteArray) (hs : s.size ≤ 100) (n : Nat) (hn1 : 1 ≤ n) (hn7 : n ≤ 7) (HC : Hid (Lib.countB s ⟨#[32]⟩ = 0)) (HP : Hid (Lib.splitB ⟨#[32]⟩ 0 0 s = wordB n :: []))
  (HL : Hid (([] : List ByteArray).length = 0)) (HN : Hid (0 = numsN n)) (HA : Hid (0 ≤ num1 n [])) (HB : Hid (0 ≤ num2 n [])) (HS : Hid (∀ x, x ∈ ([] : List ByteArray) → x.size ≤ maxLen)) :
  Calls Tryz.prog 63 #[.string s] w fun e w' => e = .returned (.tuple #[.agg #[.int .i64 (n : Int), .int .i64 (num1 n []), .int .i64 (num2 n [])], .nilIface]) ∧ Below w.heap.size w w' := by
 have hm1 := old1 h.most
 go_enter Tryz.func63, Tryz.ntmps63
 go_wp2_with (go_at_call 106; refine (Tryz.strings_Split s ⟨#[32]⟩ m _ (by omega) (by exact hm1 _) (by decide)).mono ?_; rintro e w' ⟨rfl, rfl⟩; rw [HC.out, HP.out, List.map_cons])
 refine (shapeOfWord_yes a m _ (h.on (below2 _ _)) n hn1 hn7).mono ?_
 rintro e w1 ⟨rfl, hb1⟩
 have hz1 := hb1.size
 simp at hz1
 have hF : Fields w1 (some ⟨w.heap.size + 1, 0, none⟩) [] := ⟨fun j x hj => by simp at hj, HS.out⟩
 have h0 := head3 hb1
 have hb1' := (below2 _ _).trans (hb1.mono (by simp; omega))
 clear hb1
 unfold shp
 go_wp2_with fail
 go_cut [7, 6] (fun q er wr => ∃ qb : Nat, q = .pointer (some ⟨qb, 0, none⟩) ∧ er = .nilIface ∧ Ready w w1.heap.size qb (.int .i64 (n : Int)) (.string (wordB n)) (.int .i64 (num1 n [])) (.int .i64 (num2 n [])) wr)
 case first =>
  go_region_with (go_at_call 108; refine (readNumbers_good _ n _ _ _ [] HL.out HN.out ?_ HA.out HB.out).mono ?_; (first | exact fields_up1 hF | exact fields_up2 hF); rintro e w2 ⟨rfl, hb2⟩; obtain ⟨hc, hf⟩ := bcell hb2)
  all_goals go_wp2_with fail
  all_goals go_meet
  all_goals (first | exact ⟨_, rfl, rfl, readyA hb1' hz1 h0 hb2⟩ | exact ⟨_, rfl, rfl, readyB hb1' hz1 h0 hb2⟩)
 case rest =>
  obtain ⟨qb, rfl, rfl, hr⟩ := hcut
  have k0 := hr.k0
  have n0 := hr.n0
  have n1 := hr.n1
  have r0 := hr.r0
  have r1 := hr.r1
  have r2 := hr.r2
  have fr := hr.fr
  go_wp2
  have rr := read3 r0 r1 r2 (.int .i64 (n : Int)) (.int .i64 (num1 n [])) (.int .i64 (num2 n []))
  exact bodyPost_ret (v := .tuple #[.agg #[.int .i64 (n : Int), .int .i64 (num1 n []), .int .i64 (num2 n [])], .nilIface]) (by simp [results, Tryz.results63, go_sem, rr.1, rr.2.1, rr.2.2]) rfl ⟨rfl, ((hr.bel.setCell (by simp) _).setCell (by simp) _).setCell (by simp) _⟩

set_option maxHeartbeats 1000000 in
set_option maxRecDepth 100000 in
theorem read_good1 (a : Addr) (m : Int) (w : World) (h : Env a m w) (s : ByteArray) (hs : s.size ≤ 100) (n : Nat) (hn1 : 1 ≤ n) (hn7 : n ≤ 7) (c : Nat) (ps : List ByteArray) (HC : Hid (Lib.countB s ⟨#[32]⟩ = (c + 1))) (HP : Hid (Lib.splitB ⟨#[32]⟩ 0 (c + 1) s = wordB n :: ps))
  (HL : Hid ((ps : List ByteArray).length = (c + 1))) (HN : Hid ((c + 1) = numsN n)) (HA : Hid (0 ≤ num1 n ps)) (HB : Hid (0 ≤ num2 n ps)) (HS : Hid (∀ x, x ∈ (ps : List ByteArray) → x.size ≤ maxLen)) :
  Calls Tryz.prog 63 #[.string s] w fun e w' => e = .returned (.tuple #[.agg #[.int .i64 (n : Int), .int .i64 (num1 n ps), .int .i64 (num2 n ps)], .nilIface]) ∧ Below w.heap.size w w' := by
 have hm1 := old1 h.most
 go_enter Tryz.func63, Tryz.ntmps63
 go_wp2_with (go_at_call 106; refine (Tryz.strings_Split s ⟨#[32]⟩ m _ (by omega) (by exact hm1 _) (by decide)).mono ?_; rintro e w' ⟨rfl, rfl⟩; rw [HC.out, HP.out, List.map_cons])
 refine (shapeOfWord_yes a m _ (h.on (below2 _ _)) n hn1 hn7).mono ?_
 rintro e w1 ⟨rfl, hb1⟩
 have hz1 := hb1.size
 simp at hz1
 have hF : Fields w1 (some ⟨w.heap.size + 1, 1, none⟩) ps := fields1 hb1 HS.out
 have h0 := head3 hb1
 have hb1' := (below2 _ _).trans (hb1.mono (by simp; omega))
 clear hb1
 unfold shp
 go_wp2_with fail
 go_cut [7, 6] (fun q er wr => ∃ qb : Nat, q = .pointer (some ⟨qb, 0, none⟩) ∧ er = .nilIface ∧ Ready w w1.heap.size qb (.int .i64 (n : Int)) (.string (wordB n)) (.int .i64 (num1 n ps)) (.int .i64 (num2 n ps)) wr)
 case first =>
  go_region_with (go_at_call 108; refine (readNumbers_good _ n _ _ _ ps HL.out HN.out ?_ HA.out HB.out).mono ?_; (first | exact fields_up1 hF | exact fields_up2 hF); rintro e w2 ⟨rfl, hb2⟩; obtain ⟨hc, hf⟩ := bcell hb2)
  all_goals go_wp2_with fail
  all_goals go_meet
  all_goals (first | exact ⟨_, rfl, rfl, readyA hb1' hz1 h0 hb2⟩ | exact ⟨_, rfl, rfl, readyB hb1' hz1 h0 hb2⟩)
 case rest =>
  obtain ⟨qb, rfl, rfl, hr⟩ := hcut
  have k0 := hr.k0
  have n0 := hr.n0
  have n1 := hr.n1
  have r0 := hr.r0
  have r1 := hr.r1
  have r2 := hr.r2
  have fr := hr.fr
  go_wp2
  have rr := read3 r0 r1 r2 (.int .i64 (n : Int)) (.int .i64 (num1 n ps)) (.int .i64 (num2 n ps))
  exact bodyPost_ret (v := .tuple #[.agg #[.int .i64 (n : Int), .int .i64 (num1 n ps), .int .i64 (num2 n ps)], .nilIface]) (by simp [results, Tryz.results63, go_sem, rr.1, rr.2.1, rr.2.2]) rfl ⟨rfl, ((hr.bel.setCell (by simp) _).setCell (by simp) _).setCell (by simp) _⟩

end Go.Proofs.YtpcgnadfldimhaaGreatDoor
