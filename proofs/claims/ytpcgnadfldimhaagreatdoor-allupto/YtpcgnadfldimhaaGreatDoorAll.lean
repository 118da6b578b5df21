/-
 THE STATEMENT 'All' (its second form: what is read is of a bulk that has a bound): the row, and the card.
-/
import Derived.Test.YtpcgnadfldimhaaGreatDoorPlayX
import Derived.Test.YtpcgnadfldimhaaGreatDoorBerZ
import Derived.Test.YtpcgnadfldimhaaGreatDoorAllX
namespace Go.Proofs.YtpcgnadfldimhaaGreatDoor
open Go.ChangeShapes Go.WideShapes Go.ChangeAt Go.RowKit

set_option maxRecDepth 100000 in
theorem all_contract (H : Type) (enc : TypeId × Value → H) (W : World) (base : Nat) (args : Array Value) (ds gs : List (DataW H)) (before : List MemPlace)
  (hval : ∀ (j : Nat) t v, Tryz.f13.params[j]? = some t → args[j]? = some v → Value.okWide Tryz.prog W .any base t v)
  (hW : DataW.Whole enc Tryz.prog Tryz.f13.params.toList Rows.allSpec.vars false W args.toList ds gs before) (hk : Rows.uptoSmall H (ds ++ gs) = true) (hL : laidMetH Tryz.prog Rows.allUptoRow.laid W) (hsh : W.ShapedOpen Tryz.prog) :
  Calls Tryz.prog 13 args W fun e W' => ∃ v, e = .returned v ∧ Rows.allSpec.post enc Tryz.prog Tryz.f13 false true false false W args v W' := by
 obtain ⟨a, m, hE⟩ := envX_of (W := W) hL hsh
 have hW' := hW
 obtain ⟨p, q, hA0, hV, rfl, hfz, hnd⟩ := hW
 have hA : DataW.TrodAll enc Tryz.prog W 0 (fun _ => true) true Tryz.f13.params.toList args.toList ds p := hA0
 rw [Tryz.params13] at hA hval
 obtain ⟨v0, vs0, d0, ds0, p0, q0, hargs, rfl, rfl, h0, r0⟩ := trodAll_cons hA
 obtain ⟨rfl, rfl, rfl⟩ := trodAll_nil r0
 obtain rfl : args = #[v0] := by cases args; simp_all
 obtain ⟨rfl, rfl⟩ := trodVars_none hV
 obtain ⟨a0, len0, cap0, rfl⟩ := okWide_slice Tryz.underlying22 (hval 0 22 v0 rfl rfl)
 have k0 := h0
 have lt0 : ∀ x ∈ p0, x.block < W.heap.size := by obtain ⟨m, hm⟩ := k0; exact DataW.trod_lt m _ _ _ hm
 have walk : Calls Tryz.prog 13 #[.slice a0 len0 cap0] W fun e w' => e = .returned (.bool true) ∧ Below W.heap.size W w' := by
  refine all_is W _ (Lib.hid ?_)
  obtain ⟨fuel, hf⟩ := h0
  rcases Deep.open_slice Tryz.underlying22 hf with ⟨hcs, _⟩ | ⟨x, len, cap, mm, n, D, Pl, hcs, _, hl, hm, hmm, hx, hel⟩
  ·simp [Value.cells] at hcs
   obtain ⟨rfl, rfl, rfl⟩ := hcs
   exact all_none a m W hE none 0
  ·simp [Value.cells] at hcs
   obtain ⟨rfl, rfl, rfl⟩ := hcs
   simp at hmm
   subst hmm
   by_cases hz : len0 = 0
   ·subst hz
    exact all_none a m W hE _ _
   ·rw [cellsOp] at hel
    obtain ⟨b, off, spot⟩ := x
    have hspot : spot = none := by
     obtain ⟨cs', h1, h2⟩ := hel 0 (by omega)
     obtain ⟨o, rfl, hs, _⟩ := op_of_trod h2
     obtain ⟨_, hlen, hcell⟩ := World.cells?_some h1
     have hc := hcell 0 (by omega)
     rw [show o.cells[0]? = some (.int .i64 o.q) from rfl] at hc
     simpa [Addr.add] using World.cell?_spot hc
    subst hspot
    obtain ⟨ops, hol, hops⟩ := choose_list (P := fun i (o : OpV) => W.rangeAt b (off + i * 10) o.cells ∧ o.s.size ≤ maxLen ∧ (Lit.int .i64 o.i).wf = true) len0 (fun i hi => by
     obtain ⟨cs', h1, h2⟩ := hel i (by omega)
     obtain ⟨o, rfl, hs, hwf⟩ := op_of_trod h2
     obtain ⟨_, hlen, hcell⟩ := World.cells?_some h1
     refine ⟨o, fun t v hv => ?_, hs, hwf⟩
     have ht : t < 10 := by have := (List.getElem?_eq_some_iff.1 hv).1; rw [hlen] at this; exact this
     have hc := hcell t ht
     rw [hv] at hc
     rw [← hc, Addr.add_lit, Addr.add_lit])
    have hsm : len0 ≤ 1048576 := by
     rw [(Prod.mk.inj hx).1] at hk
     have := bulk_slice hk
     simpa using this
    rw [← hol]
    exact all_walk a m W hE (namesE_of hL hsh) b off _ ops (fun j o hj => ⟨(hops j o hj).1, (hops j o hj).2.1⟩) (by omega) (fun o ho => by
     obtain ⟨j, hj⟩ := List.mem_iff_getElem?.1 ho
     exact wf_bounds (hops j o hj).2.2)
 refine walk.mono fun e W' ⟨he, bel⟩ => ?_
 subst he
 exact ⟨_, rfl, _, _, _, [], _, [], hW', trodAll_mk1 (shut_bool Tryz.underlying4 _), (trodAll_cons_mk (Below.trod laidOut (by kernel_rfl) (of_decide_eq_true (by kernel_rfl)) k0 bel lt0) trodAll_mk0), rfl, bel.frame _, fun h => by cases h⟩

theorem all_reads (os : Os) {H : Type} (enc : TypeId × Value → H) : ∃ places, DataW.whole enc Tryz.prog ((wit os).forCall (fun _ _ => 0) ⟨#[], #[.slice none 0 0], []⟩).memory Tryz.f13.params.toList Rows.allSpec.vars false #[Value.slice none 0 0].toList 8 = some ([.nil], [], places) :=
 ⟨[], by kernel_rfl⟩

set_option maxRecDepth 100000 in
theorem all_lifted (os : Os) (started : os.Started) (H : Type) (enc : TypeId × Value → H) (F : Stop.Interp) :
  ReturnsInHanded {} Tryz.checked os 13 .any ((Rows.OpenSpec.upto Rows.allSpec).preRow enc Tryz.prog Tryz.f13 Rows.allUptoRow.domain false Rows.allUptoRow.laid) (((Rows.OpenSpec.upto Rows.allSpec).at F).post enc Tryz.prog Tryz.f13 false true false false) := by
 obtain ⟨places, hx⟩ := all_reads os enc
 have hok : Input.okWideB Tryz.checked.prog ((wit os).forCall (fun _ _ => 0) ⟨#[], #[.slice none 0 0], []⟩) 13 ⟨#[], #[.slice none 0 0], []⟩ = true := by kernel_rfl
 refine returnsInHanded_of_row (C := Tryz.checked) (s := Rows.OpenSpec.upto Rows.allSpec) own started (by kernel_rfl) Tryz.func13
  ⟨wit os, fun _ _ => 0, ⟨#[], #[.slice none 0 0], []⟩, wit_os os, World.shaped_of_ZipB (by kernel_rfl) (by kernel_rfl), (Input.okWide_of_okWideB (base := 0) hok).1, (Input.okWide_of_okWideB hok).2,
   OpenSpec.preRow_of_cond 8 hx (by kernel_rfl) (fun k hk => by cases hk; kernel_rfl) (by kernel_rfl) (wit_met os _), by simp [Assume.holds]⟩ ?_
 intro W base args ds gs before hval hW _ hcond _ hL hsh _
 exact all_contract H enc W base args ds gs before hval hW (hcond _ rfl) hL hsh

theorem all_said : Rows.AllUptoSaid :=
 OpenClaim.holds_of_cond 13 Tryz.f13 rfl rfl rfl rfl rfl rfl rfl ⟨rfl, rfl, rfl, rfl, rfl⟩ rfl rfl rfl rfl rfl (by kernel_rfl) Tryz.func13 (by kernel_rfl)
  (of_decide_eq_true (by kernel_rfl)) (by unfold Func.isWrapper; first | (rw [if_pos (by decide +kernel)]; kernel_rfl) | (rw [if_neg (by decide +kernel)]; exact ⟨rfl, rfl⟩))
  (fun os started H enc _ F => by rw [OpenClaim.pre_eq_preRow]; exact all_lifted os started H enc F)

theorem all_plain (f : FuncId) (fn : Func) (hf : Tryz.pinned.checked.prog.funcNamed "berth/berthlaw.All" = some f) (hfn : Tryz.pinned.checked.prog.funcs[f]? = some fn) :
  true = Tryz.pinned.checked.prog.looks [] ∧ ∀ (j : Nat) t, fn.params[j]? = some t → Tryz.pinned.checked.prog.wantsStandIn t = false := by
 obtain rfl : f = 13 := Option.some.inj ((show Tryz.prog.funcNamed "berth/berthlaw.All" = some 13 by kernel_rfl).symm.trans hf) |>.symm
 obtain rfl : fn = Tryz.f13 := (Option.some.inj (Tryz.func13.symm.trans hfn)).symm
 refine ⟨by kernel_rfl, fun j t ht => ?_⟩
 rw [Tryz.params13] at ht
 obtain rfl : t = 22 := by simpa using Array.mem_of_getElem? ht
 exact (show Tryz.prog.wantsStandIn 22 = false by kernel_rfl)

/-- THE CARD. -/
theorem all_card : Rows.AllUptoCardSaid :=
 Claim7.holds_tied_plain_at .later [] _ _ _ _ all_said (fun _ h => by cases h) (by kernel_rfl) (fun _ h => by cases h) allUpto_row_tie rfl ⟨rfl, rfl⟩ (by kernel_rfl) rfl all_plain (by kernel_rfl)
end Go.Proofs.YtpcgnadfldimhaaGreatDoor
