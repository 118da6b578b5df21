/-
 Which cluster a step speaks of; a cluster more.
-/
import Derived.Test.YtpcgnadfldimhaaGreatDoorLawAA
import Derived.Test.YtpcgnadfldimhaaGreatDoorRefDD
import Derived.Test.YtpcgnadfldimhaaGreatDoorStep
import Derived.Test.YtpcgnadfldimhaaGreatDoorPlayX
namespace Go.Proofs.YtpcgnadfldimhaaGreatDoor
open Go.RowKit

/-- Which of n things the raw number c speaks of. -/
def pickN (c : Int) (n : Nat) : Nat := ((if c < 0 then -(c + 1) else c) % (n : Int)).toNat
theorem pickN_lt (c : Int) (n : Nat) (hn : 1 ≤ n) : pickN c n < n := by
 have e2 := Int.emod_nonneg (if c < 0 then -(c + 1) else c) (b := (n : Int)) (by omega)
 have e3 := Int.emod_lt_of_pos (if c < 0 then -(c + 1) else c) (b := (n : Int)) (by omega)
 unfold pickN
 omega

set_option maxHeartbeats 2000000 in
set_option maxRecDepth 100000 in
theorem pick_is (c : Int) (n : Nat) (w : World) (h1 : -9223372036854775808 ≤ c) (h2 : c ≤ 9223372036854775807) (hn : 1 ≤ n) (hn' : n ≤ 8000000000) :
  Calls Tryz.prog 43 #[.int .i64 c, .int .i64 n] w fun e w' => e = .returned (.int .i64 (pickN c n)) ∧ w' = w := by
 by_cases hc : c < 0
 ·go_enter Tryz.func43, Tryz.ntmps43
  go_wp2
  go_ret
  have e1 : -((c + 1).tmod (n : Int)) = (-(c + 1)) % (n : Int) := by
   rw [← Int.neg_tmod, Int.tmod_eq_emod_of_nonneg (by omega)]
  have e2 := Int.emod_nonneg (-(c + 1)) (b := (n : Int)) (by omega)
  refine ⟨?_, rfl⟩
  rw [pickN, if_pos hc, Int.toNat_of_nonneg e2]
  simp [e1]
 ·go_enter Tryz.func43, Tryz.ntmps43
  go_wp2
  go_ret
  have e2 := Int.emod_nonneg c (b := (n : Int)) (by omega)
  refine ⟨?_, rfl⟩
  rw [pickN, if_neg (by omega), Int.toNat_of_nonneg e2]
  simp

set_option maxHeartbeats 4000000 in
set_option maxRecDepth 100000 in
theorem made_no (pw : Value) (nodes jobs wall last : Int) (w : World) (hc : ¬ ConfOk nodes jobs wall last)
  (hx : ∀ o, Calls Tryz.prog 35 #[.agg #[.int .i64 nodes, .int .i64 jobs, .int .i64 wall, .int .i64 last]] (w.alloc o) fun e w' => e = .returned (.tuple #[.pointer none, .int .i64 1]) ∧ Below (w.alloc o).heap.size (w.alloc o) w') :
  Calls Tryz.prog 29 #[pw, .agg #[.int .i64 nodes, .int .i64 jobs, .int .i64 wall, .int .i64 last]] w fun e w' => e = .returned (.bool true) ∧ Below w.heap.size w w' := by
 go_enter Tryz.func29, Tryz.ntmps29
 go_wp2_with (go_at_call 35; refine (hx _).mono ?_; rintro e w1 ⟨rfl, hb1⟩; refine Hid.out ?_)
 refine Lib.hid ?_
 have q0 := new_old hb1 0
 have q1 := new_old hb1 1
 have q2 := new_old hb1 2
 have q3 := new_old hb1 3
 have hb := ((Below.refl w.heap.size w).alloc (Nat.le_refl _) _).trans (hb1.mono (by simp))
 simp at q0 q1 q2 q3
 clear hb1
 go_wp2_with (go_at_call 48; refine (refNew_no nodes jobs wall last _ hc).mono ?_; rintro e w2 ⟨rfl, hb2⟩; refine Hid.out ?_)
 refine Lib.hid ?_
 have hbz := hb.trans (hb2.mono hb.size)
 clear hb2 q0 q1 q2 q3
 go_wp2_with (go_at_call 41; refine (num_any _ _).mono ?_; rintro e w' ⟨rfl, rfl⟩)
 go_ret
 exact ⟨by simp, hbz⟩

theorem Tryz.infoPair : (Tryz.prog.info? 104).map (fun i => (i.zero, i.size, i.bytes)) = some (some (.agg #[.pointer none, .pointer none]), 2, 16) := by kernel_rfl

theorem LawM.pushC {B wb n : Nat} {cs rs es m0 m1 : Value} {vr ve ps ns : List Value} {ir ie : List Int} {w w1 : World} {g c : Nat} (h : LawM B wb cs rs es m0 m1 vr ve ir ie w) (oC : w.ownsRow B 104 2 cs n ps) (ho : w1.ownsRow B 104 2 (.slice (some ⟨g, 0, none⟩) (n + 1) c) (n + 1) (ps ++ ns)) (hg : w.grownBy w1 cs.ownBlock) :
  w1.heap[wb]? = some (.cells #[cs, rs, es, m0, m1] 71 (0, 0)) ∧ LawM B wb (.slice (some ⟨g, 0, none⟩) (n + 1) c) rs es m0 m1 vr ve ir ie (w1.setCell ⟨wb, 0, none⟩ (.slice (some ⟨g, 0, none⟩) (n + 1) c)) ∧ (w1.setCell ⟨wb, 0, none⟩ (.slice (some ⟨g, 0, none⟩) (n + 1) c)).ownsRow B 104 2 (.slice (some ⟨g, 0, none⟩) (n + 1) c) (n + 1) (ps ++ ns) := by
 have h1 : w1.heap[wb]? = some (.cells #[cs, rs, es, m0, m1] 71 (0, 0)) := (hg.block wb (Array.getElem?_eq_some_iff.1 h.W).1 (fun e => owns_not oC h.W (by decide) e.symm)).trans h.W
 have koR := owns_on h.oR (w' := w1) (fun k e => hg.block k (h.oR.lt k e).2 (fun e2 => owns_apart oC h.oR (by decide) k e2.symm e))
 have koE := owns_on h.oE (w' := w1) (fun k e => hg.block k (h.oE.lt k e).2 (fun e2 => owns_apart oC h.oE (by decide) k e2.symm e))
 have koM := owns_on h.oM (w' := w1) (fun k e => hg.block k (h.oM.lt k e).2 (fun e2 => owns_apart oC h.oM (by decide) k e2.symm e))
 have koN := owns_on h.oN (w' := w1) (fun k e => hg.block k (h.oN.lt k e).2 (fun e2 => owns_apart oC h.oN (by decide) k e2.symm e))
 exact ⟨h1, ⟨heap_setCell_same w1 wb 0 _ _ _ h1, ownsRow_setCell_other koR (owns_not koR h1 (by decide)) _, ownsRow_setCell_other koE (owns_not koE h1 (by decide)) _, ownsRow_setCell_other koM (owns_not koM h1 (by decide)) _, ownsRow_setCell_other koN (owns_not koN h1 (by decide)) _, h.two, h.low⟩, ownsRow_setCell_other ho (owns_not ho h1 (by decide)) _⟩

/-- What made leaves where a cluster is made: wx is memory behind the program's New. -/
def Made (B wb n : Nat) (cs rs es m0 m1 : Value) (vr ve ps : List Value) (ir ie : List Int) (nodes jobs wall last : Int) (X : Nat → World → Prop) (w w' : World) : Prop :=
 ∃ g c bx bc wx, LawM B wb (.slice (some ⟨g, 0, none⟩) (n + 1) c) rs es m0 m1 vr ve ir ie w' ∧ w'.ownsRow B 104 2 (.slice (some ⟨g, 0, none⟩) (n + 1) c) (n + 1) (ps ++ [.pointer (some ⟨bx, 0, none⟩), .pointer (some ⟨bc, 0, none⟩)]) ∧
  X bx wx ∧ w.heap.size ≤ wx.heap.size ∧ RefO wx.heap.size bc nodes jobs wall last 0 (.slice none 0 0) [] w' ∧
  Kept (fun k => k = wb ∨ cs.ownBlock = some k) wx w' ∧ Kept (fun k => k = wb ∨ cs.ownBlock = some k) w w' ∧ (cs.ownBlock = some g ∨ (wx.heap.size ≤ g ∧ g ≠ bc))

set_option maxHeartbeats 8000000 in
set_option maxRecDepth 100000 in
theorem made_yes (B wb n : Nat) (cs rs es m0 m1 : Value) (vr ve ps : List Value) (ir ie : List Int) (nodes jobs wall last : Int) (X : Nat → World → Prop) (w : World) (hc : ConfOk nodes jobs wall last)
  (hL : LawM B wb cs rs es m0 m1 vr ve ir ie w) (oC : w.ownsRow B 104 2 cs n ps) (hB : B ≤ w.heap.size) (hn : n ≤ 1000000000)
  (hx : ∀ o, Calls Tryz.prog 35 #[.agg #[.int .i64 nodes, .int .i64 jobs, .int .i64 wall, .int .i64 last]] (w.alloc o) fun e w' => ∃ bx, e = .returned (.tuple #[.pointer (some ⟨bx, 0, none⟩), .int .i64 0]) ∧ Below (w.alloc o).heap.size (w.alloc o) w' ∧ X bx w') :
  Calls Tryz.prog 29 #[.pointer (some ⟨wb, 0, none⟩), .agg #[.int .i64 nodes, .int .i64 jobs, .int .i64 wall, .int .i64 last]] w fun e w' => e = .returned (.bool true) ∧ Made B wb n cs rs es m0 m1 vr ve ps ir ie nodes jobs wall last X w w' := by
 obtain ⟨i0, hi, hz0, hz1, hz2⟩ := info_parts Tryz.infoPair
 obtain ⟨pC, cC, rfl⟩ := own_slice oC
 have hwb : wb < w.heap.size := hL.lt wb (Or.inl rfl)
 have HL := Lib.hid hL
 have HC := Lib.hid oC
 have HX := Lib.hid hx
 clear hL oC hx
 go_enter Tryz.func29, Tryz.ntmps29
 go_wp2_with (go_at_call 35; refine (HX.out _).mono ?_; rintro e w1 ⟨bx, rfl, hb1, hX⟩; refine Hid.out ?_)
 refine Lib.hid ?_
 have q0 := new_old hb1 0
 have q1 := new_old hb1 1
 have q2 := new_old hb1 2
 have q3 := new_old hb1 3
 have hb := ((Below.refl w.heap.size w).alloc (Nat.le_refl _) _).trans (hb1.mono (by simp))
 simp at q0 q1 q2 q3
 clear hb1
 go_wp2_with (go_at_call 48; refine (refNew_yes nodes jobs wall last _ hc).mono ?_; rintro e w2 ⟨bc, rfl, hR, hb2⟩; refine Hid.out ?_)
 refine Lib.hid ?_
 have hbz := hb.trans (hb2.mono hb.size)
 have hK2 : Kept (fun _ => False) w w2 := Kept.of_below hbz
 have hL2 := HL.out.kept hK2 (fun _ e => e.elim)
 have hC2 := owns_on (w' := w2) HC.out (fun k e => hbz.block k (HC.out.lt k e).2)
 have hwb2 : wb < w2.heap.size := Nat.lt_of_lt_of_le hwb hbz.size
 have c0 := cell_of_row _ _ 0 _ _ (0, 0) hL2.W
 simp at c0
 have HL2 := Lib.hid hL2
 have HC2 := Lib.hid hC2
 have HR := Lib.hid hR
 have HK2 := Lib.hid hK2
 have HB1 := Lib.hid hb
 have HB2 := Lib.hid hb2
 have hs1 := hb.size
 have hs2 := hb2.size
 clear hb2 q0 q1 q2 q3 hL2 hC2 hR hK2 hb hbz
 have HA := Lib.hid (HL2.out.kept (S := fun _ => False) ((Kept.refl _ _).alloc (.cells #[.pointer (some ⟨bx, 0, none⟩), .pointer (some ⟨bc, 0, none⟩)] 104)) (fun _ e => e.elim))
 have HAC := Lib.hid (HC2.out.alloc (.cells #[.pointer (some ⟨bx, 0, none⟩), .pointer (some ⟨bc, 0, none⟩)] 104))
 go_wp2_with (first | (go_at_call 41; refine (num_any _ _).mono ?_; rintro e w' ⟨rfl, hw⟩; subst w') | (at_builtin; refine wpList_append_lies _ rfl _ _ 66 rfl B 104 i0 (.agg #[.pointer none, .pointer none]) 2 16 Tryz.underlying66 hi hz0 hz1 hz2 rfl (by decide) _ _ _ rfl HAC.out ⟨w2.heap.size, 0, none⟩ 1 1 [.pointer (some ⟨bx, 0, none⟩), .pointer (some ⟨bc, 0, none⟩)] rfl rfl (news_at _ #[.pointer (some ⟨bx, 0, none⟩), .pointer (some ⟨bc, 0, none⟩)] _ _ (by simp)) (by intro u' hu'; simp at hu'; rcases hu' with rfl | rfl <;> rfl) (by decide) (by unfold maxLen; omega) (by omega) (by simp; omega) _ rfl ?_))
 intro g c w4 own grow hat lt
 obtain ⟨hW4, hL4, hC4⟩ := HA.out.pushC HAC.out own grow
 have k0 := cell_of_row _ _ 0 _ _ (0, 0) hW4
 have kf := frozen_of_row _ _ 0 _ _ hW4
 simp at k0
 have HL4 := Lib.hid hL4
 have HC4 := Lib.hid hC4
 have HG := Lib.hid grow
 have HAT := Lib.hid hat
 clear hW4 hL4 hC4 own grow hat lt
 go_wp2
 go_ret
 have K1 : Kept (fun k => k = wb ∨ (Value.slice pC n cC).ownBlock = some k) w2 (w4.setCell ⟨wb, 0, none⟩ (.slice (some ⟨g, 0, none⟩) (n + 1) c)) := (((Kept.refl (fun k => k = wb ∨ (Value.slice pC n cC).ownBlock = some k) w2).alloc _).grown HG.out (fun i e => Or.inl (Or.inr e))).setCell (p := ⟨wb, 0, none⟩) (Or.inl (Or.inl rfl)) _
 have hbc := HR.out.lt
 have hlow := HR.out.low
 have hcl : ∀ k, (Value.slice pC n cC).ownBlock = some k → k < w.heap.size := fun k e => (HC.out.lt k e).2
 refine ⟨by simp, g, c, bx, bc, w1, HL4.out, HC4.out, hX, hs1, ⟨(K1.block bc hbc ?_).trans HR.out.blk, World.ownsRow_nil _ _ _ _, by simp [Value.ownBlock], hlow, by simp⟩, ?_, ?_, ?_⟩
 ·rintro (e | e)
  ·omega
  ·have := hcl bc e; omega
 ·exact (Kept.of_below HB2.out).trans K1 (fun i e => Or.inl e)
 ·exact (HK2.out.mono (fun _ e => e.elim)).trans K1 (fun i e => Or.inl e)
 ·rcases HAT.out with e | e
  ·exact Or.inl e
  ·refine Or.inr ⟨?_, ?_⟩
   ·have e2 : g = w2.heap.size + 1 := by rw [e]
    omega
   ·have e2 : g = w2.heap.size + 1 := by rw [e]
    omega

end Go.Proofs.YtpcgnadfldimhaaGreatDoor
namespace Go.Proofs.YtpcgnadfldimhaaGreatDoor
open Go.RowKit

set_option maxHeartbeats 4000000 in
set_option maxRecDepth 100000 in
theorem step_new (p : Value) (w : World) (i c1 c2 c3 c4 d1 d2 d3 : Int) (s : ByteArray) (Q : World → World → Prop)
  (hm : ∀ o, Calls Tryz.prog 29 #[p, .agg #[.int .i64 c1, .int .i64 c2, .int .i64 c3, .int .i64 c4]] (w.alloc o) fun e w' => e = .returned (.bool true) ∧ Q (w.alloc o) w') :
  Calls Tryz.prog 28 #[p, .agg #[.int .i64 3, .int .i64 i, .int .i64 c1, .int .i64 c2, .int .i64 c3, .int .i64 c4, .int .i64 d1, .int .i64 d2, .int .i64 d3, .string s]] w fun e w' => e = .returned (.bool true) ∧ ∃ o, Q (w.alloc o) w' := by
 go_enter Tryz.func28, Tryz.ntmps28
 go_wp2_with (go_at_call 29; refine (hm _).mono ?_; rintro e w1 ⟨rfl, hQ⟩; refine Hid.out ?_)
 refine Lib.hid ?_
 go_wp2
 go_ret
 exact ⟨by simp, _, hQ⟩

/-- Blocks from H on are as they were. -/
def Spared (H : Nat) (w w' : World) : Prop := w.heap.size ≤ w'.heap.size ∧ ∀ k, H ≤ k → k < w.heap.size → w'.heap[k]? = w.heap[k]?

/-- What the two Do, one behind the other, are asked for. -/
def Both (bx bc : Nat) (k x y : Int) (B wb : Nat) (cs rs es m0 m1 : Value) (vr ve : List Value) (ir ie : List Int) (Q : Value → Value → World → Prop) (w : World) : Prop :=
 ∀ w1, Below w.heap.size w w1 → Calls Tryz.prog 16 #[.pointer (some ⟨bx, 0, none⟩), .agg #[.int .i64 k, .int .i64 x, .int .i64 y]] w1 fun e w2 => ∃ er a b c y1 x1, e = .returned (.agg #[.int .i64 er, .int .i64 a, .int .i64 b, .int .i64 c, y1, x1]) ∧ (∃ p m q, y1 = .slice p m q) ∧ (∃ p m q, x1 = .slice p m q) ∧ Spared w.heap.size w1 w2 ∧
  ∀ w3, Below w2.heap.size w2 w3 → Calls Tryz.prog 44 #[.pointer (some ⟨bc, 0, none⟩), .agg #[.int .i64 k, .int .i64 x, .int .i64 y]] w3 fun e w4 => ∃ y2 x2 rows evs b1 b2 b3 b4, e = .returned (.agg #[.int .i64 er, .int .i64 a, .int .i64 b, .int .i64 c, y2, x2]) ∧ Spared w.heap.size w3 w4 ∧
   w4.ownsRow b1 57 4 y1 rows.length (flatR rows) ∧ w4.ownsRow b2 55 4 x1 evs.length (flatE evs) ∧ w4.ownsRow b3 57 4 y2 rows.length (flatR rows) ∧ w4.ownsRow b4 55 4 x2 evs.length (flatE evs) ∧ rows.length ≤ 1000000000 ∧ evs.length ≤ 1000000000000 ∧
   b1 ≤ w4.heap.size ∧ b2 ≤ w4.heap.size ∧ LawM B wb cs rs es m0 m1 vr ve ir ie w4 ∧ Q y1 x1 w4

set_option maxHeartbeats 8000000 in
set_option maxRecDepth 100000 in
theorem step_skip (B wb n : Nat) (cs rs es m0 m1 : Value) (vr ve ps : List Value) (ir ie : List Int) (w : World) (hL : LawM B wb cs rs es m0 m1 vr ve ir ie w) (oC : w.ownsRow B 104 2 cs n ps) (hn : 1 ≤ n) (hn' : n ≤ 1000000000)
  (i c1 c2 c3 c4 k d2 d3 : Int) (s : ByteArray) (hi1 : -9223372036854775808 ≤ i) (hi2 : i ≤ 9223372036854775807) (hk : k = 2 ∨ k = 3)
  (hps : ∀ j, j < n → ∃ bx bc, ps[j * 2]? = some (.pointer (some ⟨bx, 0, none⟩)) ∧ ps[j * 2 + 1]? = some (.pointer (some ⟨bc, 0, none⟩))) :
  Calls Tryz.prog 28 #[.pointer (some ⟨wb, 0, none⟩), .agg #[.int .i64 4, .int .i64 i, .int .i64 c1, .int .i64 c2, .int .i64 c3, .int .i64 c4, .int .i64 k, .int .i64 d2, .int .i64 d3, .string s]] w fun e w' => e = .returned (.bool true) ∧ Below w.heap.size w w' := by
 have hwb : wb < w.heap.size := hL.lt wb (Or.inl rfl)
 obtain ⟨g, c, rfl⟩ : ∃ g c, cs = .slice (some ⟨g, 0, none⟩) n c := by
  rcases own_forms oC with ⟨_, hn⟩ | ⟨g, c2, e⟩
  ·omega
  ·exact ⟨g, c2, e⟩
 have c0 := cell_of_row _ _ 0 _ _ (0, 0) hL.W
 simp at c0
 have hg : g < w.heap.size := (oC.lt g rfl).2
 have hC := fun j hj => (oC.cellAt (g := g) j hj)
 obtain ⟨bx, bc, hp0, hp1⟩ := hps (pickN i n) (pickN_lt i n hn)
 have hj := pickN_lt i n hn
 generalize hJ : pickN i n = j at *
 have hlen := oC.1
 have a0 := (hC (j * 2) (by omega)).trans hp0
 have a1 := (hC (j * 2 + 1) (by omega)).trans hp1
 have e1 : (0 : Int) ≤ (j : Int) := by omega
 have e2 : (j : Int) < (n : Int) := by omega
 clear hL hC oC hps hp0 hp1
 go_enter Tryz.func28, Tryz.ntmps28
 go_wp2
 go_region_held3 (fun w' => w'.cell? ⟨wb, 0, none⟩ = some (.slice (some ⟨g, 0, none⟩) n c) ∧ w'.cell? ⟨w.heap.size, 1, none⟩ = some (.int .i64 i) ∧ w'.cell? ⟨g, j * 2, none⟩ = some (.pointer (some ⟨bx, 0, none⟩)) ∧ w'.cell? ⟨g, j * 2 + 1, none⟩ = some (.pointer (some ⟨bc, 0, none⟩))) (go_keep) (first | (go_at_call 43; refine (pick_is i n _ hi1 hi2 hn (by omega)).mono ?_; rintro e w2 ⟨rfl, hw⟩; subst w2; rw [hJ]))
 all_goals
  rcases hk with rfl | rfl
  ·go_wp2
   go_ret
   exact ⟨rfl, (((Below.refl w.heap.size w).alloc (Nat.le_refl _) _).alloc (by simp) _).drew⟩
  ·go_wp2
   go_ret
   exact ⟨rfl, (((Below.refl w.heap.size w).alloc (Nat.le_refl _) _).alloc (by simp) _).drew⟩

set_option maxHeartbeats 16000000 in
set_option maxRecDepth 100000 in
theorem step_do (B wb n : Nat) (cs rs es m0 m1 : Value) (vr ve ps : List Value) (ir ie : List Int) (Q : Value → Value → World → Prop) (w : World) (hL : LawM B wb cs rs es m0 m1 vr ve ir ie w) (oC : w.ownsRow B 104 2 cs n ps) (hn : 1 ≤ n) (hn' : n ≤ 1000000000) (hB : B ≤ w.heap.size)
  (i c1 c2 c3 c4 k d2 d3 : Int) (s : ByteArray) (hi1 : -9223372036854775808 ≤ i) (hi2 : i ≤ 9223372036854775807) (hk2 : k ≠ 2) (hk3 : k ≠ 3)
  (hir : ir.length ≤ 7000000000) (hie : ie.length ≤ 7000000000) (hvr : vr.length ≤ 7000000000) (hve : ve.length ≤ 7000000000)
  (hps : ∀ j, j < n → ∃ bx bc, ps[j * 2]? = some (.pointer (some ⟨bx, 0, none⟩)) ∧ ps[j * 2 + 1]? = some (.pointer (some ⟨bc, 0, none⟩)) ∧ Both bx bc k d2 d3 B wb cs rs es m0 m1 vr ve ir ie Q w) :
  Calls Tryz.prog 28 #[.pointer (some ⟨wb, 0, none⟩), .agg #[.int .i64 4, .int .i64 i, .int .i64 c1, .int .i64 c2, .int .i64 c3, .int .i64 c4, .int .i64 k, .int .i64 d2, .int .i64 d3, .string s]] w fun e w' => e = .returned (.bool true) ∧ ∃ y1 x1 w4 w5, Q y1 x1 w4 ∧ Below w4.heap.size w4 w5 ∧ Owned B wb cs rs es m0 m1 y1 x1 vr ve ir ie (-1 - (ir.length : Int)) w5 w' := by
 have hwb : wb < w.heap.size := hL.lt wb (Or.inl rfl)
 obtain ⟨g, c, rfl⟩ : ∃ g c, cs = .slice (some ⟨g, 0, none⟩) n c := by
  rcases own_forms oC with ⟨_, hn⟩ | ⟨g, c2, e⟩
  ·omega
  ·exact ⟨g, c2, e⟩
 have c0 := cell_of_row _ _ 0 _ _ (0, 0) hL.W
 simp at c0
 have hg : g < w.heap.size := (oC.lt g rfl).2
 have hC := fun j hj => (oC.cellAt (g := g) j hj)
 obtain ⟨bx, bc, hp0, hp1, hBo⟩ := hps (pickN i n) (pickN_lt i n hn)
 have hj := pickN_lt i n hn
 generalize hJ : pickN i n = j at *
 have hlen := oC.1
 have a0 := (hC (j * 2) (by omega)).trans hp0
 have a1 := (hC (j * 2 + 1) (by omega)).trans hp1
 have e1 : (0 : Int) ≤ (j : Int) := by omega
 have e2 : (j : Int) < (n : Int) := by omega
 have f2 : (k == 2) = false := beq_eq_false_iff_ne.2 hk2
 have f3 : (k == 3) = false := beq_eq_false_iff_ne.2 hk3
 have HBo := Lib.hid hBo
 clear hL hC oC hps hp0 hp1 hBo
 go_enter Tryz.func28, Tryz.ntmps28
 go_wp2
 go_region_held3 (fun w' => w'.cell? ⟨wb, 0, none⟩ = some (.slice (some ⟨g, 0, none⟩) n c) ∧ w'.cell? ⟨w.heap.size, 1, none⟩ = some (.int .i64 i) ∧ w'.cell? ⟨g, j * 2, none⟩ = some (.pointer (some ⟨bx, 0, none⟩)) ∧ w'.cell? ⟨g, j * 2 + 1, none⟩ = some (.pointer (some ⟨bc, 0, none⟩))) (go_keep) (first | (go_at_call 43; refine (pick_is i n _ hi1 hi2 hn (by omega)).mono ?_; rintro e w2 ⟨rfl, hw⟩; subst w2; rw [hJ]))
 all_goals
  obtain ⟨W, hW⟩ : ∃ W, W = ((w.alloc (.cells #[.int .i64 4, .int .i64 i, .int .i64 c1, .int .i64 c2, .int .i64 c3, .int .i64 c4, .int .i64 k, .int .i64 d2, .int .i64 d3, .string s] 76)).alloc (.cells #[.pointer (some ⟨bx, 0, none⟩), .pointer (some ⟨bc, 0, none⟩)] 104)).drew := ⟨_, rfl⟩
  have hB0 : Below w.heap.size w W := by rw [hW]; exact (((Below.refl w.heap.size w).alloc (Nat.le_refl _) _).alloc (by simp) _).drew
  have o1 : W.heap[w.heap.size]? = some (.cells #[.int .i64 4, .int .i64 i, .int .i64 c1, .int .i64 c2, .int .i64 c3, .int .i64 c4, .int .i64 k, .int .i64 d2, .int .i64 d3, .string s] 76 (0, 0)) := by rw [hW]; exact (Below.heap_alloc (w.alloc _) _ _ (by simp)).trans (heap_alloc_new w _)
  have o2 : W.heap[w.heap.size + 1]? = some (.cells #[.pointer (some ⟨bx, 0, none⟩), .pointer (some ⟨bc, 0, none⟩)] 104 (0, 0)) := by rw [hW]; exact alloc_at _ _ _ (by simp)
  rw [← hW]
  clear hW a0 a1 c0
  have x0 := cell_of_row _ _ 0 _ _ (0, 0) o1
  have x6 := cell_of_row _ _ 6 _ _ (0, 0) o1
  have x7 := cell_of_row _ _ 7 _ _ (0, 0) o1
  have x8 := cell_of_row _ _ 8 _ _ (0, 0) o1
  have y0 := cell_of_row _ _ 0 _ _ (0, 0) o2
  have y1 := cell_of_row _ _ 1 _ _ (0, 0) o2
  simp at x0 x6 x7 x8 y0 y1
  have HB0 := Lib.hid hB0
  have hzW : w.heap.size + 2 ≤ W.heap.size := (Array.getElem?_eq_some_iff.1 o2).1
  clear hB0
  go_wp2_with (go_at_call 16; refine (HBo.out _ HB0.out).mono ?_; rintro e w2 ⟨er, a, b, cc, l1, k1, rfl, ⟨pl, nl, ql, rfl⟩, ⟨pk, nk, qk, rfl⟩, hS2, hY⟩; refine Hid.out ?_)
  refine Lib.hid ?_
  have HS2 := Lib.hid hS2
  have HY := Lib.hid hY
  have o1 := (hS2.2 w.heap.size (Nat.le_refl _) (by omega)).trans o1
  have o2 := (hS2.2 (w.heap.size + 1) (by omega) (by omega)).trans o2
  have hz2 : w.heap.size + 2 ≤ w2.heap.size := by have := hS2.1; omega
  clear hS2 hY x0 x6 x7 x8 y0 y1
  have x6 := cell_of_row _ _ 6 _ _ (0, 0) o1
  have x7 := cell_of_row _ _ 7 _ _ (0, 0) o1
  have x8 := cell_of_row _ _ 8 _ _ (0, 0) o1
  have y1 := cell_of_row _ _ 1 _ _ (0, 0) o2
  simp at x6 x7 x8 y1
  have N1 : w.heap.size + 1 < w2.heap.size := by omega
  have N2 : w.heap.size < w2.heap.size := by omega
  go_wp2_with (go_at_call 44; refine (HY.out _ ((Below.refl _ w2).alloc (Nat.le_refl _) _)).mono ?_; rintro e w4 ⟨l2, k2, rows, evs, b1, b2, b3, b4, rfl, hS4, ol1, ok1, ol2, ok2, hr, he, hb1, hb2, hL4, hQ⟩; obtain ⟨pl2, ql2, rfl⟩ := own_slice ol2; obtain ⟨pk2, qk2, rfl⟩ := own_slice ok2; refine Hid.out ?_)
  refine Lib.hid ?_
  have r1 := (hS4.2 w2.heap.size (by omega) (by simp)).trans (heap_alloc_new w2 _)
  have hz4 : w2.heap.size + 1 ≤ w4.heap.size := by have := hS4.1; simpa using this
  have HL4 := Lib.hid hL4
  have HQ := Lib.hid hQ
  have O1 := Lib.hid ol1
  have O2 := Lib.hid ok1
  have O3 := Lib.hid ol2
  have O4 := Lib.hid ok2
  clear hS4 ol1 ok1 ol2 ok2 hL4 hQ x6 x7 x8 y1 o1 o2
  have r10 := cell_of_row _ _ 0 _ _ (0, 0) r1
  have r11 := cell_of_row _ _ 1 _ _ (0, 0) r1
  have r12 := cell_of_row _ _ 2 _ _ (0, 0) r1
  have r13 := cell_of_row _ _ 3 _ _ (0, 0) r1
  have r14 := cell_of_row _ _ 4 _ _ (0, 0) r1
  have r15 := cell_of_row _ _ 5 _ _ (0, 0) r1
  simp at r10 r11 r12 r13 r14 r15
  have N5 : w2.heap.size < w4.heap.size := by omega
  go_wp2_with (go_at_call 45; refine (same_any er a b cc _ _ _ _ rows evs b1 b2 b3 b4 _ (O1.out.alloc _) (O2.out.alloc _) (O3.out.alloc _) (O4.out.alloc _) hr he).mono ?_; rintro e w5 ⟨rfl, hb5⟩; refine Hid.out ?_)
  refine Lib.hid ?_
  have hb45 : Below w4.heap.size w4 w5 := ((Below.refl _ w4).alloc (Nat.le_refl _) _).trans (hb5.mono (by simp))
  have z4 := (hb45.cell (p := ⟨w2.heap.size, 4, none⟩) N5).trans r14
  have z5 := (hb45.cell (p := ⟨w2.heap.size, 5, none⟩) N5).trans r15
  have HL5 := Lib.hid (HL4.out.on fun k hk => hb45.block k (HL4.out.lt k hk))
  have P1 := Lib.hid (owns_on (w' := w5) O1.out (fun k e => hb45.block k (O1.out.lt k e).2))
  have P2 := Lib.hid (owns_on (w' := w5) O2.out (fun k e => hb45.block k (O2.out.lt k e).2))
  have hz5 := hb45.size
  have HB45 := Lib.hid hb45
  clear hb5 hb45 r10 r11 r12 r13 r14 r15 r1
  go_wp2_with (go_at_call 46; refine (own_any B wb _ rs es m0 m1 _ _ vr ve ir ie rows.length evs.length b1 b2 _ _ w5 HL5.out (by omega) P1.out P2.out hir hie hvr hve hr he (by omega) (by omega)).mono ?_; rintro e w6 ⟨rfl, hO⟩; refine Hid.out ?_)
  refine Lib.hid ?_
  have HO := Lib.hid hO
  clear hO
  go_wp2
  go_ret
  exact ⟨by simp, _, _, w4, w5, HQ.out, HB45.out, HO.out⟩

set_option maxHeartbeats 16000000 in
set_option maxRecDepth 100000 in
theorem step_end (B wb n : Nat) (cs rs es m0 m1 : Value) (vr ve ps : List Value) (ir ie : List Int) (Q : Value → Value → World → Prop) (w : World) (hL : LawM B wb cs rs es m0 m1 vr ve ir ie w) (oC : w.ownsRow B 104 2 cs n ps) (hn : 1 ≤ n) (hn' : n ≤ 1000000000) (hB : B ≤ w.heap.size)
  (i c1 c2 c3 c4 k d2 d3 : Int) (s : ByteArray) (hi1 : -9223372036854775808 ≤ i) (hi2 : i ≤ 9223372036854775807)
  (hir : ir.length ≤ 7000000000) (hie : ie.length ≤ 7000000000) (hvr : vr.length ≤ 7000000000) (hve : ve.length ≤ 7000000000)
  (hps : ∀ j, j < n → ∃ bx bc, ps[j * 2]? = some (.pointer (some ⟨bx, 0, none⟩)) ∧ ps[j * 2 + 1]? = some (.pointer (some ⟨bc, 0, none⟩)) ∧ Both bx bc k d2 d3 B wb cs rs es m0 m1 vr ve ir ie Q w) :
  Calls Tryz.prog 28 #[.pointer (some ⟨wb, 0, none⟩), .agg #[.int .i64 5, .int .i64 i, .int .i64 c1, .int .i64 c2, .int .i64 c3, .int .i64 c4, .int .i64 k, .int .i64 d2, .int .i64 d3, .string s]] w fun e w' => e = .returned (.bool true) ∧ ∃ y1 x1 w4 w5, Q y1 x1 w4 ∧ Below w4.heap.size w4 w5 ∧ Owned B wb cs rs es m0 m1 y1 x1 vr ve ir ie (-1 - (ir.length : Int)) w5 w' := by
 have hwb : wb < w.heap.size := hL.lt wb (Or.inl rfl)
 obtain ⟨g, c, rfl⟩ : ∃ g c, cs = .slice (some ⟨g, 0, none⟩) n c := by
  rcases own_forms oC with ⟨_, hn⟩ | ⟨g, c2, e⟩
  ·omega
  ·exact ⟨g, c2, e⟩
 have c0 := cell_of_row _ _ 0 _ _ (0, 0) hL.W
 simp at c0
 have hg : g < w.heap.size := (oC.lt g rfl).2
 have hC := fun j hj => (oC.cellAt (g := g) j hj)
 obtain ⟨bx, bc, hp0, hp1, hBo⟩ := hps (pickN i n) (pickN_lt i n hn)
 have hj := pickN_lt i n hn
 generalize hJ : pickN i n = j at *
 have hlen := oC.1
 have a0 := (hC (j * 2) (by omega)).trans hp0
 have a1 := (hC (j * 2 + 1) (by omega)).trans hp1
 have e1 : (0 : Int) ≤ (j : Int) := by omega
 have e2 : (j : Int) < (n : Int) := by omega
 have HBo := Lib.hid hBo
 clear hL hC oC hps hp0 hp1 hBo
 go_enter Tryz.func28, Tryz.ntmps28
 go_wp2
 go_region_held3 (fun w' => w'.cell? ⟨wb, 0, none⟩ = some (.slice (some ⟨g, 0, none⟩) n c) ∧ w'.cell? ⟨w.heap.size, 1, none⟩ = some (.int .i64 i) ∧ w'.cell? ⟨g, j * 2, none⟩ = some (.pointer (some ⟨bx, 0, none⟩)) ∧ w'.cell? ⟨g, j * 2 + 1, none⟩ = some (.pointer (some ⟨bc, 0, none⟩))) (go_keep) (first | (go_at_call 43; refine (pick_is i n _ hi1 hi2 hn (by omega)).mono ?_; rintro e w2 ⟨rfl, hw⟩; subst w2; rw [hJ]))
 all_goals
  obtain ⟨W, hW⟩ : ∃ W, W = ((w.alloc (.cells #[.int .i64 5, .int .i64 i, .int .i64 c1, .int .i64 c2, .int .i64 c3, .int .i64 c4, .int .i64 k, .int .i64 d2, .int .i64 d3, .string s] 76)).alloc (.cells #[.pointer (some ⟨bx, 0, none⟩), .pointer (some ⟨bc, 0, none⟩)] 104)).drew := ⟨_, rfl⟩
  have hB0 : Below w.heap.size w W := by rw [hW]; exact (((Below.refl w.heap.size w).alloc (Nat.le_refl _) _).alloc (by simp) _).drew
  have o1 : W.heap[w.heap.size]? = some (.cells #[.int .i64 5, .int .i64 i, .int .i64 c1, .int .i64 c2, .int .i64 c3, .int .i64 c4, .int .i64 k, .int .i64 d2, .int .i64 d3, .string s] 76 (0, 0)) := by rw [hW]; exact (Below.heap_alloc (w.alloc _) _ _ (by simp)).trans (heap_alloc_new w _)
  have o2 : W.heap[w.heap.size + 1]? = some (.cells #[.pointer (some ⟨bx, 0, none⟩), .pointer (some ⟨bc, 0, none⟩)] 104 (0, 0)) := by rw [hW]; exact alloc_at _ _ _ (by simp)
  rw [← hW]
  clear hW a0 a1 c0
  have x0 := cell_of_row _ _ 0 _ _ (0, 0) o1
  have x6 := cell_of_row _ _ 6 _ _ (0, 0) o1
  have x7 := cell_of_row _ _ 7 _ _ (0, 0) o1
  have x8 := cell_of_row _ _ 8 _ _ (0, 0) o1
  have y0 := cell_of_row _ _ 0 _ _ (0, 0) o2
  have y1 := cell_of_row _ _ 1 _ _ (0, 0) o2
  simp at x0 x6 x7 x8 y0 y1
  have HB0 := Lib.hid hB0
  have hzW : w.heap.size + 2 ≤ W.heap.size := (Array.getElem?_eq_some_iff.1 o2).1
  clear hB0
  go_wp2_with (go_at_call 16; refine (HBo.out _ HB0.out).mono ?_; rintro e w2 ⟨er, a, b, cc, l1, k1, rfl, ⟨pl, nl, ql, rfl⟩, ⟨pk, nk, qk, rfl⟩, hS2, hY⟩; refine Hid.out ?_)
  refine Lib.hid ?_
  have HS2 := Lib.hid hS2
  have HY := Lib.hid hY
  have o1 := (hS2.2 w.heap.size (Nat.le_refl _) (by omega)).trans o1
  have o2 := (hS2.2 (w.heap.size + 1) (by omega) (by omega)).trans o2
  have hz2 : w.heap.size + 2 ≤ w2.heap.size := by have := hS2.1; omega
  clear hS2 hY x0 x6 x7 x8 y0 y1
  have x6 := cell_of_row _ _ 6 _ _ (0, 0) o1
  have x7 := cell_of_row _ _ 7 _ _ (0, 0) o1
  have x8 := cell_of_row _ _ 8 _ _ (0, 0) o1
  have y1 := cell_of_row _ _ 1 _ _ (0, 0) o2
  simp at x6 x7 x8 y1
  have N1 : w.heap.size + 1 < w2.heap.size := by omega
  have N2 : w.heap.size < w2.heap.size := by omega
  go_wp2_with (go_at_call 44; refine (HY.out _ ((Below.refl _ w2).alloc (Nat.le_refl _) _)).mono ?_; rintro e w4 ⟨l2, k2, rows, evs, b1, b2, b3, b4, rfl, hS4, ol1, ok1, ol2, ok2, hr, he, hb1, hb2, hL4, hQ⟩; obtain ⟨pl2, ql2, rfl⟩ := own_slice ol2; obtain ⟨pk2, qk2, rfl⟩ := own_slice ok2; refine Hid.out ?_)
  refine Lib.hid ?_
  have r1 := (hS4.2 w2.heap.size (by omega) (by simp)).trans (heap_alloc_new w2 _)
  have hz4 : w2.heap.size + 1 ≤ w4.heap.size := by have := hS4.1; simpa using this
  have HL4 := Lib.hid hL4
  have HQ := Lib.hid hQ
  have O1 := Lib.hid ol1
  have O2 := Lib.hid ok1
  have O3 := Lib.hid ol2
  have O4 := Lib.hid ok2
  clear hS4 ol1 ok1 ol2 ok2 hL4 hQ x6 x7 x8 y1 o1 o2
  have r10 := cell_of_row _ _ 0 _ _ (0, 0) r1
  have r11 := cell_of_row _ _ 1 _ _ (0, 0) r1
  have r12 := cell_of_row _ _ 2 _ _ (0, 0) r1
  have r13 := cell_of_row _ _ 3 _ _ (0, 0) r1
  have r14 := cell_of_row _ _ 4 _ _ (0, 0) r1
  have r15 := cell_of_row _ _ 5 _ _ (0, 0) r1
  simp at r10 r11 r12 r13 r14 r15
  have N5 : w2.heap.size < w4.heap.size := by omega
  go_wp2_with (go_at_call 45; refine (same_any er a b cc _ _ _ _ rows evs b1 b2 b3 b4 _ (O1.out.alloc _) (O2.out.alloc _) (O3.out.alloc _) (O4.out.alloc _) hr he).mono ?_; rintro e w5 ⟨rfl, hb5⟩; refine Hid.out ?_)
  refine Lib.hid ?_
  have hb45 : Below w4.heap.size w4 w5 := ((Below.refl _ w4).alloc (Nat.le_refl _) _).trans (hb5.mono (by simp))
  have z4 := (hb45.cell (p := ⟨w2.heap.size, 4, none⟩) N5).trans r14
  have z5 := (hb45.cell (p := ⟨w2.heap.size, 5, none⟩) N5).trans r15
  have HL5 := Lib.hid (HL4.out.on fun k hk => hb45.block k (HL4.out.lt k hk))
  have P1 := Lib.hid (owns_on (w' := w5) O1.out (fun k e => hb45.block k (O1.out.lt k e).2))
  have P2 := Lib.hid (owns_on (w' := w5) O2.out (fun k e => hb45.block k (O2.out.lt k e).2))
  have hz5 := hb45.size
  have HB45 := Lib.hid hb45
  clear hb5 hb45 r10 r11 r12 r13 r14 r15 r1
  go_wp2_with (go_at_call 46; refine (own_any B wb _ rs es m0 m1 _ _ vr ve ir ie rows.length evs.length b1 b2 _ _ w5 HL5.out (by omega) P1.out P2.out hir hie hvr hve hr he (by omega) (by omega)).mono ?_; rintro e w6 ⟨rfl, hO⟩; refine Hid.out ?_)
  refine Lib.hid ?_
  have HO := Lib.hid hO
  clear hO
  go_wp2
  go_ret
  exact ⟨by simp, _, _, w4, w5, HQ.out, HB45.out, HO.out⟩

end Go.Proofs.YtpcgnadfldimhaaGreatDoor
namespace Go.Proofs.YtpcgnadfldimhaaGreatDoor
open Go.RowKit

/-- The law's memory as it begins. -/
abbrev law0 : Obj := .cells #[.slice none 0 0, .slice none 0 0, .slice none 0 0, .slice none 0 0, .slice none 0 0] 71

set_option maxHeartbeats 4000000 in
set_option maxRecDepth 100000 in
theorem played_6 (a : Addr) (m : Int) (w : World) (h : Env a m w) (b off cap : Nat) (ops : List OpV) (hS : Script w b off ops) (hl : ops.length ≤ 9223372036854775807) (Inv : Nat → World → Prop)
  (hF : ∀ w1, Below (w.alloc law0).heap.size (w.alloc law0) w1 → Calls Tryz.prog 29 #[.pointer (some ⟨w.heap.size, 0, none⟩), .agg #[.int .i64 4, .int .i64 5, .int .i64 100, .int .i64 1000]] w1 fun e w2 => e = .returned (.bool true) ∧ Below w.heap.size w w2 ∧
   ∀ s, Calls Tryz.prog 28 #[.pointer (some ⟨w.heap.size, 0, none⟩), .agg #[.int .i64 4, .int .i64 0, .int .i64 0, .int .i64 0, .int .i64 0, .int .i64 0, .int .i64 1, .int .i64 3, .int .i64 10, .string s]] w2 fun e w3 => e = .returned (.bool true) ∧ Below w.heap.size w w3 ∧ Inv 0 w3)
  (hI : ∀ k wr (o : OpV), ops[k]? = some o → Inv k wr → Below w.heap.size w wr → o.q ≤ 6 → Calls Tryz.prog 28 #[.pointer (some ⟨w.heap.size, 0, none⟩), .agg o.cells.toArray] wr fun e w' => e = .returned (.bool true) ∧ Below w.heap.size w w' ∧ Inv (k + 1) w')
  (hN : ∀ k wr, Inv k wr → Inv (k + 1) wr)
  (hK : ∀ k wr, Inv k wr → Below w.heap.size w wr → Calls Tryz.prog 30 #[.pointer (some ⟨w.heap.size, 0, none⟩)] wr fun e w' => e = .returned (.bool true) ∧ Below w.heap.size w w' ∧ Inv k w') :
  Calls Tryz.prog 14 #[.slice (some ⟨b, off, none⟩) ops.length cap, .int .i64 6] w fun e w' => e = .returned (.bool true) ∧ Below w.heap.size w w' := by
 have hE1 : ∀ o, Env a m (w.alloc o) := fun o => h.on ((Below.refl _ _).alloc (Nat.le_refl _) _)
 have HF := Lib.hid hF
 have HI := Lib.hid hI
 have HN := Lib.hid hN
 have HK := Lib.hid hK
 clear hF hI hN hK
 go_enter Tryz.func14, Tryz.ntmps14
 go_wp2_with (go_at_call 28; refine (step_parse a m _ (hE1 _) _ 0 0 0 0 0 0 0 0 _ (by unfold maxLen; decide)).mono ?_; rintro e w1 ⟨rfl, hb1⟩; refine Hid.out ?_)
 refine Lib.hid ?_
 have HB1 : Hid (Below (w.alloc law0).heap.size (w.alloc law0) w1) := Lib.hid hb1
 clear hb1
 go_wp2_with (go_at_call 29; refine (HF.out _ HB1.out).mono ?_; rintro e w2 ⟨rfl, hb2, hs2⟩; refine Hid.out ?_)
 refine Lib.hid ?_
 have HS2 := Lib.hid hs2
 clear hs2
 go_wp2_with (go_at_call 28; refine (HS2.out _).mono ?_; rintro e w3 ⟨rfl, hb3, hi3⟩; refine Hid.out ?_)
 refine Lib.hid ?_
 go_wp2
 go_loopw [6, 7] (fun ok i wr => ∃ k : Nat, k ≤ ops.length ∧ i = .int .i64 k ∧ ok = .bool true ∧ Below w.heap.size w wr ∧ Inv k wr) (fun _ i _ => ops.length - (intOf i).toNat)
 case atStart => exact ⟨0, Nat.zero_le _, rfl, rfl, hb3, hi3⟩
 case round =>
  obtain ⟨k, hk, rfl, rfl, hbr, hin⟩ := hrel
  by_cases hlt : k < ops.length
  ·obtain ⟨o, HO⟩ : ∃ o, Hid (ops[k]? = some o) := ⟨ops[k], Lib.hid (by simp)⟩
   have hr := ((hS.on hbr) k o HO.out).1
   have hk0 := hr 0 (.int .i64 o.q) rfl
   rw [Nat.add_zero] at hk0
   by_cases hq : o.q ≤ 6
   ·go_wp2_with (refine wpList_load_mid rfl 76 _ rfl b (off + k * 10) rfl o.cells _ hr Tryz.underlying76 rfl (by kernel_rfl) ?_)
    refine (HI.out k wr o HO.out hin hbr hq).mono ?_
    rintro e w4 ⟨rfl, hb4, hi4⟩
    go_wp2_with (go_at_call 30; refine (HK.out (k + 1) _ hi4 hb4).mono ?_; rintro e w5 ⟨rfl, hb5, hi5⟩)
    go_roundw
    case rel => exact ⟨k + 1, by omega, by go_num, rfl, hb5, hi5⟩
    case measure => simp [intOf]; omega
   ·go_wp2_with (go_at_call 30; refine (HK.out k _ hin hbr).mono ?_; rintro e w5 ⟨rfl, hb5, hi5⟩)
    go_roundw
    case rel => exact ⟨k + 1, by omega, by go_num, rfl, hb5, HN.out k _ hi5⟩
    case measure => simp [intOf]; omega
  ·go_wp2
   go_ret
   exact ⟨rfl, hbr⟩

set_option maxHeartbeats 4000000 in
set_option maxRecDepth 100000 in
theorem played_60 (a : Addr) (m : Int) (w : World) (h : Env a m w) (ad : Option Addr) (cap : Nat)
  (hF : ∀ w1, Below (w.alloc law0).heap.size (w.alloc law0) w1 → Calls Tryz.prog 29 #[.pointer (some ⟨w.heap.size, 0, none⟩), .agg #[.int .i64 4, .int .i64 5, .int .i64 100, .int .i64 1000]] w1 fun e w2 => e = .returned (.bool true) ∧ Below w.heap.size w w2 ∧
   ∀ s, Calls Tryz.prog 28 #[.pointer (some ⟨w.heap.size, 0, none⟩), .agg #[.int .i64 4, .int .i64 0, .int .i64 0, .int .i64 0, .int .i64 0, .int .i64 0, .int .i64 1, .int .i64 3, .int .i64 10, .string s]] w2 fun e w3 => e = .returned (.bool true) ∧ Below w.heap.size w w3) :
  Calls Tryz.prog 14 #[.slice ad 0 cap, .int .i64 6] w fun e w' => e = .returned (.bool true) ∧ Below w.heap.size w w' := by
 have hE1 : ∀ o, Env a m (w.alloc o) := fun o => h.on ((Below.refl _ _).alloc (Nat.le_refl _) _)
 have HF := Lib.hid hF
 clear hF
 go_enter Tryz.func14, Tryz.ntmps14
 go_wp2_with (go_at_call 28; refine (step_parse a m _ (hE1 _) _ 0 0 0 0 0 0 0 0 _ (by unfold maxLen; decide)).mono ?_; rintro e w1 ⟨rfl, hb1⟩; refine Hid.out ?_)
 refine Lib.hid ?_
 have HB1 : Hid (Below (w.alloc law0).heap.size (w.alloc law0) w1) := Lib.hid hb1
 clear hb1
 go_wp2_with (go_at_call 29; refine (HF.out _ HB1.out).mono ?_; rintro e w2 ⟨rfl, hb2, hs2⟩; refine Hid.out ?_)
 refine Lib.hid ?_
 have HS2 := Lib.hid hs2
 clear hs2
 go_wp2_with (go_at_call 28; refine (HS2.out _).mono ?_; rintro e w3 ⟨rfl, hb3⟩; refine Hid.out ?_)
 refine Lib.hid ?_
 go_wp2
 refine wp_loop_rounds 1 ?_
 rw [rounds_succ]
 go_wp2
 go_ret
 exact ⟨rfl, hb3⟩

set_option maxHeartbeats 1000000 in
theorem all_is (w : World) (v : Value) (h : Hid (Calls Tryz.prog 14 #[v, .int .i64 6] w fun e w' => e = .returned (.bool true) ∧ Below w.heap.size w w')) :
  Calls Tryz.prog 13 #[v] w fun e w' => e = .returned (.bool true) ∧ Below w.heap.size w w' := by
 go_enter Tryz.func13, Tryz.ntmps13
 go_wp2_with (go_at_call 14; refine h.out.mono ?_; rintro e w' ⟨rfl, hb⟩)
 go_ret
 exact ⟨rfl, hb⟩

end Go.Proofs.YtpcgnadfldimhaaGreatDoor
namespace Go.Proofs.YtpcgnadfldimhaaGreatDoor
open Go.RowKit

/-- Each list that came out reads as it was marked, and none lies in the law's own blocks lb. -/
def Seen (w : World) (vs : List Value) (is : List Int) (lb : Nat → Prop) : Prop := is.length = vs.length ∧ ∀ (i : Nat) v m, vs[i]? = some v → is[i]? = some m → Marked w v m ∧ ∀ k, v.ownBlock = some k → ¬ lb k ∧ k < w.heap.size

theorem Seen.nil (w : World) (lb : Nat → Prop) : Seen w [] [] lb := ⟨rfl, fun i v m h => by simp at h⟩

/-- Others wrote elsewhere. -/
theorem Seen.kept {w w' : World} {vs : List Value} {is : List Int} {lb lb' S : Nat → Prop} (h : Seen w vs is lb) (hK : Kept S w w') (hS : ∀ v ∈ vs, ∀ k, v.ownBlock = some k → ¬ S k) (hl : ∀ k, lb' k → lb k ∨ w.heap.size ≤ k) : Seen w' vs is lb' :=
 ⟨h.1, fun i v m hv hm => by
  obtain ⟨h1, h2⟩ := h.2 i v m hv hm
  refine ⟨h1.kept hK (hS v (List.mem_of_getElem? hv)), fun k e => ⟨fun e2 => ?_, Nat.lt_of_lt_of_le (h2 k e).2 hK.size⟩⟩
  rcases hl k e2 with e3 | e3
  ·exact (h2 k e).1 e3
  ·have := (h2 k e).2
   omega⟩

theorem Seen.append {w : World} {vs ns : List Value} {is js : List Int} {lb : Nat → Prop} (h : Seen w vs is lb) (h2 : Seen w ns js lb) : Seen w (vs ++ ns) (is ++ js) lb :=
 ⟨by simp [h.1, h2.1], fun i v m hv hm => by
  by_cases hi : i < vs.length
  ·rw [List.getElem?_append_left hi] at hv
   rw [List.getElem?_append_left (by rw [h.1]; exact hi)] at hm
   exact h.2 i v m hv hm
  ·rw [List.getElem?_append_right (by omega)] at hv
   rw [List.getElem?_append_right (by rw [h.1]; omega), h.1] at hm
   exact h2.2 _ v m hv hm⟩

theorem Grp.seen {w0 w : World} {l a1 a2 a3 : Value} {m : Int} {lb : Nat → Prop} (h : Grp w0 w l m [a1, a2, a3] lb) : Seen w [l, a1, a2, a3] [m, m, m, m] lb :=
 ⟨rfl, fun i v n hv hn => by
  have hm : n = m := by
   have := List.mem_of_getElem? hn
   simpa using this
  subst hm
  obtain ⟨h1, h2⟩ := h v (List.mem_of_getElem? hv)
  exact ⟨h1, fun k e => ⟨(h2 k e).2.1, (h2 k e).2.2⟩⟩⟩

/-- What looks asks. -/
theorem Seen.lists {B wb : Nat} {cs rs es m0 m1 : Value} {vr ve : List Value} {ir ie : List Int} {w : World} {lb : Nat → Prop} (hL : LawM B wb cs rs es m0 m1 vr ve ir ie w) (h1 : Seen w vr ir lb) (h2 : Seen w ve ie lb) (f1 : vr.length ≤ 8000000000) (f2 : ve.length ≤ 8000000000) :
  Lists w 31 rs m0 vr ir ∧ Lists w 32 es m1 ve ie :=
 ⟨⟨⟨B, hL.oR⟩, ⟨B, hL.oM⟩, h1.1, f1, fun i v m a b => (h1.2 i v m a b).1⟩, ⟨⟨B, hL.oE⟩, ⟨B, hL.oN⟩, h2.1, f2, fun i v m a b => (h2.2 i v m a b).1⟩⟩

/-- What own leaves, for the lists. -/
theorem Owned.seen {B wb : Nat} {cs rs es m0 m1 l kk : Value} {vr ve : List Value} {ir ie : List Int} {m : Int} {w w' : World} (h : Owned B wb cs rs es m0 m1 l kk vr ve ir ie m w w') (h1 : Seen w vr ir (lawB wb rs es m0 m1)) (h2 : Seen w ve ie (lawB wb rs es m0 m1))
  (hl : ∀ v, v ∈ vr ∨ v ∈ ve → ∀ k, v.ownBlock = some k → l.ownBlock ≠ some k ∧ kk.ownBlock ≠ some k) :
  ∃ rs' es' m0' m1' vr' ve', LawM B wb cs rs' es' m0' m1' vr' ve' (ir ++ [m, m, m, m]) (ie ++ [m, m, m, m]) w' ∧ Seen w' vr' (ir ++ [m, m, m, m]) (lawB wb rs' es' m0' m1') ∧ Seen w' ve' (ie ++ [m, m, m, m]) (lawB wb rs' es' m0' m1') ∧ vr'.length = vr.length + 4 ∧ ve'.length = ve.length + 4 ∧ Kept (fun k => l.ownBlock = some k ∨ kk.ownBlock = some k ∨ lawB wb rs es m0 m1 k) w w' := by
 obtain ⟨rs', es', m0', m1', a1, a2, a3, d1, d2, d3, hL, g1, g2, hK, hB⟩ := h
 have hs : ∀ (vs : List Value) (is : List Int), Seen w vs is (lawB wb rs es m0 m1) → (∀ v ∈ vs, v ∈ vr ∨ v ∈ ve) → ∀ v ∈ vs, ∀ k, v.ownBlock = some k → ¬ (l.ownBlock = some k ∨ kk.ownBlock = some k ∨ lawB wb rs es m0 m1 k) := fun vs is hh hm v hv k e => by
  obtain ⟨i, hi⟩ := List.mem_iff_getElem?.1 hv
  have hlt := (List.getElem?_eq_some_iff.1 hi).1
  obtain ⟨n, hn⟩ : ∃ n, is[i]? = some n := ⟨_, List.getElem?_eq_getElem (by rw [hh.1]; exact hlt)⟩
  have hx := hl v (hm v hv) k e
  rintro (e1 | e1 | e1)
  ·exact hx.1 e1
  ·exact hx.2 e1
  ·exact ((hh.2 i v n hi hn).2 k e).1 e1
 exact ⟨rs', es', m0', m1', _, _, hL, (h1.kept hK (hs vr ir h1 (fun _ e => Or.inl e)) hB).append g1.seen, (h2.kept hK (hs ve ie h2 (fun _ e => Or.inr e)) hB).append g2.seen, by simp, by simp, hK⟩

end Go.Proofs.YtpcgnadfldimhaaGreatDoor
