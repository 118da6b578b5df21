/-
  A pair: the program's cluster and the document's, side by side; a Do of the one and of the other.
-/
import Derived.Test.YtpcgnadfldimhaaGreatDoorLawBB
import Derived.Test.YtpcgnadfldimhaaGreatDoorBerY
import Derived.Test.YtpcgnadfldimhaaGreatDoorRefZZ
import Derived.Test.YtpcgnadfldimhaaGreatDoorBerZ
import Derived.Test.YtpcgnadfldimhaaGreatDoorEnvOf
namespace Go.Proofs.YtpcgnadfldimhaaGreatDoor
open Go.RowKit

/-- A pair between the steps; X tells which blocks are its own. -/
def PairS (B bx bc N : Nat) (X : Nat → Prop) (w : World) : Prop :=
  ∃ nodes jobs wall last now L v bi vr vl vh E, Good nodes jobs wall last now L ∧ L.length ≤ N ∧ RefO B bc nodes jobs wall last now v L w ∧ Prog B bx bi nodes jobs wall last now vr vl vh L E w ∧ ∀ k, X k ↔ (k = bc ∨ v.ownBlock = some k ∨ progB bx bi vr vl vh k)

theorem PairS.lt {B bx bc N : Nat} {X : Nat → Prop} {w : World} (h : PairS B bx bc N X w) (k : Nat) (hk : X k) : B ≤ k ∧ k < w.heap.size := by
  obtain ⟨nodes, jobs, wall, last, now, L, v, bi, vr, vl, vh, E, _, _, hR, hP, hX⟩ := h
  rcases (hX k).1 hk with rfl | e | e
  · exact ⟨hR.low, hR.lt⟩
  · exact hR.own.lt k e
  · exact hP.lt k e

theorem PairS.kept {B bx bc N : Nat} {X S : Nat → Prop} {w w' : World} (h : PairS B bx bc N X w) (hK : Kept S w w') (hS : ∀ k, X k → ¬ S k) : PairS B bx bc N X w' := by
  obtain ⟨nodes, jobs, wall, last, now, L, v, bi, vr, vl, vh, E, hG, hN, hR, hP, hX⟩ := h
  exact ⟨nodes, jobs, wall, last, now, L, v, bi, vr, vl, vh, E, hG, hN, hR.kept hK (fun k hs => ⟨fun e => hS k ((hX k).2 (Or.inl e)) hs, fun e => hS k ((hX k).2 (Or.inr (Or.inl e))) hs⟩), hP.kept hK (fun k hk hs => hS k ((hX k).2 (Or.inr (Or.inr hk))) hs), hX⟩

theorem PairS.mono {B bx bc N N' : Nat} {X : Nat → Prop} {w : World} (h : PairS B bx bc N X w) (hN : N ≤ N') : PairS B bx bc N' X w := by
  obtain ⟨nodes, jobs, wall, last, now, L, v, bi, vr, vl, vh, E, hG, hL, r⟩ := h
  exact ⟨nodes, jobs, wall, last, now, L, v, bi, vr, vl, vh, E, hG, Nat.le_trans hL hN, r⟩

/-- The two never share a block: their blocks are of different kinds. -/
theorem ref_apart {B bx bc bi : Nat} {nodes jobs wall last now : Int} {v vr vl vh : Value} {L : List Job} {E : List Ev} {w : World} (hR : RefO B bc nodes jobs wall last now v L w) (hP : Prog B bx bi nodes jobs wall last now vr vl vh L E w) (k : Nat) (hk : progB bx bi vr vl vh k) : k ≠ bc ∧ v.ownBlock ≠ some k := by
  have hb := hR.blk
  rcases hk with rfl | rfl | e | e | e
  · refine ⟨fun e => ?_, owns_not hR.own hP.out (by decide)⟩
    subst e
    rw [hP.out] at hb
    simp at hb
  · refine ⟨fun e => ?_, owns_not hR.own hP.clu.cl.hp.blk (by decide)⟩
    subst e
    rw [hP.clu.cl.hp.blk] at hb
    simp at hb
  · exact ⟨fun e2 => owns_not hP.clu.cl.rcd hb (by decide) (e2 ▸ e), owns_apart hP.clu.cl.rcd hR.own (by decide) k e⟩
  · exact ⟨fun e2 => owns_not hP.clu.cl.liv hb (by decide) (e2 ▸ e), owns_apart hP.clu.cl.liv hR.own (by decide) k e⟩
  · exact ⟨fun e2 => owns_not hP.clu.cl.hp.row hb (by decide) (e2 ▸ e), owns_apart hP.clu.cl.hp.row hR.own (by decide) k e⟩

/-- What the two Do leave of the pair. -/
def PairQ (B bx bc N : Nat) (X : Nat → Prop) (w : World) (y1 x1 : Value) (w4 : World) : Prop :=
  ∃ X', PairS B bx bc (N + 1) X' w4 ∧ Kept X w w4 ∧ (∀ k, X' k → X k ∨ w.heap.size ≤ k) ∧ ∀ k, y1.ownBlock = some k ∨ x1.ownBlock = some k → w.heap.size ≤ k ∧ k < w4.heap.size ∧ ¬ X' k

theorem both_of (B bx bc N wb : Nat) (X : Nat → Prop) (cs rs es m0 m1 : Value) (vr ve : List Value) (ir ie : List Int) (a : Addr) (m : Int) (w0 w : World) (hE : Env a m w0) (h0 : Below w0.heap.size w0 w) (hB0 : w0.heap.size ≤ B) (hBw : B ≤ w.heap.size) (h : PairS B bx bc N X w) (hN : N < 999999999) (hL : LawM B wb cs rs es m0 m1 vr ve ir ie w) (hX : ∀ k, X k → ¬ lawB wb rs es m0 m1 k) (k x y : Int) (Q : Value → Value → World → Prop) (hQ : ∀ y1 x1 w4, PairQ B bx bc N X w y1 x1 w4 → Q y1 x1 w4) :
    Both bx bc k x y B wb cs rs es m0 m1 vr ve ir ie Q w := by
  intro w1 hb1
  have hlt := fun k hk => h.lt k hk
  have h1 : PairS B bx bc N X w1 := h.kept (S := fun _ => False) (Kept.of_below hb1) (fun _ _ e => e)
  obtain ⟨nodes, jobs, wall, last, now, L, v, bi, pr, pl, ph, E, hG, hLN, hR1, hP1, hXX⟩ := h1
  have hs1 := hb1.size
  have hB1 : Below w0.heap.size w0 w1 := h0.trans (hb1.mono h0.size)
  have hbc : bc < w.heap.size := (hlt bc ((hXX bc).2 (Or.inl rfl))).2
  have hv : ∀ k, v.ownBlock = some k → k < w.heap.size := fun k e => (hlt k ((hXX k).2 (Or.inr (Or.inl e)))).2
  have hp : ∀ k, progB bx bi pr pl ph k → k < w.heap.size := fun k e => (hlt k ((hXX k).2 (Or.inr (Or.inr e)))).2
  refine (doP B bx bi nodes jobs wall last now pr pl ph L E a m w0 hE w1 hB1 hB0 (by omega) hP1 hG (by omega) k x y).mono ?_
  rintro e w2 ⟨o, y1, x1, pr', pl', ph', E', hD, rfl, hY1, hX1, hP2, hK2, hN2, hA2⟩
  have hs2 := hK2.size
  obtain ⟨q1, c1, ey⟩ := own_slice hY1
  obtain ⟨q2, c2, ex⟩ := own_slice hX1
  refine ⟨o.err, o.a, o.b, o.c, y1, x1, rfl, ⟨q1, _, c1, ey⟩, ⟨q2, _, c2, ex⟩, ⟨hs2, fun k h4 h5 => hK2.block k h5 (fun e => by have := hp k e; omega)⟩, ?_⟩
  intro w3 hb3
  have hs3 := hb3.size
  have hR2 : RefO B bc nodes jobs wall last now v L w2 := hR1.kept hK2 (fun k e => ⟨(ref_apart hR1 hP1 k e).1, (ref_apart hR1 hP1 k e).2⟩)
  have hR3 : RefO B bc nodes jobs wall last now v L w3 := hR2.kept (S := fun _ => False) (Kept.of_below hb3) (fun _ e => e.elim)
  refine (do_refE B bc nodes jobs wall last now v L w3 hR3 hG (by omega) (by omega) k x y).mono ?_
  rintro e w4 ⟨o', hD', y2, x2, v', rfl, hY2, hX2, hR4, hK4, hV4⟩
  obtain rfl := doE_unique hG hD hD'
  have hs4 := hK4.size
  obtain ⟨sr, se⟩ := doE_small hG hD (by omega)
  obtain ⟨hG4, hL4⟩ := good_doE hG hD
  have nY : ∀ k, y1.ownBlock = some k → w1.heap.size ≤ k ∧ k < w2.heap.size := fun k e => hY1.lt k e
  have nX : ∀ k, x1.ownBlock = some k → w1.heap.size ≤ k ∧ k < w2.heap.size := fun k e => hX1.lt k e
  have hnS : ∀ k, w.heap.size ≤ k → ¬ (k = bc ∨ v.ownBlock = some k) := fun k e1 e3 => by
    rcases e3 with e3 | e3
    · omega
    · have := hv k e3; omega
  have k24 : ∀ k, w1.heap.size ≤ k → k < w2.heap.size → w4.heap[k]? = w2.heap[k]? := fun k e1 e2 => (hK4.block k (by omega) (hnS k (by omega))).trans (hb3.block k e2)
  have hY4 := owns_on (w' := w4) hY1 (fun k e => k24 k (nY k e).1 (nY k e).2)
  have hX4 := owns_on (w' := w4) hX1 (fun k e => k24 k (nX k e).1 (nX k e).2)
  have hP3 : Prog B bx bi nodes jobs wall last o.now pr' pl' ph' o.L E' w3 := hP2.kept (S := fun _ => False) (Kept.of_below hb3) (fun _ _ e => e)
  have hap : ∀ k, progB bx bi pr' pl' ph' k → ¬ (k = bc ∨ v.ownBlock = some k) := fun k e => by
    rcases hN2 k e with e1 | e1
    · have := ref_apart hR1 hP1 k e1
      rintro (e2 | e2)
      · exact this.1 e2
      · exact this.2 e2
    · rintro (e2 | e2)
      · omega
      · have := hv k e2; omega
  have hP4 : Prog B bx bi nodes jobs wall last o.now pr' pl' ph' o.L E' w4 := hP3.kept hK4 hap
  have hKK : Kept X w w4 := (((Kept.of_below (S := X) hb1).trans (hK2.mono (T := X) (fun k e => (hXX k).2 (Or.inr (Or.inr e)))) (fun _ e => Or.inl e)).trans (Kept.of_below (S := X) hb3) (fun _ e => Or.inl e)).trans (hK4.mono (T := X) (fun k e => (hXX k).2 (e.elim Or.inl (fun e => Or.inr (Or.inl e))))) (fun _ e => Or.inl e)
  refine ⟨y2, x2, o.rows, o.evs, w1.heap.size, w1.heap.size, w3.heap.size, w3.heap.size, rfl, ⟨hs4, fun k h4 h5 => hK4.block k h5 (hnS k h4)⟩, hY4, hX4, hY2, hX2, sr, se, by omega, by omega, hL.kept hKK hX, hQ _ _ _ ?_⟩
  refine ⟨fun k => k = bc ∨ v'.ownBlock = some k ∨ progB bx bi pr' pl' ph' k, ⟨nodes, jobs, wall, last, o.now, o.L, v', bi, pr', pl', ph', E', hG4, by omega, hR4, hP4, fun k => Iff.rfl⟩, hKK, ?_, ?_⟩
  · rintro k (e | e | e)
    · exact Or.inl ((hXX k).2 (Or.inl e))
    · rcases hV4 k e with e | e
      · exact Or.inl ((hXX k).2 (Or.inr (Or.inl e)))
      · exact Or.inr (by omega)
    · rcases hN2 k e with e | e
      · exact Or.inl ((hXX k).2 (Or.inr (Or.inr e)))
      · exact Or.inr (by omega)
  · rintro k (e | e)
    · refine ⟨by have := (nY k e).1; omega, by have := (nY k e).2; omega, ?_⟩
      rintro (e2 | e2 | e2)
      · exact owns_not hY4 hR4.blk (by decide) (e2 ▸ e)
      · exact owns_apart hY4 hR4.own (by decide) k e e2
      · rcases e2 with e2 | e2 | e2 | e2 | e2
        · exact owns_not hY4 hP4.out (by decide) (e2 ▸ e)
        · exact owns_not hY4 hP4.clu.cl.hp.blk (by decide) (e2 ▸ e)
        · exact owns_apart hY4 hP4.clu.cl.rcd (by decide) k e e2
        · exact owns_apart hY4 hP4.clu.cl.liv (by decide) k e e2
        · exact owns_apart hY4 hP4.clu.cl.hp.row (by decide) k e e2
    · refine ⟨by have := (nX k e).1; omega, by have := (nX k e).2; omega, ?_⟩
      rintro (e2 | e2 | e2)
      · exact owns_not hX4 hR4.blk (by decide) (e2 ▸ e)
      · exact owns_apart hX4 hR4.own (by decide) k e e2
      · exact hA2 k e e2

end Go.Proofs.YtpcgnadfldimhaaGreatDoor
namespace Go.Proofs.YtpcgnadfldimhaaGreatDoor
open Go.RowKit

set_option maxHeartbeats 8000000 in
set_option maxRecDepth 100000 in
/-- A step of a kind that does nothing. -/
theorem step_idle (B wb n : Nat) (cs rs es m0 m1 : Value) (vr ve ps : List Value) (ir ie : List Int) (w : World) (hL : LawM B wb cs rs es m0 m1 vr ve ir ie w) (oC : w.ownsRow B 104 2 cs n ps) (hn : 1 ≤ n) (hn' : n ≤ 1000000000)
    (q i c1 c2 c3 c4 k d2 d3 : Int) (s : ByteArray) (hi1 : -9223372036854775808 ≤ i) (hi2 : i ≤ 9223372036854775807) (q1 : q ≠ 1) (q2 : q ≠ 2) (q3 : q ≠ 3) (q4 : q ≠ 4) (q5 : q ≠ 5) (q6 : q ≠ 6)
    (hps : ∀ j, j < n → ∃ bx bc, ps[j * 2]? = some (.pointer (some ⟨bx, 0, none⟩)) ∧ ps[j * 2 + 1]? = some (.pointer (some ⟨bc, 0, none⟩))) :
    Calls Tryz.prog 28 #[.pointer (some ⟨wb, 0, none⟩), .agg #[.int .i64 q, .int .i64 i, .int .i64 c1, .int .i64 c2, .int .i64 c3, .int .i64 c4, .int .i64 k, .int .i64 d2, .int .i64 d3, .string s]] w fun e w' => e = .returned (.bool true) ∧ Below w.heap.size w w' := by
  have hwb : wb < w.heap.size := hL.lt wb (Or.inl rfl)
  obtain ⟨g, c, rfl⟩ : ∃ g c, cs = .slice (some ⟨g, 0, none⟩) n c := by
    rcases own_forms oC with ⟨_, hn⟩ | ⟨g, c2, e⟩
    · omega
    · exact ⟨g, c2, e⟩
  have c0 := cell_of_row _ _ 0 _ _ (0, 0) hL.W
  simp at c0
  have hg : g < w.heap.size := (oC.lt g rfl).2
  have hC := fun j hj => (oC.cellAt (g := g) j hj)
  obtain ⟨bx, bc, hp0, hp1⟩ := hps (pickN i n) (pickN_lt i n hn)
  have hj := pickN_lt i n hn
  generalize hJ : pickN i n = j at *
  have hlen := oC.1
  have a0 := (hC (j * 2) (by omega)).trans hp0
  have a1 := (hC (j * 2 + 1) (by omega)).trans hp1
  have e1 : (0 : Int) ≤ (j : Int) := by omega
  have e2 : (j : Int) < (n : Int) := by omega
  have f1 : (q == 1) = false := beq_eq_false_iff_ne.2 q1
  have f2 : (q == 2) = false := beq_eq_false_iff_ne.2 q2
  have f3 : (q == 3) = false := beq_eq_false_iff_ne.2 q3
  have f4 : (q == 4) = false := beq_eq_false_iff_ne.2 q4
  have f5 : (q == 5) = false := beq_eq_false_iff_ne.2 q5
  have f6 : (q == 6) = false := beq_eq_false_iff_ne.2 q6
  clear hL hC oC hps hp0 hp1
  go_enter Tryz.func28, Tryz.ntmps28
  go_wp2
  go_region_held3 (fun w' => w'.cell? ⟨wb, 0, none⟩ = some (.slice (some ⟨g, 0, none⟩) n c) ∧ w'.cell? ⟨w.heap.size, 1, none⟩ = some (.int .i64 i) ∧ w'.cell? ⟨g, j * 2, none⟩ = some (.pointer (some ⟨bx, 0, none⟩)) ∧ w'.cell? ⟨g, j * 2 + 1, none⟩ = some (.pointer (some ⟨bc, 0, none⟩))) (go_keep) (first | (go_at_call 43; refine (pick_is i n _ hi1 hi2 hn (by omega)).mono ?_; rintro e w2 ⟨rfl, hw⟩; subst w2; rw [hJ]))
  all_goals
    go_wp2
    go_ret
    exact ⟨rfl, (((Below.refl w.heap.size w).alloc (Nat.le_refl _) _).alloc (by simp) _).drew⟩

/-- Which blocks no list may lie in. -/
def barB (wb n : Nat) (cs rs es m0 m1 : Value) (X : Nat → Nat → Prop) (k : Nat) : Prop := lawB wb rs es m0 m1 k ∨ cs.ownBlock = some k ∨ ∃ j, j < n ∧ X j k

/-- What is kept: n pairs; at most p jobs in each; at most 4 * p lists of each kind. -/
structure InvD (B wb n p : Nat) (cs rs es m0 m1 : Value) (vr ve ps : List Value) (ir ie : List Int) (X : Nat → Nat → Prop) (w : World) : Prop where
  law : LawM B wb cs rs es m0 m1 vr ve ir ie w
  prs : w.ownsRow B 104 2 cs n ps
  few : n ≤ p
  nr : vr.length ≤ 4 * p
  ne : ve.length ≤ 4 * p
  sr : Seen w vr ir (barB wb n cs rs es m0 m1 X)
  se : Seen w ve ie (barB wb n cs rs es m0 m1 X)
  each : ∀ j, j < n → ∃ bx bc, ps[j * 2]? = some (.pointer (some ⟨bx, 0, none⟩)) ∧ ps[j * 2 + 1]? = some (.pointer (some ⟨bc, 0, none⟩)) ∧ PairS B bx bc p (X j) w
  off : ∀ j k, j < n → X j k → ¬ lawB wb rs es m0 m1 k ∧ cs.ownBlock ≠ some k
  two : ∀ i j k, i < n → j < n → X i k → X j k → i = j

def InvP (B wb n p : Nat) (w : World) : Prop := ∃ cs rs es m0 m1 vr ve ps ir ie X, InvD B wb n p cs rs es m0 m1 vr ve ps ir ie X w

theorem InvD.below {B wb n p : Nat} {cs rs es m0 m1 : Value} {vr ve ps : List Value} {ir ie : List Int} {X : Nat → Nat → Prop} {w w' : World} (h : InvD B wb n p cs rs es m0 m1 vr ve ps ir ie X w) (hb : Below w.heap.size w w') : InvD B wb n p cs rs es m0 m1 vr ve ps ir ie X w' where
  law := h.law.kept (S := fun _ => False) (Kept.of_below hb) (fun _ e => e.elim)
  prs := owns_on h.prs (fun k e => hb.block k (h.prs.lt k e).2)
  few := h.few
  nr := h.nr
  ne := h.ne
  sr := h.sr.kept (S := fun _ => False) (Kept.of_below hb) (fun _ _ _ _ e => e) (fun _ e => Or.inl e)
  se := h.se.kept (S := fun _ => False) (Kept.of_below hb) (fun _ _ _ _ e => e) (fun _ e => Or.inl e)
  each := fun j hj => by
    obtain ⟨bx, bc, e1, e2, e3⟩ := h.each j hj
    exact ⟨bx, bc, e1, e2, e3.kept (S := fun _ => False) (Kept.of_below hb) (fun _ _ e => e)⟩
  off := h.off
  two := h.two
theorem InvP.below {B wb n p : Nat} {w w' : World} (h : InvP B wb n p w) (hb : Below w.heap.size w w') : InvP B wb n p w' := by
  obtain ⟨cs, rs, es, m0, m1, vr, ve, ps, ir, ie, X, h⟩ := h
  exact ⟨cs, rs, es, m0, m1, vr, ve, ps, ir, ie, X, h.below hb⟩
theorem InvP.more {B wb n p p' : Nat} {w : World} (h : InvP B wb n p w) (hp : p ≤ p') : InvP B wb n p' w := by
  obtain ⟨cs, rs, es, m0, m1, vr, ve, ps, ir, ie, X, h⟩ := h
  exact ⟨cs, rs, es, m0, m1, vr, ve, ps, ir, ie, X, h.law, h.prs, Nat.le_trans h.few hp, Nat.le_trans h.nr (by omega), Nat.le_trans h.ne (by omega), h.sr, h.se, fun j hj => by
    obtain ⟨bx, bc, e1, e2, e3⟩ := h.each j hj
    exact ⟨bx, bc, e1, e2, e3.mono hp⟩, h.off, h.two⟩
theorem InvP.lt {B wb n p : Nat} {w : World} (h : InvP B wb n p w) : wb < w.heap.size := by
  obtain ⟨cs, rs, es, m0, m1, vr, ve, ps, ir, ie, X, h⟩ := h
  exact h.law.lt wb (Or.inl rfl)

theorem InvP.looks {B wb n p : Nat} {w : World} (h : InvP B wb n p w) (hp : p ≤ 2000000000) : Calls Tryz.prog 30 #[.pointer (some ⟨wb, 0, none⟩)] w fun e w' => e = .returned (.bool true) ∧ Below w.heap.size w w' := by
  obtain ⟨cs, rs, es, m0, m1, vr, ve, ps, ir, ie, X, h⟩ := h
  have nr := h.nr
  have ne := h.ne
  obtain ⟨l1, l2⟩ := Seen.lists h.law h.sr h.se (by omega) (by omega)
  exact looks_any wb cs rs es m0 m1 vr ve ir ie w h.law.W l1 l2

/-- All of the law's blocks lie above. -/
theorem LawM.above {B wb : Nat} {cs rs es m0 m1 : Value} {vr ve : List Value} {ir ie : List Int} {w : World} (h : LawM B wb cs rs es m0 m1 vr ve ir ie w) (k : Nat) (hk : lawB wb rs es m0 m1 k) : B ≤ k := by
  rcases hk with rfl | e | e | e | e
  · exact h.low
  · exact (h.oR.lt k e).1
  · exact (h.oE.lt k e).1
  · exact (h.oM.lt k e).1
  · exact (h.oN.lt k e).1

theorem Grp.seenP {w0 w : World} {l a1 a2 a3 : Value} {m : Int} {lb P : Nat → Prop} (h : Grp w0 w l m [a1, a2, a3] lb) (hP : ∀ k, P k → k < w0.heap.size ∧ l.ownBlock ≠ some k) : Seen w [l, a1, a2, a3] [m, m, m, m] (fun k => lb k ∨ P k) :=
  ⟨rfl, fun i v n hv hn => by
    have hm : n = m := by
      have := List.mem_of_getElem? hn
      simpa using this
    subst hm
    obtain ⟨h1, h2⟩ := h v (List.mem_of_getElem? hv)
    refine ⟨h1, fun k e => ⟨?_, (h2 k e).2.2⟩⟩
    rintro (e1 | e1)
    · exact (h2 k e).2.1 e1
    · rcases (h2 k e).1 with e2 | e2
      · exact (hP k e1).2 e2
      · have := (hP k e1).1; omega⟩

/-- What own leaves, for the lists, and for blocks P that no list may lie in. -/
theorem Owned.seenB {B wb : Nat} {cs rs es m0 m1 l kk : Value} {vr ve : List Value} {ir ie : List Int} {m : Int} {w w' : World} {P : Nat → Prop} (h : Owned B wb cs rs es m0 m1 l kk vr ve ir ie m w w') (h1 : Seen w vr ir (fun k => lawB wb rs es m0 m1 k ∨ P k)) (h2 : Seen w ve ie (fun k => lawB wb rs es m0 m1 k ∨ P k))
    (hP : ∀ k, P k → k < w.heap.size ∧ l.ownBlock ≠ some k ∧ kk.ownBlock ≠ some k)
    (hl : ∀ v, v ∈ vr ∨ v ∈ ve → ∀ k, v.ownBlock = some k → l.ownBlock ≠ some k ∧ kk.ownBlock ≠ some k) :
    ∃ rs' es' m0' m1' vr' ve', LawM B wb cs rs' es' m0' m1' vr' ve' (ir ++ [m, m, m, m]) (ie ++ [m, m, m, m]) w' ∧ Seen w' vr' (ir ++ [m, m, m, m]) (fun k => lawB wb rs' es' m0' m1' k ∨ P k) ∧ Seen w' ve' (ie ++ [m, m, m, m]) (fun k => lawB wb rs' es' m0' m1' k ∨ P k) ∧ vr'.length = vr.length + 4 ∧ ve'.length = ve.length + 4 ∧ Kept (fun k => l.ownBlock = some k ∨ kk.ownBlock = some k ∨ lawB wb rs es m0 m1 k) w w' ∧ ∀ k, lawB wb rs' es' m0' m1' k → lawB wb rs es m0 m1 k ∨ w.heap.size ≤ k := by
  obtain ⟨rs', es', m0', m1', a1, a2, a3, d1, d2, d3, hL, g1, g2, hK, hB⟩ := h
  have hs : ∀ (vs : List Value) (is : List Int), Seen w vs is (fun k => lawB wb rs es m0 m1 k ∨ P k) → (∀ v ∈ vs, v ∈ vr ∨ v ∈ ve) → ∀ v ∈ vs, ∀ k, v.ownBlock = some k → ¬ (l.ownBlock = some k ∨ kk.ownBlock = some k ∨ lawB wb rs es m0 m1 k) := fun vs is hh hm v hv k e => by
    obtain ⟨i, hi⟩ := List.mem_iff_getElem?.1 hv
    have hlt := (List.getElem?_eq_some_iff.1 hi).1
    obtain ⟨n, hn⟩ : ∃ n, is[i]? = some n := ⟨_, List.getElem?_eq_getElem (by rw [hh.1]; exact hlt)⟩
    have hx := hl v (hm v hv) k e
    rintro (e1 | e1 | e1)
    · exact hx.1 e1
    · exact hx.2 e1
    · exact ((hh.2 i v n hi hn).2 k e).1 (Or.inl e1)
  have hb : ∀ k, (lawB wb rs' es' m0' m1' k ∨ P k) → (lawB wb rs es m0 m1 k ∨ P k) ∨ w.heap.size ≤ k := fun k e => by
    rcases e with e | e
    · exact (hB k e).imp Or.inl id
    · exact Or.inl (Or.inr e)
  exact ⟨rs', es', m0', m1', _, _, hL, (h1.kept hK (hs vr ir h1 (fun _ e => Or.inl e)) hb).append (g1.seenP (fun k e => ⟨(hP k e).1, (hP k e).2.1⟩)), (h2.kept hK (hs ve ie h2 (fun _ e => Or.inr e)) hb).append (g2.seenP (fun k e => ⟨(hP k e).1, (hP k e).2.2⟩)), by simp, by simp, hK, hB⟩

theorem Seen.off {w : World} {vs : List Value} {is : List Int} {lb : Nat → Prop} (h : Seen w vs is lb) (v : Value) (hv : v ∈ vs) (k : Nat) (e : v.ownBlock = some k) : ¬ lb k ∧ k < w.heap.size := by
  obtain ⟨i, hi⟩ := List.mem_iff_getElem?.1 hv
  have hlt := (List.getElem?_eq_some_iff.1 hi).1
  obtain ⟨n, hn⟩ : ∃ n, is[i]? = some n := ⟨_, List.getElem?_eq_getElem (by rw [h.1]; exact hlt)⟩
  exact (h.2 i v n hi hn).2 k e

/-- What a Do of pair j and what own leave. -/
theorem InvD.did {B wb n p j bx bc : Nat} {cs rs es m0 m1 y1 x1 : Value} {vr ve ps : List Value} {ir ie : List Int} {X : Nat → Nat → Prop} {m : Int} {w w4 w5 w' : World} (h : InvD B wb n p cs rs es m0 m1 vr ve ps ir ie X w) (hBw : B ≤ w.heap.size) (hj : j < n) (e1 : ps[j * 2]? = some (.pointer (some ⟨bx, 0, none⟩))) (e2 : ps[j * 2 + 1]? = some (.pointer (some ⟨bc, 0, none⟩)))
    (hQ : PairQ B bx bc p (X j) w y1 x1 w4) (hb : Below w4.heap.size w4 w5) (hO : Owned B wb cs rs es m0 m1 y1 x1 vr ve ir ie m w5 w') : InvP B wb n (p + 1) w' ∧ Kept (fun k => B ≤ k) w w' := by
  obtain ⟨X', hS4, hK4, hX', hyx⟩ := hQ
  have hs4 := hK4.size
  have hs5 := hb.size
  have hlt : ∀ i, i < n → ∀ k, X i k → B ≤ k ∧ k < w.heap.size := fun i hi k hk => by
    obtain ⟨_, _, _, _, hp⟩ := h.each i hi
    exact hp.lt k hk
  have hlt' : ∀ k, X' k → B ≤ k ∧ k < w4.heap.size := fun k hk => hS4.lt k hk
  have hcs : ∀ k, cs.ownBlock = some k → B ≤ k ∧ k < w.heap.size := fun k e => h.prs.lt k e
  have hK5 : Kept (X j) w w5 := hK4.trans (Kept.of_below (S := X j) hb) (fun _ e => Or.inl e)
  obtain ⟨Y, hY⟩ : ∃ Y : Nat → Nat → Prop, ∀ i k, Y i k ↔ (i = j ∧ X' k) ∨ (i ≠ j ∧ X i k) := ⟨fun i k => (i = j ∧ X' k) ∨ (i ≠ j ∧ X i k), fun _ _ => Iff.rfl⟩
  have hYX : ∀ i k, i < n → Y i k → X i k ∨ w.heap.size ≤ k := fun i k hi e => by
    rcases (hY i k).1 e with ⟨rfl, e⟩ | ⟨_, e⟩
    · exact hX' k e
    · exact Or.inl e
  have hYlt : ∀ i k, i < n → Y i k → k < w4.heap.size := fun i k hi e => by
    rcases (hY i k).1 e with ⟨rfl, e⟩ | ⟨_, e⟩
    · exact (hlt' k e).2
    · have := (hlt i hi k e).2; omega
  have hYl : ∀ i k, i < n → Y i k → y1.ownBlock ≠ some k ∧ x1.ownBlock ≠ some k := fun i k hi e => by
    rcases (hY i k).1 e with ⟨rfl, e⟩ | ⟨_, e⟩
    · exact ⟨fun e3 => (hyx k (Or.inl e3)).2.2 e, fun e3 => (hyx k (Or.inr e3)).2.2 e⟩
    · have := (hlt i hi k e).2
      exact ⟨fun e3 => by have := (hyx k (Or.inl e3)).1; omega, fun e3 => by have := (hyx k (Or.inr e3)).1; omega⟩
  have hYb : ∀ i k, i < n → Y i k → ¬ lawB wb rs es m0 m1 k ∧ cs.ownBlock ≠ some k := fun i k hi e => by
    rcases hYX i k hi e with e | e
    · exact h.off i k hi e
    · exact ⟨fun e3 => by have := h.law.lt k e3; omega, fun e3 => by have := (hcs k e3).2; omega⟩
  have hsee : ∀ (vs : List Value) (is : List Int), Seen w vs is (barB wb n cs rs es m0 m1 X) → Seen w5 vs is (fun k => lawB wb rs es m0 m1 k ∨ (cs.ownBlock = some k ∨ ∃ i, i < n ∧ Y i k)) := fun vs is hh =>
    hh.kept hK5 (fun v hv k e e3 => (hh.off v hv k e).1 (Or.inr (Or.inr ⟨j, hj, e3⟩))) (fun k e => by
      rcases e with e | e | ⟨i, hi, e⟩
      · exact Or.inl (Or.inl e)
      · exact Or.inl (Or.inr (Or.inl e))
      · rcases hYX i k hi e with e | e
        · exact Or.inl (Or.inr (Or.inr ⟨i, hi, e⟩))
        · exact Or.inr e)
  obtain ⟨rs', es', m0', m1', vr', ve', hL', s1, s2, n1, n2, hKO, hBO⟩ := hO.seenB (hsee vr ir h.sr) (hsee ve ie h.se) (fun k e => by
      rcases e with e | ⟨i, hi, e⟩
      · have := (hcs k e).2
        exact ⟨by omega, fun e3 => by have := (hyx k (Or.inl e3)).1; omega, fun e3 => by have := (hyx k (Or.inr e3)).1; omega⟩
      · exact ⟨by have := hYlt i k hi e; omega, hYl i k hi e⟩) (fun v hv k e => by
      have hk : k < w.heap.size := by
        rcases hv with hv | hv
        · exact (h.sr.off v hv k e).2
        · exact (h.se.off v hv k e).2
      exact ⟨fun e3 => by have := (hyx k (Or.inl e3)).1; omega, fun e3 => by have := (hyx k (Or.inr e3)).1; omega⟩)
  have hav : ∀ k, cs.ownBlock = some k → ¬ lawB wb rs es m0 m1 k := fun k e => h.law.avoid h.prs (by decide) (by decide) (by decide) (by decide) k e
  have few := h.few
  have nr := h.nr
  have ne := h.ne
  refine ⟨⟨cs, rs', es', m0', m1', vr', ve', ps, _, _, Y, hL', ?_, by omega, by omega, by omega, s1, s2, ?_, ?_, ?_⟩, ?_⟩
  · have h5 : w5.ownsRow B 104 2 cs n ps := owns_on h.prs (fun k e => hK5.block k (hcs k e).2 (fun e3 => (h.off j k hj e3).2 e))
    refine owns_on h5 (fun k e => hKO.block k (h5.lt k e).2 ?_)
    have := (hcs k e).2
    rintro (e3 | e3 | e3)
    · have := (hyx k (Or.inl e3)).1; omega
    · have := (hyx k (Or.inr e3)).1; omega
    · exact hav k e e3
  · intro i hi
    have hnS : ∀ k, Y i k → ¬ (y1.ownBlock = some k ∨ x1.ownBlock = some k ∨ lawB wb rs es m0 m1 k) := fun k e => by
      rintro (e3 | e3 | e3)
      · exact (hYl i k hi e).1 e3
      · exact (hYl i k hi e).2 e3
      · exact (hYb i k hi e).1 e3
    by_cases hij : i = j
    · subst hij
      have e : Y i = X' := funext fun k => propext ((hY i k).trans ⟨fun e => e.elim (fun e => e.2) (fun e => (e.1 rfl).elim), fun e => Or.inl ⟨rfl, e⟩⟩)
      refine ⟨bx, bc, e1, e2, ?_⟩
      rw [e] at hnS ⊢
      exact (hS4.kept (S := fun _ => False) (Kept.of_below hb) (fun _ _ e => e)).kept hKO hnS
    · have e : Y i = X i := funext fun k => propext ((hY i k).trans ⟨fun e => e.elim (fun e => (hij e.1).elim) (fun e => e.2), fun e => Or.inr ⟨hij, e⟩⟩)
      obtain ⟨bx2, bc2, f1, f2, f3⟩ := h.each i hi
      refine ⟨bx2, bc2, f1, f2, ?_⟩
      rw [e] at hnS ⊢
      exact ((f3.kept hK5 (fun k hk e3 => hij (h.two i j k hi hj hk e3))).kept hKO hnS).mono (by omega)
  · intro i k hi e
    refine ⟨fun e3 => ?_, (hYb i k hi e).2⟩
    rcases hBO k e3 with e4 | e4
    · exact (hYb i k hi e).1 e4
    · have := hYlt i k hi e; omega
  · intro i i' k hi hi' e e'
    rcases (hY i k).1 e with ⟨a1, b1⟩ | ⟨a1, b1⟩ <;> rcases (hY i' k).1 e' with ⟨a2, b2⟩ | ⟨a2, b2⟩
    · omega
    · rcases hX' k b1 with c | c
      · exact (a2 (h.two i' j k hi' hj b2 c)).elim
      · have := (hlt i' hi' k b2).2; omega
    · rcases hX' k b2 with c | c
      · exact (a1 (h.two i j k hi hj b1 c)).elim
      · have := (hlt i hi k b1).2; omega
    · exact h.two i i' k hi hi' b1 b2
  · refine (hK5.mono (T := fun k => B ≤ k) (fun k e => (hlt j hj k e).1)).trans (hKO.mono (T := fun k => B ≤ k) (fun k e => ?_)) (fun _ e => Or.inl e)
    rcases e with e | e | e
    · have := (hyx k (Or.inl e)).1; omega
    · have := (hyx k (Or.inr e)).1; omega
    · exact h.law.above k e

/-- A step at KDo. -/
theorem InvP.doing {B wb n p : Nat} {w : World} (a : Addr) (m : Int) (w0 : World) (hE : Env a m w0) (h0 : Below w0.heap.size w0 w) (hB0 : w0.heap.size ≤ B) (hBw : B ≤ w.heap.size) (h : InvP B wb n p w) (hn : 1 ≤ n) (hp : p < 900000000) (i c1 c2 c3 c4 k d2 d3 : Int) (s : ByteArray) (hi1 : -9223372036854775808 ≤ i) (hi2 : i ≤ 9223372036854775807) (hk2 : k ≠ 2) (hk3 : k ≠ 3) :
    Calls Tryz.prog 28 #[.pointer (some ⟨wb, 0, none⟩), .agg #[.int .i64 4, .int .i64 i, .int .i64 c1, .int .i64 c2, .int .i64 c3, .int .i64 c4, .int .i64 k, .int .i64 d2, .int .i64 d3, .string s]] w fun e w' => e = .returned (.bool true) ∧ Below w0.heap.size w0 w' ∧ InvP B wb n (p + 1) w' := by
  obtain ⟨cs, rs, es, m0, m1, vr, ve, ps, ir, ie, X, h⟩ := h
  have few := h.few
  have nr := h.nr
  have ne := h.ne
  have lr := h.sr.1
  have le := h.se.1
  refine (step_do B wb n cs rs es m0 m1 vr ve ps ir ie (fun y1 x1 w4 => ∃ j bx bc, j < n ∧ ps[j * 2]? = some (.pointer (some ⟨bx, 0, none⟩)) ∧ ps[j * 2 + 1]? = some (.pointer (some ⟨bc, 0, none⟩)) ∧ PairQ B bx bc p (X j) w y1 x1 w4) w h.law h.prs hn (by omega) hBw i c1 c2 c3 c4 k d2 d3 s hi1 hi2 hk2 hk3 (by omega) (by omega) (by omega) (by omega) ?_).mono ?_
  · intro j hj
    obtain ⟨bx, bc, e1, e2, e3⟩ := h.each j hj
    exact ⟨bx, bc, e1, e2, both_of B bx bc p wb (X j) cs rs es m0 m1 vr ve ir ie a m w0 w hE h0 hB0 hBw e3 (by omega) h.law (fun k hk => (h.off j k hj hk).1) k d2 d3 _ (fun y1 x1 w4 hq => ⟨j, bx, bc, hj, e1, e2, hq⟩)⟩
  · rintro e w' ⟨rfl, y1, x1, w4, w5, ⟨j, bx, bc, hj, e1, e2, hq⟩, hb, hO⟩
    obtain ⟨hI, hK⟩ := h.did hBw hj e1 e2 hq hb hO
    exact ⟨rfl, h0.trans (hK.below (by omega) (fun k e => by omega)), hI⟩

/-- A step at KEnd. -/
theorem InvP.ending {B wb n p : Nat} {w : World} (a : Addr) (m : Int) (w0 : World) (hE : Env a m w0) (h0 : Below w0.heap.size w0 w) (hB0 : w0.heap.size ≤ B) (hBw : B ≤ w.heap.size) (h : InvP B wb n p w) (hn : 1 ≤ n) (hp : p < 900000000) (i c1 c2 c3 c4 k d2 d3 : Int) (s : ByteArray) (hi1 : -9223372036854775808 ≤ i) (hi2 : i ≤ 9223372036854775807) :
    Calls Tryz.prog 28 #[.pointer (some ⟨wb, 0, none⟩), .agg #[.int .i64 5, .int .i64 i, .int .i64 c1, .int .i64 c2, .int .i64 c3, .int .i64 c4, .int .i64 k, .int .i64 d2, .int .i64 d3, .string s]] w fun e w' => e = .returned (.bool true) ∧ Below w0.heap.size w0 w' ∧ InvP B wb n (p + 1) w' := by
  obtain ⟨cs, rs, es, m0, m1, vr, ve, ps, ir, ie, X, h⟩ := h
  have few := h.few
  have nr := h.nr
  have ne := h.ne
  have lr := h.sr.1
  have le := h.se.1
  refine (step_end B wb n cs rs es m0 m1 vr ve ps ir ie (fun y1 x1 w4 => ∃ j bx bc, j < n ∧ ps[j * 2]? = some (.pointer (some ⟨bx, 0, none⟩)) ∧ ps[j * 2 + 1]? = some (.pointer (some ⟨bc, 0, none⟩)) ∧ PairQ B bx bc p (X j) w y1 x1 w4) w h.law h.prs hn (by omega) hBw i c1 c2 c3 c4 k d2 d3 s hi1 hi2 (by omega) (by omega) (by omega) (by omega) ?_).mono ?_
  · intro j hj
    obtain ⟨bx, bc, e1, e2, e3⟩ := h.each j hj
    exact ⟨bx, bc, e1, e2, both_of B bx bc p wb (X j) cs rs es m0 m1 vr ve ir ie a m w0 w hE h0 hB0 hBw e3 (by omega) h.law (fun k hk => (h.off j k hj hk).1) k d2 d3 _ (fun y1 x1 w4 hq => ⟨j, bx, bc, hj, e1, e2, hq⟩)⟩
  · rintro e w' ⟨rfl, y1, x1, w4, w5, ⟨j, bx, bc, hj, e1, e2, hq⟩, hb, hO⟩
    obtain ⟨hI, hK⟩ := h.did hBw hj e1 e2 hq hb hO
    exact ⟨rfl, h0.trans (hK.below (by omega) (fun k e => by omega)), hI⟩

/-- A cluster more. -/
theorem InvD.made {B wb n p : Nat} {cs rs es m0 m1 : Value} {vr ve ps : List Value} {ir ie : List Int} {X : Nat → Nat → Prop} {nodes jobs wall last : Int} {w w' : World} (h : InvD B wb n p cs rs es m0 m1 vr ve ps ir ie X w) (hBw : B ≤ w.heap.size) (hc : ConfOk nodes jobs wall last)
    (hM : Made B wb n cs rs es m0 m1 vr ve ps ir ie nodes jobs wall last (fun bx wx => ∃ bi, Prog B bx bi nodes jobs wall last 0 (.slice none 0 0) (.slice none 0 0) (.slice none 0 0) [] [] wx ∧ w.heap.size ≤ bx ∧ w.heap.size ≤ bi) w w') : InvP B wb (n + 1) (p + 1) w' ∧ Kept (fun k => B ≤ k) w w' := by
  obtain ⟨g, c, bx, bc, wx, hL', hC', ⟨bi, hP, hbx, hbi⟩, hsx, hR, hKx, hK, hg⟩ := hM
  have hlow := hR.low
  have hcs : ∀ k, cs.ownBlock = some k → B ≤ k ∧ k < w.heap.size := fun k e => h.prs.lt k e
  have hwb : wb < w.heap.size := h.law.lt wb (Or.inl rfl)
  have hS : ∀ k, (k = wb ∨ cs.ownBlock = some k) → k < w.heap.size := fun k e => e.elim (fun e => e ▸ hwb) (fun e => (hcs k e).2)
  have hlt : ∀ i, i < n → ∀ k, X i k → B ≤ k ∧ k < w.heap.size := fun i hi k hk => by
    obtain ⟨_, _, _, _, hp⟩ := h.each i hi
    exact hp.lt k hk
  have hnil : ∀ k, (Value.slice none 0 0).ownBlock ≠ some k := fun k e => by simp [Value.ownBlock] at e
  have hpB : ∀ k, progB bx bi (.slice none 0 0) (.slice none 0 0) (.slice none 0 0) k → w.heap.size ≤ k ∧ k < wx.heap.size := fun k e => by
    refine ⟨?_, (hP.lt k e).2⟩
    rcases e with rfl | rfl | e | e | e
    · exact hbx
    · exact hbi
    · exact (hnil k e).elim
    · exact (hnil k e).elim
    · exact (hnil k e).elim
  obtain ⟨Z, hZ⟩ : ∃ Z : Nat → Prop, ∀ k, Z k ↔ (k = bc ∨ (Value.slice none 0 0).ownBlock = some k ∨ progB bx bi (.slice none 0 0) (.slice none 0 0) (.slice none 0 0) k) := ⟨_, fun _ => Iff.rfl⟩
  have hZlt : ∀ k, Z k → w.heap.size ≤ k ∧ k ≠ g := fun k e => by
    have hg' : g < w.heap.size ∨ (wx.heap.size ≤ g ∧ g ≠ bc) := hg.imp (fun e => (hcs g e).2) id
    rcases (hZ k).1 e with rfl | e | e
    · exact ⟨by omega, by omega⟩
    · exact (hnil k e).elim
    · have := hpB k e
      have hne : k ≠ bc := by omega
      exact ⟨this.1, by omega⟩
  obtain ⟨Y, hY⟩ : ∃ Y : Nat → Nat → Prop, ∀ i k, Y i k ↔ (i = n ∧ Z k) ∨ (i ≠ n ∧ X i k) := ⟨fun i k => (i = n ∧ Z k) ∨ (i ≠ n ∧ X i k), fun _ _ => Iff.rfl⟩
  have hgB : B ≤ g := hg.elim (fun e => (hcs g e).1) (fun e => by omega)
  have hgl : ∀ k, (Value.slice (some ⟨g, 0, none⟩) (n + 1) c).ownBlock = some k → k = g := fun k e => by simpa [Value.ownBlock] using e.symm
  have hsee : ∀ (vs : List Value) (is : List Int), Seen w vs is (barB wb n cs rs es m0 m1 X) → Seen w' vs is (barB wb (n + 1) (.slice (some ⟨g, 0, none⟩) (n + 1) c) rs es m0 m1 Y) := fun vs is hh =>
    hh.kept hK (fun v hv k e e3 => (hh.off v hv k e).1 (e3.elim (fun e3 => Or.inl (Or.inl e3)) (fun e3 => Or.inr (Or.inl e3)))) (fun k e => by
      rcases e with e | e | ⟨i, hi, e⟩
      · exact Or.inl (Or.inl e)
      · obtain rfl := hgl k e
        rcases hg with e | e
        · exact Or.inl (Or.inr (Or.inl e))
        · exact Or.inr (by omega)
      · rcases (hY i k).1 e with ⟨_, e⟩ | ⟨hne, e⟩
        · exact Or.inr (hZlt k e).1
        · exact Or.inl (Or.inr (Or.inr ⟨i, by omega, e⟩)))
  have few := h.few
  have nr := h.nr
  have ne := h.ne
  have hlp := h.prs.1
  refine ⟨⟨.slice (some ⟨g, 0, none⟩) (n + 1) c, rs, es, m0, m1, vr, ve, _, ir, ie, Y, hL', hC', by omega, by omega, by omega, hsee vr ir h.sr, hsee ve ie h.se, ?_, ?_, ?_⟩, hK.mono (T := fun k => B ≤ k) (fun k e => e.elim (fun e => e ▸ h.law.low) (fun e => (hcs k e).1))⟩
  · intro i hi
    by_cases hin : i = n
    · subst hin
      have e : Y i = Z := funext fun k => propext ((hY i k).trans ⟨fun e => e.elim (fun e => e.2) (fun e => (e.1 rfl).elim), fun e => Or.inl ⟨rfl, e⟩⟩)
      refine ⟨bx, bc, ?_, ?_, ?_⟩
      · rw [List.getElem?_append_right (by omega)]
        have : i * 2 - ps.length = 0 := by omega
        rw [this]
        rfl
      · rw [List.getElem?_append_right (by omega)]
        have : i * 2 + 1 - ps.length = 1 := by omega
        rw [this]
        rfl
      · rw [e]
        refine ⟨nodes, jobs, wall, last, 0, [], .slice none 0 0, bi, .slice none 0 0, .slice none 0 0, .slice none 0 0, [], good_new hc, by simp, ⟨hR.blk, World.ownsRow_nil _ _ _ _, hR.apart, by omega, hR.len⟩, hP.kept hKx (fun k hk e3 => ?_), hZ⟩
        have := (hpB k hk).1
        have := hS k e3
        omega
    · have e : Y i = X i := funext fun k => propext ((hY i k).trans ⟨fun e => e.elim (fun e => (hin e.1).elim) (fun e => e.2), fun e => Or.inr ⟨hin, e⟩⟩)
      obtain ⟨bx2, bc2, f1, f2, f3⟩ := h.each i (by omega)
      have l1 := (List.getElem?_eq_some_iff.1 f1).1
      have l2 := (List.getElem?_eq_some_iff.1 f2).1
      refine ⟨bx2, bc2, (List.getElem?_append_left l1).trans f1, (List.getElem?_append_left l2).trans f2, ?_⟩
      rw [e]
      refine (f3.kept hK (fun k hk e3 => ?_)).mono (by omega)
      have ho := h.off i k (by omega) hk
      rcases e3 with e3 | e3
      · exact ho.1 (Or.inl e3)
      · exact ho.2 e3
  · intro i k hi e
    rcases (hY i k).1 e with ⟨_, e⟩ | ⟨hne, e⟩
    · exact ⟨fun e3 => by have := h.law.lt k e3; have := (hZlt k e).1; omega, fun e3 => (hZlt k e).2 (hgl k e3)⟩
    · have ho := h.off i k (by omega) e
      refine ⟨ho.1, fun e3 => ?_⟩
      obtain rfl := hgl k e3
      rcases hg with e4 | e4
      · exact ho.2 e4
      · have := (hlt i (by omega) k e).2; omega
  · intro i i' k hi hi' e e'
    rcases (hY i k).1 e with ⟨a1, b1⟩ | ⟨a1, b1⟩ <;> rcases (hY i' k).1 e' with ⟨a2, b2⟩ | ⟨a2, b2⟩
    · omega
    · have := (hZlt k b1).1; have := (hlt i' (by omega) k b2).2; omega
    · have := (hZlt k b2).1; have := (hlt i (by omega) k b1).2; omega
    · exact h.two i i' k (by omega) (by omega) b1 b2

/-- made, on what is kept. -/
theorem InvP.making {B wb n p : Nat} {w : World} (a : Addr) (m : Int) (w0 : World) (hE : EnvX a m w0) (h0 : Below w0.heap.size w0 w) (hB0 : w0.heap.size ≤ B) (hBw : B ≤ w.heap.size) (h : InvP B wb n p w) (hp : p < 900000000) (nodes jobs wall last : Int) :
    Calls Tryz.prog 29 #[.pointer (some ⟨wb, 0, none⟩), .agg #[.int .i64 nodes, .int .i64 jobs, .int .i64 wall, .int .i64 last]] w fun e w' => e = .returned (.bool true) ∧ Below w0.heap.size w0 w' ∧ ∃ n', n ≤ n' ∧ (ConfOk nodes jobs wall last → n' = n + 1) ∧ InvP B wb n' (p + 1) w' := by
  have hb : ∀ o, Below w.heap.size w (w.alloc o) := fun o => (Below.refl _ _).alloc (Nat.le_refl _) o
  by_cases hc : ConfOk nodes jobs wall last
  · obtain ⟨cs, rs, es, m0, m1, vr, ve, ps, ir, ie, X, h⟩ := h
    have few := h.few
    refine (made_yes B wb n cs rs es m0 m1 vr ve ps ir ie nodes jobs wall last (fun bx wx => ∃ bi, Prog B bx bi nodes jobs wall last 0 (.slice none 0 0) (.slice none 0 0) (.slice none 0 0) [] [] wx ∧ w.heap.size ≤ bx ∧ w.heap.size ≤ bi) w hc h.law h.prs hBw (by omega) (fun o => ?_)).mono ?_
    · refine (newB_yes B nodes jobs wall last (w.alloc o) hc (by simp; omega)).mono ?_
      rintro e w2 ⟨bx, bi, rfl, hb2, hP, h1, h2⟩
      exact ⟨bx, rfl, hb2, bi, hP, by simp at h1; omega, by simp at h2; omega⟩
    · rintro e w' ⟨rfl, hM⟩
      obtain ⟨hI, hK⟩ := h.made hBw hc hM
      exact ⟨rfl, h0.trans (hK.below (by omega) (fun k e => by omega)), n + 1, by omega, fun _ => rfl, hI⟩
  · refine (made_no _ nodes jobs wall last w hc (fun o => ?_)).mono ?_
    · exact newB_no a m nodes jobs wall last (w.alloc o) (hE.on (h0.trans ((hb o).mono h0.size))) hc
    · rintro e w' ⟨rfl, hb2⟩
      exact ⟨rfl, h0.trans (hb2.mono h0.size), n, Nat.le_refl _, fun e => (hc e).elim, (h.below hb2).more (by omega)⟩

end Go.Proofs.YtpcgnadfldimhaaGreatDoor
namespace Go.Proofs.YtpcgnadfldimhaaGreatDoor
open Go.RowKit

theorem invStart {w w1 : World} (hb : Below (w.alloc law0).heap.size (w.alloc law0) w1) : InvP w.heap.size w.heap.size 0 0 w1 := by
  have hq : w1.heap[w.heap.size]? = some law0 := (hb.block _ (by simp)).trans (heap_alloc_new w _)
  exact ⟨.slice none 0 0, .slice none 0 0, .slice none 0 0, .slice none 0 0, .slice none 0 0, [], [], [], [], [], fun _ _ => False, ⟨hq, World.ownsRow_nil _ _ _ _, World.ownsRow_nil _ _ _ _, World.ownsRow_nil _ _ _ _, World.ownsRow_nil _ _ _ _, fun k e => by simp [Value.ownBlock] at e, Nat.le_refl _⟩, World.ownsRow_nil _ _ _ _, Nat.le_refl _, by simp, by simp, Seen.nil _ _, Seen.nil _ _, fun j hj => by omega, fun j k hj => by omega, fun i j k hi => by omega⟩

theorem InvP.step {n p : Nat} {w wr : World} (a : Addr) (m : Int) (hE : EnvX a m w) (hb : Below w.heap.size w wr) (h : InvP w.heap.size w.heap.size n p wr) (hn : 1 ≤ n) (hp : p < 900000000) (o : OpV) (hs : o.s.size ≤ maxLen) (hi1 : -9223372036854775808 ≤ o.i) (hi2 : o.i ≤ 9223372036854775807) (hq : o.q ≠ 6) :
    Calls Tryz.prog 28 #[.pointer (some ⟨w.heap.size, 0, none⟩), .agg o.cells.toArray] wr fun e w' => e = .returned (.bool true) ∧ Below w.heap.size w w' ∧ ∃ n', 1 ≤ n' ∧ InvP w.heap.size w.heap.size n' (p + 1) w' := by
  obtain ⟨q, i, c1, c2, c3, c4, d1, d2, d3, s⟩ := o
  simp only at hs hi1 hi2 hq
  change Calls Tryz.prog 28 #[.pointer (some ⟨w.heap.size, 0, none⟩), .agg #[.int .i64 q, .int .i64 i, .int .i64 c1, .int .i64 c2, .int .i64 c3, .int .i64 c4, .int .i64 d1, .int .i64 d2, .int .i64 d3, .string s]] wr _
  have hEr := hE.env.on hb
  have hback : ∀ (e : Ending) (w' : World), (e = .returned (.bool true) ∧ Below wr.heap.size wr w') → e = .returned (.bool true) ∧ Below w.heap.size w w' ∧ ∃ n', 1 ≤ n' ∧ InvP w.heap.size w.heap.size n' (p + 1) w' := fun e w' hh => ⟨hh.1, hb.trans (hh.2.mono hb.size), n, hn, (h.below hh.2).more (by omega)⟩
  by_cases q1 : q = 1
  · subst q1
    exact (step_parse a m wr hEr _ i c1 c2 c3 c4 d1 d2 d3 s hs).mono hback
  by_cases q2 : q = 2
  · subst q2
    exact (step_render a m wr hEr _ i c1 c2 c3 c4 d1 d2 d3 s).mono hback
  by_cases q3 : q = 3
  · subst q3
    refine (step_new _ wr i c1 c2 c3 c4 d1 d2 d3 s (fun _ w' => Below w.heap.size w w' ∧ ∃ n', 1 ≤ n' ∧ InvP w.heap.size w.heap.size n' (p + 1) w') (fun o => ?_)).mono ?_
    · have hbo : Below wr.heap.size wr (wr.alloc o) := (Below.refl _ _).alloc (Nat.le_refl _) o
      have hb2 := hb.trans (hbo.mono hb.size)
      refine (InvP.making a m w hE hb2 (Nat.le_refl _) hb2.size (h.below hbo) hp c1 c2 c3 c4).mono ?_
      rintro e w' ⟨rfl, hb3, n', h1, _, hI⟩
      exact ⟨rfl, hb3, n', by omega, hI⟩
    · rintro e w' ⟨rfl, _, hb3, hI⟩
      exact ⟨rfl, hb3, hI⟩
  obtain ⟨cs, rs, es, m0, m1, vr, ve, ps, ir, ie, X, hD⟩ := h
  have few := hD.few
  have hps : ∀ j, j < n → ∃ bx bc, ps[j * 2]? = some (.pointer (some ⟨bx, 0, none⟩)) ∧ ps[j * 2 + 1]? = some (.pointer (some ⟨bc, 0, none⟩)) := fun j hj => by
    obtain ⟨bx, bc, e1, e2, _⟩ := hD.each j hj
    exact ⟨bx, bc, e1, e2⟩
  have hback : ∀ (e : Ending) (w' : World), (e = .returned (.bool true) ∧ Below wr.heap.size wr w') → e = .returned (.bool true) ∧ Below w.heap.size w w' ∧ ∃ n', 1 ≤ n' ∧ InvP w.heap.size w.heap.size n' (p + 1) w' := fun e w' hh => ⟨hh.1, hb.trans (hh.2.mono hb.size), n, hn, (InvP.below ⟨cs, rs, es, m0, m1, vr, ve, ps, ir, ie, X, hD⟩ hh.2).more (by omega)⟩
  by_cases q4 : q = 4
  · subst q4
    by_cases hk : d1 = 2 ∨ d1 = 3
    · exact (step_skip w.heap.size w.heap.size n cs rs es m0 m1 vr ve ps ir ie wr hD.law hD.prs hn (by omega) i c1 c2 c3 c4 d1 d2 d3 s hi1 hi2 hk hps).mono hback
    · refine (InvP.doing a m w hE.env hb (Nat.le_refl _) hb.size ⟨cs, rs, es, m0, m1, vr, ve, ps, ir, ie, X, hD⟩ hn hp i c1 c2 c3 c4 d1 d2 d3 s hi1 hi2 (by omega) (by omega)).mono ?_
      rintro e w' ⟨rfl, hb3, hI⟩
      exact ⟨rfl, hb3, n, hn, hI⟩
  by_cases q5 : q = 5
  · subst q5
    refine (InvP.ending a m w hE.env hb (Nat.le_refl _) hb.size ⟨cs, rs, es, m0, m1, vr, ve, ps, ir, ie, X, hD⟩ hn hp i c1 c2 c3 c4 d1 d2 d3 s hi1 hi2).mono ?_
    rintro e w' ⟨rfl, hb3, hI⟩
    exact ⟨rfl, hb3, n, hn, hI⟩
  · exact (step_idle w.heap.size w.heap.size n cs rs es m0 m1 vr ve ps ir ie wr hD.law hD.prs hn (by omega) q i c1 c2 c3 c4 d1 d2 d3 s hi1 hi2 q1 q2 q3 q4 q5 (by omega) hps).mono hback

theorem jobs_first (a : Addr) (m : Int) (w : World) (hE : EnvX a m w) (w1 : World) (hb : Below (w.alloc law0).heap.size (w.alloc law0) w1) :
    Calls Tryz.prog 29 #[.pointer (some ⟨w.heap.size, 0, none⟩), .agg #[.int .i64 4, .int .i64 5, .int .i64 100, .int .i64 1000]] w1 fun e w2 => e = .returned (.bool true) ∧ Below w.heap.size w w2 ∧
      ∀ s, Calls Tryz.prog 28 #[.pointer (some ⟨w.heap.size, 0, none⟩), .agg #[.int .i64 4, .int .i64 0, .int .i64 0, .int .i64 0, .int .i64 0, .int .i64 0, .int .i64 1, .int .i64 3, .int .i64 10, .string s]] w2 fun e w3 => e = .returned (.bool true) ∧ Below w.heap.size w w3 ∧ InvP w.heap.size w.heap.size 1 2 w3 := by
  have h0 : Below w.heap.size w w1 := ((Below.refl w.heap.size w).alloc (Nat.le_refl _) law0).trans (hb.mono (by simp))
  refine (InvP.making a m w hE h0 (Nat.le_refl _) h0.size (invStart hb) (by omega) 4 5 100 1000).mono ?_
  rintro e w2 ⟨rfl, hb2, n', _, hn', hI⟩
  obtain rfl := hn' (by unfold ConfOk; omega)
  refine ⟨rfl, hb2, fun s => ?_⟩
  exact InvP.doing a m w hE.env hb2 (Nat.le_refl _) hb2.size hI (by omega) (by omega) 0 0 0 0 0 1 3 10 s (by omega) (by omega) (by omega) (by omega)

theorem jobs_walk (a : Addr) (m : Int) (w : World) (hE : EnvX a m w) (b off cap : Nat) (ops : List OpV) (hS : Script w b off ops) (hl : ops.length ≤ 800000000) (hW : ∀ o ∈ ops, -9223372036854775808 ≤ o.i ∧ o.i ≤ 9223372036854775807) :
    Calls Tryz.prog 14 #[.slice (some ⟨b, off, none⟩) ops.length cap, .int .i64 4] w fun e w' => e = .returned (.bool true) ∧ Below w.heap.size w w' := by
  refine played_4 a m w hE.env b off cap ops hS (by omega) (fun k wr => ∃ n, 1 ≤ n ∧ InvP w.heap.size w.heap.size n (min k ops.length + 2) wr) (fun w1 hb => ?_) ?_ ?_ ?_
  · refine (jobs_first a m w hE w1 hb).mono ?_
    rintro e w2 ⟨rfl, hb2, hs⟩
    refine ⟨rfl, hb2, fun s => (hs s).mono ?_⟩
    rintro e w3 ⟨rfl, hb3, hI⟩
    exact ⟨rfl, hb3, 1, Nat.le_refl _, hI.more (by omega)⟩
  · rintro k wr o ho ⟨n, hn, hI⟩ hb hq
    have hk := (List.getElem?_eq_some_iff.1 ho).1
    have hw := hW o (List.mem_of_getElem? ho)
    refine (InvP.step a m hE hb hI hn (by omega) o (hS k o ho).2 hw.1 hw.2 (by omega)).mono ?_
    rintro e w' ⟨rfl, hb2, n', hn', hI'⟩
    exact ⟨rfl, hb2, n', hn', hI'.more (by omega)⟩
  · rintro k wr ⟨n, hn, hI⟩
    exact ⟨n, hn, hI.more (by omega)⟩
  · rintro k wr ⟨n, hn, hI⟩ hb
    refine (hI.looks (by omega)).mono ?_
    rintro e w' ⟨rfl, hb2⟩
    exact ⟨rfl, hb.trans (hb2.mono hb.size), n, hn, hI.below hb2⟩

theorem jobs_none (a : Addr) (m : Int) (w : World) (hE : EnvX a m w) (ad : Option Addr) (cap : Nat) :
    Calls Tryz.prog 14 #[.slice ad 0 cap, .int .i64 4] w fun e w' => e = .returned (.bool true) ∧ Below w.heap.size w w' := by
  refine played_40 a m w hE.env ad cap (fun w1 hb => ?_)
  refine (jobs_first a m w hE w1 hb).mono ?_
  rintro e w2 ⟨rfl, hb2, hs⟩
  refine ⟨rfl, hb2, fun s => (hs s).mono ?_⟩
  rintro e w3 ⟨rfl, hb3, _⟩
  exact ⟨rfl, hb3⟩

theorem ends_walk (a : Addr) (m : Int) (w : World) (hE : EnvX a m w) (b off cap : Nat) (ops : List OpV) (hS : Script w b off ops) (hl : ops.length ≤ 800000000) (hW : ∀ o ∈ ops, -9223372036854775808 ≤ o.i ∧ o.i ≤ 9223372036854775807) :
    Calls Tryz.prog 14 #[.slice (some ⟨b, off, none⟩) ops.length cap, .int .i64 5] w fun e w' => e = .returned (.bool true) ∧ Below w.heap.size w w' := by
  refine played_5 a m w hE.env b off cap ops hS (by omega) (fun k wr => ∃ n, 1 ≤ n ∧ InvP w.heap.size w.heap.size n (min k ops.length + 2) wr) (fun w1 hb => ?_) ?_ ?_ ?_
  · refine (jobs_first a m w hE w1 hb).mono ?_
    rintro e w2 ⟨rfl, hb2, hs⟩
    refine ⟨rfl, hb2, fun s => (hs s).mono ?_⟩
    rintro e w3 ⟨rfl, hb3, hI⟩
    exact ⟨rfl, hb3, 1, Nat.le_refl _, hI.more (by omega)⟩
  · rintro k wr o ho ⟨n, hn, hI⟩ hb hq
    have hk := (List.getElem?_eq_some_iff.1 ho).1
    have hw := hW o (List.mem_of_getElem? ho)
    refine (InvP.step a m hE hb hI hn (by omega) o (hS k o ho).2 hw.1 hw.2 (by omega)).mono ?_
    rintro e w' ⟨rfl, hb2, n', hn', hI'⟩
    exact ⟨rfl, hb2, n', hn', hI'.more (by omega)⟩
  · rintro k wr ⟨n, hn, hI⟩
    exact ⟨n, hn, hI.more (by omega)⟩
  · rintro k wr ⟨n, hn, hI⟩ hb
    refine (hI.looks (by omega)).mono ?_
    rintro e w' ⟨rfl, hb2⟩
    exact ⟨rfl, hb.trans (hb2.mono hb.size), n, hn, hI.below hb2⟩

theorem ends_none (a : Addr) (m : Int) (w : World) (hE : EnvX a m w) (ad : Option Addr) (cap : Nat) :
    Calls Tryz.prog 14 #[.slice ad 0 cap, .int .i64 5] w fun e w' => e = .returned (.bool true) ∧ Below w.heap.size w w' := by
  refine played_50 a m w hE.env ad cap (fun w1 hb => ?_)
  refine (jobs_first a m w hE w1 hb).mono ?_
  rintro e w2 ⟨rfl, hb2, hs⟩
  refine ⟨rfl, hb2, fun s => (hs s).mono ?_⟩
  rintro e w3 ⟨rfl, hb3, _⟩
  exact ⟨rfl, hb3⟩

section
open Go.ChangeShapes Go.WideShapes Go.ChangeAt
theorem bulk_pos {H : Type} (d : DataW H) : 1 ≤ Rows.uptoBulk d := by
  cases d with
  | lit l => cases l <;> simp [Rows.uptoBulk]
  | _ => simp [Rows.uptoBulk]
theorem bulk_len {H : Type} : ∀ l : List (DataW H), l.length ≤ Rows.uptoBulkAll l
  | [] => by simp
  | d :: r => by
    have h1 := bulk_pos d
    have h2 := bulk_len r
    simp only [Rows.uptoBulkAll, List.length_cons]
    omega
/-- A list that is read whole is no longer than the bound. -/
theorem bulk_slice {H : Type} {l s : List (DataW H)} (h : Rows.uptoSmall H [DataW.slice l s] = true) : l.length ≤ 1048576 := by
  have h1 : Rows.uptoBulkAll [DataW.slice l s] ≤ 1048576 := of_decide_eq_true h
  have h2 := bulk_len l
  simp only [Rows.uptoBulkAll, Rows.uptoBulk] at h1
  omega
theorem wf_bounds {i : Int} (h : (Lit.int .i64 i).wf = true) : -9223372036854775808 ≤ i ∧ i ≤ 9223372036854775807 := by
  simp only [Lit.wf, Bool.and_eq_true, decide_eq_true_eq] at h
  exact h
end

end Go.Proofs.YtpcgnadfldimhaaGreatDoor
