/-
  A pair: the program's cluster and the document's, side by side; a Do of the one and of the other.
-/
import Derived.Test.YtpcgnadfldimhaaGreatDoorLawBB
import Derived.Test.YtpcgnadfldimhaaGreatDoorBerD
namespace Go.Proofs.YtpcgnadfldimhaaGreatDoor
open Go.RowKit

/-- A pair between the steps; X tells which blocks are its own. -/
def PairS (B bx bc N : Nat) (X : Nat → Prop) (w : World) : Prop :=
  ∃ nodes jobs wall last now L v bi vr vl vh E, Good nodes jobs wall last now L ∧ L.length ≤ N ∧ RefO B bc nodes jobs wall last now v L w ∧ Prog B bx bi nodes jobs wall last now vr vl vh L E w ∧ ∀ k, X k ↔ (k = bc ∨ v.ownBlock = some k ∨ progB bx bi vr vl vh k)

theorem PairS.lt {B bx bc N : Nat} {X : Nat → Prop} {w : World} (h : PairS B bx bc N X w) (k : Nat) (hk : X k) : B ≤ k ∧ k < w.heap.size := by
  obtain ⟨nodes, jobs, wall, last, now, L, v, bi, vr, vl, vh, E, _, _, hR, hP, hX⟩ := h
  rcases (hX k).1 hk with rfl | e | e
  · exact ⟨hR.low, hR.lt⟩
  · exact hR.own.lt k e
  · exact hP.lt k e

theorem PairS.kept {B bx bc N : Nat} {X S : Nat → Prop} {w w' : World} (h : PairS B bx bc N X w) (hK : Kept S w w') (hS : ∀ k, X k → ¬ S k) : PairS B bx bc N X w' := by
  obtain ⟨nodes, jobs, wall, last, now, L, v, bi, vr, vl, vh, E, hG, hN, hR, hP, hX⟩ := h
  exact ⟨nodes, jobs, wall, last, now, L, v, bi, vr, vl, vh, E, hG, hN, hR.kept hK (fun k hs => ⟨fun e => hS k ((hX k).2 (Or.inl e)) hs, fun e => hS k ((hX k).2 (Or.inr (Or.inl e))) hs⟩), hP.kept hK (fun k hk hs => hS k ((hX k).2 (Or.inr (Or.inr hk))) hs), hX⟩

theorem PairS.mono {B bx bc N N' : Nat} {X : Nat → Prop} {w : World} (h : PairS B bx bc N X w) (hN : N ≤ N') : PairS B bx bc N' X w := by
  obtain ⟨nodes, jobs, wall, last, now, L, v, bi, vr, vl, vh, E, hG, hL, r⟩ := h
  exact ⟨nodes, jobs, wall, last, now, L, v, bi, vr, vl, vh, E, hG, Nat.le_trans hL hN, r⟩

/-- The two never share a block: their blocks are of different kinds. -/
theorem ref_apart {B bx bc bi : Nat} {nodes jobs wall last now : Int} {v vr vl vh : Value} {L : List Job} {E : List Ev} {w : World} (hR : RefO B bc nodes jobs wall last now v L w) (hP : Prog B bx bi nodes jobs wall last now vr vl vh L E w) (k : Nat) (hk : progB bx bi vr vl vh k) : k ≠ bc ∧ v.ownBlock ≠ some k := by
  have hb := hR.blk
  rcases hk with rfl | rfl | e | e | e
  · refine ⟨fun e => ?_, owns_not hR.own hP.out (by decide)⟩
    subst e
    rw [hP.out] at hb
    simp at hb
  · refine ⟨fun e => ?_, owns_not hR.own hP.clu.cl.hp.blk (by decide)⟩
    subst e
    rw [hP.clu.cl.hp.blk] at hb
    simp at hb
  · exact ⟨fun e2 => owns_not hP.clu.cl.rcd hb (by decide) (e2 ▸ e), owns_apart hP.clu.cl.rcd hR.own (by decide) k e⟩
  · exact ⟨fun e2 => owns_not hP.clu.cl.liv hb (by decide) (e2 ▸ e), owns_apart hP.clu.cl.liv hR.own (by decide) k e⟩
  · exact ⟨fun e2 => owns_not hP.clu.cl.hp.row hb (by decide) (e2 ▸ e), owns_apart hP.clu.cl.hp.row hR.own (by decide) k e⟩

/-- What the two Do leave of the pair. -/
def PairQ (B bx bc N : Nat) (X : Nat → Prop) (w : World) (y1 x1 : Value) (w4 : World) : Prop :=
  ∃ X', PairS B bx bc (N + 1) X' w4 ∧ Kept X w w4 ∧ (∀ k, X' k → X k ∨ w.heap.size ≤ k) ∧ ∀ k, y1.ownBlock = some k ∨ x1.ownBlock = some k → w.heap.size ≤ k ∧ k < w4.heap.size ∧ ¬ X' k

theorem both_of (B bx bc N wb : Nat) (X : Nat → Prop) (cs rs es m0 m1 : Value) (vr ve : List Value) (ir ie : List Int) (a : Addr) (m : Int) (w0 w : World) (hE : Env a m w0) (h0 : Below w0.heap.size w0 w) (hB0 : w0.heap.size ≤ B) (hBw : B ≤ w.heap.size) (h : PairS B bx bc N X w) (hN : N < 999999999) (hL : LawM B wb cs rs es m0 m1 vr ve ir ie w) (hX : ∀ k, X k → ¬ lawB wb rs es m0 m1 k) (k x y : Int) (h2 : k ≠ 2) (h3 : k ≠ 3) (Q : Value → Value → World → Prop) (hQ : ∀ y1 x1 w4, PairQ B bx bc N X w y1 x1 w4 → Q y1 x1 w4) :
    Both bx bc k x y B wb cs rs es m0 m1 vr ve ir ie Q w := by
  intro w1 hb1
  have hlt := fun k hk => h.lt k hk
  have h1 : PairS B bx bc N X w1 := h.kept (S := fun _ => False) (Kept.of_below hb1) (fun _ _ e => e)
  obtain ⟨nodes, jobs, wall, last, now, L, v, bi, pr, pl, ph, E, hG, hLN, hR1, hP1, hXX⟩ := h1
  have hs1 := hb1.size
  have hB1 : Below w0.heap.size w0 w1 := h0.trans (hb1.mono h0.size)
  have hbc : bc < w.heap.size := (hlt bc ((hXX bc).2 (Or.inl rfl))).2
  have hv : ∀ k, v.ownBlock = some k → k < w.heap.size := fun k e => (hlt k ((hXX k).2 (Or.inr (Or.inl e)))).2
  have hp : ∀ k, progB bx bi pr pl ph k → k < w.heap.size := fun k e => (hlt k ((hXX k).2 (Or.inr (Or.inr e)))).2
  refine (doP B bx bi nodes jobs wall last now pr pl ph L E a m w0 hE w1 hB1 hB0 (by omega) hP1 hG (by omega) k x y h2 h3).mono ?_
  rintro e w2 ⟨o, y1, x1, pr', pl', ph', E', hD, rfl, hY1, hX1, hP2, hK2, hN2, hA2⟩
  have hs2 := hK2.size
  obtain ⟨q1, c1, ey⟩ := own_slice hY1
  obtain ⟨q2, c2, ex⟩ := own_slice hX1
  refine ⟨o.err, o.a, o.b, o.c, y1, x1, rfl, ⟨q1, _, c1, ey⟩, ⟨q2, _, c2, ex⟩, ⟨hs2, fun k h4 h5 => hK2.block k h5 (fun e => by have := hp k e; omega)⟩, ?_⟩
  intro w3 hb3
  have hs3 := hb3.size
  have hR2 : RefO B bc nodes jobs wall last now v L w2 := hR1.kept hK2 (fun k e => ⟨(ref_apart hR1 hP1 k e).1, (ref_apart hR1 hP1 k e).2⟩)
  have hR3 : RefO B bc nodes jobs wall last now v L w3 := hR2.kept (S := fun _ => False) (Kept.of_below hb3) (fun _ e => e.elim)
  have hcf := hG.conf
  unfold ConfOk at hcf
  have hn0 := hG.now0
  have hn1 := hG.now1
  have hm0 : 0 ≤ jobs * wall := Int.mul_nonneg (by omega) (by omega)
  refine (do_ref B bc nodes jobs wall last now v L w3 hR3 hG.widths hG.times (by omega) (by omega) (by omega) hn0 (by omega) (by omega) (by omega) k x y h2 h3).mono ?_
  rintro e w4 ⟨o', hD', y2, x2, v', rfl, hY2, hX2, hR4, hK4, hV4⟩
  obtain rfl := doO_unique hG hD hD'
  have hs4 := hK4.size
  obtain ⟨sr, se⟩ := doO_small hD (by omega)
  obtain ⟨hG4, hL4⟩ := good_do hG hD
  have nY : ∀ k, y1.ownBlock = some k → w1.heap.size ≤ k ∧ k < w2.heap.size := fun k e => hY1.lt k e
  have nX : ∀ k, x1.ownBlock = some k → w1.heap.size ≤ k ∧ k < w2.heap.size := fun k e => hX1.lt k e
  have hnS : ∀ k, w.heap.size ≤ k → ¬ (k = bc ∨ v.ownBlock = some k) := fun k e1 e3 => by
    rcases e3 with e3 | e3
    · omega
    · have := hv k e3; omega
  have k24 : ∀ k, w1.heap.size ≤ k → k < w2.heap.size → w4.heap[k]? = w2.heap[k]? := fun k e1 e2 => (hK4.block k (by omega) (hnS k (by omega))).trans (hb3.block k e2)
  have hY4 := owns_on (w' := w4) hY1 (fun k e => k24 k (nY k e).1 (nY k e).2)
  have hX4 := owns_on (w' := w4) hX1 (fun k e => k24 k (nX k e).1 (nX k e).2)
  have hP3 : Prog B bx bi nodes jobs wall last o.now pr' pl' ph' o.L E' w3 := hP2.kept (S := fun _ => False) (Kept.of_below hb3) (fun _ _ e => e)
  have hap : ∀ k, progB bx bi pr' pl' ph' k → ¬ (k = bc ∨ v.ownBlock = some k) := fun k e => by
    rcases hN2 k e with e1 | e1
    · have := ref_apart hR1 hP1 k e1
      rintro (e2 | e2)
      · exact this.1 e2
      · exact this.2 e2
    · rintro (e2 | e2)
      · omega
      · have := hv k e2; omega
  have hP4 : Prog B bx bi nodes jobs wall last o.now pr' pl' ph' o.L E' w4 := hP3.kept hK4 hap
  have hKK : Kept X w w4 := (((Kept.of_below (S := X) hb1).trans (hK2.mono (T := X) (fun k e => (hXX k).2 (Or.inr (Or.inr e)))) (fun _ e => Or.inl e)).trans (Kept.of_below (S := X) hb3) (fun _ e => Or.inl e)).trans (hK4.mono (T := X) (fun k e => (hXX k).2 (e.elim Or.inl (fun e => Or.inr (Or.inl e))))) (fun _ e => Or.inl e)
  refine ⟨y2, x2, o.rows, o.evs, w1.heap.size, w1.heap.size, w3.heap.size, w3.heap.size, rfl, ⟨hs4, fun k h4 h5 => hK4.block k h5 (hnS k h4)⟩, hY4, hX4, hY2, hX2, sr, se, by omega, by omega, hL.kept hKK hX, hQ _ _ _ ?_⟩
  refine ⟨fun k => k = bc ∨ v'.ownBlock = some k ∨ progB bx bi pr' pl' ph' k, ⟨nodes, jobs, wall, last, o.now, o.L, v', bi, pr', pl', ph', E', hG4, by omega, hR4, hP4, fun k => Iff.rfl⟩, hKK, ?_, ?_⟩
  · rintro k (e | e | e)
    · exact Or.inl ((hXX k).2 (Or.inl e))
    · rcases hV4 k e with e | e
      · exact Or.inl ((hXX k).2 (Or.inr (Or.inl e)))
      · exact Or.inr (by omega)
    · rcases hN2 k e with e | e
      · exact Or.inl ((hXX k).2 (Or.inr (Or.inr e)))
      · exact Or.inr (by omega)
  · rintro k (e | e)
    · refine ⟨by have := (nY k e).1; omega, by have := (nY k e).2; omega, ?_⟩
      rintro (e2 | e2 | e2)
      · exact owns_not hY4 hR4.blk (by decide) (e2 ▸ e)
      · exact owns_apart hY4 hR4.own (by decide) k e e2
      · rcases e2 with e2 | e2 | e2 | e2 | e2
        · exact owns_not hY4 hP4.out (by decide) (e2 ▸ e)
        · exact owns_not hY4 hP4.clu.cl.hp.blk (by decide) (e2 ▸ e)
        · exact owns_apart hY4 hP4.clu.cl.rcd (by decide) k e e2
        · exact owns_apart hY4 hP4.clu.cl.liv (by decide) k e e2
        · exact owns_apart hY4 hP4.clu.cl.hp.row (by decide) k e e2
    · refine ⟨by have := (nX k e).1; omega, by have := (nX k e).2; omega, ?_⟩
      rintro (e2 | e2 | e2)
      · exact owns_not hX4 hR4.blk (by decide) (e2 ▸ e)
      · exact owns_apart hX4 hR4.own (by decide) k e e2
      · exact hA2 k e e2

end Go.Proofs.YtpcgnadfldimhaaGreatDoor
