/-
  The program's cluster behind its lock: Do.
-/
import Derived.Test.YtpcgnadfldimhaaGreatDoorBerC
import Derived.Test.YtpcgnadfldimhaaGreatDoorBerL
namespace Go.Proofs.YtpcgnadfldimhaaGreatDoor
open Go.RowKit

/-- Which blocks are the program's cluster's own, the lock's among them. -/
def progB (bx bi : Nat) (vr vl vh : Value) (k : Nat) : Prop := k = bx ∨ clB bi vr vl vh k

/-- The program's cluster between its calls: the lock is free. -/
structure Prog (B bx bi : Nat) (nodes jobs wall last now : Int) (vr vl vh : Value) (L : List Job) (E : List Ev) (w : World) : Prop where
  out : w.heap[bx]? = some (outer (.int .i32 0) (.int .u32 0) bi)
  clu : Clu B bi nodes jobs wall last now vr vl vh L E w
  lowx : B ≤ bx
  lowi : B ≤ bi

theorem Prog.lt {B bx bi : Nat} {nodes jobs wall last now : Int} {vr vl vh : Value} {L : List Job} {E : List Ev} {w : World} (h : Prog B bx bi nodes jobs wall last now vr vl vh L E w) (k : Nat) (hk : progB bx bi vr vl vh k) : B ≤ k ∧ k < w.heap.size := by
  rcases hk with rfl | hk
  · exact ⟨h.lowx, (Array.getElem?_eq_some_iff.1 h.out).1⟩
  · refine ⟨?_, h.clu.cl.lt k hk⟩
    rcases hk with rfl | e | e | e
    · exact h.lowi
    · exact (h.clu.cl.rcd.lt k e).1
    · exact (h.clu.cl.liv.lt k e).1
    · exact (World.ownsRow.lt h.clu.cl.hp.row k e).1

theorem Clu.kept {base bi : Nat} {nodes jobs wall last now : Int} {vr vl vh : Value} {L : List Job} {E : List Ev} {w w' : World} {S : Nat → Prop} (h : Clu base bi nodes jobs wall last now vr vl vh L E w) (hK : Kept S w w') (hS : ∀ k, clB bi vr vl vh k → ¬ S k) : Clu base bi nodes jobs wall last now vr vl vh L E w' := ⟨h.cl.kept hK (fun k hs hk => hS k hk hs), h.due, h.heap, h.few⟩

theorem Prog.kept {B bx bi : Nat} {nodes jobs wall last now : Int} {vr vl vh : Value} {L : List Job} {E : List Ev} {w w' : World} {S : Nat → Prop} (h : Prog B bx bi nodes jobs wall last now vr vl vh L E w) (hK : Kept S w w') (hS : ∀ k, progB bx bi vr vl vh k → ¬ S k) : Prog B bx bi nodes jobs wall last now vr vl vh L E w' :=
  ⟨(hK.block bx (h.lt bx (Or.inl rfl)).2 (hS bx (Or.inl rfl))).trans h.out, h.clu.kept hK (fun k hk => hS k (Or.inr hk)), h.lowx, h.lowi⟩

theorem outer_off {B bx bi : Nat} {s0 s1 : Value} {nodes jobs wall last now : Int} {vr vl vh : Value} {L : List Job} {E : List Ev} {w : World} (ho : w.heap[bx]? = some (outer s0 s1 bi)) (h : Clu B bi nodes jobs wall last now vr vl vh L E w) : ¬ clB bi vr vl vh bx := by
  rintro (rfl | e | e | e)
  · have hb := h.cl.hp.blk
    rw [ho] at hb
    simp at hb
  · exact owns_not h.cl.rcd ho (by decide) e
  · exact owns_not h.cl.liv ho (by decide) e
  · exact owns_not h.cl.hp.row ho (by decide) e

theorem Spare.of_mid {base bi : Nat} {nodes jobs wall last : Int} {vr vl vh y x : Value} {o : Out} {w W w2 : World} (h : Mid base bi nodes jobs wall last vr vl vh o y x W w2) (hc : ∀ k, clB bi vr vl vh k → k < w.heap.size) : Spare w.heap.size W w2 := by
  obtain ⟨_, _, _, _, _, hT, _⟩ := h.clu
  exact Spare.of_trail hT hc

theorem ErrIs.on {a p1 p2 p3 p4 p5 : Addr} {err : Value} {r : Int} {w w' : World} (h : ErrIs a p1 p2 p3 p4 p5 err r w) (hb : Below w.heap.size w w') : ErrIs a p1 p2 p3 p4 p5 err r w' := by
  have hc : ∀ (p : Addr) (v : Value), w.cell? p = some v → w'.cell? p = some v := fun p v e => (hb.cell (block_lt_of_cell e)).trans e
  rcases h with h | ⟨rfl, b, rfl, hr⟩ | ⟨pa, rfl, ⟨rfl, h⟩ | ⟨rfl, h⟩ | ⟨rfl, h⟩ | ⟨rfl, h⟩ | ⟨rfl, h⟩⟩
  · exact Or.inl h
  · refine Or.inr (Or.inl ⟨rfl, b, rfl, ?_⟩)
    rcases hr with h1 | ⟨c, h1, h2⟩
    · exact Or.inl (hc _ _ h1)
    · exact Or.inr ⟨c, hc _ _ h1, hc _ _ h2⟩
  · exact Or.inr (Or.inr ⟨pa, rfl, Or.inl ⟨rfl, h.on hb⟩⟩)
  · exact Or.inr (Or.inr ⟨pa, rfl, Or.inr (Or.inl ⟨rfl, h.on hb⟩)⟩)
  · exact Or.inr (Or.inr ⟨pa, rfl, Or.inr (Or.inr (Or.inl ⟨rfl, h.on hb⟩))⟩)
  · exact Or.inr (Or.inr ⟨pa, rfl, Or.inr (Or.inr (Or.inr (Or.inl ⟨rfl, h.on hb⟩)))⟩)
  · exact Or.inr (Or.inr ⟨pa, rfl, Or.inr (Or.inr (Or.inr (Or.inr ⟨rfl, h.on hb⟩)))⟩)

/-- Do: its answer is the document's, for all that is neither Cancel nor Done. -/
theorem doP (B bx bi : Nat) (nodes jobs wall last now : Int) (vr vl vh : Value) (L : List Job) (E : List Ev) (a : Addr) (m : Int) (w0 : World) (hE : Env a m w0) (w : World) (h0 : Below w0.heap.size w0 w) (hB0 : w0.heap.size ≤ B) (hBw : B ≤ w.heap.size) (h : Prog B bx bi nodes jobs wall last now vr vl vh L E w) (hG : Good nodes jobs wall last now L) (hl : L.length < 1000000000) (k x y : Int) (h2 : k ≠ 2) (h3 : k ≠ 3) :
    Calls Tryz.prog 16 #[.pointer (some ⟨bx, 0, none⟩), .agg #[.int .i64 k, .int .i64 x, .int .i64 y]] w fun e w' => ∃ o y1 x1 vr' vl' vh' E', DoO nodes jobs wall last now L k x y o ∧ e = .returned (.agg #[.int .i64 o.err, .int .i64 o.a, .int .i64 o.b, .int .i64 o.c, y1, x1]) ∧
      w'.ownsRow w.heap.size 57 4 y1 o.rows.length (flatR o.rows) ∧ w'.ownsRow w.heap.size 55 4 x1 o.evs.length (flatE o.evs) ∧ Prog B bx bi nodes jobs wall last o.now vr' vl' vh' o.L E' w' ∧ Kept (progB bx bi vr vl vh) w w' ∧ (∀ k, progB bx bi vr' vl' vh' k → progB bx bi vr vl vh k ∨ w.heap.size ≤ k) ∧ ∀ k, x1.ownBlock = some k → ¬ progB bx bi vr' vl' vh' k := by
  obtain ⟨p1, p2, p3, p4, p5, hA0⟩ := hE.asks
  have hoff := outer_off h.out h.clu
  have hc : ∀ k, clB bi vr vl vh k → B ≤ k ∧ k < w.heap.size := fun k e => h.lt k (Or.inr e)
  have hbx := h.lt bx (Or.inl rfl)
  have hW : ∀ W, Kept (fun j => j = bx) w W → Below w0.heap.size w0 W ∧ Clu B bi nodes jobs wall last now vr vl vh L E W := fun W hK => ⟨h0.trans (hK.below (by omega) (fun k e => by have := hbx.1; omega)), h.clu.kept hK (fun k e e2 => hoff (e2 ▸ e))⟩
  refine (doL bx bi w k x y h.out (fun a1 b1 c1 ys xs err er W w2 => ∃ o, DoO nodes jobs wall last now L k x y o ∧ a1 = o.a ∧ b1 = o.b ∧ c1 = o.c ∧ er = o.err ∧ ErrIs a p1 p2 p3 p4 p5 err o.err w2 ∧ Mid B bi nodes jobs wall last vr vl vh o ys xs W w2 ∧ Below w0.heap.size w0 W) ?_ ?_).mono ?_
  · intro W hK hx
    obtain ⟨hb, hC⟩ := hW W hK
    refine (doD B bx bi _ _ nodes jobs wall last now vr vl vh L E a m W (hE.on hb) hx hC hG p1 p2 p3 p4 p5 (hA0.on hb) (Nat.le_trans hBw hK.size) hl k x y h2 h3).mono ?_
    rintro e w2 ⟨o, y1, x1, e0, err, rfl, hD, hEr, hM⟩
    obtain ⟨q1, c1, rfl⟩ := own_slice hM.rows
    obtain ⟨q2, c2, rfl⟩ := own_slice hM.evs
    have hS := Spare.of_mid hM (fun k e => (hc k e).2)
    obtain ⟨_, _, _, _, _, hT, _⟩ := hM.clu
    exact ⟨e0, o.a, o.b, o.c, q1, _, c1, q2, _, c2, err, o.err, rfl, hS.1, hS.2, hT.kept.block bx (Nat.lt_of_lt_of_le hbx.2 hK.size) hoff, o, hD, rfl, rfl, rfl, rfl, hEr, hM, hb⟩
  · rintro a1 b1 c1 ys xs err er W w2 ⟨o, hD, rfl, rfl, rfl, rfl, hEr, hM, hb⟩ W3 hb4
    obtain ⟨vr', vl', vh', E', hC2, hT, _⟩ := hM.clu
    have hb2 : Below w0.heap.size w0 w2 := hb.trans (hT.kept.below hb.size (fun k e => by have := (hc k e).1; omega))
    have hb3 : Below w0.heap.size w0 W3 := hb2.trans (hb4.mono hb2.size)
    exact errno_any a p1 p2 p3 p4 p5 err o.err W3 (hA0.on hb3) (hEr.on hb4)
  · rintro e w' ⟨a1, b1, c1, q1, n1, k1, q2, n2, k2, err, er, W, w2, rfl, hK, ⟨o, hD, rfl, rfl, rfl, rfl, hEr, hM, hb⟩, hK2, hout⟩
    obtain ⟨vr', vl', vh', E', hC2, hT, hx1⟩ := hM.clu
    have hsW := hK.size
    have hbx2 := hbx.2
    have hn : ∀ k, clB bi vr' vl' vh' k → ¬ (k = bx ∨ (w.heap.size ≤ k ∧ k < W.heap.size)) := fun k e => by
      rcases hT.new k e with e | e
      · have := (hc k e).2
        rintro (rfl | e2)
        · exact hoff e
        · omega
      · rintro (e2 | e2)
        · omega
        · omega
    refine ⟨o, _, _, vr', vl', vh', E', hD, rfl, owns_on (owns_mono hM.rows hsW) (fun k e => hK2.block k (hM.rows.lt k e).2 (by have := (hM.rows.lt k e).1; rintro (e2 | e2) <;> omega)), owns_on (owns_mono hM.evs hsW) (fun k e => hK2.block k (hM.evs.lt k e).2 (by have := (hM.evs.lt k e).1; rintro (e2 | e2) <;> omega)), ⟨hout, hC2.kept hK2 hn, h.lowx, h.lowi⟩, ?_, ?_, ?_⟩
    · exact ((hK.mono (T := progB bx bi vr vl vh) (fun k e => Or.inl e)).trans (hT.kept.mono (T := progB bx bi vr vl vh) (fun k e => Or.inr e)) (fun i e => Or.inl e)).trans hK2 (fun i e => e.elim (fun e => Or.inl (Or.inl e)) (fun e => Or.inr e.1))
    · rintro k (e | e)
      · exact Or.inl (Or.inl e)
      · rcases hT.new k e with e | e
        · exact Or.inl (Or.inr e)
        · exact Or.inr (by omega)
    · rintro k e (e2 | e2)
      · have := (hM.evs.lt k e).1
        omega
      · exact hx1 k e e2

end Go.Proofs.YtpcgnadfldimhaaGreatDoor
