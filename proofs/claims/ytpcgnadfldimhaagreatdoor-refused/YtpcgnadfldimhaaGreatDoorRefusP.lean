/-
  The statement Refused: what must be refused, and what only tells.
-/
import Derived.Test.YtpcgnadfldimhaaGreatDoorKeepS
namespace Go.Proofs.YtpcgnadfldimhaaGreatDoor
open Go.RowKit

/-- What must be refused: the commands, their errors. -/
def badK (len n : Int) (k : Nat) : Int × Int × Int := match k with
  | 0 => (1, 9, 1)
  | 1 => (1, 0, 31)
  | 2 => (1, 1, 0)
  | 3 => (1, 8, 31)
  | 4 => (2, len, 0)
  | 5 => (3, 0, 0)
  | 6 => (4, 1000001, 0)
  | 7 => (5, len, 0)
  | 8 => (8, 0, 0)
  | 9 => (6, 1, 0)
  | 10 => (4, -1, 0)
  | _ => (n, -1, 0)
def badE (k : Nat) : Int := match k with
  | 0 => 2
  | 1 => 2
  | 2 => 3
  | 3 => 3
  | 4 => 5
  | 5 => 5
  | 6 => 7
  | 7 => 5
  | _ => 1
def badV (len n : Int) : Array Value := #[.int .i64 1, .int .i64 9, .int .i64 1, .int .i64 1, .int .i64 0, .int .i64 31, .int .i64 1, .int .i64 1, .int .i64 0, .int .i64 1, .int .i64 8, .int .i64 31, .int .i64 2, .int .i64 len, .int .i64 0, .int .i64 3, .int .i64 0, .int .i64 0, .int .i64 4, .int .i64 1000001, .int .i64 0, .int .i64 5, .int .i64 len, .int .i64 0, .int .i64 8, .int .i64 0, .int .i64 0, .int .i64 6, .int .i64 1, .int .i64 0, .int .i64 4, .int .i64 (-1), .int .i64 0, .int .i64 n, .int .i64 (-1), .int .i64 0]
def badF : Array Value := #[.int .i64 2, .int .i64 2, .int .i64 3, .int .i64 3, .int .i64 5, .int .i64 5, .int .i64 7, .int .i64 5, .int .i64 1, .int .i64 1, .int .i64 1, .int .i64 1]

theorem bad_cells (len n : Int) (k : Nat) (hk : k < 12) : (badV len n)[k * 3]? = some (.int .i64 (badK len n k).1) ∧ (badV len n)[k * 3 + 1]? = some (.int .i64 (badK len n k).2.1) ∧ (badV len n)[k * 3 + 2]? = some (.int .i64 (badK len n k).2.2) ∧ badF[k]? = some (.int .i64 (badE k)) := by
  match k, hk with
  | 0, _ => exact ⟨rfl, rfl, rfl, rfl⟩
  | 1, _ => exact ⟨rfl, rfl, rfl, rfl⟩
  | 2, _ => exact ⟨rfl, rfl, rfl, rfl⟩
  | 3, _ => exact ⟨rfl, rfl, rfl, rfl⟩
  | 4, _ => exact ⟨rfl, rfl, rfl, rfl⟩
  | 5, _ => exact ⟨rfl, rfl, rfl, rfl⟩
  | 6, _ => exact ⟨rfl, rfl, rfl, rfl⟩
  | 7, _ => exact ⟨rfl, rfl, rfl, rfl⟩
  | 8, _ => exact ⟨rfl, rfl, rfl, rfl⟩
  | 9, _ => exact ⟨rfl, rfl, rfl, rfl⟩
  | 10, _ => exact ⟨rfl, rfl, rfl, rfl⟩
  | 11, _ => exact ⟨rfl, rfl, rfl, rfl⟩

set_option maxRecDepth 100000 in
theorem bad_refused {now n : Int} {L : List Job} {o : Out} {k : Nat} (hk : k < 12) (hG : Good 8 12 30 1000000 now L) (hl : L.length ≤ 1000) (h : DoE 8 12 30 1000000 now L (badK ((L.length : Int) + 1) n k).1 (badK ((L.length : Int) + 1) n k).2.1 (badK ((L.length : Int) + 1) n k).2.2 o) : o = ⟨badE k, 0, 0, 0, [], [], now, L⟩ := by
  have h0 := hG.now0
  have hm : ∀ b, fitsB (-1) b = false := by decide
  have hrl : ∀ q : Int, (q = 2 ∨ q = 3 ∨ q = 5) → rendOk q ((L.length : Int) + 1) 0 = true := fun q hq => by
    rcases hq with rfl | rfl | rfl <;> simp [rendOk, fitsB, numsN] <;> omega
  refine doE_unique hG h ?_
  clear h
  have hc : k = 0 ∨ k = 1 ∨ k = 2 ∨ k = 3 ∨ k = 4 ∨ k = 5 ∨ k = 6 ∨ k = 7 ∨ k = 8 ∨ k = 9 ∨ k = 10 ∨ k = 11 := by omega
  rcases hc with rfl | rfl | rfl | rfl | rfl | rfl | rfl | rfl | rfl | rfl | rfl | rfl <;> simp only [badK, badE]
  · exact Or.inl (Or.inr ⟨by decide, Or.inl ⟨rfl, by simp [submitO]⟩⟩)
  · exact Or.inl (Or.inr ⟨by decide, Or.inl ⟨rfl, by simp [submitO]⟩⟩)
  · exact Or.inl (Or.inr ⟨by decide, Or.inl ⟨rfl, by simp [submitO]⟩⟩)
  · exact Or.inl (Or.inr ⟨by decide, Or.inl ⟨rfl, by simp [submitO]⟩⟩)
  · exact Or.inr ⟨hrl 2 (Or.inl rfl), Or.inl rfl, Or.inl ⟨Or.inr (by omega), rfl⟩⟩
  · exact Or.inr ⟨by decide, Or.inr rfl, Or.inl ⟨Or.inl (by omega), rfl⟩⟩
  · exact Or.inl (Or.inr ⟨by decide, Or.inr (Or.inl ⟨rfl, Or.inl ⟨by omega, rfl⟩⟩)⟩)
  · exact Or.inl (Or.inr ⟨hrl 5 (Or.inr (Or.inr rfl)), Or.inr (Or.inr (Or.inl ⟨rfl, Or.inr (by omega), rfl⟩))⟩)
  · exact Or.inl (Or.inl ⟨by decide, rfl⟩)
  · exact Or.inl (Or.inl ⟨by decide, rfl⟩)
  · exact Or.inl (Or.inl ⟨by decide, rfl⟩)
  · exact Or.inl (Or.inl ⟨by simp [rendOk, hm], rfl⟩)

theorem stat_still {now : Int} {L : List Job} {o : Out} (hl : L.length ≤ 1000) (h : DoE 8 12 30 1000000 now L 5 1 0 o) : o.L = L ∧ o.now = now := by
  cases L with
  | nil =>
    have e := doE_statNo (x := 1) (by simp) (by omega) h
    rw [e]; exact ⟨rfl, rfl⟩
  | cons j r =>
    have e := doE_stat (i := 0) (j := j) rfl (by omega) (by simpa using h)
    rw [e]; exact ⟨rfl, rfl⟩
theorem info_still {now : Int} {L : List Job} {o : Out} (h : DoE 8 12 30 1000000 now L 7 0 0 o) : o.L = L ∧ o.now = now := by
  rw [doE_info h]; exact ⟨rfl, rfl⟩

theorem RunAt.below {ss : List StepV} {B br bx k : Nat} {X : Nat → Prop} {w w' : World} (h : RunAt ss B br bx k X w) (hb : Below w.heap.size w w') : RunAt ss B br bx k X w' := h.kept (S := fun _ => False) (Kept.of_below hb) (fun _ _ e => e)

/-- A Do that changes nothing leaves a run where it is. -/
theorem run_still (ss : List StepV) (B br bx n : Nat) (X : Nat → Prop) (a : Addr) (m : Int) (w0 : World) (hE : Env a m w0) (w : World) (h0 : Below w0.heap.size w0 w) (hB0 : w0.heap.size ≤ B) (hBw : B ≤ w.heap.size) (h : RunAt ss B br bx n X w) (hn : n < 500) (k x y : Int) (hs : ∀ L now o, L.length ≤ 1000 → DoE 8 12 30 1000000 now L k x y o → o.L = L ∧ o.now = now) :
    Calls Tryz.prog 16 #[.pointer (some ⟨bx, 0, none⟩), .agg #[.int .i64 k, .int .i64 x, .int .i64 y]] w fun e w' => ∃ v X', e = .returned v ∧ RunAt ss B br bx n X' w' ∧ Kept X w w' ∧ (∀ j, X' j → X j ∨ w.heap.size ≤ j) ∧ Below w0.heap.size w0 w' := by
  obtain ⟨K, L, now, hA, hR⟩ := h
  obtain ⟨hG, hT, hl, hnow⟩ := hA.good (by omega)
  have hll := hT.len
  refine (run_do B br bx K L now now X a m w0 hE w h0 hB0 hBw hR hG (by omega) k x y).mono ?_
  rintro e w' ⟨o, p1, c1, p2, c2, X', hD, rfl, _, _, hS, hK, hN, hb⟩
  obtain ⟨e1, e2⟩ := hs L now o (by omega) hD
  rw [e1, e2] at hS
  exact ⟨_, X', rfl, ⟨K, L, now, hA, hS⟩, hK, hN, hb⟩

end Go.Proofs.YtpcgnadfldimhaaGreatDoor
