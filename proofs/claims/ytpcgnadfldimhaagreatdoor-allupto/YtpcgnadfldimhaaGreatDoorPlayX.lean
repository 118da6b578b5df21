/-
 A script that reads lines and writes commands, played: berthlaw.played at last = 2, berthlaw.Commands.
-/
import Derived.Test.YtpcgnadfldimhaaGreatDoorStep
import Derived.Test.YtpcgnadfldimhaaGreatDoorEnvOf
import Derived.Deep.Slices
import Derived.Carry
namespace Go.Proofs.YtpcgnadfldimhaaGreatDoor
open Go.RowKit

/-- A step of a script. -/
structure OpV where
 q : Int
 i : Int
 c1 : Int
 c2 : Int
 c3 : Int
 c4 : Int
 d1 : Int
 d2 : Int
 d3 : Int
 s : ByteArray

def OpV.cells (o : OpV) : List Value := [.int .i64 o.q, .int .i64 o.i, .int .i64 o.c1, .int .i64 o.c2, .int .i64 o.c3, .int .i64 o.c4, .int .i64 o.d1, .int .i64 o.d2, .int .i64 o.d3, .string o.s]

/-- The script lies at ⟨b, off⟩. -/
def Script (w : World) (b off : Nat) (ops : List OpV) : Prop := ∀ j o, ops[j]? = some o → w.rangeAt b (off + j * 10) o.cells ∧ o.s.size ≤ maxLen

theorem Script.on {w w' : World} {b off : Nat} {ops : List OpV} (h : Script w b off ops) (hb : Below w.heap.size w w') : Script w' b off ops := fun j o hj =>
 ⟨fun t v hv => (hb.cell (block_lt_of_cell ((h j o hj).1 t v hv))).trans ((h j o hj).1 t v hv), (h j o hj).2⟩

end Go.Proofs.YtpcgnadfldimhaaGreatDoor
namespace Go.Proofs.YtpcgnadfldimhaaGreatDoor
open Go.ChangeShapes Go.WideShapes Go.ChangeAt Go.RowKit

theorem laidOut : laidOutB Tryz.prog = true := by kernel_rfl
theorem cellsOp : Tryz.prog.cellsOf 76 = 10 := by kernel_rfl
theorem cellsConf : Tryz.prog.cellsOf 74 = 4 := by kernel_rfl
theorem cellsCmd : Tryz.prog.cellsOf 29 = 3 := by kernel_rfl

section
variable {H : Type} {enc : TypeId × Value → H} {w : World} {base : Nat} {sp : Nat → Bool} {held : Bool}

set_option maxRecDepth 100000 in
theorem cmd_of_trod {fuel : Nat} {cs : List Value} {x : DataW H × List MemPlace} (h : DataW.trod enc Tryz.prog w base sp held fuel 29 cs = some x) : ∃ k a b : Int, cs = [.int .i64 k, .int .i64 a, .int .i64 b] ∧ x = (.agg [.lit (.int .i64 k), .lit (.int .i64 a), .lit (.int .i64 b)], []) ∧ (Lit.int .i64 k).wf = true ∧ (Lit.int .i64 a).wf = true ∧ (Lit.int .i64 b).wf = true := by
 obtain ⟨xs, m, rfl, rfl, hl, hx, hf⟩ := DataW.trod_struct Tryz.underlying29 h
 rw [cellsCmd] at hl
 match cs, hl with
 | [a, b, c], _ =>
  have hx3 : xs.length = 3 := hx
  match xs, hx3 with
  | [y0, y1, y2], _ =>
   have h0 : DataW.trod enc Tryz.prog w base sp held m 3 (List.take (Tryz.prog.cellsOf 3) (List.drop 0 [a, b, c])) = some y0 := hf 0 _ rfl
   have h1 : DataW.trod enc Tryz.prog w base sp held m 3 (List.take (Tryz.prog.cellsOf 3) (List.drop 1 [a, b, c])) = some y1 := hf 1 _ rfl
   have h2 : DataW.trod enc Tryz.prog w base sp held m 3 (List.take (Tryz.prog.cellsOf 3) (List.drop 2 [a, b, c])) = some y2 := hf 2 _ rfl
   rw [cellsInt] at h0 h1 h2
   obtain ⟨k, e0, rfl, w0⟩ := DataW.trod_int Tryz.underlying3 h0
   obtain ⟨s, e1, rfl, w1⟩ := DataW.trod_int Tryz.underlying3 h1
   obtain ⟨n, e2, rfl, w2⟩ := DataW.trod_int Tryz.underlying3 h2
   simp at e0 e1 e2
   subst e0 e1 e2
   exact ⟨k, s, n, rfl, rfl, w0, w1, w2⟩

set_option maxRecDepth 100000 in
theorem conf_of_trod {fuel : Nat} {cs : List Value} {x : DataW H × List MemPlace} (h : DataW.trod enc Tryz.prog w base sp held fuel 74 cs = some x) : ∃ k a b c : Int, cs = [.int .i64 k, .int .i64 a, .int .i64 b, .int .i64 c] := by
 obtain ⟨xs, m, rfl, rfl, hl, hx, hf⟩ := DataW.trod_struct Tryz.underlying74 h
 rw [cellsConf] at hl
 match cs, hl with
 | [a, b, c, d], _ =>
  have hx3 : xs.length = 4 := hx
  match xs, hx3 with
  | [y0, y1, y2, y3], _ =>
   have h0 : DataW.trod enc Tryz.prog w base sp held m 3 (List.take (Tryz.prog.cellsOf 3) (List.drop 0 [a, b, c, d])) = some y0 := hf 0 _ rfl
   have h1 : DataW.trod enc Tryz.prog w base sp held m 3 (List.take (Tryz.prog.cellsOf 3) (List.drop 1 [a, b, c, d])) = some y1 := hf 1 _ rfl
   have h2 : DataW.trod enc Tryz.prog w base sp held m 3 (List.take (Tryz.prog.cellsOf 3) (List.drop 2 [a, b, c, d])) = some y2 := hf 2 _ rfl
   have h3 : DataW.trod enc Tryz.prog w base sp held m 3 (List.take (Tryz.prog.cellsOf 3) (List.drop 3 [a, b, c, d])) = some y3 := hf 3 _ rfl
   rw [cellsInt] at h0 h1 h2 h3
   obtain ⟨k, e0, rfl, _⟩ := DataW.trod_int Tryz.underlying3 h0
   obtain ⟨s, e1, rfl, _⟩ := DataW.trod_int Tryz.underlying3 h1
   obtain ⟨n, e2, rfl, _⟩ := DataW.trod_int Tryz.underlying3 h2
   obtain ⟨r, e3, rfl, _⟩ := DataW.trod_int Tryz.underlying3 h3
   simp at e0 e1 e2 e3
   subst e0 e1 e2 e3
   exact ⟨k, s, n, r, rfl⟩

set_option maxRecDepth 100000 in
theorem op_of_trod {fuel : Nat} {cs : List Value} {x : DataW H × List MemPlace} (h : DataW.trod enc Tryz.prog w base sp held fuel 76 cs = some x) : ∃ o : OpV, cs = o.cells ∧ o.s.size ≤ maxLen ∧ (Lit.int .i64 o.i).wf = true := by
 obtain ⟨xs, m, rfl, rfl, hl, hx, hf⟩ := DataW.trod_struct Tryz.underlying76 h
 rw [cellsOp] at hl
 match cs, hl with
 | [a0, a1, a2, a3, a4, a5, a6, a7, a8, a9], _ =>
  have hx3 : xs.length = 5 := hx
  match xs, hx3 with
  | [y0, y1, y2, y3, y4], _ =>
   have h0 : DataW.trod enc Tryz.prog w base sp held m 3 (List.take (Tryz.prog.cellsOf 3) (List.drop 0 [a0, a1, a2, a3, a4, a5, a6, a7, a8, a9])) = some y0 := hf 0 _ rfl
   have h1 : DataW.trod enc Tryz.prog w base sp held m 3 (List.take (Tryz.prog.cellsOf 3) (List.drop 1 [a0, a1, a2, a3, a4, a5, a6, a7, a8, a9])) = some y1 := hf 1 _ rfl
   have h2 : DataW.trod enc Tryz.prog w base sp held m 74 (List.take (Tryz.prog.cellsOf 74) (List.drop 2 [a0, a1, a2, a3, a4, a5, a6, a7, a8, a9])) = some y2 := hf 2 _ rfl
   have h3 : DataW.trod enc Tryz.prog w base sp held m 29 (List.take (Tryz.prog.cellsOf 29) (List.drop 6 [a0, a1, a2, a3, a4, a5, a6, a7, a8, a9])) = some y3 := hf 3 _ rfl
   have h4 : DataW.trod enc Tryz.prog w base sp held m 9 (List.take (Tryz.prog.cellsOf 9) (List.drop 9 [a0, a1, a2, a3, a4, a5, a6, a7, a8, a9])) = some y4 := hf 4 _ rfl
   rw [cellsInt] at h0 h1
   rw [cellsConf] at h2
   rw [cellsCmd] at h3
   rw [cellsStr] at h4
   obtain ⟨q, e0, -, -⟩ := DataW.trod_int Tryz.underlying3 h0
   obtain ⟨i, e1, -, wi⟩ := DataW.trod_int Tryz.underlying3 h1
   obtain ⟨c1, c2, c3, c4, e2⟩ := conf_of_trod h2
   obtain ⟨d1, d2, d3, e3, -, -, -, -⟩ := cmd_of_trod h3
   obtain ⟨s, e4, -, hs⟩ := DataW.trod_string Tryz.underlying9 h4
   simp at e0 e1 e2 e3 e4
   obtain ⟨rfl, rfl, rfl, rfl⟩ := e2
   obtain ⟨rfl, rfl, rfl⟩ := e3
   subst e0 e1 e4
   exact ⟨⟨q, i, c1, c2, c3, c4, d1, d2, d3, s⟩, rfl, hs, wi⟩
end

theorem choose_list {α : Type} {P : Nat → α → Prop} : ∀ (n : Nat), (∀ i, i < n → ∃ a, P i a) → ∃ l : List α, l.length = n ∧ ∀ j o, l[j]? = some o → P j o
 | 0, _ => ⟨[], rfl, fun j o h => by simp at h⟩
 | n + 1, h => by
  obtain ⟨l, hl, hp⟩ := choose_list n fun i hi => h i (by omega)
  obtain ⟨a, ha⟩ := h n (by omega)
  refine ⟨l ++ [a], by simp [hl], fun j o hj => ?_⟩
  rcases Nat.lt_or_ge j l.length with h1 | h1
  ·rw [List.getElem?_append_left h1] at hj; exact hp j o hj
  ·rw [List.getElem?_append_right h1] at hj
   have : j - l.length = 0 := by
    have := (List.getElem?_eq_some_iff.1 hj).1
    simp at this; omega
   rw [this] at hj
   simp at hj
   subst hj
   obtain rfl : j = n := by omega
   exact ha

end Go.Proofs.YtpcgnadfldimhaaGreatDoor
