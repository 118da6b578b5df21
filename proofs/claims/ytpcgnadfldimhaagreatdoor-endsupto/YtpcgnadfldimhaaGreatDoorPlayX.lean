/-
  A script that reads lines and writes commands, played: berthlaw.played at last = 2, berthlaw.Commands.
-/
import Derived.Test.YtpcgnadfldimhaaGreatDoorStep
import Derived.Test.YtpcgnadfldimhaaGreatDoorEnvOf
import Derived.Deep.Slices
import Derived.Carry
namespace Go.Proofs.YtpcgnadfldimhaaGreatDoor
open Go.RowKit

/-- A step of a script. -/
structure OpV where
  q : Int
  i : Int
  c1 : Int
  c2 : Int
  c3 : Int
  c4 : Int
  d1 : Int
  d2 : Int
  d3 : Int
  s : ByteArray

def OpV.cells (o : OpV) : List Value := [.int .i64 o.q, .int .i64 o.i, .int .i64 o.c1, .int .i64 o.c2, .int .i64 o.c3, .int .i64 o.c4, .int .i64 o.d1, .int .i64 o.d2, .int .i64 o.d3, .string o.s]

/-- The script lies at ⟨b, off⟩. -/
def Script (w : World) (b off : Nat) (ops : List OpV) : Prop := ∀ j o, ops[j]? = some o → w.rangeAt b (off + j * 10) o.cells ∧ o.s.size ≤ maxLen

theorem Script.on {w w' : World} {b off : Nat} {ops : List OpV} (h : Script w b off ops) (hb : Below w.heap.size w w') : Script w' b off ops := fun j o hj =>
  ⟨fun t v hv => (hb.cell (block_lt_of_cell ((h j o hj).1 t v hv))).trans ((h j o hj).1 t v hv), (h j o hj).2⟩

theorem step_any (a : Addr) (m : Int) (w : World) (h : Env a m w) (wb : Nat) (hcl : w.cell? ⟨wb, 0, none⟩ = some (.slice none 0 0)) (o : OpV) (hs : o.s.size ≤ maxLen) (hq : o.q ≤ 2) :
    Calls Tryz.prog 28 #[.pointer (some ⟨wb, 0, none⟩), .agg o.cells.toArray] w fun e w' => e = .returned (.bool true) ∧ Below w.heap.size w w' := by
  obtain ⟨q, i, c1, c2, c3, c4, d1, d2, d3, s⟩ := o
  by_cases h1 : q = 1
  · subst h1
    exact step_parse a m w h _ i c1 c2 c3 c4 d1 d2 d3 s hs
  · by_cases h2 : q = 2
    · subst h2
      exact step_render a m w h _ i c1 c2 c3 c4 d1 d2 d3 s
    · exact step_other w wb hcl q i c1 c2 c3 c4 d1 d2 d3 s h1 h2 (by simp at hq; omega)

set_option maxHeartbeats 2000000 in
set_option maxRecDepth 100000 in
theorem played_2 (a : Addr) (m : Int) (w : World) (h : Env a m w) (b off cap : Nat) (ops : List OpV) (hS : Script w b off ops) (hl : ops.length ≤ 9223372036854775807) :
    Calls Tryz.prog 14 #[.slice (some ⟨b, off, none⟩) ops.length cap, .int .i64 2] w fun e w' => e = .returned (.bool true) ∧ Below w.heap.size w w' := by
  have hE1 : ∀ o, Env a m (w.alloc o) := fun o => h.on ((Below.refl _ _).alloc (Nat.le_refl _) _)
  go_enter Tryz.func14, Tryz.ntmps14
  go_wp2_with (go_at_call 28; refine (step_parse a m _ (hE1 _) _ 0 0 0 0 0 0 0 0 _ (by unfold maxLen; decide)).mono ?_; rintro e w1 ⟨rfl, hb1⟩; refine Hid.out ?_)
  refine Lib.hid ?_
  have z0 := new_old hb1 0
  have z1 := new_old hb1 1
  have z2 := new_old hb1 2
  simp at z0 z1 z2
  have hb := ((Below.refl w.heap.size w).alloc (Nat.le_refl _) _).trans (hb1.mono (by simp))
  have hE2 : Env a m w1 := h.on hb
  have hS2 := hS.on hb
  clear hb1
  go_wp2
  go_loopw [6, 7] (fun ok i wr => ∃ k : Nat, k ≤ ops.length ∧ i = .int .i64 k ∧ ok = .bool true ∧ Below w1.heap.size w1 wr) (fun _ i _ => ops.length - (intOf i).toNat)
  case atStart => exact ⟨0, Nat.zero_le _, rfl, rfl, Below.refl _ _⟩
  case round =>
    obtain ⟨k, hk, rfl, rfl, hbr⟩ := hrel
    by_cases hlt : k < ops.length
    · obtain ⟨o, HO⟩ : ∃ o, Hid (ops[k]? = some o) := ⟨ops[k], Lib.hid (by simp)⟩
      have hr := ((hS2.on hbr) k o HO.out).1
      have hso := ((hS2.on hbr) k o HO.out).2
      have hEr : Env a m wr := hE2.on hbr
      have y0 := (hbr.cell (block_lt_of_cell z0)).trans z0
      have y1 := (hbr.cell (block_lt_of_cell z1)).trans z1
      have y2 := (hbr.cell (block_lt_of_cell z2)).trans z2
      have hk0 := hr 0 (.int .i64 o.q) rfl
      rw [Nat.add_zero] at hk0
      by_cases hq : o.q ≤ 2
      · go_wp2_with (refine wpList_load_mid rfl 76 _ rfl b (off + k * 10) rfl o.cells _ hr Tryz.underlying76 rfl (by kernel_rfl) ?_)
        refine (step_any a m wr hEr w.heap.size y0 o hso hq).mono ?_
        rintro e w2 ⟨rfl, hb2⟩
        have x1 := (hb2.cell (block_lt_of_cell y1)).trans y1
        have x2 := (hb2.cell (block_lt_of_cell y2)).trans y2
        have hbs := hbr.trans (hb2.mono hbr.size)
        clear hb2
        go_wp2_with (go_at_call 30; refine (looks_none _ w.heap.size x1 x2).mono ?_; rintro e w' ⟨rfl, rfl⟩)
        go_roundw
        case rel => exact ⟨k + 1, by omega, by go_num, rfl, hbs⟩
        case measure => simp [intOf]; omega
      · go_wp2_with (go_at_call 30; refine (looks_none _ w.heap.size y1 y2).mono ?_; rintro e w' ⟨rfl, rfl⟩)
        go_roundw
        case rel => exact ⟨k + 1, by omega, by go_num, rfl, hbr⟩
        case measure => simp [intOf]; omega
    · go_wp2
      go_ret
      exact ⟨rfl, hb.trans (hbr.mono hb.size)⟩

set_option maxHeartbeats 2000000 in
set_option maxRecDepth 100000 in
theorem played_0 (a : Addr) (m : Int) (w : World) (h : Env a m w) (ad : Option Addr) (cap : Nat) :
    Calls Tryz.prog 14 #[.slice ad 0 cap, .int .i64 2] w fun e w' => e = .returned (.bool true) ∧ Below w.heap.size w w' := by
  have hE1 : ∀ o, Env a m (w.alloc o) := fun o => h.on ((Below.refl _ _).alloc (Nat.le_refl _) _)
  go_enter Tryz.func14, Tryz.ntmps14
  go_wp2_with (go_at_call 28; refine (step_parse a m _ (hE1 _) _ 0 0 0 0 0 0 0 0 _ (by unfold maxLen; decide)).mono ?_; rintro e w1 ⟨rfl, hb1⟩; refine Hid.out ?_)
  refine Lib.hid ?_
  have hb := ((Below.refl w.heap.size w).alloc (Nat.le_refl _) _).trans (hb1.mono (by simp))
  clear hb1
  go_wp2
  refine wp_loop_rounds 1 ?_
  rw [rounds_succ]
  go_wp2
  go_ret
  exact ⟨rfl, hb⟩

set_option maxHeartbeats 1000000 in
theorem commands_is (w : World) (v : Value) (h : Hid (Calls Tryz.prog 14 #[v, .int .i64 2] w fun e w' => e = .returned (.bool true) ∧ Below w.heap.size w w')) :
    Calls Tryz.prog 3 #[v] w fun e w' => e = .returned (.bool true) ∧ Below w.heap.size w w' := by
  go_enter Tryz.func3, Tryz.ntmps3
  go_wp2_with (go_at_call 14; refine h.out.mono ?_; rintro e w' ⟨rfl, hb⟩)
  go_ret
  exact ⟨rfl, hb⟩

end Go.Proofs.YtpcgnadfldimhaaGreatDoor
namespace Go.Proofs.YtpcgnadfldimhaaGreatDoor
open Go.ChangeShapes Go.WideShapes Go.ChangeAt Go.RowKit

theorem laidOut : laidOutB Tryz.prog = true := by kernel_rfl
theorem cellsOp : Tryz.prog.cellsOf 76 = 10 := by kernel_rfl
theorem cellsConf : Tryz.prog.cellsOf 74 = 4 := by kernel_rfl
theorem cellsCmd : Tryz.prog.cellsOf 29 = 3 := by kernel_rfl

section
variable {H : Type} {enc : TypeId × Value → H} {w : World} {base : Nat} {sp : Nat → Bool} {held : Bool}

set_option maxRecDepth 100000 in
theorem cmd_of_trod {fuel : Nat} {cs : List Value} {x : DataW H × List MemPlace} (h : DataW.trod enc Tryz.prog w base sp held fuel 29 cs = some x) : ∃ k a b : Int, cs = [.int .i64 k, .int .i64 a, .int .i64 b] ∧ x = (.agg [.lit (.int .i64 k), .lit (.int .i64 a), .lit (.int .i64 b)], []) ∧ (Lit.int .i64 k).wf = true ∧ (Lit.int .i64 a).wf = true ∧ (Lit.int .i64 b).wf = true := by
  obtain ⟨xs, m, rfl, rfl, hl, hx, hf⟩ := DataW.trod_struct Tryz.underlying29 h
  rw [cellsCmd] at hl
  match cs, hl with
  | [a, b, c], _ =>
    have hx3 : xs.length = 3 := hx
    match xs, hx3 with
    | [y0, y1, y2], _ =>
      have h0 : DataW.trod enc Tryz.prog w base sp held m 3 (List.take (Tryz.prog.cellsOf 3) (List.drop 0 [a, b, c])) = some y0 := hf 0 _ rfl
      have h1 : DataW.trod enc Tryz.prog w base sp held m 3 (List.take (Tryz.prog.cellsOf 3) (List.drop 1 [a, b, c])) = some y1 := hf 1 _ rfl
      have h2 : DataW.trod enc Tryz.prog w base sp held m 3 (List.take (Tryz.prog.cellsOf 3) (List.drop 2 [a, b, c])) = some y2 := hf 2 _ rfl
      rw [cellsInt] at h0 h1 h2
      obtain ⟨k, e0, rfl, w0⟩ := DataW.trod_int Tryz.underlying3 h0
      obtain ⟨s, e1, rfl, w1⟩ := DataW.trod_int Tryz.underlying3 h1
      obtain ⟨n, e2, rfl, w2⟩ := DataW.trod_int Tryz.underlying3 h2
      simp at e0 e1 e2
      subst e0 e1 e2
      exact ⟨k, s, n, rfl, rfl, w0, w1, w2⟩

set_option maxRecDepth 100000 in
theorem conf_of_trod {fuel : Nat} {cs : List Value} {x : DataW H × List MemPlace} (h : DataW.trod enc Tryz.prog w base sp held fuel 74 cs = some x) : ∃ k a b c : Int, cs = [.int .i64 k, .int .i64 a, .int .i64 b, .int .i64 c] := by
  obtain ⟨xs, m, rfl, rfl, hl, hx, hf⟩ := DataW.trod_struct Tryz.underlying74 h
  rw [cellsConf] at hl
  match cs, hl with
  | [a, b, c, d], _ =>
    have hx3 : xs.length = 4 := hx
    match xs, hx3 with
    | [y0, y1, y2, y3], _ =>
      have h0 : DataW.trod enc Tryz.prog w base sp held m 3 (List.take (Tryz.prog.cellsOf 3) (List.drop 0 [a, b, c, d])) = some y0 := hf 0 _ rfl
      have h1 : DataW.trod enc Tryz.prog w base sp held m 3 (List.take (Tryz.prog.cellsOf 3) (List.drop 1 [a, b, c, d])) = some y1 := hf 1 _ rfl
      have h2 : DataW.trod enc Tryz.prog w base sp held m 3 (List.take (Tryz.prog.cellsOf 3) (List.drop 2 [a, b, c, d])) = some y2 := hf 2 _ rfl
      have h3 : DataW.trod enc Tryz.prog w base sp held m 3 (List.take (Tryz.prog.cellsOf 3) (List.drop 3 [a, b, c, d])) = some y3 := hf 3 _ rfl
      rw [cellsInt] at h0 h1 h2 h3
      obtain ⟨k, e0, rfl, _⟩ := DataW.trod_int Tryz.underlying3 h0
      obtain ⟨s, e1, rfl, _⟩ := DataW.trod_int Tryz.underlying3 h1
      obtain ⟨n, e2, rfl, _⟩ := DataW.trod_int Tryz.underlying3 h2
      obtain ⟨r, e3, rfl, _⟩ := DataW.trod_int Tryz.underlying3 h3
      simp at e0 e1 e2 e3
      subst e0 e1 e2 e3
      exact ⟨k, s, n, r, rfl⟩

set_option maxRecDepth 100000 in
theorem op_of_trod {fuel : Nat} {cs : List Value} {x : DataW H × List MemPlace} (h : DataW.trod enc Tryz.prog w base sp held fuel 76 cs = some x) : ∃ o : OpV, cs = o.cells ∧ o.s.size ≤ maxLen ∧ (Lit.int .i64 o.i).wf = true := by
  obtain ⟨xs, m, rfl, rfl, hl, hx, hf⟩ := DataW.trod_struct Tryz.underlying76 h
  rw [cellsOp] at hl
  match cs, hl with
  | [a0, a1, a2, a3, a4, a5, a6, a7, a8, a9], _ =>
    have hx3 : xs.length = 5 := hx
    match xs, hx3 with
    | [y0, y1, y2, y3, y4], _ =>
      have h0 : DataW.trod enc Tryz.prog w base sp held m 3 (List.take (Tryz.prog.cellsOf 3) (List.drop 0 [a0, a1, a2, a3, a4, a5, a6, a7, a8, a9])) = some y0 := hf 0 _ rfl
      have h1 : DataW.trod enc Tryz.prog w base sp held m 3 (List.take (Tryz.prog.cellsOf 3) (List.drop 1 [a0, a1, a2, a3, a4, a5, a6, a7, a8, a9])) = some y1 := hf 1 _ rfl
      have h2 : DataW.trod enc Tryz.prog w base sp held m 74 (List.take (Tryz.prog.cellsOf 74) (List.drop 2 [a0, a1, a2, a3, a4, a5, a6, a7, a8, a9])) = some y2 := hf 2 _ rfl
      have h3 : DataW.trod enc Tryz.prog w base sp held m 29 (List.take (Tryz.prog.cellsOf 29) (List.drop 6 [a0, a1, a2, a3, a4, a5, a6, a7, a8, a9])) = some y3 := hf 3 _ rfl
      have h4 : DataW.trod enc Tryz.prog w base sp held m 9 (List.take (Tryz.prog.cellsOf 9) (List.drop 9 [a0, a1, a2, a3, a4, a5, a6, a7, a8, a9])) = some y4 := hf 4 _ rfl
      rw [cellsInt] at h0 h1
      rw [cellsConf] at h2
      rw [cellsCmd] at h3
      rw [cellsStr] at h4
      obtain ⟨q, e0, -, -⟩ := DataW.trod_int Tryz.underlying3 h0
      obtain ⟨i, e1, -, wi⟩ := DataW.trod_int Tryz.underlying3 h1
      obtain ⟨c1, c2, c3, c4, e2⟩ := conf_of_trod h2
      obtain ⟨d1, d2, d3, e3, -, -, -, -⟩ := cmd_of_trod h3
      obtain ⟨s, e4, -, hs⟩ := DataW.trod_string Tryz.underlying9 h4
      simp at e0 e1 e2 e3 e4
      obtain ⟨rfl, rfl, rfl, rfl⟩ := e2
      obtain ⟨rfl, rfl, rfl⟩ := e3
      subst e0 e1 e4
      exact ⟨⟨q, i, c1, c2, c3, c4, d1, d2, d3, s⟩, rfl, hs, wi⟩
end

theorem choose_list {α : Type} {P : Nat → α → Prop} : ∀ (n : Nat), (∀ i, i < n → ∃ a, P i a) → ∃ l : List α, l.length = n ∧ ∀ j o, l[j]? = some o → P j o
  | 0, _ => ⟨[], rfl, fun j o h => by simp at h⟩
  | n + 1, h => by
    obtain ⟨l, hl, hp⟩ := choose_list n fun i hi => h i (by omega)
    obtain ⟨a, ha⟩ := h n (by omega)
    refine ⟨l ++ [a], by simp [hl], fun j o hj => ?_⟩
    rcases Nat.lt_or_ge j l.length with h1 | h1
    · rw [List.getElem?_append_left h1] at hj; exact hp j o hj
    · rw [List.getElem?_append_right h1] at hj
      have : j - l.length = 0 := by
        have := (List.getElem?_eq_some_iff.1 hj).1
        simp at this; omega
      rw [this] at hj
      simp at hj
      subst hj
      obtain rfl : j = n := by omega
      exact ha

end Go.Proofs.YtpcgnadfldimhaaGreatDoor
