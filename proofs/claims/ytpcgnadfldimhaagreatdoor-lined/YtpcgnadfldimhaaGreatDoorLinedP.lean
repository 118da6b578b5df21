/-
  The statement Lined: a cluster and its blocks; its Do, its Line.
-/
import Derived.Test.YtpcgnadfldimhaaGreatDoorAnsE
import Derived.Test.YtpcgnadfldimhaaGreatDoorSays
import Derived.Test.YtpcgnadfldimhaaGreatDoorKepH
import Derived.Test.YtpcgnadfldimhaaGreatDoorBerZ
namespace Go.Proofs.YtpcgnadfldimhaaGreatDoor
open Go.RowKit

/-- A cluster of the statements, and which blocks are its own. -/
def ClS (B bx : Nat) (L : List Job) (now : Int) (X : Nat → Prop) (w : World) : Prop := ∃ bi vr vl vh E, Prog B bx bi 8 12 30 1000000 now vr vl vh L E w ∧ ∀ k, X k ↔ progB bx bi vr vl vh k
theorem ClS.lt {B bx : Nat} {L : List Job} {now : Int} {X : Nat → Prop} {w : World} (h : ClS B bx L now X w) (k : Nat) (hk : X k) : B ≤ k ∧ k < w.heap.size := by
  obtain ⟨bi, vr, vl, vh, E, hP, hX⟩ := h
  exact hP.lt k ((hX k).1 hk)
theorem ClS.kept {B bx : Nat} {L : List Job} {now : Int} {X S : Nat → Prop} {w w' : World} (h : ClS B bx L now X w) (hK : Kept S w w') (hS : ∀ k, X k → ¬ S k) : ClS B bx L now X w' := by
  obtain ⟨bi, vr, vl, vh, E, hP, hX⟩ := h
  exact ⟨bi, vr, vl, vh, E, hP.kept hK (fun k e => hS k ((hX k).2 e)), hX⟩
theorem ClS.below {B bx : Nat} {L : List Job} {now : Int} {X : Nat → Prop} {w w' : World} (h : ClS B bx L now X w) (hb : Below w.heap.size w w') : ClS B bx L now X w' := h.kept (S := fun _ => False) (Kept.of_below hb) (fun _ _ e => e)

theorem cl_do (B bx : Nat) (L : List Job) (now : Int) (X : Nat → Prop) (a : Addr) (m : Int) (w0 : World) (hE : Env a m w0) (w : World) (h0 : Below w0.heap.size w0 w) (hB0 : w0.heap.size ≤ B) (hBw : B ≤ w.heap.size) (h : ClS B bx L now X w) (hG : Good 8 12 30 1000000 now L) (hl : L.length < 1000000000) (k x y : Int) :
    Calls Tryz.prog 16 #[.pointer (some ⟨bx, 0, none⟩), .agg #[.int .i64 k, .int .i64 x, .int .i64 y]] w fun e w' => ∃ o p1 c1 p2 c2 X', DoE 8 12 30 1000000 now L k x y o ∧ e = .returned (.agg #[.int .i64 o.err, .int .i64 o.a, .int .i64 o.b, .int .i64 o.c, .slice p1 o.rows.length c1, .slice p2 o.evs.length c2]) ∧ ClS B bx o.L o.now X' w' ∧ Kept X w w' ∧ (∀ j, X' j → X j ∨ w.heap.size ≤ j) ∧ Below w0.heap.size w0 w' := by
  obtain ⟨bi, vr, vl, vh, E, hP, hX⟩ := h
  refine (doP B bx bi 8 12 30 1000000 now vr vl vh L E a m w0 hE w h0 hB0 hBw hP hG hl k x y).mono ?_
  rintro e w' ⟨o, y1, x1, vr', vl', vh', E', hD, rfl, hY, hV, hP', hK, hN, hA⟩
  obtain ⟨q1, c1, rfl⟩ := own_slice hY
  obtain ⟨q2, c2, rfl⟩ := own_slice hV
  exact ⟨o, q1, c1, q2, c2, progB bx bi vr' vl' vh', hD, rfl, ⟨bi, vr', vl', vh', E', hP', fun _ => Iff.rfl⟩, hK.mono (fun k e => (hX k).2 e), fun j e => (hN j e).imp (hX j).2 id, h0.trans (hK.below h0.size (fun k e => by have := (hP.lt k e).1; omega))⟩

theorem cl_line (B bx : Nat) (L : List Job) (now : Int) (X : Nat → Prop) (a : Addr) (m : Int) (w0 : World) (hE : Env a m w0) (hNm : NamesE w0) (w : World) (h0 : Below w0.heap.size w0 w) (hB0 : w0.heap.size ≤ B) (hBw : B ≤ w.heap.size) (h : ClS B bx L now X w) (hG : Good 8 12 30 1000000 now L) (hp : Phases L) (hl : L.length < 1000000000) (s : ByteArray) (n : Nat) (x y : Int) (hc : Cmd s n x y) :
    Calls Tryz.prog 26 #[.pointer (some ⟨bx, 0, none⟩), .string s] w fun e w' => ∃ o X', DoE 8 12 30 1000000 now L n x y o ∧ e = .returned (.string ⟨(answerL n o).toArray⟩) ∧ ClS B bx o.L o.now X' w' ∧ Kept X w w' ∧ (∀ j, X' j → X j ∨ w.heap.size ≤ j) ∧ Below w0.heap.size w0 w' := by
  obtain ⟨bi, vr, vl, vh, E, hP, hX⟩ := h
  refine (line_cmd B bx bi 8 12 30 1000000 now vr vl vh L E a m w0 hE hNm w h0 hB0 hBw hP hG hp hl s n x y hc).mono ?_
  rintro e w' ⟨o, vr', vl', vh', E', hD, rfl, hP', hK, hN⟩
  exact ⟨o, progB bx bi vr' vl' vh', hD, rfl, ⟨bi, vr', vl', vh', E', hP', fun _ => Iff.rfl⟩, hK.mono (fun k e => (hX k).2 e), fun j e => (hN j e).imp (hX j).2 id, h0.trans (hK.below h0.size (fun k e => by have := (hP.lt k e).1; omega))⟩

/-- The errors' lines, as the statement has them. -/
def nameV : Array Value := #[.string ⟨#[]⟩, .string ⟨#[69, 82, 82, 32, 65, 82, 71, 10]⟩, .string ⟨#[69, 82, 82, 32, 87, 73, 68, 84, 72, 10]⟩, .string ⟨#[69, 82, 82, 32, 87, 65, 76, 76, 10]⟩, .string ⟨#[69, 82, 82, 32, 70, 85, 76, 76, 10]⟩, .string ⟨#[69, 82, 82, 32, 74, 79, 66, 10]⟩, .string ⟨#[69, 82, 82, 32, 80, 72, 65, 83, 69, 10]⟩, .string ⟨#[69, 82, 82, 32, 84, 73, 77, 69, 10]⟩]
theorem name_at (j : Nat) (h1 : 1 ≤ j) (h7 : j ≤ 7) : nameV[j]? = some (.string ⟨(errL j).toArray⟩) := by
  match j, h1, h7 with
  | 1, _, _ => rfl
  | 2, _, _ => rfl
  | 3, _, _ => rfl
  | 4, _, _ => rfl
  | 5, _, _ => rfl
  | 6, _, _ => rfl
  | 7, _, _ => rfl
theorem info_now : ∀ n x y, ¬ Cmd ⟨#[73, 78, 70, 79, 32, 110, 111, 119]⟩ n x y :=
  no_of ⟨#[73, 78, 70, 79, 32, 110, 111, 119]⟩ 7 (by omega) (by omega) [⟨#[110, 111, 119]⟩] (pcs_1 [73, 78, 70, 79, 32, 110, 111, 119] [73, 78, 70, 79] [110, 111, 119] rfl (by decide) (by decide)) (fun h => by simp [numsN] at h)

/-- Where a command lies. -/
def CmdL (w : World) (k x y : Int) (xq : Value) (wr : World) : Prop := ∃ xb : Nat, xq = .pointer (some ⟨xb, 0, none⟩) ∧ wr.heap[xb]? = some (.cells #[.int .i64 k, .int .i64 x, .int .i64 y] 29 (0, 0)) ∧ Below w.heap.size w wr ∧ w.heap.size ≤ xb

/-- How many line ends there are ahead of k. -/
theorem ends_step (T : List UInt8) (k : Nat) (h : k < T.length) : ends10 (T.take (k + 1)) = ends10 (T.take k) + (if T[k] = 10 then 1 else 0) := by
  unfold ends10
  rw [List.take_succ_eq_append_getElem h, List.countP_append, List.countP_cons]
  by_cases e : T[k] = 10 <;> simp [e]
theorem ends_le (T : List UInt8) : ends10 T ≤ T.length := List.countP_le_length

theorem comK_ok (s : StepV) (tk : Nat) (h : tk ≤ 1000) : rendOk (comK s tk).1 (comK s tk).2.1 (comK s tk).2.2 = true := by
  have hc := comK_kind s tk
  generalize comK s tk = c at *
  obtain ⟨k, x, y⟩ := c
  simp only at hc ⊢
  rcases hc with ⟨rfl, h⟩ | ⟨rfl, h⟩ | ⟨rfl | rfl, h⟩ <;> simp [rendOk, fitsB, numsN] <;> omega

end Go.Proofs.YtpcgnadfldimhaaGreatDoor
