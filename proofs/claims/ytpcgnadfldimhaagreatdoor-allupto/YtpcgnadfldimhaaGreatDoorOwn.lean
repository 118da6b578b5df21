/-
 OF NO PROGRAM: a row of bytes that the call has made, whatever mark lies behind its last cell: '[]byte(s)', append onto it, 'string(b)'.
-/
import Derived.Deep.AppendSrc
import Derived.Deep.Upon
import Derived.Lib.ConvBytes
import Derived.Laws.IdiomStrings
import Derived.Below
import Derived.WalkSmall
import Derived.Lib.UnsafeStr
namespace Go.Proofs.YtpcgnadfldimhaaGreatDoor
open Go.RowKit

/-- The slice v of n bytes, from block B on: its cells are xs; behind them, up to the capacity, there are cells that may be written. -/
def Mine (w : World) (B : Nat) (v : Value) (n : Nat) (xs : List Value) : Prop :=
 ∃ g cap, v = .slice (some ⟨g, 0, none⟩) n cap ∧ B ≤ g ∧ xs.length = n ∧ (∀ j u, xs[j]? = some u → w.cell? ⟨g, j, none⟩ = some u) ∧
  (∀ j, n ≤ j → j < cap → (w.cell? ⟨g, j, none⟩).isSome = true ∧ w.frozen? ⟨g, j, none⟩ = false)

theorem lt_of_isSome {w : World} {g j : Nat} (h : (w.cell? ⟨g, j, none⟩).isSome = true) : g < w.heap.size := by
 rcases Nat.lt_or_ge g w.heap.size with h' | h'
 ·exact h'
 ·simp [World.cell?, Array.getElem?_eq_none h'] at h

theorem Mine.on {w w' : World} {B : Nat} {v : Value} {n : Nat} {xs : List Value} (h : Mine w B v n xs) (hb : Below w.heap.size w w') : Mine w' B v n xs := by
 obtain ⟨g, cap, rfl, h1, h2, h3, h4⟩ := h
 refine ⟨g, cap, rfl, h1, h2, fun j u hj => ?_, fun j hj hc => ?_⟩
 ·have hx := h3 j u hj
  exact (hb.cell (lt_of_isSome (by rw [hx]; rfl))).trans hx
 ·obtain ⟨a, b⟩ := h4 j hj hc
  have hlt := lt_of_isSome a
  exact ⟨by rw [hb.cell (p := ⟨g, j, none⟩) hlt]; exact a, by rw [hb.frozen (p := ⟨g, j, none⟩) hlt]; exact b⟩

theorem Mine.mono {w : World} {B B' : Nat} {v : Value} {n : Nat} {xs : List Value} (h : Mine w B v n xs) (hb : B' ≤ B) : Mine w B' v n xs := by
 obtain ⟨g, cap, h0, h1, h2⟩ := h
 exact ⟨g, cap, h0, Nat.le_trans hb h1, h2⟩

theorem below_setCells {B : Nat} {w : World} {g : Nat} (hg : B ≤ g) : ∀ (vs : List Value) (o : Nat), Below B w (w.setCells g o vs) := by
 intro vs o
 have hk := World.keptBut_setCells g (may := fun _ => True) vs o w (fun _ _ => trivial)
 have hsz : ∀ (vs : List Value) (o : Nat) (w : World), (w.setCells g o vs).heap.size = w.heap.size ∧ (w.setCells g o vs).tape = w.tape ∧ ∀ k, k ≠ g → (w.setCells g o vs).heap[k]? = w.heap[k]? := by
  intro vs
  induction vs with
  | nil => intro o w; exact ⟨rfl, rfl, fun _ _ => rfl⟩
  | cons v r ih =>
   intro o w
   obtain ⟨a, b, c⟩ := ih (o + 1) (w.setCell ⟨g, o, none⟩ v)
   refine ⟨a.trans (by simp), b.trans rfl, fun k hk => (c k hk).trans (heap_setCell_other w _ k v hk)⟩
 obtain ⟨a, b, c⟩ := hsz vs o w
 exact ⟨hk.1, b, hk.2.1, Nat.le_of_eq a.symm, fun k hkB => c k (by omega)⟩

variable {P : Program}

theorem wpList_append_mine {w : World} {ops : Array Oper} {rest : List Oper} {o : Oper} {a : Act} {Q : Exit → Act → World → Prop} (hg : o.guard = none) (s x : Operand) (t tx : TypeId)
  (hop : o.op = Op.call { callee := Callee.builtin Builtin.append, args := #[s, x], argTypes := #[t, tx] })
  (e : TypeId) (i : TypeInfo) (ht : P.underlying t = some (.slice e)) (hi : P.info? e = some i) (hz : i.zero = some (.int .u8 0)) (hsize : i.size = 1) (hby : i.bytes = 1)
  (B n : Nat) (v : Value) (xs : List Value) (hs : a.eval s = v) (hown : Mine w B v n xs) (xv : Value) (hx : a.eval x = xv) (m : Nat) (news : List Value) (hsrc : Src P 1 tx xv m news w)
  (hB : B ≤ w.heap.size) (hlim : n + m ≤ 100000000000000)
  (h : ∀ v' w', Mine w' B v' (n + m) (xs ++ news) → Below B w w' → wpList P ops Q rest (a.put o.dst v') w') : wpList P ops Q (o :: rest) a w := by
 refine wpList_plain hg fun K hK => ?_
 obtain ⟨g, cap, rfl, hBg, hl, hcs, hsp⟩ := hown
 have hnl : news.length = m := by have := hsrc.newsLen; omega
 by_cases hr : n + m ≤ cap
 ·have hrun := run_append_room_src (P := P) w t tx o.type e i ht hi g 0 n cap xv m news (by rw [hsize]; exact hsrc) hr
   (fun j hj => by rw [hsize, Nat.mul_one, Nat.zero_add]; exact (hsp (n + j) (by omega) (by omega)).1) (fun j hj => by rw [hsize, Nat.mul_one, Nat.zero_add]; exact (hsp (n + j) (by omega) (by omega)).2)
  rw [hsize, Nat.mul_one, Nat.zero_add] at hrun
  unfold Oper.wp
  simp [execOp, hop, resolve, invoke, builtin, hs, hx, hrun, Result.andThen]
  refine hK _ _ (h _ _ ⟨g, cap, rfl, hBg, by simp; omega, fun j u hj => ?_, fun j hj hc => ?_⟩ (below_setCells hBg _ _))
  ·rcases Nat.lt_or_ge j n with hjn | hjn
   ·rw [World.cell?_setCells_out g news n w ⟨g, j, none⟩ (fun _ _ => Or.inl hjn)]
    exact hcs j u (by rw [List.getElem?_append_left (by omega)] at hj; exact hj)
   ·rw [List.getElem?_append_right (by omega), hl] at hj
    have hlt := (List.getElem?_eq_some_iff.1 hj).1
    have hin := World.cell?_setCells_in g news n w (fun k hk => (hsp (n + k) (by omega) (by omega)).1) (j - n) hlt
    rw [show n + (j - n) = j from by omega] at hin
    rw [hin]
    rw [List.getElem?_eq_getElem hlt] at hj
    exact hj
  ·rw [World.cell?_setCells_out g news n w ⟨g, j, none⟩ (fun _ _ => Or.inr (by simp; omega)), World.frozen?_setCells]
   exact hsp j (by omega) hc
 ·have hge := grownCap_ge w (n + m) cap e
  have hrun := run_append_grow_src (P := P) w t tx o.type e i (.int .u8 0) ht hi hz (some ⟨g, 0, none⟩) n cap xs (by rw [hsize]; exact run_firstCells_some w.drew 1 n ⟨g, 0, none⟩ n cap xs (by omega) (fun j u hj => by rw [Addr.add_lit]; simpa using hcs j u hj)) xv m news (by rw [hsize]; exact hsrc) (by omega) (by omega)
   (growslice_fits (by omega) (by rw [hby]; omega))
  unfold Oper.wp
  simp [execOp, hop, resolve, invoke, builtin, hs, hx, hrun, Result.andThen, -World.alloc_eq, -World.drew_eq]
  have hn := heap_alloc_new w.drew (.cells ((xs ++ news).toArray ++ Builtin.zeroCells (Value.int .u8 0).cells (grownCap w (n + m) cap e - (n + m))) e)
  have hc := fun j => cell_of_row (w.drew.alloc (.cells ((xs ++ news).toArray ++ Builtin.zeroCells (Value.int .u8 0).cells (grownCap w (n + m) cap e - (n + m))) e)) w.heap.size j _ e (0, 0) hn
  have hf := fun j => frozen_of_row (w.drew.alloc (.cells ((xs ++ news).toArray ++ Builtin.zeroCells (Value.int .u8 0).cells (grownCap w (n + m) cap e - (n + m))) e)) w.heap.size j _ e hn
  refine hK _ _ (h _ _ ⟨w.heap.size, _, rfl, hB, by simp; omega, fun j u hj => ?_, fun j hj hcc => ⟨?_, hf j⟩⟩ ((below_drewN (n := 1) (Below.refl B w)).alloc hB _))
  ·rw [hc j]
   have hlt := (List.getElem?_eq_some_iff.1 hj).1
   rw [Array.getElem?_append_left (by simpa using hlt)]
   simpa using hj
  ·rw [hc j]
   simp [Builtin.zeroCells, Value.cells]
   omega

theorem wpList_bytes_mine {w : World} {ops : Array Oper} {rest : List Oper} {o : Oper} {a : Act} {Q : Exit → Act → World → Prop} (hg : o.guard = none) (src dst e : TypeId) (x : Operand) (hop : o.op = .convert src dst x) (s : ByteArray) (hx : a.eval x = .string s)
  {u : TypeDesc} (hs : P.underlying src = some u) (hd : P.underlying dst = some (.slice e)) (he : P.underlying e = some (.int .u8))
  (h : ∀ v' w', Mine w' w.heap.size v' s.size (byteCells s) → Below w.heap.size w w' → wpList P ops Q rest (a.put o.dst v') w') : wpList P ops Q (o :: rest) a w := by
 refine wpList_plain hg fun K hK => ?_
 have hrun := Lib.run_convert_string_bytes (P := P) w src dst e s hs hd he
 unfold Oper.wp execOp
 simp only [hop, hx, Sem.run_bind, hrun, Result.andThen_ok]
 have hge := grownCap_ge w s.size 0 e
 have hsz : (Lib.bytesCells w e s).size = grownCap w s.size 0 e := by
  simp [Lib.bytesCells]
  have : s.data.size = s.size := rfl
  omega
 have hn := Lib.bytesWorld_at_new w e s
 refine hK _ _ (h _ _ ⟨w.heap.size, _, rfl, Nat.le_refl _, byteCells_length s, fun j u hj => ?_, fun j hj hc => ⟨?_, ?_⟩⟩ ⟨rfl, rfl, rfl, by rw [Lib.bytesWorld_size]; omega, fun k hk => Lib.bytesWorld_at_old w e s k hk⟩)
 ·have hlt := (List.getElem?_eq_some_iff.1 hj).1
  rw [byteCells_length] at hlt
  rw [Lib.bytesWorld_cell w e s j hlt, ← hj]
  simp [byteCells, List.getD, hlt]
 ·have hq : (Lib.bytesWorld w e s).cell? ⟨w.heap.size, j, none⟩ = (Lib.bytesCells w e s)[j]? := by simp [World.cell?, hn]
  rw [hq]
  simp [hsz, hc]
 ·have : ¬ (Lib.bytesCells w e s).size ≤ j := by omega
  simp [World.frozen?, hn, this]

/-- 'string(b)'. -/
theorem run_string_mine {w : World} {B : Nat} {v : Value} {n : Nat} {l : List UInt8} (h : Mine w B v n (Lib.byteCells l)) (src dst e : TypeId) (hs : P.underlying src = some (.slice e)) (he : P.underlying e = some (.int .u8)) (hd : P.underlying dst = some .string) :
  (convert src dst v).run P w = .ok (.string ⟨l.toArray⟩) w := by
 obtain ⟨g, cap, rfl, _, hl, hc, _⟩ := h
 rw [Lib.byteCells_length] at hl
 subst hl
 exact run_convert_bytes_back (P := P) w src dst e ⟨g, 0, none⟩ cap l hs he hd (fun j hj => by rw [Addr.add_lit, Nat.zero_add]; exact hc j _ (by simp [Lib.byteCells, hj]))

end Go.Proofs.YtpcgnadfldimhaaGreatDoor
