/-
 Memory that is kept but for some blocks; rows that are owned, and what append leaves of them.
-/
import Derived.Test.YtpcgnadfldimhaaGreatDoorChecked
import Derived.WalkKit
import Derived.WalkSpells
import Derived.Lib.Hide
import Derived.WalkSmall
import Derived.Deep.QuietTactic
import Derived.BigQuiet
import Derived.Deep.RegionWith
import Derived.WalkLawsBesides
import Derived.RowKitTokens
import Derived.Laws.OwnMore
import Derived.OneCell
import Derived.Lib.SmallJoins
import Derived.Maps.AppendAt
import Derived.Deep.MidRow
import Derived.Deep.RegionHeld3
import Derived.Deep.AppendLies
namespace Go.Proofs.YtpcgnadfldimhaaGreatDoor
open Go.RowKit

/-- All is kept but for the blocks S, and for what is new. -/
structure Kept (S : Nat → Prop) (w w' : World) : Prop where
 os : w'.os = w.os
 tape : w'.tape = w.tape
 output : w'.output = w.output
 size : w.heap.size ≤ w'.heap.size
 block : ∀ k, k < w.heap.size → ¬ S k → w'.heap[k]? = w.heap[k]?

theorem Kept.refl (S : Nat → Prop) (w : World) : Kept S w w := ⟨rfl, rfl, rfl, Nat.le_refl _, fun _ _ _ => rfl⟩
theorem Kept.of_below {S : Nat → Prop} {w w' : World} (h : Below w.heap.size w w') : Kept S w w' := ⟨h.os, h.tape, h.output, h.size, fun k hk _ => h.block k hk⟩
theorem Kept.trans {S T : Nat → Prop} {w w' w'' : World} (h : Kept S w w') (k : Kept T w' w'') (hT : ∀ i, T i → S i ∨ w.heap.size ≤ i) : Kept S w w'' :=
 ⟨k.os.trans h.os, k.tape.trans h.tape, k.output.trans h.output, Nat.le_trans h.size k.size, fun i hi hs => (k.block i (Nat.lt_of_lt_of_le hi h.size) (fun ht => (hT i ht).elim hs (fun hh => by omega))).trans (h.block i hi hs)⟩
theorem Kept.grown {S : Nat → Prop} {w w' w'' : World} {row : Option Nat} (h : Kept S w w') (g : w'.grownBy w'' row) (hr : ∀ i, row = some i → S i ∨ w.heap.size ≤ i) : Kept S w w'' :=
 h.trans (T := fun i => row = some i) ⟨g.os, g.tape, g.output, g.size, fun k hk hs => g.block k hk (fun e => hs e.symm)⟩ hr
theorem Kept.drewN {S : Nat → Prop} {w w' : World} (h : Kept S w w') (n : Nat) : Kept S w (w'.drewN n) :=
 h.trans (T := fun _ => False) ⟨rfl, rfl, rfl, Nat.le_refl _, fun _ _ _ => rfl⟩ (fun _ e => e.elim)
theorem Kept.alloc {S : Nat → Prop} {w w' : World} (h : Kept S w w') (o : Obj) : Kept S w (w'.alloc o) :=
 h.trans (T := fun _ => False) (Kept.of_below ((Below.refl _ _).alloc (Nat.le_refl _) o)) (fun _ e => e.elim)
theorem Kept.setCell {S : Nat → Prop} {w w' : World} (h : Kept S w w') {p : Addr} (hp : S p.block ∨ w.heap.size ≤ p.block) (u : Value) : Kept S w (w'.setCell p u) :=
 h.trans (T := fun i => i = p.block) ⟨rfl, rfl, rfl, by simp, fun k _ hs => Below.heap_setCell _ _ _ k hs⟩ (fun i e => by subst e; exact hp)
theorem Kept.below {S : Nat → Prop} {w w' : World} {B : Nat} (h : Kept S w w') (hB : B ≤ w.heap.size) (hS : ∀ k, S k → B ≤ k) : Below B w w' :=
 ⟨h.os, h.tape, h.output, h.size, fun k hk => h.block k (by omega) (fun hs => by have := hS k hs; omega)⟩

theorem owns_on {base : Nat} {e : TypeId} {size : Nat} {v : Value} {n : Nat} {xs : List Value} {w w' : World} (h : w.ownsRow base e size v n xs) (hk : ∀ k, v.ownBlock = some k → w'.heap[k]? = w.heap[k]?) : w'.ownsRow base e size v n xs := by
 refine ⟨h.1, ?_⟩
 rcases h.2 with hn | ⟨g, cap, cur, rfl, hb, hgg, rest⟩
 ·exact .inl hn
 ·exact .inr ⟨g, cap, cur, rfl, hb, (hk g rfl).trans hgg, rest⟩

/-- What was just laid reads as it was laid. -/
theorem news_at (W : World) (cs : Array Value) (t : TypeId) (b : Nat) (hb : W.heap.size = b) (j : Nat) (u : Value) (h : cs.toList[j]? = some u) : (W.alloc (.cells cs t)).cell? ((⟨b, 0, none⟩ : Addr).add j) = some u := by
 subst hb
 have e := cell_of_row _ _ j cs t (0, 0) (heap_alloc_new W (.cells cs t))
 rw [Addr.add_lit, Nat.zero_add, e]
 simpa using h

theorem own_forms {w : World} {base size n : Nat} {e : TypeId} {v : Value} {xs : List Value} (h : w.ownsRow base e size v n xs) : (v = .slice none 0 0 ∧ n = 0) ∨ ∃ g cap, v = .slice (some ⟨g, 0, none⟩) n cap :=
 h.2.elim Or.inl (fun ⟨g, cap, _, e, _⟩ => Or.inr ⟨g, cap, e⟩)

theorem owns_mono {w : World} {base base' : Nat} {e : TypeId} {size : Nat} {v : Value} {n : Nat} {xs : List Value} (h : w.ownsRow base e size v n xs) (hb : base' ≤ base) : w.ownsRow base' e size v n xs :=
 ⟨h.1, h.2.elim Or.inl (fun ⟨g, cap, cur, a, b, r⟩ => Or.inr ⟨g, cap, cur, a, Nat.le_trans hb b, r⟩)⟩

theorem own_slice {w : World} {base size n : Nat} {e : TypeId} {v : Value} {xs : List Value} (h : w.ownsRow base e size v n xs) : ∃ p c, v = .slice p n c := by
 rcases own_forms h with ⟨rfl, rfl⟩ | ⟨g, cap, rfl⟩
 ·exact ⟨_, _, rfl⟩
 ·exact ⟨_, _, rfl⟩

theorem alloc_at (W : World) (o : Obj) (b : Nat) (hb : W.heap.size = b) : (W.alloc o).heap[b]? = some o := by
 subst hb
 exact heap_alloc_new W o

theorem Kept.drew {S : Nat → Prop} {w w' : World} (h : Kept S w w') : Kept S w w'.drew :=
 h.trans (T := fun _ => False) ⟨rfl, rfl, rfl, Nat.le_refl _, fun _ _ _ => rfl⟩ (fun _ e => e.elim)
theorem append_parts {P : Program} (w : World) (t ty : TypeId) (base : Nat) (e : TypeId) (i : TypeInfo) (z : Value) (size bytes : Nat) (ht : P.underlying t = some (.slice e)) (hi : P.info? e = some i) (hz : i.zero = some z)
  (hsize : i.size = size) (hby : i.bytes = bytes) (hzs : z.cells.size = size) (hsz : 0 < size)
  (v : Value) (n : Nat) (xs : List Value) (hown : w.ownsRow base e size v n xs)
  (ad : Addr) (m c : Nat) (news : List Value) (hl : news.length = m * size) (hnews : ∀ j u, news[j]? = some u → w.cell? (ad.add j) = some u) (h1 : ∀ u ∈ news, u.oneCell' = true)
  (hm : 0 < m) (h63 : n + m ≤ maxLen) (hbytes : (n + m) * bytes ≤ 140737488355328) (hbase : base ≤ w.heap.size) :
  ∃ g cap w', (Builtin.append_ #[t, t] ty #[v, .slice (some ad) m c]).run P w = .ok (.slice (some ⟨g, 0, none⟩) (n + m) cap) w' ∧
   w'.ownsRow base e size (.slice (some ⟨g, 0, none⟩) (n + m) cap) (n + m) (xs ++ news) ∧ ((v = .slice (some ⟨g, 0, none⟩) n cap ∧ w.grownBy w' (some g)) ∨ (g = w.heap.size ∧ w.grownBy w' none)) := by
 obtain ⟨v', w', hr, ho, hg, _, _⟩ := run_append_own_at (P := P) w base t ty e i z size bytes ht hi hz hsize hby hzs hsz v n xs hown ad m c news hl hnews h1 h63 hbytes hbase
 have hnew : ∀ o, w.grownBy (w.drew.alloc o) none := fun o => ⟨rfl, rfl, rfl, by simp, fun k hk _ => Below.heap_alloc w.drew _ k hk⟩
 subst hsize
 subst hby
 have hsmall : n + m ≤ 9223372036854775807 := by simp only [maxLen] at h63; omega
 rcases hown.2 with ⟨rfl, rfl⟩ | ⟨g, cap, cur, rfl, hbg, hgg, hnc, hcm, hcs, htake⟩
 ·have hr2 := run_append_nil (P := P) w t ty e i z ht hi hz ad m c news hl hnews hm (by omega) (by have hb := hbytes; simp only [Nat.zero_add] at hb; omega)
  rw [hr] at hr2
  injection hr2 with h2 h3
  subst h2 h3
  refine ⟨_, _, _, by rw [Nat.zero_add]; exact hr, by simpa using ho, Or.inr ⟨rfl, hnew _⟩⟩
 ·by_cases hroom : n + m ≤ cap
  ·obtain ⟨w2, hr2, ho2, hg2⟩ := run_append_fits (P := P) w base t ty e i i.size ht hi rfl g n cap xs hown ad m c news hl hnews h1 hroom
   exact ⟨g, cap, w2, hr2, ho2, Or.inl ⟨rfl, hg2⟩⟩
  ·have hr2 := run_append_grow (P := P) w t ty e i z ht hi hz ⟨g, 0, none⟩ n cap xs hown.1 (hown.cells (g := g) rfl) ad m c news hl hnews (by omega) (by omega) (growslice_fits (by omega) hbytes)
   rw [hr] at hr2
   injection hr2 with h2 h3
   subst h2 h3
   exact ⟨_, _, _, hr, ho, Or.inr ⟨rfl, hnew _⟩⟩

theorem wpList_append_parts {P : Program} (w : World) {ops : Array Oper} {rest : List Oper} {o : Oper} {a : Act} {Q : Exit → Act → World → Prop} (hgd : o.guard = none) (s x : Operand) (t : TypeId)
  (ho : o.op = .call { callee := .builtin .append, args := #[s, x], argTypes := #[t, t] })
  (base : Nat) (e : TypeId) (i : TypeInfo) (z : Value) (size bytes : Nat) (ht : P.underlying t = some (.slice e)) (hi : P.info? e = some i) (hz : i.zero = some z)
  (hsize : i.size = size) (hby : i.bytes = bytes) (hzs : z.cells.size = size) (hsz : 0 < size)
  (v : Value) (n : Nat) (xs : List Value) (hs : a.eval s = v) (hown : w.ownsRow base e size v n xs)
  (ad : Addr) (m c : Nat) (news : List Value) (hx : a.eval x = .slice (some ad) m c) (hl : news.length = m * size) (hnews : ∀ j u, news[j]? = some u → w.cell? (ad.add j) = some u) (h1 : ∀ u ∈ news, u.oneCell' = true)
  (hm : 0 < m) (h63 : n + m ≤ maxLen) (hbytes : (n + m) * bytes ≤ 140737488355328) (hbase : base ≤ w.heap.size) (H : Nat) (hH : w.heap.size = H)
  (h : ∀ g cap w', w'.ownsRow base e size (.slice (some ⟨g, 0, none⟩) (n + m) cap) (n + m) (xs ++ news) → ((v = .slice (some ⟨g, 0, none⟩) n cap ∧ w.grownBy w' (some g)) ∨ (g = H ∧ w.grownBy w' none)) → wpList P ops Q rest (a.put o.dst (.slice (some ⟨g, 0, none⟩) (n + m) cap)) w') : wpList P ops Q (o :: rest) a w := by
 subst hH
 refine wpList_plain hgd fun K hK => ?_
 obtain ⟨g, cap, w', hr, h2, h3⟩ := append_parts (P := P) w t o.type base e i z size bytes ht hi hz hsize hby hzs hsz v n xs hown ad m c news hl hnews h1 hm h63 hbytes hbase
 unfold Oper.wp execOp
 simp only [ho, resolve, invoke, builtin, Sem.run_bind, Sem.run_pure, Result.andThen_ok, List.map_toArray, List.map_cons, List.map_nil, hs, hx, hr]
 exact hK _ _ (h g cap w' h2 h3)

/-- Behind such an append the old slice owns what it owned. -/
theorem owns_append {w w' : World} {base : Nat} {e : TypeId} {size : Nat} {v : Value} {n k g cap H : Nat} {xs news : List Value} (h : w.ownsRow base e size v n xs) (ho : w'.ownsRow base e size (.slice (some ⟨g, 0, none⟩) (n + k) cap) (n + k) (xs ++ news))
  (hp : (v = .slice (some ⟨g, 0, none⟩) n cap ∧ w.grownBy w' (some g)) ∨ (g = H ∧ w.grownBy w' none)) : w'.ownsRow base e size v n xs := by
 rcases hp with ⟨rfl, _⟩ | ⟨_, hg⟩
 ·refine ⟨h.1, Or.inr ?_⟩
  rcases ho.2 with ⟨e2, _⟩ | ⟨g', cap', cur, e2, hb, hg, hnc, hcm, hcs, htake⟩
  ·simp at e2
  ·simp only [Value.slice.injEq, Option.some.injEq, Addr.mk.injEq, and_true, true_and] at e2
   obtain ⟨rfl, rfl⟩ := e2
   refine ⟨g, cap, cur, rfl, hb, hg, by omega, hcm, hcs, ?_⟩
   have h2 : (cur.toList.take ((n + k) * size)).take (n * size) = (xs ++ news).take (n * size) := by rw [htake]
   rw [List.take_take, Nat.min_eq_left (Nat.mul_le_mul_right _ (by omega)), ← h.1, List.take_left] at h2
   rw [← h.1]
   exact h2
 ·exact owns_on h (fun b e2 => hg.block b (h.lt b e2).2 (by simp))

/-- .. and all but the old block is kept. -/
theorem Kept.parts {S : Nat → Prop} {w0 w w' : World} {v : Value} {n g cap H : Nat} (h : Kept S w0 w) (hp : (v = .slice (some ⟨g, 0, none⟩) n cap ∧ w.grownBy w' (some g)) ∨ (g = H ∧ w.grownBy w' none)) (hv : ∀ k, v.ownBlock = some k → S k ∨ w0.heap.size ≤ k) : Kept S w0 w' := by
 rcases hp with ⟨rfl, hg⟩ | ⟨_, hg⟩
 ·exact h.grown hg (fun i e => by simp at e; subst e; exact hv g rfl)
 ·exact h.grown hg (fun i e => by simp at e)

/-- Rows of two kinds lie in two blocks. -/
theorem owns_apart {w : World} {b1 b2 s1 s2 n1 n2 : Nat} {e1 e2 : TypeId} {v1 v2 : Value} {x1 x2 : List Value} (h1 : w.ownsRow b1 e1 s1 v1 n1 x1) (h2 : w.ownsRow b2 e2 s2 v2 n2 x2) (hne : e1 ≠ e2) (k : Nat) (a : v1.ownBlock = some k) : v2.ownBlock ≠ some k := fun b => by
 rcases h1.2 with ⟨rfl, _⟩ | ⟨g1, c1, u1, rfl, _, q1, _⟩
 ·simp [Value.ownBlock] at a
 ·rcases h2.2 with ⟨rfl, _⟩ | ⟨g2, c2, u2, rfl, _, q2, _⟩
  ·simp [Value.ownBlock] at b
  ·simp [Value.ownBlock] at a b
   subst a b
   rw [q1] at q2
   simp at q2
   exact hne q2.2
theorem owns_not {w : World} {b1 s1 n1 : Nat} {e1 e2 : TypeId} {v1 : Value} {x1 : List Value} {k : Nat} {cs : Array Value} (h1 : w.ownsRow b1 e1 s1 v1 n1 x1) (h2 : w.heap[k]? = some (.cells cs e2 (0, 0))) (hne : e1 ≠ e2) : v1.ownBlock ≠ some k := fun a => by
 rcases h1.2 with ⟨rfl, _⟩ | ⟨g1, c1, u1, rfl, _, q1, _⟩
 ·simp [Value.ownBlock] at a
 ·simp [Value.ownBlock] at a
  subst a
  rw [q1] at h2
  simp at h2
  exact hne h2.2

theorem vint {k : IntKind} {a b : Int} (h : a = b) : Value.int k a = Value.int k b := by rw [h]
theorem cellUp {w : World} {p : Addr} {v : Value} (h : w.cell? p = some v) (o : Obj) : (w.alloc o).cell? p = some v := Lib.cell?_alloc_marked o h

end Go.Proofs.YtpcgnadfldimhaaGreatDoor
namespace Go.Proofs.YtpcgnadfldimhaaGreatDoor
open Go.RowKit

def gfl {α : Type} (c : α → List Value) (l : List α) : List Value := l.flatMap c
theorem gfl_len {α : Type} (c : α → List Value) (s : Nat) (hs : ∀ a, (c a).length = s) : ∀ l : List α, (gfl c l).length = l.length * s
 | [] => by simp [gfl]
 | a :: r => by
  have ih := gfl_len c s hs r
  simp only [gfl, List.flatMap_cons, List.length_append, List.length_cons] at ih ⊢
  rw [ih, hs, Nat.add_mul]
  omega
theorem gfl_split {α : Type} (c : α → List Value) (s : Nat) (hs : ∀ a, (c a).length = s) : ∀ (l : List α) (i : Nat) (a : α), l[i]? = some a → ∃ pre post, gfl c l = pre ++ (c a ++ post) ∧ pre.length = i * s ∧ ∀ a', gfl c (l.set i a') = pre ++ (c a' ++ post)
 | [], i, a, h => by simp at h
 | x :: r, 0, a, h => by
  simp at h
  subst h
  exact ⟨[], gfl c r, by simp [gfl], by simp, fun a' => by simp [gfl]⟩
 | x :: r, i + 1, a, h => by
  obtain ⟨pre, post, h1, h2, h3⟩ := gfl_split c s hs r i a (by simpa using h)
  refine ⟨c x ++ pre, post, ?_, ?_, fun a' => ?_⟩
  ·simp only [gfl, List.flatMap_cons] at h1 ⊢
   rw [h1, List.append_assoc]
  ·rw [List.length_append, hs, h2, Nat.add_mul]
   omega
  ·have := h3 a'
   simp only [gfl, List.set_cons_succ, List.flatMap_cons] at this ⊢
   rw [this, List.append_assoc]
theorem gfl_at {α : Type} (c : α → List Value) (s : Nat) (hs : ∀ a, (c a).length = s) (l : List α) (i : Nat) (a : α) (h : l[i]? = some a) (t : Nat) (ht : t < s) : (gfl c l)[i * s + t]? = (c a)[t]? := by
 obtain ⟨pre, post, h1, h2, _⟩ := gfl_split c s hs l i a h
 rw [h1, List.getElem?_append_right (by omega), List.getElem?_append_left (by rw [hs]; omega)]
 congr 1
 omega
theorem gfl_set1 {α : Type} (c : α → List Value) (s : Nat) (hs : ∀ a, (c a).length = s) (l : List α) (i : Nat) (a a' : α) (h : l[i]? = some a) (t : Nat) (ht : t < s) (u : Value) (e : (c a).set t u = c a') : (gfl c l).set (i * s + t) u = gfl c (l.set i a') := by
 obtain ⟨pre, post, h1, h2, h3⟩ := gfl_split c s hs l i a h
 rw [h1, h3 a', List.set_append_right _ _ (by omega), List.set_append_left _ _ (by rw [hs]; omega), ← e]
 congr 3
 omega
theorem set_at (pre r : List Value) (x u : Value) (k : Nat) (h : k = pre.length) : (pre ++ x :: r).set k u = (pre ++ [u]) ++ r := by
 subst h
 rw [List.set_append_right _ _ (Nat.le_refl _)]
 simp
theorem gfl_set4 {α : Type} (c : α → List Value) (hs : ∀ a, (c a).length = 4) (l : List α) (i : Nat) (a a' : α) (h : l[i]? = some a) (y0 y1 y2 y3 : Value) (e : c a' = [y0, y1, y2, y3]) : ((((gfl c l).set (i * 4) y0).set (i * 4 + 1) y1).set (i * 4 + 2) y2).set (i * 4 + 3) y3 = gfl c (l.set i a') := by
 obtain ⟨pre, post, h1, h2, h3⟩ := gfl_split c 4 hs l i a h
 rw [h1, h3 a', e]
 match c a, hs a with
 | [x0, x1, x2, x3], _ =>
  rw [List.cons_append, set_at pre _ x0 y0 _ (by omega), List.cons_append, set_at _ _ x1 y1 _ (by simp; omega), List.cons_append, set_at _ _ x2 y2 _ (by simp; omega), List.cons_append, set_at _ _ x3 y3 _ (by simp; omega)]
  simp
theorem gfl_set2 {α : Type} (c : α → List Value) (hs : ∀ a, (c a).length = 2) (l : List α) (i : Nat) (a a' : α) (h : l[i]? = some a) (y0 y1 : Value) (e : c a' = [y0, y1]) : ((gfl c l).set (i * 2) y0).set (i * 2 + 1) y1 = gfl c (l.set i a') := by
 obtain ⟨pre, post, h1, h2, h3⟩ := gfl_split c 2 hs l i a h
 rw [h1, h3 a', e]
 match c a, hs a with
 | [x0, x1], _ =>
  rw [List.cons_append, set_at pre _ x0 y0 _ (by omega), List.cons_append, set_at _ _ x1 y1 _ (by simp; omega)]
  simp
theorem gfl_take {α : Type} (c : α → List Value) (s : Nat) (hs : ∀ a, (c a).length = s) : ∀ (l : List α) (m : Nat), (gfl c l).take (m * s) = gfl c (l.take m)
 | [], m => by simp [gfl]
 | a :: r, 0 => by simp [gfl]
 | a :: r, m + 1 => by
  have ih := gfl_take c s hs r m
  simp only [gfl, List.flatMap_cons, List.take_succ_cons] at ih ⊢
  rw [← ih, List.take_append, hs, List.take_of_length_le (by rw [hs, Nat.add_mul]; omega)]
  congr 2
  rw [Nat.add_mul]
  omega
theorem gfl_append {α : Type} (c : α → List Value) (l m : List α) : gfl c (l ++ m) = gfl c l ++ gfl c m := by simp [gfl]

/-- A slice of an owned row that ends earlier. -/
theorem owns_take {w : World} {base : Nat} {e : TypeId} {size g cap n m : Nat} {xs : List Value} (h : w.ownsRow base e size (.slice (some ⟨g, 0, none⟩) n cap) n xs) (hm : m ≤ n) : w.ownsRow base e size (.slice (some ⟨g, 0, none⟩) m cap) m (xs.take (m * size)) := by
 refine ⟨?_, Or.inr ?_⟩
 ·rw [List.length_take, h.1]
  exact Nat.min_eq_left (Nat.mul_le_mul_right _ hm)
 ·rcases h.2 with ⟨e2, _⟩ | ⟨g', cap', cur, e2, hb, hg, hnc, hcm, hcs, htake⟩
  ·simp at e2
  ·simp only [Value.slice.injEq, Option.some.injEq, Addr.mk.injEq, and_true, true_and] at e2
   obtain ⟨rfl, rfl⟩ := e2
   refine ⟨g, cap, cur, rfl, hb, hg, by omega, hcm, hcs, ?_⟩
   rw [← htake, List.take_take, Nat.min_eq_left (Nat.mul_le_mul_right _ hm)]

/-- The elements lie in the row that p points at. -/
def Laid {α : Type} (c : α → List Value) (s : Nat) (w : World) (p : Option Addr) (l : List α) : Prop := ∀ i a, l[i]? = some a → ∃ b, p = some ⟨b, 0, none⟩ ∧ w.rangeAt b (i * s) (c a)
theorem Laid.on {α : Type} {c : α → List Value} {s : Nat} {w w' : World} {p : Option Addr} {l : List α} (h : Laid c s w p l) (hb : Below w.heap.size w w') : Laid c s w' p l := fun i a ha => by
 obtain ⟨b, hp, hr⟩ := h i a ha
 exact ⟨b, hp, fun t v hv => (hb.cell (block_lt_of_cell (hr t v hv))).trans (hr t v hv)⟩
theorem owns_laid {α : Type} {c : α → List Value} {s : Nat} (hs : ∀ a, (c a).length = s) {w : World} {base : Nat} {e : TypeId} {p : Option Addr} {n cap : Nat} {l : List α} (h : w.ownsRow base e s (.slice p n cap) n (gfl c l)) (hn : n = l.length) : Laid c s w p l := fun i a ha => by
 have hi := (List.getElem?_eq_some_iff.1 ha).1
 rcases own_forms h with ⟨_, h0⟩ | ⟨g, c2, e2⟩
 ·omega
 ·obtain ⟨rfl, _, rfl⟩ := Value.slice.inj e2
  refine ⟨g, rfl, fun t v hv => ?_⟩
  have ht : t < s := by have := (List.getElem?_eq_some_iff.1 hv).1; rw [hs] at this; exact this
  have hlt : i * s + t < n * s := by
   have : (i + 1) * s ≤ n * s := Nat.mul_le_mul_right _ (by omega)
   rw [Nat.add_mul] at this
   omega
  rw [h.cellAt (i * s + t) hlt, gfl_at c s hs l i a ha t ht]
  exact hv

end Go.Proofs.YtpcgnadfldimhaaGreatDoor
namespace Go.Proofs.YtpcgnadfldimhaaGreatDoor
open Go.RowKit

/-- A refusal of package cluster: a CallError at block pa around a ValueError around the sentinel at p. -/
def RefV (w : World) (pa : Nat) (p : Addr) : Prop := ∃ pb, w.cell? ⟨pa, 1, none⟩ = some (.iface 178 (.pointer (some ⟨pb, 0, none⟩))) ∧ w.cell? ⟨pb, 2, none⟩ = some (.iface 315 (.pointer (some p)))
/-- .. or around a JobError. -/
def RefJ (w : World) (pa : Nat) : Prop := ∃ c, w.cell? ⟨pa, 1, none⟩ = some (.iface 115 (.pointer (some c)))
theorem RefV.on {w w' : World} {pa : Nat} {p : Addr} (h : RefV w pa p) (hb : Below w.heap.size w w') : RefV w' pa p := by
 obtain ⟨pb, h1, h2⟩ := h
 exact ⟨pb, (hb.cell (block_lt_of_cell h1)).trans h1, (hb.cell (block_lt_of_cell h2)).trans h2⟩
theorem RefJ.on {w w' : World} {pa : Nat} (h : RefJ w pa) (hb : Below w.heap.size w w') : RefJ w' pa := by
 obtain ⟨c, h1⟩ := h
 exact ⟨c, (hb.cell (block_lt_of_cell h1)).trans h1⟩

end Go.Proofs.YtpcgnadfldimhaaGreatDoor
