/-
 berth's do: what it answers is what the document's Do answers, and the cluster behind it.
-/
import Derived.Test.YtpcgnadfldimhaaGreatDoorBerX
import Derived.Test.YtpcgnadfldimhaaGreatDoorSchB
import Derived.Test.YtpcgnadfldimhaaGreatDoorEarZ
import Derived.Test.YtpcgnadfldimhaaGreatDoorMemG
namespace Go.Proofs.YtpcgnadfldimhaaGreatDoor
open Go.RowKit

/-- An error value that errnoOf calls r. -/
def ErrIs (a p1 p2 p3 p4 p5 : Addr) (err : Value) (r : Int) (w : World) : Prop :=
 (r = 0 ∧ err = .nilIface) ∨ (r = 1 ∧ ∃ b, err = .iface 209 (.pointer (some ⟨b, 0, none⟩)) ∧ Refusal a b w) ∨
 (∃ pa, err = .iface 160 (.pointer (some ⟨pa, 0, none⟩)) ∧ ((r = 2 ∧ RefV w pa p1) ∨ (r = 3 ∧ RefV w pa p2) ∨ (r = 4 ∧ RefV w pa p3) ∨ (r = 7 ∧ RefV w pa p4) ∨ (r = 5 ∧ RefJ w pa) ∨ (r = 6 ∧ RefV w pa p5)))

theorem errno_any (a p1 p2 p3 p4 p5 : Addr) (err : Value) (r : Int) (w : World) (hA : Asks a p1 p2 p3 p4 p5 w) (h : ErrIs a p1 p2 p3 p4 p5 err r w) :
  Calls Tryz.prog 34 #[err] w fun e w' => e = .returned (.int .i64 r) ∧ Below w.heap.size w w' := by
 rcases h with ⟨rfl, rfl⟩ | ⟨rfl, b, rfl, hb⟩ | ⟨pa, rfl, ⟨rfl, h⟩ | ⟨rfl, h⟩ | ⟨rfl, h⟩ | ⟨rfl, h⟩ | ⟨rfl, h⟩ | ⟨rfl, h⟩⟩
 ·exact errno_nil w
 ·exact errno_bad a b w ⟨p1, p2, p3, p4, p5, hA⟩ hb
 ·exact errno_v1 a p1 p2 p3 p4 p5 pa w hA h
 ·exact errno_v2 a p1 p2 p3 p4 p5 pa w hA h
 ·exact errno_v3 a p1 p2 p3 p4 p5 pa w hA h
 ·exact errno_v4 a p1 p2 p3 p4 p5 pa w hA h
 ·exact errno_j a p1 p2 p3 p4 p5 pa w hA h
 ·exact errno_v5 a p1 p2 p3 p4 p5 pa w hA h

theorem iface_kept {w w' : World} {g c j : Nat} {t : TypeId} {v : Value} (hK : Kept (fun k => k = g) w w') (hq : w.heap[g]? = some (.cells noughts6 34 (0, 0))) (h : w.cell? ⟨c, j, none⟩ = some (.iface t v)) : w'.cell? ⟨c, j, none⟩ = some (.iface t v) := by
 have hne : c ≠ g := fun e => by
  subst e
  rw [cell_of_row _ _ j _ _ (0, 0) hq] at h
  have hj : j < 6 := (Array.getElem?_eq_some_iff.1 h).1
  have : j = 0 ∨ j = 1 ∨ j = 2 ∨ j = 3 ∨ j = 4 ∨ j = 5 := by omega
  rcases this with rfl | rfl | rfl | rfl | rfl | rfl <;> simp at h
 rw [World.cell?_of_block (hK.block c (block_lt_of_cell (a := ⟨c, j, none⟩) h) hne)]
 exact h

theorem ErrIs.kept {a p1 p2 p3 p4 p5 : Addr} {err : Value} {r : Int} {w w' : World} {g : Nat} (h : ErrIs a p1 p2 p3 p4 p5 err r w) (hK : Kept (fun k => k = g) w w') (hq : w.heap[g]? = some (.cells noughts6 34 (0, 0))) : ErrIs a p1 p2 p3 p4 p5 err r w' := by
 have hV : ∀ pa p, RefV w pa p → RefV w' pa p := fun pa p ⟨pb, h1, h2⟩ => ⟨pb, iface_kept hK hq h1, iface_kept hK hq h2⟩
 rcases h with h | ⟨rfl, b, rfl, hb⟩ | ⟨pa, rfl, ⟨rfl, h⟩ | ⟨rfl, h⟩ | ⟨rfl, h⟩ | ⟨rfl, h⟩ | ⟨rfl, h⟩ | ⟨rfl, h⟩⟩
 ·exact Or.inl h
 ·refine Or.inr (Or.inl ⟨rfl, b, rfl, ?_⟩)
  rcases hb with h1 | ⟨c, h1, h2⟩
  ·exact Or.inl (iface_kept hK hq h1)
  ·exact Or.inr ⟨c, iface_kept hK hq h1, iface_kept hK hq h2⟩
 ·exact Or.inr (Or.inr ⟨pa, rfl, Or.inl ⟨rfl, hV _ _ h⟩⟩)
 ·exact Or.inr (Or.inr ⟨pa, rfl, Or.inr (Or.inl ⟨rfl, hV _ _ h⟩)⟩)
 ·exact Or.inr (Or.inr ⟨pa, rfl, Or.inr (Or.inr (Or.inl ⟨rfl, hV _ _ h⟩))⟩)
 ·exact Or.inr (Or.inr ⟨pa, rfl, Or.inr (Or.inr (Or.inr (Or.inl ⟨rfl, hV _ _ h⟩)))⟩)
 ·obtain ⟨c, h1⟩ := h
  exact Or.inr (Or.inr ⟨pa, rfl, Or.inr (Or.inr (Or.inr (Or.inr (Or.inl ⟨rfl, c, iface_kept hK hq h1⟩))))⟩)
 ·exact Or.inr (Or.inr ⟨pa, rfl, Or.inr (Or.inr (Or.inr (Or.inr (Or.inr ⟨rfl, hV _ _ h⟩))))⟩)

/-- What a call leaves: the answer's lists, owned, and the cluster. -/
structure Mid (base bi : Nat) (nodes jobs wall last : Int) (vr vl vh : Value) (o : Out) (y x : Value) (W w2 : World) : Prop where
 rows : w2.ownsRow W.heap.size 57 4 y o.rows.length (flatR o.rows)
 evs : w2.ownsRow W.heap.size 55 4 x o.evs.length (flatE o.evs)
 clu : ∃ vr' vl' vh' E', Clu base bi nodes jobs wall last o.now vr' vl' vh' o.L E' w2 ∧ Trail bi vr vl vh vr' vl' vh' W w2 ∧ ∀ k, x.ownBlock = some k → ¬ clB bi vr' vl' vh' k

theorem Clu.below {base bi : Nat} {nodes jobs wall last now : Int} {vr vl vh : Value} {L : List Job} {E : List Ev} {w w' : World} (h : Clu base bi nodes jobs wall last now vr vl vh L E w) (hb : Below w.heap.size w w') : Clu base bi nodes jobs wall last now vr vl vh L E w' := ⟨h.cl.below hb, h.due, h.heap, h.few⟩

theorem Mid.same {base bi : Nat} {nodes jobs wall last now : Int} {vr vl vh : Value} {L : List Job} {E : List Ev} {W w2 : World} (h : Clu base bi nodes jobs wall last now vr vl vh L E W) (hb : Below W.heap.size W w2) (r a b c : Int) : Mid base bi nodes jobs wall last vr vl vh ⟨r, a, b, c, [], [], now, L⟩ (.slice none 0 0) (.slice none 0 0) W w2 :=
 ⟨World.ownsRow_nil _ _ _ _, World.ownsRow_nil _ _ _ _, vr, vl, vh, E, h.below hb, Trail.ofBelow hb, fun k e => by simp [Value.ownBlock] at e⟩

theorem Mid.left {base bi : Nat} {nodes jobs wall last now : Int} {vr vl vh x : Value} {M : List Job} {es : List Ev} {W w2 : World} (h : CluLeft base bi nodes jobs wall last now vr vl vh M es x W w2) (r a b c : Int) : Mid base bi nodes jobs wall last vr vl vh ⟨r, a, b, c, [], es, now, M⟩ (.slice none 0 0) x W w2 :=
 ⟨World.ownsRow_nil _ _ _ _, h.own, h.clu⟩

theorem Mid.ends {base bi : Nat} {nodes jobs wall last : Int} {vr vl vh y x : Value} {o : Out} {w W w2 w' : World} (hM : Mid base bi nodes jobs wall last vr vl vh o y x W w2) (hb : Below w.heap.size w W) (hz : w.heap.size + 1 < W.heap.size) (hK : Kept (fun k => k = w.heap.size + 1) w2 w') (hc : ∀ k, clB bi vr vl vh k → k < w.heap.size) : Mid base bi nodes jobs wall last vr vl vh o y x w w' := by
 obtain ⟨vr', vl', vh', E', hC, hT, hx⟩ := hM.clu
 have hn : ¬ clB bi vr' vl' vh' (w.heap.size + 1) := fun e => by
  rcases hT.new _ e with e | e
  ·have := hc _ e; omega
  ·omega
 have hT2 := (Trail.ofBelow (bi := bi) (vr := vr) (vl := vl) (vh := vh) hb).trans hT
 refine ⟨owns_on (owns_mono hM.rows hb.size) (fun k e => hK.block k (hM.rows.lt k e).2 (fun e2 => by have := (hM.rows.lt k e).1; omega)), owns_on (owns_mono hM.evs hb.size) (fun k e => hK.block k (hM.evs.lt k e).2 (fun e2 => by have := (hM.evs.lt k e).1; omega)), vr', vl', vh', E', ⟨hC.cl.kept hK (fun k e => e ▸ hn), hC.due, hC.heap, hC.few⟩, ⟨hT2.kept.trans hK (fun k e => Or.inr (by omega)), hT2.new⟩, hx⟩

theorem phase12 {g : Nat} {ph : Int} {w1 : World} (hq : w1.heap[g]? = some (.cells #[.int .i64 1, .int .i64 2] 3)) (b : Bool) (hb : liveB ph = b) : PhaseOk b (.slice (some ⟨g, 0, none⟩) 2 2) ph w1 := fun W hW => by
 have h1 := (hW.block g (Array.getElem?_eq_some_iff.1 hq).1).trans hq
 have c0 := cell_of_row _ _ 0 _ _ (0, 0) h1
 have c1 := cell_of_row _ _ 1 _ _ (0, 0) h1
 rw [← hb]
 exact contains12 g ph W (by simpa using c0) (by simpa using c1)
theorem phase2 {g : Nat} {ph : Int} {w1 : World} (hq : w1.heap[g]? = some (.cells #[.int .i64 2] 3)) (b : Bool) (hb : decide (ph = 2) = b) : PhaseOk b (.slice (some ⟨g, 0, none⟩) 1 1) ph w1 := fun W hW => by
 have h1 := (hW.block g (Array.getElem?_eq_some_iff.1 hq).1).trans hq
 have c0 := cell_of_row _ _ 0 _ _ (0, 0) h1
 rw [← hb]
 exact contains2 g ph W (by simpa using c0)

/-- What the call inside is asked for. -/
def TellT (base bi : Nat) (nodes jobs wall last now : Int) (vr vl vh : Value) (L : List Job) (k x y : Int) (a p1 p2 p3 p4 p5 : Addr) (reply err : Value) (W w2 : World) : Prop :=
 ∃ o ys xs e0, DoE nodes jobs wall last now L k x y o ∧ reply = .agg #[.int .i64 e0, .int .i64 o.a, .int .i64 o.b, .int .i64 o.c, ys, xs] ∧ ErrIs a p1 p2 p3 p4 p5 err o.err w2 ∧ Mid base bi nodes jobs wall last vr vl vh o ys xs W w2

section
variable (base bi : Nat) (nodes jobs wall last now : Int) (vr vl vh : Value) (L : List Job) (E : List Ev) (w W : World) (h : Clu base bi nodes jobs wall last now vr vl vh L E W) (hG : Good nodes jobs wall last now L) (a p1 p2 p3 p4 p5 : Addr) (hA : Asks a p1 p2 p3 p4 p5 W) (hbase : base ≤ W.heap.size) (hl : L.length < 1000000000) (hc : ∀ k, clB bi vr vl vh k → k < w.heap.size) (x y : Int)

include h hG hA hbase hl hc in
theorem inSubmit (hr : rendOk 1 x y = true) : Calls Tryz.prog 53 #[.pointer (some ⟨bi, 0, none⟩), .int .i64 x, .int .i64 y] W fun e w2 => ∃ e0 x1 x2 x3 p4' n4 c4 p5' n5 c5 err, e = .returned (.tuple #[.agg #[.int .i64 e0, .int .i64 x1, .int .i64 x2, .int .i64 x3, .slice p4' n4 c4, .slice p5' n5 c5], err]) ∧ Spare w.heap.size W w2 ∧ TellT base bi nodes jobs wall last now vr vl vh L 1 x y a p1 p2 p3 p4 p5 (.agg #[.int .i64 e0, .int .i64 x1, .int .i64 x2, .int .i64 x3, .slice p4' n4 c4, .slice p5' n5 c5]) err W w2 := by
 have hSl : (seats L).length = liveN L L.length := seatsN_len L L.length
 by_cases hw : x < 1 ∨ nodes < x
 ·refine (submitC_no bi W p1 x y (fun w1 hb => checkJob_w base bi nodes jobs wall last now vr vl vh L (seats L) E w1 (h.cl.below hb) a p1 p2 p3 p4 p5 (hA.on hb) x y hw)).mono ?_
  rintro e w2 ⟨pa, rfl, hR, hb⟩
  exact ⟨0, 0, 0, 0, none, 0, 0, none, 0, 0, _, rfl, Spare.of_below hb, ⟨2, 0, 0, 0, [], [], now, L⟩, .slice none 0 0, .slice none 0 0, 0, Or.inl <| Or.inr ⟨hr, Or.inl ⟨rfl, by unfold submitO; rw [if_pos hw]⟩⟩, rfl, Or.inr (Or.inr ⟨pa, rfl, Or.inl ⟨rfl, hR⟩⟩), Mid.same h hb 2 0 0 0⟩
 by_cases hwl : y < 1 ∨ wall < y
 ·refine (submitC_no bi W p2 x y (fun w1 hb => checkJob_l base bi nodes jobs wall last now vr vl vh L (seats L) E w1 (h.cl.below hb) a p1 p2 p3 p4 p5 (hA.on hb) x y (by omega) (by omega) hwl)).mono ?_
  rintro e w2 ⟨pa, rfl, hR, hb⟩
  exact ⟨0, 0, 0, 0, none, 0, 0, none, 0, 0, _, rfl, Spare.of_below hb, ⟨3, 0, 0, 0, [], [], now, L⟩, .slice none 0 0, .slice none 0 0, 0, Or.inl <| Or.inr ⟨hr, Or.inl ⟨rfl, by unfold submitO; rw [if_neg hw, if_pos hwl]⟩⟩, rfl, Or.inr (Or.inr ⟨pa, rfl, Or.inr (Or.inl ⟨rfl, hR⟩)⟩), Mid.same h hb 3 0 0 0⟩
 by_cases hf : jobs ≤ (liveN L L.length : Int)
 ·refine (submitC_no bi W p3 x y (fun w1 hb => checkJob_f base bi nodes jobs wall last now vr vl vh L (seats L) E w1 (h.cl.below hb) a p1 p2 p3 p4 p5 (hA.on hb) x y (by omega) (by omega) (by omega) (by omega) (by rw [hSl]; exact hf))).mono ?_
  rintro e w2 ⟨pa, rfl, hR, hb⟩
  exact ⟨0, 0, 0, 0, none, 0, 0, none, 0, 0, _, rfl, Spare.of_below hb, ⟨4, 0, 0, 0, [], [], now, L⟩, .slice none 0 0, .slice none 0 0, 0, Or.inl <| Or.inr ⟨hr, Or.inl ⟨rfl, by unfold submitO; rw [if_neg hw, if_neg hwl, if_pos hf]⟩⟩, rfl, Or.inr (Or.inr ⟨pa, rfl, Or.inr (Or.inr (Or.inl ⟨rfl, hR⟩))⟩), Mid.same h hb 4 0 0 0⟩
 have hp := hG.promise (x := x) (y := y) (by omega) (by omega) (by omega) (by omega) hf
 have h0 := hG.now0
 have hT := hG.times
 have hcf := hG.conf
 unfold ConfOk at hcf
 refine (submitC_yes base bi nodes jobs wall last now vr vl vh L E W h hbase hl hG.widths (fun j hj => (hT j hj).2.2) (by omega) (by omega) h0 (by omega) x y (by omega) (by omega) (by omega) (by omega) hf _ (Lib.hid rfl) hp.2 (by omega)).mono ?_
 rintro e w2 ⟨xs, M, es, rfl, hR, hL⟩
 obtain ⟨p5', c5, rfl⟩ := own_slice hL.own
 obtain ⟨_, _, _, _, _, hTr, _⟩ := hL.clu
 exact ⟨0, _, _, 0, none, 0, 0, p5', es.length, c5, _, rfl, Spare.of_trail hTr hc, ⟨0, (L.length : Int) + 1, earliest L nodes now x y (-1), 0, [], es, now, M⟩, .slice none 0 0, .slice p5' es.length c5, 0, Or.inl <| Or.inr ⟨hr, Or.inl ⟨rfl, (hG.submit (by omega) (by omega) (by omega) (by omega) hf hR).symm⟩⟩, rfl, Or.inl ⟨rfl, rfl⟩, Mid.left hL 0 _ _ 0⟩

include h hG hA hbase hc in
theorem inCancel (hr : rendOk 2 x y = true) : Calls Tryz.prog 54 #[.pointer (some ⟨bi, 0, none⟩), .int .i64 x] W fun e w2 => ∃ e0 x1 x2 x3 p4' n4 c4 p5' n5 c5 err, e = .returned (.tuple #[.agg #[.int .i64 e0, .int .i64 x1, .int .i64 x2, .int .i64 x3, .slice p4' n4 c4, .slice p5' n5 c5], err]) ∧ Spare w.heap.size W w2 ∧ TellT base bi nodes jobs wall last now vr vl vh L 2 x y a p1 p2 p3 p4 p5 (.agg #[.int .i64 e0, .int .i64 x1, .int .i64 x2, .int .i64 x3, .slice p4' n4 c4, .slice p5' n5 c5]) err W w2 := by
 by_cases hX : x < 1 ∨ (L.length : Int) < x
 ·refine (cancelC_5 bi W x (fun w1 hb _ => checkPhase_5 base bi nodes jobs wall last now vr vl vh L (seats L) E w1 (h.cl.below hb) x hX _)).mono ?_
  rintro e w2 ⟨pa, rfl, hR, hb⟩
  exact ⟨0, 0, 0, 0, none, 0, 0, none, 0, 0, _, rfl, Spare.of_below hb, ⟨5, 0, 0, 0, [], [], now, L⟩, .slice none 0 0, .slice none 0 0, 0, Or.inr ⟨hr, by omega, Or.inl ⟨hX, rfl⟩⟩, rfl, Or.inr (Or.inr ⟨pa, rfl, Or.inr (Or.inr (Or.inr (Or.inr (Or.inl ⟨rfl, hR⟩))))⟩), Mid.same h hb 5 0 0 0⟩
 obtain ⟨i, rfl⟩ : ∃ i : Nat, x = (i : Int) + 1 := ⟨(x - 1).toNat, by omega⟩
 obtain ⟨j, hj⟩ : ∃ j, L[i]? = some j := ⟨_, List.getElem?_eq_getElem (by omega)⟩
 by_cases hok : j.live = true
 ·have hlv : j.live = true := hok
  refine (cancelC_yes base bi nodes jobs wall last now vr vl vh L E W h hbase hG i j hj hlv (fun w1 hb hq => checkPhase_ok base bi nodes jobs wall last now vr vl vh L (seats L) E w1 (h.cl.below hb) i j hj _ (phase12 hq true hok))).mono ?_
  rintro e w2 ⟨xs, M, es, rfl, hR, hL⟩
  obtain ⟨p5', c5, rfl⟩ := own_slice hL.own
  obtain ⟨_, _, _, _, _, hTr, _⟩ := hL.clu
  exact ⟨0, 0, 0, 0, none, 0, 0, p5', (es ++ startE M now M.length).length, c5, _, rfl, Spare.of_trail hTr hc, ⟨0, 0, 0, 0, [], es ++ startE M now M.length, now, M.map (Job.go now)⟩, .slice none 0 0, .slice p5' (es ++ startE M now M.length).length c5, 0, Or.inr ⟨hr, by omega, Or.inr ⟨i, j, rfl, hj, Or.inr ⟨hlv, fun e => by omega, M, es, by simpa using hR, rfl⟩⟩⟩, rfl, Or.inl ⟨rfl, rfl⟩, Mid.left hL 0 0 0 0⟩
 ·refine (cancelC_6 bi W p5 ((i : Int) + 1) (fun w1 hb hq => checkPhase_6 base bi nodes jobs wall last now vr vl vh L (seats L) E w1 (h.cl.below hb) a p1 p2 p3 p4 p5 (hA.on hb) i j hj _ (phase12 hq false (Bool.eq_false_iff.2 hok)))).mono ?_
  rintro e w2 ⟨pa, rfl, hR, hb⟩
  exact ⟨0, 0, 0, 0, none, 0, 0, none, 0, 0, _, rfl, Spare.of_below hb, ⟨6, 0, 0, 0, [], [], now, L⟩, .slice none 0 0, .slice none 0 0, 0, Or.inr ⟨hr, by omega, Or.inr ⟨i, j, rfl, hj, Or.inl ⟨Or.inl (Bool.eq_false_iff.2 hok), rfl⟩⟩⟩, rfl, Or.inr (Or.inr ⟨pa, rfl, Or.inr (Or.inr (Or.inr (Or.inr (Or.inr ⟨rfl, hR⟩))))⟩), Mid.same h hb 6 0 0 0⟩

include h hG hA hbase hc in
theorem inDone (hr : rendOk 3 x y = true) : Calls Tryz.prog 55 #[.pointer (some ⟨bi, 0, none⟩), .int .i64 x] W fun e w2 => ∃ e0 x1 x2 x3 p4' n4 c4 p5' n5 c5 err, e = .returned (.tuple #[.agg #[.int .i64 e0, .int .i64 x1, .int .i64 x2, .int .i64 x3, .slice p4' n4 c4, .slice p5' n5 c5], err]) ∧ Spare w.heap.size W w2 ∧ TellT base bi nodes jobs wall last now vr vl vh L 3 x y a p1 p2 p3 p4 p5 (.agg #[.int .i64 e0, .int .i64 x1, .int .i64 x2, .int .i64 x3, .slice p4' n4 c4, .slice p5' n5 c5]) err W w2 := by
 by_cases hX : x < 1 ∨ (L.length : Int) < x
 ·refine (doneC_5 bi W x (fun w1 hb _ => checkPhase_5 base bi nodes jobs wall last now vr vl vh L (seats L) E w1 (h.cl.below hb) x hX _)).mono ?_
  rintro e w2 ⟨pa, rfl, hR, hb⟩
  exact ⟨0, 0, 0, 0, none, 0, 0, none, 0, 0, _, rfl, Spare.of_below hb, ⟨5, 0, 0, 0, [], [], now, L⟩, .slice none 0 0, .slice none 0 0, 0, Or.inr ⟨hr, by omega, Or.inl ⟨hX, rfl⟩⟩, rfl, Or.inr (Or.inr ⟨pa, rfl, Or.inr (Or.inr (Or.inr (Or.inr (Or.inl ⟨rfl, hR⟩))))⟩), Mid.same h hb 5 0 0 0⟩
 obtain ⟨i, rfl⟩ : ∃ i : Nat, x = (i : Int) + 1 := ⟨(x - 1).toNat, by omega⟩
 obtain ⟨j, hj⟩ : ∃ j, L[i]? = some j := ⟨_, List.getElem?_eq_getElem (by omega)⟩
 by_cases hok : j.phase = 2
 ·have hlv : j.live = true := by simp [Job.live, liveB, hok]
  refine (doneC_yes base bi nodes jobs wall last now vr vl vh L E W h hbase hG i j hj hlv (fun w1 hb hq => checkPhase_ok base bi nodes jobs wall last now vr vl vh L (seats L) E w1 (h.cl.below hb) i j hj _ (phase2 hq true (by simp [hok])))).mono ?_
  rintro e w2 ⟨xs, M, es, rfl, hR, hL⟩
  obtain ⟨p5', c5, rfl⟩ := own_slice hL.own
  obtain ⟨_, _, _, _, _, hTr, _⟩ := hL.clu
  exact ⟨0, 0, 0, 0, none, 0, 0, p5', (es ++ startE M now M.length).length, c5, _, rfl, Spare.of_trail hTr hc, ⟨0, 0, 0, 0, [], es ++ startE M now M.length, now, M.map (Job.go now)⟩, .slice none 0 0, .slice p5' (es ++ startE M now M.length).length c5, 0, Or.inr ⟨hr, by omega, Or.inr ⟨i, j, rfl, hj, Or.inr ⟨hlv, fun _ => hok, M, es, by simpa using hR, rfl⟩⟩⟩, rfl, Or.inl ⟨rfl, rfl⟩, Mid.left hL 0 0 0 0⟩
 ·refine (doneC_6 bi W p5 ((i : Int) + 1) (fun w1 hb hq => checkPhase_6 base bi nodes jobs wall last now vr vl vh L (seats L) E w1 (h.cl.below hb) a p1 p2 p3 p4 p5 (hA.on hb) i j hj _ (phase2 hq false (by simp [hok])))).mono ?_
  rintro e w2 ⟨pa, rfl, hR, hb⟩
  exact ⟨0, 0, 0, 0, none, 0, 0, none, 0, 0, _, rfl, Spare.of_below hb, ⟨6, 0, 0, 0, [], [], now, L⟩, .slice none 0 0, .slice none 0 0, 0, Or.inr ⟨hr, by omega, Or.inr ⟨i, j, rfl, hj, Or.inl ⟨Or.inr ⟨rfl, hok⟩, rfl⟩⟩⟩, rfl, Or.inr (Or.inr ⟨pa, rfl, Or.inr (Or.inr (Or.inr (Or.inr (Or.inr ⟨rfl, hR⟩))))⟩), Mid.same h hb 6 0 0 0⟩

include h hG hA hbase hc in
theorem inTick (hr : rendOk 4 x y = true) : Calls Tryz.prog 56 #[.pointer (some ⟨bi, 0, none⟩), .int .i64 x] W fun e w2 => ∃ e0 x1 x2 x3 p4' n4 c4 p5' n5 c5 err, e = .returned (.tuple #[.agg #[.int .i64 e0, .int .i64 x1, .int .i64 x2, .int .i64 x3, .slice p4' n4 c4, .slice p5' n5 c5], err]) ∧ Spare w.heap.size W w2 ∧ TellT base bi nodes jobs wall last now vr vl vh L 4 x y a p1 p2 p3 p4 p5 (.agg #[.int .i64 e0, .int .i64 x1, .int .i64 x2, .int .i64 x3, .slice p4' n4 c4, .slice p5' n5 c5]) err W w2 := by
 have hx : 0 ≤ x ∧ x ≤ 999999999999999999 := by
  have hk := hr
  simp only [rendOk, Bool.and_eq_true, decide_eq_true_eq] at hk
  obtain ⟨⟨_, hfx⟩, _⟩ := hk
  obtain ⟨m, rfl, hm⟩ := fits_true (x := x) (by simpa [numsN] using hfx)
  omega
 have h0 := hG.now0
 have h1 := hG.now1
 have hcf := hG.conf
 unfold ConfOk at hcf
 have hm0 : 0 ≤ jobs * wall := Int.mul_nonneg (by omega) (by omega)
 by_cases hn : last < now + x
 ·refine (tickC_no base bi nodes jobs wall last now vr vl vh L (seats L) E W h.cl a p1 p2 p3 p4 p5 hA h0 h1 (by omega) x hn hx.2).mono ?_
  rintro e w2 ⟨pa, rfl, hR, hb⟩
  exact ⟨0, 0, 0, 0, none, 0, 0, none, 0, 0, _, rfl, Spare.of_below hb, ⟨7, 0, 0, 0, [], [], now, L⟩, .slice none 0 0, .slice none 0 0, 0, Or.inl <| Or.inr ⟨hr, Or.inr (Or.inl ⟨rfl, Or.inl ⟨hn, rfl⟩⟩)⟩, rfl, Or.inr (Or.inr ⟨pa, rfl, Or.inr (Or.inr (Or.inr (Or.inl ⟨rfl, hR⟩)))⟩), Mid.same h hb 7 0 0 0⟩
 refine (tickC_yes base bi nodes jobs wall last now vr vl vh L E W h hbase h0 (by omega) x hx.1 (by omega)).mono ?_
 rintro e w2 ⟨xs, M, es, rfl, hR, hL⟩
 obtain ⟨p5', c5, rfl⟩ := own_slice hL.own
 obtain ⟨_, _, _, _, _, hTr, _⟩ := hL.clu
 exact ⟨0, 0, 0, 0, none, 0, 0, p5', es.length, c5, _, rfl, Spare.of_trail hTr hc, ⟨0, 0, 0, 0, [], es, now + x, M⟩, .slice none 0 0, .slice p5' es.length c5, 0, Or.inl <| Or.inr ⟨hr, Or.inr (Or.inl ⟨rfl, tick_runs hG (by omega) hR⟩)⟩, rfl, Or.inl ⟨rfl, rfl⟩, Mid.left hL 0 0 0 0⟩

include h in
theorem inStat (hr : rendOk 5 x y = true) : Calls Tryz.prog 57 #[.pointer (some ⟨bi, 0, none⟩), .int .i64 x] W fun e w2 => ∃ e0 x1 x2 x3 p4' n4 c4 p5' n5 c5 err, e = .returned (.tuple #[.agg #[.int .i64 e0, .int .i64 x1, .int .i64 x2, .int .i64 x3, .slice p4' n4 c4, .slice p5' n5 c5], err]) ∧ Spare w.heap.size W w2 ∧ TellT base bi nodes jobs wall last now vr vl vh L 5 x y a p1 p2 p3 p4 p5 (.agg #[.int .i64 e0, .int .i64 x1, .int .i64 x2, .int .i64 x3, .slice p4' n4 c4, .slice p5' n5 c5]) err W w2 := by
 by_cases hX : x < 1 ∨ (L.length : Int) < x
 ·refine (statC_no base bi nodes jobs wall last now vr vl vh L (seats L) E W h.cl x hX).mono ?_
  rintro e w2 ⟨pa, rfl, hR, hb⟩
  exact ⟨0, 0, 0, 0, none, 0, 0, none, 0, 0, _, rfl, Spare.of_below hb, ⟨5, 0, 0, 0, [], [], now, L⟩, .slice none 0 0, .slice none 0 0, 0, Or.inl <| Or.inr ⟨hr, Or.inr (Or.inr (Or.inl ⟨rfl, hX, rfl⟩))⟩, rfl, Or.inr (Or.inr ⟨pa, rfl, Or.inr (Or.inr (Or.inr (Or.inr (Or.inl ⟨rfl, hR⟩))))⟩), Mid.same h hb 5 0 0 0⟩
 obtain ⟨i, rfl⟩ : ∃ i : Nat, x = (i : Int) + 1 := ⟨(x - 1).toNat, by omega⟩
 obtain ⟨j, hj⟩ : ∃ j, L[i]? = some j := ⟨_, List.getElem?_eq_getElem (by omega)⟩
 refine (statC_yes base bi nodes jobs wall last now vr vl vh L (seats L) E W h.cl i j hj).mono ?_
 rintro e w2 ⟨rfl, hb⟩
 exact ⟨0, j.phase, j.start, j.stop, none, 0, 0, none, 0, 0, _, rfl, Spare.of_below hb, ⟨0, j.phase, j.start, j.stop, [], [], now, L⟩, .slice none 0 0, .slice none 0 0, 0, Or.inl <| Or.inr ⟨hr, Or.inr (Or.inr (Or.inr (Or.inl ⟨rfl, i, j, rfl, hj, rfl⟩)))⟩, rfl, Or.inl ⟨rfl, rfl⟩, Mid.same h hb 0 _ _ _⟩

include h hG in
theorem inQueue (hr : rendOk 6 x y = true) : Calls Tryz.prog 58 #[.pointer (some ⟨bi, 0, none⟩)] W fun e w2 => ∃ e0 x1 x2 x3 p4' n4 c4 p5' n5 c5, e = .returned (.agg #[.int .i64 e0, .int .i64 x1, .int .i64 x2, .int .i64 x3, .slice p4' n4 c4, .slice p5' n5 c5]) ∧ Spare w.heap.size W w2 ∧ TellT base bi nodes jobs wall last now vr vl vh L 6 x y a p1 p2 p3 p4 p5 (.agg #[.int .i64 e0, .int .i64 x1, .int .i64 x2, .int .i64 x3, .slice p4' n4 c4, .slice p5' n5 c5]) .nilIface W w2 := by
 have hT := hG.times
 refine (queueC_any base bi nodes jobs wall last now vr vl vh L E W h.cl (fun j hj => ⟨(hT j hj).1, (hT j hj).2.1, (hT j hj).2.2, (hG.each j hj).2.2.2.1⟩)).mono ?_
 rintro e w2 ⟨ys, rfl, hY, hb⟩
 rw [hG.rows] at hY
 obtain ⟨p4', c4, rfl⟩ := own_slice hY
 exact ⟨0, 0, 0, 0, p4', _, c4, none, 0, 0, rfl, Spare.of_below hb, ⟨0, 0, 0, 0, queueN L L.length, [], now, L⟩, _, .slice none 0 0, 0, Or.inl <| Or.inr ⟨hr, Or.inr (Or.inr (Or.inr (Or.inr (Or.inl ⟨rfl, rfl⟩))))⟩, rfl, Or.inl ⟨rfl, rfl⟩, ⟨owns_mono hY (by omega), World.ownsRow_nil _ _ _ _, vr, vl, vh, E, h.below hb, Trail.ofBelow hb, fun k e => by simp [Value.ownBlock] at e⟩⟩

include h hG in
theorem inInfo (hr : rendOk 7 x y = true) : Calls Tryz.prog 59 #[.pointer (some ⟨bi, 0, none⟩)] W fun e w2 => ∃ e0 x1 x2 x3 p4' n4 c4 p5' n5 c5, e = .returned (.agg #[.int .i64 e0, .int .i64 x1, .int .i64 x2, .int .i64 x3, .slice p4' n4 c4, .slice p5' n5 c5]) ∧ Spare w.heap.size W w2 ∧ TellT base bi nodes jobs wall last now vr vl vh L 7 x y a p1 p2 p3 p4 p5 (.agg #[.int .i64 e0, .int .i64 x1, .int .i64 x2, .int .i64 x3, .slice p4' n4 c4, .slice p5' n5 c5]) .nilIface W w2 := by
 have hcf := hG.conf
 unfold ConfOk at hcf
 refine (infoC_any base bi nodes jobs wall last now vr vl vh L E W h.cl hG.widths (by omega) (by omega)).mono ?_
 rintro e w2 ⟨rfl, hb⟩
 exact ⟨0, now, _, _, none, 0, 0, none, 0, 0, rfl, Spare.of_below hb, ⟨0, now, freeN L nodes L.length, liveN L L.length, [], [], now, L⟩, .slice none 0 0, .slice none 0 0, 0, Or.inl <| Or.inr ⟨hr, Or.inr (Or.inr (Or.inr (Or.inr (Or.inr ⟨rfl, rfl⟩))))⟩, rfl, Or.inl ⟨rfl, rfl⟩, Mid.same h hb 0 _ _ _⟩
end

/-- do: its answer is the document's. -/
theorem doD (base bx bi : Nat) (s0 s1 : Value) (nodes jobs wall last now : Int) (vr vl vh : Value) (L : List Job) (E : List Ev) (a : Addr) (m : Int) (w : World) (hE : Env a m w) (hbx : w.heap[bx]? = some (outer s0 s1 bi)) (h : Clu base bi nodes jobs wall last now vr vl vh L E w) (hG : Good nodes jobs wall last now L) (p1 p2 p3 p4 p5 : Addr) (hA : Asks a p1 p2 p3 p4 p5 w) (hbase : base ≤ w.heap.size) (hl : L.length < 1000000000) (k x y : Int) :
  Calls Tryz.prog 33 #[.pointer (some ⟨bx, 0, none⟩), .agg #[.int .i64 k, .int .i64 x, .int .i64 y]] w fun e w' => ∃ o y1 x1 e0 err, e = .returned (.tuple #[.agg #[.int .i64 e0, .int .i64 o.a, .int .i64 o.b, .int .i64 o.c, y1, x1], err]) ∧ DoE nodes jobs wall last now L k x y o ∧ ErrIs a p1 p2 p3 p4 p5 err o.err w' ∧ Mid base bi nodes jobs wall last vr vl vh o y1 x1 w w' := by
 have hc : ∀ k, clB bi vr vl vh k → k < w.heap.size := h.cl.lt
 have hend : ∀ (e : Ending) (w' : World), (∃ e0 x1 x2 x3 p4' n4 c4 p5' n5 c5 err W w2, e = .returned (.tuple #[.agg #[.int .i64 e0, .int .i64 x1, .int .i64 x2, .int .i64 x3, .slice p4' n4 c4, .slice p5' n5 c5], err]) ∧ Below w.heap.size w W ∧ w.heap.size + 1 < W.heap.size ∧ Spare w.heap.size W w2 ∧ TellT base bi nodes jobs wall last now vr vl vh L k x y a p1 p2 p3 p4 p5 (.agg #[.int .i64 e0, .int .i64 x1, .int .i64 x2, .int .i64 x3, .slice p4' n4 c4, .slice p5' n5 c5]) err W w2 ∧ Kept (fun k => k = w.heap.size + 1) w2 w' ∧ w2.heap[w.heap.size + 1]? = some (.cells noughts6 34 (0, 0))) → ∃ o y1 x1 e0 err, e = .returned (.tuple #[.agg #[.int .i64 e0, .int .i64 o.a, .int .i64 o.b, .int .i64 o.c, y1, x1], err]) ∧ DoE nodes jobs wall last now L k x y o ∧ ErrIs a p1 p2 p3 p4 p5 err o.err w' ∧ Mid base bi nodes jobs wall last vr vl vh o y1 x1 w w' := by
  rintro e w' ⟨e0, x1, x2, x3, p4', n4, c4, p5', n5, c5, err, W, w2, rfl, hb, hz, _, ⟨o, ys, xs, e1, hD, hre, hEr, hM⟩, hK, hq⟩
  rw [hre]
  exact ⟨o, ys, xs, e1, err, rfl, hD, hEr.kept hK hq, hM.ends hb hz hK hc⟩
 cases hr : rendOk k x y with
 | false =>
  refine (doB_bad (.pointer (some ⟨bx, 0, none⟩)) a m w hE k x y hr).mono ?_
  rintro e w' ⟨b, rfl, hR, hb⟩
  exact ⟨⟨1, 0, 0, 0, [], [], now, L⟩, .slice none 0 0, .slice none 0 0, 0, _, rfl, Or.inl (Or.inl ⟨hr, rfl⟩), Or.inr (Or.inl ⟨rfl, b, rfl, hR⟩), Mid.same h hb 1 0 0 0⟩
 | true =>
  have hk := hr
  simp only [rendOk, Bool.and_eq_true, decide_eq_true_eq] at hk
  obtain ⟨⟨⟨k1, k7⟩, _⟩, _⟩ := hk
  have hkk : k = 1 ∨ k = 2 ∨ k = 3 ∨ k = 4 ∨ k = 5 ∨ k = 6 ∨ k = 7 := by omega
  have hs : ∀ W, Below w.heap.size w W → Clu base bi nodes jobs wall last now vr vl vh L E W ∧ Asks a p1 p2 p3 p4 p5 W ∧ base ≤ W.heap.size := fun W hb => ⟨h.below hb, hA.on hb, Nat.le_trans hbase hb.size⟩
  rcases hkk with rfl | rfl | rfl | rfl | rfl | rfl | rfl
  ·exact (doB_1 bx bi s0 s1 a m w hE hbx x y hr _ (fun W hb => inSubmit base bi nodes jobs wall last now vr vl vh L E w W (hs W hb).1 hG a p1 p2 p3 p4 p5 (hs W hb).2.1 (hs W hb).2.2 hl hc x y hr)).mono hend
  ·exact (doB_2 bx bi s0 s1 a m w hE hbx x y hr _ (fun W hb => inCancel base bi nodes jobs wall last now vr vl vh L E w W (hs W hb).1 hG a p1 p2 p3 p4 p5 (hs W hb).2.1 (hs W hb).2.2 hc x y hr)).mono hend
  ·exact (doB_3 bx bi s0 s1 a m w hE hbx x y hr _ (fun W hb => inDone base bi nodes jobs wall last now vr vl vh L E w W (hs W hb).1 hG a p1 p2 p3 p4 p5 (hs W hb).2.1 (hs W hb).2.2 hc x y hr)).mono hend
  ·exact (doB_4 bx bi s0 s1 a m w hE hbx x y hr _ (fun W hb => inTick base bi nodes jobs wall last now vr vl vh L E w W (hs W hb).1 hG a p1 p2 p3 p4 p5 (hs W hb).2.1 (hs W hb).2.2 hc x y hr)).mono hend
  ·exact (doB_5 bx bi s0 s1 a m w hE hbx x y hr _ (fun W hb => inStat base bi nodes jobs wall last now vr vl vh L E w W (hs W hb).1 a p1 p2 p3 p4 p5 x y hr)).mono hend
  ·exact (doB_6 bx bi s0 s1 a m w hE hbx x y hr _ (fun W hb => inQueue base bi nodes jobs wall last now vr vl vh L E w W (hs W hb).1 hG a p1 p2 p3 p4 p5 x y hr)).mono hend
  ·exact (doB_7 bx bi s0 s1 a m w hE hbx x y hr _ (fun W hb => inInfo base bi nodes jobs wall last now vr vl vh L E w W (hs W hb).1 hG a p1 p2 p3 p4 p5 x y hr)).mono hend

end Go.Proofs.YtpcgnadfldimhaaGreatDoor
namespace Go.Proofs.YtpcgnadfldimhaaGreatDoor
open Go.RowKit

theorem unlock_late (a : Addr) (u : FrameMode) (w : World) (hc : w.cell? a = some (.int .i32 1)) (hz : w.frozen? a = false) : CallsD Tryz.prog 32 #[.pointer (some a)] u w fun e u' w' => u' = u ∧ (e = .returned (.tuple #[]) ∧ w' = w.setCell a (.int .i32 0)) := Go.MuLone.unlock_deferred muLib a u w hc hz

abbrev noughtsR : Array Value := #[.int .i64 0, .int .i64 0, .int .i64 0, .int .i64 0, .slice none 0 0, .slice none 0 0]
abbrev outer' (s0 s1 : Value) (bi : Nat) : Obj := .cells #[s0, s1, .pointer (some ⟨bi, 0, none⟩)] 87

abbrev putL (w : World) (g : Nat) (x0 x1 x2 x3 x4 x5 : Value) : World := (((((w.setCell ⟨g, 0, none⟩ x0).setCell ⟨g, 1, none⟩ x1).setCell ⟨g, 2, none⟩ x2).setCell ⟨g, 3, none⟩ x3).setCell ⟨g, 4, none⟩ x4).setCell ⟨g, 5, none⟩ x5
/-- What Do leaves behind its last store, ahead of Unlock. -/
theorem doL_end {w W1 w2 w4 : World} {bx bi : Nat} {y0 y1 y2 y3 y4 y5 x0 x1 x2 x3 x4 x5 : Value} (hlt : bx < w.heap.size) (hz1 : w.heap.size + 1 < W1.heap.size) (hz2 : w.heap.size + 1 < w2.heap.size) (hb : Below w2.heap.size w2 w4) (_hz4 : w2.heap.size < w4.heap.size) (hg : w4.heap[w.heap.size + 1]? = some (.cells #[y0, y1, y2, y3, y4, y5] 34 (0, 0))) (hx : w4.heap[bx]? = some (outer' (.int .i32 1) (.int .u32 0) bi)) :
  Kept (fun j => j = bx ∨ (w.heap.size ≤ j ∧ j < W1.heap.size)) w2 (putL (w4.setCell ⟨w2.heap.size, 0, none⟩ x0) (w.heap.size + 1) x0 x1 x2 x3 x4 x5) ∧ (putL (w4.setCell ⟨w2.heap.size, 0, none⟩ x0) (w.heap.size + 1) x0 x1 x2 x3 x4 x5).heap[w.heap.size + 1]? = some (.cells #[x0, x1, x2, x3, x4, x5] 34 (0, 0)) ∧ (putL (w4.setCell ⟨w2.heap.size, 0, none⟩ x0) (w.heap.size + 1) x0 x1 x2 x3 x4 x5).heap[bx]? = some (outer' (.int .i32 1) (.int .u32 0) bi) := by
 have e1 : (fun j => j = bx ∨ (w.heap.size ≤ j ∧ j < W1.heap.size)) (w.heap.size + 1) := Or.inr ⟨by omega, hz1⟩
 have k0 : Kept (fun j => j = bx ∨ (w.heap.size ≤ j ∧ j < W1.heap.size)) w2 (w4.setCell ⟨w2.heap.size, 0, none⟩ x0) := (Kept.of_below hb).setCell (p := ⟨w2.heap.size, 0, none⟩) (Or.inr (Nat.le_refl _)) _
 have h0 : (w4.setCell ⟨w2.heap.size, 0, none⟩ x0).heap[w.heap.size + 1]? = some (.cells #[y0, y1, y2, y3, y4, y5] 34 (0, 0)) := (Below.heap_setCell _ _ _ _ (by show w.heap.size + 1 ≠ w2.heap.size; omega)).trans hg
 have b0 : (w4.setCell ⟨w2.heap.size, 0, none⟩ x0).heap[bx]? = some (outer' (.int .i32 1) (.int .u32 0) bi) := (Below.heap_setCell _ _ _ _ (by show bx ≠ w2.heap.size; omega)).trans hx
 have ne : bx ≠ w.heap.size + 1 := by omega
 generalize w4.setCell ⟨w2.heap.size, 0, none⟩ x0 = u at *
 refine ⟨(((((k0.setCell (p := ⟨w.heap.size + 1, 0, none⟩) (Or.inl e1) _).setCell (p := ⟨w.heap.size + 1, 1, none⟩) (Or.inl e1) _).setCell (p := ⟨w.heap.size + 1, 2, none⟩) (Or.inl e1) _).setCell (p := ⟨w.heap.size + 1, 3, none⟩) (Or.inl e1) _).setCell (p := ⟨w.heap.size + 1, 4, none⟩) (Or.inl e1) _).setCell (p := ⟨w.heap.size + 1, 5, none⟩) (Or.inl e1) _, ?_, ?_⟩
 ·exact heap_setCell_same _ _ 5 _ _ _ (heap_setCell_same _ _ 4 _ _ _ (heap_setCell_same _ _ 3 _ _ _ (heap_setCell_same _ _ 2 _ _ _ (heap_setCell_same _ _ 1 _ _ _ (heap_setCell_same _ _ 0 _ _ _ h0)))))
 ·exact (Below.heap_setCell _ _ _ _ ne).trans ((Below.heap_setCell _ _ _ _ ne).trans ((Below.heap_setCell _ _ _ _ ne).trans ((Below.heap_setCell _ _ _ _ ne).trans ((Below.heap_setCell _ _ _ _ ne).trans ((Below.heap_setCell _ _ _ _ ne).trans b0)))))

theorem replyL_size : (Tryz.prog.info? 34).map (·.size) = some 6 := by kernel_rfl

set_option maxHeartbeats 2000000 in
set_option maxRecDepth 100000 in
theorem doL (bx bi : Nat) (w : World) (k x y : Int) (hbx : w.heap[bx]? = some (outer' (.int .i32 0) (.int .u32 0) bi)) (T : Int → Int → Int → Value → Value → Value → Int → World → World → Prop)
  (hD : ∀ W, Kept (fun j => j = bx) w W → W.heap[bx]? = some (outer' (.int .i32 1) (.int .u32 0) bi) → Calls Tryz.prog 33 #[.pointer (some ⟨bx, 0, none⟩), .agg #[.int .i64 k, .int .i64 x, .int .i64 y]] W fun e w2 => ∃ e0 x1 x2 x3 p4 n4 c4 p5 n5 c5 err er, e = .returned (.tuple #[.agg #[.int .i64 e0, .int .i64 x1, .int .i64 x2, .int .i64 x3, .slice p4 n4 c4, .slice p5 n5 c5], err]) ∧ W.heap.size ≤ w2.heap.size ∧ (∀ j, w.heap.size ≤ j → j < W.heap.size → w2.heap[j]? = W.heap[j]?) ∧ w2.heap[bx]? = W.heap[bx]? ∧ T x1 x2 x3 (.slice p4 n4 c4) (.slice p5 n5 c5) err er W w2)
  (hE : ∀ x1 x2 x3 ys xs err er W w2, T x1 x2 x3 ys xs err er W w2 → ∀ W3, Below w2.heap.size w2 W3 → Calls Tryz.prog 34 #[err] W3 fun e w4 => e = .returned (.int .i64 er) ∧ Below W3.heap.size W3 w4) :
  Calls Tryz.prog 16 #[.pointer (some ⟨bx, 0, none⟩), .agg #[.int .i64 k, .int .i64 x, .int .i64 y]] w fun e w' => ∃ x1 x2 x3 p4 n4 c4 p5 n5 c5 err er W w2, e = .returned (.agg #[.int .i64 er, .int .i64 x1, .int .i64 x2, .int .i64 x3, .slice p4 n4 c4, .slice p5 n5 c5]) ∧ Kept (fun j => j = bx) w W ∧ T x1 x2 x3 (.slice p4 n4 c4) (.slice p5 n5 c5) err er W w2 ∧ Kept (fun j => j = bx ∨ (w.heap.size ≤ j ∧ j < W.heap.size)) w2 w' ∧ w'.heap[bx]? = some (outer' (.int .i32 0) (.int .u32 0) bi) := by
 have hlt : bx < w.heap.size := (Array.getElem?_eq_some_iff.1 hbx).1
 have hB : Below w.heap.size w ((w.alloc (.cells #[.int .i64 k, .int .i64 x, .int .i64 y] 29)).alloc (.cells #[.int .i64 0, .int .i64 0, .int .i64 0, .int .i64 0, .slice none 0 0, .slice none 0 0] 34)) := ((Below.refl _ _).alloc (Nat.le_refl _) _).alloc (by simp) _
 have hb0 := (hB.block bx hlt).trans hbx
 have c0 := cell_of_row _ _ 0 _ _ (0, 0) hb0
 have cf := frozen_of_row _ _ 0 _ _ hb0
 simp at c0
 go_enter_defers Tryz.func16, Tryz.ntmps16
 go_wp2_with (go_at_call 31; refine (lock_any ⟨bx, 0, none⟩ _ c0 cf).mono ?_; rintro e w1 ⟨rfl, hw1⟩; refine Hid.out ?_)
 refine Lib.hid ?_
 clear hB hb0 c0 cf hw1
 have K1 : Kept (fun j => j = bx) w (((w.setCell ⟨bx, 0, none⟩ (.int .i32 1)).alloc (.cells #[.int .i64 k, .int .i64 x, .int .i64 y] 29)).alloc (.cells noughtsR 34)) := (((Kept.refl (fun j => j = bx) w).setCell (p := ⟨bx, 0, none⟩) (Or.inl rfl) _).alloc _).alloc _
 have b0 : (w.setCell ⟨bx, 0, none⟩ (.int .i32 1)).heap[bx]? = some (outer' (.int .i32 1) (.int .u32 0) bi) := heap_setCell_same w bx 0 _ _ _ hbx
 have b1 := ((Below.heap_alloc ((w.setCell ⟨bx, 0, none⟩ (.int .i32 1)).alloc (.cells #[.int .i64 k, .int .i64 x, .int .i64 y] 29)) (.cells noughtsR 34) bx (by simp; omega)).trans (Below.heap_alloc _ (.cells #[.int .i64 k, .int .i64 x, .int .i64 y] 29) bx (by simp; omega))).trans b0
 have g0 := (Below.heap_alloc ((w.setCell ⟨bx, 0, none⟩ (.int .i32 1)).alloc (.cells #[.int .i64 k, .int .i64 x, .int .i64 y] 29)) (.cells noughtsR 34) w.heap.size (by simp)).trans (alloc_at (w.setCell ⟨bx, 0, none⟩ (.int .i32 1)) _ _ (by simp))
 have g1 := alloc_at ((w.setCell ⟨bx, 0, none⟩ (.int .i32 1)).alloc (.cells #[.int .i64 k, .int .i64 x, .int .i64 y] 29)) (.cells noughtsR 34) (w.heap.size + 1) (by simp)
 generalize ((w.setCell ⟨bx, 0, none⟩ (.int .i32 1)).alloc (.cells #[.int .i64 k, .int .i64 x, .int .i64 y] 29)).alloc (.cells noughtsR 34) = W1 at *
 have hz1 : w.heap.size + 1 < W1.heap.size := (Array.getElem?_eq_some_iff.1 g1).1
 have m0 := cell_of_row _ _ 0 _ _ (0, 0) g0
 have m1 := cell_of_row _ _ 1 _ _ (0, 0) g0
 have m2 := cell_of_row _ _ 2 _ _ (0, 0) g0
 simp at m0 m1 m2
 clear b0
 have HG1 := Lib.hid g1
 have HB1 := Lib.hid b1
 have HK1 := Lib.hid K1
 clear g0 g1 b1 K1
 have HD := Lib.hid hD
 have HE := Lib.hid hE
 clear hD hE hbx
 go_wp2_with (go_at_call 33; refine (HD.out _ HK1.out HB1.out).mono ?_; rintro e w2 ⟨e0, x1, x2, x3, p4, n4, c4, p5, n5, c5, err, er, rfl, hs2, hsp, hx2, hT⟩; refine Hid.out ?_)
 refine Lib.hid ?_
 have g1' := (hsp (w.heap.size + 1) (by omega) hz1).trans HG1.out
 have HT := Lib.hid hT
 have HX2 := Lib.hid (hx2.trans HB1.out)
 have HSP := Lib.hid hsp
 have hz2 : w.heap.size + 1 < w2.heap.size := by omega
 have HG2 := Lib.hid g1'
 clear hT hx2 hsp g1' m0 m1 m2
 have rb := alloc_at w2 (.cells #[.int .i64 e0, .int .i64 x1, .int .i64 x2, .int .i64 x3, .slice p4 n4 c4, .slice p5 n5 c5] 34) w2.heap.size rfl
 have hb3 : Below w2.heap.size w2 (w2.alloc (.cells #[.int .i64 e0, .int .i64 x1, .int .i64 x2, .int .i64 x3, .slice p4 n4 c4, .slice p5 n5 c5] 34)) := (Below.refl _ _).alloc (Nat.le_refl _) _
 have HRB := Lib.hid rb
 have HB3 := Lib.hid hb3
 clear rb hb3
 go_wp2_with (go_at_call 34; refine (HE.out _ _ _ _ _ _ _ _ _ HT.out _ HB3.out).mono ?_; rintro e w4 ⟨rfl, hb4⟩; refine Hid.out ?_)
 refine Lib.hid ?_
 have r4 := (hb4.block w2.heap.size (by simp)).trans HRB.out
 have hb24 : Below w2.heap.size w2 w4 := HB3.out.trans (hb4.mono (by simp))
 have g4 := (hb24.block (w.heap.size + 1) hz2).trans HG2.out
 have x4 := (hb24.block bx (by omega)).trans HX2.out
 have s0 := cell_of_row _ _ 0 _ _ (0, 0) r4
 have s1 := cell_of_row _ _ 1 _ _ (0, 0) r4
 have s2 := cell_of_row _ _ 2 _ _ (0, 0) r4
 have s3 := cell_of_row _ _ 3 _ _ (0, 0) r4
 have s4 := cell_of_row _ _ 4 _ _ (0, 0) r4
 have s5 := cell_of_row _ _ 5 _ _ (0, 0) r4
 have sf := fun j => frozen_of_row _ _ j _ _ r4
 have q0 := cell_of_row _ _ 0 _ _ (0, 0) g4
 have q1 := cell_of_row _ _ 1 _ _ (0, 0) g4
 have q2 := cell_of_row _ _ 2 _ _ (0, 0) g4
 have q3 := cell_of_row _ _ 3 _ _ (0, 0) g4
 have q4 := cell_of_row _ _ 4 _ _ (0, 0) g4
 have q5 := cell_of_row _ _ 5 _ _ (0, 0) g4
 have qf := fun j => frozen_of_row _ _ j _ _ g4
 simp at s0 s1 s2 s3 s4 s5 q0 q1 q2 q3 q4 q5
 have hne1 : w2.heap.size ≠ w.heap.size + 1 := by omega
 have hz4 : w2.heap.size < w4.heap.size := (Array.getElem?_eq_some_iff.1 r4).1
 have HR4 := Lib.hid r4
 have HG4 := Lib.hid g4
 have HX4 := Lib.hid x4
 have HB4 := Lib.hid hb24
 clear r4 g4 x4 hb4 hb24
 go_wp2
 obtain ⟨K5, G5, X5⟩ := doL_end (x0 := .int .i64 er) (x1 := .int .i64 x1) (x2 := .int .i64 x2) (x3 := .int .i64 x3) (x4 := .slice p4 n4 c4) (x5 := .slice p5 n5 c5) hlt hz1 hz2 HB4.out hz4 HG4.out HX4.out
 unfold putL at K5 G5 X5
 generalize (((((((w4.setCell ⟨w2.heap.size, 0, none⟩ (.int .i64 er)).setCell ⟨w.heap.size + 1, 0, none⟩ (.int .i64 er)).setCell ⟨w.heap.size + 1, 1, none⟩ (.int .i64 x1)).setCell ⟨w.heap.size + 1, 2, none⟩ (.int .i64 x2)).setCell ⟨w.heap.size + 1, 3, none⟩ (.int .i64 x3)).setCell ⟨w.heap.size + 1, 4, none⟩ (.slice p4 n4 c4)).setCell ⟨w.heap.size + 1, 5, none⟩ (.slice p5 n5 c5)) = W5 at K5 G5 X5 ⊢
 clear s0 s1 s2 s3 s4 s5 sf q0 q1 q2 q3 q4 q5 qf
 have cx := cell_of_row _ _ 0 _ _ (0, 0) X5
 have f5 := frozen_of_row _ _ 0 _ _ X5
 simp at cx
 refine leaves_cons (f := 32) (args := #[.pointer (some ⟨bx, 0, none⟩)]) (by simp) (by simp [go_sem]) ?_
 refine (unlock_late ⟨bx, 0, none⟩ .returning _ cx f5).mono ?_
 rintro e u' w'' ⟨rfl, rfl, rfl⟩
 have ne : w.heap.size + 1 ≠ bx := by omega
 refine ⟨_, results_cell_row Tryz.results16 _ _ (w.heap.size + 1) 34 #[.int .i64 er, .int .i64 x1, .int .i64 x2, .int .i64 x3, .slice p4 n4 c4, .slice p5 n5 c5] (0, 0) _ rfl ((Below.heap_setCell _ _ _ _ ne).trans G5) Tryz.underlying34 rfl replyL_size, x1, x2, x3, p4, n4, c4, p5, n5, c5, err, er, W1, w2, rfl, HK1.out, HT.out, K5.setCell (p := ⟨bx, 0, none⟩) (Or.inl (Or.inl rfl)) _, heap_setCell_same _ _ 0 _ _ _ X5⟩
end Go.Proofs.YtpcgnadfldimhaaGreatDoor
namespace Go.Proofs.YtpcgnadfldimhaaGreatDoor
open Go.RowKit

/-- Which blocks are the program's cluster's own, the lock's among them. -/
def progB (bx bi : Nat) (vr vl vh : Value) (k : Nat) : Prop := k = bx ∨ clB bi vr vl vh k

/-- The program's cluster between its calls: the lock is free. -/
structure Prog (B bx bi : Nat) (nodes jobs wall last now : Int) (vr vl vh : Value) (L : List Job) (E : List Ev) (w : World) : Prop where
 out : w.heap[bx]? = some (outer (.int .i32 0) (.int .u32 0) bi)
 clu : Clu B bi nodes jobs wall last now vr vl vh L E w
 lowx : B ≤ bx
 lowi : B ≤ bi

theorem Prog.lt {B bx bi : Nat} {nodes jobs wall last now : Int} {vr vl vh : Value} {L : List Job} {E : List Ev} {w : World} (h : Prog B bx bi nodes jobs wall last now vr vl vh L E w) (k : Nat) (hk : progB bx bi vr vl vh k) : B ≤ k ∧ k < w.heap.size := by
 rcases hk with rfl | hk
 ·exact ⟨h.lowx, (Array.getElem?_eq_some_iff.1 h.out).1⟩
 ·refine ⟨?_, h.clu.cl.lt k hk⟩
  rcases hk with rfl | e | e | e
  ·exact h.lowi
  ·exact (h.clu.cl.rcd.lt k e).1
  ·exact (h.clu.cl.liv.lt k e).1
  ·exact (World.ownsRow.lt h.clu.cl.hp.row k e).1

theorem Clu.kept {base bi : Nat} {nodes jobs wall last now : Int} {vr vl vh : Value} {L : List Job} {E : List Ev} {w w' : World} {S : Nat → Prop} (h : Clu base bi nodes jobs wall last now vr vl vh L E w) (hK : Kept S w w') (hS : ∀ k, clB bi vr vl vh k → ¬ S k) : Clu base bi nodes jobs wall last now vr vl vh L E w' := ⟨h.cl.kept hK (fun k hs hk => hS k hk hs), h.due, h.heap, h.few⟩

theorem Prog.kept {B bx bi : Nat} {nodes jobs wall last now : Int} {vr vl vh : Value} {L : List Job} {E : List Ev} {w w' : World} {S : Nat → Prop} (h : Prog B bx bi nodes jobs wall last now vr vl vh L E w) (hK : Kept S w w') (hS : ∀ k, progB bx bi vr vl vh k → ¬ S k) : Prog B bx bi nodes jobs wall last now vr vl vh L E w' :=
 ⟨(hK.block bx (h.lt bx (Or.inl rfl)).2 (hS bx (Or.inl rfl))).trans h.out, h.clu.kept hK (fun k hk => hS k (Or.inr hk)), h.lowx, h.lowi⟩

theorem outer_off {B bx bi : Nat} {s0 s1 : Value} {nodes jobs wall last now : Int} {vr vl vh : Value} {L : List Job} {E : List Ev} {w : World} (ho : w.heap[bx]? = some (outer s0 s1 bi)) (h : Clu B bi nodes jobs wall last now vr vl vh L E w) : ¬ clB bi vr vl vh bx := by
 rintro (rfl | e | e | e)
 ·have hb := h.cl.hp.blk
  rw [ho] at hb
  simp at hb
 ·exact owns_not h.cl.rcd ho (by decide) e
 ·exact owns_not h.cl.liv ho (by decide) e
 ·exact owns_not h.cl.hp.row ho (by decide) e

theorem Spare.of_mid {base bi : Nat} {nodes jobs wall last : Int} {vr vl vh y x : Value} {o : Out} {w W w2 : World} (h : Mid base bi nodes jobs wall last vr vl vh o y x W w2) (hc : ∀ k, clB bi vr vl vh k → k < w.heap.size) : Spare w.heap.size W w2 := by
 obtain ⟨_, _, _, _, _, hT, _⟩ := h.clu
 exact Spare.of_trail hT hc

theorem ErrIs.on {a p1 p2 p3 p4 p5 : Addr} {err : Value} {r : Int} {w w' : World} (h : ErrIs a p1 p2 p3 p4 p5 err r w) (hb : Below w.heap.size w w') : ErrIs a p1 p2 p3 p4 p5 err r w' := by
 have hc : ∀ (p : Addr) (v : Value), w.cell? p = some v → w'.cell? p = some v := fun p v e => (hb.cell (block_lt_of_cell e)).trans e
 rcases h with h | ⟨rfl, b, rfl, hr⟩ | ⟨pa, rfl, ⟨rfl, h⟩ | ⟨rfl, h⟩ | ⟨rfl, h⟩ | ⟨rfl, h⟩ | ⟨rfl, h⟩ | ⟨rfl, h⟩⟩
 ·exact Or.inl h
 ·refine Or.inr (Or.inl ⟨rfl, b, rfl, ?_⟩)
  rcases hr with h1 | ⟨c, h1, h2⟩
  ·exact Or.inl (hc _ _ h1)
  ·exact Or.inr ⟨c, hc _ _ h1, hc _ _ h2⟩
 ·exact Or.inr (Or.inr ⟨pa, rfl, Or.inl ⟨rfl, h.on hb⟩⟩)
 ·exact Or.inr (Or.inr ⟨pa, rfl, Or.inr (Or.inl ⟨rfl, h.on hb⟩)⟩)
 ·exact Or.inr (Or.inr ⟨pa, rfl, Or.inr (Or.inr (Or.inl ⟨rfl, h.on hb⟩))⟩)
 ·exact Or.inr (Or.inr ⟨pa, rfl, Or.inr (Or.inr (Or.inr (Or.inl ⟨rfl, h.on hb⟩)))⟩)
 ·exact Or.inr (Or.inr ⟨pa, rfl, Or.inr (Or.inr (Or.inr (Or.inr (Or.inl ⟨rfl, h.on hb⟩))))⟩)
 ·exact Or.inr (Or.inr ⟨pa, rfl, Or.inr (Or.inr (Or.inr (Or.inr (Or.inr ⟨rfl, h.on hb⟩))))⟩)

/-- Do: its answer is the document's, Cancel and Done among it. -/
theorem doP (B bx bi : Nat) (nodes jobs wall last now : Int) (vr vl vh : Value) (L : List Job) (E : List Ev) (a : Addr) (m : Int) (w0 : World) (hE : Env a m w0) (w : World) (h0 : Below w0.heap.size w0 w) (hB0 : w0.heap.size ≤ B) (hBw : B ≤ w.heap.size) (h : Prog B bx bi nodes jobs wall last now vr vl vh L E w) (hG : Good nodes jobs wall last now L) (hl : L.length < 1000000000) (k x y : Int) :
  Calls Tryz.prog 16 #[.pointer (some ⟨bx, 0, none⟩), .agg #[.int .i64 k, .int .i64 x, .int .i64 y]] w fun e w' => ∃ o y1 x1 vr' vl' vh' E', DoE nodes jobs wall last now L k x y o ∧ e = .returned (.agg #[.int .i64 o.err, .int .i64 o.a, .int .i64 o.b, .int .i64 o.c, y1, x1]) ∧
   w'.ownsRow w.heap.size 57 4 y1 o.rows.length (flatR o.rows) ∧ w'.ownsRow w.heap.size 55 4 x1 o.evs.length (flatE o.evs) ∧ Prog B bx bi nodes jobs wall last o.now vr' vl' vh' o.L E' w' ∧ Kept (progB bx bi vr vl vh) w w' ∧ (∀ k, progB bx bi vr' vl' vh' k → progB bx bi vr vl vh k ∨ w.heap.size ≤ k) ∧ ∀ k, x1.ownBlock = some k → ¬ progB bx bi vr' vl' vh' k := by
 obtain ⟨p1, p2, p3, p4, p5, hA0⟩ := hE.asks
 have hoff := outer_off h.out h.clu
 have hc : ∀ k, clB bi vr vl vh k → B ≤ k ∧ k < w.heap.size := fun k e => h.lt k (Or.inr e)
 have hbx := h.lt bx (Or.inl rfl)
 have hW : ∀ W, Kept (fun j => j = bx) w W → Below w0.heap.size w0 W ∧ Clu B bi nodes jobs wall last now vr vl vh L E W := fun W hK => ⟨h0.trans (hK.below (by omega) (fun k e => by have := hbx.1; omega)), h.clu.kept hK (fun k e e2 => hoff (e2 ▸ e))⟩
 refine (doL bx bi w k x y h.out (fun a1 b1 c1 ys xs err er W w2 => ∃ o, DoE nodes jobs wall last now L k x y o ∧ a1 = o.a ∧ b1 = o.b ∧ c1 = o.c ∧ er = o.err ∧ ErrIs a p1 p2 p3 p4 p5 err o.err w2 ∧ Mid B bi nodes jobs wall last vr vl vh o ys xs W w2 ∧ Below w0.heap.size w0 W) ?_ ?_).mono ?_
 ·intro W hK hx
  obtain ⟨hb, hC⟩ := hW W hK
  refine (doD B bx bi _ _ nodes jobs wall last now vr vl vh L E a m W (hE.on hb) hx hC hG p1 p2 p3 p4 p5 (hA0.on hb) (Nat.le_trans hBw hK.size) hl k x y).mono ?_
  rintro e w2 ⟨o, y1, x1, e0, err, rfl, hD, hEr, hM⟩
  obtain ⟨q1, c1, rfl⟩ := own_slice hM.rows
  obtain ⟨q2, c2, rfl⟩ := own_slice hM.evs
  have hS := Spare.of_mid hM (fun k e => (hc k e).2)
  obtain ⟨_, _, _, _, _, hT, _⟩ := hM.clu
  exact ⟨e0, o.a, o.b, o.c, q1, _, c1, q2, _, c2, err, o.err, rfl, hS.1, hS.2, hT.kept.block bx (Nat.lt_of_lt_of_le hbx.2 hK.size) hoff, o, hD, rfl, rfl, rfl, rfl, hEr, hM, hb⟩
 ·rintro a1 b1 c1 ys xs err er W w2 ⟨o, hD, rfl, rfl, rfl, rfl, hEr, hM, hb⟩ W3 hb4
  obtain ⟨vr', vl', vh', E', hC2, hT, _⟩ := hM.clu
  have hb2 : Below w0.heap.size w0 w2 := hb.trans (hT.kept.below hb.size (fun k e => by have := (hc k e).1; omega))
  have hb3 : Below w0.heap.size w0 W3 := hb2.trans (hb4.mono hb2.size)
  exact errno_any a p1 p2 p3 p4 p5 err o.err W3 (hA0.on hb3) (hEr.on hb4)
 ·rintro e w' ⟨a1, b1, c1, q1, n1, k1, q2, n2, k2, err, er, W, w2, rfl, hK, ⟨o, hD, rfl, rfl, rfl, rfl, hEr, hM, hb⟩, hK2, hout⟩
  obtain ⟨vr', vl', vh', E', hC2, hT, hx1⟩ := hM.clu
  have hsW := hK.size
  have hbx2 := hbx.2
  have hn : ∀ k, clB bi vr' vl' vh' k → ¬ (k = bx ∨ (w.heap.size ≤ k ∧ k < W.heap.size)) := fun k e => by
   rcases hT.new k e with e | e
   ·have := (hc k e).2
    rintro (rfl | e2)
    ·exact hoff e
    ·omega
   ·rintro (e2 | e2)
    ·omega
    ·omega
  refine ⟨o, _, _, vr', vl', vh', E', hD, rfl, owns_on (owns_mono hM.rows hsW) (fun k e => hK2.block k (hM.rows.lt k e).2 (by have := (hM.rows.lt k e).1; rintro (e2 | e2) <;> omega)), owns_on (owns_mono hM.evs hsW) (fun k e => hK2.block k (hM.evs.lt k e).2 (by have := (hM.evs.lt k e).1; rintro (e2 | e2) <;> omega)), ⟨hout, hC2.kept hK2 hn, h.lowx, h.lowi⟩, ?_, ?_, ?_⟩
  ·exact ((hK.mono (T := progB bx bi vr vl vh) (fun k e => Or.inl e)).trans (hT.kept.mono (T := progB bx bi vr vl vh) (fun k e => Or.inr e)) (fun i e => Or.inl e)).trans hK2 (fun i e => e.elim (fun e => Or.inl (Or.inl e)) (fun e => Or.inr e.1))
  ·rintro k (e | e)
   ·exact Or.inl (Or.inl e)
   ·rcases hT.new k e with e | e
    ·exact Or.inl (Or.inr e)
    ·exact Or.inr (by omega)
  ·rintro k e (e2 | e2)
   ·have := (hM.evs.lt k e).1
    omega
   ·exact hx1 k e e2

end Go.Proofs.YtpcgnadfldimhaaGreatDoor
