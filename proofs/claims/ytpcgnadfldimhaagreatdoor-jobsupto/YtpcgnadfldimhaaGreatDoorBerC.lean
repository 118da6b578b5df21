/-
  berth's do: what it answers is what the document's Do answers, and the cluster behind it.
-/
import Derived.Test.YtpcgnadfldimhaaGreatDoorBerX
import Derived.Test.YtpcgnadfldimhaaGreatDoorRefDD
namespace Go.Proofs.YtpcgnadfldimhaaGreatDoor
open Go.RowKit

/-- An error value that errnoOf calls r. -/
def ErrIs (a p1 p2 p3 p4 _p5 : Addr) (err : Value) (r : Int) (w : World) : Prop :=
  (r = 0 ∧ err = .nilIface) ∨ (r = 1 ∧ ∃ b, err = .iface 209 (.pointer (some ⟨b, 0, none⟩)) ∧ Refusal a b w) ∨
  (∃ pa, err = .iface 160 (.pointer (some ⟨pa, 0, none⟩)) ∧ ((r = 2 ∧ RefV w pa p1) ∨ (r = 3 ∧ RefV w pa p2) ∨ (r = 4 ∧ RefV w pa p3) ∨ (r = 7 ∧ RefV w pa p4) ∨ (r = 5 ∧ RefJ w pa)))

theorem errno_any (a p1 p2 p3 p4 p5 : Addr) (err : Value) (r : Int) (w : World) (hA : Asks a p1 p2 p3 p4 p5 w) (h : ErrIs a p1 p2 p3 p4 p5 err r w) :
    Calls Tryz.prog 34 #[err] w fun e w' => e = .returned (.int .i64 r) ∧ Below w.heap.size w w' := by
  rcases h with ⟨rfl, rfl⟩ | ⟨rfl, b, rfl, hb⟩ | ⟨pa, rfl, ⟨rfl, h⟩ | ⟨rfl, h⟩ | ⟨rfl, h⟩ | ⟨rfl, h⟩ | ⟨rfl, h⟩⟩
  · exact errno_nil w
  · exact errno_bad a b w ⟨p1, p2, p3, p4, p5, hA⟩ hb
  · exact errno_v1 a p1 p2 p3 p4 p5 pa w hA h
  · exact errno_v2 a p1 p2 p3 p4 p5 pa w hA h
  · exact errno_v3 a p1 p2 p3 p4 p5 pa w hA h
  · exact errno_v4 a p1 p2 p3 p4 p5 pa w hA h
  · exact errno_j a p1 p2 p3 p4 p5 pa w hA h

theorem iface_kept {w w' : World} {g c j : Nat} {t : TypeId} {v : Value} (hK : Kept (fun k => k = g) w w') (hq : w.heap[g]? = some (.cells noughts6 34 (0, 0))) (h : w.cell? ⟨c, j, none⟩ = some (.iface t v)) : w'.cell? ⟨c, j, none⟩ = some (.iface t v) := by
  have hne : c ≠ g := fun e => by
    subst e
    rw [cell_of_row _ _ j _ _ (0, 0) hq] at h
    have hj : j < 6 := (Array.getElem?_eq_some_iff.1 h).1
    have : j = 0 ∨ j = 1 ∨ j = 2 ∨ j = 3 ∨ j = 4 ∨ j = 5 := by omega
    rcases this with rfl | rfl | rfl | rfl | rfl | rfl <;> simp at h
  rw [World.cell?_of_block (hK.block c (block_lt_of_cell (a := ⟨c, j, none⟩) h) hne)]
  exact h

theorem ErrIs.kept {a p1 p2 p3 p4 p5 : Addr} {err : Value} {r : Int} {w w' : World} {g : Nat} (h : ErrIs a p1 p2 p3 p4 p5 err r w) (hK : Kept (fun k => k = g) w w') (hq : w.heap[g]? = some (.cells noughts6 34 (0, 0))) : ErrIs a p1 p2 p3 p4 p5 err r w' := by
  have hV : ∀ pa p, RefV w pa p → RefV w' pa p := fun pa p ⟨pb, h1, h2⟩ => ⟨pb, iface_kept hK hq h1, iface_kept hK hq h2⟩
  rcases h with h | ⟨rfl, b, rfl, hb⟩ | ⟨pa, rfl, ⟨rfl, h⟩ | ⟨rfl, h⟩ | ⟨rfl, h⟩ | ⟨rfl, h⟩ | ⟨rfl, h⟩⟩
  · exact Or.inl h
  · refine Or.inr (Or.inl ⟨rfl, b, rfl, ?_⟩)
    rcases hb with h1 | ⟨c, h1, h2⟩
    · exact Or.inl (iface_kept hK hq h1)
    · exact Or.inr ⟨c, iface_kept hK hq h1, iface_kept hK hq h2⟩
  · exact Or.inr (Or.inr ⟨pa, rfl, Or.inl ⟨rfl, hV _ _ h⟩⟩)
  · exact Or.inr (Or.inr ⟨pa, rfl, Or.inr (Or.inl ⟨rfl, hV _ _ h⟩)⟩)
  · exact Or.inr (Or.inr ⟨pa, rfl, Or.inr (Or.inr (Or.inl ⟨rfl, hV _ _ h⟩))⟩)
  · exact Or.inr (Or.inr ⟨pa, rfl, Or.inr (Or.inr (Or.inr (Or.inl ⟨rfl, hV _ _ h⟩)))⟩)
  · obtain ⟨c, h1⟩ := h
    exact Or.inr (Or.inr ⟨pa, rfl, Or.inr (Or.inr (Or.inr (Or.inr ⟨rfl, c, iface_kept hK hq h1⟩)))⟩)

/-- What a call leaves: the answer's lists, owned, and the cluster. -/
structure Mid (base bi : Nat) (nodes jobs wall last : Int) (vr vl vh : Value) (o : Out) (y x : Value) (W w2 : World) : Prop where
  rows : w2.ownsRow W.heap.size 57 4 y o.rows.length (flatR o.rows)
  evs : w2.ownsRow W.heap.size 55 4 x o.evs.length (flatE o.evs)
  clu : ∃ vr' vl' vh' E', Clu base bi nodes jobs wall last o.now vr' vl' vh' o.L E' w2 ∧ Trail bi vr vl vh vr' vl' vh' W w2 ∧ ∀ k, x.ownBlock = some k → ¬ clB bi vr' vl' vh' k

theorem Clu.below {base bi : Nat} {nodes jobs wall last now : Int} {vr vl vh : Value} {L : List Job} {E : List Ev} {w w' : World} (h : Clu base bi nodes jobs wall last now vr vl vh L E w) (hb : Below w.heap.size w w') : Clu base bi nodes jobs wall last now vr vl vh L E w' := ⟨h.cl.below hb, h.due, h.heap, h.few⟩

theorem Mid.same {base bi : Nat} {nodes jobs wall last now : Int} {vr vl vh : Value} {L : List Job} {E : List Ev} {W w2 : World} (h : Clu base bi nodes jobs wall last now vr vl vh L E W) (hb : Below W.heap.size W w2) (r a b c : Int) : Mid base bi nodes jobs wall last vr vl vh ⟨r, a, b, c, [], [], now, L⟩ (.slice none 0 0) (.slice none 0 0) W w2 :=
  ⟨World.ownsRow_nil _ _ _ _, World.ownsRow_nil _ _ _ _, vr, vl, vh, E, h.below hb, Trail.ofBelow hb, fun k e => by simp [Value.ownBlock] at e⟩

theorem Mid.left {base bi : Nat} {nodes jobs wall last now : Int} {vr vl vh x : Value} {M : List Job} {es : List Ev} {W w2 : World} (h : CluLeft base bi nodes jobs wall last now vr vl vh M es x W w2) (r a b c : Int) : Mid base bi nodes jobs wall last vr vl vh ⟨r, a, b, c, [], es, now, M⟩ (.slice none 0 0) x W w2 :=
  ⟨World.ownsRow_nil _ _ _ _, h.own, h.clu⟩

theorem Mid.ends {base bi : Nat} {nodes jobs wall last : Int} {vr vl vh y x : Value} {o : Out} {w W w2 w' : World} (hM : Mid base bi nodes jobs wall last vr vl vh o y x W w2) (hb : Below w.heap.size w W) (hz : w.heap.size + 1 < W.heap.size) (hK : Kept (fun k => k = w.heap.size + 1) w2 w') (hc : ∀ k, clB bi vr vl vh k → k < w.heap.size) : Mid base bi nodes jobs wall last vr vl vh o y x w w' := by
  obtain ⟨vr', vl', vh', E', hC, hT, hx⟩ := hM.clu
  have hn : ¬ clB bi vr' vl' vh' (w.heap.size + 1) := fun e => by
    rcases hT.new _ e with e | e
    · have := hc _ e; omega
    · omega
  have hT2 := (Trail.ofBelow (bi := bi) (vr := vr) (vl := vl) (vh := vh) hb).trans hT
  refine ⟨owns_on (owns_mono hM.rows hb.size) (fun k e => hK.block k (hM.rows.lt k e).2 (fun e2 => by have := (hM.rows.lt k e).1; omega)), owns_on (owns_mono hM.evs hb.size) (fun k e => hK.block k (hM.evs.lt k e).2 (fun e2 => by have := (hM.evs.lt k e).1; omega)), vr', vl', vh', E', ⟨hC.cl.kept hK (fun k e => e ▸ hn), hC.due, hC.heap, hC.few⟩, ⟨hT2.kept.trans hK (fun k e => Or.inr (by omega)), hT2.new⟩, hx⟩

/-- What the call inside is asked for. -/
def TellT (base bi : Nat) (nodes jobs wall last now : Int) (vr vl vh : Value) (L : List Job) (k x y : Int) (a p1 p2 p3 p4 p5 : Addr) (reply err : Value) (W w2 : World) : Prop :=
  ∃ o ys xs e0, DoO nodes jobs wall last now L k x y o ∧ reply = .agg #[.int .i64 e0, .int .i64 o.a, .int .i64 o.b, .int .i64 o.c, ys, xs] ∧ ErrIs a p1 p2 p3 p4 p5 err o.err w2 ∧ Mid base bi nodes jobs wall last vr vl vh o ys xs W w2

section
variable (base bi : Nat) (nodes jobs wall last now : Int) (vr vl vh : Value) (L : List Job) (E : List Ev) (w W : World) (h : Clu base bi nodes jobs wall last now vr vl vh L E W) (hG : Good nodes jobs wall last now L) (a p1 p2 p3 p4 p5 : Addr) (hA : Asks a p1 p2 p3 p4 p5 W) (hbase : base ≤ W.heap.size) (hl : L.length < 1000000000) (hc : ∀ k, clB bi vr vl vh k → k < w.heap.size) (x y : Int)

include h hG hA hbase hl hc in
theorem inSubmit (hr : rendOk 1 x y = true) : Calls Tryz.prog 53 #[.pointer (some ⟨bi, 0, none⟩), .int .i64 x, .int .i64 y] W fun e w2 => ∃ e0 x1 x2 x3 p4' n4 c4 p5' n5 c5 err, e = .returned (.tuple #[.agg #[.int .i64 e0, .int .i64 x1, .int .i64 x2, .int .i64 x3, .slice p4' n4 c4, .slice p5' n5 c5], err]) ∧ Spare w.heap.size W w2 ∧ TellT base bi nodes jobs wall last now vr vl vh L 1 x y a p1 p2 p3 p4 p5 (.agg #[.int .i64 e0, .int .i64 x1, .int .i64 x2, .int .i64 x3, .slice p4' n4 c4, .slice p5' n5 c5]) err W w2 := by
  have hSl : (seats L).length = liveN L L.length := seatsN_len L L.length
  by_cases hw : x < 1 ∨ nodes < x
  · refine (submitC_no bi W p1 x y (fun w1 hb => checkJob_w base bi nodes jobs wall last now vr vl vh L (seats L) E w1 (h.cl.below hb) a p1 p2 p3 p4 p5 (hA.on hb) x y hw)).mono ?_
    rintro e w2 ⟨pa, rfl, hR, hb⟩
    exact ⟨0, 0, 0, 0, none, 0, 0, none, 0, 0, _, rfl, Spare.of_below hb, ⟨2, 0, 0, 0, [], [], now, L⟩, .slice none 0 0, .slice none 0 0, 0, Or.inr ⟨hr, Or.inl ⟨rfl, by unfold submitO; rw [if_pos hw]⟩⟩, rfl, Or.inr (Or.inr ⟨pa, rfl, Or.inl ⟨rfl, hR⟩⟩), Mid.same h hb 2 0 0 0⟩
  by_cases hwl : y < 1 ∨ wall < y
  · refine (submitC_no bi W p2 x y (fun w1 hb => checkJob_l base bi nodes jobs wall last now vr vl vh L (seats L) E w1 (h.cl.below hb) a p1 p2 p3 p4 p5 (hA.on hb) x y (by omega) (by omega) hwl)).mono ?_
    rintro e w2 ⟨pa, rfl, hR, hb⟩
    exact ⟨0, 0, 0, 0, none, 0, 0, none, 0, 0, _, rfl, Spare.of_below hb, ⟨3, 0, 0, 0, [], [], now, L⟩, .slice none 0 0, .slice none 0 0, 0, Or.inr ⟨hr, Or.inl ⟨rfl, by unfold submitO; rw [if_neg hw, if_pos hwl]⟩⟩, rfl, Or.inr (Or.inr ⟨pa, rfl, Or.inr (Or.inl ⟨rfl, hR⟩)⟩), Mid.same h hb 3 0 0 0⟩
  by_cases hf : jobs ≤ (liveN L L.length : Int)
  · refine (submitC_no bi W p3 x y (fun w1 hb => checkJob_f base bi nodes jobs wall last now vr vl vh L (seats L) E w1 (h.cl.below hb) a p1 p2 p3 p4 p5 (hA.on hb) x y (by omega) (by omega) (by omega) (by omega) (by rw [hSl]; exact hf))).mono ?_
    rintro e w2 ⟨pa, rfl, hR, hb⟩
    exact ⟨0, 0, 0, 0, none, 0, 0, none, 0, 0, _, rfl, Spare.of_below hb, ⟨4, 0, 0, 0, [], [], now, L⟩, .slice none 0 0, .slice none 0 0, 0, Or.inr ⟨hr, Or.inl ⟨rfl, by unfold submitO; rw [if_neg hw, if_neg hwl, if_pos hf]⟩⟩, rfl, Or.inr (Or.inr ⟨pa, rfl, Or.inr (Or.inr (Or.inl ⟨rfl, hR⟩))⟩), Mid.same h hb 4 0 0 0⟩
  have hp := hG.promise (x := x) (y := y) (by omega) (by omega) (by omega) (by omega) hf
  have h0 := hG.now0
  have hT := hG.times
  have hcf := hG.conf
  unfold ConfOk at hcf
  refine (submitC_yes base bi nodes jobs wall last now vr vl vh L E W h hbase hl hG.widths (fun j hj => (hT j hj).2.2) (by omega) (by omega) h0 (by omega) x y (by omega) (by omega) (by omega) (by omega) hf _ (Lib.hid rfl) hp.2 (by omega)).mono ?_
  rintro e w2 ⟨xs, M, es, rfl, hR, hL⟩
  obtain ⟨p5', c5, rfl⟩ := own_slice hL.own
  obtain ⟨_, _, _, _, _, hTr, _⟩ := hL.clu
  exact ⟨0, _, _, 0, none, 0, 0, p5', es.length, c5, _, rfl, Spare.of_trail hTr hc, ⟨0, (L.length : Int) + 1, earliest L nodes now x y (-1), 0, [], es, now, M⟩, .slice none 0 0, .slice p5' es.length c5, 0, Or.inr ⟨hr, Or.inl ⟨rfl, (hG.submit (by omega) (by omega) (by omega) (by omega) hf hR).symm⟩⟩, rfl, Or.inl ⟨rfl, rfl⟩, Mid.left hL 0 _ _ 0⟩

include h hG hA hbase hc in
theorem inTick (hr : rendOk 4 x y = true) : Calls Tryz.prog 56 #[.pointer (some ⟨bi, 0, none⟩), .int .i64 x] W fun e w2 => ∃ e0 x1 x2 x3 p4' n4 c4 p5' n5 c5 err, e = .returned (.tuple #[.agg #[.int .i64 e0, .int .i64 x1, .int .i64 x2, .int .i64 x3, .slice p4' n4 c4, .slice p5' n5 c5], err]) ∧ Spare w.heap.size W w2 ∧ TellT base bi nodes jobs wall last now vr vl vh L 4 x y a p1 p2 p3 p4 p5 (.agg #[.int .i64 e0, .int .i64 x1, .int .i64 x2, .int .i64 x3, .slice p4' n4 c4, .slice p5' n5 c5]) err W w2 := by
  have hx : 0 ≤ x ∧ x ≤ 999999999999999999 := by
    have hk := hr
    simp only [rendOk, Bool.and_eq_true, decide_eq_true_eq] at hk
    obtain ⟨⟨_, hfx⟩, _⟩ := hk
    obtain ⟨m, rfl, hm⟩ := fits_true (x := x) (by simpa [numsN] using hfx)
    omega
  have h0 := hG.now0
  have h1 := hG.now1
  have hcf := hG.conf
  unfold ConfOk at hcf
  have hm0 : 0 ≤ jobs * wall := Int.mul_nonneg (by omega) (by omega)
  by_cases hn : last < now + x
  · refine (tickC_no base bi nodes jobs wall last now vr vl vh L (seats L) E W h.cl a p1 p2 p3 p4 p5 hA h0 h1 (by omega) x hn hx.2).mono ?_
    rintro e w2 ⟨pa, rfl, hR, hb⟩
    exact ⟨0, 0, 0, 0, none, 0, 0, none, 0, 0, _, rfl, Spare.of_below hb, ⟨7, 0, 0, 0, [], [], now, L⟩, .slice none 0 0, .slice none 0 0, 0, Or.inr ⟨hr, Or.inr (Or.inl ⟨rfl, Or.inl ⟨hn, rfl⟩⟩)⟩, rfl, Or.inr (Or.inr ⟨pa, rfl, Or.inr (Or.inr (Or.inr (Or.inl ⟨rfl, hR⟩)))⟩), Mid.same h hb 7 0 0 0⟩
  refine (tickC_yes base bi nodes jobs wall last now vr vl vh L E W h hbase h0 (by omega) x hx.1 (by omega)).mono ?_
  rintro e w2 ⟨xs, M, es, rfl, hR, hL⟩
  obtain ⟨p5', c5, rfl⟩ := own_slice hL.own
  obtain ⟨_, _, _, _, _, hTr, _⟩ := hL.clu
  exact ⟨0, 0, 0, 0, none, 0, 0, p5', es.length, c5, _, rfl, Spare.of_trail hTr hc, ⟨0, 0, 0, 0, [], es, now + x, M⟩, .slice none 0 0, .slice p5' es.length c5, 0, Or.inr ⟨hr, Or.inr (Or.inl ⟨rfl, tick_runs hG (by omega) hR⟩)⟩, rfl, Or.inl ⟨rfl, rfl⟩, Mid.left hL 0 0 0 0⟩

include h in
theorem inStat (hr : rendOk 5 x y = true) : Calls Tryz.prog 57 #[.pointer (some ⟨bi, 0, none⟩), .int .i64 x] W fun e w2 => ∃ e0 x1 x2 x3 p4' n4 c4 p5' n5 c5 err, e = .returned (.tuple #[.agg #[.int .i64 e0, .int .i64 x1, .int .i64 x2, .int .i64 x3, .slice p4' n4 c4, .slice p5' n5 c5], err]) ∧ Spare w.heap.size W w2 ∧ TellT base bi nodes jobs wall last now vr vl vh L 5 x y a p1 p2 p3 p4 p5 (.agg #[.int .i64 e0, .int .i64 x1, .int .i64 x2, .int .i64 x3, .slice p4' n4 c4, .slice p5' n5 c5]) err W w2 := by
  by_cases hX : x < 1 ∨ (L.length : Int) < x
  · refine (statC_no base bi nodes jobs wall last now vr vl vh L (seats L) E W h.cl x hX).mono ?_
    rintro e w2 ⟨pa, rfl, hR, hb⟩
    exact ⟨0, 0, 0, 0, none, 0, 0, none, 0, 0, _, rfl, Spare.of_below hb, ⟨5, 0, 0, 0, [], [], now, L⟩, .slice none 0 0, .slice none 0 0, 0, Or.inr ⟨hr, Or.inr (Or.inr (Or.inl ⟨rfl, hX, rfl⟩))⟩, rfl, Or.inr (Or.inr ⟨pa, rfl, Or.inr (Or.inr (Or.inr (Or.inr ⟨rfl, hR⟩)))⟩), Mid.same h hb 5 0 0 0⟩
  obtain ⟨i, rfl⟩ : ∃ i : Nat, x = (i : Int) + 1 := ⟨(x - 1).toNat, by omega⟩
  obtain ⟨j, hj⟩ : ∃ j, L[i]? = some j := ⟨_, List.getElem?_eq_getElem (by omega)⟩
  refine (statC_yes base bi nodes jobs wall last now vr vl vh L (seats L) E W h.cl i j hj).mono ?_
  rintro e w2 ⟨rfl, hb⟩
  exact ⟨0, j.phase, j.start, j.stop, none, 0, 0, none, 0, 0, _, rfl, Spare.of_below hb, ⟨0, j.phase, j.start, j.stop, [], [], now, L⟩, .slice none 0 0, .slice none 0 0, 0, Or.inr ⟨hr, Or.inr (Or.inr (Or.inr (Or.inl ⟨rfl, i, j, rfl, hj, rfl⟩)))⟩, rfl, Or.inl ⟨rfl, rfl⟩, Mid.same h hb 0 _ _ _⟩

include h hG in
theorem inQueue (hr : rendOk 6 x y = true) : Calls Tryz.prog 58 #[.pointer (some ⟨bi, 0, none⟩)] W fun e w2 => ∃ e0 x1 x2 x3 p4' n4 c4 p5' n5 c5, e = .returned (.agg #[.int .i64 e0, .int .i64 x1, .int .i64 x2, .int .i64 x3, .slice p4' n4 c4, .slice p5' n5 c5]) ∧ Spare w.heap.size W w2 ∧ TellT base bi nodes jobs wall last now vr vl vh L 6 x y a p1 p2 p3 p4 p5 (.agg #[.int .i64 e0, .int .i64 x1, .int .i64 x2, .int .i64 x3, .slice p4' n4 c4, .slice p5' n5 c5]) .nilIface W w2 := by
  have hT := hG.times
  refine (queueC_any base bi nodes jobs wall last now vr vl vh L E W h.cl (fun j hj => ⟨(hT j hj).1, (hT j hj).2.1, (hT j hj).2.2, (hG.each j hj).2.2.2.1⟩)).mono ?_
  rintro e w2 ⟨ys, rfl, hY, hb⟩
  rw [hG.rows] at hY
  obtain ⟨p4', c4, rfl⟩ := own_slice hY
  exact ⟨0, 0, 0, 0, p4', _, c4, none, 0, 0, rfl, Spare.of_below hb, ⟨0, 0, 0, 0, queueN L L.length, [], now, L⟩, _, .slice none 0 0, 0, Or.inr ⟨hr, Or.inr (Or.inr (Or.inr (Or.inr (Or.inl ⟨rfl, rfl⟩))))⟩, rfl, Or.inl ⟨rfl, rfl⟩, ⟨owns_mono hY (by omega), World.ownsRow_nil _ _ _ _, vr, vl, vh, E, h.below hb, Trail.ofBelow hb, fun k e => by simp [Value.ownBlock] at e⟩⟩

include h hG in
theorem inInfo (hr : rendOk 7 x y = true) : Calls Tryz.prog 59 #[.pointer (some ⟨bi, 0, none⟩)] W fun e w2 => ∃ e0 x1 x2 x3 p4' n4 c4 p5' n5 c5, e = .returned (.agg #[.int .i64 e0, .int .i64 x1, .int .i64 x2, .int .i64 x3, .slice p4' n4 c4, .slice p5' n5 c5]) ∧ Spare w.heap.size W w2 ∧ TellT base bi nodes jobs wall last now vr vl vh L 7 x y a p1 p2 p3 p4 p5 (.agg #[.int .i64 e0, .int .i64 x1, .int .i64 x2, .int .i64 x3, .slice p4' n4 c4, .slice p5' n5 c5]) .nilIface W w2 := by
  have hcf := hG.conf
  unfold ConfOk at hcf
  refine (infoC_any base bi nodes jobs wall last now vr vl vh L E W h.cl hG.widths (by omega) (by omega)).mono ?_
  rintro e w2 ⟨rfl, hb⟩
  exact ⟨0, now, _, _, none, 0, 0, none, 0, 0, rfl, Spare.of_below hb, ⟨0, now, freeN L nodes L.length, liveN L L.length, [], [], now, L⟩, .slice none 0 0, .slice none 0 0, 0, Or.inr ⟨hr, Or.inr (Or.inr (Or.inr (Or.inr (Or.inr ⟨rfl, rfl⟩))))⟩, rfl, Or.inl ⟨rfl, rfl⟩, Mid.same h hb 0 _ _ _⟩
end

/-- do: its answer is the document's, for all that is neither Cancel nor Done. -/
theorem doD (base bx bi : Nat) (s0 s1 : Value) (nodes jobs wall last now : Int) (vr vl vh : Value) (L : List Job) (E : List Ev) (a : Addr) (m : Int) (w : World) (hE : Env a m w) (hbx : w.heap[bx]? = some (outer s0 s1 bi)) (h : Clu base bi nodes jobs wall last now vr vl vh L E w) (hG : Good nodes jobs wall last now L) (p1 p2 p3 p4 p5 : Addr) (hA : Asks a p1 p2 p3 p4 p5 w) (hbase : base ≤ w.heap.size) (hl : L.length < 1000000000) (k x y : Int) (h2 : k ≠ 2) (h3 : k ≠ 3) :
    Calls Tryz.prog 33 #[.pointer (some ⟨bx, 0, none⟩), .agg #[.int .i64 k, .int .i64 x, .int .i64 y]] w fun e w' => ∃ o y1 x1 e0 err, e = .returned (.tuple #[.agg #[.int .i64 e0, .int .i64 o.a, .int .i64 o.b, .int .i64 o.c, y1, x1], err]) ∧ DoO nodes jobs wall last now L k x y o ∧ ErrIs a p1 p2 p3 p4 p5 err o.err w' ∧ Mid base bi nodes jobs wall last vr vl vh o y1 x1 w w' := by
  have hc : ∀ k, clB bi vr vl vh k → k < w.heap.size := h.cl.lt
  have hend : ∀ (e : Ending) (w' : World), (∃ e0 x1 x2 x3 p4' n4 c4 p5' n5 c5 err W w2, e = .returned (.tuple #[.agg #[.int .i64 e0, .int .i64 x1, .int .i64 x2, .int .i64 x3, .slice p4' n4 c4, .slice p5' n5 c5], err]) ∧ Below w.heap.size w W ∧ w.heap.size + 1 < W.heap.size ∧ Spare w.heap.size W w2 ∧ TellT base bi nodes jobs wall last now vr vl vh L k x y a p1 p2 p3 p4 p5 (.agg #[.int .i64 e0, .int .i64 x1, .int .i64 x2, .int .i64 x3, .slice p4' n4 c4, .slice p5' n5 c5]) err W w2 ∧ Kept (fun k => k = w.heap.size + 1) w2 w' ∧ w2.heap[w.heap.size + 1]? = some (.cells noughts6 34 (0, 0))) → ∃ o y1 x1 e0 err, e = .returned (.tuple #[.agg #[.int .i64 e0, .int .i64 o.a, .int .i64 o.b, .int .i64 o.c, y1, x1], err]) ∧ DoO nodes jobs wall last now L k x y o ∧ ErrIs a p1 p2 p3 p4 p5 err o.err w' ∧ Mid base bi nodes jobs wall last vr vl vh o y1 x1 w w' := by
    rintro e w' ⟨e0, x1, x2, x3, p4', n4, c4, p5', n5, c5, err, W, w2, rfl, hb, hz, _, ⟨o, ys, xs, e1, hD, hre, hEr, hM⟩, hK, hq⟩
    rw [hre]
    exact ⟨o, ys, xs, e1, err, rfl, hD, hEr.kept hK hq, hM.ends hb hz hK hc⟩
  cases hr : rendOk k x y with
  | false =>
    refine (doB_bad (.pointer (some ⟨bx, 0, none⟩)) a m w hE k x y hr).mono ?_
    rintro e w' ⟨b, rfl, hR, hb⟩
    exact ⟨⟨1, 0, 0, 0, [], [], now, L⟩, .slice none 0 0, .slice none 0 0, 0, _, rfl, Or.inl ⟨hr, rfl⟩, Or.inr (Or.inl ⟨rfl, b, rfl, hR⟩), Mid.same h hb 1 0 0 0⟩
  | true =>
    have hk := hr
    simp only [rendOk, Bool.and_eq_true, decide_eq_true_eq] at hk
    obtain ⟨⟨⟨k1, k7⟩, _⟩, _⟩ := hk
    have hkk : k = 1 ∨ k = 4 ∨ k = 5 ∨ k = 6 ∨ k = 7 := by omega
    have hs : ∀ W, Below w.heap.size w W → Clu base bi nodes jobs wall last now vr vl vh L E W ∧ Asks a p1 p2 p3 p4 p5 W ∧ base ≤ W.heap.size := fun W hb => ⟨h.below hb, hA.on hb, Nat.le_trans hbase hb.size⟩
    rcases hkk with rfl | rfl | rfl | rfl | rfl
    · exact (doB_1 bx bi s0 s1 a m w hE hbx x y hr _ (fun W hb => inSubmit base bi nodes jobs wall last now vr vl vh L E w W (hs W hb).1 hG a p1 p2 p3 p4 p5 (hs W hb).2.1 (hs W hb).2.2 hl hc x y hr)).mono hend
    · exact (doB_4 bx bi s0 s1 a m w hE hbx x y hr _ (fun W hb => inTick base bi nodes jobs wall last now vr vl vh L E w W (hs W hb).1 hG a p1 p2 p3 p4 p5 (hs W hb).2.1 (hs W hb).2.2 hc x y hr)).mono hend
    · exact (doB_5 bx bi s0 s1 a m w hE hbx x y hr _ (fun W hb => inStat base bi nodes jobs wall last now vr vl vh L E w W (hs W hb).1 a p1 p2 p3 p4 p5 x y hr)).mono hend
    · exact (doB_6 bx bi s0 s1 a m w hE hbx x y hr _ (fun W hb => inQueue base bi nodes jobs wall last now vr vl vh L E w W (hs W hb).1 hG a p1 p2 p3 p4 p5 x y hr)).mono hend
    · exact (doB_7 bx bi s0 s1 a m w hE hbx x y hr _ (fun W hb => inInfo base bi nodes jobs wall last now vr vl vh L E w W (hs W hb).1 hG a p1 p2 p3 p4 p5 x y hr)).mono hend

end Go.Proofs.YtpcgnadfldimhaaGreatDoor
