/-
  The statements without the document's answer: ended, noted.
-/
import Derived.Test.YtpcgnadfldimhaaGreatDoorKepA
import Derived.Test.YtpcgnadfldimhaaGreatDoorRefBB
import Derived.Test.YtpcgnadfldimhaaGreatDoorBerY
namespace Go.Proofs.YtpcgnadfldimhaaGreatDoor
open Go.RowKit

theorem gfl_set5 {α : Type} (c : α → List Value) (hs : ∀ a, (c a).length = 5) (l : List α) (i : Nat) (a a' : α) (h : l[i]? = some a) (y0 y1 y2 y3 y4 : Value) (e : c a' = [y0, y1, y2, y3, y4]) : (((((gfl c l).set (i * 5) y0).set (i * 5 + 1) y1).set (i * 5 + 2) y2).set (i * 5 + 3) y3).set (i * 5 + 4) y4 = gfl c (l.set i a') := by
  obtain ⟨pre, post, h1, h2, h3⟩ := gfl_split c 5 hs l i a h
  rw [h1, h3 a', e]
  match c a, hs a with
  | [x0, x1, x2, x3, x4], _ =>
    rw [List.cons_append, set_at pre _ x0 y0 _ (by omega), List.cons_append, set_at _ _ x1 y1 _ (by simp; omega), List.cons_append, set_at _ _ x2 y2 _ (by simp; omega), List.cons_append, set_at _ _ x3 y3 _ (by simp; omega), List.cons_append, set_at _ _ x4 y4 _ (by simp; omega)]
    simp

/-- What is known of a job, put at place i of the row. -/
abbrev putK (w : World) (g i : Nat) (k : Kj) : World := ((((w.setCell ⟨g, i * 5, none⟩ (.int .i64 k.width)).setCell ⟨g, i * 5 + 1, none⟩ (.int .i64 k.wall)).setCell ⟨g, i * 5 + 2, none⟩ (.int .i64 k.promise)).setCell ⟨g, i * 5 + 3, none⟩ (.int .i64 k.started)).setCell ⟨g, i * 5 + 4, none⟩ (.bool k.over)

theorem RunM.off {B br bx : Nat} {now : Int} {p : Option Addr} {cap : Nat} {K : List Kj} {w : World} (h : RunM B br bx now p cap K w) : (Value.slice p K.length cap).ownBlock ≠ some br := owns_not h.own h.blk (by decide)

theorem RunM.same {B br bx : Nat} {now : Int} {p : Option Addr} {cap : Nat} {K : List Kj} {w w' : World} (h : RunM B br bx now p cap K w) (hs : ∀ k : Nat, w'.heap[k]? = w.heap[k]?) : RunM B br bx now p cap K w' :=
  ⟨(hs br).trans h.blk, owns_on h.own (fun k _ => hs k), h.low, h.few⟩

theorem RunM.put {B br bx g : Nat} {now : Int} {cap : Nat} {K : List Kj} {w : World} (h : RunM B br bx now (some ⟨g, 0, none⟩) cap K w) (i : Nat) (a a' : Kj) (ha : K[i]? = some a) : RunM B br bx now (some ⟨g, 0, none⟩) cap (K.set i a') (putK w g i a') ∧ Kept (fun k => k = g) w (putK w g i a') := by
  have hne : br ≠ g := fun e => h.off (by simp [Value.ownBlock, e])
  have h1 := (h.own.stored (i * 5) (.int .i64 a'.width)).1
  have h2 := (h1.stored (i * 5 + 1) (.int .i64 a'.wall)).1
  have h3 := (h2.stored (i * 5 + 2) (.int .i64 a'.promise)).1
  have h4 := (h3.stored (i * 5 + 3) (.int .i64 a'.started)).1
  have h5 := (h4.stored (i * 5 + 4) (.bool a'.over)).1
  rw [gfl_set5 Kj.five Kj.five_len K i a a' ha _ _ _ _ _ rfl] at h5
  have hK : Kept (fun k => k = g) w (putK w g i a') := (((((Kept.refl (fun k => k = g) w).setCell (p := ⟨g, i * 5, none⟩) (Or.inl rfl) _).setCell (p := ⟨g, i * 5 + 1, none⟩) (Or.inl rfl) _).setCell (p := ⟨g, i * 5 + 2, none⟩) (Or.inl rfl) _).setCell (p := ⟨g, i * 5 + 3, none⟩) (Or.inl rfl) _).setCell (p := ⟨g, i * 5 + 4, none⟩) (Or.inl rfl) _
  refine ⟨⟨?_, ?_, h.low, by simpa using h.few⟩, hK⟩
  · rw [List.length_set]; exact (hK.block br h.lt hne).trans h.blk
  · rw [List.length_set]; exact h5

theorem RunM.finish {B br bx g : Nat} {now : Int} {cap : Nat} {K : List Kj} {w : World} (h : RunM B br bx now (some ⟨g, 0, none⟩) cap K w) (i : Nat) (a : Kj) (ha : K[i]? = some a) : RunM B br bx now (some ⟨g, 0, none⟩) cap (K.set i { a with over := true }) (w.setCell ⟨g, i * 5 + 4, none⟩ (.bool true)) ∧ Kept (fun k => k = g) w (w.setCell ⟨g, i * 5 + 4, none⟩ (.bool true)) := by
  have hne : br ≠ g := fun e => h.off (by simp [Value.ownBlock, e])
  have h1 := (h.own.stored (i * 5 + 4) (.bool true)).1
  rw [gfl_set1 Kj.five 5 Kj.five_len K i a { a with over := true } ha 4 (by omega) (.bool true) rfl] at h1
  have hK := (Kept.refl (fun k => k = g) w).setCell (p := ⟨g, i * 5 + 4, none⟩) (Or.inl rfl) (.bool true)
  refine ⟨⟨?_, ?_, h.low, by simpa using h.few⟩, hK⟩
  · rw [List.length_set]; exact (hK.block br h.lt hne).trans h.blk
  · rw [List.length_set]; exact h1

set_option maxHeartbeats 2000000 in
set_option maxRecDepth 100000 in
theorem ended_5 (B br bx : Nat) (now : Int) (p : Option Addr) (cap : Nat) (K : List Kj) (w : World) (h : RunM B br bx now p cap K w) (kd x y : Int) (hx : (K.length : Int) < x) :
    Calls Tryz.prog 36 #[.pointer (some ⟨br, 0, none⟩), .agg #[.int .i64 kd, .int .i64 x, .int .i64 y]] w fun e w' => e = .returned (.int .i64 5) ∧ Below w.heap.size w w' := by
  have hlen := h.few
  obtain ⟨c0, c1, c2⟩ := h.cell
  have hlt := h.lt
  clear h
  go_enter Tryz.func36, Tryz.ntmps36
  go_wp2
  go_quiet (fail)
  go_wp2
  go_ret
  exact ⟨rfl, below_drewN ((Below.refl _ _).alloc (Nat.le_refl _) _) _⟩

set_option maxHeartbeats 4000000 in
set_option maxRecDepth 100000 in
theorem ended_is (B br bx : Nat) (now : Int) (p : Option Addr) (cap : Nat) (K : List Kj) (w : World) (h : RunM B br bx now p cap K w) (kd y : Int) (i : Nat) (a : Kj) (ha : K[i]? = some a) :
    Calls Tryz.prog 36 #[.pointer (some ⟨br, 0, none⟩), .agg #[.int .i64 kd, .int .i64 (1 + (i : Int)), .int .i64 y]] w fun e w' =>
      ((a.over = true ∨ (kd = 3 ∧ a.started < 0)) ∧ e = .returned (.int .i64 6) ∧ Below w.heap.size w w') ∨
      (¬ (a.over = true ∨ (kd = 3 ∧ a.started < 0)) ∧ e = .returned (.int .i64 0) ∧ RunM B br bx now p cap (K.set i { a with over := true }) w' ∧ Kept (fun k => (Value.slice p K.length cap).ownBlock = some k) w w') := by
  have hlen := h.few
  have hi := (List.getElem?_eq_some_iff.1 ha).1
  obtain ⟨g, rfl, hrow⟩ := h.row i a ha
  obtain ⟨c0, c1, c2⟩ := h.cell
  have hlt := h.lt
  have hg : g < w.heap.size := (h.own.lt g rfl).2
  have fz := h.own.frozenAt (i * 5 + 4)
  have HH := Lib.hid h
  have HA := Lib.hid ha
  have r0 := hrow 0 _ rfl
  have r1 := hrow 1 _ rfl
  have r2 := hrow 2 _ rfl
  have r3 := hrow 3 _ rfl
  have r4 := hrow 4 _ rfl
  rw [Nat.add_zero] at r0
  have i1 : (0 : Int) ≤ (i : Int) := by omega
  have i2 : (i : Int) < (K.length : Int) := by omega
  have HB : Hid (∀ o1 n o2, Below w.heap.size w (((w.alloc o1).drewN n).alloc o2)) := Lib.hid (fun o1 n o2 => (below_drewN ((Below.refl _ _).alloc (Nat.le_refl _) _) n).alloc (by simp) _)
  obtain ⟨wd, wl, pr, st, ov⟩ := a
  simp only at hrow r0 r1 r2 r3 r4
  have HW := Lib.hid hrow
  clear hrow
  clear h ha
  cases ov with
  | true =>
    go_enter Tryz.func36, Tryz.ntmps36
    go_wp2
    go_quiet (fail)
    go_wp2
    go_region
    all_goals
      go_wp2
      go_ret
      exact Or.inl ⟨Or.inl trivial, rfl, HB.out _ _ _⟩
  | false =>
    have HE : Hid (∀ W o, Below w.heap.size w W → RunM B br bx now (some ⟨g, 0, none⟩) cap (K.set i ⟨wd, wl, pr, st, true⟩) ((W.setCell ⟨g, i * 5 + 4, none⟩ (.bool true)).alloc o).drew ∧ Kept (fun k => (Value.slice (some ⟨g, 0, none⟩) K.length cap).ownBlock = some k) w ((W.setCell ⟨g, i * 5 + 4, none⟩ (.bool true)).alloc o).drew) := Lib.hid (fun W o hb => by
        obtain ⟨e1, e2⟩ := (HH.out.below hb).finish i _ HA.out
        exact ⟨(e1.below ((Below.refl _ _).alloc (Nat.le_refl _) o)).same (fun _ => rfl), (((Kept.of_below hb).trans e2 (fun k e => Or.inl (by subst e; rfl))).alloc o).drew⟩)
    have HB1 : Hid (∀ o1 n, Below w.heap.size w ((w.alloc o1).drewN n)) := Lib.hid (fun o1 n => below_drewN ((Below.refl _ _).alloc (Nat.le_refl _) _) n)
    by_cases hk3 : kd = 3
    · subst hk3
      by_cases hs : st < 0
      · go_enter Tryz.func36, Tryz.ntmps36
        go_wp2
        go_quiet (fail)
        go_wp2
        go_region
        all_goals
          go_wp2
          go_ret
          exact Or.inl ⟨Or.inr ⟨trivial, hs⟩, rfl, HB.out _ _ _⟩
      · go_enter Tryz.func36, Tryz.ntmps36
        go_wp2
        go_quiet (fail)
        go_wp2
        go_region
        all_goals
          go_wp2
          go_region
          all_goals
            go_wp2
            go_ret
            exact Or.inr ⟨fun e => e.elim (fun e => by simp at e) (fun e => by have := e.2; omega), rfl, HE.out _ _ (HB1.out _ _)⟩
    · go_enter Tryz.func36, Tryz.ntmps36
      go_wp2
      go_quiet (fail)
      go_wp2
      go_region
      all_goals
        go_wp2
        go_region
        all_goals
          go_wp2
          go_ret
          exact Or.inr ⟨fun e => e.elim (fun e => by simp at e) (fun e => hk3 e.1), rfl, HE.out _ _ (HB1.out _ _)⟩

end Go.Proofs.YtpcgnadfldimhaaGreatDoor
namespace Go.Proofs.YtpcgnadfldimhaaGreatDoor
open Go.RowKit

/-- Behind an event that is noted. -/
theorem noted_put {B br bx g : Nat} {now : Int} {cap : Nat} {K : List Kj} {w0 w : World} {S : Nat → Prop} (h : RunM B br bx now (some ⟨g, 0, none⟩) cap K w) (hK : Kept S w0 w) (hS : S g) (i : Nat) (a a' : Kj) (ha : K[i]? = some a) (o1 o2 : Obj) (n : Nat) : RunM B br bx now (some ⟨g, 0, none⟩) cap (K.set i a') ((putK ((w.alloc o1).drewN n) g i a').alloc o2).drew ∧ Kept S w0 ((putK ((w.alloc o1).drewN n) g i a').alloc o2).drew := by
  have hb : Below w.heap.size w ((w.alloc o1).drewN n) := below_drewN ((Below.refl _ _).alloc (Nat.le_refl _) _) n
  obtain ⟨e1, e2⟩ := (h.below hb).put i a a' ha
  exact ⟨(e1.below ((Below.refl _ _).alloc (Nat.le_refl _) o2)).same (fun _ => rfl), (((hK.trans (Kept.of_below (S := S) hb) (fun _ e => Or.inl e)).trans e2 (fun k e => Or.inl (e ▸ hS))).alloc o2).drew⟩

set_option maxHeartbeats 8000000 in
set_option maxRecDepth 100000 in
theorem noted_any (B br bx : Nat) (now : Int) (p : Option Addr) (cap : Nat) (K : List Kj) (w : World) (h : RunM B br bx now p cap K w) (px : Option Addr) (cx : Nat) (evs : List Ev) (hev : Laid Ev.cells 4 w px evs) (hoff : ∀ b, px = some ⟨b, 0, none⟩ → (Value.slice p K.length cap).ownBlock ≠ some b) (hl : evs.length ≤ 1000000000000) (src dst : Int) (L M : List Job) (hT : Told K L) (ht : Tale src dst src L evs M) (h0 : 0 ≤ src) :
    Calls Tryz.prog 17 #[.pointer (some ⟨br, 0, none⟩), .slice px evs.length cx, .int .i64 src, .int .i64 dst] w fun e w' => e = .returned (.bool true) ∧ RunM B br bx now p cap (noteK K evs) w' ∧ Kept (fun k => (Value.slice p K.length cap).ownBlock = some k) w w' := by
  have HV := Lib.hid hev
  have HOF := Lib.hid hoff
  clear hev hoff
  go_enter Tryz.func17, Tryz.ntmps17
  go_wp2
  go_loopw [9, 10] (fun last i wr => ∃ (k : Nat) (la : Int) (K1 : List Kj) (L1 : List Job), k ≤ evs.length ∧ i = .int .i64 k ∧ last = .int .i64 la ∧ Hid (K1 = noteK K (evs.take k)) ∧ Hid (Told K1 L1) ∧ Hid (Tale src dst la L1 (evs.drop k) M) ∧ Hid (RunM B br bx now p cap K1 wr) ∧ Hid (Kept (fun k => (Value.slice p K.length cap).ownBlock = some k) w wr)) (fun _ i _ => evs.length - (intOf i).toNat)
  case atStart => exact ⟨0, src, K, L, Nat.zero_le _, rfl, rfl, Lib.hid rfl, Lib.hid hT, Lib.hid ht, Lib.hid h, Lib.hid (Kept.refl _ _)⟩
  case round =>
    obtain ⟨k, la, K1, L1, hk, rfl, rfl, HN, HT, HTa, HR, HK⟩ := hrel
    have hlen1 : K1.length = K.length := by rw [HN.out, noteK_len]
    by_cases hlt : k < evs.length
    · obtain ⟨e, he⟩ : ∃ e, evs[k]? = some e := ⟨_, List.getElem?_eq_getElem hlt⟩
      have hdrop : evs.drop k = e :: evs.drop (k + 1) := by
        rw [List.drop_eq_getElem_cons hlt, (List.getElem?_eq_some_iff.1 he).2]
      have htk : evs.take (k + 1) = evs.take k ++ [e] := by
        rw [List.take_succ_eq_append_getElem hlt, (List.getElem?_eq_some_iff.1 he).2]
      have ht1 := HTa.out
      rw [hdrop] at ht1
      obtain ⟨i, a, L2, la2, hid, ha, hcan, hn1, hT2, ht2⟩ := tale_step ht1 HT.out h0
      have hi := (List.getElem?_eq_some_iff.1 ha).1
      obtain ⟨be, rfl, hrowe0⟩ := HV.out k e he
      obtain ⟨g, hp, hrowa⟩ := HR.out.row i a ha
      subst hp
      have hgS : (Value.slice (some ⟨g, 0, none⟩) K.length cap).ownBlock = some g := rfl
      have hbg : be ≠ g := fun e2 => HOF.out be rfl (by rw [e2]; rfl)
      have hbew : be < w.heap.size := block_lt_of_cell (hrowe0 0 _ rfl)
      have hrowe : wr.rangeAt be (k * 4) e.cells := fun t v hv => (World.cell?_of_block (a := ⟨be, k * 4 + t, none⟩) (HK.out.block be hbew (fun e2 => hbg (by simpa [Value.ownBlock] using e2.symm)))).trans (hrowe0 t v hv)
      have HNX : Hid (K1.set i (a.noted e) = noteK K (evs.take (k + 1))) := Lib.hid (by rw [htk, noteK_snoc, ← HN.out, hn1])
      have HT2 := Lib.hid hT2
      have HTa2 := Lib.hid ht2
      have HP := Lib.hid (fun o1 o2 n => noted_put HR.out HK.out hgS i a (a.noted e) ha o1 o2 n)
      obtain ⟨c0, c1, c2⟩ := HR.out.cell
      have hbr := HR.out.lt
      have hgl : g < wr.heap.size := (HR.out.own.lt g rfl).2
      have hbel : be < wr.heap.size := Nat.lt_of_lt_of_le hbew HK.out.size
      have fz := fun t => HR.out.own.frozenAt t
      have hfew := HR.out.few
      have i1 : (0 : Int) ≤ (i : Int) := by omega
      have i2 : (i : Int) < (K1.length : Int) := by omega
      obtain ⟨kd, idd, tm, de⟩ := e
      obtain ⟨wd, wl, pr, st, ov⟩ := a
      simp only at hid hcan
      subst hid
      clear ht1 hdrop htk he hn1 hT2 ht2 ha hi HTa HN HT hrowe0
      rcases hcan with ⟨h1, h2, h3, h4, h5, h6, h7⟩ | ⟨h1, h2, h3, h4, h5, h6, h7, h8, h9, h10⟩ | ⟨h1, h2, h3, h4, h5, h6, h7⟩
      · simp only at h1 h2 h3 h4 h5 h6 h7
        subst h1 h2
        have r0 := hrowa 0 _ rfl
        have r1 := hrowa 1 _ rfl
        have r2 := hrowa 2 _ rfl
        have r3 := hrowa 3 _ rfl
        have r4 := hrowa 4 _ rfl
        rw [Nat.add_zero] at r0
        have q0 := hrowe 0 _ rfl
        have q1 := hrowe 1 _ rfl
        have q2 := hrowe 2 _ rfl
        have q3 := hrowe 3 _ rfl
        rw [Nat.add_zero] at q0
        simp only at q0 q1 q2 q3 r0 r1 r2 r3 r4
        clear hrowa hrowe
        have g1 : decide ((i : Int) + 1 < 1) = false := decide_eq_false (by omega)
        subst h3 h7 h4
        go_wp2
        go_quiet (fail)
        go_wp2
        go_region
        go_wp2
        go_region
        go_wp2
        go_roundw
        case rel => exact ⟨k + 1, _, _, _, by omega, by go_num, rfl, HNX, HT2, HTa2, Lib.hid (HP.out _ _ _).1, Lib.hid (HP.out _ _ _).2⟩
        case measure => simp [intOf]; omega
      · simp only at h1 h2 h3 h4 h5 h6 h7
        subst h1 h2
        have r0 := hrowa 0 _ rfl
        have r1 := hrowa 1 _ rfl
        have r2 := hrowa 2 _ rfl
        have r3 := hrowa 3 _ rfl
        have r4 := hrowa 4 _ rfl
        rw [Nat.add_zero] at r0
        have q0 := hrowe 0 _ rfl
        have q1 := hrowe 1 _ rfl
        have q2 := hrowe 2 _ rfl
        have q3 := hrowe 3 _ rfl
        rw [Nat.add_zero] at q0
        simp only at q0 q1 q2 q3 r0 r1 r2 r3 r4
        clear hrowa hrowe
        have g1 : decide ((i : Int) + 1 < 1) = false := decide_eq_false (by omega)
        simp only at h8 h9 h10
        subst h7 h4
        go_wp2
        go_quiet (fail)
        go_wp2
        go_region
        go_wp2
        go_region
        go_wp2
        go_roundw
        case rel => exact ⟨k + 1, _, _, _, by omega, by go_num, rfl, HNX, HT2, HTa2, Lib.hid (HP.out _ _ _).1, Lib.hid (HP.out _ _ _).2⟩
        case measure => simp [intOf]; omega
      · simp only at h1 h2 h3 h4 h5 h6 h7
        subst h1 h2
        have r0 := hrowa 0 _ rfl
        have r1 := hrowa 1 _ rfl
        have r2 := hrowa 2 _ rfl
        have r3 := hrowa 3 _ rfl
        have r4 := hrowa 4 _ rfl
        rw [Nat.add_zero] at r0
        have q0 := hrowe 0 _ rfl
        have q1 := hrowe 1 _ rfl
        have q2 := hrowe 2 _ rfl
        have q3 := hrowe 3 _ rfl
        rw [Nat.add_zero] at q0
        simp only at q0 q1 q2 q3 r0 r1 r2 r3 r4
        clear hrowa hrowe
        have g1 : decide ((i : Int) + 1 < 1) = false := decide_eq_false (by omega)
        subst h3 h7 h4
        go_wp2
        go_quiet (fail)
        go_wp2
        go_region
        go_wp2
        go_region
        go_wp2
        go_roundw
        case rel => exact ⟨k + 1, _, _, _, by omega, by go_num, rfl, HNX, HT2, HTa2, Lib.hid (HP.out _ _ _).1, Lib.hid (HP.out _ _ _).2⟩
        case measure => simp [intOf]; omega
    · obtain rfl : k = evs.length := by omega
      go_wp2
      go_ret
      refine ⟨rfl, ?_, HK.out⟩
      have e := HN.out
      rw [List.take_length] at e
      rw [← e]
      exact HR.out

end Go.Proofs.YtpcgnadfldimhaaGreatDoor
namespace Go.Proofs.YtpcgnadfldimhaaGreatDoor
open Go.RowKit

/-- A run and its cluster; X tells which blocks are their own; nr is the run's time, now the cluster's. -/
def RunS (B br bx : Nat) (K : List Kj) (L : List Job) (nr now : Int) (X : Nat → Prop) (w : World) : Prop :=
  ∃ p cap bi vr vl vh E, RunM B br bx nr p cap K w ∧ Prog B bx bi 8 12 30 1000000 now vr vl vh L E w ∧ ∀ k, X k ↔ (k = br ∨ (Value.slice p K.length cap).ownBlock = some k ∨ progB bx bi vr vl vh k)

theorem run_apart {B br bx bi : Nat} {nr now : Int} {p : Option Addr} {cap : Nat} {K : List Kj} {vr vl vh : Value} {L : List Job} {E : List Ev} {w : World} (hR : RunM B br bx nr p cap K w) (hP : Prog B bx bi 8 12 30 1000000 now vr vl vh L E w) (k : Nat) (hk : progB bx bi vr vl vh k) : k ≠ br ∧ (Value.slice p K.length cap).ownBlock ≠ some k := by
  have hb := hR.blk
  rcases hk with rfl | rfl | e | e | e
  · refine ⟨fun e => ?_, owns_not hR.own hP.out (by decide)⟩
    subst e
    rw [hP.out] at hb
    simp at hb
  · refine ⟨fun e => ?_, owns_not hR.own hP.clu.cl.hp.blk (by decide)⟩
    subst e
    rw [hP.clu.cl.hp.blk] at hb
    simp at hb
  · exact ⟨fun e2 => owns_not hP.clu.cl.rcd hb (by decide) (e2 ▸ e), owns_apart hP.clu.cl.rcd hR.own (by decide) k e⟩
  · exact ⟨fun e2 => owns_not hP.clu.cl.liv hb (by decide) (e2 ▸ e), owns_apart hP.clu.cl.liv hR.own (by decide) k e⟩
  · exact ⟨fun e2 => owns_not hP.clu.cl.hp.row hb (by decide) (e2 ▸ e), owns_apart hP.clu.cl.hp.row hR.own (by decide) k e⟩

theorem RunS.lt {B br bx : Nat} {K : List Kj} {L : List Job} {nr now : Int} {X : Nat → Prop} {w : World} (h : RunS B br bx K L nr now X w) (k : Nat) (hk : X k) : B ≤ k ∧ k < w.heap.size := by
  obtain ⟨p, cap, bi, vr, vl, vh, E, hR, hP, hX⟩ := h
  rcases (hX k).1 hk with rfl | e | e
  · exact ⟨hR.low, hR.lt⟩
  · exact hR.own.lt k e
  · exact hP.lt k e

theorem RunS.kept {B br bx : Nat} {K : List Kj} {L : List Job} {nr now : Int} {X S : Nat → Prop} {w w' : World} (h : RunS B br bx K L nr now X w) (hK : Kept S w w') (hS : ∀ k, X k → ¬ S k) : RunS B br bx K L nr now X w' := by
  obtain ⟨p, cap, bi, vr, vl, vh, E, hR, hP, hX⟩ := h
  exact ⟨p, cap, bi, vr, vl, vh, E, hR.kept hK (hS br ((hX br).2 (Or.inl rfl))) (fun k e => hS k ((hX k).2 (Or.inr (Or.inl e)))), hP.kept hK (fun k e => hS k ((hX k).2 (Or.inr (Or.inr e)))), hX⟩
theorem RunS.below {B br bx : Nat} {K : List Kj} {L : List Job} {nr now : Int} {X : Nat → Prop} {w w' : World} (h : RunS B br bx K L nr now X w) (hb : Below w.heap.size w w') : RunS B br bx K L nr now X w' :=
  h.kept (S := fun _ => False) (Kept.of_below hb) (fun _ _ e => e)
theorem RunS.cell {B br bx : Nat} {K : List Kj} {L : List Job} {nr now : Int} {X : Nat → Prop} {w : World} (h : RunS B br bx K L nr now X w) : w.cell? ⟨br, 0, none⟩ = some (.pointer (some ⟨bx, 0, none⟩)) ∧ w.cell? ⟨br, 1, none⟩ = some (.int .i64 nr) ∧ br < w.heap.size ∧ K.length ≤ 1000 ∧ ∃ p cap, RunM B br bx nr p cap K w := by
  obtain ⟨p, cap, bi, vr, vl, vh, E, hR, hP, hX⟩ := h
  exact ⟨hR.cell.1, hR.cell.2.1, hR.lt, hR.few, p, cap, hR⟩

theorem run_do (B br bx : Nat) (K : List Kj) (L : List Job) (nr now : Int) (X : Nat → Prop) (a : Addr) (m : Int) (w0 : World) (hE : Env a m w0) (w : World) (h0 : Below w0.heap.size w0 w) (hB0 : w0.heap.size ≤ B) (hBw : B ≤ w.heap.size) (h : RunS B br bx K L nr now X w) (hG : Good 8 12 30 1000000 now L) (hl : L.length < 1000000000) (k x y : Int) :
    Calls Tryz.prog 16 #[.pointer (some ⟨bx, 0, none⟩), .agg #[.int .i64 k, .int .i64 x, .int .i64 y]] w fun e w' => ∃ o p1 c1 p2 c2 X', DoE 8 12 30 1000000 now L k x y o ∧ e = .returned (.agg #[.int .i64 o.err, .int .i64 o.a, .int .i64 o.b, .int .i64 o.c, .slice p1 o.rows.length c1, .slice p2 o.evs.length c2]) ∧
      w'.ownsRow w.heap.size 57 4 (.slice p1 o.rows.length c1) o.rows.length (flatR o.rows) ∧ w'.ownsRow w.heap.size 55 4 (.slice p2 o.evs.length c2) o.evs.length (flatE o.evs) ∧ RunS B br bx K o.L nr o.now X' w' ∧ Kept X w w' ∧ (∀ k, X' k → X k ∨ w.heap.size ≤ k) ∧ Below w0.heap.size w0 w' := by
  obtain ⟨p, cap, bi, vr, vl, vh, E, hR, hP, hX⟩ := h
  refine (doP B bx bi 8 12 30 1000000 now vr vl vh L E a m w0 hE w h0 hB0 hBw hP hG hl k x y).mono ?_
  rintro e w' ⟨o, y1, x1, vr', vl', vh', E', hD, rfl, hY, hV, hP', hK, hN, hA⟩
  obtain ⟨q1, c1, rfl⟩ := own_slice hY
  obtain ⟨q2, c2, rfl⟩ := own_slice hV
  have hR' : RunM B br bx nr p cap K w' := hR.kept hK (fun e => (run_apart hR hP br e).1 rfl) (fun k e e2 => (run_apart hR hP k e2).2 e)
  refine ⟨o, q1, c1, q2, c2, fun k => k = br ∨ (Value.slice p K.length cap).ownBlock = some k ∨ progB bx bi vr' vl' vh' k, hD, rfl, hY, hV, ⟨p, cap, bi, vr', vl', vh', E', hR', hP', fun k => Iff.rfl⟩, hK.mono (fun k e => (hX k).2 (Or.inr (Or.inr e))), ?_, h0.trans (hK.below h0.size (fun k e => by have := (hP.lt k e).1; omega))⟩
  rintro k (e | e | e)
  · exact Or.inl ((hX k).2 (Or.inl e))
  · exact Or.inl ((hX k).2 (Or.inr (Or.inl e)))
  · rcases hN k e with e | e
    · exact Or.inl ((hX k).2 (Or.inr (Or.inr e)))
    · exact Or.inr e

end Go.Proofs.YtpcgnadfldimhaaGreatDoor
namespace Go.Proofs.YtpcgnadfldimhaaGreatDoor
open Go.RowKit

theorem Tryz.infoKj : (Tryz.prog.info? 42).map (fun i => (i.zero, i.size, i.bytes)) = some (some (.agg #[.int .i64 0, .int .i64 0, .int .i64 0, .int .i64 0, .bool false]), 5, 40) := by kernel_rfl

theorem RunM.time {B br bx : Nat} {now : Int} {p : Option Addr} {cap : Nat} {K : List Kj} {w : World} (h : RunM B br bx now p cap K w) (t : Int) : RunM B br bx t p cap K (w.setCell ⟨br, 1, none⟩ (.int .i64 t)) ∧ Kept (fun k => k = br) w (w.setCell ⟨br, 1, none⟩ (.int .i64 t)) :=
  ⟨⟨heap_setCell_same w br 1 _ _ _ h.blk, ownsRow_setCell_other h.own h.off _, h.low, h.few⟩, (Kept.refl (fun k => k = br) w).setCell (p := ⟨br, 1, none⟩) (Or.inl rfl) _⟩

/-- A job more: behind the append, and the store of the new slice. -/
theorem RunM.push {B br bx g cap cap' : Nat} {now : Int} {p : Option Addr} {K : List Kj} {a : Kj} {w w1 w4 : World} (h : RunM B br bx now p cap K w) (hl : K.length < 1000) (h1 : Below w.heap.size w w1) (own : w4.ownsRow B 42 5 (.slice (some ⟨g, 0, none⟩) (K.length + 1) cap') (K.length + 1) (gfl Kj.five K ++ a.five)) (grow : w1.grownBy w4 (Value.slice p K.length cap).ownBlock) :
    w4.heap[br]? = some (.cells #[.pointer (some ⟨bx, 0, none⟩), .int .i64 now, .slice p K.length cap] 38 (0, 0)) ∧ RunM B br bx now (some ⟨g, 0, none⟩) cap' (K ++ [a]) (w4.setCell ⟨br, 2, none⟩ (.slice (some ⟨g, 0, none⟩) (K.length + 1) cap')) ∧ Kept (fun k => k = br ∨ (Value.slice p K.length cap).ownBlock = some k) w (w4.setCell ⟨br, 2, none⟩ (.slice (some ⟨g, 0, none⟩) (K.length + 1) cap')) := by
  have hb : w4.heap[br]? = some (.cells #[.pointer (some ⟨bx, 0, none⟩), .int .i64 now, .slice p K.length cap] 38 (0, 0)) := ((grow.block br (Nat.lt_of_lt_of_le h.lt h1.size) (fun e => h.off e.symm)).trans (h1.block br h.lt)).trans h.blk
  have e1 : (K ++ [a]).length = K.length + 1 := by simp
  have ho : w4.ownsRow B 42 5 (.slice (some ⟨g, 0, none⟩) (K ++ [a]).length cap') (K ++ [a]).length (gfl Kj.five (K ++ [a])) := by
    rw [gfl_append, e1]
    simpa [gfl] using own
  refine ⟨hb, ⟨?_, ?_, h.low, by rw [e1]; omega⟩, ((Kept.of_below (S := fun k => k = br ∨ (Value.slice p K.length cap).ownBlock = some k) h1).grown grow (fun i e => Or.inl (Or.inr e))).setCell (p := ⟨br, 2, none⟩) (Or.inl (Or.inl rfl)) _⟩
  · rw [e1]; exact heap_setCell_same w4 br 2 _ _ _ hb
  · exact ownsRow_setCell_other ho (owns_not ho hb (by decide)) _

theorem RunS.push {B br bx g cap' p' : Nat} {p : Option Addr} {K : List Kj} {L : List Job} {nr now : Int} {X : Nat → Prop} {a : Kj} {w w1 w4 : World} (h : RunS B br bx K L nr now X w) (hl : K.length < 1000) (hR : RunM B br bx nr p p' K w) (h1 : Below w.heap.size w w1) (own : w4.ownsRow B 42 5 (.slice (some ⟨g, 0, none⟩) (K.length + 1) cap') (K.length + 1) (gfl Kj.five K ++ a.five)) (grow : w1.grownBy w4 (Value.slice p K.length p').ownBlock) (hat : (Value.slice p K.length p').ownBlock = some g ∨ w.heap.size ≤ g) :
    w4.heap[br]? = some (.cells #[.pointer (some ⟨bx, 0, none⟩), .int .i64 nr, .slice p K.length p'] 38 (0, 0)) ∧ ∃ X', RunS B br bx (K ++ [a]) L nr now X' (w4.setCell ⟨br, 2, none⟩ (.slice (some ⟨g, 0, none⟩) (K.length + 1) cap')) ∧ Kept X w (w4.setCell ⟨br, 2, none⟩ (.slice (some ⟨g, 0, none⟩) (K.length + 1) cap')) ∧ (∀ k, X' k → X k ∨ w.heap.size ≤ k) ∧ Kept (fun k => k = br ∨ (Value.slice p K.length p').ownBlock = some k) w (w4.setCell ⟨br, 2, none⟩ (.slice (some ⟨g, 0, none⟩) (K.length + 1) cap')) := by
  obtain ⟨q, cq, bi, vr, vl, vh, E, hR2, hP, hX⟩ := h
  have hqq : (Value.slice q K.length cq) = .slice p K.length p' := by
    have e1 := hR2.cell.2.2
    rw [hR.cell.2.2] at e1
    exact (Option.some.inj e1).symm
  obtain ⟨rfl, _, rfl⟩ := Value.slice.inj hqq
  obtain ⟨hb, hR4, hK⟩ := hR.push hl h1 own grow
  refine ⟨hb, fun k => k = br ∨ (Value.slice (some ⟨g, 0, none⟩) (K ++ [a]).length cap').ownBlock = some k ∨ progB bx bi vr vl vh k, ⟨_, _, bi, vr, vl, vh, E, hR4, hP.kept hK (fun k e => by
    have := run_apart hR hP k e
    rintro (e2 | e2)
    · exact this.1 e2
    · exact this.2 e2), fun k => Iff.rfl⟩, hK.mono (fun k e => (hX k).2 (e.imp id Or.inl)), ?_, hK⟩
  rintro k (e | e | e)
  · exact Or.inl ((hX k).2 (Or.inl e))
  · simp [Value.ownBlock] at e
    subst e
    exact hat.imp (fun e => (hX g).2 (Or.inr (Or.inl e))) id
  · exact Or.inl ((hX k).2 (Or.inr (Or.inr e)))

/-- The end of a step: the time is set, what was told is noted. -/
theorem tail_noted (B br bx : Nat) (K : List Kj) (L : List Job) (nr now t : Int) (X : Nat → Prop) (w : World) (h : RunS B br bx K L nr now X w) (base : Nat) (px : Option Addr) (cx : Nat) (evs : List Ev) (hev : w.ownsRow base 55 4 (.slice px evs.length cx) evs.length (flatE evs)) (hl : evs.length ≤ 1000000000000) (src dst : Int) (M N : List Job) (hT : Told K M) (ht : Tale src dst src M evs N) (h0 : 0 ≤ src) :
    Calls Tryz.prog 17 #[.pointer (some ⟨br, 0, none⟩), .slice px evs.length cx, .int .i64 src, .int .i64 dst] (w.setCell ⟨br, 1, none⟩ (.int .i64 t)) fun e w' => e = .returned (.bool true) ∧ RunS B br bx (noteK K evs) L t now X w' ∧ Kept X w w' := by
  obtain ⟨p, cap, bi, vr, vl, vh, E, hR, hP, hX⟩ := h
  obtain ⟨hR1, hK1⟩ := hR.time t
  have hP1 := hP.kept hK1 (fun k e => (run_apart hR hP k e).1)
  have hbe : (Value.slice px evs.length cx).ownBlock ≠ some br := owns_not hev hR.blk (by decide)
  have hev1 := ownsRow_setCell_other hev (a := ⟨br, 1, none⟩) hbe (.int .i64 t)
  have hlaid : Laid Ev.cells 4 (w.setCell ⟨br, 1, none⟩ (.int .i64 t)) px evs := owns_laid (c := Ev.cells) (fun _ => rfl) (l := evs) hev1 rfl
  refine (noted_any B br bx t p cap K _ hR1 px cx evs hlaid (fun b e => by
    subst e
    exact owns_apart hev hR.own (by decide) b rfl) hl src dst M N hT ht h0).mono ?_
  rintro e w' ⟨rfl, hR2, hK2⟩
  refine ⟨rfl, ⟨p, cap, bi, vr, vl, vh, E, hR2, hP1.kept hK2 (fun k e => (run_apart hR hP k e).2), fun k => by rw [noteK_len]; exact hX k⟩, (hK1.mono (T := X) (fun k e => (hX k).2 (Or.inl e))).trans hK2 (fun k e => Or.inl ((hX k).2 (Or.inr (Or.inl e))))⟩

/-- Behind a Do whose answer lies in a block of its own. -/
def ReplyAt (B br bx : Nat) (K : List Kj) (L : List Job) (nr now : Int) (X : Nat → Prop) (w0 wc : World) (k x y : Int) (aq : Value) (wr : World) : Prop :=
  ∃ (o : Out) (p1 : Option Addr) (c1 : Nat) (p2 : Option Addr) (c2 : Nat) (X' : Nat → Prop) (ab : Nat), aq = .pointer (some ⟨ab, 0, none⟩) ∧ DoE 8 12 30 1000000 now L k x y o ∧ wr.heap[ab]? = some (.cells #[.int .i64 o.err, .int .i64 o.a, .int .i64 o.b, .int .i64 o.c, .slice p1 o.rows.length c1, .slice p2 o.evs.length c2] 34 (0, 0)) ∧
    wr.ownsRow wc.heap.size 57 4 (.slice p1 o.rows.length c1) o.rows.length (flatR o.rows) ∧ wr.ownsRow wc.heap.size 55 4 (.slice p2 o.evs.length c2) o.evs.length (flatE o.evs) ∧ RunS B br bx K o.L nr o.now X' wr ∧ Kept X wc wr ∧ (∀ k, X' k → X k ∨ wc.heap.size ≤ k) ∧ Below w0.heap.size w0 wr ∧ ¬ X' ab ∧ wc.heap.size ≤ ab

/-- What run_do says, at a world of little more than wc. -/
def DidP (B br bx : Nat) (K : List Kj) (L : List Job) (nr now : Int) (X : Nat → Prop) (w0 W : World) (k x y : Int) (e : Ending) (w' : World) : Prop :=
  ∃ (o : Out) (p1 : Option Addr) (c1 : Nat) (p2 : Option Addr) (c2 : Nat) (X' : Nat → Prop), DoE 8 12 30 1000000 now L k x y o ∧ e = .returned (.agg #[.int .i64 o.err, .int .i64 o.a, .int .i64 o.b, .int .i64 o.c, .slice p1 o.rows.length c1, .slice p2 o.evs.length c2]) ∧
      w'.ownsRow W.heap.size 57 4 (.slice p1 o.rows.length c1) o.rows.length (flatR o.rows) ∧ w'.ownsRow W.heap.size 55 4 (.slice p2 o.evs.length c2) o.evs.length (flatE o.evs) ∧ RunS B br bx K o.L nr o.now X' w' ∧ Kept X W w' ∧ (∀ k, X' k → X k ∨ W.heap.size ≤ k) ∧ Below w0.heap.size w0 w'

theorem run_did (B br bx : Nat) (K : List Kj) (L : List Job) (nr now : Int) (X : Nat → Prop) (a : Addr) (m : Int) (w0 : World) (hE : Env a m w0) (wc : World) (h0 : Below w0.heap.size w0 wc) (hB0 : w0.heap.size ≤ B) (hBw : B ≤ wc.heap.size) (h : RunS B br bx K L nr now X wc) (hG : Good 8 12 30 1000000 now L) (hl : L.length < 1000000000) (k x y : Int) (W : World) (hW : Below wc.heap.size wc W) :
    Calls Tryz.prog 16 #[.pointer (some ⟨bx, 0, none⟩), .agg #[.int .i64 k, .int .i64 x, .int .i64 y]] W (DidP B br bx K L nr now X w0 W k x y) :=
  run_do B br bx K L nr now X a m w0 hE W (h0.trans (hW.mono h0.size)) hB0 (Nat.le_trans hBw hW.size) (h.below hW) hG hl k x y

theorem replyAt_new {B br bx : Nat} {K : List Kj} {L : List Job} {nr now : Int} {X : Nat → Prop} {w0 wc W w3 : World} {k x y : Int} (_hX : ∀ k, X k → k < wc.heap.size) (hW : Below wc.heap.size wc W) {o : Out} {p1 p2 : Option Addr} {c1 c2 : Nat} {X' : Nat → Prop} (hD : DoE 8 12 30 1000000 now L k x y o) (hY : w3.ownsRow W.heap.size 57 4 (.slice p1 o.rows.length c1) o.rows.length (flatR o.rows)) (hV : w3.ownsRow W.heap.size 55 4 (.slice p2 o.evs.length c2) o.evs.length (flatE o.evs)) (hS : RunS B br bx K o.L nr o.now X' w3) (hK : Kept X W w3) (hN : ∀ k, X' k → X k ∨ W.heap.size ≤ k) (hb : Below w0.heap.size w0 w3) :
    ReplyAt B br bx K L nr now X w0 wc k x y (.pointer (some ⟨w3.heap.size, 0, none⟩)) (w3.alloc (.cells #[.int .i64 o.err, .int .i64 o.a, .int .i64 o.b, .int .i64 o.c, .slice p1 o.rows.length c1, .slice p2 o.evs.length c2] 34)) := by
  have hs := hW.size
  have hs2 := hK.size
  refine ⟨o, p1, c1, p2, c2, X', w3.heap.size, rfl, hD, heap_alloc_new _ _, owns_mono (hY.alloc _) hs, owns_mono (hV.alloc _) hs, hS.below ((Below.refl _ _).alloc (Nat.le_refl _) _), ((Kept.of_below (S := X) hW).trans hK (fun _ e => Or.inl e)).alloc _, fun k e => (hN k e).imp id (fun e => Nat.le_trans hs e), hb.alloc hb.size _, fun e => ?_, by omega⟩
  have := (hS.lt _ e).2
  omega

theorem replyAt_old {B br bx : Nat} {K : List Kj} {L : List Job} {nr now : Int} {X : Nat → Prop} {w0 wc W w3 : World} {k x y : Int} (hX : ∀ k, X k → k < wc.heap.size) (hW : Below wc.heap.size wc W) {cs : Array Value} (hz : cs.size = 6) (hq : W.heap[wc.heap.size]? = some (.cells cs 34 (0, 0))) (h00 : w0.heap.size ≤ wc.heap.size) {o : Out} {p1 p2 : Option Addr} {c1 c2 : Nat} {X' : Nat → Prop} (hD : DoE 8 12 30 1000000 now L k x y o) (hY : w3.ownsRow W.heap.size 57 4 (.slice p1 o.rows.length c1) o.rows.length (flatR o.rows)) (hV : w3.ownsRow W.heap.size 55 4 (.slice p2 o.evs.length c2) o.evs.length (flatE o.evs)) (hS : RunS B br bx K o.L nr o.now X' w3) (hK : Kept X W w3) (hN : ∀ k, X' k → X k ∨ W.heap.size ≤ k) (hb : Below w0.heap.size w0 w3) :
    ReplyAt B br bx K L nr now X w0 wc k x y (.pointer (some ⟨wc.heap.size, 0, none⟩)) ((((((w3.setCell ⟨wc.heap.size, 0, none⟩ (.int .i64 o.err)).setCell ⟨wc.heap.size, 1, none⟩ (.int .i64 o.a)).setCell ⟨wc.heap.size, 2, none⟩ (.int .i64 o.b)).setCell ⟨wc.heap.size, 3, none⟩ (.int .i64 o.c)).setCell ⟨wc.heap.size, 4, none⟩ (.slice p1 o.rows.length c1)).setCell ⟨wc.heap.size, 5, none⟩ (.slice p2 o.evs.length c2)) := by
  have hs := hW.size
  have hs2 := hK.size
  have hlt : wc.heap.size < W.heap.size := (Array.getElem?_eq_some_iff.1 hq).1
  have hnX : ¬ X wc.heap.size := fun e => by have := hX _ e; omega
  have hnX' : ¬ X' wc.heap.size := fun e => (hN _ e).elim hnX (fun e => by omega)
  have q := (hK.block _ hlt hnX).trans hq
  obtain ⟨v0, v1, v2, v3, v4, v5, rfl⟩ : ∃ v0 v1 v2 v3 v4 v5, cs = #[v0, v1, v2, v3, v4, v5] := by
    obtain ⟨l⟩ := cs
    simp at hz
    match l, hz with
    | [v0, v1, v2, v3, v4, v5], _ => exact ⟨v0, v1, v2, v3, v4, v5, rfl⟩
  have q0 := heap_setCell_same w3 _ 0 _ _ (.int .i64 o.err) q
  have q1 := heap_setCell_same _ _ 1 _ _ (.int .i64 o.a) q0
  have q2 := heap_setCell_same _ _ 2 _ _ (.int .i64 o.b) q1
  have q3 := heap_setCell_same _ _ 3 _ _ (.int .i64 o.c) q2
  have q4 := heap_setCell_same _ _ 4 _ _ (.slice p1 o.rows.length c1) q3
  have q5 := heap_setCell_same _ _ 5 _ _ (.slice p2 o.evs.length c2) q4
  have hKs : Kept (fun k => k = wc.heap.size) w3 ((((((w3.setCell ⟨wc.heap.size, 0, none⟩ (.int .i64 o.err)).setCell ⟨wc.heap.size, 1, none⟩ (.int .i64 o.a)).setCell ⟨wc.heap.size, 2, none⟩ (.int .i64 o.b)).setCell ⟨wc.heap.size, 3, none⟩ (.int .i64 o.c)).setCell ⟨wc.heap.size, 4, none⟩ (.slice p1 o.rows.length c1)).setCell ⟨wc.heap.size, 5, none⟩ (.slice p2 o.evs.length c2)) := ((((((Kept.refl (fun k => k = wc.heap.size) w3).setCell (p := ⟨wc.heap.size, 0, none⟩) (Or.inl rfl) _).setCell (p := ⟨wc.heap.size, 1, none⟩) (Or.inl rfl) _).setCell (p := ⟨wc.heap.size, 2, none⟩) (Or.inl rfl) _).setCell (p := ⟨wc.heap.size, 3, none⟩) (Or.inl rfl) _).setCell (p := ⟨wc.heap.size, 4, none⟩) (Or.inl rfl) _).setCell (p := ⟨wc.heap.size, 5, none⟩) (Or.inl rfl) _
  refine ⟨o, p1, c1, p2, c2, X', wc.heap.size, rfl, hD, q5, owns_mono (owns_on hY (fun k e => hKs.block k (hY.lt k e).2 (fun e2 => by have := (hY.lt k e).1; omega))) hs, owns_mono (owns_on hV (fun k e => hKs.block k (hV.lt k e).2 (fun e2 => by have := (hV.lt k e).1; omega))) hs, hS.kept hKs (fun k e e2 => hnX' (e2 ▸ e)), ((Kept.of_below (S := X) hW).trans hK (fun _ e => Or.inl e)).trans hKs (fun k e => Or.inr (by omega)), fun k e => (hN k e).imp id (fun e => Nat.le_trans hs e), hb.trans (hKs.below hb.size (fun k e => by omega)), hnX', Nat.le_refl _⟩

theorem didCells {X : Nat → Prop} {W w3 : World} (b : Nat) (hX : ¬ X b) (hK : Kept X W w3) : (∀ o, b < W.heap.size → w3.cell? ⟨b, o, none⟩ = W.cell? ⟨b, o, none⟩) ∧ (∀ o, b < W.heap.size → w3.frozen? ⟨b, o, none⟩ = W.frozen? ⟨b, o, none⟩) :=
  ⟨fun _ h => World.cell?_of_block (a := ⟨b, _, none⟩) (hK.block b h hX), fun _ h => by simp only [World.frozen?, hK.block b h hX]⟩

theorem replyCells {X : Nat → Prop} {W w3 : World} (b : Nat) (hX : ¬ X b) (hK : Kept X W w3) (hq : W.heap[b]? = some (.cells #[.int .i64 0, .int .i64 0, .int .i64 0, .int .i64 0, .slice none 0 0, .slice none 0 0] 34 (0, 0))) : w3.cell? ⟨b, 0, none⟩ = some (.int .i64 0) ∧ w3.cell? ⟨b, 1, none⟩ = some (.int .i64 0) ∧ w3.cell? ⟨b, 2, none⟩ = some (.int .i64 0) ∧ w3.cell? ⟨b, 3, none⟩ = some (.int .i64 0) ∧ w3.cell? ⟨b, 4, none⟩ = some (.slice none 0 0) ∧ w3.cell? ⟨b, 5, none⟩ = some (.slice none 0 0) ∧ (∀ j, w3.frozen? ⟨b, j, none⟩ = false) ∧ b < w3.heap.size := by
  have hlt := (Array.getElem?_eq_some_iff.1 hq).1
  have h := (hK.block b hlt hX).trans hq
  have q0 := cell_of_row _ _ 0 _ _ (0, 0) h
  have q1 := cell_of_row _ _ 1 _ _ (0, 0) h
  have q2 := cell_of_row _ _ 2 _ _ (0, 0) h
  have q3 := cell_of_row _ _ 3 _ _ (0, 0) h
  have q4 := cell_of_row _ _ 4 _ _ (0, 0) h
  have q5 := cell_of_row _ _ 5 _ _ (0, 0) h
  simp at q0 q1 q2 q3 q4 q5
  exact ⟨q0, q1, q2, q3, q4, q5, fun j => frozen_of_row _ _ j _ _ h, Nat.lt_of_lt_of_le hlt hK.size⟩

end Go.Proofs.YtpcgnadfldimhaaGreatDoor
