/-
 The program's cluster: all happens that is due up to a time.
-/
import Derived.Test.YtpcgnadfldimhaaGreatDoorCluA
import Derived.Test.YtpcgnadfldimhaaGreatDoorSchA
namespace Go.Proofs.YtpcgnadfldimhaaGreatDoor
open Go.RowKit

/-- The program's cluster between its calls: memory, and what lies in it. -/
structure Clu (base bi : Nat) (nodes jobs wall last now : Int) (vr vl vh : Value) (L : List Job) (E : List Ev) (w : World) : Prop where
 cl : Cl base bi nodes jobs wall last now vr vl vh L (seats L) E w
 due : Due L E
 heap : HeapF (evAt E) E.length
 few : E.length ≤ L.length

theorem fire_one {j : Job} (h : j.phase = 1) : j.fire = { j with phase := 2 } := by simp [Job.fire, h]
theorem fire_two {j : Job} (h : j.phase = 2) : j.fire = { j with phase := 4 } := by simp [Job.fire, h]

/-- A job that was queued and due first has started. -/
theorem Due.start {M : List Job} {E F G : List Ev} {i : Nat} {j : Job} (h : Due M E) (hj : M[i]? = some j) (hp : j.phase = 1) (h1 : (j.event i :: F).Perm E) (h2 : G.Perm (F ++ [⟨2, (i : Int) + 1, j.stop, 0⟩])) : Due (M.set i j.fire) G := by
 have hi := (List.getElem?_eq_some_iff.1 hj).1
 have d1 := h.perm h1
 have d2 := d1.take (a := { j with phase := 4 }) (by simp [Job.active])
 have d3 := Due.put d2 hi (by simp [Job.active]) (b := j.fire) (by rw [fire_one hp]; exact Or.inr rfl)
 have e : j.fire.event i = ⟨2, (i : Int) + 1, j.stop, 0⟩ := by rw [fire_one hp]; simp [Job.event, Job.due]
 rw [e] at d3
 exact d3.perm h2
/-- A job that was running and due first has ended. -/
theorem Due.halt {M : List Job} {E F : List Ev} {i : Nat} {j : Job} (h : Due M E) (hp : j.phase = 2) (h1 : (j.event i :: F).Perm E) : Due (M.set i j.fire) F :=
 (h.perm h1).take (by rw [fire_two hp]; simp [Job.active])

theorem todo_fire {M : List Job} {i : Nat} {j : Job} (hj : M[i]? = some j) (ha : j.active) : todo (M.set i j.fire) + 1 = todo M := by
 have := todo_set M i j j.fire hj
 rcases ha with e | e
 ·rw [fire_one e] at this ⊢
  simp [Job.todo, e] at this
  omega
 ·rw [fire_two e] at this ⊢
  simp [Job.todo, e] at this
  omega

/-- While all happens that is due. -/
structure Hap (base bi : Nat) (fin nodes jobs wall last now : Int) (vr vl0 vh0 : Value) (L : List Job) (w : World) (vl vh x : Value) (M : List Job) (es E : List Ev) (wr : World) : Prop where
 steps : Steps fin L M es
 clu : Clu base bi nodes jobs wall last now vr vl vh M E wr
 len : M.length = L.length
 own : wr.ownsRow w.heap.size 55 4 x es.length (gfl Ev.four es)
 apart : ∀ k, x.ownBlock = some k → ¬ clB bi vr vl vh k
 trail : Trail bi vr vl0 vh0 vr vl vh w wr
 todo : todo M + es.length = todo L

theorem seats_form {base : Nat} {e : TypeId} {v : Value} {M : List Job} {w : World} (h : w.ownsRow base e 2 v (seats M).length (gfl seatC (seats M))) (i : Nat) (j : Job) (hj : M[i]? = some j) (hl : j.live = true) : ∃ g c, v = .slice (some ⟨g, 0, none⟩) (seats M).length c := by
 rcases own_forms h with ⟨_, hn⟩ | ⟨g, c, e⟩
 ·have := (mem_seatsN M ((i : Int) + 1, j.width) M.length).2 ⟨i, j, (List.getElem?_eq_some_iff.1 hj).1, hj, hl, rfl⟩
  have h2 : seatsN M M.length = [] := List.length_eq_zero_iff.1 hn
  rw [h2] at this
  simp at this
 ·exact ⟨g, c, e⟩

set_option maxHeartbeats 8000000 in
set_option maxRecDepth 100000 in
theorem happen_any (base bi : Nat) (fin nodes jobs wall last now : Int) (vr vl vh : Value) (L : List Job) (E : List Ev) (w : World) (h : Clu base bi nodes jobs wall last now vr vl vh L E w) (hbase : base ≤ w.heap.size) :
  Calls Tryz.prog 94 #[.pointer (some ⟨bi, 0, none⟩), .int .i64 fin] w fun e w' => ∃ x M es E' vl' vh', e = .returned x ∧ Runs fin L es M ∧ Hap base bi fin nodes jobs wall last now vr vl vh L w vl' vh' x M es E' w' := by
 obtain ⟨i0, hi, hz0, hz1, hz2⟩ := info_parts Tryz.infoEvP
 have hL := h.cl.len
 have htodo := todo_le L
 go_enter Tryz.func94, Tryz.ntmps94
 go_wp2
 go_loopw [5] (fun x wr => ∃ M es E' vl' vh', Hap base bi fin nodes jobs wall last now vr vl vh L w vl' vh' x M es E' wr) (fun x _ => 2 * L.length - (match x with | .slice _ n _ => n | _ => 0))
 case atStart => exact ⟨L, [], E, vl, vh, ⟨.none, h, rfl, World.ownsRow_nil _ _ _ _, fun k e => by simp [Value.ownBlock] at e, Trail.refl _ _ _ _ _, by simp⟩⟩
 case round =>
  obtain ⟨M, es, E', vl', vh', hh⟩ := hrel
  have hH := hh.clu.cl.hp
  have hlt := hH.lt
  by_cases hq : E'.length = 0 ∨ fin < (evAt E' 0).time
  ·have hN := next_no base bi _ _ _ _ _ _ _ vh' E' wr hH fin hq
   have HH := Lib.hid hh
   clear hh h hH
   go_wp2_with (go_at_call 125; refine hN.mono ?_; rintro e w1 ⟨rfl, hb1⟩; refine Hid.out ?_)
   refine Lib.hid ?_
   clear hN
   go_wp2
   go_ret
   have hb2 := hb1.alloc hb1.size (.cells #[.int .i64 0, .int .i64 0, .int .i64 0, .int .i64 0] 55)
   refine ⟨_, M, es, E', vl', vh', rfl, ?_, ⟨HH.out.steps, ⟨HH.out.clu.cl.below hb2, HH.out.clu.due, HH.out.clu.heap, HH.out.clu.few⟩, HH.out.len, owns_on HH.out.own (fun k e => hb2.block k (HH.out.own.lt k e).2), HH.out.apart, HH.out.trail.below hb2, HH.out.todo⟩⟩
   have := HH.out.steps.runs (.done (HH.out.clu.due.quiet HH.out.clu.heap hq))
   simpa using this
  ·have hE0 : E'.length ≠ 0 := fun e => hq (Or.inl e)
   have hE1 : (evAt E' 0).time ≤ fin := Int.not_lt.1 (fun e => hq (Or.inr e))
   obtain ⟨n, hn⟩ : ∃ n, E'.length = n + 1 := ⟨E'.length - 1, by omega⟩
   obtain ⟨gh, ch, rfl⟩ : ∃ g c, vh' = .slice (some ⟨g, 0, none⟩) (n + 1) c := by
    rcases own_forms hH.row with ⟨_, h0⟩ | ⟨g, c, e⟩
    ·omega
    ·exact ⟨g, c, by rw [← hn]; exact e⟩
   have hHl := hH.len
   obtain ⟨i, j, hleast, he0⟩ := hh.clu.due.least hh.clu.heap (by omega)
   have hj := hleast.1
   have hact := hleast.2.1
   obtain ⟨wd, wl, ph, st, en⟩ := j
   have hi9 := (List.getElem?_eq_some_iff.1 hj).1
   have hMl := hh.clu.cl.len
   have hdt : (evAt E' 0).time = (⟨wd, wl, ph, st, en⟩ : Job).due := by rw [he0]; rfl
   by_cases hp : ph = 1
   ·subst hp
    simp [Job.due] at hdt
    have hp : (⟨wd, wl, 1, st, en⟩ : Job).phase = 1 := rfl
    have hev : evAt E' 0 = ⟨1, (i : Int) + 1, st, 0⟩ := by rw [he0]; simp [Job.event, Job.due]
    have hN := next_yes base bi gh ch n _ _ _ _ _ _ _ E' wr hH hn (fun e he => hh.clu.due.ok e he) (by rw [← hn]; exact hh.clu.heap) fin (by omega)
    rw [hev] at hN
    have hperm0 : ∀ F : List Ev, (evAt E' 0 :: F).Perm E' → ((⟨wd, wl, 1, st, en⟩ : Job).event i :: F).Perm E' := fun F hF => by rw [← he0]; exact hF
    have HH := Lib.hid hh
    have HJ := Lib.hid hj
    have HP0 := Lib.hid hperm0
    have hxs := hh.own
    obtain ⟨px, cx, rfl⟩ := own_slice hxs
    have HX := Lib.hid hxs
    clear hxs hperm0 hh h hH hj he0
    go_wp2_with (go_at_call 125; refine hN.mono ?_; rintro e w1 ⟨rfl, F, hpF, hhF, hH1, hk1⟩; refine Hid.out ?_)
    refine Lib.hid ?_
    clear hN
    have hFl : F.length = n := by have := hpF.length_eq; simp at this; omega
    obtain ⟨hC1, hT1⟩ := HH.out.clu.cl.heap hH1 (hk1.wider (fun k e => e.imp id (fun e => by simp [Value.ownBlock, e]))) (Or.inl rfl)
    have hP1 := HP0.out F (by rw [hev]; exact hpF)
    have hx1 := owns_on (w' := w1) HX.out (fun k e => hk1.block k (HX.out.lt k e).2 (fun e2 => HH.out.apart k e (e2.elim Or.inl (fun e3 => Or.inr (Or.inr (Or.inr (by simp [Value.ownBlock, e3])))))))
    have hs1 := hk1.size
    have hlt1 := hC1.hp.lt
    have hB2 : Below w1.heap.size w1 (w1.alloc (.cells #[.int .i64 1, .int .i64 ((i : Int) + 1), .int .i64 st, .int .i64 0] 55)) := (Below.refl _ _).alloc (Nat.le_refl _) _
    have hq2 := heap_alloc_new w1 (.cells #[.int .i64 1, .int .i64 ((i : Int) + 1), .int .i64 st, .int .i64 0] 55)
    have hC2 := hC1.below hB2
    obtain ⟨gr, cr, rfl, _⟩ := hC2.recs i _ HJ.out
    have hS := start_any base bi gr cr nodes jobs wall last now _ _ M (seats M) F _ hC2 (by simp; have := HH.out.trail.kept.size; omega) i _ HJ.out (by omega) (fun e he => HH.out.clu.due.ok e (hpF.mem_iff.1 (List.mem_cons_of_mem _ he))) (by rw [hFl]; exact hhF)
    have HC1 := Lib.hid hC1
    have HT1 := Lib.hid hT1
    have HX1 := Lib.hid (hx1.alloc (.cells #[.int .i64 1, .int .i64 ((i : Int) + 1), .int .i64 st, .int .i64 0] 55))
    have HQ2 := Lib.hid hq2
    have HHF := Lib.hid hhF
    have hsz2 : (w1.alloc (.cells #[.int .i64 1, .int .i64 ((i : Int) + 1), .int .i64 st, .int .i64 0] 55)).heap.size = w1.heap.size + 1 := by simp
    clear hC1 hT1 hx1 hB2 hC2 hH1 hk1 hpF hq2 hhF
    go_wp2_with (go_at_call 126; refine hS.mono ?_; rintro e w3 ⟨rfl, vh3, G, hpG, hhG, hC3, hT3⟩; refine Hid.out ?_)
    refine Lib.hid ?_
    clear hS
    have hno : ∀ k, clB bi _ _ _ k → k < w1.heap.size := fun k e => HC1.out.lt k e
    have hq3 := (hT3.kept.block w1.heap.size (by omega) (fun e => by have := hno _ e; omega)).trans HQ2.out
    have y0 := cell_of_row _ _ 0 _ _ (0, 0) hq3
    have y1 := cell_of_row _ _ 1 _ _ (0, 0) hq3
    have y2 := cell_of_row _ _ 2 _ _ (0, 0) hq3
    have y3 := cell_of_row _ _ 3 _ _ (0, 0) hq3
    simp at y0 y1 y2 y3
    have hapx : ∀ k, (Value.slice px es.length cx).ownBlock = some k → k < w1.heap.size ∧ ¬ clB bi (.slice (some ⟨gr, 0, none⟩) M.length cr) vl' (.slice (some ⟨gh, 0, none⟩) n ch) k := fun k e => ⟨by have := (HX.out.lt k e).2; omega, fun e2 => HH.out.apart k e (by rcases e2 with e2 | e2 | e2 | e2; exact Or.inl e2; exact Or.inr (Or.inl e2); exact Or.inr (Or.inr (Or.inl e2)); exact Or.inr (Or.inr (Or.inr (by simpa [Value.ownBlock] using e2))))⟩
    have hx3 := owns_on (w' := w3) HX1.out (fun k e => hT3.kept.block k (HX1.out.lt k e).2 (hapx k e).2)
    have hs3 := hT3.kept.size
    have hsm : w.heap.size ≤ wr.heap.size := HH.out.trail.kept.size
    have hto := HH.out.todo
    have hML := HH.out.len
    have htf := todo_fire HJ.out (Or.inl rfl)
    have HX3 := Lib.hid hx3
    have HC3 := Lib.hid hC3
    have HT3 := Lib.hid hT3
    have HAP := Lib.hid hapx
    clear hx3 hq3 hno hapx hC3 hT3
    go_wp2_with (at_builtin; refine wpList_append_lies _ rfl _ _ 32 rfl w.heap.size 55 i0 (.agg #[.int .i64 0, .int .i64 0, .int .i64 0, .int .i64 0]) 4 32 Tryz.underlying32 hi hz0 hz1 hz2 rfl (by decide) _ _ _ rfl (HX3.out.alloc _) ⟨w3.heap.size, 0, none⟩ 1 1 [.int .i64 1, .int .i64 ((i : Int) + 1), .int .i64 st, .int .i64 0] rfl rfl (news_at _ #[.int .i64 1, .int .i64 ((i : Int) + 1), .int .i64 st, .int .i64 0] _ _ rfl) (by intro u' hu'; simp at hu'; rcases hu' with rfl | rfl | rfl | rfl <;> rfl) (by decide) (by unfold maxLen; omega) (by omega) (by simp; omega) _ rfl ?_)
    intro gx cx2 w5 ownx growx hatx ltx
    have hs5 := growx.size
    simp at hs5
    have hC5 := HC3.out.on (w' := w5) (fun k e => (growx.block k (by simp; have := HC3.out.lt k e; omega) (fun e2 => by
     have hh := HAP.out k e2.symm
     rcases HT3.out.new k e with e3 | e3
     ·exact hh.2 e3
     ·omega)).trans (Below.heap_alloc _ _ _ (HC3.out.lt k e)))
    have hL3 : ∀ k, clB bi _ _ _ k → k < w3.heap.size := fun k e => HC3.out.lt k e
    have hK5 : Kept (fun k => (Value.slice px es.length cx).ownBlock = some k) w3 w5 := ((Kept.refl _ w3).alloc _).grown growx (fun k e => Or.inl e)
    have hown5 : w5.ownsRow w.heap.size 55 4 (.slice (some ⟨gx, 0, none⟩) (es.length + 1) cx2) (es ++ [(⟨1, (i : Int) + 1, st, 0⟩ : Ev)]).length (gfl Ev.four (es ++ [(⟨1, (i : Int) + 1, st, 0⟩ : Ev)])) := by
     rw [gfl_append, List.length_append, List.length_singleton]
     simpa [gfl, Ev.four] using ownx
    have hap5 : ∀ k, (Value.slice (some ⟨gx, 0, none⟩) (es.length + 1) cx2).ownBlock = some k → ¬ clB bi _ _ _ k := fun k e e2 => by
     simp [Value.ownBlock] at e
     subst e
     rcases hatx with e3 | e3
     ·have hh := HAP.out gx e3
      rcases HT3.out.new gx e2 with e4 | e4
      ·exact hh.2 e4
      ·omega
     ·have := hL3 gx e2
      have e5 : gx = w3.heap.size + 1 := by simpa using e3
      omega
    clear ownx growx hatx
    go_wp2
    go_roundw
    case rel =>
     have hT5 : Trail bi (.slice (some ⟨gr, 0, none⟩) M.length cr) vl vh _ _ _ w w3 := HH.out.trail.trans ((HT1.out.below ((Below.refl _ _).alloc (Nat.le_refl _) _)).trans HT3.out)
     refine ⟨M.set i (⟨wd, wl, 1, st, en⟩ : Job).fire, es ++ [⟨1, (i : Int) + 1, st, 0⟩], G, _, _, ⟨?_, ⟨?_, HH.out.clu.due.start HJ.out rfl hP1 hpG, hhG, ?_⟩, by rw [List.length_set]; exact hML, hown5, hap5, ⟨hT5.kept.trans hK5 (fun k e => Or.inr ((HX.out.lt k e).1)), hT5.new⟩, by rw [List.length_append, List.length_singleton]; omega⟩⟩
     ·have := HH.out.steps.more hleast (by simp [Job.due]; omega)
      have e2 : (⟨wd, wl, 1, st, en⟩ : Job).event i = ⟨1, (i : Int) + 1, st, 0⟩ := by simp [Job.event, Job.due]
      rw [e2] at this
      exact this
     ·have hsd : seats (M.set i (⟨wd, wl, 1, st, en⟩ : Job).fire) = seats M := seats_set M i _ _ HJ.out (by simp [Job.fire, Job.live, liveB]) (by simp [Job.fire])
      rw [hsd]
      exact hC5
     ·rw [List.length_set]
      have := HH.out.clu.few
      have h2 := hpG.length_eq; simp at h2
      omega
    case measure => simp; omega
   ·obtain rfl : ph = 2 := by unfold Job.active at hact; simp only at hact; omega
    simp [Job.due] at hdt
    have hp : (⟨wd, wl, 2, st, en⟩ : Job).phase = 2 := rfl
    have hev : evAt E' 0 = ⟨2, (i : Int) + 1, en, 0⟩ := by rw [he0]; simp [Job.event, Job.due]
    have hN := next_yes base bi gh ch n _ _ _ _ _ _ _ E' wr hH hn (fun e he => hh.clu.due.ok e he) (by rw [← hn]; exact hh.clu.heap) fin (by omega)
    rw [hev] at hN
    have hperm0 : ∀ F : List Ev, (evAt E' 0 :: F).Perm E' → ((⟨wd, wl, 2, st, en⟩ : Job).event i :: F).Perm E' := fun F hF => by rw [← he0]; exact hF
    have HH := Lib.hid hh
    have HJ := Lib.hid hj
    have HP0 := Lib.hid hperm0
    have hxs := hh.own
    obtain ⟨px, cx, rfl⟩ := own_slice hxs
    have HX := Lib.hid hxs
    clear hxs hperm0 hh h hH hj he0
    go_wp2_with (go_at_call 125; refine hN.mono ?_; rintro e w1 ⟨rfl, F, hpF, hhF, hH1, hk1⟩; refine Hid.out ?_)
    refine Lib.hid ?_
    clear hN
    have hFl : F.length = n := by have := hpF.length_eq; simp at this; omega
    obtain ⟨hC1, hT1⟩ := HH.out.clu.cl.heap hH1 (hk1.wider (fun k e => e.imp id (fun e => by simp [Value.ownBlock, e]))) (Or.inl rfl)
    have hP1 := HP0.out F (by rw [hev]; exact hpF)
    have hx1 := owns_on (w' := w1) HX.out (fun k e => hk1.block k (HX.out.lt k e).2 (fun e2 => HH.out.apart k e (e2.elim Or.inl (fun e3 => Or.inr (Or.inr (Or.inr (by simp [Value.ownBlock, e3])))))))
    have hs1 := hk1.size
    have hlt1 := hC1.hp.lt
    have hB2 : Below w1.heap.size w1 (w1.alloc (.cells #[.int .i64 2, .int .i64 ((i : Int) + 1), .int .i64 en, .int .i64 0] 55)) := (Below.refl _ _).alloc (Nat.le_refl _) _
    have hq2 := heap_alloc_new w1 (.cells #[.int .i64 2, .int .i64 ((i : Int) + 1), .int .i64 en, .int .i64 0] 55)
    have hC2 := hC1.below hB2
    obtain ⟨gr, cr, rfl, _⟩ := hC2.recs i _ HJ.out
    obtain ⟨gl, cl, rfl⟩ := seats_form hC2.liv i _ HJ.out (by simp [Job.live, liveB])
    have hS := timeOut_any base bi gr cr gl cl nodes jobs wall last now _ M (seats M) F _ hC2 i _ HJ.out
    have HC1 := Lib.hid hC1
    have HT1 := Lib.hid hT1
    have HX1 := Lib.hid (hx1.alloc (.cells #[.int .i64 2, .int .i64 ((i : Int) + 1), .int .i64 en, .int .i64 0] 55))
    have HQ2 := Lib.hid hq2
    have HHF := Lib.hid hhF
    have hsz2 : (w1.alloc (.cells #[.int .i64 2, .int .i64 ((i : Int) + 1), .int .i64 en, .int .i64 0] 55)).heap.size = w1.heap.size + 1 := by simp
    clear hC1 hT1 hx1 hB2 hC2 hH1 hk1 hpF hq2 hhF
    go_wp2_with (go_at_call 127; refine hS.mono ?_; rintro e w3 ⟨rfl, hC3, hT3⟩; refine Hid.out ?_)
    refine Lib.hid ?_
    clear hS
    have hno : ∀ k, clB bi _ _ _ k → k < w1.heap.size := fun k e => HC1.out.lt k e
    have hq3 := (hT3.kept.block w1.heap.size (by omega) (fun e => by have := hno _ e; omega)).trans HQ2.out
    have y0 := cell_of_row _ _ 0 _ _ (0, 0) hq3
    have y1 := cell_of_row _ _ 1 _ _ (0, 0) hq3
    have y2 := cell_of_row _ _ 2 _ _ (0, 0) hq3
    have y3 := cell_of_row _ _ 3 _ _ (0, 0) hq3
    simp at y0 y1 y2 y3
    have hapx : ∀ k, (Value.slice px es.length cx).ownBlock = some k → k < w1.heap.size ∧ ¬ clB bi (.slice (some ⟨gr, 0, none⟩) M.length cr) (.slice (some ⟨gl, 0, none⟩) (seats M).length cl) (.slice (some ⟨gh, 0, none⟩) n ch) k := fun k e => ⟨by have := (HX.out.lt k e).2; omega, fun e2 => HH.out.apart k e (by rcases e2 with e2 | e2 | e2 | e2; exact Or.inl e2; exact Or.inr (Or.inl e2); exact Or.inr (Or.inr (Or.inl e2)); exact Or.inr (Or.inr (Or.inr (by simpa [Value.ownBlock] using e2))))⟩
    have hx3 := owns_on (w' := w3) HX1.out (fun k e => hT3.kept.block k (HX1.out.lt k e).2 (hapx k e).2)
    have hs3 := hT3.kept.size
    have hsm : w.heap.size ≤ wr.heap.size := HH.out.trail.kept.size
    have hto := HH.out.todo
    have hML := HH.out.len
    have htf := todo_fire HJ.out (Or.inr rfl)
    have HX3 := Lib.hid hx3
    have HC3 := Lib.hid hC3
    have HT3 := Lib.hid hT3
    have HAP := Lib.hid hapx
    clear hx3 hq3 hno hapx hC3 hT3
    go_wp2_with (at_builtin; refine wpList_append_lies _ rfl _ _ 32 rfl w.heap.size 55 i0 (.agg #[.int .i64 0, .int .i64 0, .int .i64 0, .int .i64 0]) 4 32 Tryz.underlying32 hi hz0 hz1 hz2 rfl (by decide) _ _ _ rfl (HX3.out.alloc _) ⟨w3.heap.size, 0, none⟩ 1 1 [.int .i64 2, .int .i64 ((i : Int) + 1), .int .i64 en, .int .i64 0] rfl rfl (news_at _ #[.int .i64 2, .int .i64 ((i : Int) + 1), .int .i64 en, .int .i64 0] _ _ rfl) (by intro u' hu'; simp at hu'; rcases hu' with rfl | rfl | rfl | rfl <;> rfl) (by decide) (by unfold maxLen; omega) (by omega) (by simp; omega) _ rfl ?_)
    intro gx cx2 w5 ownx growx hatx ltx
    have hs5 := growx.size
    simp at hs5
    have hC5 := HC3.out.on (w' := w5) (fun k e => (growx.block k (by simp; have := HC3.out.lt k e; omega) (fun e2 => by
     have hh := HAP.out k e2.symm
     rcases HT3.out.new k e with e3 | e3
     ·exact hh.2 e3
     ·omega)).trans (Below.heap_alloc _ _ _ (HC3.out.lt k e)))
    have hL3 : ∀ k, clB bi _ _ _ k → k < w3.heap.size := fun k e => HC3.out.lt k e
    have hK5 : Kept (fun k => (Value.slice px es.length cx).ownBlock = some k) w3 w5 := ((Kept.refl _ w3).alloc _).grown growx (fun k e => Or.inl e)
    have hown5 : w5.ownsRow w.heap.size 55 4 (.slice (some ⟨gx, 0, none⟩) (es.length + 1) cx2) (es ++ [(⟨2, (i : Int) + 1, en, 0⟩ : Ev)]).length (gfl Ev.four (es ++ [(⟨2, (i : Int) + 1, en, 0⟩ : Ev)])) := by
     rw [gfl_append, List.length_append, List.length_singleton]
     simpa [gfl, Ev.four] using ownx
    have hap5 : ∀ k, (Value.slice (some ⟨gx, 0, none⟩) (es.length + 1) cx2).ownBlock = some k → ¬ clB bi _ _ _ k := fun k e e2 => by
     simp [Value.ownBlock] at e
     subst e
     rcases hatx with e3 | e3
     ·have hh := HAP.out gx e3
      rcases HT3.out.new gx e2 with e4 | e4
      ·exact hh.2 e4
      ·omega
     ·have := hL3 gx e2
      have e5 : gx = w3.heap.size + 1 := by simpa using e3
      omega
    clear ownx growx hatx
    go_wp2
    go_roundw
    case rel =>
     have hT5 : Trail bi (.slice (some ⟨gr, 0, none⟩) M.length cr) vl vh _ _ _ w w3 := HH.out.trail.trans ((HT1.out.below ((Below.refl _ _).alloc (Nat.le_refl _) _)).trans HT3.out)
     refine ⟨M.set i (⟨wd, wl, 2, st, en⟩ : Job).fire, es ++ [⟨2, (i : Int) + 1, en, 0⟩], F, _, _, ⟨?_, ⟨?_, HH.out.clu.due.halt rfl hP1, by rw [hFl]; exact HHF.out, ?_⟩, by rw [List.length_set]; exact hML, hown5, hap5, ⟨hT5.kept.trans hK5 (fun k e => Or.inr ((HX.out.lt k e).1)), hT5.new⟩, by rw [List.length_append, List.length_singleton]; omega⟩⟩
     ·have := HH.out.steps.more hleast (by simp [Job.due]; omega)
      have e2 : (⟨wd, wl, 2, st, en⟩ : Job).event i = ⟨2, (i : Int) + 1, en, 0⟩ := by simp [Job.event, Job.due]
      rw [e2] at this
      exact this
     ·have hsd : seats (M.set i (⟨wd, wl, 2, st, en⟩ : Job).fire) = stay ((i : Int) + 1) (seats M) := seats_leave M i _ (List.getElem?_eq_some_iff.1 HJ.out).1 (by simp [Job.fire, Job.live, liveB])
      rw [hsd]
      exact hC5
     ·rw [List.length_set]
      have := HH.out.clu.few
      skip
      omega
    case measure => simp; omega

end Go.Proofs.YtpcgnadfldimhaaGreatDoor
