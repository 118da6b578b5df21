/-
 The program's heap of events: its methods.
-/
import Derived.Test.YtpcgnadfldimhaaGreatDoorMemG
import Derived.Test.YtpcgnadfldimhaaGreatDoorSchA
namespace Go.Proofs.YtpcgnadfldimhaaGreatDoor
open Go.RowKit

theorem Tryz.infoEvP : (Tryz.prog.info? 55).map (fun i => (i.zero, i.size, i.bytes)) = some (some (.agg #[.int .i64 0, .int .i64 0, .int .i64 0, .int .i64 0]), 4, 32) := by kernel_rfl
def Ev.four (e : Ev) : List Value := [.int .i64 e.kind, .int .i64 e.id, .int .i64 e.time, .int .i64 e.dest]
theorem Ev.four_len (e : Ev) : e.four.length = 4 := rfl

/-- The order, as the program asks it. -/
def Ev.ltB (a b : Ev) : Bool := if a.time ≠ b.time then decide (a.time < b.time) else if a.kind ≠ b.kind then decide (a.kind = 2) else decide (a.id < b.id)
theorem Ev.ltB_iff (a b : Ev) : a.ltB b = true ↔ a.lt b := by
 unfold Ev.ltB Ev.lt
 split
 ·simp; omega
 ·split
  ·simp; omega
  ·simp; omega

/-- The heap's row. -/
def Row (base : Nat) (v : Value) (E : List Ev) (w : World) : Prop := w.ownsRow base 55 4 v E.length (gfl Ev.four E)

theorem Row.cells {base g cap : Nat} {E : List Ev} {w : World} (h : Row base (.slice (some ⟨g, 0, none⟩) E.length cap) E w) (i : Nat) (hi : i < E.length) : w.cell? ⟨g, i * 4, none⟩ = some (.int .i64 (evAt E i).kind) ∧ w.cell? ⟨g, i * 4 + 1, none⟩ = some (.int .i64 (evAt E i).id) ∧ w.cell? ⟨g, i * 4 + 2, none⟩ = some (.int .i64 (evAt E i).time) ∧ w.cell? ⟨g, i * 4 + 3, none⟩ = some (.int .i64 (evAt E i).dest) := by
 have e := evAt_lt E i hi
 have c := fun t (ht : t < 4) => (World.ownsRow.cellAt h (i * 4 + t) (by omega)).trans (gfl_at Ev.four 4 Ev.four_len E i _ e t ht)
 exact ⟨c 0 (by omega), c 1 (by omega), c 2 (by omega), c 3 (by omega)⟩
theorem Row.frozen {base g cap : Nat} {E : List Ev} {w : World} (h : Row base (.slice (some ⟨g, 0, none⟩) E.length cap) E w) (i : Nat) : w.frozen? ⟨g, i, none⟩ = false := World.ownsRow.frozenAt h i

set_option maxHeartbeats 4000000 in
set_option maxRecDepth 100000 in
theorem less_any (base g cap : Nat) (E : List Ev) (w : World) (h : Row base (.slice (some ⟨g, 0, none⟩) E.length cap) E w) (i j : Nat) (hi : i < E.length) (hj : j < E.length) (_hl : E.length ≤ 1000000000) :
  Calls Tryz.prog 221 #[.slice (some ⟨g, 0, none⟩) E.length cap, .int .i64 i, .int .i64 j] w fun e w' => e = .returned (.bool ((evAt E i).ltB (evAt E j))) ∧ Below w.heap.size w w' := by
 obtain ⟨a0, a1, a2, a3⟩ := h.cells i hi
 obtain ⟨b0, b1, b2, b3⟩ := h.cells j hj
 have hg : g < w.heap.size := block_lt_of_cell (a := ⟨g, i * 4, none⟩) a0
 have i1 : (0 : Int) ≤ (i : Int) := by omega
 have i2 : (i : Int) < (E.length : Int) := by omega
 have j1 : (0 : Int) ≤ (j : Int) := by omega
 have j2 : (j : Int) < (E.length : Int) := by omega
 clear h
 generalize evAt E i = ea at *
 generalize evAt E j = eb at *
 obtain ⟨ka, xa, ta, da⟩ := ea
 obtain ⟨kb, xb, tb, db⟩ := eb
 simp only at a0 a1 a2 a3 b0 b1 b2 b3
 go_enter Tryz.func221, Tryz.ntmps221
 go_wp2
 go_region
 all_goals
  by_cases ht : ta = tb
  ·subst ht
   by_cases hk : ka = kb
   ·subst hk
    go_wp2
    go_ret
    exact ⟨by simp [Ev.ltB], (((Below.refl w.heap.size w).alloc (Nat.le_refl _) _).alloc (by simp) _).drew⟩
   ·go_wp2
    go_ret
    exact ⟨by simp [Ev.ltB, hk]; rfl, (((Below.refl w.heap.size w).alloc (Nat.le_refl _) _).alloc (by simp) _).drew⟩
  ·go_wp2
   go_ret
   exact ⟨by simp [Ev.ltB, ht], (((Below.refl w.heap.size w).alloc (Nat.le_refl _) _).alloc (by simp) _).drew⟩

/-- An event, put at place i of the row. -/
abbrev putE (w : World) (g i : Nat) (e : Ev) : World := (((w.setCell ⟨g, i * 4, none⟩ (.int .i64 e.kind)).setCell ⟨g, i * 4 + 1, none⟩ (.int .i64 e.id)).setCell ⟨g, i * 4 + 2, none⟩ (.int .i64 e.time)).setCell ⟨g, i * 4 + 3, none⟩ (.int .i64 e.dest)
theorem Row.put {base g cap : Nat} {E : List Ev} {w : World} (h : Row base (.slice (some ⟨g, 0, none⟩) E.length cap) E w) (i : Nat) (e : Ev) (hi : i < E.length) : Row base (.slice (some ⟨g, 0, none⟩) E.length cap) (E.set i e) (putE w g i e) := by
 have h1 := (World.ownsRow.stored h (i * 4) (.int .i64 e.kind)).1
 have h2 := (h1.stored (i * 4 + 1) (.int .i64 e.id)).1
 have h3 := (h2.stored (i * 4 + 2) (.int .i64 e.time)).1
 have h4 := (h3.stored (i * 4 + 3) (.int .i64 e.dest)).1
 rw [gfl_set4 Ev.four Ev.four_len E i _ e (evAt_lt E i hi) _ _ _ _ rfl] at h4
 unfold Row
 rw [List.length_set]
 exact h4
theorem Kept.putE {S : Nat → Prop} {w u : World} (h : Kept S w u) {g : Nat} (hg : S g ∨ w.heap.size ≤ g) (i : Nat) (e : Ev) : Kept S w (putE u g i e) :=
 (((h.setCell (p := ⟨g, i * 4, none⟩) hg _).setCell (p := ⟨g, i * 4 + 1, none⟩) hg _).setCell (p := ⟨g, i * 4 + 2, none⟩) hg _).setCell (p := ⟨g, i * 4 + 3, none⟩) hg _
theorem Row.on {base : Nat} {v : Value} {E : List Ev} {w w' : World} (h : Row base v E w) (hk : ∀ k, v.ownBlock = some k → w'.heap[k]? = w.heap[k]?) : Row base v E w' := owns_on h hk

theorem Row.drew {base : Nat} {v : Value} {E : List Ev} {w : World} (h : Row base v E w) : Row base v E w.drew := h.on (fun _ _ => rfl)
theorem Row.swap {base g cap : Nat} {E : List Ev} {w : World} (h : Row base (.slice (some ⟨g, 0, none⟩) E.length cap) E w) (i j : Nat) (hi : i < E.length) (hj : j < E.length) : Row base (.slice (some ⟨g, 0, none⟩) E.length cap) (swapL E i j) (putE (putE w g i (evAt E j)) g j (evAt E i)).drew ∧ Kept (fun k => k = g) w (putE (putE w g i (evAt E j)) g j (evAt E i)).drew := by
 have h2 := (h.put i (evAt E j) hi)
 have h3 := Row.put (E := E.set i (evAt E j)) (by rw [List.length_set]; exact h2) j (evAt E i) (by rw [List.length_set]; exact hj)
 rw [List.length_set] at h3
 exact ⟨h3.drew, (((Kept.refl (fun k => k = g) w).putE (g := g) (Or.inl rfl) i _).putE (g := g) (Or.inl rfl) j _).drew⟩

set_option maxHeartbeats 1000000 in
set_option maxRecDepth 100000 in
theorem swap_any (base g cap : Nat) (E : List Ev) (w : World) (h : Row base (.slice (some ⟨g, 0, none⟩) E.length cap) E w) (i j : Nat) (hi : i < E.length) (hj : j < E.length) (_hl : E.length ≤ 1000000000) :
  Calls Tryz.prog 222 #[.slice (some ⟨g, 0, none⟩) E.length cap, .int .i64 i, .int .i64 j] w fun e w' => e = .returned (.tuple #[]) ∧ Row base (.slice (some ⟨g, 0, none⟩) E.length cap) (swapL E i j) w' ∧ Kept (fun k => k = g) w w' := by
 obtain ⟨a0, a1, a2, a3⟩ := h.cells i hi
 obtain ⟨b0, b1, b2, b3⟩ := h.cells j hj
 have f := fun t => h.frozen t
 have hg : g < w.heap.size := block_lt_of_cell (a := ⟨g, i * 4, none⟩) a0
 have i1 : (0 : Int) ≤ (i : Int) := by omega
 have i2 : (i : Int) < (E.length : Int) := by omega
 have j1 : (0 : Int) ≤ (j : Int) := by omega
 have j2 : (j : Int) < (E.length : Int) := by omega
 have H := Lib.hid (h.swap i j hi hj)
 clear h
 by_cases hij : i = j
 ·subst hij
  go_enter Tryz.func222, Tryz.ntmps222
  go_wp2
  go_region
  all_goals
   refine bodyPost_end (results_none Tryz.results222 _ _ _) rfl ⟨rfl, ?_⟩
   exact H.out
 ·go_enter Tryz.func222, Tryz.ntmps222
  go_wp2
  go_region
  all_goals
   refine bodyPost_end (results_none Tryz.results222 _ _ _) rfl ⟨rfl, ?_⟩
   exact H.out

end Go.Proofs.YtpcgnadfldimhaaGreatDoor
namespace Go.Proofs.YtpcgnadfldimhaaGreatDoor
open Go.RowKit

theorem ssa_ok (P : Program) (w : World) (xt : TypeId) (a : Addr) (s m : ByteArray) : (Builtin.ssaWrapNilChk_ #[xt] xt #[.pointer (some a), .string s, .string m]).run P w = .ok (.pointer (some a)) w := rfl
/-- A value's method, called by a pointer to it. -/
theorem run_method_value {P : Program} {t elem : TypeId} {i : TypeInfo} {m : Method} {name : String} {f : FuncId} {n : Nat} {a : Addr} {v : Value} {w : World} (hi : P.info? t = some i) (hm : i.methods.find? (·.name == name) = some m) (hp : m.path = #[]) (hf : m.func = some (f, false)) (hd : (underlying t).run P w = .ok (.pointer elem) w) (hl : (loadVar elem a).run P w = .ok v w) : (Go.method (n + 1) t (.pointer (some a)) name).run P w = .ok (f, v) w := by
 have ht : (typeInfo t).run P w = .ok i w := by simp [typeInfo, hi]
 unfold Go.method
 rw [Sem.run_bind, ht, Result.andThen_ok]
 simp only [hm]
 rw [Sem.run_bind]
 simp only [hp, hf, follow, Sem.run_pure, Result.andThen_ok]
 rw [Sem.run_bind]
 unfold receiverAt
 rw [Sem.run_bind, hd, Result.andThen_ok]
 simp only [Place.get, Sem.run_bind, Sem.run_pure, Result.andThen_ok, Array.isEmpty_empty, if_true, strVal, ssa_ok, asAddr, hl]
theorem meth_parts {o : Option TypeInfo} {name : String} {p : Array FieldStep × Option (FuncId × Bool)} (h : o.map (fun i => (i.methods.find? (·.name == name)).map (fun m => (m.path, m.func))) = some (some p)) : ∃ i m, o = some i ∧ i.methods.find? (·.name == name) = some m ∧ m.path = p.1 ∧ m.func = p.2 := by
 cases o with
 | none => simp at h
 | some i =>
  simp only [Option.map_some, Option.some.injEq] at h
  obtain ⟨m, h1, h2⟩ := Option.map_eq_some_iff.1 h
  exact ⟨i, m, rfl, h1, by rw [← h2], by rw [← h2]⟩

theorem Tryz.undBT (w : World) : (underlying 260).run Tryz.prog w = .ok (.pointer 170) w := by kernel_rfl
theorem load_bt (a : Addr) (v : Value) (w : World) (h : w.cell? a = some v) : (loadVar 170 a).run Tryz.prog w = .ok v w := by
 simp [loadVar, Sem.run_bind, go_sem, h]
theorem Tryz.methLess (a : Addr) (v : Value) (w : World) (h : w.cell? a = some v) : (Go.method 446 260 (.pointer (some a)) "Less").run Tryz.prog w = .ok (221, v) w := by
 obtain ⟨i, m, h1, h2, h3, h4⟩ := meth_parts (o := Tryz.prog.info? 260) (name := "Less") (p := (#[], some (221, false))) (by kernel_rfl)
 exact run_method_value h1 h2 h3 h4 (Tryz.undBT w) (load_bt a v w h)
theorem Tryz.methSwap (a : Addr) (v : Value) (w : World) (h : w.cell? a = some v) : (Go.method 446 260 (.pointer (some a)) "Swap").run Tryz.prog w = .ok (222, v) w := by
 obtain ⟨i, m, h1, h2, h3, h4⟩ := meth_parts (o := Tryz.prog.info? 260) (name := "Swap") (p := (#[], some (222, false))) (by kernel_rfl)
 exact run_method_value h1 h2 h3 h4 (Tryz.undBT w) (load_bt a v w h)
theorem Tryz.methLen (a : Addr) (v : Value) (w : World) (h : w.cell? a = some v) : (Go.method 446 260 (.pointer (some a)) "Len").run Tryz.prog w = .ok (220, v) w := by
 obtain ⟨i, m, h1, h2, h3, h4⟩ := meth_parts (o := Tryz.prog.info? 260) (name := "Len") (p := (#[], some (220, false))) (by kernel_rfl)
 exact run_method_value h1 h2 h3 h4 (Tryz.undBT w) (load_bt a v w h)
theorem Tryz.methPush (v : Value) (w : World) : (Go.method 446 260 v "Push").run Tryz.prog w = .ok (244, v) w := by kernel_rfl
theorem Tryz.methPop (v : Value) (w : World) : (Go.method 446 260 v "Pop").run Tryz.prog w = .ok (243, v) w := by kernel_rfl

/-- The cluster's block, with its heap in the last cell. -/
structure Hp (base bi : Nat) (c0 c1 c2 c3 c4 c5 c6 v : Value) (E : List Ev) (w : World) : Prop where
 blk : w.heap[bi]? = some (.cells #[c0, c1, c2, c3, c4, c5, c6, v] 174 (0, 0))
 row : Row base v E w
 len : E.length ≤ 1000000000
theorem Hp.cell {base bi : Nat} {c0 c1 c2 c3 c4 c5 c6 v : Value} {E : List Ev} {w : World} (h : Hp base bi c0 c1 c2 c3 c4 c5 c6 v E w) : w.cell? ⟨bi, 7, none⟩ = some v := by
 have := cell_of_row _ _ 7 _ _ (0, 0) h.blk
 simpa using this
theorem Hp.lt {base bi : Nat} {c0 c1 c2 c3 c4 c5 c6 v : Value} {E : List Ev} {w : World} (h : Hp base bi c0 c1 c2 c3 c4 c5 c6 v E w) : bi < w.heap.size := (Array.getElem?_eq_some_iff.1 h.blk).1
theorem Hp.apart {base bi : Nat} {c0 c1 c2 c3 c4 c5 c6 v : Value} {E : List Ev} {w : World} (h : Hp base bi c0 c1 c2 c3 c4 c5 c6 v E w) : v.ownBlock ≠ some bi := owns_not h.row h.blk (by decide)
theorem Hp.below {base bi : Nat} {c0 c1 c2 c3 c4 c5 c6 v : Value} {E : List Ev} {w w' : World} (h : Hp base bi c0 c1 c2 c3 c4 c5 c6 v E w) (hb : Below w.heap.size w w') : Hp base bi c0 c1 c2 c3 c4 c5 c6 v E w' :=
 ⟨(hb.block bi h.lt).trans h.blk, h.row.on (fun k e => hb.block k (World.ownsRow.lt h.row k e).2), h.len⟩
theorem Hp.swapped {base bi g cap : Nat} {c0 c1 c2 c3 c4 c5 c6 : Value} {E F : List Ev} {w w' : World} (h : Hp base bi c0 c1 c2 c3 c4 c5 c6 (.slice (some ⟨g, 0, none⟩) E.length cap) E w) (hr : Row base (.slice (some ⟨g, 0, none⟩) E.length cap) F w') (hk : Kept (fun k => k = g) w w') (hl : F.length = E.length) : Hp base bi c0 c1 c2 c3 c4 c5 c6 (.slice (some ⟨g, 0, none⟩) F.length cap) F w' :=
 ⟨by rw [hl]; exact (hk.block bi h.lt (fun e => h.apart (by simp [Value.ownBlock, e]))).trans h.blk, by rw [hl]; exact hr, by rw [hl]; exact h.len⟩

theorem par_quo (k : Nat) : ((k : Int) - 1).tdiv 2 = (par k : Int) := by
 unfold par
 rcases Nat.eq_zero_or_pos k with rfl | h
 ·rfl
 ·rw [Int.tdiv_eq_ediv_of_nonneg (by omega)]
  omega
theorem Hp.oks {base bi : Nat} {c0 c1 c2 c3 c4 c5 c6 v : Value} {E : List Ev} {w : World} (_h : Hp base bi c0 c1 c2 c3 c4 c5 c6 v E w) {n : Nat} (hn : E.length = n) (hok : ∀ e ∈ E, e.ok) : ∀ k, k < n → (evAt E k).ok := fun k hk => hok _ (List.mem_of_getElem? (evAt_lt E k (by omega)))

set_option maxHeartbeats 4000000 in
set_option maxRecDepth 100000 in
theorem up_any (base bi g cap N n : Nat) (c0 c1 c2 c3 c4 c5 c6 : Value) (E : List Ev) (w : World) (h : Hp base bi c0 c1 c2 c3 c4 c5 c6 (.slice (some ⟨g, 0, none⟩) N cap) E w) (hn : E.length = N) (hnN : n ≤ N) (j : Nat) (hj : j < n) (hok : ∀ e ∈ E, e.ok) (hU : UpF (evAt E) n j) :
  Calls Tryz.prog 155 #[.iface 260 (.pointer (some ⟨bi, 7, none⟩)), .int .i64 j] w fun e w' => e = .returned (.tuple #[]) ∧ ∃ F, F.Perm E ∧ HeapF (evAt F) n ∧ (∀ k, n ≤ k → evAt F k = evAt E k) ∧ Hp base bi c0 c1 c2 c3 c4 c5 c6 (.slice (some ⟨g, 0, none⟩) N cap) F w' ∧ Kept (fun k => k = g) w w' := by
 have hlen := h.len
 go_enter Tryz.func155, Tryz.ntmps155
 go_wp2
 go_loopw [1] (fun jv wr => ∃ (k : Nat) (F : List Ev), jv = .int .i64 k ∧ k < n ∧ F.Perm E ∧ UpF (evAt F) n k ∧ (∀ k, n ≤ k → evAt F k = evAt E k) ∧ Hp base bi c0 c1 c2 c3 c4 c5 c6 (.slice (some ⟨g, 0, none⟩) N cap) F wr ∧ Kept (fun k => k = g) w wr) (fun jv _ => (intOf jv).toNat)
 case atStart => exact ⟨j, E, rfl, hj, List.Perm.refl _, hU, fun _ _ => rfl, h, Kept.refl _ _⟩
 case round =>
  obtain ⟨k, F, rfl, hk, hp, hu, hfar, hH, hkp⟩ := hrel
  have hFl : F.length = N := hp.length_eq.trans hn
  have HFA := Lib.hid hfar
  clear hfar
  have hq := par_quo k
  by_cases h0 : k = 0
  ·subst h0
   have HP := Lib.hid hp
   have HH := Lib.hid hH
   have HK := Lib.hid hkp
   have HU := Lib.hid hu
   clear hp hH hkp hu hU h
   go_wp2
   refine bodyPost_end (results_none Tryz.results155 _ _ _) rfl ⟨rfl, F, HP.out, up_done HU.out (Or.inl rfl), HFA.out, HH.out, HK.out⟩
  ·have hpl : par k < k := par_lt (by omega)
   have mL := Tryz.methLess ⟨bi, 7, none⟩ _ wr hH.cell
   have hne : ¬ (par k : Int) = (k : Int) := by omega
   have HP := Lib.hid hp
   have HH := Lib.hid hH
   have HK := Lib.hid hkp
   have HU := Lib.hid hu
   have HR := Lib.hid (show Row base (.slice (some ⟨g, 0, none⟩) F.length cap) F wr by rw [hFl]; exact hH.row)
   have hL := less_any base g cap F wr HR.out k (par k) (by omega) (by omega) (by omega)
   rw [hFl] at hL
   clear hp hH hkp hu hU h
   go_wp2_with (go_at_call 221; refine hL.mono ?_; rintro e w1 ⟨rfl, hb1⟩; refine Hid.out ?_)
   refine Lib.hid ?_
   have hH1 := HH.out.below hb1
   have hK1 : Kept (fun k => k = g) w w1 := HK.out.trans (Kept.of_below (S := fun _ => False) hb1) (fun _ e => e.elim)
   have HH1 := Lib.hid hH1
   have HK1 := Lib.hid hK1
   have hoks := HH.out.oks hFl (fun e he => hok e (HP.out.mem_iff.1 he))
   cases hb : (evAt F k).ltB (evAt F (par k)) with
   | false =>
    clear hb1 hH1 hK1 hL mL hoks
    go_wp2
    refine bodyPost_end (results_none Tryz.results155 _ _ _) rfl ⟨rfl, F, HP.out, up_done HU.out (Or.inr ?_), HFA.out, HH1.out, HK1.out⟩
    intro hlt
    rw [← Ev.ltB_iff, hb] at hlt
    simp at hlt
   | true =>
    have hlt := (Ev.ltB_iff _ _).1 hb
    have hUs := up_swap (fun k hk => hoks k (by omega)) HU.out (by omega) hk hlt
    have mS := Tryz.methSwap ⟨bi, 7, none⟩ _ w1 hH1.cell
    have HR1 := Lib.hid (show Row base (.slice (some ⟨g, 0, none⟩) F.length cap) F w1 by rw [hFl]; exact hH1.row)
    have hS := swap_any base g cap F w1 HR1.out (par k) k (by omega) (by omega) (by omega)
    rw [hFl] at hS
    have HUS := Lib.hid hUs
    clear hb1 hH1 hK1 hL mL hoks hUs hlt
    go_wp2_with (go_at_call 222; refine hS.mono ?_; rintro e w2 ⟨rfl, hr2, hk2⟩; refine Hid.out ?_)
    refine Lib.hid ?_
    clear mS hS
    have hsl : (swapL F (par k) k).length = N := (swapL_len F _ _).trans hFl
    have hH2 := Hp.swapped (F := swapL F (par k) k) (by rw [hFl]; exact HH1.out) (by rw [hFl]; exact hr2) hk2 (swapL_len F _ _)
    rw [hsl] at hH2
    have HH2 := Lib.hid hH2
    have HK2 := Lib.hid hk2
    clear hH2 hr2 hk2
    go_wp2
    go_roundw
    case rel => exact ⟨par k, swapL F (par k) k, rfl, by omega, (swapL_perm F _ _ (by omega) (by omega)).trans HP.out, by rw [swapL_eq F _ _ (by omega) (by omega)]; exact HUS.out, fun k2 hk2 => by rw [swapL_at F _ _ k2 (by omega) (by omega), swap_c _ _ _ k2 (by omega) (by omega)]; exact HFA.out k2 hk2, HH2.out, HK1.out.trans HK2.out (fun i e => Or.inl e)⟩
    case measure => simp [intOf]; omega

end Go.Proofs.YtpcgnadfldimhaaGreatDoor
namespace Go.Proofs.YtpcgnadfldimhaaGreatDoor
open Go.RowKit

theorem par_one (i : Nat) : par (2 * i + 1) = i := by unfold par; omega
theorem par_two (i : Nat) : par (2 * i + 2) = i := by unfold par; omega
theorem kid_of {d i : Nat} (h0 : 0 < d) (h : par d = i) : d = 2 * i + 1 ∨ d = 2 * i + 2 := by unfold par at h; omega

theorem ltB_false {a b : Ev} (h : a.ltB b = false) : b.le a := fun hlt => by
 rw [← Ev.ltB_iff, h] at hlt
 simp at hlt

/-- How far the heap stands while an event goes down in it; what lies behind its end is as it was. -/
structure Dn (base bi g cap N n i0 : Nat) (c0 c1 c2 c3 c4 c5 c6 : Value) (E F : List Ev) (w wr : World) : Prop where
 perm : F.Perm E
 hp : Hp base bi c0 c1 c2 c3 c4 c5 c6 (.slice (some ⟨g, 0, none⟩) N cap) F wr
 kept : Kept (fun k => k = g) w wr
 far : ∀ k, n ≤ k → evAt F k = evAt E k

theorem Dn.below {base bi g cap N n i0 : Nat} {c0 c1 c2 c3 c4 c5 c6 : Value} {E F : List Ev} {w wr w1 : World} (h : Dn base bi g cap N n i0 c0 c1 c2 c3 c4 c5 c6 E F w wr) (hb : Below wr.heap.size wr w1) : Dn base bi g cap N n i0 c0 c1 c2 c3 c4 c5 c6 E F w w1 :=
 ⟨h.perm, h.hp.below hb, h.kept.trans (Kept.of_below (S := fun _ => False) hb) (fun _ e => e.elim), h.far⟩
theorem Dn.swap {base bi g cap N n i0 : Nat} {c0 c1 c2 c3 c4 c5 c6 : Value} {E F : List Ev} {w wr w1 : World} (h : Dn base bi g cap N n i0 c0 c1 c2 c3 c4 c5 c6 E F w wr) (hN : F.length = N) {i j : Nat} (hr : Row base (.slice (some ⟨g, 0, none⟩) N cap) (swapL F i j) w1) (hk : Kept (fun k => k = g) wr w1) (hi : i < n) (hj : j < n) (hi' : i < F.length) (hj' : j < F.length) : Dn base bi g cap N n i0 c0 c1 c2 c3 c4 c5 c6 E (swapL F i j) w w1 := by
 subst hN
 have hs := Hp.swapped (F := swapL F i j) h.hp hr hk (swapL_len F _ _)
 rw [swapL_len] at hs
 refine ⟨(swapL_perm F i j hi' hj').trans h.perm, hs, h.kept.trans hk (fun i e => Or.inl e), fun k hkn => ?_⟩
 rw [swapL_at F i j k hi' hj', swap_c _ _ _ k (by omega) (by omega)]
 exact h.far k hkn

set_option maxHeartbeats 8000000 in
set_option maxRecDepth 100000 in
theorem down_any (base bi g cap N n : Nat) (c0 c1 c2 c3 c4 c5 c6 : Value) (E : List Ev) (w : World) (h : Hp base bi c0 c1 c2 c3 c4 c5 c6 (.slice (some ⟨g, 0, none⟩) N cap) E w) (hN : E.length = N) (hn : n ≤ N) (i0 : Nat) (hi0 : i0 ≤ n) (hok : ∀ e ∈ E, e.ok) (hD : DownF (evAt E) n i0 i0) :
  Calls Tryz.prog 156 #[.iface 260 (.pointer (some ⟨bi, 7, none⟩)), .int .i64 i0, .int .i64 n] w fun e w' => ∃ (F : List Ev) (i : Nat), e = .returned (.bool (decide (i0 < i))) ∧ (i0 < i → HeapF (evAt F) n) ∧ (i = i0 → UpF (evAt F) n i0) ∧ i0 ≤ i ∧ Dn base bi g cap N n i0 c0 c1 c2 c3 c4 c5 c6 E F w w' := by
 have hlen := h.len
 have H0 := Lib.hid h
 have HD0 := Lib.hid hD
 clear h hD
 go_enter Tryz.func156, Tryz.ntmps156
 go_wp2
 go_loopw [7] (fun iv wr => ∃ (i : Nat) (F : List Ev), iv = .int .i64 i ∧ i ≤ n ∧ DownF (evAt F) n i0 i ∧ Dn base bi g cap N n i0 c0 c1 c2 c3 c4 c5 c6 E F w wr) (fun iv _ => n - (intOf iv).toNat)
 case atStart => exact ⟨i0, E, rfl, hi0, HD0.out, ⟨List.Perm.refl _, H0.out, Kept.refl _ _, fun _ _ => rfl⟩⟩
 case round =>
  obtain ⟨i, F, rfl, hi, hd, hdn⟩ := hrel
  have hFl : F.length = N := hdn.perm.length_eq.trans hN
  have HD := Lib.hid hd
  have HN := Lib.hid hdn
  have hfrom := hd.from0
  clear hd hdn
  by_cases h1 : n ≤ 2 * i + 1
  ·have HDo := Lib.hid (down_done HD.out (fun d d0 hdn hp => by rcases kid_of d0 hp with e | e <;> omega))
   go_wp2
   go_ret
   exact ⟨F, i, by simp, HDo.out.1, HDo.out.2, hfrom, HN.out⟩
  ·have hoks := HN.out.hp.oks hFl (fun e he => hok e (HN.out.perm.mem_iff.1 he))
   have HO := Lib.hid hoks
   clear hoks
   by_cases h2 : n ≤ 2 * i + 2
   ·have hmin1 : ∀ d, 0 < d → d < n → par d = i → (evAt F (2 * i + 1)).le (evAt F d) := fun d d0 hdn hp => by
     rcases kid_of d0 hp with e | e
     ·rw [e]; exact Ev.le_refl _
     ·omega
    have hrw : Row base (.slice (some ⟨g, 0, none⟩) F.length cap) F wr := by rw [hFl]; exact HN.out.hp.row
    have mL2 := Tryz.methLess ⟨bi, 7, none⟩ _ wr HN.out.hp.cell
    have hL2 := less_any base g cap F wr hrw (2 * i + 1) i (by omega) (by omega) (by omega)
    rw [hFl, show ((2 * i + 1 : Nat) : Int) = 2 * (i : Int) + 1 by omega] at hL2
    have HMin : Hid (∀ d, 0 < d → d < n → par d = i → (evAt F (2 * i + 1)).le (evAt F d)) := Lib.hid hmin1
    clear hrw
    go_wp2_with (go_at_call 221; refine hL2.mono ?_; rintro e w2 ⟨rfl, hb2⟩; refine Hid.out ?_)
    refine Lib.hid ?_
    clear mL2 hL2
    have HN2 : Hid (Dn base bi g cap N n i0 c0 c1 c2 c3 c4 c5 c6 E F w w2) := Lib.hid (HN.out.below hb2)
    clear hb2
    cases hb : (evAt F (2 * i + 1)).ltB (evAt F i) with
    | false =>
     have HDo := Lib.hid (down_done HD.out (fun d d0 hdn hp => Ev.le_trans (HO.out i (by omega)) (HO.out (2 * i + 1) (by omega)) (HO.out d (by omega)) (ltB_false hb) (HMin.out d d0 hdn hp)))
     go_wp2
     go_ret
     exact ⟨F, i, by simp, HDo.out.1, HDo.out.2, hfrom, HN2.out⟩
    | true =>
     have HDs := Lib.hid (down_swap (c := 2 * i + 1) (fun k hk => HO.out k (by omega)) HD.out (by omega) (by omega) (par_one i) ((Ev.ltB_iff _ _).1 hb) HMin.out)
     have hrw : Row base (.slice (some ⟨g, 0, none⟩) F.length cap) F w2 := by rw [hFl]; exact HN2.out.hp.row
     have mS := Tryz.methSwap ⟨bi, 7, none⟩ _ w2 HN2.out.hp.cell
     have hS := swap_any base g cap F w2 hrw i (2 * i + 1) (by omega) (by omega) (by omega)
     rw [hFl, show ((2 * i + 1 : Nat) : Int) = 2 * (i : Int) + 1 by omega] at hS
     clear hrw
     go_wp2_with (go_at_call 222; refine hS.mono ?_; rintro e w3 ⟨rfl, hr3, hk3⟩; refine Hid.out ?_)
     refine Lib.hid ?_
     clear mS hS
     have HN3 : Hid (Dn base bi g cap N n i0 c0 c1 c2 c3 c4 c5 c6 E (swapL F i (2 * i + 1)) w w3) := Lib.hid (HN2.out.swap hFl hr3 hk3 (by omega) (by omega) (by omega) (by omega))
     clear hr3 hk3
     go_wp2
     go_roundw
     case rel => exact ⟨2 * i + 1, swapL F i (2 * i + 1), by rw [show ((2 * i + 1 : Nat) : Int) = 2 * (i : Int) + 1 by omega], by omega, by rw [swapL_eq F _ _ (by omega) (by omega)]; exact HDs.out, HN3.out⟩
     case measure => simp [intOf]; omega
   ·have hrw : Row base (.slice (some ⟨g, 0, none⟩) F.length cap) F wr := by rw [hFl]; exact HN.out.hp.row
    have mL := Tryz.methLess ⟨bi, 7, none⟩ _ wr HN.out.hp.cell
    have hL := less_any base g cap F wr hrw (2 * i + 2) (2 * i + 1) (by omega) (by omega) (by omega)
    rw [hFl, show ((2 * i + 2 : Nat) : Int) = 2 * (i : Int) + 1 + 1 by omega, show ((2 * i + 1 : Nat) : Int) = 2 * (i : Int) + 1 by omega] at hL
    clear hrw
    go_wp2_with (go_at_call 221; refine hL.mono ?_; rintro e w1 ⟨rfl, hb1⟩; refine Hid.out ?_)
    refine Lib.hid ?_
    clear mL hL
    have HN1 : Hid (Dn base bi g cap N n i0 c0 c1 c2 c3 c4 c5 c6 E F w w1) := Lib.hid (HN.out.below hb1)
    clear hb1
    cases hc : (evAt F (2 * i + 2)).ltB (evAt F (2 * i + 1)) with
    | false =>
     have hmin1 : ∀ d, 0 < d → d < n → par d = i → (evAt F (2 * i + 1)).le (evAt F d) := fun d d0 hdn hp => by
      rcases kid_of d0 hp with e | e
      ·rw [e]; exact Ev.le_refl _
      ·rw [e]; exact ltB_false hc
     have hrw : Row base (.slice (some ⟨g, 0, none⟩) F.length cap) F w1 := by rw [hFl]; exact HN1.out.hp.row
     have mL2 := Tryz.methLess ⟨bi, 7, none⟩ _ w1 HN1.out.hp.cell
     have hL2 := less_any base g cap F w1 hrw (2 * i + 1) i (by omega) (by omega) (by omega)
     rw [hFl, show ((2 * i + 1 : Nat) : Int) = 2 * (i : Int) + 1 by omega] at hL2
     have HMin : Hid (∀ d, 0 < d → d < n → par d = i → (evAt F (2 * i + 1)).le (evAt F d)) := Lib.hid hmin1
     clear hrw
     go_wp2_with (go_at_call 221; refine hL2.mono ?_; rintro e w2 ⟨rfl, hb2⟩; refine Hid.out ?_)
     refine Lib.hid ?_
     clear mL2 hL2
     have HN2 : Hid (Dn base bi g cap N n i0 c0 c1 c2 c3 c4 c5 c6 E F w w2) := Lib.hid (HN1.out.below hb2)
     clear hb2
     cases hb : (evAt F (2 * i + 1)).ltB (evAt F i) with
     | false =>
      have HDo := Lib.hid (down_done HD.out (fun d d0 hdn hp => Ev.le_trans (HO.out i (by omega)) (HO.out (2 * i + 1) (by omega)) (HO.out d (by omega)) (ltB_false hb) (HMin.out d d0 hdn hp)))
      go_wp2
      go_ret
      exact ⟨F, i, by simp, HDo.out.1, HDo.out.2, hfrom, HN2.out⟩
     | true =>
      have HDs := Lib.hid (down_swap (c := 2 * i + 1) (fun k hk => HO.out k (by omega)) HD.out (by omega) (by omega) (par_one i) ((Ev.ltB_iff _ _).1 hb) HMin.out)
      have hrw : Row base (.slice (some ⟨g, 0, none⟩) F.length cap) F w2 := by rw [hFl]; exact HN2.out.hp.row
      have mS := Tryz.methSwap ⟨bi, 7, none⟩ _ w2 HN2.out.hp.cell
      have hS := swap_any base g cap F w2 hrw i (2 * i + 1) (by omega) (by omega) (by omega)
      rw [hFl, show ((2 * i + 1 : Nat) : Int) = 2 * (i : Int) + 1 by omega] at hS
      clear hrw
      go_wp2_with (go_at_call 222; refine hS.mono ?_; rintro e w3 ⟨rfl, hr3, hk3⟩; refine Hid.out ?_)
      refine Lib.hid ?_
      clear mS hS
      have HN3 : Hid (Dn base bi g cap N n i0 c0 c1 c2 c3 c4 c5 c6 E (swapL F i (2 * i + 1)) w w3) := Lib.hid (HN2.out.swap hFl hr3 hk3 (by omega) (by omega) (by omega) (by omega))
      clear hr3 hk3
      go_wp2
      go_roundw
      case rel => exact ⟨2 * i + 1, swapL F i (2 * i + 1), by rw [show ((2 * i + 1 : Nat) : Int) = 2 * (i : Int) + 1 by omega], by omega, by rw [swapL_eq F _ _ (by omega) (by omega)]; exact HDs.out, HN3.out⟩
      case measure => simp [intOf]; omega
    | true =>
     have hmin1 : ∀ d, 0 < d → d < n → par d = i → (evAt F (2 * i + 2)).le (evAt F d) := fun d d0 hdn hp => by
      rcases kid_of d0 hp with e | e
      ·rw [e]; exact Ev.lt_le (HO.out _ (by omega)) (HO.out _ (by omega)) ((Ev.ltB_iff _ _).1 hc)
      ·rw [e]; exact Ev.le_refl _
     have hrw : Row base (.slice (some ⟨g, 0, none⟩) F.length cap) F w1 := by rw [hFl]; exact HN1.out.hp.row
     have mL2 := Tryz.methLess ⟨bi, 7, none⟩ _ w1 HN1.out.hp.cell
     have hL2 := less_any base g cap F w1 hrw (2 * i + 2) i (by omega) (by omega) (by omega)
     rw [hFl, show ((2 * i + 2 : Nat) : Int) = 2 * (i : Int) + 1 + 1 by omega] at hL2
     have HMin : Hid (∀ d, 0 < d → d < n → par d = i → (evAt F (2 * i + 2)).le (evAt F d)) := Lib.hid hmin1
     clear hrw
     go_wp2_with (go_at_call 221; refine hL2.mono ?_; rintro e w2 ⟨rfl, hb2⟩; refine Hid.out ?_)
     refine Lib.hid ?_
     clear mL2 hL2
     have HN2 : Hid (Dn base bi g cap N n i0 c0 c1 c2 c3 c4 c5 c6 E F w w2) := Lib.hid (HN1.out.below hb2)
     clear hb2
     cases hb : (evAt F (2 * i + 2)).ltB (evAt F i) with
     | false =>
      have HDo := Lib.hid (down_done HD.out (fun d d0 hdn hp => Ev.le_trans (HO.out i (by omega)) (HO.out (2 * i + 2) (by omega)) (HO.out d (by omega)) (ltB_false hb) (HMin.out d d0 hdn hp)))
      go_wp2
      go_ret
      exact ⟨F, i, by simp, HDo.out.1, HDo.out.2, hfrom, HN2.out⟩
     | true =>
      have HDs := Lib.hid (down_swap (c := 2 * i + 2) (fun k hk => HO.out k (by omega)) HD.out (by omega) (by omega) (par_two i) ((Ev.ltB_iff _ _).1 hb) HMin.out)
      have hrw : Row base (.slice (some ⟨g, 0, none⟩) F.length cap) F w2 := by rw [hFl]; exact HN2.out.hp.row
      have mS := Tryz.methSwap ⟨bi, 7, none⟩ _ w2 HN2.out.hp.cell
      have hS := swap_any base g cap F w2 hrw i (2 * i + 2) (by omega) (by omega) (by omega)
      rw [hFl, show ((2 * i + 2 : Nat) : Int) = 2 * (i : Int) + 1 + 1 by omega] at hS
      clear hrw
      go_wp2_with (go_at_call 222; refine hS.mono ?_; rintro e w3 ⟨rfl, hr3, hk3⟩; refine Hid.out ?_)
      refine Lib.hid ?_
      clear mS hS
      have HN3 : Hid (Dn base bi g cap N n i0 c0 c1 c2 c3 c4 c5 c6 E (swapL F i (2 * i + 2)) w w3) := Lib.hid (HN2.out.swap hFl hr3 hk3 (by omega) (by omega) (by omega) (by omega))
      clear hr3 hk3
      go_wp2
      go_roundw
      case rel => exact ⟨2 * i + 2, swapL F i (2 * i + 2), by rw [show ((2 * i + 2 : Nat) : Int) = 2 * (i : Int) + 1 + 1 by omega], by omega, by rw [swapL_eq F _ _ (by omega) (by omega)]; exact HDs.out, HN3.out⟩
      case measure => simp [intOf]; omega

end Go.Proofs.YtpcgnadfldimhaaGreatDoor
