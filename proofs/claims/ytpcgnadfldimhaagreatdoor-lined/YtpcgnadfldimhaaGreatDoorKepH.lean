/-
  The statements without the document's answer: fresh, begun.
-/
import Derived.Test.YtpcgnadfldimhaaGreatDoorKepA
import Derived.Test.YtpcgnadfldimhaaGreatDoorBerZ
import Derived.Test.YtpcgnadfldimhaaGreatDoorEnvOf
import Derived.Deep.Slices
import Derived.Carry
namespace Go.Proofs.YtpcgnadfldimhaaGreatDoor
open Go.RowKit

set_option maxHeartbeats 2000000 in
set_option maxRecDepth 100000 in
theorem fresh_any (B : Nat) (w : World) (hB : B ≤ w.heap.size) :
    Calls Tryz.prog 19 #[] w fun e w' => ∃ bx bi, e = .returned (.tuple #[.pointer (some ⟨bx, 0, none⟩), .bool true]) ∧ Below w.heap.size w w' ∧ Prog B bx bi 8 12 30 1000000 0 (.slice none 0 0) (.slice none 0 0) (.slice none 0 0) [] [] w' ∧ w.heap.size ≤ bx ∧ w.heap.size ≤ bi := by
  have HN := Lib.hid (newB_yes B 8 12 30 1000000 w conf8 hB)
  go_enter Tryz.func19, Tryz.ntmps19
  go_wp2_with (go_at_call 35; refine HN.out.mono ?_; rintro e w1 ⟨bx, bi, rfl, hb, hP, h1, h2⟩; refine Hid.out ?_)
  refine Lib.hid ?_
  have HB := Lib.hid hb
  have HP := Lib.hid hP
  clear hb hP
  go_wp2
  go_ret2
  exact ⟨bx, bi, rfl, HB.out, HP.out, h1, h2⟩

theorem prog_reply {B bx bi : Nat} {nodes jobs wall last now : Int} {vr vl vh : Value} {L : List Job} {E : List Ev} {w : World} (hP : Prog B bx bi nodes jobs wall last now vr vl vh L E w) {k : Nat} {cs : Array Value} (hk : w.heap[k]? = some (.cells cs 34 (0, 0))) : ¬ progB bx bi vr vl vh k := by
  rintro (rfl | rfl | e | e | e)
  · rw [hP.out] at hk
    simp at hk
  · rw [hP.clu.cl.hp.blk] at hk
    simp at hk
  · exact owns_not hP.clu.cl.rcd hk (by decide) e
  · exact owns_not hP.clu.cl.liv hk (by decide) e
  · exact owns_not hP.clu.cl.hp.row hk (by decide) e

/-- A Do of the small cluster: its answer is the document's; what it was told before stays as it is. -/
theorem small_do (bx bi : Nat) (now : Int) (vr vl vh : Value) (L : List Job) (E : List Ev) (a : Addr) (m : Int) (w : World) (hE : Env a m w) (W : World) (hb : Below w.heap.size w W) (h : Prog w.heap.size bx bi 4 5 100 1000 now vr vl vh L E W) (hG : Good 4 5 100 1000 now L) (hl : L.length < 1000000000) (k x y : Int) :
    Calls Tryz.prog 16 #[.pointer (some ⟨bx, 0, none⟩), .agg #[.int .i64 k, .int .i64 x, .int .i64 y]] W fun e w' => ∃ o p1 c1 p2 c2 vr' vl' vh' E', DoE 4 5 100 1000 now L k x y o ∧ e = .returned (.agg #[.int .i64 o.err, .int .i64 o.a, .int .i64 o.b, .int .i64 o.c, .slice p1 o.rows.length c1, .slice p2 o.evs.length c2]) ∧
      w'.ownsRow W.heap.size 55 4 (.slice p2 o.evs.length c2) o.evs.length (flatE o.evs) ∧ Prog w.heap.size bx bi 4 5 100 1000 o.now vr' vl' vh' o.L E' w' ∧ Below w.heap.size w w' ∧ W.heap.size ≤ w'.heap.size ∧ ∀ (j : Nat) (cs : Array Value), W.heap[j]? = some (.cells cs 34 (0, 0)) → w'.heap[j]? = some (.cells cs 34 (0, 0)) := by
  refine (doP w.heap.size bx bi 4 5 100 1000 now vr vl vh L E a m w hE W hb (Nat.le_refl _) hb.size h hG hl k x y).mono ?_
  rintro e w' ⟨o, y1, x1, vr', vl', vh', E', hD, rfl, hY, hV, hP', hK, hN, hA⟩
  obtain ⟨q1, c1, rfl⟩ := own_slice hY
  obtain ⟨q2, c2, rfl⟩ := own_slice hV
  exact ⟨o, q1, c1, q2, c2, vr', vl', vh', E', hD, rfl, hV, hP', hb.trans (hK.below hb.size (fun k e => (h.lt k e).1)), hK.size, fun j cs hj => (hK.block j (Array.getElem?_eq_some_iff.1 hj).1 (prog_reply h hj)).trans hj⟩

set_option maxHeartbeats 8000000 in
set_option maxRecDepth 100000 in
theorem begun_any (a : Addr) (m : Int) (w : World) (hE : Env a m w) :
    Calls Tryz.prog 18 #[] w fun e w' => e = .returned (.bool true) ∧ Below w.heap.size w w' := by
  have HN := Lib.hid (newB_yes w.heap.size 4 5 100 1000 w conf4 (Nat.le_refl _))
  have HE := Lib.hid hE
  clear hE
  go_enter Tryz.func18, Tryz.ntmps18
  go_wp2_with (go_at_call 35; refine HN.out.mono ?_; rintro e w1 ⟨bx, bi, rfl, hb, hP, h1, h2⟩; refine Hid.out ?_)
  refine Lib.hid ?_
  have HD1 := Lib.hid (small_do bx bi 0 _ _ _ [] [] a m w HE.out w1 hb hP (good_new conf4) (by simp) 1 3 10)
  have hz1 := hb.size
  clear hb hP
  go_wp2_with (go_at_call 16; refine HD1.out.mono ?_; rintro e w2 ⟨o, p1, c1, p2, c2, vr, vl, vh, E, hD, rfl, hV, hP, hb, hs, hkp⟩; obtain rfl := begun_1 hD; refine Hid.out ?_)
  refine Lib.hid ?_
  have HD2 := Lib.hid (fun W (hW : Below w2.heap.size w2 W) => small_do bx bi 0 vr vl vh begunL1 E a m w HE.out W (hb.trans (hW.mono hb.size)) (hP.kept (S := fun _ => False) (Kept.of_below hW) (fun _ _ e => e)) begun_good2.1 (by simp) 1 2 5)
  have hz2 := hb.size
  clear hb hP hV hkp hD
  go_wp2_with (go_at_call 16; refine (HD2.out _ ((Below.refl _ _).alloc (Nat.le_refl _) _)).mono ?_; rintro e w3 ⟨o, p3, c3, p4, c4, vr3, vl3, vh3, E3, hD, rfl, hV, hP, hb, hs3, hkp⟩; obtain rfl := begun_2 hD; refine Hid.out ?_)
  refine Lib.hid ?_
  have ha3 := hkp _ _ (heap_alloc_new w2 _)
  have HD3 := Lib.hid (fun W (hW : Below w3.heap.size w3 W) => small_do bx bi 0 vr3 vl3 vh3 begunL2 E3 a m w HE.out W (hb.trans (hW.mono hb.size)) (hP.kept (S := fun _ => False) (Kept.of_below hW) (fun _ _ e => e)) begun_good2.2 (by simp) 4 12 0)
  have hz3 := hb.size
  simp at hs3
  clear hb hP hV hkp hD
  go_wp2_with (go_at_call 16; refine (HD3.out _ ((Below.refl _ _).alloc (Nat.le_refl _) _)).mono ?_; rintro e w4 ⟨o, p5, c5, p6, c6, vr4, vl4, vh4, E4, hD, rfl, hV, hP, hb, hs4, hkp⟩; obtain rfl := begun_3 hD; refine Hid.out ?_)
  refine Lib.hid ?_
  have hb4 := hkp _ _ (heap_alloc_new w3 _)
  have ha4 := hkp _ _ ((Below.heap_alloc w3 _ _ (by omega)).trans ha3)
  simp at hs4
  have HB := Lib.hid hb
  have hla : w2.heap.size < w4.heap.size := (Array.getElem?_eq_some_iff.1 ha4).1
  have hlb : w3.heap.size < w4.heap.size := (Array.getElem?_eq_some_iff.1 hb4).1
  have a0 := cell_of_row _ _ 0 _ _ (0, 0) ha4
  have a1 := cell_of_row _ _ 1 _ _ (0, 0) ha4
  have a2 := cell_of_row _ _ 2 _ _ (0, 0) ha4
  have a5 := cell_of_row _ _ 5 _ _ (0, 0) ha4
  have b0 := cell_of_row _ _ 0 _ _ (0, 0) hb4
  have b1 := cell_of_row _ _ 1 _ _ (0, 0) hb4
  have b2 := cell_of_row _ _ 2 _ _ (0, 0) hb4
  have b5 := cell_of_row _ _ 5 _ _ (0, 0) hb4
  simp at a0 a1 a2 a5 b0 b1 b2 b5
  obtain ⟨ge, rfl⟩ : ∃ g, p6 = some ⟨g, 0, none⟩ := by
    rcases own_forms hV with ⟨_, h0⟩ | ⟨g, c, e⟩
    · simp at h0
    · exact ⟨g, (Value.slice.inj e).1⟩
  have hge : ge < w4.heap.size := (hV.lt ge rfl).2
  have e0 := hV.cellAt (g := ge) 0 (by simp)
  have e2 := hV.cellAt (g := ge) 2 (by simp)
  have e4 := hV.cellAt (g := ge) 4 (by simp)
  have e5 := hV.cellAt (g := ge) 5 (by simp)
  have e6 := hV.cellAt (g := ge) 6 (by simp)
  simp [flatE, Ev.cells] at e0 e2 e4 e5 e6
  clear hb hP hV hkp hD ha4 hb4 ha3 HD1 HD2 HD3 HN
  go_wp2
  trace_state
  go_ret
  exact ⟨rfl, HB.out.alloc HB.out.size _⟩

end Go.Proofs.YtpcgnadfldimhaaGreatDoor
namespace Go.Proofs.YtpcgnadfldimhaaGreatDoor
open Go.ChangeShapes Go.WideShapes Go.ChangeAt Go.RowKit

def StepV.cells (s : StepV) : List Value := [.int .i64 s.k, .int .i64 s.a, .int .i64 s.b]
/-- A script of steps lies at ad. -/
def ScriptK (w : World) (ad : Option Addr) (ss : List StepV) : Prop := ∀ i s, ss[i]? = some s → s.wf ∧ ∃ b off, ad = some ⟨b, off, none⟩ ∧ w.rangeAt b (off + i * 3) s.cells
theorem ScriptK.on {w w' : World} {ad : Option Addr} {ss : List StepV} (h : ScriptK w ad ss) (hb : Below w.heap.size w w') : ScriptK w' ad ss := fun i s hs => by
  obtain ⟨hw, b, off, e, hr⟩ := h i s hs
  exact ⟨hw, b, off, e, fun t v hv => (hb.cell (block_lt_of_cell (hr t v hv))).trans (hr t v hv)⟩
/-- Numbers lie at ad. -/
def IntsK (w : World) (ad : Option Addr) (ns : List Int) : Prop := ∀ i n, ns[i]? = some n → (-9223372036854775808 ≤ n ∧ n ≤ 9223372036854775807) ∧ ∃ b off, ad = some ⟨b, off, none⟩ ∧ w.cell? ⟨b, off + i, none⟩ = some (.int .i64 n)
theorem IntsK.on {w w' : World} {ad : Option Addr} {ns : List Int} (h : IntsK w ad ns) (hb : Below w.heap.size w w') : IntsK w' ad ns := fun i n hn => by
  obtain ⟨hw, b, off, e, hr⟩ := h i n hn
  exact ⟨hw, b, off, e, (hb.cell (block_lt_of_cell hr)).trans hr⟩
theorem wfK {i : Int} (h : (Lit.int .i64 i).wf = true) : -9223372036854775808 ≤ i ∧ i ≤ 9223372036854775807 := by
  simp only [Lit.wf, Bool.and_eq_true, decide_eq_true_eq] at h
  exact h
theorem laidOutK : laidOutB Tryz.prog = true := by kernel_rfl
theorem choose_listK {α : Type} {P : Nat → α → Prop} : ∀ (n : Nat), (∀ i, i < n → ∃ a, P i a) → ∃ l : List α, l.length = n ∧ ∀ j o, l[j]? = some o → P j o
  | 0, _ => ⟨[], rfl, fun j o h => by simp at h⟩
  | n + 1, h => by
    obtain ⟨l, hl, hp⟩ := choose_listK n fun i hi => h i (by omega)
    obtain ⟨a, ha⟩ := h n (by omega)
    refine ⟨l ++ [a], by simp [hl], fun j o hj => ?_⟩
    rcases Nat.lt_or_ge j l.length with h1 | h1
    · rw [List.getElem?_append_left h1] at hj; exact hp j o hj
    · rw [List.getElem?_append_right h1] at hj
      have : j - l.length = 0 := by
        have := (List.getElem?_eq_some_iff.1 hj).1
        simp at this; omega
      rw [this] at hj
      simp at hj
      subst hj
      obtain rfl : j = n := by omega
      exact ha

theorem cellsStepK : Tryz.prog.cellsOf 48 = 3 := by kernel_rfl

section
variable {H : Type} {enc : TypeId × Value → H} {w : World} {base : Nat} {sp : Nat → Bool} {held : Bool}

set_option maxRecDepth 100000 in
theorem step_of_trod {fuel : Nat} {cs : List Value} {x : DataW H × List MemPlace} (h : DataW.trod enc Tryz.prog w base sp held fuel 48 cs = some x) : ∃ s : StepV, cs = s.cells ∧ s.wf := by
  obtain ⟨xs, m, rfl, rfl, hl, hx, hf⟩ := DataW.trod_struct Tryz.underlying48 h
  rw [cellsStepK] at hl
  match cs, hl with
  | [a, b, c], _ =>
    have hx3 : xs.length = 3 := hx
    match xs, hx3 with
    | [y0, y1, y2], _ =>
      have h0 : DataW.trod enc Tryz.prog w base sp held m 3 (List.take (Tryz.prog.cellsOf 3) (List.drop 0 [a, b, c])) = some y0 := hf 0 _ rfl
      have h1 : DataW.trod enc Tryz.prog w base sp held m 3 (List.take (Tryz.prog.cellsOf 3) (List.drop 1 [a, b, c])) = some y1 := hf 1 _ rfl
      have h2 : DataW.trod enc Tryz.prog w base sp held m 3 (List.take (Tryz.prog.cellsOf 3) (List.drop 2 [a, b, c])) = some y2 := hf 2 _ rfl
      rw [cellsInt] at h0 h1 h2
      obtain ⟨k, e0, -, w0⟩ := DataW.trod_int Tryz.underlying3 h0
      obtain ⟨s, e1, -, w1⟩ := DataW.trod_int Tryz.underlying3 h1
      obtain ⟨n, e2, -, w2⟩ := DataW.trod_int Tryz.underlying3 h2
      simp at e0 e1 e2
      subst e0 e1 e2
      exact ⟨⟨k, s, n⟩, rfl, ⟨(wfK w0).1, (wfK w0).2, (wfK w1).1, (wfK w1).2, (wfK w2).1, (wfK w2).2⟩⟩

/-- A slice of steps that was read. -/
theorem script_of {fuel : Nat} {ad : Option Addr} {len cap : Nat} {x : DataW H × List MemPlace} (hf : DataW.trod enc Tryz.prog w base sp held fuel 25 (Value.slice ad len cap).cells.toList = some x) : ∃ ss : List StepV, ss.length = len ∧ ScriptK w ad ss ∧ len ≤ maxLen := by
  rcases Deep.open_slice Tryz.underlying25 hf with ⟨hcs, _⟩ | ⟨y, len', cap', mm, n, D, Pl, hcs, _, hl, hm, hmm, _, hel⟩
  · simp [Value.cells] at hcs
    obtain ⟨rfl, rfl, rfl⟩ := hcs
    exact ⟨[], rfl, fun i s hs => by simp at hs, by simp⟩
  · simp [Value.cells] at hcs
    obtain ⟨rfl, rfl, rfl⟩ := hcs
    rw [cellsStepK] at hel
    obtain ⟨b, off, spot⟩ := y
    have hel2 := fun i (hi : i < len) => hel i (by rw [hmm]; split <;> omega)
    have hspot : 0 < len → spot = none := fun h => by
      obtain ⟨cs', h1, h2⟩ := hel2 0 h
      obtain ⟨s, rfl, hs⟩ := step_of_trod h2
      obtain ⟨_, hlen, hcell⟩ := World.cells?_some h1
      have hc := hcell 0 (by omega)
      rw [show s.cells[0]? = some (.int .i64 s.k) from rfl] at hc
      simpa [Addr.add] using World.cell?_spot hc
    obtain ⟨ss, hol, hss⟩ := choose_listK (P := fun i (s : StepV) => s.wf ∧ spot = none ∧ w.rangeAt b (off + i * 3) s.cells) len (fun i hi => by
      obtain ⟨cs', h1, h2⟩ := hel2 i hi
      obtain ⟨s, rfl, hs⟩ := step_of_trod h2
      obtain ⟨_, hlen, hcell⟩ := World.cells?_some h1
      obtain rfl := hspot (by omega)
      refine ⟨s, hs, rfl, fun t v hv => ?_⟩
      have ht : t < 3 := by have := (List.getElem?_eq_some_iff.1 hv).1; rw [hlen] at this; exact this
      have hc := hcell t ht
      rw [hv] at hc
      rw [← hc, Addr.add_lit, Addr.add_lit])
    refine ⟨ss, hol, fun i s hs => ?_, by omega⟩
    obtain ⟨h1, rfl, h3⟩ := hss i s hs
    exact ⟨h1, b, off, rfl, h3⟩

/-- A slice of numbers that was read. -/
theorem ints_of {fuel : Nat} {ad : Option Addr} {len cap : Nat} {x : DataW H × List MemPlace} (hf : DataW.trod enc Tryz.prog w base sp held fuel 53 (Value.slice ad len cap).cells.toList = some x) : ∃ ns : List Int, ns.length = len ∧ IntsK w ad ns ∧ len ≤ maxLen := by
  rcases Deep.open_slice Tryz.underlying53 hf with ⟨hcs, _⟩ | ⟨y, len', cap', mm, n, D, Pl, hcs, _, hl, hm, hmm, _, hel⟩
  · simp [Value.cells] at hcs
    obtain ⟨rfl, rfl, rfl⟩ := hcs
    exact ⟨[], rfl, fun i s hs => by simp at hs, by simp⟩
  · simp [Value.cells] at hcs
    obtain ⟨rfl, rfl, rfl⟩ := hcs
    rw [cellsInt] at hel
    obtain ⟨b, off, spot⟩ := y
    have hel2 := fun i (hi : i < len) => hel i (by rw [hmm]; split <;> omega)
    have hspot : 0 < len → spot = none := fun h => by
      obtain ⟨cs', h1, h2⟩ := hel2 0 h
      obtain ⟨n, rfl, -, hw⟩ := DataW.trod_int Tryz.underlying3 h2
      obtain ⟨_, hlen, hcell⟩ := World.cells?_some h1
      have hc := hcell 0 (by omega)
      rw [show [Value.int .i64 n][0]? = some (.int .i64 n) from rfl] at hc
      simpa [Addr.add] using World.cell?_spot hc
    obtain ⟨ns, hol, hns⟩ := choose_listK (P := fun i (n : Int) => (-9223372036854775808 ≤ n ∧ n ≤ 9223372036854775807) ∧ spot = none ∧ w.cell? ⟨b, off + i, none⟩ = some (.int .i64 n)) len (fun i hi => by
      obtain ⟨cs', h1, h2⟩ := hel2 i hi
      obtain ⟨n, rfl, -, hw⟩ := DataW.trod_int Tryz.underlying3 h2
      obtain ⟨_, hlen, hcell⟩ := World.cells?_some h1
      have hc := hcell 0 (by omega)
      obtain rfl := hspot (by omega)
      refine ⟨n, wfK hw, rfl, ?_⟩
      rw [show [Value.int .i64 n][0]? = some (.int .i64 n) from rfl] at hc
      rw [← hc, Addr.add_lit, Addr.add_lit]
      simp)
    refine ⟨ns, hol, fun i n hn => ?_, by omega⟩
    obtain ⟨h1, rfl, h3⟩ := hns i n hn
    exact ⟨h1, b, off, rfl, h3⟩
end

end Go.Proofs.YtpcgnadfldimhaaGreatDoor
