/-
 The program's cluster: its memory; a job's record.
-/
import Derived.Test.YtpcgnadfldimhaaGreatDoorHeapY
import Derived.Test.YtpcgnadfldimhaaGreatDoorPlanX
import Derived.Test.YtpcgnadfldimhaaGreatDoorSchA
import Derived.Lib.SliceRun
namespace Go.Proofs.YtpcgnadfldimhaaGreatDoor
open Go.RowKit

def Job.three (j : Job) : List Value := [.int .i64 j.phase, .int .i64 j.start, .int .i64 j.stop]
theorem Job.three_len (j : Job) : j.three.length = 3 := rfl
def seatC (s : Int × Int) : List Value := [.int .i64 s.1, .int .i64 s.2]
theorem seatC_len (s : Int × Int) : (seatC s).length = 2 := rfl

/-- Which blocks are the cluster's own. -/
def clB (bi : Nat) (vr vl vh : Value) (k : Nat) : Prop := k = bi ∨ vr.ownBlock = some k ∨ vl.ownBlock = some k ∨ vh.ownBlock = some k

/-- The program's cluster, as it lies in memory. -/
structure Cl (base bi : Nat) (nodes jobs wall last now : Int) (vr vl vh : Value) (R : List Job) (S : List (Int × Int)) (E : List Ev) (w : World) : Prop where
 hp : Hp base bi (.int .i64 nodes) (.int .i64 jobs) (.int .i64 wall) (.int .i64 last) (.int .i64 now) vr vl vh E w
 rcd : w.ownsRow base 185 3 vr R.length (gfl Job.three R)
 liv : w.ownsRow base 187 2 vl S.length (gfl seatC S)
 len : R.length ≤ 1000000000
 few : S.length ≤ 1000000000

theorem Cl.cell {base bi : Nat} {nodes jobs wall last now : Int} {vr vl vh : Value} {R : List Job} {S : List (Int × Int)} {E : List Ev} {w : World} (h : Cl base bi nodes jobs wall last now vr vl vh R S E w) (t : Nat) : w.cell? ⟨bi, t, none⟩ = #[Value.int .i64 nodes, .int .i64 jobs, .int .i64 wall, .int .i64 last, .int .i64 now, vr, vl, vh][t]? := cell_of_row _ _ t _ _ (0, 0) h.hp.blk
theorem Cl.frozen {base bi : Nat} {nodes jobs wall last now : Int} {vr vl vh : Value} {R : List Job} {S : List (Int × Int)} {E : List Ev} {w : World} (h : Cl base bi nodes jobs wall last now vr vl vh R S E w) (t : Nat) : w.frozen? ⟨bi, t, none⟩ = false := frozen_of_row _ _ t _ _ h.hp.blk
theorem Cl.lt {base bi : Nat} {nodes jobs wall last now : Int} {vr vl vh : Value} {R : List Job} {S : List (Int × Int)} {E : List Ev} {w : World} (h : Cl base bi nodes jobs wall last now vr vl vh R S E w) (k : Nat) (hk : clB bi vr vl vh k) : k < w.heap.size := by
 rcases hk with rfl | e | e | e
 ·exact h.hp.lt
 ·exact (h.rcd.lt k e).2
 ·exact (h.liv.lt k e).2
 ·exact (World.ownsRow.lt h.hp.row k e).2
theorem Cl.on {base bi : Nat} {nodes jobs wall last now : Int} {vr vl vh : Value} {R : List Job} {S : List (Int × Int)} {E : List Ev} {w w' : World} (h : Cl base bi nodes jobs wall last now vr vl vh R S E w) (hk : ∀ k, clB bi vr vl vh k → w'.heap[k]? = w.heap[k]?) : Cl base bi nodes jobs wall last now vr vl vh R S E w' :=
 ⟨⟨(hk bi (Or.inl rfl)).trans h.hp.blk, h.hp.row.on (fun k e => hk k (Or.inr (Or.inr (Or.inr e)))), h.hp.len⟩, owns_on h.rcd (fun k e => hk k (Or.inr (Or.inl e))), owns_on h.liv (fun k e => hk k (Or.inr (Or.inr (Or.inl e)))), h.len, h.few⟩
theorem Cl.below {base bi : Nat} {nodes jobs wall last now : Int} {vr vl vh : Value} {R : List Job} {S : List (Int × Int)} {E : List Ev} {w w' : World} (h : Cl base bi nodes jobs wall last now vr vl vh R S E w) (hb : Below w.heap.size w w') : Cl base bi nodes jobs wall last now vr vl vh R S E w' := h.on fun k hk => hb.block k (h.lt k hk)
theorem Cl.kept {base bi : Nat} {nodes jobs wall last now : Int} {vr vl vh : Value} {R : List Job} {S : List (Int × Int)} {E : List Ev} {w w' : World} {X : Nat → Prop} (h : Cl base bi nodes jobs wall last now vr vl vh R S E w) (hK : Kept X w w') (hX : ∀ k, X k → ¬ clB bi vr vl vh k) : Cl base bi nodes jobs wall last now vr vl vh R S E w' := h.on fun k hk => hK.block k (h.lt k hk) (fun hx => hX k hx hk)

/-- A call that changes the cluster's own blocks alone, or makes new ones. -/
structure Trail (bi : Nat) (vr vl vh vr' vl' vh' : Value) (w w' : World) : Prop where
 kept : Kept (clB bi vr vl vh) w w'
 new : ∀ k, clB bi vr' vl' vh' k → clB bi vr vl vh k ∨ w.heap.size ≤ k
theorem Trail.refl (bi : Nat) (vr vl vh : Value) (w : World) : Trail bi vr vl vh vr vl vh w w := ⟨Kept.refl _ _, fun _ e => Or.inl e⟩
theorem Trail.trans {bi : Nat} {vr vl vh vr' vl' vh' vr'' vl'' vh'' : Value} {w w' w'' : World} (h : Trail bi vr vl vh vr' vl' vh' w w') (k : Trail bi vr' vl' vh' vr'' vl'' vh'' w' w'') : Trail bi vr vl vh vr'' vl'' vh'' w w'' :=
 ⟨h.kept.trans k.kept h.new, fun i e => by
  rcases k.new i e with e | e
  ·exact h.new i e
  ·exact Or.inr (Nat.le_trans h.kept.size e)⟩
theorem Trail.below {bi : Nat} {vr vl vh vr' vl' vh' : Value} {w w' w'' : World} (h : Trail bi vr vl vh vr' vl' vh' w w') (hb : Below w'.heap.size w' w'') : Trail bi vr vl vh vr' vl' vh' w w'' :=
 ⟨h.kept.trans (Kept.of_below (S := fun _ => False) hb) (fun _ e => e.elim), h.new⟩
theorem Trail.ofBelow {bi : Nat} {vr vl vh : Value} {w w' : World} (hb : Below w.heap.size w w') : Trail bi vr vl vh vr vl vh w w' := ⟨Kept.of_below hb, fun _ e => Or.inl e⟩

/-- The record of the job at place i. -/
theorem Cl.recs {base bi : Nat} {nodes jobs wall last now : Int} {vr vl vh : Value} {R : List Job} {S : List (Int × Int)} {E : List Ev} {w : World} (h : Cl base bi nodes jobs wall last now vr vl vh R S E w) (i : Nat) (j : Job) (hj : R[i]? = some j) : ∃ g cap, vr = .slice (some ⟨g, 0, none⟩) R.length cap ∧ w.cell? ⟨g, i * 3, none⟩ = some (.int .i64 j.phase) ∧ w.cell? ⟨g, i * 3 + 1, none⟩ = some (.int .i64 j.start) ∧ w.cell? ⟨g, i * 3 + 2, none⟩ = some (.int .i64 j.stop) ∧ (∀ t, w.frozen? ⟨g, t, none⟩ = false) ∧ g < w.heap.size := by
 have hi := (List.getElem?_eq_some_iff.1 hj).1
 rcases own_forms h.rcd with ⟨_, hn⟩ | ⟨g, c, rfl⟩
 ·omega
 ·have c := fun t (ht : t < 3) => (h.rcd.cellAt (g := g) (i * 3 + t) (by omega)).trans (gfl_at Job.three 3 Job.three_len R i _ hj t ht)
  exact ⟨g, _, rfl, c 0 (by omega), c 1 (by omega), c 2 (by omega), fun t => h.rcd.frozenAt t, (h.rcd.lt g rfl).2⟩
/-- A field of a record, stored. -/
theorem Cl.store {base bi g cap : Nat} {nodes jobs wall last now : Int} {vl vh : Value} {R : List Job} {S : List (Int × Int)} {E : List Ev} {w : World} (h : Cl base bi nodes jobs wall last now (.slice (some ⟨g, 0, none⟩) R.length cap) vl vh R S E w) (i : Nat) (j j' : Job) (t : Nat) (u : Value) (hj : R[i]? = some j) (ht : t < 3) (e : j.three.set t u = j'.three) :
  Cl base bi nodes jobs wall last now (.slice (some ⟨g, 0, none⟩) R.length cap) vl vh (R.set i j') S E (w.setCell ⟨g, i * 3 + t, none⟩ u) ∧ Kept (fun k => k = g) w (w.setCell ⟨g, i * 3 + t, none⟩ u) := by
 have hs := h.rcd.stored (i * 3 + t) u
 have n1 : bi ≠ g := fun e => owns_not h.rcd h.hp.blk (by decide) (by simp [Value.ownBlock, e])
 have n2 : ∀ k, vl.ownBlock = some k → k ≠ g := fun k e e2 => owns_apart h.rcd h.liv (by decide) g (by simp [Value.ownBlock]) (e2 ▸ e)
 have n3 : ∀ k, vh.ownBlock = some k → k ≠ g := fun k e e2 => owns_apart h.rcd h.hp.row (by decide) g (by simp [Value.ownBlock]) (e2 ▸ e)
 refine ⟨⟨⟨(Below.heap_setCell _ _ _ bi n1).trans h.hp.blk, h.hp.row.on (fun k e => Below.heap_setCell _ _ _ k (n3 k e)), h.hp.len⟩, ?_, owns_on h.liv (fun k e => Below.heap_setCell _ _ _ k (n2 k e)), by simpa using h.len, h.few⟩, (Kept.refl (fun k => k = g) w).setCell (p := ⟨g, i * 3 + t, none⟩) (Or.inl rfl) u⟩
 have := hs.1
 rw [gfl_set1 Job.three 3 Job.three_len R i j j' hj t ht u e] at this
 rw [List.length_set]
 exact this

set_option maxHeartbeats 1000000 in
theorem recordOf_any (base bi g cap : Nat) (nodes jobs wall last now : Int) (vl vh : Value) (R : List Job) (S : List (Int × Int)) (E : List Ev) (w : World) (h : Cl base bi nodes jobs wall last now (.slice (some ⟨g, 0, none⟩) R.length cap) vl vh R S E w) (i : Nat) (hi : i < R.length) :
  Calls Tryz.prog 98 #[.pointer (some ⟨bi, 0, none⟩), .int .i64 ((i : Int) + 1)] w fun e w' => e = .returned (.pointer (some ⟨g, i * 3, none⟩)) ∧ w' = w := by
 have c5 := h.cell 5
 simp at c5
 have hl := h.len
 have hlt := h.hp.lt
 have i1 : (0 : Int) ≤ (i : Int) := by omega
 have i2 : (i : Int) < (R.length : Int) := by omega
 clear h
 go_enter Tryz.func98, Tryz.ntmps98
 go_wp2
 go_ret
 exact ⟨by simp, rfl⟩

end Go.Proofs.YtpcgnadfldimhaaGreatDoor
namespace Go.Proofs.YtpcgnadfldimhaaGreatDoor
open Go.RowKit

/-- An event is put among those to come. -/
theorem Cl.heap {base bi g cap : Nat} {nodes jobs wall last now : Int} {vr vl vh : Value} {R : List Job} {S : List (Int × Int)} {E F : List Ev} {w w' : World} (h : Cl base bi nodes jobs wall last now vr vl vh R S E w) {n : Nat} (hH : Hp base bi (.int .i64 nodes) (.int .i64 jobs) (.int .i64 wall) (.int .i64 last) (.int .i64 now) vr vl (.slice (some ⟨g, 0, none⟩) n cap) F w') (hk : Kept (fun k => k = bi ∨ vh.ownBlock = some k) w w') (hat : vh.ownBlock = some g ∨ w.heap.size ≤ g) :
  Cl base bi nodes jobs wall last now vr vl (.slice (some ⟨g, 0, none⟩) n cap) R S F w' ∧ Trail bi vr vl vh vr vl (.slice (some ⟨g, 0, none⟩) n cap) w w' := by
 have nb : ∀ k, vr.ownBlock = some k → ¬ (k = bi ∨ vh.ownBlock = some k) := fun k e e2 => by
  rcases e2 with rfl | e2
  ·exact owns_not h.rcd h.hp.blk (by decide) e
  ·exact owns_apart h.rcd h.hp.row (by decide) k e e2
 have nl : ∀ k, vl.ownBlock = some k → ¬ (k = bi ∨ vh.ownBlock = some k) := fun k e e2 => by
  rcases e2 with rfl | e2
  ·exact owns_not h.liv h.hp.blk (by decide) e
  ·exact owns_apart h.liv h.hp.row (by decide) k e e2
 refine ⟨⟨hH, owns_on h.rcd (fun k e => hk.block k (h.rcd.lt k e).2 (nb k e)), owns_on h.liv (fun k e => hk.block k (h.liv.lt k e).2 (nl k e)), h.len, h.few⟩, ⟨hk.wider (fun k e => e.imp id (fun e => Or.inr (Or.inr e))), fun k e => ?_⟩⟩
 rcases e with e | e | e | e
 ·exact Or.inl (Or.inl e)
 ·exact Or.inl (Or.inr (Or.inl e))
 ·exact Or.inl (Or.inr (Or.inr (Or.inl e)))
 ·simp [Value.ownBlock] at e
  subst e
  exact hat.imp (fun e => Or.inr (Or.inr (Or.inr e))) id

set_option maxHeartbeats 4000000 in
set_option maxRecDepth 100000 in
theorem start_any (base bi g cap : Nat) (nodes jobs wall last now : Int) (vl vh : Value) (R : List Job) (S : List (Int × Int)) (E : List Ev) (w : World) (h : Cl base bi nodes jobs wall last now (.slice (some ⟨g, 0, none⟩) R.length cap) vl vh R S E w) (hbase : base ≤ w.heap.size) (i : Nat) (j : Job) (hj : R[i]? = some j) (hl : E.length < 1000000000) (hok : ∀ e ∈ E, e.ok) (hF : HeapF (evAt E) E.length) :
  Calls Tryz.prog 126 #[.pointer (some ⟨bi, 0, none⟩), .int .i64 ((i : Int) + 1)] w fun e w' => e = .returned (.tuple #[]) ∧ ∃ vh' F, F.Perm (E ++ [⟨2, (i : Int) + 1, j.stop, 0⟩]) ∧ HeapF (evAt F) F.length ∧ Cl base bi nodes jobs wall last now (.slice (some ⟨g, 0, none⟩) R.length cap) vl vh' (R.set i { j with phase := 2 }) S F w' ∧ Trail bi (.slice (some ⟨g, 0, none⟩) R.length cap) vl vh (.slice (some ⟨g, 0, none⟩) R.length cap) vl vh' w w' := by
 have hi := (List.getElem?_eq_some_iff.1 hj).1
 obtain ⟨g', cap', eg, r0, r1, r2, rf, hg⟩ := h.recs i j hj
 obtain ⟨e1, _, rfl⟩ := Value.slice.inj eg
 simp at e1
 subst e1
 have hR := recordOf_any base bi g cap nodes jobs wall last now vl vh R S E w h i hi
 have hlt := h.hp.lt
 have hlen := h.len
 have hst := h.store i j { j with phase := 2 } 0 (.int .i64 2) hj (by omega) rfl
 rw [Nat.add_zero] at hst
 have HS := Lib.hid hst
 clear h hst eg
 obtain ⟨wd, wl, ph, st, en⟩ := j
 simp only at r0 r1 r2
 go_enter Tryz.func126, Tryz.ntmps126
 go_wp2_with (go_at_call 98; refine hR.mono ?_; rintro e w1 ⟨rfl, hw⟩; subst w1)
 have k2 : (w.setCell ⟨g, i * 3, none⟩ (.int .i64 2)).cell? ⟨g, i * 3 + 2, none⟩ = some (.int .i64 en) := by
  rw [World.cell?_setCell_other _ _ _ _ (by simp)]
  exact r2
 have hsz : (w.setCell ⟨g, i * 3, none⟩ (.int .i64 2)).heap.size = w.heap.size := by simp
 generalize w.setCell ⟨g, i * 3, none⟩ (.int .i64 2) = w1 at *
 obtain ⟨hC1, hK1⟩ := HS.out
 have hA := add_ev base bi _ _ _ _ _ _ _ vh E w1.drew (hC1.on (w' := w1.drew) (fun _ _ => rfl)).hp (by show base ≤ w1.heap.size; omega) hl hok hF ⟨2, (i : Int) + 1, en, 0⟩ (Or.inr rfl)
 have HC1 := Lib.hid (hC1.on (w' := w1.drew) (fun _ _ => rfl))
 have HK1 := Lib.hid hK1.drew
 clear hC1 hK1 HS r0 r1 r2 rf hR
 go_region_with (go_at_call 124; refine hA.mono ?_; rintro r w2 ⟨rfl, g2, cap2, F, hp, hh, hH2, hk2, hat⟩)
 all_goals go_wp2
 all_goals
  obtain ⟨hC2, hT2⟩ := HC1.out.heap hH2 hk2 hat
  have hFl : F.length = E.length + 1 := by rw [hp.length_eq]; simp
  refine bodyPost_end (results_none Tryz.results126 _ _ _) rfl ⟨rfl, _, F, hp, by rw [hFl]; exact hh, hC2, ?_⟩
  refine Trail.trans ⟨HK1.out.wider (fun k e => ?_), fun k e => Or.inl e⟩ hT2
  subst e
  exact Or.inr (Or.inl (by simp [Value.ownBlock]))

end Go.Proofs.YtpcgnadfldimhaaGreatDoor
namespace Go.Proofs.YtpcgnadfldimhaaGreatDoor
open Go.RowKit

set_option maxHeartbeats 1000000 in
theorem seatIs_any (pb : Nat) (x a b : Int) (w : World) (h : w.cell? ⟨pb, 0, none⟩ = some (.int .i64 x)) :
  Calls Tryz.prog 158 #[.agg #[.int .i64 a, .int .i64 b], .pointer (some ⟨pb, 0, none⟩)] w fun e w' => e = .returned (.bool (decide (a = x))) ∧ w' = w.alloc (.cells #[.int .i64 a, .int .i64 b] 187) := by
 have hlt : pb < w.heap.size := block_lt_of_cell (a := ⟨pb, 0, none⟩) h
 go_enter Tryz.func158, Tryz.ntmps158
 go_wp2
 go_ret
 exact ⟨by simp; rfl, rfl⟩

/-- The first seat that is the one, among the first k. -/
def noneOf (x : Int) (S : List (Int × Int)) (k : Nat) : Prop := ∀ (m : Nat) (s : Int × Int), m < k → S[m]? = some s → ¬ s.1 = x

set_option maxHeartbeats 4000000 in
set_option maxRecDepth 100000 in
theorem indexSeat_any (p : Option Addr) (cap pb : Nat) (x : Int) (S : List (Int × Int)) (w : World) (h : Laid seatC 2 w p S) (hl : S.length ≤ 1000000000) (hx : w.cell? ⟨pb, 0, none⟩ = some (.int .i64 x)) :
  Calls Tryz.prog 182 #[.slice p S.length cap, .func (.func 158) #[] #[.pointer (some ⟨pb, 0, none⟩)]] w fun e w' => ((e = .returned (.int .i64 (-1)) ∧ noneOf x S S.length) ∨ ∃ (k : Nat) (s : Int × Int), e = .returned (.int .i64 k) ∧ S[k]? = some s ∧ s.1 = x ∧ noneOf x S k) ∧ Below w.heap.size w w' := by
 have H := Lib.hid h
 clear h
 go_enter Tryz.func182, Tryz.ntmps182
 go_wp2
 go_loopw [8] (fun i wr => ∃ k : Nat, k ≤ S.length ∧ i = .int .i64 k ∧ noneOf x S k ∧ Below w.heap.size w wr) (fun i _ => S.length - (intOf i).toNat)
 case atStart => exact ⟨0, Nat.zero_le _, rfl, fun m s hm => by omega, Below.refl _ _⟩
 case round =>
  obtain ⟨k, hk, rfl, hno, hbr⟩ := hrel
  have hxr := (hbr.cell (p := ⟨pb, 0, none⟩) (block_lt_of_cell (a := ⟨pb, 0, none⟩) hx)).trans hx
  by_cases hlt : k < S.length
  ·obtain ⟨s, hs⟩ : ∃ s, S[k]? = some s := ⟨_, List.getElem?_eq_getElem hlt⟩
   obtain ⟨b, rfl, hrow⟩ := (H.out.on hbr) k s hs
   have HN := Lib.hid hno
   have HS := Lib.hid hs
   clear hno hs
   obtain ⟨sa, sb⟩ := s
   go_wp2_with (first | (refine wpList_load_mid rfl 187 _ rfl b (k * 2) rfl [.int .i64 sa, .int .i64 sb] _ hrow Tryz.underlying187 rfl (by kernel_rfl) ?_) | (go_at_call 158; refine (seatIs_any pb x sa sb _ hxr).mono ?_; rintro e w1 ⟨rfl, hw⟩; subst w1; refine Hid.out ?_))
   refine Lib.hid ?_
   have hb2 := (hbr.alloc hbr.size (.cells #[.int .i64 sa, .int .i64 sb] 187))
   by_cases hq : sa = x
   ·go_wp2
    go_ret
    exact ⟨Or.inr ⟨k, (sa, sb), rfl, HS.out, hq, HN.out⟩, hb2⟩
   ·go_wp2
    go_roundw
    case rel =>
     refine ⟨k + 1, by omega, by go_num, fun m s hm hs => ?_, hb2⟩
     rcases Nat.lt_or_eq_of_le (Nat.le_of_lt_succ hm) with h2 | h2
     ·exact HN.out m s h2 hs
     ·subst h2
      rw [HS.out] at hs
      obtain rfl := Option.some.inj hs
      exact hq
    case measure => simp [intOf]; omega
  ·obtain rfl : k = S.length := by omega
   go_wp2
   go_ret
   exact ⟨Or.inl ⟨rfl, hno⟩, hbr⟩

/-- Cells behind a row, stored: the row is as it was. -/
theorem owns_setCells {base : Nat} {e : TypeId} {size g cap n : Nat} {xs : List Value} : ∀ (vs : List Value) (o : Nat) (w : World), xs.length ≤ o → w.ownsRow base e size (.slice (some ⟨g, 0, none⟩) n cap) n xs → (w.setCells g o vs).ownsRow base e size (.slice (some ⟨g, 0, none⟩) n cap) n xs ∧ Kept (fun k => k = g) w (w.setCells g o vs)
 | [], _, w, _, h => ⟨h, Kept.refl _ _⟩
 | v :: r, o, w, ho, h => by
  have h1 := (h.stored o v).1
  rw [List.set_eq_of_length_le ho] at h1
  obtain ⟨h2, h3⟩ := owns_setCells r (o + 1) (w.setCell ⟨g, o, none⟩ v) (by omega) h1
  exact ⟨h2, ((Kept.refl (fun k => k = g) w).setCell (p := ⟨g, o, none⟩) (Or.inl rfl) v).trans h3 (fun i e => Or.inl e)⟩

def noughts2 (n : Nat) : List Value := (Builtin.zeroCells (Value.agg #[.int .i64 0, .int .i64 0]).cells n).toList
/-- 'clear' of the seats behind the first a. -/
theorem clear_seats (ty : TypeId) (w : World) (g o n c : Nat) (hn : 0 < n) (hc : ∀ j, j < n * 2 → (w.cell? ⟨g, o + j, none⟩).isSome = true) (hf : ∀ j, w.frozen? ⟨g, j, none⟩ = false) :
  (Builtin.clear_ #[169] ty #[.slice (some ⟨g, o, none⟩) n c]).run Tryz.prog w = .ok (.tuple #[]) (w.setCells g o (noughts2 n)) := by
 have hzl : (noughts2 n).length = n * 2 := by simp [noughts2, Builtin.zeroCells, Value.cells]
 have hz1 : ∀ v ∈ noughts2 n, v.oneCell' = true := fun v hv => by
  simp only [noughts2, Builtin.zeroCells, Value.cells, Array.toList_map, List.mem_map] at hv
  obtain ⟨i, _, rfl⟩ := hv
  have : i % 2 = 0 ∨ i % 2 = 1 := by omega
  rcases this with e | e <;> simp [e, Value.oneCell']
 have hst := run_storeCells_cells (P := Tryz.prog) g o (noughts2 n) 0 w (fun j hj => by rw [hzl] at hj; simpa using hc j hj) (fun j _ => hf _) hz1
 simp only [Nat.add_zero] at hst
 unfold noughts2 at hst ⊢
 obtain ⟨m, rfl⟩ : ∃ m, n = m + 1 := ⟨n - 1, by omega⟩
 simp [Builtin.clear_, run_underlying Tryz.underlying169, hst]

end Go.Proofs.YtpcgnadfldimhaaGreatDoor
namespace Go.Proofs.YtpcgnadfldimhaaGreatDoor
open Go.RowKit

/-- Those that stay. -/
def stay (x : Int) (S : List (Int × Int)) : List (Int × Int) := S.filter fun s => !decide (s.1 = x)
theorem stay_none {x : Int} {S : List (Int × Int)} (h : noneOf x S S.length) : stay x S = S := by
 unfold stay
 rw [List.filter_eq_self]
 intro s hs
 obtain ⟨i, hi, e⟩ := List.getElem_of_mem hs
 have := h i s hi (by simp [hi, e])
 simp [this]
theorem stay_take {x : Int} {S : List (Int × Int)} {k : Nat} (h : noneOf x S k) : stay x (S.take k) = S.take k := stay_none (fun m s hm hs => by
 rw [List.length_take] at hm
 rw [List.getElem?_take_of_lt (by omega)] at hs
 exact h m s (by omega) hs)
theorem stay_step (x : Int) (S : List (Int × Int)) (b : Nat) (s : Int × Int) (h : S[b]? = some s) : stay x (S.take (b + 1)) = if s.1 = x then stay x (S.take b) else stay x (S.take b) ++ [s] := by
 unfold stay
 rw [List.take_add_one, h, List.filter_append]
 by_cases e : s.1 = x
 ·simp [e]
 ·simp [e]
theorem stay_len (x : Int) (S : List (Int × Int)) : (stay x S).length ≤ S.length := List.length_filter_le _ _

/-- While the seats are gone through: the first a are those that stay of the first b; from b on all is as it was. -/
structure Gone (x : Int) (S T : List (Int × Int)) (a b : Nat) : Prop where
 len : T.length = S.length
 lt : a < b
 le : b ≤ S.length
 head : T.take a = stay x (S.take b)
 rest : ∀ m, b ≤ m → T[m]? = S[m]?
theorem Gone.skip {x : Int} {S T : List (Int × Int)} {a b : Nat} (h : Gone x S T a b) {s : Int × Int} (hs : S[b]? = some s) (hx : s.1 = x) : Gone x S T a (b + 1) :=
 ⟨h.len, by have := h.lt; omega, (List.getElem?_eq_some_iff.1 hs).1, by rw [stay_step x S b s hs, if_pos hx]; exact h.head, fun m hm => h.rest m (by omega)⟩
theorem Gone.keep {x : Int} {S T : List (Int × Int)} {a b : Nat} (h : Gone x S T a b) {s : Int × Int} (hs : S[b]? = some s) (hx : ¬ s.1 = x) : Gone x S (T.set a s) (a + 1) (b + 1) := by
 have hl := h.lt
 have hb := (List.getElem?_eq_some_iff.1 hs).1
 have hlen := h.len
 refine ⟨by simp [h.len], by omega, hb, ?_, fun m hm => ?_⟩
 ·rw [stay_step x S b s hs, if_neg hx, ← h.head, List.take_add_one, List.take_set_of_le (Nat.le_refl a)]
  simp [show a < T.length by omega]
 ·rw [List.getElem?_set, if_neg (by omega)]
  exact h.rest m (by omega)
theorem Gone.done {x : Int} {S T : List (Int × Int)} {a : Nat} (h : Gone x S T a S.length) : T.take a = stay x S ∧ (stay x S).length = a := by
 have e := h.head
 rw [List.take_length] at e
 refine ⟨e, ?_⟩
 rw [← e, List.length_take, h.len]
 have := h.lt
 omega

set_option maxHeartbeats 8000000 in
set_option maxRecDepth 100000 in
theorem deleteSeat_any (base g cap pb : Nat) (x : Int) (S : List (Int × Int)) (w : World) (h : w.ownsRow base 187 2 (.slice (some ⟨g, 0, none⟩) S.length cap) S.length (gfl seatC S)) (hl : S.length ≤ 1000000000) (hx : w.cell? ⟨pb, 0, none⟩ = some (.int .i64 x)) (hpb : pb ≠ g) :
  Calls Tryz.prog 157 #[.slice (some ⟨g, 0, none⟩) S.length cap, .func (.func 158) #[] #[.pointer (some ⟨pb, 0, none⟩)]] w fun e w' => e = .returned (.slice (some ⟨g, 0, none⟩) (stay x S).length cap) ∧ w'.ownsRow base 187 2 (.slice (some ⟨g, 0, none⟩) (stay x S).length cap) (stay x S).length (gfl seatC (stay x S)) ∧ Kept (fun k => k = g) w w' := by
 have hpl : pb < w.heap.size := block_lt_of_cell (a := ⟨pb, 0, none⟩) hx
 have hI := indexSeat_any (some ⟨g, 0, none⟩) cap pb x S w (owns_laid seatC_len h rfl) hl hx
 have hcap := own_cap h
 have H := Lib.hid h
 clear h
 go_enter Tryz.func157, Tryz.ntmps157
 go_wp2_with (go_at_call 182; refine hI.mono ?_; rintro e w1 ⟨he, hb1⟩; rcases he with ⟨rfl, hno⟩ | ⟨k, s, rfl, hs, hsx, hno⟩ <;> refine Hid.out ?_)
 ·refine Lib.hid ?_
  have hH1 := owns_on (w' := w1) H.out (fun k e => hb1.block k (H.out.lt k e).2)
  have HH1 := Lib.hid hH1
  have HK1 := Lib.hid (Kept.of_below (S := fun k => k = g) hb1)
  clear hH1 hb1 hI
  go_wp2
  go_ret
  rw [stay_none hno]
  exact ⟨rfl, HH1.out, HK1.out⟩
 ·refine Lib.hid ?_
  have hk := (List.getElem?_eq_some_iff.1 hs).1
  have hH1 := owns_on (w' := w1) H.out (fun k e => hb1.block k (H.out.lt k e).2)
  have hx1 := (hb1.cell (p := ⟨pb, 0, none⟩) hpl).trans hx
  have hG : Gone x S S k (k + 1) := ⟨rfl, by omega, hk, by rw [stay_step x S k s hs, if_pos hsx, stay_take hno], fun _ _ => rfl⟩
  have HH1 := Lib.hid hH1
  have HK1 := Lib.hid (Kept.of_below (S := fun k => k = g) hb1)
  have hs1 := hb1.size
  clear hH1 hb1 hI hs hsx hno
  go_wp2
  go_loopw [5, 6] (fun i j wr => ∃ (a b : Nat) (T : List (Int × Int)), i = .int .i64 a ∧ j = .int .i64 b ∧ Gone x S T a b ∧ wr.ownsRow base 187 2 (.slice (some ⟨g, 0, none⟩) S.length cap) S.length (gfl seatC T) ∧ Kept (fun k => k = g) w wr ∧ wr.cell? ⟨pb, 0, none⟩ = some (.int .i64 x)) (fun _ j _ => S.length - (intOf j).toNat)
  case atStart => exact ⟨k, k + 1, S, rfl, by go_num, hG, HH1.out, HK1.out, hx1⟩
  case round =>
   obtain ⟨a, b, T, rfl, rfl, hGo, hown, hkp, hxr⟩ := hrel
   have hlt := hGo.lt
   have hle := hGo.le
   have hTl := hGo.len
   have hsr := hkp.size
   have hgr : g < wr.heap.size := (hown.lt g rfl).2
   by_cases hbl : b < S.length
   ·obtain ⟨s2, hs2⟩ : ∃ s2, S[b]? = some s2 := ⟨_, List.getElem?_eq_getElem hbl⟩
    have hT2 : T[b]? = some s2 := (hGo.rest b (Nat.le_refl _)).trans hs2
    obtain ⟨sA, hsA⟩ : ∃ s, T[a]? = some s := ⟨_, List.getElem?_eq_getElem (by omega)⟩
    obtain ⟨b', hb', hrow⟩ := owns_laid seatC_len hown hTl.symm b s2 hT2
    obtain rfl : g = b' := by simpa using hb'
    have c0 := (hown.cellAt (g := g) (a * 2) (by omega)).trans (gfl_at seatC 2 seatC_len T a sA hsA 0 (by omega))
    have c1 := (hown.cellAt (g := g) (a * 2 + 1) (by omega)).trans (gfl_at seatC 2 seatC_len T a sA hsA 1 (by omega))
    simp only [seatC, List.getElem?_cons_zero, List.getElem?_cons_succ] at c0 c1
    have cf := fun t => hown.frozenAt (g := g) t
    have hsetL : ((gfl seatC T).set (a * 2) (.int .i64 s2.1)).set (a * 2 + 1) (.int .i64 s2.2) = gfl seatC (T.set a s2) := gfl_set2 seatC seatC_len T a sA s2 hsA _ _ rfl
    have HO := Lib.hid hown
    have HK := Lib.hid hkp
    have HG := Lib.hid hGo
    have HS := Lib.hid hs2
    have hpr : pb < wr.heap.size := by omega
    clear hown hkp hGo hs2 hT2 hsA
    obtain ⟨sa, sb⟩ := s2
    have hxr1 := cellUp hxr (.cells #[.int .i64 sa, .int .i64 sb] 187)
    go_wp2_with (first | (refine wpList_load_mid rfl 187 _ rfl g (b * 2) rfl [.int .i64 sa, .int .i64 sb] _ hrow Tryz.underlying187 rfl (by kernel_rfl) ?_) | (go_at_call 158; refine (seatIs_any pb x sa sb _ hxr1).mono ?_; rintro e w2 ⟨rfl, hw⟩; subst w2; refine Hid.out ?_))
    refine Lib.hid ?_
    by_cases hq : sa = x
    ·go_wp2
     go_roundw
     case rel =>
      refine ⟨_, _, _, _, _, _, _, _, _, _, _, _, _, _, _, _, _, _, _, _, _, _, _, ?_, rfl⟩
      exact ⟨a, b + 1, T, rfl, by go_num, HG.out.skip HS.out hq, (HO.out.alloc _).alloc _, (HK.out.alloc _).alloc _, cellUp (cellUp hxr _) _⟩
     case measure => simp [intOf]; omega
    ·have z0 := cellUp (cellUp c0 (.cells #[.int .i64 sa, .int .i64 sb] 187)) (.cells #[.int .i64 sa, .int .i64 sb] 187)
     have z1 := cellUp (cellUp c1 (.cells #[.int .i64 sa, .int .i64 sb] 187)) (.cells #[.int .i64 sa, .int .i64 sb] 187)
     have HO2 := Lib.hid ((HO.out.alloc (.cells #[.int .i64 sa, .int .i64 sb] 187)).alloc (.cells #[.int .i64 sa, .int .i64 sb] 187))
     have HK2 := Lib.hid ((HK.out.alloc (.cells #[.int .i64 sa, .int .i64 sb] 187)).alloc (.cells #[.int .i64 sa, .int .i64 sb] 187))
     have hx2 := cellUp hxr1 (.cells #[.int .i64 sa, .int .i64 sb] 187)
     have hv0 : ((wr.alloc (.cells #[.int .i64 sa, .int .i64 sb] 187)).alloc (.cells #[.int .i64 sa, .int .i64 sb] 187)).heap[wr.heap.size]? = some (.cells #[.int .i64 sa, .int .i64 sb] 187 (0, 0)) := (Below.heap_alloc (wr.alloc _) _ _ (by simp)).trans (heap_alloc_new wr _)
     have zf : ∀ t, ((wr.alloc (.cells #[.int .i64 sa, .int .i64 sb] 187)).alloc (.cells #[.int .i64 sa, .int .i64 sb] 187)).frozen? ⟨g, t, none⟩ = false := fun t => HO2.out.frozenAt t
     have hsz : ((wr.alloc (.cells #[.int .i64 sa, .int .i64 sb] 187)).alloc (.cells #[.int .i64 sa, .int .i64 sb] 187)).heap.size = wr.heap.size + 2 := by simp
     have v0 := cell_of_row _ _ 0 _ _ (0, 0) hv0
     have v1 := cell_of_row _ _ 1 _ _ (0, 0) hv0
     simp only [List.getElem?_toArray, List.getElem?_cons_zero, List.getElem?_cons_succ] at v0 v1
     generalize ((wr.alloc (.cells #[.int .i64 sa, .int .i64 sb] 187)).alloc (.cells #[.int .i64 sa, .int .i64 sb] 187)) = W at *
     clear c0 c1 cf hxr hxr1 hrow hv0
     go_wp2
     have hO3 := ((HO2.out.stored (a * 2) (.int .i64 sa)).1.stored (a * 2 + 1) (.int .i64 sb)).1
     rw [hsetL] at hO3
     have hx3 : ((W.setCell ⟨g, a * 2, none⟩ (.int .i64 sa)).setCell ⟨g, a * 2 + 1, none⟩ (.int .i64 sb)).cell? ⟨pb, 0, none⟩ = some (.int .i64 x) := by
      rw [World.cell?_setCell_other _ _ _ _ (by simp), World.cell?_setCell_other _ _ _ _ (by simp)]
      exact hx2
     go_roundw
     case rel =>
      refine ⟨_, _, _, _, _, _, _, _, _, _, _, _, _, _, _, _, _, _, _, _, _, _, _, ?_, rfl⟩
      exact ⟨a + 1, b + 1, T.set a (sa, sb), by go_num, by go_num, HG.out.keep HS.out hq, hO3, (HK2.out.setCell (p := ⟨g, a * 2, none⟩) (Or.inl rfl) _).setCell (p := ⟨g, a * 2 + 1, none⟩) (Or.inl rfl) _, hx3⟩
     case measure => simp [intOf]; omega
   ·obtain rfl : b = S.length := by omega
    obtain ⟨d1, d2⟩ := hGo.done
    have hc : ∀ j, j < (S.length - a) * 2 → (wr.cell? ⟨g, a * 2 + j, none⟩).isSome = true := fun j hj => by
     rw [hown.cellAt (a * 2 + j) (by omega)]
     have : a * 2 + j < (gfl seatC T).length := by rw [gfl_len seatC 2 seatC_len]; omega
     simp [this]
    have hcl := fun ty => clear_seats ty wr g (a * 2) (S.length - a) (cap - a) (by omega) hc (fun j => hown.frozenAt j)
    have hpre := owns_take hown (m := a) (by omega)
    rw [gfl_take seatC 2 seatC_len, d1] at hpre
    have hgl : (gfl seatC (stay x S)).length = a * 2 := by rw [gfl_len seatC 2 seatC_len, d2]
    have HPre := Lib.hid hpre
    have HK := Lib.hid hkp
    have HCl := Lib.hid hcl
    have hna : S.length - a ≠ 0 := by omega
    clear hpre hkp hown hGo hc hcl
    have hcl := HCl.out
    go_wp2
    go_ret
    rw [d2]
    obtain ⟨o1, o2⟩ := owns_setCells (noughts2 (S.length - a)) (a * 2) wr (Nat.le_of_eq hgl) HPre.out
    exact ⟨rfl, o1, HK.out.trans o2 (fun i e => Or.inl e)⟩

set_option maxHeartbeats 4000000 in
set_option maxRecDepth 100000 in
theorem leave_any (base bi g cap : Nat) (nodes jobs wall last now : Int) (vr vh : Value) (R : List Job) (S : List (Int × Int)) (E : List Ev) (w : World) (h : Cl base bi nodes jobs wall last now vr (.slice (some ⟨g, 0, none⟩) S.length cap) vh R S E w) (x : Int) :
  Calls Tryz.prog 141 #[.pointer (some ⟨bi, 0, none⟩), .int .i64 x] w fun e w' => e = .returned (.tuple #[]) ∧ Cl base bi nodes jobs wall last now vr (.slice (some ⟨g, 0, none⟩) (stay x S).length cap) vh R (stay x S) E w' ∧ Trail bi vr (.slice (some ⟨g, 0, none⟩) S.length cap) vh vr (.slice (some ⟨g, 0, none⟩) (stay x S).length cap) vh w w' := by
 have c6 := h.cell 6
 have f6 := h.frozen 6
 simp at c6
 have hlt := h.hp.lt
 have hg : g < w.heap.size := h.lt g (Or.inr (Or.inr (Or.inl rfl)))
 have hgb : bi ≠ g := fun e => owns_not h.liv h.hp.blk (by decide) (by simp [Value.ownBlock, e])
 have h1 := h.below ((Below.refl w.heap.size w).alloc (Nat.le_refl _) (.cells #[.int .i64 x] 3))
 have hx : (w.alloc (.cells #[.int .i64 x] 3)).cell? ⟨w.heap.size, 0, none⟩ = some (.int .i64 x) := by
  simp
 have hD := deleteSeat_any base g cap w.heap.size x S _ h1.liv h.few hx (by omega)
 have H1 := Lib.hid h1
 have hfew := stay_len x S
 clear h h1
 go_enter Tryz.func141, Tryz.ntmps141
 go_wp2_with (go_at_call 157; refine hD.mono ?_; rintro e w1 ⟨rfl, ho1, hk1⟩; refine Hid.out ?_)
 refine Lib.hid ?_
 have hb1 := (hk1.block bi (by simp; omega) hgb).trans H1.out.hp.blk
 have d6 := cell_of_row _ _ 6 _ _ (0, 0) hb1
 have e6 := frozen_of_row _ _ 6 _ _ hb1
 simp at d6
 have HB1 := Lib.hid hb1
 have HO1 := Lib.hid ho1
 have HK1 := Lib.hid hk1
 clear hb1 ho1 hk1 hD
 go_wp2
 have hne : ∀ k, clB bi vr (.slice (some ⟨g, 0, none⟩) S.length cap) vh k → k ≠ bi → k ≠ g → (w1.setCell ⟨bi, 6, none⟩ (.slice (some ⟨g, 0, none⟩) (stay x S).length cap)).heap[k]? = (w.alloc (.cells #[.int .i64 x] 3)).heap[k]? := fun k hk n1 n2 => (Below.heap_setCell _ _ _ k n1).trans (HK1.out.block k (H1.out.lt k hk) n2)
 have nr : ∀ k, vr.ownBlock = some k → k ≠ bi ∧ k ≠ g := fun k e => ⟨fun e2 => owns_not H1.out.rcd H1.out.hp.blk (by decide) (e2 ▸ e), fun e2 => owns_apart H1.out.rcd H1.out.liv (by decide) k e (by simp [Value.ownBlock, e2])⟩
 have nh : ∀ k, vh.ownBlock = some k → k ≠ bi ∧ k ≠ g := fun k e => ⟨fun e2 => H1.out.hp.apart (e2 ▸ e), fun e2 => owns_apart (e1 := 55) H1.out.hp.row H1.out.liv (by decide) k e (by simp [Value.ownBlock, e2])⟩
 refine bodyPost_end (results_none Tryz.results141 _ _ _) rfl ⟨rfl, ⟨⟨heap_setCell_same w1 bi 6 _ _ _ HB1.out, H1.out.hp.row.on (fun k e => hne k (Or.inr (Or.inr (Or.inr e))) (nh k e).1 (nh k e).2), H1.out.hp.len⟩, owns_on H1.out.rcd (fun k e => hne k (Or.inr (Or.inl e)) (nr k e).1 (nr k e).2), ownsRow_setCell_other HO1.out (fun e => hgb (by simpa [Value.ownBlock] using e.symm)) _, H1.out.len, by have := H1.out.few; omega⟩, ⟨?_, fun k e => ?_⟩⟩
 ·refine (((Kept.of_below (S := clB bi vr (.slice (some ⟨g, 0, none⟩) S.length cap) vh) ((Below.refl _ _).alloc (Nat.le_refl _) _)).trans HK1.out (fun i e => Or.inl ?_)).setCell (p := ⟨bi, 6, none⟩) (Or.inl (Or.inl rfl)) _)
  subst e
  exact Or.inr (Or.inr (Or.inl (by simp [Value.ownBlock])))
 ·rcases e with e | e | e | e
  ·exact Or.inl (Or.inl e)
  ·exact Or.inl (Or.inr (Or.inl e))
  ·exact Or.inl (Or.inr (Or.inr (Or.inl (by simpa [Value.ownBlock] using e))))
  ·exact Or.inl (Or.inr (Or.inr (Or.inr e)))

set_option maxHeartbeats 4000000 in
set_option maxRecDepth 100000 in
theorem timeOut_any (base bi g cap gl cl : Nat) (nodes jobs wall last now : Int) (vh : Value) (R : List Job) (S : List (Int × Int)) (E : List Ev) (w : World) (h : Cl base bi nodes jobs wall last now (.slice (some ⟨g, 0, none⟩) R.length cap) (.slice (some ⟨gl, 0, none⟩) S.length cl) vh R S E w) (i : Nat) (j : Job) (hj : R[i]? = some j) :
  Calls Tryz.prog 127 #[.pointer (some ⟨bi, 0, none⟩), .int .i64 ((i : Int) + 1)] w fun e w' => e = .returned (.tuple #[]) ∧ Cl base bi nodes jobs wall last now (.slice (some ⟨g, 0, none⟩) R.length cap) (.slice (some ⟨gl, 0, none⟩) (stay ((i : Int) + 1) S).length cl) vh (R.set i { j with phase := 4 }) (stay ((i : Int) + 1) S) E w' ∧ Trail bi (.slice (some ⟨g, 0, none⟩) R.length cap) (.slice (some ⟨gl, 0, none⟩) S.length cl) vh (.slice (some ⟨g, 0, none⟩) R.length cap) (.slice (some ⟨gl, 0, none⟩) (stay ((i : Int) + 1) S).length cl) vh w w' := by
 have hi := (List.getElem?_eq_some_iff.1 hj).1
 obtain ⟨g', cap', eg, r0, r1, r2, rf, hg⟩ := h.recs i j hj
 obtain ⟨e1, _, rfl⟩ := Value.slice.inj eg
 simp at e1
 subst e1
 have hR := recordOf_any base bi g cap nodes jobs wall last now _ vh R S E w h i hi
 have hlt := h.hp.lt
 have hlen := h.len
 have hst := h.store i j { j with phase := 4 } 0 (.int .i64 4) hj (by omega) rfl
 rw [Nat.add_zero] at hst
 have HS := Lib.hid hst
 clear h hst eg
 obtain ⟨wd, wl, ph, st, en⟩ := j
 simp only at r0 r1 r2
 have hL := leave_any base bi gl cl nodes jobs wall last now _ vh _ S E _ HS.out.1 ((i : Int) + 1)
 go_enter Tryz.func127, Tryz.ntmps127
 go_wp2_with (first | (go_at_call 98; refine hR.mono ?_; rintro e w1 ⟨rfl, hw⟩; subst w1) | (go_at_call 141; refine hL.mono ?_; rintro e w2 ⟨rfl, hC2, hT2⟩; refine Hid.out ?_))
 refine Lib.hid ?_
 go_wp2
 refine bodyPost_end (results_none Tryz.results127 _ _ _) rfl ⟨rfl, hC2, Trail.trans ⟨HS.out.2.wider (fun k e => ?_), fun k e => Or.inl e⟩ hT2⟩
 subst e
 exact Or.inr (Or.inl (by simp [Value.ownBlock]))

end Go.Proofs.YtpcgnadfldimhaaGreatDoor
