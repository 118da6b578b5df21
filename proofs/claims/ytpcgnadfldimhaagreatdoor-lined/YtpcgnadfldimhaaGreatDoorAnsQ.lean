/-
  PLAIN MATHEMATICS: what Do answers can be written as text.
-/
import Derived.Test.YtpcgnadfldimhaaGreatDoorAnsX
import Derived.Test.YtpcgnadfldimhaaGreatDoorKepA
namespace Go.Proofs.YtpcgnadfldimhaaGreatDoor

/-- Phases are phases. -/
def Phases (L : List Job) : Prop := ∀ j ∈ L, 1 ≤ j.phase ∧ j.phase ≤ 5
theorem Phases.map {L : List Job} (h : Phases L) (f : Job → Job) (hf : ∀ j, 1 ≤ j.phase ∧ j.phase ≤ 5 → 1 ≤ (f j).phase ∧ (f j).phase ≤ 5) : Phases (L.map f) := fun j hj => by
  obtain ⟨b, hb, rfl⟩ := List.mem_map.1 hj
  exact hf b (h b hb)
theorem Phases.set {L : List Job} (h : Phases L) (i : Nat) (j : Job) (hj : 1 ≤ j.phase ∧ j.phase ≤ 5) : Phases (L.set i j) := fun b hb => by
  rcases List.mem_or_eq_of_mem_set hb with e | e
  · exact h b e
  · exact e ▸ hj
theorem go_phase (t : Int) (j : Job) (h : 1 ≤ j.phase ∧ j.phase ≤ 5) : 1 ≤ (j.go t).phase ∧ (j.go t).phase ≤ 5 := by
  unfold Job.go
  split
  · simp
  · exact h
theorem halt_phase (t : Int) (j : Job) (h : 1 ≤ j.phase ∧ j.phase ≤ 5) : 1 ≤ (j.halt t).phase ∧ (j.halt t).phase ≤ 5 := by
  unfold Job.halt
  split
  · simp
  · exact h
theorem phases_goes {fin : Int} {L M : List Job} {es : List Ev} (hg : Goes fin L M es) (h : Phases L) : Phases M := by
  induction hg with
  | none => exact h
  | more _ _ ih => exact (ih.map _ (halt_phase _)).map _ (go_phase _)
theorem phases_turn {nodes now : Int} {L : List Job} (h : Phases L) (i : Nat) : Phases (turnL nodes now L i) := by
  unfold turnL
  split
  · rename_i j hj
    split
    · exact h.set i _ (h j (List.mem_of_getElem? hj))
    · exact h
  · exact h
theorem phases_round {nodes now : Int} {L : List Job} (h : Phases L) : ∀ k, Phases (roundL nodes now L k)
  | 0 => h
  | k + 1 => phases_turn (phases_round h k) k
theorem phases_rounds {nodes now : Int} {L M : List Job} {es : List Ev} (hr : Rounds nodes now L es M) : Phases L → Phases M := by
  induction hr with
  | done _ => exact id
  | more _ _ ih => exact fun h => ih (phases_round h _)
theorem phases_doE {nodes jobs wall last now k x y : Int} {L : List Job} {o : Out} (h : Phases L) (hD : DoE nodes jobs wall last now L k x y o) : Phases o.L := by
  rcases hD with (⟨_, rfl⟩ | ⟨_, ⟨_, rfl⟩ | ⟨_, ho⟩ | ⟨_, _, rfl⟩ | ⟨_, _, _, _, _, rfl⟩ | ⟨_, rfl⟩ | ⟨_, rfl⟩⟩) | ⟨_, _, ho⟩
  · exact h
  · unfold submitO
    split
    · exact h
    split
    · exact h
    split
    · exact h
    · refine Phases.map (L := L ++ [_]) (fun j hj => ?_) _ (go_phase _)
      rcases List.mem_append.1 hj with e | e
      · exact h j e
      · simp at e
        subst e
        simp
  · rcases ho with ⟨_, rfl⟩ | ⟨_, M, es, hg, _, rfl⟩
    · exact h
    · exact phases_goes hg h
  · exact h
  · exact h
  · exact h
  · exact h
  · rcases ho with ⟨_, rfl⟩ | ⟨i, j, _, hj, ⟨_, rfl⟩ | ⟨_, _, M, es, hr, rfl⟩⟩
    · exact h
    · exact h
    · refine Phases.map (phases_rounds hr (h.set i _ ?_)) _ (go_phase _)
      simp only [Job.early]
      split <;> simp

/-- Times of what is to come lie below a bound. -/
def BndA (T : Int) (L : List Job) : Prop := ∀ j ∈ L, j.active → 0 ≤ j.start ∧ j.start ≤ T ∧ 0 ≤ j.stop ∧ j.stop ≤ T ∧ 0 ≤ j.wall ∧ j.start + j.wall ≤ T
theorem BndA.set {T : Int} {L : List Job} (h : BndA T L) (i : Nat) (j : Job) (hj : j.active → 0 ≤ j.start ∧ j.start ≤ T ∧ 0 ≤ j.stop ∧ j.stop ≤ T ∧ 0 ≤ j.wall ∧ j.start + j.wall ≤ T) : BndA T (L.set i j) := fun b hb ha => by
  rcases List.mem_or_eq_of_mem_set hb with e | e
  · exact h b e ha
  · subst e; exact hj ha
theorem tale_evs {T src dst last : Int} {L M : List Job} {es : List Ev} (h : Tale src dst last L es M) : 0 ≤ src → BndA T L → ∀ e ∈ es, (1 ≤ e.id ∧ e.id ≤ (L.length : Int)) ∧ (0 ≤ e.time ∧ e.time ≤ T) ∧ (0 ≤ e.dest ∧ e.dest ≤ T ∨ e.dest = 0) ∧ 1 ≤ e.kind ∧ e.kind ≤ 3 := by
  induction h with
  | nil => intro _ _ e he; simp at he
  | @start _ L _ _ i j hj hp h1 h2 _ ih =>
    intro h0 hB e he
    have hb := hB j (List.mem_of_getElem? hj) (Or.inl hp)
    have hi := (List.getElem?_eq_some_iff.1 hj).1
    rcases List.mem_cons.1 he with rfl | he
    · exact ⟨⟨by simp; omega, by simp; omega⟩, ⟨hb.1, hb.2.1⟩, Or.inr rfl, by simp, by simp⟩
    · have := ih h0 (hB.set i _ (fun _ => hb)) e he
      simpa using this
  | @stop _ L _ _ i j hj hp hw h1 h2 _ ih =>
    intro h0 hB e he
    have hb := hB j (List.mem_of_getElem? hj) (Or.inr hp)
    have hi := (List.getElem?_eq_some_iff.1 hj).1
    rcases List.mem_cons.1 he with rfl | he
    · exact ⟨⟨by simp; omega, by simp; omega⟩, ⟨hb.2.2.1, hb.2.2.2.1⟩, Or.inr rfl, by simp, by simp⟩
    · have := ih h0 (hB.set i _ (fun ha => by rcases ha with e | e <;> simp at e)) e he
      simpa using this
  | @move _ L _ _ i j t hj hp h1 h2 _ ih =>
    intro h0 hB e he
    have hb := hB j (List.mem_of_getElem? hj) (Or.inl hp)
    have hi := (List.getElem?_eq_some_iff.1 hj).1
    rcases List.mem_cons.1 he with rfl | he
    · exact ⟨⟨by simp; omega, by simp; omega⟩, ⟨hb.1, hb.2.1⟩, Or.inl ⟨by show 0 ≤ t; omega, by show t ≤ T; omega⟩, by simp, by simp⟩
    · have := ih h0 (hB.set i _ (fun _ => by simp only [Job.moved]; omega)) e he
      simpa using this

theorem Good.bnd {nodes jobs wall last now : Int} {L : List Job} (h : Good nodes jobs wall last now L) : BndA 4611686018427387904 L := fun j hj ha => by
  obtain ⟨_, _, h1, h2, h3, h4, _, h5⟩ := h.each j hj
  have := h5 (active_live.1 ha)
  obtain ⟨_, _, _, _, _, _, _, c⟩ := h.conf
  omega
theorem queueN_mem (L : List Job) : ∀ (k : Nat) (r : RowV), r ∈ queueN L k → ∃ (i : Nat) (j : Job), i < k ∧ L[i]? = some j ∧ r = ⟨(i : Int) + 1, j.start, j.width, j.wall⟩
  | 0, r, h => by simp [queueN] at h
  | k + 1, r, h => by
    cases e : L[k]? with
    | none =>
      simp only [queueN, e] at h
      obtain ⟨i, j, h1, h2⟩ := queueN_mem L k r h
      exact ⟨i, j, by omega, h2⟩
    | some j =>
      rw [queueN_step L k j e] at h
      split at h
      · rcases List.mem_append.1 h with h | h
        · obtain ⟨i, j, h1, h2⟩ := queueN_mem L k r h
          exact ⟨i, j, by omega, h2⟩
        · simp at h
          exact ⟨k, j, by omega, e, h⟩
      · obtain ⟨i, j, h1, h2⟩ := queueN_mem L k r h
        exact ⟨i, j, by omega, h2⟩

theorem outOk_err {e now : Int} {L : List Job} (h : 0 ≤ e ∧ e ≤ 7) : OutOk ⟨e, 0, 0, 0, [], [], now, L⟩ :=
  ⟨h, by simp [NumOk], by simp [NumOk], by simp [NumOk], fun r hr => by simp at hr, fun e he => by simp at he⟩
theorem evs_ok {src dst last : Int} {L M : List Job} {es : List Ev} (h : Tale src dst last L es M) (h0 : 0 ≤ src) (hB : BndA 4611686018427387904 L) (hl : L.length < 2000000000) : ∀ e ∈ es, e.okT := fun e he => by
  obtain ⟨a, b, c, _⟩ := tale_evs h h0 hB e he
  unfold Ev.okT NumOk
  omega

/-- What Do answers can be written as text. -/
theorem doE_ok {nodes jobs wall last now k x y : Int} {L : List Job} {o : Out} (hG : Good nodes jobs wall last now L) (hp : Phases L) (hl : L.length < 1000000000) (hD : DoE nodes jobs wall last now L k x y o) : OutOk o := by
  have h0 := hG.now0
  have h1 := hG.now1
  have hc := hG.conf
  unfold ConfOk at hc
  have hz : 0 ≤ jobs * wall := Int.mul_nonneg (by omega) (by omega)
  have hD0 := hD
  rcases hD with (⟨_, rfl⟩ | ⟨_, ⟨_, rfl⟩ | ⟨_, ho⟩ | ⟨_, _, rfl⟩ | ⟨_, i, j, _, hj, rfl⟩ | ⟨_, rfl⟩ | ⟨_, rfl⟩⟩) | ⟨_, _, ho⟩
  · exact outOk_err (by omega)
  · unfold submitO
    split
    · exact outOk_err (by omega)
    split
    · exact outOk_err (by omega)
    split
    · exact outOk_err (by omega)
    · rename_i g1 g2 g3
      have e1 := (earliest_ge L nodes now x y (-1) hG.wide h0 (by omega) (by omega)).1
      have e2 : earliest L nodes now x y (-1) ≤ 4611686018427387904 - y := by
        rcases earliest_at L nodes now x y (-1) h0 with e | e | ⟨_, j, hj, hlv, e⟩
        · have : y ≤ jobs * wall := Int.le_trans (by omega : y ≤ 1 * wall) (Int.mul_le_mul_of_nonneg_right (by omega) (by omega))
          omega
        · omega
        · have a1 := hG.ends j hj hlv
          have a2 : wall * ((liveN L L.length : Int) + 1) ≤ wall * jobs := Int.mul_le_mul_of_nonneg_left (by omega) (by omega)
          rw [Int.mul_add, Int.mul_one] at a2
          have a3 : jobs * wall = wall * jobs := Int.mul_comm _ _
          omega
      have hB : BndA 4611686018427387904 (L ++ [⟨x, y, 1, earliest L nodes now x y (-1), earliest L nodes now x y (-1) + y⟩]) := fun j hj ha => by
        rcases List.mem_append.1 hj with e | e
        · exact hG.bnd j e ha
        · simp at e
          subst e
          simp only
          omega
      refine ⟨by simp, ⟨by simp; omega, by simp; omega⟩, ⟨by simp only; omega, by simp only; omega⟩, by simp [NumOk], fun r hr => by simp at hr, ?_⟩
      exact evs_ok (starts_tale (src := now) (Int.le_refl now)) h0 hB (by simp; omega)
  · rcases ho with ⟨_, rfl⟩ | ho
    · exact outOk_err (by omega)
    · have hle : now + x ≤ last := ho.1
      obtain ⟨e1, e2, e3⟩ := tick_tale hG (Or.inr ho) hle now
      obtain ⟨_, M, es, _, _, rfl⟩ := ho
      exact ⟨by simp, by simp [NumOk], by simp [NumOk], by simp [NumOk], fun r hr => by simp at hr, evs_ok e3 h0 hG.bnd (by omega)⟩
  · exact outOk_err (by omega)
  · have hm := List.mem_of_getElem? hj
    obtain ⟨_, _, a1, a2, a3, _⟩ := hG.each j hm
    have := hp j hm
    exact ⟨by simp, ⟨by simp only; omega, by simp only; omega⟩, ⟨a1, by simp only; omega⟩, ⟨by simp only; omega, by simp only; omega⟩, fun r hr => by simp at hr, fun e he => by simp at he⟩
  · refine ⟨by simp, by simp [NumOk], by simp [NumOk], by simp [NumOk], fun r hr => ?_, fun e he => by simp at he⟩
    obtain ⟨i, j, hi, hj, rfl⟩ := queueN_mem L _ r hr
    obtain ⟨b1, b2, a1, a2, a3, a4, a5, _⟩ := hG.each j (List.mem_of_getElem? hj)
    unfold RowV.ok NumOk
    simp only
    omega
  · have b := free_pos hG
    have b2 : freeN L nodes L.length ≤ nodes := by
      have := free_used hG L.length (Nat.le_refl _)
      have h3 := usedN_le L now (-1) (fun j hj => ⟨(hG.each j hj).1, by have := (hG.each j hj).2.1; omega⟩) L.length
      omega
    have b3 := liveN_le L L.length
    exact ⟨by simp, ⟨h0, by simp only; omega⟩, ⟨b, by simp only; omega⟩, ⟨by simp, by simp only; omega⟩, fun r hr => by simp at hr, fun e he => by simp at he⟩
  · rcases ho with ⟨_, rfl⟩ | ⟨i, j, _, hj, ⟨_, rfl⟩ | ⟨hlv, _, M, es, hr, rfl⟩⟩
    · exact outOk_err (by omega)
    · exact outOk_err (by omega)
    · have ht := end_tale hG hj hlv (ph := if k = 3 then 3 else 5) (by split <;> omega) hr
      refine ⟨by simp, by simp [NumOk], by simp [NumOk], by simp [NumOk], fun r hr => by simp at hr, evs_ok ht h0 (hG.bnd.set i _ (fun ha => ?_)) (by simp; omega)⟩
      rcases ha with e | e <;> simp only [Job.early] at e <;> split at e <;> omega

end Go.Proofs.YtpcgnadfldimhaaGreatDoor
