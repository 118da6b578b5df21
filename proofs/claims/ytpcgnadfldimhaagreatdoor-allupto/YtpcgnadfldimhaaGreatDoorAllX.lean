/-
 PLAIN MATHEMATICS: what is told of jobs, event by event; what is known of them by that.
-/
import Derived.Test.YtpcgnadfldimhaaGreatDoorSchB
import Derived.Test.YtpcgnadfldimhaaGreatDoorAnsX
import Derived.Test.YtpcgnadfldimhaaGreatDoorBerY
import Derived.Test.YtpcgnadfldimhaaGreatDoorCmd
import Derived.Test.YtpcgnadfldimhaaGreatDoorBerZ
import Derived.Test.YtpcgnadfldimhaaGreatDoorRefR
import Derived.Test.YtpcgnadfldimhaaGreatDoorRefQ
import Derived.Test.YtpcgnadfldimhaaGreatDoorRefZZ
import Derived.Deep.CutBlock
import Derived.Test.YtpcgnadfldimhaaGreatDoorLawBB
import Derived.Test.YtpcgnadfldimhaaGreatDoorEnvOf
namespace Go.Proofs.YtpcgnadfldimhaaGreatDoor

/-- What is told, one behind the other: jobs start at their time, end at their time, move to an earlier one. -/
inductive Tale (src dst : Int) : Int → List Job → List Ev → List Job → Prop
 | nil {last : Int} {L : List Job} : Tale src dst last L [] L
 | start {last : Int} {L M : List Job} {es : List Ev} {i : Nat} {j : Job} (hj : L[i]? = some j) (hp : j.phase = 1) (h1 : last ≤ j.start) (h2 : j.start ≤ dst) (h : Tale src dst j.start (L.set i { j with phase := 2 }) es M) : Tale src dst last L (⟨1, (i : Int) + 1, j.start, 0⟩ :: es) M
 | stop {last : Int} {L M : List Job} {es : List Ev} {i : Nat} {j : Job} (hj : L[i]? = some j) (hp : j.phase = 2) (hw : j.start + j.wall = j.stop) (h1 : last ≤ j.stop) (h2 : j.stop ≤ dst) (h : Tale src dst j.stop (L.set i { j with phase := 4 }) es M) : Tale src dst last L (⟨2, (i : Int) + 1, j.stop, 0⟩ :: es) M
 | move {last : Int} {L M : List Job} {es : List Ev} {i : Nat} {j : Job} {t : Int} (hj : L[i]? = some j) (hp : j.phase = 1) (h1 : src ≤ t) (h2 : t < j.start) (h : Tale src dst last (L.set i (j.moved t)) es M) : Tale src dst last L (⟨3, (i : Int) + 1, j.start, t⟩ :: es) M

theorem start_tale {src dst now : Int} {L N : List Job} {ds : List Ev} (hd : now ≤ dst) : ∀ k, k ≤ L.length → Tale src dst now (startL L now k) ds N → Tale src dst now L (startE L now k ++ ds) N
 | 0, _, h => by rw [startL_zero] at h; simpa [startE] using h
 | k + 1, hk, h => by
  obtain ⟨j, hj⟩ : ∃ j, L[k]? = some j := ⟨_, List.getElem?_eq_getElem (by omega)⟩
  rw [startL_step L now k j hj] at h
  rw [startE_step L now k j hj]
  have ej : (startL L now k)[k]? = some j := (startL_at L now k).trans hj
  by_cases hp : j.phase = 1 ∧ j.start = now
  ·rw [if_pos hp, List.append_assoc]
   refine start_tale hd k (by omega) ?_
   rw [Job.go, if_pos hp] at h
   have h' : Tale src dst j.start ((startL L now k).set k { j with phase := 2 }) ds N := Eq.mpr (congrArg (fun z => Tale src dst z ((startL L now k).set k { j with phase := 2 }) ds N) hp.2) h
   have e := Tale.start (src := src) (dst := dst) (last := now) ej hp.1 (by omega) (by omega) h'
   rw [hp.2] at e
   exact e
  ·rw [if_neg hp]
   refine start_tale hd k (by omega) ?_
   rw [Job.go, if_neg hp] at h
   have e : (startL L now k).set k j = startL L now k := by
    apply List.ext_getElem?
    intro i
    rw [List.getElem?_set]
    split
    ·rename_i e; subst e
     split
     ·exact ej.symm
     ·rename_i e2
      exact absurd (List.getElem?_eq_some_iff.1 ej).1 e2
    ·rfl
   rw [e] at h
   exact h

theorem starts_tale {src dst now : Int} {L : List Job} (hd : now ≤ dst) : Tale src dst now L (startE L now L.length) (L.map (Job.go now)) := by
 have e : startL L now L.length = L.map (Job.go now) := by
  apply List.ext_getElem?
  intro i
  simp only [startL, List.getElem?_mapIdx, List.getElem?_map]
  cases h : L[i]? with
  | none => rfl
  | some j => simp [(List.getElem?_eq_some_iff.1 h).1]
 have := start_tale (L := L) (N := L.map (Job.go now)) (ds := []) (src := src) hd L.length (Nat.le_refl _) (by rw [e]; exact Tale.nil)
 simpa using this

theorem turn_tale {nodes now dst last : Int} {L N : List Job} {ds : List Ev} (hF : Fine nodes now L) (i : Nat) (h : Tale now dst last (turnL nodes now L i) ds N) : Tale now dst last L (turnE nodes now L i ++ ds) N := by
 unfold turnL at h
 unfold turnE
 cases e : L[i]? with
 | none => rw [e] at h; simpa using h
 | some j =>
  rw [e] at h
  simp only at h ⊢
  by_cases hc : j.phase = 1 ∧ earliest L nodes now j.width j.wall i < j.start
  ·rw [if_pos hc] at h ⊢
   have hm := List.mem_of_getElem? e
   have hE := hF.each j hm
   have hw : 1 ≤ j.wall := by
    rcases hE with hE | hE
    ·exact hE.2.1
    ·exact absurd hc.1 hE.1
   exact Tale.move e hc.1 (earliest_ge L nodes now j.width j.wall i hF.wide hF.now0 hw (hF.thin j hm)).1 hc.2 h
  ·rw [if_neg hc] at h ⊢
   exact h

theorem round_tale {nodes now dst last : Int} {L N : List Job} (hF : Fine nodes now L) : ∀ k (ds : List Ev), Tale now dst last (roundL nodes now L k) ds N → Tale now dst last L (roundE nodes now L k ++ ds) N
 | 0, ds, h => by simpa [roundL, roundE] using h
 | k + 1, ds, h => by
  rw [roundE, List.append_assoc]
  exact round_tale hF k _ (turn_tale (fine_round hF k).1 k h)

theorem rounds_tale {nodes now dst last : Int} {L M N : List Job} {es ds : List Ev} (hr : Rounds nodes now L es M) : Fine nodes now L → Tale now dst last M ds N → Tale now dst last L (es ++ ds) N := by
 induction hr with
 | done _ => intro _ h; exact h
 | more _ _ ih =>
  intro hF h
  rw [List.append_assoc]
  exact round_tale hF _ _ (ih (fine_round hF _).1 h)

theorem runs_tale {src fin : Int} {L M : List Job} {es : List Ev} (hr : Runs fin L es M) : ∀ last, (∀ j ∈ L, j.active → last ≤ j.due) → (∀ j ∈ L, j.active → j.start ≤ j.stop ∧ j.start + j.wall = j.stop) → Tale src fin last L es M := by
 induction hr with
 | done _ => intro last _ _; exact Tale.nil
 | @step L M es i j hl hf _ ih =>
  intro last h1 h2
  obtain ⟨hj, ha, hb⟩ := hl
  have hm := List.mem_of_getElem? hj
  have hd := h1 j hm ha
  have hw := h2 j hm ha
  have hrest : ∀ b ∈ L.set i j.fire, b.active → j.due ≤ b.due := fun b hb' hba => by
   obtain ⟨k, hk⟩ := List.mem_iff_getElem?.1 hb'
   rw [List.getElem?_set] at hk
   split at hk
   ·split at hk
    ·simp at hk
     subst hk
     unfold Job.fire at hba ⊢
     by_cases hp : j.phase = 1
     ·rw [if_pos hp]
      simp [Job.due, hp]
      omega
     ·rw [if_neg hp] at hba
      rcases hba with e | e <;> simp at e
    ·simp at hk
   ·rename_i hne
    rcases hb k b hk hba with e | e
    ·exact absurd e.symm hne
    ·rcases e with e | e <;> omega
  have hall : ∀ b ∈ L.set i j.fire, b.active → b.start ≤ b.stop ∧ b.start + b.wall = b.stop := fun b hb' hba => by
   rcases List.mem_or_eq_of_mem_set hb' with e | e
   ·exact h2 b e hba
   ·subst e
    unfold Job.fire at hba ⊢
    split
    ·exact hw
    ·exact hw
  rcases ha with hp | hp
  ·have e1 : j.event i = ⟨1, (i : Int) + 1, j.start, 0⟩ := by simp [Job.event, Job.due, hp]
   have e2 : j.fire = { j with phase := 2 } := by simp [Job.fire, hp]
   have e3 : j.due = j.start := by simp [Job.due, hp]
   rw [e1]
   rw [e2] at ih
   rw [e2, e3] at hrest
   rw [e2] at hall
   exact Tale.start hj hp (by omega) (by omega) (ih _ hrest hall)
  ·have e1 : j.event i = ⟨2, (i : Int) + 1, j.stop, 0⟩ := by simp [Job.event, Job.due, hp]
   have e2 : j.fire = { j with phase := 4 } := by simp [Job.fire, hp]
   have e3 : j.due = j.stop := by simp [Job.due, hp]
   rw [e1]
   rw [e2] at ih
   rw [e2, e3] at hrest
   rw [e2] at hall
   exact Tale.stop hj hp hw.2 (by omega) (by omega) (ih _ hrest hall)

/-- What is known of a job by what was told. -/
structure Kj where
 width : Int
 wall : Int
 promise : Int
 started : Int
 over : Bool

/-- What is known of one is so. -/
def Knows (k : Kj) (j : Job) : Prop :=
 k.width = j.width ∧ k.wall = j.wall ∧ 0 ≤ j.start ∧ 1 ≤ j.phase ∧ j.phase ≤ 5 ∧ (j.phase = 1 → k.promise = j.start ∧ k.started = -1 ∧ k.over = false) ∧ (j.phase = 2 → k.promise = j.start ∧ k.started = j.start ∧ k.over = false) ∧ (j.live = false → k.over = true ∧ -1 ≤ k.started ∧ (0 ≤ k.started → k.started = j.start)) ∧ j.start ≤ 1000000000000000 ∧ 1 ≤ j.wall ∧ j.wall ≤ 1000000000
structure Told (K : List Kj) (L : List Job) : Prop where
 len : K.length = L.length
 each : ∀ (i : Nat) (k : Kj) (j : Job), K[i]? = some k → L[i]? = some j → Knows k j

theorem Told.set {K : List Kj} {L : List Job} (h : Told K L) (i : Nat) (k : Kj) (j : Job) (hk : Knows k j) : Told (K.set i k) (L.set i j) where
 len := by simp [h.len]
 each := fun n a b ha hb => by
  rw [List.getElem?_set] at ha hb
  by_cases e : i = n
  ·rw [if_pos e] at ha hb
   split at ha
   ·split at hb
    ·simp at ha hb
     subst ha hb
     exact hk
    ·simp at hb
   ·simp at ha
  ·rw [if_neg e] at ha hb
   exact h.each n a b ha hb
theorem Told.append {K : List Kj} {L : List Job} (h : Told K L) (k : Kj) (j : Job) (hk : Knows k j) : Told (K ++ [k]) (L ++ [j]) where
 len := by simp [h.len]
 each := fun n a b ha hb => by
  have hl := h.len
  rcases Nat.lt_or_ge n K.length with e | e
  ·rw [List.getElem?_append_left e] at ha
   rw [List.getElem?_append_left (by omega)] at hb
   exact h.each n a b ha hb
  ·rw [List.getElem?_append_right e] at ha
   rw [List.getElem?_append_right (by omega)] at hb
   have e2 : n - K.length = 0 := by
    have := (List.getElem?_eq_some_iff.1 ha).1
    simp at this
    omega
   rw [e2] at ha
   rw [show n - L.length = 0 by omega] at hb
   simp at ha hb
   subst ha hb
   exact hk
theorem Told.at {K : List Kj} {L : List Job} (h : Told K L) {i : Nat} {j : Job} (hj : L[i]? = some j) : ∃ k, K[i]? = some k ∧ Knows k j := by
 have hi := (List.getElem?_eq_some_iff.1 hj).1
 have hl := h.len
 obtain ⟨k, hk⟩ : ∃ k, K[i]? = some k := ⟨_, List.getElem?_eq_getElem (by omega)⟩
 exact ⟨k, hk, h.each i k j hk hj⟩

theorem Knows.go {k : Kj} {j : Job} (h : Knows k j) (hp : j.phase = 1) : Knows { k with started := j.start } { j with phase := 2 } := by
 obtain ⟨h1, h2, h3, _, _, h6, _, _, h9⟩ := h
 have := h6 hp
 exact ⟨h1, h2, h3, by simp, by simp, fun e => by simp at e, fun _ => ⟨this.1, rfl, this.2.2⟩, fun e => by simp [Job.live, liveB] at e, h9⟩
theorem Knows.end {k : Kj} {j : Job} (h : Knows k j) (hp : j.phase = 2) : Knows { k with over := true } { j with phase := 4 } := by
 obtain ⟨h1, h2, h3, _, _, _, h7, _, h9⟩ := h
 have := h7 hp
 exact ⟨h1, h2, h3, by simp, by simp, fun e => by simp at e, fun e => by simp at e, fun _ => ⟨rfl, by show -1 ≤ k.started; omega, fun _ => this.2.1⟩, h9⟩
theorem Knows.move {k : Kj} {j : Job} (h : Knows k j) (hp : j.phase = 1) {t : Int} (ht : 0 ≤ t) (ht2 : t < j.start) : Knows { k with promise := t } (j.moved t) := by
 obtain ⟨h1, h2, h3, h4, h5, h6, _, _, h9, h10⟩ := h
 have := h6 hp
 exact ⟨h1, h2, ht, h4, h5, fun _ => ⟨rfl, this.2.1, this.2.2⟩, fun e => by simp [Job.moved, hp] at e, fun e => by simp [Job.moved, Job.live, liveB, hp] at e, by show t ≤ _; omega, h10⟩
theorem Knows.early {k : Kj} {j : Job} (h : Knows k j) (hl : j.live = true) {now ph : Int} (h0 : 0 ≤ now) (h00 : now ≤ 1000000000000000) (hp : ph = 3 ∨ ph = 5) : Knows { k with over := true } (j.early now ph) := by
 obtain ⟨h1, h2, h3, h4, h5, h6, h7, _, h9, h10⟩ := h
 refine ⟨h1, h2, ?_, ?_, ?_, fun e => ?_, fun e => ?_, fun _ => ⟨rfl, ?_, fun e => ?_⟩, ?_, h10⟩
 ·simp only [Job.early]; split <;> omega
 ·simp only [Job.early]; omega
 ·simp only [Job.early]; omega
 ·simp only [Job.early] at e; omega
 ·simp only [Job.early] at e; omega
 ·rcases active_live.2 hl with e | e
  ·have := h6 e; show -1 ≤ k.started; omega
  ·have := h7 e; show -1 ≤ k.started; omega
 ·have e' : 0 ≤ k.started := e
  rcases active_live.2 hl with e2 | e2
  ·have := h6 e2; omega
  ·have := h7 e2
   simp only [Job.early, e2]
   exact this.2.1
 ·simp only [Job.early]; split <;> omega

/-- Time that goes on: what is told of it. -/
theorem tick_tale {nodes jobs wall last now n : Int} {L : List Job} {o : Out} (h : Good nodes jobs wall last now L) (ho : TickO last now L n o) (hn : now + n ≤ last) (src : Int) : o.err = 0 ∧ o.now = now + n ∧ Tale src (now + n) now L o.evs o.L := by
 rcases ho with ⟨h1, _⟩ | ⟨_, M, es, hg, hq, rfl⟩
 ·omega
 ·refine ⟨rfl, rfl, runs_tale (goes_runs hg h.sane hq) now (fun j hj ha => ?_) (fun j hj ha => ?_)⟩
  ·have := h.phased j hj
   rcases ha with e | e
   ·have := this.1 e
    simp [Job.due, e]; omega
   ·have := this.2 e
    simp [Job.due, e]; omega
  ·have := h.each j hj
   have e := this.2.2.2.2.2.2.2 (active_live.1 ha)
   omega

/-- A job that ends ahead of its time: what is told of it. -/
theorem end_tale {nodes jobs wall last now ph : Int} {L M : List Job} {es : List Ev} {i : Nat} {j : Job} (h : Good nodes jobs wall last now L) (hj : L[i]? = some j) (hl : j.live = true) (hp : ph ≠ 1 ∧ ph ≠ 2) (hr : Rounds nodes now (L.set i (j.early now ph)) es M) : Tale now now now (L.set i (j.early now ph)) (es ++ startE M now M.length) (M.map (Job.go now)) :=
 rounds_tale hr ((calm_early h hj hl hp).fine h.now0) (starts_tale (Int.le_refl _))

theorem free_used {nodes jobs wall last now : Int} {L : List Job} (h : Good nodes jobs wall last now L) : ∀ k, k ≤ L.length → freeN L nodes k = nodes - usedN L now (-1) k
 | 0, _ => by simp [freeN, usedN]
 | k + 1, hk => by
  have ih := free_used h k (by omega)
  obtain ⟨j, hj⟩ : ∃ j, L[k]? = some j := ⟨_, List.getElem?_eq_getElem (by omega)⟩
  rw [freeN_step L nodes k j hj, usedN_step L now (-1) k j hj, ih]
  have hp := h.phased j (List.mem_of_getElem? hj)
  have e : j.onAt now (-1) k = true ↔ j.phase = 2 := by
   simp only [Job.onAt, Job.live, liveB, Bool.and_eq_true, decide_eq_true_eq]
   constructor
   ·rintro ⟨⟨⟨o1, _⟩, o3⟩, _⟩
    rcases o1 with e | e
    ·have := hp.1 e
     omega
    ·exact e
   ·intro e
    have := hp.2 e
    exact ⟨⟨⟨Or.inr e, by omega⟩, this.1⟩, this.2⟩
  by_cases hc : j.phase = 2
  ·rw [if_pos hc, if_pos (e.2 hc)]; omega
  ·rw [if_neg hc, if_neg (fun h => hc (e.1 h))]
theorem free_pos {nodes jobs wall last now : Int} {L : List Job} (h : Good nodes jobs wall last now L) : 0 ≤ freeN L nodes L.length := by
 have := free_used h L.length (Nat.le_refl _)
 have := h.fits now (Int.le_refl _)
 unfold used at this
 omega

end Go.Proofs.YtpcgnadfldimhaaGreatDoor
namespace Go.Proofs.YtpcgnadfldimhaaGreatDoor

/-- Phases are phases. -/
def Phases (L : List Job) : Prop := ∀ j ∈ L, 1 ≤ j.phase ∧ j.phase ≤ 5
theorem Phases.map {L : List Job} (h : Phases L) (f : Job → Job) (hf : ∀ j, 1 ≤ j.phase ∧ j.phase ≤ 5 → 1 ≤ (f j).phase ∧ (f j).phase ≤ 5) : Phases (L.map f) := fun j hj => by
 obtain ⟨b, hb, rfl⟩ := List.mem_map.1 hj
 exact hf b (h b hb)
theorem Phases.set {L : List Job} (h : Phases L) (i : Nat) (j : Job) (hj : 1 ≤ j.phase ∧ j.phase ≤ 5) : Phases (L.set i j) := fun b hb => by
 rcases List.mem_or_eq_of_mem_set hb with e | e
 ·exact h b e
 ·exact e ▸ hj
theorem go_phase (t : Int) (j : Job) (h : 1 ≤ j.phase ∧ j.phase ≤ 5) : 1 ≤ (j.go t).phase ∧ (j.go t).phase ≤ 5 := by
 unfold Job.go
 split
 ·simp
 ·exact h
theorem halt_phase (t : Int) (j : Job) (h : 1 ≤ j.phase ∧ j.phase ≤ 5) : 1 ≤ (j.halt t).phase ∧ (j.halt t).phase ≤ 5 := by
 unfold Job.halt
 split
 ·simp
 ·exact h
theorem phases_goes {fin : Int} {L M : List Job} {es : List Ev} (hg : Goes fin L M es) (h : Phases L) : Phases M := by
 induction hg with
 | none => exact h
 | more _ _ ih => exact (ih.map _ (halt_phase _)).map _ (go_phase _)
theorem phases_turn {nodes now : Int} {L : List Job} (h : Phases L) (i : Nat) : Phases (turnL nodes now L i) := by
 unfold turnL
 split
 ·rename_i j hj
  split
  ·exact h.set i _ (h j (List.mem_of_getElem? hj))
  ·exact h
 ·exact h
theorem phases_round {nodes now : Int} {L : List Job} (h : Phases L) : ∀ k, Phases (roundL nodes now L k)
 | 0 => h
 | k + 1 => phases_turn (phases_round h k) k
theorem phases_rounds {nodes now : Int} {L M : List Job} {es : List Ev} (hr : Rounds nodes now L es M) : Phases L → Phases M := by
 induction hr with
 | done _ => exact id
 | more _ _ ih => exact fun h => ih (phases_round h _)
theorem phases_doE {nodes jobs wall last now k x y : Int} {L : List Job} {o : Out} (h : Phases L) (hD : DoE nodes jobs wall last now L k x y o) : Phases o.L := by
 rcases hD with (⟨_, rfl⟩ | ⟨_, ⟨_, rfl⟩ | ⟨_, ho⟩ | ⟨_, _, rfl⟩ | ⟨_, _, _, _, _, rfl⟩ | ⟨_, rfl⟩ | ⟨_, rfl⟩⟩) | ⟨_, _, ho⟩
 ·exact h
 ·unfold submitO
  split
  ·exact h
  split
  ·exact h
  split
  ·exact h
  ·refine Phases.map (L := L ++ [_]) (fun j hj => ?_) _ (go_phase _)
   rcases List.mem_append.1 hj with e | e
   ·exact h j e
   ·simp at e
    subst e
    simp
 ·rcases ho with ⟨_, rfl⟩ | ⟨_, M, es, hg, _, rfl⟩
  ·exact h
  ·exact phases_goes hg h
 ·exact h
 ·exact h
 ·exact h
 ·exact h
 ·rcases ho with ⟨_, rfl⟩ | ⟨i, j, _, hj, ⟨_, rfl⟩ | ⟨_, _, M, es, hr, rfl⟩⟩
  ·exact h
  ·exact h
  ·refine Phases.map (phases_rounds hr (h.set i _ ?_)) _ (go_phase _)
   simp only [Job.early]
   split <;> simp

/-- Times of what is to come lie below a bound. -/
def BndA (T : Int) (L : List Job) : Prop := ∀ j ∈ L, j.active → 0 ≤ j.start ∧ j.start ≤ T ∧ 0 ≤ j.stop ∧ j.stop ≤ T ∧ 0 ≤ j.wall ∧ j.start + j.wall ≤ T
theorem BndA.set {T : Int} {L : List Job} (h : BndA T L) (i : Nat) (j : Job) (hj : j.active → 0 ≤ j.start ∧ j.start ≤ T ∧ 0 ≤ j.stop ∧ j.stop ≤ T ∧ 0 ≤ j.wall ∧ j.start + j.wall ≤ T) : BndA T (L.set i j) := fun b hb ha => by
 rcases List.mem_or_eq_of_mem_set hb with e | e
 ·exact h b e ha
 ·subst e; exact hj ha
theorem tale_evs {T src dst last : Int} {L M : List Job} {es : List Ev} (h : Tale src dst last L es M) : 0 ≤ src → BndA T L → ∀ e ∈ es, (1 ≤ e.id ∧ e.id ≤ (L.length : Int)) ∧ (0 ≤ e.time ∧ e.time ≤ T) ∧ (0 ≤ e.dest ∧ e.dest ≤ T ∨ e.dest = 0) ∧ 1 ≤ e.kind ∧ e.kind ≤ 3 := by
 induction h with
 | nil => intro _ _ e he; simp at he
 | @start _ L _ _ i j hj hp h1 h2 _ ih =>
  intro h0 hB e he
  have hb := hB j (List.mem_of_getElem? hj) (Or.inl hp)
  have hi := (List.getElem?_eq_some_iff.1 hj).1
  rcases List.mem_cons.1 he with rfl | he
  ·exact ⟨⟨by simp; omega, by simp; omega⟩, ⟨hb.1, hb.2.1⟩, Or.inr rfl, by simp, by simp⟩
  ·have := ih h0 (hB.set i _ (fun _ => hb)) e he
   simpa using this
 | @stop _ L _ _ i j hj hp hw h1 h2 _ ih =>
  intro h0 hB e he
  have hb := hB j (List.mem_of_getElem? hj) (Or.inr hp)
  have hi := (List.getElem?_eq_some_iff.1 hj).1
  rcases List.mem_cons.1 he with rfl | he
  ·exact ⟨⟨by simp; omega, by simp; omega⟩, ⟨hb.2.2.1, hb.2.2.2.1⟩, Or.inr rfl, by simp, by simp⟩
  ·have := ih h0 (hB.set i _ (fun ha => by rcases ha with e | e <;> simp at e)) e he
   simpa using this
 | @move _ L _ _ i j t hj hp h1 h2 _ ih =>
  intro h0 hB e he
  have hb := hB j (List.mem_of_getElem? hj) (Or.inl hp)
  have hi := (List.getElem?_eq_some_iff.1 hj).1
  rcases List.mem_cons.1 he with rfl | he
  ·exact ⟨⟨by simp; omega, by simp; omega⟩, ⟨hb.1, hb.2.1⟩, Or.inl ⟨by show 0 ≤ t; omega, by show t ≤ T; omega⟩, by simp, by simp⟩
  ·have := ih h0 (hB.set i _ (fun _ => by simp only [Job.moved]; omega)) e he
   simpa using this

theorem Good.bnd {nodes jobs wall last now : Int} {L : List Job} (h : Good nodes jobs wall last now L) : BndA 4611686018427387904 L := fun j hj ha => by
 obtain ⟨_, _, h1, h2, h3, h4, _, h5⟩ := h.each j hj
 have := h5 (active_live.1 ha)
 obtain ⟨_, _, _, _, _, _, _, c⟩ := h.conf
 omega
theorem queueN_mem (L : List Job) : ∀ (k : Nat) (r : RowV), r ∈ queueN L k → ∃ (i : Nat) (j : Job), i < k ∧ L[i]? = some j ∧ r = ⟨(i : Int) + 1, j.start, j.width, j.wall⟩
 | 0, r, h => by simp [queueN] at h
 | k + 1, r, h => by
  cases e : L[k]? with
  | none =>
   simp only [queueN, e] at h
   obtain ⟨i, j, h1, h2⟩ := queueN_mem L k r h
   exact ⟨i, j, by omega, h2⟩
  | some j =>
   rw [queueN_step L k j e] at h
   split at h
   ·rcases List.mem_append.1 h with h | h
    ·obtain ⟨i, j, h1, h2⟩ := queueN_mem L k r h
     exact ⟨i, j, by omega, h2⟩
    ·simp at h
     exact ⟨k, j, by omega, e, h⟩
   ·obtain ⟨i, j, h1, h2⟩ := queueN_mem L k r h
    exact ⟨i, j, by omega, h2⟩

theorem outOk_err {e now : Int} {L : List Job} (h : 0 ≤ e ∧ e ≤ 7) : OutOk ⟨e, 0, 0, 0, [], [], now, L⟩ :=
 ⟨h, by simp [NumOk], by simp [NumOk], by simp [NumOk], fun r hr => by simp at hr, fun e he => by simp at he⟩
theorem evs_ok {src dst last : Int} {L M : List Job} {es : List Ev} (h : Tale src dst last L es M) (h0 : 0 ≤ src) (hB : BndA 4611686018427387904 L) (hl : L.length < 2000000000) : ∀ e ∈ es, e.okT := fun e he => by
 obtain ⟨a, b, c, _⟩ := tale_evs h h0 hB e he
 unfold Ev.okT NumOk
 omega

/-- What Do answers can be written as text. -/
theorem doE_ok {nodes jobs wall last now k x y : Int} {L : List Job} {o : Out} (hG : Good nodes jobs wall last now L) (hp : Phases L) (hl : L.length < 1000000000) (hD : DoE nodes jobs wall last now L k x y o) : OutOk o := by
 have h0 := hG.now0
 have h1 := hG.now1
 have hc := hG.conf
 unfold ConfOk at hc
 have hz : 0 ≤ jobs * wall := Int.mul_nonneg (by omega) (by omega)
 have hD0 := hD
 rcases hD with (⟨_, rfl⟩ | ⟨_, ⟨_, rfl⟩ | ⟨_, ho⟩ | ⟨_, _, rfl⟩ | ⟨_, i, j, _, hj, rfl⟩ | ⟨_, rfl⟩ | ⟨_, rfl⟩⟩) | ⟨_, _, ho⟩
 ·exact outOk_err (by omega)
 ·unfold submitO
  split
  ·exact outOk_err (by omega)
  split
  ·exact outOk_err (by omega)
  split
  ·exact outOk_err (by omega)
  ·rename_i g1 g2 g3
   have e1 := (earliest_ge L nodes now x y (-1) hG.wide h0 (by omega) (by omega)).1
   have e2 : earliest L nodes now x y (-1) ≤ 4611686018427387904 - y := by
    rcases earliest_at L nodes now x y (-1) h0 with e | e | ⟨_, j, hj, hlv, e⟩
    ·have : y ≤ jobs * wall := Int.le_trans (by omega : y ≤ 1 * wall) (Int.mul_le_mul_of_nonneg_right (by omega) (by omega))
     omega
    ·omega
    ·have a1 := hG.ends j hj hlv
     have a2 : wall * ((liveN L L.length : Int) + 1) ≤ wall * jobs := Int.mul_le_mul_of_nonneg_left (by omega) (by omega)
     rw [Int.mul_add, Int.mul_one] at a2
     have a3 : jobs * wall = wall * jobs := Int.mul_comm _ _
     omega
   have hB : BndA 4611686018427387904 (L ++ [⟨x, y, 1, earliest L nodes now x y (-1), earliest L nodes now x y (-1) + y⟩]) := fun j hj ha => by
    rcases List.mem_append.1 hj with e | e
    ·exact hG.bnd j e ha
    ·simp at e
     subst e
     simp only
     omega
   refine ⟨by simp, ⟨by simp; omega, by simp; omega⟩, ⟨by simp only; omega, by simp only; omega⟩, by simp [NumOk], fun r hr => by simp at hr, ?_⟩
   exact evs_ok (starts_tale (src := now) (Int.le_refl now)) h0 hB (by simp; omega)
 ·rcases ho with ⟨_, rfl⟩ | ho
  ·exact outOk_err (by omega)
  ·have hle : now + x ≤ last := ho.1
   obtain ⟨e1, e2, e3⟩ := tick_tale hG (Or.inr ho) hle now
   obtain ⟨_, M, es, _, _, rfl⟩ := ho
   exact ⟨by simp, by simp [NumOk], by simp [NumOk], by simp [NumOk], fun r hr => by simp at hr, evs_ok e3 h0 hG.bnd (by omega)⟩
 ·exact outOk_err (by omega)
 ·have hm := List.mem_of_getElem? hj
  obtain ⟨_, _, a1, a2, a3, _⟩ := hG.each j hm
  have := hp j hm
  exact ⟨by simp, ⟨by simp only; omega, by simp only; omega⟩, ⟨a1, by simp only; omega⟩, ⟨by simp only; omega, by simp only; omega⟩, fun r hr => by simp at hr, fun e he => by simp at he⟩
 ·refine ⟨by simp, by simp [NumOk], by simp [NumOk], by simp [NumOk], fun r hr => ?_, fun e he => by simp at he⟩
  obtain ⟨i, j, hi, hj, rfl⟩ := queueN_mem L _ r hr
  obtain ⟨b1, b2, a1, a2, a3, a4, a5, _⟩ := hG.each j (List.mem_of_getElem? hj)
  unfold RowV.ok NumOk
  simp only
  omega
 ·have b := free_pos hG
  have b2 : freeN L nodes L.length ≤ nodes := by
   have := free_used hG L.length (Nat.le_refl _)
   have h3 := usedN_le L now (-1) (fun j hj => ⟨(hG.each j hj).1, by have := (hG.each j hj).2.1; omega⟩) L.length
   omega
  have b3 := liveN_le L L.length
  exact ⟨by simp, ⟨h0, by simp only; omega⟩, ⟨b, by simp only; omega⟩, ⟨by simp, by simp only; omega⟩, fun r hr => by simp at hr, fun e he => by simp at he⟩
 ·rcases ho with ⟨_, rfl⟩ | ⟨i, j, _, hj, ⟨_, rfl⟩ | ⟨hlv, _, M, es, hr, rfl⟩⟩
  ·exact outOk_err (by omega)
  ·exact outOk_err (by omega)
  ·have ht := end_tale hG hj hlv (ph := if k = 3 then 3 else 5) (by split <;> omega) hr
   refine ⟨by simp, by simp [NumOk], by simp [NumOk], by simp [NumOk], fun r hr => by simp at hr, evs_ok ht h0 (hG.bnd.set i _ (fun ha => ?_)) (by simp; omega)⟩
   rcases ha with e | e <;> simp only [Job.early] at e <;> split at e <;> omega

end Go.Proofs.YtpcgnadfldimhaaGreatDoor
namespace Go.Proofs.YtpcgnadfldimhaaGreatDoor
open Go.RowKit

theorem stat_phase {nodes jobs wall last now x y : Int} {L : List Job} {o : Out} (hp : Phases L) (he : o.err = 0) (hD : DoE nodes jobs wall last now L 5 x y o) : 1 ≤ o.a ∧ o.a ≤ 5 := by
 rcases hD with (⟨_, rfl⟩ | ⟨_, ⟨h, _⟩ | ⟨h, _⟩ | ⟨_, _, rfl⟩ | ⟨_, i, j, _, hj, rfl⟩ | ⟨h, _⟩ | ⟨h, _⟩⟩) | ⟨_, h, _⟩
 ·simp at he
 ·omega
 ·omega
 ·simp at he
 ·exact hp j (List.mem_of_getElem? hj)
 all_goals omega

/-- answer.Write of what Do answered. -/
theorem write_did {nodes jobs wall last now : Int} {L : List Job} {n x y : Int} {o : Out} (a : Addr) (m : Int) (w0 : World) (hE : Env a m w0) (hNm : NamesE w0) (hG : Good nodes jobs wall last now L) (hp : Phases L) (hl : L.length < 1000000000) (hD : DoE nodes jobs wall last now L n x y o) (w3 : World) (h0 : Below w0.heap.size w0 w3) (base : Nat) (p1 : Option Addr) (c1 : Nat) (p2 : Option Addr) (c2 : Nat) (hY : w3.ownsRow base 57 4 (.slice p1 o.rows.length c1) o.rows.length (flatR o.rows)) (hV : w3.ownsRow base 55 4 (.slice p2 o.evs.length c2) o.evs.length (flatE o.evs)) (W : World) (hW : Below w3.heap.size w3 W) :
  Calls Tryz.prog 38 #[.int .i64 n, .agg #[.int .i64 o.err, .int .i64 o.a, .int .i64 o.b, .int .i64 o.c, .slice p1 o.rows.length c1, .slice p2 o.evs.length c2]] W fun r w' => r = .returned (.string ⟨(answerL n o).toArray⟩) ∧ Below w3.heap.size w3 w' := by
 have hok := doE_ok hG hp hl hD
 have hsm := doE_small hG hD hl
 have h0W := h0.trans (hW.mono h0.size)
 by_cases he : o.err = 0
 ·refine (writeA_ok a m w0 W hE hNm h0W n o hok he hsm.1 hsm.2 (fun h5 => by subst h5; exact stat_phase hp he hD) p1 c1 p2 c2 ((owns_laid (c := RowV.cells) (fun _ => rfl) (l := o.rows) hY rfl).on hW) ((owns_laid (c := Ev.cells) (fun _ => rfl) (l := o.evs) hV rfl).on hW)).mono ?_
  rintro r w' ⟨rfl, hb⟩
  exact ⟨rfl, hW.trans (hb.mono hW.size)⟩
 ·have hr := hok.err
  refine (writeA_err a m w0 W hE hNm h0W n o.err o.a o.b o.c (by omega) p1 _ c1 p2 _ c2).mono ?_
  rintro r w' ⟨rfl, hb⟩
  exact ⟨by unfold answerL; rw [if_neg he], hW.trans (hb.mono hW.size)⟩

/-- What Line leaves of a cluster. -/
def LineQ (B bx bi : Nat) (nodes jobs wall last now : Int) (vr vl vh : Value) (L : List Job) (n x y : Int) (w : World) (e : Ending) (w' : World) : Prop :=
 ∃ o vr' vl' vh' E', DoE nodes jobs wall last now L n x y o ∧ e = .returned (.string ⟨(answerL n o).toArray⟩) ∧ Prog B bx bi nodes jobs wall last o.now vr' vl' vh' o.L E' w' ∧ Kept (progB bx bi vr vl vh) w w' ∧ ∀ k, progB bx bi vr' vl' vh' k → progB bx bi vr vl vh k ∨ w.heap.size ≤ k

set_option maxHeartbeats 4000000 in
set_option maxRecDepth 100000 in
theorem line_cmd (B bx bi : Nat) (nodes jobs wall last now : Int) (vr vl vh : Value) (L : List Job) (E : List Ev) (a : Addr) (m : Int) (w0 : World) (hE : Env a m w0) (hNm : NamesE w0) (w : World) (h0 : Below w0.heap.size w0 w) (hB0 : w0.heap.size ≤ B) (hBw : B ≤ w.heap.size) (h : Prog B bx bi nodes jobs wall last now vr vl vh L E w) (hG : Good nodes jobs wall last now L) (hp : Phases L) (hl : L.length < 1000000000) (s : ByteArray) (n : Nat) (x y : Int) (hc : Cmd s n x y) :
  Calls Tryz.prog 26 #[.pointer (some ⟨bx, 0, none⟩), .string s] w (LineQ B bx bi nodes jobs wall last now vr vl vh L n x y w) := by
 have HPs := Lib.hid (parse_cmd a m w (hE.on h0) s n x y hc)
 have HE := Lib.hid hE
 have HNm := Lib.hid hNm
 have H0 := Lib.hid h0
 have HP := Lib.hid h
 have HG := Lib.hid hG
 have HPh := Lib.hid hp
 clear hE hNm h0 h hG hp hc
 go_enter Tryz.func26, Tryz.ntmps26
 go_wp2_with (go_at_call 37; refine HPs.out.mono ?_; rintro e w1 ⟨rfl, hb1⟩; refine Hid.out ?_)
 refine Lib.hid ?_
 go_wp2_with fail
 have hx1 := heap_alloc_new w1 (.cells #[.int .i64 (n : Int), .int .i64 x, .int .i64 y] 29)
 have hB1 : Below w.heap.size w (w1.alloc (.cells #[.int .i64 (n : Int), .int .i64 x, .int .i64 y] 29)) := hb1.trans (((Below.refl _ _).alloc (Nat.le_refl _) _).mono hb1.size)
 have hws := hb1.size
 generalize w1.alloc (.cells #[.int .i64 (n : Int), .int .i64 x, .int .i64 y] 29) = W2 at *
 have x0 := cell_of_row _ _ 0 _ _ (0, 0) hx1
 have x1 := cell_of_row _ _ 1 _ _ (0, 0) hx1
 have x2 := cell_of_row _ _ 2 _ _ (0, 0) hx1
 simp at x0 x1 x2
 have hxl : w1.heap.size < W2.heap.size := (Array.getElem?_eq_some_iff.1 hx1).1
 have hplt : ∀ k, progB bx bi vr vl vh k → k < w1.heap.size := fun k e => Nat.lt_of_lt_of_le (HP.out.lt k e).2 hws
 have HDoW : Hid (∀ W, Below W2.heap.size W2 W → Calls Tryz.prog 16 #[.pointer (some ⟨bx, 0, none⟩), .agg #[.int .i64 (n : Int), .int .i64 x, .int .i64 y]] W fun e w' => ∃ (o : Out) (p1 : Option Addr) (c1 : Nat) (p2 : Option Addr) (c2 : Nat), e = .returned (.agg #[.int .i64 o.err, .int .i64 o.a, .int .i64 o.b, .int .i64 o.c, .slice p1 o.rows.length c1, .slice p2 o.evs.length c2]) ∧ w'.cell? ⟨w1.heap.size, 0, none⟩ = some (.int .i64 (n : Int)) ∧ w'.cell? ⟨w1.heap.size, 1, none⟩ = some (.int .i64 x) ∧ w'.cell? ⟨w1.heap.size, 2, none⟩ = some (.int .i64 y) ∧ w1.heap.size < w'.heap.size ∧ Hid (∀ W', Below w'.heap.size w' W' → Calls Tryz.prog 38 #[.int .i64 (n : Int), .agg #[.int .i64 o.err, .int .i64 o.a, .int .i64 o.b, .int .i64 o.c, .slice p1 o.rows.length c1, .slice p2 o.evs.length c2]] W' fun r w4 => r = .returned (.string ⟨(answerL n o).toArray⟩) ∧ Below w'.heap.size w' w4) ∧ Hid (DoE nodes jobs wall last now L n x y o ∧ ∃ vr' vl' vh' E', Prog B bx bi nodes jobs wall last o.now vr' vl' vh' o.L E' w' ∧ Kept (progB bx bi vr vl vh) w w' ∧ ∀ k, progB bx bi vr' vl' vh' k → progB bx bi vr vl vh k ∨ w.heap.size ≤ k)) := Lib.hid (fun W hW => by
  have hwW := hB1.trans (hW.mono hB1.size)
  have h0W := H0.out.trans (hwW.mono H0.out.size)
  have hs := hW.size
  have hPW := HP.out.kept (S := fun _ => False) (Kept.of_below hwW) (fun _ _ e => e)
  refine (doP B bx bi nodes jobs wall last now vr vl vh L E a m w0 HE.out W h0W hB0 (Nat.le_trans hBw hwW.size) hPW HG.out hl n x y).mono ?_
  rintro e w3 ⟨o, y1, v1, vr', vl', vh', E', hD, rfl, hY, hV, hP', hK, hN, _⟩
  obtain ⟨q1, c1, rfl⟩ := own_slice hY
  obtain ⟨q2, c2, rfl⟩ := own_slice hV
  have hx3 := (hK.block _ (by omega) (fun e => by have := hplt _ e; omega)).trans ((hW.block _ hxl).trans hx1)
  have z0 := cell_of_row _ _ 0 _ _ (0, 0) hx3
  have z1 := cell_of_row _ _ 1 _ _ (0, 0) hx3
  have z2 := cell_of_row _ _ 2 _ _ (0, 0) hx3
  simp at z0 z1 z2
  have h03 : Below w0.heap.size w0 w3 := h0W.trans (hK.below h0W.size (fun k e => by have := (hPW.lt k e).1; omega))
  exact ⟨o, q1, c1, q2, c2, rfl, z0, z1, z2, (Array.getElem?_eq_some_iff.1 hx3).1, Lib.hid (fun W' hW' => write_did a m w0 HE.out HNm.out HG.out HPh.out hl hD w3 h03 _ q1 c1 q2 c2 hY hV W' hW'), Lib.hid ⟨hD, vr', vl', vh', E', hP', (Kept.of_below (S := progB bx bi vr vl vh) hwW).trans hK (fun _ e => Or.inl e), fun k e => (hN k e).imp id (fun e => Nat.le_trans hwW.size e)⟩⟩)
 clear hx1 hB1 HPs HE HNm H0 HP HG HPh hplt hb1
 go_region_held3 (fun w' => w'.cell? ⟨w1.heap.size, 0, none⟩ = some (.int .i64 (n : Int)) ∧ w'.cell? ⟨w1.heap.size, 1, none⟩ = some (.int .i64 x) ∧ w'.cell? ⟨w1.heap.size, 2, none⟩ = some (.int .i64 y)) (go_keep) (first | (go_at_call 16; refine (HDoW.out _ (by repeat (first | exact Below.refl _ _ | refine Below.drew ?_ | refine below_drewN ?_ _ | refine Below.alloc ?_ (by simp) _))).mono ?_; rintro e w3 ⟨o, p1, c1, p2, c2, rfl, z0, z1, z2, hzl, HWr, HZ⟩) | (go_at_call 38; refine (HWr.out _ (by repeat (first | exact Below.refl _ _ | refine Below.drew ?_ | refine below_drewN ?_ _ | refine Below.alloc ?_ (by simp) _))).mono ?_; rintro e w4 ⟨rfl, hb4⟩; have y0 := (hb4.cell (p := ⟨w1.heap.size, 0, none⟩) hzl).trans z0; have y1 := (hb4.cell (p := ⟨w1.heap.size, 1, none⟩) hzl).trans z1; have y2 := (hb4.cell (p := ⟨w1.heap.size, 2, none⟩) hzl).trans z2))
 all_goals go_wp2
 all_goals go_ret
 all_goals (obtain ⟨hD, vr', vl', vh', E', hP', hK', hN'⟩ := HZ.out; exact ⟨o, vr', vl', vh', E', hD, rfl, hP'.kept (S := fun _ => False) (Kept.of_below hb4) (fun _ _ e => e), hK'.trans (Kept.of_below (S := fun _ => False) hb4) (fun _ e => e.elim), hN'⟩)

set_option maxHeartbeats 4000000 in
set_option maxRecDepth 100000 in
theorem line_no (bx : Nat) (a : Addr) (m : Int) (w0 : World) (hE : Env a m w0) (hNm : NamesE w0) (w : World) (h0 : Below w0.heap.size w0 w) (s : ByteArray) (hm : s.size ≤ maxLen) (hc : ∀ n x y, ¬ Cmd s n x y) :
  Calls Tryz.prog 26 #[.pointer (some ⟨bx, 0, none⟩), .string s] w fun e w' => e = .returned (.string ⟨(errL 1).toArray⟩) ∧ Below w.heap.size w w' := by
 have HPs := Lib.hid (parse_nocmd a m w (hE.on h0) s hm hc)
 have HWr := Lib.hid (fun W (hW : Below w.heap.size w W) => writeA_err a m w0 W hE hNm (h0.trans (hW.mono h0.size)) 0 1 0 0 0 (by omega) none 0 0 none 0 0)
 clear hE hNm h0 hc
 go_enter Tryz.func26, Tryz.ntmps26
 go_wp2_with (go_at_call 37; refine HPs.out.mono ?_; rintro e w1 ⟨rfl, hb1⟩; refine Hid.out ?_)
 refine Lib.hid ?_
 have HB1 := Lib.hid hb1
 have HW1 := Lib.hid (fun o => HWr.out (w1.alloc o) (hb1.trans (((Below.refl _ _).alloc (Nat.le_refl _) o).mono hb1.size)))
 clear hb1 HPs HWr
 go_wp2_with (go_at_call 38; refine (HW1.out _).mono ?_; rintro e w2 ⟨rfl, hb2⟩; refine Hid.out ?_)
 refine Lib.hid ?_
 have HB2 := Lib.hid (HB1.out.trans ((((Below.refl _ _).alloc (Nat.le_refl _) _).trans (hb2.mono (by simp))).mono HB1.out.size))
 clear hb2
 go_wp2
 go_ret
 exact ⟨rfl, HB2.out⟩

end Go.Proofs.YtpcgnadfldimhaaGreatDoor
namespace Go.Proofs.YtpcgnadfldimhaaGreatDoor
open Go.ChangeShapes Go.WideShapes Go.ChangeAt Go.RowKit

theorem gErrN : Tryz.prog.globalNamed "berth/answer.errorNames" = some 5 := by kernel_rfl
theorem gErrNType : (Tryz.prog.globals[5]?).map (·.type) = some 125 := by kernel_rfl
theorem gPhaN : Tryz.prog.globalNamed "berth/answer.phaseNames" = some 7 := by kernel_rfl
theorem gPhaNType : (Tryz.prog.globals[7]?).map (·.type) = some 207 := by kernel_rfl

set_option maxRecDepth 100000 in
theorem errs_of {W : World} {cs : Array Value} {fuel : Nat} {p : List MemPlace} {base : Nat} {sp : Nat → Bool} {held : Bool} {enc : TypeId × Value → Unit} (hd : DataW.trod enc Tryz.prog W base sp held fuel 125 cs.toList = some (Rows.laid_berth_answer_errorNames, p)) :
  cs.toList = errCells := by
 obtain ⟨xs, m, rfl, ex, hlen, hl, hel⟩ := DataW.trod_array Tryz.underlying125 hd
 have e3 := (DataW.agg.inj (Prod.mk.inj ex).1).symm
 match xs, hl with
 | [y0, y1, y2, y3, y4, y5, y6, y7], _ =>
  simp only [List.map_cons, List.map_nil, List.cons.injEq, and_true] at e3
  rw [cellsStr] at hel
  have cN : Tryz.prog.cellsOf 125 = 8 := by kernel_rfl
  rw [cN] at hlen
  generalize cs.toList = l at *
  match l, hlen with
  | [a0, a1, a2, a3, a4, a5, a6, a7], _ =>
   obtain ⟨s0, b0, d0, _⟩ := DataW.trod_string Tryz.underlying9 (hel 0 (by omega))
   obtain ⟨s1, b1, d1, _⟩ := DataW.trod_string Tryz.underlying9 (hel 1 (by omega))
   obtain ⟨s2, b2, d2, _⟩ := DataW.trod_string Tryz.underlying9 (hel 2 (by omega))
   obtain ⟨s3, b3, d3, _⟩ := DataW.trod_string Tryz.underlying9 (hel 3 (by omega))
   obtain ⟨s4, b4, d4, _⟩ := DataW.trod_string Tryz.underlying9 (hel 4 (by omega))
   obtain ⟨s5, b5, d5, _⟩ := DataW.trod_string Tryz.underlying9 (hel 5 (by omega))
   obtain ⟨s6, b6, d6, _⟩ := DataW.trod_string Tryz.underlying9 (hel 6 (by omega))
   obtain ⟨s7, b7, d7, _⟩ := DataW.trod_string Tryz.underlying9 (hel 7 (by omega))
   rw [show y0 = _ from d0, show y1 = _ from d1, show y2 = _ from d2, show y3 = _ from d3, show y4 = _ from d4, show y5 = _ from d5, show y6 = _ from d6, show y7 = _ from d7] at e3
   simp at e3 b0 b1 b2 b3 b4 b5 b6 b7
   obtain ⟨t0, t1, t2, t3, t4, t5, t6, t7⟩ := e3
   subst b0 b1 b2 b3 b4 b5 b6 b7
   rw [str_of t1, str_of t2, str_of t3, str_of t4, str_of t5, str_of t6, str_of t7]
   have z0 : s0 = ⟨#[]⟩ := by
    cases s0
    simpa using t0
   rw [z0]
   rfl

set_option maxRecDepth 100000 in
theorem phases_of {W : World} {cs : Array Value} {fuel : Nat} {p : List MemPlace} {base : Nat} {sp : Nat → Bool} {held : Bool} {enc : TypeId × Value → Unit} (hd : DataW.trod enc Tryz.prog W base sp held fuel 207 cs.toList = some (Rows.laid_berth_answer_phaseNames, p)) :
  cs.toList = phaseCells := by
 obtain ⟨xs, m, rfl, ex, hlen, hl, hel⟩ := DataW.trod_array Tryz.underlying207 hd
 have e3 := (DataW.agg.inj (Prod.mk.inj ex).1).symm
 match xs, hl with
 | [y0, y1, y2, y3, y4, y5], _ =>
  simp only [List.map_cons, List.map_nil, List.cons.injEq, and_true] at e3
  rw [cellsStr] at hel
  have cN : Tryz.prog.cellsOf 207 = 6 := by kernel_rfl
  rw [cN] at hlen
  generalize cs.toList = l at *
  match l, hlen with
  | [a0, a1, a2, a3, a4, a5], _ =>
   obtain ⟨s0, b0, d0, _⟩ := DataW.trod_string Tryz.underlying9 (hel 0 (by omega))
   obtain ⟨s1, b1, d1, _⟩ := DataW.trod_string Tryz.underlying9 (hel 1 (by omega))
   obtain ⟨s2, b2, d2, _⟩ := DataW.trod_string Tryz.underlying9 (hel 2 (by omega))
   obtain ⟨s3, b3, d3, _⟩ := DataW.trod_string Tryz.underlying9 (hel 3 (by omega))
   obtain ⟨s4, b4, d4, _⟩ := DataW.trod_string Tryz.underlying9 (hel 4 (by omega))
   obtain ⟨s5, b5, d5, _⟩ := DataW.trod_string Tryz.underlying9 (hel 5 (by omega))
   rw [show y0 = _ from d0, show y1 = _ from d1, show y2 = _ from d2, show y3 = _ from d3, show y4 = _ from d4, show y5 = _ from d5] at e3
   simp at e3 b0 b1 b2 b3 b4 b5
   obtain ⟨t0, t1, t2, t3, t4, t5⟩ := e3
   subst b0 b1 b2 b3 b4 b5
   rw [str_of t1, str_of t2, str_of t3, str_of t4, str_of t5]
   have z0 : s0 = ⟨#[]⟩ := by
    cases s0
    simpa using t0
   rw [z0]
   rfl

theorem namesE_of {W : World} (hL : laidMetH Tryz.prog Rows.commandsRow.laid W) (hsh : W.ShapedOpen Tryz.prog) : NamesE W := by
 have h1 : ∀ j v, errCells[j]? = some v → W.cell? ⟨5, j, none⟩ = some v := by
  obtain ⟨ps, ⟨g, t, cs, fuel, p, q, hg, ht, hv, hd, _, _⟩, _, _⟩ := laid_one hL "berth/answer.errorNames" Rows.laid_berth_answer_errorNames rfl
  obtain rfl := Option.some.inj (gErrN.symm.trans hg)
  obtain rfl := Option.some.inj (gErrNType.symm.trans ht)
  have hcs := errs_of hd
  intro j v hj
  rw [World.var?_cell gErrN hv j]
  rw [← hcs] at hj
  simpa using hj
 have h2 : ∀ j v, phaseCells[j]? = some v → W.cell? ⟨7, j, none⟩ = some v := by
  obtain ⟨ps, ⟨g, t, cs, fuel, p, q, hg, ht, hv, hd, _, _⟩, _, _⟩ := laid_one hL "berth/answer.phaseNames" Rows.laid_berth_answer_phaseNames rfl
  obtain rfl := Option.some.inj (gPhaN.symm.trans hg)
  obtain rfl := Option.some.inj (gPhaNType.symm.trans ht)
  have hcs := phases_of hd
  intro j v hj
  rw [World.var?_cell gPhaN hv j]
  rw [← hcs] at hj
  simpa using hj
 exact ⟨h1, h2, size_of_shaped hsh⟩

end Go.Proofs.YtpcgnadfldimhaaGreatDoor
namespace Go.Proofs.YtpcgnadfldimhaaGreatDoor
open Go.RowKit

theorem dec_len20 (u : Nat) (hu : u ≤ 9223372036854775807) : (Lib.decDigits u).length ≤ 20 := by
 rw [Lib.decDigits_length]
 exact Lib.nDigits_le20 _ (by omega)

set_option maxRecDepth 100000 in
theorem digitsT_any (k : Nat) : ∀ (u : Nat) (w : World), u < 10 ^ k → u ≤ 9223372036854775807 →
  Calls Tryz.prog 76 #[.int .i64 (u : Int)] w fun e w' => e = .returned (.string ⟨(Lib.decDigits u).toArray⟩) ∧ Below w.heap.size w w' := by
 have hcv := one_byte
 induction k with
 | zero =>
  intro u w hk hu
  have h9 : ¬ 9 < u := by simp at hk; omega
  have hc := hcv u
  clear hcv hk
  go_enter Tryz.func76, Tryz.ntmps76
  go_wp2_with fail
  go_ret
  exact ⟨ret_str (digits_one u h9), (Below.refl _ _).alloc (Nat.le_refl _) _⟩
 | succ k ih =>
  intro u w hk hu
  have hc := hcv u
  clear hcv
  have HK := Lib.hid hk
  clear hk
  have dl := dec_len20 (u / 10) (by omega)
  by_cases h9 : 9 < u
  ·go_enter Tryz.func76, Tryz.ntmps76
   go_wp2_with fail
   rw [show ((u : Int) / 10) = ((u / 10 : Nat) : Int) from by omega]
   refine (ih (u / 10) _ (by have := HK.out; rw [Nat.pow_succ] at this; omega) (by omega)).mono ?_
   rintro e w1 ⟨rfl, hb⟩
   go_wp2_with fail
   go_ret
   exact ⟨ret_str (digits_more u h9), hb.alloc hb.size _⟩
  ·go_enter Tryz.func76, Tryz.ntmps76
   go_wp2_with fail
   go_ret
   exact ⟨ret_str (digits_one u h9), (Below.refl _ _).alloc (Nat.le_refl _) _⟩
theorem digitsT_is (u : Nat) (hu : u ≤ 9223372036854775807) (w : World) :
  Calls Tryz.prog 76 #[.int .i64 (u : Int)] w fun e w' => e = .returned (.string ⟨(Lib.decDigits u).toArray⟩) ∧ Below w.heap.size w w' :=
 digitsT_any 19 u w (by have : (10 : Nat) ^ 19 = 10000000000000000000 := by decide
                        omega) hu

theorem val_str {a b : ByteArray} (h : a = b) : Value.string a = Value.string b := by rw [h]
theorem cat_three (l d : List UInt8) : (⟨l.toArray⟩ : ByteArray) ++ (⟨#[32]⟩ : ByteArray) ++ (⟨d.toArray⟩ : ByteArray) = ⟨(l ++ 32 :: d).toArray⟩ := by
 rw [show (⟨#[32]⟩ : ByteArray) = ⟨([32] : List UInt8).toArray⟩ from rfl, cat_bytes, cat_bytes]
 simp

set_option maxHeartbeats 2000000 in
set_option maxRecDepth 100000 in
theorem textR_any (words : List UInt8) (hw : words.length ≤ 30) (p : Option Addr) (cap : Nat) (ns : List Int) (hok : ∀ x ∈ ns, NumOk x) (hlen : ns.length ≤ 4) (w : World) (hns : NumsAt w p ns) :
  Calls Tryz.prog 81 #[.string ⟨words.toArray⟩, .slice p ns.length cap] w fun e w' => e = .returned (.string ⟨(lineL words ns).toArray⟩) ∧ Below w.heap.size w w' := by
 have HNS := Lib.hid hns
 have HOK := Lib.hid hok
 clear hns hok
 go_enter Tryz.func81, Tryz.ntmps81
 go_wp2
 go_loopw [0, 5] (fun tv i wr => ∃ k : Nat, k ≤ ns.length ∧ i = .int .i64 k ∧ tv = .string ⟨(words ++ numsL (ns.take k)).toArray⟩ ∧ Hid (Below w.heap.size w wr)) (fun _ i _ => ns.length - (intOf i).toNat)
 case atStart => exact ⟨0, Nat.zero_le _, rfl, by simp [numsL], Lib.hid (Below.refl _ _)⟩
 case round =>
  obtain ⟨k, hk, rfl, rfl, HB⟩ := hrel
  have hnl : (numsL (ns.take k)).length ≤ 84 := by
   have := numsL_len (ns.take k) (fun x hx => HOK.out x (List.mem_of_mem_take hx))
   have : (ns.take k).length ≤ 4 := by rw [List.length_take]; omega
   omega
  have hll : (words ++ numsL (ns.take k)).length ≤ 120 := by rw [List.length_append]; omega
  by_cases hlt : k < ns.length
  ·obtain ⟨x, hx⟩ : ∃ x, ns[k]? = some x := ⟨_, List.getElem?_eq_getElem hlt⟩
   obtain ⟨b, off, rfl, hc0⟩ := HNS.out k x hx
   have hbl : b < w.heap.size := block_lt_of_cell hc0
   have hc : wr.cell? ⟨b, off + k, none⟩ = some (.int .i64 x) := (HB.out.cell hbl).trans hc0
   have hox := HOK.out x (List.mem_of_getElem? hx)
   obtain ⟨u, rfl⟩ : ∃ u : Nat, x = (u : Int) := ⟨x.toNat, by have := hox.1; omega⟩
   have hu : u ≤ 9223372036854775807 := by have := hox.2; omega
   have hdl := dec_len20 u hu
   have HT : Hid (words ++ numsL (ns.take (k + 1)) = (words ++ numsL (ns.take k)) ++ (32 :: Lib.decDigits u)) := Lib.hid (by
    rw [List.take_succ_eq_append_getElem hlt, (List.getElem?_eq_some_iff.1 hx).2]
    simp [numsL])
   have HD := Lib.hid (digitsT_is u hu wr)
   generalize words ++ numsL (ns.take k) = T at *
   clear hc0 hox hx
   go_wp2_with (go_at_call 76; refine HD.out.mono ?_; rintro e w2 ⟨rfl, hb2⟩; refine Hid.out ?_)
   refine Lib.hid ?_
   have HB2 := Lib.hid (HB.out.trans (hb2.mono HB.out.size))
   clear hb2
   go_wp2
   go_roundw
   case rel => exact ⟨k + 1, by omega, by go_num, val_str (by rw [HT.out]; exact cat_three _ _), HB2⟩
   case measure => simp [intOf]; omega
  ·obtain rfl : k = ns.length := by omega
   have HT : Hid (lineL words ns = (words ++ numsL (ns.take ns.length)) ++ [10]) := Lib.hid (by rw [List.take_length]; rfl)
   generalize words ++ numsL (ns.take ns.length) = T at *
   go_wp2
   go_ret
   exact ⟨ret_str (by rw [HT.out]; exact cat_bytes _ [10]), HB.out⟩

end Go.Proofs.YtpcgnadfldimhaaGreatDoor
namespace Go.Proofs.YtpcgnadfldimhaaGreatDoor
open Go.RowKit

theorem err_cat (e : Int) : ((⟨#[69, 82, 82, 32]⟩ : ByteArray) ++ (⟨(errW e).toArray⟩ : ByteArray)) ++ (⟨#[10]⟩ : ByteArray) = ⟨(errL e).toArray⟩ := by
 have h1 := cat_bytes [69, 82, 82, 32] (errW e)
 have h2 := cat_bytes ([69, 82, 82, 32] ++ errW e) [10]
 have h3 : errL e = ([69, 82, 82, 32] ++ errW e) ++ [10] := by simp [errL, lineL, numsL]
 rw [h3, ← h2, ← h1]
def errV : Array Value := #[.string ⟨#[]⟩, .string ⟨#[65, 82, 71]⟩, .string ⟨#[87, 73, 68, 84, 72]⟩, .string ⟨#[87, 65, 76, 76]⟩, .string ⟨#[70, 85, 76, 76]⟩, .string ⟨#[74, 79, 66]⟩, .string ⟨#[80, 72, 65, 83, 69]⟩, .string ⟨#[84, 73, 77, 69]⟩]
theorem errV_at (j : Nat) (h1 : 1 ≤ j) (h7 : j ≤ 7) : errV[j]? = some (.string ⟨(errW j).toArray⟩) := by
 match j, h1, h7 with
 | 1, _, _ => rfl
 | 2, _, _ => rfl
 | 3, _, _ => rfl
 | 4, _, _ => rfl
 | 5, _, _ => rfl
 | 6, _, _ => rfl
 | 7, _, _ => rfl

/-- What the document's Line leaves. -/
def RefLineQ (base bc : Nat) (nodes jobs wall last now : Int) (v : Value) (L : List Job) (n x y : Int) (w : World) (e : Ending) (w' : World) : Prop :=
 ∃ o v', DoE nodes jobs wall last now L n x y o ∧ e = .returned (.string ⟨(answerL n o).toArray⟩) ∧ RefO base bc nodes jobs wall last o.now v' o.L w' ∧ Kept (fun k => k = bc ∨ v.ownBlock = some k) w w' ∧ ∀ k, v'.ownBlock = some k → v.ownBlock = some k ∨ w.heap.size ≤ k

theorem stat_text (rb pb : Nat) (j ob oc : Int) (hb0 : NumOk ob) (hc0 : NumOk oc) (pl : List UInt8) (hpl : pl.length ≤ 9) (W6 : World) (hr6l : rb < W6.heap.size) (hp6l : pb < W6.heap.size) (r1 : W6.cell? ⟨rb, 1, none⟩ = some (.int .i64 j)) (r2 : W6.cell? ⟨rb, 2, none⟩ = some (.int .i64 ob)) (r3 : W6.cell? ⟨rb, 3, none⟩ = some (.int .i64 oc)) {jn : Nat} (pj : W6.cell? ⟨pb, jn, none⟩ = some (.string ⟨pl.toArray⟩)) (W : World) (hW : Below W6.heap.size W6 W) (hns : NumsAt W (some ⟨pb + 1, 0, none⟩) [ob, oc]) :
  Calls Tryz.prog 81 #[.string ((⟨#[79, 75, 32]⟩ : ByteArray) ++ (⟨pl.toArray⟩ : ByteArray)), .slice (some ⟨pb + 1, 0, none⟩) 2 2] W fun e w' => e = .returned (.string ⟨(lineL (okW ++ 32 :: pl) [ob, oc]).toArray⟩) ∧ w'.cell? ⟨rb, 1, none⟩ = some (.int .i64 j) ∧ w'.cell? ⟨rb, 2, none⟩ = some (.int .i64 ob) ∧ w'.cell? ⟨rb, 3, none⟩ = some (.int .i64 oc) ∧ w'.cell? ⟨pb, jn, none⟩ = some (.string ⟨pl.toArray⟩) ∧ Hid (Below W6.heap.size W6 w') := by
 have hcat : (⟨#[79, 75, 32]⟩ : ByteArray) ++ (⟨pl.toArray⟩ : ByteArray) = ⟨(okW ++ 32 :: pl).toArray⟩ := cat_bytes [79, 75, 32] pl
 rw [hcat]
 refine (textR_any (okW ++ 32 :: pl) (by simp [okW]; omega) (some ⟨pb + 1, 0, none⟩) 2 [ob, oc] (by intro x hx; simp at hx; rcases hx with rfl | rfl <;> assumption) (by simp) W hns).mono ?_
 rintro e w' ⟨rfl, hb⟩
 have hb' := hW.trans (hb.mono hW.size)
 exact ⟨rfl, (hb'.cell (p := ⟨rb, 1, none⟩) hr6l).trans r1, (hb'.cell (p := ⟨rb, 2, none⟩) hr6l).trans r2, (hb'.cell (p := ⟨rb, 3, none⟩) hr6l).trans r3, (hb'.cell (p := ⟨pb, jn, none⟩) hp6l).trans pj, Lib.hid hb'⟩

set_option maxHeartbeats 8000000 in
set_option maxRecDepth 100000 in
theorem refLine_cmd (base bc : Nat) (nodes jobs wall last now : Int) (v : Value) (L : List Job) (w : World) (h : RefO base bc nodes jobs wall last now v L w) (hG : Good nodes jobs wall last now L) (hp : Phases L) (hl : L.length < 1000000000) (hbase : base ≤ w.heap.size) (s : ByteArray) (n : Nat) (N : Int) (hN : (n : Int) = N) (x y : Int) (hc : Cmd s n x y) :
  Calls Tryz.prog 47 #[.pointer (some ⟨bc, 0, none⟩), .string s] w (RefLineQ base bc nodes jobs wall last now v L N x y w) := by
 have hPs := refP_cmd s w n x y hc
 rw [hN] at hPs
 have HPs := Lib.hid hPs
 have hbc := h.lt
 have hvl : ∀ k, v.ownBlock = some k → k < w.heap.size := fun k e => (h.own.lt k e).2
 have HR := Lib.hid h
 have HG := Lib.hid hG
 have HPh := Lib.hid hp
 clear h hG hp hc hPs hN
 go_enter Tryz.func47, Tryz.ntmps47
 go_wp2_with (go_at_call 40; refine HPs.out.mono ?_; rintro e w1 ⟨rfl, hb1⟩; refine Hid.out ?_)
 refine Lib.hid ?_
 have hs1 := hb1.size
 have HB3 := Lib.hid (fun o1 o2 => (hb1.alloc hb1.size o1).alloc (by simp; omega) o2 : ∀ o1 o2, Below w.heap.size w ((w1.alloc o1).alloc o2))
 have HDo := Lib.hid (fun o1 o2 => do_refE base bc nodes jobs wall last now v L ((w1.alloc o1).alloc o2) (HR.out.kept (S := fun _ => False) (Kept.of_below (HB3.out o1 o2)) (fun _ e => e.elim)) HG.out hl (by simp; omega) N x y)
 clear hb1 HPs
 go_wp2_with (go_at_call 44; refine (HDo.out _ _).mono ?_; rintro e w4 ⟨o, hD, y1, x1, v', rfl, hY, hV, hR4, hK4, hV4⟩; refine Hid.out ?_)
 refine Lib.hid ?_
 obtain ⟨q1, c1, rfl⟩ := own_slice hY
 obtain ⟨q2, c2, rfl⟩ := own_slice hV
 have hnS : ∀ k, w.heap.size ≤ k → ¬ (k = bc ∨ v.ownBlock = some k) := fun k e1 e3 => by
  rcases e3 with e3 | e3
  ·omega
  ·have := hvl k e3; omega
 have hs4 : w1.heap.size + 2 ≤ w4.heap.size := by have := hK4.size; simpa using this
 have hxb := (hK4.block w1.heap.size (by simp; omega) (hnS _ hs1)).trans ((Below.heap_alloc (w1.alloc (.cells #[.int .i64 N, .int .i64 x, .int .i64 y] 29)) _ _ (by simp)).trans (heap_alloc_new w1 _))
 have hrb := (hK4.block (w1.heap.size + 1) (by simp) (hnS _ (by omega))).trans (alloc_at (w1.alloc (.cells #[.int .i64 N, .int .i64 x, .int .i64 y] 29)) (.cells #[.int .i64 0, .int .i64 0, .int .i64 0, .int .i64 0, .slice none 0 0, .slice none 0 0] 34) (w1.heap.size + 1) (by simp))
 have nf := fun j => frozen_of_row _ _ j _ _ hrb
 have n0 := cell_of_row _ _ 0 _ _ (0, 0) hrb
 have n1 := cell_of_row _ _ 1 _ _ (0, 0) hrb
 have n2 := cell_of_row _ _ 2 _ _ (0, 0) hrb
 have n3 := cell_of_row _ _ 3 _ _ (0, 0) hrb
 have n4 := cell_of_row _ _ 4 _ _ (0, 0) hrb
 have n5 := cell_of_row _ _ 5 _ _ (0, 0) hrb
 simp at n0 n1 n2 n3 n4 n5
 have hql : w1.heap.size + 1 < w4.heap.size := by omega
 have hwrb : w.heap.size ≤ w1.heap.size + 1 := by omega
 have hxrb : w1.heap.size ≠ w1.heap.size + 1 := by omega
 have hbrb : ∀ k, ((w1.alloc (.cells #[.int .i64 N, .int .i64 x, .int .i64 y] 29)).alloc (.cells #[.int .i64 0, .int .i64 0, .int .i64 0, .int .i64 0, .slice none 0 0, .slice none 0 0] 34)).heap.size ≤ k → k ≠ w1.heap.size + 1 := fun k e => by simp at e; omega
 have hbrw : ∀ k, ((w1.alloc (.cells #[.int .i64 N, .int .i64 x, .int .i64 y] 29)).alloc (.cells #[.int .i64 0, .int .i64 0, .int .i64 0, .int .i64 0, .slice none 0 0, .slice none 0 0] 34)).heap.size ≤ k → w.heap.size ≤ k := fun k e => by simp at e; omega
 have hbcr : bc ≠ w1.heap.size + 1 := by omega
 generalize hrbe : w1.heap.size + 1 = rb at *
 have hok := doE_ok HG.out HPh.out hl hD
 have hsm := doE_small HG.out hD hl
 have hph := fun (h5 : N = 5) (he : o.err = 0) => stat_phase (x := x) (y := y) HPh.out he (h5 ▸ hD)
 obtain ⟨oe, oa, ob, oc, rs, es, nw, LL⟩ := o
 simp only at hY hV hR4 hph
 have hK6 : Kept (fun k => k = rb) w4 ((((((w4.setCell ⟨rb, 0, none⟩ (.int .i64 oe)).setCell ⟨rb, 1, none⟩ (.int .i64 oa)).setCell ⟨rb, 2, none⟩ (.int .i64 ob)).setCell ⟨rb, 3, none⟩ (.int .i64 oc)).setCell ⟨rb, 4, none⟩ (.slice q1 rs.length c1)).setCell ⟨rb, 5, none⟩ (.slice q2 es.length c2)) := (Kept.refl (fun k => k = rb) w4).six (g := rb) (Or.inl rfl) _ _ _ _ _ _
 have hr6 : ((((((w4.setCell ⟨rb, 0, none⟩ (.int .i64 oe)).setCell ⟨rb, 1, none⟩ (.int .i64 oa)).setCell ⟨rb, 2, none⟩ (.int .i64 ob)).setCell ⟨rb, 3, none⟩ (.int .i64 oc)).setCell ⟨rb, 4, none⟩ (.slice q1 rs.length c1)).setCell ⟨rb, 5, none⟩ (.slice q2 es.length c2)).heap[rb]? = some (.cells #[.int .i64 oe, .int .i64 oa, .int .i64 ob, .int .i64 oc, .slice q1 rs.length c1, .slice q2 es.length c2] 34 (0, 0)) := six_block hrb (.int .i64 oe) (.int .i64 oa) (.int .i64 ob) (.int .i64 oc) (.slice q1 rs.length c1) (.slice q2 es.length c2)
 have hx6 := (hK6.block w1.heap.size (by omega) hxrb).trans hxb
 have hY6 := owns_laid (c := RowV.cells) (fun _ => rfl) (l := rs) (owns_on hY (fun k e => hK6.block k (hY.lt k e).2 (hbrb k (hY.lt k e).1))) rfl
 have hV6 := owns_laid (c := Ev.cells) (fun _ => rfl) (l := es) (owns_on hV (fun k e => hK6.block k (hV.lt k e).2 (hbrb k (hV.lt k e).1))) rfl
 have hR6 := hR4.kept hK6 (fun k e => ⟨by rw [e]; exact hbcr.symm, fun e2 => by
  subst e
  rcases hV4 _ e2 with e3 | e3
  ·have := hvl _ e3; omega
  ·exact hbrb _ e3 rfl⟩)
 have hK5 : Kept (fun k => k = bc ∨ v.ownBlock = some k) w ((((((w4.setCell ⟨rb, 0, none⟩ (.int .i64 oe)).setCell ⟨rb, 1, none⟩ (.int .i64 oa)).setCell ⟨rb, 2, none⟩ (.int .i64 ob)).setCell ⟨rb, 3, none⟩ (.int .i64 oc)).setCell ⟨rb, 4, none⟩ (.slice q1 rs.length c1)).setCell ⟨rb, 5, none⟩ (.slice q2 es.length c2)) := ((Kept.of_below (S := fun k => k = bc ∨ v.ownBlock = some k) (HB3.out _ _)).trans hK4 (fun _ e => Or.inl e)).trans hK6 (fun i e => Or.inr (by omega))
 have FIN : Hid (∀ wr, Below ((((((w4.setCell ⟨rb, 0, none⟩ (.int .i64 oe)).setCell ⟨rb, 1, none⟩ (.int .i64 oa)).setCell ⟨rb, 2, none⟩ (.int .i64 ob)).setCell ⟨rb, 3, none⟩ (.int .i64 oc)).setCell ⟨rb, 4, none⟩ (.slice q1 rs.length c1)).setCell ⟨rb, 5, none⟩ (.slice q2 es.length c2)).heap.size ((((((w4.setCell ⟨rb, 0, none⟩ (.int .i64 oe)).setCell ⟨rb, 1, none⟩ (.int .i64 oa)).setCell ⟨rb, 2, none⟩ (.int .i64 ob)).setCell ⟨rb, 3, none⟩ (.int .i64 oc)).setCell ⟨rb, 4, none⟩ (.slice q1 rs.length c1)).setCell ⟨rb, 5, none⟩ (.slice q2 es.length c2)) wr → RefLineQ base bc nodes jobs wall last now v L N x y w (.returned (.string ⟨(answerL N ⟨oe, oa, ob, oc, rs, es, nw, LL⟩).toArray⟩)) wr) := Lib.hid (fun wr hb => ⟨_, v', hD, rfl, hR6.kept (S := fun _ => False) (Kept.of_below hb) (fun _ e => e.elim), hK5.trans (Kept.of_below (S := fun _ => False) hb) (fun _ e => e.elim), fun k e => (hV4 k e).imp id (fun e => hbrw k e)⟩)
 have HOK := Lib.hid hok
 have HY5 := Lib.hid hY6
 have HV5 := Lib.hid hV6
 have hrl0 : rs.length ≤ 1000000000 := hsm.1
 have hel0 : es.length ≤ 1000000000000 := hsm.2
 have ha0 : NumOk oa := hok.a
 have hb0 : NumOk ob := hok.b
 have hc0 : NumOk oc := hok.c
 have hn0 : NumOk (rs.length : Int) := by unfold NumOk; omega
 have herr : 0 ≤ oe ∧ oe ≤ 7 := hok.err
 clear hD hY hV hR4 hK4 hV4 HDo hok hsm hY6 hV6 hR6 hK5 hK6 HB3 hnS
 have HR6 := Lib.hid hr6
 have HX6 := Lib.hid hx6
 have HPP := Lib.hid hph
 have HVL := Lib.hid hvl
 clear hr6 hx6 hrb hxb hph hvl hbrb hbrw hbcr hxrb hwrb
 by_cases he : oe = 0
 ·subst he
  have HLR := Lib.hid (fun k => flatU_len rowL 90 (rs.take k) (fun r hr => rowL_len (HOK.out.rows r (List.mem_of_mem_take hr))))
  have HLE := Lib.hid (fun k => flatU_len evL 70 (es.take k) (fun r hr => evL_len (HOK.out.evs r (List.mem_of_mem_take hr))))
  have HAN : Hid (answerL N ⟨0, oa, ob, oc, rs, es, nw, LL⟩ = firstL N ⟨0, oa, ob, oc, rs, es, nw, LL⟩ ++ rs.flatMap rowL ++ es.flatMap evL) := Lib.hid (by unfold answerL; rw [if_pos rfl])
  go_upto_region 5 with fail
  clear nf n0 n1 n2 n3 n4 n5
  generalize ((((((w4.setCell ⟨rb, 0, none⟩ (.int .i64 0)).setCell ⟨rb, 1, none⟩ (.int .i64 oa)).setCell ⟨rb, 2, none⟩ (.int .i64 ob)).setCell ⟨rb, 3, none⟩ (.int .i64 oc)).setCell ⟨rb, 4, none⟩ (.slice q1 rs.length c1)).setCell ⟨rb, 5, none⟩ (.slice q2 es.length c2)) = W5 at *
  have r0 := cell_of_row _ _ 0 _ _ (0, 0) HR6.out
  have r1 := cell_of_row _ _ 1 _ _ (0, 0) HR6.out
  have r2 := cell_of_row _ _ 2 _ _ (0, 0) HR6.out
  have r3 := cell_of_row _ _ 3 _ _ (0, 0) HR6.out
  have r4 := cell_of_row _ _ 4 _ _ (0, 0) HR6.out
  have r5 := cell_of_row _ _ 5 _ _ (0, 0) HR6.out
  simp at r0 r1 r2 r3 r4 r5
  have hrl5 : rb < W5.heap.size := (Array.getElem?_eq_some_iff.1 HR6.out).1
  clear HR6
  have x0 := cell_of_row _ _ 0 _ _ (0, 0) HX6.out
  simp at x0
  have hxl5 : w1.heap.size < W5.heap.size := (Array.getElem?_eq_some_iff.1 HX6.out).1
  generalize w1.heap.size = xb at *
  go_upto_block 0 with fail
  go_cut [9] (fun ov wx => ov = .string ⟨(firstL N ⟨0, oa, ob, oc, rs, es, nw, LL⟩).toArray⟩ ∧ Hid (Below W5.heap.size W5 wx))
  case first =>
   clear HAN FIN HLR HLE HY5 HV5
   by_cases k1 : N = 1
   ·subst k1
    go_wp2_with (go_at_call 81; refine (textR_any [79, 75] (by decide) (some ⟨W5.heap.size, 0, none⟩) 2 [oa, ob] (by intro x hx; simp at hx; rcases hx with rfl | rfl <;> assumption) (by simp) _ (numsAt_new _ _ _ _ rfl _ (by simp))).mono ?_; rintro e w7 ⟨rfl, hb7⟩; refine Hid.out ?_)
    refine Lib.hid ?_
    have HB6 : Hid (Below W5.heap.size W5 w7) := Lib.hid (((Below.refl _ _).alloc (Nat.le_refl _) _).trans (hb7.mono (by simp)))
    clear hb7
    go_wp2
    go_meet
    exact ⟨rfl, HB6⟩
   by_cases k5 : N = 5
   ·subst k5
    go_wp2_with fail
    have hp6 := heap_alloc_new W5 (.cells #[.string ⟨#[]⟩, .string ⟨#[81, 85, 69, 85, 69, 68]⟩, .string ⟨#[82, 85, 78, 78, 73, 78, 71]⟩, .string ⟨#[70, 73, 78, 73, 83, 72, 69, 68]⟩, .string ⟨#[84, 73, 77, 69, 68, 79, 85, 84]⟩, .string ⟨#[67, 65, 78, 67, 69, 76, 76, 69, 68]⟩] 9)
    have hb6 : Below W5.heap.size W5 (W5.alloc (.cells #[.string ⟨#[]⟩, .string ⟨#[81, 85, 69, 85, 69, 68]⟩, .string ⟨#[82, 85, 78, 78, 73, 78, 71]⟩, .string ⟨#[70, 73, 78, 73, 83, 72, 69, 68]⟩, .string ⟨#[84, 73, 77, 69, 68, 79, 85, 84]⟩, .string ⟨#[67, 65, 78, 67, 69, 76, 76, 69, 68]⟩] 9)) := (Below.refl _ _).alloc (Nat.le_refl _) _
    have hs6 : (W5.alloc (.cells #[.string ⟨#[]⟩, .string ⟨#[81, 85, 69, 85, 69, 68]⟩, .string ⟨#[82, 85, 78, 78, 73, 78, 71]⟩, .string ⟨#[70, 73, 78, 73, 83, 72, 69, 68]⟩, .string ⟨#[84, 73, 77, 69, 68, 79, 85, 84]⟩, .string ⟨#[67, 65, 78, 67, 69, 76, 76, 69, 68]⟩] 9)).heap.size = W5.heap.size + 1 := by simp
    generalize W5.alloc (.cells #[.string ⟨#[]⟩, .string ⟨#[81, 85, 69, 85, 69, 68]⟩, .string ⟨#[82, 85, 78, 78, 73, 78, 71]⟩, .string ⟨#[70, 73, 78, 73, 83, 72, 69, 68]⟩, .string ⟨#[84, 73, 77, 69, 68, 79, 85, 84]⟩, .string ⟨#[67, 65, 78, 67, 69, 76, 76, 69, 68]⟩] 9) = W6 at *
    have r1 := (hb6.cell (p := ⟨rb, 1, none⟩) hrl5).trans r1
    have r2 := (hb6.cell (p := ⟨rb, 2, none⟩) hrl5).trans r2
    have r3 := (hb6.cell (p := ⟨rb, 3, none⟩) hrl5).trans r3
    have hr6l : rb < W6.heap.size := by omega
    have hp6l : W5.heap.size < W6.heap.size := by omega
    have hph5 : 1 ≤ oa ∧ oa ≤ 5 := by
     have h := HPP.out
     simp at h
     exact h
    have hcases : oa = 1 ∨ oa = 2 ∨ oa = 3 ∨ oa = 4 ∨ oa = 5 := by omega
    rcases hcases with rfl | rfl | rfl | rfl | rfl
    ·have pj : W6.cell? ⟨W5.heap.size, 1, none⟩ = some (.string ⟨#[81, 85, 69, 85, 69, 68]⟩) := (cell_of_row _ _ 1 _ _ (0, 0) hp6).trans rfl
     have HA2 := Lib.hid (fun W (hW : Below W6.heap.size W6 W) hns => stat_text rb W5.heap.size 1 ob oc hb0 hc0 [81, 85, 69, 85, 69, 68] (by decide) W6 hr6l hp6l r1 r2 r3 pj W hW hns)
     go_region_held3 (fun w' => w'.cell? ⟨rb, 1, none⟩ = some (.int .i64 1) ∧ w'.cell? ⟨rb, 2, none⟩ = some (.int .i64 ob) ∧ w'.cell? ⟨rb, 3, none⟩ = some (.int .i64 oc) ∧ w'.cell? ⟨W5.heap.size, 1, none⟩ = some (.string ⟨#[81, 85, 69, 85, 69, 68]⟩)) (go_keep) (first | (go_at_call 81; refine (HA2.out _ (by repeat (first | exact Below.refl _ _ | refine Below.drew ?_ | refine below_drewN ?_ _ | refine Below.alloc ?_ (by simp) _)) (by repeat (first | exact numsAt_new _ _ _ _ rfl _ hs6 | refine NumsAt.drewN ?_ | refine NumsAt.drewN (n := 1) ?_))).mono ?_; rintro e w7 ⟨rfl, z1, z2, z3, z4, HB7⟩))
     all_goals go_wp2
     all_goals go_meet
     all_goals exact ⟨rfl, Lib.hid (hb6.trans (HB7.out.mono hb6.size))⟩
    ·have pj : W6.cell? ⟨W5.heap.size, 2, none⟩ = some (.string ⟨#[82, 85, 78, 78, 73, 78, 71]⟩) := (cell_of_row _ _ 2 _ _ (0, 0) hp6).trans rfl
     have HA2 := Lib.hid (fun W (hW : Below W6.heap.size W6 W) hns => stat_text rb W5.heap.size 2 ob oc hb0 hc0 [82, 85, 78, 78, 73, 78, 71] (by decide) W6 hr6l hp6l r1 r2 r3 pj W hW hns)
     go_region_held3 (fun w' => w'.cell? ⟨rb, 1, none⟩ = some (.int .i64 2) ∧ w'.cell? ⟨rb, 2, none⟩ = some (.int .i64 ob) ∧ w'.cell? ⟨rb, 3, none⟩ = some (.int .i64 oc) ∧ w'.cell? ⟨W5.heap.size, 2, none⟩ = some (.string ⟨#[82, 85, 78, 78, 73, 78, 71]⟩)) (go_keep) (first | (go_at_call 81; refine (HA2.out _ (by repeat (first | exact Below.refl _ _ | refine Below.drew ?_ | refine below_drewN ?_ _ | refine Below.alloc ?_ (by simp) _)) (by repeat (first | exact numsAt_new _ _ _ _ rfl _ hs6 | refine NumsAt.drewN ?_ | refine NumsAt.drewN (n := 1) ?_))).mono ?_; rintro e w7 ⟨rfl, z1, z2, z3, z4, HB7⟩))
     all_goals go_wp2
     all_goals go_meet
     all_goals exact ⟨rfl, Lib.hid (hb6.trans (HB7.out.mono hb6.size))⟩
    ·have pj : W6.cell? ⟨W5.heap.size, 3, none⟩ = some (.string ⟨#[70, 73, 78, 73, 83, 72, 69, 68]⟩) := (cell_of_row _ _ 3 _ _ (0, 0) hp6).trans rfl
     have HA2 := Lib.hid (fun W (hW : Below W6.heap.size W6 W) hns => stat_text rb W5.heap.size 3 ob oc hb0 hc0 [70, 73, 78, 73, 83, 72, 69, 68] (by decide) W6 hr6l hp6l r1 r2 r3 pj W hW hns)
     go_region_held3 (fun w' => w'.cell? ⟨rb, 1, none⟩ = some (.int .i64 3) ∧ w'.cell? ⟨rb, 2, none⟩ = some (.int .i64 ob) ∧ w'.cell? ⟨rb, 3, none⟩ = some (.int .i64 oc) ∧ w'.cell? ⟨W5.heap.size, 3, none⟩ = some (.string ⟨#[70, 73, 78, 73, 83, 72, 69, 68]⟩)) (go_keep) (first | (go_at_call 81; refine (HA2.out _ (by repeat (first | exact Below.refl _ _ | refine Below.drew ?_ | refine below_drewN ?_ _ | refine Below.alloc ?_ (by simp) _)) (by repeat (first | exact numsAt_new _ _ _ _ rfl _ hs6 | refine NumsAt.drewN ?_ | refine NumsAt.drewN (n := 1) ?_))).mono ?_; rintro e w7 ⟨rfl, z1, z2, z3, z4, HB7⟩))
     all_goals go_wp2
     all_goals go_meet
     all_goals exact ⟨rfl, Lib.hid (hb6.trans (HB7.out.mono hb6.size))⟩
    ·have pj : W6.cell? ⟨W5.heap.size, 4, none⟩ = some (.string ⟨#[84, 73, 77, 69, 68, 79, 85, 84]⟩) := (cell_of_row _ _ 4 _ _ (0, 0) hp6).trans rfl
     have HA2 := Lib.hid (fun W (hW : Below W6.heap.size W6 W) hns => stat_text rb W5.heap.size 4 ob oc hb0 hc0 [84, 73, 77, 69, 68, 79, 85, 84] (by decide) W6 hr6l hp6l r1 r2 r3 pj W hW hns)
     go_region_held3 (fun w' => w'.cell? ⟨rb, 1, none⟩ = some (.int .i64 4) ∧ w'.cell? ⟨rb, 2, none⟩ = some (.int .i64 ob) ∧ w'.cell? ⟨rb, 3, none⟩ = some (.int .i64 oc) ∧ w'.cell? ⟨W5.heap.size, 4, none⟩ = some (.string ⟨#[84, 73, 77, 69, 68, 79, 85, 84]⟩)) (go_keep) (first | (go_at_call 81; refine (HA2.out _ (by repeat (first | exact Below.refl _ _ | refine Below.drew ?_ | refine below_drewN ?_ _ | refine Below.alloc ?_ (by simp) _)) (by repeat (first | exact numsAt_new _ _ _ _ rfl _ hs6 | refine NumsAt.drewN ?_ | refine NumsAt.drewN (n := 1) ?_))).mono ?_; rintro e w7 ⟨rfl, z1, z2, z3, z4, HB7⟩))
     all_goals go_wp2
     all_goals go_meet
     all_goals exact ⟨rfl, Lib.hid (hb6.trans (HB7.out.mono hb6.size))⟩
    ·have pj : W6.cell? ⟨W5.heap.size, 5, none⟩ = some (.string ⟨#[67, 65, 78, 67, 69, 76, 76, 69, 68]⟩) := (cell_of_row _ _ 5 _ _ (0, 0) hp6).trans rfl
     have HA2 := Lib.hid (fun W (hW : Below W6.heap.size W6 W) hns => stat_text rb W5.heap.size 5 ob oc hb0 hc0 [67, 65, 78, 67, 69, 76, 76, 69, 68] (by decide) W6 hr6l hp6l r1 r2 r3 pj W hW hns)
     go_region_held3 (fun w' => w'.cell? ⟨rb, 1, none⟩ = some (.int .i64 5) ∧ w'.cell? ⟨rb, 2, none⟩ = some (.int .i64 ob) ∧ w'.cell? ⟨rb, 3, none⟩ = some (.int .i64 oc) ∧ w'.cell? ⟨W5.heap.size, 5, none⟩ = some (.string ⟨#[67, 65, 78, 67, 69, 76, 76, 69, 68]⟩)) (go_keep) (first | (go_at_call 81; refine (HA2.out _ (by repeat (first | exact Below.refl _ _ | refine Below.drew ?_ | refine below_drewN ?_ _ | refine Below.alloc ?_ (by simp) _)) (by repeat (first | exact numsAt_new _ _ _ _ rfl _ hs6 | refine NumsAt.drewN ?_ | refine NumsAt.drewN (n := 1) ?_))).mono ?_; rintro e w7 ⟨rfl, z1, z2, z3, z4, HB7⟩))
     all_goals go_wp2
     all_goals go_meet
     all_goals exact ⟨rfl, Lib.hid (hb6.trans (HB7.out.mono hb6.size))⟩
   by_cases k6 : N = 6
   ·subst k6
    go_wp2_with (go_at_call 81; refine (textR_any [79, 75] (by decide) (some ⟨W5.heap.size, 0, none⟩) 1 [(rs.length : Int)] (by intro x hx; simp at hx; subst hx; assumption) (by simp) _ (numsAt_new _ _ _ _ rfl _ (by simp))).mono ?_; rintro e w7 ⟨rfl, hb7⟩; refine Hid.out ?_)
    refine Lib.hid ?_
    have HB6 : Hid (Below W5.heap.size W5 w7) := Lib.hid (((Below.refl _ _).alloc (Nat.le_refl _) _).trans (hb7.mono (by simp)))
    clear hb7
    go_wp2
    go_meet
    exact ⟨rfl, HB6⟩
   by_cases k7 : N = 7
   ·subst k7
    go_wp2_with (go_at_call 81; refine (textR_any [79, 75] (by decide) (some ⟨W5.heap.size, 0, none⟩) 3 [oa, ob, oc] (by intro x hx; simp at hx; rcases hx with rfl | rfl | rfl <;> assumption) (by simp) _ (numsAt_new _ _ _ _ rfl _ (by simp))).mono ?_; rintro e w7 ⟨rfl, hb7⟩; refine Hid.out ?_)
    refine Lib.hid ?_
    have HB6 : Hid (Below W5.heap.size W5 w7) := Lib.hid (((Below.refl _ _).alloc (Nat.le_refl _) _).trans (hb7.mono (by simp)))
    clear hb7
    go_wp2
    go_meet
    exact ⟨rfl, HB6⟩
   ·have k1b : (N == 1) = false := beq_eq_false_iff_ne.2 k1
    have k5b : (N == 5) = false := beq_eq_false_iff_ne.2 k5
    have k6b : (N == 6) = false := beq_eq_false_iff_ne.2 k6
    have k7b : (N == 7) = false := beq_eq_false_iff_ne.2 k7
    go_wp2
    go_meet
    exact ⟨by simp only [firstL, if_neg k1, if_neg k5, if_neg k6, if_neg k7]; rfl, Lib.hid (Below.refl _ _)⟩
  case rest =>
   obtain ⟨rfl, HB6⟩ := hcut
   have hfl := firstL_len N HOK.out hrl0
   generalize firstL N ⟨0, oa, ob, oc, rs, es, nw, LL⟩ = F at *
   go_wp2_with fail
   go_loopw [9, 11] (fun ov i wr => ∃ k : Nat, k ≤ rs.length ∧ i = .int .i64 k ∧ ov = .string ⟨(F ++ (rs.take k).flatMap rowL).toArray⟩ ∧ Hid (Below W5.heap.size W5 wr)) (fun _ i _ => rs.length - (intOf i).toNat)
   case atStart => exact ⟨0, Nat.zero_le _, rfl, by simp, HB6⟩
   case round =>
    obtain ⟨k, hk, rfl, rfl, HBr⟩ := hrel
    have hlr := HLR.out k
    have hlk : (rs.take k).length ≤ rs.length := by rw [List.length_take]; omega
    have hTl : (F ++ (rs.take k).flatMap rowL).length ≤ 100000000000 := by rw [List.length_append]; omega
    have hwr := HBr.out.size
    have c4 := (HBr.out.cell (p := ⟨rb, 4, none⟩) hrl5).trans r4
    have hrlr : rb < wr.heap.size := by omega
    by_cases hlt : k < rs.length
    ·obtain ⟨r, hr2⟩ : ∃ r, rs[k]? = some r := ⟨_, List.getElem?_eq_getElem hlt⟩
     obtain ⟨b, rfl, hrow⟩ := (HY5.out.on HBr.out) k r hr2
     have hro := HOK.out.rows r (List.mem_of_getElem? hr2)
     have hrL0 := rowL_len hro
     have HT : Hid (F ++ (rs.take (k + 1)).flatMap rowL = (F ++ (rs.take k).flatMap rowL) ++ rowL r) := Lib.hid (by
      rw [List.take_succ_eq_append_getElem hlt, (List.getElem?_eq_some_iff.1 hr2).2, List.flatMap_append, List.append_assoc]
      simp)
     have q0 := hrow 0 _ rfl
     have q1' := hrow 1 _ rfl
     have q2' := hrow 2 _ rfl
     have q3 := hrow 3 _ rfl
     rw [Nat.add_zero] at q0
     have hbl : b < wr.heap.size := block_lt_of_cell q0
     generalize F ++ (rs.take k).flatMap rowL = T at *
     clear hrow hr2
     obtain ⟨id, pr, wd, wl⟩ := r
     obtain ⟨o1, o2, o3, o4⟩ := hro
     simp only at o1 o2 o3 o4 q0 q1' q2' q3
     have hrL : (lineL [74, 79, 66] [id, pr, wd, wl]).length ≤ 90 := hrL0
     go_wp2_with (go_at_call 81; refine (textR_any [74, 79, 66] (by decide) (some ⟨wr.heap.size + 1, 0, none⟩) 4 [id, pr, wd, wl] (by intro x hx; simp at hx; rcases hx with rfl | rfl | rfl | rfl <;> assumption) (by simp) _ (numsAt_new _ _ _ _ rfl _ (by simp))).mono ?_; rintro e w7 ⟨rfl, hb7⟩; refine Hid.out ?_)
     refine Lib.hid ?_
     have HB7 := Lib.hid (HBr.out.trans ((((Below.refl _ _).alloc (Nat.le_refl _) _).alloc (by simp) _).trans (hb7.mono (by simp <;> omega))|>.mono hwr))
     clear hb7
     go_wp2
     go_roundw
     case rel => exact ⟨k + 1, by omega, by go_num, val_str (by rw [HT.out]; exact cat_bytes _ _), HB7⟩
     case measure => simp [intOf]; omega
    ·obtain rfl : k = rs.length := by omega
     rw [List.take_length] at hTl ⊢
     generalize hG : F ++ rs.flatMap rowL = G at *
     go_wp2_with fail
     go_loopw [9, 13] (fun ov i wx => ∃ k : Nat, k ≤ es.length ∧ i = .int .i64 k ∧ ov = .string ⟨(G ++ (es.take k).flatMap evL).toArray⟩ ∧ Hid (Below W5.heap.size W5 wx)) (fun _ i _ => es.length - (intOf i).toNat)
     case atStart => exact ⟨0, Nat.zero_le _, rfl, by simp, HBr⟩
     case round =>
      obtain ⟨k, hk, rfl, rfl, HBx⟩ := hrel
      obtain ⟨wx, hwx0⟩ : ∃ wx, wx = wr := ⟨_, rfl⟩
      subst hwx0
      have hle := HLE.out k
      have hlk : (es.take k).length ≤ es.length := by rw [List.length_take]; omega
      have hTl2 : (G ++ (es.take k).flatMap evL).length ≤ 80000000000000 := by rw [List.length_append]; omega
      have hwx := HBx.out.size
      have c5 := (HBx.out.cell (p := ⟨rb, 5, none⟩) hrl5).trans r5
      have hrlx : rb < wx.heap.size := by omega
      clear c4 hrlr
      by_cases hlt : k < es.length
      ·obtain ⟨e, he2⟩ : ∃ e, es[k]? = some e := ⟨_, List.getElem?_eq_getElem hlt⟩
       obtain ⟨b, rfl, hrow⟩ := (HV5.out.on HBx.out) k e he2
       have heo := HOK.out.evs e (List.mem_of_getElem? he2)
       have heL0 := evL_len heo
       have HT : Hid (G ++ (es.take (k + 1)).flatMap evL = (G ++ (es.take k).flatMap evL) ++ evL e) := Lib.hid (by
        rw [List.take_succ_eq_append_getElem hlt, (List.getElem?_eq_some_iff.1 he2).2, List.flatMap_append, List.append_assoc]
        simp)
       have q0 := hrow 0 _ rfl
       have q1' := hrow 1 _ rfl
       have q2' := hrow 2 _ rfl
       have q3 := hrow 3 _ rfl
       rw [Nat.add_zero] at q0
       have hbl : b < wx.heap.size := block_lt_of_cell q0
       generalize G ++ (es.take k).flatMap evL = T at *
       clear hrow he2
       obtain ⟨kd, id, tm, de⟩ := e
       obtain ⟨o1, o2, o3⟩ := heo
       simp only at o1 o2 o3 q0 q1' q2' q3
       by_cases hk1 : kd = 1
       ·subst hk1
        have heL : (lineL [83, 84, 65, 82, 84] [id, tm]).length ≤ 70 := by have := heL0; simp only [evL, if_pos] at this; exact this
        have HT2 : Hid (G ++ (es.take (k + 1)).flatMap evL = T ++ lineL [83, 84, 65, 82, 84] [id, tm]) := Lib.hid (by rw [HT.out]; simp only [evL, if_pos])
        go_wp2_with (go_at_call 81; refine (textR_any [83, 84, 65, 82, 84] (by decide) (some ⟨wx.heap.size + 1, 0, none⟩) 2 [id, tm] (by intro x hx; simp at hx; rcases hx with rfl | rfl <;> assumption) (by simp) _ (numsAt_new _ _ _ _ rfl _ (by simp))).mono ?_; rintro e w7 ⟨rfl, hb7⟩; refine Hid.out ?_)
        refine Lib.hid ?_
        have HB7 := Lib.hid (HBx.out.trans ((((Below.refl _ _).alloc (Nat.le_refl _) _).alloc (by simp) _).trans (hb7.mono (by simp <;> omega))|>.mono hwx))
        clear hb7
        go_wp2
        go_roundw
        case rel => exact ⟨k + 1, by omega, by go_num, val_str (by rw [HT2.out]; exact cat_bytes _ _), HB7⟩
        case measure => simp [intOf]; omega
       by_cases hk2 : kd = 2
       ·subst hk2
        have heL : (lineL [69, 78, 68] [id, tm]).length ≤ 70 := by have := heL0; simp only [evL, if_pos, if_neg (show ¬ (2 : Int) = 1 by decide)] at this; exact this
        have HT2 : Hid (G ++ (es.take (k + 1)).flatMap evL = T ++ lineL [69, 78, 68] [id, tm]) := Lib.hid (by rw [HT.out]; simp only [evL, if_pos, if_neg (show ¬ (2 : Int) = 1 by decide)])
        go_wp2_with (go_at_call 81; refine (textR_any [69, 78, 68] (by decide) (some ⟨wx.heap.size + 1, 0, none⟩) 2 [id, tm] (by intro x hx; simp at hx; rcases hx with rfl | rfl <;> assumption) (by simp) _ (numsAt_new _ _ _ _ rfl _ (by simp))).mono ?_; rintro e w7 ⟨rfl, hb7⟩; refine Hid.out ?_)
        refine Lib.hid ?_
        have HB7 := Lib.hid (HBx.out.trans ((((Below.refl _ _).alloc (Nat.le_refl _) _).alloc (by simp) _).trans (hb7.mono (by simp <;> omega))|>.mono hwx))
        clear hb7
        go_wp2
        go_roundw
        case rel => exact ⟨k + 1, by omega, by go_num, val_str (by rw [HT2.out]; exact cat_bytes _ _), HB7⟩
        case measure => simp [intOf]; omega
       ·have hk1b : (kd == 1) = false := beq_eq_false_iff_ne.2 hk1
        have hk2b : (kd == 2) = false := beq_eq_false_iff_ne.2 hk2
        have heL : (lineL [77, 79, 86, 69, 68] [id, tm, de]).length ≤ 70 := by have := heL0; simp only [evL, if_neg hk1, if_neg hk2] at this; exact this
        have HT2 : Hid (G ++ (es.take (k + 1)).flatMap evL = T ++ lineL [77, 79, 86, 69, 68] [id, tm, de]) := Lib.hid (by rw [HT.out]; simp only [evL, if_neg hk1, if_neg hk2])
        go_wp2_with (go_at_call 81; refine (textR_any [77, 79, 86, 69, 68] (by decide) (some ⟨wx.heap.size + 1, 0, none⟩) 3 [id, tm, de] (by intro x hx; simp at hx; rcases hx with rfl | rfl | rfl <;> assumption) (by simp) _ (numsAt_new _ _ _ _ rfl _ (by simp))).mono ?_; rintro e w7 ⟨rfl, hb7⟩; refine Hid.out ?_)
        refine Lib.hid ?_
        have HB7 := Lib.hid (HBx.out.trans ((((Below.refl _ _).alloc (Nat.le_refl _) _).alloc (by simp) _).trans (hb7.mono (by simp <;> omega))|>.mono hwx))
        clear hb7
        go_wp2
        go_roundw
        case rel => exact ⟨k + 1, by omega, by go_num, val_str (by rw [HT2.out]; exact cat_bytes _ _), HB7⟩
        case measure => simp [intOf]; omega
      ·obtain rfl : k = es.length := by omega
       rw [List.take_length] at hTl2 ⊢
       have hA : answerL N ⟨0, oa, ob, oc, rs, es, nw, LL⟩ = G ++ es.flatMap evL := by rw [HAN.out, ← hG]
       have hfin := FIN.out _ HBx.out
       rw [hA] at hfin
       go_wp2
       go_ret
       exact hfin
 ·obtain ⟨j, rfl⟩ : ∃ j : Nat, oe = (j : Int) := ⟨oe.toNat, by omega⟩
  have hj1 : 1 ≤ j := by omega
  have hj7 : j ≤ 7 := by omega
  have i0 : (0 : Int) ≤ (j : Int) := by omega
  have i8 : (j : Int) < 8 := by omega
  have hne : ¬ (j : Int) = 0 := he
  have hneb : ((j : Int) == 0) = false := beq_eq_false_iff_ne.2 he
  have hpl := errW_len (j : Int)
  have HAE : Hid (answerL N ⟨(j : Int), oa, ob, oc, rs, es, nw, LL⟩ = errL (j : Int)) := Lib.hid (by unfold answerL; rw [if_neg he])
  go_upto_region 5 with fail
  clear nf n0 n1 n2 n3 n4 n5
  generalize ((((((w4.setCell ⟨rb, 0, none⟩ (.int .i64 (j : Int))).setCell ⟨rb, 1, none⟩ (.int .i64 oa)).setCell ⟨rb, 2, none⟩ (.int .i64 ob)).setCell ⟨rb, 3, none⟩ (.int .i64 oc)).setCell ⟨rb, 4, none⟩ (.slice q1 rs.length c1)).setCell ⟨rb, 5, none⟩ (.slice q2 es.length c2)) = W5 at *
  have r0 := cell_of_row _ _ 0 _ _ (0, 0) HR6.out
  have r1 := cell_of_row _ _ 1 _ _ (0, 0) HR6.out
  have r2 := cell_of_row _ _ 2 _ _ (0, 0) HR6.out
  have r3 := cell_of_row _ _ 3 _ _ (0, 0) HR6.out
  have r4 := cell_of_row _ _ 4 _ _ (0, 0) HR6.out
  have r5 := cell_of_row _ _ 5 _ _ (0, 0) HR6.out
  simp at r0 r1 r2 r3 r4 r5
  have hrl5 : rb < W5.heap.size := (Array.getElem?_eq_some_iff.1 HR6.out).1
  clear HR6
  have nv : (W5.alloc (.cells #[.string ⟨#[]⟩, .string ⟨#[65, 82, 71]⟩, .string ⟨#[87, 73, 68, 84, 72]⟩, .string ⟨#[87, 65, 76, 76]⟩, .string ⟨#[70, 85, 76, 76]⟩, .string ⟨#[74, 79, 66]⟩, .string ⟨#[80, 72, 65, 83, 69]⟩, .string ⟨#[84, 73, 77, 69]⟩] 9)).cell? ⟨W5.heap.size, j, none⟩ = some (.string ⟨(errW (j : Int)).toArray⟩) := (cell_of_row _ _ j _ _ (0, 0) (heap_alloc_new W5 (.cells #[.string ⟨#[]⟩, .string ⟨#[65, 82, 71]⟩, .string ⟨#[87, 73, 68, 84, 72]⟩, .string ⟨#[87, 65, 76, 76]⟩, .string ⟨#[70, 85, 76, 76]⟩, .string ⟨#[74, 79, 66]⟩, .string ⟨#[80, 72, 65, 83, 69]⟩, .string ⟨#[84, 73, 77, 69]⟩] 9))).trans (errV_at j hj1 hj7)
  have hfin := FIN.out _ ((Below.refl W5.heap.size W5).alloc (Nat.le_refl _) (.cells #[.string ⟨#[]⟩, .string ⟨#[65, 82, 71]⟩, .string ⟨#[87, 73, 68, 84, 72]⟩, .string ⟨#[87, 65, 76, 76]⟩, .string ⟨#[70, 85, 76, 76]⟩, .string ⟨#[74, 79, 66]⟩, .string ⟨#[80, 72, 65, 83, 69]⟩, .string ⟨#[84, 73, 77, 69]⟩] 9))
  rw [HAE.out, ← err_cat] at hfin
  clear FIN HAE
  go_wp2
  go_ret
  exact hfin

theorem refLine_no (bc : Nat) (w : World) (s : ByteArray) (hm : s.size ≤ maxLen) (hc : ∀ n x y, ¬ Cmd s n x y) :
  Calls Tryz.prog 47 #[.pointer (some ⟨bc, 0, none⟩), .string s] w fun e w' => e = .returned (.string ⟨(errL 1).toArray⟩) ∧ Below w.heap.size w w' := by
 have HPs := Lib.hid (refP_nocmd s w hm hc)
 have hcat := err_cat 1
 clear hc
 go_enter Tryz.func47, Tryz.ntmps47
 go_wp2_with (go_at_call 40; refine HPs.out.mono ?_; rintro e w1 ⟨rfl, hb1⟩; refine Hid.out ?_)
 refine Lib.hid ?_
 have HB1 := Lib.hid hb1
 clear hb1 HPs
 go_wp2
 go_ret
 exact ⟨ret_str hcat, ((HB1.out.alloc HB1.out.size _).alloc (by have := HB1.out.size; simp; omega) _).alloc (by have := HB1.out.size; simp; omega) _⟩

end Go.Proofs.YtpcgnadfldimhaaGreatDoor
namespace Go.Proofs.YtpcgnadfldimhaaGreatDoor
open Go.RowKit

/-- A pair between the steps; X tells which blocks are its own. -/
def PairS (B bx bc N : Nat) (X : Nat → Prop) (w : World) : Prop :=
 ∃ nodes jobs wall last now L v bi vr vl vh E, (Good nodes jobs wall last now L ∧ Phases L) ∧ L.length ≤ N ∧ RefO B bc nodes jobs wall last now v L w ∧ Prog B bx bi nodes jobs wall last now vr vl vh L E w ∧ ∀ k, X k ↔ (k = bc ∨ v.ownBlock = some k ∨ progB bx bi vr vl vh k)

theorem PairS.lt {B bx bc N : Nat} {X : Nat → Prop} {w : World} (h : PairS B bx bc N X w) (k : Nat) (hk : X k) : B ≤ k ∧ k < w.heap.size := by
 obtain ⟨nodes, jobs, wall, last, now, L, v, bi, vr, vl, vh, E, _, _, hR, hP, hX⟩ := h
 rcases (hX k).1 hk with rfl | e | e
 ·exact ⟨hR.low, hR.lt⟩
 ·exact hR.own.lt k e
 ·exact hP.lt k e

theorem PairS.kept {B bx bc N : Nat} {X S : Nat → Prop} {w w' : World} (h : PairS B bx bc N X w) (hK : Kept S w w') (hS : ∀ k, X k → ¬ S k) : PairS B bx bc N X w' := by
 obtain ⟨nodes, jobs, wall, last, now, L, v, bi, vr, vl, vh, E, hG, hN, hR, hP, hX⟩ := h
 exact ⟨nodes, jobs, wall, last, now, L, v, bi, vr, vl, vh, E, hG, hN, hR.kept hK (fun k hs => ⟨fun e => hS k ((hX k).2 (Or.inl e)) hs, fun e => hS k ((hX k).2 (Or.inr (Or.inl e))) hs⟩), hP.kept hK (fun k hk hs => hS k ((hX k).2 (Or.inr (Or.inr hk))) hs), hX⟩

theorem PairS.mono {B bx bc N N' : Nat} {X : Nat → Prop} {w : World} (h : PairS B bx bc N X w) (hN : N ≤ N') : PairS B bx bc N' X w := by
 obtain ⟨nodes, jobs, wall, last, now, L, v, bi, vr, vl, vh, E, hG, hL, r⟩ := h
 exact ⟨nodes, jobs, wall, last, now, L, v, bi, vr, vl, vh, E, hG, Nat.le_trans hL hN, r⟩

/-- The two never share a block: their blocks are of different kinds. -/
theorem ref_apart {B bx bc bi : Nat} {nodes jobs wall last now : Int} {v vr vl vh : Value} {L : List Job} {E : List Ev} {w : World} (hR : RefO B bc nodes jobs wall last now v L w) (hP : Prog B bx bi nodes jobs wall last now vr vl vh L E w) (k : Nat) (hk : progB bx bi vr vl vh k) : k ≠ bc ∧ v.ownBlock ≠ some k := by
 have hb := hR.blk
 rcases hk with rfl | rfl | e | e | e
 ·refine ⟨fun e => ?_, owns_not hR.own hP.out (by decide)⟩
  subst e
  rw [hP.out] at hb
  simp at hb
 ·refine ⟨fun e => ?_, owns_not hR.own hP.clu.cl.hp.blk (by decide)⟩
  subst e
  rw [hP.clu.cl.hp.blk] at hb
  simp at hb
 ·exact ⟨fun e2 => owns_not hP.clu.cl.rcd hb (by decide) (e2 ▸ e), owns_apart hP.clu.cl.rcd hR.own (by decide) k e⟩
 ·exact ⟨fun e2 => owns_not hP.clu.cl.liv hb (by decide) (e2 ▸ e), owns_apart hP.clu.cl.liv hR.own (by decide) k e⟩
 ·exact ⟨fun e2 => owns_not hP.clu.cl.hp.row hb (by decide) (e2 ▸ e), owns_apart hP.clu.cl.hp.row hR.own (by decide) k e⟩

/-- What the two Do leave of the pair. -/
def PairQ (B bx bc N : Nat) (X : Nat → Prop) (w : World) (y1 x1 : Value) (w4 : World) : Prop :=
 ∃ X', PairS B bx bc (N + 1) X' w4 ∧ Kept X w w4 ∧ (∀ k, X' k → X k ∨ w.heap.size ≤ k) ∧ ∀ k, y1.ownBlock = some k ∨ x1.ownBlock = some k → w.heap.size ≤ k ∧ k < w4.heap.size ∧ ¬ X' k

theorem both_of (B bx bc N wb : Nat) (X : Nat → Prop) (cs rs es m0 m1 : Value) (vr ve : List Value) (ir ie : List Int) (a : Addr) (m : Int) (w0 w : World) (hE : Env a m w0) (h0 : Below w0.heap.size w0 w) (hB0 : w0.heap.size ≤ B) (hBw : B ≤ w.heap.size) (h : PairS B bx bc N X w) (hN : N < 999999999) (hL : LawM B wb cs rs es m0 m1 vr ve ir ie w) (hX : ∀ k, X k → ¬ lawB wb rs es m0 m1 k) (k x y : Int) (Q : Value → Value → World → Prop) (hQ : ∀ y1 x1 w4, PairQ B bx bc N X w y1 x1 w4 → Q y1 x1 w4) :
  Both bx bc k x y B wb cs rs es m0 m1 vr ve ir ie Q w := by
 intro w1 hb1
 have hlt := fun k hk => h.lt k hk
 have h1 : PairS B bx bc N X w1 := h.kept (S := fun _ => False) (Kept.of_below hb1) (fun _ _ e => e)
 obtain ⟨nodes, jobs, wall, last, now, L, v, bi, pr, pl, ph, E, hGP, hLN, hR1, hP1, hXX⟩ := h1
 have hG := hGP.1
 have hs1 := hb1.size
 have hB1 : Below w0.heap.size w0 w1 := h0.trans (hb1.mono h0.size)
 have hbc : bc < w.heap.size := (hlt bc ((hXX bc).2 (Or.inl rfl))).2
 have hv : ∀ k, v.ownBlock = some k → k < w.heap.size := fun k e => (hlt k ((hXX k).2 (Or.inr (Or.inl e)))).2
 have hp : ∀ k, progB bx bi pr pl ph k → k < w.heap.size := fun k e => (hlt k ((hXX k).2 (Or.inr (Or.inr e)))).2
 refine (doP B bx bi nodes jobs wall last now pr pl ph L E a m w0 hE w1 hB1 hB0 (by omega) hP1 hG (by omega) k x y).mono ?_
 rintro e w2 ⟨o, y1, x1, pr', pl', ph', E', hD, rfl, hY1, hX1, hP2, hK2, hN2, hA2⟩
 have hs2 := hK2.size
 obtain ⟨q1, c1, ey⟩ := own_slice hY1
 obtain ⟨q2, c2, ex⟩ := own_slice hX1
 refine ⟨o.err, o.a, o.b, o.c, y1, x1, rfl, ⟨q1, _, c1, ey⟩, ⟨q2, _, c2, ex⟩, ⟨hs2, fun k h4 h5 => hK2.block k h5 (fun e => by have := hp k e; omega)⟩, ?_⟩
 intro w3 hb3
 have hs3 := hb3.size
 have hR2 : RefO B bc nodes jobs wall last now v L w2 := hR1.kept hK2 (fun k e => ⟨(ref_apart hR1 hP1 k e).1, (ref_apart hR1 hP1 k e).2⟩)
 have hR3 : RefO B bc nodes jobs wall last now v L w3 := hR2.kept (S := fun _ => False) (Kept.of_below hb3) (fun _ e => e.elim)
 refine (do_refE B bc nodes jobs wall last now v L w3 hR3 hG (by omega) (by omega) k x y).mono ?_
 rintro e w4 ⟨o', hD', y2, x2, v', rfl, hY2, hX2, hR4, hK4, hV4⟩
 obtain rfl := doE_unique hG hD hD'
 have hs4 := hK4.size
 obtain ⟨sr, se⟩ := doE_small hG hD (by omega)
 obtain ⟨hG4, hL4⟩ := good_doE hG hD
 have nY : ∀ k, y1.ownBlock = some k → w1.heap.size ≤ k ∧ k < w2.heap.size := fun k e => hY1.lt k e
 have nX : ∀ k, x1.ownBlock = some k → w1.heap.size ≤ k ∧ k < w2.heap.size := fun k e => hX1.lt k e
 have hnS : ∀ k, w.heap.size ≤ k → ¬ (k = bc ∨ v.ownBlock = some k) := fun k e1 e3 => by
  rcases e3 with e3 | e3
  ·omega
  ·have := hv k e3; omega
 have k24 : ∀ k, w1.heap.size ≤ k → k < w2.heap.size → w4.heap[k]? = w2.heap[k]? := fun k e1 e2 => (hK4.block k (by omega) (hnS k (by omega))).trans (hb3.block k e2)
 have hY4 := owns_on (w' := w4) hY1 (fun k e => k24 k (nY k e).1 (nY k e).2)
 have hX4 := owns_on (w' := w4) hX1 (fun k e => k24 k (nX k e).1 (nX k e).2)
 have hP3 : Prog B bx bi nodes jobs wall last o.now pr' pl' ph' o.L E' w3 := hP2.kept (S := fun _ => False) (Kept.of_below hb3) (fun _ _ e => e)
 have hap : ∀ k, progB bx bi pr' pl' ph' k → ¬ (k = bc ∨ v.ownBlock = some k) := fun k e => by
  rcases hN2 k e with e1 | e1
  ·have := ref_apart hR1 hP1 k e1
   rintro (e2 | e2)
   ·exact this.1 e2
   ·exact this.2 e2
  ·rintro (e2 | e2)
   ·omega
   ·have := hv k e2; omega
 have hP4 : Prog B bx bi nodes jobs wall last o.now pr' pl' ph' o.L E' w4 := hP3.kept hK4 hap
 have hKK : Kept X w w4 := (((Kept.of_below (S := X) hb1).trans (hK2.mono (T := X) (fun k e => (hXX k).2 (Or.inr (Or.inr e)))) (fun _ e => Or.inl e)).trans (Kept.of_below (S := X) hb3) (fun _ e => Or.inl e)).trans (hK4.mono (T := X) (fun k e => (hXX k).2 (e.elim Or.inl (fun e => Or.inr (Or.inl e))))) (fun _ e => Or.inl e)
 refine ⟨y2, x2, o.rows, o.evs, w1.heap.size, w1.heap.size, w3.heap.size, w3.heap.size, rfl, ⟨hs4, fun k h4 h5 => hK4.block k h5 (hnS k h4)⟩, hY4, hX4, hY2, hX2, sr, se, by omega, by omega, hL.kept hKK hX, hQ _ _ _ ?_⟩
 refine ⟨fun k => k = bc ∨ v'.ownBlock = some k ∨ progB bx bi pr' pl' ph' k, ⟨nodes, jobs, wall, last, o.now, o.L, v', bi, pr', pl', ph', E', ⟨hG4, phases_doE hGP.2 hD⟩, by omega, hR4, hP4, fun k => Iff.rfl⟩, hKK, ?_, ?_⟩
 ·rintro k (e | e | e)
  ·exact Or.inl ((hXX k).2 (Or.inl e))
  ·rcases hV4 k e with e | e
   ·exact Or.inl ((hXX k).2 (Or.inr (Or.inl e)))
   ·exact Or.inr (by omega)
  ·rcases hN2 k e with e | e
   ·exact Or.inl ((hXX k).2 (Or.inr (Or.inr e)))
   ·exact Or.inr (by omega)
 ·rintro k (e | e)
  ·refine ⟨by have := (nY k e).1; omega, by have := (nY k e).2; omega, ?_⟩
   rintro (e2 | e2 | e2)
   ·exact owns_not hY4 hR4.blk (by decide) (e2 ▸ e)
   ·exact owns_apart hY4 hR4.own (by decide) k e e2
   ·rcases e2 with e2 | e2 | e2 | e2 | e2
    ·exact owns_not hY4 hP4.out (by decide) (e2 ▸ e)
    ·exact owns_not hY4 hP4.clu.cl.hp.blk (by decide) (e2 ▸ e)
    ·exact owns_apart hY4 hP4.clu.cl.rcd (by decide) k e e2
    ·exact owns_apart hY4 hP4.clu.cl.liv (by decide) k e e2
    ·exact owns_apart hY4 hP4.clu.cl.hp.row (by decide) k e e2
  ·refine ⟨by have := (nX k e).1; omega, by have := (nX k e).2; omega, ?_⟩
   rintro (e2 | e2 | e2)
   ·exact owns_not hX4 hR4.blk (by decide) (e2 ▸ e)
   ·exact owns_apart hX4 hR4.own (by decide) k e e2
   ·exact hA2 k e e2

end Go.Proofs.YtpcgnadfldimhaaGreatDoor
namespace Go.Proofs.YtpcgnadfldimhaaGreatDoor
open Go.RowKit

set_option maxHeartbeats 8000000 in
set_option maxRecDepth 100000 in
/-- A step of a kind that does nothing. -/
theorem step_idle (B wb n : Nat) (cs rs es m0 m1 : Value) (vr ve ps : List Value) (ir ie : List Int) (w : World) (hL : LawM B wb cs rs es m0 m1 vr ve ir ie w) (oC : w.ownsRow B 104 2 cs n ps) (hn : 1 ≤ n) (hn' : n ≤ 1000000000)
  (q i c1 c2 c3 c4 k d2 d3 : Int) (s : ByteArray) (hi1 : -9223372036854775808 ≤ i) (hi2 : i ≤ 9223372036854775807) (q1 : q ≠ 1) (q2 : q ≠ 2) (q3 : q ≠ 3) (q4 : q ≠ 4) (q5 : q ≠ 5) (q6 : q ≠ 6)
  (hps : ∀ j, j < n → ∃ bx bc, ps[j * 2]? = some (.pointer (some ⟨bx, 0, none⟩)) ∧ ps[j * 2 + 1]? = some (.pointer (some ⟨bc, 0, none⟩))) :
  Calls Tryz.prog 28 #[.pointer (some ⟨wb, 0, none⟩), .agg #[.int .i64 q, .int .i64 i, .int .i64 c1, .int .i64 c2, .int .i64 c3, .int .i64 c4, .int .i64 k, .int .i64 d2, .int .i64 d3, .string s]] w fun e w' => e = .returned (.bool true) ∧ Below w.heap.size w w' := by
 have hwb : wb < w.heap.size := hL.lt wb (Or.inl rfl)
 obtain ⟨g, c, rfl⟩ : ∃ g c, cs = .slice (some ⟨g, 0, none⟩) n c := by
  rcases own_forms oC with ⟨_, hn⟩ | ⟨g, c2, e⟩
  ·omega
  ·exact ⟨g, c2, e⟩
 have c0 := cell_of_row _ _ 0 _ _ (0, 0) hL.W
 simp at c0
 have hg : g < w.heap.size := (oC.lt g rfl).2
 have hC := fun j hj => (oC.cellAt (g := g) j hj)
 obtain ⟨bx, bc, hp0, hp1⟩ := hps (pickN i n) (pickN_lt i n hn)
 have hj := pickN_lt i n hn
 generalize hJ : pickN i n = j at *
 have hlen := oC.1
 have a0 := (hC (j * 2) (by omega)).trans hp0
 have a1 := (hC (j * 2 + 1) (by omega)).trans hp1
 have e1 : (0 : Int) ≤ (j : Int) := by omega
 have e2 : (j : Int) < (n : Int) := by omega
 have f1 : (q == 1) = false := beq_eq_false_iff_ne.2 q1
 have f2 : (q == 2) = false := beq_eq_false_iff_ne.2 q2
 have f3 : (q == 3) = false := beq_eq_false_iff_ne.2 q3
 have f4 : (q == 4) = false := beq_eq_false_iff_ne.2 q4
 have f5 : (q == 5) = false := beq_eq_false_iff_ne.2 q5
 have f6 : (q == 6) = false := beq_eq_false_iff_ne.2 q6
 clear hL hC oC hps hp0 hp1
 go_enter Tryz.func28, Tryz.ntmps28
 go_wp2
 go_region_held3 (fun w' => w'.cell? ⟨wb, 0, none⟩ = some (.slice (some ⟨g, 0, none⟩) n c) ∧ w'.cell? ⟨w.heap.size, 1, none⟩ = some (.int .i64 i) ∧ w'.cell? ⟨g, j * 2, none⟩ = some (.pointer (some ⟨bx, 0, none⟩)) ∧ w'.cell? ⟨g, j * 2 + 1, none⟩ = some (.pointer (some ⟨bc, 0, none⟩))) (go_keep) (first | (go_at_call 43; refine (pick_is i n _ hi1 hi2 hn (by omega)).mono ?_; rintro e w2 ⟨rfl, hw⟩; subst w2; rw [hJ]))
 all_goals
  go_wp2
  go_ret
  exact ⟨rfl, (((Below.refl w.heap.size w).alloc (Nat.le_refl _) _).alloc (by simp) _).drew⟩

/-- Which blocks no list may lie in. -/
def barB (wb n : Nat) (cs rs es m0 m1 : Value) (X : Nat → Nat → Prop) (k : Nat) : Prop := lawB wb rs es m0 m1 k ∨ cs.ownBlock = some k ∨ ∃ j, j < n ∧ X j k

/-- What is kept: n pairs; at most p jobs in each; at most 4 * p lists of each kind. -/
structure InvD (B wb n p : Nat) (cs rs es m0 m1 : Value) (vr ve ps : List Value) (ir ie : List Int) (X : Nat → Nat → Prop) (w : World) : Prop where
 law : LawM B wb cs rs es m0 m1 vr ve ir ie w
 prs : w.ownsRow B 104 2 cs n ps
 few : n ≤ p
 nr : vr.length ≤ 4 * p
 ne : ve.length ≤ 4 * p
 sr : Seen w vr ir (barB wb n cs rs es m0 m1 X)
 se : Seen w ve ie (barB wb n cs rs es m0 m1 X)
 each : ∀ j, j < n → ∃ bx bc, ps[j * 2]? = some (.pointer (some ⟨bx, 0, none⟩)) ∧ ps[j * 2 + 1]? = some (.pointer (some ⟨bc, 0, none⟩)) ∧ PairS B bx bc p (X j) w
 off : ∀ j k, j < n → X j k → ¬ lawB wb rs es m0 m1 k ∧ cs.ownBlock ≠ some k
 two : ∀ i j k, i < n → j < n → X i k → X j k → i = j

def InvP (B wb n p : Nat) (w : World) : Prop := ∃ cs rs es m0 m1 vr ve ps ir ie X, InvD B wb n p cs rs es m0 m1 vr ve ps ir ie X w

theorem InvD.below {B wb n p : Nat} {cs rs es m0 m1 : Value} {vr ve ps : List Value} {ir ie : List Int} {X : Nat → Nat → Prop} {w w' : World} (h : InvD B wb n p cs rs es m0 m1 vr ve ps ir ie X w) (hb : Below w.heap.size w w') : InvD B wb n p cs rs es m0 m1 vr ve ps ir ie X w' where
 law := h.law.kept (S := fun _ => False) (Kept.of_below hb) (fun _ e => e.elim)
 prs := owns_on h.prs (fun k e => hb.block k (h.prs.lt k e).2)
 few := h.few
 nr := h.nr
 ne := h.ne
 sr := h.sr.kept (S := fun _ => False) (Kept.of_below hb) (fun _ _ _ _ e => e) (fun _ e => Or.inl e)
 se := h.se.kept (S := fun _ => False) (Kept.of_below hb) (fun _ _ _ _ e => e) (fun _ e => Or.inl e)
 each := fun j hj => by
  obtain ⟨bx, bc, e1, e2, e3⟩ := h.each j hj
  exact ⟨bx, bc, e1, e2, e3.kept (S := fun _ => False) (Kept.of_below hb) (fun _ _ e => e)⟩
 off := h.off
 two := h.two
theorem InvP.below {B wb n p : Nat} {w w' : World} (h : InvP B wb n p w) (hb : Below w.heap.size w w') : InvP B wb n p w' := by
 obtain ⟨cs, rs, es, m0, m1, vr, ve, ps, ir, ie, X, h⟩ := h
 exact ⟨cs, rs, es, m0, m1, vr, ve, ps, ir, ie, X, h.below hb⟩
theorem InvP.more {B wb n p p' : Nat} {w : World} (h : InvP B wb n p w) (hp : p ≤ p') : InvP B wb n p' w := by
 obtain ⟨cs, rs, es, m0, m1, vr, ve, ps, ir, ie, X, h⟩ := h
 exact ⟨cs, rs, es, m0, m1, vr, ve, ps, ir, ie, X, h.law, h.prs, Nat.le_trans h.few hp, Nat.le_trans h.nr (by omega), Nat.le_trans h.ne (by omega), h.sr, h.se, fun j hj => by
  obtain ⟨bx, bc, e1, e2, e3⟩ := h.each j hj
  exact ⟨bx, bc, e1, e2, e3.mono hp⟩, h.off, h.two⟩
theorem InvP.lt {B wb n p : Nat} {w : World} (h : InvP B wb n p w) : wb < w.heap.size := by
 obtain ⟨cs, rs, es, m0, m1, vr, ve, ps, ir, ie, X, h⟩ := h
 exact h.law.lt wb (Or.inl rfl)

theorem InvP.looks {B wb n p : Nat} {w : World} (h : InvP B wb n p w) (hp : p ≤ 2000000000) : Calls Tryz.prog 30 #[.pointer (some ⟨wb, 0, none⟩)] w fun e w' => e = .returned (.bool true) ∧ Below w.heap.size w w' := by
 obtain ⟨cs, rs, es, m0, m1, vr, ve, ps, ir, ie, X, h⟩ := h
 have nr := h.nr
 have ne := h.ne
 obtain ⟨l1, l2⟩ := Seen.lists h.law h.sr h.se (by omega) (by omega)
 exact looks_any wb cs rs es m0 m1 vr ve ir ie w h.law.W l1 l2

/-- All of the law's blocks lie above. -/
theorem LawM.above {B wb : Nat} {cs rs es m0 m1 : Value} {vr ve : List Value} {ir ie : List Int} {w : World} (h : LawM B wb cs rs es m0 m1 vr ve ir ie w) (k : Nat) (hk : lawB wb rs es m0 m1 k) : B ≤ k := by
 rcases hk with rfl | e | e | e | e
 ·exact h.low
 ·exact (h.oR.lt k e).1
 ·exact (h.oE.lt k e).1
 ·exact (h.oM.lt k e).1
 ·exact (h.oN.lt k e).1

theorem Grp.seenP {w0 w : World} {l a1 a2 a3 : Value} {m : Int} {lb P : Nat → Prop} (h : Grp w0 w l m [a1, a2, a3] lb) (hP : ∀ k, P k → k < w0.heap.size ∧ l.ownBlock ≠ some k) : Seen w [l, a1, a2, a3] [m, m, m, m] (fun k => lb k ∨ P k) :=
 ⟨rfl, fun i v n hv hn => by
  have hm : n = m := by
   have := List.mem_of_getElem? hn
   simpa using this
  subst hm
  obtain ⟨h1, h2⟩ := h v (List.mem_of_getElem? hv)
  refine ⟨h1, fun k e => ⟨?_, (h2 k e).2.2⟩⟩
  rintro (e1 | e1)
  ·exact (h2 k e).2.1 e1
  ·rcases (h2 k e).1 with e2 | e2
   ·exact (hP k e1).2 e2
   ·have := (hP k e1).1; omega⟩

/-- What own leaves, for the lists, and for blocks P that no list may lie in. -/
theorem Owned.seenB {B wb : Nat} {cs rs es m0 m1 l kk : Value} {vr ve : List Value} {ir ie : List Int} {m : Int} {w w' : World} {P : Nat → Prop} (h : Owned B wb cs rs es m0 m1 l kk vr ve ir ie m w w') (h1 : Seen w vr ir (fun k => lawB wb rs es m0 m1 k ∨ P k)) (h2 : Seen w ve ie (fun k => lawB wb rs es m0 m1 k ∨ P k))
  (hP : ∀ k, P k → k < w.heap.size ∧ l.ownBlock ≠ some k ∧ kk.ownBlock ≠ some k)
  (hl : ∀ v, v ∈ vr ∨ v ∈ ve → ∀ k, v.ownBlock = some k → l.ownBlock ≠ some k ∧ kk.ownBlock ≠ some k) :
  ∃ rs' es' m0' m1' vr' ve', LawM B wb cs rs' es' m0' m1' vr' ve' (ir ++ [m, m, m, m]) (ie ++ [m, m, m, m]) w' ∧ Seen w' vr' (ir ++ [m, m, m, m]) (fun k => lawB wb rs' es' m0' m1' k ∨ P k) ∧ Seen w' ve' (ie ++ [m, m, m, m]) (fun k => lawB wb rs' es' m0' m1' k ∨ P k) ∧ vr'.length = vr.length + 4 ∧ ve'.length = ve.length + 4 ∧ Kept (fun k => l.ownBlock = some k ∨ kk.ownBlock = some k ∨ lawB wb rs es m0 m1 k) w w' ∧ ∀ k, lawB wb rs' es' m0' m1' k → lawB wb rs es m0 m1 k ∨ w.heap.size ≤ k := by
 obtain ⟨rs', es', m0', m1', a1, a2, a3, d1, d2, d3, hL, g1, g2, hK, hB⟩ := h
 have hs : ∀ (vs : List Value) (is : List Int), Seen w vs is (fun k => lawB wb rs es m0 m1 k ∨ P k) → (∀ v ∈ vs, v ∈ vr ∨ v ∈ ve) → ∀ v ∈ vs, ∀ k, v.ownBlock = some k → ¬ (l.ownBlock = some k ∨ kk.ownBlock = some k ∨ lawB wb rs es m0 m1 k) := fun vs is hh hm v hv k e => by
  obtain ⟨i, hi⟩ := List.mem_iff_getElem?.1 hv
  have hlt := (List.getElem?_eq_some_iff.1 hi).1
  obtain ⟨n, hn⟩ : ∃ n, is[i]? = some n := ⟨_, List.getElem?_eq_getElem (by rw [hh.1]; exact hlt)⟩
  have hx := hl v (hm v hv) k e
  rintro (e1 | e1 | e1)
  ·exact hx.1 e1
  ·exact hx.2 e1
  ·exact ((hh.2 i v n hi hn).2 k e).1 (Or.inl e1)
 have hb : ∀ k, (lawB wb rs' es' m0' m1' k ∨ P k) → (lawB wb rs es m0 m1 k ∨ P k) ∨ w.heap.size ≤ k := fun k e => by
  rcases e with e | e
  ·exact (hB k e).imp Or.inl id
  ·exact Or.inl (Or.inr e)
 exact ⟨rs', es', m0', m1', _, _, hL, (h1.kept hK (hs vr ir h1 (fun _ e => Or.inl e)) hb).append (g1.seenP (fun k e => ⟨(hP k e).1, (hP k e).2.1⟩)), (h2.kept hK (hs ve ie h2 (fun _ e => Or.inr e)) hb).append (g2.seenP (fun k e => ⟨(hP k e).1, (hP k e).2.2⟩)), by simp, by simp, hK, hB⟩

theorem Seen.off {w : World} {vs : List Value} {is : List Int} {lb : Nat → Prop} (h : Seen w vs is lb) (v : Value) (hv : v ∈ vs) (k : Nat) (e : v.ownBlock = some k) : ¬ lb k ∧ k < w.heap.size := by
 obtain ⟨i, hi⟩ := List.mem_iff_getElem?.1 hv
 have hlt := (List.getElem?_eq_some_iff.1 hi).1
 obtain ⟨n, hn⟩ : ∃ n, is[i]? = some n := ⟨_, List.getElem?_eq_getElem (by rw [h.1]; exact hlt)⟩
 exact (h.2 i v n hi hn).2 k e

/-- What a Do of pair j and what own leave. -/
theorem InvD.did {B wb n p j bx bc : Nat} {cs rs es m0 m1 y1 x1 : Value} {vr ve ps : List Value} {ir ie : List Int} {X : Nat → Nat → Prop} {m : Int} {w w4 w5 w' : World} (h : InvD B wb n p cs rs es m0 m1 vr ve ps ir ie X w) (hBw : B ≤ w.heap.size) (hj : j < n) (e1 : ps[j * 2]? = some (.pointer (some ⟨bx, 0, none⟩))) (e2 : ps[j * 2 + 1]? = some (.pointer (some ⟨bc, 0, none⟩)))
  (hQ : PairQ B bx bc p (X j) w y1 x1 w4) (hb : Below w4.heap.size w4 w5) (hO : Owned B wb cs rs es m0 m1 y1 x1 vr ve ir ie m w5 w') : InvP B wb n (p + 1) w' ∧ Kept (fun k => B ≤ k) w w' := by
 obtain ⟨X', hS4, hK4, hX', hyx⟩ := hQ
 have hs4 := hK4.size
 have hs5 := hb.size
 have hlt : ∀ i, i < n → ∀ k, X i k → B ≤ k ∧ k < w.heap.size := fun i hi k hk => by
  obtain ⟨_, _, _, _, hp⟩ := h.each i hi
  exact hp.lt k hk
 have hlt' : ∀ k, X' k → B ≤ k ∧ k < w4.heap.size := fun k hk => hS4.lt k hk
 have hcs : ∀ k, cs.ownBlock = some k → B ≤ k ∧ k < w.heap.size := fun k e => h.prs.lt k e
 have hK5 : Kept (X j) w w5 := hK4.trans (Kept.of_below (S := X j) hb) (fun _ e => Or.inl e)
 obtain ⟨Y, hY⟩ : ∃ Y : Nat → Nat → Prop, ∀ i k, Y i k ↔ (i = j ∧ X' k) ∨ (i ≠ j ∧ X i k) := ⟨fun i k => (i = j ∧ X' k) ∨ (i ≠ j ∧ X i k), fun _ _ => Iff.rfl⟩
 have hYX : ∀ i k, i < n → Y i k → X i k ∨ w.heap.size ≤ k := fun i k hi e => by
  rcases (hY i k).1 e with ⟨rfl, e⟩ | ⟨_, e⟩
  ·exact hX' k e
  ·exact Or.inl e
 have hYlt : ∀ i k, i < n → Y i k → k < w4.heap.size := fun i k hi e => by
  rcases (hY i k).1 e with ⟨rfl, e⟩ | ⟨_, e⟩
  ·exact (hlt' k e).2
  ·have := (hlt i hi k e).2; omega
 have hYl : ∀ i k, i < n → Y i k → y1.ownBlock ≠ some k ∧ x1.ownBlock ≠ some k := fun i k hi e => by
  rcases (hY i k).1 e with ⟨rfl, e⟩ | ⟨_, e⟩
  ·exact ⟨fun e3 => (hyx k (Or.inl e3)).2.2 e, fun e3 => (hyx k (Or.inr e3)).2.2 e⟩
  ·have := (hlt i hi k e).2
   exact ⟨fun e3 => by have := (hyx k (Or.inl e3)).1; omega, fun e3 => by have := (hyx k (Or.inr e3)).1; omega⟩
 have hYb : ∀ i k, i < n → Y i k → ¬ lawB wb rs es m0 m1 k ∧ cs.ownBlock ≠ some k := fun i k hi e => by
  rcases hYX i k hi e with e | e
  ·exact h.off i k hi e
  ·exact ⟨fun e3 => by have := h.law.lt k e3; omega, fun e3 => by have := (hcs k e3).2; omega⟩
 have hsee : ∀ (vs : List Value) (is : List Int), Seen w vs is (barB wb n cs rs es m0 m1 X) → Seen w5 vs is (fun k => lawB wb rs es m0 m1 k ∨ (cs.ownBlock = some k ∨ ∃ i, i < n ∧ Y i k)) := fun vs is hh =>
  hh.kept hK5 (fun v hv k e e3 => (hh.off v hv k e).1 (Or.inr (Or.inr ⟨j, hj, e3⟩))) (fun k e => by
   rcases e with e | e | ⟨i, hi, e⟩
   ·exact Or.inl (Or.inl e)
   ·exact Or.inl (Or.inr (Or.inl e))
   ·rcases hYX i k hi e with e | e
    ·exact Or.inl (Or.inr (Or.inr ⟨i, hi, e⟩))
    ·exact Or.inr e)
 obtain ⟨rs', es', m0', m1', vr', ve', hL', s1, s2, n1, n2, hKO, hBO⟩ := hO.seenB (hsee vr ir h.sr) (hsee ve ie h.se) (fun k e => by
   rcases e with e | ⟨i, hi, e⟩
   ·have := (hcs k e).2
    exact ⟨by omega, fun e3 => by have := (hyx k (Or.inl e3)).1; omega, fun e3 => by have := (hyx k (Or.inr e3)).1; omega⟩
   ·exact ⟨by have := hYlt i k hi e; omega, hYl i k hi e⟩) (fun v hv k e => by
   have hk : k < w.heap.size := by
    rcases hv with hv | hv
    ·exact (h.sr.off v hv k e).2
    ·exact (h.se.off v hv k e).2
   exact ⟨fun e3 => by have := (hyx k (Or.inl e3)).1; omega, fun e3 => by have := (hyx k (Or.inr e3)).1; omega⟩)
 have hav : ∀ k, cs.ownBlock = some k → ¬ lawB wb rs es m0 m1 k := fun k e => h.law.avoid h.prs (by decide) (by decide) (by decide) (by decide) k e
 have few := h.few
 have nr := h.nr
 have ne := h.ne
 refine ⟨⟨cs, rs', es', m0', m1', vr', ve', ps, _, _, Y, hL', ?_, by omega, by omega, by omega, s1, s2, ?_, ?_, ?_⟩, ?_⟩
 ·have h5 : w5.ownsRow B 104 2 cs n ps := owns_on h.prs (fun k e => hK5.block k (hcs k e).2 (fun e3 => (h.off j k hj e3).2 e))
  refine owns_on h5 (fun k e => hKO.block k (h5.lt k e).2 ?_)
  have := (hcs k e).2
  rintro (e3 | e3 | e3)
  ·have := (hyx k (Or.inl e3)).1; omega
  ·have := (hyx k (Or.inr e3)).1; omega
  ·exact hav k e e3
 ·intro i hi
  have hnS : ∀ k, Y i k → ¬ (y1.ownBlock = some k ∨ x1.ownBlock = some k ∨ lawB wb rs es m0 m1 k) := fun k e => by
   rintro (e3 | e3 | e3)
   ·exact (hYl i k hi e).1 e3
   ·exact (hYl i k hi e).2 e3
   ·exact (hYb i k hi e).1 e3
  by_cases hij : i = j
  ·subst hij
   have e : Y i = X' := funext fun k => propext ((hY i k).trans ⟨fun e => e.elim (fun e => e.2) (fun e => (e.1 rfl).elim), fun e => Or.inl ⟨rfl, e⟩⟩)
   refine ⟨bx, bc, e1, e2, ?_⟩
   rw [e] at hnS ⊢
   exact (hS4.kept (S := fun _ => False) (Kept.of_below hb) (fun _ _ e => e)).kept hKO hnS
  ·have e : Y i = X i := funext fun k => propext ((hY i k).trans ⟨fun e => e.elim (fun e => (hij e.1).elim) (fun e => e.2), fun e => Or.inr ⟨hij, e⟩⟩)
   obtain ⟨bx2, bc2, f1, f2, f3⟩ := h.each i hi
   refine ⟨bx2, bc2, f1, f2, ?_⟩
   rw [e] at hnS ⊢
   exact ((f3.kept hK5 (fun k hk e3 => hij (h.two i j k hi hj hk e3))).kept hKO hnS).mono (by omega)
 ·intro i k hi e
  refine ⟨fun e3 => ?_, (hYb i k hi e).2⟩
  rcases hBO k e3 with e4 | e4
  ·exact (hYb i k hi e).1 e4
  ·have := hYlt i k hi e; omega
 ·intro i i' k hi hi' e e'
  rcases (hY i k).1 e with ⟨a1, b1⟩ | ⟨a1, b1⟩ <;> rcases (hY i' k).1 e' with ⟨a2, b2⟩ | ⟨a2, b2⟩
  ·omega
  ·rcases hX' k b1 with c | c
   ·exact (a2 (h.two i' j k hi' hj b2 c)).elim
   ·have := (hlt i' hi' k b2).2; omega
  ·rcases hX' k b2 with c | c
   ·exact (a1 (h.two i j k hi hj b1 c)).elim
   ·have := (hlt i hi k b1).2; omega
  ·exact h.two i i' k hi hi' b1 b2
 ·refine (hK5.mono (T := fun k => B ≤ k) (fun k e => (hlt j hj k e).1)).trans (hKO.mono (T := fun k => B ≤ k) (fun k e => ?_)) (fun _ e => Or.inl e)
  rcases e with e | e | e
  ·have := (hyx k (Or.inl e)).1; omega
  ·have := (hyx k (Or.inr e)).1; omega
  ·exact h.law.above k e

/-- A step at KDo. -/
theorem InvP.doing {B wb n p : Nat} {w : World} (a : Addr) (m : Int) (w0 : World) (hE : Env a m w0) (h0 : Below w0.heap.size w0 w) (hB0 : w0.heap.size ≤ B) (hBw : B ≤ w.heap.size) (h : InvP B wb n p w) (hn : 1 ≤ n) (hp : p < 900000000) (i c1 c2 c3 c4 k d2 d3 : Int) (s : ByteArray) (hi1 : -9223372036854775808 ≤ i) (hi2 : i ≤ 9223372036854775807) (hk2 : k ≠ 2) (hk3 : k ≠ 3) :
  Calls Tryz.prog 28 #[.pointer (some ⟨wb, 0, none⟩), .agg #[.int .i64 4, .int .i64 i, .int .i64 c1, .int .i64 c2, .int .i64 c3, .int .i64 c4, .int .i64 k, .int .i64 d2, .int .i64 d3, .string s]] w fun e w' => e = .returned (.bool true) ∧ Below w0.heap.size w0 w' ∧ InvP B wb n (p + 1) w' := by
 obtain ⟨cs, rs, es, m0, m1, vr, ve, ps, ir, ie, X, h⟩ := h
 have few := h.few
 have nr := h.nr
 have ne := h.ne
 have lr := h.sr.1
 have le := h.se.1
 refine (step_do B wb n cs rs es m0 m1 vr ve ps ir ie (fun y1 x1 w4 => ∃ j bx bc, j < n ∧ ps[j * 2]? = some (.pointer (some ⟨bx, 0, none⟩)) ∧ ps[j * 2 + 1]? = some (.pointer (some ⟨bc, 0, none⟩)) ∧ PairQ B bx bc p (X j) w y1 x1 w4) w h.law h.prs hn (by omega) hBw i c1 c2 c3 c4 k d2 d3 s hi1 hi2 hk2 hk3 (by omega) (by omega) (by omega) (by omega) ?_).mono ?_
 ·intro j hj
  obtain ⟨bx, bc, e1, e2, e3⟩ := h.each j hj
  exact ⟨bx, bc, e1, e2, both_of B bx bc p wb (X j) cs rs es m0 m1 vr ve ir ie a m w0 w hE h0 hB0 hBw e3 (by omega) h.law (fun k hk => (h.off j k hj hk).1) k d2 d3 _ (fun y1 x1 w4 hq => ⟨j, bx, bc, hj, e1, e2, hq⟩)⟩
 ·rintro e w' ⟨rfl, y1, x1, w4, w5, ⟨j, bx, bc, hj, e1, e2, hq⟩, hb, hO⟩
  obtain ⟨hI, hK⟩ := h.did hBw hj e1 e2 hq hb hO
  exact ⟨rfl, h0.trans (hK.below (by omega) (fun k e => by omega)), hI⟩

/-- A step at KEnd. -/
theorem InvP.ending {B wb n p : Nat} {w : World} (a : Addr) (m : Int) (w0 : World) (hE : Env a m w0) (h0 : Below w0.heap.size w0 w) (hB0 : w0.heap.size ≤ B) (hBw : B ≤ w.heap.size) (h : InvP B wb n p w) (hn : 1 ≤ n) (hp : p < 900000000) (i c1 c2 c3 c4 k d2 d3 : Int) (s : ByteArray) (hi1 : -9223372036854775808 ≤ i) (hi2 : i ≤ 9223372036854775807) :
  Calls Tryz.prog 28 #[.pointer (some ⟨wb, 0, none⟩), .agg #[.int .i64 5, .int .i64 i, .int .i64 c1, .int .i64 c2, .int .i64 c3, .int .i64 c4, .int .i64 k, .int .i64 d2, .int .i64 d3, .string s]] w fun e w' => e = .returned (.bool true) ∧ Below w0.heap.size w0 w' ∧ InvP B wb n (p + 1) w' := by
 obtain ⟨cs, rs, es, m0, m1, vr, ve, ps, ir, ie, X, h⟩ := h
 have few := h.few
 have nr := h.nr
 have ne := h.ne
 have lr := h.sr.1
 have le := h.se.1
 refine (step_end B wb n cs rs es m0 m1 vr ve ps ir ie (fun y1 x1 w4 => ∃ j bx bc, j < n ∧ ps[j * 2]? = some (.pointer (some ⟨bx, 0, none⟩)) ∧ ps[j * 2 + 1]? = some (.pointer (some ⟨bc, 0, none⟩)) ∧ PairQ B bx bc p (X j) w y1 x1 w4) w h.law h.prs hn (by omega) hBw i c1 c2 c3 c4 k d2 d3 s hi1 hi2 (by omega) (by omega) (by omega) (by omega) ?_).mono ?_
 ·intro j hj
  obtain ⟨bx, bc, e1, e2, e3⟩ := h.each j hj
  exact ⟨bx, bc, e1, e2, both_of B bx bc p wb (X j) cs rs es m0 m1 vr ve ir ie a m w0 w hE h0 hB0 hBw e3 (by omega) h.law (fun k hk => (h.off j k hj hk).1) k d2 d3 _ (fun y1 x1 w4 hq => ⟨j, bx, bc, hj, e1, e2, hq⟩)⟩
 ·rintro e w' ⟨rfl, y1, x1, w4, w5, ⟨j, bx, bc, hj, e1, e2, hq⟩, hb, hO⟩
  obtain ⟨hI, hK⟩ := h.did hBw hj e1 e2 hq hb hO
  exact ⟨rfl, h0.trans (hK.below (by omega) (fun k e => by omega)), hI⟩

/-- A cluster more. -/
theorem InvD.made {B wb n p : Nat} {cs rs es m0 m1 : Value} {vr ve ps : List Value} {ir ie : List Int} {X : Nat → Nat → Prop} {nodes jobs wall last : Int} {w w' : World} (h : InvD B wb n p cs rs es m0 m1 vr ve ps ir ie X w) (hBw : B ≤ w.heap.size) (hc : ConfOk nodes jobs wall last)
  (hM : Made B wb n cs rs es m0 m1 vr ve ps ir ie nodes jobs wall last (fun bx wx => ∃ bi, Prog B bx bi nodes jobs wall last 0 (.slice none 0 0) (.slice none 0 0) (.slice none 0 0) [] [] wx ∧ w.heap.size ≤ bx ∧ w.heap.size ≤ bi) w w') : InvP B wb (n + 1) (p + 1) w' ∧ Kept (fun k => B ≤ k) w w' := by
 obtain ⟨g, c, bx, bc, wx, hL', hC', ⟨bi, hP, hbx, hbi⟩, hsx, hR, hKx, hK, hg⟩ := hM
 have hlow := hR.low
 have hcs : ∀ k, cs.ownBlock = some k → B ≤ k ∧ k < w.heap.size := fun k e => h.prs.lt k e
 have hwb : wb < w.heap.size := h.law.lt wb (Or.inl rfl)
 have hS : ∀ k, (k = wb ∨ cs.ownBlock = some k) → k < w.heap.size := fun k e => e.elim (fun e => e ▸ hwb) (fun e => (hcs k e).2)
 have hlt : ∀ i, i < n → ∀ k, X i k → B ≤ k ∧ k < w.heap.size := fun i hi k hk => by
  obtain ⟨_, _, _, _, hp⟩ := h.each i hi
  exact hp.lt k hk
 have hnil : ∀ k, (Value.slice none 0 0).ownBlock ≠ some k := fun k e => by simp [Value.ownBlock] at e
 have hpB : ∀ k, progB bx bi (.slice none 0 0) (.slice none 0 0) (.slice none 0 0) k → w.heap.size ≤ k ∧ k < wx.heap.size := fun k e => by
  refine ⟨?_, (hP.lt k e).2⟩
  rcases e with rfl | rfl | e | e | e
  ·exact hbx
  ·exact hbi
  ·exact (hnil k e).elim
  ·exact (hnil k e).elim
  ·exact (hnil k e).elim
 obtain ⟨Z, hZ⟩ : ∃ Z : Nat → Prop, ∀ k, Z k ↔ (k = bc ∨ (Value.slice none 0 0).ownBlock = some k ∨ progB bx bi (.slice none 0 0) (.slice none 0 0) (.slice none 0 0) k) := ⟨_, fun _ => Iff.rfl⟩
 have hZlt : ∀ k, Z k → w.heap.size ≤ k ∧ k ≠ g := fun k e => by
  have hg' : g < w.heap.size ∨ (wx.heap.size ≤ g ∧ g ≠ bc) := hg.imp (fun e => (hcs g e).2) id
  rcases (hZ k).1 e with rfl | e | e
  ·exact ⟨by omega, by omega⟩
  ·exact (hnil k e).elim
  ·have := hpB k e
   have hne : k ≠ bc := by omega
   exact ⟨this.1, by omega⟩
 obtain ⟨Y, hY⟩ : ∃ Y : Nat → Nat → Prop, ∀ i k, Y i k ↔ (i = n ∧ Z k) ∨ (i ≠ n ∧ X i k) := ⟨fun i k => (i = n ∧ Z k) ∨ (i ≠ n ∧ X i k), fun _ _ => Iff.rfl⟩
 have hgB : B ≤ g := hg.elim (fun e => (hcs g e).1) (fun e => by omega)
 have hgl : ∀ k, (Value.slice (some ⟨g, 0, none⟩) (n + 1) c).ownBlock = some k → k = g := fun k e => by simpa [Value.ownBlock] using e.symm
 have hsee : ∀ (vs : List Value) (is : List Int), Seen w vs is (barB wb n cs rs es m0 m1 X) → Seen w' vs is (barB wb (n + 1) (.slice (some ⟨g, 0, none⟩) (n + 1) c) rs es m0 m1 Y) := fun vs is hh =>
  hh.kept hK (fun v hv k e e3 => (hh.off v hv k e).1 (e3.elim (fun e3 => Or.inl (Or.inl e3)) (fun e3 => Or.inr (Or.inl e3)))) (fun k e => by
   rcases e with e | e | ⟨i, hi, e⟩
   ·exact Or.inl (Or.inl e)
   ·obtain rfl := hgl k e
    rcases hg with e | e
    ·exact Or.inl (Or.inr (Or.inl e))
    ·exact Or.inr (by omega)
   ·rcases (hY i k).1 e with ⟨_, e⟩ | ⟨hne, e⟩
    ·exact Or.inr (hZlt k e).1
    ·exact Or.inl (Or.inr (Or.inr ⟨i, by omega, e⟩)))
 have few := h.few
 have nr := h.nr
 have ne := h.ne
 have hlp := h.prs.1
 refine ⟨⟨.slice (some ⟨g, 0, none⟩) (n + 1) c, rs, es, m0, m1, vr, ve, _, ir, ie, Y, hL', hC', by omega, by omega, by omega, hsee vr ir h.sr, hsee ve ie h.se, ?_, ?_, ?_⟩, hK.mono (T := fun k => B ≤ k) (fun k e => e.elim (fun e => e ▸ h.law.low) (fun e => (hcs k e).1))⟩
 ·intro i hi
  by_cases hin : i = n
  ·subst hin
   have e : Y i = Z := funext fun k => propext ((hY i k).trans ⟨fun e => e.elim (fun e => e.2) (fun e => (e.1 rfl).elim), fun e => Or.inl ⟨rfl, e⟩⟩)
   refine ⟨bx, bc, ?_, ?_, ?_⟩
   ·rw [List.getElem?_append_right (by omega)]
    have : i * 2 - ps.length = 0 := by omega
    rw [this]
    rfl
   ·rw [List.getElem?_append_right (by omega)]
    have : i * 2 + 1 - ps.length = 1 := by omega
    rw [this]
    rfl
   ·rw [e]
    refine ⟨nodes, jobs, wall, last, 0, [], .slice none 0 0, bi, .slice none 0 0, .slice none 0 0, .slice none 0 0, [], ⟨good_new hc, fun j hj => by simp at hj⟩, by simp, ⟨hR.blk, World.ownsRow_nil _ _ _ _, hR.apart, by omega, hR.len⟩, hP.kept hKx (fun k hk e3 => ?_), hZ⟩
    have := (hpB k hk).1
    have := hS k e3
    omega
  ·have e : Y i = X i := funext fun k => propext ((hY i k).trans ⟨fun e => e.elim (fun e => (hin e.1).elim) (fun e => e.2), fun e => Or.inr ⟨hin, e⟩⟩)
   obtain ⟨bx2, bc2, f1, f2, f3⟩ := h.each i (by omega)
   have l1 := (List.getElem?_eq_some_iff.1 f1).1
   have l2 := (List.getElem?_eq_some_iff.1 f2).1
   refine ⟨bx2, bc2, (List.getElem?_append_left l1).trans f1, (List.getElem?_append_left l2).trans f2, ?_⟩
   rw [e]
   refine (f3.kept hK (fun k hk e3 => ?_)).mono (by omega)
   have ho := h.off i k (by omega) hk
   rcases e3 with e3 | e3
   ·exact ho.1 (Or.inl e3)
   ·exact ho.2 e3
 ·intro i k hi e
  rcases (hY i k).1 e with ⟨_, e⟩ | ⟨hne, e⟩
  ·exact ⟨fun e3 => by have := h.law.lt k e3; have := (hZlt k e).1; omega, fun e3 => (hZlt k e).2 (hgl k e3)⟩
  ·have ho := h.off i k (by omega) e
   refine ⟨ho.1, fun e3 => ?_⟩
   obtain rfl := hgl k e3
   rcases hg with e4 | e4
   ·exact ho.2 e4
   ·have := (hlt i (by omega) k e).2; omega
 ·intro i i' k hi hi' e e'
  rcases (hY i k).1 e with ⟨a1, b1⟩ | ⟨a1, b1⟩ <;> rcases (hY i' k).1 e' with ⟨a2, b2⟩ | ⟨a2, b2⟩
  ·omega
  ·have := (hZlt k b1).1; have := (hlt i' (by omega) k b2).2; omega
  ·have := (hZlt k b2).1; have := (hlt i (by omega) k b1).2; omega
  ·exact h.two i i' k (by omega) (by omega) b1 b2

/-- made, on what is kept. -/
theorem InvP.making {B wb n p : Nat} {w : World} (a : Addr) (m : Int) (w0 : World) (hE : EnvX a m w0) (h0 : Below w0.heap.size w0 w) (hB0 : w0.heap.size ≤ B) (hBw : B ≤ w.heap.size) (h : InvP B wb n p w) (hp : p < 900000000) (nodes jobs wall last : Int) :
  Calls Tryz.prog 29 #[.pointer (some ⟨wb, 0, none⟩), .agg #[.int .i64 nodes, .int .i64 jobs, .int .i64 wall, .int .i64 last]] w fun e w' => e = .returned (.bool true) ∧ Below w0.heap.size w0 w' ∧ ∃ n', n ≤ n' ∧ (ConfOk nodes jobs wall last → n' = n + 1) ∧ InvP B wb n' (p + 1) w' := by
 have hb : ∀ o, Below w.heap.size w (w.alloc o) := fun o => (Below.refl _ _).alloc (Nat.le_refl _) o
 by_cases hc : ConfOk nodes jobs wall last
 ·obtain ⟨cs, rs, es, m0, m1, vr, ve, ps, ir, ie, X, h⟩ := h
  have few := h.few
  refine (made_yes B wb n cs rs es m0 m1 vr ve ps ir ie nodes jobs wall last (fun bx wx => ∃ bi, Prog B bx bi nodes jobs wall last 0 (.slice none 0 0) (.slice none 0 0) (.slice none 0 0) [] [] wx ∧ w.heap.size ≤ bx ∧ w.heap.size ≤ bi) w hc h.law h.prs hBw (by omega) (fun o => ?_)).mono ?_
  ·refine (newB_yes B nodes jobs wall last (w.alloc o) hc (by simp; omega)).mono ?_
   rintro e w2 ⟨bx, bi, rfl, hb2, hP, h1, h2⟩
   exact ⟨bx, rfl, hb2, bi, hP, by simp at h1; omega, by simp at h2; omega⟩
  ·rintro e w' ⟨rfl, hM⟩
   obtain ⟨hI, hK⟩ := h.made hBw hc hM
   exact ⟨rfl, h0.trans (hK.below (by omega) (fun k e => by omega)), n + 1, by omega, fun _ => rfl, hI⟩
 ·refine (made_no _ nodes jobs wall last w hc (fun o => ?_)).mono ?_
  ·exact newB_no a m nodes jobs wall last (w.alloc o) (hE.on (h0.trans ((hb o).mono h0.size))) hc
  ·rintro e w' ⟨rfl, hb2⟩
   exact ⟨rfl, h0.trans (hb2.mono h0.size), n, Nat.le_refl _, fun e => (hc e).elim, (h.below hb2).more (by omega)⟩

end Go.Proofs.YtpcgnadfldimhaaGreatDoor
namespace Go.Proofs.YtpcgnadfldimhaaGreatDoor
open Go.RowKit

theorem invStart {w w1 : World} (hb : Below (w.alloc law0).heap.size (w.alloc law0) w1) : InvP w.heap.size w.heap.size 0 0 w1 := by
 have hq : w1.heap[w.heap.size]? = some law0 := (hb.block _ (by simp)).trans (heap_alloc_new w _)
 exact ⟨.slice none 0 0, .slice none 0 0, .slice none 0 0, .slice none 0 0, .slice none 0 0, [], [], [], [], [], fun _ _ => False, ⟨hq, World.ownsRow_nil _ _ _ _, World.ownsRow_nil _ _ _ _, World.ownsRow_nil _ _ _ _, World.ownsRow_nil _ _ _ _, fun k e => by simp [Value.ownBlock] at e, Nat.le_refl _⟩, World.ownsRow_nil _ _ _ _, Nat.le_refl _, by simp, by simp, Seen.nil _ _, Seen.nil _ _, fun j hj => by omega, fun j k hj => by omega, fun i j k hi => by omega⟩

theorem InvP.step {n p : Nat} {w wr : World} (a : Addr) (m : Int) (hE : EnvX a m w) (hb : Below w.heap.size w wr) (h : InvP w.heap.size w.heap.size n p wr) (hn : 1 ≤ n) (hp : p < 900000000) (o : OpV) (hs : o.s.size ≤ maxLen) (hi1 : -9223372036854775808 ≤ o.i) (hi2 : o.i ≤ 9223372036854775807) (hq : o.q ≠ 6) :
  Calls Tryz.prog 28 #[.pointer (some ⟨w.heap.size, 0, none⟩), .agg o.cells.toArray] wr fun e w' => e = .returned (.bool true) ∧ Below w.heap.size w w' ∧ ∃ n', 1 ≤ n' ∧ InvP w.heap.size w.heap.size n' (p + 1) w' := by
 obtain ⟨q, i, c1, c2, c3, c4, d1, d2, d3, s⟩ := o
 simp only at hs hi1 hi2 hq
 change Calls Tryz.prog 28 #[.pointer (some ⟨w.heap.size, 0, none⟩), .agg #[.int .i64 q, .int .i64 i, .int .i64 c1, .int .i64 c2, .int .i64 c3, .int .i64 c4, .int .i64 d1, .int .i64 d2, .int .i64 d3, .string s]] wr _
 have hEr := hE.env.on hb
 have hback : ∀ (e : Ending) (w' : World), (e = .returned (.bool true) ∧ Below wr.heap.size wr w') → e = .returned (.bool true) ∧ Below w.heap.size w w' ∧ ∃ n', 1 ≤ n' ∧ InvP w.heap.size w.heap.size n' (p + 1) w' := fun e w' hh => ⟨hh.1, hb.trans (hh.2.mono hb.size), n, hn, (h.below hh.2).more (by omega)⟩
 by_cases q1 : q = 1
 ·subst q1
  exact (step_parse a m wr hEr _ i c1 c2 c3 c4 d1 d2 d3 s hs).mono hback
 by_cases q2 : q = 2
 ·subst q2
  exact (step_render a m wr hEr _ i c1 c2 c3 c4 d1 d2 d3 s).mono hback
 by_cases q3 : q = 3
 ·subst q3
  refine (step_new _ wr i c1 c2 c3 c4 d1 d2 d3 s (fun _ w' => Below w.heap.size w w' ∧ ∃ n', 1 ≤ n' ∧ InvP w.heap.size w.heap.size n' (p + 1) w') (fun o => ?_)).mono ?_
  ·have hbo : Below wr.heap.size wr (wr.alloc o) := (Below.refl _ _).alloc (Nat.le_refl _) o
   have hb2 := hb.trans (hbo.mono hb.size)
   refine (InvP.making a m w hE hb2 (Nat.le_refl _) hb2.size (h.below hbo) hp c1 c2 c3 c4).mono ?_
   rintro e w' ⟨rfl, hb3, n', h1, _, hI⟩
   exact ⟨rfl, hb3, n', by omega, hI⟩
  ·rintro e w' ⟨rfl, _, hb3, hI⟩
   exact ⟨rfl, hb3, hI⟩
 obtain ⟨cs, rs, es, m0, m1, vr, ve, ps, ir, ie, X, hD⟩ := h
 have few := hD.few
 have hps : ∀ j, j < n → ∃ bx bc, ps[j * 2]? = some (.pointer (some ⟨bx, 0, none⟩)) ∧ ps[j * 2 + 1]? = some (.pointer (some ⟨bc, 0, none⟩)) := fun j hj => by
  obtain ⟨bx, bc, e1, e2, _⟩ := hD.each j hj
  exact ⟨bx, bc, e1, e2⟩
 have hback : ∀ (e : Ending) (w' : World), (e = .returned (.bool true) ∧ Below wr.heap.size wr w') → e = .returned (.bool true) ∧ Below w.heap.size w w' ∧ ∃ n', 1 ≤ n' ∧ InvP w.heap.size w.heap.size n' (p + 1) w' := fun e w' hh => ⟨hh.1, hb.trans (hh.2.mono hb.size), n, hn, (InvP.below ⟨cs, rs, es, m0, m1, vr, ve, ps, ir, ie, X, hD⟩ hh.2).more (by omega)⟩
 by_cases q4 : q = 4
 ·subst q4
  by_cases hk : d1 = 2 ∨ d1 = 3
  ·exact (step_skip w.heap.size w.heap.size n cs rs es m0 m1 vr ve ps ir ie wr hD.law hD.prs hn (by omega) i c1 c2 c3 c4 d1 d2 d3 s hi1 hi2 hk hps).mono hback
  ·refine (InvP.doing a m w hE.env hb (Nat.le_refl _) hb.size ⟨cs, rs, es, m0, m1, vr, ve, ps, ir, ie, X, hD⟩ hn hp i c1 c2 c3 c4 d1 d2 d3 s hi1 hi2 (by omega) (by omega)).mono ?_
   rintro e w' ⟨rfl, hb3, hI⟩
   exact ⟨rfl, hb3, n, hn, hI⟩
 by_cases q5 : q = 5
 ·subst q5
  refine (InvP.ending a m w hE.env hb (Nat.le_refl _) hb.size ⟨cs, rs, es, m0, m1, vr, ve, ps, ir, ie, X, hD⟩ hn hp i c1 c2 c3 c4 d1 d2 d3 s hi1 hi2).mono ?_
  rintro e w' ⟨rfl, hb3, hI⟩
  exact ⟨rfl, hb3, n, hn, hI⟩
 ·exact (step_idle w.heap.size w.heap.size n cs rs es m0 m1 vr ve ps ir ie wr hD.law hD.prs hn (by omega) q i c1 c2 c3 c4 d1 d2 d3 s hi1 hi2 q1 q2 q3 q4 q5 (by omega) hps).mono hback

theorem jobs_first (a : Addr) (m : Int) (w : World) (hE : EnvX a m w) (w1 : World) (hb : Below (w.alloc law0).heap.size (w.alloc law0) w1) :
  Calls Tryz.prog 29 #[.pointer (some ⟨w.heap.size, 0, none⟩), .agg #[.int .i64 4, .int .i64 5, .int .i64 100, .int .i64 1000]] w1 fun e w2 => e = .returned (.bool true) ∧ Below w.heap.size w w2 ∧
   ∀ s, Calls Tryz.prog 28 #[.pointer (some ⟨w.heap.size, 0, none⟩), .agg #[.int .i64 4, .int .i64 0, .int .i64 0, .int .i64 0, .int .i64 0, .int .i64 0, .int .i64 1, .int .i64 3, .int .i64 10, .string s]] w2 fun e w3 => e = .returned (.bool true) ∧ Below w.heap.size w w3 ∧ InvP w.heap.size w.heap.size 1 2 w3 := by
 have h0 : Below w.heap.size w w1 := ((Below.refl w.heap.size w).alloc (Nat.le_refl _) law0).trans (hb.mono (by simp))
 refine (InvP.making a m w hE h0 (Nat.le_refl _) h0.size (invStart hb) (by omega) 4 5 100 1000).mono ?_
 rintro e w2 ⟨rfl, hb2, n', _, hn', hI⟩
 obtain rfl := hn' (by unfold ConfOk; omega)
 refine ⟨rfl, hb2, fun s => ?_⟩
 exact InvP.doing a m w hE.env hb2 (Nat.le_refl _) hb2.size hI (by omega) (by omega) 0 0 0 0 0 1 3 10 s (by omega) (by omega) (by omega) (by omega)

section
open Go.ChangeShapes Go.WideShapes Go.ChangeAt
theorem bulk_pos {H : Type} (d : DataW H) : 1 ≤ Rows.uptoBulk d := by
 cases d with
 | lit l => cases l <;> simp [Rows.uptoBulk]
 | _ => simp [Rows.uptoBulk]
theorem bulk_len {H : Type} : ∀ l : List (DataW H), l.length ≤ Rows.uptoBulkAll l
 | [] => by simp
 | d :: r => by
  have h1 := bulk_pos d
  have h2 := bulk_len r
  simp only [Rows.uptoBulkAll, List.length_cons]
  omega
/-- A list that is read whole is no longer than the bound. -/
theorem bulk_slice {H : Type} {l s : List (DataW H)} (h : Rows.uptoSmall H [DataW.slice l s] = true) : l.length ≤ 1048576 := by
 have h1 : Rows.uptoBulkAll [DataW.slice l s] ≤ 1048576 := of_decide_eq_true h
 have h2 := bulk_len l
 simp only [Rows.uptoBulkAll, Rows.uptoBulk] at h1
 omega
theorem wf_bounds {i : Int} (h : (Lit.int .i64 i).wf = true) : -9223372036854775808 ≤ i ∧ i ≤ 9223372036854775807 := by
 simp only [Lit.wf, Bool.and_eq_true, decide_eq_true_eq] at h
 exact h
end

end Go.Proofs.YtpcgnadfldimhaaGreatDoor
namespace Go.Proofs.YtpcgnadfldimhaaGreatDoor
open Go.RowKit

/-- What the two Line, one behind the other, are asked for. -/
def BothL (bx bc : Nat) (s : ByteArray) (Q : World → Prop) (w : World) : Prop :=
 ∀ w1, Below w.heap.size w w1 → Calls Tryz.prog 26 #[.pointer (some ⟨bx, 0, none⟩), .string s] w1 fun e w2 => ∃ t, e = .returned (.string t) ∧ Spared w.heap.size w1 w2 ∧
  ∀ w3, Below w2.heap.size w2 w3 → Calls Tryz.prog 47 #[.pointer (some ⟨bc, 0, none⟩), .string s] w3 fun e w4 => e = .returned (.string t) ∧ Q w4

set_option maxHeartbeats 16000000 in
set_option maxRecDepth 100000 in
theorem step_line (B wb n : Nat) (cs rs es m0 m1 : Value) (vr ve ps : List Value) (ir ie : List Int) (Q : World → Prop) (w : World) (hL : LawM B wb cs rs es m0 m1 vr ve ir ie w) (oC : w.ownsRow B 104 2 cs n ps) (hn : 1 ≤ n) (hn' : n ≤ 1000000000)
  (i c1 c2 c3 c4 k d2 d3 : Int) (s : ByteArray) (hi1 : -9223372036854775808 ≤ i) (hi2 : i ≤ 9223372036854775807)
  (hps : ∀ j, j < n → ∃ bx bc, ps[j * 2]? = some (.pointer (some ⟨bx, 0, none⟩)) ∧ ps[j * 2 + 1]? = some (.pointer (some ⟨bc, 0, none⟩)) ∧ BothL bx bc s Q w) :
  Calls Tryz.prog 28 #[.pointer (some ⟨wb, 0, none⟩), .agg #[.int .i64 6, .int .i64 i, .int .i64 c1, .int .i64 c2, .int .i64 c3, .int .i64 c4, .int .i64 k, .int .i64 d2, .int .i64 d3, .string s]] w fun e w' => e = .returned (.bool true) ∧ ∃ w4, Q w4 ∧ Below w4.heap.size w4 w' := by
 have hwb : wb < w.heap.size := hL.lt wb (Or.inl rfl)
 obtain ⟨g, c, rfl⟩ : ∃ g c, cs = .slice (some ⟨g, 0, none⟩) n c := by
  rcases own_forms oC with ⟨_, hn⟩ | ⟨g, c2, e⟩
  ·omega
  ·exact ⟨g, c2, e⟩
 have c0 := cell_of_row _ _ 0 _ _ (0, 0) hL.W
 simp at c0
 have hg : g < w.heap.size := (oC.lt g rfl).2
 have hC := fun j hj => (oC.cellAt (g := g) j hj)
 obtain ⟨bx, bc, hp0, hp1, hBo⟩ := hps (pickN i n) (pickN_lt i n hn)
 have hj := pickN_lt i n hn
 generalize hJ : pickN i n = j at *
 have hlen := oC.1
 have a0 := (hC (j * 2) (by omega)).trans hp0
 have a1 := (hC (j * 2 + 1) (by omega)).trans hp1
 have e1 : (0 : Int) ≤ (j : Int) := by omega
 have e2 : (j : Int) < (n : Int) := by omega
 have HBo := Lib.hid hBo
 clear hL hC oC hps hp0 hp1 hBo
 go_enter Tryz.func28, Tryz.ntmps28
 go_wp2
 go_region_held3 (fun w' => w'.cell? ⟨wb, 0, none⟩ = some (.slice (some ⟨g, 0, none⟩) n c) ∧ w'.cell? ⟨w.heap.size, 1, none⟩ = some (.int .i64 i) ∧ w'.cell? ⟨g, j * 2, none⟩ = some (.pointer (some ⟨bx, 0, none⟩)) ∧ w'.cell? ⟨g, j * 2 + 1, none⟩ = some (.pointer (some ⟨bc, 0, none⟩))) (go_keep) (first | (go_at_call 43; refine (pick_is i n _ hi1 hi2 hn (by omega)).mono ?_; rintro e w2 ⟨rfl, hw⟩; subst w2; rw [hJ]))
 all_goals
  obtain ⟨W, hW⟩ : ∃ W, W = ((w.alloc (.cells #[.int .i64 6, .int .i64 i, .int .i64 c1, .int .i64 c2, .int .i64 c3, .int .i64 c4, .int .i64 k, .int .i64 d2, .int .i64 d3, .string s] 76)).alloc (.cells #[.pointer (some ⟨bx, 0, none⟩), .pointer (some ⟨bc, 0, none⟩)] 104)).drew := ⟨_, rfl⟩
  have hB0 : Below w.heap.size w W := by rw [hW]; exact (((Below.refl w.heap.size w).alloc (Nat.le_refl _) _).alloc (by simp) _).drew
  have o1 : W.heap[w.heap.size]? = some (.cells #[.int .i64 6, .int .i64 i, .int .i64 c1, .int .i64 c2, .int .i64 c3, .int .i64 c4, .int .i64 k, .int .i64 d2, .int .i64 d3, .string s] 76 (0, 0)) := by rw [hW]; exact (Below.heap_alloc (w.alloc _) _ _ (by simp)).trans (heap_alloc_new w _)
  have o2 : W.heap[w.heap.size + 1]? = some (.cells #[.pointer (some ⟨bx, 0, none⟩), .pointer (some ⟨bc, 0, none⟩)] 104 (0, 0)) := by rw [hW]; exact alloc_at _ _ _ (by simp)
  rw [← hW]
  clear hW a0 a1 c0
  have x0 := cell_of_row _ _ 0 _ _ (0, 0) o1
  have x6 := cell_of_row _ _ 6 _ _ (0, 0) o1
  have x9 := cell_of_row _ _ 9 _ _ (0, 0) o1
  have y0 := cell_of_row _ _ 0 _ _ (0, 0) o2
  simp at x0 x6 x9 y0
  have HB0 := Lib.hid hB0
  have hzW : w.heap.size + 2 ≤ W.heap.size := (Array.getElem?_eq_some_iff.1 o2).1
  have N0 : w.heap.size < W.heap.size := by omega
  have N0' : w.heap.size + 1 < W.heap.size := by omega
  clear hB0
  go_wp2_with (go_at_call 26; refine (HBo.out _ HB0.out).mono ?_; rintro e w2 ⟨t, rfl, hS2, hY⟩; refine Hid.out ?_)
  refine Lib.hid ?_
  have HY := Lib.hid hY
  have o1 := (hS2.2 w.heap.size (Nat.le_refl _) (by omega)).trans o1
  have o2 := (hS2.2 (w.heap.size + 1) (by omega) (by omega)).trans o2
  have hz2 : w.heap.size + 2 ≤ w2.heap.size := by have := hS2.1; omega
  clear hS2 hY x0 x6 x9 y0
  have x9 := cell_of_row _ _ 9 _ _ (0, 0) o1
  have y1 := cell_of_row _ _ 1 _ _ (0, 0) o2
  simp at x9 y1
  have N1 : w.heap.size + 1 < w2.heap.size := by omega
  have N2 : w.heap.size < w2.heap.size := by omega
  clear o1 o2
  go_wp2_with (go_at_call 47; refine (HY.out _ (Below.refl _ w2)).mono ?_; rintro e w4 ⟨rfl, hQ⟩; refine Hid.out ?_)
  refine Lib.hid ?_
  have HQ := Lib.hid hQ
  clear hQ
  go_wp2
  go_ret
  exact ⟨by simp, w4, HQ.out, Below.refl _ _⟩

/-- What the two Line leave of the pair. -/
def PairL (B bx bc N : Nat) (X : Nat → Prop) (w w4 : World) : Prop := ∃ X', PairS B bx bc (N + 1) X' w4 ∧ Kept X w w4 ∧ ∀ k, X' k → X k ∨ w.heap.size ≤ k

theorem lines_of (B bx bc N : Nat) (X : Nat → Prop) (a : Addr) (m : Int) (w0 w : World) (hE : Env a m w0) (hNm : NamesE w0) (h0 : Below w0.heap.size w0 w) (hB0 : w0.heap.size ≤ B) (hBw : B ≤ w.heap.size) (h : PairS B bx bc N X w) (hN : N < 999999999) (s : ByteArray) (hs : s.size ≤ maxLen) (Q : World → Prop) (hQ : ∀ w4, PairL B bx bc N X w w4 → Q w4) : BothL bx bc s Q w := by
 intro w1 hb1
 have hlt := fun k hk => h.lt k hk
 have hs1 := hb1.size
 have hB1 : Below w0.heap.size w0 w1 := h0.trans (hb1.mono h0.size)
 by_cases hc : ∃ n x y, Cmd s n x y
 ·obtain ⟨n, x, y, hc⟩ := hc
  have h1 : PairS B bx bc N X w1 := h.kept (S := fun _ => False) (Kept.of_below hb1) (fun _ _ e => e)
  obtain ⟨nodes, jobs, wall, last, now, L, v, bi, pr, pl, ph, E, hGP, hLN, hR1, hP1, hXX⟩ := h1
  have hG := hGP.1
  have hbc : bc < w.heap.size := (hlt bc ((hXX bc).2 (Or.inl rfl))).2
  have hv : ∀ k, v.ownBlock = some k → k < w.heap.size := fun k e => (hlt k ((hXX k).2 (Or.inr (Or.inl e)))).2
  have hp : ∀ k, progB bx bi pr pl ph k → k < w.heap.size := fun k e => (hlt k ((hXX k).2 (Or.inr (Or.inr e)))).2
  refine (line_cmd B bx bi nodes jobs wall last now pr pl ph L E a m w0 hE hNm w1 hB1 hB0 (by omega) hP1 hG hGP.2 (by omega) s n x y hc).mono ?_
  rintro e w2 ⟨o, pr', pl', ph', E', hD, rfl, hP2, hK2, hN2⟩
  have hs2 := hK2.size
  refine ⟨_, rfl, ⟨hs2, fun k h4 h5 => hK2.block k h5 (fun e => by have := hp k e; omega)⟩, ?_⟩
  intro w3 hb3
  have hs3 := hb3.size
  have hR2 : RefO B bc nodes jobs wall last now v L w2 := hR1.kept hK2 (fun k e => ⟨(ref_apart hR1 hP1 k e).1, (ref_apart hR1 hP1 k e).2⟩)
  have hR3 : RefO B bc nodes jobs wall last now v L w3 := hR2.kept (S := fun _ => False) (Kept.of_below hb3) (fun _ e => e.elim)
  refine (refLine_cmd B bc nodes jobs wall last now v L w3 hR3 hG hGP.2 (by omega) (by omega) s n n rfl x y hc).mono ?_
  rintro e w4 ⟨o', v', hD', rfl, hR4, hK4, hV4⟩
  obtain rfl := doE_unique hG hD hD'
  have hs4 := hK4.size
  obtain ⟨hG4, hL4⟩ := good_doE hG hD
  refine ⟨rfl, hQ _ ?_⟩
  have hP3 : Prog B bx bi nodes jobs wall last o.now pr' pl' ph' o.L E' w3 := hP2.kept (S := fun _ => False) (Kept.of_below hb3) (fun _ _ e => e)
  have hap : ∀ k, progB bx bi pr' pl' ph' k → ¬ (k = bc ∨ v.ownBlock = some k) := fun k e => by
   rcases hN2 k e with e1 | e1
   ·have := ref_apart hR1 hP1 k e1
    rintro (e2 | e2)
    ·exact this.1 e2
    ·exact this.2 e2
   ·rintro (e2 | e2)
    ·omega
    ·have := hv k e2; omega
  have hP4 : Prog B bx bi nodes jobs wall last o.now pr' pl' ph' o.L E' w4 := hP3.kept hK4 hap
  have hKK : Kept X w w4 := (((Kept.of_below (S := X) hb1).trans (hK2.mono (T := X) (fun k e => (hXX k).2 (Or.inr (Or.inr e)))) (fun _ e => Or.inl e)).trans (Kept.of_below (S := X) hb3) (fun _ e => Or.inl e)).trans (hK4.mono (T := X) (fun k e => (hXX k).2 (e.elim Or.inl (fun e => Or.inr (Or.inl e))))) (fun _ e => Or.inl e)
  refine ⟨fun k => k = bc ∨ v'.ownBlock = some k ∨ progB bx bi pr' pl' ph' k, ⟨nodes, jobs, wall, last, o.now, o.L, v', bi, pr', pl', ph', E', ⟨hG4, phases_doE hGP.2 hD⟩, by omega, hR4, hP4, fun k => Iff.rfl⟩, hKK, ?_⟩
  rintro k (e | e | e)
  ·exact Or.inl ((hXX k).2 (Or.inl e))
  ·rcases hV4 k e with e | e
   ·exact Or.inl ((hXX k).2 (Or.inr (Or.inl e)))
   ·exact Or.inr (by omega)
  ·rcases hN2 k e with e | e
   ·exact Or.inl ((hXX k).2 (Or.inr (Or.inr e)))
   ·exact Or.inr (by omega)
 ·have hc' : ∀ n x y, ¬ Cmd s n x y := fun n x y e => hc ⟨n, x, y, e⟩
  refine (line_no bx a m w0 hE hNm w1 hB1 s hs hc').mono ?_
  rintro e w2 ⟨rfl, hb2⟩
  refine ⟨_, rfl, ⟨hb2.size, fun k _ h5 => hb2.block k h5⟩, ?_⟩
  intro w3 hb3
  refine (refLine_no bc w3 s hs hc').mono ?_
  rintro e w4 ⟨rfl, hb4⟩
  have hb := ((hb1.trans (hb2.mono hb1.size)).trans (hb3.mono (Nat.le_trans hb1.size hb2.size))).trans (hb4.mono (Nat.le_trans (Nat.le_trans hb1.size hb2.size) hb3.size))
  exact ⟨rfl, hQ _ ⟨X, (h.kept (S := fun _ => False) (Kept.of_below hb) (fun _ _ e => e)).mono (by omega), Kept.of_below hb, fun _ e => Or.inl e⟩⟩

/-- A line, on what is kept. -/
theorem InvD.lined {B wb n p : Nat} {cs rs es m0 m1 : Value} {vr ve ps : List Value} {ir ie : List Int} {X : Nat → Nat → Prop} {w w4 : World} (h : InvD B wb n p cs rs es m0 m1 vr ve ps ir ie X w) {j bx bc : Nat} (hj : j < n) (e1 : ps[j * 2]? = some (.pointer (some ⟨bx, 0, none⟩))) (e2 : ps[j * 2 + 1]? = some (.pointer (some ⟨bc, 0, none⟩))) (hq : PairL B bx bc p (X j) w w4) : InvP B wb n (p + 1) w4 ∧ Kept (fun k => B ≤ k) w w4 := by
 obtain ⟨X', hS4, hK, hX'⟩ := hq
 have hlt : ∀ i, i < n → ∀ k, X i k → B ≤ k ∧ k < w.heap.size := fun i hi k hk => by
  obtain ⟨_, _, _, _, hp⟩ := h.each i hi
  exact hp.lt k hk
 have hcs : ∀ k, cs.ownBlock = some k → B ≤ k ∧ k < w.heap.size := fun k e => h.prs.lt k e
 obtain ⟨Y, hY⟩ : ∃ Y : Nat → Nat → Prop, ∀ i k, Y i k ↔ (i = j ∧ X' k) ∨ (i ≠ j ∧ X i k) := ⟨fun i k => (i = j ∧ X' k) ∨ (i ≠ j ∧ X i k), fun _ _ => Iff.rfl⟩
 have hYX : ∀ i k, i < n → Y i k → X i k ∨ w.heap.size ≤ k := fun i k hi e => by
  rcases (hY i k).1 e with ⟨rfl, e⟩ | ⟨_, e⟩
  ·exact hX' k e
  ·exact Or.inl e
 have hsee : ∀ (vs : List Value) (is : List Int), Seen w vs is (barB wb n cs rs es m0 m1 X) → Seen w4 vs is (barB wb n cs rs es m0 m1 Y) := fun vs is hh =>
  hh.kept hK (fun v hv k e e3 => (hh.off v hv k e).1 (Or.inr (Or.inr ⟨j, hj, e3⟩))) (fun k e => by
   rcases e with e | e | ⟨i, hi, e⟩
   ·exact Or.inl (Or.inl e)
   ·exact Or.inl (Or.inr (Or.inl e))
   ·rcases hYX i k hi e with e | e
    ·exact Or.inl (Or.inr (Or.inr ⟨i, hi, e⟩))
    ·exact Or.inr e)
 have few := h.few
 have nr := h.nr
 have ne := h.ne
 refine ⟨⟨cs, rs, es, m0, m1, vr, ve, ps, ir, ie, Y, h.law.kept hK (fun k hk => (h.off j k hj hk).1), owns_on h.prs (fun k e => hK.block k (h.prs.lt k e).2 (fun e3 => (h.off j k hj e3).2 e)), by omega, by omega, by omega, hsee vr ir h.sr, hsee ve ie h.se, ?_, ?_, ?_⟩, hK.mono (T := fun k => B ≤ k) (fun k e => (hlt j hj k e).1)⟩
 ·intro i hi
  by_cases hij : i = j
  ·subst hij
   have e : Y i = X' := funext fun k => propext ((hY i k).trans ⟨fun e => e.elim (fun e => e.2) (fun e => (e.1 rfl).elim), fun e => Or.inl ⟨rfl, e⟩⟩)
   refine ⟨bx, bc, e1, e2, ?_⟩
   rw [e]
   exact hS4
  ·have e : Y i = X i := funext fun k => propext ((hY i k).trans ⟨fun e => e.elim (fun e => (hij e.1).elim) (fun e => e.2), fun e => Or.inr ⟨hij, e⟩⟩)
   obtain ⟨bx2, bc2, f1, f2, f3⟩ := h.each i hi
   refine ⟨bx2, bc2, f1, f2, ?_⟩
   rw [e]
   exact (f3.kept hK (fun k hk e3 => hij (h.two i j k hi hj hk e3))).mono (by omega)
 ·intro i k hi e
  rcases hYX i k hi e with e3 | e3
  ·exact h.off i k hi e3
  ·exact ⟨fun e4 => by have := h.law.lt k e4; omega, fun e4 => by have := (hcs k e4).2; omega⟩
 ·intro i i' k hi hi' e e'
  rcases (hY i k).1 e with ⟨a1, b1⟩ | ⟨a1, b1⟩ <;> rcases (hY i' k).1 e' with ⟨a2, b2⟩ | ⟨a2, b2⟩
  ·omega
  ·rcases hX' k b1 with c | c
   ·exact (a2 (h.two i' j k hi' hj b2 c)).elim
   ·have := (hlt i' hi' k b2).2; omega
  ·rcases hX' k b2 with c | c
   ·exact (a1 (h.two i j k hi hj b1 c)).elim
   ·have := (hlt i hi k b1).2; omega
  ·exact h.two i i' k hi hi' b1 b2

/-- A step at KLine. -/
theorem InvP.lining {B wb n p : Nat} {w : World} (a : Addr) (m : Int) (w0 : World) (hE : Env a m w0) (hNm : NamesE w0) (h0 : Below w0.heap.size w0 w) (hB0 : w0.heap.size ≤ B) (hBw : B ≤ w.heap.size) (h : InvP B wb n p w) (hn : 1 ≤ n) (hp : p < 900000000) (i c1 c2 c3 c4 k d2 d3 : Int) (s : ByteArray) (hs : s.size ≤ maxLen) (hi1 : -9223372036854775808 ≤ i) (hi2 : i ≤ 9223372036854775807) :
  Calls Tryz.prog 28 #[.pointer (some ⟨wb, 0, none⟩), .agg #[.int .i64 6, .int .i64 i, .int .i64 c1, .int .i64 c2, .int .i64 c3, .int .i64 c4, .int .i64 k, .int .i64 d2, .int .i64 d3, .string s]] w fun e w' => e = .returned (.bool true) ∧ Below w0.heap.size w0 w' ∧ InvP B wb n (p + 1) w' := by
 obtain ⟨cs, rs, es, m0, m1, vr, ve, ps, ir, ie, X, h⟩ := h
 have few := h.few
 refine (step_line B wb n cs rs es m0 m1 vr ve ps ir ie (fun w4 => ∃ j bx bc, j < n ∧ ps[j * 2]? = some (.pointer (some ⟨bx, 0, none⟩)) ∧ ps[j * 2 + 1]? = some (.pointer (some ⟨bc, 0, none⟩)) ∧ PairL B bx bc p (X j) w w4) w h.law h.prs hn (by omega) i c1 c2 c3 c4 k d2 d3 s hi1 hi2 ?_).mono ?_
 ·intro j hj
  obtain ⟨bx, bc, e1, e2, e3⟩ := h.each j hj
  exact ⟨bx, bc, e1, e2, lines_of B bx bc p (X j) a m w0 w hE hNm h0 hB0 hBw e3 (by omega) s hs _ (fun w4 hq => ⟨j, bx, bc, hj, e1, e2, hq⟩)⟩
 ·rintro e w' ⟨rfl, w4, ⟨j, bx, bc, hj, e1, e2, hq⟩, hb⟩
  obtain ⟨hI, hK⟩ := h.lined hj e1 e2 hq
  have hb4 := h0.trans (hK.below (B := w0.heap.size) (by omega) (fun k e => by omega))
  exact ⟨rfl, hb4.trans (hb.mono hb4.size), hI.below hb⟩

end Go.Proofs.YtpcgnadfldimhaaGreatDoor
namespace Go.Proofs.YtpcgnadfldimhaaGreatDoor
open Go.RowKit

theorem InvP.stepA {n p : Nat} {w wr : World} (a : Addr) (m : Int) (hE : EnvX a m w) (hNm : NamesE w) (hb : Below w.heap.size w wr) (h : InvP w.heap.size w.heap.size n p wr) (hn : 1 ≤ n) (hp : p < 900000000) (o : OpV) (hs : o.s.size ≤ maxLen) (hi1 : -9223372036854775808 ≤ o.i) (hi2 : o.i ≤ 9223372036854775807) :
  Calls Tryz.prog 28 #[.pointer (some ⟨w.heap.size, 0, none⟩), .agg o.cells.toArray] wr fun e w' => e = .returned (.bool true) ∧ Below w.heap.size w w' ∧ ∃ n', 1 ≤ n' ∧ InvP w.heap.size w.heap.size n' (p + 1) w' := by
 by_cases hq : o.q = 6
 ·obtain ⟨q, i, c1, c2, c3, c4, d1, d2, d3, s⟩ := o
  simp only at hs hi1 hi2 hq
  subst hq
  change Calls Tryz.prog 28 #[.pointer (some ⟨w.heap.size, 0, none⟩), .agg #[.int .i64 6, .int .i64 i, .int .i64 c1, .int .i64 c2, .int .i64 c3, .int .i64 c4, .int .i64 d1, .int .i64 d2, .int .i64 d3, .string s]] wr _
  refine (InvP.lining a m w hE.env hNm hb (Nat.le_refl _) hb.size h hn hp i c1 c2 c3 c4 d1 d2 d3 s hs hi1 hi2).mono ?_
  rintro e w' ⟨rfl, hb3, hI⟩
  exact ⟨rfl, hb3, n, hn, hI⟩
 ·exact InvP.step a m hE hb h hn hp o hs hi1 hi2 hq

theorem all_walk (a : Addr) (m : Int) (w : World) (hE : EnvX a m w) (hNm : NamesE w) (b off cap : Nat) (ops : List OpV) (hS : Script w b off ops) (hl : ops.length ≤ 800000000) (hW : ∀ o ∈ ops, -9223372036854775808 ≤ o.i ∧ o.i ≤ 9223372036854775807) :
  Calls Tryz.prog 14 #[.slice (some ⟨b, off, none⟩) ops.length cap, .int .i64 6] w fun e w' => e = .returned (.bool true) ∧ Below w.heap.size w w' := by
 refine played_6 a m w hE.env b off cap ops hS (by omega) (fun k wr => ∃ n, 1 ≤ n ∧ InvP w.heap.size w.heap.size n (min k ops.length + 2) wr) (fun w1 hb => ?_) ?_ ?_ ?_
 ·refine (jobs_first a m w hE w1 hb).mono ?_
  rintro e w2 ⟨rfl, hb2, hs⟩
  refine ⟨rfl, hb2, fun s => (hs s).mono ?_⟩
  rintro e w3 ⟨rfl, hb3, hI⟩
  exact ⟨rfl, hb3, 1, Nat.le_refl _, hI.more (by omega)⟩
 ·rintro k wr o ho ⟨n, hn, hI⟩ hb hq
  have hk := (List.getElem?_eq_some_iff.1 ho).1
  have hw := hW o (List.mem_of_getElem? ho)
  refine (InvP.stepA a m hE hNm hb hI hn (by omega) o (hS k o ho).2 hw.1 hw.2).mono ?_
  rintro e w' ⟨rfl, hb2, n', hn', hI'⟩
  exact ⟨rfl, hb2, n', hn', hI'.more (by omega)⟩
 ·rintro k wr ⟨n, hn, hI⟩
  exact ⟨n, hn, hI.more (by omega)⟩
 ·rintro k wr ⟨n, hn, hI⟩ hb
  refine (hI.looks (by omega)).mono ?_
  rintro e w' ⟨rfl, hb2⟩
  exact ⟨rfl, hb.trans (hb2.mono hb.size), n, hn, hI.below hb2⟩

theorem all_none (a : Addr) (m : Int) (w : World) (hE : EnvX a m w) (ad : Option Addr) (cap : Nat) :
  Calls Tryz.prog 14 #[.slice ad 0 cap, .int .i64 6] w fun e w' => e = .returned (.bool true) ∧ Below w.heap.size w w' := by
 refine played_60 a m w hE.env ad cap (fun w1 hb => ?_)
 refine (jobs_first a m w hE w1 hb).mono ?_
 rintro e w2 ⟨rfl, hb2, hs⟩
 refine ⟨rfl, hb2, fun s => (hs s).mono ?_⟩
 rintro e w3 ⟨rfl, hb3, _⟩
 exact ⟨rfl, hb3⟩

end Go.Proofs.YtpcgnadfldimhaaGreatDoor
