/-
  PLAIN MATHEMATICS: what is told of jobs, event by event; what is known of them by that.
-/
import Derived.Test.YtpcgnadfldimhaaGreatDoorSchB
import Derived.Test.YtpcgnadfldimhaaGreatDoorMemG
import Derived.Test.YtpcgnadfldimhaaGreatDoorNums
namespace Go.Proofs.YtpcgnadfldimhaaGreatDoor

/-- What is told, one behind the other: jobs start at their time, end at their time, move to an earlier one. -/
inductive Tale (src dst : Int) : Int → List Job → List Ev → List Job → Prop
  | nil {last : Int} {L : List Job} : Tale src dst last L [] L
  | start {last : Int} {L M : List Job} {es : List Ev} {i : Nat} {j : Job} (hj : L[i]? = some j) (hp : j.phase = 1) (h1 : last ≤ j.start) (h2 : j.start ≤ dst) (h : Tale src dst j.start (L.set i { j with phase := 2 }) es M) : Tale src dst last L (⟨1, (i : Int) + 1, j.start, 0⟩ :: es) M
  | stop {last : Int} {L M : List Job} {es : List Ev} {i : Nat} {j : Job} (hj : L[i]? = some j) (hp : j.phase = 2) (hw : j.start + j.wall = j.stop) (h1 : last ≤ j.stop) (h2 : j.stop ≤ dst) (h : Tale src dst j.stop (L.set i { j with phase := 4 }) es M) : Tale src dst last L (⟨2, (i : Int) + 1, j.stop, 0⟩ :: es) M
  | move {last : Int} {L M : List Job} {es : List Ev} {i : Nat} {j : Job} {t : Int} (hj : L[i]? = some j) (hp : j.phase = 1) (h1 : src ≤ t) (h2 : t < j.start) (h : Tale src dst last (L.set i (j.moved t)) es M) : Tale src dst last L (⟨3, (i : Int) + 1, j.start, t⟩ :: es) M

theorem start_tale {src dst now : Int} {L N : List Job} {ds : List Ev} (hd : now ≤ dst) : ∀ k, k ≤ L.length → Tale src dst now (startL L now k) ds N → Tale src dst now L (startE L now k ++ ds) N
  | 0, _, h => by rw [startL_zero] at h; simpa [startE] using h
  | k + 1, hk, h => by
    obtain ⟨j, hj⟩ : ∃ j, L[k]? = some j := ⟨_, List.getElem?_eq_getElem (by omega)⟩
    rw [startL_step L now k j hj] at h
    rw [startE_step L now k j hj]
    have ej : (startL L now k)[k]? = some j := (startL_at L now k).trans hj
    by_cases hp : j.phase = 1 ∧ j.start = now
    · rw [if_pos hp, List.append_assoc]
      refine start_tale hd k (by omega) ?_
      rw [Job.go, if_pos hp] at h
      have h' : Tale src dst j.start ((startL L now k).set k { j with phase := 2 }) ds N := Eq.mpr (congrArg (fun z => Tale src dst z ((startL L now k).set k { j with phase := 2 }) ds N) hp.2) h
      have e := Tale.start (src := src) (dst := dst) (last := now) ej hp.1 (by omega) (by omega) h'
      rw [hp.2] at e
      exact e
    · rw [if_neg hp]
      refine start_tale hd k (by omega) ?_
      rw [Job.go, if_neg hp] at h
      have e : (startL L now k).set k j = startL L now k := by
        apply List.ext_getElem?
        intro i
        rw [List.getElem?_set]
        split
        · rename_i e; subst e
          split
          · exact ej.symm
          · rename_i e2
            exact absurd (List.getElem?_eq_some_iff.1 ej).1 e2
        · rfl
      rw [e] at h
      exact h

theorem starts_tale {src dst now : Int} {L : List Job} (hd : now ≤ dst) : Tale src dst now L (startE L now L.length) (L.map (Job.go now)) := by
  have e : startL L now L.length = L.map (Job.go now) := by
    apply List.ext_getElem?
    intro i
    simp only [startL, List.getElem?_mapIdx, List.getElem?_map]
    cases h : L[i]? with
    | none => rfl
    | some j => simp [(List.getElem?_eq_some_iff.1 h).1]
  have := start_tale (L := L) (N := L.map (Job.go now)) (ds := []) (src := src) hd L.length (Nat.le_refl _) (by rw [e]; exact Tale.nil)
  simpa using this

theorem turn_tale {nodes now dst last : Int} {L N : List Job} {ds : List Ev} (hF : Fine nodes now L) (i : Nat) (h : Tale now dst last (turnL nodes now L i) ds N) : Tale now dst last L (turnE nodes now L i ++ ds) N := by
  unfold turnL at h
  unfold turnE
  cases e : L[i]? with
  | none => rw [e] at h; simpa using h
  | some j =>
    rw [e] at h
    simp only at h ⊢
    by_cases hc : j.phase = 1 ∧ earliest L nodes now j.width j.wall i < j.start
    · rw [if_pos hc] at h ⊢
      have hm := List.mem_of_getElem? e
      have hE := hF.each j hm
      have hw : 1 ≤ j.wall := by
        rcases hE with hE | hE
        · exact hE.2.1
        · exact absurd hc.1 hE.1
      exact Tale.move e hc.1 (earliest_ge L nodes now j.width j.wall i hF.wide hF.now0 hw (hF.thin j hm)).1 hc.2 h
    · rw [if_neg hc] at h ⊢
      exact h

theorem round_tale {nodes now dst last : Int} {L N : List Job} (hF : Fine nodes now L) : ∀ k (ds : List Ev), Tale now dst last (roundL nodes now L k) ds N → Tale now dst last L (roundE nodes now L k ++ ds) N
  | 0, ds, h => by simpa [roundL, roundE] using h
  | k + 1, ds, h => by
    rw [roundE, List.append_assoc]
    exact round_tale hF k _ (turn_tale (fine_round hF k).1 k h)

theorem rounds_tale {nodes now dst last : Int} {L M N : List Job} {es ds : List Ev} (hr : Rounds nodes now L es M) : Fine nodes now L → Tale now dst last M ds N → Tale now dst last L (es ++ ds) N := by
  induction hr with
  | done _ => intro _ h; exact h
  | more _ _ ih =>
    intro hF h
    rw [List.append_assoc]
    exact round_tale hF _ _ (ih (fine_round hF _).1 h)

theorem runs_tale {src fin : Int} {L M : List Job} {es : List Ev} (hr : Runs fin L es M) : ∀ last, (∀ j ∈ L, j.active → last ≤ j.due) → (∀ j ∈ L, j.active → j.start ≤ j.stop ∧ j.start + j.wall = j.stop) → Tale src fin last L es M := by
  induction hr with
  | done _ => intro last _ _; exact Tale.nil
  | @step L M es i j hl hf _ ih =>
    intro last h1 h2
    obtain ⟨hj, ha, hb⟩ := hl
    have hm := List.mem_of_getElem? hj
    have hd := h1 j hm ha
    have hw := h2 j hm ha
    have hrest : ∀ b ∈ L.set i j.fire, b.active → j.due ≤ b.due := fun b hb' hba => by
      obtain ⟨k, hk⟩ := List.mem_iff_getElem?.1 hb'
      rw [List.getElem?_set] at hk
      split at hk
      · split at hk
        · simp at hk
          subst hk
          unfold Job.fire at hba ⊢
          by_cases hp : j.phase = 1
          · rw [if_pos hp]
            simp [Job.due, hp]
            omega
          · rw [if_neg hp] at hba
            rcases hba with e | e <;> simp at e
        · simp at hk
      · rename_i hne
        rcases hb k b hk hba with e | e
        · exact absurd e.symm hne
        · rcases e with e | e <;> omega
    have hall : ∀ b ∈ L.set i j.fire, b.active → b.start ≤ b.stop ∧ b.start + b.wall = b.stop := fun b hb' hba => by
      rcases List.mem_or_eq_of_mem_set hb' with e | e
      · exact h2 b e hba
      · subst e
        unfold Job.fire at hba ⊢
        split
        · exact hw
        · exact hw
    rcases ha with hp | hp
    · have e1 : j.event i = ⟨1, (i : Int) + 1, j.start, 0⟩ := by simp [Job.event, Job.due, hp]
      have e2 : j.fire = { j with phase := 2 } := by simp [Job.fire, hp]
      have e3 : j.due = j.start := by simp [Job.due, hp]
      rw [e1]
      rw [e2] at ih
      rw [e2, e3] at hrest
      rw [e2] at hall
      exact Tale.start hj hp (by omega) (by omega) (ih _ hrest hall)
    · have e1 : j.event i = ⟨2, (i : Int) + 1, j.stop, 0⟩ := by simp [Job.event, Job.due, hp]
      have e2 : j.fire = { j with phase := 4 } := by simp [Job.fire, hp]
      have e3 : j.due = j.stop := by simp [Job.due, hp]
      rw [e1]
      rw [e2] at ih
      rw [e2, e3] at hrest
      rw [e2] at hall
      exact Tale.stop hj hp hw.2 (by omega) (by omega) (ih _ hrest hall)

/-- What is known of a job by what was told. -/
structure Kj where
  width : Int
  wall : Int
  promise : Int
  started : Int
  over : Bool

/-- What is known of one is so. -/
def Knows (k : Kj) (j : Job) : Prop :=
  k.width = j.width ∧ k.wall = j.wall ∧ 0 ≤ j.start ∧ 1 ≤ j.phase ∧ j.phase ≤ 5 ∧ (j.phase = 1 → k.promise = j.start ∧ k.started = -1 ∧ k.over = false) ∧ (j.phase = 2 → k.promise = j.start ∧ k.started = j.start ∧ k.over = false) ∧ (j.live = false → k.over = true ∧ -1 ≤ k.started ∧ (0 ≤ k.started → k.started = j.start)) ∧ j.start ≤ 1000000000000000 ∧ 1 ≤ j.wall ∧ j.wall ≤ 1000000000
structure Told (K : List Kj) (L : List Job) : Prop where
  len : K.length = L.length
  each : ∀ (i : Nat) (k : Kj) (j : Job), K[i]? = some k → L[i]? = some j → Knows k j

theorem Told.set {K : List Kj} {L : List Job} (h : Told K L) (i : Nat) (k : Kj) (j : Job) (hk : Knows k j) : Told (K.set i k) (L.set i j) where
  len := by simp [h.len]
  each := fun n a b ha hb => by
    rw [List.getElem?_set] at ha hb
    by_cases e : i = n
    · rw [if_pos e] at ha hb
      split at ha
      · split at hb
        · simp at ha hb
          subst ha hb
          exact hk
        · simp at hb
      · simp at ha
    · rw [if_neg e] at ha hb
      exact h.each n a b ha hb
theorem Told.append {K : List Kj} {L : List Job} (h : Told K L) (k : Kj) (j : Job) (hk : Knows k j) : Told (K ++ [k]) (L ++ [j]) where
  len := by simp [h.len]
  each := fun n a b ha hb => by
    have hl := h.len
    rcases Nat.lt_or_ge n K.length with e | e
    · rw [List.getElem?_append_left e] at ha
      rw [List.getElem?_append_left (by omega)] at hb
      exact h.each n a b ha hb
    · rw [List.getElem?_append_right e] at ha
      rw [List.getElem?_append_right (by omega)] at hb
      have e2 : n - K.length = 0 := by
        have := (List.getElem?_eq_some_iff.1 ha).1
        simp at this
        omega
      rw [e2] at ha
      rw [show n - L.length = 0 by omega] at hb
      simp at ha hb
      subst ha hb
      exact hk
theorem Told.at {K : List Kj} {L : List Job} (h : Told K L) {i : Nat} {j : Job} (hj : L[i]? = some j) : ∃ k, K[i]? = some k ∧ Knows k j := by
  have hi := (List.getElem?_eq_some_iff.1 hj).1
  have hl := h.len
  obtain ⟨k, hk⟩ : ∃ k, K[i]? = some k := ⟨_, List.getElem?_eq_getElem (by omega)⟩
  exact ⟨k, hk, h.each i k j hk hj⟩

theorem Knows.go {k : Kj} {j : Job} (h : Knows k j) (hp : j.phase = 1) : Knows { k with started := j.start } { j with phase := 2 } := by
  obtain ⟨h1, h2, h3, _, _, h6, _, _, h9⟩ := h
  have := h6 hp
  exact ⟨h1, h2, h3, by simp, by simp, fun e => by simp at e, fun _ => ⟨this.1, rfl, this.2.2⟩, fun e => by simp [Job.live, liveB] at e, h9⟩
theorem Knows.end {k : Kj} {j : Job} (h : Knows k j) (hp : j.phase = 2) : Knows { k with over := true } { j with phase := 4 } := by
  obtain ⟨h1, h2, h3, _, _, _, h7, _, h9⟩ := h
  have := h7 hp
  exact ⟨h1, h2, h3, by simp, by simp, fun e => by simp at e, fun e => by simp at e, fun _ => ⟨rfl, by show -1 ≤ k.started; omega, fun _ => this.2.1⟩, h9⟩
theorem Knows.move {k : Kj} {j : Job} (h : Knows k j) (hp : j.phase = 1) {t : Int} (ht : 0 ≤ t) (ht2 : t < j.start) : Knows { k with promise := t } (j.moved t) := by
  obtain ⟨h1, h2, h3, h4, h5, h6, _, _, h9, h10⟩ := h
  have := h6 hp
  exact ⟨h1, h2, ht, h4, h5, fun _ => ⟨rfl, this.2.1, this.2.2⟩, fun e => by simp [Job.moved, hp] at e, fun e => by simp [Job.moved, Job.live, liveB, hp] at e, by show t ≤ _; omega, h10⟩
theorem Knows.early {k : Kj} {j : Job} (h : Knows k j) (hl : j.live = true) {now ph : Int} (h0 : 0 ≤ now) (h00 : now ≤ 1000000000000000) (hp : ph = 3 ∨ ph = 5) : Knows { k with over := true } (j.early now ph) := by
  obtain ⟨h1, h2, h3, h4, h5, h6, h7, _, h9, h10⟩ := h
  refine ⟨h1, h2, ?_, ?_, ?_, fun e => ?_, fun e => ?_, fun _ => ⟨rfl, ?_, fun e => ?_⟩, ?_, h10⟩
  · simp only [Job.early]; split <;> omega
  · simp only [Job.early]; omega
  · simp only [Job.early]; omega
  · simp only [Job.early] at e; omega
  · simp only [Job.early] at e; omega
  · rcases active_live.2 hl with e | e
    · have := h6 e; show -1 ≤ k.started; omega
    · have := h7 e; show -1 ≤ k.started; omega
  · have e' : 0 ≤ k.started := e
    rcases active_live.2 hl with e2 | e2
    · have := h6 e2; omega
    · have := h7 e2
      simp only [Job.early, e2]
      exact this.2.1
  · simp only [Job.early]; split <;> omega

/-- Time that goes on: what is told of it. -/
theorem tick_tale {nodes jobs wall last now n : Int} {L : List Job} {o : Out} (h : Good nodes jobs wall last now L) (ho : TickO last now L n o) (hn : now + n ≤ last) (src : Int) : o.err = 0 ∧ o.now = now + n ∧ Tale src (now + n) now L o.evs o.L := by
  rcases ho with ⟨h1, _⟩ | ⟨_, M, es, hg, hq, rfl⟩
  · omega
  · refine ⟨rfl, rfl, runs_tale (goes_runs hg h.sane hq) now (fun j hj ha => ?_) (fun j hj ha => ?_)⟩
    · have := h.phased j hj
      rcases ha with e | e
      · have := this.1 e
        simp [Job.due, e]; omega
      · have := this.2 e
        simp [Job.due, e]; omega
    · have := h.each j hj
      have e := this.2.2.2.2.2.2.2 (active_live.1 ha)
      omega

/-- A job that ends ahead of its time: what is told of it. -/
theorem end_tale {nodes jobs wall last now ph : Int} {L M : List Job} {es : List Ev} {i : Nat} {j : Job} (h : Good nodes jobs wall last now L) (hj : L[i]? = some j) (hl : j.live = true) (hp : ph ≠ 1 ∧ ph ≠ 2) (hr : Rounds nodes now (L.set i (j.early now ph)) es M) : Tale now now now (L.set i (j.early now ph)) (es ++ startE M now M.length) (M.map (Job.go now)) :=
  rounds_tale hr ((calm_early h hj hl hp).fine h.now0) (starts_tale (Int.le_refl _))

end Go.Proofs.YtpcgnadfldimhaaGreatDoor
namespace Go.Proofs.YtpcgnadfldimhaaGreatDoor
open Go.RowKit

def Kj.five (k : Kj) : List Value := [.int .i64 k.width, .int .i64 k.wall, .int .i64 k.promise, .int .i64 k.started, .bool k.over]
theorem Kj.five_len (k : Kj) : k.five.length = 5 := rfl

/-- A run: its cluster, the time, what is known of its jobs. -/
structure RunM (B br bx : Nat) (now : Int) (p : Option Addr) (cap : Nat) (K : List Kj) (w : World) : Prop where
  blk : w.heap[br]? = some (.cells #[.pointer (some ⟨bx, 0, none⟩), .int .i64 now, .slice p K.length cap] 38 (0, 0))
  own : w.ownsRow B 42 5 (.slice p K.length cap) K.length (gfl Kj.five K)
  low : B ≤ br
  few : K.length ≤ 1000
theorem RunM.lt {B br bx : Nat} {now : Int} {p : Option Addr} {cap : Nat} {K : List Kj} {w : World} (h : RunM B br bx now p cap K w) : br < w.heap.size := (Array.getElem?_eq_some_iff.1 h.blk).1
theorem RunM.cell {B br bx : Nat} {now : Int} {p : Option Addr} {cap : Nat} {K : List Kj} {w : World} (h : RunM B br bx now p cap K w) : w.cell? ⟨br, 0, none⟩ = some (.pointer (some ⟨bx, 0, none⟩)) ∧ w.cell? ⟨br, 1, none⟩ = some (.int .i64 now) ∧ w.cell? ⟨br, 2, none⟩ = some (.slice p K.length cap) := by
  have c0 := cell_of_row _ _ 0 _ _ (0, 0) h.blk
  have c1 := cell_of_row _ _ 1 _ _ (0, 0) h.blk
  have c2 := cell_of_row _ _ 2 _ _ (0, 0) h.blk
  simp at c0 c1 c2
  exact ⟨c0, c1, c2⟩
theorem RunM.row {B br bx : Nat} {now : Int} {p : Option Addr} {cap : Nat} {K : List Kj} {w : World} (h : RunM B br bx now p cap K w) : Laid Kj.five 5 w p K := owns_laid Kj.five_len h.own rfl

theorem RunM.kept {B br bx : Nat} {now : Int} {p : Option Addr} {cap : Nat} {K : List Kj} {w w' : World} {S : Nat → Prop} (h : RunM B br bx now p cap K w) (hK : Kept S w w') (h1 : ¬ S br) (h2 : ∀ k, (Value.slice p K.length cap).ownBlock = some k → ¬ S k) : RunM B br bx now p cap K w' :=
  ⟨(hK.block br h.lt h1).trans h.blk, owns_on h.own (fun k e => hK.block k (h.own.lt k e).2 (h2 k e)), h.low, h.few⟩
theorem RunM.below {B br bx : Nat} {now : Int} {p : Option Addr} {cap : Nat} {K : List Kj} {w w' : World} (h : RunM B br bx now p cap K w) (hb : Below w.heap.size w w') : RunM B br bx now p cap K w' :=
  h.kept (S := fun _ => False) (Kept.of_below hb) (fun e => e) (fun _ _ e => e)

/-- How many of the first k are not over. -/
def liveK (K : List Kj) : Nat → Nat
  | 0 => 0
  | k + 1 => match K[k]? with
    | some j => if j.over then liveK K k else liveK K k + 1
    | none => liveK K k
theorem liveK_step (K : List Kj) (k : Nat) (j : Kj) (h : K[k]? = some j) : liveK K (k + 1) = if j.over then liveK K k else liveK K k + 1 := by simp [liveK, h]
theorem liveK_le (K : List Kj) : ∀ k, liveK K k ≤ k
  | 0 => by simp [liveK]
  | k + 1 => by
    have ih := liveK_le K k
    unfold liveK
    cases e : K[k]? with
    | none => simp only; omega
    | some j => simp only; split <;> omega
theorem Knows.over {k : Kj} {j : Job} (h : Knows k j) : k.over = !j.live := by
  cases hl : j.live with
  | false => exact (h.2.2.2.2.2.2.2.1 hl).1
  | true =>
    rcases active_live.2 hl with e | e
    · exact (h.2.2.2.2.2.1 e).2.2
    · exact (h.2.2.2.2.2.2.1 e).2.2
theorem Told.live {K : List Kj} {L : List Job} (h : Told K L) : ∀ k, k ≤ L.length → liveK K k = liveN L k
  | 0, _ => rfl
  | k + 1, hk => by
    obtain ⟨j, hj⟩ : ∃ j, L[k]? = some j := ⟨_, List.getElem?_eq_getElem (by omega)⟩
    obtain ⟨a, ha, hn⟩ := h.at hj
    rw [liveK_step K k a ha, liveN_step L k j hj, h.live k (by omega), hn.over]
    cases j.live <;> rfl

set_option maxHeartbeats 2000000 in
set_option maxRecDepth 100000 in
theorem liveR_any (B br bx : Nat) (now : Int) (p : Option Addr) (cap : Nat) (K : List Kj) (w : World) (h : RunM B br bx now p cap K w) :
    Calls Tryz.prog 22 #[.pointer (some ⟨br, 0, none⟩)] w fun e w' => e = .returned (.int .i64 (liveK K K.length)) ∧ w' = w := by
  have hlen := h.few
  obtain ⟨c0, c1, c2⟩ := h.cell
  have HR := Lib.hid h.row
  clear h
  go_enter Tryz.func22, Tryz.ntmps22
  go_wp2
  go_loopw [3, 4] (fun n i wr => ∃ k : Nat, k ≤ K.length ∧ i = .int .i64 k ∧ n = .int .i64 (liveK K k) ∧ wr = w) (fun _ i _ => K.length - (intOf i).toNat)
  case atStart => exact ⟨0, Nat.zero_le _, rfl, rfl, rfl⟩
  case round =>
    obtain ⟨k, hk, rfl, rfl, rfl⟩ := hrel
    have hv := liveK_le K k
    by_cases hlt : k < K.length
    · obtain ⟨j, hj⟩ : ∃ j, K[k]? = some j := ⟨_, List.getElem?_eq_getElem hlt⟩
      obtain ⟨b, rfl, hrow⟩ := HR.out k j hj
      have r4 := hrow 4 _ rfl
      have HS := Lib.hid (liveK_step K k j hj)
      cases ho : j.over with
      | true =>
        rw [ho] at r4
        go_wp2
        go_roundw
        case rel => exact ⟨k + 1, by omega, by go_num, val_int (by rw [HS.out]; simp [ho]), trivial⟩
        case measure => simp [intOf]; omega
      | false =>
        rw [ho] at r4
        go_wp2
        go_roundw
        case rel => exact ⟨k + 1, by omega, by go_num, val_int (by rw [HS.out]; simp [ho]), trivial⟩
        case measure => simp [intOf]; omega
    · obtain rfl : k = K.length := by omega
      go_wp2
      go_ret
      exact ⟨rfl, rfl⟩

end Go.Proofs.YtpcgnadfldimhaaGreatDoor
namespace Go.Proofs.YtpcgnadfldimhaaGreatDoor
open Go.RowKit

def pickK (c : Int) (n : Nat) : Nat := ((if c < 0 then -(c + 1) else c) % (n : Int)).toNat
theorem pickK_lt (c : Int) (n : Nat) (hn : 1 ≤ n) : pickK c n < n := by
  have h1 := Int.emod_lt_of_pos (if c < 0 then -(c + 1) else c) (b := (n : Int)) (by omega)
  have h2 := Int.emod_nonneg (if c < 0 then -(c + 1) else c) (b := (n : Int)) (by omega)
  unfold pickK
  omega

set_option maxHeartbeats 2000000 in
set_option maxRecDepth 100000 in
theorem pickK_is (c : Int) (n : Nat) (w : World) (h1 : -9223372036854775808 ≤ c) (h2 : c ≤ 9223372036854775807) (hn : 1 ≤ n) (hn' : n ≤ 8000000000) :
    Calls Tryz.prog 24 #[.int .i64 c, .int .i64 n] w fun e w' => e = .returned (.int .i64 (pickK c n)) ∧ w' = w := by
  by_cases hc : c < 0
  · go_enter Tryz.func24, Tryz.ntmps24
    go_wp2
    go_ret
    have e1 : -((c + 1).tmod (n : Int)) = (-(c + 1)) % (n : Int) := by
      rw [← Int.neg_tmod, Int.tmod_eq_emod_of_nonneg (by omega)]
    have e2 := Int.emod_nonneg (-(c + 1)) (b := (n : Int)) (by omega)
    refine ⟨?_, rfl⟩
    rw [pickK, if_pos hc, Int.toNat_of_nonneg e2]
    simp [e1]
  · go_enter Tryz.func24, Tryz.ntmps24
    go_wp2
    go_ret
    have e2 := Int.emod_nonneg c (b := (n : Int)) (by omega)
    refine ⟨?_, rfl⟩
    rw [pickK, if_neg (by omega), Int.toNat_of_nonneg e2]
    simp

/-- pick of c and n is r. -/
def PK (c n r : Int) : Prop := -9223372036854775808 ≤ c ∧ c ≤ 9223372036854775807 ∧ ∃ m : Nat, n = m ∧ r = pickK c m ∧ 1 ≤ m ∧ m ≤ 8000000000
theorem pick_at {c n r : Int} (h : PK c n r) (w : World) : Calls Tryz.prog 24 #[.int .i64 c, .int .i64 n] w fun e w' => e = .returned (.int .i64 r) ∧ w' = w := by
  obtain ⟨h1, h2, m, rfl, rfl, h3, h4⟩ := h
  exact pickK_is c m w h1 h2 h3 h4

/-- A step: what is raw of it. -/
structure StepV where
  k : Int
  a : Int
  b : Int
structure StepV.wf (s : StepV) : Prop where
  k1 : -9223372036854775808 ≤ s.k
  k2 : s.k ≤ 9223372036854775807
  a1 : -9223372036854775808 ≤ s.a
  a2 : s.a ≤ 9223372036854775807
  b1 : -9223372036854775808 ≤ s.b
  b2 : s.b ≤ 9223372036854775807

/-- Which command a step is. -/
def comK (s : StepV) (taken : Nat) : Int × Int × Int :=
  if pickK s.k 7 < 3 then (1, 1 + pickK s.a 8, 1 + pickK s.b 30) else if pickK s.k 7 = 3 then (3, 1 + pickK s.a (taken + 1), 0) else if pickK s.k 7 = 4 then (2, 1 + pickK s.a (taken + 1), 0) else (4, pickK s.a 15, 0)

theorem cmdK_size : (Tryz.prog.info? 29).map (·.size) = some 3 := by kernel_rfl

set_option maxHeartbeats 4000000 in
set_option maxRecDepth 100000 in
theorem command_any (s : StepV) (hs : s.wf) (taken : Nat) (ht : taken ≤ 1000) (w : World) :
    Calls Tryz.prog 25 #[.agg #[.int .i64 s.k, .int .i64 s.a, .int .i64 s.b], .int .i64 taken] w fun e w' => e = .returned (.agg #[.int .i64 (comK s taken).1, .int .i64 (comK s taken).2.1, .int .i64 (comK s taken).2.2]) ∧ Below w.heap.size w w' := by
  obtain ⟨k, a, b⟩ := s
  obtain ⟨k1, k2, a1, a2, b1, b2⟩ := hs
  simp only at k1 k2 a1 a2 b1 b2
  have P7 : Hid (PK k 7 (pickK k 7)) := Lib.hid ⟨k1, k2, 7, rfl, rfl, by omega, by omega⟩
  have P8 : Hid (PK a 8 (pickK a 8)) := Lib.hid ⟨a1, a2, 8, rfl, rfl, by omega, by omega⟩
  have P30 : Hid (PK b 30 (pickK b 30)) := Lib.hid ⟨b1, b2, 30, rfl, rfl, by omega, by omega⟩
  have PT : Hid (PK a ((taken : Int) + 1) (pickK a (taken + 1))) := Lib.hid ⟨a1, a2, taken + 1, by omega, rfl, by omega, by omega⟩
  have P15 : Hid (PK a 15 (pickK a 15)) := Lib.hid ⟨a1, a2, 15, rfl, rfl, by omega, by omega⟩
  have l8 := pickK_lt a 8 (by omega)
  have l30 := pickK_lt b 30 (by omega)
  have lt := pickK_lt a (taken + 1) (by omega)
  have l15 := pickK_lt a 15 (by omega)
  have l7 := pickK_lt k 7 (by omega)
  clear k1 k2 a1 a2 b1 b2
  simp only [comK]
  generalize pickK a 8 = x8 at *
  generalize pickK b 30 = x30 at *
  generalize pickK a (taken + 1) = xt at *
  generalize pickK a 15 = x15 at *
  generalize pickK k 7 = x7 at *
  by_cases h3 : x7 < 3
  · rw [if_pos h3]
    go_enter Tryz.func25, Tryz.ntmps25
    go_wp2_with (go_at_call 24; refine (pick_at P7.out _).mono ?_; rintro e w1 ⟨rfl, rfl⟩; refine Hid.out ?_)
    refine Lib.hid ?_
    go_wp2
    go_region_held3 (fun w' => w'.cell? ⟨w.heap.size, 1, none⟩ = some (.int .i64 a) ∧ w'.cell? ⟨w.heap.size, 2, none⟩ = some (.int .i64 b)) (go_keep) (first | (go_at_call 24; refine (pick_at (by first | exact P8.out | exact P30.out) _).mono ?_; rintro e w2 ⟨rfl, hw⟩; subst w2))
    all_goals
      go_wp2
      rw [wrap_small (1 + (x8 : Int)) (by omega) (by omega), wrap_small (1 + (x30 : Int)) (by omega) (by omega)]
      have hq := alloc_at (w.alloc (.cells #[.int .i64 k, .int .i64 a, .int .i64 b] 48)) (.cells #[.int .i64 1, .int .i64 (1 + (x8 : Int)), .int .i64 (1 + (x30 : Int))] 29) (w.heap.size + 1) (by simp)
      refine bodyPost_ret (v := .agg #[.int .i64 1, .int .i64 (1 + (x8 : Int)), .int .i64 (1 + (x30 : Int))]) (results_cell_row Tryz.results25 _ _ (w.heap.size + 1) 29 #[.int .i64 1, .int .i64 (1 + (x8 : Int)), .int .i64 (1 + (x30 : Int))] (0, 0) _ rfl hq Tryz.underlying29 rfl cmdK_size) rfl ?_
      exact ⟨rfl, (((Below.refl w.heap.size w).alloc (Nat.le_refl _) _).alloc (by simp) _).drew⟩
  rw [if_neg h3]
  by_cases h4 : x7 = 3
  · rw [if_pos h4]
    subst h4
    go_enter Tryz.func25, Tryz.ntmps25
    go_wp2_with (go_at_call 24; refine (pick_at P7.out _).mono ?_; rintro e w1 ⟨rfl, rfl⟩; refine Hid.out ?_)
    refine Lib.hid ?_
    go_wp2_with (go_at_call 24; refine (pick_at PT.out _).mono ?_; rintro e w2 ⟨rfl, rfl⟩)
    have hq := alloc_at (w.alloc (.cells #[.int .i64 k, .int .i64 a, .int .i64 b] 48)) (.cells #[.int .i64 3, .int .i64 (1 + (xt : Int)), .int .i64 0] 29) (w.heap.size + 1) (by simp)
    refine bodyPost_ret (v := .agg #[.int .i64 3, .int .i64 (1 + (xt : Int)), .int .i64 0]) (results_cell_row Tryz.results25 _ _ (w.heap.size + 1) 29 #[.int .i64 3, .int .i64 (1 + (xt : Int)), .int .i64 0] (0, 0) _ rfl hq Tryz.underlying29 rfl cmdK_size) rfl ?_
    exact ⟨rfl, ((Below.refl w.heap.size w).alloc (Nat.le_refl _) _).alloc (by simp) _⟩
  rw [if_neg h4]
  by_cases h5 : x7 = 4
  · rw [if_pos h5]
    subst h5
    go_enter Tryz.func25, Tryz.ntmps25
    go_wp2_with (go_at_call 24; refine (pick_at P7.out _).mono ?_; rintro e w1 ⟨rfl, rfl⟩; refine Hid.out ?_)
    refine Lib.hid ?_
    go_wp2_with (go_at_call 24; refine (pick_at PT.out _).mono ?_; rintro e w2 ⟨rfl, rfl⟩)
    have hq := alloc_at (w.alloc (.cells #[.int .i64 k, .int .i64 a, .int .i64 b] 48)) (.cells #[.int .i64 2, .int .i64 (1 + (xt : Int)), .int .i64 0] 29) (w.heap.size + 1) (by simp)
    refine bodyPost_ret (v := .agg #[.int .i64 2, .int .i64 (1 + (xt : Int)), .int .i64 0]) (results_cell_row Tryz.results25 _ _ (w.heap.size + 1) 29 #[.int .i64 2, .int .i64 (1 + (xt : Int)), .int .i64 0] (0, 0) _ rfl hq Tryz.underlying29 rfl cmdK_size) rfl ?_
    exact ⟨rfl, ((Below.refl w.heap.size w).alloc (Nat.le_refl _) _).alloc (by simp) _⟩
  · rw [if_neg h5]
    have g3 : ((x7 : Int) == 3) = false := beq_eq_false_iff_ne.2 (by omega)
    have g4 : ((x7 : Int) == 4) = false := beq_eq_false_iff_ne.2 (by omega)
    go_enter Tryz.func25, Tryz.ntmps25
    go_wp2_with (go_at_call 24; refine (pick_at P7.out _).mono ?_; rintro e w1 ⟨rfl, rfl⟩; refine Hid.out ?_)
    refine Lib.hid ?_
    go_wp2_with (go_at_call 24; refine (pick_at P15.out _).mono ?_; rintro e w2 ⟨rfl, rfl⟩)
    have hq := alloc_at (w.alloc (.cells #[.int .i64 k, .int .i64 a, .int .i64 b] 48)) (.cells #[.int .i64 4, .int .i64 (x15 : Int), .int .i64 0] 29) (w.heap.size + 1) (by simp)
    refine bodyPost_ret (v := .agg #[.int .i64 4, .int .i64 (x15 : Int), .int .i64 0]) (results_cell_row Tryz.results25 _ _ (w.heap.size + 1) 29 #[.int .i64 4, .int .i64 (x15 : Int), .int .i64 0] (0, 0) _ rfl hq Tryz.underlying29 rfl cmdK_size) rfl ?_
    exact ⟨rfl, ((Below.refl w.heap.size w).alloc (Nat.le_refl _) _).alloc (by simp) _⟩

end Go.Proofs.YtpcgnadfldimhaaGreatDoor
namespace Go.Proofs.YtpcgnadfldimhaaGreatDoor

/-- What an event says of a job. -/
def Kj.noted (e : Ev) (k : Kj) : Kj := if e.kind = 1 then { k with started := e.time } else if e.kind = 2 then { k with over := true } else { k with promise := e.dest }
def note1 (K : List Kj) (e : Ev) : List Kj := match K[(e.id - 1).toNat]? with
  | some k => K.set (e.id - 1).toNat (k.noted e)
  | none => K
def noteK (K : List Kj) : List Ev → List Kj
  | [] => K
  | e :: r => noteK (note1 K e) r
theorem note1_len (K : List Kj) (e : Ev) : (note1 K e).length = K.length := by
  unfold note1
  split <;> simp
theorem noteK_len : ∀ (es : List Ev) (K : List Kj), (noteK K es).length = K.length
  | [], _ => rfl
  | e :: r, K => by rw [noteK, noteK_len r, note1_len]
theorem note1_at {K : List Kj} {e : Ev} {i : Nat} {k : Kj} (hk : K[i]? = some k) (he : e.id = (i : Int) + 1) : note1 K e = K.set i (k.noted e) := by
  have : (e.id - 1).toNat = i := by omega
  simp [note1, this, hk]
theorem noteK_snoc : ∀ (es : List Ev) (K : List Kj) (e : Ev), noteK K (es ++ [e]) = note1 (noteK K es) e
  | [], _, _ => rfl
  | a :: r, K, e => by rw [List.cons_append, noteK, noteK, noteK_snoc r]

/-- Why an event can be noted. -/
def CanNote (src dst last : Int) (k : Kj) (e : Ev) (last' : Int) : Prop :=
  (e.kind = 1 ∧ k.over = false ∧ k.started = -1 ∧ e.time = k.promise ∧ last ≤ e.time ∧ e.time ≤ dst ∧ last' = e.time) ∨
  (e.kind = 2 ∧ k.over = false ∧ 0 ≤ k.started ∧ e.time = k.started + k.wall ∧ last ≤ e.time ∧ e.time ≤ dst ∧ last' = e.time ∧ k.started ≤ 1000000000000000 ∧ 1 ≤ k.wall ∧ k.wall ≤ 1000000000) ∨
  (e.kind = 3 ∧ k.over = false ∧ k.started = -1 ∧ e.time = k.promise ∧ e.dest < e.time ∧ src ≤ e.dest ∧ last' = last)

theorem tale_step {src dst last : Int} {K : List Kj} {L M : List Job} {e : Ev} {es : List Ev} (h : Tale src dst last L (e :: es) M) (hT : Told K L) (h0 : 0 ≤ src) : ∃ (i : Nat) (k : Kj) (L' : List Job) (last' : Int), e.id = (i : Int) + 1 ∧ K[i]? = some k ∧ CanNote src dst last k e last' ∧ note1 K e = K.set i (k.noted e) ∧ Told (K.set i (k.noted e)) L' ∧ Tale src dst last' L' es M := by
  cases h with
  | @start _ _ _ _ i j hj hp h1 h2 h =>
    obtain ⟨k, hk, hn⟩ := hT.at hj
    obtain ⟨a1, a2, a3⟩ := hn.2.2.2.2.2.1 hp
    exact ⟨i, k, _, _, rfl, hk, Or.inl ⟨rfl, a3, a2, a1.symm, h1, h2, rfl⟩, note1_at hk rfl, hT.set i _ _ (by simpa [Kj.noted] using hn.go hp), h⟩
  | @stop _ _ _ _ i j hj hp hw h1 h2 h =>
    obtain ⟨k, hk, hn⟩ := hT.at hj
    obtain ⟨a1, a2, a3⟩ := hn.2.2.2.2.2.2.1 hp
    have q1 := hn.2.1
    have q2 := hn.2.2.1
    exact ⟨i, k, _, _, rfl, hk, Or.inr (Or.inl ⟨rfl, a3, by omega, by show j.stop = _; omega, h1, h2, rfl, by have := hn.2.2.2.2.2.2.2.2.1; omega, by have := hn.2.2.2.2.2.2.2.2.2.1; omega, by have := hn.2.2.2.2.2.2.2.2.2.2; omega⟩), note1_at hk rfl, hT.set i _ _ (by simpa [Kj.noted] using hn.end hp), h⟩
  | @move _ _ _ _ i j t hj hp h1 h2 h =>
    obtain ⟨k, hk, hn⟩ := hT.at hj
    obtain ⟨a1, a2, a3⟩ := hn.2.2.2.2.2.1 hp
    exact ⟨i, k, _, _, rfl, hk, Or.inr (Or.inr ⟨rfl, a3, a2, a1.symm, h2, h1, rfl⟩), note1_at hk rfl, hT.set i _ _ (by simpa [Kj.noted] using hn.move hp (by omega) h2), h⟩

theorem tale_told {src dst : Int} (h0 : 0 ≤ src) : ∀ (es : List Ev) {last : Int} {K : List Kj} {L M : List Job}, Tale src dst last L es M → Told K L → Told (noteK K es) M
  | [], _, _, _, _, h, hT => by cases h; exact hT
  | e :: r, _, _, _, _, h, hT => by
    obtain ⟨i, k, L', l', _, _, _, e1, hT', h'⟩ := tale_step h hT h0
    rw [noteK, e1]
    exact tale_told h0 r h' hT'

/-- What is known ahead of the events that a command told. -/
def preK (K : List Kj) (c : Int × Int × Int) (o : Out) : List Kj :=
  if c.1 = 1 then K ++ [⟨c.2.1, c.2.2, o.b, -1, false⟩] else if c.1 = 4 then K else match K[(c.2.1 - 1).toNat]? with
    | some k => K.set (c.2.1 - 1).toNat { k with over := true }
    | none => K
/-- What is known behind a step. -/
def stepK (K : List Kj) (c : Int × Int × Int) (o : Out) : List Kj := if o.err = 0 then noteK (preK K c o) o.evs else K
theorem preK_len (K : List Kj) (c : Int × Int × Int) (o : Out) : (preK K c o).length ≤ K.length + 1 := by
  unfold preK
  split
  · simp
  split
  · omega
  split <;> simp
theorem stepK_len (K : List Kj) (c : Int × Int × Int) (o : Out) : (stepK K c o).length ≤ K.length + 1 := by
  unfold stepK
  split
  · rw [noteK_len]; exact preK_len K c o
  · omega

/-- What a step's command is answered. -/
inductive StepO (now : Int) (K : List Kj) (L : List Job) (c : Int × Int × Int) (o : Out) : Prop
  | full (hk : c.1 = 1) (h1 : 12 ≤ liveK K K.length) (he : o.err = 4) (hv : o.evs = []) (hL : o.L = L) (hn : o.now = now)
  | sub (hk : c.1 = 1) (h1 : liveK K K.length < 12) (he : o.err = 0) (ha : o.a = (K.length : Int) + 1) (hb : now ≤ o.b) (hb2 : o.b ≤ 1000000000) (hn : o.now = now) (M : List Job) (hp : preK K c o = K ++ [⟨c.2.1, c.2.2, o.b, -1, false⟩]) (hT : Told (K ++ [⟨c.2.1, c.2.2, o.b, -1, false⟩]) M) (ht : Tale now now now M o.evs o.L)
  | tick (hk : c.1 = 4) (h0 : 0 ≤ c.2.1) (h1 : c.2.1 ≤ 14) (he : o.err = 0) (hn : o.now = now + c.2.1) (hp : preK K c o = K) (ht : Tale now (now + c.2.1) now L o.evs o.L)
  | none (hk : c.1 = 2 ∨ c.1 = 3) (hx : (K.length : Int) < c.2.1) (he : o.err = 5) (hv : o.evs = []) (hL : o.L = L) (hn : o.now = now)
  | late (hk : c.1 = 2 ∨ c.1 = 3) (i : Nat) (a : Kj) (hx : c.2.1 = 1 + (i : Int)) (ha : K[i]? = some a) (ho : a.over = true ∨ (c.1 = 3 ∧ a.started < 0)) (he : o.err = 6) (hv : o.evs = []) (hL : o.L = L) (hn : o.now = now)
  | ends (hk : c.1 = 2 ∨ c.1 = 3) (i : Nat) (a : Kj) (hx : c.2.1 = 1 + (i : Int)) (ha : K[i]? = some a) (ho : ¬ (a.over = true ∨ (c.1 = 3 ∧ a.started < 0))) (he : o.err = 0) (hn : o.now = now) (M : List Job) (hp : preK K c o = K.set i { a with over := true }) (hT : Told (K.set i { a with over := true }) M) (ht : Tale now now now M o.evs o.L)

theorem comK_kind (s : StepV) (n : Nat) : ((comK s n).1 = 1 ∧ 1 ≤ (comK s n).2.1 ∧ (comK s n).2.1 ≤ 8 ∧ 1 ≤ (comK s n).2.2 ∧ (comK s n).2.2 ≤ 30) ∨ ((comK s n).1 = 4 ∧ 0 ≤ (comK s n).2.1 ∧ (comK s n).2.1 ≤ 14 ∧ (comK s n).2.2 = 0) ∨ (((comK s n).1 = 2 ∨ (comK s n).1 = 3) ∧ 1 ≤ (comK s n).2.1 ∧ (comK s n).2.1 ≤ (n : Int) + 1 ∧ (comK s n).2.2 = 0) := by
  have l8 := pickK_lt s.a 8 (by omega)
  have l30 := pickK_lt s.b 30 (by omega)
  have lt := pickK_lt s.a (n + 1) (by omega)
  have l15 := pickK_lt s.a 15 (by omega)
  by_cases h3 : pickK s.k 7 < 3
  · have e : comK s n = (1, 1 + (pickK s.a 8 : Int), 1 + (pickK s.b 30 : Int)) := by simp [comK, h3]
    rw [e]; left; dsimp only; exact ⟨rfl, by omega, by omega, by omega, by omega⟩
  by_cases h4 : pickK s.k 7 = 3
  · have e : comK s n = (3, 1 + (pickK s.a (n + 1) : Int), 0) := by simp [comK, h4]
    rw [e]; right; right; dsimp only; exact ⟨Or.inr rfl, by omega, by omega, rfl⟩
  by_cases h5 : pickK s.k 7 = 4
  · have e : comK s n = (2, 1 + (pickK s.a (n + 1) : Int), 0) := by simp [comK, h5]
    rw [e]; right; right; dsimp only; exact ⟨Or.inl rfl, by omega, by omega, rfl⟩
  · have e : comK s n = (4, (pickK s.a 15 : Int), 0) := by simp [comK, h3, h4, h5]
    rw [e]; right; left; dsimp only; exact ⟨rfl, by omega, by omega, rfl⟩

theorem step_plain {now : Int} {K : List Kj} {L : List Job} {c : Int × Int × Int} {o : Out} (hG : Good 8 12 30 1000000 now L) (hT : Told K L) (hnow : now ≤ 999000) (hlen : K.length ≤ 100000)
    (hc : (c.1 = 1 ∧ 1 ≤ c.2.1 ∧ c.2.1 ≤ 8 ∧ 1 ≤ c.2.2 ∧ c.2.2 ≤ 30) ∨ (c.1 = 4 ∧ 0 ≤ c.2.1 ∧ c.2.1 ≤ 14 ∧ c.2.2 = 0) ∨ ((c.1 = 2 ∨ c.1 = 3) ∧ 1 ≤ c.2.1 ∧ c.2.1 ≤ (K.length : Int) + 1 ∧ c.2.2 = 0))
    (hD : DoE 8 12 30 1000000 now L c.1 c.2.1 c.2.2 o) : StepO now K L c o ∧ Told (stepK K c o) o.L := by
  obtain ⟨k, x, y⟩ := c
  simp only at hc hD
  have hlen2 := hT.len
  have hlK : liveK K K.length = liveN L L.length := by rw [hlen2]; exact hT.live L.length (Nat.le_refl _)
  have h0 := hG.now0
  have hok : rendOk k x y = true := by
    rcases hc with ⟨rfl, h⟩ | ⟨rfl, h⟩ | ⟨rfl | rfl, h⟩ <;> simp [rendOk, fitsB, numsN] <;> omega
  have fin : StepO now K L (k, x, y) o → Told (stepK K (k, x, y) o) o.L := fun h => by
    cases h with
    | full _ _ he hv hL _ => simp [stepK, he, hL, hT]
    | sub _ _ he _ _ _ _ M hp hT' ht =>
      rw [stepK, if_pos he, hp]
      exact tale_told h0 _ ht hT'
    | tick _ _ _ he _ hp ht =>
      rw [stepK, if_pos he, hp]
      exact tale_told h0 _ ht hT
    | none _ _ he hv hL _ => simp [stepK, he, hL, hT]
    | late _ _ _ _ _ _ he hv hL _ => simp [stepK, he, hL, hT]
    | ends _ _ _ _ _ _ he _ M hp hT' ht =>
      rw [stepK, if_pos he, hp]
      exact tale_told h0 _ ht hT'
  suffices hS : StepO now K L (k, x, y) o from ⟨hS, fin hS⟩
  rcases hc with ⟨rfl, h1, h2, h3, h4⟩ | ⟨rfl, h1, h2, rfl⟩ | ⟨hk, h1, h2, rfl⟩
  · have ho : o = submitO 8 12 30 now L x y := by
      rcases hD with (⟨h, _⟩ | ⟨_, ⟨_, h⟩ | ⟨h, _⟩ | ⟨h, _⟩ | ⟨h, _⟩ | ⟨h, _⟩ | ⟨h, _⟩⟩) | ⟨_, h, _⟩
      · rw [hok] at h; simp at h
      · exact h
      all_goals omega
    unfold submitO at ho
    rw [if_neg (by omega), if_neg (by omega)] at ho
    by_cases hf : (12 : Int) ≤ (liveN L L.length : Int)
    · rw [if_pos hf] at ho
      subst ho
      exact StepO.full rfl (by omega) rfl rfl rfl rfl
    · rw [if_neg hf] at ho
      obtain ⟨g1, g2⟩ := earliest_ge L 8 now x y (-1) hG.wide h0 (by omega) (by omega)
      have g3 : earliest L 8 now x y (-1) ≤ 1000360 := by
        rcases earliest_at L 8 now x y (-1) h0 with e | e | ⟨_, j, hj, _, e⟩
        · have := hG.now1; omega
        · omega
        · have := (hG.each j hj).2.2.2.2.1
          omega
      subst ho
      refine StepO.sub rfl (by omega) rfl ?_ g1 (by show earliest L 8 now x y (-1) ≤ _; omega) rfl (L ++ [⟨x, y, 1, earliest L 8 now x y (-1), earliest L 8 now x y (-1) + y⟩]) rfl (hT.append _ _ ?_) (starts_tale (Int.le_refl _))
      · simp [hlen2]
      · refine ⟨rfl, rfl, by show 0 ≤ earliest L 8 now x y (-1); omega, by simp, by simp, fun _ => ⟨rfl, rfl, rfl⟩, fun e => by simp at e, fun e => by simp [Job.live, liveB] at e, by show earliest L 8 now x y (-1) ≤ _; omega, h3, by show y ≤ _; omega⟩
  · have ho : TickO 1000000 now L x o := by
      rcases hD with (⟨h, _⟩ | ⟨_, ⟨h, _⟩ | ⟨_, h⟩ | ⟨h, _⟩ | ⟨h, _⟩ | ⟨h, _⟩ | ⟨h, _⟩⟩) | ⟨_, h, _⟩
      · rw [hok] at h; simp at h
      · omega
      · exact h
      all_goals omega
    obtain ⟨e1, e2, e3⟩ := tick_tale hG ho (by omega) now
    exact StepO.tick rfl h1 h2 e1 e2 (by simp [preK]) e3
  · have ho : EndO 8 now L k x o := by
      rcases hD with (⟨h, _⟩ | ⟨_, ⟨h, _⟩ | ⟨h, _⟩ | ⟨h, _⟩ | ⟨h, _⟩ | ⟨h, _⟩ | ⟨h, _⟩⟩) | ⟨_, _, h⟩
      · rw [hok] at h; simp at h
      all_goals first | omega | exact h
    rcases ho with ⟨h, rfl⟩ | ⟨i, j, rfl, hj, ⟨h, rfl⟩ | ⟨hl, h3, M, es, hr, rfl⟩⟩
    · exact StepO.none hk (by show (K.length : Int) < x; omega) rfl rfl rfl rfl
    · obtain ⟨a, ha, hn⟩ := hT.at hj
      refine StepO.late hk i a (by show (i : Int) + 1 = _; omega) ha ?_ rfl rfl rfl rfl
      have hov := hn.over
      rcases h with h | ⟨h, h'⟩
      · left; rw [hov, h]; rfl
      · cases hl : j.live with
        | false => left; rw [hov, hl]; rfl
        | true =>
          rcases active_live.2 hl with e | e
          · exact Or.inr ⟨h, by have := (hn.2.2.2.2.2.1 e).2.1; omega⟩
          · exact absurd e h'
    · obtain ⟨a, ha, hn⟩ := hT.at hj
      have hov := hn.over
      have hpre : preK K (k, (i : Int) + 1, 0) ⟨0, 0, 0, 0, [], es ++ startE M now M.length, now, M.map (Job.go now)⟩ = K.set i { a with over := true } := by
        have e1 : ¬ k = 1 := by omega
        have e4 : ¬ k = 4 := by omega
        have e5 : (((i : Int) + 1) - 1).toNat = i := by omega
        simp [preK, e1, e4, ha]
      refine StepO.ends hk i a (by show (i : Int) + 1 = _; omega) ha ?_ rfl rfl _ hpre (hT.set i _ (j.early now (if k = 3 then 3 else 5)) (hn.early hl h0 (by omega) (by split <;> simp))) (end_tale hG hj hl (by split <;> omega) hr)
      rintro (h | ⟨h, h'⟩)
      · rw [hov, hl] at h; simp at h
      · have := (hn.2.2.2.2.2.2.1 (h3 h)).2.1
        have := hn.2.2.1
        omega

/-- Where a script has led behind its first k steps: what is known, the jobs, the time. -/
inductive After (ss : List StepV) : Nat → List Kj → List Job → Int → Prop
  | nil : After ss 0 [] [] 0
  | step {k : Nat} {K : List Kj} {L : List Job} {now : Int} {s : StepV} {o : Out} (h : After ss k K L now) (hs : ss[k]? = some s) (hD : DoE 8 12 30 1000000 now L (comK s K.length).1 (comK s K.length).2.1 (comK s K.length).2.2 o) : After ss (k + 1) (stepK K (comK s K.length) o) o.L o.now

theorem conf8 : ConfOk 8 12 30 1000000 := by unfold ConfOk; omega

theorem After.good {ss : List StepV} {k : Nat} {K : List Kj} {L : List Job} {now : Int} (h : After ss k K L now) : k ≤ 1000 → Good 8 12 30 1000000 now L ∧ Told K L ∧ K.length ≤ k ∧ now ≤ 14 * k := by
  induction h with
  | nil => intro _; exact ⟨good_new conf8, ⟨rfl, fun i a b ha => by simp at ha⟩, by simp, by simp⟩
  | @step k K L now s o h hs hD ih =>
    intro hk
    obtain ⟨hG, hT, hl, hn⟩ := ih (by omega)
    obtain ⟨hS, hT'⟩ := step_plain hG hT (by omega) (by omega) (comK_kind s K.length) hD
    refine ⟨(good_doE hG hD).1, hT', by have := stepK_len K (comK s K.length) o; omega, ?_⟩
    cases hS <;> omega

theorem After.unique {ss : List StepV} {k : Nat} {K : List Kj} {L : List Job} {now : Int} (h : After ss k K L now) : ∀ {K' : List Kj} {L' : List Job} {now' : Int}, k ≤ 1000 → After ss k K' L' now' → K = K' ∧ L = L' ∧ now = now' := by
  induction h with
  | nil => intro K' L' now' _ h'; cases h'; exact ⟨rfl, rfl, rfl⟩
  | @step k K L now s o h hs hD ih =>
    intro K' L' now' hk h'
    cases h' with
    | @step _ K2 L2 now2 s2 o2 h2 hs2 hD2 =>
      obtain ⟨rfl, rfl, rfl⟩ := ih (by omega) h2
      obtain rfl := Option.some.inj (hs.symm.trans hs2)
      obtain rfl := doE_unique (h.good (by omega)).1 hD hD2
      exact ⟨rfl, rfl, rfl⟩

end Go.Proofs.YtpcgnadfldimhaaGreatDoor
namespace Go.Proofs.YtpcgnadfldimhaaGreatDoor

/-- When time has gone on long enough all is over. -/
theorem all_over {now : Int} {L : List Job} {o : Out} (hG : Good 8 12 30 1000000 now L) (ho : TickO 1000000 now L 390 o) (hn : now ≤ 999000) : ∀ j ∈ o.L, j.live = false := by
  have hG2 := good_tick hG (by omega) ho
  rcases ho with ⟨h, _⟩ | ⟨_, M, es, hg, _, rfl⟩
  · omega
  · obtain ⟨f, rfl, hf⟩ := mom_goes hg (by have := hG.now0; omega)
    intro j hj
    have hp := hG2.phased j hj
    have hjm : j ∈ L.map f := hj
    obtain ⟨b, hb, rfl⟩ := List.mem_map.1 hjm
    obtain ⟨a1, a2, _, _, a5, _⟩ := hf b
    cases hl : (f b).live with
    | false => rfl
    | true =>
      have := hG.ends b hb (a5 hl)
      have hfew := hG.few
      have := (hG.each b hb).2.2.2.1
      rcases active_live.2 hl with e | e
      · have := hp.1 e
        simp only at this
        omega
      · have := (hp.2 e).2
        simp only at this
        omega
theorem queueN_dead (L : List Job) (h : ∀ j ∈ L, j.live = false) : ∀ k, queueN L k = []
  | 0 => rfl
  | k + 1 => by
    have ih := queueN_dead L h k
    cases e : L[k]? with
    | none => simp [queueN, e, ih]
    | some j =>
      have := h j (List.mem_of_getElem? e)
      simp [Job.live, liveB] at this
      rw [queueN_step L k j e, if_neg (by omega), ih]
theorem freeN_dead (L : List Job) (nodes : Int) (h : ∀ j ∈ L, j.live = false) : ∀ k, freeN L nodes k = nodes
  | 0 => rfl
  | k + 1 => by
    have ih := freeN_dead L nodes h k
    cases e : L[k]? with
    | none => simp [freeN, e, ih]
    | some j =>
      have := h j (List.mem_of_getElem? e)
      simp [Job.live, liveB] at this
      rw [freeN_step L nodes k j e, if_neg (by omega), ih]
theorem liveN_dead (L : List Job) (h : ∀ j ∈ L, j.live = false) : ∀ k, liveN L k = 0
  | 0 => rfl
  | k + 1 => by
    have ih := liveN_dead L h k
    cases e : L[k]? with
    | none => simp [liveN, e, ih]
    | some j =>
      rw [liveN_step L k j e, h j (List.mem_of_getElem? e), ih]
      rfl

/-- How many nodes are reserved at t, by what is known of the first k jobs. -/
def Kj.onAt (t but : Int) (i : Nat) (k : Kj) : Bool := !k.over && decide ((i : Int) ≠ but) && decide (k.promise ≤ t) && decide (t < k.promise + k.wall)
def usedK (K : List Kj) (t but : Int) : Nat → Int
  | 0 => 0
  | k + 1 => match K[k]? with
    | some j => if j.onAt t but k then usedK K t but k + j.width else usedK K t but k
    | none => usedK K t but k
theorem usedK_step (K : List Kj) (t but : Int) (k : Nat) (j : Kj) (h : K[k]? = some j) : usedK K t but (k + 1) = if j.onAt t but k then usedK K t but k + j.width else usedK K t but k := by
  simp [usedK, h]
theorem Told.usedN_is {K : List Kj} {L : List Job} (h : Told K L) (hw : ∀ j ∈ L, j.live = true → j.start + j.wall = j.stop) (t but : Int) : ∀ k, k ≤ L.length → usedK K t but k = usedN L t but k
  | 0, _ => rfl
  | k + 1, hk => by
    have ih := h.usedN_is hw t but k (by omega)
    obtain ⟨j, hj⟩ : ∃ j, L[k]? = some j := ⟨_, List.getElem?_eq_getElem (by omega)⟩
    obtain ⟨a, ha, hn⟩ := h.at hj
    rw [usedK_step K t but k a ha, usedN_step L t but k j hj, ih, hn.1]
    have : a.onAt t but k = j.onAt t but k := by
      have hov := hn.over
      cases hl : j.live with
      | false => simp [Kj.onAt, Job.onAt, hov, hl]
      | true =>
        have e2 := hw j (List.mem_of_getElem? hj) hl
        have ep : a.promise = j.start := by
          rcases active_live.2 hl with e | e
          · exact (hn.2.2.2.2.2.1 e).1
          · exact (hn.2.2.2.2.2.2.1 e).1
        simp [Kj.onAt, Job.onAt, hov, hl, ep, hn.2.1, e2]
    rw [this]
theorem Good.walls {nodes jobs wall last now : Int} {L : List Job} (h : Good nodes jobs wall last now L) : ∀ j ∈ L, j.live = true → j.start + j.wall = j.stop := fun j hj => (h.each j hj).2.2.2.2.2.2.2
theorem Told.usedAll {nodes jobs wall last now : Int} {K : List Kj} {L : List Job} (h : Told K L) (hG : Good nodes jobs wall last now L) (t but : Int) : usedK K t but K.length = used L t but := by
  rw [h.len]
  exact h.usedN_is hG.walls t but L.length (Nat.le_refl _)

/-- At no moment more is reserved than there is, times gone by among them. -/
theorem fits_ever {nodes jobs wall last now : Int} {L : List Job} (h : Good nodes jobs wall last now L) (t : Int) : used L t (-1) ≤ nodes := by
  by_cases ht : now ≤ t
  · exact h.fits t ht
  · refine Int.le_trans ?_ (h.fits now (Int.le_refl _))
    refine usedN_mono L t now (-1) h.wide (fun i j hj ho => ?_) L.length
    have hp := h.phased j (List.mem_of_getElem? hj)
    simp only [Job.onAt, Bool.and_eq_true, decide_eq_true_eq] at ho ⊢
    obtain ⟨⟨⟨o1, o2⟩, o3⟩, o4⟩ := ho
    rcases active_live.2 o1 with e | e
    · have := hp.1 e
      omega
    · have := hp.2 e
      exact ⟨⟨⟨o1, o2⟩, this.1⟩, this.2⟩
theorem free_used {nodes jobs wall last now : Int} {L : List Job} (h : Good nodes jobs wall last now L) : ∀ k, k ≤ L.length → freeN L nodes k = nodes - usedN L now (-1) k
  | 0, _ => by simp [freeN, usedN]
  | k + 1, hk => by
    have ih := free_used h k (by omega)
    obtain ⟨j, hj⟩ : ∃ j, L[k]? = some j := ⟨_, List.getElem?_eq_getElem (by omega)⟩
    rw [freeN_step L nodes k j hj, usedN_step L now (-1) k j hj, ih]
    have hp := h.phased j (List.mem_of_getElem? hj)
    have e : j.onAt now (-1) k = true ↔ j.phase = 2 := by
      simp only [Job.onAt, Job.live, liveB, Bool.and_eq_true, decide_eq_true_eq]
      constructor
      · rintro ⟨⟨⟨o1, _⟩, o3⟩, _⟩
        rcases o1 with e | e
        · have := hp.1 e
          omega
        · exact e
      · intro e
        have := hp.2 e
        exact ⟨⟨⟨Or.inr e, by omega⟩, this.1⟩, this.2⟩
    by_cases hc : j.phase = 2
    · rw [if_pos hc, if_pos (e.2 hc)]; omega
    · rw [if_neg hc, if_neg (fun h => hc (e.1 h))]
theorem free_pos {nodes jobs wall last now : Int} {L : List Job} (h : Good nodes jobs wall last now L) : 0 ≤ freeN L nodes L.length := by
  have := free_used h L.length (Nat.le_refl _)
  have := h.fits now (Int.le_refl _)
  unfold used at this
  omega
def freeK (K : List Kj) : Nat → Int
  | 0 => 8
  | k + 1 => match K[k]? with
    | some j => if j.over = false ∧ 0 ≤ j.started then freeK K k - j.width else freeK K k
    | none => freeK K k
theorem freeK_step (K : List Kj) (k : Nat) (j : Kj) (h : K[k]? = some j) : freeK K (k + 1) = if j.over = false ∧ 0 ≤ j.started then freeK K k - j.width else freeK K k := by simp [freeK, h]
theorem Knows.runs {k : Kj} {j : Job} (h : Knows k j) : (k.over = false ∧ 0 ≤ k.started) ↔ j.phase = 2 := by
  have hov := h.over
  constructor
  · rintro ⟨h1, h2⟩
    rw [h1] at hov
    have hl : j.live = true := by cases hl : j.live <;> simp [hl] at hov ⊢
    rcases active_live.2 hl with e | e
    · have := (h.2.2.2.2.2.1 e).2.1
      omega
    · exact e
  · intro e
    have := h.2.2.2.2.2.2.1 e
    exact ⟨this.2.2, by have := h.2.2.1; omega⟩
theorem Told.free_is {K : List Kj} {L : List Job} (h : Told K L) : ∀ k, k ≤ L.length → freeK K k = freeN L 8 k
  | 0, _ => rfl
  | k + 1, hk => by
    have ih := h.free_is k (by omega)
    obtain ⟨j, hj⟩ : ∃ j, L[k]? = some j := ⟨_, List.getElem?_eq_getElem (by omega)⟩
    obtain ⟨a, ha, hn⟩ := h.at hj
    rw [freeK_step K k a ha, freeN_step L 8 k j hj, ih, hn.1]
    by_cases hc : j.phase = 2
    · rw [if_pos hc, if_pos (hn.runs.2 hc)]
    · rw [if_neg hc, if_neg (fun h => hc (hn.runs.1 h))]

/-- Is there room at t for width, n moments long, but for one job? -/
def roomK (K : List Kj) (width t but : Int) : Nat → Bool
  | 0 => true
  | n + 1 => roomK K width t but n && decide (usedK K (t + n) but K.length + width ≤ 8)
theorem roomK_iff (K : List Kj) (width t but : Int) : ∀ n, roomK K width t but n = true ↔ ∀ s, t ≤ s → s < t + n → usedK K s but K.length + width ≤ 8
  | 0 => by simp [roomK]; intro s h1 h2; omega
  | n + 1 => by
    have ih := roomK_iff K width t but n
    simp only [roomK, Bool.and_eq_true, decide_eq_true_eq, ih]
    constructor
    · rintro ⟨h1, h2⟩ s a b
      by_cases e : s < t + n
      · exact h1 s a e
      · have : s = t + n := by omega
        rw [this]; exact h2
    · intro h
      exact ⟨fun s a b => h s a (by omega), h _ (by omega) (by omega)⟩
theorem roomK_off (K : List Kj) (width t but : Int) (n : Nat) (h : roomK K width t but n = false) : ∀ m, n ≤ m → roomK K width t but m = false
  | 0, hm => by obtain rfl : n = 0 := by omega
                exact h
  | m + 1, hm => by
    rcases Nat.lt_or_ge m n with e | e
    · obtain rfl : n = m + 1 := by omega
      exact h
    · simp [roomK, roomK_off K width t but n h m e]
theorem Told.room_is {now : Int} {K : List Kj} {L : List Job} (h : Told K L) (hG : Good 8 12 30 1000000 now L) {i : Nat} {k : Kj} (hk : K[i]? = some k) (ho : k.over = false) (hs : k.started < 0) :
    now ≤ k.promise ∧ roomK K k.width k.promise i k.wall.toNat = true ∧ ∀ t, now ≤ t → t < k.promise → roomK K k.width t i k.wall.toNat = false := by
  have hi := (List.getElem?_eq_some_iff.1 hk).1
  have hlen := h.len
  obtain ⟨j, hj⟩ : ∃ j, L[i]? = some j := ⟨_, List.getElem?_eq_getElem (by omega)⟩
  have hn := h.each i k j hk hj
  have hm := List.mem_of_getElem? hj
  have hov := hn.over
  rw [ho] at hov
  have hl : j.live = true := by cases hl : j.live <;> simp [hl] at hov ⊢
  have hp : j.phase = 1 := by
    rcases active_live.2 hl with e | e
    · exact e
    · have := (hn.2.2.2.2.2.2.1 e).2.1
      have := hn.2.2.1
      omega
  obtain ⟨e1, _, _⟩ := hn.2.2.2.2.2.1 hp
  obtain ⟨a1, a2, a3, a4, a5, a6, a7, a8⟩ := hG.each j hm
  have hst := a8 hl
  have hph := (hG.phased j hm).1 hp
  have hw : (k.wall.toNat : Int) = j.wall := by have := hn.2.1; omega
  refine ⟨by omega, ?_, fun t h1 h2 => ?_⟩
  · rw [roomK_iff]
    intro s q1 q2
    rw [h.usedAll hG, hn.1]
    have hb := used_but L s i j hj
    rw [if_pos (by simp [Job.onAt, hl]; omega)] at hb
    have := hG.fits s (by omega)
    omega
  · have := hG.stable i j hj hp t h1 (by omega)
    cases hr : roomK K k.width t i k.wall.toNat with
    | false => rfl
    | true =>
      exact absurd (fun s q1 q2 => by
        have := (roomK_iff K k.width t i k.wall.toNat).1 hr s q1 (by omega)
        rw [h.usedAll hG, hn.1] at this
        exact this) this

/-- The rest of all live jobs' reservations together, by what is known. -/
def Kj.left (now : Int) (k : Kj) : Int := if 0 ≤ k.started then k.started + k.wall - now else k.wall
def restK (K : List Kj) (now : Int) : Nat → Int
  | 0 => 0
  | k + 1 => match K[k]? with
    | some j => if j.over then restK K now k else restK K now k + j.left now
    | none => restK K now k
theorem restK_step (K : List Kj) (now : Int) (k : Nat) (j : Kj) (h : K[k]? = some j) : restK K now (k + 1) = if j.over then restK K now k else restK K now k + j.left now := by simp [restK, h]
theorem Told.rest_is {nodes jobs wall last now : Int} {K : List Kj} {L : List Job} (h : Told K L) (hG : Good nodes jobs wall last now L) : ∀ k, k ≤ L.length → restK K now k = (((L.take k).filter Job.live).map fun j => j.stop - max j.start now).sum
  | 0, _ => by simp [restK]
  | k + 1, hk => by
    have ih := h.rest_is hG k (by omega)
    obtain ⟨j, hj⟩ : ∃ j, L[k]? = some j := ⟨_, List.getElem?_eq_getElem (by omega)⟩
    obtain ⟨a, ha, hn⟩ := h.at hj
    have e := (List.getElem?_eq_some_iff.1 hj).2
    rw [restK_step K now k a ha, List.take_succ_eq_append_getElem (by omega), List.filter_append, List.map_append, List.sum_append, e, ih, hn.over]
    cases hl : j.live with
    | false => simp [hl]
    | true =>
      have hm := List.mem_of_getElem? hj
      have hst := hG.walls j hm hl
      have hw := hn.2.1
      have hp := hG.phased j hm
      have h0 := hn.2.2.1
      have : a.left now = j.stop - max j.start now := by
        unfold Kj.left
        rcases active_live.2 hl with e | e
        · have := hn.2.2.2.2.2.1 e
          have := hp.1 e
          rw [if_neg (by omega)]
          omega
        · have := hn.2.2.2.2.2.2.1 e
          have := hp.2 e
          rw [if_pos (by omega)]
          omega
      simp [hl, this]
theorem soon_plain {nodes jobs wall last now width wl : Int} {K : List Kj} {L : List Job} (h : Told K L) (hG : Good nodes jobs wall last now L) (hwl : 1 ≤ wl) (hw : width ≤ nodes) : now ≤ earliest L nodes now width wl (-1) ∧ earliest L nodes now width wl (-1) ≤ now + restK K now K.length := by
  have h0 := hG.now0
  have hg := (earliest_ge L nodes now width wl (-1) hG.wide h0 hwl hw).1
  have hr := h.rest_is hG L.length (Nat.le_refl _)
  rw [List.take_length] at hr
  rw [h.len, hr]
  refine ⟨hg, ?_⟩
  have hpos : ∀ j ∈ L, j.live = true → 0 ≤ j.stop - max j.start now := fun j hj hl => by
    have hp := hG.phased j hj
    have hst := hG.walls j hj hl
    have hwa := (hG.each j hj).2.2.2.2.2.1
    rcases active_live.2 hl with e | e
    · have := hp.1 e; omega
    · have := hp.2 e; omega
  rcases earliest_at L nodes now width wl (-1) h0 with e | e | ⟨_, j, hj, hl, e⟩
  · have h1 := sum_le (fun _ => (0 : Int)) (fun j : Job => j.stop - max j.start now) (L.filter Job.live) (fun j hj => hpos j (List.mem_filter.1 hj).1 (List.mem_filter.1 hj).2)
    rw [sum_zero] at h1
    omega
  · omega
  · have hc := cover_len ((L.filter Job.live).map fun a => (max a.start now, a.stop)) now j.stop
      (fun p hp => by
        obtain ⟨a, ha, rfl⟩ := List.mem_map.1 hp
        have := hpos a (List.mem_filter.1 ha).1 (List.mem_filter.1 ha).2
        show max a.start now ≤ a.stop
        omega)
      (fun s h1 h2 => by
        obtain ⟨a, ha, hal, h3, h4⟩ := hG.gap j hj hl s h1 h2
        exact ⟨(max a.start now, a.stop), List.mem_map.2 ⟨a, List.mem_filter.2 ⟨ha, hal⟩, rfl⟩, by show max a.start now ≤ s; omega, h4⟩)
    rw [List.map_map] at hc
    have e2 : ((L.filter Job.live).map ((fun p : Int × Int => p.2 - p.1) ∘ fun a : Job => (max a.start now, a.stop))).sum = ((L.filter Job.live).map fun j => j.stop - max j.start now).sum := rfl
    rw [e2] at hc
    omega

/-- Time that goes by at once is time that goes by bit by bit. -/
theorem Runs.on {f1 f2 : Int} {L M N : List Job} {es ds : List Ev} (h : Runs f1 L es M) (hf : f1 ≤ f2) : Runs f2 M ds N → Runs f2 L (es ++ ds) N := by
  induction h with
  | done _ => intro h; exact h
  | step hl hd _ ih => intro h; exact Runs.step hl (by omega) (ih h)
theorem tick_none {nodes jobs wall last now : Int} {L : List Job} (hG : Good nodes jobs wall last now L) : TickO last now L 0 ⟨0, 0, 0, 0, [], [], now, L⟩ := by
  have hq : Quiet now L := fun j hj ha => by
    have hp := hG.phased j hj
    rcases ha with e | e
    · have := hp.1 e; simp [Job.due, e]; omega
    · have := hp.2 e; simp [Job.due, e]; omega
  obtain ⟨h1, h2⟩ := runs_goes hG.sane (Runs.done hq)
  refine Or.inr ⟨by have := hG.now1; omega, L, [], ?_, ?_, by simp⟩
  · simpa using h1
  · simpa using h2
theorem tick_more {nodes jobs wall last now a b : Int} {L : List Job} {o o2 : Out} (hG : Good nodes jobs wall last now L) (ha : 0 ≤ a) (hb : 0 ≤ b) (hle : now + a + b ≤ last) (h1 : TickO last now L a o) (h2 : TickO last o.now o.L b o2) : o2.err = 0 ∧ o.now = now + a ∧ o2.now = now + (a + b) ∧ TickO last now L (a + b) ⟨0, 0, 0, 0, [], o.evs ++ o2.evs, now + (a + b), o2.L⟩ := by
  have hG1 := good_tick hG ha h1
  rcases h1 with ⟨h, _⟩ | ⟨_, M, es, hg, hq, rfl⟩
  · omega
  · rcases h2 with ⟨h, _⟩ | ⟨_, N, ds, hg2, hq2, rfl⟩
    · simp only at h; omega
    · have r1 := goes_runs hg hG.sane hq
      have r2 := goes_runs hg2 hG1.sane hq2
      have e : now + a + b = now + (a + b) := by omega
      simp only at r2
      rw [e] at r2
      obtain ⟨g1, g2⟩ := runs_goes hG.sane (r1.on (by omega) r2)
      exact ⟨rfl, rfl, by show now + a + b = _; omega, Or.inr ⟨by omega, N, es ++ ds, g1, g2, rfl⟩⟩
theorem tickK_unique {nodes jobs wall last now n : Int} {L : List Job} {o o' : Out} (hG : Good nodes jobs wall last now L) (h1 : TickO last now L n o) (h2 : TickO last now L n o') : o = o' := by
  rcases h1 with ⟨h, rfl⟩ | ⟨h, M, es, hg, hq, rfl⟩ <;> rcases h2 with ⟨h', rfl⟩ | ⟨h', M', es', hg', hq', rfl⟩
  · rfl
  · omega
  · omega
  · obtain ⟨rfl, rfl⟩ := (goes_runs hg hG.sane hq).unique (goes_runs hg' hG.sane hq')
    rfl

end Go.Proofs.YtpcgnadfldimhaaGreatDoor
namespace Go.Proofs.YtpcgnadfldimhaaGreatDoor

theorem conf4 : ConfOk 4 5 100 1000 := by unfold ConfOk; omega
theorem doE_submit {nodes jobs wall last now x y : Int} {L : List Job} {o : Out} (hr : rendOk 1 x y = true) (h : DoE nodes jobs wall last now L 1 x y o) : o = submitO nodes jobs wall now L x y := by
  rcases h with (⟨h, _⟩ | ⟨_, ⟨_, h⟩ | ⟨h, _⟩ | ⟨h, _⟩ | ⟨h, _⟩ | ⟨h, _⟩ | ⟨h, _⟩⟩) | ⟨_, h, _⟩
  · rw [hr] at h; simp at h
  · exact h
  all_goals omega
theorem doE_tick {nodes jobs wall last now x y : Int} {L : List Job} {o : Out} (hr : rendOk 4 x y = true) (h : DoE nodes jobs wall last now L 4 x y o) : TickO last now L x o := by
  rcases h with (⟨h, _⟩ | ⟨_, ⟨h, _⟩ | ⟨_, h⟩ | ⟨h, _⟩ | ⟨h, _⟩ | ⟨h, _⟩ | ⟨h, _⟩⟩) | ⟨_, h, _⟩
  · rw [hr] at h; simp at h
  · omega
  · exact h
  all_goals omega
theorem doE_queue {nodes jobs wall last now : Int} {L : List Job} {o : Out} (h : DoE nodes jobs wall last now L 6 0 0 o) : o = ⟨0, 0, 0, 0, queueN L L.length, [], now, L⟩ := by
  rcases h with (⟨h, _⟩ | ⟨_, ⟨h, _⟩ | ⟨h, _⟩ | ⟨h, _⟩ | ⟨h, _⟩ | ⟨_, h⟩ | ⟨h, _⟩⟩) | ⟨_, h, _⟩
  · exact absurd h (by decide)
  all_goals first | exact h | omega
theorem doE_info {nodes jobs wall last now : Int} {L : List Job} {o : Out} (h : DoE nodes jobs wall last now L 7 0 0 o) : o = ⟨0, now, freeN L nodes L.length, liveN L L.length, [], [], now, L⟩ := by
  rcases h with (⟨h, _⟩ | ⟨_, ⟨h, _⟩ | ⟨h, _⟩ | ⟨h, _⟩ | ⟨h, _⟩ | ⟨h, _⟩ | ⟨_, h⟩⟩) | ⟨_, h, _⟩
  · exact absurd h (by decide)
  all_goals first | exact h | omega
theorem doE_stat {nodes jobs wall last now : Int} {L : List Job} {o : Out} {i : Nat} {j : Job} (hj : L[i]? = some j) (hi : i < 1000000) (h : DoE nodes jobs wall last now L 5 ((i : Int) + 1) 0 o) : o = ⟨0, j.phase, j.start, j.stop, [], [], now, L⟩ := by
  have hl := (List.getElem?_eq_some_iff.1 hj).1
  have hr : rendOk 5 ((i : Int) + 1) 0 = true := by simp [rendOk, fitsB, numsN]; omega
  rcases h with (⟨h, _⟩ | ⟨_, ⟨h, _⟩ | ⟨h, _⟩ | ⟨_, h, _⟩ | ⟨_, i2, j2, e, hj2, h⟩ | ⟨h, _⟩ | ⟨h, _⟩⟩) | ⟨_, h, _⟩
  · rw [hr] at h; simp at h
  · omega
  · omega
  · omega
  · obtain rfl : i = i2 := by omega
    obtain rfl := Option.some.inj (hj.symm.trans hj2)
    exact h
  all_goals omega
theorem doE_statNo {nodes jobs wall last now x : Int} {L : List Job} {o : Out} (hx : (L.length : Int) < x) (hx2 : x ≤ 1000000) (h : DoE nodes jobs wall last now L 5 x 0 o) : o = ⟨5, 0, 0, 0, [], [], now, L⟩ := by
  have hr : rendOk 5 x 0 = true := by simp [rendOk, fitsB, numsN]; omega
  rcases h with (⟨h, _⟩ | ⟨_, ⟨h, _⟩ | ⟨h, _⟩ | ⟨_, _, h⟩ | ⟨_, i2, j2, e, hj2, h⟩ | ⟨h, _⟩ | ⟨h, _⟩⟩) | ⟨_, h, _⟩
  · rw [hr] at h; simp at h
  · omega
  · omega
  · exact h
  · have := (List.getElem?_eq_some_iff.1 hj2).1
    omega
  all_goals omega

abbrev begunL1 : List Job := [⟨3, 10, 2, 0, 10⟩]
abbrev begunL2 : List Job := [⟨3, 10, 2, 0, 10⟩, ⟨2, 5, 1, 10, 15⟩]
abbrev begunL3 : List Job := [⟨3, 10, 4, 0, 10⟩, ⟨2, 5, 2, 10, 15⟩]
theorem begun_1 {o : Out} (h : DoE 4 5 100 1000 0 [] 1 3 10 o) : o = ⟨0, 1, 0, 0, [], [⟨1, 1, 0, 0⟩], 0, begunL1⟩ := by
  rw [doE_submit (by decide) h]
  rfl
theorem begun_2 {o : Out} (h : DoE 4 5 100 1000 0 begunL1 1 2 5 o) : o = ⟨0, 2, 10, 0, [], [], 0, begunL2⟩ := by
  rw [doE_submit (by decide) h]
  rfl
theorem begun_good2 : Good 4 5 100 1000 0 begunL1 ∧ Good 4 5 100 1000 0 begunL2 := by
  have g1 := (good_doE (good_new conf4) (k := 1) (x := 3) (y := 10) (o := ⟨0, 1, 0, 0, [], [⟨1, 1, 0, 0⟩], 0, begunL1⟩) (Or.inl (Or.inr ⟨by decide, Or.inl ⟨rfl, rfl⟩⟩))).1
  exact ⟨g1, (good_doE g1 (k := 1) (x := 2) (y := 5) (o := ⟨0, 2, 10, 0, [], [], 0, begunL2⟩) (Or.inl (Or.inr ⟨by decide, Or.inl ⟨rfl, rfl⟩⟩))).1⟩
theorem begun_3 {o : Out} (h : DoE 4 5 100 1000 0 begunL2 4 12 0 o) : o = ⟨0, 0, 0, 0, [], [⟨2, 1, 10, 0⟩, ⟨1, 2, 10, 0⟩], 12, begunL3⟩ := by
  refine tickK_unique begun_good2.2 (doE_tick (by decide) h) (Or.inr ⟨by omega, begunL3, [⟨2, 1, 10, 0⟩, ⟨1, 2, 10, 0⟩], ?_, by decide, rfl⟩)
  exact Goes.more (fin := 12) (L := begunL2) Goes.none (by decide)

end Go.Proofs.YtpcgnadfldimhaaGreatDoor
