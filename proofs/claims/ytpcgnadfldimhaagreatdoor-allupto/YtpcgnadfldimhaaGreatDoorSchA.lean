/-
 PLAIN MATHEMATICS, of no program: jobs, reservations, room, the least time at which there is room.
-/
namespace Go.Proofs.YtpcgnadfldimhaaGreatDoor

/-- A job, as the document's answer keeps it. -/
structure Job where
 width : Int
 wall : Int
 phase : Int
 start : Int
 stop : Int

def liveB (ph : Int) : Bool := decide (ph = 1 ∨ ph = 2)
def Job.live (j : Job) : Bool := liveB j.phase
/-- Does the job at place i (but for the one at 'but') take nodes at t? -/
def Job.onAt (t but : Int) (i : Nat) (j : Job) : Bool := j.live && decide ((i : Int) ≠ but) && decide (j.start ≤ t) && decide (t < j.stop)

/-- How many nodes are reserved at t: the first k jobs'. -/
def usedN (L : List Job) (t but : Int) : Nat → Int
 | 0 => 0
 | k + 1 => match L[k]? with
  | some j => if j.onAt t but k then usedN L t but k + j.width else usedN L t but k
  | none => usedN L t but k
def used (L : List Job) (t but : Int) : Int := usedN L t but L.length

theorem usedN_step (L : List Job) (t but : Int) (k : Nat) (j : Job) (h : L[k]? = some j) : usedN L t but (k + 1) = if j.onAt t but k then usedN L t but k + j.width else usedN L t but k := by
 simp [usedN, h]

/-- Widths lie between 1 and 64. -/
def Widths (L : List Job) : Prop := ∀ j ∈ L, 1 ≤ j.width ∧ j.width ≤ 64
theorem usedN_le (L : List Job) (t but : Int) (h : Widths L) : ∀ k, 0 ≤ usedN L t but k ∧ usedN L t but k ≤ 64 * k
 | 0 => by simp [usedN]
 | k + 1 => by
  have ih := usedN_le L t but h k
  unfold usedN
  cases e : L[k]? with
  | none => simp only; omega
  | some j =>
   have hw := h j (List.mem_of_getElem? e)
   simp only
   split <;> omega

/-- Is there room at t: by the first k jobs' starts. -/
def roomN (L : List Job) (nodes t width wall but : Int) : Nat → Bool
 | 0 => true
 | k + 1 => roomN L nodes t width wall but k && (match L[k]? with
  | some j => !(j.live && decide ((k : Int) ≠ but) && decide (t < j.start) && decide (j.start < t + wall)) || decide (used L j.start but + width ≤ nodes)
  | none => true)
def room (L : List Job) (nodes t width wall but : Int) : Bool := decide (used L t but + width ≤ nodes) && roomN L nodes t width wall but L.length

theorem roomN_step (L : List Job) (nodes t width wall but : Int) (k : Nat) (j : Job) (h : L[k]? = some j) : roomN L nodes t width wall but (k + 1) = (roomN L nodes t width wall but k && (!(j.live && decide ((k : Int) ≠ but) && decide (t < j.start) && decide (j.start < t + wall)) || decide (used L j.start but + width ≤ nodes))) := by
 simp [roomN, h]
theorem roomN_false (L : List Job) (nodes t width wall but : Int) (k : Nat) (h : roomN L nodes t width wall but k = false) : ∀ n, k ≤ n → roomN L nodes t width wall but n = false
 | 0, hk => by obtain rfl : k = 0 := by omega
               exact h
 | n + 1, hk => by
  rcases Nat.lt_or_ge n k with h1 | h1
  ·obtain rfl : k = n + 1 := by omega
   exact h
  ·simp [roomN, roomN_false L nodes t width wall but k h n h1]

/-- The least time, from now on, at which there is room, by the first k jobs' ends (-1: none so far). -/
def bestN (L : List Job) (nodes now width wall but : Int) : Nat → Int
 | 0 => -1
 | k + 1 => match L[k]? with
  | some j => if !j.live || decide ((k : Int) = but) || decide (j.stop ≤ now) || (decide (0 ≤ bestN L nodes now width wall but k) && decide (bestN L nodes now width wall but k ≤ j.stop)) then bestN L nodes now width wall but k
    else if room L nodes j.stop width wall but then j.stop else bestN L nodes now width wall but k
  | none => bestN L nodes now width wall but k
def earliest (L : List Job) (nodes now width wall but : Int) : Int := if room L nodes now width wall but then now else bestN L nodes now width wall but L.length

/-- How many of the first k jobs are live; how many nodes no running one of them has. -/
def liveN (L : List Job) : Nat → Nat
 | 0 => 0
 | k + 1 => match L[k]? with
  | some j => if j.live then liveN L k + 1 else liveN L k
  | none => liveN L k
def freeN (L : List Job) (nodes : Int) : Nat → Int
 | 0 => nodes
 | k + 1 => match L[k]? with
  | some j => if j.phase = 2 then freeN L nodes k - j.width else freeN L nodes k
  | none => freeN L nodes k
theorem liveN_step (L : List Job) (k : Nat) (j : Job) (h : L[k]? = some j) : liveN L (k + 1) = if j.live then liveN L k + 1 else liveN L k := by
 simp [liveN, h]
theorem freeN_step (L : List Job) (nodes : Int) (k : Nat) (j : Job) (h : L[k]? = some j) : freeN L nodes (k + 1) = if j.phase = 2 then freeN L nodes k - j.width else freeN L nodes k := by
 simp [freeN, h]
theorem liveN_le (L : List Job) : ∀ k, liveN L k ≤ k
 | 0 => by simp [liveN]
 | k + 1 => by
  have ih := liveN_le L k
  unfold liveN
  cases e : L[k]? with
  | none => simp only; omega
  | some j => simp only; split <;> omega
theorem freeN_le (L : List Job) (nodes : Int) (h : Widths L) : ∀ k, nodes - 64 * k ≤ freeN L nodes k ∧ freeN L nodes k ≤ nodes
 | 0 => by simp [freeN]
 | k + 1 => by
  have ih := freeN_le L nodes h k
  unfold freeN
  cases e : L[k]? with
  | none => simp only; omega
  | some j =>
   have hw := h j (List.mem_of_getElem? e)
   simp only
   split <;> omega

/-- When something is due of a job (-1: nothing is). -/
def Job.due (j : Job) : Int := if j.phase = 1 then j.start else if j.phase = 2 then j.stop else -1
/-- The next moment, up to an end, at which something is due, of the first k jobs (-1: none). -/
def nextN (L : List Job) (last : Int) : Nat → Int
 | 0 => -1
 | k + 1 => match L[k]? with
  | some j => if 0 ≤ j.due ∧ j.due ≤ last ∧ (nextN L last k < 0 ∨ j.due < nextN L last k) then j.due else nextN L last k
  | none => nextN L last k
theorem nextN_step (L : List Job) (last : Int) (k : Nat) (j : Job) (h : L[k]? = some j) : nextN L last (k + 1) = if 0 ≤ j.due ∧ j.due ≤ last ∧ (nextN L last k < 0 ∨ j.due < nextN L last k) then j.due else nextN L last k := by
 simp [nextN, h]

/-- An event. -/
structure Ev where
 kind : Int
 id : Int
 time : Int
 dest : Int

/-- A job that starts, if it is queued and promised for now. -/
def Job.go (now : Int) (j : Job) : Job := if j.phase = 1 ∧ j.start = now then { j with phase := 2 } else j
/-- The first k jobs have started, if they do. -/
def startL (L : List Job) (now : Int) (k : Nat) : List Job := L.mapIdx fun i j => if i < k then j.go now else j
def startE (L : List Job) (now : Int) : Nat → List Ev
 | 0 => []
 | k + 1 => match L[k]? with
  | some j => if j.phase = 1 ∧ j.start = now then startE L now k ++ [⟨1, (k : Int) + 1, now, 0⟩] else startE L now k
  | none => startE L now k
theorem startE_step (L : List Job) (now : Int) (k : Nat) (j : Job) (h : L[k]? = some j) : startE L now (k + 1) = if j.phase = 1 ∧ j.start = now then startE L now k ++ [⟨1, (k : Int) + 1, now, 0⟩] else startE L now k := by
 simp [startE, h]
theorem startE_len (L : List Job) (now : Int) : ∀ k, (startE L now k).length ≤ k
 | 0 => by simp [startE]
 | k + 1 => by
  have ih := startE_len L now k
  unfold startE
  cases L[k]? with
  | none => simp only; omega
  | some j => simp only; split <;> simp <;> omega
theorem startL_zero (L : List Job) (now : Int) : startL L now 0 = L := by
 apply List.ext_getElem?
 intro i
 simp [startL]
theorem startL_len (L : List Job) (now : Int) (k : Nat) : (startL L now k).length = L.length := by simp [startL]
theorem startL_at (L : List Job) (now : Int) (k : Nat) : (startL L now k)[k]? = L[k]? := by simp [startL]
theorem startL_step (L : List Job) (now : Int) (k : Nat) (j : Job) (h : L[k]? = some j) : startL L now (k + 1) = (startL L now k).set k (j.go now) := by
 have hk := (List.getElem?_eq_some_iff.1 h).1
 apply List.ext_getElem?
 intro i
 rw [List.getElem?_set]
 by_cases e : k = i
 ·subst e
  have e2 := (List.getElem?_eq_some_iff.1 h).2
  simp [startL, hk, e2]
 ·rw [if_neg e]
  simp only [startL, List.getElem?_mapIdx]
  cases L[i]? with
  | none => rfl
  | some x =>
   simp only [Option.map_some]
   by_cases h1 : i < k
   ·rw [if_pos h1, if_pos (by omega)]
   ·rw [if_neg h1, if_neg (by omega)]
theorem startL_all (L : List Job) (now : Int) : startL L now L.length = L.map (Job.go now) := by
 apply List.ext_getElem?
 intro i
 simp only [startL, List.getElem?_mapIdx, List.getElem?_map]
 cases e : L[i]? with
 | none => rfl
 | some x =>
  have := (List.getElem?_eq_some_iff.1 e).1
  simp [this]

/-- A row of what Queue tells. -/
structure RowV where
 id : Int
 promise : Int
 width : Int
 wall : Int

/-- What a command answers, and the time and the jobs behind it. -/
structure Out where
 err : Int
 a : Int
 b : Int
 c : Int
 rows : List RowV
 evs : List Ev
 now : Int
 L : List Job

/-- P7. -/
def submitO (nodes jobs wall now : Int) (L : List Job) (width wl : Int) : Out :=
 if width < 1 ∨ nodes < width then ⟨2, 0, 0, 0, [], [], now, L⟩
 else if wl < 1 ∨ wall < wl then ⟨3, 0, 0, 0, [], [], now, L⟩
 else if jobs ≤ (liveN L L.length : Int) then ⟨4, 0, 0, 0, [], [], now, L⟩
 else
  let t := earliest L nodes now width wl (-1)
  let M := L ++ [⟨width, wl, 1, t, t + wl⟩]
  ⟨0, (M.length : Int), t, 0, [], startE M now M.length, now, M.map (Job.go now)⟩

end Go.Proofs.YtpcgnadfldimhaaGreatDoor
namespace Go.Proofs.YtpcgnadfldimhaaGreatDoor

/-- A running job whose wall is over at t. -/
def Job.halt (t : Int) (j : Job) : Job := if j.phase = 2 ∧ j.stop = t then { j with phase := 4 } else j
def haltL (L : List Job) (t : Int) (k : Nat) : List Job := L.mapIdx fun i j => if i < k then j.halt t else j
def haltE (L : List Job) (t : Int) : Nat → List Ev
 | 0 => []
 | k + 1 => match L[k]? with
  | some j => if j.phase = 2 ∧ j.stop = t then haltE L t k ++ [⟨2, (k : Int) + 1, t, 0⟩] else haltE L t k
  | none => haltE L t k
theorem haltE_step (L : List Job) (t : Int) (k : Nat) (j : Job) (h : L[k]? = some j) : haltE L t (k + 1) = if j.phase = 2 ∧ j.stop = t then haltE L t k ++ [⟨2, (k : Int) + 1, t, 0⟩] else haltE L t k := by
 simp [haltE, h]
theorem haltE_len (L : List Job) (t : Int) : ∀ k, (haltE L t k).length ≤ k
 | 0 => by simp [haltE]
 | k + 1 => by
  have ih := haltE_len L t k
  unfold haltE
  cases L[k]? with
  | none => simp only; omega
  | some j => simp only; split <;> simp <;> omega
theorem haltL_zero (L : List Job) (t : Int) : haltL L t 0 = L := by
 apply List.ext_getElem?
 intro i
 simp [haltL]
theorem haltL_len (L : List Job) (t : Int) (k : Nat) : (haltL L t k).length = L.length := by simp [haltL]
theorem haltL_at (L : List Job) (t : Int) (k : Nat) : (haltL L t k)[k]? = L[k]? := by simp [haltL]
theorem haltL_step (L : List Job) (t : Int) (k : Nat) (j : Job) (h : L[k]? = some j) : haltL L t (k + 1) = (haltL L t k).set k (j.halt t) := by
 have hk := (List.getElem?_eq_some_iff.1 h).1
 apply List.ext_getElem?
 intro i
 rw [List.getElem?_set]
 by_cases e : k = i
 ·subst e
  have e2 := (List.getElem?_eq_some_iff.1 h).2
  simp [haltL, hk, e2]
 ·rw [if_neg e]
  simp only [haltL, List.getElem?_mapIdx]
  cases L[i]? with
  | none => rfl
  | some x =>
   simp only [Option.map_some]
   by_cases h1 : i < k
   ·rw [if_pos h1, if_pos (by omega)]
   ·rw [if_neg h1, if_neg (by omega)]
theorem haltL_all (L : List Job) (t : Int) : haltL L t L.length = L.map (Job.halt t) := by
 apply List.ext_getElem?
 intro i
 simp only [haltL, List.getElem?_mapIdx, List.getElem?_map]
 cases e : L[i]? with
 | none => rfl
 | some x =>
  have := (List.getElem?_eq_some_iff.1 e).1
  simp [this]

/-- One moment: what is over ends, then what is promised starts. -/
def momL (L : List Job) (t : Int) : List Job := (L.map (Job.halt t)).map (Job.go t)
def momE (L : List Job) (t : Int) : List Ev := haltE L t L.length ++ startE (L.map (Job.halt t)) t L.length

/-- How much is still to come of a job: its start and its end. -/
def Job.todo (j : Job) : Nat := if j.phase = 1 then 2 else if j.phase = 2 then 1 else 0
def todo (L : List Job) : Nat := (L.map Job.todo).sum
theorem todo_le : ∀ L : List Job, todo L ≤ 2 * L.length
 | [] => by simp [todo]
 | j :: r => by
  have ih := todo_le r
  have hj : j.todo ≤ 2 := by unfold Job.todo; split <;> (try split) <;> omega
  simp only [todo, List.map_cons, List.sum_cons, List.length_cons] at ih ⊢
  omega
theorem todo_set : ∀ (L : List Job) (k : Nat) (j j' : Job), L[k]? = some j → todo (L.set k j') + j.todo = todo L + j'.todo
 | [], k, j, j', h => by simp at h
 | x :: r, 0, j, j', h => by
  simp at h
  subst h
  simp [todo]
  omega
 | x :: r, k + 1, j, j', h => by
  have ih := todo_set r k j j' (by simpa using h)
  simp [todo] at ih ⊢
  omega

theorem todo_halt (L : List Job) (t : Int) : ∀ k, k ≤ L.length → todo (haltL L t k) + (haltE L t k).length = todo L
 | 0, _ => by rw [haltL_zero]; simp [haltE]
 | k + 1, hk => by
  have ih := todo_halt L t k (by omega)
  obtain ⟨j, hj⟩ : ∃ j, L[k]? = some j := ⟨_, List.getElem?_eq_getElem (by omega)⟩
  rw [haltL_step L t k j hj, haltE_step L t k j hj]
  have hs := todo_set (haltL L t k) k j (j.halt t) ((haltL_at L t k).trans hj)
  by_cases hg : j.phase = 2 ∧ j.stop = t
  ·rw [if_pos hg]
   have e1 : (j.halt t).todo = 0 := by simp [Job.halt, hg, Job.todo]
   have e2 : j.todo = 1 := by simp [Job.todo, hg.1]
   simp
   omega
  ·rw [if_neg hg]
   have e1 : j.halt t = j := by simp [Job.halt, hg]
   rw [e1] at hs ⊢
   omega
theorem todo_start (L : List Job) (t : Int) : ∀ k, k ≤ L.length → todo (startL L t k) + (startE L t k).length = todo L
 | 0, _ => by rw [startL_zero]; simp [startE]
 | k + 1, hk => by
  have ih := todo_start L t k (by omega)
  obtain ⟨j, hj⟩ : ∃ j, L[k]? = some j := ⟨_, List.getElem?_eq_getElem (by omega)⟩
  rw [startL_step L t k j hj, startE_step L t k j hj]
  have hs := todo_set (startL L t k) k j (j.go t) ((startL_at L t k).trans hj)
  by_cases hg : j.phase = 1 ∧ j.start = t
  ·rw [if_pos hg]
   have e1 : (j.go t).todo = 1 := by simp [Job.go, hg, Job.todo]
   have e2 : j.todo = 2 := by simp [Job.todo, hg.1]
   simp
   omega
  ·rw [if_neg hg]
   have e1 : j.go t = j := by simp [Job.go, hg]
   rw [e1] at hs ⊢
   omega
theorem todo_mom (L : List Job) (t : Int) : todo (momL L t) + (momE L t).length = todo L := by
 have h1 := todo_halt L t L.length (Nat.le_refl _)
 have h2 := todo_start (L.map (Job.halt t)) t (L.map (Job.halt t)).length (Nat.le_refl _)
 rw [haltL_all] at h1
 rw [startL_all] at h2
 rw [List.length_map] at h2
 simp only [momL, momE, List.length_append]
 omega
theorem momL_len (L : List Job) (t : Int) : (momL L t).length = L.length := by simp [momL]

/-- The next moment is one at which something is due. -/
theorem next_due (L : List Job) (fin : Int) : ∀ k, 0 ≤ nextN L fin k → ∃ j ∈ L, j.due = nextN L fin k
 | 0, h => by simp [nextN] at h
 | k + 1, h => by
  unfold nextN at h ⊢
  cases e : L[k]? with
  | none =>
   rw [e] at h
   exact next_due L fin k h
  | some j =>
   rw [e] at h
   simp only at h ⊢
   split
   ·exact ⟨j, List.mem_of_getElem? e, rfl⟩
   ·rename_i hn
    rw [if_neg hn] at h
    exact next_due L fin k h
/-- At a moment at which something is due something happens. -/
theorem mom_some (L : List Job) (t : Int) (h : ∃ j ∈ L, 0 ≤ j.due ∧ j.due = t) : 1 ≤ (momE L t).length := by
 rcases Nat.eq_zero_or_pos (momE L t).length with h0 | h0
 ·exfalso
  have hm := todo_mom L t
  obtain ⟨j, hj, hd, rfl⟩ := h
  have hh := todo_halt L j.due L.length (Nat.le_refl _)
  have hs := todo_start (L.map (Job.halt j.due)) j.due (L.map (Job.halt j.due)).length (Nat.le_refl _)
  have hz : (haltE L j.due L.length).length = 0 ∧ (startE (L.map (Job.halt j.due)) j.due L.length).length = 0 := by
   simp only [momE, List.length_append] at h0
   omega
  obtain ⟨k, hk⟩ := List.mem_iff_getElem?.1 hj
  have hkl := (List.getElem?_eq_some_iff.1 hk).1
  have mono : ∀ n, k + 1 ≤ n → (haltE L j.due (k + 1)).length ≤ (haltE L j.due n).length := fun n hn => by
   induction n with
   | zero => omega
   | succ n ih =>
    rcases Nat.lt_or_ge k n with h1 | h1
    ·refine Nat.le_trans (ih (by omega)) ?_
     conv => rhs; unfold haltE
     cases L[n]? with
     | none => exact Nat.le_refl _
     | some x => simp only; split <;> simp
    ·obtain rfl : n = k := by omega
     exact Nat.le_refl _
  have mono2 : ∀ (M : List Job) n, k + 1 ≤ n → (startE M j.due (k + 1)).length ≤ (startE M j.due n).length := fun M n hn => by
   induction n with
   | zero => omega
   | succ n ih =>
    rcases Nat.lt_or_ge k n with h1 | h1
    ·refine Nat.le_trans (ih (by omega)) ?_
     conv => rhs; unfold startE
     cases M[n]? with
     | none => exact Nat.le_refl _
     | some x => simp only; split <;> simp
    ·obtain rfl : n = k := by omega
     exact Nat.le_refl _
  by_cases p1 : j.phase = 1
  ·have e1 : j.due = j.start := by simp [Job.due, p1]
   have e2 : (L.map (Job.halt j.due))[k]? = some j := by
    rw [List.getElem?_map, hk]
    simp [Job.halt, p1]
   have := mono2 (L.map (Job.halt j.due)) L.length (by omega)
   rw [startE_step _ _ k j e2, if_pos ⟨p1, e1.symm⟩] at this
   simp at this
   omega
  ·by_cases p2 : j.phase = 2
   ·have e1 : j.due = j.stop := by simp [Job.due, p2]
    have := mono L.length (by omega)
    rw [haltE_step _ _ k j hk, if_pos ⟨p2, e1.symm⟩] at this
    simp at this
    omega
   ·simp [Job.due, p1, p2] at hd
 ·exact h0

/-- Moments gone by, up to an end: from the jobs and the events to the jobs and the events. -/
inductive Goes (fin : Int) (L : List Job) : List Job → List Ev → Prop
 | none : Goes fin L L []
 | more {M : List Job} {es : List Ev} (h : Goes fin L M es) (hn : 0 ≤ nextN M fin M.length) : Goes fin L (momL M (nextN M fin M.length)) (es ++ momE M (nextN M fin M.length))

theorem goes_todo {fin : Int} {L M : List Job} {es : List Ev} (h : Goes fin L M es) : todo M + es.length = todo L ∧ M.length = L.length := by
 induction h with
 | none => simp
 | @more M es h hn ih =>
  have hm := todo_mom M (nextN M fin M.length)
  refine ⟨?_, (momL_len _ _).trans ih.2⟩
  simp only [List.length_append]
  omega

/-- What Tick answers. -/
def TickO (last now : Int) (L : List Job) (n : Int) (o : Out) : Prop :=
 (last < now + n ∧ o = ⟨7, 0, 0, 0, [], [], now, L⟩) ∨ (now + n ≤ last ∧ ∃ M es, Goes (now + n) L M es ∧ nextN M (now + n) M.length < 0 ∧ o = ⟨0, 0, 0, 0, [], es, now + n, M⟩)

/-- P5: what a cluster can be made of. -/
def ConfOk (nodes jobs wall last : Int) : Prop := 1 ≤ nodes ∧ nodes ≤ 64 ∧ 1 ≤ jobs ∧ jobs ≤ 30 ∧ 1 ≤ wall ∧ wall ≤ 1000000000 ∧ 0 ≤ last ∧ last ≤ 4611686018427387904 - jobs * wall

end Go.Proofs.YtpcgnadfldimhaaGreatDoor
namespace Go.Proofs.YtpcgnadfldimhaaGreatDoor

def Job.active (j : Job) : Prop := j.phase = 1 ∨ j.phase = 2
def Job.rank (j : Job) : Nat := if j.phase = 2 then 0 else 1
/-- Is due first: by the time, ends ahead of starts, by the place. -/
def Before (i : Nat) (a : Job) (k : Nat) (b : Job) : Prop := a.due < b.due ∨ (a.due = b.due ∧ (a.rank < b.rank ∨ (a.rank = b.rank ∧ i < k)))
def Job.fire (j : Job) : Job := if j.phase = 1 then { j with phase := 2 } else { j with phase := 4 }
def Job.event (i : Nat) (j : Job) : Ev := ⟨if j.phase = 1 then 1 else 2, (i : Int) + 1, j.due, 0⟩
def Least (L : List Job) (i : Nat) (j : Job) : Prop := L[i]? = some j ∧ j.active ∧ ∀ (k : Nat) (b : Job), L[k]? = some b → b.active → k = i ∨ Before i j k b
/-- Nothing is due up to fin. -/
def Quiet (fin : Int) (L : List Job) : Prop := ∀ j ∈ L, j.active → fin < j.due

inductive Steps (fin : Int) (L : List Job) : List Job → List Ev → Prop
 | none : Steps fin L L []
 | more {M : List Job} {es : List Ev} {i : Nat} {j : Job} (h : Steps fin L M es) (hl : Least M i j) (hf : j.due ≤ fin) : Steps fin L (M.set i j.fire) (es ++ [j.event i])

theorem Least.unique {L : List Job} {i k : Nat} {a b : Job} (h1 : Least L i a) (h2 : Least L k b) : i = k ∧ a = b := by
 have e : k = i := by
  rcases h1.2.2 k b h2.1 h2.2.1 with e | e
  ·exact e
  ·rcases h2.2.2 i a h1.1 h1.2.1 with e2 | e2
   ·exact e2.symm
   ·unfold Before at e e2
    omega
 subst e
 exact ⟨rfl, Option.some.inj (h1.1.symm.trans h2.1)⟩

/-- A run, from its head on. -/
inductive Runs (fin : Int) : List Job → List Ev → List Job → Prop
 | done {L : List Job} (h : Quiet fin L) : Runs fin L [] L
 | step {L M : List Job} {es : List Ev} {i : Nat} {j : Job} (hl : Least L i j) (hf : j.due ≤ fin) (h : Runs fin (L.set i j.fire) es M) : Runs fin L (j.event i :: es) M

theorem Runs.unique {fin : Int} {L M : List Job} {es : List Ev} (h : Runs fin L es M) : ∀ {es' : List Ev} {M' : List Job}, Runs fin L es' M' → es = es' ∧ M = M' := by
 induction h with
 | done hq =>
  intro es' M' h'
  cases h' with
  | done _ => exact ⟨rfl, rfl⟩
  | step hl hf _ =>
   have := hq _ (List.mem_of_getElem? hl.1) hl.2.1
   omega
 | step hl hf _ ih =>
  intro es' M' h'
  cases h' with
  | done hq =>
   have := hq _ (List.mem_of_getElem? hl.1) hl.2.1
   omega
  | step hl' hf' h2 =>
   obtain ⟨rfl, rfl⟩ := hl.unique hl'
   obtain ⟨rfl, rfl⟩ := ih h2
   exact ⟨rfl, rfl⟩

theorem Steps.runs {fin : Int} {L M N : List Job} {es ds : List Ev} (h : Steps fin L M es) : Runs fin M ds N → Runs fin L (es ++ ds) N := by
 induction h generalizing ds with
 | none => intro h; simpa using h
 | more h hl hf ih =>
  intro h2
  have := ih (Runs.step hl hf h2)
  simpa using this

/-- What is due is from 0 on, and jobs take some time. -/
def Sane (L : List Job) : Prop := ∀ j ∈ L, j.active → 0 ≤ j.start ∧ j.start < j.stop

/-- The next moment is the least. -/
theorem next_least (L : List Job) (fin : Int) : ∀ k, (0 ≤ nextN L fin k → nextN L fin k ≤ fin) ∧ ∀ i j, i < k → L[i]? = some j → 0 ≤ j.due → j.due ≤ fin → 0 ≤ nextN L fin k ∧ nextN L fin k ≤ j.due
 | 0 => ⟨fun h => by simp [nextN] at h, fun i j hi => by omega⟩
 | k + 1 => by
  obtain ⟨ih1, ih2⟩ := next_least L fin k
  cases e : L[k]? with
  | none =>
   have e2 : nextN L fin (k + 1) = nextN L fin k := by simp [nextN, e]
   rw [e2]
   refine ⟨ih1, fun i j hi hj h0 hf => ?_⟩
   rcases Nat.lt_or_ge i k with h | h
   ·exact ih2 i j h hj h0 hf
   ·obtain rfl : i = k := by omega
    rw [e] at hj
    cases hj
  | some b =>
   rw [nextN_step L fin k b e]
   split
   ·rename_i hc
    refine ⟨fun _ => hc.2.1, fun i j hi hj h0 hf => ⟨hc.1, ?_⟩⟩
    rcases Nat.lt_or_ge i k with h | h
    ·have := ih2 i j h hj h0 hf
     omega
    ·obtain rfl : i = k := by omega
     obtain rfl := Option.some.inj (e.symm.trans hj)
     omega
   ·rename_i hc
    refine ⟨ih1, fun i j hi hj h0 hf => ?_⟩
    rcases Nat.lt_or_ge i k with h | h
    ·exact ih2 i j h hj h0 hf
    ·obtain rfl : i = k := by omega
     obtain rfl := Option.some.inj (e.symm.trans hj)
     omega

theorem active_due {j : Job} (hs : 0 ≤ j.start ∧ j.start < j.stop) (h : j.active) : 0 ≤ j.due := by
 unfold Job.due
 rcases h with h | h
 ·rw [if_pos h]; exact hs.1
 ·rw [if_neg (by omega), if_pos h]; omega

theorem halt_steps {fin : Int} {L M : List Job} {es : List Ev} {t : Int} (h : Steps fin L M es) (hmin : ∀ j ∈ M, j.active → t ≤ j.due) (ht : t ≤ fin) : ∀ k, k ≤ M.length → Steps fin L (haltL M t k) (es ++ haltE M t k)
 | 0, _ => by rw [haltL_zero]; simpa [haltE] using h
 | k + 1, hk => by
  have ih := halt_steps h hmin ht k (by omega)
  obtain ⟨j, hj⟩ : ∃ j, M[k]? = some j := ⟨_, List.getElem?_eq_getElem (by omega)⟩
  rw [haltL_step M t k j hj, haltE_step M t k j hj]
  by_cases hg : j.phase = 2 ∧ j.stop = t
  ·rw [if_pos hg]
   have hdue : j.due = t := by simp [Job.due, hg.1, hg.2]
   have hrank : j.rank = 0 := by simp [Job.rank, hg.1]
   have hle : Least (haltL M t k) k j := by
    refine ⟨(haltL_at M t k).trans hj, Or.inr hg.1, fun i b hb ha => ?_⟩
    simp only [haltL, List.getElem?_mapIdx] at hb
    cases e : M[i]? with
    | none => rw [e] at hb; cases hb
    | some a =>
     rw [e] at hb
     simp only [Option.map_some, Option.some.injEq] at hb
     have hm := hmin a (List.mem_of_getElem? e)
     by_cases h1 : i < k
     ·rw [if_pos h1] at hb
      by_cases h2 : a.phase = 2 ∧ a.stop = t
      ·have : b.phase = 4 := by rw [← hb]; simp [Job.halt, h2]
       unfold Job.active at ha
       omega
      ·have e2 : a.halt t = a := by simp [Job.halt, h2]
       rw [e2] at hb
       subst hb
       right
       have hd := hm ha
       unfold Before
       by_cases h3 : t < a.due
       ·left; omega
       ·right
        refine ⟨by omega, Or.inl ?_⟩
        have : a.phase ≠ 2 := fun h4 => h2 ⟨h4, by
         have : a.due = a.stop := by simp [Job.due, h4]
         omega⟩
        rw [hrank]
        simp [Job.rank, this]
     ·rw [if_neg h1] at hb
      subst hb
      rcases Nat.eq_or_lt_of_le (Nat.le_of_not_lt h1) with h2 | h2
      ·exact Or.inl h2.symm
      ·right
       have hd := hm ha
       unfold Before
       by_cases h3 : t < a.due
       ·left; omega
       ·right
        refine ⟨by omega, ?_⟩
        rw [hrank]
        omega
   have := Steps.more ih hle (by omega)
   have e1 : j.fire = j.halt t := by simp [Job.fire, Job.halt, hg]
   have e2 : j.event k = ⟨2, (k : Int) + 1, t, 0⟩ := by simp [Job.event, hg.1, hdue]
   rw [e1, e2, List.append_assoc] at this
   exact this
  ·rw [if_neg hg]
   have e1 : j.halt t = j := by simp [Job.halt, hg]
   have e2 : (haltL M t k).set k j = haltL M t k := by
    have := (List.getElem?_eq_some_iff.1 ((haltL_at M t k).trans hj)).2
    rw [← this]
    exact List.set_getElem_self _
   rw [e1, e2]
   exact ih

theorem start_steps {fin : Int} {L M : List Job} {es : List Ev} {t : Int} (h : Steps fin L M es) (hmin : ∀ j ∈ M, j.active → t ≤ j.due) (hno : ∀ j ∈ M, j.phase = 2 → t < j.stop) (hS : Sane M) (ht : t ≤ fin) : ∀ k, k ≤ M.length → Steps fin L (startL M t k) (es ++ startE M t k)
 | 0, _ => by rw [startL_zero]; simpa [startE] using h
 | k + 1, hk => by
  have ih := start_steps h hmin hno hS ht k (by omega)
  obtain ⟨j, hj⟩ : ∃ j, M[k]? = some j := ⟨_, List.getElem?_eq_getElem (by omega)⟩
  rw [startL_step M t k j hj, startE_step M t k j hj]
  by_cases hg : j.phase = 1 ∧ j.start = t
  ·rw [if_pos hg]
   have hdue : j.due = t := by simp [Job.due, hg.1, hg.2]
   have hrank : j.rank = 1 := by simp [Job.rank, hg.1]
   have hle : Least (startL M t k) k j := by
    refine ⟨(startL_at M t k).trans hj, Or.inl hg.1, fun i b hb ha => ?_⟩
    simp only [startL, List.getElem?_mapIdx] at hb
    cases e : M[i]? with
    | none => rw [e] at hb; cases hb
    | some a =>
     rw [e] at hb
     simp only [Option.map_some, Option.some.injEq] at hb
     have hm := hmin a (List.mem_of_getElem? e)
     have hn := hno a (List.mem_of_getElem? e)
     by_cases h1 : i < k
     ·rw [if_pos h1] at hb
      right
      left
      by_cases h2 : a.phase = 1 ∧ a.start = t
      ·have e3 : b.due = a.stop := by rw [← hb]; simp [Job.go, h2, Job.due]
       have hs := hS a (List.mem_of_getElem? e) (Or.inl h2.1)
       omega
      ·have e2 : a.go t = a := by simp [Job.go, h2]
       rw [e2] at hb
       subst hb
       have hd := hm ha
       rcases ha with ha | ha
       ·have : a.due = a.start := by simp [Job.due, ha]
        have : a.start ≠ t := fun e3 => h2 ⟨ha, e3⟩
        omega
       ·have : a.due = a.stop := by simp [Job.due, ha]
        have := hn ha
        omega
     ·rw [if_neg h1] at hb
      subst hb
      rcases Nat.eq_or_lt_of_le (Nat.le_of_not_lt h1) with h2 | h2
      ·exact Or.inl h2.symm
      ·right
       have hd := hm ha
       unfold Before
       by_cases h3 : t < a.due
       ·left; omega
       ·right
        refine ⟨by omega, Or.inr ⟨?_, h2⟩⟩
        rcases ha with ha | ha
        ·rw [hrank]; simp [Job.rank, ha]
        ·have : a.due = a.stop := by simp [Job.due, ha]
         have := hn ha
         omega
   have := Steps.more ih hle (by omega)
   have e1 : j.fire = j.go t := by simp [Job.fire, Job.go, hg]
   have e2 : j.event k = ⟨1, (k : Int) + 1, t, 0⟩ := by simp [Job.event, hg.1, hdue]
   rw [e1, e2, List.append_assoc] at this
   exact this
  ·rw [if_neg hg]
   have e1 : j.go t = j := by simp [Job.go, hg]
   have e2 : (startL M t k).set k j = startL M t k := by
    have := (List.getElem?_eq_some_iff.1 ((startL_at M t k).trans hj)).2
    rw [← this]
    exact List.set_getElem_self _
   rw [e1, e2]
   exact ih

theorem halt_times (t : Int) (j : Job) : (j.halt t).start = j.start ∧ (j.halt t).stop = j.stop := by unfold Job.halt; split <;> exact ⟨rfl, rfl⟩
theorem go_times (t : Int) (j : Job) : (j.go t).start = j.start ∧ (j.go t).stop = j.stop := by unfold Job.go; split <;> exact ⟨rfl, rfl⟩

theorem halt_active {t : Int} {j : Job} (h : (j.halt t).active) : j.active := by
 unfold Job.halt at h
 split at h
 ·rename_i e; exact Or.inr e.1
 ·exact h
theorem go_active {t : Int} {j : Job} (h : (j.go t).active) : j.active := by
 unfold Job.go at h
 split at h
 ·rename_i e; exact Or.inl e.1
 ·exact h

theorem goes_steps {fin : Int} {L M : List Job} {es : List Ev} (h : Goes fin L M es) (hS : Sane L) : Steps fin L M es ∧ Sane M := by
 induction h with
 | none => exact ⟨.none, hS⟩
 | @more M es h hn ih =>
  obtain ⟨h1, h2⟩ := ih
  have hnl := next_least M fin M.length
  generalize hte : nextN M fin M.length = t at *
  have htf := hnl.1 hn
  have hmin : ∀ j ∈ M, j.active → t ≤ j.due := fun j hj ha => by
   obtain ⟨i, hi⟩ := List.mem_iff_getElem?.1 hj
   have h0 := active_due (h2 j hj ha) ha
   by_cases hf : j.due ≤ fin
   ·exact (hnl.2 i j (List.getElem?_eq_some_iff.1 hi).1 hi h0 hf).2
   ·omega
  have s1 := halt_steps h1 hmin htf M.length (Nat.le_refl _)
  rw [haltL_all] at s1
  have hS2 : Sane (M.map (Job.halt t)) := fun j hj hac => by
   obtain ⟨a, ha, rfl⟩ := List.mem_map.1 hj
   rw [(halt_times t a).1, (halt_times t a).2]
   exact h2 a ha (halt_active hac)
  have hmin2 : ∀ j ∈ M.map (Job.halt t), j.active → t ≤ j.due := fun j hj ha => by
   obtain ⟨a, hm, rfl⟩ := List.mem_map.1 hj
   by_cases hg : a.phase = 2 ∧ a.stop = t
   ·have : (a.halt t).phase = 4 := by simp [Job.halt, hg]
    unfold Job.active at ha
    omega
   ·have e : a.halt t = a := by simp [Job.halt, hg]
    rw [e] at ha ⊢
    exact hmin a hm ha
  have hno : ∀ j ∈ M.map (Job.halt t), j.phase = 2 → t < j.stop := fun j hj hp => by
   obtain ⟨a, hm, rfl⟩ := List.mem_map.1 hj
   by_cases hg : a.phase = 2 ∧ a.stop = t
   ·have : (a.halt t).phase = 4 := by simp [Job.halt, hg]
    omega
   ·have e : a.halt t = a := by simp [Job.halt, hg]
    rw [e] at hp ⊢
    have := hmin a hm (Or.inr hp)
    have hd : a.due = a.stop := by simp [Job.due, hp]
    have : a.stop ≠ t := fun e2 => hg ⟨hp, e2⟩
    omega
  have s2 := start_steps s1 hmin2 hno hS2 htf (M.map (Job.halt t)).length (Nat.le_refl _)
  rw [startL_all, List.length_map, List.append_assoc] at s2
  refine ⟨s2, fun j hj hac => ?_⟩
  obtain ⟨a, ha, rfl⟩ := List.mem_map.1 hj
  rw [(go_times t a).1, (go_times t a).2]
  exact hS2 a ha (go_active hac)

/-- What goes by up to an end, as the document's answer does it, is the run. -/
theorem goes_runs {fin : Int} {L M : List Job} {es : List Ev} (h : Goes fin L M es) (hS : Sane L) (hn : nextN M fin M.length < 0) : Runs fin L es M := by
 obtain ⟨h1, h2⟩ := goes_steps h hS
 have hq : Quiet fin M := fun j hj ha => by
  obtain ⟨i, hi⟩ := List.mem_iff_getElem?.1 hj
  have h0 := active_due (h2 j hj ha) ha
  by_cases hf : j.due ≤ fin
  ·have := ((next_least M fin M.length).2 i j (List.getElem?_eq_some_iff.1 hi).1 hi h0 hf).1
   omega
  ·omega
 simpa using h1.runs (.done hq)

end Go.Proofs.YtpcgnadfldimhaaGreatDoor
namespace Go.Proofs.YtpcgnadfldimhaaGreatDoor

/-- There is room at t: at every moment from t on until wall later. -/
def RoomAt (L : List Job) (nodes t width wall but : Int) : Prop := ∀ s, t ≤ s → s < t + wall → used L s but + width ≤ nodes

theorem usedN_mono (L : List Job) (s t but : Int) (hw : ∀ j ∈ L, 0 ≤ j.width) (h : ∀ (i : Nat) j, L[i]? = some j → j.onAt s but i = true → j.onAt t but i = true) : ∀ k, usedN L s but k ≤ usedN L t but k
 | 0 => by simp [usedN]
 | k + 1 => by
  have ih := usedN_mono L s t but hw h k
  unfold usedN
  cases e : L[k]? with
  | none => exact ih
  | some j =>
   have hj := hw j (List.mem_of_getElem? e)
   have hon := h k j e
   simp only
   by_cases h1 : j.onAt s but k = true
   ·rw [if_pos h1, if_pos (hon h1)]; omega
   ·rw [if_neg h1]
    split <;> omega

/-- The latest start in (t, s], or t: by the first k jobs. -/
def lateN (L : List Job) (t s but : Int) : Nat → Int
 | 0 => t
 | k + 1 => match L[k]? with
  | some j => if j.live = true ∧ (k : Int) ≠ but ∧ t < j.start ∧ j.start ≤ s ∧ lateN L t s but k < j.start then j.start else lateN L t s but k
  | none => lateN L t s but k
theorem lateN_spec (L : List Job) (t s but : Int) (hts : t ≤ s) : ∀ k, t ≤ lateN L t s but k ∧ lateN L t s but k ≤ s ∧ (lateN L t s but k = t ∨ ∃ (i : Nat) (j : Job), L[i]? = some j ∧ j.live = true ∧ (i : Int) ≠ but ∧ t < j.start ∧ lateN L t s but k = j.start) ∧ ∀ (i : Nat) (j : Job), i < k → L[i]? = some j → j.live = true → (i : Int) ≠ but → t < j.start → j.start ≤ s → j.start ≤ lateN L t s but k
 | 0 => ⟨by simp [lateN], by simpa [lateN] using hts, Or.inl rfl, fun i j hi => by omega⟩
 | k + 1 => by
  obtain ⟨h1, h2, h3, h4⟩ := lateN_spec L t s but hts k
  unfold lateN
  cases e : L[k]? with
  | none =>
   refine ⟨h1, h2, h3, fun i j hi hj => ?_⟩
   rcases Nat.lt_or_ge i k with h | h
   ·exact h4 i j h hj
   ·obtain rfl : i = k := by omega
    rw [e] at hj
    cases hj
  | some b =>
   simp only
   split
   ·rename_i hc
    refine ⟨by omega, by omega, Or.inr ⟨k, b, e, hc.1, hc.2.1, hc.2.2.1, rfl⟩, fun i j hi hj a1 a2 a3 a4 => ?_⟩
    rcases Nat.lt_or_ge i k with h | h
    ·have := h4 i j h hj a1 a2 a3 a4
     omega
    ·obtain rfl : i = k := by omega
     obtain rfl := Option.some.inj (e.symm.trans hj)
     omega
   ·rename_i hc
    refine ⟨h1, h2, h3, fun i j hi hj a1 a2 a3 a4 => ?_⟩
    rcases Nat.lt_or_ge i k with h | h
    ·exact h4 i j h hj a1 a2 a3 a4
    ·obtain rfl : i = k := by omega
     obtain rfl := Option.some.inj (e.symm.trans hj)
     by_cases h5 : lateN L t s but i < b.start
     ·exact absurd ⟨a1, a2, a3, a4, h5⟩ hc
     ·omega

theorem roomN_iff (L : List Job) (nodes t width wall but : Int) : ∀ k, roomN L nodes t width wall but k = true ↔ ∀ (i : Nat) (j : Job), i < k → L[i]? = some j → j.live = true → (i : Int) ≠ but → t < j.start → j.start < t + wall → used L j.start but + width ≤ nodes
 | 0 => by simp [roomN]
 | k + 1 => by
  have ih := roomN_iff L nodes t width wall but k
  unfold roomN
  rw [Bool.and_eq_true, ih]
  constructor
  ·rintro ⟨h1, h2⟩ i j hi hj a1 a2 a3 a4
   rcases Nat.lt_or_ge i k with h | h
   ·exact h1 i j h hj a1 a2 a3 a4
   ·obtain rfl : i = k := by omega
    rw [hj] at h2
    simp [a1, a2, a3, a4] at h2
    exact h2
  ·intro h
   refine ⟨fun i j hi => h i j (by omega), ?_⟩
   cases e : L[k]? with
   | none => rfl
   | some b =>
    simp only
    by_cases hc : b.live = true ∧ (k : Int) ≠ but ∧ t < b.start ∧ b.start < t + wall
    ·have := h k b (by omega) e hc.1 hc.2.1 hc.2.2.1 hc.2.2.2
     simp [this]
    ·have : (b.live && decide ((k : Int) ≠ but) && decide (t < b.start) && decide (b.start < t + wall)) = false := by
      rw [Bool.eq_false_iff]
      intro h2
      simp only [Bool.and_eq_true, decide_eq_true_eq] at h2
      exact hc ⟨h2.1.1.1, h2.1.1.2, h2.1.2, h2.2⟩
     rw [this]
     rfl

theorem room_iff (L : List Job) (nodes t width wall but : Int) (hw : ∀ j ∈ L, 0 ≤ j.width) (hwl : 1 ≤ wall) : room L nodes t width wall but = true ↔ RoomAt L nodes t width wall but := by
 unfold room
 rw [Bool.and_eq_true, decide_eq_true_eq, roomN_iff]
 constructor
 ·rintro ⟨h1, h2⟩ s hts hsw
  obtain ⟨l1, l2, l3, l4⟩ := lateN_spec L t s but hts L.length
  have hm : used L s but ≤ used L (lateN L t s but L.length) but := by
   refine usedN_mono L s _ but hw (fun i j hj hon => ?_) L.length
   simp only [Job.onAt, Bool.and_eq_true, decide_eq_true_eq] at hon ⊢
   obtain ⟨⟨⟨o1, o2⟩, o3⟩, o4⟩ := hon
   refine ⟨⟨⟨o1, o2⟩, ?_⟩, by omega⟩
   by_cases h3 : t < j.start
   ·exact l4 i j (List.getElem?_eq_some_iff.1 hj).1 hj o1 o2 h3 o3
   ·omega
  rcases l3 with e | ⟨i, j, hj, a1, a2, a3, e⟩
  ·rw [e] at hm; omega
  ·have := h2 i j (List.getElem?_eq_some_iff.1 hj).1 hj a1 a2 a3 (by omega)
   rw [e] at hm
   omega
 ·intro h
  exact ⟨h t (by omega) (by omega), fun i j _ _ _ _ a3 a4 => h j.start (by omega) a4⟩

/-- The latest end in (now, t], or now: by the first k jobs. -/
def endN (L : List Job) (now t but : Int) : Nat → Int
 | 0 => now
 | k + 1 => match L[k]? with
  | some j => if j.live = true ∧ (k : Int) ≠ but ∧ j.stop ≤ t ∧ endN L now t but k < j.stop then j.stop else endN L now t but k
  | none => endN L now t but k
theorem endN_spec (L : List Job) (now t but : Int) (hts : now ≤ t) : ∀ k, now ≤ endN L now t but k ∧ endN L now t but k ≤ t ∧ (endN L now t but k = now ∨ ∃ (i : Nat) (j : Job), L[i]? = some j ∧ j.live = true ∧ (i : Int) ≠ but ∧ now < j.stop ∧ endN L now t but k = j.stop) ∧ ∀ (i : Nat) (j : Job), i < k → L[i]? = some j → j.live = true → (i : Int) ≠ but → j.stop ≤ t → j.stop ≤ endN L now t but k
 | 0 => ⟨by simp [endN], by simpa [endN] using hts, Or.inl rfl, fun i j hi => by omega⟩
 | k + 1 => by
  obtain ⟨h1, h2, h3, h4⟩ := endN_spec L now t but hts k
  unfold endN
  cases e : L[k]? with
  | none =>
   refine ⟨h1, h2, h3, fun i j hi hj => ?_⟩
   rcases Nat.lt_or_ge i k with h | h
   ·exact h4 i j h hj
   ·obtain rfl : i = k := by omega
    rw [e] at hj
    cases hj
  | some b =>
   simp only
   split
   ·rename_i hc
    refine ⟨by omega, by omega, Or.inr ⟨k, b, e, hc.1, hc.2.1, by omega, rfl⟩, fun i j hi hj a1 a2 a3 => ?_⟩
    rcases Nat.lt_or_ge i k with h | h
    ·have := h4 i j h hj a1 a2 a3
     omega
    ·obtain rfl : i = k := by omega
     obtain rfl := Option.some.inj (e.symm.trans hj)
     omega
   ·rename_i hc
    refine ⟨h1, h2, h3, fun i j hi hj a1 a2 a3 => ?_⟩
    rcases Nat.lt_or_ge i k with h | h
    ·exact h4 i j h hj a1 a2 a3
    ·obtain rfl : i = k := by omega
     obtain rfl := Option.some.inj (e.symm.trans hj)
     by_cases h5 : endN L now t but i < b.stop
     ·exact absurd ⟨a1, a2, a3, h5⟩ hc
     ·omega

/-- Where there is room at t there is room at the latest end ahead of it (or now). -/
theorem room_back (L : List Job) (nodes now t width wall but : Int) (hw : ∀ j ∈ L, 0 ≤ j.width) (hts : now ≤ t) (hwl : 1 ≤ wall) (h : RoomAt L nodes t width wall but) : RoomAt L nodes (endN L now t but L.length) width wall but := fun s h1 h2 => by
 obtain ⟨e1, e2, e3, e4⟩ := endN_spec L now t but hts L.length
 by_cases hs : t ≤ s
 ·exact h s hs (by omega)
 ·have hm : used L s but ≤ used L t but := by
   refine usedN_mono L s t but hw (fun i j hj hon => ?_) L.length
   simp only [Job.onAt, Bool.and_eq_true, decide_eq_true_eq] at hon ⊢
   obtain ⟨⟨⟨o1, o2⟩, o3⟩, o4⟩ := hon
   refine ⟨⟨⟨o1, o2⟩, by omega⟩, ?_⟩
   by_cases h3 : j.stop ≤ t
   ·have := e4 i j (List.getElem?_eq_some_iff.1 hj).1 hj o1 o2 h3
    omega
   ·omega
  have := h t (by omega) (by omega)
  omega

/-- bestN is the least end with room. -/
theorem bestN_spec (L : List Job) (nodes now width wall but : Int) (h0 : 0 ≤ now) : ∀ k, (bestN L nodes now width wall but k = -1 ∨ (now < bestN L nodes now width wall but k ∧ room L nodes (bestN L nodes now width wall but k) width wall but = true ∧ ∃ (i : Nat) (j : Job), L[i]? = some j ∧ j.live = true ∧ (i : Int) ≠ but ∧ bestN L nodes now width wall but k = j.stop)) ∧
  ∀ (i : Nat) (j : Job), i < k → L[i]? = some j → j.live = true → (i : Int) ≠ but → now < j.stop → room L nodes j.stop width wall but = true → 0 ≤ bestN L nodes now width wall but k ∧ bestN L nodes now width wall but k ≤ j.stop
 | 0 => ⟨Or.inl rfl, fun i j hi => by omega⟩
 | k + 1 => by
  obtain ⟨h1, h2⟩ := bestN_spec L nodes now width wall but h0 k
  unfold bestN
  cases e : L[k]? with
  | none =>
   refine ⟨h1, fun i j hi hj => ?_⟩
   rcases Nat.lt_or_ge i k with h | h
   ·exact h2 i j h hj
   ·obtain rfl : i = k := by omega
    rw [e] at hj
    cases hj
  | some b =>
   simp only
   generalize bestN L nodes now width wall but k = best at *
   by_cases hc : b.live = true ∧ (k : Int) ≠ but ∧ now < b.stop ∧ ¬ (0 ≤ best ∧ best ≤ b.stop)
   ·obtain ⟨c1, c2, c3, c4⟩ := hc
    have hcond : (!b.live || decide ((k : Int) = but) || decide (b.stop ≤ now) || (decide (0 ≤ best) && decide (best ≤ b.stop))) = false := by
     rw [Bool.eq_false_iff]
     intro h
     simp only [Bool.or_eq_true, Bool.not_eq_true', decide_eq_true_eq, Bool.and_eq_true] at h
     rcases h with ((h | h) | h) | h
     ·rw [c1] at h; cases h
     ·exact c2 h
     ·omega
     ·exact c4 h
    rw [if_neg (by rw [hcond]; decide)]
    by_cases hr : room L nodes b.stop width wall but = true
    ·rw [if_pos hr]
     refine ⟨Or.inr ⟨c3, hr, k, b, e, c1, c2, rfl⟩, fun i j hi hj a1 a2 a3 a4 => ?_⟩
     rcases Nat.lt_or_ge i k with h | h
     ·have := h2 i j h hj a1 a2 a3 a4
      omega
     ·obtain rfl : i = k := by omega
      obtain rfl := Option.some.inj (e.symm.trans hj)
      omega
    ·rw [if_neg hr]
     refine ⟨h1, fun i j hi hj a1 a2 a3 a4 => ?_⟩
     rcases Nat.lt_or_ge i k with h | h
     ·exact h2 i j h hj a1 a2 a3 a4
     ·obtain rfl : i = k := by omega
      obtain rfl := Option.some.inj (e.symm.trans hj)
      exact absurd a4 hr
   ·have hcond : (!b.live || decide ((k : Int) = but) || decide (b.stop ≤ now) || (decide (0 ≤ best) && decide (best ≤ b.stop))) = true := by
     rw [← Bool.not_eq_false]
     intro h
     simp only [Bool.or_eq_false_iff, Bool.not_eq_false', decide_eq_false_iff_not, Bool.and_eq_false_iff] at h
     obtain ⟨⟨⟨g1, g2⟩, g3⟩, g4⟩ := h
     exact hc ⟨g1, g2, by omega, fun g5 => by rcases g4 with g4 | g4 <;> omega⟩
    rw [if_pos hcond]
    refine ⟨h1, fun i j hi hj a1 a2 a3 a4 => ?_⟩
    rcases Nat.lt_or_ge i k with h | h
    ·exact h2 i j h hj a1 a2 a3 a4
    ·obtain rfl : i = k := by omega
     obtain rfl := Option.some.inj (e.symm.trans hj)
     by_cases h5 : 0 ≤ best ∧ best ≤ b.stop
     ·exact h5
     ·exact absurd ⟨a1, a2, a3, h5⟩ hc

/-- P7: the least time, from now on, at which there is room, if there is any. -/
theorem earliest_spec (L : List Job) (nodes now width wall but : Int) (hw : ∀ j ∈ L, 0 ≤ j.width) (h0 : 0 ≤ now) (hwl : 1 ≤ wall) (t : Int) (ht : now ≤ t) (hr : RoomAt L nodes t width wall but) :
  now ≤ earliest L nodes now width wall but ∧ earliest L nodes now width wall but ≤ t ∧ RoomAt L nodes (earliest L nodes now width wall but) width wall but := by
 have hb := room_back L nodes now t width wall but hw ht hwl hr
 obtain ⟨e1, e2, e3, e4⟩ := endN_spec L now t but ht L.length
 unfold earliest
 by_cases hn : room L nodes now width wall but = true
 ·rw [if_pos hn]
  exact ⟨Int.le_refl _, ht, (room_iff L nodes now width wall but hw hwl).1 hn⟩
 ·rw [if_neg hn]
  obtain ⟨s1, s2⟩ := bestN_spec L nodes now width wall but h0 L.length
  rcases e3 with e | ⟨i, j, hj, a1, a2, a3, e⟩
  ·rw [e] at hb
   exact absurd ((room_iff L nodes now width wall but hw hwl).2 hb) hn
  ·have hj2 := s2 i j (List.getElem?_eq_some_iff.1 hj).1 hj a1 a2 a3 ((room_iff L nodes j.stop width wall but hw hwl).2 (e ▸ hb))
   rcases s1 with e5 | ⟨g1, g2, _⟩
   ·omega
   ·exact ⟨by omega, by omega, (room_iff L nodes _ width wall but hw hwl).1 g2⟩

end Go.Proofs.YtpcgnadfldimhaaGreatDoor
namespace Go.Proofs.YtpcgnadfldimhaaGreatDoor

/-- How much of [a, b) lies in [A, x). -/
def ov (A x : Int) (p : Int × Int) : Int := max 0 (min p.2 x - max p.1 A)

theorem sum_zero {α : Type} : ∀ l : List α, (l.map fun _ => (0 : Int)).sum = 0
 | [] => rfl
 | _ :: r => by simp only [List.map_cons, List.sum_cons, sum_zero r]; rfl
theorem sum_le {α : Type} (f g : α → Int) : ∀ l : List α, (∀ p ∈ l, f p ≤ g p) → (l.map f).sum ≤ (l.map g).sum
 | [], _ => by simp
 | a :: r, h => by
  have ih := sum_le f g r (fun p hp => h p (List.mem_cons_of_mem _ hp))
  have ha := h a (List.mem_cons_self ..)
  simp only [List.map_cons, List.sum_cons]
  omega
theorem sum_lt {α : Type} (f g : α → Int) : ∀ l : List α, (∀ p ∈ l, f p ≤ g p) → (∃ p ∈ l, f p + 1 ≤ g p) → (l.map f).sum + 1 ≤ (l.map g).sum
 | [], _, ⟨p, hp, _⟩ => by simp at hp
 | a :: r, h, ⟨p, hp, hlt⟩ => by
  have ha := h a (List.mem_cons_self ..)
  have hr := sum_le f g r (fun q hq => h q (List.mem_cons_of_mem _ hq))
  simp only [List.map_cons, List.sum_cons]
  rcases List.mem_cons.1 hp with rfl | hp
  ·omega
  ·have ih := sum_lt f g r (fun q hq => h q (List.mem_cons_of_mem _ hq)) ⟨p, hp, hlt⟩
   omega

theorem cover_ov (l : List (Int × Int)) (A : Int) : ∀ n : Nat, (∀ s, A ≤ s → s < A + n → ∃ p ∈ l, p.1 ≤ s ∧ s < p.2) → (n : Int) ≤ (l.map (ov A (A + n))).sum
 | 0, _ => by
  have := sum_le (fun _ => (0 : Int)) (ov A (A + (0 : Nat))) l (fun p _ => by unfold ov; omega)
  have e : (l.map fun _ => (0 : Int)).sum = 0 := sum_zero l
  simp only [Int.natCast_zero] at this ⊢
  omega
 | n + 1, h => by
  have ih := cover_ov l A n (fun s h1 h2 => h s h1 (by omega))
  obtain ⟨p, hp, h1, h2⟩ := h (A + n) (by omega) (by omega)
  have := sum_lt (ov A (A + n)) (ov A (A + ((n + 1 : Nat) : Int))) l (fun q _ => by unfold ov; omega) ⟨p, hp, by unfold ov; omega⟩
  omega

theorem cover_len (l : List (Int × Int)) (A b : Int) (hp : ∀ p ∈ l, p.1 ≤ p.2) (h : ∀ s, A ≤ s → s < b → ∃ p ∈ l, p.1 ≤ s ∧ s < p.2) : b - A ≤ (l.map fun p => p.2 - p.1).sum := by
 have hz : 0 ≤ (l.map fun p => p.2 - p.1).sum := by
  have := sum_le (fun _ => (0 : Int)) (fun p : Int × Int => p.2 - p.1) l (fun p h => by have := hp p h; omega)
  have e : (l.map fun _ => (0 : Int)).sum = 0 := sum_zero l
  omega
 by_cases hb : A ≤ b
 ·obtain ⟨n, hn⟩ : ∃ n : Nat, b = A + n := ⟨(b - A).toNat, by omega⟩
  subst hn
  have h1 := cover_ov l A n h
  have h2 := sum_le (ov A (A + n)) (fun p => p.2 - p.1) l (fun p h => by have := hp p h; unfold ov; omega)
  omega
 ·omega

/-- At every moment from now on ahead of the last end there is a reservation. -/
def NoGap (L : List Job) (now : Int) : Prop := ∀ j ∈ L, j.live = true → ∀ s, now ≤ s → s < j.stop → ∃ a ∈ L, a.live = true ∧ a.start ≤ s ∧ s < a.stop

theorem sum_const {α : Type} (f : α → Int) (c : Int) : ∀ l : List α, (∀ p ∈ l, f p ≤ c) → (l.map f).sum ≤ c * l.length
 | [], _ => by simp
 | a :: r, h => by
  have ih := sum_const f c r (fun p hp => h p (List.mem_cons_of_mem _ hp))
  have ha := h a (List.mem_cons_self ..)
  simp only [List.map_cons, List.sum_cons, List.length_cons, Int.natCast_succ, Int.mul_add, Int.mul_one]
  omega

theorem liveN_count (L : List Job) : ∀ k, k ≤ L.length → liveN L k = ((L.take k).filter Job.live).length
 | 0, _ => by simp [liveN]
 | k + 1, hk => by
  have ih := liveN_count L k (by omega)
  obtain ⟨j, hj⟩ : ∃ j, L[k]? = some j := ⟨_, List.getElem?_eq_getElem (by omega)⟩
  have e := (List.getElem?_eq_some_iff.1 hj).2
  rw [liveN_step L k j hj, List.take_succ_eq_append_getElem (by omega), List.filter_append, List.length_append, e, ih]
  cases hl : j.live <;> simp [hl]

/-- No reservation ends later than this. -/
theorem noGap_end (L : List Job) (now wall : Int) (h : NoGap L now) (hw : ∀ j ∈ L, j.live = true → j.start ≤ j.stop ∧ j.stop - j.start ≤ wall) (j : Job) (hj : j ∈ L) (hl : j.live = true) : j.stop - now ≤ wall * (liveN L L.length : Int) := by
 have hc := cover_len ((L.filter Job.live).map fun a => (a.start, a.stop)) now j.stop
  (fun p hp => by
   obtain ⟨a, ha, rfl⟩ := List.mem_map.1 hp
   obtain ⟨h1, h2⟩ := List.mem_filter.1 ha
   exact (hw a h1 h2).1)
  (fun s h1 h2 => by
   obtain ⟨a, ha, hal, h3, h4⟩ := h j hj hl s h1 h2
   exact ⟨(a.start, a.stop), List.mem_map.2 ⟨a, List.mem_filter.2 ⟨ha, hal⟩, rfl⟩, h3, h4⟩)
 rw [List.map_map] at hc
 have hs := sum_const ((fun p : Int × Int => p.2 - p.1) ∘ fun a : Job => (a.start, a.stop)) wall (L.filter Job.live) (fun a ha => by
  obtain ⟨h1, h2⟩ := List.mem_filter.1 ha
  exact (hw a h1 h2).2)
 have e := liveN_count L L.length (Nat.le_refl _)
 rw [List.take_length] at e
 rw [e]
 omega

/-- Where a new job is promised: now, or where some reservation ends. -/
theorem earliest_at (L : List Job) (nodes now width wall but : Int) (h0 : 0 ≤ now) : earliest L nodes now width wall but = now ∨ earliest L nodes now width wall but = -1 ∨ (now < earliest L nodes now width wall but ∧ ∃ j ∈ L, j.live = true ∧ earliest L nodes now width wall but = j.stop) := by
 unfold earliest
 split
 ·exact Or.inl rfl
 ·obtain ⟨s1, _⟩ := bestN_spec L nodes now width wall but h0 L.length
  rcases s1 with e | ⟨g1, _, i, j, hj, a1, _, e⟩
  ·exact Or.inr (Or.inl e)
  ·exact Or.inr (Or.inr ⟨g1, j, List.mem_of_getElem? hj, a1, e⟩)

end Go.Proofs.YtpcgnadfldimhaaGreatDoor
namespace Go.Proofs.YtpcgnadfldimhaaGreatDoor

theorem mom_same (t : Int) (j : Job) : ((j.halt t).go t).start = j.start ∧ ((j.halt t).go t).stop = j.stop ∧ ((j.halt t).go t).width = j.width ∧ ((j.halt t).go t).wall = j.wall ∧ (((j.halt t).go t).live = true → j.live = true) ∧ (j.live = true → t < j.stop → ((j.halt t).go t).live = true) := by
 unfold Job.halt
 split
 ·rename_i h
  unfold Job.go
  split
  ·rename_i h2
   simp at h2
  ·refine ⟨rfl, rfl, rfl, rfl, fun e => ?_, fun _ e => ?_⟩
   ·simp [Job.live, liveB] at e
   ·omega
 ·unfold Job.go
  split
  ·rename_i h h2
   refine ⟨rfl, rfl, rfl, rfl, fun _ => by simp [Job.live, liveB, h2.1], fun _ _ => by simp [Job.live, liveB]⟩
  ·exact ⟨rfl, rfl, rfl, rfl, id, fun e _ => e⟩

theorem nextN_le (L : List Job) (fin : Int) (h0 : -1 ≤ fin) : ∀ k, nextN L fin k ≤ fin
 | 0 => by simp [nextN]; omega
 | k + 1 => by
  have ih := nextN_le L fin h0 k
  unfold nextN
  split <;> (try split) <;> first | exact ih | omega

/-- Queued jobs start later, running ones have started and end later. -/
def Phased (L : List Job) (now : Int) : Prop := ∀ j ∈ L, (j.phase = 1 → now < j.start) ∧ (j.phase = 2 → j.start ≤ now ∧ now < j.stop)

theorem mom_two (t : Int) (j : Job) (h : ((j.halt t).go t).phase = 2) : (j.phase = 2) ∨ (j.phase = 1 ∧ j.start = t) := by
 unfold Job.halt at h
 split at h
 ·unfold Job.go at h
  split at h
  ·rename_i h2
   simp at h2
  ·simp at h
 ·unfold Job.go at h
  split at h
  ·rename_i h2
   exact Or.inr h2
  ·exact Or.inl h

theorem goes_from {fin : Int} {L M : List Job} {es : List Ev} (hg : Goes fin L M es) (hf : -1 ≤ fin) (h : ∀ j ∈ L, j.phase = 2 → j.start ≤ fin) (hS : Sane L) : (∀ j ∈ M, j.phase = 2 → j.start ≤ fin) ∧ Sane M := by
 induction hg with
 | none => exact ⟨h, hS⟩
 | @more M es _ hn ih =>
  have hle := nextN_le M fin hf M.length
  unfold momL
  rw [List.map_map]
  refine ⟨fun j hj h2 => ?_, fun j hj hac => ?_⟩
  ·obtain ⟨b, hb, rfl⟩ := List.mem_map.1 hj
   have q1 := (mom_same (nextN M fin M.length) b).1
   show ((b.halt _).go _).start ≤ fin
   rcases mom_two _ b h2 with e | ⟨_, e⟩
   ·have := ih.1 b hb e
    omega
   ·omega
  ·obtain ⟨b, hb, rfl⟩ := List.mem_map.1 hj
   obtain ⟨q1, q2, _⟩ := mom_same (nextN M fin M.length) b
   have := ih.2 b hb (halt_active (go_active hac))
   show 0 ≤ ((b.halt _).go _).start ∧ ((b.halt _).go _).start < ((b.halt _).go _).stop
   omega

theorem phased_goes {fin now : Int} {L M : List Job} {es : List Ev} (hg : Goes fin L M es) (h : Phased L now) (hS : Sane L) (hf : now ≤ fin) (h0 : 0 ≤ now) (hn : nextN M fin M.length < 0) : Phased M fin := by
 obtain ⟨h1, h2⟩ := goes_from hg (by omega) (fun j hj e => by have := ((h j hj).2 e).1; omega) hS
 intro j hj
 obtain ⟨i, hi⟩ := List.mem_iff_getElem?.1 hj
 have hlt := (List.getElem?_eq_some_iff.1 hi).1
 have hs := h2 j hj
 have hd : 0 ≤ j.due → fin < j.due := fun e => by
  by_cases hc : j.due ≤ fin
  ·have := ((next_least M fin M.length).2 i j hlt hi e hc).1
   omega
  ·omega
 refine ⟨fun e => ?_, fun e => ⟨h1 j hj e, ?_⟩⟩
 ·have hdd : j.due = j.start := by simp [Job.due, e]
  rw [hdd] at hd
  exact hd (hs (Or.inl e)).1
 ·have hdd : j.due = j.stop := by simp [Job.due, e]
  rw [hdd] at hd
  have := hs (Or.inr e)
  exact hd (by omega)

end Go.Proofs.YtpcgnadfldimhaaGreatDoor
namespace Go.Proofs.YtpcgnadfldimhaaGreatDoor

def Ev.lt (a b : Ev) : Prop := a.time < b.time ∨ (a.time = b.time ∧ ((a.kind ≠ b.kind ∧ a.kind = 2) ∨ (a.kind = b.kind ∧ a.id < b.id)))
/-- It is due no later than the other: the heap's order. -/
def Ev.le (a b : Ev) : Prop := ¬ b.lt a
def Ev.ok (a : Ev) : Prop := a.kind = 1 ∨ a.kind = 2
theorem Ev.le_trans {a b c : Ev} (_ : a.ok) (hb : b.ok) (hc : c.ok) (h1 : a.le b) (h2 : b.le c) : a.le c := by
 unfold Ev.le Ev.lt Ev.ok at *
 omega
theorem Ev.le_refl (a : Ev) : a.le a := by
 unfold Ev.le Ev.lt
 omega
theorem Ev.lt_le {a b : Ev} (_ : a.ok) (_ : b.ok) (h : a.lt b) : a.le b := by
 unfold Ev.le Ev.lt Ev.ok at *
 omega

def par (k : Nat) : Nat := (k - 1) / 2
def swapF (f : Nat → Ev) (i j : Nat) : Nat → Ev := fun k => if k = i then f j else if k = j then f i else f k
def HeapF (f : Nat → Ev) (n : Nat) : Prop := ∀ k, 0 < k → k < n → (f (par k)).le (f k)
/-- A heap but for what stands at j. -/
structure HoleF (f : Nat → Ev) (n j : Nat) : Prop where
 rest : ∀ k, 0 < k → k < n → k ≠ j → par k ≠ j → (f (par k)).le (f k)
 over : ∀ c, 0 < c → c < n → par c = j → 0 < j → (f (par j)).le (f c)
structure UpF (f : Nat → Ev) (n j : Nat) : Prop where
 hole : HoleF f n j
 kids : ∀ c, 0 < c → c < n → par c = j → (f j).le (f c)
structure DownF (f : Nat → Ev) (n i0 i : Nat) : Prop where
 hole : HoleF f n i
 from0 : i0 ≤ i
 up : i0 < i → (f (par i)).le (f i)

theorem par_lt {k : Nat} (h : 0 < k) : par k < k := by unfold par; omega

theorem swap_a (f : Nat → Ev) (i j : Nat) : swapF f i j i = f j := by simp [swapF]
theorem swap_b (f : Nat → Ev) (i j : Nat) : swapF f i j j = f i := by
 unfold swapF
 split
 ·rename_i h; rw [h]
 ·simp
theorem swap_c (f : Nat → Ev) (i j k : Nat) (h1 : k ≠ i) (h2 : k ≠ j) : swapF f i j k = f k := by simp [swapF, h1, h2]

theorem up_done {f : Nat → Ev} {n j : Nat} (h : UpF f n j) (hj : j = 0 ∨ (f (par j)).le (f j)) : HeapF f n := fun k h0 hk => by
 by_cases e1 : k = j
 ·subst e1
  rcases hj with e | e
  ·omega
  ·exact e
 ·by_cases e2 : par k = j
  ·rw [e2]; exact h.kids k h0 hk e2
  ·exact h.hole.rest k h0 hk e1 e2

theorem up_swap {f : Nat → Ev} {n j : Nat} (hok : ∀ k, k < n → (f k).ok) (h : UpF f n j) (h0 : 0 < j) (hj : j < n) (hl : (f j).lt (f (par j))) : UpF (swapF f (par j) j) n (par j) := by
 have hp := par_lt h0
 have okj := hok j hj
 have okp := hok (par j) (by omega)
 refine ⟨⟨fun k k0 hk n1 n2 => ?_, fun c c0 hc e hp0 => ?_⟩, fun c c0 hc e => ?_⟩
 ·have n3 : k ≠ j := fun e => n2 (by rw [e])
  rw [swap_c _ _ _ k n1 n3]
  by_cases e : par k = j
  ·rw [e, swap_b]; exact h.hole.over k k0 hk e h0
  ·rw [swap_c _ _ _ _ n2 e]; exact h.hole.rest k k0 hk n3 e
 ·have hpp := par_lt hp0
  rw [swap_c _ _ _ (par (par j)) (by omega) (by omega)]
  have hb : (f (par (par j))).le (f (par j)) := h.hole.rest _ hp0 (by omega) (by omega) (by omega)
  by_cases e2 : c = j
  ·rw [e2, swap_b]; exact hb
  ·have hc' := par_lt c0
   rw [swap_c _ _ _ c (by omega) e2]
   have := h.hole.rest c c0 hc e2 (by omega)
   rw [e] at this
   exact Ev.le_trans (hok _ (by omega)) okp (hok c hc) hb this
 ·rw [swap_a]
  by_cases e2 : c = j
  ·rw [e2, swap_b]; exact Ev.lt_le okj okp hl
  ·have hc' := par_lt c0
   rw [swap_c _ _ _ c (by omega) e2]
   have := h.hole.rest c c0 hc e2 (by omega)
   rw [e] at this
   exact Ev.le_trans okj okp (hok c hc) (Ev.lt_le okj okp hl) this

theorem down_swap {f : Nat → Ev} {n i0 i c : Nat} (hok : ∀ k, k < n → (f k).ok) (h : DownF f n i0 i) (c0 : 0 < c) (hc : c < n) (hp : par c = i) (hl : (f c).lt (f i)) (hmin : ∀ d, 0 < d → d < n → par d = i → (f c).le (f d)) : DownF (swapF f i c) n i0 c := by
 have hlt := par_lt c0
 have okc := hok c hc
 have oki := hok i (by omega)
 refine ⟨⟨fun k k0 hk n1 n2 => ?_, fun d d0 hd e _ => ?_⟩, by have := h.from0; omega, fun _ => ?_⟩
 ·by_cases e1 : k = i
  ·subst e1
   have := par_lt k0
   rw [swap_a, swap_c _ _ _ (par k) (by omega) (by omega)]
   exact h.hole.over c c0 hc hp k0
  ·rw [swap_c _ _ _ k e1 n1]
   by_cases e2 : par k = i
   ·rw [e2, swap_a]; exact hmin k k0 hk e2
   ·rw [swap_c _ _ _ _ e2 n2]; exact h.hole.rest k k0 hk e1 e2
 ·have := par_lt d0
  rw [hp, swap_a, swap_c _ _ _ d (by omega) (by omega)]
  have := h.hole.rest d d0 hd (by omega) (by omega)
  rw [e] at this
  exact this
 ·rw [hp, swap_a, swap_b]; exact Ev.lt_le okc oki hl

theorem down_done {f : Nat → Ev} {n i0 i : Nat} (h : DownF f n i0 i) (hk : ∀ d, 0 < d → d < n → par d = i → (f i).le (f d)) : (i0 < i → HeapF f n) ∧ (i = i0 → UpF f n i0) :=
 ⟨fun hlt => up_done ⟨h.hole, hk⟩ (Or.inr (h.up hlt)), fun e => e ▸ ⟨h.hole, hk⟩⟩

/-- Put at the end: what goes up. -/
theorem up_push {f : Nat → Ev} {n : Nat} (h : HeapF f n) : UpF f (n + 1) n :=
 ⟨⟨fun k k0 hk n1 _ => h k k0 (by omega), fun c c0 hc e _ => by have := par_lt c0; omega⟩, fun c c0 hc e => by have := par_lt c0; omega⟩

/-- The last has come to i: what goes down. -/
theorem down_take {f : Nat → Ev} {n i : Nat} (hok : ∀ k, k < n + 1 → (f k).ok) (h : HeapF f (n + 1)) (hi : i < n) : DownF (swapF f i n) n i i := by
 refine ⟨⟨fun k k0 hk n1 n2 => ?_, fun c c0 hc e i0 => ?_⟩, Nat.le_refl _, fun h => by omega⟩
 ·have := par_lt k0
  rw [swap_c _ _ _ k n1 (by omega), swap_c _ _ _ (par k) n2 (by omega)]
  exact h k k0 (by omega)
 ·have := par_lt c0
  have := par_lt i0
  rw [swap_c _ _ _ c (by omega) (by omega), swap_c _ _ _ (par i) (by omega) (by omega)]
  have h1 := h i i0 (by omega)
  have h2 := h c c0 (by omega)
  rw [e] at h2
  exact Ev.le_trans (hok _ (by omega)) (hok _ (by omega)) (hok _ (by omega)) h1 h2

theorem heap_first {f : Nat → Ev} {n : Nat} (hok : ∀ k, k < n → (f k).ok) (h : HeapF f n) : ∀ m k, k ≤ m → k < n → (f 0).le (f k)
 | 0, k, h1, h2 => by
  obtain rfl : k = 0 := by omega
  exact Ev.le_refl _
 | m + 1, k, h1, h2 => by
  by_cases e : k = 0
  ·subst e; exact Ev.le_refl _
  ·have := par_lt (k := k) (by omega)
   exact Ev.le_trans (hok 0 (by omega)) (hok (par k) (by omega)) (hok k h2) (heap_first hok h m (par k) (by omega) (by omega)) (h k (by omega) h2)

def evAt (E : List Ev) (k : Nat) : Ev := E.getD k ⟨1, 0, 0, 0⟩
def swapL (E : List Ev) (i j : Nat) : List Ev := (E.set i (evAt E j)).set j (evAt E i)
theorem swapL_len (E : List Ev) (i j : Nat) : (swapL E i j).length = E.length := by simp [swapL]
theorem evAt_lt (E : List Ev) (k : Nat) (h : k < E.length) : E[k]? = some (evAt E k) := by simp [evAt, h]
theorem swapL_at (E : List Ev) (i j k : Nat) (hi : i < E.length) (hj : j < E.length) : evAt (swapL E i j) k = swapF (evAt E) i j k := by
 unfold swapL swapF
 rw [evAt, List.getD_eq_getElem?_getD, List.getElem?_set, List.getElem?_set, List.length_set]
 by_cases e1 : j = k
 ·subst e1
  by_cases e2 : j = i
  ·subst e2; simp [hj]
  ·simp [hj, e2]
 ·rw [if_neg e1]
  by_cases e2 : i = k
  ·subst e2; simp [hi]
  ·rw [if_neg e2, if_neg (fun e => e2 e.symm), if_neg (fun e => e1 e.symm), evAt, List.getD_eq_getElem?_getD]
theorem swapL_perm (E : List Ev) (i j : Nat) (hi : i < E.length) (hj : j < E.length) : (swapL E i j).Perm E := by
 have e1 : evAt E j = E[j] := by simp [evAt, hj]
 have e2 : evAt E i = E[i] := by simp [evAt, hi]
 rw [swapL, e1, e2]
 exact List.set_set_perm hi hj
theorem swapL_eq (E : List Ev) (i j : Nat) (hi : i < E.length) (hj : j < E.length) : evAt (swapL E i j) = swapF (evAt E) i j := funext fun k => swapL_at E i j k hi hj

/-- What is due of the jobs, each once. -/
structure Due (L : List Job) (E : List Ev) : Prop where
 has : ∀ (i : Nat) (j : Job), L[i]? = some j → j.active → j.event i ∈ E
 only : ∀ e ∈ E, ∃ (i : Nat) (j : Job), L[i]? = some j ∧ j.active ∧ e = j.event i
 once : (E.map Ev.id).Nodup

theorem Due.perm {L : List Job} {E F : List Ev} (h : Due L E) (p : F.Perm E) : Due L F :=
 ⟨fun i j hj ha => p.mem_iff.2 (h.has i j hj ha), fun e he => h.only e (p.mem_iff.1 he), (p.map Ev.id).nodup_iff.2 h.once⟩

theorem event_ok (i : Nat) (j : Job) : (j.event i).ok := by
 unfold Ev.ok Job.event
 split <;> simp
theorem Due.ok {L : List Job} {E : List Ev} (h : Due L E) (e : Ev) (he : e ∈ E) : e.ok := by
 obtain ⟨i, j, _, _, rfl⟩ := h.only e he
 exact event_ok i j

theorem event_lt {i k : Nat} {a b : Job} (ha : a.active) (hb : b.active) (hne : i ≠ k) (h : (a.event i).le (b.event k)) : Before i a k b := by
 unfold Ev.le Ev.lt Job.event at h
 unfold Before Job.rank
 unfold Job.active at ha hb
 rcases ha with e1 | e1 <;> rcases hb with e2 | e2 <;> simp [e1, e2] at h ⊢ <;> omega

/-- What stands first in the heap is due first. -/
theorem Due.least {L : List Job} {E : List Ev} (h : Due L E) (ho : HeapF (evAt E) E.length) (h0 : 0 < E.length) : ∃ i j, Least L i j ∧ evAt E 0 = j.event i := by
 have hm : ∀ k, k < E.length → evAt E k ∈ E := fun k hk => List.mem_of_getElem? (evAt_lt E k hk)
 obtain ⟨i, j, hj, ha, e⟩ := h.only _ (hm 0 h0)
 refine ⟨i, j, ⟨hj, ha, fun k b hb hab => ?_⟩, e⟩
 by_cases hk : k = i
 ·exact Or.inl hk
 ·obtain ⟨p, hp, hp2⟩ := List.getElem_of_mem (h.has k b hb hab)
  have hle := heap_first (fun k hk => h.ok _ (hm k hk)) ho p p (Nat.le_refl _) hp
  have e2 : evAt E p = b.event k := by simp [evAt, hp, hp2]
  rw [e, e2] at hle
  exact Or.inr (event_lt ha hab (fun e => hk e.symm) hle)

theorem Due.quiet {L : List Job} {E : List Ev} {fin : Int} (h : Due L E) (ho : HeapF (evAt E) E.length) (hq : E.length = 0 ∨ fin < (evAt E 0).time) : Quiet fin L := fun j hj ha => by
 obtain ⟨i, hi, e⟩ := List.getElem_of_mem hj
 have hj' : L[i]? = some j := by simp [hi, e]
 have hm := h.has i j hj' ha
 rcases hq with h0 | hq
 ·rw [List.length_eq_zero_iff.1 h0] at hm
  simp at hm
 ·have h0 : 0 < E.length := List.length_pos_of_mem hm
  obtain ⟨k, a, hl, e2⟩ := h.least ho h0
  rw [e2] at hq
  have ht : (a.event k).time = a.due := rfl
  rw [ht] at hq
  rcases hl.2.2 i j hj' ha with rfl | hb
  ·obtain rfl := Option.some.inj (hl.1.symm.trans hj')
   exact hq
  ·unfold Before at hb
   omega

/-- An event of a job that is not due any more is taken out. -/
theorem Due.take {L : List Job} {E : List Ev} {i : Nat} {j a : Job} (h : Due L (j.event i :: E)) (ha : ¬ a.active) : Due (L.set i a) E := by
 have ho := h.once
 rw [List.map_cons, List.nodup_cons] at ho
 refine ⟨fun k b hb hab => ?_, fun e he => ?_, ho.2⟩
 ·rw [List.getElem?_set] at hb
  by_cases e : i = k
  ·subst e
   rw [if_pos rfl] at hb
   split at hb
   ·obtain rfl := Option.some.inj hb
    exact absurd hab ha
   ·simp at hb
  ·rw [if_neg e] at hb
   rcases List.mem_cons.1 (h.has k b hb hab) with e2 | e2
   ·have e3 := congrArg Ev.id e2
    simp [Job.event] at e3
    omega
   ·exact e2
 ·obtain ⟨k, b, hb, hab, rfl⟩ := h.only e (List.mem_cons_of_mem _ he)
  refine ⟨k, b, ?_, hab, rfl⟩
  rw [List.getElem?_set]
  by_cases e : i = k
  ·subst e
   exact absurd (List.mem_map.2 ⟨_, he, rfl⟩) ho.1
  ·rw [if_neg e]; exact hb

/-- An event of a job of which nothing was due is put in. -/
theorem Due.put {L : List Job} {E : List Ev} {i : Nat} {a b : Job} (h : Due (L.set i a) E) (hi : i < L.length) (ha : ¬ a.active) (hb : b.active) : Due (L.set i b) (E ++ [b.event i]) := by
 have hq : ∀ e ∈ E, e.id ≠ (i : Int) + 1 := fun e he e2 => by
  obtain ⟨k, c, hc, hac, rfl⟩ := h.only e he
  simp [Job.event] at e2
  have : i = k := by omega
  subst this
  rw [List.getElem?_set, if_pos rfl, if_pos hi] at hc
  exact ha (Option.some.inj hc ▸ hac)
 refine ⟨fun k c hc hac => ?_, fun e he => ?_, ?_⟩
 ·rw [List.getElem?_set] at hc
  by_cases e : i = k
  ·subst e
   rw [if_pos rfl, if_pos hi] at hc
   obtain rfl := Option.some.inj hc
   simp
  ·rw [if_neg e] at hc
   exact List.mem_append_left _ (h.has k c (by rw [List.getElem?_set, if_neg e]; exact hc) hac)
 ·rcases List.mem_append.1 he with he | he
  ·obtain ⟨k, c, hc, hac, rfl⟩ := h.only e he
   refine ⟨k, c, ?_, hac, rfl⟩
   rw [List.getElem?_set] at hc ⊢
   by_cases e : i = k
   ·subst e
    exact absurd rfl (hq _ he)
   ·rw [if_neg e] at hc ⊢; exact hc
  ·rw [List.mem_singleton] at he
   subst he
   exact ⟨i, b, by rw [List.getElem?_set, if_pos rfl, if_pos hi], hb, rfl⟩
 ·rw [List.map_append, List.nodup_append]
  refine ⟨h.once, by simp, fun x hx y hy e => ?_⟩
  obtain ⟨e2, he2, rfl⟩ := List.mem_map.1 hx
  simp at hy
  subst hy
  exact hq _ he2 e

/-- A job more. -/
theorem Due.add {L : List Job} {E : List Ev} {b : Job} (h : Due L E) (hb : b.active) : Due (L ++ [b]) (E ++ [b.event L.length]) := by
 have hq : ∀ e ∈ E, e.id ≠ (L.length : Int) + 1 := fun e he e2 => by
  obtain ⟨k, c, hc, hac, rfl⟩ := h.only e he
  simp [Job.event] at e2
  have := (List.getElem?_eq_some_iff.1 hc).1
  omega
 refine ⟨fun k c hc hac => ?_, fun e he => ?_, ?_⟩
 ·by_cases hk : k < L.length
  ·rw [List.getElem?_append_left hk] at hc
   exact List.mem_append_left _ (h.has k c hc hac)
  ·have hk2 := (List.getElem?_eq_some_iff.1 hc).1
   simp at hk2
   obtain rfl : k = L.length := by omega
   rw [List.getElem?_append_right (Nat.le_refl _)] at hc
   simp at hc
   subst hc
   simp
 ·rcases List.mem_append.1 he with he | he
  ·obtain ⟨k, c, hc, hac, rfl⟩ := h.only e he
   exact ⟨k, c, by rw [List.getElem?_append_left (List.getElem?_eq_some_iff.1 hc).1]; exact hc, hac, rfl⟩
  ·rw [List.mem_singleton] at he
   subst he
   exact ⟨L.length, b, by simp, hb, rfl⟩
 ·rw [List.map_append, List.nodup_append]
  refine ⟨h.once, by simp, fun x hx y hy e => ?_⟩
  obtain ⟨e2, he2, rfl⟩ := List.mem_map.1 hx
  simp at hy
  subst hy
  exact hq _ he2 e

end Go.Proofs.YtpcgnadfldimhaaGreatDoor
namespace Go.Proofs.YtpcgnadfldimhaaGreatDoor

structure Res where
 width : Int
 start : Int
 stop : Int

def Res.at (t : Int) (r : Res) : Int := if r.start ≤ t ∧ t < r.stop then r.width else 0
def usedT (T : List Res) (t : Int) : Int := (T.map (Res.at t)).sum
def fitsT (T : List Res) (nodes width t : Int) : Bool := decide (width + usedT T t ≤ nodes)
def insideT (t wall : Int) (r : Res) : Bool := decide (t < r.start) && decide (r.start < t + wall)
def roomT (T : List Res) (nodes width t wall : Int) : Bool := fitsT T nodes width t && T.all fun r => !(insideT t wall r) || fitsT T nodes width r.start

/-- The reservations of the first k jobs, but one. -/
def resN (L : List Job) (but : Int) : Nat → List Res
 | 0 => []
 | k + 1 => match L[k]? with
  | some j => if j.live = true ∧ (k : Int) ≠ but then resN L but k ++ [⟨j.width, j.start, j.stop⟩] else resN L but k
  | none => resN L but k

theorem mem_resN (L : List Job) (but : Int) (r : Res) : ∀ k, r ∈ resN L but k ↔ ∃ (i : Nat) (j : Job), i < k ∧ L[i]? = some j ∧ j.live = true ∧ (i : Int) ≠ but ∧ r = ⟨j.width, j.start, j.stop⟩
 | 0 => by simp [resN]
 | k + 1 => by
  have ih := mem_resN L but r k
  unfold resN
  cases e : L[k]? with
  | none =>
   simp only
   rw [ih]
   constructor
   ·rintro ⟨i, j, h1, h2⟩; exact ⟨i, j, by omega, h2⟩
   ·rintro ⟨i, j, h1, h2, h3⟩
    have : i ≠ k := fun e2 => by subst e2; rw [e] at h2; simp at h2
    exact ⟨i, j, by omega, h2, h3⟩
  | some a =>
   simp only
   split
   ·rename_i hc
    rw [List.mem_append, ih, List.mem_singleton]
    constructor
    ·rintro (⟨i, j, h1, h2⟩ | rfl)
     ·exact ⟨i, j, by omega, h2⟩
     ·exact ⟨k, a, by omega, e, hc.1, hc.2, rfl⟩
    ·rintro ⟨i, j, h1, h2, h3, h4, h5⟩
     by_cases hk : i = k
     ·subst hk
      obtain rfl := Option.some.inj (e.symm.trans h2)
      exact Or.inr h5
     ·exact Or.inl ⟨i, j, by omega, h2, h3, h4, h5⟩
   ·rename_i hc
    rw [ih]
    constructor
    ·rintro ⟨i, j, h1, h2⟩; exact ⟨i, j, by omega, h2⟩
    ·rintro ⟨i, j, h1, h2, h3, h4, h5⟩
     have : i ≠ k := fun e2 => by
      subst e2
      obtain rfl := Option.some.inj (e.symm.trans h2)
      exact hc ⟨h3, h4⟩
     exact ⟨i, j, by omega, h2, h3, h4, h5⟩

theorem usedT_append (T : List Res) (r : Res) (t : Int) : usedT (T ++ [r]) t = usedT T t + r.at t := by
 simp [usedT]

theorem usedT_resN (L : List Job) (but t : Int) : ∀ k, usedT (resN L but k) t = usedN L t but k
 | 0 => rfl
 | k + 1 => by
  have ih := usedT_resN L but t k
  unfold resN usedN
  cases e : L[k]? with
  | none => exact ih
  | some a =>
   simp only
   by_cases hc : a.live = true ∧ (k : Int) ≠ but
   ·rw [if_pos hc, usedT_append, ih]
    by_cases ht : a.start ≤ t ∧ t < a.stop
    ·have : a.onAt t but k = true := by simp [Job.onAt, hc.1, hc.2, ht.1, ht.2]
     simp [this, Res.at, ht]
    ·have : a.onAt t but k = false := by
      rw [← Bool.not_eq_true]
      intro h
      simp only [Job.onAt, Bool.and_eq_true, decide_eq_true_eq] at h
      exact ht ⟨h.1.2, h.2⟩
     simp [this, Res.at, ht]
   ·rw [if_neg hc, ih]
    have : a.onAt t but k = false := by
     rw [← Bool.not_eq_true]
     intro h
     simp only [Job.onAt, Bool.and_eq_true, decide_eq_true_eq] at h
     exact hc ⟨h.1.1.1, h.1.1.2⟩
    simp [this]

theorem roomT_room (L : List Job) (nodes t width wall but : Int) : roomT (resN L but L.length) nodes width t wall = room L nodes t width wall but := by
 have e : fitsT (resN L but L.length) nodes width t = decide (used L t but + width ≤ nodes) := by
  unfold fitsT used
  rw [usedT_resN, Int.add_comm]
 unfold roomT room
 rw [e]
 congr 1
 rw [Bool.eq_iff_iff, roomN_iff, List.all_eq_true]
 constructor
 ·intro h i j hi hj hl hb h1 h2
  have := h ⟨j.width, j.start, j.stop⟩ ((mem_resN L but _ _).2 ⟨i, j, hi, hj, hl, hb, rfl⟩)
  simp only [insideT, fitsT, usedT_resN, h1, h2, decide_true, Bool.and_self, Bool.not_true, Bool.false_or, decide_eq_true_eq] at this
  unfold used
  omega
 ·intro h r hr
  obtain ⟨i, j, hi, hj, hl, hb, rfl⟩ := (mem_resN L but _ _).1 hr
  by_cases hin : insideT t wall ⟨j.width, j.start, j.stop⟩ = true
  ·have hh := hin
   simp only [insideT, Bool.and_eq_true, decide_eq_true_eq] at hh
   have := h i j hi hj hl hb hh.1 hh.2
   simp only [hin, Bool.not_true, Bool.false_or, fitsT, usedT_resN, decide_eq_true_eq]
   unfold used at this
   omega
  ·rw [Bool.not_eq_true] at hin
   simp [hin]

/-- The times at which room can begin. -/
def timesT (T : List Res) (now : Int) : List Int := now :: (T.filter fun r => decide (now < r.stop)).map Res.stop

theorem usedN_zero (L : List Job) (t but : Int) (h : ∀ (i : Nat) (j : Job), L[i]? = some j → j.live = true → (i : Int) ≠ but → j.stop ≤ t) : ∀ k, usedN L t but k = 0
 | 0 => rfl
 | k + 1 => by
  have ih := usedN_zero L t but h k
  unfold usedN
  split
  ·rename_i j hj
   have ho : j.onAt t but k = false := by
    rw [← Bool.not_eq_true]
    intro h2
    simp only [Job.onAt, Bool.and_eq_true, decide_eq_true_eq] at h2
    have := h k j hj h2.1.1.1 h2.1.1.2
    omega
   simp [ho, ih]
  ·exact ih

/-- The first of them, in order, at which there is room, is the earliest time: the last one needs no look. -/
theorem plan_is (L : List Job) (nodes now width wall but : Int) (hw : ∀ j ∈ L, 0 ≤ j.width) (h0 : 0 ≤ now) (hwl : 1 ≤ wall) (hn : width ≤ nodes) (ts : List Int) (hp : ts.Perm (timesT (resN L but L.length) now)) (hs : ∀ (p q : Nat) (a b : Int), p ≤ q → ts[p]? = some a → ts[q]? = some b → a ≤ b) (q : Nat) (r : Int) (hq : ts[q]? = some r)
  (h1 : q + 1 < ts.length → roomT (resN L but L.length) nodes width r wall = true) (h2 : ∀ (p : Nat) (t : Int), p < q → ts[p]? = some t → roomT (resN L but L.length) nodes width t wall = false) : r = earliest L nodes now width wall but := by
 have hlen := (List.getElem?_eq_some_iff.1 hq).1
 have memT : ∀ x, x ∈ ts ↔ x = now ∨ ∃ (i : Nat) (j : Job), L[i]? = some j ∧ j.live = true ∧ (i : Int) ≠ but ∧ now < j.stop ∧ x = j.stop := fun x => by
  rw [hp.mem_iff, timesT, List.mem_cons, List.mem_map]
  constructor
  ·rintro (e | ⟨s, hs2, rfl⟩)
   ·exact Or.inl e
   ·rw [List.mem_filter, mem_resN] at hs2
    obtain ⟨⟨i, j, _, hj, hl, hb, rfl⟩, hlt⟩ := hs2
    exact Or.inr ⟨i, j, hj, hl, hb, by simpa using hlt, rfl⟩
  ·rintro (e | ⟨i, j, hj, hl, hb, hlt, rfl⟩)
   ·exact Or.inl e
   ·refine Or.inr ⟨⟨j.width, j.start, j.stop⟩, ?_, rfl⟩
    rw [List.mem_filter, mem_resN]
    exact ⟨⟨i, j, (List.getElem?_eq_some_iff.1 hj).1, hj, hl, hb, rfl⟩, by simpa using hlt⟩
 have low : ∀ x ∈ ts, now ≤ x := fun x hx => by
  rcases (memT x).1 hx with e | ⟨i, j, _, _, _, hlt, rfl⟩ <;> omega
 have hnow := low r (List.mem_of_getElem? hq)
 have hR : RoomAt L nodes r width wall but := by
  by_cases hl : q + 1 < ts.length
  ·have := h1 hl
   rw [roomT_room] at this
   exact (room_iff L nodes r width wall but hw hwl).1 this
  ·intro s hs1 _
   have : used L s but = 0 := usedN_zero L s but (fun i j hj hlv hb => by
    by_cases hst : now < j.stop
    ·obtain ⟨p, hp1, hp2⟩ := List.getElem_of_mem ((memT j.stop).2 (Or.inr ⟨i, j, hj, hlv, hb, hst, rfl⟩))
     have := hs p q j.stop r (by omega) (by simp [hp1, hp2]) hq
     omega
    ·omega) L.length
   omega
 obtain ⟨e1, e2, e3⟩ := earliest_spec L nodes now width wall but hw h0 hwl r hnow hR
 have hb := room_back L nodes now _ width wall but hw e1 hwl e3
 obtain ⟨f1, f2, f3, f4⟩ := endN_spec L now (earliest L nodes now width wall but) but e1 L.length
 generalize endN L now (earliest L nodes now width wall but) but L.length = x at *
 have hx : x ∈ ts := (memT x).2 f3
 obtain ⟨p, hp1, hp2⟩ := List.getElem_of_mem hx
 have hpx : ts[p]? = some x := by simp [hp1, hp2]
 have hrx : roomT (resN L but L.length) nodes width x wall = true := by
  rw [roomT_room]
  exact (room_iff L nodes x width wall but hw hwl).2 hb
 by_cases hpq : p < q
 ·have := h2 p x hpq hpx
  rw [hrx] at this
  simp at this
 ·have := hs q p r x (by omega) hq hpx
  omega

end Go.Proofs.YtpcgnadfldimhaaGreatDoor
namespace Go.Proofs.YtpcgnadfldimhaaGreatDoor

/-- The live ones of the first k jobs. -/
def seatsN (L : List Job) : Nat → List (Int × Int)
 | 0 => []
 | k + 1 => match L[k]? with
  | some j => if j.live = true then seatsN L k ++ [((k : Int) + 1, j.width)] else seatsN L k
  | none => seatsN L k
def seats (L : List Job) : List (Int × Int) := seatsN L L.length

theorem mem_seatsN (L : List Job) (s : Int × Int) : ∀ k, s ∈ seatsN L k ↔ ∃ (i : Nat) (j : Job), i < k ∧ L[i]? = some j ∧ j.live = true ∧ s = ((i : Int) + 1, j.width)
 | 0 => by simp [seatsN]
 | k + 1 => by
  have ih := mem_seatsN L s k
  unfold seatsN
  cases e : L[k]? with
  | none =>
   simp only
   rw [ih]
   constructor
   ·rintro ⟨i, j, h1, h2⟩; exact ⟨i, j, by omega, h2⟩
   ·rintro ⟨i, j, h1, h2, h3⟩
    have : i ≠ k := fun e2 => by subst e2; rw [e] at h2; simp at h2
    exact ⟨i, j, by omega, h2, h3⟩
  | some a =>
   simp only
   split
   ·rename_i hc
    rw [List.mem_append, ih, List.mem_singleton]
    constructor
    ·rintro (⟨i, j, h1, h2⟩ | rfl)
     ·exact ⟨i, j, by omega, h2⟩
     ·exact ⟨k, a, by omega, e, hc, rfl⟩
    ·rintro ⟨i, j, h1, h2, h3, h5⟩
     by_cases hk : i = k
     ·subst hk
      obtain rfl := Option.some.inj (e.symm.trans h2)
      exact Or.inr h5
     ·exact Or.inl ⟨i, j, by omega, h2, h3, h5⟩
   ·rename_i hc
    rw [ih]
    constructor
    ·rintro ⟨i, j, h1, h2⟩; exact ⟨i, j, by omega, h2⟩
    ·rintro ⟨i, j, h1, h2, h3, h5⟩
     have : i ≠ k := fun e2 => by
      subst e2
      obtain rfl := Option.some.inj (e.symm.trans h2)
      exact hc h3
     exact ⟨i, j, by omega, h2, h3, h5⟩

/-- The seat at m is a live job's. -/
theorem seats_at (L : List Job) (m : Nat) (s : Int × Int) (h : (seats L)[m]? = some s) : ∃ (i : Nat) (j : Job), L[i]? = some j ∧ j.live = true ∧ s = ((i : Int) + 1, j.width) := by
 obtain ⟨i, j, _, h1, h2, h3⟩ := (mem_seatsN L s _).1 (List.mem_of_getElem? h)
 exact ⟨i, j, h1, h2, h3⟩

theorem seatsN_len (L : List Job) : ∀ k, (seatsN L k).length = liveN L k
 | 0 => rfl
 | k + 1 => by
  have ih := seatsN_len L k
  unfold seatsN liveN
  cases L[k]? with
  | none => exact ih
  | some a => simp only; split <;> simp [*]

def recOf (L : List Job) (id : Int) : Job := L.getD (id - 1).toNat ⟨0, 0, 0, 0, 0⟩
theorem recOf_at {L : List Job} {i : Nat} {j : Job} (h : L[i]? = some j) : recOf L ((i : Int) + 1) = j := by
 simp [recOf, h]

/-- The reservations that a list of seats stands for, but one's. -/
def resS (L : List Job) (but : Int) (S : List (Int × Int)) : List Res := S.filterMap fun s => if s.1 = but + 1 then none else some ⟨s.2, (recOf L s.1).start, (recOf L s.1).stop⟩
theorem resS_step (L : List Job) (but : Int) (S : List (Int × Int)) (m i : Nat) (j : Job) (h : S[m]? = some ((i : Int) + 1, j.width)) (hj : L[i]? = some j) : resS L but (S.take (m + 1)) = if (i : Int) = but then resS L but (S.take m) else resS L but (S.take m) ++ [⟨j.width, j.start, j.stop⟩] := by
 have hlt := (List.getElem?_eq_some_iff.1 h).1
 rw [List.take_add_one, h, resS, List.filterMap_append]
 simp only [Option.toList_some, List.filterMap_cons, List.filterMap_nil]
 by_cases e : (i : Int) = but
 ·rw [if_pos e]; simp [e, resS]
 ·rw [if_neg e, if_neg (by omega), recOf_at hj]; simp [resS]
theorem resS_seats (L : List Job) (but : Int) : ∀ k, resS L but (seatsN L k) = resN L but k
 | 0 => rfl
 | k + 1 => by
  have ih := resS_seats L but k
  unfold seatsN resN
  cases e : L[k]? with
  | none => exact ih
  | some a =>
   simp only
   by_cases hl : a.live = true
   ·rw [if_pos hl, resS, List.filterMap_append]
    simp only [List.filterMap_cons, List.filterMap_nil]
    by_cases e2 : (k : Int) = but
    ·rw [if_pos (by omega), if_neg (fun h => h.2 e2), List.append_nil]; exact ih
    ·rw [if_neg (by omega), if_pos ⟨hl, e2⟩, recOf_at e]
     exact congrArg (· ++ _) ih
   ·rw [if_neg hl, if_neg (fun h => hl h.1)]; exact ih

/-- How many nodes the running ones among some seats leave. -/
def freeS (L : List Job) (nodes : Int) (S : List (Int × Int)) : Int := S.foldl (fun f s => if (recOf L s.1).phase = 2 then f - s.2 else f) nodes
theorem freeS_step (L : List Job) (nodes : Int) (S : List (Int × Int)) (m i : Nat) (j : Job) (h : S[m]? = some ((i : Int) + 1, j.width)) (hj : L[i]? = some j) : freeS L nodes (S.take (m + 1)) = if j.phase = 2 then freeS L nodes (S.take m) - j.width else freeS L nodes (S.take m) := by
 rw [List.take_add_one, h, freeS, List.foldl_append]
 simp only [Option.toList_some, List.foldl_cons, List.foldl_nil, recOf_at hj]
 rfl
theorem freeS_seats (L : List Job) (nodes : Int) : ∀ k, freeS L nodes (seatsN L k) = freeN L nodes k
 | 0 => rfl
 | k + 1 => by
  have ih := freeS_seats L nodes k
  unfold seatsN freeN
  cases e : L[k]? with
  | none => exact ih
  | some a =>
   simp only
   by_cases hl : a.live = true
   ·rw [if_pos hl, freeS, List.foldl_append]
    simp only [List.foldl_cons, List.foldl_nil, recOf_at e]
    rw [show List.foldl _ nodes (seatsN L k) = freeN L nodes k from ih]
   ·rw [if_neg hl, ih, if_neg (fun e2 => hl (by simp [Job.live, liveB, e2]))]

/-- The queued ones among some seats. -/
def rowsS (L : List Job) (S : List (Int × Int)) : List RowV := S.filterMap fun s => if (recOf L s.1).phase = 1 then some ⟨s.1, (recOf L s.1).start, s.2, (recOf L s.1).stop - (recOf L s.1).start⟩ else none
theorem rowsS_step (L : List Job) (S : List (Int × Int)) (m i : Nat) (j : Job) (h : S[m]? = some ((i : Int) + 1, j.width)) (hj : L[i]? = some j) : rowsS L (S.take (m + 1)) = if j.phase = 1 then rowsS L (S.take m) ++ [⟨(i : Int) + 1, j.start, j.width, j.stop - j.start⟩] else rowsS L (S.take m) := by
 rw [List.take_add_one, h, rowsS, List.filterMap_append]
 simp only [Option.toList_some, List.filterMap_cons, List.filterMap_nil, recOf_at hj]
 by_cases e : j.phase = 1
 ·rw [if_pos e, if_pos e]; rfl
 ·rw [if_neg e, if_neg e]; simp [rowsS]
theorem rowsS_len (L : List Job) (S : List (Int × Int)) : (rowsS L S).length ≤ S.length := List.length_filterMap_le _ _
theorem resS_len (L : List Job) (but : Int) (S : List (Int × Int)) : (resS L but S).length ≤ S.length := List.length_filterMap_le _ _

theorem seatsN_append (L : List Job) (a : Job) : ∀ k, k ≤ L.length → seatsN (L ++ [a]) k = seatsN L k
 | 0, _ => rfl
 | k + 1, hk => by
  have ih := seatsN_append L a k (by omega)
  unfold seatsN
  rw [List.getElem?_append_left (by omega), ih]
theorem seats_add (L : List Job) (a : Job) (ha : a.live = true) : seats (L ++ [a]) = seats L ++ [((L.length : Int) + 1, a.width)] := by
 unfold seats
 rw [List.length_append, List.length_singleton, seatsN, List.getElem?_append_right (Nat.le_refl _)]
 simp [ha, seatsN_append L a L.length (Nat.le_refl _)]

theorem seatsN_set (L : List Job) (i : Nat) (j a : Job) (hj : L[i]? = some j) (hl : a.live = j.live) (hw : a.width = j.width) : ∀ k, seatsN (L.set i a) k = seatsN L k
 | 0 => rfl
 | k + 1 => by
  have ih := seatsN_set L i j a hj hl hw k
  unfold seatsN
  rw [List.getElem?_set, ih]
  by_cases e : i = k
  ·subst e
   rw [if_pos rfl, if_pos (List.getElem?_eq_some_iff.1 hj).1, hj]
   simp [hl, hw]
  ·rw [if_neg e]
theorem seats_set (L : List Job) (i : Nat) (j a : Job) (hj : L[i]? = some j) (hl : a.live = j.live) (hw : a.width = j.width) : seats (L.set i a) = seats L := by
 unfold seats
 rw [List.length_set]
 exact seatsN_set L i j a hj hl hw L.length

theorem seatsN_leave (L : List Job) (i : Nat) (a : Job) (hi : i < L.length) (hl : a.live = false) : ∀ k, seatsN (L.set i a) k = (seatsN L k).filter fun s => !decide (s.1 = (i : Int) + 1)
 | 0 => rfl
 | k + 1 => by
  have ih := seatsN_leave L i a hi hl k
  unfold seatsN
  rw [List.getElem?_set, ih]
  by_cases e : i = k
  ·subst e
   rw [if_pos rfl, if_pos hi]
   simp only [hl]
   cases e2 : L[i]? with
   | none => simp
   | some b =>
    by_cases e3 : b.live = true
    ·simp [e3]
    ·simp [e3]
  ·rw [if_neg e]
   cases e2 : L[k]? with
   | none => rfl
   | some b =>
    by_cases e3 : b.live = true
    ·have h1 : decide (((k : Int) + 1, b.width).1 = (i : Int) + 1) = false := by
      rw [decide_eq_false_iff_not]
      simp only
      omega
     simp only [e3, if_true]
     rw [List.filter_append, List.filter_cons, h1]
     simp
    ·simp [e3]
theorem seats_leave (L : List Job) (i : Nat) (a : Job) (hi : i < L.length) (hl : a.live = false) : seats (L.set i a) = (seats L).filter fun s => !decide (s.1 = (i : Int) + 1) := by
 unfold seats
 rw [List.length_set]
 exact seatsN_leave L i a hi hl L.length

end Go.Proofs.YtpcgnadfldimhaaGreatDoor
namespace Go.Proofs.YtpcgnadfldimhaaGreatDoor

theorem goes_on (fin : Int) (L : List Job) : ∀ (n : Nat) (M : List Job) (es : List Ev), Goes fin L M es → todo M ≤ n → ∃ M' es', Goes fin L M' es' ∧ nextN M' fin M'.length < 0
 | n, M, es, hg, hn => by
  by_cases h0 : nextN M fin M.length < 0
  ·exact ⟨M, es, hg, h0⟩
  ·have h1 : 0 ≤ nextN M fin M.length := by omega
   obtain ⟨j, hj, hd⟩ := next_due M fin M.length h1
   have hs := mom_some M (nextN M fin M.length) ⟨j, hj, by omega, hd⟩
   have ht := todo_mom M (nextN M fin M.length)
   match n with
   | 0 => omega
   | n + 1 => exact goes_on fin L n _ _ (.more hg h1) (by omega)

theorem runs_goes {fin : Int} {L M : List Job} {es : List Ev} (hS : Sane L) (h : Runs fin L es M) : Goes fin L M es ∧ nextN M fin M.length < 0 := by
 obtain ⟨M', es', hg, h0⟩ := goes_on fin L (todo L) L [] .none (Nat.le_refl _)
 obtain ⟨rfl, rfl⟩ := Runs.unique h (goes_runs hg hS h0)
 exact ⟨hg, h0⟩

theorem map_go_quiet {L : List Job} {now : Int} (hmin : ∀ j ∈ L, j.phase = 1 → now ≤ j.start) (hno : ∀ j ∈ L, j.phase = 2 → now < j.stop) (hS : Sane L) : Quiet now (L.map (Job.go now)) := fun j hj ha => by
 obtain ⟨b, hb, rfl⟩ := List.mem_map.1 hj
 have h1 := hmin b hb
 have h2 := hno b hb
 unfold Job.go at ha ⊢
 split
 ·rename_i h
  have h3 := hS b hb (Or.inl h.1)
  simp [Job.due]
  omega
 ·rename_i h
  rw [if_neg h] at ha
  unfold Job.active at ha
  rcases ha with e | e
  ·simp [Job.due, e]
   have := h1 e
   have : ¬ b.start = now := fun e2 => h ⟨e, e2⟩
   omega
  ·simp [Job.due, e]
   exact h2 e

/-- Where nothing else is due by now, only what is promised for now starts. -/
theorem runs_now {now : Int} {L M : List Job} {es : List Ev} (hmin : ∀ j ∈ L, j.phase = 1 → now ≤ j.start) (hno : ∀ j ∈ L, j.phase = 2 → now < j.stop) (hS : Sane L) (h : Runs now L es M) : es = startE L now L.length ∧ M = L.map (Job.go now) := by
 have hd : ∀ j ∈ L, j.active → now ≤ j.due := fun j hj ha => by
  rcases ha with e | e
  ·simp [Job.due, e]; exact hmin j hj e
  ·simp [Job.due, e]; exact Int.le_of_lt (hno j hj e)
 have hs := start_steps (L := L) (M := L) (es := []) (t := now) (fin := now) .none hd hno hS (Int.le_refl _) L.length (Nat.le_refl _)
 rw [startL_all] at hs
 have := Runs.unique h (hs.runs (.done (map_go_quiet hmin hno hS)))
 simpa using this

end Go.Proofs.YtpcgnadfldimhaaGreatDoor
namespace Go.Proofs.YtpcgnadfldimhaaGreatDoor

def Job.moved (t : Int) (j : Job) : Job := { j with start := t, stop := t + j.wall }
/-- One job's turn: does it move, and what is told of it. -/
def turnL (nodes now : Int) (L : List Job) (i : Nat) : List Job :=
 match L[i]? with
 | some j => if j.phase = 1 ∧ earliest L nodes now j.width j.wall i < j.start then L.set i (j.moved (earliest L nodes now j.width j.wall i)) else L
 | none => L
def turnE (nodes now : Int) (L : List Job) (i : Nat) : List Ev :=
 match L[i]? with
 | some j => if j.phase = 1 ∧ earliest L nodes now j.width j.wall i < j.start then [⟨3, (i : Int) + 1, j.start, earliest L nodes now j.width j.wall i⟩] else []
 | none => []
theorem turnL_len (nodes now : Int) (L : List Job) (i : Nat) : (turnL nodes now L i).length = L.length := by
 unfold turnL
 split
 ·split <;> simp
 ·rfl

/-- The first k jobs' turns, one after the other. -/
def roundL (nodes now : Int) (L : List Job) : Nat → List Job
 | 0 => L
 | k + 1 => turnL nodes now (roundL nodes now L k) k
def roundE (nodes now : Int) (L : List Job) : Nat → List Ev
 | 0 => []
 | k + 1 => roundE nodes now L k ++ turnE nodes now (roundL nodes now L k) k
theorem roundL_len (nodes now : Int) (L : List Job) : ∀ k, (roundL nodes now L k).length = L.length
 | 0 => rfl
 | k + 1 => by rw [roundL, turnL_len, roundL_len nodes now L k]
theorem turn_none {nodes now : Int} {L : List Job} {i : Nat} (h : turnE nodes now L i = []) : turnL nodes now L i = L := by
 unfold turnE at h
 unfold turnL
 split
 ·rename_i j hj
  rw [hj] at h
  simp only at h
  split
  ·rename_i hc
   rw [if_pos hc] at h
   simp at h
  ·rfl
 ·rfl
theorem round_none {nodes now : Int} {L : List Job} : ∀ k, roundE nodes now L k = [] → roundL nodes now L k = L
 | 0, _ => rfl
 | k + 1, h => by
  rw [roundE, List.append_eq_nil_iff] at h
  rw [roundL, turn_none h.2]
  exact round_none k h.1
theorem roundE_le (nodes now : Int) (L : List Job) : ∀ k, (roundE nodes now L k).length ≤ k
 | 0 => by simp [roundE]
 | k + 1 => by
  have ih := roundE_le nodes now L k
  have : (turnE nodes now (roundL nodes now L k) k).length ≤ 1 := by
   unfold turnE
   split
   ·split <;> simp
   ·simp
  rw [roundE, List.length_append]
  omega

/-- Rounds in which something moved. -/
inductive Moves (nodes now : Int) (L : List Job) : List Job → List Ev → Prop
 | none : Moves nodes now L L []
 | more {M : List Job} {es : List Ev} (h : Moves nodes now L M es) (hn : roundE nodes now M M.length ≠ []) : Moves nodes now L (roundL nodes now M M.length) (es ++ roundE nodes now M M.length)

/-- Round after round, until one in which nothing moves. -/
inductive Rounds (nodes now : Int) : List Job → List Ev → List Job → Prop
 | done {L : List Job} (h : roundE nodes now L L.length = []) : Rounds nodes now L [] L
 | more {L M : List Job} {es : List Ev} (h : roundE nodes now L L.length ≠ []) (hr : Rounds nodes now (roundL nodes now L L.length) es M) : Rounds nodes now L (roundE nodes now L L.length ++ es) M

theorem Rounds.unique {nodes now : Int} {L M : List Job} {es : List Ev} (h : Rounds nodes now L es M) : ∀ {es' : List Ev} {M' : List Job}, Rounds nodes now L es' M' → es = es' ∧ M = M' := by
 induction h with
 | done h =>
  intro es' M' h'
  cases h' with
  | done _ => exact ⟨rfl, rfl⟩
  | more h2 _ => exact absurd h h2
 | more h _ ih =>
  intro es' M' h'
  cases h' with
  | done h2 => exact absurd h2 h
  | more _ hr =>
   obtain ⟨rfl, rfl⟩ := ih hr
   exact ⟨rfl, rfl⟩
theorem Moves.rounds {nodes now : Int} {L M N : List Job} {es ds : List Ev} (h : Moves nodes now L M es) : Rounds nodes now M ds N → Rounds nodes now L (es ++ ds) N := by
 induction h generalizing ds with
 | none => intro h; simpa using h
 | more h hn ih =>
  intro hr
  rw [List.append_assoc]
  exact ih (.more hn hr)

/-- How far off the promises are, all together. -/
def Job.off (now : Int) (j : Job) : Nat := if j.phase = 1 then (j.start - now).toNat else 0
def offs (now : Int) (L : List Job) : Nat := (L.map (Job.off now)).sum
theorem offs_set (now : Int) : ∀ (L : List Job) (k : Nat) (j j' : Job), L[k]? = some j → offs now (L.set k j') + j.off now = offs now L + j'.off now
 | [], k, j, j', h => by simp at h
 | x :: r, 0, j, j', h => by
  simp at h
  subst h
  simp [offs]
  omega
 | x :: r, k + 1, j, j', h => by
  have ih := offs_set now r k j j' (by simpa using h)
  simp [offs] at ih ⊢
  omega

/-- What a round asks for: every queued job can be there at some time. -/
structure Fine (nodes now : Int) (L : List Job) : Prop where
 now0 : 0 ≤ now
 each : ∀ j ∈ L, 1 ≤ j.width ∧ 1 ≤ j.wall ∧ j.start + j.wall = j.stop ∨ ¬ j.phase = 1 ∧ 1 ≤ j.width
 thin : ∀ j ∈ L, j.width ≤ nodes
 top : ∀ j ∈ L, j.phase = 1 → now ≤ j.start

theorem earliest_ge (L : List Job) (nodes now width wall but : Int) (hw : ∀ j ∈ L, 0 ≤ j.width) (h0 : 0 ≤ now) (hwl : 1 ≤ wall) (hn : width ≤ nodes) : now ≤ earliest L nodes now width wall but ∧ RoomAt L nodes (earliest L nodes now width wall but) width wall but := by
 obtain ⟨t, ht, hT⟩ : ∃ t : Int, now ≤ t ∧ ∀ j ∈ L, j.stop ≤ t := by
  clear hw
  induction L with
  | nil => exact ⟨now, Int.le_refl _, fun j hj => by simp at hj⟩
  | cons a r ih =>
   obtain ⟨t, h1, h2⟩ := ih
   refine ⟨max t a.stop, by omega, fun j hj => ?_⟩
   rcases List.mem_cons.1 hj with rfl | hj
   ·omega
   ·have := h2 j hj
    omega
 have hR : RoomAt L nodes t width wall but := fun s hs _ => by
  have : used L s but = 0 := usedN_zero L s but (fun i j hj _ _ => by have := hT j (List.mem_of_getElem? hj); omega) L.length
  omega
 obtain ⟨a, _, c⟩ := earliest_spec L nodes now width wall but hw h0 hwl t ht hR
 exact ⟨a, c⟩

theorem Fine.set {nodes now : Int} {L : List Job} (h : Fine nodes now L) (i : Nat) (a : Job) (h1 : 1 ≤ a.width ∧ 1 ≤ a.wall ∧ a.start + a.wall = a.stop ∨ ¬ a.phase = 1 ∧ 1 ≤ a.width) (h2 : a.width ≤ nodes) (h3 : a.phase = 1 → now ≤ a.start) : Fine nodes now (L.set i a) :=
 ⟨h.now0, fun j hj => by rcases List.mem_or_eq_of_mem_set hj with e | rfl; exact h.each j e; exact h1, fun j hj => by rcases List.mem_or_eq_of_mem_set hj with e | rfl; exact h.thin j e; exact h2, fun j hj hp => by rcases List.mem_or_eq_of_mem_set hj with e | rfl; exact h.top j e hp; exact h3 hp⟩

theorem Fine.wide {nodes now : Int} {L : List Job} (h : Fine nodes now L) : ∀ j ∈ L, 0 ≤ j.width := fun j hj => by
 rcases h.each j hj with ⟨a, _, _⟩ | ⟨_, a⟩ <;> omega

theorem fine_turn {nodes now : Int} {L : List Job} (h : Fine nodes now L) (i : Nat) : Fine nodes now (turnL nodes now L i) ∧ offs now (turnL nodes now L i) + (turnE nodes now L i).length ≤ offs now L := by
 unfold turnL turnE
 split
 ·rename_i j hj
  split
  ·rename_i hc
   have hm := List.mem_of_getElem? hj
   obtain ⟨a, b, c⟩ : 1 ≤ j.width ∧ 1 ≤ j.wall ∧ j.start + j.wall = j.stop := by
    rcases h.each j hm with e | e
    ·exact e
    ·exact absurd hc.1 e.1
   obtain ⟨g1, _⟩ := earliest_ge L nodes now j.width j.wall i h.wide h.now0 b (h.thin j hm)
   refine ⟨h.set i _ (Or.inl ⟨a, b, rfl⟩) (h.thin j hm) (fun _ => g1), ?_⟩
   have e := offs_set now L i j (j.moved (earliest L nodes now j.width j.wall i)) hj
   have e1 : j.off now = (j.start - now).toNat := by simp [Job.off, hc.1]
   have e2 : (j.moved (earliest L nodes now j.width j.wall i)).off now = (earliest L nodes now j.width j.wall i - now).toNat := by simp [Job.off, Job.moved, hc.1]
   have := hc.2
   simp only [List.length_singleton]
   omega
  ·exact ⟨h, by simp⟩
 ·exact ⟨h, by simp⟩
theorem fine_round {nodes now : Int} {L : List Job} (h : Fine nodes now L) : ∀ k, Fine nodes now (roundL nodes now L k) ∧ offs now (roundL nodes now L k) + (roundE nodes now L k).length ≤ offs now L
 | 0 => ⟨h, by simp [roundL, roundE]⟩
 | k + 1 => by
  obtain ⟨a, b⟩ := fine_round h k
  obtain ⟨c, d⟩ := fine_turn a k
  refine ⟨c, ?_⟩
  rw [roundE, roundL, List.length_append]
  omega
theorem fine_moves {nodes now : Int} {L M : List Job} {es : List Ev} (h : Fine nodes now L) (hm : Moves nodes now L M es) : Fine nodes now M ∧ offs now M + es.length ≤ offs now L ∧ M.length = L.length := by
 induction hm with
 | none => exact ⟨h, by simp, rfl⟩
 | @more M es _ _ ih =>
  obtain ⟨a, b, c⟩ := ih
  obtain ⟨d, e⟩ := fine_round a M.length
  refine ⟨d, ?_, by rw [roundL_len]; exact c⟩
  rw [List.length_append]
  omega

end Go.Proofs.YtpcgnadfldimhaaGreatDoor
namespace Go.Proofs.YtpcgnadfldimhaaGreatDoor

def Fits (nodes now : Int) (L : List Job) : Prop := ∀ t, now ≤ t → used L t (-1) ≤ nodes
def Stable (nodes now : Int) (L : List Job) : Prop := ∀ (i : Nat) (j : Job), L[i]? = some j → j.phase = 1 → ∀ t, now ≤ t → t < j.start → ¬ RoomAt L nodes t j.width j.wall i

theorem onAt_but {j : Job} {t but : Int} {i : Nat} (h : (i : Int) ≠ but) : j.onAt t but i = j.onAt t (-1) i := by
 have h2 : (i : Int) ≠ -1 := by omega
 simp [Job.onAt, h, h2]
theorem onAt_self {j : Job} {t : Int} {i : Nat} : j.onAt t i i = false := by simp [Job.onAt]

/-- Without the job at i: what it takes is less. -/
theorem usedN_but (L : List Job) (t : Int) (i : Nat) (j : Job) (hj : L[i]? = some j) : ∀ k, usedN L t (-1) k = usedN L t i k + (if i < k ∧ j.onAt t (-1) i = true then j.width else 0)
 | 0 => by simp [usedN]
 | k + 1 => by
  have ih := usedN_but L t i j hj k
  by_cases e : i = k
  ·subst e
   rw [usedN_step L t (-1) i j hj, usedN_step L t i i j hj, onAt_self, ih]
   simp
   split <;> simp
  ·cases hk : L[k]? with
   | none =>
    simp only [usedN, hk]
    rw [ih]
    by_cases h2 : i < k
    ·have : i < k + 1 := by omega
     simp [h2, this]
    ·have : ¬ i < k + 1 := by omega
     simp [h2, this]
   | some a =>
    rw [usedN_step L t (-1) k a hk, usedN_step L t i k a hk, onAt_but (j := a) (t := t) (but := (i : Int)) (i := k) (by omega), ih]
    have e2 : (i < k + 1) ↔ (i < k) := by omega
    simp only [e2]
    split <;> omega
theorem used_but (L : List Job) (t : Int) (i : Nat) (j : Job) (hj : L[i]? = some j) : used L t (-1) = used L t i + (if j.onAt t (-1) i = true then j.width else 0) := by
 have h := usedN_but L t i j hj L.length
 have hi := (List.getElem?_eq_some_iff.1 hj).1
 simpa [hi, used] using h
theorem usedN_set (L : List Job) (t : Int) (i : Nat) (a : Job) : ∀ k, usedN (L.set i a) t i k = usedN L t i k
 | 0 => rfl
 | k + 1 => by
  have ih := usedN_set L t i a k
  unfold usedN
  rw [List.getElem?_set, ih]
  by_cases e : i = k
  ·subst e
   rw [if_pos rfl]
   by_cases hi : i < L.length
   ·rw [if_pos hi, List.getElem?_eq_getElem hi]
    simp [onAt_self]
   ·rw [if_neg hi, List.getElem?_eq_none (by omega)]
  ·rw [if_neg e]
theorem used_set (L : List Job) (t : Int) (i : Nat) (j a : Job) (hj : L[i]? = some j) : used (L.set i a) t (-1) = used L t i + (if a.onAt t (-1) i = true then a.width else 0) := by
 have hi := (List.getElem?_eq_some_iff.1 hj).1
 rw [used_but (L.set i a) t i a (by rw [List.getElem?_set, if_pos rfl, if_pos hi]), used, List.length_set, usedN_set, ← used]
theorem usedN_append (L : List Job) (a : Job) (t but : Int) : ∀ k, k ≤ L.length → usedN (L ++ [a]) t but k = usedN L t but k
 | 0, _ => rfl
 | k + 1, hk => by
  have ih := usedN_append L a t but k (by omega)
  unfold usedN
  rw [List.getElem?_append_left (by omega), ih]
theorem used_append (L : List Job) (a : Job) (t but : Int) : used (L ++ [a]) t but = used L t but + (if a.onAt t but L.length = true then a.width else 0) := by
 unfold used
 rw [List.length_append, List.length_singleton, usedN_step _ t but L.length a (by simp), usedN_append L a t but _ (Nat.le_refl _)]
 split <;> omega
theorem used_less (L : List Job) (t : Int) (i : Nat) (j : Job) (hj : L[i]? = some j) (hw : 0 ≤ j.width) : used L t i ≤ used L t (-1) := by
 rw [used_but L t i j hj]
 split <;> omega

theorem fits_submit {nodes now t width wall : Int} {L : List Job} (h : Fits nodes now L) (hR : RoomAt L nodes t width wall (-1)) : Fits nodes now (L ++ [⟨width, wall, 1, t, t + wall⟩]) := fun s hs => by
 rw [used_append]
 have h1 := h s hs
 split
 ·rename_i ho
  simp only [Job.onAt, Bool.and_eq_true, decide_eq_true_eq] at ho
  exact hR s ho.1.2 ho.2
 ·omega
theorem fits_set {nodes now : Int} {L : List Job} {i : Nat} {j a : Job} (h : Fits nodes now L) (hj : L[i]? = some j) (hw : 0 ≤ j.width) (ha : ∀ s, now ≤ s → a.onAt s (-1) i = true → used L s i + a.width ≤ nodes) : Fits nodes now (L.set i a) := fun s hs => by
 rw [used_set L s i j a hj]
 split
 ·rename_i ho
  exact ha s hs ho
 ·have := used_less L s i j hj hw
  have := h s hs
  omega
theorem fits_turn {nodes now : Int} {L : List Job} (h : Fits nodes now L) (hF : Fine nodes now L) (i : Nat) : Fits nodes now (turnL nodes now L i) := by
 unfold turnL
 split
 ·rename_i j hj
  split
  ·rename_i hc
   have hm := List.mem_of_getElem? hj
   obtain ⟨a, b, c⟩ : 1 ≤ j.width ∧ 1 ≤ j.wall ∧ j.start + j.wall = j.stop := by
    rcases hF.each j hm with e | e
    ·exact e
    ·exact absurd hc.1 e.1
   obtain ⟨_, g⟩ := earliest_ge L nodes now j.width j.wall i hF.wide hF.now0 b (hF.thin j hm)
   refine fits_set h hj (by omega) (fun s _ ho => ?_)
   simp only [Job.onAt, Bool.and_eq_true, decide_eq_true_eq] at ho
   exact g s ho.1.2 ho.2
  ·exact h
 ·exact h
/-- Where a round moves nothing no queued job could start earlier. -/
theorem stable_round {nodes now : Int} {L : List Job} (hF : Fine nodes now L) : ∀ k, roundE nodes now L k = [] → ∀ (i : Nat) (j : Job), i < k → L[i]? = some j → j.phase = 1 → ∀ t, now ≤ t → t < j.start → ¬ RoomAt L nodes t j.width j.wall i
 | 0, _, i, j, hi, _, _, _, _, _ => by omega
 | k + 1, h, i, j, hi, hj, hp, t, h1, h2 => by
  rw [roundE, List.append_eq_nil_iff] at h
  have h0 := round_none k h.1
  rw [h0] at h
  by_cases e : i = k
  ·subst e
   intro hR
   have ht := h.2
   unfold turnE at ht
   rw [hj] at ht
   simp only at ht
   have hm := List.mem_of_getElem? hj
   obtain ⟨a, b, c⟩ : 1 ≤ j.width ∧ 1 ≤ j.wall ∧ j.start + j.wall = j.stop := by
    rcases hF.each j hm with e | e
    ·exact e
    ·exact absurd hp e.1
   have := (earliest_spec L nodes now j.width j.wall i hF.wide hF.now0 b t h1 hR).2.1
   rw [if_pos ⟨hp, by omega⟩] at ht
   simp at ht
  ·exact stable_round hF k h.1 i j (by omega) hj hp t h1 h2
theorem stable_done {nodes now : Int} {L : List Job} (hF : Fine nodes now L) (h : roundE nodes now L L.length = []) : Stable nodes now L := fun i j hj hp t h1 h2 =>
 stable_round hF L.length h i j (List.getElem?_eq_some_iff.1 hj).1 hj hp t h1 h2

theorem min_start (P : Job → Prop) : ∀ L : List Job, (∃ j ∈ L, P j) → ∃ (i : Nat) (a : Job), L[i]? = some a ∧ P a ∧ ∀ b ∈ L, P b → a.start ≤ b.start
 | [], ⟨j, hj, _⟩ => by simp at hj
 | x :: r, ⟨j, hj, hp⟩ => by
  by_cases h : ∃ j ∈ r, P j
  ·obtain ⟨i, a, h1, h2, h3⟩ := min_start P r h
   by_cases hx : P x ∧ x.start < a.start
   ·refine ⟨0, x, rfl, hx.1, fun b hb hpb => ?_⟩
    rcases List.mem_cons.1 hb with rfl | hb
    ·exact Int.le_refl _
    ·have := h3 b hb hpb
     omega
   ·refine ⟨i + 1, a, by simpa using h1, h2, fun b hb hpb => ?_⟩
    rcases List.mem_cons.1 hb with rfl | hb
    ·have : ¬ b.start < a.start := fun e => hx ⟨hpb, e⟩
     omega
    ·exact h3 b hb hpb
  ·rcases List.mem_cons.1 hj with rfl | hj
   ·refine ⟨0, j, rfl, hp, fun b hb hpb => ?_⟩
    rcases List.mem_cons.1 hb with rfl | hb
    ·exact Int.le_refl _
    ·exact absurd ⟨b, hb, hpb⟩ h
   ·exact absurd ⟨j, hj, hp⟩ h

/-- So there is no moment without a reservation ahead of the last end. -/
theorem noGap_stable {nodes now : Int} {L : List Job} (hF : Fits nodes now L) (hS : Stable nodes now L) (hE : ∀ j ∈ L, j.live = true → 1 ≤ j.width ∧ 1 ≤ j.wall ∧ j.start + j.wall = j.stop) (hr : ∀ j ∈ L, j.phase = 2 → j.start ≤ now) (hW : ∀ j ∈ L, 0 ≤ j.width) : NoGap L now := fun j hj hl s h1 h2 => by
 apply Classical.byContradiction
 intro hno
 have hun : ∀ a ∈ L, a.live = true → s < a.start ∨ a.stop ≤ s := fun a ha hla => by
  by_cases e : s < a.start
  ·exact Or.inl e
  ·by_cases e2 : a.stop ≤ s
   ·exact Or.inr e2
   ·exact absurd ⟨a, ha, hla, by omega, by omega⟩ hno
 have hjs : s < j.start := by
  rcases hun j hj hl with e | e <;> omega
 obtain ⟨i, a, ha, ⟨hla, hsa⟩, hmin⟩ := min_start (fun a => a.live = true ∧ s < a.start) L ⟨j, hj, hl, hjs⟩
 have hm := List.mem_of_getElem? ha
 have hpa : a.phase = 1 := by
  by_cases e : a.phase = 2
  ·have := hr a hm e
   omega
  ·simp [Job.live, liveB] at hla
   omega
 obtain ⟨w1, w2, w3⟩ := hE a hm hla
 refine hS i a ha hpa s h1 hsa (fun u hu1 hu2 => ?_)
 by_cases hu : u < a.start
 ·have h0 : used L u i = 0 := by
   have : ∀ k, usedN L u i k = 0 := fun k => by
    induction k with
    | zero => rfl
    | succ k ih =>
     unfold usedN
     split
     ·rename_i b hb
      have ho : b.onAt u i k = false := by
       rw [← Bool.not_eq_true]
       intro h3
       simp only [Job.onAt, Bool.and_eq_true, decide_eq_true_eq] at h3
       obtain ⟨⟨⟨o1, o2⟩, o3⟩, o4⟩ := h3
       rcases hun b (List.mem_of_getElem? hb) o1 with e | e
       ·have := hmin b (List.mem_of_getElem? hb) ⟨o1, e⟩
        omega
       ·omega
      simp [ho, ih]
     ·exact ih
   exact this L.length
  have hc := hF a.start (by omega)
  rw [used_but L a.start i a ha] at hc
  have ho : a.onAt a.start (-1) i = true := by
   simp only [Job.onAt, Bool.and_eq_true, decide_eq_true_eq]
   exact ⟨⟨⟨hla, by omega⟩, by omega⟩, by omega⟩
  rw [if_pos ho] at hc
  have : 0 ≤ used L a.start i := by
   have : ∀ k, 0 ≤ usedN L a.start i k := fun k => by
    induction k with
    | zero => simp [usedN]
    | succ k ih =>
     unfold usedN
     split
     ·rename_i b hb
      have := hW b (List.mem_of_getElem? hb)
      split <;> omega
     ·exact ih
   exact this L.length
  omega
 ·have hc := hF u (by omega)
  rw [used_but L u i a ha] at hc
  have ho : a.onAt u (-1) i = true := by
   simp only [Job.onAt, Bool.and_eq_true, decide_eq_true_eq]
   exact ⟨⟨⟨hla, by omega⟩, by omega⟩, by omega⟩
  rw [if_pos ho] at hc
  exact hc

end Go.Proofs.YtpcgnadfldimhaaGreatDoor
namespace Go.Proofs.YtpcgnadfldimhaaGreatDoor

/-- What is true of each job: of one that is live, and of one that is over. -/
def Each (nodes wall top : Int) (L : List Job) : Prop := ∀ j ∈ L, 1 ≤ j.width ∧ j.width ≤ nodes ∧ 0 ≤ j.start ∧ j.start ≤ j.stop ∧ j.stop ≤ top ∧ 1 ≤ j.wall ∧ j.wall ≤ wall ∧ (j.live = true → j.start + j.wall = j.stop)

structure Good (nodes jobs wall last now : Int) (L : List Job) : Prop where
 conf : ConfOk nodes jobs wall last
 now0 : 0 ≤ now
 now1 : now ≤ last
 each : Each nodes wall (last + jobs * wall) L
 fits : Fits nodes now L
 stable : Stable nodes now L
 phased : Phased L now
 few : (liveN L L.length : Int) ≤ jobs

theorem liveN_all (L : List Job) : liveN L L.length = L.countP Job.live := by
 have := liveN_count L L.length (Nat.le_refl _)
 rw [List.take_length] at this
 rw [this, List.countP_eq_length_filter]

theorem active_live {j : Job} : j.active ↔ j.live = true := by simp [Job.active, Job.live, liveB]
theorem Good.sane {nodes jobs wall last now : Int} {L : List Job} (h : Good nodes jobs wall last now L) : Sane L := fun j hj ha => by
 obtain ⟨_, _, h1, _, _, h3, _, h4⟩ := h.each j hj
 have := h4 (active_live.1 ha)
 omega
theorem Good.wide {nodes jobs wall last now : Int} {L : List Job} (h : Good nodes jobs wall last now L) : ∀ j ∈ L, 0 ≤ j.width := fun j hj => by
 have := (h.each j hj).1
 omega
theorem Good.gap {nodes jobs wall last now : Int} {L : List Job} (h : Good nodes jobs wall last now L) : NoGap L now :=
 noGap_stable h.fits h.stable (fun j hj hl => by obtain ⟨a, _, _, _, _, b, _, c⟩ := h.each j hj; exact ⟨a, b, c hl⟩) (fun j hj hp => ((h.phased j hj).2 hp).1) h.wide

theorem good_new {nodes jobs wall last : Int} (h : ConfOk nodes jobs wall last) : Good nodes jobs wall last 0 [] :=
 ⟨h, Int.le_refl _, h.2.2.2.2.2.2.1, fun j hj => by simp at hj, fun t _ => by have := h.1; simp [used, usedN]; omega, fun i j hj => by simp at hj, fun j hj => by simp at hj, by have := h.2.2.1; simp [liveN]; omega⟩

theorem go_same (t : Int) (j : Job) : (j.go t).start = j.start ∧ (j.go t).stop = j.stop ∧ (j.go t).width = j.width ∧ (j.go t).wall = j.wall ∧ (j.go t).live = j.live := by
 unfold Job.go
 split
 ·rename_i h
  exact ⟨rfl, rfl, rfl, rfl, by simp [Job.live, liveB, h.1]⟩
 ·exact ⟨rfl, rfl, rfl, rfl, rfl⟩

theorem each_map {nodes wall top : Int} {L : List Job} (f : Job → Job) (hf : ∀ j, (f j).start = j.start ∧ (f j).stop = j.stop ∧ (f j).width = j.width ∧ (f j).wall = j.wall ∧ ((f j).live = true → j.live = true)) (h : Each nodes wall top L) : Each nodes wall top (L.map f) := fun j hj => by
 obtain ⟨b, hb, rfl⟩ := List.mem_map.1 hj
 obtain ⟨a1, a2, a3, a4, a5⟩ := hf b
 have := h b hb
 rw [a1, a2, a3, a4]
 exact ⟨this.1, this.2.1, this.2.2.1, this.2.2.2.1, this.2.2.2.2.1, this.2.2.2.2.2.1, this.2.2.2.2.2.2.1, fun e => this.2.2.2.2.2.2.2 (a5 e)⟩

/-- Jobs that go on: what is taken from a time on is the same. -/
theorem usedN_map (L : List Job) (f : Job → Job) (t but : Int) (hf : ∀ j ∈ L, (f j).start = j.start ∧ (f j).stop = j.stop ∧ (f j).width = j.width ∧ ((f j).live = true → j.live = true) ∧ (j.live = true → t < j.stop → (f j).live = true)) : ∀ k, usedN (L.map f) t but k = usedN L t but k
 | 0 => rfl
 | k + 1 => by
  have ih := usedN_map L f t but hf k
  unfold usedN
  rw [List.getElem?_map, ih]
  cases e : L[k]? with
  | none => rfl
  | some j =>
   obtain ⟨a1, a2, a3, a4, a5⟩ := hf j (List.mem_of_getElem? e)
   simp only [Option.map_some]
   have : (f j).onAt t but k = j.onAt t but k := by
    rw [Bool.eq_iff_iff]
    simp only [Job.onAt, Bool.and_eq_true, decide_eq_true_eq, a1, a2]
    constructor
    ·rintro ⟨⟨⟨o1, o2⟩, o3⟩, o4⟩; exact ⟨⟨⟨a4 o1, o2⟩, o3⟩, o4⟩
    ·rintro ⟨⟨⟨o1, o2⟩, o3⟩, o4⟩; exact ⟨⟨⟨a5 o1 o4, o2⟩, o3⟩, o4⟩
   rw [this, a3]
theorem used_map (L : List Job) (f : Job → Job) (t but : Int) (hf : ∀ j ∈ L, (f j).start = j.start ∧ (f j).stop = j.stop ∧ (f j).width = j.width ∧ ((f j).live = true → j.live = true) ∧ (j.live = true → t < j.stop → (f j).live = true)) : used (L.map f) t but = used L t but := by
 unfold used
 rw [List.length_map]
 exact usedN_map L f t but hf _
theorem stable_map {nodes now now' : Int} {L : List Job} (f : Job → Job) (h : Stable nodes now L) (hn : now ≤ now') (hf : ∀ j ∈ L, ∀ t, now' ≤ t → (f j).start = j.start ∧ (f j).stop = j.stop ∧ (f j).width = j.width ∧ ((f j).live = true → j.live = true) ∧ (j.live = true → t < j.stop → (f j).live = true)) (hp : ∀ j ∈ L, (f j).phase = 1 → j.phase = 1 ∧ (f j).wall = j.wall) : Stable nodes now' (L.map f) := fun i j hj hp1 t h1 h2 hR => by
 rw [List.getElem?_map] at hj
 obtain ⟨b, hb, rfl⟩ := Option.map_eq_some_iff.1 hj
 have hm := List.mem_of_getElem? hb
 obtain ⟨a1, a2, a3, _, _⟩ := hf b hm t h1
 obtain ⟨p1, p2⟩ := hp b hm hp1
 refine h i b hb p1 t (by omega) (by omega) (fun s hs1 hs2 => ?_)
 have := hR s hs1 (by omega)
 rw [used_map L f s i (fun j hj => hf j hj s (by omega)), a3] at this
 exact this

theorem mom_goes {fin : Int} {L M : List Job} {es : List Ev} (hg : Goes fin L M es) (hf : -1 ≤ fin) : ∃ f : Job → Job, M = L.map f ∧ (∀ j, (f j).start = j.start ∧ (f j).stop = j.stop ∧ (f j).width = j.width ∧ (f j).wall = j.wall ∧ ((f j).live = true → j.live = true) ∧ (j.live = true → fin < j.stop → (f j).live = true) ∧ ((f j).phase = 1 → j.phase = 1)) := by
 induction hg with
 | none => exact ⟨id, by simp, fun j => ⟨rfl, rfl, rfl, rfl, id, fun h _ => h, id⟩⟩
 | @more M es _ hn ih =>
  obtain ⟨f, rfl, h⟩ := ih
  have hle := nextN_le (L.map f) fin hf (L.map f).length
  generalize nextN (L.map f) fin (L.map f).length = u at *
  refine ⟨fun j => ((f j).halt u).go u, by simp [momL], fun j => ?_⟩
  obtain ⟨a1, a2, a3, a4, a5, a6, a7⟩ := h j
  obtain ⟨b1, b2, b3, b4, b5, b6⟩ := mom_same u (f j)
  refine ⟨b1.trans a1, b2.trans a2, b3.trans a3, b4.trans a4, fun e => a5 (b5 e), fun e1 e2 => b6 (a6 e1 e2) (by omega), fun e => a7 ?_⟩
  have e : (((f j).halt u).go u).phase = 1 := e
  unfold Job.go at e
  split at e
  ·simp at e
  ·unfold Job.halt at e
   split at e
   ·simp at e
   ·exact e

theorem good_tick {nodes jobs wall last now n : Int} {L : List Job} {o : Out} (h : Good nodes jobs wall last now L) (hn : 0 ≤ n) (ho : TickO last now L n o) : Good nodes jobs wall last o.now o.L := by
 rcases ho with ⟨_, rfl⟩ | ⟨hle, M, es, hg, hz, rfl⟩
 ·exact h
 ·have h0 := h.now0
  have hp := phased_goes hg h.phased h.sane (by omega) h0 hz
  obtain ⟨f, rfl, hf⟩ := mom_goes hg (by omega)
  have hc : (L.map f).countP Job.live ≤ L.countP Job.live := by
   rw [List.countP_map]
   exact List.countP_mono_left (fun j _ e => (hf j).2.2.2.2.1 e)
  have hw := h.few
  rw [liveN_all] at hw
  refine ⟨h.conf, by show 0 ≤ now + n; omega, hle, each_map f (fun j => ⟨(hf j).1, (hf j).2.1, (hf j).2.2.1, (hf j).2.2.2.1, (hf j).2.2.2.2.1⟩) h.each, fun t ht => ?_, ?_, hp, by show (liveN (L.map f) (L.map f).length : Int) ≤ jobs; rw [liveN_all]; omega⟩
  ·have ht' : now + n ≤ t := ht
   show used (L.map f) t (-1) ≤ nodes
   rw [used_map L f t (-1) (fun j _ => ⟨(hf j).1, (hf j).2.1, (hf j).2.2.1, (hf j).2.2.2.2.1, fun e1 e2 => (hf j).2.2.2.2.2.1 e1 (by omega)⟩)]
   exact h.fits t (by omega)
  ·exact stable_map f h.stable (show now ≤ now + n by omega) (fun j _ t ht => ⟨(hf j).1, (hf j).2.1, (hf j).2.2.1, (hf j).2.2.2.2.1, fun e1 e2 => (hf j).2.2.2.2.2.1 e1 (by have : now + n ≤ t := ht; omega)⟩) (fun j _ e => ⟨(hf j).2.2.2.2.2.2 e, (hf j).2.2.2.1⟩)

/-- What is promised for now starts: all stays true but that what is queued is promised for later. -/
theorem good_starts {nodes jobs wall last now : Int} {L : List Job} (hc : ConfOk nodes jobs wall last) (h0 : 0 ≤ now) (h1 : now ≤ last) (hE : Each nodes wall (last + jobs * wall) L) (hF : Fits nodes now L) (hS : Stable nodes now L) (hp : ∀ j ∈ L, (j.phase = 1 → now ≤ j.start) ∧ (j.phase = 2 → j.start ≤ now ∧ now < j.stop)) (hl : (liveN L L.length : Int) ≤ jobs) : Good nodes jobs wall last now (L.map (Job.go now)) := by
 have hg : ∀ j : Job, ∀ t : Int, (j.go now).start = j.start ∧ (j.go now).stop = j.stop ∧ (j.go now).width = j.width ∧ ((j.go now).live = true → j.live = true) ∧ (j.live = true → t < j.stop → (j.go now).live = true) := fun j t => by
  obtain ⟨a, b, c, d, e⟩ := go_same now j
  exact ⟨a, b, c, fun h => e ▸ h, fun h _ => e.symm ▸ h⟩
 refine ⟨hc, h0, h1, each_map _ (fun j => by obtain ⟨a, b, c, d, e⟩ := go_same now j; exact ⟨a, b, c, d, fun h => e ▸ h⟩) hE, fun t ht => ?_, stable_map _ hS (Int.le_refl _) (fun j _ t _ => hg j t) (fun j _ e => ?_), fun j hj => ?_, ?_⟩
 ·rw [used_map L _ t (-1) (fun j _ => hg j t)]
  exact hF t ht
 ·refine ⟨?_, (go_same now j).2.2.2.1⟩
  unfold Job.go at e
  split at e
  ·simp at e
  ·exact e
 ·obtain ⟨b, hb, rfl⟩ := List.mem_map.1 hj
  obtain ⟨p1, p2⟩ := hp b hb
  obtain ⟨_, _, q1, q2, _, q3, _, q4⟩ := hE b hb
  unfold Job.go
  split
  ·rename_i e
   have := q4 (by simp [Job.live, liveB, e.1])
   simp
   omega
  ·rename_i e
   refine ⟨fun e1 => ?_, p2⟩
   have := p1 e1
   have : ¬ b.start = now := fun e2 => e ⟨e1, e2⟩
   omega
 ·rw [liveN_all, List.countP_map]
  have e : (Job.live ∘ Job.go now) = Job.live := funext fun j => (go_same now j).2.2.2.2
  rw [e, ← liveN_all]
  exact hl

theorem Good.ends {nodes jobs wall last now : Int} {L : List Job} (h : Good nodes jobs wall last now L) (j : Job) (hj : j ∈ L) (hl : j.live = true) : j.stop - now ≤ wall * (liveN L L.length : Int) :=
 noGap_end L now wall h.gap (fun a ha hla => by obtain ⟨_, _, _, q2, _, q3, q4, q5⟩ := h.each a ha; have := q5 hla; omega) j hj hl

theorem stable_submit {nodes now width wall : Int} {L : List Job} (h : Stable nodes now L) (hw : ∀ j ∈ L, 0 ≤ j.width) (hw0 : 0 ≤ width) (h0 : 0 ≤ now) (hwl : 1 ≤ wall) : Stable nodes now (L ++ [⟨width, wall, 1, earliest L nodes now width wall (-1), earliest L nodes now width wall (-1) + wall⟩]) := fun i j hj hp t h1 h2 hR => by
 by_cases hi : i < L.length
 ·rw [List.getElem?_append_left hi] at hj
  refine h i j hj hp t h1 h2 (fun s q1 q2 => ?_)
  have := hR s q1 q2
  rw [used_append] at this
  split at this
  ·simp only at this; omega
  ·omega
 ·have hi2 := (List.getElem?_eq_some_iff.1 hj).1
  simp at hi2
  obtain rfl : i = L.length := by omega
  rw [List.getElem?_append_right (Nat.le_refl _)] at hj
  simp at hj
  subst hj
  simp only at h2 hR
  have : RoomAt L nodes t width wall (-1) := fun s q1 q2 => by
   have := hR s q1 q2
   rw [used_append, onAt_self] at this
   have e : used L s (L.length : Int) = used L s (-1) := by
    unfold used
    have : ∀ k, k ≤ L.length → usedN L s (L.length : Int) k = usedN L s (-1) k := fun k hk => by
     induction k with
     | zero => rfl
     | succ k ih =>
      have ih := ih (by omega)
      cases e : L[k]? with
      | none => simp only [usedN, e]; exact ih
      | some a => rw [usedN_step L s _ k a e, usedN_step L s _ k a e, onAt_but (j := a) (t := s) (but := (L.length : Int)) (i := k) (by omega), ih]
    exact this L.length (Nat.le_refl _)
   rw [e] at this
   simpa using this
  have := (earliest_spec L nodes now width wall (-1) hw h0 hwl t h1 this).2.1
  omega

theorem good_submit {nodes jobs wall last now x y : Int} {L : List Job} (h : Good nodes jobs wall last now L) : Good nodes jobs wall last (submitO nodes jobs wall now L x y).now (submitO nodes jobs wall now L x y).L := by
 unfold submitO
 split
 ·exact h
 split
 ·exact h
 split
 ·exact h
 rename_i h1 h2 h3
 have h0 := h.now0
 have hn1 := h.now1
 obtain ⟨b1, b2, b3, b4, b5, b6, b7, b8⟩ := h.conf
 obtain ⟨s1, s2⟩ := earliest_ge L nodes now x y (-1) h.wide h0 (by omega) (by omega)
 have hat := earliest_at L nodes now x y (-1) h0
 have hSt := stable_submit (width := x) (wall := y) h.stable h.wide (by omega) h0 (by omega)
 generalize earliest L nodes now x y (-1) = t at *
 have hat2 : t = now ∨ (now < t ∧ ∃ j ∈ L, j.live = true ∧ t = j.stop) := by
  rcases hat with e | e | e
  ·exact Or.inl e
  ·omega
  ·exact Or.inr e
 have hlive := h.few
 have hend : t + y ≤ last + jobs * wall := by
  have hk : wall * ((liveN L L.length : Int) + 1) ≤ wall * jobs := Int.mul_le_mul_of_nonneg_left (by omega) (by omega)
  rw [Int.mul_add, Int.mul_one] at hk
  have hc : jobs * wall = wall * jobs := Int.mul_comm _ _
  have hz : 0 ≤ wall * (liveN L L.length : Int) := Int.mul_nonneg (by omega) (by omega)
  rcases hat2 with e | ⟨_, j, hj, hl, e⟩
  ·omega
  ·have := h.ends j hj hl
   omega
 refine good_starts h.conf h0 hn1 (fun j hj => ?_) (fits_submit h.fits s2) hSt (fun j hj => ?_) ?_
 ·rcases List.mem_append.1 hj with hj | hj
  ·exact h.each j hj
  ·simp at hj
   subst hj
   refine ⟨?_, ?_, ?_, ?_, ?_, ?_, ?_, ?_⟩ <;> simp <;> omega
 ·rcases List.mem_append.1 hj with hj | hj
  ·have := h.phased j hj
   exact ⟨fun e => Int.le_of_lt (this.1 e), this.2⟩
  ·simp at hj
   subst hj
   simp
   exact s1
 ·rw [liveN_all, List.countP_append, ← liveN_all]
  simp [Job.live, liveB]
  omega

end Go.Proofs.YtpcgnadfldimhaaGreatDoor
namespace Go.Proofs.YtpcgnadfldimhaaGreatDoor

/-- A job that ends now, ahead of its time. -/
def Job.early (now ph : Int) (j : Job) : Job := { j with phase := ph, start := if j.phase = 1 then now else j.start, stop := now }
/-- What Cancel (kind 2) and Done (kind 3) answer. -/
def EndO (nodes now : Int) (L : List Job) (kind id : Int) (o : Out) : Prop :=
 ((id < 1 ∨ (L.length : Int) < id) ∧ o = ⟨5, 0, 0, 0, [], [], now, L⟩) ∨
 ∃ (i : Nat) (j : Job), id = (i : Int) + 1 ∧ L[i]? = some j ∧
  (((j.live = false ∨ (kind = 3 ∧ j.phase ≠ 2)) ∧ o = ⟨6, 0, 0, 0, [], [], now, L⟩) ∨
   (j.live = true ∧ (kind = 3 → j.phase = 2) ∧ ∃ M es, Rounds nodes now (L.set i (j.early now (if kind = 3 then 3 else 5))) es M ∧ o = ⟨0, 0, 0, 0, [], es ++ startE M now M.length, now, M.map (Job.go now)⟩))

/-- What stays true while jobs move up. -/
structure Calm (nodes jobs wall last now : Int) (L : List Job) : Prop where
 each : Each nodes wall (last + jobs * wall) L
 fits : Fits nodes now L
 phased : ∀ j ∈ L, (j.phase = 1 → now ≤ j.start) ∧ (j.phase = 2 → j.start ≤ now ∧ now < j.stop)
 few : (liveN L L.length : Int) ≤ jobs

theorem Calm.fine {nodes jobs wall last now : Int} {L : List Job} (h : Calm nodes jobs wall last now L) (h0 : 0 ≤ now) : Fine nodes now L :=
 ⟨h0, fun j hj => by
  obtain ⟨a, _, _, _, _, b, _, c⟩ := h.each j hj
  by_cases e : j.phase = 1
  ·exact Or.inl ⟨a, b, c (by simp [Job.live, liveB, e])⟩
  ·exact Or.inr ⟨e, a⟩, fun j hj => (h.each j hj).2.1, fun j hj => (h.phased j hj).1⟩

theorem calm_turn {nodes jobs wall last now : Int} {L : List Job} (h : Calm nodes jobs wall last now L) (h0 : 0 ≤ now) (i : Nat) : Calm nodes jobs wall last now (turnL nodes now L i) := by
 have hF := h.fine h0
 refine ⟨fun j hj => ?_, fits_turn h.fits hF i, fun j hj => ?_, ?_⟩
 ·unfold turnL at hj
  split at hj
  ·rename_i a ha
   split at hj
   ·rename_i hc
    rcases List.mem_or_eq_of_mem_set hj with hj | rfl
    ·exact h.each j hj
    ·obtain ⟨a1, a2, a3, a4, a5, a6, a7, a8⟩ := h.each a (List.mem_of_getElem? ha)
     have := a8 (by simp [Job.live, liveB, hc.1])
     obtain ⟨g, _⟩ := earliest_ge L nodes now a.width a.wall i hF.wide h0 a6 a2
     have := hc.2
     refine ⟨a1, a2, ?_, ?_, ?_, a6, a7, fun _ => rfl⟩ <;> simp only [Job.moved] <;> omega
   ·exact h.each j hj
  ·exact h.each j hj
 ·unfold turnL at hj
  split at hj
  ·rename_i a ha
   split at hj
   ·rename_i hc
    rcases List.mem_or_eq_of_mem_set hj with hj | rfl
    ·exact h.phased j hj
    ·obtain ⟨_, a2, _, _, _, a6, _⟩ := h.each a (List.mem_of_getElem? ha)
     obtain ⟨g, _⟩ := earliest_ge L nodes now a.width a.wall i hF.wide h0 a6 a2
     refine ⟨fun _ => g, fun e => ?_⟩
     have : a.phase = 2 := e
     have := hc.1
     omega
   ·exact h.phased j hj
  ·exact h.phased j hj
 ·have : liveN (turnL nodes now L i) (turnL nodes now L i).length = liveN L L.length := by
   rw [← seatsN_len, ← seatsN_len]
   unfold turnL
   split
   ·rename_i a ha
    split
    ·exact congrArg List.length (seats_set L i a _ ha rfl rfl)
    ·rfl
   ·rfl
  rw [this]
  exact h.few
theorem calm_round {nodes jobs wall last now : Int} {L : List Job} (h : Calm nodes jobs wall last now L) (h0 : 0 ≤ now) : ∀ k, Calm nodes jobs wall last now (roundL nodes now L k)
 | 0 => h
 | k + 1 => calm_turn (calm_round h h0 k) h0 k

theorem good_rounds {nodes jobs wall last now : Int} {L M : List Job} {es : List Ev} (h : Calm nodes jobs wall last now L) (h0 : 0 ≤ now) (hr : Rounds nodes now L es M) : Calm nodes jobs wall last now M ∧ roundE nodes now M M.length = [] ∧ M.length = L.length := by
 induction hr with
 | done he => exact ⟨h, he, rfl⟩
 | @more L M es _ _ ih =>
  obtain ⟨a, b, c⟩ := ih (calm_round h h0 _)
  exact ⟨a, b, by rw [c, roundL_len]⟩

theorem calm_early {nodes jobs wall last now ph : Int} {L : List Job} {i : Nat} {j : Job} (h : Good nodes jobs wall last now L) (hj : L[i]? = some j) (hl : j.live = true) (hp : ph ≠ 1 ∧ ph ≠ 2) : Calm nodes jobs wall last now (L.set i (j.early now ph)) := by
 have hdead : (j.early now ph).live = false := by simp [Job.early, Job.live, liveB, hp]
 have hm := List.mem_of_getElem? hj
 refine ⟨fun a ha => ?_, fits_set h.fits hj (h.wide j hm) (fun s _ ho => ?_), fun a ha => ?_, ?_⟩
 ·rcases List.mem_or_eq_of_mem_set ha with ha | rfl
  ·exact h.each a ha
  ·obtain ⟨a1, a2, a3, a4, a5, a6, a7, a8⟩ := h.each j hm
   obtain ⟨p1, p2⟩ := h.phased j hm
   have n0 := h.now0
   have n1 := h.now1
   obtain ⟨b1, b2, b3, b4, b5, b6, b7, b8⟩ := h.conf
   have hz : 0 ≤ jobs * wall := Int.mul_nonneg (by omega) (by omega)
   refine ⟨a1, a2, ?_, ?_, ?_, a6, a7, fun e => by rw [hdead] at e; simp at e⟩
   ·simp only [Job.early]; split <;> omega
   ·simp only [Job.early]
    split
    ·omega
    ·rename_i e
     have : j.phase = 2 := by simp [Job.live, liveB] at hl; omega
     have := p2 this
     omega
   ·simp only [Job.early]; omega
 ·simp [Job.onAt, hdead] at ho
 ·rcases List.mem_or_eq_of_mem_set ha with ha | rfl
  ·have := h.phased a ha
   exact ⟨fun e => Int.le_of_lt (this.1 e), this.2⟩
  ·exact ⟨fun e => absurd e hp.1, fun e => absurd e hp.2⟩
 ·have : liveN (L.set i (j.early now ph)) (L.set i (j.early now ph)).length ≤ liveN L L.length := by
   rw [← seatsN_len, ← seatsN_len]
   show (seats (L.set i (j.early now ph))).length ≤ (seats L).length
   rw [seats_leave L i _ (List.getElem?_eq_some_iff.1 hj).1 hdead]
   exact List.length_filter_le _ _
  have := h.few
  omega

theorem good_ends {nodes jobs wall last now kind id : Int} {L : List Job} {o : Out} (h : Good nodes jobs wall last now L) (ho : EndO nodes now L kind id o) : Good nodes jobs wall last o.now o.L ∧ o.L.length = L.length := by
 rcases ho with ⟨_, rfl⟩ | ⟨i, j, rfl, hj, ⟨_, rfl⟩ | ⟨hl, _, M, es, hr, rfl⟩⟩
 ·exact ⟨h, rfl⟩
 ·exact ⟨h, rfl⟩
 ·obtain ⟨c, hd, hlen⟩ := good_rounds (calm_early h hj hl (by split <;> omega)) h.now0 hr
  exact ⟨good_starts h.conf h.now0 h.now1 c.each c.fits (stable_done (c.fine h.now0) hd) c.phased c.few, by simp [hlen]⟩

end Go.Proofs.YtpcgnadfldimhaaGreatDoor
