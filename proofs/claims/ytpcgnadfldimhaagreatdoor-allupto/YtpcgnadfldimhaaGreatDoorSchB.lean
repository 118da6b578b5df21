/-
 PLAIN MATHEMATICS, of no program: Cancel and Done have one answer alone, and its lists have a bound.
-/
import Derived.Test.YtpcgnadfldimhaaGreatDoorRefDD
import Derived.Test.YtpcgnadfldimhaaGreatDoorSchA
namespace Go.Proofs.YtpcgnadfldimhaaGreatDoor

theorem offs_le (now : Int) (c : Nat) : ∀ L : List Job, (∀ j ∈ L, j.live = true → (j.start - now).toNat ≤ c) → offs now L ≤ c * L.countP Job.live
 | [], _ => by simp [offs]
 | j :: r, h => by
  have ih := offs_le now c r (fun a ha => h a (List.mem_cons_of_mem _ ha))
  have hj := h j List.mem_cons_self
  rw [List.countP_cons]
  simp only [offs, List.map_cons, List.sum_cons] at ih ⊢
  by_cases hl : j.live = true
  ·have h1 := hj hl
   have h2 : j.off now ≤ c := by unfold Job.off; split <;> omega
   rw [if_pos hl, Nat.mul_add, Nat.mul_one]
   omega
  ·have h2 : j.off now = 0 := by
    unfold Job.off
    rw [if_neg (fun e => hl (by simp [Job.live, liveB, e]))]
   rw [if_neg hl, Nat.add_zero]
   omega

theorem Good.offs {nodes jobs wall last now : Int} {L : List Job} (h : Good nodes jobs wall last now L) : offs now L ≤ 900000000000 := by
 have hf := h.few
 obtain ⟨_, _, c1, c2, c3, c4, _, _⟩ := h.conf
 have hb : ∀ j ∈ L, j.live = true → (j.start - now).toNat ≤ 30000000000 := fun j hj hl => by
  have e := h.ends j hj hl
  have e1 := (h.each j hj).2.2.2.1
  have e2 : wall * (liveN L L.length : Int) ≤ 1000000000 * 30 := Int.mul_le_mul (by omega) (by omega) (by omega) (by omega)
  omega
 have h1 := offs_le now 30000000000 L hb
 rw [← liveN_all] at h1
 have h2 : liveN L L.length ≤ 30 := by omega
 have h3 : 30000000000 * liveN L L.length ≤ 30000000000 * 30 := Nat.mul_le_mul_left _ h2
 omega

theorem rounds_offs {nodes now : Int} {L M : List Job} {es : List Ev} (hr : Rounds nodes now L es M) : Fine nodes now L → es.length ≤ offs now L := by
 induction hr with
 | done h => intro _; simp
 | @more L M es h hr ih =>
  intro hF
  obtain ⟨f1, f2⟩ := fine_round hF L.length
  have := ih f1
  rw [List.length_append]
  omega

theorem endO_unique {nodes now kind id : Int} {L : List Job} {o o' : Out} (h1 : EndO nodes now L kind id o) (h2 : EndO nodes now L kind id o') : o = o' := by
 rcases h1 with ⟨a, rfl⟩ | ⟨i, j, rfl, hj, h1⟩
 ·rcases h2 with ⟨_, rfl⟩ | ⟨i, j, rfl, hj, _⟩
  ·rfl
  ·have := (List.getElem?_eq_some_iff.1 hj).1; omega
 ·rcases h2 with ⟨a, _⟩ | ⟨i', j', e, hj', h2⟩
  ·have := (List.getElem?_eq_some_iff.1 hj).1; omega
  ·obtain rfl : i = i' := by omega
   obtain rfl := Option.some.inj (hj.symm.trans hj')
   rcases h1 with ⟨a, rfl⟩ | ⟨a, b, M, es, hr, rfl⟩
   ·rcases h2 with ⟨_, rfl⟩ | ⟨a', b', _⟩
    ·rfl
    ·rcases a with a | ⟨a, c⟩
     ·rw [a] at a'; simp at a'
     ·exact absurd (b' a) c
   ·rcases h2 with ⟨a', _⟩ | ⟨_, _, M', es', hr', rfl⟩
    ·rcases a' with a' | ⟨a', c⟩
     ·rw [a'] at a; simp at a
     ·exact absurd (b a') c
    ·obtain ⟨rfl, rfl⟩ := hr.unique hr'
     rfl

theorem offs_early {nodes jobs wall last now ph : Int} {L : List Job} {i : Nat} {j : Job} (h : Good nodes jobs wall last now L) (hj : L[i]? = some j) (hp : ph ≠ 1) : offs now (L.set i (j.early now ph)) ≤ 900000000000 := by
 have h1 := offs_set now L i j (j.early now ph) hj
 have h2 : (j.early now ph).off now = 0 := by simp [Job.off, Job.early, hp]
 have := h.offs
 omega

theorem endO_small {nodes jobs wall last now kind id : Int} {L : List Job} {o : Out} (h : Good nodes jobs wall last now L) (ho : EndO nodes now L kind id o) (hl : L.length < 1000000000) : o.rows.length ≤ 1000000000 ∧ o.evs.length ≤ 1000000000000 := by
 rcases ho with ⟨_, rfl⟩ | ⟨i, j, rfl, hj, ⟨_, rfl⟩ | ⟨hlv, _, M, es, hr, rfl⟩⟩
 ·simp
 ·simp
 ·have hc := calm_early h hj hlv (ph := if kind = 3 then 3 else 5) (by split <;> omega)
  have h1 := rounds_offs hr (hc.fine h.now0)
  have h2 := offs_early h hj (ph := if kind = 3 then 3 else 5) (by split <;> omega)
  have h3 := (good_rounds hc h.now0 hr).2.2
  have h4 := startE_len M now M.length
  rw [List.length_set] at h3
  simp
  omega

end Go.Proofs.YtpcgnadfldimhaaGreatDoor
namespace Go.Proofs.YtpcgnadfldimhaaGreatDoor

theorem turnL_other (nodes now : Int) (L : List Job) (i t : Nat) (h : t ≠ i) : (turnL nodes now L i)[t]? = L[t]? := by
 unfold turnL
 split
 ·split
  ·rw [List.getElem?_set_ne (fun e => h e.symm)]
  ·rfl
 ·rfl
theorem roundL_rest (nodes now : Int) (L : List Job) : ∀ k t, k ≤ t → (roundL nodes now L k)[t]? = L[t]?
 | 0, _, _ => rfl
 | k + 1, t, h => by
  show (turnL nodes now (roundL nodes now L k) k)[t]? = L[t]?
  rw [turnL_other _ _ _ _ _ (by omega)]
  exact roundL_rest nodes now L k t (by omega)
theorem turn_dead {nodes now : Int} {L : List Job} {i : Nat} (h : ∀ a, L[i]? = some a → ¬ a.phase = 1) : turnL nodes now L i = L ∧ turnE nodes now L i = [] := by
 unfold turnL turnE
 cases e : L[i]? with
 | none => exact ⟨rfl, rfl⟩
 | some a =>
  have := h a e
  simp only
  rw [if_neg (fun c => this c.1), if_neg (fun c => this c.1)]
  exact ⟨rfl, rfl⟩
/-- Jobs that aren't queued are passed by. -/
theorem round_skip (nodes now : Int) (L : List Job) (k : Nat) : ∀ n, (∀ t a, k ≤ t → t < k + n → L[t]? = some a → ¬ a.phase = 1) → roundL nodes now L (k + n) = roundL nodes now L k ∧ roundE nodes now L (k + n) = roundE nodes now L k
 | 0, _ => ⟨rfl, rfl⟩
 | n + 1, h => by
  obtain ⟨i1, i2⟩ := round_skip nodes now L k n (fun t a h1 h2 => h t a h1 (by omega))
  have hd := turn_dead (nodes := nodes) (now := now) (L := roundL nodes now L (k + n)) (i := k + n) (fun a ha => h (k + n) a (by omega) (by omega) ((roundL_rest nodes now L (k + n) (k + n) (Nat.le_refl _)) ▸ ha))
  show turnL nodes now (roundL nodes now L (k + n)) (k + n) = _ ∧ roundE nodes now L (k + n) ++ turnE nodes now (roundL nodes now L (k + n)) (k + n) = _
  rw [hd.1, hd.2, List.append_nil]
  exact ⟨i1, i2⟩
theorem turn_seats (nodes now : Int) (L : List Job) (i : Nat) : seats (turnL nodes now L i) = seats L := by
 unfold turnL
 split
 ·rename_i j hj
  split
  ·exact seats_set L i j _ hj rfl rfl
  ·rfl
 ·rfl
theorem round_seats (nodes now : Int) (L : List Job) : ∀ k, seats (roundL nodes now L k) = seats L
 | 0 => rfl
 | k + 1 => by
  show seats (turnL nodes now (roundL nodes now L k) k) = _
  rw [turn_seats, round_seats nodes now L k]

theorem seatsN_grow (L : List Job) (k : Nat) : ∀ n, (seatsN L k) <+: (seatsN L (k + n))
 | 0 => List.prefix_refl _
 | n + 1 => by
  have ih := seatsN_grow L k n
  have e : seatsN L (k + n + 1) = (match L[k + n]? with
   | some j => if j.live = true then seatsN L (k + n) ++ [(((k + n : Nat) : Int) + 1, j.width)] else seatsN L (k + n)
   | none => seatsN L (k + n)) := rfl
  show seatsN L k <+: seatsN L (k + n + 1)
  rw [e]
  split
  ·split
   ·exact ih.trans (List.prefix_append _ _)
   ·exact ih
  ·exact ih
/-- The seat behind those of the first k jobs. -/
theorem seat_next (L : List Job) (k : Nat) (s : Int × Int) : ∀ n, k + n ≤ L.length → (seatsN L (k + n))[(seatsN L k).length]? = some s → ∃ (i : Nat) (j : Job), k ≤ i ∧ i < k + n ∧ L[i]? = some j ∧ j.live = true ∧ s = ((i : Int) + 1, j.width) ∧ (seatsN L (i + 1)).length = (seatsN L k).length + 1 ∧ ∀ t a, k ≤ t → t < i → L[t]? = some a → a.live = false
 | 0, _, h => by
  rw [Nat.add_zero] at h
  have := (List.getElem?_eq_some_iff.1 h).1
  omega
 | n + 1, hk, h => by
  by_cases hl : (seatsN L k).length < (seatsN L (k + n)).length
  ·obtain ⟨r, hr⟩ : ∃ r, (seatsN L (k + n)) ++ r = seatsN L (k + n + 1) := seatsN_grow L (k + n) 1
   have h2 : (seatsN L (k + n))[(seatsN L k).length]? = some s := by
    have h3 : (seatsN L (k + n + 1))[(seatsN L k).length]? = some s := h
    rw [← hr, List.getElem?_append_left hl] at h3
    exact h3
   obtain ⟨i, j, a1, a2, a3⟩ := seat_next L k s n (by omega) h2
   exact ⟨i, j, a1, by omega, a3⟩
  ·have hpre := (seatsN_grow L k n)
   have heq : (seatsN L k).length = (seatsN L (k + n)).length := by have := hpre.length_le; omega
   have hdead : ∀ t a, k ≤ t → t < k + n → L[t]? = some a → a.live = false := fun t a h1 h2 ha => by
    cases e : a.live with
    | false => rfl
    | true =>
     have h4 : (seatsN L (t + 1)).length = (seatsN L t).length + 1 := by
      simp only [seatsN, ha, e, if_true, List.length_append, List.length_singleton]
     have h5 := (seatsN_grow L k (t - k)).length_le
     have h6 := (seatsN_grow L (t + 1) (k + n - (t + 1))).length_le
     rw [show k + (t - k) = t by omega] at h5
     rw [show t + 1 + (k + n - (t + 1)) = k + n by omega] at h6
     omega
   have e0 : L[k + n]? = some L[k + n] := List.getElem?_eq_getElem (by omega)
   have h3 : (seatsN L (k + n + 1))[(seatsN L k).length]? = some s := h
   have hstep : seatsN L (k + n + 1) = if L[k + n].live = true then seatsN L (k + n) ++ [(((k + n : Nat) : Int) + 1, L[k + n].width)] else seatsN L (k + n) := by
    simp only [seatsN, e0]
   by_cases hv : L[k + n].live = true
   ·rw [if_pos hv] at hstep
    rw [hstep, heq, List.getElem?_append_right (Nat.le_refl _)] at h3
    simp at h3
    refine ⟨k + n, L[k + n], by omega, by omega, e0, hv, ?_, ?_, hdead⟩
    ·rw [← h3]
     simp
    ·rw [hstep, List.length_append, heq]
     rfl
   ·rw [if_neg hv] at hstep
    rw [hstep, heq] at h3
    have := (List.getElem?_eq_some_iff.1 h3).1
    omega
/-- Behind the last seat no job is live. -/
theorem seat_last (L : List Job) (k : Nat) (h : (seatsN L k).length = (seats L).length) : ∀ t a, k ≤ t → t < L.length → L[t]? = some a → a.live = false := fun t a h1 h2 ha => by
 cases e : a.live with
 | false => rfl
 | true =>
  have h4 : (seatsN L (t + 1)).length = (seatsN L t).length + 1 := by
   simp only [seatsN, ha, e, if_true, List.length_append, List.length_singleton]
  have h5 := (seatsN_grow L k (t - k)).length_le
  have h6 := (seatsN_grow L (t + 1) (L.length - (t + 1))).length_le
  rw [show k + (t - k) = t by omega] at h5
  rw [show t + 1 + (L.length - (t + 1)) = L.length by omega] at h6
  have h7 : (seats L).length = (seatsN L L.length).length := rfl
  omega

end Go.Proofs.YtpcgnadfldimhaaGreatDoor
namespace Go.Proofs.YtpcgnadfldimhaaGreatDoor

/-- What Do answers. -/
def DoE (nodes jobs wall last now : Int) (L : List Job) (k x y : Int) (o : Out) : Prop :=
 DoO nodes jobs wall last now L k x y o ∨ (rendOk k x y = true ∧ (k = 2 ∨ k = 3) ∧ EndO nodes now L k x o)

theorem doO_not {nodes jobs wall last now k x y : Int} {L : List Job} {o : Out} (h : DoO nodes jobs wall last now L k x y o) (hr : rendOk k x y = true) (hk : k = 2 ∨ k = 3) : False := by
 rcases h with ⟨h, _⟩ | ⟨_, h⟩
 ·rw [hr] at h; simp at h
 ·rcases h with ⟨h, _⟩ | ⟨h, _⟩ | ⟨h, _⟩ | ⟨h, _⟩ | ⟨h, _⟩ | ⟨h, _⟩ <;> omega

theorem doE_unique {nodes jobs wall last now k x y : Int} {L : List Job} {o o' : Out} (h : Good nodes jobs wall last now L) (h1 : DoE nodes jobs wall last now L k x y o) (h2 : DoE nodes jobs wall last now L k x y o') : o = o' := by
 rcases h1 with h1 | ⟨r1, k1, h1⟩ <;> rcases h2 with h2 | ⟨r2, k2, h2⟩
 ·exact doO_unique h h1 h2
 ·exact (doO_not h1 r2 k2).elim
 ·exact (doO_not h2 r1 k1).elim
 ·exact endO_unique h1 h2

theorem doE_small {nodes jobs wall last now k x y : Int} {L : List Job} {o : Out} (h : Good nodes jobs wall last now L) (h1 : DoE nodes jobs wall last now L k x y o) (hl : L.length < 1000000000) : o.rows.length ≤ 1000000000 ∧ o.evs.length ≤ 1000000000000 := by
 rcases h1 with h1 | ⟨_, _, h1⟩
 ·exact doO_small h1 hl
 ·exact endO_small h h1 hl

theorem good_doE {nodes jobs wall last now k x y : Int} {L : List Job} {o : Out} (h : Good nodes jobs wall last now L) (h1 : DoE nodes jobs wall last now L k x y o) : Good nodes jobs wall last o.now o.L ∧ o.L.length ≤ L.length + 1 := by
 rcases h1 with h1 | ⟨_, _, h1⟩
 ·exact good_do h h1
 ·obtain ⟨hG, hl⟩ := good_ends h h1
  exact ⟨hG, by omega⟩

end Go.Proofs.YtpcgnadfldimhaaGreatDoor
