/-
  PLAIN MATHEMATICS: what is written is read as itself; what is refused.
-/
import Derived.Test.YtpcgnadfldimhaaGreatDoorCut
import Derived.Test.YtpcgnadfldimhaaGreatDoorRend
namespace Go.Proofs.YtpcgnadfldimhaaGreatDoor

theorem ba_ext' {a b : ByteArray} (h : a.data.toList = b.data.toList) : a = b := by
  cases a; cases b
  simp only at h
  congr 1
  exact Array.toList_inj.1 h

theorem word_clean (n : Nat) : ∀ c, c ∈ (wordB n).data.toList → c ≠ 32 ∧ c ≠ 10 := by
  unfold wordB
  repeat' split
  all_goals decide

theorem word_inj (j k : Nat) (h1 : 1 ≤ j) (h2 : j ≤ 7) (h3 : 1 ≤ k) (h4 : k ≤ 7) (h : wordB j = wordB k) : j = k := by
  by_cases e : j = k
  · exact e
  · have := wordB_ne j k h1 h2 h3 h4 e
    rw [h] at this
    simp at this

theorem word_nonempty (n : Nat) (h1 : 1 ≤ n) (h7 : n ≤ 7) : (wordB n).data.toList ≠ [] := by
  have hj : n = 1 ∨ n = 2 ∨ n = 3 ∨ n = 4 ∨ n = 5 ∨ n = 6 ∨ n = 7 := by omega
  rcases hj with rfl | rfl | rfl | rfl | rfl | rfl | rfl <;> decide

theorem dig_digit (u : Nat) : isDig (UInt8.ofNat (48 + u % 10)) = true := by
  have h : (UInt8.ofNat (48 + u % 10)).toNat = 48 + u % 10 := by
    rw [UInt8.toNat_ofNat']
    omega
  simp only [isDig, decide_eq_true_eq, h]
  omega

theorem dec_props (k : Nat) : ∀ u, u < 10 ^ k → 1 ≤ k → allDig (Lib.decDigits u) = true ∧ digitsVal (Lib.decDigits u) = u ∧ 1 ≤ (Lib.decDigits u).length ∧ (Lib.decDigits u).length ≤ k := by
  induction k with
  | zero => intro u _ h; omega
  | succ k ih =>
    intro u hu _
    by_cases h : u < 10
    · rw [Lib.decDigits_one h]
      have hd := dig_digit u
      have ht : (UInt8.ofNat (48 + u)).toNat = 48 + u := by rw [UInt8.toNat_ofNat']; omega
      rw [show u % 10 = u from by omega] at hd
      refine ⟨by simp only [allDig, List.all_cons, List.all_nil, hd, Bool.and_self], ?_, by simp, by simp⟩
      simp only [digitsVal, List.foldl_cons, List.foldl_nil, ht]
      omega
    · have hk : 1 ≤ k := by
        rcases Nat.eq_zero_or_pos k with rfl | hp
        · simp at hu; omega
        · exact hp
      obtain ⟨i1, i2, i3, i4⟩ := ih (u / 10) (by rw [Nat.pow_succ] at hu; omega) hk
      rw [Lib.decDigits, dif_neg h]
      have ht : (UInt8.ofNat (48 + u % 10)).toNat = 48 + u % 10 := by rw [UInt8.toNat_ofNat']; omega
      refine ⟨by rw [allDig_snoc, i1, dig_digit]; rfl, ?_, by simp, by simp; omega⟩
      rw [digitsVal_snoc, i2, ht]
      omega

theorem dec_num (u : Nat) (hu : u ≤ 999999999999999999) : numVal ⟨(Lib.decDigits u).toArray⟩ = u := by
  obtain ⟨h1, h2, h3, h4⟩ := dec_props 18 u (by have : (10 : Nat) ^ 18 = 1000000000000000000 := by decide
                                                omega) (by omega)
  unfold numVal
  rw [if_pos ⟨by simpa [ByteArray.size] using h3, by simpa [ByteArray.size] using h4, by simpa using h1⟩]
  simp [h2]

theorem dig_clean (l : List UInt8) (h : allDig l = true) : ∀ c, c ∈ l → c ≠ 32 ∧ c ≠ 10 := by
  intro c hc
  have := List.all_eq_true.1 h c hc
  simp only [isDig, decide_eq_true_eq] at this
  refine ⟨?_, ?_⟩ <;> (intro e; subst e; simp at this)

theorem dec_clean (u : Nat) (hu : u ≤ 999999999999999999) : ∀ c, c ∈ Lib.decDigits u → c ≠ 32 ∧ c ≠ 10 :=
  dig_clean _ (dec_props 18 u (by have : (10 : Nat) ^ 18 = 1000000000000000000 := by decide
                                  omega) (by omega)).1

theorem dec_len18 (u : Nat) (hu : u ≤ 999999999999999999) : (Lib.decDigits u).length ≤ 18 :=
  (dec_props 18 u (by have : (10 : Nat) ^ 18 = 1000000000000000000 := by decide
                      omega) (by omega)).2.2.2

/-- A line out of its pieces: a word, and numbers behind it. -/
theorem pcs_0 (l : List UInt8) (p : List UInt8) (hl : l = p) (h : ∀ c, c ∈ p → c ≠ 32) : pcs ⟨l.toArray⟩ = [⟨p.toArray⟩] := by
  subst hl
  rw [pcs_cut]
  simp [cutL_word _ h]
theorem pcs_1 (l p d : List UInt8) (hl : l = p ++ 32 :: d) (h : ∀ c, c ∈ p → c ≠ 32) (hd : ∀ c, c ∈ d → c ≠ 32) : pcs ⟨l.toArray⟩ = [⟨p.toArray⟩, ⟨d.toArray⟩] := by
  subst hl
  rw [pcs_cut]
  simp [cutL_app _ _ h, cutL_word _ hd]
theorem pcs_2 (l p d f : List UInt8) (hl : l = p ++ 32 :: (d ++ 32 :: f)) (h : ∀ c, c ∈ p → c ≠ 32) (hd : ∀ c, c ∈ d → c ≠ 32) (hf : ∀ c, c ∈ f → c ≠ 32) : pcs ⟨l.toArray⟩ = [⟨p.toArray⟩, ⟨d.toArray⟩, ⟨f.toArray⟩] := by
  subst hl
  rw [pcs_cut]
  simp [cutL_app _ _ h, cutL_app _ _ hd, cutL_word _ hf]
theorem pcs_3 (l p d f r : List UInt8) (hl : l = p ++ 32 :: (d ++ 32 :: (f ++ 32 :: r))) (h : ∀ c, c ∈ p → c ≠ 32) (hd : ∀ c, c ∈ d → c ≠ 32) (hf : ∀ c, c ∈ f → c ≠ 32) (hr : ∀ c, c ∈ r → c ≠ 32) : pcs ⟨l.toArray⟩ = [⟨p.toArray⟩, ⟨d.toArray⟩, ⟨f.toArray⟩, ⟨r.toArray⟩] := by
  subst hl
  rw [pcs_cut]
  simp [cutL_app _ _ h, cutL_app _ _ hd, cutL_app _ _ hf, cutL_word _ hr]

theorem wordB_mk (n : Nat) : (⟨(wordB n).data.toList.toArray⟩ : ByteArray) = wordB n := by
  apply ba_ext'; simp

theorem no_of (s : ByteArray) (n : Nat) (h1 : 1 ≤ n) (h7 : n ≤ 7) (ps : List ByteArray) (hp : pcs s = wordB n :: ps) (hbad : ps.length = numsN n → ¬ (0 ≤ num1 n ps ∧ 0 ≤ num2 n ps)) : ∀ k x y, ¬ Cmd s k x y := by
  rintro k x y ⟨_, hk1, hk7, qs, hq, hl, rfl, rfl, hx, hy⟩
  rw [hp] at hq
  simp only [List.cons.injEq] at hq
  obtain ⟨hw, rfl⟩ := hq
  have := word_inj n k h1 h7 hk1 hk7 hw
  subst this
  exact hbad hl ⟨hx, hy⟩

theorem no_word (s : ByteArray) (p : List UInt8) (ps : List ByteArray) (hp : pcs s = ⟨p.toArray⟩ :: ps) (hw : ∀ k, 1 ≤ k → k ≤ 7 → (wordB k).data.toList ≠ p) : ∀ k x y, ¬ Cmd s k x y := by
  rintro k x y ⟨_, hk1, hk7, qs, hq, hl, rfl, rfl, hx, hy⟩
  rw [hp] at hq
  simp only [List.cons.injEq] at hq
  exact hw k hk1 hk7 (by rw [← hq.1])

theorem numVal_blank (l : List UInt8) : numVal ⟨(l ++ [10]).toArray⟩ = -1 := by
  unfold numVal
  rw [if_neg]
  rintro ⟨_, _, h⟩
  have := List.all_eq_true.1 h 10 (by simp)
  simp [isDig] at this

theorem rend_data {k x y : Int} (h : rendOk k x y = true) : rend k x y = ⟨(rendL k.toNat x y).toArray⟩ := by unfold rend; rw [if_pos h]

theorem rend_parts {k x y : Int} (h : rendOk k x y = true) : ∃ n : Nat, k = n ∧ 1 ≤ n ∧ n ≤ 7 ∧ ((numsN n = 0 ∧ x = 0 ∧ y = 0 ∧ rendL n x y = (wordB n).data.toList) ∨
    (numsN n = 1 ∧ y = 0 ∧ ∃ u : Nat, u ≤ 999999999999999999 ∧ x = u ∧ rendL n x y = (wordB n).data.toList ++ 32 :: Lib.decDigits u) ∨
    (numsN n = 2 ∧ ∃ u v : Nat, u ≤ 999999999999999999 ∧ v ≤ 999999999999999999 ∧ x = u ∧ y = v ∧ rendL n x y = (wordB n).data.toList ++ 32 :: (Lib.decDigits u ++ 32 :: Lib.decDigits v))) := by
  simp only [rendOk, Bool.and_eq_true, decide_eq_true_eq] at h
  obtain ⟨⟨⟨h1, h7⟩, hA⟩, hB⟩ := h
  refine ⟨k.toNat, by omega, by omega, by omega, ?_⟩
  generalize k.toNat = n at *
  rcases numsN_cases n with h0 | h1' | h2
  · rw [h0] at hA hB
    have := fits_false hA
    have := fits_false hB
    subst x y
    exact Or.inl ⟨h0, rfl, rfl, by simp [rendL, h0]⟩
  · rw [h1'] at hA hB
    obtain ⟨u, rfl, hu⟩ := fits_true hA
    have := fits_false hB
    subst y
    exact Or.inr (Or.inl ⟨h1', rfl, u, hu, rfl, by simp [rendL, h1']⟩)
  · rw [h2] at hA hB
    obtain ⟨u, rfl, hu⟩ := fits_true hA
    obtain ⟨v, rfl, hv⟩ := fits_true hB
    exact Or.inr (Or.inr ⟨h2, u, v, hu, hv, rfl, rfl, by simp [rendL, h2]⟩)

theorem mk_size (l : List UInt8) : (⟨l.toArray⟩ : ByteArray).size = l.length := by show l.toArray.size = _; simp

theorem rend_small {k x y : Int} : (rend k x y).size ≤ 50 := by
  by_cases h : rendOk k x y = true
  · rw [rend_data h]
    obtain ⟨n, rfl, h1, h7, hc⟩ := rend_parts h
    have hw : (wordB n).data.toList.length ≤ 6 := by rw [Array.length_toList]; exact word_len n
    rw [Int.toNat_natCast, mk_size]
    rcases hc with ⟨_, rfl, rfl, hl⟩ | ⟨_, rfl, u, hu, rfl, hl⟩ | ⟨_, u, v, hu, hv, rfl, rfl, hl⟩
    · rw [hl]; omega
    · have := dec_len18 u hu
      rw [hl, List.length_append, List.length_cons]; omega
    · have := dec_len18 u hu
      have := dec_len18 v hv
      rw [hl, List.length_append, List.length_cons, List.length_append, List.length_cons]; omega
  · unfold rend
    rw [if_neg h]
    decide

theorem cmd_rend {k x y : Int} (h : rendOk k x y = true) : ∃ n : Nat, k = n ∧ Cmd (rend k x y) n x y := by
  have hsz : (rend k x y).size ≤ 50 := rend_small
  rw [rend_data h] at hsz ⊢
  obtain ⟨n, rfl, h1, h7, hc⟩ := rend_parts h
  rw [Int.toNat_natCast] at hsz ⊢
  refine ⟨n, rfl, by omega, h1, h7, ?_⟩
  have hw := fun c hc => (word_clean n c hc).1
  rcases hc with ⟨hn, rfl, rfl, hl⟩ | ⟨hn, rfl, u, hu, rfl, hl⟩ | ⟨hn, u, v, hu, hv, rfl, rfl, hl⟩
  · exact ⟨[], by rw [pcs_0 _ _ hl hw, wordB_mk], by rw [hn]; rfl, by simp [num1, hn], by simp [num2, hn], by omega, by omega⟩
  · refine ⟨[⟨(Lib.decDigits u).toArray⟩], by rw [pcs_1 _ _ _ hl hw (fun c hc => (dec_clean u hu c hc).1), wordB_mk], by rw [hn]; rfl, ?_, by simp [num2, hn], by omega, by omega⟩
    simp [num1, hn, dec_num u hu]
  · refine ⟨[⟨(Lib.decDigits u).toArray⟩, ⟨(Lib.decDigits v).toArray⟩], by rw [pcs_2 _ _ _ _ hl hw (fun c hc => (dec_clean u hu c hc).1) (fun c hc => (dec_clean v hv c hc).1), wordB_mk], by rw [hn]; rfl, ?_, ?_, by omega, by omega⟩
    · simp [num1, hn, dec_num u hu]
    · simp [num2, hn, dec_num v hv]

theorem app_mk (l : List UInt8) (c : UInt8) : ((⟨l.toArray⟩ : ByteArray) ++ ⟨#[c]⟩) = ⟨(l ++ [c]).toArray⟩ := by
  apply ba_ext'; simp [ByteArray.data_append]
theorem mk_app (l : List UInt8) (c : UInt8) : ((⟨#[c]⟩ : ByteArray) ++ ⟨l.toArray⟩) = ⟨(c :: l).toArray⟩ := by
  apply ba_ext'; simp [ByteArray.data_append]

theorem no_behind {k x y : Int} (h : rendOk k x y = true) : ∀ n a b, ¬ Cmd (rend k x y ++ ⟨#[32]⟩) n a b := by
  rw [rend_data h, app_mk]
  obtain ⟨n, rfl, h1, h7, hc⟩ := rend_parts h
  rw [Int.toNat_natCast]
  have hw := fun c hc => (word_clean n c hc).1
  have hnil : ∀ c : UInt8, c ∈ ([] : List UInt8) → c ≠ 32 := fun c hc => by cases hc
  rcases hc with ⟨hn, rfl, rfl, hl⟩ | ⟨hn, rfl, u, hu, rfl, hl⟩ | ⟨hn, u, v, hu, hv, rfl, rfl, hl⟩
  · exact no_of _ n h1 h7 _ (by rw [hl, pcs_1 _ _ _ rfl hw hnil, wordB_mk]) (fun e => by rw [hn] at e; simp at e)
  · exact no_of _ n h1 h7 _ (by rw [hl, pcs_2 _ _ _ [] (by simp) hw (fun c hc => (dec_clean u hu c hc).1) hnil, wordB_mk]) (fun e => by rw [hn] at e; simp at e)
  · exact no_of _ n h1 h7 _ (by rw [hl, pcs_3 _ _ _ _ [] (by simp) hw (fun c hc => (dec_clean u hu c hc).1) (fun c hc => (dec_clean v hv c hc).1) hnil, wordB_mk]) (fun e => by rw [hn] at e; simp at e)

theorem no_ahead (s : ByteArray) : ∀ n a b, ¬ Cmd ((⟨#[32]⟩ : ByteArray) ++ s) n a b := by
  have hs : s = ⟨s.data.toList.toArray⟩ := by apply ba_ext'; simp
  rw [hs, mk_app]
  refine no_word _ [] _ (by rw [pcs_cut]; simp [cutL]; rfl) (fun k h1 h7 => word_nonempty k h1 h7)

theorem no_line {k x y : Int} (h : rendOk k x y = true) : ∀ n a b, ¬ Cmd (rend k x y ++ ⟨#[10]⟩) n a b := by
  rw [rend_data h, app_mk]
  obtain ⟨n, rfl, h1, h7, hc⟩ := rend_parts h
  rw [Int.toNat_natCast]
  have hw := fun c hc => (word_clean n c hc).1
  have hten : ∀ l : List UInt8, (∀ c, c ∈ l → c ≠ 32) → ∀ c, c ∈ l ++ [10] → c ≠ 32 := fun l hl c hc => by
    rcases List.mem_append.1 hc with h | h
    · exact hl c h
    · simp at h; subst h; decide
  rcases hc with ⟨hn, rfl, rfl, hl⟩ | ⟨hn, rfl, u, hu, rfl, hl⟩ | ⟨hn, u, v, hu, hv, rfl, rfl, hl⟩
  · refine no_word _ ((wordB n).data.toList ++ [10]) [] (by rw [hl, pcs_0 _ _ rfl (hten _ hw)]) (fun j _ _ e => ?_)
    exact (word_clean j 10 (by rw [e]; simp)).2 rfl
  · exact no_of _ n h1 h7 [⟨(Lib.decDigits u ++ [10]).toArray⟩] (by rw [hl, pcs_1 _ _ (Lib.decDigits u ++ [10]) (by simp) hw (hten _ fun c hc => (dec_clean u hu c hc).1), wordB_mk]) (fun _ hh => by
      have := hh.1
      simp only [num1, hn, Nat.zero_lt_one, if_true, List.getD_cons_zero, numVal_blank] at this
      omega)
  · exact no_of _ n h1 h7 [⟨(Lib.decDigits u).toArray⟩, ⟨(Lib.decDigits v ++ [10]).toArray⟩] (by rw [hl, pcs_2 _ _ (Lib.decDigits u) (Lib.decDigits v ++ [10]) (by simp) hw (fun c hc => (dec_clean u hu c hc).1) (hten _ fun c hc => (dec_clean v hv c hc).1), wordB_mk]) (fun _ hh => by
      have := hh.2
      simp [num2, hn, numVal_blank] at this)

theorem ok_of_cmd {s : ByteArray} {n : Nat} {x y : Int} (h : Cmd s n x y) : rendOk n x y = true := by
  obtain ⟨_, h1, h7, ps, _, _, rfl, rfl, hx, hy⟩ := h
  have b1 : fitsB (num1 n ps) (decide (0 < numsN n)) = true := by
    unfold num1 at hx ⊢
    by_cases h : 0 < numsN n
    · simp only [h, if_true] at hx ⊢
      rcases numVal_or (ps.getD 0 ByteArray.empty) with e | e
      · omega
      · simp [fitsB]; exact ⟨e.1, e.2⟩
    · simp [h, fitsB]
  have b2 : fitsB (num2 n ps) (decide (1 < numsN n)) = true := by
    unfold num2 at hy ⊢
    by_cases h : 1 < numsN n
    · simp only [h, if_true] at hy ⊢
      rcases numVal_or (ps.getD 1 ByteArray.empty) with e | e
      · omega
      · simp [fitsB]; exact ⟨e.1, e.2⟩
    · simp [h, fitsB]
  simp [rendOk, b1, b2]
  omega

/-- z noughts. -/
def noughts (z : Nat) : ByteArray := ⟨(List.replicate z (48 : UInt8)).toArray⟩
theorem noughts_size (z : Nat) : (noughts z).size = z := by simp [noughts, ByteArray.size]
theorem noughts_more (z : Nat) : noughts z ++ ⟨#[48]⟩ = noughts (z + 1) := by
  unfold noughts
  rw [app_mk, ← List.replicate_succ']
theorem noughts_dig (z : Nat) : allDig (List.replicate z (48 : UInt8)) = true := by
  unfold allDig
  rw [List.all_eq_true]
  intro c hc
  have := List.eq_of_mem_replicate hc
  subst this
  decide
theorem noughts_val (z : Nat) : digitsVal (List.replicate z (48 : UInt8)) = 0 := by
  induction z with
  | zero => rfl
  | succ z ih => rw [List.replicate_succ', digitsVal_snoc, ih]; decide

theorem tick_seven (z : Nat) (hz : z ≤ 16) : Cmd ((⟨#[84, 73, 67, 75, 32]⟩ : ByteArray) ++ noughts z ++ ⟨#[55]⟩) 4 7 0 := by
  have e : ((⟨#[84, 73, 67, 75, 32]⟩ : ByteArray) ++ noughts z ++ ⟨#[55]⟩) = ⟨(([84, 73, 67, 75] : List UInt8) ++ 32 :: (List.replicate z (48 : UInt8) ++ [55])).toArray⟩ := by
    apply ba_ext'; simp [ByteArray.data_append, noughts]
  have hd : allDig (List.replicate z (48 : UInt8) ++ [55]) = true := by rw [allDig_snoc, noughts_dig]; decide
  have hv : numVal ⟨(List.replicate z (48 : UInt8) ++ [55]).toArray⟩ = 7 := by
    unfold numVal
    rw [if_pos ⟨by simp [ByteArray.size], by simp [ByteArray.size]; omega, by simpa using hd⟩]
    have : digitsVal (List.replicate z (48 : UInt8) ++ [55]) = 7 := by rw [digitsVal_snoc, noughts_val]; decide
    simp [this]
  rw [e]
  refine ⟨by simp [ByteArray.size]; omega, by omega, by omega, [⟨(List.replicate z (48 : UInt8) ++ [55]).toArray⟩], ?_, rfl, ?_, rfl, by omega, by omega⟩
  · rw [pcs_1 _ _ _ rfl (by decide) (fun c hc => (dig_clean _ hd c hc).1)]; rfl
  · simp [num1, numsN, hv]

theorem tick_long (z : Nat) : ∀ n a b, ¬ Cmd ((⟨#[84, 73, 67, 75, 32, 48]⟩ : ByteArray) ++ noughts z ++ ⟨#[48, 48, 48, 48, 48, 48, 48, 48, 48, 48, 48, 48, 48, 48, 48, 48, 48, 55]⟩) n a b := by
  have e : ((⟨#[84, 73, 67, 75, 32, 48]⟩ : ByteArray) ++ noughts z ++ ⟨#[48, 48, 48, 48, 48, 48, 48, 48, 48, 48, 48, 48, 48, 48, 48, 48, 48, 55]⟩) = ⟨(([84, 73, 67, 75] : List UInt8) ++ 32 :: (List.replicate (z + 1) (48 : UInt8) ++ [48, 48, 48, 48, 48, 48, 48, 48, 48, 48, 48, 48, 48, 48, 48, 48, 48, 55])).toArray⟩ := by
    apply ba_ext'; simp [ByteArray.data_append, noughts, List.replicate_succ]
  have hd : allDig (List.replicate (z + 1) (48 : UInt8) ++ [48, 48, 48, 48, 48, 48, 48, 48, 48, 48, 48, 48, 48, 48, 48, 48, 48, 55]) = true := by
    unfold allDig
    rw [List.all_append]
    have := noughts_dig (z + 1)
    unfold allDig at this
    rw [this]; decide
  rw [e]
  exact no_of _ 4 (by omega) (by omega) _ (by rw [pcs_1 _ _ _ rfl (by decide) (fun c hc => (dig_clean _ hd c hc).1)]; rfl) (fun _ hh => by
    have := hh.1
    have hs := numVal_short (⟨(List.replicate (z + 1) (48 : UInt8) ++ [48, 48, 48, 48, 48, 48, 48, 48, 48, 48, 48, 48, 48, 48, 48, 48, 48, 55]).toArray⟩ : ByteArray) (Or.inr (by simp [ByteArray.size]))
    simp only [num1, numsN, List.getD_cons_zero, hs] at this
    simp at this)

theorem first_cmd : Cmd ⟨#[83, 85, 66, 77, 73, 84, 32, 51, 32, 49, 48]⟩ 1 3 10 :=
  ⟨by decide, by omega, by omega, [⟨#[51]⟩, ⟨#[49, 48]⟩], by rw [pcs_cut]; rfl, by decide, by decide, by decide, by omega, by omega⟩
theorem first_rend : rend 1 3 10 = ⟨#[83, 85, 66, 77, 73, 84, 32, 51, 32, 49, 48]⟩ := by
  rw [rend_data (by decide)]
  have h3 : Lib.decDigits 3 = [51] := by rw [Lib.decDigits_one (by omega)]; decide
  have h10 : Lib.decDigits 10 = [49, 48] := by rw [Lib.decDigits_two (by omega) (by omega)]; decide
  have e : rendL (Int.toNat 1) 3 10 = [83, 85, 66, 77, 73, 84, 32, 51, 32, 49, 48] := by
    show (wordB 1).data.toList ++ ((if 0 < numsN 1 then 32 :: Lib.decDigits 3 else []) ++ (if 1 < numsN 1 then 32 :: Lib.decDigits 10 else [])) = _
    rw [h3, h10]; decide
  rw [e]

end Go.Proofs.YtpcgnadfldimhaaGreatDoor
