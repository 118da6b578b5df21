/-
  The statements without the document's answer: used, room.
-/
import Derived.Test.YtpcgnadfldimhaaGreatDoorKepM
namespace Go.Proofs.YtpcgnadfldimhaaGreatDoor
open Go.RowKit

/-- What a run knows is of a size that can be reckoned with. -/
def SizeK (K : List Kj) : Prop := ∀ k ∈ K, 0 ≤ k.width ∧ k.width ≤ 64 ∧ (k.over = false → 0 ≤ k.promise ∧ k.promise ≤ 1000000000000000 ∧ 1 ≤ k.wall ∧ k.wall ≤ 1000000000)
theorem Told.size {now : Int} {K : List Kj} {L : List Job} (h : Told K L) (hG : Good 8 12 30 1000000 now L) : SizeK K := fun k hk => by
  obtain ⟨i, hi⟩ := List.mem_iff_getElem?.1 hk
  have hl := (List.getElem?_eq_some_iff.1 hi).1
  have hlen := h.len
  obtain ⟨j, hj⟩ : ∃ j, L[i]? = some j := ⟨_, List.getElem?_eq_getElem (by omega)⟩
  have hn := h.each i k j hi hj
  obtain ⟨w1, w2, _⟩ := hG.each j (List.mem_of_getElem? hj)
  have hov := hn.over
  refine ⟨by have := hn.1; omega, by have := hn.1; omega, fun ho => ?_⟩
  rw [ho] at hov
  have hlv : j.live = true := by cases hl : j.live <;> simp [hl] at hov ⊢
  have hp : k.promise = j.start := by
    rcases active_live.2 hlv with e | e
    · exact (hn.2.2.2.2.2.1 e).1
    · exact (hn.2.2.2.2.2.2.1 e).1
  have := hn.2.1
  have := hn.2.2.1
  have := hn.2.2.2.2.2.2.2.2
  omega
theorem usedK_le (K : List Kj) (h : SizeK K) (t but : Int) : ∀ k, 0 ≤ usedK K t but k ∧ usedK K t but k ≤ 64 * k
  | 0 => by simp [usedK]
  | k + 1 => by
    have ih := usedK_le K h t but k
    unfold usedK
    cases e : K[k]? with
    | none => simp only; omega
    | some j =>
      have hw := h j (List.mem_of_getElem? e)
      simp only
      split <;> omega

theorem freeK_le (K : List Kj) (h : SizeK K) : ∀ k : Nat, 8 - 64 * (k : Int) ≤ freeK K k ∧ freeK K k ≤ 8
  | 0 => by simp [freeK]
  | k + 1 => by
    have ih := freeK_le K h k
    unfold freeK
    cases e : K[k]? with
    | none => simp only; omega
    | some j =>
      have hw := h j (List.mem_of_getElem? e)
      simp only
      split <;> omega

set_option maxHeartbeats 4000000 in
set_option maxRecDepth 100000 in
theorem usedR_any (B br bx : Nat) (now : Int) (p : Option Addr) (cap : Nat) (K : List Kj) (w : World) (h : RunM B br bx now p cap K w) (hz : SizeK K) (t but : Int) :
    Calls Tryz.prog 21 #[.pointer (some ⟨br, 0, none⟩), .int .i64 t, .int .i64 but] w fun e w' => e = .returned (.int .i64 (usedK K t but K.length)) ∧ Below w.heap.size w w' := by
  have hlen := h.few
  have HR := Lib.hid h
  have HZ := Lib.hid hz
  clear h hz
  go_enter Tryz.func21, Tryz.ntmps21
  go_wp2
  go_loopw [7, 8] (fun n i wr => ∃ k : Nat, k ≤ K.length ∧ i = .int .i64 k ∧ n = .int .i64 (usedK K t but k) ∧ Hid (Below w.heap.size w wr)) (fun _ i _ => K.length - (intOf i).toNat)
  case atStart => exact ⟨0, Nat.zero_le _, rfl, rfl, Lib.hid (Below.refl _ _)⟩
  case round =>
    obtain ⟨k, hk, rfl, rfl, HB⟩ := hrel
    have hRr := HR.out.below HB.out
    obtain ⟨c0, c1, c2⟩ := hRr.cell
    have hltr := hRr.lt
    have hv := usedK_le K HZ.out t but k
    by_cases hlt : k < K.length
    · obtain ⟨j, hj⟩ : ∃ j, K[k]? = some j := ⟨_, List.getElem?_eq_getElem hlt⟩
      obtain ⟨g, rfl, hrow⟩ := hRr.row k j hj
      have hgl : g < wr.heap.size := (hRr.own.lt g rfl).2
      have hsz := HZ.out j (List.mem_of_getElem? hj)
      have HS := Lib.hid (usedK_step K t but k j hj)
      have HBn : Hid (∀ o, Below w.heap.size w (wr.alloc o)) := Lib.hid (fun o => HB.out.alloc HB.out.size o)
      have r0 := hrow 0 _ rfl
      have r1 := hrow 1 _ rfl
      have r2 := hrow 2 _ rfl
      have r3 := hrow 3 _ rfl
      have r4 := hrow 4 _ rfl
      rw [Nat.add_zero] at r0
      obtain ⟨wd, wl, pr, st, ov⟩ := j
      simp only at r0 r1 r2 r3 r4 hsz
      clear hrow hRr hj
      cases ov with
      | true =>
        go_wp2
        go_roundw
        case rel => exact ⟨k + 1, by omega, by go_num, val_int (by rw [HS.out]; simp [Kj.onAt]), Lib.hid (HBn.out _)⟩
        case measure => simp [intOf]; omega
      | false =>
        have hsz2 := hsz.2.2 rfl
        by_cases hb : (k : Int) = but
        · subst hb
          go_wp2
          go_roundw
          case rel => exact ⟨k + 1, by omega, by go_num, val_int (by rw [HS.out]; simp [Kj.onAt]), Lib.hid (HBn.out _)⟩
          case measure => simp [intOf]; omega
        · by_cases hp : pr ≤ t
          · by_cases ht : t < pr + wl
            · go_wp2
              go_roundw
              case rel => exact ⟨k + 1, by omega, by go_num, val_int (by rw [HS.out]; simp [Kj.onAt, hb, hp, ht]), Lib.hid (HBn.out _)⟩
              case measure => simp [intOf]; omega
            · go_wp2
              go_roundw
              case rel => exact ⟨k + 1, by omega, by go_num, val_int (by rw [HS.out]; simp [Kj.onAt, ht]), Lib.hid (HBn.out _)⟩
              case measure => simp [intOf]; omega
          · go_wp2
            go_roundw
            case rel => exact ⟨k + 1, by omega, by go_num, val_int (by rw [HS.out]; simp [Kj.onAt, hp]), Lib.hid (HBn.out _)⟩
            case measure => simp [intOf]; omega
    · obtain rfl : k = K.length := by omega
      go_wp2
      go_ret
      exact ⟨rfl, HB.out⟩

theorem roomK_succ (K : List Kj) (width t but : Int) (n : Nat) : roomK K width t but (n + 1) = (roomK K width t but n && decide (usedK K (t + n) but K.length + width ≤ 8)) := rfl

set_option maxHeartbeats 4000000 in
set_option maxRecDepth 100000 in
theorem roomR_any (B br bx : Nat) (now : Int) (p : Option Addr) (cap : Nat) (K : List Kj) (w : World) (h : RunM B br bx now p cap K w) (hz : SizeK K) (t : Int) (i : Nat) (j : Kj) (hj : K[i]? = some j) (ho : j.over = false) (ht0 : 0 ≤ t) (ht1 : t ≤ 1000000000000000) :
    Calls Tryz.prog 23 #[.pointer (some ⟨br, 0, none⟩), .int .i64 t, .int .i64 i] w fun e w' => e = .returned (.bool (roomK K j.width t i j.wall.toNat)) ∧ Below w.heap.size w w' := by
  have hlen := h.few
  have hi := (List.getElem?_eq_some_iff.1 hj).1
  have hsz := hz j (List.mem_of_getElem? hj)
  have hsz2 := hsz.2.2 ho
  have HU := Lib.hid (fun W (hW : Below w.heap.size w W) (s : Int) => usedR_any B br bx now p cap K W (h.below hW) hz s i)
  have HUL := Lib.hid (usedK_le K hz)
  have HR := Lib.hid h
  have HJ := Lib.hid hj
  have i1 : (0 : Int) ≤ (i : Int) := by omega
  have i2 : (i : Int) < (K.length : Int) := by omega
  clear h hz hj
  go_enter Tryz.func23, Tryz.ntmps23
  go_wp2
  go_loopw [7] (fun mm wr => ∃ n : Nat, n ≤ j.wall.toNat ∧ mm = .int .i64 (t + n) ∧ Hid (roomK K j.width t i n = true) ∧ Hid (Below w.heap.size w wr)) (fun mm _ => j.wall.toNat - (intOf mm - t).toNat)
  case atStart => exact ⟨0, Nat.zero_le _, by simp, Lib.hid rfl, Lib.hid (Below.refl _ _)⟩
  case round =>
    obtain ⟨n, hn, rfl, HM, HB⟩ := hrel
    have hRr := HR.out.below HB.out
    obtain ⟨c0, c1, c2⟩ := hRr.cell
    have hltr := hRr.lt
    obtain ⟨g, rfl, hrow⟩ := hRr.row i j HJ.out
    have r0 := hrow 0 _ rfl
    have r1 := hrow 1 _ rfl
    rw [Nat.add_zero] at r0
    clear hrow hRr
    by_cases hm : n < j.wall.toNat
    · have hm1 : t + (n : Int) < t + j.wall := by omega
      have ul := HUL.out (t + n) i K.length
      have HU1 := Lib.hid (HU.out wr HB.out (t + n))
      have HSU := Lib.hid (roomK_succ K j.width t i n)
      go_wp2_with (go_at_call 21; refine HU1.out.mono ?_; rintro e w1 ⟨rfl, hb1⟩; refine Hid.out ?_)
      refine Lib.hid ?_
      have HB1 := Lib.hid (HB.out.trans (hb1.mono HB.out.size))
      have hR1 := HR.out.below HB1.out
      obtain ⟨d0, d1, d2⟩ := hR1.cell
      obtain ⟨g2, hg2, hrow2⟩ := hR1.row i j HJ.out
      obtain rfl : g = g2 := by simpa using hg2
      have s0 := hrow2 0 _ rfl
      rw [Nat.add_zero] at s0
      clear hrow2 hR1 hb1 c0 c1 c2 r0 r1
      by_cases hr : usedK K (t + n) i K.length + j.width ≤ 8
      · generalize usedK K (t + n) i K.length = uu at *
        go_wp2
        go_roundw
        case rel => exact ⟨n + 1, by omega, by go_num, Lib.hid (by rw [HSU.out, HM.out]; simp [hr]), HB1⟩
        case measure => simp [intOf]; omega
      · have HF : Hid (roomK K j.width t i j.wall.toNat = false) := Lib.hid (roomK_off K j.width t i (n + 1) (by rw [HSU.out]; simp [hr]) _ (by omega))
        generalize usedK K (t + n) i K.length = uu at *
        go_wp2
        go_ret
        exact ⟨by rw [HF.out]; rfl, HB1.out⟩
    · have hm1 : ¬ t + (n : Int) < t + j.wall := by omega
      obtain rfl : n = j.wall.toNat := by omega
      go_wp2
      go_ret
      exact ⟨by rw [HM.out]; rfl, HB.out⟩

end Go.Proofs.YtpcgnadfldimhaaGreatDoor
