/-
 The document's answer: which jobs are live, how many nodes are reserved at a moment, whether there is room, the least time at which there is.
-/
import Derived.Test.YtpcgnadfldimhaaGreatDoorSchA
import Derived.Test.YtpcgnadfldimhaaGreatDoorNums
import Derived.Test.YtpcgnadfldimhaaGreatDoorMemG
namespace Go.Proofs.YtpcgnadfldimhaaGreatDoor
open Go.RowKit

def Job.cells (j : Job) : List Value := [.int .i64 j.width, .int .i64 j.wall, .int .i64 j.phase, .int .i64 j.start, .int .i64 j.stop]

/-- The jobs lie in the row that p points at. -/
def Jobs (w : World) (p : Option Addr) (L : List Job) : Prop := ∀ i j, L[i]? = some j → ∃ b, p = some ⟨b, 0, none⟩ ∧ w.rangeAt b (i * 5) j.cells

/-- The document's cluster at block bc. -/
structure RefC (bc : Nat) (nodes jobs wall last now : Int) (p : Option Addr) (cap : Nat) (L : List Job) (w : World) : Prop where
 c0 : w.cell? ⟨bc, 0, none⟩ = some (.int .i64 nodes)
 c1 : w.cell? ⟨bc, 1, none⟩ = some (.int .i64 jobs)
 c2 : w.cell? ⟨bc, 2, none⟩ = some (.int .i64 wall)
 c3 : w.cell? ⟨bc, 3, none⟩ = some (.int .i64 last)
 c4 : w.cell? ⟨bc, 4, none⟩ = some (.int .i64 now)
 c5 : w.cell? ⟨bc, 5, none⟩ = some (.slice p L.length cap)
 row : Jobs w p L
 len : L.length ≤ 1000000000

theorem Jobs.on {w w' : World} {p : Option Addr} {L : List Job} (h : Jobs w p L) (hb : Below w.heap.size w w') : Jobs w' p L := fun i j hj => by
 obtain ⟨b, hp, hr⟩ := h i j hj
 exact ⟨b, hp, fun t v hv => (hb.cell (block_lt_of_cell (hr t v hv))).trans (hr t v hv)⟩
theorem RefC.on {bc : Nat} {nodes jobs wall last now : Int} {p : Option Addr} {cap : Nat} {L : List Job} {w w' : World} (h : RefC bc nodes jobs wall last now p cap L w) (hb : Below w.heap.size w w') : RefC bc nodes jobs wall last now p cap L w' :=
 ⟨(hb.cell (block_lt_of_cell h.c0)).trans h.c0, (hb.cell (block_lt_of_cell h.c1)).trans h.c1, (hb.cell (block_lt_of_cell h.c2)).trans h.c2, (hb.cell (block_lt_of_cell h.c3)).trans h.c3, (hb.cell (block_lt_of_cell h.c4)).trans h.c4, (hb.cell (block_lt_of_cell h.c5)).trans h.c5, h.row.on hb, h.len⟩

set_option maxHeartbeats 400000 in
theorem live_any (a b ph s e : Int) (w : World) : Calls Tryz.prog 112 #[.agg #[.int .i64 a, .int .i64 b, .int .i64 ph, .int .i64 s, .int .i64 e]] w fun r w' => r = .returned (.bool (liveB ph)) ∧ w' = w.alloc (.cells #[.int .i64 a, .int .i64 b, .int .i64 ph, .int .i64 s, .int .i64 e] 148) := by
 by_cases h1 : ph = 1
 ·subst h1
  go_enter Tryz.func112, Tryz.ntmps112
  go_wp2
  go_ret
  exact ⟨rfl, rfl⟩
 ·by_cases h2 : ph = 2
  ·subst h2
   go_enter Tryz.func112, Tryz.ntmps112
   go_wp2
   go_ret
   exact ⟨rfl, rfl⟩
  ·go_enter Tryz.func112, Tryz.ntmps112
   go_wp2
   go_ret
   exact ⟨by simp [liveB, h1, h2], rfl⟩

set_option maxHeartbeats 2000000 in
set_option maxRecDepth 100000 in
theorem used_any (bc : Nat) (nodes jobs wall last now : Int) (p : Option Addr) (cap : Nat) (L : List Job) (w : World) (h : RefC bc nodes jobs wall last now p cap L w) (hw : Widths L) (t but : Int) :
  Calls Tryz.prog 152 #[.pointer (some ⟨bc, 0, none⟩), .int .i64 t, .int .i64 but] w fun e w' => e = .returned (.int .i64 (used L t but)) ∧ Below w.heap.size w w' := by
 have hlen := h.len
 have c5 := h.c5
 go_enter Tryz.func152, Tryz.ntmps152
 go_wp2
 go_loopw [7, 8] (fun n i wr => ∃ k : Nat, k ≤ L.length ∧ i = .int .i64 k ∧ n = .int .i64 (usedN L t but k) ∧ Below w.heap.size w wr) (fun _ i _ => L.length - (intOf i).toNat)
 case atStart => exact ⟨0, Nat.zero_le _, rfl, rfl, Below.refl _ _⟩
 case round =>
  obtain ⟨k, hk, rfl, rfl, hbr⟩ := hrel
  have hr := h.on hbr
  have d5 := hr.c5
  have hu := usedN_le L t but hw k
  by_cases hlt : k < L.length
  ·obtain ⟨j, hj⟩ : ∃ j, L[k]? = some j := ⟨_, List.getElem?_eq_getElem hlt⟩
   obtain ⟨b, rfl, hrow⟩ := hr.row k j hj
   have HS := Lib.hid (usedN_step L t but k j hj)
   obtain ⟨wd, wl, ph, st, en⟩ := j
   have hwd : 1 ≤ wd ∧ wd ≤ 64 := hw _ (List.mem_of_getElem? hj)
   clear hj
   go_wp2_with (first | (refine wpList_load_mid rfl 148 _ rfl b (k * 5) rfl [.int .i64 wd, .int .i64 wl, .int .i64 ph, .int .i64 st, .int .i64 en] _ hrow Tryz.underlying148 rfl (by kernel_rfl) ?_) | (go_at_call 112; refine (live_any _ _ _ _ _ _).mono ?_; rintro e w' ⟨rfl, rfl⟩; refine Hid.out ?_))
   refine Lib.hid ?_
   have hb2 : Below w.heap.size w (wr.alloc (.cells #[.int .i64 wd, .int .i64 wl, .int .i64 ph, .int .i64 st, .int .i64 en] 148)) := hbr.alloc hbr.size _
   have r0 := old1 (hrow 0 _ rfl) (.cells #[.int .i64 wd, .int .i64 wl, .int .i64 ph, .int .i64 st, .int .i64 en] 148)
   have r3 := old1 (hrow 3 _ rfl) (.cells #[.int .i64 wd, .int .i64 wl, .int .i64 ph, .int .i64 st, .int .i64 en] 148)
   have r4 := old1 (hrow 4 _ rfl) (.cells #[.int .i64 wd, .int .i64 wl, .int .i64 ph, .int .i64 st, .int .i64 en] 148)
   have e5 := old1 d5 (.cells #[.int .i64 wd, .int .i64 wl, .int .i64 ph, .int .i64 st, .int .i64 en] 148)
   rw [Nat.add_zero] at r0
   clear hrow hr
   cases hl : liveB ph with
   | false =>
    go_wp2
    go_roundw
    case rel => exact ⟨k + 1, by omega, by go_num, val_int (by rw [HS.out]; simp [Job.onAt, Job.live, hl]), hb2⟩
    case measure => simp [intOf]; omega
   | true =>
    by_cases hbu : (k : Int) = but
    ·subst hbu
     go_wp2
     go_roundw
     case rel => exact ⟨k + 1, by omega, by go_num, val_int (by rw [HS.out]; simp [Job.onAt]), hb2⟩
     case measure => simp [intOf]; omega
    ·by_cases h1 : st ≤ t
     ·by_cases h2 : t < en
      ·go_wp2
       go_roundw
       case rel => exact ⟨k + 1, by omega, by go_num, val_int (by rw [HS.out]; simp [Job.onAt, Job.live, hl, hbu, h1, h2]), hb2⟩
       case measure => simp [intOf]; omega
      ·go_wp2
       go_roundw
       case rel => exact ⟨k + 1, by omega, by go_num, val_int (by rw [HS.out]; simp [Job.onAt, h2]), hb2⟩
       case measure => simp [intOf]; omega
     ·go_wp2
      go_roundw
      case rel => exact ⟨k + 1, by omega, by go_num, val_int (by rw [HS.out]; simp [Job.onAt, h1]), hb2⟩
      case measure => simp [intOf]; omega
  ·obtain rfl : k = L.length := by omega
   go_wp2
   go_ret
   exact ⟨rfl, hbr⟩

end Go.Proofs.YtpcgnadfldimhaaGreatDoor
namespace Go.Proofs.YtpcgnadfldimhaaGreatDoor
open Go.RowKit

theorem ret_bool {a b : Bool} (h : a = b) : Ending.returned (.bool a) = .returned (.bool b) := by rw [h]

set_option maxHeartbeats 2000000 in
set_option maxRecDepth 100000 in
theorem room_any (bc : Nat) (nodes jobs wall last now : Int) (p : Option Addr) (cap : Nat) (L : List Job) (w : World) (h : RefC bc nodes jobs wall last now p cap L w) (hw : Widths L) (t width wl but : Int)
  (ht : 0 ≤ t) (ht' : t ≤ 5000000000000000000) (hwd : 1 ≤ width) (hwd' : width ≤ 64) (hwl : 0 ≤ wl) (hwl' : wl ≤ 1000000000) :
  Calls Tryz.prog 136 #[.pointer (some ⟨bc, 0, none⟩), .int .i64 t, .int .i64 width, .int .i64 wl, .int .i64 but] w fun e w' => e = .returned (.bool (room L nodes t width wl but)) ∧ Below w.heap.size w w' := by
 have hlen := h.len
 have hu : 0 ≤ used L t but ∧ used L t but ≤ 64 * L.length := usedN_le L t but hw L.length
 go_enter Tryz.func136, Tryz.ntmps136
 go_wp2_with (go_at_call 152; refine (used_any bc nodes jobs wall last now p cap L _ h hw t but).mono ?_; rintro e w1 ⟨rfl, hb1⟩; refine Hid.out ?_)
 refine Lib.hid ?_
 have h1 := h.on hb1
 have c0 := h1.c0
 have c5 := h1.c5
 by_cases hn : used L t but + width ≤ nodes
 ·go_wp2
  go_loopw [11, 12] (fun n i wr => ∃ (k : Nat) (m : Int), k ≤ L.length ∧ i = .int .i64 k ∧ n = .int .i64 m ∧ roomN L nodes t width wl but k = true ∧ Below w1.heap.size w1 wr) (fun _ i _ => L.length - (intOf i).toNat)
  case atStart => exact ⟨0, _, Nat.zero_le _, rfl, rfl, rfl, Below.refl _ _⟩
  case round =>
   obtain ⟨k, m, hk, rfl, rfl, HR, hbr⟩ := hrel
   have HR := Lib.hid HR
   have hr := h1.on hbr
   have d5 := hr.c5
   by_cases hlt : k < L.length
   ·obtain ⟨j, hj⟩ : ∃ j, L[k]? = some j := ⟨_, List.getElem?_eq_getElem hlt⟩
    obtain ⟨b, rfl, hrow⟩ := hr.row k j hj
    have HS := Lib.hid (roomN_step L nodes t width wl but k j hj)
    obtain ⟨wd, wl2, ph, st, en⟩ := j
    clear hj
    go_wp2_with (first | (refine wpList_load_mid rfl 148 _ rfl b (k * 5) rfl [.int .i64 wd, .int .i64 wl2, .int .i64 ph, .int .i64 st, .int .i64 en] _ hrow Tryz.underlying148 rfl (by kernel_rfl) ?_) | (go_at_call 112; refine (live_any _ _ _ _ _ _).mono ?_; rintro e w' ⟨rfl, rfl⟩; refine Hid.out ?_))
    refine Lib.hid ?_
    have hb2 : Below w1.heap.size w1 (wr.alloc (.cells #[.int .i64 wd, .int .i64 wl2, .int .i64 ph, .int .i64 st, .int .i64 en] 148)) := hbr.alloc hbr.size _
    have h2 := h1.on hb2
    have r3 := old1 (hrow 3 _ rfl) (.cells #[.int .i64 wd, .int .i64 wl2, .int .i64 ph, .int .i64 st, .int .i64 en] 148)
    have e5 := old1 d5 (.cells #[.int .i64 wd, .int .i64 wl2, .int .i64 ph, .int .i64 st, .int .i64 en] 148)
    clear hrow hr
    by_cases hskip : liveB ph = false ∨ (k : Int) = but ∨ st ≤ t ∨ t + wl ≤ st
    ·have HS' : Hid (roomN L nodes t width wl but (k + 1) = true) := Lib.hid (by
      rw [HS.out, HR.out]
      simp only [Job.live, Bool.true_and, Bool.or_eq_true, Bool.not_eq_true', Bool.and_eq_false_iff, decide_eq_false_iff_not, decide_eq_true_eq]
      left
      rcases hskip with h | h | h | h
      ·exact Or.inl (Or.inl (Or.inl h))
      ·exact Or.inl (Or.inl (Or.inr (by simpa using h)))
      ·exact Or.inl (Or.inr (by omega))
      ·exact Or.inr (by omega))
     cases hl : liveB ph with
     | false =>
      go_wp2
      go_roundw
      case rel => exact ⟨k + 1, _, by omega, by go_num, rfl, HS'.out, hb2⟩
      case measure => simp [intOf]; omega
     | true =>
      rw [hl] at hskip
      simp at hskip
      by_cases hbu : (k : Int) = but
      ·subst hbu
       go_wp2
       go_roundw
       case rel => exact ⟨k + 1, _, by omega, by go_num, rfl, HS'.out, hb2⟩
       case measure => simp [intOf]; omega
      ·by_cases h3 : st ≤ t
       ·go_wp2
        go_roundw
        case rel => exact ⟨k + 1, _, by omega, by go_num, rfl, HS'.out, hb2⟩
        case measure => simp [intOf]; omega
       ·have h4 : t + wl ≤ st := by omega
        go_wp2
        go_roundw
        case rel => exact ⟨k + 1, _, by omega, by go_num, rfl, HS'.out, hb2⟩
        case measure => simp [intOf]; omega
    ·have hl : liveB ph = true := by
      cases hq : liveB ph with
      | true => rfl
      | false => exact absurd (Or.inl hq) hskip
     have hbu : ¬ (k : Int) = but := fun e => hskip (Or.inr (Or.inl e))
     have h3 : ¬ st ≤ t := fun e => hskip (Or.inr (Or.inr (Or.inl e)))
     have h4 : ¬ t + wl ≤ st := fun e => hskip (Or.inr (Or.inr (Or.inr e)))
     clear hskip
     have hu2 : 0 ≤ used L st but ∧ used L st but ≤ 64 * L.length := usedN_le L st but hw L.length
     rw [hl]
     go_wp2_with (go_at_call 152; refine (used_any bc nodes jobs wall last now _ cap L _ h2 hw st but).mono ?_; rintro e w3 ⟨rfl, hb3⟩; refine Hid.out ?_)
     refine Lib.hid ?_
     have f0 := (h2.on hb3).c0
     have hb4 := hb2.trans (hb3.mono hb2.size)
     by_cases hn2 : used L st but + width ≤ nodes
     ·go_wp2
      go_roundw
      case rel => exact ⟨k + 1, _, by omega, by go_num, rfl, by rw [HS.out, HR.out]; simp [hn2], hb4⟩
      case measure => simp [intOf]; omega
     ·go_wp2
      go_ret
      refine ⟨ret_bool ?_, hb1.trans (hb4.mono hb1.size)⟩
      unfold room
      rw [roomN_false L nodes t width wl but (k + 1) (by rw [HS.out, HR.out]; simp [Job.live, hl, hbu, hn2]; omega) L.length (by omega)]
      simp
   ·obtain rfl : k = L.length := by omega
    go_wp2
    go_ret
    exact ⟨ret_bool (by unfold room; rw [HR.out]; simp [hn]), hb1.trans (hbr.mono hb1.size)⟩
 ·go_wp2
  go_ret
  exact ⟨ret_bool (by unfold room; rw [decide_eq_false (by omega), Bool.false_and]), hb1⟩

end Go.Proofs.YtpcgnadfldimhaaGreatDoor
namespace Go.Proofs.YtpcgnadfldimhaaGreatDoor
open Go.RowKit

/-- Times lie between 0 and 5 * 10^18. -/
def Times (L : List Job) : Prop := ∀ j ∈ L, 0 ≤ j.start ∧ 0 ≤ j.stop ∧ j.stop ≤ 5000000000000000000

theorem bestN_step (L : List Job) (nodes now width wall but : Int) (k : Nat) (j : Job) (h : L[k]? = some j) : bestN L nodes now width wall but (k + 1) = if !j.live || decide ((k : Int) = but) || decide (j.stop ≤ now) || (decide (0 ≤ bestN L nodes now width wall but k) && decide (bestN L nodes now width wall but k ≤ j.stop)) then bestN L nodes now width wall but k
        else if room L nodes j.stop width wall but then j.stop else bestN L nodes now width wall but k := by
 simp [bestN, h]

theorem bestN_try (L : List Job) (nodes now width wall but : Int) (k : Nat) (j : Job) (h : L[k]? = some j) (hl : j.live = true) (hb : ¬ (k : Int) = but) (h3 : ¬ j.stop ≤ now) (h4 : ¬ (0 ≤ bestN L nodes now width wall but k ∧ bestN L nodes now width wall but k ≤ j.stop)) :
  bestN L nodes now width wall but (k + 1) = if room L nodes j.stop width wall but then j.stop else bestN L nodes now width wall but k := by
 rw [bestN_step L nodes now width wall but k j h]
 simp [hl, hb, h3]
 intro a b
 exact absurd ⟨a, b⟩ h4

set_option maxHeartbeats 2000000 in
set_option maxRecDepth 100000 in
theorem earliest_any (bc : Nat) (nodes jobs wall last now : Int) (p : Option Addr) (cap : Nat) (L : List Job) (w : World) (h : RefC bc nodes jobs wall last now p cap L w) (hw : Widths L) (hT : Times L) (width wl but : Int)
  (ht : 0 ≤ now) (ht' : now ≤ 5000000000000000000) (hwd : 1 ≤ width) (hwd' : width ≤ 64) (hwl : 0 ≤ wl) (hwl' : wl ≤ 1000000000) :
  Calls Tryz.prog 110 #[.pointer (some ⟨bc, 0, none⟩), .int .i64 width, .int .i64 wl, .int .i64 but] w fun e w' => e = .returned (.int .i64 (earliest L nodes now width wl but)) ∧ Below w.heap.size w w' := by
 have hlen := h.len
 have c4 := h.c4
 have HR : ∃ r, Hid (room L nodes now width wl but = r) := ⟨_, Lib.hid rfl⟩
 obtain ⟨r, HR⟩ := HR
 go_enter Tryz.func110, Tryz.ntmps110
 go_wp2_with (go_at_call 136; refine (room_any bc nodes jobs wall last now p cap L _ h hw now width wl but ht ht' hwd hwd' hwl hwl').mono ?_; rintro e w1 ⟨rfl, hb1⟩; rw [HR.out]; refine Hid.out ?_)
 refine Lib.hid ?_
 have h1 := h.on hb1
 have c5 := h1.c5
 cases r with
 | true =>
  go_wp2
  go_ret
  exact ⟨ret_int (by unfold earliest; rw [HR.out]; rfl), hb1⟩
 | false =>
  go_wp2
  go_loopw [9, 10, 11] (fun x y i wr => ∃ (k : Nat) (bb : Bool), k ≤ L.length ∧ i = .int .i64 k ∧ x = .int .i64 (bestN L nodes now width wl but k) ∧ y = .bool bb ∧ Below w1.heap.size w1 wr) (fun _ _ i _ => L.length - (intOf i).toNat)
  case atStart => exact ⟨0, _, Nat.zero_le _, rfl, rfl, rfl, Below.refl _ _⟩
  case round =>
   obtain ⟨k, bb, hk, rfl, rfl, rfl, hbr⟩ := hrel
   have hr := h1.on hbr
   have d5 := hr.c5
   by_cases hlt : k < L.length
   ·obtain ⟨j, hj⟩ : ∃ j, L[k]? = some j := ⟨_, List.getElem?_eq_getElem hlt⟩
    obtain ⟨b, rfl, hrow⟩ := hr.row k j hj
    have HS := Lib.hid (bestN_step L nodes now width wl but k j hj)
    have HV := Lib.hid (bestN_try L nodes now width wl but k j hj)
    have htj := hT j (List.mem_of_getElem? hj)
    obtain ⟨wd, wl2, ph, st, en⟩ := j
    simp at htj
    clear hj
    go_wp2_with (first | (refine wpList_load_mid rfl 148 _ rfl b (k * 5) rfl [.int .i64 wd, .int .i64 wl2, .int .i64 ph, .int .i64 st, .int .i64 en] _ hrow Tryz.underlying148 rfl (by kernel_rfl) ?_) | (go_at_call 112; refine (live_any _ _ _ _ _ _).mono ?_; rintro e w' ⟨rfl, rfl⟩; refine Hid.out ?_))
    refine Lib.hid ?_
    have hb2 : Below w1.heap.size w1 (wr.alloc (.cells #[.int .i64 wd, .int .i64 wl2, .int .i64 ph, .int .i64 st, .int .i64 en] 148)) := hbr.alloc hbr.size _
    have h2 := h1.on hb2
    have r4 := old1 (hrow 4 _ rfl) (.cells #[.int .i64 wd, .int .i64 wl2, .int .i64 ph, .int .i64 st, .int .i64 en] 148)
    have e5 := h2.c5
    have e4 := h2.c4
    clear hrow hr
    generalize bestN L nodes now width wl but k = best at *
    cases hl : liveB ph with
    | false =>
     go_wp2
     go_roundw
     case rel => exact ⟨k + 1, _, by omega, by go_num, val_int (by rw [HS.out]; simp [Job.live, hl]), rfl, hb2⟩
     case measure => simp [intOf]; omega
    | true =>
     by_cases hbu : (k : Int) = but
     ·subst hbu
      go_wp2
      go_roundw
      case rel => exact ⟨k + 1, _, by omega, by go_num, val_int (by rw [HS.out]; simp), rfl, hb2⟩
      case measure => simp [intOf]; omega
     ·by_cases h3 : en ≤ now
      ·go_wp2
       go_roundw
       case rel => exact ⟨k + 1, _, by omega, by go_num, val_int (by rw [HS.out]; simp [h3]), rfl, hb2⟩
       case measure => simp [intOf]; omega
      ·by_cases h4 : 0 ≤ best ∧ best ≤ en
       ·have h5 := h4.1
        have h6 := h4.2
        go_wp2
        go_roundw
        case rel => exact ⟨k + 1, _, by omega, by go_num, val_int (by rw [HS.out]; simp [h5, h6]), rfl, hb2⟩
        case measure => simp [intOf]; omega
       ·obtain ⟨r2, HR2⟩ : ∃ r, Hid (room L nodes en width wl but = r) := ⟨_, Lib.hid rfl⟩
        have HS2 : Hid (bestN L nodes now width wl but (k + 1) = if r2 then en else best) := Lib.hid (by
         have e := HV.out hl (by omega) (by omega) (by omega)
         simp only [HR2.out] at e
         exact e)
        by_cases h5 : 0 ≤ best
        ·have h6 : ¬ best ≤ en := fun e => h4 ⟨h5, e⟩
         clear h4
         go_wp2_with (go_at_call 136; refine (room_any bc nodes jobs wall last now _ cap L _ h2 hw en width wl but (by omega) (by omega) hwd hwd' hwl hwl').mono ?_; rintro e w3 ⟨rfl, hb3⟩; rw [HR2.out]; refine Hid.out ?_)
         refine Lib.hid ?_
         have hb4 := hb2.trans (hb3.mono hb2.size)
         cases r2 with
         | true =>
          go_wp2
          go_roundw
          case rel => exact ⟨k + 1, _, by omega, by go_num, val_int (by rw [HS2.out]; rfl), rfl, hb4⟩
          case measure => simp [intOf]; omega
         | false =>
          go_wp2
          go_roundw
          case rel => exact ⟨k + 1, _, by omega, by go_num, val_int (by rw [HS2.out]; rfl), rfl, hb4⟩
          case measure => simp [intOf]; omega
        ·clear h4
         go_wp2_with (go_at_call 136; refine (room_any bc nodes jobs wall last now _ cap L _ h2 hw en width wl but (by omega) (by omega) hwd hwd' hwl hwl').mono ?_; rintro e w3 ⟨rfl, hb3⟩; rw [HR2.out]; refine Hid.out ?_)
         refine Lib.hid ?_
         have hb4 := hb2.trans (hb3.mono hb2.size)
         cases r2 with
         | true =>
          go_wp2
          go_roundw
          case rel => exact ⟨k + 1, _, by omega, by go_num, val_int (by rw [HS2.out]; rfl), rfl, hb4⟩
          case measure => simp [intOf]; omega
         | false =>
          go_wp2
          go_roundw
          case rel => exact ⟨k + 1, _, by omega, by go_num, val_int (by rw [HS2.out]; rfl), rfl, hb4⟩
          case measure => simp [intOf]; omega
   ·obtain rfl : k = L.length := by omega
    go_wp2
    go_ret
    exact ⟨ret_int (by unfold earliest; rw [HR.out]; rfl), hb1.trans (hbr.mono hb1.size)⟩

end Go.Proofs.YtpcgnadfldimhaaGreatDoor
namespace Go.Proofs.YtpcgnadfldimhaaGreatDoor
open Go.RowKit

set_option maxHeartbeats 2000000 in
set_option maxRecDepth 100000 in
theorem count_any (bc : Nat) (nodes jobs wall last now : Int) (p : Option Addr) (cap : Nat) (L : List Job) (w : World) (h : RefC bc nodes jobs wall last now p cap L w) (hw : Widths L) (hn : 0 ≤ nodes) (hn' : nodes ≤ 64) :
  Calls Tryz.prog 80 #[.pointer (some ⟨bc, 0, none⟩)] w fun e w' => e = .returned (.tuple #[.int .i64 (liveN L L.length), .int .i64 (freeN L nodes L.length)]) ∧ Below w.heap.size w w' := by
 have hlen := h.len
 have c5 := h.c5
 have c0 := h.c0
 go_enter Tryz.func80, Tryz.ntmps80
 go_wp2
 go_loopw [4, 5, 6] (fun n f i wr => ∃ k : Nat, k ≤ L.length ∧ i = .int .i64 k ∧ n = .int .i64 (liveN L k) ∧ f = .int .i64 (freeN L nodes k) ∧ Below w.heap.size w wr) (fun _ _ i _ => L.length - (intOf i).toNat)
 case atStart => exact ⟨0, Nat.zero_le _, rfl, rfl, rfl, Below.refl _ _⟩
 case round =>
  obtain ⟨k, hk, rfl, rfl, rfl, hbr⟩ := hrel
  have hr := h.on hbr
  have d5 := hr.c5
  have hu := freeN_le L nodes hw k
  have hv := liveN_le L k
  by_cases hlt : k < L.length
  ·obtain ⟨j, hj⟩ : ∃ j, L[k]? = some j := ⟨_, List.getElem?_eq_getElem hlt⟩
   obtain ⟨b, rfl, hrow⟩ := hr.row k j hj
   have HS := Lib.hid (liveN_step L k j hj)
   have HF := Lib.hid (freeN_step L nodes k j hj)
   obtain ⟨wd, wl, ph, st, en⟩ := j
   have hwd : 1 ≤ wd ∧ wd ≤ 64 := hw _ (List.mem_of_getElem? hj)
   clear hj
   go_wp2_with (first | (refine wpList_load_mid rfl 148 _ rfl b (k * 5) rfl [.int .i64 wd, .int .i64 wl, .int .i64 ph, .int .i64 st, .int .i64 en] _ hrow Tryz.underlying148 rfl (by kernel_rfl) ?_) | (go_at_call 112; refine (live_any _ _ _ _ _ _).mono ?_; rintro e w' ⟨rfl, rfl⟩; refine Hid.out ?_))
   refine Lib.hid ?_
   have hb2 : Below w.heap.size w (wr.alloc (.cells #[.int .i64 wd, .int .i64 wl, .int .i64 ph, .int .i64 st, .int .i64 en] 148)) := hbr.alloc hbr.size _
   have r0 := old1 (hrow 0 _ rfl) (.cells #[.int .i64 wd, .int .i64 wl, .int .i64 ph, .int .i64 st, .int .i64 en] 148)
   have r2 := old1 (hrow 2 _ rfl) (.cells #[.int .i64 wd, .int .i64 wl, .int .i64 ph, .int .i64 st, .int .i64 en] 148)
   have e5 := old1 d5 (.cells #[.int .i64 wd, .int .i64 wl, .int .i64 ph, .int .i64 st, .int .i64 en] 148)
   rw [Nat.add_zero] at r0
   clear hrow hr
   by_cases h2 : ph = 2
   ·subst h2
    go_wp2
    go_roundw
    case rel => exact ⟨k + 1, by omega, by go_num, val_int (by rw [HS.out]; simp [Job.live, liveB]), val_int (by rw [HF.out]; simp), hb2⟩
    case measure => simp [intOf]; omega
   ·by_cases h1 : ph = 1
    ·subst h1
     go_wp2
     go_roundw
     case rel => exact ⟨k + 1, by omega, by go_num, val_int (by rw [HS.out]; simp [Job.live, liveB]), val_int (by rw [HF.out]; simp), hb2⟩
     case measure => simp [intOf]; omega
    ·have hl : liveB ph = false := by simp [liveB, h1, h2]
     rw [hl]
     go_wp2
     go_roundw
     case rel => exact ⟨k + 1, by omega, by go_num, val_int (by rw [HS.out]; simp [Job.live, hl]), val_int (by rw [HF.out]; simp [h2]), hb2⟩
     case measure => simp [intOf]; omega
  ·obtain rfl : k = L.length := by omega
   go_wp2
   go_ret2
   exact ⟨rfl, hbr⟩

set_option maxHeartbeats 2000000 in
set_option maxRecDepth 100000 in
theorem next_any (bc : Nat) (nodes jobs wall last now : Int) (p : Option Addr) (cap : Nat) (L : List Job) (w : World) (h : RefC bc nodes jobs wall last now p cap L w) (fin : Int) :
  Calls Tryz.prog 114 #[.pointer (some ⟨bc, 0, none⟩), .int .i64 fin] w fun e w' => e = .returned (.int .i64 (nextN L fin L.length)) ∧ w' = w := by
 have hlen := h.len
 have c5 := h.c5
 go_enter Tryz.func114, Tryz.ntmps114
 go_wp2
 go_loop [5, 6] (fun n i => ∃ k : Nat, k ≤ L.length ∧ i = .int .i64 k ∧ n = .int .i64 (nextN L fin k)) (fun _ i => L.length - (intOf i).toNat)
 case atStart => exact ⟨0, Nat.zero_le _, rfl, rfl⟩
 case round =>
  obtain ⟨k, hk, rfl, rfl⟩ := hrel
  by_cases hlt : k < L.length
  ·obtain ⟨j, hj⟩ : ∃ j, L[k]? = some j := ⟨_, List.getElem?_eq_getElem hlt⟩
   obtain ⟨b, rfl, hrow⟩ := h.row k j hj
   have HS := Lib.hid (nextN_step L fin k j hj)
   obtain ⟨wd, wl, ph, st, en⟩ := j
   clear hj
   have r2 := hrow 2 _ rfl
   have r3 := hrow 3 _ rfl
   have r4 := hrow 4 _ rfl
   clear hrow
   generalize nextN L fin k = best at *
   by_cases h1 : ph = 1
   ·subst h1
    have HS2 : Hid (nextN L fin (k + 1) = if 0 ≤ st ∧ st ≤ fin ∧ (best < 0 ∨ st < best) then st else best) := Lib.hid (by rw [HS.out]; simp [Job.due])
    clear HS
    by_cases g : 0 ≤ st ∧ st ≤ fin ∧ (best < 0 ∨ st < best)
    ·have g1 := g.1
     have g2 := g.2.1
     by_cases g3 : best < 0
     ·go_wp2
      exact ⟨⟨k + 1, by omega, by go_num, val_int (by rw [HS2.out, if_pos g])⟩, by simp [intOf]; omega⟩
     ·have g4 : st < best := by omega
      go_wp2
      exact ⟨⟨k + 1, by omega, by go_num, val_int (by rw [HS2.out, if_pos (by omega)])⟩, by simp [intOf]; omega⟩
    ·by_cases g1 : 0 ≤ st
     ·by_cases g2 : st ≤ fin
      ·have g3 : ¬ best < 0 := by omega
       have g4 : ¬ st < best := by omega
       go_wp2
       exact ⟨⟨k + 1, by omega, by go_num, val_int (by rw [HS2.out, if_neg (by omega)])⟩, by simp [intOf]; omega⟩
      ·go_wp2
       exact ⟨⟨k + 1, by omega, by go_num, val_int (by rw [HS2.out, if_neg (by omega)])⟩, by simp [intOf]; omega⟩
     ·go_wp2
      exact ⟨⟨k + 1, by omega, by go_num, val_int (by rw [HS2.out, if_neg (by omega)])⟩, by simp [intOf]; omega⟩
   ·by_cases h2 : ph = 2
    ·subst h2
     have HS2 : Hid (nextN L fin (k + 1) = if 0 ≤ en ∧ en ≤ fin ∧ (best < 0 ∨ en < best) then en else best) := Lib.hid (by rw [HS.out]; simp [Job.due])
     clear HS
     by_cases g : 0 ≤ en ∧ en ≤ fin ∧ (best < 0 ∨ en < best)
     ·have g1 := g.1
      have g2 := g.2.1
      by_cases g3 : best < 0
      ·go_wp2
       exact ⟨⟨k + 1, by omega, by go_num, val_int (by rw [HS2.out, if_pos (by omega)])⟩, by simp [intOf]; omega⟩
      ·have g4 : en < best := by omega
       go_wp2
       exact ⟨⟨k + 1, by omega, by go_num, val_int (by rw [HS2.out, if_pos (by omega)])⟩, by simp [intOf]; omega⟩
     ·by_cases g1 : 0 ≤ en
      ·by_cases g2 : en ≤ fin
       ·have g3 : ¬ best < 0 := by omega
        have g4 : ¬ en < best := by omega
        go_wp2
        exact ⟨⟨k + 1, by omega, by go_num, val_int (by rw [HS2.out, if_neg (by omega)])⟩, by simp [intOf]; omega⟩
       ·go_wp2
        exact ⟨⟨k + 1, by omega, by go_num, val_int (by rw [HS2.out, if_neg (by omega)])⟩, by simp [intOf]; omega⟩
      ·go_wp2
       exact ⟨⟨k + 1, by omega, by go_num, val_int (by rw [HS2.out, if_neg (by omega)])⟩, by simp [intOf]; omega⟩
    ·go_wp2
     exact ⟨⟨k + 1, by omega, by go_num, val_int (by rw [HS.out]; simp [Job.due, h1, h2])⟩, by simp [intOf]; omega⟩
  ·obtain rfl : k = L.length := by omega
   go_wp2
   go_ret
   exact ⟨rfl, rfl⟩

end Go.Proofs.YtpcgnadfldimhaaGreatDoor
namespace Go.Proofs.YtpcgnadfldimhaaGreatDoor
open Go.RowKit

def flat (L : List Job) : List Value := L.flatMap Job.cells
theorem flat_at : ∀ (L : List Job) (i : Nat) (j : Job) (t : Nat), L[i]? = some j → t < 5 → (flat L)[i * 5 + t]? = j.cells[t]?
 | [], i, j, t, h, _ => by simp at h
 | x :: r, 0, j, t, h, ht => by
  simp at h
  subst h
  simp only [flat, List.flatMap_cons]
  rw [List.getElem?_append_left (by show 0 * 5 + t < 5; omega)]
  congr 1
  omega
 | x :: r, i + 1, j, t, h, ht => by
  have ih := flat_at r i j t (by simpa using h) ht
  simp only [flat, List.flatMap_cons] at ih ⊢
  rw [List.getElem?_append_right (by show 5 ≤ _; omega)]
  rw [← ih]
  congr 1
  show (i + 1) * 5 + t - 5 = _
  omega
theorem flat_set : ∀ (L : List Job) (i : Nat) (j j' : Job) (t : Nat) (u : Value), L[i]? = some j → t < 5 → j.cells.set t u = j'.cells → (flat L).set (i * 5 + t) u = flat (L.set i j')
 | [], i, j, j', t, u, h, _, _ => by simp at h
 | x :: r, 0, j, j', t, u, h, ht, e => by
  simp at h
  subst h
  simp only [flat, List.flatMap_cons, List.set_cons_zero]
  rw [List.set_append_left _ _ (by show 0 * 5 + t < 5; omega), ← e]
  congr 2
  omega
 | x :: r, i + 1, j, j', t, u, h, ht, e => by
  have ih := flat_set r i j j' t u (by simpa using h) ht e
  simp only [flat, List.flatMap_cons, List.set_cons_succ] at ih ⊢
  rw [List.set_append_right _ _ (by show 5 ≤ _; omega), ← ih]
  congr 2
  show (i + 1) * 5 + t - 5 = _
  omega

/-- The document's cluster: its own block, and the row of its jobs. -/
structure RefO (base bc : Nat) (nodes jobs wall last now : Int) (v : Value) (L : List Job) (w : World) : Prop where
 blk : w.heap[bc]? = some (.cells #[.int .i64 nodes, .int .i64 jobs, .int .i64 wall, .int .i64 last, .int .i64 now, v] 146 (0, 0))
 own : w.ownsRow base 148 5 v L.length (flat L)
 apart : v.ownBlock ≠ some bc
 low : base ≤ bc
 len : L.length ≤ 1000000000

theorem RefO.lt {base bc : Nat} {nodes jobs wall last now : Int} {v : Value} {L : List Job} {w : World} (h : RefO base bc nodes jobs wall last now v L w) : bc < w.heap.size := (Array.getElem?_eq_some_iff.1 h.blk).1

theorem RefO.on {base bc : Nat} {nodes jobs wall last now : Int} {v : Value} {L : List Job} {w w' : World} (h : RefO base bc nodes jobs wall last now v L w) (hk : ∀ k, k = bc ∨ v.ownBlock = some k → w'.heap[k]? = w.heap[k]?) : RefO base bc nodes jobs wall last now v L w' :=
 ⟨(hk bc (Or.inl rfl)).trans h.blk, owns_on h.own (fun k e => hk k (Or.inr e)), h.apart, h.low, h.len⟩
theorem RefO.kept {base bc : Nat} {nodes jobs wall last now : Int} {v : Value} {L : List Job} {w w' : World} {S : Nat → Prop} (h : RefO base bc nodes jobs wall last now v L w) (hK : Kept S w w') (hS : ∀ k, S k → k ≠ bc ∧ v.ownBlock ≠ some k) : RefO base bc nodes jobs wall last now v L w' :=
 h.on fun k hk => hK.block k (hk.elim (fun e => e ▸ h.lt) (fun e => (h.own.lt k e).2)) (fun hs => hk.elim (hS k hs).1 (hS k hs).2)

theorem RefO.cell {base bc : Nat} {nodes jobs wall last now : Int} {v : Value} {L : List Job} {w : World} (h : RefO base bc nodes jobs wall last now v L w) (j : Nat) : w.cell? ⟨bc, j, none⟩ = #[Value.int .i64 nodes, .int .i64 jobs, .int .i64 wall, .int .i64 last, .int .i64 now, v][j]? := cell_of_row _ _ j _ _ (0, 0) h.blk
theorem RefO.frozen {base bc : Nat} {nodes jobs wall last now : Int} {v : Value} {L : List Job} {w : World} (h : RefO base bc nodes jobs wall last now v L w) (j : Nat) : w.frozen? ⟨bc, j, none⟩ = false := frozen_of_row _ _ j _ _ h.blk

theorem RefO.toC {base bc : Nat} {nodes jobs wall last now : Int} {v : Value} {L : List Job} {w : World} (h : RefO base bc nodes jobs wall last now v L w) : ∃ p cap, v = .slice p L.length cap ∧ RefC bc nodes jobs wall last now p cap L w := by
 have hrow : ∀ g cap, v = .slice (some ⟨g, 0, none⟩) L.length cap → Jobs w (some ⟨g, 0, none⟩) L := fun g cap e i j hj => ⟨g, rfl, fun t x hx => by
  subst e
  have ht : t < 5 := (List.getElem?_eq_some_iff.1 hx).1
  have hi := (List.getElem?_eq_some_iff.1 hj).1
  rw [h.own.cellAt (i * 5 + t) (by omega), flat_at L i j t hj ht]
  exact hx⟩
 rcases own_forms h.own with ⟨e, hn⟩ | ⟨g, cap, e⟩
 ·refine ⟨none, 0, by rw [e, hn], ⟨h.cell 0, h.cell 1, h.cell 2, h.cell 3, h.cell 4, by rw [h.cell 5, e, hn]; rfl, fun i j hj => ?_, h.len⟩⟩
  have := (List.getElem?_eq_some_iff.1 hj).1
  omega
 ·exact ⟨some ⟨g, 0, none⟩, cap, e, ⟨h.cell 0, h.cell 1, h.cell 2, h.cell 3, h.cell 4, by rw [h.cell 5, e]; rfl, hrow g cap e, h.len⟩⟩

end Go.Proofs.YtpcgnadfldimhaaGreatDoor
namespace Go.Proofs.YtpcgnadfldimhaaGreatDoor
open Go.RowKit

theorem Tryz.infoEv : (Tryz.prog.info? 55).map (fun i => (i.zero, i.size, i.bytes)) = some (some (.agg #[.int .i64 0, .int .i64 0, .int .i64 0, .int .i64 0]), 4, 32) := by kernel_rfl

def Ev.cells (e : Ev) : List Value := [.int .i64 e.kind, .int .i64 e.id, .int .i64 e.time, .int .i64 e.dest]
def flatE (l : List Ev) : List Value := l.flatMap Ev.cells

theorem RefO.store {base bc : Nat} {nodes jobs wall last now : Int} {g cap : Nat} {L : List Job} {w : World} (h : RefO base bc nodes jobs wall last now (.slice (some ⟨g, 0, none⟩) L.length cap) L w) (i : Nat) (j j' : Job) (t : Nat) (u : Value) (hj : L[i]? = some j) (ht : t < 5) (e : j.cells.set t u = j'.cells) :
  RefO base bc nodes jobs wall last now (.slice (some ⟨g, 0, none⟩) L.length cap) (L.set i j') (w.setCell ⟨g, i * 5 + t, none⟩ u) := by
 have hs := h.own.stored (i * 5 + t) u
 have hne : bc ≠ g := fun e => h.apart (by simp [Value.ownBlock, e])
 refine ⟨(Below.heap_setCell _ _ _ bc hne).trans h.blk, ?_, h.apart, h.low, by simpa using h.len⟩
 have := hs.1
 rw [flat_set L i j j' t u hj ht e] at this
 simpa using this

set_option maxHeartbeats 2000000 in
set_option maxRecDepth 100000 in
theorem starts_any (base bc : Nat) (nodes jobs wall last now : Int) (v : Value) (L : List Job) (w : World) (h : RefO base bc nodes jobs wall last now v L w) :
  Calls Tryz.prog 111 #[.pointer (some ⟨bc, 0, none⟩)] w fun e w' => ∃ x, e = .returned x ∧ w'.ownsRow w.heap.size 55 4 x (startE L now L.length).length (flatE (startE L now L.length)) ∧ RefO base bc nodes jobs wall last now v (L.map (Job.go now)) w' ∧ Kept (fun k => v.ownBlock = some k) w w' := by
 obtain ⟨i0, hi, hz0, hz1, hz2⟩ := info_parts Tryz.infoEv
 have hlen := h.len
 have hlt0 := h.lt
 obtain ⟨p, cap, rfl, hC⟩ := h.toC
 have c5 := hC.c5
 clear hC
 go_enter Tryz.func111, Tryz.ntmps111
 go_wp2
 go_loopw [3, 4] (fun x i wr => ∃ k : Nat, k ≤ L.length ∧ i = .int .i64 k ∧ wr.ownsRow w.heap.size 55 4 x (startE L now k).length (flatE (startE L now k)) ∧ RefO base bc nodes jobs wall last now (.slice p L.length cap) (startL L now k) wr ∧ Kept (fun k => (Value.slice p L.length cap).ownBlock = some k) w wr) (fun _ i _ => L.length - (intOf i).toNat)
 case atStart => exact ⟨0, Nat.zero_le _, rfl, World.ownsRow_nil _ _ _ _, by rw [startL_zero]; exact h, Kept.refl _ _⟩
 case round =>
  obtain ⟨k, hk, rfl, hown, hr, hkp⟩ := hrel
  have d4 := hr.cell 4
  have d5 := hr.cell 5
  simp at d4 d5
  by_cases hlt : k < L.length
  ·obtain ⟨j, hj⟩ : ∃ j, L[k]? = some j := ⟨_, List.getElem?_eq_getElem hlt⟩
   have hj' : (startL L now k)[k]? = some j := (startL_at L now k).trans hj
   obtain ⟨g, rfl⟩ : ∃ g, p = some ⟨g, 0, none⟩ := by
    rcases own_forms hr.own with ⟨_, hn⟩ | ⟨g, c2, e⟩
    ·rw [startL_len] at hn
     omega
    ·exact ⟨g, by simpa using (Value.slice.inj e).1⟩
   have hll : (startL L now k).length = L.length := startL_len L now k
   have hr' : RefO base bc nodes jobs wall last now (.slice (some ⟨g, 0, none⟩) (startL L now k).length cap) (startL L now k) wr := by rw [hll]; exact hr
   have HS := Lib.hid (startE_step L now k j hj)
   have HL := Lib.hid (startL_step L now k j hj)
   have r2 := (hr'.own.cellAt (k * 5 + 2) (by omega)).trans (flat_at _ k j 2 hj' (by omega))
   have r3 := (hr'.own.cellAt (k * 5 + 3) (by omega)).trans (flat_at _ k j 3 hj' (by omega))
   have f2 := hr'.own.frozenAt (k * 5 + 2)
   obtain ⟨wd, wl, ph, st, en⟩ := j
   simp [Job.cells] at r2 r3
   by_cases hg : ph = 1 ∧ st = now
   ·obtain ⟨rfl, rfl⟩ := hg
    have hgo : Job.go st ⟨wd, wl, 1, st, en⟩ = ⟨wd, wl, 2, st, en⟩ := by simp [Job.go]
    have hst := hr'.store k ⟨wd, wl, 1, st, en⟩ ⟨wd, wl, 2, st, en⟩ 2 (.int .i64 2) hj' (by omega) rfl
    rw [hll] at hst
    have hne : (x : Nat) → x < w.heap.size → w.heap.size ≤ x → False := fun x a b => by omega
    have hgl : g < w.heap.size := (h.own.lt g rfl).2
    have hown1 := ownsRow_setCell_other hown (a := ⟨g, k * 5 + 2, none⟩) (fun e => by have := (hown.lt g e).1; omega) (.int .i64 2)
    have e4 := hst.cell 4
    have e5 := hst.cell 5
    simp at e4 e5
    have hsz := hkp.size
    have hl1 := startE_len L st k
    go_wp2
    go_quiet (fail)
    go_wp2_with (at_builtin; refine wpList_append_own _ rfl _ _ 32 rfl w.heap.size 55 i0 (.agg #[.int .i64 0, .int .i64 0, .int .i64 0, .int .i64 0]) 4 32 Tryz.underlying32 hi hz0 hz1 hz2 rfl (by decide) _ _ _ rfl (hown1.alloc _) ⟨wr.heap.size, 0, none⟩ 1 1 [.int .i64 1, .int .i64 ((k : Int) + 1), .int .i64 st, .int .i64 0] rfl rfl (news_at _ #[.int .i64 1, .int .i64 ((k : Int) + 1), .int .i64 st, .int .i64 0] _ _ (by simp)) (by intro u' hu'; simp at hu'; rcases hu' with rfl | rfl | rfl | rfl <;> rfl) (by unfold maxLen; omega) (by omega) (by simp; omega) ?_)
    intro v' w1 hown' hgrow _
    have hst1 : RefO base bc nodes jobs wall last st (.slice (some ⟨g, 0, none⟩) L.length cap) (startL L st (k + 1)) ((wr.drewN nq).setCell ⟨g, k * 5 + 2, none⟩ (.int .i64 2)) := by
     rw [HL.out, hgo]
     exact hst.on (fun _ _ => rfl)
    have hst3 := (hst1.kept (S := fun _ => False) ((Kept.refl _ _).alloc _) (fun _ e => e.elim)).kept ((Kept.refl _ _).grown hgrow (fun i e => Or.inl e)) (fun i e => ⟨fun e2 => by have := (hown.lt i e).1; omega, fun e2 => by have := (hown.lt i e).1; simp [Value.ownBlock] at e2; omega⟩)
    have hkp3 : Kept (fun k => (Value.slice (some ⟨g, 0, none⟩) L.length cap).ownBlock = some k) w w1 := (((hkp.drewN nq).setCell (p := ⟨g, k * 5 + 2, none⟩) (Or.inl rfl) (.int .i64 2)).alloc _).grown hgrow (fun i e => Or.inr (hown.lt i e).1)
    have hown3 : w1.ownsRow w.heap.size 55 4 v' (startE L st (k + 1)).length (flatE (startE L st (k + 1))) := by
     rw [HS.out]
     simpa [flatE, Ev.cells] using hown'
    clear hown' hgrow hown1 hst hst1 hr hr' hkp
    go_wp2
    go_roundw
    case rel => exact ⟨k + 1, by omega, by go_num, hown3, hst3, hkp3⟩
    case measure => simp [intOf]; omega
   ·have hst3 : RefO base bc nodes jobs wall last now (.slice (some ⟨g, 0, none⟩) L.length cap) (startL L now (k + 1)) wr := by
     rw [HL.out]
     have e1 : Job.go now ⟨wd, wl, ph, st, en⟩ = ⟨wd, wl, ph, st, en⟩ := by simp only [Job.go]; rw [if_neg hg]
     rw [e1]
     have e2 : (startL L now k).set k ⟨wd, wl, ph, st, en⟩ = startL L now k := by
      have := (List.getElem?_eq_some_iff.1 hj').2
      rw [← this]
      exact List.set_getElem_self _
     rw [e2]
     exact hr
    have hown3 : wr.ownsRow w.heap.size 55 4 u3 (startE L now (k + 1)).length (flatE (startE L now (k + 1))) := by
     rw [HS.out, if_neg hg]
     exact hown
    by_cases h1 : ph = 1
    ·subst h1
     have h2 : ¬ st = now := fun e => hg ⟨rfl, e⟩
     go_wp2
     go_quiet (fail)
     go_wp2
     go_roundw
     case rel => exact ⟨k + 1, by omega, by go_num, hown3, hst3.on (fun _ _ => rfl), hkp.drewN _⟩
     case measure => simp [intOf]; omega
    ·go_wp2
     go_quiet (fail)
     go_wp2
     go_roundw
     case rel => exact ⟨k + 1, by omega, by go_num, hown3, hst3.on (fun _ _ => rfl), hkp.drewN _⟩
     case measure => simp [intOf]; omega
  ·obtain rfl : k = L.length := by omega
   go_wp2
   go_ret
   exact ⟨_, rfl, hown, by rw [← startL_all]; exact hr, hkp⟩

end Go.Proofs.YtpcgnadfldimhaaGreatDoor
