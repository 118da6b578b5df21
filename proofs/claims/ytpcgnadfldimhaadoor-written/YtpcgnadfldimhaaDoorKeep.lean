/-
  berthkeep.Written, walked.
-/
import Derived.Test.YtpcgnadfldimhaaDoorPick
namespace Go.Proofs.YtpcgnadfldimhaaDoor
open Go.RowKit

/-- A command lies at the block b. -/
def Three (w : World) (b : Nat) (x y z : Int) : Prop := w.cell? ⟨b, 0, none⟩ = some (.int .i64 x) ∧ w.cell? ⟨b, 1, none⟩ = some (.int .i64 y) ∧ w.cell? ⟨b, 2, none⟩ = some (.int .i64 z)
theorem Three.on {w w' : World} {b : Nat} {x y z : Int} (h : Three w b x y z) (hb : Below w.heap.size w w') : Three w' b x y z :=
  ⟨(hb.cell (block_lt_of_cell h.1)).trans h.1, (hb.cell (block_lt_of_cell h.2.1)).trans h.2.1, (hb.cell (block_lt_of_cell h.2.2)).trans h.2.2⟩
theorem Three.lt {w : World} {b : Nat} {x y z : Int} (h : Three w b x y z) : b < w.heap.size := block_lt_of_cell h.1
theorem three_new {w w1 : World} {x y z : Int} {t : TypeId} (hb : Below (w.alloc (.cells #[.int .i64 x, .int .i64 y, .int .i64 z] t)).heap.size (w.alloc (.cells #[.int .i64 x, .int .i64 y, .int .i64 z] t)) w1) : Three w1 w.heap.size x y z := (three_old hb).1
theorem after {w w1 : World} {o : Obj} (hb : Below (w.alloc o).heap.size (w.alloc o) w1) : Below w.heap.size w w1 :=
  ((Below.refl w.heap.size w).alloc (Nat.le_refl _) _).trans (hb.mono (by simp))
theorem Env.up {a : Addr} {m : Int} {w : World} (h : Env a m w) (o : Obj) : Env a m (w.alloc o) := h.on ((Below.refl _ _).alloc (Nat.le_refl _) _)

theorem render_first (a : Addr) (m : Int) (w : World) (h : Env a m w) :
    Calls Tryd.prog 5 #[.agg #[.int .i64 1, .int .i64 3, .int .i64 10]] w fun e w' => e = .returned (.string ⟨#[83, 85, 66, 77, 73, 84, 32, 51, 32, 49, 48]⟩) ∧ Below w.heap.size w w' := by
  rw [← first_rend]
  exact render_any a m w h 1 3 10
theorem parse_first (a : Addr) (m : Int) (w : World) (h : Env a m w) :
    Calls Tryd.prog 4 #[.string ⟨#[83, 85, 66, 77, 73, 84, 32, 51, 32, 49, 48]⟩] w fun e w' => e = .returned (.tuple #[.agg #[.int .i64 1, .int .i64 3, .int .i64 10], .int .i64 0]) ∧ Below w.heap.size w w' :=
  parse_cmd a m w h _ 1 3 10 first_cmd

theorem rend_ne {k x y : Int} (h : rendOk k x y = true) : ((rend k x y).toList == []) = false := by
  rw [rend_data h, ByteArray.toList_eq]
  obtain ⟨n, rfl, h1, h7, hc⟩ := rend_parts h
  rw [Int.toNat_natCast]
  have hw := word_nonempty n h1 h7
  rcases hc with ⟨_, rfl, rfl, hl⟩ | ⟨_, rfl, u, hu, rfl, hl⟩ | ⟨_, u, v, hu, hv, rfl, rfl, hl⟩ 
  · rw [hl]
    exact beq_eq_false_iff_ne.2 hw
  · rw [hl]
    exact beq_eq_false_iff_ne.2 (by simp)
  · rw [hl]
    exact beq_eq_false_iff_ne.2 (by simp)
theorem cat_small {R l : ByteArray} (h : R.size ≤ 50) (hl : l.size ≤ 50) : (R ++ l).size ≤ maxLen := by rw [ByteArray.size_append]; unfold maxLen; omega
theorem rend_no {k x y : Int} (h : ¬ rendOk k x y = true) : rend k x y = ⟨#[]⟩ := by unfold rend; rw [if_neg h]

theorem parse_seven (a : Addr) (m : Int) (w : World) (h : Env a m w) (r : Nat) (hr : r ≤ 16) :
    Calls Tryd.prog 4 #[.string ((⟨#[84, 73, 67, 75, 32]⟩ : ByteArray) ++ noughts r ++ ⟨#[55]⟩)] w fun e w' => e = .returned (.tuple #[.agg #[.int .i64 4, .int .i64 7, .int .i64 0], .int .i64 0]) ∧ Below w.heap.size w w' :=
  parse_cmd a m w h _ 4 7 0 (tick_seven r hr)
theorem parse_long (a : Addr) (m : Int) (w : World) (h : Env a m w) (r : Nat) (hr : r ≤ 16) :
    Calls Tryd.prog 4 #[.string ((⟨#[84, 73, 67, 75, 32, 48]⟩ : ByteArray) ++ noughts r ++ ⟨#[48, 48, 48, 48, 48, 48, 48, 48, 48, 48, 48, 48, 48, 48, 48, 48, 48, 55]⟩)] w fun e w' => e = .returned (.tuple #[.agg #[.int .i64 0, .int .i64 0, .int .i64 0], .int .i64 1]) ∧ Below w.heap.size w w' :=
  parse_nocmd a m w h _ (by rw [ByteArray.size_append, ByteArray.size_append, noughts_size]; simp [ByteArray.size]; unfold maxLen; omega) (tick_long r)

set_option maxHeartbeats 4000000 in
set_option maxRecDepth 100000 in
theorem written_walk (a : Addr) (m : Int) (w : World) (h : Env a m w) (k x y z : Int) (s : ByteArray) (hm : s.size ≤ maxLen) (h1 : -9223372036854775808 ≤ z) (h2 : z ≤ 9223372036854775807) :
    Calls Tryd.prog 3 #[.agg #[.int .i64 k, .int .i64 x, .int .i64 y], .string s, .int .i64 z] w fun e w' => e = .returned (.bool true) ∧ Below w.heap.size w w' := by
  go_enter Tryd.func3, Tryd.ntmps3
  go_wp2_with (go_at_call 4; refine (parse_first a m _ (h.up _)).mono ?_; rintro e w1 ⟨rfl, hb1⟩; refine Hid.out ?_)
  refine Lib.hid ?_
  have C := three_new hb1
  have hb := after hb1
  have hE1 := h.on hb
  clear hb1
  go_wp2_with (go_at_call 5; refine (render_first a m _ (hE1.up _)).mono ?_; rintro e w2 ⟨rfl, hb2⟩; refine Hid.out ?_)
  refine Lib.hid ?_
  have A := three_new hb2
  have hbb := after hb2
  have C2 := C.on hbb
  have hb' := hb.trans (hbb.mono hb.size)
  have hE2 := hE1.on hbb
  have hlt := C2.lt
  obtain ⟨a0, a1, a2⟩ := A
  obtain ⟨c0, c1, c2⟩ := C2
  clear hb2 hbb
  go_wp2_with (go_at_call 5; refine (render_any a m _ hE2 k x y).mono ?_; rintro e w3 ⟨rfl, hb3⟩; refine Hid.out ?_)
  refine Lib.hid ?_
  have C3 := Three.on ⟨c0, c1, c2⟩ hb3
  have hb'' := hb'.trans (hb3.mono hb'.size)
  have hE3 := hE2.on hb3
  clear hb3 hE2 hE1 hb' hb a0 a1 a2 c0 c1 c2 C
  by_cases hok : rendOk k x y = true
  · obtain ⟨n, rfl, hc⟩ := cmd_rend hok
    have hc := Lib.hid hc
    have f1 := Lib.hid (no_behind hok)
    have f2 := Lib.hid (no_ahead (rend n x y))
    have f3 := Lib.hid (no_line hok)
    have hsz : (rend n x y).size ≤ 50 := rend_small
    have hne : ((rend n x y).toList == []) = false := rend_ne hok
    generalize rend n x y = R at *
    go_wp2_with (go_at_call 4; refine (parse_cmd a m _ hE3 R n x y hc.out).mono ?_; rintro e w4 ⟨rfl, hb4⟩; refine Hid.out ?_)
    refine Lib.hid ?_
    have C4 := C3.on hb4
    have hb5 := hb''.trans (hb4.mono hb''.size)
    have hE4 := hE3.on hb4
    clear hb4 hE3 hb'' C3
    have g1 := cat_small (l := ⟨#[32]⟩) hsz (by decide)
    have g2 := cat_small (R := ⟨#[32]⟩) (l := R) (by decide) hsz
    have g3 := cat_small (l := ⟨#[10]⟩) hsz (by decide)
    go_wp2_with (go_at_call 4; refine (parse_nocmd a m _ (hE4.up _) _ g1 f1.out).mono ?_; rintro e w5 ⟨rfl, hb4⟩; refine Hid.out ?_)
    refine Lib.hid ?_
    have B5 := three_new hb4
    have hbb := after hb4
    have C5 := C4.on hbb
    have hb6 := hb5.trans (hbb.mono hb5.size)
    have hE5 := hE4.on hbb
    clear hb4 hE4 hb5 C4 hbb f1 g1
    go_wp2_with (go_at_call 4; refine (parse_nocmd a m _ (by first | exact hE5 | exact hE5.up _) _ g2 f2.out).mono ?_; rintro e w6 ⟨rfl, hb4⟩; refine Hid.out ?_)
    refine Lib.hid ?_
    have hbb : Below w5.heap.size w5 w6 := by first | exact after hb4 | exact hb4
    have B6 := B5.on hbb
    have C6 := C5.on hbb
    have hb7 := hb6.trans (hbb.mono hb6.size)
    have hE6 := hE5.on hbb
    clear hb4 hE5 hb6 C5 B5 hbb f2 g2
    go_wp2_with (go_at_call 4; refine (parse_nocmd a m _ (by first | exact hE6 | exact hE6.up _) _ g3 f3.out).mono ?_; rintro e w7 ⟨rfl, hb4⟩; refine Hid.out ?_)
    refine Lib.hid ?_
    have hbb : Below w6.heap.size w6 w7 := by first | exact after hb4 | exact hb4
    have B7 := B6.on hbb
    have C7 := C6.on hbb
    have hb8 := hb7.trans (hbb.mono hb7.size)
    have hE7 := hE6.on hbb
    clear hb4 hE6 hb7 C6 B6 hbb f3 g3
    have hlB := B7.lt
    have hlC := C7.lt
    obtain ⟨b0, b1, b2⟩ := B7
    obtain ⟨c0, c1, c2⟩ := C7
    by_cases hs : ∃ n x y, Cmd s n x y
    · obtain ⟨p, u, v, hq⟩ := hs
      have hq := Lib.hid hq
      go_wp2_with (go_at_call 4; refine (parse_cmd a m _ (by first | exact hE7 | exact hE7.up _) s p u v hq.out).mono ?_; rintro e w8 ⟨rfl, hb4⟩; refine Hid.out ?_)
      refine Lib.hid ?_
      have hbb : Below w7.heap.size w7 w8 := by first | exact after hb4 | exact hb4
      have hb9 := hb8.trans (hbb.mono hb8.size)
      have hE8 := hE7.on hbb
      clear hb4 hbb b0 b1 b2 c0 c1 c2 hlB hlC hE7 hb8 hne hc hsz hok
      have hk2 := ok_of_cmd hq.out
      obtain ⟨p', hp', hcc⟩ := cmd_rend hk2
      obtain rfl : p = p' := by omega
      have hcc := Lib.hid hcc
      have hne2 : ((rend p u v).toList == []) = false := rend_ne hk2
      clear hp' hk2 hq
      go_wp2_with (go_at_call 5; refine (render_any a m _ (hE8.up _) p u v).mono ?_; rintro e w9 ⟨rfl, hb4⟩; refine Hid.out ?_)
      refine Lib.hid ?_
      have D9 := three_new hb4
      have hbb := after hb4
      have hb10 := hb9.trans (hbb.mono hb9.size)
      have hE9 := hE8.on hbb
      clear hb4 hbb hE8 hb9
      generalize rend p u v = T at *
      go_wp2_with (go_at_call 4; refine (parse_cmd a m _ hE9 T p u v hcc.out).mono ?_; rintro e w10 ⟨rfl, hb4⟩; refine Hid.out ?_)
      refine Lib.hid ?_
      have D10 := D9.on hb4
      have hb11 := hb10.trans (hb4.mono hb10.size)
      have hE10 := hE9.on hb4
      clear hb4 hE9 hb10 D9 hcc
      go_wp2_with (go_at_call 6; refine (pick_17 z h1 h2 _).mono ?_; rintro e w' ⟨⟨r, rfl, hr⟩, rfl⟩; refine Hid.out ?_)
      refine Lib.hid ?_
      go_wp2
      go_loopw [23, 24] (fun ns i wr => ∃ j : Nat, j ≤ r ∧ i = .int .i64 j ∧ ns = .string (noughts j) ∧ wr = w10.alloc (.cells #[.int .i64 p, .int .i64 u, .int .i64 v] 23)) (fun _ i _ => r - (intOf i).toNat)
      case atStart => exact ⟨0, Nat.zero_le _, rfl, rfl, rfl⟩
      case round =>
        obtain ⟨j, hj, rfl, rfl, rfl⟩ := hrel
        have hns := noughts_size j
        by_cases hlt : j < r
        · go_wp2
          go_roundw
          case rel => exact ⟨j + 1, by omega, by go_num, by rw [← noughts_more], trivial⟩
          case measure => simp [intOf]; omega
        · obtain rfl : j = r := by omega
          go_wp2_with (go_at_call 4; refine (parse_seven a m _ (hE10.up _) j hr).mono ?_; rintro e w11 ⟨rfl, hb4⟩; refine Hid.out ?_)
          refine Lib.hid ?_
          have A11 := three_new hb4
          have hbb := after hb4
          have D11 := D10.on hbb
          have hb12 := hb11.trans (hbb.mono hb11.size)
          have hE11 := hE10.on hbb
          clear hb4 hbb hE10 hb11 D10
          go_wp2_with (go_at_call 4; refine (parse_long a m _ (hE11.up _) j hr).mono ?_; rintro e w12 ⟨rfl, hb4⟩; refine Hid.out ?_)
          refine Lib.hid ?_
          have L12 := three_new hb4
          have hbb := after hb4
          have A12 := A11.on hbb
          have D12 := D11.on hbb
          have hb13 := hb12.trans (hbb.mono hb12.size)
          clear hb4 hbb hb12 A11 D11
          have l1 := L12.lt
          have l2 := A12.lt
          have l3 := D12.lt
          obtain ⟨b0, b1, b2⟩ := A12
          obtain ⟨c0, c1, c2⟩ := D12
          obtain ⟨d0, d1, d2⟩ := L12
          go_wp2
          go_ret
          exact ⟨by simp, by first | exact hb13.alloc hb13.size _ | exact hb13⟩
    · have hs' := Lib.hid (fun n x y hc => hs ⟨n, x, y, hc⟩ : ∀ n x y, ¬ Cmd s n x y)
      go_wp2_with (go_at_call 4; refine (parse_nocmd a m _ (by first | exact hE7 | exact hE7.up _) s hm hs'.out).mono ?_; rintro e w8 ⟨rfl, hb4⟩; refine Hid.out ?_)
      refine Lib.hid ?_
      have hbb : Below w7.heap.size w7 w8 := by first | exact after hb4 | exact hb4
      have hb9 := hb8.trans (hbb.mono hb8.size)
      clear hb4 hbb b0 b1 b2 c0 c1 c2 hlB hlC hE7 hb8 hne hc hsz hok
      go_wp2
      go_ret
      exact ⟨by simp, by first | exact hb9.alloc hb9.size _ | exact hb9⟩
  · rw [rend_no hok]
    clear C3
    by_cases hs : ∃ n x y, Cmd s n x y
    · obtain ⟨p, u, v, hq⟩ := hs
      have hq := Lib.hid hq
      go_wp2_with (go_at_call 4; refine (parse_cmd a m _ (by first | exact hE3 | exact hE3.up _) s p u v hq.out).mono ?_; rintro e w8 ⟨rfl, hb4⟩; refine Hid.out ?_)
      refine Lib.hid ?_
      have hbb : Below w3.heap.size w3 w8 := by first | exact after hb4 | exact hb4
      have hb9 := hb''.trans (hbb.mono hb''.size)
      have hE8 := hE3.on hbb
      clear hb4 hbb hE3 hb''
      have hk2 := ok_of_cmd hq.out
      obtain ⟨p', hp', hcc⟩ := cmd_rend hk2
      obtain rfl : p = p' := by omega
      have hcc := Lib.hid hcc
      have hne2 : ((rend p u v).toList == []) = false := rend_ne hk2
      clear hp' hk2 hq
      go_wp2_with (go_at_call 5; refine (render_any a m _ (hE8.up _) p u v).mono ?_; rintro e w9 ⟨rfl, hb4⟩; refine Hid.out ?_)
      refine Lib.hid ?_
      have D9 := three_new hb4
      have hbb := after hb4
      have hb10 := hb9.trans (hbb.mono hb9.size)
      have hE9 := hE8.on hbb
      clear hb4 hbb hE8 hb9
      generalize rend p u v = T at *
      go_wp2_with (go_at_call 4; refine (parse_cmd a m _ hE9 T p u v hcc.out).mono ?_; rintro e w10 ⟨rfl, hb4⟩; refine Hid.out ?_)
      refine Lib.hid ?_
      have D10 := D9.on hb4
      have hb11 := hb10.trans (hb4.mono hb10.size)
      have hE10 := hE9.on hb4
      clear hb4 hE9 hb10 D9 hcc
      go_wp2_with (go_at_call 6; refine (pick_17 z h1 h2 _).mono ?_; rintro e w' ⟨⟨r, rfl, hr⟩, rfl⟩; refine Hid.out ?_)
      refine Lib.hid ?_
      go_wp2
      go_loopw [23, 24] (fun ns i wr => ∃ j : Nat, j ≤ r ∧ i = .int .i64 j ∧ ns = .string (noughts j) ∧ wr = w10.alloc (.cells #[.int .i64 p, .int .i64 u, .int .i64 v] 23)) (fun _ i _ => r - (intOf i).toNat)
      case atStart => exact ⟨0, Nat.zero_le _, rfl, rfl, rfl⟩
      case round =>
        obtain ⟨j, hj, rfl, rfl, rfl⟩ := hrel
        have hns := noughts_size j
        by_cases hlt : j < r
        · go_wp2
          go_roundw
          case rel => exact ⟨j + 1, by omega, by go_num, by rw [← noughts_more], trivial⟩
          case measure => simp [intOf]; omega
        · obtain rfl : j = r := by omega
          go_wp2_with (go_at_call 4; refine (parse_seven a m _ (hE10.up _) j hr).mono ?_; rintro e w11 ⟨rfl, hb4⟩; refine Hid.out ?_)
          refine Lib.hid ?_
          have A11 := three_new hb4
          have hbb := after hb4
          have D11 := D10.on hbb
          have hb12 := hb11.trans (hbb.mono hb11.size)
          have hE11 := hE10.on hbb
          clear hb4 hbb hE10 hb11 D10
          go_wp2_with (go_at_call 4; refine (parse_long a m _ (hE11.up _) j hr).mono ?_; rintro e w12 ⟨rfl, hb4⟩; refine Hid.out ?_)
          refine Lib.hid ?_
          have L12 := three_new hb4
          have hbb := after hb4
          have A12 := A11.on hbb
          have D12 := D11.on hbb
          have hb13 := hb12.trans (hbb.mono hb12.size)
          clear hb4 hbb hb12 A11 D11
          have l1 := L12.lt
          have l2 := A12.lt
          have l3 := D12.lt
          obtain ⟨b0, b1, b2⟩ := A12
          obtain ⟨c0, c1, c2⟩ := D12
          obtain ⟨d0, d1, d2⟩ := L12
          go_wp2
          go_ret
          exact ⟨by simp, by first | exact hb13.alloc hb13.size _ | exact hb13⟩
    · have hs' := Lib.hid (fun n x y hc => hs ⟨n, x, y, hc⟩ : ∀ n x y, ¬ Cmd s n x y)
      go_wp2_with (go_at_call 4; refine (parse_nocmd a m _ (by first | exact hE3 | exact hE3.up _) s hm hs'.out).mono ?_; rintro e w8 ⟨rfl, hb4⟩; refine Hid.out ?_)
      refine Lib.hid ?_
      have hbb : Below w3.heap.size w3 w8 := by first | exact after hb4 | exact hb4
      have hb9 := hb''.trans (hbb.mono hb''.size)
      clear hb4 hbb hE3 hb''
      go_wp2
      go_ret
      exact ⟨by simp, by first | exact hb9.alloc hb9.size _ | exact hb9⟩

end Go.Proofs.YtpcgnadfldimhaaDoor
