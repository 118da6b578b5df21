/-
 command.Write where the command has no line.
-/
import Derived.Test.YtpcgnadfldimhaaGreatDoorWrite
namespace Go.Proofs.YtpcgnadfldimhaaGreatDoor
open Go.RowKit

/-- No line is written: a refusal comes back. -/
def NoLine (a : Addr) (w : World) (e : Ending) (w' : World) : Prop := ∃ b, e = .returned (.tuple #[.string ⟨#[]⟩, .iface 209 (.pointer (some ⟨b, 0, none⟩))]) ∧ Refusal a b w' ∧ Below w.heap.size w w'
theorem refusal_two (W : World) (a : Addr) (s1 s2 : Value) : Refusal a (W.heap.size + 1) ((W.alloc (.cells #[s1, .iface 315 (.pointer (some a))] 211)).alloc (.cells #[s2, .iface 209 (.pointer (some ⟨W.heap.size, 0, none⟩))] 211)) := by
 refine Or.inr ⟨W.heap.size, ?_, ?_⟩
 ·exact (newcell (by simp) 1).trans rfl
 ·exact old1 ((newcell rfl 1).trans rfl) _
theorem refusal_up3 {w2 : World} (a : Addr) (o1 : Obj) (s1 s2 : Value) : Refusal a (w2.heap.size + 1 + 1) (((w2.alloc o1).alloc (.cells #[s1, .iface 315 (.pointer (some a))] 211)).alloc (.cells #[s2, .iface 209 (.pointer (some ⟨w2.heap.size + 1, 0, none⟩))] 211)).drew := by
 have h := refusal_two (w2.alloc o1) a s1 s2
 have e : (w2.alloc o1).heap.size = w2.heap.size + 1 := by simp
 rw [e] at h
 exact h
theorem refusal_up4 {w2 : World} (a : Addr) (o1 o2 : Obj) (s1 s2 : Value) : Refusal a (w2.heap.size + 1 + 1 + 1) ((((w2.alloc o1).alloc o2).alloc (.cells #[s1, .iface 315 (.pointer (some a))] 211)).alloc (.cells #[s2, .iface 209 (.pointer (some ⟨w2.heap.size + 1 + 1, 0, none⟩))] 211)).drew := by
 have h := refusal_two ((w2.alloc o1).alloc o2) a s1 s2
 have e : ((w2.alloc o1).alloc o2).heap.size = w2.heap.size + 1 + 1 := by simp
 rw [e] at h
 exact h
theorem below_up3 {w w2 : World} (hb : Below w.heap.size w w2) (o1 o2 o3 : Obj) : Below w.heap.size w (((w2.alloc o1).alloc o2).alloc o3).drew := below_drewN (n := 1) (hb.trans ((below3 o1 o2 o3).mono hb.size))
theorem below_up4 {w w2 : World} (hb : Below w.heap.size w w2) (o1 o2 o3 o4 : Obj) : Below w.heap.size w ((((w2.alloc o1).alloc o2).alloc o3).alloc o4).drew := below_drewN (n := 1) (hb.trans ((below4 o1 o2 o3 o4).mono hb.size))

set_option maxHeartbeats 2000000 in
set_option maxRecDepth 100000 in
theorem write_kind (a : Addr) (m : Int) (w : World) (h : Env a m w) (k x y : Int) (hk : k < 1 ∨ 7 < k) :
  Calls Tryz.prog 39 #[.agg #[.int .i64 k, .int .i64 x, .int .i64 y]] w (NoLine a w) := by
 have hE1 : ∀ o, Env a m (w.alloc o) := fun o => h.on ((Below.refl _ _).alloc (Nat.le_refl _) _)
 go_enter Tryz.func39, Tryz.ntmps39
 go_wp2_with (go_at_call 67; refine (shapeOfKind_no a m _ (hE1 _) k hk).mono ?_; rintro e w1 ⟨b, rfl, hlb, heb, hb1⟩; refine Hid.out ?_)
 refine Lib.hid ?_
 have hz1' := hb1.size
 simp at hz1'
 have hb1' := ((Below.refl w.heap.size w).alloc (Nat.le_refl _) _).trans (hb1.mono (by simp))
 clear hb1
 go_wp2
 go_ret2
 exact ⟨_, rfl, Or.inl (old1 heb _), hb1'.alloc (by omega) _⟩

set_option maxHeartbeats 2000000 in
set_option maxRecDepth 100000 in
theorem write_badA0 (a : Addr) (m : Int) (w : World) (h : Env a m w) (n : Nat) (hn1 : 1 ≤ n) (hn7 : n ≤ 7) (HL : Hid (numsN n = 0)) (x y : Int) (hf : Hid (fitsB x (decide ((0 : Int) < 0)) = false)) :
  Calls Tryz.prog 39 #[.agg #[.int .i64 (n : Int), .int .i64 x, .int .i64 y]] w (NoLine a w) := by
 obtain ⟨i0, hi, hz0, hz1, hz2⟩ := info_parts Tryz.infoByte
 have hE1 : ∀ o, Env a m (w.alloc o) := fun o => h.on ((Below.refl _ _).alloc (Nat.le_refl _) _)
 go_enter Tryz.func39, Tryz.ntmps39
 go_wp2_with (go_at_call 67; refine (shapeOfKind_yes a m _ (hE1 _) n hn1 hn7).mono ?_; rintro e w1 ⟨rfl, hb1⟩; refine Hid.out ?_)
 refine Lib.hid ?_
 have hz1' := hb1.size
 simp at hz1'
 have c := three_old hb1
 have hb1' := ((Below.refl w.heap.size w).alloc (Nat.le_refl _) _).trans (hb1.mono (by simp))
 clear hb1
 have c1 := c.1.2.1
 have c2 := c.1.2.2
 clear c
 unfold shp
 rw [HL.out]
 go_wp2_with (refine wpList_bytes_mine rfl 9 123 5 _ rfl (wordB n) rfl Tryz.underlying9 Tryz.underlying123 Tryz.underlying5 ?_)
 intro v2 w2 hm2 hb2
 have hz2' := hb2.size
 simp at hz2'
 have hH2 := held_first c1 c2 hb2
 have hbw2 : Below w.heap.size w w2 := (hb1'.alloc (by omega) _).trans (hb2.mono (by omega))
 have hwl : (wordB n).size ≤ 6 := word_len n
 have hE2 : Env a m w2 := h.on hbw2
 clear hb2 c1 c2
 have e1 := hH2.x
 have e2 := hH2.y
 have s0 := hH2.k
 have s1 := hH2.d
 have s2 := hH2.l
 have hlt1 : w1.heap.size < w2.heap.size := by omega
 have hlt0 : w.heap.size < w2.heap.size := by omega
 have i0' := pair_at0 x y
 have i1' := pair_at1 x y
 go_wp2
 refine wp_loop_rounds 3 ?_
 rw [rounds_succ]
 have hEE : ∀ o, (w2.alloc o).cell? ⟨9, 0, none⟩ = some (.iface 315 (.pointer (some a))) := fun o => old1 hE2.err o
 go_wp2_with (go_at_call 68; refine (allows_is false _ _ _ _ _ (by exact hf.out) _).mono ?_; rintro e w' ⟨rfl, rfl⟩)
 go_region_with (first | (go_at_call 70; refine (refuse_any _ a _ ?_).mono ?_; exact hEE _ ; rintro e w' ⟨rfl, rfl⟩) | (go_at_call 69; refine (about_any _ _ _ _).mono ?_; rintro e w' ⟨rfl, rfl⟩))
 all_goals go_wp2
 all_goals go_ret2
 all_goals exact ⟨_, rfl, refusal_up3 a _ _ _, below_up3 hbw2 _ _ _⟩

set_option maxHeartbeats 2000000 in
set_option maxRecDepth 100000 in
theorem write_badA1 (a : Addr) (m : Int) (w : World) (h : Env a m w) (n : Nat) (hn1 : 1 ≤ n) (hn7 : n ≤ 7) (HL : Hid (numsN n = 1)) (x y : Int) (hf : Hid (fitsB x (decide ((0 : Int) < 1)) = false)) :
  Calls Tryz.prog 39 #[.agg #[.int .i64 (n : Int), .int .i64 x, .int .i64 y]] w (NoLine a w) := by
 obtain ⟨i0, hi, hz0, hz1, hz2⟩ := info_parts Tryz.infoByte
 have hE1 : ∀ o, Env a m (w.alloc o) := fun o => h.on ((Below.refl _ _).alloc (Nat.le_refl _) _)
 go_enter Tryz.func39, Tryz.ntmps39
 go_wp2_with (go_at_call 67; refine (shapeOfKind_yes a m _ (hE1 _) n hn1 hn7).mono ?_; rintro e w1 ⟨rfl, hb1⟩; refine Hid.out ?_)
 refine Lib.hid ?_
 have hz1' := hb1.size
 simp at hz1'
 have c := three_old hb1
 have hb1' := ((Below.refl w.heap.size w).alloc (Nat.le_refl _) _).trans (hb1.mono (by simp))
 clear hb1
 have c1 := c.1.2.1
 have c2 := c.1.2.2
 clear c
 unfold shp
 rw [HL.out]
 go_wp2_with (refine wpList_bytes_mine rfl 9 123 5 _ rfl (wordB n) rfl Tryz.underlying9 Tryz.underlying123 Tryz.underlying5 ?_)
 intro v2 w2 hm2 hb2
 have hz2' := hb2.size
 simp at hz2'
 have hH2 := held_first c1 c2 hb2
 have hbw2 : Below w.heap.size w w2 := (hb1'.alloc (by omega) _).trans (hb2.mono (by omega))
 have hwl : (wordB n).size ≤ 6 := word_len n
 have hE2 : Env a m w2 := h.on hbw2
 clear hb2 c1 c2
 have e1 := hH2.x
 have e2 := hH2.y
 have s0 := hH2.k
 have s1 := hH2.d
 have s2 := hH2.l
 have hlt1 : w1.heap.size < w2.heap.size := by omega
 have hlt0 : w.heap.size < w2.heap.size := by omega
 have i0' := pair_at0 x y
 have i1' := pair_at1 x y
 go_wp2
 refine wp_loop_rounds 3 ?_
 rw [rounds_succ]
 have hEE : ∀ o, (w2.alloc o).cell? ⟨9, 0, none⟩ = some (.iface 315 (.pointer (some a))) := fun o => old1 hE2.err o
 go_wp2_with (go_at_call 68; refine (allows_is false _ _ _ _ _ (by exact hf.out) _).mono ?_; rintro e w' ⟨rfl, rfl⟩)
 go_region_with (first | (go_at_call 70; refine (refuse_any _ a _ ?_).mono ?_; exact hEE _ ; rintro e w' ⟨rfl, rfl⟩) | (go_at_call 69; refine (about_any _ _ _ _).mono ?_; rintro e w' ⟨rfl, rfl⟩))
 all_goals go_wp2
 all_goals go_ret2
 all_goals exact ⟨_, rfl, refusal_up3 a _ _ _, below_up3 hbw2 _ _ _⟩

set_option maxHeartbeats 2000000 in
set_option maxRecDepth 100000 in
theorem write_badA2 (a : Addr) (m : Int) (w : World) (h : Env a m w) (n : Nat) (hn1 : 1 ≤ n) (hn7 : n ≤ 7) (HL : Hid (numsN n = 2)) (x y : Int) (hf : Hid (fitsB x (decide ((0 : Int) < 2)) = false)) :
  Calls Tryz.prog 39 #[.agg #[.int .i64 (n : Int), .int .i64 x, .int .i64 y]] w (NoLine a w) := by
 obtain ⟨i0, hi, hz0, hz1, hz2⟩ := info_parts Tryz.infoByte
 have hE1 : ∀ o, Env a m (w.alloc o) := fun o => h.on ((Below.refl _ _).alloc (Nat.le_refl _) _)
 go_enter Tryz.func39, Tryz.ntmps39
 go_wp2_with (go_at_call 67; refine (shapeOfKind_yes a m _ (hE1 _) n hn1 hn7).mono ?_; rintro e w1 ⟨rfl, hb1⟩; refine Hid.out ?_)
 refine Lib.hid ?_
 have hz1' := hb1.size
 simp at hz1'
 have c := three_old hb1
 have hb1' := ((Below.refl w.heap.size w).alloc (Nat.le_refl _) _).trans (hb1.mono (by simp))
 clear hb1
 have c1 := c.1.2.1
 have c2 := c.1.2.2
 clear c
 unfold shp
 rw [HL.out]
 go_wp2_with (refine wpList_bytes_mine rfl 9 123 5 _ rfl (wordB n) rfl Tryz.underlying9 Tryz.underlying123 Tryz.underlying5 ?_)
 intro v2 w2 hm2 hb2
 have hz2' := hb2.size
 simp at hz2'
 have hH2 := held_first c1 c2 hb2
 have hbw2 : Below w.heap.size w w2 := (hb1'.alloc (by omega) _).trans (hb2.mono (by omega))
 have hwl : (wordB n).size ≤ 6 := word_len n
 have hE2 : Env a m w2 := h.on hbw2
 clear hb2 c1 c2
 have e1 := hH2.x
 have e2 := hH2.y
 have s0 := hH2.k
 have s1 := hH2.d
 have s2 := hH2.l
 have hlt1 : w1.heap.size < w2.heap.size := by omega
 have hlt0 : w.heap.size < w2.heap.size := by omega
 have i0' := pair_at0 x y
 have i1' := pair_at1 x y
 go_wp2
 refine wp_loop_rounds 3 ?_
 rw [rounds_succ]
 have hEE : ∀ o, (w2.alloc o).cell? ⟨9, 0, none⟩ = some (.iface 315 (.pointer (some a))) := fun o => old1 hE2.err o
 go_wp2_with (go_at_call 68; refine (allows_is false _ _ _ _ _ (by exact hf.out) _).mono ?_; rintro e w' ⟨rfl, rfl⟩)
 go_region_with (first | (go_at_call 70; refine (refuse_any _ a _ ?_).mono ?_; exact hEE _ ; rintro e w' ⟨rfl, rfl⟩) | (go_at_call 69; refine (about_any _ _ _ _).mono ?_; rintro e w' ⟨rfl, rfl⟩))
 all_goals go_wp2
 all_goals go_ret2
 all_goals exact ⟨_, rfl, refusal_up3 a _ _ _, below_up3 hbw2 _ _ _⟩

set_option maxHeartbeats 2000000 in
set_option maxRecDepth 100000 in
theorem write_badB0 (a : Addr) (m : Int) (w : World) (h : Env a m w) (n : Nat) (hn1 : 1 ≤ n) (hn7 : n ≤ 7) (HL : Hid (numsN n = 0)) (y : Int) (hf : Hid (fitsB y (decide ((1 : Int) < 0)) = false)) :
  Calls Tryz.prog 39 #[.agg #[.int .i64 (n : Int), .int .i64 0, .int .i64 y]] w (NoLine a w) := by
 obtain ⟨i0, hi, hz0, hz1, hz2⟩ := info_parts Tryz.infoByte
 have hE1 : ∀ o, Env a m (w.alloc o) := fun o => h.on ((Below.refl _ _).alloc (Nat.le_refl _) _)
 go_enter Tryz.func39, Tryz.ntmps39
 go_wp2_with (go_at_call 67; refine (shapeOfKind_yes a m _ (hE1 _) n hn1 hn7).mono ?_; rintro e w1 ⟨rfl, hb1⟩; refine Hid.out ?_)
 refine Lib.hid ?_
 have hz1' := hb1.size
 simp at hz1'
 have c := three_old hb1
 have hb1' := ((Below.refl w.heap.size w).alloc (Nat.le_refl _) _).trans (hb1.mono (by simp))
 clear hb1
 have c1 := c.1.2.1
 have c2 := c.1.2.2
 clear c
 unfold shp
 rw [HL.out]
 go_wp2_with (refine wpList_bytes_mine rfl 9 123 5 _ rfl (wordB n) rfl Tryz.underlying9 Tryz.underlying123 Tryz.underlying5 ?_)
 intro v2 w2 hm2 hb2
 have hz2' := hb2.size
 simp at hz2'
 have hH2 := held_first c1 c2 hb2
 have hbw2 : Below w.heap.size w w2 := (hb1'.alloc (by omega) _).trans (hb2.mono (by omega))
 have hwl : (wordB n).size ≤ 6 := word_len n
 have hE2 : Env a m w2 := h.on hbw2
 clear hb2 c1 c2
 have e1 := hH2.x
 have e2 := hH2.y
 have s0 := hH2.k
 have s1 := hH2.d
 have s2 := hH2.l
 have hlt1 : w1.heap.size < w2.heap.size := by omega
 have hlt0 : w.heap.size < w2.heap.size := by omega
 have i0' := pair_at0 0 y
 have i1' := pair_at1 0 y
 go_wp2
 refine wp_loop_rounds 3 ?_
 rw [rounds_succ]
 go_wp2_with (go_at_call 68; refine (allows_is true _ _ _ _ _ (by simp [fitsB]) _).mono ?_; rintro e w' ⟨rfl, rfl⟩)
 rw [rounds_succ]
 have s1' := fun o o' => old1 (old1 s1 o) o'
 have hlt2 : w1.heap.size < w2.heap.size + 1 := by omega
 have hEE : ∀ o o', ((w2.alloc o).alloc o').cell? ⟨9, 0, none⟩ = some (.iface 315 (.pointer (some a))) := fun o o' => old1 (old1 hE2.err o) o'
 go_wp2_with (go_at_call 68; refine (allows_is false _ _ _ _ _ (by exact hf.out) _).mono ?_; rintro e w' ⟨rfl, rfl⟩)
 go_region_with (first | (go_at_call 70; refine (refuse_any _ a _ ?_).mono ?_; exact hEE _ _ ; rintro e w' ⟨rfl, rfl⟩) | (go_at_call 69; refine (about_any _ _ _ _).mono ?_; rintro e w' ⟨rfl, rfl⟩))
 all_goals go_wp2
 all_goals go_ret2
 all_goals exact ⟨_, rfl, refusal_up4 a _ _ _ _, below_up4 hbw2 _ _ _ _⟩

set_option maxHeartbeats 2000000 in
set_option maxRecDepth 100000 in
theorem write_badB1 (a : Addr) (m : Int) (w : World) (h : Env a m w) (n : Nat) (hn1 : 1 ≤ n) (hn7 : n ≤ 7) (HL : Hid (numsN n = 1)) (x : Nat) (hx : x ≤ 999999999999999999) (y : Int) (hf : Hid (fitsB y (decide ((1 : Int) < 1)) = false)) :
  Calls Tryz.prog 39 #[.agg #[.int .i64 (n : Int), .int .i64 (x : Int), .int .i64 y]] w (NoLine a w) := by
 obtain ⟨i0, hi, hz0, hz1, hz2⟩ := info_parts Tryz.infoByte
 have hE1 : ∀ o, Env a m (w.alloc o) := fun o => h.on ((Below.refl _ _).alloc (Nat.le_refl _) _)
 go_enter Tryz.func39, Tryz.ntmps39
 go_wp2_with (go_at_call 67; refine (shapeOfKind_yes a m _ (hE1 _) n hn1 hn7).mono ?_; rintro e w1 ⟨rfl, hb1⟩; refine Hid.out ?_)
 refine Lib.hid ?_
 have hz1' := hb1.size
 simp at hz1'
 have c := three_old hb1
 have hb1' := ((Below.refl w.heap.size w).alloc (Nat.le_refl _) _).trans (hb1.mono (by simp))
 clear hb1
 have c1 := c.1.2.1
 have c2 := c.1.2.2
 clear c
 unfold shp
 rw [HL.out]
 go_wp2_with (refine wpList_bytes_mine rfl 9 123 5 _ rfl (wordB n) rfl Tryz.underlying9 Tryz.underlying123 Tryz.underlying5 ?_)
 intro v2 w2 hm2 hb2
 have hz2' := hb2.size
 simp at hz2'
 have hH2 := held_first c1 c2 hb2
 have hbw2 : Below w.heap.size w w2 := (hb1'.alloc (by omega) _).trans (hb2.mono (by omega))
 have hwl : (wordB n).size ≤ 6 := word_len n
 have hE2 : Env a m w2 := h.on hbw2
 clear hb2 c1 c2
 have e1 := hH2.x
 have e2 := hH2.y
 have s0 := hH2.k
 have s1 := hH2.d
 have s2 := hH2.l
 have hlt1 : w1.heap.size < w2.heap.size := by omega
 have hlt0 : w.heap.size < w2.heap.size := by omega
 have i0' := pair_at0 x y
 have i1' := pair_at1 x y
 go_wp2
 refine wp_loop_rounds 3 ?_
 rw [rounds_succ]
 go_wp2_with (first
  | (go_at_call 68; refine (allows_is true _ _ _ _ _ (by simpa using fits_nat x hx) _).mono ?_; rintro e w' ⟨rfl, rfl⟩)
  | (at_builtin; refine wpList_append_mine rfl _ _ 123 123 rfl 5 i0 Tryz.underlying123 hi hz0 hz1 hz2 (w1.heap.size + 1) _ _ _ rfl (hm2.on (below2 _ _)) _ rfl 1 [.int .u8 32] (Src.ofSlice _ Tryz.underlying123 ⟨w2.heap.size + 1, 0, none⟩ 1 1 _ rfl (by intro j u' hj; match j, hj with | 0, hj => simp at hj; subst hj; simp [Addr.add]) (by intro u' hu'; simp at hu'; subst hu'; rfl)) (by simp; omega) (by omega) ?_))
 intro v3 w3 hm3 hb3
 have hb3' : Below (w1.heap.size + 1) w2 w3 := (((Below.refl _ _).alloc (by omega) _).alloc (by simp; omega) _).trans hb3
 have hH3 := hH2.on hb3' (by omega) (by omega)
 have hbw3 := hbw2.trans (hb3'.mono (by omega))
 have hE3 : Env a m w3 := h.on hbw3
 have hz3' := hb3'.size
 have dl2 := dec_len x hx
 clear hb3 hb3' hm2 hH2 hbw2 hE2
 clear e1 e2 s0 s1 s2 hlt1 hlt0
 go_wp2_with (go_at_call 71; refine (appInt_any (w1.heap.size + 1) _ x (by omega) v3 _ w3 hm3 (by omega) (by omega) hE3.tab).mono ?_; rintro e w4 ⟨v4, rfl, hm4, hb4⟩; refine Hid.out ?_)
 refine Lib.hid ?_
 have hH4 := hH3.on hb4 (by omega) (by omega)
 have hbw4 := hbw3.trans (hb4.mono (by omega))
 have hE4 : Env a m w4 := h.on hbw4
 have hz4' := hb4.size
 clear hb4 hm3 hH3 hbw3 hE3
 have e1 := hH4.x
 have e2 := hH4.y
 have s0 := hH4.k
 have s1 := hH4.d
 have s2 := hH4.l
 have hlt1 : w1.heap.size < w4.heap.size := by omega
 have hlt0 : w.heap.size < w4.heap.size := by omega
 go_wp2
 rw [rounds_succ]
 have hEE : ∀ o, (w4.alloc o).cell? ⟨9, 0, none⟩ = some (.iface 315 (.pointer (some a))) := fun o => old1 hE4.err o
 go_wp2_with (go_at_call 68; refine (allows_is false _ _ _ _ _ (by exact hf.out) _).mono ?_; rintro e w' ⟨rfl, rfl⟩)
 go_region_with (first | (go_at_call 70; refine (refuse_any _ a _ ?_).mono ?_; exact hEE _ ; rintro e w' ⟨rfl, rfl⟩) | (go_at_call 69; refine (about_any _ _ _ _).mono ?_; rintro e w' ⟨rfl, rfl⟩))
 all_goals go_wp2
 all_goals go_ret2
 all_goals exact ⟨_, rfl, refusal_up3 a _ _ _, below_up3 hbw4 _ _ _⟩

set_option maxHeartbeats 2000000 in
set_option maxRecDepth 100000 in
theorem write_badB2 (a : Addr) (m : Int) (w : World) (h : Env a m w) (n : Nat) (hn1 : 1 ≤ n) (hn7 : n ≤ 7) (HL : Hid (numsN n = 2)) (x : Nat) (hx : x ≤ 999999999999999999) (y : Int) (hf : Hid (fitsB y (decide ((1 : Int) < 2)) = false)) :
  Calls Tryz.prog 39 #[.agg #[.int .i64 (n : Int), .int .i64 (x : Int), .int .i64 y]] w (NoLine a w) := by
 obtain ⟨i0, hi, hz0, hz1, hz2⟩ := info_parts Tryz.infoByte
 have hE1 : ∀ o, Env a m (w.alloc o) := fun o => h.on ((Below.refl _ _).alloc (Nat.le_refl _) _)
 go_enter Tryz.func39, Tryz.ntmps39
 go_wp2_with (go_at_call 67; refine (shapeOfKind_yes a m _ (hE1 _) n hn1 hn7).mono ?_; rintro e w1 ⟨rfl, hb1⟩; refine Hid.out ?_)
 refine Lib.hid ?_
 have hz1' := hb1.size
 simp at hz1'
 have c := three_old hb1
 have hb1' := ((Below.refl w.heap.size w).alloc (Nat.le_refl _) _).trans (hb1.mono (by simp))
 clear hb1
 have c1 := c.1.2.1
 have c2 := c.1.2.2
 clear c
 unfold shp
 rw [HL.out]
 go_wp2_with (refine wpList_bytes_mine rfl 9 123 5 _ rfl (wordB n) rfl Tryz.underlying9 Tryz.underlying123 Tryz.underlying5 ?_)
 intro v2 w2 hm2 hb2
 have hz2' := hb2.size
 simp at hz2'
 have hH2 := held_first c1 c2 hb2
 have hbw2 : Below w.heap.size w w2 := (hb1'.alloc (by omega) _).trans (hb2.mono (by omega))
 have hwl : (wordB n).size ≤ 6 := word_len n
 have hE2 : Env a m w2 := h.on hbw2
 clear hb2 c1 c2
 have e1 := hH2.x
 have e2 := hH2.y
 have s0 := hH2.k
 have s1 := hH2.d
 have s2 := hH2.l
 have hlt1 : w1.heap.size < w2.heap.size := by omega
 have hlt0 : w.heap.size < w2.heap.size := by omega
 have i0' := pair_at0 x y
 have i1' := pair_at1 x y
 go_wp2
 refine wp_loop_rounds 3 ?_
 rw [rounds_succ]
 go_wp2_with (first
  | (go_at_call 68; refine (allows_is true _ _ _ _ _ (by simpa using fits_nat x hx) _).mono ?_; rintro e w' ⟨rfl, rfl⟩)
  | (at_builtin; refine wpList_append_mine rfl _ _ 123 123 rfl 5 i0 Tryz.underlying123 hi hz0 hz1 hz2 (w1.heap.size + 1) _ _ _ rfl (hm2.on (below2 _ _)) _ rfl 1 [.int .u8 32] (Src.ofSlice _ Tryz.underlying123 ⟨w2.heap.size + 1, 0, none⟩ 1 1 _ rfl (by intro j u' hj; match j, hj with | 0, hj => simp at hj; subst hj; simp [Addr.add]) (by intro u' hu'; simp at hu'; subst hu'; rfl)) (by simp; omega) (by omega) ?_))
 intro v3 w3 hm3 hb3
 have hb3' : Below (w1.heap.size + 1) w2 w3 := (((Below.refl _ _).alloc (by omega) _).alloc (by simp; omega) _).trans hb3
 have hH3 := hH2.on hb3' (by omega) (by omega)
 have hbw3 := hbw2.trans (hb3'.mono (by omega))
 have hE3 : Env a m w3 := h.on hbw3
 have hz3' := hb3'.size
 have dl2 := dec_len x hx
 clear hb3 hb3' hm2 hH2 hbw2 hE2
 clear e1 e2 s0 s1 s2 hlt1 hlt0
 go_wp2_with (go_at_call 71; refine (appInt_any (w1.heap.size + 1) _ x (by omega) v3 _ w3 hm3 (by omega) (by omega) hE3.tab).mono ?_; rintro e w4 ⟨v4, rfl, hm4, hb4⟩; refine Hid.out ?_)
 refine Lib.hid ?_
 have hH4 := hH3.on hb4 (by omega) (by omega)
 have hbw4 := hbw3.trans (hb4.mono (by omega))
 have hE4 : Env a m w4 := h.on hbw4
 have hz4' := hb4.size
 clear hb4 hm3 hH3 hbw3 hE3
 have e1 := hH4.x
 have e2 := hH4.y
 have s0 := hH4.k
 have s1 := hH4.d
 have s2 := hH4.l
 have hlt1 : w1.heap.size < w4.heap.size := by omega
 have hlt0 : w.heap.size < w4.heap.size := by omega
 go_wp2
 rw [rounds_succ]
 have hEE : ∀ o, (w4.alloc o).cell? ⟨9, 0, none⟩ = some (.iface 315 (.pointer (some a))) := fun o => old1 hE4.err o
 go_wp2_with (go_at_call 68; refine (allows_is false _ _ _ _ _ (by exact hf.out) _).mono ?_; rintro e w' ⟨rfl, rfl⟩)
 go_region_with (first | (go_at_call 70; refine (refuse_any _ a _ ?_).mono ?_; exact hEE _ ; rintro e w' ⟨rfl, rfl⟩) | (go_at_call 69; refine (about_any _ _ _ _).mono ?_; rintro e w' ⟨rfl, rfl⟩))
 all_goals go_wp2
 all_goals go_ret2
 all_goals exact ⟨_, rfl, refusal_up3 a _ _ _, below_up3 hbw4 _ _ _⟩

end Go.Proofs.YtpcgnadfldimhaaGreatDoor
