/-
 The document's cutting of a line by its contract.
-/
import Derived.Test.YtpcgnadfldimhaaGreatDoorCut
import Derived.Test.YtpcgnadfldimhaaGreatDoorRefR
namespace Go.Proofs.YtpcgnadfldimhaaGreatDoor
open Go.RowKit

theorem Tryz.infoStr : (Tryz.prog.info? 9).map (fun i => (i.zero, i.size, i.bytes)) = some (some (.string ⟨#[]⟩), 1, 16) := by kernel_rfl

theorem at_eq (s : ByteArray) (k : Nat) (h : k < s.size) : s.data.toList[k]? = some s[k] := by
 rw [List.getElem?_eq_getElem (by simpa using h)]
 rfl

theorem byte_eq {c : UInt8} (h : (c.toNat : Int) = 32) : c = 32 := by
 apply UInt8.toNat_inj.1
 simpa using (by omega : c.toNat = 32)

theorem extract_is (s : ByteArray) (g k : Nat) : s.extract g k = ⟨((s.data.toList.drop g).take (k - g)).toArray⟩ := by
 apply ba_ext
 simp [ByteArray.data_extract, List.extract_eq_take_drop]

theorem own_step {w1 : World} {B e : Nat} {v : Value} {done : List (List UInt8)} {s : ByteArray} {g k : Nat} (h : w1.ownsRow B e 1 v (done.length + 1) ((done.map fun l => Value.string ⟨l.toArray⟩) ++ [.string (s.extract g k)])) :
  w1.ownsRow B e 1 v (done ++ [(s.data.toList.drop g).take (k - g)]).length ((done ++ [(s.data.toList.drop g).take (k - g)]).map fun l => Value.string ⟨l.toArray⟩) := by
 rw [extract_is] at h
 simpa using h

theorem piece_split {l : List UInt8} {g k : Nat} (hg : g ≤ k) (h : l[k]? = some 32) : l.drop g = (l.drop g).take (k - g) ++ 32 :: l.drop (k + 1) := by
 have hk : k < l.length := (List.getElem?_eq_some_iff.1 h).1
 have hv : l[k] = 32 := (List.getElem?_eq_some_iff.1 h).2
 conv => lhs; rw [← List.take_append_drop (k - g) (l.drop g)]
 congr 1
 rw [List.drop_drop, show g + (k - g) = k from by omega, List.drop_eq_getElem_cons hk, hv]

theorem piece_clean {l : List UInt8} {g k : Nat} (hno : ∀ j, g ≤ j → j < k → l[j]? ≠ some 32) : ∀ c, c ∈ (l.drop g).take (k - g) → c ≠ 32 := by
 intro c hc e
 subst e
 obtain ⟨i, hi, hv⟩ := List.mem_iff_getElem.1 hc
 have hl : i < k - g := by
  have := hi
  rw [List.length_take] at this
  omega
 refine hno (g + i) (by omega) (by omega) ?_
 rw [List.getElem_take, List.getElem_drop] at hv
 rw [List.getElem?_eq_some_iff]
 exact ⟨by rw [List.length_take, List.length_drop] at hi; omega, hv⟩

theorem cut_step {l : List UInt8} {g k : Nat} {done : List (List UInt8)} (hc : done ++ cutL (l.drop g) = cutL l) (hno : ∀ j, g ≤ j → j < k → l[j]? ≠ some 32) (hg : g ≤ k) (h : l[k]? = some 32) :
  (done ++ [(l.drop g).take (k - g)]) ++ cutL (l.drop (k + 1)) = cutL l := by
 rw [← hc]
 conv => rhs; rw [piece_split hg h]
 rw [cutL_app _ _ (piece_clean hno)]
 simp

theorem cut_end {l : List UInt8} {g k : Nat} {done : List (List UInt8)} (hc : done ++ cutL (l.drop g) = cutL l) (hno : ∀ j, g ≤ j → j < k → l[j]? ≠ some 32) (hg : g ≤ k) (h : l.length ≤ k) :
  done ++ [(l.drop g).take (k - g)] = cutL l := by
 have hcl := piece_clean (l := l) hno
 have ht : (l.drop g).take (k - g) = l.drop g := List.take_of_length_le (by rw [List.length_drop]; omega)
 rw [ht] at hcl ⊢
 rw [← hc, cutL_word _ hcl]

set_option maxHeartbeats 1000000 in
set_option maxRecDepth 100000 in
theorem pieces_any (s : ByteArray) (w : World) (hs : s.size ≤ 100) :
  Calls Tryz.prog 72 #[.string s] w fun e w' => ∃ v, e = .returned v ∧ w'.ownsRow w.heap.size 9 1 v (cutL s.data.toList).length ((cutL s.data.toList).map fun l => Value.string ⟨l.toArray⟩) ∧ Below w.heap.size w w' := by
 obtain ⟨i0, hi, hz0, hz1, hz2⟩ := info_parts Tryz.infoStr
 go_enter Tryz.func72, Tryz.ntmps72
 go_wp2
 go_loopw [3, 4, 5] (fun v f i wr => ∃ (k g : Nat) (done : List (List UInt8)), i = .int .i64 k ∧ f = .int .i64 g ∧ wr.ownsRow w.heap.size 9 1 v done.length (done.map fun l => Value.string ⟨l.toArray⟩) ∧ Below w.heap.size w wr ∧ done.length ≤ k ∧ Hid ((k ≤ s.size ∧ g ≤ k ∧ done ++ cutL (s.data.toList.drop g) = cutL s.data.toList ∧ ∀ j, g ≤ j → j < k → s.data.toList[j]? ≠ some 32) ∨ (k = s.size + 1 ∧ done = cutL s.data.toList))) (fun _ _ i _ => s.size + 1 - (intOf i).toNat)
 case atStart => exact ⟨0, 0, [], rfl, rfl, World.ownsRow_nil _ _ _ _, Below.refl _ _, by simp, Lib.hid (Or.inl ⟨Nat.zero_le _, Nat.le_refl _, by simp, fun j h1 h2 => by omega⟩)⟩
 case round =>
  obtain ⟨k, g, done, rfl, rfl, hown, hb, hdl, hst⟩ := hrel
  rcases hst.out with ⟨hk, hg, hcut, hno⟩ | ⟨rfl, rfl⟩
  ·have HC := Lib.hid hcut
   have HN := Lib.hid hno
   clear hcut hno hst
   rcases Nat.lt_or_ge k s.size with hlt | hge
   ·by_cases hc : s[k] = 32
    ·have hq : ((s[k].toNat : Int) == 32) = true := by rw [hc]; rfl
     have hne : ((k : Int) == (s.size : Int)) = false := beq_eq_false_iff_ne.2 (by omega)
     have HQ := Lib.hid hc
     clear hc
     go_wp2_with (at_builtin; refine wpList_append_own _ rfl _ _ 61 rfl w.heap.size 9 i0 (.string ⟨#[]⟩) 1 16 Tryz.underlying61 hi hz0 hz1 hz2 rfl (by decide) _ _ _ rfl (hown.alloc _) ⟨wr.heap.size, 0, none⟩ 1 1 [.string (s.extract g k)] rfl rfl (by intro j u' hj; match j, hj with | 0, hj => simp at hj; subst hj; simp [Addr.add]) (by intro u' hu'; simp at hu'; subst hu'; rfl) (by unfold maxLen; omega) (by omega) (by have := hb.size; simp; omega) ?_)
     intro v' w1 hown' hgrow _
     have hb' : Below w.heap.size w w1 := (hb.alloc hb.size _).grown hgrow (by have := hb.size; simp; omega) (fun k hk => (hown.lt k hk).1)
     have R := own_step hown'
     clear hown' hgrow hown hb
     go_wp2
     exact ⟨⟨k + 1, k + 1, done ++ [(s.data.toList.drop g).take (k - g)], by go_num, by go_num, R, hb', by simp; omega, Lib.hid (Or.inl ⟨by omega, Nat.le_refl _, cut_step HC.out HN.out hg (by rw [at_eq s k hlt, HQ.out]), fun j h1 h2 => by omega⟩)⟩, by simp [intOf]; omega⟩
    ·have hq : ((s[k].toNat : Int) == 32) = false := beq_eq_false_iff_ne.2 (fun e => hc (byte_eq e))
     have hne : ((k : Int) == (s.size : Int)) = false := beq_eq_false_iff_ne.2 (by omega)
     have HQ := Lib.hid hc
     clear hc
     go_wp2
     exact ⟨⟨k + 1, g, done, by go_num, rfl, hown, hb, by omega, Lib.hid (Or.inl ⟨by omega, by omega, HC.out, fun j h1 h2 => by
      rcases Nat.lt_or_ge j k with h3 | h3
      ·exact HN.out j h1 h3
      ·obtain rfl : j = k := by omega
       intro e
       rw [at_eq s j hlt] at e
       exact HQ.out (Option.some.inj e)⟩)⟩, by simp [intOf]; omega⟩
   ·obtain rfl : k = s.size := by omega
    have hne : ((s.size : Int) == (s.size : Int)) = true := by simp
    go_wp2_with (at_builtin; refine wpList_append_own _ rfl _ _ 61 rfl w.heap.size 9 i0 (.string ⟨#[]⟩) 1 16 Tryz.underlying61 hi hz0 hz1 hz2 rfl (by decide) _ _ _ rfl (hown.alloc _) ⟨wr.heap.size, 0, none⟩ 1 1 [.string (s.extract g s.size)] rfl rfl (by intro j u' hj; match j, hj with | 0, hj => simp at hj; subst hj; simp [Addr.add]) (by intro u' hu'; simp at hu'; subst hu'; rfl) (by unfold maxLen; omega) (by omega) (by have := hb.size; simp; omega) ?_)
    intro v' w1 hown' hgrow _
    have hb' : Below w.heap.size w w1 := (hb.alloc hb.size _).grown hgrow (by have := hb.size; simp; omega) (fun k hk => (hown.lt k hk).1)
    have R := own_step hown'
    clear hown' hgrow hown hb
    go_wp2
    exact ⟨⟨s.size + 1, s.size + 1, done ++ [(s.data.toList.drop g).take (s.size - g)], by go_num, by go_num, R, hb', by simp; omega, Lib.hid (Or.inr ⟨rfl, cut_end HC.out HN.out hg (by simp)⟩)⟩, by simp [intOf]⟩
  ·go_wp2
   go_ret
   exact ⟨_, rfl, hown, hb⟩

end Go.Proofs.YtpcgnadfldimhaaGreatDoor
