/-
 errors.Is BY ITS CONTRACTS for what package cluster hands it: a CallError around a ValueError around a sentinel; a CallError around a JobError.
-/
import Derived.Test.YtpcgnadfldimhaaGreatDoorIs
import Derived.Test.YtpcgnadfldimhaaGreatDoorAs
import Derived.Test.YtpcgnadfldimhaaGreatDoorShape
import Derived.Test.YtpcgnadfldimhaaGreatDoorMemG
namespace Go.Proofs.YtpcgnadfldimhaaGreatDoor
open Go.RowKit Go.Extern.Stop Go.Stop Go.Extern

theorem Tryz.noIsC (v : Value) (xT : TypeId) (w : World) : (Instr.typeAssert (.iface 160 v) xT 236 true).run Tryz.prog w = .ok (.tuple #[.nilIface, .bool false]) w := run_typeAssert_lacksB Tryz.underlying236 (by kernel_rfl) (by kernel_rfl) v xT w
theorem Tryz.noIsV (v : Value) (xT : TypeId) (w : World) : (Instr.typeAssert (.iface 178 v) xT 236 true).run Tryz.prog w = .ok (.tuple #[.nilIface, .bool false]) w := run_typeAssert_lacksB Tryz.underlying236 (by kernel_rfl) (by kernel_rfl) v xT w
theorem Tryz.noIsJ (v : Value) (xT : TypeId) (w : World) : (Instr.typeAssert (.iface 115 v) xT 236 true).run Tryz.prog w = .ok (.tuple #[.nilIface, .bool false]) w := run_typeAssert_lacksB Tryz.underlying236 (by kernel_rfl) (by kernel_rfl) v xT w
theorem Tryz.hasUnwrapC (v : Value) (xT : TypeId) (w : World) : (Instr.typeAssert (.iface 160 v) xT 239 true).run Tryz.prog w = .ok (.tuple #[.iface 160 v, .bool true]) w := run_typeAssert_hasB Tryz.underlying239 (by kernel_rfl) v xT w
theorem Tryz.hasUnwrapV (v : Value) (xT : TypeId) (w : World) : (Instr.typeAssert (.iface 178 v) xT 239 true).run Tryz.prog w = .ok (.tuple #[.iface 178 v, .bool true]) w := run_typeAssert_hasB Tryz.underlying239 (by kernel_rfl) v xT w
theorem Tryz.noUnwrapJ (v : Value) (xT : TypeId) (w : World) : (Instr.typeAssert (.iface 115 v) xT 239 true).run Tryz.prog w = .ok (.tuple #[.nilIface, .bool false]) w := run_typeAssert_lacksB Tryz.underlying239 (by kernel_rfl) (by kernel_rfl) v xT w
theorem Tryz.noUnwrapsJ (v : Value) (xT : TypeId) (w : World) : (Instr.typeAssert (.iface 115 v) xT 241 true).run Tryz.prog w = .ok (.tuple #[.nilIface, .bool false]) w := run_typeAssert_lacksB Tryz.underlying241 (by kernel_rfl) (by kernel_rfl) v xT w
theorem Tryz.methodUnwrapC (v : Value) (w : World) : (Go.method 446 160 v "Unwrap").run Tryz.prog w = .ok (219, v) w := by kernel_rfl
theorem Tryz.methodUnwrapV (v : Value) (w : World) : (Go.method 446 178 v "Unwrap").run Tryz.prog w = .ok (224, v) w := by kernel_rfl

set_option maxRecDepth 100000 in
set_option maxHeartbeats 2000000 in
/-- errors.Is(e, x), e a CallError around a ValueError around x itself. -/
theorem isv_hit (pa pb : Nat) (b : Addr) (w : World) (h0 : w.cell? ⟨pa, 1, none⟩ = some (.iface 178 (.pointer (some ⟨pb, 0, none⟩)))) (h1 : w.cell? ⟨pb, 2, none⟩ = some (.iface 315 (.pointer (some b)))) :
  Calls Tryz.prog 60 #[.iface 160 (.pointer (some ⟨pa, 0, none⟩)), .iface 315 (.pointer (some b))] w fun e w' => e = .returned (.bool true) ∧ w' = w := by
 obtain ⟨i, hi, hcmp⟩ := Option.map_eq_some_iff.1 Tryz.isComp
 obtain ⟨j, hj, hjs⟩ := Option.map_eq_some_iff.1 Tryz.isSize
 have hT := @run_callFunc_extern Tryz.prog 99 _ Extern.ReflectliteType.typeOf Tryz.func99 (by kernel_rfl) (by kernel_rfl) (by kernel_rfl) (by kernel_rfl)
 have hC := @run_callFunc_extern Tryz.prog 233 _ (Extern.ReflectliteType.method fun t => do Extern.Rtype.noPackHeld "Comparable" t; pure (.bool (← typeInfo t).comparable)) Tryz.func233 (by kernel_rfl) (by kernel_rfl) (by kernel_rfl) (by kernel_rfl)
 have tT := Tryz.isTypeOf
 have cT := Tryz.isComparable
 have mR := Tryz.isMethodComparable
 have nC := Tryz.noIsC
 have nV := Tryz.noIsV
 have uC := Tryz.hasUnwrapC
 have uV := Tryz.hasUnwrapV
 have mC := Tryz.methodUnwrapC
 have mV := Tryz.methodUnwrapV
 have heq := run_eql_iface_ptr_same (P := Tryz.prog) w b Tryz.underlying89 Tryz.underlying315 hi hcmp hj
 have hty := run_eql_iface_types (P := Tryz.prog) 160 315 (.pointer (some ⟨pa, 0, none⟩)) (.pointer (some b)) Tryz.underlying89 (by decide) w
 have hty2 := run_eql_iface_types (P := Tryz.prog) 178 315 (.pointer (some ⟨pb, 0, none⟩)) (.pointer (some b)) Tryz.underlying89 (by decide) w
 go_enter Tryz.func60, Tryz.ntmps60
 go_wp2
 refine wp_loop_rounds 3 ?_
 rw [rounds_succ]
 go_wp2
 rw [rounds_succ]
 go_wp2
 rw [rounds_succ]
 go_wp2
 go_ret
 exact ⟨rfl, rfl⟩

set_option maxRecDepth 100000 in
set_option maxHeartbeats 2000000 in
/-- errors.Is(e, x), e a CallError around a ValueError around another sentinel. -/
theorem isv_miss (pa pb : Nat) (a b : Addr) (w : World) (h0 : w.cell? ⟨pa, 1, none⟩ = some (.iface 178 (.pointer (some ⟨pb, 0, none⟩)))) (h1 : w.cell? ⟨pb, 2, none⟩ = some (.iface 315 (.pointer (some a)))) (hne : a ≠ b) (ha : Whole w a) (hb : Whole w b) :
  Calls Tryz.prog 60 #[.iface 160 (.pointer (some ⟨pa, 0, none⟩)), .iface 315 (.pointer (some b))] w fun e w' => e = .returned (.bool false) ∧ w' = w := by
 obtain ⟨i, hi, hcmp⟩ := Option.map_eq_some_iff.1 Tryz.isComp
 obtain ⟨j, hj, hjs⟩ := Option.map_eq_some_iff.1 Tryz.isSize
 obtain ⟨ca, ta, ha⟩ := ha
 obtain ⟨cb, tb, hb⟩ := hb
 have hT := @run_callFunc_extern Tryz.prog 99 _ Extern.ReflectliteType.typeOf Tryz.func99 (by kernel_rfl) (by kernel_rfl) (by kernel_rfl) (by kernel_rfl)
 have hC := @run_callFunc_extern Tryz.prog 233 _ (Extern.ReflectliteType.method fun t => do Extern.Rtype.noPackHeld "Comparable" t; pure (.bool (← typeInfo t).comparable)) Tryz.func233 (by kernel_rfl) (by kernel_rfl) (by kernel_rfl) (by kernel_rfl)
 have tT := Tryz.isTypeOf
 have cT := Tryz.isComparable
 have mR := Tryz.isMethodComparable
 have nC := Tryz.noIsC
 have nV := Tryz.noIsV
 have nE := Tryz.noIsE
 have uC := Tryz.hasUnwrapC
 have uV := Tryz.hasUnwrapV
 have uE := Tryz.noUnwrapE
 have usE := Tryz.noUnwrapsE
 have mC := Tryz.methodUnwrapC
 have mV := Tryz.methodUnwrapV
 have heq := run_eql_iface_ptr_other (P := Tryz.prog) w Tryz.underlying89 Tryz.underlying315 hi hcmp hj (by rw [hjs]; decide) hne ha hb
 have hty := run_eql_iface_types (P := Tryz.prog) 160 315 (.pointer (some ⟨pa, 0, none⟩)) (.pointer (some b)) Tryz.underlying89 (by decide) w
 have hty2 := run_eql_iface_types (P := Tryz.prog) 178 315 (.pointer (some ⟨pb, 0, none⟩)) (.pointer (some b)) Tryz.underlying89 (by decide) w
 clear ha hb
 go_enter Tryz.func60, Tryz.ntmps60
 go_wp2
 refine wp_loop_rounds 3 ?_
 rw [rounds_succ]
 go_wp2
 rw [rounds_succ]
 go_wp2
 rw [rounds_succ]
 go_wp2
 go_ret
 exact ⟨rfl, rfl⟩

set_option maxRecDepth 100000 in
set_option maxHeartbeats 2000000 in
/-- errors.Is(e, x), e a CallError around a JobError. -/
theorem isj_miss (pa : Nat) (c b : Addr) (w : World) (h0 : w.cell? ⟨pa, 1, none⟩ = some (.iface 115 (.pointer (some c)))) :
  Calls Tryz.prog 60 #[.iface 160 (.pointer (some ⟨pa, 0, none⟩)), .iface 315 (.pointer (some b))] w fun e w' => e = .returned (.bool false) ∧ w' = w := by
 have hT := @run_callFunc_extern Tryz.prog 99 _ Extern.ReflectliteType.typeOf Tryz.func99 (by kernel_rfl) (by kernel_rfl) (by kernel_rfl) (by kernel_rfl)
 have hC := @run_callFunc_extern Tryz.prog 233 _ (Extern.ReflectliteType.method fun t => do Extern.Rtype.noPackHeld "Comparable" t; pure (.bool (← typeInfo t).comparable)) Tryz.func233 (by kernel_rfl) (by kernel_rfl) (by kernel_rfl) (by kernel_rfl)
 have tT := Tryz.isTypeOf
 have cT := Tryz.isComparable
 have mR := Tryz.isMethodComparable
 have nC := Tryz.noIsC
 have nJ := Tryz.noIsJ
 have uC := Tryz.hasUnwrapC
 have uJ := Tryz.noUnwrapJ
 have usJ := Tryz.noUnwrapsJ
 have mC := Tryz.methodUnwrapC
 have hty := run_eql_iface_types (P := Tryz.prog) 160 315 (.pointer (some ⟨pa, 0, none⟩)) (.pointer (some b)) Tryz.underlying89 (by decide) w
 have hty2 := run_eql_iface_types (P := Tryz.prog) 115 315 (.pointer (some c)) (.pointer (some b)) Tryz.underlying89 (by decide) w
 go_enter Tryz.func60, Tryz.ntmps60
 go_wp2
 refine wp_loop_rounds 2 ?_
 rw [rounds_succ]
 go_wp2
 rw [rounds_succ]
 go_wp2
 go_ret
 exact ⟨rfl, rfl⟩

end Go.Proofs.YtpcgnadfldimhaaGreatDoor
namespace Go.Proofs.YtpcgnadfldimhaaGreatDoor
open Go.RowKit Go.Extern.Stop Go.Stop Go.Extern

theorem Tryz.asTypeOfC (v : Value) (w : World) : (ReflectliteType.typeOf #[.iface 160 v]).run Tryz.prog w = .ok (.iface 234 (.agg #[.pointer (some ⟨17, 160, none⟩)])) w := by kernel_rfl
theorem Tryz.asAssignC (w : World) : (ReflectliteType.relation "AssignableTo" ReflectliteType.assignableTo #[.agg #[.pointer (some ⟨17, 160, none⟩)], .iface 234 (.agg #[.pointer (some ⟨17, 115, none⟩)])]).run Tryz.prog w = .ok (.bool false) w := by kernel_rfl
theorem Tryz.noAsC (v : Value) (xT : TypeId) (w : World) : (Instr.typeAssert (.iface 160 v) xT 246 true).run Tryz.prog w = .ok (.tuple #[.nilIface, .bool false]) w := run_typeAssert_lacksB Tryz.underlying246 (by kernel_rfl) (by kernel_rfl) v xT w
theorem Tryz.asTypeOfV (v : Value) (w : World) : (ReflectliteType.typeOf #[.iface 178 v]).run Tryz.prog w = .ok (.iface 234 (.agg #[.pointer (some ⟨17, 178, none⟩)])) w := by kernel_rfl
theorem Tryz.asAssignV (w : World) : (ReflectliteType.relation "AssignableTo" ReflectliteType.assignableTo #[.agg #[.pointer (some ⟨17, 178, none⟩)], .iface 234 (.agg #[.pointer (some ⟨17, 115, none⟩)])]).run Tryz.prog w = .ok (.bool false) w := by kernel_rfl
theorem Tryz.noAsV (v : Value) (xT : TypeId) (w : World) : (Instr.typeAssert (.iface 178 v) xT 246 true).run Tryz.prog w = .ok (.tuple #[.nilIface, .bool false]) w := run_typeAssert_lacksB Tryz.underlying246 (by kernel_rfl) (by kernel_rfl) v xT w
theorem Tryz.asTypeOfJ (v : Value) (w : World) : (ReflectliteType.typeOf #[.iface 115 v]).run Tryz.prog w = .ok (.iface 234 (.agg #[.pointer (some ⟨17, 115, none⟩)])) w := by kernel_rfl
theorem Tryz.asAssignJ (w : World) : (ReflectliteType.relation "AssignableTo" ReflectliteType.assignableTo #[.agg #[.pointer (some ⟨17, 115, none⟩)], .iface 234 (.agg #[.pointer (some ⟨17, 115, none⟩)])]).run Tryz.prog w = .ok (.bool true) w := by kernel_rfl
theorem Tryz.asValueOfJ (e : Addr) (w : World) : (ReflectliteValue.unpack (.iface 115 (.pointer (some e)))).run Tryz.prog w = .ok (.agg #[.pointer (some ⟨17, 115, none⟩), .pointer (some ⟨w.heap.size, 0, none⟩), .int .u64 150]) (w.alloc (.cells #[.pointer (some e)] 115)) := by kernel_rfl
theorem Tryz.asElemOf (w : World) : (Rtype.elem? 118).run Tryz.prog w = .ok (some 115) w := by kernel_rfl
theorem Tryz.asMkJ (p : Addr) (w : World) : (ReflectliteValue.mk 115 p ReflectliteValue.flagAddr).run Tryz.prog w = .ok (.agg #[.pointer (some ⟨17, 115, none⟩), .pointer (some p), .int .u64 406]) w := by kernel_rfl
theorem Tryz.asElemV (a p : Addr) (W : World) (ha : W.cell? a = some (.pointer (some p))) : (ReflectliteValue.method (ReflectliteValue.valueError "reflectlite.Value.Elem" 0) ReflectliteValue.elem #[.agg #[.pointer (some ⟨17, 118, none⟩), .pointer (some a), .int .u64 150]]).run Tryz.prog W = .ok (.agg #[.pointer (some ⟨17, 115, none⟩), .pointer (some p), .int .u64 406]) W := by
 rw [rlm]
 simp only [Sem.run_bind, Tryz.asPartsPP, Result.andThen]
 simp [ReflectliteValue.elem, loadVar, isAgg, underlying, Tryz.underlying118, ha, Result.andThen, Tryz.asElemOf, Tryz.asMkJ]
theorem Tryz.asPartsJa (a : Addr) (w : World) : (ReflectliteValue.parts (.agg #[.pointer (some ⟨17, 115, none⟩), .pointer (some a), .int .u64 406])).run Tryz.prog w = .ok (some (115, a, 406)) w := by kernel_rfl
theorem Tryz.asPartsJ (a : Addr) (w : World) : (ReflectliteValue.parts (.agg #[.pointer (some ⟨17, 115, none⟩), .pointer (some a), .int .u64 150])).run Tryz.prog w = .ok (some (115, a, 150)) w := by kernel_rfl
theorem Tryz.asDirectJ (w : World) : (Rtype.directlyAssignable 115 115).run Tryz.prog w = .ok true w := by kernel_rfl
theorem Tryz.asSetJ (ta b e : Addr) (old : Value) (W : World) (hb : W.cell? b = some (.pointer (some e))) (ht : W.cell? ta = some old) (hf : W.frozen? ta = false) : (ReflectliteValue.set #[.agg #[.pointer (some ⟨17, 115, none⟩), .pointer (some ta), .int .u64 406], .agg #[.pointer (some ⟨17, 115, none⟩), .pointer (some b), .int .u64 150]]).run Tryz.prog W = .ok (.tuple #[]) (W.setCell ta (.pointer (some e))) := by
 change Sem.run Tryz.prog (ReflectliteValue.parts _ >>= _) W = _
 simp only [Array.getLit, List.getElem_toArray, List.getElem_cons_zero, List.getElem_cons_succ, Sem.run_bind, Tryz.asPartsJa, Tryz.asPartsJ, Result.andThen]
 simp [ReflectliteValue.flagAddr, loadVar, isAgg, underlying, Tryz.underlying115, hb, Result.andThen, Tryz.asDirectJ, storeVar, Value.cells, storeCells, Addr.add]
 rw [run_store Tryz.prog W ta _ _ (by rfl)]
 simp [ht, hf]

set_option maxRecDepth 100000 in
set_option maxHeartbeats 4000000 in
theorem asv_miss (pa pb : Nat) (a t : Addr) (w : World) (hg : w.cell? ⟨6, 0, none⟩ = some (.iface 234 (.agg #[.pointer (some ⟨17, 89, none⟩)])))
  (h0 : w.cell? ⟨pa, 1, none⟩ = some (.iface 178 (.pointer (some ⟨pb, 0, none⟩)))) (h1 : w.cell? ⟨pb, 2, none⟩ = some (.iface 315 (.pointer (some a)))) :
  Calls Tryz.prog 61 #[.iface 160 (.pointer (some ⟨pa, 0, none⟩)), .iface 118 (.pointer (some t))] w fun e w' => e = .returned (.bool false) ∧ w' = asWorld t w := by
 have h6 := @run_callFunc_extern Tryz.prog 101 _ (fun args => ReflectliteValue.unpack (args.getD 0 (.tuple #[]))) Tryz.func101 (by kernel_rfl) (by kernel_rfl) (by kernel_rfl) (by kernel_rfl)
 have h7 := @run_callFunc_extern Tryz.prog 102 _ (ReflectliteValue.methodAny (ReflectliteValue.valueError "reflectlite.Value.Type" 0) (fun t _ _ _ => ReflectliteType.toType t)) Tryz.func102 (by kernel_rfl) (by kernel_rfl) (by kernel_rfl) (by kernel_rfl)
 have h8 := @run_callFunc_extern Tryz.prog 103 _ (ReflectliteValue.method (ReflectliteValue.valueError "reflectlite.Value.IsNil" 0) ReflectliteValue.isNil) Tryz.func103 (by kernel_rfl) (by kernel_rfl) (by kernel_rfl) (by kernel_rfl)
 have h27 := @run_callFunc_extern Tryz.prog 213 _ (ReflectliteType.abiMethod fun t => do pure (.int .u8 (← Rtype.kind t))) Tryz.func213 (by kernel_rfl) (by kernel_rfl) (by kernel_rfl) (by kernel_rfl)
 have h37 := @run_callFunc_extern Tryz.prog 234 _ (ReflectliteType.method ReflectliteType.elem) Tryz.func234 (by kernel_rfl) (by kernel_rfl) (by kernel_rfl) (by kernel_rfl)
 have h38 := @run_callFunc_extern Tryz.prog 235 _ (ReflectliteType.relation "Implements" ReflectliteType.implements_) Tryz.func235 (by kernel_rfl) (by kernel_rfl) (by kernel_rfl) (by kernel_rfl)
 have h10 := @run_callFunc_extern Tryz.prog 99 _ ReflectliteType.typeOf Tryz.func99 (by kernel_rfl) (by kernel_rfl) (by kernel_rfl) (by kernel_rfl)
 have h35 := @run_callFunc_extern Tryz.prog 232 _ (ReflectliteType.relation "AssignableTo" ReflectliteType.assignableTo) Tryz.func232 (by kernel_rfl) (by kernel_rfl) (by kernel_rfl) (by kernel_rfl)
 have tE := Tryz.isTypeOf
 have mA := Tryz.asMethodAssignableTo
 have aE := Tryz.asAssignE
 have f6 := Tryz.asValueOf
 have f7 := Tryz.asType
 have mK := Tryz.asMethodKind
 have mE := Tryz.asMethodElem
 have mI := Tryz.asMethodImplements
 have k27 := Tryz.asKindPP
 have k25 := Tryz.asKindP
 have e27 := Tryz.asElem
 have i25 := Tryz.asImplements
 have nE := Tryz.noAsE
 have uE := Tryz.noUnwrapE
 have usE := Tryz.noUnwrapsE
 have n8 := Tryz.asIsNil ⟨w.heap.size, 0, none⟩ t ((w.alloc (.cells #[.pointer (some t)] 118)).alloc (.cells #[.pointer (some ⟨17, 118, none⟩), .pointer (some ⟨w.heap.size, 0, none⟩), .int .u64 150] 195)) (by simp)
 have hg2 := fun o1 o2 => cell_up (cell_up hg o1) o2
 have tC := Tryz.asTypeOfC
 have aC := Tryz.asAssignC
 have nC := Tryz.noAsC
 have uC := Tryz.hasUnwrapC
 have mC := Tryz.methodUnwrapC
 have tV := Tryz.asTypeOfV
 have aV := Tryz.asAssignV
 have nV := Tryz.noAsV
 have uV := Tryz.hasUnwrapV
 have mV := Tryz.methodUnwrapV
 have h02 := fun o1 o2 o3 => cell_up (cell_up (cell_up h0 o1) o2) o3
 have h12 := fun o1 o2 o3 => cell_up (cell_up (cell_up h1 o1) o2) o3
 go_enter Tryz.func61, Tryz.ntmps61
 go_wp2
 refine wp_loop_rounds 3 ?_
 rw [rounds_succ]
 go_wp2
 rw [rounds_succ]
 go_wp2
 rw [rounds_succ]
 go_wp2
 go_ret
 exact ⟨rfl, rfl⟩

set_option maxRecDepth 100000 in
set_option maxHeartbeats 8000000 in
theorem asj_hit (pa : Nat) (c t : Addr) (old : Value) (w : World) (hg : w.cell? ⟨6, 0, none⟩ = some (.iface 234 (.agg #[.pointer (some ⟨17, 89, none⟩)])))
  (h0 : w.cell? ⟨pa, 1, none⟩ = some (.iface 115 (.pointer (some c)))) (ht0 : w.cell? t = some old) (hf0 : w.frozen? t = false) :
  Calls Tryz.prog 61 #[.iface 160 (.pointer (some ⟨pa, 0, none⟩)), .iface 118 (.pointer (some t))] w fun e w' => e = .returned (.bool true) ∧ w' = ((((w.alloc (.cells #[.pointer (some t)] 118)).alloc (.cells #[.pointer (some ⟨17, 118, none⟩), .pointer (some ⟨w.heap.size, 0, none⟩), .int .u64 150] 195)).alloc (.cells #[.pointer (some ⟨17, 118, none⟩), .pointer (some ⟨w.heap.size, 0, none⟩), .int .u64 150] 195)).alloc (.cells #[.pointer (some c)] 115)).setCell t (.pointer (some c)) := by
 have h6 := @run_callFunc_extern Tryz.prog 101 _ (fun args => ReflectliteValue.unpack (args.getD 0 (.tuple #[]))) Tryz.func101 (by kernel_rfl) (by kernel_rfl) (by kernel_rfl) (by kernel_rfl)
 have h7 := @run_callFunc_extern Tryz.prog 102 _ (ReflectliteValue.methodAny (ReflectliteValue.valueError "reflectlite.Value.Type" 0) (fun t _ _ _ => ReflectliteType.toType t)) Tryz.func102 (by kernel_rfl) (by kernel_rfl) (by kernel_rfl) (by kernel_rfl)
 have h8 := @run_callFunc_extern Tryz.prog 103 _ (ReflectliteValue.method (ReflectliteValue.valueError "reflectlite.Value.IsNil" 0) ReflectliteValue.isNil) Tryz.func103 (by kernel_rfl) (by kernel_rfl) (by kernel_rfl) (by kernel_rfl)
 have h27 := @run_callFunc_extern Tryz.prog 213 _ (ReflectliteType.abiMethod fun t => do pure (.int .u8 (← Rtype.kind t))) Tryz.func213 (by kernel_rfl) (by kernel_rfl) (by kernel_rfl) (by kernel_rfl)
 have h37 := @run_callFunc_extern Tryz.prog 234 _ (ReflectliteType.method ReflectliteType.elem) Tryz.func234 (by kernel_rfl) (by kernel_rfl) (by kernel_rfl) (by kernel_rfl)
 have h38 := @run_callFunc_extern Tryz.prog 235 _ (ReflectliteType.relation "Implements" ReflectliteType.implements_) Tryz.func235 (by kernel_rfl) (by kernel_rfl) (by kernel_rfl) (by kernel_rfl)
 have h10 := @run_callFunc_extern Tryz.prog 99 _ ReflectliteType.typeOf Tryz.func99 (by kernel_rfl) (by kernel_rfl) (by kernel_rfl) (by kernel_rfl)
 have h35 := @run_callFunc_extern Tryz.prog 232 _ (ReflectliteType.relation "AssignableTo" ReflectliteType.assignableTo) Tryz.func232 (by kernel_rfl) (by kernel_rfl) (by kernel_rfl) (by kernel_rfl)
 have tE := Tryz.isTypeOf
 have mA := Tryz.asMethodAssignableTo
 have aE := Tryz.asAssignE
 have f6 := Tryz.asValueOf
 have f7 := Tryz.asType
 have mK := Tryz.asMethodKind
 have mE := Tryz.asMethodElem
 have mI := Tryz.asMethodImplements
 have k27 := Tryz.asKindPP
 have k25 := Tryz.asKindP
 have e27 := Tryz.asElem
 have i25 := Tryz.asImplements
 have nE := Tryz.noAsE
 have uE := Tryz.noUnwrapE
 have usE := Tryz.noUnwrapsE
 have n8 := Tryz.asIsNil ⟨w.heap.size, 0, none⟩ t ((w.alloc (.cells #[.pointer (some t)] 118)).alloc (.cells #[.pointer (some ⟨17, 118, none⟩), .pointer (some ⟨w.heap.size, 0, none⟩), .int .u64 150] 195)) (by simp)
 have hg2 := fun o1 o2 => cell_up (cell_up hg o1) o2
 have tC := Tryz.asTypeOfC
 have aC := Tryz.asAssignC
 have nC := Tryz.noAsC
 have uC := Tryz.hasUnwrapC
 have mC := Tryz.methodUnwrapC
 have tJ := Tryz.asTypeOfJ
 have aJ := Tryz.asAssignJ
 have vJ := Tryz.asValueOfJ
 have h11 := @run_callFunc_extern Tryz.prog 131 _ (ReflectliteValue.method (ReflectliteValue.valueError "reflectlite.Value.Elem" 0) ReflectliteValue.elem) Tryz.func131 (by kernel_rfl) (by kernel_rfl) (by kernel_rfl) (by kernel_rfl)
 have h12s := @run_callFunc_extern Tryz.prog 132 _ ReflectliteValue.set Tryz.func132 (by kernel_rfl) (by kernel_rfl) (by kernel_rfl) (by kernel_rfl)
 have h02 := fun o1 o2 o3 => cell_up (cell_up (cell_up h0 o1) o2) o3
 have htl : t.block < w.heap.size := by
  rcases Nat.lt_or_ge t.block w.heap.size with h | h
  ·exact h
  ·simp [World.cell?, Array.getElem?_eq_none h] at ht0
 have el := Tryz.asElemV ⟨w.heap.size, 0, none⟩ t (((w.alloc (.cells #[.pointer (some t)] 118)).alloc (.cells #[.pointer (some ⟨17, 118, none⟩), .pointer (some ⟨w.heap.size, 0, none⟩), .int .u64 150] 195)).alloc (.cells #[.pointer (some ⟨17, 118, none⟩), .pointer (some ⟨w.heap.size, 0, none⟩), .int .u64 150] 195)) (by rw [World.cell?_alloc_lt _ _ ⟨w.heap.size, 0, none⟩ (by simp; omega)]; simp)
 have st := Tryz.asSetJ t ⟨w.heap.size + 1 + 1 + 1, 0, none⟩ c old ((((w.alloc (.cells #[.pointer (some t)] 118)).alloc (.cells #[.pointer (some ⟨17, 118, none⟩), .pointer (some ⟨w.heap.size, 0, none⟩), .int .u64 150] 195)).alloc (.cells #[.pointer (some ⟨17, 118, none⟩), .pointer (some ⟨w.heap.size, 0, none⟩), .int .u64 150] 195)).alloc (.cells #[.pointer (some c)] 115))
  (by rw [World.cell?_alloc_at _ _ _ _ (by simp)]; rfl)
  (by rw [World.cell?_alloc_lt _ _ t (by simp; omega), World.cell?_alloc_lt _ _ t (by simp; omega), World.cell?_alloc_lt _ _ t (by simp; omega), World.cell?_alloc_lt _ _ t htl]; exact ht0)
  (by rw [World.frozen?_alloc_old _ _ t (by simp; omega), World.frozen?_alloc_old _ _ t (by simp; omega), World.frozen?_alloc_old _ _ t (by simp; omega), World.frozen?_alloc_old _ _ t (Nat.ne_of_lt htl)]; exact hf0)
 go_enter Tryz.func61, Tryz.ntmps61
 go_wp2
 refine wp_loop_rounds 2 ?_
 rw [rounds_succ]
 go_wp2
 rw [rounds_succ]
 go_wp2
 go_ret
 exact ⟨rfl, rfl⟩

end Go.Proofs.YtpcgnadfldimhaaGreatDoor
namespace Go.Proofs.YtpcgnadfldimhaaGreatDoor
open Go.RowKit

theorem belowJ (w : World) : Below w.heap.size w (w.alloc (.cells #[.pointer none] 115)) := (Below.refl _ _).alloc (Nat.le_refl _) _

set_option maxHeartbeats 1000000 in
set_option maxRecDepth 100000 in
theorem errno_v1 (a p1 p2 p3 p4 p5 : Addr) (pa : Nat) (w : World) (hA : Asks a p1 p2 p3 p4 p5 w) (hR : RefV w pa p1) :
  Calls Tryz.prog 34 #[.iface 160 (.pointer (some ⟨pa, 0, none⟩))] w fun e w' => e = .returned (.int .i64 2) ∧ Below w.heap.size w w' := by
 have hA1 := hA.on (belowJ w)
 obtain ⟨pb, k1, k2⟩ := hR.on (belowJ w)
 have c1 := hA1.s1.cell
 go_enter Tryz.func34, Tryz.ntmps34
 go_wp2_with (go_at_call 60; refine (isv_hit pa pb p1 _ k1 k2).mono ?_; rintro e w' ⟨rfl, rfl⟩)
 exact bodyPost_ret (v := .int .i64 2) (by simp [results, Tryz.results34, go_sem]) rfl ⟨rfl, belowJ w⟩

set_option maxHeartbeats 1000000 in
set_option maxRecDepth 100000 in
theorem errno_v2 (a p1 p2 p3 p4 p5 : Addr) (pa : Nat) (w : World) (hA : Asks a p1 p2 p3 p4 p5 w) (hR : RefV w pa p2) :
  Calls Tryz.prog 34 #[.iface 160 (.pointer (some ⟨pa, 0, none⟩))] w fun e w' => e = .returned (.int .i64 3) ∧ Below w.heap.size w w' := by
 have hA1 := hA.on (belowJ w)
 obtain ⟨pb, k1, k2⟩ := hR.on (belowJ w)
 have c1 := hA1.s1.cell
 have c2 := hA1.s2.cell
 go_enter Tryz.func34, Tryz.ntmps34
 go_wp2_with (go_at_call 60; refine (isv_miss pa pb p2 p1 _ k1 k2 hA1.d21 hA1.s2.whole hA1.s1.whole).mono ?_; rintro e w' ⟨rfl, rfl⟩; refine Hid.out ?_)
 refine Lib.hid ?_
 go_wp2_with (go_at_call 60; refine (isv_hit pa pb p2 _ k1 k2).mono ?_; rintro e w' ⟨rfl, rfl⟩)
 exact bodyPost_ret (v := .int .i64 3) (by simp [results, Tryz.results34, go_sem]) rfl ⟨rfl, belowJ w⟩

set_option maxHeartbeats 1000000 in
set_option maxRecDepth 100000 in
theorem errno_v3 (a p1 p2 p3 p4 p5 : Addr) (pa : Nat) (w : World) (hA : Asks a p1 p2 p3 p4 p5 w) (hR : RefV w pa p3) :
  Calls Tryz.prog 34 #[.iface 160 (.pointer (some ⟨pa, 0, none⟩))] w fun e w' => e = .returned (.int .i64 4) ∧ Below w.heap.size w w' := by
 have hA1 := hA.on (belowJ w)
 obtain ⟨pb, k1, k2⟩ := hR.on (belowJ w)
 have c1 := hA1.s1.cell
 have c2 := hA1.s2.cell
 have c3 := hA1.s3.cell
 go_enter Tryz.func34, Tryz.ntmps34
 go_wp2_with (go_at_call 60; refine (isv_miss pa pb p3 p1 _ k1 k2 hA1.d31 hA1.s3.whole hA1.s1.whole).mono ?_; rintro e w' ⟨rfl, rfl⟩; refine Hid.out ?_)
 refine Lib.hid ?_
 go_wp2_with (go_at_call 60; refine (isv_miss pa pb p3 p2 _ k1 k2 hA1.d32 hA1.s3.whole hA1.s2.whole).mono ?_; rintro e w' ⟨rfl, rfl⟩; refine Hid.out ?_)
 refine Lib.hid ?_
 go_wp2_with (go_at_call 60; refine (isv_hit pa pb p3 _ k1 k2).mono ?_; rintro e w' ⟨rfl, rfl⟩)
 exact bodyPost_ret (v := .int .i64 4) (by simp [results, Tryz.results34, go_sem]) rfl ⟨rfl, belowJ w⟩

set_option maxHeartbeats 1000000 in
set_option maxRecDepth 100000 in
theorem errno_v5 (a p1 p2 p3 p4 p5 : Addr) (pa : Nat) (w : World) (hA : Asks a p1 p2 p3 p4 p5 w) (hR : RefV w pa p5) :
  Calls Tryz.prog 34 #[.iface 160 (.pointer (some ⟨pa, 0, none⟩))] w fun e w' => e = .returned (.int .i64 6) ∧ Below w.heap.size w w' := by
 have hA1 := hA.on (belowJ w)
 obtain ⟨pb, k1, k2⟩ := hR.on (belowJ w)
 have c1 := hA1.s1.cell
 have c2 := hA1.s2.cell
 have c3 := hA1.s3.cell
 have c5 := hA1.s5.cell
 go_enter Tryz.func34, Tryz.ntmps34
 go_wp2_with (go_at_call 60; refine (isv_miss pa pb p5 p1 _ k1 k2 hA1.d51 hA1.s5.whole hA1.s1.whole).mono ?_; rintro e w' ⟨rfl, rfl⟩; refine Hid.out ?_)
 refine Lib.hid ?_
 go_wp2_with (go_at_call 60; refine (isv_miss pa pb p5 p2 _ k1 k2 hA1.d52 hA1.s5.whole hA1.s2.whole).mono ?_; rintro e w' ⟨rfl, rfl⟩; refine Hid.out ?_)
 refine Lib.hid ?_
 go_wp2_with (go_at_call 60; refine (isv_miss pa pb p5 p3 _ k1 k2 hA1.d53 hA1.s5.whole hA1.s3.whole).mono ?_; rintro e w' ⟨rfl, rfl⟩; refine Hid.out ?_)
 refine Lib.hid ?_
 go_wp2_with (go_at_call 60; refine (isv_hit pa pb p5 _ k1 k2).mono ?_; rintro e w' ⟨rfl, rfl⟩)
 exact bodyPost_ret (v := .int .i64 6) (by simp [results, Tryz.results34, go_sem]) rfl ⟨rfl, belowJ w⟩

set_option maxHeartbeats 1000000 in
set_option maxRecDepth 100000 in
theorem errno_v4 (a p1 p2 p3 p4 p5 : Addr) (pa : Nat) (w : World) (hA : Asks a p1 p2 p3 p4 p5 w) (hR : RefV w pa p4) :
  Calls Tryz.prog 34 #[.iface 160 (.pointer (some ⟨pa, 0, none⟩))] w fun e w' => e = .returned (.int .i64 7) ∧ Below w.heap.size w w' := by
 have hA1 := hA.on (belowJ w)
 obtain ⟨pb, k1, k2⟩ := hR.on (belowJ w)
 have c1 := hA1.s1.cell
 have c2 := hA1.s2.cell
 have c3 := hA1.s3.cell
 have c5 := hA1.s5.cell
 have c4 := hA1.s4.cell
 go_enter Tryz.func34, Tryz.ntmps34
 go_wp2_with (go_at_call 60; refine (isv_miss pa pb p4 p1 _ k1 k2 hA1.d41 hA1.s4.whole hA1.s1.whole).mono ?_; rintro e w' ⟨rfl, rfl⟩; refine Hid.out ?_)
 refine Lib.hid ?_
 go_wp2_with (go_at_call 60; refine (isv_miss pa pb p4 p2 _ k1 k2 hA1.d42 hA1.s4.whole hA1.s2.whole).mono ?_; rintro e w' ⟨rfl, rfl⟩; refine Hid.out ?_)
 refine Lib.hid ?_
 go_wp2_with (go_at_call 60; refine (isv_miss pa pb p4 p3 _ k1 k2 hA1.d43 hA1.s4.whole hA1.s3.whole).mono ?_; rintro e w' ⟨rfl, rfl⟩; refine Hid.out ?_)
 refine Lib.hid ?_
 go_wp2_with (go_at_call 60; refine (isv_miss pa pb p4 p5 _ k1 k2 hA1.d45 hA1.s4.whole hA1.s5.whole).mono ?_; rintro e w' ⟨rfl, rfl⟩; refine Hid.out ?_)
 refine Lib.hid ?_
 go_wp2_with (go_at_call 60; refine (isv_hit pa pb p4 _ k1 k2).mono ?_; rintro e w' ⟨rfl, rfl⟩)
 exact bodyPost_ret (v := .int .i64 7) (by simp [results, Tryz.results34, go_sem]) rfl ⟨rfl, belowJ w⟩

set_option maxHeartbeats 1000000 in
set_option maxRecDepth 100000 in
/-- Another sentinel: ErrConfig. -/
theorem errno_v0 (a p1 p2 p3 p4 p5 p0 : Addr) (pa : Nat) (w : World) (hA : Asks a p1 p2 p3 p4 p5 w) (hW : Whole w p0) (n1 : p0 ≠ p1) (n2 : p0 ≠ p2) (n3 : p0 ≠ p3) (n4 : p0 ≠ p4) (n5 : p0 ≠ p5) (hR : RefV w pa p0) :
  Calls Tryz.prog 34 #[.iface 160 (.pointer (some ⟨pa, 0, none⟩))] w fun e w' => e = .returned (.int .i64 1) ∧ Below w.heap.size w w' := by
 have hA1 := hA.on (belowJ w)
 obtain ⟨pb, k1, k2⟩ := hR.on (belowJ w)
 have hW1 := hW.on (belowJ w) hW.low
 have c1 := hA1.s1.cell
 have c2 := hA1.s2.cell
 have c3 := hA1.s3.cell
 have c5 := hA1.s5.cell
 have c4 := hA1.s4.cell
 go_enter Tryz.func34, Tryz.ntmps34
 go_wp2_with (go_at_call 60; refine (isv_miss pa pb p0 p1 _ k1 k2 n1 hW1 hA1.s1.whole).mono ?_; rintro e w' ⟨rfl, rfl⟩; refine Hid.out ?_)
 refine Lib.hid ?_
 go_wp2_with (go_at_call 60; refine (isv_miss pa pb p0 p2 _ k1 k2 n2 hW1 hA1.s2.whole).mono ?_; rintro e w' ⟨rfl, rfl⟩; refine Hid.out ?_)
 refine Lib.hid ?_
 go_wp2_with (go_at_call 60; refine (isv_miss pa pb p0 p3 _ k1 k2 n3 hW1 hA1.s3.whole).mono ?_; rintro e w' ⟨rfl, rfl⟩; refine Hid.out ?_)
 refine Lib.hid ?_
 go_wp2_with (go_at_call 60; refine (isv_miss pa pb p0 p5 _ k1 k2 n5 hW1 hA1.s5.whole).mono ?_; rintro e w' ⟨rfl, rfl⟩; refine Hid.out ?_)
 refine Lib.hid ?_
 go_wp2_with (go_at_call 60; refine (isv_miss pa pb p0 p4 _ k1 k2 n4 hW1 hA1.s4.whole).mono ?_; rintro e w' ⟨rfl, rfl⟩; refine Hid.out ?_)
 refine Lib.hid ?_
 go_wp2_with (go_at_call 61; refine (asv_miss pa pb p0 _ _ hA1.typ k1 k2).mono ?_; rintro e w' ⟨rfl, rfl⟩)
 exact bodyPost_ret (v := .int .i64 1) (by simp [results, Tryz.results34, go_sem]) rfl ⟨rfl, (belowJ w).trans ((below_as _ _).mono (belowJ w).size)⟩

set_option maxHeartbeats 2000000 in
set_option maxRecDepth 100000 in
theorem errno_j (a p1 p2 p3 p4 p5 : Addr) (pa : Nat) (w : World) (hA : Asks a p1 p2 p3 p4 p5 w) (hR : RefJ w pa) :
  Calls Tryz.prog 34 #[.iface 160 (.pointer (some ⟨pa, 0, none⟩))] w fun e w' => e = .returned (.int .i64 5) ∧ Below w.heap.size w w' := by
 have hA1 := hA.on (belowJ w)
 obtain ⟨c, k1⟩ := hR.on (belowJ w)
 have ht0 : (w.alloc (.cells #[.pointer none] 115)).cell? ⟨w.heap.size, 0, none⟩ = some (.pointer none) := by simp
 have hf0 : (w.alloc (.cells #[.pointer none] 115)).frozen? ⟨w.heap.size, 0, none⟩ = false := frozen_of_row _ _ 0 _ _ (heap_alloc_new w _)
 have c1 := hA1.s1.cell
 have c2 := hA1.s2.cell
 have c3 := hA1.s3.cell
 have c5 := hA1.s5.cell
 have c4 := hA1.s4.cell
 go_enter Tryz.func34, Tryz.ntmps34
 go_wp2_with (go_at_call 60; refine (isj_miss pa c p1 _ k1).mono ?_; rintro e w' ⟨rfl, rfl⟩; refine Hid.out ?_)
 refine Lib.hid ?_
 go_wp2_with (go_at_call 60; refine (isj_miss pa c p2 _ k1).mono ?_; rintro e w' ⟨rfl, rfl⟩; refine Hid.out ?_)
 refine Lib.hid ?_
 go_wp2_with (go_at_call 60; refine (isj_miss pa c p3 _ k1).mono ?_; rintro e w' ⟨rfl, rfl⟩; refine Hid.out ?_)
 refine Lib.hid ?_
 go_wp2_with (go_at_call 60; refine (isj_miss pa c p5 _ k1).mono ?_; rintro e w' ⟨rfl, rfl⟩; refine Hid.out ?_)
 refine Lib.hid ?_
 go_wp2_with (go_at_call 60; refine (isj_miss pa c p4 _ k1).mono ?_; rintro e w' ⟨rfl, rfl⟩; refine Hid.out ?_)
 refine Lib.hid ?_
 go_wp2_with (go_at_call 61; refine (asj_hit pa c _ _ _ hA1.typ k1 ht0 hf0).mono ?_; rintro e w2 ⟨rfl, hw⟩; have HW := Lib.hid hw; clear hw; refine Hid.out ?_)
 refine Lib.hid ?_
 have hB : Below w.heap.size w w2 := by
  rw [HW.out]
  exact (((((belowJ w).alloc (belowJ w).size _).alloc (by simp; omega) _).alloc (by simp; omega) _).alloc (by simp; omega) _).setCell (p := ⟨w.heap.size, 0, none⟩) (Nat.le_refl _) _
 clear HW
 go_wp2
 exact bodyPost_ret (v := .int .i64 5) (by simp [results, Tryz.results34, go_sem]) rfl ⟨rfl, hB⟩

end Go.Proofs.YtpcgnadfldimhaaGreatDoor
