/-
 errors.As AT THE TARGET **cluster.JobError, by its contracts, for what package command refuses with: a Fault around ErrForm, a Fault around such a Fault: no JobError among them.
-/
import Derived.Test.YtpcgnadfldimhaaGreatDoorIs
namespace Go.Proofs.YtpcgnadfldimhaaGreatDoor
open Go.RowKit Go.Extern.Stop Go.Stop Go.Extern

theorem Tryz.asValueOf (t : Addr) (w : World) : (ReflectliteValue.unpack (.iface 118 (.pointer (some t)))).run Tryz.prog w
  = .ok (.agg #[.pointer (some ⟨17, 118, none⟩), .pointer (some ⟨w.heap.size, 0, none⟩), .int .u64 150]) (w.alloc (.cells #[.pointer (some t)] 118)) := by kernel_rfl
theorem Tryz.asType (a : Addr) (w : World) : (ReflectliteValue.methodAny (ReflectliteValue.valueError "reflectlite.Value.Type" 0) (fun t _ _ _ => ReflectliteType.toType t) #[.agg #[.pointer (some ⟨17, 118, none⟩), .pointer (some a), .int .u64 150]]).run Tryz.prog w
  = .ok (.iface 234 (.agg #[.pointer (some ⟨17, 118, none⟩)])) w := by kernel_rfl
theorem Tryz.asMethodKind (h : Value) (w : World) : (Go.method 446 234 (.agg #[h]) "Kind").run Tryz.prog w = .ok (213, h) w := by kernel_rfl
theorem Tryz.asKindPP (w : World) : ((ReflectliteType.abiMethod fun t => (fun a : Nat => Value.int IntKind.u8 (a : Int)) <$> Rtype.kind t) #[.pointer (some ⟨17, 118, none⟩)]).run Tryz.prog w = .ok (.int .u8 22) w := by kernel_rfl
theorem Tryz.asKindP (w : World) : ((ReflectliteType.abiMethod fun t => (fun a : Nat => Value.int IntKind.u8 (a : Int)) <$> Rtype.kind t) #[.pointer (some ⟨17, 115, none⟩)]).run Tryz.prog w = .ok (.int .u8 22) w := by kernel_rfl
theorem rlm (z : Sem Value) (f : TypeId → Addr → Nat → Nat → Sem Value) (v : Value) :
  ReflectliteValue.method z f #[v] = (do match ← ReflectliteValue.parts v with | none => z | some (t, a, fl) => f t a fl (fl % 32)) := rfl
theorem Tryz.asPartsPP (a : Addr) (w : World) : (ReflectliteValue.parts (.agg #[.pointer (some ⟨17, 118, none⟩), .pointer (some a), .int .u64 150])).run Tryz.prog w = .ok (some (118, a, 150)) w := by kernel_rfl
theorem Tryz.asIsNil (a p : Addr) (W : World) (ha : W.cell? a = some (.pointer (some p))) :
  (ReflectliteValue.method (ReflectliteValue.valueError "reflectlite.Value.IsNil" 0) ReflectliteValue.isNil #[.agg #[.pointer (some ⟨17, 118, none⟩), .pointer (some a), .int .u64 150]]).run Tryz.prog W = .ok (.bool false) W := by
 rw [rlm]
 simp only [Sem.run_bind, Tryz.asPartsPP, Result.andThen]
 simp [ReflectliteValue.isNil, loadVar, isAgg, underlying, Tryz.underlying118, ha, Result.andThen]
theorem Tryz.asMethodElem (h : Value) (w : World) : (Go.method 446 234 (.agg #[h]) "Elem").run Tryz.prog w = .ok (234, .agg #[h]) w := by kernel_rfl
theorem Tryz.asMethodImplements (h : Value) (w : World) : (Go.method 446 234 (.agg #[h]) "Implements").run Tryz.prog w = .ok (235, .agg #[h]) w := by kernel_rfl
theorem Tryz.asMethodAssignableTo (h : Value) (w : World) : (Go.method 446 234 (.agg #[h]) "AssignableTo").run Tryz.prog w = .ok (232, .agg #[h]) w := by kernel_rfl
theorem Tryz.asElem (w : World) : (ReflectliteType.method ReflectliteType.elem #[.agg #[.pointer (some ⟨17, 118, none⟩)]]).run Tryz.prog w = .ok (.iface 234 (.agg #[.pointer (some ⟨17, 115, none⟩)])) w := by kernel_rfl
theorem Tryz.asImplements (w : World) : (ReflectliteType.relation "Implements" ReflectliteType.implements_ #[.agg #[.pointer (some ⟨17, 115, none⟩)], .iface 234 (.agg #[.pointer (some ⟨17, 89, none⟩)])]).run Tryz.prog w = .ok (.bool true) w := by kernel_rfl
theorem Tryz.asTypeOfW (v : Value) (w : World) : (ReflectliteType.typeOf #[.iface 209 v]).run Tryz.prog w = .ok (.iface 234 (.agg #[.pointer (some ⟨17, 209, none⟩)])) w := by kernel_rfl
theorem Tryz.asAssignW (w : World) : (ReflectliteType.relation "AssignableTo" ReflectliteType.assignableTo #[.agg #[.pointer (some ⟨17, 209, none⟩)], .iface 234 (.agg #[.pointer (some ⟨17, 115, none⟩)])]).run Tryz.prog w = .ok (.bool false) w := by kernel_rfl
theorem Tryz.asAssignE (w : World) : (ReflectliteType.relation "AssignableTo" ReflectliteType.assignableTo #[.agg #[.pointer (some ⟨17, 315, none⟩)], .iface 234 (.agg #[.pointer (some ⟨17, 115, none⟩)])]).run Tryz.prog w = .ok (.bool false) w := by kernel_rfl
theorem Tryz.noAsE (v : Value) (xT : TypeId) (w : World) : (Instr.typeAssert (.iface 315 v) xT 246 true).run Tryz.prog w = .ok (.tuple #[.nilIface, .bool false]) w := run_typeAssert_lacksB Tryz.underlying246 (by kernel_rfl) (by kernel_rfl) v xT w
theorem Tryz.noAsW (v : Value) (xT : TypeId) (w : World) : (Instr.typeAssert (.iface 209 v) xT 246 true).run Tryz.prog w = .ok (.tuple #[.nilIface, .bool false]) w := run_typeAssert_lacksB Tryz.underlying246 (by kernel_rfl) (by kernel_rfl) v xT w

/-- The world behind an errors.As that finds none: three blocks more. -/
def asWorld (t : Addr) (w : World) : World := ((w.alloc (.cells #[.pointer (some t)] 118)).alloc (.cells #[.pointer (some ⟨17, 118, none⟩), .pointer (some ⟨w.heap.size, 0, none⟩), .int .u64 150] 195)).alloc (.cells #[.pointer (some ⟨17, 118, none⟩), .pointer (some ⟨w.heap.size, 0, none⟩), .int .u64 150] 195)

theorem cell_up {w : World} {p : Addr} {v : Value} (h : w.cell? p = some v) (o : Obj) : (w.alloc o).cell? p = some v := by
 rw [World.cell?_alloc_lt _ _ p (by
  rcases Nat.lt_or_ge p.block w.heap.size with h' | h'
  ·exact h'
  ·simp [World.cell?, Array.getElem?_eq_none h'] at h)]
 exact h

set_option maxRecDepth 100000 in
set_option maxHeartbeats 4000000 in
theorem as_miss1 (pb : Nat) (a t : Addr) (w : World) (hg : w.cell? ⟨6, 0, none⟩ = some (.iface 234 (.agg #[.pointer (some ⟨17, 89, none⟩)])))
  (h1 : w.cell? ⟨pb, 1, none⟩ = some (.iface 315 (.pointer (some a)))) :
  Calls Tryz.prog 61 #[.iface 209 (.pointer (some ⟨pb, 0, none⟩)), .iface 118 (.pointer (some t))] w fun e w' => e = .returned (.bool false) ∧ w' = asWorld t w := by
 have h6 := @run_callFunc_extern Tryz.prog 101 _ (fun args => ReflectliteValue.unpack (args.getD 0 (.tuple #[]))) Tryz.func101 (by kernel_rfl) (by kernel_rfl) (by kernel_rfl) (by kernel_rfl)
 have h7 := @run_callFunc_extern Tryz.prog 102 _ (ReflectliteValue.methodAny (ReflectliteValue.valueError "reflectlite.Value.Type" 0) (fun t _ _ _ => ReflectliteType.toType t)) Tryz.func102 (by kernel_rfl) (by kernel_rfl) (by kernel_rfl) (by kernel_rfl)
 have h8 := @run_callFunc_extern Tryz.prog 103 _ (ReflectliteValue.method (ReflectliteValue.valueError "reflectlite.Value.IsNil" 0) ReflectliteValue.isNil) Tryz.func103 (by kernel_rfl) (by kernel_rfl) (by kernel_rfl) (by kernel_rfl)
 have h27 := @run_callFunc_extern Tryz.prog 213 _ (ReflectliteType.abiMethod fun t => do pure (.int .u8 (← Rtype.kind t))) Tryz.func213 (by kernel_rfl) (by kernel_rfl) (by kernel_rfl) (by kernel_rfl)
 have h37 := @run_callFunc_extern Tryz.prog 234 _ (ReflectliteType.method ReflectliteType.elem) Tryz.func234 (by kernel_rfl) (by kernel_rfl) (by kernel_rfl) (by kernel_rfl)
 have h38 := @run_callFunc_extern Tryz.prog 235 _ (ReflectliteType.relation "Implements" ReflectliteType.implements_) Tryz.func235 (by kernel_rfl) (by kernel_rfl) (by kernel_rfl) (by kernel_rfl)
 have h10 := @run_callFunc_extern Tryz.prog 99 _ ReflectliteType.typeOf Tryz.func99 (by kernel_rfl) (by kernel_rfl) (by kernel_rfl) (by kernel_rfl)
 have h35 := @run_callFunc_extern Tryz.prog 232 _ (ReflectliteType.relation "AssignableTo" ReflectliteType.assignableTo) Tryz.func232 (by kernel_rfl) (by kernel_rfl) (by kernel_rfl) (by kernel_rfl)
 have tW := Tryz.asTypeOfW
 have tE := Tryz.isTypeOf
 have mA := Tryz.asMethodAssignableTo
 have aW := Tryz.asAssignW
 have aE := Tryz.asAssignE
 have f6 := Tryz.asValueOf
 have f7 := Tryz.asType
 have mK := Tryz.asMethodKind
 have mE := Tryz.asMethodElem
 have mI := Tryz.asMethodImplements
 have k27 := Tryz.asKindPP
 have k25 := Tryz.asKindP
 have e27 := Tryz.asElem
 have i25 := Tryz.asImplements
 have nW := Tryz.noAsW
 have nE := Tryz.noAsE
 have uW := Tryz.hasUnwrapW
 have uE := Tryz.noUnwrapE
 have usE := Tryz.noUnwrapsE
 have mU := Tryz.methodUnwrap
 have n8 := Tryz.asIsNil ⟨w.heap.size, 0, none⟩ t ((w.alloc (.cells #[.pointer (some t)] 118)).alloc (.cells #[.pointer (some ⟨17, 118, none⟩), .pointer (some ⟨w.heap.size, 0, none⟩), .int .u64 150] 195)) (by simp)
 have hg2 := fun o1 o2 => cell_up (cell_up hg o1) o2
 have h12 := fun o1 o2 o3 => cell_up (cell_up (cell_up h1 o1) o2) o3
 go_enter Tryz.func61, Tryz.ntmps61
 go_wp2
 refine wp_loop_rounds 2 ?_
 rw [rounds_succ]
 go_wp2
 rw [rounds_succ]
 go_wp2
 go_ret
 exact ⟨rfl, rfl⟩

set_option maxRecDepth 100000 in
set_option maxHeartbeats 4000000 in
theorem as_miss2 (pa pb : Nat) (a t : Addr) (w : World) (hg : w.cell? ⟨6, 0, none⟩ = some (.iface 234 (.agg #[.pointer (some ⟨17, 89, none⟩)])))
  (h0 : w.cell? ⟨pa, 1, none⟩ = some (.iface 209 (.pointer (some ⟨pb, 0, none⟩)))) (h1 : w.cell? ⟨pb, 1, none⟩ = some (.iface 315 (.pointer (some a)))) :
  Calls Tryz.prog 61 #[.iface 209 (.pointer (some ⟨pa, 0, none⟩)), .iface 118 (.pointer (some t))] w fun e w' => e = .returned (.bool false) ∧ w' = asWorld t w := by
 have h6 := @run_callFunc_extern Tryz.prog 101 _ (fun args => ReflectliteValue.unpack (args.getD 0 (.tuple #[]))) Tryz.func101 (by kernel_rfl) (by kernel_rfl) (by kernel_rfl) (by kernel_rfl)
 have h7 := @run_callFunc_extern Tryz.prog 102 _ (ReflectliteValue.methodAny (ReflectliteValue.valueError "reflectlite.Value.Type" 0) (fun t _ _ _ => ReflectliteType.toType t)) Tryz.func102 (by kernel_rfl) (by kernel_rfl) (by kernel_rfl) (by kernel_rfl)
 have h8 := @run_callFunc_extern Tryz.prog 103 _ (ReflectliteValue.method (ReflectliteValue.valueError "reflectlite.Value.IsNil" 0) ReflectliteValue.isNil) Tryz.func103 (by kernel_rfl) (by kernel_rfl) (by kernel_rfl) (by kernel_rfl)
 have h27 := @run_callFunc_extern Tryz.prog 213 _ (ReflectliteType.abiMethod fun t => do pure (.int .u8 (← Rtype.kind t))) Tryz.func213 (by kernel_rfl) (by kernel_rfl) (by kernel_rfl) (by kernel_rfl)
 have h37 := @run_callFunc_extern Tryz.prog 234 _ (ReflectliteType.method ReflectliteType.elem) Tryz.func234 (by kernel_rfl) (by kernel_rfl) (by kernel_rfl) (by kernel_rfl)
 have h38 := @run_callFunc_extern Tryz.prog 235 _ (ReflectliteType.relation "Implements" ReflectliteType.implements_) Tryz.func235 (by kernel_rfl) (by kernel_rfl) (by kernel_rfl) (by kernel_rfl)
 have h10 := @run_callFunc_extern Tryz.prog 99 _ ReflectliteType.typeOf Tryz.func99 (by kernel_rfl) (by kernel_rfl) (by kernel_rfl) (by kernel_rfl)
 have h35 := @run_callFunc_extern Tryz.prog 232 _ (ReflectliteType.relation "AssignableTo" ReflectliteType.assignableTo) Tryz.func232 (by kernel_rfl) (by kernel_rfl) (by kernel_rfl) (by kernel_rfl)
 have tW := Tryz.asTypeOfW
 have tE := Tryz.isTypeOf
 have mA := Tryz.asMethodAssignableTo
 have aW := Tryz.asAssignW
 have aE := Tryz.asAssignE
 have f6 := Tryz.asValueOf
 have f7 := Tryz.asType
 have mK := Tryz.asMethodKind
 have mE := Tryz.asMethodElem
 have mI := Tryz.asMethodImplements
 have k27 := Tryz.asKindPP
 have k25 := Tryz.asKindP
 have e27 := Tryz.asElem
 have i25 := Tryz.asImplements
 have nW := Tryz.noAsW
 have nE := Tryz.noAsE
 have uW := Tryz.hasUnwrapW
 have uE := Tryz.noUnwrapE
 have usE := Tryz.noUnwrapsE
 have mU := Tryz.methodUnwrap
 have n8 := Tryz.asIsNil ⟨w.heap.size, 0, none⟩ t ((w.alloc (.cells #[.pointer (some t)] 118)).alloc (.cells #[.pointer (some ⟨17, 118, none⟩), .pointer (some ⟨w.heap.size, 0, none⟩), .int .u64 150] 195)) (by simp)
 have hg2 := fun o1 o2 => cell_up (cell_up hg o1) o2
 have h02 := fun o1 o2 o3 => cell_up (cell_up (cell_up h0 o1) o2) o3
 have h12 := fun o1 o2 o3 => cell_up (cell_up (cell_up h1 o1) o2) o3
 go_enter Tryz.func61, Tryz.ntmps61
 go_wp2
 refine wp_loop_rounds 3 ?_
 rw [rounds_succ]
 go_wp2
 rw [rounds_succ]
 go_wp2
 rw [rounds_succ]
 go_wp2
 go_ret
 exact ⟨rfl, rfl⟩

theorem below_as (t : Addr) (w : World) : Below w.heap.size w (asWorld t w) :=
 (((Below.refl _ _).alloc (Nat.le_refl _) _).alloc (by simp) _).alloc (by simp; omega) _

end Go.Proofs.YtpcgnadfldimhaaGreatDoor
