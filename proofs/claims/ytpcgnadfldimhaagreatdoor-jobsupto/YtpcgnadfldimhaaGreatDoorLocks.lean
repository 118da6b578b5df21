/-
  The lock: the numbers under which this program holds the library's text of it; Lock where it is free, Unlock where it is held.
-/
import Derived.Test.YtpcgnadfldimhaaGreatDoorMemG
import Derived.Conc.MuLone
namespace Go.Proofs.YtpcgnadfldimhaaGreatDoor
open Go.RowKit

abbrev muLink : Go.Conc.Locks.MuLink := { lock := 31, unlock := 32, ilock := 51, iunlock := 52, lockSlow := 86, unlockSlow := 89, disable := 82, enable := 84, acquire := 85, relMerge := 87, cas32 := 83, add32 := 88, tMutex := 84, tIMutex := 82, tPMutex := 111, tPIMutex := 152, tPI32 := 154, tUP := 156, tNoCopy := 79, tU32 := 80 }
theorem muLib : Go.Conc.Locks.MuLib Tryz.prog muLink :=
  ⟨Tryz.func31, Tryz.func32, Tryz.func51, Tryz.func52, Tryz.func82, Tryz.func84, Tryz.func85, Tryz.func87, Tryz.func83, Tryz.func88, Tryz.underlying82, Tryz.runUnderlying82, Tryz.sizeOf82, Tryz.isAgg82, Tryz.zeroValue82, Tryz.underlying84, Tryz.runUnderlying84, Tryz.sizeOf84, Tryz.isAgg84, Tryz.zeroValue84, Tryz.underlying111, Tryz.runUnderlying111, Tryz.sizeOf111, Tryz.isAgg111, Tryz.zeroValue111, Tryz.underlying152, Tryz.runUnderlying152, Tryz.sizeOf152, Tryz.isAgg152, Tryz.zeroValue152, Tryz.underlying154, Tryz.runUnderlying154, Tryz.sizeOf154, Tryz.isAgg154, Tryz.zeroValue154, Tryz.underlying156, Tryz.runUnderlying156, Tryz.sizeOf156, Tryz.isAgg156, Tryz.zeroValue156, Tryz.underlying79, Tryz.runUnderlying79, Tryz.sizeOf79, Tryz.isAgg79, Tryz.zeroValue79, Tryz.underlying21, Tryz.runUnderlying21, Tryz.sizeOf21, Tryz.isAgg21, Tryz.zeroValue21, (by kernel_rfl)⟩

theorem lock_any (a : Addr) (w : World) (hc : w.cell? a = some (.int .i32 0)) (hz : w.frozen? a = false) : Calls Tryz.prog 31 #[.pointer (some a)] w fun e w' => e = .returned (.tuple #[]) ∧ w' = w.setCell a (.int .i32 1) := Go.MuLone.lock_free muLib a w hc hz
theorem unlock_any (a : Addr) (w : World) (hc : w.cell? a = some (.int .i32 1)) (hz : w.frozen? a = false) : Calls Tryz.prog 32 #[.pointer (some a)] w fun e w' => e = .returned (.tuple #[]) ∧ w' = w.setCell a (.int .i32 0) := Go.MuLone.unlock_held muLib a w hc hz

end Go.Proofs.YtpcgnadfldimhaaGreatDoor
