import Derived.Test.YtgohllfpceeboabGreatDoorRows
import Derived.JoinedCond
namespace Go.Proofs.YtgohllfpceeboabGreatDoor
theorem af {a b : Bool} (ha : a = true) (hb : b = true) : (a && b) = true := by rw [ha, hb]; rfl
set_option maxRecDepth 100000
theorem YQ : laidOutB Tryz.prog = true := by kernel_rfl
theorem VU : mapsRowed Tryz.prog = true := by kernel_rfl
theorem SA : Tryz.prog.stopsHeard = true := by kernel_rfl
theorem RZ : Tryz.prog.mayEnter = true := by kernel_rfl
theorem U4 : (true == Tryz.prog.plainKeys) = true := by kernel_rfl
end Go.Proofs.YtgohllfpceeboabGreatDoor
