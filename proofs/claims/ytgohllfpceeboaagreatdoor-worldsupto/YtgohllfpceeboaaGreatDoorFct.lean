import Derived.Test.YtgohllfpceeboaaGreatDoorRows
import Derived.JoinedCond
namespace Go.Proofs.YtgohllfpceeboaaGreatDoor
theorem band {a b : Bool} (ha : a = true) (hb : b = true) : (a && b) = true := by rw [ha, hb]; rfl
set_option maxRecDepth 100000
theorem fct_laid : laidOutB Tryz.prog = true := by kernel_rfl
theorem fct_maps : mapsRowed Tryz.prog = true := by kernel_rfl
theorem fct_heard : Tryz.prog.stopsHeard = true := by kernel_rfl
theorem fct_enter : Tryz.prog.mayEnter = true := by kernel_rfl
theorem fct_keys : (true == Tryz.prog.plainKeys) = true := by kernel_rfl
end Go.Proofs.YtgohllfpceeboaaGreatDoor
