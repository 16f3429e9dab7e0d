import Derived.Test.YtgohllfpceeboabGreatDoorAnbx
namespace Go.Proofs.YtgohllfpceeboabGreatDoor
open Go.RowKit
theorem t8 (l:List OpC)(b off cap:Nat)(w:World)(hw:gW w)(ho:WS w b off l)(hls:∀ o∈l,OpLs w o∧S8 o)(hl:l.length≤1100000) :
 Calls Tryz.prog 4 #[.slice (some ⟨b,off,none⟩) l.length cap] w fun e w'=>e=.returned (.bool true)∧Below w.heap.size w w':=by
 have HC:=hide (SS l b off cap w hw ho hls hl);clear hw ho hls;go_enter Tryz.func4,Tryz.ntmps4;go_wp2_with (go_at_call 19;go_must (refine HC.out.mono ?_;rintro e w' ⟨rfl,hB⟩))
 go_ret;exact⟨rfl,hB⟩
theorem qB (a:Option Addr)(cap:Nat)(w:World):Calls Tryz.prog 4 #[.slice a 0 cap] w fun e w'=>e=.returned (.bool true)∧Below w.heap.size w w':=by
 have HC:=hide (GU a cap w);go_enter Tryz.func4,Tryz.ntmps4;go_wp2_with (go_at_call 19;go_must (refine HC.out.mono ?_;rintro e w' ⟨rfl,hB⟩))
 go_ret;exact⟨rfl,hB⟩
end Go.Proofs.YtgohllfpceeboabGreatDoor
