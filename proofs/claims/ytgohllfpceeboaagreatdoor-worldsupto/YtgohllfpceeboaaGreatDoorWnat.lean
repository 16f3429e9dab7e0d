import Derived.Test.YtgohllfpceeboaaGreatDoorWnab
namespace Go.Proofs.YtgohllfpceeboaaGreatDoor
open Go.RowKit
theorem num_any (n:Int) (w:World):Calls Tryz.prog 99 #[.int .i64 n] w fun e w'=>e=.returned (.int .i64 n)∧w'=w:=by
 go_enter Tryz.func99,Tryz.ntmps99;go_wp2;go_ret;exact ⟨rfl,rfl⟩
def Stays (LW:World→Prop):Prop:=∀ w w',LW w→Below w.heap.size w w'→LW w'
structure OpC where
 k:Int
 n1:Int
 n2:Int
 n3:Int
 s:ByteArray
 t:ByteArray
 la:Option Addr
 ln:Nat
 lc:Nat
 md:Bool
def OpC.cells (o:OpC):List Value:=[.int .i64 o.k,.int .i64 o.n1,.int .i64 o.n2,.int .i64 o.n3,.string o.s,.string o.t,.slice o.la o.ln o.lc,.bool o.md]
def OpsAt (w:World) (b off:Nat) (l:List OpC):Prop:=b<w.heap.size∧∀ j (h:j<l.length),∀ i v,(l[j].cells)[i]? = some v→w.cell? ⟨b,off+j*8+i,none⟩=some v
end Go.Proofs.YtgohllfpceeboaaGreatDoor
