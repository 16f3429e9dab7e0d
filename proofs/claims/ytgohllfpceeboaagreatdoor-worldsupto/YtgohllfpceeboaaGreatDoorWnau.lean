import Derived.Test.YtgohllfpceeboaaGreatDoorWnab
namespace Go.Proofs.YtgohllfpceeboaaGreatDoor
open Go.RowKit
def PlnPost (r:List UInt8 × Int) (B:Nat) (w:World) (e:Ending) (w':World):Prop :=
 Below B w w'∧e=.returned (.tuple #[.string ⟨r.1.toArray⟩,.int .i64 r.2])
end Go.Proofs.YtgohllfpceeboaaGreatDoor
