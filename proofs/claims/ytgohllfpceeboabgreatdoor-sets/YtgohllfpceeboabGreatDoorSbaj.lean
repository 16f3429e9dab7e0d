import Derived.Test.YtgohllfpceeboabGreatDoorSbaa
import Derived.Deep.QuietTactic
import Derived.BigQuiet
import Derived.WalkSmall
namespace Go.Proofs.YtgohllfpceeboabGreatDoor
open Go.RowKit

theorem enc_more (l : List Int) (c0 : Nat) (todo : List Nat) (pre : List UInt8) (bias n i m : Int) (first : Bool) (h : pre ++ Sx.encWays ((c0 :: todo).map (Sx.wayAt l)) bias n i m first = Sx.enc l) :
    (pre ++ Sx.writ ((l.getD c0 0 - n) * (m + 1) + (Sx.stand l c0 : Int) - (i + 1)) 0 bias) ++ Sx.encWays (todo.map (Sx.wayAt l)) (Sx.after ((l.getD c0 0 - n) * (m + 1) + (Sx.stand l c0 : Int) - (i + 1)) (m + 1) first) (l.getD c0 0) (Sx.stand l c0) (m + 1) false = Sx.enc l := by
  rw [← h]
  simp only [List.map_cons, Sx.wayAt, Sx.encWays, List.append_assoc]

end Go.Proofs.YtgohllfpceeboabGreatDoor

