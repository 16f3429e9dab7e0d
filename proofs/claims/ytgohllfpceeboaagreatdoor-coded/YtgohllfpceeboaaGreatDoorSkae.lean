import Derived.Test.YtgohllfpceeboaaGreatDoorRefP
import Derived.Laws.CopyOwn
namespace Sx
end Sx
namespace Go.Proofs.YtgohllfpceeboaaGreatDoor
open Go.RowKit
end Go.Proofs.YtgohllfpceeboaaGreatDoor
namespace Go.Proofs.YtgohllfpceeboaaGreatDoor
open Go.RowKit
theorem RdS.below {W W' : World} {v : Value} {L : List (List UInt8)} (h : RdS W v L) (hb : Below W.heap.size W W') : RdS W' v L := by
  obtain ⟨p, cap, h1, h2⟩ := h
  refine ⟨p, cap, h1, fun j hj => ?_⟩
  obtain ⟨b, off, e1, e2, e3⟩ := h2 j hj
  exact ⟨b, off, e1, Nat.lt_of_lt_of_le e2 hb.size, (hb.cell (p := ⟨b, off + j, none⟩) e2).trans e3⟩
end Go.Proofs.YtgohllfpceeboaaGreatDoor
namespace Go.Proofs.YtgohllfpceeboaaGreatDoor
open Go.RowKit
end Go.Proofs.YtgohllfpceeboaaGreatDoor

