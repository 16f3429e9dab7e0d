import Derived.Test.YtgohllfpceeboabGreatDoorSbay
import Derived.Test.YtgohllfpceeboabGreatDoorSbbb
import Derived.Test.YtgohllfpceeboabGreatDoorSbaa
import Derived.Test.YtgohllfpceeboabGreatDoorSbaq
import Derived.Test.YtgohllfpceeboabGreatDoorSbar
import Derived.Test.YtgohllfpceeboabGreatDoorSbbe
import Derived.Test.YtgohllfpceeboabGreatDoorSbaz
import Derived.Test.YtgohllfpceeboabGreatDoorSbbf
import Derived.Test.YtgohllfpceeboabGreatDoorProg
import Derived.Test.YtgohllfpceeboabGreatDoorSbab
import Derived.Test.YtgohllfpceeboabGreatDoorSbba
namespace Go.Proofs.YtgohllfpceeboabGreatDoor
open Go.RowKit
theorem below_len (l : List Sx.RawR) {ix : List Nat} (hi : Sx.IxOk ix) (h4 : ix.length ≤ 4) {p d t : List UInt8} {e : Int} (hlk : lkR (Sx.compR [Sx.listT (Sx.kepF l)]).1 (Sx.dotted (ix.map Sx.nm)) = (p, d, t, e)) : d.length ≤ 1000 := by
  obtain ⟨k1, k2⟩ := Sx.kepF_ok l
  have hhost := Sx.host_ix hi
  have hs : (Sx.host (Sx.dotted (ix.map Sx.nm))).2 = 0 := by rw [hhost]
  obtain ⟨l1, -, -⟩ := look_is k1 hs
  rw [Sx.comp_list k1 k2] at hlk
  rw [hhost] at l1
  dsimp only at l1 hlk
  rw [l1] at hlk
  have hd := congrArg (fun q : List UInt8 × List UInt8 × List UInt8 × Int => q.2.1) hlk
  dsimp only at hd
  rw [← hd]
  split
  · generalize (ix.map Sx.nmP).length - _ = n
    have h1 := Sx.dots_le 11 ((ix.map Sx.nmP).drop n) (fun x hx => by
        obtain ⟨i, hi', rfl⟩ := List.mem_map.1 (List.mem_of_mem_drop hx)
        exact (Sx.nm_is i (hi.lt i hi')).2.2.2.2.2.1)
    rw [List.length_drop, List.length_map] at h1
    omega
  · simp
end Go.Proofs.YtgohllfpceeboabGreatDoor

