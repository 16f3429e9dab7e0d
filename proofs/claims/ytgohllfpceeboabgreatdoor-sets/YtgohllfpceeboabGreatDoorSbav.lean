import Derived.Test.YtgohllfpceeboabGreatDoorSbaa
import Derived.Test.YtgohllfpceeboabGreatDoorSbar
import Derived.Deep.CutBlock
import Derived.Deep.DeepCutAuto
namespace Go.Proofs.YtgohllfpceeboabGreatDoor
open Go.RowKit
/-- Texts that lie somewhere, to be read. -/
def RdS (w : World) (v : Value) (L : List (List UInt8)) : Prop := ∃ p cap, v = .slice p L.length cap ∧ ∀ j (h : j < L.length), ∃ b off, p = some ⟨b, off, none⟩ ∧ b < w.heap.size ∧ w.cell? ⟨b, off + j, none⟩ = some (.string ⟨L[j].toArray⟩)
theorem sl_take (L : List (List UInt8)) (k : Nat) (h : k < L.length) : Sx.sl (L.take (k + 1)) = Sx.sl (L.take k) + L[k].length := by
  unfold Sx.sl
  rw [List.take_succ_eq_append_getElem h, List.map_append, List.sum_append]
  simp
theorem sl_split (L : List (List UInt8)) (k : Nat) : Sx.sl L = Sx.sl (L.take k) + Sx.sl (L.drop k) := by
  unfold Sx.sl
  rw [← List.sum_append, ← List.map_append, List.take_append_drop]
theorem sl_drop (L : List (List UInt8)) (k : Nat) (h : k < L.length) : Sx.sl (L.drop k) = L[k].length + Sx.sl (L.drop (k + 1)) := by
  rw [List.drop_eq_getElem_cons h]
  unfold Sx.sl
  rw [List.map_cons, List.sum_cons]
/-- What comes of the lists behind. -/
def contL (r : List (List UInt8)) (x : List Sx.Rl × Int × Int) : List Sx.Rl × Int × Int := if x.2.1 = 0 then Sx.addAll r x.1 x.2.2 else x
theorem addAll_cons (s : List UInt8) (r : List (List UInt8)) (rs : List Sx.Rl) (n : Int) : Sx.addAll (s :: r) rs n = contL r (Sx.addLns (Sx.linesOf s) rs 105 n) := by
  rw [Sx.addAll]; rfl
end Go.Proofs.YtgohllfpceeboabGreatDoor

