import Derived.Test.YtgohllfpceeboabGreatDoorSbaa
import Derived.Deep.Cut
namespace Go.Proofs.YtgohllfpceeboabGreatDoor
open Go.RowKit

theorem ba_len (t : ByteArray) : t.data.toList.length = t.size := by simp
theorem ba_get (t : ByteArray) (k : Nat) (h : k < t.size) : t.data.toList.getD k 0 = t[k] := by
  have : k < t.data.toList.length := by simpa using h
  rw [List.getD_eq_getElem?_getD, List.getElem?_eq_getElem this, Option.getD_some]
  exact Array.getElem_toList ..
theorem ba_drop (t : ByteArray) (k : Nat) : (t.extract k t.size).data.toList = t.data.toList.drop k := by
  rw [ByteArray.data_extract, Array.toList_extract]
  simp only [List.extract_eq_take_drop]
  rw [List.take_of_length_le]
  simp
theorem ba_take (t : ByteArray) (k : Nat) : (t.extract 0 k).data.toList = t.data.toList.take k := by
  rw [ByteArray.data_extract, Array.toList_extract]
  simp [List.extract_eq_take_drop]

end Go.Proofs.YtgohllfpceeboabGreatDoor

