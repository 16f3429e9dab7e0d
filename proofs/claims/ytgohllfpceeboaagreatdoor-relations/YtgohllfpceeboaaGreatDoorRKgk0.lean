import Derived.Test.YtgohllfpceeboaaGreatDoorSbbg
import Derived.Test.YtgohllfpceeboaaGreatDoorRKga
import Derived.Test.YtgohllfpceeboaaGreatDoorRKgb
import Derived.Test.YtgohllfpceeboaaGreatDoorRKgc
import Derived.Test.YtgohllfpceeboaaGreatDoorRKgg
import Derived.Test.YtgohllfpceeboaaGreatDoorRKgh
import Derived.Test.YtgohllfpceeboaaGreatDoorRKgi
import Derived.Test.YtgohllfpceeboaaGreatDoorRKgj
namespace Go.Proofs.YtgohllfpceeboaaGreatDoor
open Go.RowKit
/-- A step of raw numbers. -/
abbrev RawS := Int × Int × Int × Int × Int
def StOk (r : RawS) : Prop := I64 r.1 ∧ I64 r.2.1 ∧ I64 r.2.2.1 ∧ I64 r.2.2.2.1 ∧ I64 r.2.2.2.2
def stA (r : RawS) : Value := .agg #[.int .i64 r.1, .int .i64 r.2.1, .int .i64 r.2.2.1, .int .i64 r.2.2.2.1, .int .i64 r.2.2.2.2]
theorem StPost.keep {w w' : World} {g b : Nat} {rs : List Sx.Rl} {cs : Array Value} (h : StPost w g rs w') (hb : w.heap[b]? = some (.cells cs 67 (0, 0))) : w'.heap[b]? = some (.cells cs 67 (0, 0)) := by
  obtain ⟨o', q1, q2, q3, q4, q5⟩ := h
  exact q5 b cs _ _ (by decide) (by decide) hb
theorem sl_cell {V y : World} {p q : ByteArray} (h : Below (V.alloc (.cells #[.string p, .string q] 9)).heap.size (V.alloc (.cells #[.string p, .string q] 9)) y) : y.cell? ⟨V.heap.size, 0, none⟩ = some (.string p) ∧ y.cell? ⟨V.heap.size, 1, none⟩ = some (.string q) := by
  have hm := World.cell?_alloc_mark V #[.string p, .string q] 9 (0, 0)
  have hz : V.heap.size < (V.alloc (.cells #[.string p, .string q] 9)).heap.size := by rw [World.size_alloc]; omega
  exact ⟨(h.cell (p := ⟨V.heap.size, 0, none⟩) hz).trans ((hm 0).trans rfl), (h.cell (p := ⟨V.heap.size, 1, none⟩) hz).trans ((hm 1).trans rfl)⟩
theorem sl_cellD {V y : World} {p q : ByteArray} (h : Below (V.alloc (.cells #[.string p, .string q] 9)).drew.heap.size (V.alloc (.cells #[.string p, .string q] 9)).drew y) : y.cell? ⟨V.heap.size, 0, none⟩ = some (.string p) ∧ y.cell? ⟨V.heap.size, 1, none⟩ = some (.string q) := by
  have hm := World.cell?_alloc_mark V #[.string p, .string q] 9 (0, 0)
  have hz : V.heap.size < (V.alloc (.cells #[.string p, .string q] 9)).drew.heap.size := by show V.heap.size < (V.alloc _).heap.size; rw [World.size_alloc]; omega
  exact ⟨(h.cell (p := ⟨V.heap.size, 0, none⟩) hz).trans ((hm 0).trans rfl), (h.cell (p := ⟨V.heap.size, 1, none⟩) hz).trans ((hm 1).trans rfl)⟩
end Go.Proofs.YtgohllfpceeboaaGreatDoor
