import Derived.Test.YtgohllfpceeboabGreatDoorSbaa
namespace Go.Proofs.YtgohllfpceeboabGreatDoor
open Go.RowKit

theorem byte_at (s : ByteArray) (i : Nat) (_h : i < s.size) (h' : i < s.data.toList.length) : s.data.toList[i] = s[i] := by
  simp; rfl

theorem own_later {w w1 : World} {B n sz : Nat} {e : TypeId} {v : Value} {xs : List Value} (h : w.ownsRow B e sz v n xs) (hb : Below w.heap.size w w1) : w1.ownsRow B e sz v n xs := by
  obtain ⟨h1, h2⟩ := h
  refine ⟨h1, ?_⟩
  rcases h2 with h2 | ⟨g, cap, cur, hv, hg, hh, r⟩
  · exact .inl h2
  · refine .inr ⟨g, cap, cur, hv, hg, ?_, r⟩
    rw [hb.block g ?_]; exact hh
    rcases Nat.lt_or_ge g w.heap.size with hlt | hge
    · exact hlt
    · rw [Array.getElem?_eq_none hge] at hh; cases hh

end Go.Proofs.YtgohllfpceeboabGreatDoor

