import Derived.Test.YtgohllfpceeboaaGreatDoorSbaa
import Derived.Test.YtgohllfpceeboaaGreatDoorSbba
import Derived.Test.YtgohllfpceeboaaGreatDoorSbay
import Derived.Test.YtgohllfpceeboaaGreatDoorSbaz
import Derived.Test.YtgohllfpceeboaaGreatDoorSbbg
import Derived.Test.YtgohllfpceeboaaGreatDoorSbar
import Derived.Test.YtgohllfpceeboaaGreatDoorSbbb
namespace Go.Proofs.YtgohllfpceeboaaGreatDoor
open Sx
/-- Rules in another order: from some place on, then those ahead of it. -/
def rotR (m : List RawR) (f : Nat) : List RawR := m.drop (f % m.length) ++ m.take (f % m.length)
theorem rotR_len (m : List RawR) (f : Nat) : (rotR m f).length = m.length := by
  unfold rotR
  rw [List.length_append, List.length_drop, List.length_take]
  omega
theorem rotR_perm (m : List RawR) (f : Nat) : (rotR m f).Perm m := by
  unfold rotR
  refine List.perm_append_comm.trans ?_
  rw [List.take_append_drop]
theorem rotR_at (m : List RawR) (f k : Nat) (h : k < m.length) : (rotR m f)[k]'(by rw [rotR_len]; exact h) = m[(k + f) % m.length]'(Nat.mod_lt _ (by omega)) := by
  obtain ⟨n, hn⟩ : ∃ n, m.length = n := ⟨_, rfl⟩
  obtain ⟨g, hg⟩ : ∃ g, f % m.length = g := ⟨_, rfl⟩
  have hgn : g < m.length := by rw [← hg]; exact Nat.mod_lt _ (by omega)
  have e : (k + f) % m.length = if k + g < m.length then k + g else k + g - m.length := by
    rw [Nat.add_mod, hg, Nat.mod_eq_of_lt h]
    split
    · rename_i hl; exact Nat.mod_eq_of_lt hl
    · rename_i hl
      rw [Nat.mod_eq_sub_mod (by omega)]
      exact Nat.mod_eq_of_lt (by omega)
  apply Option.some.inj
  rw [← List.getElem?_eq_getElem, ← List.getElem?_eq_getElem, e]
  unfold rotR
  rw [hg]
  split
  · rename_i hl
    rw [List.getElem?_append_left (by rw [List.length_drop]; omega), List.getElem?_drop]
    congr 1
    omega
  · rename_i hl
    rw [List.getElem?_append_right (by rw [List.length_drop]; omega), List.length_drop, List.getElem?_take_of_lt (by omega)]
    congr 1
    omega
/-- TURNED, of the pure answers. -/
theorem turned_pure (l : List RawR) (f : Nat) {note : List UInt8} (h10 : (10 : UInt8) ∉ note) (h47 : note.take 2 = [47, 47]) (hn : note.length ≤ 22) :
    (compR [listT (kepF l)]).2.1 = 0 ∧ compR [turnT note (rotR (kepF l) f)] = compR [listT (kepF l)] ∧ compR (ownT (rotR (kepF l) f)) = compR [listT (kepF l)] := by
  obtain ⟨k1, k2⟩ := kepF_ok l
  have hp := (rotR_perm (kepF l) f).map rawRl
  have k3 := k1.perm hp
  have k4 : (rotR (kepF l) f).length ≤ 10 := by rw [rotR_len]; exact k2
  rw [comp_turn h10 h47 hn k3 k4, comp_own k3 k4, comp_list k1 k2, tabOf_perm k1 hp]
  exact ⟨rfl, rfl, rfl⟩
end Go.Proofs.YtgohllfpceeboaaGreatDoor

