import Derived.Test.YtgohllfpceeboaaGreatDoorSbbg
import Derived.Test.YtgohllfpceeboaaGreatDoorSbbe
import Derived.Test.YtgohllfpceeboaaGreatDoorSbaz
namespace Go.Proofs.YtgohllfpceeboaaGreatDoor
open Go.RowKit
/-- The note: what stands ahead of each rule. -/
def noteT (r : List UInt8) : List UInt8 := [47, 47] ++ (r.take 20).filter fun b => decide (b ≠ 10)
theorem noteT_ok (r : List UInt8) : (10 : UInt8) ∉ noteT r ∧ (noteT r).take 2 = [47, 47] ∧ (noteT r).length ≤ 22 := by
  refine ⟨?_, rfl, ?_⟩
  · unfold noteT
    intro h
    rcases List.mem_append.1 h with h | h
    · simp at h
    · have := (List.mem_filter.1 h).2
      simp at this
  · unfold noteT
    have h1 := List.length_filter_le (fun b : UInt8 => decide (b ≠ 10)) (r.take 20)
    have h2 := List.length_take_le 20 r
    rw [List.length_append]
    simp only [List.length_cons, List.length_nil]
    omega
theorem turnT_take (note : List UInt8) (m : List Sx.RawR) (k : Nat) (h : k < m.length) : Sx.turnT note (m.take (k + 1)) = Sx.turnT note (m.take k) ++ (note ++ 10 :: 10 :: (Sx.secT m[k] ++ 10 :: (Sx.upB (Sx.lineT m[k]) ++ [10]))) := by
  unfold Sx.turnT
  rw [List.take_succ_eq_append_getElem h, List.flatMap_append, List.flatMap_cons, List.flatMap_nil, List.append_nil]
theorem ownT_take (m : List Sx.RawR) (k : Nat) (h : k < m.length) : Sx.ownT (m.take (k + 1)) = Sx.ownT (m.take k) ++ [Sx.secT m[k] ++ 10 :: Sx.lineT m[k]] := by
  unfold Sx.ownT
  rw [List.take_succ_eq_append_getElem h, List.map_append]
  rfl
theorem upB_len (l : List UInt8) : (Sx.upB l).length = l.length := by unfold Sx.upB; rw [List.length_map]
theorem rds_own {W : World} {B : Nat} {v : Value} {L : List (List UInt8)} (h : W.ownsRow B 9 1 v L.length (stV L)) : RdS W v L := by
  obtain ⟨p, cap, hv⟩ := own_shapeK h
  refine ⟨p, cap, hv, fun j hj => ?_⟩
  rcases h.2 with ⟨e1, e2⟩ | ⟨g, cap', cur, e1, e2, e3, e4⟩
  · omega
  · have hp : p = some ⟨g, 0, none⟩ := by rw [hv] at e1; injection e1
    have hg := h.lt g (by rw [e1]; rfl)
    refine ⟨g, 0, hp, hg.2, ?_⟩
    rw [Nat.zero_add]
    have hadd : ∀ n, (⟨g, 0, none⟩ : Addr).add n = ⟨g, n, none⟩ := fun n => by unfold Addr.add; split <;> simp_all
    rw [← hadd]
    exact h.cells (g := g) (by rw [e1]; rfl) _ _ (by unfold stV; rw [List.getElem?_map, List.getElem?_eq_getElem hj]; rfl)
end Go.Proofs.YtgohllfpceeboaaGreatDoor
