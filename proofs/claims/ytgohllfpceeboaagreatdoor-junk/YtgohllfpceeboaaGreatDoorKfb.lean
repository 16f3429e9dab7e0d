import Derived.Test.YtgohllfpceeboaaGreatDoorSbbg
import Derived.Test.YtgohllfpceeboaaGreatDoorSbba
import Derived.Test.YtgohllfpceeboaaGreatDoorKfa
import Derived.Deep.RegionHeldLaw
namespace Go.Proofs.YtgohllfpceeboaaGreatDoor
open Go.RowKit
/-- What New leaves: nothing, or a world without origins. -/
def NewPost (w : World) (rs : List Sx.Rl) (er : Int) (e : Ending) (w' : World) : Prop := Below w.heap.size w w' ∧
    ((er ≠ 0 ∧ e = .returned (.tuple #[.pointer none, .int .i64 er])) ∨
     (er = 0 ∧ ∃ g rv, e = .returned (.tuple #[.pointer (some ⟨g, 0, none⟩), .int .i64 0]) ∧ w.heap.size ≤ g ∧ w'.heap[g]? = some (.cells #[rv, .slice none 0 0] 102) ∧ PrAt w' rv rs))
set_option maxRecDepth 100000 in
set_option maxHeartbeats 2000000 in
/-- suffix.New -/
theorem pnew (l : List UInt8) (w : World) (hw : LWt w) : Calls Tryz.prog 39 #[.string ⟨l.toArray⟩] w fun e w' => NewPost w (opn l).1 (opn l).2 e w' := by
  have HRI := hide (prdimg l w hw)
  obtain ⟨D, hD⟩ : ∃ D : ByteArray, ⟨l.toArray⟩ = D := ⟨_, rfl⟩
  rw [hD] at HRI ⊢
  obtain ⟨⟨rs, e⟩, ho⟩ : ∃ q, opn l = q := ⟨_, rfl⟩
  rw [ho] at HRI ⊢
  dsimp only at HRI ⊢
  clear ho hD
  by_cases he : e = 0
  · subst he
    go_enter Tryz.func39, Tryz.ntmps39
    go_wp2_with fail
    refine HRI.out.mono ?_
    rintro e w1 ⟨hB, v, rfl, hv⟩
    have HB := hide hB
    have HV := hide hv
    obtain ⟨p, cap, rfl, -⟩ := hv
    have hbz := hB.size
    clear hB
    go_wp2
    go_ret2
    refine ⟨HB.out.alloc hbz _, .inr ⟨rfl, _, _, rfl, hbz, heap_alloc_new _ _, HV.out.below ((Below.refl _ w1).alloc (Nat.le_refl _) _)⟩⟩
  · have k1 : (e != 0) = true := by simpa using he
    have k2 : (e == 0) = false := by simpa using he
    go_enter Tryz.func39, Tryz.ntmps39
    go_wp2_with fail
    refine HRI.out.mono ?_
    rintro e' w1 ⟨hB, v, rfl, hv⟩
    have HB := hide hB
    obtain ⟨p, cap, rfl, -⟩ := hv
    clear hB
    go_wp2
    go_ret2
    exact ⟨HB.out, .inl ⟨he, rfl⟩⟩
end Go.Proofs.YtgohllfpceeboaaGreatDoor
