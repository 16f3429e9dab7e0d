import Derived.Test.YtgohllfpceeboabGreatDoorSbbg
import Derived.Test.YtgohllfpceeboabGreatDoorSbbe
import Derived.Test.YtgohllfpceeboabGreatDoorKfa
import Derived.Test.YtgohllfpceeboabGreatDoorRKga
import Derived.Test.YtgohllfpceeboabGreatDoorRKgb
import Derived.Test.YtgohllfpceeboabGreatDoorRKgg
import Derived.Test.YtgohllfpceeboabGreatDoorRKgh
import Derived.Deep.RegionHeldLaw
namespace Go.Proofs.YtgohllfpceeboabGreatDoor
open Go.RowKit
set_option maxRecDepth 100000 in
set_option maxHeartbeats 2000000 in
/-- New, with the world that it makes. -/
theorem pnewW (l : List UInt8) (w : World) (hw : LWt w) (h0 : (opn l).2 = 0) : Calls Tryz.prog 21 #[.string ⟨l.toArray⟩] w fun e w' => ∃ g, e = .returned (.tuple #[.pointer (some ⟨g, 0, none⟩), .int .i64 0]) ∧ w.heap.size ≤ g ∧ WlAt w' g (opn l).1 [] ∧ Below w.heap.size w w' := by
  have HRI := hide (prdimg l w hw)
  obtain ⟨D, hD⟩ : ∃ D : ByteArray, ⟨l.toArray⟩ = D := ⟨_, rfl⟩
  rw [hD] at HRI ⊢
  rw [h0] at HRI
  obtain ⟨rs, hrs⟩ : ∃ q, (opn l).1 = q := ⟨_, rfl⟩
  rw [hrs] at HRI ⊢
  clear hrs hD h0
  go_enter Tryz.func21, Tryz.ntmps21
  go_wp2_with fail
  refine HRI.out.mono ?_
  rintro e w1 ⟨hB, v, rfl, hv⟩
  have HB := hide hB
  have HV := hide hv
  obtain ⟨p, cap, rfl, -⟩ := hv
  have hbz := hB.size
  clear hB
  have HFI : Hid (WlAt (w1.alloc (.cells #[.slice p rs.length cap, .slice none 0 0] 87)) w1.heap.size rs []) := hide ⟨w1, _, _, rfl, HV.out, (Below.refl _ w1).alloc (Nat.le_refl _) _, heap_alloc_new _ _, World.ownsRow_nil _ _ _ _⟩
  go_wp2
  go_ret2
  exact ⟨_, rfl, hbz, HFI.out, HB.out.alloc hbz _⟩
set_option maxRecDepth 100000 in
set_option maxHeartbeats 4000000 in
/-- suffixkeep.world -/
theorem kworld (l : List Sx.RawR) (v : Value) (w : World) (hw : LWt w) (hv : RdR w v l) (hl : l.length ≤ 9223372036854775807) : Calls Tryz.prog 5 #[v] w fun e w' => ∃ g, e = .returned (.pointer (some ⟨g, 0, none⟩)) ∧ w.heap.size ≤ g ∧ WlAt w' g (opn (Sx.compR [Sx.listT (Sx.kepF l)]).1).1 [] ∧ Below w.heap.size w w' := by
  have HAW := hide (kawake w hw)
  have hXs : 0 < (⟨exX.toArray⟩ : ByteArray).size := exX_len
  obtain ⟨X, hX⟩ : ∃ X : ByteArray, ⟨exX.toArray⟩ = X := ⟨_, rfl⟩
  rw [hX] at HAW hXs
  have hXe := ne_text hXs
  clear hX hXs
  have HLW : Hid (∀ W, Below w.heap.size w W → LWt W) := hide (fun W h => lwt_stays _ _ hw h)
  have HKE : Hid (∀ W, Below w.heap.size w W → Calls Tryz.prog 8 #[v] W fun e w' => ∃ mv, e = .returned mv ∧ RdR w' mv (Sx.kepF l) ∧ Below W.heap.size W w') := hide (fun W h => by
    have hv' := hv.below h
    refine (kkept l v W (lwt_stays _ _ hw h) hv' hl).mono ?_
    rintro e w' ⟨mv, rfl, h1, h2⟩
    obtain ⟨-, -, -, ho, -⟩ := hv
    exact ⟨mv, rfl, rdR_own h1 (fun x hx => ho x (kep_of _ x hx)), h2⟩)
  have HLI : Hid (∀ mv W, RdR W mv (Sx.kepF l) → Calls Tryz.prog 7 #[mv] W fun e w' => e = .returned (.string ⟨(Sx.listT (Sx.kepF l)).toArray⟩) ∧ Below W.heap.size W w') := hide (fun mv W h => klist _ _ _ h (Sx.kepF_ok l).2)
  have HCO := hide (fun W h => pcomp1 (Sx.listT (Sx.kepF l)) W h)
  obtain ⟨j1, j2, j3, j4⟩ := junk_img l
  rw [j1] at HCO
  obtain ⟨im, him⟩ : ∃ im, (Sx.compR [Sx.listT (Sx.kepF l)]).1 = im := ⟨_, rfl⟩
  obtain ⟨at0, hat⟩ : ∃ im, (Sx.compR [Sx.listT (Sx.kepF l)]).2.2 = im := ⟨_, rfl⟩
  rw [him] at HCO j2 ⊢
  rw [hat] at HCO
  have HNW := hide (fun W h => pnewW im W h j2)
  obtain ⟨L, hL⟩ : ∃ X : ByteArray, ⟨(Sx.listT (Sx.kepF l)).toArray⟩ = X := ⟨_, rfl⟩
  obtain ⟨I, hI⟩ : ∃ X : ByteArray, ⟨im.toArray⟩ = X := ⟨_, rfl⟩
  rw [hL] at HLI HCO
  rw [hI] at HCO HNW
  clear hL hI him hat j1 j2 j3 j4
  go_enter Tryz.func5, Tryz.ntmps5
  go_wp2_with fail
  refine HAW.out.mono ?_
  rintro e w1 ⟨rfl, hB⟩
  have HB1 := hide hB
  clear hB HAW
  go_wp2_with fail
  refine (HKE.out _ HB1.out).mono ?_
  rintro e w2 ⟨mv, rfl, hrd, hB⟩
  have HB2 := hide (below_to HB1.out hB)
  have HRD := hide hrd
  clear hB hrd
  go_wp2_with fail
  refine (HLI.out _ _ HRD.out).mono ?_
  rintro e w3 ⟨rfl, hB⟩
  have HB3 := hide (below_to HB2.out hB)
  clear hB
  go_wp2_with fail
  refine (HCO.out _ (HLW.out _ HB3.out)).mono ?_
  rintro e w4 ⟨rfl, hB⟩
  have HB4 := hide (below_to (HB3.out.alloc HB3.out.size _) hB)
  clear hB
  go_wp2_with fail
  refine (HNW.out _ (HLW.out _ HB4.out)).mono ?_
  rintro e w5 ⟨g, rfl, h1, h2, h3⟩
  have HF : Hid (w.heap.size ≤ g ∧ WlAt w5 g (opn im).1 [] ∧ Below w.heap.size w w5) := hide ⟨Nat.le_trans HB4.out.size h1, h2, below_to HB4.out h3⟩
  clear h1 h2 h3
  go_wp2
  go_ret
  exact ⟨_, rfl, HF.out⟩
end Go.Proofs.YtgohllfpceeboabGreatDoor
