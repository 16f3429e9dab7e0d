import Derived.Test.YtgohllfpceeboaaGreatDoorSbbg
import Derived.Test.YtgohllfpceeboaaGreatDoorSbbe
import Derived.Test.YtgohllfpceeboaaGreatDoorKfa
import Derived.Test.YtgohllfpceeboaaGreatDoorRKga
import Derived.Test.YtgohllfpceeboaaGreatDoorRKgb
import Derived.Test.YtgohllfpceeboaaGreatDoorRKgc
import Derived.Test.YtgohllfpceeboaaGreatDoorRKgd
import Derived.Test.YtgohllfpceeboaaGreatDoorRKge
import Derived.Test.YtgohllfpceeboaaGreatDoorRKgf
import Derived.Test.YtgohllfpceeboaaGreatDoorRKgg
import Derived.Test.YtgohllfpceeboaaGreatDoorRKgh
import Derived.Test.YtgohllfpceeboaaGreatDoorRKgi
import Derived.Test.YtgohllfpceeboaaGreatDoorRKgj
import Derived.Test.YtgohllfpceeboaaGreatDoorRKgk0
import Derived.Deep.RegionHeldLaw
namespace Go.Proofs.YtgohllfpceeboaaGreatDoor
open Go.RowKit
set_option maxRecDepth 100000 in
set_option maxHeartbeats 4000000 in
/-- suffixkeep.count -/
theorem kcount (g : Nat) (rs : List Sx.Rl) (os : List Org) (w : World) (hr : RdW w g rs os) (hl : os.length ≤ 20) (hok : ∀ o ∈ os, OrgOk o) (hrt : Sx.RlsRt rs) : Calls Tryz.prog 42 #[.pointer (some ⟨g, 0, none⟩)] w fun e w' => e = .returned (.int .i64 os.length) ∧ Below w.heap.size w w' := by
  have HY := hide (fun n (hn : n < os.length) W (h : Below w.heap.size w W) => pSiteY g n rs os W (hr.below h) hn hok hrt)
  have HN := hide (fun n hn W (h : Below w.heap.size w W) => pSiteN g n rs os W (hr.below h) hn)
  clear hr hok hrt
  go_enter Tryz.func42, Tryz.ntmps42
  go_wp2_with fail
  go_loopw [3] (fun nv wr => ∃ n : Nat, nv = .int .i64 n ∧ n ≤ os.length ∧ Below w.heap.size w wr) (fun nv _ => (os.length - intOf nv).toNat)
  case atStart => exact ⟨0, rfl, by omega, Below.refl _ _⟩
  case round =>
    obtain ⟨n, rfl, hn, hB⟩ := hrel
    have HB := hide hB
    clear hB
    by_cases hlt : n < os.length
    · have h21 : ((n : Int) < 21) = True := by simp; omega
      have HY2 := hide (HY.out n hlt)
      obtain ⟨T, hT⟩ : ∃ X : ByteArray, ⟨(siteP rs os[n]).toArray⟩ = X := ⟨_, rfl⟩
      rw [hT] at HY2
      clear hT HY HN
      go_wp2_with fail
      refine (HY2.out _ HB.out).mono ?_
      rintro e y1 ⟨rfl, hB1⟩
      have HB1 := hide (below_to HB.out hB1)
      clear hB1
      go_wp2
      exact ⟨⟨n + 1, by go_num, by omega, HB1.out⟩, by simp [intOf]; omega⟩
    · have HNE := hide (show n = os.length by omega)
      have h21 : ((n : Int) < 21) = True := by simp; omega
      have HN2 := hide (HN.out n (by omega))
      clear HY HN
      go_wp2_with fail
      refine (HN2.out _ HB.out).mono ?_
      rintro e y1 ⟨rfl, rfl⟩
      go_wp2
      go_ret
      exact ⟨by rw [HNE.out]; rfl, HB.out⟩
set_option maxRecDepth 100000 in
set_option maxHeartbeats 2000000 in
/-- New, with the world that it makes. -/
theorem pnewW (l : List UInt8) (w : World) (hw : LWt w) (h0 : (opn l).2 = 0) : Calls Tryz.prog 39 #[.string ⟨l.toArray⟩] w fun e w' => ∃ g, e = .returned (.tuple #[.pointer (some ⟨g, 0, none⟩), .int .i64 0]) ∧ w.heap.size ≤ g ∧ WlAt w' g (opn l).1 [] ∧ Below w.heap.size w w' := by
  have HRI := hide (prdimg l w hw)
  obtain ⟨D, hD⟩ : ∃ D : ByteArray, ⟨l.toArray⟩ = D := ⟨_, rfl⟩
  rw [hD] at HRI ⊢
  rw [h0] at HRI
  obtain ⟨rs, hrs⟩ : ∃ q, (opn l).1 = q := ⟨_, rfl⟩
  rw [hrs] at HRI ⊢
  clear hrs hD h0
  go_enter Tryz.func39, Tryz.ntmps39
  go_wp2_with fail
  refine HRI.out.mono ?_
  rintro e w1 ⟨hB, v, rfl, hv⟩
  have HB := hide hB
  have HV := hide hv
  obtain ⟨p, cap, rfl, -⟩ := hv
  have hbz := hB.size
  clear hB
  have HFI : Hid (WlAt (w1.alloc (.cells #[.slice p rs.length cap, .slice none 0 0] 102)) w1.heap.size rs []) := hide ⟨w1, _, _, rfl, HV.out, (Below.refl _ w1).alloc (Nat.le_refl _) _, heap_alloc_new _ _, World.ownsRow_nil _ _ _ _⟩
  go_wp2
  go_ret2
  exact ⟨_, rfl, hbz, HFI.out, HB.out.alloc hbz _⟩
set_option maxRecDepth 100000 in
set_option maxHeartbeats 4000000 in
/-- suffixkeep.world -/
theorem kworld (l : List Sx.RawR) (v : Value) (w : World) (hw : LWt w) (hv : RdR w v l) (hl : l.length ≤ 9223372036854775807) : Calls Tryz.prog 40 #[v] w fun e w' => ∃ g rs, e = .returned (.pointer (some ⟨g, 0, none⟩)) ∧ w.heap.size ≤ g ∧ WlAt w' g rs [] ∧ Sx.RlsRt rs ∧ Below w.heap.size w w' := by
  have HAW := hide (kawake w hw)
  have hXs : 0 < (⟨exX.toArray⟩ : ByteArray).size := exX_len
  obtain ⟨X, hX⟩ : ∃ X : ByteArray, ⟨exX.toArray⟩ = X := ⟨_, rfl⟩
  rw [hX] at HAW hXs
  have hXe := ne_text hXs
  clear hX hXs
  have HLW : Hid (∀ W, Below w.heap.size w W → LWt W) := hide (fun W h => lwt_stays _ _ hw h)
  have HKE : Hid (∀ W, Below w.heap.size w W → Calls Tryz.prog 24 #[v] W fun e w' => ∃ mv, e = .returned mv ∧ RdR w' mv (Sx.kepF l) ∧ Below W.heap.size W w') := hide (fun W h => by
    have hv' := hv.below h
    refine (kkept l v W (lwt_stays _ _ hw h) hv' hl).mono ?_
    rintro e w' ⟨mv, rfl, h1, h2⟩
    obtain ⟨-, -, -, ho, -⟩ := hv
    exact ⟨mv, rfl, rdR_own h1 (fun x hx => ho x (kep_of _ x hx)), h2⟩)
  have HLI : Hid (∀ mv W, RdR W mv (Sx.kepF l) → Calls Tryz.prog 25 #[mv] W fun e w' => e = .returned (.string ⟨(Sx.listT (Sx.kepF l)).toArray⟩) ∧ Below W.heap.size W w') := hide (fun mv W h => klist _ _ _ h (Sx.kepF_ok l).2)
  have HCO := hide (fun W h => pcomp1 (Sx.listT (Sx.kepF l)) W h)
  obtain ⟨j1, j2, j3, j4⟩ := junk_img l
  rw [j1] at HCO
  obtain ⟨im, him⟩ : ∃ im, (Sx.compR [Sx.listT (Sx.kepF l)]).1 = im := ⟨_, rfl⟩
  obtain ⟨at0, hat⟩ : ∃ im, (Sx.compR [Sx.listT (Sx.kepF l)]).2.2 = im := ⟨_, rfl⟩
  rw [him] at HCO j2
  rw [hat] at HCO
  have HNW := hide (fun W h => pnewW im W h j2)
  have hrt := opn_rt im
  have HRT := hide hrt
  obtain ⟨L, hL⟩ : ∃ X : ByteArray, ⟨(Sx.listT (Sx.kepF l)).toArray⟩ = X := ⟨_, rfl⟩
  obtain ⟨I, hI⟩ : ∃ X : ByteArray, ⟨im.toArray⟩ = X := ⟨_, rfl⟩
  rw [hL] at HLI HCO
  rw [hI] at HCO HNW
  clear hL hI him hat j1 j2 j3 j4 hrt
  go_enter Tryz.func40, Tryz.ntmps40
  go_wp2_with fail
  refine HAW.out.mono ?_
  rintro e w1 ⟨rfl, hB⟩
  have HB1 := hide hB
  clear hB HAW
  go_wp2_with fail
  refine (HKE.out _ HB1.out).mono ?_
  rintro e w2 ⟨mv, rfl, hrd, hB⟩
  have HB2 := hide (below_to HB1.out hB)
  have HRD := hide hrd
  clear hB hrd
  go_wp2_with fail
  refine (HLI.out _ _ HRD.out).mono ?_
  rintro e w3 ⟨rfl, hB⟩
  have HB3 := hide (below_to HB2.out hB)
  clear hB
  go_wp2_with fail
  refine (HCO.out _ (HLW.out _ HB3.out)).mono ?_
  rintro e w4 ⟨rfl, hB⟩
  have HB4 := hide (below_to (HB3.out.alloc HB3.out.size _) hB)
  clear hB
  go_wp2_with fail
  refine (HNW.out _ (HLW.out _ HB4.out)).mono ?_
  rintro e w5 ⟨g, rfl, h1, h2, h3⟩
  have HF : Hid (w.heap.size ≤ g ∧ WlAt w5 g (opn im).1 [] ∧ Sx.RlsRt (opn im).1 ∧ Below w.heap.size w w5) := hide ⟨Nat.le_trans HB4.out.size h1, h2, HRT.out, below_to HB4.out h3⟩
  clear h1 h2 h3
  go_wp2
  go_ret
  exact ⟨_, _, rfl, HF.out⟩
end Go.Proofs.YtgohllfpceeboaaGreatDoor
