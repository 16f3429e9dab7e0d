import Derived.Test.YtgohllfpceeboaaGreatDoorSbay
import Derived.Test.YtgohllfpceeboaaGreatDoorSbbb
import Derived.Test.YtgohllfpceeboaaGreatDoorSbaa
import Derived.Test.YtgohllfpceeboaaGreatDoorSbaq
import Derived.Test.YtgohllfpceeboaaGreatDoorSbar
import Derived.Test.YtgohllfpceeboaaGreatDoorSbbe
import Derived.Test.YtgohllfpceeboaaGreatDoorSbaz
import Derived.Test.YtgohllfpceeboaaGreatDoorSbbf
import Derived.Test.YtgohllfpceeboaaGreatDoorProg
import Derived.Test.YtgohllfpceeboaaGreatDoorSbab
import Derived.Test.YtgohllfpceeboaaGreatDoorSbba
namespace Go.Proofs.YtgohllfpceeboaaGreatDoor
open Go.RowKit
theorem below_len (l : List Sx.RawR) {ix : List Nat} (hi : Sx.IxOk ix) (h4 : ix.length ≤ 4) {p d t : List UInt8} {e : Int} (hlk : lkR (Sx.compR [Sx.listT (Sx.kepF l)]).1 (Sx.dotted (ix.map Sx.nm)) = (p, d, t, e)) : d.length ≤ 1000 := by
  obtain ⟨k1, k2⟩ := Sx.kepF_ok l
  have hhost := Sx.host_ix hi
  have hs : (Sx.host (Sx.dotted (ix.map Sx.nm))).2 = 0 := by rw [hhost]
  obtain ⟨l1, -, -⟩ := look_is k1 hs
  rw [Sx.comp_list k1 k2] at hlk
  rw [hhost] at l1
  dsimp only at l1 hlk
  rw [l1] at hlk
  have hd := congrArg (fun q : List UInt8 × List UInt8 × List UInt8 × Int => q.2.1) hlk
  dsimp only at hd
  rw [← hd]
  split
  · generalize (ix.map Sx.nmP).length - _ = n
    have h1 := Sx.dots_le 11 ((ix.map Sx.nmP).drop n) (fun x hx => by
        obtain ⟨i, hi', rfl⟩ := List.mem_map.1 (List.mem_of_mem_drop hx)
        exact (Sx.nm_is i (hi.lt i hi')).2.2.2.2.2.1)
    rw [List.length_drop, List.length_map] at h1
    omega
  · simp
set_option maxRecDepth 100000 in
set_option maxHeartbeats 2000000 in
/-- suffixkeep.wilder -/
theorem kwilder (i h d : ByteArray) (p d' t' : List UInt8) (w : World) (hw : LWt w) (hq : lkR i.data.toList h.data.toList = (p, d', t', 0)) (hd : d.size ≤ p.length) : Calls Tryz.prog 38 #[.string i, .string h, .string d] w fun e w' => e = .returned (.bool true) ∧ Below w.heap.size w w' := by
  have HLK := hide (plook i h w hw)
  rw [hq] at HLK
  dsimp only at HLK
  have hs : (⟨p.toArray⟩ : ByteArray).size = p.length := rfl
  obtain ⟨P, hP⟩ : ∃ P : ByteArray, ⟨p.toArray⟩ = P := ⟨_, rfl⟩
  rw [hP] at HLK hs
  rw [← hs] at hd
  clear hq hP hs
  go_enter Tryz.func38, Tryz.ntmps38
  go_wp2_with fail
  refine HLK.out.mono ?_
  rintro e w1 ⟨rfl, hB⟩
  have HB := hide hB
  clear hB HLK
  go_wp2
  go_ret
  exact ⟨rfl, HB.out⟩
set_option maxRecDepth 100000 in
set_option maxHeartbeats 4000000 in
/-- suffixkeep.Below -/
theorem kbelow (l : List Sx.RawR) (v : Value) (a b c : Int) (w : World) (hw : LWt w) (hv : RdR w v l) (hl : l.length ≤ 9223372036854775807) (ha : I64 a) (hb : I64 b) (hc : I64 c) : Calls Tryz.prog 11 #[v, .int .i64 a, .int .i64 b, .int .i64 c] w fun e w' => e = .returned (.bool true) ∧ Below w.heap.size w w' := by
  have HAW := hide (kawake w hw)
  have hXs : 0 < (⟨exX.toArray⟩ : ByteArray).size := exX_len
  obtain ⟨X, hX⟩ : ∃ X : ByteArray, ⟨exX.toArray⟩ = X := ⟨_, rfl⟩
  rw [hX] at HAW hXs
  have hXe := ne_text hXs
  clear hX hXs
  have HLW : Hid (∀ W, Below w.heap.size w W → LWt W) := hide (fun W h => lwt_stays _ _ hw h)
  have HKE : Hid (∀ W, Below w.heap.size w W → Calls Tryz.prog 24 #[v] W fun e w' => ∃ mv, e = .returned mv ∧ RdR w' mv (Sx.kepF l) ∧ Below W.heap.size W w') := hide (fun W h => by
    have hv' := hv.below h
    refine (kkept l v W (lwt_stays _ _ hw h) hv' hl).mono ?_
    rintro e w' ⟨mv, rfl, h1, h2⟩
    obtain ⟨-, -, -, ho, -⟩ := hv
    exact ⟨mv, rfl, rdR_own h1 (fun x hx => ho x (kep_of _ x hx)), h2⟩)
  have HLI : Hid (∀ mv W, RdR W mv (Sx.kepF l) → Calls Tryz.prog 25 #[mv] W fun e w' => e = .returned (.string ⟨(Sx.listT (Sx.kepF l)).toArray⟩) ∧ Below W.heap.size W w') := hide (fun mv W h => klist _ _ _ h (Sx.kepF_ok l).2)
  have HCO := hide (fun W h => pcomp1 (Sx.listT (Sx.kepF l)) W h)
  have HHO := hide (fun W => khostOf a b c W ha hb hc)
  have hce : (Sx.compR [Sx.listT (Sx.kepF l)]).2.1 = 0 := by
    obtain ⟨k1, k2⟩ := Sx.kepF_ok l
    rw [Sx.comp_list k1 k2]
  obtain ⟨hix, hi3⟩ := Sx.hostIx_ok a b c
  obtain ⟨⟨p, d, t, f⟩, hlk⟩ : ∃ q, lkR (Sx.compR [Sx.listT (Sx.kepF l)]).1 (Sx.dotted ((Sx.hostIx a b c).map Sx.nm)) = q := ⟨_, rfl⟩
  obtain ⟨rfl, hp0, ht0, hd0, hd1⟩ := below_pure l hix (by omega) p d t f hlk
  have hdl := below_len l hix (by omega) hlk
  rw [hce] at HCO
  obtain ⟨im, him⟩ : ∃ im, (Sx.compR [Sx.listT (Sx.kepF l)]).1 = im := ⟨_, rfl⟩
  obtain ⟨at0, hat⟩ : ∃ im, (Sx.compR [Sx.listT (Sx.kepF l)]).2.2 = im := ⟨_, rfl⟩
  rw [him] at HCO hlk hd1
  rw [hat] at HCO
  obtain ⟨s, hs⟩ : ∃ s, Sx.dotted ((Sx.hostIx a b c).map Sx.nm) = s := ⟨_, rfl⟩
  rw [hs] at HHO hlk hd0
  have HLK : Hid (∀ W, LWt W → Calls Tryz.prog 37 #[.string ⟨im.toArray⟩, .string ⟨s.toArray⟩] W fun e w' => e = .returned (.tuple #[.string ⟨p.toArray⟩, .string ⟨d.toArray⟩, .string ⟨t.toArray⟩, .int .i64 0]) ∧ Below W.heap.size W w') := hide (fun W h => by
    have := plook ⟨im.toArray⟩ ⟨s.toArray⟩ W h
    rw [show lkR (⟨im.toArray⟩ : ByteArray).data.toList (⟨s.toArray⟩ : ByteArray).data.toList = (p, d, t, 0) from hlk] at this
    exact this)
  have HPL := hide (fun W h => plainsaid_any ⟨s.toArray⟩ W h)
  have hP0 : 0 < (⟨p.toArray⟩ : ByteArray).size := List.length_pos_iff.2 hp0
  have hT0 : 0 < (⟨t.toArray⟩ : ByteArray).size := List.length_pos_iff.2 ht0
  obtain ⟨L, hL⟩ : ∃ X : ByteArray, ⟨(Sx.listT (Sx.kepF l)).toArray⟩ = X := ⟨_, rfl⟩
  obtain ⟨I, hI⟩ : ∃ X : ByteArray, ⟨im.toArray⟩ = X := ⟨_, rfl⟩
  obtain ⟨S, hS⟩ : ∃ X : ByteArray, ⟨s.toArray⟩ = X := ⟨_, rfl⟩
  obtain ⟨P, hP⟩ : ∃ X : ByteArray, ⟨p.toArray⟩ = X := ⟨_, rfl⟩
  obtain ⟨D, hD⟩ : ∃ X : ByteArray, ⟨d.toArray⟩ = X := ⟨_, rfl⟩
  obtain ⟨T, hT⟩ : ∃ X : ByteArray, ⟨t.toArray⟩ = X := ⟨_, rfl⟩
  rw [hP] at hP0
  rw [hT] at hT0
  have hPe := ne_text hP0
  have hTe := ne_text hT0
  rw [hL] at HLI HCO
  rw [hI] at HCO HLK
  rw [hS] at HHO HLK HPL
  rw [hP, hD, hT] at HLK
  have hSl : S.data.toList = s := by rw [← hS]
  have hIl : I.data.toList = im := by rw [← hI]
  have hDl : D.data.toList = d := by rw [← hD]
  have hPl : P.data.toList = p := by rw [← hP]
  have hTl : T.data.toList = t := by rw [← hT]
  clear hce him hat hs hlk hL hI hS hP hD hT hp0 ht0 hP0 hT0 hix hi3
  by_cases hd : d = []
  · have hDe := no_text (X := D) (by rw [hDl, hd])
    have hpp := hd0 hd
    have HPP : Hid (∀ W, LWt W → Calls Tryz.prog 18 #[.string S] W fun e w' => Below W.heap.size W w' ∧ ∃ n : Int, e = .returned (.tuple #[.string P, .int .i64 n])) := hide (fun W h => by
      refine (HPL.out W h).mono ?_
      rintro e w' ⟨h1, h2⟩
      refine ⟨h1, (Sx.plainR S.data.toList).2, h2.trans ?_⟩
      rw [show (Sx.plainR S.data.toList).1 = p by rw [hSl]; exact hpp.symm, ← hPl])
    have pp : (P.toList == P.toList) = true := by simp
    clear hd0 hd1 hd hpp HPL hSl hIl hDl hPl hTl
    go_enter Tryz.func11, Tryz.ntmps11
    go_wp2_with fail
    refine HAW.out.mono ?_
    rintro e w1 ⟨rfl, hB⟩
    have HB1 := hide hB
    clear hB HAW
    go_wp2_with fail
    refine (HKE.out _ HB1.out).mono ?_
    rintro e w2 ⟨mv, rfl, hrd, hB⟩
    have HB2 := hide (below_to HB1.out hB)
    have HRD := hide hrd
    clear hB hrd
    go_wp2_with fail
    refine (HLI.out _ _ HRD.out).mono ?_
    rintro e w3 ⟨rfl, hB⟩
    have HB3 := hide (below_to HB2.out hB)
    clear hB
    go_wp2_with fail
    refine (HCO.out _ (HLW.out _ HB3.out)).mono ?_
    rintro e w4 ⟨rfl, hB⟩
    have HB4 := hide (below_to (HB3.out.alloc HB3.out.size _) hB)
    clear hB
    go_wp2_with fail
    refine (HHO.out _).mono ?_
    rintro e w5 ⟨rfl, hB⟩
    have HB5 := hide (below_to HB4.out hB)
    clear hB
    go_wp2_with fail
    refine (HLK.out _ (HLW.out _ HB5.out)).mono ?_
    rintro e w6 ⟨rfl, hB⟩
    have HB6 := hide (below_to HB5.out hB)
    clear hB
    go_wp2_with fail
    refine (HPP.out _ (HLW.out _ HB6.out)).mono ?_
    rintro e w7 ⟨hB, n, rfl⟩
    have HB7 := hide (below_to HB6.out hB)
    clear hB
    go_wp2
    go_ret
    exact ⟨rfl, HB7.out⟩
  · obtain ⟨e1, e2⟩ := hd1 hd
    have hDe := ne_text (X := D) (by rw [← ba_len, hDl]; exact List.length_pos_iff.2 hd)
    have hz : (⟨#[122, 46]⟩ : ByteArray) ++ D = ⟨([122, 46] ++ d).toArray⟩ := by
      have hD2 : D = ⟨d.toArray⟩ := by rw [← hDl]
      rw [hD2]; exact ba_app [122, 46] d
    have hDs : D.size ≤ 1000 := by rw [← ba_len, hDl]; exact hdl
    obtain ⟨Z, hZ⟩ : ∃ X : ByteArray, ⟨([122, 46] ++ d).toArray⟩ = X := ⟨_, rfl⟩
    rw [hZ] at hz
    have hZl : Z.data.toList = [122, 46] ++ d := by rw [← hZ]
    have HL1 : Hid (∀ W, LWt W → Calls Tryz.prog 36 #[.string I, .string D, .string P, .string D, .string T] W fun e w' => e = .returned (.bool true) ∧ Below W.heap.size W w') := hide (fun W h => by
      have := klooks I D P D T W h
      rw [hIl, hDl, hPl, hTl, e1, decide_eq_true rfl] at this
      exact this)
    obtain ⟨R, hR⟩ : ∃ R, decide (lkR im ([122, 46] ++ d) = (p, d, t, 0)) = R := ⟨_, rfl⟩
    have HL2 : Hid (∀ W, LWt W → Calls Tryz.prog 36 #[.string I, .string Z, .string P, .string D, .string T] W fun e w' => e = .returned (.bool R) ∧ Below W.heap.size W w') := hide (fun W h => by
      have := klooks I Z P D T W h
      rw [hIl, hDl, hPl, hTl, hZl, hR] at this
      exact this)
    have HWI : Hid (R = false → ∀ W, LWt W → Calls Tryz.prog 38 #[.string I, .string Z, .string D] W fun e w' => e = .returned (.bool true) ∧ Below W.heap.size W w') := hide (fun hf W h => by
      rcases e2 with e2 | ⟨p', d', t', e3, e4⟩
      · rw [hf] at hR; exact absurd e2 (of_decide_eq_false hR)
      · exact kwilder I Z D p' d' t' W h (by rw [hIl, hZl]; exact e3) (by rw [← ba_len, hDl]; exact e4))
    clear hd0 hd1 hd e1 e2 HPL hSl hIl hDl hPl hTl hZl hZ hR
    go_enter Tryz.func11, Tryz.ntmps11
    go_wp2_with fail
    refine HAW.out.mono ?_
    rintro e w1 ⟨rfl, hB⟩
    have HB1 := hide hB
    clear hB HAW
    go_wp2_with fail
    refine (HKE.out _ HB1.out).mono ?_
    rintro e w2 ⟨mv, rfl, hrd, hB⟩
    have HB2 := hide (below_to HB1.out hB)
    have HRD := hide hrd
    clear hB hrd
    go_wp2_with fail
    refine (HLI.out _ _ HRD.out).mono ?_
    rintro e w3 ⟨rfl, hB⟩
    have HB3 := hide (below_to HB2.out hB)
    clear hB
    go_wp2_with fail
    refine (HCO.out _ (HLW.out _ HB3.out)).mono ?_
    rintro e w4 ⟨rfl, hB⟩
    have HB4 := hide (below_to (HB3.out.alloc HB3.out.size _) hB)
    clear hB
    go_wp2_with fail
    refine (HHO.out _).mono ?_
    rintro e w5 ⟨rfl, hB⟩
    have HB5 := hide (below_to HB4.out hB)
    clear hB
    go_wp2_with fail
    refine (HLK.out _ (HLW.out _ HB5.out)).mono ?_
    rintro e w6 ⟨rfl, hB⟩
    have HB6 := hide (below_to HB5.out hB)
    clear hB
    go_wp2_with fail
    refine (HL1.out _ (HLW.out _ HB6.out)).mono ?_
    rintro e w7 ⟨rfl, hB⟩
    have HB7 := hide (below_to HB6.out hB)
    clear hB
    go_wp2_with fail
    refine (HL2.out _ (HLW.out _ HB7.out)).mono ?_
    rintro e w8 ⟨rfl, hB⟩
    have HB8 := hide (below_to HB7.out hB)
    clear hB
    cases R with
    | true =>
      go_wp2
      go_ret
      exact ⟨rfl, HB8.out⟩
    | false =>
      have HW2 := hide (HWI.out rfl)
      clear HWI
      go_wp2_with fail
      refine (HW2.out _ (HLW.out _ HB8.out)).mono ?_
      rintro e w9 ⟨rfl, hB⟩
      have HB9 := hide (below_to HB8.out hB)
      clear hB
      go_wp2
      go_ret
      exact ⟨rfl, HB9.out⟩
end Go.Proofs.YtgohllfpceeboaaGreatDoor

