import Derived.Test.YtgohllfpceeboaaGreatDoorSbbg
import Derived.Test.YtgohllfpceeboaaGreatDoorSbbe
import Derived.Test.YtgohllfpceeboaaGreatDoorKfa
import Derived.Test.YtgohllfpceeboaaGreatDoorRKga
import Derived.Test.YtgohllfpceeboaaGreatDoorRKgb
import Derived.Test.YtgohllfpceeboaaGreatDoorRKgc
import Derived.Test.YtgohllfpceeboaaGreatDoorRKgd
import Derived.Test.YtgohllfpceeboaaGreatDoorRKge
import Derived.Test.YtgohllfpceeboaaGreatDoorRKgf
import Derived.Test.YtgohllfpceeboaaGreatDoorRKgg
import Derived.Test.YtgohllfpceeboaaGreatDoorRKgh
import Derived.Test.YtgohllfpceeboaaGreatDoorRKgi
import Derived.Test.YtgohllfpceeboaaGreatDoorRKgj
import Derived.Test.YtgohllfpceeboaaGreatDoorRKgk0
import Derived.Test.YtgohllfpceeboaaGreatDoorRKgl
import Derived.Deep.RegionHeldLaw
import Derived.Deep.CutBlock
import Derived.Deep.DeepCutAuto
namespace Go.Proofs.YtgohllfpceeboaaGreatDoor
open Go.RowKit
set_option maxRecDepth 100000 in
set_option maxHeartbeats 8000000 in
/-- suffixkeep.Relations -/
theorem krel (hplay : ∀ (g : Nat) (r : RawS) (rs : List Sx.Rl) (os : List Org) (w : World), LWt w → WlAt w g rs os → os.length ≤ 20 → (∀ o ∈ os, OrgOk o) → Sx.RlsRt rs → StOk r → Calls Tryz.prog 41 #[.pointer (some ⟨g, 0, none⟩), stA r] w fun e w' => e = .returned (.tuple #[]) ∧ StPost w g rs w')
    (l t : List Sx.RawR) (v tv : Value) (a b c : Int) (w : World) (hw : LWt w) (hv : RdR w v l) (ht : RdR w tv t) (hl : l.length ≤ 9223372036854775807) (htl : t.length ≤ 9223372036854775807) (ha : I64 a) (hb : I64 b) (hc : I64 c) : Calls Tryz.prog 14 #[v, tv, .int .i64 a, .int .i64 b, .int .i64 c] w fun e w' => e = .returned (.bool true) ∧ Below w.heap.size w w' := by
  have HWO := hide (kworld l v w hw hv hl)
  have HLW : Hid (∀ W, Below w.heap.size w W → LWt W) := hide (fun W h => lwt_stays _ _ hw h)
  obtain ⟨p, cap, rfl, hso, hsr⟩ := ht
  have HSO := hide hso
  have HSR := hide hsr
  have HPL := hide hplay
  clear hso hsr hplay hw hv
  go_enter Tryz.func14, Tryz.ntmps14
  go_wp2_with fail
  refine HWO.out.mono ?_
  rintro e w1 ⟨g, rs, rfl, hg, hWl, hrt, hB⟩
  have HRT := hide hrt
  have HG := hide hg
  have HW1 := hide hWl
  have HB1 := hide hB
  clear hrt hWl hB HWO
  go_wp2_with fail
  go_loopw [12] (fun iv wr => ∃ (k : Nat) (os : List Org), iv = .int .i64 k ∧ k ≤ t.length ∧ (∀ o ∈ os, OrgOk o) ∧ os.length ≤ 20 ∧ WlAt wr g rs os ∧ Below w.heap.size w wr) (fun iv _ => (t.length - intOf iv).toNat)
  case atStart => exact ⟨0, [], rfl, by omega, by simp, by simp, HW1.out, HB1.out⟩
  case round =>
    obtain ⟨k, os, rfl, hk, hok, hl20, hWl, hB⟩ := hrel
    have HB := hide hB
    have HWL := hide hWl
    have HOK := hide hok
    by_cases hlt : k < t.length
    · obtain ⟨bb, off, rfl, hbb, hc5⟩ := HSR.out k hlt
      have hro := HSO.out t[k] (List.getElem_mem hlt)
      obtain ⟨q, hq⟩ : ∃ q, t[k] = q := ⟨_, rfl⟩
      rw [hq] at hro hc5
      have hx0 := hc5.below hB hbb
      have HPY := hide (HPL.out g q rs os wr (HLW.out _ hB) hWl hl20 hok HRT.out hro)
      obtain ⟨q1, q2, q3, q4, q5⟩ := q
      unfold R5 at hx0
      unfold stA at HPY
      dsimp only at hx0 HPY
      obtain ⟨a1, a2, a3, a4, a5⟩ := hx0
      clear hq hc5 hro hB hWl hok
      as_aux_lemma =>
        go_wp2_with fail
        refine HPY.out.mono ?_
        rintro e y1 ⟨rfl, os', r1, r2, r3, r4, r5⟩
        have HF : Hid ((∀ o ∈ os', OrgOk o) ∧ os'.length ≤ 20 ∧ WlAt y1 g rs os' ∧ Below w.heap.size w y1) := hide ⟨r1, r2, r3, HB.out.trans (r4.mono HG.out)⟩
        clear r1 r2 r3 r4 r5
        go_wp2
        exact ⟨⟨k + 1, os', by go_num, by omega, HF.out⟩, by simp [intOf]; omega⟩
    · have hge : ((k : Int) < t.length) = False := by simp; omega
      have HCN := hide (kcount g rs os wr hWl.read hl20 hok HRT.out)
      clear hB hWl hok hlt
      go_wp2_with fail
      refine HCN.out.mono ?_
      rintro e y1 ⟨rfl, hB1⟩
      have HB2 := hide (below_to HB.out hB1)
      have HRD := hide ((HWL.out.below hB1).read)
      clear hB1
      have HNO := hide (fun W (h : Below y1.heap.size y1 W) => pSameN g os.length 0 rs os W (HRD.out.below h) (Or.inl (by omega)))
      go_wp2_with fail
      refine (HNO.out _ (Below.refl _ _)).mono ?_
      rintro e y2 ⟨rfl, rfl⟩
      by_cases h0 : os.length = 0
      · have k1 : ((os.length : Int) == 0) = true := by rw [beq_iff_eq]; omega
        go_wp2
        go_ret
        exact ⟨rfl, HB2.out⟩
      · have k1 : ((os.length : Int) == 0) = false := by rw [beq_eq_false_iff_ne]; omega
        have k2 : (20 < (os.length : Int)) = False := by simp; omega
        have HPA := hide (fun W => kpick a os.length W ha.1 ha.2 (by omega) (by omega))
        have HPB := hide (fun W => kpick b os.length W hb.1 hb.2 (by omega) (by omega))
        have HPC := hide (fun W => kpick c os.length W hc.1 hc.2 (by omega) (by omega))
        have hx := Sx.pickN_lt a os.length (by omega)
        have hy := Sx.pickN_lt b os.length (by omega)
        have hz := Sx.pickN_lt c os.length (by omega)
        obtain ⟨x, hxe⟩ : ∃ n, Sx.pickN a os.length = n := ⟨_, rfl⟩
        obtain ⟨y, hye⟩ : ∃ n, Sx.pickN b os.length = n := ⟨_, rfl⟩
        obtain ⟨z, hze⟩ : ∃ n, Sx.pickN c os.length = n := ⟨_, rfl⟩
        rw [hxe] at HPA hx
        rw [hye] at HPB hy
        rw [hze] at HPC hz
        have HXX := hide (fun W (h : Below y2.heap.size y2 W) => pSameY g x x rs os W (HRD.out.below h) hx hx HOK.out HRT.out)
        have HXY := hide (fun W (h : Below y2.heap.size y2 W) => pSameY g x y rs os W (HRD.out.below h) hx hy HOK.out HRT.out)
        have HYX := hide (fun W (h : Below y2.heap.size y2 W) => pSameY g y x rs os W (HRD.out.below h) hy hx HOK.out HRT.out)
        have HYZ := hide (fun W (h : Below y2.heap.size y2 W) => pSameY g y z rs os W (HRD.out.below h) hy hz HOK.out HRT.out)
        have HXZ := hide (fun W (h : Below y2.heap.size y2 W) => pSameY g x z rs os W (HRD.out.below h) hx hz HOK.out HRT.out)
        have HTX := hide (fun W (h : Below y2.heap.size y2 W) => pSiteY g x rs os W (HRD.out.below h) hx HOK.out HRT.out)
        have HTY := hide (fun W (h : Below y2.heap.size y2 W) => pSiteY g y rs os W (HRD.out.below h) hy HOK.out HRT.out)
        have ox := HOK.out os[x] (List.getElem_mem hx)
        have oy := HOK.out os[y] (List.getElem_mem hy)
        have exy : x = y → os[x] = os[y] := fun e => by subst e; rfl
        have eyz : y = z → os[y] = os[z] := fun e => by subst e; rfl
        obtain ⟨s1, s2, s3⟩ := rel_self rs x os[x]
        have m1 := relA_symm y x os[y] os[x]
        have m2 := relB_symm y x os[y] os[x]
        have m3 := relC_symm (rs := rs) (a := y) (b := x) oy ox
        have t1 : relA x y os[x] os[y] = true → relA y z os[y] os[z] = true → relA x z os[x] os[z] = true := fun h1 h2 => relA_trans exy eyz h1 h2
        have t2 : relB x y os[x] os[y] = true → relB y z os[y] os[z] = true → relB x z os[x] os[z] = true := fun h1 h2 => relB_trans exy eyz h1 h2
        have t3 : relC rs x y os[x] os[y] = true → relC rs y z os[y] os[z] = true → relC rs x z os[x] os[z] = true := fun h1 h2 => relC_trans exy eyz h1 h2
        have t4 : relA x y os[x] os[y] = true → relC rs x y os[x] os[y] = true := fun h1 => relA_C h1
        have t5 := relC_site (rs := rs) (a := x) (b := y) ox exy
        rw [s1, s2, s3] at HXX
        rw [m1, m2, m3] at HYX
        obtain ⟨SX, hSX⟩ : ∃ X : ByteArray, ⟨(siteP rs os[x]).toArray⟩ = X := ⟨_, rfl⟩
        obtain ⟨SY, hSY⟩ : ∃ X : ByteArray, ⟨(siteP rs os[y]).toArray⟩ = X := ⟨_, rfl⟩
        have e1 : decide (siteP rs os[x] = siteP rs os[y]) = (SX.toList == SY.toList) := by rw [ba_eq, ← hSX, ← hSY]
        have e2 : decide (siteP rs os[x] ≠ opqB) = !(SX.toList == [111, 112, 97, 113, 117, 101]) := by
          rw [← hSX, ByteArray.toList_eq, Bool.eq_iff_iff]
          simp [opqB]
          exact decide_eq_true_iff
        rw [e1, e2] at t5
        rw [hSX] at HTX
        rw [hSY] at HTY
        obtain ⟨p1, hp1⟩ : ∃ q, relA x y os[x] os[y] = q := ⟨_, rfl⟩
        obtain ⟨q1, hq1⟩ : ∃ q, relB x y os[x] os[y] = q := ⟨_, rfl⟩
        obtain ⟨r1, hr1⟩ : ∃ q, relC rs x y os[x] os[y] = q := ⟨_, rfl⟩
        obtain ⟨p3, hp3⟩ : ∃ q, relA y z os[y] os[z] = q := ⟨_, rfl⟩
        obtain ⟨q3, hq3⟩ : ∃ q, relB y z os[y] os[z] = q := ⟨_, rfl⟩
        obtain ⟨r3, hr3⟩ : ∃ q, relC rs y z os[y] os[z] = q := ⟨_, rfl⟩
        obtain ⟨p4, hp4⟩ : ∃ q, relA x z os[x] os[z] = q := ⟨_, rfl⟩
        obtain ⟨q4, hq4⟩ : ∃ q, relB x z os[x] os[z] = q := ⟨_, rfl⟩
        obtain ⟨r4, hr4⟩ : ∃ q, relC rs x z os[x] os[z] = q := ⟨_, rfl⟩
        rw [hp1, hq1, hr1] at HXY HYX
        rw [hp3, hq3, hr3] at HYZ
        rw [hp4, hq4, hr4] at HXZ
        rw [hp1, hp3, hp4] at t1
        rw [hq1, hq3, hq4] at t2
        rw [hr1, hr3, hr4] at t3
        rw [hp1, hr1] at t4
        rw [hr1] at t5
        have T5 := hide t5
        have T := hide (And.intro t1 (And.intro t2 (And.intro t3 t4)))
        clear t1 t2 t3 t4 t5 hp1 hq1 hr1 hp3 hq3 hr3 hp4 hq4 hr4 m1 m2 m3 s1 s2 s3 exy eyz ox oy e1 e2 hSX hSY hxe hye hze HPL HSO HSR HNO HCN
        go_wp2_with fail
        refine (HPA.out _).mono ?_
        rintro e y2 ⟨rfl, rfl⟩
        go_wp2_with fail
        refine (HPB.out _).mono ?_
        rintro e y2 ⟨rfl, rfl⟩
        go_wp2_with fail
        refine (HPC.out _).mono ?_
        rintro e y2 ⟨rfl, rfl⟩
        go_wp2_with fail
        refine (HXX.out _ (Below.refl _ _)).mono ?_
        rintro e u1 ⟨rfl, hB9⟩
        have HU1 := hide (hB9)
        clear hB9
        go_wp2_with fail
        refine (HXY.out _ HU1.out).mono ?_
        rintro e u2 ⟨rfl, hB9⟩
        have HU2 := hide (below_to HU1.out hB9)
        clear hB9
        go_wp2_with fail
        refine (HYX.out _ HU2.out).mono ?_
        rintro e u3 ⟨rfl, hB9⟩
        have HU3 := hide (below_to HU2.out hB9)
        clear hB9
        go_wp2_with fail
        refine (HYZ.out _ HU3.out).mono ?_
        rintro e u4 ⟨rfl, hB9⟩
        have HU4 := hide (below_to HU3.out hB9)
        clear hB9
        go_wp2_with fail
        refine (HXZ.out _ HU4.out).mono ?_
        rintro e u5 ⟨rfl, hB9⟩
        have HU5 := hide (below_to HU4.out hB9)
        clear hB9
        obtain ⟨t1, t2, t3, t4⟩ := T.out
        have hP : p1 = false ∨ (p1 = true ∧ p3 = false) ∨ (p1 = true ∧ p3 = true ∧ p4 = true) := by
          revert t1; cases p1 <;> cases p3 <;> cases p4 <;> simp
        have hQ : q1 = false ∨ (q1 = true ∧ q3 = false) ∨ (q1 = true ∧ q3 = true ∧ q4 = true) := by
          revert t2; cases q1 <;> cases q3 <;> cases q4 <;> simp
        have hR : r1 = false ∨ (r1 = true ∧ r3 = false) ∨ (r1 = true ∧ r3 = true ∧ r4 = true) := by
          revert t3; cases r1 <;> cases r3 <;> cases r4 <;> simp
        clear t1 t2 t3
        go_upto_region 24 with fail
        go_cut [218] (fun c wc => c = .bool false ∧ u5 = wc)
        case first =>
          rcases hP with rfl | ⟨rfl, rfl⟩ | ⟨rfl, rfl, rfl⟩ <;> rcases hQ with rfl | ⟨rfl, rfl⟩ | ⟨rfl, rfl, rfl⟩ <;> rcases hR with rfl | ⟨rfl, rfl⟩ | ⟨rfl, rfl, rfl⟩
          all_goals first
            | (exact absurd (t4 rfl) (by decide))
            | (as_aux_lemma =>
                 go_wp2_with fail
                 go_meet
                 exact ⟨rfl, rfl⟩)
        case rest =>
          obtain ⟨rfl, rfl⟩ := hcut
          clear hP hQ hR t4 T
          as_aux_lemma =>
            go_wp2_with fail
            refine (HTX.out _ HU5.out).mono ?_
            rintro e u6 ⟨rfl, hB9⟩
            have HU6 := hide (below_to HU5.out hB9)
            clear hB9
            go_wp2_with fail
            refine (HTY.out _ HU6.out).mono ?_
            rintro e u7 ⟨rfl, hB9⟩
            have HU7 := hide (below_to HB2.out (below_to HU6.out hB9))
            clear hB9
            have t5 := T5.out
            cases hE : (SX.toList == SY.toList) with
            | false =>
              obtain rfl : r1 = false := by rw [t5, hE]; rfl
              clear t5 T5
              go_wp2
              go_ret
              exact ⟨rfl, HU7.out⟩
            | true =>
              cases hF : (SX.toList == [111, 112, 97, 113, 117, 101]) with
              | false =>
                obtain rfl : r1 = true := by rw [t5, hE, hF]; rfl
                have hF2 : (SX.toList != [111, 112, 97, 113, 117, 101]) = true := by rw [bne, hF]; rfl
                clear t5 T5
                go_wp2
                go_ret
                exact ⟨rfl, HU7.out⟩
              | true =>
                by_cases hxy : x = y
                · obtain rfl : r1 = true := by rw [t5, hE, hF, decide_eq_true hxy]; rfl
                  have k3 : ((x : Int) == y) = true := by rw [beq_iff_eq]; omega
                  clear t5 T5
                  go_wp2
                  go_ret
                  exact ⟨rfl, HU7.out⟩
                · obtain rfl : r1 = false := by rw [t5, hE, hF, decide_eq_false hxy]; rfl
                  have k3 : ((x : Int) == y) = false := by rw [beq_eq_false_iff_ne]; omega
                  clear t5 T5
                  go_wp2
                  go_ret
                  exact ⟨rfl, HU7.out⟩
end Go.Proofs.YtgohllfpceeboaaGreatDoor
