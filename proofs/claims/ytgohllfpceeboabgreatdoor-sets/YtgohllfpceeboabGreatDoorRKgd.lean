import Derived.Test.YtgohllfpceeboabGreatDoorSbbg
import Derived.Test.YtgohllfpceeboabGreatDoorRKga
import Derived.Test.YtgohllfpceeboabGreatDoorRKgb
import Derived.Test.YtgohllfpceeboabGreatDoorRKgc
import Derived.Deep.RegionHeldLaw
import Derived.Deep.CutBlock
import Derived.Deep.DeepCutAuto
namespace Go.Proofs.YtgohllfpceeboabGreatDoor
open Go.RowKit
set_option maxRecDepth 100000 in
set_option maxHeartbeats 4000000 in
/-- (*suffix.World).areSameByDomain -/
theorem psameD (g a b : Nat) (rs : List Sx.Rl) (os : List Org) (w : World) (hr : RdW w g rs os) (ha : a < os.length) (hb : b < os.length) (hok : ∀ o ∈ os, OrgOk o) : Calls Tryz.prog 56 #[.pointer (some ⟨g, 0, none⟩), .int .i64 a, .int .i64 b] w fun e w' => e = .returned (.bool (relB a b os[a] os[b])) ∧ Below w.heap.size w w' := by
  have hr0 := hr
  obtain ⟨rv, p, cap, h1, h2, h3, h4, h5⟩ := hr0
  obtain ⟨rb, rfl, hrb, o1⟩ := h5 a ha
  obtain ⟨rb', hrb', -, o2⟩ := h5 b hb
  obtain rfl : rb = rb' := by injection hrb' with h; injection h
  have hxo := hok os[a] (List.getElem_mem ha)
  have hyo := hok os[b] (List.getElem_mem hb)
  have HSA := hide (fun W (h : Below w.heap.size w W) => psame g a b rs os W (hr.below h) ha hb hok)
  obtain ⟨x, hx⟩ : ∃ x, os[a] = x := ⟨_, rfl⟩
  obtain ⟨y, hy⟩ : ∃ x, os[b] = x := ⟨_, rfl⟩
  simp only [hx, hy] at HSA
  rw [hx] at o1 ⊢
  rw [hy] at o2 ⊢
  unfold O4 at o1 o2
  have hrel : ¬ (x.2 = [] ∧ y.2 = []) → relB a b x y = (decide (schOf x = schOf y) && decide (x.2 = y.2)) := fun h => by
    unfold relB
    rw [if_neg h]
  have hrt : x.2 = [] ∧ y.2 = [] → relB a b x y = relA a b x y := fun h => by unfold relB; rw [if_pos h]
  obtain ⟨S1, hS1⟩ : ∃ X : ByteArray, ⟨(schOf x).toArray⟩ = X := ⟨_, rfl⟩
  obtain ⟨H1, hH1⟩ : ∃ X : ByteArray, ⟨(hstOf x).toArray⟩ = X := ⟨_, rfl⟩
  obtain ⟨D1, hD1⟩ : ∃ X : ByteArray, ⟨x.2.toArray⟩ = X := ⟨_, rfl⟩
  obtain ⟨S2, hS2⟩ : ∃ X : ByteArray, ⟨(schOf y).toArray⟩ = X := ⟨_, rfl⟩
  obtain ⟨H2, hH2⟩ : ∃ X : ByteArray, ⟨(hstOf y).toArray⟩ = X := ⟨_, rfl⟩
  obtain ⟨D2, hD2⟩ : ∃ X : ByteArray, ⟨y.2.toArray⟩ = X := ⟨_, rfl⟩
  have e1 : (x.2 = [] ↔ D1.toList = []) := by rw [← hD1, ByteArray.toList_eq]
  have e2 : (y.2 = [] ↔ D2.toList = []) := by rw [← hD2, ByteArray.toList_eq]
  have e3 : decide (schOf x = schOf y) = decide (S1.toList = S2.toList) := by rw [← hS1, ← hS2]; simp only [ByteArray.toList_eq]
  have e4 : decide (x.2 = y.2) = decide (D1.toList = D2.toList) := by rw [← hD1, ← hD2]; simp only [ByteArray.toList_eq]
  rw [e1, e2] at hrt hrel
  rw [e3, e4] at hrel
  rw [hS1, hH1, hD1] at o1
  rw [hS2, hH2, hD2] at o2
  obtain ⟨P1, hP1⟩ : ∃ n, prtOf x = n := ⟨_, rfl⟩
  obtain ⟨P2, hP2⟩ : ∃ n, prtOf y = n := ⟨_, rfl⟩
  rw [hP1] at o1
  rw [hP2] at o2
  obtain ⟨c1, c2, c3, c4⟩ := o1
  obtain ⟨d1, d2, d3, d4⟩ := o2
  obtain ⟨R, hR⟩ : ∃ R, relB a b x y = R := ⟨_, rfl⟩
  rw [hR] at hrel hrt ⊢
  obtain ⟨RA, hRA⟩ : ∃ R, relA a b x y = R := ⟨_, rfl⟩
  rw [hRA] at hrt HSA
  have HREL := hide hrel
  have HRT := hide hrt
  clear hrel hrt hS1 hH1 hD1 hS2 hH2 hD2 e1 e2 e3 e4 hP1 hP2 hx hy hR hRA h4 h5 hrb' hok hxo hyo h2 hr
  go_enter Tryz.func56, Tryz.ntmps56
  go_upto_region 1 with fail
  go_cut [7, 8] (fun f s wc => ∃ b1 b2, f = .pointer (some ⟨b1, 0, none⟩) ∧ s = .pointer (some ⟨b2, 0, none⟩) ∧ b1 < wc.heap.size ∧ b2 < wc.heap.size ∧ C4 wc b1 S1 H1 P1 D1 ∧ C4 wc b2 S2 H2 P2 D2 ∧ Below w.heap.size w wc)
  case first =>
    go_region
    all_goals (
      go_wp2_with fail
      go_meet
      first
        | (obtain ⟨q1, q2, q3, q4, q5⟩ := c4_two w S1 H1 D1 S2 H2 D2 P1 P2 _ rfl
           exact ⟨_, _, rfl, rfl, q1, q2, q3, q4, q5⟩)
        | (obtain ⟨q1, q2, q3, q4, q5⟩ := c4_two w S2 H2 D2 S1 H1 D1 P2 P1 _ rfl
           exact ⟨_, _, rfl, rfl, q2, q1, q4, q3, q5⟩))
  case rest =>
    obtain ⟨b1, b2, rfl, rfl, hb1, hb2, q1, q2, hBc⟩ := hcut
    have HBC := hide hBc
    have HX : Hid (∀ W, Below wc.heap.size wc W → C4 W b1 S1 H1 P1 D1 ∧ C4 W b2 S2 H2 P2 D2) := hide (fun W h => ⟨q1.below h hb1, q2.below h hb2⟩)
    have hS0 := HX.out wc (Below.refl _ _)
    unfold C4 at hS0 HX
    clear q1 q2 hBc c1 c2 c3 c4 d1 d2 d3 d4 h3
    obtain ⟨⟨c1, c2, c3, c4⟩, d1, d2, d3, d4⟩ := hS0
    by_cases hdd : D1.toList = [] ∧ D2.toList = []
    · have HRE := hide (HRT.out hdd)
      obtain ⟨h6, h7⟩ := hdd
      have k1 : D1.toList.isEmpty = true := by rw [h6]; rfl
      have k2 : D2.toList.isEmpty = true := by rw [h7]; rfl
      go_wp2_with fail
      refine (HSA.out _ HBC.out).mono ?_
      rintro e y1 ⟨rfl, hB1⟩
      have HBE := hide (below_to HBC.out hB1)
      clear hB1
      go_wp2
      go_ret
      exact ⟨by rw [HRE.out]; rfl, HBE.out⟩
    · have HRE := hide (HREL.out hdd)
      by_cases h6 : D1.toList = []
      · have h7 : ¬ D2.toList = [] := fun h => hdd ⟨h6, h⟩
        have k1 : D1.toList.isEmpty = true := by rw [h6]; rfl
        have k2 : D2.toList.isEmpty = false := by simpa using h7
        clear hdd
        go_wp2
        all_goals (
          go_ret
          refine ⟨?_, HBC.out⟩
          rw [HRE.out]
          simp_all <;> (rw [Bool.eq_iff_iff]; simp))
      · have k1 : D1.toList.isEmpty = false := by simpa using h6
        clear hdd
        go_wp2
        all_goals (
          go_ret
          refine ⟨?_, HBC.out⟩
          rw [HRE.out]
          simp_all <;> (rw [Bool.eq_iff_iff]; simp))
set_option maxRecDepth 100000 in
set_option maxHeartbeats 4000000 in
/-- (*suffix.World).areOfOneSite -/
theorem pone (g a b : Nat) (rs : List Sx.Rl) (os : List Org) (w : World) (hr : RdW w g rs os) (ha : a < os.length) (hb : b < os.length) (hok : ∀ o ∈ os, OrgOk o) (hrt : Sx.RlsRt rs) : Calls Tryz.prog 57 #[.pointer (some ⟨g, 0, none⟩), .int .i64 a, .int .i64 b] w fun e w' => e = .returned (.bool (relC rs a b os[a] os[b])) ∧ Below w.heap.size w w' := by
  have hr0 := hr
  obtain ⟨rv, p, cap, h1, h2, h3, h4, h5⟩ := hr0
  obtain ⟨rb, rfl, hrb, o1⟩ := h5 a ha
  have hxo := hok os[a] (List.getElem_mem ha)
  have HOP := hide (fun W => popqO os[a] W hxo)
  have HSA := hide (fun W (h : Below w.heap.size w W) => psite g a rs os W (hr.below h) ha hok hrt)
  have HSB := hide (fun W (h : Below w.heap.size w W) => psite g b rs os W (hr.below h) hb hok hrt)
  obtain ⟨x, hx⟩ : ∃ x, os[a] = x := ⟨_, rfl⟩
  obtain ⟨y, hy⟩ : ∃ x, os[b] = x := ⟨_, rfl⟩
  rw [hx] at o1 HOP HSA ⊢
  rw [hy] at HSB ⊢
  have hrel : ¬ a = b → relC rs a b x y = (!decide (x.1 = none) && decide (siteP rs x = siteP rs y)) := fun h => by
    unfold relC
    rw [decide_eq_false h, Bool.false_or]
    congr 1
    simp
  have hrtt : a = b → relC rs a b x y = true := fun h => by unfold relC; rw [decide_eq_true h]; rfl
  unfold O4 at o1
  unfold orgA at HOP
  obtain ⟨S1, hS1⟩ : ∃ X : ByteArray, ⟨(schOf x).toArray⟩ = X := ⟨_, rfl⟩
  obtain ⟨H1, hH1⟩ : ∃ X : ByteArray, ⟨(hstOf x).toArray⟩ = X := ⟨_, rfl⟩
  obtain ⟨D1, hD1⟩ : ∃ X : ByteArray, ⟨x.2.toArray⟩ = X := ⟨_, rfl⟩
  obtain ⟨TA, hTA⟩ : ∃ X : ByteArray, ⟨(siteP rs x).toArray⟩ = X := ⟨_, rfl⟩
  obtain ⟨TB, hTB⟩ : ∃ X : ByteArray, ⟨(siteP rs y).toArray⟩ = X := ⟨_, rfl⟩
  have e3 : decide (siteP rs x = siteP rs y) = (TA.toList == TB.toList) := by rw [ba_eq, ← hTA, ← hTB]
  rw [e3] at hrel
  rw [hTA] at HSA
  rw [hTB] at HSB
  rw [hS1, hH1, hD1] at o1 HOP
  obtain ⟨P1, hP1⟩ : ∃ n, prtOf x = n := ⟨_, rfl⟩
  rw [hP1] at o1 HOP
  obtain ⟨c1, c2, c3, c4⟩ := o1
  obtain ⟨R, hR⟩ : ∃ R, relC rs a b x y = R := ⟨_, rfl⟩
  rw [hR] at hrel hrtt ⊢
  obtain ⟨OP, hOP⟩ : ∃ R, decide (x.1 = none) = R := ⟨_, rfl⟩
  rw [hOP] at hrel HOP
  have HREL := hide hrel
  have HRT := hide hrtt
  clear hrel hrtt hS1 hH1 hD1 hTA hTB e3 hP1 hx hy hR hOP h4 h5 hok hxo h2 hr hrt
  by_cases hab : a = b
  · have hRt := HRT.out hab
    have k1 : ((a : Int) == b) = true := by simp; omega
    go_enter Tryz.func57, Tryz.ntmps57
    go_wp2
    go_ret
    exact ⟨by rw [hRt]; rfl, Below.refl _ _⟩
  · have HRE := hide (HREL.out hab)
    have k1 : ((a : Int) == b) = false := by simp; omega
    go_enter Tryz.func57, Tryz.ntmps57
    go_wp2_with fail
    refine (HOP.out _).mono ?_
    rintro e y1 ⟨rfl, hB1⟩
    have HB1 := hide hB1
    clear hB1
    cases OP with
    | true =>
      go_wp2
      go_ret
      exact ⟨by rw [HRE.out]; rfl, HB1.out⟩
    | false =>
      go_wp2_with fail
      refine (HSA.out _ HB1.out).mono ?_
      rintro e y2 ⟨rfl, hB2⟩
      have HB2 := hide (below_to HB1.out hB2)
      clear hB2
      go_wp2_with fail
      refine (HSB.out _ HB2.out).mono ?_
      rintro e y3 ⟨rfl, hB3⟩
      have HB3 := hide (below_to HB2.out hB3)
      clear hB3
      go_wp2
      go_ret
      exact ⟨by rw [HRE.out]; rfl, HB3.out⟩
end Go.Proofs.YtgohllfpceeboabGreatDoor
