import Derived.Test.YtgohllfpceeboabGreatDoorSbaa
import Derived.Test.YtgohllfpceeboabGreatDoorSbac
import Derived.Test.YtgohllfpceeboabGreatDoorSbad
import Derived.Test.YtgohllfpceeboabGreatDoorSbae
import Derived.Test.YtgohllfpceeboabGreatDoorProg
namespace Go.Proofs.YtgohllfpceeboabGreatDoor
open Go.RowKit
attribute [local go_sem ↓] Go.wp_at_zero Go.wp_at_succ
set_option maxRecDepth 100000 in
set_option maxHeartbeats 1000000 in
/-- slices.symMergeCmpFunc at ways, with comparePoints, where the right part is one way -/
theorem psm_right (l : List (Int × Int)) (g cap a m : Nat) (w : World) (hw : WaysAt w g l) (hl : l.length ≤ 1000) (ha : a + 1 < m) (hb : m < l.length) (hs : Stb l) (hr : Risen l a m) (am : Int) (ham : am = (m : Int) + 1) :
    Calls Tryz.prog 253 #[.slice (some ⟨g, 0, none⟩) l.length cap, .int .i64 a, .int .i64 m, .int .i64 am, .func (.func 233) #[] #[]] w fun e w' => (∃ v, e = .returned v) ∧ (∃ r, Moved l r a (m + 1) ∧ Risen r a (m + 1) ∧ WaysAt w' g r) ∧ w.grownBy w' (some g) := by
  have HW := hide hw
  have HS := hide hs
  have HR := hide hr
  clear hw hs hr
  have hd0 : ((m : Int) - (a : Int) == 1) = false := by simp; omega
  have hd1 : am - (m : Int) = 1 := by omega
  have HAM := hide ham
  clear ham
  go_enter Tryz.func253, Tryz.ntmps253
  go_wp2
  go_loopw [14, 15] (fun iv jv wr => ∃ I J : Nat, iv = .int .i64 I ∧ jv = .int .i64 J ∧ a ≤ I ∧ I ≤ J ∧ J ≤ m ∧ (J < m → (wy l m).1 < (wy l J).1) ∧ (a < I → (wy l (I - 1)).1 ≤ (wy l m).1) ∧ WaysAt wr g l ∧ w.grownBy wr (some g)) (fun iv jv _ => (intOf jv - intOf iv).toNat)
  case atStart => exact ⟨a, m, rfl, rfl, by omega, by omega, by omega, fun h => absurd h (by omega), fun h => absurd h (by omega), HW.out, ⟨rfl, rfl, rfl, Nat.le_refl _, fun _ _ _ => rfl⟩⟩
  case round =>
    obtain ⟨I, J, rfl, rfl, hI, hIJ, hJ, hx, hy, hwr, hgr⟩ := hrel
    have HX := hide hx
    have HY := hide hy
    have HWR := hide hwr
    have hglt := hwr.1
    clear hx hy
    by_cases hlt : I < J
    · have hd2 : decide ((I : Int) < (J : Int)) = true := by simp; omega
      obtain ⟨h, hh1, hh2⟩ : ∃ h : Nat, h * 2 ≤ I + J ∧ I + J ≤ h * 2 + 1 := ⟨(I + J) / 2, by omega, by omega⟩
      have hhl : h < l.length := by omega
      
      go_wp2
      have hq : ((I : Int) + (J : Int)) / 2 = (h : Int) := by omega
      rw [hq]
      have HQ := hide hq
      clear hq
      obtain ⟨j1, j2⟩ := hwr.2.1 m hb
      obtain ⟨i1, i2⟩ := hwr.2.1 h hhl
      have q1 : wy l m = l[m]'hb := by unfold wy; rw [List.getD_eq_getElem?_getD, List.getElem?_eq_getElem hb, Option.getD_some]
      have q2 : wy l h = l[h]'hhl := by unfold wy; rw [List.getD_eq_getElem?_getD, List.getElem?_eq_getElem hhl, Option.getD_some]
      rw [← q1] at j1 j2
      rw [← q2] at i1 i2
      obtain ⟨x, hx⟩ : ∃ x, wy l m = x := ⟨_, rfl⟩
      obtain ⟨z, hz⟩ : ∃ z, wy l h = z := ⟨_, rfl⟩
      rw [hx] at j1 j2
      rw [hz] at i1 i2
      have HXX := hide hx
      have HZ := hide hz
      have hfz := hwr.2.2
      clear q1 q2 hx hz hwr
      obtain ⟨x1, x2⟩ := x
      obtain ⟨z1, z2⟩ := z
      have e1 : (0 : Int) ≤ (h : Int) := by omega
      have e2 : (h : Int) < (l.length : Int) := by omega
      have e3 : (0 : Int) ≤ (m : Int) := by omega
      have e4 : (m : Int) < (l.length : Int) := by omega
      obtain ⟨v, hv⟩ : ∃ v, cmpI x1 z1 = v := ⟨_, rfl⟩
      have HCM := hide hv
      clear hv
      go_region_held3 (fun w' => (w'.cell? ⟨g, m * 2, none⟩ = some (.int .i64 x1) ∧ w'.cell? ⟨g, m * 2 + 1, none⟩ = some (.int .i64 x2)) ∧ (w'.cell? ⟨g, h * 2, none⟩ = some (.int .i64 z1) ∧ w'.cell? ⟨g, h * 2 + 1, none⟩ = some (.int .i64 z2))) (first | exact ⟨⟨(hB.cell (p := ⟨g, m * 2, none⟩) hglt).trans j1, (hB.cell (p := ⟨g, m * 2 + 1, none⟩) hglt).trans j2⟩, (hB.cell (p := ⟨g, h * 2, none⟩) hglt).trans i1, (hB.cell (p := ⟨g, h * 2 + 1, none⟩) hglt).trans i2⟩ | go_keep) ((go_at_call 233; refine (pcw_any x1 x2 z1 z2 _).mono ?_; rintro e w' ⟨rfl, hB⟩; rw [HCM.out]))
      have hB2 : Below wr.heap.size wr w' := ((Below.refl wr.heap.size wr).drew).trans hB
      have hwm' := HWR.out.below hB2 hglt
      have HWM' := hide hwm'
      have hgr3 := grown_trans hgr (grown_below (r := some g) hB2 (Nat.le_refl _))
      clear hwm' hB hB2 j1 j2 i1 i2 hfz hgr HWR
      by_cases hc : x1 < z1
      · have hd3 : decide (v < 0) = true := by rw [← HCM.out]; unfold cmpI; rw [if_pos hc]; rfl
        rw [hd3]
        go_wp2
        exact ⟨⟨I, h, rfl, rfl, by omega, by omega, by omega, fun _ => by rw [HXX.out, HZ.out]; exact hc, HY.out, HWM'.out, hgr3⟩, by simp [intOf]; omega⟩
      · have hd3 : decide (v < 0) = false := by rw [← HCM.out]; unfold cmpI; rw [if_neg hc]; split <;> simp
        rw [hd3]
        go_wp2
        exact ⟨⟨h + 1, J, by go_num, rfl, by omega, by omega, by omega, HX.out, fun _ => by rw [Nat.add_sub_cancel, HXX.out, HZ.out]; exact Int.not_lt.mp hc, HWM'.out, hgr3⟩, by simp [intOf]; omega⟩
    · have hd2 : decide ((I : Int) < (J : Int)) = false := by simp; omega
      have hIJ' : I = J := by omega
      subst hIJ'
      have hm := sym_one_right l a I m hI hJ hb HS.out HR.out HX.out HY.out
      have HM := hide hm
      clear hm hwr
      go_wp2
      go_loopw [17] (fun kv wr => ∃ K : Nat, kv = .int .i64 K ∧ I ≤ K ∧ K ≤ m ∧ WaysAt wr g (rotL l K m (m + 1)) ∧ w.grownBy wr (some g)) (fun kv _ => (intOf kv).toNat)
      case atStart => exact ⟨m, rfl, by omega, by omega, by rw [rotL_none' l m (m + 1) (by omega)]; exact HWR.out, hgr⟩
      case round =>
        obtain ⟨K, rfl, hK1, hK2, hwk, hgk⟩ := hrel
        have HWK := hide hwk
        clear hgr HWR hglt
        have hglt := hwk.1
        by_cases hlt2 : I < K
        · have hd4 : decide ((I : Int) < (K : Int)) = true := by simp; omega
          obtain ⟨p, hp1, hp2⟩ : ∃ p, p + 1 ≤ K ∧ K ≤ p + 1 := ⟨K - 1, by omega, by omega⟩
          have hst := rotL_left l p m (by omega) hb
          rw [show p + 1 = K from by omega] at hst
          have hml := rotL_len l K m (m + 1) (by omega) (by omega)
          obtain ⟨q, hmm⟩ : ∃ q, rotL l K m (m + 1) = q := ⟨_, rfl⟩
          rw [hmm] at hwk hst hml
          have HST := hide hst
          clear hst hmm
          have hkl : K < q.length := by omega
          have hpl : p < q.length := by omega
          obtain ⟨j1, j2⟩ := hwk.2.1 K hkl
          obtain ⟨i1, i2⟩ := hwk.2.1 p hpl
          obtain ⟨x, hx⟩ : ∃ x, q[K]'hkl = x := ⟨_, rfl⟩
          obtain ⟨z, hz⟩ : ∃ z, q[p]'hpl = z := ⟨_, rfl⟩
          rw [hx] at j1 j2
          rw [hz] at i1 i2
          obtain ⟨x1, x2⟩ := x
          obtain ⟨z1, z2⟩ := z
          have hfz := hwk.2.2
          have hset := (hwk.set K hkl (z1, z2)).set p (by simp; omega) (x1, x2)
          have HSET := hide hset
          have hsw : (q.set K (z1, z2)).set p (x1, x2) = swapL q K p := by
            unfold swapL
            rw [List.getD_eq_getElem?_getD, List.getElem?_eq_getElem hpl, List.getD_eq_getElem?_getD, List.getElem?_eq_getElem hkl, Option.getD_some, Option.getD_some, hx, hz]
          have HSW := hide hsw
          clear hset hsw hx hz hwk
          have hfo : Tryz.prog.follows Departure.mixedOrders = true := by kernel_rfl
          have e1 : (0 : Int) ≤ (p : Int) := by omega
          have e2 : (p : Int) < (l.length : Int) := by omega
          have e3 : (0 : Int) ≤ (K : Int) := by omega
          have e4 : (K : Int) < (l.length : Int) := by omega
          have f3 : (K : Int) - 1 = (p : Int) := by omega
          have f5 : IntKind.i64.wrap (p : Int) = (p : Int) := by rw [IntWalk.i64_left]; exact IntWalk.wrap64_in _ (by omega)
          go_wp2
          go_big_region_o
          all_goals go_wp2
          refine ⟨⟨p, rfl, by omega, by omega, ?_, grown_drew (grown_set (grown_set (grown_set (grown_set hgk _ _) _ _) _ _) _ _)⟩, by simp [intOf]; omega⟩
          rw [← HST.out, ← HSW.out]
          exact HSET.out
        · have hd4 : decide ((I : Int) < (K : Int)) = false := by simp; omega
          have hKI : K = I := by omega
          have hwi : WaysAt wr g (rotL l I m (m + 1)) := by rw [← hKI]; exact HWK.out
          have HWI := hide hwi
          clear hwk hKI hwi
          go_wp2
          refine bodyPost_ret (results_none rfl _ _ _) rfl ?_
          exact ⟨⟨_, rfl⟩, ⟨_, HM.out.1, HM.out.2, HWI.out⟩, hgk⟩
end Go.Proofs.YtgohllfpceeboabGreatDoor

