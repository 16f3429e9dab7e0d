import Derived.Test.YtgohllfpceeboaaGreatDoorPrgT
namespace Go.Proofs.YtgohllfpceeboaaGreatDoor
open Go.RowKit
attribute [local go_sem ↓] Go.wp_at_zero Go.wp_at_succ

theorem WaysAt.below {W W' : World} {g B : Nat} {l : List (Int × Int)} (h : WaysAt W g l) (hb : Below B W W') (hg : g < B) : WaysAt W' g l :=
  ⟨Nat.lt_of_lt_of_le h.1 hb.size, fun j hj => ⟨(hb.cell (p := ⟨g, j * 2, none⟩) hg).trans (h.2.1 j hj).1, (hb.cell (p := ⟨g, j * 2 + 1, none⟩) hg).trans (h.2.1 j hj).2⟩, fun o => (hb.frozen (p := ⟨g, o, none⟩) hg).trans (h.2.2 o)⟩

/-- One step of the inner loop: x, behind z. -/
def insTo (l : List (Int × Int)) (a : Nat) : Nat → Nat → List (Int × Int)
  | 0, _ => l
  | f + 1, j => if a < j ∧ (l.getD j (0, 0)).1 < (l.getD (j - 1) (0, 0)).1 then insTo (swapL l j (j - 1)) a f (j - 1) else l
def insAll (l : List (Int × Int)) (a : Nat) : Nat → List (Int × Int)
  | 0 => l
  | n + 1 => insTo (insAll l a n) a (a + n + 1) (a + n + 1)
theorem insTo_len (a : Nat) : ∀ (f : Nat) (l : List (Int × Int)) (j : Nat), (insTo l a f j).length = l.length := by
  intro f
  induction f with
  | zero => intro l j; rfl
  | succ f ih => intro l j; simp only [insTo]; split
                 · rw [ih, swapL_len]
                 · rfl
set_option maxRecDepth 100000 in
set_option maxHeartbeats 1000000 in
/-- slices.insertionSortCmpFunc at ways, with comparePoints -/
theorem pins_any (l : List (Int × Int)) (g cap a b : Nat) (w : World) (hw : WaysAt w g l) (hl : l.length ≤ 1000) (ha : a < b) (hb : b ≤ l.length) :
    Calls Tryz.prog 266 #[.slice (some ⟨g, 0, none⟩) l.length cap, .int .i64 a, .int .i64 b, .func (.func 224) #[] #[]] w fun e w' => (∃ v, e = .returned v) ∧ WaysAt w' g (insAll l a (b - a - 1)) ∧ w.grownBy w' (some g) := by
  have HW := hide hw
  clear hw
  go_enter Tryz.func266, Tryz.ntmps266
  go_wp2
  go_loopw [8] (fun i wr => ∃ n N : Nat, i = .int .i64 N ∧ N ≤ a + n + 1 ∧ a + n + 1 ≤ N ∧ n ≤ b - a - 1 ∧ WaysAt wr g (insAll l a n) ∧ (insAll l a n).length = l.length ∧ w.grownBy wr (some g)) (fun i _ => (b - intOf i).toNat)
  case atStart => exact ⟨0, a + 1, by go_num, by omega, by omega, by omega, HW.out, rfl, ⟨rfl, rfl, rfl, Nat.le_refl _, fun _ _ _ => rfl⟩⟩
  case round =>
    obtain ⟨n, N, rfl, hN1, hN2, hn, hwa, hlen, hgr⟩ := hrel
    have HWA := hide hwa
    have HLEN := hide hlen
    clear hwa hlen
    by_cases hlt : N < b
    · go_wp2
      go_loopw [9] (fun jv wr => ∃ (j f : Nat) (m : List (Int × Int)), jv = .int .i64 j ∧ a ≤ j ∧ j ≤ N ∧ j ≤ f ∧ WaysAt wr g m ∧ m.length = l.length ∧ insTo m a f j = insAll l a (n + 1) ∧ w.grownBy wr (some g)) (fun jv _ => (intOf jv).toNat)
      case atStart => exact ⟨N, N, insAll l a n, rfl, by omega, by omega, by omega, HWA.out, HLEN.out, (by rw [show N = a + n + 1 from by omega]; rfl), hgr⟩
      case round =>
        obtain ⟨j, f, m, rfl, hj1, hj2, hjf, hwm, hml, hins, hgr2⟩ := hrel
        have HINS := hide hins
        have HWM := hide hwm
        have hglt := hwm.1
        clear hins HWA HLEN hgr
        by_cases hja : a < j
        · obtain ⟨p, hp1, hp2⟩ : ∃ p, p + 1 ≤ j ∧ j ≤ p + 1 := ⟨j - 1, by omega, by omega⟩
          have hjl : j < m.length := by omega
          have hpl : p < m.length := by omega
          obtain ⟨j1, j2⟩ := hwm.2.1 j (by omega)
          obtain ⟨i1, i2⟩ := hwm.2.1 p (by omega)
          obtain ⟨x, hx⟩ : ∃ x, m[j]'hjl = x := ⟨_, rfl⟩
          obtain ⟨z, hz⟩ : ∃ z, m[p]'hpl = z := ⟨_, rfl⟩
          rw [hx] at j1 j2
          rw [hz] at i1 i2
          have HX := hide hx
          have HZ := hide hz
          have hfz := hwm.2.2
          clear hwm hx hz
          obtain ⟨x1, x2⟩ := x
          obtain ⟨z1, z2⟩ := z
          have hd : decide ((a : Int) < (j : Int)) = true := by simp; omega
          have e1 : (0 : Int) ≤ (p : Int) := by omega
          have e2 : (p : Int) < (l.length : Int) := by omega
          have e3 : (j : Int) < (l.length : Int) := by omega
          have f1 : (0 : Int) ≤ (j : Int) := by omega
          have f3 : (j : Int) - 1 = (p : Int) := by omega
          have f5 : IntKind.i64.wrap (p : Int) = (p : Int) := by rw [IntWalk.i64_left]; exact IntWalk.wrap64_in _ (by omega)
          by_cases hc : x1 < z1
          · have hcm : cmpI x1 z1 = -1 := by unfold cmpI; rw [if_pos hc]
            have HCM := hide hcm
            clear hcm
            go_wp2
            go_region_held3 (fun w' => (w'.cell? ⟨g, j * 2, none⟩ = some (.int .i64 x1) ∧ w'.cell? ⟨g, j * 2 + 1, none⟩ = some (.int .i64 x2)) ∧ (w'.cell? ⟨g, p * 2, none⟩ = some (.int .i64 z1) ∧ w'.cell? ⟨g, p * 2 + 1, none⟩ = some (.int .i64 z2))) (first | exact ⟨⟨(hB.cell (p := ⟨g, j * 2, none⟩) hglt).trans j1, (hB.cell (p := ⟨g, j * 2 + 1, none⟩) hglt).trans j2⟩, (hB.cell (p := ⟨g, p * 2, none⟩) hglt).trans i1, (hB.cell (p := ⟨g, p * 2 + 1, none⟩) hglt).trans i2⟩ | go_keep) ((go_at_call 224; refine (pcw_any x1 x2 z1 z2 _).mono ?_; rintro e w' ⟨rfl, hB⟩; rw [HCM.out]))
            have hB2 : Below wr.heap.size wr w' := ((Below.refl wr.heap.size wr).drew).trans hB
            have hwm' := HWM.out.below hB2 hglt
            obtain ⟨j1', j2'⟩ := hwm'.2.1 j (by omega)
            obtain ⟨i1', i2'⟩ := hwm'.2.1 p (by omega)
            rw [HX.out] at j1' j2'
            rw [HZ.out] at i1' i2'
            have hset := (hwm'.set j (by omega) (z1, z2)).set p (by simp; omega) (x1, x2)
            have HSET := hide hset
            have hfz' := hwm'.2.2
            have hgr3 := grown_trans hgr2 (grown_below (r := some g) hB2 (Nat.le_refl _))
            have hsw : (m.set j (z1, z2)).set p (x1, x2) = swapL m j p := by
              unfold swapL
              rw [List.getD_eq_getElem?_getD, List.getElem?_eq_getElem (show p < m.length by omega), List.getD_eq_getElem?_getD, List.getElem?_eq_getElem (show j < m.length by omega), Option.getD_some, Option.getD_some, HX.out, HZ.out]
            have HSW := hide hsw
            obtain ⟨f', rfl⟩ : ∃ f', f = f' + 1 := ⟨f - 1, by omega⟩
            have hstep : insTo (swapL m j p) a f' p = insAll l a (n + 1) := by
              rw [← HINS.out]
              conv => rhs; simp only [insTo]
              rw [show j - 1 = p from by omega, if_pos]
              · rw [List.getD_eq_getElem?_getD, List.getElem?_eq_getElem (show j < m.length by omega), List.getD_eq_getElem?_getD, List.getElem?_eq_getElem (show p < m.length by omega), Option.getD_some, Option.getD_some, HX.out, HZ.out]
                exact ⟨hja, hc⟩
            have HSTEP := hide hstep
            have hmls : (swapL m j p).length = l.length := by rw [swapL_len]; exact hml
            have HMLS := hide hmls
            have hfo : Tryz.prog.follows Departure.mixedOrders = true := by kernel_rfl
            clear hwm' hset hsw hstep hmls j1 j2 i1 i2 hfz hB hB2 hgr2
            go_wp2
            go_big_region_o
            all_goals go_wp2
            refine ⟨⟨p, f', swapL m j p, rfl, by omega, by omega, by omega, ?_, HMLS.out, HSTEP.out, grown_drew (grown_set (grown_set (grown_set (grown_set hgr3 _ _) _ _) _ _) _ _)⟩, by simp [intOf]; omega⟩
            rw [← HSW.out]
            exact HSET.out
          · have hcm : ¬ cmpI x1 z1 < 0 := by unfold cmpI; rw [if_neg hc]; split <;> omega
            obtain ⟨v, hv⟩ : ∃ v, cmpI x1 z1 = v := ⟨_, rfl⟩
            rw [hv] at hcm
            have HCM := hide hv
            have hd0 : decide (v < 0) = false := by simpa using hcm
            have hstop : m = insAll l a (n + 1) := by
              obtain ⟨f', rfl⟩ : ∃ f', f = f' + 1 := ⟨f - 1, by omega⟩
              rw [← HINS.out]
              simp only [insTo]
              rw [if_neg]
              rw [show j - 1 = p from by omega, List.getD_eq_getElem?_getD, List.getElem?_eq_getElem hjl, List.getD_eq_getElem?_getD, List.getElem?_eq_getElem hpl, Option.getD_some, Option.getD_some, HX.out, HZ.out]
              exact fun h => hc h.2
            have HSTOP := hide hstop
            clear hv hstop
            go_wp2
            go_region_held3 (fun w' => (w'.cell? ⟨g, j * 2, none⟩ = some (.int .i64 x1) ∧ w'.cell? ⟨g, j * 2 + 1, none⟩ = some (.int .i64 x2)) ∧ (w'.cell? ⟨g, p * 2, none⟩ = some (.int .i64 z1) ∧ w'.cell? ⟨g, p * 2 + 1, none⟩ = some (.int .i64 z2))) (first | exact ⟨⟨(hB.cell (p := ⟨g, j * 2, none⟩) hglt).trans j1, (hB.cell (p := ⟨g, j * 2 + 1, none⟩) hglt).trans j2⟩, (hB.cell (p := ⟨g, p * 2, none⟩) hglt).trans i1, (hB.cell (p := ⟨g, p * 2 + 1, none⟩) hglt).trans i2⟩ | go_keep) ((go_at_call 224; refine (pcw_any x1 x2 z1 z2 _).mono ?_; rintro e w' ⟨rfl, hB⟩; rw [HCM.out]))
            have hB2 : Below wr.heap.size wr w' := ((Below.refl wr.heap.size wr).drew).trans hB
            have hwm' := HWM.out.below hB2 hglt
            have HWM' := hide hwm'
            have hgr3 := grown_trans hgr2 (grown_below (r := some g) hB2 (Nat.le_refl _))
            clear hwm' hB hB2 j1 j2 i1 i2 hfz hgr2
            go_wp2
            exact ⟨⟨n + 1, N + 1, by go_num, by omega, by omega, by omega, by rw [← HSTOP.out]; exact HWM'.out, by rw [← HSTOP.out]; exact hml, hgr3⟩, by simp [intOf]; omega⟩
        · have hd : decide ((a : Int) < (j : Int)) = false := by simp; omega
          have hstop : m = insAll l a (n + 1) := by
            rw [← HINS.out]
            cases f with
            | zero => rfl
            | succ f' => simp only [insTo]; rw [if_neg (fun h => hja h.1)]
          have HSTOP := hide hstop
          have hfo : Tryz.prog.follows Departure.mixedOrders = true := by kernel_rfl
          clear hstop hwm
          go_wp2
          go_big_region_o
          all_goals go_wp2
          exact ⟨⟨n + 1, N + 1, by go_num, by omega, by omega, by omega, by rw [← HSTOP.out]; exact HWM.out, by rw [← HSTOP.out]; exact hml, grown_drew hgr2⟩, by simp [intOf]; omega⟩
    · have hnn : n = b - a - 1 := by omega
      have HNN := hide hnn
      clear hnn
      go_wp2
      go_end0
      exact ⟨⟨_, rfl⟩, by rw [← HNN.out]; exact HWA.out, hgr⟩
end Go.Proofs.YtgohllfpceeboaaGreatDoor
