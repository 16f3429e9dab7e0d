import Derived.Test.YtgohllfpceeboaaGreatDoorPrgZ
namespace Go.Proofs.YtgohllfpceeboaaGreatDoor
open Go.RowKit
attribute [local go_sem ↓] Go.wp_at_zero Go.wp_at_succ
set_option maxRecDepth 100000 in
set_option maxHeartbeats 1000000 in
/-- insertion sort of nothing -/
theorem pins_none (n g cap a : Nat) (fv : Value) (w : World) (ha : a ≤ 1000) :
    Calls Tryz.prog 266 #[.slice (some ⟨g, 0, none⟩) n cap, .int .i64 a, .int .i64 a, fv] w fun e w' => (∃ v, e = .returned v) ∧ w' = w := by
  go_enter Tryz.func266, Tryz.ntmps266
  go_wp2
  go_loopw [8] (fun i wr => i = .int .i64 ((a : Int) + 1) ∧ wr = w) (fun i _ => (a - intOf i).toNat)
  case atStart => exact ⟨rfl, rfl⟩
  case round =>
    obtain ⟨rfl, rfl⟩ := hrel
    go_wp2
    go_end0
    exact ⟨⟨_, rfl⟩, rfl⟩
set_option maxRecDepth 100000 in
set_option maxHeartbeats 4000000 in
/-- slices.stableCmpFunc at fewer than 20 ways -/
theorem pst_few (l : List (Int × Int)) (g cap : Nat) (w : World) (hw : WaysAt w g l) (h0 : 0 < l.length) (hl : l.length < 20) (hs : Stb l) :
    Calls Tryz.prog 250 #[.slice (some ⟨g, 0, none⟩) l.length cap, .int .i64 l.length, .func (.func 224) #[] #[]] w fun e w' => (∃ v, e = .returned v) ∧ (∃ r, r.Perm l ∧ Stb r ∧ Risen r 0 l.length ∧ WaysAt w' g r) ∧ w.grownBy w' (some g) := by
  have hc := pins_any l g cap 0 l.length w hw (by omega) h0 (Nat.le_refl _)
  obtain ⟨g1, g2, g3, g4⟩ := insAll_good l 0 hs (l.length - 0 - 1) (by omega)
  rw [show 0 + (l.length - 0 - 1) + 1 = l.length from by omega] at g1
  obtain ⟨r, hr⟩ : ∃ r, insAll l 0 (l.length - 0 - 1) = r := ⟨_, rfl⟩
  rw [hr] at hc g1 g2 g3
  have HC := hide hc
  have G1 := hide g1
  have G2 := hide g2
  have G3 := hide g3
  clear hc g1 g2 g3 g4 hr hw hs
  have k1 : (20 ≤ l.length) = False := by simp; omega
  have k2 : (20 < l.length) = False := by simp; omega
  have k3 : decide ((20 : Int) ≤ (l.length : Int)) = false := by simp; omega
  have k4 : decide ((20 : Int) < (l.length : Int)) = false := by simp; omega
  go_enter Tryz.func250, Tryz.ntmps250
  go_wp2
  go_loopw [7, 8] (fun av bv wr => av = .int .i64 0 ∧ bv = .int .i64 20 ∧ wr = w) (fun _ bv _ => (100 - intOf bv).toNat)
  case atStart => exact ⟨rfl, rfl, rfl⟩
  case round =>
    obtain ⟨rfl, rfl, rfl⟩ := hrel
    go_wp2_with fail
    refine HC.out.mono ?_
    rintro e w1 ⟨⟨v, rfl⟩, hw1, hg1⟩
    have HW1 := hide hw1
    clear hw1 HC
    go_wp2
    go_loopw [6, 7, 8] (fun kv av bv wr => kv = .int .i64 20 ∧ av = .int .i64 0 ∧ bv = .int .i64 20 ∧ wr = w1) (fun _ bv _ _ => (100 - intOf bv).toNat)
    case atStart => exact ⟨rfl, rfl, rfl, rfl⟩
    case round =>
      obtain ⟨rfl, rfl, rfl, rfl⟩ := hrel
      go_wp2
      go_end0
      exact ⟨⟨_, rfl⟩, ⟨r, G3.out, G2.out, G1.out, HW1.out⟩, hg1⟩
set_option maxRecDepth 100000 in
set_option maxHeartbeats 8000000 in
/-- slices.stableCmpFunc at 20 to 39 ways -/
theorem pst_more (l : List (Int × Int)) (g cap : Nat) (w : World) (hw : WaysAt w g l) (h0 : 20 ≤ l.length) (hl : l.length < 40) (hs : Stb l) :
    Calls Tryz.prog 250 #[.slice (some ⟨g, 0, none⟩) l.length cap, .int .i64 l.length, .func (.func 224) #[] #[]] w fun e w' => (∃ v, e = .returned v) ∧ (∃ r, r.Perm l ∧ Stb r ∧ Risen r 0 l.length ∧ WaysAt w' g r) ∧ w.grownBy w' (some g) := by
  have hc := pins_any l g cap 0 20 w hw (by omega) (by omega) h0
  obtain ⟨g1, g2, g3, g4⟩ := insAll_good l 0 hs (20 - 0 - 1) (by omega)
  obtain ⟨r, hr⟩ : ∃ r, insAll l 0 (20 - 0 - 1) = r := ⟨_, rfl⟩
  rw [hr] at hc g1 g2 g3
  have hrl := g3.length_eq
  have HC := hide hc
  have G1 : Hid (Risen r 0 20) := hide g1
  have G2 := hide g2
  have G3 := hide g3
  have HRL := hide hrl
  clear hc g1 g2 g3 g4 hr hw hs hrl
  have k1 : (20 ≤ l.length) = True := by simp; omega
  have k3 : decide ((20 : Int) ≤ (l.length : Int)) = true := by simp; omega
  have k5 : (40 ≤ l.length) = False := by simp; omega
  have k6 : decide ((40 : Int) ≤ (l.length : Int)) = false := by simp; omega
  have k7 : (40 < l.length) = False := by simp; omega
  have k8 : decide ((40 : Int) < (l.length : Int)) = false := by simp; omega
  go_enter Tryz.func250, Tryz.ntmps250
  go_wp2
  go_loopw [7, 8] (fun av bv wr => (av = .int .i64 0 ∧ bv = .int .i64 20 ∧ wr = w) ∨ (av = .int .i64 20 ∧ bv = .int .i64 40 ∧ WaysAt wr g r ∧ w.grownBy wr (some g))) (fun _ bv _ => (100 - intOf bv).toNat)
  case atStart => exact .inl ⟨rfl, rfl, rfl⟩
  case round =>
    rcases hrel with ⟨rfl, rfl, rfl⟩ | ⟨rfl, rfl, hwr, hgr⟩
    · go_wp2_with fail
      refine HC.out.mono ?_
      rintro e w1 ⟨⟨v, rfl⟩, hw1, hg1⟩
      have HW1 := hide hw1
      clear hw1 HC
      go_wp2
      exact ⟨.inr ⟨rfl, rfl, HW1.out, hg1⟩, by decide⟩
    · have HWR := hide hwr
      clear hwr
      by_cases c20 : l.length = 20
      · have hc2 := pins_none l.length g cap 20 (.func (.func 224) #[] #[]) wr (by omega)
        have hc3 : Calls Tryz.prog 266 #[.slice (some ⟨g, 0, none⟩) l.length cap, .int .i64 20, .int .i64 l.length, .func (.func 224) #[] #[]] wr fun e w' => (∃ v, e = .returned v) ∧ w' = wr := by
          rw [c20] at hc2 ⊢; exact hc2
        have HC3 := hide hc3
        have C20 := hide c20
        have k9 : (20 < l.length) = False := by simp; omega
        have k10 : decide ((20 : Int) < (l.length : Int)) = false := by simp; omega
        clear hc2 hc3 c20
        go_wp2_with fail
        refine HC3.out.mono ?_
        rintro e w1 ⟨⟨v, rfl⟩, rfl⟩
        clear HC HC3
        go_wp2
        go_loopw [6, 7, 8] (fun kv av bv wr => kv = .int .i64 20 ∧ av = .int .i64 20 ∧ bv = .int .i64 40 ∧ wr = w1) (fun _ bv _ _ => (100 - intOf bv).toNat)
        case atStart => exact ⟨rfl, rfl, rfl, rfl⟩
        case round =>
          obtain ⟨rfl, rfl, rfl, rfl⟩ := hrel
          go_wp2
          go_end0
          exact ⟨⟨_, rfl⟩, ⟨r, G3.out, G2.out, by rw [C20.out]; exact G1.out, HWR.out⟩, hgr⟩
      · have h20 : 20 < l.length := by omega
        have hc2 := pins_any r g cap 20 l.length wr HWR.out (by rw [HRL.out]; omega) h20 (by rw [HRL.out]; exact Nat.le_refl _)
        obtain ⟨q1, q2, q3, q4⟩ := insAll_good r 20 G2.out (l.length - 20 - 1) (by rw [HRL.out]; omega)
        rw [show 20 + (l.length - 20 - 1) + 1 = l.length from by omega] at q1
        obtain ⟨t, ht⟩ : ∃ t, insAll r 20 (l.length - 20 - 1) = t := ⟨_, rfl⟩
        rw [ht] at hc2 q1 q2 q3 q4
        have q5 : Risen t 0 20 := by
          intro i k i1 ik k1
          rw [q4 i (by omega), q4 k (by omega)]
          exact G1.out i k i1 ik k1
        have q6 := q3.length_eq
        rw [HRL.out] at q6 hc2
        have HC2 := hide hc2
        have Q1 := hide q1
        have Q2 := hide q2
        have Q3 := hide q3
        have Q5 := hide q5
        have Q6 := hide q6
        clear hc2 q1 q2 q3 q4 q5 q6 ht c20
        have k9 : (20 < l.length) = True := by simp; omega
        have k10 : decide ((20 : Int) < (l.length : Int)) = true := by simp; omega
        go_wp2_with fail
        refine HC2.out.mono ?_
        rintro e w1 ⟨⟨v, rfl⟩, hw1, hg1⟩
        have HW1 := hide hw1
        have hgr1 := grown_trans hgr hg1
        clear hw1 HC2 hgr hg1 HC HWR
        go_wp2
        go_loopw [6, 7, 8] (fun kv av bv wr => (kv = .int .i64 20 ∧ av = .int .i64 20 ∧ bv = .int .i64 40 ∧ wr = w1) ∨ (kv = .int .i64 40 ∧ av = .int .i64 0 ∧ bv = .int .i64 40 ∧ (∃ u, u.Perm l ∧ Stb u ∧ Risen u 0 l.length ∧ WaysAt wr g u) ∧ w.grownBy wr (some g))) (fun kv _ _ _ => (100 - intOf kv).toNat)
        case atStart => exact .inl ⟨rfl, rfl, rfl, rfl⟩
        case round =>
          rcases hrel with ⟨rfl, rfl, rfl, rfl⟩ | ⟨rfl, rfl, rfl, hu, hgu⟩
          · go_wp2
            go_loopw [7, 8] (fun av bv wr2 => av = .int .i64 0 ∧ bv = .int .i64 40 ∧ wr2 = wr) (fun _ bv _ => (100 - intOf bv).toNat)
            case atStart => exact ⟨rfl, rfl, rfl⟩
            case round =>
              obtain ⟨rfl, rfl, rfl⟩ := hrel
              have hc4 := psm_any l.length t g cap 0 20 l.length wr (by omega) HW1.out (by rw [Q6.out]; omega) (by omega) h20 (by rw [Q6.out]; exact Nat.le_refl _) Q2.out Q5.out Q1.out
              unfold SymSaid at hc4
              rw [Q6.out] at hc4
              have HC4 := hide hc4
              clear hc4
              go_wp2_with fail
              refine HC4.out.mono ?_
              rintro e w3 ⟨⟨v3, rfl⟩, ⟨u, hu1, hu2, hu3⟩, hg3⟩
              have HU : Hid (∃ u, u.Perm l ∧ Stb u ∧ Risen u 0 l.length ∧ WaysAt w3 g u) := hide ⟨u, (hu1.1.trans Q3.out).trans G3.out, hu1.2.1, hu2, hu3⟩
              have hgu := grown_trans hgr1 hg3
              clear hu1 hu2 hu3 hg3 HC4
              go_wp2
              exact ⟨.inr ⟨rfl, rfl, rfl, HU.out, hgu⟩, by decide⟩
          · have HU := hide hu
            clear hu
            go_wp2
            go_end0
            exact ⟨⟨_, rfl⟩, HU.out, hgu⟩
theorem pst_any (l : List (Int × Int)) (g cap : Nat) (w : World) (hw : WaysAt w g l) (h0 : 0 < l.length) (hl : l.length < 40) (hs : Stb l) :
    Calls Tryz.prog 250 #[.slice (some ⟨g, 0, none⟩) l.length cap, .int .i64 l.length, .func (.func 224) #[] #[]] w fun e w' => (∃ v, e = .returned v) ∧ (∃ r, r.Perm l ∧ Stb r ∧ Risen r 0 l.length ∧ WaysAt w' g r) ∧ w.grownBy w' (some g) := by
  by_cases h : l.length < 20
  · exact pst_few l g cap w hw h0 h hs
  · exact pst_more l g cap w hw (by omega) hl hs
/-- slices.SortStableFunc at ways -/
theorem psort_any (l : List (Int × Int)) (g cap : Nat) (w : World) (hw : WaysAt w g l) (h0 : 0 < l.length) (hl : l.length < 40) (hs : Stb l) :
    Calls Tryz.prog 223 #[.slice (some ⟨g, 0, none⟩) l.length cap, .func (.func 224) #[] #[]] w fun e w' => (∃ v, e = .returned v) ∧ (∃ r, r.Perm l ∧ Stb r ∧ Risen r 0 l.length ∧ WaysAt w' g r) ∧ w.grownBy w' (some g) := by
  have HC := hide (pst_any l g cap w hw h0 hl hs)
  clear hw hs
  go_enter Tryz.func223, Tryz.ntmps223
  go_wp2_with fail
  refine HC.out.mono ?_
  rintro e w1 ⟨⟨v, rfl⟩, hu, hg⟩
  have HU := hide hu
  clear hu
  go_wp2
  go_end0
  exact ⟨⟨_, rfl⟩, HU.out, hg⟩
end Go.Proofs.YtgohllfpceeboaaGreatDoor
