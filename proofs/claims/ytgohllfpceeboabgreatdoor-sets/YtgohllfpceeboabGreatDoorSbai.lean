import Derived.Test.YtgohllfpceeboabGreatDoorSbaa
import Derived.Test.YtgohllfpceeboabGreatDoorSbac
import Derived.Test.YtgohllfpceeboabGreatDoorSbad
import Derived.Test.YtgohllfpceeboabGreatDoorSbae
import Derived.Test.YtgohllfpceeboabGreatDoorSbag
import Derived.Test.YtgohllfpceeboabGreatDoorProg
import Derived.Test.YtgohllfpceeboabGreatDoorSbah
import Derived.Test.YtgohllfpceeboabGreatDoorSbab
import GoSem.Core.Utf8
import Derived.Lib.OthersKept
namespace Go.Proofs.YtgohllfpceeboabGreatDoor
open Go.RowKit
attribute [local go_sem ↓] Go.wp_at_zero Go.wp_at_succ
set_option maxRecDepth 100000 in
set_option maxHeartbeats 1000000 in
/-- insertion sort of nothing -/
theorem pins_none (n g cap a : Nat) (fv : Value) (w : World) (ha : a ≤ 1000) :
    Calls Tryz.prog 252 #[.slice (some ⟨g, 0, none⟩) n cap, .int .i64 a, .int .i64 a, fv] w fun e w' => (∃ v, e = .returned v) ∧ w' = w := by
  go_enter Tryz.func252, Tryz.ntmps252
  go_wp2
  go_loopw [8] (fun i wr => i = .int .i64 ((a : Int) + 1) ∧ wr = w) (fun i _ => (a - intOf i).toNat)
  case atStart => exact ⟨rfl, rfl⟩
  case round =>
    obtain ⟨rfl, rfl⟩ := hrel
    go_wp2
    go_end0
    exact ⟨⟨_, rfl⟩, rfl⟩
set_option maxRecDepth 100000 in
set_option maxHeartbeats 4000000 in
/-- slices.stableCmpFunc at fewer than 20 ways -/
theorem pst_few (l : List (Int × Int)) (g cap : Nat) (w : World) (hw : WaysAt w g l) (h0 : 0 < l.length) (hl : l.length < 20) (hs : Stb l) :
    Calls Tryz.prog 246 #[.slice (some ⟨g, 0, none⟩) l.length cap, .int .i64 l.length, .func (.func 233) #[] #[]] w fun e w' => (∃ v, e = .returned v) ∧ (∃ r, r.Perm l ∧ Stb r ∧ Risen r 0 l.length ∧ WaysAt w' g r) ∧ w.grownBy w' (some g) := by
  have hc := pins_any l g cap 0 l.length w hw (by omega) h0 (Nat.le_refl _)
  obtain ⟨g1, g2, g3, g4⟩ := insAll_good l 0 hs (l.length - 0 - 1) (by omega)
  rw [show 0 + (l.length - 0 - 1) + 1 = l.length from by omega] at g1
  obtain ⟨r, hr⟩ : ∃ r, insAll l 0 (l.length - 0 - 1) = r := ⟨_, rfl⟩
  rw [hr] at hc g1 g2 g3
  have HC := hide hc
  have G1 := hide g1
  have G2 := hide g2
  have G3 := hide g3
  clear hc g1 g2 g3 g4 hr hw hs
  have k1 : (20 ≤ l.length) = False := by simp; omega
  have k2 : (20 < l.length) = False := by simp; omega
  have k3 : decide ((20 : Int) ≤ (l.length : Int)) = false := by simp; omega
  have k4 : decide ((20 : Int) < (l.length : Int)) = false := by simp; omega
  go_enter Tryz.func246, Tryz.ntmps246
  go_wp2
  go_loopw [7, 8] (fun av bv wr => av = .int .i64 0 ∧ bv = .int .i64 20 ∧ wr = w) (fun _ bv _ => (100 - intOf bv).toNat)
  case atStart => exact ⟨rfl, rfl, rfl⟩
  case round =>
    obtain ⟨rfl, rfl, rfl⟩ := hrel
    go_wp2_with fail
    refine HC.out.mono ?_
    rintro e w1 ⟨⟨v, rfl⟩, hw1, hg1⟩
    have HW1 := hide hw1
    clear hw1 HC
    go_wp2
    go_loopw [6, 7, 8] (fun kv av bv wr => kv = .int .i64 20 ∧ av = .int .i64 0 ∧ bv = .int .i64 20 ∧ wr = w1) (fun _ bv _ _ => (100 - intOf bv).toNat)
    case atStart => exact ⟨rfl, rfl, rfl, rfl⟩
    case round =>
      obtain ⟨rfl, rfl, rfl, rfl⟩ := hrel
      go_wp2
      go_end0
      exact ⟨⟨_, rfl⟩, ⟨r, G3.out, G2.out, G1.out, HW1.out⟩, hg1⟩
set_option maxRecDepth 100000 in
set_option maxHeartbeats 8000000 in
/-- slices.stableCmpFunc at 20 to 39 ways -/
theorem pst_more (l : List (Int × Int)) (g cap : Nat) (w : World) (hw : WaysAt w g l) (h0 : 20 ≤ l.length) (hl : l.length < 40) (hs : Stb l) :
    Calls Tryz.prog 246 #[.slice (some ⟨g, 0, none⟩) l.length cap, .int .i64 l.length, .func (.func 233) #[] #[]] w fun e w' => (∃ v, e = .returned v) ∧ (∃ r, r.Perm l ∧ Stb r ∧ Risen r 0 l.length ∧ WaysAt w' g r) ∧ w.grownBy w' (some g) := by
  have hc := pins_any l g cap 0 20 w hw (by omega) (by omega) h0
  obtain ⟨g1, g2, g3, g4⟩ := insAll_good l 0 hs (20 - 0 - 1) (by omega)
  obtain ⟨r, hr⟩ : ∃ r, insAll l 0 (20 - 0 - 1) = r := ⟨_, rfl⟩
  rw [hr] at hc g1 g2 g3
  have hrl := g3.length_eq
  have HC := hide hc
  have G1 : Hid (Risen r 0 20) := hide g1
  have G2 := hide g2
  have G3 := hide g3
  have HRL := hide hrl
  clear hc g1 g2 g3 g4 hr hw hs hrl
  have k1 : (20 ≤ l.length) = True := by simp; omega
  have k3 : decide ((20 : Int) ≤ (l.length : Int)) = true := by simp; omega
  have k5 : (40 ≤ l.length) = False := by simp; omega
  have k6 : decide ((40 : Int) ≤ (l.length : Int)) = false := by simp; omega
  have k7 : (40 < l.length) = False := by simp; omega
  have k8 : decide ((40 : Int) < (l.length : Int)) = false := by simp; omega
  go_enter Tryz.func246, Tryz.ntmps246
  go_wp2
  go_loopw [7, 8] (fun av bv wr => (av = .int .i64 0 ∧ bv = .int .i64 20 ∧ wr = w) ∨ (av = .int .i64 20 ∧ bv = .int .i64 40 ∧ WaysAt wr g r ∧ w.grownBy wr (some g))) (fun _ bv _ => (100 - intOf bv).toNat)
  case atStart => exact .inl ⟨rfl, rfl, rfl⟩
  case round =>
    rcases hrel with ⟨rfl, rfl, rfl⟩ | ⟨rfl, rfl, hwr, hgr⟩
    · go_wp2_with fail
      refine HC.out.mono ?_
      rintro e w1 ⟨⟨v, rfl⟩, hw1, hg1⟩
      have HW1 := hide hw1
      clear hw1 HC
      go_wp2
      exact ⟨.inr ⟨rfl, rfl, HW1.out, hg1⟩, by decide⟩
    · have HWR := hide hwr
      clear hwr
      by_cases c20 : l.length = 20
      · have hc2 := pins_none l.length g cap 20 (.func (.func 233) #[] #[]) wr (by omega)
        have hc3 : Calls Tryz.prog 252 #[.slice (some ⟨g, 0, none⟩) l.length cap, .int .i64 20, .int .i64 l.length, .func (.func 233) #[] #[]] wr fun e w' => (∃ v, e = .returned v) ∧ w' = wr := by
          rw [c20] at hc2 ⊢; exact hc2
        have HC3 := hide hc3
        have C20 := hide c20
        have k9 : (20 < l.length) = False := by simp; omega
        have k10 : decide ((20 : Int) < (l.length : Int)) = false := by simp; omega
        clear hc2 hc3 c20
        go_wp2_with fail
        refine HC3.out.mono ?_
        rintro e w1 ⟨⟨v, rfl⟩, rfl⟩
        clear HC HC3
        go_wp2
        go_loopw [6, 7, 8] (fun kv av bv wr => kv = .int .i64 20 ∧ av = .int .i64 20 ∧ bv = .int .i64 40 ∧ wr = w1) (fun _ bv _ _ => (100 - intOf bv).toNat)
        case atStart => exact ⟨rfl, rfl, rfl, rfl⟩
        case round =>
          obtain ⟨rfl, rfl, rfl, rfl⟩ := hrel
          go_wp2
          go_end0
          exact ⟨⟨_, rfl⟩, ⟨r, G3.out, G2.out, by rw [C20.out]; exact G1.out, HWR.out⟩, hgr⟩
      · have h20 : 20 < l.length := by omega
        have hc2 := pins_any r g cap 20 l.length wr HWR.out (by rw [HRL.out]; omega) h20 (by rw [HRL.out]; exact Nat.le_refl _)
        obtain ⟨q1, q2, q3, q4⟩ := insAll_good r 20 G2.out (l.length - 20 - 1) (by rw [HRL.out]; omega)
        rw [show 20 + (l.length - 20 - 1) + 1 = l.length from by omega] at q1
        obtain ⟨t, ht⟩ : ∃ t, insAll r 20 (l.length - 20 - 1) = t := ⟨_, rfl⟩
        rw [ht] at hc2 q1 q2 q3 q4
        have q5 : Risen t 0 20 := by
          intro i k i1 ik k1
          rw [q4 i (by omega), q4 k (by omega)]
          exact G1.out i k i1 ik k1
        have q6 := q3.length_eq
        rw [HRL.out] at q6 hc2
        have HC2 := hide hc2
        have Q1 := hide q1
        have Q2 := hide q2
        have Q3 := hide q3
        have Q5 := hide q5
        have Q6 := hide q6
        clear hc2 q1 q2 q3 q4 q5 q6 ht c20
        have k9 : (20 < l.length) = True := by simp; omega
        have k10 : decide ((20 : Int) < (l.length : Int)) = true := by simp; omega
        go_wp2_with fail
        refine HC2.out.mono ?_
        rintro e w1 ⟨⟨v, rfl⟩, hw1, hg1⟩
        have HW1 := hide hw1
        have hgr1 := grown_trans hgr hg1
        clear hw1 HC2 hgr hg1 HC HWR
        go_wp2
        go_loopw [6, 7, 8] (fun kv av bv wr => (kv = .int .i64 20 ∧ av = .int .i64 20 ∧ bv = .int .i64 40 ∧ wr = w1) ∨ (kv = .int .i64 40 ∧ av = .int .i64 0 ∧ bv = .int .i64 40 ∧ (∃ u, u.Perm l ∧ Stb u ∧ Risen u 0 l.length ∧ WaysAt wr g u) ∧ w.grownBy wr (some g))) (fun kv _ _ _ => (100 - intOf kv).toNat)
        case atStart => exact .inl ⟨rfl, rfl, rfl, rfl⟩
        case round =>
          rcases hrel with ⟨rfl, rfl, rfl, rfl⟩ | ⟨rfl, rfl, rfl, hu, hgu⟩
          · go_wp2
            go_loopw [7, 8] (fun av bv wr2 => av = .int .i64 0 ∧ bv = .int .i64 40 ∧ wr2 = wr) (fun _ bv _ => (100 - intOf bv).toNat)
            case atStart => exact ⟨rfl, rfl, rfl⟩
            case round =>
              obtain ⟨rfl, rfl, rfl⟩ := hrel
              have hc4 := psm_any l.length t g cap 0 20 l.length wr (by omega) HW1.out (by rw [Q6.out]; omega) (by omega) h20 (by rw [Q6.out]; exact Nat.le_refl _) Q2.out Q5.out Q1.out
              unfold SymSaid at hc4
              rw [Q6.out] at hc4
              have HC4 := hide hc4
              clear hc4
              go_wp2_with fail
              refine HC4.out.mono ?_
              rintro e w3 ⟨⟨v3, rfl⟩, ⟨u, hu1, hu2, hu3⟩, hg3⟩
              have HU : Hid (∃ u, u.Perm l ∧ Stb u ∧ Risen u 0 l.length ∧ WaysAt w3 g u) := hide ⟨u, (hu1.1.trans Q3.out).trans G3.out, hu1.2.1, hu2, hu3⟩
              have hgu := grown_trans hgr1 hg3
              clear hu1 hu2 hu3 hg3 HC4
              go_wp2
              exact ⟨.inr ⟨rfl, rfl, rfl, HU.out, hgu⟩, by decide⟩
          · have HU := hide hu
            clear hu
            go_wp2
            go_end0
            exact ⟨⟨_, rfl⟩, HU.out, hgu⟩
theorem pst_any (l : List (Int × Int)) (g cap : Nat) (w : World) (hw : WaysAt w g l) (h0 : 0 < l.length) (hl : l.length < 40) (hs : Stb l) :
    Calls Tryz.prog 246 #[.slice (some ⟨g, 0, none⟩) l.length cap, .int .i64 l.length, .func (.func 233) #[] #[]] w fun e w' => (∃ v, e = .returned v) ∧ (∃ r, r.Perm l ∧ Stb r ∧ Risen r 0 l.length ∧ WaysAt w' g r) ∧ w.grownBy w' (some g) := by
  by_cases h : l.length < 20
  · exact pst_few l g cap w hw h0 h hs
  · exact pst_more l g cap w hw (by omega) hl hs
/-- slices.SortStableFunc at ways -/
theorem psort_any (l : List (Int × Int)) (g cap : Nat) (w : World) (hw : WaysAt w g l) (h0 : 0 < l.length) (hl : l.length < 40) (hs : Stb l) :
    Calls Tryz.prog 232 #[.slice (some ⟨g, 0, none⟩) l.length cap, .func (.func 233) #[] #[]] w fun e w' => (∃ v, e = .returned v) ∧ (∃ r, r.Perm l ∧ Stb r ∧ Risen r 0 l.length ∧ WaysAt w' g r) ∧ w.grownBy w' (some g) := by
  have HC := hide (pst_any l g cap w hw h0 hl hs)
  clear hw hs
  go_enter Tryz.func232, Tryz.ntmps232
  go_wp2_with fail
  refine HC.out.mono ?_
  rintro e w1 ⟨⟨v, rfl⟩, hu, hg⟩
  have HU := hide hu
  clear hu
  go_wp2
  go_end0
  exact ⟨⟨_, rfl⟩, HU.out, hg⟩
end Go.Proofs.YtgohllfpceeboabGreatDoor
/- Plain mathematics: the model's runes against the document's letters. -/
namespace Sx
open Go

theorem get_at (s : ByteArray) (i : Nat) (h : i < s.data.toList.length) : s.get! i = s.data.toList[i] := by
  have h2 : i < s.data.size := by simpa using h
  show s.data[i]! = _
  rw [getElem!_pos s.data i h2]
  simp

theorem contF_inv (m : Nat) (c : Int) (l : List UInt8) (j : Nat) (p : Int × List UInt8) (h : contF (m + 1) c (l.drop j) = some p) : ∃ hj : j < l.length, 128 ≤ l[j].toNat ∧ l[j].toNat < 192 ∧ contF m (c * 64 + l[j].toNat - 128) (l.drop (j + 1)) = some p := by
  by_cases hj : j < l.length
  · by_cases h1 : 128 ≤ l[j].toNat ∧ l[j].toNat < 192
    · exact ⟨hj, h1.1, h1.2, by rw [← contF_yes m c l j hj h1.1 h1.2]; exact h⟩
    · rw [contF_no m c l j hj h1] at h; cases h
  · rw [contF_end m c l j (by omega)] at h; cases h
theorem rest_inv (m : Nat) (c least : Int) (s : List UInt8) (c' : Int) (r : List UInt8) (h : rest m c least s = some (c', r)) : contF m c s = some (c', r) ∧ least ≤ c' ∧ c' ≤ 1114111 ∧ ¬ (55296 ≤ c' ∧ c' ≤ 57343) := by
  unfold rest at h
  split at h
  · cases h
  · rename_i c2 s2 hc
    split at h
    · cases h
    · rename_i hb
      simp only [Option.some.injEq, Prod.mk.injEq] at h
      obtain ⟨rfl, rfl⟩ := h
      exact ⟨hc, by omega, by omega, by omega⟩
theorem take_two (l : List UInt8) (i : Nat) (h : i + 1 < l.length) : (l.drop i).take 2 = [l[i], l[i + 1]] := by
  rw [drop_get l i (by omega), drop_get l (i + 1) h]; rfl
theorem take_three (l : List UInt8) (i : Nat) (h : i + 2 < l.length) : (l.drop i).take 3 = [l[i], l[i + 1], l[i + 2]] := by
  rw [drop_get l i (by omega), drop_get l (i + 1) (by omega), drop_get l (i + 2) h]; rfl
theorem take_four (l : List UInt8) (i : Nat) (h : i + 3 < l.length) : (l.drop i).take 4 = [l[i], l[i + 1], l[i + 2], l[i + 3]] := by
  rw [drop_get l i (by omega), drop_get l (i + 1) (by omega), drop_get l (i + 2) (by omega), drop_get l (i + 3) h]; rfl
theorem byte_is (x : UInt8) (n : Int) (h : n = x.toNat) : UInt8.ofNat n.toNat = x := by
  subst h; simp

theorem decode_one (s : ByteArray) (i : Nat) (c : Int) (r : List UInt8) (h : one (s.data.toList.drop i) = some (c, r)) :
    Utf8.decode s i = (c.toNat, s.data.toList.length - i - r.length) ∧ r = s.data.toList.drop (s.data.toList.length - r.length) ∧ i + r.length < s.data.toList.length ∧ 0 ≤ c ∧ c ≤ 1114111 ∧ ¬ (55296 ≤ c ∧ c ≤ 57343) ∧ utf c = (s.data.toList.drop i).take (s.data.toList.length - i - r.length) := by
  obtain ⟨l, hl⟩ : ∃ l, s.data.toList = l := ⟨_, rfl⟩
  have hsz : s.size = l.length := by rw [← hl]; simp
  by_cases hi : i < l.length
  · have hg : ∀ k (hk : i + k < l.length), s.get! (i + k) = l[i + k] := by
      intro k hk
      have := get_at s (i + k) (by rw [hl]; exact hk)
      rw [this]; simp [hl]
    rw [hl] at h ⊢
    rw [drop_get l i hi] at h
    simp only [one] at h
    have h0 := hg 0 (by omega)
    simp only [Nat.add_zero] at h0
    obtain ⟨x, hx⟩ : ∃ x, l[i] = x := ⟨_, rfl⟩
    rw [hx] at h h0
    have hxl := x.toNat_lt
    cases hlead : lead x with
    | none => rw [hlead] at h; cases h
    | some q =>
      obtain ⟨m, c0, least⟩ := q
      rw [hlead] at h
      obtain ⟨hcf, hle, hhi, hsur⟩ := rest_inv _ _ _ _ _ _ h
      unfold lead at hlead
      by_cases b1 : x.toNat < 128
      · rw [if_pos b1] at hlead
        simp only [Option.some.injEq, Prod.mk.injEq] at hlead
        obtain ⟨rfl, rfl, rfl⟩ := hlead
        simp only [contF, Option.some.injEq, Prod.mk.injEq] at hcf
        obtain ⟨rfl, rfl⟩ := hcf
        have hrl : (l.drop (i + 1)).length = l.length - (i + 1) := by simp
        rw [hrl, show l.length - i - (l.length - (i + 1)) = 1 from by omega, show l.length - (l.length - (i + 1)) = i + 1 from by omega]
        refine ⟨?_, rfl, by omega, by omega, by omega, hsur, ?_⟩
        · unfold Utf8.decode
          simp only [Nat.add_zero, h0, b1, if_true, Int.toNat_natCast]
        · rw [drop_get l i hi, hx]
          unfold utf; rw [if_pos (by omega)]; simp
      · rw [if_neg b1] at hlead
        by_cases b2 : 192 ≤ x.toNat ∧ x.toNat < 224
        · rw [if_pos b2] at hlead
          simp only [Option.some.injEq, Prod.mk.injEq] at hlead
          obtain ⟨rfl, rfl, rfl⟩ := hlead
          obtain ⟨hj1, y1, y2, hcf⟩ := contF_inv _ _ _ _ _ hcf
          have h1 := hg 1 hj1
          obtain ⟨y, hy⟩ : ∃ y, l[i + 1] = y := ⟨_, rfl⟩
          rw [hy] at y1 y2 hcf h1
          simp only [contF, Option.some.injEq, Prod.mk.injEq] at hcf
          obtain ⟨hc, rfl⟩ := hcf
          have hrl : (l.drop (i + 1 + 1)).length = l.length - (i + 2) := by simp
          rw [hrl, show l.length - i - (l.length - (i + 2)) = 2 from by omega, show l.length - (l.length - (i + 2)) = i + 1 + 1 from by omega]
          refine ⟨?_, rfl, by omega, by omega, by omega, hsur, ?_⟩
          · unfold Utf8.decode
            have a1 : ¬ x.toNat < 128 := b1
            have a2 : (x.toNat / 32 == 6) = true := by rw [beq_iff_eq]; omega
            have a3 : decide (i + 1 < s.size) = true := by simp; omega
            have a4 : (y.toNat / 64 == 2) = true := by rw [beq_iff_eq]; omega
            simp only [Nat.add_zero, h0, h1, a1, a2, a3, a4, if_false, Bool.and_self, if_true]
            rw [if_pos (by omega)]
            congr 1
            omega
          · rw [take_two l i hj1, hx, hy]
            unfold utf
            rw [if_neg (by omega), if_pos (by omega), byte_is x _ (by omega), byte_is y _ (by omega)]
        · rw [if_neg b2] at hlead
          by_cases b3 : 224 ≤ x.toNat ∧ x.toNat < 240
          · rw [if_pos b3] at hlead
            simp only [Option.some.injEq, Prod.mk.injEq] at hlead
            obtain ⟨rfl, rfl, rfl⟩ := hlead
            obtain ⟨hj1, y1, y2, hcf⟩ := contF_inv _ _ _ _ _ hcf
            obtain ⟨hj2, z1, z2, hcf⟩ := contF_inv _ _ _ _ _ hcf
            have h1 := hg 1 hj1
            have h2 := hg 2 hj2
            obtain ⟨y, hy⟩ : ∃ y, l[i + 1] = y := ⟨_, rfl⟩
            obtain ⟨z, hz⟩ : ∃ z, l[i + 1 + 1] = z := ⟨_, rfl⟩
            rw [hy] at y1 y2 hcf h1
            rw [hz] at z1 z2 hcf
            have h2' : s.get! (i + 2) = z := by rw [h2, ← hz]
            simp only [contF, Option.some.injEq, Prod.mk.injEq] at hcf
            obtain ⟨hc, rfl⟩ := hcf
            have hrl : (l.drop (i + 1 + 1 + 1)).length = l.length - (i + 3) := by simp
            rw [hrl, show l.length - i - (l.length - (i + 3)) = 3 from by omega, show l.length - (l.length - (i + 3)) = i + 1 + 1 + 1 from by omega]
            refine ⟨?_, rfl, by omega, by omega, by omega, hsur, ?_⟩
            · unfold Utf8.decode
              have a1 : ¬ x.toNat < 128 := b1
              have a2 : (x.toNat / 32 == 6) = false := by simp only [beq_eq_false_iff_ne, ne_eq]; omega
              have a2' : (x.toNat / 16 == 14) = true := by rw [beq_iff_eq]; omega
              have a3 : decide (i + 1 < s.size) = true := by simp; omega
              have a3' : decide (i + 2 < s.size) = true := by simp; omega
              have a4 : (y.toNat / 64 == 2) = true := by rw [beq_iff_eq]; omega
              have a5 : (z.toNat / 64 == 2) = true := by rw [beq_iff_eq]; omega
              simp only [Nat.add_zero, h0, h1, h2', a1, a2, a2', a3, a3', a4, a5, if_false, Bool.and_self, Bool.false_and, Bool.false_eq_true, if_true]
              have e : ((x.toNat % 16) * 4096 + (y.toNat % 64) * 64 + z.toNat % 64 : Nat) = c.toNat := by omega
              rw [e]
              have v : Utf8.valid (c.toNat : Int) = true := by
                unfold Utf8.valid
                rw [show ((c.toNat : Nat) : Int) = c from by omega]
                simp; omega
              rw [v, if_pos (by simp; omega)]
            · rw [take_three l i (by omega), hx, hy, show l[i + 2] = z from hz]
              unfold utf
              rw [if_neg (by omega), if_neg (by omega), if_pos (by omega), byte_is x _ (by omega), byte_is y _ (by omega), byte_is z _ (by omega)]
          · rw [if_neg b3] at hlead
            by_cases b4 : 240 ≤ x.toNat ∧ x.toNat < 248
            · rw [if_pos b4] at hlead
              simp only [Option.some.injEq, Prod.mk.injEq] at hlead
              obtain ⟨rfl, rfl, rfl⟩ := hlead
              obtain ⟨hj1, y1, y2, hcf⟩ := contF_inv _ _ _ _ _ hcf
              obtain ⟨hj2, z1, z2, hcf⟩ := contF_inv _ _ _ _ _ hcf
              obtain ⟨hj3, v1, v2, hcf⟩ := contF_inv _ _ _ _ _ hcf
              have h1 := hg 1 hj1
              have h2 := hg 2 hj2
              have h3 := hg 3 hj3
              obtain ⟨y, hy⟩ : ∃ y, l[i + 1] = y := ⟨_, rfl⟩
              obtain ⟨z, hz⟩ : ∃ z, l[i + 1 + 1] = z := ⟨_, rfl⟩
              obtain ⟨v, hv⟩ : ∃ v, l[i + 1 + 1 + 1] = v := ⟨_, rfl⟩
              rw [hy] at y1 y2 hcf h1
              rw [hz] at z1 z2 hcf
              rw [hv] at v1 v2 hcf
              have h2' : s.get! (i + 2) = z := by rw [h2, ← hz]
              have h3' : s.get! (i + 3) = v := by rw [h3, ← hv]
              simp only [contF, Option.some.injEq, Prod.mk.injEq] at hcf
              obtain ⟨hc, rfl⟩ := hcf
              have hrl : (l.drop (i + 1 + 1 + 1 + 1)).length = l.length - (i + 4) := by simp
              rw [hrl, show l.length - i - (l.length - (i + 4)) = 4 from by omega, show l.length - (l.length - (i + 4)) = i + 1 + 1 + 1 + 1 from by omega]
              refine ⟨?_, rfl, by omega, by omega, by omega, hsur, ?_⟩
              · unfold Utf8.decode
                have a1 : ¬ x.toNat < 128 := b1
                have a2 : (x.toNat / 32 == 6) = false := by simp only [beq_eq_false_iff_ne, ne_eq]; omega
                have a2' : (x.toNat / 16 == 14) = false := by simp only [beq_eq_false_iff_ne, ne_eq]; omega
                have a2'' : (x.toNat / 8 == 30) = true := by rw [beq_iff_eq]; omega
                have a3 : decide (i + 1 < s.size) = true := by simp; omega
                have a3' : decide (i + 2 < s.size) = true := by simp; omega
                have a3'' : decide (i + 3 < s.size) = true := by simp; omega
                have a4 : (y.toNat / 64 == 2) = true := by rw [beq_iff_eq]; omega
                have a5 : (z.toNat / 64 == 2) = true := by rw [beq_iff_eq]; omega
                have a6 : (v.toNat / 64 == 2) = true := by rw [beq_iff_eq]; omega
                simp only [Nat.add_zero, h0, h1, h2', h3', a1, a2, a2', a2'', a3, a3', a3'', a4, a5, a6, if_false, Bool.and_self, Bool.false_and, Bool.false_eq_true, if_true]
                have e : ((x.toNat % 8) * 262144 + (y.toNat % 64) * 4096 + (z.toNat % 64) * 64 + v.toNat % 64 : Nat) = c.toNat := by omega
                rw [e]
                have vv : Utf8.valid (c.toNat : Int) = true := by
                  unfold Utf8.valid
                  rw [show ((c.toNat : Nat) : Int) = c from by omega]
                  simp; omega
                rw [vv, if_pos (by simp; omega)]
              · rw [take_four l i (by omega), hx, hy, show l[i + 2] = z from hz, show l[i + 3] = v from hv]
                unfold utf
                rw [if_neg (by omega), if_neg (by omega), if_neg (by omega), byte_is x _ (by omega), byte_is y _ (by omega), byte_is z _ (by omega), byte_is v _ (by omega)]
            · rw [if_neg b4] at hlead
              cases hlead
  · rw [hl, List.drop_eq_nil_of_le (by omega)] at h
    simp [one] at h
end Sx
namespace Sx
theorem letters_next (s : List UInt8) (pos : Nat) (l : List Int) (h : letters (s.drop pos) = some l) (hp : pos < s.length) : ∃ c r l', one (s.drop pos) = some (c, r) ∧ l = c :: l' ∧ letters r = some l' := by
  cases ho : one (s.drop pos) with
  | none => rw [letters_none _ (by intro e; have := congrArg List.length e; simp at this; omega) ho] at h; cases h
  | some p =>
    obtain ⟨c, r⟩ := p
    rw [letters_some _ _ _ ho] at h
    rw [Option.map_eq_some_iff] at h
    obtain ⟨l', h1, h2⟩ := h
    exact ⟨c, r, l', rfl, h2.symm, h1⟩
/-- One step over a text that is UTF-8. -/
theorem step_rune (s : ByteArray) (pos : Nat) (l : List Int) (h : letters (s.data.toList.drop pos) = some l) (hp : pos < s.size) : ∃ (c : Int) (n : Nat) (l' : List Int), Go.Utf8.decode s pos = (c.toNat, n) ∧ l = c :: l' ∧ 0 ≤ c ∧ c ≤ 1114111 ∧ ¬ (55296 ≤ c ∧ c ≤ 57343) ∧ 1 ≤ n ∧ pos + n ≤ s.size ∧ letters (s.data.toList.drop (pos + n)) = some l' ∧ utf c = (s.data.toList.drop pos).take n := by
  have hl : s.data.toList.length = s.size := by simp
  obtain ⟨c, r, l', h1, h2, h3⟩ := letters_next _ _ _ h (by omega)
  obtain ⟨d1, d2, d3, d4, d5, d6, d7⟩ := decode_one s pos c r h1
  refine ⟨c, _, l', d1, h2, d4, d5, d6, by omega, by omega, ?_, d7⟩
  rw [show pos + (s.data.toList.length - pos - r.length) = s.data.toList.length - r.length from by omega, ← d2]
  exact h3
end Sx
namespace Go.Proofs.YtgohllfpceeboabGreatDoor
open Go.RowKit

/-- Where an iterator over a text stands. -/
def itPos (w : World) (k : Nat) : Nat := match w.heap[k]? with
  | some (.stringIter _ p) => p
  | _ => 0
theorem itPos_of {w : World} {k : Nat} {s : ByteArray} {p : Nat} (h : w.heap[k]? = some (.stringIter s p)) : itPos w k = p := by unfold itPos; rw [h]
theorem next_rune (W : World) (K : Nat) (s : ByteArray) (pos n : Nat) (c : Int) (hk : W.heap[K]? = some (.stringIter s pos)) (hp : pos < s.size) (hd : Go.Utf8.decode s pos = (c.toNat, n)) (h0 : 0 ≤ c) : ∀ ty, (Instr.next (.pointer (some ⟨K, 0, none⟩)) true ty).run Tryz.prog W = .ok (.tuple #[.bool true, .int .i64 pos, .int .i32 c]) (W.iterAt K s (pos + n)) := by
  intro ty
  have := Lib.run_next_any_at (P := Tryz.prog) W K s pos ty hk hp
  rw [hd] at this
  rw [this]
  show Result.ok (Value.tuple #[.bool true, .int .i64 pos, .int .i32 ((c.toNat : Nat) : Int)]) (W.iterAt K s (pos + n)) = _
  rw [Int.toNat_of_nonneg h0]

set_option maxRecDepth 100000 in
set_option maxHeartbeats 1000000 in
/-- strings.indexFunc, of a text that is UTF-8, with code.IsForeign -/
theorem pif0_any (s : ByteArray) (l : List Int) (w : World) (hl : Sx.letters s.data.toList = some l) (hs : s.size ≤ 1000000) :
    Calls Tryz.prog 230 #[.string s, .func (.func 132) #[] #[], .bool true] w fun e w' => (∃ n : Int, e = .returned (.int .i64 n) ∧ (0 ≤ n ↔ l.any (fun c => decide (128 ≤ c)) = true) ∧ -1 ≤ n) ∧ Below w.heap.size w w' := by
  have HL := hide hl
  clear hl
  go_enter Tryz.func230, Tryz.ntmps230
  go_wp2
  go_loopw [] (fun wr => ∃ (pos : Nat) (l' : List Int), wr.heap[w.heap.size]? = some (.stringIter s pos) ∧ pos ≤ s.size ∧ Sx.letters (s.data.toList.drop pos) = some l' ∧ l.any (fun c => decide (128 ≤ c)) = l'.any (fun c => decide (128 ≤ c)) ∧ Below w.heap.size w wr) (fun wr => s.size - itPos wr w.heap.size)
  case atStart => exact ⟨0, l, World.iter_heap w s 0, by omega, by rw [List.drop_zero]; exact HL.out, rfl, (Below.refl _ _).alloc (Nat.le_refl _) _⟩
  case round =>
    obtain ⟨pos, l', hk, hps, hq, hany, hB⟩ := hrel
    have HQ := hide hq
    have HANY := hide hany
    have HK := hide hk
    clear hq hany
    by_cases hp : pos < s.size
    · obtain ⟨c, n, l2, hd, hl2, hc0, hc1, hsur, hn1, hn2, hq2, _⟩ := Sx.step_rune s pos l' HQ.out hp
      have hnx := next_rune wr w.heap.size s pos n c hk hp hd hc0
      subst hl2
      have HQ2 := hide hq2
      clear hd hq2 hk
      by_cases h128 : 128 ≤ c
      · have hb : decide (128 ≤ c) = true := by simpa using h128
        go_wp2_with (go_at_call 132; go_must (refine (pfor_any _ _).mono ?_; rintro e w' ⟨rfl, rfl⟩; rw [hb]))
        go_ret
        exact ⟨⟨pos, rfl, by rw [HANY.out]; simp [h128], by omega⟩, Lib.below_iterAt hB (Nat.le_refl _) _ _⟩
      · have hb : decide (128 ≤ c) = false := by simpa using h128
        have HST := hide (show ((c :: l2).any fun c => decide (128 ≤ c)) = l2.any (fun c => decide (128 ≤ c)) by rw [List.any_cons, hb]; rfl)
        go_wp2_with (go_at_call 132; go_must (refine (pfor_any _ _).mono ?_; rintro e w' ⟨rfl, rfl⟩; rw [hb]))
        exact ⟨⟨pos + n, l2, Lib.iterAt_heap wr _ s pos (pos + n) HK.out, by omega, HQ2.out, by rw [HANY.out, HST.out], Lib.below_iterAt hB (Nat.le_refl _) _ _⟩, by rw [itPos_of (Lib.iterAt_heap wr _ s pos (pos + n) HK.out), itPos_of HK.out]; omega⟩
    · have hnx := fun ty => Lib.run_next_end_at (P := Tryz.prog) wr w.heap.size s pos ty hk hp
      have hl' : l' = [] := by
        have := HQ.out
        rw [List.drop_eq_nil_of_le (by rw [ba_len]; omega), Sx.letters_nil] at this
        cases this; rfl
      have HL' := hide hl'
      clear hl' hk
      go_wp2
      go_ret
      exact ⟨⟨-1, rfl, by rw [HANY.out, HL'.out]; simp, by omega⟩, hB⟩

/-- strings.IndexFunc, likewise -/
theorem pif_any (s : ByteArray) (l : List Int) (w : World) (hl : Sx.letters s.data.toList = some l) (hs : s.size ≤ 1000000) :
    Calls Tryz.prog 187 #[.string s, .func (.func 132) #[] #[]] w fun e w' => (∃ n : Int, e = .returned (.int .i64 n) ∧ (0 ≤ n ↔ l.any (fun c => decide (128 ≤ c)) = true) ∧ -1 ≤ n) ∧ Below w.heap.size w w' := by
  have HP := hide (pif0_any s l w hl hs)
  clear hl
  go_enter Tryz.func187, Tryz.ntmps187
  go_wp2_with (go_at_call 230; go_must (refine HP.out.mono ?_; rintro e w' ⟨⟨n, rfl, hn, hn1⟩, hB⟩; have HN := hide hn; clear hn))
  go_ret
  exact ⟨⟨n, rfl, HN.out, hn1⟩, hB⟩
/-- strings.ContainsFunc, likewise -/
theorem pcf_any (s : ByteArray) (l : List Int) (w : World) (hl : Sx.letters s.data.toList = some l) (hs : s.size ≤ 1000000) :
    Calls Tryz.prog 131 #[.string s, .func (.func 132) #[] #[]] w fun e w' => e = .returned (.bool (l.any fun c => decide (128 ≤ c))) ∧ Below w.heap.size w w' := by
  have HP := hide (pif_any s l w hl hs)
  clear hl
  go_enter Tryz.func131, Tryz.ntmps131
  go_wp2_with (go_at_call 187; go_must (refine HP.out.mono ?_; rintro e w' ⟨⟨n, rfl, hn, hn1⟩, hB⟩; have HN := hide hn; clear hn))
  go_ret
  exact ⟨ret_bool (by rw [Bool.eq_iff_iff, ← HN.out]; simp), hB⟩

/-- Small letters in the place of great ones. -/
def lowB (c : UInt8) : UInt8 := if 65 ≤ c.toNat ∧ c.toNat ≤ 90 then UInt8.ofNat (c.toNat + 32) else c
/-- Bytes that lie in a block, and may be written. -/
def ByAt (W : World) (b : Nat) (l : List UInt8) : Prop := b < W.heap.size ∧ ∀ j (h : j < l.length), W.cell? ⟨b, j, none⟩ = some (.int .u8 l[j].toNat) ∧ W.frozen? ⟨b, j, none⟩ = false
theorem ByAt.set {W : World} {b : Nat} {l : List UInt8} (h : ByAt W b l) (k : Nat) (hk : k < l.length) (x : UInt8) : ByAt (W.setCell ⟨b, k, none⟩ (.int .u8 x.toNat)) b (l.set k x) := by
  refine ⟨by rw [World.size_setCell]; exact h.1, fun j hj => ?_⟩
  have hj2 : j < l.length := by simpa using hj
  refine ⟨?_, (World.frozen?_setCell ..).trans (h.2 j hj2).2⟩
  by_cases e : k = j
  · subst e
    rw [World.cell?_setCell_same _ _ _ (h.2 k hk).1]; simp
  · rw [World.cell?_setCell_other _ _ _ _ (by simp), (h.2 j hj2).1]
    simp [e]
theorem bytes_new (w : World) (s : ByteArray) (cap : Nat) (n : Nat) (hn : s.size ≤ n) : ByAt (w.drew.alloc (.cells (bytesRow s cap) 5 (n, n + 1))) w.heap.size s.data.toList := by
  refine ⟨by simp, fun j hj => ⟨?_, ?_⟩⟩
  · have hj2 : j < s.data.size := by simpa using hj
    have := World.cell?_alloc_mark w.drew (bytesRow s cap) 5 (n, n + 1) j
    rw [show w.drew.heap.size = w.heap.size from rfl] at this
    rw [this, bytesRow_at s cap j hj2]
    simp
  · have := World.frozen?_alloc_mark w.drew (bytesRow s cap) 5 n (n + 1) j
    rw [show w.drew.heap.size = w.heap.size from rfl] at this
    rw [this]
    have : j < s.size := by simpa using hj
    simp; omega
theorem by_string {W : World} {b cap : Nat} {l : List UInt8} (h : ByAt W b l) : (convert 90 9 (.slice (some ⟨b, 0, none⟩) l.length cap)).run Tryz.prog W = .ok (.string ⟨l.toArray⟩) W :=
  run_convert_bytes_back (P := Tryz.prog) W 90 9 5 ⟨b, 0, none⟩ cap l Tryz.underlying90 Tryz.underlying5 Tryz.underlying9 (fun j hj => by
    rw [Addr.add_lit, Nat.zero_add]; exact (h.2 j hj).1)
def lowTo (s : List UInt8) (k : Nat) : List UInt8 := (s.take k).map lowB ++ s.drop k
theorem lowTo_len (s : List UInt8) (k : Nat) (h : k ≤ s.length) : (lowTo s k).length = s.length := by simp [lowTo]; omega
theorem lowTo_get (s : List UInt8) (k : Nat) (h : k < s.length) (h2 : k < (lowTo s k).length) : (lowTo s k)[k] = s[k] := by
  simp only [lowTo]
  rw [List.getElem_append_right (by simp; omega)]
  simp [show min k s.length = k from by omega]
theorem lowTo_same (s : List UInt8) (k : Nat) (h : k < s.length) (hl : lowB s[k] = s[k]) : lowTo s (k + 1) = lowTo s k := by
  simp only [lowTo]
  rw [List.take_succ_eq_append_getElem h, List.map_append, List.append_assoc, List.drop_eq_getElem_cons h]
  simp [hl]
theorem lowTo_set (s : List UInt8) (k : Nat) (h : k < s.length) : lowTo s (k + 1) = (lowTo s k).set k (lowB s[k]) := by
  simp only [lowTo]
  rw [List.take_succ_eq_append_getElem h, List.map_append, List.append_assoc, List.set_append]
  simp [show min k s.length = k from by omega]
  rw [List.drop_eq_getElem_cons h]; rfl

set_option maxRecDepth 100000 in
set_option maxHeartbeats 1000000 in
/-- suffix.withSmallLetters -/
theorem pws_any (s : ByteArray) (w : World) (hs : s.size ≤ 1000000) : Calls Tryz.prog 130 #[.string s] w fun e w' => e = .returned (.string ⟨(s.data.toList.map lowB).toArray⟩) ∧ Below w.heap.size w w' := by
  have hcv := run_bytes_of_string (P := Tryz.prog) w 9 90 5 s Tryz.underlying9 Tryz.underlying90 Tryz.underlying5
  obtain ⟨cap, hcap⟩ : ∃ cap, grownCap w s.size 0 5 = cap := ⟨_, rfl⟩
  rw [hcap] at hcv
  have hnew := bytes_new w s cap (bytesRow s cap).size (by simp [bytesRow])
  have hBel : Below w.heap.size w (w.drew.alloc (.cells (bytesRow s cap) 5 ((bytesRow s cap).size, (bytesRow s cap).size + 1))) := ((Below.refl w.heap.size w).drew).alloc (Nat.le_refl _) _
  obtain ⟨W0, hW0⟩ : ∃ W0, (w.drew.alloc (.cells (bytesRow s cap) 5 ((bytesRow s cap).size, (bytesRow s cap).size + 1))) = W0 := ⟨_, rfl⟩
  rw [hW0] at hcv hnew hBel
  have HNEW := hide hnew
  clear hW0 hcap hnew
  go_enter Tryz.func130, Tryz.ntmps130
  go_wp2
  go_loopw [10] (fun i wr => ∃ k : Nat, i = .int .i64 k ∧ k ≤ s.size ∧ ByAt wr w.heap.size (lowTo s.data.toList k) ∧ Below w.heap.size w wr) (fun i _ => (s.size - intOf i).toNat)
  case atStart => exact ⟨0, rfl, by omega, by simpa [lowTo] using HNEW.out, hBel⟩
  case round =>
    obtain ⟨k, rfl, hk, hby, hB⟩ := hrel
    have hll : (lowTo s.data.toList k).length = s.size := by rw [lowTo_len _ _ (by rw [ba_len]; exact hk), ba_len]
    have HBY := hide hby
    have HLL := hide hll
    clear hby hll hcv
    by_cases hlt : k < s.size
    · have hlt2 : k < s.data.toList.length := by rw [ba_len]; exact hlt
      have hk3 : k < (lowTo s.data.toList k).length := by rw [HLL.out]; exact hlt
      obtain ⟨hc, hf⟩ := HBY.out.2 k hk3
      rw [lowTo_get _ _ hlt2, byte_at s k hlt hlt2] at hc
      obtain ⟨x, hx⟩ : ∃ x, s[k] = x := ⟨_, rfl⟩
      rw [hx] at hc
      have hxx : s.data.toList[k] = x := by rw [byte_at s k hlt hlt2, hx]
      have HXX := hide hxx
      have hxl := x.toNat_lt
      clear hx hxx
      by_cases a1 : 65 ≤ x.toNat
      · by_cases a2 : x.toNat ≤ 90
        · have hlow : lowB x = UInt8.ofNat (x.toNat + 32) := by unfold lowB; rw [if_pos ⟨a1, a2⟩]
          have hlw : ((lowB x).toNat : Int) = (x.toNat : Int) - 65 + 97 := by rw [hlow]; simp only [UInt8.toNat_ofNat']; omega
          have HLW := hide hlw
          clear hlow hlw
          go_wp2
          rw [← HLW.out]
          exact ⟨⟨k + 1, by go_num, by omega, by rw [lowTo_set _ _ hlt2, HXX.out]; exact HBY.out.set k hk3 (lowB x), hB.setCell (p := ⟨w.heap.size, k, none⟩) (Nat.le_refl _) _⟩, by simp [intOf]; omega⟩
        · have hlow : lowB s.data.toList[k] = s.data.toList[k] := by rw [HXX.out]; unfold lowB; rw [if_neg (by omega)]
          have HLOW := hide hlow
          clear hlow
          go_wp2
          exact ⟨⟨k + 1, by go_num, by omega, by rw [lowTo_same _ _ hlt2 HLOW.out]; exact HBY.out, hB⟩, by simp [intOf]; omega⟩
      · have hlow : lowB s.data.toList[k] = s.data.toList[k] := by rw [HXX.out]; unfold lowB; rw [if_neg (by omega)]
        have HLOW := hide hlow
        clear hlow
        go_wp2
        exact ⟨⟨k + 1, by go_num, by omega, by rw [lowTo_same _ _ hlt2 HLOW.out]; exact HBY.out, hB⟩, by simp [intOf]; omega⟩
    · have hks : k = s.size := by omega
      have hfin : lowTo s.data.toList k = s.data.toList.map lowB := by
        unfold lowTo; rw [List.take_of_length_le (by rw [ba_len]; omega), List.drop_eq_nil_of_le (by rw [ba_len]; omega)]; simp
      have hcs := by_string (cap := cap) HBY.out
      rw [HLL.out] at hcs
      rw [hfin] at hcs
      clear hks hfin
      go_wp2
      go_ret
      exact ⟨rfl, hB⟩
end Go.Proofs.YtgohllfpceeboabGreatDoor
namespace Go.Proofs.YtgohllfpceeboabGreatDoor
open Go.RowKit

/-- Runes that lie in a block. -/
def RuAt (W : World) (b : Nat) (l : List Int) : Prop := b < W.heap.size ∧ ∀ j (_ : j < l.length), W.cell? ⟨b, j, none⟩ = some (.int .i32 l[j])
set_option maxRecDepth 100000 in
set_option maxHeartbeats 400000 in
/-- code.standingAhead -/
theorem psa_any (l : List Int) (b k cap : Nat) (c : Int) (w : World) (hr : RuAt w b l) (hk : k ≤ l.length) (hl : l.length ≤ 1000) :
    Calls Tryz.prog 231 #[.slice (some ⟨b, 0, none⟩) k cap, .int .i32 c] w fun e w' => e = .returned (.int .i64 ((l.take k).countP fun x => decide (x ≤ c))) ∧ w' = w := by
  have HR := hide hr
  clear hr
  go_enter Tryz.func231, Tryz.ntmps231
  go_wp2
  go_loop [5, 10] (fun n i => ∃ (j m : Nat), n = .int .i64 m ∧ i = .int .i64 j ∧ j ≤ k ∧ m ≤ j ∧ (l.take j).countP (fun x => decide (x ≤ c)) = m) (fun _ i => (k - intOf i).toNat)
  case atStart => exact ⟨0, 0, rfl, rfl, by omega, by omega, by simp⟩
  case round =>
    obtain ⟨j, m, rfl, rfl, hj, hm, hq⟩ := hrel
    have HQ := hide hq
    clear hq
    by_cases hlt : j < k
    · have hlt2 : j < l.length := by omega
      have hc := HR.out.2 j hlt2
      have hst : (l.take (j + 1)).countP (fun x => decide (x ≤ c)) = m + if l[j] ≤ c then 1 else 0 := by
        rw [List.take_succ_eq_append_getElem hlt2, List.countP_append, HQ.out, List.countP_cons, List.countP_nil]
        simp
      obtain ⟨x, hx⟩ : ∃ x, l[j] = x := ⟨_, rfl⟩
      rw [hx] at hc hst
      have HST := hide hst
      clear hst hx
      by_cases hxc : x ≤ c
      · go_wp2
        go_round
        case rel => exact ⟨j + 1, m + 1, by go_num, by go_num, by omega, by omega, by rw [HST.out]; simp; omega⟩
        case measure => simp [intOf]; omega
      · go_wp2
        go_round
        case rel => exact ⟨j + 1, m, rfl, by go_num, by omega, by omega, by rw [HST.out]; simp; omega⟩
        case measure => simp [intOf]; omega
    · have hjk : j = k := by omega
      subst hjk
      go_wp2
      go_ret
      exact ⟨ret_int (by rw [HQ.out]), rfl⟩

def okRune (c : Int) : Bool := isPl c || decide (128 ≤ c)
set_option maxRecDepth 100000 in
set_option maxHeartbeats 1000000 in
/-- (suffix.label).hasLettersOnly -/
theorem plo_any (s t : ByteArray) (l : List Int) (w : World) (hl : Sx.letters s.data.toList = some l) (hs : s.size ≤ 1000000) :
    Calls Tryz.prog 135 #[.agg #[.string s, .string t]] w fun e w' => e = .returned (.bool (l.all okRune)) ∧ Below w.heap.size w w' := by
  have HL := hide hl
  clear hl
  go_enter Tryz.func135, Tryz.ntmps135
  have hB0 : Below w.heap.size w ((w.alloc (.cells #[.string s, .string t] 69)).iter s 0) := ((Below.refl _ _).alloc (Nat.le_refl _) _).alloc (by simp) _
  have hk0 := World.iter_heap (w.alloc (.cells #[.string s, .string t] 69)) s 0
  rw [World.size_alloc] at hk0
  go_wp2
  go_loopw [] (fun wr => ∃ (pos : Nat) (l' : List Int), wr.heap[w.heap.size + 1]? = some (.stringIter s pos) ∧ pos ≤ s.size ∧ Sx.letters (s.data.toList.drop pos) = some l' ∧ l.all okRune = l'.all okRune ∧ Below w.heap.size w wr) (fun wr => s.size - itPos wr (w.heap.size + 1))
  case atStart => exact ⟨0, l, hk0, by omega, by rw [List.drop_zero]; exact HL.out, rfl, hB0⟩
  case round =>
    obtain ⟨pos, l', hk, hps, hq, hany, hB⟩ := hrel
    have HQ := hide hq
    have HANY := hide hany
    have HK := hide hk
    clear hq hany hB0 hk0
    by_cases hp : pos < s.size
    · obtain ⟨c, n, l2, hd, hl2, hc0, hc1, hsur, hn1, hn2, hq2, _⟩ := Sx.step_rune s pos l' HQ.out hp
      have hnx := next_rune wr (w.heap.size + 1) s pos n c hk hp hd hc0
      subst hl2
      have HQ2 := hide hq2
      clear hd hq2 hk
      obtain ⟨p1, hp1⟩ : ∃ p1, isPl c = p1 := ⟨_, rfl⟩
      obtain ⟨p2, hp2⟩ : ∃ p2, decide (128 ≤ c) = p2 := ⟨_, rfl⟩
      have hok : okRune c = (p1 || p2) := by unfold okRune; rw [hp1, hp2]
      have HP1 := hide hp1
      have HP2 := hide hp2
      have HOK := hide hok
      clear hp1 hp2 hok
      cases p1 with
      | true =>
        go_wp2_with (first | (go_at_call 191; go_must (refine (pip_any _ _).mono ?_; rintro e w' ⟨rfl, rfl⟩; rw [HP1.out])) | (go_at_call 132; go_must (refine (pfor_any _ _).mono ?_; rintro e w' ⟨rfl, rfl⟩; rw [HP2.out])))
        exact ⟨⟨pos + n, l2, Lib.iterAt_heap wr _ s pos (pos + n) HK.out, by omega, HQ2.out, by rw [HANY.out, List.all_cons, HOK.out]; rfl, Lib.below_iterAt hB (by omega) _ _⟩, by rw [itPos_of (Lib.iterAt_heap wr _ s pos (pos + n) HK.out), itPos_of HK.out]; omega⟩
      | false =>
        cases p2 with
        | true =>
          go_wp2_with (first | (go_at_call 191; go_must (refine (pip_any _ _).mono ?_; rintro e w' ⟨rfl, rfl⟩; rw [HP1.out])) | (go_at_call 132; go_must (refine (pfor_any _ _).mono ?_; rintro e w' ⟨rfl, rfl⟩; rw [HP2.out])))
          exact ⟨⟨pos + n, l2, Lib.iterAt_heap wr _ s pos (pos + n) HK.out, by omega, HQ2.out, by rw [HANY.out, List.all_cons, HOK.out]; rfl, Lib.below_iterAt hB (by omega) _ _⟩, by rw [itPos_of (Lib.iterAt_heap wr _ s pos (pos + n) HK.out), itPos_of HK.out]; omega⟩
        | false =>
          go_wp2_with (first | (go_at_call 191; go_must (refine (pip_any _ _).mono ?_; rintro e w' ⟨rfl, rfl⟩; rw [HP1.out])) | (go_at_call 132; go_must (refine (pfor_any _ _).mono ?_; rintro e w' ⟨rfl, rfl⟩; rw [HP2.out])))
          go_ret
          exact ⟨ret_bool (by rw [HANY.out, List.all_cons, HOK.out]; rfl), Lib.below_iterAt hB (by omega) _ _⟩
    · have hnx := fun ty => Lib.run_next_end_at (P := Tryz.prog) wr (w.heap.size + 1) s pos ty hk hp
      have hl' : l' = [] := by
        have := HQ.out
        rw [List.drop_eq_nil_of_le (by rw [ba_len]; omega), Sx.letters_nil] at this
        cases this; rfl
      have HL' := hide hl'
      clear hl' hk
      go_wp2
      go_ret
      exact ⟨ret_bool (by rw [HANY.out, HL'.out]; rfl), hB⟩
end Go.Proofs.YtgohllfpceeboabGreatDoor
namespace Sx
theorem ins_perm {α : Type} (lt : α → α → Bool) (x : α) (l : List α) : (ins lt x l).Perm (x :: l) := by
  induction l with
  | nil => exact .refl _
  | cons y r ih =>
    simp only [ins]
    split
    · exact .refl _
    · exact (List.Perm.cons y ih).trans (List.Perm.swap x y r)
theorem isort_perm {α : Type} (lt : α → α → Bool) (l : List α) : ∀ acc, (isort lt acc l).Perm (acc ++ l) := by
  induction l with
  | nil => intro acc; simp only [isort, List.append_nil]; exact .refl _
  | cons x r ih =>
    intro acc
    simp only [isort]
    refine (ih _).trans ?_
    refine ((ins_perm lt x acc).append_right r).trans ?_
    rw [List.cons_append]
    exact List.perm_middle.symm
theorem ord_perm (l : List Int) : (ord l).Perm (forIdx l) := isort_perm _ _ _
end Sx
namespace Go.Proofs.YtgohllfpceeboabGreatDoor
open Go.RowKit

theorem stb_map (l : List Int) (xs : List Nat) (h : xs.Pairwise (fun a b => l.getD a 0 = l.getD b 0 → Sx.stand l a < Sx.stand l b)) : Stb (xs.map (Sx.wayAt l)) := by
  intro i k hik hk
  rw [List.length_map] at hk
  have h1 := List.pairwise_iff_getElem.1 h i k (by omega) hk hik
  rw [List.getD_eq_getElem?_getD, List.getD_eq_getElem?_getD, List.getElem?_map, List.getElem?_map, List.getElem?_eq_getElem hk, List.getElem?_eq_getElem (show i < xs.length by omega)]
  simp only [Option.map_some, Option.getD_some, Sx.wayAt]
  intro he
  have := h1 he
  omega
theorem risen_map (l : List Int) (xs : List Nat) (h : xs.Pairwise (fun a b => l.getD a 0 ≤ l.getD b 0)) : Risen (xs.map (Sx.wayAt l)) 0 (xs.map (Sx.wayAt l)).length := by
  intro i k _ hik hk
  rw [List.length_map] at hk
  have h1 := List.pairwise_iff_getElem.1 h i k (by omega) hk hik
  rw [List.getD_eq_getElem?_getD, List.getD_eq_getElem?_getD, List.getElem?_map, List.getElem?_map, List.getElem?_eq_getElem hk, List.getElem?_eq_getElem (show i < xs.length by omega)]
  simp only [Option.map_some, Option.getD_some, Sx.wayAt]
  exact h1
theorem forIdx_stb (l : List Int) : Stb ((Sx.forIdx l).map (Sx.wayAt l)) := by
  refine stb_map l _ ?_
  unfold Sx.forIdx
  have h1 : ((List.range l.length).filter fun k => decide (128 ≤ l.getD k 0)).Pairwise (fun a b => a < b) := List.Pairwise.filter _ List.pairwise_lt_range
  refine List.Pairwise.imp_of_mem ?_ h1
  intro a b ha hb hlt he
  have := (List.mem_filter.1 hb).1
  rw [List.mem_range] at this
  have := Sx.stand_same l a b hlt this he
  omega
theorem ord_stb (l : List Int) : Stb ((Sx.ord l).map (Sx.wayAt l)) := by
  refine stb_map l _ (List.Pairwise.imp_of_mem ?_ (Sx.ord_ahead l))
  intro a b ha hb h he
  rcases h with h | ⟨_, h⟩
  · omega
  · have := Sx.stand_same l a b h ((Sx.ord_mem l b).1 hb).1 he
    omega
theorem ord_risen (l : List Int) : Risen ((Sx.ord l).map (Sx.wayAt l)) 0 ((Sx.ord l).map (Sx.wayAt l)).length := by
  refine risen_map l _ (List.Pairwise.imp ?_ (Sx.ord_ahead l))
  intro a b h
  rcases h with h | ⟨h, _⟩ <;> omega
/-- The ways, up to a place. -/
def waysTo (l : List Int) (k : Nat) : List (Int × Int) := ((List.range k).filter fun j => decide (128 ≤ l.getD j 0)).map (Sx.wayAt l)
theorem waysTo_all (l : List Int) : waysTo l l.length = (Sx.forIdx l).map (Sx.wayAt l) := rfl
theorem waysTo_in (l : List Int) (k : Nat) (h : 128 ≤ l.getD k 0) : waysTo l (k + 1) = waysTo l k ++ [Sx.wayAt l k] := by
  unfold waysTo
  rw [List.range_succ, List.filter_append, List.map_append]
  congr 1
  simp only [List.filter_cons, h, decide_true, if_true, List.filter_nil, List.map_cons, List.map_nil]
theorem waysTo_out (l : List Int) (k : Nat) (h : ¬ 128 ≤ l.getD k 0) : waysTo l (k + 1) = waysTo l k := by
  unfold waysTo
  rw [List.range_succ, List.filter_append, List.map_append]
  simp only [List.filter_cons, h, decide_false, List.filter_nil, List.map_nil, List.append_nil, Bool.false_eq_true, if_false]
theorem waysTo_le (l : List Int) (k : Nat) : (waysTo l k).length ≤ k := by
  unfold waysTo
  rw [List.length_map]
  have := List.length_filter_le (fun j => decide (128 ≤ l.getD j 0)) (List.range k)
  rw [List.length_range] at this
  exact this
/-- What sorting leaves. -/
theorem sorted_ord (l : List Int) (r : List (Int × Int)) (h1 : r.Perm (waysTo l l.length)) (h2 : Stb r) (h3 : Risen r 0 (waysTo l l.length).length) : r = (Sx.ord l).map (Sx.wayAt l) := by
  refine risen_one r _ ?_ h2 (ord_stb l) ?_ (ord_risen l)
  · rw [waysTo_all] at h1
    exact h1.trans ((Sx.ord_perm l).map _).symm
  · rw [h1.length_eq]; exact h3
theorem Tryz.info234 : (Tryz.prog.info? 234).map (fun i => (i.zero, i.size, i.bytes)) = some (some (.agg #[.int .i64 0, .int .i64 0]), 2, 16) := by kernel_rfl
def waV (l : List (Int × Int)) : List Value := l.flatMap fun x => [Value.int .i64 x.1, Value.int .i64 x.2]
theorem waV_app (a b : List (Int × Int)) : waV (a ++ b) = waV a ++ waV b := by simp [waV]
theorem waV_get : ∀ (l : List (Int × Int)) (j : Nat) (h : j < l.length), (waV l)[j * 2]? = some (.int .i64 l[j].1) ∧ (waV l)[j * 2 + 1]? = some (.int .i64 l[j].2) := by
  intro l
  induction l with
  | nil => intro j h; exact absurd h (Nat.not_lt_zero _)
  | cons x r ih =>
    intro j h
    have e : waV (x :: r) = Value.int .i64 x.1 :: Value.int .i64 x.2 :: waV r := rfl
    cases j with
    | zero => rw [e]; exact ⟨rfl, rfl⟩
    | succ j =>
      have := ih j (by simpa using h)
      rw [e, show (j + 1) * 2 = j * 2 + 1 + 1 from by omega]
      simpa using this
theorem ways_of_own {w : World} {B g n cap : Nat} {l : List (Int × Int)} (h : w.ownsRow B 234 2 (.slice (some ⟨g, 0, none⟩) n cap) n (waV l)) (hg : g < w.heap.size) : WaysAt w g l := by
  refine ⟨hg, fun j hj => ?_, fun o => h.frozenAt o⟩
  obtain ⟨a1, a2⟩ := waV_get l j hj
  have c1 := h.cells (g := g) rfl _ _ a1
  have c2 := h.cells (g := g) rfl _ _ a2
  rw [Addr.add_lit, Nat.zero_add] at c1 c2
  exact ⟨c1, c2⟩
theorem cell_two_new (w : World) (x y : Value) (t : TypeId) : ∀ (j : Nat) (u : Value), [x, y][j]? = some u → (w.alloc (.cells #[x, y] t)).cell? ((⟨w.heap.size, 0, none⟩ : Addr).add j) = some u := by
  intro j u hj
  rw [Addr.add_lit, Nat.zero_add, World.cell?_alloc_mark]
  simpa using hj
theorem RuAt.below {W W' : World} {b B : Nat} {l : List Int} (h : RuAt W b l) (hb : Below B W W') (hg : b < B) : RuAt W' b l :=
  ⟨Nat.lt_of_lt_of_le h.1 hb.size, fun j hj => (hb.cell (p := ⟨b, j, none⟩) hg).trans (h.2 j hj)⟩
theorem own_more {W : World} {B : Nat} {e : TypeId} {size : Nat} {v : Value} {k : Nat} {xs : List Value} (h : W.ownsRow B e size v (k + 1) xs) : ∃ g cap, v = .slice (some ⟨g, 0, none⟩) (k + 1) cap := by
  rcases h.2 with ⟨_, h⟩ | ⟨g, cap, _, h, _⟩
  · omega
  · exact ⟨g, cap, h⟩
set_option maxRecDepth 100000 in
set_option maxHeartbeats 4000000 in
/-- code.waysOf -/
theorem pways_any (l : List Int) (b cap : Nat) (w : World) (hr : RuAt w b l) (hl : l.length ≤ 100) (hcap : l.length ≤ cap) (hrange : ∀ c ∈ l, 0 ≤ c ∧ c ≤ 1114111) (h0 : 0 < (waysTo l l.length).length) (h40 : (waysTo l l.length).length < 40) :
    Calls Tryz.prog 188 #[.slice (some ⟨b, 0, none⟩) l.length cap] w fun e w' => ∃ g cap', e = .returned (.slice (some ⟨g, 0, none⟩) ((Sx.ord l).map (Sx.wayAt l)).length cap') ∧ WaysAt w' g ((Sx.ord l).map (Sx.wayAt l)) ∧ w.heap.size ≤ g ∧ Below w.heap.size w w' := by
  obtain ⟨i0, hi, hz0, hz1, hz2⟩ := info_parts Tryz.info234
  have HR := hide hr
  have HRG := hide hrange
  have H0 := hide h0
  have H40 := hide h40
  have hbw := hr.1
  clear hr hrange h0 h40
  go_enter Tryz.func188, Tryz.ntmps188
  go_wp2
  go_loopw [3, 8] (fun v i wr => ∃ k n : Nat, i = .int .i64 k ∧ k ≤ l.length ∧ (waysTo l k).length = n ∧ wr.ownsRow w.heap.size 234 2 v n (waV (waysTo l k)) ∧ Below w.heap.size w wr) (fun _ i _ => (l.length - intOf i).toNat)
  case atStart => exact ⟨0, 0, rfl, by omega, rfl, World.ownsRow_nil _ _ _ _, Below.refl _ _⟩
  case round =>
    obtain ⟨k, n, rfl, hk, hn, hown, hB⟩ := hrel
    have hnk : n ≤ 100 := by have := waysTo_le l k; omega
    have HN := hide hn
    have hsz := hB.size
    clear hn
    by_cases hlt : k < l.length
    · have hru := HR.out.below hB hbw
      have hc := hru.2 k hlt
      obtain ⟨x, hx⟩ : ∃ x, l[k] = x := ⟨_, rfl⟩
      have hxr := HRG.out l[k] (List.getElem_mem hlt)
      have hxd : l.getD k 0 = x := by rw [List.getD_eq_getElem?_getD, List.getElem?_eq_getElem hlt, Option.getD_some, hx]
      rw [hx] at hc hxr
      obtain ⟨hx0, hx1⟩ := hxr
      have HRU := hide hru
      have HXD := hide hxd
      clear hru hx hxd
      by_cases hf : 128 ≤ x
      · have hst : (Sx.stand l k : Nat) = (l.take k).countP fun y => decide (y ≤ x) := by unfold Sx.stand; rw [HXD.out]
        obtain ⟨q, hq⟩ : ∃ q, (l.take k).countP (fun y => decide (y ≤ x)) = q := ⟨_, rfl⟩
        rw [hq] at hst
        have HST := hide hst
        have HQ := hide hq
        have hd : decide (128 ≤ x) = true := by simp; omega
        clear hst hq
        go_wp2_with (first | (go_at_call 132; go_must (refine (pfor_any _ _).mono ?_; rintro e w' ⟨rfl, rfl⟩; rw [hd])) | (go_at_call 231; go_must (refine (psa_any l _ _ _ _ _ HRU.out (by omega) (by omega)).mono ?_; rintro e w' ⟨rfl, rfl⟩; rw [HQ.out])) | (at_builtin; go_must (refine wpList_append_lies _ rfl _ _ _ rfl w.heap.size 234 i0 (.agg #[.int .i64 0, .int .i64 0]) 2 16 Tryz.underlying263 hi hz0 hz1 hz2 rfl (by decide) _ _ _ rfl (hown.alloc _) ⟨_, 0, none⟩ 1 1 [.int .i64 x, .int .i64 q] rfl rfl (cell_two_new _ _ _ _) (by simp [Value.oneCell']) (by omega) (by unfold maxLen; omega) (by omega) (by simp; omega) _ rfl ?_; intro g cap1 w1 hown1 hgrow hat hlt1)))
        refine ⟨⟨k + 1, n + 1, by go_num, by omega, ?_, ?_, below_app hB hsz hown hgrow⟩, by simp [intOf]; omega⟩
        · rw [waysTo_in l k (by rw [HXD.out]; exact hf), List.length_append, HN.out]; rfl
        · rw [waysTo_in l k (by rw [HXD.out]; exact hf), waV_app]
          have e : waV [Sx.wayAt l k] = [.int .i64 x, .int .i64 q] := by unfold waV Sx.wayAt; rw [HXD.out, HST.out]; rfl
          rw [e]; exact hown1
      · have hd : decide (128 ≤ x) = false := by simp; omega
        go_wp2_with (go_at_call 132; go_must (refine (pfor_any _ _).mono ?_; rintro e w' ⟨rfl, rfl⟩; rw [hd]))
        refine ⟨⟨k + 1, n, by go_num, by omega, ?_, ?_, hB⟩, by simp [intOf]; omega⟩
        · rw [waysTo_out l k (by rw [HXD.out]; omega)]; exact HN.out
        · rw [waysTo_out l k (by rw [HXD.out]; omega)]; exact hown
    · have hkl : k = l.length := by omega
      subst hkl
      have hn0 : 0 < n := by rw [← HN.out]; exact H0.out
      obtain ⟨n', hn'⟩ : ∃ n', n = n' + 1 := ⟨n - 1, by omega⟩
      rw [hn'] at hown
      obtain ⟨g, cap', rfl⟩ := own_more hown
      have hgl := hown.lt g rfl
      have hwa := ways_of_own hown hgl.2
      have hlen : (waysTo l l.length).length = n' + 1 := by rw [HN.out, hn']
      have hc := psort_any (waysTo l l.length) g cap' wr hwa H0.out H40.out (by rw [waysTo_all]; exact forIdx_stb l)
      rw [hlen] at hc
      have HC := hide hc
      have HL := hide hlen
      clear hc hlen hwa hn' hn0 hown
      go_wp2_with fail
      refine HC.out.mono ?_
      rintro e w1 ⟨⟨v, rfl⟩, ⟨r, hr1, hr2, hr3, hr4⟩, hg1⟩
      have hre := sorted_ord l r hr1 hr2 (by rw [HL.out]; exact hr3)
      have hrn : r.length = n' + 1 := by rw [hr1.length_eq]; exact HL.out
      rw [hre] at hr4 hrn
      have HR4 := hide hr4
      have HRN := hide hrn
      have hB1 := hB.grown hg1 hB.size (fun k e => by cases e; exact hgl.1)
      clear hr1 hr2 hr3 hr4 hre hrn HC
      go_wp2
      go_ret
      exact ⟨g, cap', by rw [HRN.out]; rfl, HR4.out, hgl.1, hB1⟩
end Go.Proofs.YtgohllfpceeboabGreatDoor
namespace Go.Proofs.YtgohllfpceeboabGreatDoor
open Go.RowKit

/-- Where a slice of the call's own lies by now: where it lay, or in a block made since. -/
def Since (w : World) (r0 : Option Nat) (v : Value) : Prop := v.ownBlock = r0 ∨ ∃ g, v.ownBlock = some g ∧ w.heap.size ≤ g
theorem grown_refl (w : World) (r : Option Nat) : w.grownBy w r := ⟨rfl, rfl, rfl, Nat.le_refl _, fun _ _ _ => rfl⟩
theorem app_grown {w wr w1 : World} {r0 : Option Nat} {v : Value} {o : Obj} (hg : w.grownBy wr r0) (hx : Since w r0 v) (h : (wr.alloc o).grownBy w1 v.ownBlock) : w.grownBy w1 r0 := by
  have hs : wr.heap.size ≤ (wr.alloc o).heap.size := by simp
  refine ⟨h.os.trans hg.os, h.tape.trans hg.tape, h.output.trans hg.output, Nat.le_trans hg.size (Nat.le_trans hs h.size), fun k hk hne => ?_⟩
  have hk2 : k < wr.heap.size := Nat.lt_of_lt_of_le hk hg.size
  have e1 : some k ≠ v.ownBlock := by
    rcases hx with hx | ⟨g, hx, hg2⟩
    · rw [hx]; exact hne
    · rw [hx]; intro e; cases e; omega
  rw [h.block k (by simp; omega) e1, Below.heap_alloc _ _ _ hk2]
  exact hg.block k hk hne
theorem app_since {w wr : World} {r0 : Option Nat} {v : Value} {o : Obj} {g n cap : Nat} (hg : w.grownBy wr r0) (hx : Since w r0 v) (hat : v.ownBlock = some g ∨ g = (wr.alloc o).heap.size) : Since w r0 (.slice (some ⟨g, 0, none⟩) n cap) := by
  rcases hat with hat | hat
  · rcases hx with hx | ⟨g2, hx, hg2⟩
    · exact .inl (by rw [← hx, hat]; rfl)
    · right; refine ⟨g, rfl, ?_⟩; rw [hat] at hx; cases hx; exact hg2
  · right; refine ⟨g, rfl, ?_⟩; have := hg.size; simp at hat; omega

set_option maxRecDepth 100000 in
set_option maxHeartbeats 1000000 in
/-- code.appendNumber -/
theorem pnum_any (bs : List UInt8) (B : Nat) (v : Value) (d bias : Int) (w : World) (hB : B ≤ w.heap.size) (ho : w.ownsRow B 5 1 v bs.length (byV bs)) (hbs : bs.length ≤ 100000000000) (h1 : 0 ≤ d) (h2 : d ≤ 113000000) (h3 : 0 ≤ bias) (h4 : bias ≤ 1000000) :
    Calls Tryz.prog 189 #[v, .int .i64 d, .int .i64 bias] w fun e w' => ∃ v', e = .returned v' ∧ w'.ownsRow B 5 1 v' (bs ++ Sx.writ d 0 bias).length (byV (bs ++ Sx.writ d 0 bias)) ∧ w.grownBy w' v.ownBlock ∧ Since w v.ownBlock v' := by
  obtain ⟨i0, hi, hz0, hz1, hz2⟩ := info_parts Tryz.info5
  go_enter Tryz.func189, Tryz.ntmps189
  go_wp2
  go_loopw [0, 1, 7] (fun x n kk wr => ∃ (dd : Int) (k : Nat) (pre : List UInt8), n = .int .i64 dd ∧ kk = .int .i64 k ∧ 0 ≤ dd ∧ dd + k ≤ 113000000 ∧ pre.length ≤ 100000000000 + k ∧ pre ++ Sx.writ dd k bias = bs ++ Sx.writ d 0 bias ∧ wr.ownsRow B 5 1 x pre.length (byV pre) ∧ w.grownBy wr v.ownBlock ∧ Since w v.ownBlock x) (fun _ n _ _ => (intOf n).toNat)
  case atStart => exact ⟨d, 0, bs, rfl, rfl, by omega, by omega, by omega, rfl, ho, grown_refl _ _, .inl rfl⟩
  case round =>
    obtain ⟨dd, k, pre, rfl, rfl, g1, g2, g3, g5, hown, hgr, hsi⟩ := hrel
    have G := hide g5
    clear g5 ho
    have hsz := hgr.size
    have t1 := Sx.thr_lo k bias
    have t2 := Sx.thr_hi k bias
    obtain ⟨t, ht⟩ : ∃ t, Sx.thr k bias = t := ⟨_, rfl⟩
    have HT := hide ht
    by_cases hlt : Sx.thr k bias ≤ dd
    · have hs := Sx.step_lt dd _ t1 t2 hlt
      have hr : 0 ≤ (dd - Sx.thr k bias) % (36 - Sx.thr k bias) ∧ (dd - Sx.thr k bias) % (36 - Sx.thr k bias) < 36 - Sx.thr k bias := ⟨Int.emod_nonneg _ (by omega), Int.emod_lt_of_pos _ (by omega)⟩
      rw [ht] at t1 t2 hlt hs hr
      clear ht
      obtain ⟨c, hc⟩ : ∃ c, Sx.dig (t + (dd - t) % (36 - t)) = c := ⟨_, rfl⟩
      have HC := hide hc
      clear hc
      have hcl := c.toNat_lt
      go_wp2_with (first | (go_at_call 214; go_must (refine (pthr_any _ _ _ (by omega) (by omega) (by omega) (by omega)).mono ?_; rintro e w' ⟨rfl, rfl⟩; rw [HT.out])) | (go_at_call 234; go_must (refine (pdig_any _ _ (by omega) (by omega)).mono ?_; rintro e w' ⟨rfl, rfl⟩; rw [HC.out])) | (at_builtin; go_must (refine wpList_append_lies _ rfl _ _ _ rfl B 5 i0 (.int .u8 0) 1 1 Tryz.underlying90 hi hz0 hz1 hz2 rfl (by decide) _ _ _ rfl (hown.alloc _) ⟨_, 0, none⟩ 1 1 [.int .u8 c.toNat] rfl rfl (cell_one_new _ _ _) (by simp [Value.oneCell']) (by omega) (by unfold maxLen; omega) (by omega) (by simp; omega) _ rfl ?_; intro g cap w1 hown1 hgrow hat hlt1)))
      refine ⟨⟨(dd - t) / (36 - t), k + 1, pre ++ [c], rfl, by go_num, by omega, by omega, by simp; omega, ?_, ?_, app_grown hgr hsi hgrow, app_since hgr hsi hat⟩, by simp [intOf]; omega⟩
      · rw [← G.out, Sx.writ_more dd k bias g1 (by rw [HT.out]; exact hlt), HT.out, HC.out]
        simp
      · rw [byV_app, List.length_append]; exact hown1
    · rw [ht] at t1 t2 hlt
      clear ht
      obtain ⟨c, hc⟩ : ∃ c, Sx.dig dd = c := ⟨_, rfl⟩
      have HC := hide hc
      clear hc
      have hcl := c.toNat_lt
      have hfin : bs ++ Sx.writ d 0 bias = pre ++ [c] := by rw [← G.out, Sx.writ_last dd k bias (by rw [HT.out]; exact hlt), HC.out]
      have HFIN := hide hfin
      clear hfin
      go_wp2_with (first | (go_at_call 214; go_must (refine (pthr_any _ _ _ (by omega) (by omega) (by omega) (by omega)).mono ?_; rintro e w' ⟨rfl, rfl⟩; rw [HT.out])) | (go_at_call 234; go_must (refine (pdig_any _ _ (by omega) (by omega)).mono ?_; rintro e w' ⟨rfl, rfl⟩; rw [HC.out])) | (at_builtin; go_must (refine wpList_append_lies _ rfl _ _ _ rfl B 5 i0 (.int .u8 0) 1 1 Tryz.underlying90 hi hz0 hz1 hz2 rfl (by decide) _ _ _ rfl (hown.alloc _) ⟨_, 0, none⟩ 1 1 [.int .u8 c.toNat] rfl rfl (cell_one_new _ _ _) (by simp [Value.oneCell']) (by omega) (by unfold maxLen; omega) (by omega) (by simp; omega) _ rfl ?_; intro g cap w1 hown1 hgrow hat hlt1)))
      go_ret
      refine ⟨.slice (some ⟨g, 0, none⟩) (pre.length + 1) cap, rfl, ?_, app_grown hgr hsi hgrow, app_since hgr hsi hat⟩
      rw [HFIN.out, byV_app, List.length_append]; exact hown1

set_option maxRecDepth 100000 in
set_option maxHeartbeats 1000000 in
/-- code.readNumber -/
theorem pread_any (s : ByteArray) (bias most : Int) (w : World) (hs : s.size ≤ 1000) (h3 : 0 ≤ bias) (h4 : bias ≤ 1000000) (h5 : 0 ≤ most) (h6 : most ≤ 1000000000) :
    Calls Tryz.prog 162 #[.string s, .int .i64 bias, .int .i64 most] w fun e w' => e = .returned (.tuple #[.int .i64 (Sx.rdF bias most 0 1 0 s.data.toList).1, .int .i64 (Sx.rdF bias most 0 1 0 s.data.toList).2]) ∧ w' = w := by
  obtain ⟨R, hR⟩ : ∃ R, Sx.rdF bias most 0 1 0 s.data.toList = R := ⟨_, rfl⟩
  rw [hR]
  have HR := hide hR
  clear hR
  go_enter Tryz.func162, Tryz.ntmps162
  go_wp2
  go_loop [6, 8, 14] (fun n ww kk => ∃ (k : Nat) (d wt : Int), n = .int .i64 d ∧ ww = .int .i64 wt ∧ kk = .int .i64 k ∧ k ≤ s.size ∧ 0 ≤ d ∧ d ≤ most ∧ 1 ≤ wt ∧ wt ≤ 36 * (most + 1) ∧ Sx.rdF bias most d wt k (s.data.toList.drop k) = R) (fun _ _ kk => (s.size - intOf kk).toNat)
  case atStart => exact ⟨0, 0, 1, rfl, rfl, rfl, by omega, by omega, by omega, by omega, by omega, by rw [List.drop_zero]; exact HR.out⟩
  case round =>
    obtain ⟨k, d, wt, rfl, rfl, rfl, hk, hd0, hd1, hw0, hw1, hq⟩ := hrel
    have HQ := hide hq
    clear hq
    by_cases hlt : k < s.size
    · have hlt2 : k < s.data.toList.length := by rw [ba_len]; exact hlt
      have hby := byte_at s k hlt hlt2
      have HBY := hide hby
      have hvb := Sx.valOf_bd s[k]
      obtain ⟨v, hv⟩ : ∃ v, Sx.valOf s[k] = v := ⟨_, rfl⟩
      rw [hv] at hvb
      have HV := hide hv
      have t1 := Sx.thr_lo k bias
      have t2 := Sx.thr_hi k bias
      obtain ⟨t, ht⟩ : ∃ t, Sx.thr k bias = t := ⟨_, rfl⟩
      rw [ht] at t1 t2
      have HT := hide ht
      have hq0 : 0 ≤ (most - d) / wt ∧ (most - d) / wt ≤ most - d := ⟨Int.ediv_nonneg (by omega) (by omega), Int.ediv_le_self _ (by omega)⟩
      have hne : wt ≠ 0 := by omega
      clear hv ht hby
      by_cases hvn : v < 0
      · have hfin : R = (0, 0) := by rw [← HQ.out]; exact Sx.rdF_no _ _ _ _ _ _ k hlt2 (.inl (by rw [HBY.out, HV.out]; exact hvn))
        have HF := hide hfin
        clear hfin
        go_wp2_with (go_at_call 213; go_must (refine (pval_any _ _).mono ?_; rintro e w' ⟨rfl, rfl⟩; rw [HV.out]))
        go_ret2
        exact ⟨by rw [HF.out]; rfl, rfl⟩
      · by_cases hvq : (most - d) / wt < v
        · have hfin : R = (0, 0) := by rw [← HQ.out]; exact Sx.rdF_no _ _ _ _ _ _ k hlt2 (.inr (by rw [HBY.out, HV.out]; exact hvq))
          have HF := hide hfin
          clear hfin
          have hd : decide (v < 0) = false := by simpa using hvn
          go_wp2_with (go_at_call 213; go_must (refine (pval_any _ _).mono ?_; rintro e w' ⟨rfl, rfl⟩; rw [HV.out]))
          go_ret2
          exact ⟨by rw [HF.out]; rfl, rfl⟩
        · have hprod : v * wt ≤ most - d := (Int.le_ediv_iff_mul_le (by omega)).1 (by omega)
          have hprod0 : 0 ≤ v * wt := Int.mul_nonneg (by omega) (by omega)
          have hd : decide (v < 0) = false := by simpa using hvn
          by_cases hvt : v < t
          · have hfin : R = (d + v * wt, (k : Int) + 1) := by rw [← HQ.out, Sx.rdF_last _ _ _ _ _ _ k hlt2 (by rw [HBY.out, HV.out]; omega) (by rw [HBY.out, HV.out, HT.out]; exact hvt), HBY.out, HV.out]
            have HF := hide hfin
            clear hfin
            go_wp2_with (first | (go_at_call 213; go_must (refine (pval_any _ _).mono ?_; rintro e w' ⟨rfl, rfl⟩; rw [HV.out])) | (go_at_call 214; go_must (refine (pthr_any _ _ _ (by omega) (by omega) (by omega) (by omega)).mono ?_; rintro e w' ⟨rfl, rfl⟩; rw [HT.out])))
            go_ret2
            exact ⟨by rw [HF.out]; rfl, rfl⟩
          · have hw2 : wt ≤ v * wt := by
              have : 1 * wt ≤ v * wt := Int.mul_le_mul_of_nonneg_right (by omega) (by omega)
              omega
            have hw3 : wt * (36 - t) ≤ wt * 35 := Int.mul_le_mul_of_nonneg_left (by omega) (by omega)
            have hw4 : wt * 1 ≤ wt * (36 - t) := Int.mul_le_mul_of_nonneg_left (by omega) (by omega)
            have hfin : Sx.rdF bias most (d + v * wt) (wt * (36 - t)) (k + 1) (s.data.toList.drop (k + 1)) = R := by
              rw [← HQ.out, Sx.rdF_more _ _ _ _ _ _ k hlt2 (by rw [HBY.out, HV.out]; omega) (by rw [HBY.out, HV.out, HT.out]; exact hvt), HBY.out, HV.out, HT.out]
            have HF := hide hfin
            clear hfin
            go_wp2_with (first | (go_at_call 213; go_must (refine (pval_any _ _).mono ?_; rintro e w' ⟨rfl, rfl⟩; rw [HV.out])) | (go_at_call 214; go_must (refine (pthr_any _ _ _ (by omega) (by omega) (by omega) (by omega)).mono ?_; rintro e w' ⟨rfl, rfl⟩; rw [HT.out])))
            exact ⟨⟨k + 1, _, _, rfl, rfl, by go_num, by omega, by omega, by omega, by omega, by omega, HF.out⟩, by simp [intOf]; omega⟩
    · have hfin : R = (0, 0) := by rw [← HQ.out]; exact Sx.rdF_end _ _ _ _ _ _ k (by rw [ba_len]; omega)
      have HF := hide hfin
      clear hfin
      go_wp2
      go_ret2
      exact ⟨by rw [HF.out]; rfl, rfl⟩
end Go.Proofs.YtgohllfpceeboabGreatDoor

