import Derived.Test.YtgohllfpceeboaaGreatDoorKi
import Derived.Test.YtgohllfpceeboaaGreatDoorMc
namespace Go.Proofs.YtgohllfpceeboaaGreatDoor
open Go.RowKit

/-- code.threshold -/
theorem pthr_any (k bias : Int) (w : World) (h1 : 0 ≤ k) (h2 : k ≤ 1000000000) (h3 : 0 ≤ bias) (h4 : bias ≤ 1000000) :
    Calls Tryz.prog 171 #[.int .i64 k, .int .i64 bias] w fun e w' => e = .returned (.int .i64 (Sx.thr k bias)) ∧ w' = w := by
  by_cases ha : 36 * (k + 1) - bias < 1
  · go_enter Tryz.func171, Tryz.ntmps171
    go_wp2
    all_goals (try (exfalso; omega))
    go_ret
    exact ⟨ret_int (by unfold Sx.thr; rw [if_pos (by omega)]), rfl⟩
  · by_cases hb : 26 < 36 * (k + 1) - bias
    · go_enter Tryz.func171, Tryz.ntmps171
      go_wp2
      all_goals (try (exfalso; omega))
      go_ret
      exact ⟨ret_int (by unfold Sx.thr; rw [if_neg (by omega), if_pos (by omega)]), rfl⟩
    · go_enter Tryz.func171, Tryz.ntmps171
      go_wp2
      all_goals (try (exfalso; omega))
      go_ret
      exact ⟨ret_int (by unfold Sx.thr; rw [if_neg (by omega), if_neg (by omega)]), rfl⟩
/-- code.digit -/
theorem pdig_any (x : Int) (w : World) (h0 : 0 ≤ x) (h1 : x < 36) :
    Calls Tryz.prog 225 #[.int .i64 x] w fun e w' => e = .returned (.int .u8 (Sx.dig x).toNat) ∧ w' = w := by
  by_cases h : x < 26
  · have hd : ((Sx.dig x).toNat : Int) = 97 + x := by unfold Sx.dig; rw [if_pos h]; simp only [UInt8.toNat_ofNat']; omega
    have HD := hide hd
    clear hd
    go_enter Tryz.func225, Tryz.ntmps225
    go_wp2
    go_ret
    exact ⟨ret_int HD.out.symm, rfl⟩
  · have hd : ((Sx.dig x).toNat : Int) = 48 + x - 26 := by unfold Sx.dig; rw [if_neg h]; simp only [UInt8.toNat_ofNat']; omega
    have HD := hide hd
    clear hd
    go_enter Tryz.func225, Tryz.ntmps225
    go_wp2
    go_ret
    exact ⟨ret_int HD.out.symm, rfl⟩
/-- code.valueOf -/
theorem pval_any (c : UInt8) (w : World) :
    Calls Tryz.prog 170 #[.int .u8 c.toNat] w fun e w' => e = .returned (.int .i64 (Sx.valOf c)) ∧ w' = w := by
  have hc := c.toNat_lt
  by_cases h1 : 97 ≤ c.toNat ∧ c.toNat ≤ 122
  · have hd : Sx.valOf c = (c.toNat : Int) - 97 := by unfold Sx.valOf; rw [if_pos h1]
    have HD := hide hd
    clear hd
    obtain ⟨h1, h2⟩ := h1
    go_enter Tryz.func170, Tryz.ntmps170
    go_wp2
    all_goals go_ret
    all_goals exact ⟨ret_int HD.out.symm, rfl⟩
  · by_cases h2 : 48 ≤ c.toNat ∧ c.toNat ≤ 57
    · have hd : Sx.valOf c = (c.toNat : Int) - 48 + 26 := by unfold Sx.valOf; rw [if_neg h1, if_pos h2]; omega
      have HD := hide hd
      clear hd
      obtain ⟨h2, h3⟩ := h2
      have h4 : ¬ 97 ≤ c.toNat := by omega
      clear h1
      go_enter Tryz.func170, Tryz.ntmps170
      go_wp2
      all_goals go_ret
      all_goals exact ⟨ret_int HD.out.symm, rfl⟩
    · have hd : Sx.valOf c = -1 := by unfold Sx.valOf; rw [if_neg h1, if_neg h2]
      have HD := hide hd
      clear hd
      have H1 := hide h1
      have H2 := hide h2
      clear h1 h2
      by_cases a1 : 97 ≤ c.toNat
      · have a2 : ¬ c.toNat ≤ 122 := fun h => H1.out ⟨a1, h⟩
        have a3 : ¬ c.toNat ≤ 57 := by omega
        go_enter Tryz.func170, Tryz.ntmps170
        go_wp2
        all_goals go_ret
        all_goals exact ⟨ret_int HD.out.symm, rfl⟩
      · by_cases a2 : 48 ≤ c.toNat
        · have a3 : ¬ c.toNat ≤ 57 := fun h => H2.out ⟨a2, h⟩
          go_enter Tryz.func170, Tryz.ntmps170
          go_wp2
          all_goals go_ret
          all_goals exact ⟨ret_int HD.out.symm, rfl⟩
        · go_enter Tryz.func170, Tryz.ntmps170
          go_wp2
          all_goals go_ret
          all_goals exact ⟨ret_int HD.out.symm, rfl⟩

set_option maxHeartbeats 400000 in
/-- code.biasBehind -/
theorem pbias_any (d dm l : Int) (w : World) (h1 : 0 ≤ d) (h2 : d ≤ 1000000000000) (hd1 : 1 ≤ dm) (hd2 : dm ≤ 1000) (h3 : 1 ≤ l) (h4 : l ≤ 1000000) :
    Calls Tryz.prog 175 #[.int .i64 d, .int .i64 dm, .int .i64 l] w fun e w' => e = .returned (.int .i64 (Sx.bias1 (d / dm) l)) ∧ w' = w := by
  have k0 : 0 ≤ d / dm ∧ d / dm ≤ d := ⟨Int.ediv_nonneg h1 (by omega), Int.ediv_le_self _ h1⟩
  have k1 : 0 ≤ d / dm / l ∧ d / dm / l ≤ d / dm := ⟨Int.ediv_nonneg k0.1 (by omega), Int.ediv_le_self _ k0.1⟩
  have hne : l ≠ 0 := by omega
  have hne2 : dm ≠ 0 := by omega
  go_enter Tryz.func175, Tryz.ntmps175
  go_wp2
  go_loop [0, 7] (fun x n => ∃ dd nn : Int, x = .int .i64 dd ∧ n = .int .i64 nn ∧ 0 ≤ dd ∧ dd ≤ 3000000000000 ∧ 0 ≤ nn ∧ nn + dd ≤ 3000000000000 ∧ Sx.biasL dd nn = Sx.bias1 (d / dm) l) (fun x _ => (intOf x).toNat)
  case atStart => exact ⟨_, _, rfl, rfl, by omega, by omega, by omega, by omega, rfl⟩
  case round =>
    obtain ⟨dd, nn, rfl, rfl, g1, g2, g3, g4, g5⟩ := hrel
    have G := hide g5
    clear g5
    by_cases hlt : 455 < dd
    · go_wp2
      go_round
      case rel => exact ⟨dd / 35, nn + 36, rfl, rfl, by omega, by omega, by omega, by omega, by rw [← Sx.biasL_more dd nn hlt]; exact G.out⟩
      case measure => simp [intOf]; omega
    · have hp : 0 ≤ 36 * dd / (dd + 38) ∧ 36 * dd / (dd + 38) < 37 := ⟨Int.ediv_nonneg (by omega) (by omega), Int.ediv_lt_of_lt_mul (by omega) (by omega)⟩
      go_wp2
      go_ret
      exact ⟨ret_int (by rw [← G.out, Sx.biasL_last dd nn (by omega)]), rfl⟩
end Go.Proofs.YtgohllfpceeboaaGreatDoor
