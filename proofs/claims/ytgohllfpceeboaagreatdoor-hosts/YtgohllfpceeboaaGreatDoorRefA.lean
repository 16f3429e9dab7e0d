import Derived.Test.YtgohllfpceeboaaGreatDoorKi
namespace Go.Proofs.YtgohllfpceeboaaGreatDoor
open Go.RowKit

/-- suffixref.threshold -/
theorem rthr_any (k bias : Int) (w : World) (h1 : 0 ≤ k) (h2 : k ≤ 1000000000) (h3 : 0 ≤ bias) (h4 : bias ≤ 1000000) :
    Calls Tryz.prog 201 #[.int .i64 k, .int .i64 bias] w fun e w' => e = .returned (.int .i64 (Sx.thr k bias)) ∧ w' = w := by
  by_cases ha : 36 * (k + 1) - bias < 1
  · go_enter Tryz.func201, Tryz.ntmps201
    go_wp2
    go_ret
    exact ⟨ret_int (by unfold Sx.thr; rw [if_pos (by omega)]), rfl⟩
  · by_cases hb : 26 < 36 * (k + 1) - bias
    · go_enter Tryz.func201, Tryz.ntmps201
      go_wp2
      go_ret
      exact ⟨ret_int (by unfold Sx.thr; rw [if_neg (by omega), if_pos (by omega)]), rfl⟩
    · go_enter Tryz.func201, Tryz.ntmps201
      go_wp2
      go_ret
      exact ⟨ret_int (by unfold Sx.thr; rw [if_neg (by omega), if_neg (by omega)]), rfl⟩

set_option maxHeartbeats 400000 in
/-- suffixref.after -/
theorem rafter_any (d l : Int) (b : Bool) (w : World) (h1 : 0 ≤ d) (h2 : d ≤ 1000000000000) (h3 : 1 ≤ l) (h4 : l ≤ 1000000) :
    Calls Tryz.prog 202 #[.int .i64 d, .int .i64 l, .bool b] w fun e w' => e = .returned (.int .i64 (Sx.after d l b)) ∧ w' = w := by
  have key : ∀ x : Int, 0 ≤ x → 0 ≤ x / l ∧ x / l ≤ x := fun x h0 => ⟨Int.ediv_nonneg h0 (by omega), Int.ediv_le_self _ h0⟩
  have k1 := key (d / 2) (by omega)
  have k2 := key (d / 700) (by omega)
  clear key
  have hne : l ≠ 0 := by omega
  cases b
  all_goals
    go_enter Tryz.func202, Tryz.ntmps202
    go_wp2
  · go_loop [0, 7] (fun x n => ∃ dd nn : Int, x = .int .i64 dd ∧ n = .int .i64 nn ∧ 0 ≤ dd ∧ dd ≤ 3000000000000 ∧ 0 ≤ nn ∧ nn + dd ≤ 3000000000000 ∧ Sx.biasL dd nn = Sx.after d l false) (fun x _ => (intOf x).toNat)
    case atStart => exact ⟨_, _, rfl, rfl, by omega, by omega, by omega, by omega, rfl⟩
    case round =>
      obtain ⟨dd, nn, rfl, rfl, g1, g2, g3, g4, g5⟩ := hrel
      have G := hide g5
      clear g5
      by_cases hlt : 455 < dd
      · go_wp2
        go_round
        case rel => exact ⟨dd / 35, nn + 36, rfl, rfl, by omega, by omega, by omega, by omega, by rw [← Sx.biasL_more dd nn hlt]; exact G.out⟩
        case measure => simp [intOf]; omega
      · have hp : 0 ≤ 36 * dd / (dd + 38) ∧ 36 * dd / (dd + 38) < 37 := ⟨Int.ediv_nonneg (by omega) (by omega), Int.ediv_lt_of_lt_mul (by omega) (by omega)⟩
        go_wp2
        go_ret
        exact ⟨ret_int (by rw [← G.out, Sx.biasL_last dd nn (by omega)]), rfl⟩
  · go_loop [0, 7] (fun x n => ∃ dd nn : Int, x = .int .i64 dd ∧ n = .int .i64 nn ∧ 0 ≤ dd ∧ dd ≤ 3000000000000 ∧ 0 ≤ nn ∧ nn + dd ≤ 3000000000000 ∧ Sx.biasL dd nn = Sx.after d l true) (fun x _ => (intOf x).toNat)
    case atStart => exact ⟨_, _, rfl, rfl, by omega, by omega, by omega, by omega, rfl⟩
    case round =>
      obtain ⟨dd, nn, rfl, rfl, g1, g2, g3, g4, g5⟩ := hrel
      have G := hide g5
      clear g5
      by_cases hlt : 455 < dd
      · go_wp2
        go_round
        case rel => exact ⟨dd / 35, nn + 36, rfl, rfl, by omega, by omega, by omega, by omega, by rw [← Sx.biasL_more dd nn hlt]; exact G.out⟩
        case measure => simp [intOf]; omega
      · have hp : 0 ≤ 36 * dd / (dd + 38) ∧ 36 * dd / (dd + 38) < 37 := ⟨Int.ediv_nonneg (by omega) (by omega), Int.ediv_lt_of_lt_mul (by omega) (by omega)⟩
        go_wp2
        go_ret
        exact ⟨ret_int (by rw [← G.out, Sx.biasL_last dd nn (by omega)]), rfl⟩

theorem digs_cut (x : Int) (h0 : 0 ≤ x) (h : x < 36) : ByteArray.extract ⟨#[97, 98, 99, 100, 101, 102, 103, 104, 105, 106, 107, 108, 109, 110, 111, 112, 113, 114, 115, 116, 117, 118, 119, 120, 121, 122, 48, 49, 50, 51, 52, 53, 54, 55, 56, 57]⟩ x.toNat (x + 1).toNat = ⟨[Sx.dig x].toArray⟩ := by
  have k : ∀ x : Fin 36, ByteArray.extract ⟨#[97, 98, 99, 100, 101, 102, 103, 104, 105, 106, 107, 108, 109, 110, 111, 112, 113, 114, 115, 116, 117, 118, 119, 120, 121, 122, 48, 49, 50, 51, 52, 53, 54, 55, 56, 57]⟩ x.val (x.val + 1) = ⟨[Sx.dig (x.val : Int)].toArray⟩ := by decide +kernel
  obtain ⟨n, rfl⟩ := Int.eq_ofNat_of_zero_le h0
  have := k ⟨n, by omega⟩
  rw [show ((n : Int) + 1).toNat = n + 1 from by omega, Int.toNat_natCast]
  exact this
theorem digs_at (x : Nat) (h : x < 36) : ([97, 98, 99, 100, 101, 102, 103, 104, 105, 106, 107, 108, 109, 110, 111, 112, 113, 114, 115, 116, 117, 118, 119, 120, 121, 122, 48, 49, 50, 51, 52, 53, 54, 55, 56, 57] : List UInt8)[x]? = some (Sx.dig x) := by
  have : ∀ x : Fin 36, ([97, 98, 99, 100, 101, 102, 103, 104, 105, 106, 107, 108, 109, 110, 111, 112, 113, 114, 115, 116, 117, 118, 119, 120, 121, 122, 48, 49, 50, 51, 52, 53, 54, 55, 56, 57] : List UInt8)[x.val]? = some (Sx.dig x.val) := by decide
  exact this ⟨x, h⟩

set_option maxHeartbeats 400000 in
/-- suffixref.written -/
theorem rwrit_any (d bias : Int) (w : World) (h1 : 0 ≤ d) (h2 : d ≤ 1000000000) (h3 : 0 ≤ bias) (h4 : bias ≤ 1000000) :
    Calls Tryz.prog 243 #[.int .i64 d, .int .i64 bias] w fun e w' => e = .returned (.string ⟨(Sx.writ d 0 bias).toArray⟩) ∧ w' = w := by
  go_enter Tryz.func243, Tryz.ntmps243
  go_wp2
  go_loop [0, 5, 6] (fun x s n => ∃ (dd : Int) (k : Nat) (pre : List UInt8), x = .int .i64 dd ∧ s = .string ⟨pre.toArray⟩ ∧ n = .int .i64 k ∧ 0 ≤ dd ∧ dd + k ≤ 1000000000 ∧ pre.length = k ∧ pre ++ Sx.writ dd k bias = Sx.writ d 0 bias) (fun x _ _ => (intOf x).toNat)
  case atStart => exact ⟨d, 0, [], rfl, rfl, rfl, by omega, by omega, rfl, rfl⟩
  case round =>
    obtain ⟨dd, k, pre, rfl, rfl, rfl, g1, g2, g3, g5⟩ := hrel
    have G := hide g5
    clear g5
    have t1 := Sx.thr_lo k bias
    have t2 := Sx.thr_hi k bias
    have hk : (0 : Int) ≤ k ∧ (k : Int) ≤ 1000000000 := by omega
    obtain ⟨t, ht⟩ : ∃ t, Sx.thr k bias = t := ⟨_, rfl⟩
    have HT := hide ht
    by_cases hlt : Sx.thr k bias ≤ dd
    · have hs := Sx.step_lt dd _ t1 t2 hlt
      have hr : 0 ≤ (dd - Sx.thr k bias) % (36 - Sx.thr k bias) ∧ (dd - Sx.thr k bias) % (36 - Sx.thr k bias) < 36 - Sx.thr k bias := ⟨Int.emod_nonneg _ (by omega), Int.emod_lt_of_pos _ (by omega)⟩
      rw [ht] at t1 t2 hlt hs hr
      clear ht
      go_wp2_with (go_at_call 201; refine (rthr_any _ _ _ (by omega) (by omega) (by omega) (by omega)).mono ?_; rintro e w' ⟨rfl, rfl⟩; rw [HT.out])
      rw [digs_cut _ (by omega) (by omega), ba_app]
      go_round
      case rel =>
        refine ⟨(dd - t) / (36 - t), k + 1, pre ++ [Sx.dig (t + (dd - t) % (36 - t))], rfl, rfl, by go_num, hs.1, by omega, by simp [g3], ?_⟩
        rw [← G.out, Sx.writ_more dd k bias g1 (by rw [HT.out]; exact hlt), HT.out]
        simp
      case measure => simp [intOf]; omega
    · rw [ht] at t1 t2 hlt
      clear ht
      go_wp2_with (go_at_call 201; refine (rthr_any _ _ _ (by omega) (by omega) (by omega) (by omega)).mono ?_; rintro e w' ⟨rfl, rfl⟩; rw [HT.out])
      go_ret
      rw [digs_cut _ (by omega) (by omega), ba_app]
      exact ⟨ret_str (a := ⟨(pre ++ [Sx.dig dd]).toArray⟩) (by rw [← G.out, Sx.writ_last dd k bias (by rw [HT.out]; omega)]), rfl⟩

theorem digs_idx (k : Nat) (hk : k < 36) (hb : k < (⟨#[97, 98, 99, 100, 101, 102, 103, 104, 105, 106, 107, 108, 109, 110, 111, 112, 113, 114, 115, 116, 117, 118, 119, 120, 121, 122, 48, 49, 50, 51, 52, 53, 54, 55, 56, 57]⟩ : ByteArray).size) : (⟨#[97, 98, 99, 100, 101, 102, 103, 104, 105, 106, 107, 108, 109, 110, 111, 112, 113, 114, 115, 116, 117, 118, 119, 120, 121, 122, 48, 49, 50, 51, 52, 53, 54, 55, 56, 57]⟩ : ByteArray)[k]'hb = Sx.dig k := by
  have := digs_at k hk
  show (#[97, 98, 99, 100, 101, 102, 103, 104, 105, 106, 107, 108, 109, 110, 111, 112, 113, 114, 115, 116, 117, 118, 119, 120, 121, 122, 48, 49, 50, 51, 52, 53, 54, 55, 56, 57] : Array UInt8)[k]'hb = Sx.dig k
  rw [Array.getElem_eq_iff]
  simpa using this
theorem digs_yes (k : Nat) (hk : k < 36) (hb : k < (⟨#[97, 98, 99, 100, 101, 102, 103, 104, 105, 106, 107, 108, 109, 110, 111, 112, 113, 114, 115, 116, 117, 118, 119, 120, 121, 122, 48, 49, 50, 51, 52, 53, 54, 55, 56, 57]⟩ : ByteArray).size) (c : UInt8) (h : ((((⟨#[97, 98, 99, 100, 101, 102, 103, 104, 105, 106, 107, 108, 109, 110, 111, 112, 113, 114, 115, 116, 117, 118, 119, 120, 121, 122, 48, 49, 50, 51, 52, 53, 54, 55, 56, 57]⟩ : ByteArray)[k]'hb).toNat : Int) == (c.toNat : Int)) = true) : Sx.dig k = c := by
  rw [digs_idx k hk hb] at h
  have h7 : ((Sx.dig k).toNat : Int) = (c.toNat : Int) := by simpa using h
  have : (Sx.dig k).toNat = c.toNat := by omega
  exact UInt8.toNat.inj this
theorem digs_no (k : Nat) (hk : k < 36) (hb : k < (⟨#[97, 98, 99, 100, 101, 102, 103, 104, 105, 106, 107, 108, 109, 110, 111, 112, 113, 114, 115, 116, 117, 118, 119, 120, 121, 122, 48, 49, 50, 51, 52, 53, 54, 55, 56, 57]⟩ : ByteArray).size) (c : UInt8) (h : ((((⟨#[97, 98, 99, 100, 101, 102, 103, 104, 105, 106, 107, 108, 109, 110, 111, 112, 113, 114, 115, 116, 117, 118, 119, 120, 121, 122, 48, 49, 50, 51, 52, 53, 54, 55, 56, 57]⟩ : ByteArray)[k]'hb).toNat : Int) == (c.toNat : Int)) = false) : Sx.dig k ≠ c := by
  rw [digs_idx k hk hb] at h
  rintro rfl
  simp at h
set_option maxHeartbeats 400000 in
/-- suffixref.value -/
theorem rval_any (c : UInt8) (w : World) :
    Calls Tryz.prog 200 #[.int .u8 c.toNat] w fun e w' => e = .returned (.int .i64 (Sx.valOf c)) ∧ w' = w := by
  have hc : (0 : Int) ≤ c.toNat ∧ (c.toNat : Int) < 256 := by have := c.toNat_lt; omega
  go_enter Tryz.func200, Tryz.ntmps200
  go_wp2
  go_loop [3] (fun i => ∃ (k : Nat), i = .int .i64 k ∧ k ≤ 36 ∧ ∀ j, j < k → Sx.dig (j : Nat) ≠ c) (fun i => (36 - intOf i).toNat)
  case atStart => exact ⟨0, rfl, by omega, fun j h => by omega⟩
  case round =>
    obtain ⟨k, rfl, g1, g2⟩ := hrel
    have G2 := hide g2
    clear g2
    by_cases hlt : k < 36
    · go_wp2
      · go_ret
        have h5 := digs_yes k hlt _ c ‹_›
        exact ⟨ret_int (by rw [← h5, Sx.valOf_dig k hlt]), rfl⟩
      · have h5 := digs_no k hlt _ c ‹_›
        go_round
        case rel =>
          refine ⟨k + 1, by go_num, by omega, fun j hj => ?_⟩
          rcases Nat.lt_or_ge j k with h6 | h6
          · exact G2.out j h6
          · rw [show j = k from by omega]; exact h5
        case measure => simp [intOf]; omega
    · have h36 : k = 36 := by omega
      go_wp2
      go_ret
      exact ⟨ret_int (by rw [Sx.valOf_none c (fun j hj => G2.out j (by omega))]), rfl⟩
end Go.Proofs.YtgohllfpceeboaaGreatDoor
