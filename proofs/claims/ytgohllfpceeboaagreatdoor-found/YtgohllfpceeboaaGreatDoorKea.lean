import Derived.Test.YtgohllfpceeboaaGreatDoorSbbg
import Derived.Test.YtgohllfpceeboaaGreatDoorSbbb
import Derived.Test.YtgohllfpceeboaaGreatDoorSbbe
import Derived.Test.YtgohllfpceeboaaGreatDoorSbar
import Derived.Deep.RegionHeldLaw
namespace Go.Proofs.YtgohllfpceeboaaGreatDoor
open Go.RowKit
theorem take_ext (s : ByteArray) (n : Nat) : (s.extract 0 n).data.toList = s.data.toList.take n := by
  simp [ByteArray.data_extract]
set_option maxRecDepth 100000 in
set_option maxHeartbeats 2000000 in
/-- suffixkeep.fits -/
theorem kfits (h t : ByteArray) (more : Nat) (w : World) (hh : h.size ≤ 1000) (ht : t.size ≤ 1000) : Calls Tryz.prog 34 #[.string h, .string t, .int .i64 more] w fun e w' => e = .returned (.bool (Sx.fitT h.data.toList t.data.toList more)) ∧ w' = w := by
  by_cases h1 : h.size < t.size
  · have hr : Sx.fitT h.data.toList t.data.toList more = false := by
      unfold Sx.fitT
      rw [if_pos (Or.inl (by rw [ba_len, ba_len]; exact h1))]
    rw [hr]
    clear hr
    go_enter Tryz.func34, Tryz.ntmps34
    go_wp2
    go_ret
    exact ⟨rfl, rfl⟩
  · have hn : ¬ ((h.size : Int) < t.size) := by omega
    have hnf : ((h.size : Int) < t.size) = False := by simpa using hn
    obtain ⟨n, hnn⟩ : ∃ n, h.size - t.size = n := ⟨_, rfl⟩
    have hni : (h.size : Int) - t.size = (n : Int) := by omega
    have hnl : n ≤ h.size := by omega
    have hdr : (h.extract n h.size).data.toList = h.data.toList.drop n := by rw [drop_ext]
    have htk := take_ext h n
    obtain ⟨E, hE⟩ : ∃ E, h.extract n h.size = E := ⟨_, rfl⟩
    obtain ⟨A, hA⟩ : ∃ A, h.extract 0 n = A := ⟨_, rfl⟩
    rw [hE] at hdr
    rw [hA] at htk
    have hcmp : (E.toList == t.toList) = decide (h.data.toList.drop n = t.data.toList) := by rw [ba_eq, hdr]
    have hAs : A.size = n := by rw [← ba_len, htk, List.length_take, ba_len]; omega
    have hfit : Sx.fitT h.data.toList t.data.toList more = if (E.toList == t.toList) = false then false else if n = 0 then decide (more = 0) else decide (h.data.toList.getD (n - 1) 0 = 46) := by
      unfold Sx.fitT
      rw [ba_len, ba_len, hnn, hcmp]
      simp only [h1, false_or, ne_eq, decide_eq_false_iff_not]
    have HF := hide hfit
    clear hfit hcmp hdr
    by_cases hc : (E.toList == t.toList) = true
    · by_cases h0 : n = 0
      · subst h0
        have hA0 := no_text (X := A) (by rw [htk]; rfl)
        have hx : ((more : Int) == 0) = decide (more = 0) := by
          rw [Bool.eq_iff_iff]; simp
        clear htk h1 hn
        go_enter Tryz.func34, Tryz.ntmps34
        go_wp2
        go_ret
        rw [HF.out, hc]
        refine ⟨?_, rfl⟩
        simp
      · have hA0 := ne_text (X := A) (by omega)
        have hlt : n - 1 < A.size := by omega
        have hby : A[n - 1] = h.data.toList.getD (n - 1) 0 := by
          rw [← ba_get A (n - 1) hlt, htk]
          rw [List.getD_eq_getElem?_getD, List.getD_eq_getElem?_getD, List.getElem?_take_of_lt (by omega)]
        obtain ⟨c, hcc⟩ : ∃ c, h.data.toList.getD (n - 1) 0 = c := ⟨_, rfl⟩
        rw [hcc] at hby HF
        have hn1 : (A.size : Int) - 1 = ((n - 1 : Nat) : Int) := by omega
        have hx : ((c.toNat : Int) == 46) = decide (c = 46) := by
          rw [Bool.eq_iff_iff, beq_iff_eq, decide_eq_true_eq]
          exact ⟨fun h => UInt8.toNat_inj.1 (Int.ofNat.inj h), fun h => by rw [h]; rfl⟩
        clear htk h1 hn hcc
        go_enter Tryz.func34, Tryz.ntmps34
        go_wp2
        go_ret
        rw [HF.out, hc, if_neg (by simp), if_neg h0]
        refine ⟨?_, rfl⟩
        simp
    · have hc' : (E.toList == t.toList) = false := by simpa using hc
      clear htk h1 hn hc
      go_enter Tryz.func34, Tryz.ntmps34
      go_wp2
      go_ret
      rw [HF.out, hc']
      exact ⟨rfl, rfl⟩
set_option maxRecDepth 100000 in
set_option maxHeartbeats 2000000 in
/-- suffixkeep.labels -/
theorem klabels (h : ByteArray) (w : World) (hh : h.size ≤ 1000) : Calls Tryz.prog 32 #[.string h] w fun e w' => e = .returned (.int .i64 (Sx.dotsN h.data.toList + 1 : Nat)) ∧ w' = w := by
  obtain ⟨N, hN⟩ : ∃ N, Sx.dotsN h.data.toList + 1 = N := ⟨_, rfl⟩
  rw [hN]
  go_enter Tryz.func32, Tryz.ntmps32
  go_wp2_with fail
  go_loop [3, 4] (fun nv iv => ∃ (k n : Nat), nv = .int .i64 n ∧ iv = .int .i64 k ∧ k ≤ h.size ∧ n ≤ k + 1 ∧ Sx.dotsN (h.data.toList.take k) + 1 = n) (fun _ iv => (h.size - intOf iv).toNat)
  case atStart => exact ⟨0, 1, rfl, rfl, by omega, by omega, rfl⟩
  case round =>
    obtain ⟨k, n, rfl, rfl, hk, hn, hd⟩ := hrel
    by_cases hlt : k < h.size
    · have hlt2 : k < h.data.toList.length := by rw [ba_len]; exact hlt
      have hget : h.data.toList[k] = h[k] := rfl
      have hst : Sx.dotsN (h.data.toList.take (k + 1)) + 1 = if h[k] = 46 then n + 1 else n := by
        unfold Sx.dotsN at hd ⊢
        rw [List.take_succ_eq_append_getElem hlt2, List.countP_append, hget, List.countP_singleton]
        split <;> rename_i hx
        · rw [if_pos (by simpa using hx)]; omega
        · rw [if_neg (by simpa using hx)]; omega
      obtain ⟨c, hc⟩ : ∃ c, h[k] = c := ⟨_, rfl⟩
      rw [hc] at hst
      by_cases h46 : c = 46
      · rw [if_pos h46] at hst
        subst h46
        have HST := hide hst
        clear hst hd hget
        go_wp2
        go_round
        case rel => exact ⟨k + 1, n + 1, by go_num, by go_num, by omega, by omega, HST.out⟩
        case measure => simp [intOf]; omega
      · rw [if_neg h46] at hst
        have hx : ((c.toNat : Int) == 46) = false := by
          rw [beq_eq_false_iff_ne]
          exact fun h => h46 (UInt8.toNat_inj.1 (Int.ofNat.inj h))
        have HST := hide hst
        clear hst hd hget
        go_wp2
        go_round
        case rel => exact ⟨k + 1, n, rfl, by go_num, by omega, by omega, HST.out⟩
        case measure => simp [intOf]; omega
    · have hfin : N = n := by rw [← hN, ← hd, List.take_of_length_le (by rw [ba_len]; omega)]
      have HF := hide hfin
      have hge : (k < h.size) = False := by simpa using hlt
      clear hfin hd hlt
      go_wp2
      go_ret
      rw [HF.out]
      exact ⟨rfl, rfl⟩
theorem tlF_le (h : List UInt8) : ∀ (j n at' : Nat), at' ≤ h.length → j ≤ h.length → Sx.tlF h j n at' ≤ h.length
  | 0, _, _, h1, _ => h1
  | j + 1, n, at', h1, h2 => by
    unfold Sx.tlF
    split
    · exact h1
    · split
      · exact tlF_le h j (n - 1) (j + 1) h2 (by omega)
      · exact tlF_le h j n j (by omega) (by omega)
theorem tlF_zero (h : List UInt8) (j at' : Nat) : Sx.tlF h j 0 at' = at' := by
  cases j with
  | zero => rfl
  | succ j => unfold Sx.tlF; rw [if_pos rfl]
set_option maxRecDepth 100000 in
set_option maxHeartbeats 2000000 in
/-- suffixkeep.tail -/
theorem ktail (h : ByteArray) (n : Nat) (w : World) (hh : h.size ≤ 1000) (hn : n ≤ 1000) : Calls Tryz.prog 35 #[.string h, .int .i64 n] w fun e w' => e = .returned (.string ⟨(Sx.tailT h.data.toList n).toArray⟩) ∧ w' = w := by
  unfold Sx.tailT
  rw [ba_len]
  obtain ⟨z, hz⟩ : ∃ z, Sx.tlF h.data.toList h.size n h.size = z := ⟨_, rfl⟩
  have hdx : (⟨(h.data.toList.drop z).toArray⟩ : ByteArray) = h.extract z h.size := (drop_ext h z).symm
  rw [hz, hdx]
  have hzl : z ≤ h.size := by
    rw [← hz]
    have := tlF_le h.data.toList h.size n h.size (by rw [ba_len]; omega) (by rw [ba_len]; omega)
    rw [ba_len] at this
    exact this
  clear hdx
  have hzi : ((z : Int)).toNat = z := by omega
  go_enter Tryz.func35, Tryz.ntmps35
  go_wp2_with fail
  go_loop [1, 5, 6] (fun nv av iv => ∃ (j m a : Nat), nv = .int .i64 m ∧ av = .int .i64 a ∧ iv = .int .i64 ((j : Int) - 1) ∧ j ≤ h.size ∧ m ≤ 1000 ∧ a ≤ h.size ∧ Sx.tlF h.data.toList j m a = z) (fun _ _ iv => (1 + intOf iv).toNat)
  case atStart => exact ⟨h.size, n, h.size, rfl, rfl, rfl, by omega, hn, by omega, hz⟩
  case round =>
    obtain ⟨j, m, a, rfl, rfl, rfl, hj, hm, ha, hr⟩ := hrel
    clear hz
    cases j with
    | zero =>
      have haz : a = z := hr
      subst haz
      clear hr
      go_wp2
      go_ret
      exact ⟨rfl, rfl⟩
    | succ j =>
      have hji : ((j + 1 : Nat) : Int) - 1 = (j : Int) := by omega
      rw [hji]
      by_cases hm0 : m = 0
      · subst hm0
        have haz : a = z := by rw [← hr, tlF_zero]
        subst haz
        clear hr
        go_wp2
        go_ret
        exact ⟨rfl, rfl⟩
      · have hlt : j < h.size := by omega
        have hget := ba_get h j hlt
        have e : Sx.tlF h.data.toList (j + 1) m a = if m = 0 then a else if h.data.toList.getD j 0 = 46 then Sx.tlF h.data.toList j (m - 1) (j + 1) else Sx.tlF h.data.toList j m j := rfl
        rw [e, if_neg hm0, hget] at hr
        clear e hget
        have hmi : (m : Int) - 1 = ((m - 1 : Nat) : Int) := by omega
        obtain ⟨c, hc⟩ : ∃ c, h[j] = c := ⟨_, rfl⟩
        rw [hc] at hr
        have hm1 : (0 < (m : Int)) = True := by simp; omega
        by_cases h46 : c = 46
        · rw [if_pos h46] at hr
          subst h46
          have HR := hide hr
          clear hr
          go_wp2
          go_round
          case rel => exact ⟨j, m - 1, j + 1, by go_num, by go_num, by go_num, by omega, by omega, by omega, HR.out⟩
          case measure => simp [intOf]; omega
        · rw [if_neg h46] at hr
          have hx : ((c.toNat : Int) == 46) = false := by
            rw [beq_eq_false_iff_ne]
            exact fun h => h46 (UInt8.toNat_inj.1 (Int.ofNat.inj h))
          have HR := hide hr
          clear hr
          go_wp2
          go_round
          case rel => exact ⟨j, m, j, rfl, rfl, by go_num, by omega, by omega, by omega, HR.out⟩
          case measure => simp [intOf]; omega
end Go.Proofs.YtgohllfpceeboaaGreatDoor
