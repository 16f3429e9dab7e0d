import Derived.Test.YtgohllfpceeboaaGreatDoorPrgA
import Derived.Test.YtgohllfpceeboaaGreatDoorMf
import Derived.Test.YtgohllfpceeboaaGreatDoorRefF
namespace Go.Proofs.YtgohllfpceeboaaGreatDoor
open Go.RowKit

/-- Where a slice of the call's own lies by now: where it lay, or in a block made since. -/
def Since (w : World) (r0 : Option Nat) (v : Value) : Prop := v.ownBlock = r0 ∨ ∃ g, v.ownBlock = some g ∧ w.heap.size ≤ g
theorem grown_refl (w : World) (r : Option Nat) : w.grownBy w r := ⟨rfl, rfl, rfl, Nat.le_refl _, fun _ _ _ => rfl⟩
theorem app_grown {w wr w1 : World} {r0 : Option Nat} {v : Value} {o : Obj} (hg : w.grownBy wr r0) (hx : Since w r0 v) (h : (wr.alloc o).grownBy w1 v.ownBlock) : w.grownBy w1 r0 := by
  have hs : wr.heap.size ≤ (wr.alloc o).heap.size := by simp
  refine ⟨h.os.trans hg.os, h.tape.trans hg.tape, h.output.trans hg.output, Nat.le_trans hg.size (Nat.le_trans hs h.size), fun k hk hne => ?_⟩
  have hk2 : k < wr.heap.size := Nat.lt_of_lt_of_le hk hg.size
  have e1 : some k ≠ v.ownBlock := by
    rcases hx with hx | ⟨g, hx, hg2⟩
    · rw [hx]; exact hne
    · rw [hx]; intro e; cases e; omega
  rw [h.block k (by simp; omega) e1, Below.heap_alloc _ _ _ hk2]
  exact hg.block k hk hne
theorem app_since {w wr : World} {r0 : Option Nat} {v : Value} {o : Obj} {g n cap : Nat} (hg : w.grownBy wr r0) (hx : Since w r0 v) (hat : v.ownBlock = some g ∨ g = (wr.alloc o).heap.size) : Since w r0 (.slice (some ⟨g, 0, none⟩) n cap) := by
  rcases hat with hat | hat
  · rcases hx with hx | ⟨g2, hx, hg2⟩
    · exact .inl (by rw [← hx, hat]; rfl)
    · right; refine ⟨g, rfl, ?_⟩; rw [hat] at hx; cases hx; exact hg2
  · right; refine ⟨g, rfl, ?_⟩; have := hg.size; simp at hat; omega

set_option maxRecDepth 100000 in
set_option maxHeartbeats 1000000 in
/-- code.appendNumber -/
theorem pnum_any (bs : List UInt8) (B : Nat) (v : Value) (d bias : Int) (w : World) (hB : B ≤ w.heap.size) (ho : w.ownsRow B 5 1 v bs.length (byV bs)) (hbs : bs.length ≤ 100000000000) (h1 : 0 ≤ d) (h2 : d ≤ 113000000) (h3 : 0 ≤ bias) (h4 : bias ≤ 1000000) :
    Calls Tryz.prog 178 #[v, .int .i64 d, .int .i64 bias] w fun e w' => ∃ v', e = .returned v' ∧ w'.ownsRow B 5 1 v' (bs ++ Sx.writ d 0 bias).length (byV (bs ++ Sx.writ d 0 bias)) ∧ w.grownBy w' v.ownBlock ∧ Since w v.ownBlock v' := by
  obtain ⟨i0, hi, hz0, hz1, hz2⟩ := info_parts Tryz.info5
  go_enter Tryz.func178, Tryz.ntmps178
  go_wp2
  go_loopw [0, 1, 7] (fun x n kk wr => ∃ (dd : Int) (k : Nat) (pre : List UInt8), n = .int .i64 dd ∧ kk = .int .i64 k ∧ 0 ≤ dd ∧ dd + k ≤ 113000000 ∧ pre.length ≤ 100000000000 + k ∧ pre ++ Sx.writ dd k bias = bs ++ Sx.writ d 0 bias ∧ wr.ownsRow B 5 1 x pre.length (byV pre) ∧ w.grownBy wr v.ownBlock ∧ Since w v.ownBlock x) (fun _ n _ _ => (intOf n).toNat)
  case atStart => exact ⟨d, 0, bs, rfl, rfl, by omega, by omega, by omega, rfl, ho, grown_refl _ _, .inl rfl⟩
  case round =>
    obtain ⟨dd, k, pre, rfl, rfl, g1, g2, g3, g5, hown, hgr, hsi⟩ := hrel
    have G := hide g5
    clear g5 ho
    have hsz := hgr.size
    have t1 := Sx.thr_lo k bias
    have t2 := Sx.thr_hi k bias
    obtain ⟨t, ht⟩ : ∃ t, Sx.thr k bias = t := ⟨_, rfl⟩
    have HT := hide ht
    by_cases hlt : Sx.thr k bias ≤ dd
    · have hs := Sx.step_lt dd _ t1 t2 hlt
      have hr : 0 ≤ (dd - Sx.thr k bias) % (36 - Sx.thr k bias) ∧ (dd - Sx.thr k bias) % (36 - Sx.thr k bias) < 36 - Sx.thr k bias := ⟨Int.emod_nonneg _ (by omega), Int.emod_lt_of_pos _ (by omega)⟩
      rw [ht] at t1 t2 hlt hs hr
      clear ht
      obtain ⟨c, hc⟩ : ∃ c, Sx.dig (t + (dd - t) % (36 - t)) = c := ⟨_, rfl⟩
      have HC := hide hc
      clear hc
      have hcl := c.toNat_lt
      go_wp2_with (first | (go_at_call 171; go_must (refine (pthr_any _ _ _ (by omega) (by omega) (by omega) (by omega)).mono ?_; rintro e w' ⟨rfl, rfl⟩; rw [HT.out])) | (go_at_call 225; go_must (refine (pdig_any _ _ (by omega) (by omega)).mono ?_; rintro e w' ⟨rfl, rfl⟩; rw [HC.out])) | (at_builtin; go_must (refine wpList_append_lies _ rfl _ _ _ rfl B 5 i0 (.int .u8 0) 1 1 Tryz.underlying58 hi hz0 hz1 hz2 rfl (by decide) _ _ _ rfl (hown.alloc _) ⟨_, 0, none⟩ 1 1 [.int .u8 c.toNat] rfl rfl (cell_one_new _ _ _) (by simp [Value.oneCell']) (by omega) (by unfold maxLen; omega) (by omega) (by simp; omega) _ rfl ?_; intro g cap w1 hown1 hgrow hat hlt1)))
      refine ⟨⟨(dd - t) / (36 - t), k + 1, pre ++ [c], rfl, by go_num, by omega, by omega, by simp; omega, ?_, ?_, app_grown hgr hsi hgrow, app_since hgr hsi hat⟩, by simp [intOf]; omega⟩
      · rw [← G.out, Sx.writ_more dd k bias g1 (by rw [HT.out]; exact hlt), HT.out, HC.out]
        simp
      · rw [byV_app, List.length_append]; exact hown1
    · rw [ht] at t1 t2 hlt
      clear ht
      obtain ⟨c, hc⟩ : ∃ c, Sx.dig dd = c := ⟨_, rfl⟩
      have HC := hide hc
      clear hc
      have hcl := c.toNat_lt
      have hfin : bs ++ Sx.writ d 0 bias = pre ++ [c] := by rw [← G.out, Sx.writ_last dd k bias (by rw [HT.out]; exact hlt), HC.out]
      have HFIN := hide hfin
      clear hfin
      go_wp2_with (first | (go_at_call 171; go_must (refine (pthr_any _ _ _ (by omega) (by omega) (by omega) (by omega)).mono ?_; rintro e w' ⟨rfl, rfl⟩; rw [HT.out])) | (go_at_call 225; go_must (refine (pdig_any _ _ (by omega) (by omega)).mono ?_; rintro e w' ⟨rfl, rfl⟩; rw [HC.out])) | (at_builtin; go_must (refine wpList_append_lies _ rfl _ _ _ rfl B 5 i0 (.int .u8 0) 1 1 Tryz.underlying58 hi hz0 hz1 hz2 rfl (by decide) _ _ _ rfl (hown.alloc _) ⟨_, 0, none⟩ 1 1 [.int .u8 c.toNat] rfl rfl (cell_one_new _ _ _) (by simp [Value.oneCell']) (by omega) (by unfold maxLen; omega) (by omega) (by simp; omega) _ rfl ?_; intro g cap w1 hown1 hgrow hat hlt1)))
      go_ret
      refine ⟨.slice (some ⟨g, 0, none⟩) (pre.length + 1) cap, rfl, ?_, app_grown hgr hsi hgrow, app_since hgr hsi hat⟩
      rw [HFIN.out, byV_app, List.length_append]; exact hown1

set_option maxRecDepth 100000 in
set_option maxHeartbeats 1000000 in
/-- code.readNumber -/
theorem pread_any (s : ByteArray) (bias most : Int) (w : World) (hs : s.size ≤ 1000) (h3 : 0 ≤ bias) (h4 : bias ≤ 1000000) (h5 : 0 ≤ most) (h6 : most ≤ 1000000000) :
    Calls Tryz.prog 121 #[.string s, .int .i64 bias, .int .i64 most] w fun e w' => e = .returned (.tuple #[.int .i64 (Sx.rdF bias most 0 1 0 s.data.toList).1, .int .i64 (Sx.rdF bias most 0 1 0 s.data.toList).2]) ∧ w' = w := by
  obtain ⟨R, hR⟩ : ∃ R, Sx.rdF bias most 0 1 0 s.data.toList = R := ⟨_, rfl⟩
  rw [hR]
  have HR := hide hR
  clear hR
  go_enter Tryz.func121, Tryz.ntmps121
  go_wp2
  go_loop [6, 8, 14] (fun n ww kk => ∃ (k : Nat) (d wt : Int), n = .int .i64 d ∧ ww = .int .i64 wt ∧ kk = .int .i64 k ∧ k ≤ s.size ∧ 0 ≤ d ∧ d ≤ most ∧ 1 ≤ wt ∧ wt ≤ 36 * (most + 1) ∧ Sx.rdF bias most d wt k (s.data.toList.drop k) = R) (fun _ _ kk => (s.size - intOf kk).toNat)
  case atStart => exact ⟨0, 0, 1, rfl, rfl, rfl, by omega, by omega, by omega, by omega, by omega, by rw [List.drop_zero]; exact HR.out⟩
  case round =>
    obtain ⟨k, d, wt, rfl, rfl, rfl, hk, hd0, hd1, hw0, hw1, hq⟩ := hrel
    have HQ := hide hq
    clear hq
    by_cases hlt : k < s.size
    · have hlt2 : k < s.data.toList.length := by rw [ba_len]; exact hlt
      have hby := byte_at s k hlt hlt2
      have HBY := hide hby
      have hvb := Sx.valOf_bd s[k]
      obtain ⟨v, hv⟩ : ∃ v, Sx.valOf s[k] = v := ⟨_, rfl⟩
      rw [hv] at hvb
      have HV := hide hv
      have t1 := Sx.thr_lo k bias
      have t2 := Sx.thr_hi k bias
      obtain ⟨t, ht⟩ : ∃ t, Sx.thr k bias = t := ⟨_, rfl⟩
      rw [ht] at t1 t2
      have HT := hide ht
      have hq0 : 0 ≤ (most - d) / wt ∧ (most - d) / wt ≤ most - d := ⟨Int.ediv_nonneg (by omega) (by omega), Int.ediv_le_self _ (by omega)⟩
      have hne : wt ≠ 0 := by omega
      clear hv ht hby
      by_cases hvn : v < 0
      · have hfin : R = (0, 0) := by rw [← HQ.out]; exact Sx.rdF_no _ _ _ _ _ _ k hlt2 (.inl (by rw [HBY.out, HV.out]; exact hvn))
        have HF := hide hfin
        clear hfin
        go_wp2_with (go_at_call 170; go_must (refine (pval_any _ _).mono ?_; rintro e w' ⟨rfl, rfl⟩; rw [HV.out]))
        go_ret2
        exact ⟨by rw [HF.out]; rfl, rfl⟩
      · by_cases hvq : (most - d) / wt < v
        · have hfin : R = (0, 0) := by rw [← HQ.out]; exact Sx.rdF_no _ _ _ _ _ _ k hlt2 (.inr (by rw [HBY.out, HV.out]; exact hvq))
          have HF := hide hfin
          clear hfin
          have hd : decide (v < 0) = false := by simpa using hvn
          go_wp2_with (go_at_call 170; go_must (refine (pval_any _ _).mono ?_; rintro e w' ⟨rfl, rfl⟩; rw [HV.out]))
          go_ret2
          exact ⟨by rw [HF.out]; rfl, rfl⟩
        · have hprod : v * wt ≤ most - d := (Int.le_ediv_iff_mul_le (by omega)).1 (by omega)
          have hprod0 : 0 ≤ v * wt := Int.mul_nonneg (by omega) (by omega)
          have hd : decide (v < 0) = false := by simpa using hvn
          by_cases hvt : v < t
          · have hfin : R = (d + v * wt, (k : Int) + 1) := by rw [← HQ.out, Sx.rdF_last _ _ _ _ _ _ k hlt2 (by rw [HBY.out, HV.out]; omega) (by rw [HBY.out, HV.out, HT.out]; exact hvt), HBY.out, HV.out]
            have HF := hide hfin
            clear hfin
            go_wp2_with (first | (go_at_call 170; go_must (refine (pval_any _ _).mono ?_; rintro e w' ⟨rfl, rfl⟩; rw [HV.out])) | (go_at_call 171; go_must (refine (pthr_any _ _ _ (by omega) (by omega) (by omega) (by omega)).mono ?_; rintro e w' ⟨rfl, rfl⟩; rw [HT.out])))
            go_ret2
            exact ⟨by rw [HF.out]; rfl, rfl⟩
          · have hw2 : wt ≤ v * wt := by
              have : 1 * wt ≤ v * wt := Int.mul_le_mul_of_nonneg_right (by omega) (by omega)
              omega
            have hw3 : wt * (36 - t) ≤ wt * 35 := Int.mul_le_mul_of_nonneg_left (by omega) (by omega)
            have hw4 : wt * 1 ≤ wt * (36 - t) := Int.mul_le_mul_of_nonneg_left (by omega) (by omega)
            have hfin : Sx.rdF bias most (d + v * wt) (wt * (36 - t)) (k + 1) (s.data.toList.drop (k + 1)) = R := by
              rw [← HQ.out, Sx.rdF_more _ _ _ _ _ _ k hlt2 (by rw [HBY.out, HV.out]; omega) (by rw [HBY.out, HV.out, HT.out]; exact hvt), HBY.out, HV.out, HT.out]
            have HF := hide hfin
            clear hfin
            go_wp2_with (first | (go_at_call 170; go_must (refine (pval_any _ _).mono ?_; rintro e w' ⟨rfl, rfl⟩; rw [HV.out])) | (go_at_call 171; go_must (refine (pthr_any _ _ _ (by omega) (by omega) (by omega) (by omega)).mono ?_; rintro e w' ⟨rfl, rfl⟩; rw [HT.out])))
            exact ⟨⟨k + 1, _, _, rfl, rfl, by go_num, by omega, by omega, by omega, by omega, by omega, HF.out⟩, by simp [intOf]; omega⟩
    · have hfin : R = (0, 0) := by rw [← HQ.out]; exact Sx.rdF_end _ _ _ _ _ _ k (by rw [ba_len]; omega)
      have HF := hide hfin
      clear hfin
      go_wp2
      go_ret2
      exact ⟨by rw [HF.out]; rfl, rfl⟩
end Go.Proofs.YtgohllfpceeboaaGreatDoor
