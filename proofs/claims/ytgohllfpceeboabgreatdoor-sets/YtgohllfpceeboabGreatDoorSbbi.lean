import Derived.Test.YtgohllfpceeboabGreatDoorSbay
import Derived.Test.YtgohllfpceeboabGreatDoorSbaa
import Derived.Test.YtgohllfpceeboabGreatDoorProg
import Derived.Test.YtgohllfpceeboabGreatDoorSbab
namespace Go.Proofs.YtgohllfpceeboabGreatDoor
open Go.RowKit
theorem below_al2 {w W : World} (h : Below w.heap.size w W) (hz : w.heap.size ≤ W.heap.size) (o : Obj) : Below w.heap.size w (W.alloc o) := h.alloc hz o
set_option maxRecDepth 100000 in
set_option maxHeartbeats 2000000 in
/-- suffixkeep.upper -/
theorem kupper (s : ByteArray) (w : World) (hs : s.size ≤ 1000) : Calls Tryz.prog 18 #[.string s] w fun e w' => e = .returned (.string ⟨(Sx.upB s.data.toList).toArray⟩) ∧ Below w.heap.size w w' := by
  have hcv : ∀ (W : World) (x : UInt8), (convert 90 9 (.slice (some ⟨W.heap.size, 0, none⟩) 1 1)).run Tryz.prog (W.alloc (.cells #[.int .u8 x.toNat] 5)) = .ok (.string ⟨[x].toArray⟩) (W.alloc (.cells #[.int .u8 x.toNat] 5)) := fun W x => own_string (B := 0) (n := 1) (bs := [x]) ⟨by simp [byV], .inr ⟨W.heap.size, 1, _, rfl, Nat.zero_le _, heap_alloc_new _ _, by omega, by unfold maxLen; omega, rfl, rfl⟩⟩
  have HCV := hide hcv
  clear hcv
  go_enter Tryz.func18, Tryz.ntmps18
  go_wp2_with fail
  go_loopw [3, 4] (fun tv iv wr => ∃ (k : Nat) (t : List UInt8), tv = .string ⟨t.toArray⟩ ∧ iv = .int .i64 k ∧ k ≤ s.size ∧ t.length = k ∧ Sx.upB (s.data.toList.take k) = t ∧ Below w.heap.size w wr) (fun _ iv _ => (s.size - intOf iv).toNat)
  case atStart => exact ⟨0, [], rfl, rfl, by omega, rfl, rfl, Below.refl _ _⟩
  case round =>
    obtain ⟨k, t, rfl, rfl, hk, htl, ht, hB⟩ := hrel
    have HB := hide hB
    have hbz := hB.size
    by_cases hlt : k < s.size
    · have hlt2 : k < s.data.toList.length := by rw [ba_len]; exact hlt
      have hget : s.data.toList[k] = s[k] := rfl
      have hst : Sx.upB (s.data.toList.take (k + 1)) = t ++ [if 97 ≤ s[k] ∧ s[k] ≤ 122 then s[k] - 32 else s[k]] := by
        rw [List.take_succ_eq_append_getElem hlt2, ← ht]
        simp [Sx.upB, hget]
      obtain ⟨c, hc⟩ : ∃ c, s[k] = c := ⟨_, rfl⟩
      rw [hc] at hst
      have happ : ∀ x : UInt8, (⟨t.toArray⟩ : ByteArray) ++ ⟨[x].toArray⟩ = ⟨(t ++ [x]).toArray⟩ := fun x => ba_app t [x]
      have hts : (⟨t.toArray⟩ : ByteArray).size = k := htl
      have hxs : ∀ x : UInt8, (⟨[x].toArray⟩ : ByteArray).size = 1 := fun _ => rfl
      have hcl := c.toNat_lt
      clear hB hget ht
      by_cases hr : 97 ≤ c ∧ c ≤ 122
      · rw [if_pos hr] at hst
        have h1 : 97 ≤ c.toNat := UInt8.le_iff_toNat_le.1 hr.1
        have h2 : c.toNat ≤ 122 := UInt8.le_iff_toNat_le.1 hr.2
        obtain ⟨u, hu⟩ : ∃ u, c - 32 = u := ⟨_, rfl⟩
        have hun : (c.toNat : Int) - 32 = (u.toNat : Int) := by
          rw [← hu, UInt8.toNat_sub_of_le _ _ (UInt8.le_iff_toNat_le.2 (by simp; omega))]
          simp
          omega
        rw [hu] at hst
        have hul := u.toNat_lt
        have hcu := fun W => HCV.out W u
        have hau := happ u
        have hxu := hxs u
        have HST := hide hst
        clear hst hu hr happ hxs
        go_wp2
        exact ⟨⟨k + 1, t ++ [u], rfl, by go_num, by omega, by rw [List.length_append, htl]; rfl, HST.out, (below_al2 HB.out hbz _)⟩, by simp [intOf]; omega⟩
      · rw [if_neg hr] at hst
        have hcu := fun W => HCV.out W c
        have hau := happ c
        have hxu := hxs c
        have HST := hide hst
        by_cases h1 : 97 ≤ c.toNat
        · have h2 : ((c.toNat : Int) ≤ 122) = False := by
            simp
            by_cases h3 : c.toNat ≤ 122
            · exact absurd ⟨UInt8.le_iff_toNat_le.2 h1, UInt8.le_iff_toNat_le.2 h3⟩ hr
            · omega
          clear hst hr happ hxs
          go_wp2
          exact ⟨⟨k + 1, t ++ [c], rfl, by go_num, by omega, by rw [List.length_append, htl]; rfl, HST.out, (below_al2 HB.out hbz _)⟩, by simp [intOf]; omega⟩
        · have h2 : (97 ≤ (c.toNat : Int)) = False := by simp; omega
          clear hst hr happ hxs
          go_wp2
          exact ⟨⟨k + 1, t ++ [c], rfl, by go_num, by omega, by rw [List.length_append, htl]; rfl, HST.out, (below_al2 HB.out hbz _)⟩, by simp [intOf]; omega⟩
    · have hke : k = s.size := by omega
      have hfin : Sx.upB s.data.toList = t := by rw [← ht, List.take_of_length_le (by rw [ba_len]; omega)]
      have HF := hide hfin
      have hge : (k < s.size) = False := by simpa using hlt
      clear ht hfin hB hlt hke
      go_wp2
      go_ret
      rw [HF.out]
      exact ⟨rfl, HB.out⟩
end Go.Proofs.YtgohllfpceeboabGreatDoor

