import Derived.Test.YtgohllfpceeboabGreatDoorSbaa
import Derived.Test.YtgohllfpceeboabGreatDoorProg
import Derived.Test.YtgohllfpceeboabGreatDoorSbab
import Derived.Deep.QuietTactic
import Derived.BigQuiet
import Derived.WalkSmall
import Derived.Deep.RegionHeld3
import Derived.Deep.DrawnRows
namespace Go.Proofs.YtgohllfpceeboabGreatDoor
open Go.RowKit

/-- code.IsForeign -/
theorem pfor_any (c : Int) (w : World) : Calls Tryz.prog 132 #[.int .i32 c] w fun e w' => e = .returned (.bool (decide (128 ≤ c))) ∧ w' = w := by
  go_enter Tryz.func132, Tryz.ntmps132
  go_wp2
  go_ret
  exact ⟨rfl, rfl⟩
def isPl (c : Int) : Bool := decide (97 ≤ c ∧ c ≤ 122) || decide (48 ≤ c ∧ c ≤ 57) || decide (c = 45)
theorem ret_bool {a b : Bool} (h : a = b) : Ending.returned (.bool a) = .returned (.bool b) := by rw [h]
set_option maxHeartbeats 400000 in
/-- code.IsPlain -/
theorem pip_any (c : Int) (w : World) : Calls Tryz.prog 191 #[.int .i32 c] w fun e w' => e = .returned (.bool (isPl c)) ∧ w' = w := by
  obtain ⟨r, hr⟩ : ∃ r, isPl c = r := ⟨_, rfl⟩
  rw [hr]
  have HR := hide hr
  clear hr
  by_cases h1 : 97 ≤ c
  · by_cases h2 : c ≤ 122
    · have d1 : decide (97 ≤ c) = true := by simpa using h1
      have d2 : decide (c ≤ 122) = true := by simpa using h2
      go_enter Tryz.func191, Tryz.ntmps191
      go_wp2
      go_ret
      exact ⟨ret_bool (by rw [← HR.out]; simp [isPl, h1, h2]), rfl⟩
    · have d1 : decide (97 ≤ c) = true := by simpa using h1
      have d2 : decide (c ≤ 122) = false := by simpa using h2
      have d3 : decide (48 ≤ c) = true := by simp; omega
      have d4 : decide (c ≤ 57) = false := by simp; omega
      have d5 : (c == 45) = false := by simp; omega
      go_enter Tryz.func191, Tryz.ntmps191
      go_wp2
      go_ret
      exact ⟨ret_bool (by rw [← HR.out]; simp [isPl]; omega), rfl⟩
  · have d1 : decide (97 ≤ c) = false := by simpa using h1
    by_cases h3 : 48 ≤ c
    · have d3 : decide (48 ≤ c) = true := by simpa using h3
      by_cases h4 : c ≤ 57
      · have d4 : decide (c ≤ 57) = true := by simpa using h4
        go_enter Tryz.func191, Tryz.ntmps191
        go_wp2
        go_ret
        exact ⟨ret_bool (by rw [← HR.out]; simp [isPl, h3, h4]), rfl⟩
      · have d4 : decide (c ≤ 57) = false := by simpa using h4
        have d5 : (c == 45) = false := by simp; omega
        go_enter Tryz.func191, Tryz.ntmps191
        go_wp2
        go_ret
        exact ⟨ret_bool (by rw [← HR.out]; simp [isPl]; omega), rfl⟩
    · have d3 : decide (48 ≤ c) = false := by simpa using h3
      by_cases h5 : c = 45
      · have d5 : (c == 45) = true := by simpa using h5
        have H5 := hide h5
        clear h5
        go_enter Tryz.func191, Tryz.ntmps191
        go_wp2
        go_ret
        exact ⟨ret_bool (by rw [← HR.out]; simp [isPl, H5.out]), rfl⟩
      · have d5 : (c == 45) = false := by simpa using h5
        go_enter Tryz.func191, Tryz.ntmps191
        go_wp2
        go_ret
        exact ⟨ret_bool (by rw [← HR.out]; simp [isPl]; omega), rfl⟩
def runeOk (c : Int) : Bool := decide (0 ≤ c ∧ c < 55296) || decide (57343 < c ∧ c ≤ 1114111)
set_option maxHeartbeats 400000 in
/-- utf8.ValidRune -/
theorem pvr_any (c : Int) (w : World) : Calls Tryz.prog 165 #[.int .i32 c] w fun e w' => e = .returned (.bool (runeOk c)) ∧ w' = w := by
  obtain ⟨r, hr⟩ : ∃ r, runeOk c = r := ⟨_, rfl⟩
  rw [hr]
  have HR := hide hr
  clear hr
  by_cases h1 : 0 ≤ c ∧ c < 55296
  · obtain ⟨h1, h2⟩ := h1
    go_enter Tryz.func165, Tryz.ntmps165
    go_wp2
    go_ret
    exact ⟨ret_bool (by rw [← HR.out]; simp [runeOk]; omega), rfl⟩
  · by_cases h3 : 57343 < c
    · have h2 : ¬ c < 55296 := by omega
      have h0 : 0 ≤ c := by omega
      clear h1
      by_cases h4 : c ≤ 1114111
      · go_enter Tryz.func165, Tryz.ntmps165
        go_wp2
        go_ret
        exact ⟨ret_bool (by rw [← HR.out]; simp [runeOk]; omega), rfl⟩
      · go_enter Tryz.func165, Tryz.ntmps165
        go_wp2
        go_ret
        exact ⟨ret_bool (by rw [← HR.out]; simp [runeOk]; omega), rfl⟩
    · by_cases h0 : 0 ≤ c
      · have h2 : ¬ c < 55296 := by omega
        clear h1
        go_enter Tryz.func165, Tryz.ntmps165
        go_wp2
        go_ret
        exact ⟨ret_bool (by rw [← HR.out]; simp [runeOk]; omega), rfl⟩
      · clear h1
        go_enter Tryz.func165, Tryz.ntmps165
        go_wp2
        go_ret
        exact ⟨ret_bool (by rw [← HR.out]; simp [runeOk]; omega), rfl⟩

/-- The last c among the first k bytes; -1: there is none. -/
def lastTo (s : List UInt8) (c : UInt8) : Nat → Int
  | 0 => -1
  | k + 1 => if s.getD k 0 = c then (k : Int) else lastTo s c k
theorem lastTo_dash (s : List UInt8) (k : Nat) : lastTo s 45 k = Sx.dashTo s k := by
  induction k with
  | zero => rfl
  | succ k ih => simp only [lastTo, Sx.dashTo, ih]
set_option maxHeartbeats 400000 in
/-- bytealg.LastIndexByteString -/
theorem plast0_any (s : ByteArray) (c : UInt8) (w : World) (hs : s.size ≤ 1000000) : Calls Tryz.prog 186 #[.string s, .int .u8 c.toNat] w fun e w' => e = .returned (.int .i64 (lastTo s.data.toList c s.size)) ∧ w' = w := by
  obtain ⟨r, hr⟩ : ∃ r, lastTo s.data.toList c s.size = r := ⟨_, rfl⟩
  rw [hr]
  have HR := hide hr
  clear hr
  go_enter Tryz.func186, Tryz.ntmps186
  go_wp2
  go_loop [5] (fun i => ∃ k : Nat, i = .int .i64 ((k : Int) - 1) ∧ k ≤ s.size ∧ lastTo s.data.toList c k = r) (fun i => (intOf i + 1).toNat)
  case atStart => exact ⟨s.size, by go_num, by omega, HR.out⟩
  case round =>
    obtain ⟨k, rfl, hk, hq⟩ := hrel
    have HQ := hide hq
    clear hq
    cases k with
    | zero =>
      go_wp2
      go_ret
      exact ⟨ret_int (by rw [← HQ.out]; rfl), rfl⟩
    | succ k =>
      have hlt : k < s.size := by omega
      have hst : lastTo s.data.toList c (k + 1) = if s[k] = c then (k : Int) else lastTo s.data.toList c k := by
        simp only [lastTo]; rw [ba_get s k hlt]
      rw [show (((k + 1 : Nat) : Int) - 1) = (k : Int) from by omega]
      by_cases hc : s[k] = c
      · have hb : ((s[k].toNat : Int) == (c.toNat : Int)) = true := by rw [hc]; simp
        have hv : r = (k : Int) := by rw [← HQ.out, hst, if_pos hc]
        have HV := hide hv
        clear hst hc hv
        go_wp2
        go_ret
        exact ⟨ret_int HV.out.symm, rfl⟩
      · have hb : ((s[k].toNat : Int) == (c.toNat : Int)) = false := by
          simp only [beq_eq_false_iff_ne, ne_eq]
          intro h; apply hc; apply UInt8.toNat.inj; omega
        have hv : lastTo s.data.toList c k = r := by rw [← HQ.out, hst, if_neg hc]
        have HV := hide hv
        clear hst hc hv
        go_wp2
        go_round
        case rel => exact ⟨k, by go_num, by omega, HV.out⟩
        case measure => simp [intOf]
/-- strings.LastIndexByte -/
theorem plast_any (s : ByteArray) (c : UInt8) (w : World) (hs : s.size ≤ 1000000) : Calls Tryz.prog 129 #[.string s, .int .u8 c.toNat] w fun e w' => e = .returned (.int .i64 (lastTo s.data.toList c s.size)) ∧ w' = w := by
  go_enter Tryz.func129, Tryz.ntmps129
  go_wp2_with (go_at_call 186; go_must (refine (plast0_any _ _ _ hs).mono ?_; rintro e w' ⟨rfl, rfl⟩))
  go_ret
  exact ⟨rfl, rfl⟩
theorem ba_none (s : ByteArray) : s.extract 0 0 = ⟨#[]⟩ := by apply ByteArray.ext; simp
theorem ba_all (s : ByteArray) : s.extract 0 s.size = s := by apply ByteArray.ext; rw [ByteArray.data_extract]; simp
set_option maxHeartbeats 400000 in
/-- code.split -/
theorem psplit_any (s : ByteArray) (w : World) (hs : s.size ≤ 1000000) : Calls Tryz.prog 160 #[.string s] w fun e w' => e = .returned (.tuple #[.string (s.extract 0 (Sx.dash s.data.toList).toNat), .string (s.extract (Sx.dash s.data.toList + 1).toNat s.size)]) ∧ ∃ q, w' = w.drewN q := by
  have hd : lastTo s.data.toList 45 s.size = Sx.dash s.data.toList := by rw [lastTo_dash]; unfold Sx.dash; rw [ba_len]
  have hbd := Sx.dashTo_bd s.data.toList s.size
  have hbd2 : -1 ≤ Sx.dash s.data.toList ∧ Sx.dash s.data.toList < s.size := by unfold Sx.dash; rw [ba_len]; exact hbd
  obtain ⟨a, ha⟩ : ∃ a, Sx.dash s.data.toList = a := ⟨_, rfl⟩
  rw [ha] at hd hbd2 ⊢
  have HD := hide hd
  clear hd hbd ha
  obtain ⟨ha0, ha1⟩ := hbd2
  by_cases hn : a < 0
  · have hm : a = -1 := by omega
    go_enter Tryz.func160, Tryz.ntmps160
    go_wp2_with (go_at_call 129; go_must (refine (plast_any s 45 _ hs).mono ?_; rintro e w' ⟨rfl, rfl⟩; rw [HD.out]))
    go_ret2
    refine ⟨?_, 0, rfl⟩
    rw [show a.toNat = 0 from by omega, show (a + 1).toNat = 0 from by omega, ba_none, ba_all]
    rfl
  · go_enter Tryz.func160, Tryz.ntmps160
    go_wp2_with (go_at_call 129; go_must (refine (plast_any s 45 _ hs).mono ?_; rintro e w' ⟨rfl, rfl⟩; rw [HD.out]))
    go_quiet ((fail))
    go_wp2
    go_ret2
    exact ⟨rfl, _, rfl⟩

def prefixB (s p : List UInt8) : Bool := decide (p.length ≤ s.length) && (s.take p.length == p)
def suffixB (s p : List UInt8) : Bool := decide (p.length ≤ s.length) && (s.drop (s.length - p.length) == p)
set_option maxHeartbeats 400000 in
/-- stringslite.HasPrefix -/
theorem phas0_any (s p : ByteArray) (w : World) : Calls Tryz.prog 170 #[.string s, .string p] w fun e w' => e = .returned (.bool (prefixB s.data.toList p.data.toList)) ∧ w' = w := by
  by_cases h : p.size ≤ s.size
  · have hd : decide ((p.size : Int) ≤ (s.size : Int)) = true := by simp; omega
    have hf : prefixB s.data.toList p.data.toList = ((s.extract 0 p.size).toList == p.toList) := by
      unfold prefixB
      have a1 : decide (p.size ≤ s.size) = true := by simpa using h
      rw [ba_len, ba_len, a1, ByteArray.toList_eq, ByteArray.toList_eq, ba_take]; rfl
    have HF := hide hf
    clear hf
    go_enter Tryz.func170, Tryz.ntmps170
    go_wp2
    go_ret
    exact ⟨ret_bool (by rw [HF.out]), rfl⟩
  · have hd : decide ((p.size : Int) ≤ (s.size : Int)) = false := by simp; omega
    have hf : prefixB s.data.toList p.data.toList = false := by
      unfold prefixB
      have a1 : decide (p.size ≤ s.size) = false := by simpa using h
      rw [ba_len, ba_len, a1]; rfl
    have HF := hide hf
    clear hf
    go_enter Tryz.func170, Tryz.ntmps170
    go_wp2
    go_ret
    exact ⟨ret_bool (by rw [HF.out]), rfl⟩
/-- strings.HasPrefix -/
theorem phas_any (s p : ByteArray) (w : World) : Calls Tryz.prog 119 #[.string s, .string p] w fun e w' => e = .returned (.bool (prefixB s.data.toList p.data.toList)) ∧ w' = w := by
  go_enter Tryz.func119, Tryz.ntmps119
  go_wp2_with (go_at_call 170; go_must (refine (phas0_any _ _ _).mono ?_; rintro e w' ⟨rfl, rfl⟩))
  go_ret
  exact ⟨rfl, rfl⟩
set_option maxHeartbeats 400000 in
/-- stringslite.HasSuffix -/
theorem psuf0_any (s p : ByteArray) (w : World) (hs : s.size ≤ 1000000) : Calls Tryz.prog 100 #[.string s, .string p] w fun e w' => e = .returned (.bool (suffixB s.data.toList p.data.toList)) ∧ w' = w := by
  by_cases h : p.size ≤ s.size
  · have hd : decide ((p.size : Int) ≤ (s.size : Int)) = true := by simp; omega
    have hf : suffixB s.data.toList p.data.toList = ((s.extract (s.size - p.size) s.size).toList == p.toList) := by
      unfold suffixB
      have a1 : decide (p.size ≤ s.size) = true := by simpa using h
      rw [ba_len, ba_len, a1, ByteArray.toList_eq, ByteArray.toList_eq, ba_drop]; rfl
    have HF := hide hf
    have hc : ((s.size : Int) - (p.size : Int)).toNat = s.size - p.size := by omega
    clear hf
    go_enter Tryz.func100, Tryz.ntmps100
    go_wp2
    go_ret
    exact ⟨ret_bool (by rw [HF.out]), rfl⟩
  · have hd : decide ((p.size : Int) ≤ (s.size : Int)) = false := by simp; omega
    have hf : suffixB s.data.toList p.data.toList = false := by
      unfold suffixB
      have a1 : decide (p.size ≤ s.size) = false := by simpa using h
      rw [ba_len, ba_len, a1]; rfl
    have HF := hide hf
    clear hf
    go_enter Tryz.func100, Tryz.ntmps100
    go_wp2
    go_ret
    exact ⟨ret_bool (by rw [HF.out]), rfl⟩
/-- strings.HasSuffix -/
theorem psuf_any (s p : ByteArray) (w : World) (hs : s.size ≤ 1000000) : Calls Tryz.prog 65 #[.string s, .string p] w fun e w' => e = .returned (.bool (suffixB s.data.toList p.data.toList)) ∧ w' = w := by
  go_enter Tryz.func65, Tryz.ntmps65
  go_wp2_with (go_at_call 100; go_must (refine (psuf0_any _ _ _ hs).mono ?_; rintro e w' ⟨rfl, rfl⟩))
  go_ret
  exact ⟨rfl, rfl⟩
set_option maxHeartbeats 400000 in
/-- stringslite.CutPrefix -/
theorem pcut0_any (s p : ByteArray) (w : World) : Calls Tryz.prog 159 #[.string s, .string p] w fun e w' => e = .returned (.tuple #[.string (if prefixB s.data.toList p.data.toList then s.extract p.size s.size else s), .bool (prefixB s.data.toList p.data.toList)]) ∧ w' = w := by
  have hpl : prefixB s.data.toList p.data.toList = true → p.size ≤ s.size := by
    intro h; unfold prefixB at h; rw [ba_len, ba_len] at h; simp at h; exact h.1
  obtain ⟨r, hr⟩ : ∃ r, prefixB s.data.toList p.data.toList = r := ⟨_, rfl⟩
  rw [hr] at hpl ⊢
  have HR := hide hr
  clear hr
  cases r with
  | true =>
    have hple := hpl rfl
    clear hpl
    go_enter Tryz.func159, Tryz.ntmps159
    go_wp2_with (go_at_call 170; go_must (refine (phas0_any _ _ _).mono ?_; rintro e w' ⟨rfl, rfl⟩; rw [HR.out]))
    go_ret2
    exact ⟨rfl, rfl⟩
  | false =>
    clear hpl
    go_enter Tryz.func159, Tryz.ntmps159
    go_wp2_with (go_at_call 170; go_must (refine (phas0_any _ _ _).mono ?_; rintro e w' ⟨rfl, rfl⟩; rw [HR.out]))
    go_ret2
    exact ⟨rfl, rfl⟩
/-- strings.CutPrefix -/
theorem pcut_any (s p : ByteArray) (w : World) : Calls Tryz.prog 114 #[.string s, .string p] w fun e w' => e = .returned (.tuple #[.string (if prefixB s.data.toList p.data.toList then s.extract p.size s.size else s), .bool (prefixB s.data.toList p.data.toList)]) ∧ w' = w := by
  go_enter Tryz.func114, Tryz.ntmps114
  go_wp2_with (go_at_call 159; go_must (refine (pcut0_any _ _ _).mono ?_; rintro e w' ⟨rfl, rfl⟩))
  all_goals
    go_ret2
    exact ⟨rfl, rfl⟩

set_option maxHeartbeats 400000 in
theorem phl_any (a b : ByteArray) (w : World) : Calls Tryz.prog 134 #[.agg #[.string a, .string b]] w fun e w' => e = .returned (.bool (!a.data.toList.isEmpty)) ∧ Below w.heap.size w w' := by
  have hf : (!a.toList.isEmpty) = (!a.data.toList.isEmpty) := by rw [ByteArray.toList_eq]
  have HF := hide hf
  clear hf
  go_enter Tryz.func134, Tryz.ntmps134
  go_wp2
  go_ret
  exact ⟨ret_bool (by rw [← HF.out]), (Below.refl _ _).alloc (Nat.le_refl _) _⟩
set_option maxHeartbeats 400000 in
theorem psh_any (a b : ByteArray) (w : World) : Calls Tryz.prog 136 #[.agg #[.string a, .string b]] w fun e w' => e = .returned (.bool (decide (b.size ≤ 20))) ∧ Below w.heap.size w w' := by
  have hf : decide ((b.size : Int) ≤ 20) = decide (b.size ≤ 20) := by rw [Bool.eq_iff_iff]; simp; omega
  have HF := hide hf
  clear hf
  go_enter Tryz.func136, Tryz.ntmps136
  go_wp2
  go_ret
  exact ⟨ret_bool HF.out, (Below.refl _ _).alloc (Nat.le_refl _) _⟩
set_option maxHeartbeats 400000 in
theorem ppf_any (a b : ByteArray) (w : World) : Calls Tryz.prog 33 #[.agg #[.string a, .string b]] w fun e w' => e = .returned (.string b) ∧ Below w.heap.size w w' := by
  go_enter Tryz.func33, Tryz.ntmps33
  go_wp2
  go_ret
  exact ⟨rfl, (Below.refl _ _).alloc (Nat.le_refl _) _⟩
set_option maxHeartbeats 400000 in
theorem phy_any (a b : ByteArray) (w : World) (hs : b.size ≤ 1000000) : Calls Tryz.prog 137 #[.agg #[.string a, .string b]] w fun e w' => e = .returned (.bool (!prefixB b.data.toList [45] && !suffixB b.data.toList [45])) ∧ Below w.heap.size w w' := by
  obtain ⟨p, hp⟩ : ∃ p, prefixB b.data.toList [45] = p := ⟨_, rfl⟩
  obtain ⟨q, hq⟩ : ∃ q, suffixB b.data.toList [45] = q := ⟨_, rfl⟩
  rw [hp, hq]
  have HP := hide hp
  have HQ := hide hq
  clear hp hq
  cases p with
  | true =>
    go_enter Tryz.func137, Tryz.ntmps137
    go_wp2_with (go_at_call 119; go_must (refine (phas_any _ _ _).mono ?_; rintro e w' ⟨rfl, rfl⟩; rw [HP.out]))
    go_ret
    exact ⟨rfl, (Below.refl _ _).alloc (Nat.le_refl _) _⟩
  | false =>
    go_enter Tryz.func137, Tryz.ntmps137
    go_wp2_with (first | (go_at_call 119; go_must (refine (phas_any _ _ _).mono ?_; rintro e w' ⟨rfl, rfl⟩; rw [HP.out])) | (go_at_call 65; go_must (refine (psuf_any _ _ _ hs).mono ?_; rintro e w' ⟨rfl, rfl⟩; rw [HQ.out])))
    go_ret
    exact ⟨ret_bool (by simp), (Below.refl _ _).alloc (Nat.le_refl _) _⟩
end Go.Proofs.YtgohllfpceeboabGreatDoor
namespace Go.Proofs.YtgohllfpceeboabGreatDoor
open Go.RowKit

/-- code.threshold -/
theorem pthr_any (k bias : Int) (w : World) (h1 : 0 ≤ k) (h2 : k ≤ 1000000000) (h3 : 0 ≤ bias) (h4 : bias ≤ 1000000) :
    Calls Tryz.prog 214 #[.int .i64 k, .int .i64 bias] w fun e w' => e = .returned (.int .i64 (Sx.thr k bias)) ∧ w' = w := by
  by_cases ha : 36 * (k + 1) - bias < 1
  · go_enter Tryz.func214, Tryz.ntmps214
    go_wp2
    all_goals (try (exfalso; omega))
    go_ret
    exact ⟨ret_int (by unfold Sx.thr; rw [if_pos (by omega)]), rfl⟩
  · by_cases hb : 26 < 36 * (k + 1) - bias
    · go_enter Tryz.func214, Tryz.ntmps214
      go_wp2
      all_goals (try (exfalso; omega))
      go_ret
      exact ⟨ret_int (by unfold Sx.thr; rw [if_neg (by omega), if_pos (by omega)]), rfl⟩
    · go_enter Tryz.func214, Tryz.ntmps214
      go_wp2
      all_goals (try (exfalso; omega))
      go_ret
      exact ⟨ret_int (by unfold Sx.thr; rw [if_neg (by omega), if_neg (by omega)]), rfl⟩
/-- code.digit -/
theorem pdig_any (x : Int) (w : World) (h0 : 0 ≤ x) (h1 : x < 36) :
    Calls Tryz.prog 234 #[.int .i64 x] w fun e w' => e = .returned (.int .u8 (Sx.dig x).toNat) ∧ w' = w := by
  by_cases h : x < 26
  · have hd : ((Sx.dig x).toNat : Int) = 97 + x := by unfold Sx.dig; rw [if_pos h]; simp only [UInt8.toNat_ofNat']; omega
    have HD := hide hd
    clear hd
    go_enter Tryz.func234, Tryz.ntmps234
    go_wp2
    go_ret
    exact ⟨ret_int HD.out.symm, rfl⟩
  · have hd : ((Sx.dig x).toNat : Int) = 48 + x - 26 := by unfold Sx.dig; rw [if_neg h]; simp only [UInt8.toNat_ofNat']; omega
    have HD := hide hd
    clear hd
    go_enter Tryz.func234, Tryz.ntmps234
    go_wp2
    go_ret
    exact ⟨ret_int HD.out.symm, rfl⟩
/-- code.valueOf -/
theorem pval_any (c : UInt8) (w : World) :
    Calls Tryz.prog 213 #[.int .u8 c.toNat] w fun e w' => e = .returned (.int .i64 (Sx.valOf c)) ∧ w' = w := by
  have hc := c.toNat_lt
  by_cases h1 : 97 ≤ c.toNat ∧ c.toNat ≤ 122
  · have hd : Sx.valOf c = (c.toNat : Int) - 97 := by unfold Sx.valOf; rw [if_pos h1]
    have HD := hide hd
    clear hd
    obtain ⟨h1, h2⟩ := h1
    go_enter Tryz.func213, Tryz.ntmps213
    go_wp2
    all_goals go_ret
    all_goals exact ⟨ret_int HD.out.symm, rfl⟩
  · by_cases h2 : 48 ≤ c.toNat ∧ c.toNat ≤ 57
    · have hd : Sx.valOf c = (c.toNat : Int) - 48 + 26 := by unfold Sx.valOf; rw [if_neg h1, if_pos h2]; omega
      have HD := hide hd
      clear hd
      obtain ⟨h2, h3⟩ := h2
      have h4 : ¬ 97 ≤ c.toNat := by omega
      clear h1
      go_enter Tryz.func213, Tryz.ntmps213
      go_wp2
      all_goals go_ret
      all_goals exact ⟨ret_int HD.out.symm, rfl⟩
    · have hd : Sx.valOf c = -1 := by unfold Sx.valOf; rw [if_neg h1, if_neg h2]
      have HD := hide hd
      clear hd
      have H1 := hide h1
      have H2 := hide h2
      clear h1 h2
      by_cases a1 : 97 ≤ c.toNat
      · have a2 : ¬ c.toNat ≤ 122 := fun h => H1.out ⟨a1, h⟩
        have a3 : ¬ c.toNat ≤ 57 := by omega
        go_enter Tryz.func213, Tryz.ntmps213
        go_wp2
        all_goals go_ret
        all_goals exact ⟨ret_int HD.out.symm, rfl⟩
      · by_cases a2 : 48 ≤ c.toNat
        · have a3 : ¬ c.toNat ≤ 57 := fun h => H2.out ⟨a2, h⟩
          go_enter Tryz.func213, Tryz.ntmps213
          go_wp2
          all_goals go_ret
          all_goals exact ⟨ret_int HD.out.symm, rfl⟩
        · go_enter Tryz.func213, Tryz.ntmps213
          go_wp2
          all_goals go_ret
          all_goals exact ⟨ret_int HD.out.symm, rfl⟩

set_option maxHeartbeats 400000 in
/-- code.biasBehind -/
theorem pbias_any (d dm l : Int) (w : World) (h1 : 0 ≤ d) (h2 : d ≤ 1000000000000) (hd1 : 1 ≤ dm) (hd2 : dm ≤ 1000) (h3 : 1 ≤ l) (h4 : l ≤ 1000000) :
    Calls Tryz.prog 217 #[.int .i64 d, .int .i64 dm, .int .i64 l] w fun e w' => e = .returned (.int .i64 (Sx.bias1 (d / dm) l)) ∧ w' = w := by
  have k0 : 0 ≤ d / dm ∧ d / dm ≤ d := ⟨Int.ediv_nonneg h1 (by omega), Int.ediv_le_self _ h1⟩
  have k1 : 0 ≤ d / dm / l ∧ d / dm / l ≤ d / dm := ⟨Int.ediv_nonneg k0.1 (by omega), Int.ediv_le_self _ k0.1⟩
  have hne : l ≠ 0 := by omega
  have hne2 : dm ≠ 0 := by omega
  go_enter Tryz.func217, Tryz.ntmps217
  go_wp2
  go_loop [0, 7] (fun x n => ∃ dd nn : Int, x = .int .i64 dd ∧ n = .int .i64 nn ∧ 0 ≤ dd ∧ dd ≤ 3000000000000 ∧ 0 ≤ nn ∧ nn + dd ≤ 3000000000000 ∧ Sx.biasL dd nn = Sx.bias1 (d / dm) l) (fun x _ => (intOf x).toNat)
  case atStart => exact ⟨_, _, rfl, rfl, by omega, by omega, by omega, by omega, rfl⟩
  case round =>
    obtain ⟨dd, nn, rfl, rfl, g1, g2, g3, g4, g5⟩ := hrel
    have G := hide g5
    clear g5
    by_cases hlt : 455 < dd
    · go_wp2
      go_round
      case rel => exact ⟨dd / 35, nn + 36, rfl, rfl, by omega, by omega, by omega, by omega, by rw [← Sx.biasL_more dd nn hlt]; exact G.out⟩
      case measure => simp [intOf]; omega
    · have hp : 0 ≤ 36 * dd / (dd + 38) ∧ 36 * dd / (dd + 38) < 37 := ⟨Int.ediv_nonneg (by omega) (by omega), Int.ediv_lt_of_lt_mul (by omega) (by omega)⟩
      go_wp2
      go_ret
      exact ⟨ret_int (by rw [← G.out, Sx.biasL_last dd nn (by omega)]), rfl⟩
end Go.Proofs.YtgohllfpceeboabGreatDoor
namespace Go.Proofs.YtgohllfpceeboabGreatDoor
open Go.RowKit

/-- The row's state, in memory. -/
structure RowAt (w : World) (b : Nat) (n i L bias dm : Int) : Prop where
  lt : b < w.heap.size
  c0 : w.cell? ⟨b, 0, none⟩ = some (.int .i64 n)
  c1 : w.cell? ⟨b, 1, none⟩ = some (.int .i64 i)
  c2 : w.cell? ⟨b, 2, none⟩ = some (.int .i64 L)
  c3 : w.cell? ⟨b, 3, none⟩ = some (.int .i64 bias)
  c4 : w.cell? ⟨b, 4, none⟩ = some (.int .i64 dm)
  fz : ∀ j, w.frozen? ⟨b, j, none⟩ = false
theorem RowAt.below {w w' : World} {b B : Nat} {n i L bias dm : Int} (h : RowAt w b n i L bias dm) (hb : Below B w w') (hlt : b < B) : RowAt w' b n i L bias dm :=
  ⟨Nat.lt_of_lt_of_le h.lt hb.size, (hb.cell (p := ⟨b, 0, none⟩) hlt).trans h.c0, (hb.cell (p := ⟨b, 1, none⟩) hlt).trans h.c1, (hb.cell (p := ⟨b, 2, none⟩) hlt).trans h.c2, (hb.cell (p := ⟨b, 3, none⟩) hlt).trans h.c3, (hb.cell (p := ⟨b, 4, none⟩) hlt).trans h.c4, fun j => (hb.frozen (p := ⟨b, j, none⟩) hlt).trans (h.fz j)⟩

theorem RowAt.set0 {w : World} {b : Nat} {n i L bias dm : Int} (h : RowAt w b n i L bias dm) (x : Int) : RowAt (w.setCell ⟨b, 0, none⟩ (.int .i64 x)) b x i L bias dm :=
  ⟨by rw [World.size_setCell]; exact h.lt, World.cell?_setCell_same _ _ _ h.c0, (World.cell?_setCell_other _ _ _ _ (by simp)).trans h.c1, (World.cell?_setCell_other _ _ _ _ (by simp)).trans h.c2, (World.cell?_setCell_other _ _ _ _ (by simp)).trans h.c3, (World.cell?_setCell_other _ _ _ _ (by simp)).trans h.c4, fun j => (World.frozen?_setCell ..).trans (h.fz j)⟩
theorem RowAt.set1 {w : World} {b : Nat} {n i L bias dm : Int} (h : RowAt w b n i L bias dm) (x : Int) : RowAt (w.setCell ⟨b, 1, none⟩ (.int .i64 x)) b n x L bias dm :=
  ⟨by rw [World.size_setCell]; exact h.lt, (World.cell?_setCell_other _ _ _ _ (by simp)).trans h.c0, World.cell?_setCell_same _ _ _ h.c1, (World.cell?_setCell_other _ _ _ _ (by simp)).trans h.c2, (World.cell?_setCell_other _ _ _ _ (by simp)).trans h.c3, (World.cell?_setCell_other _ _ _ _ (by simp)).trans h.c4, fun j => (World.frozen?_setCell ..).trans (h.fz j)⟩
theorem RowAt.set2 {w : World} {b : Nat} {n i L bias dm : Int} (h : RowAt w b n i L bias dm) (x : Int) : RowAt (w.setCell ⟨b, 2, none⟩ (.int .i64 x)) b n i x bias dm :=
  ⟨by rw [World.size_setCell]; exact h.lt, (World.cell?_setCell_other _ _ _ _ (by simp)).trans h.c0, (World.cell?_setCell_other _ _ _ _ (by simp)).trans h.c1, World.cell?_setCell_same _ _ _ h.c2, (World.cell?_setCell_other _ _ _ _ (by simp)).trans h.c3, (World.cell?_setCell_other _ _ _ _ (by simp)).trans h.c4, fun j => (World.frozen?_setCell ..).trans (h.fz j)⟩
theorem RowAt.set3 {w : World} {b : Nat} {n i L bias dm : Int} (h : RowAt w b n i L bias dm) (x : Int) : RowAt (w.setCell ⟨b, 3, none⟩ (.int .i64 x)) b n i L x dm :=
  ⟨by rw [World.size_setCell]; exact h.lt, (World.cell?_setCell_other _ _ _ _ (by simp)).trans h.c0, (World.cell?_setCell_other _ _ _ _ (by simp)).trans h.c1, (World.cell?_setCell_other _ _ _ _ (by simp)).trans h.c2, World.cell?_setCell_same _ _ _ h.c3, (World.cell?_setCell_other _ _ _ _ (by simp)).trans h.c4, fun j => (World.frozen?_setCell ..).trans (h.fz j)⟩
theorem RowAt.set4 {w : World} {b : Nat} {n i L bias dm : Int} (h : RowAt w b n i L bias dm) (x : Int) : RowAt (w.setCell ⟨b, 4, none⟩ (.int .i64 x)) b n i L bias x :=
  ⟨by rw [World.size_setCell]; exact h.lt, (World.cell?_setCell_other _ _ _ _ (by simp)).trans h.c0, (World.cell?_setCell_other _ _ _ _ (by simp)).trans h.c1, (World.cell?_setCell_other _ _ _ _ (by simp)).trans h.c2, (World.cell?_setCell_other _ _ _ _ (by simp)).trans h.c3, World.cell?_setCell_same _ _ _ h.c4, fun j => (World.frozen?_setCell ..).trans (h.fz j)⟩
theorem grown_set {w w1 : World} {b : Nat} (h : w.grownBy w1 (some b)) (o : Nat) (v : Value) : w.grownBy (w1.setCell ⟨b, o, none⟩ v) (some b) :=
  ⟨h.os, h.tape, h.output, by rw [World.size_setCell]; exact h.size, fun k hk hne => by
    rw [heap_setCell_other _ _ _ _ (fun e => hne (by rw [e]))]; exact h.block k hk hne⟩
theorem grown_below {w w1 : World} {B : Nat} {r : Option Nat} (h : Below B w w1) (hB : w.heap.size ≤ B) : w.grownBy w1 r := ⟨h.os, h.tape, h.output, h.size, fun k hk _ => h.block k (by omega)⟩
theorem grown_drew {w w1 : World} {r : Option Nat} (h : w.grownBy w1 r) : w.grownBy w1.drew r := ⟨h.os, h.tape, h.output, h.size, h.block⟩
theorem RowAt.drew {w : World} {b : Nat} {n i L bias dm : Int} (h : RowAt w b n i L bias dm) : RowAt w.drew b n i L bias dm := ⟨h.lt, h.c0, h.c1, h.c2, h.c3, h.c4, h.fz⟩

set_option maxRecDepth 100000 in
set_option maxHeartbeats 400000 in
/-- (*code.row).most -/
theorem pmost_any (b : Nat) (n i L bias dm : Int) (w : World) (hR : RowAt w b n i L bias dm) (h0 : 128 ≤ n) (h1 : n ≤ 1114111) (h2 : 0 ≤ L) (h3 : L ≤ 1000) :
    Calls Tryz.prog 163 #[.pointer (some ⟨b, 0, none⟩)] w fun e w' => e = .returned (.int .i64 ((1114112 - n) * (L + 1))) ∧ ∃ q, w' = w.drewN q := by
  have hp0 : 0 ≤ (1114112 - n) * (L + 1) := Int.mul_nonneg (by omega) (by omega)
  have hp1 : (1114112 - n) * (L + 1) ≤ 1114112 * (L + 1) := Int.mul_le_mul_of_nonneg_right (by omega) (by omega)
  obtain ⟨hlt, c0, c1, c2, c3, c4, fz⟩ := hR
  go_enter Tryz.func163, Tryz.ntmps163
  go_wp2
  go_quiet ((fail))
  go_wp2
  go_ret
  exact ⟨rfl, _, rfl⟩

set_option maxRecDepth 100000 in
set_option maxHeartbeats 400000 in
/-- (*code.row).passed -/
theorem ppass_any (b : Nat) (n i L bias dm m j : Int) (w : World) (hR : RowAt w b n i L bias dm) (h0 : 128 ≤ n) (h1 : n ≤ 1114111) (h2 : 0 ≤ L) (h3 : L ≤ 1000) (h4 : -1 ≤ i) (h5 : i ≤ 1000) (h6 : n ≤ m) (h7 : m ≤ 1114111) (h8 : 0 ≤ j) (h9 : j ≤ 1000) :
    Calls Tryz.prog 190 #[.pointer (some ⟨b, 0, none⟩), .agg #[.int .i64 m, .int .i64 j]] w fun e w' => e = .returned (.int .i64 ((m - n) * (L + 1) + j - (i + 1))) ∧ Below w.heap.size w w' := by
  have hp0 : 0 ≤ (m - n) * (L + 1) := Int.mul_nonneg (by omega) (by omega)
  have hp1 : (m - n) * (L + 1) ≤ 1114112 * (L + 1) := Int.mul_le_mul_of_nonneg_right (by omega) (by omega)
  obtain ⟨hlt, c0, c1, c2, c3, c4, fz⟩ := hR
  go_enter Tryz.func190, Tryz.ntmps190
  go_wp2
  go_quiet ((fail))
  go_wp2
  go_ret
  exact ⟨rfl, below_drewN ((Below.refl _ _).alloc (Nat.le_refl _) _) _⟩

set_option maxRecDepth 100000 in
set_option maxHeartbeats 400000 in
/-- code.newRow -/
theorem prow_any (L : Int) (w : World) :
    Calls Tryz.prog 161 #[.int .i64 L] w fun e w' => e = .returned (.agg #[.int .i64 128, .int .i64 (-1), .int .i64 L, .int .i64 72, .int .i64 700]) ∧ Below w.heap.size w w' := by
  go_enter Tryz.func161, Tryz.ntmps161
  go_wp2
  exact bodyPost_ret (v := .agg #[.int .i64 128, .int .i64 (-1), .int .i64 L, .int .i64 72, .int .i64 700]) (by simp [results, Tryz.results161, go_sem]) rfl ⟨rfl, (Below.refl _ _).alloc (Nat.le_refl _) _⟩

set_option maxRecDepth 100000 in
set_option maxHeartbeats 1000000 in
/-- (*code.row).behind -/
theorem pbehind_any (b : Nat) (n i L bias dm d : Int) (w : World) (hR : RowAt w b n i L bias dm) (h0 : 128 ≤ n) (h1 : n ≤ 1114111) (h2 : 0 ≤ L) (h3 : L ≤ 1000) (h4 : -1 ≤ i) (h5 : i ≤ 1000) (h6 : 0 ≤ d) (h7 : d ≤ 10000000000) :
    Calls Tryz.prog 164 #[.pointer (some ⟨b, 0, none⟩), .int .i64 d] w fun e w' => e = .returned (.agg #[.int .i64 (n + (i + 1 + d) / (L + 1)), .int .i64 ((i + 1 + d) % (L + 1))]) ∧ Below w.heap.size w w' := by
  have hq0 : 0 ≤ (i + 1 + d) / (L + 1) ∧ (i + 1 + d) / (L + 1) ≤ i + 1 + d := ⟨Int.ediv_nonneg (by omega) (by omega), Int.ediv_le_self _ (by omega)⟩
  have hne : L + 1 ≠ 0 := by omega
  obtain ⟨hlt, c0, c1, c2, c3, c4, fz⟩ := hR
  have hn0 := World.new_ne w ⟨b, 0, none⟩ c0
  have hw1 : IntKind.i64.wrap (L + 1) = L + 1 := by rw [IntWalk.i64_left]; exact IntWalk.wrap64_in _ (by omega)
  have hwq : IntKind.i64.wrap ((i + 1 + d).tdiv (L + 1)) = (i + 1 + d) / (L + 1) := IntWalk.i64_quo _ _ (by omega)
  have hws : IntKind.i64.wrap (n + (i + 1 + d) / (L + 1)) = n + (i + 1 + d) / (L + 1) := by rw [IntWalk.i64_left]; exact IntWalk.wrap64_in _ (by omega)
  have hwm : (i + 1 + d).tmod (L + 1) = (i + 1 + d) % (L + 1) := Int.tmod_eq_emod_of_nonneg (by omega)
  have hz : (L + 1 == 0) = false := by simpa using hne
  go_enter Tryz.func164, Tryz.ntmps164
  go_wp2
  go_region_held3 (fun w' => w'.cell? ⟨b, 0, none⟩ = some (.int .i64 n) ∧ w'.cell? ⟨b, 2, none⟩ = some (.int .i64 L)) (go_keep) (fail)
  go_wp2
  exact bodyPost_ret (v := .agg #[.int .i64 (n + (i + 1 + d) / (L + 1)), .int .i64 ((i + 1 + d) % (L + 1))]) (by simp [results, Tryz.results164, go_sem]) rfl ⟨rfl, ((Below.refl _ _).alloc (Nat.le_refl _) _).drew⟩

theorem keep3 {W : World} {b : Nat} {x v4 v2 : Value} (c4 : W.cell? ⟨b, 4, none⟩ = some v4) (c2 : W.cell? ⟨b, 2, none⟩ = some v2) : (W.setCell ⟨b, 3, none⟩ x).drew.cell? ⟨b, 4, none⟩ = some v4 ∧ (W.setCell ⟨b, 3, none⟩ x).drew.cell? ⟨b, 2, none⟩ = some v2 := by
  constructor
  · show (W.setCell ⟨b, 3, none⟩ x).cell? ⟨b, 4, none⟩ = some v4
    exact (World.cell?_setCell_other _ _ _ _ (by simp)).trans c4
  · show (W.setCell ⟨b, 3, none⟩ x).cell? ⟨b, 2, none⟩ = some v2
    exact (World.cell?_setCell_other _ _ _ _ (by simp)).trans c2
theorem cell_of_new (w w1 : World) (c d : Value) (t : TypeId) (h : Below (w.heap.size + 1) (w.alloc (.cells #[c, d] t)) w1) : w1.cell? ⟨w.heap.size, 0, none⟩ = some c ∧ w1.cell? ⟨w.heap.size, 1, none⟩ = some d := by
  constructor
  · rw [h.cell (p := ⟨w.heap.size, 0, none⟩) (by simp), World.cell?_alloc_mark]; rfl
  · rw [h.cell (p := ⟨w.heap.size, 1, none⟩) (by simp), World.cell?_alloc_mark]; rfl

set_option maxRecDepth 100000 in
set_option maxHeartbeats 1000000 in
/-- (*code.row).take -/
theorem ptake_any (b : Nat) (n i L bias dm m j : Int) (w : World) (hR : RowAt w b n i L bias dm) (h0 : 128 ≤ n) (h1 : n ≤ 1114111) (h2 : 0 ≤ L) (h3 : L ≤ 100) (h4 : -1 ≤ i) (h5 : i ≤ 1000) (h6 : n ≤ m) (h7 : m ≤ 1114111) (h8 : 0 ≤ j) (h9 : j ≤ 1000) (hD : 0 ≤ (m - n) * (L + 1) + j - (i + 1)) (hdm : 1 ≤ dm) (hdm2 : dm ≤ 1000) :
    Calls Tryz.prog 167 #[.pointer (some ⟨b, 0, none⟩), .agg #[.int .i64 m, .int .i64 j]] w fun e w' => (∃ v, e = .returned v) ∧ RowAt w' b m j (L + 1) (Sx.bias1 (((m - n) * (L + 1) + j - (i + 1)) / dm) (L + 1)) 2 ∧ w.grownBy w' (some b) := by
  have hp1 : (m - n) * (L + 1) ≤ 1114112 * (L + 1) := Int.mul_le_mul_of_nonneg_right (by omega) (by omega)
  have hR2 : RowAt (w.alloc (.cells #[.int .i64 m, .int .i64 j] 234)) b n i L bias dm := hR.below ((Below.refl _ _).alloc (Nat.le_refl _) _) hR.lt
  have hlt := hR.lt
  have hpass := ppass_any b n i L bias dm m j _ hR2 h0 h1 h2 (by omega) h4 h5 h6 h7 h8 h9
  have HPASS := hide hpass
  have HR2 := hide hR2
  have HR := hide hR
  clear hpass hR2 hR
  go_enter Tryz.func167, Tryz.ntmps167
  go_wp2_with fail
  refine HPASS.out.mono ?_
  rintro e w1 ⟨rfl, hB⟩
  have hR3 := HR2.out.below hB (by simp; omega)
  rw [World.size_alloc] at hB
  obtain ⟨hn0, hn1⟩ := cell_of_new w w1 _ _ _ hB
  have hszz := hB.size
  have hRW := ((hR3.set0 m).set1 j).set2 (L + 1)
  have hgW : w.grownBy (((w1.setCell ⟨b, 0, none⟩ (.int .i64 m)).setCell ⟨b, 1, none⟩ (.int .i64 j)).setCell ⟨b, 2, none⟩ (.int .i64 (L + 1))) (some b) := grown_set (grown_set (grown_set (grown_below (((Below.refl _ _).alloc (Nat.le_refl _) _).trans (hB.mono (by omega))) (Nat.le_refl _)) _ _) _ _) _ _
  have HRW := hide hRW
  have HGW := hide hgW
  clear hRW hgW
  obtain ⟨hlt1, c0, c1, c2, c3, c4, fz⟩ := hR3
  obtain ⟨D, hDD⟩ : ∃ D, (m - n) * (L + 1) + j - (i + 1) = D := ⟨_, rfl⟩
  rw [hDD] at hD
  rw [hDD]
  have hD2 : D ≤ 1000000000 := by omega
  have hneb : w.heap.size ≠ b := by omega
  have hneb2 : b ≠ w.heap.size := by omega
  have HDD := hide hDD
  clear hDD hp1
  go_wp2
  clear c0 c1 c2 c3 c4 fz hn0 hn1 hB hszz hlt1
  generalize (((w1.setCell ⟨b, 0, none⟩ (.int .i64 m)).setCell ⟨b, 1, none⟩ (.int .i64 j)).setCell ⟨b, 2, none⟩ (.int .i64 (L + 1))) = W at HRW HGW ⊢
  obtain ⟨hltW, c0, c1, c2, c3, c4, fz⟩ := HRW.out
  go_region_held3 (fun w' => w'.cell? ⟨b, 4, none⟩ = some (.int .i64 dm) ∧ w'.cell? ⟨b, 2, none⟩ = some (.int .i64 (L + 1))) (first | exact keep3 c4 c2 | go_keep) ((go_at_call 217; refine (pbias_any D dm (L + 1) _ (by omega) (by omega) (by omega) (by omega) (by omega) (by omega)).mono ?_; rintro e w' ⟨rfl, rfl⟩))
  go_wp2
  go_end0
  exact ⟨⟨_, rfl⟩, by rw [HDD.out]; exact ((HRW.out.set3 _).set4 2).drew, grown_drew (grown_set (grown_set HGW.out _ _) _ _)⟩

theorem pnan_any (x : Int) (w : World) : Calls Tryz.prog 254 #[.int .i64 x] w fun e w' => e = .returned (.bool false) ∧ w' = w := by
  go_enter Tryz.func254, Tryz.ntmps254
  go_wp2
  go_ret
  exact ⟨rfl, rfl⟩
/-- How two numbers stand to each other. -/
def cmpI (x y : Int) : Int := if x < y then -1 else if y < x then 1 else 0
set_option maxHeartbeats 400000 in
/-- cmp.Compare at int -/
theorem pcmp_any (x y : Int) (w : World) : Calls Tryz.prog 247 #[.int .i64 x, .int .i64 y] w fun e w' => e = .returned (.int .i64 (cmpI x y)) ∧ w' = w := by
  by_cases h1 : x < y
  · have hf : cmpI x y = -1 := by unfold cmpI; rw [if_pos h1]
    have HF := hide hf
    clear hf
    go_enter Tryz.func247, Tryz.ntmps247
    go_wp2_with (go_at_call 254; go_must (refine (pnan_any _ _).mono ?_; rintro e w' ⟨rfl, rfl⟩))
    go_ret
    exact ⟨ret_int HF.out.symm, rfl⟩
  · by_cases h2 : y < x
    · have hf : cmpI x y = 1 := by unfold cmpI; rw [if_neg h1, if_pos h2]
      have HF := hide hf
      clear hf
      go_enter Tryz.func247, Tryz.ntmps247
      go_wp2_with (go_at_call 254; go_must (refine (pnan_any _ _).mono ?_; rintro e w' ⟨rfl, rfl⟩))
      go_ret
      exact ⟨ret_int HF.out.symm, rfl⟩
    · have hf : cmpI x y = 0 := by unfold cmpI; rw [if_neg h1, if_neg h2]
      have HF := hide hf
      clear hf
      go_enter Tryz.func247, Tryz.ntmps247
      go_wp2_with (go_at_call 254; go_must (refine (pnan_any _ _).mono ?_; rintro e w' ⟨rfl, rfl⟩))
      go_ret
      exact ⟨ret_int HF.out.symm, rfl⟩
set_option maxHeartbeats 400000 in
/-- (code.way).comparePoints -/
theorem pcw_any (m j m2 j2 : Int) (w : World) : Calls Tryz.prog 233 #[.agg #[.int .i64 m, .int .i64 j], .agg #[.int .i64 m2, .int .i64 j2]] w fun e w' => e = .returned (.int .i64 (cmpI m m2)) ∧ Below w.heap.size w w' := by
  go_enter Tryz.func233, Tryz.ntmps233
  go_wp2_with (go_at_call 247; go_must (refine (pcmp_any _ _ _).mono ?_; rintro e w' ⟨rfl, rfl⟩))
  go_ret
  exact ⟨rfl, ((Below.refl _ _).alloc (Nat.le_refl _) _).alloc (by simp) _⟩
end Go.Proofs.YtgohllfpceeboabGreatDoor

