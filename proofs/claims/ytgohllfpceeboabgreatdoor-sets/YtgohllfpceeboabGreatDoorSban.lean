import Derived.Test.YtgohllfpceeboabGreatDoorSbaa
import Derived.Test.YtgohllfpceeboabGreatDoorSbac
import Derived.Test.YtgohllfpceeboabGreatDoorSbai
import Derived.Test.YtgohllfpceeboabGreatDoorSbal
import Derived.Test.YtgohllfpceeboabGreatDoorProg
import Derived.Test.YtgohllfpceeboabGreatDoorSbab
import Derived.Laws.EntriesVeiled
namespace Go.Proofs.YtgohllfpceeboabGreatDoor
open Go.RowKit
attribute [local go_sem ↓] Go.wp_at_zero Go.wp_at_succ
/-- Whether a marked label's code is one. -/
def markB (b : List UInt8) : Bool := !prefixB b Sx.xn || Sx.codeOk (b.drop 4)
def shownB (b : List UInt8) : List UInt8 := if prefixB b Sx.xn then Sx.letOf (b.drop 4) else b
set_option maxRecDepth 100000 in
set_option maxHeartbeats 1000000 in
/-- (suffix.label).isCodeIfMarked -/
theorem picm_any (a b : ByteArray) (w : World) (hb : b.size ≤ 20) (hp : ∀ x ∈ b.data.toList, x.toNat < 128) :
    Calls Tryz.prog 138 #[.agg #[.string a, .string b]] w fun e w' => e = .returned (.bool (markB b.data.toList)) ∧ Below w.heap.size w w' := by
  obtain ⟨f, hf⟩ : ∃ f, prefixB b.data.toList [120, 110, 45, 45] = f := ⟨_, rfl⟩
  have hc : ∀ w : World, Calls Tryz.prog 114 #[.string b, .string ⟨#[120, 110, 45, 45]⟩] w fun e w' => e = .returned (.tuple #[.string (if f then b.extract 4 b.size else b), .bool f]) ∧ w' = w := fun w => by
    have := pcut_any b ⟨#[120, 110, 45, 45]⟩ w
    have e : prefixB b.data.toList (⟨#[120, 110, 45, 45]⟩ : ByteArray).data.toList = f := hf
    rw [e] at this
    exact this
  have hmk : markB b.data.toList = (!f || Sx.codeOk (b.data.toList.drop 4)) := by unfold markB; rw [show Sx.xn = [120, 110, 45, 45] from rfl, hf]
  have HMK := hide hmk
  have HC := hide hc
  have HF := hide hf
  have HP := hide hp
  clear hmk hc hf hp
  have hB0 : Below w.heap.size w (w.alloc (.cells #[.string a, .string b] 69)) := (Below.refl _ _).alloc (Nat.le_refl _) _
  cases f with
  | false =>
    go_enter Tryz.func138, Tryz.ntmps138
    go_wp2_with (go_at_call 114; go_must (refine (HC.out _).mono ?_; rintro e w' ⟨rfl, rfl⟩))
    go_ret
    exact ⟨ret_bool (by rw [HMK.out]; rfl), hB0⟩
  | true =>
    have hb4 : 4 ≤ b.size := by
      have := HF.out
      unfold prefixB at this
      simp at this
      omega
    obtain ⟨T, hT⟩ : ∃ T, b.extract 4 b.size = T := ⟨_, rfl⟩
    have hTl : T.data.toList = b.data.toList.drop 4 := by rw [← hT, ba_ext, ← ba_len, List.take_length]
    have hTz : T.size ≤ 16 := by rw [← ba_len, hTl, List.length_drop, ba_len]; omega
    have hl := fun w => plet_any T w hTz (fun x hx => HP.out x (by rw [hTl] at hx; exact List.mem_of_mem_drop hx))
    have hc2 : ∀ w : World, Calls Tryz.prog 114 #[.string b, .string ⟨#[120, 110, 45, 45]⟩] w fun e w' => e = .returned (.tuple #[.string T, .bool true]) ∧ w' = w := fun w => by
      have := HC.out w
      rw [if_pos rfl, hT] at this
      exact this
    rw [hTl] at hl
    have HL := hide hl
    have HC2 := hide hc2
    clear hl hc2 hT hTl
    obtain ⟨k, hk⟩ : ∃ k, Sx.codeOk (b.data.toList.drop 4) = k := ⟨_, rfl⟩
    rw [hk] at HL HMK
    clear hk
    go_enter Tryz.func138, Tryz.ntmps138
    go_wp2_with (first | (go_at_call 114; go_must (refine (HC2.out _).mono ?_; rintro e w' ⟨rfl, rfl⟩)) | (go_at_call 115; go_must (refine (HL.out _).mono ?_; rintro e w2 ⟨rfl, hB2⟩)))
    go_ret
    exact ⟨ret_bool (by rw [HMK.out]; cases k <;> rfl), hB0.trans (hB2.mono hB0.size)⟩
set_option maxRecDepth 100000 in
set_option maxHeartbeats 1000000 in
/-- (suffix.label).shownForm -/
theorem pshf_any (a b : ByteArray) (w : World) (hb : b.size ≤ 20) (hp : ∀ x ∈ b.data.toList, x.toNat < 128) :
    Calls Tryz.prog 73 #[.agg #[.string a, .string b]] w fun e w' => e = .returned (.string ⟨(shownB b.data.toList).toArray⟩) ∧ Below w.heap.size w w' := by
  obtain ⟨f, hf⟩ : ∃ f, prefixB b.data.toList [120, 110, 45, 45] = f := ⟨_, rfl⟩
  have hc : ∀ w : World, Calls Tryz.prog 114 #[.string b, .string ⟨#[120, 110, 45, 45]⟩] w fun e w' => e = .returned (.tuple #[.string (if f then b.extract 4 b.size else b), .bool f]) ∧ w' = w := fun w => by
    have := pcut_any b ⟨#[120, 110, 45, 45]⟩ w
    have e : prefixB b.data.toList (⟨#[120, 110, 45, 45]⟩ : ByteArray).data.toList = f := hf
    rw [e] at this
    exact this
  have hmk : shownB b.data.toList = if f then Sx.letOf (b.data.toList.drop 4) else b.data.toList := by unfold shownB; rw [show Sx.xn = [120, 110, 45, 45] from rfl, hf]
  have HMK := hide hmk
  have HC := hide hc
  have HF := hide hf
  have HP := hide hp
  clear hmk hc hf hp
  have hB0 : Below w.heap.size w (w.alloc (.cells #[.string a, .string b] 69)) := (Below.refl _ _).alloc (Nat.le_refl _) _
  cases f with
  | false =>
    go_enter Tryz.func73, Tryz.ntmps73
    go_wp2_with (go_at_call 114; go_must (refine (HC.out _).mono ?_; rintro e w' ⟨rfl, rfl⟩))
    go_ret
    exact ⟨ret_str (by rw [HMK.out, if_neg (by decide)]), hB0⟩
  | true =>
    have hb4 : 4 ≤ b.size := by
      have := HF.out
      unfold prefixB at this
      simp at this
      omega
    obtain ⟨T, hT⟩ : ∃ T, b.extract 4 b.size = T := ⟨_, rfl⟩
    have hTl : T.data.toList = b.data.toList.drop 4 := by rw [← hT, ba_ext, ← ba_len, List.take_length]
    have hTz : T.size ≤ 16 := by rw [← ba_len, hTl, List.length_drop, ba_len]; omega
    have hl := fun w => plet_any T w hTz (fun x hx => HP.out x (by rw [hTl] at hx; exact List.mem_of_mem_drop hx))
    have hc2 : ∀ w : World, Calls Tryz.prog 114 #[.string b, .string ⟨#[120, 110, 45, 45]⟩] w fun e w' => e = .returned (.tuple #[.string T, .bool true]) ∧ w' = w := fun w => by
      have := HC.out w
      rw [if_pos rfl, hT] at this
      exact this
    rw [hTl] at hl
    obtain ⟨L, hL⟩ : ∃ L : ByteArray, ⟨(Sx.letOf (b.data.toList.drop 4)).toArray⟩ = L := ⟨_, rfl⟩
    rw [hL] at hl
    have HL := hide hl
    have HC2 := hide hc2
    have HLL := hide hL
    clear hl hc2 hT hTl hL
    go_enter Tryz.func73, Tryz.ntmps73
    go_wp2_with (first | (go_at_call 114; go_must (refine (HC2.out _).mono ?_; rintro e w' ⟨rfl, rfl⟩)) | (go_at_call 115; go_must (refine (HL.out _).mono ?_; rintro e w2 ⟨rfl, hB2⟩)))
    go_ret
    exact ⟨ret_str (by rw [HMK.out, if_pos trivial, HLL.out]), hB0.trans (hB2.mono hB0.size)⟩
/-- All that a label must be. -/
def rightB (a b : List UInt8) (l : List Int) : Bool := !a.isEmpty && l.all okRune && decide (b.length ≤ 20) && (!prefixB b [45] && !suffixB b [45]) && markB b
set_option maxRecDepth 100000 in
set_option maxHeartbeats 4000000 in
/-- (suffix.label).isRight -/
theorem pir_any (a b : ByteArray) (l : List Int) (w : World) (hl : Sx.letters a.data.toList = some l) (ha : a.size ≤ 1000) (hb : b.size ≤ 100000) (hp : ∀ x ∈ b.data.toList, x.toNat < 128) :
    Calls Tryz.prog 86 #[.agg #[.string a, .string b]] w fun e w' => e = .returned (.bool (rightB a.data.toList b.data.toList l)) ∧ Below w.heap.size w w' := by
  have hRB : rightB a.data.toList b.data.toList l = (!a.data.toList.isEmpty && l.all okRune && decide (b.size ≤ 20) && (!prefixB b.data.toList [45] && !suffixB b.data.toList [45]) && markB b.data.toList) := by unfold rightB; rw [ba_len]
  have h1 := fun w => phl_any a b w
  have h2 := fun w => plo_any a b l w hl (by omega)
  have h3 := fun w => psh_any a b w
  have h4 := fun w => phy_any a b w (by omega)
  have h5 := fun (h : b.size ≤ 20) w => picm_any a b w h hp
  have hd3 : decide (b.size ≤ 20) = true → b.size ≤ 20 := fun h => by simpa using h
  obtain ⟨c1, e1⟩ : ∃ c, (!a.data.toList.isEmpty) = c := ⟨_, rfl⟩
  obtain ⟨c2, e2⟩ : ∃ c, l.all okRune = c := ⟨_, rfl⟩
  obtain ⟨c3, e3⟩ : ∃ c, decide (b.size ≤ 20) = c := ⟨_, rfl⟩
  obtain ⟨c4, e4⟩ : ∃ c, (!prefixB b.data.toList [45] && !suffixB b.data.toList [45]) = c := ⟨_, rfl⟩
  obtain ⟨c5, e5⟩ : ∃ c, markB b.data.toList = c := ⟨_, rfl⟩
  rw [e1, e2, e3, e4, e5] at hRB
  rw [e1] at h1
  rw [e2] at h2
  rw [e3] at h3 hd3
  rw [e4] at h4
  rw [e5] at h5
  have H1 := hide h1
  have H2 := hide h2
  have H3 := hide h3
  have H4 := hide h4
  have H5 := hide h5
  have HD3 := hide hd3
  have HRB := hide hRB
  clear h1 h2 h3 h4 h5 hd3 hRB e1 e2 e3 e4 e5 hp hl
  have hidx1 : ∀ w : World, (Instr.index 196 (.agg #[.func (.func 134) #[] #[], .func (.func 135) #[] #[], .func (.func 136) #[] #[], .func (.func 137) #[] #[], .func (.func 138) #[] #[]]) (.int .i64 0)).run Tryz.prog w = .ok (.func (.func 134) #[] #[]) w := fun w => by kernel_rfl
  have hidx2 : ∀ w : World, (Instr.index 196 (.agg #[.func (.func 134) #[] #[], .func (.func 135) #[] #[], .func (.func 136) #[] #[], .func (.func 137) #[] #[], .func (.func 138) #[] #[]]) (.int .i64 1)).run Tryz.prog w = .ok (.func (.func 135) #[] #[]) w := fun w => by kernel_rfl
  have hidx3 : ∀ w : World, (Instr.index 196 (.agg #[.func (.func 134) #[] #[], .func (.func 135) #[] #[], .func (.func 136) #[] #[], .func (.func 137) #[] #[], .func (.func 138) #[] #[]]) (.int .i64 2)).run Tryz.prog w = .ok (.func (.func 136) #[] #[]) w := fun w => by kernel_rfl
  have hidx4 : ∀ w : World, (Instr.index 196 (.agg #[.func (.func 134) #[] #[], .func (.func 135) #[] #[], .func (.func 136) #[] #[], .func (.func 137) #[] #[], .func (.func 138) #[] #[]]) (.int .i64 3)).run Tryz.prog w = .ok (.func (.func 137) #[] #[]) w := fun w => by kernel_rfl
  have hidx5 : ∀ w : World, (Instr.index 196 (.agg #[.func (.func 134) #[] #[], .func (.func 135) #[] #[], .func (.func 136) #[] #[], .func (.func 137) #[] #[], .func (.func 138) #[] #[]]) (.int .i64 4)).run Tryz.prog w = .ok (.func (.func 138) #[] #[]) w := fun w => by kernel_rfl
  go_enter Tryz.func86, Tryz.ntmps86
  go_wp2
  have hBW : Below w.heap.size w ((w.alloc (.cells #[.string a, .string b] 69)).alloc (.cells #[.func (.func 134) #[] #[], .func (.func 135) #[] #[], .func (.func 136) #[] #[], .func (.func 137) #[] #[], .func (.func 138) #[] #[]] 196)) := ((Below.refl _ w).alloc (Nat.le_refl _) _).alloc (by rw [World.size_alloc]; exact Nat.le_succ _) _
  have a1 : (w.alloc (.cells #[.string a, .string b] 69)).cell? ⟨w.heap.size, 0, none⟩ = some (.string a) := by rw [World.cell?_alloc_mark]; rfl
  have a2 : (w.alloc (.cells #[.string a, .string b] 69)).cell? ⟨w.heap.size, 1, none⟩ = some (.string b) := by rw [World.cell?_alloc_mark]; rfl
  have hBX : Below (w.heap.size + 1) (w.alloc (.cells #[.string a, .string b] 69)) ((w.alloc (.cells #[.string a, .string b] 69)).alloc (.cells #[.func (.func 134) #[] #[], .func (.func 135) #[] #[], .func (.func 136) #[] #[], .func (.func 137) #[] #[], .func (.func 138) #[] #[]] 196)) := (Below.refl _ _).alloc (by rw [World.size_alloc]; exact Nat.le_refl _) _
  have b1 := (hBX.cell (p := ⟨w.heap.size, 0, none⟩) (Nat.lt_succ_self _)).trans a1
  have b2 := (hBX.cell (p := ⟨w.heap.size, 1, none⟩) (Nat.lt_succ_self _)).trans a2
  have hsx : w.heap.size + 1 ≤ ((w.alloc (.cells #[.string a, .string b] 69)).alloc (.cells #[.func (.func 134) #[] #[], .func (.func 135) #[] #[], .func (.func 136) #[] #[], .func (.func 137) #[] #[], .func (.func 138) #[] #[]] 196)).heap.size := by rw [World.size_alloc, World.size_alloc]; exact Nat.le_succ _
  obtain ⟨W0, hW0⟩ : ∃ W0, ((w.alloc (.cells #[.string a, .string b] 69)).alloc (.cells #[.func (.func 134) #[] #[], .func (.func 135) #[] #[], .func (.func 136) #[] #[], .func (.func 137) #[] #[], .func (.func 138) #[] #[]] 196)) = W0 := ⟨_, rfl⟩
  rw [hW0] at hBW b1 b2 hsx ⊢
  clear hW0 hBX a1 a2
  go_loopw [8] (fun i wr => (i = .int .i64 0 ∨ (i = .int .i64 1 ∧ c1 = true) ∨ (i = .int .i64 2 ∧ c1 = true ∧ c2 = true) ∨ (i = .int .i64 3 ∧ c1 = true ∧ c2 = true ∧ c3 = true) ∨ (i = .int .i64 4 ∧ c1 = true ∧ c2 = true ∧ c3 = true ∧ c4 = true) ∨ (i = .int .i64 5 ∧ c1 = true ∧ c2 = true ∧ c3 = true ∧ c4 = true ∧ c5 = true)) ∧ Below (w.heap.size + 1) W0 wr) (fun i _ => (100 - intOf i).toNat)
  case atStart => exact ⟨.inl rfl, Below.refl _ _⟩
  case round =>
    obtain ⟨hcs, hB⟩ := hrel
    have d1 := (hB.cell (p := ⟨w.heap.size, 0, none⟩) (Nat.lt_succ_self _)).trans b1
    have d2 := (hB.cell (p := ⟨w.heap.size, 1, none⟩) (Nat.lt_succ_self _)).trans b2
    have hsz : w.heap.size + 1 ≤ wr.heap.size := Nat.le_trans hsx hB.size
    clear b1 b2
    rcases hcs with rfl | ⟨rfl, g1⟩ | ⟨rfl, g1, g2⟩ | ⟨rfl, g1, g2, g3⟩ | ⟨rfl, g1, g2, g3, g4⟩ | ⟨rfl, g1, g2, g3, g4, g5⟩
    · have hv : c1 = true ∨ c1 = false := by cases c1 <;> simp
      rcases hv with hv | hv
      · rw [hv] at H1
        go_wp2_with (go_at_call 134; go_must (refine (H1.out _).mono ?_; rintro e w2 ⟨rfl, hB2⟩))
        exact ⟨⟨.inr (.inl ⟨rfl, hv⟩), hB.trans (hB2.mono hsz)⟩, by decide⟩
      · rw [hv] at H1
        go_wp2_with (go_at_call 134; go_must (refine (H1.out _).mono ?_; rintro e w2 ⟨rfl, hB2⟩))
        go_ret
        exact ⟨ret_bool (by rw [HRB.out, hv]; simp), hBW.trans ((hB.trans (hB2.mono hsz)).mono (Nat.le_succ _))⟩
    · have hv : c2 = true ∨ c2 = false := by cases c2 <;> simp
      rcases hv with hv | hv
      · rw [hv] at H2
        go_wp2_with (go_at_call 135; go_must (refine (H2.out _).mono ?_; rintro e w2 ⟨rfl, hB2⟩))
        exact ⟨⟨.inr (.inr (.inl ⟨rfl, g1, hv⟩)), hB.trans (hB2.mono hsz)⟩, by decide⟩
      · rw [hv] at H2
        go_wp2_with (go_at_call 135; go_must (refine (H2.out _).mono ?_; rintro e w2 ⟨rfl, hB2⟩))
        go_ret
        exact ⟨ret_bool (by rw [HRB.out, g1, hv]; simp), hBW.trans ((hB.trans (hB2.mono hsz)).mono (Nat.le_succ _))⟩
    · have hv : c3 = true ∨ c3 = false := by cases c3 <;> simp
      rcases hv with hv | hv
      · rw [hv] at H3
        go_wp2_with (go_at_call 136; go_must (refine (H3.out _).mono ?_; rintro e w2 ⟨rfl, hB2⟩))
        exact ⟨⟨.inr (.inr (.inr (.inl ⟨rfl, g1, g2, hv⟩))), hB.trans (hB2.mono hsz)⟩, by decide⟩
      · rw [hv] at H3
        go_wp2_with (go_at_call 136; go_must (refine (H3.out _).mono ?_; rintro e w2 ⟨rfl, hB2⟩))
        go_ret
        exact ⟨ret_bool (by rw [HRB.out, g1, g2, hv]; simp), hBW.trans ((hB.trans (hB2.mono hsz)).mono (Nat.le_succ _))⟩
    · have hv : c4 = true ∨ c4 = false := by cases c4 <;> simp
      rcases hv with hv | hv
      · rw [hv] at H4
        go_wp2_with (go_at_call 137; go_must (refine (H4.out _).mono ?_; rintro e w2 ⟨rfl, hB2⟩))
        exact ⟨⟨.inr (.inr (.inr (.inr (.inl ⟨rfl, g1, g2, g3, hv⟩)))), hB.trans (hB2.mono hsz)⟩, by decide⟩
      · rw [hv] at H4
        go_wp2_with (go_at_call 137; go_must (refine (H4.out _).mono ?_; rintro e w2 ⟨rfl, hB2⟩))
        go_ret
        exact ⟨ret_bool (by rw [HRB.out, g1, g2, g3, hv]; simp), hBW.trans ((hB.trans (hB2.mono hsz)).mono (Nat.le_succ _))⟩
    · have hv : c5 = true ∨ c5 = false := by cases c5 <;> simp
      rcases hv with hv | hv
      · rw [hv] at H5
        go_wp2_with (go_at_call 138; go_must (refine (H5.out (HD3.out g3) _).mono ?_; rintro e w2 ⟨rfl, hB2⟩))
        exact ⟨⟨.inr (.inr (.inr (.inr (.inr ⟨rfl, g1, g2, g3, g4, hv⟩)))), hB.trans (hB2.mono hsz)⟩, by decide⟩
      · rw [hv] at H5
        go_wp2_with (go_at_call 138; go_must (refine (H5.out (HD3.out g3) _).mono ?_; rintro e w2 ⟨rfl, hB2⟩))
        go_ret
        exact ⟨ret_bool (by rw [HRB.out, g1, g2, g3, g4, hv]; simp), hBW.trans ((hB.trans (hB2.mono hsz)).mono (Nat.le_succ _))⟩
    · go_wp2
      go_ret
      exact ⟨ret_bool (by rw [HRB.out, g1, g2, g3, g4, g5]; rfl), hBW.trans (hB.mono (Nat.le_succ _))⟩
end Go.Proofs.YtgohllfpceeboabGreatDoor
namespace Go.Proofs.YtgohllfpceeboabGreatDoor
open Go.RowKit

theorem dot_take (h : List (List UInt8)) (k : Nat) (hk : k < h.length) : Sx.dotted (h.take (k + 1)) = (if k = 0 then [] else Sx.dotted (h.take k) ++ [46]) ++ h[k] := by
  rw [List.take_succ_eq_append_getElem hk, Sx.dotted_snoc]
  by_cases h0 : k = 0
  · subst h0; simp
  · rw [if_neg, if_neg h0]
    · simp
    · intro e; have := congrArg List.length e; rw [List.length_take, List.length_nil] at this; omega
end Go.Proofs.YtgohllfpceeboabGreatDoor

