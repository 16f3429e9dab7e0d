import Derived.Test.YtgohllfpceeboaaGreatDoorPrgE
namespace Go.Proofs.YtgohllfpceeboaaGreatDoor
open Go.RowKit

/-- Runes that lie in a block. -/
def RuAt (W : World) (b : Nat) (l : List Int) : Prop := b < W.heap.size ∧ ∀ j (_ : j < l.length), W.cell? ⟨b, j, none⟩ = some (.int .i32 l[j])
set_option maxRecDepth 100000 in
set_option maxHeartbeats 400000 in
/-- code.standingAhead -/
theorem psa_any (l : List Int) (b k cap : Nat) (c : Int) (w : World) (hr : RuAt w b l) (hk : k ≤ l.length) (hl : l.length ≤ 1000) :
    Calls Tryz.prog 222 #[.slice (some ⟨b, 0, none⟩) k cap, .int .i32 c] w fun e w' => e = .returned (.int .i64 ((l.take k).countP fun x => decide (x ≤ c))) ∧ w' = w := by
  have HR := hide hr
  clear hr
  go_enter Tryz.func222, Tryz.ntmps222
  go_wp2
  go_loop [5, 10] (fun n i => ∃ (j m : Nat), n = .int .i64 m ∧ i = .int .i64 j ∧ j ≤ k ∧ m ≤ j ∧ (l.take j).countP (fun x => decide (x ≤ c)) = m) (fun _ i => (k - intOf i).toNat)
  case atStart => exact ⟨0, 0, rfl, rfl, by omega, by omega, by simp⟩
  case round =>
    obtain ⟨j, m, rfl, rfl, hj, hm, hq⟩ := hrel
    have HQ := hide hq
    clear hq
    by_cases hlt : j < k
    · have hlt2 : j < l.length := by omega
      have hc := HR.out.2 j hlt2
      have hst : (l.take (j + 1)).countP (fun x => decide (x ≤ c)) = m + if l[j] ≤ c then 1 else 0 := by
        rw [List.take_succ_eq_append_getElem hlt2, List.countP_append, HQ.out, List.countP_cons, List.countP_nil]
        simp
      obtain ⟨x, hx⟩ : ∃ x, l[j] = x := ⟨_, rfl⟩
      rw [hx] at hc hst
      have HST := hide hst
      clear hst hx
      by_cases hxc : x ≤ c
      · go_wp2
        go_round
        case rel => exact ⟨j + 1, m + 1, by go_num, by go_num, by omega, by omega, by rw [HST.out]; simp; omega⟩
        case measure => simp [intOf]; omega
      · go_wp2
        go_round
        case rel => exact ⟨j + 1, m, rfl, by go_num, by omega, by omega, by rw [HST.out]; simp; omega⟩
        case measure => simp [intOf]; omega
    · have hjk : j = k := by omega
      subst hjk
      go_wp2
      go_ret
      exact ⟨ret_int (by rw [HQ.out]), rfl⟩

def okRune (c : Int) : Bool := isPl c || decide (128 ≤ c)
set_option maxRecDepth 100000 in
set_option maxHeartbeats 1000000 in
/-- (suffix.label).hasLettersOnly -/
theorem plo_any (s t : ByteArray) (l : List Int) (w : World) (hl : Sx.letters s.data.toList = some l) (hs : s.size ≤ 1000000) :
    Calls Tryz.prog 163 #[.agg #[.string s, .string t]] w fun e w' => e = .returned (.bool (l.all okRune)) ∧ Below w.heap.size w w' := by
  have HL := hide hl
  clear hl
  go_enter Tryz.func163, Tryz.ntmps163
  have hB0 : Below w.heap.size w ((w.alloc (.cells #[.string s, .string t] 86)).iter s 0) := ((Below.refl _ _).alloc (Nat.le_refl _) _).alloc (by simp) _
  have hk0 := World.iter_heap (w.alloc (.cells #[.string s, .string t] 86)) s 0
  rw [World.size_alloc] at hk0
  go_wp2
  go_loopw [] (fun wr => ∃ (pos : Nat) (l' : List Int), wr.heap[w.heap.size + 1]? = some (.stringIter s pos) ∧ pos ≤ s.size ∧ Sx.letters (s.data.toList.drop pos) = some l' ∧ l.all okRune = l'.all okRune ∧ Below w.heap.size w wr) (fun wr => s.size - itPos wr (w.heap.size + 1))
  case atStart => exact ⟨0, l, hk0, by omega, by rw [List.drop_zero]; exact HL.out, rfl, hB0⟩
  case round =>
    obtain ⟨pos, l', hk, hps, hq, hany, hB⟩ := hrel
    have HQ := hide hq
    have HANY := hide hany
    have HK := hide hk
    clear hq hany hB0 hk0
    by_cases hp : pos < s.size
    · obtain ⟨c, n, l2, hd, hl2, hc0, hc1, hsur, hn1, hn2, hq2, _⟩ := Sx.step_rune s pos l' HQ.out hp
      have hnx := next_rune wr (w.heap.size + 1) s pos n c hk hp hd hc0
      subst hl2
      have HQ2 := hide hq2
      clear hd hq2 hk
      obtain ⟨p1, hp1⟩ : ∃ p1, isPl c = p1 := ⟨_, rfl⟩
      obtain ⟨p2, hp2⟩ : ∃ p2, decide (128 ≤ c) = p2 := ⟨_, rfl⟩
      have hok : okRune c = (p1 || p2) := by unfold okRune; rw [hp1, hp2]
      have HP1 := hide hp1
      have HP2 := hide hp2
      have HOK := hide hok
      clear hp1 hp2 hok
      cases p1 with
      | true =>
        go_wp2_with (first | (go_at_call 211; go_must (refine (pip_any _ _).mono ?_; rintro e w' ⟨rfl, rfl⟩; rw [HP1.out])) | (go_at_call 128; go_must (refine (pfor_any _ _).mono ?_; rintro e w' ⟨rfl, rfl⟩; rw [HP2.out])))
        exact ⟨⟨pos + n, l2, Lib.iterAt_heap wr _ s pos (pos + n) HK.out, by omega, HQ2.out, by rw [HANY.out, List.all_cons, HOK.out]; rfl, Lib.below_iterAt hB (by omega) _ _⟩, by rw [itPos_of (Lib.iterAt_heap wr _ s pos (pos + n) HK.out), itPos_of HK.out]; omega⟩
      | false =>
        cases p2 with
        | true =>
          go_wp2_with (first | (go_at_call 211; go_must (refine (pip_any _ _).mono ?_; rintro e w' ⟨rfl, rfl⟩; rw [HP1.out])) | (go_at_call 128; go_must (refine (pfor_any _ _).mono ?_; rintro e w' ⟨rfl, rfl⟩; rw [HP2.out])))
          exact ⟨⟨pos + n, l2, Lib.iterAt_heap wr _ s pos (pos + n) HK.out, by omega, HQ2.out, by rw [HANY.out, List.all_cons, HOK.out]; rfl, Lib.below_iterAt hB (by omega) _ _⟩, by rw [itPos_of (Lib.iterAt_heap wr _ s pos (pos + n) HK.out), itPos_of HK.out]; omega⟩
        | false =>
          go_wp2_with (first | (go_at_call 211; go_must (refine (pip_any _ _).mono ?_; rintro e w' ⟨rfl, rfl⟩; rw [HP1.out])) | (go_at_call 128; go_must (refine (pfor_any _ _).mono ?_; rintro e w' ⟨rfl, rfl⟩; rw [HP2.out])))
          go_ret
          exact ⟨ret_bool (by rw [HANY.out, List.all_cons, HOK.out]; rfl), Lib.below_iterAt hB (by omega) _ _⟩
    · have hnx := fun ty => Lib.run_next_end_at (P := Tryz.prog) wr (w.heap.size + 1) s pos ty hk hp
      have hl' : l' = [] := by
        have := HQ.out
        rw [List.drop_eq_nil_of_le (by rw [ba_len]; omega), Sx.letters_nil] at this
        cases this; rfl
      have HL' := hide hl'
      clear hl' hk
      go_wp2
      go_ret
      exact ⟨ret_bool (by rw [HANY.out, HL'.out]; rfl), hB⟩
end Go.Proofs.YtgohllfpceeboaaGreatDoor
