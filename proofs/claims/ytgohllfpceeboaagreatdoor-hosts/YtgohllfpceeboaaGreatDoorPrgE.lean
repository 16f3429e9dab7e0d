import Derived.Test.YtgohllfpceeboaaGreatDoorPrgD
import Derived.Test.YtgohllfpceeboaaGreatDoorMg
import Derived.Lib.OthersKept
namespace Go.Proofs.YtgohllfpceeboaaGreatDoor
open Go.RowKit

/-- Where an iterator over a text stands. -/
def itPos (w : World) (k : Nat) : Nat := match w.heap[k]? with
  | some (.stringIter _ p) => p
  | _ => 0
theorem itPos_of {w : World} {k : Nat} {s : ByteArray} {p : Nat} (h : w.heap[k]? = some (.stringIter s p)) : itPos w k = p := by unfold itPos; rw [h]
theorem next_rune (W : World) (K : Nat) (s : ByteArray) (pos n : Nat) (c : Int) (hk : W.heap[K]? = some (.stringIter s pos)) (hp : pos < s.size) (hd : Go.Utf8.decode s pos = (c.toNat, n)) (h0 : 0 ≤ c) : ∀ ty, (Instr.next (.pointer (some ⟨K, 0, none⟩)) true ty).run Tryz.prog W = .ok (.tuple #[.bool true, .int .i64 pos, .int .i32 c]) (W.iterAt K s (pos + n)) := by
  intro ty
  have := Lib.run_next_any_at (P := Tryz.prog) W K s pos ty hk hp
  rw [hd] at this
  rw [this]
  show Result.ok (Value.tuple #[.bool true, .int .i64 pos, .int .i32 ((c.toNat : Nat) : Int)]) (W.iterAt K s (pos + n)) = _
  rw [Int.toNat_of_nonneg h0]

set_option maxRecDepth 100000 in
set_option maxHeartbeats 1000000 in
/-- strings.indexFunc, of a text that is UTF-8, with code.IsForeign -/
theorem pif0_any (s : ByteArray) (l : List Int) (w : World) (hl : Sx.letters s.data.toList = some l) (hs : s.size ≤ 1000000) :
    Calls Tryz.prog 221 #[.string s, .func (.func 128) #[] #[], .bool true] w fun e w' => (∃ n : Int, e = .returned (.int .i64 n) ∧ (0 ≤ n ↔ l.any (fun c => decide (128 ≤ c)) = true) ∧ -1 ≤ n) ∧ Below w.heap.size w w' := by
  have HL := hide hl
  clear hl
  go_enter Tryz.func221, Tryz.ntmps221
  go_wp2
  go_loopw [] (fun wr => ∃ (pos : Nat) (l' : List Int), wr.heap[w.heap.size]? = some (.stringIter s pos) ∧ pos ≤ s.size ∧ Sx.letters (s.data.toList.drop pos) = some l' ∧ l.any (fun c => decide (128 ≤ c)) = l'.any (fun c => decide (128 ≤ c)) ∧ Below w.heap.size w wr) (fun wr => s.size - itPos wr w.heap.size)
  case atStart => exact ⟨0, l, World.iter_heap w s 0, by omega, by rw [List.drop_zero]; exact HL.out, rfl, (Below.refl _ _).alloc (Nat.le_refl _) _⟩
  case round =>
    obtain ⟨pos, l', hk, hps, hq, hany, hB⟩ := hrel
    have HQ := hide hq
    have HANY := hide hany
    have HK := hide hk
    clear hq hany
    by_cases hp : pos < s.size
    · obtain ⟨c, n, l2, hd, hl2, hc0, hc1, hsur, hn1, hn2, hq2, _⟩ := Sx.step_rune s pos l' HQ.out hp
      have hnx := next_rune wr w.heap.size s pos n c hk hp hd hc0
      subst hl2
      have HQ2 := hide hq2
      clear hd hq2 hk
      by_cases h128 : 128 ≤ c
      · have hb : decide (128 ≤ c) = true := by simpa using h128
        go_wp2_with (go_at_call 128; go_must (refine (pfor_any _ _).mono ?_; rintro e w' ⟨rfl, rfl⟩; rw [hb]))
        go_ret
        exact ⟨⟨pos, rfl, by rw [HANY.out]; simp [h128], by omega⟩, Lib.below_iterAt hB (Nat.le_refl _) _ _⟩
      · have hb : decide (128 ≤ c) = false := by simpa using h128
        have HST := hide (show ((c :: l2).any fun c => decide (128 ≤ c)) = l2.any (fun c => decide (128 ≤ c)) by rw [List.any_cons, hb]; rfl)
        go_wp2_with (go_at_call 128; go_must (refine (pfor_any _ _).mono ?_; rintro e w' ⟨rfl, rfl⟩; rw [hb]))
        exact ⟨⟨pos + n, l2, Lib.iterAt_heap wr _ s pos (pos + n) HK.out, by omega, HQ2.out, by rw [HANY.out, HST.out], Lib.below_iterAt hB (Nat.le_refl _) _ _⟩, by rw [itPos_of (Lib.iterAt_heap wr _ s pos (pos + n) HK.out), itPos_of HK.out]; omega⟩
    · have hnx := fun ty => Lib.run_next_end_at (P := Tryz.prog) wr w.heap.size s pos ty hk hp
      have hl' : l' = [] := by
        have := HQ.out
        rw [List.drop_eq_nil_of_le (by rw [ba_len]; omega), Sx.letters_nil] at this
        cases this; rfl
      have HL' := hide hl'
      clear hl' hk
      go_wp2
      go_ret
      exact ⟨⟨-1, rfl, by rw [HANY.out, HL'.out]; simp, by omega⟩, hB⟩

/-- strings.IndexFunc, likewise -/
theorem pif_any (s : ByteArray) (l : List Int) (w : World) (hl : Sx.letters s.data.toList = some l) (hs : s.size ≤ 1000000) :
    Calls Tryz.prog 176 #[.string s, .func (.func 128) #[] #[]] w fun e w' => (∃ n : Int, e = .returned (.int .i64 n) ∧ (0 ≤ n ↔ l.any (fun c => decide (128 ≤ c)) = true) ∧ -1 ≤ n) ∧ Below w.heap.size w w' := by
  have HP := hide (pif0_any s l w hl hs)
  clear hl
  go_enter Tryz.func176, Tryz.ntmps176
  go_wp2_with (go_at_call 221; go_must (refine HP.out.mono ?_; rintro e w' ⟨⟨n, rfl, hn, hn1⟩, hB⟩; have HN := hide hn; clear hn))
  go_ret
  exact ⟨⟨n, rfl, HN.out, hn1⟩, hB⟩
/-- strings.ContainsFunc, likewise -/
theorem pcf_any (s : ByteArray) (l : List Int) (w : World) (hl : Sx.letters s.data.toList = some l) (hs : s.size ≤ 1000000) :
    Calls Tryz.prog 127 #[.string s, .func (.func 128) #[] #[]] w fun e w' => e = .returned (.bool (l.any fun c => decide (128 ≤ c))) ∧ Below w.heap.size w w' := by
  have HP := hide (pif_any s l w hl hs)
  clear hl
  go_enter Tryz.func127, Tryz.ntmps127
  go_wp2_with (go_at_call 176; go_must (refine HP.out.mono ?_; rintro e w' ⟨⟨n, rfl, hn, hn1⟩, hB⟩; have HN := hide hn; clear hn))
  go_ret
  exact ⟨ret_bool (by rw [Bool.eq_iff_iff, ← HN.out]; simp), hB⟩

/-- Small letters in the place of great ones. -/
def lowB (c : UInt8) : UInt8 := if 65 ≤ c.toNat ∧ c.toNat ≤ 90 then UInt8.ofNat (c.toNat + 32) else c
/-- Bytes that lie in a block, and may be written. -/
def ByAt (W : World) (b : Nat) (l : List UInt8) : Prop := b < W.heap.size ∧ ∀ j (h : j < l.length), W.cell? ⟨b, j, none⟩ = some (.int .u8 l[j].toNat) ∧ W.frozen? ⟨b, j, none⟩ = false
theorem ByAt.set {W : World} {b : Nat} {l : List UInt8} (h : ByAt W b l) (k : Nat) (hk : k < l.length) (x : UInt8) : ByAt (W.setCell ⟨b, k, none⟩ (.int .u8 x.toNat)) b (l.set k x) := by
  refine ⟨by rw [World.size_setCell]; exact h.1, fun j hj => ?_⟩
  have hj2 : j < l.length := by simpa using hj
  refine ⟨?_, (World.frozen?_setCell ..).trans (h.2 j hj2).2⟩
  by_cases e : k = j
  · subst e
    rw [World.cell?_setCell_same _ _ _ (h.2 k hk).1]; simp
  · rw [World.cell?_setCell_other _ _ _ _ (by simp), (h.2 j hj2).1]
    simp [e]
theorem bytes_new (w : World) (s : ByteArray) (cap : Nat) (n : Nat) (hn : s.size ≤ n) : ByAt (w.drew.alloc (.cells (bytesRow s cap) 5 (n, n + 1))) w.heap.size s.data.toList := by
  refine ⟨by simp, fun j hj => ⟨?_, ?_⟩⟩
  · have hj2 : j < s.data.size := by simpa using hj
    have := World.cell?_alloc_mark w.drew (bytesRow s cap) 5 (n, n + 1) j
    rw [show w.drew.heap.size = w.heap.size from rfl] at this
    rw [this, bytesRow_at s cap j hj2]
    simp
  · have := World.frozen?_alloc_mark w.drew (bytesRow s cap) 5 n (n + 1) j
    rw [show w.drew.heap.size = w.heap.size from rfl] at this
    rw [this]
    have : j < s.size := by simpa using hj
    simp; omega
theorem by_string {W : World} {b cap : Nat} {l : List UInt8} (h : ByAt W b l) : (convert 58 9 (.slice (some ⟨b, 0, none⟩) l.length cap)).run Tryz.prog W = .ok (.string ⟨l.toArray⟩) W :=
  run_convert_bytes_back (P := Tryz.prog) W 58 9 5 ⟨b, 0, none⟩ cap l Tryz.underlying58 Tryz.underlying5 Tryz.underlying9 (fun j hj => by
    rw [Addr.add_lit, Nat.zero_add]; exact (h.2 j hj).1)
def lowTo (s : List UInt8) (k : Nat) : List UInt8 := (s.take k).map lowB ++ s.drop k
theorem lowTo_len (s : List UInt8) (k : Nat) (h : k ≤ s.length) : (lowTo s k).length = s.length := by simp [lowTo]; omega
theorem lowTo_get (s : List UInt8) (k : Nat) (h : k < s.length) (h2 : k < (lowTo s k).length) : (lowTo s k)[k] = s[k] := by
  simp only [lowTo]
  rw [List.getElem_append_right (by simp; omega)]
  simp [show min k s.length = k from by omega]
theorem lowTo_same (s : List UInt8) (k : Nat) (h : k < s.length) (hl : lowB s[k] = s[k]) : lowTo s (k + 1) = lowTo s k := by
  simp only [lowTo]
  rw [List.take_succ_eq_append_getElem h, List.map_append, List.append_assoc, List.drop_eq_getElem_cons h]
  simp [hl]
theorem lowTo_set (s : List UInt8) (k : Nat) (h : k < s.length) : lowTo s (k + 1) = (lowTo s k).set k (lowB s[k]) := by
  simp only [lowTo]
  rw [List.take_succ_eq_append_getElem h, List.map_append, List.append_assoc, List.set_append]
  simp [show min k s.length = k from by omega]
  rw [List.drop_eq_getElem_cons h]; rfl

set_option maxRecDepth 100000 in
set_option maxHeartbeats 1000000 in
/-- suffix.withSmallLetters -/
theorem pws_any (s : ByteArray) (w : World) (hs : s.size ≤ 1000000) : Calls Tryz.prog 161 #[.string s] w fun e w' => e = .returned (.string ⟨(s.data.toList.map lowB).toArray⟩) ∧ Below w.heap.size w w' := by
  have hcv := run_bytes_of_string (P := Tryz.prog) w 9 58 5 s Tryz.underlying9 Tryz.underlying58 Tryz.underlying5
  obtain ⟨cap, hcap⟩ : ∃ cap, grownCap w s.size 0 5 = cap := ⟨_, rfl⟩
  rw [hcap] at hcv
  have hnew := bytes_new w s cap (bytesRow s cap).size (by simp [bytesRow])
  have hBel : Below w.heap.size w (w.drew.alloc (.cells (bytesRow s cap) 5 ((bytesRow s cap).size, (bytesRow s cap).size + 1))) := ((Below.refl w.heap.size w).drew).alloc (Nat.le_refl _) _
  obtain ⟨W0, hW0⟩ : ∃ W0, (w.drew.alloc (.cells (bytesRow s cap) 5 ((bytesRow s cap).size, (bytesRow s cap).size + 1))) = W0 := ⟨_, rfl⟩
  rw [hW0] at hcv hnew hBel
  have HNEW := hide hnew
  clear hW0 hcap hnew
  go_enter Tryz.func161, Tryz.ntmps161
  go_wp2
  go_loopw [10] (fun i wr => ∃ k : Nat, i = .int .i64 k ∧ k ≤ s.size ∧ ByAt wr w.heap.size (lowTo s.data.toList k) ∧ Below w.heap.size w wr) (fun i _ => (s.size - intOf i).toNat)
  case atStart => exact ⟨0, rfl, by omega, by simpa [lowTo] using HNEW.out, hBel⟩
  case round =>
    obtain ⟨k, rfl, hk, hby, hB⟩ := hrel
    have hll : (lowTo s.data.toList k).length = s.size := by rw [lowTo_len _ _ (by rw [ba_len]; exact hk), ba_len]
    have HBY := hide hby
    have HLL := hide hll
    clear hby hll hcv
    by_cases hlt : k < s.size
    · have hlt2 : k < s.data.toList.length := by rw [ba_len]; exact hlt
      have hk3 : k < (lowTo s.data.toList k).length := by rw [HLL.out]; exact hlt
      obtain ⟨hc, hf⟩ := HBY.out.2 k hk3
      rw [lowTo_get _ _ hlt2, byte_at s k hlt hlt2] at hc
      obtain ⟨x, hx⟩ : ∃ x, s[k] = x := ⟨_, rfl⟩
      rw [hx] at hc
      have hxx : s.data.toList[k] = x := by rw [byte_at s k hlt hlt2, hx]
      have HXX := hide hxx
      have hxl := x.toNat_lt
      clear hx hxx
      by_cases a1 : 65 ≤ x.toNat
      · by_cases a2 : x.toNat ≤ 90
        · have hlow : lowB x = UInt8.ofNat (x.toNat + 32) := by unfold lowB; rw [if_pos ⟨a1, a2⟩]
          have hlw : ((lowB x).toNat : Int) = (x.toNat : Int) - 65 + 97 := by rw [hlow]; simp only [UInt8.toNat_ofNat']; omega
          have HLW := hide hlw
          clear hlow hlw
          go_wp2
          rw [← HLW.out]
          exact ⟨⟨k + 1, by go_num, by omega, by rw [lowTo_set _ _ hlt2, HXX.out]; exact HBY.out.set k hk3 (lowB x), hB.setCell (p := ⟨w.heap.size, k, none⟩) (Nat.le_refl _) _⟩, by simp [intOf]; omega⟩
        · have hlow : lowB s.data.toList[k] = s.data.toList[k] := by rw [HXX.out]; unfold lowB; rw [if_neg (by omega)]
          have HLOW := hide hlow
          clear hlow
          go_wp2
          exact ⟨⟨k + 1, by go_num, by omega, by rw [lowTo_same _ _ hlt2 HLOW.out]; exact HBY.out, hB⟩, by simp [intOf]; omega⟩
      · have hlow : lowB s.data.toList[k] = s.data.toList[k] := by rw [HXX.out]; unfold lowB; rw [if_neg (by omega)]
        have HLOW := hide hlow
        clear hlow
        go_wp2
        exact ⟨⟨k + 1, by go_num, by omega, by rw [lowTo_same _ _ hlt2 HLOW.out]; exact HBY.out, hB⟩, by simp [intOf]; omega⟩
    · have hks : k = s.size := by omega
      have hfin : lowTo s.data.toList k = s.data.toList.map lowB := by
        unfold lowTo; rw [List.take_of_length_le (by rw [ba_len]; omega), List.drop_eq_nil_of_le (by rw [ba_len]; omega)]; simp
      have hcs := by_string (cap := cap) HBY.out
      rw [HLL.out] at hcs
      rw [hfin] at hcs
      clear hks hfin
      go_wp2
      go_ret
      exact ⟨rfl, hB⟩
end Go.Proofs.YtgohllfpceeboaaGreatDoor
