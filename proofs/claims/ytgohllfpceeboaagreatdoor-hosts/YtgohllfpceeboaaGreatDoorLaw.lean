import Derived.Test.YtgohllfpceeboaaGreatDoorRefI
namespace Go.Proofs.YtgohllfpceeboaaGreatDoor
open Go.RowKit

/-- suffixlaw.num -/
theorem num_any (n : Int) (w : World) : Calls Tryz.prog 99 #[.int .i64 n] w fun e w' => e = .returned (.int .i64 n) ∧ w' = w := by
  go_enter Tryz.func99, Tryz.ntmps99
  go_wp2
  go_ret
  exact ⟨rfl, rfl⟩

/-- What is asked of the program's Plain and Shown, in a world of which LW holds. -/
def PlainSaid (LW : World → Prop) : Prop := ∀ (s : ByteArray) (w : World), LW w → Calls Tryz.prog 18 #[.string s] w (PlnPost (Sx.plainR s.data.toList) w.heap.size w)
def ShownSaid (LW : World → Prop) : Prop := ∀ (s : ByteArray) (w : World), LW w → Calls Tryz.prog 19 #[.string s] w (PlnPost (Sx.shownR s.data.toList) w.heap.size w)
/-- That a world's premise stays where nothing below has turned. -/
def Stays (LW : World → Prop) : Prop := ∀ w w', LW w → Below w.heap.size w w' → LW w'

theorem box_cell (w w1 : World) (cs : Array Value) (t : TypeId) (h : Below (w.heap.size + 1) (w.alloc (.cells cs t)) w1) (j : Nat) (v : Value) (hv : cs[j]? = some v) : w1.cell? ⟨w.heap.size, j, none⟩ = some v := by
  rw [h.cell (p := ⟨w.heap.size, j, none⟩) (by simp), World.cell?_alloc_mark]; exact hv

set_option maxRecDepth 100000 in
set_option maxHeartbeats 1000000 in
/-- suffixlaw.hosts, at KPlain -/
theorem hosts_plain {LW : World → Prop} (hP : PlainSaid LW) (hS : Stays LW) (a1 a2 a3 a6 a7 : Value) (s t : ByteArray) (w : World) (hw : LW w) :
    Calls Tryz.prog 64 #[.agg #[.int .i64 1, a1, a2, a3, .string s, .string t, a6, a7]] w fun e w' => e = .returned (.bool true) ∧ Below w.heap.size w w' := by
  have hB0 : Below w.heap.size w (w.alloc (.cells #[.int .i64 1, a1, a2, a3, .string s, .string t, a6, a7] 78)) := (Below.refl _ _).alloc (Nat.le_refl _) _
  have HC := hide (hP s _ (hS _ _ hw hB0))
  clear hP
  go_enter Tryz.func64, Tryz.ntmps64
  go_wp2_with fail
  refine HC.out.mono ?_
  rintro e w1 ⟨hB1, rfl⟩
  rw [World.size_alloc] at hB1
  have hc4 := box_cell w w1 _ _ hB1 4 _ rfl
  have hsz1 := hB1.size
  rw [World.size_alloc] at hsz1
  have hBa := hB0.trans (hB1.mono (Nat.le_succ _))
  go_wp2_with fail
  refine (rplain_any s _).mono ?_
  rintro e w2 ⟨hB2, rfl⟩
  have hBB := hBa.trans (hB2.mono (by omega))
  clear hBa hB0 hB1 hB2
  obtain ⟨p, hp⟩ : ∃ p, (Sx.plainR s.data.toList).1 = p := ⟨_, rfl⟩
  obtain ⟨n, hn⟩ : ∃ n, (Sx.plainR s.data.toList).2 = n := ⟨_, rfl⟩
  rw [hp, hn]
  clear hp hn HC
  have he : ((⟨p.toArray⟩ : ByteArray).toList == (⟨p.toArray⟩ : ByteArray).toList) = true := by simp
  have hn2 : (n == n) = true := by simp
  go_wp2_with (go_at_call 99; go_must (refine (num_any _ _).mono ?_; rintro e w' ⟨rfl, rfl⟩))
  go_ret
  exact ⟨rfl, hBB⟩

set_option maxRecDepth 100000 in
set_option maxHeartbeats 1000000 in
/-- suffixlaw.hosts, at KShown -/
theorem hosts_shown {LW : World → Prop} (hP : ShownSaid LW) (hS : Stays LW) (a1 a2 a3 a6 a7 : Value) (s t : ByteArray) (w : World) (hw : LW w) :
    Calls Tryz.prog 64 #[.agg #[.int .i64 2, a1, a2, a3, .string s, .string t, a6, a7]] w fun e w' => e = .returned (.bool true) ∧ Below w.heap.size w w' := by
  have hB0 : Below w.heap.size w (w.alloc (.cells #[.int .i64 2, a1, a2, a3, .string s, .string t, a6, a7] 78)) := (Below.refl _ _).alloc (Nat.le_refl _) _
  have HC := hide (hP s _ (hS _ _ hw hB0))
  clear hP
  go_enter Tryz.func64, Tryz.ntmps64
  go_wp2_with fail
  refine HC.out.mono ?_
  rintro e w1 ⟨hB1, rfl⟩
  rw [World.size_alloc] at hB1
  have hc4 := box_cell w w1 _ _ hB1 4 _ rfl
  have hsz1 := hB1.size
  rw [World.size_alloc] at hsz1
  have hBa := hB0.trans (hB1.mono (Nat.le_succ _))
  go_wp2_with fail
  refine (rshown_any s _).mono ?_
  rintro e w2 ⟨hB2, rfl⟩
  have hBB := hBa.trans (hB2.mono (by omega))
  clear hBa hB0 hB1 hB2
  obtain ⟨p, hp⟩ : ∃ p, (Sx.shownR s.data.toList).1 = p := ⟨_, rfl⟩
  obtain ⟨n, hn⟩ : ∃ n, (Sx.shownR s.data.toList).2 = n := ⟨_, rfl⟩
  rw [hp, hn]
  clear hp hn HC
  have he : ((⟨p.toArray⟩ : ByteArray).toList == (⟨p.toArray⟩ : ByteArray).toList) = true := by simp
  have hn2 : (n == n) = true := by simp
  go_wp2_with (go_at_call 99; go_must (refine (num_any _ _).mono ?_; rintro e w' ⟨rfl, rfl⟩))
  go_ret
  exact ⟨rfl, hBB⟩

set_option maxRecDepth 100000 in
set_option maxHeartbeats 1000000 in
/-- (*suffixlaw.World).step, at KPlain and KShown -/
theorem step_any {LW : World → Prop} (hP : PlainSaid LW) (hQ : ShownSaid LW) (hS : Stays LW) (k : Int) (hk : k = 1 ∨ k = 2) (wp a1 a2 a3 a6 a7 : Value) (s t : ByteArray) (w : World) (hw : LW w) :
    Calls Tryz.prog 45 #[wp, .agg #[.int .i64 k, a1, a2, a3, .string s, .string t, a6, a7]] w fun e w' => e = .returned (.bool true) ∧ Below w.heap.size w w' := by
  have hB0 : Below w.heap.size w (w.alloc (.cells #[.int .i64 k, a1, a2, a3, .string s, .string t, a6, a7] 78)) := (Below.refl _ _).alloc (Nat.le_refl _) _
  have hw0 := hS _ _ hw hB0
  rcases hk with rfl | rfl
  · have HC := hide (hosts_plain hP hS a1 a2 a3 a6 a7 s t _ hw0)
    clear hP hQ hw0 hw
    go_enter Tryz.func45, Tryz.ntmps45
    go_wp2_with fail
    refine HC.out.mono ?_
    rintro e w1 ⟨rfl, hB1⟩
    have hBB := hB0.trans (hB1.mono (by simp))
    clear HC hB0 hB1
    go_wp2
    go_ret
    exact ⟨rfl, hBB⟩
  · have HC := hide (hosts_shown hQ hS a1 a2 a3 a6 a7 s t _ hw0)
    clear hP hQ hw0 hw
    go_enter Tryz.func45, Tryz.ntmps45
    go_wp2_with fail
    refine HC.out.mono ?_
    rintro e w1 ⟨rfl, hB1⟩
    have hBB := hB0.trans (hB1.mono (by simp))
    clear HC hB0 hB1
    go_wp2
    go_ret
    exact ⟨rfl, hBB⟩

/-- One step of a script, as its cells hold it. -/
structure OpC where
  k : Int
  n1 : Int
  n2 : Int
  n3 : Int
  s : ByteArray
  t : ByteArray
  la : Option Addr
  ln : Nat
  lc : Nat
  md : Bool
def OpC.cells (o : OpC) : List Value := [.int .i64 o.k, .int .i64 o.n1, .int .i64 o.n2, .int .i64 o.n3, .string o.s, .string o.t, .slice o.la o.ln o.lc, .bool o.md]
def OpsAt (w : World) (b off : Nat) (l : List OpC) : Prop := b < w.heap.size ∧ ∀ j (h : j < l.length), ∀ i v, (l[j].cells)[i]? = some v → w.cell? ⟨b, off + j * 8 + i, none⟩ = some v
set_option maxRecDepth 100000 in
set_option maxHeartbeats 1000000 in
/-- suffixlaw.plays, from KPlain to KShown -/
theorem plays_any {LW : World → Prop} (hP : PlainSaid LW) (hQ : ShownSaid LW) (hS : Stays LW) (l : List OpC) (b off cap : Nat) (w : World) (hw : LW w) (ho : OpsAt w b off l) (hl : l.length ≤ maxLen) :
    Calls Tryz.prog 15 #[.slice (some ⟨b, off, none⟩) l.length cap, .int .i64 1, .int .i64 2] w fun e w' => e = .returned (.bool true) ∧ Below w.heap.size w w' := by
  unfold maxLen at hl
  have HO := hide ho
  have HW := hide hw
  have hbw := ho.1
  clear ho hw
  go_enter Tryz.func15, Tryz.ntmps15
  go_wp2
  go_loopw [8] (fun i wr => ∃ j : Nat, i = .int .i64 j ∧ j ≤ l.length ∧ Below w.heap.size w wr) (fun i _ => (l.length - intOf i).toNat)
  case atStart => exact ⟨0, rfl, by omega, (Below.refl _ _).alloc (Nat.le_refl _) _⟩
  case round =>
    obtain ⟨j, rfl, hj, hB⟩ := hrel
    by_cases hlt : j < l.length
    · have hcs : ∀ i v, (l[j].cells)[i]? = some v → wr.cell? ⟨b, off + j * 8 + i, none⟩ = some v := fun i v h => (hB.cell (p := ⟨b, off + j * 8 + i, none⟩) hbw).trans (HO.out.2 j hlt i v h)
      obtain ⟨o, hoo⟩ : ∃ o, l[j] = o := ⟨_, rfl⟩
      rw [hoo] at hcs
      clear hoo
      obtain ⟨k, n1, n2, n3, s, t, la, ln, lc, md⟩ := o
      have c0 := hcs 0 _ rfl
      have c1 := hcs 1 _ rfl
      have c2 := hcs 2 _ rfl
      have c3 := hcs 3 _ rfl
      have c4 := hcs 4 _ rfl
      have c5 := hcs 5 _ rfl
      have c6 := hcs 6 _ rfl
      have c7 := hcs 7 _ rfl
      rw [Nat.add_zero] at c0
      clear hcs
      have hB2 : Below w.heap.size w (wr.alloc (.cells #[.int .i64 k, .int .i64 n1, .int .i64 n2, .int .i64 n3, .string s, .string t, .slice la ln lc, .bool md] 78)) := hB.alloc hB.size _
      by_cases h1 : 1 ≤ k
      · by_cases h2 : k ≤ 2
        · have HC := hide (step_any hP hQ hS k (by omega) (.pointer (some ⟨w.heap.size, 0, none⟩)) (.int .i64 n1) (.int .i64 n2) (.int .i64 n3) (.slice la ln lc) (.bool md) s t (wr.alloc (.cells #[.int .i64 k, .int .i64 n1, .int .i64 n2, .int .i64 n3, .string s, .string t, .slice la ln lc, .bool md] 78)) (hS _ _ HW.out hB2))
          go_wp2_with fail
          refine HC.out.mono ?_
          rintro e w2 ⟨rfl, hB3⟩
          have hBB := hB2.trans (hB3.mono (by have := hB.size; simp; omega))
          clear HC hB3 hB2
          go_wp2
          exact ⟨⟨j + 1, by go_num, by omega, hBB⟩, by simp [intOf]; omega⟩
        · go_wp2
          exact ⟨⟨j + 1, by go_num, by omega, hB2⟩, by simp [intOf]; omega⟩
      · go_wp2
        exact ⟨⟨j + 1, by go_num, by omega, hB2⟩, by simp [intOf]; omega⟩
    · go_wp2
      go_ret
      exact ⟨rfl, hB⟩

set_option maxRecDepth 100000 in
set_option maxHeartbeats 1000000 in
/-- suffixlaw.Hosts -/
theorem hosts_law {LW : World → Prop} (hP : PlainSaid LW) (hQ : ShownSaid LW) (hS : Stays LW) (l : List OpC) (b off cap : Nat) (w : World) (hw : LW w) (ho : OpsAt w b off l) (hl : l.length ≤ maxLen) :
    Calls Tryz.prog 3 #[.slice (some ⟨b, off, none⟩) l.length cap] w fun e w' => e = .returned (.bool true) ∧ Below w.heap.size w w' := by
  have HC := hide (plays_any hP hQ hS l b off cap w hw ho hl)
  clear hP hQ hw ho
  go_enter Tryz.func3, Tryz.ntmps3
  go_wp2_with (go_at_call 15; go_must (refine HC.out.mono ?_; rintro e w' ⟨rfl, hB⟩))
  go_ret
  exact ⟨rfl, hB⟩
set_option maxRecDepth 100000 in
set_option maxHeartbeats 1000000 in
theorem plays_nil (w : World) : Calls Tryz.prog 15 #[.slice none 0 0, .int .i64 1, .int .i64 2] w fun e w' => e = .returned (.bool true) ∧ Below w.heap.size w w' := by
  go_enter Tryz.func15, Tryz.ntmps15
  go_wp2
  go_loopw [8] (fun i wr => i = .int .i64 0 ∧ Below w.heap.size w wr) (fun _ _ => 0)
  case atStart => exact ⟨rfl, (Below.refl _ _).alloc (Nat.le_refl _) _⟩
  case round =>
    obtain ⟨rfl, hB⟩ := hrel
    go_wp2
    go_ret
    exact ⟨rfl, hB⟩
/-- suffixlaw.Hosts, of no script -/
theorem hosts_law_nil (w : World) : Calls Tryz.prog 3 #[.slice none 0 0] w fun e w' => e = .returned (.bool true) ∧ Below w.heap.size w w' := by
  have HC := hide (plays_nil w)
  go_enter Tryz.func3, Tryz.ntmps3
  go_wp2_with (go_at_call 15; go_must (refine HC.out.mono ?_; rintro e w' ⟨rfl, hB⟩))
  go_ret
  exact ⟨rfl, hB⟩
end Go.Proofs.YtgohllfpceeboaaGreatDoor
