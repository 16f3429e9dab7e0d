import Derived.Test.YtgohllfpceeboabGreatDoorSbbg
import Derived.Test.YtgohllfpceeboabGreatDoorRKga
import Derived.Test.YtgohllfpceeboabGreatDoorRKgb
import Derived.Lib.UnsafeStr
import Derived.Lib.BufferWrite
import Derived.Laws.MakeOwn
import Derived.Lib.Strings
namespace Go.Proofs.YtgohllfpceeboabGreatDoor
open Go.RowKit
set_option maxRecDepth 100000 in
set_option maxHeartbeats 2000000 in
/-- internal/stringslite.Clone, strings.Clone -/
theorem pcloneL (s : ByteArray) (w : World) (h0 : 0 < s.size) (hl : s.size ≤ 1000000) : Calls Tryz.prog 92 #[.string s] w fun e w' => e = .returned (.string s) ∧ Below w.heap.size w w' := by
  obtain ⟨i0, hi, hz0, hz1, hz2⟩ := info_parts Tryz.info5
  have hinfo : (Tryz.prog.info? 5).map (·.size) = some 1 := by rw [hi]; simp [hz1]
  have hco : Tryz.prog.cellsOf 5 = 1 := by simp [Program.cellsOf, hi, hz1]
  obtain ⟨M, hM⟩ : ∃ M, M = madeCells (Value.int .u8 0).cells (((s.size : Nat) : Int).toNat * i0.size) := ⟨_, rfl⟩
  have hMs : M.size = s.size := by rw [hM, size_madeCells, hz1]; simp
  have hmk : ∀ W : World, (Instr.makeSlice 90 (.int .i64 (s.size : Int)) (.int .i64 (s.size : Int))).run Tryz.prog W = .ok (.slice (some ⟨W.heap.size, 0, none⟩) s.size s.size) (W.alloc (.cells M 5)) := fun W => by
    have h := run_make (P := Tryz.prog) W 90 5 i0 (.int .u8 0) Tryz.underlying90 hi hz0 .i64 .i64 (s.size : Int) (s.size : Int) (by omega) (by omega) (by rw [hz2]; omega) (by omega)
    rw [← hM] at h
    simpa using h
  clear hM
  have hcp := Lib.run_copy_row_string (P := Tryz.prog) (w.alloc (.cells M 5)) 90 9 3 5 w.heap.size 0 s.size s.size s M 5 Tryz.underlying90 hinfo (heap_alloc_new w _) (Nat.le_refl _) (by omega)
  obtain ⟨Y, hY⟩ : ∃ Y, Y = (M.toList.take 0 ++ Lib.byteCells s.data.toList ++ M.toList.drop (0 + s.size)).toArray := ⟨_, rfl⟩
  rw [← hY] at hcp
  have hYl : Y.toList = Lib.byteCells s.data.toList := by
    rw [hY, List.toList_toArray, List.take_zero, List.nil_append, List.drop_of_length_le (by rw [Array.length_toList]; omega), List.append_nil]
  have hYs : Y.size = s.size := by rw [← Array.length_toList, hYl, Lib.byteCells_length, ← Lib.size_eq]
  have hgY : ((w.alloc (.cells M 5)).setRow w.heap.size Y).heap[w.heap.size]? = some (.cells Y 5 (0, 0)) := setRow_heap _ _ M _ 5 (0, 0) (heap_alloc_new w _)
  have hne : s.data.toList ≠ [] := fun e => by rw [Lib.size_eq, e] at h0; exact absurd h0 (by simp)
  have hUS := Lib.run_unsafeString_row (P := Tryz.prog) ((w.alloc (.cells M 5)).setRow w.heap.size Y) 198 3 9 5 Tryz.underlying198 hco w.heap.size Y.size (by unfold World.shape?; rw [hgY]) s.data.toList hne (by rw [← Lib.size_eq]; omega) (by rw [← Lib.size_eq]; omega)
    (fun j x hx => Lib.cells_of_row hgY Y.size j _ (by rw [List.take_of_length_le (by rw [Array.length_toList]; exact Nat.le_refl _), hYl]; simp [Lib.byteCells, hx]))
  rw [← Lib.size_eq] at hUS
  clear hY
  go_enter Tryz.func92, Tryz.ntmps92
  go_wp2
  go_ret
  have hb1 : Below w.heap.size w (w.alloc (.cells M 5)) := (Below.refl _ w).alloc (Nat.le_refl _) _
  have hb2 : Below w.heap.size (w.alloc (.cells M 5)) ((w.alloc (.cells M 5)).setRow w.heap.size Y) := ⟨rfl, rfl, rfl, by simp, fun k hk => setRow_other _ _ _ _ (by omega)⟩
  exact ⟨rfl, Lib.below_freeze (hb1.trans hb2) (p := ⟨w.heap.size, 0, none⟩) (Nat.le_refl _) _⟩
set_option maxRecDepth 100000 in
set_option maxHeartbeats 2000000 in
theorem pclones (s : ByteArray) (w : World) (h0 : 0 < s.size) (hl : s.size ≤ 1000000) : Calls Tryz.prog 54 #[.string s] w fun e w' => e = .returned (.string s) ∧ Below w.heap.size w w' := by
  have HC := hide (pcloneL s w h0 hl)
  go_enter Tryz.func54, Tryz.ntmps54
  go_wp2_with fail
  refine HC.out.mono ?_
  rintro e w1 ⟨rfl, hB⟩
  have HB := hide hB
  clear hB
  go_wp2
  go_ret
  exact ⟨rfl, HB.out⟩
theorem box3 {W : World} {b : Nat} {x y z : Value} {t : TypeId} (h : W.heap[b]? = some (.cells #[x, y, z] t (0, 0))) : (W.cell? ⟨b, 0, none⟩ = some x ∧ W.cell? ⟨b, 1, none⟩ = some y ∧ W.cell? ⟨b, 2, none⟩ = some z) ∧ W.frozen? ⟨b, 0, none⟩ = false ∧ W.frozen? ⟨b, 1, none⟩ = false ∧ W.frozen? ⟨b, 2, none⟩ = false := by
  simp [World.cell?, World.frozen?, h]
theorem set3 {W : World} {b : Nat} {x y z : Value} (c1 : W.cell? ⟨b, 0, none⟩ = some x) (c2 : W.cell? ⟨b, 1, none⟩ = some y) (c3 : W.cell? ⟨b, 2, none⟩ = some z) (x' y' z' : Value) :
    (((W.setCell ⟨b, 0, none⟩ x').setCell ⟨b, 1, none⟩ y').setCell ⟨b, 2, none⟩ z').cell? ⟨b, 0, none⟩ = some x' ∧ (((W.setCell ⟨b, 0, none⟩ x').setCell ⟨b, 1, none⟩ y').setCell ⟨b, 2, none⟩ z').cell? ⟨b, 1, none⟩ = some y' ∧ (((W.setCell ⟨b, 0, none⟩ x').setCell ⟨b, 1, none⟩ y').setCell ⟨b, 2, none⟩ z').cell? ⟨b, 2, none⟩ = some z' := by
  have d1 : (W.setCell ⟨b, 0, none⟩ x').cell? ⟨b, 1, none⟩ = some y := by rw [World.cell?_setCell_other _ _ _ _ (by simp), c2]
  have d2 : ((W.setCell ⟨b, 0, none⟩ x').setCell ⟨b, 1, none⟩ y').cell? ⟨b, 2, none⟩ = some z := by rw [World.cell?_setCell_other _ _ _ _ (by simp), World.cell?_setCell_other _ _ _ _ (by simp), c3]
  refine ⟨?_, ?_, ?_⟩
  · rw [World.cell?_setCell_other _ _ _ _ (by simp), World.cell?_setCell_other _ _ _ _ (by simp), World.cell?_setCell_same _ _ _ c1]
  · rw [World.cell?_setCell_other _ _ _ _ (by simp), World.cell?_setCell_same _ _ _ d1]
  · rw [World.cell?_setCell_same _ _ _ d2]
set_option maxRecDepth 100000 in
set_option maxHeartbeats 2000000 in
/-- suffix.newTuple -/
theorem pntup (s h : ByteArray) (p : Int) (w : World) (h0 : 0 < s.size) (hl : s.size ≤ 1000000) : Calls Tryz.prog 35 #[.string s, .string h, .int .i64 p] w fun e w' => e = .returned (.agg #[.string s, .string h, .int .i64 p]) ∧ Below w.heap.size w w' := by
  have HC := hide (fun W => pclones s W h0 hl)
  go_enter Tryz.func35, Tryz.ntmps35
  go_wp2_with fail
  refine (HC.out _).mono ?_
  rintro e y1 ⟨rfl, hB⟩
  have hh := (hB.block w.heap.size (by simp)).trans (heap_alloc_new _ _)
  obtain ⟨⟨c1, c2, c3⟩, c4, c5, c6⟩ := box3 hh
  have HB := hide (below_to ((Below.refl _ w).alloc (Nat.le_refl _) _) hB)
  have hbz := HB.out.size
  clear hB hh
  obtain ⟨q1, q2, q3⟩ := set3 c1 c2 c3 (.string s) (.string h) (.int .i64 p)
  have HQ := hide (And.intro q1 (And.intro q2 q3))
  clear q1 q2 q3
  go_wp2
  refine bodyPost_ret (v := .agg #[.string s, .string h, .int .i64 p]) ?_ rfl ?_
  · obtain ⟨q1, q2, q3⟩ := HQ.out
    simp [results, Tryz.results35, go_sem, q1, q2, q3]
  · exact ⟨rfl, ((HB.out.setCell (p := ⟨w.heap.size, 0, none⟩) (Nat.le_refl _) _).setCell (p := ⟨w.heap.size, 1, none⟩) (Nat.le_refl _) _).setCell (p := ⟨w.heap.size, 2, none⟩) (Nat.le_refl _) _⟩
set_option maxRecDepth 100000 in
set_option maxHeartbeats 2000000 in
/-- suffix.isPort -/
theorem pport (p : Int) (w : World) : Calls Tryz.prog 31 #[.int .i64 p] w fun e w' => e = .returned (.bool (decide (0 ≤ p ∧ p ≤ 65535))) ∧ w' = w := by
  by_cases c1 : 0 ≤ p
  · by_cases c2 : p ≤ 65535
    · go_enter Tryz.func31, Tryz.ntmps31
      go_wp2
      go_ret
      exact ⟨by first | rfl | (rw [decide_eq_true ⟨c1, c2⟩]; rfl), rfl⟩
    · have c3 : (p ≤ 65535) = False := by simpa using c2
      go_enter Tryz.func31, Tryz.ntmps31
      go_wp2
      go_ret
      exact ⟨by first | rfl | (rw [decide_eq_false (fun h => by omega)]; rfl), rfl⟩
  · have c3 : (0 ≤ p) = False := by simpa using c1
    go_enter Tryz.func31, Tryz.ntmps31
    go_wp2
    go_ret
    exact ⟨by first | rfl | (rw [decide_eq_false (fun h => by omega)]; rfl), rfl⟩
set_option maxRecDepth 100000 in
set_option maxHeartbeats 2000000 in
/-- suffix.isScheme -/
theorem pschm (s : ByteArray) (w : World) : Calls Tryz.prog 30 #[.string s] w fun e w' => e = .returned (.bool (decide (schOk s.data.toList))) ∧ w' = w := by
  have hd : decide (schOk s.data.toList) = (s.toList == [104, 116, 116, 112] || s.toList == [104, 116, 116, 112, 115]) := by
    rw [Bool.eq_iff_iff, ByteArray.toList_eq]
    simp [schOk, httpB, httpsB]
    exact decide_eq_true_iff
  rw [hd]
  clear hd
  go_enter Tryz.func30, Tryz.ntmps30
  go_wp2
  all_goals (
    go_ret
    refine ⟨?_, rfl⟩
    simp_all)
/-- An origin's cells. -/
def orgC (o : Org) : List Value := [.string ⟨(schOf o).toArray⟩, .string ⟨(hstOf o).toArray⟩, .int .i64 (prtOf o), .string ⟨o.2.toArray⟩]
def orgCs (os : List Org) : List Value := os.flatMap orgC
theorem orgCs_app (a b : List Org) : orgCs (a ++ b) = orgCs a ++ orgCs b := by simp [orgCs]
theorem orgCs_get : ∀ (l : List Org) (j : Nat) (h : j < l.length), (orgCs l)[j * 4]? = some (.string ⟨(schOf l[j]).toArray⟩) ∧ (orgCs l)[j * 4 + 1]? = some (.string ⟨(hstOf l[j]).toArray⟩) ∧ (orgCs l)[j * 4 + 2]? = some (.int .i64 (prtOf l[j])) ∧ (orgCs l)[j * 4 + 3]? = some (.string ⟨l[j].2.toArray⟩) := by
  intro l
  induction l with
  | nil => intro j h; exact absurd h (Nat.not_lt_zero _)
  | cons x r ih =>
    intro j h
    have e : orgCs (x :: r) = Value.string ⟨(schOf x).toArray⟩ :: Value.string ⟨(hstOf x).toArray⟩ :: Value.int .i64 (prtOf x) :: Value.string ⟨x.2.toArray⟩ :: orgCs r := rfl
    cases j with
    | zero => rw [e]; exact ⟨rfl, rfl, rfl, rfl⟩
    | succ j =>
      have := ih j (by simpa using h)
      rw [e, show (j + 1) * 4 = j * 4 + 4 by omega]
      exact this
/-- A world of origins, as it is written. -/
def WlAt (W : World) (g : Nat) (rs : List Sx.Rl) (os : List Org) : Prop := ∃ (W0 : World) (rv ov : Value), W0.heap.size = g ∧ PrAt W0 rv rs ∧ Below g W0 W ∧ W.heap[g]? = some (.cells #[rv, ov] 87) ∧ W.ownsRow (g + 1) 75 4 ov os.length (orgCs os)
theorem WlAt.below {W W' : World} {g : Nat} {rs : List Sx.Rl} {os : List Org} (h : WlAt W g rs os) (hb : Below W.heap.size W W') : WlAt W' g rs os := by
  obtain ⟨W0, rv, ov, h1, h2, h3, h4, h5⟩ := h
  have hg : g < W.heap.size := by
    by_cases hlt : g < W.heap.size
    · exact hlt
    · rw [Array.getElem?_eq_none (by omega)] at h4; cases h4
  exact ⟨W0, rv, ov, h1, h2, h3.trans (hb.mono (by omega)), (hb.block g hg).trans h4, own_later h5 hb⟩
theorem WlAt.read {W : World} {g : Nat} {rs : List Sx.Rl} {os : List Org} (h : WlAt W g rs os) : RdW W g rs os := by
  obtain ⟨W0, rv, ov, h1, h2, h3, h4, h5⟩ := h
  have hg : g < W.heap.size := by
    by_cases hlt : g < W.heap.size
    · exact hlt
    · rw [Array.getElem?_eq_none (by omega)] at h4; cases h4
  obtain ⟨p, cap, rfl⟩ := own_shapeK h5
  refine ⟨rv, p, cap, hg, by simp [World.cell?, h4], by simp [World.cell?, h4], h2.below (by rw [h1]; exact h3), fun j hj => ?_⟩
  rcases h5.2 with ⟨e1, e2⟩ | ⟨b, cap', cur, e1, e2, e3, e4⟩
  · omega
  · have hp : p = some ⟨b, 0, none⟩ := by injection e1
    obtain ⟨a1, a2, a3, a4⟩ := orgCs_get os j hj
    have hlt := h5.lt b (by rw [e1]; rfl)
    refine ⟨b, hp, hlt.2, ?_⟩
    have hadd : ∀ n, (⟨b, 0, none⟩ : Addr).add n = ⟨b, n, none⟩ := fun n => by rw [Addr.add_lit, Nat.zero_add]
    have hc : ∀ n u, (orgCs os)[n]? = some u → W.cell? ⟨b, n, none⟩ = some u := fun n u hu => by
      rw [← hadd]; exact h5.cells (g := b) (by rw [e1]; rfl) _ _ hu
    exact ⟨hc _ _ a1, hc _ _ a2, hc _ _ a3, hc _ _ a4⟩
end Go.Proofs.YtgohllfpceeboabGreatDoor
