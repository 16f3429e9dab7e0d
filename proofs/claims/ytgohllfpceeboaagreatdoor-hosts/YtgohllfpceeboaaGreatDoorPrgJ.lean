import Derived.Test.YtgohllfpceeboaaGreatDoorPrgI
import Derived.Shelf.Spec.SlicesInsertGrow
namespace Go.Proofs.YtgohllfpceeboaaGreatDoor
open Go.RowKit
attribute [local go_sem ↓] Go.wp_at_zero Go.wp_at_succ

def ruV (l : List Int) : List Value := l.map fun c => Value.int .i32 c
theorem ruV_len (l : List Int) : (ruV l).length = l.length := by simp [ruV]
theorem Tryz.info21 : (Tryz.prog.info? 21).map (fun i => (i.zero, i.size, i.bytes)) = some (some (.int .i32 0), 1, 4) := by kernel_rfl
/-- A row, some of whose values are written anew. -/
def setL : List Value → Nat → List Value → List Value
  | xs, _, [] => xs
  | xs, o, v :: vs => setL (xs.set o v) (o + 1) vs
theorem setL_get : ∀ (vs xs : List Value) (o k : Nat), o + vs.length ≤ xs.length → (setL xs o vs)[k]? = if o ≤ k ∧ k < o + vs.length then vs[k - o]? else xs[k]? := by
  intro vs
  induction vs with
  | nil => intro xs o k _; rw [if_neg (by simp only [List.length_nil]; omega)]; rfl
  | cons v vs ih =>
    intro xs o k h
    simp only [List.length_cons] at h ⊢
    rw [setL, ih _ _ _ (by rw [List.length_set]; omega)]
    by_cases c1 : o + 1 ≤ k ∧ k < o + 1 + vs.length
    · rw [if_pos c1, if_pos (by omega), show k - o = (k - (o + 1)) + 1 from by omega, List.getElem?_cons_succ]
    · rw [if_neg c1, List.getElem?_set]
      by_cases c2 : o = k
      · subst c2
        rw [if_pos rfl, if_pos (by omega), if_pos (by omega), Nat.sub_self]; rfl
      · rw [if_neg c2, if_neg (by omega)]
theorem own_setCells {B : Nat} {e : TypeId} {g n c : Nat} : ∀ (vs xs : List Value) (w : World) (o : Nat), w.ownsRow B e 1 (.slice (some ⟨g, 0, none⟩) n c) n xs →
    (w.setCells g o vs).ownsRow B e 1 (.slice (some ⟨g, 0, none⟩) n c) n (setL xs o vs) ∧ w.grownBy (w.setCells g o vs) (some g) := by
  intro vs
  induction vs with
  | nil => intro xs w o h; exact ⟨h, grown_refl _ _⟩
  | cons v vs ih =>
    intro xs w o h
    obtain ⟨h1, h2⟩ := h.stored o v
    obtain ⟨h3, h4⟩ := ih _ _ (o + 1) h1
    exact ⟨h3, grown_trans h2 h4⟩
/-- A row that is one value longer, in the room that it has. -/
theorem own_wider {w : World} {B : Nat} {e : TypeId} {g n c : Nat} {xs : List Value} (h : w.ownsRow B e 1 (.slice (some ⟨g, 0, none⟩) n c) n xs) (hc : n + 1 ≤ c) : ∃ y, w.ownsRow B e 1 (.slice (some ⟨g, 0, none⟩) (n + 1) c) (n + 1) (xs ++ [y]) := by
  have hl : xs.length = n := by have := h.1; omega
  rcases h.2 with ⟨h1, _⟩ | ⟨g', c', cur, h1, h2, h3, h4, h5, h6, h7⟩
  · cases h1
  · cases h1
    have hn : n < cur.toList.length := by rw [Array.length_toList]; omega
    refine ⟨cur.toList[n]'hn, by simp; omega, .inr ⟨g, c, cur, rfl, h2, h3, hc, h5, h6, ?_⟩⟩
    rw [Nat.mul_one] at h7 ⊢
    rw [List.take_succ_eq_append_getElem hn, h7]
theorem put_row (l : List Int) (x : Int) (i : Nat) (y : Value) (hi : i ≤ l.length) : setL (setL (ruV l ++ [y]) (i + 1) ((ruV l).drop i)) i [.int .i32 x] = ruV (l.take i ++ x :: l.drop i) := by
  have n1 := ruV_len l
  have hd : ((ruV l).drop i).length = l.length - i := by rw [List.length_drop, n1]
  have hl : (setL (ruV l ++ [y]) (i + 1) ((ruV l).drop i)).length = l.length + 1 := by
    have : ∀ (vs xs : List Value) (o : Nat), (setL xs o vs).length = xs.length := by
      intro vs
      induction vs with
      | nil => intro xs o; rfl
      | cons v vs ih => intro xs o; rw [setL, ih, List.length_set]
    rw [this, List.length_append, n1]; rfl
  apply List.ext_getElem?
  intro k
  rw [setL_get _ _ _ _ (by rw [hl]; simp; omega), setL_get _ _ _ _ (by rw [List.length_append, n1, hd]; simp; omega), hd]
  unfold ruV
  rw [List.map_append, List.map_cons, List.getElem?_append, List.length_map, List.getElem?_append, List.length_map, List.length_take, Nat.min_eq_left hi]
  by_cases c1 : k < i
  · rw [if_neg (by omega), if_neg (by omega), if_pos (by omega), if_pos c1, List.getElem?_map, List.getElem?_map, List.getElem?_take, if_pos c1]
  · rw [if_neg c1]
    by_cases c2 : k = i
    · subst c2
      rw [if_pos (by simp), Nat.sub_self]; rfl
    · rw [if_neg (by simp; omega), show k - i = (k - i - 1) + 1 from by omega, List.getElem?_cons_succ]
      by_cases c3 : k < i + 1 + (l.length - i)
      · rw [if_pos (by omega), List.getElem?_drop, List.getElem?_map, List.getElem?_map, List.getElem?_drop, show i + (k - (i + 1)) = i + (k - i - 1) from by omega]
      · rw [if_neg (by omega), if_neg (by omega), List.getElem?_eq_none (by simp; omega), List.getElem?_eq_none (by simp; omega)]
/-- Where a slice's own block is to be found, of a row that is known. -/
theorem own_heap {w : World} {B : Nat} {e : TypeId} {g n c : Nat} {xs : List Value} (h : w.ownsRow B e 1 (.slice (some ⟨g, 0, none⟩) n c) n xs) : ∃ cur : Array Value, w.heap[g]? = some (.cells cur e) ∧ n ≤ c ∧ c ≤ maxLen ∧ cur.size = c ∧ B ≤ g := by
  rcases h.2 with ⟨h1, _⟩ | ⟨g', c', cur, h1, h2, h3, h4, h5, h6, h7⟩
  · cases h1
  · cases h1
    exact ⟨cur, h3, h4, h5, by omega, h2⟩
set_option maxRecDepth 100000 in
set_option maxHeartbeats 4000000 in
/-- slices.Insert of one rune at the end -/
theorem pinsert_end (l : List Int) (x : Int) (B g c vb : Nat) (w : World) (ho : w.ownsRow B 21 1 (.slice (some ⟨g, 0, none⟩) l.length c) l.length (ruV l)) (hl : l.length ≤ 1000) (hB : B ≤ w.heap.size) (hv : w.cell? ⟨vb, 0, none⟩ = some (.int .i32 x)) :
    Calls Tryz.prog 125 #[.slice (some ⟨g, 0, none⟩) l.length c, .int .i64 l.length, .slice (some ⟨vb, 0, none⟩) 1 1] w fun e w' => ∃ g' c', e = .returned (.slice (some ⟨g', 0, none⟩) (l.length + 1) c') ∧ w'.ownsRow B 21 1 (.slice (some ⟨g', 0, none⟩) (l.length + 1) c') (l.length + 1) (ruV (l ++ [x])) ∧ w.grownBy w' (some g) ∧ (g' = g ∨ g' = w.heap.size) := by
  obtain ⟨i0, hi, hz0, hz1, hz2⟩ := info_parts Tryz.info21
  obtain ⟨cur, _, hnc, hcm, _, _⟩ := own_heap ho
  unfold maxLen at hcm
  obtain ⟨n, hn⟩ : ∃ n, l.length = n := ⟨_, rfl⟩
  rw [hn] at ho hl hnc ⊢
  have HO := hide ho
  clear ho hn
  have hnews : ∀ (j : Nat) (u : Value), [Value.int .i32 x][j]? = some u → w.cell? ((⟨vb, 0, none⟩ : Addr).add j) = some u := by
    intro j u hj
    cases j with
    | zero => rw [Addr.add_lit]; cases hj; exact hv
    | succ j => simp at hj
  go_enter Tryz.func125, Tryz.ntmps125
  go_wp2_with (at_builtin; refine wpList_append_lies _ rfl _ _ _ rfl B 21 i0 (.int .i32 0) 1 4 Tryz.underlying176 hi hz0 hz1 hz2 rfl (by decide) _ _ _ rfl HO.out ⟨vb, 0, none⟩ 1 1 [.int .i32 x] rfl rfl hnews (by simp [Value.oneCell']) (by omega) (by unfold maxLen; omega) (by omega) hB _ rfl ?_; intro g1 cap1 w1 hown1 hgrow hat hlt1)
  all_goals go_ret
  all_goals refine ⟨g1, cap1, rfl, by unfold ruV at hown1 ⊢; rw [List.map_append]; exact hown1, hgrow, ?_⟩
  all_goals rcases hat with hat | hat
  all_goals first | exact .inl (Option.some.inj hat.symm) | exact .inr hat
set_option maxRecDepth 100000 in
set_option maxHeartbeats 4000000 in
/-- slices.Insert of one rune ahead of the end, where there is room -/
theorem pinsert_shift (l : List Int) (x : Int) (i B g c vb : Nat) (w : World) (ho : w.ownsRow B 21 1 (.slice (some ⟨g, 0, none⟩) l.length c) l.length (ruV l)) (hl : l.length ≤ 1000) (hi : i < l.length) (hc : l.length + 1 ≤ c) (hv : w.heap[vb]? = some (.cells #[.int .i32 x] 21)) (hne : vb ≠ g) :
    Calls Tryz.prog 125 #[.slice (some ⟨g, 0, none⟩) l.length c, .int .i64 i, .slice (some ⟨vb, 0, none⟩) 1 1] w fun e w' => e = .returned (.slice (some ⟨g, 0, none⟩) (l.length + 1) c) ∧ w'.ownsRow B 21 1 (.slice (some ⟨g, 0, none⟩) (l.length + 1) c) (l.length + 1) (ruV (l.take i ++ x :: l.drop i)) ∧ w.grownBy w' (some g) := by
  obtain ⟨i0, hi0, hz0, hz1, hz2⟩ := info_parts Tryz.info21
  obtain ⟨cur, hcur, hnc, hcm, hcs, _⟩ := own_heap ho
  unfold maxLen at hcm
  obtain ⟨y, hwide⟩ := own_wider ho hc
  have how1 : w.drew.ownsRow B 21 1 (.slice (some ⟨g, 0, none⟩) (l.length + 1) c) (l.length + 1) (ruV l ++ [y]) := hwide
  obtain ⟨hA, gA⟩ := own_setCells ((ruV l).drop i) _ _ (i + 1) how1
  obtain ⟨hZ, gZ⟩ := own_setCells [.int .i32 x] _ _ i hA
  rw [put_row l x i y (by omega)] at hZ
  have hgr : w.grownBy ((w.drew.setCells g (i + 1) ((ruV l).drop i)).setCells g i [.int .i32 x]) (some g) := grown_trans (grown_drew (grown_refl w (some g))) (grown_trans gA gZ)
  have hn1 := ruV_len l
  have hcell : ∀ j, j < l.length + 1 → (w.cell? ⟨g, j, none⟩).isSome = true := fun j hj => by
    rw [Lib.cell_of_heap hcur, Array.getElem?_eq_getElem (by omega)]; rfl
  have hcl : ∀ j v, (ruV l)[j]? = some v → w.cell? ⟨g, j, none⟩ = some v := fun j v hj => by
    have := ho.cells (g := g) rfl j v hj
    rw [Addr.add_lit, Nat.zero_add] at this; exact this
  have hfz : ∀ j, w.frozen? ⟨g, j, none⟩ = false := fun j => ho.frozenAt j
  have hvc : w.cell? ⟨vb, 0, none⟩ = some (.int .i32 x) := by rw [Lib.cell_of_heap hv]; rfl
  have hvf : ∀ j, w.frozen? ⟨vb, j, none⟩ = false := fun j => by unfold World.frozen?; rw [hv]; simp
  have hsz : (Tryz.prog.info? 21).map (·.size) = some 1 := by rw [hi0]; simp [hz1]
  have h1c : ∀ v ∈ ruV l, v.oneCell' = true := fun v hv => by
    obtain ⟨q, _, rfl⟩ := List.mem_map.1 hv; rfl
  have hdl : ((ruV l).drop i).length = l.length - i := by rw [List.length_drop, hn1]
  obtain ⟨n, hn⟩ : ∃ n, l.length = n := ⟨_, rfl⟩
  rw [hn] at ho hl hi hc hnc hwide how1 hZ hcell hdl hn1 ⊢
  have hov : ∀ lb cb, (callFunc 172 #[.slice (some ⟨vb, 0, none⟩) 1 1, .slice (some ⟨g, i + 1, none⟩) lb cb]).run Tryz.prog w = .ok (.value (.bool false)) w := fun lb cb => by
    rw [run_callFunc_extern Tryz.func172 (by kernel_rfl) (by kernel_rfl) (by kernel_rfl) (e := Extern.SlicesOverlaps.overlaps #[176, 176] #[4]) (by kernel_rfl),
      Lib.run_overlaps_apart w 176 4 21 Tryz.underlying176 1 Tryz.sizeOf21 ⟨vb, 0, none⟩ ⟨g, i + 1, none⟩ 1 1 lb cb hne 21 21 1 c (by unfold World.shape?; rw [hv]; rfl) (by unfold World.shape?; rw [hcur]; simp [hcs]) (by omega) (hvf _) (hvf _)]
    rfl
  have hcp1 : ∀ ty dc sc, (Builtin.copy_ #[176, 176] ty #[.slice (some ⟨g, i + 1, none⟩) (n - i) dc, .slice (some ⟨g, i, none⟩) (n + 1 - i) sc]).run Tryz.prog w.drew = .ok (goInt ((ruV l).drop i).length) (w.drew.setCells g (i + 1) ((ruV l).drop i)) := fun ty dc sc =>
    run_copy_cells w.drew _ _ ty 21 g (i + 1) (n - i) dc ⟨g, i, none⟩ (n + 1 - i) sc ((ruV l).drop i) Tryz.underlying176 hsz (by rw [hdl]; simp only [Nat.min_def]; split <;> omega)
      (fun j v hj => by rw [Addr.add_lit]; exact hcl (i + j) v (by rwa [List.getElem?_drop] at hj))
      (fun j hj => hcell _ (by omega)) (fun j hj => hfz _) (fun v hv => h1c v (List.mem_of_mem_drop hv))
  obtain ⟨W1, hW1⟩ : ∃ W1, W1 = w.drew.setCells g (i + 1) ((ruV l).drop i) := ⟨_, rfl⟩
  have hsp1 : ∀ k, k < n + 1 → (W1.cell? ⟨g, k, none⟩).isSome = true := fun k hk => by
    obtain ⟨cur2, hcur2, _, _, hcs2, _⟩ := own_heap hA
    rw [hW1, Lib.cell_of_heap hcur2, Array.getElem?_eq_getElem (by omega)]; rfl
  have hvc1 : W1.cell? ⟨vb, 0, none⟩ = some (.int .i32 x) := by
    rw [hW1]
    exact gA.cell (a := ⟨vb, 0, none⟩) hvc (fun h => hne (Option.some.inj h))
  have hfz1 : ∀ j, W1.frozen? ⟨g, j, none⟩ = false := fun j => by rw [hW1]; exact hA.frozenAt j
  have hcp2 : ∀ (W : World), (∀ x, W.cell? x = W1.cell? x) → (∀ x, W.frozen? x = W1.frozen? x) → ∀ ty dc, (Builtin.copy_ #[176, 176] ty #[.slice (some ⟨g, i, none⟩) (n + 1 - i) dc, .slice (some ⟨vb, 0, none⟩) 1 1]).run Tryz.prog W = .ok (goInt [Value.int .i32 x].length) (W.setCells g i [.int .i32 x]) := fun W hWc hWf ty dc =>
    run_copy_cells W _ _ ty 21 g i (n + 1 - i) dc ⟨vb, 0, none⟩ 1 1 [.int .i32 x] Tryz.underlying176 hsz (by simp only [List.length_cons, List.length_nil, Nat.min_def]; split <;> omega)
      (fun j v hj => by
        cases j with
        | zero => rw [Addr.add_lit, hWc]; cases hj; exact hvc1
        | succ j => simp at hj)
      (fun j hj => by rw [hWc]; simp at hj; exact hsp1 _ (by omega)) (fun j hj => by rw [hWf]; exact hfz1 _) (by simp [Value.oneCell'])
  rw [← hW1] at hcp1 hZ hgr
  have HZ := hide hZ
  have hz2' : ¬ ((i : Int) = (n : Int)) := by omega
  have hw1 : IntKind.i64.wrap ((i : Int) + 1) = (i : Int) + 1 := by rw [IntKind.wrap_i64]; omega
  have hb1 : (0 : Int) ≤ (i : Int) + 1 := by omega
  have hin : i ≤ n := by omega
  have htn : ((i : Int) + 1).toNat = i + 1 := by omega
  have hb2 : ¬ (c = i + 1) := by omega
  have hb3 : (i : Int) ≤ (n : Int) + 1 := by omega
  have hb4 : ¬ (c = i) := by omega
  have mixed : Tryz.prog.follows Departure.mixedOrders = true := by kernel_rfl
  clear ho hwide how1 hA gA hZ gZ hcell hcl hfz hvc hvf h1c hdl hcur hsp1 hvc1 hfz1 hv hW1 hn1 hcs
  go_enter Tryz.func125, Tryz.ntmps125
  go_wp2_with (simp only [hov])
  go_region_law_o (refine step_copy_runI rfl _ _ 176 176 rfl _ _ (by simp [Act.eval, Act.put]) (by simp [Act.eval, Act.put]) (hcp1 _ _ _) ?_)
  go_wp2_with (at_builtin; refine wpList_copy_runI _ rfl _ _ 176 176 rfl _ _ rfl rfl (hcp2 _ (fun _ => rfl) (fun _ => rfl) _ _) ?_)
  go_ret
  exact ⟨rfl, HZ.out, hgr⟩
theorem setL_len : ∀ (vs xs : List Value) (o : Nat), (setL xs o vs).length = xs.length := by
  intro vs
  induction vs with
  | nil => intro xs o; rfl
  | cons v vs ih => intro xs o; rw [setL, ih, List.length_set]
theorem put_row2 (l : List Int) (x : Int) (i : Nat) (z : List Value) (hi : i ≤ l.length) (hz : z.length = l.length + 1 - i) : setL (setL ((ruV l).take i ++ z) i [.int .i32 x]) (i + 1) ((ruV l).drop i) = ruV (l.take i ++ x :: l.drop i) := by
  have n1 := ruV_len l
  have hd : ((ruV l).drop i).length = l.length - i := by rw [List.length_drop, n1]
  have ht : ((ruV l).take i ++ z).length = l.length + 1 := by rw [List.length_append, List.length_take, n1, hz]; omega
  apply List.ext_getElem?
  intro k
  rw [setL_get _ _ _ _ (by rw [setL_len, ht, hd]; omega), setL_get _ _ _ _ (by rw [ht]; simp; omega), hd]
  unfold ruV at ht ⊢
  rw [List.map_append, List.map_cons, List.getElem?_append (l₁ := List.map (fun c => Value.int .i32 c) (l.take i)), List.length_map, List.length_take, Nat.min_eq_left hi]
  by_cases c1 : k < i
  · rw [if_neg (by omega), if_neg (by omega), if_pos c1, List.getElem?_append_left (by simp; omega), List.getElem?_take, if_pos c1, List.getElem?_map, List.getElem?_map, List.getElem?_take, if_pos c1]
  · rw [if_neg c1]
    by_cases c2 : k = i
    · subst c2
      rw [if_neg (by omega), if_pos (by simp), Nat.sub_self]; rfl
    · by_cases c3 : k < i + 1 + (l.length - i)
      · rw [if_pos (by omega), show k - i = (k - i - 1) + 1 from by omega, List.getElem?_cons_succ, List.getElem?_drop, List.getElem?_map, List.getElem?_map, List.getElem?_drop, show i + (k - (i + 1)) = i + (k - i - 1) from by omega]
      · rw [if_neg (by omega), if_neg (by simp; omega), List.getElem?_eq_none (by rw [ht]; omega), show k - i = (k - i - 1) + 1 from by omega, List.getElem?_cons_succ, List.getElem?_eq_none (by simp; omega)]
set_option maxRecDepth 100000 in
set_option maxHeartbeats 4000000 in
/-- slices.Insert of one rune ahead of the end, where there is no room -/
theorem pinsert_grow (l : List Int) (x : Int) (i B g c vb : Nat) (w : World) (ho : w.ownsRow B 21 1 (.slice (some ⟨g, 0, none⟩) l.length c) l.length (ruV l)) (hl : l.length ≤ 1000) (hi : i < l.length) (hc : c < l.length + 1) (hv : w.heap[vb]? = some (.cells #[.int .i32 x] 21)) (hB : B ≤ w.heap.size) :
    Calls Tryz.prog 125 #[.slice (some ⟨g, 0, none⟩) l.length c, .int .i64 i, .slice (some ⟨vb, 0, none⟩) 1 1] w fun e w' => ∃ c', e = .returned (.slice (some ⟨w.heap.size, 0, none⟩) (l.length + 1) c') ∧ w'.ownsRow B 21 1 (.slice (some ⟨w.heap.size, 0, none⟩) (l.length + 1) c') (l.length + 1) (ruV (l.take i ++ x :: l.drop i)) ∧ w.grownBy w' none := by
  obtain ⟨i0, hi0, hz0, hz1, hz2⟩ := info_parts Tryz.info21
  obtain ⟨cur, hcur, hnc, hcm, hcs, _⟩ := own_heap ho
  unfold maxLen at hcm
  have hn1 := ruV_len l
  have hgl : g < w.heap.size := (ho.lt g rfl).2
  have hvl : vb < w.heap.size := (Array.getElem?_eq_some_iff.1 hv).1
  have hcl : ∀ j v, (ruV l)[j]? = some v → w.cell? ⟨g, j, none⟩ = some v := fun j v hj => by
    have := ho.cells (g := g) rfl j v hj
    rw [Addr.add_lit, Nat.zero_add] at this; exact this
  have hvc : w.cell? ⟨vb, 0, none⟩ = some (.int .i32 x) := by rw [Lib.cell_of_heap hv]; rfl
  have hsz : (Tryz.prog.info? 21).map (·.size) = some 1 := by rw [hi0]; simp [hz1]
  have h1c : ∀ v ∈ ruV l, v.oneCell' = true := fun v hv => by
    obtain ⟨q, _, rfl⟩ := List.mem_map.1 hv; rfl
  have hdl : ((ruV l).drop i).length = l.length - i := by rw [List.length_drop, hn1]
  have hold : (Builtin.firstCells i0.size i (.slice (some ⟨g, 0, none⟩) i c)).run Tryz.prog w.drew = .ok ((ruV l).take i).toArray w.drew := by
    rw [hz1]
    exact run_firstCells_some w.drew 1 i ⟨g, 0, none⟩ i c ((ruV l).take i) (by rw [List.length_take, hn1]; omega) (fun j v hj => by
      rw [Addr.add_lit, Nat.zero_add]
      rw [List.getElem?_take] at hj
      split at hj
      · exact hcl j v hj
      · cases hj)
  obtain ⟨G, hG⟩ : ∃ G, grownCap w (l.length + 1) c 21 = G := ⟨_, rfl⟩
  have hGn : l.length + 1 ≤ G := by rw [← hG]; exact grownCap_ge w _ _ _
  have hG63 : G ≤ maxLen := by rw [← hG]; exact grownCap_le_maxLen w (l.length + 1) c 21 (by unfold maxLen; omega)
  obtain ⟨ROW, hROW⟩ : ∃ ROW : Array Value, ((ruV l).take i).toArray ++ Builtin.zeroCells (Value.int .i32 0).cells (l.length + 1 - i) ++ Builtin.zeroCells (Value.int .i32 0).cells (G - (l.length + 1)) = ROW := ⟨_, rfl⟩
  have hik : i + (l.length + 1 - i) = l.length + 1 := by omega
  have hrz : ∀ ty, (Builtin.append_ #[176, 3] ty #[.slice (some ⟨g, 0, none⟩) i c, .int .i64 ((l.length : Int) + 1 - (i : Int))]).run Tryz.prog w =
      .ok (.slice (some ⟨w.heap.size, 0, none⟩) (l.length + 1) G) (w.drew.alloc (.cells ROW 21)) := fun ty => by
    have h := Lib.run_append_grow_zeros (P := Tryz.prog) w 176 3 ty 21 i0 _ .i64 .i64 Tryz.underlying176 Tryz.underlying3 hi0 hz0 (some ⟨g, 0, none⟩) i c ((ruV l).take i) hold (l.length + 1 - i) (by omega) (by omega) (by omega) (by omega) (by rw [hz2]; omega) (by rw [hz2, hik]; exact growslice_fits hc (by omega))
    rw [hik, hG, hROW] at h
    rw [show (l.length : Int) + 1 - (i : Int) = ((l.length + 1 - i : Nat) : Int) from by omega]
    exact h
  obtain ⟨W1, hW1⟩ : ∃ W1, w.drew.alloc (.cells ROW 21) = W1 := ⟨_, rfl⟩
  obtain ⟨z, hz⟩ : ∃ z : List Value, (Builtin.zeroCells (Value.int .i32 0).cells (l.length + 1 - i)).toList = z := ⟨_, rfl⟩
  have hzl : z.length = l.length + 1 - i := by rw [← hz]; simp [Builtin.zeroCells, Value.cells]
  have hRs : ROW.size = G := by
    rw [← hROW]; simp [Builtin.zeroCells, Value.cells]; omega
  have hRt : ROW.toList.take ((l.length + 1) * 1) = (ruV l).take i ++ z := by
    have e : ROW.toList = ((ruV l).take i ++ z) ++ (Builtin.zeroCells (Value.int .i32 0).cells (G - (l.length + 1))).toList := by
      rw [← hROW, ← hz]; simp
    rw [e, List.take_append_of_le_length (by rw [List.length_append, List.length_take, hn1, hzl]; omega), List.take_of_length_le (by rw [List.length_append, List.length_take, hn1, hzl]; omega)]
  have hWn : W1.heap[w.heap.size]? = some (.cells ROW 21) := by rw [← hW1]; show (w.drew.heap.push _)[w.heap.size]? = _; exact Array.getElem?_push_size
  have hown1 : W1.ownsRow B 21 1 (.slice (some ⟨w.heap.size, 0, none⟩) (l.length + 1) G) (l.length + 1) ((ruV l).take i ++ z) :=
    ⟨by rw [List.length_append, List.length_take, hn1, hzl]; omega, .inr ⟨w.heap.size, G, ROW, rfl, hB, hWn, hGn, hG63, by omega, hRt⟩⟩
  obtain ⟨hA, gA⟩ := own_setCells [.int .i32 x] _ _ i hown1
  obtain ⟨hZ, gZ⟩ := own_setCells ((ruV l).drop i) _ _ (i + 1) hA
  rw [put_row2 l x i z (by omega) hzl] at hZ
  have hgW : w.grownBy W1 none := by rw [← hW1]; exact ⟨rfl, rfl, rfl, by rw [World.size_alloc]; exact Nat.le_succ _, fun k hk _ => Below.heap_alloc w.drew _ k hk⟩
  have hgF : w.grownBy ((W1.setCells w.heap.size i [.int .i32 x]).setCells w.heap.size (i + 1) ((ruV l).drop i)) none :=
    ⟨gZ.os.trans (gA.os.trans hgW.os), gZ.tape.trans (gA.tape.trans hgW.tape), gZ.output.trans (gA.output.trans hgW.output), Nat.le_trans hgW.size (Nat.le_trans gA.size gZ.size), fun k hk hn => by
      have hne : some k ≠ some w.heap.size := fun h => by cases h; omega
      rw [gZ.block k (Nat.lt_of_lt_of_le hk (Nat.le_trans hgW.size gA.size)) hne, gA.block k (Nat.lt_of_lt_of_le hk hgW.size) hne]
      exact hgW.block k hk hn⟩
  have hN : ∀ j, j < l.length + 1 → (W1.cell? ⟨w.heap.size, j, none⟩).isSome = true := fun j hj => by
    rw [Lib.cell_of_heap hWn, Array.getElem?_eq_getElem (by omega)]; rfl
  have hNf : ∀ j, W1.frozen? ⟨w.heap.size, j, none⟩ = false := fun j => hown1.frozenAt j
  have hOb : ∀ j v, w.cell? ⟨g, j, none⟩ = some v → W1.cell? ⟨g, j, none⟩ = some v := fun j v h => (hgW.cell_far ⟨g, j, none⟩ hgl (by simp)).trans h
  have hOv : W1.cell? ⟨vb, 0, none⟩ = some (.int .i32 x) := (hgW.cell_far ⟨vb, 0, none⟩ hvl (by simp)).trans hvc
  have hcpA : ∀ (W : World), (∀ x, W.cell? x = W1.cell? x) → (∀ x, W.frozen? x = W1.frozen? x) → ∀ ty dc, (Builtin.copy_ #[176, 176] ty #[.slice (some ⟨w.heap.size, i, none⟩) (l.length + 1 - i) dc, .slice (some ⟨vb, 0, none⟩) 1 1]).run Tryz.prog W = .ok (goInt [Value.int .i32 x].length) (W.setCells w.heap.size i [.int .i32 x]) := fun W hWc hWf ty dc =>
    run_copy_cells W _ _ ty 21 w.heap.size i (l.length + 1 - i) dc ⟨vb, 0, none⟩ 1 1 [.int .i32 x] Tryz.underlying176 hsz (by simp only [List.length_cons, List.length_nil, Nat.min_def]; split <;> omega)
      (fun j v hj => by
        cases j with
        | zero => rw [Addr.add_lit, hWc]; cases hj; exact hOv
        | succ j => simp at hj)
      (fun j hj => by rw [hWc]; simp at hj; exact hN _ (by omega)) (fun j hj => by rw [hWf]; exact hNf _) (by simp [Value.oneCell'])
  obtain ⟨W2, hW2⟩ : ∃ W2, W1.setCells w.heap.size i [.int .i32 x] = W2 := ⟨_, rfl⟩
  rw [hW2] at hA gA hZ gZ hgF
  have hN2 : ∀ j, j < l.length + 1 → (W2.cell? ⟨w.heap.size, j, none⟩).isSome = true := fun j hj => by
    obtain ⟨cur2, hcur2, _, _, hcs2, _⟩ := own_heap hA
    rw [Lib.cell_of_heap hcur2, Array.getElem?_eq_getElem (by omega)]; rfl
  have hcpB : ∀ (W : World), (∀ x, W.cell? x = W2.cell? x) → (∀ x, W.frozen? x = W2.frozen? x) → ∀ ty dc sc, (Builtin.copy_ #[176, 176] ty #[.slice (some ⟨w.heap.size, i + 1, none⟩) (l.length - i) dc, .slice (some ⟨g, i, none⟩) (l.length - i) sc]).run Tryz.prog W = .ok (goInt ((ruV l).drop i).length) (W.setCells w.heap.size (i + 1) ((ruV l).drop i)) := fun W hWc hWf ty dc sc =>
    run_copy_cells W _ _ ty 21 w.heap.size (i + 1) (l.length - i) dc ⟨g, i, none⟩ (l.length - i) sc ((ruV l).drop i) Tryz.underlying176 hsz (by rw [hdl]; simp only [Nat.min_def]; split <;> omega)
      (fun j v hj => by
        rw [Addr.add_lit, hWc]
        exact gA.cell (a := ⟨g, i + j, none⟩) (hOb _ v (hcl (i + j) v (by rwa [List.getElem?_drop] at hj))) (fun h => by have := Option.some.inj h; simp only at this; omega))
      (fun j hj => by rw [hWc]; exact hN2 _ (by omega)) (fun j hj => by rw [hWf]; exact hA.frozenAt _) (fun v hv => h1c v (List.mem_of_mem_drop hv))
  have HZ := hide hZ
  have HGF := hide hgF
  have HW1 := hide hW1
  have HW2 := hide hW2
  obtain ⟨n, hn⟩ : ∃ n, l.length = n := ⟨_, rfl⟩
  rw [hn] at hl hi hc hnc hcpA hcpB hrz hGn HZ ⊢
  have hz2' : ¬ ((i : Int) = (n : Int)) := by omega
  have hz3 : (c : Int) < (n : Int) + 1 := by omega
  have hw1 : IntKind.i64.wrap ((i : Int) + 1) = (i : Int) + 1 := by rw [IntKind.wrap_i64]; omega
  have hb1 : (0 : Int) ≤ (i : Int) + 1 := by omega
  have hin : i ≤ n := by omega
  have htn : ((i : Int) + 1).toNat = i + 1 := by omega
  have hb3 : (i : Int) ≤ (n : Int) := by omega
  have hGi : ¬ (G = i) := by omega
  have hGim : ¬ (G = i + 1) := by omega
  have hci : ¬ (c = i) := by omega
  have mixed : Tryz.prog.follows Departure.mixedOrders = true := by kernel_rfl
  have hG64 : G ≤ 9223372036854775807 := by unfold maxLen at hG63; omega
  rw [hW1] at hrz
  clear ho hA gA hZ gZ hgF hcl hvc h1c hdl hcur hold hG hROW hik hz hzl hRs hRt hWn hown1 hgW hN hNf hOb hOv hN2 hn hv hn1 hcs hW1 hW2 hG63
  go_enter Tryz.func125, Tryz.ntmps125
  go_wp2_with (first | (at_builtin; refine Lib.wpList_append_run _ rfl _ _ _ _ rfl _ _ rfl rfl _ _ (hrz _) ?_) | (at_builtin; refine wpList_copy_runI _ rfl _ _ 176 176 rfl _ _ rfl rfl (hcpA _ (fun _ => rfl) (fun _ => rfl) _ _) ?_))
  have hcpB2 : (Builtin.copy_ #[176, 176] 3 #[.slice (some ⟨w.heap.size, i + 1, none⟩) (n - i) (G - (i + 1)), .slice (some ⟨g, i, none⟩) (n - i) (c - i)]).run Tryz.prog (W1.setCells w.heap.size i [.int .i32 x]).drew = .ok (goInt ((ruV l).drop i).length) ((W1.setCells w.heap.size i [.int .i32 x]).drew.setCells w.heap.size (i + 1) ((ruV l).drop i)) := hcpB _ (fun _ => by rw [← HW2.out]; rfl) (fun _ => by rw [← HW2.out]; rfl) _ _ _
  go_region_law_o (refine step_copy_runI rfl _ _ 176 176 rfl (.slice (some ⟨w.heap.size, i + 1, none⟩) (n - i) (G - (i + 1))) (.slice (some ⟨g, i, none⟩) (n - i) (c - i)) (by simp [Act.eval, Act.put]) (by simp [Act.eval, Act.put]) hcpB2 ?_)
  go_wp2
  go_ret
  refine ⟨G, rfl, ?_, ?_⟩
  · have := HZ.out; rw [← HW2.out] at this; rw [← drew_setCells]; exact this
  · have := HGF.out; rw [← HW2.out] at this; rw [← drew_setCells]; exact ⟨this.os, this.tape, this.output, this.size, this.block⟩
/-- slices.Insert of one rune -/
theorem pinsert_any (l : List Int) (x : Int) (i B g c vb : Nat) (w : World) (ho : w.ownsRow B 21 1 (.slice (some ⟨g, 0, none⟩) l.length c) l.length (ruV l)) (hl : l.length ≤ 1000) (hi : i ≤ l.length) (hv : w.heap[vb]? = some (.cells #[.int .i32 x] 21)) (hne : vb ≠ g) (hB : B ≤ w.heap.size) :
    Calls Tryz.prog 125 #[.slice (some ⟨g, 0, none⟩) l.length c, .int .i64 i, .slice (some ⟨vb, 0, none⟩) 1 1] w fun e w' => ∃ g' c', e = .returned (.slice (some ⟨g', 0, none⟩) (l.length + 1) c') ∧ w'.ownsRow B 21 1 (.slice (some ⟨g', 0, none⟩) (l.length + 1) c') (l.length + 1) (ruV (l.take i ++ x :: l.drop i)) ∧ w.grownBy w' (some g) ∧ (g' = g ∨ g' = w.heap.size) := by
  by_cases h1 : i = l.length
  · subst h1
    have := pinsert_end l x B g c vb w ho hl hB (by rw [Lib.cell_of_heap hv]; rfl)
    rw [List.take_length, List.drop_length]
    exact this
  · by_cases h2 : l.length + 1 ≤ c
    · refine (pinsert_shift l x i B g c vb w ho hl (by omega) h2 hv hne).mono ?_
      rintro e w' ⟨rfl, h3, h4⟩
      exact ⟨g, c, rfl, h3, h4, .inl rfl⟩
    · refine (pinsert_grow l x i B g c vb w ho hl (by omega) (by omega) hv hB).mono ?_
      rintro e w' ⟨c', rfl, h3, h4⟩
      exact ⟨w.heap.size, c', rfl, h3, ⟨h4.os, h4.tape, h4.output, h4.size, fun k hk _ => h4.block k hk (by simp)⟩, .inr rfl⟩
end Go.Proofs.YtgohllfpceeboaaGreatDoor
