import Derived.Test.YtgohllfpceeboaaGreatDoorInae
import Derived.Test.YtgohllfpceeboaaGreatDoorInap
import Derived.Shelf.Spec.SlicesInsertGrow
namespace Go.Proofs.YtgohllfpceeboaaGreatDoor
open Go.RowKit
attribute [local go_sem ↓] Go.wp_at_zero Go.wp_at_succ
def ruV (l : List Int) : List Value := l.map fun c => Value.int .i32 c
theorem ruV_len (l : List Int) : (ruV l).length = l.length := by simp [ruV]
theorem Tryz.info21 : (Tryz.prog.info? 21).map (fun i => (i.zero, i.size, i.bytes)) = some (some (.int .i32 0), 1, 4) := by kernel_rfl
def setL : List Value → Nat → List Value → List Value
 | xs, _, [] => xs
 | xs, o, v :: vs => setL (xs.set o v) (o + 1) vs
theorem setL_get : ∀ (vs xs : List Value) (o k : Nat), o + vs.length ≤ xs.length → (setL xs o vs)[k]? = if o ≤ k ∧ k < o + vs.length then vs[k - o]? else xs[k]? := by
 intro vs
 induction vs with
 | nil => intro xs o k _; rw [if_neg (by simp only [List.length_nil]; omega)]; rfl
 | cons v vs ih =>
   intro xs o k h
   simp only [List.length_cons] at h ⊢
   rw [setL, ih _ _ _ (by rw [List.length_set]; omega)]
   by_cases c1 : o + 1 ≤ k ∧ k < o + 1 + vs.length
   · rw [if_pos c1, if_pos (by omega), show k - o = (k - (o + 1)) + 1 from by omega, List.getElem?_cons_succ]
   · rw [if_neg c1, List.getElem?_set]
     by_cases c2 : o = k
     · subst c2
       rw [if_pos rfl, if_pos (by omega), if_pos (by omega), Nat.sub_self]; rfl
     · rw [if_neg c2, if_neg (by omega)]
theorem own_setCells {B : Nat} {e : TypeId} {g n c : Nat} : ∀ (vs xs : List Value) (w : World) (o : Nat), w.ownsRow B e 1 (.slice (some ⟨g, 0, none⟩) n c) n xs →
 (w.setCells g o vs).ownsRow B e 1 (.slice (some ⟨g, 0, none⟩) n c) n (setL xs o vs) ∧ w.grownBy (w.setCells g o vs) (some g) := by
 intro vs
 induction vs with
 | nil => intro xs w o h; exact ⟨h, grown_refl _ _⟩
 | cons v vs ih =>
   intro xs w o h
   obtain ⟨h1, h2⟩ := h.stored o v
   obtain ⟨h3, h4⟩ := ih _ _ (o + 1) h1
   exact ⟨h3, grown_trans h2 h4⟩
theorem own_wider {w : World} {B : Nat} {e : TypeId} {g n c : Nat} {xs : List Value} (h : w.ownsRow B e 1 (.slice (some ⟨g, 0, none⟩) n c) n xs) (hc : n + 1 ≤ c) : ∃ y, w.ownsRow B e 1 (.slice (some ⟨g, 0, none⟩) (n + 1) c) (n + 1) (xs ++ [y]) := by
 have hl : xs.length = n := by have := h.1; omega
 rcases h.2 with ⟨h1, _⟩ | ⟨g', c', cur, h1, h2, h3, h4, h5, h6, h7⟩
 · cases h1
 · cases h1
   have hn : n < cur.toList.length := by rw [Array.length_toList]; omega
   refine ⟨cur.toList[n]'hn, by simp; omega, .inr ⟨g, c, cur, rfl, h2, h3, hc, h5, h6, ?_⟩⟩
   rw [Nat.mul_one] at h7 ⊢
   rw [List.take_succ_eq_append_getElem hn, h7]
theorem put_row (l : List Int) (x : Int) (i : Nat) (y : Value) (hi : i ≤ l.length) : setL (setL (ruV l ++ [y]) (i + 1) ((ruV l).drop i)) i [.int .i32 x] = ruV (l.take i ++ x :: l.drop i) := by
 have n1 := ruV_len l
 have hd : ((ruV l).drop i).length = l.length - i := by rw [List.length_drop, n1]
 have hl : (setL (ruV l ++ [y]) (i + 1) ((ruV l).drop i)).length = l.length + 1 := by
  have : ∀ (vs xs : List Value) (o : Nat), (setL xs o vs).length = xs.length := by
   intro vs
   induction vs with
   | nil => intro xs o; rfl
   | cons v vs ih => intro xs o; rw [setL, ih, List.length_set]
  rw [this, List.length_append, n1]; rfl
 apply List.ext_getElem?
 intro k
 rw [setL_get _ _ _ _ (by rw [hl]; simp; omega), setL_get _ _ _ _ (by rw [List.length_append, n1, hd]; simp; omega), hd]
 unfold ruV
 rw [List.map_append, List.map_cons, List.getElem?_append, List.length_map, List.getElem?_append, List.length_map, List.length_take, Nat.min_eq_left hi]
 by_cases c1 : k < i
 · rw [if_neg (by omega), if_neg (by omega), if_pos (by omega), if_pos c1, List.getElem?_map, List.getElem?_map, List.getElem?_take, if_pos c1]
 · rw [if_neg c1]
   by_cases c2 : k = i
   · subst c2
     rw [if_pos (by simp), Nat.sub_self]; rfl
   · rw [if_neg (by simp; omega), show k - i = (k - i - 1) + 1 from by omega, List.getElem?_cons_succ]
     by_cases c3 : k < i + 1 + (l.length - i)
     · rw [if_pos (by omega), List.getElem?_drop, List.getElem?_map, List.getElem?_map, List.getElem?_drop, show i + (k - (i + 1)) = i + (k - i - 1) from by omega]
     · rw [if_neg (by omega), if_neg (by omega), List.getElem?_eq_none (by simp; omega), List.getElem?_eq_none (by simp; omega)]
theorem own_heap {w : World} {B : Nat} {e : TypeId} {g n c : Nat} {xs : List Value} (h : w.ownsRow B e 1 (.slice (some ⟨g, 0, none⟩) n c) n xs) : ∃ cur : Array Value, w.heap[g]? = some (.cells cur e) ∧ n ≤ c ∧ c ≤ maxLen ∧ cur.size = c ∧ B ≤ g := by
 rcases h.2 with ⟨h1, _⟩ | ⟨g', c', cur, h1, h2, h3, h4, h5, h6, h7⟩
 · cases h1
 · cases h1
   exact ⟨cur, h3, h4, h5, by omega, h2⟩
set_option maxRecDepth 100000 in
set_option maxHeartbeats 4000000 in
theorem pinsert_end (l : List Int) (x : Int) (B g c vb : Nat) (w : World) (ho : w.ownsRow B 21 1 (.slice (some ⟨g, 0, none⟩) l.length c) l.length (ruV l)) (hl : l.length ≤ 1000) (hB : B ≤ w.heap.size) (hv : w.cell? ⟨vb, 0, none⟩ = some (.int .i32 x)) :
 Calls Tryz.prog 125 #[.slice (some ⟨g, 0, none⟩) l.length c, .int .i64 l.length, .slice (some ⟨vb, 0, none⟩) 1 1] w fun e w' => ∃ g' c', e = .returned (.slice (some ⟨g', 0, none⟩) (l.length + 1) c') ∧ w'.ownsRow B 21 1 (.slice (some ⟨g', 0, none⟩) (l.length + 1) c') (l.length + 1) (ruV (l ++ [x])) ∧ w.grownBy w' (some g) ∧ (g' = g ∨ g' = w.heap.size) := by
 obtain ⟨i0, hi, hz0, hz1, hz2⟩ := info_parts Tryz.info21
 obtain ⟨cur, _, hnc, hcm, _, _⟩ := own_heap ho
 unfold maxLen at hcm
 obtain ⟨n, hn⟩ : ∃ n, l.length = n := ⟨_, rfl⟩
 rw [hn] at ho hl hnc ⊢
 have HO := hide ho
 clear ho hn
 have hnews : ∀ (j : Nat) (u : Value), [Value.int .i32 x][j]? = some u → w.cell? ((⟨vb, 0, none⟩ : Addr).add j) = some u := by
  intro j u hj
  cases j with
  | zero => rw [Addr.add_lit]; cases hj; exact hv
  | succ j => simp at hj
 go_enter Tryz.func125, Tryz.ntmps125
 go_wp2_with (at_builtin; refine wpList_append_lies _ rfl _ _ _ rfl B 21 i0 (.int .i32 0) 1 4 Tryz.underlying176 hi hz0 hz1 hz2 rfl (by decide) _ _ _ rfl HO.out ⟨vb, 0, none⟩ 1 1 [.int .i32 x] rfl rfl hnews (by simp [Value.oneCell']) (by omega) (by unfold maxLen; omega) (by omega) hB _ rfl ?_; intro g1 cap1 w1 hown1 hgrow hat hlt1)
 all_goals go_ret
 all_goals refine ⟨g1, cap1, rfl, by unfold ruV at hown1 ⊢; rw [List.map_append]; exact hown1, hgrow, ?_⟩
 all_goals rcases hat with hat | hat
 all_goals first | exact .inl (Option.some.inj hat.symm) | exact .inr hat
set_option maxRecDepth 100000 in
set_option maxHeartbeats 4000000 in
theorem pinsert_shift (l : List Int) (x : Int) (i B g c vb : Nat) (w : World) (ho : w.ownsRow B 21 1 (.slice (some ⟨g, 0, none⟩) l.length c) l.length (ruV l)) (hl : l.length ≤ 1000) (hi : i < l.length) (hc : l.length + 1 ≤ c) (hv : w.heap[vb]? = some (.cells #[.int .i32 x] 21)) (hne : vb ≠ g) :
 Calls Tryz.prog 125 #[.slice (some ⟨g, 0, none⟩) l.length c, .int .i64 i, .slice (some ⟨vb, 0, none⟩) 1 1] w fun e w' => e = .returned (.slice (some ⟨g, 0, none⟩) (l.length + 1) c) ∧ w'.ownsRow B 21 1 (.slice (some ⟨g, 0, none⟩) (l.length + 1) c) (l.length + 1) (ruV (l.take i ++ x :: l.drop i)) ∧ w.grownBy w' (some g) := by
 obtain ⟨i0, hi0, hz0, hz1, hz2⟩ := info_parts Tryz.info21
 obtain ⟨cur, hcur, hnc, hcm, hcs, _⟩ := own_heap ho
 unfold maxLen at hcm
 obtain ⟨y, hwide⟩ := own_wider ho hc
 have how1 : w.drew.ownsRow B 21 1 (.slice (some ⟨g, 0, none⟩) (l.length + 1) c) (l.length + 1) (ruV l ++ [y]) := hwide
 obtain ⟨hA, gA⟩ := own_setCells ((ruV l).drop i) _ _ (i + 1) how1
 obtain ⟨hZ, gZ⟩ := own_setCells [.int .i32 x] _ _ i hA
 rw [put_row l x i y (by omega)] at hZ
 have hgr : w.grownBy ((w.drew.setCells g (i + 1) ((ruV l).drop i)).setCells g i [.int .i32 x]) (some g) := grown_trans (grown_drew (grown_refl w (some g))) (grown_trans gA gZ)
 have hn1 := ruV_len l
 have hcell : ∀ j, j < l.length + 1 → (w.cell? ⟨g, j, none⟩).isSome = true := fun j hj => by
  rw [Lib.cell_of_heap hcur, Array.getElem?_eq_getElem (by omega)]; rfl
 have hcl : ∀ j v, (ruV l)[j]? = some v → w.cell? ⟨g, j, none⟩ = some v := fun j v hj => by
  have := ho.cells (g := g) rfl j v hj
  rw [Addr.add_lit, Nat.zero_add] at this; exact this
 have hfz : ∀ j, w.frozen? ⟨g, j, none⟩ = false := fun j => ho.frozenAt j
 have hvc : w.cell? ⟨vb, 0, none⟩ = some (.int .i32 x) := by rw [Lib.cell_of_heap hv]; rfl
 have hvf : ∀ j, w.frozen? ⟨vb, j, none⟩ = false := fun j => by unfold World.frozen?; rw [hv]; simp
 have hsz : (Tryz.prog.info? 21).map (·.size) = some 1 := by rw [hi0]; simp [hz1]
 have h1c : ∀ v ∈ ruV l, v.oneCell' = true := fun v hv => by
  obtain ⟨q, _, rfl⟩ := List.mem_map.1 hv; rfl
 have hdl : ((ruV l).drop i).length = l.length - i := by rw [List.length_drop, hn1]
 obtain ⟨n, hn⟩ : ∃ n, l.length = n := ⟨_, rfl⟩
 rw [hn] at ho hl hi hc hnc hwide how1 hZ hcell hdl hn1 ⊢
 have hov : ∀ lb cb, (callFunc 172 #[.slice (some ⟨vb, 0, none⟩) 1 1, .slice (some ⟨g, i + 1, none⟩) lb cb]).run Tryz.prog w = .ok (.value (.bool false)) w := fun lb cb => by
  rw [run_callFunc_extern Tryz.func172 (by kernel_rfl) (by kernel_rfl) (by kernel_rfl) (e := Extern.SlicesOverlaps.overlaps #[176, 176] #[4]) (by kernel_rfl),
   Lib.run_overlaps_apart w 176 4 21 Tryz.underlying176 1 Tryz.sizeOf21 ⟨vb, 0, none⟩ ⟨g, i + 1, none⟩ 1 1 lb cb hne 21 21 1 c (by unfold World.shape?; rw [hv]; rfl) (by unfold World.shape?; rw [hcur]; simp [hcs]) (by omega) (hvf _) (hvf _)]
  rfl
 have hcp1 : ∀ ty dc sc, (Builtin.copy_ #[176, 176] ty #[.slice (some ⟨g, i + 1, none⟩) (n - i) dc, .slice (some ⟨g, i, none⟩) (n + 1 - i) sc]).run Tryz.prog w.drew = .ok (goInt ((ruV l).drop i).length) (w.drew.setCells g (i + 1) ((ruV l).drop i)) := fun ty dc sc =>
  run_copy_cells w.drew _ _ ty 21 g (i + 1) (n - i) dc ⟨g, i, none⟩ (n + 1 - i) sc ((ruV l).drop i) Tryz.underlying176 hsz (by rw [hdl]; simp only [Nat.min_def]; split <;> omega)
   (fun j v hj => by rw [Addr.add_lit]; exact hcl (i + j) v (by rwa [List.getElem?_drop] at hj))
   (fun j hj => hcell _ (by omega)) (fun j hj => hfz _) (fun v hv => h1c v (List.mem_of_mem_drop hv))
 obtain ⟨W1, hW1⟩ : ∃ W1, W1 = w.drew.setCells g (i + 1) ((ruV l).drop i) := ⟨_, rfl⟩
 have hsp1 : ∀ k, k < n + 1 → (W1.cell? ⟨g, k, none⟩).isSome = true := fun k hk => by
  obtain ⟨cur2, hcur2, _, _, hcs2, _⟩ := own_heap hA
  rw [hW1, Lib.cell_of_heap hcur2, Array.getElem?_eq_getElem (by omega)]; rfl
 have hvc1 : W1.cell? ⟨vb, 0, none⟩ = some (.int .i32 x) := by
  rw [hW1]
  exact gA.cell (a := ⟨vb, 0, none⟩) hvc (fun h => hne (Option.some.inj h))
 have hfz1 : ∀ j, W1.frozen? ⟨g, j, none⟩ = false := fun j => by rw [hW1]; exact hA.frozenAt j
 have hcp2 : ∀ (W : World), (∀ x, W.cell? x = W1.cell? x) → (∀ x, W.frozen? x = W1.frozen? x) → ∀ ty dc, (Builtin.copy_ #[176, 176] ty #[.slice (some ⟨g, i, none⟩) (n + 1 - i) dc, .slice (some ⟨vb, 0, none⟩) 1 1]).run Tryz.prog W = .ok (goInt [Value.int .i32 x].length) (W.setCells g i [.int .i32 x]) := fun W hWc hWf ty dc =>
  run_copy_cells W _ _ ty 21 g i (n + 1 - i) dc ⟨vb, 0, none⟩ 1 1 [.int .i32 x] Tryz.underlying176 hsz (by simp only [List.length_cons, List.length_nil, Nat.min_def]; split <;> omega)
   (fun j v hj => by
     cases j with
     | zero => rw [Addr.add_lit, hWc]; cases hj; exact hvc1
     | succ j => simp at hj)
   (fun j hj => by rw [hWc]; simp at hj; exact hsp1 _ (by omega)) (fun j hj => by rw [hWf]; exact hfz1 _) (by simp [Value.oneCell'])
 rw [← hW1] at hcp1 hZ hgr
 have HZ := hide hZ
 have hz2' : ¬ ((i : Int) = (n : Int)) := by omega
 have hw1 : IntKind.i64.wrap ((i : Int) + 1) = (i : Int) + 1 := by rw [IntKind.wrap_i64]; omega
 have hb1 : (0 : Int) ≤ (i : Int) + 1 := by omega
 have hin : i ≤ n := by omega
 have htn : ((i : Int) + 1).toNat = i + 1 := by omega
 have hb2 : ¬ (c = i + 1) := by omega
 have hb3 : (i : Int) ≤ (n : Int) + 1 := by omega
 have hb4 : ¬ (c = i) := by omega
 have mixed : Tryz.prog.follows Departure.mixedOrders = true := by kernel_rfl
 clear ho hwide how1 hA gA hZ gZ hcell hcl hfz hvc hvf h1c hdl hcur hsp1 hvc1 hfz1 hv hW1 hn1 hcs
 go_enter Tryz.func125, Tryz.ntmps125
 go_wp2_with (simp only [hov])
 go_region_law_o (refine step_copy_runI rfl _ _ 176 176 rfl _ _ (by simp [Act.eval, Act.put]) (by simp [Act.eval, Act.put]) (hcp1 _ _ _) ?_)
 go_wp2_with (at_builtin; refine wpList_copy_runI _ rfl _ _ 176 176 rfl _ _ rfl rfl (hcp2 _ (fun _ => rfl) (fun _ => rfl) _ _) ?_)
 go_ret
 exact ⟨rfl, HZ.out, hgr⟩
theorem setL_len : ∀ (vs xs : List Value) (o : Nat), (setL xs o vs).length = xs.length := by
 intro vs
 induction vs with
 | nil => intro xs o; rfl
 | cons v vs ih => intro xs o; rw [setL, ih, List.length_set]
theorem put_row2 (l : List Int) (x : Int) (i : Nat) (z : List Value) (hi : i ≤ l.length) (hz : z.length = l.length + 1 - i) : setL (setL ((ruV l).take i ++ z) i [.int .i32 x]) (i + 1) ((ruV l).drop i) = ruV (l.take i ++ x :: l.drop i) := by
 have n1 := ruV_len l
 have hd : ((ruV l).drop i).length = l.length - i := by rw [List.length_drop, n1]
 have ht : ((ruV l).take i ++ z).length = l.length + 1 := by rw [List.length_append, List.length_take, n1, hz]; omega
 apply List.ext_getElem?
 intro k
 rw [setL_get _ _ _ _ (by rw [setL_len, ht, hd]; omega), setL_get _ _ _ _ (by rw [ht]; simp; omega), hd]
 unfold ruV at ht ⊢
 rw [List.map_append, List.map_cons, List.getElem?_append (l₁ := List.map (fun c => Value.int .i32 c) (l.take i)), List.length_map, List.length_take, Nat.min_eq_left hi]
 by_cases c1 : k < i
 · rw [if_neg (by omega), if_neg (by omega), if_pos c1, List.getElem?_append_left (by simp; omega), List.getElem?_take, if_pos c1, List.getElem?_map, List.getElem?_map, List.getElem?_take, if_pos c1]
 · rw [if_neg c1]
   by_cases c2 : k = i
   · subst c2
     rw [if_neg (by omega), if_pos (by simp), Nat.sub_self]; rfl
   · by_cases c3 : k < i + 1 + (l.length - i)
     · rw [if_pos (by omega), show k - i = (k - i - 1) + 1 from by omega, List.getElem?_cons_succ, List.getElem?_drop, List.getElem?_map, List.getElem?_map, List.getElem?_drop, show i + (k - (i + 1)) = i + (k - i - 1) from by omega]
     · rw [if_neg (by omega), if_neg (by simp; omega), List.getElem?_eq_none (by rw [ht]; omega), show k - i = (k - i - 1) + 1 from by omega, List.getElem?_cons_succ, List.getElem?_eq_none (by simp; omega)]
set_option maxRecDepth 100000 in
set_option maxHeartbeats 4000000 in
theorem pinsert_grow (l : List Int) (x : Int) (i B g c vb : Nat) (w : World) (ho : w.ownsRow B 21 1 (.slice (some ⟨g, 0, none⟩) l.length c) l.length (ruV l)) (hl : l.length ≤ 1000) (hi : i < l.length) (hc : c < l.length + 1) (hv : w.heap[vb]? = some (.cells #[.int .i32 x] 21)) (hB : B ≤ w.heap.size) :
 Calls Tryz.prog 125 #[.slice (some ⟨g, 0, none⟩) l.length c, .int .i64 i, .slice (some ⟨vb, 0, none⟩) 1 1] w fun e w' => ∃ c', e = .returned (.slice (some ⟨w.heap.size, 0, none⟩) (l.length + 1) c') ∧ w'.ownsRow B 21 1 (.slice (some ⟨w.heap.size, 0, none⟩) (l.length + 1) c') (l.length + 1) (ruV (l.take i ++ x :: l.drop i)) ∧ w.grownBy w' none := by
 obtain ⟨i0, hi0, hz0, hz1, hz2⟩ := info_parts Tryz.info21
 obtain ⟨cur, hcur, hnc, hcm, hcs, _⟩ := own_heap ho
 unfold maxLen at hcm
 have hn1 := ruV_len l
 have hgl : g < w.heap.size := (ho.lt g rfl).2
 have hvl : vb < w.heap.size := (Array.getElem?_eq_some_iff.1 hv).1
 have hcl : ∀ j v, (ruV l)[j]? = some v → w.cell? ⟨g, j, none⟩ = some v := fun j v hj => by
  have := ho.cells (g := g) rfl j v hj
  rw [Addr.add_lit, Nat.zero_add] at this; exact this
 have hvc : w.cell? ⟨vb, 0, none⟩ = some (.int .i32 x) := by rw [Lib.cell_of_heap hv]; rfl
 have hsz : (Tryz.prog.info? 21).map (·.size) = some 1 := by rw [hi0]; simp [hz1]
 have h1c : ∀ v ∈ ruV l, v.oneCell' = true := fun v hv => by
  obtain ⟨q, _, rfl⟩ := List.mem_map.1 hv; rfl
 have hdl : ((ruV l).drop i).length = l.length - i := by rw [List.length_drop, hn1]
 have hold : (Builtin.firstCells i0.size i (.slice (some ⟨g, 0, none⟩) i c)).run Tryz.prog w.drew = .ok ((ruV l).take i).toArray w.drew := by
  rw [hz1]
  exact run_firstCells_some w.drew 1 i ⟨g, 0, none⟩ i c ((ruV l).take i) (by rw [List.length_take, hn1]; omega) (fun j v hj => by
   rw [Addr.add_lit, Nat.zero_add]
   rw [List.getElem?_take] at hj
   split at hj
   · exact hcl j v hj
   · cases hj)
 obtain ⟨G, hG⟩ : ∃ G, grownCap w (l.length + 1) c 21 = G := ⟨_, rfl⟩
 have hGn : l.length + 1 ≤ G := by rw [← hG]; exact grownCap_ge w _ _ _
 have hG63 : G ≤ maxLen := by rw [← hG]; exact grownCap_le_maxLen w (l.length + 1) c 21 (by unfold maxLen; omega)
 obtain ⟨ROW, hROW⟩ : ∃ ROW : Array Value, ((ruV l).take i).toArray ++ Builtin.zeroCells (Value.int .i32 0).cells (l.length + 1 - i) ++ Builtin.zeroCells (Value.int .i32 0).cells (G - (l.length + 1)) = ROW := ⟨_, rfl⟩
 have hik : i + (l.length + 1 - i) = l.length + 1 := by omega
 have hrz : ∀ ty, (Builtin.append_ #[176, 3] ty #[.slice (some ⟨g, 0, none⟩) i c, .int .i64 ((l.length : Int) + 1 - (i : Int))]).run Tryz.prog w =
  .ok (.slice (some ⟨w.heap.size, 0, none⟩) (l.length + 1) G) (w.drew.alloc (.cells ROW 21)) := fun ty => by
  have h := Lib.run_append_grow_zeros (P := Tryz.prog) w 176 3 ty 21 i0 _ .i64 .i64 Tryz.underlying176 Tryz.underlying3 hi0 hz0 (some ⟨g, 0, none⟩) i c ((ruV l).take i) hold (l.length + 1 - i) (by omega) (by omega) (by omega) (by omega) (by rw [hz2]; omega) (by rw [hz2, hik]; exact growslice_fits hc (by omega))
  rw [hik, hG, hROW] at h
  rw [show (l.length : Int) + 1 - (i : Int) = ((l.length + 1 - i : Nat) : Int) from by omega]
  exact h
 obtain ⟨W1, hW1⟩ : ∃ W1, w.drew.alloc (.cells ROW 21) = W1 := ⟨_, rfl⟩
 obtain ⟨z, hz⟩ : ∃ z : List Value, (Builtin.zeroCells (Value.int .i32 0).cells (l.length + 1 - i)).toList = z := ⟨_, rfl⟩
 have hzl : z.length = l.length + 1 - i := by rw [← hz]; simp [Builtin.zeroCells, Value.cells]
 have hRs : ROW.size = G := by
  rw [← hROW]; simp [Builtin.zeroCells, Value.cells]; omega
 have hRt : ROW.toList.take ((l.length + 1) * 1) = (ruV l).take i ++ z := by
  have e : ROW.toList = ((ruV l).take i ++ z) ++ (Builtin.zeroCells (Value.int .i32 0).cells (G - (l.length + 1))).toList := by
   rw [← hROW, ← hz]; simp
  rw [e, List.take_append_of_le_length (by rw [List.length_append, List.length_take, hn1, hzl]; omega), List.take_of_length_le (by rw [List.length_append, List.length_take, hn1, hzl]; omega)]
 have hWn : W1.heap[w.heap.size]? = some (.cells ROW 21) := by rw [← hW1]; show (w.drew.heap.push _)[w.heap.size]? = _; exact Array.getElem?_push_size
 have hown1 : W1.ownsRow B 21 1 (.slice (some ⟨w.heap.size, 0, none⟩) (l.length + 1) G) (l.length + 1) ((ruV l).take i ++ z) :=
  ⟨by rw [List.length_append, List.length_take, hn1, hzl]; omega, .inr ⟨w.heap.size, G, ROW, rfl, hB, hWn, hGn, hG63, by omega, hRt⟩⟩
 obtain ⟨hA, gA⟩ := own_setCells [.int .i32 x] _ _ i hown1
 obtain ⟨hZ, gZ⟩ := own_setCells ((ruV l).drop i) _ _ (i + 1) hA
 rw [put_row2 l x i z (by omega) hzl] at hZ
 have hgW : w.grownBy W1 none := by rw [← hW1]; exact ⟨rfl, rfl, rfl, by rw [World.size_alloc]; exact Nat.le_succ _, fun k hk _ => Below.heap_alloc w.drew _ k hk⟩
 have hgF : w.grownBy ((W1.setCells w.heap.size i [.int .i32 x]).setCells w.heap.size (i + 1) ((ruV l).drop i)) none :=
  ⟨gZ.os.trans (gA.os.trans hgW.os), gZ.tape.trans (gA.tape.trans hgW.tape), gZ.output.trans (gA.output.trans hgW.output), Nat.le_trans hgW.size (Nat.le_trans gA.size gZ.size), fun k hk hn => by
    have hne : some k ≠ some w.heap.size := fun h => by cases h; omega
    rw [gZ.block k (Nat.lt_of_lt_of_le hk (Nat.le_trans hgW.size gA.size)) hne, gA.block k (Nat.lt_of_lt_of_le hk hgW.size) hne]
    exact hgW.block k hk hn⟩
 have hN : ∀ j, j < l.length + 1 → (W1.cell? ⟨w.heap.size, j, none⟩).isSome = true := fun j hj => by
  rw [Lib.cell_of_heap hWn, Array.getElem?_eq_getElem (by omega)]; rfl
 have hNf : ∀ j, W1.frozen? ⟨w.heap.size, j, none⟩ = false := fun j => hown1.frozenAt j
 have hOb : ∀ j v, w.cell? ⟨g, j, none⟩ = some v → W1.cell? ⟨g, j, none⟩ = some v := fun j v h => (hgW.cell_far ⟨g, j, none⟩ hgl (by simp)).trans h
 have hOv : W1.cell? ⟨vb, 0, none⟩ = some (.int .i32 x) := (hgW.cell_far ⟨vb, 0, none⟩ hvl (by simp)).trans hvc
 have hcpA : ∀ (W : World), (∀ x, W.cell? x = W1.cell? x) → (∀ x, W.frozen? x = W1.frozen? x) → ∀ ty dc, (Builtin.copy_ #[176, 176] ty #[.slice (some ⟨w.heap.size, i, none⟩) (l.length + 1 - i) dc, .slice (some ⟨vb, 0, none⟩) 1 1]).run Tryz.prog W = .ok (goInt [Value.int .i32 x].length) (W.setCells w.heap.size i [.int .i32 x]) := fun W hWc hWf ty dc =>
  run_copy_cells W _ _ ty 21 w.heap.size i (l.length + 1 - i) dc ⟨vb, 0, none⟩ 1 1 [.int .i32 x] Tryz.underlying176 hsz (by simp only [List.length_cons, List.length_nil, Nat.min_def]; split <;> omega)
   (fun j v hj => by
     cases j with
     | zero => rw [Addr.add_lit, hWc]; cases hj; exact hOv
     | succ j => simp at hj)
   (fun j hj => by rw [hWc]; simp at hj; exact hN _ (by omega)) (fun j hj => by rw [hWf]; exact hNf _) (by simp [Value.oneCell'])
 obtain ⟨W2, hW2⟩ : ∃ W2, W1.setCells w.heap.size i [.int .i32 x] = W2 := ⟨_, rfl⟩
 rw [hW2] at hA gA hZ gZ hgF
 have hN2 : ∀ j, j < l.length + 1 → (W2.cell? ⟨w.heap.size, j, none⟩).isSome = true := fun j hj => by
  obtain ⟨cur2, hcur2, _, _, hcs2, _⟩ := own_heap hA
  rw [Lib.cell_of_heap hcur2, Array.getElem?_eq_getElem (by omega)]; rfl
 have hcpB : ∀ (W : World), (∀ x, W.cell? x = W2.cell? x) → (∀ x, W.frozen? x = W2.frozen? x) → ∀ ty dc sc, (Builtin.copy_ #[176, 176] ty #[.slice (some ⟨w.heap.size, i + 1, none⟩) (l.length - i) dc, .slice (some ⟨g, i, none⟩) (l.length - i) sc]).run Tryz.prog W = .ok (goInt ((ruV l).drop i).length) (W.setCells w.heap.size (i + 1) ((ruV l).drop i)) := fun W hWc hWf ty dc sc =>
  run_copy_cells W _ _ ty 21 w.heap.size (i + 1) (l.length - i) dc ⟨g, i, none⟩ (l.length - i) sc ((ruV l).drop i) Tryz.underlying176 hsz (by rw [hdl]; simp only [Nat.min_def]; split <;> omega)
   (fun j v hj => by
     rw [Addr.add_lit, hWc]
     exact gA.cell (a := ⟨g, i + j, none⟩) (hOb _ v (hcl (i + j) v (by rwa [List.getElem?_drop] at hj))) (fun h => by have := Option.some.inj h; simp only at this; omega))
   (fun j hj => by rw [hWc]; exact hN2 _ (by omega)) (fun j hj => by rw [hWf]; exact hA.frozenAt _) (fun v hv => h1c v (List.mem_of_mem_drop hv))
 have HZ := hide hZ
 have HGF := hide hgF
 have HW1 := hide hW1
 have HW2 := hide hW2
 obtain ⟨n, hn⟩ : ∃ n, l.length = n := ⟨_, rfl⟩
 rw [hn] at hl hi hc hnc hcpA hcpB hrz hGn HZ ⊢
 have hz2' : ¬ ((i : Int) = (n : Int)) := by omega
 have hz3 : (c : Int) < (n : Int) + 1 := by omega
 have hw1 : IntKind.i64.wrap ((i : Int) + 1) = (i : Int) + 1 := by rw [IntKind.wrap_i64]; omega
 have hb1 : (0 : Int) ≤ (i : Int) + 1 := by omega
 have hin : i ≤ n := by omega
 have htn : ((i : Int) + 1).toNat = i + 1 := by omega
 have hb3 : (i : Int) ≤ (n : Int) := by omega
 have hGi : ¬ (G = i) := by omega
 have hGim : ¬ (G = i + 1) := by omega
 have hci : ¬ (c = i) := by omega
 have mixed : Tryz.prog.follows Departure.mixedOrders = true := by kernel_rfl
 have hG64 : G ≤ 9223372036854775807 := by unfold maxLen at hG63; omega
 rw [hW1] at hrz
 clear ho hA gA hZ gZ hgF hcl hvc h1c hdl hcur hold hG hROW hik hz hzl hRs hRt hWn hown1 hgW hN hNf hOb hOv hN2 hn hv hn1 hcs hW1 hW2 hG63
 go_enter Tryz.func125, Tryz.ntmps125
 go_wp2_with (first | (at_builtin; refine Lib.wpList_append_run _ rfl _ _ _ _ rfl _ _ rfl rfl _ _ (hrz _) ?_) | (at_builtin; refine wpList_copy_runI _ rfl _ _ 176 176 rfl _ _ rfl rfl (hcpA _ (fun _ => rfl) (fun _ => rfl) _ _) ?_))
 have hcpB2 : (Builtin.copy_ #[176, 176] 3 #[.slice (some ⟨w.heap.size, i + 1, none⟩) (n - i) (G - (i + 1)), .slice (some ⟨g, i, none⟩) (n - i) (c - i)]).run Tryz.prog (W1.setCells w.heap.size i [.int .i32 x]).drew = .ok (goInt ((ruV l).drop i).length) ((W1.setCells w.heap.size i [.int .i32 x]).drew.setCells w.heap.size (i + 1) ((ruV l).drop i)) := hcpB _ (fun _ => by rw [← HW2.out]; rfl) (fun _ => by rw [← HW2.out]; rfl) _ _ _
 go_region_law_o (refine step_copy_runI rfl _ _ 176 176 rfl (.slice (some ⟨w.heap.size, i + 1, none⟩) (n - i) (G - (i + 1))) (.slice (some ⟨g, i, none⟩) (n - i) (c - i)) (by simp [Act.eval, Act.put]) (by simp [Act.eval, Act.put]) hcpB2 ?_)
 go_wp2
 go_ret
 refine ⟨G, rfl, ?_, ?_⟩
 · have := HZ.out; rw [← HW2.out] at this; rw [← drew_setCells]; exact this
 · have := HGF.out; rw [← HW2.out] at this; rw [← drew_setCells]; exact ⟨this.os, this.tape, this.output, this.size, this.block⟩
theorem pinsert_any (l : List Int) (x : Int) (i B g c vb : Nat) (w : World) (ho : w.ownsRow B 21 1 (.slice (some ⟨g, 0, none⟩) l.length c) l.length (ruV l)) (hl : l.length ≤ 1000) (hi : i ≤ l.length) (hv : w.heap[vb]? = some (.cells #[.int .i32 x] 21)) (hne : vb ≠ g) (hB : B ≤ w.heap.size) :
 Calls Tryz.prog 125 #[.slice (some ⟨g, 0, none⟩) l.length c, .int .i64 i, .slice (some ⟨vb, 0, none⟩) 1 1] w fun e w' => ∃ g' c', e = .returned (.slice (some ⟨g', 0, none⟩) (l.length + 1) c') ∧ w'.ownsRow B 21 1 (.slice (some ⟨g', 0, none⟩) (l.length + 1) c') (l.length + 1) (ruV (l.take i ++ x :: l.drop i)) ∧ w.grownBy w' (some g) ∧ (g' = g ∨ g' = w.heap.size) := by
 by_cases h1 : i = l.length
 · subst h1
   have := pinsert_end l x B g c vb w ho hl hB (by rw [Lib.cell_of_heap hv]; rfl)
   rw [List.take_length, List.drop_length]
   exact this
 · by_cases h2 : l.length + 1 ≤ c
   · refine (pinsert_shift l x i B g c vb w ho hl (by omega) h2 hv hne).mono ?_
     rintro e w' ⟨rfl, h3, h4⟩
     exact ⟨g, c, rfl, h3, h4, .inl rfl⟩
   · refine (pinsert_grow l x i B g c vb w ho hl (by omega) (by omega) hv hB).mono ?_
     rintro e w' ⟨c', rfl, h3, h4⟩
     exact ⟨w.heap.size, c', rfl, h3, ⟨h4.os, h4.tape, h4.output, h4.size, fun k hk _ => h4.block k hk (by simp)⟩, .inr rfl⟩
end Go.Proofs.YtgohllfpceeboaaGreatDoor
namespace Sx
def plainPart (s : List UInt8) : List Int := (s.take (dash s).toNat).map fun c => (c.toNat : Int)
def numPart (s : List UInt8) : List UInt8 := s.drop (dash s + 1).toNat
def letOf (s : List UInt8) : List UInt8 := if codeOk s then text ((dec s).getD []) else []
theorem dec_parts (s : List UInt8) : dec s = if numPart s = [] then none else decL (plainPart s) 72 128 0 true (numPart s) := by
 have h := dashTo_bd s s.length
 unfold dec numPart plainPart
 by_cases c : (s.length : Int) ≤ dash s + 1
 · rw [if_pos c, if_pos (List.drop_eq_nil_of_le (by unfold dash at *; omega))]
 · rw [if_neg c, if_neg]
   intro e
   have := congrArg List.length e
   rw [List.length_drop] at this
   simp at this
   unfold dash at *
   omega
end Sx
namespace Go.Proofs.YtgohllfpceeboaaGreatDoor
open Go.RowKit
attribute [local go_sem ↓] Go.wp_at_zero Go.wp_at_succ
theorem behind_passed (n i L d : Int) : (n + (i + d) / (L + 1) - n) * (L + 1) + (i + d) % (L + 1) - i = d := by
 have := Int.emod_add_mul_ediv (i + d) (L + 1)
 have h2 : (n + (i + d) / (L + 1) - n) = (i + d) / (L + 1) := by omega
 rw [h2, Int.mul_comm]
 omega
theorem most_bound (n i L d : Int) (hL : 0 ≤ L) (hi : 0 ≤ i) (h : (1114112 - n) * (L + 1) < d) : 1114111 < n + (i + d) / (L + 1) := by
 have : 1114112 - n ≤ (i + d) / (L + 1) := (Int.le_ediv_iff_mul_le (by omega)).2 (by omega)
 omega
theorem most_le (n L : Int) (h0 : 128 ≤ n) (h1 : n ≤ 1114111) (hL : 0 ≤ L) (hL2 : L ≤ 100) : 0 ≤ (1114112 - n) * (L + 1) ∧ (1114112 - n) * (L + 1) ≤ 112512384 := by
 have a : (1114112 - n) * (L + 1) ≤ 1113984 * (L + 1) := Int.mul_le_mul_of_nonneg_right (by omega) (by omega)
 exact ⟨Int.mul_nonneg (by omega) (by omega), by omega⟩
theorem point_le (n i L d : Int) (hL : 0 ≤ L) (hi : 0 ≤ i) (hi2 : i ≤ L + 1) (hd : 0 ≤ d) (h : d ≤ (1114112 - n) * (L + 1)) : n ≤ n + (i + d) / (L + 1) ∧ n + (i + d) / (L + 1) ≤ 1114113 := by
 have a : 0 ≤ (i + d) / (L + 1) := Int.ediv_nonneg (by omega) (by omega)
 have b : (i + d) / (L + 1) ≤ 1114112 - n + 1 := by
  have : (i + d) / (L + 1) < 1114112 - n + 2 := Int.ediv_lt_of_lt_mul (by omega) (by
   have : (1114112 - n + 2) * (L + 1) = (1114112 - n) * (L + 1) + 2 * (L + 1) := by rw [Int.add_mul]
   omega)
  omega
 omega
theorem own_ruat {w : World} {B g n c : Nat} {l : List Int} (h : w.ownsRow B 21 1 (.slice (some ⟨g, 0, none⟩) n c) n (ruV l)) (hz : n = l.length) : (convert 176 9 (.slice (some ⟨g, 0, none⟩) n c)).run Tryz.prog w = .ok (.string (runesBytes l)) w := by
 have := run_convert_runes (P := Tryz.prog) w 176 9 21 ⟨g, 0, none⟩ n c l (by omega) Tryz.underlying176 Tryz.underlying21 Tryz.underlying9 (fun j hj => by
  have := h.cells (g := g) rfl j (.int .i32 (l.getD j 0)) (by unfold ruV; rw [List.getElem?_map, List.getElem?_eq_getElem hj]; simp [List.getElem?_eq_getElem hj])
  exact this)
 rw [hz, List.take_length] at this
 rw [hz]; exact this
theorem ba_ext (s : ByteArray) (a b : Nat) : (s.extract a b).data.toList = (s.data.toList.take b).drop a := by
 rw [ByteArray.data_extract, Array.toList_extract]
 simp [List.extract_eq_take_drop, List.drop_take]
theorem ascii_text : ∀ (l : List UInt8), (∀ b ∈ l, b.toNat < 128) → Sx.text (l.map fun c => (c.toNat : Int)) = l := by
 intro l
 induction l with
 | nil => intro _; rfl
 | cons x l ih =>
   intro h
   have hx := h x (List.mem_cons_self ..)
   have e : Sx.utf (x.toNat : Int) = [x] := by
    unfold Sx.utf
    rw [if_pos (by omega)]
    congr 1
    simp
   have := ih (fun y hy => h y (List.mem_cons_of_mem _ hy))
   unfold Sx.text at this ⊢
   rw [List.map_cons, List.flatMap_cons, this, e]; rfl
theorem ascii_good (l : List UInt8) (h : ∀ b ∈ l, b.toNat < 128) : ∀ c ∈ l.map (fun c => (c.toNat : Int)), Sx.Good c ∧ c < 128 := by
 intro c hc
 obtain ⟨x, hx, rfl⟩ := List.mem_map.1 hc
 have := h x hx
 unfold Sx.Good
 omega
theorem ascii_letters (l : List UInt8) (h : ∀ b ∈ l, b.toNat < 128) : Sx.letters l = some (l.map fun c => (c.toNat : Int)) := by
 have := Sx.letters_text (l.map fun c => (c.toNat : Int)) (fun c hc => (ascii_good l h c hc).1)
 rw [ascii_text l h] at this
 exact this
structure LetAt (s : List UInt8) (l : List Int) (q : List UInt8) (n i bias dm : Int) (first : Bool) : Prop where
 good : ∀ c ∈ l, Sx.Good c
 len : l.length + q.length ≤ 16
 dec : Sx.decL l bias n (i + 1) first q = Sx.decL (Sx.plainPart s) 72 128 0 true (Sx.numPart s)
 dm : dm = if first then 700 else 2
 n0 : 128 ≤ n
 n1 : n ≤ 1114111
 i0 : -1 ≤ i
 i1 : i ≤ l.length
 b0 : 0 ≤ bias
 b1 : bias ≤ 180
 some : (first = true ∧ l = Sx.plainPart s ∧ q = Sx.numPart s) ∨ (first = false ∧ l.any (fun c => decide (128 ≤ c)) = true ∧ Sx.numPart s ≠ [])
theorem pmost_below (b : Nat) (n i L bias dm : Int) (w : World) (hR : RowAt w b n i L bias dm) (h0 : 128 ≤ n) (h1 : n ≤ 1114111) (h2 : 0 ≤ L) (h3 : L ≤ 1000) :
 Calls Tryz.prog 122 #[.pointer (some ⟨b, 0, none⟩)] w fun e w' => e = .returned (.int .i64 ((1114112 - n) * (L + 1))) ∧ Below w.heap.size w w' ∧ w'.heap.size = w.heap.size := by
 refine (pmost_any b n i L bias dm w hR h0 h1 h2 h3).mono ?_
 rintro e w' ⟨rfl, q, rfl⟩
 exact ⟨rfl, Go.below_drewN (Below.refl _ w) q, rfl⟩
theorem num_rest (bias : Int) : ∀ (s : List UInt8) (d w : Int) (k : Nat) (d' : Int) (s' : List UInt8), Sx.numF bias d w k s = some (d', s') → s' = s.drop (s.length - s'.length) := by
 intro s
 induction s with
 | nil => intro d w k d' s' h; simp [Sx.numF] at h
 | cons x s ih =>
   intro d w k d' s' h
   have hl := Sx.numF_len _ _ _ _ _ _ _ h
   simp only [List.length_cons] at hl ⊢
   rw [show s.length + 1 - s'.length = (s.length - s'.length) + 1 from by omega, List.drop_succ_cons]
   simp only [Sx.numF] at h
   split at h
   · simp at h
   · split at h
     · simp at h
     · split at h
       · simp only [Option.some.injEq, Prod.mk.injEq] at h
         rw [← h.2, Nat.sub_self]; rfl
       · exact ih _ _ _ _ _ h
theorem wrap_i32 (m : Int) (h0 : 0 ≤ m) (h1 : m ≤ 2000000) : IntKind.i32.wrap m = m := by
 have e : IntKind.i32.wrap m = if (m % 4294967296) ≥ 2147483648 then m % 4294967296 - 4294967296 else m % 4294967296 := by
  simp [IntKind.wrap, IntKind.signed, IntKind.bits]
 rw [e, if_neg (by omega)]
 omega
theorem ways_count (l : List Int) : (waysTo l l.length).length = (l.filter fun c => decide (128 ≤ c)).length := by
 rw [waysTo_all, List.length_map, ← (Sx.ord_perm l).length_eq, Sx.ord_len]
theorem ways_some (l : List Int) (h : (l.any fun c => decide (128 ≤ c)) = true) : 0 < (waysTo l l.length).length := by
 rw [ways_count]
 obtain ⟨c, hc, h2⟩ := List.any_eq_true.1 h
 exact List.length_pos_of_mem (List.mem_filter.2 ⟨hc, h2⟩)
theorem ways_few (l : List Int) : (waysTo l l.length).length ≤ l.length := waysTo_le l l.length
def strLen : Value → Nat
 | .string b => b.size
 | _ => 0
theorem no_code (s : List UInt8) (h : Sx.decL (Sx.plainPart s) 72 128 0 true (Sx.numPart s) = none) : Sx.codeOk s = false ∧ Sx.letOf s = [] := by
 have e : Sx.dec s = none := by rw [Sx.dec_parts]; split
                                · rfl
                                · exact h
 have e2 : Sx.codeOk s = false := by unfold Sx.codeOk; rw [e]
 exact ⟨e2, by unfold Sx.letOf; rw [e2]; rfl⟩
set_option maxRecDepth 100000 in
set_option maxHeartbeats 4000000 in
theorem plet_any (s : ByteArray) (w : World) (hs : s.size ≤ 16) (hp : ∀ b ∈ s.data.toList, b.toNat < 128) :
 Calls Tryz.prog 74 #[.string s] w fun e w' => e = .returned (.tuple #[.string ⟨(Sx.letOf s.data.toList).toArray⟩, .bool (Sx.codeOk s.data.toList)]) ∧ Below w.heap.size w w' := by
 have HP := hide hp
 clear hp
 have hln : s.data.toList.length = s.size := ba_len s
 have hdb := Sx.dashTo_bd s.data.toList s.data.toList.length
 obtain ⟨P, hP⟩ : ∃ P, s.extract 0 (Sx.dash s.data.toList).toNat = P := ⟨_, rfl⟩
 obtain ⟨N, hN⟩ : ∃ N, s.extract (Sx.dash s.data.toList + 1).toNat s.size = N := ⟨_, rfl⟩
 have hPl : P.data.toList = s.data.toList.take (Sx.dash s.data.toList).toNat := by rw [← hP, ba_ext, List.drop_zero]
 have hNl : N.data.toList = Sx.numPart s.data.toList := by
  rw [← hN, ba_ext]; unfold Sx.numPart
  rw [← hln, List.take_length]
 have hasc : ∀ b ∈ P.data.toList, b.toNat < 128 := fun b hb => HP.out b (by rw [hPl] at hb; exact List.mem_of_mem_take hb)
 have hlet := ascii_letters _ hasc
 have hgood := ascii_good _ hasc
 have hpp : Sx.plainPart s.data.toList = P.data.toList.map fun c => (c.toNat : Int) := by rw [hPl]; rfl
 rw [← hpp] at hlet hgood
 have hps : (Sx.plainPart s.data.toList).length + N.size ≤ 16 := by
  rw [hpp, List.length_map, hPl, List.length_take, ← ba_len N, hNl]
  unfold Sx.numPart
  rw [List.length_drop]
  unfold Sx.dash at *
  omega
 have hpz : P.size ≤ 16 := by rw [← ba_len P, hPl, List.length_take]; omega
 have HSP := hide (psplit_any s w (by omega))
 have HC : Hid (Calls Tryz.prog 119 #[.string s] w fun e w' => e = .returned (.tuple #[.string P, .string N]) ∧ ∃ q, w' = w.drewN q) := hide (by have := HSP.out; rw [hP, hN] at this; exact this)
 have HLET := hide hlet
 have HGOOD := hide hgood
 have HNL := hide hNl
 clear HSP hP hN hPl hNl hasc hlet hgood hpp hdb hln
 go_enter Tryz.func74, Tryz.ntmps74
 go_wp2_with fail
 refine HC.out.mono ?_
 rintro e w1 ⟨rfl, q0, hw1⟩
 have hBw1 : Below w.heap.size w w1 := by rw [hw1]; exact Go.below_drewN (Below.refl _ w) _
 clear hw1 HC
 obtain ⟨l0, hl0⟩ : ∃ l0, Sx.plainPart s.data.toList = l0 := ⟨_, rfl⟩
 rw [hl0] at HLET HGOOD hps
 have hrunes := runes_of P P.size 0 l0 #[] (by rw [List.drop_zero]; exact HLET.out) (by omega) (by omega)
 rw [Array.empty_append] at hrunes
 have hcv := run_runes_of_string (P := Tryz.prog) w1 9 176 21 P Tryz.underlying9 Tryz.underlying176 Tryz.underlying21 (by rw [hrunes]; simp; omega)
 rw [hrunes] at hcv
 have hrs : (l0.map fun c => Value.int .i32 c).toArray.size = l0.length := by simp
 rw [hrs] at hcv
 have hcg := grownCap_ge w1 l0.length 0 21
 have hcm := grownCap_le_maxLen w1 l0.length 0 21 (by unfold maxLen; omega)
 obtain ⟨cap, hcap⟩ : ∃ cap, grownCap w1 l0.length 0 21 = cap := ⟨_, rfl⟩
 rw [hcap] at hcv hcg hcm
 obtain ⟨cs, hcs⟩ : ∃ cs, (l0.map fun c => Value.int .i32 c).toArray ++ Array.replicate (cap - l0.length) (.int .i32 0) = cs := ⟨_, rfl⟩
 rw [hcs] at hcv
 have hown : (w1.drew.alloc (.cells cs 21)).ownsRow w.heap.size 21 1 (.slice (some ⟨w1.heap.size, 0, none⟩) l0.length cap) l0.length (ruV l0) := by
  refine ⟨by rw [ruV_len]; omega, .inr ⟨w1.heap.size, cap, cs, rfl, hBw1.size, ?_, hcg, hcm, ?_, ?_⟩⟩
  · show (w1.drew.heap.push _)[w1.heap.size]? = _; exact Array.getElem?_push_size
  · rw [← hcs]; simp; omega
  · rw [← hcs, Nat.mul_one, Array.toList_append, List.take_append_of_le_length (by simp), List.take_of_length_le (by simp)]; rfl
 have hB2 : Below w.heap.size w (w1.drew.alloc (.cells cs 21)) := (hBw1.drew).alloc hBw1.size _
 have hsz2 : (w1.drew.alloc (.cells cs 21)).heap.size = w1.heap.size + 1 := World.size_alloc _ _
 obtain ⟨W2, hW2⟩ : ∃ W2, w1.drew.alloc (.cells cs 21) = W2 := ⟨_, rfl⟩
 rw [hW2] at hcv hown hB2 hsz2
 have HOWN := hide hown
 have HB2 := hide hB2
 have HSZ2 := hide hsz2
 have HL0 := hide hl0
 clear hrs hrunes hcs hW2 hcap hown hB2 hsz2 hl0
 go_wp2_with (go_at_call 120; go_must (refine (prow_any _ _).mono ?_; rintro e w3 ⟨rfl, hBr⟩))
 have hw3 := hBr.size
 have hR4 := row_new w3 180 128 (-1) l0.length 72 700
 have hB4 : Below w.heap.size w (w3.alloc (.cells #[.int .i64 128, .int .i64 (-1), .int .i64 l0.length, .int .i64 72, .int .i64 700] 180)) := (HB2.out.trans (hBr.mono HB2.out.size)).alloc (Nat.le_trans HB2.out.size hw3) _
 have how4 := (own_below HOWN.out hBr (Nat.le_refl _)).alloc (.cells #[.int .i64 128, .int .i64 (-1), .int .i64 l0.length, .int .i64 72, .int .i64 700] 180)
 have hnb : w1.heap.size ≠ w3.heap.size := by have := HSZ2.out; omega
 obtain ⟨rb, hrb⟩ : ∃ rb, w3.heap.size = rb := ⟨_, rfl⟩
 obtain ⟨g0, hg0⟩ : ∃ g0, w1.heap.size = g0 := ⟨_, rfl⟩
 obtain ⟨W4, hW4⟩ : ∃ W4, (w3.alloc (.cells #[.int .i64 128, .int .i64 (-1), .int .i64 l0.length, .int .i64 72, .int .i64 700] 180)) = W4 := ⟨_, rfl⟩
 have hrw : w.heap.size ≤ rb := by rw [← hrb]; exact Nat.le_trans HB2.out.size hw3
 rw [hW4] at hR4 hB4 how4 ⊢
 rw [hrb] at hR4 hnb ⊢
 rw [hg0] at how4 hnb ⊢
 have HR4 := hide hR4
 have HOW4 := hide how4
 have HB4 := hide hB4
 clear hR4 how4 hB4 hW4 hrb hg0 hBr HOWN HB2 HSZ2 hw3 hcv hBw1
 have hlet0 : LetAt s.data.toList l0 N.data.toList 128 (-1) 72 700 true := by
  refine ⟨fun c hc => (HGOOD.out c hc).1, by rw [ba_len]; exact hps, by rw [HNL.out, ← HL0.out]; rfl, rfl, by omega, by omega, by omega, by omega, by omega, by omega, .inl ⟨rfl, HL0.out.symm, HNL.out⟩⟩
 have HLET0 := hide hlet0
 clear hlet0
 go_loopw [5, 6] (fun qv lv wr => ∃ (l : List Int) (Q : ByteArray) (g c z : Nat) (n i bias dm : Int) (first : Bool), qv = .string Q ∧ lv = .slice (some ⟨g, 0, none⟩) z c ∧ l.length = z ∧ LetAt s.data.toList l Q.data.toList n i bias dm first ∧ RowAt wr rb n i z bias dm ∧ wr.ownsRow w.heap.size 21 1 (.slice (some ⟨g, 0, none⟩) z c) z (ruV l) ∧ g ≠ rb ∧ Below w.heap.size w wr) (fun qv _ _ => strLen qv)
 case atStart => exact ⟨l0, N, g0, cap, l0.length, 128, -1, 72, 700, true, rfl, rfl, rfl, HLET0.out, HR4.out, HOW4.out, hnb, HB4.out⟩
 case round =>
  obtain ⟨l, Q, g, c, z, n, i, bias, dm, first, rfl, rfl, hlz, hLA, hR, hown, hgr, hB⟩ := hrel
  have HLA := hide hLA
  have HR := hide hR
  have HOWN := hide hown
  have HB := hide hB
  have HLZ := hide hlz
  obtain ⟨_, hlen, _, hdm, hn0, hn1, hi0, hi1, hb0, hb1, _⟩ := hLA
  rw [hlz] at hlen hi1
  rw [ba_len] at hlen
  have HDM := hide hdm
  have hc3 := hR.c3
  have hrbl := hR.lt
  have hgl := hown.lt g rfl
  clear hlz hown hB hR hdm HLET0 HR4 HOW4 HB4
  by_cases hQ : 0 < Q.size
  · have hml := most_le n z hn0 hn1 (by omega) (by omega)
    obtain ⟨mo, hmo⟩ : ∃ mo, (1114112 - n) * ((z : Int) + 1) = mo := ⟨_, rfl⟩
    rw [hmo] at hml
    have hrd := Sx.rd_zero bias mo (by omega) hml.1 (by omega) Q.data.toList
    obtain ⟨nf, hnf⟩ : ∃ nf, Sx.numF bias 0 1 0 Q.data.toList = nf := ⟨_, rfl⟩
    rw [hnf] at hrd
    have HMO := hide hmo
    have HNF := hide hnf
    clear hmo hnf
    obtain ⟨D0, hD0⟩ : ∃ D0, (Sx.rdF bias mo 0 1 0 Q.data.toList).1 = D0 := ⟨_, rfl⟩
    obtain ⟨Z0, hZ0⟩ : ∃ Z0, (Sx.rdF bias mo 0 1 0 Q.data.toList).2 = Z0 := ⟨_, rfl⟩
    have HRD : Hid ((D0, Z0) = Sx.rdOf mo 0 Q.data.toList.length nf) := hide (by rw [← hrd, ← hD0, ← hZ0])
    have HD0 := hide hD0
    have HZ0 := hide hZ0
    clear hrd hD0 hZ0
    have hqe : Q.toList.isEmpty = false := by
     rw [ByteArray.toList_eq]
     cases h : Q.data.toList with
     | nil => rw [← ba_len, h] at hQ; exact absurd hQ (by decide)
     | cons => rfl
    have HQE := hide hqe
    go_wp2
    go_region_held3 (fun w' => w'.cell? ⟨rb, 3, none⟩ = some (.int .i64 bias)) (first | exact hc5 | exact hc3 | go_keep) (first | (go_at_call 122; refine (pmost_below rb n i z bias dm _ HR.out.drew hn0 hn1 (by omega) (by omega)).mono ?_; rintro e w5 ⟨rfl, hB5, hsz5⟩; rw [HMO.out]; have hc5 := (hB5.cell (p := ⟨rb, 3, none⟩) hrbl).trans hc3) | (go_at_call 121; refine (pread_any Q bias mo _ (by omega) hb0 (by omega) hml.1 (by omega)).mono ?_; rintro e w6 ⟨rfl, rfl⟩; rw [HD0.out, HZ0.out]))
    clear hqe
    have hB5 : Below wr.heap.size wr w6 := (Below.refl _ wr).drew.trans hB5
    have hsz5 : w6.heap.size = wr.heap.size := hsz5
    have hR5 : RowAt w6 rb n i z bias dm := HR.out.below hB5 hrbl
    have hO5 := own_below HOWN.out hB5 (Nat.le_refl _)
    have hB5' := HB.out.trans (hB5.mono HB.out.size)
    have HR5 := hide hR5
    have HO5 := hide hO5
    have HB5 := hide hB5'
    have hrbl5 := hR5.lt
    clear hB5 hR5 hO5 hB5' HR HOWN HB hc5
    have hqne : Q.data.toList ≠ [] := by intro h; rw [← ba_len, h] at hQ; exact absurd hQ (by decide)
    have HQN := hide hqne
    clear hqne
    by_cases hok : ∃ d s', nf = some (d, s') ∧ d ≤ mo
    · obtain ⟨d, s', hnf, hdm⟩ := hok
      have hsl := Sx.numF_len _ _ _ _ _ _ _ (by rw [HNF.out, hnf] : Sx.numF bias 0 1 0 Q.data.toList = some (d, s'))
      have hmono := Sx.numF_mono _ _ _ _ _ _ _ (by omega) (by rw [HNF.out, hnf] : Sx.numF bias 0 1 0 Q.data.toList = some (d, s'))
      have hres := num_rest _ _ _ _ _ _ _ (by rw [HNF.out, hnf] : Sx.numF bias 0 1 0 Q.data.toList = some (d, s'))
      have hDZ : D0 = d ∧ Z0 = ((Q.size - s'.length : Nat) : Int) := by
       have h := HRD.out
       rw [hnf] at h
       unfold Sx.rdOf at h
       simp only at h
       rw [if_pos hdm, ba_len] at h
       rw [ba_len] at hsl
       exact ⟨congrArg Prod.fst h, by have := congrArg Prod.snd h; simp only at this; omega⟩
      obtain ⟨hD, hZ⟩ := hDZ
      clear HRD HD0 HZ0
      subst D0
      rw [ba_len] at hsl hres
      obtain ⟨Zn, hZn⟩ : ∃ Zn, Q.size - s'.length = Zn := ⟨_, rfl⟩
      rw [hZn] at hZ hres
      subst Z0
      have hz1 : 1 ≤ Zn := by omega
      have hz2 : Zn ≤ Q.size := by omega
      have hbp := behind_passed n (i + 1) z d
      have hpl := point_le n (i + 1) z d (by omega) (by omega) (by omega) hmono (by rw [HMO.out]; exact hdm)
      have hj0 : 0 ≤ (i + 1 + d) % ((z : Int) + 1) := Int.emod_nonneg _ (by omega)
      have hj1 : (i + 1 + d) % ((z : Int) + 1) < (z : Int) + 1 := Int.emod_lt_of_pos _ (by omega)
      obtain ⟨m, hm⟩ : ∃ m, n + (i + 1 + d) / ((z : Int) + 1) = m := ⟨_, rfl⟩
      obtain ⟨j, hj⟩ : ∃ j : Nat, (i + 1 + d) % ((z : Int) + 1) = (j : Int) := ⟨((i + 1 + d) % ((z : Int) + 1)).toNat, by omega⟩
      rw [hm, hj] at hbp
      rw [hm] at hpl
      rw [hj] at hj0 hj1
      have HM := hide hm
      have HJ := hide hj
      have HBP := hide hbp
      have HRES := hide hres
      have HZN := hide hZn
      have HNF2 : Hid (Sx.numF bias 0 1 0 Q.data.toList = some (d, s')) := hide (by rw [HNF.out, hnf])
      clear hm hj hbp hres hZn hnf HNF
      obtain ⟨hpl1, hpl2⟩ := hpl
      have hwm := wrap_i32 m (by omega) (by omega)
      go_wp2_with (go_at_call 123; go_must (refine (pbehind_any rb n i z bias dm d _ HR5.out hn0 hn1 (by omega) (by omega) hi0 (by omega) hmono (by omega)).mono ?_; rintro e w7 ⟨rfl, hB7⟩; rw [HM.out, HJ.out]))
      have t1 : (w7.alloc (.cells #[.int .i64 m, .int .i64 j] 178)).cell? ⟨w7.heap.size, 0, none⟩ = some (.int .i64 m) := by rw [World.cell?_alloc_mark]; rfl
      have t2 : (w7.alloc (.cells #[.int .i64 m, .int .i64 j] 178)).cell? ⟨w7.heap.size, 1, none⟩ = some (.int .i64 j) := by rw [World.cell?_alloc_mark]; rfl
      have hB8 : Below w6.heap.size w6 (w7.alloc (.cells #[.int .i64 m, .int .i64 j] 178)) := hB7.alloc hB7.size _
      have hs8 : (w7.alloc (.cells #[.int .i64 m, .int .i64 j] 178)).heap.size = w7.heap.size + 1 := World.size_alloc _ _
      have hg6 : g < w6.heap.size := (HO5.out.lt g rfl).2
      have hw7 := hB7.size
      obtain ⟨tb, htb⟩ : ∃ tb, w7.heap.size = tb := ⟨_, rfl⟩
      obtain ⟨W8, hW8⟩ : ∃ W8, w7.alloc (.cells #[.int .i64 m, .int .i64 j] 178) = W8 := ⟨_, rfl⟩
      rw [hW8] at t1 t2 hB8 hs8 ⊢
      rw [htb] at t1 t2 hs8 hw7 ⊢
      have HR8 := hide (HR5.out.below hB8 hrbl5)
      have HO8 := hide (own_below HO5.out hB8 (Nat.le_refl _))
      have HB8 := hide (HB5.out.trans (hB8.mono HB5.out.size))
      have HS8 := hide hs8
      have htl : tb < W8.heap.size := by omega
      clear hB8 hs8 htb hW8 hB7
      refine (pvr_any m W8).mono ?_
      rintro e w' ⟨rfl, rfl⟩
      obtain ⟨rk, hrk⟩ : ∃ rk, runeOk m = rk := ⟨_, rfl⟩
      rw [hrk]
      have HRK := hide hrk
      clear hrk
      cases rk with
      | false =>
        have hdn : Sx.decL l bias n (i + 1) first Q.data.toList = none := by
         refine Sx.decL_bad _ _ _ _ _ _ d s' HNF2.out ?_
         rw [HLZ.out, HM.out]
         have := HRK.out
         unfold runeOk at this
         simp at this
         omega
        have hnc := no_code s.data.toList (by rw [← HLA.out.dec]; exact hdn)
        have HNC := hide hnc
        clear hnc hdn
        go_wp2
        go_ret2
        exact ⟨by rw [HNC.out.1, HNC.out.2]; rfl, HB8.out⟩
      | true =>
        have hmg : Sx.Good m := by
         have := HRK.out
         unfold runeOk at this
         simp at this
         unfold Sx.Good
         omega
        have hm1 : m ≤ 1114111 := hmg.2.1
        have HMG := hide hmg
        clear hmg
        have hv9 : (w'.alloc (.cells #[.int .i32 m] 21)).heap[w'.heap.size]? = some (.cells #[.int .i32 m] 21) := by show (w'.heap.push _)[w'.heap.size]? = _; exact Array.getElem?_push_size
        have hO9 := HO8.out.alloc (.cells #[.int .i32 m] 21)
        have hB9 : Below w'.heap.size w' (w'.alloc (.cells #[.int .i32 m] 21)) := (Below.refl _ w').alloc (Nat.le_refl _) _
        have hg8 : g < w'.heap.size := (HO8.out.lt g rfl).2
        have hins := pinsert_any l m j w.heap.size g c w'.heap.size (w'.alloc (.cells #[.int .i32 m] 21)) (by rw [HLZ.out]; exact hO9) (by rw [HLZ.out]; omega) (by rw [HLZ.out]; omega) hv9 (by omega) (Nat.le_trans HB8.out.size hB9.size)
        rw [HLZ.out] at hins
        have HINS := hide hins
        have t3 := (hB9.cell (p := ⟨tb, 0, none⟩) htl).trans t1
        have t4 := (hB9.cell (p := ⟨tb, 1, none⟩) htl).trans t2
        have HR9 := hide (HR8.out.below hB9 HR8.out.lt)
        have HB9 := hide (HB8.out.trans (hB9.mono HB8.out.size))
        have hs9 : w'.heap.size < (w'.alloc (.cells #[.int .i32 m] 21)).heap.size := by rw [World.size_alloc]; exact Nat.lt_succ_self _
        have HT3 := hide t3
        have HT4 := hide t4
        clear hins hv9 hO9 hB9 t3 t4
        go_wp2_with fail
        refine HINS.out.mono ?_
        rintro e w10 ⟨g', c', rfl, hO10, hg10, hat⟩
        have hrb8 : rb < w'.heap.size := HR8.out.lt
        have htg : tb ≠ g := by omega
        have u1 := (hg10.cell_far ⟨tb, 0, none⟩ (Nat.lt_trans htl hs9) (fun h => htg (Option.some.inj h))).trans HT3.out
        have u2 := (hg10.cell_far ⟨tb, 1, none⟩ (Nat.lt_trans htl hs9) (fun h => htg (Option.some.inj h))).trans HT4.out
        have hR10 := HR9.out.kept hg10 (fun h => hgr (Option.some.inj h).symm)
        have hB10 := HB9.out.grown hg10 HB9.out.size (fun q e => by cases e; exact (HO8.out.lt g rfl).1)
        have hgr2 : g' ≠ rb := by
         rcases hat with h | h
         · rw [h]; exact hgr
         · rw [h, World.size_alloc]; omega
        have hsz10 := hg10.size
        have HR10 := hide hR10
        have HO10 := hide hO10
        have HB10 := hide hB10
        have hab : Sx.bias1 (d / dm) ((z : Int) + 1) = Sx.after d ((z : Int) + 1) first := by
         rw [HDM.out]; unfold Sx.after
         cases first <;> rfl
        have hdmb : 1 ≤ dm ∧ dm ≤ 1000 := by rw [HDM.out]; cases first <;> simp
        have habd := Sx.after_bd d ((z : Int) + 1) first hmono (by omega) (by omega)
        have HAB := hide hab
        have HABD := hide habd
        clear hR10 hO10 hB10 hab habd t1 t2 HT3 HT4 hg10 hat HINS HR9 HB9 hs9 hsz10
        have hzq : (Zn : Int) ≤ (Q.size : Int) := by omega
        go_wp2_with (go_at_call 126; go_must (refine (ptake_any rb n i z bias dm m j _ HR10.out hn0 hn1 (by omega) (by omega) hi0 (by omega) hpl1 hm1 (by omega) (by omega) (by rw [HBP.out]; exact hmono) hdmb.1 hdmb.2).mono ?_; rintro e w11 ⟨⟨v3, rfl⟩, hR11, hg11⟩; rw [HBP.out, HAB.out] at hR11))
        have hql : (Q.extract Zn Q.size).data.toList = s' := by
         rw [ba_ext, ← ba_len, List.take_length]; exact HRES.out.symm
        have hqz : (Q.extract Zn Q.size).size = Q.size - Zn := by rw [← ba_len, hql]; have := HZN.out; omega
        have hLen : (l.take j ++ m :: l.drop j).length = z + 1 := by
         rw [List.length_append, List.length_take, List.length_cons, List.length_drop, HLZ.out]; omega
        have hLA2 : LetAt s.data.toList (l.take j ++ m :: l.drop j) s' m j (Sx.after d ((z : Int) + 1) first) 2 false := by
         have hold := HLA.out
         refine ⟨fun x hx => ?_, ?_, ?_, rfl, by omega, hm1, by omega, by rw [hLen]; omega, HABD.out.1, HABD.out.2, .inr ⟨rfl, ?_, ?_⟩⟩
         · rcases List.mem_append.1 hx with hx | hx
           · exact hold.good x (List.mem_of_mem_take hx)
           · rcases List.mem_cons.1 hx with rfl | hx
             · exact HMG.out
             · exact hold.good x (List.mem_of_mem_drop hx)
         · rw [hLen]; have := HZN.out; omega
         · rw [← hold.dec, Sx.decL_more l bias n (i + 1) first _ d s' HNF2.out (by rw [HLZ.out, HM.out]; have := HMG.out; unfold Sx.Good at this; omega), HLZ.out, HM.out, HJ.out]
           unfold Sx.putIn
           rw [Int.toNat_natCast]
         · rw [List.any_append, List.any_cons, show decide (128 ≤ m) = true from by simp; omega]; simp
         · rcases hold.some with ⟨_, _, h⟩ | ⟨_, _, h⟩
           · rw [← h]; exact HQN.out
           · exact h
        refine ⟨⟨_, _, g', c', z + 1, m, j, _, 2, false, rfl, rfl, hLen, by rw [hql]; exact hLA2, ?_, HO10.out.kept hg11 (.inr (fun h => hgr2 (Option.some.inj h))), hgr2, HB10.out.grown hg11 HB10.out.size (fun q e => by cases e; exact hrw)⟩, by show (Q.extract Zn Q.size).size < Q.size; rw [hqz]; omega⟩
        rw [show ((z + 1 : Nat) : Int) = (z : Int) + 1 from by omega]
        exact hR11
    · have hDZ : D0 = 0 ∧ Z0 = 0 := by
       have h := HRD.out
       cases hn : nf with
       | none => rw [hn] at h; exact ⟨congrArg Prod.fst h, congrArg Prod.snd h⟩
       | some p =>
         obtain ⟨d, s'⟩ := p
         rw [hn] at h
         unfold Sx.rdOf at h
         simp only at h
         rw [if_neg (fun hle => hok ⟨d, s', hn, hle⟩)] at h
         exact ⟨congrArg Prod.fst h, congrArg Prod.snd h⟩
      have hdn : Sx.decL l bias n (i + 1) first Q.data.toList = none := by
       cases hn : nf with
       | none => exact Sx.decL_no _ _ _ _ _ _ HQN.out (by rw [HNF.out, hn])
       | some p =>
         obtain ⟨d, s'⟩ := p
         refine Sx.decL_bad _ _ _ _ _ _ d s' (by rw [HNF.out, hn]) (.inl ?_)
         have hlt : mo < d := by
          by_cases h : d ≤ mo
          · exact absurd ⟨d, s', hn, h⟩ hok
          · omega
         rw [HLZ.out]
         exact most_bound n (i + 1) z d (by omega) (by omega) (by rw [HMO.out]; exact hlt)
      have hnc := no_code s.data.toList (by rw [← HLA.out.dec]; exact hdn)
      obtain ⟨rfl, rfl⟩ := hDZ
      have HNC := hide hnc
      clear hnc hdn hok
      go_wp2
      go_ret2
      exact ⟨by rw [HNC.out.1, HNC.out.2]; rfl, HB5.out⟩
  · have hq0 : Q.data.toList = [] := List.eq_nil_of_length_eq_zero (by rw [ba_len]; omega)
    have hqe : Q.toList.isEmpty = true := by rw [ByteArray.toList_eq, hq0]; rfl
    have hd := HLA.out.dec
    rw [hq0, Sx.decL_nil] at hd
    have hcv2 := own_ruat HOWN.out HLZ.out.symm
    rw [Sx.runes_text l HLA.out.good] at hcv2
    have hlt2 := Sx.letters_text l HLA.out.good
    have htl := Sx.text_len l
    obtain ⟨T, hT⟩ : ∃ T : ByteArray, ⟨(Sx.text l).toArray⟩ = T := ⟨_, rfl⟩
    have hTl : T.data.toList = Sx.text l := by rw [← hT]
    have hTz : T.size ≤ 64 := by rw [← ba_len, hTl]; rw [HLZ.out] at htl; omega
    rw [hT] at hcv2
    obtain ⟨f, hf⟩ : ∃ f, (l.any fun c => decide (128 ≤ c)) = f := ⟨_, rfl⟩
    have HD := hide hd
    have HTL := hide hTl
    have HLT := hide hlt2
    have HF := hide hf
    have HT := hide hT
    clear hd hTl hlt2 hf hT hq0 htl
    cases f with
    | false =>
      have hcm := HLA.out.some
      have hnc : Sx.codeOk s.data.toList = false ∧ Sx.letOf s.data.toList = [] := by
       have e : Sx.dec s.data.toList = none := by
        rw [Sx.dec_parts]
        rcases HLA.out.some with ⟨_, _, h⟩ | ⟨_, h, _⟩
        · rw [if_pos]
          rw [← h]; exact List.eq_nil_of_length_eq_zero (by rw [ba_len]; omega)
        · rw [HF.out] at h; exact absurd h (by decide)
       have e2 : Sx.codeOk s.data.toList = false := by unfold Sx.codeOk; rw [e]
       exact ⟨e2, by unfold Sx.letOf; rw [e2]; rfl⟩
      have HNC := hide hnc
      clear hnc hcm
      go_wp2_with (go_at_call 127; go_must (refine (pcf_any T l _ (by rw [HTL.out]; exact HLT.out) (by omega)).mono ?_; rintro e w7 ⟨rfl, hB7⟩; rw [HF.out]))
      go_ret2
      exact ⟨by rw [HNC.out.1, HNC.out.2]; rfl, HB.out.trans (hB7.mono HB.out.size)⟩
    | true =>
      have hnn : Sx.numPart s.data.toList ≠ [] := by
       rcases HLA.out.some with ⟨_, h, _⟩ | ⟨_, _, h⟩
       · have h2 := HF.out
         rw [h, HL0.out] at h2
         obtain ⟨x, hx, h3⟩ := List.any_eq_true.1 h2
         have := (HGOOD.out x hx).2
         simp at h3
         omega
       · exact h
      have hdec : Sx.dec s.data.toList = some l := by rw [Sx.dec_parts, if_neg hnn, ← HD.out]
      obtain ⟨E, hE⟩ : ∃ E : ByteArray, ⟨(Sx.enc l).toArray⟩ = E := ⟨_, rfl⟩
      have hEl : E.data.toList = Sx.enc l := by rw [← hE]
      have HOF := hide (fun (w : World) => by have := pof_any T l w (by rw [HTL.out]; exact HLT.out) (by omega) (ways_some l HF.out) (by have h1 := ways_few l; have h2 := HLZ.out; omega); rw [hE] at this; exact this)
      obtain ⟨k, hk⟩ : ∃ k, Sx.codeOk s.data.toList = k := ⟨_, rfl⟩
      have hk2 : (Sx.enc l == s.data.toList) = k := by rw [← hk]; unfold Sx.codeOk; rw [hdec]
      have hlo : Sx.letOf s.data.toList = if k then Sx.text l else [] := by unfold Sx.letOf; rw [hk, hdec]; rfl
      have hes : (E.toList == s.toList) = k := by rw [ByteArray.toList_eq, ByteArray.toList_eq, hEl]; exact hk2
      have HK := hide hk
      have HLO := hide hlo
      clear hk hk2 hlo hE hEl hdec hnn
      cases k with
      | false =>
        go_wp2_with (first | (go_at_call 127; go_must (refine (pcf_any T l _ (by rw [HTL.out]; exact HLT.out) (by omega)).mono ?_; rintro e w7 ⟨rfl, hB7⟩; rw [HF.out])) | (go_at_call 129; go_must (refine (HOF.out _).mono ?_; rintro e w8 ⟨rfl, hB8⟩)))
        go_ret2
        exact ⟨by rw [HK.out, HLO.out]; rfl, (HB.out.trans (hB7.mono HB.out.size)).trans (hB8.mono (Nat.le_trans HB.out.size hB7.size))⟩
      | true =>
        go_wp2_with (first | (go_at_call 127; go_must (refine (pcf_any T l _ (by rw [HTL.out]; exact HLT.out) (by omega)).mono ?_; rintro e w7 ⟨rfl, hB7⟩; rw [HF.out])) | (go_at_call 129; go_must (refine (HOF.out _).mono ?_; rintro e w8 ⟨rfl, hB8⟩)))
        go_ret2
        exact ⟨by rw [HK.out, show Sx.letOf s.data.toList = Sx.text l from HLO.out, HT.out]; rfl, (HB.out.trans (hB7.mono HB.out.size)).trans (hB8.mono (Nat.le_trans HB.out.size hB7.size))⟩
end Go.Proofs.YtgohllfpceeboaaGreatDoor
