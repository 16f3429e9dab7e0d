import Derived.Test.YtgohllfpceeboaaGreatDoorPrgG
import Derived.Test.YtgohllfpceeboaaGreatDoorPrgF
namespace Sx
theorem ins_perm {α : Type} (lt : α → α → Bool) (x : α) (l : List α) : (ins lt x l).Perm (x :: l) := by
  induction l with
  | nil => exact .refl _
  | cons y r ih =>
    simp only [ins]
    split
    · exact .refl _
    · exact (List.Perm.cons y ih).trans (List.Perm.swap x y r)
theorem isort_perm {α : Type} (lt : α → α → Bool) (l : List α) : ∀ acc, (isort lt acc l).Perm (acc ++ l) := by
  induction l with
  | nil => intro acc; simp only [isort, List.append_nil]; exact .refl _
  | cons x r ih =>
    intro acc
    simp only [isort]
    refine (ih _).trans ?_
    refine ((ins_perm lt x acc).append_right r).trans ?_
    rw [List.cons_append]
    exact List.perm_middle.symm
theorem ord_perm (l : List Int) : (ord l).Perm (forIdx l) := isort_perm _ _ _
end Sx
namespace Go.Proofs.YtgohllfpceeboaaGreatDoor
open Go.RowKit

theorem stb_map (l : List Int) (xs : List Nat) (h : xs.Pairwise (fun a b => l.getD a 0 = l.getD b 0 → Sx.stand l a < Sx.stand l b)) : Stb (xs.map (Sx.wayAt l)) := by
  intro i k hik hk
  rw [List.length_map] at hk
  have h1 := List.pairwise_iff_getElem.1 h i k (by omega) hk hik
  rw [List.getD_eq_getElem?_getD, List.getD_eq_getElem?_getD, List.getElem?_map, List.getElem?_map, List.getElem?_eq_getElem hk, List.getElem?_eq_getElem (show i < xs.length by omega)]
  simp only [Option.map_some, Option.getD_some, Sx.wayAt]
  intro he
  have := h1 he
  omega
theorem risen_map (l : List Int) (xs : List Nat) (h : xs.Pairwise (fun a b => l.getD a 0 ≤ l.getD b 0)) : Risen (xs.map (Sx.wayAt l)) 0 (xs.map (Sx.wayAt l)).length := by
  intro i k _ hik hk
  rw [List.length_map] at hk
  have h1 := List.pairwise_iff_getElem.1 h i k (by omega) hk hik
  rw [List.getD_eq_getElem?_getD, List.getD_eq_getElem?_getD, List.getElem?_map, List.getElem?_map, List.getElem?_eq_getElem hk, List.getElem?_eq_getElem (show i < xs.length by omega)]
  simp only [Option.map_some, Option.getD_some, Sx.wayAt]
  exact h1
theorem forIdx_stb (l : List Int) : Stb ((Sx.forIdx l).map (Sx.wayAt l)) := by
  refine stb_map l _ ?_
  unfold Sx.forIdx
  have h1 : ((List.range l.length).filter fun k => decide (128 ≤ l.getD k 0)).Pairwise (fun a b => a < b) := List.Pairwise.filter _ List.pairwise_lt_range
  refine List.Pairwise.imp_of_mem ?_ h1
  intro a b ha hb hlt he
  have := (List.mem_filter.1 hb).1
  rw [List.mem_range] at this
  have := Sx.stand_same l a b hlt this he
  omega
theorem ord_stb (l : List Int) : Stb ((Sx.ord l).map (Sx.wayAt l)) := by
  refine stb_map l _ (List.Pairwise.imp_of_mem ?_ (Sx.ord_ahead l))
  intro a b ha hb h he
  rcases h with h | ⟨_, h⟩
  · omega
  · have := Sx.stand_same l a b h ((Sx.ord_mem l b).1 hb).1 he
    omega
theorem ord_risen (l : List Int) : Risen ((Sx.ord l).map (Sx.wayAt l)) 0 ((Sx.ord l).map (Sx.wayAt l)).length := by
  refine risen_map l _ (List.Pairwise.imp ?_ (Sx.ord_ahead l))
  intro a b h
  rcases h with h | ⟨h, _⟩ <;> omega
/-- The ways, up to a place. -/
def waysTo (l : List Int) (k : Nat) : List (Int × Int) := ((List.range k).filter fun j => decide (128 ≤ l.getD j 0)).map (Sx.wayAt l)
theorem waysTo_all (l : List Int) : waysTo l l.length = (Sx.forIdx l).map (Sx.wayAt l) := rfl
theorem waysTo_in (l : List Int) (k : Nat) (h : 128 ≤ l.getD k 0) : waysTo l (k + 1) = waysTo l k ++ [Sx.wayAt l k] := by
  unfold waysTo
  rw [List.range_succ, List.filter_append, List.map_append]
  congr 1
  simp only [List.filter_cons, h, decide_true, if_true, List.filter_nil, List.map_cons, List.map_nil]
theorem waysTo_out (l : List Int) (k : Nat) (h : ¬ 128 ≤ l.getD k 0) : waysTo l (k + 1) = waysTo l k := by
  unfold waysTo
  rw [List.range_succ, List.filter_append, List.map_append]
  simp only [List.filter_cons, h, decide_false, List.filter_nil, List.map_nil, List.append_nil, Bool.false_eq_true, if_false]
theorem waysTo_le (l : List Int) (k : Nat) : (waysTo l k).length ≤ k := by
  unfold waysTo
  rw [List.length_map]
  have := List.length_filter_le (fun j => decide (128 ≤ l.getD j 0)) (List.range k)
  rw [List.length_range] at this
  exact this
/-- What sorting leaves. -/
theorem sorted_ord (l : List Int) (r : List (Int × Int)) (h1 : r.Perm (waysTo l l.length)) (h2 : Stb r) (h3 : Risen r 0 (waysTo l l.length).length) : r = (Sx.ord l).map (Sx.wayAt l) := by
  refine risen_one r _ ?_ h2 (ord_stb l) ?_ (ord_risen l)
  · rw [waysTo_all] at h1
    exact h1.trans ((Sx.ord_perm l).map _).symm
  · rw [h1.length_eq]; exact h3
theorem Tryz.info178 : (Tryz.prog.info? 178).map (fun i => (i.zero, i.size, i.bytes)) = some (some (.agg #[.int .i64 0, .int .i64 0]), 2, 16) := by kernel_rfl
def waV (l : List (Int × Int)) : List Value := l.flatMap fun x => [Value.int .i64 x.1, Value.int .i64 x.2]
theorem waV_app (a b : List (Int × Int)) : waV (a ++ b) = waV a ++ waV b := by simp [waV]
theorem waV_get : ∀ (l : List (Int × Int)) (j : Nat) (h : j < l.length), (waV l)[j * 2]? = some (.int .i64 l[j].1) ∧ (waV l)[j * 2 + 1]? = some (.int .i64 l[j].2) := by
  intro l
  induction l with
  | nil => intro j h; exact absurd h (Nat.not_lt_zero _)
  | cons x r ih =>
    intro j h
    have e : waV (x :: r) = Value.int .i64 x.1 :: Value.int .i64 x.2 :: waV r := rfl
    cases j with
    | zero => rw [e]; exact ⟨rfl, rfl⟩
    | succ j =>
      have := ih j (by simpa using h)
      rw [e, show (j + 1) * 2 = j * 2 + 1 + 1 from by omega]
      simpa using this
theorem ways_of_own {w : World} {B g n cap : Nat} {l : List (Int × Int)} (h : w.ownsRow B 178 2 (.slice (some ⟨g, 0, none⟩) n cap) n (waV l)) (hg : g < w.heap.size) : WaysAt w g l := by
  refine ⟨hg, fun j hj => ?_, fun o => h.frozenAt o⟩
  obtain ⟨a1, a2⟩ := waV_get l j hj
  have c1 := h.cells (g := g) rfl _ _ a1
  have c2 := h.cells (g := g) rfl _ _ a2
  rw [Addr.add_lit, Nat.zero_add] at c1 c2
  exact ⟨c1, c2⟩
theorem cell_two_new (w : World) (x y : Value) (t : TypeId) : ∀ (j : Nat) (u : Value), [x, y][j]? = some u → (w.alloc (.cells #[x, y] t)).cell? ((⟨w.heap.size, 0, none⟩ : Addr).add j) = some u := by
  intro j u hj
  rw [Addr.add_lit, Nat.zero_add, World.cell?_alloc_mark]
  simpa using hj
theorem RuAt.below {W W' : World} {b B : Nat} {l : List Int} (h : RuAt W b l) (hb : Below B W W') (hg : b < B) : RuAt W' b l :=
  ⟨Nat.lt_of_lt_of_le h.1 hb.size, fun j hj => (hb.cell (p := ⟨b, j, none⟩) hg).trans (h.2 j hj)⟩
theorem own_more {W : World} {B : Nat} {e : TypeId} {size : Nat} {v : Value} {k : Nat} {xs : List Value} (h : W.ownsRow B e size v (k + 1) xs) : ∃ g cap, v = .slice (some ⟨g, 0, none⟩) (k + 1) cap := by
  rcases h.2 with ⟨_, h⟩ | ⟨g, cap, _, h, _⟩
  · omega
  · exact ⟨g, cap, h⟩
set_option maxRecDepth 100000 in
set_option maxHeartbeats 4000000 in
/-- code.waysOf -/
theorem pways_any (l : List Int) (b cap : Nat) (w : World) (hr : RuAt w b l) (hl : l.length ≤ 100) (hcap : l.length ≤ cap) (hrange : ∀ c ∈ l, 0 ≤ c ∧ c ≤ 1114111) (h0 : 0 < (waysTo l l.length).length) (h40 : (waysTo l l.length).length < 40) :
    Calls Tryz.prog 177 #[.slice (some ⟨b, 0, none⟩) l.length cap] w fun e w' => ∃ g cap', e = .returned (.slice (some ⟨g, 0, none⟩) ((Sx.ord l).map (Sx.wayAt l)).length cap') ∧ WaysAt w' g ((Sx.ord l).map (Sx.wayAt l)) ∧ w.heap.size ≤ g ∧ Below w.heap.size w w' := by
  obtain ⟨i0, hi, hz0, hz1, hz2⟩ := info_parts Tryz.info178
  have HR := hide hr
  have HRG := hide hrange
  have H0 := hide h0
  have H40 := hide h40
  have hbw := hr.1
  clear hr hrange h0 h40
  go_enter Tryz.func177, Tryz.ntmps177
  go_wp2
  go_loopw [3, 8] (fun v i wr => ∃ k n : Nat, i = .int .i64 k ∧ k ≤ l.length ∧ (waysTo l k).length = n ∧ wr.ownsRow w.heap.size 178 2 v n (waV (waysTo l k)) ∧ Below w.heap.size w wr) (fun _ i _ => (l.length - intOf i).toNat)
  case atStart => exact ⟨0, 0, rfl, by omega, rfl, World.ownsRow_nil _ _ _ _, Below.refl _ _⟩
  case round =>
    obtain ⟨k, n, rfl, hk, hn, hown, hB⟩ := hrel
    have hnk : n ≤ 100 := by have := waysTo_le l k; omega
    have HN := hide hn
    have hsz := hB.size
    clear hn
    by_cases hlt : k < l.length
    · have hru := HR.out.below hB hbw
      have hc := hru.2 k hlt
      obtain ⟨x, hx⟩ : ∃ x, l[k] = x := ⟨_, rfl⟩
      have hxr := HRG.out l[k] (List.getElem_mem hlt)
      have hxd : l.getD k 0 = x := by rw [List.getD_eq_getElem?_getD, List.getElem?_eq_getElem hlt, Option.getD_some, hx]
      rw [hx] at hc hxr
      obtain ⟨hx0, hx1⟩ := hxr
      have HRU := hide hru
      have HXD := hide hxd
      clear hru hx hxd
      by_cases hf : 128 ≤ x
      · have hst : (Sx.stand l k : Nat) = (l.take k).countP fun y => decide (y ≤ x) := by unfold Sx.stand; rw [HXD.out]
        obtain ⟨q, hq⟩ : ∃ q, (l.take k).countP (fun y => decide (y ≤ x)) = q := ⟨_, rfl⟩
        rw [hq] at hst
        have HST := hide hst
        have HQ := hide hq
        have hd : decide (128 ≤ x) = true := by simp; omega
        clear hst hq
        go_wp2_with (first | (go_at_call 128; go_must (refine (pfor_any _ _).mono ?_; rintro e w' ⟨rfl, rfl⟩; rw [hd])) | (go_at_call 222; go_must (refine (psa_any l _ _ _ _ _ HRU.out (by omega) (by omega)).mono ?_; rintro e w' ⟨rfl, rfl⟩; rw [HQ.out])) | (at_builtin; go_must (refine wpList_append_lies _ rfl _ _ _ rfl w.heap.size 178 i0 (.agg #[.int .i64 0, .int .i64 0]) 2 16 Tryz.underlying251 hi hz0 hz1 hz2 rfl (by decide) _ _ _ rfl (hown.alloc _) ⟨_, 0, none⟩ 1 1 [.int .i64 x, .int .i64 q] rfl rfl (cell_two_new _ _ _ _) (by simp [Value.oneCell']) (by omega) (by unfold maxLen; omega) (by omega) (by simp; omega) _ rfl ?_; intro g cap1 w1 hown1 hgrow hat hlt1)))
        refine ⟨⟨k + 1, n + 1, by go_num, by omega, ?_, ?_, below_app hB hsz hown hgrow⟩, by simp [intOf]; omega⟩
        · rw [waysTo_in l k (by rw [HXD.out]; exact hf), List.length_append, HN.out]; rfl
        · rw [waysTo_in l k (by rw [HXD.out]; exact hf), waV_app]
          have e : waV [Sx.wayAt l k] = [.int .i64 x, .int .i64 q] := by unfold waV Sx.wayAt; rw [HXD.out, HST.out]; rfl
          rw [e]; exact hown1
      · have hd : decide (128 ≤ x) = false := by simp; omega
        go_wp2_with (go_at_call 128; go_must (refine (pfor_any _ _).mono ?_; rintro e w' ⟨rfl, rfl⟩; rw [hd]))
        refine ⟨⟨k + 1, n, by go_num, by omega, ?_, ?_, hB⟩, by simp [intOf]; omega⟩
        · rw [waysTo_out l k (by rw [HXD.out]; omega)]; exact HN.out
        · rw [waysTo_out l k (by rw [HXD.out]; omega)]; exact hown
    · have hkl : k = l.length := by omega
      subst hkl
      have hn0 : 0 < n := by rw [← HN.out]; exact H0.out
      obtain ⟨n', hn'⟩ : ∃ n', n = n' + 1 := ⟨n - 1, by omega⟩
      rw [hn'] at hown
      obtain ⟨g, cap', rfl⟩ := own_more hown
      have hgl := hown.lt g rfl
      have hwa := ways_of_own hown hgl.2
      have hlen : (waysTo l l.length).length = n' + 1 := by rw [HN.out, hn']
      have hc := psort_any (waysTo l l.length) g cap' wr hwa H0.out H40.out (by rw [waysTo_all]; exact forIdx_stb l)
      rw [hlen] at hc
      have HC := hide hc
      have HL := hide hlen
      clear hc hlen hwa hn' hn0 hown
      go_wp2_with fail
      refine HC.out.mono ?_
      rintro e w1 ⟨⟨v, rfl⟩, ⟨r, hr1, hr2, hr3, hr4⟩, hg1⟩
      have hre := sorted_ord l r hr1 hr2 (by rw [HL.out]; exact hr3)
      have hrn : r.length = n' + 1 := by rw [hr1.length_eq]; exact HL.out
      rw [hre] at hr4 hrn
      have HR4 := hide hr4
      have HRN := hide hrn
      have hB1 := hB.grown hg1 hB.size (fun k e => by cases e; exact hgl.1)
      clear hr1 hr2 hr3 hr4 hre hrn HC
      go_wp2
      go_ret
      exact ⟨g, cap', by rw [HRN.out]; rfl, HR4.out, hgl.1, hB1⟩
end Go.Proofs.YtgohllfpceeboaaGreatDoor
