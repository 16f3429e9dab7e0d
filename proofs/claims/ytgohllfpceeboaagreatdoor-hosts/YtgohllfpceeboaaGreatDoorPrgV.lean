import Derived.Test.YtgohllfpceeboaaGreatDoorPrgU
namespace Go.Proofs.YtgohllfpceeboaaGreatDoor
/-- Two ways at one point keep their order. -/
def Stb (m : List (Int × Int)) : Prop := ∀ i k, i < k → k < m.length → (m.getD i (0, 0)).1 = (m.getD k (0, 0)).1 → (m.getD i (0, 0)).2 < (m.getD k (0, 0)).2
theorem swapL_getD (m : List (Int × Int)) (j p i : Nat) (hj : j < m.length) (hp : p < m.length) : (swapL m j p).getD i (0, 0) = if i = p then m.getD j (0, 0) else if i = j then m.getD p (0, 0) else m.getD i (0, 0) := by
  simp only [List.getD_eq_getElem?_getD]
  rw [swapL_get m j p i hj hp]
  split
  · rfl
  · split <;> rfl
theorem swapL_stb (m : List (Int × Int)) (p : Nat) (hj : p + 1 < m.length) (hlt : (m.getD (p + 1) (0, 0)).1 < (m.getD p (0, 0)).1) (h : Stb m) : Stb (swapL m (p + 1) p) := by
  intro i k hik hk
  rw [swapL_len] at hk
  rw [swapL_getD m _ _ _ hj (by omega), swapL_getD m _ _ _ hj (by omega)]
  by_cases h1 : i = p
  · subst h1
    rw [if_pos rfl]
    by_cases h2 : k = i + 1
    · subst h2
      rw [if_neg (by omega), if_pos rfl]
      intro he; omega
    · rw [if_neg (by omega), if_neg h2]
      exact h (i + 1) k (by omega) hk
  · rw [if_neg h1]
    by_cases h2 : i = p + 1
    · subst h2
      rw [if_pos rfl, if_neg (by omega), if_neg (by omega)]
      exact h p k (by omega) hk
    · rw [if_neg h2]
      by_cases h3 : k = p
      · subst h3
        rw [if_pos rfl]
        exact h i (k + 1) (by omega) hj
      · rw [if_neg h3]
        by_cases h4 : k = p + 1
        · subst h4
          rw [if_pos rfl]
          exact h i p (by omega) (by omega)
        · rw [if_neg h4]
          exact h i k hik hk
theorem swapL_mem (m : List (Int × Int)) (j p : Nat) (hj : j < m.length) (hp : p < m.length) : (swapL m j p).Perm m := by
  unfold swapL
  rw [List.getD_eq_getElem?_getD, List.getElem?_eq_getElem hp, List.getD_eq_getElem?_getD, List.getElem?_eq_getElem hj, Option.getD_some, Option.getD_some]
  exact List.set_set_perm hj hp
/-- Risen over [a, b). -/
def Risen (m : List (Int × Int)) (a b : Nat) : Prop := ∀ i k, a ≤ i → i < k → k < b → (m.getD i (0, 0)).1 ≤ (m.getD k (0, 0)).1
theorem insTo_good (a N : Nat) : ∀ (f : Nat) (m : List (Int × Int)) (j : Nat), j ≤ f → a ≤ j → j ≤ N → N < m.length → Stb m →
    (∀ i k, a ≤ i → i < k → k ≤ N → i ≠ j → k ≠ j → (m.getD i (0, 0)).1 ≤ (m.getD k (0, 0)).1) →
    (∀ k, j < k → k ≤ N → (m.getD j (0, 0)).1 ≤ (m.getD k (0, 0)).1) →
    Risen (insTo m a f j) a (N + 1) ∧ Stb (insTo m a f j) ∧ (insTo m a f j).Perm m ∧ ∀ i, (i < a ∨ N < i) → (insTo m a f j).getD i (0, 0) = m.getD i (0, 0) := by
  intro f
  induction f with
  | zero =>
    intro m j h0 h1 h2 h3 h4 h5 h6
    refine ⟨?_, h4, .refl _, fun _ _ => rfl⟩
    intro i k hi hik hk
    simp only [insTo]
    by_cases e1 : i = j
    · subst e1; exact h6 k hik (by omega)
    · exact h5 i k hi hik (by omega) e1 (by omega)
  | succ f ih =>
    intro m j h0 h1 h2 h3 h4 h5 h6
    simp only [insTo]
    by_cases hc : a < j ∧ (m.getD j (0, 0)).1 < (m.getD (j - 1) (0, 0)).1
    · rw [if_pos hc]
      obtain ⟨hc1, hc2⟩ := hc
      obtain ⟨p, rfl⟩ : ∃ p, j = p + 1 := ⟨j - 1, by omega⟩
      rw [Nat.add_sub_cancel] at hc2 ⊢
      have hj : p + 1 < m.length := by omega
      have hp : p < m.length := by omega
      obtain ⟨g1, g2, g3, g4⟩ := ih (swapL m (p + 1) p) p (by omega) (by omega) (by omega) (by rw [swapL_len]; exact h3) (swapL_stb m p hj hc2 h4)
        (by
          intro i k hi hik hk ei ek
          rw [swapL_getD m _ _ _ hj hp, swapL_getD m _ _ _ hj hp, if_neg ei, if_neg ek]
          by_cases e1 : i = p + 1
          · rw [if_pos e1, if_neg (by omega)]
            exact h5 p k (by omega) (by omega) hk (by omega) (by omega)
          · rw [if_neg e1]
            by_cases e2 : k = p + 1
            · rw [if_pos e2]
              exact h5 i p hi (by omega) (by omega) (by omega) (by omega)
            · rw [if_neg e2]
              exact h5 i k hi hik hk e1 e2)
        (by
          intro k hk1 hk2
          rw [swapL_getD m _ _ _ hj hp, swapL_getD m _ _ _ hj hp, if_pos rfl, if_neg (by omega)]
          by_cases e2 : k = p + 1
          · rw [if_pos e2]; omega
          · rw [if_neg e2]
            exact h6 k (by omega) hk2)
      refine ⟨g1, g2, g3.trans (swapL_mem m _ _ hj hp), ?_⟩
      intro i hi
      rw [g4 i hi, swapL_getD m _ _ _ hj hp, if_neg (by omega), if_neg (by omega)]
    · rw [if_neg hc]
      refine ⟨?_, h4, .refl _, fun _ _ => rfl⟩
      intro i k hi hik hk
      by_cases e1 : i = j
      · subst e1; exact h6 k hik (by omega)
      · by_cases e2 : k = j
        · subst e2
          have h7 : ¬ (m.getD k (0, 0)).1 < (m.getD (k - 1) (0, 0)).1 := fun h => hc ⟨by omega, h⟩
          by_cases e3 : i = k - 1
          · subst e3; omega
          · have := h5 i (k - 1) hi (by omega) (by omega) e1 (by omega)
            omega
        · exact h5 i k hi hik (by omega) e1 e2
theorem insAll_good (l : List (Int × Int)) (a : Nat) (hs : Stb l) : ∀ n, a + n < l.length →
    Risen (insAll l a n) a (a + n + 1) ∧ Stb (insAll l a n) ∧ (insAll l a n).Perm l ∧ ∀ i, (i < a ∨ a + n < i) → (insAll l a n).getD i (0, 0) = l.getD i (0, 0) := by
  intro n
  induction n with
  | zero => intro _; exact ⟨fun i k _ _ _ => by omega, hs, .refl _, fun _ _ => rfl⟩
  | succ n ih =>
    intro hn
    obtain ⟨g1, g2, g3, g4⟩ := ih (by omega)
    obtain ⟨k1, k2, k3, k4⟩ := insTo_good a (a + n + 1) (a + n + 1) (insAll l a n) (a + n + 1) (Nat.le_refl _) (by omega) (Nat.le_refl _) (by rw [g3.length_eq]; omega) g2
      (fun i k hi hik hk ei ek => g1 i k hi hik (by omega)) (fun k hk1 hk2 => by omega)
    refine ⟨k1, k2, k3.trans g3, fun i hi => ?_⟩
    simp only [insAll]
    rw [k4 i (by omega), g4 i (by omega)]
/-- What is risen throughout and keeps the order at one point is told by its members. -/
theorem risen_one : ∀ (l m : List (Int × Int)), l.Perm m → Stb l → Stb m → Risen l 0 l.length → Risen m 0 m.length → l = m := by
  intro l m hp hs1 hs2 hr1 hr2
  have key : ∀ (q : List (Int × Int)), Stb q → Risen q 0 q.length → q.Pairwise (fun x y => x.1 < y.1 ∨ (x.1 = y.1 ∧ x.2 < y.2)) := by
    intro q h1 h2
    rw [List.pairwise_iff_getElem]
    intro i k hi hk hik
    have a1 := h1 i k hik hk
    have a2 := h2 i k (by omega) hik hk
    rw [List.getD_eq_getElem?_getD, List.getElem?_eq_getElem hi, List.getD_eq_getElem?_getD, List.getElem?_eq_getElem hk, Option.getD_some, Option.getD_some] at a1 a2
    by_cases e : q[i].1 = q[k].1
    · exact .inr ⟨e, a1 e⟩
    · exact .inl (by omega)
  refine hp.eq_of_pairwise ?_ (key l hs1 hr1) (key m hs2 hr2)
  intro x y _ _ hxy hyx
  rcases hxy with h | ⟨h, h'⟩ <;> rcases hyx with k | ⟨k, k'⟩ <;> omega
end Go.Proofs.YtgohllfpceeboaaGreatDoor
