import Derived.Test.YtgohllfpceeboaaGreatDoorPrgQ
import Derived.Test.YtgohllfpceeboaaGreatDoorPrgN
import Derived.Test.YtgohllfpceeboaaGreatDoorMi
import Derived.Lib.ValidLaws
namespace Sx
/-- Bytes, parted at their dots, from the left. -/
def splB : List UInt8 → List UInt8 → List (List UInt8)
  | [], cur => [cur]
  | x :: r, cur => if x = 46 then cur :: splB r [] else splB r (cur ++ [x])
def splL : List Int → List Int → List (List Int)
  | [], cur => [cur]
  | c :: r, cur => if c = 46 then cur :: splL r [] else splL r (cur ++ [c])
theorem splB_no : ∀ (u r cur : List UInt8), (∀ x ∈ u, x ≠ 46) → splB (u ++ r) cur = splB r (cur ++ u) := by
  intro u
  induction u with
  | nil => intro r cur _; simp
  | cons x u ih =>
    intro r cur h
    rw [List.cons_append, splB, if_neg (h x (List.mem_cons_self ..)), ih r _ (fun y hy => h y (List.mem_cons_of_mem _ hy))]
    simp
theorem splB_last : ∀ (x y cur : List UInt8), (∀ b ∈ y, b ≠ 46) → splB (x ++ 46 :: y) cur = splB x cur ++ [y] := by
  intro x
  induction x with
  | nil =>
    intro y cur h
    rw [List.nil_append]
    show (if (46 : UInt8) = 46 then cur :: splB y [] else splB y (cur ++ [46])) = _
    rw [if_pos rfl]
    have := splB_no y [] [] h
    rw [List.append_nil] at this
    rw [this]
    simp [splB]
  | cons a x ih =>
    intro y cur h
    rw [List.cons_append, splB]
    by_cases c : a = 46
    · rw [if_pos c, ih y [] h]
      simp [splB, c]
    · rw [if_neg c, ih y _ h]
      simp [splB, c]
theorem utf_dot (c : Int) (h : Good c) (hc : c ≠ 46) : ∀ x ∈ utf c, x ≠ 46 := by
  obtain ⟨h0, h1, h2⟩ := h
  have key : ∀ n : Int, 0 ≤ n → n < 256 → n ≠ 46 → UInt8.ofNat n.toNat ≠ 46 := fun n a b d e => by
    have := congrArg UInt8.toNat e
    rw [u8n n a b] at this
    have e2 : (46 : UInt8).toNat = 46 := rfl
    omega
  unfold utf
  intro x hx
  by_cases a1 : c < 128
  · rw [if_pos a1] at hx
    rw [List.mem_singleton.1 hx]; exact key c h0 (by omega) hc
  · rw [if_neg a1] at hx
    by_cases a2 : c < 2048
    · rw [if_pos a2] at hx
      simp only [List.mem_cons, List.not_mem_nil, or_false] at hx
      rcases hx with rfl | rfl <;> exact key _ (by omega) (by omega) (by omega)
    · rw [if_neg a2] at hx
      by_cases a3 : c < 65536
      · rw [if_pos a3] at hx
        simp only [List.mem_cons, List.not_mem_nil, or_false] at hx
        rcases hx with rfl | rfl | rfl <;> exact key _ (by omega) (by omega) (by omega)
      · rw [if_neg a3] at hx
        simp only [List.mem_cons, List.not_mem_nil, or_false] at hx
        rcases hx with rfl | rfl | rfl | rfl <;> exact key _ (by omega) (by omega) (by omega)
theorem splB_text : ∀ (l cur : List Int), (∀ c ∈ l, Good c) → splB (text l) (text cur) = (splL l cur).map text := by
  intro l
  induction l with
  | nil => intro cur _; rfl
  | cons c l ih =>
    intro cur h
    have e : text (c :: l) = utf c ++ text l := by simp [text]
    have hr := fun x hx => h x (List.mem_cons_of_mem c hx)
    rw [e, splL]
    by_cases hc : c = 46
    · subst hc
      have e2 : utf 46 = [46] := by decide
      rw [e2, if_pos rfl, List.map_cons, List.cons_append, List.nil_append, splB, if_pos rfl]
      have := ih [] hr
      rw [show text [] = [] from rfl] at this
      rw [this]
    · rw [if_neg hc, splB_no _ _ _ (utf_dot c (h c (List.mem_cons_self ..)) hc)]
      have := ih (cur ++ [c]) hr
      rw [text_snoc] at this
      exact this
/-- All of them, or none. -/
def allSome : List (Option (List UInt8)) → Option (List (List UInt8))
  | [] => some []
  | none :: _ => none
  | some x :: r => (allSome r).map (x :: ·)
theorem hostGo_spl : ∀ (l cur : List Int), hostGo l cur = allSome ((splL l cur).map label) := by
  intro l
  induction l with
  | nil =>
    intro cur
    simp only [hostGo, splL, List.map_cons, List.map_nil]
    cases label cur <;> rfl
  | cons c l ih =>
    intro cur
    simp only [hostGo, splL]
    by_cases hc : c = 46
    · rw [if_pos hc, if_pos hc, List.map_cons]
      cases label cur with
      | none => rfl
      | some x => simp only [allSome]; rw [ih]
    · rw [if_neg hc, if_neg hc, ih]
theorem splL_mem : ∀ (l cur : List Int) (p : List Int), p ∈ splL l cur → ∀ c ∈ p, c ∈ cur ∨ c ∈ l := by
  intro l
  induction l with
  | nil => intro cur p hp c hc; simp only [splL, List.mem_singleton] at hp; subst hp; exact .inl hc
  | cons x l ih =>
    intro cur p hp c hc
    simp only [splL] at hp
    split at hp
    · rcases List.mem_cons.1 hp with rfl | hp
      · exact .inl hc
      · rcases ih [] p hp c hc with h | h
        · cases h
        · exact .inr (List.mem_cons_of_mem _ h)
    · rcases ih _ p hp c hc with h | h
      · rcases List.mem_append.1 h with h | h
        · exact .inl h
        · exact .inr (by rw [List.mem_singleton.1 h]; exact List.mem_cons_self ..)
      · exact .inr (List.mem_cons_of_mem _ h)
theorem splB_len : ∀ (r cur p : List UInt8), p ∈ splB r cur → p.length ≤ cur.length + r.length := by
  intro r
  induction r with
  | nil => intro cur p hp; simp only [splB, List.mem_singleton] at hp; subst hp; simp
  | cons x r ih =>
    intro cur p hp
    simp only [splB] at hp
    split at hp
    · rcases List.mem_cons.1 hp with rfl | hp
      · simp
      · have := ih [] p hp; simp at this ⊢; omega
    · have := ih _ p hp; simp at this ⊢; omega
end Sx
namespace Go.Proofs.YtgohllfpceeboaaGreatDoor
theorem lastTo_spec (s : List UInt8) (c : UInt8) : ∀ k : Nat, (lastTo s c k = -1 ∧ ∀ j, j < k → s.getD j 0 ≠ c) ∨ (∃ d : Nat, d < k ∧ lastTo s c k = d ∧ s.getD d 0 = c ∧ ∀ j, d < j → j < k → s.getD j 0 ≠ c) := by
  intro k
  induction k with
  | zero => exact .inl ⟨rfl, fun j h => by omega⟩
  | succ k ih =>
    simp only [lastTo]
    by_cases h : s.getD k 0 = c
    · rw [if_pos h]
      exact .inr ⟨k, by omega, rfl, h, fun j h1 h2 => by omega⟩
    · rw [if_neg h]
      rcases ih with ⟨h1, h2⟩ | ⟨d, h1, h2, h3, h4⟩
      · refine .inl ⟨h1, fun j hj => ?_⟩
        by_cases e : j = k
        · rw [e]; exact h
        · exact h2 j (by omega)
      · refine .inr ⟨d, by omega, h2, h3, fun j g1 g2 => ?_⟩
        by_cases e : j = k
        · rw [e]; exact h
        · exact h4 j g1 (by omega)
theorem getD_mem_ne (s : List UInt8) (c : UInt8) (h : ∀ j, j < s.length → s.getD j 0 ≠ c) : ∀ x ∈ s, x ≠ c := by
  intro x hx
  obtain ⟨j, hj, rfl⟩ := List.mem_iff_getElem.1 hx
  have := h j hj
  rw [List.getD_eq_getElem?_getD, List.getElem?_eq_getElem hj, Option.getD_some] at this
  exact this
/-- The pieces from the right are those from the left, turned round. -/
theorem pcs_rev : ∀ (n : Nat) (r : List UInt8), r.length ≤ n → (pcs r).reverse = Sx.splB r [] := by
  intro n
  induction n with
  | zero =>
    intro r h
    have : r = [] := List.eq_nil_of_length_eq_zero (by omega)
    subst this; rfl
  | succ n ih =>
    intro r h
    rcases lastTo_spec r 46 r.length with ⟨h1, h2⟩ | ⟨d, h1, h2, h3, h4⟩
    · rw [pcs_last r (by unfold dotAt; omega)]
      have := Sx.splB_no r [] [] (getD_mem_ne r 46 h2)
      rw [List.append_nil] at this
      rw [this]; simp [Sx.splB]
    · have hd : dotAt r = d := h2
      rw [pcs_more r (by omega), hd, List.reverse_cons, show ((d : Int) + 1).toNat = d + 1 from by omega, Int.toNat_natCast, ih (r.take d) (by rw [List.length_take]; omega)]
      have hr : r = r.take d ++ 46 :: r.drop (d + 1) := by
        have e1 := (List.take_append_drop d r).symm
        rw [List.drop_eq_getElem_cons h1] at e1
        have e2 : r[d] = 46 := by
          rw [List.getD_eq_getElem?_getD, List.getElem?_eq_getElem h1, Option.getD_some] at h3
          exact h3
        rw [e2] at e1
        exact e1
      conv => rhs; rw [hr]
      rw [Sx.splB_last]
      refine getD_mem_ne _ _ (fun j hj => ?_)
      rw [List.length_drop] at hj
      have := h4 (d + 1 + j) (by omega) (by omega)
      rw [List.getD_eq_getElem?_getD] at this ⊢
      rw [List.getElem?_drop]
      exact this
end Go.Proofs.YtgohllfpceeboaaGreatDoor
