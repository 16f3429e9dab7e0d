/- Plain mathematics of codes: the order of the foreign letters, the code of letters. -/
import Derived.Test.YtgohllfpceeboaaGreatDoorMa
namespace Sx

/-- Into a sorted list, behind all that are not greater. -/
def ins {α : Type} (lt : α → α → Bool) (x : α) : List α → List α
  | [] => [x]
  | y :: r => if lt x y then x :: y :: r else y :: ins lt x r
def isort {α : Type} (lt : α → α → Bool) (acc : List α) : List α → List α
  | [] => acc
  | x :: r => isort lt (ins lt x acc) r

theorem ins_map {α β : Type} (f : α → β) (lt : α → α → Bool) (lt' : β → β → Bool) (h : ∀ a b, lt' (f a) (f b) = lt a b) (x : α) (l : List α) : ins lt' (f x) (l.map f) = (ins lt x l).map f := by
  induction l with
  | nil => rfl
  | cons y r ih =>
    simp only [List.map_cons, ins, h]
    split
    · rfl
    · rw [ih]; rfl
theorem isort_map {α β : Type} (f : α → β) (lt : α → α → Bool) (lt' : β → β → Bool) (h : ∀ a b, lt' (f a) (f b) = lt a b) (l acc : List α) : isort lt' (acc.map f) (l.map f) = (isort lt acc l).map f := by
  induction l generalizing acc with
  | nil => rfl
  | cons x r ih => simp only [List.map_cons, isort]; rw [ins_map f lt lt' h, ih]
theorem ins_mem {α : Type} (lt : α → α → Bool) (x z : α) (l : List α) : z ∈ ins lt x l ↔ z = x ∨ z ∈ l := by
  induction l with
  | nil => simp [ins]
  | cons y r ih =>
    simp only [ins]
    split
    · simp
    · simp only [List.mem_cons, ih]
      constructor <;> (intro h; rcases h with h | h | h <;> simp [h])
theorem isort_mem {α : Type} (lt : α → α → Bool) (z : α) (l acc : List α) : z ∈ isort lt acc l ↔ z ∈ acc ∨ z ∈ l := by
  induction l generalizing acc with
  | nil => simp [isort]
  | cons x r ih =>
    simp only [isort, ih, ins_mem, List.mem_cons]
    constructor
    · rintro ((h | h) | h)
      · exact .inr (.inl h)
      · exact .inl h
      · exact .inr (.inr h)
    · rintro (h | h | h)
      · exact .inl (.inr h)
      · exact .inl (.inl h)
      · exact .inr h
theorem ins_len {α : Type} (lt : α → α → Bool) (x : α) (l : List α) : (ins lt x l).length = l.length + 1 := by
  induction l with
  | nil => rfl
  | cons y r ih => simp only [ins]; split <;> simp [ih]
theorem isort_len {α : Type} (lt : α → α → Bool) (l acc : List α) : (isort lt acc l).length = acc.length + l.length := by
  induction l generalizing acc with
  | nil => rfl
  | cons x r ih => simp only [isort, ih, ins_len, List.length_cons]; omega

/-- One index ahead of another: a lower letter, or the same and further left. -/
def Ahead (l : List Int) (a b : Nat) : Prop := l.getD a 0 < l.getD b 0 ∨ (l.getD a 0 = l.getD b 0 ∧ a < b)
def ltAt (l : List Int) (a b : Nat) : Bool := decide (l.getD a 0 < l.getD b 0)

theorem ins_ahead (l : List Int) (x : Nat) (acc : List Nat) (hx : ∀ y ∈ acc, y < x) (h : acc.Pairwise (Ahead l)) : (ins (ltAt l) x acc).Pairwise (Ahead l) := by
  induction acc with
  | nil => simp [ins]
  | cons y r ih =>
    rw [List.pairwise_cons] at h
    simp only [ins]
    split
    · rename_i hlt
      simp only [ltAt, decide_eq_true_eq] at hlt
      rw [List.pairwise_cons]
      refine ⟨?_, by rw [List.pairwise_cons]; exact h⟩
      intro z hz
      rcases List.mem_cons.1 hz with rfl | hz
      · exact .inl hlt
      · have := h.1 z hz
        unfold Ahead at this
        exact .inl (by omega)
    · rename_i hlt
      simp only [ltAt, decide_eq_true_eq] at hlt
      rw [List.pairwise_cons]
      refine ⟨?_, ih (fun z hz => hx z (List.mem_cons_of_mem _ hz)) h.2⟩
      intro z hz
      rcases (ins_mem _ _ _ _).1 hz with rfl | hz
      · have := hx y (List.mem_cons_self ..)
        unfold Ahead; omega
      · exact h.1 z hz
theorem isort_ahead (l : List Int) (xs acc : List Nat) (hs : xs.Pairwise (· < ·)) (hx : ∀ y ∈ acc, ∀ x ∈ xs, y < x) (h : acc.Pairwise (Ahead l)) : (isort (ltAt l) acc xs).Pairwise (Ahead l) := by
  induction xs generalizing acc with
  | nil => exact h
  | cons x r ih =>
    rw [List.pairwise_cons] at hs
    simp only [isort]
    refine ih _ hs.2 ?_ (ins_ahead l x acc (fun y hy => hx y hy x (List.mem_cons_self ..)) h)
    intro y hy z hz
    rcases (ins_mem _ _ _ _).1 hy with rfl | hy
    · exact hs.1 z hz
    · exact hx y hy z (List.mem_cons_of_mem _ hz)

/-- The foreign letters' places, from the left; in the order in which they are put in. -/
def forIdx (l : List Int) : List Nat := (List.range l.length).filter fun k => decide (128 ≤ l.getD k 0)
def ord (l : List Int) : List Nat := isort (ltAt l) [] (forIdx l)

theorem ord_ahead (l : List Int) : (ord l).Pairwise (Ahead l) := by
  unfold ord
  refine isort_ahead l _ _ ?_ (fun y hy => by simp at hy) List.Pairwise.nil
  unfold forIdx
  exact List.Pairwise.filter _ (List.pairwise_lt_range)
theorem ord_mem (l : List Int) (k : Nat) : k ∈ ord l ↔ k < l.length ∧ 128 ≤ l.getD k 0 := by
  unfold ord forIdx
  rw [isort_mem]
  simp
theorem ord_len (l : List Int) : (ord l).length = (l.filter fun c => decide (128 ≤ c)).length := by
  unfold ord forIdx
  rw [isort_len]
  simp only [List.length_nil, Nat.zero_add]
  have : l = (List.range l.length).map fun k => l.getD k 0 := by
    apply List.ext_getElem
    · simp
    · intro i h1 h2; simp [List.getElem?_eq_getElem h1]
  conv => rhs; rw [this]
  rw [List.filter_map, List.length_map]
  rfl

/-- How many of those to the left stand when this one is put in. -/
def stand (l : List Int) (c : Nat) : Nat := (l.take c).countP fun x => decide (x ≤ l.getD c 0)
theorem stand_le (l : List Int) (c : Nat) : stand l c ≤ c := by
  unfold stand
  have h1 := List.countP_le_length (p := fun x => decide (x ≤ l.getD c 0)) (l := l.take c)
  have h2 := List.length_take_le c l
  omega
theorem stand_same (l : List Int) (a b : Nat) (hab : a < b) (hb : b < l.length) (h : l.getD a 0 = l.getD b 0) : stand l a + 1 ≤ stand l b := by
  unfold stand
  rw [h]
  have e : l.take b = l.take a ++ (l.drop a).take (b - a) := by
    have := List.take_add (i := a) (j := b - a) (l := l)
    rw [show a + (b - a) = b from by omega] at this
    exact this
  rw [e, List.countP_append]
  have : 1 ≤ ((l.drop a).take (b - a)).countP fun x => decide (x ≤ l.getD b 0) := by
    have ha : a < l.length := by omega
    rw [List.drop_eq_getElem_cons ha]
    obtain ⟨m, hm⟩ : ∃ m, b - a = m + 1 := ⟨b - a - 1, by omega⟩
    rw [hm, List.take_succ_cons, List.countP_cons]
    have : l[a] = l.getD a 0 := by simp [List.getElem?_eq_getElem ha]
    rw [this, h]
    simp
  omega

/-- The numbers of a row of letters that are put in: each with its code point and its place. -/
def encWays : List (Int × Int) → Int → Int → Int → Int → Bool → List UInt8
  | [], _, _, _, _, _ => []
  | (m, j) :: r, bias, n, i, count, first =>
    writ ((m - n) * (count + 1) + j - (i + 1)) 0 bias ++ encWays r (after ((m - n) * (count + 1) + j - (i + 1)) (count + 1) first) m j (count + 1) false
def wayAt (l : List Int) (c : Nat) : Int × Int := (l.getD c 0, (stand l c : Int))
def plainOf (l : List Int) : List UInt8 := (l.filter fun c => decide (c < 128)).map fun c => UInt8.ofNat c.toNat
def headOf (l : List Int) : List UInt8 := plainOf l ++ if 0 < (plainOf l).length then [45] else []
/-- The code of letters. -/
def enc (l : List Int) : List UInt8 := headOf l ++ encWays ((ord l).map (wayAt l)) 72 128 (-1) (plainOf l).length true

theorem plain_ord (l : List Int) : (plainOf l).length + (ord l).length = l.length := by
  rw [ord_len]
  unfold plainOf
  rw [List.length_map]
  induction l with
  | nil => rfl
  | cons c l ih =>
    simp only [List.filter_cons]
    by_cases h : c < 128
    · rw [if_pos (by simpa using h), if_neg (by simpa using h)]; simp only [List.length_cons]; omega
    · rw [if_neg (by simpa using h), if_pos (by simp; omega)]; simp only [List.length_cons]; omega

/-- Which letters stand, when those of 'done' have been put in. -/
def flags (l : List Int) (done : List Nat) : List Bool := (List.range l.length).map fun k => decide (l.getD k 0 < 128) || decide (k ∈ done)
theorem flags_len (l : List Int) (done : List Nat) : (flags l done).length = l.length := by simp [flags]
theorem flags_at (l : List Int) (done : List Nat) (k : Nat) (h : k < l.length) : (flags l done).getD k false = (decide (l.getD k 0 < 128) || decide (k ∈ done)) := by
  simp [flags, List.getElem?_range h]
theorem flags_no (l : List Int) (done todo : List Nat) (ho : ord l = done ++ todo) (k : Nat) (h : k < l.length) (hf : (flags l done).getD k false = false) : k ∈ todo := by
  rw [flags_at l done k h] at hf
  simp only [Bool.or_eq_false_iff, decide_eq_false_iff_not] at hf
  have : k ∈ ord l := (ord_mem l k).2 ⟨h, by omega⟩
  rw [ho] at this
  rcases List.mem_append.1 this with h1 | h1
  · exact absurd h1 hf.2
  · exact h1
theorem flags_todo (l : List Int) (done todo : List Nat) (ho : ord l = done ++ todo) (k : Nat) (h : k ∈ todo) : k < l.length ∧ 128 ≤ l.getD k 0 ∧ (flags l done).getD k false = false := by
  have hm : k ∈ ord l := by rw [ho]; exact List.mem_append_right _ h
  have h1 := (ord_mem l k).1 hm
  refine ⟨h1.1, h1.2, ?_⟩
  rw [flags_at l done k h1.1]
  simp only [Bool.or_eq_false_iff, decide_eq_false_iff_not]
  refine ⟨by omega, fun hd => ?_⟩
  have hp := ord_ahead l
  rw [ho, List.pairwise_append] at hp
  have := hp.2.2 k hd k h
  unfold Ahead at this
  omega
/-- The lowest, of the same ones the left one, of those that do not stand yet: the next. -/
theorem least_is (l : List Int) (done todo : List Nat) (c0 c : Nat) (ho : ord l = done ++ c0 :: todo) (hc : c < l.length) (hf : (flags l done).getD c false = false)
    (hmin : ∀ j, j < l.length → (flags l done).getD j false = false → l.getD c 0 < l.getD j 0 ∨ (l.getD c 0 = l.getD j 0 ∧ c ≤ j)) : c = c0 := by
  have h1 := flags_no l done (c0 :: todo) ho c hc hf
  rcases List.mem_cons.1 h1 with h1 | h1
  · exact h1
  · have h2 := flags_todo l done (c0 :: todo) ho c0 (List.mem_cons_self ..)
    have h3 := hmin c0 h2.1 h2.2.2
    have hp := ord_ahead l
    rw [ho, List.pairwise_append] at hp
    have h4 := (List.pairwise_cons.1 hp.2.1).1 c h1
    unfold Ahead at h4
    omega
/-- How many stand to the left of the next. -/
theorem stand_flags (l : List Int) (done todo : List Nat) (c0 : Nat) (ho : ord l = done ++ c0 :: todo) : ((flags l done).take c0).countP id = stand l c0 := by
  have h2 := flags_todo l done (c0 :: todo) ho c0 (List.mem_cons_self ..)
  unfold stand
  have key : ∀ k, k < c0 → (flags l done).getD k false = decide (l.getD k 0 ≤ l.getD c0 0) := by
    intro k hk
    rw [flags_at l done k (by omega), Bool.eq_iff_iff]
    simp only [Bool.or_eq_true, decide_eq_true_eq]
    have hp := ord_ahead l
    rw [ho, List.pairwise_append] at hp
    constructor
    · rintro (h | h)
      · omega
      · have := hp.2.2 k h c0 (List.mem_cons_self ..)
        unfold Ahead at this; omega
    · intro h
      by_cases h1 : l.getD k 0 < 128
      · exact .inl h1
      · right
        have hm : k ∈ ord l := (ord_mem l k).2 ⟨by omega, by omega⟩
        rw [ho] at hm
        rcases List.mem_append.1 hm with hm | hm
        · exact hm
        · rcases List.mem_cons.1 hm with hm | hm
          · omega
          · have := (List.pairwise_cons.1 hp.2.1).1 k hm
            unfold Ahead at this; omega
  have e : (flags l done).take c0 = (l.take c0).map fun x => decide (x ≤ l.getD c0 0) := by
    apply List.ext_getElem
    · simp [flags_len]
    · intro k h1 h3
      have hk : k < c0 := by simp [flags_len] at h1; omega
      have := key k hk
      have hkl : k < (flags l done).length := by rw [flags_len]; omega
      have hkl2 : k < l.length := by omega
      simp only [List.getElem_take, List.getElem_map]
      simp only [List.getD_eq_getElem?_getD, List.getElem?_eq_getElem hkl, List.getElem?_eq_getElem hkl2, Option.getD_some] at this ⊢
      exact this
  rw [e, List.countP_map]
  rfl
theorem flags_step (l : List Int) (done todo : List Nat) (c0 : Nat) (ho : ord l = done ++ c0 :: todo) : (flags l done).set c0 true = flags l (done ++ [c0]) := by
  have h2 := flags_todo l done (c0 :: todo) ho c0 (List.mem_cons_self ..)
  apply List.ext_getElem
  · simp [flags_len]
  · intro k h1 h3
    simp only [List.getElem_set, flags, List.getElem_map, List.getElem_range]
    split
    · rename_i h; subst h; simp
    · rename_i h
      simp only [List.mem_append, List.mem_singleton]
      have : k ≠ c0 := fun e => h e.symm
      simp [this]
theorem flags_zero (l : List Int) : flags l [] = l.map fun c => decide (c < 128) := by
  apply List.ext_getElem
  · simp [flags_len]
  · intro k h1 h2
    have : k < l.length := by simpa using h2
    simp [flags, List.getElem?_eq_getElem this]
theorem stand_le_count (l : List Int) (done todo : List Nat) (c0 : Nat) (ho : ord l = done ++ c0 :: todo) : stand l c0 ≤ (flags l done).countP id := by
  rw [← stand_flags l done todo c0 ho]
  conv => rhs; rw [← List.take_append_drop c0 (flags l done)]
  rw [List.countP_append]; omega
end Sx
namespace Sx
theorem flags_count_n (l : List Int) : ∀ n, n ≤ (ord l).length → (flags l ((ord l).take n)).countP id = (plainOf l).length + n := by
  intro n
  induction n with
  | zero =>
    intro _
    rw [List.take_zero, flags_zero, List.countP_map]
    unfold plainOf
    rw [List.length_map, List.countP_eq_length_filter]
    rfl
  | succ n ih =>
    intro h
    have h1 : n < (ord l).length := by omega
    have ho : ord l = (ord l).take n ++ (ord l)[n] :: (ord l).drop (n + 1) := by
      rw [← List.drop_eq_getElem_cons h1, List.take_append_drop]
    have h2 := flags_todo l _ _ ho (ord l)[n] (List.mem_cons_self ..)
    rw [List.take_succ_eq_append_getElem h1, ← flags_step l _ _ _ ho]
    have hlt : (ord l)[n] < (flags l ((ord l).take n)).length := by rw [flags_len]; exact h2.1
    have hfl : (flags l ((ord l).take n))[(ord l)[n]] = false := by
      have := h2.2.2
      simpa [List.getElem?_eq_getElem hlt] using this
    have h3 := ih (by omega)
    rw [List.set_eq_take_append_cons_drop, if_pos hlt, List.countP_append, List.countP_cons]
    conv at h3 => lhs; rw [← List.take_append_drop (ord l)[n] (flags l ((ord l).take n)), List.drop_eq_getElem_cons hlt]
    rw [List.countP_append, List.countP_cons, hfl] at h3
    simp only [id, if_true, Bool.false_eq_true, if_false] at h3 ⊢
    omega
theorem flags_count (l : List Int) (done todo : List Nat) (ho : ord l = done ++ todo) : (flags l done).countP id = (plainOf l).length + done.length := by
  have := flags_count_n l done.length (by rw [ho]; simp)
  rw [ho, List.take_left] at this
  exact this
theorem stand_le_put (l : List Int) (done todo : List Nat) (c0 : Nat) (ho : ord l = done ++ c0 :: todo) : stand l c0 ≤ (plainOf l).length + done.length := by
  rw [← flags_count l done _ ho]; exact stand_le_count l done todo c0 ho

/-- The search for the next letter, k letters looked at. -/
def MinAt (l : List Int) (fl : List Bool) (k : Nat) (c : Int) : Prop :=
  (c = -1 ∧ ∀ j, j < k → fl.getD j false = true) ∨
  ∃ cn : Nat, c = cn ∧ cn < k ∧ fl.getD cn false = false ∧ ∀ j, j < k → fl.getD j false = false → l.getD cn 0 < l.getD j 0 ∨ (l.getD cn 0 = l.getD j 0 ∧ cn ≤ j)
theorem MinAt.zero (l : List Int) (fl : List Bool) : MinAt l fl 0 (-1) := .inl ⟨rfl, fun j h => by omega⟩
theorem MinAt.skip {l : List Int} {fl : List Bool} {k : Nat} {c : Int} (h : MinAt l fl k c) (hf : fl.getD k false = true) : MinAt l fl (k + 1) c := by
  rcases h with ⟨rfl, h⟩ | ⟨cn, rfl, h1, h2, h3⟩
  · exact .inl ⟨rfl, fun j hj => by rcases Nat.lt_or_ge j k with h4 | h4; exact h j h4; rw [show j = k from by omega]; exact hf⟩
  · refine .inr ⟨cn, rfl, by omega, h2, fun j hj hj2 => ?_⟩
    rcases Nat.lt_or_ge j k with h4 | h4
    · exact h3 j h4 hj2
    · rw [show j = k from by omega, hf] at hj2; cases hj2
theorem MinAt.first {l : List Int} {fl : List Bool} {k : Nat} {c : Int} (h : MinAt l fl k c) (hc : c < 0) (hf : fl.getD k false = false) : MinAt l fl (k + 1) k := by
  rcases h with ⟨rfl, h⟩ | ⟨cn, rfl, h1, h2, h3⟩
  · refine .inr ⟨k, rfl, by omega, hf, fun j hj hj2 => ?_⟩
    rcases Nat.lt_or_ge j k with h4 | h4
    · rw [h j h4] at hj2; cases hj2
    · rw [show j = k from by omega]; exact .inr ⟨rfl, Nat.le_refl _⟩
  · omega
theorem MinAt.less {l : List Int} {fl : List Bool} {k cn : Nat} (h : MinAt l fl k cn) (hf : fl.getD k false = false) (hl : l.getD k 0 < l.getD cn 0) : MinAt l fl (k + 1) k := by
  rcases h with ⟨h, _⟩ | ⟨cn', h0, h1, h2, h3⟩
  · omega
  · have : cn' = cn := by omega
    subst this
    refine .inr ⟨k, rfl, by omega, hf, fun j hj hj2 => ?_⟩
    rcases Nat.lt_or_ge j k with h4 | h4
    · have := h3 j h4 hj2; omega
    · rw [show j = k from by omega]; exact .inr ⟨rfl, Nat.le_refl _⟩
theorem MinAt.keep {l : List Int} {fl : List Bool} {k cn : Nat} (h : MinAt l fl k cn) (hl : ¬ l.getD k 0 < l.getD cn 0) : MinAt l fl (k + 1) cn := by
  rcases h with ⟨h, _⟩ | ⟨cn', h0, h1, h2, h3⟩
  · omega
  · have : cn' = cn := by omega
    subst this
    refine .inr ⟨cn', rfl, by omega, h2, fun j hj hj2 => ?_⟩
    rcases Nat.lt_or_ge j k with h4 | h4
    · exact h3 j h4 hj2
    · rw [show j = k from by omega]; omega
theorem MinAt.done {l : List Int} {done todo : List Nat} {c0 : Nat} {c : Int} (ho : ord l = done ++ c0 :: todo) (h : MinAt l (flags l done) l.length c) : c = c0 := by
  have h2 := flags_todo l done (c0 :: todo) ho c0 (List.mem_cons_self ..)
  rcases h with ⟨rfl, h⟩ | ⟨cn, rfl, h1, h3, h4⟩
  · rw [h c0 h2.1] at h2; cases h2.2.2
  · rw [least_is l done todo c0 cn ho h1 h3 h4]
theorem MinAt.nat {l : List Int} {fl : List Bool} {k : Nat} {c : Int} (h : MinAt l fl k c) (hc : ¬ c < 0) : ∃ cn : Nat, c = cn ∧ cn < k := by
  rcases h with ⟨rfl, _⟩ | ⟨cn, rfl, h1, _⟩
  · omega
  · exact ⟨cn, rfl, h1⟩
theorem MinAt.lo {l : List Int} {fl : List Bool} {k : Nat} {c : Int} (h : MinAt l fl k c) : -1 ≤ c ∧ c < k ∨ c = -1 := by
  rcases h with ⟨rfl, _⟩ | ⟨cn, rfl, h1, _⟩
  · exact .inr rfl
  · exact .inl (by omega)

/-- What is said of the letters that are still to come. -/
def Later (l : List Int) (todo : List Nat) (n i : Int) : Prop := ∀ c ∈ todo, n < l.getD c 0 ∨ (n = l.getD c 0 ∧ i + 1 ≤ (stand l c : Int))
theorem later_start (l : List Int) : Later l (ord l) 128 (-1) := fun c hc => by
  have := ((ord_mem l c).1 hc).2
  omega
theorem later_step (l : List Int) (done todo : List Nat) (c0 : Nat) (ho : ord l = done ++ c0 :: todo) : Later l todo (l.getD c0 0) (stand l c0) := fun c hc => by
  have hp := ord_ahead l
  rw [ho, List.pairwise_append] at hp
  have h4 := (List.pairwise_cons.1 hp.2.1).1 c hc
  have h2 := flags_todo l done (c0 :: todo) ho c (List.mem_cons_of_mem _ hc)
  rcases h4 with h4 | h4
  · exact .inl h4
  · have := stand_same l c0 c h4.2 h2.1 h4.1
    exact .inr ⟨h4.1, by omega⟩
theorem passed_nn (m n j i count : Int) (h : n < m ∨ (n = m ∧ i + 1 ≤ j)) (hi : i ≤ count) (hj : 0 ≤ j) (hc : 0 ≤ count) : 0 ≤ (m - n) * (count + 1) + j - (i + 1) := by
  rcases h with h | ⟨h, h2⟩
  · have : 1 * (count + 1) ≤ (m - n) * (count + 1) := Int.mul_le_mul_of_nonneg_right (by omega) (by omega)
    omega
  · rw [h]; simp; omega
theorem passed_le (m n j i count : Int) (hm : m ≤ 1114111) (hn : 128 ≤ n) (hi : -1 ≤ i) (hj : j ≤ 100) (hc : 0 ≤ count) (hc2 : count ≤ 100) : (m - n) * (count + 1) ≤ 1113983 * 101 ∧ (m - n) * (count + 1) + j - (i + 1) ≤ 113000000 := by
  by_cases h : 0 ≤ m - n
  · have h1 : (m - n) * (count + 1) ≤ 1113983 * (count + 1) := Int.mul_le_mul_of_nonneg_right (by omega) (by omega)
    omega
  · have h1 : (m - n) * (count + 1) ≤ 0 := by
      have := Int.mul_le_mul_of_nonneg_right (show m - n ≤ 0 by omega) (show 0 ≤ count + 1 by omega)
      simpa using this
    omega
end Sx
namespace Sx
theorem writF_len : ∀ (f : Nat) (d k bias : Int), (writF f d k bias).length ≤ f + 1 := by
  intro f
  induction f with
  | zero => intro d k bias; simp [writF]
  | succ f ih =>
    intro d k bias
    simp only [writF]
    split
    · have := ih ((d - thr k bias) / (36 - thr k bias)) (k + 1) bias; simp only [List.length_cons]; omega
    · simp
theorem writ_len (d k bias : Int) (h : d ≤ 113000000) : (writ d k bias).length ≤ 113000001 := by
  have := writF_len d.toNat d k bias
  unfold writ; omega
theorem head_len (l : List Int) (h : l.length ≤ 100) : (headOf l).length ≤ 101 := by
  have := plain_ord l
  unfold headOf
  split <;> simp <;> omega
end Sx
