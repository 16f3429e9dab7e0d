/- Plain mathematics of codes: thresholds, digits, numbers, the bias. It imports nothing of the translation. -/
namespace Sx

/-- The threshold of the digit number k. -/
def thr (k bias : Int) : Int :=
  if 36 * (k + 1) - bias < 1 then 1 else if 26 < 36 * (k + 1) - bias then 26 else 36 * (k + 1) - bias

theorem thr_lo (k bias : Int) : 1 ≤ thr k bias := by unfold thr; split <;> (try split) <;> omega
theorem thr_hi (k bias : Int) : thr k bias ≤ 26 := by unfold thr; split <;> (try split) <;> omega

/-- A digit's byte. -/
def dig (x : Int) : UInt8 := if x < 26 then UInt8.ofNat (97 + x.toNat) else UInt8.ofNat (22 + x.toNat)

/-- A number's digits, the lowest first; 'f': how many more there may be. -/
def writF : Nat → Int → Int → Int → List UInt8
  | 0, d, _, _ => [dig d]
  | f + 1, d, k, bias =>
    if thr k bias ≤ d then dig (thr k bias + (d - thr k bias) % (36 - thr k bias)) :: writF f ((d - thr k bias) / (36 - thr k bias)) (k + 1) bias
    else [dig d]

def writ (d k bias : Int) : List UInt8 := writF d.toNat d k bias

theorem step_lt (d t : Int) (h1 : 1 ≤ t) (h2 : t ≤ 26) (h : t ≤ d) : 0 ≤ (d - t) / (36 - t) ∧ (d - t) / (36 - t) < d := by
  have hp : 0 < 36 - t := by omega
  refine ⟨Int.ediv_nonneg (by omega) (by omega), ?_⟩
  have : (d - t) / (36 - t) ≤ d - t := Int.ediv_le_self _ (by omega)
  omega

theorem writF_fuel : ∀ (f g : Nat) (d k bias : Int), 0 ≤ d → d.toNat ≤ f → d.toNat ≤ g → writF f d k bias = writF g d k bias := by
  intro f
  induction f with
  | zero =>
    intro g d k bias h0 hf hg
    have hd : d = 0 := by omega
    subst hd
    cases g with
    | zero => rfl
    | succ g =>
      have := thr_lo k bias
      simp only [writF]; rw [if_neg (by omega)]
  | succ f ih =>
    intro g d k bias h0 hf hg
    have h1 := thr_lo k bias
    have h2 := thr_hi k bias
    cases g with
    | zero =>
      have hd : d = 0 := by omega
      subst hd
      simp only [writF]; rw [if_neg (by omega)]
    | succ g =>
      simp only [writF]
      by_cases h : thr k bias ≤ d
      · have hs := step_lt d _ h1 h2 h
        rw [if_pos h, if_pos h, ih g _ _ _ hs.1 (by omega) (by omega)]
      · rw [if_neg h, if_neg h]

theorem writ_more (d k bias : Int) (h0 : 0 ≤ d) (h : thr k bias ≤ d) :
    writ d k bias = dig (thr k bias + (d - thr k bias) % (36 - thr k bias)) :: writ ((d - thr k bias) / (36 - thr k bias)) (k + 1) bias := by
  have h1 := thr_lo k bias
  have h2 := thr_hi k bias
  have hs := step_lt d _ h1 h2 h
  unfold writ
  obtain ⟨m, hm⟩ : ∃ m, d.toNat = m + 1 := ⟨d.toNat - 1, by omega⟩
  rw [hm]
  simp only [writF]
  rw [if_pos h, writF_fuel m _ _ _ _ hs.1 (by omega) (Nat.le_refl _)]

theorem writ_last (d k bias : Int) (h : ¬ thr k bias ≤ d) : writ d k bias = [dig d] := by
  unfold writ
  cases hd : d.toNat with
  | zero => rfl
  | succ m => simp only [writF]; rw [if_neg h]

/-- The bias: what is counted while d is above 455. -/
def biasF : Nat → Int → Int → Int
  | 0, d, n => n + 36 * d / (d + 38)
  | f + 1, d, n => if 455 < d then biasF f (d / 35) (n + 36) else n + 36 * d / (d + 38)
def biasL (d n : Int) : Int := biasF d.toNat d n

theorem biasF_fuel : ∀ (f g : Nat) (d n : Int), 0 ≤ d → d.toNat ≤ f → d.toNat ≤ g → biasF f d n = biasF g d n := by
  intro f
  induction f with
  | zero =>
    intro g d n h0 hf hg
    cases g with
    | zero => rfl
    | succ g => simp only [biasF]; rw [if_neg (by omega)]
  | succ f ih =>
    intro g d n h0 hf hg
    cases g with
    | zero => simp only [biasF]; rw [if_neg (by omega)]
    | succ g =>
      simp only [biasF]
      by_cases h : 455 < d
      · rw [if_pos h, if_pos h, ih g _ _ (by omega) (by omega) (by omega)]
      · rw [if_neg h, if_neg h]

theorem biasL_more (d n : Int) (h : 455 < d) : biasL d n = biasL (d / 35) (n + 36) := by
  unfold biasL
  obtain ⟨m, hm⟩ : ∃ m, d.toNat = m + 1 := ⟨d.toNat - 1, by omega⟩
  rw [hm]; simp only [biasF]
  rw [if_pos h, biasF_fuel m _ _ _ (by omega) (by omega) (Nat.le_refl _)]
theorem biasL_last (d n : Int) (h : ¬ 455 < d) : biasL d n = n + 36 * d / (d + 38) := by
  unfold biasL
  cases hd : d.toNat with
  | zero => rfl
  | succ m => simp only [biasF]; rw [if_neg h]

/-- BIAS behind a number. -/
def bias1 (d letters : Int) : Int := biasL (d + d / letters) 0
def after (d letters : Int) (first : Bool) : Int := if first then bias1 (d / 700) letters else bias1 (d / 2) letters

/-- How great the bias can get. -/
theorem biasF_bd : ∀ (f : Nat) (d n : Int), 0 ≤ d → 0 ≤ n → n ≤ biasF f d n ∧ (d ≤ 455 * 35 * 35 * 35 * 35 → d.toNat ≤ f → biasF f d n ≤ n + 180) := by
  intro f
  have last : ∀ d n : Int, 0 ≤ d → n ≤ n + 36 * d / (d + 38) ∧ n + 36 * d / (d + 38) ≤ n + 36 := by
    intro d n h0
    have hp : 0 < d + 38 := by omega
    have h1 : 0 ≤ 36 * d / (d + 38) := Int.ediv_nonneg (by omega) (by omega)
    have h2 : 36 * d / (d + 38) < 37 := Int.ediv_lt_of_lt_mul hp (by omega)
    omega
  intro d n h0 hn
  refine ⟨?_, ?_⟩
  · induction f generalizing d n with
    | zero => exact (last d n h0).1
    | succ f ih =>
      simp only [biasF]
      split
      · have := ih (d / 35) (n + 36) (by omega) (by omega); omega
      · exact (last d n h0).1
  · intro hd hf
    -- at most four rounds
    have key : ∀ (r : Nat) (f : Nat) (d n : Int), 0 ≤ d → d ≤ 455 * (35 : Int) ^ r → d.toNat ≤ f → biasF f d n ≤ n + 36 * r + 36 := by
      intro r
      induction r with
      | zero =>
        intro f d n h0 hd hf
        cases f with
        | zero => have := (last d n h0).2; simp only [biasF]; omega
        | succ f => simp only [biasF]; rw [if_neg (by simp at hd; omega)]; have := (last d n h0).2; omega
      | succ r ih =>
        intro f d n h0 hd hf
        have l2 := (last d n h0).2
        cases f with
        | zero => simp only [biasF]; omega
        | succ f =>
          simp only [biasF]
          split
          · have h5 : d / 35 ≤ 455 * (35 : Int) ^ r := by
              rw [Int.pow_succ] at hd
              generalize (35 : Int) ^ r = p at *
              omega
            have := ih f (d / 35) (n + 36) (by omega) h5 (by omega)
            omega
          · omega
    have := key 4 f d n h0 (by simpa using hd) hf
    omega

theorem after_bd (d letters : Int) (first : Bool) (h0 : 0 ≤ d) (h1 : d ≤ 200000000) (hl : 1 ≤ letters) : 0 ≤ after d letters first ∧ after d letters first ≤ 180 := by
  have hh : ∀ x : Int, 0 ≤ x → x ≤ 100000000 → 0 ≤ bias1 x letters ∧ bias1 x letters ≤ 180 := by
    intro x hx hx2
    have g1 : 0 ≤ x / letters := Int.ediv_nonneg hx (by omega)
    have g2 : x / letters ≤ x := Int.ediv_le_self _ hx
    unfold bias1 biasL
    have := biasF_bd (x + x / letters).toNat (x + x / letters) 0 (by omega) (by omega)
    have h3 := this.2 (by omega) (Nat.le_refl _)
    omega
  unfold after
  split
  · exact hh _ (by omega) (by omega)
  · exact hh _ (by omega) (by omega)


/-- A digit's value; -1: it is none. -/
def valOf (c : UInt8) : Int := if 97 ≤ c.toNat ∧ c.toNat ≤ 122 then (c.toNat : Int) - 97 else if 48 ≤ c.toNat ∧ c.toNat ≤ 57 then (c.toNat : Int) - 22 else -1
theorem valOf_dig (x : Nat) (h : x < 36) : valOf (dig x) = x := by
  have k : ∀ x : Fin 36, valOf (dig (x.val : Int)) = (x.val : Int) := by decide
  exact k ⟨x, h⟩
theorem valOf_none (c : UInt8) (h : ∀ j : Nat, j < 36 → dig j ≠ c) : valOf c = -1 := by
  have k : ∀ n : Fin 256, (∃ j : Fin 36, dig (j.val : Int) = UInt8.ofNat n.val) ∨ valOf (UInt8.ofNat n.val) = -1 := by decide +kernel
  have hc := c.toNat_lt
  have := k ⟨c.toNat, hc⟩
  simp only [UInt8.ofNat_toNat] at this
  rcases this with ⟨j, hj⟩ | this
  · exact absurd hj (h j.val j.isLt)
  · exact this
theorem valOf_bd (c : UInt8) : -1 ≤ valOf c ∧ valOf c < 36 := by unfold valOf; split <;> (try split) <;> omega

end Sx
namespace Sx
/-- One letter in UTF-8. -/
def utf (c : Int) : List UInt8 :=
  if c < 128 then [UInt8.ofNat c.toNat]
  else if c < 2048 then [UInt8.ofNat (192 + c / 64).toNat, UInt8.ofNat (128 + c % 64).toNat]
  else if c < 65536 then [UInt8.ofNat (224 + c / 4096).toNat, UInt8.ofNat (128 + c / 64 % 64).toNat, UInt8.ofNat (128 + c % 64).toNat]
  else [UInt8.ofNat (240 + c / 262144).toNat, UInt8.ofNat (128 + c / 4096 % 64).toNat, UInt8.ofNat (128 + c / 64 % 64).toNat, UInt8.ofNat (128 + c % 64).toNat]
def text (l : List Int) : List UInt8 := l.flatMap utf
theorem text_snoc (l : List Int) (c : Int) : text (l ++ [c]) = text l ++ utf c := by simp [text]
theorem utf_len (c : Int) : (utf c).length ≤ 4 := by unfold utf; repeat' split
                                                     all_goals simp
theorem text_len (l : List Int) : (text l).length ≤ 4 * l.length := by
  induction l with
  | nil => simp [text]
  | cons c l ih => have := utf_len c; simp only [text, List.flatMap_cons, List.length_append, List.length_cons] at *; omega
theorem take_snoc (l : List Int) (k : Nat) (h : k < l.length) : l.take (k + 1) = l.take k ++ [l[k]] := List.take_succ_eq_append_getElem h
end Sx
namespace Sx
/-- The letters of UTF-8: what follows the first byte. -/
def contF : Nat → Int → List UInt8 → Option (Int × List UInt8)
  | 0, c, s => some (c, s)
  | _ + 1, _, [] => none
  | m + 1, c, x :: s => if 128 ≤ x.toNat ∧ x.toNat < 192 then contF m (c * 64 + x.toNat - 128) s else none
/-- What a first byte says: how many follow, the number so far, the least that may come out. -/
def lead (x : UInt8) : Option (Nat × Int × Int) :=
  if x.toNat < 128 then some (0, x.toNat, 0)
  else if 192 ≤ x.toNat ∧ x.toNat < 224 then some (1, (x.toNat : Int) - 192, 128)
  else if 224 ≤ x.toNat ∧ x.toNat < 240 then some (2, (x.toNat : Int) - 224, 2048)
  else if 240 ≤ x.toNat ∧ x.toNat < 248 then some (3, (x.toNat : Int) - 240, 65536)
  else none
def bad (c least : Int) : Prop := c < least ∨ 1114111 < c ∨ (55296 ≤ c ∧ c ≤ 57343)
def rest (m : Nat) (c least : Int) (s : List UInt8) : Option (Int × List UInt8) :=
  match contF m c s with
  | none => none
  | some (c', s') => if c' < least ∨ 1114111 < c' ∨ (55296 ≤ c' ∧ c' ≤ 57343) then none else some (c', s')
def one : List UInt8 → Option (Int × List UInt8)
  | [] => none
  | x :: r => match lead x with
    | none => none
    | some (m, c, least) => rest m c least r
def letF : Nat → List UInt8 → Option (List Int)
  | _, [] => some []
  | 0, _ :: _ => none
  | f + 1, x :: s => match one (x :: s) with
    | none => none
    | some (c, r) => (letF f r).map (c :: ·)
def letters (s : List UInt8) : Option (List Int) := letF s.length s

theorem contF_len : ∀ (m : Nat) (c : Int) (s : List UInt8) (c' : Int) (s' : List UInt8), contF m c s = some (c', s') → s'.length + m = s.length := by
  intro m
  induction m with
  | zero => intro c s c' s' h; simp only [contF, Option.some.injEq, Prod.mk.injEq] at h; rw [h.2]; rfl
  | succ m ih =>
    intro c s c' s' h
    cases s with
    | nil => simp [contF] at h
    | cons x s =>
      simp only [contF] at h
      split at h
      · have := ih _ _ _ _ h; simp only [List.length_cons]; omega
      · simp at h
theorem one_len (x : UInt8) (s : List UInt8) (c : Int) (r : List UInt8) (h : one (x :: s) = some (c, r)) : r.length ≤ s.length := by
  simp only [one] at h
  split at h
  · simp at h
  · rename_i m c0 least _
    unfold rest at h
    split at h
    · simp at h
    · rename_i c' s' hc
      split at h
      · simp at h
      · simp only [Option.some.injEq, Prod.mk.injEq] at h
        have := contF_len _ _ _ _ _ hc
        rw [← h.2]; omega
theorem letF_fuel : ∀ (f g : Nat) (s : List UInt8), s.length ≤ f → s.length ≤ g → letF f s = letF g s := by
  intro f
  induction f with
  | zero => intro g s hf hg; cases s with
    | nil => cases g <;> rfl
    | cons x s => simp at hf
  | succ f ih =>
    intro g s hf hg
    cases s with
    | nil => cases g <;> rfl
    | cons x s =>
      cases g with
      | zero => simp at hg
      | succ g =>
        simp only [letF]
        cases h : one (x :: s) with
        | none => rfl
        | some p =>
          obtain ⟨c, r⟩ := p
          have := one_len _ _ _ _ h
          simp only [List.length_cons] at hf hg
          simp only [ih g r (by omega) (by omega)]
theorem letters_nil : letters [] = some [] := rfl
theorem letters_none (s : List UInt8) (hs : s ≠ []) (h : one s = none) : letters s = none := by
  cases s with
  | nil => exact absurd rfl hs
  | cons x s => simp only [letters, List.length_cons, letF, h]
theorem letters_some (s : List UInt8) (c : Int) (r : List UInt8) (h : one s = some (c, r)) : letters s = (letters r).map (c :: ·) := by
  cases s with
  | nil => simp [one] at h
  | cons x s =>
    have hl := one_len _ _ _ _ h
    simp only [letters, List.length_cons, letF, h]
    rw [letF_fuel s.length r.length r hl (Nat.le_refl _)]
/-- How great a number can get behind j bytes. -/
def cb (j : Nat) : Int := 256 * 64 ^ j - 1
theorem cb_step (c : Int) (j : Nat) (x : Int) (h : c ≤ cb j) (hx : x < 192) : c * 64 + x - 128 ≤ cb (j + 1) := by
  unfold cb at *
  rw [Int.pow_succ]
  generalize (64 : Int) ^ j = p at *
  omega
theorem cb_le (j : Nat) (h : j ≤ 3) : cb j ≤ 67108863 := by
  have : j = 0 ∨ j = 1 ∨ j = 2 ∨ j = 3 := by omega
  rcases this with rfl | rfl | rfl | rfl <;> decide
theorem drop_get (s : List UInt8) (i : Nat) (h : i < s.length) : s.drop i = s[i] :: s.drop (i + 1) := List.drop_eq_getElem_cons h
theorem contF_yes (m : Nat) (c : Int) (s : List UInt8) (i : Nat) (h : i < s.length) (h1 : 128 ≤ s[i].toNat) (h2 : s[i].toNat < 192) : contF (m + 1) c (s.drop i) = contF m (c * 64 + s[i].toNat - 128) (s.drop (i + 1)) := by
  rw [drop_get s i h]; simp only [contF]; rw [if_pos ⟨h1, h2⟩]
theorem contF_no (m : Nat) (c : Int) (s : List UInt8) (i : Nat) (h : i < s.length) (h1 : ¬ (128 ≤ s[i].toNat ∧ s[i].toNat < 192)) : contF (m + 1) c (s.drop i) = none := by
  rw [drop_get s i h]; simp only [contF]; rw [if_neg h1]
theorem contF_end (m : Nat) (c : Int) (s : List UInt8) (i : Nat) (h : s.length ≤ i) : contF (m + 1) c (s.drop i) = none := by
  rw [List.drop_eq_nil_of_le h]; rfl
theorem one_at (s : List UInt8) (i : Nat) (h : i < s.length) (m : Nat) (c least : Int) (hl : lead s[i] = some (m, c, least)) : one (s.drop i) = rest m c least (s.drop (i + 1)) := by
  rw [drop_get s i h]; simp only [one, hl]
theorem one_bad (s : List UInt8) (i : Nat) (h : i < s.length) (hl : lead s[i] = none) : one (s.drop i) = none := by
  rw [drop_get s i h]; simp only [one, hl]
theorem rest_none (m : Nat) (c least : Int) (s : List UInt8) (h : contF m c s = none) : rest m c least s = none := by unfold rest; rw [h]
theorem rest_bad (m : Nat) (c least : Int) (s : List UInt8) (c' : Int) (s' : List UInt8) (h : contF m c s = some (c', s')) (hb : c' < least ∨ 1114111 < c' ∨ (55296 ≤ c' ∧ c' ≤ 57343)) : rest m c least s = none := by
  unfold rest; rw [h]; simp only; rw [if_pos hb]
theorem rest_ok (m : Nat) (c least : Int) (s : List UInt8) (c' : Int) (s' : List UInt8) (h : contF m c s = some (c', s')) (hb : ¬ (c' < least ∨ 1114111 < c' ∨ (55296 ≤ c' ∧ c' ≤ 57343))) : rest m c least s = some (c', s') := by
  unfold rest; rw [h]; simp only; rw [if_neg hb]
end Sx
