import Derived.Test.YtgohllfpceeboaaGreatDoorInaa
/- Plain mathematics of codes: reading them. -/
namespace Sx
def dashTo (s : List UInt8) : Nat → Int
 | 0 => -1
 | k + 1 => if s.getD k 0 = 45 then (k : Int) else dashTo s k
def dash (s : List UInt8) : Int := dashTo s s.length
theorem dashTo_bd (s : List UInt8) : ∀ k : Nat, -1 ≤ dashTo s k ∧ dashTo s k < k := by
 intro k
 induction k with
 | zero => simp [dashTo]
 | succ k ih => simp only [dashTo]; split <;> omega
def numF (bias : Int) : Int → Int → Nat → List UInt8 → Option (Int × List UInt8)
 | _, _, _, [] => none
 | d, w, k, x :: s =>
   if 7 < k then none
   else if valOf x < 0 then none
   else if valOf x < thr k bias then some (d + valOf x * w, s)
   else numF bias (d + valOf x * w) (w * (36 - thr k bias)) (k + 1) s
theorem numF_len (bias : Int) : ∀ (s : List UInt8) (d w : Int) (k : Nat) (d' : Int) (s' : List UInt8), numF bias d w k s = some (d', s') → s'.length < s.length := by
 intro s
 induction s with
 | nil => intro d w k d' s' h; simp [numF] at h
 | cons x s ih =>
   intro d w k d' s' h
   simp only [numF] at h
   split at h
   · simp at h
   · split at h
     · simp at h
     · split at h
       · simp only [Option.some.injEq, Prod.mk.injEq] at h; rw [← h.2]; simp
       · have := ih _ _ _ _ _ h; simp; omega
def putIn (l : List Int) (i n : Int) : List Int := l.take i.toNat ++ (n :: l.drop i.toNat)
theorem putIn_len (l : List Int) (i n : Int) : (putIn l i n).length = l.length + 1 := by
 unfold putIn
 simp only [List.length_append, List.length_take, List.length_cons, List.length_drop]
 omega
def decF : Nat → List Int → Int → Int → Int → Bool → List UInt8 → Option (List Int)
 | _, l, _, _, _, _, [] => some l
 | 0, _, _, _, _, _, _ :: _ => none
 | f + 1, l, bias, n, i, first, x :: s =>
   match numF bias 0 1 0 (x :: s) with
   | none => none
   | some (d, s') =>
     if 1114111 < n + (i + d) / ((l.length : Int) + 1) ∨ (55296 ≤ n + (i + d) / ((l.length : Int) + 1) ∧ n + (i + d) / ((l.length : Int) + 1) ≤ 57343) then none
     else decF f (putIn l ((i + d) % ((l.length : Int) + 1)) (n + (i + d) / ((l.length : Int) + 1))) (after d ((l.length : Int) + 1) first) (n + (i + d) / ((l.length : Int) + 1)) ((i + d) % ((l.length : Int) + 1) + 1) false s'
def decL (l : List Int) (bias n i : Int) (first : Bool) (s : List UInt8) : Option (List Int) := decF s.length l bias n i first s
theorem decF_fuel : ∀ (f g : Nat) (l : List Int) (bias n i : Int) (first : Bool) (s : List UInt8), s.length ≤ f → s.length ≤ g → decF f l bias n i first s = decF g l bias n i first s := by
 intro f
 induction f with
 | zero =>
   intro g l bias n i first s hf hg
   cases s with
   | nil => cases g <;> rfl
   | cons x s => simp at hf
 | succ f ih =>
   intro g l bias n i first s hf hg
   cases s with
   | nil => cases g <;> rfl
   | cons x s =>
     cases g with
     | zero => simp at hg
     | succ g =>
       simp only [decF]
       cases h : numF bias 0 1 0 (x :: s) with
       | none => rfl
       | some p =>
         obtain ⟨d, s'⟩ := p
         have := numF_len _ _ _ _ _ _ _ h
         simp only [List.length_cons] at hf hg this
         simp only
         split
         · rfl
         · exact ih g _ _ _ _ _ _ (by omega) (by omega)
theorem decL_nil (l : List Int) (bias n i : Int) (first : Bool) : decL l bias n i first [] = some l := rfl
theorem decL_no (l : List Int) (bias n i : Int) (first : Bool) (s : List UInt8) (hs : s ≠ []) (h : numF bias 0 1 0 s = none) : decL l bias n i first s = none := by
 cases s with
 | nil => exact absurd rfl hs
 | cons x s => simp only [decL, List.length_cons, decF, h]
theorem decL_bad (l : List Int) (bias n i : Int) (first : Bool) (s : List UInt8) (d : Int) (s' : List UInt8) (h : numF bias 0 1 0 s = some (d, s'))
 (hb : 1114111 < n + (i + d) / ((l.length : Int) + 1) ∨ (55296 ≤ n + (i + d) / ((l.length : Int) + 1) ∧ n + (i + d) / ((l.length : Int) + 1) ≤ 57343)) : decL l bias n i first s = none := by
 cases s with
 | nil => simp [numF] at h
 | cons x s => simp only [decL, List.length_cons, decF, h]; rw [if_pos hb]
theorem decL_more (l : List Int) (bias n i : Int) (first : Bool) (s : List UInt8) (d : Int) (s' : List UInt8) (h : numF bias 0 1 0 s = some (d, s'))
 (hb : ¬ (1114111 < n + (i + d) / ((l.length : Int) + 1) ∨ (55296 ≤ n + (i + d) / ((l.length : Int) + 1) ∧ n + (i + d) / ((l.length : Int) + 1) ≤ 57343))) :
 decL l bias n i first s = decL (putIn l ((i + d) % ((l.length : Int) + 1)) (n + (i + d) / ((l.length : Int) + 1))) (after d ((l.length : Int) + 1) first) (n + (i + d) / ((l.length : Int) + 1)) ((i + d) % ((l.length : Int) + 1) + 1) false s' := by
 cases s with
 | nil => simp [numF] at h
 | cons x s =>
   have hl := numF_len _ _ _ _ _ _ _ h
   simp only [List.length_cons] at hl
   simp only [decL, List.length_cons, decF, h]
   rw [if_neg hb, decF_fuel s.length s'.length _ _ _ _ _ _ (by omega) (Nat.le_refl _)]
def dec (s : List UInt8) : Option (List Int) :=
 if (s.length : Int) ≤ dash s + 1 then none
 else decL ((s.take (dash s).toNat).map fun c => (c.toNat : Int)) 72 128 0 true (s.drop (dash s + 1).toNat)
theorem numF_end (bias d w : Int) (k : Nat) (s : List UInt8) (p : Nat) (h : s.length ≤ p) : numF bias d w k (s.drop p) = none := by
 rw [List.drop_eq_nil_of_le h]; rfl
theorem numF_many (bias d w : Int) (k : Nat) (s : List UInt8) (p : Nat) (h : p < s.length) (hk : 7 < k) : numF bias d w k (s.drop p) = none := by
 rw [drop_get s p h]; simp only [numF]; rw [if_pos hk]
theorem numF_val (bias d w : Int) (k : Nat) (s : List UInt8) (p : Nat) (h : p < s.length) (hv : valOf s[p] < 0) : numF bias d w k (s.drop p) = none := by
 rw [drop_get s p h]; simp only [numF]; rw [if_pos hv]; split <;> rfl
theorem numF_last (bias d w : Int) (k : Nat) (s : List UInt8) (p : Nat) (h : p < s.length) (hk : ¬ 7 < k) (hv : ¬ valOf s[p] < 0) (ht : valOf s[p] < thr k bias) : numF bias d w k (s.drop p) = some (d + valOf s[p] * w, s.drop (p + 1)) := by
 rw [drop_get s p h]; simp only [numF]; rw [if_neg hk, if_neg hv, if_pos ht]
theorem numF_more (bias d w : Int) (k : Nat) (s : List UInt8) (p : Nat) (h : p < s.length) (hk : ¬ 7 < k) (hv : ¬ valOf s[p] < 0) (ht : ¬ valOf s[p] < thr k bias) : numF bias d w k (s.drop p) = numF bias (d + valOf s[p] * w) (w * (36 - thr k bias)) (k + 1) (s.drop (p + 1)) := by
 rw [drop_get s p h]; conv => lhs; simp only [numF]
 rw [if_neg hk, if_neg hv, if_neg ht]
def Wt (d w : Int) (k : Nat) : Prop := 0 ≤ d ∧ d < 36 ^ k ∧ 1 ≤ w ∧ w ≤ 36 ^ k
theorem Wt.zero : Wt 0 1 0 := by unfold Wt; simp
theorem Wt.put {d w : Int} {k : Nat} (h : Wt d w k) (v : Int) (h0 : 0 ≤ v) (h1 : v < 36) : 0 ≤ v * w ∧ d + v * w < 36 ^ (k + 1) := by
 obtain ⟨a, b, c, e⟩ := h
 have h2 : v * w ≤ 35 * w := Int.mul_le_mul_of_nonneg_right (by omega) (by omega)
 have h3 : 0 ≤ v * w := Int.mul_nonneg h0 (by omega)
 rw [Int.pow_succ]
 refine ⟨h3, ?_⟩
 generalize (36 : Int) ^ k = p at *
 omega
theorem Wt.step {d w : Int} {k : Nat} (h : Wt d w k) (v t : Int) (h0 : 0 ≤ v) (h1 : v < 36) (ht : 1 ≤ t) (ht2 : t ≤ 26) : Wt (d + v * w) (w * (36 - t)) (k + 1) := by
 have hp := h.put v h0 h1
 obtain ⟨a, b, c, e⟩ := h
 refine ⟨by omega, hp.2, ?_, ?_⟩
 · have : w * 1 ≤ w * (36 - t) := Int.mul_le_mul_of_nonneg_left (by omega) (by omega)
   omega
 · have h2 : w * (36 - t) ≤ w * 36 := Int.mul_le_mul_of_nonneg_left (by omega) (by omega)
   rw [Int.pow_succ]
   generalize (36 : Int) ^ k = p at *
   omega
theorem pow36 (k : Nat) (hk : k ≤ 8) : (36 : Int) ^ k ≤ 2821109907456 := by
 have : k = 0 ∨ k = 1 ∨ k = 2 ∨ k = 3 ∨ k = 4 ∨ k = 5 ∨ k = 6 ∨ k = 7 ∨ k = 8 := by omega
 rcases this with rfl | rfl | rfl | rfl | rfl | rfl | rfl | rfl | rfl <;> decide
theorem Wt.bd {d w : Int} {k : Nat} (h : Wt d w k) (hk : k ≤ 8) : 0 ≤ d ∧ d ≤ 2821109907455 ∧ 1 ≤ w ∧ w ≤ 2821109907456 := by
 obtain ⟨a, b, c, e⟩ := h
 have := pow36 k hk
 omega
theorem pow8 (k : Nat) (hk : k ≤ 7) : (36 : Int) ^ (k + 1) ≤ 2821109907456 := pow36 (k + 1) (by omega)
theorem ediv_bd (a b : Int) (hb : 0 < b) (hb2 : b ≤ 101) (h : a / b ≤ 1114111) : a ≤ 112525312 := by
 have h1 : a < (a / b + 1) * b := Int.lt_ediv_add_one_mul_self a hb
 have h2 : (a / b + 1) * b ≤ 1114112 * b := Int.mul_le_mul_of_nonneg_right (by omega) (by omega)
 omega
theorem dash_step (s : List UInt8) (k : Nat) (h : k < s.length) : dashTo s (k + 1) = if s[k] = 45 then (k : Int) else dashTo s k := by
 have : s.getD k 0 = s[k] := by simp [List.getElem?_eq_getElem h]
 simp only [dashTo, this]
end Sx
/- Plain mathematics of hosts: labels, hosts, their plain forms, by the document's answer. -/
namespace Sx
def lower (c : Int) : Int := if 65 ≤ c ∧ c ≤ 90 then c + 32 else c
def okL (c : Int) : Bool := decide (128 ≤ c) || decide (97 ≤ c ∧ c ≤ 122) || decide (48 ≤ c ∧ c ≤ 57) || decide (c = 45)
def xn : List UInt8 := [120, 110, 45, 45]
def codeOk (s : List UInt8) : Bool := match dec s with
 | none => false
 | some l => enc l == s
def formOk (s : List UInt8) : Bool := decide (1 ≤ s.length) && decide (s.length ≤ 20) && !(s.getD 0 0 == 45) && !(s.getD (s.length - 1) 0 == 45)
def formOf (m : List Int) : List UInt8 := if m.any (fun c => decide (128 ≤ c)) then xn ++ enc m else text m
def label (l : List Int) : Option (List UInt8) :=
 if (l.map lower).all okL then
  if formOk (formOf (l.map lower)) then
   if (!(l.map lower).any (fun c => decide (128 ≤ c))) && decide (4 ≤ (formOf (l.map lower)).length) && ((formOf (l.map lower)).take 4 == xn) then
    if codeOk ((formOf (l.map lower)).drop 4) then some (formOf (l.map lower)) else none
   else some (formOf (l.map lower))
  else none
 else none
def forE (l : List Int) : Bool := (l.map lower).any fun c => decide (128 ≤ c)
def okE (l : List Int) : Bool := (l.map lower).all okL
theorem lower_bd (c : Int) (h : 0 ≤ c) (h2 : c ≤ 1114111) : 0 ≤ lower c ∧ lower c ≤ 1114111 := by unfold lower; split <;> omega
theorem label_nil : label [] = none := by
 unfold label; simp [formOf, text, formOk]
end Sx
/- Plain mathematics of hosts: hosts, their plain and shown forms, by the document's answer. -/
namespace Sx
def hostGo : List Int → List Int → Option (List (List UInt8))
 | [], cur => match label cur with
   | none => none
   | some x => some [x]
 | c :: r, cur => if c = 46 then (match label cur with
    | none => none
    | some x => (hostGo r []).map (x :: ·)) else hostGo r (cur ++ [c])
def allLen (h : List (List UInt8)) : Nat := (h.map fun x => x.length + 1).sum
def digs (s : List UInt8) : Bool := s.all fun c => decide (48 ≤ c.toNat) && decide (c.toNat ≤ 57)
def hostEnd (h : List (List UInt8)) : List (List UInt8) × Int :=
 if digs (h.getD (h.length - 1) []) || decide (6 < h.length) || decide (61 < allLen h) then ([], 2) else (h, 0)
def host (s : List UInt8) : List (List UInt8) × Int :=
 if 60 < s.length then ([], 1)
 else match letters s with
  | none => ([], 2)
  | some l => match hostGo l [] with
    | none => ([], 2)
    | some h => hostEnd h
def dotted : List (List UInt8) → List UInt8
 | [] => []
 | x :: r => x ++ r.flatMap fun y => 46 :: y
def shownOf (x : List UInt8) : List UInt8 := if decide (4 < x.length) && (x.take 4 == xn) then text ((dec (x.drop 4)).getD []) else x
def plainR (s : List UInt8) : List UInt8 × Int := (dotted (host s).1, (host s).2)
theorem dotted_snoc (h : List (List UInt8)) (x : List UInt8) : dotted (h ++ [x]) = if h = [] then x else dotted h ++ 46 :: x := by
 cases h with
 | nil => simp [dotted]
 | cons y r => simp [dotted, List.flatMap_append]
theorem allLen_snoc (h : List (List UInt8)) (x : List UInt8) : allLen (h ++ [x]) = allLen h + (x.length + 1) := by simp [allLen]
def between (l : List Int) (f k : Nat) : List Int := (l.take k).drop f
theorem between_len (l : List Int) (f k : Nat) (h1 : f ≤ k) (h2 : k ≤ l.length) : (between l f k).length = k - f := by simp [between]; omega
theorem between_get (l : List Int) (f k j : Nat) (h2 : k ≤ l.length) (hj : j < (between l f k).length) : (between l f k)[j] = l[f + j]'(by simp [between] at hj; omega) := by
 simp [between]
theorem between_same (l : List Int) (k : Nat) : between l k k = [] := by simp [between]
theorem between_more (l : List Int) (f k : Nat) (h1 : f ≤ k) (h2 : k < l.length) : between l f (k + 1) = between l f k ++ [l[k]] := by
 unfold between
 rw [List.take_succ_eq_append_getElem h2, List.drop_append_of_le_length (by simp; omega)]
def HostAt (l : List Int) (k f : Nat) (pre : List (List UInt8)) : Prop :=
 (k ≤ l.length ∧ f ≤ k ∧ (hostGo (l.drop k) (between l f k)).map (pre ++ ·) = hostGo l []) ∨ (k = l.length + 1 ∧ hostGo l [] = some pre)
theorem HostAt.zero (l : List Int) : HostAt l 0 0 [] := .inl ⟨Nat.zero_le _, Nat.le_refl _, by simp [between]⟩
theorem HostAt.skip {l : List Int} {k f : Nat} {pre : List (List UInt8)} (h : HostAt l k f pre) (hk : k < l.length) (hc : l[k] ≠ 46) : HostAt l (k + 1) f pre := by
 rcases h with ⟨h1, h2, h3⟩ | ⟨h1, _⟩
 · refine .inl ⟨by omega, by omega, ?_⟩
   rw [← h3, List.drop_eq_getElem_cons hk, between_more l f k h2 hk]
   simp only [hostGo]; rw [if_neg hc]
 · omega
theorem HostAt.bad {l : List Int} {k f : Nat} {pre : List (List UInt8)} (h : HostAt l k f pre) (hk : k ≤ l.length) (hc : ∀ h : k < l.length, l[k] = 46) (hl : label (between l f k) = none) : hostGo l [] = none := by
 rcases h with ⟨h1, h2, h3⟩ | ⟨h1, _⟩
 · rw [← h3]
   by_cases hlt : k < l.length
   · rw [List.drop_eq_getElem_cons hlt]; simp only [hostGo]; rw [if_pos (hc hlt), hl]; rfl
   · rw [List.drop_eq_nil_of_le (by omega)]; simp only [hostGo, hl]; rfl
 · omega
theorem HostAt.more {l : List Int} {k f : Nat} {pre : List (List UInt8)} {x : List UInt8} (h : HostAt l k f pre) (hk : k ≤ l.length) (hc : ∀ h : k < l.length, l[k] = 46) (hl : label (between l f k) = some x) : HostAt l (k + 1) (k + 1) (pre ++ [x]) := by
 rcases h with ⟨h1, h2, h3⟩ | ⟨h1, _⟩
 · by_cases hlt : k < l.length
   · refine .inl ⟨by omega, Nat.le_refl _, ?_⟩
     rw [← h3, List.drop_eq_getElem_cons hlt, between_same]
     conv => rhs; simp only [hostGo]
     rw [if_pos (hc hlt), hl]
     simp only [Option.map_map]
     congr 1
     funext y; simp
   · refine .inr ⟨by omega, ?_⟩
     rw [← h3, List.drop_eq_nil_of_le (by omega)]
     simp only [hostGo, hl, Option.map_some]
 · omega
theorem HostAt.done {l : List Int} {k f : Nat} {pre : List (List UInt8)} (h : HostAt l k f pre) (hk : l.length < k) : hostGo l [] = some pre ∧ k = l.length + 1 := by
 rcases h with ⟨h1, _, _⟩ | ⟨h1, h2⟩
 · omega
 · exact ⟨h2, h1⟩
end Sx
