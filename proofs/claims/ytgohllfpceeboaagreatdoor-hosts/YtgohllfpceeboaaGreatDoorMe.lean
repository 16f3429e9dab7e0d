/- Plain mathematics of hosts: hosts, their plain and shown forms, by the document's answer. -/
import Derived.Test.YtgohllfpceeboaaGreatDoorMd
namespace Sx

/-- The labels of letters, from the left; 'cur': what stands since the last dot. -/
def hostGo : List Int → List Int → Option (List (List UInt8))
  | [], cur => match label cur with
    | none => none
    | some x => some [x]
  | c :: r, cur => if c = 46 then (match label cur with
      | none => none
      | some x => (hostGo r []).map (x :: ·)) else hostGo r (cur ++ [c])
def allLen (h : List (List UInt8)) : Nat := (h.map fun x => x.length + 1).sum
def digs (s : List UInt8) : Bool := s.all fun c => decide (48 ≤ c.toNat) && decide (c.toNat ≤ 57)
def hostEnd (h : List (List UInt8)) : List (List UInt8) × Int :=
  if digs (h.getD (h.length - 1) []) || decide (6 < h.length) || decide (61 < allLen h) then ([], 2) else (h, 0)
def host (s : List UInt8) : List (List UInt8) × Int :=
  if 60 < s.length then ([], 1)
  else match letters s with
    | none => ([], 2)
    | some l => match hostGo l [] with
      | none => ([], 2)
      | some h => hostEnd h
def dotted : List (List UInt8) → List UInt8
  | [] => []
  | x :: r => x ++ r.flatMap fun y => 46 :: y
def shownOf (x : List UInt8) : List UInt8 := if decide (4 < x.length) && (x.take 4 == xn) then text ((dec (x.drop 4)).getD []) else x
def plainR (s : List UInt8) : List UInt8 × Int := (dotted (host s).1, (host s).2)
def shownR (s : List UInt8) : List UInt8 × Int := (dotted ((host s).1.map shownOf), (host s).2)

theorem dotted_snoc (h : List (List UInt8)) (x : List UInt8) : dotted (h ++ [x]) = if h = [] then x else dotted h ++ 46 :: x := by
  cases h with
  | nil => simp [dotted]
  | cons y r => simp [dotted, List.flatMap_append]
theorem allLen_snoc (h : List (List UInt8)) (x : List UInt8) : allLen (h ++ [x]) = allLen h + (x.length + 1) := by simp [allLen]
theorem dotted_len (h : List (List UInt8)) : (dotted h).length ≤ allLen h := by
  cases h with
  | nil => simp [dotted]
  | cons y r =>
    have : ∀ r : List (List UInt8), (r.flatMap fun y => 46 :: y).length = allLen r := by
      intro r
      induction r with
      | nil => rfl
      | cons z r ih => simp only [List.flatMap_cons, List.length_append, List.length_cons, ih, allLen, List.map_cons, List.sum_cons]
    simp only [dotted, List.length_append, this, allLen, List.map_cons, List.sum_cons]
    omega

/-- What stands between two places. -/
def between (l : List Int) (f k : Nat) : List Int := (l.take k).drop f
theorem between_len (l : List Int) (f k : Nat) (h1 : f ≤ k) (h2 : k ≤ l.length) : (between l f k).length = k - f := by simp [between]; omega
theorem between_get (l : List Int) (f k j : Nat) (h2 : k ≤ l.length) (hj : j < (between l f k).length) : (between l f k)[j] = l[f + j]'(by simp [between] at hj; omega) := by
  simp [between]
theorem between_same (l : List Int) (k : Nat) : between l k k = [] := by simp [between]
theorem between_more (l : List Int) (f k : Nat) (h1 : f ≤ k) (h2 : k < l.length) : between l f (k + 1) = between l f k ++ [l[k]] := by
  unfold between
  rw [List.take_succ_eq_append_getElem h2, List.drop_append_of_le_length (by simp; omega)]
/-- Where the reading of a host stands. -/
def HostAt (l : List Int) (k f : Nat) (pre : List (List UInt8)) : Prop :=
  (k ≤ l.length ∧ f ≤ k ∧ (hostGo (l.drop k) (between l f k)).map (pre ++ ·) = hostGo l []) ∨ (k = l.length + 1 ∧ hostGo l [] = some pre)
theorem HostAt.zero (l : List Int) : HostAt l 0 0 [] := .inl ⟨Nat.zero_le _, Nat.le_refl _, by simp [between]⟩
theorem HostAt.skip {l : List Int} {k f : Nat} {pre : List (List UInt8)} (h : HostAt l k f pre) (hk : k < l.length) (hc : l[k] ≠ 46) : HostAt l (k + 1) f pre := by
  rcases h with ⟨h1, h2, h3⟩ | ⟨h1, _⟩
  · refine .inl ⟨by omega, by omega, ?_⟩
    rw [← h3, List.drop_eq_getElem_cons hk, between_more l f k h2 hk]
    simp only [hostGo]; rw [if_neg hc]
  · omega
theorem HostAt.bad {l : List Int} {k f : Nat} {pre : List (List UInt8)} (h : HostAt l k f pre) (hk : k ≤ l.length) (hc : ∀ h : k < l.length, l[k] = 46) (hl : label (between l f k) = none) : hostGo l [] = none := by
  rcases h with ⟨h1, h2, h3⟩ | ⟨h1, _⟩
  · rw [← h3]
    by_cases hlt : k < l.length
    · rw [List.drop_eq_getElem_cons hlt]; simp only [hostGo]; rw [if_pos (hc hlt), hl]; rfl
    · rw [List.drop_eq_nil_of_le (by omega)]; simp only [hostGo, hl]; rfl
  · omega
theorem HostAt.more {l : List Int} {k f : Nat} {pre : List (List UInt8)} {x : List UInt8} (h : HostAt l k f pre) (hk : k ≤ l.length) (hc : ∀ h : k < l.length, l[k] = 46) (hl : label (between l f k) = some x) : HostAt l (k + 1) (k + 1) (pre ++ [x]) := by
  rcases h with ⟨h1, h2, h3⟩ | ⟨h1, _⟩
  · by_cases hlt : k < l.length
    · refine .inl ⟨by omega, Nat.le_refl _, ?_⟩
      rw [← h3, List.drop_eq_getElem_cons hlt, between_same]
      conv => rhs; simp only [hostGo]
      rw [if_pos (hc hlt), hl]
      simp only [Option.map_map]
      congr 1
      funext y; simp
    · refine .inr ⟨by omega, ?_⟩
      rw [← h3, List.drop_eq_nil_of_le (by omega)]
      simp only [hostGo, hl, Option.map_some]
  · omega
theorem HostAt.done {l : List Int} {k f : Nat} {pre : List (List UInt8)} (h : HostAt l k f pre) (hk : l.length < k) : hostGo l [] = some pre ∧ k = l.length + 1 := by
  rcases h with ⟨h1, _, _⟩ | ⟨h1, h2⟩
  · omega
  · exact ⟨h2, h1⟩
end Sx
