import Derived.Test.YtgohllfpceeboaaGreatDoorProg
import Derived.WalkKit
import Derived.WalkSpells
import Derived.Deep.AppendLies
import Derived.Deep.AppendSrc
/- Plain mathematics of codes: thresholds, digits, numbers, the bias. It imports nothing of the translation. -/
namespace Sx

/-- The threshold of the digit number k. -/
def thr (k bias : Int) : Int :=
  if 36 * (k + 1) - bias < 1 then 1 else if 26 < 36 * (k + 1) - bias then 26 else 36 * (k + 1) - bias

theorem thr_lo (k bias : Int) : 1 ≤ thr k bias := by unfold thr; split <;> (try split) <;> omega
theorem thr_hi (k bias : Int) : thr k bias ≤ 26 := by unfold thr; split <;> (try split) <;> omega

/-- A digit's byte. -/
def dig (x : Int) : UInt8 := if x < 26 then UInt8.ofNat (97 + x.toNat) else UInt8.ofNat (22 + x.toNat)

/-- A number's digits, the lowest first; 'f': how many more there may be. -/
def writF : Nat → Int → Int → Int → List UInt8
  | 0, d, _, _ => [dig d]
  | f + 1, d, k, bias =>
    if thr k bias ≤ d then dig (thr k bias + (d - thr k bias) % (36 - thr k bias)) :: writF f ((d - thr k bias) / (36 - thr k bias)) (k + 1) bias
    else [dig d]

def writ (d k bias : Int) : List UInt8 := writF d.toNat d k bias

theorem step_lt (d t : Int) (h1 : 1 ≤ t) (h2 : t ≤ 26) (h : t ≤ d) : 0 ≤ (d - t) / (36 - t) ∧ (d - t) / (36 - t) < d := by
  have hp : 0 < 36 - t := by omega
  refine ⟨Int.ediv_nonneg (by omega) (by omega), ?_⟩
  have : (d - t) / (36 - t) ≤ d - t := Int.ediv_le_self _ (by omega)
  omega

theorem writF_fuel : ∀ (f g : Nat) (d k bias : Int), 0 ≤ d → d.toNat ≤ f → d.toNat ≤ g → writF f d k bias = writF g d k bias := by
  intro f
  induction f with
  | zero =>
    intro g d k bias h0 hf hg
    have hd : d = 0 := by omega
    subst hd
    cases g with
    | zero => rfl
    | succ g =>
      have := thr_lo k bias
      simp only [writF]; rw [if_neg (by omega)]
  | succ f ih =>
    intro g d k bias h0 hf hg
    have h1 := thr_lo k bias
    have h2 := thr_hi k bias
    cases g with
    | zero =>
      have hd : d = 0 := by omega
      subst hd
      simp only [writF]; rw [if_neg (by omega)]
    | succ g =>
      simp only [writF]
      by_cases h : thr k bias ≤ d
      · have hs := step_lt d _ h1 h2 h
        rw [if_pos h, if_pos h, ih g _ _ _ hs.1 (by omega) (by omega)]
      · rw [if_neg h, if_neg h]

theorem writ_more (d k bias : Int) (h0 : 0 ≤ d) (h : thr k bias ≤ d) :
    writ d k bias = dig (thr k bias + (d - thr k bias) % (36 - thr k bias)) :: writ ((d - thr k bias) / (36 - thr k bias)) (k + 1) bias := by
  have h1 := thr_lo k bias
  have h2 := thr_hi k bias
  have hs := step_lt d _ h1 h2 h
  unfold writ
  obtain ⟨m, hm⟩ : ∃ m, d.toNat = m + 1 := ⟨d.toNat - 1, by omega⟩
  rw [hm]
  simp only [writF]
  rw [if_pos h, writF_fuel m _ _ _ _ hs.1 (by omega) (Nat.le_refl _)]

theorem writ_last (d k bias : Int) (h : ¬ thr k bias ≤ d) : writ d k bias = [dig d] := by
  unfold writ
  cases hd : d.toNat with
  | zero => rfl
  | succ m => simp only [writF]; rw [if_neg h]

/-- The bias: what is counted while d is above 455. -/
def biasF : Nat → Int → Int → Int
  | 0, d, n => n + 36 * d / (d + 38)
  | f + 1, d, n => if 455 < d then biasF f (d / 35) (n + 36) else n + 36 * d / (d + 38)
def biasL (d n : Int) : Int := biasF d.toNat d n

theorem biasF_fuel : ∀ (f g : Nat) (d n : Int), 0 ≤ d → d.toNat ≤ f → d.toNat ≤ g → biasF f d n = biasF g d n := by
  intro f
  induction f with
  | zero =>
    intro g d n h0 hf hg
    cases g with
    | zero => rfl
    | succ g => simp only [biasF]; rw [if_neg (by omega)]
  | succ f ih =>
    intro g d n h0 hf hg
    cases g with
    | zero => simp only [biasF]; rw [if_neg (by omega)]
    | succ g =>
      simp only [biasF]
      by_cases h : 455 < d
      · rw [if_pos h, if_pos h, ih g _ _ (by omega) (by omega) (by omega)]
      · rw [if_neg h, if_neg h]

theorem biasL_more (d n : Int) (h : 455 < d) : biasL d n = biasL (d / 35) (n + 36) := by
  unfold biasL
  obtain ⟨m, hm⟩ : ∃ m, d.toNat = m + 1 := ⟨d.toNat - 1, by omega⟩
  rw [hm]; simp only [biasF]
  rw [if_pos h, biasF_fuel m _ _ _ (by omega) (by omega) (Nat.le_refl _)]
theorem biasL_last (d n : Int) (h : ¬ 455 < d) : biasL d n = n + 36 * d / (d + 38) := by
  unfold biasL
  cases hd : d.toNat with
  | zero => rfl
  | succ m => simp only [biasF]; rw [if_neg h]

/-- BIAS behind a number. -/
def bias1 (d letters : Int) : Int := biasL (d + d / letters) 0
def after (d letters : Int) (first : Bool) : Int := if first then bias1 (d / 700) letters else bias1 (d / 2) letters

/-- How great the bias can get. -/
theorem biasF_bd : ∀ (f : Nat) (d n : Int), 0 ≤ d → 0 ≤ n → n ≤ biasF f d n ∧ (d ≤ 455 * 35 * 35 * 35 * 35 → d.toNat ≤ f → biasF f d n ≤ n + 180) := by
  intro f
  have last : ∀ d n : Int, 0 ≤ d → n ≤ n + 36 * d / (d + 38) ∧ n + 36 * d / (d + 38) ≤ n + 36 := by
    intro d n h0
    have hp : 0 < d + 38 := by omega
    have h1 : 0 ≤ 36 * d / (d + 38) := Int.ediv_nonneg (by omega) (by omega)
    have h2 : 36 * d / (d + 38) < 37 := Int.ediv_lt_of_lt_mul hp (by omega)
    omega
  intro d n h0 hn
  refine ⟨?_, ?_⟩
  · induction f generalizing d n with
    | zero => exact (last d n h0).1
    | succ f ih =>
      simp only [biasF]
      split
      · have := ih (d / 35) (n + 36) (by omega) (by omega); omega
      · exact (last d n h0).1
  · intro hd hf
    -- at most four rounds
    have key : ∀ (r : Nat) (f : Nat) (d n : Int), 0 ≤ d → d ≤ 455 * (35 : Int) ^ r → d.toNat ≤ f → biasF f d n ≤ n + 36 * r + 36 := by
      intro r
      induction r with
      | zero =>
        intro f d n h0 hd hf
        cases f with
        | zero => have := (last d n h0).2; simp only [biasF]; omega
        | succ f => simp only [biasF]; rw [if_neg (by simp at hd; omega)]; have := (last d n h0).2; omega
      | succ r ih =>
        intro f d n h0 hd hf
        have l2 := (last d n h0).2
        cases f with
        | zero => simp only [biasF]; omega
        | succ f =>
          simp only [biasF]
          split
          · have h5 : d / 35 ≤ 455 * (35 : Int) ^ r := by
              rw [Int.pow_succ] at hd
              generalize (35 : Int) ^ r = p at *
              omega
            have := ih f (d / 35) (n + 36) (by omega) h5 (by omega)
            omega
          · omega
    have := key 4 f d n h0 (by simpa using hd) hf
    omega

theorem after_bd (d letters : Int) (first : Bool) (h0 : 0 ≤ d) (h1 : d ≤ 200000000) (hl : 1 ≤ letters) : 0 ≤ after d letters first ∧ after d letters first ≤ 180 := by
  have hh : ∀ x : Int, 0 ≤ x → x ≤ 100000000 → 0 ≤ bias1 x letters ∧ bias1 x letters ≤ 180 := by
    intro x hx hx2
    have g1 : 0 ≤ x / letters := Int.ediv_nonneg hx (by omega)
    have g2 : x / letters ≤ x := Int.ediv_le_self _ hx
    unfold bias1 biasL
    have := biasF_bd (x + x / letters).toNat (x + x / letters) 0 (by omega) (by omega)
    have h3 := this.2 (by omega) (Nat.le_refl _)
    omega
  unfold after
  split
  · exact hh _ (by omega) (by omega)
  · exact hh _ (by omega) (by omega)


/-- A digit's value; -1: it is none. -/
def valOf (c : UInt8) : Int := if 97 ≤ c.toNat ∧ c.toNat ≤ 122 then (c.toNat : Int) - 97 else if 48 ≤ c.toNat ∧ c.toNat ≤ 57 then (c.toNat : Int) - 22 else -1
theorem valOf_dig (x : Nat) (h : x < 36) : valOf (dig x) = x := by
  have k : ∀ x : Fin 36, valOf (dig (x.val : Int)) = (x.val : Int) := by decide
  exact k ⟨x, h⟩
theorem valOf_none (c : UInt8) (h : ∀ j : Nat, j < 36 → dig j ≠ c) : valOf c = -1 := by
  have k : ∀ n : Fin 256, (∃ j : Fin 36, dig (j.val : Int) = UInt8.ofNat n.val) ∨ valOf (UInt8.ofNat n.val) = -1 := by decide +kernel
  have hc := c.toNat_lt
  have := k ⟨c.toNat, hc⟩
  simp only [UInt8.ofNat_toNat] at this
  rcases this with ⟨j, hj⟩ | this
  · exact absurd hj (h j.val j.isLt)
  · exact this
theorem valOf_bd (c : UInt8) : -1 ≤ valOf c ∧ valOf c < 36 := by unfold valOf; split <;> (try split) <;> omega

end Sx
namespace Sx
/-- One letter in UTF-8. -/
def utf (c : Int) : List UInt8 :=
  if c < 128 then [UInt8.ofNat c.toNat]
  else if c < 2048 then [UInt8.ofNat (192 + c / 64).toNat, UInt8.ofNat (128 + c % 64).toNat]
  else if c < 65536 then [UInt8.ofNat (224 + c / 4096).toNat, UInt8.ofNat (128 + c / 64 % 64).toNat, UInt8.ofNat (128 + c % 64).toNat]
  else [UInt8.ofNat (240 + c / 262144).toNat, UInt8.ofNat (128 + c / 4096 % 64).toNat, UInt8.ofNat (128 + c / 64 % 64).toNat, UInt8.ofNat (128 + c % 64).toNat]
def text (l : List Int) : List UInt8 := l.flatMap utf
theorem text_snoc (l : List Int) (c : Int) : text (l ++ [c]) = text l ++ utf c := by simp [text]
theorem utf_len (c : Int) : (utf c).length ≤ 4 := by unfold utf; repeat' split
                                                     all_goals simp
theorem text_len (l : List Int) : (text l).length ≤ 4 * l.length := by
  induction l with
  | nil => simp [text]
  | cons c l ih => have := utf_len c; simp only [text, List.flatMap_cons, List.length_append, List.length_cons] at *; omega
theorem take_snoc (l : List Int) (k : Nat) (h : k < l.length) : l.take (k + 1) = l.take k ++ [l[k]] := List.take_succ_eq_append_getElem h
end Sx
namespace Sx
/-- The letters of UTF-8: what follows the first byte. -/
def contF : Nat → Int → List UInt8 → Option (Int × List UInt8)
  | 0, c, s => some (c, s)
  | _ + 1, _, [] => none
  | m + 1, c, x :: s => if 128 ≤ x.toNat ∧ x.toNat < 192 then contF m (c * 64 + x.toNat - 128) s else none
/-- What a first byte says: how many follow, the number so far, the least that may come out. -/
def lead (x : UInt8) : Option (Nat × Int × Int) :=
  if x.toNat < 128 then some (0, x.toNat, 0)
  else if 192 ≤ x.toNat ∧ x.toNat < 224 then some (1, (x.toNat : Int) - 192, 128)
  else if 224 ≤ x.toNat ∧ x.toNat < 240 then some (2, (x.toNat : Int) - 224, 2048)
  else if 240 ≤ x.toNat ∧ x.toNat < 248 then some (3, (x.toNat : Int) - 240, 65536)
  else none
def bad (c least : Int) : Prop := c < least ∨ 1114111 < c ∨ (55296 ≤ c ∧ c ≤ 57343)
def rest (m : Nat) (c least : Int) (s : List UInt8) : Option (Int × List UInt8) :=
  match contF m c s with
  | none => none
  | some (c', s') => if c' < least ∨ 1114111 < c' ∨ (55296 ≤ c' ∧ c' ≤ 57343) then none else some (c', s')
def one : List UInt8 → Option (Int × List UInt8)
  | [] => none
  | x :: r => match lead x with
    | none => none
    | some (m, c, least) => rest m c least r
def letF : Nat → List UInt8 → Option (List Int)
  | _, [] => some []
  | 0, _ :: _ => none
  | f + 1, x :: s => match one (x :: s) with
    | none => none
    | some (c, r) => (letF f r).map (c :: ·)
def letters (s : List UInt8) : Option (List Int) := letF s.length s

theorem contF_len : ∀ (m : Nat) (c : Int) (s : List UInt8) (c' : Int) (s' : List UInt8), contF m c s = some (c', s') → s'.length + m = s.length := by
  intro m
  induction m with
  | zero => intro c s c' s' h; simp only [contF, Option.some.injEq, Prod.mk.injEq] at h; rw [h.2]; rfl
  | succ m ih =>
    intro c s c' s' h
    cases s with
    | nil => simp [contF] at h
    | cons x s =>
      simp only [contF] at h
      split at h
      · have := ih _ _ _ _ h; simp only [List.length_cons]; omega
      · simp at h
theorem one_len (x : UInt8) (s : List UInt8) (c : Int) (r : List UInt8) (h : one (x :: s) = some (c, r)) : r.length ≤ s.length := by
  simp only [one] at h
  split at h
  · simp at h
  · rename_i m c0 least _
    unfold rest at h
    split at h
    · simp at h
    · rename_i c' s' hc
      split at h
      · simp at h
      · simp only [Option.some.injEq, Prod.mk.injEq] at h
        have := contF_len _ _ _ _ _ hc
        rw [← h.2]; omega
theorem letF_fuel : ∀ (f g : Nat) (s : List UInt8), s.length ≤ f → s.length ≤ g → letF f s = letF g s := by
  intro f
  induction f with
  | zero => intro g s hf hg; cases s with
    | nil => cases g <;> rfl
    | cons x s => simp at hf
  | succ f ih =>
    intro g s hf hg
    cases s with
    | nil => cases g <;> rfl
    | cons x s =>
      cases g with
      | zero => simp at hg
      | succ g =>
        simp only [letF]
        cases h : one (x :: s) with
        | none => rfl
        | some p =>
          obtain ⟨c, r⟩ := p
          have := one_len _ _ _ _ h
          simp only [List.length_cons] at hf hg
          simp only [ih g r (by omega) (by omega)]
theorem letters_nil : letters [] = some [] := rfl
theorem letters_none (s : List UInt8) (hs : s ≠ []) (h : one s = none) : letters s = none := by
  cases s with
  | nil => exact absurd rfl hs
  | cons x s => simp only [letters, List.length_cons, letF, h]
theorem letters_some (s : List UInt8) (c : Int) (r : List UInt8) (h : one s = some (c, r)) : letters s = (letters r).map (c :: ·) := by
  cases s with
  | nil => simp [one] at h
  | cons x s =>
    have hl := one_len _ _ _ _ h
    simp only [letters, List.length_cons, letF, h]
    rw [letF_fuel s.length r.length r hl (Nat.le_refl _)]
/-- How great a number can get behind j bytes. -/
def cb (j : Nat) : Int := 256 * 64 ^ j - 1
theorem cb_step (c : Int) (j : Nat) (x : Int) (h : c ≤ cb j) (hx : x < 192) : c * 64 + x - 128 ≤ cb (j + 1) := by
  unfold cb at *
  rw [Int.pow_succ]
  generalize (64 : Int) ^ j = p at *
  omega
theorem cb_le (j : Nat) (h : j ≤ 3) : cb j ≤ 67108863 := by
  have : j = 0 ∨ j = 1 ∨ j = 2 ∨ j = 3 := by omega
  rcases this with rfl | rfl | rfl | rfl <;> decide
theorem drop_get (s : List UInt8) (i : Nat) (h : i < s.length) : s.drop i = s[i] :: s.drop (i + 1) := List.drop_eq_getElem_cons h
theorem contF_yes (m : Nat) (c : Int) (s : List UInt8) (i : Nat) (h : i < s.length) (h1 : 128 ≤ s[i].toNat) (h2 : s[i].toNat < 192) : contF (m + 1) c (s.drop i) = contF m (c * 64 + s[i].toNat - 128) (s.drop (i + 1)) := by
  rw [drop_get s i h]; simp only [contF]; rw [if_pos ⟨h1, h2⟩]
theorem contF_no (m : Nat) (c : Int) (s : List UInt8) (i : Nat) (h : i < s.length) (h1 : ¬ (128 ≤ s[i].toNat ∧ s[i].toNat < 192)) : contF (m + 1) c (s.drop i) = none := by
  rw [drop_get s i h]; simp only [contF]; rw [if_neg h1]
theorem contF_end (m : Nat) (c : Int) (s : List UInt8) (i : Nat) (h : s.length ≤ i) : contF (m + 1) c (s.drop i) = none := by
  rw [List.drop_eq_nil_of_le h]; rfl
theorem one_at (s : List UInt8) (i : Nat) (h : i < s.length) (m : Nat) (c least : Int) (hl : lead s[i] = some (m, c, least)) : one (s.drop i) = rest m c least (s.drop (i + 1)) := by
  rw [drop_get s i h]; simp only [one, hl]
theorem one_bad (s : List UInt8) (i : Nat) (h : i < s.length) (hl : lead s[i] = none) : one (s.drop i) = none := by
  rw [drop_get s i h]; simp only [one, hl]
theorem rest_none (m : Nat) (c least : Int) (s : List UInt8) (h : contF m c s = none) : rest m c least s = none := by unfold rest; rw [h]
theorem rest_bad (m : Nat) (c least : Int) (s : List UInt8) (c' : Int) (s' : List UInt8) (h : contF m c s = some (c', s')) (hb : c' < least ∨ 1114111 < c' ∨ (55296 ≤ c' ∧ c' ≤ 57343)) : rest m c least s = none := by
  unfold rest; rw [h]; simp only; rw [if_pos hb]
theorem rest_ok (m : Nat) (c least : Int) (s : List UInt8) (c' : Int) (s' : List UInt8) (h : contF m c s = some (c', s')) (hb : ¬ (c' < least ∨ 1114111 < c' ∨ (55296 ≤ c' ∧ c' ≤ 57343))) : rest m c least s = some (c', s') := by
  unfold rest; rw [h]; simp only; rw [if_neg hb]
end Sx
namespace Go.Proofs.YtgohllfpceeboaaGreatDoor
open Go.RowKit

theorem hide {p : Prop} (h : p) : Hid p := h
theorem ret_int {k : IntKind} {a b : Int} (h : a = b) : Ending.returned (.int k a) = .returned (.int k b) := by rw [h]
theorem ret_str {a b : ByteArray} (h : a = b) : Ending.returned (.string a) = .returned (.string b) := by rw [h]
theorem ba_app (a b : List UInt8) : (⟨a.toArray⟩ : ByteArray) ++ ⟨b.toArray⟩ = ⟨(a ++ b).toArray⟩ := by
  apply ByteArray.ext; simp

theorem Tryz.info3 : (Tryz.prog.info? 3).map (fun i => (i.zero, i.size, i.bytes)) = some (some (.int .i64 0), 1, 8) := by kernel_rfl
theorem Tryz.info4 : (Tryz.prog.info? 4).map (fun i => (i.zero, i.size, i.bytes)) = some (some (.bool false), 1, 1) := by kernel_rfl
theorem Tryz.info5 : (Tryz.prog.info? 5).map (fun i => (i.zero, i.size, i.bytes)) = some (some (.int .u8 0), 1, 1) := by kernel_rfl
theorem Tryz.info9 : (Tryz.prog.info? 9).map (fun i => (i.zero, i.size, i.bytes)) = some (some (.string ⟨#[]⟩), 1, 16) := by kernel_rfl

/-- A row of bytes, of ints. -/
def byV (bs : List UInt8) : List Value := bs.map fun c => Value.int .u8 c.toNat
def inV (l : List Int) : List Value := l.map fun c => Value.int .i64 c
def boV (l : List Bool) : List Value := l.map fun c => Value.bool c
def stV (l : List (List UInt8)) : List Value := l.map fun c => Value.string ⟨c.toArray⟩
theorem byV_app (a b : List UInt8) : byV (a ++ b) = byV a ++ byV b := by simp [byV]
theorem inV_app (a b : List Int) : inV (a ++ b) = inV a ++ inV b := by simp [inV]
theorem boV_app (a b : List Bool) : boV (a ++ b) = boV a ++ boV b := by simp [boV]
theorem stV_app (a b : List (List UInt8)) : stV (a ++ b) = stV a ++ stV b := by simp [stV]
theorem byV_one (c : Int) (h0 : 0 ≤ c) (h : c < 256) : Value.int .u8 c = Value.int .u8 (UInt8.ofNat c.toNat).toNat := by
  congr 1
  simp only [UInt8.toNat_ofNat']
  omega

/-- Behind an append: of what was below nothing has turned. -/
theorem below_app {B : Nat} {w wr w1 : World} {e : TypeId} {s n : Nat} {v : Value} {xs : List Value} {o : Obj} (hB : Below B w wr) (hle : B ≤ wr.heap.size) (hown : wr.ownsRow B e s v n xs) (hg : (wr.alloc o).grownBy w1 v.ownBlock) : Below B w w1 :=
  (hB.alloc hle o).grown hg (by simp; omega) (fun k e => (hown.lt k e).1)

theorem own_cells {w : World} {B : Nat} {e : TypeId} {b off n cap : Nat} {xs : List Value} (h : w.ownsRow B e 1 (.slice (some ⟨b, off, none⟩) n cap) n xs) : off = 0 ∧ xs.length = n ∧ n ≤ cap ∧ cap ≤ maxLen ∧ B ≤ b ∧ b < w.heap.size ∧ ∀ j (hj : j < xs.length), w.cell? ⟨b, j, none⟩ = some xs[j] := by
  have hl : xs.length = n := by have := h.1; omega
  rcases h.2 with ⟨h1, _⟩ | ⟨g, cap', cur, hv, hb, hg, hc1, hc2, hc3, hc4⟩
  · cases h1
  · cases hv
    have hlt : b < w.heap.size := (h.lt b rfl).2
    refine ⟨rfl, hl, hc1, hc2, hb, hlt, fun j hj => ?_⟩
    have := h.cells (g := b) rfl j xs[j] (List.getElem?_eq_getElem hj)
    rw [Addr.add_lit, Nat.zero_add] at this
    exact this

/-- 'string(b)' of a row of the call's own. -/
theorem own_string {w : World} {B n : Nat} {v : Value} {bs : List UInt8} (h : w.ownsRow B 5 1 v n (byV bs)) : (convert 58 9 v).run Tryz.prog w = .ok (.string ⟨bs.toArray⟩) w := by
  have hl : bs.length = n := by have := h.1; simp [byV] at this; omega
  rcases h.2 with ⟨rfl, h0⟩ | ⟨g, cap, cur, rfl, hb, hg, _⟩
  · have : bs = [] := List.eq_nil_of_length_eq_zero (by omega)
    subst this
    rw [run_convert_bytes_string w 58 9 5 none 0 0 Tryz.underlying58 Tryz.underlying5 Tryz.underlying9]; rfl
  · have := run_convert_bytes_back (P := Tryz.prog) w 58 9 5 ⟨g, 0, none⟩ cap bs Tryz.underlying58 Tryz.underlying5 Tryz.underlying9 (fun j hj => by
      have := h.cells (g := g) rfl j (.int .u8 (bs[j].toNat : Int)) (by simp [byV, List.getElem?_eq_getElem hj])
      exact this)
    rw [hl] at this
    exact this
section
variable {P : Program} (w : World)
theorem run_append_nothing (t ty e : TypeId) (i : TypeInfo) (ht : P.underlying t = some (.slice e)) (hi : P.info? e = some i) (v : Value) (hv : v = .slice none 0 0 ∨ ∃ g n cap, v = .slice (some ⟨g, 0, none⟩) n cap ∧ n ≤ cap) :
    (Builtin.append_ #[t, t] ty #[v, .slice none 0 0]).run P w = .ok v w := by
  rcases hv with rfl | ⟨g, n, cap, rfl, hc⟩
  · simp [Builtin.append_, run_underlying ht, sizeOf, typeInfo, hi, Builtin.lenOf, Builtin.firstCells]
  · have := run_append_room_src (P := P) w t t ty e i ht hi g 0 n cap (.slice none 0 0) 0 [] (Src.ofNil w ht 0) (by omega) (by simp) (by simp)
    simpa [World.setCells] using this
theorem wpList_append_nothing {ops : Array Oper} {rest : List Oper} {o : Oper} {a : Act} {Q : Exit → Act → World → Prop} (hgd : o.guard = none) (s x : Operand) (t : TypeId)
    (ho : o.op = .call { callee := .builtin .append, args := #[s, x], argTypes := #[t, t] })
    (e : TypeId) (i : TypeInfo) (ht : P.underlying t = some (.slice e)) (hi : P.info? e = some i)
    (v : Value) (hs : a.eval s = v) (hx : a.eval x = .slice none 0 0) (hv : v = .slice none 0 0 ∨ ∃ g n cap, v = .slice (some ⟨g, 0, none⟩) n cap ∧ n ≤ cap)
    (h : wpList P ops Q rest (a.put o.dst v) w) : wpList P ops Q (o :: rest) a w := by
  refine wpList_plain hgd fun K hK => ?_
  have hr := run_append_nothing (P := P) w t o.type e i ht hi v hv
  unfold Oper.wp execOp
  simp only [ho, resolve, invoke, builtin, Sem.run_bind, Sem.run_pure, Result.andThen_ok, List.map_toArray, List.map_cons, List.map_nil, hs, hx, hr]
  exact hK _ _ h
end
end Go.Proofs.YtgohllfpceeboaaGreatDoor
/- Plain mathematics of codes: the order of the foreign letters, the code of letters. -/
namespace Sx

/-- Into a sorted list, behind all that are not greater. -/
def ins {α : Type} (lt : α → α → Bool) (x : α) : List α → List α
  | [] => [x]
  | y :: r => if lt x y then x :: y :: r else y :: ins lt x r
def isort {α : Type} (lt : α → α → Bool) (acc : List α) : List α → List α
  | [] => acc
  | x :: r => isort lt (ins lt x acc) r

theorem ins_map {α β : Type} (f : α → β) (lt : α → α → Bool) (lt' : β → β → Bool) (h : ∀ a b, lt' (f a) (f b) = lt a b) (x : α) (l : List α) : ins lt' (f x) (l.map f) = (ins lt x l).map f := by
  induction l with
  | nil => rfl
  | cons y r ih =>
    simp only [List.map_cons, ins, h]
    split
    · rfl
    · rw [ih]; rfl
theorem isort_map {α β : Type} (f : α → β) (lt : α → α → Bool) (lt' : β → β → Bool) (h : ∀ a b, lt' (f a) (f b) = lt a b) (l acc : List α) : isort lt' (acc.map f) (l.map f) = (isort lt acc l).map f := by
  induction l generalizing acc with
  | nil => rfl
  | cons x r ih => simp only [List.map_cons, isort]; rw [ins_map f lt lt' h, ih]
theorem ins_mem {α : Type} (lt : α → α → Bool) (x z : α) (l : List α) : z ∈ ins lt x l ↔ z = x ∨ z ∈ l := by
  induction l with
  | nil => simp [ins]
  | cons y r ih =>
    simp only [ins]
    split
    · simp
    · simp only [List.mem_cons, ih]
      constructor <;> (intro h; rcases h with h | h | h <;> simp [h])
theorem isort_mem {α : Type} (lt : α → α → Bool) (z : α) (l acc : List α) : z ∈ isort lt acc l ↔ z ∈ acc ∨ z ∈ l := by
  induction l generalizing acc with
  | nil => simp [isort]
  | cons x r ih =>
    simp only [isort, ih, ins_mem, List.mem_cons]
    constructor
    · rintro ((h | h) | h)
      · exact .inr (.inl h)
      · exact .inl h
      · exact .inr (.inr h)
    · rintro (h | h | h)
      · exact .inl (.inr h)
      · exact .inl (.inl h)
      · exact .inr h
theorem ins_len {α : Type} (lt : α → α → Bool) (x : α) (l : List α) : (ins lt x l).length = l.length + 1 := by
  induction l with
  | nil => rfl
  | cons y r ih => simp only [ins]; split <;> simp [ih]
theorem isort_len {α : Type} (lt : α → α → Bool) (l acc : List α) : (isort lt acc l).length = acc.length + l.length := by
  induction l generalizing acc with
  | nil => rfl
  | cons x r ih => simp only [isort, ih, ins_len, List.length_cons]; omega

/-- One index ahead of another: a lower letter, or the same and further left. -/
def Ahead (l : List Int) (a b : Nat) : Prop := l.getD a 0 < l.getD b 0 ∨ (l.getD a 0 = l.getD b 0 ∧ a < b)
def ltAt (l : List Int) (a b : Nat) : Bool := decide (l.getD a 0 < l.getD b 0)

theorem ins_ahead (l : List Int) (x : Nat) (acc : List Nat) (hx : ∀ y ∈ acc, y < x) (h : acc.Pairwise (Ahead l)) : (ins (ltAt l) x acc).Pairwise (Ahead l) := by
  induction acc with
  | nil => simp [ins]
  | cons y r ih =>
    rw [List.pairwise_cons] at h
    simp only [ins]
    split
    · rename_i hlt
      simp only [ltAt, decide_eq_true_eq] at hlt
      rw [List.pairwise_cons]
      refine ⟨?_, by rw [List.pairwise_cons]; exact h⟩
      intro z hz
      rcases List.mem_cons.1 hz with rfl | hz
      · exact .inl hlt
      · have := h.1 z hz
        unfold Ahead at this
        exact .inl (by omega)
    · rename_i hlt
      simp only [ltAt, decide_eq_true_eq] at hlt
      rw [List.pairwise_cons]
      refine ⟨?_, ih (fun z hz => hx z (List.mem_cons_of_mem _ hz)) h.2⟩
      intro z hz
      rcases (ins_mem _ _ _ _).1 hz with rfl | hz
      · have := hx y (List.mem_cons_self ..)
        unfold Ahead; omega
      · exact h.1 z hz
theorem isort_ahead (l : List Int) (xs acc : List Nat) (hs : xs.Pairwise (· < ·)) (hx : ∀ y ∈ acc, ∀ x ∈ xs, y < x) (h : acc.Pairwise (Ahead l)) : (isort (ltAt l) acc xs).Pairwise (Ahead l) := by
  induction xs generalizing acc with
  | nil => exact h
  | cons x r ih =>
    rw [List.pairwise_cons] at hs
    simp only [isort]
    refine ih _ hs.2 ?_ (ins_ahead l x acc (fun y hy => hx y hy x (List.mem_cons_self ..)) h)
    intro y hy z hz
    rcases (ins_mem _ _ _ _).1 hy with rfl | hy
    · exact hs.1 z hz
    · exact hx y hy z (List.mem_cons_of_mem _ hz)

/-- The foreign letters' places, from the left; in the order in which they are put in. -/
def forIdx (l : List Int) : List Nat := (List.range l.length).filter fun k => decide (128 ≤ l.getD k 0)
def ord (l : List Int) : List Nat := isort (ltAt l) [] (forIdx l)

theorem ord_ahead (l : List Int) : (ord l).Pairwise (Ahead l) := by
  unfold ord
  refine isort_ahead l _ _ ?_ (fun y hy => by simp at hy) List.Pairwise.nil
  unfold forIdx
  exact List.Pairwise.filter _ (List.pairwise_lt_range)
theorem ord_mem (l : List Int) (k : Nat) : k ∈ ord l ↔ k < l.length ∧ 128 ≤ l.getD k 0 := by
  unfold ord forIdx
  rw [isort_mem]
  simp
theorem ord_len (l : List Int) : (ord l).length = (l.filter fun c => decide (128 ≤ c)).length := by
  unfold ord forIdx
  rw [isort_len]
  simp only [List.length_nil, Nat.zero_add]
  have : l = (List.range l.length).map fun k => l.getD k 0 := by
    apply List.ext_getElem
    · simp
    · intro i h1 h2; simp [List.getElem?_eq_getElem h1]
  conv => rhs; rw [this]
  rw [List.filter_map, List.length_map]
  rfl

/-- How many of those to the left stand when this one is put in. -/
def stand (l : List Int) (c : Nat) : Nat := (l.take c).countP fun x => decide (x ≤ l.getD c 0)
theorem stand_le (l : List Int) (c : Nat) : stand l c ≤ c := by
  unfold stand
  have h1 := List.countP_le_length (p := fun x => decide (x ≤ l.getD c 0)) (l := l.take c)
  have h2 := List.length_take_le c l
  omega
theorem stand_same (l : List Int) (a b : Nat) (hab : a < b) (hb : b < l.length) (h : l.getD a 0 = l.getD b 0) : stand l a + 1 ≤ stand l b := by
  unfold stand
  rw [h]
  have e : l.take b = l.take a ++ (l.drop a).take (b - a) := by
    have := List.take_add (i := a) (j := b - a) (l := l)
    rw [show a + (b - a) = b from by omega] at this
    exact this
  rw [e, List.countP_append]
  have : 1 ≤ ((l.drop a).take (b - a)).countP fun x => decide (x ≤ l.getD b 0) := by
    have ha : a < l.length := by omega
    rw [List.drop_eq_getElem_cons ha]
    obtain ⟨m, hm⟩ : ∃ m, b - a = m + 1 := ⟨b - a - 1, by omega⟩
    rw [hm, List.take_succ_cons, List.countP_cons]
    have : l[a] = l.getD a 0 := by simp [List.getElem?_eq_getElem ha]
    rw [this, h]
    simp
  omega

/-- The numbers of a row of letters that are put in: each with its code point and its place. -/
def encWays : List (Int × Int) → Int → Int → Int → Int → Bool → List UInt8
  | [], _, _, _, _, _ => []
  | (m, j) :: r, bias, n, i, count, first =>
    writ ((m - n) * (count + 1) + j - (i + 1)) 0 bias ++ encWays r (after ((m - n) * (count + 1) + j - (i + 1)) (count + 1) first) m j (count + 1) false
def wayAt (l : List Int) (c : Nat) : Int × Int := (l.getD c 0, (stand l c : Int))
def plainOf (l : List Int) : List UInt8 := (l.filter fun c => decide (c < 128)).map fun c => UInt8.ofNat c.toNat
def headOf (l : List Int) : List UInt8 := plainOf l ++ if 0 < (plainOf l).length then [45] else []
/-- The code of letters. -/
def enc (l : List Int) : List UInt8 := headOf l ++ encWays ((ord l).map (wayAt l)) 72 128 (-1) (plainOf l).length true

theorem plain_ord (l : List Int) : (plainOf l).length + (ord l).length = l.length := by
  rw [ord_len]
  unfold plainOf
  rw [List.length_map]
  induction l with
  | nil => rfl
  | cons c l ih =>
    simp only [List.filter_cons]
    by_cases h : c < 128
    · rw [if_pos (by simpa using h), if_neg (by simpa using h)]; simp only [List.length_cons]; omega
    · rw [if_neg (by simpa using h), if_pos (by simp; omega)]; simp only [List.length_cons]; omega

/-- Which letters stand, when those of 'done' have been put in. -/
def flags (l : List Int) (done : List Nat) : List Bool := (List.range l.length).map fun k => decide (l.getD k 0 < 128) || decide (k ∈ done)
theorem flags_len (l : List Int) (done : List Nat) : (flags l done).length = l.length := by simp [flags]
theorem flags_at (l : List Int) (done : List Nat) (k : Nat) (h : k < l.length) : (flags l done).getD k false = (decide (l.getD k 0 < 128) || decide (k ∈ done)) := by
  simp [flags, List.getElem?_range h]
theorem flags_no (l : List Int) (done todo : List Nat) (ho : ord l = done ++ todo) (k : Nat) (h : k < l.length) (hf : (flags l done).getD k false = false) : k ∈ todo := by
  rw [flags_at l done k h] at hf
  simp only [Bool.or_eq_false_iff, decide_eq_false_iff_not] at hf
  have : k ∈ ord l := (ord_mem l k).2 ⟨h, by omega⟩
  rw [ho] at this
  rcases List.mem_append.1 this with h1 | h1
  · exact absurd h1 hf.2
  · exact h1
theorem flags_todo (l : List Int) (done todo : List Nat) (ho : ord l = done ++ todo) (k : Nat) (h : k ∈ todo) : k < l.length ∧ 128 ≤ l.getD k 0 ∧ (flags l done).getD k false = false := by
  have hm : k ∈ ord l := by rw [ho]; exact List.mem_append_right _ h
  have h1 := (ord_mem l k).1 hm
  refine ⟨h1.1, h1.2, ?_⟩
  rw [flags_at l done k h1.1]
  simp only [Bool.or_eq_false_iff, decide_eq_false_iff_not]
  refine ⟨by omega, fun hd => ?_⟩
  have hp := ord_ahead l
  rw [ho, List.pairwise_append] at hp
  have := hp.2.2 k hd k h
  unfold Ahead at this
  omega
/-- The lowest, of the same ones the left one, of those that do not stand yet: the next. -/
theorem least_is (l : List Int) (done todo : List Nat) (c0 c : Nat) (ho : ord l = done ++ c0 :: todo) (hc : c < l.length) (hf : (flags l done).getD c false = false)
    (hmin : ∀ j, j < l.length → (flags l done).getD j false = false → l.getD c 0 < l.getD j 0 ∨ (l.getD c 0 = l.getD j 0 ∧ c ≤ j)) : c = c0 := by
  have h1 := flags_no l done (c0 :: todo) ho c hc hf
  rcases List.mem_cons.1 h1 with h1 | h1
  · exact h1
  · have h2 := flags_todo l done (c0 :: todo) ho c0 (List.mem_cons_self ..)
    have h3 := hmin c0 h2.1 h2.2.2
    have hp := ord_ahead l
    rw [ho, List.pairwise_append] at hp
    have h4 := (List.pairwise_cons.1 hp.2.1).1 c h1
    unfold Ahead at h4
    omega
/-- How many stand to the left of the next. -/
theorem stand_flags (l : List Int) (done todo : List Nat) (c0 : Nat) (ho : ord l = done ++ c0 :: todo) : ((flags l done).take c0).countP id = stand l c0 := by
  have h2 := flags_todo l done (c0 :: todo) ho c0 (List.mem_cons_self ..)
  unfold stand
  have key : ∀ k, k < c0 → (flags l done).getD k false = decide (l.getD k 0 ≤ l.getD c0 0) := by
    intro k hk
    rw [flags_at l done k (by omega), Bool.eq_iff_iff]
    simp only [Bool.or_eq_true, decide_eq_true_eq]
    have hp := ord_ahead l
    rw [ho, List.pairwise_append] at hp
    constructor
    · rintro (h | h)
      · omega
      · have := hp.2.2 k h c0 (List.mem_cons_self ..)
        unfold Ahead at this; omega
    · intro h
      by_cases h1 : l.getD k 0 < 128
      · exact .inl h1
      · right
        have hm : k ∈ ord l := (ord_mem l k).2 ⟨by omega, by omega⟩
        rw [ho] at hm
        rcases List.mem_append.1 hm with hm | hm
        · exact hm
        · rcases List.mem_cons.1 hm with hm | hm
          · omega
          · have := (List.pairwise_cons.1 hp.2.1).1 k hm
            unfold Ahead at this; omega
  have e : (flags l done).take c0 = (l.take c0).map fun x => decide (x ≤ l.getD c0 0) := by
    apply List.ext_getElem
    · simp [flags_len]
    · intro k h1 h3
      have hk : k < c0 := by simp [flags_len] at h1; omega
      have := key k hk
      have hkl : k < (flags l done).length := by rw [flags_len]; omega
      have hkl2 : k < l.length := by omega
      simp only [List.getElem_take, List.getElem_map]
      simp only [List.getD_eq_getElem?_getD, List.getElem?_eq_getElem hkl, List.getElem?_eq_getElem hkl2, Option.getD_some] at this ⊢
      exact this
  rw [e, List.countP_map]
  rfl
theorem flags_step (l : List Int) (done todo : List Nat) (c0 : Nat) (ho : ord l = done ++ c0 :: todo) : (flags l done).set c0 true = flags l (done ++ [c0]) := by
  have h2 := flags_todo l done (c0 :: todo) ho c0 (List.mem_cons_self ..)
  apply List.ext_getElem
  · simp [flags_len]
  · intro k h1 h3
    simp only [List.getElem_set, flags, List.getElem_map, List.getElem_range]
    split
    · rename_i h; subst h; simp
    · rename_i h
      simp only [List.mem_append, List.mem_singleton]
      have : k ≠ c0 := fun e => h e.symm
      simp [this]
theorem flags_zero (l : List Int) : flags l [] = l.map fun c => decide (c < 128) := by
  apply List.ext_getElem
  · simp [flags_len]
  · intro k h1 h2
    have : k < l.length := by simpa using h2
    simp [flags, List.getElem?_eq_getElem this]
theorem stand_le_count (l : List Int) (done todo : List Nat) (c0 : Nat) (ho : ord l = done ++ c0 :: todo) : stand l c0 ≤ (flags l done).countP id := by
  rw [← stand_flags l done todo c0 ho]
  conv => rhs; rw [← List.take_append_drop c0 (flags l done)]
  rw [List.countP_append]; omega
end Sx
namespace Sx
theorem flags_count_n (l : List Int) : ∀ n, n ≤ (ord l).length → (flags l ((ord l).take n)).countP id = (plainOf l).length + n := by
  intro n
  induction n with
  | zero =>
    intro _
    rw [List.take_zero, flags_zero, List.countP_map]
    unfold plainOf
    rw [List.length_map, List.countP_eq_length_filter]
    rfl
  | succ n ih =>
    intro h
    have h1 : n < (ord l).length := by omega
    have ho : ord l = (ord l).take n ++ (ord l)[n] :: (ord l).drop (n + 1) := by
      rw [← List.drop_eq_getElem_cons h1, List.take_append_drop]
    have h2 := flags_todo l _ _ ho (ord l)[n] (List.mem_cons_self ..)
    rw [List.take_succ_eq_append_getElem h1, ← flags_step l _ _ _ ho]
    have hlt : (ord l)[n] < (flags l ((ord l).take n)).length := by rw [flags_len]; exact h2.1
    have hfl : (flags l ((ord l).take n))[(ord l)[n]] = false := by
      have := h2.2.2
      simpa [List.getElem?_eq_getElem hlt] using this
    have h3 := ih (by omega)
    rw [List.set_eq_take_append_cons_drop, if_pos hlt, List.countP_append, List.countP_cons]
    conv at h3 => lhs; rw [← List.take_append_drop (ord l)[n] (flags l ((ord l).take n)), List.drop_eq_getElem_cons hlt]
    rw [List.countP_append, List.countP_cons, hfl] at h3
    simp only [id, if_true, Bool.false_eq_true, if_false] at h3 ⊢
    omega
theorem flags_count (l : List Int) (done todo : List Nat) (ho : ord l = done ++ todo) : (flags l done).countP id = (plainOf l).length + done.length := by
  have := flags_count_n l done.length (by rw [ho]; simp)
  rw [ho, List.take_left] at this
  exact this
theorem stand_le_put (l : List Int) (done todo : List Nat) (c0 : Nat) (ho : ord l = done ++ c0 :: todo) : stand l c0 ≤ (plainOf l).length + done.length := by
  rw [← flags_count l done _ ho]; exact stand_le_count l done todo c0 ho

/-- The search for the next letter, k letters looked at. -/
def MinAt (l : List Int) (fl : List Bool) (k : Nat) (c : Int) : Prop :=
  (c = -1 ∧ ∀ j, j < k → fl.getD j false = true) ∨
  ∃ cn : Nat, c = cn ∧ cn < k ∧ fl.getD cn false = false ∧ ∀ j, j < k → fl.getD j false = false → l.getD cn 0 < l.getD j 0 ∨ (l.getD cn 0 = l.getD j 0 ∧ cn ≤ j)
theorem MinAt.zero (l : List Int) (fl : List Bool) : MinAt l fl 0 (-1) := .inl ⟨rfl, fun j h => by omega⟩
theorem MinAt.skip {l : List Int} {fl : List Bool} {k : Nat} {c : Int} (h : MinAt l fl k c) (hf : fl.getD k false = true) : MinAt l fl (k + 1) c := by
  rcases h with ⟨rfl, h⟩ | ⟨cn, rfl, h1, h2, h3⟩
  · exact .inl ⟨rfl, fun j hj => by rcases Nat.lt_or_ge j k with h4 | h4; exact h j h4; rw [show j = k from by omega]; exact hf⟩
  · refine .inr ⟨cn, rfl, by omega, h2, fun j hj hj2 => ?_⟩
    rcases Nat.lt_or_ge j k with h4 | h4
    · exact h3 j h4 hj2
    · rw [show j = k from by omega, hf] at hj2; cases hj2
theorem MinAt.first {l : List Int} {fl : List Bool} {k : Nat} {c : Int} (h : MinAt l fl k c) (hc : c < 0) (hf : fl.getD k false = false) : MinAt l fl (k + 1) k := by
  rcases h with ⟨rfl, h⟩ | ⟨cn, rfl, h1, h2, h3⟩
  · refine .inr ⟨k, rfl, by omega, hf, fun j hj hj2 => ?_⟩
    rcases Nat.lt_or_ge j k with h4 | h4
    · rw [h j h4] at hj2; cases hj2
    · rw [show j = k from by omega]; exact .inr ⟨rfl, Nat.le_refl _⟩
  · omega
theorem MinAt.less {l : List Int} {fl : List Bool} {k cn : Nat} (h : MinAt l fl k cn) (hf : fl.getD k false = false) (hl : l.getD k 0 < l.getD cn 0) : MinAt l fl (k + 1) k := by
  rcases h with ⟨h, _⟩ | ⟨cn', h0, h1, h2, h3⟩
  · omega
  · have : cn' = cn := by omega
    subst this
    refine .inr ⟨k, rfl, by omega, hf, fun j hj hj2 => ?_⟩
    rcases Nat.lt_or_ge j k with h4 | h4
    · have := h3 j h4 hj2; omega
    · rw [show j = k from by omega]; exact .inr ⟨rfl, Nat.le_refl _⟩
theorem MinAt.keep {l : List Int} {fl : List Bool} {k cn : Nat} (h : MinAt l fl k cn) (hl : ¬ l.getD k 0 < l.getD cn 0) : MinAt l fl (k + 1) cn := by
  rcases h with ⟨h, _⟩ | ⟨cn', h0, h1, h2, h3⟩
  · omega
  · have : cn' = cn := by omega
    subst this
    refine .inr ⟨cn', rfl, by omega, h2, fun j hj hj2 => ?_⟩
    rcases Nat.lt_or_ge j k with h4 | h4
    · exact h3 j h4 hj2
    · rw [show j = k from by omega]; omega
theorem MinAt.done {l : List Int} {done todo : List Nat} {c0 : Nat} {c : Int} (ho : ord l = done ++ c0 :: todo) (h : MinAt l (flags l done) l.length c) : c = c0 := by
  have h2 := flags_todo l done (c0 :: todo) ho c0 (List.mem_cons_self ..)
  rcases h with ⟨rfl, h⟩ | ⟨cn, rfl, h1, h3, h4⟩
  · rw [h c0 h2.1] at h2; cases h2.2.2
  · rw [least_is l done todo c0 cn ho h1 h3 h4]
theorem MinAt.nat {l : List Int} {fl : List Bool} {k : Nat} {c : Int} (h : MinAt l fl k c) (hc : ¬ c < 0) : ∃ cn : Nat, c = cn ∧ cn < k := by
  rcases h with ⟨rfl, _⟩ | ⟨cn, rfl, h1, _⟩
  · omega
  · exact ⟨cn, rfl, h1⟩
theorem MinAt.lo {l : List Int} {fl : List Bool} {k : Nat} {c : Int} (h : MinAt l fl k c) : -1 ≤ c ∧ c < k ∨ c = -1 := by
  rcases h with ⟨rfl, _⟩ | ⟨cn, rfl, h1, _⟩
  · exact .inr rfl
  · exact .inl (by omega)

/-- What is said of the letters that are still to come. -/
def Later (l : List Int) (todo : List Nat) (n i : Int) : Prop := ∀ c ∈ todo, n < l.getD c 0 ∨ (n = l.getD c 0 ∧ i + 1 ≤ (stand l c : Int))
theorem later_start (l : List Int) : Later l (ord l) 128 (-1) := fun c hc => by
  have := ((ord_mem l c).1 hc).2
  omega
theorem later_step (l : List Int) (done todo : List Nat) (c0 : Nat) (ho : ord l = done ++ c0 :: todo) : Later l todo (l.getD c0 0) (stand l c0) := fun c hc => by
  have hp := ord_ahead l
  rw [ho, List.pairwise_append] at hp
  have h4 := (List.pairwise_cons.1 hp.2.1).1 c hc
  have h2 := flags_todo l done (c0 :: todo) ho c (List.mem_cons_of_mem _ hc)
  rcases h4 with h4 | h4
  · exact .inl h4
  · have := stand_same l c0 c h4.2 h2.1 h4.1
    exact .inr ⟨h4.1, by omega⟩
theorem passed_nn (m n j i count : Int) (h : n < m ∨ (n = m ∧ i + 1 ≤ j)) (hi : i ≤ count) (hj : 0 ≤ j) (hc : 0 ≤ count) : 0 ≤ (m - n) * (count + 1) + j - (i + 1) := by
  rcases h with h | ⟨h, h2⟩
  · have : 1 * (count + 1) ≤ (m - n) * (count + 1) := Int.mul_le_mul_of_nonneg_right (by omega) (by omega)
    omega
  · rw [h]; simp; omega
theorem passed_le (m n j i count : Int) (hm : m ≤ 1114111) (hn : 128 ≤ n) (hi : -1 ≤ i) (hj : j ≤ 100) (hc : 0 ≤ count) (hc2 : count ≤ 100) : (m - n) * (count + 1) ≤ 1113983 * 101 ∧ (m - n) * (count + 1) + j - (i + 1) ≤ 113000000 := by
  by_cases h : 0 ≤ m - n
  · have h1 : (m - n) * (count + 1) ≤ 1113983 * (count + 1) := Int.mul_le_mul_of_nonneg_right (by omega) (by omega)
    omega
  · have h1 : (m - n) * (count + 1) ≤ 0 := by
      have := Int.mul_le_mul_of_nonneg_right (show m - n ≤ 0 by omega) (show 0 ≤ count + 1 by omega)
      simpa using this
    omega
end Sx
namespace Sx
theorem writF_len : ∀ (f : Nat) (d k bias : Int), (writF f d k bias).length ≤ f + 1 := by
  intro f
  induction f with
  | zero => intro d k bias; simp [writF]
  | succ f ih =>
    intro d k bias
    simp only [writF]
    split
    · have := ih ((d - thr k bias) / (36 - thr k bias)) (k + 1) bias; simp only [List.length_cons]; omega
    · simp
theorem writ_len (d k bias : Int) (h : d ≤ 113000000) : (writ d k bias).length ≤ 113000001 := by
  have := writF_len d.toNat d k bias
  unfold writ; omega
theorem head_len (l : List Int) (h : l.length ≤ 100) : (headOf l).length ≤ 101 := by
  have := plain_ord l
  unfold headOf
  split <;> simp <;> omega
end Sx
/- Plain mathematics of codes: reading them. -/
namespace Sx

/-- The last divider among the first k bytes; -1: there is none. -/
def dashTo (s : List UInt8) : Nat → Int
  | 0 => -1
  | k + 1 => if s.getD k 0 = 45 then (k : Int) else dashTo s k
def dash (s : List UInt8) : Int := dashTo s s.length
theorem dashTo_bd (s : List UInt8) : ∀ k : Nat, -1 ≤ dashTo s k ∧ dashTo s k < k := by
  intro k
  induction k with
  | zero => simp [dashTo]
  | succ k ih => simp only [dashTo]; split <;> omega

/-- One number: its value so far, the weight, how many digits were read. -/
def numF (bias : Int) : Int → Int → Nat → List UInt8 → Option (Int × List UInt8)
  | _, _, _, [] => none
  | d, w, k, x :: s =>
    if 7 < k then none
    else if valOf x < 0 then none
    else if valOf x < thr k bias then some (d + valOf x * w, s)
    else numF bias (d + valOf x * w) (w * (36 - thr k bias)) (k + 1) s
theorem numF_len (bias : Int) : ∀ (s : List UInt8) (d w : Int) (k : Nat) (d' : Int) (s' : List UInt8), numF bias d w k s = some (d', s') → s'.length < s.length := by
  intro s
  induction s with
  | nil => intro d w k d' s' h; simp [numF] at h
  | cons x s ih =>
    intro d w k d' s' h
    simp only [numF] at h
    split at h
    · simp at h
    · split at h
      · simp at h
      · split at h
        · simp only [Option.some.injEq, Prod.mk.injEq] at h; rw [← h.2]; simp
        · have := ih _ _ _ _ _ h; simp; omega
/-- A letter put in. -/
def putIn (l : List Int) (i n : Int) : List Int := l.take i.toNat ++ (n :: l.drop i.toNat)
theorem putIn_len (l : List Int) (i n : Int) : (putIn l i n).length = l.length + 1 := by
  unfold putIn
  simp only [List.length_append, List.length_take, List.length_cons, List.length_drop]
  omega
/-- All numbers. -/
def decF : Nat → List Int → Int → Int → Int → Bool → List UInt8 → Option (List Int)
  | _, l, _, _, _, _, [] => some l
  | 0, _, _, _, _, _, _ :: _ => none
  | f + 1, l, bias, n, i, first, x :: s =>
    match numF bias 0 1 0 (x :: s) with
    | none => none
    | some (d, s') =>
      if 1114111 < n + (i + d) / ((l.length : Int) + 1) ∨ (55296 ≤ n + (i + d) / ((l.length : Int) + 1) ∧ n + (i + d) / ((l.length : Int) + 1) ≤ 57343) then none
      else decF f (putIn l ((i + d) % ((l.length : Int) + 1)) (n + (i + d) / ((l.length : Int) + 1))) (after d ((l.length : Int) + 1) first) (n + (i + d) / ((l.length : Int) + 1)) ((i + d) % ((l.length : Int) + 1) + 1) false s'
def decL (l : List Int) (bias n i : Int) (first : Bool) (s : List UInt8) : Option (List Int) := decF s.length l bias n i first s
theorem decF_fuel : ∀ (f g : Nat) (l : List Int) (bias n i : Int) (first : Bool) (s : List UInt8), s.length ≤ f → s.length ≤ g → decF f l bias n i first s = decF g l bias n i first s := by
  intro f
  induction f with
  | zero =>
    intro g l bias n i first s hf hg
    cases s with
    | nil => cases g <;> rfl
    | cons x s => simp at hf
  | succ f ih =>
    intro g l bias n i first s hf hg
    cases s with
    | nil => cases g <;> rfl
    | cons x s =>
      cases g with
      | zero => simp at hg
      | succ g =>
        simp only [decF]
        cases h : numF bias 0 1 0 (x :: s) with
        | none => rfl
        | some p =>
          obtain ⟨d, s'⟩ := p
          have := numF_len _ _ _ _ _ _ _ h
          simp only [List.length_cons] at hf hg this
          simp only
          split
          · rfl
          · exact ih g _ _ _ _ _ _ (by omega) (by omega)
theorem decL_nil (l : List Int) (bias n i : Int) (first : Bool) : decL l bias n i first [] = some l := rfl
theorem decL_no (l : List Int) (bias n i : Int) (first : Bool) (s : List UInt8) (hs : s ≠ []) (h : numF bias 0 1 0 s = none) : decL l bias n i first s = none := by
  cases s with
  | nil => exact absurd rfl hs
  | cons x s => simp only [decL, List.length_cons, decF, h]
theorem decL_bad (l : List Int) (bias n i : Int) (first : Bool) (s : List UInt8) (d : Int) (s' : List UInt8) (h : numF bias 0 1 0 s = some (d, s'))
    (hb : 1114111 < n + (i + d) / ((l.length : Int) + 1) ∨ (55296 ≤ n + (i + d) / ((l.length : Int) + 1) ∧ n + (i + d) / ((l.length : Int) + 1) ≤ 57343)) : decL l bias n i first s = none := by
  cases s with
  | nil => simp [numF] at h
  | cons x s => simp only [decL, List.length_cons, decF, h]; rw [if_pos hb]
theorem decL_more (l : List Int) (bias n i : Int) (first : Bool) (s : List UInt8) (d : Int) (s' : List UInt8) (h : numF bias 0 1 0 s = some (d, s'))
    (hb : ¬ (1114111 < n + (i + d) / ((l.length : Int) + 1) ∨ (55296 ≤ n + (i + d) / ((l.length : Int) + 1) ∧ n + (i + d) / ((l.length : Int) + 1) ≤ 57343))) :
    decL l bias n i first s = decL (putIn l ((i + d) % ((l.length : Int) + 1)) (n + (i + d) / ((l.length : Int) + 1))) (after d ((l.length : Int) + 1) first) (n + (i + d) / ((l.length : Int) + 1)) ((i + d) % ((l.length : Int) + 1) + 1) false s' := by
  cases s with
  | nil => simp [numF] at h
  | cons x s =>
    have hl := numF_len _ _ _ _ _ _ _ h
    simp only [List.length_cons] at hl
    simp only [decL, List.length_cons, decF, h]
    rw [if_neg hb, decF_fuel s.length s'.length _ _ _ _ _ _ (by omega) (Nat.le_refl _)]
/-- The letters of a code, ahead of asking whether they give the code again. -/
def dec (s : List UInt8) : Option (List Int) :=
  if (s.length : Int) ≤ dash s + 1 then none
  else decL ((s.take (dash s).toNat).map fun c => (c.toNat : Int)) 72 128 0 true (s.drop (dash s + 1).toNat)

theorem numF_end (bias d w : Int) (k : Nat) (s : List UInt8) (p : Nat) (h : s.length ≤ p) : numF bias d w k (s.drop p) = none := by
  rw [List.drop_eq_nil_of_le h]; rfl
theorem numF_many (bias d w : Int) (k : Nat) (s : List UInt8) (p : Nat) (h : p < s.length) (hk : 7 < k) : numF bias d w k (s.drop p) = none := by
  rw [drop_get s p h]; simp only [numF]; rw [if_pos hk]
theorem numF_val (bias d w : Int) (k : Nat) (s : List UInt8) (p : Nat) (h : p < s.length) (hv : valOf s[p] < 0) : numF bias d w k (s.drop p) = none := by
  rw [drop_get s p h]; simp only [numF]; rw [if_pos hv]; split <;> rfl
theorem numF_last (bias d w : Int) (k : Nat) (s : List UInt8) (p : Nat) (h : p < s.length) (hk : ¬ 7 < k) (hv : ¬ valOf s[p] < 0) (ht : valOf s[p] < thr k bias) : numF bias d w k (s.drop p) = some (d + valOf s[p] * w, s.drop (p + 1)) := by
  rw [drop_get s p h]; simp only [numF]; rw [if_neg hk, if_neg hv, if_pos ht]
theorem numF_more (bias d w : Int) (k : Nat) (s : List UInt8) (p : Nat) (h : p < s.length) (hk : ¬ 7 < k) (hv : ¬ valOf s[p] < 0) (ht : ¬ valOf s[p] < thr k bias) : numF bias d w k (s.drop p) = numF bias (d + valOf s[p] * w) (w * (36 - thr k bias)) (k + 1) (s.drop (p + 1)) := by
  rw [drop_get s p h]; conv => lhs; simp only [numF]
  rw [if_neg hk, if_neg hv, if_neg ht]

/-- How great a number and its weight can get. -/
def Wt (d w : Int) (k : Nat) : Prop := 0 ≤ d ∧ d < 36 ^ k ∧ 1 ≤ w ∧ w ≤ 36 ^ k
theorem Wt.zero : Wt 0 1 0 := by unfold Wt; simp
theorem Wt.put {d w : Int} {k : Nat} (h : Wt d w k) (v : Int) (h0 : 0 ≤ v) (h1 : v < 36) : 0 ≤ v * w ∧ d + v * w < 36 ^ (k + 1) := by
  obtain ⟨a, b, c, e⟩ := h
  have h2 : v * w ≤ 35 * w := Int.mul_le_mul_of_nonneg_right (by omega) (by omega)
  have h3 : 0 ≤ v * w := Int.mul_nonneg h0 (by omega)
  rw [Int.pow_succ]
  refine ⟨h3, ?_⟩
  generalize (36 : Int) ^ k = p at *
  omega
theorem Wt.step {d w : Int} {k : Nat} (h : Wt d w k) (v t : Int) (h0 : 0 ≤ v) (h1 : v < 36) (ht : 1 ≤ t) (ht2 : t ≤ 26) : Wt (d + v * w) (w * (36 - t)) (k + 1) := by
  have hp := h.put v h0 h1
  obtain ⟨a, b, c, e⟩ := h
  refine ⟨by omega, hp.2, ?_, ?_⟩
  · have : w * 1 ≤ w * (36 - t) := Int.mul_le_mul_of_nonneg_left (by omega) (by omega)
    omega
  · have h2 : w * (36 - t) ≤ w * 36 := Int.mul_le_mul_of_nonneg_left (by omega) (by omega)
    rw [Int.pow_succ]
    generalize (36 : Int) ^ k = p at *
    omega
theorem pow36 (k : Nat) (hk : k ≤ 8) : (36 : Int) ^ k ≤ 2821109907456 := by
  have : k = 0 ∨ k = 1 ∨ k = 2 ∨ k = 3 ∨ k = 4 ∨ k = 5 ∨ k = 6 ∨ k = 7 ∨ k = 8 := by omega
  rcases this with rfl | rfl | rfl | rfl | rfl | rfl | rfl | rfl | rfl <;> decide
theorem Wt.bd {d w : Int} {k : Nat} (h : Wt d w k) (hk : k ≤ 8) : 0 ≤ d ∧ d ≤ 2821109907455 ∧ 1 ≤ w ∧ w ≤ 2821109907456 := by
  obtain ⟨a, b, c, e⟩ := h
  have := pow36 k hk
  omega
theorem pow8 (k : Nat) (hk : k ≤ 7) : (36 : Int) ^ (k + 1) ≤ 2821109907456 := pow36 (k + 1) (by omega)
theorem ediv_bd (a b : Int) (hb : 0 < b) (hb2 : b ≤ 101) (h : a / b ≤ 1114111) : a ≤ 112525312 := by
  have h1 : a < (a / b + 1) * b := Int.lt_ediv_add_one_mul_self a hb
  have h2 : (a / b + 1) * b ≤ 1114112 * b := Int.mul_le_mul_of_nonneg_right (by omega) (by omega)
  omega
theorem dash_step (s : List UInt8) (k : Nat) (h : k < s.length) : dashTo s (k + 1) = if s[k] = 45 then (k : Int) else dashTo s k := by
  have : s.getD k 0 = s[k] := by simp [List.getElem?_eq_getElem h]
  simp only [dashTo, this]
end Sx
/- Plain mathematics of hosts: labels, hosts, their plain forms, by the document's answer. -/
namespace Sx

def lower (c : Int) : Int := if 65 ≤ c ∧ c ≤ 90 then c + 32 else c
def okL (c : Int) : Bool := decide (128 ≤ c) || decide (97 ≤ c ∧ c ≤ 122) || decide (48 ≤ c ∧ c ≤ 57) || decide (c = 45)
def xn : List UInt8 := [120, 110, 45, 45]
/-- What a label's plain form must be, and whether it is one's own code. -/
def codeOk (s : List UInt8) : Bool := match dec s with
  | none => false
  | some l => enc l == s
def formOk (s : List UInt8) : Bool := decide (1 ≤ s.length) && decide (s.length ≤ 20) && !(s.getD 0 0 == 45) && !(s.getD (s.length - 1) 0 == 45)
def formOf (m : List Int) : List UInt8 := if m.any (fun c => decide (128 ≤ c)) then xn ++ enc m else text m
def label (l : List Int) : Option (List UInt8) :=
  if (l.map lower).all okL then
    if formOk (formOf (l.map lower)) then
      if (!(l.map lower).any (fun c => decide (128 ≤ c))) && decide (4 ≤ (formOf (l.map lower)).length) && ((formOf (l.map lower)).take 4 == xn) then
        if codeOk ((formOf (l.map lower)).drop 4) then some (formOf (l.map lower)) else none
      else some (formOf (l.map lower))
    else none
  else none

/-- Is one of them foreign? -/
def forE (l : List Int) : Bool := (l.map lower).any fun c => decide (128 ≤ c)
def okE (l : List Int) : Bool := (l.map lower).all okL
theorem lower_bd (c : Int) (h : 0 ≤ c) (h2 : c ≤ 1114111) : 0 ≤ lower c ∧ lower c ≤ 1114111 := by unfold lower; split <;> omega
theorem label_nil : label [] = none := by
  unfold label; simp [formOf, text, formOk]
end Sx
/- Plain mathematics of hosts: hosts, their plain and shown forms, by the document's answer. -/
namespace Sx

/-- The labels of letters, from the left; 'cur': what stands since the last dot. -/
def hostGo : List Int → List Int → Option (List (List UInt8))
  | [], cur => match label cur with
    | none => none
    | some x => some [x]
  | c :: r, cur => if c = 46 then (match label cur with
      | none => none
      | some x => (hostGo r []).map (x :: ·)) else hostGo r (cur ++ [c])
def allLen (h : List (List UInt8)) : Nat := (h.map fun x => x.length + 1).sum
def digs (s : List UInt8) : Bool := s.all fun c => decide (48 ≤ c.toNat) && decide (c.toNat ≤ 57)
def hostEnd (h : List (List UInt8)) : List (List UInt8) × Int :=
  if digs (h.getD (h.length - 1) []) || decide (6 < h.length) || decide (61 < allLen h) then ([], 2) else (h, 0)
def host (s : List UInt8) : List (List UInt8) × Int :=
  if 60 < s.length then ([], 1)
  else match letters s with
    | none => ([], 2)
    | some l => match hostGo l [] with
      | none => ([], 2)
      | some h => hostEnd h
def dotted : List (List UInt8) → List UInt8
  | [] => []
  | x :: r => x ++ r.flatMap fun y => 46 :: y
def shownOf (x : List UInt8) : List UInt8 := if decide (4 < x.length) && (x.take 4 == xn) then text ((dec (x.drop 4)).getD []) else x
def plainR (s : List UInt8) : List UInt8 × Int := (dotted (host s).1, (host s).2)
def shownR (s : List UInt8) : List UInt8 × Int := (dotted ((host s).1.map shownOf), (host s).2)

theorem dotted_snoc (h : List (List UInt8)) (x : List UInt8) : dotted (h ++ [x]) = if h = [] then x else dotted h ++ 46 :: x := by
  cases h with
  | nil => simp [dotted]
  | cons y r => simp [dotted, List.flatMap_append]
theorem allLen_snoc (h : List (List UInt8)) (x : List UInt8) : allLen (h ++ [x]) = allLen h + (x.length + 1) := by simp [allLen]
theorem dotted_len (h : List (List UInt8)) : (dotted h).length ≤ allLen h := by
  cases h with
  | nil => simp [dotted]
  | cons y r =>
    have : ∀ r : List (List UInt8), (r.flatMap fun y => 46 :: y).length = allLen r := by
      intro r
      induction r with
      | nil => rfl
      | cons z r ih => simp only [List.flatMap_cons, List.length_append, List.length_cons, ih, allLen, List.map_cons, List.sum_cons]
    simp only [dotted, List.length_append, this, allLen, List.map_cons, List.sum_cons]
    omega

/-- What stands between two places. -/
def between (l : List Int) (f k : Nat) : List Int := (l.take k).drop f
theorem between_len (l : List Int) (f k : Nat) (h1 : f ≤ k) (h2 : k ≤ l.length) : (between l f k).length = k - f := by simp [between]; omega
theorem between_get (l : List Int) (f k j : Nat) (h2 : k ≤ l.length) (hj : j < (between l f k).length) : (between l f k)[j] = l[f + j]'(by simp [between] at hj; omega) := by
  simp [between]
theorem between_same (l : List Int) (k : Nat) : between l k k = [] := by simp [between]
theorem between_more (l : List Int) (f k : Nat) (h1 : f ≤ k) (h2 : k < l.length) : between l f (k + 1) = between l f k ++ [l[k]] := by
  unfold between
  rw [List.take_succ_eq_append_getElem h2, List.drop_append_of_le_length (by simp; omega)]
/-- Where the reading of a host stands. -/
def HostAt (l : List Int) (k f : Nat) (pre : List (List UInt8)) : Prop :=
  (k ≤ l.length ∧ f ≤ k ∧ (hostGo (l.drop k) (between l f k)).map (pre ++ ·) = hostGo l []) ∨ (k = l.length + 1 ∧ hostGo l [] = some pre)
theorem HostAt.zero (l : List Int) : HostAt l 0 0 [] := .inl ⟨Nat.zero_le _, Nat.le_refl _, by simp [between]⟩
theorem HostAt.skip {l : List Int} {k f : Nat} {pre : List (List UInt8)} (h : HostAt l k f pre) (hk : k < l.length) (hc : l[k] ≠ 46) : HostAt l (k + 1) f pre := by
  rcases h with ⟨h1, h2, h3⟩ | ⟨h1, _⟩
  · refine .inl ⟨by omega, by omega, ?_⟩
    rw [← h3, List.drop_eq_getElem_cons hk, between_more l f k h2 hk]
    simp only [hostGo]; rw [if_neg hc]
  · omega
theorem HostAt.bad {l : List Int} {k f : Nat} {pre : List (List UInt8)} (h : HostAt l k f pre) (hk : k ≤ l.length) (hc : ∀ h : k < l.length, l[k] = 46) (hl : label (between l f k) = none) : hostGo l [] = none := by
  rcases h with ⟨h1, h2, h3⟩ | ⟨h1, _⟩
  · rw [← h3]
    by_cases hlt : k < l.length
    · rw [List.drop_eq_getElem_cons hlt]; simp only [hostGo]; rw [if_pos (hc hlt), hl]; rfl
    · rw [List.drop_eq_nil_of_le (by omega)]; simp only [hostGo, hl]; rfl
  · omega
theorem HostAt.more {l : List Int} {k f : Nat} {pre : List (List UInt8)} {x : List UInt8} (h : HostAt l k f pre) (hk : k ≤ l.length) (hc : ∀ h : k < l.length, l[k] = 46) (hl : label (between l f k) = some x) : HostAt l (k + 1) (k + 1) (pre ++ [x]) := by
  rcases h with ⟨h1, h2, h3⟩ | ⟨h1, _⟩
  · by_cases hlt : k < l.length
    · refine .inl ⟨by omega, Nat.le_refl _, ?_⟩
      rw [← h3, List.drop_eq_getElem_cons hlt, between_same]
      conv => rhs; simp only [hostGo]
      rw [if_pos (hc hlt), hl]
      simp only [Option.map_map]
      congr 1
      funext y; simp
    · refine .inr ⟨by omega, ?_⟩
      rw [← h3, List.drop_eq_nil_of_le (by omega)]
      simp only [hostGo, hl, Option.map_some]
  · omega
theorem HostAt.done {l : List Int} {k f : Nat} {pre : List (List UInt8)} (h : HostAt l k f pre) (hk : l.length < k) : hostGo l [] = some pre ∧ k = l.length + 1 := by
  rcases h with ⟨h1, _, _⟩ | ⟨h1, h2⟩
  · omega
  · exact ⟨h2, h1⟩
end Sx
/- Plain mathematics of codes: reading a number with a bound, as the program does. -/
namespace Sx

def rdF (bias most : Int) : Int → Int → Nat → List UInt8 → Int × Int
  | _, _, _, [] => (0, 0)
  | d, w, k, x :: s =>
    if valOf x < 0 ∨ (most - d) / w < valOf x then (0, 0)
    else if valOf x < thr k bias then (d + valOf x * w, (k : Int) + 1)
    else rdF bias most (d + valOf x * w) (w * (36 - thr k bias)) (k + 1) s

theorem numF_mono (bias : Int) : ∀ (s : List UInt8) (d w : Int) (k : Nat) (d' : Int) (s' : List UInt8), 0 < w → numF bias d w k s = some (d', s') → d ≤ d' := by
  intro s
  induction s with
  | nil => intro d w k d' s' hw h; simp [numF] at h
  | cons x s ih =>
    intro d w k d' s' hw h
    simp only [numF] at h
    split at h
    · simp at h
    · split at h
      · simp at h
      · rename_i hv
        have hm : 0 ≤ valOf x * w := Int.mul_nonneg (by omega) (by omega)
        have t1 := thr_lo k bias
        have t2 := thr_hi k bias
        split at h
        · simp only [Option.some.injEq, Prod.mk.injEq] at h; omega
        · have := ih _ _ _ _ _ (Int.mul_pos hw (by omega)) h; omega

/-- What the bounded reading tells, by the other one. -/
def rdOf (most : Int) (k n : Nat) : Option (Int × List UInt8) → Int × Int
  | none => (0, 0)
  | some (d, s') => if d ≤ most then (d, (k : Int) + (n : Int) - (s'.length : Int)) else (0, 0)

theorem pow10 (k : Nat) : (1 : Int) ≤ 10 ^ k := by
  have := Int.pow_pos (n := 10) (m := k) (by omega); omega

theorem rd_num (bias most : Int) (hb : bias ≤ 262) (hm0 : 0 ≤ most) (hm : most < 260000000) : ∀ (s : List UInt8) (d w : Int) (k : Nat), 0 ≤ d → d ≤ most → 10 ^ k ≤ w → (8 ≤ k → 260000000 ≤ d) →
    rdF bias most d w k s = rdOf most k s.length (numF bias d w k s) := by
  intro s
  induction s with
  | nil => intro d w k h0 h1 hw hk; rfl
  | cons x s ih =>
    intro d w k h0 h1 hw hk
    have hp := pow10 k
    have hwp : 0 < w := by omega
    have hk7 : ¬ 7 < k := by
      intro h
      have := hk (by omega)
      omega
    simp only [rdF, numF]
    rw [if_neg hk7]
    by_cases hv : valOf x < 0
    · rw [if_pos (.inl hv), if_pos hv]; rfl
    · by_cases hq : (most - d) / w < valOf x
      · rw [if_pos (.inr hq), if_neg hv]
        have hbig : most < d + valOf x * w := by
          have := Int.lt_mul_of_ediv_lt hwp hq
          omega
        split
        · unfold rdOf; simp only; rw [if_neg (by omega)]
        · cases hn : numF bias (d + valOf x * w) (w * (36 - thr k bias)) (k + 1) s with
          | none => rfl
          | some p =>
            obtain ⟨d', s'⟩ := p
            have t2 := thr_hi k bias
            have := numF_mono bias s _ _ _ _ _ (Int.mul_pos hwp (by omega)) hn
            unfold rdOf; simp only; rw [if_neg (by omega)]
      · rw [if_neg (by omega), if_neg hv]
        have hle : d + valOf x * w ≤ most := by
          have h5 : valOf x ≤ (most - d) / w := by omega
          have := (Int.le_ediv_iff_mul_le hwp).1 h5
          omega
        have hm2 : 0 ≤ valOf x * w := Int.mul_nonneg (by omega) (by omega)
        by_cases ht : valOf x < thr k bias
        · rw [if_pos ht, if_pos ht]
          unfold rdOf
          simp only [List.length_cons]
          rw [if_pos hle]
          congr 1
          omega
        · rw [if_neg ht, if_neg ht]
          have t1 := thr_lo k bias
          have t2 := thr_hi k bias
          have hw2 : 10 ^ (k + 1) ≤ w * (36 - thr k bias) := by
            rw [Int.pow_succ]
            have a1 : (10 : Int) ^ k * 10 ≤ w * 10 := Int.mul_le_mul_of_nonneg_right hw (by omega)
            have a2 : w * 10 ≤ w * (36 - thr k bias) := Int.mul_le_mul_of_nonneg_left (by omega) (by omega)
            omega
          have hk2 : 8 ≤ k + 1 → 260000000 ≤ d + valOf x * w := by
            intro h8
            have hk77 : k = 7 := by omega
            subst hk77
            have e7 : (10 : Int) ^ 7 = 10000000 := by decide
            rw [e7] at hw
            have t7 : thr (7 : Nat) bias = 26 := by unfold thr; rw [if_neg (by omega)]; split <;> omega
            have : 26 * w ≤ valOf x * w := Int.mul_le_mul_of_nonneg_right (by omega) (by omega)
            omega
          rw [ih _ _ _ (by omega) hle hw2 hk2]
          unfold rdOf
          cases numF bias (d + valOf x * w) (w * (36 - thr k bias)) (k + 1) s with
          | none => rfl
          | some p =>
            obtain ⟨d', s'⟩ := p
            simp only [List.length_cons]
            split
            · congr 1; omega
            · rfl
/-- Reading a number, from the beginning. -/
theorem rd_zero (bias most : Int) (hb : bias ≤ 262) (hm0 : 0 ≤ most) (hm : most < 260000000) (s : List UInt8) : rdF bias most 0 1 0 s = rdOf most 0 s.length (numF bias 0 1 0 s) :=
  rd_num bias most hb hm0 hm s 0 1 0 (by omega) hm0 (by simp) (by omega)
theorem rdF_end (bias most d w : Int) (k : Nat) (s : List UInt8) (p : Nat) (h : s.length ≤ p) : rdF bias most d w k (s.drop p) = (0, 0) := by
  rw [List.drop_eq_nil_of_le h]; rfl
theorem rdF_no (bias most d w : Int) (k : Nat) (s : List UInt8) (p : Nat) (h : p < s.length) (hv : valOf s[p] < 0 ∨ (most - d) / w < valOf s[p]) : rdF bias most d w k (s.drop p) = (0, 0) := by
  rw [drop_get s p h]; simp only [rdF]; rw [if_pos hv]
theorem rdF_last (bias most d w : Int) (k : Nat) (s : List UInt8) (p : Nat) (h : p < s.length) (hv : ¬ (valOf s[p] < 0 ∨ (most - d) / w < valOf s[p])) (ht : valOf s[p] < thr k bias) : rdF bias most d w k (s.drop p) = (d + valOf s[p] * w, (k : Int) + 1) := by
  rw [drop_get s p h]; simp only [rdF]; rw [if_neg hv, if_pos ht]
theorem rdF_more (bias most d w : Int) (k : Nat) (s : List UInt8) (p : Nat) (h : p < s.length) (hv : ¬ (valOf s[p] < 0 ∨ (most - d) / w < valOf s[p])) (ht : ¬ valOf s[p] < thr k bias) : rdF bias most d w k (s.drop p) = rdF bias most (d + valOf s[p] * w) (w * (36 - thr k bias)) (k + 1) (s.drop (p + 1)) := by
  rw [drop_get s p h]; conv => lhs; simp only [rdF]
  rw [if_neg hv, if_neg ht]
end Sx
namespace Go.Proofs.YtgohllfpceeboaaGreatDoor
open Go.RowKit

theorem utf_a (c : Int) (h : c < 128) : Sx.utf c = [UInt8.ofNat c.toNat] := by unfold Sx.utf; rw [if_pos h]
theorem utf_b (c : Int) (h : 128 ≤ c) (h2 : c < 2048) : Sx.utf c = [UInt8.ofNat (192 + c / 64).toNat, UInt8.ofNat (128 + c % 64).toNat] := by unfold Sx.utf; rw [if_neg (by omega), if_pos h2]
theorem utf_c (c : Int) (h : 2048 ≤ c) (h2 : c < 65536) : Sx.utf c = [UInt8.ofNat (224 + c / 4096).toNat, UInt8.ofNat (128 + c / 64 % 64).toNat, UInt8.ofNat (128 + c % 64).toNat] := by unfold Sx.utf; rw [if_neg (by omega), if_neg (by omega), if_pos h2]
theorem utf_d (c : Int) (h : 65536 ≤ c) : Sx.utf c = [UInt8.ofNat (240 + c / 262144).toNat, UInt8.ofNat (128 + c / 4096 % 64).toNat, UInt8.ofNat (128 + c / 64 % 64).toNat, UInt8.ofNat (128 + c % 64).toNat] := by unfold Sx.utf; rw [if_neg (by omega), if_neg (by omega), if_neg (by omega)]

/-- What is owned behind a letter more. -/
theorem text_owned {w1 : World} {B : Nat} {v : Value} {l : List Int} {k m : Nat} {c : Int} {news : List Value} (hlt : k < l.length) (hc : l[k] = c) (hu : byV (Sx.utf c) = news) (hm : (Sx.utf c).length = m)
    (h : w1.ownsRow B 5 1 v ((Sx.text (l.take k)).length + m) (byV (Sx.text (l.take k)) ++ news)) : w1.ownsRow B 5 1 v (Sx.text (l.take (k + 1))).length (byV (Sx.text (l.take (k + 1)))) := by
  rw [Sx.take_snoc l k hlt, Sx.text_snoc, hc, byV_app, hu, List.length_append, hm]
  exact h

set_option maxRecDepth 100000 in
set_option maxHeartbeats 1000000 in
/-- suffixref.Text, of a slice that is not nil -/
theorem rtext_some (l : List Int) (b off cap : Nat) (w : World) (hl : l.length ≤ 1000) (hb : b < w.heap.size)
    (hr : ∀ j (h : j < l.length), w.cell? ⟨b, off + j, none⟩ = some (.int .i64 l[j])) (hv : ∀ c ∈ l, 0 ≤ c ∧ c ≤ 1114111) :
    Calls Tryz.prog 150 #[.slice (some ⟨b, off, none⟩) l.length cap] w fun e w' => e = .returned (.string ⟨(Sx.text l).toArray⟩) ∧ Below w.heap.size w w' := by
  obtain ⟨i0, hi, hz0, hz1, hz2⟩ := info_parts Tryz.info5
  go_enter Tryz.func150, Tryz.ntmps150
  go_wp2
  go_loopw [3, 4] (fun x n wr => ∃ (k : Nat), n = .int .i64 k ∧ k ≤ l.length ∧ wr.ownsRow w.heap.size 5 1 x (Sx.text (l.take k)).length (byV (Sx.text (l.take k))) ∧ Below w.heap.size w wr) (fun _ n _ => (l.length - intOf n).toNat)
  case atStart => exact ⟨0, rfl, by omega, by simpa [Sx.text, byV] using World.ownsRow_nil w _ 5 1, Below.refl _ _⟩
  case round =>
    obtain ⟨k, rfl, hk, hown, hB⟩ := hrel
    have hsz := hB.size
    by_cases hlt : k < l.length
    · have hcell : wr.cell? ⟨b, off + k, none⟩ = some (.int .i64 l[k]) := (hB.cell (p := ⟨b, off + k, none⟩) hb).trans (hr k hlt)
      have hvk := hv l[k] (List.getElem_mem hlt)
      have hlen := Sx.text_len (l.take k)
      have hlen2 : (l.take k).length ≤ k := List.length_take_le _ _
      obtain ⟨c, hcc⟩ : ∃ c, l[k] = c := ⟨_, rfl⟩
      rw [hcc] at hcell hvk
      have HC := hide hcc
      clear hcc hr hv
      by_cases c1 : c < 128
      · go_wp2_with (at_builtin; go_must (refine wpList_append_lies _ rfl _ _ _ rfl w.heap.size 5 i0 (.int .u8 0) 1 1 Tryz.underlying58 hi hz0 hz1 hz2 rfl (by decide) _ _ _ rfl (hown.alloc _) ⟨wr.heap.size, 0, none⟩ 1 1 [.int .u8 c] rfl rfl (cell_one_new _ _ _) (by simp [Value.oneCell']) (by omega) (by unfold maxLen; omega) (by omega) (by simp; omega) _ rfl ?_; intro g cap w1 hown1 hgrow hat hlt1))
        exact ⟨⟨k + 1, by go_num, by omega, text_owned hlt HC.out (by rw [utf_a c c1, byV, List.map_cons, List.map_nil, ← byV_one c (by omega) (by omega)]) (by rw [utf_a c c1]; rfl) hown1, below_app hB hsz hown hgrow⟩, by simp [intOf]; omega⟩
      · by_cases c2 : c < 2048
        · go_wp2_with (at_builtin; go_must (refine wpList_append_lies _ rfl _ _ _ rfl w.heap.size 5 i0 (.int .u8 0) 1 1 Tryz.underlying58 hi hz0 hz1 hz2 rfl (by decide) _ _ _ rfl (hown.alloc _) ⟨wr.heap.size, 0, none⟩ 2 2 [.int .u8 (192 + c / 64), .int .u8 (128 + c % 64)] rfl rfl (World.news_of_block (heap_alloc_new _ _)) (by simp [Value.oneCell']) (by omega) (by unfold maxLen; omega) (by omega) (by simp; omega) _ rfl ?_; intro g cap w1 hown1 hgrow hat hlt1))
          exact ⟨⟨k + 1, by go_num, by omega, text_owned hlt HC.out (by rw [utf_b c (by omega) c2]; simp only [byV, List.map_cons, List.map_nil]; rw [← byV_one _ (by omega) (by omega), ← byV_one _ (by omega) (by omega)]) (by rw [utf_b c (by omega) c2]; rfl) hown1, below_app hB hsz hown hgrow⟩, by simp [intOf]; omega⟩
        · by_cases c3 : c < 65536
          · go_wp2_with (at_builtin; go_must (refine wpList_append_lies _ rfl _ _ _ rfl w.heap.size 5 i0 (.int .u8 0) 1 1 Tryz.underlying58 hi hz0 hz1 hz2 rfl (by decide) _ _ _ rfl (hown.alloc _) ⟨wr.heap.size, 0, none⟩ 3 3 [.int .u8 (224 + c / 4096), .int .u8 (128 + c / 64 % 64), .int .u8 (128 + c % 64)] rfl rfl (World.news_of_block (heap_alloc_new _ _)) (by simp [Value.oneCell']) (by omega) (by unfold maxLen; omega) (by omega) (by simp; omega) _ rfl ?_; intro g cap w1 hown1 hgrow hat hlt1))
            exact ⟨⟨k + 1, by go_num, by omega, text_owned hlt HC.out (by rw [utf_c c (by omega) c3]; simp only [byV, List.map_cons, List.map_nil]; rw [← byV_one _ (by omega) (by omega), ← byV_one _ (by omega) (by omega), ← byV_one _ (by omega) (by omega)]) (by rw [utf_c c (by omega) c3]; rfl) hown1, below_app hB hsz hown hgrow⟩, by simp [intOf]; omega⟩
          · go_wp2_with (at_builtin; go_must (refine wpList_append_lies _ rfl _ _ _ rfl w.heap.size 5 i0 (.int .u8 0) 1 1 Tryz.underlying58 hi hz0 hz1 hz2 rfl (by decide) _ _ _ rfl (hown.alloc _) ⟨wr.heap.size, 0, none⟩ 4 4 [.int .u8 (240 + c / 262144), .int .u8 (128 + c / 4096 % 64), .int .u8 (128 + c / 64 % 64), .int .u8 (128 + c % 64)] rfl rfl (World.news_of_block (heap_alloc_new _ _)) (by simp [Value.oneCell']) (by omega) (by unfold maxLen; omega) (by omega) (by simp; omega) _ rfl ?_; intro g cap w1 hown1 hgrow hat hlt1))
            exact ⟨⟨k + 1, by go_num, by omega, text_owned hlt HC.out (by rw [utf_d c (by omega)]; simp only [byV, List.map_cons, List.map_nil]; rw [← byV_one _ (by omega) (by omega), ← byV_one _ (by omega) (by omega), ← byV_one _ (by omega) (by omega), ← byV_one _ (by omega) (by omega)]) (by rw [utf_d c (by omega)]; rfl) hown1, below_app hB hsz hown hgrow⟩, by simp [intOf]; omega⟩
    · have he := own_string hown
      have hk2 : l.take k = l := List.take_of_length_le (by omega)
      have HK := hide hk2
      clear hk2 hr hv
      go_wp2
      go_ret
      exact ⟨ret_str (by rw [HK.out]), hB⟩
end Go.Proofs.YtgohllfpceeboaaGreatDoor
namespace Go.Proofs.YtgohllfpceeboaaGreatDoor
open Go.RowKit

/-- suffixref.threshold -/
theorem rthr_any (k bias : Int) (w : World) (h1 : 0 ≤ k) (h2 : k ≤ 1000000000) (h3 : 0 ≤ bias) (h4 : bias ≤ 1000000) :
    Calls Tryz.prog 201 #[.int .i64 k, .int .i64 bias] w fun e w' => e = .returned (.int .i64 (Sx.thr k bias)) ∧ w' = w := by
  by_cases ha : 36 * (k + 1) - bias < 1
  · go_enter Tryz.func201, Tryz.ntmps201
    go_wp2
    go_ret
    exact ⟨ret_int (by unfold Sx.thr; rw [if_pos (by omega)]), rfl⟩
  · by_cases hb : 26 < 36 * (k + 1) - bias
    · go_enter Tryz.func201, Tryz.ntmps201
      go_wp2
      go_ret
      exact ⟨ret_int (by unfold Sx.thr; rw [if_neg (by omega), if_pos (by omega)]), rfl⟩
    · go_enter Tryz.func201, Tryz.ntmps201
      go_wp2
      go_ret
      exact ⟨ret_int (by unfold Sx.thr; rw [if_neg (by omega), if_neg (by omega)]), rfl⟩

set_option maxHeartbeats 400000 in
/-- suffixref.after -/
theorem rafter_any (d l : Int) (b : Bool) (w : World) (h1 : 0 ≤ d) (h2 : d ≤ 1000000000000) (h3 : 1 ≤ l) (h4 : l ≤ 1000000) :
    Calls Tryz.prog 202 #[.int .i64 d, .int .i64 l, .bool b] w fun e w' => e = .returned (.int .i64 (Sx.after d l b)) ∧ w' = w := by
  have key : ∀ x : Int, 0 ≤ x → 0 ≤ x / l ∧ x / l ≤ x := fun x h0 => ⟨Int.ediv_nonneg h0 (by omega), Int.ediv_le_self _ h0⟩
  have k1 := key (d / 2) (by omega)
  have k2 := key (d / 700) (by omega)
  clear key
  have hne : l ≠ 0 := by omega
  cases b
  all_goals
    go_enter Tryz.func202, Tryz.ntmps202
    go_wp2
  · go_loop [0, 7] (fun x n => ∃ dd nn : Int, x = .int .i64 dd ∧ n = .int .i64 nn ∧ 0 ≤ dd ∧ dd ≤ 3000000000000 ∧ 0 ≤ nn ∧ nn + dd ≤ 3000000000000 ∧ Sx.biasL dd nn = Sx.after d l false) (fun x _ => (intOf x).toNat)
    case atStart => exact ⟨_, _, rfl, rfl, by omega, by omega, by omega, by omega, rfl⟩
    case round =>
      obtain ⟨dd, nn, rfl, rfl, g1, g2, g3, g4, g5⟩ := hrel
      have G := hide g5
      clear g5
      by_cases hlt : 455 < dd
      · go_wp2
        go_round
        case rel => exact ⟨dd / 35, nn + 36, rfl, rfl, by omega, by omega, by omega, by omega, by rw [← Sx.biasL_more dd nn hlt]; exact G.out⟩
        case measure => simp [intOf]; omega
      · have hp : 0 ≤ 36 * dd / (dd + 38) ∧ 36 * dd / (dd + 38) < 37 := ⟨Int.ediv_nonneg (by omega) (by omega), Int.ediv_lt_of_lt_mul (by omega) (by omega)⟩
        go_wp2
        go_ret
        exact ⟨ret_int (by rw [← G.out, Sx.biasL_last dd nn (by omega)]), rfl⟩
  · go_loop [0, 7] (fun x n => ∃ dd nn : Int, x = .int .i64 dd ∧ n = .int .i64 nn ∧ 0 ≤ dd ∧ dd ≤ 3000000000000 ∧ 0 ≤ nn ∧ nn + dd ≤ 3000000000000 ∧ Sx.biasL dd nn = Sx.after d l true) (fun x _ => (intOf x).toNat)
    case atStart => exact ⟨_, _, rfl, rfl, by omega, by omega, by omega, by omega, rfl⟩
    case round =>
      obtain ⟨dd, nn, rfl, rfl, g1, g2, g3, g4, g5⟩ := hrel
      have G := hide g5
      clear g5
      by_cases hlt : 455 < dd
      · go_wp2
        go_round
        case rel => exact ⟨dd / 35, nn + 36, rfl, rfl, by omega, by omega, by omega, by omega, by rw [← Sx.biasL_more dd nn hlt]; exact G.out⟩
        case measure => simp [intOf]; omega
      · have hp : 0 ≤ 36 * dd / (dd + 38) ∧ 36 * dd / (dd + 38) < 37 := ⟨Int.ediv_nonneg (by omega) (by omega), Int.ediv_lt_of_lt_mul (by omega) (by omega)⟩
        go_wp2
        go_ret
        exact ⟨ret_int (by rw [← G.out, Sx.biasL_last dd nn (by omega)]), rfl⟩

theorem digs_cut (x : Int) (h0 : 0 ≤ x) (h : x < 36) : ByteArray.extract ⟨#[97, 98, 99, 100, 101, 102, 103, 104, 105, 106, 107, 108, 109, 110, 111, 112, 113, 114, 115, 116, 117, 118, 119, 120, 121, 122, 48, 49, 50, 51, 52, 53, 54, 55, 56, 57]⟩ x.toNat (x + 1).toNat = ⟨[Sx.dig x].toArray⟩ := by
  have k : ∀ x : Fin 36, ByteArray.extract ⟨#[97, 98, 99, 100, 101, 102, 103, 104, 105, 106, 107, 108, 109, 110, 111, 112, 113, 114, 115, 116, 117, 118, 119, 120, 121, 122, 48, 49, 50, 51, 52, 53, 54, 55, 56, 57]⟩ x.val (x.val + 1) = ⟨[Sx.dig (x.val : Int)].toArray⟩ := by decide +kernel
  obtain ⟨n, rfl⟩ := Int.eq_ofNat_of_zero_le h0
  have := k ⟨n, by omega⟩
  rw [show ((n : Int) + 1).toNat = n + 1 from by omega, Int.toNat_natCast]
  exact this
theorem digs_at (x : Nat) (h : x < 36) : ([97, 98, 99, 100, 101, 102, 103, 104, 105, 106, 107, 108, 109, 110, 111, 112, 113, 114, 115, 116, 117, 118, 119, 120, 121, 122, 48, 49, 50, 51, 52, 53, 54, 55, 56, 57] : List UInt8)[x]? = some (Sx.dig x) := by
  have : ∀ x : Fin 36, ([97, 98, 99, 100, 101, 102, 103, 104, 105, 106, 107, 108, 109, 110, 111, 112, 113, 114, 115, 116, 117, 118, 119, 120, 121, 122, 48, 49, 50, 51, 52, 53, 54, 55, 56, 57] : List UInt8)[x.val]? = some (Sx.dig x.val) := by decide
  exact this ⟨x, h⟩

set_option maxHeartbeats 400000 in
/-- suffixref.written -/
theorem rwrit_any (d bias : Int) (w : World) (h1 : 0 ≤ d) (h2 : d ≤ 1000000000) (h3 : 0 ≤ bias) (h4 : bias ≤ 1000000) :
    Calls Tryz.prog 243 #[.int .i64 d, .int .i64 bias] w fun e w' => e = .returned (.string ⟨(Sx.writ d 0 bias).toArray⟩) ∧ w' = w := by
  go_enter Tryz.func243, Tryz.ntmps243
  go_wp2
  go_loop [0, 5, 6] (fun x s n => ∃ (dd : Int) (k : Nat) (pre : List UInt8), x = .int .i64 dd ∧ s = .string ⟨pre.toArray⟩ ∧ n = .int .i64 k ∧ 0 ≤ dd ∧ dd + k ≤ 1000000000 ∧ pre.length = k ∧ pre ++ Sx.writ dd k bias = Sx.writ d 0 bias) (fun x _ _ => (intOf x).toNat)
  case atStart => exact ⟨d, 0, [], rfl, rfl, rfl, by omega, by omega, rfl, rfl⟩
  case round =>
    obtain ⟨dd, k, pre, rfl, rfl, rfl, g1, g2, g3, g5⟩ := hrel
    have G := hide g5
    clear g5
    have t1 := Sx.thr_lo k bias
    have t2 := Sx.thr_hi k bias
    have hk : (0 : Int) ≤ k ∧ (k : Int) ≤ 1000000000 := by omega
    obtain ⟨t, ht⟩ : ∃ t, Sx.thr k bias = t := ⟨_, rfl⟩
    have HT := hide ht
    by_cases hlt : Sx.thr k bias ≤ dd
    · have hs := Sx.step_lt dd _ t1 t2 hlt
      have hr : 0 ≤ (dd - Sx.thr k bias) % (36 - Sx.thr k bias) ∧ (dd - Sx.thr k bias) % (36 - Sx.thr k bias) < 36 - Sx.thr k bias := ⟨Int.emod_nonneg _ (by omega), Int.emod_lt_of_pos _ (by omega)⟩
      rw [ht] at t1 t2 hlt hs hr
      clear ht
      go_wp2_with (go_at_call 201; refine (rthr_any _ _ _ (by omega) (by omega) (by omega) (by omega)).mono ?_; rintro e w' ⟨rfl, rfl⟩; rw [HT.out])
      rw [digs_cut _ (by omega) (by omega), ba_app]
      go_round
      case rel =>
        refine ⟨(dd - t) / (36 - t), k + 1, pre ++ [Sx.dig (t + (dd - t) % (36 - t))], rfl, rfl, by go_num, hs.1, by omega, by simp [g3], ?_⟩
        rw [← G.out, Sx.writ_more dd k bias g1 (by rw [HT.out]; exact hlt), HT.out]
        simp
      case measure => simp [intOf]; omega
    · rw [ht] at t1 t2 hlt
      clear ht
      go_wp2_with (go_at_call 201; refine (rthr_any _ _ _ (by omega) (by omega) (by omega) (by omega)).mono ?_; rintro e w' ⟨rfl, rfl⟩; rw [HT.out])
      go_ret
      rw [digs_cut _ (by omega) (by omega), ba_app]
      exact ⟨ret_str (a := ⟨(pre ++ [Sx.dig dd]).toArray⟩) (by rw [← G.out, Sx.writ_last dd k bias (by rw [HT.out]; omega)]), rfl⟩

theorem digs_idx (k : Nat) (hk : k < 36) (hb : k < (⟨#[97, 98, 99, 100, 101, 102, 103, 104, 105, 106, 107, 108, 109, 110, 111, 112, 113, 114, 115, 116, 117, 118, 119, 120, 121, 122, 48, 49, 50, 51, 52, 53, 54, 55, 56, 57]⟩ : ByteArray).size) : (⟨#[97, 98, 99, 100, 101, 102, 103, 104, 105, 106, 107, 108, 109, 110, 111, 112, 113, 114, 115, 116, 117, 118, 119, 120, 121, 122, 48, 49, 50, 51, 52, 53, 54, 55, 56, 57]⟩ : ByteArray)[k]'hb = Sx.dig k := by
  have := digs_at k hk
  show (#[97, 98, 99, 100, 101, 102, 103, 104, 105, 106, 107, 108, 109, 110, 111, 112, 113, 114, 115, 116, 117, 118, 119, 120, 121, 122, 48, 49, 50, 51, 52, 53, 54, 55, 56, 57] : Array UInt8)[k]'hb = Sx.dig k
  rw [Array.getElem_eq_iff]
  simpa using this
theorem digs_yes (k : Nat) (hk : k < 36) (hb : k < (⟨#[97, 98, 99, 100, 101, 102, 103, 104, 105, 106, 107, 108, 109, 110, 111, 112, 113, 114, 115, 116, 117, 118, 119, 120, 121, 122, 48, 49, 50, 51, 52, 53, 54, 55, 56, 57]⟩ : ByteArray).size) (c : UInt8) (h : ((((⟨#[97, 98, 99, 100, 101, 102, 103, 104, 105, 106, 107, 108, 109, 110, 111, 112, 113, 114, 115, 116, 117, 118, 119, 120, 121, 122, 48, 49, 50, 51, 52, 53, 54, 55, 56, 57]⟩ : ByteArray)[k]'hb).toNat : Int) == (c.toNat : Int)) = true) : Sx.dig k = c := by
  rw [digs_idx k hk hb] at h
  have h7 : ((Sx.dig k).toNat : Int) = (c.toNat : Int) := by simpa using h
  have : (Sx.dig k).toNat = c.toNat := by omega
  exact UInt8.toNat.inj this
theorem digs_no (k : Nat) (hk : k < 36) (hb : k < (⟨#[97, 98, 99, 100, 101, 102, 103, 104, 105, 106, 107, 108, 109, 110, 111, 112, 113, 114, 115, 116, 117, 118, 119, 120, 121, 122, 48, 49, 50, 51, 52, 53, 54, 55, 56, 57]⟩ : ByteArray).size) (c : UInt8) (h : ((((⟨#[97, 98, 99, 100, 101, 102, 103, 104, 105, 106, 107, 108, 109, 110, 111, 112, 113, 114, 115, 116, 117, 118, 119, 120, 121, 122, 48, 49, 50, 51, 52, 53, 54, 55, 56, 57]⟩ : ByteArray)[k]'hb).toNat : Int) == (c.toNat : Int)) = false) : Sx.dig k ≠ c := by
  rw [digs_idx k hk hb] at h
  rintro rfl
  simp at h
set_option maxHeartbeats 400000 in
/-- suffixref.value -/
theorem rval_any (c : UInt8) (w : World) :
    Calls Tryz.prog 200 #[.int .u8 c.toNat] w fun e w' => e = .returned (.int .i64 (Sx.valOf c)) ∧ w' = w := by
  have hc : (0 : Int) ≤ c.toNat ∧ (c.toNat : Int) < 256 := by have := c.toNat_lt; omega
  go_enter Tryz.func200, Tryz.ntmps200
  go_wp2
  go_loop [3] (fun i => ∃ (k : Nat), i = .int .i64 k ∧ k ≤ 36 ∧ ∀ j, j < k → Sx.dig (j : Nat) ≠ c) (fun i => (36 - intOf i).toNat)
  case atStart => exact ⟨0, rfl, by omega, fun j h => by omega⟩
  case round =>
    obtain ⟨k, rfl, g1, g2⟩ := hrel
    have G2 := hide g2
    clear g2
    by_cases hlt : k < 36
    · go_wp2
      · go_ret
        have h5 := digs_yes k hlt _ c ‹_›
        exact ⟨ret_int (by rw [← h5, Sx.valOf_dig k hlt]), rfl⟩
      · have h5 := digs_no k hlt _ c ‹_›
        go_round
        case rel =>
          refine ⟨k + 1, by go_num, by omega, fun j hj => ?_⟩
          rcases Nat.lt_or_ge j k with h6 | h6
          · exact G2.out j h6
          · rw [show j = k from by omega]; exact h5
        case measure => simp [intOf]; omega
    · have h36 : k = 36 := by omega
      go_wp2
      go_ret
      exact ⟨ret_int (by rw [Sx.valOf_none c (fun j hj => G2.out j (by omega))]), rfl⟩
end Go.Proofs.YtgohllfpceeboaaGreatDoor
