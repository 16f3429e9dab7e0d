import Derived.Test.YtgohllfpceeboabGreatDoorProg
import Derived.WalkKit
import Derived.WalkSpells
import Derived.Deep.AppendLies
import Derived.Deep.AppendSrc
namespace Sx

/-- The threshold of the digit number k. -/
def thr (k bias : Int) : Int :=
  if 36 * (k + 1) - bias < 1 then 1 else if 26 < 36 * (k + 1) - bias then 26 else 36 * (k + 1) - bias

theorem thr_lo (k bias : Int) : 1 ≤ thr k bias := by unfold thr; split <;> (try split) <;> omega
theorem thr_hi (k bias : Int) : thr k bias ≤ 26 := by unfold thr; split <;> (try split) <;> omega

/-- A digit's byte. -/
def dig (x : Int) : UInt8 := if x < 26 then UInt8.ofNat (97 + x.toNat) else UInt8.ofNat (22 + x.toNat)

/-- A number's digits, the lowest first; 'f': how many more there may be. -/
def writF : Nat → Int → Int → Int → List UInt8
  | 0, d, _, _ => [dig d]
  | f + 1, d, k, bias =>
    if thr k bias ≤ d then dig (thr k bias + (d - thr k bias) % (36 - thr k bias)) :: writF f ((d - thr k bias) / (36 - thr k bias)) (k + 1) bias
    else [dig d]

def writ (d k bias : Int) : List UInt8 := writF d.toNat d k bias

theorem step_lt (d t : Int) (h1 : 1 ≤ t) (h2 : t ≤ 26) (h : t ≤ d) : 0 ≤ (d - t) / (36 - t) ∧ (d - t) / (36 - t) < d := by
  have hp : 0 < 36 - t := by omega
  refine ⟨Int.ediv_nonneg (by omega) (by omega), ?_⟩
  have : (d - t) / (36 - t) ≤ d - t := Int.ediv_le_self _ (by omega)
  omega

theorem writF_fuel : ∀ (f g : Nat) (d k bias : Int), 0 ≤ d → d.toNat ≤ f → d.toNat ≤ g → writF f d k bias = writF g d k bias := by
  intro f
  induction f with
  | zero =>
    intro g d k bias h0 hf hg
    have hd : d = 0 := by omega
    subst hd
    cases g with
    | zero => rfl
    | succ g =>
      have := thr_lo k bias
      simp only [writF]; rw [if_neg (by omega)]
  | succ f ih =>
    intro g d k bias h0 hf hg
    have h1 := thr_lo k bias
    have h2 := thr_hi k bias
    cases g with
    | zero =>
      have hd : d = 0 := by omega
      subst hd
      simp only [writF]; rw [if_neg (by omega)]
    | succ g =>
      simp only [writF]
      by_cases h : thr k bias ≤ d
      · have hs := step_lt d _ h1 h2 h
        rw [if_pos h, if_pos h, ih g _ _ _ hs.1 (by omega) (by omega)]
      · rw [if_neg h, if_neg h]

theorem writ_more (d k bias : Int) (h0 : 0 ≤ d) (h : thr k bias ≤ d) :
    writ d k bias = dig (thr k bias + (d - thr k bias) % (36 - thr k bias)) :: writ ((d - thr k bias) / (36 - thr k bias)) (k + 1) bias := by
  have h1 := thr_lo k bias
  have h2 := thr_hi k bias
  have hs := step_lt d _ h1 h2 h
  unfold writ
  obtain ⟨m, hm⟩ : ∃ m, d.toNat = m + 1 := ⟨d.toNat - 1, by omega⟩
  rw [hm]
  simp only [writF]
  rw [if_pos h, writF_fuel m _ _ _ _ hs.1 (by omega) (Nat.le_refl _)]

theorem writ_last (d k bias : Int) (h : ¬ thr k bias ≤ d) : writ d k bias = [dig d] := by
  unfold writ
  cases hd : d.toNat with
  | zero => rfl
  | succ m => simp only [writF]; rw [if_neg h]

/-- The bias: what is counted while d is above 455. -/
def biasF : Nat → Int → Int → Int
  | 0, d, n => n + 36 * d / (d + 38)
  | f + 1, d, n => if 455 < d then biasF f (d / 35) (n + 36) else n + 36 * d / (d + 38)
def biasL (d n : Int) : Int := biasF d.toNat d n

theorem biasF_fuel : ∀ (f g : Nat) (d n : Int), 0 ≤ d → d.toNat ≤ f → d.toNat ≤ g → biasF f d n = biasF g d n := by
  intro f
  induction f with
  | zero =>
    intro g d n h0 hf hg
    cases g with
    | zero => rfl
    | succ g => simp only [biasF]; rw [if_neg (by omega)]
  | succ f ih =>
    intro g d n h0 hf hg
    cases g with
    | zero => simp only [biasF]; rw [if_neg (by omega)]
    | succ g =>
      simp only [biasF]
      by_cases h : 455 < d
      · rw [if_pos h, if_pos h, ih g _ _ (by omega) (by omega) (by omega)]
      · rw [if_neg h, if_neg h]

theorem biasL_more (d n : Int) (h : 455 < d) : biasL d n = biasL (d / 35) (n + 36) := by
  unfold biasL
  obtain ⟨m, hm⟩ : ∃ m, d.toNat = m + 1 := ⟨d.toNat - 1, by omega⟩
  rw [hm]; simp only [biasF]
  rw [if_pos h, biasF_fuel m _ _ _ (by omega) (by omega) (Nat.le_refl _)]
theorem biasL_last (d n : Int) (h : ¬ 455 < d) : biasL d n = n + 36 * d / (d + 38) := by
  unfold biasL
  cases hd : d.toNat with
  | zero => rfl
  | succ m => simp only [biasF]; rw [if_neg h]

/-- BIAS behind a number. -/
def bias1 (d letters : Int) : Int := biasL (d + d / letters) 0
def after (d letters : Int) (first : Bool) : Int := if first then bias1 (d / 700) letters else bias1 (d / 2) letters

/-- How great the bias can get. -/
theorem biasF_bd : ∀ (f : Nat) (d n : Int), 0 ≤ d → 0 ≤ n → n ≤ biasF f d n ∧ (d ≤ 455 * 35 * 35 * 35 * 35 → d.toNat ≤ f → biasF f d n ≤ n + 180) := by
  intro f
  have last : ∀ d n : Int, 0 ≤ d → n ≤ n + 36 * d / (d + 38) ∧ n + 36 * d / (d + 38) ≤ n + 36 := by
    intro d n h0
    have hp : 0 < d + 38 := by omega
    have h1 : 0 ≤ 36 * d / (d + 38) := Int.ediv_nonneg (by omega) (by omega)
    have h2 : 36 * d / (d + 38) < 37 := Int.ediv_lt_of_lt_mul hp (by omega)
    omega
  intro d n h0 hn
  refine ⟨?_, ?_⟩
  · induction f generalizing d n with
    | zero => exact (last d n h0).1
    | succ f ih =>
      simp only [biasF]
      split
      · have := ih (d / 35) (n + 36) (by omega) (by omega); omega
      · exact (last d n h0).1
  · intro hd hf
    -- at most four rounds
    have key : ∀ (r : Nat) (f : Nat) (d n : Int), 0 ≤ d → d ≤ 455 * (35 : Int) ^ r → d.toNat ≤ f → biasF f d n ≤ n + 36 * r + 36 := by
      intro r
      induction r with
      | zero =>
        intro f d n h0 hd hf
        cases f with
        | zero => have := (last d n h0).2; simp only [biasF]; omega
        | succ f => simp only [biasF]; rw [if_neg (by simp at hd; omega)]; have := (last d n h0).2; omega
      | succ r ih =>
        intro f d n h0 hd hf
        have l2 := (last d n h0).2
        cases f with
        | zero => simp only [biasF]; omega
        | succ f =>
          simp only [biasF]
          split
          · have h5 : d / 35 ≤ 455 * (35 : Int) ^ r := by
              rw [Int.pow_succ] at hd
              generalize (35 : Int) ^ r = p at *
              omega
            have := ih f (d / 35) (n + 36) (by omega) h5 (by omega)
            omega
          · omega
    have := key 4 f d n h0 (by simpa using hd) hf
    omega

theorem after_bd (d letters : Int) (first : Bool) (h0 : 0 ≤ d) (h1 : d ≤ 200000000) (hl : 1 ≤ letters) : 0 ≤ after d letters first ∧ after d letters first ≤ 180 := by
  have hh : ∀ x : Int, 0 ≤ x → x ≤ 100000000 → 0 ≤ bias1 x letters ∧ bias1 x letters ≤ 180 := by
    intro x hx hx2
    have g1 : 0 ≤ x / letters := Int.ediv_nonneg hx (by omega)
    have g2 : x / letters ≤ x := Int.ediv_le_self _ hx
    unfold bias1 biasL
    have := biasF_bd (x + x / letters).toNat (x + x / letters) 0 (by omega) (by omega)
    have h3 := this.2 (by omega) (Nat.le_refl _)
    omega
  unfold after
  split
  · exact hh _ (by omega) (by omega)
  · exact hh _ (by omega) (by omega)


/-- A digit's value; -1: it is none. -/
def valOf (c : UInt8) : Int := if 97 ≤ c.toNat ∧ c.toNat ≤ 122 then (c.toNat : Int) - 97 else if 48 ≤ c.toNat ∧ c.toNat ≤ 57 then (c.toNat : Int) - 22 else -1
theorem valOf_dig (x : Nat) (h : x < 36) : valOf (dig x) = x := by
  have k : ∀ x : Fin 36, valOf (dig (x.val : Int)) = (x.val : Int) := by decide
  exact k ⟨x, h⟩
theorem valOf_bd (c : UInt8) : -1 ≤ valOf c ∧ valOf c < 36 := by unfold valOf; split <;> (try split) <;> omega

end Sx
namespace Sx
/-- One letter in UTF-8. -/
def utf (c : Int) : List UInt8 :=
  if c < 128 then [UInt8.ofNat c.toNat]
  else if c < 2048 then [UInt8.ofNat (192 + c / 64).toNat, UInt8.ofNat (128 + c % 64).toNat]
  else if c < 65536 then [UInt8.ofNat (224 + c / 4096).toNat, UInt8.ofNat (128 + c / 64 % 64).toNat, UInt8.ofNat (128 + c % 64).toNat]
  else [UInt8.ofNat (240 + c / 262144).toNat, UInt8.ofNat (128 + c / 4096 % 64).toNat, UInt8.ofNat (128 + c / 64 % 64).toNat, UInt8.ofNat (128 + c % 64).toNat]
def text (l : List Int) : List UInt8 := l.flatMap utf
theorem text_snoc (l : List Int) (c : Int) : text (l ++ [c]) = text l ++ utf c := by simp [text]
theorem utf_len (c : Int) : (utf c).length ≤ 4 := by unfold utf; repeat' split
                                                     all_goals simp
theorem text_len (l : List Int) : (text l).length ≤ 4 * l.length := by
  induction l with
  | nil => simp [text]
  | cons c l ih => have := utf_len c; simp only [text, List.flatMap_cons, List.length_append, List.length_cons] at *; omega
end Sx
namespace Sx
/-- The letters of UTF-8: what follows the first byte. -/
def contF : Nat → Int → List UInt8 → Option (Int × List UInt8)
  | 0, c, s => some (c, s)
  | _ + 1, _, [] => none
  | m + 1, c, x :: s => if 128 ≤ x.toNat ∧ x.toNat < 192 then contF m (c * 64 + x.toNat - 128) s else none
/-- What a first byte says: how many follow, the number so far, the least that may come out. -/
def lead (x : UInt8) : Option (Nat × Int × Int) :=
  if x.toNat < 128 then some (0, x.toNat, 0)
  else if 192 ≤ x.toNat ∧ x.toNat < 224 then some (1, (x.toNat : Int) - 192, 128)
  else if 224 ≤ x.toNat ∧ x.toNat < 240 then some (2, (x.toNat : Int) - 224, 2048)
  else if 240 ≤ x.toNat ∧ x.toNat < 248 then some (3, (x.toNat : Int) - 240, 65536)
  else none
def rest (m : Nat) (c least : Int) (s : List UInt8) : Option (Int × List UInt8) :=
  match contF m c s with
  | none => none
  | some (c', s') => if c' < least ∨ 1114111 < c' ∨ (55296 ≤ c' ∧ c' ≤ 57343) then none else some (c', s')
def one : List UInt8 → Option (Int × List UInt8)
  | [] => none
  | x :: r => match lead x with
    | none => none
    | some (m, c, least) => rest m c least r
def letF : Nat → List UInt8 → Option (List Int)
  | _, [] => some []
  | 0, _ :: _ => none
  | f + 1, x :: s => match one (x :: s) with
    | none => none
    | some (c, r) => (letF f r).map (c :: ·)
def letters (s : List UInt8) : Option (List Int) := letF s.length s

theorem contF_len : ∀ (m : Nat) (c : Int) (s : List UInt8) (c' : Int) (s' : List UInt8), contF m c s = some (c', s') → s'.length + m = s.length := by
  intro m
  induction m with
  | zero => intro c s c' s' h; simp only [contF, Option.some.injEq, Prod.mk.injEq] at h; rw [h.2]; rfl
  | succ m ih =>
    intro c s c' s' h
    cases s with
    | nil => simp [contF] at h
    | cons x s =>
      simp only [contF] at h
      split at h
      · have := ih _ _ _ _ h; simp only [List.length_cons]; omega
      · simp at h
theorem one_len (x : UInt8) (s : List UInt8) (c : Int) (r : List UInt8) (h : one (x :: s) = some (c, r)) : r.length ≤ s.length := by
  simp only [one] at h
  split at h
  · simp at h
  · rename_i m c0 least _
    unfold rest at h
    split at h
    · simp at h
    · rename_i c' s' hc
      split at h
      · simp at h
      · simp only [Option.some.injEq, Prod.mk.injEq] at h
        have := contF_len _ _ _ _ _ hc
        rw [← h.2]; omega
theorem letF_fuel : ∀ (f g : Nat) (s : List UInt8), s.length ≤ f → s.length ≤ g → letF f s = letF g s := by
  intro f
  induction f with
  | zero => intro g s hf hg; cases s with
    | nil => cases g <;> rfl
    | cons x s => simp at hf
  | succ f ih =>
    intro g s hf hg
    cases s with
    | nil => cases g <;> rfl
    | cons x s =>
      cases g with
      | zero => simp at hg
      | succ g =>
        simp only [letF]
        cases h : one (x :: s) with
        | none => rfl
        | some p =>
          obtain ⟨c, r⟩ := p
          have := one_len _ _ _ _ h
          simp only [List.length_cons] at hf hg
          simp only [ih g r (by omega) (by omega)]
theorem letters_nil : letters [] = some [] := rfl
theorem letters_none (s : List UInt8) (hs : s ≠ []) (h : one s = none) : letters s = none := by
  cases s with
  | nil => exact absurd rfl hs
  | cons x s => simp only [letters, List.length_cons, letF, h]
theorem letters_some (s : List UInt8) (c : Int) (r : List UInt8) (h : one s = some (c, r)) : letters s = (letters r).map (c :: ·) := by
  cases s with
  | nil => simp [one] at h
  | cons x s =>
    have hl := one_len _ _ _ _ h
    simp only [letters, List.length_cons, letF, h]
    rw [letF_fuel s.length r.length r hl (Nat.le_refl _)]
theorem drop_get (s : List UInt8) (i : Nat) (h : i < s.length) : s.drop i = s[i] :: s.drop (i + 1) := List.drop_eq_getElem_cons h
theorem contF_yes (m : Nat) (c : Int) (s : List UInt8) (i : Nat) (h : i < s.length) (h1 : 128 ≤ s[i].toNat) (h2 : s[i].toNat < 192) : contF (m + 1) c (s.drop i) = contF m (c * 64 + s[i].toNat - 128) (s.drop (i + 1)) := by
  rw [drop_get s i h]; simp only [contF]; rw [if_pos ⟨h1, h2⟩]
theorem contF_no (m : Nat) (c : Int) (s : List UInt8) (i : Nat) (h : i < s.length) (h1 : ¬ (128 ≤ s[i].toNat ∧ s[i].toNat < 192)) : contF (m + 1) c (s.drop i) = none := by
  rw [drop_get s i h]; simp only [contF]; rw [if_neg h1]
theorem contF_end (m : Nat) (c : Int) (s : List UInt8) (i : Nat) (h : s.length ≤ i) : contF (m + 1) c (s.drop i) = none := by
  rw [List.drop_eq_nil_of_le h]; rfl
end Sx
namespace Go.Proofs.YtgohllfpceeboabGreatDoor
open Go.RowKit

theorem hide {p : Prop} (h : p) : Hid p := h
theorem ret_int {k : IntKind} {a b : Int} (h : a = b) : Ending.returned (.int k a) = .returned (.int k b) := by rw [h]
theorem ret_str {a b : ByteArray} (h : a = b) : Ending.returned (.string a) = .returned (.string b) := by rw [h]
theorem ba_app (a b : List UInt8) : (⟨a.toArray⟩ : ByteArray) ++ ⟨b.toArray⟩ = ⟨(a ++ b).toArray⟩ := by
  apply ByteArray.ext; simp

theorem Tryz.info5 : (Tryz.prog.info? 5).map (fun i => (i.zero, i.size, i.bytes)) = some (some (.int .u8 0), 1, 1) := by kernel_rfl
theorem Tryz.info9 : (Tryz.prog.info? 9).map (fun i => (i.zero, i.size, i.bytes)) = some (some (.string ⟨#[]⟩), 1, 16) := by kernel_rfl

/-- A row of bytes, of ints. -/
def byV (bs : List UInt8) : List Value := bs.map fun c => Value.int .u8 c.toNat
def stV (l : List (List UInt8)) : List Value := l.map fun c => Value.string ⟨c.toArray⟩
theorem byV_app (a b : List UInt8) : byV (a ++ b) = byV a ++ byV b := by simp [byV]
theorem stV_app (a b : List (List UInt8)) : stV (a ++ b) = stV a ++ stV b := by simp [stV]
/-- Behind an append: of what was below nothing has turned. -/
theorem below_app {B : Nat} {w wr w1 : World} {e : TypeId} {s n : Nat} {v : Value} {xs : List Value} {o : Obj} (hB : Below B w wr) (hle : B ≤ wr.heap.size) (hown : wr.ownsRow B e s v n xs) (hg : (wr.alloc o).grownBy w1 v.ownBlock) : Below B w w1 :=
  (hB.alloc hle o).grown hg (by simp; omega) (fun k e => (hown.lt k e).1)

/-- 'string(b)' of a row of the call's own. -/
theorem own_string {w : World} {B n : Nat} {v : Value} {bs : List UInt8} (h : w.ownsRow B 5 1 v n (byV bs)) : (convert 90 9 v).run Tryz.prog w = .ok (.string ⟨bs.toArray⟩) w := by
  have hl : bs.length = n := by have := h.1; simp [byV] at this; omega
  rcases h.2 with ⟨rfl, h0⟩ | ⟨g, cap, cur, rfl, hb, hg, _⟩
  · have : bs = [] := List.eq_nil_of_length_eq_zero (by omega)
    subst this
    rw [run_convert_bytes_string w 90 9 5 none 0 0 Tryz.underlying90 Tryz.underlying5 Tryz.underlying9]; rfl
  · have := run_convert_bytes_back (P := Tryz.prog) w 90 9 5 ⟨g, 0, none⟩ cap bs Tryz.underlying90 Tryz.underlying5 Tryz.underlying9 (fun j hj => by
      have := h.cells (g := g) rfl j (.int .u8 (bs[j].toNat : Int)) (by simp [byV, List.getElem?_eq_getElem hj])
      exact this)
    rw [hl] at this
    exact this
section
variable {P : Program} (w : World)
theorem run_append_nothing (t ty e : TypeId) (i : TypeInfo) (ht : P.underlying t = some (.slice e)) (hi : P.info? e = some i) (v : Value) (hv : v = .slice none 0 0 ∨ ∃ g n cap, v = .slice (some ⟨g, 0, none⟩) n cap ∧ n ≤ cap) :
    (Builtin.append_ #[t, t] ty #[v, .slice none 0 0]).run P w = .ok v w := by
  rcases hv with rfl | ⟨g, n, cap, rfl, hc⟩
  · simp [Builtin.append_, run_underlying ht, sizeOf, typeInfo, hi, Builtin.lenOf, Builtin.firstCells]
  · have := run_append_room_src (P := P) w t t ty e i ht hi g 0 n cap (.slice none 0 0) 0 [] (Src.ofNil w ht 0) (by omega) (by simp) (by simp)
    simpa [World.setCells] using this
end
end Go.Proofs.YtgohllfpceeboabGreatDoor
/- Plain mathematics of codes: the order of the foreign letters, the code of letters. -/
namespace Sx

/-- Into a sorted list, behind all that are not greater. -/
def ins {α : Type} (lt : α → α → Bool) (x : α) : List α → List α
  | [] => [x]
  | y :: r => if lt x y then x :: y :: r else y :: ins lt x r
def isort {α : Type} (lt : α → α → Bool) (acc : List α) : List α → List α
  | [] => acc
  | x :: r => isort lt (ins lt x acc) r

theorem ins_mem {α : Type} (lt : α → α → Bool) (x z : α) (l : List α) : z ∈ ins lt x l ↔ z = x ∨ z ∈ l := by
  induction l with
  | nil => simp [ins]
  | cons y r ih =>
    simp only [ins]
    split
    · simp
    · simp only [List.mem_cons, ih]
      constructor <;> (intro h; rcases h with h | h | h <;> simp [h])
theorem isort_mem {α : Type} (lt : α → α → Bool) (z : α) (l acc : List α) : z ∈ isort lt acc l ↔ z ∈ acc ∨ z ∈ l := by
  induction l generalizing acc with
  | nil => simp [isort]
  | cons x r ih =>
    simp only [isort, ih, ins_mem, List.mem_cons]
    constructor
    · rintro ((h | h) | h)
      · exact .inr (.inl h)
      · exact .inl h
      · exact .inr (.inr h)
    · rintro (h | h | h)
      · exact .inl (.inr h)
      · exact .inl (.inl h)
      · exact .inr h
theorem ins_len {α : Type} (lt : α → α → Bool) (x : α) (l : List α) : (ins lt x l).length = l.length + 1 := by
  induction l with
  | nil => rfl
  | cons y r ih => simp only [ins]; split <;> simp [ih]
theorem isort_len {α : Type} (lt : α → α → Bool) (l acc : List α) : (isort lt acc l).length = acc.length + l.length := by
  induction l generalizing acc with
  | nil => rfl
  | cons x r ih => simp only [isort, ih, ins_len, List.length_cons]; omega

/-- One index ahead of another: a lower letter, or the same and further left. -/
def Ahead (l : List Int) (a b : Nat) : Prop := l.getD a 0 < l.getD b 0 ∨ (l.getD a 0 = l.getD b 0 ∧ a < b)
def ltAt (l : List Int) (a b : Nat) : Bool := decide (l.getD a 0 < l.getD b 0)

theorem ins_ahead (l : List Int) (x : Nat) (acc : List Nat) (hx : ∀ y ∈ acc, y < x) (h : acc.Pairwise (Ahead l)) : (ins (ltAt l) x acc).Pairwise (Ahead l) := by
  induction acc with
  | nil => simp [ins]
  | cons y r ih =>
    rw [List.pairwise_cons] at h
    simp only [ins]
    split
    · rename_i hlt
      simp only [ltAt, decide_eq_true_eq] at hlt
      rw [List.pairwise_cons]
      refine ⟨?_, by rw [List.pairwise_cons]; exact h⟩
      intro z hz
      rcases List.mem_cons.1 hz with rfl | hz
      · exact .inl hlt
      · have := h.1 z hz
        unfold Ahead at this
        exact .inl (by omega)
    · rename_i hlt
      simp only [ltAt, decide_eq_true_eq] at hlt
      rw [List.pairwise_cons]
      refine ⟨?_, ih (fun z hz => hx z (List.mem_cons_of_mem _ hz)) h.2⟩
      intro z hz
      rcases (ins_mem _ _ _ _).1 hz with rfl | hz
      · have := hx y (List.mem_cons_self ..)
        unfold Ahead; omega
      · exact h.1 z hz
theorem isort_ahead (l : List Int) (xs acc : List Nat) (hs : xs.Pairwise (· < ·)) (hx : ∀ y ∈ acc, ∀ x ∈ xs, y < x) (h : acc.Pairwise (Ahead l)) : (isort (ltAt l) acc xs).Pairwise (Ahead l) := by
  induction xs generalizing acc with
  | nil => exact h
  | cons x r ih =>
    rw [List.pairwise_cons] at hs
    simp only [isort]
    refine ih _ hs.2 ?_ (ins_ahead l x acc (fun y hy => hx y hy x (List.mem_cons_self ..)) h)
    intro y hy z hz
    rcases (ins_mem _ _ _ _).1 hy with rfl | hy
    · exact hs.1 z hz
    · exact hx y hy z (List.mem_cons_of_mem _ hz)

/-- The foreign letters' places, from the left; in the order in which they are put in. -/
def forIdx (l : List Int) : List Nat := (List.range l.length).filter fun k => decide (128 ≤ l.getD k 0)
def ord (l : List Int) : List Nat := isort (ltAt l) [] (forIdx l)

theorem ord_ahead (l : List Int) : (ord l).Pairwise (Ahead l) := by
  unfold ord
  refine isort_ahead l _ _ ?_ (fun y hy => by simp at hy) List.Pairwise.nil
  unfold forIdx
  exact List.Pairwise.filter _ (List.pairwise_lt_range)
theorem ord_mem (l : List Int) (k : Nat) : k ∈ ord l ↔ k < l.length ∧ 128 ≤ l.getD k 0 := by
  unfold ord forIdx
  rw [isort_mem]
  simp
theorem ord_len (l : List Int) : (ord l).length = (l.filter fun c => decide (128 ≤ c)).length := by
  unfold ord forIdx
  rw [isort_len]
  simp only [List.length_nil, Nat.zero_add]
  have : l = (List.range l.length).map fun k => l.getD k 0 := by
    apply List.ext_getElem
    · simp
    · intro i h1 h2; simp [List.getElem?_eq_getElem h1]
  conv => rhs; rw [this]
  rw [List.filter_map, List.length_map]
  rfl

/-- How many of those to the left stand when this one is put in. -/
def stand (l : List Int) (c : Nat) : Nat := (l.take c).countP fun x => decide (x ≤ l.getD c 0)
theorem stand_same (l : List Int) (a b : Nat) (hab : a < b) (hb : b < l.length) (h : l.getD a 0 = l.getD b 0) : stand l a + 1 ≤ stand l b := by
  unfold stand
  rw [h]
  have e : l.take b = l.take a ++ (l.drop a).take (b - a) := by
    have := List.take_add (i := a) (j := b - a) (l := l)
    rw [show a + (b - a) = b from by omega] at this
    exact this
  rw [e, List.countP_append]
  have : 1 ≤ ((l.drop a).take (b - a)).countP fun x => decide (x ≤ l.getD b 0) := by
    have ha : a < l.length := by omega
    rw [List.drop_eq_getElem_cons ha]
    obtain ⟨m, hm⟩ : ∃ m, b - a = m + 1 := ⟨b - a - 1, by omega⟩
    rw [hm, List.take_succ_cons, List.countP_cons]
    have : l[a] = l.getD a 0 := by simp [List.getElem?_eq_getElem ha]
    rw [this, h]
    simp
  omega

/-- The numbers of a row of letters that are put in: each with its code point and its place. -/
def encWays : List (Int × Int) → Int → Int → Int → Int → Bool → List UInt8
  | [], _, _, _, _, _ => []
  | (m, j) :: r, bias, n, i, count, first =>
    writ ((m - n) * (count + 1) + j - (i + 1)) 0 bias ++ encWays r (after ((m - n) * (count + 1) + j - (i + 1)) (count + 1) first) m j (count + 1) false
def wayAt (l : List Int) (c : Nat) : Int × Int := (l.getD c 0, (stand l c : Int))
def plainOf (l : List Int) : List UInt8 := (l.filter fun c => decide (c < 128)).map fun c => UInt8.ofNat c.toNat
def headOf (l : List Int) : List UInt8 := plainOf l ++ if 0 < (plainOf l).length then [45] else []
/-- The code of letters. -/
def enc (l : List Int) : List UInt8 := headOf l ++ encWays ((ord l).map (wayAt l)) 72 128 (-1) (plainOf l).length true

theorem plain_ord (l : List Int) : (plainOf l).length + (ord l).length = l.length := by
  rw [ord_len]
  unfold plainOf
  rw [List.length_map]
  induction l with
  | nil => rfl
  | cons c l ih =>
    simp only [List.filter_cons]
    by_cases h : c < 128
    · rw [if_pos (by simpa using h), if_neg (by simpa using h)]; simp only [List.length_cons]; omega
    · rw [if_neg (by simpa using h), if_pos (by simp; omega)]; simp only [List.length_cons]; omega

/-- Which letters stand, when those of 'done' have been put in. -/
def flags (l : List Int) (done : List Nat) : List Bool := (List.range l.length).map fun k => decide (l.getD k 0 < 128) || decide (k ∈ done)
theorem flags_len (l : List Int) (done : List Nat) : (flags l done).length = l.length := by simp [flags]
theorem flags_at (l : List Int) (done : List Nat) (k : Nat) (h : k < l.length) : (flags l done).getD k false = (decide (l.getD k 0 < 128) || decide (k ∈ done)) := by
  simp [flags, List.getElem?_range h]
theorem flags_no (l : List Int) (done todo : List Nat) (ho : ord l = done ++ todo) (k : Nat) (h : k < l.length) (hf : (flags l done).getD k false = false) : k ∈ todo := by
  rw [flags_at l done k h] at hf
  simp only [Bool.or_eq_false_iff, decide_eq_false_iff_not] at hf
  have : k ∈ ord l := (ord_mem l k).2 ⟨h, by omega⟩
  rw [ho] at this
  rcases List.mem_append.1 this with h1 | h1
  · exact absurd h1 hf.2
  · exact h1
theorem flags_todo (l : List Int) (done todo : List Nat) (ho : ord l = done ++ todo) (k : Nat) (h : k ∈ todo) : k < l.length ∧ 128 ≤ l.getD k 0 ∧ (flags l done).getD k false = false := by
  have hm : k ∈ ord l := by rw [ho]; exact List.mem_append_right _ h
  have h1 := (ord_mem l k).1 hm
  refine ⟨h1.1, h1.2, ?_⟩
  rw [flags_at l done k h1.1]
  simp only [Bool.or_eq_false_iff, decide_eq_false_iff_not]
  refine ⟨by omega, fun hd => ?_⟩
  have hp := ord_ahead l
  rw [ho, List.pairwise_append] at hp
  have := hp.2.2 k hd k h
  unfold Ahead at this
  omega
/-- How many stand to the left of the next. -/
theorem stand_flags (l : List Int) (done todo : List Nat) (c0 : Nat) (ho : ord l = done ++ c0 :: todo) : ((flags l done).take c0).countP id = stand l c0 := by
  have h2 := flags_todo l done (c0 :: todo) ho c0 (List.mem_cons_self ..)
  unfold stand
  have key : ∀ k, k < c0 → (flags l done).getD k false = decide (l.getD k 0 ≤ l.getD c0 0) := by
    intro k hk
    rw [flags_at l done k (by omega), Bool.eq_iff_iff]
    simp only [Bool.or_eq_true, decide_eq_true_eq]
    have hp := ord_ahead l
    rw [ho, List.pairwise_append] at hp
    constructor
    · rintro (h | h)
      · omega
      · have := hp.2.2 k h c0 (List.mem_cons_self ..)
        unfold Ahead at this; omega
    · intro h
      by_cases h1 : l.getD k 0 < 128
      · exact .inl h1
      · right
        have hm : k ∈ ord l := (ord_mem l k).2 ⟨by omega, by omega⟩
        rw [ho] at hm
        rcases List.mem_append.1 hm with hm | hm
        · exact hm
        · rcases List.mem_cons.1 hm with hm | hm
          · omega
          · have := (List.pairwise_cons.1 hp.2.1).1 k hm
            unfold Ahead at this; omega
  have e : (flags l done).take c0 = (l.take c0).map fun x => decide (x ≤ l.getD c0 0) := by
    apply List.ext_getElem
    · simp [flags_len]
    · intro k h1 h3
      have hk : k < c0 := by simp [flags_len] at h1; omega
      have := key k hk
      have hkl : k < (flags l done).length := by rw [flags_len]; omega
      have hkl2 : k < l.length := by omega
      simp only [List.getElem_take, List.getElem_map]
      simp only [List.getD_eq_getElem?_getD, List.getElem?_eq_getElem hkl, List.getElem?_eq_getElem hkl2, Option.getD_some] at this ⊢
      exact this
  rw [e, List.countP_map]
  rfl
theorem flags_step (l : List Int) (done todo : List Nat) (c0 : Nat) (ho : ord l = done ++ c0 :: todo) : (flags l done).set c0 true = flags l (done ++ [c0]) := by
  have h2 := flags_todo l done (c0 :: todo) ho c0 (List.mem_cons_self ..)
  apply List.ext_getElem
  · simp [flags_len]
  · intro k h1 h3
    simp only [List.getElem_set, flags, List.getElem_map, List.getElem_range]
    split
    · rename_i h; subst h; simp
    · rename_i h
      simp only [List.mem_append, List.mem_singleton]
      have : k ≠ c0 := fun e => h e.symm
      simp [this]
theorem flags_zero (l : List Int) : flags l [] = l.map fun c => decide (c < 128) := by
  apply List.ext_getElem
  · simp [flags_len]
  · intro k h1 h2
    have : k < l.length := by simpa using h2
    simp [flags, List.getElem?_eq_getElem this]
theorem stand_le_count (l : List Int) (done todo : List Nat) (c0 : Nat) (ho : ord l = done ++ c0 :: todo) : stand l c0 ≤ (flags l done).countP id := by
  rw [← stand_flags l done todo c0 ho]
  conv => rhs; rw [← List.take_append_drop c0 (flags l done)]
  rw [List.countP_append]; omega
end Sx
namespace Sx
theorem flags_count_n (l : List Int) : ∀ n, n ≤ (ord l).length → (flags l ((ord l).take n)).countP id = (plainOf l).length + n := by
  intro n
  induction n with
  | zero =>
    intro _
    rw [List.take_zero, flags_zero, List.countP_map]
    unfold plainOf
    rw [List.length_map, List.countP_eq_length_filter]
    rfl
  | succ n ih =>
    intro h
    have h1 : n < (ord l).length := by omega
    have ho : ord l = (ord l).take n ++ (ord l)[n] :: (ord l).drop (n + 1) := by
      rw [← List.drop_eq_getElem_cons h1, List.take_append_drop]
    have h2 := flags_todo l _ _ ho (ord l)[n] (List.mem_cons_self ..)
    rw [List.take_succ_eq_append_getElem h1, ← flags_step l _ _ _ ho]
    have hlt : (ord l)[n] < (flags l ((ord l).take n)).length := by rw [flags_len]; exact h2.1
    have hfl : (flags l ((ord l).take n))[(ord l)[n]] = false := by
      have := h2.2.2
      simpa [List.getElem?_eq_getElem hlt] using this
    have h3 := ih (by omega)
    rw [List.set_eq_take_append_cons_drop, if_pos hlt, List.countP_append, List.countP_cons]
    conv at h3 => lhs; rw [← List.take_append_drop (ord l)[n] (flags l ((ord l).take n)), List.drop_eq_getElem_cons hlt]
    rw [List.countP_append, List.countP_cons, hfl] at h3
    simp only [id, if_true, Bool.false_eq_true, if_false] at h3 ⊢
    omega
theorem flags_count (l : List Int) (done todo : List Nat) (ho : ord l = done ++ todo) : (flags l done).countP id = (plainOf l).length + done.length := by
  have := flags_count_n l done.length (by rw [ho]; simp)
  rw [ho, List.take_left] at this
  exact this
theorem stand_le_put (l : List Int) (done todo : List Nat) (c0 : Nat) (ho : ord l = done ++ c0 :: todo) : stand l c0 ≤ (plainOf l).length + done.length := by
  rw [← flags_count l done _ ho]; exact stand_le_count l done todo c0 ho

/-- What is said of the letters that are still to come. -/
def Later (l : List Int) (todo : List Nat) (n i : Int) : Prop := ∀ c ∈ todo, n < l.getD c 0 ∨ (n = l.getD c 0 ∧ i + 1 ≤ (stand l c : Int))
theorem later_start (l : List Int) : Later l (ord l) 128 (-1) := fun c hc => by
  have := ((ord_mem l c).1 hc).2
  omega
theorem later_step (l : List Int) (done todo : List Nat) (c0 : Nat) (ho : ord l = done ++ c0 :: todo) : Later l todo (l.getD c0 0) (stand l c0) := fun c hc => by
  have hp := ord_ahead l
  rw [ho, List.pairwise_append] at hp
  have h4 := (List.pairwise_cons.1 hp.2.1).1 c hc
  have h2 := flags_todo l done (c0 :: todo) ho c (List.mem_cons_of_mem _ hc)
  rcases h4 with h4 | h4
  · exact .inl h4
  · have := stand_same l c0 c h4.2 h2.1 h4.1
    exact .inr ⟨h4.1, by omega⟩
theorem passed_nn (m n j i count : Int) (h : n < m ∨ (n = m ∧ i + 1 ≤ j)) (hi : i ≤ count) (hj : 0 ≤ j) (hc : 0 ≤ count) : 0 ≤ (m - n) * (count + 1) + j - (i + 1) := by
  rcases h with h | ⟨h, h2⟩
  · have : 1 * (count + 1) ≤ (m - n) * (count + 1) := Int.mul_le_mul_of_nonneg_right (by omega) (by omega)
    omega
  · rw [h]; simp; omega
theorem passed_le (m n j i count : Int) (hm : m ≤ 1114111) (hn : 128 ≤ n) (hi : -1 ≤ i) (hj : j ≤ 100) (hc : 0 ≤ count) (hc2 : count ≤ 100) : (m - n) * (count + 1) ≤ 1113983 * 101 ∧ (m - n) * (count + 1) + j - (i + 1) ≤ 113000000 := by
  by_cases h : 0 ≤ m - n
  · have h1 : (m - n) * (count + 1) ≤ 1113983 * (count + 1) := Int.mul_le_mul_of_nonneg_right (by omega) (by omega)
    omega
  · have h1 : (m - n) * (count + 1) ≤ 0 := by
      have := Int.mul_le_mul_of_nonneg_right (show m - n ≤ 0 by omega) (show 0 ≤ count + 1 by omega)
      simpa using this
    omega
end Sx
namespace Sx
theorem writF_len : ∀ (f : Nat) (d k bias : Int), (writF f d k bias).length ≤ f + 1 := by
  intro f
  induction f with
  | zero => intro d k bias; simp [writF]
  | succ f ih =>
    intro d k bias
    simp only [writF]
    split
    · have := ih ((d - thr k bias) / (36 - thr k bias)) (k + 1) bias; simp only [List.length_cons]; omega
    · simp
theorem writ_len (d k bias : Int) (h : d ≤ 113000000) : (writ d k bias).length ≤ 113000001 := by
  have := writF_len d.toNat d k bias
  unfold writ; omega
theorem head_len (l : List Int) (h : l.length ≤ 100) : (headOf l).length ≤ 101 := by
  have := plain_ord l
  unfold headOf
  split <;> simp <;> omega
end Sx
/- Plain mathematics of codes: reading them. -/
namespace Sx

/-- The last divider among the first k bytes; -1: there is none. -/
def dashTo (s : List UInt8) : Nat → Int
  | 0 => -1
  | k + 1 => if s.getD k 0 = 45 then (k : Int) else dashTo s k
def dash (s : List UInt8) : Int := dashTo s s.length
theorem dashTo_bd (s : List UInt8) : ∀ k : Nat, -1 ≤ dashTo s k ∧ dashTo s k < k := by
  intro k
  induction k with
  | zero => simp [dashTo]
  | succ k ih => simp only [dashTo]; split <;> omega

/-- One number: its value so far, the weight, how many digits were read. -/
def numF (bias : Int) : Int → Int → Nat → List UInt8 → Option (Int × List UInt8)
  | _, _, _, [] => none
  | d, w, k, x :: s =>
    if 7 < k then none
    else if valOf x < 0 then none
    else if valOf x < thr k bias then some (d + valOf x * w, s)
    else numF bias (d + valOf x * w) (w * (36 - thr k bias)) (k + 1) s
theorem numF_len (bias : Int) : ∀ (s : List UInt8) (d w : Int) (k : Nat) (d' : Int) (s' : List UInt8), numF bias d w k s = some (d', s') → s'.length < s.length := by
  intro s
  induction s with
  | nil => intro d w k d' s' h; simp [numF] at h
  | cons x s ih =>
    intro d w k d' s' h
    simp only [numF] at h
    split at h
    · simp at h
    · split at h
      · simp at h
      · split at h
        · simp only [Option.some.injEq, Prod.mk.injEq] at h; rw [← h.2]; simp
        · have := ih _ _ _ _ _ h; simp; omega
/-- A letter put in. -/
def putIn (l : List Int) (i n : Int) : List Int := l.take i.toNat ++ (n :: l.drop i.toNat)
theorem putIn_len (l : List Int) (i n : Int) : (putIn l i n).length = l.length + 1 := by
  unfold putIn
  simp only [List.length_append, List.length_take, List.length_cons, List.length_drop]
  omega
/-- All numbers. -/
def decF : Nat → List Int → Int → Int → Int → Bool → List UInt8 → Option (List Int)
  | _, l, _, _, _, _, [] => some l
  | 0, _, _, _, _, _, _ :: _ => none
  | f + 1, l, bias, n, i, first, x :: s =>
    match numF bias 0 1 0 (x :: s) with
    | none => none
    | some (d, s') =>
      if 1114111 < n + (i + d) / ((l.length : Int) + 1) ∨ (55296 ≤ n + (i + d) / ((l.length : Int) + 1) ∧ n + (i + d) / ((l.length : Int) + 1) ≤ 57343) then none
      else decF f (putIn l ((i + d) % ((l.length : Int) + 1)) (n + (i + d) / ((l.length : Int) + 1))) (after d ((l.length : Int) + 1) first) (n + (i + d) / ((l.length : Int) + 1)) ((i + d) % ((l.length : Int) + 1) + 1) false s'
def decL (l : List Int) (bias n i : Int) (first : Bool) (s : List UInt8) : Option (List Int) := decF s.length l bias n i first s
theorem decF_fuel : ∀ (f g : Nat) (l : List Int) (bias n i : Int) (first : Bool) (s : List UInt8), s.length ≤ f → s.length ≤ g → decF f l bias n i first s = decF g l bias n i first s := by
  intro f
  induction f with
  | zero =>
    intro g l bias n i first s hf hg
    cases s with
    | nil => cases g <;> rfl
    | cons x s => simp at hf
  | succ f ih =>
    intro g l bias n i first s hf hg
    cases s with
    | nil => cases g <;> rfl
    | cons x s =>
      cases g with
      | zero => simp at hg
      | succ g =>
        simp only [decF]
        cases h : numF bias 0 1 0 (x :: s) with
        | none => rfl
        | some p =>
          obtain ⟨d, s'⟩ := p
          have := numF_len _ _ _ _ _ _ _ h
          simp only [List.length_cons] at hf hg this
          simp only
          split
          · rfl
          · exact ih g _ _ _ _ _ _ (by omega) (by omega)
theorem decL_nil (l : List Int) (bias n i : Int) (first : Bool) : decL l bias n i first [] = some l := rfl
theorem decL_no (l : List Int) (bias n i : Int) (first : Bool) (s : List UInt8) (hs : s ≠ []) (h : numF bias 0 1 0 s = none) : decL l bias n i first s = none := by
  cases s with
  | nil => exact absurd rfl hs
  | cons x s => simp only [decL, List.length_cons, decF, h]
theorem decL_bad (l : List Int) (bias n i : Int) (first : Bool) (s : List UInt8) (d : Int) (s' : List UInt8) (h : numF bias 0 1 0 s = some (d, s'))
    (hb : 1114111 < n + (i + d) / ((l.length : Int) + 1) ∨ (55296 ≤ n + (i + d) / ((l.length : Int) + 1) ∧ n + (i + d) / ((l.length : Int) + 1) ≤ 57343)) : decL l bias n i first s = none := by
  cases s with
  | nil => simp [numF] at h
  | cons x s => simp only [decL, List.length_cons, decF, h]; rw [if_pos hb]
theorem decL_more (l : List Int) (bias n i : Int) (first : Bool) (s : List UInt8) (d : Int) (s' : List UInt8) (h : numF bias 0 1 0 s = some (d, s'))
    (hb : ¬ (1114111 < n + (i + d) / ((l.length : Int) + 1) ∨ (55296 ≤ n + (i + d) / ((l.length : Int) + 1) ∧ n + (i + d) / ((l.length : Int) + 1) ≤ 57343))) :
    decL l bias n i first s = decL (putIn l ((i + d) % ((l.length : Int) + 1)) (n + (i + d) / ((l.length : Int) + 1))) (after d ((l.length : Int) + 1) first) (n + (i + d) / ((l.length : Int) + 1)) ((i + d) % ((l.length : Int) + 1) + 1) false s' := by
  cases s with
  | nil => simp [numF] at h
  | cons x s =>
    have hl := numF_len _ _ _ _ _ _ _ h
    simp only [List.length_cons] at hl
    simp only [decL, List.length_cons, decF, h]
    rw [if_neg hb, decF_fuel s.length s'.length _ _ _ _ _ _ (by omega) (Nat.le_refl _)]
/-- The letters of a code, ahead of asking whether they give the code again. -/
def dec (s : List UInt8) : Option (List Int) :=
  if (s.length : Int) ≤ dash s + 1 then none
  else decL ((s.take (dash s).toNat).map fun c => (c.toNat : Int)) 72 128 0 true (s.drop (dash s + 1).toNat)

end Sx
/- Plain mathematics of hosts: labels, hosts, their plain forms, by the document's answer. -/
namespace Sx

def lower (c : Int) : Int := if 65 ≤ c ∧ c ≤ 90 then c + 32 else c
def okL (c : Int) : Bool := decide (128 ≤ c) || decide (97 ≤ c ∧ c ≤ 122) || decide (48 ≤ c ∧ c ≤ 57) || decide (c = 45)
def xn : List UInt8 := [120, 110, 45, 45]
/-- What a label's plain form must be, and whether it is one's own code. -/
def codeOk (s : List UInt8) : Bool := match dec s with
  | none => false
  | some l => enc l == s
def formOk (s : List UInt8) : Bool := decide (1 ≤ s.length) && decide (s.length ≤ 20) && !(s.getD 0 0 == 45) && !(s.getD (s.length - 1) 0 == 45)
def formOf (m : List Int) : List UInt8 := if m.any (fun c => decide (128 ≤ c)) then xn ++ enc m else text m
def label (l : List Int) : Option (List UInt8) :=
  if (l.map lower).all okL then
    if formOk (formOf (l.map lower)) then
      if (!(l.map lower).any (fun c => decide (128 ≤ c))) && decide (4 ≤ (formOf (l.map lower)).length) && ((formOf (l.map lower)).take 4 == xn) then
        if codeOk ((formOf (l.map lower)).drop 4) then some (formOf (l.map lower)) else none
      else some (formOf (l.map lower))
    else none
  else none

end Sx
/- Plain mathematics of hosts: hosts, their plain and shown forms, by the document's answer. -/
namespace Sx

/-- The labels of letters, from the left; 'cur': what stands since the last dot. -/
def hostGo : List Int → List Int → Option (List (List UInt8))
  | [], cur => match label cur with
    | none => none
    | some x => some [x]
  | c :: r, cur => if c = 46 then (match label cur with
      | none => none
      | some x => (hostGo r []).map (x :: ·)) else hostGo r (cur ++ [c])
def allLen (h : List (List UInt8)) : Nat := (h.map fun x => x.length + 1).sum
def digs (s : List UInt8) : Bool := s.all fun c => decide (48 ≤ c.toNat) && decide (c.toNat ≤ 57)
def hostEnd (h : List (List UInt8)) : List (List UInt8) × Int :=
  if digs (h.getD (h.length - 1) []) || decide (6 < h.length) || decide (61 < allLen h) then ([], 2) else (h, 0)
def host (s : List UInt8) : List (List UInt8) × Int :=
  if 60 < s.length then ([], 1)
  else match letters s with
    | none => ([], 2)
    | some l => match hostGo l [] with
      | none => ([], 2)
      | some h => hostEnd h
def dotted : List (List UInt8) → List UInt8
  | [] => []
  | x :: r => x ++ r.flatMap fun y => 46 :: y
def shownOf (x : List UInt8) : List UInt8 := if decide (4 < x.length) && (x.take 4 == xn) then text ((dec (x.drop 4)).getD []) else x
def plainR (s : List UInt8) : List UInt8 × Int := (dotted (host s).1, (host s).2)
def shownR (s : List UInt8) : List UInt8 × Int := (dotted ((host s).1.map shownOf), (host s).2)

theorem dotted_snoc (h : List (List UInt8)) (x : List UInt8) : dotted (h ++ [x]) = if h = [] then x else dotted h ++ 46 :: x := by
  cases h with
  | nil => simp [dotted]
  | cons y r => simp [dotted, List.flatMap_append]
end Sx
/- Plain mathematics of codes: reading a number with a bound, as the program does. -/
namespace Sx

def rdF (bias most : Int) : Int → Int → Nat → List UInt8 → Int × Int
  | _, _, _, [] => (0, 0)
  | d, w, k, x :: s =>
    if valOf x < 0 ∨ (most - d) / w < valOf x then (0, 0)
    else if valOf x < thr k bias then (d + valOf x * w, (k : Int) + 1)
    else rdF bias most (d + valOf x * w) (w * (36 - thr k bias)) (k + 1) s

theorem numF_mono (bias : Int) : ∀ (s : List UInt8) (d w : Int) (k : Nat) (d' : Int) (s' : List UInt8), 0 < w → numF bias d w k s = some (d', s') → d ≤ d' := by
  intro s
  induction s with
  | nil => intro d w k d' s' hw h; simp [numF] at h
  | cons x s ih =>
    intro d w k d' s' hw h
    simp only [numF] at h
    split at h
    · simp at h
    · split at h
      · simp at h
      · rename_i hv
        have hm : 0 ≤ valOf x * w := Int.mul_nonneg (by omega) (by omega)
        have t1 := thr_lo k bias
        have t2 := thr_hi k bias
        split at h
        · simp only [Option.some.injEq, Prod.mk.injEq] at h; omega
        · have := ih _ _ _ _ _ (Int.mul_pos hw (by omega)) h; omega

/-- What the bounded reading tells, by the other one. -/
def rdOf (most : Int) (k n : Nat) : Option (Int × List UInt8) → Int × Int
  | none => (0, 0)
  | some (d, s') => if d ≤ most then (d, (k : Int) + (n : Int) - (s'.length : Int)) else (0, 0)

theorem pow10 (k : Nat) : (1 : Int) ≤ 10 ^ k := by
  have := Int.pow_pos (n := 10) (m := k) (by omega); omega

theorem rd_num (bias most : Int) (hb : bias ≤ 262) (hm0 : 0 ≤ most) (hm : most < 260000000) : ∀ (s : List UInt8) (d w : Int) (k : Nat), 0 ≤ d → d ≤ most → 10 ^ k ≤ w → (8 ≤ k → 260000000 ≤ d) →
    rdF bias most d w k s = rdOf most k s.length (numF bias d w k s) := by
  intro s
  induction s with
  | nil => intro d w k h0 h1 hw hk; rfl
  | cons x s ih =>
    intro d w k h0 h1 hw hk
    have hp := pow10 k
    have hwp : 0 < w := by omega
    have hk7 : ¬ 7 < k := by
      intro h
      have := hk (by omega)
      omega
    simp only [rdF, numF]
    rw [if_neg hk7]
    by_cases hv : valOf x < 0
    · rw [if_pos (.inl hv), if_pos hv]; rfl
    · by_cases hq : (most - d) / w < valOf x
      · rw [if_pos (.inr hq), if_neg hv]
        have hbig : most < d + valOf x * w := by
          have := Int.lt_mul_of_ediv_lt hwp hq
          omega
        split
        · unfold rdOf; simp only; rw [if_neg (by omega)]
        · cases hn : numF bias (d + valOf x * w) (w * (36 - thr k bias)) (k + 1) s with
          | none => rfl
          | some p =>
            obtain ⟨d', s'⟩ := p
            have t2 := thr_hi k bias
            have := numF_mono bias s _ _ _ _ _ (Int.mul_pos hwp (by omega)) hn
            unfold rdOf; simp only; rw [if_neg (by omega)]
      · rw [if_neg (by omega), if_neg hv]
        have hle : d + valOf x * w ≤ most := by
          have h5 : valOf x ≤ (most - d) / w := by omega
          have := (Int.le_ediv_iff_mul_le hwp).1 h5
          omega
        have hm2 : 0 ≤ valOf x * w := Int.mul_nonneg (by omega) (by omega)
        by_cases ht : valOf x < thr k bias
        · rw [if_pos ht, if_pos ht]
          unfold rdOf
          simp only [List.length_cons]
          rw [if_pos hle]
          congr 1
          omega
        · rw [if_neg ht, if_neg ht]
          have t1 := thr_lo k bias
          have t2 := thr_hi k bias
          have hw2 : 10 ^ (k + 1) ≤ w * (36 - thr k bias) := by
            rw [Int.pow_succ]
            have a1 : (10 : Int) ^ k * 10 ≤ w * 10 := Int.mul_le_mul_of_nonneg_right hw (by omega)
            have a2 : w * 10 ≤ w * (36 - thr k bias) := Int.mul_le_mul_of_nonneg_left (by omega) (by omega)
            omega
          have hk2 : 8 ≤ k + 1 → 260000000 ≤ d + valOf x * w := by
            intro h8
            have hk77 : k = 7 := by omega
            subst hk77
            have e7 : (10 : Int) ^ 7 = 10000000 := by decide
            rw [e7] at hw
            have t7 : thr (7 : Nat) bias = 26 := by unfold thr; rw [if_neg (by omega)]; split <;> omega
            have : 26 * w ≤ valOf x * w := Int.mul_le_mul_of_nonneg_right (by omega) (by omega)
            omega
          rw [ih _ _ _ (by omega) hle hw2 hk2]
          unfold rdOf
          cases numF bias (d + valOf x * w) (w * (36 - thr k bias)) (k + 1) s with
          | none => rfl
          | some p =>
            obtain ⟨d', s'⟩ := p
            simp only [List.length_cons]
            split
            · congr 1; omega
            · rfl
/-- Reading a number, from the beginning. -/
theorem rd_zero (bias most : Int) (hb : bias ≤ 262) (hm0 : 0 ≤ most) (hm : most < 260000000) (s : List UInt8) : rdF bias most 0 1 0 s = rdOf most 0 s.length (numF bias 0 1 0 s) :=
  rd_num bias most hb hm0 hm s 0 1 0 (by omega) hm0 (by simp) (by omega)
theorem rdF_end (bias most d w : Int) (k : Nat) (s : List UInt8) (p : Nat) (h : s.length ≤ p) : rdF bias most d w k (s.drop p) = (0, 0) := by
  rw [List.drop_eq_nil_of_le h]; rfl
theorem rdF_no (bias most d w : Int) (k : Nat) (s : List UInt8) (p : Nat) (h : p < s.length) (hv : valOf s[p] < 0 ∨ (most - d) / w < valOf s[p]) : rdF bias most d w k (s.drop p) = (0, 0) := by
  rw [drop_get s p h]; simp only [rdF]; rw [if_pos hv]
theorem rdF_last (bias most d w : Int) (k : Nat) (s : List UInt8) (p : Nat) (h : p < s.length) (hv : ¬ (valOf s[p] < 0 ∨ (most - d) / w < valOf s[p])) (ht : valOf s[p] < thr k bias) : rdF bias most d w k (s.drop p) = (d + valOf s[p] * w, (k : Int) + 1) := by
  rw [drop_get s p h]; simp only [rdF]; rw [if_neg hv, if_pos ht]
theorem rdF_more (bias most d w : Int) (k : Nat) (s : List UInt8) (p : Nat) (h : p < s.length) (hv : ¬ (valOf s[p] < 0 ∨ (most - d) / w < valOf s[p])) (ht : ¬ valOf s[p] < thr k bias) : rdF bias most d w k (s.drop p) = rdF bias most (d + valOf s[p] * w) (w * (36 - thr k bias)) (k + 1) (s.drop (p + 1)) := by
  rw [drop_get s p h]; conv => lhs; simp only [rdF]
  rw [if_neg hv, if_neg ht]
end Sx
namespace Go.Proofs.YtgohllfpceeboabGreatDoor
open Go.RowKit

end Go.Proofs.YtgohllfpceeboabGreatDoor
namespace Go.Proofs.YtgohllfpceeboabGreatDoor
open Go.RowKit

end Go.Proofs.YtgohllfpceeboabGreatDoor

