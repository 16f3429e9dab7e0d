import Derived.Test.YtgohllfpceeboaaGreatDoorGal
import Derived.Test.YtgohllfpceeboaaGreatDoorSkac
import Derived.Test.YtgohllfpceeboaaGreatDoorGaa
import Derived.Test.YtgohllfpceeboaaGreatDoorGab
import Derived.Test.YtgohllfpceeboaaGreatDoorGag
import Derived.Test.YtgohllfpceeboaaGreatDoorGaj
import Derived.Test.YtgohllfpceeboaaGreatDoorSkaa
import Derived.Test.YtgohllfpceeboaaGreatDoorGaf
import Derived.Test.YtgohllfpceeboaaGreatDoorGan
import Derived.Test.YtgohllfpceeboaaGreatDoorGam
import Derived.Test.YtgohllfpceeboaaGreatDoorRefP
import Derived.Deep.CutBlock
import Derived.Deep.DeepCutAuto
namespace Sx
/-- How many labels a rule that fits has, a wild one counting one more. -/
def fitN (h : List (List UInt8)) (r : Rl) : Option Nat :=
  if endsL h r.1 = true then (if r.2.1 = 42 then (if r.1.length < h.length then some (r.1.length + 1) else none) else some r.1.length) else none
/-- The better one of what was found and a rule more. -/
def bestS (h : List (List UInt8)) (st : Option (Nat × Rl)) (r : Rl) : Option (Nat × Rl) :=
  match fitN h r with
  | none => st
  | some n => match st with
    | none => some (n, r)
    | some (cnt, b) =>
      if r.2.1 = 33 ∧ (b.2.1 ≠ 33 ∨ cnt < n) then some (n, r)
      else if r.2.1 ≠ 33 ∧ b.2.1 ≠ 33 ∧ (cnt < n ∨ (n = cnt ∧ r.2.1 = 36)) then some (n, r) else some (cnt, b)
def bestOf (h : List (List UInt8)) (rs : List Rl) : Option (Nat × Rl) := rs.foldl (bestS h) none
/-- How many labels are public; the section. -/
def pubL (h : List (List UInt8)) (rs : List Rl) : Nat × UInt8 :=
  match bestOf h rs with
  | none => (1, 45)
  | some (n, r) => (if r.2.1 = 33 then n - 1 else n, r.2.2)
end Sx
namespace Go.Proofs.YtgohllfpceeboaaGreatDoor
open Go.RowKit
end Go.Proofs.YtgohllfpceeboaaGreatDoor

namespace Go.Proofs.YtgohllfpceeboaaGreatDoor
open Sx
theorem splB_cons (a : UInt8) (r cur : List UInt8) : splB (a :: r) cur = if a = 46 then cur :: splB r [] else splB r (cur ++ [a]) := by conv => lhs; unfold splB
theorem splB_app : ∀ (x y cur : List UInt8), splB (x ++ 46 :: y) cur = splB x cur ++ splB y []
  | [], y, cur => by simp [splB]
  | a :: x, y, cur => by
    rw [List.cons_append, splB_cons, splB_cons]
    split
    · rw [splB_app x y []]; rfl
    · exact splB_app x y _
theorem dotted_app : ∀ (a t : List (List UInt8)), a ≠ [] → t ≠ [] → dotted (a ++ t) = dotted a ++ 46 :: dotted t
  | [], _, h, _ => absurd rfl h
  | [x], t, _, ht => by
    cases t with
    | nil => exact absurd rfl ht
    | cons y r => simp [dotted]
  | x :: y :: r, t, _, ht => by
    have := dotted_app (y :: r) t (by simp) ht
    rw [List.cons_append, List.cons_append, dotted_cons, ← List.cons_append, this, dotted_cons]
    simp
theorem ho46 {h : List (List UInt8)} (hh : HostOk h) : ∀ x ∈ h, ∀ b ∈ x, b ≠ 46 := fun x hx b hb => plB_no46 ((hh.2.2.2 x hx).2 b hb)
theorem dotted_eq {h t : List (List UInt8)} (hh : HostOk h) (ht : HostOk t) : (dotted h = dotted t) ↔ h = t :=
  ⟨fun e => dotted_inj h t hh.1 ht.1 (ho46 hh) (ho46 ht) e, fun e => by rw [e]⟩
theorem splB_ne : ∀ (x cur : List UInt8), splB x cur ≠ []
  | [], cur => by simp [splB]
  | a :: x, cur => by
    unfold splB
    split
    · simp
    · exact splB_ne x _
theorem suf_iff {h t : List (List UInt8)} (hh : HostOk h) (ht : HostOk t) : suffixB (dotted h) (46 :: dotted t) = true ↔ endsL h t = true ∧ t.length < h.length := by
  unfold suffixB endsL
  simp only [Bool.and_eq_true, decide_eq_true_eq, beq_iff_eq]
  constructor
  · rintro ⟨h1, h2⟩
    have e : dotted h = (dotted h).take ((dotted h).length - (46 :: dotted t).length) ++ 46 :: dotted t := by
      conv => lhs; rw [← List.take_append_drop ((dotted h).length - (46 :: dotted t).length) (dotted h), h2]
    have e2 := splB_dotted h hh.1 (ho46 hh)
    rw [e, splB_app, splB_dotted t ht.1 (ho46 ht)] at e2
    obtain ⟨a, ha⟩ : ∃ a, splB ((dotted h).take ((dotted h).length - (46 :: dotted t).length)) [] = a := ⟨_, rfl⟩
    have hne := splB_ne ((dotted h).take ((dotted h).length - (46 :: dotted t).length)) []
    rw [ha] at e2 hne
    have hp : 0 < a.length := List.length_pos_iff.2 hne
    rw [← e2]
    simp only [List.length_append]
    refine ⟨⟨by omega, ?_⟩, by omega⟩
    rw [show a.length + t.length - t.length = a.length by omega, List.drop_left]
  · rintro ⟨⟨h1, h2⟩, h3⟩
    have e : h = h.take (h.length - t.length) ++ t := by
      conv => lhs; rw [← List.take_append_drop (h.length - t.length) h, h2]
    have hne : h.take (h.length - t.length) ≠ [] := by
      intro e0
      have := congrArg List.length e0
      simp only [List.length_take, List.length_nil] at this
      omega
    rw [e, dotted_app _ t hne ht.1]
    simp only [List.length_append, List.length_cons]
    refine ⟨by omega, ?_⟩
    rw [show (dotted (h.take (h.length - t.length))).length + ((dotted t).length + 1) - ((dotted t).length + 1) = (dotted (h.take (h.length - t.length))).length by omega, List.drop_left]
/-- Does a rule say something of a host in plain form? -/
def fitB (r : Rl) (p : List UInt8) : Bool := suffixB p (46 :: dotted r.1) || (decide (p = dotted r.1) && decide (r.2.1 ≠ 42))
/-- Does a rule prevail over another? -/
def prevB (r o : Rl) : Bool := if r.2.1 ≠ o.2.1 ∧ (r.2.1 = 33 ∨ o.2.1 = 33) then decide (r.2.1 = 33) else if pubI r ≠ pubI o then decide (pubI r > pubI o) else decide (r.2.1 = 36)
/-- The rule that prevails. -/
def prvS (p : List UInt8) (best r : Rl) : Rl := if (fitB r p && prevB r best) = true then r else best
def prvl (rs : List Rl) (p : List UInt8) : Rl := rs.foldl (prvS p) ([], 42, 45)
theorem fit_is {h : List (List UInt8)} {r : Rl} (hh : HostOk h) (hr : RlOk r) : fitN h r = if fitB r (dotted h) = true then some (r.1.length + if r.2.1 = 42 then 1 else 0) else none := by
  have h1 := suf_iff hh hr.1
  have h2 := dotted_eq hh hr.1
  have hend : endsL h r.1 = true → (r.1.length < h.length ∨ h = r.1) := by
    unfold endsL
    simp only [Bool.and_eq_true, decide_eq_true_eq]
    rintro ⟨a, b⟩
    by_cases hl : r.1.length < h.length
    · exact Or.inl hl
    · right
      rw [show h.length - r.1.length = 0 by omega, List.drop_zero] at b
      exact b
  have hself : h = r.1 → endsL h r.1 = true := by
    rintro rfl
    simp [endsL]
  unfold fitN fitB
  simp only [Bool.or_eq_true, Bool.and_eq_true, decide_eq_true_eq]
  by_cases he : endsL h r.1 = true
  · rw [if_pos he]
    by_cases hk : r.2.1 = 42
    · rw [if_pos hk, if_pos hk]
      by_cases hl : r.1.length < h.length
      · rw [if_pos hl, if_pos (Or.inl (h1.2 ⟨he, hl⟩))]
      · rw [if_neg hl, if_neg]
        rintro (q | q)
        · exact hl (h1.1 q).2
        · exact q.2 hk
    · rw [if_neg hk, if_neg hk, if_pos]
      · rfl
      · rcases hend he with q | q
        · exact Or.inl (h1.2 ⟨he, q⟩)
        · exact Or.inr ⟨h2.2 q, hk⟩
  · rw [if_neg he, if_neg]
    rintro (q | q)
    · exact he (h1.1 q).1
    · exact he (hself (h2.1 q.1))
/-- What was found, told twice. -/
def Same (st : Option (Nat × Rl)) (best : Rl) : Prop := match st with
  | none => best = ([], 42, 45)
  | some (n, r) => best = r ∧ RlRt r ∧ n = r.1.length + if r.2.1 = 42 then 1 else 0
theorem same_step {h : List (List UInt8)} (hh : HostOk h) {st : Option (Nat × Rl)} {best r : Rl} (hr : RlRt r) (hs : Same st best) : Same (bestS h st r) (prvS (dotted h) best r) := by
  have hlen : 0 < r.1.length := List.length_pos_iff.2 hr.ok.1.1
  have hk := hr.2.1
  have hx := hr.2.2.1
  unfold bestS prvS
  rw [fit_is hh hr.ok]
  cases hf : fitB r (dotted h) with
  | false => simpa using hs
  | true =>
    simp only [if_true, Bool.true_and]
    cases st with
    | none =>
      obtain rfl : best = ([], 42, 45) := hs
      have : prevB r ([], 42, 45) = true := by
        unfold prevB pubI
        rcases hk with e | e | e
        · simp only [e]
          by_cases h1 : r.1.length = 1
          · simp [h1]
          · simp; omega
        · simp only [e]; simp; omega
        · simp [e]
      rw [if_pos this]
      exact ⟨rfl, hr, rfl⟩
    | some x =>
      obtain ⟨cnt, b⟩ := x
      obtain ⟨rfl, hb, rfl⟩ := hs
      have hlb : 0 < best.1.length := List.length_pos_iff.2 hb.ok.1.1
      have hkb := hb.2.1
      simp only
      have yes : prevB r best = (decide (r.2.1 = 33 ∧ (best.2.1 ≠ 33 ∨ (best.1.length + if best.2.1 = 42 then 1 else 0) < (r.1.length + if r.2.1 = 42 then 1 else 0))) || decide (r.2.1 ≠ 33 ∧ best.2.1 ≠ 33 ∧ ((best.1.length + if best.2.1 = 42 then 1 else 0) < (r.1.length + if r.2.1 = 42 then 1 else 0) ∨ ((r.1.length + if r.2.1 = 42 then 1 else 0) = (best.1.length + if best.2.1 = 42 then 1 else 0) ∧ r.2.1 = 36)))) := by
        rw [Bool.eq_iff_iff]
        unfold prevB pubI
        rcases hk with e | e | e <;> rcases hkb with e' | e' | e' <;> simp only [e, e'] <;> simp <;> (try split) <;> (try simp) <;> (try omega)
      rw [yes]
      by_cases c1 : r.2.1 = 33 ∧ (best.2.1 ≠ 33 ∨ (best.1.length + if best.2.1 = 42 then 1 else 0) < (r.1.length + if r.2.1 = 42 then 1 else 0))
      · rw [if_pos c1, decide_eq_true c1, Bool.true_or, if_pos rfl]
        exact ⟨rfl, hr, rfl⟩
      · rw [if_neg c1, decide_eq_false c1, Bool.false_or]
        by_cases c2 : r.2.1 ≠ 33 ∧ best.2.1 ≠ 33 ∧ ((best.1.length + if best.2.1 = 42 then 1 else 0) < (r.1.length + if r.2.1 = 42 then 1 else 0) ∨ ((r.1.length + if r.2.1 = 42 then 1 else 0) = (best.1.length + if best.2.1 = 42 then 1 else 0) ∧ r.2.1 = 36))
        · rw [if_pos c2, if_pos (decide_eq_true c2)]
          exact ⟨rfl, hr, rfl⟩
        · rw [if_neg c2, decide_eq_false c2]
          exact ⟨rfl, hb, rfl⟩
theorem same_all {h : List (List UInt8)} (hh : HostOk h) : ∀ (rs : List Rl) (st : Option (Nat × Rl)) (best : Rl), (∀ r ∈ rs, RlRt r) → Same st best → Same (rs.foldl (bestS h) st) (rs.foldl (prvS (dotted h)) best)
  | [], _, _, _, hs => hs
  | r :: rs, st, best, hr, hs => same_all hh rs _ _ (fun q hq => hr q (by simp [hq])) (same_step hh (hr r (by simp)) hs)
/-- What prevails in the program is what the document asks. -/
theorem prvl_pub {h : List (List UInt8)} (hh : HostOk h) {rs : List Rl} (hr : ∀ r ∈ rs, RlRt r) : pubI (prvl rs (dotted h)) = ((pubL h rs).1 : Int) ∧ (prvl rs (dotted h)).2.2 = (pubL h rs).2 ∧ 1 ≤ (pubL h rs).1 := by
  have := same_all hh rs none ([], 42, 45) hr rfl
  unfold prvl pubL bestOf
  cases hb : rs.foldl (bestS h) none with
  | none =>
    rw [hb] at this
    have e : rs.foldl (prvS (dotted h)) ([], 42, 45) = ([], 42, 45) := this
    rw [e]
    exact ⟨rfl, rfl, Nat.le_refl _⟩
  | some x =>
    obtain ⟨n, r⟩ := x
    rw [hb] at this
    obtain ⟨e, hr, rfl⟩ := this
    have hlen : 0 < r.1.length := List.length_pos_iff.2 hr.ok.1.1
    rw [e]
    unfold pubI
    simp only
    refine ⟨?_, trivial, ?_⟩
    · rcases hr.2.1 with k | k | k
      · simp [k]
      · simp [k]
      · have := hr.2.2.1 k
        simp [k]; omega
    · rcases hr.2.1 with k | k | k
      · simp [k]; omega
      · simp [k]
      · have := hr.2.2.1 k
        simp [k]; omega
theorem bestS_le (h : List (List UInt8)) : ∀ (rs : List Rl) (st : Option (Nat × Rl)), (∀ x, st = some x → x.1 ≤ h.length) → ∀ x, rs.foldl (bestS h) st = some x → x.1 ≤ h.length
  | [], _, hs => hs
  | r :: rs, st, hs => bestS_le h rs _ (by
    intro x hx
    have hfit : ∀ n, fitN h r = some n → n ≤ h.length := by
      intro n hn
      unfold fitN endsL at hn
      split at hn
      · rename_i he
        simp only [Bool.and_eq_true, decide_eq_true_eq] at he
        split at hn
        · split at hn
          · obtain rfl := Option.some.inj hn; omega
          · cases hn
        · obtain rfl := Option.some.inj hn; exact he.1
      · cases hn
    unfold bestS at hx
    cases hf : fitN h r with
    | none => rw [hf] at hx; exact hs x hx
    | some n =>
      rw [hf] at hx
      have hn := hfit n hf
      cases st with
      | none => simp only [Option.some.injEq] at hx; subst hx; exact hn
      | some y =>
        obtain ⟨c, b⟩ := y
        simp only at hx
        have hc := hs (c, b) rfl
        split at hx
        · obtain rfl := Option.some.inj hx; exact hn
        · split at hx
          · obtain rfl := Option.some.inj hx; exact hn
          · obtain rfl := Option.some.inj hx; exact hc)
theorem pubL_le {h : List (List UInt8)} (hn : h ≠ []) (rs : List Rl) : (pubL h rs).1 ≤ h.length := by
  have hp : 0 < h.length := List.length_pos_iff.2 hn
  unfold pubL
  have := bestS_le h rs none (by simp)
  unfold bestOf
  cases hb : rs.foldl (bestS h) none with
  | none => simp only; omega
  | some x =>
    obtain ⟨n, r⟩ := x
    have := this _ hb
    simp only at this ⊢
    split <;> omega
/-- The last labels of a text, so many; nothing, if there are fewer. -/
def lastP (p : List UInt8) (n : Int) : List UInt8 := if 1 ≤ n ∧ n ≤ (pcs p).length then dotted ((pcs p).take n.toNat).reverse else []
end Go.Proofs.YtgohllfpceeboaaGreatDoor

namespace Sx
/-- A letter that a label may have, as it stands in one. -/
def LtOk (c : Int) : Prop := okL c = true ∧ Good c ∧ c ≠ 46 ∧ lower c = c
theorem ltOk_big {c : Int} (h : 128 ≤ c) (h2 : c ≤ 1114111) (h3 : ¬ (55296 ≤ c ∧ c ≤ 57343)) : LtOk c := by
  refine ⟨?_, ⟨by omega, h2, h3⟩, by omega, ?_⟩
  · simp only [okL, Bool.or_eq_true, decide_eq_true_eq]; omega
  · unfold lower; rw [if_neg (by omega)]
theorem ltOk_pl {b : UInt8} (h : plB b) : LtOk (b.toNat : Int) := by
  unfold plB at h
  refine ⟨?_, ⟨by omega, by omega, by omega⟩, by omega, ?_⟩
  · simp only [okL, Bool.or_eq_true, decide_eq_true_eq]; omega
  · unfold lower; rw [if_neg (by omega)]
theorem numF_nn (bias : Int) : ∀ (s : List UInt8) (d w : Int) (k : Nat) (d' : Int) (s' : List UInt8), 0 ≤ d → 0 ≤ w → numF bias d w k s = some (d', s') → 0 ≤ d'
  | [], _, _, _, _, _, _, _, h => by simp [numF] at h
  | x :: s, d, w, k, d', s', hd, hw, h => by
    simp only [numF] at h
    have ht := thr_hi k bias
    split at h
    · simp at h
    · split at h
      · simp at h
      · rename_i hv
        have hm : 0 ≤ valOf x * w := Int.mul_nonneg (by omega) hw
        split at h
        · simp only [Option.some.injEq, Prod.mk.injEq] at h; omega
        · exact numF_nn bias s _ _ _ d' s' (by omega) (Int.mul_nonneg hw (by omega)) h
theorem mem_putIn {l : List Int} {i n c : Int} (h : c ∈ putIn l i n) : c = n ∨ c ∈ l := by
  unfold putIn at h
  rcases List.mem_append.1 h with h | h
  · exact Or.inr (List.mem_of_mem_take h)
  · rcases List.mem_cons.1 h with h | h
    · exact Or.inl h
    · exact Or.inr (List.mem_of_mem_drop h)
theorem putIn_mem (l : List Int) (i n : Int) : n ∈ putIn l i n := by unfold putIn; simp
theorem putIn_keep {l : List Int} {i n c : Int} (h : c ∈ l) : c ∈ putIn l i n := by
  unfold putIn
  rw [← List.take_append_drop i.toNat l] at h
  rcases List.mem_append.1 h with h | h
  · exact List.mem_append.2 (Or.inl h)
  · exact List.mem_append.2 (Or.inr (List.mem_cons_of_mem _ h))
theorem decF_ok : ∀ (f : Nat) (l : List Int) (bias n i : Int) (first : Bool) (s : List UInt8) (m : List Int), 128 ≤ n → 0 ≤ i → (∀ c ∈ l, LtOk c) → decF f l bias n i first s = some m → (∀ c ∈ m, LtOk c) ∧ (∀ c ∈ l, c ∈ m) ∧ (s ≠ [] → ∃ c ∈ m, 128 ≤ c) := by
  intro f
  induction f with
  | zero =>
    intro l bias n i first s m hn hi hl h
    cases s with
    | nil => simp only [decF, Option.some.injEq] at h; subst h; exact ⟨hl, fun c hc => hc, fun h => absurd rfl h⟩
    | cons x s => simp [decF] at h
  | succ f ih =>
    intro l bias n i first s m hn hi hl h
    cases s with
    | nil => simp only [decF, Option.some.injEq] at h; subst h; exact ⟨hl, fun c hc => hc, fun h => absurd rfl h⟩
    | cons x s =>
      simp only [decF] at h
      cases hf : numF bias 0 1 0 (x :: s) with
      | none => rw [hf] at h; simp at h
      | some p =>
        obtain ⟨d, s'⟩ := p
        rw [hf] at h
        simp only at h
        have hd := numF_nn bias _ 0 1 0 d s' (by omega) (by omega) hf
        have hq : 0 ≤ (i + d) / ((l.length : Int) + 1) := Int.ediv_nonneg (by omega) (by omega)
        have hr := Int.emod_nonneg (i + d) (show (l.length : Int) + 1 ≠ 0 by omega)
        split at h
        · simp at h
        · rename_i hb
          have hb1 := not_or.1 hb
          obtain ⟨a1, a2, _⟩ := ih _ _ _ _ _ _ m (by omega) (by omega) (fun c hc => by
            rcases mem_putIn hc with rfl | hc
            · exact ltOk_big (by omega) (by omega) hb1.2
            · exact hl c hc) h
          exact ⟨a1, fun c hc => a2 c (putIn_keep hc), fun _ => ⟨_, a2 _ (putIn_mem l _ _), by omega⟩⟩
theorem dec_ok {s : List UInt8} {l : List Int} (hs : ∀ b ∈ s, plB b) (h : dec s = some l) : (∀ c ∈ l, LtOk c) ∧ (l.any fun c => decide (128 ≤ c)) = true := by
  unfold dec at h
  split at h
  · cases h
  · rename_i hc
    have hb := dashTo_bd s s.length
    have hne : s.drop (dash s + 1).toNat ≠ [] := by
      intro e
      have := congrArg List.length e
      simp only [List.length_drop, List.length_nil] at this
      unfold dash at *
      omega
    obtain ⟨a1, _, a3⟩ := decF_ok _ _ _ _ _ _ _ l (by omega) (by omega) (fun c hc => by
      obtain ⟨b, hb, rfl⟩ := List.mem_map.1 hc
      exact ltOk_pl (hs b (List.mem_of_mem_take hb))) h
    obtain ⟨c, h1, h2⟩ := a3 hne
    exact ⟨a1, List.any_eq_true.2 ⟨c, h1, decide_eq_true h2⟩⟩
/-- What a label in plain form is shown as, as letters. -/
def shL (x : List UInt8) : List Int := if decide (4 < x.length) && (x.take 4 == xn) then (dec (x.drop 4)).getD [] else ints x
theorem shL_is {x : List UInt8} (h : label (ints x) = some x) : text (shL x) = shownOf x ∧ (∀ c ∈ shL x, LtOk c) ∧ label (shL x) = some x := by
  obtain ⟨_, hp⟩ := label_plB h
  have hlt : ∀ b ∈ x, b.toNat < 128 := fun b hb => plB_lt (hp b hb)
  unfold shL shownOf
  cases hc : decide (4 < x.length) && (x.take 4 == xn) with
  | false =>
    rw [if_neg (by simp), if_neg (by simp)]
    refine ⟨text_ints x hlt, fun c hc => ?_, h⟩
    obtain ⟨b, hb, rfl⟩ := List.mem_map.1 hc
    exact ltOk_pl (hp b hb)
  | true =>
    rw [if_pos rfl, if_pos rfl]
    refine ⟨rfl, ?_⟩
    simp only [Bool.and_eq_true, decide_eq_true_eq, beq_iff_eq] at hc
    obtain ⟨h1, h2, h3, h4⟩ := label_form h
    have e1 : (ints x).map lower = ints x := by
      unfold ints
      rw [List.map_map]
      refine List.map_congr_left fun b hb => ?_
      exact (ltOk_pl (hp b hb)).2.2.2
    have e2 : (ints x).any (fun c => decide (128 ≤ c)) = false := by
      rw [List.any_eq_false]
      intro c hc
      obtain ⟨b, hb, rfl⟩ := List.mem_map.1 hc
      have := hlt b hb
      simp only [decide_eq_true_eq]
      omega
    have h5 := h4 (by rw [e1, e2]; simp only [Bool.not_false, Bool.true_and, Bool.and_eq_true, decide_eq_true_eq, beq_iff_eq]; exact ⟨by omega, hc.2⟩)
    unfold codeOk at h5
    cases hd : dec (x.drop 4) with
    | none => rw [hd] at h5; cases h5
    | some l =>
      rw [hd] at h5
      simp only [beq_iff_eq] at h5
      obtain ⟨a1, a2⟩ := dec_ok (fun b hb => hp b (List.mem_of_mem_drop hb)) hd
      refine ⟨a1, ?_⟩
      simp only [Option.getD_some]
      have m1 : l.map lower = l := by
        conv => rhs; rw [← List.map_id l]
        exact List.map_congr_left fun c hc => (a1 c hc).2.2.2
      have m2 : formOf l = x := by
        unfold formOf
        rw [a2, if_pos rfl, h5, ← hc.2, List.take_append_drop]
      unfold label
      rw [m1, if_pos (List.all_eq_true.2 fun c hc => (a1 c hc).1), m2, if_pos h3, a2]
      simp
/-- Letters with dots between. -/
def dotI : List (List Int) → List Int
  | [] => []
  | x :: r => x ++ r.flatMap fun y => 46 :: y
theorem text_app (a b : List Int) : text (a ++ b) = text a ++ text b := by simp [text]
theorem text_dotI : ∀ (h : List (List Int)), text (dotI h) = dotted (h.map text)
  | [] => rfl
  | x :: r => by
    have : ∀ r : List (List Int), text (r.flatMap fun y => 46 :: y) = (r.map text).flatMap fun y => 46 :: y := by
      intro r
      induction r with
      | nil => rfl
      | cons y r ih =>
        rw [List.flatMap_cons, text_app, ih, List.map_cons, List.flatMap_cons]
        rfl
    simp only [dotI, List.map_cons, dotted]
    rw [text_app, this]
theorem hostGo_runI : ∀ (x r cur : List Int), (∀ b ∈ x, b ≠ 46) → hostGo (x ++ r) cur = hostGo r (cur ++ x)
  | [], r, cur, _ => by simp
  | b :: x, r, cur, h => by
    have ih := hostGo_runI x r (cur ++ [b]) (fun c hc => h c (by simp [hc]))
    show hostGo (b :: (x ++ r)) cur = _
    rw [hostGo, if_neg (h b (by simp)), ih]
    simp
theorem hostGo_dotI : ∀ (h : List (List Int)) (k : List (List UInt8)), h ≠ [] → h.map label = k.map some → (∀ x ∈ h, ∀ b ∈ x, b ≠ 46) → hostGo (dotI h) [] = some k
  | [], _, n, _, _ => absurd rfl n
  | [x], k, _, hl, h => by
    have := hostGo_runI x [] [] (h x (by simp))
    rw [List.append_nil, List.nil_append] at this
    have e : dotI [x] = x := by simp [dotI]
    rw [e, this]
    cases k with
    | nil => simp at hl
    | cons y k =>
      simp only [List.map_cons, List.map_nil, List.cons.injEq] at hl
      have : k = [] := by simpa using hl.2.symm
      subst this
      unfold hostGo
      rw [hl.1]
  | x :: y :: r, k, _, hl, h => by
    cases k with
    | nil => simp at hl
    | cons z k =>
      simp only [List.map_cons, List.cons.injEq] at hl
      have ih := hostGo_dotI (y :: r) k (by simp) (by simpa using hl.2) (fun z hz => h z (by simp [hz]))
      have := hostGo_runI x (46 :: dotI (y :: r)) [] (h x (by simp))
      rw [List.nil_append] at this
      have e : dotI (x :: y :: r) = x ++ 46 :: dotI (y :: r) := by simp [dotI]
      rw [e, this, hostGo, if_pos rfl, hl.1]
      simp only
      rw [ih]
      rfl
theorem mem_dotI : ∀ (h : List (List Int)) (c : Int), c ∈ dotI h → c = 46 ∨ ∃ x ∈ h, c ∈ x
  | [], _, h => by simp [dotI] at h
  | x :: r, c, h => by
    simp only [dotI, List.mem_append, List.mem_flatMap, List.mem_cons] at h
    rcases h with h | ⟨y, hy, rfl | h⟩
    · exact Or.inr ⟨x, by simp, h⟩
    · exact Or.inl rfl
    · exact Or.inr ⟨y, by simp [hy], h⟩
/-- A host is read again from what it is shown as, if that is not too long. -/
theorem host_shown {s : List UInt8} (h : (host s).2 = 0) : host (dotted ((host s).1.map shownOf)) = if 60 < (dotted ((host s).1.map shownOf)).length then ([], 1) else ((host s).1, 0) := by
  obtain ⟨q1, q2, q3, q4⟩ := host_ok s h
  obtain ⟨k1, k2⟩ := host_is h
  obtain ⟨H, hH⟩ : ∃ H, (host s).1 = H := ⟨_, rfl⟩
  rw [hH] at q1 q2 q3 q4 k1 k2 ⊢
  have e1 : H.map shownOf = (H.map shL).map text := by
    rw [List.map_map]
    exact List.map_congr_left fun x hx => (shL_is (k1 x hx)).1.symm
  have hmem : ∀ x ∈ H.map shL, ∀ c ∈ x, LtOk c := by
    intro x hx
    obtain ⟨y, hy, rfl⟩ := List.mem_map.1 hx
    exact (shL_is (k1 y hy)).2.1
  rw [e1, ← text_dotI]
  have hl : letters (text (dotI (H.map shL))) = some (dotI (H.map shL)) := letters_text _ (fun c hc => by
    rcases mem_dotI _ c hc with rfl | ⟨x, hx, hc⟩
    · exact ⟨by omega, by omega, by omega⟩
    · exact (hmem x hx c hc).2.1)
  conv => lhs; unfold host
  split
  · rfl
  · rw [hl]
    simp only
    rw [hostGo_dotI (H.map shL) H (by simpa using q1) (by
      rw [List.map_map]
      exact List.map_congr_left fun x hx => (shL_is (k1 x hx)).2.2) (fun x hx c hc => (hmem x hx c hc).2.2.1)]
    exact k2
end Sx

namespace Sx
/-- A rule's line. -/
def rlLine (r : Rl) : List UInt8 := (if r.2.1 = 42 then [42, 46] else if r.2.1 = 33 then [33] else []) ++ dotted r.1
end Sx
namespace Go.Proofs.YtgohllfpceeboaaGreatDoor
open Go.RowKit
end Go.Proofs.YtgohllfpceeboaaGreatDoor

namespace Go.Proofs.YtgohllfpceeboaaGreatDoor
open Sx
/-- The lines of one section's rules. -/
def secs (rs : List Rl) (s : UInt8) : List (List UInt8) := (rs.filter fun r => decide (r.2.2 = s)).map rlLine
def joinL (ls : List (List UInt8)) : List UInt8 := ls.flatMap (· ++ [10])
/-- Rules as a list. -/
def outL (rs : List Rl) : List UInt8 := joinL (secs rs 105) ++ if secs rs 112 = [] then [] else joinL ([61, 61, 61, 112] :: secs rs 112)
/-- RULES. -/
def lsR (b : List UInt8) : List UInt8 × Int := if (opn b).2 = 0 then (outL (opn b).1, 0) else ([], (opn b).2)
/-- LOOKUP. -/
def lkA (rs : List Rl) (p : List UInt8) : List UInt8 × List UInt8 × List UInt8 × Int := (lastP p (pubI (prvl rs p)), lastP p (pubI (prvl rs p) + 1), [(prvl rs p).2.2], 0)
def lkR (b s : List UInt8) : List UInt8 × List UInt8 × List UInt8 × Int :=
  if (opn b).2 = 0 then (if (host s).2 = 0 then lkA (opn b).1 (dotted (host s).1) else ([], [], [], (host s).2)) else ([], [], [], (opn b).2)
theorem readRl_rt {line : List UInt8} {sec : UInt8} {r : Rl} (hs : sec = 105 ∨ sec = 112) (h : readRl line sec = some r) : RlRt r := by
  unfold readRl at h
  split at h
  · rename_i hc
    obtain rfl := Option.some.inj h
    exact ⟨host_again hc.1, cutRl_kd line, hc.2, hs⟩
  · cases h
theorem addLn_rt {rs : List Rl} {sec : UInt8} {line : List UInt8} (hs : sec = 105 ∨ sec = 112) (h : RlsRt rs) : RlsRt (addLn rs sec line).1.1 ∧ ((addLn rs sec line).1.2 = 105 ∨ (addLn rs sec line).1.2 = 112) := by
  unfold addLn
  split
  · exact ⟨h, hs⟩
  · split
    · exact ⟨h, Or.inl rfl⟩
    · split
      · exact ⟨h, Or.inr rfl⟩
      · cases hr : readRl line sec with
        | none => exact ⟨h, hs⟩
        | some r =>
          have := addRl_rt h (readRl_rt hs hr)
          unfold addRl at this
          simp only
          split
          · exact ⟨h, hs⟩
          · rename_i h1
            rw [if_neg h1] at this
            split
            · exact ⟨h, hs⟩
            · rename_i h2
              rw [if_neg h2] at this
              exact ⟨this, hs⟩
theorem addLns_rt : ∀ (l : List (List UInt8)) (rs : List Rl) (sec : UInt8) (n : Int), (sec = 105 ∨ sec = 112) → RlsRt rs → RlsRt (addLns l rs sec n).1
  | [], _, _, _, _, h => h
  | x :: r, rs, sec, n, hs, h => by
    unfold addLns
    obtain ⟨a, b⟩ := addLn_rt (line := x) hs h
    split
    · exact addLns_rt r _ _ _ b a
    · exact h
theorem addAll_rt : ∀ (l : List (List UInt8)) (rs : List Rl) (n : Int), RlsRt rs → RlsRt (addAll l rs n).1
  | [], _, _, h => h
  | s :: r, rs, n, h => by
    unfold addAll
    split
    · exact addAll_rt r _ _ (addLns_rt _ _ _ _ (Or.inl rfl) h)
    · exact addLns_rt _ _ _ _ (Or.inl rfl) h
/-- What Rules and Lookup ask of what Compile tells. -/
theorem opn_comp {lists : List (List UInt8)} (h : (compR lists).2.1 = 0) (hl : (compR lists).1.length ≤ 8000) : opn (compR lists).1 = (srt (addAll lists [] 0).1, 0) := by
  have hrt := addAll_rt lists [] 0 rlsRt_nil
  unfold compR at h hl ⊢
  split
  · rename_i hc; rw [if_pos hc] at h; simp at h
  · rename_i hc
    rw [if_neg hc] at h hl
    split
    · rename_i h0
      rw [if_pos h0] at hl
      exact opn_of hl (img_srt hrt)
    · rename_i h0
      rw [if_neg h0] at h
      simp only at h
      exact absurd h h0
/-- DOC.md's example. -/
def exT : List UInt8 := [99, 111, 109, 10, 117, 107, 10, 99, 111, 46, 117, 107, 10, 42, 46, 99, 107, 10, 33, 119, 119, 119, 46, 99, 107, 10, 61, 61, 61, 112, 10, 98, 108, 111, 103, 115, 112, 111, 116, 46, 99, 111, 109, 10]
def exS : List Rl := [([[99, 107]], 42, 105), ([[119, 119, 119], [99, 107]], 33, 105), ([[99, 111, 109]], 36, 105), ([[98, 108, 111, 103, 115, 112, 111, 116], [99, 111, 109]], 36, 112), ([[117, 107]], 36, 105), ([[99, 111], [117, 107]], 36, 105)]
def exX : List UInt8 := (compR [exT]).1
set_option maxRecDepth 100000 in
theorem ex_comp : compR [exT] = (exX, 0, 0) := by
  have h : (compR [exT]).2 = (0, 0) := by decide +kernel
  unfold exX
  rw [← h]
set_option maxRecDepth 100000 in
theorem ex_opn : opn exX = (exS, 0) := by
  have h1 : (compR [exT]).1.length ≤ 8000 := by decide +kernel
  have h2 := opn_comp (lists := [exT]) (by rw [ex_comp]) h1
  have h3 : srt (addAll [exT] [] 0).1 = exS := by decide +kernel
  rw [h3] at h2
  exact h2
set_option maxRecDepth 100000 in
theorem ex_ls : lsR exX = ([42, 46, 99, 107, 10, 33, 119, 119, 119, 46, 99, 107, 10, 99, 111, 109, 10, 117, 107, 10, 99, 111, 46, 117, 107, 10, 61, 61, 61, 112, 10, 98, 108, 111, 103, 115, 112, 111, 116, 46, 99, 111, 109, 10], 0) := by
  unfold lsR
  rw [ex_opn]
  decide +kernel
end Go.Proofs.YtgohllfpceeboaaGreatDoor

namespace Sx
def eSum (tab : List (List Edg)) : Nat := (tab.map List.length).sum
theorem eSum_app (a b : List (List Edg)) : eSum (a ++ b) = eSum a + eSum b := by simp [eSum]
/-- How many edges there come to be. -/
theorem edgF_edges : ∀ (n : Nat) (tab : List (List Edg)) (l : List Wd), OkF n l → eSum (edgF n tab l).1 ≤ eSum tab + sl l
  | 0, _, _, h => absurd h (by simp [OkF])
  | n + 1, tab, l, ho => by
    have fold : ∀ (gs : List (UInt8 × List Wd)) (tab : List (List Edg)) (es0 : List Edg), (∀ g ∈ gs, OkF n g.2) →
        eSum (gs.foldl (edgE n) (tab, es0)).1 + (gs.foldl (edgE n) (tab, es0)).2.length ≤ eSum tab + es0.length + (gs.map fun g => sl g.2 + 1).sum := by
      intro gs
      induction gs with
      | nil => intro tab es0 _; simp
      | cons g gs ih =>
        intro tab es0 hg
        have a := edgF_edges n tab g.2 (hg g (by simp))
        have b := ih (edgF n tab g.2).1 (es0 ++ [(g.1, (edgF n tab g.2).2)]) (fun y hy => hg y (by simp [hy]))
        rw [List.foldl_cons, show edgE n (tab, es0) g = ((edgF n tab g.2).1, es0 ++ [(g.1, (edgF n tab g.2).2)]) from rfl]
        simp only [List.map_cons, List.sum_cons]
        rw [List.length_append, List.length_singleton] at b
        omega
    have f := fold (grp l) tab [] ho.2
    have hs := grp_sum_ok ho
    rw [edgF_succ]
    generalize (grp l).foldl (edgE n) (tab, []) = r at f
    rw [List.length_nil] at f
    cases hp : posOf r.2 r.1 with
    | some i => simp only; omega
    | none =>
      simp only
      rw [eSum_app, show eSum [r.2] = r.2.length by simp [eSum]]
      omega
theorem imgT_len (tab : List (List Edg)) : (imgT tab).length = 2 + tab.length + 3 * eSum tab := by
  have h1 : ∀ es : List Edg, (es.flatMap fun e => e.1 :: two e.2).length = 3 * es.length := by
    intro es
    induction es with
    | nil => rfl
    | cons e es ih => rw [List.flatMap_cons, List.length_append, ih]; simp [two]; omega
  have h2 : ∀ t : List (List Edg), (t.flatMap tellE).length = t.length + 3 * eSum t := by
    intro t
    induction t with
    | nil => rfl
    | cons es t ih =>
      rw [List.flatMap_cons, List.length_append, ih]
      unfold tellE
      rw [List.length_cons, h1]
      simp [eSum]
      omega
  unfold imgT
  rw [List.length_append, h2]
  simp [two]
  omega
/-- An image of right rules is no longer than images may be. -/
theorem img_len {rs : List Rl} (h : RlsOk rs) : (imgT (tabOf rs)).length ≤ 8000 := by
  by_cases h0 : rs = []
  · subst h0; decide
  · have hk := (keys_ok h h0).1
    have hso := sortW_ok _ (free_nodup (keys_free h.ok h.apart))
    have hlen : (sortW (rs.map rlKey)).length = rs.length := by
      have := sortW_length (rs.map rlKey) []
      unfold sortW
      rw [this, List.length_map]; rfl
    have hs := sl_all (sortW (rs.map rlKey)) 63 (fun x hx => by
      obtain ⟨r, hr, rfl⟩ := List.mem_map.1 ((hso.2 x).1 hx)
      have := rlKey_len (h.ok r hr)
      omega)
    have hm := h.many
    rw [hlen] at hs
    have h2 : rs.length * 63 ≤ 30 * 63 := Nat.mul_le_mul_right _ hm
    have htab : tabOf rs = (edgF 64 [] (sortW (rs.map rlKey))).1 := by unfold tabOf; rw [if_neg h0]
    have e1 := edgF_edges 64 [] _ hk
    have e2 := (edgF_len 64 [] _ hk (by simp)).2.1
    rw [imgT_len, htab]
    simp only [eSum, List.map_nil, List.sum_nil, List.length_nil] at e1 e2 ⊢
    omega
theorem dotted_len61 {h : List (List UInt8)} (hh : HostOk h) : (dotted h).length ≤ 60 := by
  have h1 := hh.2.2.1
  obtain ⟨x, t, rfl⟩ := List.exists_cons_of_ne_nil hh.1
  have : ∀ q : List (List UInt8), (q.flatMap fun y => 46 :: y).length = allLen q := by
    intro q
    induction q with
    | nil => rfl
    | cons a q ih => simp only [List.flatMap_cons, List.length_append, ih, allLen, List.map_cons, List.sum_cons, List.length_cons]
  simp only [dotted, List.length_append, this]
  simp only [allLen, List.map_cons, List.sum_cons] at h1
  simp only [allLen]
  omega
theorem dotted_head {h : List (List UInt8)} (hh : HostOk h) : ∃ b r, dotted h = b :: r ∧ plB b := by
  obtain ⟨x, t, rfl⟩ := List.exists_cons_of_ne_nil hh.1
  obtain ⟨hx, hb⟩ := hh.2.2.2 x (by simp)
  obtain ⟨b, r, rfl⟩ := List.exists_cons_of_ne_nil hx
  exact ⟨b, r ++ t.flatMap fun y => 46 :: y, rfl, hb b (by simp)⟩
/-- The line of a right rule is read as that rule. -/
theorem cut_line {r : Rl} (h : RlOk r) : cutRl (rlLine r) = (r.2.1, dotted r.1) := by
  obtain ⟨H, k, s⟩ := r
  obtain ⟨b, q, hd, hb⟩ := dotted_head h.1
  dsimp only at hd
  unfold cutRl rlLine
  rcases h.2 with e | e | e
  · dsimp only at e
    subst e
    simp only [hd]
    unfold plB at hb
    rw [if_neg, if_neg]
    · rfl
    · rintro e
      simp at e
      subst e
      simp at hb
    · rintro e
      simp at e
      rw [e.1] at hb
      simp at hb
  · dsimp only at e
    subst e
    simp
  · dsimp only at e
    subst e
    simp
theorem read_line {r : Rl} (h : RlRt r) : readRl (rlLine r) r.2.2 = some r := by
  unfold readRl
  rw [cut_line h.ok, h.1]
  simp only
  rw [if_pos ⟨trivial, h.2.2.1⟩]
/-- What stands first in a rule's line. -/
theorem line_head {r : Rl} (h : RlOk r) : ∃ b q, rlLine r = b :: q ∧ (plB b ∨ b = 42 ∨ b = 33) := by
  obtain ⟨H, k, s⟩ := r
  obtain ⟨b, q, hd, hb⟩ := dotted_head h.1
  dsimp only at hd
  unfold rlLine
  rcases h.2 with e | e | e
  · dsimp only at e
    subst e
    exact ⟨b, q, by simp [hd], Or.inl hb⟩
  · dsimp only at e
    subst e
    exact ⟨42, _, by simp; rfl, Or.inr (Or.inl rfl)⟩
  · dsimp only at e
    subst e
    exact ⟨33, _, by simp; rfl, Or.inr (Or.inr rfl)⟩
theorem addLn_line {rs : List Rl} {r : Rl} (h : RlsRt (rs ++ [r])) : addLn rs r.2.2 (rlLine r) = ((rs ++ [r], r.2.2), 0) := by
  have hr : RlRt r := h.ok r (by simp)
  obtain ⟨b, q, hd, hb⟩ := line_head hr.ok
  have hb2 : b ≠ 47 ∧ b ≠ 61 := by
    unfold plB at hb
    constructor
    · rintro rfl; simp at hb
    · rintro rfl; simp at hb
  unfold addLn
  rw [if_neg, if_neg, if_neg, read_line hr]
  · simp only
    rw [if_neg, if_neg]
    · have := h.many
      simp only [List.length_append, List.length_singleton] at this
      omega
    · intro hk
      obtain ⟨q, hq, e⟩ := (known_iff (fun q hq => (h.ok q (by simp [hq])).ok) hr.ok).1 hk
      exact (List.pairwise_append.1 h.apart).2.2 q hq r (by simp) e
  · rw [hd]; intro e; injection e with e _; exact hb2.2 e
  · rw [hd]; intro e; injection e with e _; exact hb2.2 e
  · rw [hd]
    rintro (e | e)
    · cases e
    · cases q with
      | nil => simp at e
      | cons c q => simp at e; exact hb2.1 e.1
theorem addLns_lines : ∀ (ls acc : List Rl) (sec : UInt8) (n : Int) (rest : List (List UInt8)), (∀ r ∈ ls, r.2.2 = sec) → RlsRt (acc ++ ls) → addLns (ls.map rlLine ++ rest) acc sec n = addLns rest (acc ++ ls) sec (n + ls.length)
  | [], acc, sec, n, rest, _, _ => by simp
  | r :: ls, acc, sec, n, rest, hs, h => by
    have h1 : RlsRt (acc ++ [r]) := by
      refine ⟨fun q hq => h.ok q ?_, ?_, ?_⟩
      · rcases List.mem_append.1 hq with hq | hq
        · simp [hq]
        · rw [List.mem_singleton.1 hq]; simp
      · exact h.apart.sublist (List.Sublist.append_left (by simp) acc)
      · have := h.many
        simp only [List.length_append, List.length_cons, List.length_nil] at this ⊢
        omega
    have h2 := addLn_line h1
    rw [hs r (by simp)] at h2
    rw [List.map_cons, List.cons_append]
    conv => lhs; unfold addLns
    rw [h2]
    simp only [if_true]
    rw [addLns_lines ls (acc ++ [r]) sec (n + 1) rest (fun q hq => hs q (by simp [hq])) (by simpa using h)]
    simp only [List.append_assoc, List.singleton_append, List.length_cons]
    congr 1
    omega
theorem linesGo_run : ∀ (x r cur : List UInt8), (10 : UInt8) ∉ x → linesGo (x ++ 10 :: r) cur = (cur ++ x) :: linesOf r
  | [], r, cur, _ => by simp [linesGo, linesOf]
  | b :: x, r, cur, h => by
    have hb : b ≠ 10 := fun e => h (by simp [e])
    have ih := linesGo_run x r (cur ++ [b]) (fun e => h (by simp [e]))
    rw [List.cons_append]
    conv => lhs; unfold linesGo
    rw [if_neg hb, ih]
    simp
theorem line_no10 {r : Rl} (h : RlOk r) : (10 : UInt8) ∉ rlLine r := by
  intro hm
  unfold rlLine at hm
  rcases List.mem_append.1 hm with hm | hm
  · repeat' split at hm
    all_goals simp at hm
  · rcases dotted_bytes (fun x hx => (h.1.2.2.2 x hx).2) 10 hm with q | q
    · unfold plB at q; simp at q
    · cases q
end Sx
namespace Go.Proofs.YtgohllfpceeboaaGreatDoor
open Sx
theorem linesOf_join : ∀ (ls : List (List UInt8)) (r : List UInt8), (∀ x ∈ ls, (10 : UInt8) ∉ x) → linesOf (joinL ls ++ r) = ls ++ linesOf r
  | [], r, _ => rfl
  | x :: ls, r, h => by
    have ih := linesOf_join ls r (fun y hy => h y (by simp [hy]))
    have e : joinL (x :: ls) ++ r = x ++ 10 :: (joinL ls ++ r) := by simp [joinL]
    rw [e]
    show linesGo _ [] = _
    rw [linesGo_run x _ [] (h x (by simp)), ih]
    simp
theorem secs_len {rs : List Rl} (h : ∀ r ∈ rs, RlOk r) : (joinL (rs.map rlLine)).length ≤ 63 * rs.length := by
  induction rs with
  | nil => simp [joinL]
  | cons r rs ih =>
    have h1 := ih (fun q hq => h q (by simp [hq]))
    have h2 := dotted_len61 (h r (by simp)).1
    have e : joinL ((r :: rs).map rlLine) = rlLine r ++ 10 :: joinL (rs.map rlLine) := by simp [joinL]
    have h3 : (rlLine r).length ≤ 62 := by
      unfold rlLine
      rw [List.length_append]
      repeat' split
      all_goals simp
      all_goals omega
    rw [e, List.length_append, List.length_cons, List.length_cons]
    omega
theorem part_len (rs : List Rl) : (∀ r ∈ rs, r.2.2 = 105 ∨ r.2.2 = 112) → (rs.filter fun r => decide (r.2.2 = 105)).length + (rs.filter fun r => decide (r.2.2 = 112)).length = rs.length := by
  induction rs with
  | nil => intro _; rfl
  | cons r rs ih =>
    intro h
    have := ih (fun q hq => h q (by simp [hq]))
    rcases h r (by simp) with e | e
    · simp [e]; omega
    · simp [e]; omega
theorem part_perm : ∀ (rs : List Rl), (∀ r ∈ rs, r.2.2 = 105 ∨ r.2.2 = 112) → ((rs.filter fun r => decide (r.2.2 = 105)) ++ (rs.filter fun r => decide (r.2.2 = 112))).Perm rs
  | [], _ => List.Perm.refl _
  | r :: rs, h => by
    have ih := part_perm rs (fun q hq => h q (by simp [hq]))
    rcases h r (by simp) with e | e
    · simp only [List.filter_cons, e]
      simpa using List.Perm.cons r ih
    · simp only [List.filter_cons, e]
      simp
      exact (List.perm_middle).trans (List.Perm.cons r ih)
theorem tabOf_perm {rs rs' : List Rl} (h : RlsRt rs) (hp : rs'.Perm rs) : tabOf rs' = tabOf rs := by
  have e : sortW (rs'.map rlKey) = sortW (rs.map rlKey) := by
    have hn := h.nodup
    have hn' := (h.perm hp).nodup
    have h1 := sortW_ok _ hn'
    refine sortW_one (rs.map rlKey) (sortW (rs'.map rlKey)) hn h1.1 (fun y => ?_)
    rw [h1.2 y]
    exact (hp.map rlKey).mem_iff
  unfold tabOf
  rw [e]
  by_cases h0 : rs = []
  · subst h0
    have : rs' = [] := List.eq_nil_of_length_eq_zero hp.length_eq
    rw [if_pos rfl, if_pos this]
  · have : rs' ≠ [] := fun e => h0 (List.eq_nil_of_length_eq_zero (by rw [← hp.length_eq, e]; rfl))
    rw [if_neg h0, if_neg this]
theorem outL_len {rs : List Rl} (h : RlsRt rs) : (outL rs).length ≤ 2000 := by
  have h1 := part_len rs (fun r hr => (h.ok r hr).2.2.2)
  have h2 := secs_len (rs := rs.filter fun r => decide (r.2.2 = 105)) (fun r hr => (h.ok r (List.mem_filter.1 hr).1).ok)
  have h3 := secs_len (rs := rs.filter fun r => decide (r.2.2 = 112)) (fun r hr => (h.ok r (List.mem_filter.1 hr).1).ok)
  have h4 := h.many
  unfold outL secs
  rw [List.length_append]
  split
  · simp only [List.length_nil]; omega
  · have e : joinL ([61, 61, 61, 112] :: (rs.filter fun r => decide (r.2.2 = 112)).map rlLine) = [61, 61, 61, 112, 10] ++ joinL ((rs.filter fun r => decide (r.2.2 = 112)).map rlLine) := by simp [joinL]
    rw [e, List.length_append]
    simp only [List.length_cons, List.length_nil]
    omega
/-- What Rules tells has the image of the rules. -/
theorem comp_out {rs : List Rl} (h : RlsRt rs) : compR [outL rs] = (imgT (tabOf rs), 0, 0) := by
  have hl := outL_len h
  obtain ⟨A, hA⟩ : ∃ A, rs.filter (fun r => decide (r.2.2 = 105)) = A := ⟨_, rfl⟩
  obtain ⟨B, hB⟩ : ∃ B, rs.filter (fun r => decide (r.2.2 = 112)) = B := ⟨_, rfl⟩
  have hp := part_perm rs (fun r hr => (h.ok r hr).2.2.2)
  rw [hA, hB] at hp
  have hAB := h.perm hp
  have hA1 : RlsRt ([] ++ A) := ⟨fun r hr => hAB.ok r (by simp at hr; simp [hr]), by simpa using (List.pairwise_append.1 hAB.apart).1, by have := hAB.many; rw [List.length_append] at this; simp; omega⟩
  have sA : ∀ r ∈ A, r.2.2 = 105 := fun r hr => by rw [← hA] at hr; simpa using (List.mem_filter.1 hr).2
  have sB : ∀ r ∈ B, r.2.2 = 112 := fun r hr => by rw [← hB] at hr; simpa using (List.mem_filter.1 hr).2
  have nA : ∀ x ∈ A.map rlLine, (10 : UInt8) ∉ x := fun x hx => by
    obtain ⟨r, hr, rfl⟩ := List.mem_map.1 hx
    exact line_no10 (hAB.ok r (by simp [hr])).ok
  have nB : ∀ x ∈ B.map rlLine, (10 : UInt8) ∉ x := fun x hx => by
    obtain ⟨r, hr, rfl⟩ := List.mem_map.1 hx
    exact line_no10 (hAB.ok r (by simp [hr])).ok
  have hadd : ∃ n, addLns (linesOf (outL rs)) [] 105 0 = (A ++ B, 0, n) := by
    unfold outL secs
    rw [hA, hB, linesOf_join _ _ nA]
    by_cases h0 : B.map rlLine = []
    · have hB0 : B = [] := by simpa using h0
      rw [if_pos h0, addLns_lines A [] 105 0 _ sA hA1, hB0]
      exact ⟨_, by simp [linesOf_nil, addLns]; rfl⟩
    · rw [if_neg h0, addLns_lines A [] 105 0 _ sA hA1]
      have e := linesOf_join ([61, 61, 61, 112] :: B.map rlLine) [] (fun x hx => by
        rcases List.mem_cons.1 hx with rfl | hx
        · decide
        · exact nB x hx)
      rw [List.append_nil, linesOf_nil, List.append_nil] at e
      rw [e]
      have e2 : ∀ (acc : List Rl) (n : Int), addLns ([61, 61, 61, 112] :: B.map rlLine) acc 105 n = addLns (B.map rlLine) acc 112 (n + 1) := by
        intro acc n
        conv => lhs; unfold addLns
        have : addLn acc 105 [61, 61, 61, 112] = ((acc, 112), 0) := by unfold addLn; simp
        rw [this]
        simp
      rw [e2]
      have e3 := addLns_lines B ([] ++ A) 112 (0 + (A.length : Int) + 1) [] sB (by simpa using hAB)
      rw [List.append_nil] at e3
      rw [e3]
      exact ⟨_, by simp [addLns]; rfl⟩
  obtain ⟨n, hadd⟩ := hadd
  have hall : addAll [outL rs] [] 0 = (A ++ B, 0, n) := by
    unfold addAll
    rw [hadd]
    simp [addAll]
  unfold compR
  rw [if_neg (by simp [sl]; omega), hall]
  simp only [if_true]
  rw [tabOf_perm h hp]
end Go.Proofs.YtgohllfpceeboaaGreatDoor

namespace Sx
end Sx
namespace Sx
theorem host_err {s : List UInt8} (h : (host s).2 ≠ 0) : (host s).1 = [] := by
  unfold host at h ⊢
  split
  · rfl
  · rename_i hc
    rw [if_neg hc] at h
    cases hl : letters s with
    | none => rfl
    | some l =>
      rw [hl] at h
      simp only at h ⊢
      cases hg : hostGo l [] with
      | none => rfl
      | some H =>
        rw [hg] at h
        simp only at h ⊢
        unfold hostEnd at h ⊢
        split
        · rfl
        · rename_i hc; rw [if_neg hc] at h; simp at h
/-- STEADY, of the pure answers. -/
theorem steady_pure (s : List UInt8) (h : (plainR s).2 = 0) : plainR (plainR s).1 = ((plainR s).1, 0) ∧ shownR (plainR s).1 = ((shownR s).1, 0) ∧ ((plainR (shownR s).1).2 = 1 ∨ plainR (shownR s).1 = ((plainR s).1, 0)) := by
  have h' : (host s).2 = 0 := h
  have hag := host_again h'
  have hs := host_shown h'
  refine ⟨?_, ?_, ?_⟩
  · show (dotted (host (dotted (host s).1)).1, (host (dotted (host s).1)).2) = _
    rw [hag]; rfl
  · show (dotted ((host (dotted (host s).1)).1.map shownOf), (host (dotted (host s).1)).2) = _
    rw [hag]; rfl
  · show (host (dotted ((host s).1.map shownOf))).2 = 1 ∨ (dotted (host (dotted ((host s).1.map shownOf))).1, (host (dotted ((host s).1.map shownOf))).2) = _
    rw [hs]
    split
    · exact Or.inl rfl
    · exact Or.inr rfl
theorem steady_err (s : List UInt8) (h : (plainR s).2 ≠ 0) : (plainR s).1 = [] ∧ (shownR s).1 = [] := by
  have h0 := host_err (s := s) h
  exact ⟨by unfold plainR; rw [h0]; rfl, by unfold shownR; rw [h0]; rfl⟩
end Sx

namespace Sx
set_option maxRecDepth 100000 in
theorem aw_p1 : plainR [69, 120, 97, 109, 112, 108, 101, 46, 67, 79, 77] = ([101, 120, 97, 109, 112, 108, 101, 46, 99, 111, 109], 0) := by decide +kernel
set_option maxRecDepth 100000 in
theorem aw_p2 : plainR [98, 195, 188, 99, 104, 101, 114, 46, 100, 101] = ([120, 110, 45, 45, 98, 99, 104, 101, 114, 45, 107, 118, 97, 46, 100, 101], 0) := by decide +kernel
set_option maxRecDepth 100000 in
theorem aw_s1 : shownR [120, 110, 45, 45, 98, 99, 104, 101, 114, 45, 107, 118, 97, 46, 100, 101] = ([98, 195, 188, 99, 104, 101, 114, 46, 100, 101], 0) := by decide +kernel
set_option maxRecDepth 100000 in
theorem aw_c1 : compR [[99, 111, 109]] = ([0, 6, 0, 1, 105, 0, 0, 1, 36, 0, 1, 1, 109, 0, 2, 1, 111, 0, 3, 1, 99, 0, 4], 0, 0) := by decide +kernel
end Sx
namespace Go.Proofs.YtgohllfpceeboaaGreatDoor
open Sx
set_option maxRecDepth 100000 in
theorem aw_l1 : lkR exX [97, 46, 98, 46, 99, 111, 109] = ([99, 111, 109], [98, 46, 99, 111, 109], [105], 0) := by
  unfold lkR
  rw [ex_opn]
  decide +kernel
set_option maxRecDepth 100000 in
theorem aw_l2 : lkR exX [99, 111, 109] = ([99, 111, 109], [], [105], 0) := by
  unfold lkR
  rw [ex_opn]
  decide +kernel
set_option maxRecDepth 100000 in
theorem aw_l3 : lkR exX [120, 46, 99, 111, 46, 117, 107] = ([99, 111, 46, 117, 107], [120, 46, 99, 111, 46, 117, 107], [105], 0) := by
  unfold lkR
  rw [ex_opn]
  decide +kernel
set_option maxRecDepth 100000 in
theorem aw_l4 : lkR exX [97, 46, 98, 46, 99, 107] = ([98, 46, 99, 107], [97, 46, 98, 46, 99, 107], [105], 0) := by
  unfold lkR
  rw [ex_opn]
  decide +kernel
set_option maxRecDepth 100000 in
theorem aw_l5 : lkR exX [99, 107] = ([99, 107], [], [45], 0) := by
  unfold lkR
  rw [ex_opn]
  decide +kernel
set_option maxRecDepth 100000 in
theorem aw_l6 : lkR exX [97, 46, 119, 119, 119, 46, 99, 107] = ([99, 107], [119, 119, 119, 46, 99, 107], [105], 0) := by
  unfold lkR
  rw [ex_opn]
  decide +kernel
set_option maxRecDepth 100000 in
theorem aw_l7 : lkR exX [97, 46, 98, 108, 111, 103, 115, 112, 111, 116, 46, 99, 111, 109] = ([98, 108, 111, 103, 115, 112, 111, 116, 46, 99, 111, 109], [97, 46, 98, 108, 111, 103, 115, 112, 111, 116, 46, 99, 111, 109], [112], 0) := by
  unfold lkR
  rw [ex_opn]
  decide +kernel
set_option maxRecDepth 100000 in
theorem aw_l8 : lkR exX [97, 46, 98, 46, 122, 122] = ([122, 122], [98, 46, 122, 122], [45], 0) := by
  unfold lkR
  rw [ex_opn]
  decide +kernel
end Go.Proofs.YtgohllfpceeboaaGreatDoor

namespace Go.Proofs.YtgohllfpceeboaaGreatDoor
open Sx
/-- AGAIN, of the pure answers. -/
theorem comp_err {L : List (List UInt8)} (h : (compR L).2.1 ≠ 0) : (compR L).1 = [] := by
  unfold compR at h ⊢
  split
  · rfl
  · rename_i hc
    rw [if_neg hc] at h
    split
    · rename_i h0; rw [if_pos h0] at h; simp at h
    · rfl
theorem comp_is {L : List (List UInt8)} (h : (compR L).2.1 = 0) : compR L = (imgT (tabOf (addAll L [] 0).1), 0, 0) := by
  unfold compR at h ⊢
  split
  · rename_i hc; rw [if_pos hc] at h; simp at h
  · rename_i hc
    rw [if_neg hc] at h
    split
    · rfl
    · rename_i h0; rw [if_neg h0] at h; exact absurd h h0
theorem opn_img {rs : List Rl} (h : RlsRt rs) : opn (imgT (tabOf rs)) = (srt rs, 0) := opn_of (img_len h.rls) (img_srt h)
theorem again_pure {L : List (List UInt8)} (h : (compR L).2.1 = 0) : (compR L).2.2 = 0 ∧ ∃ r, lsR (compR L).1 = (r, 0) ∧ compR [r] = ((compR L).1, 0, 0) := by
  have hrt := addAll_rt L [] 0 rlsRt_nil
  have hc := comp_is h
  rw [hc]
  refine ⟨rfl, outL (srt (addAll L [] 0).1), ?_, ?_⟩
  · unfold lsR
    simp only
    rw [opn_img hrt]
    simp
  · rw [comp_out (rlsRt_srt hrt)]
    simp only
    rw [(img_srt hrt).is]
end Go.Proofs.YtgohllfpceeboaaGreatDoor

