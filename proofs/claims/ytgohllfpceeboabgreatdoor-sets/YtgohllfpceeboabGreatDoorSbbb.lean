import Derived.Test.YtgohllfpceeboabGreatDoorSbaa
import Derived.Test.YtgohllfpceeboabGreatDoorSbar
import Derived.Test.YtgohllfpceeboabGreatDoorSbas
import Derived.Test.YtgohllfpceeboabGreatDoorSbay
import Derived.Test.YtgohllfpceeboabGreatDoorSbba
import Derived.Test.YtgohllfpceeboabGreatDoorSbat
import Derived.Test.YtgohllfpceeboabGreatDoorSbac
namespace Sx
/-- A rule's line. -/
def rlLine (r : Rl) : List UInt8 := (if r.2.1 = 42 then [42, 46] else if r.2.1 = 33 then [33] else []) ++ dotted r.1
end Sx
namespace Go.Proofs.YtgohllfpceeboabGreatDoor
open Go.RowKit
end Go.Proofs.YtgohllfpceeboabGreatDoor

namespace Go.Proofs.YtgohllfpceeboabGreatDoor
open Sx
/-- The lines of one section's rules. -/
def secs (rs : List Rl) (s : UInt8) : List (List UInt8) := (rs.filter fun r => decide (r.2.2 = s)).map rlLine
def joinL (ls : List (List UInt8)) : List UInt8 := ls.flatMap (· ++ [10])
/-- Rules as a list. -/
def outL (rs : List Rl) : List UInt8 := joinL (secs rs 105) ++ if secs rs 112 = [] then [] else joinL ([61, 61, 61, 112] :: secs rs 112)
/-- RULES. -/
def lsR (b : List UInt8) : List UInt8 × Int := if (opn b).2 = 0 then (outL (opn b).1, 0) else ([], (opn b).2)
/-- LOOKUP. -/
def lkA (rs : List Rl) (p : List UInt8) : List UInt8 × List UInt8 × List UInt8 × Int := (lastP p (pubI (prvl rs p)), lastP p (pubI (prvl rs p) + 1), [(prvl rs p).2.2], 0)
def lkR (b s : List UInt8) : List UInt8 × List UInt8 × List UInt8 × Int :=
  if (opn b).2 = 0 then (if (host s).2 = 0 then lkA (opn b).1 (dotted (host s).1) else ([], [], [], (host s).2)) else ([], [], [], (opn b).2)
theorem readRl_rt {line : List UInt8} {sec : UInt8} {r : Rl} (hs : sec = 105 ∨ sec = 112) (h : readRl line sec = some r) : RlRt r := by
  unfold readRl at h
  split at h
  · rename_i hc
    obtain rfl := Option.some.inj h
    exact ⟨host_again hc.1, cutRl_kd line, hc.2, hs⟩
  · cases h
theorem addLn_rt {rs : List Rl} {sec : UInt8} {line : List UInt8} (hs : sec = 105 ∨ sec = 112) (h : RlsRt rs) : RlsRt (addLn rs sec line).1.1 ∧ ((addLn rs sec line).1.2 = 105 ∨ (addLn rs sec line).1.2 = 112) := by
  unfold addLn
  split
  · exact ⟨h, hs⟩
  · split
    · exact ⟨h, Or.inl rfl⟩
    · split
      · exact ⟨h, Or.inr rfl⟩
      · cases hr : readRl line sec with
        | none => exact ⟨h, hs⟩
        | some r =>
          have := addRl_rt h (readRl_rt hs hr)
          unfold addRl at this
          simp only
          split
          · exact ⟨h, hs⟩
          · rename_i h1
            rw [if_neg h1] at this
            split
            · exact ⟨h, hs⟩
            · rename_i h2
              rw [if_neg h2] at this
              exact ⟨this, hs⟩
theorem addLns_rt : ∀ (l : List (List UInt8)) (rs : List Rl) (sec : UInt8) (n : Int), (sec = 105 ∨ sec = 112) → RlsRt rs → RlsRt (addLns l rs sec n).1
  | [], _, _, _, _, h => h
  | x :: r, rs, sec, n, hs, h => by
    unfold addLns
    obtain ⟨a, b⟩ := addLn_rt (line := x) hs h
    split
    · exact addLns_rt r _ _ _ b a
    · exact h
theorem addAll_rt : ∀ (l : List (List UInt8)) (rs : List Rl) (n : Int), RlsRt rs → RlsRt (addAll l rs n).1
  | [], _, _, h => h
  | s :: r, rs, n, h => by
    unfold addAll
    split
    · exact addAll_rt r _ _ (addLns_rt _ _ _ _ (Or.inl rfl) h)
    · exact addLns_rt _ _ _ _ (Or.inl rfl) h
/-- What Rules and Lookup ask of what Compile tells. -/
theorem opn_comp {lists : List (List UInt8)} (h : (compR lists).2.1 = 0) (hl : (compR lists).1.length ≤ 8000) : opn (compR lists).1 = (srt (addAll lists [] 0).1, 0) := by
  have hrt := addAll_rt lists [] 0 rlsRt_nil
  unfold compR at h hl ⊢
  split
  · rename_i hc; rw [if_pos hc] at h; simp at h
  · rename_i hc
    rw [if_neg hc] at h hl
    split
    · rename_i h0
      rw [if_pos h0] at hl
      exact opn_of hl (img_srt hrt)
    · rename_i h0
      rw [if_neg h0] at h
      simp only at h
      exact absurd h h0
/-- DOC.md's example. -/
def exT : List UInt8 := [99, 111, 109, 10, 117, 107, 10, 99, 111, 46, 117, 107, 10, 42, 46, 99, 107, 10, 33, 119, 119, 119, 46, 99, 107, 10, 61, 61, 61, 112, 10, 98, 108, 111, 103, 115, 112, 111, 116, 46, 99, 111, 109, 10]
def exS : List Rl := [([[99, 107]], 42, 105), ([[119, 119, 119], [99, 107]], 33, 105), ([[99, 111, 109]], 36, 105), ([[98, 108, 111, 103, 115, 112, 111, 116], [99, 111, 109]], 36, 112), ([[117, 107]], 36, 105), ([[99, 111], [117, 107]], 36, 105)]
def exX : List UInt8 := (compR [exT]).1
set_option maxRecDepth 100000 in
theorem ex_comp : compR [exT] = (exX, 0, 0) := by
  have h : (compR [exT]).2 = (0, 0) := by decide +kernel
  unfold exX
  rw [← h]
set_option maxRecDepth 100000 in
theorem ex_opn : opn exX = (exS, 0) := by
  have h1 : (compR [exT]).1.length ≤ 8000 := by decide +kernel
  have h2 := opn_comp (lists := [exT]) (by rw [ex_comp]) h1
  have h3 : srt (addAll [exT] [] 0).1 = exS := by decide +kernel
  rw [h3] at h2
  exact h2
set_option maxRecDepth 100000 in
theorem ex_ls : lsR exX = ([42, 46, 99, 107, 10, 33, 119, 119, 119, 46, 99, 107, 10, 99, 111, 109, 10, 117, 107, 10, 99, 111, 46, 117, 107, 10, 61, 61, 61, 112, 10, 98, 108, 111, 103, 115, 112, 111, 116, 46, 99, 111, 109, 10], 0) := by
  unfold lsR
  rw [ex_opn]
  decide +kernel
end Go.Proofs.YtgohllfpceeboabGreatDoor

namespace Sx
/-- How a rule that fits stands among others: exceptions above all, then the number of labels, then the plain one. -/
def rank (n : Nat) (r : Rl) : Nat := (if r.2.1 = 33 then 1000000 else 0) + 2 * n + (if r.2.1 = 36 then 1 else 0)
theorem fitN_is {h : List (List UInt8)} {r : Rl} {n : Nat} (hf : fitN h r = some n) : endsL h r.1 = true ∧ n = r.1.length + (if r.2.1 = 42 then 1 else 0) ∧ n ≤ h.length := by
  unfold fitN at hf
  split at hf
  · rename_i he
    have he' := he
    unfold endsL at he'
    simp only [Bool.and_eq_true, decide_eq_true_eq] at he'
    split at hf
    · rename_i hk
      split at hf
      · obtain rfl := Option.some.inj hf
        exact ⟨he, by rw [if_pos hk], by omega⟩
      · cases hf
    · rename_i hk
      obtain rfl := Option.some.inj hf
      exact ⟨he, by rw [if_neg hk]; rfl, he'.1⟩
  · cases hf
theorem ends_eq {h a b : List (List UInt8)} (ha : endsL h a = true) (hb : endsL h b = true) (hl : a.length = b.length) : a = b := by
  unfold endsL at ha hb
  simp only [Bool.and_eq_true, decide_eq_true_eq] at ha hb
  rw [← ha.2, ← hb.2, hl]
/-- Of rules apart, no two that fit stand alike. -/
theorem rank_inj {h : List (List UInt8)} {a b : Rl} {n m : Nat} (hh : h.length ≤ 1000) (ka : isKd a.2.1) (kb : isKd b.2.1) (fa : fitN h a = some n) (fb : fitN h b = some m) (e : rank n a = rank m b) : a.1 = b.1 ∧ a.2.1 = b.2.1 := by
  obtain ⟨a1, a2, a3⟩ := fitN_is fa
  obtain ⟨b1, b2, b3⟩ := fitN_is fb
  unfold rank at e
  rcases ka with k | k | k <;> rcases kb with l | l | l <;> simp [k, l] at e a2 b2 ⊢
  all_goals first | omega | exact ends_eq a1 b1 (by omega)
/-- The state of the search, as it should be behind some rules. -/
structure BestIs (h : List (List UInt8)) (rs : List Rl) (st : Option (Nat × Rl)) : Prop where
  none : st = none → ∀ r ∈ rs, fitN h r = none
  some : ∀ n r, st = some (n, r) → r ∈ rs ∧ fitN h r = some n ∧ ∀ q ∈ rs, ∀ m, fitN h q = some m → rank m q ≤ rank n r
theorem bestS_is {h : List (List UInt8)} {rs : List Rl} {st : Option (Nat × Rl)} {r : Rl} (hh : h.length ≤ 1000) (hk : isKd r.2.1) (hks : ∀ q ∈ rs, isKd q.2.1) (hb : BestIs h rs st) : BestIs h (rs ++ [r]) (bestS h st r) := by
  unfold bestS
  cases hf : fitN h r with
  | none =>
    refine ⟨fun e q hq => ?_, fun n b e => ?_⟩
    · rcases List.mem_append.1 hq with hq | hq
      · exact hb.none e q hq
      · rw [List.mem_singleton.1 hq]; exact hf
    · obtain ⟨c1, c2, c3⟩ := hb.some n b e
      refine ⟨by simp [c1], c2, fun q hq m hm => ?_⟩
      rcases List.mem_append.1 hq with hq | hq
      · exact c3 q hq m hm
      · rw [List.mem_singleton.1 hq, hf] at hm; cases hm
  | some n =>
    simp only
    obtain ⟨f1, f2, f3⟩ := fitN_is hf
    cases st with
    | none =>
      refine ⟨fun e => by simp at e, fun n' b e => ?_⟩
      simp only [Option.some.injEq, Prod.mk.injEq] at e
      obtain ⟨rfl, rfl⟩ := e
      refine ⟨by simp, hf, fun q hq m hm => ?_⟩
      rcases List.mem_append.1 hq with hq | hq
      · rw [hb.none rfl q hq] at hm; cases hm
      · rw [List.mem_singleton.1 hq, hf] at hm
        rw [List.mem_singleton.1 hq, Option.some.inj hm]
        exact Nat.le_refl _
    | some x =>
      obtain ⟨c, b⟩ := x
      obtain ⟨c1, c2, c3⟩ := hb.some c b rfl
      obtain ⟨g1, g2, g3⟩ := fitN_is c2
      have hkb := hks b c1
      simp only
      have take : rank c b ≤ rank n r → BestIs h (rs ++ [r]) (some (n, r)) := fun hle => by
        refine ⟨fun e => by simp at e, fun n' b' e => ?_⟩
        simp only [Option.some.injEq, Prod.mk.injEq] at e
        obtain ⟨rfl, rfl⟩ := e
        refine ⟨by simp, hf, fun q hq m hm => ?_⟩
        rcases List.mem_append.1 hq with hq | hq
        · exact Nat.le_trans (c3 q hq m hm) hle
        · rw [List.mem_singleton.1 hq, hf] at hm
          rw [List.mem_singleton.1 hq, Option.some.inj hm]
          exact Nat.le_refl _
      have keep : rank n r ≤ rank c b → BestIs h (rs ++ [r]) (some (c, b)) := fun hle => by
        refine ⟨fun e => by simp at e, fun n' b' e => ?_⟩
        simp only [Option.some.injEq, Prod.mk.injEq] at e
        obtain ⟨rfl, rfl⟩ := e
        refine ⟨by simp [c1], c2, fun q hq m hm => ?_⟩
        rcases List.mem_append.1 hq with hq | hq
        · exact c3 q hq m hm
        · rw [List.mem_singleton.1 hq, hf] at hm
          rw [List.mem_singleton.1 hq, ← Option.some.inj hm]
          exact hle
      split
      · rename_i hc
        refine take ?_
        unfold rank
        rcases hk with k | k | k <;> rcases hkb with l | l | l <;> simp [k, l] at hc ⊢ <;> omega
      · rename_i hc
        split
        · rename_i hd
          refine take ?_
          unfold rank
          rcases hk with k | k | k <;> rcases hkb with l | l | l <;> simp [k, l] at hc hd ⊢ <;> omega
        · rename_i hd
          refine keep ?_
          unfold rank
          rcases hk with k | k | k <;> rcases hkb with l | l | l <;> simp [k, l] at hc hd ⊢ <;> omega
theorem bestOf_is {h : List (List UInt8)} (hh : h.length ≤ 1000) : ∀ (rest done : List Rl) (st : Option (Nat × Rl)), (∀ r ∈ done ++ rest, isKd r.2.1) → BestIs h done st → BestIs h (done ++ rest) (rest.foldl (bestS h) st)
  | [], done, st, _, hb => by simpa using hb
  | r :: rest, done, st, hk, hb => by
    have := bestOf_is hh rest (done ++ [r]) (bestS h st r) (by simpa using hk) (bestS_is hh (hk r (by simp)) (fun q hq => hk q (by simp [hq])) hb)
    simpa using this
theorem best_is {h : List (List UInt8)} (hh : h.length ≤ 1000) {rs : List Rl} (hk : ∀ r ∈ rs, isKd r.2.1) : BestIs h rs (bestOf h rs) := by
  have := bestOf_is hh rs [] none (by simpa using hk) ⟨fun _ r hr => by simp at hr, fun _ _ e => by simp at e⟩
  unfold bestOf
  simpa using this
/-- Rules apart: of one kind and host there is one. -/
def Apart (rs : List Rl) : Prop := ∀ a ∈ rs, ∀ b ∈ rs, a.1 = b.1 → a.2.1 = b.2.1 → a = b
theorem apart_of {rs : List Rl} (h : rs.Pairwise fun a b => ¬ (a.1 = b.1 ∧ a.2.1 = b.2.1)) : Apart rs := by
  induction rs with
  | nil => intro a ha; simp at ha
  | cons r rs ih =>
    obtain ⟨h1, h2⟩ := List.pairwise_cons.1 h
    intro a ha b hb e1 e2
    rcases List.mem_cons.1 ha with ea | ha' <;> rcases List.mem_cons.1 hb with eb | hb'
    · rw [ea, eb]
    · rw [ea] at e1 e2; exact absurd ⟨e1, e2⟩ (h1 b hb')
    · rw [eb] at e1 e2; exact absurd ⟨e1.symm, e2.symm⟩ (h1 a ha')
    · exact ih h2 a ha' b hb' e1 e2
/-- What is found depends on the rules that fit alone. -/
theorem best_one {h g : List (List UInt8)} {rs qs : List Rl} {st su : Option (Nat × Rl)} (hh : h.length ≤ 1000) (hk : ∀ r ∈ rs, isKd r.2.1) (ha : Apart rs) (hb : BestIs h rs st) (hc : BestIs g qs su) (hsub : ∀ r ∈ qs, ∀ n, fitN g r = some n → r ∈ rs ∧ fitN h r = some n) (hin : ∀ n r, st = some (n, r) → r ∈ qs ∧ fitN g r = some n) : st = su := by
  cases st with
  | none =>
    cases su with
    | none => rfl
    | some y =>
      obtain ⟨m, q⟩ := y
      obtain ⟨d1, d2, _⟩ := hc.some m q rfl
      obtain ⟨e1, e2⟩ := hsub q d1 m d2
      rw [hb.none rfl q e1] at e2
      cases e2
  | some x =>
    obtain ⟨n, r⟩ := x
    obtain ⟨i1, i2⟩ := hin n r rfl
    obtain ⟨c1, c2, c3⟩ := hb.some n r rfl
    cases su with
    | none => rw [hc.none rfl r i1] at i2; cases i2
    | some y =>
      obtain ⟨m, q⟩ := y
      obtain ⟨d1, d2, d3⟩ := hc.some m q rfl
      obtain ⟨e1, e2⟩ := hsub q d1 m d2
      have h1 := d3 r i1 n i2
      have h2 := c3 q e1 m e2
      obtain ⟨g1, g2⟩ := rank_inj hh (hk r c1) (hk q e1) c2 e2 (by omega)
      have : r = q := ha r c1 q e1 g1 g2
      subst this
      rw [c2] at e2
      rw [Option.some.inj e2]
/-- The order of the rules changes nothing. -/
theorem bestOf_perm {h : List (List UInt8)} (hh : h.length ≤ 1000) {rs qs : List Rl} (hk : ∀ r ∈ rs, isKd r.2.1) (ha : Apart rs) (hp : qs.Perm rs) : bestOf h qs = bestOf h rs := by
  have h1 := best_is hh hk
  have h2 := best_is (rs := qs) hh (fun r hr => hk r (hp.mem_iff.1 hr))
  refine (best_one hh hk ha h1 h2 (fun r hr n hn => ⟨hp.mem_iff.1 hr, hn⟩) (fun n r e => ?_)).symm
  obtain ⟨c1, c2, _⟩ := h1.some n r e
  exact ⟨hp.mem_iff.2 c1, c2⟩
theorem pubL_perm {h : List (List UInt8)} (hh : h.length ≤ 1000) {rs qs : List Rl} (hk : ∀ r ∈ rs, isKd r.2.1) (ha : Apart rs) (hp : qs.Perm rs) : pubL h qs = pubL h rs := by
  unfold pubL
  rw [bestOf_perm hh hk ha hp]
theorem ends_trans {h d t : List (List UInt8)} (h1 : endsL h d = true) (h2 : endsL d t = true) : endsL h t = true := by
  unfold endsL at *
  simp only [Bool.and_eq_true, decide_eq_true_eq] at *
  refine ⟨by omega, ?_⟩
  have e : (h.drop (h.length - d.length)).drop (d.length - t.length) = t := by rw [h1.2, h2.2]
  rw [List.drop_drop] at e
  rw [show h.length - t.length = h.length - d.length + (d.length - t.length) by omega]
  exact e
theorem ends_down {h d t : List (List UInt8)} (h1 : endsL h d = true) (h2 : endsL h t = true) (hl : t.length ≤ d.length) : endsL d t = true := by
  unfold endsL at *
  simp only [Bool.and_eq_true, decide_eq_true_eq] at *
  refine ⟨hl, ?_⟩
  rw [← h1.2, List.drop_drop, ← h2.2, List.length_drop, List.length_drop]
  congr 1
  omega
theorem fit_down {h d : List (List UInt8)} {r : Rl} {n : Nat} (h1 : endsL h d = true) (hf : fitN d r = some n) : fitN h r = some n := by
  unfold fitN at hf ⊢
  have hl : d.length ≤ h.length := by unfold endsL at h1; simp only [Bool.and_eq_true, decide_eq_true_eq] at h1; exact h1.1
  split at hf
  · rename_i he
    rw [if_pos (ends_trans h1 he)]
    split at hf
    · rename_i hk
      rw [if_pos hk]
      split at hf
      · rename_i hlt
        rw [if_pos (by omega)]
        exact hf
      · cases hf
    · rename_i hk
      rw [if_neg hk]
      exact hf
  · cases hf
/-- A host's domain has the same public suffix and section. -/
theorem pub_down {h d : List (List UInt8)} (hh : h.length ≤ 1000) {rs : List Rl} (hk : ∀ r ∈ rs, isKd r.2.1) (h33 : ∀ r ∈ rs, r.2.1 = 33 → 1 < r.1.length) (ha : Apart rs) (h1 : endsL h d = true) (hd : d.length = (pubL h rs).1 + 1) : bestOf d rs = bestOf h rs := by
  have hl : d.length ≤ h.length := by unfold endsL at h1; simp only [Bool.and_eq_true, decide_eq_true_eq] at h1; exact h1.1
  have b1 := best_is hh hk
  have b2 := best_is (h := d) (by omega) hk
  refine (best_one hh hk ha b1 b2 (fun r hr n hn => ⟨hr, fit_down h1 hn⟩) (fun n r e => ?_)).symm
  obtain ⟨c1, c2, _⟩ := b1.some n r e
  obtain ⟨f1, f2, f3⟩ := fitN_is c2
  have hp : (pubL h rs).1 = if r.2.1 = 33 then n - 1 else n := by unfold pubL; rw [e]
  rw [hp] at hd
  refine ⟨c1, ?_⟩
  have h3 := h33 r c1
  unfold fitN
  rcases hk r c1 with k | k | k
  · simp [k] at f2 hd
    rw [if_pos (ends_down h1 f1 (by omega))]
    simp [k]; omega
  · simp [k] at f2 hd
    rw [if_pos (ends_down h1 f1 (by omega))]
    simp [k]; omega
  · have := h3 k
    simp [k] at f2 hd
    rw [if_pos (ends_down h1 f1 (by omega))]
    simp [k]; omega
end Sx
namespace Sx
/-- A label more, that no rule has: the same is found, or a wild rule of the whole host. -/
theorem pub_more {d : List (List UInt8)} {z : List UInt8} (hh : d.length < 1000) {rs : List Rl} (hk : ∀ r ∈ rs, isKd r.2.1) (ha : Apart rs) (hz : ∀ r ∈ rs, z ∉ r.1) : bestOf (z :: d) rs = bestOf d rs ∨ ∃ r, bestOf (z :: d) rs = some (d.length + 1, r) ∧ r.2.1 = 42 := by
  have he : endsL (z :: d) d = true := by
    unfold endsL
    simp only [Bool.and_eq_true, decide_eq_true_eq, List.length_cons]
    refine ⟨by omega, ?_⟩
    rw [show d.length + 1 - d.length = 1 by omega]
    rfl
  have hlz : (z :: d).length ≤ 1000 := by rw [List.length_cons]; omega
  have b1 := best_is (h := z :: d) hlz hk
  have b2 := best_is (h := d) (by omega) hk
  by_cases hall : ∀ n r, bestOf (z :: d) rs = some (n, r) → fitN d r = some n
  · left
    exact best_one hlz hk ha b1 b2 (fun r hr n hn => ⟨hr, fit_down he hn⟩) (fun n r e => ⟨(b1.some n r e).1, hall n r e⟩)
  · right
    cases hst : bestOf (z :: d) rs with
    | none => rw [hst] at hall; exact absurd (fun n r e => by cases e) hall
    | some x =>
      obtain ⟨n, r⟩ := x
      rw [hst] at hall b1
      obtain ⟨c1, c2, _⟩ := b1.some n r rfl
      obtain ⟨f1, f2, f3⟩ := fitN_is c2
      have hne : fitN d r ≠ some n := fun e => hall (fun n' r' e' => by
        simp only [Option.some.injEq, Prod.mk.injEq] at e'
        obtain ⟨rfl, rfl⟩ := e'
        exact e)
      have hlen : r.1.length ≤ d.length := by
        have f1' := f1
        unfold endsL at f1'
        simp only [Bool.and_eq_true, decide_eq_true_eq, List.length_cons] at f1'
        by_cases hl : r.1.length ≤ d.length
        · exact hl
        · exfalso
          have e : r.1.length = d.length + 1 := by omega
          have e2 := f1'.2
          rw [e, Nat.sub_self, List.drop_zero] at e2
          exact hz r c1 (by rw [← e2]; simp)
      have hd := ends_down he f1 hlen
      unfold fitN at hne
      rw [if_pos hd] at hne
      rcases hk r c1 with k | k | k
      · simp [k] at hne f2; omega
      · refine ⟨r, ?_, k⟩
        simp [k] at hne f2
        have : n = d.length + 1 := by
          by_cases hl : r.1.length < d.length
          · have := hne hl; omega
          · omega
        rw [this]
      · simp [k] at hne f2; omega
end Sx

namespace Sx
/-- The rules tried one by one: how many labels, whether by an exception, the section. -/
def fndS (h : List (List UInt8)) (st : Nat × Bool × UInt8) (r : Rl) : Nat × Bool × UInt8 := match fitN h r with
  | none => st
  | some n => if st.2.1 = true ∧ r.2.1 ≠ 33 then st else if (r.2.1 = 33 ∧ st.2.1 = false) ∨ st.1 < n ∨ (n = st.1 ∧ r.2.1 = 36) then (n, decide (r.2.1 = 33), r.2.2) else st
def FndIs (h : List (List UInt8)) (st : Nat × Bool × UInt8) (b : Option (Nat × Rl)) : Prop := match b with
  | none => st = (0, false, 45)
  | some (n, r) => st = (n, decide (r.2.1 = 33), r.2.2) ∧ fitN h r = some n ∧ r.1 ≠ []
theorem fnd_step {h : List (List UInt8)} {st : Nat × Bool × UInt8} {b : Option (Nat × Rl)} {r : Rl} (hr : r.1 ≠ []) (hi : FndIs h st b) : FndIs h (fndS h st r) (bestS h b r) := by
  unfold fndS bestS
  cases hf : fitN h r with
  | none => exact hi
  | some n =>
    obtain ⟨f1, f2, f3⟩ := fitN_is hf
    have hp : 0 < r.1.length := List.length_pos_iff.2 hr
    simp only
    cases b with
    | none =>
      have e : st = (0, false, 45) := hi
      subst e
      simp only
      rw [if_neg (by simp), if_pos (Or.inr (Or.inl (by split at f2 <;> omega)))]
      exact ⟨rfl, hf, hr⟩
    | some x =>
      obtain ⟨c, q⟩ := x
      obtain ⟨e, g1, g2⟩ := hi
      subst e
      simp only
      by_cases k : r.2.1 = 33
      · by_cases l : q.2.1 = 33
        · simp only [k, l]
          by_cases hlt : c < n
          · rw [if_neg (by simp), if_pos (Or.inr (Or.inl hlt)), if_pos ⟨trivial, Or.inr hlt⟩]
            exact ⟨by simp [k], hf, hr⟩
          · rw [if_neg (by simp), if_neg (by simp; omega), if_neg (by simp; omega), if_neg (by simp)]
            exact ⟨by simp [l], g1, g2⟩
        · rw [if_neg (by simp [k]), if_pos (Or.inl ⟨k, by simp [l]⟩), if_pos ⟨k, Or.inl l⟩]
          exact ⟨rfl, hf, hr⟩
      · by_cases l : q.2.1 = 33
        · rw [if_pos ⟨by simp [l], k⟩, if_neg (by simp [k]), if_neg (by simp [l])]
          exact ⟨rfl, g1, g2⟩
        · rw [if_neg (by simp [l])]
          by_cases hc : c < n ∨ (n = c ∧ r.2.1 = 36)
          · rw [if_pos (Or.inr hc), if_neg (by simp [k]), if_pos ⟨k, l, hc⟩]
            exact ⟨rfl, hf, hr⟩
          · rw [if_neg (by rintro (q | q); exact k q.1; exact hc q), if_neg (by simp [k]), if_neg (fun q => hc q.2.2)]
            exact ⟨rfl, g1, g2⟩
theorem fnd_all {h : List (List UInt8)} : ∀ (rs : List Rl) (st : Nat × Bool × UInt8) (b : Option (Nat × Rl)), (∀ r ∈ rs, r.1 ≠ []) → FndIs h st b → FndIs h (rs.foldl (fndS h) st) (rs.foldl (bestS h) b)
  | [], _, _, _, h => h
  | r :: rs, st, b, hr, h => fnd_all rs _ _ (fun q hq => hr q (by simp [hq])) (fnd_step (hr r (by simp)) h)
/-- What the rules tell, tried one by one. -/
def fndN (st : Nat × Bool × UInt8) : Nat := if (if st.2.1 = true then st.1 - 1 else st.1) = 0 then 1 else (if st.2.1 = true then st.1 - 1 else st.1)
theorem fnd_pub {h : List (List UInt8)} {rs : List Rl} (hr : ∀ r ∈ rs, r.1 ≠ []) (hk : ∀ r ∈ rs, isKd r.2.1) (hh : h.length ≤ 1000) (h33 : ∀ r ∈ rs, r.2.1 = 33 → 1 < r.1.length) : (fndN (rs.foldl (fndS h) (0, false, 45)), (rs.foldl (fndS h) (0, false, 45)).2.2) = pubL h rs := by
  have hi := fnd_all (h := h) rs (0, false, 45) none hr rfl
  have hb := best_is (h := h) hh hk
  unfold pubL
  unfold bestOf at hb ⊢
  cases e : rs.foldl (bestS h) none with
  | none =>
    rw [e] at hi
    have : rs.foldl (fndS h) (0, false, 45) = (0, false, 45) := hi
    rw [this]
    rfl
  | some x =>
    obtain ⟨n, r⟩ := x
    rw [e] at hi hb
    obtain ⟨e1, e2, e3⟩ := hi
    obtain ⟨c1, _, _⟩ := hb.some n r rfl
    obtain ⟨f1, f2, f3⟩ := fitN_is e2
    have hp : 0 < r.1.length := List.length_pos_iff.2 e3
    rw [e1]
    unfold fndN
    simp only [decide_eq_true_eq]
    by_cases k : r.2.1 = 33
    · have := h33 r c1 k
      simp [k] at f2 ⊢
      omega
    · simp only [k, if_false]
      rw [if_neg]
      split at f2 <;> omega
end Sx

namespace Sx
open Go.Proofs.YtgohllfpceeboabGreatDoor (suffixB)
/-- Does a text end with another, behind a dot, or is it that one (with nothing more asked for)? -/
def fitT (h t : List UInt8) (more : Nat) : Bool :=
  if h.length < t.length ∨ h.drop (h.length - t.length) ≠ t then false
  else if h.length - t.length = 0 then decide (more = 0) else decide (h.getD (h.length - t.length - 1) 0 = 46)
theorem fitT_is (p t : List UInt8) (more : Nat) : fitT p t more = (suffixB p (46 :: t) || (decide (p = t) && decide (more = 0))) := by
  unfold fitT suffixB
  simp only [List.length_cons]
  by_cases h1 : p.length < t.length ∨ p.drop (p.length - t.length) ≠ t
  · rw [if_pos h1]
    symm
    rw [Bool.or_eq_false_iff]
    constructor
    · rw [Bool.and_eq_false_iff]
      rcases h1 with h | h
      · left; simp; omega
      · by_cases hl : t.length + 1 ≤ p.length
        · right
          rw [beq_eq_false_iff_ne]
          intro e
          apply h
          have := congrArg (List.drop 1) e
          rw [List.drop_drop] at this
          rw [show p.length - t.length = p.length - (t.length + 1) + 1 by omega, this]
          rfl
        · left; simp; omega
    · rw [Bool.and_eq_false_iff]
      left
      rw [decide_eq_false_iff_not]
      rintro rfl
      rcases h1 with h | h
      · omega
      · exact h (by simp)
  · rw [if_neg h1]
    have h2 : ¬ p.length < t.length := fun h => h1 (Or.inl h)
    have h3 : p.drop (p.length - t.length) = t := Classical.byContradiction fun h => h1 (Or.inr h)
    by_cases h0 : p.length - t.length = 0
    · have e : p = t := by rw [h0, List.drop_zero] at h3; exact h3
      rw [if_pos h0, e]
      simp
    · rw [if_neg h0]
      have hne : ¬ p = t := fun e => h0 (by rw [e]; omega)
      have hj : p.length - t.length - 1 < p.length := by omega
      have hd : p.drop (p.length - (t.length + 1)) = p.getD (p.length - t.length - 1) 0 :: t := by
        rw [show p.length - (t.length + 1) = p.length - t.length - 1 by omega, List.drop_eq_getElem_cons hj, show p.length - t.length - 1 + 1 = p.length - t.length by omega, h3]
        rw [List.getD_eq_getElem?_getD, List.getElem?_eq_getElem hj]
        rfl
      rw [hd, decide_eq_true (show t.length + 1 ≤ p.length by omega)]
      simp only [hne, decide_false, Bool.false_and, Bool.or_false, Bool.true_and]
      rw [Bool.eq_iff_iff]
      simp
/-- How many labels: one more than dots. -/
def dotsN (s : List UInt8) : Nat := s.countP fun b => decide (b = 46)
theorem dotsN_no {x : List UInt8} (h : ∀ b ∈ x, b ≠ 46) : dotsN x = 0 := by
  unfold dotsN
  rw [List.countP_eq_zero]
  intro b hb
  simpa using h b hb
theorem dotsN_dotted : ∀ (h : List (List UInt8)), h ≠ [] → (∀ x ∈ h, ∀ b ∈ x, b ≠ 46) → dotsN (dotted h) + 1 = h.length
  | [], n, _ => absurd rfl n
  | [x], _, h => by
    have := dotsN_no (h x (by simp))
    have e : dotted [x] = x := by simp [dotted]
    rw [e, this]; rfl
  | x :: y :: r, _, h => by
    have ih := dotsN_dotted (y :: r) (by simp) (fun z hz => h z (by simp [hz]))
    have hx := dotsN_no (h x (by simp))
    rw [dotted_cons]
    unfold dotsN at ih hx ⊢
    rw [List.countP_append, List.countP_cons, hx]
    simp only [List.length_cons] at ih ⊢
    simp
    omega
/-- Where the last labels begin, so many. -/
def tlF (h : List UInt8) : Nat → Nat → Nat → Nat
  | 0, _, at' => at'
  | j + 1, n, at' => if n = 0 then at' else if h.getD j 0 = 46 then tlF h j (n - 1) (j + 1) else tlF h j n j
def tailT (h : List UInt8) (n : Nat) : List UInt8 := h.drop (tlF h h.length n h.length)
theorem getD_app_r (a b : List UInt8) (i : Nat) : (a ++ b).getD (a.length + i) 0 = b.getD i 0 := by
  rw [List.getD_eq_getElem?_getD, List.getD_eq_getElem?_getD, List.getElem?_append_right (by omega)]
  congr 2
  omega
theorem tlF_run (D pre : List UInt8) (n : Nat) (hn : n ≠ 0) : ∀ (m : Nat) (x suf : List UInt8) (at' : Nat), x.length = m → D = pre ++ x ++ suf → (∀ b ∈ x, b ≠ 46) → (m = 0 → at' = pre.length) → tlF D (pre.length + m) n at' = tlF D pre.length n pre.length
  | 0, x, suf, at', _, _, _, h0 => by rw [Nat.add_zero, h0 rfl]
  | m + 1, x, suf, at', hl, hD, hx, _ => by
    have hne : x ≠ [] := fun e => by rw [e] at hl; simp at hl
    obtain ⟨y, b, rfl⟩ : ∃ y b, x = y ++ [b] := ⟨x.dropLast, x.getLast hne, (List.dropLast_concat_getLast hne).symm⟩
    rw [List.length_append, List.length_singleton] at hl
    have hy : y.length = m := by omega
    have hb : D.getD (pre.length + m) 0 = b := by
      rw [hD, show pre ++ (y ++ [b]) ++ suf = (pre ++ y) ++ (b :: suf) by simp]
      have := getD_app_r (pre ++ y) (b :: suf) 0
      rw [List.length_append, hy, Nat.add_zero] at this
      rw [this]
      rfl
    have hb46 : b ≠ 46 := hx b (by simp)
    have e : tlF D (pre.length + (m + 1)) n at' = if n = 0 then at' else if D.getD (pre.length + m) 0 = 46 then tlF D (pre.length + m) (n - 1) (pre.length + m + 1) else tlF D (pre.length + m) n (pre.length + m) := rfl
    rw [e, if_neg hn, hb, if_neg hb46]
    exact tlF_run D pre n hn m y (b :: suf) (pre.length + m) hy (by rw [hD]; simp) (fun c hc => hx c (by simp [hc])) (fun h => by omega)
theorem tlF_labels : ∀ (t : List (List UInt8)) (D pre : List UInt8) (n at' : Nat), t ≠ [] → (∀ x ∈ t, x ≠ [] ∧ ∀ b ∈ x, b ≠ 46) → D = pre ++ dotted t → t.length ≤ n → tlF D D.length n at' = tlF D pre.length (n - (t.length - 1)) pre.length
  | [], _, _, _, _, h, _, _, _ => absurd rfl h
  | [x], D, pre, n, at', _, hx, hD, hn => by
    obtain ⟨x1, x2⟩ := hx x (by simp)
    have e : dotted [x] = x := by simp [dotted]
    rw [e] at hD
    have hp : 0 < x.length := List.length_pos_iff.2 x1
    simp only [List.length_cons, List.length_nil] at hn ⊢
    rw [show D.length = pre.length + x.length by rw [hD, List.length_append]]
    exact tlF_run D pre n (by omega) x.length x [] at' rfl (by rw [hD]; simp) x2 (fun h => by omega)
  | x :: y :: r, D, pre, n, at', _, hx, hD, hn => by
    obtain ⟨x1, x2⟩ := hx x (by simp)
    have hp : 0 < x.length := List.length_pos_iff.2 x1
    rw [dotted_cons] at hD
    have ih := tlF_labels (y :: r) D (pre ++ x ++ [46]) n at' (by simp) (fun z hz => hx z (by simp [hz])) (by rw [hD]; simp) (by simp only [List.length_cons] at hn ⊢; omega)
    rw [ih]
    simp only [List.length_append, List.length_cons, List.length_nil] at hn ⊢
    have hdot : D.getD (pre.length + x.length) 0 = 46 := by
      rw [hD, show pre ++ (x ++ 46 :: dotted (y :: r)) = (pre ++ x) ++ (46 :: dotted (y :: r)) by simp]
      have := getD_app_r (pre ++ x) (46 :: dotted (y :: r)) 0
      rw [List.length_append, Nat.add_zero] at this
      rw [this]
      rfl
    have e : ∀ k at'', tlF D (pre.length + x.length + (0 + 1)) k at'' = if k = 0 then at'' else if D.getD (pre.length + x.length) 0 = 46 then tlF D (pre.length + x.length) (k - 1) (pre.length + x.length + 1) else tlF D (pre.length + x.length) k (pre.length + x.length) := fun _ _ => rfl
    rw [e, if_neg (by omega), if_pos hdot]
    rw [tlF_run D pre _ (by omega) x.length x (46 :: dotted (y :: r)) _ rfl (by rw [hD]; simp) x2 (fun h => by omega)]
    congr 1
/-- The last labels of a host, so many. -/
theorem tailT_is {h : List (List UInt8)} (hx : ∀ x ∈ h, x ≠ [] ∧ ∀ b ∈ x, b ≠ 46) (n : Nat) (hn : 1 ≤ n) (hl : n ≤ h.length) : tailT (dotted h) n = dotted (h.drop (h.length - n)) := by
  obtain ⟨t, ht⟩ : ∃ t, h.drop (h.length - n) = t := ⟨_, rfl⟩
  obtain ⟨a, ha⟩ : ∃ a, h.take (h.length - n) = a := ⟨_, rfl⟩
  have e : h = a ++ t := by rw [← ha, ← ht, List.take_append_drop]
  have htl : t.length = n := by rw [← ht, List.length_drop]; omega
  have htn : t ≠ [] := fun e => by rw [e] at htl; simp at htl; omega
  have hxt : ∀ x ∈ t, x ≠ [] ∧ ∀ b ∈ x, b ≠ 46 := fun x hx' => hx x (by rw [e]; simp [hx'])
  rw [ht]
  unfold tailT
  by_cases h0 : a = []
  · rw [h0, List.nil_append] at e
    rw [e, tlF_labels t (dotted t) [] n _ htn hxt rfl (by omega)]
    simp [tlF]
  · have hd : dotted h = (dotted a ++ [46]) ++ dotted t := by
      rw [e]
      have : ∀ (a : List (List UInt8)), a ≠ [] → dotted (a ++ t) = dotted a ++ 46 :: dotted t := by
        intro a
        induction a with
        | nil => intro h; exact absurd rfl h
        | cons x a ih =>
          intro _
          cases a with
          | nil =>
            obtain ⟨y, r, rfl⟩ := List.exists_cons_of_ne_nil htn
            simp [dotted]
          | cons z a =>
            have := ih (by simp)
            rw [List.cons_append, List.cons_append, dotted_cons, ← List.cons_append, this, dotted_cons]
            simp
      rw [this a h0]
      simp
    rw [tlF_labels t (dotted h) (dotted a ++ [46]) n _ htn hxt hd (by omega)]
    have hlen : (dotted a ++ [46]).length = (dotted a).length + 1 := by simp
    have hdot : (dotted h).getD (dotted a).length 0 = 46 := by
      rw [hd, List.append_assoc]
      have := getD_app_r (dotted a) ([46] ++ dotted t) 0
      rw [Nat.add_zero] at this
      rw [this]
      rfl
    have e2 : ∀ k at'', tlF (dotted h) ((dotted a).length + 1) k at'' = if k = 0 then at'' else if (dotted h).getD (dotted a).length 0 = 46 then tlF (dotted h) (dotted a).length (k - 1) ((dotted a).length + 1) else tlF (dotted h) (dotted a).length k (dotted a).length := fun _ _ => rfl
    rw [hlen, e2, if_neg (by omega), if_pos hdot]
    have e3 : n - (t.length - 1) - 1 = 0 := by omega
    rw [e3]
    have e4 : tlF (dotted h) (dotted a).length 0 ((dotted a).length + 1) = (dotted a).length + 1 := by
      cases (dotted a).length <;> rfl
    rw [e4, hd, ← hlen, List.drop_left]
end Sx

namespace Go.Proofs.YtgohllfpceeboabGreatDoor
open Sx
theorem opn_img {rs : List Rl} (h : RlsRt rs) : opn (imgT (tabOf rs)) = (srt rs, 0) := opn_of (img_len h.rls) (img_srt h)
/-- What is found among right rules, in whichever order they stand. -/
theorem look_is {rs : List Rl} (h : RlsRt rs) {s : List UInt8} (hs : (host s).2 = 0) : lkR (imgT (tabOf rs)) s = (dotted ((host s).1.drop ((host s).1.length - (pubL (host s).1 rs).1)), (if (pubL (host s).1 rs).1 + 1 ≤ (host s).1.length then dotted ((host s).1.drop ((host s).1.length - ((pubL (host s).1 rs).1 + 1))) else []), [(pubL (host s).1 rs).2], 0) ∧ 1 ≤ (pubL (host s).1 rs).1 ∧ (pubL (host s).1 rs).1 ≤ (host s).1.length := by
  have hh := host_ok s hs
  have hsr := rlsRt_srt h
  obtain ⟨p1, p2, p3⟩ := prvl_pub hh hsr.ok
  have hpm : pubL (host s).1 (srt rs) = pubL (host s).1 rs := pubL_perm (by have := hh.2.1; omega) (fun r hr => (h.ok r hr).2.1) (apart_of h.apart) (srt_perm h.ok)
  rw [hpm] at p1 p2 p3
  have hle := pubL_le hh.1 rs
  refine ⟨?_, p3, hle⟩
  unfold lkR
  rw [opn_img h]
  simp only [if_true]
  rw [if_pos hs]
  unfold lkA
  rw [p1, p2]
  have e : ((pubL (host s).1 rs).1 : Int) + 1 = (((pubL (host s).1 rs).1 + 1 : Nat) : Int) := by omega
  rw [e, lastP_is hh _ p3, lastP_is hh _ (by omega), if_pos hle]
/-- The search of texts is the search of labels. -/
def fndT (p : List UInt8) (st : Nat × Bool × UInt8) (r : RawR) : Nat × Bool × UInt8 :=
  if fitT p (dotted (rawRl r).1) (if rawK r = 42 then 1 else 0) = false ∨ (st.2.1 = true ∧ rawK r ≠ 33) then st
  else if (rawK r = 33 ∧ st.2.1 = false) ∨ st.1 < (rawRl r).1.length + (if rawK r = 42 then 1 else 0) ∨ ((rawRl r).1.length + (if rawK r = 42 then 1 else 0) = st.1 ∧ rawK r = 36) then ((rawRl r).1.length + (if rawK r = 42 then 1 else 0), decide (rawK r = 33), rawS r) else st
theorem fndT_is {h : List (List UInt8)} (hh : HostOk h) (st : Nat × Bool × UInt8) (r : RawR) : fndT (dotted h) st r = fndS h st (rawRl r) := by
  have hf := fit_is hh (rawRl_rt r).ok
  have hb : fitT (dotted h) (dotted (rawRl r).1) (if rawK r = 42 then 1 else 0) = fitB (rawRl r) (dotted h) := by
    rw [fitT_is]
    unfold fitB
    congr 2
    show decide ((if rawK r = 42 then 1 else 0) = 0) = decide (rawK r ≠ 42)
    by_cases k : rawK r = 42 <;> simp [k]
  have hk : (rawRl r).2.1 = rawK r := rfl
  have hs : (rawRl r).2.2 = rawS r := rfl
  unfold fndT fndS
  rw [hf, hb, hk, hs]
  cases fitB (rawRl r) (dotted h) with
  | false => simp
  | true =>
    simp only [if_true, Bool.true_eq_false, false_or]
theorem fndT_all {h : List (List UInt8)} (hh : HostOk h) : ∀ (l : List RawR) (st : Nat × Bool × UInt8), l.foldl (fndT (dotted h)) st = (l.map rawRl).foldl (fndS h) st
  | [], _ => rfl
  | r :: l, st => by
    rw [List.map_cons, List.foldl_cons, List.foldl_cons, fndT_is hh]
    exact fndT_all hh l _
/-- FOUND, of the pure answers. -/
theorem found_pure (l : List RawR) {ix : List Nat} (hi : IxOk ix) (p : List UInt8) (hp : p = dotted (ix.map nmP)) (st : Nat × Bool × UInt8) (hst : (kepF l).foldl (fndT p) (0, false, 45) = st) :
    lkR (compR [listT (kepF l)]).1 (dotted (ix.map nm)) = (tailT p (fndN st), (if fndN st < dotsN p + 1 then tailT p (fndN st + 1) else []), [st.2.2], 0) := by
  obtain ⟨k1, k2⟩ := kepF_ok l
  have hhost := host_ix hi
  have hs : (host (dotted (ix.map nm))).2 = 0 := by rw [hhost]
  have hh := host_ok _ hs
  obtain ⟨l1, l2, l3⟩ := look_is k1 hs
  rw [hhost] at l1 l2 l3 hh
  dsimp only at l1 l2 l3 hh
  rw [comp_list k1 k2]
  dsimp only
  rw [l1]
  have hf := fnd_pub (h := ix.map nmP) (rs := (kepF l).map rawRl) (fun r hr => (k1.ok r hr).ok.1.1) (fun r hr => (k1.ok r hr).2.1) (by have := hh.2.1; omega) (fun r hr => (k1.ok r hr).2.2.1)
  rw [← fndT_all hh, ← hp, hst] at hf
  have hn : fndN st = (pubL (ix.map nmP) ((kepF l).map rawRl)).1 := congrArg Prod.fst hf
  have hc : st.2.2 = (pubL (ix.map nmP) ((kepF l).map rawRl)).2 := congrArg Prod.snd hf
  rw [hn, hc, hp]
  have hx : ∀ x ∈ ix.map nmP, x ≠ [] ∧ ∀ b ∈ x, b ≠ 46 := fun x hx => ⟨(hh.2.2.2 x hx).1, fun b hb => plB_no46 ((hh.2.2.2 x hx).2 b hb)⟩
  have hdn := dotsN_dotted (ix.map nmP) hh.1 (fun x hx' => (hx x hx').2)
  rw [tailT_is hx _ l2 l3, hdn]
  by_cases hlt : (pubL (ix.map nmP) ((kepF l).map rawRl)).1 < (ix.map nmP).length
  · rw [if_pos hlt, if_pos (by omega), tailT_is hx _ (by omega) (by omega)]
  · rw [if_neg hlt, if_neg (by omega)]
/-- BELOW, of the pure answers. -/
theorem below_pure (l : List RawR) {ix : List Nat} (hi : IxOk ix) (hx3 : ix.length ≤ 4) (p d t : List UInt8) (e : Int) (hlk : lkR (compR [listT (kepF l)]).1 (dotted (ix.map nm)) = (p, d, t, e)) :
    e = 0 ∧ p ≠ [] ∧ t ≠ [] ∧ (d = [] → p = (plainR (dotted (ix.map nm))).1) ∧
    (d ≠ [] → lkR (compR [listT (kepF l)]).1 d = (p, d, t, 0) ∧ (lkR (compR [listT (kepF l)]).1 ([122, 46] ++ d) = (p, d, t, 0) ∨ ∃ p' d' t', lkR (compR [listT (kepF l)]).1 ([122, 46] ++ d) = (p', d', t', 0) ∧ d.length ≤ p'.length)) := by
  obtain ⟨k1, k2⟩ := kepF_ok l
  have hhost := host_ix hi
  have hs : (host (dotted (ix.map nm))).2 = 0 := by rw [hhost]
  have hh := host_ok _ hs
  have hag := host_again hs
  obtain ⟨l1, l2, l3⟩ := look_is k1 hs
  rw [hhost] at l1 l2 l3 hh hag
  dsimp only at l1 l2 l3 hh hag
  rw [comp_list k1 k2] at hlk ⊢
  dsimp only at hlk ⊢
  obtain ⟨rs, hrs⟩ : ∃ rs, (kepF l).map rawRl = rs := ⟨_, rfl⟩
  have hz : ∀ r ∈ rs, [122] ∉ r.1 := by
    intro r hr
    rw [← hrs] at hr
    obtain ⟨q, hq, rfl⟩ := List.mem_map.1 hr
    intro hm
    obtain ⟨i, hi, e⟩ := List.mem_map.1 (show [122] ∈ (ruleIx q).map nmP from hm)
    exact (nm_is i ((ruleIx_ok q).1.lt i hi)).2.2.2.2.2.2.2.2 e
  rw [hrs] at k1 l1 l2 l3 hlk ⊢
  obtain ⟨H, hH⟩ : ∃ H, ix.map nmP = H := ⟨_, rfl⟩
  have hHl : H.length ≤ 4 := by rw [← hH, List.length_map]; exact hx3
  rw [hH] at l1 l2 l3 hh hag hhost
  rw [l1] at hlk
  simp only [Prod.mk.injEq] at hlk
  obtain ⟨h1, h2, h3, h4⟩ := hlk
  obtain ⟨N, hN⟩ : ∃ N, (pubL H rs).1 = N := ⟨_, rfl⟩
  have hS := h3
  rw [hN] at l2 l3 h1 h2
  have hdne : ∀ (q : List (List UInt8)), q ≠ [] → (∀ x ∈ q, x ≠ []) → dotted q ≠ [] := by
    intro q hq hx e
    obtain ⟨x, r, rfl⟩ := List.exists_cons_of_ne_nil hq
    simp only [dotted, List.append_eq_nil_iff] at e
    exact hx x (by simp) e.1
  have hdropne : ∀ n, 1 ≤ n → n ≤ H.length → H.drop (H.length - n) ≠ [] := fun n hn hl e => by
    have := congrArg List.length e
    rw [List.length_drop, List.length_nil] at this
    omega
  have hxne : ∀ n, ∀ x ∈ H.drop n, x ≠ [] := fun n x hx => (hh.2.2.2 x (List.mem_of_mem_drop hx)).1
  refine ⟨h4.symm, by rw [← h1]; exact hdne _ (hdropne N l2 l3) (hxne _), by rw [← h3]; simp, fun hd => ?_, fun hd => ?_⟩
  · rw [← h2] at hd
    split at hd
    · rename_i hlt
      exact absurd hd (hdne _ (hdropne _ (by omega) hlt) (hxne _))
    · rename_i hlt
      have : N = H.length := by omega
      rw [← h1, this, Nat.sub_self, List.drop_zero]
      show dotted H = (plainR _).1
      unfold plainR
      rw [hhost]
  · have hlt : N + 1 ≤ H.length := by
      by_cases hlt : N + 1 ≤ H.length
      · exact hlt
      · rw [if_neg hlt] at h2; exact absurd h2.symm hd
    rw [if_pos hlt] at h2
    obtain ⟨Dm, hDm⟩ : ∃ Dm, H.drop (H.length - (N + 1)) = Dm := ⟨_, rfl⟩
    rw [hDm] at h2
    have hDl : Dm.length = N + 1 := by rw [← hDm, List.length_drop]; omega
    have hsub : ∀ x ∈ Dm, x ∈ H := fun x hx => by rw [← hDm] at hx; exact List.mem_of_mem_drop hx
    have hends : endsL H Dm = true := by
      unfold endsL
      simp only [Bool.and_eq_true, decide_eq_true_eq]
      exact ⟨by omega, by rw [hDl]; exact hDm⟩
    have hlab : ∀ x ∈ H, label (ints x) = some x := (by
      have := (host_is (s := dotted (ix.map nm)) hs).1
      rw [hhost] at this
      exact this)
    have hnn : Dm ≠ [] := fun e => by rw [e] at hDl; simp at hDl
    have hlastH : digs (H.getD (H.length - 1) []) = false := by
      rw [← hH, List.length_map, List.getD_eq_getElem?_getD, List.getElem?_eq_getElem (by rw [List.length_map]; have := List.length_pos_iff.2 hi.ne; omega), Option.getD_some, List.getElem_map]
      exact (nm_is _ (hi.lt _ (List.getElem_mem _))).2.2.2.2.1
    have hlastD : ∀ q : List (List UInt8), digs ((q ++ Dm).getD ((q ++ Dm).length - 1) []) = false := by
      intro q
      have hp : 0 < Dm.length := by omega
      have e1 : (q ++ Dm).getD ((q ++ Dm).length - 1) [] = H.getD (H.length - 1) [] := by
        rw [List.getD_eq_getElem?_getD, List.getD_eq_getElem?_getD, List.length_append, List.getElem?_append_right (by omega), ← hDm, List.getElem?_drop]
        congr 2
        rw [hDm]
        omega
      rw [e1]
      exact hlastH
    have h11 : ∀ x ∈ H, x.length ≤ 11 := by
      intro x hx
      rw [← hH] at hx
      obtain ⟨i, hi', rfl⟩ := List.mem_map.1 hx
      exact (nm_is i (hi.lt i hi')).2.2.2.2.2.1
    have hend : ∀ q : List (List UInt8), q.length ≤ 1 → (∀ x ∈ q, x.length ≤ 11) → hostEnd (q ++ Dm) = (q ++ Dm, 0) := by
      intro q hq hq11
      unfold hostEnd
      rw [hlastD q, if_neg]
      have hal : ∀ z : List (List UInt8), (∀ x ∈ z, x.length ≤ 11) → allLen z ≤ z.length * 12 := by
        intro z
        induction z with
        | nil => intro _; simp [allLen]
        | cons x z ih =>
          intro hz
          have e1 := ih (fun y hy => hz y (by simp [hy]))
          have e2 := hz x (by simp)
          simp only [allLen, List.map_cons, List.sum_cons, List.length_cons] at e1 ⊢
          omega
      have := hal (q ++ Dm) (fun x hx => by
        rcases List.mem_append.1 hx with hx | hx
        · exact hq11 x hx
        · exact h11 x (hsub x hx))
      rw [List.length_append] at this
      simp only [Bool.false_or, Bool.or_eq_true, decide_eq_true_eq, List.length_append]
      omega
    have hread : ∀ q : List (List UInt8), q.length ≤ 1 → (∀ x ∈ q, x.length ≤ 11 ∧ label (ints x) = some x ∧ ∀ b ∈ x, plB b) → host (dotted (q ++ Dm)) = (q ++ Dm, 0) := by
      intro q hq hq2
      have hlt' : ∀ b ∈ dotted (q ++ Dm), b.toNat < 128 := fun b hb => by
        rcases dotted_bytes (h := q ++ Dm) (fun x hx => by
          rcases List.mem_append.1 hx with hx | hx
          · exact (hq2 x hx).2.2
          · exact (hh.2.2.2 x (hsub x hx)).2) b hb with q | rfl
        · exact plB_lt q
        · decide
      have hlen : (dotted (q ++ Dm)).length ≤ 60 := by
        have := dots_le 11 (q ++ Dm) (fun x hx => by
          rcases List.mem_append.1 hx with hx | hx
          · exact (hq2 x hx).1
          · exact h11 x (hsub x hx))
        rw [List.length_append] at this
        omega
      unfold host
      rw [if_neg (by omega), letters_ints _ hlt']
      simp only
      rw [hostGo_dotted (q ++ Dm) (by simp [hnn]) (fun x hx => by
        rcases List.mem_append.1 hx with hx | hx
        · exact ⟨(hq2 x hx).2.1, fun b hb => plB_no46 ((hq2 x hx).2.2 b hb)⟩
        · exact ⟨hlab x (hsub x hx), fun b hb => plB_no46 ((hh.2.2.2 x (hsub x hx)).2 b hb)⟩)]
      exact hend q hq (fun x hx => (hq2 x hx).1)
    have hD := hread [] (by simp) (by simp)
    rw [List.nil_append, h2] at hD
    have hZ := hread [[122]] (by simp) (fun x hx => by
      rw [List.mem_singleton.1 hx]
      exact ⟨by simp, by decide +kernel, by intro b hb; rw [List.mem_singleton.1 hb]; unfold plB; simp⟩)
    have hzd : dotted ([[122]] ++ Dm) = [122, 46] ++ d := by
      rw [← h2]
      obtain ⟨y, r, rfl⟩ := List.exists_cons_of_ne_nil hnn
      simp [dotted]
    rw [hzd] at hZ
    have hkd : ∀ r ∈ rs, isKd r.2.1 := fun r hr => (k1.ok r hr).2.1
    have hap := apart_of k1.apart
    have hbd := pub_down (h := H) (d := Dm) (by omega) hkd (fun r hr => (k1.ok r hr).2.2.1) hap hends (by rw [hN]; exact hDl)
    have hpd : pubL Dm rs = pubL H rs := by unfold pubL; rw [hbd]
    have hSS : (pubL H rs).2 = (pubL Dm rs).2 := by rw [hpd]
    have hdrop : ∀ k, k ≤ N + 1 → Dm.drop (Dm.length - k) = H.drop (H.length - k) := fun k hk => by
      rw [← hDm, List.drop_drop, List.length_drop]
      congr 1
      omega
    obtain ⟨m1, m2, m3⟩ := look_is k1 (s := d) (by rw [hD])
    rw [hD] at m1
    dsimp only at m1
    rw [hpd, hN] at m1
    refine ⟨?_, ?_⟩
    · rw [m1, if_pos (by omega), hdrop N (by omega), h1, show Dm.length - (N + 1) = 0 by omega, List.drop_zero, h2, hS]
    · obtain ⟨z1, z2, z3⟩ := look_is k1 (s := [122, 46] ++ d) (by rw [hZ])
      rw [hZ] at z1 z2 z3
      dsimp only at z1 z2 z3
      rcases pub_more (d := Dm) (z := [122]) (by omega) hkd hap hz with q | ⟨r, q, qk⟩
      · left
        have hpz : pubL ([[122]] ++ Dm) rs = pubL H rs := by
          unfold pubL
          rw [show [[122]] ++ Dm = [122] :: Dm from rfl, q, hbd]
        rw [hpz, hN] at z1
        have hzdrop : ∀ k, k ≤ N + 1 → ([[122]] ++ Dm).drop (([[122]] ++ Dm).length - k) = Dm.drop (Dm.length - k) := fun k hk => by
          rw [List.length_append, List.length_singleton, show 1 + Dm.length - k = (Dm.length - k) + 1 by omega]
          rfl
        rw [z1, if_pos (by rw [List.length_append]; omega), hzdrop N (by omega), hzdrop (N + 1) (by omega), hdrop N (by omega), h1, show Dm.length - (N + 1) = 0 by omega, List.drop_zero, h2, hS]
      · right
        have hpz : (pubL ([[122]] ++ Dm) rs).1 = Dm.length + 1 := by
          unfold pubL
          rw [show [[122]] ++ Dm = [122] :: Dm from rfl, q]
          simp [qk]
        rw [hpz] at z1
        refine ⟨_, _, _, z1, ?_⟩
        rw [List.length_append, List.length_singleton, show 1 + Dm.length - (Dm.length + 1) = 0 by omega, List.drop_zero, hzd]
        simp
        omega
end Go.Proofs.YtgohllfpceeboabGreatDoor

