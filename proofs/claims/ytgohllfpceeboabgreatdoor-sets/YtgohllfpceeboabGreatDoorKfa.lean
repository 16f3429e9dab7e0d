import Derived.Test.YtgohllfpceeboabGreatDoorSbbg
import Derived.Test.YtgohllfpceeboabGreatDoorSbbb
import Derived.Test.YtgohllfpceeboabGreatDoorSbbe
import Derived.Test.YtgohllfpceeboabGreatDoorSbay
namespace Sx
theorem dotted_len61 {h : List (List UInt8)} (hh : HostOk h) : (dotted h).length ≤ 60 := by
  have h1 := hh.2.2.1
  obtain ⟨x, t, rfl⟩ := List.exists_cons_of_ne_nil hh.1
  have : ∀ q : List (List UInt8), (q.flatMap fun y => 46 :: y).length = allLen q := by
    intro q
    induction q with
    | nil => rfl
    | cons a q ih => simp only [List.flatMap_cons, List.length_append, ih, allLen, List.map_cons, List.sum_cons, List.length_cons]
  simp only [dotted, List.length_append, this]
  simp only [allLen, List.map_cons, List.sum_cons] at h1
  simp only [allLen]
  omega
theorem dotted_head {h : List (List UInt8)} (hh : HostOk h) : ∃ b r, dotted h = b :: r ∧ plB b := by
  obtain ⟨x, t, rfl⟩ := List.exists_cons_of_ne_nil hh.1
  obtain ⟨hx, hb⟩ := hh.2.2.2 x (by simp)
  obtain ⟨b, r, rfl⟩ := List.exists_cons_of_ne_nil hx
  exact ⟨b, r ++ t.flatMap fun y => 46 :: y, rfl, hb b (by simp)⟩
/-- The line of a right rule is read as that rule. -/
theorem cut_line {r : Rl} (h : RlOk r) : cutRl (rlLine r) = (r.2.1, dotted r.1) := by
  obtain ⟨H, k, s⟩ := r
  obtain ⟨b, q, hd, hb⟩ := dotted_head h.1
  dsimp only at hd
  unfold cutRl rlLine
  rcases h.2 with e | e | e
  · dsimp only at e
    subst e
    simp only [hd]
    unfold plB at hb
    rw [if_neg, if_neg]
    · rfl
    · rintro e
      simp at e
      subst e
      simp at hb
    · rintro e
      simp at e
      rw [e.1] at hb
      simp at hb
  · dsimp only at e
    subst e
    simp
  · dsimp only at e
    subst e
    simp
theorem read_line {r : Rl} (h : RlRt r) : readRl (rlLine r) r.2.2 = some r := by
  unfold readRl
  rw [cut_line h.ok, h.1]
  simp only
  rw [if_pos ⟨trivial, h.2.2.1⟩]
/-- What stands first in a rule's line. -/
theorem line_head {r : Rl} (h : RlOk r) : ∃ b q, rlLine r = b :: q ∧ (plB b ∨ b = 42 ∨ b = 33) := by
  obtain ⟨H, k, s⟩ := r
  obtain ⟨b, q, hd, hb⟩ := dotted_head h.1
  dsimp only at hd
  unfold rlLine
  rcases h.2 with e | e | e
  · dsimp only at e
    subst e
    exact ⟨b, q, by simp [hd], Or.inl hb⟩
  · dsimp only at e
    subst e
    exact ⟨42, _, by simp; rfl, Or.inr (Or.inl rfl)⟩
  · dsimp only at e
    subst e
    exact ⟨33, _, by simp; rfl, Or.inr (Or.inr rfl)⟩
theorem addLn_line {rs : List Rl} {r : Rl} (h : RlsRt (rs ++ [r])) : addLn rs r.2.2 (rlLine r) = ((rs ++ [r], r.2.2), 0) := by
  have hr : RlRt r := h.ok r (by simp)
  obtain ⟨b, q, hd, hb⟩ := line_head hr.ok
  have hb2 : b ≠ 47 ∧ b ≠ 61 := by
    unfold plB at hb
    constructor
    · rintro rfl; simp at hb
    · rintro rfl; simp at hb
  unfold addLn
  rw [if_neg, if_neg, if_neg, read_line hr]
  · simp only
    rw [if_neg, if_neg]
    · have := h.many
      simp only [List.length_append, List.length_singleton] at this
      omega
    · intro hk
      obtain ⟨q, hq, e⟩ := (known_iff (fun q hq => (h.ok q (by simp [hq])).ok) hr.ok).1 hk
      exact (List.pairwise_append.1 h.apart).2.2 q hq r (by simp) e
  · rw [hd]; intro e; injection e with e _; exact hb2.2 e
  · rw [hd]; intro e; injection e with e _; exact hb2.2 e
  · rw [hd]
    rintro (e | e)
    · cases e
    · cases q with
      | nil => simp at e
      | cons c q => simp at e; exact hb2.1 e.1
theorem addLns_lines : ∀ (ls acc : List Rl) (sec : UInt8) (n : Int) (rest : List (List UInt8)), (∀ r ∈ ls, r.2.2 = sec) → RlsRt (acc ++ ls) → addLns (ls.map rlLine ++ rest) acc sec n = addLns rest (acc ++ ls) sec (n + ls.length)
  | [], acc, sec, n, rest, _, _ => by simp
  | r :: ls, acc, sec, n, rest, hs, h => by
    have h1 : RlsRt (acc ++ [r]) := by
      refine ⟨fun q hq => h.ok q ?_, ?_, ?_⟩
      · rcases List.mem_append.1 hq with hq | hq
        · simp [hq]
        · rw [List.mem_singleton.1 hq]; simp
      · exact h.apart.sublist (List.Sublist.append_left (by simp) acc)
      · have := h.many
        simp only [List.length_append, List.length_cons, List.length_nil] at this ⊢
        omega
    have h2 := addLn_line h1
    rw [hs r (by simp)] at h2
    rw [List.map_cons, List.cons_append]
    conv => lhs; unfold addLns
    rw [h2]
    simp only [if_true]
    rw [addLns_lines ls (acc ++ [r]) sec (n + 1) rest (fun q hq => hs q (by simp [hq])) (by simpa using h)]
    simp only [List.append_assoc, List.singleton_append, List.length_cons]
    congr 1
    omega
theorem line_no10 {r : Rl} (h : RlOk r) : (10 : UInt8) ∉ rlLine r := by
  intro hm
  unfold rlLine at hm
  rcases List.mem_append.1 hm with hm | hm
  · repeat' split at hm
    all_goals simp at hm
  · rcases dotted_bytes (fun x hx => (h.1.2.2.2 x hx).2) 10 hm with q | q
    · unfold plB at q; simp at q
    · cases q
end Sx
namespace Go.Proofs.YtgohllfpceeboabGreatDoor
open Sx
theorem linesOf_join : ∀ (ls : List (List UInt8)) (r : List UInt8), (∀ x ∈ ls, (10 : UInt8) ∉ x) → linesOf (joinL ls ++ r) = ls ++ linesOf r
  | [], r, _ => rfl
  | x :: ls, r, h => by
    have ih := linesOf_join ls r (fun y hy => h y (by simp [hy]))
    have e : joinL (x :: ls) ++ r = x ++ 10 :: (joinL ls ++ r) := by simp [joinL]
    rw [e]
    show linesGo _ [] = _
    rw [linesGo_run x _ [] (h x (by simp)), ih]
    simp
theorem secs_len {rs : List Rl} (h : ∀ r ∈ rs, RlOk r) : (joinL (rs.map rlLine)).length ≤ 63 * rs.length := by
  induction rs with
  | nil => simp [joinL]
  | cons r rs ih =>
    have h1 := ih (fun q hq => h q (by simp [hq]))
    have h2 := dotted_len61 (h r (by simp)).1
    have e : joinL ((r :: rs).map rlLine) = rlLine r ++ 10 :: joinL (rs.map rlLine) := by simp [joinL]
    have h3 : (rlLine r).length ≤ 62 := by
      unfold rlLine
      rw [List.length_append]
      repeat' split
      all_goals simp
      all_goals omega
    rw [e, List.length_append, List.length_cons, List.length_cons]
    omega
theorem part_len (rs : List Rl) : (∀ r ∈ rs, r.2.2 = 105 ∨ r.2.2 = 112) → (rs.filter fun r => decide (r.2.2 = 105)).length + (rs.filter fun r => decide (r.2.2 = 112)).length = rs.length := by
  induction rs with
  | nil => intro _; rfl
  | cons r rs ih =>
    intro h
    have := ih (fun q hq => h q (by simp [hq]))
    rcases h r (by simp) with e | e
    · simp [e]; omega
    · simp [e]; omega
theorem part_perm : ∀ (rs : List Rl), (∀ r ∈ rs, r.2.2 = 105 ∨ r.2.2 = 112) → ((rs.filter fun r => decide (r.2.2 = 105)) ++ (rs.filter fun r => decide (r.2.2 = 112))).Perm rs
  | [], _ => List.Perm.refl _
  | r :: rs, h => by
    have ih := part_perm rs (fun q hq => h q (by simp [hq]))
    rcases h r (by simp) with e | e
    · simp only [List.filter_cons, e]
      simpa using List.Perm.cons r ih
    · simp only [List.filter_cons, e]
      simp
      exact (List.perm_middle).trans (List.Perm.cons r ih)
theorem outL_len {rs : List Rl} (h : RlsRt rs) : (outL rs).length ≤ 2000 := by
  have h1 := part_len rs (fun r hr => (h.ok r hr).2.2.2)
  have h2 := secs_len (rs := rs.filter fun r => decide (r.2.2 = 105)) (fun r hr => (h.ok r (List.mem_filter.1 hr).1).ok)
  have h3 := secs_len (rs := rs.filter fun r => decide (r.2.2 = 112)) (fun r hr => (h.ok r (List.mem_filter.1 hr).1).ok)
  have h4 := h.many
  unfold outL secs
  rw [List.length_append]
  split
  · simp only [List.length_nil]; omega
  · have e : joinL ([61, 61, 61, 112] :: (rs.filter fun r => decide (r.2.2 = 112)).map rlLine) = [61, 61, 61, 112, 10] ++ joinL ((rs.filter fun r => decide (r.2.2 = 112)).map rlLine) := by simp [joinL]
    rw [e, List.length_append]
    simp only [List.length_cons, List.length_nil]
    omega
/-- What Rules tells has the image of the rules. -/
theorem comp_out {rs : List Rl} (h : RlsRt rs) : compR [outL rs] = (imgT (tabOf rs), 0, 0) := by
  have hl := outL_len h
  obtain ⟨A, hA⟩ : ∃ A, rs.filter (fun r => decide (r.2.2 = 105)) = A := ⟨_, rfl⟩
  obtain ⟨B, hB⟩ : ∃ B, rs.filter (fun r => decide (r.2.2 = 112)) = B := ⟨_, rfl⟩
  have hp := part_perm rs (fun r hr => (h.ok r hr).2.2.2)
  rw [hA, hB] at hp
  have hAB := h.perm hp
  have hA1 : RlsRt ([] ++ A) := ⟨fun r hr => hAB.ok r (by simp at hr; simp [hr]), by simpa using (List.pairwise_append.1 hAB.apart).1, by have := hAB.many; rw [List.length_append] at this; simp; omega⟩
  have sA : ∀ r ∈ A, r.2.2 = 105 := fun r hr => by rw [← hA] at hr; simpa using (List.mem_filter.1 hr).2
  have sB : ∀ r ∈ B, r.2.2 = 112 := fun r hr => by rw [← hB] at hr; simpa using (List.mem_filter.1 hr).2
  have nA : ∀ x ∈ A.map rlLine, (10 : UInt8) ∉ x := fun x hx => by
    obtain ⟨r, hr, rfl⟩ := List.mem_map.1 hx
    exact line_no10 (hAB.ok r (by simp [hr])).ok
  have nB : ∀ x ∈ B.map rlLine, (10 : UInt8) ∉ x := fun x hx => by
    obtain ⟨r, hr, rfl⟩ := List.mem_map.1 hx
    exact line_no10 (hAB.ok r (by simp [hr])).ok
  have hadd : ∃ n, addLns (linesOf (outL rs)) [] 105 0 = (A ++ B, 0, n) := by
    unfold outL secs
    rw [hA, hB, linesOf_join _ _ nA]
    by_cases h0 : B.map rlLine = []
    · have hB0 : B = [] := by simpa using h0
      rw [if_pos h0, addLns_lines A [] 105 0 _ sA hA1, hB0]
      exact ⟨_, by simp [linesOf_nil, addLns]; rfl⟩
    · rw [if_neg h0, addLns_lines A [] 105 0 _ sA hA1]
      have e := linesOf_join ([61, 61, 61, 112] :: B.map rlLine) [] (fun x hx => by
        rcases List.mem_cons.1 hx with rfl | hx
        · decide
        · exact nB x hx)
      rw [List.append_nil, linesOf_nil, List.append_nil] at e
      rw [e]
      have e2 : ∀ (acc : List Rl) (n : Int), addLns ([61, 61, 61, 112] :: B.map rlLine) acc 105 n = addLns (B.map rlLine) acc 112 (n + 1) := by
        intro acc n
        conv => lhs; unfold addLns
        have : addLn acc 105 [61, 61, 61, 112] = ((acc, 112), 0) := by unfold addLn; simp
        rw [this]
        simp
      rw [e2]
      have e3 := addLns_lines B ([] ++ A) 112 (0 + (A.length : Int) + 1) [] sB (by simpa using hAB)
      rw [List.append_nil] at e3
      rw [e3]
      exact ⟨_, by simp [addLns]; rfl⟩
  obtain ⟨n, hadd⟩ := hadd
  have hall : addAll [outL rs] [] 0 = (A ++ B, 0, n) := by
    unfold addAll
    rw [hadd]
    simp [addAll]
  unfold compR
  rw [if_neg (by simp [sl]; omega), hall]
  simp only [if_true]
  rw [tabOf_perm h hp]
end Go.Proofs.YtgohllfpceeboabGreatDoor
namespace Sx
/-- An image with more bytes behind it is none. -/
theorem rdEdges_more : ∀ (k : Nat) (b : List UInt8) (es : List Edg) (r y : List UInt8), rdEdges k b = some (es, r) → rdEdges k (b ++ y) = some (es, r ++ y)
  | 0, b, es, r, y, h => by
    simp only [rdEdges, Option.some.injEq, Prod.mk.injEq] at h ⊢
    exact ⟨h.1, by rw [h.2]⟩
  | k + 1, b, es, r, y, h => by
    match b, h with
    | [], h => simp [rdEdges] at h
    | [_], h => simp [rdEdges] at h
    | [_, _], h => simp [rdEdges] at h
    | c :: x :: z :: t, h =>
      simp only [rdEdges] at h
      obtain ⟨⟨es', r'⟩, h1, h2⟩ := Option.map_eq_some_iff.1 h
      have ih := rdEdges_more k t es' r' y h1
      simp only [Prod.mk.injEq] at h2
      simp only [List.cons_append, rdEdges]
      rw [ih]
      simp only [Option.map_some, Option.some.injEq, Prod.mk.injEq]
      exact ⟨h2.1, by rw [← h2.2]⟩
theorem rdTab_more : ∀ (m n : Nat) (b : List UInt8) (t : List (List Edg)) (x : UInt8) (y : List UInt8), rdTab m n b = some t → rdTab m n (b ++ x :: y) = none
  | 0, n, b, t, x, y, h => by
    unfold rdTab at h ⊢
    rw [if_neg (by simp)]
  | m + 1, n, b, t, x, y, h => by
    cases b with
    | nil => simp [rdTab] at h
    | cons k r =>
      simp only [rdTab] at h
      split at h
      · cases h
      · rename_i es' r' he
        split at h
        · rename_i hc
          obtain ⟨t', h1, rfl⟩ := Option.map_eq_some_iff.1 h
          have ih := rdTab_more m (n + 1) r' t' x y h1
          simp only [List.cons_append, rdTab]
          rw [rdEdges_more _ _ _ _ (x :: y) he]
          simp only
          rw [if_pos hc, ih]
          rfl
        · cases h
theorem rdImg_more {b : List UInt8} {t : List (List Edg)} (x : UInt8) (y : List UInt8) (h : rdImg b = some t) : rdImg (b ++ x :: y) = none := by
  unfold rdImg at h
  split at h
  · rename_i hi lo r
    have := rdTab_more _ _ _ _ x y h
    simp only [List.cons_append, rdImg]
    exact this
  · cases h
end Sx
namespace Go.Proofs.YtgohllfpceeboabGreatDoor
open Sx
theorem rules_back {b : List UInt8} (h : (opn b).2 = 0) : lsR b = (outL (opn b).1, 0) ∧ compR [outL (opn b).1] = (b, 0, 0) := by
  obtain ⟨_, hI⟩ := opn_is h
  refine ⟨by unfold lsR; rw [if_pos h], ?_⟩
  rw [comp_out hI.rt, hI.is]
theorem rules_err {b : List UInt8} (h : (opn b).2 ≠ 0) (s : List UInt8) : lsR b = ([], (opn b).2) ∧ lkR b s = ([], [], [], (opn b).2) := by
  unfold lsR lkR
  rw [if_neg h, if_neg h]
  exact ⟨rfl, rfl⟩
/-- An image with more bytes, or with fewer, is none. -/
theorem opn_none {b : List UInt8} (h : rdImg b = none) : (opn b).2 ≠ 0 := by
  unfold opn
  split
  · simp
  · rw [h]; simp
theorem opn_rd {b : List UInt8} (h : (opn b).2 = 0) : ∃ t, rdImg b = some t := by
  cases hr : rdImg b with
  | none => exact absurd h (opn_none hr)
  | some t => exact ⟨t, rfl⟩
theorem opn_more {b : List UInt8} (h : (opn b).2 = 0) (x : UInt8) : (opn (b ++ [x])).2 ≠ 0 := by
  obtain ⟨t, ht⟩ := opn_rd h
  exact opn_none (rdImg_more x [] ht)
theorem opn_less {b : List UInt8} (h : (opn b).2 = 0) (hb : b ≠ []) : (opn b.dropLast).2 ≠ 0 := by
  intro h0
  obtain ⟨t, ht⟩ := opn_rd h0
  have := rdImg_more (b.getLast hb) [] ht
  rw [List.dropLast_concat_getLast] at this
  exact opn_none this h
/-- The host that JUNK looks up. -/
theorem host_acom : (host [97, 46, 99, 111, 109]).2 = 0 := by
  have h := host_ix (ix := [0, 2]) ⟨by simp, by simp, by simp⟩
  have e : dotted (([0, 2] : List Nat).map nm) = [97, 46, 99, 111, 109] := by decide +kernel
  rw [e] at h
  rw [h]
theorem junk_no {x : List UInt8} (h : (opn x).2 ≠ 0) : lsR x = ([], (opn x).2) ∧ lkR x [97, 46, 99, 111, 109] = ([], [], [], (opn x).2) := rules_err h _
theorem junk_yes {x : List UInt8} (h : (opn x).2 = 0) : (lsR x).2 = 0 ∧ (lkR x [97, 46, 99, 111, 109]).2.2.2 = 0 ∧ compR [(lsR x).1] = (x, 0, 0) := by
  obtain ⟨h1, h2⟩ := rules_back h
  refine ⟨by rw [h1], ?_, by rw [h1]; exact h2⟩
  unfold lkR
  rw [if_pos h, if_pos host_acom]
  rfl
theorem junk_img (l : List RawR) : (compR [listT (kepF l)]).2.1 = 0 ∧ (opn (compR [listT (kepF l)]).1).2 = 0 ∧ (compR [listT (kepF l)]).1 ≠ [] ∧ (compR [listT (kepF l)]).1.length ≤ 8000 := by
  obtain ⟨k1, k2⟩ := kepF_ok l
  rw [comp_list k1 k2]
  have ho := opn_img k1
  have hb := (opn_is (b := imgT (tabOf ((kepF l).map rawRl))) (by rw [ho])).1
  refine ⟨rfl, by rw [ho], ?_, hb⟩
  intro e
  obtain ⟨t, ht⟩ := opn_rd (b := imgT (tabOf ((kepF l).map rawRl))) (by rw [ho])
  dsimp only at e
  rw [e] at ht
  cases ht
end Go.Proofs.YtgohllfpceeboabGreatDoor
