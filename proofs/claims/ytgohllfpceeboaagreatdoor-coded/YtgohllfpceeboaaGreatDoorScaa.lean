import Derived.Test.YtgohllfpceeboaaGreatDoorSkaa
import Derived.Test.YtgohllfpceeboaaGreatDoorSkad
import Derived.Test.YtgohllfpceeboaaGreatDoorGaa
import Derived.Test.YtgohllfpceeboaaGreatDoorGaf
import Derived.Test.YtgohllfpceeboaaGreatDoorGai
import Derived.Test.YtgohllfpceeboaaGreatDoorGal
import Derived.Test.YtgohllfpceeboaaGreatDoorProg
import Derived.Test.YtgohllfpceeboaaGreatDoorRefF
import Derived.Test.YtgohllfpceeboaaGreatDoorGak
import Derived.Test.YtgohllfpceeboaaGreatDoorSkai
namespace Sx
def CdOk (c : Int) : Prop := (97 ≤ c ∧ c ≤ 122) ∨ (48 ≤ c ∧ c ≤ 57) ∨ (128 ≤ c ∧ Good c)
theorem CdOk.lt {c : Int} (h : CdOk c) : LtOk c := by
  rcases h with h | h | h
  · refine ⟨?_, ⟨by omega, by omega, by omega⟩, by omega, ?_⟩
    · simp only [okL, Bool.or_eq_true, decide_eq_true_eq]; omega
    · unfold lower; rw [if_neg (by omega)]
  · refine ⟨?_, ⟨by omega, by omega, by omega⟩, by omega, ?_⟩
    · simp only [okL, Bool.or_eq_true, decide_eq_true_eq]; omega
    · unfold lower; rw [if_neg (by omega)]
  · exact ltOk_big h.1 h.2.2.1 h.2.2.2
def CdL (l : List Int) : Prop := (∃ r, l = 97 :: r) ∧ l.length ≤ 5 ∧ ∀ c ∈ l, CdOk c
def upI (c : Int) : Int := if 97 ≤ c ∧ c ≤ 122 then c - 32 else c
def upB (s : List UInt8) : List UInt8 := s.map fun b => if 97 ≤ b ∧ b ≤ 122 then b - 32 else b
def plnB (s : List UInt8) : Bool := s.all fun b => (decide (97 ≤ b) && decide (b ≤ 122)) || (decide (48 ≤ b) && decide (b ≤ 57)) || decide (b = 45) || decide (b = 46)
theorem cd_lower {l : List Int} (h : ∀ c ∈ l, CdOk c) : l.map lower = l := by
  conv => rhs; rw [← List.map_id l]
  exact List.map_congr_left fun c hc => (h c hc).lt.2.2.2
theorem cd_up {l : List Int} (h : ∀ c ∈ l, CdOk c) : (l.map upI).map lower = l := by
  rw [List.map_map]
  conv => rhs; rw [← List.map_id l]
  refine List.map_congr_left fun c hc => ?_
  have := h c hc
  unfold CdOk at this
  simp only [Function.comp, upI, lower, id]
  split
  · rw [if_pos (by omega)]; omega
  · rw [if_neg (by omega)]
theorem label_lower {a b : List Int} (h : a.map lower = b.map lower) : label a = label b := by unfold label; rw [h]
theorem cd_text {l : List Int} (h : ∀ c ∈ l, CdOk c) (hf : (l.any fun c => decide (128 ≤ c)) = false) : l = ints (l.map fun c => UInt8.ofNat c.toNat) ∧ text l = l.map (fun c => UInt8.ofNat c.toNat) ∧ ∀ c ∈ l, c < 128 := by
  have hlt : ∀ c ∈ l, c < 128 := by
    intro c hc
    have := List.any_eq_false.1 hf c hc
    simp only [decide_eq_true_eq] at this
    omega
  have h1 : l = ints (l.map fun c => UInt8.ofNat c.toNat) := by
    unfold ints
    rw [List.map_map]
    conv => lhs; rw [← List.map_id l]
    refine List.map_congr_left fun c hc => ?_
    have h1 := hlt c hc
    have h2 := (h c hc).lt.2.1.1
    simp only [Function.comp, id, UInt8.toNat_ofNat']
    omega
  refine ⟨h1, ?_, hlt⟩
  conv => lhs; rw [h1]
  refine text_ints _ (fun b hb => ?_)
  obtain ⟨c, hc, rfl⟩ := List.mem_map.1 hb
  have h1 := hlt c hc
  rw [UInt8.toNat_ofNat']
  omega
theorem cd_no45 {l : List Int} (h : ∀ c ∈ l, CdOk c) (hf : (l.any fun c => decide (128 ≤ c)) = false) : ∀ b ∈ text l, b ≠ 45 := by
  obtain ⟨_, h2, h3⟩ := cd_text h hf
  rw [h2]
  intro b hb e
  obtain ⟨c, hc, rfl⟩ := List.mem_map.1 hb
  have h1 := h3 c hc
  have h4 := h c hc
  unfold CdOk at h4
  have := congrArg UInt8.toNat e
  rw [UInt8.toNat_ofNat'] at this
  simp at this
  omega
theorem notXn {x : List UInt8} (h : ∀ b ∈ x, b ≠ 45) : (x.take 4 == xn) = false := by
  rw [beq_eq_false_iff_ne]
  intro e
  have : (45 : UInt8) ∈ x.take 4 := by rw [e]; decide
  exact h 45 (List.mem_of_mem_take this) rfl
theorem cd_shown {l : List Int} (h : CdL l) : shownOf (formOf l) = text l := by
  obtain ⟨⟨r, hr⟩, hl, hc⟩ := h
  unfold shownOf formOf
  cases hf : l.any fun c => decide (128 ≤ c) with
  | false =>
    simp only [Bool.false_eq_true, if_false]
    rw [notXn (cd_no45 hc hf), Bool.and_false]
    simp
  | true =>
    rw [if_pos rfl]
    have h1 := (enc_lens l (by omega) (fun c hc' => (hc c hc').lt.2.1.2.1)).1
    have h2 : 0 < l.length := by rw [hr]; simp
    have e1 : (xn ++ enc l).take 4 = xn := rfl
    have e2 : (xn ++ enc l).drop 4 = enc l := rfl
    rw [e1, e2, dec_enc l (by omega) (fun c hc' => (hc c hc').lt.2.1) hf]
    have : decide (4 < (xn ++ enc l).length) = true := by rw [decide_eq_true_eq, List.length_append]; simp [xn]; omega
    rw [this]
    simp
theorem cd_plain {l : List Int} (h : CdL l) (hf : (l.any fun c => decide (128 ≤ c)) = false) : label l = some (text l) := by
  obtain ⟨⟨r, hr⟩, hl, hc⟩ := h
  obtain ⟨h1, h2, h3⟩ := cd_text hc hf
  have hn := cd_no45 hc hf
  have hlen : (text l).length = l.length := by rw [h2, List.length_map]
  have hpos : 0 < l.length := by rw [hr]; simp
  unfold label
  rw [cd_lower hc, if_pos (List.all_eq_true.2 fun c hc' => (hc c hc').lt.1)]
  have hfo : formOf l = text l := by unfold formOf; rw [hf]; simp
  rw [hfo, hf, notXn hn, Bool.and_false, if_pos]
  · simp
  · unfold formOk
    rw [hlen]
    simp only [Bool.and_eq_true, decide_eq_true_eq, Bool.not_eq_true', beq_eq_false_iff_ne, ne_eq]
    have hin : ∀ i (hi : i < (text l).length), (text l).getD i 0 ≠ 45 := fun i hi => by
      rw [List.getD_eq_getElem?_getD, List.getElem?_eq_getElem hi, Option.getD_some]
      exact hn _ (List.getElem_mem hi)
    exact ⟨⟨⟨by omega, by omega⟩, hin 0 (by omega)⟩, hin _ (by omega)⟩
theorem utf_len4 (c : Int) : (utf c).length ≤ 4 := by
  unfold utf
  repeat' split
  all_goals simp
theorem text_len4 : ∀ l : List Int, (text l).length ≤ 4 * l.length
  | [] => Nat.le_refl _
  | c :: l => by
    have := text_len4 l
    have h := utf_len4 c
    unfold text at this ⊢
    rw [List.flatMap_cons, List.length_append, List.length_cons]
    omega
theorem dots_letters {a b : List Int} (ha : CdL a) (hb : CdL b) : ∀ c ∈ a ++ 46 :: b, Good c := by
  intro c hc
  rcases List.mem_append.1 hc with hc | hc
  · exact (ha.2.2 c hc).lt.2.1
  · rcases List.mem_cons.1 hc with rfl | hc
    · exact ⟨by omega, by omega, by omega⟩
    · exact (hb.2.2 c hc).lt.2.1
theorem host_two {a b : List Int} (hg : ∀ c ∈ a ++ 46 :: b, Good c) (hl : a.length ≤ 5 ∧ b.length ≤ 5) (ha : ∀ c ∈ a, c ≠ 46) (hb : ∀ c ∈ b, c ≠ 46) : host (text (a ++ 46 :: b)) = match label a, label b with
    | some x, some y => hostEnd [x, y]
    | _, _ => ([], 2) := by
  have hlen := text_len4 (a ++ 46 :: b)
  rw [List.length_append, List.length_cons] at hlen
  unfold host
  rw [if_neg (by omega), letters_text _ hg]
  simp only
  rw [hostGo_runI a (46 :: b) [] ha, List.nil_append, hostGo, if_pos rfl]
  have hb2 := hostGo_runI b [] [] hb
  rw [List.append_nil, List.nil_append] at hb2
  rw [hb2]
  have hlast : ∀ l, hostGo [] l = (label l).map fun x => [x] := by intro l; unfold hostGo; cases label l <;> rfl
  rw [hlast]
  cases hla : label a with
  | none => rfl
  | some x => cases hlb : label b <;> rfl
theorem text_up : ∀ l : List Int, (∀ c ∈ l, CdOk c ∨ c = 46) → upB (text l) = text (l.map upI)
  | [], _ => rfl
  | c :: l, h => by
    have ih := text_up l (fun d hd => h d (by simp [hd]))
    have hc := h c (by simp)
    have e1 : text (c :: l) = utf c ++ text l := by simp [text]
    have e2 : text ((c :: l).map upI) = utf (upI c) ++ text (l.map upI) := by simp [text]
    rw [e1, e2, ← ih]
    unfold upB
    rw [List.map_append]
    congr 1
    by_cases hlt : c < 128
    · have h0 : 0 ≤ c := by unfold CdOk at hc; omega
      have hu : utf c = [UInt8.ofNat c.toNat] := by unfold utf; rw [if_pos hlt]
      have hu2 : utf (upI c) = [UInt8.ofNat (upI c).toNat] := by unfold utf; rw [if_pos]; unfold upI; split <;> omega
      rw [hu, hu2]
      simp only [List.map_cons, List.map_nil, List.cons.injEq, and_true]
      obtain ⟨n, rfl⟩ : ∃ n : Nat, c = n := ⟨c.toNat, by omega⟩
      have hn : n < 128 := by omega
      clear h hc hu hu2 e1 e2 ih hlt h0
      rw [Int.toNat_natCast]
      unfold upI
      revert n
      decide
    · have hup : upI c = c := by unfold upI; rw [if_neg (by omega)]
      rw [hup]
      conv => rhs; rw [← List.map_id (utf c)]
      refine List.map_congr_left fun b hb => ?_
      have hb2 : 128 ≤ b.toNat := by
        have hg : Good c := by
          rcases hc with hc | hc
          · exact hc.lt.2.1
          · omega
        unfold Good at hg
        unfold utf at hb
        rw [if_neg hlt] at hb
        split at hb
        · simp only [List.mem_cons, List.not_mem_nil, or_false] at hb
          rcases hb with rfl | rfl <;> (rw [UInt8.toNat_ofNat']; omega)
        · split at hb
          · simp only [List.mem_cons, List.not_mem_nil, or_false] at hb
            rcases hb with rfl | rfl | rfl <;> (rw [UInt8.toNat_ofNat']; omega)
          · simp only [List.mem_cons, List.not_mem_nil, or_false] at hb
            rcases hb with rfl | rfl | rfl | rfl <;> (rw [UInt8.toNat_ofNat']; omega)
      rw [if_neg]
      · rfl
      · rintro ⟨_, h2⟩
        have : b.toNat ≤ 122 := h2
        omega
end Sx
namespace Sx
theorem plnB_iff (s : List UInt8) : plnB s = true ↔ ∀ b ∈ s, plB b ∨ b = 46 := by
  unfold plnB
  rw [List.all_eq_true]
  refine forall_congr' fun b => imp_congr Iff.rfl ?_
  simp only [Bool.or_eq_true, Bool.and_eq_true, decide_eq_true_eq, plB, UInt8.le_iff_toNat_le]
  constructor
  · rintro (((h | h) | h) | h)
    · exact Or.inl (Or.inl h)
    · exact Or.inl (Or.inr (Or.inl h))
    · exact Or.inl (Or.inr (Or.inr (by rw [h]; rfl)))
    · exact Or.inr h
  · rintro ((h | h | h) | h)
    · exact Or.inl (Or.inl (Or.inl h))
    · exact Or.inl (Or.inl (Or.inr h))
    · exact Or.inl (Or.inr (UInt8.toNat_inj.1 h))
    · exact Or.inr h
theorem pln_no {l : List Int} (h : ∀ c ∈ l, CdOk c ∨ c = 46) (hp : plnB (text l) = true) : (l.any fun c => decide (128 ≤ c)) = false := by
  rw [List.any_eq_false]
  intro c hc
  rw [decide_eq_true_eq]
  intro hge
  have hg : Good c := by
    rcases h c hc with q | q
    · exact q.lt.2.1
    · omega
  obtain ⟨b, hb, hlt⟩ : ∃ b ∈ utf c, 128 ≤ b.toNat := by
    unfold Good at hg
    unfold utf
    rw [if_neg (by omega)]
    split
    · exact ⟨UInt8.ofNat (128 + c % 64).toNat, by simp, by rw [UInt8.toNat_ofNat']; omega⟩
    · split
      · exact ⟨UInt8.ofNat (128 + c % 64).toNat, by simp, by rw [UInt8.toNat_ofNat']; omega⟩
      · exact ⟨UInt8.ofNat (128 + c % 64).toNat, by simp, by rw [UInt8.toNat_ofNat']; omega⟩
  have hm : b ∈ text l := by unfold text; exact List.mem_flatMap.2 ⟨c, hc, hb⟩
  rcases (plnB_iff _).1 hp b hm with q | q
  · have := plB_lt q; omega
  · rw [q] at hlt; simp at hlt
theorem coded_pure {a b : List Int} (ha : CdL a) (hb : CdL b) :
    (plainR (upB (text (a ++ 46 :: b)))) = plainR (text (a ++ 46 :: b)) ∧
    ((plainR (text (a ++ 46 :: b))).2 ≠ 0 → plnB (text (a ++ 46 :: b)) = false ∧ (plainR (text (a ++ 46 :: b))).1 = [] ∧ (shownR (text (a ++ 46 :: b))).1 = []) ∧
    ((plainR (text (a ++ 46 :: b))).2 = 0 → plnB (plainR (text (a ++ 46 :: b))).1 = true ∧ (plnB (text (a ++ 46 :: b)) = true → (plainR (text (a ++ 46 :: b))).1 = text (a ++ 46 :: b)) ∧ (shownR (text (a ++ 46 :: b))).1 = text (a ++ 46 :: b) ∧
      plainR (plainR (text (a ++ 46 :: b))).1 = ((plainR (text (a ++ 46 :: b))).1, 0) ∧ shownR (plainR (text (a ++ 46 :: b))).1 = (text (a ++ 46 :: b), 0)) := by
  have hg := dots_letters ha hb
  have a46 : ∀ c ∈ a, c ≠ 46 := fun c hc => (ha.2.2 c hc).lt.2.2.1
  have b46 : ∀ c ∈ b, c ≠ 46 := fun c hc => (hb.2.2 c hc).lt.2.2.1
  have hcd : ∀ c ∈ a ++ 46 :: b, CdOk c ∨ c = 46 := fun c hc => by
    rcases List.mem_append.1 hc with q | q
    · exact Or.inl (ha.2.2 c q)
    · rcases List.mem_cons.1 q with q | q
      · exact Or.inr q
      · exact Or.inl (hb.2.2 c q)
  have hh := host_two hg ⟨ha.2.1, hb.2.1⟩ a46 b46
  have hup : host (upB (text (a ++ 46 :: b))) = host (text (a ++ 46 :: b)) := by
    rw [text_up _ hcd, hh, List.map_append, List.map_cons]
    have e46 : upI 46 = 46 := by decide
    have hu : ∀ l : List Int, (∀ c ∈ l, CdOk c) → (∀ c ∈ l.map upI, Good c ∧ c ≠ 46) := by
      intro l hl c hc
      obtain ⟨d, hd, rfl⟩ := List.mem_map.1 hc
      have h1 := hl d hd
      have h2 := h1.lt.2.1
      have h3 := h1.lt.2.2.1
      unfold Good at h2 ⊢
      unfold CdOk at h1
      unfold upI
      split <;> omega
    rw [e46, host_two (a := a.map upI) (b := b.map upI) ?_ ⟨by rw [List.length_map]; exact ha.2.1, by rw [List.length_map]; exact hb.2.1⟩ (fun c hc => (hu a ha.2.2 c hc).2) (fun c hc => (hu b hb.2.2 c hc).2), label_lower (a := a.map upI) (b := a) (by rw [cd_up ha.2.2, cd_lower ha.2.2]), label_lower (a := b.map upI) (b := b) (by rw [cd_up hb.2.2, cd_lower hb.2.2])]
    intro c hc
    rcases List.mem_append.1 hc with q | q
    · exact (hu a ha.2.2 c q).1
    · rcases List.mem_cons.1 q with rfl | q
      · exact ⟨by omega, by omega, by omega⟩
      · exact (hu b hb.2.2 c q).1
  have hpl : plnB (text (a ++ 46 :: b)) = true → host (text (a ++ 46 :: b)) = ([text a, text b], 0) := by
    intro hp
    have hf := pln_no hcd hp
    rw [List.any_append, List.any_cons, Bool.or_eq_false_iff, Bool.or_eq_false_iff] at hf
    rw [hh, cd_plain ha hf.1, cd_plain hb hf.2.2]
    simp only
    have la : (text a).length ≤ 5 := by rw [(cd_text ha.2.2 hf.1).2.1, List.length_map]; exact ha.2.1
    have lb : (text b).length ≤ 5 := by rw [(cd_text hb.2.2 hf.2.2).2.1, List.length_map]; exact hb.2.1
    obtain ⟨⟨r, hr⟩, _, _⟩ := hb
    have hd : digs (text b) = false := by
      rw [hr]
      have : text (97 :: r) = 97 :: text r := rfl
      rw [this]
      unfold digs
      simp
    unfold hostEnd
    rw [if_neg]
    simp [hd, allLen]
    omega
  refine ⟨by unfold plainR; rw [hup], fun he => ?_, fun he => ?_⟩
  · have he' : (host (text (a ++ 46 :: b))).2 ≠ 0 := he
    have h0 := host_err he'
    refine ⟨?_, ?_, ?_⟩
    · cases hp : plnB (text (a ++ 46 :: b)) with
      | false => rfl
      | true => rw [hpl hp] at he'; exact absurd rfl he'
    · unfold plainR; rw [h0]; rfl
    · unfold shownR; rw [h0]; rfl
  · have he' : (host (text (a ++ 46 :: b))).2 = 0 := he
    have hag := host_again he'
    obtain ⟨q1, q2, q3, q4⟩ := host_ok _ he'
    have hform : (host (text (a ++ 46 :: b))).1 = [formOf a, formOf b] := by
      rw [hh] at he' ⊢
      cases hla : label a with
      | none => rw [hla] at he'; simp at he'
      | some x =>
        cases hlb : label b with
        | none => rw [hla, hlb] at he'; simp at he'
        | some y =>
          rw [hla, hlb] at he'
          simp only at he' ⊢
          have e1 := (label_form hla).2.1
          have e2 := (label_form hlb).2.1
          rw [cd_lower ha.2.2] at e1
          rw [cd_lower hb.2.2] at e2
          unfold hostEnd at he' ⊢
          split
          · rename_i hc; rw [if_pos hc] at he'; simp at he'
          · rw [e1, e2]
    have htx : text (a ++ 46 :: b) = text a ++ 46 :: text b := by rw [text_app]; rfl
    have hsh : dotted ((host (text (a ++ 46 :: b))).1.map shownOf) = text (a ++ 46 :: b) := by
      rw [hform, List.map_cons, List.map_cons, List.map_nil, cd_shown ha, cd_shown hb, htx]
      simp [dotted]
    refine ⟨?_, ?_, hsh, ?_, ?_⟩
    · exact (plnB_iff _).2 (dotted_bytes fun x hx => (q4 x hx).2)
    · intro hp
      show dotted (host (text (a ++ 46 :: b))).1 = _
      rw [hpl hp, htx]
      simp [dotted]
    · show (dotted (host (dotted (host (text (a ++ 46 :: b))).1)).1, (host (dotted (host (text (a ++ 46 :: b))).1)).2) = _
      rw [hag]
      rfl
    · show (dotted ((host (dotted (host (text (a ++ 46 :: b))).1)).1.map shownOf), (host (dotted (host (text (a ++ 46 :: b))).1)).2) = _
      rw [hag]
      simp only
      rw [hsh]
end Sx
namespace Sx
def pickN (c : Int) (n : Nat) : Nat := ((if c < 0 then -(c + 1) else c) % (n : Int)).toNat
theorem pickN_lt (c : Int) (n : Nat) (h : 0 < n) : pickN c n < n := by
  unfold pickN
  have h1 := Int.emod_lt_of_pos (if c < 0 then -(c + 1) else c) (show (0 : Int) < n by omega)
  have h2 := Int.emod_nonneg (if c < 0 then -(c + 1) else c) (show (n : Int) ≠ 0 by omega)
  omega
end Sx
namespace Sx
def ltrI (l : Int × Int) : Int :=
  if pickN l.1 6 = 0 then 128 + pickN l.2 1920
  else if pickN l.1 6 = 1 then (if 55296 ≤ (2048 : Int) + pickN l.2 63488 ∧ (2048 : Int) + pickN l.2 63488 ≤ 57343 then 57344 else 2048 + pickN l.2 63488)
  else if pickN l.1 6 = 2 then 65536 + pickN l.2 1048576
  else if pickN l.2 36 < 26 then 97 + pickN l.2 36 else 22 + pickN l.2 36
theorem ltrI_ok (l : Int × Int) : CdOk (ltrI l) := by
  unfold ltrI CdOk Good
  have h1 := pickN_lt l.2 1920 (by omega)
  have h2 := pickN_lt l.2 63488 (by omega)
  have h3 := pickN_lt l.2 1048576 (by omega)
  have h4 := pickN_lt l.2 36 (by omega)
  split
  · right; right; omega
  · split
    · split
      · right; right; omega
      · right; right; omega
    · split
      · right; right; omega
      · split
        · left; omega
        · right; left; omega
def rawL (l : List (Int × Int)) : List Int := 97 :: (l.take 4).map ltrI
theorem rawL_ok (l : List (Int × Int)) : CdL (rawL l) := by
  refine ⟨⟨_, rfl⟩, ?_, fun c hc => ?_⟩
  · unfold rawL
    rw [List.length_cons, List.length_map, List.length_take]
    omega
  · rcases List.mem_cons.1 hc with rfl | hc
    · left; omega
    · obtain ⟨x, _, rfl⟩ := List.mem_map.1 hc
      exact ltrI_ok x
end Sx
namespace Go.Proofs.YtgohllfpceeboaaGreatDoor
open Go.RowKit
theorem pickN_int (c : Int) (n : Nat) (h : 0 < n) : ((Sx.pickN c n : Nat) : Int) = (if c < 0 then -(c + 1) else c) % (n : Int) := by
  unfold Sx.pickN
  have := Int.emod_nonneg (if c < 0 then -(c + 1) else c) (show (n : Int) ≠ 0 by omega)
  omega
set_option maxRecDepth 100000 in
set_option maxHeartbeats 1000000 in
theorem kpick (c : Int) (n : Nat) (w : World) (h1 : -9223372036854775808 ≤ c) (h2 : c ≤ 9223372036854775807) (hn : 0 < n) (hn2 : n ≤ 2000000) : Calls Tryz.prog 26 #[.int .i64 c, .int .i64 n] w fun e w' => e = .returned (.int .i64 (Sx.pickN c n : Nat)) ∧ w' = w := by
  have hp := pickN_int c n hn
  have hn0 : ¬ (n : Int) = 0 := by omega
  have hn1 : ((n : Int) == 0) = false := by simpa using hn0
  by_cases hc : c < 0
  · rw [if_pos hc] at hp
    have e1 : (-(c + 1)).tmod (n : Int) = (-(c + 1)) % (n : Int) := Int.tmod_eq_emod_of_nonneg (by omega)
    have hlt := Sx.pickN_lt c n hn
    have HP := hide hp
    clear hp
    go_enter Tryz.func26, Tryz.ntmps26
    go_wp2
    go_ret
    refine ⟨?_, rfl⟩
    rw [HP.out, ← e1]
    rfl
  · rw [if_neg hc] at hp
    have e1 : c.tmod (n : Int) = c % (n : Int) := Int.tmod_eq_emod_of_nonneg (by omega)
    have HP := hide hp
    clear hp
    go_enter Tryz.func26, Tryz.ntmps26
    go_wp2
    go_ret
    refine ⟨?_, rfl⟩
    rw [HP.out, ← e1]
    rfl
set_option maxRecDepth 100000 in
set_option maxHeartbeats 2000000 in
theorem kletter (k c : Int) (w : World) (h1 : -9223372036854775808 ≤ k) (h2 : k ≤ 9223372036854775807) (h3 : -9223372036854775808 ≤ c) (h4 : c ≤ 9223372036854775807) :
    Calls Tryz.prog 46 #[.agg #[.int .i64 k, .int .i64 c]] w fun e w' => e = .returned (.string ⟨(Sx.utf (Sx.ltrI (k, c))).toArray⟩) ∧ Below w.heap.size w w' := by
  have HPK := hide (fun n hn hn2 W => kpick k n W h1 h2 hn hn2)
  have HPC := hide (fun n hn hn2 W => kpick c n W h3 h4 hn hn2)
  have hok := Sx.ltrI_ok (k, c)
  have henc := Sx.encode_utf (Sx.ltrI (k, c)) hok.lt.2.1
  rw [← henc]
  have l6 := Sx.pickN_lt k 6 (by omega)
  have HB0 : Hid (∀ o, Below w.heap.size w (w.alloc o)) := hide (fun o => (Below.refl _ w).alloc (Nat.le_refl _) o)
  have hk := HPK.out 6 (by omega) (by omega)
  unfold Sx.ltrI
  dsimp only
  obtain ⟨m, hm⟩ : ∃ m, Sx.pickN k 6 = m := ⟨_, rfl⟩
  rw [hm] at l6 hk ⊢
  have HK := hide hk
  clear hm hok henc hk HPK h1 h2 h3 h4
  by_cases m0 : m = 0
  · subst m0
    rw [if_pos rfl]
    have hl := Sx.pickN_lt c 1920 (by omega)
    have hc := HPC.out 1920 (by omega) (by omega)
    obtain ⟨x, hx⟩ : ∃ x, Sx.pickN c 1920 = x := ⟨_, rfl⟩
    rw [hx] at hl hc ⊢
    have HC := hide hc
    clear hx hc HPC
    go_enter Tryz.func46, Tryz.ntmps46
    go_wp2_with fail
    refine (HK.out _).mono ?_
    rintro e w1 ⟨rfl, rfl⟩
    go_wp2_with fail
    refine (HC.out _).mono ?_
    rintro e w1 ⟨rfl, rfl⟩
    go_wp2
    go_ret
    exact ⟨rfl, HB0.out _⟩
  · rw [if_neg m0]
    by_cases m1 : m = 1
    · subst m1
      rw [if_pos rfl]
      have hl := Sx.pickN_lt c 63488 (by omega)
      have hc := HPC.out 63488 (by omega) (by omega)
      obtain ⟨x, hx⟩ : ∃ x, Sx.pickN c 63488 = x := ⟨_, rfl⟩
      rw [hx] at hl hc ⊢
      have HC := hide hc
      clear hx hc HPC
      obtain ⟨y, hy⟩ : ∃ y : Int, (2048 : Int) + (x : Int) = y := ⟨_, rfl⟩
      rw [hy]
      have y1 : 2048 ≤ y := by omega
      have y2 : y ≤ 65535 := by omega
      by_cases hs : 55296 ≤ y ∧ y ≤ 57343
      · rw [if_pos hs]
        obtain ⟨s1, s2⟩ := hs
        go_enter Tryz.func46, Tryz.ntmps46
        go_wp2_with fail
        refine (HK.out _).mono ?_
        rintro e w1 ⟨rfl, rfl⟩
        go_wp2_with fail
        refine (HC.out _).mono ?_
        rintro e w1 ⟨rfl, rfl⟩
        go_wp2
        go_ret
        exact ⟨rfl, HB0.out _⟩
      · rw [if_neg hs]
        by_cases s1 : 55296 ≤ y
        · have s2 : (y ≤ 57343) = False := by simp; omega
          clear hs
          go_enter Tryz.func46, Tryz.ntmps46
          go_wp2_with fail
          refine (HK.out _).mono ?_
          rintro e w1 ⟨rfl, rfl⟩
          go_wp2_with fail
          refine (HC.out _).mono ?_
          rintro e w1 ⟨rfl, rfl⟩
          go_wp2
          go_ret
          exact ⟨rfl, HB0.out _⟩
        · have s3 : (55296 ≤ y) = False := by simpa using s1
          clear hs s1
          go_enter Tryz.func46, Tryz.ntmps46
          go_wp2_with fail
          refine (HK.out _).mono ?_
          rintro e w1 ⟨rfl, rfl⟩
          go_wp2_with fail
          refine (HC.out _).mono ?_
          rintro e w1 ⟨rfl, rfl⟩
          go_wp2
          go_ret
          exact ⟨rfl, HB0.out _⟩
    · rw [if_neg m1]
      by_cases m2 : m = 2
      · subst m2
        rw [if_pos rfl]
        have hl := Sx.pickN_lt c 1048576 (by omega)
        have hc := HPC.out 1048576 (by omega) (by omega)
        obtain ⟨x, hx⟩ : ∃ x, Sx.pickN c 1048576 = x := ⟨_, rfl⟩
        rw [hx] at hl hc ⊢
        have HC := hide hc
        clear hx hc HPC
        go_enter Tryz.func46, Tryz.ntmps46
        go_wp2_with fail
        refine (HK.out _).mono ?_
        rintro e w1 ⟨rfl, rfl⟩
        go_wp2_with fail
        refine (HC.out _).mono ?_
        rintro e w1 ⟨rfl, rfl⟩
        go_wp2
        go_ret
        exact ⟨rfl, HB0.out _⟩
      · rw [if_neg m2]
        have hl := Sx.pickN_lt c 36 (by omega)
        have hc := HPC.out 36 (by omega) (by omega)
        obtain ⟨x, hx⟩ : ∃ x, Sx.pickN c 36 = x := ⟨_, rfl⟩
        rw [hx] at hl hc ⊢
        have HC := hide hc
        clear hx hc HPC
        have hcut : ∀ x : Nat, x < 36 → (⟨#[97, 98, 99, 100, 101, 102, 103, 104, 105, 106, 107, 108, 109, 110, 111, 112, 113, 114, 115, 116, 117, 118, 119, 120, 121, 122, 48, 49, 50, 51, 52, 53, 54, 55, 56, 57]⟩ : ByteArray).extract x (x + 1) = Utf8.encode (if x < 26 then 97 + (x : Int) else 22 + x) := by decide
        have hcx := hcut x hl
        have k0 : ((m : Int) == 0) = false := by simp; omega
        have k1 : ((m : Int) == 1) = false := by simp; omega
        have k2 : ((m : Int) == 2) = false := by simp; omega
        have n0 : ¬ (m : Int) = 0 := by omega
        have n1 : ¬ (m : Int) = 1 := by omega
        have n2 : ¬ (m : Int) = 2 := by omega
        obtain ⟨R, hR⟩ : ∃ R, Utf8.encode (if x < 26 then 97 + (x : Int) else 22 + x) = R := ⟨_, rfl⟩
        rw [hR] at hcx ⊢
        have HCX := hide hcx
        clear hcut hcx hR
        go_enter Tryz.func46, Tryz.ntmps46
        go_wp2_with fail
        refine (HK.out _).mono ?_
        rintro e w1 ⟨rfl, rfl⟩
        go_wp2_with fail
        refine (HC.out _).mono ?_
        rintro e w1 ⟨rfl, rfl⟩
        go_wp2
        go_ret
        exact ⟨by rw [← HCX.out]; rfl, HB0.out _⟩
end Go.Proofs.YtgohllfpceeboaaGreatDoor
namespace Go.Proofs.YtgohllfpceeboaaGreatDoor
open Go.RowKit
theorem below_al2 {w W : World} (h : Below w.heap.size w W) (hz : w.heap.size ≤ W.heap.size) (o : Obj) : Below w.heap.size w (W.alloc o) := h.alloc hz o
def RdL (w : World) (v : Value) (l : List (Int × Int)) : Prop := ∃ p cap, v = .slice p l.length cap ∧ (∀ x ∈ l, (-9223372036854775808 ≤ x.1 ∧ x.1 ≤ 9223372036854775807) ∧ -9223372036854775808 ≤ x.2 ∧ x.2 ≤ 9223372036854775807) ∧ ∀ j (h : j < l.length), ∃ b off, p = some ⟨b, off, none⟩ ∧ b < w.heap.size ∧ w.cell? ⟨b, off + j * 2, none⟩ = some (.int .i64 l[j].1) ∧ w.cell? ⟨b, off + j * 2 + 1, none⟩ = some (.int .i64 l[j].2)
theorem RdL.below {W W' : World} {v : Value} {l : List (Int × Int)} (h : RdL W v l) (hb : Below W.heap.size W W') : RdL W' v l := by
  obtain ⟨p, cap, h1, h0, h2⟩ := h
  refine ⟨p, cap, h1, h0, fun j hj => ?_⟩
  obtain ⟨b, off, e1, e2, e3, e4⟩ := h2 j hj
  exact ⟨b, off, e1, Nat.lt_of_lt_of_le e2 hb.size, (hb.cell (p := ⟨b, off + j * 2, none⟩) e2).trans e3, (hb.cell (p := ⟨b, off + j * 2 + 1, none⟩) e2).trans e4⟩
set_option maxRecDepth 100000 in
set_option maxHeartbeats 2000000 in
theorem klabel (l : List (Int × Int)) (v : Value) (w : World) (hv : RdL w v l) (hl : l.length ≤ 9223372036854775807) : Calls Tryz.prog 17 #[v] w fun e w' => e = .returned (.string ⟨(Sx.text (Sx.rawL l)).toArray⟩) ∧ Below w.heap.size w w' := by
  obtain ⟨p, cap, rfl, hr, hc⟩ := hv
  have HC := hide hc
  have HR := hide hr
  clear hc hr
  go_enter Tryz.func17, Tryz.ntmps17
  go_wp2_with fail
  go_loopw [3, 4] (fun sv iv wr => ∃ (k : Nat) (t : List UInt8), sv = .string ⟨t.toArray⟩ ∧ iv = .int .i64 k ∧ k ≤ l.length ∧ k ≤ 4 ∧ t.length ≤ 1 + 4 * k ∧ Sx.text (97 :: (l.take k).map Sx.ltrI) = t ∧ Below w.heap.size w wr) (fun _ iv _ => (4 - intOf iv).toNat)
  case atStart => exact ⟨0, [97], rfl, rfl, by omega, by omega, by simp, rfl, Below.refl _ _⟩
  case round =>
    obtain ⟨k, t, rfl, rfl, hk, hk4, htl, ht, hB⟩ := hrel
    have HB := hide hB
    have hbz := hB.size
    by_cases hlt : k < l.length ∧ k < 4
    · obtain ⟨hlt, hlt4⟩ := hlt
      obtain ⟨b, off, rfl, hb, c1, c2⟩ := HC.out k hlt
      have d1 := (hB.cell (p := ⟨b, off + k * 2, none⟩) hb).trans c1
      have d2 := (hB.cell (p := ⟨b, off + k * 2 + 1, none⟩) hb).trans c2
      have hr := HR.out l[k] (List.getElem_mem hlt)
      have hst : Sx.text (97 :: (l.take (k + 1)).map Sx.ltrI) = t ++ Sx.utf (Sx.ltrI l[k]) := by
        rw [List.take_succ_eq_append_getElem hlt, List.map_append, ← List.cons_append, Sx.text_app, ht]
        simp [Sx.text]
      obtain ⟨⟨x, y⟩, hq⟩ : ∃ q, l[k] = q := ⟨_, rfl⟩
      rw [hq] at d1 d2 hr hst
      dsimp only at d1 d2 hr
      have hul := Sx.utf_len4 (Sx.ltrI (x, y))
      have HLT := hide (fun W => kletter x y W hr.1.1 hr.1.2 hr.2.1 hr.2.2)
      obtain ⟨u, hu⟩ : ∃ u, Sx.utf (Sx.ltrI (x, y)) = u := ⟨_, rfl⟩
      rw [hu] at hst hul HLT
      have happ := ba_app t u
      have hts : (⟨t.toArray⟩ : ByteArray).size = t.length := rfl
      have hus : (⟨u.toArray⟩ : ByteArray).size = u.length := rfl
      have HST := hide hst
      clear c1 c2 hq hu hst ht hB hr
      go_wp2_with fail
      refine (HLT.out _).mono ?_
      rintro e w2 ⟨rfl, hB2⟩
      have HB2 := hide (HB.out.trans (hB2.mono hbz))
      clear hB2 HLT
      go_wp2
      exact ⟨⟨k + 1, t ++ u, rfl, by go_num, by omega, by omega, by rw [List.length_append]; omega, HST.out, HB2.out⟩, by simp [intOf]; omega⟩
    · have hfin : Sx.text (Sx.rawL l) = t := by
        unfold Sx.rawL
        rw [← ht]
        congr 3
        by_cases h4 : k < 4
        · have : k = l.length := by omega
          rw [this, List.take_length, List.take_of_length_le (by omega)]
        · have : k = 4 := by omega
          rw [this]
      have HF := hide hfin
      by_cases hkl : k < l.length
      · have h4 : (k < 4) = False := by simp; omega
        have hk5 : k = 4 := by omega
        subst hk5
        clear hlt ht hfin hB
        go_wp2
        go_ret
        rw [HF.out]
        exact ⟨rfl, HB.out⟩
      · have h5 : (k < l.length) = False := by simp; omega
        clear hlt ht hfin hB
        go_wp2
        go_ret
        rw [HF.out]
        exact ⟨rfl, HB.out⟩
set_option maxRecDepth 100000 in
set_option maxHeartbeats 2000000 in
theorem kupper (s : ByteArray) (w : World) (hs : s.size ≤ 1000) : Calls Tryz.prog 20 #[.string s] w fun e w' => e = .returned (.string ⟨(Sx.upB s.data.toList).toArray⟩) ∧ Below w.heap.size w w' := by
  have hcv : ∀ (W : World) (x : UInt8), (convert 58 9 (.slice (some ⟨W.heap.size, 0, none⟩) 1 1)).run Tryz.prog (W.alloc (.cells #[.int .u8 x.toNat] 5)) = .ok (.string ⟨[x].toArray⟩) (W.alloc (.cells #[.int .u8 x.toNat] 5)) := fun W x => own_string (B := 0) (n := 1) (bs := [x]) ⟨by simp [byV], .inr ⟨W.heap.size, 1, _, rfl, Nat.zero_le _, heap_alloc_new _ _, by omega, by unfold maxLen; omega, rfl, rfl⟩⟩
  have HCV := hide hcv
  clear hcv
  go_enter Tryz.func20, Tryz.ntmps20
  go_wp2_with fail
  go_loopw [3, 4] (fun tv iv wr => ∃ (k : Nat) (t : List UInt8), tv = .string ⟨t.toArray⟩ ∧ iv = .int .i64 k ∧ k ≤ s.size ∧ t.length = k ∧ Sx.upB (s.data.toList.take k) = t ∧ Below w.heap.size w wr) (fun _ iv _ => (s.size - intOf iv).toNat)
  case atStart => exact ⟨0, [], rfl, rfl, by omega, rfl, rfl, Below.refl _ _⟩
  case round =>
    obtain ⟨k, t, rfl, rfl, hk, htl, ht, hB⟩ := hrel
    have HB := hide hB
    have hbz := hB.size
    by_cases hlt : k < s.size
    · have hlt2 : k < s.data.toList.length := by rw [ba_len]; exact hlt
      have hget : s.data.toList[k] = s[k] := rfl
      have hst : Sx.upB (s.data.toList.take (k + 1)) = t ++ [if 97 ≤ s[k] ∧ s[k] ≤ 122 then s[k] - 32 else s[k]] := by
        rw [List.take_succ_eq_append_getElem hlt2, ← ht]
        simp [Sx.upB, hget]
      obtain ⟨c, hc⟩ : ∃ c, s[k] = c := ⟨_, rfl⟩
      rw [hc] at hst
      have happ : ∀ x : UInt8, (⟨t.toArray⟩ : ByteArray) ++ ⟨[x].toArray⟩ = ⟨(t ++ [x]).toArray⟩ := fun x => ba_app t [x]
      have hts : (⟨t.toArray⟩ : ByteArray).size = k := htl
      have hxs : ∀ x : UInt8, (⟨[x].toArray⟩ : ByteArray).size = 1 := fun _ => rfl
      have hcl := c.toNat_lt
      clear hB hget ht
      by_cases hr : 97 ≤ c ∧ c ≤ 122
      · rw [if_pos hr] at hst
        have h1 : 97 ≤ c.toNat := UInt8.le_iff_toNat_le.1 hr.1
        have h2 : c.toNat ≤ 122 := UInt8.le_iff_toNat_le.1 hr.2
        obtain ⟨u, hu⟩ : ∃ u, c - 32 = u := ⟨_, rfl⟩
        have hun : (c.toNat : Int) - 32 = (u.toNat : Int) := by
          rw [← hu, UInt8.toNat_sub_of_le _ _ (UInt8.le_iff_toNat_le.2 (by simp; omega))]
          simp
          omega
        rw [hu] at hst
        have hul := u.toNat_lt
        have hcu := fun W => HCV.out W u
        have hau := happ u
        have hxu := hxs u
        have HST := hide hst
        clear hst hu hr happ hxs
        go_wp2
        exact ⟨⟨k + 1, t ++ [u], rfl, by go_num, by omega, by rw [List.length_append, htl]; rfl, HST.out, (below_al2 HB.out hbz _)⟩, by simp [intOf]; omega⟩
      · rw [if_neg hr] at hst
        have hcu := fun W => HCV.out W c
        have hau := happ c
        have hxu := hxs c
        have HST := hide hst
        by_cases h1 : 97 ≤ c.toNat
        · have h2 : ((c.toNat : Int) ≤ 122) = False := by
            simp
            by_cases h3 : c.toNat ≤ 122
            · exact absurd ⟨UInt8.le_iff_toNat_le.2 h1, UInt8.le_iff_toNat_le.2 h3⟩ hr
            · omega
          clear hst hr happ hxs
          go_wp2
          exact ⟨⟨k + 1, t ++ [c], rfl, by go_num, by omega, by rw [List.length_append, htl]; rfl, HST.out, (below_al2 HB.out hbz _)⟩, by simp [intOf]; omega⟩
        · have h2 : (97 ≤ (c.toNat : Int)) = False := by simp; omega
          clear hst hr happ hxs
          go_wp2
          exact ⟨⟨k + 1, t ++ [c], rfl, by go_num, by omega, by rw [List.length_append, htl]; rfl, HST.out, (below_al2 HB.out hbz _)⟩, by simp [intOf]; omega⟩
    · have hke : k = s.size := by omega
      have hfin : Sx.upB s.data.toList = t := by rw [← ht, List.take_of_length_le (by rw [ba_len]; omega)]
      have HF := hide hfin
      have hge : (k < s.size) = False := by simpa using hlt
      clear ht hfin hB hlt hke
      go_wp2
      go_ret
      rw [HF.out]
      exact ⟨rfl, HB.out⟩
set_option maxRecDepth 100000 in
set_option maxHeartbeats 2000000 in
theorem kplain (s : ByteArray) (w : World) (hs : s.size ≤ 1000) : Calls Tryz.prog 21 #[.string s] w fun e w' => e = .returned (.bool (Sx.plnB s.data.toList)) ∧ w' = w := by
  go_enter Tryz.func21, Tryz.ntmps21
  go_wp2_with fail
  go_loop [3] (fun iv => ∃ k : Nat, iv = .int .i64 k ∧ k ≤ s.size ∧ Sx.plnB (s.data.toList.take k) = true) (fun iv => (s.size - intOf iv).toNat)
  case atStart => exact ⟨0, rfl, by omega, rfl⟩
  case round =>
    obtain ⟨k, rfl, hk, hpl⟩ := hrel
    by_cases hlt : k < s.size
    · have hlt2 : k < s.data.toList.length := by rw [ba_len]; exact hlt
      have hget : s.data.toList[k] = s[k] := rfl
      have hst : Sx.plnB (s.data.toList.take (k + 1)) = Sx.plnB [s[k]] := by
        unfold Sx.plnB at hpl ⊢
        rw [List.take_succ_eq_append_getElem hlt2, List.all_append, hpl, hget]
        simp
      have hno : Sx.plnB [s[k]] = false → Sx.plnB s.data.toList = false := fun h => by
        unfold Sx.plnB at h ⊢
        rw [List.all_eq_false]
        refine ⟨s[k], by rw [← hget]; exact List.getElem_mem hlt2, ?_⟩
        simpa using h
      obtain ⟨c, hc⟩ : ∃ c, s[k] = c := ⟨_, rfl⟩
      rw [hc] at hst hno
      have hiff : Sx.plnB [c] = true ↔ ((97 ≤ c.toNat ∧ c.toNat ≤ 122) ∨ (48 ≤ c.toNat ∧ c.toNat ≤ 57) ∨ c.toNat = 45 ∨ c.toNat = 46) := by
        rw [Sx.plnB_iff]
        simp only [List.mem_singleton, forall_eq, Sx.plB]
        constructor
        · rintro ((h | h | h) | h)
          · exact Or.inl h
          · exact Or.inr (Or.inl h)
          · exact Or.inr (Or.inr (Or.inl h))
          · exact Or.inr (Or.inr (Or.inr (by rw [h]; rfl)))
        · rintro (h | h | h | h)
          · exact Or.inl (Or.inl h)
          · exact Or.inl (Or.inr (Or.inl h))
          · exact Or.inl (Or.inr (Or.inr h))
          · exact Or.inr (UInt8.toNat_inj.1 h)
      have HY : Hid (((97 ≤ c.toNat ∧ c.toNat ≤ 122) ∨ (48 ≤ c.toNat ∧ c.toNat ≤ 57) ∨ c.toNat = 45 ∨ c.toNat = 46) → Sx.plnB (s.data.toList.take (k + 1)) = true) := hide (fun h => by rw [hst]; exact hiff.2 h)
      have HN : Hid (¬ ((97 ≤ c.toNat ∧ c.toNat ≤ 122) ∨ (48 ≤ c.toNat ∧ c.toNat ≤ 57) ∨ c.toNat = 45 ∨ c.toNat = 46) → Sx.plnB s.data.toList = false) := hide (fun h => hno (by
        cases hq : Sx.plnB [c] with
        | false => rfl
        | true => exact absurd (hiff.1 hq) h))
      obtain ⟨N, hN⟩ : ∃ N, c.toNat = N := ⟨_, rfl⟩
      rw [hN] at HY HN
      clear hst hno hiff hpl hget
      by_cases a1 : 97 ≤ N
      · by_cases a2 : N ≤ 122
        · go_wp2
          go_round
          case rel => exact ⟨k + 1, by go_num, by omega, HY.out (Or.inl ⟨a1, a2⟩)⟩
          case measure => simp [intOf]; omega
        · have b1 : ((N : Int) ≤ 122) = False := by simp; omega
          have b2 : ((N : Int) ≤ 57) = False := by simp; omega
          have b3 : ((N : Int) == 45) = false := by simp; omega
          have b4 : ((N : Int) == 46) = false := by simp; omega
          have b5 : ((N : Int) != 45) = true := by simp; omega
          have b6 : ((N : Int) != 46) = true := by simp; omega
          go_wp2
          go_ret
          exact ⟨by rw [HN.out (by omega)]; rfl, rfl⟩
      · have b0 : (97 ≤ (N : Int)) = False := by simp; omega
        by_cases a3 : 48 ≤ N
        · by_cases a4 : N ≤ 57
          · go_wp2
            go_round
            case rel => exact ⟨k + 1, by go_num, by omega, HY.out (Or.inr (Or.inl ⟨a3, a4⟩))⟩
            case measure => simp [intOf]; omega
          · have b2 : ((N : Int) ≤ 57) = False := by simp; omega
            have b3 : ((N : Int) == 45) = false := by simp; omega
            have b4 : ((N : Int) == 46) = false := by simp; omega
            have b5 : ((N : Int) != 45) = true := by simp; omega
            have b6 : ((N : Int) != 46) = true := by simp; omega
            go_wp2
            go_ret
            exact ⟨by rw [HN.out (by omega)]; rfl, rfl⟩
        · have b1 : (48 ≤ (N : Int)) = False := by simp; omega
          by_cases a5 : N = 45
          · subst a5
            go_wp2
            go_round
            case rel => exact ⟨k + 1, by go_num, by omega, HY.out (by omega)⟩
            case measure => simp [intOf]; omega
          · have b3 : ((N : Int) == 45) = false := by simp; omega
            have b5 : ((N : Int) != 45) = true := by simp; omega
            by_cases a6 : N = 46
            · subst a6
              go_wp2
              go_round
              case rel => exact ⟨k + 1, by go_num, by omega, HY.out (by omega)⟩
              case measure => simp [intOf]; omega
            · have b4 : ((N : Int) == 46) = false := by simp; omega
              have b6 : ((N : Int) != 46) = true := by simp; omega
              go_wp2
              go_ret
              exact ⟨by rw [HN.out (by omega)]; rfl, rfl⟩
    · have hfin : Sx.plnB s.data.toList = true := by rw [List.take_of_length_le (by rw [ba_len]; omega)] at hpl; exact hpl
      have HF := hide hfin
      have hge : (k < s.size) = False := by simpa using hlt
      clear hfin hpl hlt
      go_wp2
      go_ret
      rw [HF.out]
      exact ⟨rfl, rfl⟩
end Go.Proofs.YtgohllfpceeboaaGreatDoor
namespace Go.Proofs.YtgohllfpceeboaaGreatDoor
open Go.RowKit
theorem host_longK (p : List UInt8) (h : 60 < p.length) : (Sx.host p).2 = 1 := by
  unfold Sx.host
  rw [if_pos h]
set_option maxRecDepth 100000 in
set_option maxHeartbeats 4000000 in
theorem kcoded (la lb : List (Int × Int)) (va vb : Value) (w : World) (hw : LWt w) (ha : RdL w va la) (hb : RdL w vb lb) (hla : la.length ≤ 9223372036854775807) (hlb : lb.length ≤ 9223372036854775807) :
    Calls Tryz.prog 6 #[va, vb] w fun e w' => e = .returned (.bool true) ∧ Below w.heap.size w w' := by
  have HAW := hide (kawake w hw)
  have hXs : 0 < (⟨exX.toArray⟩ : ByteArray).size := exX_len
  obtain ⟨X, hX⟩ : ∃ X : ByteArray, ⟨exX.toArray⟩ = X := ⟨_, rfl⟩
  rw [hX] at HAW hXs
  have hXe := ne_text hXs
  have HLW : Hid (∀ W, Below w.heap.size w W → LWt W) := hide (fun W h => lwt_stays _ _ hw h)
  have HLA := hide (fun W (h : Below w.heap.size w W) => klabel la va W (ha.below h) hla)
  have HLB := hide (fun W (h : Below w.heap.size w W) => klabel lb vb W (hb.below h) hlb)
  obtain ⟨pa, ca, rfl, -, -⟩ := ha
  obtain ⟨pb, cb, rfl, -, -⟩ := hb
  have HPL : Hid (∀ (t : ByteArray) W, LWt W → Calls Tryz.prog 18 #[.string t] W fun e w' => Below W.heap.size W w' ∧ e = .returned (.tuple #[.string ⟨(Sx.plainR t.data.toList).1.toArray⟩, .int .i64 (Sx.plainR t.data.toList).2])) := hide (fun t W h => plainsaid_any t W h)
  have HSH : Hid (∀ (t : ByteArray) W, LWt W → Calls Tryz.prog 19 #[.string t] W fun e w' => Below W.heap.size W w' ∧ e = .returned (.tuple #[.string ⟨(Sx.shownR t.data.toList).1.toArray⟩, .int .i64 (Sx.shownR t.data.toList).2])) := hide (fun t W h => shownsaid_any t W h)
  obtain ⟨c1, c2, c3⟩ := Sx.coded_pure (Sx.rawL_ok la) (Sx.rawL_ok lb)
  have hlenA := Sx.text_len4 (Sx.rawL la)
  have hlenB := Sx.text_len4 (Sx.rawL lb)
  have h5A := (Sx.rawL_ok la).2.1
  have h5B := (Sx.rawL_ok lb).2.1
  have htx : Sx.text (Sx.rawL la ++ 46 :: Sx.rawL lb) = Sx.text (Sx.rawL la) ++ 46 :: Sx.text (Sx.rawL lb) := by rw [Sx.text_app]; rfl
  rw [htx] at c1 c2 c3
  obtain ⟨ta, hta⟩ : ∃ ta, Sx.text (Sx.rawL la) = ta := ⟨_, rfl⟩
  obtain ⟨tb, htb⟩ : ∃ tb, Sx.text (Sx.rawL lb) = tb := ⟨_, rfl⟩
  rw [hta] at c1 c2 c3 HLA hlenA
  rw [htb] at c1 c2 c3 HLB hlenB
  obtain ⟨s, hs⟩ : ∃ s, ta ++ 46 :: tb = s := ⟨_, rfl⟩
  rw [hs] at c1 c2 c3
  have hsl : s.length ≤ 100 := by rw [← hs, List.length_append, List.length_cons]; omega
  have happ1 : (⟨ta.toArray⟩ : ByteArray) ++ ⟨#[46]⟩ = ⟨(ta ++ [46]).toArray⟩ := ba_app ta [46]
  have happ2 : (⟨(ta ++ [46]).toArray⟩ : ByteArray) ++ ⟨tb.toArray⟩ = ⟨s.toArray⟩ := by rw [ba_app, ← hs]; simp
  have hs1 : (⟨ta.toArray⟩ : ByteArray).size ≤ 100 := by show ta.length ≤ 100; omega
  have hs2 : (⟨(ta ++ [46]).toArray⟩ : ByteArray).size ≤ 100 := by show (ta ++ [46]).length ≤ 100; rw [List.length_append]; simp; omega
  have hs3 : (⟨tb.toArray⟩ : ByteArray).size ≤ 100 := by show tb.length ≤ 100; omega
  obtain ⟨A, hA⟩ : ∃ A : ByteArray, ⟨ta.toArray⟩ = A := ⟨_, rfl⟩
  obtain ⟨A2, hA2⟩ : ∃ A2 : ByteArray, ⟨(ta ++ [46]).toArray⟩ = A2 := ⟨_, rfl⟩
  obtain ⟨B, hB⟩ : ∃ B : ByteArray, ⟨tb.toArray⟩ = B := ⟨_, rfl⟩
  obtain ⟨S, hS⟩ : ∃ S : ByteArray, ⟨s.toArray⟩ = S := ⟨_, rfl⟩
  have hSl : S.data.toList = s := by rw [← hS]
  rw [hA] at happ1 hs1 HLA
  rw [hA2] at happ1 happ2 hs2
  rw [hB] at happ2 hs3 HLB
  rw [hS] at happ2
  have hSs : S.size ≤ 100 := by rw [← ba_len, hSl]; exact hsl
  have hu := fun W => kupper S W (by omega)
  have hpS := fun W => kplain S W (by omega)
  rw [hSl] at hu hpS
  have h1 := HPL.out S
  have h2 := HSH.out S
  rw [hSl] at h1 h2
  obtain ⟨U, hU⟩ : ∃ U : ByteArray, ⟨(Sx.upB s).toArray⟩ = U := ⟨_, rfl⟩
  rw [hU] at hu
  have h3 := HPL.out U
  have hUl : U.data.toList = Sx.upB s := by rw [← hU]
  rw [hUl, c1] at h3
  have hef : (Sx.shownR s).2 = (Sx.plainR s).2 := rfl
  rw [hef] at h2
  obtain ⟨⟨p, e⟩, hp⟩ : ∃ q, Sx.plainR s = q := ⟨_, rfl⟩
  obtain ⟨t, ht⟩ : ∃ t, (Sx.shownR s).1 = t := ⟨_, rfl⟩
  rw [hp] at c2 c3 h1 h2 h3
  rw [ht] at c2 c3 h2
  dsimp only at c2 c3 h1 h2 h3
  obtain ⟨P, hP⟩ : ∃ P : ByteArray, ⟨p.toArray⟩ = P := ⟨_, rfl⟩
  have hPl : P.data.toList = p := by rw [← hP]
  rw [hP] at h1 h3
  obtain ⟨T, hT⟩ : ∃ T : ByteArray, ⟨t.toArray⟩ = T := ⟨_, rfl⟩
  have hTl : T.data.toList = t := by rw [← hT]
  rw [hT] at h2
  have H1 := hide h1
  have H2 := hide h2
  have H3 := hide h3
  have HU := hide hu
  have HPS := hide hpS
  clear h1 h2 h3 hu hpS c1 hef hp ht hU hUl hta htb hs htx hA hA2 hB hX hXs hw hlenA hlenB h5A h5B hsl hla hlb
  by_cases he : e = 0
  · subst he
    obtain ⟨q1, q2, q3, q4, q5⟩ := c3 rfl
    have h4 := HPL.out P
    have h5 := HSH.out P
    rw [hPl, q4] at h4
    rw [hPl, q5] at h5
    dsimp only at h4 h5
    rw [hP] at h4
    rw [hS] at h5
    have hTS : T = S := by rw [← hT, ← hS, q3]
    subst hTS
    have hpl60 : P.size ≤ 1000 := by
      have hh : (Sx.host p).2 = 0 := by
        have := congrArg Prod.snd q4
        exact this
      have := (host_longK p)
      rw [← ba_len, hPl]
      by_cases h60 : 60 < p.length
      · exact absurd hh (by rw [this h60]; simp)
      · omega
    have hpP := fun W => kplain P W hpl60
    rw [hPl, q1] at hpP
    have HPP := hide hpP
    have H4 := hide h4
    have H5 := hide h5
    have pp : (P.toList == P.toList) = true := by simp
    have ss : (T.toList == T.toList) = true := by simp
    have HPQ : Hid (Sx.plnB s = true → P = T) := hide (fun h => by rw [← hP, ← hS, q2 h])
    clear h4 h5 hpP q1 q2 q3 q4 q5 c2 c3 hP hPl hS hSl hT hTl HPL HSH
    obtain ⟨PB, hPB⟩ : ∃ PB, Sx.plnB s = PB := ⟨_, rfl⟩
    rw [hPB] at HPS HPQ
    clear hPB
    go_enter Tryz.func6, Tryz.ntmps6
    go_wp2_with fail
    refine HAW.out.mono ?_
    rintro e w1 ⟨rfl, hB⟩
    have HB1 := hide hB
    clear hB HAW
    go_wp2_with fail
    refine (HLA.out _ HB1.out).mono ?_
    rintro e w2 ⟨rfl, hB⟩
    have HB2 := hide (below_step HB1.out hB)
    clear hB
    go_wp2_with fail
    refine (HLB.out _ HB2.out).mono ?_
    rintro e w3 ⟨rfl, hB⟩
    have HB3 := hide (below_step HB2.out hB)
    clear hB
    go_wp2_with fail
    refine (H1.out _ (HLW.out _ HB3.out)).mono ?_
    rintro e w4 ⟨hB, rfl⟩
    have HB4 := hide (below_step HB3.out hB)
    clear hB
    go_wp2_with fail
    refine (H2.out _ (HLW.out _ HB4.out)).mono ?_
    rintro e w5 ⟨hB, rfl⟩
    have HB5 := hide (below_step HB4.out hB)
    clear hB
    go_wp2_with fail
    refine (HU.out _).mono ?_
    rintro e w6 ⟨rfl, hB⟩
    have HB6 := hide (below_step HB5.out hB)
    clear hB
    go_wp2_with fail
    refine (H3.out _ (HLW.out _ HB6.out)).mono ?_
    rintro e w7 ⟨hB, rfl⟩
    have HB7 := hide (below_step HB6.out hB)
    clear hB
    go_wp2_with fail
    refine (H4.out _ (HLW.out _ HB7.out)).mono ?_
    rintro e w8 ⟨hB, rfl⟩
    have HB8 := hide (below_step HB7.out hB)
    clear hB
    go_wp2_with fail
    refine (H5.out _ (HLW.out _ HB8.out)).mono ?_
    rintro e w9 ⟨hB, rfl⟩
    have HB9 := hide (below_step HB8.out hB)
    clear hB
    go_wp2_with fail
    refine (HPP.out _).mono ?_
    rintro e w10 ⟨rfl, rfl⟩
    go_wp2_with fail
    refine (HPS.out _).mono ?_
    rintro e w11 ⟨rfl, rfl⟩
    cases PB with
    | true =>
      have hpt := HPQ.out rfl
      subst hpt
      go_wp2
      go_ret
      exact ⟨rfl, HB9.out⟩
    | false =>
      go_wp2
      go_ret
      exact ⟨rfl, HB9.out⟩
  · obtain ⟨q1, q2, q3⟩ := c2 he
    have hP0 := no_text (X := P) (by rw [hPl, q2])
    have hT0 := no_text (X := T) (by rw [hTl, q3])
    rw [q1] at HPS
    have k1 : (e != 0) = true := by simpa using he
    have k2 : (e == 0) = false := by simpa using he
    clear q1 q2 q3 c2 c3 hP hPl hS hSl hT hTl HPL HSH
    go_enter Tryz.func6, Tryz.ntmps6
    go_wp2_with fail
    refine HAW.out.mono ?_
    rintro e w1 ⟨rfl, hB⟩
    have HB1 := hide hB
    clear hB HAW
    go_wp2_with fail
    refine (HLA.out _ HB1.out).mono ?_
    rintro e w2 ⟨rfl, hB⟩
    have HB2 := hide (below_step HB1.out hB)
    clear hB
    go_wp2_with fail
    refine (HLB.out _ HB2.out).mono ?_
    rintro e w3 ⟨rfl, hB⟩
    have HB3 := hide (below_step HB2.out hB)
    clear hB
    go_wp2_with fail
    refine (H1.out _ (HLW.out _ HB3.out)).mono ?_
    rintro e w4 ⟨hB, rfl⟩
    have HB4 := hide (below_step HB3.out hB)
    clear hB
    go_wp2_with fail
    refine (H2.out _ (HLW.out _ HB4.out)).mono ?_
    rintro e w5 ⟨hB, rfl⟩
    have HB5 := hide (below_step HB4.out hB)
    clear hB
    go_wp2_with fail
    refine (HU.out _).mono ?_
    rintro e w6 ⟨rfl, hB⟩
    have HB6 := hide (below_step HB5.out hB)
    clear hB
    go_wp2_with fail
    refine (H3.out _ (HLW.out _ HB6.out)).mono ?_
    rintro e w7 ⟨hB, rfl⟩
    have HB7 := hide (below_step HB6.out hB)
    clear hB
    go_wp2_with fail
    refine (HPS.out _).mono ?_
    rintro e w8 ⟨rfl, rfl⟩
    go_wp2
    go_ret
    exact ⟨rfl, HB7.out⟩
end Go.Proofs.YtgohllfpceeboaaGreatDoor
