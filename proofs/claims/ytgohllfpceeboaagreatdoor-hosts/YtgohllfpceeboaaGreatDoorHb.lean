import Derived.Test.YtgohllfpceeboaaGreatDoorRha
import Derived.Test.YtgohllfpceeboaaGreatDoorHa
namespace Go.Proofs.YtgohllfpceeboaaGreatDoor
theorem okL_rune (c : Int) : okRune c = Sx.okL c := by
  unfold okRune isPl Sx.okL
  cases decide (128 ≤ c) <;> cases decide (97 ≤ c ∧ c ≤ 122) <;> cases decide (48 ≤ c ∧ c ≤ 57) <;> cases decide (c = 45) <;> rfl
theorem pre_hy (b : List UInt8) (h : b ≠ []) : prefixB b [45] = (b.getD 0 0 == 45) := by
  cases b with
  | nil => exact absurd rfl h
  | cons x r =>
    unfold prefixB
    simp only [List.length_cons, List.length_nil, Nat.zero_add, List.take_succ_cons, List.take_zero, List.getD_cons_zero]
    rw [show decide (1 ≤ r.length + 1) = true from by simp, Bool.true_and]
    by_cases e : x = 45 <;> simp [e]
theorem suf_hy (b : List UInt8) (h : b ≠ []) : suffixB b [45] = (b.getD (b.length - 1) 0 == 45) := by
  have hl : 0 < b.length := List.length_pos_iff.2 h
  unfold suffixB
  simp only [List.length_cons, List.length_nil, Nat.zero_add]
  rw [show decide (1 ≤ b.length) = true from by simp; omega, Bool.true_and, List.drop_eq_getElem_cons (by omega), List.drop_eq_nil_of_le (by omega), List.getD_eq_getElem?_getD, List.getElem?_eq_getElem (by omega), Option.getD_some]
  by_cases e : b[b.length - 1] = 45 <;> simp [e]
theorem formOk_eq (b : List UInt8) (h : b ≠ []) : Sx.formOk b = (decide (b.length ≤ 20) && (!prefixB b [45] && !suffixB b [45])) := by
  have hl : 0 < b.length := List.length_pos_iff.2 h
  unfold Sx.formOk
  rw [pre_hy b h, suf_hy b h, show decide (1 ≤ b.length) = true from by simp; omega, Bool.true_and, Bool.and_assoc]
theorem pre_xn (b : List UInt8) : prefixB b Sx.xn = (decide (4 ≤ b.length) && (b.take 4 == Sx.xn)) := rfl
theorem text_nil (m : List Int) : Sx.text m = [] ↔ m = [] := by
  constructor
  · intro h
    cases m with
    | nil => rfl
    | cons c m =>
      have e : Sx.text (c :: m) = Sx.utf c ++ Sx.text m := by simp [Sx.text]
      rw [e] at h
      have h2 : Sx.utf c = [] := (List.append_eq_nil_iff.1 h).1
      unfold Sx.utf at h2
      split at h2
      · cases h2
      · split at h2
        · cases h2
        · split at h2 <;> cases h2
  · rintro rfl; rfl
theorem label_right (p : List UInt8) (l : List Int) (hl : Sx.letters p = some l) (hp : p.length ≤ 60) : Sx.label l = if okP p then some (Sx.formOf (mP p)) else none := by
  obtain ⟨hm, hml, hmg, hmt⟩ := piece_facts p l hl hp
  unfold Sx.label okP rightB
  rw [← hm]
  obtain ⟨m, hmm⟩ : ∃ m, mP p = m := ⟨_, rfl⟩
  rw [hmm] at hml hmg ⊢
  have hall : m.all okRune = m.all Sx.okL := by congr 1; funext c; exact okL_rune c
  rw [hall]
  by_cases hn : m = []
  · subst hn
    simp [Sx.formOf, Sx.text, Sx.formOk]
  · have ht : Sx.text m ≠ [] := fun h => hn ((text_nil m).1 h)
    have hte : (Sx.text m).isEmpty = false := by
      cases h : Sx.text m with
      | nil => exact absurd h ht
      | cons => rfl
    rw [hte]
    have hr : ∀ c ∈ m, c ≤ 1114111 := fun c hc => (hmg c hc).2.1
    cases hf : (m.any fun c => decide (128 ≤ c)) with
    | true =>
      have hb : Sx.formOf m = Sx.xn ++ Sx.enc m := by unfold Sx.formOf; rw [hf, if_pos rfl]
      have hbn : Sx.formOf m ≠ [] := by rw [hb]; simp [Sx.xn]
      have hpx : prefixB (Sx.formOf m) Sx.xn = true := by
        rw [hb, pre_xn]
        have e : (Sx.xn ++ Sx.enc m).take 4 = Sx.xn := by rw [show 4 = Sx.xn.length from rfl, List.take_left]
        rw [e]; simp [Sx.xn]
      have hdr : (Sx.formOf m).drop 4 = Sx.enc m := by rw [hb, show 4 = Sx.xn.length from rfl, List.drop_left]
      rw [formOk_eq _ hbn]
      unfold markB
      rw [hpx, hdr]
      cases hA : m.all Sx.okL with
      | false => simp
      | true =>
        cases hL : decide ((Sx.formOf m).length ≤ 20) with
        | false => simp
        | true =>
          have hlen : (Sx.formOf m).length ≤ 20 := by simpa using hL
          rw [hb, List.length_append] at hlen
          have h4 : Sx.xn.length = 4 := rfl
          have hel := Sx.enc_lens m (by omega) hr
          have hco := Sx.codeOk_enc m (by omega) hmg hf
          rw [hco]
          simp
    | false =>
      have hb : Sx.formOf m = Sx.text m := by unfold Sx.formOf; rw [hf]; rfl
      have hbn : Sx.formOf m ≠ [] := by rw [hb]; exact ht
      rw [formOk_eq _ hbn]
      unfold markB
      rw [pre_xn]
      generalize decide (4 ≤ (Sx.formOf m).length) = x1
      generalize ((Sx.formOf m).take 4 == Sx.xn) = x2
      generalize Sx.codeOk ((Sx.formOf m).drop 4) = x3
      generalize decide ((Sx.formOf m).length ≤ 20) = x4
      generalize prefixB (Sx.formOf m) [45] = x5
      generalize suffixB (Sx.formOf m) [45] = x6
      generalize m.all Sx.okL = x7
      cases x1 <;> cases x2 <;> cases x3 <;> cases x4 <;> cases x5 <;> cases x6 <;> cases x7 <;> rfl
theorem shown_eq (p : List UInt8) (h : okP p = true) : shownB (Sx.formOf (mP p)) = Sx.shownOf (Sx.formOf (mP p)) := by
  unfold okP rightB at h
  simp only [Bool.and_eq_true] at h
  have hmk := h.2
  unfold markB at hmk
  unfold shownB Sx.shownOf
  cases hp : prefixB (Sx.formOf (mP p)) Sx.xn with
  | false =>
    rw [if_neg (by simp)]
    rw [pre_xn] at hp
    rw [if_neg]
    intro hc
    simp only [Bool.and_eq_true, decide_eq_true_eq] at hc
    rw [hc.2, show decide (4 ≤ (Sx.formOf (mP p)).length) = true from by simp; omega] at hp
    cases hp
  | true =>
    rw [if_pos rfl]
    rw [hp] at hmk
    have hco : Sx.codeOk ((Sx.formOf (mP p)).drop 4) = true := by simpa using hmk
    rw [pre_xn] at hp
    simp only [Bool.and_eq_true, decide_eq_true_eq] at hp
    have h5 : 4 < (Sx.formOf (mP p)).length := by
      by_cases e : (Sx.formOf (mP p)).length = 4
      · rw [List.drop_eq_nil_of_le (by omega)] at hco
        have : Sx.codeOk [] = false := by decide
        rw [this] at hco; cases hco
      · omega
    rw [if_pos (by simp only [Bool.and_eq_true, decide_eq_true_eq]; exact ⟨h5, hp.2⟩)]
    unfold Sx.letOf
    rw [hco, if_pos rfl]
end Go.Proofs.YtgohllfpceeboaaGreatDoor
