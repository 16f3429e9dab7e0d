import Derived.Test.YtgohllfpceeboaaGreatDoorHb
namespace Go.Proofs.YtgohllfpceeboaaGreatDoor
theorem decodeN_good (n b0 b1 b2 b3 : Nat) (h0 : b0 < 256) : Sx.Good ((Lib.decodeN n b0 b1 b2 b3).1 : Int) := by
  unfold Lib.decodeN Sx.Good
  split
  · simp only; omega
  · split
    · split <;> (simp only; omega)
    · split
      · split <;> (simp only; omega)
      · split
        · split <;> (simp only; omega)
        · simp only; omega
theorem enc_rune (c : Int) (h : Sx.Good c) : Lib.encodeRune c = Sx.utf c := by
  obtain ⟨h0, h1, h2⟩ := h
  unfold Lib.encodeRune Lib.encodeRuneZ Sx.utf
  by_cases a1 : c < 128
  · rw [if_pos (by omega), if_pos a1]; rfl
  · rw [if_neg (by omega), if_neg a1]
    by_cases a2 : c < 2048
    · rw [if_pos (by omega), if_pos a2]; rfl
    · rw [if_neg (by omega), if_neg a2]
      by_cases a3 : c < 65536
      · rw [if_pos (by omega), if_pos a3]; rfl
      · rw [if_neg (by omega), if_pos (by omega), if_neg a3]; rfl
theorem one_of_decode (l : List UInt8) (hne : l ≠ []) (hv : ¬ ((Lib.decodeL l).1 = 65533 ∧ (Lib.decodeL l).2 = 1)) : ∃ c r, Sx.one l = some (c, r) := by
  have he := Lib.encode_decode l hne hv
  have hg : Sx.Good ((Lib.decodeL l).1 : Int) := by
    unfold Lib.decodeL
    rw [Lib.decode_at]
    exact decodeN_good _ _ _ _ _ (UInt8.toNat_lt _)
  have hu : Lib.encodeRune ((Lib.decodeL l).1 : Int) = Sx.utf ((Lib.decodeL l).1 : Int) := enc_rune _ hg
  rw [hu] at he
  have hl : l = Sx.utf ((Lib.decodeL l).1 : Int) ++ l.drop (Lib.decodeL l).2 := by rw [he, List.take_append_drop]
  refine ⟨((Lib.decodeL l).1 : Int), l.drop (Lib.decodeL l).2, ?_⟩
  have := Sx.one_utf ((Lib.decodeL l).1 : Int) (l.drop (Lib.decodeL l).2) hg
  rw [← hl] at this
  exact this
theorem valid_letters : ∀ (n : Nat) (l : List UInt8), l.length ≤ n → Lib.validD l = (Sx.letters l).isSome := by
  intro n
  induction n with
  | zero =>
    intro l h
    have : l = [] := List.eq_nil_of_length_eq_zero (by omega)
    subst this; rfl
  | succ n ih =>
    intro l h
    by_cases hne : l = []
    · subst hne; rfl
    · rw [Lib.validD_step l hne]
      cases ho : Sx.one l with
      | none =>
        rw [Sx.letters_none l hne ho]
        by_cases hv : (Lib.decodeL l).1 = 65533 ∧ (Lib.decodeL l).2 = 1
        · rw [if_pos hv]; rfl
        · obtain ⟨c, r, h2⟩ := one_of_decode l hne hv
          rw [ho] at h2; cases h2
      | some p =>
        obtain ⟨c, r⟩ := p
        have e : (⟨l.toArray⟩ : ByteArray).data.toList = l := rfl
        obtain ⟨d1, d2, d3, d4, d5, d6, d7⟩ := Sx.decode_one ⟨l.toArray⟩ 0 c r (by rw [List.drop_zero, e]; exact ho)
        rw [e] at d1 d2 d3 d7
        have hdl : Lib.decodeL l = (c.toNat, l.length - 0 - r.length) := d1
        rw [List.drop_zero] at d7
        have hul : (Sx.utf c).length = l.length - 0 - r.length := by rw [d7, List.length_take]; omega
        rw [hdl]
        simp only
        rw [if_neg (fun hb => by
          have hc : c = 65533 := by omega
          rw [hc] at hul
          have : (Sx.utf 65533).length = 3 := by decide
          omega)]
        have hdr : l.drop (l.length - 0 - r.length) = r := by rw [Nat.sub_zero]; exact d2.symm
        rw [hdr, ih r (by omega), Sx.letters_some l c r ho]
        cases Sx.letters r <;> rfl
theorem dotted_all (h : List (List UInt8)) (hn : h ≠ []) : (Sx.dotted h).length + 1 = Sx.allLen h := by
  cases h with
  | nil => exact absurd rfl hn
  | cons y r =>
    have : ∀ r : List (List UInt8), (r.flatMap fun y => 46 :: y).length = Sx.allLen r := by
      intro r
      induction r with
      | nil => rfl
      | cons z r ih => simp only [List.flatMap_cons, List.length_append, List.length_cons, ih, Sx.allLen, List.map_cons, List.sum_cons]
    simp only [Sx.dotted, List.length_append, this, Sx.allLen, List.map_cons, List.sum_cons]
    omega
theorem allSome_map {α : Type} (f : α → Bool) (g : α → List UInt8) : ∀ (q : List α), Sx.allSome (q.map fun x => if f x then some (g x) else none) = if q.all f then some (q.map g) else none := by
  intro q
  induction q with
  | nil => rfl
  | cons x q ih =>
    rw [List.map_cons, List.all_cons]
    cases h : f x with
    | false => simp [Sx.allSome]
    | true =>
      simp only [if_true, Sx.allSome]
      rw [ih]
      cases q.all f with
      | true => simp
      | false => simp
/-- What the pieces are. -/
theorem pieces_are (s : ByteArray) (l : List Int) (hl : Sx.letters s.data.toList = some l) : (pcs s.data.toList).reverse = (Sx.splL l []).map Sx.text ∧ (∀ q ∈ Sx.splL l [], ∀ c ∈ q, Sx.Good c) ∧ ∀ p ∈ pcs s.data.toList, (∃ l, Sx.letters p = some l) ∧ p.length ≤ s.size := by
  obtain ⟨h1, h2⟩ := letters_is s l hl
  have hr := pcs_rev s.data.toList.length s.data.toList (Nat.le_refl _)
  have hs := Sx.splB_text l [] h2
  rw [h1, show Sx.text [] = [] from rfl, ← hr] at hs
  have hg : ∀ q ∈ Sx.splL l [], ∀ c ∈ q, Sx.Good c := fun q hq c hc => by
    rcases Sx.splL_mem l [] q hq c hc with h | h
    · cases h
    · exact h2 c h
  refine ⟨hs, hg, fun p hp => ?_⟩
  have hp2 : p ∈ (pcs s.data.toList).reverse := List.mem_reverse.2 hp
  constructor
  · rw [hs] at hp2
    obtain ⟨q, hq, rfl⟩ := List.mem_map.1 hp2
    exact ⟨q, Sx.letters_text q (hg q hq)⟩
  · rw [hr] at hp2
    have := Sx.splB_len _ _ p hp2
    rw [ba_len] at this
    simpa using this
theorem host_eq (s : ByteArray) (l : List Int) (hl : Sx.letters s.data.toList = some l) (hs : s.size ≤ 60) :
    Sx.host s.data.toList = if hostOk (pcs s.data.toList) then ((pcs s.data.toList).reverse.map (fun p => Sx.formOf (mP p)), 0) else ([], 2) := by
  obtain ⟨h1, h2, h3⟩ := pieces_are s l hl
  obtain ⟨P, hP⟩ : ∃ P, pcs s.data.toList = P := ⟨_, rfl⟩
  rw [hP] at h1 h3 ⊢
  have hgo : Sx.hostGo l [] = if P.all okP then some (P.reverse.map fun p => Sx.formOf (mP p)) else none := by
    rw [Sx.hostGo_spl]
    have e : (Sx.splL l []).map Sx.label = (Sx.splL l []).map fun q => if okP (Sx.text q) then some (Sx.formOf (mP (Sx.text q))) else none := by
      refine List.map_congr_left (fun q hq => ?_)
      have hm : Sx.text q ∈ P := by
        rw [← List.mem_reverse, h1]
        exact List.mem_map_of_mem hq
      exact label_right (Sx.text q) q (Sx.letters_text q (h2 q hq)) (by have := (h3 _ hm).2; omega)
    rw [e, allSome_map (fun q => okP (Sx.text q)) (fun q => Sx.formOf (mP (Sx.text q)))]
    have e2 : (Sx.splL l []).all (fun q => okP (Sx.text q)) = P.all okP := by
      rw [← List.all_reverse (l := P), h1, List.all_map]; rfl
    have e3 : (Sx.splL l []).map (fun q => Sx.formOf (mP (Sx.text q))) = P.reverse.map fun p => Sx.formOf (mP p) := by
      rw [h1, List.map_map]; rfl
    rw [e2, e3]
  have hPn : 0 < P.length := by
    rw [← hP]; unfold pcs
    cases s.data.toList.length with
    | zero => simp [pcsF]
    | succ m => simp only [pcsF]; split <;> simp
  unfold Sx.host
  rw [if_neg (by rw [ba_len]; omega), hl]
  simp only
  rw [hgo]
  have hH : (hostL P).map (fun x => x.2.data.toList) = P.reverse.map fun p => Sx.formOf (mP p) := by
    unfold hostL
    rw [List.map_reverse, List.map_map, List.map_reverse]; rfl
  unfold hostOk
  rw [hH]
  cases ha : P.all okP with
  | false => simp
  | true =>
    simp only [if_true, Bool.and_true]
    obtain ⟨H, hHd⟩ : ∃ H, P.reverse.map (fun p => Sx.formOf (mP p)) = H := ⟨_, rfl⟩
    have hHl : H.length = P.length := by rw [← hHd]; simp
    have hHn : H ≠ [] := fun e => by rw [e] at hHl; simp at hHl; omega
    have hlast : H.getD (H.length - 1) [] = Sx.formOf (mP (P.getD 0 [])) := by
      rw [hHl, ← hHd, List.getD_eq_getElem?_getD, List.getElem?_map, List.getElem?_reverse (by omega), show P.length - 1 - (P.length - 1) = 0 from by omega, List.getD_eq_getElem?_getD, List.getElem?_eq_getElem hPn]
      rfl
    rw [hHd]
    unfold Sx.hostEnd
    rw [hlast, hHl]
    have hda := dotted_all H hHn
    cases hd : Sx.digs (Sx.formOf (mP (P.getD 0 []))) with
    | true => simp
    | false =>
      by_cases c1 : P.length ≤ 6
      · by_cases c2 : (Sx.dotted H).length ≤ 60
        · rw [if_neg (by simp; omega), if_pos (by simp; omega)]
        · rw [if_pos (by simp; omega), if_neg (by simp; omega)]
      · rw [if_pos (by simp; omega), if_neg (by simp; omega)]
end Go.Proofs.YtgohllfpceeboaaGreatDoor
