/- Plain mathematics of UTF-8: letters of a text, and back. -/
import Derived.Test.YtgohllfpceeboaaGreatDoorMg
import Derived.Laws.Cover4
namespace Sx
/-- A code point that UTF-8 may hold. -/
def Good (c : Int) : Prop := 0 ≤ c ∧ c ≤ 1114111 ∧ ¬ (55296 ≤ c ∧ c ≤ 57343)
theorem u8n (n : Int) (h0 : 0 ≤ n) (h : n < 256) : (UInt8.ofNat n.toNat).toNat = n.toNat := by
  simp only [UInt8.toNat_ofNat']; omega
theorem one_utf (c : Int) (r : List UInt8) (h : Good c) : one (utf c ++ r) = some (c, r) := by
  obtain ⟨h0, h1, h2⟩ := h
  unfold utf
  by_cases a1 : c < 128
  · rw [if_pos a1]
    have e := u8n c h0 (by omega)
    simp only [List.cons_append, List.nil_append, one, lead]
    rw [e, if_pos (by omega)]
    simp only [rest, contF]
    rw [if_neg (by omega)]
    simp; omega
  · rw [if_neg a1]
    by_cases a2 : c < 2048
    · rw [if_pos a2]
      have e1 := u8n (192 + c / 64) (by omega) (by omega)
      have e2 := u8n (128 + c % 64) (by omega) (by omega)
      simp only [List.cons_append, List.nil_append, one, lead]
      rw [e1, if_neg (by omega), if_pos (by omega)]
      simp only [rest, contF]
      rw [e2, if_pos (by omega)]
      simp only
      rw [if_neg (by omega)]
      congr 2; omega
    · rw [if_neg a2]
      by_cases a3 : c < 65536
      · rw [if_pos a3]
        have e1 := u8n (224 + c / 4096) (by omega) (by omega)
        have e2 := u8n (128 + c / 64 % 64) (by omega) (by omega)
        have e3 := u8n (128 + c % 64) (by omega) (by omega)
        simp only [List.cons_append, List.nil_append, one, lead]
        rw [e1, if_neg (by omega), if_neg (by omega), if_pos (by omega)]
        simp only [rest, contF]
        rw [e2, if_pos (by omega), e3, if_pos (by omega)]
        simp only
        rw [if_neg (by omega)]
        congr 2; omega
      · rw [if_neg a3]
        have e1 := u8n (240 + c / 262144) (by omega) (by omega)
        have e2 := u8n (128 + c / 4096 % 64) (by omega) (by omega)
        have e3 := u8n (128 + c / 64 % 64) (by omega) (by omega)
        have e4 := u8n (128 + c % 64) (by omega) (by omega)
        simp only [List.cons_append, List.nil_append, one, lead]
        rw [e1, if_neg (by omega), if_neg (by omega), if_neg (by omega), if_pos (by omega)]
        simp only [rest, contF]
        rw [e2, if_pos (by omega), e3, if_pos (by omega), e4, if_pos (by omega)]
        simp only
        rw [if_neg (by omega)]
        congr 2; omega
theorem letters_text : ∀ (m : List Int), (∀ c ∈ m, Good c) → letters (text m) = some m := by
  intro m
  induction m with
  | nil => intro _; rfl
  | cons c m ih =>
    intro h
    have e : text (c :: m) = utf c ++ text m := by simp [text]
    rw [e, letters_some _ c (text m) (one_utf c _ (h c (List.mem_cons_self ..))), ih (fun x hx => h x (List.mem_cons_of_mem _ hx))]
    rfl
theorem encode_utf (c : Int) (h : Good c) : Go.Utf8.encode c = ⟨(utf c).toArray⟩ := by
  obtain ⟨h0, h1, h2⟩ := h
  have hv : Go.Utf8.valid c = true := by unfold Go.Utf8.valid; simp; omega
  unfold Go.Utf8.encode utf
  simp only [hv, if_true]
  by_cases a1 : c < 128
  · rw [if_pos (by omega), if_pos a1]
  · rw [if_neg (by omega), if_neg a1]
    by_cases a2 : c < 2048
    · rw [if_pos (by omega), if_pos a2, show (192 + c / 64).toNat = 192 + c.toNat / 64 from by omega, show (128 + c % 64).toNat = 128 + c.toNat % 64 from by omega]
    · rw [if_neg (by omega), if_neg a2]
      by_cases a3 : c < 65536
      · rw [if_pos (by omega), if_pos a3, show (224 + c / 4096).toNat = 224 + c.toNat / 4096 from by omega, show (128 + c / 64 % 64).toNat = 128 + c.toNat / 64 % 64 from by omega, show (128 + c % 64).toNat = 128 + c.toNat % 64 from by omega]
      · rw [if_neg (by omega), if_neg a3, show (240 + c / 262144).toNat = 240 + c.toNat / 262144 from by omega, show (128 + c / 4096 % 64).toNat = 128 + c.toNat / 4096 % 64 from by omega, show (128 + c / 64 % 64).toNat = 128 + c.toNat / 64 % 64 from by omega, show (128 + c % 64).toNat = 128 + c.toNat % 64 from by omega]
theorem runes_text (m : List Int) (h : ∀ c ∈ m, Good c) : Go.runesBytes m = ⟨(text m).toArray⟩ := by
  have key : ∀ (m : List Int) (acc : List UInt8), (∀ c ∈ m, Good c) → m.foldl (fun r n => r ++ Go.Utf8.encode n) (⟨acc.toArray⟩ : ByteArray) = ⟨(acc ++ text m).toArray⟩ := by
    intro m
    induction m with
    | nil => intro acc _; simp [text]
    | cons c m ih =>
      intro acc hm
      rw [List.foldl_cons, encode_utf c (hm c (List.mem_cons_self ..))]
      have e : (⟨acc.toArray⟩ : ByteArray) ++ ⟨(utf c).toArray⟩ = ⟨(acc ++ utf c).toArray⟩ := by apply ByteArray.ext; simp
      rw [e, ih _ (fun x hx => hm x (List.mem_cons_of_mem _ hx))]
      simp [text]
  have := key m [] h
  unfold Go.runesBytes
  exact this
end Sx
