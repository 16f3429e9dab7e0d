import Derived.Test.YtgohllfpceeboaaGreatDoorPrgK
import Derived.Test.YtgohllfpceeboaaGreatDoorPrgM
namespace Go.Proofs.YtgohllfpceeboaaGreatDoor
open Go.RowKit
attribute [local go_sem ↓] Go.wp_at_zero Go.wp_at_succ
theorem letters_back (s : ByteArray) : ∀ (n pos : Nat) (l : List Int), Sx.letters (s.data.toList.drop pos) = some l → s.size - pos ≤ n → pos ≤ s.size → Sx.text l = s.data.toList.drop pos ∧ ∀ c ∈ l, Sx.Good c := by
  intro n
  induction n with
  | zero =>
    intro pos l h hb hp
    rw [List.drop_eq_nil_of_le (by rw [ba_len]; omega)] at h ⊢
    rw [Sx.letters_nil] at h
    cases h
    exact ⟨rfl, fun c hc => by cases hc⟩
  | succ n ih =>
    intro pos l h hb hp
    by_cases hlt : pos < s.size
    · obtain ⟨c, m, l2, hd, rfl, hc0, hc1, hsur, hn1, hn2, hq2, hu⟩ := Sx.step_rune s pos l h hlt
      obtain ⟨i1, i2⟩ := ih (pos + m) l2 hq2 (by omega) hn2
      refine ⟨?_, fun x hx => ?_⟩
      · have e : Sx.text (c :: l2) = Sx.utf c ++ Sx.text l2 := by simp [Sx.text]
        rw [e, hu, i1, ← List.drop_drop, List.take_append_drop]
      · rcases List.mem_cons.1 hx with rfl | hx
        · exact ⟨hc0, hc1, hsur⟩
        · exact i2 x hx
    · rw [List.drop_eq_nil_of_le (by rw [ba_len]; omega)] at h ⊢
      rw [Sx.letters_nil] at h
      cases h
      exact ⟨rfl, fun c hc => by cases hc⟩
theorem letters_is (s : ByteArray) (l : List Int) (h : Sx.letters s.data.toList = some l) : Sx.text l = s.data.toList ∧ ∀ c ∈ l, Sx.Good c := by
  have := letters_back s s.size 0 l (by rw [List.drop_zero]; exact h) (by omega) (by omega)
  rw [List.drop_zero] at this
  exact this
theorem low_hi (x : Int) (h0 : 128 ≤ x) (h1 : x < 256) : lowB (UInt8.ofNat x.toNat) = UInt8.ofNat x.toNat := by
  unfold lowB
  rw [Sx.u8n x (by omega) h1, if_neg (by omega)]
theorem low_utf (c : Int) (h : Sx.Good c) : (Sx.utf c).map lowB = Sx.utf (Sx.lower c) := by
  obtain ⟨h0, h1, h2⟩ := h
  by_cases a1 : c < 128
  · have e1 : Sx.utf c = [UInt8.ofNat c.toNat] := by unfold Sx.utf; rw [if_pos a1]
    have e2 : Sx.utf (Sx.lower c) = [UInt8.ofNat (Sx.lower c).toNat] := by unfold Sx.utf; rw [if_pos (by unfold Sx.lower; split <;> omega)]
    rw [e1, e2, List.map_cons, List.map_nil]
    unfold lowB Sx.lower
    rw [Sx.u8n c h0 (by omega)]
    by_cases a2 : 65 ≤ c ∧ c ≤ 90
    · rw [if_pos (by omega), if_pos a2, show (c + 32).toNat = c.toNat + 32 from by omega]
    · rw [if_neg (by omega), if_neg a2]
  · have e : Sx.lower c = c := by unfold Sx.lower; rw [if_neg (by omega)]
    rw [e]
    unfold Sx.utf
    rw [if_neg a1]
    by_cases a2 : c < 2048
    · rw [if_pos a2]
      simp only [List.map_cons, List.map_nil]
      rw [low_hi _ (by omega) (by omega), low_hi _ (by omega) (by omega)]
    · rw [if_neg a2]
      by_cases a3 : c < 65536
      · rw [if_pos a3]
        simp only [List.map_cons, List.map_nil]
        rw [low_hi _ (by omega) (by omega), low_hi _ (by omega) (by omega), low_hi _ (by omega) (by omega)]
      · rw [if_neg a3]
        simp only [List.map_cons, List.map_nil]
        rw [low_hi _ (by omega) (by omega), low_hi _ (by omega) (by omega), low_hi _ (by omega) (by omega), low_hi _ (by omega) (by omega)]
theorem low_text : ∀ (l : List Int), (∀ c ∈ l, Sx.Good c) → (Sx.text l).map lowB = Sx.text (l.map Sx.lower) := by
  intro l
  induction l with
  | nil => intro _; rfl
  | cons c l ih =>
    intro h
    have e : ∀ x (r : List Int), Sx.text (x :: r) = Sx.utf x ++ Sx.text r := fun x r => by simp [Sx.text]
    rw [List.map_cons, e, e, List.map_append, low_utf c (h c (List.mem_cons_self ..)), ih (fun x hx => h x (List.mem_cons_of_mem _ hx))]
theorem good_lower (c : Int) (h : Sx.Good c) : Sx.Good (Sx.lower c) := by
  unfold Sx.Good Sx.lower at *
  split <;> omega
theorem encWays_len (l : List Int) (hl : l.length ≤ 100) (hr : ∀ c ∈ l, c ≤ 1114111) : ∀ (todo done : List Nat), Sx.ord l = done ++ todo → ∀ (n i bias : Int) (first : Bool), 128 ≤ n → -1 ≤ i → (Sx.encWays (todo.map (Sx.wayAt l)) bias n i (((Sx.plainOf l).length + done.length : Nat) : Int) first).length ≤ todo.length * 113000001 := by
  intro todo
  induction todo with
  | nil => intro done _ n i bias first _ _; simp [Sx.encWays]
  | cons c0 todo ih =>
    intro done ho n i bias first hn hi
    obtain ⟨hcl, hcf, _⟩ := Sx.flags_todo l done (c0 :: todo) ho c0 (List.mem_cons_self ..)
    have hlm : l.getD c0 0 ≤ 1114111 := by
      have := hr l[c0] (List.getElem_mem hcl)
      simpa [List.getElem?_eq_getElem hcl] using this
    have hst := Sx.stand_le_put l done todo c0 ho
    have hpo := Sx.plain_ord l
    have hdl := congrArg List.length ho
    rw [List.length_append, List.length_cons] at hdl
    have hle := Sx.passed_le (l.getD c0 0) n (Sx.stand l c0) i (((Sx.plainOf l).length + done.length : Nat) : Int) hlm hn hi (by omega) (by omega) (by omega)
    have hw := Sx.writ_len _ 0 bias hle.2
    have h2 := ih (done ++ [c0]) (by rw [ho]; simp) (l.getD c0 0) (Sx.stand l c0) (Sx.after ((l.getD c0 0 - n) * ((((Sx.plainOf l).length + done.length : Nat) : Int) + 1) + (Sx.stand l c0 : Int) - (i + 1)) ((((Sx.plainOf l).length + done.length : Nat) : Int) + 1) first) false (by omega) (by omega)
    rw [List.length_append, List.length_cons, List.length_nil, show (((Sx.plainOf l).length + (done.length + (0 + 1)) : Nat) : Int) = (((Sx.plainOf l).length + done.length : Nat) : Int) + 1 from by omega] at h2
    simp only [List.map_cons, Sx.wayAt, Sx.encWays, List.length_append, List.length_cons] at h2 ⊢
    omega
theorem enc_len (l : List Int) (hl : l.length ≤ 100) (hr : ∀ c ∈ l, c ≤ 1114111) : (Sx.enc l).length ≤ 20000000000 := by
  have h1 := encWays_len l hl hr (Sx.ord l) [] rfl 128 (-1) 72 true (by omega) (by omega)
  have h2 := Sx.head_len l hl
  have h3 := Sx.plain_ord l
  unfold Sx.enc
  rw [List.length_append]
  simp only [List.length_nil, Nat.add_zero] at h1
  have h4 : (Sx.ord l).length * 113000001 ≤ 100 * 113000001 := Nat.mul_le_mul_right _ (by omega)
  omega
/-- A box of two cells that may be written. -/
def Box2 (w : World) (b : Nat) (x y : Value) : Prop := b < w.heap.size ∧ w.cell? ⟨b, 0, none⟩ = some x ∧ w.cell? ⟨b, 1, none⟩ = some y ∧ w.frozen? ⟨b, 0, none⟩ = false ∧ w.frozen? ⟨b, 1, none⟩ = false
theorem Box2.below {w w' : World} {b : Nat} {x y : Value} (h : Box2 w b x y) (hb : Below w.heap.size w w') : Box2 w' b x y :=
  ⟨Nat.lt_of_lt_of_le h.1 hb.size, (hb.cell (p := ⟨b, 0, none⟩) h.1).trans h.2.1, (hb.cell (p := ⟨b, 1, none⟩) h.1).trans h.2.2.1, (hb.frozen (p := ⟨b, 0, none⟩) h.1).trans h.2.2.2.1, (hb.frozen (p := ⟨b, 1, none⟩) h.1).trans h.2.2.2.2⟩
theorem box2_new (w : World) (x y : Value) (t : TypeId) : Box2 (w.alloc (.cells #[x, y] t)) w.heap.size x y :=
  ⟨by rw [World.size_alloc]; exact Nat.lt_succ_self _, by rw [World.cell?_alloc_mark]; rfl, by rw [World.cell?_alloc_mark]; rfl, frozen_new w _ t 0, frozen_new w _ t 1⟩
set_option maxRecDepth 100000 in
set_option maxHeartbeats 1000000 in
/-- suffix.newLabel -/
theorem pnl_any (s : ByteArray) (l : List Int) (w : World) (hl : Sx.letters s.data.toList = some l) (hs : s.size ≤ 60) :
    Calls Tryz.prog 112 #[.string s] w fun e w' => e = .returned (.agg #[.string ⟨(Sx.text (l.map Sx.lower)).toArray⟩, .string ⟨(Sx.formOf (l.map Sx.lower)).toArray⟩]) ∧ Below w.heap.size w w' := by
  obtain ⟨ht, hg⟩ := letters_is s l hl
  have hlow := low_text l hg
  have hgm : ∀ c ∈ l.map Sx.lower, Sx.Good c := fun c hc => by
    obtain ⟨x, hx, rfl⟩ := List.mem_map.1 hc
    exact good_lower x (hg x hx)
  have hlt := Sx.letters_text _ hgm
  have hws := fun w => pws_any s w (by omega)
  rw [← ht, hlow] at hws
  have hlen : (Sx.text (l.map Sx.lower)).length = s.size := by rw [← hlow, List.length_map, ht, ba_len]
  obtain ⟨m, hm⟩ : ∃ m, l.map Sx.lower = m := ⟨_, rfl⟩
  rw [hm] at hgm hlt hws hlen ⊢
  obtain ⟨A, hA⟩ : ∃ A : ByteArray, ⟨(Sx.text m).toArray⟩ = A := ⟨_, rfl⟩
  have hAl : A.data.toList = Sx.text m := by rw [← hA]
  have hAz : A.size ≤ 60 := by rw [← ba_len, hAl]; omega
  rw [hA] at hws ⊢
  have hAm : Sx.letters A.data.toList = some m := by rw [hAl]; exact hlt
  obtain ⟨hrg, hcnt⟩ := letters_range A.size A 0 m (by rw [List.drop_zero]; exact hAm) (by omega) (by omega)
  obtain ⟨f, hf⟩ : ∃ f, (m.any fun c => decide (128 ≤ c)) = f := ⟨_, rfl⟩
  have hform : Sx.formOf m = if f then Sx.xn ++ Sx.enc m else Sx.text m := by unfold Sx.formOf; rw [hf]
  have hB0 : Below w.heap.size w (w.alloc (.cells #[.string ⟨#[]⟩, .string ⟨#[]⟩] 86)) := (Below.refl _ _).alloc (Nat.le_refl _) _
  have HWS := hide hws
  have HAM := hide hAm
  have HF := hide hf
  have HFO := hide hform
  have HA := hide hA
  have HCN := hide hcnt
  have HRG := hide hrg
  clear hws hAm hf hform hA hcnt hrg hAl hlen hlt hgm hm hlow hg ht hl
  have hx0 := box2_new w (.string ⟨#[]⟩) (.string ⟨#[]⟩) 86
  go_enter Tryz.func112, Tryz.ntmps112
  cases f with
  | false =>
    go_wp2_with (first | (go_at_call 161; go_must (refine (HWS.out _).mono ?_; rintro e w2 ⟨rfl, hB2⟩; have hx2 := hx0.below hB2; clear hx0)) | (go_at_call 127; go_must (refine (pcf_any A m _ HAM.out (by omega)).mono ?_; rintro e w3 ⟨rfl, hB3⟩; rw [HF.out]; have hx3 := hx2.below hB3; obtain ⟨y0, y1, y2, y3, y4⟩ := hx3)))
    have z0 : ((w3.setCell ⟨w.heap.size, 0, none⟩ (.string A)).setCell ⟨w.heap.size, 1, none⟩ (.string A)).cell? ⟨w.heap.size, 0, none⟩ = some (.string A) := by rw [World.cell?_setCell_other _ _ _ _ (by simp), World.cell?_setCell_same _ _ _ y1]
    have z1 : ((w3.setCell ⟨w.heap.size, 0, none⟩ (.string A)).setCell ⟨w.heap.size, 1, none⟩ (.string A)).cell? ⟨w.heap.size, 1, none⟩ = some (.string A) := by rw [World.cell?_setCell_same _ _ _ ((World.cell?_setCell_other _ _ _ _ (by simp)).trans y2)]
    have hBf : Below w.heap.size w ((w3.setCell ⟨w.heap.size, 0, none⟩ (.string A)).setCell ⟨w.heap.size, 1, none⟩ (.string A)) := (((hB0.trans (hB2.mono hB0.size)).trans (hB3.mono (Nat.le_trans hB0.size hB2.size))).setCell (p := ⟨w.heap.size, 0, none⟩) (Nat.le_refl _) _).setCell (p := ⟨w.heap.size, 1, none⟩) (Nat.le_refl _) _
    exact bodyPost_ret (v := .agg #[.string A, .string A]) (by simp [results, Tryz.results112, go_sem, z0, z1]) rfl ⟨by rw [HFO.out, if_neg (by decide), HA.out], hBf⟩
  | true =>
    have hof := fun w => pof_any A m w HAM.out (by omega) (ways_some m HF.out) (by rw [ways_count]; have h1 := HCN.out; have h2 := List.length_filter_le (fun c => decide (128 ≤ c)) m; omega)
    obtain ⟨E, hE⟩ : ∃ E : ByteArray, ⟨(Sx.enc m).toArray⟩ = E := ⟨_, rfl⟩
    have hez : E.size ≤ 20000000000 := by rw [← ba_len, ← hE]; exact enc_len m (by have := HCN.out; omega) (fun c hc => (HRG.out c hc).2)
    rw [hE] at hof
    have HOF := hide hof
    have HE := hide hE
    clear hof hE
    go_wp2_with (first | (go_at_call 161; go_must (refine (HWS.out _).mono ?_; rintro e w2 ⟨rfl, hB2⟩; have hx2 := hx0.below hB2; clear hx0)) | (go_at_call 127; go_must (refine (pcf_any A m _ HAM.out (by omega)).mono ?_; rintro e w3 ⟨rfl, hB3⟩; rw [HF.out]; have hx3 := hx2.below hB3; clear hx2)) | (go_at_call 129; go_must (refine (HOF.out _).mono ?_; rintro e w4 ⟨rfl, hB4⟩; have hx4 := hx3.below hB4; obtain ⟨y0, y1, y2, y3, y4⟩ := hx4)))
    have z0 : ((w4.setCell ⟨w.heap.size, 0, none⟩ (.string A)).setCell ⟨w.heap.size, 1, none⟩ (.string (⟨#[120, 110, 45, 45]⟩ ++ E))).cell? ⟨w.heap.size, 0, none⟩ = some (.string A) := by rw [World.cell?_setCell_other _ _ _ _ (by simp), World.cell?_setCell_same _ _ _ y1]
    have z1 : ((w4.setCell ⟨w.heap.size, 0, none⟩ (.string A)).setCell ⟨w.heap.size, 1, none⟩ (.string (⟨#[120, 110, 45, 45]⟩ ++ E))).cell? ⟨w.heap.size, 1, none⟩ = some (.string (⟨#[120, 110, 45, 45]⟩ ++ E)) := by rw [World.cell?_setCell_same _ _ _ ((World.cell?_setCell_other _ _ _ _ (by simp)).trans y2)]
    have hBf : Below w.heap.size w ((w4.setCell ⟨w.heap.size, 0, none⟩ (.string A)).setCell ⟨w.heap.size, 1, none⟩ (.string (⟨#[120, 110, 45, 45]⟩ ++ E))) := ((((hB0.trans (hB2.mono hB0.size)).trans (hB3.mono (Nat.le_trans hB0.size hB2.size))).trans (hB4.mono (Nat.le_trans hB0.size (Nat.le_trans hB2.size hB3.size)))).setCell (p := ⟨w.heap.size, 0, none⟩) (Nat.le_refl _) _).setCell (p := ⟨w.heap.size, 1, none⟩) (Nat.le_refl _) _
    exact bodyPost_ret (v := .agg #[.string A, .string (⟨#[120, 110, 45, 45]⟩ ++ E)]) (by simp [results, Tryz.results112, go_sem, z0, z1]) rfl ⟨by rw [HFO.out, if_pos trivial, ← HE.out, show (#[120, 110, 45, 45] : Array UInt8) = Sx.xn.toArray from rfl, ba_app], hBf⟩
def digitsB : List UInt8 := [48, 49, 50, 51, 52, 53, 54, 55, 56, 57]
set_option maxRecDepth 100000 in
theorem digit_mem (c : UInt8) : digitsB.contains c = (decide (48 ≤ c.toNat) && decide (c.toNat ≤ 57)) := by
  revert c
  have h : ∀ n : Fin 256, digitsB.contains (UInt8.ofNat n.val) = (decide (48 ≤ (UInt8.ofNat n.val).toNat) && decide ((UInt8.ofNat n.val).toNat ≤ 57)) := by decide
  intro c
  have := h ⟨c.toNat, c.toNat_lt⟩
  simpa using this
theorem dropWhile_nil {α : Type} (p : α → Bool) : ∀ (l : List α), (l.dropWhile p = [] ↔ l.all p = true) := by
  intro l
  induction l with
  | nil => simp
  | cons x l ih =>
    rw [List.dropWhile_cons, List.all_cons]
    cases h : p x with
    | true => simpa using ih
    | false => simp
theorem dropWhile_head {α : Type} (p : α → Bool) : ∀ (l : List α) (x : α) (r : List α), l.dropWhile p = x :: r → p x = false := by
  intro l
  induction l with
  | nil => intro x r h; simp at h
  | cons y l ih =>
    intro x r h
    rw [List.dropWhile_cons] at h
    cases hp : p y with
    | true => rw [hp, if_pos rfl] at h; exact ih x r h
    | false =>
      rw [hp, if_neg (by simp)] at h
      cases h; exact hp
theorem trim_digits (l : List UInt8) : (Lib.trimS l digitsB = [] ↔ Sx.digs l = true) := by
  have e : Sx.digs l = l.all (digitsB.contains ·) := by
    unfold Sx.digs
    congr 1
    funext c
    rw [digit_mem]
  rw [e]
  unfold Lib.trimS Lib.trimRightS Lib.trimLeftS
  have e2 : l.all (digitsB.contains ·) = l.reverse.all (digitsB.contains ·) := List.all_reverse.symm
  rw [e2, dropWhile_nil, List.all_reverse]
  constructor
  · intro h2
    cases h3 : List.dropWhile (digitsB.contains ·) l.reverse with
    | nil => exact (dropWhile_nil _ _).1 h3
    | cons x r =>
      rw [h3, List.all_cons, dropWhile_head _ _ _ _ h3] at h2
      exact absurd h2 (by simp)
  · intro h
    rw [(dropWhile_nil _ _).2 h]; rfl
set_option maxRecDepth 100000 in
set_option maxHeartbeats 1000000 in
/-- (suffix.label).isOfDigits -/
theorem pdg_any (a b : ByteArray) (w : World) (hb : b.size ≤ 1000000) :
    Calls Tryz.prog 114 #[.agg #[.string a, .string b]] w fun e w' => e = .returned (.bool (Sx.digs b.data.toList)) ∧ Below w.heap.size w w' := by
  have hcon := fun w => Any.strings_Trim_laid Tryz.layTrim (by kernel_rfl) b ⟨#[48, 49, 50, 51, 52, 53, 54, 55, 56, 57]⟩ w (by omega) (by decide) (ascii_of_all (by decide))
  obtain ⟨r, hr⟩ : ∃ r : ByteArray, ⟨(Lib.trimS b.data.toList digitsB).toArray⟩ = r := ⟨_, rfl⟩
  have hc2 : ∀ w, Calls Tryz.prog 167 #[.string b, .string ⟨#[48, 49, 50, 51, 52, 53, 54, 55, 56, 57]⟩] w fun e w' => e = .returned (.string r) ∧ Below w.heap.size w w' := fun w => by
    have := hcon w
    rw [← hr]
    exact this
  have hre : r.toList.isEmpty = Sx.digs b.data.toList := by
    rw [ByteArray.toList_eq, ← hr]
    show (Lib.trimS b.data.toList digitsB).isEmpty = _
    have := trim_digits b.data.toList
    cases hd : Sx.digs b.data.toList with
    | true => rw [this.2 hd]; rfl
    | false =>
      cases ht : Lib.trimS b.data.toList digitsB with
      | nil => rw [this.1 ht] at hd; cases hd
      | cons => rfl
  have HC2 := hide hc2
  have HRE := hide hre
  clear hcon hr hc2 hre
  have hB0 : Below w.heap.size w (w.alloc (.cells #[.string a, .string b] 86)) := (Below.refl _ _).alloc (Nat.le_refl _) _
  go_enter Tryz.func114, Tryz.ntmps114
  go_wp2_with (go_at_call 167; go_must (refine (HC2.out _).mono ?_; rintro e w2 ⟨rfl, hB2⟩))
  go_ret
  exact ⟨ret_bool (by rw [← HRE.out]), hB0.trans (hB2.mono hB0.size)⟩
end Go.Proofs.YtgohllfpceeboaaGreatDoor
