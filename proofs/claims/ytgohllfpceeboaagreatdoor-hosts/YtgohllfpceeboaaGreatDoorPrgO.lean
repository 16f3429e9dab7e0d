import Derived.Test.YtgohllfpceeboaaGreatDoorPrgN
import Derived.Test.YtgohllfpceeboaaGreatDoorPrgL
import Derived.Test.YtgohllfpceeboaaGreatDoorRefG
import Derived.Shelf.Strings.BuilderK
namespace Go.Proofs.YtgohllfpceeboaaGreatDoor
open Go.RowKit
attribute [local go_sem ↓] Go.wp_at_zero Go.wp_at_succ
/-- Labels that lie in a block, two texts each, and may be written. -/
def LabsAt (W : World) (g : Nat) (l : List (ByteArray × ByteArray)) : Prop :=
  g < W.heap.size ∧ (∀ j (h : j < l.length), W.cell? ⟨g, j * 2, none⟩ = some (.string l[j].1) ∧ W.cell? ⟨g, j * 2 + 1, none⟩ = some (.string l[j].2)) ∧ ∀ o, W.frozen? ⟨g, o, none⟩ = false
theorem LabsAt.below {W W' : World} {g B : Nat} {l : List (ByteArray × ByteArray)} (h : LabsAt W g l) (hb : Below B W W') (hg : g < B) : LabsAt W' g l :=
  ⟨Nat.lt_of_lt_of_le h.1 hb.size, fun j hj => ⟨(hb.cell (p := ⟨g, j * 2, none⟩) hg).trans (h.2.1 j hj).1, (hb.cell (p := ⟨g, j * 2 + 1, none⟩) hg).trans (h.2.1 j hj).2⟩, fun o => (hb.frozen (p := ⟨g, o, none⟩) hg).trans (h.2.2 o)⟩
theorem ownF_below {w w' : World} {B C n : Nat} {e : TypeId} {z : Nat} {v : Value} {xs : List Value} (h : w.ownsRowF B e z v n xs) (hb : Below C w w') (hC : w.heap.size ≤ C) : w'.ownsRowF B e z v n xs := by
  refine ⟨h.1, ?_⟩
  rcases h.2 with h2 | ⟨g, cap, cur, fz, h1, h2, h3, h4⟩
  · exact .inl h2
  · exact .inr ⟨g, cap, cur, fz, h1, h2, by rw [hb.block g (by have := (Array.getElem?_eq_some_iff.1 h3).1; omega)]; exact h3, h4⟩
theorem builder_below {w w' : World} {T e : TypeId} {B b : Nat} {bs : List Value} (h : Lib.IsBuilderF T e B b bs w) (hb : Below w.heap.size w w') : Lib.IsBuilderF T e B b bs w' := by
  have key : ∀ p, Lib.BuilderAtF T e B b p bs w → Lib.BuilderAtF T e B b p bs w' := by
    rintro p ⟨h1, v, h2, h3, h4⟩
    exact ⟨h1, v, by rw [hb.block b (Array.getElem?_eq_some_iff.1 h2).1]; exact h2, ownF_below h3 hb (Nat.le_refl _), h4⟩
  exact h.imp (key _) (key _)
theorem builder_size {w : World} {T e : TypeId} {B b : Nat} {bs : List Value} (h : Lib.IsBuilderF T e B b bs w) : b < w.heap.size := by
  rcases h with ⟨_, v, h2, _⟩ | ⟨_, v, h2, _⟩ <;> exact (Array.getElem?_eq_some_iff.1 h2).1
/-- A box that a builder's call leaves as it was. -/
theorem box_kept {w w' : World} {b k : Nat} {x y : Value} (h : w.heap[k]? = some (.cells #[x, y] 86)) (hk : k ≠ b) (ho : Lib.OthersKept 5 (some b) w w') : w'.heap[k]? = some (.cells #[x, y] 86) :=
  ho k _ h (fun e => hk (Option.some.inj e)) (fun c fz e => by cases e)
theorem box_cells {w : World} {k : Nat} {x y : Value} (h : w.heap[k]? = some (.cells #[x, y] 86)) : w.cell? ⟨k, 0, none⟩ = some x ∧ w.cell? ⟨k, 1, none⟩ = some y := by
  constructor <;> rw [Lib.cell_of_heap h] <;> rfl
theorem byteCells_app (a b : List UInt8) : Lib.byteCells (a ++ b) = Lib.byteCells a ++ Lib.byteCells b := by simp [Lib.byteCells]
theorem pwb_any (B b : Nat) (bs : List UInt8) (w : World) (h : Lib.IsBuilderF 133 5 B b (Lib.byteCells bs) w) (hl : bs.length ≤ 1000000) (hB : B ≤ w.heap.size) :
    Calls Tryz.prog 116 #[.pointer (some ⟨b, 0, none⟩), .int .u8 46] w fun e w' => (∃ v, e = .returned v) ∧ Lib.IsBuilderF 133 5 B b (Lib.byteCells (bs ++ [46])) w' ∧ Below B w w' ∧ Lib.OthersKept 5 (some b) w w' := by
  have := Any.Builder_WriteByte_k Tryz.layWB Tryz.bX B b (Lib.byteCells bs) 46 w h (by simp [Lib.byteCells]; omega) hB
  refine Calls.mono this ?_
  rintro e w' ⟨rfl, h1, h2, h3⟩
  exact ⟨⟨_, rfl⟩, .inr (by rw [byteCells_app]; exact h1), h2, h3⟩
theorem pwst_any (B b : Nat) (bs : List UInt8) (s : ByteArray) (w : World) (h : Lib.IsBuilderF 133 5 B b (Lib.byteCells bs) w) (hl : bs.length ≤ 1000000) (hs : s.size ≤ 1000000) (hB : B ≤ w.heap.size) :
    Calls Tryz.prog 117 #[.pointer (some ⟨b, 0, none⟩), .string s] w fun e w' => (∃ v, e = .returned v) ∧ Lib.IsBuilderF 133 5 B b (Lib.byteCells (bs ++ s.data.toList)) w' ∧ Below B w w' ∧ Lib.OthersKept 5 (some b) w w' := by
  have := Any.Builder_WriteString_k Tryz.layWS Tryz.bX B b (Lib.byteCells bs) s w h (by simp [Lib.byteCells]; omega) hB
  refine Calls.mono this ?_
  rintro e w' ⟨rfl, h1, h2, h3⟩
  exact ⟨⟨_, rfl⟩, .inr (by rw [byteCells_app]; exact h1), h2, h3⟩
theorem pbst_any (B b : Nat) (bs : List UInt8) (w : World) (h : Lib.IsBuilderF 133 5 B b (Lib.byteCells bs) w) (hB : B ≤ w.heap.size) :
    Calls Tryz.prog 84 #[.pointer (some ⟨b, 0, none⟩)] w fun e w' => e = .returned (.string ⟨bs.toArray⟩) ∧ Below B w w' := by
  have := Any.Builder_String_any_k Tryz.layST Tryz.bX B b bs w h hB
  refine Calls.mono this ?_
  rintro e w' ⟨rfl, _, h2, _⟩
  exact ⟨rfl, h2⟩
set_option maxRecDepth 100000 in
set_option maxHeartbeats 2000000 in
/-- suffix.joined, at plainForm -/
theorem pjp_any (L : List (ByteArray × ByteArray)) (sh : List UInt8 → List UInt8) (g cap : Nat) (w : World) (hL : LabsAt w g L) (hn : L.length ≤ 100) (hsh : ∀ x ∈ L, (sh x.2.data.toList).length ≤ 1000)
    (hf : ∀ x ∈ L, ∀ w, Calls Tryz.prog 48 #[.agg #[.string x.1, .string x.2]] w fun e w' => e = .returned (.string ⟨(sh x.2.data.toList).toArray⟩) ∧ Below w.heap.size w w') :
    Calls Tryz.prog 72 #[.slice (some ⟨g, 0, none⟩) L.length cap, .func (.func 48) #[] #[]] w fun e w' => e = .returned (.string ⟨(Sx.dotted (L.map fun x => sh x.2.data.toList)).toArray⟩) ∧ Below w.heap.size w w' := by
  obtain ⟨H, hH⟩ : ∃ H, L.map (fun x => sh x.2.data.toList) = H := ⟨_, rfl⟩
  have hHl : H.length = L.length := by rw [← hH, List.length_map]
  have hHk : ∀ k (h : k < L.length) (h2 : k < H.length), H[k] = sh L[k].2.data.toList := fun k h h2 => by simp [← hH]
  rw [hH]
  have hlen : ∀ k, k ≤ L.length → (Sx.dotted (H.take k)).length ≤ k * 1001 := by
    intro k
    induction k with
    | zero => intro _; simp [Sx.dotted]
    | succ k ih =>
      intro hk
      rw [dot_take H k (by omega), List.length_append, hHk k (by omega) (by omega)]
      have h1 := ih (by omega)
      have h2 := hsh L[k] (List.getElem_mem (by omega))
      split
      · simp; omega
      · rw [List.length_append]; simp; omega
  have HL := hide hL
  have HF := hide hf
  have HHK := hide hHk
  have HLEN := hide hlen
  have HSH := hide hsh
  have HHL := hide hHl
  have hgl := hL.1
  clear hL hf hHk hlen hsh hH
  have hb0 : Lib.IsBuilderF 133 5 w.heap.size w.heap.size (Lib.byteCells (Sx.dotted (H.take 0))) (w.alloc (.cells #[.pointer none, .slice none 0 0] 133)) :=
    .inl ⟨Nat.le_refl _, .slice none 0 0, by show (w.heap.push _)[w.heap.size]? = _; exact Array.getElem?_push_size, World.ownsRowF_nil _ _ _ _, by simp [Value.ownBlock]⟩
  have hB0 : Below w.heap.size w (w.alloc (.cells #[.pointer none, .slice none 0 0] 133)) := (Below.refl _ _).alloc (Nat.le_refl _) _
  obtain ⟨n, hnn⟩ : ∃ n, L.length = n := ⟨_, rfl⟩
  rw [hnn] at hn HHL HLEN hHl ⊢
  have HNN := hide hnn
  clear hnn hHl
  go_enter Tryz.func72, Tryz.ntmps72
  go_wp2
  go_loopw [10] (fun i wr => ∃ k : Nat, i = .int .i64 k ∧ k ≤ n ∧ Lib.IsBuilderF 133 5 w.heap.size w.heap.size (Lib.byteCells (Sx.dotted (H.take k))) wr ∧ Below w.heap.size w wr) (fun i _ => (n - intOf i).toNat)
  case atStart => exact ⟨0, rfl, by omega, hb0, hB0⟩
  case round =>
    obtain ⟨k, rfl, hk, hbu, hB⟩ := hrel
    clear hb0 hB0
    by_cases hlt : k < n
    · have hkl : k < L.length := by rw [HNN.out]; exact hlt
      have hLw := HL.out.below hB hgl
      obtain ⟨j1, j2⟩ := hLw.2.1 k hkl
      have hfx := HF.out L[k] (List.getElem_mem hkl)
      have hst := dot_take H k (by rw [HHL.out]; exact hlt)
      rw [HHK.out k hkl (by rw [HHL.out]; exact hlt)] at hst
      have hsz := HSH.out L[k] (List.getElem_mem hkl)
      have hln := HLEN.out k hk
      obtain ⟨x, hx⟩ : ∃ x, L[k] = x := ⟨_, rfl⟩
      rw [hx] at j1 j2 hfx hst hsz
      obtain ⟨xa, xb⟩ := x
      simp only at j1 j2 hfx hst hsz
      obtain ⟨T, hT⟩ : ∃ T : ByteArray, ⟨(sh xb.data.toList).toArray⟩ = T := ⟨_, rfl⟩
      have hTl : T.data.toList = sh xb.data.toList := by rw [← hT]
      have hTz : T.size ≤ 1000 := by rw [← ba_len, hTl]; exact hsz
      rw [hT] at hfx
      rw [← hTl] at hst
      obtain ⟨out, ho⟩ : ∃ out, Sx.dotted (H.take k) = out := ⟨_, rfl⟩
      have HOU : Hid (k = 0 → out = []) := hide (fun h => by rw [← ho, h]; rfl)
      rw [ho] at hst hbu hln
      have HFX := hide hfx
      have HST := hide hst
      have hle : k * 1001 ≤ 100100 := by omega
      have e1 : (0 : Int) ≤ (k : Int) := by omega
      have e2 : (k : Int) < (n : Int) := by omega
      have hsw := hB.size
      have HBU := hide hbu
      have hbl := builder_size hbu
      clear hfx hst ho hT hTl hx hsz hLw hbu
      have hx0 : (wr.alloc (.cells #[.string xa, .string xb] 86)).heap[wr.heap.size]? = some (.cells #[.string xa, .string xb] 86) := by show (wr.heap.push _)[wr.heap.size]? = _; exact Array.getElem?_push_size
      have hBa : Below wr.heap.size wr (wr.alloc (.cells #[.string xa, .string xb] 86)) := (Below.refl _ wr).alloc (Nat.le_refl _) _
      have HBU2 := hide (builder_below HBU.out hBa)
      have hBB := hB.trans (hBa.mono hsw)
      have hsa : w.heap.size ≤ (wr.alloc (.cells #[.string xa, .string xb] 86)).heap.size := Nat.le_trans hsw hBa.size
      have hbb : wr.heap.size ≠ w.heap.size := by omega
      obtain ⟨tb, htb⟩ : ∃ tb, wr.heap.size = tb := ⟨_, rfl⟩
      rw [htb] at hx0 hbb
      by_cases hk0 : k = 0
      · have hk1 : (0 < k) = False := by simp; omega
        obtain ⟨z1, z2⟩ := box_cells hx0
        rw [if_pos hk0] at HST
        have HO0 := hide (HOU.out hk0)
        clear hk0
        go_wp2_with (first | (go_at_call 48; go_must (refine (HFX.out _).mono ?_; rintro e w3 ⟨rfl, hB3⟩; have HBU3 := hide (builder_below HBU2.out hB3); have hs3 := Nat.le_trans hsa hB3.size)) | (go_at_call 117; go_must (refine (pwst_any _ _ _ _ _ HBU3.out (by omega) (by omega) hs3).mono ?_; rintro e w4 ⟨⟨v4, rfl⟩, hBU4, hB4, ho4⟩)))
        refine ⟨⟨k + 1, by go_num, by omega, ?_, (hBB.trans (hB3.mono hsa)).trans hB4⟩, by simp [intOf]; omega⟩
        rw [HST.out]
        rw [HO0.out] at hBU4
        exact hBU4
      · have hk1 : (0 < k) = True := by simp; omega
        rw [if_neg hk0] at HST
        clear hk0
        go_wp2_with (first | (go_at_call 116; go_must (refine (pwb_any _ _ _ _ HBU2.out (by omega) hsa).mono ?_; rintro e w2 ⟨⟨v2, rfl⟩, hBU2, hB2, ho2⟩; have hx2 := box_kept hx0 hbb ho2; have hz := box_cells hx2; have z1 := hz.1; have z2 := hz.2; have HBU22 := hide hBU2; have hs2 := Nat.le_trans hsa hB2.size; clear hz hBU2)) | (go_at_call 48; go_must (refine (HFX.out _).mono ?_; rintro e w3 ⟨rfl, hB3⟩; have HBU3 := hide (builder_below HBU22.out hB3); have hs3 := Nat.le_trans hs2 hB3.size)) | (go_at_call 117; go_must (refine (pwst_any _ _ _ _ _ HBU3.out (by simp; omega) (by omega) hs3).mono ?_; rintro e w4 ⟨⟨v4, rfl⟩, hBU4, hB4, ho4⟩)))
        refine ⟨⟨k + 1, by go_num, by omega, ?_, ((hBB.trans hB2).trans (hB3.mono hs2)).trans hB4⟩, by simp [intOf]; omega⟩
        rw [HST.out]
        exact hBU4
    · have hkn : k = n := by omega
      have htk : H.take k = H := List.take_of_length_le (by rw [HHL.out]; omega)
      rw [htk] at hbu
      have HBU := hide hbu
      have hsw := hB.size
      clear hbu htk
      go_wp2_with (go_at_call 84; go_must (refine (pbst_any _ _ _ _ HBU.out hsw).mono ?_; rintro e w2 ⟨rfl, hB2⟩))
      go_ret
      exact ⟨rfl, hB.trans hB2⟩
set_option maxRecDepth 100000 in
set_option maxHeartbeats 2000000 in
/-- suffix.joined, at shownForm -/
theorem pjs_any (L : List (ByteArray × ByteArray)) (sh : List UInt8 → List UInt8) (g cap : Nat) (w : World) (hL : LabsAt w g L) (hn : L.length ≤ 100) (hsh : ∀ x ∈ L, (sh x.2.data.toList).length ≤ 1000)
    (hf : ∀ x ∈ L, ∀ w, Calls Tryz.prog 49 #[.agg #[.string x.1, .string x.2]] w fun e w' => e = .returned (.string ⟨(sh x.2.data.toList).toArray⟩) ∧ Below w.heap.size w w') :
    Calls Tryz.prog 72 #[.slice (some ⟨g, 0, none⟩) L.length cap, .func (.func 49) #[] #[]] w fun e w' => e = .returned (.string ⟨(Sx.dotted (L.map fun x => sh x.2.data.toList)).toArray⟩) ∧ Below w.heap.size w w' := by
  obtain ⟨H, hH⟩ : ∃ H, L.map (fun x => sh x.2.data.toList) = H := ⟨_, rfl⟩
  have hHl : H.length = L.length := by rw [← hH, List.length_map]
  have hHk : ∀ k (h : k < L.length) (h2 : k < H.length), H[k] = sh L[k].2.data.toList := fun k h h2 => by simp [← hH]
  rw [hH]
  have hlen : ∀ k, k ≤ L.length → (Sx.dotted (H.take k)).length ≤ k * 1001 := by
    intro k
    induction k with
    | zero => intro _; simp [Sx.dotted]
    | succ k ih =>
      intro hk
      rw [dot_take H k (by omega), List.length_append, hHk k (by omega) (by omega)]
      have h1 := ih (by omega)
      have h2 := hsh L[k] (List.getElem_mem (by omega))
      split
      · simp; omega
      · rw [List.length_append]; simp; omega
  have HL := hide hL
  have HF := hide hf
  have HHK := hide hHk
  have HLEN := hide hlen
  have HSH := hide hsh
  have HHL := hide hHl
  have hgl := hL.1
  clear hL hf hHk hlen hsh hH
  have hb0 : Lib.IsBuilderF 133 5 w.heap.size w.heap.size (Lib.byteCells (Sx.dotted (H.take 0))) (w.alloc (.cells #[.pointer none, .slice none 0 0] 133)) :=
    .inl ⟨Nat.le_refl _, .slice none 0 0, by show (w.heap.push _)[w.heap.size]? = _; exact Array.getElem?_push_size, World.ownsRowF_nil _ _ _ _, by simp [Value.ownBlock]⟩
  have hB0 : Below w.heap.size w (w.alloc (.cells #[.pointer none, .slice none 0 0] 133)) := (Below.refl _ _).alloc (Nat.le_refl _) _
  obtain ⟨n, hnn⟩ : ∃ n, L.length = n := ⟨_, rfl⟩
  rw [hnn] at hn HHL HLEN hHl ⊢
  have HNN := hide hnn
  clear hnn hHl
  go_enter Tryz.func72, Tryz.ntmps72
  go_wp2
  go_loopw [10] (fun i wr => ∃ k : Nat, i = .int .i64 k ∧ k ≤ n ∧ Lib.IsBuilderF 133 5 w.heap.size w.heap.size (Lib.byteCells (Sx.dotted (H.take k))) wr ∧ Below w.heap.size w wr) (fun i _ => (n - intOf i).toNat)
  case atStart => exact ⟨0, rfl, by omega, hb0, hB0⟩
  case round =>
    obtain ⟨k, rfl, hk, hbu, hB⟩ := hrel
    clear hb0 hB0
    by_cases hlt : k < n
    · have hkl : k < L.length := by rw [HNN.out]; exact hlt
      have hLw := HL.out.below hB hgl
      obtain ⟨j1, j2⟩ := hLw.2.1 k hkl
      have hfx := HF.out L[k] (List.getElem_mem hkl)
      have hst := dot_take H k (by rw [HHL.out]; exact hlt)
      rw [HHK.out k hkl (by rw [HHL.out]; exact hlt)] at hst
      have hsz := HSH.out L[k] (List.getElem_mem hkl)
      have hln := HLEN.out k hk
      obtain ⟨x, hx⟩ : ∃ x, L[k] = x := ⟨_, rfl⟩
      rw [hx] at j1 j2 hfx hst hsz
      obtain ⟨xa, xb⟩ := x
      simp only at j1 j2 hfx hst hsz
      obtain ⟨T, hT⟩ : ∃ T : ByteArray, ⟨(sh xb.data.toList).toArray⟩ = T := ⟨_, rfl⟩
      have hTl : T.data.toList = sh xb.data.toList := by rw [← hT]
      have hTz : T.size ≤ 1000 := by rw [← ba_len, hTl]; exact hsz
      rw [hT] at hfx
      rw [← hTl] at hst
      obtain ⟨out, ho⟩ : ∃ out, Sx.dotted (H.take k) = out := ⟨_, rfl⟩
      have HOU : Hid (k = 0 → out = []) := hide (fun h => by rw [← ho, h]; rfl)
      rw [ho] at hst hbu hln
      have HFX := hide hfx
      have HST := hide hst
      have hle : k * 1001 ≤ 100100 := by omega
      have e1 : (0 : Int) ≤ (k : Int) := by omega
      have e2 : (k : Int) < (n : Int) := by omega
      have hsw := hB.size
      have HBU := hide hbu
      have hbl := builder_size hbu
      clear hfx hst ho hT hTl hx hsz hLw hbu
      have hx0 : (wr.alloc (.cells #[.string xa, .string xb] 86)).heap[wr.heap.size]? = some (.cells #[.string xa, .string xb] 86) := by show (wr.heap.push _)[wr.heap.size]? = _; exact Array.getElem?_push_size
      have hBa : Below wr.heap.size wr (wr.alloc (.cells #[.string xa, .string xb] 86)) := (Below.refl _ wr).alloc (Nat.le_refl _) _
      have HBU2 := hide (builder_below HBU.out hBa)
      have hBB := hB.trans (hBa.mono hsw)
      have hsa : w.heap.size ≤ (wr.alloc (.cells #[.string xa, .string xb] 86)).heap.size := Nat.le_trans hsw hBa.size
      have hbb : wr.heap.size ≠ w.heap.size := by omega
      obtain ⟨tb, htb⟩ : ∃ tb, wr.heap.size = tb := ⟨_, rfl⟩
      rw [htb] at hx0 hbb
      by_cases hk0 : k = 0
      · have hk1 : (0 < k) = False := by simp; omega
        obtain ⟨z1, z2⟩ := box_cells hx0
        rw [if_pos hk0] at HST
        have HO0 := hide (HOU.out hk0)
        clear hk0
        go_wp2_with (first | (go_at_call 49; go_must (refine (HFX.out _).mono ?_; rintro e w3 ⟨rfl, hB3⟩; have HBU3 := hide (builder_below HBU2.out hB3); have hs3 := Nat.le_trans hsa hB3.size)) | (go_at_call 117; go_must (refine (pwst_any _ _ _ _ _ HBU3.out (by omega) (by omega) hs3).mono ?_; rintro e w4 ⟨⟨v4, rfl⟩, hBU4, hB4, ho4⟩)))
        refine ⟨⟨k + 1, by go_num, by omega, ?_, (hBB.trans (hB3.mono hsa)).trans hB4⟩, by simp [intOf]; omega⟩
        rw [HST.out]
        rw [HO0.out] at hBU4
        exact hBU4
      · have hk1 : (0 < k) = True := by simp; omega
        rw [if_neg hk0] at HST
        clear hk0
        go_wp2_with (first | (go_at_call 116; go_must (refine (pwb_any _ _ _ _ HBU2.out (by omega) hsa).mono ?_; rintro e w2 ⟨⟨v2, rfl⟩, hBU2, hB2, ho2⟩; have hx2 := box_kept hx0 hbb ho2; have hz := box_cells hx2; have z1 := hz.1; have z2 := hz.2; have HBU22 := hide hBU2; have hs2 := Nat.le_trans hsa hB2.size; clear hz hBU2)) | (go_at_call 49; go_must (refine (HFX.out _).mono ?_; rintro e w3 ⟨rfl, hB3⟩; have HBU3 := hide (builder_below HBU22.out hB3); have hs3 := Nat.le_trans hs2 hB3.size)) | (go_at_call 117; go_must (refine (pwst_any _ _ _ _ _ HBU3.out (by simp; omega) (by omega) hs3).mono ?_; rintro e w4 ⟨⟨v4, rfl⟩, hBU4, hB4, ho4⟩)))
        refine ⟨⟨k + 1, by go_num, by omega, ?_, ((hBB.trans hB2).trans (hB3.mono hs2)).trans hB4⟩, by simp [intOf]; omega⟩
        rw [HST.out]
        exact hBU4
    · have hkn : k = n := by omega
      have htk : H.take k = H := List.take_of_length_le (by rw [HHL.out]; omega)
      rw [htk] at hbu
      have HBU := hide hbu
      have hsw := hB.size
      clear hbu htk
      go_wp2_with (go_at_call 84; go_must (refine (pbst_any _ _ _ _ HBU.out hsw).mono ?_; rintro e w2 ⟨rfl, hB2⟩))
      go_ret
      exact ⟨rfl, hB.trans hB2⟩
end Go.Proofs.YtgohllfpceeboaaGreatDoor
