import Derived.Test.YtgohllfpceeboabGreatDoorSbaa
import Derived.Test.YtgohllfpceeboabGreatDoorSbac
import Derived.Test.YtgohllfpceeboabGreatDoorSbai
import Derived.Test.YtgohllfpceeboabGreatDoorSbak
import Derived.Test.YtgohllfpceeboabGreatDoorSbal
import Derived.Test.YtgohllfpceeboabGreatDoorSban
import Derived.Test.YtgohllfpceeboabGreatDoorProg
import Derived.Test.YtgohllfpceeboabGreatDoorSbaj
import Derived.Test.YtgohllfpceeboabGreatDoorSbab
import Derived.Shelf.Strings.BuilderK
import Derived.Shelf.RegionOpenPlain
namespace Go.Proofs.YtgohllfpceeboabGreatDoor
open Go.RowKit
attribute [local go_sem ↓] Go.wp_at_zero Go.wp_at_succ
/-- Labels that lie in a block, two texts each, and may be written. -/
def LabsAt (W : World) (g : Nat) (l : List (ByteArray × ByteArray)) : Prop :=
  g < W.heap.size ∧ (∀ j (h : j < l.length), W.cell? ⟨g, j * 2, none⟩ = some (.string l[j].1) ∧ W.cell? ⟨g, j * 2 + 1, none⟩ = some (.string l[j].2)) ∧ ∀ o, W.frozen? ⟨g, o, none⟩ = false
theorem LabsAt.below {W W' : World} {g B : Nat} {l : List (ByteArray × ByteArray)} (h : LabsAt W g l) (hb : Below B W W') (hg : g < B) : LabsAt W' g l :=
  ⟨Nat.lt_of_lt_of_le h.1 hb.size, fun j hj => ⟨(hb.cell (p := ⟨g, j * 2, none⟩) hg).trans (h.2.1 j hj).1, (hb.cell (p := ⟨g, j * 2 + 1, none⟩) hg).trans (h.2.1 j hj).2⟩, fun o => (hb.frozen (p := ⟨g, o, none⟩) hg).trans (h.2.2 o)⟩
theorem ownF_below {w w' : World} {B C n : Nat} {e : TypeId} {z : Nat} {v : Value} {xs : List Value} (h : w.ownsRowF B e z v n xs) (hb : Below C w w') (hC : w.heap.size ≤ C) : w'.ownsRowF B e z v n xs := by
  refine ⟨h.1, ?_⟩
  rcases h.2 with h2 | ⟨g, cap, cur, fz, h1, h2, h3, h4⟩
  · exact .inl h2
  · exact .inr ⟨g, cap, cur, fz, h1, h2, by rw [hb.block g (by have := (Array.getElem?_eq_some_iff.1 h3).1; omega)]; exact h3, h4⟩
theorem builder_below {w w' : World} {T e : TypeId} {B b : Nat} {bs : List Value} (h : Lib.IsBuilderF T e B b bs w) (hb : Below w.heap.size w w') : Lib.IsBuilderF T e B b bs w' := by
  have key : ∀ p, Lib.BuilderAtF T e B b p bs w → Lib.BuilderAtF T e B b p bs w' := by
    rintro p ⟨h1, v, h2, h3, h4⟩
    exact ⟨h1, v, by rw [hb.block b (Array.getElem?_eq_some_iff.1 h2).1]; exact h2, ownF_below h3 hb (Nat.le_refl _), h4⟩
  exact h.imp (key _) (key _)
theorem builder_size {w : World} {T e : TypeId} {B b : Nat} {bs : List Value} (h : Lib.IsBuilderF T e B b bs w) : b < w.heap.size := by
  rcases h with ⟨_, v, h2, _⟩ | ⟨_, v, h2, _⟩ <;> exact (Array.getElem?_eq_some_iff.1 h2).1
/-- A box that a builder's call leaves as it was. -/
theorem box_kept {w w' : World} {b k : Nat} {x y : Value} (h : w.heap[k]? = some (.cells #[x, y] 69)) (hk : k ≠ b) (ho : Lib.OthersKept 5 (some b) w w') : w'.heap[k]? = some (.cells #[x, y] 69) :=
  ho k _ h (fun e => hk (Option.some.inj e)) (fun c fz e => by cases e)
theorem box_cells {w : World} {k : Nat} {x y : Value} (h : w.heap[k]? = some (.cells #[x, y] 69)) : w.cell? ⟨k, 0, none⟩ = some x ∧ w.cell? ⟨k, 1, none⟩ = some y := by
  constructor <;> rw [Lib.cell_of_heap h] <;> rfl
theorem byteCells_app (a b : List UInt8) : Lib.byteCells (a ++ b) = Lib.byteCells a ++ Lib.byteCells b := by simp [Lib.byteCells]
theorem pwb_any (B b : Nat) (bs : List UInt8) (w : World) (h : Lib.IsBuilderF 134 5 B b (Lib.byteCells bs) w) (hl : bs.length ≤ 1000000) (hB : B ≤ w.heap.size) :
    Calls Tryz.prog 89 #[.pointer (some ⟨b, 0, none⟩), .int .u8 46] w fun e w' => (∃ v, e = .returned v) ∧ Lib.IsBuilderF 134 5 B b (Lib.byteCells (bs ++ [46])) w' ∧ Below B w w' ∧ Lib.OthersKept 5 (some b) w w' := by
  have := Any.Builder_WriteByte_k Tryz.layWB Tryz.bX B b (Lib.byteCells bs) 46 w h (by simp [Lib.byteCells]; omega) hB
  refine Calls.mono this ?_
  rintro e w' ⟨rfl, h1, h2, h3⟩
  exact ⟨⟨_, rfl⟩, .inr (by rw [byteCells_app]; exact h1), h2, h3⟩
theorem pwst_any (B b : Nat) (bs : List UInt8) (s : ByteArray) (w : World) (h : Lib.IsBuilderF 134 5 B b (Lib.byteCells bs) w) (hl : bs.length ≤ 1000000) (hs : s.size ≤ 1000000) (hB : B ≤ w.heap.size) :
    Calls Tryz.prog 90 #[.pointer (some ⟨b, 0, none⟩), .string s] w fun e w' => (∃ v, e = .returned v) ∧ Lib.IsBuilderF 134 5 B b (Lib.byteCells (bs ++ s.data.toList)) w' ∧ Below B w w' ∧ Lib.OthersKept 5 (some b) w w' := by
  have := Any.Builder_WriteString_k Tryz.layWS Tryz.bX B b (Lib.byteCells bs) s w h (by simp [Lib.byteCells]; omega) hB
  refine Calls.mono this ?_
  rintro e w' ⟨rfl, h1, h2, h3⟩
  exact ⟨⟨_, rfl⟩, .inr (by rw [byteCells_app]; exact h1), h2, h3⟩
theorem pbst_any (B b : Nat) (bs : List UInt8) (w : World) (h : Lib.IsBuilderF 134 5 B b (Lib.byteCells bs) w) (hB : B ≤ w.heap.size) :
    Calls Tryz.prog 91 #[.pointer (some ⟨b, 0, none⟩)] w fun e w' => e = .returned (.string ⟨bs.toArray⟩) ∧ Below B w w' := by
  have := Any.Builder_String_any_k Tryz.layST Tryz.bX B b bs w h hB
  refine Calls.mono this ?_
  rintro e w' ⟨rfl, _, h2, _⟩
  exact ⟨rfl, h2⟩
set_option maxRecDepth 100000 in
set_option maxHeartbeats 2000000 in
/-- suffix.joined, at plainForm -/
theorem pjp_any (L : List (ByteArray × ByteArray)) (sh : List UInt8 → List UInt8) (g cap : Nat) (w : World) (hL : LabsAt w g L) (hn : L.length ≤ 100) (hsh : ∀ x ∈ L, (sh x.2.data.toList).length ≤ 1000)
    (hf : ∀ x ∈ L, ∀ w, Calls Tryz.prog 33 #[.agg #[.string x.1, .string x.2]] w fun e w' => e = .returned (.string ⟨(sh x.2.data.toList).toArray⟩) ∧ Below w.heap.size w w') :
    Calls Tryz.prog 53 #[.slice (some ⟨g, 0, none⟩) L.length cap, .func (.func 33) #[] #[]] w fun e w' => e = .returned (.string ⟨(Sx.dotted (L.map fun x => sh x.2.data.toList)).toArray⟩) ∧ Below w.heap.size w w' := by
  obtain ⟨H, hH⟩ : ∃ H, L.map (fun x => sh x.2.data.toList) = H := ⟨_, rfl⟩
  have hHl : H.length = L.length := by rw [← hH, List.length_map]
  have hHk : ∀ k (h : k < L.length) (h2 : k < H.length), H[k] = sh L[k].2.data.toList := fun k h h2 => by simp [← hH]
  rw [hH]
  have hlen : ∀ k, k ≤ L.length → (Sx.dotted (H.take k)).length ≤ k * 1001 := by
    intro k
    induction k with
    | zero => intro _; simp [Sx.dotted]
    | succ k ih =>
      intro hk
      rw [dot_take H k (by omega), List.length_append, hHk k (by omega) (by omega)]
      have h1 := ih (by omega)
      have h2 := hsh L[k] (List.getElem_mem (by omega))
      split
      · simp; omega
      · rw [List.length_append]; simp; omega
  have HL := hide hL
  have HF := hide hf
  have HHK := hide hHk
  have HLEN := hide hlen
  have HSH := hide hsh
  have HHL := hide hHl
  have hgl := hL.1
  clear hL hf hHk hlen hsh hH
  have hb0 : Lib.IsBuilderF 134 5 w.heap.size w.heap.size (Lib.byteCells (Sx.dotted (H.take 0))) (w.alloc (.cells #[.pointer none, .slice none 0 0] 134)) :=
    .inl ⟨Nat.le_refl _, .slice none 0 0, by show (w.heap.push _)[w.heap.size]? = _; exact Array.getElem?_push_size, World.ownsRowF_nil _ _ _ _, by simp [Value.ownBlock]⟩
  have hB0 : Below w.heap.size w (w.alloc (.cells #[.pointer none, .slice none 0 0] 134)) := (Below.refl _ _).alloc (Nat.le_refl _) _
  obtain ⟨n, hnn⟩ : ∃ n, L.length = n := ⟨_, rfl⟩
  rw [hnn] at hn HHL HLEN hHl ⊢
  have HNN := hide hnn
  clear hnn hHl
  go_enter Tryz.func53, Tryz.ntmps53
  go_wp2
  go_loopw [10] (fun i wr => ∃ k : Nat, i = .int .i64 k ∧ k ≤ n ∧ Lib.IsBuilderF 134 5 w.heap.size w.heap.size (Lib.byteCells (Sx.dotted (H.take k))) wr ∧ Below w.heap.size w wr) (fun i _ => (n - intOf i).toNat)
  case atStart => exact ⟨0, rfl, by omega, hb0, hB0⟩
  case round =>
    obtain ⟨k, rfl, hk, hbu, hB⟩ := hrel
    clear hb0 hB0
    by_cases hlt : k < n
    · have hkl : k < L.length := by rw [HNN.out]; exact hlt
      have hLw := HL.out.below hB hgl
      obtain ⟨j1, j2⟩ := hLw.2.1 k hkl
      have hfx := HF.out L[k] (List.getElem_mem hkl)
      have hst := dot_take H k (by rw [HHL.out]; exact hlt)
      rw [HHK.out k hkl (by rw [HHL.out]; exact hlt)] at hst
      have hsz := HSH.out L[k] (List.getElem_mem hkl)
      have hln := HLEN.out k hk
      obtain ⟨x, hx⟩ : ∃ x, L[k] = x := ⟨_, rfl⟩
      rw [hx] at j1 j2 hfx hst hsz
      obtain ⟨xa, xb⟩ := x
      simp only at j1 j2 hfx hst hsz
      obtain ⟨T, hT⟩ : ∃ T : ByteArray, ⟨(sh xb.data.toList).toArray⟩ = T := ⟨_, rfl⟩
      have hTl : T.data.toList = sh xb.data.toList := by rw [← hT]
      have hTz : T.size ≤ 1000 := by rw [← ba_len, hTl]; exact hsz
      rw [hT] at hfx
      rw [← hTl] at hst
      obtain ⟨out, ho⟩ : ∃ out, Sx.dotted (H.take k) = out := ⟨_, rfl⟩
      have HOU : Hid (k = 0 → out = []) := hide (fun h => by rw [← ho, h]; rfl)
      rw [ho] at hst hbu hln
      have HFX := hide hfx
      have HST := hide hst
      have hle : k * 1001 ≤ 100100 := by omega
      have e1 : (0 : Int) ≤ (k : Int) := by omega
      have e2 : (k : Int) < (n : Int) := by omega
      have hsw := hB.size
      have HBU := hide hbu
      have hbl := builder_size hbu
      clear hfx hst ho hT hTl hx hsz hLw hbu
      have hx0 : (wr.alloc (.cells #[.string xa, .string xb] 69)).heap[wr.heap.size]? = some (.cells #[.string xa, .string xb] 69) := by show (wr.heap.push _)[wr.heap.size]? = _; exact Array.getElem?_push_size
      have hBa : Below wr.heap.size wr (wr.alloc (.cells #[.string xa, .string xb] 69)) := (Below.refl _ wr).alloc (Nat.le_refl _) _
      have HBU2 := hide (builder_below HBU.out hBa)
      have hBB := hB.trans (hBa.mono hsw)
      have hsa : w.heap.size ≤ (wr.alloc (.cells #[.string xa, .string xb] 69)).heap.size := Nat.le_trans hsw hBa.size
      have hbb : wr.heap.size ≠ w.heap.size := by omega
      obtain ⟨tb, htb⟩ : ∃ tb, wr.heap.size = tb := ⟨_, rfl⟩
      rw [htb] at hx0 hbb
      by_cases hk0 : k = 0
      · have hk1 : (0 < k) = False := by simp; omega
        obtain ⟨z1, z2⟩ := box_cells hx0
        rw [if_pos hk0] at HST
        have HO0 := hide (HOU.out hk0)
        clear hk0
        go_wp2_with (first | (go_at_call 33; go_must (refine (HFX.out _).mono ?_; rintro e w3 ⟨rfl, hB3⟩; have HBU3 := hide (builder_below HBU2.out hB3); have hs3 := Nat.le_trans hsa hB3.size)) | (go_at_call 90; go_must (refine (pwst_any _ _ _ _ _ HBU3.out (by omega) (by omega) hs3).mono ?_; rintro e w4 ⟨⟨v4, rfl⟩, hBU4, hB4, ho4⟩)))
        refine ⟨⟨k + 1, by go_num, by omega, ?_, (hBB.trans (hB3.mono hsa)).trans hB4⟩, by simp [intOf]; omega⟩
        rw [HST.out]
        rw [HO0.out] at hBU4
        exact hBU4
      · have hk1 : (0 < k) = True := by simp; omega
        rw [if_neg hk0] at HST
        clear hk0
        go_wp2_with (first | (go_at_call 89; go_must (refine (pwb_any _ _ _ _ HBU2.out (by omega) hsa).mono ?_; rintro e w2 ⟨⟨v2, rfl⟩, hBU2, hB2, ho2⟩; have hx2 := box_kept hx0 hbb ho2; have hz := box_cells hx2; have z1 := hz.1; have z2 := hz.2; have HBU22 := hide hBU2; have hs2 := Nat.le_trans hsa hB2.size; clear hz hBU2)) | (go_at_call 33; go_must (refine (HFX.out _).mono ?_; rintro e w3 ⟨rfl, hB3⟩; have HBU3 := hide (builder_below HBU22.out hB3); have hs3 := Nat.le_trans hs2 hB3.size)) | (go_at_call 90; go_must (refine (pwst_any _ _ _ _ _ HBU3.out (by simp; omega) (by omega) hs3).mono ?_; rintro e w4 ⟨⟨v4, rfl⟩, hBU4, hB4, ho4⟩)))
        refine ⟨⟨k + 1, by go_num, by omega, ?_, ((hBB.trans hB2).trans (hB3.mono hs2)).trans hB4⟩, by simp [intOf]; omega⟩
        rw [HST.out]
        exact hBU4
    · have hkn : k = n := by omega
      have htk : H.take k = H := List.take_of_length_le (by rw [HHL.out]; omega)
      rw [htk] at hbu
      have HBU := hide hbu
      have hsw := hB.size
      clear hbu htk
      go_wp2_with (go_at_call 91; go_must (refine (pbst_any _ _ _ _ HBU.out hsw).mono ?_; rintro e w2 ⟨rfl, hB2⟩))
      go_ret
      exact ⟨rfl, hB.trans hB2⟩
set_option maxRecDepth 100000 in
set_option maxHeartbeats 2000000 in
/-- suffix.joined, at shownForm -/
theorem pjs_any (L : List (ByteArray × ByteArray)) (sh : List UInt8 → List UInt8) (g cap : Nat) (w : World) (hL : LabsAt w g L) (hn : L.length ≤ 100) (hsh : ∀ x ∈ L, (sh x.2.data.toList).length ≤ 1000)
    (hf : ∀ x ∈ L, ∀ w, Calls Tryz.prog 73 #[.agg #[.string x.1, .string x.2]] w fun e w' => e = .returned (.string ⟨(sh x.2.data.toList).toArray⟩) ∧ Below w.heap.size w w') :
    Calls Tryz.prog 53 #[.slice (some ⟨g, 0, none⟩) L.length cap, .func (.func 73) #[] #[]] w fun e w' => e = .returned (.string ⟨(Sx.dotted (L.map fun x => sh x.2.data.toList)).toArray⟩) ∧ Below w.heap.size w w' := by
  obtain ⟨H, hH⟩ : ∃ H, L.map (fun x => sh x.2.data.toList) = H := ⟨_, rfl⟩
  have hHl : H.length = L.length := by rw [← hH, List.length_map]
  have hHk : ∀ k (h : k < L.length) (h2 : k < H.length), H[k] = sh L[k].2.data.toList := fun k h h2 => by simp [← hH]
  rw [hH]
  have hlen : ∀ k, k ≤ L.length → (Sx.dotted (H.take k)).length ≤ k * 1001 := by
    intro k
    induction k with
    | zero => intro _; simp [Sx.dotted]
    | succ k ih =>
      intro hk
      rw [dot_take H k (by omega), List.length_append, hHk k (by omega) (by omega)]
      have h1 := ih (by omega)
      have h2 := hsh L[k] (List.getElem_mem (by omega))
      split
      · simp; omega
      · rw [List.length_append]; simp; omega
  have HL := hide hL
  have HF := hide hf
  have HHK := hide hHk
  have HLEN := hide hlen
  have HSH := hide hsh
  have HHL := hide hHl
  have hgl := hL.1
  clear hL hf hHk hlen hsh hH
  have hb0 : Lib.IsBuilderF 134 5 w.heap.size w.heap.size (Lib.byteCells (Sx.dotted (H.take 0))) (w.alloc (.cells #[.pointer none, .slice none 0 0] 134)) :=
    .inl ⟨Nat.le_refl _, .slice none 0 0, by show (w.heap.push _)[w.heap.size]? = _; exact Array.getElem?_push_size, World.ownsRowF_nil _ _ _ _, by simp [Value.ownBlock]⟩
  have hB0 : Below w.heap.size w (w.alloc (.cells #[.pointer none, .slice none 0 0] 134)) := (Below.refl _ _).alloc (Nat.le_refl _) _
  obtain ⟨n, hnn⟩ : ∃ n, L.length = n := ⟨_, rfl⟩
  rw [hnn] at hn HHL HLEN hHl ⊢
  have HNN := hide hnn
  clear hnn hHl
  go_enter Tryz.func53, Tryz.ntmps53
  go_wp2
  go_loopw [10] (fun i wr => ∃ k : Nat, i = .int .i64 k ∧ k ≤ n ∧ Lib.IsBuilderF 134 5 w.heap.size w.heap.size (Lib.byteCells (Sx.dotted (H.take k))) wr ∧ Below w.heap.size w wr) (fun i _ => (n - intOf i).toNat)
  case atStart => exact ⟨0, rfl, by omega, hb0, hB0⟩
  case round =>
    obtain ⟨k, rfl, hk, hbu, hB⟩ := hrel
    clear hb0 hB0
    by_cases hlt : k < n
    · have hkl : k < L.length := by rw [HNN.out]; exact hlt
      have hLw := HL.out.below hB hgl
      obtain ⟨j1, j2⟩ := hLw.2.1 k hkl
      have hfx := HF.out L[k] (List.getElem_mem hkl)
      have hst := dot_take H k (by rw [HHL.out]; exact hlt)
      rw [HHK.out k hkl (by rw [HHL.out]; exact hlt)] at hst
      have hsz := HSH.out L[k] (List.getElem_mem hkl)
      have hln := HLEN.out k hk
      obtain ⟨x, hx⟩ : ∃ x, L[k] = x := ⟨_, rfl⟩
      rw [hx] at j1 j2 hfx hst hsz
      obtain ⟨xa, xb⟩ := x
      simp only at j1 j2 hfx hst hsz
      obtain ⟨T, hT⟩ : ∃ T : ByteArray, ⟨(sh xb.data.toList).toArray⟩ = T := ⟨_, rfl⟩
      have hTl : T.data.toList = sh xb.data.toList := by rw [← hT]
      have hTz : T.size ≤ 1000 := by rw [← ba_len, hTl]; exact hsz
      rw [hT] at hfx
      rw [← hTl] at hst
      obtain ⟨out, ho⟩ : ∃ out, Sx.dotted (H.take k) = out := ⟨_, rfl⟩
      have HOU : Hid (k = 0 → out = []) := hide (fun h => by rw [← ho, h]; rfl)
      rw [ho] at hst hbu hln
      have HFX := hide hfx
      have HST := hide hst
      have hle : k * 1001 ≤ 100100 := by omega
      have e1 : (0 : Int) ≤ (k : Int) := by omega
      have e2 : (k : Int) < (n : Int) := by omega
      have hsw := hB.size
      have HBU := hide hbu
      have hbl := builder_size hbu
      clear hfx hst ho hT hTl hx hsz hLw hbu
      have hx0 : (wr.alloc (.cells #[.string xa, .string xb] 69)).heap[wr.heap.size]? = some (.cells #[.string xa, .string xb] 69) := by show (wr.heap.push _)[wr.heap.size]? = _; exact Array.getElem?_push_size
      have hBa : Below wr.heap.size wr (wr.alloc (.cells #[.string xa, .string xb] 69)) := (Below.refl _ wr).alloc (Nat.le_refl _) _
      have HBU2 := hide (builder_below HBU.out hBa)
      have hBB := hB.trans (hBa.mono hsw)
      have hsa : w.heap.size ≤ (wr.alloc (.cells #[.string xa, .string xb] 69)).heap.size := Nat.le_trans hsw hBa.size
      have hbb : wr.heap.size ≠ w.heap.size := by omega
      obtain ⟨tb, htb⟩ : ∃ tb, wr.heap.size = tb := ⟨_, rfl⟩
      rw [htb] at hx0 hbb
      by_cases hk0 : k = 0
      · have hk1 : (0 < k) = False := by simp; omega
        obtain ⟨z1, z2⟩ := box_cells hx0
        rw [if_pos hk0] at HST
        have HO0 := hide (HOU.out hk0)
        clear hk0
        go_wp2_with (first | (go_at_call 73; go_must (refine (HFX.out _).mono ?_; rintro e w3 ⟨rfl, hB3⟩; have HBU3 := hide (builder_below HBU2.out hB3); have hs3 := Nat.le_trans hsa hB3.size)) | (go_at_call 90; go_must (refine (pwst_any _ _ _ _ _ HBU3.out (by omega) (by omega) hs3).mono ?_; rintro e w4 ⟨⟨v4, rfl⟩, hBU4, hB4, ho4⟩)))
        refine ⟨⟨k + 1, by go_num, by omega, ?_, (hBB.trans (hB3.mono hsa)).trans hB4⟩, by simp [intOf]; omega⟩
        rw [HST.out]
        rw [HO0.out] at hBU4
        exact hBU4
      · have hk1 : (0 < k) = True := by simp; omega
        rw [if_neg hk0] at HST
        clear hk0
        go_wp2_with (first | (go_at_call 89; go_must (refine (pwb_any _ _ _ _ HBU2.out (by omega) hsa).mono ?_; rintro e w2 ⟨⟨v2, rfl⟩, hBU2, hB2, ho2⟩; have hx2 := box_kept hx0 hbb ho2; have hz := box_cells hx2; have z1 := hz.1; have z2 := hz.2; have HBU22 := hide hBU2; have hs2 := Nat.le_trans hsa hB2.size; clear hz hBU2)) | (go_at_call 73; go_must (refine (HFX.out _).mono ?_; rintro e w3 ⟨rfl, hB3⟩; have HBU3 := hide (builder_below HBU22.out hB3); have hs3 := Nat.le_trans hs2 hB3.size)) | (go_at_call 90; go_must (refine (pwst_any _ _ _ _ _ HBU3.out (by simp; omega) (by omega) hs3).mono ?_; rintro e w4 ⟨⟨v4, rfl⟩, hBU4, hB4, ho4⟩)))
        refine ⟨⟨k + 1, by go_num, by omega, ?_, ((hBB.trans hB2).trans (hB3.mono hs2)).trans hB4⟩, by simp [intOf]; omega⟩
        rw [HST.out]
        exact hBU4
    · have hkn : k = n := by omega
      have htk : H.take k = H := List.take_of_length_le (by rw [HHL.out]; omega)
      rw [htk] at hbu
      have HBU := hide hbu
      have hsw := hB.size
      clear hbu htk
      go_wp2_with (go_at_call 91; go_must (refine (pbst_any _ _ _ _ HBU.out hsw).mono ?_; rintro e w2 ⟨rfl, hB2⟩))
      go_ret
      exact ⟨rfl, hB.trans hB2⟩
end Go.Proofs.YtgohllfpceeboabGreatDoor
namespace Go.Proofs.YtgohllfpceeboabGreatDoor
open Go.RowKit
attribute [local go_sem ↓] Go.wp_at_zero Go.wp_at_succ
abbrev Lab := ByteArray × ByteArray
def noLab : Lab := (⟨#[]⟩, ⟨#[]⟩)
/-- Labels that lie in a block, two texts each, and may be written. -/
def LbAt (W : World) (g : Nat) (l : List Lab) : Prop :=
  g < W.heap.size ∧ (∀ j (h : j < l.length), W.cell? ⟨g, j * 2, none⟩ = some (.string l[j].1) ∧ W.cell? ⟨g, j * 2 + 1, none⟩ = some (.string l[j].2)) ∧ ∀ o, W.frozen? ⟨g, o, none⟩ = false
theorem LbAt.set {W : World} {g : Nat} {l : List Lab} (h : LbAt W g l) (k : Nat) (hk : k < l.length) (x : Lab) : LbAt ((W.setCell ⟨g, k * 2, none⟩ (.string x.1)).setCell ⟨g, k * 2 + 1, none⟩ (.string x.2)) g (l.set k x) := by
  obtain ⟨h1, h2, h3⟩ := h
  refine ⟨by rw [World.size_setCell, World.size_setCell]; exact h1, fun j hj => ?_, fun o => by rw [World.frozen?_setCell, World.frozen?_setCell]; exact h3 o⟩
  have hj2 : j < l.length := by simpa using hj
  obtain ⟨k1, k2⟩ := h2 k hk
  obtain ⟨j1, j2⟩ := h2 j hj2
  have ne1 : (⟨g, k * 2, none⟩ : Addr) ≠ ⟨g, k * 2 + 1, none⟩ := by simp
  by_cases e : k = j
  · subst e
    constructor
    · rw [World.cell?_setCell_other _ _ _ _ (Ne.symm ne1), World.cell?_setCell_same _ _ _ k1]; simp
    · rw [World.cell?_setCell_same _ _ _ ((World.cell?_setCell_other _ _ _ _ ne1).trans k2)]; simp
  · constructor
    · rw [World.cell?_setCell_other _ _ _ _ (by (simp; try omega)), World.cell?_setCell_other _ _ _ _ (by (simp; try omega)), j1]
      simp [e]
    · rw [World.cell?_setCell_other _ _ _ _ (by (simp; try omega)), World.cell?_setCell_other _ _ _ _ (by (simp; try omega)), j2]
      simp [e]
def swapB (l : List Lab) (i j : Nat) : List Lab := (l.set i (l.getD j noLab)).set j (l.getD i noLab)
def revTo (l : List Lab) : Nat → List Lab
  | 0 => l
  | k + 1 => swapB (revTo l k) k (l.length - 1 - k)
theorem revTo_len (l : List Lab) : ∀ k, (revTo l k).length = l.length := by
  intro k
  induction k with
  | zero => rfl
  | succ k ih => simp [revTo, swapB, ih]
theorem swapB_get (l : List Lab) (i j x : Nat) (hi : i < l.length) (hj : j < l.length) : (swapB l i j)[x]? = if x = j then l[i]? else if x = i then l[j]? else l[x]? := by
  unfold swapB
  rw [List.getElem?_set, List.getElem?_set]
  simp only [List.length_set, List.getD_eq_getElem?_getD, List.getElem?_eq_getElem hi, List.getElem?_eq_getElem hj, Option.getD_some]
  by_cases c1 : x = j
  · subst c1; rw [if_pos rfl, if_pos hj, if_pos rfl]
  · rw [if_neg (Ne.symm c1), if_neg c1]
    by_cases c2 : x = i
    · subst c2; rw [if_pos rfl, if_pos hi, if_pos rfl]
    · rw [if_neg (Ne.symm c2), if_neg c2]
theorem revTo_get (l : List Lab) : ∀ k, k * 2 ≤ l.length → ∀ x, (revTo l k)[x]? = if x < l.length ∧ (x < k ∨ l.length - k ≤ x) then l[l.length - 1 - x]? else l[x]? := by
  intro k
  induction k with
  | zero =>
    intro _ x
    by_cases h : x < l.length ∧ (x < 0 ∨ l.length - 0 ≤ x)
    · omega
    · rw [if_neg h]; rfl
  | succ k ih =>
    intro hk x
    have hl := revTo_len l k
    rw [revTo, swapB_get _ _ _ _ (by omega) (by omega)]
    have ih' := ih (by omega)
    by_cases c1 : x = l.length - 1 - k
    · rw [if_pos c1, ih' k, if_neg (by omega), if_pos (by omega), c1, show l.length - 1 - (l.length - 1 - k) = k from by omega]
    · rw [if_neg c1]
      by_cases c2 : x = k
      · rw [if_pos c2, ih' (l.length - 1 - k), if_neg (by omega), if_pos (by omega), c2]
      · rw [if_neg c2, ih' x]
        by_cases c3 : x < l.length ∧ (x < k ∨ l.length - k ≤ x)
        · rw [if_pos c3, if_pos (by omega)]
        · rw [if_neg c3, if_neg (by omega)]
theorem revTo_all (l : List Lab) (k : Nat) (h1 : k * 2 ≤ l.length) (h2 : l.length ≤ k * 2 + 1) : revTo l k = l.reverse := by
  apply List.ext_getElem?
  intro x
  rw [revTo_get l k h1 x]
  by_cases c : x < l.length
  · rw [List.getElem?_reverse c]
    by_cases c2 : x < k ∨ l.length - k ≤ x
    · rw [if_pos ⟨c, c2⟩]
    · rw [if_neg (fun h => c2 h.2), show l.length - 1 - x = x from by omega]
  · rw [if_neg (fun h => c h.1), List.getElem?_eq_none (by omega), List.getElem?_eq_none (by simp; omega)]
set_option maxRecDepth 100000 in
set_option maxHeartbeats 2000000 in
/-- slices.Reverse at labels -/
theorem prev_any (l : List Lab) (g cap : Nat) (w : World) (hL : LbAt w g l) (hl : l.length ≤ 100) :
    Calls Tryz.prog 88 #[.slice (some ⟨g, 0, none⟩) l.length cap] w fun e w' => (∃ v, e = .returned v) ∧ LbAt w' g l.reverse ∧ w.grownBy w' (some g) := by
  have HL := hide hL
  clear hL
  obtain ⟨n, hn⟩ : ∃ n, l.length = n := ⟨_, rfl⟩
  rw [hn] at hl ⊢
  have HN := hide hn
  clear hn
  go_enter Tryz.func88, Tryz.ntmps88
  go_wp2
  go_loopw [2, 3] (fun iv jv wr => ∃ (k : Nat) (J : Int), iv = .int .i64 k ∧ jv = .int .i64 J ∧ J + k + 1 = n ∧ k * 2 ≤ n ∧ LbAt wr g (revTo l k) ∧ w.grownBy wr (some g)) (fun iv _ _ => (1000 - intOf iv).toNat)
  case atStart => exact ⟨0, (n : Int) - 1, rfl, rfl, by omega, by omega, HL.out, grown_refl _ _⟩
  case round =>
    obtain ⟨k, J, rfl, rfl, hJ, hk, hLw, hgr⟩ := hrel
    have HJ := hide hJ
    have hrl : (revTo l k).length = n := by rw [revTo_len]; exact HN.out
    have HRL := hide hrl
    have HLW := hide hLw
    by_cases hlt : (k : Int) < J
    · obtain ⟨j, hj1, hj2⟩ : ∃ j : Nat, J = (j : Int) ∧ j + k + 1 = n := ⟨J.toNat, by omega, by omega⟩
      subst hj1
      have hd : (k < j) = True := by simp; omega
      obtain ⟨m, hm⟩ : ∃ m, revTo l k = m := ⟨_, rfl⟩
      have hst : revTo l (k + 1) = swapB m k j := by rw [revTo, hm, show l.length - 1 - k = j from by rw [HN.out]; omega]
      rw [hm] at hLw hrl
      have hkl : k < m.length := by omega
      have hjl : j < m.length := by omega
      obtain ⟨a1, a2⟩ := hLw.2.1 k hkl
      obtain ⟨b1, b2⟩ := hLw.2.1 j hjl
      obtain ⟨x, hx⟩ : ∃ x, m[k]'hkl = x := ⟨_, rfl⟩
      obtain ⟨y, hy⟩ : ∃ y, m[j]'hjl = y := ⟨_, rfl⟩
      rw [hx] at a1 a2
      rw [hy] at b1 b2
      obtain ⟨x1, x2⟩ := x
      obtain ⟨y1, y2⟩ := y
      have hfz := hLw.2.2
      have hset := (hLw.set k hkl (y1, y2)).set j (by simp; omega) (x1, x2)
      have hsw : (m.set k (y1, y2)).set j (x1, x2) = swapB m k j := by
        unfold swapB
        rw [List.getD_eq_getElem?_getD, List.getElem?_eq_getElem hjl, List.getD_eq_getElem?_getD, List.getElem?_eq_getElem hkl, Option.getD_some, Option.getD_some, hx, hy]
      rw [hsw, ← hst] at hset
      have HSET := hide hset
      clear hset hsw hx hy hLw hst hm HLW HRL
      have hfo : Tryz.prog.follows Departure.mixedOrders = true := by kernel_rfl
      have e1 : (0 : Int) ≤ (k : Int) := by omega
      have e2 : (k : Int) < (n : Int) := by omega
      have e3 : (0 : Int) ≤ (j : Int) := by omega
      have e4 : (j : Int) < (n : Int) := by omega
      simp only at a1 a2 b1 b2
      go_wp2
      go_big_region_o
      all_goals go_wp2
      exact ⟨⟨k + 1, (j : Int) - 1, by go_num, rfl, by omega, by omega, HSET.out, grown_drew (grown_set (grown_set (grown_set (grown_set hgr _ _) _ _) _ _) _ _)⟩, by simp [intOf]; omega⟩
    · have hkn : k * 2 ≤ l.length := by rw [HN.out]; exact hk
      have hrv := revTo_all l k hkn (by rw [HN.out]; omega)
      have hd : decide ((k : Int) < J) = false := by simp; omega
      rw [hrv] at HLW
      clear hLw hrv HRL hrl
      go_wp2
      go_end0
      exact ⟨⟨_, rfl⟩, HLW.out, hgr⟩
end Go.Proofs.YtgohllfpceeboabGreatDoor
/- Plain mathematics of codes: reading is writing's inverse. -/
namespace Sx
theorem dig_ok : ∀ v : Fin 36, (dig (v.val : Int)).toNat < 128 ∧ dig (v.val : Int) ≠ 45 := by decide
theorem writ_digs : ∀ (f : Nat) (d k bias : Int), 0 ≤ d → d.toNat ≤ f → ∀ x ∈ writ d k bias, x.toNat < 128 ∧ x ≠ 45 := by
  intro f
  induction f with
  | zero =>
    intro d k bias h0 hf x hx
    have h1 := thr_lo k bias
    rw [writ_last d k bias (by omega)] at hx
    have : d = 0 := by omega
    subst this
    rw [List.mem_singleton.1 hx]
    exact dig_ok ⟨0, by omega⟩
  | succ f ih =>
    intro d k bias h0 hf x hx
    have h1 := thr_lo k bias
    have h2 := thr_hi k bias
    by_cases h : thr k bias ≤ d
    · rw [writ_more d k bias h0 h] at hx
      have hs := step_lt d _ h1 h2 h
      rcases List.mem_cons.1 hx with rfl | hx
      · have hr : 0 ≤ (d - thr k bias) % (36 - thr k bias) ∧ (d - thr k bias) % (36 - thr k bias) < 36 - thr k bias := ⟨Int.emod_nonneg _ (by omega), Int.emod_lt_of_pos _ (by omega)⟩
        have := dig_ok ⟨(thr k bias + (d - thr k bias) % (36 - thr k bias)).toNat, by omega⟩
        rw [show (((thr k bias + (d - thr k bias) % (36 - thr k bias)).toNat : Nat) : Int) = thr k bias + (d - thr k bias) % (36 - thr k bias) from by omega] at this
        exact this
      · exact ih _ _ _ hs.1 (by omega) x hx
    · rw [writ_last d k bias h] at hx
      rw [List.mem_singleton.1 hx]
      have := dig_ok ⟨d.toNat, by omega⟩
      rw [show ((d.toNat : Nat) : Int) = d from by omega] at this
      exact this
theorem writ_ok (d k bias : Int) (h0 : 0 ≤ d) : ∀ x ∈ writ d k bias, x.toNat < 128 ∧ x ≠ 45 := writ_digs d.toNat d k bias h0 (Nat.le_refl _)
theorem step_tenth (d t p : Int) (h1 : 1 ≤ t) (h2 : t ≤ 26) (hp : d < 26 * (p * 10)) (hp1 : 1 ≤ p) : (d - t) / (36 - t) < 26 * p := by
  refine Int.ediv_lt_of_lt_mul (by omega) ?_
  have h3 : 10 ≤ 36 - t := by omega
  have h4 : 26 * p * 10 ≤ 26 * p * (36 - t) := Int.mul_le_mul_of_nonneg_left h3 (by omega)
  omega
/-- How many digits a number has. -/
theorem writ_short : ∀ (j : Nat) (d k bias : Int), 0 ≤ d → d < 26 * 10 ^ j → (writ d k bias).length ≤ j + 2 := by
  intro j
  induction j with
  | zero =>
    intro d k bias h0 h
    have h1 := thr_lo k bias
    have h2 := thr_hi k bias
    by_cases ht : thr k bias ≤ d
    · rw [writ_more d k bias h0 ht]
      have e : (d - thr k bias) / (36 - thr k bias) = 0 := Int.ediv_eq_zero_of_lt (by omega) (by simp at h; omega)
      rw [e, writ_last 0 (k + 1) bias (by have := thr_lo (k + 1) bias; omega)]
      simp
    · rw [writ_last d k bias ht]; simp
  | succ j ih =>
    intro d k bias h0 h
    have h1 := thr_lo k bias
    have h2 := thr_hi k bias
    by_cases ht : thr k bias ≤ d
    · rw [writ_more d k bias h0 ht, List.length_cons]
      have hs := step_lt d _ h1 h2 ht
      rw [Int.pow_succ] at h
      have := ih ((d - thr k bias) / (36 - thr k bias)) (k + 1) bias hs.1 (step_tenth d _ _ h1 h2 h (by have := pow10 j; omega))
      omega
    · rw [writ_last d k bias ht]; simp
/-- Reading what was written. -/
theorem num_writ (bias : Int) (r : List UInt8) : ∀ (f : Nat) (d D w : Int) (k : Nat), 0 ≤ d → d.toNat ≤ f → k + (writ d k bias).length ≤ 8 → numF bias D w k (writ d k bias ++ r) = some (D + d * w, r) := by
  intro f
  induction f with
  | zero =>
    intro d D w k h0 hf hk
    have h1 := thr_lo k bias
    have hd : d = 0 := by omega
    subst hd
    rw [writ_last 0 k bias (by omega)] at hk ⊢
    simp only [List.cons_append, List.nil_append, numF]
    rw [if_neg (by simp at hk; omega), show valOf (dig 0) = 0 from valOf_dig 0 (by omega), if_neg (by omega), if_pos (by omega)]
  | succ f ih =>
    intro d D w k h0 hf hk
    have h1 := thr_lo k bias
    have h2 := thr_hi k bias
    by_cases ht : thr k bias ≤ d
    · rw [writ_more d k bias h0 ht] at hk ⊢
      have hs := step_lt d _ h1 h2 ht
      have hr : 0 ≤ (d - thr k bias) % (36 - thr k bias) ∧ (d - thr k bias) % (36 - thr k bias) < 36 - thr k bias := ⟨Int.emod_nonneg _ (by omega), Int.emod_lt_of_pos _ (by omega)⟩
      obtain ⟨v, hv⟩ : ∃ v : Nat, thr k bias + (d - thr k bias) % (36 - thr k bias) = (v : Int) := ⟨(thr k bias + (d - thr k bias) % (36 - thr k bias)).toNat, by omega⟩
      have hdm := Int.emod_add_mul_ediv (d - thr k bias) (36 - thr k bias)
      rw [hv] at hk ⊢
      simp only [List.length_cons] at hk
      simp only [List.cons_append, numF]
      rw [if_neg (by omega), valOf_dig v (by omega), if_neg (by omega), if_neg (by omega)]
      have := ih ((d - thr k bias) / (36 - thr k bias)) (D + v * w) (w * (36 - thr k bias)) (k + 1) hs.1 (by omega) (by rw [show ((k + 1 : Nat) : Int) = (k : Int) + 1 from by omega]; omega)
      rw [show ((k + 1 : Nat) : Int) = (k : Int) + 1 from by omega] at this
      rw [this]
      congr 2
      have e1 : d = (v : Int) + (36 - thr k bias) * ((d - thr k bias) / (36 - thr k bias)) := by omega
      generalize (d - thr k bias) / (36 - thr k bias) = q at e1 ⊢
      generalize 36 - thr k bias = u at e1 ⊢
      rw [e1, Int.add_mul, Int.mul_comm u q, Int.mul_assoc, Int.mul_comm u w, Int.add_assoc]
    · rw [writ_last d k bias ht] at hk ⊢
      obtain ⟨v, hv⟩ : ∃ v : Nat, d = (v : Int) := ⟨d.toNat, by omega⟩
      subst hv
      simp only [List.cons_append, List.nil_append, numF]
      rw [if_neg (by simp at hk; omega), valOf_dig v (by omega), if_neg (by omega), if_pos (by omega)]
/-- The letters that stand. -/
def sel : List Int → List Bool → List Int
  | c :: l, true :: f => c :: sel l f
  | _ :: l, false :: f => sel l f
  | _, _ => []
theorem sel_len : ∀ (l : List Int) (f : List Bool), l.length = f.length → (sel l f).length = f.countP id := by
  intro l
  induction l with
  | nil => intro f h; cases f with
    | nil => rfl
    | cons b f => simp at h
  | cons c l ih =>
    intro f h
    cases f with
    | nil => simp at h
    | cons b f =>
      have := ih f (by simpa using h)
      cases b with
      | true => simp [sel, this]
      | false => simp [sel, this]
theorem sel_put : ∀ (l : List Int) (f : List Bool) (c : Nat), l.length = f.length → c < l.length → f.getD c false = false → sel l (f.set c true) = putIn (sel l f) ((f.take c).countP id : Nat) (l.getD c 0) := by
  intro l
  induction l with
  | nil => intro f c h hc; simp at hc
  | cons x l ih =>
    intro f c h hc hf
    cases f with
    | nil => simp at h
    | cons b f =>
      cases c with
      | zero =>
        have hb : b = false := by simpa using hf
        subst hb
        simp [sel, putIn]
      | succ c =>
        have := ih f c (by simpa using h) (by simpa using hc) (by simpa using hf)
        cases b with
        | true =>
          simp only [List.set_cons_succ, sel, this, List.take_succ_cons, List.countP_cons, id, if_true, List.getD_cons_succ]
          unfold putIn
          simp only [Int.toNat_natCast, List.take_succ_cons, List.drop_succ_cons, List.cons_append]
        | false =>
          simp only [List.set_cons_succ, sel, this, List.take_succ_cons, List.countP_cons, id, Bool.false_eq_true, if_false, Nat.add_zero, List.getD_cons_succ]
theorem sel_all : ∀ (l : List Int) (f : List Bool), l.length = f.length → (∀ k, k < l.length → f.getD k false = true) → sel l f = l := by
  intro l
  induction l with
  | nil => intro f h _; cases f <;> rfl
  | cons x l ih =>
    intro f h hf
    cases f with
    | nil => simp at h
    | cons b f =>
      have h0 := hf 0 (by simp)
      have hb : b = true := by simpa using h0
      subst hb
      simp only [sel]
      rw [ih f (by simpa using h) (fun k hk => by have := hf (k + 1) (by simp; omega); simpa using this)]
/-- Reading the numbers of a code: all letters stand again. -/
theorem dec_ways (l : List Int) (hl : l.length ≤ 20) (hg : ∀ c ∈ l, Good c) : ∀ (todo done : List Nat), ord l = done ++ todo → ∀ (n i bias : Int) (first : Bool), 128 ≤ n → -1 ≤ i → i ≤ ((plainOf l).length + done.length : Nat) → Later l todo n i →
    decL (sel l (flags l done)) bias n (i + 1) first (encWays (todo.map (wayAt l)) bias n i (((plainOf l).length + done.length : Nat) : Int) first) = some l := by
  intro todo
  induction todo with
  | nil =>
    intro done ho n i bias first _ _ _ _
    simp only [List.map_nil, encWays, decL_nil]
    congr 1
    refine sel_all l _ (flags_len l done).symm (fun k hk => ?_)
    cases h : (flags l done).getD k false with
    | true => rfl
    | false => have := flags_no l done [] ho k hk h; cases this
  | cons c0 todo ih =>
    intro done ho n i bias first hn hi hi2 hlat
    obtain ⟨hcl, hcf, hfl⟩ := flags_todo l done (c0 :: todo) ho c0 (List.mem_cons_self ..)
    have hgd := hg l[c0] (List.getElem_mem hcl)
    have hgd2 : l.getD c0 0 = l[c0] := by simp [List.getElem?_eq_getElem hcl]
    rw [← hgd2] at hgd
    have hst := stand_le_put l done todo c0 ho
    have hsf := stand_flags l done todo c0 ho
    have hpo := plain_ord l
    have hdl := congrArg List.length ho
    rw [List.length_append, List.length_cons] at hdl
    have hsl : (sel l (flags l done)).length = (plainOf l).length + done.length := by
      rw [sel_len l _ (flags_len l done).symm]; exact flags_count l done (c0 :: todo) ho
    have hlat0 := hlat c0 (List.mem_cons_self ..)
    have hput := sel_put l (flags l done) c0 (flags_len l done).symm hcl hfl
    rw [hsf, flags_step l done todo c0 ho] at hput
    have hlat2 := later_step l done todo c0 ho
    have hih := ih (done ++ [c0]) (by rw [ho]; simp) (l.getD c0 0) (stand l c0)
    obtain ⟨lm, hlm⟩ : ∃ lm, l.getD c0 0 = lm := ⟨_, rfl⟩
    obtain ⟨st, hsd⟩ : ∃ st, stand l c0 = st := ⟨_, rfl⟩
    obtain ⟨C, hC⟩ : ∃ C : Nat, (plainOf l).length + done.length = C := ⟨_, rfl⟩
    have hC2 : (plainOf l).length + (done ++ [c0]).length = C + 1 := by rw [List.length_append, List.length_cons, List.length_nil]; omega
    rw [hC2] at hih
    rw [hlm, hsd] at hih hlat2 hput
    rw [hlm] at hgd hcf hlat0
    rw [hsd] at hst hlat0
    rw [hC] at hst hi2 hsl ⊢
    simp only [List.map_cons, wayAt, hlm, hsd, encWays]
    have hnn := passed_nn lm n st i C hlat0 hi2 (by omega) (by omega)
    obtain ⟨hg0, hg1, hg2⟩ := hgd
    have hd2 : (lm - n) * ((C : Int) + 1) + (st : Int) - (i + 1) < 26 * 10 ^ 6 := by
      have : (lm - n) * ((C : Int) + 1) ≤ 1113983 * ((C : Int) + 1) := Int.mul_le_mul_of_nonneg_right (by omega) (by omega)
      have e : (10 : Int) ^ 6 = 1000000 := by decide
      rw [e]; omega
    obtain ⟨d, hd⟩ : ∃ d, (lm - n) * ((C : Int) + 1) + (st : Int) - (i + 1) = d := ⟨_, rfl⟩
    rw [hd] at hnn hd2 ⊢
    have hws := writ_short 6 d 0 bias hnn hd2
    have hnum := num_writ bias (encWays (todo.map (fun c => (l.getD c 0, (stand l c : Int)))) (after d ((C : Int) + 1) first) lm st ((C : Int) + 1) false) d.toNat d 0 1 0 hnn (Nat.le_refl _) (by simpa using hws)
    rw [Int.zero_add, Int.mul_one] at hnum
    have hsum : i + 1 + d = (st : Int) + (lm - n) * ((C : Int) + 1) := by omega
    have hdiv : (i + 1 + d) / ((C : Int) + 1) = lm - n := by
      rw [hsum, Int.add_mul_ediv_right _ _ (by omega), Int.ediv_eq_zero_of_lt (by omega) (by omega)]; omega
    have hmod : (i + 1 + d) % ((C : Int) + 1) = st := by
      rw [hsum, Int.add_mul_emod_self_right, Int.emod_eq_of_lt (by omega) (by omega)]
    have hm := decL_more (sel l (flags l done)) bias n (i + 1) first _ d _ hnum (by rw [hsl, hdiv]; omega)
    rw [hsl, hdiv, hmod, show n + (lm - n) = lm from by omega, ← hput] at hm
    refine hm.trans ?_
    have := hih (after d ((C : Int) + 1) first) false (by omega) (by omega) (by omega) hlat2
    rw [show ((C + 1 : Nat) : Int) = (C : Int) + 1 from by omega] at this
    exact this
theorem dashTo_none (s : List UInt8) : ∀ k, (∀ j, j < k → s.getD j 0 ≠ 45) → dashTo s k = -1 := by
  intro k
  induction k with
  | zero => intro _; rfl
  | succ k ih => intro h; simp only [dashTo]; rw [if_neg (h k (by omega)), ih (fun j hj => h j (by omega))]
theorem dashTo_at (s : List UInt8) (p : Nat) (hp : s.getD p 0 = 45) : ∀ k, p < k → (∀ j, p < j → j < k → s.getD j 0 ≠ 45) → dashTo s k = p := by
  intro k
  induction k with
  | zero => intro h; omega
  | succ k ih =>
    intro h hn
    simp only [dashTo]
    by_cases e : p = k
    · subst e; rw [if_pos hp]
    · rw [if_neg (hn k (by omega) (by omega)), ih (by omega) (fun j h1 h2 => hn j h1 (by omega))]
theorem dash_no (y : List UInt8) (h : ∀ x ∈ y, x ≠ 45) : dash y = -1 := by
  refine dashTo_none y _ (fun j hj => ?_)
  rw [List.getD_eq_getElem?_getD, List.getElem?_eq_getElem hj, Option.getD_some]
  exact h _ (List.getElem_mem hj)
theorem dash_mid (x y : List UInt8) (h : ∀ b ∈ y, b ≠ 45) : dash (x ++ 45 :: y) = x.length := by
  refine dashTo_at _ x.length (by simp) _ (by simp) (fun j h1 h2 => ?_)
  have h3 : j - x.length - 1 < y.length := by simp at h2; omega
  rw [List.getD_eq_getElem?_getD, List.getElem?_append_right (by omega), show j - x.length = (j - x.length - 1) + 1 from by omega, List.getElem?_cons_succ, List.getElem?_eq_getElem h3, Option.getD_some]
  exact h _ (List.getElem_mem h3)
theorem encWays_ok (l : List Int) (hl : l.length ≤ 100) (hr : ∀ c ∈ l, c ≤ 1114111) : ∀ (todo done : List Nat), ord l = done ++ todo → ∀ (n i bias : Int) (first : Bool), 128 ≤ n → -1 ≤ i → i ≤ ((plainOf l).length + done.length : Nat) → Later l todo n i →
    (∀ x ∈ encWays (todo.map (wayAt l)) bias n i (((plainOf l).length + done.length : Nat) : Int) first, x.toNat < 128 ∧ x ≠ 45) ∧ todo.length ≤ (encWays (todo.map (wayAt l)) bias n i (((plainOf l).length + done.length : Nat) : Int) first).length ∧ (encWays (todo.map (wayAt l)) bias n i (((plainOf l).length + done.length : Nat) : Int) first).length ≤ todo.length * 11 := by
  intro todo
  induction todo with
  | nil => intro done _ n i bias first _ _ _ _; simp [encWays]
  | cons c0 todo ih =>
    intro done ho n i bias first hn hi hi2 hlat
    obtain ⟨hcl, hcf, _⟩ := flags_todo l done (c0 :: todo) ho c0 (List.mem_cons_self ..)
    have hlm : l.getD c0 0 ≤ 1114111 := by
      have := hr l[c0] (List.getElem_mem hcl)
      simpa [List.getElem?_eq_getElem hcl] using this
    have hst := stand_le_put l done todo c0 ho
    have hpo := plain_ord l
    have hdl := congrArg List.length ho
    rw [List.length_append, List.length_cons] at hdl
    have hlat0 := hlat c0 (List.mem_cons_self ..)
    have hnn := passed_nn (l.getD c0 0) n (stand l c0) i (((plainOf l).length + done.length : Nat) : Int) hlat0 hi2 (by omega) (by omega)
    have hle := passed_le (l.getD c0 0) n (stand l c0) i (((plainOf l).length + done.length : Nat) : Int) hlm hn hi (by omega) (by omega) (by omega)
    have hw := writ_short 9 ((l.getD c0 0 - n) * ((((plainOf l).length + done.length : Nat) : Int) + 1) + (stand l c0 : Int) - (i + 1)) 0 bias hnn (by rw [show (10 : Int) ^ 9 = 1000000000 from by decide]; omega)
    have hwo := writ_ok _ 0 bias hnn
    have hw1 : 1 ≤ (writ ((l.getD c0 0 - n) * ((((plainOf l).length + done.length : Nat) : Int) + 1) + (stand l c0 : Int) - (i + 1)) 0 bias).length := by
      unfold writ
      cases ((l.getD c0 0 - n) * ((((plainOf l).length + done.length : Nat) : Int) + 1) + (stand l c0 : Int) - (i + 1)).toNat with
      | zero => simp [writF]
      | succ f => simp only [writF]; split <;> simp
    obtain ⟨i1, i2, i3⟩ := ih (done ++ [c0]) (by rw [ho]; simp) (l.getD c0 0) (stand l c0) (after ((l.getD c0 0 - n) * ((((plainOf l).length + done.length : Nat) : Int) + 1) + (stand l c0 : Int) - (i + 1)) ((((plainOf l).length + done.length : Nat) : Int) + 1) first) false (by omega) (by omega) (by rw [List.length_append, List.length_cons, List.length_nil]; omega) (later_step l done todo c0 ho)
    rw [List.length_append, List.length_cons, List.length_nil, show (((plainOf l).length + (done.length + (0 + 1)) : Nat) : Int) = (((plainOf l).length + done.length : Nat) : Int) + 1 from by omega] at i1 i2 i3
    simp only [List.map_cons, wayAt, encWays, List.length_append, List.length_cons] at i1 i2 i3 ⊢
    refine ⟨fun x hx => ?_, by omega, by omega⟩
    rcases List.mem_append.1 hx with hx | hx
    · exact hwo x hx
    · exact i1 x hx
theorem enc_nums (l : List Int) (hl : l.length ≤ 100) (hr : ∀ c ∈ l, c ≤ 1114111) :
    (∀ x ∈ encWays ((ord l).map (wayAt l)) 72 128 (-1) (plainOf l).length true, x.toNat < 128 ∧ x ≠ 45) ∧ (ord l).length ≤ (encWays ((ord l).map (wayAt l)) 72 128 (-1) (plainOf l).length true).length ∧ (encWays ((ord l).map (wayAt l)) 72 128 (-1) (plainOf l).length true).length ≤ (ord l).length * 11 := by
  have := encWays_ok l hl hr (ord l) [] rfl 128 (-1) 72 true (by omega) (by omega) (by omega) (later_start l)
  simpa using this
theorem plain_ok (l : List Int) : ∀ x ∈ plainOf l, x.toNat < 128 := by
  intro x hx
  obtain ⟨c, hc, rfl⟩ := List.mem_map.1 hx
  have := (List.mem_filter.1 hc).2
  simp at this
  simp only [UInt8.toNat_ofNat']
  omega
theorem enc_ascii (l : List Int) (hl : l.length ≤ 100) (hr : ∀ c ∈ l, c ≤ 1114111) : ∀ x ∈ enc l, x.toNat < 128 := by
  intro x hx
  unfold enc headOf at hx
  rcases List.mem_append.1 hx with hx | hx
  · rcases List.mem_append.1 hx with hx | hx
    · exact plain_ok l x hx
    · split at hx
      · rw [List.mem_singleton.1 hx]; decide
      · cases hx
  · exact ((enc_nums l hl hr).1 x hx).1
theorem enc_lens (l : List Int) (hl : l.length ≤ 100) (hr : ∀ c ∈ l, c ≤ 1114111) : l.length ≤ (enc l).length ∧ (enc l).length ≤ 1201 := by
  have h1 := enc_nums l hl hr
  have h2 := plain_ord l
  have h3 : (plainOf l).length ≤ (headOf l).length ∧ (headOf l).length ≤ (plainOf l).length + 1 := by
    unfold headOf
    rw [List.length_append]
    split <;> simp
  unfold enc
  rw [List.length_append]
  omega
/-- The letters of a code are those whose code it is. -/
theorem dec_enc (l : List Int) (hl : l.length ≤ 20) (hg : ∀ c ∈ l, Good c) (hf : (l.any fun c => decide (128 ≤ c)) = true) : dec (enc l) = some l := by
  have hr : ∀ c ∈ l, c ≤ 1114111 := fun c hc => (hg c hc).2.1
  obtain ⟨n1, n2, n3⟩ := enc_nums l (by omega) hr
  have hol : 0 < (ord l).length := by
    rw [ord_len]
    obtain ⟨c, hc, h2⟩ := List.any_eq_true.1 hf
    exact List.length_pos_of_mem (List.mem_filter.2 ⟨hc, h2⟩)
  have hw := dec_ways l hl hg (ord l) [] rfl 128 (-1) 72 true (by omega) (by omega) (by omega) (later_start l)
  rw [List.length_nil, Nat.add_zero] at hw
  have hsel : ∀ (l : List Int), (∀ c ∈ l, Good c) → sel l (l.map fun c => decide (c < 128)) = (plainOf l).map fun c => (c.toNat : Int) := by
    intro l
    induction l with
    | nil => intro _; rfl
    | cons c l ih =>
      intro hg
      have ih2 := ih (fun x hx => hg x (List.mem_cons_of_mem _ hx))
      have hc := hg c (List.mem_cons_self ..)
      by_cases h : c < 128
      · have e : plainOf (c :: l) = UInt8.ofNat c.toNat :: plainOf l := by unfold plainOf; simp [h]
        rw [e, List.map_cons, List.map_cons, show decide (c < 128) = true from by simpa using h]
        simp only [sel]
        rw [ih2]
        congr 1
        rw [u8n c hc.1 (by omega)]
        have := hc.1
        omega
      · have e : plainOf (c :: l) = plainOf l := by unfold plainOf; simp [h]
        rw [e, List.map_cons, show decide (c < 128) = false from by simpa using h]
        simp only [sel]
        exact ih2
  rw [flags_zero, hsel l hg] at hw
  obtain ⟨E, hE⟩ : ∃ E, encWays ((ord l).map (wayAt l)) 72 128 (-1) (plainOf l).length true = E := ⟨_, rfl⟩
  rw [hE] at n1 n2 hw
  have henc : enc l = headOf l ++ E := by unfold enc; rw [hE]
  have hEne : 0 < E.length := by omega
  by_cases hp : 0 < (plainOf l).length
  · have hh : enc l = plainOf l ++ 45 :: E := by
      rw [henc]; unfold headOf; rw [if_pos hp]; simp
    have hd : dash (enc l) = (plainOf l).length := by rw [hh]; exact dash_mid _ _ (fun b hb => (n1 b hb).2)
    unfold dec
    rw [hd, if_neg (by rw [hh]; simp; omega), hh, Int.toNat_natCast, List.take_left, show (((plainOf l).length : Int) + 1).toNat = (plainOf l).length + 1 from by omega]
    have e : (plainOf l ++ 45 :: E).drop ((plainOf l).length + 1) = E := by
      rw [List.drop_append]; simp
    rw [e]
    exact hw
  · have hp0 : plainOf l = [] := List.eq_nil_of_length_eq_zero (by omega)
    have hh : enc l = E := by rw [henc]; unfold headOf; rw [if_neg hp, hp0]; simp
    have hd : dash (enc l) = -1 := by rw [hh]; exact dash_no _ (fun b hb => (n1 b hb).2)
    unfold dec
    rw [hd, if_neg (by rw [hh]; omega), hh]
    rw [hp0] at hw
    exact hw
theorem codeOk_enc (l : List Int) (hl : l.length ≤ 20) (hg : ∀ c ∈ l, Good c) (hf : (l.any fun c => decide (128 ≤ c)) = true) : codeOk (enc l) = true := by
  unfold codeOk
  rw [dec_enc l hl hg hf]
  simp
end Sx

