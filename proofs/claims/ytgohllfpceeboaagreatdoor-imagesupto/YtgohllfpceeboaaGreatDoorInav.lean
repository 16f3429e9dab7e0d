import Derived.Test.YtgohllfpceeboaaGreatDoorInat
import Derived.Test.YtgohllfpceeboaaGreatDoorInau
import Derived.Test.YtgohllfpceeboaaGreatDoorInar
import Derived.Shelf.Strings.BuilderK
namespace Go.Proofs.YtgohllfpceeboaaGreatDoor
open Go.RowKit
attribute [local go_sem ↓] Go.wp_at_zero Go.wp_at_succ
def LabsAt (W : World) (g : Nat) (l : List (ByteArray × ByteArray)) : Prop :=
 g < W.heap.size ∧ (∀ j (h : j < l.length), W.cell? ⟨g, j * 2, none⟩ = some (.string l[j].1) ∧ W.cell? ⟨g, j * 2 + 1, none⟩ = some (.string l[j].2)) ∧ ∀ o, W.frozen? ⟨g, o, none⟩ = false
theorem LabsAt.below {W W' : World} {g B : Nat} {l : List (ByteArray × ByteArray)} (h : LabsAt W g l) (hb : Below B W W') (hg : g < B) : LabsAt W' g l :=
 ⟨Nat.lt_of_lt_of_le h.1 hb.size, fun j hj => ⟨(hb.cell (p := ⟨g, j * 2, none⟩) hg).trans (h.2.1 j hj).1, (hb.cell (p := ⟨g, j * 2 + 1, none⟩) hg).trans (h.2.1 j hj).2⟩, fun o => (hb.frozen (p := ⟨g, o, none⟩) hg).trans (h.2.2 o)⟩
theorem ownF_below {w w' : World} {B C n : Nat} {e : TypeId} {z : Nat} {v : Value} {xs : List Value} (h : w.ownsRowF B e z v n xs) (hb : Below C w w') (hC : w.heap.size ≤ C) : w'.ownsRowF B e z v n xs := by
 refine ⟨h.1, ?_⟩
 rcases h.2 with h2 | ⟨g, cap, cur, fz, h1, h2, h3, h4⟩
 · exact .inl h2
 · exact .inr ⟨g, cap, cur, fz, h1, h2, by rw [hb.block g (by have := (Array.getElem?_eq_some_iff.1 h3).1; omega)]; exact h3, h4⟩
theorem builder_below {w w' : World} {T e : TypeId} {B b : Nat} {bs : List Value} (h : Lib.IsBuilderF T e B b bs w) (hb : Below w.heap.size w w') : Lib.IsBuilderF T e B b bs w' := by
 have key : ∀ p, Lib.BuilderAtF T e B b p bs w → Lib.BuilderAtF T e B b p bs w' := by
  rintro p ⟨h1, v, h2, h3, h4⟩
  exact ⟨h1, v, by rw [hb.block b (Array.getElem?_eq_some_iff.1 h2).1]; exact h2, ownF_below h3 hb (Nat.le_refl _), h4⟩
 exact h.imp (key _) (key _)
theorem builder_size {w : World} {T e : TypeId} {B b : Nat} {bs : List Value} (h : Lib.IsBuilderF T e B b bs w) : b < w.heap.size := by
 rcases h with ⟨_, v, h2, _⟩ | ⟨_, v, h2, _⟩ <;> exact (Array.getElem?_eq_some_iff.1 h2).1
theorem box_kept {w w' : World} {b k : Nat} {x y : Value} (h : w.heap[k]? = some (.cells #[x, y] 86)) (hk : k ≠ b) (ho : Lib.OthersKept 5 (some b) w w') : w'.heap[k]? = some (.cells #[x, y] 86) :=
 ho k _ h (fun e => hk (Option.some.inj e)) (fun c fz e => by cases e)
theorem box_cells {w : World} {k : Nat} {x y : Value} (h : w.heap[k]? = some (.cells #[x, y] 86)) : w.cell? ⟨k, 0, none⟩ = some x ∧ w.cell? ⟨k, 1, none⟩ = some y := by
 constructor <;> rw [Lib.cell_of_heap h] <;> rfl
theorem byteCells_app (a b : List UInt8) : Lib.byteCells (a ++ b) = Lib.byteCells a ++ Lib.byteCells b := by simp [Lib.byteCells]
theorem pwb_any (B b : Nat) (bs : List UInt8) (w : World) (h : Lib.IsBuilderF 133 5 B b (Lib.byteCells bs) w) (hl : bs.length ≤ 1000000) (hB : B ≤ w.heap.size) :
 Calls Tryz.prog 116 #[.pointer (some ⟨b, 0, none⟩), .int .u8 46] w fun e w' => (∃ v, e = .returned v) ∧ Lib.IsBuilderF 133 5 B b (Lib.byteCells (bs ++ [46])) w' ∧ Below B w w' ∧ Lib.OthersKept 5 (some b) w w' := by
 have := Any.Builder_WriteByte_k Tryz.layWB Tryz.bX B b (Lib.byteCells bs) 46 w h (by simp [Lib.byteCells]; omega) hB
 refine Calls.mono this ?_
 rintro e w' ⟨rfl, h1, h2, h3⟩
 exact ⟨⟨_, rfl⟩, .inr (by rw [byteCells_app]; exact h1), h2, h3⟩
theorem pwst_any (B b : Nat) (bs : List UInt8) (s : ByteArray) (w : World) (h : Lib.IsBuilderF 133 5 B b (Lib.byteCells bs) w) (hl : bs.length ≤ 1000000) (hs : s.size ≤ 1000000) (hB : B ≤ w.heap.size) :
 Calls Tryz.prog 117 #[.pointer (some ⟨b, 0, none⟩), .string s] w fun e w' => (∃ v, e = .returned v) ∧ Lib.IsBuilderF 133 5 B b (Lib.byteCells (bs ++ s.data.toList)) w' ∧ Below B w w' ∧ Lib.OthersKept 5 (some b) w w' := by
 have := Any.Builder_WriteString_k Tryz.layWS Tryz.bX B b (Lib.byteCells bs) s w h (by simp [Lib.byteCells]; omega) hB
 refine Calls.mono this ?_
 rintro e w' ⟨rfl, h1, h2, h3⟩
 exact ⟨⟨_, rfl⟩, .inr (by rw [byteCells_app]; exact h1), h2, h3⟩
theorem pbst_any (B b : Nat) (bs : List UInt8) (w : World) (h : Lib.IsBuilderF 133 5 B b (Lib.byteCells bs) w) (hB : B ≤ w.heap.size) :
 Calls Tryz.prog 84 #[.pointer (some ⟨b, 0, none⟩)] w fun e w' => e = .returned (.string ⟨bs.toArray⟩) ∧ Below B w w' := by
 have := Any.Builder_String_any_k Tryz.layST Tryz.bX B b bs w h hB
 refine Calls.mono this ?_
 rintro e w' ⟨rfl, _, h2, _⟩
 exact ⟨rfl, h2⟩
set_option maxRecDepth 100000 in
set_option maxHeartbeats 2000000 in
theorem pjp_any (L : List (ByteArray × ByteArray)) (sh : List UInt8 → List UInt8) (g cap : Nat) (w : World) (hL : LabsAt w g L) (hn : L.length ≤ 100) (hsh : ∀ x ∈ L, (sh x.2.data.toList).length ≤ 1000)
 (hf : ∀ x ∈ L, ∀ w, Calls Tryz.prog 48 #[.agg #[.string x.1, .string x.2]] w fun e w' => e = .returned (.string ⟨(sh x.2.data.toList).toArray⟩) ∧ Below w.heap.size w w') :
 Calls Tryz.prog 72 #[.slice (some ⟨g, 0, none⟩) L.length cap, .func (.func 48) #[] #[]] w fun e w' => e = .returned (.string ⟨(Sx.dotted (L.map fun x => sh x.2.data.toList)).toArray⟩) ∧ Below w.heap.size w w' := by
 obtain ⟨H, hH⟩ : ∃ H, L.map (fun x => sh x.2.data.toList) = H := ⟨_, rfl⟩
 have hHl : H.length = L.length := by rw [← hH, List.length_map]
 have hHk : ∀ k (h : k < L.length) (h2 : k < H.length), H[k] = sh L[k].2.data.toList := fun k h h2 => by simp [← hH]
 rw [hH]
 have hlen : ∀ k, k ≤ L.length → (Sx.dotted (H.take k)).length ≤ k * 1001 := by
  intro k
  induction k with
  | zero => intro _; simp [Sx.dotted]
  | succ k ih =>
    intro hk
    rw [dot_take H k (by omega), List.length_append, hHk k (by omega) (by omega)]
    have h1 := ih (by omega)
    have h2 := hsh L[k] (List.getElem_mem (by omega))
    split
    · simp; omega
    · rw [List.length_append]; simp; omega
 have HL := hide hL
 have HF := hide hf
 have HHK := hide hHk
 have HLEN := hide hlen
 have HSH := hide hsh
 have HHL := hide hHl
 have hgl := hL.1
 clear hL hf hHk hlen hsh hH
 have hb0 : Lib.IsBuilderF 133 5 w.heap.size w.heap.size (Lib.byteCells (Sx.dotted (H.take 0))) (w.alloc (.cells #[.pointer none, .slice none 0 0] 133)) :=
  .inl ⟨Nat.le_refl _, .slice none 0 0, by show (w.heap.push _)[w.heap.size]? = _; exact Array.getElem?_push_size, World.ownsRowF_nil _ _ _ _, by simp [Value.ownBlock]⟩
 have hB0 : Below w.heap.size w (w.alloc (.cells #[.pointer none, .slice none 0 0] 133)) := (Below.refl _ _).alloc (Nat.le_refl _) _
 obtain ⟨n, hnn⟩ : ∃ n, L.length = n := ⟨_, rfl⟩
 rw [hnn] at hn HHL HLEN hHl ⊢
 have HNN := hide hnn
 clear hnn hHl
 go_enter Tryz.func72, Tryz.ntmps72
 go_wp2
 go_loopw [10] (fun i wr => ∃ k : Nat, i = .int .i64 k ∧ k ≤ n ∧ Lib.IsBuilderF 133 5 w.heap.size w.heap.size (Lib.byteCells (Sx.dotted (H.take k))) wr ∧ Below w.heap.size w wr) (fun i _ => (n - intOf i).toNat)
 case atStart => exact ⟨0, rfl, by omega, hb0, hB0⟩
 case round =>
  obtain ⟨k, rfl, hk, hbu, hB⟩ := hrel
  clear hb0 hB0
  by_cases hlt : k < n
  · have hkl : k < L.length := by rw [HNN.out]; exact hlt
    have hLw := HL.out.below hB hgl
    obtain ⟨j1, j2⟩ := hLw.2.1 k hkl
    have hfx := HF.out L[k] (List.getElem_mem hkl)
    have hst := dot_take H k (by rw [HHL.out]; exact hlt)
    rw [HHK.out k hkl (by rw [HHL.out]; exact hlt)] at hst
    have hsz := HSH.out L[k] (List.getElem_mem hkl)
    have hln := HLEN.out k hk
    obtain ⟨x, hx⟩ : ∃ x, L[k] = x := ⟨_, rfl⟩
    rw [hx] at j1 j2 hfx hst hsz
    obtain ⟨xa, xb⟩ := x
    simp only at j1 j2 hfx hst hsz
    obtain ⟨T, hT⟩ : ∃ T : ByteArray, ⟨(sh xb.data.toList).toArray⟩ = T := ⟨_, rfl⟩
    have hTl : T.data.toList = sh xb.data.toList := by rw [← hT]
    have hTz : T.size ≤ 1000 := by rw [← ba_len, hTl]; exact hsz
    rw [hT] at hfx
    rw [← hTl] at hst
    obtain ⟨out, ho⟩ : ∃ out, Sx.dotted (H.take k) = out := ⟨_, rfl⟩
    have HOU : Hid (k = 0 → out = []) := hide (fun h => by rw [← ho, h]; rfl)
    rw [ho] at hst hbu hln
    have HFX := hide hfx
    have HST := hide hst
    have hle : k * 1001 ≤ 100100 := by omega
    have e1 : (0 : Int) ≤ (k : Int) := by omega
    have e2 : (k : Int) < (n : Int) := by omega
    have hsw := hB.size
    have HBU := hide hbu
    have hbl := builder_size hbu
    clear hfx hst ho hT hTl hx hsz hLw hbu
    have hx0 : (wr.alloc (.cells #[.string xa, .string xb] 86)).heap[wr.heap.size]? = some (.cells #[.string xa, .string xb] 86) := by show (wr.heap.push _)[wr.heap.size]? = _; exact Array.getElem?_push_size
    have hBa : Below wr.heap.size wr (wr.alloc (.cells #[.string xa, .string xb] 86)) := (Below.refl _ wr).alloc (Nat.le_refl _) _
    have HBU2 := hide (builder_below HBU.out hBa)
    have hBB := hB.trans (hBa.mono hsw)
    have hsa : w.heap.size ≤ (wr.alloc (.cells #[.string xa, .string xb] 86)).heap.size := Nat.le_trans hsw hBa.size
    have hbb : wr.heap.size ≠ w.heap.size := by omega
    obtain ⟨tb, htb⟩ : ∃ tb, wr.heap.size = tb := ⟨_, rfl⟩
    rw [htb] at hx0 hbb
    by_cases hk0 : k = 0
    · have hk1 : (0 < k) = False := by simp; omega
      obtain ⟨z1, z2⟩ := box_cells hx0
      rw [if_pos hk0] at HST
      have HO0 := hide (HOU.out hk0)
      clear hk0
      go_wp2_with (first | (go_at_call 48; go_must (refine (HFX.out _).mono ?_; rintro e w3 ⟨rfl, hB3⟩; have HBU3 := hide (builder_below HBU2.out hB3); have hs3 := Nat.le_trans hsa hB3.size)) | (go_at_call 117; go_must (refine (pwst_any _ _ _ _ _ HBU3.out (by omega) (by omega) hs3).mono ?_; rintro e w4 ⟨⟨v4, rfl⟩, hBU4, hB4, ho4⟩)))
      refine ⟨⟨k + 1, by go_num, by omega, ?_, (hBB.trans (hB3.mono hsa)).trans hB4⟩, by simp [intOf]; omega⟩
      rw [HST.out]
      rw [HO0.out] at hBU4
      exact hBU4
    · have hk1 : (0 < k) = True := by simp; omega
      rw [if_neg hk0] at HST
      clear hk0
      go_wp2_with (first | (go_at_call 116; go_must (refine (pwb_any _ _ _ _ HBU2.out (by omega) hsa).mono ?_; rintro e w2 ⟨⟨v2, rfl⟩, hBU2, hB2, ho2⟩; have hx2 := box_kept hx0 hbb ho2; have hz := box_cells hx2; have z1 := hz.1; have z2 := hz.2; have HBU22 := hide hBU2; have hs2 := Nat.le_trans hsa hB2.size; clear hz hBU2)) | (go_at_call 48; go_must (refine (HFX.out _).mono ?_; rintro e w3 ⟨rfl, hB3⟩; have HBU3 := hide (builder_below HBU22.out hB3); have hs3 := Nat.le_trans hs2 hB3.size)) | (go_at_call 117; go_must (refine (pwst_any _ _ _ _ _ HBU3.out (by simp; omega) (by omega) hs3).mono ?_; rintro e w4 ⟨⟨v4, rfl⟩, hBU4, hB4, ho4⟩)))
      refine ⟨⟨k + 1, by go_num, by omega, ?_, ((hBB.trans hB2).trans (hB3.mono hs2)).trans hB4⟩, by simp [intOf]; omega⟩
      rw [HST.out]
      exact hBU4
  · have hkn : k = n := by omega
    have htk : H.take k = H := List.take_of_length_le (by rw [HHL.out]; omega)
    rw [htk] at hbu
    have HBU := hide hbu
    have hsw := hB.size
    clear hbu htk
    go_wp2_with (go_at_call 84; go_must (refine (pbst_any _ _ _ _ HBU.out hsw).mono ?_; rintro e w2 ⟨rfl, hB2⟩))
    go_ret
    exact ⟨rfl, hB.trans hB2⟩
end Go.Proofs.YtgohllfpceeboaaGreatDoor
namespace Go.Proofs.YtgohllfpceeboaaGreatDoor
open Go.RowKit
attribute [local go_sem ↓] Go.wp_at_zero Go.wp_at_succ
abbrev Lab := ByteArray × ByteArray
def noLab : Lab := (⟨#[]⟩, ⟨#[]⟩)
def LbAt (W : World) (g : Nat) (l : List Lab) : Prop :=
 g < W.heap.size ∧ (∀ j (h : j < l.length), W.cell? ⟨g, j * 2, none⟩ = some (.string l[j].1) ∧ W.cell? ⟨g, j * 2 + 1, none⟩ = some (.string l[j].2)) ∧ ∀ o, W.frozen? ⟨g, o, none⟩ = false
theorem LbAt.set {W : World} {g : Nat} {l : List Lab} (h : LbAt W g l) (k : Nat) (hk : k < l.length) (x : Lab) : LbAt ((W.setCell ⟨g, k * 2, none⟩ (.string x.1)).setCell ⟨g, k * 2 + 1, none⟩ (.string x.2)) g (l.set k x) := by
 obtain ⟨h1, h2, h3⟩ := h
 refine ⟨by rw [World.size_setCell, World.size_setCell]; exact h1, fun j hj => ?_, fun o => by rw [World.frozen?_setCell, World.frozen?_setCell]; exact h3 o⟩
 have hj2 : j < l.length := by simpa using hj
 obtain ⟨k1, k2⟩ := h2 k hk
 obtain ⟨j1, j2⟩ := h2 j hj2
 have ne1 : (⟨g, k * 2, none⟩ : Addr) ≠ ⟨g, k * 2 + 1, none⟩ := by simp
 by_cases e : k = j
 · subst e
   constructor
   · rw [World.cell?_setCell_other _ _ _ _ (Ne.symm ne1), World.cell?_setCell_same _ _ _ k1]; simp
   · rw [World.cell?_setCell_same _ _ _ ((World.cell?_setCell_other _ _ _ _ ne1).trans k2)]; simp
 · constructor
   · rw [World.cell?_setCell_other _ _ _ _ (by (simp; try omega)), World.cell?_setCell_other _ _ _ _ (by (simp; try omega)), j1]
     simp [e]
   · rw [World.cell?_setCell_other _ _ _ _ (by (simp; try omega)), World.cell?_setCell_other _ _ _ _ (by (simp; try omega)), j2]
     simp [e]
def swapB (l : List Lab) (i j : Nat) : List Lab := (l.set i (l.getD j noLab)).set j (l.getD i noLab)
def revTo (l : List Lab) : Nat → List Lab
 | 0 => l
 | k + 1 => swapB (revTo l k) k (l.length - 1 - k)
theorem revTo_len (l : List Lab) : ∀ k, (revTo l k).length = l.length := by
 intro k
 induction k with
 | zero => rfl
 | succ k ih => simp [revTo, swapB, ih]
theorem swapB_get (l : List Lab) (i j x : Nat) (hi : i < l.length) (hj : j < l.length) : (swapB l i j)[x]? = if x = j then l[i]? else if x = i then l[j]? else l[x]? := by
 unfold swapB
 rw [List.getElem?_set, List.getElem?_set]
 simp only [List.length_set, List.getD_eq_getElem?_getD, List.getElem?_eq_getElem hi, List.getElem?_eq_getElem hj, Option.getD_some]
 by_cases c1 : x = j
 · subst c1; rw [if_pos rfl, if_pos hj, if_pos rfl]
 · rw [if_neg (Ne.symm c1), if_neg c1]
   by_cases c2 : x = i
   · subst c2; rw [if_pos rfl, if_pos hi, if_pos rfl]
   · rw [if_neg (Ne.symm c2), if_neg c2]
theorem revTo_get (l : List Lab) : ∀ k, k * 2 ≤ l.length → ∀ x, (revTo l k)[x]? = if x < l.length ∧ (x < k ∨ l.length - k ≤ x) then l[l.length - 1 - x]? else l[x]? := by
 intro k
 induction k with
 | zero =>
   intro _ x
   by_cases h : x < l.length ∧ (x < 0 ∨ l.length - 0 ≤ x)
   · omega
   · rw [if_neg h]; rfl
 | succ k ih =>
   intro hk x
   have hl := revTo_len l k
   rw [revTo, swapB_get _ _ _ _ (by omega) (by omega)]
   have ih' := ih (by omega)
   by_cases c1 : x = l.length - 1 - k
   · rw [if_pos c1, ih' k, if_neg (by omega), if_pos (by omega), c1, show l.length - 1 - (l.length - 1 - k) = k from by omega]
   · rw [if_neg c1]
     by_cases c2 : x = k
     · rw [if_pos c2, ih' (l.length - 1 - k), if_neg (by omega), if_pos (by omega), c2]
     · rw [if_neg c2, ih' x]
       by_cases c3 : x < l.length ∧ (x < k ∨ l.length - k ≤ x)
       · rw [if_pos c3, if_pos (by omega)]
       · rw [if_neg c3, if_neg (by omega)]
theorem revTo_all (l : List Lab) (k : Nat) (h1 : k * 2 ≤ l.length) (h2 : l.length ≤ k * 2 + 1) : revTo l k = l.reverse := by
 apply List.ext_getElem?
 intro x
 rw [revTo_get l k h1 x]
 by_cases c : x < l.length
 · rw [List.getElem?_reverse c]
   by_cases c2 : x < k ∨ l.length - k ≤ x
   · rw [if_pos ⟨c, c2⟩]
   · rw [if_neg (fun h => c2 h.2), show l.length - 1 - x = x from by omega]
 · rw [if_neg (fun h => c h.1), List.getElem?_eq_none (by omega), List.getElem?_eq_none (by simp; omega)]
set_option maxRecDepth 100000 in
set_option maxHeartbeats 2000000 in
theorem prev_any (l : List Lab) (g cap : Nat) (w : World) (hL : LbAt w g l) (hl : l.length ≤ 100) :
 Calls Tryz.prog 115 #[.slice (some ⟨g, 0, none⟩) l.length cap] w fun e w' => (∃ v, e = .returned v) ∧ LbAt w' g l.reverse ∧ w.grownBy w' (some g) := by
 have HL := hide hL
 clear hL
 obtain ⟨n, hn⟩ : ∃ n, l.length = n := ⟨_, rfl⟩
 rw [hn] at hl ⊢
 have HN := hide hn
 clear hn
 go_enter Tryz.func115, Tryz.ntmps115
 go_wp2
 go_loopw [2, 3] (fun iv jv wr => ∃ (k : Nat) (J : Int), iv = .int .i64 k ∧ jv = .int .i64 J ∧ J + k + 1 = n ∧ k * 2 ≤ n ∧ LbAt wr g (revTo l k) ∧ w.grownBy wr (some g)) (fun iv _ _ => (1000 - intOf iv).toNat)
 case atStart => exact ⟨0, (n : Int) - 1, rfl, rfl, by omega, by omega, HL.out, grown_refl _ _⟩
 case round =>
  obtain ⟨k, J, rfl, rfl, hJ, hk, hLw, hgr⟩ := hrel
  have HJ := hide hJ
  have hrl : (revTo l k).length = n := by rw [revTo_len]; exact HN.out
  have HRL := hide hrl
  have HLW := hide hLw
  by_cases hlt : (k : Int) < J
  · obtain ⟨j, hj1, hj2⟩ : ∃ j : Nat, J = (j : Int) ∧ j + k + 1 = n := ⟨J.toNat, by omega, by omega⟩
    subst hj1
    have hd : (k < j) = True := by simp; omega
    obtain ⟨m, hm⟩ : ∃ m, revTo l k = m := ⟨_, rfl⟩
    have hst : revTo l (k + 1) = swapB m k j := by rw [revTo, hm, show l.length - 1 - k = j from by rw [HN.out]; omega]
    rw [hm] at hLw hrl
    have hkl : k < m.length := by omega
    have hjl : j < m.length := by omega
    obtain ⟨a1, a2⟩ := hLw.2.1 k hkl
    obtain ⟨b1, b2⟩ := hLw.2.1 j hjl
    obtain ⟨x, hx⟩ : ∃ x, m[k]'hkl = x := ⟨_, rfl⟩
    obtain ⟨y, hy⟩ : ∃ y, m[j]'hjl = y := ⟨_, rfl⟩
    rw [hx] at a1 a2
    rw [hy] at b1 b2
    obtain ⟨x1, x2⟩ := x
    obtain ⟨y1, y2⟩ := y
    have hfz := hLw.2.2
    have hset := (hLw.set k hkl (y1, y2)).set j (by simp; omega) (x1, x2)
    have hsw : (m.set k (y1, y2)).set j (x1, x2) = swapB m k j := by
     unfold swapB
     rw [List.getD_eq_getElem?_getD, List.getElem?_eq_getElem hjl, List.getD_eq_getElem?_getD, List.getElem?_eq_getElem hkl, Option.getD_some, Option.getD_some, hx, hy]
    rw [hsw, ← hst] at hset
    have HSET := hide hset
    clear hset hsw hx hy hLw hst hm HLW HRL
    have hfo : Tryz.prog.follows Departure.mixedOrders = true := by kernel_rfl
    have e1 : (0 : Int) ≤ (k : Int) := by omega
    have e2 : (k : Int) < (n : Int) := by omega
    have e3 : (0 : Int) ≤ (j : Int) := by omega
    have e4 : (j : Int) < (n : Int) := by omega
    simp only at a1 a2 b1 b2
    go_wp2
    go_big_region_o
    all_goals go_wp2
    exact ⟨⟨k + 1, (j : Int) - 1, by go_num, rfl, by omega, by omega, HSET.out, grown_drew (grown_set (grown_set (grown_set (grown_set hgr _ _) _ _) _ _) _ _)⟩, by simp [intOf]; omega⟩
  · have hkn : k * 2 ≤ l.length := by rw [HN.out]; exact hk
    have hrv := revTo_all l k hkn (by rw [HN.out]; omega)
    have hd : decide ((k : Int) < J) = false := by simp; omega
    rw [hrv] at HLW
    clear hLw hrv HRL hrl
    go_wp2
    go_end0
    exact ⟨⟨_, rfl⟩, HLW.out, hgr⟩
end Go.Proofs.YtgohllfpceeboaaGreatDoor
namespace Go.Proofs.YtgohllfpceeboaaGreatDoor
open Go.RowKit Go.Shelf
def RndPost (B k : Nat) (I : Nat → World → Prop) (Ix : World → Prop) (W : World) : Exit → Act → World → Prop
 | .normal, _, W' => KeepsFrom B W W' ∧ I (k + 1) W'
 | .ret, _, W' => KeepsFrom B W W' ∧ Ix W'
 | _, _, _ => False
theorem range_labs {ps : Array Tmp} {assign body : Code} {Q : Exit → Act → World → Prop} {a : Act} {w : World} (n : Nat) (h1 : 1 ≤ n) (h2 : 1 ≤ n - 1) (s : ByteArray) (hs : s.size ≤ 1000) (g : Operand) (hg : a.eval g = .func (.func 111) #[.string s] #[])
 (P : List (List UInt8)) (hP : P = pcs s.data.toList) (hps : ps.size = 1) (I : Nat → World → Prop) (Ix : World → Prop) (hI : OwnFrom w.heap.size I) (hIx : OwnFrom w.heap.size (fun (_ : Unit) W => Ix W)) (h0 : I 0 w) (a₁ : ByteArray → Act)
 (hassign : ∀ (l : Nat) (x : ByteArray) (W : World) (K : Act → World → Prop), K (a₁ x) W →
   assign.wpIn (Fence.wide.inRound l) (n - 1 - 1) Tryz.prog (Exit.then K (fun _ _ _ => False)) { tmps := (ps.zip #[.string x]).foldl (fun t (p, v) => t.setIfInBounds p v) a.tmps, defers := [] } W)
 (hbody : ∀ (l k : Nat) (h : k < P.length) (W : World), I k W → body.wpIn (Fence.wide.inRound l) (n - 1 - 1) Tryz.prog (RndPost w.heap.size k I Ix W) (a₁ ⟨P[k].toArray⟩) W)
 (hdone : ∀ (D : Nat) (W : World), w.heap.size ≤ D → I P.length W → W.heap[D]? = some (.deferred (some [])) → Q .normal { a with defers := { target := .collected D, args := #[] } :: a.defers } W)
 (hstop : ∀ (D : Nat) (W : World), w.heap.size ≤ D → Ix W → W.heap[D]? = some (.deferred (some [])) → Code.ret.wpIn Fence.wide n Tryz.prog Q { a with defers := { target := .collected D, args := #[] } :: a.defers } W) :
 (Code.rangeFunc g ps assign body).wpIn Fence.wide n Tryz.prog Q a w := by
 refine wpIn_rangeFunc ?_
 intro fn hfn
 obtain ⟨rec, hrec⟩ : ∃ rec : LoopState → Option Code → Loop, rec = fun st pe => { state := st, pending := pe, fn := fn, tmps := a.tmps, params := ps, assign := assign, body := body, defers := w.heap.size } := ⟨_, rfl⟩
 obtain ⟨W1, hW1⟩ : ∃ W1, (w.alloc (.deferred (some []))).alloc (.loop (rec .ready none)) = W1 := ⟨_, rfl⟩
 have hl1 : W1.heap[w.heap.size + 1]? = some (.loop (rec .ready none)) := by
  have := World.alloc_heap_new (w.alloc (.deferred (some []))) (.loop (rec .ready none))
  rw [World.size_alloc, hW1] at this
  exact this
 have hd1 : W1.heap[w.heap.size]? = some (.deferred (some [])) := by
  rw [← hW1]
  exact (Below.heap_alloc _ _ _ (by rw [World.size_alloc]; exact Nat.lt_succ_self _)).trans (World.alloc_heap_new w _)
 have hI1 : I 0 W1 := by rw [← hW1]; exact hI.alloc _ (hI.alloc _ h0)
 have hIx' : ∀ {W : World} {l : Nat} {o : Obj} (o' : Obj), Ix W → w.heap.size ≤ l → W.heap[l]? = some o → o.isCells = false → Ix (W.putObj l o') := fun o' h hl ho hc => OwnFrom.putObj (s := ()) hIx o' h hl ho hc
 refine ⟨w.heap.size + 1, [{ target := .collected w.heap.size, args := #[] }], W1, { target := .fn (.func 111) #[], args := #[.string s, .func (.yield (w.heap.size + 1)) #[] #[]] }, W1, 111,
  #[.string s, .func (.yield (w.heap.size + 1)) #[] #[]], W1, ?_, ?_, fun _ _ => trivial, ?_, fun _ => h1, ?_⟩
 · rw [← hW1, hrec]; exact run_enterLoop_outer _ _ _ _ _
 · simp only [resolve, hg]
   simp [go_sem]
 · have eg : ∀ args w, (callFunc 111 args).run Tryz.prog w = .ok (.enter 111 args) w := enters_of Tryz.func111 (by kernel_rfl) rfl
   simp [invoke, go_sem, eg]
 · refine (plabs_any (n - 1) h2 (w.heap.size + 1) s hs P hP
    (fun k W => I k W ∧ W.heap[w.heap.size + 1]? = some (.loop (rec .ready none)) ∧ W.heap[w.heap.size]? = some (.deferred (some [])))
    (fun W => Ix W ∧ W.heap[w.heap.size + 1]? = some (.loop (rec .done (some .ret))) ∧ W.heap[w.heap.size]? = some (.deferred (some []))) ?_ W1 ⟨hI1, hl1, hd1⟩).mono ?_
   · rintro k hk W ⟨hi, hl, hd⟩
     have hlt : w.heap.size + 1 < W.heap.size := (Array.getElem?_eq_some_iff.1 hl).1
     have hy := run_yield (P := Tryz.prog) (args := #[.string ⟨P[k].toArray⟩]) hl (by rw [hrec]; exact hps.symm)
     rw [hrec] at hy
     refine ⟨fn, _, assign, body, hy, roundIn_of_wpIn hfn (hassign _ ⟨P[k].toArray⟩ W _ ⟨_, run_beginRound hl (by rw [hrec]), ?_⟩)⟩
     obtain ⟨V, hV⟩ : ∃ V, W.putObj (w.heap.size + 1) (.loop { rec .ready none with state := .busy }) = V := ⟨_, rfl⟩
     have hl2 : V.heap[w.heap.size + 1]? = some (.loop { rec .ready none with state := .busy }) := by rw [← hV]; exact World.putObj_heap_same hlt
     have hd2 : V.heap[w.heap.size]? = some (.deferred (some [])) := by rw [← hV]; exact (World.putObj_heap_other (by omega)).trans hd
     have hi2 : I k V := by rw [← hV]; exact hI.putObj _ hi (by omega) hl rfl
     have fin : ∀ (jump : Option Code) (W3 : World), KeepsFrom w.heap.size V W3 →
      (Instr.endRound (w.heap.size + 1) jump).run Tryz.prog W3 = .ok (.bool jump.isNone) (W3.putObj (w.heap.size + 1) (.loop (rec (if jump.isNone then .ready else .done) jump))) ∧
      W3.heap[w.heap.size + 1]? = some (.loop { rec .ready none with state := .busy }) ∧
      (W3.putObj (w.heap.size + 1) (.loop (rec (if jump.isNone then .ready else .done) jump))).heap[w.heap.size + 1]? = some (.loop (rec (if jump.isNone then .ready else .done) jump)) ∧
      (W3.putObj (w.heap.size + 1) (.loop (rec (if jump.isNone then .ready else .done) jump))).heap[w.heap.size]? = some (.deferred (some [])) := by
      intro jump W3 hk3
      have hl3 := hk3.same _ _ (by omega) hl2 rfl
      have hr3 := run_endRound (P := Tryz.prog) jump hl3
      rw [hrec] at hr3 ⊢
      rw [hrec] at hl3
      exact ⟨hr3, hl3, World.putObj_heap_same (Array.getElem?_eq_some_iff.1 hl3).1, (World.putObj_heap_other (by omega)).trans (hk3.same _ _ (Nat.le_refl _) hd2 rfl)⟩
     have hb := hbody (w.heap.size + 1) k hk V hi2
     rw [← hV] at hb
     refine wpIn_mono hb ?_
     rw [hV]
     rintro e a3 W3 hp
     cases e with
     | normal =>
       obtain ⟨hk3, hi3⟩ := hp
       obtain ⟨hr, hl3, hl4, hd4⟩ := fin none W3 hk3
       exact ⟨_, _, hr, .inl ⟨rfl, hI.putObj _ hi3 (by omega) hl3 rfl, hl4, hd4⟩⟩
     | ret =>
       obtain ⟨hk3, hi3⟩ := hp
       obtain ⟨hr, hl3, hl4, hd4⟩ := fin (some .ret) W3 hk3
       exact ⟨_, _, hr, .inr ⟨rfl, hIx' _ hi3 (by omega) hl3 rfl, hl4, hd4⟩⟩
     | exit id => exact hp.elim
     | goto t => exact hp.elim
     | panic ch => exact hp.elim
     | outgrown => exact hp.elim
   · rintro e W2 ⟨⟨v, rfl⟩, (⟨hi, hl, hd⟩ | ⟨hi, hl, hd⟩)⟩
     · refine ⟨none, _, by have := run_endLoop (P := Tryz.prog) hl (by rw [hrec]; simp); rw [hrec] at this; exact this, hdone _ _ (Nat.le_refl _) (hI.putObj _ hi (by omega) hl rfl) ((World.putObj_heap_other (by omega)).trans hd)⟩
     · refine ⟨some .ret, _, by have := run_endLoop (P := Tryz.prog) hl (by rw [hrec]; simp); rw [hrec] at this; exact this, hstop _ _ (Nat.le_refl _) (hIx' _ hi (by omega) hl rfl) ((World.putObj_heap_other (by omega)).trans hd)⟩
end Go.Proofs.YtgohllfpceeboaaGreatDoor
