import Derived.Test.YtgohllfpceeboabGreatDoorSbaa
import Derived.Test.YtgohllfpceeboabGreatDoorSbac
import Derived.Test.YtgohllfpceeboabGreatDoorProg
import Derived.Shelf.RegionOpenPlain
namespace Go.Proofs.YtgohllfpceeboabGreatDoor
open Go.RowKit
attribute [local go_sem ↓] Go.wp_at_zero Go.wp_at_succ

/-- Ways that lie in a block, two cells each, and may be written. -/
def WaysAt (W : World) (g : Nat) (l : List (Int × Int)) : Prop :=
  g < W.heap.size ∧ (∀ j (h : j < l.length), W.cell? ⟨g, j * 2, none⟩ = some (.int .i64 l[j].1) ∧ W.cell? ⟨g, j * 2 + 1, none⟩ = some (.int .i64 l[j].2)) ∧ ∀ o, W.frozen? ⟨g, o, none⟩ = false
theorem WaysAt.set {W : World} {g : Nat} {l : List (Int × Int)} (h : WaysAt W g l) (k : Nat) (hk : k < l.length) (x : Int × Int) : WaysAt ((W.setCell ⟨g, k * 2, none⟩ (.int .i64 x.1)).setCell ⟨g, k * 2 + 1, none⟩ (.int .i64 x.2)) g (l.set k x) := by
  obtain ⟨h1, h2, h3⟩ := h
  refine ⟨by rw [World.size_setCell, World.size_setCell]; exact h1, fun j hj => ?_, fun o => by rw [World.frozen?_setCell, World.frozen?_setCell]; exact h3 o⟩
  have hj2 : j < l.length := by simpa using hj
  obtain ⟨k1, k2⟩ := h2 k hk
  obtain ⟨j1, j2⟩ := h2 j hj2
  have ne1 : (⟨g, k * 2, none⟩ : Addr) ≠ ⟨g, k * 2 + 1, none⟩ := by simp
  by_cases e : k = j
  · subst e
    constructor
    · rw [World.cell?_setCell_other _ _ _ _ (Ne.symm ne1), World.cell?_setCell_same _ _ _ k1]; simp
    · rw [World.cell?_setCell_same _ _ _ ((World.cell?_setCell_other _ _ _ _ ne1).trans k2)]; simp
  · constructor
    · rw [World.cell?_setCell_other _ _ _ _ (by (simp; try omega)), World.cell?_setCell_other _ _ _ _ (by (simp; try omega)), j1]
      simp [e]
    · rw [World.cell?_setCell_other _ _ _ _ (by (simp; try omega)), World.cell?_setCell_other _ _ _ _ (by (simp; try omega)), j2]
      simp [e]

def swapL (l : List (Int × Int)) (i j : Nat) : List (Int × Int) := (l.set i (l.getD j (0, 0))).set j (l.getD i (0, 0))
def swapR (l : List (Int × Int)) (a b : Nat) : Nat → List (Int × Int)
  | 0 => l
  | n + 1 => swapL (swapR l a b n) (a + n) (b + n)
theorem swapL_len (l : List (Int × Int)) (i j : Nat) : (swapL l i j).length = l.length := by simp [swapL]
theorem swapR_len (l : List (Int × Int)) (a b n : Nat) : (swapR l a b n).length = l.length := by
  induction n with
  | zero => rfl
  | succ n ih => simp only [swapR, swapL_len, ih]

theorem swapL_get (l : List (Int × Int)) (i j x : Nat) (hi : i < l.length) (hj : j < l.length) : (swapL l i j)[x]? = if x = j then l[i]? else if x = i then l[j]? else l[x]? := by
  unfold swapL
  rw [List.getElem?_set, List.length_set, List.getElem?_set]
  by_cases h1 : j = x
  · subst h1; simp [hi, hj]
  · by_cases h2 : i = x
    · subst h2; simp [h1, hi, hj, Ne.symm h1]
    · simp [h1, h2, Ne.symm h1, Ne.symm h2]
theorem swapR_get (l : List (Int × Int)) (a b : Nat) : ∀ n, a + n ≤ b → b + n ≤ l.length → ∀ x, (swapR l a b n)[x]? = if a ≤ x ∧ x < a + n then l[b + (x - a)]? else if b ≤ x ∧ x < b + n then l[a + (x - b)]? else l[x]? := by
  intro n
  induction n with
  | zero => intro ha hb x; simp only [swapR]; rw [if_neg (by omega), if_neg (by omega)]
  | succ n ih =>
    intro ha hb x
    have ih := ih (by omega) (by omega)
    simp only [swapR]
    rw [swapL_get _ _ _ _ (by rw [swapR_len]; omega) (by rw [swapR_len]; omega), ih (a + n), ih (b + n), ih x]
    rw [if_neg (show ¬ (a ≤ a + n ∧ a + n < a + n) by omega), if_neg (show ¬ (b ≤ a + n ∧ a + n < b + n) by omega), if_neg (show ¬ (a ≤ b + n ∧ b + n < a + n) by omega), if_neg (show ¬ (b ≤ b + n ∧ b + n < b + n) by omega)]
    by_cases h1 : x = b + n
    · rw [if_pos h1, if_neg (show ¬ (a ≤ x ∧ x < a + (n + 1)) by omega), if_pos (show b ≤ x ∧ x < b + (n + 1) by omega), show a + (x - b) = a + n from by omega]
    · rw [if_neg h1]
      by_cases h2 : x = a + n
      · rw [if_pos h2, if_pos (show a ≤ x ∧ x < a + (n + 1) by omega), show b + (x - a) = b + n from by omega]
      · rw [if_neg h2]
        by_cases h3 : a ≤ x ∧ x < a + n
        · rw [if_pos h3, if_pos (show a ≤ x ∧ x < a + (n + 1) by omega)]
        · rw [if_neg h3, if_neg (show ¬ (a ≤ x ∧ x < a + (n + 1)) by omega)]
          by_cases h4 : b ≤ x ∧ x < b + n
          · rw [if_pos h4, if_pos (show b ≤ x ∧ x < b + (n + 1) by omega)]
          · rw [if_neg h4, if_neg (show ¬ (b ≤ x ∧ x < b + (n + 1)) by omega)]
/-- Two runs of one length exchanged. -/
theorem swapR_parts (P U M V S : List (Int × Int)) (h : U.length = V.length) : swapR (P ++ U ++ M ++ V ++ S) P.length (P.length + U.length + M.length) U.length = P ++ V ++ M ++ U ++ S := by
  apply List.ext_getElem?
  intro x
  rw [swapR_get _ _ _ _ (by omega) (by simp; omega)]
  simp only [List.getElem?_append, List.length_append]
  by_cases h1 : x < P.length
  · rw [if_neg (by omega), if_neg (by omega)]
    simp [h1, show x < P.length + U.length from by omega, show x < P.length + U.length + M.length from by omega, show x < P.length + U.length + M.length + V.length from by omega, show x < P.length + V.length from by omega, show x < P.length + V.length + M.length from by omega, show x < P.length + V.length + M.length + U.length from by omega]
  · obtain ⟨y, hy⟩ : ∃ y, x = P.length + y := ⟨x - P.length, by omega⟩
    subst hy
    repeat' split
    all_goals first
      | rfl
      | (exfalso; omega)
      | (congr 1; omega)
set_option maxRecDepth 100000 in
set_option maxHeartbeats 1000000 in
/-- slices.swapRangeCmpFunc at ways -/
theorem psr_any (l : List (Int × Int)) (g cap a b n : Nat) (fv : Value) (w : World) (hw : WaysAt w g l) (hl : l.length ≤ 1000) (ha : a + n ≤ b) (hb : b + n ≤ l.length) :
    Calls Tryz.prog 257 #[.slice (some ⟨g, 0, none⟩) l.length cap, .int .i64 a, .int .i64 b, .int .i64 n, fv] w fun e w' => (∃ v, e = .returned v) ∧ WaysAt w' g (swapR l a b n) ∧ w.grownBy w' (some g) := by
  have HW := hide hw
  clear hw
  go_enter Tryz.func257, Tryz.ntmps257
  go_wp2
  go_loopw [10] (fun i wr => ∃ k : Nat, i = .int .i64 k ∧ k ≤ n ∧ WaysAt wr g (swapR l a b k) ∧ w.grownBy wr (some g)) (fun i _ => (n - intOf i).toNat)
  case atStart => exact ⟨0, rfl, by omega, HW.out, ⟨rfl, rfl, rfl, Nat.le_refl _, fun _ _ _ => rfl⟩⟩
  case round =>
    obtain ⟨k, rfl, hk, hwk, hg⟩ := hrel
    by_cases hlt : k < n
    · have hlen := swapR_len l a b k
      obtain ⟨m, hm⟩ : ∃ m, swapR l a b k = m := ⟨_, rfl⟩
      have hnext : swapR l a b (k + 1) = swapL m (a + k) (b + k) := by rw [← hm]; rfl
      rw [hm] at hwk hlen
      have HNEXT := hide hnext
      have ha2 : a + k < m.length := by omega
      have hb2 : b + k < m.length := by omega
      obtain ⟨x, hx⟩ : ∃ x, m[a + k] = x := ⟨_, rfl⟩
      obtain ⟨y, hy⟩ : ∃ y, m[b + k] = y := ⟨_, rfl⟩
      have hsw : swapL m (a + k) (b + k) = (m.set (a + k) y).set (b + k) x := by
        unfold swapL
        rw [List.getD_eq_getElem?_getD, List.getElem?_eq_getElem hb2, List.getD_eq_getElem?_getD, List.getElem?_eq_getElem ha2, Option.getD_some, Option.getD_some, hx, hy]
      obtain ⟨ca0, ca1⟩ := hwk.2.1 (a + k) ha2
      obtain ⟨cb0, cb1⟩ := hwk.2.1 (b + k) hb2
      rw [hx] at ca0 ca1
      rw [hy] at cb0 cb1
      have hset := (hwk.set (a + k) ha2 y).set (b + k) (by simpa using hb2) x
      have HSET := hide hset
      have HSW := hide hsw
      have hfz := hwk.2.2
      obtain ⟨x1, x2⟩ := x
      obtain ⟨y1, y2⟩ := y
      clear hm hnext hx hy hset hsw hwk
      have e1 : (0 : Int) ≤ (a : Int) + (k : Int) := by omega
      have e2 : (a : Int) + (k : Int) < (l.length : Int) := by omega
      have e3 : (0 : Int) ≤ (b : Int) + (k : Int) := by omega
      have e4 : (b : Int) + (k : Int) < (l.length : Int) := by omega
      go_wp2
      have hfo : Tryz.prog.follows Departure.mixedOrders = true := by kernel_rfl
      go_big_region_o
      all_goals go_wp2
      refine ⟨⟨k + 1, by go_num, by omega, ?_, grown_drew (grown_set (grown_set (grown_set (grown_set hg _ _) _ _) _ _) _ _)⟩, by simp [intOf]; omega⟩
      rw [HNEXT.out, HSW.out]
      exact HSET.out
    · have hkn : k = n := by omega
      subst hkn
      go_wp2
      go_end0
      exact ⟨⟨_, rfl⟩, hwk, hg⟩
end Go.Proofs.YtgohllfpceeboabGreatDoor
namespace Go.Proofs.YtgohllfpceeboabGreatDoor
open Go.RowKit

theorem grown_trans {a b c : World} {r : Option Nat} (h : a.grownBy b r) (k : b.grownBy c r) : a.grownBy c r :=
  ⟨k.os.trans h.os, k.tape.trans h.tape, k.output.trans h.output, Nat.le_trans h.size k.size, fun i hi hn => (k.block i (Nat.lt_of_lt_of_le hi h.size) hn).trans (h.block i hi hn)⟩
/-- swapRange, of runs that are known. -/
theorem psr_parts (P U M V S : List (Int × Int)) (N g cap : Nat) (ai bi ni : Int) (fv : Value) (w : World) (hw : WaysAt w g (P ++ U ++ M ++ V ++ S)) (hN : (P ++ U ++ M ++ V ++ S).length = N) (hl : N ≤ 1000) (h : U.length = V.length) (ha : ai = P.length) (hb : bi = P.length + U.length + M.length) (hn : ni = U.length) :
    Calls Tryz.prog 257 #[.slice (some ⟨g, 0, none⟩) N cap, .int .i64 ai, .int .i64 bi, .int .i64 ni, fv] w fun e w' => (∃ v, e = .returned v) ∧ WaysAt w' g (P ++ V ++ M ++ U ++ S) ∧ w.grownBy w' (some g) := by
  have := psr_any (P ++ U ++ M ++ V ++ S) g cap P.length (P.length + U.length + M.length) U.length fv w hw (by omega) (by omega) (by simp; omega)
  rw [swapR_parts P U M V S h, hN] at this
  subst ha
  subst hn
  rw [show bi = ((P.length + U.length + M.length : Nat) : Int) from by omega]
  exact this

set_option maxRecDepth 100000 in
set_option maxHeartbeats 1000000 in
/-- slices.rotateCmpFunc at ways -/
theorem prot_any (P X Y S : List (Int × Int)) (N g cap : Nat) (fv : Value) (w : World) (hw : WaysAt w g (P ++ X ++ Y ++ S)) (hN : (P ++ X ++ Y ++ S).length = N) (hl : N ≤ 1000) (hX : 0 < X.length) (hY : 0 < Y.length) (ai mi bi : Int) (ha : ai = P.length) (hm : mi = P.length + X.length) (hb : bi = P.length + X.length + Y.length) :
    Calls Tryz.prog 256 #[.slice (some ⟨g, 0, none⟩) N cap, .int .i64 ai, .int .i64 mi, .int .i64 bi, fv] w fun e w' => (∃ v, e = .returned v) ∧ WaysAt w' g (P ++ Y ++ X ++ S) ∧ w.grownBy w' (some g) := by
  obtain ⟨T, hT⟩ : ∃ T, P ++ Y ++ X ++ S = T := ⟨_, rfl⟩
  rw [hT]
  have HT := hide hT
  have HW := hide hw
  have HN := hide hN
  have hxn : P.length + X.length + Y.length ≤ N := by rw [← hN]; simp; omega
  have e0 : mi - ai = (X.length : Int) := by omega
  have e1 : bi - mi = (Y.length : Int) := by omega
  have hb0 : 0 ≤ ai ∧ ai ≤ 1000 ∧ 0 ≤ mi ∧ mi ≤ 1000 ∧ 0 ≤ bi ∧ bi ≤ 1000 := by omega
  have HM := hide hm
  clear hT hw hN ha hm hb
  obtain ⟨q1, q2, q3, q4, q5, q6⟩ := hb0
  go_enter Tryz.func256, Tryz.ntmps256
  go_wp2
  go_loopw [10, 11] (fun iv jv wr => ∃ (P' U V S' : List (Int × Int)), iv = .int .i64 U.length ∧ jv = .int .i64 V.length ∧ 0 < U.length ∧ 0 < V.length ∧ U.length ≤ 1000 ∧ V.length ≤ 1000 ∧ mi = (P'.length : Int) + (U.length : Int) ∧ WaysAt wr g (P' ++ U ++ V ++ S') ∧ (P' ++ U ++ V ++ S').length = N ∧ P' ++ V ++ U ++ S' = T ∧ w.grownBy wr (some g)) (fun iv jv _ => (intOf iv + intOf jv).toNat)
  case atStart => exact ⟨P, X, Y, S, rfl, rfl, hX, hY, by omega, by omega, HM.out, HW.out, HN.out, HT.out, ⟨rfl, rfl, rfl, Nat.le_refl _, fun _ _ _ => rfl⟩⟩
  case round =>
    obtain ⟨P', U, V, S', rfl, rfl, hu, hv, hu2, hv2, hmi, hwa, hlen, htg, hgr⟩ := hrel
    have HMI := hide hmi
    have HWA := hide hwa
    have HLEN := hide hlen
    have HTG := hide htg
    have hmle : (P'.length : Int) + (U.length : Int) = mi := hmi.symm
    clear hwa hlen htg e0 e1 HW HN HT HM hmi
    have hmb : (U.length : Int) ≤ mi := by omega
    have hPl : (P'.length : Int) = mi - (U.length : Int) := by omega
    have HPL := hide hPl
    have hVb : mi + (V.length : Int) ≤ 2000 := by omega
    clear hmle hPl
    by_cases heq : U.length = V.length
    · have hne : ((U.length : Int) != (V.length : Int)) = false := by rw [heq]; simp
      have HC := hide (psr_parts P' U [] V S' N g cap (mi - U.length) mi U.length fv wr (by simpa using HWA.out) (by simpa using HLEN.out) (by omega) heq (by rw [HPL.out]) (by have := HPL.out; simp; omega) rfl)
      clear heq
      go_wp2_with fail
      refine HC.out.mono ?_
      rintro e w1 ⟨⟨v, rfl⟩, hw1, hg1⟩
      have HW1 := hide hw1
      clear hw1
      go_wp2
      go_end0
      exact ⟨⟨_, rfl⟩, by rw [← HTG.out]; simpa using HW1.out, grown_trans hgr hg1⟩
    · have hne : ((U.length : Int) != (V.length : Int)) = true := by rw [bne_iff_ne]; omega
      by_cases hgt : V.length < U.length
      · have hsplit : U = U.take V.length ++ U.drop V.length := (List.take_append_drop _ _).symm
        have hl1 : (U.take V.length).length = V.length := by simp; omega
        have hl2 : (U.drop V.length).length = U.length - V.length := by simp
        have HC := hide (psr_parts P' (U.take V.length) (U.drop V.length) V S' N g cap (mi - U.length) mi V.length fv wr (by have := HWA.out; rw [hsplit] at this; simpa [List.append_assoc] using this) (by have := HLEN.out; rw [hsplit] at this; simpa using this) (by omega) hl1 (by rw [HPL.out]) (by have := HPL.out; rw [hl1, hl2]; omega) (by rw [hl1]))
        have HSP := hide hsplit
        have HL1 := hide hl1
        have HL2 := hide hl2
        clear hsplit hl1 hl2
        go_wp2_with fail
        refine HC.out.mono ?_
        rintro e w1 ⟨⟨v, rfl⟩, hw1, hg1⟩
        have HW1 := hide hw1
        clear hw1 HC
        go_wp2
        refine ⟨⟨P' ++ V, U.drop V.length, U.take V.length, S', ?_, ?_, ?_, ?_, ?_, ?_, ?_, HW1.out, ?_, ?_, grown_trans hgr hg1⟩, by simp [intOf]; omega⟩
        · rw [HL2.out, show ((U.length - V.length : Nat) : Int) = (U.length : Int) - (V.length : Int) from by omega]
        · rw [HL1.out]
        · rw [HL2.out]; omega
        · rw [HL1.out]; exact hv
        · rw [HL2.out]; omega
        · rw [HL1.out]; omega
        · have := HPL.out; rw [HL2.out, List.length_append]; omega
        · have := HLEN.out; simp only [List.length_append] at this ⊢; rw [HL1.out, HL2.out]; omega
        · rw [← HTG.out]; simp only [List.append_assoc]; rw [← List.append_assoc (U.take V.length), List.take_append_drop]
      · have hlt : U.length < V.length := by omega
        have hsplit : V = V.take (V.length - U.length) ++ V.drop (V.length - U.length) := (List.take_append_drop _ _).symm
        have hl1 : (V.take (V.length - U.length)).length = V.length - U.length := by simp
        have hl2 : (V.drop (V.length - U.length)).length = U.length := by simp; omega
        have HC := hide (psr_parts P' U (V.take (V.length - U.length)) (V.drop (V.length - U.length)) S' N g cap (mi - U.length) (mi + V.length - U.length) U.length fv wr (by have := HWA.out; rw [hsplit] at this; simpa [List.append_assoc] using this) (by have := HLEN.out; rw [hsplit] at this; simpa using this) (by omega) hl2.symm (by rw [HPL.out]) (by have := HPL.out; rw [hl1]; omega) rfl)
        have HL1 := hide hl1
        have HL2 := hide hl2
        clear hsplit hl1 hl2 hgt
        go_wp2_with fail
        refine HC.out.mono ?_
        rintro e w1 ⟨⟨v, rfl⟩, hw1, hg1⟩
        have HW1 := hide hw1
        clear hw1 HC
        go_wp2
        refine ⟨⟨P', V.drop (V.length - U.length), V.take (V.length - U.length), U ++ S', ?_, ?_, ?_, ?_, ?_, ?_, ?_, ?_, ?_, ?_, grown_trans hgr hg1⟩, by simp [intOf]; omega⟩
        · rw [HL2.out]
        · rw [HL1.out, show ((V.length - U.length : Nat) : Int) = (V.length : Int) - (U.length : Int) from by omega]
        · rw [HL2.out]; exact hu
        · rw [HL1.out]; omega
        · rw [HL2.out]; omega
        · rw [HL1.out]; omega
        · have := HPL.out; rw [HL2.out]; omega
        · have := HW1.out; simpa [List.append_assoc] using this
        · have := HLEN.out; simp only [List.length_append] at this ⊢; rw [HL1.out, HL2.out]; omega
        · rw [← HTG.out]; simp only [List.append_assoc]; rw [← List.append_assoc (V.take (V.length - U.length)), List.take_append_drop]
end Go.Proofs.YtgohllfpceeboabGreatDoor
namespace Go.Proofs.YtgohllfpceeboabGreatDoor
open Go.RowKit
attribute [local go_sem ↓] Go.wp_at_zero Go.wp_at_succ

theorem WaysAt.below {W W' : World} {g B : Nat} {l : List (Int × Int)} (h : WaysAt W g l) (hb : Below B W W') (hg : g < B) : WaysAt W' g l :=
  ⟨Nat.lt_of_lt_of_le h.1 hb.size, fun j hj => ⟨(hb.cell (p := ⟨g, j * 2, none⟩) hg).trans (h.2.1 j hj).1, (hb.cell (p := ⟨g, j * 2 + 1, none⟩) hg).trans (h.2.1 j hj).2⟩, fun o => (hb.frozen (p := ⟨g, o, none⟩) hg).trans (h.2.2 o)⟩

/-- One step of the inner loop: x, behind z. -/
def insTo (l : List (Int × Int)) (a : Nat) : Nat → Nat → List (Int × Int)
  | 0, _ => l
  | f + 1, j => if a < j ∧ (l.getD j (0, 0)).1 < (l.getD (j - 1) (0, 0)).1 then insTo (swapL l j (j - 1)) a f (j - 1) else l
def insAll (l : List (Int × Int)) (a : Nat) : Nat → List (Int × Int)
  | 0 => l
  | n + 1 => insTo (insAll l a n) a (a + n + 1) (a + n + 1)
set_option maxRecDepth 100000 in
set_option maxHeartbeats 1000000 in
/-- slices.insertionSortCmpFunc at ways, with comparePoints -/
theorem pins_any (l : List (Int × Int)) (g cap a b : Nat) (w : World) (hw : WaysAt w g l) (hl : l.length ≤ 1000) (ha : a < b) (hb : b ≤ l.length) :
    Calls Tryz.prog 252 #[.slice (some ⟨g, 0, none⟩) l.length cap, .int .i64 a, .int .i64 b, .func (.func 233) #[] #[]] w fun e w' => (∃ v, e = .returned v) ∧ WaysAt w' g (insAll l a (b - a - 1)) ∧ w.grownBy w' (some g) := by
  have HW := hide hw
  clear hw
  go_enter Tryz.func252, Tryz.ntmps252
  go_wp2
  go_loopw [8] (fun i wr => ∃ n N : Nat, i = .int .i64 N ∧ N ≤ a + n + 1 ∧ a + n + 1 ≤ N ∧ n ≤ b - a - 1 ∧ WaysAt wr g (insAll l a n) ∧ (insAll l a n).length = l.length ∧ w.grownBy wr (some g)) (fun i _ => (b - intOf i).toNat)
  case atStart => exact ⟨0, a + 1, by go_num, by omega, by omega, by omega, HW.out, rfl, ⟨rfl, rfl, rfl, Nat.le_refl _, fun _ _ _ => rfl⟩⟩
  case round =>
    obtain ⟨n, N, rfl, hN1, hN2, hn, hwa, hlen, hgr⟩ := hrel
    have HWA := hide hwa
    have HLEN := hide hlen
    clear hwa hlen
    by_cases hlt : N < b
    · go_wp2
      go_loopw [9] (fun jv wr => ∃ (j f : Nat) (m : List (Int × Int)), jv = .int .i64 j ∧ a ≤ j ∧ j ≤ N ∧ j ≤ f ∧ WaysAt wr g m ∧ m.length = l.length ∧ insTo m a f j = insAll l a (n + 1) ∧ w.grownBy wr (some g)) (fun jv _ => (intOf jv).toNat)
      case atStart => exact ⟨N, N, insAll l a n, rfl, by omega, by omega, by omega, HWA.out, HLEN.out, (by rw [show N = a + n + 1 from by omega]; rfl), hgr⟩
      case round =>
        obtain ⟨j, f, m, rfl, hj1, hj2, hjf, hwm, hml, hins, hgr2⟩ := hrel
        have HINS := hide hins
        have HWM := hide hwm
        have hglt := hwm.1
        clear hins HWA HLEN hgr
        by_cases hja : a < j
        · obtain ⟨p, hp1, hp2⟩ : ∃ p, p + 1 ≤ j ∧ j ≤ p + 1 := ⟨j - 1, by omega, by omega⟩
          have hjl : j < m.length := by omega
          have hpl : p < m.length := by omega
          obtain ⟨j1, j2⟩ := hwm.2.1 j (by omega)
          obtain ⟨i1, i2⟩ := hwm.2.1 p (by omega)
          obtain ⟨x, hx⟩ : ∃ x, m[j]'hjl = x := ⟨_, rfl⟩
          obtain ⟨z, hz⟩ : ∃ z, m[p]'hpl = z := ⟨_, rfl⟩
          rw [hx] at j1 j2
          rw [hz] at i1 i2
          have HX := hide hx
          have HZ := hide hz
          have hfz := hwm.2.2
          clear hwm hx hz
          obtain ⟨x1, x2⟩ := x
          obtain ⟨z1, z2⟩ := z
          have hd : decide ((a : Int) < (j : Int)) = true := by simp; omega
          have e1 : (0 : Int) ≤ (p : Int) := by omega
          have e2 : (p : Int) < (l.length : Int) := by omega
          have e3 : (j : Int) < (l.length : Int) := by omega
          have f1 : (0 : Int) ≤ (j : Int) := by omega
          have f3 : (j : Int) - 1 = (p : Int) := by omega
          have f5 : IntKind.i64.wrap (p : Int) = (p : Int) := by rw [IntWalk.i64_left]; exact IntWalk.wrap64_in _ (by omega)
          by_cases hc : x1 < z1
          · have hcm : cmpI x1 z1 = -1 := by unfold cmpI; rw [if_pos hc]
            have HCM := hide hcm
            clear hcm
            go_wp2
            go_region_held3 (fun w' => (w'.cell? ⟨g, j * 2, none⟩ = some (.int .i64 x1) ∧ w'.cell? ⟨g, j * 2 + 1, none⟩ = some (.int .i64 x2)) ∧ (w'.cell? ⟨g, p * 2, none⟩ = some (.int .i64 z1) ∧ w'.cell? ⟨g, p * 2 + 1, none⟩ = some (.int .i64 z2))) (first | exact ⟨⟨(hB.cell (p := ⟨g, j * 2, none⟩) hglt).trans j1, (hB.cell (p := ⟨g, j * 2 + 1, none⟩) hglt).trans j2⟩, (hB.cell (p := ⟨g, p * 2, none⟩) hglt).trans i1, (hB.cell (p := ⟨g, p * 2 + 1, none⟩) hglt).trans i2⟩ | go_keep) ((go_at_call 233; refine (pcw_any x1 x2 z1 z2 _).mono ?_; rintro e w' ⟨rfl, hB⟩; rw [HCM.out]))
            have hB2 : Below wr.heap.size wr w' := ((Below.refl wr.heap.size wr).drew).trans hB
            have hwm' := HWM.out.below hB2 hglt
            obtain ⟨j1', j2'⟩ := hwm'.2.1 j (by omega)
            obtain ⟨i1', i2'⟩ := hwm'.2.1 p (by omega)
            rw [HX.out] at j1' j2'
            rw [HZ.out] at i1' i2'
            have hset := (hwm'.set j (by omega) (z1, z2)).set p (by simp; omega) (x1, x2)
            have HSET := hide hset
            have hfz' := hwm'.2.2
            have hgr3 := grown_trans hgr2 (grown_below (r := some g) hB2 (Nat.le_refl _))
            have hsw : (m.set j (z1, z2)).set p (x1, x2) = swapL m j p := by
              unfold swapL
              rw [List.getD_eq_getElem?_getD, List.getElem?_eq_getElem (show p < m.length by omega), List.getD_eq_getElem?_getD, List.getElem?_eq_getElem (show j < m.length by omega), Option.getD_some, Option.getD_some, HX.out, HZ.out]
            have HSW := hide hsw
            obtain ⟨f', rfl⟩ : ∃ f', f = f' + 1 := ⟨f - 1, by omega⟩
            have hstep : insTo (swapL m j p) a f' p = insAll l a (n + 1) := by
              rw [← HINS.out]
              conv => rhs; simp only [insTo]
              rw [show j - 1 = p from by omega, if_pos]
              · rw [List.getD_eq_getElem?_getD, List.getElem?_eq_getElem (show j < m.length by omega), List.getD_eq_getElem?_getD, List.getElem?_eq_getElem (show p < m.length by omega), Option.getD_some, Option.getD_some, HX.out, HZ.out]
                exact ⟨hja, hc⟩
            have HSTEP := hide hstep
            have hmls : (swapL m j p).length = l.length := by rw [swapL_len]; exact hml
            have HMLS := hide hmls
            have hfo : Tryz.prog.follows Departure.mixedOrders = true := by kernel_rfl
            clear hwm' hset hsw hstep hmls j1 j2 i1 i2 hfz hB hB2 hgr2
            go_wp2
            go_big_region_o
            all_goals go_wp2
            refine ⟨⟨p, f', swapL m j p, rfl, by omega, by omega, by omega, ?_, HMLS.out, HSTEP.out, grown_drew (grown_set (grown_set (grown_set (grown_set hgr3 _ _) _ _) _ _) _ _)⟩, by simp [intOf]; omega⟩
            rw [← HSW.out]
            exact HSET.out
          · have hcm : ¬ cmpI x1 z1 < 0 := by unfold cmpI; rw [if_neg hc]; split <;> omega
            obtain ⟨v, hv⟩ : ∃ v, cmpI x1 z1 = v := ⟨_, rfl⟩
            rw [hv] at hcm
            have HCM := hide hv
            have hd0 : decide (v < 0) = false := by simpa using hcm
            have hstop : m = insAll l a (n + 1) := by
              obtain ⟨f', rfl⟩ : ∃ f', f = f' + 1 := ⟨f - 1, by omega⟩
              rw [← HINS.out]
              simp only [insTo]
              rw [if_neg]
              rw [show j - 1 = p from by omega, List.getD_eq_getElem?_getD, List.getElem?_eq_getElem hjl, List.getD_eq_getElem?_getD, List.getElem?_eq_getElem hpl, Option.getD_some, Option.getD_some, HX.out, HZ.out]
              exact fun h => hc h.2
            have HSTOP := hide hstop
            clear hv hstop
            go_wp2
            go_region_held3 (fun w' => (w'.cell? ⟨g, j * 2, none⟩ = some (.int .i64 x1) ∧ w'.cell? ⟨g, j * 2 + 1, none⟩ = some (.int .i64 x2)) ∧ (w'.cell? ⟨g, p * 2, none⟩ = some (.int .i64 z1) ∧ w'.cell? ⟨g, p * 2 + 1, none⟩ = some (.int .i64 z2))) (first | exact ⟨⟨(hB.cell (p := ⟨g, j * 2, none⟩) hglt).trans j1, (hB.cell (p := ⟨g, j * 2 + 1, none⟩) hglt).trans j2⟩, (hB.cell (p := ⟨g, p * 2, none⟩) hglt).trans i1, (hB.cell (p := ⟨g, p * 2 + 1, none⟩) hglt).trans i2⟩ | go_keep) ((go_at_call 233; refine (pcw_any x1 x2 z1 z2 _).mono ?_; rintro e w' ⟨rfl, hB⟩; rw [HCM.out]))
            have hB2 : Below wr.heap.size wr w' := ((Below.refl wr.heap.size wr).drew).trans hB
            have hwm' := HWM.out.below hB2 hglt
            have HWM' := hide hwm'
            have hgr3 := grown_trans hgr2 (grown_below (r := some g) hB2 (Nat.le_refl _))
            clear hwm' hB hB2 j1 j2 i1 i2 hfz hgr2
            go_wp2
            exact ⟨⟨n + 1, N + 1, by go_num, by omega, by omega, by omega, by rw [← HSTOP.out]; exact HWM'.out, by rw [← HSTOP.out]; exact hml, hgr3⟩, by simp [intOf]; omega⟩
        · have hd : decide ((a : Int) < (j : Int)) = false := by simp; omega
          have hstop : m = insAll l a (n + 1) := by
            rw [← HINS.out]
            cases f with
            | zero => rfl
            | succ f' => simp only [insTo]; rw [if_neg (fun h => hja h.1)]
          have HSTOP := hide hstop
          have hfo : Tryz.prog.follows Departure.mixedOrders = true := by kernel_rfl
          clear hstop hwm
          go_wp2
          go_big_region_o
          all_goals go_wp2
          exact ⟨⟨n + 1, N + 1, by go_num, by omega, by omega, by omega, by rw [← HSTOP.out]; exact HWM.out, by rw [← HSTOP.out]; exact hml, grown_drew hgr2⟩, by simp [intOf]; omega⟩
    · have hnn : n = b - a - 1 := by omega
      have HNN := hide hnn
      clear hnn
      go_wp2
      go_end0
      exact ⟨⟨_, rfl⟩, by rw [← HNN.out]; exact HWA.out, hgr⟩
end Go.Proofs.YtgohllfpceeboabGreatDoor

