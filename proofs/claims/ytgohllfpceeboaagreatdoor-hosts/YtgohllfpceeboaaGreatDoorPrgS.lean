import Derived.Test.YtgohllfpceeboaaGreatDoorPrgC
import Derived.Shelf.RegionOpenPlain
namespace Go.Proofs.YtgohllfpceeboaaGreatDoor
open Go.RowKit
attribute [local go_sem ↓] Go.wp_at_zero Go.wp_at_succ

/-- Ways that lie in a block, two cells each, and may be written. -/
def WaysAt (W : World) (g : Nat) (l : List (Int × Int)) : Prop :=
  g < W.heap.size ∧ (∀ j (h : j < l.length), W.cell? ⟨g, j * 2, none⟩ = some (.int .i64 l[j].1) ∧ W.cell? ⟨g, j * 2 + 1, none⟩ = some (.int .i64 l[j].2)) ∧ ∀ o, W.frozen? ⟨g, o, none⟩ = false
theorem WaysAt.set {W : World} {g : Nat} {l : List (Int × Int)} (h : WaysAt W g l) (k : Nat) (hk : k < l.length) (x : Int × Int) : WaysAt ((W.setCell ⟨g, k * 2, none⟩ (.int .i64 x.1)).setCell ⟨g, k * 2 + 1, none⟩ (.int .i64 x.2)) g (l.set k x) := by
  obtain ⟨h1, h2, h3⟩ := h
  refine ⟨by rw [World.size_setCell, World.size_setCell]; exact h1, fun j hj => ?_, fun o => by rw [World.frozen?_setCell, World.frozen?_setCell]; exact h3 o⟩
  have hj2 : j < l.length := by simpa using hj
  obtain ⟨k1, k2⟩ := h2 k hk
  obtain ⟨j1, j2⟩ := h2 j hj2
  have ne1 : (⟨g, k * 2, none⟩ : Addr) ≠ ⟨g, k * 2 + 1, none⟩ := by simp
  by_cases e : k = j
  · subst e
    constructor
    · rw [World.cell?_setCell_other _ _ _ _ (Ne.symm ne1), World.cell?_setCell_same _ _ _ k1]; simp
    · rw [World.cell?_setCell_same _ _ _ ((World.cell?_setCell_other _ _ _ _ ne1).trans k2)]; simp
  · constructor
    · rw [World.cell?_setCell_other _ _ _ _ (by (simp; try omega)), World.cell?_setCell_other _ _ _ _ (by (simp; try omega)), j1]
      simp [e]
    · rw [World.cell?_setCell_other _ _ _ _ (by (simp; try omega)), World.cell?_setCell_other _ _ _ _ (by (simp; try omega)), j2]
      simp [e]

def swapL (l : List (Int × Int)) (i j : Nat) : List (Int × Int) := (l.set i (l.getD j (0, 0))).set j (l.getD i (0, 0))
def swapR (l : List (Int × Int)) (a b : Nat) : Nat → List (Int × Int)
  | 0 => l
  | n + 1 => swapL (swapR l a b n) (a + n) (b + n)
theorem swapL_len (l : List (Int × Int)) (i j : Nat) : (swapL l i j).length = l.length := by simp [swapL]
theorem swapR_len (l : List (Int × Int)) (a b n : Nat) : (swapR l a b n).length = l.length := by
  induction n with
  | zero => rfl
  | succ n ih => simp only [swapR, swapL_len, ih]

theorem swapL_get (l : List (Int × Int)) (i j x : Nat) (hi : i < l.length) (hj : j < l.length) : (swapL l i j)[x]? = if x = j then l[i]? else if x = i then l[j]? else l[x]? := by
  unfold swapL
  rw [List.getElem?_set, List.length_set, List.getElem?_set]
  by_cases h1 : j = x
  · subst h1; simp [hi, hj]
  · by_cases h2 : i = x
    · subst h2; simp [h1, hi, hj, Ne.symm h1]
    · simp [h1, h2, Ne.symm h1, Ne.symm h2]
theorem swapR_get (l : List (Int × Int)) (a b : Nat) : ∀ n, a + n ≤ b → b + n ≤ l.length → ∀ x, (swapR l a b n)[x]? = if a ≤ x ∧ x < a + n then l[b + (x - a)]? else if b ≤ x ∧ x < b + n then l[a + (x - b)]? else l[x]? := by
  intro n
  induction n with
  | zero => intro ha hb x; simp only [swapR]; rw [if_neg (by omega), if_neg (by omega)]
  | succ n ih =>
    intro ha hb x
    have ih := ih (by omega) (by omega)
    simp only [swapR]
    rw [swapL_get _ _ _ _ (by rw [swapR_len]; omega) (by rw [swapR_len]; omega), ih (a + n), ih (b + n), ih x]
    rw [if_neg (show ¬ (a ≤ a + n ∧ a + n < a + n) by omega), if_neg (show ¬ (b ≤ a + n ∧ a + n < b + n) by omega), if_neg (show ¬ (a ≤ b + n ∧ b + n < a + n) by omega), if_neg (show ¬ (b ≤ b + n ∧ b + n < b + n) by omega)]
    by_cases h1 : x = b + n
    · rw [if_pos h1, if_neg (show ¬ (a ≤ x ∧ x < a + (n + 1)) by omega), if_pos (show b ≤ x ∧ x < b + (n + 1) by omega), show a + (x - b) = a + n from by omega]
    · rw [if_neg h1]
      by_cases h2 : x = a + n
      · rw [if_pos h2, if_pos (show a ≤ x ∧ x < a + (n + 1) by omega), show b + (x - a) = b + n from by omega]
      · rw [if_neg h2]
        by_cases h3 : a ≤ x ∧ x < a + n
        · rw [if_pos h3, if_pos (show a ≤ x ∧ x < a + (n + 1) by omega)]
        · rw [if_neg h3, if_neg (show ¬ (a ≤ x ∧ x < a + (n + 1)) by omega)]
          by_cases h4 : b ≤ x ∧ x < b + n
          · rw [if_pos h4, if_pos (show b ≤ x ∧ x < b + (n + 1) by omega)]
          · rw [if_neg h4, if_neg (show ¬ (b ≤ x ∧ x < b + (n + 1)) by omega)]
/-- Two runs of one length exchanged. -/
theorem swapR_parts (P U M V S : List (Int × Int)) (h : U.length = V.length) : swapR (P ++ U ++ M ++ V ++ S) P.length (P.length + U.length + M.length) U.length = P ++ V ++ M ++ U ++ S := by
  apply List.ext_getElem?
  intro x
  rw [swapR_get _ _ _ _ (by omega) (by simp; omega)]
  simp only [List.getElem?_append, List.length_append]
  by_cases h1 : x < P.length
  · rw [if_neg (by omega), if_neg (by omega)]
    simp [h1, show x < P.length + U.length from by omega, show x < P.length + U.length + M.length from by omega, show x < P.length + U.length + M.length + V.length from by omega, show x < P.length + V.length from by omega, show x < P.length + V.length + M.length from by omega, show x < P.length + V.length + M.length + U.length from by omega]
  · obtain ⟨y, hy⟩ : ∃ y, x = P.length + y := ⟨x - P.length, by omega⟩
    subst hy
    repeat' split
    all_goals first
      | rfl
      | (exfalso; omega)
      | (congr 1; omega)
set_option maxRecDepth 100000 in
set_option maxHeartbeats 1000000 in
/-- slices.swapRangeCmpFunc at ways -/
theorem psr_any (l : List (Int × Int)) (g cap a b n : Nat) (fv : Value) (w : World) (hw : WaysAt w g l) (hl : l.length ≤ 1000) (ha : a + n ≤ b) (hb : b + n ≤ l.length) :
    Calls Tryz.prog 275 #[.slice (some ⟨g, 0, none⟩) l.length cap, .int .i64 a, .int .i64 b, .int .i64 n, fv] w fun e w' => (∃ v, e = .returned v) ∧ WaysAt w' g (swapR l a b n) ∧ w.grownBy w' (some g) := by
  have HW := hide hw
  clear hw
  go_enter Tryz.func275, Tryz.ntmps275
  go_wp2
  go_loopw [10] (fun i wr => ∃ k : Nat, i = .int .i64 k ∧ k ≤ n ∧ WaysAt wr g (swapR l a b k) ∧ w.grownBy wr (some g)) (fun i _ => (n - intOf i).toNat)
  case atStart => exact ⟨0, rfl, by omega, HW.out, ⟨rfl, rfl, rfl, Nat.le_refl _, fun _ _ _ => rfl⟩⟩
  case round =>
    obtain ⟨k, rfl, hk, hwk, hg⟩ := hrel
    by_cases hlt : k < n
    · have hlen := swapR_len l a b k
      obtain ⟨m, hm⟩ : ∃ m, swapR l a b k = m := ⟨_, rfl⟩
      have hnext : swapR l a b (k + 1) = swapL m (a + k) (b + k) := by rw [← hm]; rfl
      rw [hm] at hwk hlen
      have HNEXT := hide hnext
      have ha2 : a + k < m.length := by omega
      have hb2 : b + k < m.length := by omega
      obtain ⟨x, hx⟩ : ∃ x, m[a + k] = x := ⟨_, rfl⟩
      obtain ⟨y, hy⟩ : ∃ y, m[b + k] = y := ⟨_, rfl⟩
      have hsw : swapL m (a + k) (b + k) = (m.set (a + k) y).set (b + k) x := by
        unfold swapL
        rw [List.getD_eq_getElem?_getD, List.getElem?_eq_getElem hb2, List.getD_eq_getElem?_getD, List.getElem?_eq_getElem ha2, Option.getD_some, Option.getD_some, hx, hy]
      obtain ⟨ca0, ca1⟩ := hwk.2.1 (a + k) ha2
      obtain ⟨cb0, cb1⟩ := hwk.2.1 (b + k) hb2
      rw [hx] at ca0 ca1
      rw [hy] at cb0 cb1
      have hset := (hwk.set (a + k) ha2 y).set (b + k) (by simpa using hb2) x
      have HSET := hide hset
      have HSW := hide hsw
      have hfz := hwk.2.2
      obtain ⟨x1, x2⟩ := x
      obtain ⟨y1, y2⟩ := y
      clear hm hnext hx hy hset hsw hwk
      have e1 : (0 : Int) ≤ (a : Int) + (k : Int) := by omega
      have e2 : (a : Int) + (k : Int) < (l.length : Int) := by omega
      have e3 : (0 : Int) ≤ (b : Int) + (k : Int) := by omega
      have e4 : (b : Int) + (k : Int) < (l.length : Int) := by omega
      go_wp2
      have hfo : Tryz.prog.follows Departure.mixedOrders = true := by kernel_rfl
      go_big_region_o
      all_goals go_wp2
      refine ⟨⟨k + 1, by go_num, by omega, ?_, grown_drew (grown_set (grown_set (grown_set (grown_set hg _ _) _ _) _ _) _ _)⟩, by simp [intOf]; omega⟩
      rw [HNEXT.out, HSW.out]
      exact HSET.out
    · have hkn : k = n := by omega
      subst hkn
      go_wp2
      go_end0
      exact ⟨⟨_, rfl⟩, hwk, hg⟩
end Go.Proofs.YtgohllfpceeboaaGreatDoor
