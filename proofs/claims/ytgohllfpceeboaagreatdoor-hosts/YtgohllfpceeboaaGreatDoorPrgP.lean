import Derived.Test.YtgohllfpceeboaaGreatDoorPrgN
import Derived.Shelf.RegionOpenPlain
namespace Go.Proofs.YtgohllfpceeboaaGreatDoor
open Go.RowKit
attribute [local go_sem ↓] Go.wp_at_zero Go.wp_at_succ
abbrev Lab := ByteArray × ByteArray
def noLab : Lab := (⟨#[]⟩, ⟨#[]⟩)
/-- Labels that lie in a block, two texts each, and may be written. -/
def LbAt (W : World) (g : Nat) (l : List Lab) : Prop :=
  g < W.heap.size ∧ (∀ j (h : j < l.length), W.cell? ⟨g, j * 2, none⟩ = some (.string l[j].1) ∧ W.cell? ⟨g, j * 2 + 1, none⟩ = some (.string l[j].2)) ∧ ∀ o, W.frozen? ⟨g, o, none⟩ = false
theorem LbAt.set {W : World} {g : Nat} {l : List Lab} (h : LbAt W g l) (k : Nat) (hk : k < l.length) (x : Lab) : LbAt ((W.setCell ⟨g, k * 2, none⟩ (.string x.1)).setCell ⟨g, k * 2 + 1, none⟩ (.string x.2)) g (l.set k x) := by
  obtain ⟨h1, h2, h3⟩ := h
  refine ⟨by rw [World.size_setCell, World.size_setCell]; exact h1, fun j hj => ?_, fun o => by rw [World.frozen?_setCell, World.frozen?_setCell]; exact h3 o⟩
  have hj2 : j < l.length := by simpa using hj
  obtain ⟨k1, k2⟩ := h2 k hk
  obtain ⟨j1, j2⟩ := h2 j hj2
  have ne1 : (⟨g, k * 2, none⟩ : Addr) ≠ ⟨g, k * 2 + 1, none⟩ := by simp
  by_cases e : k = j
  · subst e
    constructor
    · rw [World.cell?_setCell_other _ _ _ _ (Ne.symm ne1), World.cell?_setCell_same _ _ _ k1]; simp
    · rw [World.cell?_setCell_same _ _ _ ((World.cell?_setCell_other _ _ _ _ ne1).trans k2)]; simp
  · constructor
    · rw [World.cell?_setCell_other _ _ _ _ (by (simp; try omega)), World.cell?_setCell_other _ _ _ _ (by (simp; try omega)), j1]
      simp [e]
    · rw [World.cell?_setCell_other _ _ _ _ (by (simp; try omega)), World.cell?_setCell_other _ _ _ _ (by (simp; try omega)), j2]
      simp [e]
def swapB (l : List Lab) (i j : Nat) : List Lab := (l.set i (l.getD j noLab)).set j (l.getD i noLab)
def revTo (l : List Lab) : Nat → List Lab
  | 0 => l
  | k + 1 => swapB (revTo l k) k (l.length - 1 - k)
theorem revTo_len (l : List Lab) : ∀ k, (revTo l k).length = l.length := by
  intro k
  induction k with
  | zero => rfl
  | succ k ih => simp [revTo, swapB, ih]
theorem swapB_get (l : List Lab) (i j x : Nat) (hi : i < l.length) (hj : j < l.length) : (swapB l i j)[x]? = if x = j then l[i]? else if x = i then l[j]? else l[x]? := by
  unfold swapB
  rw [List.getElem?_set, List.getElem?_set]
  simp only [List.length_set, List.getD_eq_getElem?_getD, List.getElem?_eq_getElem hi, List.getElem?_eq_getElem hj, Option.getD_some]
  by_cases c1 : x = j
  · subst c1; rw [if_pos rfl, if_pos hj, if_pos rfl]
  · rw [if_neg (Ne.symm c1), if_neg c1]
    by_cases c2 : x = i
    · subst c2; rw [if_pos rfl, if_pos hi, if_pos rfl]
    · rw [if_neg (Ne.symm c2), if_neg c2]
theorem revTo_get (l : List Lab) : ∀ k, k * 2 ≤ l.length → ∀ x, (revTo l k)[x]? = if x < l.length ∧ (x < k ∨ l.length - k ≤ x) then l[l.length - 1 - x]? else l[x]? := by
  intro k
  induction k with
  | zero =>
    intro _ x
    by_cases h : x < l.length ∧ (x < 0 ∨ l.length - 0 ≤ x)
    · omega
    · rw [if_neg h]; rfl
  | succ k ih =>
    intro hk x
    have hl := revTo_len l k
    rw [revTo, swapB_get _ _ _ _ (by omega) (by omega)]
    have ih' := ih (by omega)
    by_cases c1 : x = l.length - 1 - k
    · rw [if_pos c1, ih' k, if_neg (by omega), if_pos (by omega), c1, show l.length - 1 - (l.length - 1 - k) = k from by omega]
    · rw [if_neg c1]
      by_cases c2 : x = k
      · rw [if_pos c2, ih' (l.length - 1 - k), if_neg (by omega), if_pos (by omega), c2]
      · rw [if_neg c2, ih' x]
        by_cases c3 : x < l.length ∧ (x < k ∨ l.length - k ≤ x)
        · rw [if_pos c3, if_pos (by omega)]
        · rw [if_neg c3, if_neg (by omega)]
theorem revTo_all (l : List Lab) (k : Nat) (h1 : k * 2 ≤ l.length) (h2 : l.length ≤ k * 2 + 1) : revTo l k = l.reverse := by
  apply List.ext_getElem?
  intro x
  rw [revTo_get l k h1 x]
  by_cases c : x < l.length
  · rw [List.getElem?_reverse c]
    by_cases c2 : x < k ∨ l.length - k ≤ x
    · rw [if_pos ⟨c, c2⟩]
    · rw [if_neg (fun h => c2 h.2), show l.length - 1 - x = x from by omega]
  · rw [if_neg (fun h => c h.1), List.getElem?_eq_none (by omega), List.getElem?_eq_none (by simp; omega)]
set_option maxRecDepth 100000 in
set_option maxHeartbeats 2000000 in
/-- slices.Reverse at labels -/
theorem prev_any (l : List Lab) (g cap : Nat) (w : World) (hL : LbAt w g l) (hl : l.length ≤ 100) :
    Calls Tryz.prog 115 #[.slice (some ⟨g, 0, none⟩) l.length cap] w fun e w' => (∃ v, e = .returned v) ∧ LbAt w' g l.reverse ∧ w.grownBy w' (some g) := by
  have HL := hide hL
  clear hL
  obtain ⟨n, hn⟩ : ∃ n, l.length = n := ⟨_, rfl⟩
  rw [hn] at hl ⊢
  have HN := hide hn
  clear hn
  go_enter Tryz.func115, Tryz.ntmps115
  go_wp2
  go_loopw [2, 3] (fun iv jv wr => ∃ (k : Nat) (J : Int), iv = .int .i64 k ∧ jv = .int .i64 J ∧ J + k + 1 = n ∧ k * 2 ≤ n ∧ LbAt wr g (revTo l k) ∧ w.grownBy wr (some g)) (fun iv _ _ => (1000 - intOf iv).toNat)
  case atStart => exact ⟨0, (n : Int) - 1, rfl, rfl, by omega, by omega, HL.out, grown_refl _ _⟩
  case round =>
    obtain ⟨k, J, rfl, rfl, hJ, hk, hLw, hgr⟩ := hrel
    have HJ := hide hJ
    have hrl : (revTo l k).length = n := by rw [revTo_len]; exact HN.out
    have HRL := hide hrl
    have HLW := hide hLw
    by_cases hlt : (k : Int) < J
    · obtain ⟨j, hj1, hj2⟩ : ∃ j : Nat, J = (j : Int) ∧ j + k + 1 = n := ⟨J.toNat, by omega, by omega⟩
      subst hj1
      have hd : (k < j) = True := by simp; omega
      obtain ⟨m, hm⟩ : ∃ m, revTo l k = m := ⟨_, rfl⟩
      have hst : revTo l (k + 1) = swapB m k j := by rw [revTo, hm, show l.length - 1 - k = j from by rw [HN.out]; omega]
      rw [hm] at hLw hrl
      have hkl : k < m.length := by omega
      have hjl : j < m.length := by omega
      obtain ⟨a1, a2⟩ := hLw.2.1 k hkl
      obtain ⟨b1, b2⟩ := hLw.2.1 j hjl
      obtain ⟨x, hx⟩ : ∃ x, m[k]'hkl = x := ⟨_, rfl⟩
      obtain ⟨y, hy⟩ : ∃ y, m[j]'hjl = y := ⟨_, rfl⟩
      rw [hx] at a1 a2
      rw [hy] at b1 b2
      obtain ⟨x1, x2⟩ := x
      obtain ⟨y1, y2⟩ := y
      have hfz := hLw.2.2
      have hset := (hLw.set k hkl (y1, y2)).set j (by simp; omega) (x1, x2)
      have hsw : (m.set k (y1, y2)).set j (x1, x2) = swapB m k j := by
        unfold swapB
        rw [List.getD_eq_getElem?_getD, List.getElem?_eq_getElem hjl, List.getD_eq_getElem?_getD, List.getElem?_eq_getElem hkl, Option.getD_some, Option.getD_some, hx, hy]
      rw [hsw, ← hst] at hset
      have HSET := hide hset
      clear hset hsw hx hy hLw hst hm HLW HRL
      have hfo : Tryz.prog.follows Departure.mixedOrders = true := by kernel_rfl
      have e1 : (0 : Int) ≤ (k : Int) := by omega
      have e2 : (k : Int) < (n : Int) := by omega
      have e3 : (0 : Int) ≤ (j : Int) := by omega
      have e4 : (j : Int) < (n : Int) := by omega
      simp only at a1 a2 b1 b2
      go_wp2
      go_big_region_o
      all_goals go_wp2
      exact ⟨⟨k + 1, (j : Int) - 1, by go_num, rfl, by omega, by omega, HSET.out, grown_drew (grown_set (grown_set (grown_set (grown_set hgr _ _) _ _) _ _) _ _)⟩, by simp [intOf]; omega⟩
    · have hkn : k * 2 ≤ l.length := by rw [HN.out]; exact hk
      have hrv := revTo_all l k hkn (by rw [HN.out]; omega)
      have hd : decide ((k : Int) < J) = false := by simp; omega
      rw [hrv] at HLW
      clear hLw hrv HRL hrl
      go_wp2
      go_end0
      exact ⟨⟨_, rfl⟩, HLW.out, hgr⟩
end Go.Proofs.YtgohllfpceeboaaGreatDoor
