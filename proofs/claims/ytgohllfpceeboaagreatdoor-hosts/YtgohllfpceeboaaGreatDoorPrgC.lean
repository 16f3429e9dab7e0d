import Derived.Test.YtgohllfpceeboaaGreatDoorPrgA
import Derived.Deep.QuietTactic
import Derived.BigQuiet
import Derived.WalkSmall
import Derived.Deep.RegionHeld3
import Derived.Deep.DrawnRows
namespace Go.Proofs.YtgohllfpceeboaaGreatDoor
open Go.RowKit

/-- The row's state, in memory. -/
structure RowAt (w : World) (b : Nat) (n i L bias dm : Int) : Prop where
  lt : b < w.heap.size
  c0 : w.cell? ⟨b, 0, none⟩ = some (.int .i64 n)
  c1 : w.cell? ⟨b, 1, none⟩ = some (.int .i64 i)
  c2 : w.cell? ⟨b, 2, none⟩ = some (.int .i64 L)
  c3 : w.cell? ⟨b, 3, none⟩ = some (.int .i64 bias)
  c4 : w.cell? ⟨b, 4, none⟩ = some (.int .i64 dm)
  fz : ∀ j, w.frozen? ⟨b, j, none⟩ = false
theorem RowAt.below {w w' : World} {b B : Nat} {n i L bias dm : Int} (h : RowAt w b n i L bias dm) (hb : Below B w w') (hlt : b < B) : RowAt w' b n i L bias dm :=
  ⟨Nat.lt_of_lt_of_le h.lt hb.size, (hb.cell (p := ⟨b, 0, none⟩) hlt).trans h.c0, (hb.cell (p := ⟨b, 1, none⟩) hlt).trans h.c1, (hb.cell (p := ⟨b, 2, none⟩) hlt).trans h.c2, (hb.cell (p := ⟨b, 3, none⟩) hlt).trans h.c3, (hb.cell (p := ⟨b, 4, none⟩) hlt).trans h.c4, fun j => (hb.frozen (p := ⟨b, j, none⟩) hlt).trans (h.fz j)⟩

theorem RowAt.set0 {w : World} {b : Nat} {n i L bias dm : Int} (h : RowAt w b n i L bias dm) (x : Int) : RowAt (w.setCell ⟨b, 0, none⟩ (.int .i64 x)) b x i L bias dm :=
  ⟨by rw [World.size_setCell]; exact h.lt, World.cell?_setCell_same _ _ _ h.c0, (World.cell?_setCell_other _ _ _ _ (by simp)).trans h.c1, (World.cell?_setCell_other _ _ _ _ (by simp)).trans h.c2, (World.cell?_setCell_other _ _ _ _ (by simp)).trans h.c3, (World.cell?_setCell_other _ _ _ _ (by simp)).trans h.c4, fun j => (World.frozen?_setCell ..).trans (h.fz j)⟩
theorem RowAt.set1 {w : World} {b : Nat} {n i L bias dm : Int} (h : RowAt w b n i L bias dm) (x : Int) : RowAt (w.setCell ⟨b, 1, none⟩ (.int .i64 x)) b n x L bias dm :=
  ⟨by rw [World.size_setCell]; exact h.lt, (World.cell?_setCell_other _ _ _ _ (by simp)).trans h.c0, World.cell?_setCell_same _ _ _ h.c1, (World.cell?_setCell_other _ _ _ _ (by simp)).trans h.c2, (World.cell?_setCell_other _ _ _ _ (by simp)).trans h.c3, (World.cell?_setCell_other _ _ _ _ (by simp)).trans h.c4, fun j => (World.frozen?_setCell ..).trans (h.fz j)⟩
theorem RowAt.set2 {w : World} {b : Nat} {n i L bias dm : Int} (h : RowAt w b n i L bias dm) (x : Int) : RowAt (w.setCell ⟨b, 2, none⟩ (.int .i64 x)) b n i x bias dm :=
  ⟨by rw [World.size_setCell]; exact h.lt, (World.cell?_setCell_other _ _ _ _ (by simp)).trans h.c0, (World.cell?_setCell_other _ _ _ _ (by simp)).trans h.c1, World.cell?_setCell_same _ _ _ h.c2, (World.cell?_setCell_other _ _ _ _ (by simp)).trans h.c3, (World.cell?_setCell_other _ _ _ _ (by simp)).trans h.c4, fun j => (World.frozen?_setCell ..).trans (h.fz j)⟩
theorem RowAt.set3 {w : World} {b : Nat} {n i L bias dm : Int} (h : RowAt w b n i L bias dm) (x : Int) : RowAt (w.setCell ⟨b, 3, none⟩ (.int .i64 x)) b n i L x dm :=
  ⟨by rw [World.size_setCell]; exact h.lt, (World.cell?_setCell_other _ _ _ _ (by simp)).trans h.c0, (World.cell?_setCell_other _ _ _ _ (by simp)).trans h.c1, (World.cell?_setCell_other _ _ _ _ (by simp)).trans h.c2, World.cell?_setCell_same _ _ _ h.c3, (World.cell?_setCell_other _ _ _ _ (by simp)).trans h.c4, fun j => (World.frozen?_setCell ..).trans (h.fz j)⟩
theorem RowAt.set4 {w : World} {b : Nat} {n i L bias dm : Int} (h : RowAt w b n i L bias dm) (x : Int) : RowAt (w.setCell ⟨b, 4, none⟩ (.int .i64 x)) b n i L bias x :=
  ⟨by rw [World.size_setCell]; exact h.lt, (World.cell?_setCell_other _ _ _ _ (by simp)).trans h.c0, (World.cell?_setCell_other _ _ _ _ (by simp)).trans h.c1, (World.cell?_setCell_other _ _ _ _ (by simp)).trans h.c2, (World.cell?_setCell_other _ _ _ _ (by simp)).trans h.c3, World.cell?_setCell_same _ _ _ h.c4, fun j => (World.frozen?_setCell ..).trans (h.fz j)⟩
theorem grown_set {w w1 : World} {b : Nat} (h : w.grownBy w1 (some b)) (o : Nat) (v : Value) : w.grownBy (w1.setCell ⟨b, o, none⟩ v) (some b) :=
  ⟨h.os, h.tape, h.output, by rw [World.size_setCell]; exact h.size, fun k hk hne => by
    rw [heap_setCell_other _ _ _ _ (fun e => hne (by rw [e]))]; exact h.block k hk hne⟩
theorem grown_below {w w1 : World} {B : Nat} {r : Option Nat} (h : Below B w w1) (hB : w.heap.size ≤ B) : w.grownBy w1 r := ⟨h.os, h.tape, h.output, h.size, fun k hk _ => h.block k (by omega)⟩
theorem grown_drewN {w w1 : World} {r : Option Nat} (h : w.grownBy w1 r) (n : Nat) : w.grownBy (w1.drewN n) r := ⟨h.os, h.tape, h.output, h.size, h.block⟩
theorem grown_drew {w w1 : World} {r : Option Nat} (h : w.grownBy w1 r) : w.grownBy w1.drew r := ⟨h.os, h.tape, h.output, h.size, h.block⟩
theorem RowAt.drew {w : World} {b : Nat} {n i L bias dm : Int} (h : RowAt w b n i L bias dm) : RowAt w.drew b n i L bias dm := ⟨h.lt, h.c0, h.c1, h.c2, h.c3, h.c4, h.fz⟩

set_option maxRecDepth 100000 in
set_option maxHeartbeats 400000 in
/-- (*code.row).most -/
theorem pmost_any (b : Nat) (n i L bias dm : Int) (w : World) (hR : RowAt w b n i L bias dm) (h0 : 128 ≤ n) (h1 : n ≤ 1114111) (h2 : 0 ≤ L) (h3 : L ≤ 1000) :
    Calls Tryz.prog 122 #[.pointer (some ⟨b, 0, none⟩)] w fun e w' => e = .returned (.int .i64 ((1114112 - n) * (L + 1))) ∧ ∃ q, w' = w.drewN q := by
  have hp0 : 0 ≤ (1114112 - n) * (L + 1) := Int.mul_nonneg (by omega) (by omega)
  have hp1 : (1114112 - n) * (L + 1) ≤ 1114112 * (L + 1) := Int.mul_le_mul_of_nonneg_right (by omega) (by omega)
  obtain ⟨hlt, c0, c1, c2, c3, c4, fz⟩ := hR
  go_enter Tryz.func122, Tryz.ntmps122
  go_wp2
  go_quiet ((fail))
  go_wp2
  go_ret
  exact ⟨rfl, _, rfl⟩

set_option maxRecDepth 100000 in
set_option maxHeartbeats 400000 in
/-- (*code.row).passed -/
theorem ppass_any (b : Nat) (n i L bias dm m j : Int) (w : World) (hR : RowAt w b n i L bias dm) (h0 : 128 ≤ n) (h1 : n ≤ 1114111) (h2 : 0 ≤ L) (h3 : L ≤ 1000) (h4 : -1 ≤ i) (h5 : i ≤ 1000) (h6 : n ≤ m) (h7 : m ≤ 1114111) (h8 : 0 ≤ j) (h9 : j ≤ 1000) :
    Calls Tryz.prog 174 #[.pointer (some ⟨b, 0, none⟩), .agg #[.int .i64 m, .int .i64 j]] w fun e w' => e = .returned (.int .i64 ((m - n) * (L + 1) + j - (i + 1))) ∧ Below w.heap.size w w' := by
  have hp0 : 0 ≤ (m - n) * (L + 1) := Int.mul_nonneg (by omega) (by omega)
  have hp1 : (m - n) * (L + 1) ≤ 1114112 * (L + 1) := Int.mul_le_mul_of_nonneg_right (by omega) (by omega)
  obtain ⟨hlt, c0, c1, c2, c3, c4, fz⟩ := hR
  go_enter Tryz.func174, Tryz.ntmps174
  go_wp2
  go_quiet ((fail))
  go_wp2
  go_ret
  exact ⟨rfl, below_drewN ((Below.refl _ _).alloc (Nat.le_refl _) _) _⟩

set_option maxRecDepth 100000 in
set_option maxHeartbeats 400000 in
/-- code.newRow -/
theorem prow_any (L : Int) (w : World) :
    Calls Tryz.prog 120 #[.int .i64 L] w fun e w' => e = .returned (.agg #[.int .i64 128, .int .i64 (-1), .int .i64 L, .int .i64 72, .int .i64 700]) ∧ Below w.heap.size w w' := by
  go_enter Tryz.func120, Tryz.ntmps120
  go_wp2
  exact bodyPost_ret (v := .agg #[.int .i64 128, .int .i64 (-1), .int .i64 L, .int .i64 72, .int .i64 700]) (by simp [results, Tryz.results120, go_sem]) rfl ⟨rfl, (Below.refl _ _).alloc (Nat.le_refl _) _⟩

set_option maxRecDepth 100000 in
set_option maxHeartbeats 1000000 in
/-- (*code.row).behind -/
theorem pbehind_any (b : Nat) (n i L bias dm d : Int) (w : World) (hR : RowAt w b n i L bias dm) (h0 : 128 ≤ n) (h1 : n ≤ 1114111) (h2 : 0 ≤ L) (h3 : L ≤ 1000) (h4 : -1 ≤ i) (h5 : i ≤ 1000) (h6 : 0 ≤ d) (h7 : d ≤ 10000000000) :
    Calls Tryz.prog 123 #[.pointer (some ⟨b, 0, none⟩), .int .i64 d] w fun e w' => e = .returned (.agg #[.int .i64 (n + (i + 1 + d) / (L + 1)), .int .i64 ((i + 1 + d) % (L + 1))]) ∧ Below w.heap.size w w' := by
  have hq0 : 0 ≤ (i + 1 + d) / (L + 1) ∧ (i + 1 + d) / (L + 1) ≤ i + 1 + d := ⟨Int.ediv_nonneg (by omega) (by omega), Int.ediv_le_self _ (by omega)⟩
  have hne : L + 1 ≠ 0 := by omega
  obtain ⟨hlt, c0, c1, c2, c3, c4, fz⟩ := hR
  have hn0 := World.new_ne w ⟨b, 0, none⟩ c0
  have hw1 : IntKind.i64.wrap (L + 1) = L + 1 := by rw [IntWalk.i64_left]; exact IntWalk.wrap64_in _ (by omega)
  have hwq : IntKind.i64.wrap ((i + 1 + d).tdiv (L + 1)) = (i + 1 + d) / (L + 1) := IntWalk.i64_quo _ _ (by omega)
  have hws : IntKind.i64.wrap (n + (i + 1 + d) / (L + 1)) = n + (i + 1 + d) / (L + 1) := by rw [IntWalk.i64_left]; exact IntWalk.wrap64_in _ (by omega)
  have hwm : (i + 1 + d).tmod (L + 1) = (i + 1 + d) % (L + 1) := Int.tmod_eq_emod_of_nonneg (by omega)
  have hz : (L + 1 == 0) = false := by simpa using hne
  go_enter Tryz.func123, Tryz.ntmps123
  go_wp2
  go_region_held3 (fun w' => w'.cell? ⟨b, 0, none⟩ = some (.int .i64 n) ∧ w'.cell? ⟨b, 2, none⟩ = some (.int .i64 L)) (go_keep) (fail)
  go_wp2
  exact bodyPost_ret (v := .agg #[.int .i64 (n + (i + 1 + d) / (L + 1)), .int .i64 ((i + 1 + d) % (L + 1))]) (by simp [results, Tryz.results123, go_sem]) rfl ⟨rfl, ((Below.refl _ _).alloc (Nat.le_refl _) _).drew⟩

theorem keep3 {W : World} {b : Nat} {x v4 v2 : Value} (c4 : W.cell? ⟨b, 4, none⟩ = some v4) (c2 : W.cell? ⟨b, 2, none⟩ = some v2) : (W.setCell ⟨b, 3, none⟩ x).drew.cell? ⟨b, 4, none⟩ = some v4 ∧ (W.setCell ⟨b, 3, none⟩ x).drew.cell? ⟨b, 2, none⟩ = some v2 := by
  constructor
  · show (W.setCell ⟨b, 3, none⟩ x).cell? ⟨b, 4, none⟩ = some v4
    exact (World.cell?_setCell_other _ _ _ _ (by simp)).trans c4
  · show (W.setCell ⟨b, 3, none⟩ x).cell? ⟨b, 2, none⟩ = some v2
    exact (World.cell?_setCell_other _ _ _ _ (by simp)).trans c2
theorem cell_of_new (w w1 : World) (c d : Value) (t : TypeId) (h : Below (w.heap.size + 1) (w.alloc (.cells #[c, d] t)) w1) : w1.cell? ⟨w.heap.size, 0, none⟩ = some c ∧ w1.cell? ⟨w.heap.size, 1, none⟩ = some d := by
  constructor
  · rw [h.cell (p := ⟨w.heap.size, 0, none⟩) (by simp), World.cell?_alloc_mark]; rfl
  · rw [h.cell (p := ⟨w.heap.size, 1, none⟩) (by simp), World.cell?_alloc_mark]; rfl

set_option maxRecDepth 100000 in
set_option maxHeartbeats 1000000 in
/-- (*code.row).take -/
theorem ptake_any (b : Nat) (n i L bias dm m j : Int) (w : World) (hR : RowAt w b n i L bias dm) (h0 : 128 ≤ n) (h1 : n ≤ 1114111) (h2 : 0 ≤ L) (h3 : L ≤ 100) (h4 : -1 ≤ i) (h5 : i ≤ 1000) (h6 : n ≤ m) (h7 : m ≤ 1114111) (h8 : 0 ≤ j) (h9 : j ≤ 1000) (hD : 0 ≤ (m - n) * (L + 1) + j - (i + 1)) (hdm : 1 ≤ dm) (hdm2 : dm ≤ 1000) :
    Calls Tryz.prog 126 #[.pointer (some ⟨b, 0, none⟩), .agg #[.int .i64 m, .int .i64 j]] w fun e w' => (∃ v, e = .returned v) ∧ RowAt w' b m j (L + 1) (Sx.bias1 (((m - n) * (L + 1) + j - (i + 1)) / dm) (L + 1)) 2 ∧ w.grownBy w' (some b) := by
  have hp1 : (m - n) * (L + 1) ≤ 1114112 * (L + 1) := Int.mul_le_mul_of_nonneg_right (by omega) (by omega)
  have hR2 : RowAt (w.alloc (.cells #[.int .i64 m, .int .i64 j] 178)) b n i L bias dm := hR.below ((Below.refl _ _).alloc (Nat.le_refl _) _) hR.lt
  have hlt := hR.lt
  have hpass := ppass_any b n i L bias dm m j _ hR2 h0 h1 h2 (by omega) h4 h5 h6 h7 h8 h9
  have HPASS := hide hpass
  have HR2 := hide hR2
  have HR := hide hR
  clear hpass hR2 hR
  go_enter Tryz.func126, Tryz.ntmps126
  go_wp2_with fail
  refine HPASS.out.mono ?_
  rintro e w1 ⟨rfl, hB⟩
  have hR3 := HR2.out.below hB (by simp; omega)
  rw [World.size_alloc] at hB
  obtain ⟨hn0, hn1⟩ := cell_of_new w w1 _ _ _ hB
  have hszz := hB.size
  have hRW := ((hR3.set0 m).set1 j).set2 (L + 1)
  have hgW : w.grownBy (((w1.setCell ⟨b, 0, none⟩ (.int .i64 m)).setCell ⟨b, 1, none⟩ (.int .i64 j)).setCell ⟨b, 2, none⟩ (.int .i64 (L + 1))) (some b) := grown_set (grown_set (grown_set (grown_below (((Below.refl _ _).alloc (Nat.le_refl _) _).trans (hB.mono (by omega))) (Nat.le_refl _)) _ _) _ _) _ _
  have HRW := hide hRW
  have HGW := hide hgW
  clear hRW hgW
  obtain ⟨hlt1, c0, c1, c2, c3, c4, fz⟩ := hR3
  obtain ⟨D, hDD⟩ : ∃ D, (m - n) * (L + 1) + j - (i + 1) = D := ⟨_, rfl⟩
  rw [hDD] at hD
  rw [hDD]
  have hD2 : D ≤ 1000000000 := by omega
  have hneb : w.heap.size ≠ b := by omega
  have hneb2 : b ≠ w.heap.size := by omega
  have HDD := hide hDD
  clear hDD hp1
  go_wp2
  clear c0 c1 c2 c3 c4 fz hn0 hn1 hB hszz hlt1
  generalize (((w1.setCell ⟨b, 0, none⟩ (.int .i64 m)).setCell ⟨b, 1, none⟩ (.int .i64 j)).setCell ⟨b, 2, none⟩ (.int .i64 (L + 1))) = W at HRW HGW ⊢
  obtain ⟨hltW, c0, c1, c2, c3, c4, fz⟩ := HRW.out
  go_region_held3 (fun w' => w'.cell? ⟨b, 4, none⟩ = some (.int .i64 dm) ∧ w'.cell? ⟨b, 2, none⟩ = some (.int .i64 (L + 1))) (first | exact keep3 c4 c2 | go_keep) ((go_at_call 175; refine (pbias_any D dm (L + 1) _ (by omega) (by omega) (by omega) (by omega) (by omega) (by omega)).mono ?_; rintro e w' ⟨rfl, rfl⟩))
  go_wp2
  go_end0
  exact ⟨⟨_, rfl⟩, by rw [HDD.out]; exact ((HRW.out.set3 _).set4 2).drew, grown_drew (grown_set (grown_set HGW.out _ _) _ _)⟩

theorem pnan_any (x : Int) (w : World) : Calls Tryz.prog 268 #[.int .i64 x] w fun e w' => e = .returned (.bool false) ∧ w' = w := by
  go_enter Tryz.func268, Tryz.ntmps268
  go_wp2
  go_ret
  exact ⟨rfl, rfl⟩
/-- How two numbers stand to each other. -/
def cmpI (x y : Int) : Int := if x < y then -1 else if y < x then 1 else 0
set_option maxHeartbeats 400000 in
/-- cmp.Compare at int -/
theorem pcmp_any (x y : Int) (w : World) : Calls Tryz.prog 251 #[.int .i64 x, .int .i64 y] w fun e w' => e = .returned (.int .i64 (cmpI x y)) ∧ w' = w := by
  by_cases h1 : x < y
  · have hf : cmpI x y = -1 := by unfold cmpI; rw [if_pos h1]
    have HF := hide hf
    clear hf
    go_enter Tryz.func251, Tryz.ntmps251
    go_wp2_with (go_at_call 268; go_must (refine (pnan_any _ _).mono ?_; rintro e w' ⟨rfl, rfl⟩))
    go_ret
    exact ⟨ret_int HF.out.symm, rfl⟩
  · by_cases h2 : y < x
    · have hf : cmpI x y = 1 := by unfold cmpI; rw [if_neg h1, if_pos h2]
      have HF := hide hf
      clear hf
      go_enter Tryz.func251, Tryz.ntmps251
      go_wp2_with (go_at_call 268; go_must (refine (pnan_any _ _).mono ?_; rintro e w' ⟨rfl, rfl⟩))
      go_ret
      exact ⟨ret_int HF.out.symm, rfl⟩
    · have hf : cmpI x y = 0 := by unfold cmpI; rw [if_neg h1, if_neg h2]
      have HF := hide hf
      clear hf
      go_enter Tryz.func251, Tryz.ntmps251
      go_wp2_with (go_at_call 268; go_must (refine (pnan_any _ _).mono ?_; rintro e w' ⟨rfl, rfl⟩))
      go_ret
      exact ⟨ret_int HF.out.symm, rfl⟩
set_option maxHeartbeats 400000 in
/-- (code.way).comparePoints -/
theorem pcw_any (m j m2 j2 : Int) (w : World) : Calls Tryz.prog 224 #[.agg #[.int .i64 m, .int .i64 j], .agg #[.int .i64 m2, .int .i64 j2]] w fun e w' => e = .returned (.int .i64 (cmpI m m2)) ∧ Below w.heap.size w w' := by
  go_enter Tryz.func224, Tryz.ntmps224
  go_wp2_with (go_at_call 251; go_must (refine (pcmp_any _ _ _).mono ?_; rintro e w' ⟨rfl, rfl⟩))
  go_ret
  exact ⟨rfl, ((Below.refl _ _).alloc (Nat.le_refl _) _).alloc (by simp) _⟩
end Go.Proofs.YtgohllfpceeboaaGreatDoor
