import Derived.Test.YtgohllfpceeboabGreatDoorSbbg
import Derived.Test.YtgohllfpceeboabGreatDoorRKga
import Derived.Test.YtgohllfpceeboabGreatDoorRKgb
import Derived.Test.YtgohllfpceeboabGreatDoorRKgc
import Derived.Test.YtgohllfpceeboabGreatDoorRKgd
import Derived.Deep.RegionHeldLaw
namespace Go.Proofs.YtgohllfpceeboabGreatDoor
open Go.RowKit
/-- A box of three answers. -/
def B3 (W : World) (b : Nat) (x y z : Bool) : Prop := b < W.heap.size ∧ (W.cell? ⟨b, 0, none⟩ = some (.bool x) ∧ W.cell? ⟨b, 1, none⟩ = some (.bool y) ∧ W.cell? ⟨b, 2, none⟩ = some (.bool z)) ∧ W.frozen? ⟨b, 0, none⟩ = false ∧ W.frozen? ⟨b, 1, none⟩ = false ∧ W.frozen? ⟨b, 2, none⟩ = false
theorem B3.below {W W' : World} {b : Nat} {x y z : Bool} (h : B3 W b x y z) (hb : Below W.heap.size W W') : B3 W' b x y z := by
  obtain ⟨h0, ⟨h1, h2, h3⟩, h4, h5, h6⟩ := h
  exact ⟨Nat.lt_of_lt_of_le h0 hb.size, ⟨(hb.cell (p := ⟨b, 0, none⟩) h0).trans h1, (hb.cell (p := ⟨b, 1, none⟩) h0).trans h2, (hb.cell (p := ⟨b, 2, none⟩) h0).trans h3⟩, (hb.frozen (p := ⟨b, 0, none⟩) h0).trans h4, (hb.frozen (p := ⟨b, 1, none⟩) h0).trans h5, (hb.frozen (p := ⟨b, 2, none⟩) h0).trans h6⟩
theorem B3.other {W : World} {b c k : Nat} {x y z : Bool} (h : B3 W b x y z) (hc : c ≠ b) (v : Value) : B3 (W.setCell ⟨c, k, none⟩ v) b x y z := by
  obtain ⟨h0, ⟨h1, h2, h3⟩, h4, h5, h6⟩ := h
  refine ⟨by rw [World.size_setCell]; exact h0, ⟨?_, ?_, ?_⟩, (World.frozen?_setCell ..).trans h4, (World.frozen?_setCell ..).trans h5, (World.frozen?_setCell ..).trans h6⟩
  · rw [World.cell?_setCell_other _ _ _ _ (fun e => hc (congrArg Addr.block e)), h1]
  · rw [World.cell?_setCell_other _ _ _ _ (fun e => hc (congrArg Addr.block e)), h2]
  · rw [World.cell?_setCell_other _ _ _ _ (fun e => hc (congrArg Addr.block e)), h3]
theorem B3.set0 {W : World} {b : Nat} {x y z : Bool} (h : B3 W b x y z) (v : Bool) : B3 (W.setCell ⟨b, 0, none⟩ (.bool v)) b v y z := by
  obtain ⟨h0, ⟨h1, h2, h3⟩, h4, h5, h6⟩ := h
  refine ⟨by rw [World.size_setCell]; exact h0, ⟨?_, ?_, ?_⟩, (World.frozen?_setCell ..).trans h4, (World.frozen?_setCell ..).trans h5, (World.frozen?_setCell ..).trans h6⟩
  · rw [World.cell?_setCell_same _ _ _ h1]
  · rw [World.cell?_setCell_other _ _ _ _ (by simp), h2]
  · rw [World.cell?_setCell_other _ _ _ _ (by simp), h3]
theorem B3.set1 {W : World} {b : Nat} {x y z : Bool} (h : B3 W b x y z) (v : Bool) : B3 (W.setCell ⟨b, 1, none⟩ (.bool v)) b x v z := by
  obtain ⟨h0, ⟨h1, h2, h3⟩, h4, h5, h6⟩ := h
  refine ⟨by rw [World.size_setCell]; exact h0, ⟨?_, ?_, ?_⟩, (World.frozen?_setCell ..).trans h4, (World.frozen?_setCell ..).trans h5, (World.frozen?_setCell ..).trans h6⟩
  · rw [World.cell?_setCell_other _ _ _ _ (by simp), h1]
  · rw [World.cell?_setCell_same _ _ _ h2]
  · rw [World.cell?_setCell_other _ _ _ _ (by simp), h3]
theorem B3.set2 {W : World} {b : Nat} {x y z : Bool} (h : B3 W b x y z) (v : Bool) : B3 (W.setCell ⟨b, 2, none⟩ (.bool v)) b x y v := by
  obtain ⟨h0, ⟨h1, h2, h3⟩, h4, h5, h6⟩ := h
  refine ⟨by rw [World.size_setCell]; exact h0, ⟨?_, ?_, ?_⟩, (World.frozen?_setCell ..).trans h4, (World.frozen?_setCell ..).trans h5, (World.frozen?_setCell ..).trans h6⟩
  · rw [World.cell?_setCell_other _ _ _ _ (by simp), h1]
  · rw [World.cell?_setCell_other _ _ _ _ (by simp), h2]
  · rw [World.cell?_setCell_same _ _ _ h3]
theorem b3_new (w : World) (t : TypeId) : B3 (w.alloc (.cells #[.bool false, .bool false, .bool false] t)) w.heap.size false false false := by
  have h := heap_alloc_new w (.cells #[.bool false, .bool false, .bool false] t)
  obtain ⟨W, hW⟩ : ∃ W, w.alloc (.cells #[.bool false, .bool false, .bool false] t) = W := ⟨_, rfl⟩
  have hz : w.heap.size < W.heap.size := by rw [← hW, World.size_alloc]; omega
  rw [hW] at h ⊢
  refine ⟨hz, ?_, ?_⟩ <;> simp [World.cell?, World.frozen?, h]
theorem idxF0 (f1 f2 f3 : Value) (W : World) : (Instr.index 108 (.agg #[f1, f2, f3]) (.int .i64 0)).run Tryz.prog W = .ok f1 W := by
  simp [Instr.index, run_underlying Tryz.underlying108, asIntOf, go_sem]
theorem idxF1 (f1 f2 f3 : Value) (W : World) : (Instr.index 108 (.agg #[f1, f2, f3]) (.int .i64 1)).run Tryz.prog W = .ok f2 W := by
  simp [Instr.index, run_underlying Tryz.underlying108, asIntOf, go_sem]
theorem idxF2 (f1 f2 f3 : Value) (W : World) : (Instr.index 108 (.agg #[f1, f2, f3]) (.int .i64 2)).run Tryz.prog W = .ok f3 W := by
  simp [Instr.index, run_underlying Tryz.underlying108, asIntOf, go_sem]
set_option maxRecDepth 100000 in
set_option maxHeartbeats 4000000 in
/-- (*suffix.World).relations -/
theorem prelat (g a b : Nat) (rs : List Sx.Rl) (os : List Org) (w : World) (hr : RdW w g rs os) (ha : a < os.length) (hb : b < os.length) (hok : ∀ o ∈ os, OrgOk o) (hrt : Sx.RlsRt rs) : Calls Tryz.prog 37 #[.pointer (some ⟨g, 0, none⟩), .int .i64 a, .int .i64 b] w fun e w' => e = .returned (.agg #[.bool (relA a b os[a] os[b]), .bool (relB a b os[a] os[b]), .bool (relC rs a b os[a] os[b])]) ∧ Below w.heap.size w w' := by
  have HA := hide (fun W (h : Below w.heap.size w W) => psame g a b rs os W (hr.below h) ha hb hok)
  have HD := hide (fun W (h : Below w.heap.size w W) => psameD g a b rs os W (hr.below h) ha hb hok)
  have HC := hide (fun W (h : Below w.heap.size w W) => pone g a b rs os W (hr.below h) ha hb hok hrt)
  obtain ⟨R1, hR1⟩ : ∃ R, relA a b os[a] os[b] = R := ⟨_, rfl⟩
  obtain ⟨R2, hR2⟩ : ∃ R, relB a b os[a] os[b] = R := ⟨_, rfl⟩
  obtain ⟨R3, hR3⟩ : ∃ R, relC rs a b os[a] os[b] = R := ⟨_, rfl⟩
  rw [hR1] at HA ⊢
  rw [hR2] at HD ⊢
  rw [hR3] at HC ⊢
  clear hR1 hR2 hR3 hr
  have hb1 := b3_new w 76
  have hB1 : Below w.heap.size w (w.alloc (.cells #[.bool false, .bool false, .bool false] 76)) := (Below.refl _ w).alloc (Nat.le_refl _) _
  have hz1 : (w.alloc (.cells #[.bool false, .bool false, .bool false] 76)).heap.size = w.heap.size + 1 := by rw [World.size_alloc]
  obtain ⟨w1, hw1⟩ : ∃ w1, w.alloc (.cells #[.bool false, .bool false, .bool false] 76) = w1 := ⟨_, rfl⟩
  rw [hw1] at hb1 hB1 hz1
  have hb2 := b3_new w1 76
  have hBw : Below w1.heap.size w1 (w1.alloc (.cells #[.bool false, .bool false, .bool false] 76)) := (Below.refl _ w1).alloc (Nat.le_refl _) _
  have hb1' := hb1.below hBw
  have hB2 := below_to hB1 hBw
  rw [hz1] at hb2
  rw [← hw1] at hb2 hb1' hB2
  have HS := hide hb2
  have HT := hide hb1'
  have HU := hide hB2
  clear hb1 hB1 hz1 hw1 hb2 hBw hb1' hB2
  go_enter Tryz.func37, Tryz.ntmps37
  go_wp2_with fail
  go_loopw [17] (fun iv wr => ∃ k : Nat, iv = .int .i64 k ∧ k ≤ 3 ∧ B3 wr (w.heap.size + 1) (decide (0 < k) && R1) (decide (1 < k) && R2) (decide (2 < k) && R3) ∧ B3 wr w.heap.size false false false ∧ Below w.heap.size w wr) (fun iv _ => (3 - intOf iv).toNat)
  case atStart => exact ⟨0, rfl, by omega, HS.out, HT.out, HU.out⟩
  case round =>
    obtain ⟨k, rfl, hk, hA, hR, hB⟩ := hrel
    clear HS HT HU
    have HB := hide hB
    have HAA := hide hA
    have HRR := hide hR
    match k, hk with
    | 0, _ =>
      have hix := fun f1 f2 f3 => idxF0 f1 f2 f3 wr
      clear hB hA hR
      go_wp2_with fail
      refine (HA.out _ HB.out).mono ?_
      rintro e y1 ⟨rfl, hB1⟩
      have HB2 := hide (below_to HB.out hB1)
      have HA2 := hide (HAA.out.below hB1)
      have HR2 := hide (HRR.out.below hB1)
      obtain ⟨a0, ⟨a1, a2, a3⟩, a4, a5, a6⟩ := HA2.out
      clear hB1 hix
      go_wp2
      exact ⟨⟨1, rfl, by omega, HA2.out.set0 _, HR2.out.other (by omega) _, HB2.out.setCell (p := ⟨w.heap.size + 1, 0, none⟩) (Nat.le_succ _) _⟩, by simp [intOf]⟩
    | 1, _ =>
      have hix := fun f1 f2 f3 => idxF1 f1 f2 f3 wr
      clear hB hA hR
      go_wp2_with fail
      refine (HD.out _ HB.out).mono ?_
      rintro e y1 ⟨rfl, hB1⟩
      have HB2 := hide (below_to HB.out hB1)
      have HA2 := hide (HAA.out.below hB1)
      have HR2 := hide (HRR.out.below hB1)
      obtain ⟨a0, ⟨a1, a2, a3⟩, a4, a5, a6⟩ := HA2.out
      clear hB1 hix
      go_wp2
      exact ⟨⟨2, rfl, by omega, HA2.out.set1 _, HR2.out.other (by omega) _, HB2.out.setCell (p := ⟨w.heap.size + 1, 1, none⟩) (Nat.le_succ _) _⟩, by simp [intOf]⟩
    | 2, _ =>
      have hix := fun f1 f2 f3 => idxF2 f1 f2 f3 wr
      clear hB hA hR
      go_wp2_with fail
      refine (HC.out _ HB.out).mono ?_
      rintro e y1 ⟨rfl, hB1⟩
      have HB2 := hide (below_to HB.out hB1)
      have HA2 := hide (HAA.out.below hB1)
      have HR2 := hide (HRR.out.below hB1)
      obtain ⟨a0, ⟨a1, a2, a3⟩, a4, a5, a6⟩ := HA2.out
      clear hB1 hix
      go_wp2
      exact ⟨⟨3, rfl, by omega, HA2.out.set2 _, HR2.out.other (by omega) _, HB2.out.setCell (p := ⟨w.heap.size + 1, 2, none⟩) (Nat.le_succ _) _⟩, by simp [intOf]⟩
    | 3, _ =>
      obtain ⟨a0, ⟨a1, a2, a3⟩, a4, a5, a6⟩ := HAA.out
      obtain ⟨r0, ⟨r1, r2, r3⟩, r4, r5, r6⟩ := HRR.out
      clear hB hA hR
      go_wp2
      refine bodyPost_ret (v := .agg #[.bool R1, .bool R2, .bool R3]) ?_ rfl ?_
      · have c0 := HRR.out.set0 R1
        have c1 := c0.set1 R2
        have c2 := c1.set2 R3
        obtain ⟨q0, ⟨q1, q2, q3⟩, -⟩ := c2
        simp [results, Tryz.results37, go_sem, q1, q2, q3]
      · exact ⟨rfl, ((HB.out.setCell (p := ⟨w.heap.size, 0, none⟩) (Nat.le_refl _) _).setCell (p := ⟨w.heap.size, 1, none⟩) (Nat.le_refl _) _).setCell (p := ⟨w.heap.size, 2, none⟩) (Nat.le_refl _) _⟩
end Go.Proofs.YtgohllfpceeboabGreatDoor
