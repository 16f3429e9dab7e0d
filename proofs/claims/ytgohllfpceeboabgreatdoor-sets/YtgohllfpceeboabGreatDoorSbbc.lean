import Derived.Test.YtgohllfpceeboabGreatDoorSbba
import Derived.Test.YtgohllfpceeboabGreatDoorSbaa
import Derived.Test.YtgohllfpceeboabGreatDoorSbac
import Derived.Test.YtgohllfpceeboabGreatDoorSbar
import Derived.Test.YtgohllfpceeboabGreatDoorProg
namespace Go.Proofs.YtgohllfpceeboabGreatDoor
open Go.RowKit
/-- Two boxes made by a call, behind whatever was called since. -/
theorem two_boxes {w W1 : World} {a b : Obj} (h : Below ((w.alloc a).alloc b).heap.size ((w.alloc a).alloc b) W1) : W1.heap[w.heap.size]? = some a ∧ W1.heap[w.heap.size + 1]? = some b := by
  constructor
  · rw [h.block _ (by simp; omega), heap_alloc_old _ _ (by simp), heap_alloc_new]
  · have := heap_alloc_new (w.alloc a) b
    rw [World.size_alloc] at this
    rw [h.block _ (by simp), this]
set_option maxRecDepth 100000 in
set_option maxHeartbeats 1000000 in
/-- (suffix.rule).prevails -/
theorem pprev (r o : Sx.Rl) (w : World) (hr : r.1.length ≤ 1000) (ho : o.1.length ≤ 1000) : Calls Tryz.prog 62 #[ruA r, ruA o] w fun e w' => e = .returned (.bool (prevB r o)) ∧ Below w.heap.size w w' := by
  have HPR := hide (fun W => ppubl r W hr)
  have HPO := hide (fun W => ppubl o W ho)
  obtain ⟨B, hBd⟩ : ∃ B, prevB r o = B := ⟨_, rfl⟩
  rw [hBd]
  unfold prevB at hBd
  simp only [kd_int, ne_eq] at hBd
  obtain ⟨PR, hPR⟩ : ∃ PR, pubI r = PR := ⟨_, rfl⟩
  obtain ⟨PO, hPO⟩ : ∃ PO, pubI o = PO := ⟨_, rfl⟩
  rw [hPR, hPO] at hBd
  rw [hPR] at HPR
  rw [hPO] at HPO
  obtain ⟨rh, rk, rs⟩ := r
  obtain ⟨oh, ok, os⟩ := o
  clear hPR hPO
  unfold ruA at HPR HPO ⊢
  dsimp only at HPR HPO hr ho hBd ⊢
  obtain ⟨X, hX⟩ : ∃ X : ByteArray, ⟨(Sx.dotted rh).toArray⟩ = X := ⟨_, rfl⟩
  obtain ⟨Y, hY⟩ : ∃ Y : ByteArray, ⟨(Sx.dotted oh).toArray⟩ = Y := ⟨_, rfl⟩
  rw [hX] at HPR ⊢
  rw [hY] at HPO ⊢
  clear hX hY
  obtain ⟨K, hK⟩ : ∃ K : Int, (rk.toNat : Int) = K := ⟨_, rfl⟩
  obtain ⟨L, hL⟩ : ∃ L : Int, (ok.toNat : Int) = L := ⟨_, rfl⟩
  rw [hK] at HPR hBd ⊢
  rw [hL] at HPO hBd ⊢
  clear hK hL
  obtain ⟨M, hM⟩ : ∃ M, rh.length = M := ⟨_, rfl⟩
  obtain ⟨M2, hM2⟩ : ∃ M2, oh.length = M2 := ⟨_, rfl⟩
  rw [hM] at HPR ⊢
  rw [hM2] at HPO ⊢
  obtain ⟨S, hS⟩ : ∃ S : Int, (rs.toNat : Int) = S := ⟨_, rfl⟩
  obtain ⟨S2, hS2⟩ : ∃ S2 : Int, (os.toNat : Int) = S2 := ⟨_, rfl⟩
  rw [hS] at HPR ⊢
  rw [hS2] at HPO ⊢
  clear hM hM2 hS hS2 hr ho
  have HBD : Hid ((if ¬ K = L ∧ (K = 33 ∨ L = 33) then decide (K = 33) else if ¬ PR = PO then decide (PR > PO) else decide (K = 36)) = B) := hide hBd
  clear hBd
  have HNEW : Hid (∀ W1, Below ((w.alloc (.cells #[.int .u8 K, .string X, .int .i64 M, .int .u8 S] 82)).alloc (.cells #[.int .u8 L, .string Y, .int .i64 M2, .int .u8 S2] 82)).heap.size ((w.alloc (.cells #[.int .u8 K, .string X, .int .i64 M, .int .u8 S] 82)).alloc (.cells #[.int .u8 L, .string Y, .int .i64 M2, .int .u8 S2] 82)) W1 →
    (W1.cell? ⟨w.heap.size, 0, none⟩ = some (.int .u8 K) ∧ W1.cell? ⟨w.heap.size, 1, none⟩ = some (.string X) ∧ W1.cell? ⟨w.heap.size, 2, none⟩ = some (.int .i64 M) ∧ W1.cell? ⟨w.heap.size, 3, none⟩ = some (.int .u8 S)) ∧ (W1.cell? ⟨w.heap.size + 1, 0, none⟩ = some (.int .u8 L) ∧ W1.cell? ⟨w.heap.size + 1, 1, none⟩ = some (.string Y) ∧ W1.cell? ⟨w.heap.size + 1, 2, none⟩ = some (.int .i64 M2) ∧ W1.cell? ⟨w.heap.size + 1, 3, none⟩ = some (.int .u8 S2)) ∧ Below w.heap.size w W1) := hide (fun W1 h => by
      obtain ⟨h1, h2⟩ := two_boxes h
      refine ⟨(box4 h1).1, (box4 h2).1, ?_⟩
      exact (((Below.refl _ w).alloc (Nat.le_refl _) _).alloc (by simp) _).trans (h.mono (by simp; omega)))
  obtain ⟨W0, hW0⟩ : ∃ W0, (w.alloc (.cells #[.int .u8 K, .string X, .int .i64 M, .int .u8 S] 82)).alloc (.cells #[.int .u8 L, .string Y, .int .i64 M2, .int .u8 S2] 82) = W0 := ⟨_, rfl⟩
  rw [hW0] at HNEW
  have hS0 : _ ∧ _ := ⟨(HNEW.out W0 (Below.refl _ _)).1, (HNEW.out W0 (Below.refl _ _)).2.1⟩
  have HB0 : Hid (Below w.heap.size w W0) := hide (HNEW.out W0 (Below.refl _ _)).2.2
  go_enter Tryz.func62, Tryz.ntmps62
  by_cases hKL : K = L
  · subst hKL
    go_upto_region 3 with fail
    clear hW0
    obtain ⟨⟨a0, a1, a2, a3⟩, b0, b1, b2, b3⟩ := hS0
    go_cut [27] (fun c wc => (∃ b : Bool, c = .bool b ∧ (b = true ↔ ¬ PR = PO)) ∧ Below W0.heap.size W0 wc)
    case first =>
      go_region_with (first | (have hbX := hbA; go_at_call 64; refine (HPO.out _).mono ?_; rintro e wB ⟨rfl, hBB⟩; have hbB : Below W0.heap.size W0 wB := hbX.trans (hBB.mono hbX.size); obtain ⟨⟨e0, e1, e2, e3⟩, ⟨f0, f1, f2, f3⟩, -⟩ := HNEW.out wB hbB) | (go_at_call 64; refine (HPR.out _).mono ?_; rintro e wA ⟨rfl, hBA⟩; have hbA : Below W0.heap.size W0 wA := (Below.refl _ W0).drew.trans hBA; obtain ⟨⟨c0, c1, c2, c3⟩, ⟨d0, d1, d2, d3⟩, -⟩ := HNEW.out wA hbA))
      all_goals
        go_wp2_with fail
        go_meet
        exact ⟨⟨_, rfl, by simp⟩, hbB⟩
    case rest =>
      obtain ⟨⟨b, rfl, hb⟩, hbC⟩ := hcut
      clear a0 a1 a2 a3 b0 b1 b2 b3
      obtain ⟨⟨a0, a1, a2, a3⟩, ⟨b0, b1, b2, b3⟩, hfin⟩ := HNEW.out _ hbC
      cases b with
      | false =>
        have hP : PR = PO := Classical.byContradiction fun h => by have := hb.2 h; cases this
        have HF := hide hfin
        clear hb hbC hfin
        go_wp2
        go_ret
        refine ⟨?_, HF.out⟩
        rw [← HBD.out, if_neg (by simp_all), if_neg (by simp [hP])]
        exact ret_bool (by first | rfl | (rw [Bool.eq_iff_iff]; simp))
      | true =>
        have hP : ¬ PR = PO := hb.1 rfl
        clear hb hfin
        go_wp2_with fail
        go_region_with (first | (have hbX := hbA; go_at_call 64; refine (HPO.out _).mono ?_; rintro e wB ⟨rfl, hBB⟩; have hbB : Below W0.heap.size W0 wB := hbX.trans (hBB.mono hbX.size); obtain ⟨⟨e0, e1, e2, e3⟩, ⟨f0, f1, f2, f3⟩, -⟩ := HNEW.out wB hbB) | (go_at_call 64; refine (HPR.out _).mono ?_; rintro e wA ⟨rfl, hBA⟩; have hbA : Below W0.heap.size W0 wA := hbC.drew.trans (hBA.mono hbC.size); obtain ⟨⟨c0, c1, c2, c3⟩, ⟨d0, d1, d2, d3⟩, -⟩ := HNEW.out wA hbA))
        all_goals
          have HF := hide (HNEW.out _ hbB).2.2
          go_wp2
          go_ret
          refine ⟨?_, HF.out⟩
          rw [← HBD.out, if_neg (by simp_all), if_pos (by simp [hP])]
          exact ret_bool (by first | rfl | (rw [Bool.eq_iff_iff]; simp))
  · have k1 : (K == L) = false := by simpa using hKL
    have k2 : (K != L) = true := by simpa using hKL
    by_cases h33 : K = 33
    · subst h33
      obtain ⟨⟨a0, a1, a2, a3⟩, b0, b1, b2, b3⟩ := hS0
      clear HNEW
      go_wp2
      go_ret
      exact ⟨by rw [← HBD.out, if_pos (by simp_all)]; rfl, HB0.out⟩
    · have k3 : (K == 33) = false := by simpa using h33
      by_cases l33 : L = 33
      · subst l33
        obtain ⟨⟨a0, a1, a2, a3⟩, b0, b1, b2, b3⟩ := hS0
        clear HNEW
        go_wp2
        go_ret
        exact ⟨by rw [← HBD.out, if_pos (by simp_all)]; exact ret_bool (by rw [Bool.eq_iff_iff]; simp [h33]), HB0.out⟩
      · have k4 : (L == 33) = false := by simpa using l33
        go_upto_region 3 with fail
        clear hW0
        obtain ⟨⟨a0, a1, a2, a3⟩, b0, b1, b2, b3⟩ := hS0
        go_cut [27] (fun c wc => (∃ b : Bool, c = .bool b ∧ (b = true ↔ ¬ PR = PO)) ∧ Below W0.heap.size W0 wc)
        case first =>
          go_region_with (first | (have hbX := hbA; go_at_call 64; refine (HPO.out _).mono ?_; rintro e wB ⟨rfl, hBB⟩; have hbB : Below W0.heap.size W0 wB := hbX.trans (hBB.mono hbX.size); obtain ⟨⟨e0, e1, e2, e3⟩, ⟨f0, f1, f2, f3⟩, -⟩ := HNEW.out wB hbB) | (go_at_call 64; refine (HPR.out _).mono ?_; rintro e wA ⟨rfl, hBA⟩; have hbA : Below W0.heap.size W0 wA := (Below.refl _ W0).drew.trans hBA; obtain ⟨⟨c0, c1, c2, c3⟩, ⟨d0, d1, d2, d3⟩, -⟩ := HNEW.out wA hbA))
          all_goals
            go_wp2_with fail
            go_meet
            exact ⟨⟨_, rfl, by simp⟩, hbB⟩
        case rest =>
          obtain ⟨⟨b, rfl, hb⟩, hbC⟩ := hcut
          clear a0 a1 a2 a3 b0 b1 b2 b3
          obtain ⟨⟨a0, a1, a2, a3⟩, ⟨b0, b1, b2, b3⟩, hfin⟩ := HNEW.out _ hbC
          cases b with
          | false =>
            have hP : PR = PO := Classical.byContradiction fun h => by have := hb.2 h; cases this
            have HF := hide hfin
            clear hb hbC hfin
            go_wp2
            go_ret
            refine ⟨?_, HF.out⟩
            rw [← HBD.out, if_neg (by simp_all), if_neg (by simp [hP])]
            exact ret_bool (by first | rfl | (rw [Bool.eq_iff_iff]; simp))
          | true =>
            have hP : ¬ PR = PO := hb.1 rfl
            clear hb hfin
            go_wp2_with fail
            go_region_with (first | (have hbX := hbA; go_at_call 64; refine (HPO.out _).mono ?_; rintro e wB ⟨rfl, hBB⟩; have hbB : Below W0.heap.size W0 wB := hbX.trans (hBB.mono hbX.size); obtain ⟨⟨e0, e1, e2, e3⟩, ⟨f0, f1, f2, f3⟩, -⟩ := HNEW.out wB hbB) | (go_at_call 64; refine (HPR.out _).mono ?_; rintro e wA ⟨rfl, hBA⟩; have hbA : Below W0.heap.size W0 wA := hbC.drew.trans (hBA.mono hbC.size); obtain ⟨⟨c0, c1, c2, c3⟩, ⟨d0, d1, d2, d3⟩, -⟩ := HNEW.out wA hbA))
            all_goals
              have HF := hide (HNEW.out _ hbB).2.2
              go_wp2
              go_ret
              refine ⟨?_, HF.out⟩
              rw [← HBD.out, if_neg (by simp_all), if_pos (by simp [hP])]
              exact ret_bool (by first | rfl | (rw [Bool.eq_iff_iff]; simp))
end Go.Proofs.YtgohllfpceeboabGreatDoor

