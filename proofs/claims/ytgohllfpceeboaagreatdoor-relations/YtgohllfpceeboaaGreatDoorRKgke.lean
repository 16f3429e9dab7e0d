import Derived.Test.YtgohllfpceeboaaGreatDoorSbbg
import Derived.Test.YtgohllfpceeboaaGreatDoorRKga
import Derived.Test.YtgohllfpceeboaaGreatDoorRKgb
import Derived.Test.YtgohllfpceeboaaGreatDoorRKgc
import Derived.Test.YtgohllfpceeboaaGreatDoorRKgg
import Derived.Test.YtgohllfpceeboaaGreatDoorRKgh
import Derived.Test.YtgohllfpceeboaaGreatDoorRKgi
import Derived.Test.YtgohllfpceeboaaGreatDoorRKgj
import Derived.Test.YtgohllfpceeboaaGreatDoorRKgk0
import Derived.Deep.RegionHeldLaw
import Derived.Deep.RegionLaw
namespace Go.Proofs.YtgohllfpceeboaaGreatDoor
open Go.RowKit
set_option maxRecDepth 100000 in
set_option maxHeartbeats 8000000 in
/-- suffixkeep.play -/
theorem kplay_e (g : Nat) (r : RawS) (rs : List Sx.Rl) (os : List Org) (w : World) (hw : LWt w) (hW : WlAt w g rs os) (hl : os.length ≤ 20) (hok : ∀ o ∈ os, OrgOk o) (hrt : Sx.RlsRt rs) (hr : StOk r) (hkm : Sx.pickN r.1 5 = 0) : Calls Tryz.prog 41 #[.pointer (some ⟨g, 0, none⟩), stA r] w fun e w' => e = .returned (.tuple #[]) ∧ StPost w g rs w' := by
  obtain ⟨k, a, b, c, d⟩ := r
  obtain ⟨hk, ha, hb, hc, hd⟩ := hr
  dsimp only at hk ha hb hc hd hkm
  have HPK := hide (fun W => kpick k 5 W hk.1 hk.2 (by omega) (by omega))
  have hk5 := Sx.pickN_lt k 5 (by omega)
  obtain ⟨m, hm⟩ : ∃ m, Sx.pickN k 5 = m := ⟨_, rfl⟩
  rw [hm] at HPK hk5
  obtain rfl : 0 = m := hkm.symm.trans hm
  unfold stA
  dsimp only
  have hB0 : Below w.heap.size w (w.alloc (.cells #[.int .i64 k, .int .i64 a, .int .i64 b, .int .i64 c, .int .i64 d] 67)) := (Below.refl _ w).alloc (Nat.le_refl _) _
  have hg : g < w.heap.size := by obtain ⟨rv, p, cap, h1, -⟩ := hW.read; exact h1
  have HWL := hide (fun W (h : Below w.heap.size w W) => hW.below h)
  have HLW : Hid (∀ W, Below w.heap.size w W → LWt W) := hide (fun W h => lwt_stays _ _ hw h)
  have hnw := heap_alloc_new w (.cells #[.int .i64 k, .int .i64 a, .int .i64 b, .int .i64 c, .int .i64 d] 67)
  obtain ⟨VA, hVA⟩ : ∃ V, w.alloc (.cells #[.int .i64 k, .int .i64 a, .int .i64 b, .int .i64 c, .int .i64 d] 67) = V := ⟨_, rfl⟩
  rw [hVA] at hnw hB0
  have HHE : Hid (∀ W : World, W.heap[w.heap.size]? = some (.cells #[.int .i64 k, .int .i64 a, .int .i64 b, .int .i64 c, .int .i64 d] 67) → W.cell? ⟨w.heap.size, 1, none⟩ = some (.int .i64 a) ∧ W.cell? ⟨w.heap.size, 2, none⟩ = some (.int .i64 b) ∧ W.cell? ⟨w.heap.size, 3, none⟩ = some (.int .i64 c) ∧ W.cell? ⟨w.heap.size, 4, none⟩ = some (.int .i64 d)) := hide (fun W h => by simp [World.cell?, h])
  have HHB : Hid (∀ W : World, Below VA.heap.size VA W → W.heap[w.heap.size]? = some (.cells #[.int .i64 k, .int .i64 a, .int .i64 b, .int .i64 c, .int .i64 d] 67)) := hide (fun W h => (h.block _ (heap_lt hnw)).trans hnw)
  have HVA := hide hVA
  clear hVA
  obtain ⟨hix, hi3⟩ := Sx.hostIx_ok a b c
  have hho : (Sx.host (Sx.dotted ((Sx.hostIx a b c).map Sx.nm))).2 = 0 := by rw [Sx.host_ix hix]
  have HHO := hide (fun W => khostOf a b c W ha hb hc)
  obtain ⟨T, hT⟩ : ∃ X : ByteArray, ⟨(Sx.dotted ((Sx.hostIx a b c).map Sx.nm)).toArray⟩ = X := ⟨_, rfl⟩
  have hTh : (Sx.host T.data.toList).2 = 0 := by rw [← hT]; exact hho
  rw [hT] at HHO
  have HDM := hide (fun n W (h : Below w.heap.size w W) => pDomain g n T rs os W (HLW.out _ h) (hW.below h) hl hok hrt hTh)
  have HTU := hide (fun (s : ByteArray) p W (h : Below w.heap.size w W) hs hp => pTuple g s T p rs os W (HLW.out _ h) (hW.below h) hl hok hs hp hTh)
  have HOQ := hide (fun W (h : Below w.heap.size w W) => pOpaque g rs os W (hW.below h) hl hok)
  have HP2 := hide (fun W => kpick d 2 W hd.1 hd.2 (by omega) (by omega))
  have hd2 := Sx.pickN_lt d 2 (by omega)
  have HPD := hide (fun W => kpick d 21 W hd.1 hd.2 (by omega) (by omega))
  have hq : I64 (d.tdiv 2) := by
    unfold I64 at *
    by_cases h : 0 ≤ d
    · rw [Int.tdiv_eq_ediv_of_nonneg h]; omega
    · have e := Int.neg_tdiv d 2
      rw [Int.tdiv_eq_ediv_of_nonneg (by omega)] at e
      omega
  have hwr : IntKind.i64.wrap (d.tdiv 2) = d.tdiv 2 := by
    obtain ⟨x, hx⟩ : ∃ x, d.tdiv 2 = x := ⟨_, rfl⟩
    rw [hx] at hq ⊢
    rw [IntKind.wrap_i64]
    obtain ⟨q1, q2⟩ := hq
    omega
  have HP3 : Hid (∀ W, Calls Tryz.prog 26 #[.int .i64 (IntKind.i64.wrap (d.tdiv 2)), .int .i64 2] W fun e w' => e = .returned (.int .i64 (Sx.pickN (d.tdiv 2) 2 : Nat)) ∧ w' = W) := hide (fun W => by rw [hwr]; exact kpick (d.tdiv 2) 2 W hq.1 hq.2 (by omega) (by omega))
  clear hwr
  have hd3 := Sx.pickN_lt (d.tdiv 2) 2 (by omega)
  obtain ⟨e2, he2⟩ : ∃ n, Sx.pickN d 2 = n := ⟨_, rfl⟩
  obtain ⟨e3, he3⟩ : ∃ n, Sx.pickN (d.tdiv 2) 2 = n := ⟨_, rfl⟩
  obtain ⟨e4, he4⟩ : ∃ n, Sx.pickN d 21 = n := ⟨_, rfl⟩
  rw [he2] at HP2 hd2
  rw [he3] at HP3 hd3
  rw [he4] at HPD
  have hw8 : IntKind.i64.wrap (80 + (e3 : Int)) = 80 + (e3 : Int) := by rw [IntKind.wrap_i64]; omega
  have HST : Hid (∀ W W', Below w.heap.size w W → StPost W g rs W' → StPost w g rs W') := hide (fun W W' h ⟨o', q1, q2, q3, q4, q5⟩ => ⟨o', q1, q2, q3, (h.mono (by omega)).trans q4, (keepB_below h).trans q5⟩)
  have HB0 := hide hB0
  clear hm hnw hT hho hTh hix hi3 he2 he3 he4 hB0 hW hok hrt hw hk ha hb hc
  clear HDM HTU HP2 HP3 HPD HWL HLW HHO
  go_enter Tryz.func41, Tryz.ntmps41
  go_wp2_with fail
  refine (HPK.out _).mono ?_
  rintro e y1 ⟨rfl, rfl⟩
  go_wp2_with fail
  rw [HVA.out]
  refine (HOQ.out _ HB0.out).mono ?_
  rintro e y2 ⟨⟨u1, u2, rfl⟩, hS⟩
  have HS := hide (HST.out _ _ HB0.out hS)
  clear hS
  go_wp2
  go_end0
  exact ⟨rfl, HS.out⟩
set_option maxRecDepth 100000 in
set_option maxHeartbeats 8000000 in
/-- suffixkeep.play -/
theorem kplay_f (g : Nat) (r : RawS) (rs : List Sx.Rl) (os : List Org) (w : World) (hw : LWt w) (hW : WlAt w g rs os) (hl : os.length ≤ 20) (hok : ∀ o ∈ os, OrgOk o) (hrt : Sx.RlsRt rs) (hr : StOk r) (hkm : Sx.pickN r.1 5 = 3) : Calls Tryz.prog 41 #[.pointer (some ⟨g, 0, none⟩), stA r] w fun e w' => e = .returned (.tuple #[]) ∧ StPost w g rs w' := by
  obtain ⟨k, a, b, c, d⟩ := r
  obtain ⟨hk, ha, hb, hc, hd⟩ := hr
  dsimp only at hk ha hb hc hd hkm
  have HPK := hide (fun W => kpick k 5 W hk.1 hk.2 (by omega) (by omega))
  have hk5 := Sx.pickN_lt k 5 (by omega)
  obtain ⟨m, hm⟩ : ∃ m, Sx.pickN k 5 = m := ⟨_, rfl⟩
  rw [hm] at HPK hk5
  obtain rfl : 3 = m := hkm.symm.trans hm
  unfold stA
  dsimp only
  have hB0 : Below w.heap.size w (w.alloc (.cells #[.int .i64 k, .int .i64 a, .int .i64 b, .int .i64 c, .int .i64 d] 67)) := (Below.refl _ w).alloc (Nat.le_refl _) _
  have hg : g < w.heap.size := by obtain ⟨rv, p, cap, h1, -⟩ := hW.read; exact h1
  have HWL := hide (fun W (h : Below w.heap.size w W) => hW.below h)
  have HLW : Hid (∀ W, Below w.heap.size w W → LWt W) := hide (fun W h => lwt_stays _ _ hw h)
  have hnw := heap_alloc_new w (.cells #[.int .i64 k, .int .i64 a, .int .i64 b, .int .i64 c, .int .i64 d] 67)
  obtain ⟨VA, hVA⟩ : ∃ V, w.alloc (.cells #[.int .i64 k, .int .i64 a, .int .i64 b, .int .i64 c, .int .i64 d] 67) = V := ⟨_, rfl⟩
  rw [hVA] at hnw hB0
  have HHE : Hid (∀ W : World, W.heap[w.heap.size]? = some (.cells #[.int .i64 k, .int .i64 a, .int .i64 b, .int .i64 c, .int .i64 d] 67) → W.cell? ⟨w.heap.size, 1, none⟩ = some (.int .i64 a) ∧ W.cell? ⟨w.heap.size, 2, none⟩ = some (.int .i64 b) ∧ W.cell? ⟨w.heap.size, 3, none⟩ = some (.int .i64 c) ∧ W.cell? ⟨w.heap.size, 4, none⟩ = some (.int .i64 d)) := hide (fun W h => by simp [World.cell?, h])
  have HHB : Hid (∀ W : World, Below VA.heap.size VA W → W.heap[w.heap.size]? = some (.cells #[.int .i64 k, .int .i64 a, .int .i64 b, .int .i64 c, .int .i64 d] 67)) := hide (fun W h => (h.block _ (heap_lt hnw)).trans hnw)
  have HVA := hide hVA
  clear hVA
  obtain ⟨hix, hi3⟩ := Sx.hostIx_ok a b c
  have hho : (Sx.host (Sx.dotted ((Sx.hostIx a b c).map Sx.nm))).2 = 0 := by rw [Sx.host_ix hix]
  have HHO := hide (fun W => khostOf a b c W ha hb hc)
  obtain ⟨T, hT⟩ : ∃ X : ByteArray, ⟨(Sx.dotted ((Sx.hostIx a b c).map Sx.nm)).toArray⟩ = X := ⟨_, rfl⟩
  have hTh : (Sx.host T.data.toList).2 = 0 := by rw [← hT]; exact hho
  rw [hT] at HHO
  have HDM := hide (fun n W (h : Below w.heap.size w W) => pDomain g n T rs os W (HLW.out _ h) (hW.below h) hl hok hrt hTh)
  have HTU := hide (fun (s : ByteArray) p W (h : Below w.heap.size w W) hs hp => pTuple g s T p rs os W (HLW.out _ h) (hW.below h) hl hok hs hp hTh)
  have HOQ := hide (fun W (h : Below w.heap.size w W) => pOpaque g rs os W (hW.below h) hl hok)
  have HP2 := hide (fun W => kpick d 2 W hd.1 hd.2 (by omega) (by omega))
  have hd2 := Sx.pickN_lt d 2 (by omega)
  have HPD := hide (fun W => kpick d 21 W hd.1 hd.2 (by omega) (by omega))
  have hq : I64 (d.tdiv 2) := by
    unfold I64 at *
    by_cases h : 0 ≤ d
    · rw [Int.tdiv_eq_ediv_of_nonneg h]; omega
    · have e := Int.neg_tdiv d 2
      rw [Int.tdiv_eq_ediv_of_nonneg (by omega)] at e
      omega
  have hwr : IntKind.i64.wrap (d.tdiv 2) = d.tdiv 2 := by
    obtain ⟨x, hx⟩ : ∃ x, d.tdiv 2 = x := ⟨_, rfl⟩
    rw [hx] at hq ⊢
    rw [IntKind.wrap_i64]
    obtain ⟨q1, q2⟩ := hq
    omega
  have HP3 : Hid (∀ W, Calls Tryz.prog 26 #[.int .i64 (IntKind.i64.wrap (d.tdiv 2)), .int .i64 2] W fun e w' => e = .returned (.int .i64 (Sx.pickN (d.tdiv 2) 2 : Nat)) ∧ w' = W) := hide (fun W => by rw [hwr]; exact kpick (d.tdiv 2) 2 W hq.1 hq.2 (by omega) (by omega))
  clear hwr
  have hd3 := Sx.pickN_lt (d.tdiv 2) 2 (by omega)
  obtain ⟨e2, he2⟩ : ∃ n, Sx.pickN d 2 = n := ⟨_, rfl⟩
  obtain ⟨e3, he3⟩ : ∃ n, Sx.pickN (d.tdiv 2) 2 = n := ⟨_, rfl⟩
  obtain ⟨e4, he4⟩ : ∃ n, Sx.pickN d 21 = n := ⟨_, rfl⟩
  rw [he2] at HP2 hd2
  rw [he3] at HP3 hd3
  rw [he4] at HPD
  have hw8 : IntKind.i64.wrap (80 + (e3 : Int)) = 80 + (e3 : Int) := by rw [IntKind.wrap_i64]; omega
  have HST : Hid (∀ W W', Below w.heap.size w W → StPost W g rs W' → StPost w g rs W') := hide (fun W W' h ⟨o', q1, q2, q3, q4, q5⟩ => ⟨o', q1, q2, q3, (h.mono (by omega)).trans q4, (keepB_below h).trans q5⟩)
  have HB0 := hide hB0
  clear hm hnw hT hho hTh hix hi3 he2 he3 he4 hB0 hW hok hrt hw hk ha hb hc
  clear HTU HOQ HP2 HP3 HWL HLW
  go_enter Tryz.func41, Tryz.ntmps41
  go_wp2_with fail
  refine (HPK.out _).mono ?_
  rintro e y1 ⟨rfl, rfl⟩
  have hbA : Below VA.heap.size VA VA := Below.refl _ _
  have hS0 := HHE.out _ (HHB.out _ hbA)
  go_wp2_with fail
  rw [HVA.out]
  go_region_held_law (fun w' => w'.cell? ⟨w.heap.size, 1, none⟩ = some (.int .i64 a) ∧ w'.cell? ⟨w.heap.size, 2, none⟩ = some (.int .i64 b) ∧ w'.cell? ⟨w.heap.size, 3, none⟩ = some (.int .i64 c) ∧ w'.cell? ⟨w.heap.size, 4, none⟩ = some (.int .i64 d)) (first | exact hS2 | exact hS1 | exact hS0 | go_keep) (first | (go_at_call 26; refine (HPD.out _).mono ?_; rintro e y2 ⟨rfl, rfl⟩) | (go_at_call 29; refine (HHO.out _).mono ?_; rintro e y3 ⟨rfl, hB3⟩; have hb3 : Below VA.heap.size VA y3 := below_to (by first | exact hbA | exact hbA.drew) hB3; have hS1 := HHE.out _ (HHB.out _ hb3)) | (go_at_call 60; refine (HDM.out _ _ (below_to HB0.out (by first | exact hb3 | exact hb3.drew))).mono ?_; rintro e y4 ⟨⟨u1, rfl⟩, hS⟩; have hS2 := HHE.out _ (hS.keep (by first | exact HHB.out _ hb3 | exact HHB.out _ hb3.drew)); have hfin := HST.out _ _ (below_to HB0.out (by first | exact hb3 | exact hb3.drew)) hS))
  all_goals (
    have HS := hide hfin
    go_wp2
    go_end0
    exact ⟨rfl, HS.out⟩)
set_option maxRecDepth 100000 in
set_option maxHeartbeats 8000000 in
/-- suffixkeep.play -/
theorem kplay_g (g : Nat) (r : RawS) (rs : List Sx.Rl) (os : List Org) (w : World) (hw : LWt w) (hW : WlAt w g rs os) (hl : os.length ≤ 20) (hok : ∀ o ∈ os, OrgOk o) (hrt : Sx.RlsRt rs) (hr : StOk r) (hkm : Sx.pickN r.1 5 = 4) : Calls Tryz.prog 41 #[.pointer (some ⟨g, 0, none⟩), stA r] w fun e w' => e = .returned (.tuple #[]) ∧ StPost w g rs w' := by
  obtain ⟨k, a, b, c, d⟩ := r
  obtain ⟨hk, ha, hb, hc, hd⟩ := hr
  dsimp only at hk ha hb hc hd hkm
  have HPK := hide (fun W => kpick k 5 W hk.1 hk.2 (by omega) (by omega))
  have hk5 := Sx.pickN_lt k 5 (by omega)
  obtain ⟨m, hm⟩ : ∃ m, Sx.pickN k 5 = m := ⟨_, rfl⟩
  rw [hm] at HPK hk5
  obtain rfl : 4 = m := hkm.symm.trans hm
  unfold stA
  dsimp only
  have hB0 : Below w.heap.size w (w.alloc (.cells #[.int .i64 k, .int .i64 a, .int .i64 b, .int .i64 c, .int .i64 d] 67)) := (Below.refl _ w).alloc (Nat.le_refl _) _
  have hg : g < w.heap.size := by obtain ⟨rv, p, cap, h1, -⟩ := hW.read; exact h1
  have HWL := hide (fun W (h : Below w.heap.size w W) => hW.below h)
  have HLW : Hid (∀ W, Below w.heap.size w W → LWt W) := hide (fun W h => lwt_stays _ _ hw h)
  have hnw := heap_alloc_new w (.cells #[.int .i64 k, .int .i64 a, .int .i64 b, .int .i64 c, .int .i64 d] 67)
  obtain ⟨VA, hVA⟩ : ∃ V, w.alloc (.cells #[.int .i64 k, .int .i64 a, .int .i64 b, .int .i64 c, .int .i64 d] 67) = V := ⟨_, rfl⟩
  rw [hVA] at hnw hB0
  have HHE : Hid (∀ W : World, W.heap[w.heap.size]? = some (.cells #[.int .i64 k, .int .i64 a, .int .i64 b, .int .i64 c, .int .i64 d] 67) → W.cell? ⟨w.heap.size, 1, none⟩ = some (.int .i64 a) ∧ W.cell? ⟨w.heap.size, 2, none⟩ = some (.int .i64 b) ∧ W.cell? ⟨w.heap.size, 3, none⟩ = some (.int .i64 c) ∧ W.cell? ⟨w.heap.size, 4, none⟩ = some (.int .i64 d)) := hide (fun W h => by simp [World.cell?, h])
  have HHB : Hid (∀ W : World, Below VA.heap.size VA W → W.heap[w.heap.size]? = some (.cells #[.int .i64 k, .int .i64 a, .int .i64 b, .int .i64 c, .int .i64 d] 67)) := hide (fun W h => (h.block _ (heap_lt hnw)).trans hnw)
  have HVA := hide hVA
  clear hVA
  obtain ⟨hix, hi3⟩ := Sx.hostIx_ok a b c
  have hho : (Sx.host (Sx.dotted ((Sx.hostIx a b c).map Sx.nm))).2 = 0 := by rw [Sx.host_ix hix]
  have HHO := hide (fun W => khostOf a b c W ha hb hc)
  obtain ⟨T, hT⟩ : ∃ X : ByteArray, ⟨(Sx.dotted ((Sx.hostIx a b c).map Sx.nm)).toArray⟩ = X := ⟨_, rfl⟩
  have hTh : (Sx.host T.data.toList).2 = 0 := by rw [← hT]; exact hho
  rw [hT] at HHO
  have HDM := hide (fun n W (h : Below w.heap.size w W) => pDomain g n T rs os W (HLW.out _ h) (hW.below h) hl hok hrt hTh)
  have HTU := hide (fun (s : ByteArray) p W (h : Below w.heap.size w W) hs hp => pTuple g s T p rs os W (HLW.out _ h) (hW.below h) hl hok hs hp hTh)
  have HOQ := hide (fun W (h : Below w.heap.size w W) => pOpaque g rs os W (hW.below h) hl hok)
  have HP2 := hide (fun W => kpick d 2 W hd.1 hd.2 (by omega) (by omega))
  have hd2 := Sx.pickN_lt d 2 (by omega)
  have HPD := hide (fun W => kpick d 21 W hd.1 hd.2 (by omega) (by omega))
  have hq : I64 (d.tdiv 2) := by
    unfold I64 at *
    by_cases h : 0 ≤ d
    · rw [Int.tdiv_eq_ediv_of_nonneg h]; omega
    · have e := Int.neg_tdiv d 2
      rw [Int.tdiv_eq_ediv_of_nonneg (by omega)] at e
      omega
  have hwr : IntKind.i64.wrap (d.tdiv 2) = d.tdiv 2 := by
    obtain ⟨x, hx⟩ : ∃ x, d.tdiv 2 = x := ⟨_, rfl⟩
    rw [hx] at hq ⊢
    rw [IntKind.wrap_i64]
    obtain ⟨q1, q2⟩ := hq
    omega
  have HP3 : Hid (∀ W, Calls Tryz.prog 26 #[.int .i64 (IntKind.i64.wrap (d.tdiv 2)), .int .i64 2] W fun e w' => e = .returned (.int .i64 (Sx.pickN (d.tdiv 2) 2 : Nat)) ∧ w' = W) := hide (fun W => by rw [hwr]; exact kpick (d.tdiv 2) 2 W hq.1 hq.2 (by omega) (by omega))
  clear hwr
  have hd3 := Sx.pickN_lt (d.tdiv 2) 2 (by omega)
  obtain ⟨e2, he2⟩ : ∃ n, Sx.pickN d 2 = n := ⟨_, rfl⟩
  obtain ⟨e3, he3⟩ : ∃ n, Sx.pickN (d.tdiv 2) 2 = n := ⟨_, rfl⟩
  obtain ⟨e4, he4⟩ : ∃ n, Sx.pickN d 21 = n := ⟨_, rfl⟩
  rw [he2] at HP2 hd2
  rw [he3] at HP3 hd3
  rw [he4] at HPD
  have hw8 : IntKind.i64.wrap (80 + (e3 : Int)) = 80 + (e3 : Int) := by rw [IntKind.wrap_i64]; omega
  have HST : Hid (∀ W W', Below w.heap.size w W → StPost W g rs W' → StPost w g rs W') := hide (fun W W' h ⟨o', q1, q2, q3, q4, q5⟩ => ⟨o', q1, q2, q3, (h.mono (by omega)).trans q4, (keepB_below h).trans q5⟩)
  have HB0 := hide hB0
  clear hm hnw hT hho hTh hix hi3 he2 he3 he4 hB0 hW hok hrt hw hk ha hb hc
  clear HTU HOQ HP2 HP3 HWL HLW
  go_enter Tryz.func41, Tryz.ntmps41
  go_wp2_with fail
  refine (HPK.out _).mono ?_
  rintro e y1 ⟨rfl, rfl⟩
  have hbA : Below VA.heap.size VA VA := Below.refl _ _
  have hS0 := HHE.out _ (HHB.out _ hbA)
  go_wp2_with fail
  rw [HVA.out]
  go_region_held_law (fun w' => w'.cell? ⟨w.heap.size, 1, none⟩ = some (.int .i64 a) ∧ w'.cell? ⟨w.heap.size, 2, none⟩ = some (.int .i64 b) ∧ w'.cell? ⟨w.heap.size, 3, none⟩ = some (.int .i64 c) ∧ w'.cell? ⟨w.heap.size, 4, none⟩ = some (.int .i64 d)) (first | exact hS2 | exact hS1 | exact hS0 | go_keep) (first | (go_at_call 26; refine (HPD.out _).mono ?_; rintro e y2 ⟨rfl, rfl⟩) | (go_at_call 29; refine (HHO.out _).mono ?_; rintro e y3 ⟨rfl, hB3⟩; have hb3 : Below VA.heap.size VA y3 := below_to (by first | exact hbA | exact hbA.drew) hB3; have hS1 := HHE.out _ (HHB.out _ hb3)) | (go_at_call 60; refine (HDM.out _ _ (below_to HB0.out (by first | exact hb3 | exact hb3.drew))).mono ?_; rintro e y4 ⟨⟨u1, rfl⟩, hS⟩; have hS2 := HHE.out _ (hS.keep (by first | exact HHB.out _ hb3 | exact HHB.out _ hb3.drew)); have hfin := HST.out _ _ (below_to HB0.out (by first | exact hb3 | exact hb3.drew)) hS))
  all_goals (
    have HS := hide hfin
    go_wp2
    go_end0
    exact ⟨rfl, HS.out⟩)
end Go.Proofs.YtgohllfpceeboaaGreatDoor
