import Derived.Test.YtgohllfpceeboaaGreatDoorSbbg
import Derived.Test.YtgohllfpceeboaaGreatDoorRKga
import Derived.Test.YtgohllfpceeboaaGreatDoorRKgb
import Derived.Test.YtgohllfpceeboaaGreatDoorRKgc
import Derived.Test.YtgohllfpceeboaaGreatDoorRKgg
import Derived.Test.YtgohllfpceeboaaGreatDoorRKgh
import Derived.Test.YtgohllfpceeboaaGreatDoorRKgi
import Derived.Test.YtgohllfpceeboaaGreatDoorRKgj
import Derived.Test.YtgohllfpceeboaaGreatDoorRKgk0
import Derived.Test.YtgohllfpceeboaaGreatDoorRKgke
import Derived.Deep.RegionHeldLaw
import Derived.Deep.RegionLaw
import Derived.Deep.CutBlock
namespace Go.Proofs.YtgohllfpceeboaaGreatDoor
open Go.RowKit
set_option maxRecDepth 100000 in
set_option maxHeartbeats 8000000 in
/-- suffixkeep.play -/
theorem kplay_t (g : Nat) (r : RawS) (rs : List Sx.Rl) (os : List Org) (w : World) (hw : LWt w) (hW : WlAt w g rs os) (hl : os.length ≤ 20) (hok : ∀ o ∈ os, OrgOk o) (hrt : Sx.RlsRt rs) (hr : StOk r) (hkm : Sx.pickN r.1 5 = 1 ∨ Sx.pickN r.1 5 = 2) : Calls Tryz.prog 41 #[.pointer (some ⟨g, 0, none⟩), stA r] w fun e w' => e = .returned (.tuple #[]) ∧ StPost w g rs w' := by
  obtain ⟨k, a, b, c, d⟩ := r
  obtain ⟨hk, ha, hb, hc, hd⟩ := hr
  dsimp only at hk ha hb hc hd hkm
  have HPK := hide (fun W => kpick k 5 W hk.1 hk.2 (by omega) (by omega))
  have hk5 := Sx.pickN_lt k 5 (by omega)
  obtain ⟨m, hm⟩ : ∃ m, Sx.pickN k 5 = m := ⟨_, rfl⟩
  rw [hm] at HPK hk5 hkm
  unfold stA
  dsimp only
  have hB0 : Below w.heap.size w (w.alloc (.cells #[.int .i64 k, .int .i64 a, .int .i64 b, .int .i64 c, .int .i64 d] 67)) := (Below.refl _ w).alloc (Nat.le_refl _) _
  have hg : g < w.heap.size := by obtain ⟨rv, p, cap, h1, -⟩ := hW.read; exact h1
  have HWL := hide (fun W (h : Below w.heap.size w W) => hW.below h)
  have HLW : Hid (∀ W, Below w.heap.size w W → LWt W) := hide (fun W h => lwt_stays _ _ hw h)
  have hnw := heap_alloc_new w (.cells #[.int .i64 k, .int .i64 a, .int .i64 b, .int .i64 c, .int .i64 d] 67)
  obtain ⟨VA, hVA⟩ : ∃ V, w.alloc (.cells #[.int .i64 k, .int .i64 a, .int .i64 b, .int .i64 c, .int .i64 d] 67) = V := ⟨_, rfl⟩
  rw [hVA] at hnw hB0
  have HHE : Hid (∀ W : World, W.heap[w.heap.size]? = some (.cells #[.int .i64 k, .int .i64 a, .int .i64 b, .int .i64 c, .int .i64 d] 67) → W.cell? ⟨w.heap.size, 1, none⟩ = some (.int .i64 a) ∧ W.cell? ⟨w.heap.size, 2, none⟩ = some (.int .i64 b) ∧ W.cell? ⟨w.heap.size, 3, none⟩ = some (.int .i64 c) ∧ W.cell? ⟨w.heap.size, 4, none⟩ = some (.int .i64 d)) := hide (fun W h => by simp [World.cell?, h])
  have HHB : Hid (∀ W : World, Below VA.heap.size VA W → W.heap[w.heap.size]? = some (.cells #[.int .i64 k, .int .i64 a, .int .i64 b, .int .i64 c, .int .i64 d] 67)) := hide (fun W h => (h.block _ (heap_lt hnw)).trans hnw)
  have HVA := hide hVA
  clear hVA
  obtain ⟨hix, hi3⟩ := Sx.hostIx_ok a b c
  have hho : (Sx.host (Sx.dotted ((Sx.hostIx a b c).map Sx.nm))).2 = 0 := by rw [Sx.host_ix hix]
  have HHO := hide (fun W => khostOf a b c W ha hb hc)
  obtain ⟨T, hT⟩ : ∃ X : ByteArray, ⟨(Sx.dotted ((Sx.hostIx a b c).map Sx.nm)).toArray⟩ = X := ⟨_, rfl⟩
  have hTh : (Sx.host T.data.toList).2 = 0 := by rw [← hT]; exact hho
  rw [hT] at HHO
  have HDM := hide (fun n W (h : Below w.heap.size w W) => pDomain g n T rs os W (HLW.out _ h) (hW.below h) hl hok hrt hTh)
  have HTU := hide (fun (s : ByteArray) p W (h : Below w.heap.size w W) hs hp => pTuple g s T p rs os W (HLW.out _ h) (hW.below h) hl hok hs hp hTh)
  have HOQ := hide (fun W (h : Below w.heap.size w W) => pOpaque g rs os W (hW.below h) hl hok)
  have HP2 := hide (fun W => kpick d 2 W hd.1 hd.2 (by omega) (by omega))
  have hd2 := Sx.pickN_lt d 2 (by omega)
  have HPD := hide (fun W => kpick d 21 W hd.1 hd.2 (by omega) (by omega))
  have hq : I64 (d.tdiv 2) := by
    unfold I64 at *
    by_cases h : 0 ≤ d
    · rw [Int.tdiv_eq_ediv_of_nonneg h]; omega
    · have e := Int.neg_tdiv d 2
      rw [Int.tdiv_eq_ediv_of_nonneg (by omega)] at e
      omega
  have hwr : IntKind.i64.wrap (d.tdiv 2) = d.tdiv 2 := by
    obtain ⟨x, hx⟩ : ∃ x, d.tdiv 2 = x := ⟨_, rfl⟩
    rw [hx] at hq ⊢
    rw [IntKind.wrap_i64]
    obtain ⟨q1, q2⟩ := hq
    omega
  have HP3 : Hid (∀ W, Calls Tryz.prog 26 #[.int .i64 (IntKind.i64.wrap (d.tdiv 2)), .int .i64 2] W fun e w' => e = .returned (.int .i64 (Sx.pickN (d.tdiv 2) 2 : Nat)) ∧ w' = W) := hide (fun W => by rw [hwr]; exact kpick (d.tdiv 2) 2 W hq.1 hq.2 (by omega) (by omega))
  clear hwr
  have hd3 := Sx.pickN_lt (d.tdiv 2) 2 (by omega)
  obtain ⟨e2, he2⟩ : ∃ n, Sx.pickN d 2 = n := ⟨_, rfl⟩
  obtain ⟨e3, he3⟩ : ∃ n, Sx.pickN (d.tdiv 2) 2 = n := ⟨_, rfl⟩
  obtain ⟨e4, he4⟩ : ∃ n, Sx.pickN d 21 = n := ⟨_, rfl⟩
  rw [he2] at HP2 hd2
  rw [he3] at HP3 hd3
  rw [he4] at HPD
  have hw8 : IntKind.i64.wrap (80 + (e3 : Int)) = 80 + (e3 : Int) := by rw [IntKind.wrap_i64]; omega
  have HST : Hid (∀ W W', Below w.heap.size w W → StPost W g rs W' → StPost w g rs W') := hide (fun W W' h ⟨o', q1, q2, q3, q4, q5⟩ => ⟨o', q1, q2, q3, (h.mono (by omega)).trans q4, (keepB_below h).trans q5⟩)
  have HB0 := hide hB0
  clear hm hnw hT hho hTh hix hi3 he2 he3 he4 hB0 hW hok hrt hw hk ha hb hc
  have HQ : Hid (∀ W, Below VA.heap.size VA W → Calls Tryz.prog 29 #[.int .i64 a, .int .i64 b, .int .i64 c] W fun e w' => e = .returned (.string T) ∧ Below W.heap.size W w' ∧ Below VA.heap.size VA w' ∧ (w'.cell? ⟨w.heap.size, 1, none⟩ = some (.int .i64 a) ∧ w'.cell? ⟨w.heap.size, 2, none⟩ = some (.int .i64 b) ∧ w'.cell? ⟨w.heap.size, 3, none⟩ = some (.int .i64 c) ∧ w'.cell? ⟨w.heap.size, 4, none⟩ = some (.int .i64 d))) := hide (fun W h => (HHO.out W).mono (fun e w' ⟨h1, h2⟩ => ⟨h1, h2, below_to h h2, HHE.out _ (HHB.out _ (below_to h h2))⟩))
  have HT : Hid (∀ (s : ByteArray) p W, Below VA.heap.size VA W → schOk s.data.toList → 0 ≤ p ∧ p ≤ 65535 → Calls Tryz.prog 59 #[.pointer (some ⟨g, 0, none⟩), .string s, .string T, .int .i64 p] W fun e w' => (∃ a b, e = .returned (.tuple #[.int .i64 a, .int .i64 b])) ∧ (w'.cell? ⟨w.heap.size, 1, none⟩ = some (.int .i64 a) ∧ w'.cell? ⟨w.heap.size, 2, none⟩ = some (.int .i64 b) ∧ w'.cell? ⟨w.heap.size, 3, none⟩ = some (.int .i64 c) ∧ w'.cell? ⟨w.heap.size, 4, none⟩ = some (.int .i64 d)) ∧ StPost w g rs w') := hide (fun s p W h hs hp => (HTU.out s p W (below_to HB0.out h) hs hp).mono (fun e w' ⟨h1, h2⟩ => ⟨h1, HHE.out _ (h2.keep (HHB.out _ h)), HST.out _ _ (below_to HB0.out h) h2⟩))
  have hbA : Below VA.heap.size VA VA := Below.refl _ _
  have hS0 := HHE.out _ (HHB.out _ hbA)
  have hm0 : (m : Int) ≠ 0 := by omega
  have HM := hide hkm
  clear HDM HOQ HPD HWL HLW HTU HHO HST HHE HHB hkm
  go_enter Tryz.func41, Tryz.ntmps41
  go_wp2_with fail
  refine (HPK.out _).mono ?_
  rintro e y1 ⟨rfl, rfl⟩
  go_upto_if 23 with fail
  rw [HVA.out]
  go_cut [23] from 24 (fun c wc => c = .bool true ∧ VA = wc)
  case first =>
    rcases HM.out with h | h <;> (subst h; go_wp2_with fail; go_meet; exact ⟨rfl, rfl⟩)
  case rest =>
    obtain ⟨rfl, rfl⟩ := hcut
    clear HM hm0 hk5 HPK
    go_wp2_with fail
    rcases (show e2 = 0 ∨ e2 = 1 by omega) with rfl | rfl
    all_goals as_aux_lemma =>
      refine wp_region_held_drew (S := (fun w' => w'.cell? ⟨w.heap.size, 1, none⟩ = some (.int .i64 a) ∧ w'.cell? ⟨w.heap.size, 2, none⟩ = some (.int .i64 b) ∧ w'.cell? ⟨w.heap.size, 3, none⟩ = some (.int .i64 c) ∧ w'.cell? ⟨w.heap.size, 4, none⟩ = some (.int .i64 d))) (by kernel_rfl) ?_ (fun hH0 => ?_)
      · ((try dsimp only); (first | exact hS2 | exact hS1 | exact hS0 | go_keep))
      refine wpAnyH_take (i := 0) (oi := { dst := some 26, op := Op.move (Operand.tmp 0), type := 59, pos := "worlds.go:27", after := #[], guard := none }) (v := ?_) rfl (by kernel_rfl) (by kernel_rfl) (by kernel_rfl) (fun _ _ _ h => h) (Or.inl ⟨by rfl, ?_⟩) hH0 ?_
      rotate_left
      · (intro w1 hSw; (try dsimp only at hSw); go_simp <;> with_reducible rfl)
      try simp only [Act.put, List.setIfInBounds_toArray, List.set_cons_zero, List.set_cons_succ]
      refine wpAnyH_take (i := 2) (oi := { dst := some 28, op := Op.fieldAddr 67 (Operand.tmp 3) 4, type := 0, pos := "worlds.go:27", after := #[], guard := none }) (v := ?_) rfl (by kernel_rfl) (by kernel_rfl) (by kernel_rfl) (fun _ _ _ h => h) (Or.inl ⟨by rfl, ?_⟩) hH0 ?_
      rotate_left
      · (intro w1 hSw; (try dsimp only at hSw); go_simp <;> with_reducible rfl)
      try simp only [Act.put, List.setIfInBounds_toArray, List.set_cons_zero, List.set_cons_succ]
      refine wpAnyH_take (i := 3) (oi := { dst := some 29, op := Op.load 3 (Operand.tmp 28), type := 3, pos := "worlds.go:27", after := #[{ on := 2, ground := Ground.data }], guard := none }) (v := ?_) rfl (by kernel_rfl) (by kernel_rfl) (by kernel_rfl) (fun _ _ _ h => h) (Or.inl ⟨by rfl, ?_⟩) hH0 ?_
      rotate_left
      · (intro w1 hSw; (try dsimp only at hSw); go_simp <;> with_reducible rfl)
      try simp only [Act.put, List.setIfInBounds_toArray, List.set_cons_zero, List.set_cons_succ]
      refine wpAnyH_take (i := 7) (oi := { dst := some 33, op := Op.fieldAddr 67 (Operand.tmp 3) 1, type := 0, pos := "worlds.go:27", after := #[], guard := none }) (v := ?_) rfl (by kernel_rfl) (by kernel_rfl) (by kernel_rfl) (fun _ _ _ h => h) (Or.inl ⟨by rfl, ?_⟩) hH0 ?_
      rotate_left
      · (intro w1 hSw; (try dsimp only at hSw); go_simp <;> with_reducible rfl)
      try simp only [Act.put, List.setIfInBounds_toArray, List.set_cons_zero, List.set_cons_succ]
      refine wpAnyH_take (i := 8) (oi := { dst := some 34, op := Op.load 3 (Operand.tmp 33), type := 3, pos := "worlds.go:27", after := #[{ on := 7, ground := Ground.data }], guard := none }) (v := ?_) rfl (by kernel_rfl) (by kernel_rfl) (by kernel_rfl) (fun _ _ _ h => h) (Or.inl ⟨by rfl, ?_⟩) hH0 ?_
      rotate_left
      · (intro w1 hSw; (try dsimp only at hSw); go_simp <;> with_reducible rfl)
      try simp only [Act.put, List.setIfInBounds_toArray, List.set_cons_zero, List.set_cons_succ]
      refine wpAnyH_take (i := 9) (oi := { dst := some 35, op := Op.fieldAddr 67 (Operand.tmp 3) 2, type := 0, pos := "worlds.go:27", after := #[], guard := none }) (v := ?_) rfl (by kernel_rfl) (by kernel_rfl) (by kernel_rfl) (fun _ _ _ h => h) (Or.inl ⟨by rfl, ?_⟩) hH0 ?_
      rotate_left
      · (intro w1 hSw; (try dsimp only at hSw); go_simp <;> with_reducible rfl)
      try simp only [Act.put, List.setIfInBounds_toArray, List.set_cons_zero, List.set_cons_succ]
      refine wpAnyH_take (i := 10) (oi := { dst := some 36, op := Op.load 3 (Operand.tmp 35), type := 3, pos := "worlds.go:27", after := #[{ on := 9, ground := Ground.data }], guard := none }) (v := ?_) rfl (by kernel_rfl) (by kernel_rfl) (by kernel_rfl) (fun _ _ _ h => h) (Or.inl ⟨by rfl, ?_⟩) hH0 ?_
      rotate_left
      · (intro w1 hSw; (try dsimp only at hSw); go_simp <;> with_reducible rfl)
      try simp only [Act.put, List.setIfInBounds_toArray, List.set_cons_zero, List.set_cons_succ]
      refine wpAnyH_take (i := 11) (oi := { dst := some 37, op := Op.fieldAddr 67 (Operand.tmp 3) 3, type := 0, pos := "worlds.go:27", after := #[], guard := none }) (v := ?_) rfl (by kernel_rfl) (by kernel_rfl) (by kernel_rfl) (fun _ _ _ h => h) (Or.inl ⟨by rfl, ?_⟩) hH0 ?_
      rotate_left
      · (intro w1 hSw; (try dsimp only at hSw); go_simp <;> with_reducible rfl)
      try simp only [Act.put, List.setIfInBounds_toArray, List.set_cons_zero, List.set_cons_succ]
      refine wpAnyH_take (i := 12) (oi := { dst := some 38, op := Op.load 3 (Operand.tmp 37), type := 3, pos := "worlds.go:27", after := #[{ on := 11, ground := Ground.data }], guard := none }) (v := ?_) rfl (by kernel_rfl) (by kernel_rfl) (by kernel_rfl) (fun _ _ _ h => h) (Or.inl ⟨by rfl, ?_⟩) hH0 ?_
      rotate_left
      · (intro w1 hSw; (try dsimp only at hSw); go_simp <;> with_reducible rfl)
      try simp only [Act.put, List.setIfInBounds_toArray, List.set_cons_zero, List.set_cons_succ]
      refine wpAnyH_take (i := 14) (oi := { dst := some 40, op := Op.fieldAddr 67 (Operand.tmp 3) 4, type := 0, pos := "worlds.go:27", after := #[], guard := none }) (v := ?_) rfl (by kernel_rfl) (by kernel_rfl) (by kernel_rfl) (fun _ _ _ h => h) (Or.inl ⟨by rfl, ?_⟩) hH0 ?_
      rotate_left
      · (intro w1 hSw; (try dsimp only at hSw); go_simp <;> with_reducible rfl)
      try simp only [Act.put, List.setIfInBounds_toArray, List.set_cons_zero, List.set_cons_succ]
      refine wpAnyH_take (i := 15) (oi := { dst := some 41, op := Op.load 3 (Operand.tmp 40), type := 3, pos := "worlds.go:27", after := #[{ on := 14, ground := Ground.data }], guard := none }) (v := ?_) rfl (by kernel_rfl) (by kernel_rfl) (by kernel_rfl) (fun _ _ _ h => h) (Or.inl ⟨by rfl, ?_⟩) hH0 ?_
      rotate_left
      · (intro w1 hSw; (try dsimp only at hSw); go_simp <;> with_reducible rfl)
      try simp only [Act.put, List.setIfInBounds_toArray, List.set_cons_zero, List.set_cons_succ]
      refine wpAnyH_take (i := 16) (oi := { dst := some 42, op := Op.binOp BinOp.quo 3 (Operand.tmp 41) (Operand.const (Value.int IntKind.i64 2)) 3, type := 3, pos := "worlds.go:27", after := #[{ on := 15, ground := Ground.data }], guard := none }) (v := ?_) rfl (by kernel_rfl) (by kernel_rfl) (by kernel_rfl) (fun _ _ _ h => h) (Or.inl ⟨by rfl, ?_⟩) hH0 ?_
      rotate_left
      · (intro w1 hSw; (try dsimp only at hSw); go_simp <;> with_reducible rfl)
      try simp only [Act.put, List.setIfInBounds_toArray, List.set_cons_zero, List.set_cons_succ]
      refine wpAnyH_ready (rs := [1, 4]) (by kernel_rfl) (by simp) ?_
      refine AllReadyH.cons rfl (fun K hK => ?_) ?_
      · go_simp
        refine hK.out _ _ ?_ (fun hH1 => ?_)
        · ((try dsimp only); (first | exact hS2 | exact hS1 | exact hS0 | go_keep))
        clear hK K hH0
        refine wpAnyH_ready (rs := [4]) (by kernel_rfl) (by simp) ?_
        refine AllReadyH.cons rfl (fun K hK => ?_) ?_
        · go_simp
          go_wp2_with (go_at_call 26; refine (HP2.out _).mono ?_; rintro e y2 ⟨rfl, rfl⟩)
          refine hK.out _ _ ?_ (fun hH2 => ?_)
          · ((try dsimp only); (first | exact hS2 | exact hS1 | exact hS0 | go_keep))
          clear hK K hH1
          refine wpAnyH_take (i := 5) (oi := { dst := some 31, op := Op.indexAddr 34 (Operand.tmp 27) (Operand.tmp 30), type := 0, pos := "worlds.go:27", after := #[{ on := 1, ground := Ground.data }, { on := 4, ground := Ground.data }], guard := none }) (v := ?_) rfl (by kernel_rfl) (by kernel_rfl) (by kernel_rfl) (fun _ _ _ h => h) (Or.inl ⟨by rfl, ?_⟩) hH2 ?_
          rotate_left
          · (intro w1 hSw; (try dsimp only at hSw); go_simp <;> with_reducible rfl)
          try simp only [Act.put, List.setIfInBounds_toArray, List.set_cons_zero, List.set_cons_succ]
          refine wpAnyH_ready (rs := [6, 13]) (by kernel_rfl) (by simp) ?_
          refine AllReadyH.cons rfl (fun K hK => ?_) ?_
          · go_simp
            refine hK.out _ _ ?_ (fun hH3 => ?_)
            · ((try dsimp only); (first | exact hS2 | exact hS1 | exact hS0 | go_keep))
            clear hK K hH2
            refine wpAnyH_ready (rs := [13]) (by kernel_rfl) (by simp) ?_
            refine AllReadyH.cons rfl (fun K hK => ?_) ?_
            · go_simp
              go_wp2_with (go_at_call 29; refine (HQ.out _ (by first | exact hbA | exact hbA.drew | exact hbA.alloc hbA.size _ | exact (hbA.alloc hbA.size _).drew)).mono ?_; rintro e y3 ⟨rfl, hB3, hb3, hS1⟩; (first | refine And.elim (fun z1 z2 => ?_) (sl_cellD hB3) | refine And.elim (fun z1 z2 => ?_) (sl_cell hB3) | skip))
              refine hK.out _ _ ?_ (fun hH4 => ?_)
              · ((try dsimp only); (first | exact hS2 | exact hS1 | exact hS0 | go_keep))
              clear hK K hH3
              refine wpAnyH_ready (rs := [17]) (by kernel_rfl) (by simp) ?_
              refine AllReadyH.cons rfl (fun K hK => ?_) ?_
              · go_simp
                go_wp2_with (go_at_call 26; refine (HP3.out _).mono ?_; rintro e y5 ⟨rfl, rfl⟩)
                refine hK.out _ _ ?_ (fun hH5 => ?_)
                · ((try dsimp only); (first | exact hS2 | exact hS1 | exact hS0 | go_keep))
                clear hK K hH4
                refine wpAnyH_take (i := 18) (oi := { dst := some 44, op := Op.binOp BinOp.add 3 (Operand.const (Value.int IntKind.i64 80)) (Operand.tmp 43) 3, type := 3, pos := "worlds.go:27", after := #[{ on := 17, ground := Ground.data }], guard := none }) (v := ?_) rfl (by kernel_rfl) (by kernel_rfl) (by kernel_rfl) (fun _ _ _ h => h) (Or.inl ⟨by rfl, ?_⟩) hH5 ?_
                rotate_left
                · (intro w1 hSw; (try dsimp only at hSw); go_simp <;> with_reducible rfl)
                try simp only [Act.put, List.setIfInBounds_toArray, List.set_cons_zero, List.set_cons_succ]
                refine wpAnyH_ready (rs := [19]) (by kernel_rfl) (by simp) ?_
                refine AllReadyH.cons rfl (fun K hK => ?_) ?_
                · go_simp
                  go_wp2_with (go_at_call 59; refine (HT.out _ _ _ (by first | exact hb3 | exact hb3.alloc hb3.size _) (by first | exact Or.inl rfl | exact Or.inr rfl) (by omega)).mono ?_; rintro e y4 ⟨⟨u1, u2, rfl⟩, hS2, hfin⟩)
                  refine hK.out _ _ ?_ (fun hH6 => ?_)
                  · ((try dsimp only); (first | exact hS2 | exact hS1 | exact hS0 | go_keep))
                  clear hK K hH5
                  refine wpAnyH_done (by kernel_rfl) ?_ _
                  have HS := hide hfin
                  clear hS0 hS1 hS2 hfin
                  go_wp2
                  go_end0
                  exact ⟨rfl, HS.out⟩
                exact AllReadyH.nil
              exact AllReadyH.nil
            exact AllReadyH.nil
          refine AllReadyH.cons rfl (fun K hK => ?_) ?_
          · go_simp
            go_wp2_with (go_at_call 29; refine (HQ.out _ (by first | exact hbA | exact hbA.drew | exact hbA.alloc hbA.size _ | exact (hbA.alloc hbA.size _).drew)).mono ?_; rintro e y3 ⟨rfl, hB3, hb3, hS1⟩; (first | refine And.elim (fun z1 z2 => ?_) (sl_cellD hB3) | refine And.elim (fun z1 z2 => ?_) (sl_cell hB3) | skip))
            refine hK.out _ _ ?_ (fun hH3 => ?_)
            · ((try dsimp only); (first | exact hS2 | exact hS1 | exact hS0 | go_keep))
            clear hK K hH2
            refine wpAnyH_ready (rs := [6, 17]) (by kernel_rfl) (by simp) ?_
            refine AllReadyH.cons rfl (fun K hK => ?_) ?_
            · go_simp
              refine hK.out _ _ ?_ (fun hH4 => ?_)
              · ((try dsimp only); (first | exact hS2 | exact hS1 | exact hS0 | go_keep))
              clear hK K hH3
              refine wpAnyH_ready (rs := [17]) (by kernel_rfl) (by simp) ?_
              refine AllReadyH.cons rfl (fun K hK => ?_) ?_
              · go_simp
                go_wp2_with (go_at_call 26; refine (HP3.out _).mono ?_; rintro e y5 ⟨rfl, rfl⟩)
                refine hK.out _ _ ?_ (fun hH5 => ?_)
                · ((try dsimp only); (first | exact hS2 | exact hS1 | exact hS0 | go_keep))
                clear hK K hH4
                refine wpAnyH_take (i := 18) (oi := { dst := some 44, op := Op.binOp BinOp.add 3 (Operand.const (Value.int IntKind.i64 80)) (Operand.tmp 43) 3, type := 3, pos := "worlds.go:27", after := #[{ on := 17, ground := Ground.data }], guard := none }) (v := ?_) rfl (by kernel_rfl) (by kernel_rfl) (by kernel_rfl) (fun _ _ _ h => h) (Or.inl ⟨by rfl, ?_⟩) hH5 ?_
                rotate_left
                · (intro w1 hSw; (try dsimp only at hSw); go_simp <;> with_reducible rfl)
                try simp only [Act.put, List.setIfInBounds_toArray, List.set_cons_zero, List.set_cons_succ]
                refine wpAnyH_ready (rs := [19]) (by kernel_rfl) (by simp) ?_
                refine AllReadyH.cons rfl (fun K hK => ?_) ?_
                · go_simp
                  go_wp2_with (go_at_call 59; refine (HT.out _ _ _ (by first | exact hb3 | exact hb3.alloc hb3.size _) (by first | exact Or.inl rfl | exact Or.inr rfl) (by omega)).mono ?_; rintro e y4 ⟨⟨u1, u2, rfl⟩, hS2, hfin⟩)
                  refine hK.out _ _ ?_ (fun hH6 => ?_)
                  · ((try dsimp only); (first | exact hS2 | exact hS1 | exact hS0 | go_keep))
                  clear hK K hH5
                  refine wpAnyH_done (by kernel_rfl) ?_ _
                  have HS := hide hfin
                  clear hS0 hS1 hS2 hfin
                  go_wp2
                  go_end0
                  exact ⟨rfl, HS.out⟩
                exact AllReadyH.nil
              exact AllReadyH.nil
            refine AllReadyH.cons rfl (fun K hK => ?_) ?_
            · go_simp
              go_wp2_with (go_at_call 26; refine (HP3.out _).mono ?_; rintro e y5 ⟨rfl, rfl⟩)
              refine hK.out _ _ ?_ (fun hH4 => ?_)
              · ((try dsimp only); (first | exact hS2 | exact hS1 | exact hS0 | go_keep))
              clear hK K hH3
              refine wpAnyH_take (i := 18) (oi := { dst := some 44, op := Op.binOp BinOp.add 3 (Operand.const (Value.int IntKind.i64 80)) (Operand.tmp 43) 3, type := 3, pos := "worlds.go:27", after := #[{ on := 17, ground := Ground.data }], guard := none }) (v := ?_) rfl (by kernel_rfl) (by kernel_rfl) (by kernel_rfl) (fun _ _ _ h => h) (Or.inl ⟨by rfl, ?_⟩) hH4 ?_
              rotate_left
              · (intro w1 hSw; (try dsimp only at hSw); go_simp <;> with_reducible rfl)
              try simp only [Act.put, List.setIfInBounds_toArray, List.set_cons_zero, List.set_cons_succ]
              refine wpAnyH_ready (rs := [6]) (by kernel_rfl) (by simp) ?_
              refine AllReadyH.cons rfl (fun K hK => ?_) ?_
              · go_simp
                refine hK.out _ _ ?_ (fun hH5 => ?_)
                · ((try dsimp only); (first | exact hS2 | exact hS1 | exact hS0 | go_keep))
                clear hK K hH4
                refine wpAnyH_ready (rs := [19]) (by kernel_rfl) (by simp) ?_
                refine AllReadyH.cons rfl (fun K hK => ?_) ?_
                · go_simp
                  go_wp2_with (go_at_call 59; refine (HT.out _ _ _ (by first | exact hb3 | exact hb3.alloc hb3.size _) (by first | exact Or.inl rfl | exact Or.inr rfl) (by omega)).mono ?_; rintro e y4 ⟨⟨u1, u2, rfl⟩, hS2, hfin⟩)
                  refine hK.out _ _ ?_ (fun hH6 => ?_)
                  · ((try dsimp only); (first | exact hS2 | exact hS1 | exact hS0 | go_keep))
                  clear hK K hH5
                  refine wpAnyH_done (by kernel_rfl) ?_ _
                  have HS := hide hfin
                  clear hS0 hS1 hS2 hfin
                  go_wp2
                  go_end0
                  exact ⟨rfl, HS.out⟩
                exact AllReadyH.nil
              exact AllReadyH.nil
            exact AllReadyH.nil
          exact AllReadyH.nil
        exact AllReadyH.nil
      refine AllReadyH.cons rfl (fun K hK => ?_) ?_
      · go_simp
        go_wp2_with (go_at_call 26; refine (HP2.out _).mono ?_; rintro e y2 ⟨rfl, rfl⟩)
        refine hK.out _ _ ?_ (fun hH1 => ?_)
        · ((try dsimp only); (first | exact hS2 | exact hS1 | exact hS0 | go_keep))
        clear hK K hH0
        refine wpAnyH_ready (rs := [1, 13]) (by kernel_rfl) (by simp) ?_
        refine AllReadyH.cons rfl (fun K hK => ?_) ?_
        · go_simp
          refine hK.out _ _ ?_ (fun hH2 => ?_)
          · ((try dsimp only); (first | exact hS2 | exact hS1 | exact hS0 | go_keep))
          clear hK K hH1
          refine wpAnyH_take (i := 5) (oi := { dst := some 31, op := Op.indexAddr 34 (Operand.tmp 27) (Operand.tmp 30), type := 0, pos := "worlds.go:27", after := #[{ on := 1, ground := Ground.data }, { on := 4, ground := Ground.data }], guard := none }) (v := ?_) rfl (by kernel_rfl) (by kernel_rfl) (by kernel_rfl) (fun _ _ _ h => h) (Or.inl ⟨by rfl, ?_⟩) hH2 ?_
          rotate_left
          · (intro w1 hSw; (try dsimp only at hSw); go_simp <;> with_reducible rfl)
          try simp only [Act.put, List.setIfInBounds_toArray, List.set_cons_zero, List.set_cons_succ]
          refine wpAnyH_ready (rs := [6, 13]) (by kernel_rfl) (by simp) ?_
          refine AllReadyH.cons rfl (fun K hK => ?_) ?_
          · go_simp
            refine hK.out _ _ ?_ (fun hH3 => ?_)
            · ((try dsimp only); (first | exact hS2 | exact hS1 | exact hS0 | go_keep))
            clear hK K hH2
            refine wpAnyH_ready (rs := [13]) (by kernel_rfl) (by simp) ?_
            refine AllReadyH.cons rfl (fun K hK => ?_) ?_
            · go_simp
              go_wp2_with (go_at_call 29; refine (HQ.out _ (by first | exact hbA | exact hbA.drew | exact hbA.alloc hbA.size _ | exact (hbA.alloc hbA.size _).drew)).mono ?_; rintro e y3 ⟨rfl, hB3, hb3, hS1⟩; (first | refine And.elim (fun z1 z2 => ?_) (sl_cellD hB3) | refine And.elim (fun z1 z2 => ?_) (sl_cell hB3) | skip))
              refine hK.out _ _ ?_ (fun hH4 => ?_)
              · ((try dsimp only); (first | exact hS2 | exact hS1 | exact hS0 | go_keep))
              clear hK K hH3
              refine wpAnyH_ready (rs := [17]) (by kernel_rfl) (by simp) ?_
              refine AllReadyH.cons rfl (fun K hK => ?_) ?_
              · go_simp
                go_wp2_with (go_at_call 26; refine (HP3.out _).mono ?_; rintro e y5 ⟨rfl, rfl⟩)
                refine hK.out _ _ ?_ (fun hH5 => ?_)
                · ((try dsimp only); (first | exact hS2 | exact hS1 | exact hS0 | go_keep))
                clear hK K hH4
                refine wpAnyH_take (i := 18) (oi := { dst := some 44, op := Op.binOp BinOp.add 3 (Operand.const (Value.int IntKind.i64 80)) (Operand.tmp 43) 3, type := 3, pos := "worlds.go:27", after := #[{ on := 17, ground := Ground.data }], guard := none }) (v := ?_) rfl (by kernel_rfl) (by kernel_rfl) (by kernel_rfl) (fun _ _ _ h => h) (Or.inl ⟨by rfl, ?_⟩) hH5 ?_
                rotate_left
                · (intro w1 hSw; (try dsimp only at hSw); go_simp <;> with_reducible rfl)
                try simp only [Act.put, List.setIfInBounds_toArray, List.set_cons_zero, List.set_cons_succ]
                refine wpAnyH_ready (rs := [19]) (by kernel_rfl) (by simp) ?_
                refine AllReadyH.cons rfl (fun K hK => ?_) ?_
                · go_simp
                  go_wp2_with (go_at_call 59; refine (HT.out _ _ _ (by first | exact hb3 | exact hb3.alloc hb3.size _) (by first | exact Or.inl rfl | exact Or.inr rfl) (by omega)).mono ?_; rintro e y4 ⟨⟨u1, u2, rfl⟩, hS2, hfin⟩)
                  refine hK.out _ _ ?_ (fun hH6 => ?_)
                  · ((try dsimp only); (first | exact hS2 | exact hS1 | exact hS0 | go_keep))
                  clear hK K hH5
                  refine wpAnyH_done (by kernel_rfl) ?_ _
                  have HS := hide hfin
                  clear hS0 hS1 hS2 hfin
                  go_wp2
                  go_end0
                  exact ⟨rfl, HS.out⟩
                exact AllReadyH.nil
              exact AllReadyH.nil
            exact AllReadyH.nil
          refine AllReadyH.cons rfl (fun K hK => ?_) ?_
          · go_simp
            go_wp2_with (go_at_call 29; refine (HQ.out _ (by first | exact hbA | exact hbA.drew | exact hbA.alloc hbA.size _ | exact (hbA.alloc hbA.size _).drew)).mono ?_; rintro e y3 ⟨rfl, hB3, hb3, hS1⟩; (first | refine And.elim (fun z1 z2 => ?_) (sl_cellD hB3) | refine And.elim (fun z1 z2 => ?_) (sl_cell hB3) | skip))
            refine hK.out _ _ ?_ (fun hH3 => ?_)
            · ((try dsimp only); (first | exact hS2 | exact hS1 | exact hS0 | go_keep))
            clear hK K hH2
            refine wpAnyH_ready (rs := [6, 17]) (by kernel_rfl) (by simp) ?_
            refine AllReadyH.cons rfl (fun K hK => ?_) ?_
            · go_simp
              refine hK.out _ _ ?_ (fun hH4 => ?_)
              · ((try dsimp only); (first | exact hS2 | exact hS1 | exact hS0 | go_keep))
              clear hK K hH3
              refine wpAnyH_ready (rs := [17]) (by kernel_rfl) (by simp) ?_
              refine AllReadyH.cons rfl (fun K hK => ?_) ?_
              · go_simp
                go_wp2_with (go_at_call 26; refine (HP3.out _).mono ?_; rintro e y5 ⟨rfl, rfl⟩)
                refine hK.out _ _ ?_ (fun hH5 => ?_)
                · ((try dsimp only); (first | exact hS2 | exact hS1 | exact hS0 | go_keep))
                clear hK K hH4
                refine wpAnyH_take (i := 18) (oi := { dst := some 44, op := Op.binOp BinOp.add 3 (Operand.const (Value.int IntKind.i64 80)) (Operand.tmp 43) 3, type := 3, pos := "worlds.go:27", after := #[{ on := 17, ground := Ground.data }], guard := none }) (v := ?_) rfl (by kernel_rfl) (by kernel_rfl) (by kernel_rfl) (fun _ _ _ h => h) (Or.inl ⟨by rfl, ?_⟩) hH5 ?_
                rotate_left
                · (intro w1 hSw; (try dsimp only at hSw); go_simp <;> with_reducible rfl)
                try simp only [Act.put, List.setIfInBounds_toArray, List.set_cons_zero, List.set_cons_succ]
                refine wpAnyH_ready (rs := [19]) (by kernel_rfl) (by simp) ?_
                refine AllReadyH.cons rfl (fun K hK => ?_) ?_
                · go_simp
                  go_wp2_with (go_at_call 59; refine (HT.out _ _ _ (by first | exact hb3 | exact hb3.alloc hb3.size _) (by first | exact Or.inl rfl | exact Or.inr rfl) (by omega)).mono ?_; rintro e y4 ⟨⟨u1, u2, rfl⟩, hS2, hfin⟩)
                  refine hK.out _ _ ?_ (fun hH6 => ?_)
                  · ((try dsimp only); (first | exact hS2 | exact hS1 | exact hS0 | go_keep))
                  clear hK K hH5
                  refine wpAnyH_done (by kernel_rfl) ?_ _
                  have HS := hide hfin
                  clear hS0 hS1 hS2 hfin
                  go_wp2
                  go_end0
                  exact ⟨rfl, HS.out⟩
                exact AllReadyH.nil
              exact AllReadyH.nil
            refine AllReadyH.cons rfl (fun K hK => ?_) ?_
            · go_simp
              go_wp2_with (go_at_call 26; refine (HP3.out _).mono ?_; rintro e y5 ⟨rfl, rfl⟩)
              refine hK.out _ _ ?_ (fun hH4 => ?_)
              · ((try dsimp only); (first | exact hS2 | exact hS1 | exact hS0 | go_keep))
              clear hK K hH3
              refine wpAnyH_take (i := 18) (oi := { dst := some 44, op := Op.binOp BinOp.add 3 (Operand.const (Value.int IntKind.i64 80)) (Operand.tmp 43) 3, type := 3, pos := "worlds.go:27", after := #[{ on := 17, ground := Ground.data }], guard := none }) (v := ?_) rfl (by kernel_rfl) (by kernel_rfl) (by kernel_rfl) (fun _ _ _ h => h) (Or.inl ⟨by rfl, ?_⟩) hH4 ?_
              rotate_left
              · (intro w1 hSw; (try dsimp only at hSw); go_simp <;> with_reducible rfl)
              try simp only [Act.put, List.setIfInBounds_toArray, List.set_cons_zero, List.set_cons_succ]
              refine wpAnyH_ready (rs := [6]) (by kernel_rfl) (by simp) ?_
              refine AllReadyH.cons rfl (fun K hK => ?_) ?_
              · go_simp
                refine hK.out _ _ ?_ (fun hH5 => ?_)
                · ((try dsimp only); (first | exact hS2 | exact hS1 | exact hS0 | go_keep))
                clear hK K hH4
                refine wpAnyH_ready (rs := [19]) (by kernel_rfl) (by simp) ?_
                refine AllReadyH.cons rfl (fun K hK => ?_) ?_
                · go_simp
                  go_wp2_with (go_at_call 59; refine (HT.out _ _ _ (by first | exact hb3 | exact hb3.alloc hb3.size _) (by first | exact Or.inl rfl | exact Or.inr rfl) (by omega)).mono ?_; rintro e y4 ⟨⟨u1, u2, rfl⟩, hS2, hfin⟩)
                  refine hK.out _ _ ?_ (fun hH6 => ?_)
                  · ((try dsimp only); (first | exact hS2 | exact hS1 | exact hS0 | go_keep))
                  clear hK K hH5
                  refine wpAnyH_done (by kernel_rfl) ?_ _
                  have HS := hide hfin
                  clear hS0 hS1 hS2 hfin
                  go_wp2
                  go_end0
                  exact ⟨rfl, HS.out⟩
                exact AllReadyH.nil
              exact AllReadyH.nil
            exact AllReadyH.nil
          exact AllReadyH.nil
        refine AllReadyH.cons rfl (fun K hK => ?_) ?_
        · go_simp
          go_wp2_with (go_at_call 29; refine (HQ.out _ (by first | exact hbA | exact hbA.drew | exact hbA.alloc hbA.size _ | exact (hbA.alloc hbA.size _).drew)).mono ?_; rintro e y3 ⟨rfl, hB3, hb3, hS1⟩; (first | refine And.elim (fun z1 z2 => ?_) (sl_cellD hB3) | refine And.elim (fun z1 z2 => ?_) (sl_cell hB3) | skip))
          refine hK.out _ _ ?_ (fun hH2 => ?_)
          · ((try dsimp only); (first | exact hS2 | exact hS1 | exact hS0 | go_keep))
          clear hK K hH1
          refine wpAnyH_ready (rs := [1, 17]) (by kernel_rfl) (by simp) ?_
          refine AllReadyH.cons rfl (fun K hK => ?_) ?_
          · go_simp
            refine hK.out _ _ ?_ (fun hH3 => ?_)
            · ((try dsimp only); (first | exact hS2 | exact hS1 | exact hS0 | go_keep))
            clear hK K hH2
            refine wpAnyH_take (i := 5) (oi := { dst := some 31, op := Op.indexAddr 34 (Operand.tmp 27) (Operand.tmp 30), type := 0, pos := "worlds.go:27", after := #[{ on := 1, ground := Ground.data }, { on := 4, ground := Ground.data }], guard := none }) (v := ?_) rfl (by kernel_rfl) (by kernel_rfl) (by kernel_rfl) (fun _ _ _ h => h) (Or.inl ⟨by rfl, ?_⟩) hH3 ?_
            rotate_left
            · (intro w1 hSw; (try dsimp only at hSw); go_simp <;> with_reducible rfl)
            try simp only [Act.put, List.setIfInBounds_toArray, List.set_cons_zero, List.set_cons_succ]
            refine wpAnyH_ready (rs := [6, 17]) (by kernel_rfl) (by simp) ?_
            refine AllReadyH.cons rfl (fun K hK => ?_) ?_
            · go_simp
              refine hK.out _ _ ?_ (fun hH4 => ?_)
              · ((try dsimp only); (first | exact hS2 | exact hS1 | exact hS0 | go_keep))
              clear hK K hH3
              refine wpAnyH_ready (rs := [17]) (by kernel_rfl) (by simp) ?_
              refine AllReadyH.cons rfl (fun K hK => ?_) ?_
              · go_simp
                go_wp2_with (go_at_call 26; refine (HP3.out _).mono ?_; rintro e y5 ⟨rfl, rfl⟩)
                refine hK.out _ _ ?_ (fun hH5 => ?_)
                · ((try dsimp only); (first | exact hS2 | exact hS1 | exact hS0 | go_keep))
                clear hK K hH4
                refine wpAnyH_take (i := 18) (oi := { dst := some 44, op := Op.binOp BinOp.add 3 (Operand.const (Value.int IntKind.i64 80)) (Operand.tmp 43) 3, type := 3, pos := "worlds.go:27", after := #[{ on := 17, ground := Ground.data }], guard := none }) (v := ?_) rfl (by kernel_rfl) (by kernel_rfl) (by kernel_rfl) (fun _ _ _ h => h) (Or.inl ⟨by rfl, ?_⟩) hH5 ?_
                rotate_left
                · (intro w1 hSw; (try dsimp only at hSw); go_simp <;> with_reducible rfl)
                try simp only [Act.put, List.setIfInBounds_toArray, List.set_cons_zero, List.set_cons_succ]
                refine wpAnyH_ready (rs := [19]) (by kernel_rfl) (by simp) ?_
                refine AllReadyH.cons rfl (fun K hK => ?_) ?_
                · go_simp
                  go_wp2_with (go_at_call 59; refine (HT.out _ _ _ (by first | exact hb3 | exact hb3.alloc hb3.size _) (by first | exact Or.inl rfl | exact Or.inr rfl) (by omega)).mono ?_; rintro e y4 ⟨⟨u1, u2, rfl⟩, hS2, hfin⟩)
                  refine hK.out _ _ ?_ (fun hH6 => ?_)
                  · ((try dsimp only); (first | exact hS2 | exact hS1 | exact hS0 | go_keep))
                  clear hK K hH5
                  refine wpAnyH_done (by kernel_rfl) ?_ _
                  have HS := hide hfin
                  clear hS0 hS1 hS2 hfin
                  go_wp2
                  go_end0
                  exact ⟨rfl, HS.out⟩
                exact AllReadyH.nil
              exact AllReadyH.nil
            refine AllReadyH.cons rfl (fun K hK => ?_) ?_
            · go_simp
              go_wp2_with (go_at_call 26; refine (HP3.out _).mono ?_; rintro e y5 ⟨rfl, rfl⟩)
              refine hK.out _ _ ?_ (fun hH4 => ?_)
              · ((try dsimp only); (first | exact hS2 | exact hS1 | exact hS0 | go_keep))
              clear hK K hH3
              refine wpAnyH_take (i := 18) (oi := { dst := some 44, op := Op.binOp BinOp.add 3 (Operand.const (Value.int IntKind.i64 80)) (Operand.tmp 43) 3, type := 3, pos := "worlds.go:27", after := #[{ on := 17, ground := Ground.data }], guard := none }) (v := ?_) rfl (by kernel_rfl) (by kernel_rfl) (by kernel_rfl) (fun _ _ _ h => h) (Or.inl ⟨by rfl, ?_⟩) hH4 ?_
              rotate_left
              · (intro w1 hSw; (try dsimp only at hSw); go_simp <;> with_reducible rfl)
              try simp only [Act.put, List.setIfInBounds_toArray, List.set_cons_zero, List.set_cons_succ]
              refine wpAnyH_ready (rs := [6]) (by kernel_rfl) (by simp) ?_
              refine AllReadyH.cons rfl (fun K hK => ?_) ?_
              · go_simp
                refine hK.out _ _ ?_ (fun hH5 => ?_)
                · ((try dsimp only); (first | exact hS2 | exact hS1 | exact hS0 | go_keep))
                clear hK K hH4
                refine wpAnyH_ready (rs := [19]) (by kernel_rfl) (by simp) ?_
                refine AllReadyH.cons rfl (fun K hK => ?_) ?_
                · go_simp
                  go_wp2_with (go_at_call 59; refine (HT.out _ _ _ (by first | exact hb3 | exact hb3.alloc hb3.size _) (by first | exact Or.inl rfl | exact Or.inr rfl) (by omega)).mono ?_; rintro e y4 ⟨⟨u1, u2, rfl⟩, hS2, hfin⟩)
                  refine hK.out _ _ ?_ (fun hH6 => ?_)
                  · ((try dsimp only); (first | exact hS2 | exact hS1 | exact hS0 | go_keep))
                  clear hK K hH5
                  refine wpAnyH_done (by kernel_rfl) ?_ _
                  have HS := hide hfin
                  clear hS0 hS1 hS2 hfin
                  go_wp2
                  go_end0
                  exact ⟨rfl, HS.out⟩
                exact AllReadyH.nil
              exact AllReadyH.nil
            exact AllReadyH.nil
          refine AllReadyH.cons rfl (fun K hK => ?_) ?_
          · go_simp
            go_wp2_with (go_at_call 26; refine (HP3.out _).mono ?_; rintro e y5 ⟨rfl, rfl⟩)
            refine hK.out _ _ ?_ (fun hH3 => ?_)
            · ((try dsimp only); (first | exact hS2 | exact hS1 | exact hS0 | go_keep))
            clear hK K hH2
            refine wpAnyH_take (i := 18) (oi := { dst := some 44, op := Op.binOp BinOp.add 3 (Operand.const (Value.int IntKind.i64 80)) (Operand.tmp 43) 3, type := 3, pos := "worlds.go:27", after := #[{ on := 17, ground := Ground.data }], guard := none }) (v := ?_) rfl (by kernel_rfl) (by kernel_rfl) (by kernel_rfl) (fun _ _ _ h => h) (Or.inl ⟨by rfl, ?_⟩) hH3 ?_
            rotate_left
            · (intro w1 hSw; (try dsimp only at hSw); go_simp <;> with_reducible rfl)
            try simp only [Act.put, List.setIfInBounds_toArray, List.set_cons_zero, List.set_cons_succ]
            refine wpAnyH_ready (rs := [1]) (by kernel_rfl) (by simp) ?_
            refine AllReadyH.cons rfl (fun K hK => ?_) ?_
            · go_simp
              refine hK.out _ _ ?_ (fun hH4 => ?_)
              · ((try dsimp only); (first | exact hS2 | exact hS1 | exact hS0 | go_keep))
              clear hK K hH3
              refine wpAnyH_take (i := 5) (oi := { dst := some 31, op := Op.indexAddr 34 (Operand.tmp 27) (Operand.tmp 30), type := 0, pos := "worlds.go:27", after := #[{ on := 1, ground := Ground.data }, { on := 4, ground := Ground.data }], guard := none }) (v := ?_) rfl (by kernel_rfl) (by kernel_rfl) (by kernel_rfl) (fun _ _ _ h => h) (Or.inl ⟨by rfl, ?_⟩) hH4 ?_
              rotate_left
              · (intro w1 hSw; (try dsimp only at hSw); go_simp <;> with_reducible rfl)
              try simp only [Act.put, List.setIfInBounds_toArray, List.set_cons_zero, List.set_cons_succ]
              refine wpAnyH_ready (rs := [6]) (by kernel_rfl) (by simp) ?_
              refine AllReadyH.cons rfl (fun K hK => ?_) ?_
              · go_simp
                refine hK.out _ _ ?_ (fun hH5 => ?_)
                · ((try dsimp only); (first | exact hS2 | exact hS1 | exact hS0 | go_keep))
                clear hK K hH4
                refine wpAnyH_ready (rs := [19]) (by kernel_rfl) (by simp) ?_
                refine AllReadyH.cons rfl (fun K hK => ?_) ?_
                · go_simp
                  go_wp2_with (go_at_call 59; refine (HT.out _ _ _ (by first | exact hb3 | exact hb3.alloc hb3.size _) (by first | exact Or.inl rfl | exact Or.inr rfl) (by omega)).mono ?_; rintro e y4 ⟨⟨u1, u2, rfl⟩, hS2, hfin⟩)
                  refine hK.out _ _ ?_ (fun hH6 => ?_)
                  · ((try dsimp only); (first | exact hS2 | exact hS1 | exact hS0 | go_keep))
                  clear hK K hH5
                  refine wpAnyH_done (by kernel_rfl) ?_ _
                  have HS := hide hfin
                  clear hS0 hS1 hS2 hfin
                  go_wp2
                  go_end0
                  exact ⟨rfl, HS.out⟩
                exact AllReadyH.nil
              exact AllReadyH.nil
            exact AllReadyH.nil
          exact AllReadyH.nil
        exact AllReadyH.nil
      exact AllReadyH.nil
/-- play: a step, whatever it is. -/
theorem kplay (g : Nat) (r : RawS) (rs : List Sx.Rl) (os : List Org) (w : World) (hw : LWt w) (hW : WlAt w g rs os) (hl : os.length ≤ 20) (hok : ∀ o ∈ os, OrgOk o) (hrt : Sx.RlsRt rs) (hr : StOk r) : Calls Tryz.prog 41 #[.pointer (some ⟨g, 0, none⟩), stA r] w fun e w' => e = .returned (.tuple #[]) ∧ StPost w g rs w' := by
  have h5 := Sx.pickN_lt r.1 5 (by omega)
  by_cases h0 : Sx.pickN r.1 5 = 0
  · exact kplay_e g r rs os w hw hW hl hok hrt hr h0
  by_cases h3 : Sx.pickN r.1 5 = 3
  · exact kplay_f g r rs os w hw hW hl hok hrt hr h3
  by_cases h4 : Sx.pickN r.1 5 = 4
  · exact kplay_g g r rs os w hw hW hl hok hrt hr h4
  exact kplay_t g r rs os w hw hW hl hok hrt hr (by omega)
end Go.Proofs.YtgohllfpceeboaaGreatDoor
