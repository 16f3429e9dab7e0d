import Derived.Test.YtgohllfpceeboabGreatDoorSbaa
import Derived.Test.YtgohllfpceeboabGreatDoorSbal
import Derived.Test.YtgohllfpceeboabGreatDoorSbaq
import Derived.Test.YtgohllfpceeboabGreatDoorSbar
import Derived.Test.YtgohllfpceeboabGreatDoorSbas
import Derived.Test.YtgohllfpceeboabGreatDoorSbat
import Derived.Test.YtgohllfpceeboabGreatDoorProg
namespace Go.Proofs.YtgohllfpceeboabGreatDoor
open Go.RowKit
/-- kind.isOne -/
theorem pkone (k : UInt8) (w : World) : Calls Tryz.prog 142 #[.int .u8 k.toNat] w fun e w' => e = .returned (.bool (decide (k = 36 ∨ k = 42 ∨ k = 33))) ∧ w' = w := by
  have hu : ∀ n : UInt8, (k = n) = ((k.toNat : Int) = (n.toNat : Int)) := fun n => propext ⟨fun h => by rw [h], fun h => UInt8.toNat_inj.1 (by omega)⟩
  rw [show decide (k = 36 ∨ k = 42 ∨ k = 33) = decide ((k.toNat : Int) = 36 ∨ (k.toNat : Int) = 42 ∨ (k.toNat : Int) = 33) by simp only [hu]; rfl]
  obtain ⟨n, hn⟩ : ∃ n : Int, (k.toNat : Int) = n := ⟨_, rfl⟩
  rw [hn]
  clear hn hu
  go_enter Tryz.func142, Tryz.ntmps142
  by_cases h1 : n = 36
  · subst h1
    go_wp2
    go_ret
    exact ⟨rfl, rfl⟩
  · by_cases h2 : n = 42
    · subst h2
      go_wp2
      go_ret
      exact ⟨rfl, rfl⟩
    · have e1 : (n == 36) = false := by simpa using h1
      have e2 : (n == 42) = false := by simpa using h2
      by_cases h3 : n = 33
      · subst h3
        go_wp2
        go_ret
        exact ⟨rfl, rfl⟩
      · have e3 : (n == 33) = false := by simpa using h3
        go_wp2
        go_ret
        exact ⟨by simp [h1, h2, h3], rfl⟩
/-- section.isOne -/
theorem psone (k : UInt8) (w : World) : Calls Tryz.prog 143 #[.int .u8 k.toNat] w fun e w' => e = .returned (.bool (decide (k = 105 ∨ k = 112))) ∧ w' = w := by
  have hu : ∀ n : UInt8, (k = n) = ((k.toNat : Int) = (n.toNat : Int)) := fun n => propext ⟨fun h => by rw [h], fun h => UInt8.toNat_inj.1 (by omega)⟩
  rw [show decide (k = 105 ∨ k = 112) = decide ((k.toNat : Int) = 105 ∨ (k.toNat : Int) = 112) by simp only [hu]; rfl]
  obtain ⟨n, hn⟩ : ∃ n : Int, (k.toNat : Int) = n := ⟨_, rfl⟩
  rw [hn]
  clear hn hu
  go_enter Tryz.func143, Tryz.ntmps143
  by_cases h1 : n = 105
  · subst h1
    go_wp2
    go_ret
    exact ⟨rfl, rfl⟩
  · have e1 : (n == 105) = false := by simpa using h1
    by_cases h2 : n = 112
    · subst h2
      go_wp2
      go_ret
      exact ⟨rfl, rfl⟩
    · have e2 : (n == 112) = false := by simpa using h2
      go_wp2
      go_ret
      exact ⟨by simp [h1, h2], rfl⟩
/-- The rule that has a key. -/
def keyRl (key h : List UInt8) (k sec : UInt8) : Option Sx.Rl := if (k = 36 ∨ k = 42 ∨ k = 33) ∧ (sec = 105 ∨ sec = 112) then (nwRl k (Sx.dotted (pcs h)) sec).filter (fun r => Sx.rlKey r == key) else none
/-- What ruleOfKey hands back. -/
def RkPost (o : Option Sx.Rl) (w : World) (e : Ending) (w' : World) : Prop := Below w.heap.size w w' ∧ ∃ x, e = .returned (.tuple #[x, .bool o.isSome]) ∧ (x = ruNo ∨ ∃ r, x = ruA r) ∧ ∀ r, o = some r → x = ruA r
set_option maxRecDepth 100000 in
set_option maxHeartbeats 1000000 in
/-- suffix.ruleOfKey, of a short text -/
theorem prok_short (key : List UInt8) (w : World) (h : key.length < 2) : Calls Tryz.prog 98 #[.string ⟨key.toArray⟩] w (RkPost none w) := by
  have hsz : (⟨key.toArray⟩ : ByteArray).size = key.length := rfl
  go_enter Tryz.func98, Tryz.ntmps98
  go_wp2
  (try simp only [Exit.inBlock, Exit.then])
  refine bodyPost_ret (v := .tuple #[.agg #[.int .u8 0, .string ⟨#[]⟩, .int .i64 0, .int .u8 0], .bool false]) ?_ rfl ?_
  · rw [results_cell_tmp rfl]
    go_simp
  · exact ⟨(Below.refl _ _).alloc (Nat.le_refl _) _, _, rfl, .inl rfl, fun r h => by cases h⟩
set_option maxRecDepth 100000 in
set_option maxHeartbeats 1000000 in
/-- suffix.ruleOfKey -/
theorem prok (key h : List UInt8) (k sec : UInt8) (w : World) (hw : LWt w) (hk : key = h ++ [k, sec]) (hl : key.length ≤ 9000) : Calls Tryz.prog 98 #[.string ⟨key.toArray⟩] w (RkPost (keyRl key h k sec) w) := by
  have hlen : key.length = h.length + 2 := by rw [hk]; simp
  obtain ⟨D, hD⟩ : ∃ D : ByteArray, ⟨key.toArray⟩ = D := ⟨_, rfl⟩
  obtain ⟨n, hn⟩ : ∃ n, h.length = n := ⟨_, rfl⟩
  have hsz : D.size = n + 2 := by rw [← hD, ← hn]; exact hlen
  have g0 : ∀ x : n < D.size, D[n]'x = k := by
    subst hD hn
    intro x
    show key.toArray[h.length]'x = k
    simp [hk]
  have g1 : ∀ x : n + 1 < D.size, D[n + 1]'x = sec := by
    subst hD hn
    intro x
    show key.toArray[h.length + 1]'x = sec
    simp [hk]
  have hcut : D.extract 0 n = ⟨h.toArray⟩ := by
    subst hD hn
    apply ByteArray.ext
    simp [hk, ByteArray.data_extract]
  rw [hD]
  have hn9 : n ≤ 9000 := by omega
  have i0 : n < D.size := by omega
  have i1 : n + 1 < D.size := by omega
  have HCUT := hide hcut
  have HD := hide hD
  have HK := hide hk
  have HN := hide hn
  clear hD hcut hk hn hlen hl
  have HKO := hide (fun w => pkone k w)
  have HSO := hide (fun w => psone sec w)
  obtain ⟨o, ho⟩ : ∃ o, Obj.cells #[.int .u8 0, .string ⟨#[]⟩, .int .i64 0, .int .u8 0] 82 = o := ⟨_, rfl⟩
  have hB0 : Below w.heap.size w (w.alloc o) := (Below.refl _ _).alloc (Nat.le_refl _) _
  have hbx0 : (w.alloc o).heap[w.heap.size]? = some o := heap_alloc_new _ _
  rw [← ho] at hB0 hbx0
  go_enter Tryz.func98, Tryz.ntmps98
  go_wp2_with fail
  go_quiet ((fail))
  go_wp2_with fail
  have hb2 : Below w.heap.size w ((w.alloc o).drewN nq) := below_drewN (by rw [← ho]; exact hB0) nq
  have hx2 : ((w.alloc o).drewN nq).heap[w.heap.size]? = some o := by rw [← ho]; exact hbx0
  obtain ⟨w2, hw2⟩ : ∃ w2, (w.alloc o).drewN nq = w2 := ⟨_, rfl⟩
  rw [hw2] at hb2 hx2 ⊢
  rw [← ho] at hx2
  clear hw2 hB0 hbx0 g0 g1 i0 i1
  clear ho
  obtain ⟨⟨q0, q1, q2, q3⟩, f0, f1, f2, f3⟩ := box4 hx2
  have HX2 := hide hx2
  have HB2 := hide hb2
  clear hx2 hb2
  have HBAD : Hid (∀ W : World, Below w.heap.size w W → RkPost none w (.returned (.tuple #[.agg #[.int .u8 0, .string ⟨#[]⟩, .int .i64 0, .int .u8 0], .bool false])) W) := hide (fun W hW => ⟨hW, _, rfl, .inl rfl, fun r h => by cases h⟩)
  refine (HKO.out _).mono ?_
  rintro e w3 ⟨rfl, rfl⟩
  by_cases hk1 : k = 36 ∨ k = 42 ∨ k = 33
  · rw [decide_eq_true hk1]
    go_wp2_with fail
    refine (HSO.out _).mono ?_
    rintro e w3 ⟨rfl, rfl⟩
    by_cases hs1 : sec = 105 ∨ sec = 112
    · rw [decide_eq_true hs1]
      have HE : Hid (keyRl key h k sec = (nwRl k (Sx.dotted (pcs h)) sec).filter (fun r => Sx.rlKey r == key)) := hide (by unfold keyRl; rw [if_pos ⟨hk1, hs1⟩])
      clear HBAD HKO HSO
      obtain ⟨T, hT⟩ : ∃ T : ByteArray, ⟨(Sx.dotted (pcs h)).toArray⟩ = T := ⟨_, rfl⟩
      have hTl : T.data.toList = Sx.dotted (pcs h) := by rw [← hT]
      have htu := pturnL (D.extract 0 n) w3 (pcs h) (by rw [HCUT.out]; show h.length ≤ 10000; rw [HN.out]; omega) (by rw [HCUT.out])
      rw [hT] at htu
      have hnr := fun W hW => pnr k T sec W hW
      rw [hTl] at hnr
      clear hT hTl
      go_wp2_with fail
      refine htu.mono ?_
      rintro e w4 ⟨rfl, hB4⟩
      clear htu
      have hw4 : LWt w4 := lwt_stays _ _ (lwt_stays _ _ hw HB2.out) hB4
      go_wp2_with fail
      refine (hnr w4 hw4).mono ?_
      rintro e w5 ⟨hB5, he5⟩
      have hx5 := far_boxB hB5 (far_boxB hB4 HX2.out)
      obtain ⟨⟨r0, r1, r2, r3⟩, k0, k1, k2, k3⟩ := box4 hx5
      have hs4 := hB4.size
      have hb5 : Below w.heap.size w w5 := (HB2.out.trans (hB4.mono HB2.out.size)).trans (hB5.mono (Nat.le_trans HB2.out.size hs4))
      have HB5 := hide hb5
      have HX5 := hide hx5
      clear hnr hB4 hB5 hw4 hx5 hb5 q0 q1 q2 q3 f0 f1 f2 f3
      cases hnw : nwRl k (Sx.dotted (pcs h)) sec with
      | none =>
        rw [hnw] at he5
        dsimp only at he5
        subst he5
        have HE2 : Hid (keyRl key h k sec = none) := hide (by rw [HE.out, hnw]; rfl)
        have hne : w.heap.size ≠ w5.heap.size := fun e => by have := (Array.getElem?_eq_some_iff.1 HX5.out).1; omega
        have hlt5 := (Array.getElem?_eq_some_iff.1 HX5.out).1
        have hz : (w5.alloc (.cells #[.int .u8 0, .string ⟨#[]⟩, .int .i64 0, .int .u8 0] 82)).drew.heap[w.heap.size]? = some (.cells #[.int .u8 0, .string ⟨#[]⟩, .int .i64 0, .int .u8 0] 82 (0, 0)) := (heap_alloc_old _ _ hlt5).trans HX5.out
        obtain ⟨⟨a0, a1, a2, a3⟩, b0, b1, b2, b3⟩ := box4 hz
        clear hnw hz
        unfold ruNo
        go_wp2_with fail
        go_region
        all_goals
          go_wp2
          (try simp only [Exit.inBlock, Exit.then])
          refine bodyPost_ret (v := .tuple #[.agg #[.int .u8 0, .string ⟨#[]⟩, .int .i64 0, .int .u8 0], .bool false]) ?_ rfl ?_
          · rw [results_cell_tmp rfl]
            go_simp
          · rw [HE2.out]
            exact ⟨((set4 HB5.out).alloc (set4 HB5.out).size _).drew, _, rfl, .inl rfl, fun r h => by cases h⟩
      | some r =>
        rw [hnw] at he5
        dsimp only at he5
        subst he5
        have hok : Sx.RlOk r := by
          unfold nwRl at hnw
          split at hnw
          · rename_i hc
            cases hnw
            exact ⟨Sx.host_ok _ hc.1, hk1⟩
          · cases hnw
        have HE2 : Hid (keyRl key h k sec = if Sx.rlKey r = key then some r else none) := hide (by rw [HE.out, hnw]; simp [Option.filter])
        have HPK := hide (fun W => pkey r W hok)
        obtain ⟨rh, rk, rsc⟩ := r
        have hra : ruA (rh, rk, rsc) = .agg #[.int .u8 rk.toNat, .string ⟨(Sx.dotted rh).toArray⟩, .int .i64 rh.length, .int .u8 rsc.toNat] := rfl
        rw [hra] at HPK ⊢
        obtain ⟨X, hX⟩ : ∃ X : ByteArray, ⟨(Sx.dotted rh).toArray⟩ = X := ⟨_, rfl⟩
        obtain ⟨M, hM⟩ : ∃ M, rh.length = M := ⟨_, rfl⟩
        rw [hX, hM] at HPK hra ⊢
        have HRA := hide hra
        have hlt5 := (Array.getElem?_eq_some_iff.1 HX5.out).1
        have hne : w.heap.size ≠ w5.heap.size := by omega
        obtain ⟨C, hC⟩ : ∃ C, Obj.cells #[.int .u8 rk.toNat, .string X, .int .i64 M, .int .u8 rsc.toNat] 82 = C := ⟨_, rfl⟩
        have HST : Hid (∀ w6, Below (w5.alloc C).drew.heap.size (w5.alloc C).drew w6 → ((w6.cell? ⟨w5.heap.size, 0, none⟩ = some (.int .u8 rk.toNat) ∧ w6.cell? ⟨w5.heap.size, 1, none⟩ = some (.string X)) ∧ (w6.cell? ⟨w5.heap.size, 2, none⟩ = some (.int .i64 M) ∧ w6.cell? ⟨w5.heap.size, 3, none⟩ = some (.int .u8 rsc.toNat))) ∧ w6.heap[w.heap.size]? = some (.cells #[.int .u8 0, .string ⟨#[]⟩, .int .i64 0, .int .u8 0] 82 (0, 0)) ∧ Below w.heap.size w w6) := hide (by
          intro w6 hB6
          subst hC
          have h1 : (w5.alloc (.cells #[.int .u8 rk.toNat, .string X, .int .i64 M, .int .u8 rsc.toNat] 82)).drew.heap[w5.heap.size]? = some (.cells #[.int .u8 rk.toNat, .string X, .int .i64 M, .int .u8 rsc.toNat] 82) := heap_alloc_new _ _
          obtain ⟨⟨a0, a1, a2, a3⟩, _⟩ := box4 (far_boxB hB6 h1)
          have h2 : (w5.alloc (.cells #[.int .u8 rk.toNat, .string X, .int .i64 M, .int .u8 rsc.toNat] 82)).drew.heap[w.heap.size]? = some (.cells #[.int .u8 0, .string ⟨#[]⟩, .int .i64 0, .int .u8 0] 82 (0, 0)) := (heap_alloc_old _ _ hlt5).trans HX5.out
          have h3 : Below w.heap.size w (w5.alloc (.cells #[.int .u8 rk.toNat, .string X, .int .i64 M, .int .u8 rsc.toNat] 82)).drew := (HB5.out.alloc HB5.out.size _).drew
          exact ⟨⟨⟨a0, a1⟩, a2, a3⟩, far_boxB hB6 h2, h3.trans (hB6.mono h3.size)⟩)
        rw [← hC] at HST
        obtain ⟨KB, hKB⟩ : ∃ KB : ByteArray, ⟨(Sx.rlKey (rh, rk, rsc)).toArray⟩ = KB := ⟨_, rfl⟩
        rw [hKB] at HPK
        have hEQ : (KB = D) = (Sx.rlKey (rh, rk, rsc) = key) := by
          rw [← hKB, ← HD.out]
          exact propext ⟨fun h => by injection h with h; exact Array.toList_inj.2 h |> fun x => by simpa using x, fun h => by rw [h]⟩
        clear hnw hok hX hM hra hC hKB
        go_wp2_with fail
        go_region_held_law (fun w' => (w'.cell? ⟨w5.heap.size, 0, none⟩ = some (.int .u8 rk.toNat) ∧ w'.cell? ⟨w5.heap.size, 1, none⟩ = some (.string X)) ∧ (w'.cell? ⟨w5.heap.size, 2, none⟩ = some (.int .i64 M) ∧ w'.cell? ⟨w5.heap.size, 3, none⟩ = some (.int .u8 rsc.toNat))) (first | exact hS1 | go_keep) ((go_at_call 50; refine (HPK.out _).mono ?_; rintro e w6 ⟨rfl, hB6⟩; obtain ⟨hS1, hx6, hb6⟩ := HST.out w6 hB6; obtain ⟨⟨a0, a1, a2, a3⟩, b0, b1, b2, b3⟩ := box4 hx6))
        have HB6 := hide hb6
        have hcmp : (KB.toList == D.toList) = decide (KB = D) := by
          by_cases h : KB = D
          · subst h; simp
          · rw [decide_eq_false h, beq_eq_false_iff_ne]
            intro h2
            rw [ByteArray.toList_eq, ByteArray.toList_eq] at h2
            exact h (ByteArray.ext (Array.toList_inj.1 h2))
        have HCMP := hide hcmp
        have HEQ := hide hEQ
        clear hcmp hEQ hb6 hS1 hx6 hB6
        go_wp2
        (try simp only [Exit.inBlock, Exit.then])
        refine bodyPost_ret (v := .tuple #[.agg #[.int .u8 rk.toNat, .string X, .int .i64 M, .int .u8 rsc.toNat], .bool (KB.toList == D.toList)]) ?_ rfl ?_
        · rw [results_cell_tmp rfl]
          go_simp
        · rw [HE2.out]
          have hdk : decide (KB = D) = (if Sx.rlKey (rh, rk, rsc) = key then some (rh, rk, rsc) else none : Option Sx.Rl).isSome := by
            by_cases h : Sx.rlKey (rh, rk, rsc) = key
            · rw [if_pos h, decide_eq_true (by rw [HEQ.out]; exact h)]; rfl
            · rw [if_neg h, decide_eq_false (by rw [HEQ.out]; exact h)]; rfl
          refine ⟨set4 HB6.out, _, by rw [HCMP.out, hdk], .inr ⟨(rh, rk, rsc), HRA.out.symm⟩, fun r h => ?_⟩
          split at h
          · cases h; exact HRA.out.symm
          · cases h
    · rw [decide_eq_false hs1]
      have HE : Hid (keyRl key h k sec = none) := hide (by unfold keyRl; rw [if_neg (fun h => hs1 h.2)])
      go_wp2
      (try simp only [Exit.inBlock, Exit.then])
      refine bodyPost_ret (v := .tuple #[.agg #[.int .u8 0, .string ⟨#[]⟩, .int .i64 0, .int .u8 0], .bool false]) ?_ rfl ?_
      · rw [results_cell_tmp rfl]
        go_simp
      · rw [HE.out]
        exact HBAD.out _ (set4 HB2.out)
  · rw [decide_eq_false hk1]
    have HE : Hid (keyRl key h k sec = none) := hide (by unfold keyRl; rw [if_neg (fun h => hk1 h.1)])
    go_wp2
    (try simp only [Exit.inBlock, Exit.then])
    refine bodyPost_ret (v := .tuple #[.agg #[.int .u8 0, .string ⟨#[]⟩, .int .i64 0, .int .u8 0], .bool false]) ?_ rfl ?_
    · rw [results_cell_tmp rfl]
      go_simp
    · rw [HE.out]
      exact HBAD.out _ (set4 HB2.out)
end Go.Proofs.YtgohllfpceeboabGreatDoor

