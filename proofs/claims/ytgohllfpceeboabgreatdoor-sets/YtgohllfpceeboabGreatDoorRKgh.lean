import Derived.Test.YtgohllfpceeboabGreatDoorSbbg
import Derived.Test.YtgohllfpceeboabGreatDoorSbbe
import Derived.Test.YtgohllfpceeboabGreatDoorRKga
import Derived.Test.YtgohllfpceeboabGreatDoorRKgb
import Derived.Test.YtgohllfpceeboabGreatDoorRKgg
import Derived.Deep.RegionHeldLaw
import Derived.Deep.RegionLaw
import Derived.Deep.AppendSrc
namespace Go.Proofs.YtgohllfpceeboabGreatDoor
open Go.RowKit
/-- What is no world and no row of origins is kept. -/
def KeepB (w w' : World) : Prop := ∀ (b : Nat) (cs : Array Value) (t : TypeId) (fr : Nat × Nat), t ≠ 75 → t ≠ 87 → w.heap[b]? = some (.cells cs t fr) → w'.heap[b]? = some (.cells cs t fr)
theorem heap_lt {w : World} {b : Nat} {o : Obj} (h : w.heap[b]? = some o) : b < w.heap.size := (Array.getElem?_eq_some_iff.1 h).1
theorem keepB_below {w w' : World} (h : Below w.heap.size w w') : KeepB w w' := fun b _ _ _ _ _ hb => (h.block b (heap_lt hb)).trans hb
theorem KeepB.trans {w w1 w2 : World} (h : KeepB w w1) (h' : KeepB w1 w2) : KeepB w w2 := fun b cs t fr a1 a2 hb => h' b cs t fr a1 a2 (h b cs t fr a1 a2 hb)
theorem keepB_grown {w w' : World} {base n : Nat} {v : Value} {xs : List Value} (ho : w.ownsRow base 75 4 v n xs) (hg : w.grownBy w' v.ownBlock) : KeepB w w' := fun b cs t fr a1 a2 hb => by
  refine (hg.block b (heap_lt hb) ?_).trans hb
  rcases ho.2 with ⟨rfl, _⟩ | ⟨g, cap, cur, rfl, _, hh, _⟩
  · simp [Value.ownBlock]
  · intro e
    have e2 : b = g := by simpa [Value.ownBlock] using e
    subst e2
    rw [hb] at hh
    simp at hh
    exact a1 hh.2.1
theorem keepB_set {w : World} {g k : Nat} {cs : Array Value} {t : TypeId} {fr : Nat × Nat} (h : w.heap[g]? = some (.cells cs t fr)) (ht : t = 75 ∨ t = 87) (v : Value) : KeepB w (w.setCell ⟨g, k, none⟩ v) := fun b cs' t' fr' a1 a2 hb => by
  refine (heap_setCell_other _ _ _ _ ?_).trans hb
  show b ≠ g
  rintro rfl
  rw [hb] at h
  simp at h
  rcases ht with e | e
  · exact a1 (h.2.1.trans e)
  · exact a2 (h.2.1.trans e)
theorem Tryz.info75 : (Tryz.prog.info? 75).map (fun i => (i.zero, i.size, i.bytes)) = some (some (.agg #[.string ⟨#[]⟩, .string ⟨#[]⟩, .int .i64 0, .string ⟨#[]⟩]), 4, 56) := by kernel_rfl
theorem cell4_newO (w : World) (x y z u : Value) (t : TypeId) : ∀ (j : Nat) (q : Value), [x, y, z, u][j]? = some q → (w.alloc (.cells #[x, y, z, u] t)).cell? ((⟨w.heap.size, 0, none⟩ : Addr).add j) = some q := by
  intro j q hj
  rw [Addr.add_lit, Nat.zero_add, World.cell?_alloc_mark]
  simpa using hj
set_option maxRecDepth 100000 in
set_option maxHeartbeats 4000000 in
/-- (*suffix.World).add -/
theorem paddW (g : Nat) (o : Org) (rs : List Sx.Rl) (os : List Org) (w : World) (hW : WlAt w g rs os) (hl : os.length < 20) : Calls Tryz.prog 34 #[.pointer (some ⟨g, 0, none⟩), orgA o] w fun e w' => e = .returned (.tuple #[.int .i64 os.length, .int .i64 0]) ∧ WlAt w' g rs (os ++ [o]) ∧ Below g w w' ∧ KeepB w w' := by
  obtain ⟨W0, rv, ov, h1, h2, h3, h4, h5⟩ := hW
  obtain ⟨i0, hi, hz0, hz1, hz2⟩ := info_parts Tryz.info75
  have hg : g < w.heap.size := by
    by_cases hlt : g < w.heap.size
    · exact hlt
    · rw [Array.getElem?_eq_none (by omega)] at h4; cases h4
  obtain ⟨p, cap, rfl⟩ := own_shapeK h5
  have c0 : w.cell? ⟨g, 0, none⟩ = some rv := by simp [World.cell?, h4]
  have c1 : w.cell? ⟨g, 1, none⟩ = some (.slice p os.length cap) := by simp [World.cell?, h4]
  have f1 : w.frozen? ⟨g, 1, none⟩ = false := by simp [World.frozen?, h4]
  have k1 : ((os.length : Int) == 20) = false := by simp; omega
  have happ : orgCs (os ++ [o]) = orgCs os ++ orgC o := by rw [orgCs_app]; simp [orgCs]
  have HAP := hide happ
  have HW5 := hide h5
  have HP := hide h2
  have H3 := hide h3
  have H4 := hide h4
  unfold orgC at HAP
  unfold orgA
  obtain ⟨S, hS⟩ : ∃ X : ByteArray, ⟨(schOf o).toArray⟩ = X := ⟨_, rfl⟩
  obtain ⟨H, hH⟩ : ∃ X : ByteArray, ⟨(hstOf o).toArray⟩ = X := ⟨_, rfl⟩
  obtain ⟨D, hD⟩ : ∃ X : ByteArray, ⟨o.2.toArray⟩ = X := ⟨_, rfl⟩
  obtain ⟨P, hP⟩ : ∃ n, prtOf o = n := ⟨_, rfl⟩
  rw [hS, hH, hD, hP] at HAP ⊢
  clear happ h5 h2 h3 h4 hS hH hD hP
  go_enter Tryz.func34, Tryz.ntmps34
  go_wp2_with fail
  have hA4 := c4_new w S H D P
  have hfA : (w.alloc (.cells #[.string S, .string H, .int .i64 P, .string D] 75)).cell? ⟨g, 1, none⟩ = some (.slice p os.length cap) := by rw [((Below.refl _ w).alloc (Nat.le_refl _) _).cell (p := ⟨g, 1, none⟩) hg]; exact c1
  have hfF : (w.alloc (.cells #[.string S, .string H, .int .i64 P, .string D] 75)).frozen? ⟨g, 1, none⟩ = false := by rw [((Below.refl _ w).alloc (Nat.le_refl _) _).frozen (p := ⟨g, 1, none⟩) hg]; exact f1
  have hownA := HW5.out.alloc (.cells #[.string S, .string H, .int .i64 P, .string D] 75)
  have hBA : Below w.heap.size w (w.alloc (.cells #[.string S, .string H, .int .i64 P, .string D] 75)) := (Below.refl _ w).alloc (Nat.le_refl _) _
  have hzA : w.heap.size < (w.alloc (.cells #[.string S, .string H, .int .i64 P, .string D] 75)).heap.size := by rw [World.size_alloc]; omega
  obtain ⟨VA, hVA⟩ : ∃ V, w.alloc (.cells #[.string S, .string H, .int .i64 P, .string D] 75) = V := ⟨_, rfl⟩
  rw [hVA] at hA4 hfA hfF hownA hBA hzA ⊢
  unfold C4 at hA4
  have hnb : some g ≠ (Value.slice p os.length cap).ownBlock := fun e => by have := (HW5.out.lt _ e.symm).1; omega
  have hnw : some w.heap.size ≠ (Value.slice p os.length cap).ownBlock := fun e => by have := (HW5.out.lt _ e.symm).2; omega
  have hS0 := And.intro hA4 (And.intro hfA hfF)
  have HOWN := hide hownA
  have HBA := hide hBA
  have HSG : Hid (∀ W6, (VA.alloc (.cells #[.string S, .string H, .int .i64 P, .string D] 75)).drew.grownBy W6 (Value.slice p os.length cap).ownBlock → ((W6.cell? ⟨w.heap.size, 0, none⟩ = some (.string S) ∧ W6.cell? ⟨w.heap.size, 1, none⟩ = some (.string H) ∧ W6.cell? ⟨w.heap.size, 2, none⟩ = some (.int .i64 P) ∧ W6.cell? ⟨w.heap.size, 3, none⟩ = some (.string D)) ∧ W6.cell? ⟨g, 1, none⟩ = some (.slice p os.length cap) ∧ W6.frozen? ⟨g, 1, none⟩ = false) ∧ W6.heap[g]? = some (.cells #[rv, .slice p os.length cap] 87) ∧ Below g w W6) := hide (fun W6 hgr => by
    have hB2 : Below VA.heap.size VA (VA.alloc (.cells #[.string S, .string H, .int .i64 P, .string D] 75)).drew := ((Below.refl _ VA).alloc (Nat.le_refl _) _).drew
    have hz2 : VA.heap.size < (VA.alloc (.cells #[.string S, .string H, .int .i64 P, .string D] 75)).drew.heap.size := by show VA.heap.size < (VA.alloc _).heap.size; rw [World.size_alloc]; omega
    obtain ⟨⟨q1, q2, q3, q4⟩, q5, q6⟩ := hS0
    have far : ∀ (b k : Nat) (v : Value), b < VA.heap.size → some b ≠ (Value.slice p os.length cap).ownBlock → VA.cell? ⟨b, k, none⟩ = some v → W6.cell? ⟨b, k, none⟩ = some v := fun b k v h1 h2 h3 => (hgr.cell_far ⟨b, k, none⟩ (by show b < _; omega) h2).trans ((hB2.cell (p := ⟨b, k, none⟩) h1).trans h3)
    have hgA : g < VA.heap.size := by omega
    refine ⟨⟨⟨far _ _ _ hzA hnw q1, far _ _ _ hzA hnw q2, far _ _ _ hzA hnw q3, far _ _ _ hzA hnw q4⟩, far _ _ _ hgA hnb q5, (hgr.frozen_far ⟨g, 1, none⟩ (by show g < _; omega) hnb).trans ((hB2.frozen (p := ⟨g, 1, none⟩) hgA).trans q6)⟩, ?_, ?_⟩
    · rw [hgr.block g (by omega) hnb, hB2.block g hgA, HBA.out.block g hg]; exact H4.out
    · exact ((HBA.out.mono (by omega)).trans (hB2.mono (by omega))).grown hgr (by omega) (fun r e => by have := (HW5.out.lt _ e).1; omega))
  have hown2 : (VA.alloc (.cells #[.string S, .string H, .int .i64 P, .string D] 75)).drew.ownsRow (g + 1) 75 4 (.slice p os.length cap) os.length (orgCs os) := HOWN.out.alloc (.cells #[.string S, .string H, .int .i64 P, .string D] 75)
  have hc2 : ∀ (j : Nat) (q : Value), [.string S, .string H, .int .i64 P, .string D][j]? = some q → (VA.alloc (.cells #[.string S, .string H, .int .i64 P, .string D] 75)).drew.cell? ((⟨VA.heap.size, 0, none⟩ : Addr).add j) = some q := cell4_newO VA _ _ _ _ _
  have hz9 : g + 1 ≤ (VA.alloc (.cells #[.string S, .string H, .int .i64 P, .string D] 75)).drew.heap.size := by show g + 1 ≤ (VA.alloc _).heap.size; rw [World.size_alloc]; omega
  have hS1 : ((VA.alloc (.cells #[.string S, .string H, .int .i64 P, .string D] 75)).drew.cell? ⟨w.heap.size, 0, none⟩ = some (.string S) ∧ (VA.alloc (.cells #[.string S, .string H, .int .i64 P, .string D] 75)).drew.cell? ⟨w.heap.size, 1, none⟩ = some (.string H) ∧ (VA.alloc (.cells #[.string S, .string H, .int .i64 P, .string D] 75)).drew.cell? ⟨w.heap.size, 2, none⟩ = some (.int .i64 P) ∧ (VA.alloc (.cells #[.string S, .string H, .int .i64 P, .string D] 75)).drew.cell? ⟨w.heap.size, 3, none⟩ = some (.string D)) ∧ (VA.alloc (.cells #[.string S, .string H, .int .i64 P, .string D] 75)).drew.cell? ⟨g, 1, none⟩ = some (.slice p os.length cap) ∧ (VA.alloc (.cells #[.string S, .string H, .int .i64 P, .string D] 75)).drew.frozen? ⟨g, 1, none⟩ = false := by
    have hB2 : Below VA.heap.size VA (VA.alloc (.cells #[.string S, .string H, .int .i64 P, .string D] 75)).drew := ((Below.refl _ VA).alloc (Nat.le_refl _) _).drew
    obtain ⟨⟨q1, q2, q3, q4⟩, q5, q6⟩ := hS0
    have hgA : g < VA.heap.size := by omega
    exact ⟨⟨(hB2.cell (p := ⟨w.heap.size, 0, none⟩) hzA).trans q1, (hB2.cell (p := ⟨w.heap.size, 1, none⟩) hzA).trans q2, (hB2.cell (p := ⟨w.heap.size, 2, none⟩) hzA).trans q3, (hB2.cell (p := ⟨w.heap.size, 3, none⟩) hzA).trans q4⟩, (hB2.cell (p := ⟨g, 1, none⟩) hgA).trans q5, (hB2.frozen (p := ⟨g, 1, none⟩) hgA).trans q6⟩
  have HO2 := hide hown2
  have HC2 := hide hc2
  have HS1 := hide hS1
  clear hVA hA4 hfA hfF hownA hBA c0 c1 f1 hown2 hc2 hS1
  obtain ⟨⟨q1, q2, q3, q4⟩, q5, q6⟩ := hS0
  obtain ⟨⟨r1, r2, r3, r4⟩, r5, r6⟩ := HS1.out
  go_region_law ((refine step_append_lies _ rfl _ _ _ rfl (g + 1) 75 i0 (.agg #[.string ⟨#[]⟩, .string ⟨#[]⟩, .int .i64 0, .string ⟨#[]⟩]) 4 56 Tryz.underlying85 hi hz0 hz1 hz2 rfl (by decide) (.slice p os.length cap) os.length (orgCs os) rfl HO2.out ⟨VA.heap.size, 0, none⟩ 1 1 [.string S, .string H, .int .i64 P, .string D] rfl rfl HC2.out (by simp [Value.oneCell']) (by omega) (by unfold maxLen; omega) (by omega) hz9 _ rfl ?_; intro g6 cap6 w6 hown6 hgrow6 hat6 hlt6; obtain ⟨⟨-, s5, s6⟩, s7, s8⟩ := HSG.out _ hgrow6))
  all_goals (
    have hsm := heap_setCell_same w6 g 1 _ 87 (.slice (some ⟨g6, 0, none⟩) (os.length + 1) cap6) s7
    have hcl : (w6.setCell ⟨g, 1, none⟩ (.slice (some ⟨g6, 0, none⟩) (os.length + 1) cap6)).cell? ⟨g, 1, none⟩ = some (.slice (some ⟨g6, 0, none⟩) (os.length + 1) cap6) := World.cell?_setCell_same _ _ _ s5
    have hB7 : Below g w (w6.setCell ⟨g, 1, none⟩ (.slice (some ⟨g6, 0, none⟩) (os.length + 1) cap6)) := s8.setCell (p := ⟨g, 1, none⟩) (Nat.le_refl _) _
    have hwl : WlAt (w6.setCell ⟨g, 1, none⟩ (.slice (some ⟨g6, 0, none⟩) (os.length + 1) cap6)) g rs (os ++ [o]) := by
      refine ⟨W0, rv, _, h1, HP.out, H3.out.trans hB7, hsm, ?_⟩
      have hx := ownsRow_setCell_below hown6 (a := ⟨g, 1, none⟩) (Nat.lt_succ_self g) (.slice (some ⟨g6, 0, none⟩) (os.length + 1) cap6)
      rw [HAP.out, List.length_append, List.length_singleton]
      exact hx
    have hkp : KeepB w (w6.setCell ⟨g, 1, none⟩ (.slice (some ⟨g6, 0, none⟩) (os.length + 1) cap6)) := ((keepB_below HBA.out).trans ((keepB_below (((Below.refl _ VA).alloc (Nat.le_refl _) _).drew)).trans (keepB_grown HO2.out hgrow6))).trans (keepB_set s7 (.inr rfl) _)
    obtain ⟨W7, hW7⟩ : ∃ W, w6.setCell ⟨g, 1, none⟩ (.slice (some ⟨g6, 0, none⟩) (os.length + 1) cap6) = W := ⟨_, rfl⟩
    rw [hW7] at hcl hB7 hwl hkp ⊢
    have HKP := hide hkp
    have HWL := hide hwl
    have HB7 := hide hB7
    clear hsm hwl hB7 hkp hW7 s5 s6 s7 s8 hown6 hgrow6 hat6 hlt6 q1 q2 q3 q4 q5 q6 r1 r2 r3 r4 r5 r6 HSG HO2 HC2 HS1 HOWN HBA hz9 hzA
    go_wp2
    go_ret2
    exact ⟨rfl, HWL.out, HB7.out, HKP.out⟩)
set_option maxRecDepth 100000 in
set_option maxHeartbeats 4000000 in
theorem paddF (g : Nat) (o : Org) (rs : List Sx.Rl) (os : List Org) (w : World) (hW : RdW w g rs os) (hl : os.length = 20) : Calls Tryz.prog 34 #[.pointer (some ⟨g, 0, none⟩), orgA o] w fun e w' => e = .returned (.tuple #[.int .i64 0, .int .i64 5]) ∧ Below w.heap.size w w' := by
  obtain ⟨rv, p, cap, h1, h2, h3, h4, h5⟩ := hW
  unfold orgA
  obtain ⟨S, hS⟩ : ∃ X : ByteArray, ⟨(schOf o).toArray⟩ = X := ⟨_, rfl⟩
  obtain ⟨H, hH⟩ : ∃ X : ByteArray, ⟨(hstOf o).toArray⟩ = X := ⟨_, rfl⟩
  obtain ⟨D, hD⟩ : ∃ X : ByteArray, ⟨o.2.toArray⟩ = X := ⟨_, rfl⟩
  obtain ⟨P, hP⟩ : ∃ n, prtOf o = n := ⟨_, rfl⟩
  rw [hS, hH, hD, hP]
  rw [hl] at h3
  clear h4 h5 hS hH hD hP
  go_enter Tryz.func34, Tryz.ntmps34
  go_wp2
  go_ret2
  exact ⟨rfl, (Below.refl _ w).alloc (Nat.le_refl _) _⟩
/-- What a step leaves: a world of origins. -/
def StPost (w : World) (g : Nat) (rs : List Sx.Rl) (w' : World) : Prop := ∃ os, (∀ o ∈ os, OrgOk o) ∧ os.length ≤ 20 ∧ WlAt w' g rs os ∧ Below g w w' ∧ KeepB w w'
theorem paddS (g : Nat) (o : Org) (rs : List Sx.Rl) (os : List Org) (w : World) (hW : WlAt w g rs os) (hl : os.length ≤ 20) (hok : ∀ o ∈ os, OrgOk o) (ho : OrgOk o) : Calls Tryz.prog 34 #[.pointer (some ⟨g, 0, none⟩), orgA o] w fun e w' => (∃ a b, e = .returned (.tuple #[.int .i64 a, .int .i64 b])) ∧ StPost w g rs w' := by
  have hg : g < w.heap.size := by obtain ⟨rv, p, cap, h1, -⟩ := hW.read; exact h1
  by_cases h : os.length < 20
  · refine (paddW g o rs os w hW h).mono ?_
    rintro e w' ⟨rfl, h1, h2, h3⟩
    refine ⟨⟨_, _, rfl⟩, os ++ [o], fun x hx => ?_, by rw [List.length_append, List.length_singleton]; omega, h1, h2, h3⟩
    rcases List.mem_append.1 hx with hx | hx
    · exact hok x hx
    · rw [List.mem_singleton.1 hx]; exact ho
  · refine (paddF g o rs os w hW.read (by omega)).mono ?_
    rintro e w' ⟨rfl, h1⟩
    exact ⟨⟨_, _, rfl⟩, os, hok, hl, hW.below h1, h1.mono (by omega), keepB_below h1⟩
set_option maxRecDepth 100000 in
set_option maxHeartbeats 4000000 in
/-- (*suffix.World).Opaque -/
theorem pOpaque (g : Nat) (rs : List Sx.Rl) (os : List Org) (w : World) (hW : WlAt w g rs os) (hl : os.length ≤ 20) (hok : ∀ o ∈ os, OrgOk o) : Calls Tryz.prog 12 #[.pointer (some ⟨g, 0, none⟩)] w fun e w' => (∃ a b, e = .returned (.tuple #[.int .i64 a, .int .i64 b])) ∧ StPost w g rs w' := by
  have HA := hide (paddS g (none, []) rs os w hW hl hok rfl)
  have hA : orgA (none, []) = .agg #[.string ⟨#[]⟩, .string ⟨#[]⟩, .int .i64 0, .string ⟨#[]⟩] := rfl
  rw [hA] at HA
  clear hW hok hA
  go_enter Tryz.func12, Tryz.ntmps12
  go_wp2_with fail
  refine HA.out.mono ?_
  rintro e w1 ⟨⟨a, b, rfl⟩, hS⟩
  have HS := hide hS
  clear hS
  go_wp2
  go_ret2
  exact ⟨⟨_, _, rfl⟩, HS.out⟩
set_option maxRecDepth 100000 in
set_option maxHeartbeats 4000000 in
/-- (*suffix.World).Tuple -/
theorem pTuple (g : Nat) (s h : ByteArray) (p : Int) (rs : List Sx.Rl) (os : List Org) (w : World) (hw : LWt w) (hW : WlAt w g rs os) (hl : os.length ≤ 20) (hok : ∀ o ∈ os, OrgOk o) (hs : schOk s.data.toList) (hp : 0 ≤ p ∧ p ≤ 65535) (hh : (Sx.host h.data.toList).2 = 0) : Calls Tryz.prog 10 #[.pointer (some ⟨g, 0, none⟩), .string s, .string h, .int .i64 p] w fun e w' => (∃ a b, e = .returned (.tuple #[.int .i64 a, .int .i64 b])) ∧ StPost w g rs w' := by
  have hg : g < w.heap.size := by obtain ⟨rv, p, cap, h1, -⟩ := hW.read; exact h1
  have HSC := hide (pschm s w)
  have HPT := hide (pport p w)
  rw [decide_eq_true hs] at HSC
  rw [decide_eq_true hp] at HPT
  have HHI := hide (phip_any h w hw)
  unfold PlnPost at HHI
  have hpl : Sx.plainR h.data.toList = (Sx.dotted (Sx.host h.data.toList).1, 0) := by
    unfold Sx.plainR
    rw [← hh]
  rw [hpl] at HHI
  have hHo := Sx.host_ok h.data.toList hh
  obtain ⟨HH, hHH⟩ : ∃ H, (Sx.host h.data.toList).1 = H := ⟨_, rfl⟩
  rw [hHH] at HHI hHo
  have hss : 0 < s.size ∧ s.size ≤ 5 := by
    rw [← ba_len]
    rcases hs with e | e <;> rw [e] <;> simp [httpB, httpsB]
  have hAd : ∀ W, Below w.heap.size w W → Calls Tryz.prog 34 #[.pointer (some ⟨g, 0, none⟩), orgA (some (s.data.toList, HH, p), [])] W fun e w' => (∃ a b, e = .returned (.tuple #[.int .i64 a, .int .i64 b])) ∧ StPost W g rs w' := fun W hB => paddS g (some (s.data.toList, HH, p), []) rs os W (hW.below hB) hl hok ⟨hs, hHo, hp⟩
  have hA : orgA (some (s.data.toList, HH, p), []) = .agg #[.string s, .string ⟨(Sx.dotted HH).toArray⟩, .int .i64 p, .string ⟨#[]⟩] := by
    unfold orgA schOf hstOf prtOf
    simp
  rw [hA] at hAd
  have HAD := hide hAd
  obtain ⟨P, hP⟩ : ∃ X : ByteArray, ⟨(Sx.dotted HH).toArray⟩ = X := ⟨_, rfl⟩
  dsimp only at HHI
  rw [hP] at HHI HAD
  have HNT := hide (fun W => pntup s P p W hss.1 (by omega))
  clear hpl hHo hHH hAd hA hP hW hok hs hh hw
  go_enter Tryz.func10, Tryz.ntmps10
  go_wp2_with fail
  refine HSC.out.mono ?_
  rintro e w1 ⟨rfl, rfl⟩
  go_wp2_with fail
  refine HPT.out.mono ?_
  rintro e w1 ⟨rfl, rfl⟩
  go_wp2_with fail
  refine HHI.out.mono ?_
  rintro e w2 ⟨hB, rfl⟩
  have HB2 := hide hB
  clear hB
  go_wp2_with fail
  refine (HNT.out _).mono ?_
  rintro e w3 ⟨rfl, hB⟩
  have HB3 := hide (below_to HB2.out hB)
  clear hB
  go_wp2_with fail
  refine (HAD.out _ HB3.out).mono ?_
  rintro e w4 ⟨⟨a, b, rfl⟩, os', q1, q2, q3, q4, q5⟩
  have HS : Hid (StPost w1 g rs w4) := hide ⟨os', q1, q2, q3, (HB3.out.mono (by omega)).trans q4, (keepB_below HB3.out).trans q5⟩
  clear q1 q2 q3 q4 q5
  go_wp2
  go_ret2
  exact ⟨⟨_, _, rfl⟩, HS.out⟩
end Go.Proofs.YtgohllfpceeboabGreatDoor
