import Derived.Test.YtgohllfpceeboaaGreatDoorGam
import Derived.Deep.RegionLaw
import Derived.Test.YtgohllfpceeboaaGreatDoorGal
namespace Go.Proofs.YtgohllfpceeboaaGreatDoor
open Go.RowKit
theorem Tryz.info98 : (Tryz.prog.info? 98).map (fun i => (i.zero, i.size, i.bytes)) = some (some (.agg #[.int .u8 0, .string ⟨#[]⟩, .int .i64 0, .int .u8 0]), 4, 40) := by kernel_rfl
/-- Rules as cells. -/
def prC (r : Sx.Rl) : List Value := [.int .u8 r.2.1.toNat, .string ⟨(Sx.dotted r.1).toArray⟩, .int .i64 r.1.length, .int .u8 r.2.2.toNat]
def prV (rs : List Sx.Rl) : List Value := rs.flatMap prC
theorem prV_app (a b : List Sx.Rl) : prV (a ++ b) = prV a ++ prV b := by simp [prV]
theorem prV_get : ∀ (l : List Sx.Rl) (j : Nat) (h : j < l.length), (prV l)[j * 4]? = some (.int .u8 l[j].2.1.toNat) ∧ (prV l)[j * 4 + 1]? = some (.string ⟨(Sx.dotted l[j].1).toArray⟩) ∧ (prV l)[j * 4 + 2]? = some (.int .i64 l[j].1.length) ∧ (prV l)[j * 4 + 3]? = some (.int .u8 l[j].2.2.toNat) := by
  intro l
  induction l with
  | nil => intro j h; exact absurd h (Nat.not_lt_zero _)
  | cons x r ih =>
    intro j h
    have e : prV (x :: r) = Value.int .u8 x.2.1.toNat :: Value.string ⟨(Sx.dotted x.1).toArray⟩ :: Value.int .i64 x.1.length :: Value.int .u8 x.2.2.toNat :: prV r := rfl
    cases j with
    | zero => rw [e]; exact ⟨rfl, rfl, rfl, rfl⟩
    | succ j =>
      have := ih j (by simpa using h)
      rw [e, show (j + 1) * 4 = j * 4 + 1 + 1 + 1 + 1 from by omega]
      simpa using this
/-- Rules that lie in a row. -/
def PrAt (W : World) (v : Value) (rs : List Sx.Rl) : Prop := ∃ p cap, v = .slice p rs.length cap ∧ ∀ j (h : j < rs.length), ∃ b, p = some ⟨b, 0, none⟩ ∧ b < W.heap.size ∧ W.cell? ⟨b, j * 4, none⟩ = some (.int .u8 rs[j].2.1.toNat) ∧ W.cell? ⟨b, j * 4 + 1, none⟩ = some (.string ⟨(Sx.dotted rs[j].1).toArray⟩) ∧ W.cell? ⟨b, j * 4 + 2, none⟩ = some (.int .i64 rs[j].1.length) ∧ W.cell? ⟨b, j * 4 + 3, none⟩ = some (.int .u8 rs[j].2.2.toNat)
theorem prAt_own {W : World} {B : Nat} {v : Value} {rs : List Sx.Rl} (h : W.ownsRow B 98 4 v rs.length (prV rs)) : PrAt W v rs := by
  obtain ⟨p, cap, hv⟩ := own_shapeK h
  refine ⟨p, cap, hv, fun j hj => ?_⟩
  rcases h.2 with ⟨e1, e2⟩ | ⟨g, cap, cur, e1, e2, e3, e4⟩
  · omega
  · have hp : p = some ⟨g, 0, none⟩ := by rw [hv] at e1; injection e1
    obtain ⟨a1, a2, a3, a4⟩ := prV_get rs j hj
    have c1 := h.cells (g := g) (by rw [e1]; rfl) _ _ a1
    have c2 := h.cells (g := g) (by rw [e1]; rfl) _ _ a2
    have c3 := h.cells (g := g) (by rw [e1]; rfl) _ _ a3
    have c4 := h.cells (g := g) (by rw [e1]; rfl) _ _ a4
    rw [Addr.add_lit, Nat.zero_add] at c1 c2 c3 c4
    exact ⟨g, hp, (Array.getElem?_eq_some_iff.1 e3).1, c1, c2, c3, c4⟩
theorem PrAt.below {W W' : World} {v : Value} {rs : List Sx.Rl} (h : PrAt W v rs) (hb : Below W.heap.size W W') : PrAt W' v rs := by
  obtain ⟨p, cap, h1, h2⟩ := h
  refine ⟨p, cap, h1, fun j hj => ?_⟩
  obtain ⟨b, e1, e2, c1, c2, c3, c4⟩ := h2 j hj
  exact ⟨b, e1, Nat.lt_of_lt_of_le e2 hb.size, (hb.cell (p := ⟨b, j * 4, none⟩) e2).trans c1, (hb.cell (p := ⟨b, j * 4 + 1, none⟩) e2).trans c2, (hb.cell (p := ⟨b, j * 4 + 2, none⟩) e2).trans c3, (hb.cell (p := ⟨b, j * 4 + 3, none⟩) e2).trans c4⟩
def knB (r q : Sx.Rl) : Bool := decide (Sx.dotted q.1 = Sx.dotted r.1) && decide (q.2.1 = r.2.1)
set_option maxRecDepth 100000 in
set_option maxHeartbeats 1000000 in
/-- (suffix.rule).isKnownAs -/
theorem pknw (r q : Sx.Rl) (w : World) : Calls Tryz.prog 194 #[ruA r, ruA q] w fun e w' => e = .returned (.bool (knB r q)) ∧ Below w.heap.size w w' := by
  obtain ⟨h, k, sc⟩ := r
  obtain ⟨h2, k2, sc2⟩ := q
  unfold ruA knB
  dsimp only
  generalize h.length = N1
  generalize h2.length = N2
  generalize Sx.dotted h = D1
  generalize Sx.dotted h2 = D2
  have hB : ∀ o o2 : Obj, Below w.heap.size w ((w.alloc o).alloc o2) := fun o o2 => ((Below.refl _ _).alloc (Nat.le_refl _) _).alloc (by rw [World.size_alloc]; exact Nat.le_succ _) _
  have HB := hide hB
  clear hB
  by_cases hk : k = k2
  · subst hk
    have hd : (decide (D2 = D1) && decide (k = k)) = ((⟨D1.toArray⟩ : ByteArray).toList == (⟨D2.toArray⟩ : ByteArray).toList) := by
      rw [ByteArray.toList_eq, ByteArray.toList_eq]
      by_cases h : D2 = D1
      · simp [h]
      · simp [h, Ne.symm h]
    rw [hd]
    clear hd
    go_enter Tryz.func194, Tryz.ntmps194
    go_wp2_with fail
    go_ret
    exact ⟨by first | rfl | simp, HB.out _ _⟩
  · have hkb : ((k.toNat : Int) == (k2.toNat : Int)) = false := by
      rw [beq_eq_false_iff_ne]
      intro e
      exact hk (UInt8.toNat_inj.1 (by omega))
    have hkn : ¬ (k.toNat : Int) = (k2.toNat : Int) := by simpa using hkb
    have hd : (decide (D2 = D1) && decide (k2 = k)) = false := by simp [Ne.symm hk]
    rw [hd]
    clear hd
    go_enter Tryz.func194, Tryz.ntmps194
    go_wp2_with fail
    go_ret
    exact ⟨rfl, HB.out _ _⟩
set_option maxRecDepth 100000 in
set_option maxHeartbeats 1000000 in
/-- slices.IndexFunc of rules, by isKnownAs -/
theorem pidx (rs : List Sx.Rl) (r : Sx.Rl) (v : Value) (w : World) (hv : PrAt w v rs) (hn : rs.length ≤ 1000) : Calls Tryz.prog 242 #[v, .func (.func 194) #[ruA r] #[]] w fun e w' => Below w.heap.size w w' ∧ ∃ i : Int, e = .returned (.int .i64 i) ∧ decide (0 ≤ i) = Sx.known rs r := by
  obtain ⟨p, cap, rfl, hrd⟩ := hv
  have HRD := hide hrd
  have hK : ∀ q : Sx.Rl, ∀ w, Calls Tryz.prog 194 #[ruA r, .agg #[.int .u8 q.2.1.toNat, .string ⟨(Sx.dotted q.1).toArray⟩, .int .i64 q.1.length, .int .u8 q.2.2.toNat]] w fun e w' => e = .returned (.bool (knB r q)) ∧ Below w.heap.size w w' := fun q w => pknw r q w
  have HK := hide hK
  clear hrd hK
  obtain ⟨A, hA⟩ : ∃ A, ruA r = A := ⟨_, rfl⟩
  rw [hA] at HK ⊢
  clear hA
  go_enter Tryz.func242, Tryz.ntmps242
  go_wp2
  go_loopw [8] (fun i wr => ∃ k : Nat, i = .int .i64 k ∧ k ≤ rs.length ∧ Sx.known (rs.take k) r = false ∧ Below w.heap.size w wr) (fun i _ => (rs.length - intOf i).toNat)
  case atStart => exact ⟨0, rfl, by omega, rfl, Below.refl _ _⟩
  case round =>
    obtain ⟨k, rfl, hk, hkn, hB⟩ := hrel
    have hsz := hB.size
    by_cases hlt : k < rs.length
    · obtain ⟨b, rfl, hb, c1, c2, c3, c4⟩ := HRD.out k hlt
      have d1 := (hB.cell (p := ⟨b, k * 4, none⟩) hb).trans c1
      have d2 := (hB.cell (p := ⟨b, k * 4 + 1, none⟩) hb).trans c2
      have d3 := (hB.cell (p := ⟨b, k * 4 + 2, none⟩) hb).trans c3
      have d4 := (hB.cell (p := ⟨b, k * 4 + 3, none⟩) hb).trans c4
      have hst : Sx.known (rs.take (k + 1)) r = knB r rs[k] := by
        unfold Sx.known at hkn ⊢
        rw [List.take_succ_eq_append_getElem hlt, List.any_append, hkn]
        simp [knB]
      have hin : knB r rs[k] = true → Sx.known rs r = true := fun h => by
        unfold Sx.known
        rw [List.any_eq_true]
        exact ⟨rs[k], List.getElem_mem hlt, h⟩
      have hc := HK.out rs[k]
      obtain ⟨⟨qh, qk, qs⟩, hq⟩ : ∃ q, rs[k] = q := ⟨_, rfl⟩
      rw [hq] at d1 d2 d3 d4 hst hin hc
      dsimp only at d1 d2 d3 d4 hc
      obtain ⟨D, hD⟩ : ∃ D : ByteArray, ⟨(Sx.dotted qh).toArray⟩ = D := ⟨_, rfl⟩
      obtain ⟨N, hN⟩ : ∃ N, qh.length = N := ⟨_, rfl⟩
      rw [hD] at d2 hc
      rw [hN] at d3 hc
      obtain ⟨B, hB0⟩ : ∃ B, knB r (qh, qk, qs) = B := ⟨_, rfl⟩
      rw [hB0] at hst hin hc
      have HST := hide hst
      have HIN := hide hin
      have HC := hide hc
      clear c1 c2 c3 c4 hst hin hc hD hN hB0 hq hkn
      have hBv : B = true ∨ B = false := by cases B <;> simp
      rcases hBv with rfl | rfl
      · go_wp2_with fail
        refine (HC.out _).mono ?_
        rintro e w2 ⟨rfl, hB2⟩
        have hBe := hB.trans (hB2.mono hsz)
        clear hB2
        go_wp2
        go_ret
        exact ⟨hBe, k, rfl, by rw [HIN.out trivial]; simp⟩
      · go_wp2_with fail
        refine (HC.out _).mono ?_
        rintro e w2 ⟨rfl, hB2⟩
        have hBe := hB.trans (hB2.mono hsz)
        clear hB2
        go_wp2
        exact ⟨⟨k + 1, by go_num, by omega, HST.out, hBe⟩, by simp [intOf]; omega⟩
    · have hkl : k = rs.length := by omega
      subst hkl
      rw [List.take_length] at hkn
      have HKN := hide hkn
      clear hkn hlt hk
      go_wp2
      go_ret
      exact ⟨hB, -1, rfl, by rw [HKN.out]; rfl⟩
/-- slices.ContainsFunc of rules, by isKnownAs -/
theorem pcont (rs : List Sx.Rl) (r : Sx.Rl) (v : Value) (w : World) (hv : PrAt w v rs) (hn : rs.length ≤ 1000) : Calls Tryz.prog 193 #[v, .func (.func 194) #[ruA r] #[]] w fun e w' => e = .returned (.bool (Sx.known rs r)) ∧ Below w.heap.size w w' := by
  have HI := hide (pidx rs r v w hv hn)
  obtain ⟨p, cap, rfl, _⟩ := hv
  obtain ⟨A, hA⟩ : ∃ A, ruA r = A := ⟨_, rfl⟩
  rw [hA] at HI ⊢
  clear hA
  obtain ⟨KN, hKN⟩ : ∃ KN, Sx.known rs r = KN := ⟨_, rfl⟩
  rw [hKN] at HI ⊢
  clear hKN
  go_enter Tryz.func193, Tryz.ntmps193
  go_wp2_with fail
  refine HI.out.mono ?_
  rintro e w1 ⟨hB, i, rfl, hi⟩
  go_wp2
  go_ret
  exact ⟨ret_bool (by rw [← hi]), hB⟩
/-- One rule more. -/
def addRl (rs : List Sx.Rl) (r : Sx.Rl) : List Sx.Rl × Int := if Sx.known rs r then (rs, 4) else if rs.length = 30 then (rs, 5) else (rs ++ [r], 0)
theorem add_held {w w1 : World} {b : Nat} {v x y z u : Value} {t : TypeId} (hc : (w.alloc (.cells #[x, y, z, u] t)).cell? ⟨b, 0, none⟩ = some v) (hb : b < w.heap.size) (hB : Below (w.alloc (.cells #[x, y, z, u] t)).drew.heap.size (w.alloc (.cells #[x, y, z, u] t)).drew w1) :
    w1.cell? ⟨b, 0, none⟩ = some v ∧ (w1.cell? ⟨w.heap.size, 0, none⟩ = some x ∧ w1.cell? ⟨w.heap.size, 1, none⟩ = some y) ∧ (w1.cell? ⟨w.heap.size, 2, none⟩ = some z ∧ w1.cell? ⟨w.heap.size, 3, none⟩ = some u) := by
  have hlt : w.heap.size < (w.alloc (.cells #[x, y, z, u] t)).drew.heap.size := by show _ < (w.alloc _).heap.size; rw [World.size_alloc]; omega
  have h1 := (hB.block w.heap.size hlt).trans (heap_alloc_new w (.cells #[x, y, z, u] t))
  obtain ⟨⟨q0, q1, q2, q3⟩, _⟩ := box4 h1
  exact ⟨(hB.cell (p := ⟨b, 0, none⟩) (Nat.lt_trans hb hlt)).trans hc, ⟨q0, q1⟩, q2, q3⟩
theorem cell4_at (w : World) (x y z u : Value) (t : TypeId) (n : Nat) (hn : w.heap.size = n) : ∀ (j : Nat) (v : Value), [x, y, z, u][j]? = some v → (w.alloc (.cells #[x, y, z, u] t)).cell? ((⟨n, 0, none⟩ : Addr).add j) = some v := by
  subst hn
  intro j v hj
  rw [Addr.add_lit, Nat.zero_add, World.cell?_alloc_mark]
  simpa using hj
theorem own_drewP {w : World} {B n sz : Nat} {e : TypeId} {v : Value} {xs : List Value} (h : w.ownsRow B e sz v n xs) : w.drew.ownsRow B e sz v n xs := h
theorem cell4_drew (w : World) (x y z u : Value) (t : TypeId) : ∀ (j : Nat) (v : Value), [x, y, z, u][j]? = some v → (w.alloc (.cells #[x, y, z, u] t)).drew.cell? ((⟨w.heap.size, 0, none⟩ : Addr).add j) = some v := cell4_at w x y z u t _ rfl
theorem far_cellP {w1 w8 : World} {o : Obj} {row : Option Nat} {k off : Nat} {v : Value} (hg : (w1.alloc o).drew.grownBy w8 row) (hr : ∀ g, row = some g → g < k) (hk : k < w1.heap.size) (h : w1.cell? ⟨k, off, none⟩ = some v) : w8.cell? ⟨k, off, none⟩ = some v :=
  (hg.cell_far ⟨k, off, none⟩ (by show k < (w1.alloc o).heap.size; rw [World.size_alloc]; omega) (fun e => by have := hr k e.symm; omega)).trans ((World.cell?_of_block (heap_alloc_old _ _ hk)).trans h)
theorem set_heldP {w8 : World} {b k : Nat} {v x y z u : Value} (hk : k ≠ b) (h : (w8.cell? ⟨k, 0, none⟩ = some x ∧ w8.cell? ⟨k, 1, none⟩ = some y) ∧ (w8.cell? ⟨k, 2, none⟩ = some z ∧ w8.cell? ⟨k, 3, none⟩ = some u)) :
    ((w8.setCell ⟨b, 0, none⟩ v).cell? ⟨k, 0, none⟩ = some x ∧ (w8.setCell ⟨b, 0, none⟩ v).cell? ⟨k, 1, none⟩ = some y) ∧ ((w8.setCell ⟨b, 0, none⟩ v).cell? ⟨k, 2, none⟩ = some z ∧ (w8.setCell ⟨b, 0, none⟩ v).cell? ⟨k, 3, none⟩ = some u) := by
  have e : ∀ i, (w8.setCell ⟨b, 0, none⟩ v).cell? ⟨k, i, none⟩ = w8.cell? ⟨k, i, none⟩ := fun i => World.cell?_of_block (heap_setCell_other _ _ _ _ hk)
  rw [e, e, e, e]
  exact h
set_option maxRecDepth 100000 in
set_option maxHeartbeats 1000000 in
/-- (*suffix.ruleSet).add -/
theorem prsadd (b : Nat) (cs : Array Value) (T : TypeId) (rs : List Sx.Rl) (r : Sx.Rl) (rv : Value) (w : World) (hbox : w.heap[b]? = some (.cells cs T (0, 0))) (hc0 : cs[0]? = some rv) (hrow : w.ownsRow (b + 1) 98 4 rv rs.length (prV rs)) (hn : rs.length ≤ 30) :
    Calls Tryz.prog 143 #[.pointer (some ⟨b, 0, none⟩), ruA r] w fun e w' => e = .returned (.int .i64 (addRl rs r).2) ∧ Below b w w' ∧ ∃ rv', w'.heap[b]? = some (.cells (cs.setIfInBounds 0 rv') T (0, 0)) ∧ w'.ownsRow (b + 1) 98 4 rv' (addRl rs r).1.length (prV (addRl rs r).1) := by
  have hset : cs.setIfInBounds 0 rv = cs := by
    obtain ⟨h0, h1⟩ := Array.getElem?_eq_some_iff.1 hc0
    apply Array.ext
    · simp
    · intro i h2 h3
      rw [Array.getElem_setIfInBounds]
      split
      · rename_i e; subst e; exact h1.symm
      · rfl
  have hbl : b < w.heap.size := (Array.getElem?_eq_some_iff.1 hbox).1
  have hB0 : Below w.heap.size w (w.alloc (.cells (prC r).toArray 98)).drew := ((Below.refl _ _).alloc (Nat.le_refl _) _).drew
  have HC := hide (pcont rs r rv (w.alloc (.cells (prC r).toArray 98)).drew ((prAt_own hrow).below hB0) (by omega))
  have hcb : w.cell? ⟨b, 0, none⟩ = some rv := by simp [World.cell?, hbox, hc0]
  obtain ⟨vp, vc, rfl⟩ := own_shapeK hrow
  obtain ⟨rh, rk, rsc⟩ := r
  have hra : ruA (rh, rk, rsc) = .agg #[.int .u8 rk.toNat, .string ⟨(Sx.dotted rh).toArray⟩, .int .i64 rh.length, .int .u8 rsc.toNat] := rfl
  have hrc : (prC (rh, rk, rsc)).toArray = #[.int .u8 rk.toNat, .string ⟨(Sx.dotted rh).toArray⟩, .int .i64 rh.length, .int .u8 rsc.toNat] := rfl
  have hpv : prV [(rh, rk, rsc)] = [.int .u8 rk.toNat, .string ⟨(Sx.dotted rh).toArray⟩, .int .i64 rh.length, .int .u8 rsc.toNat] := rfl
  rw [hrc] at HC hB0
  rw [hra] at HC ⊢
  obtain ⟨KN, hKN⟩ : ∃ KN, Sx.known rs (rh, rk, rsc) = KN := ⟨_, rfl⟩
  rw [hKN] at HC
  obtain ⟨R, hR⟩ : ∃ R, (rh, rk, rsc) = R := ⟨_, rfl⟩
  have hA1 : KN = true → addRl rs R = (rs, 4) := fun h => by unfold addRl; rw [← hR, hKN, h]; rfl
  have hA2 : KN = false → rs.length = 30 → addRl rs R = (rs, 5) := fun h h2 => by unfold addRl; rw [← hR, hKN, h, if_neg (by simp), if_pos h2]
  have hA3 : KN = false → rs.length ≠ 30 → addRl rs R = (rs ++ [R], 0) := fun h h2 => by unfold addRl; rw [← hR, hKN, h, if_neg (by simp), if_neg h2]
  rw [hR] at hpv ⊢
  obtain ⟨D, hD⟩ : ∃ D : ByteArray, ⟨(Sx.dotted rh).toArray⟩ = D := ⟨_, rfl⟩
  obtain ⟨N, hN⟩ : ∃ N, rh.length = N := ⟨_, rfl⟩
  rw [hD, hN] at HC hB0 hpv ⊢
  have HA1 := hide hA1
  have HA2 := hide hA2
  have HA3 := hide hA3
  have HPV := hide hpv
  have HBX := hide hbox
  have HSET := hide hset
  have HROW := hide hrow
  have hcb1 : (w.alloc (.cells #[.int .u8 rk.toNat, .string D, .int .i64 N, .int .u8 rsc.toNat] 98)).cell? ⟨b, 0, none⟩ = some (.slice vp rs.length vc) := (World.cell?_of_block (heap_alloc_old _ _ hbl)).trans hcb
  clear hra hrc hpv hKN hR hA1 hA2 hA3 hD hN hset hbox hc0 hrow
  obtain ⟨M, hM⟩ : ∃ M, rs.length = M := ⟨_, rfl⟩
  rw [hM] at hcb hcb1 HC hn HROW HA2 HA3
  have HM := hide hM
  clear hM
  have HSET2 : Hid (cs.setIfInBounds 0 (.slice vp M vc) = cs) := hide (by rw [← HM.out]; exact HSET.out)
  clear HSET
  go_enter Tryz.func143, Tryz.ntmps143
  go_wp2_with fail
  go_region_held_law (fun w' => w'.cell? ⟨b, 0, none⟩ = some (.slice vp M vc) ∧ (w'.cell? ⟨w.heap.size, 0, none⟩ = some (.int .u8 rk.toNat) ∧ w'.cell? ⟨w.heap.size, 1, none⟩ = some (.string D)) ∧ (w'.cell? ⟨w.heap.size, 2, none⟩ = some (.int .i64 N) ∧ w'.cell? ⟨w.heap.size, 3, none⟩ = some (.int .u8 rsc.toNat))) (first | exact hS1 | go_keep) ((go_at_call 193; refine HC.out.mono ?_; rintro e w1 ⟨rfl, hB1⟩; have hS1 := add_held hcb1 hbl hB1))
  have hBw : Below w.heap.size w w1 := hB0.trans (hB1.mono hB0.size)
  have hbx1 : w1.heap[b]? = some (.cells cs T (0, 0)) := (hBw.block b hbl).trans HBX.out
  have hrow1 := own_later HROW.out hBw
  have hs1 := hBw.size
  have hfb1 : w1.frozen? ⟨b, 0, none⟩ = false := by simp [World.frozen?, hbx1]
  obtain ⟨e0, ⟨e1, e2⟩, e3, e4⟩ := hS1
  have HBW := hide hBw
  clear hB1 hB0 hBw HC hcb hcb1
  have hKv : KN = true ∨ KN = false := by cases KN <;> simp
  rcases hKv with rfl | rfl
  · go_wp2
    go_ret
    rw [HA1.out trivial]
    exact ⟨rfl, HBW.out.mono (by omega), _, by rw [HSET2.out]; exact hbx1, by rw [HM.out]; exact hrow1⟩
  · by_cases hM30 : M = 30
    · subst hM30
      go_wp2
      go_ret
      rw [HA2.out trivial trivial]
      exact ⟨rfl, HBW.out.mono (by omega), _, by rw [HSET2.out]; exact hbx1, by rw [HM.out]; exact hrow1⟩
    · have hne1 : ((M : Int) == 30) = false := by simp; omega
      have hne2 : ¬ (M : Int) = 30 := by omega
      obtain ⟨i0, hi, hz0, hz1, hz2⟩ := info_parts Tryz.info98
      have hlow : ∀ g, (Value.slice vp M vc).ownBlock = some g → g < w.heap.size := fun g e => (HROW.out.lt g e).2
      have hlt1 : w.heap.size < w1.heap.size := by
        have := e1
        simp only [World.cell?] at this
        by_cases h : w.heap.size < w1.heap.size
        · exact h
        · rw [Array.getElem?_eq_none (by omega)] at this; cases this
      have hbne : w.heap.size ≠ b := by omega
      have hnb : some b ≠ (Value.slice vp M vc).ownBlock := fun e => by have := (HROW.out.lt b e.symm).1; omega
      have HFZ : Hid (∀ (o : Obj) (w8 : World), (w1.alloc o).drew.grownBy w8 (Value.slice vp M vc).ownBlock → w8.frozen? ⟨b, 0, none⟩ = false) := hide (fun o w8 hg => (hg.frozen_far ⟨b, 0, none⟩ (by show b < (w1.alloc o).heap.size; rw [World.size_alloc]; omega) hnb).trans ((World.frozen?_of_block (heap_alloc_old _ _ (show b < w1.heap.size by omega))).trans hfb1))
      have HCB : Hid (∀ (o : Obj) (w8 : World), (w1.alloc o).drew.grownBy w8 (Value.slice vp M vc).ownBlock → w8.cell? ⟨b, 0, none⟩ = some (.slice vp M vc)) := hide (fun o w8 hg => (hg.cell_far ⟨b, 0, none⟩ (by show b < (w1.alloc o).heap.size; rw [World.size_alloc]; omega) hnb).trans ((World.cell?_of_block (heap_alloc_old _ _ (show b < w1.heap.size by omega))).trans e0))
      go_wp2
      have hcA : ∀ o, (w1.alloc o).cell? ⟨b, 0, none⟩ = some (.slice vp M vc) := fun o => (World.cell?_of_block (heap_alloc_old _ _ (show b < w1.heap.size by omega))).trans e0
      go_region_law (refine step_append_lies _ rfl _ _ _ rfl (b + 1) 98 i0 (.agg #[.int .u8 0, .string ⟨#[]⟩, .int .i64 0, .int .u8 0]) 4 40 Tryz.underlying89 hi hz0 hz1 hz2 rfl (by decide) _ M (prV rs) rfl (own_drewP (hrow1.alloc _)) ⟨w1.heap.size, 0, none⟩ 1 1 [.int .u8 rk.toNat, .string D, .int .i64 N, .int .u8 rsc.toNat] rfl rfl (cell4_drew _ _ _ _ _ _) (by simp [Value.oneCell']) (by omega) (by unfold maxLen; omega) (by omega) (by simp; omega) _ rfl ?_; intro g8 cap8 w8 hown8 hgrow8 hat8 hlt8; have hfz8 : w8.frozen? ⟨b, 0, none⟩ = false := HFZ.out _ _ hgrow8; have hcb8 : w8.cell? ⟨b, 0, none⟩ = some (.slice vp M vc) := HCB.out _ _ hgrow8)
      all_goals
        go_wp2
        go_ret
        rw [HA3.out trivial hM30]
        have hlb : b < w1.heap.size := by omega
        have hBx : Below b w w8 := (((HBW.out.mono (by omega)).alloc (by omega) _).drew).grown hgrow8 (by show b ≤ (w1.alloc _).heap.size; rw [World.size_alloc]; omega) (fun r e => by have := (HROW.out.lt r e).1; omega)
        have hb8 : w8.heap[b]? = some (.cells cs T (0, 0)) := ((hgrow8.block b (by show b < (w1.alloc _).heap.size; rw [World.size_alloc]; omega) hnb).trans (heap_alloc_old _ _ hlb)).trans hbx1
        refine ⟨rfl, hBx.setCell (p := ⟨b, 0, none⟩) (Nat.le_refl _) _, .slice (some ⟨g8, 0, none⟩) (M + 1) cap8, ?_, ?_⟩
        · simp [World.setCell, Array.getElem?_modify, hb8]
        · have h9 := hown8.kept (grownBy_setCell' w8 b (.slice (some ⟨g8, 0, none⟩) (M + 1) cap8)) (.inr (fun e => by have := (hown8.lt b e).1; omega))
          rw [prV_app, HPV.out, List.length_append, List.length_singleton, HM.out]
          exact h9
end Go.Proofs.YtgohllfpceeboaaGreatDoor
namespace Go.Proofs.YtgohllfpceeboaaGreatDoor
open Go.RowKit
/-- A reader as it lies. -/
def RdrAt (W : World) (b : Nat) (rs : List Sx.Rl) (sec : UInt8) (n err : Int) : Prop := ∃ rv, W.heap[b]? = some (.cells #[rv, .int .u8 sec.toNat, .int .i64 n, .int .i64 err] 92 (0, 0)) ∧ W.ownsRow (b + 1) 98 4 rv rs.length (prV rs)
theorem RdrAt.below {W W' : World} {b : Nat} {rs : List Sx.Rl} {sec : UInt8} {n err : Int} (h : RdrAt W b rs sec n err) (hb : Below W.heap.size W W') : RdrAt W' b rs sec n err := by
  obtain ⟨rv, h1, h2⟩ := h
  exact ⟨rv, far_boxB hb h1, own_later h2 hb⟩
theorem RdrAt.lt {W : World} {b : Nat} {rs : List Sx.Rl} {sec : UInt8} {n err : Int} (h : RdrAt W b rs sec n err) : b < W.heap.size := by
  obtain ⟨rv, h1, h2⟩ := h
  exact (Array.getElem?_eq_some_iff.1 h1).1
theorem RdrAt.sets {W : World} {b : Nat} {rs : List Sx.Rl} {sec : UInt8} {n err : Int} (h : RdrAt W b rs sec n err) (sec' : UInt8) : RdrAt (W.setCell ⟨b, 1, none⟩ (.int .u8 sec'.toNat)) b rs sec' n err := by
  obtain ⟨rv, h1, h2⟩ := h
  exact ⟨rv, by simp [World.setCell, Array.getElem?_modify, h1], h2.kept (grown_setCell W b 1 _) (.inr (fun e => by have := (h2.lt b e).1; omega))⟩
theorem RdrAt.setn {W : World} {b : Nat} {rs : List Sx.Rl} {sec : UInt8} {n err : Int} (h : RdrAt W b rs sec n err) (n' : Int) : RdrAt (W.setCell ⟨b, 2, none⟩ (.int .i64 n')) b rs sec n' err := by
  obtain ⟨rv, h1, h2⟩ := h
  exact ⟨rv, by simp [World.setCell, Array.getElem?_modify, h1], h2.kept (grown_setCell W b 2 _) (.inr (fun e => by have := (h2.lt b e).1; omega))⟩
theorem RdrAt.sete {W : World} {b : Nat} {rs : List Sx.Rl} {sec : UInt8} {n err : Int} (h : RdrAt W b rs sec n err) (err' : Int) : RdrAt (W.setCell ⟨b, 3, none⟩ (.int .i64 err')) b rs sec n err' := by
  obtain ⟨rv, h1, h2⟩ := h
  exact ⟨rv, by simp [World.setCell, Array.getElem?_modify, h1], h2.kept (grown_setCell W b 3 _) (.inr (fun e => by have := (h2.lt b e).1; omega))⟩
theorem RdrAt.cells {W : World} {b : Nat} {rs : List Sx.Rl} {sec : UInt8} {n err : Int} (h : RdrAt W b rs sec n err) : W.cell? ⟨b, 1, none⟩ = some (.int .u8 sec.toNat) ∧ W.cell? ⟨b, 2, none⟩ = some (.int .i64 n) ∧ W.cell? ⟨b, 3, none⟩ = some (.int .i64 err) ∧ W.frozen? ⟨b, 1, none⟩ = false ∧ W.frozen? ⟨b, 2, none⟩ = false ∧ W.frozen? ⟨b, 3, none⟩ = false := by
  obtain ⟨rv, h1, h2⟩ := h
  obtain ⟨⟨q0, q1, q2, q3⟩, f0, f1, f2, f3⟩ := box4 h1
  exact ⟨q1, q2, q3, f1, f2, f3⟩
set_option maxRecDepth 100000 in
set_option maxHeartbeats 1000000 in
/-- (*suffix.reader).addLine -/
theorem paln (b : Nat) (rs : List Sx.Rl) (sec : UInt8) (n err : Int) (s : ByteArray) (w : World) (hw : LWt w) (hr : RdrAt w b rs sec n err) (hn : rs.length ≤ 30) :
    Calls Tryz.prog 131 #[.pointer (some ⟨b, 0, none⟩), .string s] w fun e w' => e = .returned (.int .i64 (Sx.addLn rs sec s.data.toList).2) ∧ Below b w w' ∧ RdrAt w' b (Sx.addLn rs sec s.data.toList).1.1 (Sx.addLn rs sec s.data.toList).1.2 n err := by
  obtain ⟨q1, q2, q3, f1, f2, f3⟩ := hr.cells
  have hlt := hr.lt
  have HR := hide hr
  have hpx := phas_any s ⟨#[47, 47]⟩ w
  rw [show (⟨#[47, 47]⟩ : ByteArray).data.toList = [47, 47] from rfl, prefixB_take] at hpx
  simp only [List.length_cons, List.length_nil, Nat.reduceAdd] at hpx
  clear hr
  have HPX := hide hpx
  obtain ⟨X, hX⟩ : ∃ X, s.data.toList = X := ⟨_, rfl⟩
  have hsx : s.toList = X := by rw [ByteArray.toList_eq, hX]
  have HRL := hide (fun w hw => prl s sec w hw)
  rw [hX] at HPX HRL ⊢
  have HX := hide hX
  clear hX hpx
  by_cases h1 : X = []
  · have hd : (Sx.addLn rs sec X) = ((rs, sec), 0) := by unfold Sx.addLn; rw [if_pos (Or.inl h1)]
    have HD := hide hd
    have he : s.toList.isEmpty = true := by rw [hsx, h1]; rfl
    clear hsx hd h1
    go_enter Tryz.func131, Tryz.ntmps131
    go_wp2_with fail
    go_ret
    rw [HD.out]
    exact ⟨rfl, Below.refl _ _, HR.out⟩
  · have he : s.toList.isEmpty = false := by
      rw [hsx]
      cases X with
      | nil => exact absurd rfl h1
      | cons _ _ => rfl
    by_cases h2 : X.take 2 = [47, 47]
    · have hd : (Sx.addLn rs sec X) = ((rs, sec), 0) := by unfold Sx.addLn; rw [if_pos (Or.inr h2)]
      have HD := hide hd
      have hpx := HPX.out
      rw [decide_eq_true h2] at hpx
      have HP := hide hpx
      clear hsx hd h1 h2 hpx
      go_enter Tryz.func131, Tryz.ntmps131
      go_wp2_with fail
      refine HP.out.mono ?_
      rintro e w1 ⟨rfl, rfl⟩
      go_wp2
      go_ret
      rw [HD.out]
      exact ⟨rfl, Below.refl _ _, HR.out⟩
    · have hpx := HPX.out
      rw [decide_eq_false h2] at hpx
      have HP := hide hpx
      have hno : ¬ (X = [] ∨ X.take 2 = [47, 47]) := fun h => h.elim h1 h2
      clear hpx HPX
      by_cases h3 : X = [61, 61, 61, 105]
      · have hd : (Sx.addLn rs sec X) = ((rs, 105), 0) := by unfold Sx.addLn; rw [if_neg hno, if_pos h3]
        have HD := hide hd
        have hb1 : (s.toList == [61, 61, 61, 105]) = true := by rw [hsx, h3]; rfl
        clear hsx hd h1 h2 hno h3
        go_enter Tryz.func131, Tryz.ntmps131
        go_wp2_with fail
        refine HP.out.mono ?_
        rintro e w1 ⟨rfl, rfl⟩
        go_wp2
        go_ret
        rw [HD.out]
        exact ⟨rfl, (Below.refl _ _).setCell (p := ⟨b, 1, none⟩) (Nat.le_refl _) _, HR.out.sets 105⟩
      · have hb1 : (s.toList == [61, 61, 61, 105]) = false := by rw [hsx, beq_eq_false_iff_ne]; exact h3
        by_cases h4 : X = [61, 61, 61, 112]
        · have hd : (Sx.addLn rs sec X) = ((rs, 112), 0) := by unfold Sx.addLn; rw [if_neg hno, if_neg h3, if_pos h4]
          have HD := hide hd
          have hb2 : (s.toList == [61, 61, 61, 112]) = true := by rw [hsx, h4]; rfl
          clear hsx hd h1 h2 hno h3 h4
          go_enter Tryz.func131, Tryz.ntmps131
          go_wp2_with fail
          refine HP.out.mono ?_
          rintro e w1 ⟨rfl, rfl⟩
          go_wp2
          go_ret
          rw [HD.out]
          exact ⟨rfl, (Below.refl _ _).setCell (p := ⟨b, 1, none⟩) (Nat.le_refl _) _, HR.out.sets 112⟩
        · have hb2 : (s.toList == [61, 61, 61, 112]) = false := by rw [hsx, beq_eq_false_iff_ne]; exact h4
          have hd : (Sx.addLn rs sec X) = (match Sx.readRl X sec with
            | none => ((rs, sec), 3)
            | some r => (((addRl rs r).1, sec), (addRl rs r).2)) := by
            unfold Sx.addLn
            rw [if_neg hno, if_neg h3, if_neg h4]
            cases Sx.readRl X sec with
            | none => rfl
            | some r =>
              simp only
              unfold addRl
              split
              · rfl
              · split <;> rfl
          have HD := hide hd
          clear hsx hd h1 h2 hno h3 h4
          obtain ⟨R, hR⟩ : ∃ R, Sx.readRl X sec = R := ⟨_, rfl⟩
          rw [hR] at HD HRL
          clear hR
          go_enter Tryz.func131, Tryz.ntmps131
          go_wp2_with fail
          refine HP.out.mono ?_
          rintro e w1 ⟨rfl, rfl⟩
          go_wp2_with fail
          refine (HRL.out _ hw).mono ?_
          rintro e w2 ⟨hB2, hr⟩
          have hs2 := hB2.size
          cases R with
          | none =>
            replace hr : e = .returned (.tuple #[.agg #[.int .u8 0, .string ⟨#[]⟩, .int .i64 0, .int .u8 0], .bool false]) := hr
            subst hr
            go_wp2
            go_ret
            rw [HD.out]
            have hB3 : ∀ o, Below w1.heap.size w1 (w2.alloc o) := fun o => hB2.alloc hs2 o
            exact ⟨rfl, (hB3 _).mono (by omega), HR.out.below (hB3 _)⟩
          | some r =>
            obtain ⟨h, k, sc⟩ := r
            replace hr : e = .returned (.tuple #[.agg #[.int .u8 k.toNat, .string ⟨(Sx.dotted h).toArray⟩, .int .i64 h.length, .int .u8 sc.toNat], .bool true]) := hr
            subst hr
            have hB3 : ∀ o, Below w1.heap.size w1 (w2.alloc o).drew := fun o => (hB2.alloc hs2 o).drew
            have HAD : Hid (∀ o, Calls Tryz.prog 143 #[.pointer (some ⟨b, 0, none⟩), .agg #[.int .u8 k.toNat, .string ⟨(Sx.dotted h).toArray⟩, .int .i64 h.length, .int .u8 sc.toNat]] (w2.alloc o).drew fun e w' => e = .returned (.int .i64 (addRl rs (h, k, sc)).2) ∧ Below b w1 w' ∧ RdrAt w' b (addRl rs (h, k, sc)).1 sec n err) := hide (fun o => by
              obtain ⟨rv, g1, g2⟩ := HR.out.below (hB3 o)
              refine (prsadd b _ _ rs (h, k, sc) rv (w2.alloc o).drew g1 rfl g2 hn).mono ?_
              rintro e w' ⟨a1, a2, rv', a3, a4⟩
              exact ⟨a1, ((hB3 o).mono (by omega)).trans a2, rv', a3, a4⟩)
            obtain ⟨D, hD⟩ : ∃ D : ByteArray, ⟨(Sx.dotted h).toArray⟩ = D := ⟨_, rfl⟩
            obtain ⟨N, hN⟩ : ∃ N, h.length = N := ⟨_, rfl⟩
            rw [hD, hN] at HAD ⊢
            clear hD hN hB3 hB2 HRL
            obtain ⟨A, hA⟩ : ∃ A, addRl rs (h, k, sc) = A := ⟨_, rfl⟩
            have HD2 : Hid (Sx.addLn rs sec X = ((A.1, sec), A.2)) := hide (by rw [HD.out, ← hA])
            rw [hA] at HAD
            clear hA HD
            go_wp2_with fail
            go_region_with (go_at_call 143; refine (HAD.out _).mono ?_; rintro e w3 ⟨rfl, hB3, hr3⟩)
            all_goals
              go_wp2
              go_ret
              rw [HD2.out]
              exact ⟨rfl, hB3, hr3⟩
/-- One line more: what is left of it. -/
def takeR (rs : List Sx.Rl) (sec : UInt8) (n : Int) (X : List UInt8) (W : World) (b : Nat) : Prop :=
  if (Sx.addLn rs sec X).2 = 0 then RdrAt W b (Sx.addLn rs sec X).1.1 (Sx.addLn rs sec X).1.2 (n + 1) 0 else ∃ sec', RdrAt W b (Sx.addLn rs sec X).1.1 sec' n (Sx.addLn rs sec X).2
set_option maxRecDepth 100000 in
set_option maxHeartbeats 1000000 in
/-- (*suffix.reader).take -/
theorem ptake (b : Nat) (rs : List Sx.Rl) (sec : UInt8) (n err : Int) (s : ByteArray) (w : World) (hw : LWt w) (hr : RdrAt w b rs sec n err) (hn : rs.length ≤ 30) (hn0 : 0 ≤ n) (hn1 : n ≤ 1000000000) :
    Calls Tryz.prog 76 #[.pointer (some ⟨b, 0, none⟩), .string s] w fun e w' => e = .returned (.bool (decide ((Sx.addLn rs sec s.data.toList).2 = 0))) ∧ Below b w w' ∧ takeR rs sec n s.data.toList w' b := by
  have HA := hide (paln b rs sec n err s w hw hr hn)
  unfold takeR
  obtain ⟨A, hA⟩ : ∃ A, Sx.addLn rs sec s.data.toList = A := ⟨_, rfl⟩
  rw [hA] at HA ⊢
  clear hA hr hw
  obtain ⟨⟨rs', sec'⟩, err'⟩ := A
  dsimp only at HA ⊢
  go_enter Tryz.func76, Tryz.ntmps76
  go_wp2_with fail
  refine HA.out.mono ?_
  rintro e w1 ⟨rfl, hB1, hr1⟩
  obtain ⟨q1, q2, q3, f1, f2, f3⟩ := hr1.cells
  have hr2 := hr1.sete err'
  obtain ⟨p1, p2, p3, g1, g2, g3⟩ := hr2.cells
  have HB1 := hide hB1
  have HR2 := hide hr2
  clear hB1 hr1 hr2
  by_cases h0 : err' = 0
  · subst h0
    go_wp2
    go_ret
    exact ⟨rfl, (HB1.out.setCell (p := ⟨b, 3, none⟩) (Nat.le_refl _) _).setCell (p := ⟨b, 2, none⟩) (Nat.le_refl _) _, HR2.out.setn (n + 1)⟩
  · have hb0 : (err' != 0) = true := by simpa using h0
    go_wp2
    go_ret
    exact ⟨rfl, HB1.out.setCell (p := ⟨b, 3, none⟩) (Nat.le_refl _) _, sec', HR2.out⟩
end Go.Proofs.YtgohllfpceeboaaGreatDoor
