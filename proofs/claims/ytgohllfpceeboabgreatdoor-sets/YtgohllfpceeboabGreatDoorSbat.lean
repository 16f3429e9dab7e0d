import Derived.Test.YtgohllfpceeboabGreatDoorSbaa
import Derived.Test.YtgohllfpceeboabGreatDoorSbac
import Derived.Test.YtgohllfpceeboabGreatDoorSbaq
import Derived.Test.YtgohllfpceeboabGreatDoorSbar
import Derived.Test.YtgohllfpceeboabGreatDoorSbas
import Derived.Test.YtgohllfpceeboabGreatDoorProg
import Derived.Test.YtgohllfpceeboabGreatDoorSbah
import Derived.Test.YtgohllfpceeboabGreatDoorSbak
import Derived.Test.YtgohllfpceeboabGreatDoorSbal
import Derived.Test.YtgohllfpceeboabGreatDoorSbab
import Derived.Deep.RegionLaw
namespace Go.Proofs.YtgohllfpceeboabGreatDoor
open Go.RowKit
theorem Tryz.info82 : (Tryz.prog.info? 82).map (fun i => (i.zero, i.size, i.bytes)) = some (some (.agg #[.int .u8 0, .string ⟨#[]⟩, .int .i64 0, .int .u8 0]), 4, 40) := by kernel_rfl
/-- Rules as cells. -/
def prC (r : Sx.Rl) : List Value := [.int .u8 r.2.1.toNat, .string ⟨(Sx.dotted r.1).toArray⟩, .int .i64 r.1.length, .int .u8 r.2.2.toNat]
def prV (rs : List Sx.Rl) : List Value := rs.flatMap prC
theorem prV_app (a b : List Sx.Rl) : prV (a ++ b) = prV a ++ prV b := by simp [prV]
theorem prV_get : ∀ (l : List Sx.Rl) (j : Nat) (h : j < l.length), (prV l)[j * 4]? = some (.int .u8 l[j].2.1.toNat) ∧ (prV l)[j * 4 + 1]? = some (.string ⟨(Sx.dotted l[j].1).toArray⟩) ∧ (prV l)[j * 4 + 2]? = some (.int .i64 l[j].1.length) ∧ (prV l)[j * 4 + 3]? = some (.int .u8 l[j].2.2.toNat) := by
  intro l
  induction l with
  | nil => intro j h; exact absurd h (Nat.not_lt_zero _)
  | cons x r ih =>
    intro j h
    have e : prV (x :: r) = Value.int .u8 x.2.1.toNat :: Value.string ⟨(Sx.dotted x.1).toArray⟩ :: Value.int .i64 x.1.length :: Value.int .u8 x.2.2.toNat :: prV r := rfl
    cases j with
    | zero => rw [e]; exact ⟨rfl, rfl, rfl, rfl⟩
    | succ j =>
      have := ih j (by simpa using h)
      rw [e, show (j + 1) * 4 = j * 4 + 1 + 1 + 1 + 1 from by omega]
      simpa using this
/-- Rules that lie in a row. -/
def PrAt (W : World) (v : Value) (rs : List Sx.Rl) : Prop := ∃ p cap, v = .slice p rs.length cap ∧ ∀ j (h : j < rs.length), ∃ b, p = some ⟨b, 0, none⟩ ∧ b < W.heap.size ∧ W.cell? ⟨b, j * 4, none⟩ = some (.int .u8 rs[j].2.1.toNat) ∧ W.cell? ⟨b, j * 4 + 1, none⟩ = some (.string ⟨(Sx.dotted rs[j].1).toArray⟩) ∧ W.cell? ⟨b, j * 4 + 2, none⟩ = some (.int .i64 rs[j].1.length) ∧ W.cell? ⟨b, j * 4 + 3, none⟩ = some (.int .u8 rs[j].2.2.toNat)
theorem prAt_own {W : World} {B : Nat} {v : Value} {rs : List Sx.Rl} (h : W.ownsRow B 82 4 v rs.length (prV rs)) : PrAt W v rs := by
  obtain ⟨p, cap, hv⟩ := own_shapeK h
  refine ⟨p, cap, hv, fun j hj => ?_⟩
  rcases h.2 with ⟨e1, e2⟩ | ⟨g, cap, cur, e1, e2, e3, e4⟩
  · omega
  · have hp : p = some ⟨g, 0, none⟩ := by rw [hv] at e1; injection e1
    obtain ⟨a1, a2, a3, a4⟩ := prV_get rs j hj
    have c1 := h.cells (g := g) (by rw [e1]; rfl) _ _ a1
    have c2 := h.cells (g := g) (by rw [e1]; rfl) _ _ a2
    have c3 := h.cells (g := g) (by rw [e1]; rfl) _ _ a3
    have c4 := h.cells (g := g) (by rw [e1]; rfl) _ _ a4
    rw [Addr.add_lit, Nat.zero_add] at c1 c2 c3 c4
    exact ⟨g, hp, (Array.getElem?_eq_some_iff.1 e3).1, c1, c2, c3, c4⟩
theorem PrAt.below {W W' : World} {v : Value} {rs : List Sx.Rl} (h : PrAt W v rs) (hb : Below W.heap.size W W') : PrAt W' v rs := by
  obtain ⟨p, cap, h1, h2⟩ := h
  refine ⟨p, cap, h1, fun j hj => ?_⟩
  obtain ⟨b, e1, e2, c1, c2, c3, c4⟩ := h2 j hj
  exact ⟨b, e1, Nat.lt_of_lt_of_le e2 hb.size, (hb.cell (p := ⟨b, j * 4, none⟩) e2).trans c1, (hb.cell (p := ⟨b, j * 4 + 1, none⟩) e2).trans c2, (hb.cell (p := ⟨b, j * 4 + 2, none⟩) e2).trans c3, (hb.cell (p := ⟨b, j * 4 + 3, none⟩) e2).trans c4⟩
def knB (r q : Sx.Rl) : Bool := decide (Sx.dotted q.1 = Sx.dotted r.1) && decide (q.2.1 = r.2.1)
set_option maxRecDepth 100000 in
set_option maxHeartbeats 1000000 in
/-- (suffix.rule).isKnownAs -/
theorem pknw (r q : Sx.Rl) (w : World) : Calls Tryz.prog 146 #[ruA r, ruA q] w fun e w' => e = .returned (.bool (knB r q)) ∧ Below w.heap.size w w' := by
  obtain ⟨h, k, sc⟩ := r
  obtain ⟨h2, k2, sc2⟩ := q
  unfold ruA knB
  dsimp only
  generalize h.length = N1
  generalize h2.length = N2
  generalize Sx.dotted h = D1
  generalize Sx.dotted h2 = D2
  have hB : ∀ o o2 : Obj, Below w.heap.size w ((w.alloc o).alloc o2) := fun o o2 => ((Below.refl _ _).alloc (Nat.le_refl _) _).alloc (by rw [World.size_alloc]; exact Nat.le_succ _) _
  have HB := hide hB
  clear hB
  by_cases hk : k = k2
  · subst hk
    have hd : (decide (D2 = D1) && decide (k = k)) = ((⟨D1.toArray⟩ : ByteArray).toList == (⟨D2.toArray⟩ : ByteArray).toList) := by
      rw [ByteArray.toList_eq, ByteArray.toList_eq]
      by_cases h : D2 = D1
      · simp [h]
      · simp [h, Ne.symm h]
    rw [hd]
    clear hd
    go_enter Tryz.func146, Tryz.ntmps146
    go_wp2_with fail
    go_ret
    exact ⟨by first | rfl | simp, HB.out _ _⟩
  · have hkb : ((k.toNat : Int) == (k2.toNat : Int)) = false := by
      rw [beq_eq_false_iff_ne]
      intro e
      exact hk (UInt8.toNat_inj.1 (by omega))
    have hkn : ¬ (k.toNat : Int) = (k2.toNat : Int) := by simpa using hkb
    have hd : (decide (D2 = D1) && decide (k2 = k)) = false := by simp [Ne.symm hk]
    rw [hd]
    clear hd
    go_enter Tryz.func146, Tryz.ntmps146
    go_wp2_with fail
    go_ret
    exact ⟨rfl, HB.out _ _⟩
set_option maxRecDepth 100000 in
set_option maxHeartbeats 1000000 in
/-- slices.IndexFunc of rules, by isKnownAs -/
theorem pidx (rs : List Sx.Rl) (r : Sx.Rl) (v : Value) (w : World) (hv : PrAt w v rs) (hn : rs.length ≤ 1000) : Calls Tryz.prog 200 #[v, .func (.func 146) #[ruA r] #[]] w fun e w' => Below w.heap.size w w' ∧ ∃ i : Int, e = .returned (.int .i64 i) ∧ decide (0 ≤ i) = Sx.known rs r := by
  obtain ⟨p, cap, rfl, hrd⟩ := hv
  have HRD := hide hrd
  have hK : ∀ q : Sx.Rl, ∀ w, Calls Tryz.prog 146 #[ruA r, .agg #[.int .u8 q.2.1.toNat, .string ⟨(Sx.dotted q.1).toArray⟩, .int .i64 q.1.length, .int .u8 q.2.2.toNat]] w fun e w' => e = .returned (.bool (knB r q)) ∧ Below w.heap.size w w' := fun q w => pknw r q w
  have HK := hide hK
  clear hrd hK
  obtain ⟨A, hA⟩ : ∃ A, ruA r = A := ⟨_, rfl⟩
  rw [hA] at HK ⊢
  clear hA
  go_enter Tryz.func200, Tryz.ntmps200
  go_wp2
  go_loopw [8] (fun i wr => ∃ k : Nat, i = .int .i64 k ∧ k ≤ rs.length ∧ Sx.known (rs.take k) r = false ∧ Below w.heap.size w wr) (fun i _ => (rs.length - intOf i).toNat)
  case atStart => exact ⟨0, rfl, by omega, rfl, Below.refl _ _⟩
  case round =>
    obtain ⟨k, rfl, hk, hkn, hB⟩ := hrel
    have hsz := hB.size
    by_cases hlt : k < rs.length
    · obtain ⟨b, rfl, hb, c1, c2, c3, c4⟩ := HRD.out k hlt
      have d1 := (hB.cell (p := ⟨b, k * 4, none⟩) hb).trans c1
      have d2 := (hB.cell (p := ⟨b, k * 4 + 1, none⟩) hb).trans c2
      have d3 := (hB.cell (p := ⟨b, k * 4 + 2, none⟩) hb).trans c3
      have d4 := (hB.cell (p := ⟨b, k * 4 + 3, none⟩) hb).trans c4
      have hst : Sx.known (rs.take (k + 1)) r = knB r rs[k] := by
        unfold Sx.known at hkn ⊢
        rw [List.take_succ_eq_append_getElem hlt, List.any_append, hkn]
        simp [knB]
      have hin : knB r rs[k] = true → Sx.known rs r = true := fun h => by
        unfold Sx.known
        rw [List.any_eq_true]
        exact ⟨rs[k], List.getElem_mem hlt, h⟩
      have hc := HK.out rs[k]
      obtain ⟨⟨qh, qk, qs⟩, hq⟩ : ∃ q, rs[k] = q := ⟨_, rfl⟩
      rw [hq] at d1 d2 d3 d4 hst hin hc
      dsimp only at d1 d2 d3 d4 hc
      obtain ⟨D, hD⟩ : ∃ D : ByteArray, ⟨(Sx.dotted qh).toArray⟩ = D := ⟨_, rfl⟩
      obtain ⟨N, hN⟩ : ∃ N, qh.length = N := ⟨_, rfl⟩
      rw [hD] at d2 hc
      rw [hN] at d3 hc
      obtain ⟨B, hB0⟩ : ∃ B, knB r (qh, qk, qs) = B := ⟨_, rfl⟩
      rw [hB0] at hst hin hc
      have HST := hide hst
      have HIN := hide hin
      have HC := hide hc
      clear c1 c2 c3 c4 hst hin hc hD hN hB0 hq hkn
      have hBv : B = true ∨ B = false := by cases B <;> simp
      rcases hBv with rfl | rfl
      · go_wp2_with fail
        refine (HC.out _).mono ?_
        rintro e w2 ⟨rfl, hB2⟩
        have hBe := hB.trans (hB2.mono hsz)
        clear hB2
        go_wp2
        go_ret
        exact ⟨hBe, k, rfl, by rw [HIN.out trivial]; simp⟩
      · go_wp2_with fail
        refine (HC.out _).mono ?_
        rintro e w2 ⟨rfl, hB2⟩
        have hBe := hB.trans (hB2.mono hsz)
        clear hB2
        go_wp2
        exact ⟨⟨k + 1, by go_num, by omega, HST.out, hBe⟩, by simp [intOf]; omega⟩
    · have hkl : k = rs.length := by omega
      subst hkl
      rw [List.take_length] at hkn
      have HKN := hide hkn
      clear hkn hlt hk
      go_wp2
      go_ret
      exact ⟨hB, -1, rfl, by rw [HKN.out]; rfl⟩
/-- slices.ContainsFunc of rules, by isKnownAs -/
theorem pcont (rs : List Sx.Rl) (r : Sx.Rl) (v : Value) (w : World) (hv : PrAt w v rs) (hn : rs.length ≤ 1000) : Calls Tryz.prog 145 #[v, .func (.func 146) #[ruA r] #[]] w fun e w' => e = .returned (.bool (Sx.known rs r)) ∧ Below w.heap.size w w' := by
  have HI := hide (pidx rs r v w hv hn)
  obtain ⟨p, cap, rfl, _⟩ := hv
  obtain ⟨A, hA⟩ : ∃ A, ruA r = A := ⟨_, rfl⟩
  rw [hA] at HI ⊢
  clear hA
  obtain ⟨KN, hKN⟩ : ∃ KN, Sx.known rs r = KN := ⟨_, rfl⟩
  rw [hKN] at HI ⊢
  clear hKN
  go_enter Tryz.func145, Tryz.ntmps145
  go_wp2_with fail
  refine HI.out.mono ?_
  rintro e w1 ⟨hB, i, rfl, hi⟩
  go_wp2
  go_ret
  exact ⟨ret_bool (by rw [← hi]), hB⟩
/-- One rule more. -/
def addRl (rs : List Sx.Rl) (r : Sx.Rl) : List Sx.Rl × Int := if Sx.known rs r then (rs, 4) else if rs.length = 30 then (rs, 5) else (rs ++ [r], 0)
theorem add_held {w w1 : World} {b : Nat} {v x y z u : Value} {t : TypeId} (hc : (w.alloc (.cells #[x, y, z, u] t)).cell? ⟨b, 0, none⟩ = some v) (hb : b < w.heap.size) (hB : Below (w.alloc (.cells #[x, y, z, u] t)).drew.heap.size (w.alloc (.cells #[x, y, z, u] t)).drew w1) :
    w1.cell? ⟨b, 0, none⟩ = some v ∧ (w1.cell? ⟨w.heap.size, 0, none⟩ = some x ∧ w1.cell? ⟨w.heap.size, 1, none⟩ = some y) ∧ (w1.cell? ⟨w.heap.size, 2, none⟩ = some z ∧ w1.cell? ⟨w.heap.size, 3, none⟩ = some u) := by
  have hlt : w.heap.size < (w.alloc (.cells #[x, y, z, u] t)).drew.heap.size := by show _ < (w.alloc _).heap.size; rw [World.size_alloc]; omega
  have h1 := (hB.block w.heap.size hlt).trans (heap_alloc_new w (.cells #[x, y, z, u] t))
  obtain ⟨⟨q0, q1, q2, q3⟩, _⟩ := box4 h1
  exact ⟨(hB.cell (p := ⟨b, 0, none⟩) (Nat.lt_trans hb hlt)).trans hc, ⟨q0, q1⟩, q2, q3⟩
theorem cell4_at (w : World) (x y z u : Value) (t : TypeId) (n : Nat) (hn : w.heap.size = n) : ∀ (j : Nat) (v : Value), [x, y, z, u][j]? = some v → (w.alloc (.cells #[x, y, z, u] t)).cell? ((⟨n, 0, none⟩ : Addr).add j) = some v := by
  subst hn
  intro j v hj
  rw [Addr.add_lit, Nat.zero_add, World.cell?_alloc_mark]
  simpa using hj
theorem own_drewP {w : World} {B n sz : Nat} {e : TypeId} {v : Value} {xs : List Value} (h : w.ownsRow B e sz v n xs) : w.drew.ownsRow B e sz v n xs := h
theorem cell4_drew (w : World) (x y z u : Value) (t : TypeId) : ∀ (j : Nat) (v : Value), [x, y, z, u][j]? = some v → (w.alloc (.cells #[x, y, z, u] t)).drew.cell? ((⟨w.heap.size, 0, none⟩ : Addr).add j) = some v := cell4_at w x y z u t _ rfl
set_option maxRecDepth 100000 in
set_option maxHeartbeats 1000000 in
/-- (*suffix.ruleSet).add -/
theorem prsadd (b : Nat) (cs : Array Value) (T : TypeId) (rs : List Sx.Rl) (r : Sx.Rl) (rv : Value) (w : World) (hbox : w.heap[b]? = some (.cells cs T (0, 0))) (hc0 : cs[0]? = some rv) (hrow : w.ownsRow (b + 1) 82 4 rv rs.length (prV rs)) (hn : rs.length ≤ 30) :
    Calls Tryz.prog 99 #[.pointer (some ⟨b, 0, none⟩), ruA r] w fun e w' => e = .returned (.int .i64 (addRl rs r).2) ∧ Below b w w' ∧ ∃ rv', w'.heap[b]? = some (.cells (cs.setIfInBounds 0 rv') T (0, 0)) ∧ w'.ownsRow (b + 1) 82 4 rv' (addRl rs r).1.length (prV (addRl rs r).1) := by
  have hset : cs.setIfInBounds 0 rv = cs := by
    obtain ⟨h0, h1⟩ := Array.getElem?_eq_some_iff.1 hc0
    apply Array.ext
    · simp
    · intro i h2 h3
      rw [Array.getElem_setIfInBounds]
      split
      · rename_i e; subst e; exact h1.symm
      · rfl
  have hbl : b < w.heap.size := (Array.getElem?_eq_some_iff.1 hbox).1
  have hB0 : Below w.heap.size w (w.alloc (.cells (prC r).toArray 82)).drew := ((Below.refl _ _).alloc (Nat.le_refl _) _).drew
  have HC := hide (pcont rs r rv (w.alloc (.cells (prC r).toArray 82)).drew ((prAt_own hrow).below hB0) (by omega))
  have hcb : w.cell? ⟨b, 0, none⟩ = some rv := by simp [World.cell?, hbox, hc0]
  obtain ⟨vp, vc, rfl⟩ := own_shapeK hrow
  obtain ⟨rh, rk, rsc⟩ := r
  have hra : ruA (rh, rk, rsc) = .agg #[.int .u8 rk.toNat, .string ⟨(Sx.dotted rh).toArray⟩, .int .i64 rh.length, .int .u8 rsc.toNat] := rfl
  have hrc : (prC (rh, rk, rsc)).toArray = #[.int .u8 rk.toNat, .string ⟨(Sx.dotted rh).toArray⟩, .int .i64 rh.length, .int .u8 rsc.toNat] := rfl
  have hpv : prV [(rh, rk, rsc)] = [.int .u8 rk.toNat, .string ⟨(Sx.dotted rh).toArray⟩, .int .i64 rh.length, .int .u8 rsc.toNat] := rfl
  rw [hrc] at HC hB0
  rw [hra] at HC ⊢
  obtain ⟨KN, hKN⟩ : ∃ KN, Sx.known rs (rh, rk, rsc) = KN := ⟨_, rfl⟩
  rw [hKN] at HC
  obtain ⟨R, hR⟩ : ∃ R, (rh, rk, rsc) = R := ⟨_, rfl⟩
  have hA1 : KN = true → addRl rs R = (rs, 4) := fun h => by unfold addRl; rw [← hR, hKN, h]; rfl
  have hA2 : KN = false → rs.length = 30 → addRl rs R = (rs, 5) := fun h h2 => by unfold addRl; rw [← hR, hKN, h, if_neg (by simp), if_pos h2]
  have hA3 : KN = false → rs.length ≠ 30 → addRl rs R = (rs ++ [R], 0) := fun h h2 => by unfold addRl; rw [← hR, hKN, h, if_neg (by simp), if_neg h2]
  rw [hR] at hpv ⊢
  obtain ⟨D, hD⟩ : ∃ D : ByteArray, ⟨(Sx.dotted rh).toArray⟩ = D := ⟨_, rfl⟩
  obtain ⟨N, hN⟩ : ∃ N, rh.length = N := ⟨_, rfl⟩
  rw [hD, hN] at HC hB0 hpv ⊢
  have HA1 := hide hA1
  have HA2 := hide hA2
  have HA3 := hide hA3
  have HPV := hide hpv
  have HBX := hide hbox
  have HSET := hide hset
  have HROW := hide hrow
  have hcb1 : (w.alloc (.cells #[.int .u8 rk.toNat, .string D, .int .i64 N, .int .u8 rsc.toNat] 82)).cell? ⟨b, 0, none⟩ = some (.slice vp rs.length vc) := (World.cell?_of_block (heap_alloc_old _ _ hbl)).trans hcb
  clear hra hrc hpv hKN hR hA1 hA2 hA3 hD hN hset hbox hc0 hrow
  obtain ⟨M, hM⟩ : ∃ M, rs.length = M := ⟨_, rfl⟩
  rw [hM] at hcb hcb1 HC hn HROW HA2 HA3
  have HM := hide hM
  clear hM
  have HSET2 : Hid (cs.setIfInBounds 0 (.slice vp M vc) = cs) := hide (by rw [← HM.out]; exact HSET.out)
  clear HSET
  go_enter Tryz.func99, Tryz.ntmps99
  go_wp2_with fail
  go_region_held_law (fun w' => w'.cell? ⟨b, 0, none⟩ = some (.slice vp M vc) ∧ (w'.cell? ⟨w.heap.size, 0, none⟩ = some (.int .u8 rk.toNat) ∧ w'.cell? ⟨w.heap.size, 1, none⟩ = some (.string D)) ∧ (w'.cell? ⟨w.heap.size, 2, none⟩ = some (.int .i64 N) ∧ w'.cell? ⟨w.heap.size, 3, none⟩ = some (.int .u8 rsc.toNat))) (first | exact hS1 | go_keep) ((go_at_call 145; refine HC.out.mono ?_; rintro e w1 ⟨rfl, hB1⟩; have hS1 := add_held hcb1 hbl hB1))
  have hBw : Below w.heap.size w w1 := hB0.trans (hB1.mono hB0.size)
  have hbx1 : w1.heap[b]? = some (.cells cs T (0, 0)) := (hBw.block b hbl).trans HBX.out
  have hrow1 := own_later HROW.out hBw
  have hs1 := hBw.size
  have hfb1 : w1.frozen? ⟨b, 0, none⟩ = false := by simp [World.frozen?, hbx1]
  obtain ⟨e0, ⟨e1, e2⟩, e3, e4⟩ := hS1
  have HBW := hide hBw
  clear hB1 hB0 hBw HC hcb hcb1
  have hKv : KN = true ∨ KN = false := by cases KN <;> simp
  rcases hKv with rfl | rfl
  · go_wp2
    go_ret
    rw [HA1.out trivial]
    exact ⟨rfl, HBW.out.mono (by omega), _, by rw [HSET2.out]; exact hbx1, by rw [HM.out]; exact hrow1⟩
  · by_cases hM30 : M = 30
    · subst hM30
      go_wp2
      go_ret
      rw [HA2.out trivial trivial]
      exact ⟨rfl, HBW.out.mono (by omega), _, by rw [HSET2.out]; exact hbx1, by rw [HM.out]; exact hrow1⟩
    · have hne1 : ((M : Int) == 30) = false := by simp; omega
      have hne2 : ¬ (M : Int) = 30 := by omega
      obtain ⟨i0, hi, hz0, hz1, hz2⟩ := info_parts Tryz.info82
      have hlow : ∀ g, (Value.slice vp M vc).ownBlock = some g → g < w.heap.size := fun g e => (HROW.out.lt g e).2
      have hlt1 : w.heap.size < w1.heap.size := by
        have := e1
        simp only [World.cell?] at this
        by_cases h : w.heap.size < w1.heap.size
        · exact h
        · rw [Array.getElem?_eq_none (by omega)] at this; cases this
      have hbne : w.heap.size ≠ b := by omega
      have hnb : some b ≠ (Value.slice vp M vc).ownBlock := fun e => by have := (HROW.out.lt b e.symm).1; omega
      have HFZ : Hid (∀ (o : Obj) (w8 : World), (w1.alloc o).drew.grownBy w8 (Value.slice vp M vc).ownBlock → w8.frozen? ⟨b, 0, none⟩ = false) := hide (fun o w8 hg => (hg.frozen_far ⟨b, 0, none⟩ (by show b < (w1.alloc o).heap.size; rw [World.size_alloc]; omega) hnb).trans ((World.frozen?_of_block (heap_alloc_old _ _ (show b < w1.heap.size by omega))).trans hfb1))
      have HCB : Hid (∀ (o : Obj) (w8 : World), (w1.alloc o).drew.grownBy w8 (Value.slice vp M vc).ownBlock → w8.cell? ⟨b, 0, none⟩ = some (.slice vp M vc)) := hide (fun o w8 hg => (hg.cell_far ⟨b, 0, none⟩ (by show b < (w1.alloc o).heap.size; rw [World.size_alloc]; omega) hnb).trans ((World.cell?_of_block (heap_alloc_old _ _ (show b < w1.heap.size by omega))).trans e0))
      go_wp2
      have hcA : ∀ o, (w1.alloc o).cell? ⟨b, 0, none⟩ = some (.slice vp M vc) := fun o => (World.cell?_of_block (heap_alloc_old _ _ (show b < w1.heap.size by omega))).trans e0
      go_region_law (refine step_append_lies _ rfl _ _ _ rfl (b + 1) 82 i0 (.agg #[.int .u8 0, .string ⟨#[]⟩, .int .i64 0, .int .u8 0]) 4 40 Tryz.underlying54 hi hz0 hz1 hz2 rfl (by decide) _ M (prV rs) rfl (own_drewP (hrow1.alloc _)) ⟨w1.heap.size, 0, none⟩ 1 1 [.int .u8 rk.toNat, .string D, .int .i64 N, .int .u8 rsc.toNat] rfl rfl (cell4_drew _ _ _ _ _ _) (by simp [Value.oneCell']) (by omega) (by unfold maxLen; omega) (by omega) (by simp; omega) _ rfl ?_; intro g8 cap8 w8 hown8 hgrow8 hat8 hlt8; have hfz8 : w8.frozen? ⟨b, 0, none⟩ = false := HFZ.out _ _ hgrow8; have hcb8 : w8.cell? ⟨b, 0, none⟩ = some (.slice vp M vc) := HCB.out _ _ hgrow8)
      all_goals
        go_wp2
        go_ret
        rw [HA3.out trivial hM30]
        have hlb : b < w1.heap.size := by omega
        have hBx : Below b w w8 := (((HBW.out.mono (by omega)).alloc (by omega) _).drew).grown hgrow8 (by show b ≤ (w1.alloc _).heap.size; rw [World.size_alloc]; omega) (fun r e => by have := (HROW.out.lt r e).1; omega)
        have hb8 : w8.heap[b]? = some (.cells cs T (0, 0)) := ((hgrow8.block b (by show b < (w1.alloc _).heap.size; rw [World.size_alloc]; omega) hnb).trans (heap_alloc_old _ _ hlb)).trans hbx1
        refine ⟨rfl, hBx.setCell (p := ⟨b, 0, none⟩) (Nat.le_refl _) _, .slice (some ⟨g8, 0, none⟩) (M + 1) cap8, ?_, ?_⟩
        · simp [World.setCell, Array.getElem?_modify, hb8]
        · have h9 := hown8.kept (grownBy_setCell' w8 b (.slice (some ⟨g8, 0, none⟩) (M + 1) cap8)) (.inr (fun e => by have := (hown8.lt b e).1; omega))
          rw [prV_app, HPV.out, List.length_append, List.length_singleton, HM.out]
          exact h9
end Go.Proofs.YtgohllfpceeboabGreatDoor
namespace Go.Proofs.YtgohllfpceeboabGreatDoor
open Go.RowKit
/-- A reader as it lies. -/
def RdrAt (W : World) (b : Nat) (rs : List Sx.Rl) (sec : UInt8) (n err : Int) : Prop := ∃ rv, W.heap[b]? = some (.cells #[rv, .int .u8 sec.toNat, .int .i64 n, .int .i64 err] 57 (0, 0)) ∧ W.ownsRow (b + 1) 82 4 rv rs.length (prV rs)
theorem RdrAt.below {W W' : World} {b : Nat} {rs : List Sx.Rl} {sec : UInt8} {n err : Int} (h : RdrAt W b rs sec n err) (hb : Below W.heap.size W W') : RdrAt W' b rs sec n err := by
  obtain ⟨rv, h1, h2⟩ := h
  exact ⟨rv, far_boxB hb h1, own_later h2 hb⟩
theorem RdrAt.lt {W : World} {b : Nat} {rs : List Sx.Rl} {sec : UInt8} {n err : Int} (h : RdrAt W b rs sec n err) : b < W.heap.size := by
  obtain ⟨rv, h1, h2⟩ := h
  exact (Array.getElem?_eq_some_iff.1 h1).1
theorem RdrAt.sets {W : World} {b : Nat} {rs : List Sx.Rl} {sec : UInt8} {n err : Int} (h : RdrAt W b rs sec n err) (sec' : UInt8) : RdrAt (W.setCell ⟨b, 1, none⟩ (.int .u8 sec'.toNat)) b rs sec' n err := by
  obtain ⟨rv, h1, h2⟩ := h
  exact ⟨rv, by simp [World.setCell, Array.getElem?_modify, h1], h2.kept (grown_setCell W b 1 _) (.inr (fun e => by have := (h2.lt b e).1; omega))⟩
theorem RdrAt.setn {W : World} {b : Nat} {rs : List Sx.Rl} {sec : UInt8} {n err : Int} (h : RdrAt W b rs sec n err) (n' : Int) : RdrAt (W.setCell ⟨b, 2, none⟩ (.int .i64 n')) b rs sec n' err := by
  obtain ⟨rv, h1, h2⟩ := h
  exact ⟨rv, by simp [World.setCell, Array.getElem?_modify, h1], h2.kept (grown_setCell W b 2 _) (.inr (fun e => by have := (h2.lt b e).1; omega))⟩
theorem RdrAt.sete {W : World} {b : Nat} {rs : List Sx.Rl} {sec : UInt8} {n err : Int} (h : RdrAt W b rs sec n err) (err' : Int) : RdrAt (W.setCell ⟨b, 3, none⟩ (.int .i64 err')) b rs sec n err' := by
  obtain ⟨rv, h1, h2⟩ := h
  exact ⟨rv, by simp [World.setCell, Array.getElem?_modify, h1], h2.kept (grown_setCell W b 3 _) (.inr (fun e => by have := (h2.lt b e).1; omega))⟩
theorem RdrAt.cells {W : World} {b : Nat} {rs : List Sx.Rl} {sec : UInt8} {n err : Int} (h : RdrAt W b rs sec n err) : W.cell? ⟨b, 1, none⟩ = some (.int .u8 sec.toNat) ∧ W.cell? ⟨b, 2, none⟩ = some (.int .i64 n) ∧ W.cell? ⟨b, 3, none⟩ = some (.int .i64 err) ∧ W.frozen? ⟨b, 1, none⟩ = false ∧ W.frozen? ⟨b, 2, none⟩ = false ∧ W.frozen? ⟨b, 3, none⟩ = false := by
  obtain ⟨rv, h1, h2⟩ := h
  obtain ⟨⟨q0, q1, q2, q3⟩, f0, f1, f2, f3⟩ := box4 h1
  exact ⟨q1, q2, q3, f1, f2, f3⟩
set_option maxRecDepth 100000 in
set_option maxHeartbeats 1000000 in
/-- (*suffix.reader).addLine -/
theorem paln (b : Nat) (rs : List Sx.Rl) (sec : UInt8) (n err : Int) (s : ByteArray) (w : World) (hw : LWt w) (hr : RdrAt w b rs sec n err) (hn : rs.length ≤ 30) :
    Calls Tryz.prog 76 #[.pointer (some ⟨b, 0, none⟩), .string s] w fun e w' => e = .returned (.int .i64 (Sx.addLn rs sec s.data.toList).2) ∧ Below b w w' ∧ RdrAt w' b (Sx.addLn rs sec s.data.toList).1.1 (Sx.addLn rs sec s.data.toList).1.2 n err := by
  obtain ⟨q1, q2, q3, f1, f2, f3⟩ := hr.cells
  have hlt := hr.lt
  have HR := hide hr
  have hpx := phas_any s ⟨#[47, 47]⟩ w
  rw [show (⟨#[47, 47]⟩ : ByteArray).data.toList = [47, 47] from rfl, prefixB_take] at hpx
  simp only [List.length_cons, List.length_nil, Nat.reduceAdd] at hpx
  clear hr
  have HPX := hide hpx
  obtain ⟨X, hX⟩ : ∃ X, s.data.toList = X := ⟨_, rfl⟩
  have hsx : s.toList = X := by rw [ByteArray.toList_eq, hX]
  have HRL := hide (fun w hw => prl s sec w hw)
  rw [hX] at HPX HRL ⊢
  have HX := hide hX
  clear hX hpx
  by_cases h1 : X = []
  · have hd : (Sx.addLn rs sec X) = ((rs, sec), 0) := by unfold Sx.addLn; rw [if_pos (Or.inl h1)]
    have HD := hide hd
    have he : s.toList.isEmpty = true := by rw [hsx, h1]; rfl
    clear hsx hd h1
    go_enter Tryz.func76, Tryz.ntmps76
    go_wp2_with fail
    go_ret
    rw [HD.out]
    exact ⟨rfl, Below.refl _ _, HR.out⟩
  · have he : s.toList.isEmpty = false := by
      rw [hsx]
      cases X with
      | nil => exact absurd rfl h1
      | cons _ _ => rfl
    by_cases h2 : X.take 2 = [47, 47]
    · have hd : (Sx.addLn rs sec X) = ((rs, sec), 0) := by unfold Sx.addLn; rw [if_pos (Or.inr h2)]
      have HD := hide hd
      have hpx := HPX.out
      rw [decide_eq_true h2] at hpx
      have HP := hide hpx
      clear hsx hd h1 h2 hpx
      go_enter Tryz.func76, Tryz.ntmps76
      go_wp2_with fail
      refine HP.out.mono ?_
      rintro e w1 ⟨rfl, rfl⟩
      go_wp2
      go_ret
      rw [HD.out]
      exact ⟨rfl, Below.refl _ _, HR.out⟩
    · have hpx := HPX.out
      rw [decide_eq_false h2] at hpx
      have HP := hide hpx
      have hno : ¬ (X = [] ∨ X.take 2 = [47, 47]) := fun h => h.elim h1 h2
      clear hpx HPX
      by_cases h3 : X = [61, 61, 61, 105]
      · have hd : (Sx.addLn rs sec X) = ((rs, 105), 0) := by unfold Sx.addLn; rw [if_neg hno, if_pos h3]
        have HD := hide hd
        have hb1 : (s.toList == [61, 61, 61, 105]) = true := by rw [hsx, h3]; rfl
        clear hsx hd h1 h2 hno h3
        go_enter Tryz.func76, Tryz.ntmps76
        go_wp2_with fail
        refine HP.out.mono ?_
        rintro e w1 ⟨rfl, rfl⟩
        go_wp2
        go_ret
        rw [HD.out]
        exact ⟨rfl, (Below.refl _ _).setCell (p := ⟨b, 1, none⟩) (Nat.le_refl _) _, HR.out.sets 105⟩
      · have hb1 : (s.toList == [61, 61, 61, 105]) = false := by rw [hsx, beq_eq_false_iff_ne]; exact h3
        by_cases h4 : X = [61, 61, 61, 112]
        · have hd : (Sx.addLn rs sec X) = ((rs, 112), 0) := by unfold Sx.addLn; rw [if_neg hno, if_neg h3, if_pos h4]
          have HD := hide hd
          have hb2 : (s.toList == [61, 61, 61, 112]) = true := by rw [hsx, h4]; rfl
          clear hsx hd h1 h2 hno h3 h4
          go_enter Tryz.func76, Tryz.ntmps76
          go_wp2_with fail
          refine HP.out.mono ?_
          rintro e w1 ⟨rfl, rfl⟩
          go_wp2
          go_ret
          rw [HD.out]
          exact ⟨rfl, (Below.refl _ _).setCell (p := ⟨b, 1, none⟩) (Nat.le_refl _) _, HR.out.sets 112⟩
        · have hb2 : (s.toList == [61, 61, 61, 112]) = false := by rw [hsx, beq_eq_false_iff_ne]; exact h4
          have hd : (Sx.addLn rs sec X) = (match Sx.readRl X sec with
            | none => ((rs, sec), 3)
            | some r => (((addRl rs r).1, sec), (addRl rs r).2)) := by
            unfold Sx.addLn
            rw [if_neg hno, if_neg h3, if_neg h4]
            cases Sx.readRl X sec with
            | none => rfl
            | some r =>
              simp only
              unfold addRl
              split
              · rfl
              · split <;> rfl
          have HD := hide hd
          clear hsx hd h1 h2 hno h3 h4
          obtain ⟨R, hR⟩ : ∃ R, Sx.readRl X sec = R := ⟨_, rfl⟩
          rw [hR] at HD HRL
          clear hR
          go_enter Tryz.func76, Tryz.ntmps76
          go_wp2_with fail
          refine HP.out.mono ?_
          rintro e w1 ⟨rfl, rfl⟩
          go_wp2_with fail
          refine (HRL.out _ hw).mono ?_
          rintro e w2 ⟨hB2, hr⟩
          have hs2 := hB2.size
          cases R with
          | none =>
            replace hr : e = .returned (.tuple #[.agg #[.int .u8 0, .string ⟨#[]⟩, .int .i64 0, .int .u8 0], .bool false]) := hr
            subst hr
            go_wp2
            go_ret
            rw [HD.out]
            have hB3 : ∀ o, Below w1.heap.size w1 (w2.alloc o) := fun o => hB2.alloc hs2 o
            exact ⟨rfl, (hB3 _).mono (by omega), HR.out.below (hB3 _)⟩
          | some r =>
            obtain ⟨h, k, sc⟩ := r
            replace hr : e = .returned (.tuple #[.agg #[.int .u8 k.toNat, .string ⟨(Sx.dotted h).toArray⟩, .int .i64 h.length, .int .u8 sc.toNat], .bool true]) := hr
            subst hr
            have hB3 : ∀ o, Below w1.heap.size w1 (w2.alloc o).drew := fun o => (hB2.alloc hs2 o).drew
            have HAD : Hid (∀ o, Calls Tryz.prog 99 #[.pointer (some ⟨b, 0, none⟩), .agg #[.int .u8 k.toNat, .string ⟨(Sx.dotted h).toArray⟩, .int .i64 h.length, .int .u8 sc.toNat]] (w2.alloc o).drew fun e w' => e = .returned (.int .i64 (addRl rs (h, k, sc)).2) ∧ Below b w1 w' ∧ RdrAt w' b (addRl rs (h, k, sc)).1 sec n err) := hide (fun o => by
              obtain ⟨rv, g1, g2⟩ := HR.out.below (hB3 o)
              refine (prsadd b _ _ rs (h, k, sc) rv (w2.alloc o).drew g1 rfl g2 hn).mono ?_
              rintro e w' ⟨a1, a2, rv', a3, a4⟩
              exact ⟨a1, ((hB3 o).mono (by omega)).trans a2, rv', a3, a4⟩)
            obtain ⟨D, hD⟩ : ∃ D : ByteArray, ⟨(Sx.dotted h).toArray⟩ = D := ⟨_, rfl⟩
            obtain ⟨N, hN⟩ : ∃ N, h.length = N := ⟨_, rfl⟩
            rw [hD, hN] at HAD ⊢
            clear hD hN hB3 hB2 HRL
            obtain ⟨A, hA⟩ : ∃ A, addRl rs (h, k, sc) = A := ⟨_, rfl⟩
            have HD2 : Hid (Sx.addLn rs sec X = ((A.1, sec), A.2)) := hide (by rw [HD.out, ← hA])
            rw [hA] at HAD
            clear hA HD
            go_wp2_with fail
            go_region_with (go_at_call 99; refine (HAD.out _).mono ?_; rintro e w3 ⟨rfl, hB3, hr3⟩)
            all_goals
              go_wp2
              go_ret
              rw [HD2.out]
              exact ⟨rfl, hB3, hr3⟩
/-- One line more: what is left of it. -/
def takeR (rs : List Sx.Rl) (sec : UInt8) (n : Int) (X : List UInt8) (W : World) (b : Nat) : Prop :=
  if (Sx.addLn rs sec X).2 = 0 then RdrAt W b (Sx.addLn rs sec X).1.1 (Sx.addLn rs sec X).1.2 (n + 1) 0 else ∃ sec', RdrAt W b (Sx.addLn rs sec X).1.1 sec' n (Sx.addLn rs sec X).2
set_option maxRecDepth 100000 in
set_option maxHeartbeats 1000000 in
/-- (*suffix.reader).take -/
theorem ptake (b : Nat) (rs : List Sx.Rl) (sec : UInt8) (n err : Int) (s : ByteArray) (w : World) (hw : LWt w) (hr : RdrAt w b rs sec n err) (hn : rs.length ≤ 30) (hn0 : 0 ≤ n) (hn1 : n ≤ 1000000000) :
    Calls Tryz.prog 49 #[.pointer (some ⟨b, 0, none⟩), .string s] w fun e w' => e = .returned (.bool (decide ((Sx.addLn rs sec s.data.toList).2 = 0))) ∧ Below b w w' ∧ takeR rs sec n s.data.toList w' b := by
  have HA := hide (paln b rs sec n err s w hw hr hn)
  unfold takeR
  obtain ⟨A, hA⟩ : ∃ A, Sx.addLn rs sec s.data.toList = A := ⟨_, rfl⟩
  rw [hA] at HA ⊢
  clear hA hr hw
  obtain ⟨⟨rs', sec'⟩, err'⟩ := A
  dsimp only at HA ⊢
  go_enter Tryz.func49, Tryz.ntmps49
  go_wp2_with fail
  refine HA.out.mono ?_
  rintro e w1 ⟨rfl, hB1, hr1⟩
  obtain ⟨q1, q2, q3, f1, f2, f3⟩ := hr1.cells
  have hr2 := hr1.sete err'
  obtain ⟨p1, p2, p3, g1, g2, g3⟩ := hr2.cells
  have HB1 := hide hB1
  have HR2 := hide hr2
  clear hB1 hr1 hr2
  by_cases h0 : err' = 0
  · subst h0
    go_wp2
    go_ret
    exact ⟨rfl, (HB1.out.setCell (p := ⟨b, 3, none⟩) (Nat.le_refl _) _).setCell (p := ⟨b, 2, none⟩) (Nat.le_refl _) _, HR2.out.setn (n + 1)⟩
  · have hb0 : (err' != 0) = true := by simpa using h0
    go_wp2
    go_ret
    exact ⟨rfl, HB1.out.setCell (p := ⟨b, 3, none⟩) (Nat.le_refl _) _, sec', HR2.out⟩
end Go.Proofs.YtgohllfpceeboabGreatDoor

namespace Go.Proofs.YtgohllfpceeboabGreatDoor
open Go.RowKit Go.Shelf
attribute [local go_sem] Oper.semAt_some
set_option maxRecDepth 100000 in
set_option maxHeartbeats 4000000 in
/-- (suffix.host).labels, whatever it is handed for yield -/
theorem plabs_anyL (n : Nat) (hn : 1 ≤ n) (l : Nat) (s : ByteArray) (hs : s.size ≤ 10000) (P : List (List UInt8)) (hP : P = pcs s.data.toList) (J : Nat → World → Prop) (Jx : World → Prop)
    (hY : ∀ k (h : k < P.length) W, J k W → YieldAt Fence.wide (n - 1) Tryz.prog l #[.string ⟨P[k].toArray⟩] W fun e W' => (e = .returned (.bool true) ∧ J (k + 1) W') ∨ (e = .returned (.bool false) ∧ Jx W'))
    (W : World) (h0 : J 0 W) :
    CallsIn Fence.wide n Tryz.prog 84 #[.string s, .func (.yield l) #[] #[]] W fun e W' => (∃ v, e = .returned v) ∧ (J P.length W' ∨ Jx W') := by
  refine callsIn_of_wp Tryz.func84 rfl trivial ?_ rfl
  simp only [Tryz.ntmps84, List.size_toArray, List.length_cons, List.length_nil, Nat.reduceAdd, Nat.reduceSub, Array.replicate_succ, Array.replicate_zero, List.push_toArray, List.append_toArray, List.nil_append, List.cons_append]
  have HP := hide hP
  have HY := hide hY
  clear hP hY
  gi_wp2
  gi_loopw [4] (fun rv wr => ∃ (R : ByteArray) (k : Nat), rv = .string R ∧ R.size ≤ 10000 ∧ k < P.length ∧ P.drop k = pcs R.data.toList ∧ J k wr) (fun rv _ => strLn rv)
  case atStart => exact ⟨s, 0, rfl, hs, by rw [HP.out]; unfold pcs; cases s.data.toList.length <;> simp [pcsF]; split <;> simp, by rw [List.drop_zero]; exact HP.out, h0⟩
  case round =>
    obtain ⟨R, k, rfl, hRz, hk, hd, hJ⟩ := hrel
    have hla := plast_any R 46 wr (by omega)
    have hbd := lastTo_bd R.data.toList 46 R.size
    have hde : dotAt R.data.toList = lastTo R.data.toList 46 R.size := by unfold dotAt; rw [ba_len]
    obtain ⟨dv, hdv⟩ : ∃ dv, lastTo R.data.toList 46 R.size = dv := ⟨_, rfl⟩
    rw [hdv] at hla hbd hde
    have hla2 : Calls Tryz.prog 129 #[.string R, .int .u8 46] wr fun e w' => e = .returned (.int .i64 dv) ∧ w' = wr := hla
    have HLA := hide hla2
    have HDE := hide hde
    have HD := hide hd
    clear hla hla2 hdv hde hd
    by_cases hneg : dv < 0
    · have hdm : dv = -1 := by omega
      subst hdm
      have hpl : pcs R.data.toList = [R.data.toList] := pcs_last _ (by rw [HDE.out]; omega)
      have hpk : P[k] = R.data.toList := by
        have := HD.out
        rw [hpl, List.drop_eq_getElem_cons hk] at this
        exact (List.cons.inj this).1
      have hkl : k + 1 = P.length := by
        have := congrArg List.length HD.out
        rw [hpl, List.length_drop] at this
        simp at this; omega
      obtain ⟨fn, tmps, assign, body, hy, hR⟩ := HY.out k hk wr hJ
      have hRR : (⟨P[k].toArray⟩ : ByteArray) = R := by rw [hpk]
      rw [hRR] at hy
      have HR := hide hR
      have HKL := hide hkl
      clear hR hRR hpk hpl hkl
      gi_wp2_with (refine ⟨trivial, ?_⟩; gi_at_call 129; refine (callsIn_wide.2 HLA.out).mono ?_; rintro e w' ⟨rfl, rfl⟩)
      refine HR.out.mono ?_
      rintro e W3 (⟨rfl, hJ3⟩ | ⟨rfl, hJx3⟩)
      · gi_wp2
        refine bodyPost_ret (results_none rfl _ _ _) rfl ?_
        exact ⟨⟨_, rfl⟩, .inl (by rw [← HKL.out]; exact hJ3)⟩
      · gi_wp2
        refine bodyPost_ret (results_none rfl _ _ _) rfl ?_
        exact ⟨⟨_, rfl⟩, .inr hJx3⟩
    · obtain ⟨d, hd1⟩ : ∃ d : Nat, dv = (d : Int) := ⟨dv.toNat, by omega⟩
      subst hd1
      have hdz : d < R.size := by omega
      have hpm := pcs_more R.data.toList (by rw [HDE.out]; exact hneg)
      rw [HDE.out] at hpm
      have hpk : P[k] = R.data.toList.drop (d + 1) := by
        have := HD.out
        rw [hpm, List.drop_eq_getElem_cons hk] at this
        exact (List.cons.inj this).1
      have hpr : P.drop (k + 1) = pcs (R.data.toList.take d) := by
        have := HD.out
        rw [hpm, List.drop_eq_getElem_cons hk] at this
        exact (List.cons.inj this).2
      have hkl : k + 1 < P.length := by
        have h1 := congrArg List.length hpr
        rw [List.length_drop] at h1
        have h2 : 0 < (pcs (R.data.toList.take d)).length := by
          unfold pcs
          cases (R.data.toList.take d).length with
          | zero => simp [pcsF]
          | succ m => simp only [pcsF]; split <;> simp
        omega
      obtain ⟨fn, tmps, assign, body, hy, hR⟩ := HY.out k hk wr hJ
      have hRR : (⟨P[k].toArray⟩ : ByteArray) = R.extract (d + 1) R.size := by
        rw [hpk]
        apply ByteArray.ext
        apply Array.toList_inj.1
        rw [ba_ext, ← ba_len, List.take_length]
      rw [hRR] at hy
      have hrl : (R.extract 0 d).data.toList = R.data.toList.take d := by rw [ba_ext, List.drop_zero]
      have hrz : (R.extract 0 d).size = d := by rw [← ba_len, hrl, List.length_take, ba_len]; omega
      have HR := hide hR
      have HPR := hide hpr
      have HRL := hide hrl
      have HRZ := hide hrz
      clear hR hRR hpk hpr hrl hrz hpm
      have e1 : (0 : Int) ≤ (d : Int) + 1 := by omega
      have e2 : (d : Int) + 1 ≤ (R.size : Int) := by omega
      have e3 : ((d : Int) + 1).toNat = d + 1 := by omega
      gi_wp2_with (refine ⟨trivial, ?_⟩; gi_at_call 129; refine (callsIn_wide.2 HLA.out).mono ?_; rintro e w' ⟨rfl, rfl⟩)
      refine HR.out.mono ?_
      rintro e W3 (⟨rfl, hJ3⟩ | ⟨rfl, hJx3⟩)
      · gi_wp2
        exact ⟨⟨_, k + 1, rfl, by rw [HRZ.out]; omega, hkl, by rw [HRL.out]; exact HPR.out, hJ3⟩, by show (R.extract 0 d).size < R.size; rw [HRZ.out]; exact hdz⟩
      · gi_wp2
        refine bodyPost_ret (results_none rfl _ _ _) rfl ?_
        exact ⟨⟨_, rfl⟩, .inr hJx3⟩
/-- 'for piece := range host(s).labels': the iterator is a method value. -/
theorem range_labsL {ps : Array Tmp} {assign body : Code} {Q : Exit → Act → World → Prop} {a : Act} {w : World} (n : Nat) (h1 : 1 ≤ n) (h2 : 1 ≤ n - 1) (s : ByteArray) (hs : s.size ≤ 10000) (g : Operand) (hg : a.eval g = .func (.func 84) #[.string s] #[])
    (P : List (List UInt8)) (hP : P = pcs s.data.toList) (hps : ps.size = 1) (I : Nat → World → Prop) (Ix : World → Prop) (hI : OwnFrom w.heap.size I) (hIx : OwnFrom w.heap.size (fun (_ : Unit) W => Ix W)) (h0 : I 0 w) (a₁ : ByteArray → Act)
    (hassign : ∀ (l : Nat) (x : ByteArray) (W : World) (K : Act → World → Prop), K (a₁ x) W →
      assign.wpIn (Fence.wide.inRound l) (n - 1 - 1) Tryz.prog (Exit.then K (fun _ _ _ => False)) { tmps := (ps.zip #[.string x]).foldl (fun t (p, v) => t.setIfInBounds p v) a.tmps, defers := [] } W)
    (hbody : ∀ (l k : Nat) (h : k < P.length) (W : World), I k W → body.wpIn (Fence.wide.inRound l) (n - 1 - 1) Tryz.prog (RndPost w.heap.size k I Ix W) (a₁ ⟨P[k].toArray⟩) W)
    (hdone : ∀ (D : Nat) (W : World), w.heap.size ≤ D → I P.length W → W.heap[D]? = some (.deferred (some [])) → Q .normal { a with defers := { target := .collected D, args := #[] } :: a.defers } W)
    (hstop : ∀ (D : Nat) (W : World), w.heap.size ≤ D → Ix W → W.heap[D]? = some (.deferred (some [])) → Code.ret.wpIn Fence.wide n Tryz.prog Q { a with defers := { target := .collected D, args := #[] } :: a.defers } W) :
    (Code.rangeFunc g ps assign body).wpIn Fence.wide n Tryz.prog Q a w := by
  refine wpIn_rangeFunc ?_
  intro fn hfn
  obtain ⟨rec, hrec⟩ : ∃ rec : LoopState → Option Code → Loop, rec = fun st pe => { state := st, pending := pe, fn := fn, tmps := a.tmps, params := ps, assign := assign, body := body, defers := w.heap.size } := ⟨_, rfl⟩
  obtain ⟨W1, hW1⟩ : ∃ W1, (w.alloc (.deferred (some []))).alloc (.loop (rec .ready none)) = W1 := ⟨_, rfl⟩
  have hl1 : W1.heap[w.heap.size + 1]? = some (.loop (rec .ready none)) := by
    have := World.alloc_heap_new (w.alloc (.deferred (some []))) (.loop (rec .ready none))
    rw [World.size_alloc, hW1] at this
    exact this
  have hd1 : W1.heap[w.heap.size]? = some (.deferred (some [])) := by
    rw [← hW1]
    exact (Below.heap_alloc _ _ _ (by rw [World.size_alloc]; exact Nat.lt_succ_self _)).trans (World.alloc_heap_new w _)
  have hI1 : I 0 W1 := by rw [← hW1]; exact hI.alloc _ (hI.alloc _ h0)
  have hIx' : ∀ {W : World} {l : Nat} {o : Obj} (o' : Obj), Ix W → w.heap.size ≤ l → W.heap[l]? = some o → o.isCells = false → Ix (W.putObj l o') := fun o' h hl ho hc => OwnFrom.putObj (s := ()) hIx o' h hl ho hc
  refine ⟨w.heap.size + 1, [{ target := .collected w.heap.size, args := #[] }], W1, { target := .fn (.func 84) #[], args := #[.string s, .func (.yield (w.heap.size + 1)) #[] #[]] }, W1, 84,
    #[.string s, .func (.yield (w.heap.size + 1)) #[] #[]], W1, ?_, ?_, fun _ _ => trivial, ?_, fun _ => h1, ?_⟩
  · rw [← hW1, hrec]; exact run_enterLoop_outer _ _ _ _ _
  · simp only [resolve, hg]
    simp [go_sem]
  · have eg : ∀ args w, (callFunc 84 args).run Tryz.prog w = .ok (.enter 84 args) w := enters_of Tryz.func84 (by kernel_rfl) rfl
    simp [invoke, go_sem, eg]
  · refine (plabs_anyL (n - 1) h2 (w.heap.size + 1) s hs P hP
      (fun k W => I k W ∧ W.heap[w.heap.size + 1]? = some (.loop (rec .ready none)) ∧ W.heap[w.heap.size]? = some (.deferred (some [])))
      (fun W => Ix W ∧ W.heap[w.heap.size + 1]? = some (.loop (rec .done (some .ret))) ∧ W.heap[w.heap.size]? = some (.deferred (some []))) ?_ W1 ⟨hI1, hl1, hd1⟩).mono ?_
    · rintro k hk W ⟨hi, hl, hd⟩
      have hlt : w.heap.size + 1 < W.heap.size := (Array.getElem?_eq_some_iff.1 hl).1
      have hy := run_yield (P := Tryz.prog) (args := #[.string ⟨P[k].toArray⟩]) hl (by rw [hrec]; exact hps.symm)
      rw [hrec] at hy
      refine ⟨fn, _, assign, body, hy, roundIn_of_wpIn hfn (hassign _ ⟨P[k].toArray⟩ W _ ⟨_, run_beginRound hl (by rw [hrec]), ?_⟩)⟩
      obtain ⟨V, hV⟩ : ∃ V, W.putObj (w.heap.size + 1) (.loop { rec .ready none with state := .busy }) = V := ⟨_, rfl⟩
      have hl2 : V.heap[w.heap.size + 1]? = some (.loop { rec .ready none with state := .busy }) := by rw [← hV]; exact World.putObj_heap_same hlt
      have hd2 : V.heap[w.heap.size]? = some (.deferred (some [])) := by rw [← hV]; exact (World.putObj_heap_other (by omega)).trans hd
      have hi2 : I k V := by rw [← hV]; exact hI.putObj _ hi (by omega) hl rfl
      have fin : ∀ (jump : Option Code) (W3 : World), KeepsFrom w.heap.size V W3 →
          (Instr.endRound (w.heap.size + 1) jump).run Tryz.prog W3 = .ok (.bool jump.isNone) (W3.putObj (w.heap.size + 1) (.loop (rec (if jump.isNone then .ready else .done) jump))) ∧
          W3.heap[w.heap.size + 1]? = some (.loop { rec .ready none with state := .busy }) ∧
          (W3.putObj (w.heap.size + 1) (.loop (rec (if jump.isNone then .ready else .done) jump))).heap[w.heap.size + 1]? = some (.loop (rec (if jump.isNone then .ready else .done) jump)) ∧
          (W3.putObj (w.heap.size + 1) (.loop (rec (if jump.isNone then .ready else .done) jump))).heap[w.heap.size]? = some (.deferred (some [])) := by
        intro jump W3 hk3
        have hl3 := hk3.same _ _ (by omega) hl2 rfl
        have hr3 := run_endRound (P := Tryz.prog) jump hl3
        rw [hrec] at hr3 ⊢
        rw [hrec] at hl3
        exact ⟨hr3, hl3, World.putObj_heap_same (Array.getElem?_eq_some_iff.1 hl3).1, (World.putObj_heap_other (by omega)).trans (hk3.same _ _ (Nat.le_refl _) hd2 rfl)⟩
      have hb := hbody (w.heap.size + 1) k hk V hi2
      rw [← hV] at hb
      refine wpIn_mono hb ?_
      rw [hV]
      rintro e a3 W3 hp
      cases e with
      | normal =>
        obtain ⟨hk3, hi3⟩ := hp
        obtain ⟨hr, hl3, hl4, hd4⟩ := fin none W3 hk3
        exact ⟨_, _, hr, .inl ⟨rfl, hI.putObj _ hi3 (by omega) hl3 rfl, hl4, hd4⟩⟩
      | ret =>
        obtain ⟨hk3, hi3⟩ := hp
        obtain ⟨hr, hl3, hl4, hd4⟩ := fin (some .ret) W3 hk3
        exact ⟨_, _, hr, .inr ⟨rfl, hIx' _ hi3 (by omega) hl3 rfl, hl4, hd4⟩⟩
      | exit id => exact hp.elim
      | goto t => exact hp.elim
      | panic ch => exact hp.elim
      | outgrown => exact hp.elim
    · rintro e W2 ⟨⟨v, rfl⟩, (⟨hi, hl, hd⟩ | ⟨hi, hl, hd⟩)⟩
      · refine ⟨none, _, by have := run_endLoop (P := Tryz.prog) hl (by rw [hrec]; simp); rw [hrec] at this; exact this, hdone _ _ (Nat.le_refl _) (hI.putObj _ hi (by omega) hl rfl) ((World.putObj_heap_other (by omega)).trans hd)⟩
      · refine ⟨some .ret, _, by have := run_endLoop (P := Tryz.prog) hl (by rw [hrec]; simp); rw [hrec] at this; exact this, hstop _ _ (Nat.le_refl _) (hIx' _ hi (by omega) hl rfl) ((World.putObj_heap_other (by omega)).trans hd)⟩
set_option maxRecDepth 100000 in
set_option maxHeartbeats 1000000 in
/-- slices.AppendSeq of a host's labels, upon nothing -/
theorem pseqL (s : ByteArray) (w : World) (P : List (List UInt8)) (hs : s.size ≤ 10000) (hP : P = pcs s.data.toList) :
    Calls Tryz.prog 173 #[.slice none 0 0, .func (.func 84) #[.string s] #[]] w fun e w' => ∃ v, e = .returned v ∧ w'.ownsRow w.heap.size 9 1 v P.length (stV P) ∧ Below w.heap.size w w' := by
  refine (callsIn_wide (n := 10)).1 ?_
  refine callsIn_of_wp_marks Tryz.func173 rfl trivial ?_ rfl
  simp only [Tryz.ntmps173, List.size_toArray, List.length_cons, List.length_nil, Nat.reduceAdd, Nat.reduceSub, Array.replicate_succ, Array.replicate_zero, List.push_toArray, List.append_toArray, List.nil_append, List.cons_append]
  obtain ⟨i0, hi, hz0, hz1, hz2⟩ := info_parts Tryz.info9
  have HP := hide hP
  have hB3 : Below w.heap.size w (w.alloc (.cells #[.slice none 0 0] 51)) := (Below.refl _ _).alloc (Nat.le_refl _) _
  have hy4 := Boxed.new w 51 (.slice none 0 0)
  have hsz3 : w.heap.size + 1 ≤ (w.alloc (.cells #[.slice none 0 0] 51)).heap.size := by rw [World.size_alloc]; exact Nat.le_refl _
  obtain ⟨b, hb⟩ : ∃ b, w.heap.size = b := ⟨_, rfl⟩
  obtain ⟨W3, hW3⟩ : ∃ W3, w.alloc (.cells #[.slice none 0 0] 51) = W3 := ⟨_, rfl⟩
  have HI0 : Hid (ColAt P w b 0 W3) := hide ⟨by omega, ⟨.slice none 0 0, by rw [← hW3, ← hb]; exact hy4, World.ownsRow_nil _ _ _ _⟩, by rw [← hW3]; exact hB3, by rw [← hW3, ← hb]; exact hsz3⟩
  have hw3 : w.heap.size ≤ W3.heap.size := by rw [← hW3]; exact hB3.size
  have HB := hide hb
  have HW3 := hide hW3
  clear hP hB3 hy4 hsz3 hb hW3
  gi_wp2
  rw [HW3.out, HB.out]
  refine range_labsL 10 (by omega) (by omega) s hs (.tmp 6) rfl P HP.out rfl (ColAt P w b) (fun _ => False) (ColAt.own hw3) (fun _ _ _ _ h => h.elim) HI0.out
    (fun x => { tmps := #[Value.slice none 0 0, Value.func (Fn.func 84) #[Value.string s] #[], Value.pointer (some ⟨b, 0, none⟩), undef, Value.slice none 0 0, .string x, Value.func (Fn.func 84) #[Value.string s] #[], .string x, undef, undef, undef, undef, undef], defers := [] }) ?assign ?body ?done ?stop
  case assign =>
    intro l x W K hK
    gi_wp2
    exact hK
  case body =>
    rintro l k hk W ⟨kP, ⟨v, bv, hown⟩, bel, siz⟩
    obtain ⟨vp, vc, rfl⟩ := own_shape hown
    have c4 := (Boxed.alloc bv (.cells #[.string ⟨P[k].toArray⟩] 9)).cell
    have hkl : k ≤ 1000000 := by have := pcs_len s.data.toList; rw [← HP.out, ba_len] at this; omega
    obtain ⟨X, hX⟩ : ∃ X : ByteArray, ⟨P[k].toArray⟩ = X := ⟨_, rfl⟩
    rw [hX] at c4 ⊢
    have d4 := bv.cell
    have hbw : w.heap.size ≤ b := by rw [HB.out]; exact Nat.le_refl _
    gi_wp2_with (gi_at_builtin; refine wpListIn_append_own _ rfl _ _ _ rfl (b + 1) 9 i0 (.string ⟨#[]⟩) 1 16 Tryz.underlying51 hi hz0 hz1 hz2 rfl (by decide) _ _ _ rfl (hown.alloc _) ⟨_, 0, none⟩ 1 1 [.string X] rfl rfl ?_ ?_ ?_ ?_ ?_ ?_)
    · exact cell_one_new _ _ _
    · simp [Value.oneCell']
    · unfold maxLen; omega
    · omega
    · rw [World.size_alloc]; omega
    · intro v' w8 hown8 hgrow8 _
      obtain ⟨g', cap', rfl⟩ := ownsRow_succ hown8
      have s4 : Boxed w8 b 51 (.slice vp k vc) := (bv.alloc _).kept hgrow8 (Boxed.not_row bv (by decide) hown)
      have f4 := s4.cell
      have f5 := s4.frozen
      gi_wp2
      have hKO8 : KeepsOthers W w8 := (KeepsOthers.alloc _ _).trans (KeepsOthers.of_grownBy hgrow8 (fun j o e ho => by
        rcases (hown.alloc (.cells #[.string X] 9)).2 with ⟨h1, _⟩ | ⟨g, cap, cur, h1, h2, h3, h4⟩
        · rw [h1] at e; cases e
        · rw [h1] at e
          cases e
          rw [h3] at ho
          cases ho
          rfl))
      have hBe8 : Below w.heap.size w w8 := (bel.alloc bel.size _).grown hgrow8 (by rw [World.size_alloc]; exact Nat.le_succ_of_le bel.size) (fun q e => by have := (hown.lt q e).1; omega)
      have htk : P.take (k + 1) = P.take k ++ [P[k]] := List.take_succ_eq_append_getElem hk
      refine ⟨(hKO8.trans (KeepsOthers.setCell _ _ _)).from _, ⟨hk, ⟨_, s4.set _, ?_⟩, hBe8.setCell (p := ⟨b, 0, none⟩) hbw _, ?_⟩⟩
      · rw [htk, stV_app]
        have e : stV [P[k]] = [.string X] := by unfold stV; rw [List.map_cons, List.map_nil, hX]
        rw [e]
        exact hown8.kept (grownBy_setCell' w8 b _) (.inr (fun e => by have := (hown8.lt b e).1; omega))
      · have h1 := hgrow8.size
        rw [World.size_alloc] at h1
        rw [World.size_setCell]
        omega
  case done =>
    rintro D W hD ⟨_, ⟨v, bv, hown⟩, bel, siz⟩ hK
    rw [List.take_length] at hown
    obtain ⟨vp, vc, rfl⟩ := own_shape hown
    have d4 := bv.cell
    gi_wp2
    refine ⟨by simp, .inl ⟨_, _, rfl, run_takeDeferred hK, ?_⟩⟩
    have hbw : w.heap.size ≤ b := by rw [HB.out]; exact Nat.le_refl _
    refine ⟨.slice vp P.length vc, by simp [results, Tryz.results173, go_sem], _, rfl, ?_, ?_⟩
    · refine own_low (hown.kept (grownBy_putObj' W D (.deferred none)) ?_) (by omega)
      rcases hown.2 with ⟨h1, _⟩ | ⟨g, cap, cur, h1, h2, h3, h4⟩
      · exact .inl (by rw [h1]; rfl)
      · refine .inr (fun e => ?_)
        rw [h1] at e
        cases e
        rw [h3] at hK
        cases hK
    · exact bel.grown (grownBy_putObj' W D (.deferred none)) bel.size (fun q e => by cases e; omega)
  case stop =>
    rintro D W hD h
    exact h.elim
/-- slices.Collect of a host's labels -/
theorem pcolL (s : ByteArray) (w : World) (P : List (List UInt8)) (hs : s.size ≤ 10000) (hP : P = pcs s.data.toList) :
    Calls Tryz.prog 122 #[.func (.func 84) #[.string s] #[]] w fun e w' => ∃ v, e = .returned v ∧ w'.ownsRow w.heap.size 9 1 v P.length (stV P) ∧ Below w.heap.size w w' := by
  have HS := hide (pseqL s w P hs hP)
  clear hs hP
  go_enter Tryz.func122, Tryz.ntmps122
  go_wp2_with fail
  refine HS.out.mono ?_
  rintro e w1 ⟨v, rfl, hown, hB⟩
  obtain ⟨vp, vc, rfl⟩ := own_shape hown
  go_wp2
  go_ret
  exact ⟨_, rfl, hown, hB⟩
set_option maxHeartbeats 1000000 in
/-- (suffix.host).turned -/
theorem pturnL (s : ByteArray) (w : World) (P : List (List UInt8)) (hs : s.size ≤ 10000) (hP : P = pcs s.data.toList) :
    Calls Tryz.prog 77 #[.string s] w fun e w' => e = .returned (.string ⟨(Sx.dotted P).toArray⟩) ∧ Below w.heap.size w w' := by
  have HS := hide (pcolL s w P hs hP)
  have hPl : P.length ≤ 10001 := by have := pcs_len s.data.toList; rw [← hP, ba_len] at this; omega
  have hP0 : 0 < P.length := by
    rw [hP]; unfold pcs
    cases s.data.toList.length with
    | zero => simp [pcsF]
    | succ m => simp only [pcsF]; split <;> simp
  have hdl : (Sx.dotted P).length ≤ 1000000000 := by
    have h1 := dot_lenP P 10000 (fun x hx => by rw [hP] at hx; have := pcsF_le _ _ x hx; rw [ba_len] at this; omega)
    have h2 : P.length * (10000 + 1) ≤ 10001 * 10001 := Nat.mul_le_mul_right _ hPl
    omega
  clear hP hs
  go_enter Tryz.func77, Tryz.ntmps77
  go_wp2_with fail
  refine HS.out.mono ?_
  rintro e w1 ⟨v, rfl, hown, hB⟩
  obtain ⟨g, cap, hv, hgB, hgl⟩ : ∃ g cap, v = .slice (some ⟨g, 0, none⟩) P.length cap ∧ P.length ≤ cap ∧ g < w1.heap.size := by
    rcases hown.2 with ⟨_, h2⟩ | ⟨g, cap, cur, h1, h2, h3, h4, _⟩
    · omega
    · exact ⟨g, cap, h1, h4, (Array.getElem?_eq_some_iff.1 h3).1⟩
  subst hv
  have hmm : (P.map fun p => (⟨p.toArray⟩ : ByteArray)).map (·.data.toList) = P := by rw [List.map_map]; exact List.map_id _
  have hj := Tryz.strings_Join g 0 cap (P.map fun p => (⟨p.toArray⟩ : ByteArray)) ⟨#[46]⟩ w1 (fun j x hx => by
    have := hown.cells (g := g) rfl _ _ (stV_at P j x hx)
    rw [Addr.add_lit] at this
    exact this) hgl (by rw [List.length_map]; omega) (by rw [List.length_map]; exact hgB) (by rw [hmm]; show (Lib.join P [46]).length ≤ _; rw [join_dot]; omega)
  rw [hmm, show (⟨#[46]⟩ : ByteArray).data.toList = [46] from rfl, join_dot, List.length_map] at hj
  have HJ := hide hj
  clear hj
  go_wp2_with fail
  refine HJ.out.mono ?_
  rintro e w2 ⟨rfl, hB2⟩
  have hBe := hB.trans (hB2.mono hB.size)
  clear hB hB2 hown HJ
  go_wp2
  go_ret
  exact ⟨rfl, hBe⟩
end Go.Proofs.YtgohllfpceeboabGreatDoor

