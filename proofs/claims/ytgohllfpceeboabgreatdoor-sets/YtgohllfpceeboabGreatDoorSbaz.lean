import Derived.Test.YtgohllfpceeboabGreatDoorSbay
import Derived.Test.YtgohllfpceeboabGreatDoorSbaa
import Derived.Test.YtgohllfpceeboabGreatDoorSbas
import Derived.Test.YtgohllfpceeboabGreatDoorProg
import Derived.Test.YtgohllfpceeboabGreatDoorSbar
import Derived.Test.YtgohllfpceeboabGreatDoorSbax
import Derived.Test.YtgohllfpceeboabGreatDoorSbaw
import Derived.Deep.RegionHeldLaw
import Derived.Laws.ResultCell
namespace Go.Proofs.YtgohllfpceeboabGreatDoor
open Go.RowKit
/-- A raw rule's numbers are ints; its value. -/
def RawOk (r : Sx.RawR) : Prop := I64 r.1 ∧ I64 r.2.1 ∧ I64 r.2.2.1 ∧ I64 r.2.2.2.1 ∧ I64 r.2.2.2.2
def rawV (r : Sx.RawR) : Value := .agg #[.int .i64 r.1, .int .i64 r.2.1, .int .i64 r.2.2.1, .int .i64 r.2.2.2.1, .int .i64 r.2.2.2.2]
set_option maxRecDepth 100000 in
set_option maxHeartbeats 2000000 in
/-- suffixkeep.section -/
theorem ksection (r : Sx.RawR) (w : World) (hr : RawOk r) : Calls Tryz.prog 25 #[rawV r] w fun e w' => e = .returned (.string ⟨(Sx.secT r ++ [10]).toArray⟩) ∧ Below w.heap.size w w' := by
  obtain ⟨k, s, a, b, c⟩ := r
  have HP := hide (fun W => kpick s 2 W hr.2.1.1 hr.2.1.2 (by omega) (by omega))
  have hl := Sx.pickN_lt s 2 (by omega)
  have he : Sx.secT (k, s, a, b, c) = [61, 61, 61, if Sx.pickN s 2 = 0 then 105 else 112] := rfl
  rw [he]
  obtain ⟨m, hm⟩ : ∃ m, Sx.pickN s 2 = m := ⟨_, rfl⟩
  rw [hm] at HP hl ⊢
  clear hm hr he
  have HB0 : Hid (∀ o o', Below w.heap.size w ((w.alloc o).alloc o')) := hide (fun o o' => ((Below.refl _ w).alloc (Nat.le_refl _) o).alloc (by rw [World.size_alloc]; omega) o')
  show Calls Tryz.prog 25 #[.agg #[.int .i64 k, .int .i64 s, .int .i64 a, .int .i64 b, .int .i64 c]] w _
  by_cases h0 : m = 0
  · subst h0
    go_enter Tryz.func25, Tryz.ntmps25
    go_wp2_with fail
    refine (HP.out _).mono ?_
    rintro e w1 ⟨rfl, rfl⟩
    go_wp2
    go_ret
    exact ⟨rfl, HB0.out _ _⟩
  · obtain rfl : m = 1 := by omega
    go_enter Tryz.func25, Tryz.ntmps25
    go_wp2_with fail
    refine (HP.out _).mono ?_
    rintro e w1 ⟨rfl, rfl⟩
    go_wp2
    go_ret
    exact ⟨rfl, HB0.out _ _⟩
/-- A line's kind, by its first byte. -/
def kindB (c : UInt8) : UInt8 := if c = 42 then 42 else if c = 33 then 33 else 36
set_option maxRecDepth 100000 in
set_option maxHeartbeats 2000000 in
/-- suffixkeep.kind -/
theorem kkind (X : ByteArray) (c : UInt8) (w : World) (h0 : 0 < X.size) (hc : X[0] = c) : Calls Tryz.prog 28 #[.string X] w fun e w' => e = .returned (.int .u8 (kindB c).toNat) ∧ w' = w := by
  by_cases c1 : c = 42
  · subst c1
    have hn : (42 : UInt8).toNat = 42 := rfl
    go_enter Tryz.func28, Tryz.ntmps28
    go_wp2
    go_ret
    exact ⟨rfl, rfl⟩
  · have n1 : ¬ c.toNat = 42 := fun h => c1 (UInt8.toNat_inj.1 h)
    by_cases c2 : c = 33
    · subst c2
      go_enter Tryz.func28, Tryz.ntmps28
      go_wp2
      go_ret
      exact ⟨rfl, rfl⟩
    · have n2 : ¬ c.toNat = 33 := fun h => c2 (UInt8.toNat_inj.1 h)
      have HE : Hid (kindB c = 36) := hide (by unfold kindB; rw [if_neg c1, if_neg c2])
      obtain ⟨N, hN⟩ : ∃ N, c.toNat = N := ⟨_, rfl⟩
      rw [hN] at n1 n2
      have b3 : ((N : Int) == 42) = false := by simp; omega
      have b4 : ((N : Int) == 33) = false := by simp; omega
      clear c1 c2 n1 n2
      go_enter Tryz.func28, Tryz.ntmps28
      go_wp2
      go_ret
      exact ⟨by rw [HE.out]; rfl, rfl⟩
theorem hostT_len (a b c : Int) : (Sx.dotted ((Sx.hostIx a b c).map Sx.nm)).length ≤ 40 := by
  have h2 := (Sx.hostIx_ok a b c).2
  have h1 := Sx.dots_le 7 ((Sx.hostIx a b c).map Sx.nm) (fun x hx => by
      obtain ⟨i, hi, rfl⟩ := List.mem_map.1 hx
      exact nm_len i)
  rw [List.length_map] at h1
  omega
set_option maxRecDepth 100000 in
set_option maxHeartbeats 2000000 in
/-- suffixkeep.line -/
theorem kline (r : Sx.RawR) (w : World) (hr : RawOk r) : Calls Tryz.prog 26 #[rawV r] w fun e w' => e = .returned (.string ⟨(Sx.lineT r).toArray⟩) ∧ Below w.heap.size w w' := by
  obtain ⟨k, s, a, b, c⟩ := r
  have HK := hide (fun W => kpick k 4 W hr.1.1 hr.1.2 (by omega) (by omega))
  have hl := Sx.pickN_lt k 4 (by omega)
  have HH := hide (fun W => khostOf a b c W hr.2.2.1 hr.2.2.2.1 hr.2.2.2.2)
  have HH2 := hide (fun W => khostOf a b 15 W hr.2.2.1 hr.2.2.2.1 ⟨by omega, by omega⟩)
  have HN := hide (fun W => knames c W hr.2.2.2.2)
  have l1 := hostT_len a b c
  have l2 := hostT_len a b 15
  have l3 := nm_len (Sx.pickN c 8)
  have HB0 : Hid (∀ o, Below w.heap.size w (w.alloc o)) := hide (fun o => (Below.refl _ w).alloc (Nat.le_refl _) o)
  have ht : Sx.lineT (k, s, a, b, c) = if Sx.pickN k 4 = 0 then [42, 46] ++ Sx.dotted ((Sx.hostIx a b c).map Sx.nm) else if Sx.pickN k 4 = 1 then 33 :: (Sx.nm (Sx.pickN c 8) ++ 46 :: Sx.dotted ((Sx.hostIx a b 15).map Sx.nm)) else Sx.dotted ((Sx.hostIx a b c).map Sx.nm) := by
    unfold Sx.lineT Sx.rawK Sx.ruleIx
    dsimp only
    by_cases h0 : Sx.pickN k 4 = 0
    · rw [h0]; simp
    · by_cases h1 : Sx.pickN k 4 = 1
      · rw [h1]
        simp only [if_neg (show ¬ (1 : Nat) = 0 by omega), if_true, List.map_cons]
        rw [dot_two _ _ (by
          intro h
          have := (Sx.hostIx_ok a b 15).1
          rw [List.map_eq_nil_iff] at h
          unfold Sx.hostIx at h
          simp at h)]
        simp
      · rw [if_neg h0, if_neg h1, if_neg h0, if_neg h1, if_neg (by decide), if_neg (by decide), if_neg h1]
        rfl
  rw [ht]
  show Calls Tryz.prog 26 #[.agg #[.int .i64 k, .int .i64 s, .int .i64 a, .int .i64 b, .int .i64 c]] w _
  obtain ⟨x, hx⟩ : ∃ x, Sx.dotted ((Sx.hostIx a b c).map Sx.nm) = x := ⟨_, rfl⟩
  obtain ⟨y, hy⟩ : ∃ x, Sx.dotted ((Sx.hostIx a b 15).map Sx.nm) = x := ⟨_, rfl⟩
  obtain ⟨n, hn⟩ : ∃ x, Sx.nm (Sx.pickN c 8) = x := ⟨_, rfl⟩
  obtain ⟨m, hm⟩ : ∃ m, Sx.pickN k 4 = m := ⟨_, rfl⟩
  rw [hx] at HH l1 ⊢
  rw [hy] at HH2 l2 ⊢
  rw [hn] at HN l3 ⊢
  rw [hm] at HK hl ⊢
  have a1 : (⟨#[42, 46]⟩ : ByteArray) ++ ⟨x.toArray⟩ = ⟨([42, 46] ++ x).toArray⟩ := ba_app [42, 46] x
  have a2 : (⟨#[33]⟩ : ByteArray) ++ ⟨n.toArray⟩ = ⟨([33] ++ n).toArray⟩ := ba_app [33] n
  have a3 : (⟨([33] ++ n).toArray⟩ : ByteArray) ++ ⟨#[46]⟩ = ⟨([33] ++ n ++ [46]).toArray⟩ := ba_app ([33] ++ n) [46]
  have a4 := ba_app ([33] ++ n ++ [46]) y
  have s1 : (⟨x.toArray⟩ : ByteArray).size ≤ 40 := l1
  have s2 : (⟨y.toArray⟩ : ByteArray).size ≤ 40 := l2
  have s3 : (⟨n.toArray⟩ : ByteArray).size ≤ 7 := l3
  have s4 : (⟨([33] ++ n).toArray⟩ : ByteArray).size ≤ 8 := by show ([33] ++ n).length ≤ 8; rw [List.length_append]; simp; omega
  have s5 : (⟨([33] ++ n ++ [46]).toArray⟩ : ByteArray).size ≤ 9 := by show ([33] ++ n ++ [46]).length ≤ 9; rw [List.length_append, List.length_append]; simp; omega
  have e4 : ([33] ++ n ++ [46]) ++ y = 33 :: (n ++ 46 :: y) := by simp
  rw [e4] at a4
  obtain ⟨X, hX⟩ : ∃ X : ByteArray, ⟨x.toArray⟩ = X := ⟨_, rfl⟩
  obtain ⟨Y, hY⟩ : ∃ X : ByteArray, ⟨y.toArray⟩ = X := ⟨_, rfl⟩
  obtain ⟨N, hN⟩ : ∃ X : ByteArray, ⟨n.toArray⟩ = X := ⟨_, rfl⟩
  obtain ⟨N1, hN1⟩ : ∃ X : ByteArray, ⟨([33] ++ n).toArray⟩ = X := ⟨_, rfl⟩
  obtain ⟨N2, hN2⟩ : ∃ X : ByteArray, ⟨([33] ++ n ++ [46]).toArray⟩ = X := ⟨_, rfl⟩
  obtain ⟨R1, hR1⟩ : ∃ X : ByteArray, ⟨([42, 46] ++ x).toArray⟩ = X := ⟨_, rfl⟩
  obtain ⟨R2, hR2⟩ : ∃ X : ByteArray, ⟨((33 : UInt8) :: (n ++ 46 :: y)).toArray⟩ = X := ⟨_, rfl⟩
  rw [hX] at a1 s1 HH
  rw [hY] at a4 s2 HH2
  rw [hN] at a2 s3 HN
  rw [hN1] at a2 a3 s4
  rw [hN2] at a3 a4 s5
  rw [hR1] at a1
  rw [hR2] at a4
  have E1 := hide hR1
  have E2 := hide hR2
  have E3 := hide hX
  clear ht hr hx hy hn hm l1 l2 l3 hX hY hN hN1 hN2 hR1 hR2 e4
  by_cases h0 : m = 0
  · subst h0
    rw [if_pos rfl, E1.out]
    clear a2 a3 a4 E1 E2 E3
    go_enter Tryz.func26, Tryz.ntmps26
    go_wp2_with fail
    refine (HK.out _).mono ?_
    rintro e w1 ⟨rfl, rfl⟩
    go_wp2_with fail
    refine (HH.out _).mono ?_
    rintro e w2 ⟨rfl, hB⟩
    have HB2 := hide (below_step' (HB0.out _) hB)
    clear hB
    go_wp2
    go_ret
    exact ⟨rfl, HB2.out⟩
  · rw [if_neg h0]
    by_cases h1 : m = 1
    · subst h1
      rw [if_pos rfl, E2.out]
      clear a1 E1 E2 E3
      go_enter Tryz.func26, Tryz.ntmps26
      go_wp2_with fail
      refine (HK.out _).mono ?_
      rintro e w1 ⟨rfl, rfl⟩
      go_wp2_with fail
      have hbx0 : ∀ W : World, Below (w.heap.size + 1) (w.alloc (.cells #[.int .i64 k, .int .i64 s, .int .i64 a, .int .i64 b, .int .i64 c] 61)) W → W.cell? ⟨w.heap.size, 2, none⟩ = some (.int .i64 a) ∧ W.cell? ⟨w.heap.size, 3, none⟩ = some (.int .i64 b) ∧ W.cell? ⟨w.heap.size, 4, none⟩ = some (.int .i64 c) := fun W hb => by
        have := (hb.block w.heap.size (Nat.lt_succ_self _)).trans (heap_alloc_new _ _)
        exact ⟨by rw [Lib.cell_of_heap this]; rfl, by rw [Lib.cell_of_heap this]; rfl, by rw [Lib.cell_of_heap this]; rfl⟩
      have HBX := hide hbx0
      clear hbx0
      go_region_held_law (fun w' => w'.cell? ⟨w.heap.size, 2, none⟩ = some (.int .i64 a) ∧ w'.cell? ⟨w.heap.size, 3, none⟩ = some (.int .i64 b) ∧ w'.cell? ⟨w.heap.size, 4, none⟩ = some (.int .i64 c)) (first | exact hS2 | exact hS1 | go_keep) (first | (go_at_call 29; refine (HN.out _).mono ?_; rintro e w1 ⟨rfl, hB1⟩; have hb1 : Below (w.heap.size + 1) (w.alloc (.cells #[.int .i64 k, .int .i64 s, .int .i64 a, .int .i64 b, .int .i64 c] 61)) w1 := key_held hB1 (by first | exact (Below.refl _ _).drew | exact Below.refl _ _); have hS1 := HBX.out w1 hb1) | (go_at_call 9; refine (HH2.out _).mono ?_; rintro e w2 ⟨rfl, hB2⟩; have hb2 := key_held hB2 (by first | exact hb1 | exact hb1.drew); have hS2 := HBX.out w2 hb2))
      all_goals (go_wp2; go_ret; exact ⟨rfl, key_end hb2⟩)
    · rw [if_neg h1, E3.out]
      have k0 : ((m : Int) == 0) = false := by simp; omega
      have k1 : ((m : Int) == 1) = false := by simp; omega
      have n0 : ¬ (m : Int) = 0 := by omega
      have n1 : ¬ (m : Int) = 1 := by omega
      clear a1 a2 a3 a4 E1 E2 E3
      go_enter Tryz.func26, Tryz.ntmps26
      go_wp2_with fail
      refine (HK.out _).mono ?_
      rintro e w1 ⟨rfl, rfl⟩
      go_wp2_with fail
      refine (HH.out _).mono ?_
      rintro e w2 ⟨rfl, hB⟩
      have HB2 := hide (below_step' (HB0.out _) hB)
      clear hB
      go_wp2
      go_ret
      exact ⟨rfl, HB2.out⟩
end Go.Proofs.YtgohllfpceeboabGreatDoor

namespace Go.Proofs.YtgohllfpceeboabGreatDoor
open Go.RowKit
/-- The five cells of a raw rule. -/
def R5 (w : World) (b o : Nat) (r : Sx.RawR) : Prop := w.cell? ⟨b, o, none⟩ = some (.int .i64 r.1) ∧ w.cell? ⟨b, o + 1, none⟩ = some (.int .i64 r.2.1) ∧ w.cell? ⟨b, o + 2, none⟩ = some (.int .i64 r.2.2.1) ∧ w.cell? ⟨b, o + 3, none⟩ = some (.int .i64 r.2.2.2.1) ∧ w.cell? ⟨b, o + 4, none⟩ = some (.int .i64 r.2.2.2.2)
theorem R5.below {w w' : World} {b o N : Nat} {r : Sx.RawR} (h : R5 w b o r) (hb : Below N w w') (hN : b < N) : R5 w' b o r := by
  obtain ⟨h1, h2, h3, h4, h5⟩ := h
  exact ⟨(hb.cell (p := ⟨b, o, none⟩) hN).trans h1, (hb.cell (p := ⟨b, o + 1, none⟩) hN).trans h2, (hb.cell (p := ⟨b, o + 2, none⟩) hN).trans h3, (hb.cell (p := ⟨b, o + 3, none⟩) hN).trans h4, (hb.cell (p := ⟨b, o + 4, none⟩) hN).trans h5⟩
/-- A slice of raw rules, read. -/
def RdR (w : World) (v : Value) (l : List Sx.RawR) : Prop := ∃ p cap, v = .slice p l.length cap ∧ (∀ x ∈ l, RawOk x) ∧ ∀ j (h : j < l.length), ∃ b off, p = some ⟨b, off, none⟩ ∧ b < w.heap.size ∧ R5 w b (off + j * 5) l[j]
theorem RdR.below {W W' : World} {v : Value} {l : List Sx.RawR} (h : RdR W v l) (hb : Below W.heap.size W W') : RdR W' v l := by
  obtain ⟨p, cap, h1, h0, h2⟩ := h
  refine ⟨p, cap, h1, h0, fun j hj => ?_⟩
  obtain ⟨b, off, e1, e2, e3⟩ := h2 j hj
  exact ⟨b, off, e1, Nat.lt_of_lt_of_le e2 hb.size, e3.below hb e2⟩
theorem below_to {w W w' : World} (h : Below w.heap.size w W) (h' : Below W.heap.size W w') : Below w.heap.size w w' := h.trans (h'.mono h.size)
set_option maxRecDepth 100000 in
set_option maxHeartbeats 2000000 in
/-- suffixkeep.list -/
theorem klist (l : List Sx.RawR) (v : Value) (w : World) (hv : RdR w v l) (hl : l.length ≤ 10) : Calls Tryz.prog 7 #[v] w fun e w' => e = .returned (.string ⟨(Sx.listT l).toArray⟩) ∧ Below w.heap.size w w' := by
  obtain ⟨p, cap, rfl, hr, hc⟩ := hv
  have HC := hide hc
  have HR := hide hr
  clear hc hr
  go_enter Tryz.func7, Tryz.ntmps7
  go_wp2_with fail
  go_loopw [3, 4] (fun sv iv wr => ∃ (k : Nat) (t : List UInt8), sv = .string ⟨t.toArray⟩ ∧ iv = .int .i64 k ∧ k ≤ l.length ∧ t.length ≤ 60 * k ∧ Sx.listT (l.take k) = t ∧ Below w.heap.size w wr) (fun _ iv _ => (l.length - intOf iv).toNat)
  case atStart => exact ⟨0, [], rfl, rfl, by omega, by simp, rfl, Below.refl _ _⟩
  case round =>
    obtain ⟨k, t, rfl, rfl, hk, htl, ht, hB⟩ := hrel
    have HB := hide hB
    by_cases hlt : k < l.length
    · obtain ⟨b, off, rfl, hb, hc5⟩ := HC.out k hlt
      have hro := HR.out l[k] (List.getElem_mem hlt)
      have hst : Sx.listT (l.take (k + 1)) = t ++ ((Sx.secT l[k] ++ [10]) ++ (Sx.lineT l[k] ++ [10])) := by
        rw [List.take_succ_eq_append_getElem hlt, ← ht]
        unfold Sx.listT
        rw [List.flatMap_append, List.flatMap_cons, List.flatMap_nil, List.append_nil]
        simp only [List.append_assoc, List.cons_append, List.nil_append]
      obtain ⟨q, hq⟩ : ∃ q, l[k] = q := ⟨_, rfl⟩
      rw [hq] at hro hst hc5
      clear hq
      have HSE := hide (fun W => ksection q W hro)
      have HLI := hide (fun W => kline q W hro)
      have hll := Sx.lineT_len q
      have hsl : (Sx.secT q ++ [10]).length = 5 := rfl
      obtain ⟨x, hx⟩ : ∃ x, Sx.secT q ++ [10] = x := ⟨_, rfl⟩
      obtain ⟨y, hy⟩ : ∃ y, Sx.lineT q = y := ⟨_, rfl⟩
      rw [hx] at hst HSE hsl
      rw [hy] at hst HLI hll
      clear hx hy hro
      obtain ⟨q1, q2, q3, q4, q5⟩ := q
      have hc5' := hc5.below hB hb
      have HBX : Hid (∀ W, Below w.heap.size w W → W.cell? ⟨b, off + k * 5, none⟩ = some (.int .i64 q1) ∧ W.cell? ⟨b, off + k * 5 + 1, none⟩ = some (.int .i64 q2) ∧ W.cell? ⟨b, off + k * 5 + 2, none⟩ = some (.int .i64 q3) ∧ W.cell? ⟨b, off + k * 5 + 3, none⟩ = some (.int .i64 q4) ∧ W.cell? ⟨b, off + k * 5 + 4, none⟩ = some (.int .i64 q5)) := hide (fun W h => hc5.below h hb)
      have hS0 := HBX.out wr hB
      unfold rawV at HSE HLI
      dsimp only at HSE HLI
      have a1 := ba_app t x
      have a2 := ba_app (t ++ x) y
      have a3 : (⟨(t ++ x ++ y).toArray⟩ : ByteArray) ++ ⟨#[10]⟩ = ⟨(t ++ x ++ y ++ [10]).toArray⟩ := ba_app (t ++ x ++ y) [10]
      have z1 : (⟨t.toArray⟩ : ByteArray).size ≤ 600 := by show t.length ≤ 600; omega
      have z2 : (⟨x.toArray⟩ : ByteArray).size = 5 := hsl
      have z3 : (⟨y.toArray⟩ : ByteArray).size ≤ 34 := hll
      have z4 : (⟨(t ++ x).toArray⟩ : ByteArray).size ≤ 605 := by show (t ++ x).length ≤ 605; rw [List.length_append]; omega
      have z5 : (⟨(t ++ x ++ y).toArray⟩ : ByteArray).size ≤ 640 := by show (t ++ x ++ y).length ≤ 640; rw [List.length_append, List.length_append]; omega
      have HFL : Hid ((t ++ (x ++ (y ++ [10]))).length ≤ 60 * (k + 1)) := hide (by rw [List.length_append, List.length_append, List.length_append]; simp; omega)
      obtain ⟨T, hT⟩ : ∃ X : ByteArray, ⟨t.toArray⟩ = X := ⟨_, rfl⟩
      obtain ⟨X, hX⟩ : ∃ X : ByteArray, ⟨x.toArray⟩ = X := ⟨_, rfl⟩
      obtain ⟨Y, hY⟩ : ∃ X : ByteArray, ⟨y.toArray⟩ = X := ⟨_, rfl⟩
      obtain ⟨TX, hTX⟩ : ∃ X : ByteArray, ⟨(t ++ x).toArray⟩ = X := ⟨_, rfl⟩
      obtain ⟨TY, hTY⟩ : ∃ X : ByteArray, ⟨(t ++ x ++ y).toArray⟩ = X := ⟨_, rfl⟩
      rw [hT] at a1 z1 ⊢
      rw [hX] at a1 z2 HSE
      rw [hY] at a2 z3 HLI
      rw [hTX] at a1 a2 z4
      rw [hTY] at a2 a3 z5
      have HST := hide hst
      clear hst ht hB hc5 hc5' hT hX hY hTX hTY hsl hll htl
      go_wp2_with fail
      go_region_held_law (fun w' => w'.cell? ⟨b, off + k * 5, none⟩ = some (.int .i64 q1) ∧ w'.cell? ⟨b, off + k * 5 + 1, none⟩ = some (.int .i64 q2) ∧ w'.cell? ⟨b, off + k * 5 + 2, none⟩ = some (.int .i64 q3) ∧ w'.cell? ⟨b, off + k * 5 + 3, none⟩ = some (.int .i64 q4) ∧ w'.cell? ⟨b, off + k * 5 + 4, none⟩ = some (.int .i64 q5)) (first | exact hS2 | exact hS1 | exact hS0 | go_keep) (first | (go_at_call 25; refine (HSE.out _).mono ?_; rintro e w1 ⟨rfl, hB1⟩; have hb1 : Below w.heap.size w w1 := below_to (by first | exact HB.out | exact HB.out.drew) hB1; have hS1 := HBX.out w1 hb1) | (go_at_call 26; refine (HLI.out _).mono ?_; rintro e w2 ⟨rfl, hB2⟩; have hb2 : Below w.heap.size w w2 := below_to (by first | exact hb1 | exact hb1.drew) hB2; have hS2 := HBX.out w2 hb2))
      all_goals (go_wp2; exact ⟨⟨k + 1, t ++ (x ++ (y ++ [10])), rfl, by go_num, by omega, HFL.out, HST.out, hb2⟩, by simp [intOf]; omega⟩)
    · have hfin : Sx.listT l = t := by rw [← ht, List.take_of_length_le (by omega)]
      have HF := hide hfin
      have hge : (k < l.length) = False := by simpa using hlt
      clear ht hfin hB hlt
      go_wp2
      go_ret
      rw [HF.out]
      exact ⟨rfl, HB.out⟩
end Go.Proofs.YtgohllfpceeboabGreatDoor

namespace Go.Proofs.YtgohllfpceeboabGreatDoor
open Go.RowKit
/-- So many states read. -/
def rdL : Nat → List (List Sx.Edg) → List UInt8 × Bool → Option (List (List Sx.Edg) × (List UInt8 × Bool))
  | 0, tab, x => some (tab, x)
  | m + 1, tab, x => if addA tab (eds (nx x).1.toNat (nx x).2).1 = true then rdL m (tab ++ [(eds (nx x).1.toNat (nx x).2).1]) (eds (nx x).1.toNat (nx x).2).2 else none
def rdEnd : Option (List (List Sx.Edg) × (List UInt8 × Bool)) → Option (List (List Sx.Edg))
  | some (t, ([], false)) => some t
  | _ => none
theorem nx_short (l : List UInt8) : (nx (l, true)).2.2 = true := by cases l <;> rfl
theorem nu_short (l : List UInt8) : (nu (l, true)).2.2 = true := by
  unfold nu
  obtain ⟨⟨c, r, sh⟩, h⟩ : ∃ q, nx (l, true) = q := ⟨_, rfl⟩
  have h1 := nx_short l
  rw [h] at h1 ⊢
  dsimp only at h1 ⊢
  subst h1
  exact nx_short r
theorem eds_short : ∀ (k : Nat) (l : List UInt8), (eds k (l, true)).2.2 = true
  | 0, _ => rfl
  | k + 1, l => by
    unfold eds
    dsimp only
    obtain ⟨⟨c, r, sh⟩, h⟩ : ∃ q, nx (l, true) = q := ⟨_, rfl⟩
    have h1 := nx_short l
    rw [h] at h1 ⊢
    dsimp only at h1 ⊢
    subst h1
    obtain ⟨⟨t, r2, sh2⟩, h2⟩ : ∃ q, nu (r, true) = q := ⟨_, rfl⟩
    have h3 := nu_short r
    rw [h2] at h3 ⊢
    dsimp only at h3 ⊢
    subst h3
    exact eds_short k r2
theorem rdL_short : ∀ (m : Nat) (tab : List (List Sx.Edg)) (l : List UInt8), rdEnd (rdL m tab (l, true)) = none
  | 0, _, l => by cases l <;> rfl
  | m + 1, tab, l => by
    unfold rdL
    split
    · obtain ⟨⟨c, r, sh⟩, h⟩ : ∃ q, nx (l, true) = q := ⟨_, rfl⟩
      have h1 := nx_short l
      rw [h] at h1 ⊢
      dsimp only at h1 ⊢
      subst h1
      obtain ⟨⟨es, r2, sh2⟩, h2⟩ : ∃ q, eds c.toNat (r, true) = q := ⟨_, rfl⟩
      have h3 := eds_short c.toNat r
      rw [h2] at h3 ⊢
      dsimp only at h3 ⊢
      subst h3
      exact rdL_short m _ r2
    · rfl
theorem eds_rd : ∀ (k : Nat) (l : List UInt8), (∃ es r, Sx.rdEdges k l = some (es, r) ∧ eds k (l, false) = (es, (r, false))) ∨ (Sx.rdEdges k l = none ∧ (eds k (l, false)).2.2 = true)
  | 0, l => .inl ⟨[], l, rfl, rfl⟩
  | k + 1, [] => .inr ⟨rfl, by unfold eds; exact eds_short k _⟩
  | k + 1, [_] => .inr ⟨rfl, by unfold eds; exact eds_short k _⟩
  | k + 1, [_, _] => .inr ⟨rfl, by unfold eds; exact eds_short k _⟩
  | k + 1, c :: h :: t :: b => by
    have e1 : eds (k + 1) (c :: h :: t :: b, false) = ((c, h.toNat * 256 + t.toNat) :: (eds k (b, false)).1, (eds k (b, false)).2) := rfl
    have e2 : Sx.rdEdges (k + 1) (c :: h :: t :: b) = (Sx.rdEdges k b).map fun x => ((c, h.toNat * 256 + t.toNat) :: x.1, x.2) := rfl
    rw [e1, e2]
    rcases eds_rd k b with ⟨es, r, h1, h2⟩ | ⟨h1, h2⟩
    · exact .inl ⟨_, r, by rw [h1]; rfl, by rw [h2]⟩
    · exact .inr ⟨by rw [h1]; rfl, h2⟩
theorem addA_iff (tab : List (List Sx.Edg)) (es : List Sx.Edg) : addA tab es = true ↔ (es = [] ↔ tab.length = 0) ∧ ∀ e ∈ es, e.2 < tab.length := by
  unfold addA
  rw [Bool.and_eq_true, List.all_eq_true]
  constructor
  · rintro ⟨h1, h2⟩
    have h3 : ∀ e ∈ es, e.2 < tab.length := fun e he => of_decide_eq_true (h1 e he)
    refine ⟨?_, h3⟩
    cases tab with
    | nil =>
      cases es with
      | nil => simp
      | cons e es => exact absurd (h3 e (by simp)) (Nat.not_lt_zero _)
    | cons x tab =>
      cases es with
      | nil => simp at h2
      | cons e es => simp
  · rintro ⟨h1, h2⟩
    refine ⟨fun e he => decide_eq_true (h2 e he), ?_⟩
    cases tab with
    | nil => rfl
    | cons x tab =>
      cases es with
      | nil => simp at h1
      | cons e es => rfl
theorem rdL_rd : ∀ (m : Nat) (tab : List (List Sx.Edg)) (l : List UInt8), rdEnd (rdL m tab (l, false)) = (Sx.rdTab m tab.length l).map (tab ++ ·)
  | 0, tab, [] => by simp [rdL, rdEnd, Sx.rdTab]
  | 0, tab, _ :: _ => by simp [rdL, rdEnd, Sx.rdTab]
  | m + 1, tab, [] => by
    unfold rdL
    split
    · exact rdL_short m _ _
    · rfl
  | m + 1, tab, k :: r => by
    have e1 : rdL (m + 1) tab (k :: r, false) = if addA tab (eds k.toNat (r, false)).1 = true then rdL m (tab ++ [(eds k.toNat (r, false)).1]) (eds k.toNat (r, false)).2 else none := rfl
    rw [e1]
    unfold Sx.rdTab
    rcases eds_rd k.toNat r with ⟨es, r2, h1, h2⟩ | ⟨h1, h2⟩
    · rw [h1, h2]
      dsimp only
      by_cases hc : (es = [] ↔ tab.length = 0) ∧ ∀ e ∈ es, e.2 < tab.length
      · rw [if_pos ((addA_iff tab es).2 hc), if_pos hc, rdL_rd m (tab ++ [es]) r2, List.length_append, List.length_singleton, Option.map_map]
        congr 1
        funext x
        simp
      · rw [if_neg (fun h => hc ((addA_iff tab es).1 h)), if_neg hc]
        rfl
    · rw [h1]
      dsimp only
      obtain ⟨⟨es, r2, sh2⟩, h3⟩ : ∃ q, eds k.toNat (r, false) = q := ⟨_, rfl⟩
      rw [h3] at h2 ⊢
      dsimp only at h2 ⊢
      subst h2
      split
      · exact rdL_short m _ _
      · rfl
theorem rdL_img (l : List UInt8) : rdEnd (rdL (nu (l, false)).1 [] (nu (l, false)).2) = Sx.rdImg l := by
  match l with
  | [] => exact rdL_short _ _ _
  | [_] => exact rdL_short _ _ _
  | h :: t :: r =>
    have e : nu (h :: t :: r, false) = (h.toNat * 256 + t.toNat, (r, false)) := rfl
    rw [e, rdL_rd]
    unfold Sx.rdImg
    simp
end Go.Proofs.YtgohllfpceeboabGreatDoor

namespace Go.Proofs.YtgohllfpceeboabGreatDoor
open Go.RowKit
theorem own_base {w : World} {B B' n z : Nat} {e : TypeId} {v : Value} {xs : List Value} (h : w.ownsRow B' e z v n xs) (hb : B ≤ B') : w.ownsRow B e z v n xs := by
  obtain ⟨h1, h2⟩ := h
  refine ⟨h1, ?_⟩
  rcases h2 with h2 | ⟨g, cap, cur, hv, hg, r⟩
  · exact .inl h2
  · exact .inr ⟨g, cap, cur, hv, Nat.le_trans hb hg, r⟩
theorem eds_len : ∀ (k : Nat) (x : List UInt8 × Bool), (eds k x).1.length = k
  | 0, _ => rfl
  | k + 1, x => by unfold eds; simp [eds_len k]
theorem AutAt.grown {W W' : World} {b B c : Nat} {tab : List (List Sx.Edg)} (h : AutAt W b B tab) (hg : W.grownBy W' (some c)) (hc : c < B) (hbc : b ≠ c) : AutAt W' b B tab := by
  obtain ⟨sv, vs, h1, h2⟩ := h
  have hk : ∀ {t : TypeId} {z n : Nat} {v : Value} {xs : List Value}, W.ownsRow B t z v n xs → W'.ownsRow B t z v n xs := fun ho => ho.kept hg (.inr (fun e => by have := (ho.lt c e).1; omega))
  exact ⟨sv, vs, (hg.block b (Array.getElem?_eq_some_iff.1 h1).1 (fun e => hbc (by injection e))).trans h1, hk h2.row, h2.len, fun i hi h3 => hk (h2.each i hi h3)⟩
end Go.Proofs.YtgohllfpceeboabGreatDoor

