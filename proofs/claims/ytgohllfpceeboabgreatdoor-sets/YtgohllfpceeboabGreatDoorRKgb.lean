import Derived.Test.YtgohllfpceeboabGreatDoorSbbg
import Derived.Test.YtgohllfpceeboabGreatDoorRKga
import Derived.Deep.RegionHeldLaw
import Derived.Deep.CutBlock
import Derived.Deep.DeepCutAuto
namespace Go.Proofs.YtgohllfpceeboabGreatDoor
open Go.RowKit
/-- An origin's host and port, as they lie. -/
def hstOf (o : Org) : List UInt8 := match o.1 with
  | none => []
  | some (_, H, _) => Sx.dotted H
def prtOf (o : Org) : Int := match o.1 with
  | none => 0
  | some (_, _, p) => p
/-- The four cells of an origin. -/
def O4 (W : World) (b k : Nat) (o : Org) : Prop := W.cell? ⟨b, k, none⟩ = some (.string ⟨(schOf o).toArray⟩) ∧ W.cell? ⟨b, k + 1, none⟩ = some (.string ⟨(hstOf o).toArray⟩) ∧ W.cell? ⟨b, k + 2, none⟩ = some (.int .i64 (prtOf o)) ∧ W.cell? ⟨b, k + 3, none⟩ = some (.string ⟨o.2.toArray⟩)
theorem O4.below {W W' : World} {b k N : Nat} {o : Org} (h : O4 W b k o) (hb : Below N W W') (hN : b < N) : O4 W' b k o := by
  obtain ⟨h1, h2, h3, h4⟩ := h
  exact ⟨(hb.cell (p := ⟨b, k, none⟩) hN).trans h1, (hb.cell (p := ⟨b, k + 1, none⟩) hN).trans h2, (hb.cell (p := ⟨b, k + 2, none⟩) hN).trans h3, (hb.cell (p := ⟨b, k + 3, none⟩) hN).trans h4⟩
/-- A world of origins, read. -/
def RdW (W : World) (g : Nat) (rs : List Sx.Rl) (os : List Org) : Prop := ∃ rv p cap, g < W.heap.size ∧ W.cell? ⟨g, 0, none⟩ = some rv ∧ W.cell? ⟨g, 1, none⟩ = some (.slice p os.length cap) ∧ PrAt W rv rs ∧ ∀ j (h : j < os.length), ∃ b, p = some ⟨b, 0, none⟩ ∧ b < W.heap.size ∧ O4 W b (j * 4) os[j]
theorem RdW.below {W W' : World} {g : Nat} {rs : List Sx.Rl} {os : List Org} (h : RdW W g rs os) (hb : Below W.heap.size W W') : RdW W' g rs os := by
  obtain ⟨rv, p, cap, h1, h2, h3, h4, h5⟩ := h
  refine ⟨rv, p, cap, Nat.lt_of_lt_of_le h1 hb.size, (hb.cell (p := ⟨g, 0, none⟩) h1).trans h2, (hb.cell (p := ⟨g, 1, none⟩) h1).trans h3, h4.below hb, fun j hj => ?_⟩
  obtain ⟨b, e1, e2, e3⟩ := h5 j hj
  exact ⟨b, e1, Nat.lt_of_lt_of_le e2 hb.size, e3.below hb e2⟩
theorem opq_iff {o : Org} (ho : OrgOk o) : (schOf o = [] ∧ hstOf o = [] ∧ prtOf o = 0) ↔ o.1 = none := by
  constructor
  · intro h
    exact Classical.byContradiction fun hn => sch_ne ho hn h.1
  · intro h
    obtain ⟨x, d⟩ := o
    dsimp only at h
    subst h
    exact ⟨rfl, rfl, rfl⟩
theorem from_iff {x y : Org} (hx : OrgOk x) (hy : OrgOk y) : (schOf x = schOf y ∧ hstOf x = hstOf y ∧ prtOf x = prtOf y) ↔ x.1 = y.1 := by
  constructor
  · intro h
    obtain ⟨h1, h2, h3⟩ := h
    have qx := sch_ne hx
    have qy := sch_ne hy
    obtain ⟨ox, xd⟩ := x
    obtain ⟨oy, yd⟩ := y
    cases ox with
    | none =>
      cases oy with
      | none => rfl
      | some t => exact absurd h1.symm (qy (by simp))
    | some t =>
      cases oy with
      | none => exact absurd h1 (qx (by simp))
      | some t' =>
        obtain ⟨s, H, p⟩ := t
        obtain ⟨s', H', p'⟩ := t'
        have hH : Sx.HostOk H := hx.2.1
        have hH' : Sx.HostOk H' := hy.2.1
        have e := (dotted_eq hH hH').1 h2
        have e1 : s = s' := h1
        have e3 : p = p' := h3
        subst e e1 e3
        rfl
  · intro h
    unfold schOf hstOf prtOf
    rw [h]
    exact ⟨rfl, rfl, rfl⟩
set_option maxRecDepth 100000 in
set_option maxHeartbeats 2000000 in
/-- (*suffix.World).has -/
theorem phas (g : Nat) (n : Int) (rs : List Sx.Rl) (os : List Org) (w : World) (hr : RdW w g rs os) : Calls Tryz.prog 36 #[.pointer (some ⟨g, 0, none⟩), .int .i64 n] w fun e w' => e = .returned (.bool (decide (0 ≤ n ∧ n < os.length))) ∧ w' = w := by
  obtain ⟨rv, p, cap, h1, h2, h3, h4, h5⟩ := hr
  clear h4 h5
  by_cases c1 : 0 ≤ n
  · by_cases c2 : n < os.length
    · go_enter Tryz.func36, Tryz.ntmps36
      go_wp2
      go_ret
      exact ⟨by first | rfl | (rw [decide_eq_true ⟨c1, c2⟩]; rfl), rfl⟩
    · have c3 : (n < os.length) = False := by simpa using c2
      go_enter Tryz.func36, Tryz.ntmps36
      go_wp2
      go_ret
      exact ⟨by first | rfl | (rw [decide_eq_false (fun h => by omega)]; rfl), rfl⟩
  · have c3 : (0 ≤ n) = False := by simpa using c1
    go_enter Tryz.func36, Tryz.ntmps36
    go_wp2
    go_ret
    exact ⟨by first | rfl | (rw [decide_eq_false (fun h => by omega)]; rfl), rfl⟩
set_option maxRecDepth 100000 in
set_option maxHeartbeats 2000000 in
/-- (suffix.origin).isOpaque -/
theorem popq (s h d : ByteArray) (p : Int) (w : World) : Calls Tryz.prog 42 #[.agg #[.string s, .string h, .int .i64 p, .string d]] w fun e w' => e = .returned (.bool (decide (s.toList = [] ∧ h.toList = [] ∧ p = 0))) ∧ Below w.heap.size w w' := by
  go_enter Tryz.func42, Tryz.ntmps42
  go_wp2
  all_goals (
    go_ret
    refine ⟨?_, (Below.refl _ w).alloc (Nat.le_refl _) _⟩
    simp_all)
/-- The four values of an origin. -/
def orgA (o : Org) : Value := .agg #[.string ⟨(schOf o).toArray⟩, .string ⟨(hstOf o).toArray⟩, .int .i64 (prtOf o), .string ⟨o.2.toArray⟩]
theorem popqO (o : Org) (w : World) (ho : OrgOk o) : Calls Tryz.prog 42 #[orgA o] w fun e w' => e = .returned (.bool (decide (o.1 = none))) ∧ Below w.heap.size w w' := by
  have h := popq ⟨(schOf o).toArray⟩ ⟨(hstOf o).toArray⟩ ⟨o.2.toArray⟩ (prtOf o) w
  rw [ByteArray.toList_eq, ByteArray.toList_eq, decide_eq_decide.2 (opq_iff ho)] at h
  exact h
/-- Four cells. -/
def C4 (W : World) (b : Nat) (s h : ByteArray) (p : Int) (d : ByteArray) : Prop := W.cell? ⟨b, 0, none⟩ = some (.string s) ∧ W.cell? ⟨b, 1, none⟩ = some (.string h) ∧ W.cell? ⟨b, 2, none⟩ = some (.int .i64 p) ∧ W.cell? ⟨b, 3, none⟩ = some (.string d)
theorem C4.below {W W' : World} {b N : Nat} {s h d : ByteArray} {p : Int} (hc : C4 W b s h p d) (hb : Below N W W') (hN : b < N) : C4 W' b s h p d := by
  obtain ⟨h1, h2, h3, h4⟩ := hc
  exact ⟨(hb.cell (p := ⟨b, 0, none⟩) hN).trans h1, (hb.cell (p := ⟨b, 1, none⟩) hN).trans h2, (hb.cell (p := ⟨b, 2, none⟩) hN).trans h3, (hb.cell (p := ⟨b, 3, none⟩) hN).trans h4⟩
theorem c4_new (w : World) (s h d : ByteArray) (p : Int) : C4 (w.alloc (.cells #[.string s, .string h, .int .i64 p, .string d] 75)) w.heap.size s h p d := by
  have hm := World.cell?_alloc_mark w #[.string s, .string h, .int .i64 p, .string d] 75 (0, 0)
  exact ⟨(hm 0).trans rfl, (hm 1).trans rfl, (hm 2).trans rfl, (hm 3).trans rfl⟩
/-- Two boxes, made one behind the other. -/
theorem c4_two (w : World) (s h d s' h' d' : ByteArray) (p p' : Int) (W : World) (hW : W = ((w.alloc (.cells #[.string s, .string h, .int .i64 p, .string d] 75)).alloc (.cells #[.string s', .string h', .int .i64 p', .string d'] 75)).drew) :
    w.heap.size < W.heap.size ∧ w.heap.size + 1 < W.heap.size ∧ C4 W w.heap.size s h p d ∧ C4 W (w.heap.size + 1) s' h' p' d' ∧ Below w.heap.size w W := by
  have h1 := c4_new w s h d p
  obtain ⟨w1, hw1⟩ : ∃ w1, w.alloc (.cells #[.string s, .string h, .int .i64 p, .string d] 75) = w1 := ⟨_, rfl⟩
  have hz : w1.heap.size = w.heap.size + 1 := by rw [← hw1, World.size_alloc]
  rw [hw1] at hW h1
  have h2 := c4_new w1 s' h' d' p'
  have hB1 : Below w.heap.size w w1 := by rw [← hw1]; exact (Below.refl _ w).alloc (Nat.le_refl _) _
  have hB2 : Below w1.heap.size w1 (w1.alloc (.cells #[.string s', .string h', .int .i64 p', .string d'] 75)) := (Below.refl _ w1).alloc (Nat.le_refl _) _
  have hz2 : (w1.alloc (.cells #[.string s', .string h', .int .i64 p', .string d'] 75)).heap.size = w.heap.size + 2 := by rw [World.size_alloc, hz]
  have h3 := h1.below hB2 (by omega)
  rw [hz] at h2
  subst hW
  refine ⟨?_, ?_, h3, h2, (below_to hB1 hB2).drew⟩
  · show w.heap.size < (w1.alloc _).heap.size
    rw [hz2]; omega
  · show w.heap.size + 1 < (w1.alloc _).heap.size
    rw [hz2]; omega
set_option maxRecDepth 100000 in
set_option maxHeartbeats 4000000 in
/-- (*suffix.World).areSame -/
theorem psame (g a b : Nat) (rs : List Sx.Rl) (os : List Org) (w : World) (hr : RdW w g rs os) (ha : a < os.length) (hb : b < os.length) (hok : ∀ o ∈ os, OrgOk o) : Calls Tryz.prog 55 #[.pointer (some ⟨g, 0, none⟩), .int .i64 a, .int .i64 b] w fun e w' => e = .returned (.bool (relA a b os[a] os[b])) ∧ Below w.heap.size w w' := by
  obtain ⟨rv, p, cap, h1, h2, h3, h4, h5⟩ := hr
  obtain ⟨rb, rfl, hrb, o1⟩ := h5 a ha
  obtain ⟨rb', hrb', -, o2⟩ := h5 b hb
  obtain rfl : rb = rb' := by injection hrb' with h; injection h
  have hxo := hok os[a] (List.getElem_mem ha)
  have hyo := hok os[b] (List.getElem_mem hb)
  have hfr := from_iff hxo hyo
  have HOP := hide (fun W => popqO os[a] W hxo)
  obtain ⟨x, hx⟩ : ∃ x, os[a] = x := ⟨_, rfl⟩
  obtain ⟨y, hy⟩ : ∃ x, os[b] = x := ⟨_, rfl⟩
  rw [hx] at o1 hfr HOP ⊢
  rw [hy] at o2 hfr ⊢
  unfold O4 at o1 o2
  unfold orgA at HOP
  have hrel : ¬ a = b → relA a b x y = (!decide (x.1 = none) && decide (schOf x = schOf y ∧ hstOf x = hstOf y ∧ prtOf x = prtOf y)) := fun h => by
    unfold relA
    rw [decide_eq_decide.2 hfr, decide_eq_false h, Bool.false_or]
    congr 1
    simp
  have hrt : a = b → relA a b x y = true := fun h => by unfold relA; rw [decide_eq_true h]; rfl
  obtain ⟨S1, hS1⟩ : ∃ X : ByteArray, ⟨(schOf x).toArray⟩ = X := ⟨_, rfl⟩
  obtain ⟨H1, hH1⟩ : ∃ X : ByteArray, ⟨(hstOf x).toArray⟩ = X := ⟨_, rfl⟩
  obtain ⟨D1, hD1⟩ : ∃ X : ByteArray, ⟨x.2.toArray⟩ = X := ⟨_, rfl⟩
  obtain ⟨S2, hS2⟩ : ∃ X : ByteArray, ⟨(schOf y).toArray⟩ = X := ⟨_, rfl⟩
  obtain ⟨H2, hH2⟩ : ∃ X : ByteArray, ⟨(hstOf y).toArray⟩ = X := ⟨_, rfl⟩
  obtain ⟨D2, hD2⟩ : ∃ X : ByteArray, ⟨y.2.toArray⟩ = X := ⟨_, rfl⟩
  have hcm : decide (schOf x = schOf y ∧ hstOf x = hstOf y ∧ prtOf x = prtOf y) = decide (S1.toList = S2.toList ∧ H1.toList = H2.toList ∧ prtOf x = prtOf y) := by
    rw [← hS1, ← hS2, ← hH1, ← hH2]
    simp only [ByteArray.toList_eq]
  rw [hS1, hH1, hD1] at o1 HOP
  rw [hS2, hH2, hD2] at o2
  rw [hcm] at hrel
  obtain ⟨P1, hP1⟩ : ∃ n, prtOf x = n := ⟨_, rfl⟩
  obtain ⟨P2, hP2⟩ : ∃ n, prtOf y = n := ⟨_, rfl⟩
  rw [hP1] at o1 hrel HOP
  rw [hP2] at o2 hrel
  obtain ⟨c1, c2, c3, c4⟩ := o1
  obtain ⟨d1, d2, d3, d4⟩ := o2
  obtain ⟨R, hR⟩ : ∃ R, relA a b x y = R := ⟨_, rfl⟩
  rw [hR] at hrel hrt ⊢
  obtain ⟨OP, hOP⟩ : ∃ R, decide (x.1 = none) = R := ⟨_, rfl⟩
  rw [hOP] at hrel HOP
  have HREL := hide hrel
  have HRT := hide hrt
  clear hrel hrt hS1 hH1 hD1 hS2 hH2 hD2 hcm hP1 hP2 hfr hx hy hR hOP h4 h5 hrb' hok hxo hyo h2
  go_enter Tryz.func55, Tryz.ntmps55
  go_upto_region 1 with fail
  go_cut [7, 8] (fun f s wc => ∃ b1 b2, f = .pointer (some ⟨b1, 0, none⟩) ∧ s = .pointer (some ⟨b2, 0, none⟩) ∧ b1 < wc.heap.size ∧ b2 < wc.heap.size ∧ C4 wc b1 S1 H1 P1 D1 ∧ C4 wc b2 S2 H2 P2 D2 ∧ Below w.heap.size w wc)
  case first =>
    go_region
    all_goals (
      go_wp2_with fail
      go_meet
      first
        | (obtain ⟨q1, q2, q3, q4, q5⟩ := c4_two w S1 H1 D1 S2 H2 D2 P1 P2 _ rfl
           exact ⟨_, _, rfl, rfl, q1, q2, q3, q4, q5⟩)
        | (obtain ⟨q1, q2, q3, q4, q5⟩ := c4_two w S2 H2 D2 S1 H1 D1 P2 P1 _ rfl
           exact ⟨_, _, rfl, rfl, q2, q1, q4, q3, q5⟩))
  case rest =>
    obtain ⟨b1, b2, rfl, rfl, hb1, hb2, q1, q2, hBc⟩ := hcut
    have HBC := hide hBc
    have HX : Hid (∀ W, Below wc.heap.size wc W → C4 W b1 S1 H1 P1 D1 ∧ C4 W b2 S2 H2 P2 D2) := hide (fun W h => ⟨q1.below h hb1, q2.below h hb2⟩)
    have hS0 := HX.out wc (Below.refl _ _)
    unfold C4 at hS0 HX
    clear q1 q2 hBc c1 c2 c3 c4 d1 d2 d3 d4 h3
    by_cases hab : a = b
    · have hRt := HRT.out hab
      have k1 : ((a : Int) == b) = true := by simp; omega
      go_wp2
      go_ret
      exact ⟨by rw [hRt]; rfl, HBC.out⟩
    · have HRE := hide (HREL.out hab)
      have k1 : ((a : Int) == b) = false := by simp; omega
      obtain ⟨⟨c1, c2, c3, c4⟩, d1, d2, d3, d4⟩ := hS0
      go_wp2_with fail
      refine (HOP.out _).mono ?_
      rintro e y1 ⟨rfl, hB1⟩
      have HBE := hide (below_to HBC.out hB1)
      clear c1 c2 c3 c4 d1 d2 d3 d4
      obtain ⟨⟨c1, c2, c3, c4⟩, d1, d2, d3, d4⟩ := HX.out y1 hB1
      clear hB1
      cases OP with
      | true =>
        go_wp2
        go_ret
        exact ⟨by rw [HRE.out]; rfl, HBE.out⟩
      | false =>
        go_wp2
        all_goals (
          go_ret
          refine ⟨?_, HBE.out⟩
          rw [HRE.out]
          simp_all)
end Go.Proofs.YtgohllfpceeboabGreatDoor
