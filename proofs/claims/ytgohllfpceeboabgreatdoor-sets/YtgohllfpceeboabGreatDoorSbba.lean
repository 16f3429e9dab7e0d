import Derived.Test.YtgohllfpceeboabGreatDoorSbas
import Derived.Test.YtgohllfpceeboabGreatDoorSbaz
import Derived.Test.YtgohllfpceeboabGreatDoorSbaa
import Derived.Test.YtgohllfpceeboabGreatDoorSbar
import Derived.Test.YtgohllfpceeboabGreatDoorSbaw
import Derived.Test.YtgohllfpceeboabGreatDoorSbax
import Derived.Test.YtgohllfpceeboabGreatDoorProg
import Derived.Test.YtgohllfpceeboabGreatDoorSbay
import Derived.Test.YtgohllfpceeboabGreatDoorSbaq
import Derived.Test.YtgohllfpceeboabGreatDoorSbat
import Derived.Test.YtgohllfpceeboabGreatDoorSbab
import Derived.Test.YtgohllfpceeboabGreatDoorSbam
import Derived.Test.YtgohllfpceeboabGreatDoorSbac
import Derived.Test.YtgohllfpceeboabGreatDoorSbal
import Derived.Test.YtgohllfpceeboabGreatDoorSbap
import Derived.Deep.CutBlock
import Derived.Deep.DeepCutAuto
namespace Go.Proofs.YtgohllfpceeboabGreatDoor
open Go.RowKit
set_option maxRecDepth 100000 in
set_option maxHeartbeats 1000000 in
/-- automaton.Read, with the shape of what it hands back -/
theorem preadS (l : List UInt8) (w : World) :
    Calls Tryz.prog 58 #[.string ⟨l.toArray⟩] w fun e w' => Below w.heap.size w w' ∧ ∃ sv, e = .returned (.tuple #[.agg #[sv], .bool (Sx.rdImg l).isSome]) ∧ (∃ p n c, sv = .slice p n c) ∧ ∀ tab, Sx.rdImg l = some tab → ∃ vs, TabAt w' w.heap.size sv tab vs := by
  rw [← rdL_img l]
  obtain ⟨⟨n, x⟩, hx⟩ : ∃ q, nu (l, false) = q := ⟨_, rfl⟩
  rw [hx]
  dsimp only
  have hn := nu_lt (l, false)
  rw [hx] at hn
  dsimp only at hn
  have HX := hide hx
  clear hx
  go_enter Tryz.func58, Tryz.ntmps58
  obtain ⟨w0, hw0⟩ : ∃ w0, ((w.alloc (.cells #[.slice none 0 0] 111)).alloc (.cells #[.string ⟨l.toArray⟩, .bool false] 141)).alloc (.cells #[.slice none 0 0] 111) = w0 := ⟨_, rfl⟩
  have hz0 : w0.heap.size = w.heap.size + 3 := by rw [← hw0]; simp
  have hS0 : SrcAt w0 (w.heap.size + 1) l false := by
    rw [← hw0]
    unfold SrcAt
    rw [heap_alloc_old _ _ (by simp)]
    have := heap_alloc_new (w.alloc (.cells #[.slice none 0 0] 111)) (.cells #[.string ⟨l.toArray⟩, .bool false] 141)
    rw [World.size_alloc] at this
    exact this
  have hA0 : AutAt w0 (w.heap.size + 2) (w.heap.size + 3) [] := by
    refine ⟨.slice none 0 0, [], ?_, TabAt.nil _ _⟩
    rw [← hw0]
    have := heap_alloc_new ((w.alloc (.cells #[.slice none 0 0] 111)).alloc (.cells #[.string ⟨l.toArray⟩, .bool false] 141)) (.cells #[.slice none 0 0] 111)
    rw [World.size_alloc, World.size_alloc] at this
    exact this
  have hR0 : w0.heap[w.heap.size]? = some (.cells #[.slice none 0 0] 111 (0, 0)) := by
    rw [← hw0, heap_alloc_old _ _ (by simp; omega), heap_alloc_old _ _ (by simp)]
    exact heap_alloc_new _ _
  have hB0 : Below w.heap.size w w0 := by
    rw [← hw0]
    exact (((Below.refl _ _).alloc (Nat.le_refl _) _).alloc (by simp) _).alloc (by simp; omega) _
  have h1 := pnumber (w.heap.size + 1) l false w0 hS0
  rw [HX.out] at h1
  dsimp only at h1
  go_wp2_with fail
  refine h1.mono ?_
  rintro e w1 ⟨rfl, hg1, hs1⟩
  have hA1 := hA0.grown hg1 (by omega) (by omega)
  have hR1 : w1.heap[w.heap.size]? = some (.cells #[.slice none 0 0] 111 (0, 0)) := (hg1.block _ (by omega) (fun e => by injection e; omega)).trans hR0
  have hB1 : Below w.heap.size w w1 := hB0.grown hg1 (by omega) (fun r e => by cases e; omega)
  have hz1 : w.heap.size + 3 ≤ w1.heap.size := by have := hg1.size; omega
  have HST := hide (And.intro hs1 (And.intro hA1 (And.intro hR1 hB1)))
  clear h1 hg1 hs1 hA1 hR1 hB1 hA0 hR0 hB0 hS0 hw0 hz0
  go_wp2_with fail
  go_loopw [9] (fun i wr => ∃ (k : Nat) (tab : List (List Sx.Edg)) (y : List UInt8 × Bool), i = .int .i64 k ∧ k ≤ n ∧ tab.length = k ∧ rdL n [] x = rdL (n - k) tab y ∧ w.heap.size + 3 ≤ wr.heap.size ∧ SrcAt wr (w.heap.size + 1) y.1 y.2 ∧ AutAt wr (w.heap.size + 2) (w.heap.size + 3) tab ∧ wr.heap[w.heap.size]? = some (.cells #[.slice none 0 0] 111 (0, 0)) ∧ Below w.heap.size w wr) (fun i _ => (n - intOf i).toNat)
  case atStart => exact ⟨0, [], x, rfl, by omega, rfl, rfl, hz1, HST.out⟩
  case round =>
    obtain ⟨k, tab, y, rfl, hk, hlen, hrd, hzr, hs, hA, hR, hB⟩ := hrel
    have HRD := hide hrd
    have HR := hide hR
    have HB := hide hB
    have HA := hide hA
    have HL := hide hlen
    clear hrd hR hB hA hlen HST hz1
    obtain ⟨y1, y2⟩ := y
    by_cases hlt : k < n
    · have hE := pedges (w.heap.size + 1) y1 y2 wr hs
      clear hs
      go_wp2_with fail
      refine hE.mono ?_
      rintro e w2 ⟨v, es, z, hes, rfl, hg2, hs2, hown2⟩
      have hz2 := hg2.size
      have hel : es.length ≤ 1000 := by
        have h1 := eds_len (nx (y1, y2)).1.toNat (nx (y1, y2)).2
        rw [hes] at h1
        have h2 := (nx (y1, y2)).1.toNat_lt
        dsimp only at h1
        omega
      have hst : rdL (n - k) tab (y1, y2) = if addA tab es = true then rdL (n - (k + 1)) (tab ++ [es]) z else none := by
        rw [show n - k = (n - (k + 1)) + 1 by omega]
        show (if addA tab (eds (nx (y1, y2)).1.toNat (nx (y1, y2)).2).1 = true then rdL (n - (k + 1)) (tab ++ [(eds (nx (y1, y2)).1.toNat (nx (y1, y2)).2).1]) (eds (nx (y1, y2)).1.toNat (nx (y1, y2)).2).2 else none) = _
        rw [hes]
      have HRD2 := hide (HRD.out.trans hst)
      have hA2 := HA.out.grown hg2 (by omega) (by omega)
      have hR2 := (hg2.block w.heap.size (by omega) (fun e => by injection e; omega)).trans HR.out
      have hB2 : Below w.heap.size w w2 := HB.out.grown hg2 (by omega) (fun r e => by cases e; omega)
      have hadd := paadd (w.heap.size + 2) (w.heap.size + 3) tab es v w2 hA2 (own_base hown2 hzr) (by omega) (by omega) (by have := HL.out; omega) hel
      have HX2 := hide (And.intro hs2 (And.intro hR2 hB2))
      clear hE hes hg2 hs2 hown2 hA2 hR2 hB2 hst HRD HA HR HB
      go_wp2_with fail
      refine hadd.mono ?_
      rintro e w3 ⟨rfl, hB3, hK3, hA3⟩
      have hz3 := hB3.size
      have hs3 := hK3.src HX2.out.1
      have hR3 := (hB3.block w.heap.size (by omega)).trans HX2.out.2.1
      have hB4 := HX2.out.2.2.trans (hB3.mono (by omega))
      clear hadd hB3 hK3
      have hv2 : addA tab es = true ∨ addA tab es = false := by cases addA tab es <;> simp
      rcases hv2 with hv2 | hv2
      · have HY := hide (And.intro hs3 (And.intro (hA3 hv2) (And.intro hR3 hB4)))
        have HRD3 : Hid (rdL n [] x = rdL (n - (k + 1)) (tab ++ [es]) z) := hide (by rw [HRD2.out, if_pos hv2])
        rw [hv2]
        clear hs3 hA3 hR3 hB4 HX2 HRD2 hv2
        go_wp2
        exact ⟨⟨k + 1, tab ++ [es], z, by go_num, by omega, by rw [List.length_append, HL.out]; rfl, HRD3.out, by omega, HY.out⟩, by simp [intOf]; omega⟩
      · have HRD3 : Hid (rdL n [] x = none) := hide (by rw [HRD2.out, if_neg (by rw [hv2]; simp)])
        have hq0 : w3.cell? ⟨w.heap.size, 0, none⟩ = some (.slice none 0 0) := by simp [World.cell?, hR3]
        have hf0 : w3.frozen? ⟨w.heap.size, 0, none⟩ = false := by simp [World.frozen?, hR3]
        have HR3 := hide hR3
        have HB4 := hide hB4
        rw [hv2]
        clear hs3 hA3 hR3 hB4 HX2 HRD2 hv2
        go_wp2
        (try simp only [Exit.inBlock, Exit.then])
        refine bodyPost_ret (v := .tuple #[.agg #[.slice none 0 0], .bool false]) ?_ rfl ?_
        · rw [results_cell_tmp rfl]
          go_simp
        · rw [HRD3.out]
          exact ⟨HB4.out.setCell (p := ⟨w.heap.size, 0, none⟩) (Nat.le_refl _) _, _, rfl, ⟨_, _, _, rfl⟩, fun t h => by cases h⟩
    · have hkn : k = n := by omega
      subst hkn
      rw [Nat.sub_self] at HRD
      obtain ⟨sv, vs, hbox, htab⟩ := HA.out
      obtain ⟨q0, q1, f0, f1⟩ := hs.cells
      have hc0 : wr.cell? ⟨w.heap.size + 2, 0, none⟩ = some sv := by simp [World.cell?, hbox]
      have hq0 : wr.cell? ⟨w.heap.size, 0, none⟩ = some (.slice none 0 0) := by simp [World.cell?, HR.out]
      have hf0 : wr.frozen? ⟨w.heap.size, 0, none⟩ = false := by simp [World.frozen?, HR.out]
      have hRR : rdL k [] x = some (tab, (y1, y2)) := HRD.out
      have HFIN : Hid (∀ W : World, W = wr.setCell ⟨w.heap.size, 0, none⟩ sv ∨ W = (wr.setCell ⟨w.heap.size, 0, none⟩ sv).drew → Below w.heap.size w W ∧ TabAt W w.heap.size sv tab vs) := hide (by
        have h0 : Below w.heap.size w (wr.setCell ⟨w.heap.size, 0, none⟩ sv) := HB.out.setCell (p := ⟨w.heap.size, 0, none⟩) (Nat.le_refl _) _
        have hk : ∀ {t : TypeId} {z n : Nat} {v : Value} {xs : List Value}, wr.ownsRow (w.heap.size + 3) t z v n xs → (wr.setCell ⟨w.heap.size, 0, none⟩ sv).ownsRow w.heap.size t z v n xs := fun ho => own_base (ho.kept (grown_setCell wr w.heap.size 0 sv) (.inr (fun e => by have := (ho.lt _ e).1; omega))) (by omega)
        have h1 : TabAt (wr.setCell ⟨w.heap.size, 0, none⟩ sv) w.heap.size sv tab vs := ⟨hk htab.row, htab.len, fun i hi h3 => hk (htab.each i hi h3)⟩
        rintro W (rfl | rfl)
        · exact ⟨h0, h1⟩
        · exact ⟨h0.drew, h1.row, h1.len, h1.each⟩)
      have HRR := hide hRR
      obtain ⟨sp, sc, rfl⟩ := own_shapeK htab.row
      clear hbox htab hs hRR HRD HA HB HR
      rcases y2 with _ | _
      · rcases y1 with _ | ⟨c, r⟩
        · go_wp2_with fail
          go_region_held (fun w' => w'.cell? ⟨w.heap.size + 1, 0, none⟩ = some (.string ⟨#[]⟩) ∧ w'.cell? ⟨w.heap.size + 1, 1, none⟩ = some (.bool false) ∧ w'.cell? ⟨w.heap.size + 2, 0, none⟩ = some (.slice sp tab.length sc)) (go_keep) ((fail))
          go_wp2
          (try simp only [Exit.inBlock, Exit.then])
          refine bodyPost_ret (v := .tuple #[.agg #[.slice sp tab.length sc], .bool true]) ?_ rfl ?_
          · rw [results_cell_tmp rfl]
            go_simp
          · rw [HRR.out]
            exact ⟨(HFIN.out _ (.inr rfl)).1, _, rfl, ⟨_, _, _, rfl⟩, fun t h => by cases h; exact ⟨vs, (HFIN.out _ (.inr rfl)).2⟩⟩
        · go_wp2_with fail
          go_region_held (fun w' => w'.cell? ⟨w.heap.size + 1, 0, none⟩ = some (.string ⟨(c :: r).toArray⟩) ∧ w'.cell? ⟨w.heap.size + 1, 1, none⟩ = some (.bool false) ∧ w'.cell? ⟨w.heap.size + 2, 0, none⟩ = some (.slice sp tab.length sc)) (go_keep) ((fail))
          go_wp2
          (try simp only [Exit.inBlock, Exit.then])
          refine bodyPost_ret (v := .tuple #[.agg #[.slice sp tab.length sc], .bool false]) ?_ rfl ?_
          · rw [results_cell_tmp rfl]
            go_simp
          · rw [HRR.out]
            exact ⟨(HFIN.out _ (.inr rfl)).1, _, rfl, ⟨_, _, _, rfl⟩, fun t h => by cases h⟩
      · have hnone : rdEnd (some (tab, (y1, true))) = none := by cases y1 <;> rfl
        have d0 := (World.cell?_setCell_far wr ⟨w.heap.size, 0, none⟩ ⟨w.heap.size + 1, 0, none⟩ (.slice sp tab.length sc) (by simp)).trans q0
        have d1 := (World.cell?_setCell_far wr ⟨w.heap.size, 0, none⟩ ⟨w.heap.size + 1, 1, none⟩ (.slice sp tab.length sc) (by simp)).trans q1
        have d2 := (World.cell?_setCell_far wr ⟨w.heap.size, 0, none⟩ ⟨w.heap.size + 2, 0, none⟩ (.slice sp tab.length sc) (by simp)).trans hc0
        go_wp2_with fail
        go_region
        go_wp2
        (try simp only [Exit.inBlock, Exit.then])
        refine bodyPost_ret (v := .tuple #[.agg #[.slice sp tab.length sc], .bool false]) ?_ rfl ?_
        · rw [results_cell_tmp rfl]
          go_simp
        · rw [HRR.out, hnone]
          exact ⟨(HFIN.out _ (.inr rfl)).1, _, rfl, ⟨_, _, _, rfl⟩, fun t h => by cases h⟩
end Go.Proofs.YtgohllfpceeboabGreatDoor

namespace Go.Proofs.YtgohllfpceeboabGreatDoor
open Go.RowKit
/-- A table that was read lies below what comes behind it. -/
theorem tabR_at {W : World} {B b : Nat} {sv : Value} {tab : List (List Sx.Edg)} {vs : List Value} (h : TabAt W B sv tab vs) (hb : W.heap.size ≤ b) (h0 : tab ≠ []) : TabR W b sv tab := by
  have hp : 0 < tab.length := List.length_pos_iff.2 h0
  rcases h.row.2 with ⟨_, e⟩ | ⟨g, cap, cur, hv, _, hg, h1, h2, h3, h4⟩
  · omega
  · refine ⟨g, cap, hv, Nat.lt_of_lt_of_le (Array.getElem?_eq_some_iff.1 hg).1 hb, fun i hi => ?_⟩
    rw [Nat.mul_one] at h4
    have hi2 : i < vs.length := by rw [h.len]; exact hi
    have hci : W.cell? ⟨g, i, none⟩ = some vs[i] := by
      rw [Lib.cell_of_heap hg, ← Array.getElem?_toList]
      have h5 : (cur.toList.take tab.length)[i]? = vs[i]? := by rw [h4]
      rw [List.getElem?_take_of_lt hi, List.getElem?_eq_getElem hi2] at h5
      exact h5
    have he := h.each i hi hi2
    obtain ⟨p, c, hpc⟩ := own_shapeK he
    refine ⟨p, c, by rw [hci, hpc], fun j hj => ?_⟩
    rcases he.2 with ⟨_, e⟩ | ⟨e, cap2, cur2, hv2, _, he2, k1, k2, k3, k4⟩
    · omega
    · rw [hpc] at hv2
      obtain rfl : p = some ⟨e, 0, none⟩ := by injection hv2
      have hg2 := edV_get tab[i] j hj
      have hk : ∀ m, m < tab[i].length * 2 → cur2[m]? = (edV tab[i])[m]? := fun m hm => by
        have h5 : (cur2.toList.take (tab[i].length * 2))[m]? = (edV tab[i])[m]? := by rw [k4]
        rw [List.getElem?_take_of_lt hm] at h5
        rw [← Array.getElem?_toList, h5]
      refine ⟨e, rfl, Nat.lt_of_lt_of_le (Array.getElem?_eq_some_iff.1 he2).1 hb, ?_, ?_⟩
      · rw [Lib.cell_of_heap he2, hk _ (by omega)]; exact hg2.1
      · rw [Lib.cell_of_heap he2, hk _ (by omega)]; exact hg2.2
theorem TabR.below' {w w' : World} {b b' B : Nat} {sv : Value} {tab : List (List Sx.Edg)} (h : TabR w b sv tab) (hb : Below B w w') (hB : b ≤ B) (hb' : b ≤ b') : TabR w' b' sv tab := by
  obtain ⟨g, cap, h1, h2, h3⟩ := h
  refine ⟨g, cap, h1, by omega, fun i hi => ?_⟩
  obtain ⟨p, c, h4, h5⟩ := h3 i hi
  refine ⟨p, c, (hb.cell (p := ⟨g, i, none⟩) (Nat.lt_of_lt_of_le h2 hB)).trans h4, fun j hj => ?_⟩
  obtain ⟨e, h6, h7, h8, h9⟩ := h5 j hj
  exact ⟨e, h6, by omega, (hb.cell (p := ⟨e, j * 2, none⟩) (Nat.lt_of_lt_of_le h7 hB)).trans h8, (hb.cell (p := ⟨e, j * 2 + 1, none⟩) (Nat.lt_of_lt_of_le h7 hB)).trans h9⟩
theorem cell_has {W : World} {b i : Nat} {v : Value} (h : W.cell? ⟨b, i, none⟩ = some v) : b < W.heap.size := by
  by_cases hlt : b < W.heap.size
  · exact hlt
  · have hn : W.heap[b]? = none := Array.getElem?_eq_none (by omega)
    simp [World.cell?, hn] at h
/-- How long the table of an image is. -/
theorem rdEdges_len : ∀ (k : Nat) (b : List UInt8) (es : List Sx.Edg) (r : List UInt8), Sx.rdEdges k b = some (es, r) → es.length = k ∧ b.length = 3 * k + r.length
  | 0, b, es, r, h => by
    simp only [Sx.rdEdges, Option.some.injEq, Prod.mk.injEq] at h
    rw [← h.1, ← h.2]; simp
  | k + 1, b, es, r, h => by
    match b, h with
    | [], h => simp [Sx.rdEdges] at h
    | [_], h => simp [Sx.rdEdges] at h
    | [_, _], h => simp [Sx.rdEdges] at h
    | c :: x :: z :: t, h =>
      simp only [Sx.rdEdges] at h
      obtain ⟨⟨es', r'⟩, h1, h2⟩ := Option.map_eq_some_iff.1 h
      obtain ⟨i1, i2⟩ := rdEdges_len k t es' r' h1
      simp only [Prod.mk.injEq] at h2
      rw [← h2.1, ← h2.2]
      simp only [List.length_cons]
      omega
theorem rdTab_len : ∀ (m n : Nat) (b : List UInt8) (t : List (List Sx.Edg)), Sx.rdTab m n b = some t → t.length = m ∧ (∀ es ∈ t, es.length ≤ 255) ∧ b.length + (if n = 0 then 3 else 0) ≥ 4 * t.length
  | 0, n, b, t, h => by
    unfold Sx.rdTab at h
    split at h
    · obtain rfl := Option.some.inj h; simp
    · cases h
  | m + 1, n, b, t, h => by
    cases b with
    | nil => simp [Sx.rdTab] at h
    | cons k r =>
      simp only [Sx.rdTab] at h
      split at h
      · cases h
      · rename_i es' r' he
        split at h
        · rename_i hc
          obtain ⟨t', h1, rfl⟩ := Option.map_eq_some_iff.1 h
          obtain ⟨i1, i2, i3⟩ := rdTab_len m (n + 1) r' t' h1
          obtain ⟨j1, j2⟩ := rdEdges_len _ _ _ _ he
          have hk : k.toNat < 256 := k.toNat_lt
          rw [if_neg (by omega)] at i3
          refine ⟨by rw [List.length_cons, i1], fun es hes => ?_, ?_⟩
          · rcases List.mem_cons.1 hes with rfl | hes
            · omega
            · exact i2 es hes
          · simp only [List.length_cons]
            by_cases h0 : n = 0
            · rw [if_pos h0]; omega
            · rw [if_neg h0]
              have : es' ≠ [] := fun e => h0 (hc.1.1 e)
              have := List.length_pos_iff.2 this
              omega
        · cases h
theorem rdImg_len {b : List UInt8} {t : List (List Sx.Edg)} (h : Sx.rdImg b = some t) (hb : b.length ≤ 8000) : t.length ≤ 3000 ∧ ∀ es ∈ t, es.length ≤ 1000 := by
  unfold Sx.rdImg at h
  split at h
  · obtain ⟨_, h2, h3⟩ := rdTab_len _ _ _ _ h
    simp only [List.length_cons, if_true] at hb h3
    exact ⟨by omega, fun es hes => by have := h2 es hes; omega⟩
  · cases h
theorem below_alloc' {w W : World} (h : Below w.heap.size w W) (o : Obj) : Below w.heap.size w (W.alloc o) := h.alloc h.size o
theorem prAt_nil (W : World) : PrAt W (.slice none 0 0) [] := ⟨none, 0, rfl, fun _ h => absurd h (Nat.not_lt_zero _)⟩
set_option maxRecDepth 100000 in
set_option maxHeartbeats 2000000 in
/-- suffix.readImage -/
theorem prdimg (l : List UInt8) (w : World) (hw : LWt w) : Calls Tryz.prog 38 #[.string ⟨l.toArray⟩] w fun e w' => Below w.heap.size w w' ∧ ∃ v, e = .returned (.tuple #[v, .int .i64 (opn l).2]) ∧ PrAt w' v (opn l).1 := by
  have HRD := hide (preadS l w)
  obtain ⟨D, hD⟩ : ∃ D : ByteArray, ⟨l.toArray⟩ = D := ⟨_, rfl⟩
  have hDl : D.data.toList = l := by rw [← hD]
  have hDs : D.size = l.length := by rw [← ba_len, hDl]
  rw [hD] at HRD ⊢
  by_cases hlong : 8000 < l.length
  · have ho : opn l = ([], 1) := by unfold opn; rw [if_pos hlong]
    have HO := hide ho
    have hs : 8000 < D.size := by omega
    clear HRD hD hDl hDs hlong ho hw
    go_enter Tryz.func38, Tryz.ntmps38
    go_wp2
    go_ret2
    rw [HO.out]
    exact ⟨Below.refl _ _, _, rfl, prAt_nil _⟩
  · have hs : D.size ≤ 8000 := by omega
    have HDL := hide hDl
    cases hr : Sx.rdImg l with
    | none =>
      have ho : opn l = ([], 6) := by unfold opn; rw [if_neg hlong, hr]
      have HO := hide ho
      have HRD2 := HRD.out
      rw [hr, Option.isSome_none] at HRD2
      have HR := hide HRD2
      clear HRD HRD2 hD hDl hDs hlong ho hw hr
      go_enter Tryz.func38, Tryz.ntmps38
      go_wp2_with fail
      refine HR.out.mono ?_
      rintro e w1 ⟨hB1, sv, rfl, ⟨sp, sn, sc, rfl⟩, -⟩
      have HB1 := hide (fun o => below_alloc' hB1 o)
      clear hB1 HR
      go_wp2
      go_ret2
      rw [HO.out]
      exact ⟨HB1.out _, _, rfl, prAt_nil _⟩
    | some tab =>
      have hord := rdImg_ord hr
      obtain ⟨hlen, hedg⟩ := rdImg_len hr (by omega)
      have hrt := kfA_rt hord
      have ho : opn l = if Sx.imgT (Sx.tabOf (kfA tab [])) = l then (kfA tab [], 0) else ([], 6) := by unfold opn; rw [if_neg hlong, hr]
      have HRD2 := HRD.out
      rw [hr, Option.isSome_some] at HRD2
      have HR := hide HRD2
      have HKEYS := hide (fun b hb sv W hB hn hT hr => pkeys w hw b hb sv tab hord hedg hlen [] W hB hn hT hr (by simp))
      obtain ⟨rs, hrs⟩ : ∃ rs, kfA tab [] = rs := ⟨_, rfl⟩
      rw [hrs] at hrt ho HKEYS
      have HIMG := hide (fun v W hv => prsimg rs v W hv hrt.rls)
      obtain ⟨I, hI⟩ : ∃ I : ByteArray, ⟨(Sx.imgT (Sx.tabOf rs)).toArray⟩ = I := ⟨_, rfl⟩
      rw [hI] at HIMG
      have hIl : I.data.toList = Sx.imgT (Sx.tabOf rs) := by rw [← hI]
      rw [← hIl, ← hDl] at ho
      have HO := hide ho
      have HT : Hid (∀ tab', some tab = some tab' → tab' = tab) := hide (fun t e => (Option.some.inj e).symm)
      clear HRD HRD2 hD hDl hDs hlong ho hr hord hlen hedg hrs hI hIl hrt
      go_enter Tryz.func38, Tryz.ntmps38
      go_wp2_with fail
      refine HR.out.mono ?_
      rintro e w1 ⟨hB1, sv, rfl, -, hsv⟩
      obtain ⟨vs, hta⟩ := hsv tab rfl
      have HTA := hide hta
      have HB1 := hide hB1
      obtain ⟨ap, ac, rfl⟩ := own_shapeK hta.row
      clear hsv hta hB1 HR
      go_wp2_with fail
      have hA0 : Below w1.heap.size w1 ((w1.alloc (.cells #[.slice ap tab.length ac] 111)).alloc (.cells #[.slice none 0 0] 54)) := ((Below.refl _ _).alloc (Nat.le_refl _) _).alloc (by simp) _
      have hz1 := HB1.out.size
      have hrs0 : RsAt ((w1.alloc (.cells #[.slice ap tab.length ac] 111)).alloc (.cells #[.slice none 0 0] 54)) (w1.heap.size + 1) [] := by
        refine ⟨.slice none 0 0, ?_, World.ownsRow_nil _ _ _ _⟩
        have := heap_alloc_new (w1.alloc (.cells #[.slice ap tab.length ac] 111)) (.cells #[.slice none 0 0] 54)
        rw [World.size_alloc] at this
        exact this
      refine (HKEYS.out (w1.heap.size + 1) (by omega) _ _ (HB1.out.trans (hA0.mono hz1)) (fun h => ⟨ap, ac, by rw [h]; rfl⟩) (fun h0 => ?_) hrs0).mono ?_
      · exact TabR.below' (tabR_at HTA.out (Nat.le_refl _) h0) hA0 (Nat.le_refl _) (by omega)
      rintro e w2 ⟨⟨u, rfl⟩, hB2, rv, hbx, hrow⟩
      have hB2' : Below w.heap.size w w2 := (HB1.out.trans (hA0.mono hz1)).trans (hB2.mono (by omega))
      have hcell : w2.cell? ⟨w1.heap.size + 1, 0, none⟩ = some rv := by rw [Lib.cell_of_heap hbx]; rfl
      have HPR := hide (prAt_own hrow)
      have HB2 := hide hB2'
      obtain ⟨rp, rc, rfl⟩ := own_shapeK hrow
      clear hbx hrow hB2 hB2' hA0 hrs0 HTA HKEYS
      go_wp2_with fail
      refine (HIMG.out _ _ HPR.out).mono ?_
      rintro e w3 ⟨rfl, hB3⟩
      have HPR3 := hide (HPR.out.below hB3)
      have HB3 : Hid (Below w.heap.size w w3) := hide (HB2.out.trans (hB3.mono HB2.out.size))
      have hcell3 : w3.cell? ⟨w1.heap.size + 1, 0, none⟩ = some (.slice rp rs.length rc) := (hB3.cell (p := ⟨w1.heap.size + 1, 0, none⟩) (cell_has hcell)).trans hcell
      clear hB3 hcell HPR HB2 HIMG
      cases hcmp : (I.toList == D.toList) with
      | true =>
        have hq : I.data.toList = D.data.toList := by
          rw [ByteArray.toList_eq, ByteArray.toList_eq] at hcmp
          simpa using hcmp
        have HQ := hide hq
        clear hq
        go_wp2
        go_ret2
        rw [← HDL.out, HO.out, if_pos HQ.out]
        exact ⟨HB3.out, _, rfl, HPR3.out⟩
      | false =>
        have hq : ¬ I.data.toList = D.data.toList := by
          rw [ByteArray.toList_eq, ByteArray.toList_eq] at hcmp
          simpa using hcmp
        have HQ := hide hq
        clear hq
        go_wp2
        go_ret2
        rw [← HDL.out, HO.out, if_neg HQ.out]
        exact ⟨HB3.out, _, rfl, prAt_nil _⟩
end Go.Proofs.YtgohllfpceeboabGreatDoor

namespace Go.Proofs.YtgohllfpceeboabGreatDoor
open Go.ChangeShapes Go.WideShapes Go.ChangeAt Go.RowKit Go.Deep
theorem Tryz.cells61 : Tryz.prog.cellsOf 61 = 5 := by kernel_rfl
theorem i64_wf {n : Int} (h : (Lit.int .i64 n).wf = true) : -9223372036854775808 ≤ n ∧ n ≤ 9223372036854775807 := by
  simp [Lit.wf, IntKind.min, IntKind.max, IntKind.signed, IntKind.bits] at h
  omega
set_option maxRecDepth 100000 in
/-- A raw rule, opened: its five cells. -/
theorem rule_open {H : Type} {enc : TypeId × Value → H} {w : World} {base : Nat} {spare : Nat → Bool} {held : Bool} {fuel : Nat} {cs : List Value} {x : DataW H × List MemPlace} (h : DataW.trod enc Tryz.prog w base spare held fuel 61 cs = some x) :
    ∃ q : Sx.RawR, cs = [.int .i64 q.1, .int .i64 q.2.1, .int .i64 q.2.2.1, .int .i64 q.2.2.2.1, .int .i64 q.2.2.2.2] ∧ RawOk q := by
  obtain ⟨xs, n, rfl, -, hl, hx, hf⟩ := DataW.trod_struct Tryz.underlying61 h
  rw [Tryz.cells61] at hl
  have hx2 : xs.length = 5 := hx
  have f0 : DataW.trod enc Tryz.prog w base spare held n 3 ((cs.drop 0).take (Tryz.prog.cellsOf 3)) = xs[0]? := hf 0 _ rfl
  have f1 : DataW.trod enc Tryz.prog w base spare held n 3 ((cs.drop 1).take (Tryz.prog.cellsOf 3)) = xs[1]? := hf 1 _ rfl
  have f2 : DataW.trod enc Tryz.prog w base spare held n 3 ((cs.drop 2).take (Tryz.prog.cellsOf 3)) = xs[2]? := hf 2 _ rfl
  have f3 : DataW.trod enc Tryz.prog w base spare held n 3 ((cs.drop 3).take (Tryz.prog.cellsOf 3)) = xs[3]? := hf 3 _ rfl
  have f4 : DataW.trod enc Tryz.prog w base spare held n 3 ((cs.drop 4).take (Tryz.prog.cellsOf 3)) = xs[4]? := hf 4 _ rfl
  rw [List.getElem?_eq_getElem (by omega)] at f0 f1 f2 f3 f4
  obtain ⟨a0, e0, -, w0⟩ := DataW.trod_int Tryz.underlying3 f0
  obtain ⟨a1, e1, -, w1⟩ := DataW.trod_int Tryz.underlying3 f1
  obtain ⟨a2, e2, -, w2⟩ := DataW.trod_int Tryz.underlying3 f2
  obtain ⟨a3, e3, -, w3⟩ := DataW.trod_int Tryz.underlying3 f3
  obtain ⟨a4, e4, -, w4⟩ := DataW.trod_int Tryz.underlying3 f4
  rw [Tryz.cells3] at e0 e1 e2 e3 e4
  have g0 := one_of_part e0
  have g1 := one_of_part e1
  have g2 := one_of_part e2
  have g3 := one_of_part e3
  have g4 := one_of_part e4
  refine ⟨(a0, a1, a2, a3, a4), ?_, i64_wf w0, i64_wf w1, i64_wf w2, i64_wf w3, i64_wf w4⟩
  match cs, hl with
  | [c0, c1, c2, c3, c4], _ =>
    simp only [List.getElem?_cons_zero, List.getElem?_cons_succ, Option.some.injEq] at g0 g1 g2 g3 g4
    subst g0 g1 g2 g3 g4
    rfl
set_option maxRecDepth 100000 in
/-- Raw rules that came in, opened. -/
theorem rules_open {H : Type} {enc : TypeId × Value → H} {w : World} {fuel : Nat} {v : Value} {x : DataW H × List MemPlace} (h : DataW.trod enc Tryz.prog w 0 (fun _ => true) true fuel 22 [v] = some x) :
    ∃ l : List Sx.RawR, l.length ≤ 9223372036854775807 ∧ RdR w v l := by
  rcases open_slice Tryz.underlying22 h with ⟨hcs, -⟩ | ⟨a, len, cap, m, n2, D, Pl, hcs, -, hl2, hm, hmm, -, hel⟩
  · simp only [List.cons.injEq, and_true] at hcs
    subst hcs
    exact ⟨[], by simp, none, 0, rfl, by simp, fun j hj => absurd hj (Nat.not_lt_zero _)⟩
  · simp only [List.cons.injEq, and_true] at hcs
    subst hcs
    simp only [if_true] at hmm
    subst hmm
    rw [Tryz.cells61] at hel
    obtain ⟨S, hS⟩ := choose_lt (α := Sx.RawR) (p := fun i q => w.cells? 0 (a.add (i * 5)) 5 = some [.int .i64 q.1, .int .i64 q.2.1, .int .i64 q.2.2.1, .int .i64 q.2.2.2.1, .int .i64 q.2.2.2.2] ∧ RawOk q) (fun i (hi : i < len) => by
      obtain ⟨cs', g1, g2⟩ := hel i (by omega)
      obtain ⟨q, rfl, g3⟩ := rule_open g2
      exact ⟨q, g1, g3⟩)
    have hLl : ((List.range len).map S).length = len := by simp
    have hml : len ≤ 9223372036854775807 := by have := Nat.le_trans hl2 hm; unfold maxLen at this; omega
    refine ⟨(List.range len).map S, by rw [hLl]; exact hml, some a, _, by rw [hLl], fun q hq => ?_, fun j hj => ?_⟩
    · obtain ⟨i, hi, rfl⟩ := List.mem_map.1 hq
      exact (hS i (List.mem_range.1 hi)).2
    · rw [hLl] at hj
      obtain ⟨b, off, spot⟩ := a
      have hc : ∀ j, j < len → ∀ i u, ([Value.int .i64 (S j).1, .int .i64 (S j).2.1, .int .i64 (S j).2.2.1, .int .i64 (S j).2.2.2.1, .int .i64 (S j).2.2.2.2])[i]? = some u → w.cell? ((⟨b, off, spot⟩ : Addr).add (j * 5) |>.add i) = some u := fun j hj i u hu => by
        obtain ⟨-, hlen, hcell⟩ := World.cells?_some (hS j hj).1
        have hi : i < 5 := by rw [← hlen]; exact (List.getElem?_eq_some_iff.1 hu).1
        rw [hcell i hi]; exact hu
      have hspot : spot = none := by
        have := hc 0 (by omega) 0 _ rfl
        simpa [Addr.add] using World.cell?_spot this
      subst hspot
      have hadd : ∀ j i, ((⟨b, off, none⟩ : Addr).add (j * 5)).add i = ⟨b, off + j * 5 + i, none⟩ := fun j i => by rw [Addr.add_lit, Addr.add_lit]
      have h0 := hc j hj 0 _ rfl
      have h1 := hc j hj 1 _ rfl
      have h2 := hc j hj 2 _ rfl
      have h3 := hc j hj 3 _ rfl
      have h4 := hc j hj 4 _ rfl
      rw [hadd] at h0 h1 h2 h3 h4
      rw [Nat.add_zero] at h0
      have hSj : ((List.range len).map S)[j]'(by rw [hLl]; exact hj) = S j := by simp
      refine ⟨b, off, rfl, cell_has h0, ?_⟩
      rw [hSj]
      exact ⟨h0, h1, h2, h3, h4⟩
end Go.Proofs.YtgohllfpceeboabGreatDoor

namespace Go.Proofs.YtgohllfpceeboabGreatDoor
open Go.RowKit
/-- How many labels are public by a rule. -/
def pubI (r : Sx.Rl) : Int := if r.2.1 = 42 then (r.1.length : Int) + 1 else if r.2.1 = 33 then (r.1.length : Int) - 1 else r.1.length
theorem kd_int (k n : UInt8) : (k = n) = ((k.toNat : Int) = (n.toNat : Int)) := propext ⟨fun h => by rw [h], fun h => UInt8.toNat_inj.1 (by omega)⟩
set_option maxRecDepth 100000 in
/-- (suffix.rule).public -/
theorem ppubl (r : Sx.Rl) (w : World) (hl : r.1.length ≤ 1000) : Calls Tryz.prog 64 #[ruA r] w fun e w' => e = .returned (.int .i64 (pubI r)) ∧ Below w.heap.size w w' := by
  obtain ⟨h, k, sc⟩ := r
  unfold ruA pubI
  dsimp only at hl ⊢
  simp only [kd_int]
  obtain ⟨X, hX⟩ : ∃ X : ByteArray, ⟨(Sx.dotted h).toArray⟩ = X := ⟨_, rfl⟩
  obtain ⟨M, hM⟩ : ∃ M, h.length = M := ⟨_, rfl⟩
  obtain ⟨K, hK⟩ : ∃ K : Int, (k.toNat : Int) = K := ⟨_, rfl⟩
  rw [hX, hM, hK]
  rw [hM] at hl
  clear hX hM hK
  have HB : Hid (∀ o, Below w.heap.size w (w.alloc o)) := hide (fun o => (Below.refl _ _).alloc (Nat.le_refl _) o)
  show Calls _ _ _ _ fun e w' => e = .returned (.int .i64 (if K = 42 then (M : Int) + 1 else if K = 33 then (M : Int) - 1 else M)) ∧ _
  go_enter Tryz.func64, Tryz.ntmps64
  by_cases h1 : K = 42
  · subst h1
    go_wp2
    go_ret
    exact ⟨rfl, HB.out _⟩
  · have e1 : (K == 42) = false := by simpa using h1
    by_cases h2 : K = 33
    · subst h2
      go_wp2
      go_ret
      exact ⟨rfl, HB.out _⟩
    · have e2 : (K == 33) = false := by simpa using h2
      rw [if_neg h1, if_neg h2]
      go_wp2
      go_ret
      exact ⟨rfl, HB.out _⟩
end Go.Proofs.YtgohllfpceeboabGreatDoor

namespace Sx
/-- Whether a host ends with all labels of another. -/
def endsL (h t : List (List UInt8)) : Bool := decide (t.length ≤ h.length) && decide (h.drop (h.length - t.length) = t)
end Sx
namespace Go.Proofs.YtgohllfpceeboabGreatDoor
open Go.RowKit
end Go.Proofs.YtgohllfpceeboabGreatDoor

namespace Sx
/-- How many labels a rule that fits has, a wild one counting one more. -/
def fitN (h : List (List UInt8)) (r : Rl) : Option Nat :=
  if endsL h r.1 = true then (if r.2.1 = 42 then (if r.1.length < h.length then some (r.1.length + 1) else none) else some r.1.length) else none
/-- The better one of what was found and a rule more. -/
def bestS (h : List (List UInt8)) (st : Option (Nat × Rl)) (r : Rl) : Option (Nat × Rl) :=
  match fitN h r with
  | none => st
  | some n => match st with
    | none => some (n, r)
    | some (cnt, b) =>
      if r.2.1 = 33 ∧ (b.2.1 ≠ 33 ∨ cnt < n) then some (n, r)
      else if r.2.1 ≠ 33 ∧ b.2.1 ≠ 33 ∧ (cnt < n ∨ (n = cnt ∧ r.2.1 = 36)) then some (n, r) else some (cnt, b)
def bestOf (h : List (List UInt8)) (rs : List Rl) : Option (Nat × Rl) := rs.foldl (bestS h) none
/-- How many labels are public; the section. -/
def pubL (h : List (List UInt8)) (rs : List Rl) : Nat × UInt8 :=
  match bestOf h rs with
  | none => (1, 45)
  | some (n, r) => (if r.2.1 = 33 then n - 1 else n, r.2.2)
end Sx
namespace Go.Proofs.YtgohllfpceeboabGreatDoor
open Go.RowKit
end Go.Proofs.YtgohllfpceeboabGreatDoor

namespace Go.Proofs.YtgohllfpceeboabGreatDoor
open Sx
theorem splB_cons (a : UInt8) (r cur : List UInt8) : splB (a :: r) cur = if a = 46 then cur :: splB r [] else splB r (cur ++ [a]) := by conv => lhs; unfold splB
theorem splB_app : ∀ (x y cur : List UInt8), splB (x ++ 46 :: y) cur = splB x cur ++ splB y []
  | [], y, cur => by simp [splB]
  | a :: x, y, cur => by
    rw [List.cons_append, splB_cons, splB_cons]
    split
    · rw [splB_app x y []]; rfl
    · exact splB_app x y _
theorem dotted_app : ∀ (a t : List (List UInt8)), a ≠ [] → t ≠ [] → dotted (a ++ t) = dotted a ++ 46 :: dotted t
  | [], _, h, _ => absurd rfl h
  | [x], t, _, ht => by
    cases t with
    | nil => exact absurd rfl ht
    | cons y r => simp [dotted]
  | x :: y :: r, t, _, ht => by
    have := dotted_app (y :: r) t (by simp) ht
    rw [List.cons_append, List.cons_append, dotted_cons, ← List.cons_append, this, dotted_cons]
    simp
theorem ho46 {h : List (List UInt8)} (hh : HostOk h) : ∀ x ∈ h, ∀ b ∈ x, b ≠ 46 := fun x hx b hb => plB_no46 ((hh.2.2.2 x hx).2 b hb)
theorem dotted_eq {h t : List (List UInt8)} (hh : HostOk h) (ht : HostOk t) : (dotted h = dotted t) ↔ h = t :=
  ⟨fun e => dotted_inj h t hh.1 ht.1 (ho46 hh) (ho46 ht) e, fun e => by rw [e]⟩
theorem splB_ne : ∀ (x cur : List UInt8), splB x cur ≠ []
  | [], cur => by simp [splB]
  | a :: x, cur => by
    unfold splB
    split
    · simp
    · exact splB_ne x _
theorem suf_iff {h t : List (List UInt8)} (hh : HostOk h) (ht : HostOk t) : suffixB (dotted h) (46 :: dotted t) = true ↔ endsL h t = true ∧ t.length < h.length := by
  unfold suffixB endsL
  simp only [Bool.and_eq_true, decide_eq_true_eq, beq_iff_eq]
  constructor
  · rintro ⟨h1, h2⟩
    have e : dotted h = (dotted h).take ((dotted h).length - (46 :: dotted t).length) ++ 46 :: dotted t := by
      conv => lhs; rw [← List.take_append_drop ((dotted h).length - (46 :: dotted t).length) (dotted h), h2]
    have e2 := splB_dotted h hh.1 (ho46 hh)
    rw [e, splB_app, splB_dotted t ht.1 (ho46 ht)] at e2
    obtain ⟨a, ha⟩ : ∃ a, splB ((dotted h).take ((dotted h).length - (46 :: dotted t).length)) [] = a := ⟨_, rfl⟩
    have hne := splB_ne ((dotted h).take ((dotted h).length - (46 :: dotted t).length)) []
    rw [ha] at e2 hne
    have hp : 0 < a.length := List.length_pos_iff.2 hne
    rw [← e2]
    simp only [List.length_append]
    refine ⟨⟨by omega, ?_⟩, by omega⟩
    rw [show a.length + t.length - t.length = a.length by omega, List.drop_left]
  · rintro ⟨⟨h1, h2⟩, h3⟩
    have e : h = h.take (h.length - t.length) ++ t := by
      conv => lhs; rw [← List.take_append_drop (h.length - t.length) h, h2]
    have hne : h.take (h.length - t.length) ≠ [] := by
      intro e0
      have := congrArg List.length e0
      simp only [List.length_take, List.length_nil] at this
      omega
    rw [e, dotted_app _ t hne ht.1]
    simp only [List.length_append, List.length_cons]
    refine ⟨by omega, ?_⟩
    rw [show (dotted (h.take (h.length - t.length))).length + ((dotted t).length + 1) - ((dotted t).length + 1) = (dotted (h.take (h.length - t.length))).length by omega, List.drop_left]
/-- Does a rule say something of a host in plain form? -/
def fitB (r : Rl) (p : List UInt8) : Bool := suffixB p (46 :: dotted r.1) || (decide (p = dotted r.1) && decide (r.2.1 ≠ 42))
/-- Does a rule prevail over another? -/
def prevB (r o : Rl) : Bool := if r.2.1 ≠ o.2.1 ∧ (r.2.1 = 33 ∨ o.2.1 = 33) then decide (r.2.1 = 33) else if pubI r ≠ pubI o then decide (pubI r > pubI o) else decide (r.2.1 = 36)
/-- The rule that prevails. -/
def prvS (p : List UInt8) (best r : Rl) : Rl := if (fitB r p && prevB r best) = true then r else best
def prvl (rs : List Rl) (p : List UInt8) : Rl := rs.foldl (prvS p) ([], 42, 45)
theorem fit_is {h : List (List UInt8)} {r : Rl} (hh : HostOk h) (hr : RlOk r) : fitN h r = if fitB r (dotted h) = true then some (r.1.length + if r.2.1 = 42 then 1 else 0) else none := by
  have h1 := suf_iff hh hr.1
  have h2 := dotted_eq hh hr.1
  have hend : endsL h r.1 = true → (r.1.length < h.length ∨ h = r.1) := by
    unfold endsL
    simp only [Bool.and_eq_true, decide_eq_true_eq]
    rintro ⟨a, b⟩
    by_cases hl : r.1.length < h.length
    · exact Or.inl hl
    · right
      rw [show h.length - r.1.length = 0 by omega, List.drop_zero] at b
      exact b
  have hself : h = r.1 → endsL h r.1 = true := by
    rintro rfl
    simp [endsL]
  unfold fitN fitB
  simp only [Bool.or_eq_true, Bool.and_eq_true, decide_eq_true_eq]
  by_cases he : endsL h r.1 = true
  · rw [if_pos he]
    by_cases hk : r.2.1 = 42
    · rw [if_pos hk, if_pos hk]
      by_cases hl : r.1.length < h.length
      · rw [if_pos hl, if_pos (Or.inl (h1.2 ⟨he, hl⟩))]
      · rw [if_neg hl, if_neg]
        rintro (q | q)
        · exact hl (h1.1 q).2
        · exact q.2 hk
    · rw [if_neg hk, if_neg hk, if_pos]
      · rfl
      · rcases hend he with q | q
        · exact Or.inl (h1.2 ⟨he, q⟩)
        · exact Or.inr ⟨h2.2 q, hk⟩
  · rw [if_neg he, if_neg]
    rintro (q | q)
    · exact he (h1.1 q).1
    · exact he (hself (h2.1 q.1))
/-- What was found, told twice. -/
def Same (st : Option (Nat × Rl)) (best : Rl) : Prop := match st with
  | none => best = ([], 42, 45)
  | some (n, r) => best = r ∧ RlRt r ∧ n = r.1.length + if r.2.1 = 42 then 1 else 0
theorem same_step {h : List (List UInt8)} (hh : HostOk h) {st : Option (Nat × Rl)} {best r : Rl} (hr : RlRt r) (hs : Same st best) : Same (bestS h st r) (prvS (dotted h) best r) := by
  have hlen : 0 < r.1.length := List.length_pos_iff.2 hr.ok.1.1
  have hk := hr.2.1
  have hx := hr.2.2.1
  unfold bestS prvS
  rw [fit_is hh hr.ok]
  cases hf : fitB r (dotted h) with
  | false => simpa using hs
  | true =>
    simp only [if_true, Bool.true_and]
    cases st with
    | none =>
      obtain rfl : best = ([], 42, 45) := hs
      have : prevB r ([], 42, 45) = true := by
        unfold prevB pubI
        rcases hk with e | e | e
        · simp only [e]
          by_cases h1 : r.1.length = 1
          · simp [h1]
          · simp; omega
        · simp only [e]; simp; omega
        · simp [e]
      rw [if_pos this]
      exact ⟨rfl, hr, rfl⟩
    | some x =>
      obtain ⟨cnt, b⟩ := x
      obtain ⟨rfl, hb, rfl⟩ := hs
      have hlb : 0 < best.1.length := List.length_pos_iff.2 hb.ok.1.1
      have hkb := hb.2.1
      simp only
      have yes : prevB r best = (decide (r.2.1 = 33 ∧ (best.2.1 ≠ 33 ∨ (best.1.length + if best.2.1 = 42 then 1 else 0) < (r.1.length + if r.2.1 = 42 then 1 else 0))) || decide (r.2.1 ≠ 33 ∧ best.2.1 ≠ 33 ∧ ((best.1.length + if best.2.1 = 42 then 1 else 0) < (r.1.length + if r.2.1 = 42 then 1 else 0) ∨ ((r.1.length + if r.2.1 = 42 then 1 else 0) = (best.1.length + if best.2.1 = 42 then 1 else 0) ∧ r.2.1 = 36)))) := by
        rw [Bool.eq_iff_iff]
        unfold prevB pubI
        rcases hk with e | e | e <;> rcases hkb with e' | e' | e' <;> simp only [e, e'] <;> simp <;> (try split) <;> (try simp) <;> (try omega)
      rw [yes]
      by_cases c1 : r.2.1 = 33 ∧ (best.2.1 ≠ 33 ∨ (best.1.length + if best.2.1 = 42 then 1 else 0) < (r.1.length + if r.2.1 = 42 then 1 else 0))
      · rw [if_pos c1, decide_eq_true c1, Bool.true_or, if_pos rfl]
        exact ⟨rfl, hr, rfl⟩
      · rw [if_neg c1, decide_eq_false c1, Bool.false_or]
        by_cases c2 : r.2.1 ≠ 33 ∧ best.2.1 ≠ 33 ∧ ((best.1.length + if best.2.1 = 42 then 1 else 0) < (r.1.length + if r.2.1 = 42 then 1 else 0) ∨ ((r.1.length + if r.2.1 = 42 then 1 else 0) = (best.1.length + if best.2.1 = 42 then 1 else 0) ∧ r.2.1 = 36))
        · rw [if_pos c2, if_pos (decide_eq_true c2)]
          exact ⟨rfl, hr, rfl⟩
        · rw [if_neg c2, decide_eq_false c2]
          exact ⟨rfl, hb, rfl⟩
theorem same_all {h : List (List UInt8)} (hh : HostOk h) : ∀ (rs : List Rl) (st : Option (Nat × Rl)) (best : Rl), (∀ r ∈ rs, RlRt r) → Same st best → Same (rs.foldl (bestS h) st) (rs.foldl (prvS (dotted h)) best)
  | [], _, _, _, hs => hs
  | r :: rs, st, best, hr, hs => same_all hh rs _ _ (fun q hq => hr q (by simp [hq])) (same_step hh (hr r (by simp)) hs)
/-- What prevails in the program is what the document asks. -/
theorem prvl_pub {h : List (List UInt8)} (hh : HostOk h) {rs : List Rl} (hr : ∀ r ∈ rs, RlRt r) : pubI (prvl rs (dotted h)) = ((pubL h rs).1 : Int) ∧ (prvl rs (dotted h)).2.2 = (pubL h rs).2 ∧ 1 ≤ (pubL h rs).1 := by
  have := same_all hh rs none ([], 42, 45) hr rfl
  unfold prvl pubL bestOf
  cases hb : rs.foldl (bestS h) none with
  | none =>
    rw [hb] at this
    have e : rs.foldl (prvS (dotted h)) ([], 42, 45) = ([], 42, 45) := this
    rw [e]
    exact ⟨rfl, rfl, Nat.le_refl _⟩
  | some x =>
    obtain ⟨n, r⟩ := x
    rw [hb] at this
    obtain ⟨e, hr, rfl⟩ := this
    have hlen : 0 < r.1.length := List.length_pos_iff.2 hr.ok.1.1
    rw [e]
    unfold pubI
    simp only
    refine ⟨?_, trivial, ?_⟩
    · rcases hr.2.1 with k | k | k
      · simp [k]
      · simp [k]
      · have := hr.2.2.1 k
        simp [k]; omega
    · rcases hr.2.1 with k | k | k
      · simp [k]; omega
      · simp [k]
      · have := hr.2.2.1 k
        simp [k]; omega
theorem bestS_le (h : List (List UInt8)) : ∀ (rs : List Rl) (st : Option (Nat × Rl)), (∀ x, st = some x → x.1 ≤ h.length) → ∀ x, rs.foldl (bestS h) st = some x → x.1 ≤ h.length
  | [], _, hs => hs
  | r :: rs, st, hs => bestS_le h rs _ (by
    intro x hx
    have hfit : ∀ n, fitN h r = some n → n ≤ h.length := by
      intro n hn
      unfold fitN endsL at hn
      split at hn
      · rename_i he
        simp only [Bool.and_eq_true, decide_eq_true_eq] at he
        split at hn
        · split at hn
          · obtain rfl := Option.some.inj hn; omega
          · cases hn
        · obtain rfl := Option.some.inj hn; exact he.1
      · cases hn
    unfold bestS at hx
    cases hf : fitN h r with
    | none => rw [hf] at hx; exact hs x hx
    | some n =>
      rw [hf] at hx
      have hn := hfit n hf
      cases st with
      | none => simp only [Option.some.injEq] at hx; subst hx; exact hn
      | some y =>
        obtain ⟨c, b⟩ := y
        simp only at hx
        have hc := hs (c, b) rfl
        split at hx
        · obtain rfl := Option.some.inj hx; exact hn
        · split at hx
          · obtain rfl := Option.some.inj hx; exact hn
          · obtain rfl := Option.some.inj hx; exact hc)
theorem pubL_le {h : List (List UInt8)} (hn : h ≠ []) (rs : List Rl) : (pubL h rs).1 ≤ h.length := by
  have hp : 0 < h.length := List.length_pos_iff.2 hn
  unfold pubL
  have := bestS_le h rs none (by simp)
  unfold bestOf
  cases hb : rs.foldl (bestS h) none with
  | none => simp only; omega
  | some x =>
    obtain ⟨n, r⟩ := x
    have := this _ hb
    simp only at this ⊢
    split <;> omega
/-- The last labels of a text, so many; nothing, if there are fewer. -/
def lastP (p : List UInt8) (n : Int) : List UInt8 := if 1 ≤ n ∧ n ≤ (pcs p).length then dotted ((pcs p).take n.toNat).reverse else []
theorem pcs_dottedH {h : List (List UInt8)} (hh : HostOk h) : pcs (dotted h) = h.reverse := by
  have := pcs_revL (dotted h)
  rw [splB_dotted h hh.1 (ho46 hh)] at this
  have h2 := congrArg List.reverse this
  rwa [List.reverse_reverse] at h2
theorem lastP_is {h : List (List UInt8)} (hh : HostOk h) (n : Nat) (hn : 1 ≤ n) : lastP (dotted h) n = if n ≤ h.length then dotted (h.drop (h.length - n)) else [] := by
  unfold lastP
  rw [pcs_dottedH hh, List.length_reverse]
  by_cases h1 : n ≤ h.length
  · rw [if_pos h1, if_pos (by omega)]
    congr 1
    rw [Int.toNat_natCast, List.take_reverse, List.reverse_reverse]
  · rw [if_neg h1, if_neg (by omega)]
end Go.Proofs.YtgohllfpceeboabGreatDoor

