import Derived.Test.YtgohllfpceeboaaGreatDoorGal
import Derived.Test.YtgohllfpceeboaaGreatDoorGaa
import Derived.Test.YtgohllfpceeboaaGreatDoorGam
import Derived.Test.YtgohllfpceeboaaGreatDoorGao
import Derived.Test.YtgohllfpceeboaaGreatDoorProg
import Derived.Test.YtgohllfpceeboaaGreatDoorRefE
import Derived.Test.YtgohllfpceeboaaGreatDoorGaf
import Derived.Test.YtgohllfpceeboaaGreatDoorGag
import Derived.Test.YtgohllfpceeboaaGreatDoorGai
import Derived.Test.YtgohllfpceeboaaGreatDoorGaj
namespace Sx
/-- The words along the ways from a state on. -/
def wds : Nat → List (List Edg) → Nat → List Wd
  | 0, _, _ => []
  | f + 1, tab, i => match tab[i]? with
    | none => []
    | some [] => [[]]
    | some (e :: es) => (e :: es).flatMap fun e => (wds f tab e.2).map (e.1 :: ·)
def Closed (tab : List (List Edg)) : Prop := ∀ es ∈ tab, ∀ e ∈ es, e.2 < tab.length
theorem wds_ext {tab : List (List Edg)} (hc : Closed tab) (ext : List (List Edg)) : ∀ (f i : Nat), i < tab.length → wds f (tab ++ ext) i = wds f tab i
  | 0, _, _ => rfl
  | f + 1, i, hi => by
    have h1 : (tab ++ ext)[i]? = tab[i]? := List.getElem?_append_left hi
    unfold wds
    rw [h1]
    cases ht : tab[i]? with
    | none => rfl
    | some es =>
      cases es with
      | nil => rfl
      | cons e es =>
        have hm := List.mem_of_getElem? ht
        simp only
        rw [List.flatMap_def, List.flatMap_def]
        congr 1
        apply List.map_congr_left
        intro x hx
        rw [wds_ext hc ext f x.2 (hc _ hm x hx)]
/-- Tables only grow. -/
theorem edgF_ext : ∀ (n : Nat) (tab : List (List Edg)) (l : List Wd), ∃ ext, (edgF n tab l).1 = tab ++ ext
  | 0, tab, _ => ⟨[], by simp [edgF]⟩
  | n + 1, tab, l => by
    have fold : ∀ (gs : List (UInt8 × List Wd)) (s : List (List Edg) × List Edg), ∃ ext, (gs.foldl (edgE n) s).1 = s.1 ++ ext := by
      intro gs
      induction gs with
      | nil => intro s; exact ⟨[], by simp⟩
      | cons g gs ih =>
        intro s
        obtain ⟨e1, h1⟩ := edgF_ext n s.1 g.2
        obtain ⟨e2, h2⟩ := ih (edgE n s g)
        refine ⟨e1 ++ e2, ?_⟩
        rw [List.foldl_cons, h2]
        simp only [edgE]
        rw [h1, List.append_assoc]
    obtain ⟨ext, hx⟩ := fold (grp l) (tab, [])
    rw [edgF_succ]
    split
    · exact ⟨ext, hx⟩
    · exact ⟨ext ++ [_], by rw [hx, List.append_assoc]⟩
/-- The words along the ways are those that the states were made of. -/
theorem edgF_wds : ∀ (n : Nat) (tab : List (List Edg)) (l : List Wd), OkF n l → Closed tab → wds n (edgF n tab l).1 (edgF n tab l).2 = l
  | 0, _, _, h, _ => absurd h (by simp [OkF])
  | n + 1, tab, l, ho, hc => by
    have fold : ∀ (gs : List (UInt8 × List Wd)) (tab : List (List Edg)) (es : List Edg) (done : List (UInt8 × List Wd)), (∀ g ∈ gs, OkF n g.2) → Closed tab → (∀ e ∈ es, e.2 < tab.length) → es.map (fun e => (e.1, wds n tab e.2)) = done →
        Closed (gs.foldl (edgE n) (tab, es)).1 ∧ (∀ e ∈ (gs.foldl (edgE n) (tab, es)).2, e.2 < (gs.foldl (edgE n) (tab, es)).1.length) ∧ (gs.foldl (edgE n) (tab, es)).2.map (fun e => (e.1, wds n (gs.foldl (edgE n) (tab, es)).1 e.2)) = done ++ gs := by
      intro gs
      induction gs with
      | nil => intro tab es done _ h1 h2 h3; exact ⟨h1, h2, by simpa using h3⟩
      | cons g gs ih =>
        intro tab es done hg h1 h2 h3
        obtain ⟨a1, a2, a3, a4⟩ := edgF_len n tab g.2 (hg g (by simp)) h1
        have a5 := edgF_wds n tab g.2 (hg g (by simp)) h1
        obtain ⟨ext, hx⟩ := edgF_ext n tab g.2
        have h4 : (es ++ [(g.1, (edgF n tab g.2).2)]).map (fun e => (e.1, wds n (edgF n tab g.2).1 e.2)) = done ++ [g] := by
          rw [List.map_append]
          congr 1
          · rw [← h3]
            apply List.map_congr_left
            intro e he
            rw [hx, wds_ext h1 ext n e.2 (h2 e he)]
          · simp only [List.map_cons, List.map_nil, a5]
        have := ih (edgF n tab g.2).1 (es ++ [(g.1, (edgF n tab g.2).2)]) (done ++ [g]) (fun y hy => hg y (by simp [hy])) a4 (fun e he => by
          rcases List.mem_append.1 he with he | he
          · have := h2 e he; omega
          · rw [List.mem_singleton.1 he]; exact a3) h4
        rw [List.foldl_cons, show edgE n (tab, es) g = ((edgF n tab g.2).1, es ++ [(g.1, (edgF n tab g.2).2)]) from rfl]
        refine ⟨this.1, this.2.1, ?_⟩
        rw [this.2.2]
        simp
    obtain ⟨f1, f2, f3⟩ := fold (grp l) tab [] [] ho.2 hc (by simp) rfl
    rw [List.nil_append] at f3
    have key : ∀ (T : List (List Edg)) (i : Nat), T[i]? = some ((grp l).foldl (edgE n) (tab, [])).2 → (∀ e ∈ ((grp l).foldl (edgE n) (tab, [])).2, wds n T e.2 = wds n ((grp l).foldl (edgE n) (tab, [])).1 e.2) → wds (n + 1) T i = l := by
      intro T i hT hw
      unfold wds
      rw [hT]
      rcases ho.1 with rfl | ⟨_, hne⟩
      · have : ((grp [[]]).foldl (edgE n) (tab, [])).2 = [] := rfl
        rw [this]
      · have hu := ungrp_grp l hne
        cases hE : ((grp l).foldl (edgE n) (tab, [])).2 with
        | nil =>
          rw [hE] at f3
          simp only [List.map_nil] at f3
          rw [← f3] at hu
          exfalso
          have h0 : l = [] := by rw [← hu]; rfl
          rcases ho.1 with h | h
          · rw [h] at h0; cases h0
          · exact h.1 h0
        | cons e es =>
          simp only
          rw [hE] at f3 hw
          conv => rhs; rw [← hu, ← f3]
          unfold ungrp
          rw [List.flatMap_map, List.flatMap_def, List.flatMap_def]
          congr 1
          apply List.map_congr_left
          intro x hx
          rw [hw x hx]
    rw [edgF_succ]
    cases hp : posOf ((grp l).foldl (edgE n) (tab, [])).2 ((grp l).foldl (edgE n) (tab, [])).1 with
    | some i => exact key _ _ (posOf_get _ _ _ hp) (fun _ _ => rfl)
    | none =>
      refine key _ _ ?_ (fun e he => wds_ext f1 _ n e.2 (f2 e he))
      simp
end Sx

namespace Sx
/-- Edges as an image tells them: so many; and what is left. -/
def rdEdges : Nat → List UInt8 → Option (List Edg × List UInt8)
  | 0, b => some ([], b)
  | k + 1, c :: h :: l :: b => (rdEdges k b).map fun x => ((c, h.toNat * 256 + l.toNat) :: x.1, x.2)
  | _ + 1, _ => none
/-- So many states, from a number on: all bytes are used up, the last state alone is without edges, edges go to lower numbers. -/
def rdTab : Nat → Nat → List UInt8 → Option (List (List Edg))
  | 0, _, b => if b = [] then some [] else none
  | _ + 1, _, [] => none
  | m + 1, n, k :: r => match rdEdges k.toNat r with
    | none => none
    | some (es, r') => if (es = [] ↔ n = 0) ∧ ∀ e ∈ es, e.2 < n then (rdTab m (n + 1) r').map (es :: ·) else none
def rdImg : List UInt8 → Option (List (List Edg))
  | h :: l :: r => rdTab (h.toNat * 256 + l.toNat) 0 r
  | _ => none
theorem two_back (n : Nat) (h : n < 65536) : (UInt8.ofNat (n / 256)).toNat * 256 + (UInt8.ofNat (n % 256)).toNat = n := by
  simp only [UInt8.toNat_ofNat']
  omega
theorem rdEdges_tell : ∀ (es : List Edg) (r : List UInt8), (∀ e ∈ es, e.2 < 65536) → rdEdges es.length ((es.flatMap fun e => e.1 :: two e.2) ++ r) = some (es, r)
  | [], r, _ => rfl
  | e :: es, r, h => by
    have ih := rdEdges_tell es r (fun x hx => h x (by simp [hx]))
    simp only [List.flatMap_cons, two, List.cons_append, List.nil_append, List.length_cons, rdEdges]
    simp only [two] at ih
    rw [ih]
    simp only [Option.map_some, two_back e.2 (h e (by simp))]
/-- A table in the document's order. -/
def Ordered (tab : List (List Edg)) : Prop := ∀ i es, tab[i]? = some es → (es = [] ↔ i = 0) ∧ ∀ e ∈ es, e.2 < i
theorem rdTab_tell : ∀ (rest tab : List (List Edg)), Ordered (tab ++ rest) → (∀ es ∈ rest, es.length < 256 ∧ ∀ e ∈ es, e.2 < 65536) → rdTab rest.length tab.length (rest.flatMap tellE) = some rest
  | [], tab, _, _ => rfl
  | es :: rest, tab, ho, hb => by
    obtain ⟨h1, h2⟩ := hb es (by simp)
    have hk : (UInt8.ofNat es.length).toNat = es.length := by simp only [UInt8.toNat_ofNat']; omega
    have hi := ho tab.length es (by simp)
    have ih := rdTab_tell rest (tab ++ [es]) (by simpa using ho) (fun x hx => hb x (by simp [hx]))
    rw [List.length_append, List.length_singleton] at ih
    simp only [List.length_cons, List.flatMap_cons]
    rw [show tellE es ++ rest.flatMap tellE = UInt8.ofNat es.length :: ((es.flatMap fun e => e.1 :: two e.2) ++ rest.flatMap tellE) from rfl]
    simp only [rdTab]
    rw [hk, rdEdges_tell es _ h2]
    simp only
    rw [if_pos ⟨hi.1, hi.2⟩, ih]
    rfl
/-- AN IMAGE TELLS ITS TABLE. -/
theorem rdImg_back {tab : List (List Edg)} (ho : Ordered tab) (hl : tab.length < 65536) (hb : ∀ es ∈ tab, es.length < 256) : rdImg (imgT tab) = some tab := by
  have h2 : ∀ es ∈ tab, es.length < 256 ∧ ∀ e ∈ es, e.2 < 65536 := by
    intro es hes
    refine ⟨hb es hes, fun e he => ?_⟩
    obtain ⟨i, hi, rfl⟩ := List.mem_iff_getElem.1 hes
    have := (ho i tab[i] (List.getElem?_eq_getElem hi)).2 e he
    omega
  have := rdTab_tell tab [] (by simpa using ho) h2
  unfold imgT rdImg
  simp only [two, List.cons_append, List.nil_append, two_back tab.length hl]
  exact this
theorem grp_len : ∀ l : List Wd, (grp l).length ≤ l.length
  | [] => by simp [grp]
  | [] :: r => by have := grp_len r; simp only [grp, List.length_cons]; omega
  | (c :: t) :: r => by
    have ih := grp_len r
    unfold grp
    cases hr : grp r with
    | nil => simp
    | cons x g =>
      obtain ⟨d, b⟩ := x
      rw [hr] at ih
      by_cases e : d = c
      · simp only [e, if_true, List.length_cons] at ih ⊢; omega
      · simp only [e, if_false, List.length_cons] at ih ⊢; omega
theorem grp_each : ∀ (l : List Wd), ∀ g ∈ grp l, g.2.length ≤ l.length
  | [], g, hg => by simp [grp] at hg
  | [] :: r, g, hg => by have := grp_each r g (by simpa [grp] using hg); simp only [List.length_cons]; omega
  | (c :: t) :: r, g, hg => by
    have ih := grp_each r
    unfold grp at hg
    cases hr : grp r with
    | nil =>
      rw [hr] at hg
      simp only [List.mem_singleton] at hg
      subst hg
      simp
    | cons x g' =>
      obtain ⟨d, b⟩ := x
      rw [hr] at hg ih
      by_cases e : d = c
      · simp only [if_pos e, List.mem_cons] at hg
        rcases hg with rfl | hg
        · have := ih (d, b) (by simp); simp only [List.length_cons] at this ⊢; omega
        · have := ih g (by simp [hg]); simp only [List.length_cons]; omega
      · simp only [if_neg e, List.mem_cons] at hg
        rcases hg with rfl | rfl | hg
        · simp
        · have := ih (d, b) (by simp); simp only [List.length_cons] at this ⊢; omega
        · have := ih g (by simp [hg]); simp only [List.length_cons]; omega
theorem ordered_closed {tab : List (List Edg)} (h : Ordered tab) : Closed tab := by
  intro es hes e he
  obtain ⟨i, hi, rfl⟩ := List.mem_iff_getElem.1 hes
  have := (h i tab[i] (List.getElem?_eq_getElem hi)).2 e he
  omega
theorem edgE_len (n : Nat) : ∀ (gs : List (UInt8 × List Wd)) (s : List (List Edg) × List Edg), (gs.foldl (edgE n) s).2.length = s.2.length + gs.length
  | [], s => by simp
  | g :: gs, s => by
    rw [List.foldl_cons, edgE_len n gs]
    simp only [edgE, List.length_append, List.length_cons, List.length_nil]
    omega
/-- The table of words is in the document's order, with few edges a state. -/
theorem edgF_ordered : ∀ (n : Nat) (tab : List (List Edg)) (l : List Wd) (N : Nat), OkF n l → l.length ≤ N → Ordered tab → (∀ es ∈ tab, es.length ≤ N) → Ordered (edgF n tab l).1 ∧ ∀ es ∈ (edgF n tab l).1, es.length ≤ N
  | 0, _, _, _, h, _, _, _ => absurd h (by simp [OkF])
  | n + 1, tab, l, N, ho, hN, hO, hE => by
    have fold : ∀ (gs : List (UInt8 × List Wd)) (tab : List (List Edg)) (es : List Edg), (∀ g ∈ gs, OkF n g.2 ∧ g.2.length ≤ N) → Ordered tab → (∀ x ∈ tab, x.length ≤ N) → (∀ e ∈ es, e.2 < tab.length) →
        Ordered (gs.foldl (edgE n) (tab, es)).1 ∧ (∀ x ∈ (gs.foldl (edgE n) (tab, es)).1, x.length ≤ N) ∧ ∀ e ∈ (gs.foldl (edgE n) (tab, es)).2, e.2 < (gs.foldl (edgE n) (tab, es)).1.length := by
      intro gs
      induction gs with
      | nil => intro tab es _ h1 h2 h3; exact ⟨h1, h2, h3⟩
      | cons g gs ih =>
        intro tab es hg h1 h2 h3
        obtain ⟨g1, g2⟩ := hg g (by simp)
        obtain ⟨a1, a2⟩ := edgF_ordered n tab g.2 N g1 g2 h1 h2
        obtain ⟨b1, b2, b3, b4⟩ := edgF_len n tab g.2 g1 (ordered_closed h1)
        rw [List.foldl_cons, show edgE n (tab, es) g = ((edgF n tab g.2).1, es ++ [(g.1, (edgF n tab g.2).2)]) from rfl]
        exact ih _ _ (fun y hy => hg y (by simp [hy])) a1 a2 (fun e he => by
          rcases List.mem_append.1 he with he | he
          · have := h3 e he; omega
          · rw [List.mem_singleton.1 he]; exact b3)
    obtain ⟨f1, f2, f3⟩ := fold (grp l) tab [] (fun g hg => ⟨ho.2 g hg, Nat.le_trans (grp_each l g hg) hN⟩) hO hE (by simp)
    have fl := edgE_len n (grp l) (tab, [])
    have gl := grp_len l
    rw [edgF_succ]
    cases hp : posOf ((grp l).foldl (edgE n) (tab, [])).2 ((grp l).foldl (edgE n) (tab, [])).1 with
    | some i => exact ⟨f1, f2⟩
    | none =>
      have hno := (posOf_none _ _).1 hp
      generalize (grp l).foldl (edgE n) (tab, []) = r at f1 f2 f3 fl hno
      simp only [List.length_nil, Nat.zero_add] at fl
      refine ⟨fun i es hi => ?_, fun x hx => ?_⟩
      · by_cases hlt : i < r.1.length
        · rw [List.getElem?_append_left hlt] at hi
          exact f1 i es hi
        · rw [List.getElem?_append_right (by omega)] at hi
          have h0 : i - r.1.length = 0 := by
            by_cases h : i - r.1.length = 0
            · exact h
            · rw [List.getElem?_eq_none (by simp; omega)] at hi; cases hi
          rw [h0] at hi
          simp only [List.getElem?_cons_zero, Option.some.injEq] at hi
          subst hi
          have hii : i = r.1.length := by omega
          subst hii
          refine ⟨⟨fun e => ?_, fun e => ?_⟩, f3⟩
          · by_cases hz : r.1.length = 0
            · exact hz
            · exfalso
              have h1 : 0 < r.1.length := by omega
              have h2 := f1 0 r.1[0] (List.getElem?_eq_getElem h1)
              apply hno
              rw [e, ← h2.1.2 rfl]
              exact List.getElem_mem h1
          · cases hr : r.2 with
            | nil => rfl
            | cons x xs => have := f3 x (by rw [hr]; simp); omega
      · rcases List.mem_append.1 hx with hx | hx
        · exact f2 x hx
        · rw [List.mem_singleton.1 hx]; omega
end Sx

namespace Sx
theorem sl_all (l : List Wd) (m : Nat) (h : ∀ x ∈ l, x.length ≤ m) : sl l ≤ l.length * m := by
  induction l with
  | nil => simp [sl]
  | cons x l ih =>
    have h1 := h x (by simp)
    have h2 := ih (fun y hy => h y (by simp [hy]))
    simp only [sl, List.map_cons, List.sum_cons, List.length_cons] at h2 ⊢
    rw [Nat.succ_mul]
    omega
theorem sortW_length (l : List Wd) : ∀ m : List Wd, (l.foldl (fun m x => insW x m) m).length = l.length + m.length := by
  induction l with
  | nil => simp
  | cons x l ih =>
    intro m
    have h : (m.takeWhile (fun y => decide (y < x)) ++ m.dropWhile (fun y => decide (y < x))).length = m.length := by rw [List.takeWhile_append_dropWhile]
    have h2 : (insW x m).length = m.length + 1 := by
      unfold insW
      simp only [List.length_append, List.length_cons] at h ⊢
      omega
    rw [List.foldl_cons, ih, h2, List.length_cons]
    omega
/-- The first state has the greatest number. -/
theorem edgF_first {n : Nat} {l : List Wd} (h : OkF n l) : (edgF n [] l).2 + 1 = (edgF n [] l).1.length := by
  have hs := (sts_add n [] l ⟨by simp, by simp, by simp⟩ h).same
  rw [List.map_nil] at hs
  rw [hs]
  cases n with
  | zero => exact absurd h (by simp [OkF])
  | succ n =>
    rw [stsF_succ]
    simp only [List.map_nil, posOf, List.length_map, List.length_append, List.length_cons, List.length_nil]
/-- AN IMAGE OF RULES TELLS THEIR KEYS, rising. -/
theorem img_reads {rs : List Rl} (h : RlsOk rs) (h0 : rs ≠ []) : rdImg (imgT (tabOf rs)) = some (tabOf rs) ∧ tabOf rs ≠ [] ∧ wds 64 (tabOf rs) ((tabOf rs).length - 1) = sortW (rs.map rlKey) ∧ (tabOf rs).length ≤ 2000 := by
  have hk := (keys_ok h h0).1
  have hm := (sortW_ok _ (free_nodup (keys_free h.ok h.apart))).2
  have hlen : (sortW (rs.map rlKey)).length = rs.length := by
    have := sortW_length (rs.map rlKey) []
    unfold sortW
    rw [this, List.length_map]; rfl
  have hsl := sl_all (sortW (rs.map rlKey)) 63 (fun w hw => by
    obtain ⟨r, hr, rfl⟩ := List.mem_map.1 ((hm w).1 hw)
    have := rlKey_len (h.ok r hr); omega)
  rw [hlen] at hsl
  have hmany := h.many
  have htab : tabOf rs = (edgF 64 [] (sortW (rs.map rlKey))).1 := by unfold tabOf; rw [if_neg h0]
  obtain ⟨l1, l2, l3, l4⟩ := edgF_len 64 [] (sortW (rs.map rlKey)) hk (by simp)
  obtain ⟨o1, o2⟩ := edgF_ordered 64 [] (sortW (rs.map rlKey)) 30 hk (by omega) (by intro i es hi; simp at hi) (by simp)
  have hf := edgF_first hk
  have hw := edgF_wds 64 [] (sortW (rs.map rlKey)) hk (by intro es hes; simp at hes)
  rw [← htab] at l2 l3 o1 o2 hf hw
  simp only [List.length_nil] at l2
  refine ⟨rdImg_back o1 (by omega) (fun es hes => by have := o2 es hes; omega), fun e => by rw [e] at hf; simp at hf, ?_, by omega⟩
  rw [show (tabOf rs).length - 1 = (edgF 64 [] (sortW (rs.map rlKey))).2 by omega]
  exact hw
theorem img_reads_nil : rdImg (imgT (tabOf [])) = some [] := by decide
end Sx

namespace Go.Proofs.YtgohllfpceeboaaGreatDoor
open Go.RowKit
/-- What has not been read of an image, as it lies. -/
def SrcAt (W : World) (b : Nat) (s : List UInt8) (sh : Bool) : Prop := W.heap[b]? = some (.cells #[.string ⟨s.toArray⟩, .bool sh] 197 (0, 0))
theorem SrcAt.lt {W : World} {b : Nat} {s : List UInt8} {sh : Bool} (h : SrcAt W b s sh) : b < W.heap.size := (Array.getElem?_eq_some_iff.1 h).1
theorem SrcAt.cells {W : World} {b : Nat} {s : List UInt8} {sh : Bool} (h : SrcAt W b s sh) : W.cell? ⟨b, 0, none⟩ = some (.string ⟨s.toArray⟩) ∧ W.cell? ⟨b, 1, none⟩ = some (.bool sh) ∧ W.frozen? ⟨b, 0, none⟩ = false ∧ W.frozen? ⟨b, 1, none⟩ = false := by
  unfold SrcAt at h
  simp [World.cell?, World.frozen?, h]
theorem SrcAt.setr {W : World} {b : Nat} {s : List UInt8} {sh : Bool} (h : SrcAt W b s sh) (r : List UInt8) : SrcAt (W.setCell ⟨b, 0, none⟩ (.string ⟨r.toArray⟩)) b r sh := by
  unfold SrcAt at h ⊢
  simp [World.setCell, Array.getElem?_modify, h]
theorem SrcAt.sets {W : World} {b : Nat} {s : List UInt8} {sh : Bool} (h : SrcAt W b s sh) (x : Bool) : SrcAt (W.setCell ⟨b, 1, none⟩ (.bool x)) b s x := by
  unfold SrcAt at h ⊢
  simp [World.setCell, Array.getElem?_modify, h]
/-- A byte read. -/
def nx : List UInt8 × Bool → UInt8 × (List UInt8 × Bool)
  | ([], _) => (0, ([], true))
  | (c :: r, sh) => (c, (r, sh))
theorem ext_tail (c : UInt8) (r : List UInt8) : (⟨(c :: r).toArray⟩ : ByteArray).extract 1 (r.length + 1) = ⟨r.toArray⟩ := by
  apply ByteArray.ext
  simp [ByteArray.data_extract]
set_option maxRecDepth 100000 in
/-- (*automaton.source).next -/
theorem pnext (b : Nat) (s : List UInt8) (sh : Bool) (w : World) (h : SrcAt w b s sh) :
    Calls Tryz.prog 189 #[.pointer (some ⟨b, 0, none⟩)] w fun e w' => e = .returned (.int .u8 (nx (s, sh)).1.toNat) ∧ w.grownBy w' (some b) ∧ SrcAt w' b (nx (s, sh)).2.1 (nx (s, sh)).2.2 := by
  obtain ⟨q0, q1, f0, f1⟩ := h.cells
  have hlt := h.lt
  have H := hide h
  clear h
  cases s with
  | nil =>
    go_enter Tryz.func189, Tryz.ntmps189
    go_wp2
    go_ret
    exact ⟨rfl, grown_setCell _ _ _ _, H.out.sets true⟩
  | cons c r =>
    go_enter Tryz.func189, Tryz.ntmps189
    go_wp2
    go_ret
    rw [ext_tail]
    exact ⟨rfl, grown_setCell _ _ _ _, H.out.setr r⟩
theorem bits_two (c d : Nat) (hc : c < 256) (hd : d < 256) : bits .or .i64 ((c : Int) * 256) (d : Int) = ((c * 256 + d : Nat) : Int) := by
  have hx : c * 256 ||| d = c * 256 + d := by
    have := Nat.shiftLeft_add_eq_or_of_lt (b := d) (i := 8) (by omega) c
    rw [Nat.shiftLeft_eq] at this
    exact this.symm
  have h1 : (BitVec.ofInt 64 ((c * 256 : Nat) : Int)).toNat = c * 256 := by
    rw [BitVec.ofInt_natCast, BitVec.toNat_ofNat]; exact Nat.mod_eq_of_lt (by omega)
  have h2 : (BitVec.ofInt 64 (d : Int)).toNat = d := by
    rw [BitVec.ofInt_natCast, BitVec.toNat_ofNat]; exact Nat.mod_eq_of_lt (by omega)
  rw [show (c : Int) * 256 = ((c * 256 : Nat) : Int) by omega]
  show IntKind.i64.wrap ((BitVec.ofInt 64 ((c * 256 : Nat) : Int) ||| BitVec.ofInt 64 (d : Int)).toNat : Int) = _
  rw [BitVec.toNat_or, h1, h2, hx]
  rw [IntKind.wrap_i64]
  omega
/-- A number read. -/
def nu (x : List UInt8 × Bool) : Nat × (List UInt8 × Bool) := ((nx x).1.toNat * 256 + (nx (nx x).2).1.toNat, (nx (nx x).2).2)
set_option maxRecDepth 100000 in
/-- (*automaton.source).number -/
theorem pnumber (b : Nat) (s : List UInt8) (sh : Bool) (w : World) (h : SrcAt w b s sh) :
    Calls Tryz.prog 138 #[.pointer (some ⟨b, 0, none⟩)] w fun e w' => e = .returned (.int .i64 (nu (s, sh)).1) ∧ w.grownBy w' (some b) ∧ SrcAt w' b (nu (s, sh)).2.1 (nu (s, sh)).2.2 := by
  have H := hide h
  clear h
  unfold nu
  obtain ⟨⟨c, s1, sh1⟩, hx⟩ : ∃ x, nx (s, sh) = x := ⟨_, rfl⟩
  obtain ⟨⟨d, s2, sh2⟩, hy⟩ : ∃ x, nx (s1, sh1) = x := ⟨_, rfl⟩
  have h1 := pnext b s sh w H.out
  rw [hx] at h1 ⊢
  dsimp only at h1 ⊢
  rw [hy]
  dsimp only
  have HY := hide hy
  clear hx hy
  have hc := c.toNat_lt
  have hd := d.toNat_lt
  go_enter Tryz.func138, Tryz.ntmps138
  go_wp2_with fail
  refine h1.mono ?_
  rintro e w1 ⟨rfl, hg1, hs1⟩
  have h2 := pnext b s1 sh1 w1 hs1
  rw [HY.out] at h2
  dsimp only at h2
  clear h1
  go_wp2_with fail
  refine h2.mono ?_
  rintro e w2 ⟨rfl, hg2, hs2⟩
  clear h2
  go_wp2
  go_ret
  exact ⟨by rw [bits_two _ _ hc hd]; rfl, hg1.trans hg2, hs2⟩
/-- Edges read: so many. -/
def eds : Nat → List UInt8 × Bool → List Sx.Edg × (List UInt8 × Bool)
  | 0, x => ([], x)
  | k + 1, x => (((nx x).1, (nu (nx x).2).1) :: (eds k (nu (nx x).2).2).1, (eds k (nu (nx x).2).2).2)
theorem nu_lt (x : List UInt8 × Bool) : (nu x).1 < 65536 := by
  unfold nu
  have h1 := (nx x).1.toNat_lt
  have h2 := (nx (nx x).2).1.toNat_lt
  dsimp only
  omega
set_option maxRecDepth 100000 in
set_option maxHeartbeats 1000000 in
/-- (*automaton.source).edges -/
theorem pedges (b : Nat) (s : List UInt8) (sh : Bool) (w : World) (h : SrcAt w b s sh) :
    Calls Tryz.prog 140 #[.pointer (some ⟨b, 0, none⟩)] w fun e w' => ∃ v es x, (eds (nx (s, sh)).1.toNat (nx (s, sh)).2) = (es, x) ∧ e = .returned v ∧ w.grownBy w' (some b) ∧ SrcAt w' b x.1 x.2 ∧ w'.ownsRow w.heap.size 265 2 v es.length (edV es) := by
  obtain ⟨i0, hi, hz0, hz1, hz2⟩ := info_parts Tryz.info265
  have hb := h.lt
  have h1 := pnext b s sh w h
  obtain ⟨⟨c, s1, sh1⟩, hx⟩ : ∃ x, nx (s, sh) = x := ⟨_, rfl⟩
  rw [hx] at h1 ⊢
  dsimp only at h1 ⊢
  have hc := c.toNat_lt
  obtain ⟨n, hn⟩ : ∃ n, c.toNat = n := ⟨_, rfl⟩
  rw [hn] at h1 hc ⊢
  clear hx h hn
  go_enter Tryz.func140, Tryz.ntmps140
  go_wp2_with fail
  refine h1.mono ?_
  rintro e w1 ⟨rfl, hg1, hs1⟩
  have HG1 := hide hg1
  have HS1 := hide hs1
  clear h1 hg1 hs1
  go_wp2_with fail
  go_loopw [3, 7] (fun ev iv wr => ∃ (k : Nat) (es : List Sx.Edg) (x : List UInt8 × Bool), iv = .int .u8 k ∧ k ≤ n ∧ es.length = k ∧ wr.ownsRow w.heap.size 265 2 ev es.length (edV es) ∧ eds n (s1, sh1) = (es ++ (eds (n - k) x).1, (eds (n - k) x).2) ∧ w.grownBy wr (some b) ∧ SrcAt wr b x.1 x.2) (fun _ iv _ => (n - intOf iv).toNat)
  case atStart => exact ⟨0, [], (s1, sh1), rfl, by omega, rfl, World.ownsRow_nil _ _ _ _, by simp, HG1.out, HS1.out⟩
  case round =>
    obtain ⟨k, es, x, rfl, hk, hlen, hown, he, hg, hs⟩ := hrel
    have HE := hide he
    have HG := hide hg
    have HL := hide hlen
    have hesl : es.length ≤ 1000 := by omega
    have hsz := hg.size
    clear he hg hlen HG1 HS1
    by_cases hlt : k < n
    · obtain ⟨x1, x2⟩ := x
      have h2 := pnext b x1 x2 wr hs
      obtain ⟨⟨c, y1, y2⟩, hx⟩ : ∃ q, nx (x1, x2) = q := ⟨_, rfl⟩
      rw [hx] at h2
      dsimp only at h2
      obtain ⟨⟨t, z⟩, hz⟩ : ∃ q, nu (y1, y2) = q := ⟨_, rfl⟩
      have ht := nu_lt (y1, y2)
      rw [hz] at ht
      dsimp only at ht
      have HE2 : Hid (eds n (s1, sh1) = ((es ++ [(c, t)]) ++ (eds (n - (k + 1)) z).1, (eds (n - (k + 1)) z).2)) := hide (by
        rw [HE.out, show n - k = (n - (k + 1)) + 1 by omega]
        simp only [eds, hx, hz, List.append_assoc, List.singleton_append])
      have HZ := hide hz
      obtain ⟨ep, ec, hev⟩ := own_shapeK hown
      subst hev
      clear hx hz HE hs
      go_wp2_with fail
      refine h2.mono ?_
      rintro e w2 ⟨rfl, hg2, hs2⟩
      have h3 := pnumber b y1 y2 w2 hs2
      rw [HZ.out] at h3
      dsimp only at h3
      clear h2 hs2
      go_wp2_with fail
      refine h3.mono ?_
      rintro e w3 ⟨rfl, hg3, hs3⟩
      clear h3
      have hb0 : ∀ r, (Value.slice ep es.length ec).ownBlock = some r → w.heap.size ≤ r := fun r e => (hown.lt r e).1
      have hown3 := (hown.kept hg2 (.inr (fun e => by have := hb0 b e; omega))).kept hg3 (.inr (fun e => by have := hb0 b e; omega))
      have hs3z := hg3.size
      have hs2z := hg2.size
      have HG3 := hide ((HG.out.trans hg2).trans hg3)
      have HS3 := hide hs3
      clear hg2 hg3 hown HG HZ hs3
      go_wp2_with (at_builtin; go_must (refine wpList_append_lies _ rfl _ _ _ rfl w.heap.size 265 i0 (.agg #[.int .u8 0, .int .i64 0]) 2 16 Tryz.underlying199 hi hz0 hz1 hz2 rfl (by decide) _ _ _ rfl (hown3.alloc _) ⟨_, 0, none⟩ 1 1 [.int .u8 c.toNat, .int .i64 t] rfl rfl (cell2_at _ _ _ _ _ rfl) (by simp [Value.oneCell']) (by omega) (by unfold maxLen; omega) (by omega) (by simp; omega) _ rfl ?_))
      intro g6 cap6 w6 hown6 hgrow6 hat6 hlt6
      have hg7 : w.grownBy w6 (some b) := (HG3.out.trans (World.grownBy_alloc _ _ (some b))).andThen hgrow6 (fun j e => .inl (hb0 j e))
      have hs7 : SrcAt w6 b z.1 z.2 := by
        unfold SrcAt
        rw [hgrow6.block b (by rw [World.size_alloc]; omega) (fun e => by have := hb0 b e.symm; omega)]
        exact (((Below.refl w3.heap.size w3).alloc (Nat.le_refl _) _).block b (by omega)).trans HS3.out
      have hown7 : w6.ownsRow w.heap.size 265 2 (.slice (some ⟨g6, 0, none⟩) (es.length + 1) cap6) (es ++ [(c, t)]).length (edV (es ++ [(c, t)])) := by
        rw [edV_app, List.length_append]
        exact hown6
      have HX := hide (And.intro hg7 (And.intro hs7 hown7))
      clear hg7 hs7 hown7 hgrow6 hown6 hat6 hlt6 hown3 HG3 HS3 hb0
      go_wp2
      exact ⟨⟨k + 1, es ++ [(c, t)], z, by go_num, by omega, by rw [List.length_append, HL.out]; rfl, HX.out.2.2, HE2.out, HX.out.1, HX.out.2.1⟩, by simp [intOf]; omega⟩
    · have hkn : k = n := by omega
      subst hkn
      have HO := hide hown
      have HS := hide hs
      clear hown hs
      go_wp2
      go_ret
      exact ⟨_, es, x, by rw [HE.out, Nat.sub_self]; simp [eds], rfl, HG.out, HS.out, HO.out⟩
end Go.Proofs.YtgohllfpceeboaaGreatDoor

namespace Go.Proofs.YtgohllfpceeboaaGreatDoor
open Go.RowKit
theorem Tryz.info199 : (Tryz.prog.info? 199).map (fun i => (i.zero, i.size, i.bytes)) = some (some (.slice none 0 0), 1, 24) := by kernel_rfl
/-- States as they lie: a row of rows of edges. -/
structure TabAt (W : World) (B : Nat) (sv : Value) (tab : List (List Sx.Edg)) (vs : List Value) : Prop where
  row : W.ownsRow B 199 1 sv tab.length vs
  len : vs.length = tab.length
  each : ∀ i (h : i < tab.length) (h2 : i < vs.length), W.ownsRow B 265 2 vs[i] tab[i].length (edV tab[i])
/-- An automaton that is being read. -/
def AutAt (W : World) (b B : Nat) (tab : List (List Sx.Edg)) : Prop := ∃ sv vs, W.heap[b]? = some (.cells #[sv] 128 (0, 0)) ∧ TabAt W B sv tab vs
theorem TabAt.nil (W : World) (B : Nat) : TabAt W B (.slice none 0 0) [] [] := ⟨World.ownsRow_nil _ _ _ _, rfl, fun _ h => absurd h (Nat.not_lt_zero _)⟩
/-- What lies of a kind is kept. -/
def KeepT (t : TypeId) (W W' : World) : Prop := ∀ (k : Nat) (cs : Array Value) (fr : Nat × Nat), W.heap[k]? = some (.cells cs t fr) → W'.heap[k]? = some (.cells cs t fr)
theorem KeepT.own {t : TypeId} {W W' : World} (h : KeepT t W W') {B n z : Nat} {v : Value} {xs : List Value} (ho : W.ownsRow B t z v n xs) : W'.ownsRow B t z v n xs := by
  obtain ⟨h1, h2⟩ := ho
  refine ⟨h1, ?_⟩
  rcases h2 with h2 | ⟨g, cap, cur, hv, hg, hh, r⟩
  · exact .inl h2
  · exact .inr ⟨g, cap, cur, hv, hg, h _ _ _ hh, r⟩
theorem KeepT.grown {t t2 : TypeId} {W W' : World} {row : Option Nat} (h : W.grownBy W' row) (hr : ∀ r, row = some r → ∃ cs fr, W.heap[r]? = some (.cells cs t2 fr)) (hne : t ≠ t2) : KeepT t W W' := fun k cs fr hk =>
  (h.block k (Array.getElem?_eq_some_iff.1 hk).1 (fun e => by
    obtain ⟨c2, f2, h2⟩ := hr k e.symm
    rw [hk] at h2
    injection h2 with h2
    injection h2 with _ h2
    exact hne h2)).trans hk
theorem KeepT.refl (t : TypeId) (W : World) : KeepT t W W := fun _ _ _ h => h
theorem KeepT.trans {t : TypeId} {A B C : World} (h : KeepT t A B) (h2 : KeepT t B C) : KeepT t A C := fun k cs fr hk => h2 k cs fr (h k cs fr hk)
theorem KeepT.alloc (t : TypeId) (W : World) (o : Obj) : KeepT t W (W.alloc o) := fun k _ _ hk =>
  (((Below.refl W.heap.size W).alloc (Nat.le_refl _) o).block k (Array.getElem?_eq_some_iff.1 hk).1).trans hk
theorem keepT_below {t : TypeId} {W W' : World} (h : Below W.heap.size W W') : KeepT t W W' := fun k _ _ hk => (h.block k (Array.getElem?_eq_some_iff.1 hk).1).trans hk
theorem KeepT.src {W W' : World} (h : KeepT 197 W W') {b : Nat} {s : List UInt8} {sh : Bool} (hs : SrcAt W b s sh) : SrcAt W' b s sh := h _ _ _ hs
/-- A state more, if all ways from it come to the last one. -/
def addA (tab : List (List Sx.Edg)) (es : List Sx.Edg) : Bool := es.all (fun e => decide (e.2 < tab.length)) && (tab.isEmpty || !es.isEmpty)
theorem addA_far {tab : List (List Sx.Edg)} {es : List Sx.Edg} (k : Nat) (h : k < es.length) (h2 : ¬ es[k].2 < tab.length) : addA tab es = false := by
  unfold addA
  rw [Bool.and_eq_false_iff]
  left
  rw [List.all_eq_false]
  exact ⟨es[k], List.getElem_mem h, by simpa using h2⟩
theorem addA_near {tab : List (List Sx.Edg)} {es : List Sx.Edg} (h : ∀ j (h : j < es.length), es[j].2 < tab.length) : addA tab es = (decide ((tab.length : Int) = 0) || decide ((0 : Int) < es.length)) := by
  unfold addA
  have h1 : es.all (fun e => decide (e.2 < tab.length)) = true := by
    rw [List.all_eq_true]
    intro e he
    obtain ⟨j, hj, rfl⟩ := List.mem_iff_getElem.1 he
    exact decide_eq_true (h j hj)
  rw [h1]
  cases tab <;> cases es <;> simp <;> omega
set_option maxRecDepth 100000 in
set_option maxHeartbeats 1000000 in
/-- (*automaton.Automaton).add -/
theorem paadd (b B : Nat) (tab : List (List Sx.Edg)) (es : List Sx.Edg) (v : Value) (w : World) (h : AutAt w b B tab) (hv : w.ownsRow B 265 2 v es.length (edV es)) (hbB : b < B) (hB : B ≤ w.heap.size) (hl : tab.length ≤ 100000) (hel : es.length ≤ 1000) :
    Calls Tryz.prog 139 #[.pointer (some ⟨b, 0, none⟩), v] w fun e w' => e = .returned (.bool (addA tab es)) ∧ Below b w w' ∧ KeepT 197 w w' ∧ (addA tab es = true → AutAt w' b B (tab ++ [es])) := by
  obtain ⟨i0, hi, hz0, hz1, hz2⟩ := info_parts Tryz.info199
  obtain ⟨sv, vs, hbox, htab⟩ := h
  have hq0 : w.cell? ⟨b, 0, none⟩ = some sv := by simp [World.cell?, hbox]
  have hf0 : w.frozen? ⟨b, 0, none⟩ = false := by simp [World.frozen?, hbox]
  obtain ⟨sp, sc, rfl⟩ := own_shapeK htab.row
  have hed := edAt_own hv
  obtain ⟨p, cap, rfl, hrd⟩ := hed
  have HRD := hide hrd
  have HT := hide htab
  have HV := hide hv
  have HBOX := hide hbox
  clear hrd htab hv hbox
  go_enter Tryz.func139, Tryz.ntmps139
  go_wp2_with fail
  go_loopw [15] (fun i wr => ∃ k : Nat, i = .int .i64 k ∧ k ≤ es.length ∧ (∀ j (h : j < es.length), j < k → es[j].2 < tab.length) ∧ Below w.heap.size w wr) (fun i _ => (es.length - intOf i).toNat)
  case atStart => exact ⟨0, rfl, by omega, fun _ _ h => absurd h (Nat.not_lt_zero _), Below.refl _ _⟩
  case round =>
    obtain ⟨k, rfl, hk, hall, hB1⟩ := hrel
    have hsz := hB1.size
    by_cases hlt : k < es.length
    · obtain ⟨b2, rfl, hb2, d1, d2⟩ := HRD.out k hlt
      have c1 := (hB1.cell (p := ⟨b2, k * 2, none⟩) hb2).trans d1
      have c2 := (hB1.cell (p := ⟨b2, k * 2 + 1, none⟩) hb2).trans d2
      clear d1 d2
      by_cases hin : es[k].2 < tab.length
      · have HALL : Hid (∀ j (h : j < es.length), j < k + 1 → es[j].2 < tab.length) := hide (fun j h h2 => by
          rcases Nat.lt_succ_iff_lt_or_eq.1 h2 with h3 | rfl
          · exact hall j h h3
          · exact hin)
        obtain ⟨⟨x, t⟩, he⟩ : ∃ x, es[k] = x := ⟨_, rfl⟩
        rw [he] at c1 c2 hin
        dsimp only at c1 c2 hin
        have HB1 := hide hB1
        clear hall he hB1
        go_wp2
        exact ⟨⟨k + 1, by go_num, by omega, HALL.out, HB1.out.alloc hsz _⟩, by simp [intOf]; omega⟩
      · have HF := hide (addA_far k hlt hin)
        obtain ⟨⟨x, t⟩, he⟩ : ∃ x, es[k] = x := ⟨_, rfl⟩
        rw [he] at c1 c2 hin
        dsimp only at c1 c2 hin
        have HB1 := hide hB1
        clear hall he hB1
        go_wp2
        go_ret
        rw [HF.out]
        exact ⟨rfl, (HB1.out.alloc hsz _).mono (by omega), keepT_below (HB1.out.alloc hsz _), fun h => by cases h⟩
    · have HN := hide (addA_near (tab := tab) (es := es) fun j h => hall j h (by omega))
      have hrow1 := own_later HT.out.row hB1
      have hbl : b < w.heap.size := by omega
      have hbx1 : wr.heap[b]? = some (.cells #[.slice sp tab.length sc] 128 (0, 0)) := (hB1.block b hbl).trans HBOX.out
      have e0 : wr.cell? ⟨b, 0, none⟩ = some (.slice sp tab.length sc) := by simp [World.cell?, hbx1]
      have hfb1 : wr.frozen? ⟨b, 0, none⟩ = false := by simp [World.frozen?, hbx1]
      have HB1 := hide hB1
      have HBX := hide hbx1
      have hnb : some b ≠ (Value.slice sp tab.length sc).ownBlock := fun e => by have := (hrow1.lt b e.symm).1; omega
      clear hall hB1 hbx1 hq0 hf0
      obtain ⟨M, hM⟩ : ∃ M, tab.length = M := ⟨_, rfl⟩
      rw [hM] at HN HT HBOX HBX hrow1 e0 hnb hl ⊢
      have HM := hide hM
      clear hM
      go_wp2_with (at_builtin; go_must (refine wpList_append_lies _ rfl _ _ _ rfl B 199 i0 (.slice none 0 0) 1 24 Tryz.underlying126 hi hz0 hz1 hz2 rfl (by decide) _ M vs rfl (hrow1.alloc _) ⟨_, 0, none⟩ 1 1 [.slice p es.length cap] rfl rfl (cell1_at _ _ _ _ rfl) (by simp [Value.oneCell']) (by omega) (by unfold maxLen; omega) (by omega) (by simp; omega) _ rfl ?_))
      intro g8 cap8 w8 hown8 hgrow8 hat8 hlt8
      have hlb : b < wr.heap.size := by omega
      have hbx8 : w8.heap[b]? = some (.cells #[.slice sp M sc] 128 (0, 0)) := ((hgrow8.block b (by rw [World.size_alloc]; omega) hnb).trans (heap_alloc_old _ _ hlb)).trans HBX.out
      have hfz8 : w8.frozen? ⟨b, 0, none⟩ = false := by simp [World.frozen?, hbx8]
      have hcb8 : w8.cell? ⟨b, 0, none⟩ = some (.slice sp M sc) := by simp [World.cell?, hbx8]
      have hr0 : ∀ r, (Value.slice sp M sc).ownBlock = some r → ∃ cs fr, (wr.alloc (.cells #[.slice p es.length cap] 199)).heap[r]? = some (.cells cs 199 fr) := own_block (hrow1.alloc _)
      have hBx : Below b w w8 := ((HB1.out.mono (by omega)).alloc (by omega) _).grown hgrow8 (by rw [World.size_alloc]; omega) (fun r e => by have := (hrow1.lt r e).1; omega)
      have hKs : KeepT 197 w w8 := ((keepT_below HB1.out).trans (KeepT.alloc _ _ _)).trans (KeepT.grown hgrow8 hr0 (by decide))
      have hKe : KeepT 265 w w8 := ((keepT_below HB1.out).trans (KeepT.alloc _ _ _)).trans (KeepT.grown hgrow8 hr0 (by decide))
      have hend : ∃ vs', TabAt (w8.setCell ⟨b, 0, none⟩ (.slice (some ⟨g8, 0, none⟩) (M + 1) cap8)) B (.slice (some ⟨g8, 0, none⟩) (M + 1) cap8) (tab ++ [es]) vs' := by
        refine ⟨vs ++ [.slice p es.length cap], ?_, by simp [HT.out.len], fun i h h2 => ?_⟩
        · have h9 := hown8.kept (grown_setCell w8 b 0 (.slice (some ⟨g8, 0, none⟩) (M + 1) cap8)) (.inr (fun e => by have := (hown8.lt b e).1; omega))
          rw [List.length_append, List.length_singleton, HM.out]
          exact h9
        · have hk : ∀ {n : Nat} {v : Value} {xs : List Value}, w.ownsRow B 265 2 v n xs → (w8.setCell ⟨b, 0, none⟩ (.slice (some ⟨g8, 0, none⟩) (M + 1) cap8)).ownsRow B 265 2 v n xs := fun ho =>
            (hKe.own ho).kept (grown_setCell w8 b 0 _) (.inr (fun e => by have := (ho.lt b e).1; omega))
          have hl1 := HT.out.len
          by_cases hi2 : i < tab.length
          · simp only [List.getElem_append_left hi2, List.getElem_append_left (show i < vs.length by omega)]
            exact hk (HT.out.each i hi2 (by omega))
          · have hie : i = tab.length := by simp at h; omega
            subst hie
            have h3 : (vs ++ [Value.slice p es.length cap])[tab.length] = .slice p es.length cap := by simp [← hl1]
            have h4 : (tab ++ [es])[tab.length] = es := by simp
            rw [h3, h4]
            exact hk HV.out
      have HEND := hide hend
      have HBX8 := hide (And.intro hbx8 (And.intro hBx hKs))
      clear hend hBx hKs hKe hr0 hgrow8 hown8 hat8 hlt8 hbx8
      have fin : ∀ x : Bool, addA tab es = x → (Ending.returned (.bool x) = .returned (.bool (addA tab es)) ∧ Below b w (w8.setCell ⟨b, 0, none⟩ (.slice (some ⟨g8, 0, none⟩) (M + 1) cap8)) ∧ KeepT 197 w (w8.setCell ⟨b, 0, none⟩ (.slice (some ⟨g8, 0, none⟩) (M + 1) cap8)) ∧ (addA tab es = true → AutAt (w8.setCell ⟨b, 0, none⟩ (.slice (some ⟨g8, 0, none⟩) (M + 1) cap8)) b B (tab ++ [es]))) := by
        intro x hx
        refine ⟨by rw [hx], HBX8.out.2.1.setCell (p := ⟨b, 0, none⟩) (Nat.le_refl _) _, HBX8.out.2.2.trans (KeepT.grown (grown_setCell _ _ _ _) (fun r e => by cases e; exact ⟨_, _, HBX8.out.1⟩) (by decide)), fun _ => ?_⟩
        obtain ⟨vs', h'⟩ := HEND.out
        exact ⟨_, vs', by simp [World.setCell, Array.getElem?_modify, HBX8.out.1], h'⟩
      have FIN := hide fin
      clear fin
      by_cases hM0 : M = 0
      · subst hM0
        go_wp2
        go_ret
        exact FIN.out true (by rw [HN.out]; simp)
      · have hne1 : ((M : Int) == 0) = false := by simp; omega
        by_cases hE0 : 0 < es.length
        · go_wp2
          go_ret
          exact FIN.out true (by rw [HN.out, decide_eq_true (show (0 : Int) < es.length by omega), Bool.or_true])
        · have hE1 : es.length = 0 := by omega
          go_wp2
          go_ret
          exact FIN.out false (by rw [HN.out, decide_eq_false (show ¬ (M : Int) = 0 by omega), decide_eq_false (show ¬ (0 : Int) < es.length by omega)]; rfl)
end Go.Proofs.YtgohllfpceeboaaGreatDoor

namespace Go.Proofs.YtgohllfpceeboaaGreatDoor
open Go.RowKit
/-- So many states read. -/
def rdL : Nat → List (List Sx.Edg) → List UInt8 × Bool → Option (List (List Sx.Edg) × (List UInt8 × Bool))
  | 0, tab, x => some (tab, x)
  | m + 1, tab, x => if addA tab (eds (nx x).1.toNat (nx x).2).1 = true then rdL m (tab ++ [(eds (nx x).1.toNat (nx x).2).1]) (eds (nx x).1.toNat (nx x).2).2 else none
def rdEnd : Option (List (List Sx.Edg) × (List UInt8 × Bool)) → Option (List (List Sx.Edg))
  | some (t, ([], false)) => some t
  | _ => none
theorem nx_short (l : List UInt8) : (nx (l, true)).2.2 = true := by cases l <;> rfl
theorem nu_short (l : List UInt8) : (nu (l, true)).2.2 = true := by
  unfold nu
  obtain ⟨⟨c, r, sh⟩, h⟩ : ∃ q, nx (l, true) = q := ⟨_, rfl⟩
  have h1 := nx_short l
  rw [h] at h1 ⊢
  dsimp only at h1 ⊢
  subst h1
  exact nx_short r
theorem eds_short : ∀ (k : Nat) (l : List UInt8), (eds k (l, true)).2.2 = true
  | 0, _ => rfl
  | k + 1, l => by
    unfold eds
    dsimp only
    obtain ⟨⟨c, r, sh⟩, h⟩ : ∃ q, nx (l, true) = q := ⟨_, rfl⟩
    have h1 := nx_short l
    rw [h] at h1 ⊢
    dsimp only at h1 ⊢
    subst h1
    obtain ⟨⟨t, r2, sh2⟩, h2⟩ : ∃ q, nu (r, true) = q := ⟨_, rfl⟩
    have h3 := nu_short r
    rw [h2] at h3 ⊢
    dsimp only at h3 ⊢
    subst h3
    exact eds_short k r2
theorem rdL_short : ∀ (m : Nat) (tab : List (List Sx.Edg)) (l : List UInt8), rdEnd (rdL m tab (l, true)) = none
  | 0, _, l => by cases l <;> rfl
  | m + 1, tab, l => by
    unfold rdL
    split
    · obtain ⟨⟨c, r, sh⟩, h⟩ : ∃ q, nx (l, true) = q := ⟨_, rfl⟩
      have h1 := nx_short l
      rw [h] at h1 ⊢
      dsimp only at h1 ⊢
      subst h1
      obtain ⟨⟨es, r2, sh2⟩, h2⟩ : ∃ q, eds c.toNat (r, true) = q := ⟨_, rfl⟩
      have h3 := eds_short c.toNat r
      rw [h2] at h3 ⊢
      dsimp only at h3 ⊢
      subst h3
      exact rdL_short m _ r2
    · rfl
theorem eds_rd : ∀ (k : Nat) (l : List UInt8), (∃ es r, Sx.rdEdges k l = some (es, r) ∧ eds k (l, false) = (es, (r, false))) ∨ (Sx.rdEdges k l = none ∧ (eds k (l, false)).2.2 = true)
  | 0, l => .inl ⟨[], l, rfl, rfl⟩
  | k + 1, [] => .inr ⟨rfl, by unfold eds; exact eds_short k _⟩
  | k + 1, [_] => .inr ⟨rfl, by unfold eds; exact eds_short k _⟩
  | k + 1, [_, _] => .inr ⟨rfl, by unfold eds; exact eds_short k _⟩
  | k + 1, c :: h :: t :: b => by
    have e1 : eds (k + 1) (c :: h :: t :: b, false) = ((c, h.toNat * 256 + t.toNat) :: (eds k (b, false)).1, (eds k (b, false)).2) := rfl
    have e2 : Sx.rdEdges (k + 1) (c :: h :: t :: b) = (Sx.rdEdges k b).map fun x => ((c, h.toNat * 256 + t.toNat) :: x.1, x.2) := rfl
    rw [e1, e2]
    rcases eds_rd k b with ⟨es, r, h1, h2⟩ | ⟨h1, h2⟩
    · exact .inl ⟨_, r, by rw [h1]; rfl, by rw [h2]⟩
    · exact .inr ⟨by rw [h1]; rfl, h2⟩
theorem addA_iff (tab : List (List Sx.Edg)) (es : List Sx.Edg) : addA tab es = true ↔ (es = [] ↔ tab.length = 0) ∧ ∀ e ∈ es, e.2 < tab.length := by
  unfold addA
  rw [Bool.and_eq_true, List.all_eq_true]
  constructor
  · rintro ⟨h1, h2⟩
    have h3 : ∀ e ∈ es, e.2 < tab.length := fun e he => of_decide_eq_true (h1 e he)
    refine ⟨?_, h3⟩
    cases tab with
    | nil =>
      cases es with
      | nil => simp
      | cons e es => exact absurd (h3 e (by simp)) (Nat.not_lt_zero _)
    | cons x tab =>
      cases es with
      | nil => simp at h2
      | cons e es => simp
  · rintro ⟨h1, h2⟩
    refine ⟨fun e he => decide_eq_true (h2 e he), ?_⟩
    cases tab with
    | nil => rfl
    | cons x tab =>
      cases es with
      | nil => simp at h1
      | cons e es => rfl
theorem rdL_rd : ∀ (m : Nat) (tab : List (List Sx.Edg)) (l : List UInt8), rdEnd (rdL m tab (l, false)) = (Sx.rdTab m tab.length l).map (tab ++ ·)
  | 0, tab, [] => by simp [rdL, rdEnd, Sx.rdTab]
  | 0, tab, _ :: _ => by simp [rdL, rdEnd, Sx.rdTab]
  | m + 1, tab, [] => by
    unfold rdL
    split
    · exact rdL_short m _ _
    · rfl
  | m + 1, tab, k :: r => by
    have e1 : rdL (m + 1) tab (k :: r, false) = if addA tab (eds k.toNat (r, false)).1 = true then rdL m (tab ++ [(eds k.toNat (r, false)).1]) (eds k.toNat (r, false)).2 else none := rfl
    rw [e1]
    unfold Sx.rdTab
    rcases eds_rd k.toNat r with ⟨es, r2, h1, h2⟩ | ⟨h1, h2⟩
    · rw [h1, h2]
      dsimp only
      by_cases hc : (es = [] ↔ tab.length = 0) ∧ ∀ e ∈ es, e.2 < tab.length
      · rw [if_pos ((addA_iff tab es).2 hc), if_pos hc, rdL_rd m (tab ++ [es]) r2, List.length_append, List.length_singleton, Option.map_map]
        congr 1
        funext x
        simp
      · rw [if_neg (fun h => hc ((addA_iff tab es).1 h)), if_neg hc]
        rfl
    · rw [h1]
      dsimp only
      obtain ⟨⟨es, r2, sh2⟩, h3⟩ : ∃ q, eds k.toNat (r, false) = q := ⟨_, rfl⟩
      rw [h3] at h2 ⊢
      dsimp only at h2 ⊢
      subst h2
      split
      · exact rdL_short m _ _
      · rfl
theorem rdL_img (l : List UInt8) : rdEnd (rdL (nu (l, false)).1 [] (nu (l, false)).2) = Sx.rdImg l := by
  match l with
  | [] => exact rdL_short _ _ _
  | [_] => exact rdL_short _ _ _
  | h :: t :: r =>
    have e : nu (h :: t :: r, false) = (h.toNat * 256 + t.toNat, (r, false)) := rfl
    rw [e, rdL_rd]
    unfold Sx.rdImg
    simp
end Go.Proofs.YtgohllfpceeboaaGreatDoor

namespace Sx
theorem letters_goodL (s : List UInt8) (l : List Int) (h : letters s = some l) : ∀ c ∈ l, Good c := (Go.Proofs.YtgohllfpceeboaaGreatDoor.letters_is ⟨s.toArray⟩ l (by simpa using h)).2
theorem letters_lenL (s : List UInt8) (l : List Int) (h : letters s = some l) : text l = s := by simpa using (Go.Proofs.YtgohllfpceeboaaGreatDoor.letters_is ⟨s.toArray⟩ l (by simpa using h)).1
theorem dotted_allL (h : List (List UInt8)) (hn : h ≠ []) : (dotted h).length + 1 = allLen h := Go.Proofs.YtgohllfpceeboaaGreatDoor.dotted_all h hn
theorem good_lowerL (c : Int) (h : Good c) : Good (lower c) := Go.Proofs.YtgohllfpceeboaaGreatDoor.good_lower c h
/-- Bytes as letters. -/
def ints (x : List UInt8) : List Int := x.map fun b => (b.toNat : Int)
theorem plB_lt {b : UInt8} (h : plB b) : b.toNat < 128 := by unfold plB at h; omega
theorem utf_byte (b : UInt8) (h : b.toNat < 128) : utf (b.toNat : Int) = [b] := by
  unfold utf
  rw [if_pos (by omega)]
  simp
theorem text_ints : ∀ (x : List UInt8), (∀ b ∈ x, b.toNat < 128) → text (ints x) = x
  | [], _ => rfl
  | b :: x, h => by
    have := text_ints x (fun c hc => h c (by simp [hc]))
    unfold text ints at this ⊢
    rw [List.map_cons, List.flatMap_cons, this, utf_byte b (h b (by simp))]
    rfl
theorem good_ints (x : List UInt8) (h : ∀ b ∈ x, b.toNat < 128) : ∀ c ∈ ints x, Good c := by
  intro c hc
  obtain ⟨b, hb, rfl⟩ := List.mem_map.1 hc
  have := h b hb
  exact ⟨by omega, by omega, by omega⟩
theorem letters_ints (x : List UInt8) (h : ∀ b ∈ x, b.toNat < 128) : letters x = some (ints x) := by
  have := letters_text (ints x) (good_ints x h)
  rwa [text_ints x h] at this
theorem label_form {l : List Int} {x : List UInt8} (h : label l = some x) : (l.map lower).all okL = true ∧ x = formOf (l.map lower) ∧ formOk x = true ∧ (((!(l.map lower).any (fun c => decide (128 ≤ c))) && decide (4 ≤ x.length) && (x.take 4 == xn)) = true → codeOk (x.drop 4) = true) := by
  unfold label at h
  split at h
  · rename_i h1
    split at h
    · rename_i h2
      split at h
      · rename_i h3
        split at h
        · rename_i h4
          obtain rfl := Option.some.inj h
          exact ⟨h1, rfl, h2, fun _ => h4⟩
        · cases h
      · rename_i h3
        obtain rfl := Option.some.inj h
        exact ⟨h1, rfl, h2, fun h => absurd h h3⟩
    · cases h
  · cases h
theorem label_again {l : List Int} {x : List UInt8} (h : label l = some x) (hg : ∀ c ∈ l, Good c) (hll0 : l.length ≤ 60) : label (ints x) = some x := by
  obtain ⟨_, hp⟩ := label_plB h
  obtain ⟨h1, h2, h3, h4⟩ := label_form h
  have hlt : ∀ b ∈ x, b.toNat < 128 := fun b hb => plB_lt (hp b hb)
  have e1 : (ints x).map lower = ints x := by
    unfold ints
    rw [List.map_map]
    refine List.map_congr_left fun b hb => ?_
    have := hp b hb
    unfold plB at this
    simp only [Function.comp, lower]
    rw [if_neg (by omega)]
  have e2 : (ints x).any (fun c => decide (128 ≤ c)) = false := by
    rw [List.any_eq_false]
    intro c hc
    obtain ⟨b, hb, rfl⟩ := List.mem_map.1 hc
    have := hlt b hb
    simp only [decide_eq_true_eq]
    omega
  have e3 : (ints x).all okL = true := by
    rw [List.all_eq_true]
    intro c hc
    obtain ⟨b, hb, rfl⟩ := List.mem_map.1 hc
    have := hp b hb
    unfold plB at this
    simp only [okL, Bool.or_eq_true, decide_eq_true_eq]
    omega
  have e4 : formOf (ints x) = x := by
    unfold formOf
    rw [e2]
    exact text_ints x hlt
  unfold label
  rw [e1, if_pos e3, e4, if_pos h3, e2]
  split
  · rename_i hc
    rw [if_pos]
    simp only [Bool.not_false, Bool.true_and, Bool.and_eq_true, decide_eq_true_eq] at hc
    cases hf : (l.map lower).any (fun c => decide (128 ≤ c)) with
    | false => exact h4 (by rw [hf]; simp only [Bool.not_false, Bool.true_and, Bool.and_eq_true, decide_eq_true_eq]; exact hc)
    | true =>
      have hx : x = xn ++ enc (l.map lower) := by rw [h2]; unfold formOf; rw [hf]; rfl
      have hx4 : x.drop 4 = enc (l.map lower) := by rw [hx]; rfl
      have hgm : ∀ c ∈ l.map lower, Good c := by
        intro c hc
        obtain ⟨b, hb, rfl⟩ := List.mem_map.1 hc
        exact good_lowerL b (hg b hb)
      have hxl : x.length ≤ 20 := by
        unfold formOk at h3
        simp only [Bool.and_eq_true, decide_eq_true_eq] at h3
        exact h3.1.1.2
      have hll : (l.map lower).length ≤ 20 := by
        have := (enc_lens (l.map lower) (by rw [List.length_map]; omega) (fun c hc => (hgm c hc).2.1)).1
        rw [hx, List.length_append] at hxl
        omega
      rw [hx4]
      exact codeOk_enc _ hll hgm hf
  · rfl
theorem utf_pos (c : Int) : 1 ≤ (utf c).length := by
  unfold utf
  repeat' split
  all_goals simp
theorem text_ge : ∀ (l : List Int), l.length ≤ (text l).length
  | [] => Nat.le_refl _
  | c :: l => by
    have := text_ge l
    have h := utf_pos c
    unfold text at this ⊢
    rw [List.flatMap_cons, List.length_append, List.length_cons]
    omega
theorem hostGo_parts : ∀ (l cur : List Int) (h : List (List UInt8)), hostGo l cur = some h → ∀ x ∈ h, ∃ p, label p = some x ∧ p.length ≤ cur.length + l.length ∧ ∀ c ∈ p, c ∈ cur ∨ c ∈ l
  | [], cur, h, e => by
    unfold hostGo at e
    cases hl : label cur with
    | none => rw [hl] at e; cases e
    | some x =>
      rw [hl] at e
      obtain rfl := Option.some.inj e
      exact fun y hy => ⟨cur, by rw [List.mem_singleton.1 hy]; exact hl, by omega, fun c hc => Or.inl hc⟩
  | c :: r, cur, h, e => by
    unfold hostGo at e
    split at e
    · cases hl : label cur with
      | none => rw [hl] at e; cases e
      | some x =>
        rw [hl] at e
        obtain ⟨h', e1, rfl⟩ := Option.map_eq_some_iff.1 e
        intro y hy
        rcases List.mem_cons.1 hy with rfl | hy
        · exact ⟨cur, hl, by omega, fun c hc => Or.inl hc⟩
        · obtain ⟨p, q1, q2, q3⟩ := hostGo_parts r [] h' e1 y hy
          refine ⟨p, q1, by simp at q2 ⊢; omega, fun c hc => Or.inr ?_⟩
          rcases q3 c hc with q | q
          · cases q
          · exact List.mem_cons_of_mem _ q
    · intro y hy
      obtain ⟨p, q1, q2, q3⟩ := hostGo_parts r (cur ++ [c]) h e y hy
      refine ⟨p, q1, by simp at q2 ⊢; omega, fun d hd => ?_⟩
      rcases q3 d hd with q | q
      · rcases List.mem_append.1 q with q | q
        · exact Or.inl q
        · exact Or.inr (by rw [List.mem_singleton.1 q]; exact List.mem_cons_self ..)
      · exact Or.inr (List.mem_cons_of_mem _ q)
/-- What is known of a host that was read. -/
theorem host_is {s : List UInt8} (h : (host s).2 = 0) : (∀ x ∈ (host s).1, label (ints x) = some x) ∧ hostEnd (host s).1 = ((host s).1, 0) := by
  unfold host at h ⊢
  split
  · rename_i hc; rw [if_pos hc] at h; simp at h
  · rename_i hc
    rw [if_neg hc] at h
    cases hl : letters s with
    | none => rw [hl] at h; simp at h
    | some l =>
      rw [hl] at h
      simp only at h ⊢
      cases hg : hostGo l [] with
      | none => rw [hg] at h; simp at h
      | some H =>
        rw [hg] at h
        simp only at h ⊢
        have hm := hostGo_parts l [] H hg
        have hgd := letters_goodL s l hl
        have hle : l.length ≤ s.length := by have := text_ge l; rwa [letters_lenL s l hl] at this
        have hE : hostEnd H = (H, 0) := by
          unfold hostEnd at h ⊢
          split
          · rename_i hc; rw [if_pos hc] at h; simp at h
          · rfl
        rw [hE]
        refine ⟨fun x hx => ?_, hE⟩
        obtain ⟨p, p1, p2, p3⟩ := hm x hx
        exact label_again p1 (fun c hc => by rcases p3 c hc with q | q; cases q; exact hgd c q) (by simp at p2; omega)
theorem hostGo_run : ∀ (x : List UInt8) (r cur : List Int), (∀ b ∈ x, b ≠ 46) → hostGo (ints x ++ r) cur = hostGo r (cur ++ ints x)
  | [], r, cur, _ => by simp [ints]
  | b :: x, r, cur, h => by
    have hb : (b.toNat : Int) ≠ 46 := fun e => h b (by simp) (UInt8.toNat_inj.1 (by simpa using (by omega : b.toNat = 46)))
    have ih := hostGo_run x r (cur ++ [(b.toNat : Int)]) (fun c hc => h c (by simp [hc]))
    show hostGo ((b.toNat : Int) :: (ints x ++ r)) cur = _
    rw [hostGo, if_neg hb, ih]
    simp [ints]
theorem hostGo_dotted : ∀ (h : List (List UInt8)), h ≠ [] → (∀ x ∈ h, label (ints x) = some x ∧ ∀ b ∈ x, b ≠ 46) → hostGo (ints (dotted h)) [] = some h
  | [], n, _ => absurd rfl n
  | [x], _, h => by
    have := hostGo_run x [] [] (h x (by simp)).2
    rw [List.append_nil, List.nil_append] at this
    have e : dotted [x] = x := by simp [dotted]
    rw [e, this]
    unfold hostGo
    rw [(h x (by simp)).1]
  | x :: y :: r, _, h => by
    have ih := hostGo_dotted (y :: r) (by simp) (fun z hz => h z (by simp [hz]))
    have := hostGo_run x (46 :: ints (dotted (y :: r))) [] (h x (by simp)).2
    rw [List.nil_append] at this
    have e : ints (dotted (x :: y :: r)) = ints x ++ 46 :: ints (dotted (y :: r)) := by rw [dotted_cons]; simp [ints]
    rw [e, this, hostGo, if_pos rfl, (h x (by simp)).1]
    simp only
    rw [ih]
    rfl
/-- A host that was read is read again from its plain form. -/
theorem host_again {s : List UInt8} (h : (host s).2 = 0) : host (dotted (host s).1) = ((host s).1, 0) := by
  obtain ⟨q1, q2, q3, q4⟩ := host_ok s h
  obtain ⟨k1, k2⟩ := host_is h
  obtain ⟨H, hH⟩ : ∃ H, (host s).1 = H := ⟨_, rfl⟩
  rw [hH] at q1 q2 q3 q4 k1 k2 ⊢
  have hlen := dotted_allL H q1
  have hlt : ∀ b ∈ dotted H, b.toNat < 128 := fun b hb => by
    rcases dotted_bytes (fun x hx => (q4 x hx).2) b hb with q | rfl
    · exact plB_lt q
    · decide
  unfold host
  rw [if_neg (by omega), letters_ints _ hlt]
  simp only
  rw [hostGo_dotted H q1 (fun x hx => ⟨k1 x hx, fun b hb => plB_no46 ((q4 x hx).2 b hb)⟩)]
  exact k2
end Sx

