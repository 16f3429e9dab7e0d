import Derived.Test.YtgohllfpceeboabGreatDoorSbar
import Derived.Test.YtgohllfpceeboabGreatDoorSbaa
import Derived.Test.YtgohllfpceeboabGreatDoorSbak
import Derived.Test.YtgohllfpceeboabGreatDoorSbal
import Derived.Test.YtgohllfpceeboabGreatDoorSbao
import Derived.Test.YtgohllfpceeboabGreatDoorSbap
import Derived.Test.YtgohllfpceeboabGreatDoorSbac
import Derived.Test.YtgohllfpceeboabGreatDoorProg
import Derived.Test.YtgohllfpceeboabGreatDoorSbab
import Derived.Laws.ResultCell
import Derived.Deep.Onto
import Derived.Deep.RegionHeldLaw
namespace Sx
/-- The words along the ways from a state on. -/
def wds : Nat → List (List Edg) → Nat → List Wd
  | 0, _, _ => []
  | f + 1, tab, i => match tab[i]? with
    | none => []
    | some [] => [[]]
    | some (e :: es) => (e :: es).flatMap fun e => (wds f tab e.2).map (e.1 :: ·)
def Closed (tab : List (List Edg)) : Prop := ∀ es ∈ tab, ∀ e ∈ es, e.2 < tab.length
theorem wds_ext {tab : List (List Edg)} (hc : Closed tab) (ext : List (List Edg)) : ∀ (f i : Nat), i < tab.length → wds f (tab ++ ext) i = wds f tab i
  | 0, _, _ => rfl
  | f + 1, i, hi => by
    have h1 : (tab ++ ext)[i]? = tab[i]? := List.getElem?_append_left hi
    unfold wds
    rw [h1]
    cases ht : tab[i]? with
    | none => rfl
    | some es =>
      cases es with
      | nil => rfl
      | cons e es =>
        have hm := List.mem_of_getElem? ht
        simp only
        rw [List.flatMap_def, List.flatMap_def]
        congr 1
        apply List.map_congr_left
        intro x hx
        rw [wds_ext hc ext f x.2 (hc _ hm x hx)]
/-- Tables only grow. -/
theorem edgF_ext : ∀ (n : Nat) (tab : List (List Edg)) (l : List Wd), ∃ ext, (edgF n tab l).1 = tab ++ ext
  | 0, tab, _ => ⟨[], by simp [edgF]⟩
  | n + 1, tab, l => by
    have fold : ∀ (gs : List (UInt8 × List Wd)) (s : List (List Edg) × List Edg), ∃ ext, (gs.foldl (edgE n) s).1 = s.1 ++ ext := by
      intro gs
      induction gs with
      | nil => intro s; exact ⟨[], by simp⟩
      | cons g gs ih =>
        intro s
        obtain ⟨e1, h1⟩ := edgF_ext n s.1 g.2
        obtain ⟨e2, h2⟩ := ih (edgE n s g)
        refine ⟨e1 ++ e2, ?_⟩
        rw [List.foldl_cons, h2]
        simp only [edgE]
        rw [h1, List.append_assoc]
    obtain ⟨ext, hx⟩ := fold (grp l) (tab, [])
    rw [edgF_succ]
    split
    · exact ⟨ext, hx⟩
    · exact ⟨ext ++ [_], by rw [hx, List.append_assoc]⟩
/-- The words along the ways are those that the states were made of. -/
theorem edgF_wds : ∀ (n : Nat) (tab : List (List Edg)) (l : List Wd), OkF n l → Closed tab → wds n (edgF n tab l).1 (edgF n tab l).2 = l
  | 0, _, _, h, _ => absurd h (by simp [OkF])
  | n + 1, tab, l, ho, hc => by
    have fold : ∀ (gs : List (UInt8 × List Wd)) (tab : List (List Edg)) (es : List Edg) (done : List (UInt8 × List Wd)), (∀ g ∈ gs, OkF n g.2) → Closed tab → (∀ e ∈ es, e.2 < tab.length) → es.map (fun e => (e.1, wds n tab e.2)) = done →
        Closed (gs.foldl (edgE n) (tab, es)).1 ∧ (∀ e ∈ (gs.foldl (edgE n) (tab, es)).2, e.2 < (gs.foldl (edgE n) (tab, es)).1.length) ∧ (gs.foldl (edgE n) (tab, es)).2.map (fun e => (e.1, wds n (gs.foldl (edgE n) (tab, es)).1 e.2)) = done ++ gs := by
      intro gs
      induction gs with
      | nil => intro tab es done _ h1 h2 h3; exact ⟨h1, h2, by simpa using h3⟩
      | cons g gs ih =>
        intro tab es done hg h1 h2 h3
        obtain ⟨a1, a2, a3, a4⟩ := edgF_len n tab g.2 (hg g (by simp)) h1
        have a5 := edgF_wds n tab g.2 (hg g (by simp)) h1
        obtain ⟨ext, hx⟩ := edgF_ext n tab g.2
        have h4 : (es ++ [(g.1, (edgF n tab g.2).2)]).map (fun e => (e.1, wds n (edgF n tab g.2).1 e.2)) = done ++ [g] := by
          rw [List.map_append]
          congr 1
          · rw [← h3]
            apply List.map_congr_left
            intro e he
            rw [hx, wds_ext h1 ext n e.2 (h2 e he)]
          · simp only [List.map_cons, List.map_nil, a5]
        have := ih (edgF n tab g.2).1 (es ++ [(g.1, (edgF n tab g.2).2)]) (done ++ [g]) (fun y hy => hg y (by simp [hy])) a4 (fun e he => by
          rcases List.mem_append.1 he with he | he
          · have := h2 e he; omega
          · rw [List.mem_singleton.1 he]; exact a3) h4
        rw [List.foldl_cons, show edgE n (tab, es) g = ((edgF n tab g.2).1, es ++ [(g.1, (edgF n tab g.2).2)]) from rfl]
        refine ⟨this.1, this.2.1, ?_⟩
        rw [this.2.2]
        simp
    obtain ⟨f1, f2, f3⟩ := fold (grp l) tab [] [] ho.2 hc (by simp) rfl
    rw [List.nil_append] at f3
    have key : ∀ (T : List (List Edg)) (i : Nat), T[i]? = some ((grp l).foldl (edgE n) (tab, [])).2 → (∀ e ∈ ((grp l).foldl (edgE n) (tab, [])).2, wds n T e.2 = wds n ((grp l).foldl (edgE n) (tab, [])).1 e.2) → wds (n + 1) T i = l := by
      intro T i hT hw
      unfold wds
      rw [hT]
      rcases ho.1 with rfl | ⟨_, hne⟩
      · have : ((grp [[]]).foldl (edgE n) (tab, [])).2 = [] := rfl
        rw [this]
      · have hu := ungrp_grp l hne
        cases hE : ((grp l).foldl (edgE n) (tab, [])).2 with
        | nil =>
          rw [hE] at f3
          simp only [List.map_nil] at f3
          rw [← f3] at hu
          exfalso
          have h0 : l = [] := by rw [← hu]; rfl
          rcases ho.1 with h | h
          · rw [h] at h0; cases h0
          · exact h.1 h0
        | cons e es =>
          simp only
          rw [hE] at f3 hw
          conv => rhs; rw [← hu, ← f3]
          unfold ungrp
          rw [List.flatMap_map, List.flatMap_def, List.flatMap_def]
          congr 1
          apply List.map_congr_left
          intro x hx
          rw [hw x hx]
    rw [edgF_succ]
    cases hp : posOf ((grp l).foldl (edgE n) (tab, [])).2 ((grp l).foldl (edgE n) (tab, [])).1 with
    | some i => exact key _ _ (posOf_get _ _ _ hp) (fun _ _ => rfl)
    | none =>
      refine key _ _ ?_ (fun e he => wds_ext f1 _ n e.2 (f2 e he))
      simp
end Sx

namespace Sx
/-- Edges as an image tells them: so many; and what is left. -/
def rdEdges : Nat → List UInt8 → Option (List Edg × List UInt8)
  | 0, b => some ([], b)
  | k + 1, c :: h :: l :: b => (rdEdges k b).map fun x => ((c, h.toNat * 256 + l.toNat) :: x.1, x.2)
  | _ + 1, _ => none
/-- So many states, from a number on: all bytes are used up, the last state alone is without edges, edges go to lower numbers. -/
def rdTab : Nat → Nat → List UInt8 → Option (List (List Edg))
  | 0, _, b => if b = [] then some [] else none
  | _ + 1, _, [] => none
  | m + 1, n, k :: r => match rdEdges k.toNat r with
    | none => none
    | some (es, r') => if (es = [] ↔ n = 0) ∧ ∀ e ∈ es, e.2 < n then (rdTab m (n + 1) r').map (es :: ·) else none
def rdImg : List UInt8 → Option (List (List Edg))
  | h :: l :: r => rdTab (h.toNat * 256 + l.toNat) 0 r
  | _ => none
theorem two_back (n : Nat) (h : n < 65536) : (UInt8.ofNat (n / 256)).toNat * 256 + (UInt8.ofNat (n % 256)).toNat = n := by
  simp only [UInt8.toNat_ofNat']
  omega
theorem rdEdges_tell : ∀ (es : List Edg) (r : List UInt8), (∀ e ∈ es, e.2 < 65536) → rdEdges es.length ((es.flatMap fun e => e.1 :: two e.2) ++ r) = some (es, r)
  | [], r, _ => rfl
  | e :: es, r, h => by
    have ih := rdEdges_tell es r (fun x hx => h x (by simp [hx]))
    simp only [List.flatMap_cons, two, List.cons_append, List.nil_append, List.length_cons, rdEdges]
    simp only [two] at ih
    rw [ih]
    simp only [Option.map_some, two_back e.2 (h e (by simp))]
/-- A table in the document's order. -/
def Ordered (tab : List (List Edg)) : Prop := ∀ i es, tab[i]? = some es → (es = [] ↔ i = 0) ∧ ∀ e ∈ es, e.2 < i
theorem rdTab_tell : ∀ (rest tab : List (List Edg)), Ordered (tab ++ rest) → (∀ es ∈ rest, es.length < 256 ∧ ∀ e ∈ es, e.2 < 65536) → rdTab rest.length tab.length (rest.flatMap tellE) = some rest
  | [], tab, _, _ => rfl
  | es :: rest, tab, ho, hb => by
    obtain ⟨h1, h2⟩ := hb es (by simp)
    have hk : (UInt8.ofNat es.length).toNat = es.length := by simp only [UInt8.toNat_ofNat']; omega
    have hi := ho tab.length es (by simp)
    have ih := rdTab_tell rest (tab ++ [es]) (by simpa using ho) (fun x hx => hb x (by simp [hx]))
    rw [List.length_append, List.length_singleton] at ih
    simp only [List.length_cons, List.flatMap_cons]
    rw [show tellE es ++ rest.flatMap tellE = UInt8.ofNat es.length :: ((es.flatMap fun e => e.1 :: two e.2) ++ rest.flatMap tellE) from rfl]
    simp only [rdTab]
    rw [hk, rdEdges_tell es _ h2]
    simp only
    rw [if_pos ⟨hi.1, hi.2⟩, ih]
    rfl
/-- AN IMAGE TELLS ITS TABLE. -/
theorem rdImg_back {tab : List (List Edg)} (ho : Ordered tab) (hl : tab.length < 65536) (hb : ∀ es ∈ tab, es.length < 256) : rdImg (imgT tab) = some tab := by
  have h2 : ∀ es ∈ tab, es.length < 256 ∧ ∀ e ∈ es, e.2 < 65536 := by
    intro es hes
    refine ⟨hb es hes, fun e he => ?_⟩
    obtain ⟨i, hi, rfl⟩ := List.mem_iff_getElem.1 hes
    have := (ho i tab[i] (List.getElem?_eq_getElem hi)).2 e he
    omega
  have := rdTab_tell tab [] (by simpa using ho) h2
  unfold imgT rdImg
  simp only [two, List.cons_append, List.nil_append, two_back tab.length hl]
  exact this
theorem grp_len : ∀ l : List Wd, (grp l).length ≤ l.length
  | [] => by simp [grp]
  | [] :: r => by have := grp_len r; simp only [grp, List.length_cons]; omega
  | (c :: t) :: r => by
    have ih := grp_len r
    unfold grp
    cases hr : grp r with
    | nil => simp
    | cons x g =>
      obtain ⟨d, b⟩ := x
      rw [hr] at ih
      by_cases e : d = c
      · simp only [e, if_true, List.length_cons] at ih ⊢; omega
      · simp only [e, if_false, List.length_cons] at ih ⊢; omega
theorem grp_each : ∀ (l : List Wd), ∀ g ∈ grp l, g.2.length ≤ l.length
  | [], g, hg => by simp [grp] at hg
  | [] :: r, g, hg => by have := grp_each r g (by simpa [grp] using hg); simp only [List.length_cons]; omega
  | (c :: t) :: r, g, hg => by
    have ih := grp_each r
    unfold grp at hg
    cases hr : grp r with
    | nil =>
      rw [hr] at hg
      simp only [List.mem_singleton] at hg
      subst hg
      simp
    | cons x g' =>
      obtain ⟨d, b⟩ := x
      rw [hr] at hg ih
      by_cases e : d = c
      · simp only [if_pos e, List.mem_cons] at hg
        rcases hg with rfl | hg
        · have := ih (d, b) (by simp); simp only [List.length_cons] at this ⊢; omega
        · have := ih g (by simp [hg]); simp only [List.length_cons]; omega
      · simp only [if_neg e, List.mem_cons] at hg
        rcases hg with rfl | rfl | hg
        · simp
        · have := ih (d, b) (by simp); simp only [List.length_cons] at this ⊢; omega
        · have := ih g (by simp [hg]); simp only [List.length_cons]; omega
theorem ordered_closed {tab : List (List Edg)} (h : Ordered tab) : Closed tab := by
  intro es hes e he
  obtain ⟨i, hi, rfl⟩ := List.mem_iff_getElem.1 hes
  have := (h i tab[i] (List.getElem?_eq_getElem hi)).2 e he
  omega
theorem edgE_len (n : Nat) : ∀ (gs : List (UInt8 × List Wd)) (s : List (List Edg) × List Edg), (gs.foldl (edgE n) s).2.length = s.2.length + gs.length
  | [], s => by simp
  | g :: gs, s => by
    rw [List.foldl_cons, edgE_len n gs]
    simp only [edgE, List.length_append, List.length_cons, List.length_nil]
    omega
/-- The table of words is in the document's order, with few edges a state. -/
theorem edgF_ordered : ∀ (n : Nat) (tab : List (List Edg)) (l : List Wd) (N : Nat), OkF n l → l.length ≤ N → Ordered tab → (∀ es ∈ tab, es.length ≤ N) → Ordered (edgF n tab l).1 ∧ ∀ es ∈ (edgF n tab l).1, es.length ≤ N
  | 0, _, _, _, h, _, _, _ => absurd h (by simp [OkF])
  | n + 1, tab, l, N, ho, hN, hO, hE => by
    have fold : ∀ (gs : List (UInt8 × List Wd)) (tab : List (List Edg)) (es : List Edg), (∀ g ∈ gs, OkF n g.2 ∧ g.2.length ≤ N) → Ordered tab → (∀ x ∈ tab, x.length ≤ N) → (∀ e ∈ es, e.2 < tab.length) →
        Ordered (gs.foldl (edgE n) (tab, es)).1 ∧ (∀ x ∈ (gs.foldl (edgE n) (tab, es)).1, x.length ≤ N) ∧ ∀ e ∈ (gs.foldl (edgE n) (tab, es)).2, e.2 < (gs.foldl (edgE n) (tab, es)).1.length := by
      intro gs
      induction gs with
      | nil => intro tab es _ h1 h2 h3; exact ⟨h1, h2, h3⟩
      | cons g gs ih =>
        intro tab es hg h1 h2 h3
        obtain ⟨g1, g2⟩ := hg g (by simp)
        obtain ⟨a1, a2⟩ := edgF_ordered n tab g.2 N g1 g2 h1 h2
        obtain ⟨b1, b2, b3, b4⟩ := edgF_len n tab g.2 g1 (ordered_closed h1)
        rw [List.foldl_cons, show edgE n (tab, es) g = ((edgF n tab g.2).1, es ++ [(g.1, (edgF n tab g.2).2)]) from rfl]
        exact ih _ _ (fun y hy => hg y (by simp [hy])) a1 a2 (fun e he => by
          rcases List.mem_append.1 he with he | he
          · have := h3 e he; omega
          · rw [List.mem_singleton.1 he]; exact b3)
    obtain ⟨f1, f2, f3⟩ := fold (grp l) tab [] (fun g hg => ⟨ho.2 g hg, Nat.le_trans (grp_each l g hg) hN⟩) hO hE (by simp)
    have fl := edgE_len n (grp l) (tab, [])
    have gl := grp_len l
    rw [edgF_succ]
    cases hp : posOf ((grp l).foldl (edgE n) (tab, [])).2 ((grp l).foldl (edgE n) (tab, [])).1 with
    | some i => exact ⟨f1, f2⟩
    | none =>
      have hno := (posOf_none _ _).1 hp
      generalize (grp l).foldl (edgE n) (tab, []) = r at f1 f2 f3 fl hno
      simp only [List.length_nil, Nat.zero_add] at fl
      refine ⟨fun i es hi => ?_, fun x hx => ?_⟩
      · by_cases hlt : i < r.1.length
        · rw [List.getElem?_append_left hlt] at hi
          exact f1 i es hi
        · rw [List.getElem?_append_right (by omega)] at hi
          have h0 : i - r.1.length = 0 := by
            by_cases h : i - r.1.length = 0
            · exact h
            · rw [List.getElem?_eq_none (by simp; omega)] at hi; cases hi
          rw [h0] at hi
          simp only [List.getElem?_cons_zero, Option.some.injEq] at hi
          subst hi
          have hii : i = r.1.length := by omega
          subst hii
          refine ⟨⟨fun e => ?_, fun e => ?_⟩, f3⟩
          · by_cases hz : r.1.length = 0
            · exact hz
            · exfalso
              have h1 : 0 < r.1.length := by omega
              have h2 := f1 0 r.1[0] (List.getElem?_eq_getElem h1)
              apply hno
              rw [e, ← h2.1.2 rfl]
              exact List.getElem_mem h1
          · cases hr : r.2 with
            | nil => rfl
            | cons x xs => have := f3 x (by rw [hr]; simp); omega
      · rcases List.mem_append.1 hx with hx | hx
        · exact f2 x hx
        · rw [List.mem_singleton.1 hx]; omega
end Sx

namespace Sx
theorem sl_all (l : List Wd) (m : Nat) (h : ∀ x ∈ l, x.length ≤ m) : sl l ≤ l.length * m := by
  induction l with
  | nil => simp [sl]
  | cons x l ih =>
    have h1 := h x (by simp)
    have h2 := ih (fun y hy => h y (by simp [hy]))
    simp only [sl, List.map_cons, List.sum_cons, List.length_cons] at h2 ⊢
    rw [Nat.succ_mul]
    omega
theorem sortW_length (l : List Wd) : ∀ m : List Wd, (l.foldl (fun m x => insW x m) m).length = l.length + m.length := by
  induction l with
  | nil => simp
  | cons x l ih =>
    intro m
    have h : (m.takeWhile (fun y => decide (y < x)) ++ m.dropWhile (fun y => decide (y < x))).length = m.length := by rw [List.takeWhile_append_dropWhile]
    have h2 : (insW x m).length = m.length + 1 := by
      unfold insW
      simp only [List.length_append, List.length_cons] at h ⊢
      omega
    rw [List.foldl_cons, ih, h2, List.length_cons]
    omega
/-- The first state has the greatest number. -/
theorem edgF_first {n : Nat} {l : List Wd} (h : OkF n l) : (edgF n [] l).2 + 1 = (edgF n [] l).1.length := by
  have hs := (sts_add n [] l ⟨by simp, by simp, by simp⟩ h).same
  rw [List.map_nil] at hs
  rw [hs]
  cases n with
  | zero => exact absurd h (by simp [OkF])
  | succ n =>
    rw [stsF_succ]
    simp only [List.map_nil, posOf, List.length_map, List.length_append, List.length_cons, List.length_nil]
/-- AN IMAGE OF RULES TELLS THEIR KEYS, rising. -/
theorem img_reads {rs : List Rl} (h : RlsOk rs) (h0 : rs ≠ []) : rdImg (imgT (tabOf rs)) = some (tabOf rs) ∧ tabOf rs ≠ [] ∧ wds 64 (tabOf rs) ((tabOf rs).length - 1) = sortW (rs.map rlKey) ∧ (tabOf rs).length ≤ 2000 := by
  have hk := (keys_ok h h0).1
  have hm := (sortW_ok _ (free_nodup (keys_free h.ok h.apart))).2
  have hlen : (sortW (rs.map rlKey)).length = rs.length := by
    have := sortW_length (rs.map rlKey) []
    unfold sortW
    rw [this, List.length_map]; rfl
  have hsl := sl_all (sortW (rs.map rlKey)) 63 (fun w hw => by
    obtain ⟨r, hr, rfl⟩ := List.mem_map.1 ((hm w).1 hw)
    have := rlKey_len (h.ok r hr); omega)
  rw [hlen] at hsl
  have hmany := h.many
  have htab : tabOf rs = (edgF 64 [] (sortW (rs.map rlKey))).1 := by unfold tabOf; rw [if_neg h0]
  obtain ⟨l1, l2, l3, l4⟩ := edgF_len 64 [] (sortW (rs.map rlKey)) hk (by simp)
  obtain ⟨o1, o2⟩ := edgF_ordered 64 [] (sortW (rs.map rlKey)) 30 hk (by omega) (by intro i es hi; simp at hi) (by simp)
  have hf := edgF_first hk
  have hw := edgF_wds 64 [] (sortW (rs.map rlKey)) hk (by intro es hes; simp at hes)
  rw [← htab] at l2 l3 o1 o2 hf hw
  simp only [List.length_nil] at l2
  refine ⟨rdImg_back o1 (by omega) (fun es hes => by have := o2 es hes; omega), fun e => by rw [e] at hf; simp at hf, ?_, by omega⟩
  rw [show (tabOf rs).length - 1 = (edgF 64 [] (sortW (rs.map rlKey))).2 by omega]
  exact hw
theorem img_reads_nil : rdImg (imgT (tabOf [])) = some [] := by decide
end Sx

namespace Sx
theorem letters_goodL (s : List UInt8) (l : List Int) (h : letters s = some l) : ∀ c ∈ l, Good c := (Go.Proofs.YtgohllfpceeboabGreatDoor.letters_is ⟨s.toArray⟩ l (by simpa using h)).2
theorem letters_lenL (s : List UInt8) (l : List Int) (h : letters s = some l) : text l = s := by simpa using (Go.Proofs.YtgohllfpceeboabGreatDoor.letters_is ⟨s.toArray⟩ l (by simpa using h)).1
theorem dotted_allL (h : List (List UInt8)) (hn : h ≠ []) : (dotted h).length + 1 = allLen h := Go.Proofs.YtgohllfpceeboabGreatDoor.dotted_all h hn
theorem good_lowerL (c : Int) (h : Good c) : Good (lower c) := Go.Proofs.YtgohllfpceeboabGreatDoor.good_lower c h
/-- Bytes as letters. -/
def ints (x : List UInt8) : List Int := x.map fun b => (b.toNat : Int)
theorem plB_lt {b : UInt8} (h : plB b) : b.toNat < 128 := by unfold plB at h; omega
theorem utf_byte (b : UInt8) (h : b.toNat < 128) : utf (b.toNat : Int) = [b] := by
  unfold utf
  rw [if_pos (by omega)]
  simp
theorem text_ints : ∀ (x : List UInt8), (∀ b ∈ x, b.toNat < 128) → text (ints x) = x
  | [], _ => rfl
  | b :: x, h => by
    have := text_ints x (fun c hc => h c (by simp [hc]))
    unfold text ints at this ⊢
    rw [List.map_cons, List.flatMap_cons, this, utf_byte b (h b (by simp))]
    rfl
theorem good_ints (x : List UInt8) (h : ∀ b ∈ x, b.toNat < 128) : ∀ c ∈ ints x, Good c := by
  intro c hc
  obtain ⟨b, hb, rfl⟩ := List.mem_map.1 hc
  have := h b hb
  exact ⟨by omega, by omega, by omega⟩
theorem letters_ints (x : List UInt8) (h : ∀ b ∈ x, b.toNat < 128) : letters x = some (ints x) := by
  have := letters_text (ints x) (good_ints x h)
  rwa [text_ints x h] at this
theorem label_form {l : List Int} {x : List UInt8} (h : label l = some x) : (l.map lower).all okL = true ∧ x = formOf (l.map lower) ∧ formOk x = true ∧ (((!(l.map lower).any (fun c => decide (128 ≤ c))) && decide (4 ≤ x.length) && (x.take 4 == xn)) = true → codeOk (x.drop 4) = true) := by
  unfold label at h
  split at h
  · rename_i h1
    split at h
    · rename_i h2
      split at h
      · rename_i h3
        split at h
        · rename_i h4
          obtain rfl := Option.some.inj h
          exact ⟨h1, rfl, h2, fun _ => h4⟩
        · cases h
      · rename_i h3
        obtain rfl := Option.some.inj h
        exact ⟨h1, rfl, h2, fun h => absurd h h3⟩
    · cases h
  · cases h
theorem label_again {l : List Int} {x : List UInt8} (h : label l = some x) (hg : ∀ c ∈ l, Good c) (hll0 : l.length ≤ 60) : label (ints x) = some x := by
  obtain ⟨_, hp⟩ := label_plB h
  obtain ⟨h1, h2, h3, h4⟩ := label_form h
  have hlt : ∀ b ∈ x, b.toNat < 128 := fun b hb => plB_lt (hp b hb)
  have e1 : (ints x).map lower = ints x := by
    unfold ints
    rw [List.map_map]
    refine List.map_congr_left fun b hb => ?_
    have := hp b hb
    unfold plB at this
    simp only [Function.comp, lower]
    rw [if_neg (by omega)]
  have e2 : (ints x).any (fun c => decide (128 ≤ c)) = false := by
    rw [List.any_eq_false]
    intro c hc
    obtain ⟨b, hb, rfl⟩ := List.mem_map.1 hc
    have := hlt b hb
    simp only [decide_eq_true_eq]
    omega
  have e3 : (ints x).all okL = true := by
    rw [List.all_eq_true]
    intro c hc
    obtain ⟨b, hb, rfl⟩ := List.mem_map.1 hc
    have := hp b hb
    unfold plB at this
    simp only [okL, Bool.or_eq_true, decide_eq_true_eq]
    omega
  have e4 : formOf (ints x) = x := by
    unfold formOf
    rw [e2]
    exact text_ints x hlt
  unfold label
  rw [e1, if_pos e3, e4, if_pos h3, e2]
  split
  · rename_i hc
    rw [if_pos]
    simp only [Bool.not_false, Bool.true_and, Bool.and_eq_true, decide_eq_true_eq] at hc
    cases hf : (l.map lower).any (fun c => decide (128 ≤ c)) with
    | false => exact h4 (by rw [hf]; simp only [Bool.not_false, Bool.true_and, Bool.and_eq_true, decide_eq_true_eq]; exact hc)
    | true =>
      have hx : x = xn ++ enc (l.map lower) := by rw [h2]; unfold formOf; rw [hf]; rfl
      have hx4 : x.drop 4 = enc (l.map lower) := by rw [hx]; rfl
      have hgm : ∀ c ∈ l.map lower, Good c := by
        intro c hc
        obtain ⟨b, hb, rfl⟩ := List.mem_map.1 hc
        exact good_lowerL b (hg b hb)
      have hxl : x.length ≤ 20 := by
        unfold formOk at h3
        simp only [Bool.and_eq_true, decide_eq_true_eq] at h3
        exact h3.1.1.2
      have hll : (l.map lower).length ≤ 20 := by
        have := (enc_lens (l.map lower) (by rw [List.length_map]; omega) (fun c hc => (hgm c hc).2.1)).1
        rw [hx, List.length_append] at hxl
        omega
      rw [hx4]
      exact codeOk_enc _ hll hgm hf
  · rfl
theorem utf_pos (c : Int) : 1 ≤ (utf c).length := by
  unfold utf
  repeat' split
  all_goals simp
theorem text_ge : ∀ (l : List Int), l.length ≤ (text l).length
  | [] => Nat.le_refl _
  | c :: l => by
    have := text_ge l
    have h := utf_pos c
    unfold text at this ⊢
    rw [List.flatMap_cons, List.length_append, List.length_cons]
    omega
theorem hostGo_parts : ∀ (l cur : List Int) (h : List (List UInt8)), hostGo l cur = some h → ∀ x ∈ h, ∃ p, label p = some x ∧ p.length ≤ cur.length + l.length ∧ ∀ c ∈ p, c ∈ cur ∨ c ∈ l
  | [], cur, h, e => by
    unfold hostGo at e
    cases hl : label cur with
    | none => rw [hl] at e; cases e
    | some x =>
      rw [hl] at e
      obtain rfl := Option.some.inj e
      exact fun y hy => ⟨cur, by rw [List.mem_singleton.1 hy]; exact hl, by omega, fun c hc => Or.inl hc⟩
  | c :: r, cur, h, e => by
    unfold hostGo at e
    split at e
    · cases hl : label cur with
      | none => rw [hl] at e; cases e
      | some x =>
        rw [hl] at e
        obtain ⟨h', e1, rfl⟩ := Option.map_eq_some_iff.1 e
        intro y hy
        rcases List.mem_cons.1 hy with rfl | hy
        · exact ⟨cur, hl, by omega, fun c hc => Or.inl hc⟩
        · obtain ⟨p, q1, q2, q3⟩ := hostGo_parts r [] h' e1 y hy
          refine ⟨p, q1, by simp at q2 ⊢; omega, fun c hc => Or.inr ?_⟩
          rcases q3 c hc with q | q
          · cases q
          · exact List.mem_cons_of_mem _ q
    · intro y hy
      obtain ⟨p, q1, q2, q3⟩ := hostGo_parts r (cur ++ [c]) h e y hy
      refine ⟨p, q1, by simp at q2 ⊢; omega, fun d hd => ?_⟩
      rcases q3 d hd with q | q
      · rcases List.mem_append.1 q with q | q
        · exact Or.inl q
        · exact Or.inr (by rw [List.mem_singleton.1 q]; exact List.mem_cons_self ..)
      · exact Or.inr (List.mem_cons_of_mem _ q)
/-- What is known of a host that was read. -/
theorem host_is {s : List UInt8} (h : (host s).2 = 0) : (∀ x ∈ (host s).1, label (ints x) = some x) ∧ hostEnd (host s).1 = ((host s).1, 0) := by
  unfold host at h ⊢
  split
  · rename_i hc; rw [if_pos hc] at h; simp at h
  · rename_i hc
    rw [if_neg hc] at h
    cases hl : letters s with
    | none => rw [hl] at h; simp at h
    | some l =>
      rw [hl] at h
      simp only at h ⊢
      cases hg : hostGo l [] with
      | none => rw [hg] at h; simp at h
      | some H =>
        rw [hg] at h
        simp only at h ⊢
        have hm := hostGo_parts l [] H hg
        have hgd := letters_goodL s l hl
        have hle : l.length ≤ s.length := by have := text_ge l; rwa [letters_lenL s l hl] at this
        have hE : hostEnd H = (H, 0) := by
          unfold hostEnd at h ⊢
          split
          · rename_i hc; rw [if_pos hc] at h; simp at h
          · rfl
        rw [hE]
        refine ⟨fun x hx => ?_, hE⟩
        obtain ⟨p, p1, p2, p3⟩ := hm x hx
        exact label_again p1 (fun c hc => by rcases p3 c hc with q | q; cases q; exact hgd c q) (by simp at p2; omega)
theorem hostGo_run : ∀ (x : List UInt8) (r cur : List Int), (∀ b ∈ x, b ≠ 46) → hostGo (ints x ++ r) cur = hostGo r (cur ++ ints x)
  | [], r, cur, _ => by simp [ints]
  | b :: x, r, cur, h => by
    have hb : (b.toNat : Int) ≠ 46 := fun e => h b (by simp) (UInt8.toNat_inj.1 (by simpa using (by omega : b.toNat = 46)))
    have ih := hostGo_run x r (cur ++ [(b.toNat : Int)]) (fun c hc => h c (by simp [hc]))
    show hostGo ((b.toNat : Int) :: (ints x ++ r)) cur = _
    rw [hostGo, if_neg hb, ih]
    simp [ints]
theorem hostGo_dotted : ∀ (h : List (List UInt8)), h ≠ [] → (∀ x ∈ h, label (ints x) = some x ∧ ∀ b ∈ x, b ≠ 46) → hostGo (ints (dotted h)) [] = some h
  | [], n, _ => absurd rfl n
  | [x], _, h => by
    have := hostGo_run x [] [] (h x (by simp)).2
    rw [List.append_nil, List.nil_append] at this
    have e : dotted [x] = x := by simp [dotted]
    rw [e, this]
    unfold hostGo
    rw [(h x (by simp)).1]
  | x :: y :: r, _, h => by
    have ih := hostGo_dotted (y :: r) (by simp) (fun z hz => h z (by simp [hz]))
    have := hostGo_run x (46 :: ints (dotted (y :: r))) [] (h x (by simp)).2
    rw [List.nil_append] at this
    have e : ints (dotted (x :: y :: r)) = ints x ++ 46 :: ints (dotted (y :: r)) := by rw [dotted_cons]; simp [ints]
    rw [e, this, hostGo, if_pos rfl, (h x (by simp)).1]
    simp only
    rw [ih]
    rfl
/-- A host that was read is read again from its plain form. -/
theorem host_again {s : List UInt8} (h : (host s).2 = 0) : host (dotted (host s).1) = ((host s).1, 0) := by
  obtain ⟨q1, q2, q3, q4⟩ := host_ok s h
  obtain ⟨k1, k2⟩ := host_is h
  obtain ⟨H, hH⟩ : ∃ H, (host s).1 = H := ⟨_, rfl⟩
  rw [hH] at q1 q2 q3 q4 k1 k2 ⊢
  have hlen := dotted_allL H q1
  have hlt : ∀ b ∈ dotted H, b.toNat < 128 := fun b hb => by
    rcases dotted_bytes (fun x hx => (q4 x hx).2) b hb with q | rfl
    · exact plB_lt q
    · decide
  unfold host
  rw [if_neg (by omega), letters_ints _ hlt]
  simp only
  rw [hostGo_dotted H q1 (fun x hx => ⟨k1 x hx, fun b hb => plB_no46 ((q4 x hx).2 b hb)⟩)]
  exact k2
end Sx

namespace Go.Proofs.YtgohllfpceeboabGreatDoor
open Go.RowKit
theorem own_lowerK {w : World} {B B' n : Nat} {e : TypeId} {z : Nat} {v : Value} {xs : List Value} (h : w.ownsRow B e z v n xs) (hk : B' ≤ B) : w.ownsRow B' e z v n xs := by
  refine ⟨h.1, ?_⟩
  rcases h.2 with h2 | ⟨g, cap, cur, hv, hg, r⟩
  · exact .inl h2
  · exact .inr ⟨g, cap, cur, hv, Nat.le_trans hk hg, r⟩
theorem own_shapeK {w : World} {B n : Nat} {e : TypeId} {z : Nat} {v : Value} {xs : List Value} (h : w.ownsRow B e z v n xs) : ∃ p cap, v = .slice p n cap := by
  rcases h.2 with ⟨rfl, rfl⟩ | ⟨g, cap, cur, hv, _⟩
  · exact ⟨none, 0, rfl⟩
  · exact ⟨_, cap, hv⟩
end Go.Proofs.YtgohllfpceeboabGreatDoor
namespace Sx
/-- Words with one first byte ahead, and the others. -/
theorem split_block : ∀ (L : List Wd), (∀ w ∈ L, w ≠ []) → L ≠ [] → ∃ (c : UInt8) (b : List Wd) (rest : List Wd), L = b.map (c :: ·) ++ rest ∧ b ≠ [] ∧ ∀ d t r, rest = (d :: t) :: r → d ≠ c
  | [], _, h => absurd rfl h
  | [] :: r, h, _ => absurd rfl (h [] (by simp))
  | [c :: t], _, _ => ⟨c, [t], [], by simp, by simp, by simp⟩
  | (c :: t) :: y :: r, h, _ => by
    obtain ⟨d, b, rest, h1, h2, h3⟩ := split_block (y :: r) (fun w hw => h w (List.mem_cons_of_mem _ hw)) (by simp)
    by_cases e : d = c
    · subst e
      exact ⟨d, t :: b, rest, by rw [h1]; simp, by simp, h3⟩
    · refine ⟨c, [t], y :: r, by simp, by simp, fun d' t' r' h' => ?_⟩
      obtain ⟨u, b', rfl⟩ := List.exists_cons_of_ne_nil h2
      rw [h'] at h1
      simp only [List.map_cons, List.cons_append, List.cons.injEq] at h1
      rw [h1.1.1]; exact e
theorem grp_sum_ok {n : Nat} {l : List Wd} (ho : OkF (n + 1) l) : ((grp l).map fun g => sl g.2 + 1).sum ≤ sl l := by
  rcases ho.1 with rfl | ⟨_, h1⟩
  · simp [grp]
  · exact grp_sum l h1
end Sx
namespace Go.Proofs.YtgohllfpceeboabGreatDoor
open Go.RowKit
theorem grown_setCell (w : World) (b o : Nat) (v : Value) : w.grownBy (w.setCell ⟨b, o, none⟩ v) (some b) :=
  ⟨rfl, rfl, rfl, by rw [World.size_setCell]; exact Nat.le_refl _, fun j hj hne => heap_setCell_other _ _ _ _ (fun e => hne (by rw [e]))⟩
end Go.Proofs.YtgohllfpceeboabGreatDoor
namespace Go.Proofs.YtgohllfpceeboabGreatDoor
open Go.RowKit
theorem allLen_ge (h : List (List UInt8)) (x : List UInt8) (hx : x ∈ h) : x.length ≤ Sx.allLen h := by
  induction h with
  | nil => cases hx
  | cons y r ih =>
    have e : Sx.allLen (y :: r) = y.length + 1 + Sx.allLen r := by simp [Sx.allLen]
    rcases List.mem_cons.1 hx with rfl | hx
    · omega
    · have := ih hx; omega
end Go.Proofs.YtgohllfpceeboabGreatDoor
namespace Go.Proofs.YtgohllfpceeboabGreatDoor
open Go.RowKit Go.Shelf
attribute [local go_sem] Oper.semAt_some
theorem lastTo_no (x : List UInt8) (c : UInt8) (h : ∀ b ∈ x, b ≠ c) : ∀ k, k ≤ x.length → lastTo x c k = -1 := by
  intro k
  induction k with
  | zero => intro _; rfl
  | succ k ih =>
    intro hk
    have hg : x.getD k 0 = x[k]'(by omega) := by simp [List.getD_eq_getElem?_getD, List.getElem?_eq_getElem (show k < x.length by omega)]
    simp only [lastTo]
    rw [if_neg (by rw [hg]; exact h _ (List.getElem_mem _)), ih (by omega)]
theorem lastTo_at (d x : List UInt8) (c : UInt8) (h : ∀ b ∈ x, b ≠ c) : ∀ j, j ≤ x.length → lastTo (d ++ c :: x) c (d.length + 1 + j) = d.length := by
  intro j
  induction j with
  | zero =>
    intro _
    simp only [lastTo]
    rw [if_pos (by simp)]
  | succ j ih =>
    intro hj
    have hg : (d ++ c :: x).getD (d.length + 1 + j) 0 = x[j]'(by omega) := by
      rw [List.getD_eq_getElem?_getD, List.getElem?_append_right (by omega), show d.length + 1 + j - d.length = j + 1 from by omega, List.getElem?_cons_succ, List.getElem?_eq_getElem (by omega)]
      rfl
    rw [show d.length + 1 + (j + 1) = (d.length + 1 + j) + 1 from by omega]
    simp only [lastTo]
    rw [if_neg (by rw [hg]; exact h _ (List.getElem_mem _)), ih (by omega)]
theorem pcs_turn : ∀ (r : List (List UInt8)), r ≠ [] → (∀ x ∈ r, ∀ b ∈ x, b ≠ 46) → pcs (Sx.dotted r.reverse) = r := by
  intro r
  induction r with
  | nil => intro hn; exact absurd rfl hn
  | cons x r ih =>
    intro hn hx
    rw [List.reverse_cons, Sx.dotted_snoc]
    have hx0 := hx x (by simp)
    by_cases hr : r = []
    · subst hr
      rw [if_pos (by simp)]
      exact pcs_last x (by unfold dotAt; rw [lastTo_no x 46 hx0 _ (Nat.le_refl _)]; omega)
    · rw [if_neg (by simpa using hr)]
      have hd : dotAt (Sx.dotted r.reverse ++ 46 :: x) = (Sx.dotted r.reverse).length := by
        unfold dotAt
        rw [List.length_append, List.length_cons, show (Sx.dotted r.reverse).length + (x.length + 1) = (Sx.dotted r.reverse).length + 1 + x.length from by omega]
        exact lastTo_at _ x 46 hx0 _ (Nat.le_refl _)
      rw [pcs_more _ (by rw [hd]; omega), hd]
      rw [show (((Sx.dotted r.reverse).length : Int) + 1).toNat = (Sx.dotted r.reverse).length + 1 from by omega, Int.toNat_natCast, List.take_left' rfl, ih hr (fun y hy => hx y (by simp [hy]))]
      rw [show Sx.dotted r.reverse ++ 46 :: x = (Sx.dotted r.reverse ++ [46]) ++ x from by simp, List.drop_left' (by simp)]
/-- The pieces of labels with dots between them are those labels, from the right. -/
theorem pcs_dotted (h : List (List UInt8)) (hn : h ≠ []) (hx : ∀ x ∈ h, ∀ b ∈ x, b ≠ 46) : pcs (Sx.dotted h) = h.reverse := by
  have := pcs_turn h.reverse (by simpa using hn) (fun x hm => hx x (List.mem_reverse.1 hm))
  rw [List.reverse_reverse] at this
  exact this
theorem pcs_len (r : List UInt8) : (pcs r).length ≤ r.length + 1 := by
  have : ∀ f r, (pcsF f r).length ≤ f + 1 := by
    intro f
    induction f with
    | zero => intro r; simp [pcsF]
    | succ f ih =>
      intro r
      simp only [pcsF]
      split
      · simp
      · have := ih (r.take (dotAt r).toNat)
        simp only [List.length_cons]
        omega
  exact this _ _
theorem own_low {w : World} {B B' n sz : Nat} {e : TypeId} {v : Value} {xs : List Value} (h : w.ownsRow B e sz v n xs) (hB : B' ≤ B) : w.ownsRow B' e sz v n xs := by
  refine ⟨h.1, ?_⟩
  rcases h.2 with h2 | ⟨g, cap, cur, h1, h2, h3⟩
  · exact .inl h2
  · exact .inr ⟨g, cap, cur, h1, Nat.le_trans hB h2, h3⟩
/-- Where the gathering of labels stands, behind k of them. -/
structure ColAt (P : List (List UInt8)) (w : World) (b : Nat) (k : Nat) (W : World) : Prop where
  kP : k ≤ P.length
  row : ∃ v, Boxed W b 51 v ∧ W.ownsRow (b + 1) 9 1 v k (stV (P.take k))
  bel : Below w.heap.size w W
  siz : b + 1 ≤ W.heap.size
theorem ColAt.own {P : List (List UInt8)} {w : World} {b C : Nat} (hC : w.heap.size ≤ C) : OwnFrom C (ColAt P w b) := by
  intro k W W' row h hg hr
  obtain ⟨a1, ⟨v, a4, a5⟩, a8, a9⟩ := h
  have hne : ∀ {b : Nat} {t : TypeId} {v : Value}, Boxed W b t v → some b ≠ row := fun hb e => by
    obtain ⟨_, o, ho, hc⟩ := hr _ e.symm
    exact box_ne hb ho hc rfl
  exact ⟨a1, ⟨v, a4.kept hg (hne a4), own_kept_off a5 hg (fun r e => (hr r e).2)⟩, a8.grown hg a8.size (fun r e => by have := (hr r e).1; omega), Nat.le_trans a9 hg.size⟩
set_option maxRecDepth 100000 in
set_option maxHeartbeats 1000000 in
/-- slices.AppendSeq of a host's labels, upon nothing -/
theorem pseq (s : ByteArray) (w : World) (P : List (List UInt8)) (hs : s.size ≤ 1000) (hP : P = pcs s.data.toList) :
    Calls Tryz.prog 173 #[.slice none 0 0, .func (.func 84) #[.string s] #[]] w fun e w' => ∃ v, e = .returned v ∧ w'.ownsRow w.heap.size 9 1 v P.length (stV P) ∧ Below w.heap.size w w' := by
  refine (callsIn_wide (n := 10)).1 ?_
  refine callsIn_of_wp_marks Tryz.func173 rfl trivial ?_ rfl
  simp only [Tryz.ntmps173, List.size_toArray, List.length_cons, List.length_nil, Nat.reduceAdd, Nat.reduceSub, Array.replicate_succ, Array.replicate_zero, List.push_toArray, List.append_toArray, List.nil_append, List.cons_append]
  obtain ⟨i0, hi, hz0, hz1, hz2⟩ := info_parts Tryz.info9
  have HP := hide hP
  have hB3 : Below w.heap.size w (w.alloc (.cells #[.slice none 0 0] 51)) := (Below.refl _ _).alloc (Nat.le_refl _) _
  have hy4 := Boxed.new w 51 (.slice none 0 0)
  have hsz3 : w.heap.size + 1 ≤ (w.alloc (.cells #[.slice none 0 0] 51)).heap.size := by rw [World.size_alloc]; exact Nat.le_refl _
  obtain ⟨b, hb⟩ : ∃ b, w.heap.size = b := ⟨_, rfl⟩
  obtain ⟨W3, hW3⟩ : ∃ W3, w.alloc (.cells #[.slice none 0 0] 51) = W3 := ⟨_, rfl⟩
  have HI0 : Hid (ColAt P w b 0 W3) := hide ⟨by omega, ⟨.slice none 0 0, by rw [← hW3, ← hb]; exact hy4, World.ownsRow_nil _ _ _ _⟩, by rw [← hW3]; exact hB3, by rw [← hW3, ← hb]; exact hsz3⟩
  have hw3 : w.heap.size ≤ W3.heap.size := by rw [← hW3]; exact hB3.size
  have HB := hide hb
  have HW3 := hide hW3
  clear hP hB3 hy4 hsz3 hb hW3
  gi_wp2
  rw [HW3.out, HB.out]
  refine range_labs 10 (by omega) (by omega) s hs (.tmp 6) rfl P HP.out rfl (ColAt P w b) (fun _ => False) (ColAt.own hw3) (fun _ _ _ _ h => h.elim) HI0.out
    (fun x => { tmps := #[Value.slice none 0 0, Value.func (Fn.func 84) #[Value.string s] #[], Value.pointer (some ⟨b, 0, none⟩), undef, Value.slice none 0 0, .string x, Value.func (Fn.func 84) #[Value.string s] #[], .string x, undef, undef, undef, undef, undef], defers := [] }) ?assign ?body ?done ?stop
  case assign =>
    intro l x W K hK
    gi_wp2
    exact hK
  case body =>
    rintro l k hk W ⟨kP, ⟨v, bv, hown⟩, bel, siz⟩
    obtain ⟨vp, vc, rfl⟩ := own_shape hown
    have c4 := (Boxed.alloc bv (.cells #[.string ⟨P[k].toArray⟩] 9)).cell
    have hkl : k ≤ 1000000 := by have := pcs_len s.data.toList; rw [← HP.out, ba_len] at this; omega
    obtain ⟨X, hX⟩ : ∃ X : ByteArray, ⟨P[k].toArray⟩ = X := ⟨_, rfl⟩
    rw [hX] at c4 ⊢
    have d4 := bv.cell
    have hbw : w.heap.size ≤ b := by rw [HB.out]; exact Nat.le_refl _
    gi_wp2_with (gi_at_builtin; refine wpListIn_append_own _ rfl _ _ _ rfl (b + 1) 9 i0 (.string ⟨#[]⟩) 1 16 Tryz.underlying51 hi hz0 hz1 hz2 rfl (by decide) _ _ _ rfl (hown.alloc _) ⟨_, 0, none⟩ 1 1 [.string X] rfl rfl ?_ ?_ ?_ ?_ ?_ ?_)
    · exact cell_one_new _ _ _
    · simp [Value.oneCell']
    · unfold maxLen; omega
    · omega
    · rw [World.size_alloc]; omega
    · intro v' w8 hown8 hgrow8 _
      obtain ⟨g', cap', rfl⟩ := ownsRow_succ hown8
      have s4 : Boxed w8 b 51 (.slice vp k vc) := (bv.alloc _).kept hgrow8 (Boxed.not_row bv (by decide) hown)
      have f4 := s4.cell
      have f5 := s4.frozen
      gi_wp2
      have hKO8 : KeepsOthers W w8 := (KeepsOthers.alloc _ _).trans (KeepsOthers.of_grownBy hgrow8 (fun j o e ho => by
        rcases (hown.alloc (.cells #[.string X] 9)).2 with ⟨h1, _⟩ | ⟨g, cap, cur, h1, h2, h3, h4⟩
        · rw [h1] at e; cases e
        · rw [h1] at e
          cases e
          rw [h3] at ho
          cases ho
          rfl))
      have hBe8 : Below w.heap.size w w8 := (bel.alloc bel.size _).grown hgrow8 (by rw [World.size_alloc]; exact Nat.le_succ_of_le bel.size) (fun q e => by have := (hown.lt q e).1; omega)
      have htk : P.take (k + 1) = P.take k ++ [P[k]] := List.take_succ_eq_append_getElem hk
      refine ⟨(hKO8.trans (KeepsOthers.setCell _ _ _)).from _, ⟨hk, ⟨_, s4.set _, ?_⟩, hBe8.setCell (p := ⟨b, 0, none⟩) hbw _, ?_⟩⟩
      · rw [htk, stV_app]
        have e : stV [P[k]] = [.string X] := by unfold stV; rw [List.map_cons, List.map_nil, hX]
        rw [e]
        exact hown8.kept (grownBy_setCell' w8 b _) (.inr (fun e => by have := (hown8.lt b e).1; omega))
      · have h1 := hgrow8.size
        rw [World.size_alloc] at h1
        rw [World.size_setCell]
        omega
  case done =>
    rintro D W hD ⟨_, ⟨v, bv, hown⟩, bel, siz⟩ hK
    rw [List.take_length] at hown
    obtain ⟨vp, vc, rfl⟩ := own_shape hown
    have d4 := bv.cell
    gi_wp2
    refine ⟨by simp, .inl ⟨_, _, rfl, run_takeDeferred hK, ?_⟩⟩
    have hbw : w.heap.size ≤ b := by rw [HB.out]; exact Nat.le_refl _
    refine ⟨.slice vp P.length vc, by simp [results, Tryz.results173, go_sem], _, rfl, ?_, ?_⟩
    · refine own_low (hown.kept (grownBy_putObj' W D (.deferred none)) ?_) (by omega)
      rcases hown.2 with ⟨h1, _⟩ | ⟨g, cap, cur, h1, h2, h3, h4⟩
      · exact .inl (by rw [h1]; rfl)
      · refine .inr (fun e => ?_)
        rw [h1] at e
        cases e
        rw [h3] at hK
        cases hK
    · exact bel.grown (grownBy_putObj' W D (.deferred none)) bel.size (fun q e => by cases e; omega)
  case stop =>
    rintro D W hD h
    exact h.elim
/-- slices.Collect of a host's labels -/
theorem pcol (s : ByteArray) (w : World) (P : List (List UInt8)) (hs : s.size ≤ 1000) (hP : P = pcs s.data.toList) :
    Calls Tryz.prog 122 #[.func (.func 84) #[.string s] #[]] w fun e w' => ∃ v, e = .returned v ∧ w'.ownsRow w.heap.size 9 1 v P.length (stV P) ∧ Below w.heap.size w w' := by
  have HS := hide (pseq s w P hs hP)
  clear hs hP
  go_enter Tryz.func122, Tryz.ntmps122
  go_wp2_with fail
  refine HS.out.mono ?_
  rintro e w1 ⟨v, rfl, hown, hB⟩
  obtain ⟨vp, vc, rfl⟩ := own_shape hown
  go_wp2
  go_ret
  exact ⟨_, rfl, hown, hB⟩
theorem join_dot (P : List (List UInt8)) : Lib.join P [46] = Sx.dotted P := by
  cases P with
  | nil => rfl
  | cons x r =>
    rw [Lib.join_cons]
    show x ++ (r.map ([46] ++ ·)).flatten = x ++ r.flatMap fun y => 46 :: y
    rw [List.flatMap_def]
    rfl
theorem pcsF_le : ∀ (f : Nat) (r : List UInt8), ∀ x ∈ pcsF f r, x.length ≤ r.length := by
  intro f
  induction f with
  | zero => intro r x hx; simp only [pcsF, List.mem_singleton] at hx; rw [hx]; exact Nat.le_refl _
  | succ f ih =>
    intro r x hx
    simp only [pcsF] at hx
    split at hx
    · rw [List.mem_singleton.1 hx]; exact Nat.le_refl _
    · rcases List.mem_cons.1 hx with rfl | hx
      · rw [List.length_drop]; omega
      · have := ih _ x hx
        rw [List.length_take] at this
        omega
theorem dots_lenP (M : Nat) : ∀ (q : List (List UInt8)), (∀ x ∈ q, x.length ≤ M) → (q.flatMap fun y => 46 :: y).length ≤ q.length * (M + 1)
  | [], _ => by simp
  | x :: q, h => by
    have h1 := h x (by simp)
    have h2 := dots_lenP M q (fun y hy => h y (by simp [hy]))
    rw [List.flatMap_cons, List.length_append, List.length_cons, List.length_cons, Nat.succ_mul]
    omega
theorem dot_lenP (h : List (List UInt8)) (M : Nat) (hx : ∀ x ∈ h, x.length ≤ M) : (Sx.dotted h).length ≤ h.length * (M + 1) := by
  cases h with
  | nil => simp [Sx.dotted]
  | cons x q =>
    have h1 := hx x (by simp)
    have h2 := dots_lenP M q (fun y hy => hx y (by simp [hy]))
    simp only [Sx.dotted, List.length_append, List.length_cons, Nat.succ_mul]
    omega
theorem stV_at (P : List (List UInt8)) (j : Nat) (x : ByteArray) (h : (P.map fun p => (⟨p.toArray⟩ : ByteArray))[j]? = some x) : (stV P)[j]? = some (.string x) := by
  unfold stV
  rw [List.getElem?_map] at h ⊢
  cases hp : P[j]? with
  | none => rw [hp] at h; cases h
  | some p => rw [hp] at h; simp only [Option.map_some, Option.some.injEq] at h ⊢; rw [h]
set_option maxHeartbeats 1000000 in
/-- (suffix.host).turned -/
theorem pturn (s : ByteArray) (w : World) (P : List (List UInt8)) (hs : s.size ≤ 1000) (hP : P = pcs s.data.toList) :
    Calls Tryz.prog 77 #[.string s] w fun e w' => e = .returned (.string ⟨(Sx.dotted P).toArray⟩) ∧ Below w.heap.size w w' := by
  have HS := hide (pcol s w P hs hP)
  have hPl : P.length ≤ 1001 := by have := pcs_len s.data.toList; rw [← hP, ba_len] at this; omega
  have hP0 : 0 < P.length := by
    rw [hP]; unfold pcs
    cases s.data.toList.length with
    | zero => simp [pcsF]
    | succ m => simp only [pcsF]; split <;> simp
  have hdl : (Sx.dotted P).length ≤ 10000000 := by
    have h1 := dot_lenP P 1000 (fun x hx => by rw [hP] at hx; have := pcsF_le _ _ x hx; rw [ba_len] at this; omega)
    have h2 : P.length * (1000 + 1) ≤ 1001 * 1001 := Nat.mul_le_mul_right _ hPl
    omega
  clear hP hs
  go_enter Tryz.func77, Tryz.ntmps77
  go_wp2_with fail
  refine HS.out.mono ?_
  rintro e w1 ⟨v, rfl, hown, hB⟩
  obtain ⟨g, cap, hv, hgB, hgl⟩ : ∃ g cap, v = .slice (some ⟨g, 0, none⟩) P.length cap ∧ P.length ≤ cap ∧ g < w1.heap.size := by
    rcases hown.2 with ⟨_, h2⟩ | ⟨g, cap, cur, h1, h2, h3, h4, _⟩
    · omega
    · exact ⟨g, cap, h1, h4, (Array.getElem?_eq_some_iff.1 h3).1⟩
  subst hv
  have hmm : (P.map fun p => (⟨p.toArray⟩ : ByteArray)).map (·.data.toList) = P := by rw [List.map_map]; exact List.map_id _
  have hj := Tryz.strings_Join g 0 cap (P.map fun p => (⟨p.toArray⟩ : ByteArray)) ⟨#[46]⟩ w1 (fun j x hx => by
    have := hown.cells (g := g) rfl _ _ (stV_at P j x hx)
    rw [Addr.add_lit] at this
    exact this) hgl (by rw [List.length_map]; omega) (by rw [List.length_map]; exact hgB) (by rw [hmm]; show (Lib.join P [46]).length ≤ _; rw [join_dot]; omega)
  rw [hmm, show (⟨#[46]⟩ : ByteArray).data.toList = [46] from rfl, join_dot, List.length_map] at hj
  have HJ := hide hj
  clear hj
  go_wp2_with fail
  refine HJ.out.mono ?_
  rintro e w2 ⟨rfl, hB2⟩
  have hBe := hB.trans (hB2.mono hB.size)
  clear hB hB2 hown HJ
  go_wp2
  go_ret
  exact ⟨rfl, hBe⟩
theorem conv2 {W : World} {b : Nat} {x y : UInt8} (h : W.heap[b]? = some (.cells #[.int .u8 x.toNat, .int .u8 y.toNat] 5 (0, 0))) : (convert 90 9 (.slice (some ⟨b, 0, none⟩) 2 2)).run Tryz.prog W = .ok (.string ⟨[x, y].toArray⟩) W := by
  refine own_string (B := 0) (n := 2) (bs := [x, y]) ⟨by simp [byV], .inr ⟨b, 2, _, rfl, Nat.zero_le _, h, by omega, by unfold maxLen; omega, rfl, rfl⟩⟩
theorem key_held {w w' w1 : World} {o : Obj} (hB : Below w'.heap.size w' w1) (h : Below (w.heap.size + 1) (w.alloc o) w') : Below (w.heap.size + 1) (w.alloc o) w1 := h.trans (hB.mono (by have := h.size; rw [World.size_alloc] at this; exact this))
theorem key_end {w w1 : World} {o : Obj} (h : Below (w.heap.size + 1) (w.alloc o) w1) : Below w.heap.size w w1 := ((Below.refl _ w).alloc (Nat.le_refl _) o).trans (h.mono (Nat.le_succ _))
theorem blk2 (w : World) (o o2 : Obj) : ((w.alloc o).alloc o2).drew.heap[w.heap.size + 1]? = some o2 := by
  have := heap_alloc_new (w.alloc o) o2
  rw [World.size_alloc] at this
  exact this
theorem conv_later {w w1 : World} {o : Obj} {x y : UInt8} (hB : Below ((w.alloc o).alloc (.cells #[.int .u8 x.toNat, .int .u8 y.toNat] 5)).drew.heap.size ((w.alloc o).alloc (.cells #[.int .u8 x.toNat, .int .u8 y.toNat] 5)).drew w1) : (convert 90 9 (.slice (some ⟨w.heap.size + 1, 0, none⟩) 2 2)).run Tryz.prog w1 = .ok (.string ⟨[x, y].toArray⟩) w1 :=
  conv2 ((hB.block _ (by show _ < ((w.alloc o).alloc _).heap.size; rw [World.size_alloc, World.size_alloc]; omega)).trans (blk2 w o _))
set_option maxRecDepth 100000 in
set_option maxHeartbeats 1000000 in
/-- (suffix.rule).key -/
theorem pkey (r : Sx.Rl) (w : World) (hr : Sx.RlOk r) : Calls Tryz.prog 50 #[ruA r] w fun e w' => e = .returned (.string ⟨(Sx.rlKey r).toArray⟩) ∧ Below w.heap.size w w' := by
  obtain ⟨h, k, sc⟩ := r
  have hpd := pcs_dotted h hr.1.1 (fun x hx b hb => Sx.plB_no46 ((hr.1.2.2.2 x hx).2 b hb))
  have hdl : (Sx.dotted h).length ≤ 1000 := by
    have h1 := dot_lenP h 100 (fun x hx => by have := allLen_ge h x hx; have h9 : Sx.allLen h ≤ 61 := hr.1.2.2.1; omega)
    have h2 : h.length ≤ 6 := hr.1.2.1
    have h3 : h.length * (100 + 1) ≤ 6 * 101 := Nat.mul_le_mul_right _ h2
    omega
  unfold ruA Sx.rlKey Sx.keyOf
  dsimp only
  obtain ⟨D, hD⟩ : ∃ D : ByteArray, ⟨(Sx.dotted h).toArray⟩ = D := ⟨_, rfl⟩
  have hDl : D.data.toList = Sx.dotted h := by rw [← hD]
  have hDz : D.size ≤ 1000 := by rw [← ba_len, hDl]; exact hdl
  have ht := fun w => pturn D w h.reverse hDz (by rw [hDl, hpd])
  rw [hD]
  obtain ⟨T, hT⟩ : ∃ T, Sx.dotted h.reverse = T := ⟨_, rfl⟩
  rw [hT] at ht ⊢
  have hTl : T.length ≤ 1000 := by
    rw [← hT]
    have h1 := dot_lenP h.reverse 100 (fun x hx => by have := allLen_ge h x (List.mem_reverse.1 hx); have h9 : Sx.allLen h ≤ 61 := hr.1.2.2.1; omega)
    have h2 : h.length ≤ 6 := hr.1.2.1
    rw [List.length_reverse] at h1
    have h3 : h.length * (100 + 1) ≤ 6 * 101 := Nat.mul_le_mul_right _ h2
    omega
  have hsum : T.length + 2 ≤ 9223372036854775807 := by omega
  have hts : (⟨T.toArray⟩ : ByteArray).size = T.length := rfl
  have hks : (⟨[k, sc].toArray⟩ : ByteArray).size = 2 := rfl
  have happ := ba_app T [k, sc]
  obtain ⟨N, hN⟩ : ∃ N, h.length = N := ⟨_, rfl⟩
  rw [hN]
  have HTU := hide ht
  clear ht hT hN hD hDl hDz hdl hpd hr
  go_enter Tryz.func50, Tryz.ntmps50
  go_wp2_with fail
  have hbx0 : ∀ (x y z u : Value) (W : World), Below (w.heap.size + 1) (w.alloc (.cells #[x, y, z, u] 82)) W → W.cell? ⟨w.heap.size, 0, none⟩ = some x ∧ W.cell? ⟨w.heap.size, 1, none⟩ = some y ∧ W.cell? ⟨w.heap.size, 3, none⟩ = some u := fun x y z u W hb => by
    have := (hb.block w.heap.size (Nat.lt_succ_self _)).trans (heap_alloc_new _ _)
    obtain ⟨⟨q0, q1, q2, q3⟩, _⟩ := box4 this
    exact ⟨q0, q1, q3⟩
  have HBX := hide hbx0
  clear hbx0
  have hcn : ∀ W : World, (convert 90 9 (.slice (some ⟨W.heap.size, 0, none⟩) 2 2)).run Tryz.prog (W.alloc (.cells #[.int .u8 k.toNat, .int .u8 sc.toNat] 5)) = .ok (.string ⟨[k, sc].toArray⟩) (W.alloc (.cells #[.int .u8 k.toNat, .int .u8 sc.toNat] 5)) := fun W => conv2 (heap_alloc_new W _)
  have hcm : ∀ (W : World) (o : Obj), (convert 90 9 (.slice (some ⟨W.heap.size + 1, 0, none⟩) 2 2)).run Tryz.prog ((W.alloc o).alloc (.cells #[.int .u8 k.toNat, .int .u8 sc.toNat] 5)).drew = .ok (.string ⟨[k, sc].toArray⟩) ((W.alloc o).alloc (.cells #[.int .u8 k.toNat, .int .u8 sc.toNat] 5)).drew := fun W o => conv2 (blk2 W o _)
  go_region_held_law (fun w' => w'.cell? ⟨w.heap.size, 0, none⟩ = some (.int .u8 k.toNat) ∧ w'.cell? ⟨w.heap.size, 1, none⟩ = some (.string D) ∧ w'.cell? ⟨w.heap.size, 3, none⟩ = some (.int .u8 sc.toNat)) (first | exact hS1 | go_keep) ((go_at_call 77; refine (HTU.out _).mono ?_; rintro e w1 ⟨rfl, hB1⟩; have hb1 : Below (w.heap.size + 1) (w.alloc (.cells #[.int .u8 k.toNat, .string D, .int .i64 N, .int .u8 sc.toNat] 82)) w1 := key_held hB1 (by first | exact (Below.refl _ _).drew | exact ((Below.refl _ _).alloc (by rw [World.size_alloc]; exact Nat.le_refl _) _).drew); have hS1 := HBX.out _ _ _ _ w1 hb1; (try have hcv := conv_later hB1)))
  all_goals (go_wp2; go_ret; refine ⟨rfl, ?_⟩; first | exact key_end hb1 | exact (key_end hb1).alloc (key_end hb1).size _)
end Go.Proofs.YtgohllfpceeboabGreatDoor

