import Derived.Test.YtgohllfpceeboabGreatDoorSbaa
import Derived.Test.YtgohllfpceeboabGreatDoorSbac
import Derived.Test.YtgohllfpceeboabGreatDoorSbal
import Derived.Test.YtgohllfpceeboabGreatDoorSban
import Derived.Test.YtgohllfpceeboabGreatDoorSbao
import Derived.Test.YtgohllfpceeboabGreatDoorSbap
import Derived.Test.YtgohllfpceeboabGreatDoorSbaq
import Derived.Test.YtgohllfpceeboabGreatDoorProg
import Derived.Test.YtgohllfpceeboabGreatDoorSbaj
import Derived.Test.YtgohllfpceeboabGreatDoorSbab
import Derived.Ground.NamesProg
import Derived.Shelf.Strings.OnBuilder
import Derived.Shelf.Strings.Search1
import Derived.Shelf.Strings.Search2
import Derived.Shelf.Sort.Plain
import Derived.Shelf.Slices.In.SortNone
import Derived.Deep.Onto
import Derived.Deep.QuietTactic
import Derived.BigQuiet
import Derived.WalkSmall
import Derived.Maps.AppendAt
namespace Sx
/-- A word; an edge: its byte, and the number of the state to which it goes. -/
abbrev Wd := List UInt8
abbrev Edg := UInt8 × Nat
/-- Where a thing stands first. -/
def posOf {α : Type} [DecidableEq α] (x : α) : List α → Option Nat
  | [] => none
  | y :: r => if y = x then some 0 else (posOf x r).map (· + 1)
theorem posOf_none {α : Type} [DecidableEq α] (x : α) : ∀ l : List α, posOf x l = none ↔ x ∉ l
  | [] => by simp [posOf]
  | y :: r => by
    unfold posOf
    by_cases h : y = x
    · simp [h]
    · have := posOf_none x r
      rw [if_neg h, Option.map_eq_none_iff, this]
      simp only [List.mem_cons, not_or]
      exact ⟨fun h2 => ⟨fun e => h e.symm, h2⟩, fun h2 => h2.2⟩
theorem posOf_get {α : Type} [DecidableEq α] (x : α) : ∀ (l : List α) (i : Nat), posOf x l = some i → l[i]? = some x
  | [], i => by simp [posOf]
  | y :: r, i => by
    unfold posOf
    by_cases h : y = x
    · rw [if_pos h]; intro e; obtain rfl := Option.some.inj e; simp [h]
    · rw [if_neg h, Option.map_eq_some_iff]
      rintro ⟨j, hj, rfl⟩
      simpa using posOf_get x r j hj
theorem nodup_at {α : Type} : ∀ (l : List α), l.Nodup → ∀ (i j : Nat) (x : α), l[i]? = some x → l[j]? = some x → i = j
  | [], _, i, j, x, h, _ => by simp at h
  | y :: r, hn, i, j, x, hi, hj => by
    obtain ⟨h1, h2⟩ := List.nodup_cons.1 hn
    cases i with
    | zero =>
      cases j with
      | zero => rfl
      | succ j =>
        simp only [List.getElem?_cons_zero, Option.some.injEq] at hi
        simp only [List.getElem?_cons_succ] at hj
        subst hi
        exact absurd (List.mem_of_getElem? hj) h1
    | succ i =>
      cases j with
      | zero =>
        simp only [List.getElem?_cons_zero, Option.some.injEq] at hj
        simp only [List.getElem?_cons_succ] at hi
        subst hj
        exact absurd (List.mem_of_getElem? hi) h1
      | succ j =>
        simp only [List.getElem?_cons_succ] at hi hj
        rw [nodup_at r h2 i j x hi hj]
theorem posOf_at {α : Type} [DecidableEq α] {l : List α} (hn : l.Nodup) {i : Nat} {x : α} (h : l[i]? = some x) : posOf x l = some i := by
  cases hp : posOf x l with
  | none => exact absurd (List.mem_of_getElem? h) ((posOf_none x l).1 hp)
  | some j => rw [nodup_at l hn i j x h (posOf_get x l j hp)]
/-- Words by their first bytes, those of one byte together. -/
def grp : List Wd → List (UInt8 × List Wd)
  | [] => []
  | [] :: r => grp r
  | (c :: t) :: r => match grp r with
    | [] => [(c, [t])]
    | (d, b) :: g => if d = c then (c, t :: b) :: g else (c, [t]) :: (d, b) :: g
def ungrp (g : List (UInt8 × List Wd)) : List Wd := g.flatMap fun x => x.2.map (x.1 :: ·)
theorem ungrp_grp : ∀ (l : List Wd), (∀ w ∈ l, w ≠ []) → ungrp (grp l) = l
  | [], _ => rfl
  | [] :: r, h => absurd rfl (h [] (by simp))
  | (c :: t) :: r, h => by
    have ih := ungrp_grp r (fun w hw => h w (by simp [hw]))
    unfold grp
    cases hg : grp r with
    | nil =>
      rw [hg] at ih
      simp only [ungrp, List.flatMap_nil] at ih
      simp [ungrp, ← ih]
    | cons x g =>
      obtain ⟨d, b⟩ := x
      rw [hg] at ih
      by_cases e : d = c
      · subst e
        simp only [if_true]
        rw [← ih]
        simp [ungrp]
      · simp only [if_neg e]
        rw [← ih]
        simp [ungrp]
/-- How many bytes words have together. -/
def sl (l : List Wd) : Nat := (l.map List.length).sum
theorem grp_sl : ∀ (l : List Wd), (∀ w ∈ l, w ≠ []) → ∀ g ∈ grp l, sl g.2 < sl l
  | [], _, g, hg => by simp [grp] at hg
  | [] :: r, h, _, _ => absurd rfl (h [] (by simp))
  | (c :: t) :: r, h, g, hg => by
    have ih := grp_sl r (fun w hw => h w (by simp [hw]))
    unfold grp at hg
    cases hr : grp r with
    | nil =>
      rw [hr] at hg
      simp only [List.mem_singleton] at hg
      subst hg
      simp [sl]; omega
    | cons x g' =>
      obtain ⟨d, b⟩ := x
      rw [hr] at hg ih
      by_cases e : d = c
      · simp only [if_pos e, List.mem_cons] at hg
        rcases hg with rfl | hg
        · have := ih (d, b) (by simp)
          simp [sl] at this ⊢; omega
        · have := ih g (by simp [hg])
          simp [sl] at this ⊢; omega
      · simp only [if_neg e, List.mem_cons] at hg
        rcases hg with rfl | rfl | hg
        · simp [sl]; omega
        · have := ih (d, b) (by simp)
          simp [sl] at this ⊢; omega
        · have := ih g (by simp [hg])
          simp [sl] at this ⊢; omega
theorem grp_nil {l : List Wd} (h : ∀ w ∈ l, w ≠ []) (h0 : l ≠ []) : grp l ≠ [] := by
  intro e
  have := ungrp_grp l h
  rw [e] at this
  exact h0 this.symm
/-- What may stand behind a state: nothing more, or words that are not empty. -/
def Fine (l : List Wd) : Prop := l = [[]] ∨ (l ≠ [] ∧ ∀ w ∈ l, w ≠ [])
theorem fine_inj {a b : List Wd} (ha : Fine a) (hb : Fine b) (h : grp a = grp b) : a = b := by
  rcases ha with rfl | ⟨a0, a1⟩
  · rcases hb with rfl | ⟨b0, b1⟩
    · rfl
    · exact absurd h.symm (grp_nil b1 b0)
  · rcases hb with rfl | ⟨b0, b1⟩
    · exact absurd h (grp_nil a1 a0)
    · rw [← ungrp_grp a a1, ← ungrp_grp b b1, h]
/-- Words that an automaton may have behind a state, down to the end. -/
def OkF : Nat → List Wd → Prop
  | 0, _ => False
  | n + 1, l => Fine l ∧ ∀ g ∈ grp l, OkF n g.2
/-- The states by what can follow. -/
abbrev Sts := List (List Wd × List Edg)
def stsF : Nat → Sts → List Wd → Sts × Nat
  | 0, all, _ => (all, 0)
  | n + 1, all, l => match posOf l (all.map (·.1)) with
    | some i => (all, i)
    | none =>
      let r := (grp l).foldl (fun (s : Sts × List Edg) g => ((stsF n s.1 g.2).1, s.2 ++ [(g.1, (stsF n s.1 g.2).2)])) (all, [])
      (r.1 ++ [(l, r.2)], r.1.length)
/-- The states by their edges. -/
def edgF : Nat → List (List Edg) → List Wd → List (List Edg) × Nat
  | 0, tab, _ => (tab, 0)
  | n + 1, tab, l =>
    let r := (grp l).foldl (fun (s : List (List Edg) × List Edg) g => ((edgF n s.1 g.2).1, s.2 ++ [(g.1, (edgF n s.1 g.2).2)])) (tab, [])
    match posOf r.2 r.1 with
    | some i => (r.1, i)
    | none => (r.1 ++ [r.2], r.1.length)
/-- The states are as they should be: what can follow is what the edges say. -/
structure Inv (all : Sts) : Prop where
  nd : (all.map (·.1)).Nodup
  fine : ∀ s ∈ all, Fine s.1
  edges : ∀ s ∈ all, (grp s.1).map (fun g => (g.1, some g.2)) = s.2.map (fun e => (e.1, (all[e.2]?).map (·.1)))
theorem inv_inj {all : Sts} (h : Inv all) {a b : List Wd × List Edg} (ha : a ∈ all) (hb : b ∈ all) (e : a.2 = b.2) : a.1 = b.1 := by
  refine fine_inj (h.fine a ha) (h.fine b hb) ?_
  have h1 := h.edges a ha
  rw [e, ← h.edges b hb] at h1
  have inj : ∀ (x y : List (UInt8 × List Wd)), x.map (fun g => (g.1, some g.2)) = y.map (fun g => (g.1, some g.2)) → x = y := by
    intro x
    induction x with
    | nil => intro y hy; cases y with
      | nil => rfl
      | cons _ _ => simp at hy
    | cons p x ih => intro y hy; cases y with
      | nil => simp at hy
      | cons q y =>
        simp only [List.map_cons, List.cons.injEq, Prod.mk.injEq, Option.some.injEq] at hy
        rw [ih y hy.2, Prod.ext hy.1.1 hy.1.2]
  exact inj _ _ h1
theorem Inv.tab_nd {all : Sts} (h : Inv all) : (all.map (·.2)).Nodup := by
  have key : ∀ (l : Sts), (l.map (·.1)).Nodup → (∀ a ∈ l, ∀ b ∈ l, a.2 = b.2 → a.1 = b.1) → (l.map (·.2)).Nodup := by
    intro l
    induction l with
    | nil => intro _ _; simp
    | cons x r ih =>
      intro h1 h2
      simp only [List.map_cons, List.nodup_cons] at h1 ⊢
      refine ⟨fun hm => ?_, ih h1.2 (fun a ha b hb => h2 a (by simp [ha]) b (by simp [hb]))⟩
      obtain ⟨y, hy, e⟩ := List.mem_map.1 hm
      exact h1.1 (List.mem_map.2 ⟨y, hy, h2 y (by simp [hy]) x (by simp) e⟩)
  exact key all h.nd (fun a ha b hb e => inv_inj h ha hb e)
/-- What one state more leaves of the others. -/
theorem get_ext {all ext : Sts} {j : Nat} (h : j < all.length) : (all ++ ext)[j]? = all[j]? := List.getElem?_append_left h
/-- What is asked of a state and all behind it. -/
structure StsOk (n : Nat) (all : Sts) (l : List Wd) : Prop where
  inv : Inv (stsF n all l).1
  ext : ∃ ext, (stsF n all l).1 = all ++ ext ∧ ∀ s ∈ ext, sl s.1 ≤ sl l
  at' : ((stsF n all l).1[(stsF n all l).2]?).map (·.1) = some l
  same : edgF n (all.map (·.2)) l = ((stsF n all l).1.map (·.2), (stsF n all l).2)
def stsE (n : Nat) (s : Sts × List Edg) (g : UInt8 × List Wd) : Sts × List Edg := ((stsF n s.1 g.2).1, s.2 ++ [(g.1, (stsF n s.1 g.2).2)])
def edgE (n : Nat) (s : List (List Edg) × List Edg) (g : UInt8 × List Wd) : List (List Edg) × List Edg := ((edgF n s.1 g.2).1, s.2 ++ [(g.1, (edgF n s.1 g.2).2)])
/-- The states behind, one group after the other. -/
theorem sts_fold (n B : Nat) (ih : ∀ all l, Inv all → OkF n l → StsOk n all l) : ∀ (gs : List (UInt8 × List Wd)) (all : Sts) (es : List Edg), Inv all → (∀ g ∈ gs, OkF n g.2 ∧ sl g.2 < B) →
    ∃ (ext : Sts) (es' : List Edg), gs.foldl (stsE n) (all, es) = (all ++ ext, es ++ es') ∧ Inv (all ++ ext) ∧ (∀ s ∈ ext, sl s.1 < B) ∧
      gs.map (fun g => (g.1, some g.2)) = es'.map (fun e => (e.1, ((all ++ ext)[e.2]?).map (·.1))) ∧ gs.foldl (edgE n) (all.map (·.2), es) = ((all ++ ext).map (·.2), es ++ es')
  | [], all, es, hi, _ => ⟨[], [], by simp, by simpa using hi, by simp, by simp, by simp⟩
  | g :: gs, all, es, hi, hg => by
    obtain ⟨h1, h2⟩ := hg g (by simp)
    have N := ih all g.2 hi h1
    obtain ⟨x1, hx1, hb1⟩ := N.ext
    have hi1 : Inv (all ++ x1) := hx1 ▸ N.inv
    obtain ⟨x2, es2, e1, e2, e3, e4, e5⟩ := sts_fold n B ih gs (all ++ x1) (es ++ [(g.1, (stsF n all g.2).2)]) hi1 (fun y hy => hg y (by simp [hy]))
    have hat := N.at'
    rw [hx1] at hat
    have hlt : (stsF n all g.2).2 < (all ++ x1).length := by
      by_cases hlt : (stsF n all g.2).2 < (all ++ x1).length
      · exact hlt
      · rw [List.getElem?_eq_none (by omega)] at hat; simp at hat
    refine ⟨x1 ++ x2, (g.1, (stsF n all g.2).2) :: es2, ?_, ?_, ?_, ?_, ?_⟩
    · rw [List.foldl_cons, show stsE n (all, es) g = (all ++ x1, es ++ [(g.1, (stsF n all g.2).2)]) by simp [stsE, hx1], e1]
      simp
    · rw [← List.append_assoc]; exact e2
    · intro s hs
      rcases List.mem_append.1 hs with hs | hs
      · have := hb1 s hs; omega
      · exact e3 s hs
    · rw [← List.append_assoc, List.map_cons, List.map_cons, e4]
      congr 1
      rw [get_ext hlt, hat]
    · rw [List.foldl_cons, show edgE n (all.map (·.2), es) g = ((all ++ x1).map (·.2), es ++ [(g.1, (stsF n all g.2).2)]) by simp [edgE, N.same, hx1], e5]
      simp
/-- Where all behind is there already, nothing is new. -/
theorem add_there (n : Nat) (all : Sts) (hi : Inv all) (ih : ∀ l, OkF n l → StsOk n all l) (hf : ∀ l i, (all[i]?).map (·.1) = some l → OkF n l → stsF n all l = (all, i)) : ∀ (gs : List (UInt8 × List Wd)) (es0 es : List Edg), (∀ g ∈ gs, OkF n g.2) →
    gs.map (fun g => (g.1, some g.2)) = es.map (fun e => (e.1, (all[e.2]?).map (·.1))) → gs.foldl (edgE n) (all.map (·.2), es0) = (all.map (·.2), es0 ++ es)
  | [], es0, es, _, h => by
    cases es with
    | nil => simp
    | cons _ _ => simp at h
  | g :: gs, es0, es, hg, h => by
    cases es with
    | nil => simp at h
    | cons e es =>
      simp only [List.map_cons, List.cons.injEq, Prod.mk.injEq] at h
      have hn := hf g.2 e.2 h.1.2.symm (hg g (by simp))
      have hs := (ih g.2 (hg g (by simp))).same
      rw [hn] at hs
      rw [List.foldl_cons, show edgE n (all.map (·.2), es0) g = (all.map (·.2), es0 ++ [e]) by
        simp only [edgE, hs]
        rw [h.1.1]]
      rw [add_there n all hi ih hf gs (es0 ++ [e]) es (fun y hy => hg y (by simp [hy])) h.2]
      simp
theorem stsF_succ (n : Nat) (all : Sts) (l : List Wd) : stsF (n + 1) all l = match posOf l (all.map (·.1)) with
    | some i => (all, i)
    | none => (((grp l).foldl (stsE n) (all, [])).1 ++ [(l, ((grp l).foldl (stsE n) (all, [])).2)], ((grp l).foldl (stsE n) (all, [])).1.length) := rfl
theorem edgF_succ (n : Nat) (tab : List (List Edg)) (l : List Wd) : edgF (n + 1) tab l = match posOf ((grp l).foldl (edgE n) (tab, [])).2 ((grp l).foldl (edgE n) (tab, [])).1 with
    | some i => (((grp l).foldl (edgE n) (tab, [])).1, i)
    | none => (((grp l).foldl (edgE n) (tab, [])).1 ++ [((grp l).foldl (edgE n) (tab, [])).2], ((grp l).foldl (edgE n) (tab, [])).1.length) := rfl
theorem stsF_there (n : Nat) (all : Sts) (hi : Inv all) (l : List Wd) (i : Nat) (h : (all[i]?).map (·.1) = some l) (hn : 0 < n) : stsF n all l = (all, i) := by
  cases n with
  | zero => omega
  | succ n =>
    rw [stsF_succ, posOf_at hi.nd (i := i) (by rw [List.getElem?_map]; exact h)]
theorem okF_pos {n : Nat} {l : List Wd} (h : OkF n l) : 0 < n := by
  cases n with
  | zero => exact absurd h (by simp [OkF])
  | succ n => omega
/-- THE STATES BY THEIR EDGES ARE THE STATES BY WHAT CAN FOLLOW. -/
theorem sts_add : ∀ (n : Nat) (all : Sts) (l : List Wd), Inv all → OkF n l → StsOk n all l
  | 0, _, _, _, h => absurd h (by simp [OkF])
  | n + 1, all, l, hi, ho => by
    have ih := sts_add n
    cases hp : posOf l (all.map (·.1)) with
    | some i =>
      have hl := posOf_get _ _ _ hp
      rw [List.getElem?_map] at hl
      have he : stsF (n + 1) all l = (all, i) := by rw [stsF_succ, hp]
      obtain ⟨s, hs, hsl⟩ := Option.map_eq_some_iff.1 hl
      have hsm := List.mem_of_getElem? hs
      have hE := hi.edges s hsm
      rw [hsl] at hE
      have hT := add_there n all hi (fun l' ho' => ih all l' hi ho') (fun l' j hj ho' => stsF_there n all hi l' j hj (okF_pos ho')) (grp l) [] s.2 ho.2 hE
      have hpos : posOf s.2 (all.map (·.2)) = some i := posOf_at hi.tab_nd (by rw [List.getElem?_map, hs]; rfl)
      refine ⟨?_, ⟨[], ?_, by simp⟩, ?_, ?_⟩
      · rw [he]; exact hi
      · rw [he]; simp
      · rw [he]; exact hl
      · rw [he, edgF_succ, hT]
        simp only [List.nil_append]
        rw [hpos]
    | none =>
      have hnm := (posOf_none _ _).1 hp
      have hfine := ho.1
      have hsl : ∀ g ∈ grp l, sl g.2 < sl l ∨ l = [[]] := fun g hg => by
        rcases hfine with h0 | ⟨_, h1⟩
        · exact Or.inr h0
        · exact Or.inl (grp_sl l h1 g hg)
      have hB : ∀ g ∈ grp l, OkF n g.2 ∧ sl g.2 < sl l := fun g hg => ⟨ho.2 g hg, by
        rcases hsl g hg with h | h
        · exact h
        · subst h; simp [grp] at hg⟩
      obtain ⟨ext, es, e1, e2, e3, e4, e5⟩ := sts_fold n (sl l) ih (grp l) all [] hi hB
      simp only [List.nil_append] at e1 e5
      have he : stsF (n + 1) all l = (all ++ ext ++ [(l, es)], (all ++ ext).length) := by rw [stsF_succ, hp]; simp only [e1]
      have hnl : l ∉ (all ++ ext).map (·.1) := by
        rw [List.map_append, List.mem_append]
        rintro (h | h)
        · exact hnm h
        · obtain ⟨s, hs, e⟩ := List.mem_map.1 h
          have := e3 s hs
          rw [e] at this
          omega
      have hlt : ∀ e ∈ es, e.2 < (all ++ ext).length := fun e hm => by
        have : (e.1, ((all ++ ext)[e.2]?).map (·.1)) ∈ (grp l).map (fun g => (g.1, some g.2)) := by rw [e4]; exact List.mem_map.2 ⟨e, hm, rfl⟩
        obtain ⟨g, _, hg⟩ := List.mem_map.1 this
        by_cases hlt : e.2 < (all ++ ext).length
        · exact hlt
        · rw [List.getElem?_eq_none (by omega)] at hg; simp at hg
      have hinv : Inv (all ++ ext ++ [(l, es)]) := by
        refine ⟨?_, ?_, ?_⟩
        · rw [List.map_append, List.nodup_append]
          refine ⟨e2.nd, by simp, fun a ha b hb => ?_⟩
          simp only [List.map_cons, List.map_nil, List.mem_singleton] at hb
          subst hb
          exact fun e => hnl (e ▸ ha)
        · intro s hs
          rcases List.mem_append.1 hs with hs | hs
          · exact e2.fine s hs
          · simp only [List.mem_singleton] at hs
            subst hs
            exact hfine
        · intro s hs
          rcases List.mem_append.1 hs with hs | hs
          · rw [e2.edges s hs]
            refine List.map_congr_left fun e hm => ?_
            have : e.2 < (all ++ ext).length := by
              have hx : (e.1, ((all ++ ext)[e.2]?).map (·.1)) ∈ (grp s.1).map (fun g => (g.1, some g.2)) := by rw [e2.edges s hs]; exact List.mem_map.2 ⟨e, hm, rfl⟩
              obtain ⟨g, _, hg⟩ := List.mem_map.1 hx
              by_cases hlt : e.2 < (all ++ ext).length
              · exact hlt
              · rw [List.getElem?_eq_none (by omega)] at hg; simp at hg
            rw [get_ext this]
          · simp only [List.mem_singleton] at hs
            subst hs
            simp only
            rw [e4]
            exact List.map_congr_left fun e hm => by rw [get_ext (hlt e hm)]
      have hpn : posOf es ((all ++ ext).map (·.2)) = none := (posOf_none _ _).2 (fun hm => by
        obtain ⟨s, hs, e⟩ := List.mem_map.1 hm
        have h1 := inv_inj hinv (a := s) (b := (l, es)) (by simp only [List.mem_append]; exact Or.inl (List.mem_append.1 hs)) (by simp) e
        exact hnl (List.mem_map.2 ⟨s, hs, h1⟩))
      refine ⟨?_, ⟨ext ++ [(l, es)], ?_, ?_⟩, ?_, ?_⟩
      · rw [he]; exact hinv
      · rw [he]; simp
      · intro s hs
        rcases List.mem_append.1 hs with hs | hs
        · have := e3 s hs; omega
        · simp only [List.mem_singleton] at hs
          subst hs
          exact Nat.le_refl _
      · rw [he]; simp
      · rw [he, edgF_succ, e5, hpn]
        simp
end Sx
namespace Sx
/-- Of these words none is the beginning of another. -/
def Free (l : List Wd) : Prop := l.Pairwise fun a b => ¬ a <+: b ∧ ¬ b <+: a
theorem grp_in : ∀ (l : List Wd), ∀ g ∈ grp l, g.2 ≠ [] ∧ (g.2.map (g.1 :: ·)).Sublist l
  | [], g, hg => by simp [grp] at hg
  | [] :: r, g, hg => by
    have := grp_in r g (by simpa [grp] using hg)
    exact ⟨this.1, this.2.cons _⟩
  | (c :: t) :: r, g, hg => by
    have ih := grp_in r
    unfold grp at hg
    cases hr : grp r with
    | nil =>
      rw [hr] at hg
      simp only [List.mem_singleton] at hg
      subst hg
      exact ⟨by simp, by simp⟩
    | cons x g' =>
      obtain ⟨d, b⟩ := x
      rw [hr] at hg ih
      by_cases e : d = c
      · simp only [if_pos e, List.mem_cons] at hg
        rcases hg with rfl | hg
        · have := ih (d, b) (by simp)
          subst e
          exact ⟨by simp, by simpa using this.2⟩
        · have := ih g (by simp [hg])
          exact ⟨this.1, this.2.cons _⟩
      · simp only [if_neg e, List.mem_cons] at hg
        rcases hg with rfl | rfl | hg
        · exact ⟨by simp, by simp⟩
        · have := ih (d, b) (by simp)
          exact ⟨this.1, this.2.cons _⟩
        · have := ih g (by simp [hg])
          exact ⟨this.1, this.2.cons _⟩
theorem free_fine {l : List Wd} (h : Free l) (h0 : l ≠ []) : Fine l := by
  by_cases hm : [] ∈ l
  · left
    cases l with
    | nil => exact absurd rfl h0
    | cons a r =>
      obtain ⟨h1, h2⟩ := List.pairwise_cons.1 h
      cases r with
      | nil =>
        simp only [List.mem_singleton] at hm
        rw [hm]
      | cons b r =>
        rcases List.mem_cons.1 hm with hm | hm
        · exact absurd (List.nil_prefix) (hm ▸ (h1 b (by simp)).1)
        · exact absurd (List.nil_prefix) ((h1 [] hm).2)
  · exact Or.inr ⟨h0, fun w hw e => hm (e ▸ hw)⟩
theorem free_ok : ∀ (n : Nat) (l : List Wd), Free l → l ≠ [] → (∀ w ∈ l, w.length < n) → OkF n l
  | 0, l, _, h0, hn => by
    cases l with
    | nil => exact absurd rfl h0
    | cons a r => exact absurd (hn a (by simp)) (by omega)
  | n + 1, l, h, h0, hn => by
    refine ⟨free_fine h h0, fun g hg => ?_⟩
    obtain ⟨g0, g1⟩ := grp_in l g hg
    have hp := h.sublist g1
    rw [List.pairwise_map] at hp
    refine free_ok n g.2 (hp.imp fun {a b} hab => ⟨fun e => hab.1 (by simpa using e), fun e => hab.2 (by simpa using e)⟩) g0 (fun w hw => ?_)
    have := hn (g.1 :: w) (g1.subset (List.mem_map.2 ⟨w, hw, rfl⟩))
    simp only [List.length_cons] at this
    omega
/-- Two rising lists with the same members, no one twice, are one. -/
theorem rising_one {α : Type} {lt : α → α → Prop} (irr : ∀ a, ¬ lt a a) (asym : ∀ a b, lt a b → ¬ lt b a) : ∀ (a b : List α), a.Pairwise lt → b.Pairwise lt → (∀ x, x ∈ a ↔ x ∈ b) → a = b
  | [], [], _, _, _ => rfl
  | [], y :: b, _, _, h => absurd ((h y).2 (by simp)) (by simp)
  | x :: a, [], _, _, h => absurd ((h x).1 (by simp)) (by simp)
  | x :: a, y :: b, ha, hb, h => by
    obtain ⟨a1, a2⟩ := List.pairwise_cons.1 ha
    obtain ⟨b1, b2⟩ := List.pairwise_cons.1 hb
    have hxy : x = y := by
      rcases List.mem_cons.1 ((h x).1 (by simp)) with e | e
      · exact e
      · rcases List.mem_cons.1 ((h y).2 (by simp)) with e' | e'
        · exact e'.symm
        · exact absurd (a1 y e') (asym _ _ (b1 x e))
    subst hxy
    rw [rising_one irr asym a b a2 b2 (fun z => ⟨fun hz => by
      rcases List.mem_cons.1 ((h z).1 (by simp [hz])) with e | e
      · subst e; exact absurd (a1 z hz) (irr z)
      · exact e, fun hz => by
      rcases List.mem_cons.1 ((h z).2 (by simp [hz])) with e | e
      · subst e; exact absurd (b1 z hz) (irr z)
      · exact e⟩)]
end Sx
namespace Sx
/-- The bytes that a label in plain form is made of. -/
def plB (b : UInt8) : Prop := (97 ≤ b.toNat ∧ b.toNat ≤ 122) ∨ (48 ≤ b.toNat ∧ b.toNat ≤ 57) ∨ b.toNat = 45
theorem dig_plB (x : Int) (h0 : 0 ≤ x) (h1 : x < 36) : plB (dig x) := by
  unfold plB dig
  split <;> simp only [UInt8.toNat_ofNat'] <;> omega
theorem writF_plB : ∀ (f : Nat) (d k bias : Int), 0 ≤ d → d.toNat ≤ f → ∀ x ∈ writF f d k bias, plB x
  | 0, d, k, bias, h0, hf, x, hx => by
    simp only [writF, List.mem_singleton] at hx
    subst hx
    exact dig_plB d h0 (by omega)
  | f + 1, d, k, bias, h0, hf, x, hx => by
    have t1 := thr_lo k bias
    have t2 := thr_hi k bias
    simp only [writF] at hx
    split at hx
    · rename_i h
      rcases List.mem_cons.1 hx with hx | hx
      · subst hx
        have m1 := Int.emod_nonneg (d - thr k bias) (show 36 - thr k bias ≠ 0 by omega)
        have m2 := Int.emod_lt_of_pos (d - thr k bias) (show 0 < 36 - thr k bias by omega)
        exact dig_plB _ (by omega) (by omega)
      · have d1 : 0 ≤ (d - thr k bias) / (36 - thr k bias) := Int.ediv_nonneg (by omega) (by omega)
        have d2 : (d - thr k bias) / (36 - thr k bias) ≤ d - thr k bias := Int.ediv_le_self _ (by omega)
        exact writF_plB f _ _ _ d1 (by omega) x hx
    · rename_i h
      simp only [List.mem_singleton] at hx
      subst hx
      exact dig_plB d h0 (by omega)
theorem encWays_plB (l : List Int) : ∀ (todo done : List Nat), ord l = done ++ todo → ∀ (n i bias : Int) (first : Bool), 128 ≤ n → -1 ≤ i → i ≤ ((plainOf l).length + done.length : Nat) → Later l todo n i →
    ∀ x ∈ encWays (todo.map (wayAt l)) bias n i (((plainOf l).length + done.length : Nat) : Int) first, plB x := by
  intro todo
  induction todo with
  | nil => intro done _ n i bias first _ _ _ _ x hx; simp [encWays] at hx
  | cons c0 todo ih =>
    intro done ho n i bias first hn hi hi2 hlat
    obtain ⟨hcl, hcf, _⟩ := flags_todo l done (c0 :: todo) ho c0 (List.mem_cons_self ..)
    have hst := stand_le_put l done todo c0 ho
    have hpo := plain_ord l
    have hdl := congrArg List.length ho
    rw [List.length_append, List.length_cons] at hdl
    have hlat0 := hlat c0 (List.mem_cons_self ..)
    have hnn := passed_nn (l.getD c0 0) n (stand l c0) i (((plainOf l).length + done.length : Nat) : Int) hlat0 hi2 (by omega) (by omega)
    have i1 := ih (done ++ [c0]) (by rw [ho]; simp) (l.getD c0 0) (stand l c0) (after ((l.getD c0 0 - n) * ((((plainOf l).length + done.length : Nat) : Int) + 1) + (stand l c0 : Int) - (i + 1)) ((((plainOf l).length + done.length : Nat) : Int) + 1) first) false (by omega) (by omega) (by rw [List.length_append, List.length_cons, List.length_nil]; omega) (later_step l done todo c0 ho)
    rw [List.length_append, List.length_cons, List.length_nil, show (((plainOf l).length + (done.length + (0 + 1)) : Nat) : Int) = (((plainOf l).length + done.length : Nat) : Int) + 1 from by omega] at i1
    simp only [List.map_cons, wayAt, encWays] at i1 ⊢
    intro x hx
    rcases List.mem_append.1 hx with hx | hx
    · exact writF_plB _ _ _ _ hnn (Nat.le_refl _) x hx
    · exact i1 x hx
theorem okL_plB (c : Int) (h : okL c = true) (hc : c < 128) : plB (UInt8.ofNat c.toNat) := by
  unfold okL at h
  unfold plB
  simp only [Bool.or_eq_true, decide_eq_true_eq] at h
  simp only [UInt8.toNat_ofNat']
  omega
theorem formOf_plB (m : List Int) (ho : m.all okL = true) : ∀ x ∈ formOf m, plB x := by
  rw [List.all_eq_true] at ho
  unfold formOf
  cases hf : (m.any fun c => decide (128 ≤ c)) with
  | true =>
    simp only [if_true]
    intro x hx
    rcases List.mem_append.1 hx with hx | hx
    · unfold xn at hx
      unfold plB
      simp only [List.mem_cons, List.mem_nil_iff, or_false] at hx
      rcases hx with rfl | rfl | rfl | rfl <;> decide
    · unfold enc headOf at hx
      rcases List.mem_append.1 hx with hx | hx
      · rcases List.mem_append.1 hx with hx | hx
        · unfold plainOf at hx
          obtain ⟨c, hc, rfl⟩ := List.mem_map.1 hx
          obtain ⟨hm, hd⟩ := List.mem_filter.1 hc
          exact okL_plB c (ho c hm) (by simpa using hd)
        · split at hx
          · rw [List.mem_singleton.1 hx]; unfold plB; decide
          · cases hx
      · have := encWays_plB m (ord m) [] rfl 128 (-1) 72 true (by omega) (by omega) (by omega) (later_start m)
        simp only [List.length_nil, Nat.add_zero] at this
        exact this x hx
  | false =>
    simp only [Bool.false_eq_true, if_false]
    intro x hx
    unfold text at hx
    obtain ⟨c, hc, hx⟩ := List.mem_flatMap.1 hx
    have h1 : c < 128 := by
      have := List.any_eq_false.1 hf c hc
      simpa using this
    unfold utf at hx
    rw [if_pos h1, List.mem_singleton] at hx
    subst hx
    exact okL_plB c (ho c hc) h1
theorem label_plB {l : List Int} {x : List UInt8} (h : label l = some x) : x ≠ [] ∧ ∀ b ∈ x, plB b := by
  unfold label at h
  split at h
  · rename_i ho
    split at h
    · rename_i hk
      have hp := formOf_plB (l.map lower) ho
      have hn : formOf (l.map lower) ≠ [] := by
        intro e
        rw [e] at hk
        simp [formOk] at hk
      split at h
      · split at h
        · obtain rfl := Option.some.inj h; exact ⟨hn, hp⟩
        · cases h
      · obtain rfl := Option.some.inj h; exact ⟨hn, hp⟩
    · cases h
  · cases h
theorem hostGo_mem : ∀ (l cur : List Int) (h : List (List UInt8)), hostGo l cur = some h → h ≠ [] ∧ ∀ x ∈ h, ∃ p, label p = some x
  | [], cur, h, e => by
    unfold hostGo at e
    cases hl : label cur with
    | none => rw [hl] at e; cases e
    | some x =>
      rw [hl] at e
      obtain rfl := Option.some.inj e
      exact ⟨by simp, fun y hy => ⟨cur, by rw [List.mem_singleton.1 hy]; exact hl⟩⟩
  | c :: r, cur, h, e => by
    unfold hostGo at e
    split at e
    · cases hl : label cur with
      | none => rw [hl] at e; cases e
      | some x =>
        rw [hl] at e
        obtain ⟨h', e1, rfl⟩ := Option.map_eq_some_iff.1 e
        have ih := hostGo_mem r [] h' e1
        refine ⟨by simp, fun y hy => ?_⟩
        rcases List.mem_cons.1 hy with rfl | hy
        · exact ⟨cur, hl⟩
        · exact ih.2 y hy
    · exact hostGo_mem r (cur ++ [c]) h e
/-- What is known of a host's labels. -/
def HostOk (h : List (List UInt8)) : Prop := h ≠ [] ∧ h.length ≤ 6 ∧ allLen h ≤ 61 ∧ ∀ x ∈ h, x ≠ [] ∧ ∀ b ∈ x, plB b
theorem host_ok (s : List UInt8) (h : (host s).2 = 0) : HostOk (host s).1 := by
  unfold host at h ⊢
  split
  · rename_i hc; rw [if_pos hc] at h; simp at h
  · rename_i hc
    rw [if_neg hc] at h
    cases hl : letters s with
    | none => rw [hl] at h; simp at h
    | some l =>
      rw [hl] at h
      simp only at h ⊢
      cases hg : hostGo l [] with
      | none => rw [hg] at h; simp at h
      | some H =>
        rw [hg] at h
        simp only at h ⊢
        have hm := hostGo_mem l [] H hg
        unfold hostEnd at h ⊢
        split
        · rename_i hc; rw [if_pos hc] at h; simp at h
        · rename_i hc
          simp only [Bool.or_eq_true, decide_eq_true_eq, not_or] at hc
          refine ⟨hm.1, (by omega : H.length ≤ 6), (by omega : allLen H ≤ 61), fun x hx => ?_⟩
          obtain ⟨p, hp⟩ := hm.2 x hx
          exact label_plB hp
/-- The key of a rule: its host's labels from the last to the first, its kind, its section. -/
def keyOf (h : List (List UInt8)) (k s : UInt8) : List UInt8 := dotted h.reverse ++ [k, s]
/-- The bytes that tell a kind. -/
def isKd (b : UInt8) : Prop := b = 36 ∨ b = 42 ∨ b = 33
theorem isKd_not {b : UInt8} (h : isKd b) (h' : plB b ∨ b = 46) : False := by
  unfold plB at h'
  rcases h with rfl | rfl | rfl <;> revert h' <;> decide
theorem dotted_bytes {h : List (List UInt8)} (hp : ∀ x ∈ h, ∀ b ∈ x, plB b) : ∀ b ∈ dotted h, plB b ∨ b = 46 := by
  cases h with
  | nil => intro b hb; simp [dotted] at hb
  | cons x r =>
    intro b hb
    simp only [dotted, List.mem_append, List.mem_flatMap, List.mem_cons] at hb
    rcases hb with hb | ⟨y, hy, rfl | hb⟩
    · exact Or.inl (hp x (by simp) b hb)
    · exact Or.inr rfl
    · exact Or.inl (hp y (by simp [hy]) b hb)
theorem key_prefix : ∀ (D D' : List UInt8) (k s k' s' : UInt8), (∀ b ∈ D, plB b ∨ b = 46) → (∀ b ∈ D', plB b ∨ b = 46) → isKd k → isKd k' → D ++ [k, s] <+: D' ++ [k', s'] → D = D' ∧ k = k'
  | [], [], k, s, k', s', _, _, _, _, h => by
    obtain ⟨t, ht⟩ := h
    simp at ht
    exact ⟨rfl, ht.1⟩
  | [], y :: D', k, s, k', s', _, h2, hk, _, h => by
    obtain ⟨t, ht⟩ := h
    simp at ht
    exact absurd (h2 y (by simp)) (fun e => isKd_not hk (ht.1 ▸ e))
  | x :: D, [], k, s, k', s', h1, _, _, hk', h => by
    obtain ⟨t, ht⟩ := h
    simp at ht
    exact absurd (h1 x (by simp)) (fun e => isKd_not hk' (ht.1 ▸ e))
  | x :: D, y :: D', k, s, k', s', h1, h2, hk, hk', h => by
    obtain ⟨t, ht⟩ := h
    simp only [List.cons_append, List.cons.injEq] at ht
    obtain ⟨e1, e2⟩ := key_prefix D D' k s k' s' (fun b hb => h1 b (by simp [hb])) (fun b hb => h2 b (by simp [hb])) hk hk' ⟨t, ht.2⟩
    exact ⟨by rw [ht.1, e1], e2⟩
theorem cut46 : ∀ (x y u v : List UInt8), (∀ b ∈ x, b ≠ 46) → (∀ b ∈ y, b ≠ 46) → x ++ 46 :: u = y ++ 46 :: v → x = y ∧ u = v
  | [], [], u, v, _, _, h => by simpa using h
  | [], b :: y, u, v, _, h2, h => by
    simp only [List.nil_append, List.cons_append, List.cons.injEq] at h
    exact absurd h.1.symm (h2 b (by simp))
  | a :: x, [], u, v, h1, _, h => by
    simp only [List.nil_append, List.cons_append, List.cons.injEq] at h
    exact absurd h.1 (h1 a (by simp))
  | a :: x, b :: y, u, v, h1, h2, h => by
    simp only [List.cons_append, List.cons.injEq] at h
    obtain ⟨e1, e2⟩ := cut46 x y u v (fun c hc => h1 c (by simp [hc])) (fun c hc => h2 c (by simp [hc])) h.2
    exact ⟨by rw [h.1, e1], e2⟩
theorem dotted_cons (x y : List UInt8) (r : List (List UInt8)) : dotted (x :: y :: r) = x ++ 46 :: dotted (y :: r) := by simp [dotted]
theorem dotted_inj : ∀ (h h' : List (List UInt8)), h ≠ [] → h' ≠ [] → (∀ x ∈ h, ∀ b ∈ x, b ≠ 46) → (∀ x ∈ h', ∀ b ∈ x, b ≠ 46) → dotted h = dotted h' → h = h'
  | [], _, n, _, _, _, _ => absurd rfl n
  | _ :: _, [], _, n, _, _, _ => absurd rfl n
  | [x], [y], _, _, _, _, e => by simpa [dotted] using e
  | [x], y :: z :: r, _, _, h1, _, e => by
    rw [dotted_cons] at e
    simp only [dotted, List.flatMap_nil, List.append_nil] at e
    exact absurd rfl (h1 x (by simp) 46 (by rw [e]; simp))
  | x :: y :: r, [z], _, _, _, h2, e => by
    rw [dotted_cons] at e
    simp only [dotted, List.flatMap_nil, List.append_nil] at e
    exact absurd rfl (h2 z (by simp) 46 (by rw [← e]; simp))
  | x :: y :: r, x' :: y' :: r', _, _, h1, h2, e => by
    rw [dotted_cons, dotted_cons] at e
    obtain ⟨e1, e2⟩ := cut46 _ _ _ _ (h1 x (by simp)) (h2 x' (by simp)) e
    rw [e1, dotted_inj (y :: r) (y' :: r') (by simp) (by simp) (fun z hz => h1 z (by simp [hz])) (fun z hz => h2 z (by simp [hz])) e2]
theorem plB_no46 {b : UInt8} (h : plB b) : b ≠ 46 := by
  rintro rfl
  revert h
  unfold plB
  decide
/-- A rule: its host, its kind, its section. -/
abbrev Rl := List (List UInt8) × UInt8 × UInt8
def rlKey (r : Rl) : List UInt8 := keyOf r.1 r.2.1 r.2.2
def RlOk (r : Rl) : Prop := HostOk r.1 ∧ isKd r.2.1
theorem key_pre {a b : Rl} (ha : RlOk a) (hb : RlOk b) (h : rlKey a <+: rlKey b) : a.1 = b.1 ∧ a.2.1 = b.2.1 := by
  have pa : ∀ x ∈ a.1.reverse, ∀ c ∈ x, plB c := fun x hx => (ha.1.2.2.2 x (List.mem_reverse.1 hx)).2
  have pb : ∀ x ∈ b.1.reverse, ∀ c ∈ x, plB c := fun x hx => (hb.1.2.2.2 x (List.mem_reverse.1 hx)).2
  obtain ⟨e1, e2⟩ := key_prefix _ _ _ _ _ _ (dotted_bytes pa) (dotted_bytes pb) ha.2 hb.2 h
  have := dotted_inj _ _ (by simpa using ha.1.1) (by simpa using hb.1.1) (fun x hx c hc => plB_no46 (pa x hx c hc)) (fun x hx c hc => plB_no46 (pb x hx c hc)) e1
  exact ⟨List.reverse_inj.1 this, e2⟩
/-- THE KEYS OF RULES OF WHICH NO TWO ARE OF ONE KIND AND HOST: none is the beginning of another. -/
theorem keys_free {l : List Rl} (ho : ∀ r ∈ l, RlOk r) (hp : l.Pairwise fun a b => ¬ (a.1 = b.1 ∧ a.2.1 = b.2.1)) : Free (l.map rlKey) := by
  unfold Free
  rw [List.pairwise_map]
  refine List.Pairwise.imp_of_mem (fun {a b} ha hb hab => ⟨fun e => hab (key_pre (ho a ha) (ho b hb) e), fun e => hab ?_⟩) hp
  have := key_pre (ho b hb) (ho a ha) e
  exact ⟨this.1.symm, this.2.symm⟩
end Sx
namespace Sx
theorem wlt_irr (a : Wd) : ¬ a < a := List.lt_irrefl a
theorem wlt_trans {a b c : Wd} (h : a < b) (h' : b < c) : a < c := List.lt_trans h h'
theorem wlt_asym (a b : Wd) (h : a < b) : ¬ b < a := fun h' => wlt_irr a (wlt_trans h h')
theorem wlt_tri (a b : Wd) (h : ¬ a < b) : a = b ∨ b < a := by
  by_cases h' : b < a
  · exact Or.inr h'
  · exact Or.inl (List.le_antisymm (List.not_lt.1 h') (List.not_lt.1 h))
/-- Into rising words, behind all that are lower. -/
def insW (x : Wd) (m : List Wd) : List Wd := m.takeWhile (fun y => decide (y < x)) ++ x :: m.dropWhile (fun y => decide (y < x))
def sortW (l : List Wd) : List Wd := l.foldl (fun m x => insW x m) []
theorem insW_mem (x y : Wd) (m : List Wd) : y ∈ insW x m ↔ y = x ∨ y ∈ m := by
  have h : m.takeWhile (fun y => decide (y < x)) ++ m.dropWhile (fun y => decide (y < x)) = m := List.takeWhile_append_dropWhile
  have hm : y ∈ m ↔ y ∈ m.takeWhile (fun y => decide (y < x)) ∨ y ∈ m.dropWhile (fun y => decide (y < x)) := by rw [← List.mem_append, h]
  unfold insW
  rw [List.mem_append, List.mem_cons, hm]
  constructor
  · rintro (h | h | h)
    · exact Or.inr (Or.inl h)
    · exact Or.inl h
    · exact Or.inr (Or.inr h)
  · rintro (h | h | h)
    · exact Or.inr (Or.inl h)
    · exact Or.inl h
    · exact Or.inr (Or.inr h)
theorem insW_cons (x y : Wd) (m : List Wd) : insW x (y :: m) = if y < x then y :: insW x m else x :: y :: m := by
  unfold insW
  by_cases h : y < x
  · simp [h]
  · simp [h]
theorem insW_rising (x : Wd) : ∀ (m : List Wd), x ∉ m → m.Pairwise (· < ·) → (insW x m).Pairwise (· < ·)
  | [], _, _ => by simp [insW]
  | y :: m, hx, hp => by
    obtain ⟨h1, h2⟩ := List.pairwise_cons.1 hp
    simp only [List.mem_cons, not_or] at hx
    rw [insW_cons]
    split
    · rename_i h
      refine List.pairwise_cons.2 ⟨fun z hz => ?_, insW_rising x m hx.2 h2⟩
      rcases (insW_mem x z m).1 hz with rfl | hz
      · exact h
      · exact h1 z hz
    · rename_i h
      have hxy : x < y := by
        rcases wlt_tri y x h with e | e
        · exact absurd e.symm hx.1
        · exact e
      refine List.pairwise_cons.2 ⟨fun z hz => ?_, hp⟩
      rcases List.mem_cons.1 hz with rfl | hz
      · exact hxy
      · exact wlt_trans hxy (h1 z hz)
theorem sortW_go : ∀ (l m : List Wd), l.Nodup → (∀ x ∈ l, x ∉ m) → m.Pairwise (· < ·) →
    (l.foldl (fun m x => insW x m) m).Pairwise (· < ·) ∧ ∀ y, y ∈ l.foldl (fun m x => insW x m) m ↔ y ∈ l ∨ y ∈ m
  | [], m, _, _, hp => ⟨hp, by simp⟩
  | x :: l, m, hn, hd, hp => by
    obtain ⟨n1, n2⟩ := List.nodup_cons.1 hn
    obtain ⟨e1, e2⟩ := sortW_go l (insW x m) n2 (fun y hy hm => by
      rcases (insW_mem x y m).1 hm with rfl | hm
      · exact n1 hy
      · exact hd y (by simp [hy]) hm) (insW_rising x m (hd x (by simp)) hp)
    refine ⟨e1, fun y => ?_⟩
    rw [List.foldl_cons, e2 y, insW_mem, List.mem_cons]
    constructor
    · rintro (h | h | h)
      · exact Or.inl (Or.inr h)
      · exact Or.inl (Or.inl h)
      · exact Or.inr h
    · rintro ((h | h) | h)
      · exact Or.inr (Or.inl h)
      · exact Or.inl h
      · exact Or.inr (Or.inr h)
theorem sortW_ok (l : List Wd) (hn : l.Nodup) : (sortW l).Pairwise (· < ·) ∧ ∀ y, y ∈ sortW l ↔ y ∈ l := by
  have := sortW_go l [] hn (by simp) (by simp)
  simpa [sortW] using this
/-- However it is sorted. -/
theorem sortW_one (l r : List Wd) (hn : l.Nodup) (hp : r.Pairwise (· < ·)) (hm : ∀ y, y ∈ r ↔ y ∈ l) : r = sortW l :=
  rising_one wlt_irr wlt_asym r (sortW l) hp (sortW_ok l hn).1 (fun x => (hm x).trans ((sortW_ok l hn).2 x).symm)
theorem free_nodup {l : List Wd} (h : Free l) : l.Nodup := List.Pairwise.imp (fun {a b} (hab : ¬ a <+: b ∧ ¬ b <+: a) (e : a = b) => hab.1 (e ▸ List.prefix_refl a)) h
/-- What is free stays so in another order. -/
theorem free_sort {l : List Wd} (h : Free l) : Free (sortW l) := by
  have hs := sortW_ok l (free_nodup h)
  have key : ∀ a ∈ l, ∀ b ∈ l, a ≠ b → ¬ a <+: b := by
    intro a ha b hb hab e
    obtain ⟨i, hi, rfl⟩ := List.mem_iff_getElem.1 ha
    obtain ⟨j, hj, rfl⟩ := List.mem_iff_getElem.1 hb
    rcases Nat.lt_trichotomy i j with h1 | h1 | h1
    · exact (List.pairwise_iff_getElem.1 h i j hi hj h1).1 e
    · subst h1; exact hab rfl
    · exact (List.pairwise_iff_getElem.1 h j i hj hi h1).2 e
  refine List.Pairwise.imp_of_mem (fun {a b} ha hb hab => ?_) hs.1
  have hne : a ≠ b := fun e => wlt_irr a (e ▸ hab)
  exact ⟨key a ((hs.2 a).1 ha) b ((hs.2 b).1 hb) hne, key b ((hs.2 b).1 hb) a ((hs.2 a).1 ha) (Ne.symm hne)⟩
end Sx
namespace Sx
/-- A number in two bytes, the higher one first. -/
def two (n : Nat) : List UInt8 := [UInt8.ofNat (n / 256), UInt8.ofNat (n % 256)]
/-- What an image tells of a state. -/
def tellE (es : List Edg) : List UInt8 := UInt8.ofNat es.length :: es.flatMap fun e => e.1 :: two e.2
theorem two_inj {a b : Nat} (ha : a < 65536) (hb : b < 65536) (h : two a = two b) : a = b := by
  simp only [two, List.cons.injEq, and_true] at h
  have h1 := congrArg UInt8.toNat h.1
  have h2 := congrArg UInt8.toNat h.2
  simp only [UInt8.toNat_ofNat'] at h1 h2
  omega
theorem edges_inj : ∀ (a b : List Edg), (∀ e ∈ a, e.2 < 65536) → (∀ e ∈ b, e.2 < 65536) → (a.flatMap fun e => e.1 :: two e.2) = (b.flatMap fun e => e.1 :: two e.2) → a = b
  | [], [], _, _, _ => rfl
  | [], y :: b, _, _, h => by simp at h
  | x :: a, [], _, _, h => by simp at h
  | x :: a, y :: b, ha, hb, h => by
    simp only [List.flatMap_cons, two, List.cons_append, List.nil_append, List.cons.injEq] at h
    have e2 : x.2 = y.2 := two_inj (ha x (by simp)) (hb y (by simp)) (by simp only [two, h.2.1, h.2.2.1])
    rw [Prod.ext h.1 e2, edges_inj a b (fun e he => ha e (by simp [he])) (fun e he => hb e (by simp [he])) h.2.2.2]
theorem tellE_inj {a b : List Edg} (ha : ∀ e ∈ a, e.2 < 65536) (hb : ∀ e ∈ b, e.2 < 65536) (h : tellE a = tellE b) : a = b :=
  edges_inj a b ha hb (List.cons.inj h).2
/-- How many bytes the groups leave. -/
theorem grp_sum : ∀ (l : List Wd), (∀ w ∈ l, w ≠ []) → ((grp l).map fun g => sl g.2 + 1).sum ≤ sl l
  | [], _ => by simp [grp]
  | [] :: r, h => absurd rfl (h [] (by simp))
  | (c :: t) :: r, h => by
    have ih := grp_sum r (fun w hw => h w (by simp [hw]))
    unfold grp
    cases hr : grp r with
    | nil => simp [sl]
    | cons x g =>
      obtain ⟨d, b⟩ := x
      rw [hr] at ih
      by_cases e : d = c
      · simp [e, sl] at ih ⊢; omega
      · simp [e, sl] at ih ⊢; omega
/-- How many states there come to be, and where edges go. -/
theorem edgF_len : ∀ (n : Nat) (tab : List (List Edg)) (l : List Wd), OkF n l → (∀ es ∈ tab, ∀ e ∈ es, e.2 < tab.length) →
    tab.length ≤ (edgF n tab l).1.length ∧ (edgF n tab l).1.length ≤ tab.length + sl l + 1 ∧ (edgF n tab l).2 < (edgF n tab l).1.length ∧ ∀ es ∈ (edgF n tab l).1, ∀ e ∈ es, e.2 < (edgF n tab l).1.length
  | 0, _, _, h, _ => absurd h (by simp [OkF])
  | n + 1, tab, l, ho, ht => by
    have fold : ∀ (gs : List (UInt8 × List Wd)) (tab : List (List Edg)) (es0 : List Edg), (∀ g ∈ gs, OkF n g.2) → (∀ es ∈ tab, ∀ e ∈ es, e.2 < tab.length) → (∀ e ∈ es0, e.2 < tab.length) →
        tab.length ≤ (gs.foldl (edgE n) (tab, es0)).1.length ∧ (gs.foldl (edgE n) (tab, es0)).1.length ≤ tab.length + (gs.map fun g => sl g.2 + 1).sum ∧
        (∀ es ∈ (gs.foldl (edgE n) (tab, es0)).1, ∀ e ∈ es, e.2 < (gs.foldl (edgE n) (tab, es0)).1.length) ∧ (∀ e ∈ (gs.foldl (edgE n) (tab, es0)).2, e.2 < (gs.foldl (edgE n) (tab, es0)).1.length) := by
      intro gs
      induction gs with
      | nil => intro tab es0 _ h1 h2; exact ⟨Nat.le_refl _, by simp, h1, h2⟩
      | cons g gs ih =>
        intro tab es0 hg h1 h2
        obtain ⟨a1, a2, a3, a4⟩ := edgF_len n tab g.2 (hg g (by simp)) h1
        obtain ⟨b1, b2, b3, b4⟩ := ih (edgF n tab g.2).1 (es0 ++ [(g.1, (edgF n tab g.2).2)]) (fun y hy => hg y (by simp [hy])) a4 (fun e he => by
          rcases List.mem_append.1 he with he | he
          · have := h2 e he; omega
          · rw [List.mem_singleton.1 he]; exact a3)
        rw [List.foldl_cons, show edgE n (tab, es0) g = ((edgF n tab g.2).1, es0 ++ [(g.1, (edgF n tab g.2).2)]) from rfl]
        refine ⟨by omega, ?_, b3, b4⟩
        simp only [List.map_cons, List.sum_cons]
        omega
    obtain ⟨f1, f2, f3, f4⟩ := fold (grp l) tab [] ho.2 ht (by simp)
    have hs : ((grp l).map fun g => sl g.2 + 1).sum ≤ sl l := by
      rcases ho.1 with rfl | ⟨_, h1⟩
      · simp [grp]
      · exact grp_sum l h1
    rw [edgF_succ]
    generalize (grp l).foldl (edgE n) (tab, []) = r at f1 f2 f3 f4
    cases hp : posOf r.2 r.1 with
    | some i =>
      have := posOf_get _ _ _ hp
      have hi : i < r.1.length := (List.getElem?_eq_some_iff.1 this).1
      exact ⟨f1, by simp only; omega, hi, f3⟩
    | none =>
      simp only [List.length_append, List.length_cons, List.length_nil]
      refine ⟨by omega, by omega, by omega, fun es hes e he => ?_⟩
      rcases List.mem_append.1 hes with hes | hes
      · have := f3 es hes e he; omega
      · rw [List.mem_singleton.1 hes] at he
        have := f4 e he; omega
end Sx
namespace Sx
/-- The lines of a list. -/
def linesGo : List UInt8 → List UInt8 → List (List UInt8)
  | [], cur => if cur = [] then [] else [cur]
  | x :: r, cur => if x = 10 then cur :: linesGo r [] else linesGo r (cur ++ [x])
def linesOf (s : List UInt8) : List (List UInt8) := linesGo s []
/-- The kind of a line's rule, and what must be its host. -/
def cutRl (line : List UInt8) : UInt8 × List UInt8 :=
  if line.take 2 = [42, 46] then (42, line.drop 2) else if line.take 1 = [33] then (33, line.drop 1) else (36, line)
def readRl (line : List UInt8) (sec : UInt8) : Option Rl :=
  if (host (cutRl line).2).2 = 0 ∧ ((cutRl line).1 = 33 → 1 < (host (cutRl line).2).1.length) then some ((host (cutRl line).2).1, (cutRl line).1, sec) else none
/-- Whether a rule is known already. -/
def known (rs : List Rl) (r : Rl) : Bool := rs.any fun q => decide (dotted q.1 = dotted r.1) && decide (q.2.1 = r.2.1)
/-- One line: the rules, the section; the error. -/
def addLn (rs : List Rl) (sec : UInt8) (line : List UInt8) : (List Rl × UInt8) × Int :=
  if line = [] ∨ line.take 2 = [47, 47] then ((rs, sec), 0)
  else if line = [61, 61, 61, 105] then ((rs, 105), 0)
  else if line = [61, 61, 61, 112] then ((rs, 112), 0)
  else match readRl line sec with
    | none => ((rs, sec), 3)
    | some r => if known rs r then ((rs, sec), 4) else if rs.length = 30 then ((rs, sec), 5) else ((rs ++ [r], sec), 0)
/-- Lines of one list, one after the other, up to the first that is refused: the rules, the error, how many lines were read. -/
def addLns : List (List UInt8) → List Rl → UInt8 → Int → List Rl × Int × Int
  | [], rs, _, n => (rs, 0, n)
  | x :: r, rs, sec, n => if (addLn rs sec x).2 = 0 then addLns r (addLn rs sec x).1.1 (addLn rs sec x).1.2 (n + 1) else (rs, (addLn rs sec x).2, n)
/-- Lists, one after the other. -/
def addAll : List (List UInt8) → List Rl → Int → List Rl × Int × Int
  | [], rs, n => (rs, 0, n)
  | s :: r, rs, n => if (addLns (linesOf s) rs 105 n).2.1 = 0 then addAll r (addLns (linesOf s) rs 105 n).1 (addLns (linesOf s) rs 105 n).2.2 else addLns (linesOf s) rs 105 n
/-- What an image is made of: of each state its edges. -/
def imgT (tab : List (List Edg)) : List UInt8 := two tab.length ++ tab.flatMap tellE
def tabOf (rs : List Rl) : List (List Edg) := if rs = [] then [] else (edgF 64 [] (sortW (rs.map rlKey))).1
/-- COMPILE. -/
def compR (lists : List (List UInt8)) : List UInt8 × Int × Int :=
  if 2000 < sl lists then ([], 1, 0)
  else if (addAll lists [] 0).2.1 = 0 then (imgT (tabOf (addAll lists [] 0).1), 0, 0) else ([], (addAll lists [] 0).2.1, (addAll lists [] 0).2.2)
/-- Rules as they are read: each is one, no two of one kind and host, thirty at most. -/
structure RlsOk (rs : List Rl) : Prop where
  ok : ∀ r ∈ rs, RlOk r
  apart : rs.Pairwise fun a b => ¬ (a.1 = b.1 ∧ a.2.1 = b.2.1)
  many : rs.length ≤ 30
theorem cutRl_kd (line : List UInt8) : isKd (cutRl line).1 := by
  unfold cutRl isKd
  split
  · exact Or.inr (Or.inl rfl)
  · split
    · exact Or.inr (Or.inr rfl)
    · exact Or.inl rfl
theorem readRl_ok {line : List UInt8} {sec : UInt8} {r : Rl} (h : readRl line sec = some r) : RlOk r := by
  unfold readRl at h
  split at h
  · rename_i hc
    obtain rfl := Option.some.inj h
    exact ⟨host_ok _ hc.1, cutRl_kd line⟩
  · cases h
theorem addLn_ok {rs : List Rl} {sec : UInt8} {line : List UInt8} (h : RlsOk rs) : RlsOk (addLn rs sec line).1.1 := by
  unfold addLn
  split
  · exact h
  · split
    · exact h
    · split
      · exact h
      · cases hr : readRl line sec with
        | none => exact h
        | some r =>
          simp only
          split
          · exact h
          · rename_i hk
            split
            · exact h
            · rename_i hm
              refine ⟨fun q hq => ?_, ?_, ?_⟩
              · rcases List.mem_append.1 hq with hq | hq
                · exact h.ok q hq
                · rw [List.mem_singleton.1 hq]; exact readRl_ok hr
              · rw [List.pairwise_append]
                refine ⟨h.apart, by simp, fun a ha b hb hab => hk ?_⟩
                rw [List.mem_singleton.1 hb] at hab
                unfold known
                rw [List.any_eq_true]
                exact ⟨a, ha, by simp [hab.1, hab.2]⟩
              · have := h.many
                rw [List.length_append]
                simp only [List.length_cons, List.length_nil]
                omega
theorem addLns_ok : ∀ (l : List (List UInt8)) (rs : List Rl) (sec : UInt8) (n : Int), RlsOk rs → RlsOk (addLns l rs sec n).1
  | [], _, _, _, h => h
  | x :: r, rs, sec, n, h => by
    unfold addLns
    split
    · exact addLns_ok r _ _ _ (addLn_ok h)
    · exact h
theorem addAll_ok : ∀ (l : List (List UInt8)) (rs : List Rl) (n : Int), RlsOk rs → RlsOk (addAll l rs n).1
  | [], _, _, h => h
  | s :: r, rs, n, h => by
    unfold addAll
    split
    · exact addAll_ok r _ _ (addLns_ok _ _ _ _ h)
    · exact addLns_ok _ _ _ _ h
theorem rlsOk_nil : RlsOk [] := ⟨by simp, by simp, by simp⟩
theorem allLen_rev (h : List (List UInt8)) : allLen h.reverse = allLen h := by
  unfold allLen
  rw [List.map_reverse, List.sum_reverse]
theorem rlKey_len {r : Rl} (h : RlOk r) : (rlKey r).length < 64 := by
  unfold rlKey keyOf
  have h1 := h.1.2.2.1
  rw [List.length_append]
  simp only [List.length_cons, List.length_nil]
  have hr : r.1.reverse ≠ [] := by simpa using h.1.1
  obtain ⟨x, t, ht⟩ := List.exists_cons_of_ne_nil hr
  have key : (dotted r.1.reverse).length + 1 = allLen r.1.reverse := by
    rw [ht]
    have : ∀ q : List (List UInt8), (q.flatMap fun y => 46 :: y).length = allLen q := by
      intro q
      induction q with
      | nil => rfl
      | cons a q ih => simp only [List.flatMap_cons, List.length_append, ih, allLen, List.map_cons, List.sum_cons, List.length_cons]
    simp only [dotted, List.length_append, this, allLen, List.map_cons, List.sum_cons]
    omega
  rw [allLen_rev] at key
  omega
/-- The words that an image is made of, as they should be. -/
theorem keys_ok {rs : List Rl} (h : RlsOk rs) (h0 : rs ≠ []) : OkF 64 (sortW (rs.map rlKey)) ∧ Free (sortW (rs.map rlKey)) := by
  have hf := keys_free h.ok h.apart
  have hs := free_sort hf
  have hm := (sortW_ok _ (free_nodup hf)).2
  refine ⟨free_ok 64 _ hs (fun e => ?_) (fun w hw => ?_), hs⟩
  · obtain ⟨r, t, rfl⟩ := List.exists_cons_of_ne_nil h0
    have := (hm (rlKey r)).2 (by simp)
    rw [e] at this
    cases this
  · obtain ⟨r, hr, rfl⟩ := List.mem_map.1 ((hm w).1 hw)
    exact rlKey_len (h.ok r hr)
end Sx
namespace Go.Proofs.YtgohllfpceeboabGreatDoor
open Go.RowKit
/-- (suffix.kind).ahead -/
theorem pahead_w (w : World) : Calls Tryz.prog 218 #[.int .u8 42] w fun e w' => e = .returned (.string ⟨[42, 46].toArray⟩) ∧ w' = w := by
  go_enter Tryz.func218, Tryz.ntmps218
  go_wp2
  go_ret
  exact ⟨rfl, rfl⟩
theorem pahead_e (w : World) : Calls Tryz.prog 218 #[.int .u8 33] w fun e w' => e = .returned (.string ⟨[33].toArray⟩) ∧ w' = w := by
  go_enter Tryz.func218, Tryz.ntmps218
  go_wp2
  go_ret
  exact ⟨rfl, rfl⟩
theorem pahead_p (w : World) : Calls Tryz.prog 218 #[.int .u8 36] w fun e w' => e = .returned (.string ⟨#[]⟩) ∧ w' = w := by
  go_enter Tryz.func218, Tryz.ntmps218
  go_wp2
  go_ret
  exact ⟨rfl, rfl⟩
theorem prefixB_take (s p : List UInt8) : prefixB s p = decide (s.take p.length = p) := by
  unfold prefixB
  by_cases h : s.take p.length = p
  · have : p.length ≤ s.length := by have := congrArg List.length h; rw [List.length_take] at this; omega
    simp [h, this]
  · simp [h]
theorem drop_ext (s : ByteArray) (n : Nat) : s.extract n s.size = ⟨(s.data.toList.drop n).toArray⟩ := by
  apply ByteArray.ext
  apply Array.toList_inj.1
  rw [ba_ext, ← ba_len, List.take_length]
set_option maxRecDepth 100000 in
set_option maxHeartbeats 1000000 in
/-- suffix.splitRule -/
theorem pspl (s : ByteArray) (w : World) : Calls Tryz.prog 171 #[.string s] w fun e w' => e = .returned (.tuple #[.int .u8 (Sx.cutRl s.data.toList).1.toNat, .string ⟨(Sx.cutRl s.data.toList).2.toArray⟩]) ∧ Below w.heap.size w w' := by
  have c1 := fun w => pcut_any s ⟨[42, 46].toArray⟩ w
  have c2 := fun w => pcut_any s ⟨[33].toArray⟩ w
  have p1 := prefixB_take s.data.toList [42, 46]
  have p2 := prefixB_take s.data.toList [33]
  simp only [List.length_cons, List.length_nil, Nat.reduceAdd] at p1 p2
  have hidx1 : ∀ w : World, (Instr.index 295 (.agg #[.int .u8 42, .int .u8 33]) (.int .i64 0)).run Tryz.prog w = .ok (.int .u8 42) w := by intro w; kernel_rfl
  have hidx2 : ∀ w : World, (Instr.index 295 (.agg #[.int .u8 42, .int .u8 33]) (.int .i64 1)).run Tryz.prog w = .ok (.int .u8 33) w := by intro w; kernel_rfl
  obtain ⟨b1, hb1⟩ : ∃ b1, prefixB s.data.toList [42, 46] = b1 := ⟨_, rfl⟩
  obtain ⟨b2, hb2⟩ : ∃ b2, prefixB s.data.toList [33] = b2 := ⟨_, rfl⟩
  have e1 : (⟨[42, 46].toArray⟩ : ByteArray).data.toList = [42, 46] := rfl
  have e2 : (⟨[33].toArray⟩ : ByteArray).data.toList = [33] := rfl
  rw [e1, hb1] at c1
  rw [e2, hb2] at c2
  rw [hb1] at p1
  rw [hb2] at p2
  obtain ⟨R, hR⟩ : ∃ R, Sx.cutRl s.data.toList = R := ⟨_, rfl⟩
  rw [hR]
  have f1 : b1 = true → R = (42, s.data.toList.drop 2) := fun h => by
    rw [h] at p1
    rw [← hR]
    unfold Sx.cutRl
    rw [if_pos (of_decide_eq_true p1.symm)]
  have f2 : b1 = false → b2 = true → R = (33, s.data.toList.drop 1) := fun h h2 => by
    rw [h] at p1
    rw [h2] at p2
    rw [← hR]
    unfold Sx.cutRl
    rw [if_neg (of_decide_eq_false p1.symm), if_pos (of_decide_eq_true p2.symm)]
  have f3 : b1 = false → b2 = false → R = (36, s.data.toList) := fun h h2 => by
    rw [h] at p1
    rw [h2] at p2
    rw [← hR]
    unfold Sx.cutRl
    rw [if_neg (of_decide_eq_false p1.symm), if_neg (of_decide_eq_false p2.symm)]
  have F1 := hide f1
  have F2 := hide f2
  have F3 := hide f3
  have C1 := hide c1
  have C2 := hide c2
  clear f1 f2 f3 hR hb1 hb2 e1 e2 p1 p2 c1 c2
  go_enter Tryz.func171, Tryz.ntmps171
  go_wp2
  go_loopw [9] (fun i wr => (i = .int .i64 0 ∨ (i = .int .i64 1 ∧ b1 = false) ∨ (i = .int .i64 2 ∧ b1 = false ∧ b2 = false)) ∧ Below w.heap.size w wr) (fun i _ => (3 - intOf i).toNat)
  case atStart => exact ⟨.inl rfl, Below.refl _ _⟩
  case round =>
    obtain ⟨hcs, hB⟩ := hrel
    rcases hcs with rfl | ⟨rfl, g1⟩ | ⟨rfl, g1, g2⟩
    · have hv : b1 = true ∨ b1 = false := by cases b1 <;> simp
      rcases hv with hv | hv
      · subst hv
        go_wp2_with (first | (go_at_call 218; go_must (refine (pahead_w _).mono ?_; rintro e w1 ⟨rfl, rfl⟩)) | (go_at_call 114; go_must (refine (C1.out _).mono ?_; rintro e w1 ⟨rfl, rfl⟩)))
        go_ret2
        rw [F1.out trivial]
        exact ⟨by rw [← drop_ext s 2]; rfl, hB⟩
      · subst hv
        go_wp2_with (first | (go_at_call 218; go_must (refine (pahead_w _).mono ?_; rintro e w1 ⟨rfl, rfl⟩)) | (go_at_call 114; go_must (refine (C1.out _).mono ?_; rintro e w1 ⟨rfl, rfl⟩)))
        exact ⟨⟨.inr (.inl ⟨rfl, trivial⟩), hB⟩, by decide⟩
    · have hv : b2 = true ∨ b2 = false := by cases b2 <;> simp
      rcases hv with hv | hv
      · subst hv
        go_wp2_with (first | (go_at_call 218; go_must (refine (pahead_e _).mono ?_; rintro e w1 ⟨rfl, rfl⟩)) | (go_at_call 114; go_must (refine (C2.out _).mono ?_; rintro e w1 ⟨rfl, rfl⟩)))
        go_ret2
        rw [F2.out g1 trivial]
        exact ⟨by rw [← drop_ext s 1]; rfl, hB⟩
      · subst hv
        go_wp2_with (first | (go_at_call 218; go_must (refine (pahead_e _).mono ?_; rintro e w1 ⟨rfl, rfl⟩)) | (go_at_call 114; go_must (refine (C2.out _).mono ?_; rintro e w1 ⟨rfl, rfl⟩)))
        exact ⟨⟨.inr (.inr ⟨rfl, g1, trivial⟩), hB⟩, by decide⟩
    · go_wp2
      go_ret2
      rw [F3.out g1 g2]
      exact ⟨rfl, hB⟩
theorem far_boxB {w w' : World} {b : Nat} {cs : Array Value} {t : TypeId} {fr : Nat × Nat} (hb : Below w.heap.size w w') (h : w.heap[b]? = some (.cells cs t fr)) : w'.heap[b]? = some (.cells cs t fr) := (hb.block b (Array.getElem?_eq_some_iff.1 h).1).trans h
/-- A rule of the program's, as a value. -/
def ruA (r : Sx.Rl) : Value := .agg #[.int .u8 r.2.1.toNat, .string ⟨(Sx.dotted r.1).toArray⟩, .int .i64 r.1.length, .int .u8 r.2.2.toNat]
def ruNo : Value := .agg #[.int .u8 0, .string ⟨#[]⟩, .int .i64 0, .int .u8 0]
/-- What newRule hands back. -/
def nwRl (k : UInt8) (s : List UInt8) (sec : UInt8) : Option Sx.Rl := if (Sx.host s).2 = 0 ∧ (k = 33 → 1 < (Sx.host s).1.length) then some ((Sx.host s).1, k, sec) else none
def NrPost (o : Option Sx.Rl) (w : World) (e : Ending) (w' : World) : Prop := Below w.heap.size w w' ∧ match o with
  | some r => e = .returned (.tuple #[ruA r, .bool true])
  | none => e = .returned (.tuple #[ruNo, .bool false])
/-- A block of four cells. -/
theorem box4 {W : World} {b : Nat} {x y z u : Value} {t : TypeId} (h : W.heap[b]? = some (.cells #[x, y, z, u] t (0, 0))) : (W.cell? ⟨b, 0, none⟩ = some x ∧ W.cell? ⟨b, 1, none⟩ = some y ∧ W.cell? ⟨b, 2, none⟩ = some z ∧ W.cell? ⟨b, 3, none⟩ = some u) ∧ W.frozen? ⟨b, 0, none⟩ = false ∧ W.frozen? ⟨b, 1, none⟩ = false ∧ W.frozen? ⟨b, 2, none⟩ = false ∧ W.frozen? ⟨b, 3, none⟩ = false := by
  simp [World.cell?, World.frozen?, h]
theorem set4 {w W : World} (h : Below w.heap.size w W) {x y z u : Value} : Below w.heap.size w ((((W.setCell ⟨w.heap.size, 0, none⟩ x).setCell ⟨w.heap.size, 1, none⟩ y).setCell ⟨w.heap.size, 2, none⟩ z).setCell ⟨w.heap.size, 3, none⟩ u) :=
  (((h.setCell (p := ⟨w.heap.size, 0, none⟩) (Nat.le_refl _) _).setCell (p := ⟨w.heap.size, 1, none⟩) (Nat.le_refl _) _).setCell (p := ⟨w.heap.size, 2, none⟩) (Nat.le_refl _) _).setCell (p := ⟨w.heap.size, 3, none⟩) (Nat.le_refl _) _
set_option maxRecDepth 100000 in
set_option maxHeartbeats 1000000 in
/-- suffix.newRule -/
theorem pnr (k : UInt8) (s : ByteArray) (sec : UInt8) (w : World) (hw : LWt w) : Calls Tryz.prog 144 #[.int .u8 k.toNat, .string s, .int .u8 sec.toNat] w (NrPost (nwRl k s.data.toList sec) w) := by
  obtain ⟨o, ho⟩ : ∃ o, Obj.cells #[.int .u8 0, .string ⟨#[]⟩, .int .i64 0, .int .u8 0] 82 = o := ⟨_, rfl⟩
  have hB0 : Below w.heap.size w (w.alloc o) := (Below.refl _ _).alloc (Nat.le_refl _) _
  have hbx0 : (w.alloc o).heap[w.heap.size]? = some o := heap_alloc_new _ _
  have HRH := hide (prh_any s (w.alloc o) (lwt_stays w _ hw hB0))
  subst ho
  clear hw
  go_enter Tryz.func144, Tryz.ntmps144
  go_wp2_with fail
  refine HRH.out.mono ?_
  rintro e w2 ⟨hB2, (⟨err, he0, hh, rfl⟩ | ⟨L, g, cap, hh, rfl, hlb, hl6, hx⟩)⟩
  · have hd : (err != 0) = true := by simpa using he0
    have HN : Hid (nwRl k s.data.toList sec = none) := hide (by unfold nwRl; rw [hh]; simp [he0])
    have hbx := far_boxB hB2 hbx0
    obtain ⟨⟨q0, q1, q2, q3⟩, f0, f1, f2, f3⟩ := box4 hbx
    have hBw : Below w.heap.size w w2 := hB0.trans (hB2.mono hB0.size)
    clear hh HRH hbx hbx0
    go_wp2
    (try simp only [Exit.inBlock, Exit.then])
    refine bodyPost_ret (v := .tuple #[.agg #[.int .u8 0, .string ⟨#[]⟩, .int .i64 0, .int .u8 0], .bool false]) ?_ rfl ?_
    · rw [results_cell_tmp rfl]
      go_simp
    · rw [HN.out]
      exact ⟨set4 hBw, rfl⟩
  · have hbx := far_boxB hB2 hbx0
    obtain ⟨⟨q0, q1, q2, q3⟩, f0, f1, f2, f3⟩ := box4 hbx
    have hBw : Below w.heap.size w w2 := hB0.trans (hB2.mono hB0.size)
    have hNl : (L.map (fun x => x.2.data.toList)).length = L.length := List.length_map _
    by_cases hbad : k = 33 ∧ L.length < 2
    · have HN : Hid (nwRl k s.data.toList sec = none) := hide (by
        unfold nwRl
        rw [hh, if_neg]
        rintro ⟨_, h2⟩
        have := h2 hbad.1
        rw [hNl] at this
        omega)
      obtain ⟨rfl, hlt⟩ := hbad
      clear hh HRH hbx hbx0 hlb hx hNl
      generalize L.length = N at *
      have hlt2 : (N : Int) < 2 := by omega
      go_wp2
      (try simp only [Exit.inBlock, Exit.then])
      refine bodyPost_ret (v := .tuple #[.agg #[.int .u8 0, .string ⟨#[]⟩, .int .i64 0, .int .u8 0], .bool false]) ?_ rfl ?_
      · rw [results_cell_tmp rfl]
        go_simp
      · rw [HN.out]
        exact ⟨set4 hBw, rfl⟩
    · have HN : Hid (nwRl k s.data.toList sec = some (L.map (fun x => x.2.data.toList), k, sec)) := hide (by
        unfold nwRl
        rw [hh, if_pos]
        refine ⟨rfl, fun h => ?_⟩
        rw [hNl]
        by_cases h2 : L.length < 2
        · exact absurd ⟨h, h2⟩ hbad
        · omega)
      have hj := pjp_any L id g cap w2 hlb (by omega) (fun x hm => by
        obtain ⟨p, h1, h2, h3, h4⟩ := hx x hm
        have hf := lab_facts x p h1 h2 h3 h4
        show x.2.data.toList.length ≤ 1000; rw [ba_len]; omega) (fun x hm w => ppf_any x.1 x.2 w)
      obtain ⟨T, hT⟩ : ∃ T : ByteArray, ⟨(Sx.dotted (L.map fun x => id x.2.data.toList)).toArray⟩ = T := ⟨_, rfl⟩
      rw [hT] at hj
      have HJ := hide hj
      have HT := hide hT
      have HNL := hide hNl
      have HBX := hide hbx
      have hkk : k = 33 ∨ k ≠ 33 := by by_cases h : k = 33 <;> simp [h]
      clear hh HRH hbx0 hlb hx hNl hT hj hbx
      obtain ⟨N, hN⟩ : ∃ N, L.length = N := ⟨_, rfl⟩
      rw [hN] at HJ HNL hbad hl6 ⊢
      clear hN
      rcases hkk with rfl | hkn
      · have hN2 : ¬ (N : Int) < 2 := by have : ¬ N < 2 := fun h => hbad ⟨rfl, h⟩; omega
        clear hbad
        go_wp2_with fail
        refine HJ.out.mono ?_
        rintro e w3 ⟨rfl, hB3⟩
        obtain ⟨⟨q0, q1, q2, q3⟩, f0, f1, f2, f3⟩ := box4 (far_boxB hB3 HBX.out)
        have hBe := hBw.trans (hB3.mono hBw.size)
        clear hB3
        go_wp2
        (try simp only [Exit.inBlock, Exit.then])
        refine bodyPost_ret (v := .tuple #[.agg #[.int .u8 33, .string T, .int .i64 N, .int .u8 sec.toNat], .bool true]) ?_ rfl ?_
        · rw [results_cell_tmp rfl]
          go_simp
        · rw [HN.out]
          refine ⟨set4 hBe, ?_⟩
          show _ = Ending.returned (.tuple #[ruA _, _])
          unfold ruA
          rw [HNL.out, ← HT.out]
          rfl
      · have hk1 : ((k.toNat : Int) == 33) = false := by
          rw [beq_eq_false_iff_ne]
          intro e
          exact hkn (UInt8.toNat_inj.1 (by have : (33 : UInt8).toNat = 33 := rfl; omega))
        have hk2 : ¬ (k.toNat : Int) = 33 := by simpa using hk1
        clear hbad
        go_wp2_with fail
        refine HJ.out.mono ?_
        rintro e w3 ⟨rfl, hB3⟩
        obtain ⟨⟨q0, q1, q2, q3⟩, f0, f1, f2, f3⟩ := box4 (far_boxB hB3 HBX.out)
        have hBe := hBw.trans (hB3.mono hBw.size)
        clear hB3
        go_wp2
        (try simp only [Exit.inBlock, Exit.then])
        refine bodyPost_ret (v := .tuple #[.agg #[.int .u8 k.toNat, .string T, .int .i64 N, .int .u8 sec.toNat], .bool true]) ?_ rfl ?_
        · rw [results_cell_tmp rfl]
          go_simp
        · rw [HN.out]
          refine ⟨set4 hBe, ?_⟩
          show _ = Ending.returned (.tuple #[ruA _, _])
          unfold ruA
          rw [HNL.out, ← HT.out]
          rfl
theorem readRl_nw (line : List UInt8) (sec : UInt8) : Sx.readRl line sec = nwRl (Sx.cutRl line).1 (Sx.cutRl line).2 sec := rfl
set_option maxRecDepth 100000 in
set_option maxHeartbeats 1000000 in
/-- suffix.ruleOfLine -/
theorem prl (s : ByteArray) (sec : UInt8) (w : World) (hw : LWt w) : Calls Tryz.prog 120 #[.string s, .int .u8 sec.toNat] w (NrPost (Sx.readRl s.data.toList sec) w) := by
  obtain ⟨o, ho⟩ : ∃ o, Obj.cells #[.int .u8 0, .string ⟨#[]⟩, .int .i64 0, .int .u8 0] 82 = o := ⟨_, rfl⟩
  have hB0 : Below w.heap.size w (w.alloc o) := (Below.refl _ _).alloc (Nat.le_refl _) _
  have hbx0 : (w.alloc o).heap[w.heap.size]? = some o := heap_alloc_new _ _
  have hsp := pspl s (w.alloc o)
  rw [readRl_nw]
  obtain ⟨kk, hkk⟩ : ∃ kk, (Sx.cutRl s.data.toList).1 = kk := ⟨_, rfl⟩
  obtain ⟨X, hX⟩ : ∃ X : ByteArray, ⟨(Sx.cutRl s.data.toList).2.toArray⟩ = X := ⟨_, rfl⟩
  have hXl : (Sx.cutRl s.data.toList).2 = X.data.toList := by rw [← hX]
  rw [hkk, hX] at hsp
  rw [hkk, hXl]
  have HSP := hide hsp
  have HLW := hide (lwt_stays w _ hw hB0)
  subst ho
  clear hw hsp hkk hX hXl
  obtain ⟨R, hR⟩ : ∃ R, nwRl kk X.data.toList sec = R := ⟨_, rfl⟩
  have HNR : Hid (∀ w, LWt w → Calls Tryz.prog 144 #[.int .u8 kk.toNat, .string X, .int .u8 sec.toNat] w (NrPost R w)) := hide (fun w hw => by rw [← hR]; exact pnr kk X sec w hw)
  rw [hR]
  clear hR
  go_enter Tryz.func120, Tryz.ntmps120
  go_wp2_with fail
  refine HSP.out.mono ?_
  rintro e w2 ⟨rfl, hB2⟩
  have hbx := far_boxB hB2 hbx0
  have hlw2 := lwt_stays _ _ HLW.out hB2
  have hBw : Below w.heap.size w w2 := hB0.trans (hB2.mono hB0.size)
  clear hB2 hbx0 hB0
  go_wp2_with fail
  refine (HNR.out w2 hlw2).mono ?_
  rintro e w3 ⟨hB3, hr⟩
  obtain ⟨⟨q0, q1, q2, q3⟩, f0, f1, f2, f3⟩ := box4 (far_boxB hB3 hbx)
  have hBe := hBw.trans (hB3.mono hBw.size)
  clear hB3 hbx
  cases R with
  | none =>
    replace hr : e = .returned (.tuple #[ruNo, .bool false]) := hr
    unfold ruNo at hr
    subst hr
    go_wp2
    (try simp only [Exit.inBlock, Exit.then])
    refine bodyPost_ret (v := .tuple #[.agg #[.int .u8 0, .string ⟨#[]⟩, .int .i64 0, .int .u8 0], .bool false]) ?_ rfl ?_
    · rw [results_cell_tmp rfl]
      go_simp
    · exact ⟨set4 hBe, rfl⟩
  | some r =>
    obtain ⟨h, k, sc⟩ := r
    replace hr : e = .returned (.tuple #[.agg #[.int .u8 k.toNat, .string ⟨(Sx.dotted h).toArray⟩, .int .i64 h.length, .int .u8 sc.toNat], .bool true]) := hr
    subst hr
    obtain ⟨D, hD⟩ : ∃ D : ByteArray, ⟨(Sx.dotted h).toArray⟩ = D := ⟨_, rfl⟩
    obtain ⟨N, hN⟩ : ∃ N, h.length = N := ⟨_, rfl⟩
    have HF : Hid (ruA (h, k, sc) = .agg #[.int .u8 k.toNat, .string D, .int .i64 N, .int .u8 sc.toNat]) := hide (by unfold ruA; simp only; rw [hD, hN])
    rw [hD, hN]
    clear hD hN
    go_wp2
    (try simp only [Exit.inBlock, Exit.then])
    refine bodyPost_ret (v := .tuple #[.agg #[.int .u8 k.toNat, .string D, .int .i64 N, .int .u8 sc.toNat], .bool true]) ?_ rfl ?_
    · rw [results_cell_tmp rfl]
      go_simp
    · refine ⟨set4 hBe, ?_⟩
      show _ = Ending.returned (.tuple #[ruA _, _])
      rw [HF.out]
end Go.Proofs.YtgohllfpceeboabGreatDoor
namespace Go.Proofs
open Go.Shelf
def Tryz.lays156_ren : Go.Shelf.Ren := ⟨fun | 156 => 121 | 165 => 172 | 166 => 90 | 169 => 91 | 240 => 140 | 241 => 223 | 276 => 199 | 277 => 244 | n => n, fun | 31 => 51 | 9 => 9 | 3 => 3 | 4 => 4 | 0 => 0 | 20 => 20 | 72 => 134 | 76 => 138 | 70 => 132 | 37 => 90 | 75 => 136 | 127 => 198 | 164 => 274 | 5 => 5 | 80 => 48 | n => n, fun | n => n⟩
theorem Tryz.lays156 : Go.Proofs.Lays.n156 Tryz.prog Tryz.lays156_ren := {
  mixed := by kernel_rfl
  f156 := Tryz.func121.trans (congrArg some (by kernel_rfl))
  f165 := Tryz.func172.trans (congrArg some (by kernel_rfl))
  f166 := Tryz.func90.trans (congrArg some (by kernel_rfl))
  f169 := Tryz.func91.trans (congrArg some (by kernel_rfl))
  f240 := Tryz.func140.trans (congrArg some (by kernel_rfl))
  f241 := Tryz.func223.trans (congrArg some (by kernel_rfl))
  f276 := Tryz.func199.trans (congrArg some (by kernel_rfl))
  f277 := Tryz.func244.trans (congrArg some (by kernel_rfl))
  t0 := Tryz.underlying0
  a0 := Tryz.isAgg0
  z0 := Tryz.sizeOf0
  v0 := Tryz.zeroValue0
  t3 := Tryz.underlying3
  a3 := Tryz.isAgg3
  z3 := Tryz.sizeOf3
  v3 := Tryz.zeroValue3
  t4 := Tryz.underlying4
  a4 := Tryz.isAgg4
  z4 := Tryz.sizeOf4
  v4 := Tryz.zeroValue4
  t9 := Tryz.underlying9
  a9 := Tryz.isAgg9
  z9 := Tryz.sizeOf9
  v9 := Tryz.zeroValue9
  t20 := Tryz.underlying20
  a20 := Tryz.isAgg20
  z20 := Tryz.sizeOf20
  v20 := Tryz.zeroValue20
  t31 := Tryz.underlying51
  a31 := Tryz.isAgg51
  z31 := Tryz.sizeOf51
  v31 := Tryz.zeroValue51
  t37 := Tryz.underlying90
  a37 := Tryz.isAgg90
  z37 := Tryz.sizeOf90
  v37 := Tryz.zeroValue90
  t70 := Tryz.underlying132
  a70 := Tryz.isAgg132
  z70 := Tryz.sizeOf132
  v70 := Tryz.zeroValue132
  t72 := Tryz.underlying134
  a72 := Tryz.isAgg134
  z72 := Tryz.sizeOf134
  v72 := Tryz.zeroValue134
  t75 := Tryz.underlying136
  a75 := Tryz.isAgg136
  z75 := Tryz.sizeOf136
  v75 := Tryz.zeroValue136
  t76 := Tryz.underlying138
  a76 := Tryz.isAgg138
  z76 := Tryz.sizeOf138
  v76 := Tryz.zeroValue138
  t127 := Tryz.underlying198
  a127 := Tryz.isAgg198
  z127 := Tryz.sizeOf198
  v127 := Tryz.zeroValue198
  t164 := Tryz.underlying274
  a164 := Tryz.isAgg274
  z164 := Tryz.sizeOf274
  v164 := Tryz.zeroValue274 }
theorem Tryz.Builder_Extra_156 : Builder.Extra Tryz.prog Tryz.lays156_ren := {
  sizeBuilder := by kernel_rfl
  liesBuilder := by kernel_rfl
  t5 := Tryz.underlying5
  a5 := Tryz.isAgg5
  z5 := Tryz.sizeOf5
  v5 := Tryz.zeroValue5
  infoByte := by kernel_rfl
  cellsByte := by kernel_rfl
  sizeByte := by kernel_rfl
  neB5 := by decide }
open Go.RowKit in
open Go.RowKit in
theorem Tryz.strings_Join (bk o c : Nat) (xs : List ByteArray) (sep : ByteArray) (w : World) (hcells : ∀ (j : Nat) x, xs[j]? = some x → w.cell? ⟨bk, o + j, none⟩ = some (.string x)) (hbk : bk < w.heap.size) (hN : xs.length ≤ 140737488355328) (hcap : xs.length ≤ c) (hlen : (Lib.join (xs.map (·.data.toList)) sep.data.toList).length ≤ 140737488355328) :
    Calls Tryz.prog 121 #[.slice (some ⟨bk, o, none⟩) xs.length c, .string sep] w fun e w' => e = .returned (.string ⟨(Lib.join (xs.map (·.data.toList)) sep.data.toList).toArray⟩) ∧ Below w.heap.size w w' := Any.strings_Join Tryz.lays156 Tryz.Builder_Extra_156 bk o c xs sep w hcells hbk hN hcap hlen
def Tryz.lays219_ren : Go.Shelf.Ren := ⟨fun | 219 => 169 | 217 => 219 | 225 => 220 | 224 => 221 | 267 => 222 | 266 => 242 | 314 => 243 | n => n, fun | 9 => 9 | 3 => 3 | 4 => 4 | 5 => 5 | 46 => 178 | 146 => 316 | 51 => 258 | n => n, fun | 1 => 2 | n => n⟩
theorem Tryz.lays219 : Go.Proofs.Lays.n219 Tryz.prog Tryz.lays219_ren := {
  mixed := by kernel_rfl
  f217 := Tryz.func219.trans (congrArg some (by kernel_rfl))
  f219 := Tryz.func169.trans (congrArg some (by kernel_rfl))
  f224 := Tryz.func221.trans (congrArg some (by kernel_rfl))
  f225 := Tryz.func220.trans (congrArg some (by kernel_rfl))
  f266 := Tryz.func242.trans (congrArg some (by kernel_rfl))
  f267 := Tryz.func222.trans (congrArg some (by kernel_rfl))
  f314 := Tryz.func243.trans (congrArg some (by kernel_rfl))
  t3 := Tryz.underlying3
  a3 := Tryz.isAgg3
  z3 := Tryz.sizeOf3
  v3 := Tryz.zeroValue3
  t4 := Tryz.underlying4
  a4 := Tryz.isAgg4
  z4 := Tryz.sizeOf4
  v4 := Tryz.zeroValue4
  t5 := Tryz.underlying5
  a5 := Tryz.isAgg5
  z5 := Tryz.sizeOf5
  v5 := Tryz.zeroValue5
  t9 := Tryz.underlying9
  a9 := Tryz.isAgg9
  z9 := Tryz.sizeOf9
  v9 := Tryz.zeroValue9
  t46 := Tryz.underlying178
  a46 := Tryz.isAgg178
  z46 := Tryz.sizeOf178
  v46 := Tryz.zeroValue178
  t51 := Tryz.underlying258
  a51 := Tryz.isAgg258
  z51 := Tryz.sizeOf258
  v51 := Tryz.zeroValue258
  t146 := Tryz.underlying316
  a146 := Tryz.isAgg316
  z146 := Tryz.sizeOf316
  v146 := Tryz.zeroValue316
  g1 := by kernel_rfl }
open Go.RowKit Go.Lib in
theorem Tryz.stringslite_Index_one (s : ByteArray) (c : UInt8) (w : World) :
    Calls Tryz.prog 169 #[.string s, .string ⟨#[c]⟩] w fun e w' => e = .returned (.int .i64 (Lib.indexByte s.data.toList c)) ∧ w' = w := Any.stringslite_Index_one Tryz.lays219 s c w
def Tryz.lays190_ren : Go.Shelf.Ren := ⟨fun | 190 => 79 | 125 => 124 | 258 => 123 | 128 => 183 | 129 => 184 | 302 => 174 | 303 => 175 | 304 => 176 | 305 => 177 | 306 => 178 | 307 => 179 | 308 => 180 | 309 => 181 | 310 => 182 | 333 => 224 | 329 => 225 | 330 => 226 | 334 => 227 | 335 => 228 | 336 => 229 | 344 => 245 | n => n, fun | 31 => 51 | 9 => 9 | 3 => 3 | 46 => 178 | 0 => 0 | 51 => 258 | 53 => 260 | 4 => 4 | 183 => 251 | 182 => 250 | 131 => 255 | 5 => 5 | 218 => 296 | 222 => 300 | 228 => 318 | 229 => 159 | n => n, fun | n => n⟩
theorem Tryz.lays190 : Go.Proofs.Lays.n190 Tryz.prog Tryz.lays190_ren := {
  mixed := by kernel_rfl
  f125 := Tryz.func124.trans (congrArg some (by kernel_rfl))
  f128 := Tryz.func183.trans (congrArg some (by kernel_rfl))
  f129 := Tryz.func184.trans (congrArg some (by kernel_rfl))
  f190 := Tryz.func79.trans (congrArg some (by kernel_rfl))
  f258 := Tryz.func123.trans (congrArg some (by kernel_rfl))
  f302 := Tryz.func174.trans (congrArg some (by kernel_rfl))
  f303 := Tryz.func175.trans (congrArg some (by kernel_rfl))
  f304 := Tryz.func176.trans (congrArg some (by kernel_rfl))
  f305 := Tryz.func177.trans (congrArg some (by kernel_rfl))
  f306 := Tryz.func178.trans (congrArg some (by kernel_rfl))
  f307 := Tryz.func179.trans (congrArg some (by kernel_rfl))
  f308 := Tryz.func180.trans (congrArg some (by kernel_rfl))
  f309 := Tryz.func181.trans (congrArg some (by kernel_rfl))
  f310 := Tryz.func182.trans (congrArg some (by kernel_rfl))
  f329 := Tryz.func225.trans (congrArg some (by kernel_rfl))
  f330 := Tryz.func226.trans (congrArg some (by kernel_rfl))
  f333 := Tryz.func224.trans (congrArg some (by kernel_rfl))
  f334 := Tryz.func227.trans (congrArg some (by kernel_rfl))
  f335 := Tryz.func228.trans (congrArg some (by kernel_rfl))
  f336 := Tryz.func229.trans (congrArg some (by kernel_rfl))
  f344 := Tryz.func245.trans (congrArg some (by kernel_rfl))
  t0 := Tryz.underlying0
  a0 := Tryz.isAgg0
  z0 := Tryz.sizeOf0
  v0 := Tryz.zeroValue0
  t3 := Tryz.underlying3
  a3 := Tryz.isAgg3
  z3 := Tryz.sizeOf3
  v3 := Tryz.zeroValue3
  t4 := Tryz.underlying4
  a4 := Tryz.isAgg4
  z4 := Tryz.sizeOf4
  v4 := Tryz.zeroValue4
  t5 := Tryz.underlying5
  a5 := Tryz.isAgg5
  z5 := Tryz.sizeOf5
  v5 := Tryz.zeroValue5
  t9 := Tryz.underlying9
  a9 := Tryz.isAgg9
  z9 := Tryz.sizeOf9
  v9 := Tryz.zeroValue9
  t31 := Tryz.underlying51
  a31 := Tryz.isAgg51
  z31 := Tryz.sizeOf51
  v31 := Tryz.zeroValue51
  t46 := Tryz.underlying178
  a46 := Tryz.isAgg178
  z46 := Tryz.sizeOf178
  v46 := Tryz.zeroValue178
  t51 := Tryz.underlying258
  a51 := Tryz.isAgg258
  z51 := Tryz.sizeOf258
  v51 := Tryz.zeroValue258
  t53 := Tryz.underlying260
  a53 := Tryz.isAgg260
  z53 := Tryz.sizeOf260
  v53 := Tryz.zeroValue260
  t131 := Tryz.underlying255
  a131 := Tryz.isAgg255
  z131 := Tryz.sizeOf255
  v131 := Tryz.zeroValue255
  t182 := Tryz.underlying250
  a182 := Tryz.isAgg250
  z182 := Tryz.sizeOf250
  v182 := Tryz.zeroValue250
  t183 := Tryz.underlying251
  a183 := Tryz.isAgg251
  z183 := Tryz.sizeOf251
  v183 := Tryz.zeroValue251
  t218 := Tryz.underlying296
  a218 := Tryz.isAgg296
  z218 := Tryz.sizeOf296
  v218 := Tryz.zeroValue296
  t222 := Tryz.underlying300
  a222 := Tryz.isAgg300
  z222 := Tryz.sizeOf300
  v222 := Tryz.zeroValue300
  t228 := Tryz.underlying318
  a228 := Tryz.isAgg318
  z228 := Tryz.sizeOf318
  v228 := Tryz.zeroValue318
  t229 := Tryz.underlying159
  a229 := Tryz.isAgg159
  z229 := Tryz.sizeOf159
  v229 := Tryz.zeroValue159 }
open Go.Sort Go.RowKit in
theorem Tryz.slices_Sort_string (blk off cap : Nat) (ss : List (List UInt8)) (w : World) (hH : Holds encStr w blk off ss.toArray) (hblk : blk < w.heap.size) (hsz : ss.length < 4611686018427387904) :
    Calls Tryz.prog 79 #[.slice (some ⟨blk, off, none⟩) ss.length cap] w fun e w' =>
      e = .returned (.tuple #[]) ∧ ∃ n os, w' = grow (putRow encStr (Sort.ahead w n) blk off (ss.mergeSort fun x y => decide (x ≤ y)).toArray) os := Any.slices_Sort_string Tryz.lays190 blk off cap ss w hH hblk hsz
open Go.RowKit Go.Sort in
theorem Tryz.slices_Sort_string_none (p : Option Addr) (cap : Nat) (w : World) :
    Calls Tryz.prog 79 #[.slice p 0 cap] w fun e w' => e = .returned (.tuple #[]) ∧ w' = w := Any.slices_Sort_string_none Tryz.lays190 p cap w
end Go.Proofs
namespace Go.Proofs.YtgohllfpceeboabGreatDoor
open Go.RowKit
end Go.Proofs.YtgohllfpceeboabGreatDoor
namespace Sx
/-- The first line of a list, and those behind it. -/
def lineLen (s : List UInt8) : Nat := (s.takeWhile fun x => decide (x ≠ 10)).length
theorem linesGo_more : ∀ (s cur : List UInt8), s ≠ [] ∨ cur ≠ [] → linesGo s cur = (cur ++ s.take (lineLen s)) :: linesOf (s.drop (lineLen s + 1))
  | [], cur, h => by
    have h : cur ≠ [] := by rcases h with h | h; exact absurd rfl h; exact h
    simp [linesGo, h, lineLen, linesOf]
  | x :: r, cur, _ => by
    unfold linesGo
    by_cases hx : x = 10
    · simp [hx, lineLen, linesOf]
    · rw [if_neg hx, linesGo_more r (cur ++ [x]) (Or.inr (by simp))]
      have : lineLen (x :: r) = lineLen r + 1 := by simp [lineLen, hx]
      rw [this]
      simp
theorem linesOf_more {s : List UInt8} (h : s ≠ []) : linesOf s = s.take (lineLen s) :: linesOf (s.drop (lineLen s + 1)) := by
  have := linesGo_more s [] (Or.inl h)
  rw [List.nil_append] at this
  exact this
theorem lineLen_le (s : List UInt8) : lineLen s ≤ s.length := by
  unfold lineLen
  exact (List.takeWhile_sublist _).length_le
/-- A block of words with one first byte. -/
theorem grp_block (c : UInt8) : ∀ (b : List Wd) (rest : List Wd), b ≠ [] → (∀ w ∈ rest, w ≠ []) → (∀ d t r, rest = (d :: t) :: r → d ≠ c) → grp (b.map (c :: ·) ++ rest) = (c, b) :: grp rest
  | [], _, h, _, _ => absurd rfl h
  | [t], rest, _, hne, hr => by
    cases rest with
    | nil => simp [grp]
    | cons x r =>
      cases x with
      | nil => exact absurd rfl (hne [] (by simp))
      | cons d u =>
        have hd := hr d u r rfl
        have : ∃ b g, grp ((d :: u) :: r) = (d, b) :: g := by
          unfold grp
          cases hg : grp r with
          | nil => exact ⟨_, _, rfl⟩
          | cons y g =>
            obtain ⟨e, b⟩ := y
            by_cases he : e = d
            · subst he; exact ⟨u :: b, g, by simp⟩
            · exact ⟨[u], (e, b) :: g, by simp [he]⟩
        obtain ⟨b, g, hg⟩ := this
        rw [show List.map (c :: ·) [t] ++ (d :: u) :: r = (c :: t) :: (d :: u) :: r from rfl, grp, hg]
        simp [hd]
  | t :: t2 :: b, rest, _, hne, hr => by
    have ih := grp_block c (t2 :: b) rest (by simp) hne hr
    rw [show List.map (c :: ·) (t :: t2 :: b) ++ rest = (c :: t) :: (List.map (c :: ·) (t2 :: b) ++ rest) from rfl, grp, ih]
    simp
theorem posOf_map {α β : Type} [DecidableEq α] [DecidableEq β] (f : α → β) (x : α) : ∀ (l : List α), (∀ y ∈ l, f y = f x → y = x) → posOf (f x) (l.map f) = posOf x l
  | [], _ => rfl
  | y :: r, h => by
    simp only [List.map_cons, posOf]
    by_cases e : y = x
    · simp [e]
    · rw [if_neg e, if_neg (fun e2 => e (h y (by simp) e2)), posOf_map f x r (fun z hz => h z (by simp [hz]))]
end Sx
namespace Go.Proofs.YtgohllfpceeboabGreatDoor
open Go.RowKit
end Go.Proofs.YtgohllfpceeboabGreatDoor

