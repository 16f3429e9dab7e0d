import Derived.Test.YtgohllfpceeboabGreatDoorSbbg
import Derived.Test.YtgohllfpceeboabGreatDoorSbbb
import Derived.Test.YtgohllfpceeboabGreatDoorSbay
import Derived.Test.YtgohllfpceeboabGreatDoorSbbe
namespace Go.Proofs.YtgohllfpceeboabGreatDoor
open Sx
/-- An origin: what it is made of (none: it is opaque), and the domain that was set. -/
abbrev Org := Option (List UInt8 × List (List UInt8) × Int) × List UInt8
def httpB : List UInt8 := [104, 116, 116, 112]
def httpsB : List UInt8 := [104, 116, 116, 112, 115]
def opqB : List UInt8 := [111, 112, 97, 113, 117, 101]
abbrev schOk (s : List UInt8) : Prop := s = httpB ∨ s = httpsB
/-- An origin as origins are. -/
def OrgOk (o : Org) : Prop := match o.1 with
  | none => o.2 = []
  | some (s, H, p) => schOk s ∧ HostOk H ∧ 0 ≤ p ∧ p ≤ 65535
/-- TUPLE, OPAQUE. -/
def joinO (os : List Org) (o : Org) : List Org × Int × Int := if os.length = 20 then (os, 0, 5) else (os ++ [o], os.length, 0)
def tupO (os : List Org) (s h : List UInt8) (p : Int) : List Org × Int × Int :=
  if schOk s ∧ 0 ≤ p ∧ p ≤ 65535 then (if (host h).2 = 0 then joinO os (some (s, (host h).1, p), []) else (os, 0, (host h).2)) else (os, 0, 7)
def opqO (os : List Org) : List Org × Int × Int := joinO os (none, [])
/-- What may be set, by the program and by the document. -/
def mayP (rs : List Rl) (v H : List (List UInt8)) : Bool := decide (dotted v = dotted H) || (suffixB (dotted H) (46 :: dotted v) && !decide (dotted v = lastP (dotted v) (pubI (prvl rs (dotted v)))))
def mayD (rs : List Rl) (v H : List (List UInt8)) : Bool := endsL H v && !(decide (v.length < H.length) && decide ((pubL v rs).1 = v.length))
theorem may_is {rs : List Rl} (hr : ∀ r ∈ rs, RlRt r) {v H : List (List UInt8)} (hv : HostOk v) (hH : HostOk H) : mayP rs v H = mayD rs v H := by
  have h1 := suf_iff hH hv
  have h2 := dotted_eq hv hH
  obtain ⟨p1, p2, p3⟩ := prvl_pub hv hr
  have hle := pubL_le hv.1 rs
  have hl : (dotted v = lastP (dotted v) (pubI (prvl rs (dotted v)))) ↔ (pubL v rs).1 = v.length := by
    rw [p1, lastP_is hv _ p3, if_pos hle]
    constructor
    · intro e
      have hne : v.drop (v.length - (pubL v rs).1) ≠ [] := fun e => by
        have := congrArg List.length e
        rw [List.length_drop, List.length_nil] at this
        omega
      have hx : ∀ x ∈ v, ∀ b ∈ x, b ≠ 46 := fun x hx b hb => plB_no46 ((hv.2.2.2 x hx).2 b hb)
      have := dotted_inj v _ hv.1 hne hx (fun x hx' => hx x (List.mem_of_mem_drop hx')) e
      have := congrArg List.length this
      rw [List.length_drop] at this
      omega
    · intro e
      rw [e, Nat.sub_self, List.drop_zero]
  unfold mayP mayD
  rw [Bool.eq_iff_iff]
  simp only [Bool.or_eq_true, Bool.and_eq_true, decide_eq_true_eq, Bool.not_eq_true', decide_eq_false_iff_not, Bool.and_eq_false_iff]
  rw [hl, h1, h2]
  constructor
  · rintro (e | ⟨⟨e1, e2⟩, e3⟩)
    · subst e
      refine ⟨by unfold endsL; simp, Or.inl (by omega)⟩
    · exact ⟨e1, Or.inr e3⟩
  · rintro ⟨e1, e2⟩
    by_cases hlt : v.length < H.length
    · right
      rcases e2 with e2 | e2
      · exact absurd hlt e2
      · exact ⟨⟨e1, hlt⟩, e2⟩
    · left
      unfold endsL at e1
      simp only [Bool.and_eq_true, decide_eq_true_eq] at e1
      have : H.length - v.length = 0 := by omega
      rw [this, List.drop_zero] at e1
      exact e1.2.symm
/-- DOMAIN. -/
def domO (rs : List Rl) (os : List Org) (n : Int) (v : List UInt8) : List Org × Int :=
  if 0 ≤ n ∧ n < os.length then (match os.getD n.toNat (none, []) with
    | (none, _) => (os, 8)
    | (some (s, H, p), _) => if (host v).2 = 0 then (if mayD rs (host v).1 H = true then (os.set n.toNat (some (s, H, p), dotted (host v).1), 0) else (os, 9)) else (os, (host v).2))
  else (os, 7)
/-- SITE, by the program and by the document. -/
def siteP (rs : List Rl) (o : Org) : List UInt8 := match o.1 with
  | none => opqB
  | some (s, H, _) => s ++ [58, 47, 47] ++ (if lastP (dotted H) (pubI (prvl rs (dotted H)) + 1) = [] then dotted H else lastP (dotted H) (pubI (prvl rs (dotted H)) + 1))
def siteD (rs : List Rl) (o : Org) : List UInt8 := match o.1 with
  | none => opqB
  | some (s, H, _) => s ++ [58, 47, 47] ++ (if H.length ≤ (pubL H rs).1 then dotted H else dotted (H.drop (H.length - (pubL H rs).1 - 1)))
theorem dotted_nil {h : List (List UInt8)} (h0 : h ≠ []) (hx : ∀ x ∈ h, x ≠ []) : dotted h ≠ [] := by
  intro e
  obtain ⟨x, r, rfl⟩ := List.exists_cons_of_ne_nil h0
  simp only [dotted, List.append_eq_nil_iff] at e
  exact hx x (by simp) e.1
theorem site_is {rs : List Rl} (hr : ∀ r ∈ rs, RlRt r) {o : Org} (ho : OrgOk o) : siteP rs o = siteD rs o := by
  obtain ⟨x, d⟩ := o
  cases x with
  | none => rfl
  | some t =>
    obtain ⟨s, H, p⟩ := t
    obtain ⟨_, hH, _⟩ := ho
    obtain ⟨p1, p2, p3⟩ := prvl_pub hH hr
    unfold siteP siteD
    simp only
    have e : ((pubL H rs).1 : Int) + 1 = (((pubL H rs).1 + 1 : Nat) : Int) := by omega
    rw [p1, e, lastP_is hH _ (by omega)]
    congr 1
    by_cases hl : H.length ≤ (pubL H rs).1
    · rw [if_pos hl, if_neg (show ¬ (pubL H rs).1 + 1 ≤ H.length by omega), if_pos rfl]
    · rw [if_neg hl, if_pos (show (pubL H rs).1 + 1 ≤ H.length by omega), if_neg]
      · congr 2
      · refine dotted_nil (fun e => ?_) (fun x hx => (hH.2.2.2 x (List.mem_of_mem_drop hx)).1)
        have := congrArg List.length e
        rw [List.length_drop, List.length_nil] at this
        omega
theorem site_opq {rs : List Rl} {o : Org} (ho : OrgOk o) : siteP rs o = opqB ↔ o.1 = none := by
  obtain ⟨x, d⟩ := o
  cases x with
  | none => exact ⟨fun _ => rfl, fun _ => rfl⟩
  | some t =>
    obtain ⟨s, H, p⟩ := t
    obtain ⟨hs, _⟩ := ho
    refine ⟨fun e => ?_, fun e => by cases e⟩
    exfalso
    unfold siteP at e
    simp only at e
    rcases hs with rfl | rfl
    · have := congrArg List.head? e
      simp [httpB, opqB] at this
    · have := congrArg List.head? e
      simp [httpsB, opqB] at this
/-- The three relations, by the program. -/
def schOf (o : Org) : List UInt8 := match o.1 with
  | none => []
  | some (s, _, _) => s
def relA (a b : Nat) (x y : Org) : Bool := decide (a = b) || (decide (x.1 ≠ none) && decide (x.1 = y.1))
def relB (a b : Nat) (x y : Org) : Bool := if x.2 = [] ∧ y.2 = [] then relA a b x y else decide (schOf x = schOf y) && decide (x.2 = y.2)
def relC (rs : List Rl) (a b : Nat) (x y : Org) : Bool := decide (a = b) || (decide (x.1 ≠ none) && decide (siteP rs x = siteP rs y))
/-- The same, by the document. -/
def relD (rs : List Rl) (a b : Nat) (x y : Org) : Bool × Bool × Bool := match x.1, y.1 with
  | some (s, H, p), some (s', H', p') => (decide (s = s') && decide (p = p') && decide (dotted H = dotted H'), (if x.2 ≠ [] ∨ y.2 ≠ [] then decide (s = s') && decide (x.2 = y.2) else decide (s = s') && decide (p = p') && decide (dotted H = dotted H')), decide (siteD rs x = siteD rs y))
  | _, _ => (decide (a = b), decide (a = b), decide (a = b))
theorem sch_ne {o : Org} (ho : OrgOk o) (h : o.1 ≠ none) : schOf o ≠ [] := by
  obtain ⟨x, d⟩ := o
  cases x with
  | none => exact absurd rfl h
  | some t =>
    obtain ⟨s, H, p⟩ := t
    rcases ho.1 with rfl | rfl
    · simp [schOf, httpB]
    · simp [schOf, httpsB]
theorem rel_is {rs : List Rl} (hr : ∀ r ∈ rs, RlRt r) {a b : Nat} {x y : Org} (hx : OrgOk x) (hy : OrgOk y) (hab : a = b → x = y) : (relA a b x y, relB a b x y, relC rs a b x y) = relD rs a b x y := by
  have sx := site_is hr hx
  have sy := site_is hr hy
  have ox := site_opq (rs := rs) hx
  have oy := site_opq (rs := rs) hy
  have qx := sch_ne hx
  have qy := sch_ne hy
  obtain ⟨ox1, xd⟩ := x
  obtain ⟨oy1, yd⟩ := y
  unfold relB relA relC relD
  cases ox1 with
  | none =>
    have hxd : xd = [] := hx
    subst hxd
    simp only
    cases oy1 with
    | none =>
      have hyd : yd = [] := hy
      subst hyd
      simp
    | some t =>
      obtain ⟨s, H, p⟩ := t
      have hne : a ≠ b := fun e => by have := hab e; cases this
      by_cases hyd : yd = []
      · subst hyd; simp [hne]
      · have := qy (by simp)
        simp only [schOf] at this ⊢
        simp [hne, hyd, Ne.symm this]
  | some t =>
    obtain ⟨s, H, p⟩ := t
    cases oy1 with
    | none =>
      have hyd : yd = [] := hy
      subst hyd
      have hne : a ≠ b := fun e => by have := hab e; cases this
      have hst : siteP rs (some (s, H, p), xd) ≠ siteP rs (none, []) := fun e => by
        rw [oy.2 rfl] at e
        have := ox.1 e
        cases this
      by_cases hxd : xd = []
      · subst hxd; simp [hne, hst]
      · have := qx (by simp)
        simp only [schOf] at this ⊢
        simp [hne, hxd, hst]
    | some t' =>
      obtain ⟨s', H', p'⟩ := t'
      have hH : HostOk H := hx.2.1
      have hH' : HostOk H' := hy.2.1
      have hdd := dotted_eq hH hH'
      simp only
      rw [← sx, ← sy]
      have hA : (decide (a = b) || (decide (some (s, H, p) ≠ none) && decide (some (s, H, p) = some (s', H', p')))) = (decide (s = s') && decide (p = p') && decide (dotted H = dotted H')) := by
        rw [Bool.eq_iff_iff]
        simp only [Bool.or_eq_true, Bool.and_eq_true, decide_eq_true_eq, Option.some.injEq, Prod.mk.injEq, hdd]
        constructor
        · rintro (e | ⟨_, e1, e2, e3⟩)
          · have := hab e
            simp only [Prod.mk.injEq, Option.some.injEq] at this
            exact ⟨⟨this.1.1, this.1.2.2⟩, this.1.2.1⟩
          · exact ⟨⟨e1, e3⟩, e2⟩
        · rintro ⟨⟨e1, e3⟩, e2⟩
          exact Or.inr ⟨by simp, e1, e2, e3⟩
      rw [hA]
      simp only [Prod.mk.injEq, true_and]
      refine ⟨?_, ?_⟩
      · by_cases hd : xd = [] ∧ yd = []
        · rw [if_pos hd, if_neg (by rw [hd.1, hd.2]; simp)]
        · rw [if_neg hd, if_pos (by
            by_cases e : xd = []
            · exact Or.inr (fun e2 => hd ⟨e, e2⟩)
            · exact Or.inl e)]
          rfl
      · rw [Bool.eq_iff_iff]
        simp only [Bool.or_eq_true, Bool.and_eq_true, decide_eq_true_eq]
        constructor
        · rintro (e | ⟨_, e⟩)
          · rw [hab e]
          · exact e
        · intro e
          exact Or.inr ⟨by simp, e⟩
/-- RELATIONS, of the pure answers. -/
theorem relA_symm (a b : Nat) (x y : Org) : relA a b x y = relA b a y x := by
  unfold relA
  rw [Bool.eq_iff_iff]
  simp only [Bool.or_eq_true, Bool.and_eq_true, decide_eq_true_eq]
  constructor
  · rintro (e | ⟨e1, e2⟩)
    · exact Or.inl e.symm
    · exact Or.inr ⟨e2 ▸ e1, e2.symm⟩
  · rintro (e | ⟨e1, e2⟩)
    · exact Or.inl e.symm
    · exact Or.inr ⟨e2 ▸ e1, e2.symm⟩
theorem relB_symm (a b : Nat) (x y : Org) : relB a b x y = relB b a y x := by
  unfold relB
  by_cases h : x.2 = [] ∧ y.2 = []
  · rw [if_pos h, if_pos ⟨h.2, h.1⟩]; exact relA_symm a b x y
  · rw [if_neg h, if_neg (fun e => h ⟨e.2, e.1⟩), Bool.eq_iff_iff]
    simp only [Bool.and_eq_true, decide_eq_true_eq]
    exact ⟨fun e => ⟨e.1.symm, e.2.symm⟩, fun e => ⟨e.1.symm, e.2.symm⟩⟩
theorem relC_symm {rs : List Rl} {a b : Nat} {x y : Org} (hx : OrgOk x) (hy : OrgOk y) : relC rs a b x y = relC rs b a y x := by
  have ox := site_opq (rs := rs) hx
  have oy := site_opq (rs := rs) hy
  unfold relC
  rw [Bool.eq_iff_iff]
  simp only [Bool.or_eq_true, Bool.and_eq_true, decide_eq_true_eq]
  constructor
  · rintro (e | ⟨e1, e2⟩)
    · exact Or.inl e.symm
    · exact Or.inr ⟨fun e => e1 (ox.1 (by rw [e2]; exact oy.2 e)), e2.symm⟩
  · rintro (e | ⟨e1, e2⟩)
    · exact Or.inl e.symm
    · exact Or.inr ⟨fun e => e1 (oy.1 (by rw [e2]; exact ox.2 e)), e2.symm⟩
theorem relA_trans {a b c : Nat} {x y z : Org} (hab : a = b → x = y) (hbc : b = c → y = z) (h1 : relA a b x y = true) (h2 : relA b c y z = true) : relA a c x z = true := by
  unfold relA at *
  simp only [Bool.or_eq_true, Bool.and_eq_true, decide_eq_true_eq] at *
  rcases h1 with e | ⟨e1, e2⟩
  · subst e; rw [hab rfl]; exact h2
  · rcases h2 with f | ⟨f1, f2⟩
    · subst f; rw [← hbc rfl]; exact Or.inr ⟨e1, e2⟩
    · exact Or.inr ⟨e1, e2.trans f2⟩
theorem relB_trans {a b c : Nat} {x y z : Org} (hab : a = b → x = y) (hbc : b = c → y = z) (h1 : relB a b x y = true) (h2 : relB b c y z = true) : relB a c x z = true := by
  unfold relB at *
  by_cases dx : x.2 = [] <;> by_cases dy : y.2 = [] <;> by_cases dz : z.2 = []
  · rw [if_pos ⟨dx, dy⟩] at h1
    rw [if_pos ⟨dy, dz⟩] at h2
    rw [if_pos ⟨dx, dz⟩]
    exact relA_trans hab hbc h1 h2
  · rw [if_neg (fun e => dz e.2)] at h2
    simp only [Bool.and_eq_true, decide_eq_true_eq] at h2
    exact absurd (h2.2 ▸ dy) dz
  · rw [if_neg (fun e => dy e.2)] at h1
    simp only [Bool.and_eq_true, decide_eq_true_eq] at h1
    exact absurd (h1.2 ▸ dx) dy
  · rw [if_neg (fun e => dy e.2)] at h1
    simp only [Bool.and_eq_true, decide_eq_true_eq] at h1
    exact absurd (h1.2 ▸ dx) dy
  · rw [if_neg (fun e => dx e.1)] at h1
    simp only [Bool.and_eq_true, decide_eq_true_eq] at h1
    exact absurd (h1.2 ▸ dy) dx
  · rw [if_neg (fun e => dx e.1)] at h1
    simp only [Bool.and_eq_true, decide_eq_true_eq] at h1
    exact absurd (h1.2 ▸ dy) dx
  · rw [if_neg (fun e => dy e.1)] at h2
    simp only [Bool.and_eq_true, decide_eq_true_eq] at h2
    exact absurd (h2.2 ▸ dz) dy
  · rw [if_neg (fun e => dx e.1)] at h1 ⊢
    rw [if_neg (fun e => dy e.1)] at h2
    simp only [Bool.and_eq_true, decide_eq_true_eq] at h1 h2 ⊢
    exact ⟨h1.1.trans h2.1, h1.2.trans h2.2⟩
theorem relC_trans {rs : List Rl} {a b c : Nat} {x y z : Org} (hab : a = b → x = y) (hbc : b = c → y = z) (h1 : relC rs a b x y = true) (h2 : relC rs b c y z = true) : relC rs a c x z = true := by
  unfold relC at *
  simp only [Bool.or_eq_true, Bool.and_eq_true, decide_eq_true_eq] at *
  rcases h1 with e | ⟨e1, e2⟩
  · subst e; rw [hab rfl]; exact h2
  · rcases h2 with f | ⟨f1, f2⟩
    · subst f; rw [← hbc rfl]; exact Or.inr ⟨e1, e2⟩
    · exact Or.inr ⟨e1, e2.trans f2⟩
theorem relA_C {rs : List Rl} {a b : Nat} {x y : Org} (h : relA a b x y = true) : relC rs a b x y = true := by
  unfold relA at h
  unfold relC
  simp only [Bool.or_eq_true, Bool.and_eq_true, decide_eq_true_eq] at *
  rcases h with e | ⟨e1, e2⟩
  · exact Or.inl e
  · refine Or.inr ⟨e1, ?_⟩
    unfold siteP
    rw [e2]
theorem relC_site {rs : List Rl} {a b : Nat} {x y : Org} (hx : OrgOk x) (hab : a = b → x = y) : relC rs a b x y = (decide (siteP rs x = siteP rs y) && (decide (siteP rs x ≠ opqB) || decide (a = b))) := by
  have ox := site_opq (rs := rs) hx
  unfold relC
  rw [Bool.eq_iff_iff]
  simp only [Bool.or_eq_true, Bool.and_eq_true, decide_eq_true_eq, ne_eq, ox]
  constructor
  · rintro (e | ⟨e1, e2⟩)
    · exact ⟨by rw [hab e], Or.inr e⟩
    · exact ⟨e2, Or.inl e1⟩
  · rintro ⟨e1, e2 | e2⟩
    · exact Or.inr ⟨e2, e1⟩
    · exact Or.inl e2
theorem rel_self (rs : List Rl) (a : Nat) (x : Org) : relA a a x x = true ∧ relB a a x x = true ∧ relC rs a a x x = true := by
  refine ⟨by simp [relA], ?_, by simp [relC]⟩
  unfold relB
  split
  · simp [relA]
  · simp
/-- Origins stay as origins are. -/
theorem joinO_ok {os : List Org} {o : Org} (h : ∀ x ∈ os, OrgOk x) (ho : OrgOk o) : ∀ x ∈ (joinO os o).1, OrgOk x := by
  unfold joinO
  split
  · exact h
  · intro x hx
    rcases List.mem_append.1 hx with hx | hx
    · exact h x hx
    · rw [List.mem_singleton.1 hx]; exact ho
theorem tupO_ok {os : List Org} (s h : List UInt8) (p : Int) (ho : ∀ x ∈ os, OrgOk x) : ∀ x ∈ (tupO os s h p).1, OrgOk x := by
  unfold tupO
  split
  · rename_i hc
    split
    · rename_i hh
      exact joinO_ok ho ⟨hc.1, host_ok h hh, hc.2.1, hc.2.2⟩
    · exact ho
  · exact ho
theorem domO_ok {rs : List Rl} {os : List Org} (n : Int) (v : List UInt8) (ho : ∀ x ∈ os, OrgOk x) : ∀ x ∈ (domO rs os n v).1, OrgOk x := by
  unfold domO
  split
  · rename_i hn
    have hlt : n.toNat < os.length := by omega
    have hg : os.getD n.toNat (none, []) = os[n.toNat] := by rw [List.getD_eq_getElem?_getD, List.getElem?_eq_getElem hlt]; rfl
    have hmem := ho _ (List.getElem_mem hlt)
    rw [hg]
    split
    · exact ho
    · rename_i s H p d he
      rw [he] at hmem
      split
      · split
        · intro x hx
          rcases List.mem_or_eq_of_mem_set hx with hx | hx
          · exact ho x hx
          · rw [hx]; exact hmem
        · exact ho
      · exact ho
  · exact ho
end Go.Proofs.YtgohllfpceeboabGreatDoor
