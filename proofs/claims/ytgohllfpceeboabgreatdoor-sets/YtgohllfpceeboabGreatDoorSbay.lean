import Derived.Test.YtgohllfpceeboabGreatDoorSbas
import Derived.Test.YtgohllfpceeboabGreatDoorSbaa
import Derived.Test.YtgohllfpceeboabGreatDoorSbal
import Derived.Test.YtgohllfpceeboabGreatDoorSbap
import Derived.Test.YtgohllfpceeboabGreatDoorSbar
import Derived.Test.YtgohllfpceeboabGreatDoorSbat
import Derived.Test.YtgohllfpceeboabGreatDoorSbau
import Derived.Test.YtgohllfpceeboabGreatDoorSbax
import Derived.Test.YtgohllfpceeboabGreatDoorSbak
import Derived.Test.YtgohllfpceeboabGreatDoorSbav
import Derived.Test.YtgohllfpceeboabGreatDoorProg
namespace Sx
/-- The words along the ways, however many steps are allowed. -/
theorem edgF_wdsM (k : Nat) : ∀ (n : Nat) (tab : List (List Edg)) (l : List Wd), OkF n l → Closed tab → wds (n + k) (edgF n tab l).1 (edgF n tab l).2 = l
  | 0, _, _, h, _ => absurd h (by simp [OkF])
  | n + 1, tab, l, ho, hc => by
    have fold : ∀ (gs : List (UInt8 × List Wd)) (tab : List (List Edg)) (es : List Edg) (done : List (UInt8 × List Wd)), (∀ g ∈ gs, OkF n g.2) → Closed tab → (∀ e ∈ es, e.2 < tab.length) → es.map (fun e => (e.1, wds (n + k) tab e.2)) = done →
        Closed (gs.foldl (edgE n) (tab, es)).1 ∧ (∀ e ∈ (gs.foldl (edgE n) (tab, es)).2, e.2 < (gs.foldl (edgE n) (tab, es)).1.length) ∧ (gs.foldl (edgE n) (tab, es)).2.map (fun e => (e.1, wds (n + k) (gs.foldl (edgE n) (tab, es)).1 e.2)) = done ++ gs := by
      intro gs
      induction gs with
      | nil => intro tab es done _ h1 h2 h3; exact ⟨h1, h2, by simpa using h3⟩
      | cons g gs ih =>
        intro tab es done hg h1 h2 h3
        obtain ⟨a1, a2, a3, a4⟩ := edgF_len n tab g.2 (hg g (by simp)) h1
        have a5 := edgF_wdsM k n tab g.2 (hg g (by simp)) h1
        obtain ⟨ext, hx⟩ := edgF_ext n tab g.2
        have h4 : (es ++ [(g.1, (edgF n tab g.2).2)]).map (fun e => (e.1, wds (n + k) (edgF n tab g.2).1 e.2)) = done ++ [g] := by
          rw [List.map_append]
          congr 1
          · rw [← h3]
            apply List.map_congr_left
            intro e he
            rw [hx, wds_ext h1 ext (n + k) e.2 (h2 e he)]
          · simp only [List.map_cons, List.map_nil, a5]
        have := ih (edgF n tab g.2).1 (es ++ [(g.1, (edgF n tab g.2).2)]) (done ++ [g]) (fun y hy => hg y (by simp [hy])) a4 (fun e he => by
          rcases List.mem_append.1 he with he | he
          · have := h2 e he; omega
          · rw [List.mem_singleton.1 he]; exact a3) h4
        rw [List.foldl_cons, show edgE n (tab, es) g = ((edgF n tab g.2).1, es ++ [(g.1, (edgF n tab g.2).2)]) from rfl]
        refine ⟨this.1, this.2.1, ?_⟩
        rw [this.2.2]
        simp
    obtain ⟨f1, f2, f3⟩ := fold (grp l) tab [] [] ho.2 hc (by simp) rfl
    rw [List.nil_append] at f3
    have key : ∀ (T : List (List Edg)) (i : Nat), T[i]? = some ((grp l).foldl (edgE n) (tab, [])).2 → (∀ e ∈ ((grp l).foldl (edgE n) (tab, [])).2, wds (n + k) T e.2 = wds (n + k) ((grp l).foldl (edgE n) (tab, [])).1 e.2) → wds (n + 1 + k) T i = l := by
      intro T i hT hw
      rw [show n + 1 + k = (n + k) + 1 by omega]
      unfold wds
      rw [hT]
      rcases ho.1 with rfl | ⟨_, hne⟩
      · have : ((grp [[]]).foldl (edgE n) (tab, [])).2 = [] := rfl
        rw [this]
      · have hu := ungrp_grp l hne
        cases hE : ((grp l).foldl (edgE n) (tab, [])).2 with
        | nil =>
          rw [hE] at f3
          simp only [List.map_nil] at f3
          rw [← f3] at hu
          exfalso
          have h0 : l = [] := by rw [← hu]; rfl
          rcases ho.1 with h | h
          · rw [h] at h0; cases h0
          · exact h.1 h0
        | cons e es =>
          simp only
          rw [hE] at f3 hw
          conv => rhs; rw [← hu, ← f3]
          unfold ungrp
          rw [List.flatMap_map, List.flatMap_def, List.flatMap_def]
          congr 1
          apply List.map_congr_left
          intro x hx
          rw [hw x hx]
    rw [edgF_succ]
    cases hp : posOf ((grp l).foldl (edgE n) (tab, [])).2 ((grp l).foldl (edgE n) (tab, [])).1 with
    | some i => exact key _ _ (posOf_get _ _ _ hp) (fun _ _ => rfl)
    | none =>
      refine key _ _ ?_ (fun e he => wds_ext f1 _ (n + k) e.2 (f2 e he))
      simp
theorem wds_more {f : Nat} {tab : List (List Edg)} {s : Nat} {es : List Edg} (h : tab[s]? = some es) (h0 : es ≠ []) : wds (f + 1) tab s = es.flatMap fun e => (wds f tab e.2).map (e.1 :: ·) := by
  cases es with
  | nil => exact absurd rfl h0
  | cons e es =>
    conv => lhs; unfold wds
    rw [h]
theorem wds_last {f : Nat} {tab : List (List Edg)} {s : Nat} (h : tab[s]? = some []) : wds (f + 1) tab s = [[]] := by
  unfold wds
  rw [h]
theorem img_readsM (k : Nat) {rs : List Rl} (h : RlsOk rs) (h0 : rs ≠ []) : wds (64 + k) (tabOf rs) ((tabOf rs).length - 1) = sortW (rs.map rlKey) ∧ Ordered (tabOf rs) ∧ ∀ es ∈ tabOf rs, es.length ≤ 30 := by
  have hk := (keys_ok h h0).1
  have hlen : (sortW (rs.map rlKey)).length = rs.length := by
    have := sortW_length (rs.map rlKey) []
    unfold sortW
    rw [this, List.length_map]; rfl
  have hmany := h.many
  have htab : tabOf rs = (edgF 64 [] (sortW (rs.map rlKey))).1 := by unfold tabOf; rw [if_neg h0]
  obtain ⟨o1, o2⟩ := edgF_ordered 64 [] (sortW (rs.map rlKey)) 30 hk (by omega) (by intro i es hi; simp at hi) (by simp)
  have hf := edgF_first hk
  have hw := edgF_wdsM k 64 [] (sortW (rs.map rlKey)) hk (by intro es hes; simp at hes)
  rw [← htab] at hf hw o1 o2
  refine ⟨?_, o1, o2⟩
  rw [show (tabOf rs).length - 1 = (edgF 64 [] (sortW (rs.map rlKey))).2 by omega]
  exact hw
theorem splB_dotted : ∀ (h : List (List UInt8)), h ≠ [] → (∀ x ∈ h, ∀ b ∈ x, b ≠ 46) → splB (dotted h) [] = h
  | [], n, _ => absurd rfl n
  | [x], _, h => by
    have := splB_no x [] [] (h x (by simp))
    rw [List.append_nil] at this
    rw [show dotted [x] = x by simp [dotted], this]
    simp [splB]
  | x :: y :: r, _, h => by
    have ih := splB_dotted (y :: r) (by simp) (fun z hz => h z (by simp [hz]))
    rw [dotted_cons, splB_no x _ _ (h x (by simp))]
    simp only [List.nil_append]
    rw [splB, if_pos rfl, ih]
/-- A rule that is right: its host is one, in plain form. -/
def RlRt (r : Rl) : Prop := host (dotted r.1) = (r.1, 0) ∧ isKd r.2.1 ∧ (r.2.1 = 33 → 1 < r.1.length) ∧ (r.2.2 = 105 ∨ r.2.2 = 112)
theorem RlRt.ok {r : Rl} (h : RlRt r) : RlOk r := by
  have := host_ok (dotted r.1) (by rw [h.1])
  rw [h.1] at this
  exact ⟨this, h.2.1⟩
/-- Rules that are right and apart. -/
structure RlsRt (rs : List Rl) : Prop where
  ok : ∀ r ∈ rs, RlRt r
  apart : rs.Pairwise fun a b => ¬ (a.1 = b.1 ∧ a.2.1 = b.2.1)
  many : rs.length ≤ 30
theorem RlsRt.rls {rs : List Rl} (h : RlsRt rs) : RlsOk rs := ⟨fun r hr => (h.ok r hr).ok, h.apart, h.many⟩
theorem known_iff {rs : List Rl} {r : Rl} (h : ∀ q ∈ rs, RlOk q) (hr : RlOk r) : known rs r = true ↔ ∃ q ∈ rs, q.1 = r.1 ∧ q.2.1 = r.2.1 := by
  unfold known
  rw [List.any_eq_true]
  constructor
  · rintro ⟨q, hq, e⟩
    simp only [Bool.and_eq_true, decide_eq_true_eq] at e
    have a := (h q hq).1
    have b := hr.1
    exact ⟨q, hq, dotted_inj _ _ a.1 b.1 (fun x hx c hc => plB_no46 ((a.2.2.2 x hx).2 c hc)) (fun x hx c hc => plB_no46 ((b.2.2.2 x hx).2 c hc)) e.1, e.2⟩
  · rintro ⟨q, hq, e1, e2⟩
    exact ⟨q, hq, by simp [e1, e2]⟩
end Sx
namespace Go.Proofs.YtgohllfpceeboabGreatDoor
theorem pcs_revL (r : List UInt8) : (pcs r).reverse = Sx.splB r [] := pcs_rev r.length r (Nat.le_refl _)
open Sx
theorem rkOf_is (h : List UInt8) (k sec : UInt8) : rkOf (h ++ [k, sec]) = keyRl (h ++ [k, sec]) h k sec := by
  unfold rkOf
  have : (h ++ [k, sec]).reverse = sec :: k :: h.reverse := by simp
  rw [this]
  simp
theorem nwRl_rt {k : UInt8} {s : List UInt8} {sec : UInt8} {r : Rl} (hk : k = 36 ∨ k = 42 ∨ k = 33) (hs : sec = 105 ∨ sec = 112) (h : nwRl k s sec = some r) : RlRt r := by
  unfold nwRl at h
  split at h
  · rename_i hc
    obtain rfl := Option.some.inj h
    exact ⟨host_again hc.1, hk, hc.2, hs⟩
  · cases h
/-- A rule that was told of a key is right, and has that key. -/
theorem rkOf_some {key : List UInt8} {r : Rl} (h : rkOf key = some r) : RlRt r ∧ rlKey r = key := by
  unfold rkOf at h
  split at h
  · rename_i sec k q hq
    unfold keyRl at h
    split at h
    · rename_i hc
      obtain ⟨h1, h2⟩ := Option.filter_eq_some_iff.1 h
      exact ⟨nwRl_rt hc.1 hc.2 h1, by simpa using h2⟩
    · cases h
  · cases h
/-- A right rule's key tells the rule. -/
theorem rkOf_key {r : Rl} (h : RlRt r) : rkOf (rlKey r) = some r := by
  obtain ⟨H, k, sec⟩ := r
  have hok := h.ok.1
  obtain ⟨h1, h2, h3, h4⟩ := h
  dsimp only at h1 h2 h3 h4 hok
  unfold Sx.rlKey Sx.keyOf
  dsimp only
  rw [rkOf_is]
  have hp : pcs (dotted H.reverse) = H := by
    have := pcs_revL (dotted H.reverse)
    rw [splB_dotted H.reverse (by simpa using hok.1) (fun x hx b hb => plB_no46 ((hok.2.2.2 x (by simpa using hx)).2 b hb))] at this
    simpa using this
  unfold keyRl
  rw [if_pos ⟨h2, h4⟩, hp]
  unfold nwRl
  rw [h1]
  simp only
  rw [if_pos ⟨trivial, h3⟩]
  exact Option.filter_eq_some_iff.2 ⟨rfl, by simp [Sx.rlKey, Sx.keyOf]⟩
theorem addRl_rt {rs : List Rl} {r : Rl} (h : RlsRt rs) (hr : RlRt r) : RlsRt (addRl rs r).1 := by
  unfold addRl
  split
  · exact h
  · rename_i hk
    split
    · exact h
    · rename_i hm
      refine ⟨fun q hq => ?_, ?_, ?_⟩
      · rcases List.mem_append.1 hq with hq | hq
        · exact h.ok q hq
        · rw [List.mem_singleton.1 hq]; exact hr
      · rw [List.pairwise_append]
        refine ⟨h.apart, by simp, fun a ha b hb => ?_⟩
        rw [List.mem_singleton.1 hb]
        exact fun e => hk ((known_iff (fun q hq => (h.ok q hq).ok) hr.ok).2 ⟨a, ha, e⟩)
      · have := h.many
        simp only [List.length_append, List.length_singleton]
        omega
theorem tkR_rt {rs : List Rl} (key : List UInt8) (h : RlsRt rs) : RlsRt (tkR rs key).1 := by
  unfold tkR
  cases hk : rkOf key with
  | none => exact h
  | some r => exact addRl_rt h (rkOf_some hk).1
/-- Keys taken, one by one, up to the first that is refused. -/
def tks (rs : List Rl) (b : Bool) (ws : List Wd) : List Rl × Bool := ws.foldl (fun acc w => if acc.2 = true then tkR acc.1 w else acc) (rs, b)
theorem tks_rt : ∀ (ws : List Wd) (rs : List Rl) (b : Bool), RlsRt rs → RlsRt (tks rs b ws).1
  | [], _, _, h => h
  | w :: ws, rs, b, h => by
    unfold tks
    rw [List.foldl_cons]
    cases b with
    | false => exact tks_rt ws rs false h
    | true => exact tks_rt ws (tkR rs w).1 (tkR rs w).2 (tkR_rt w h)
theorem tks_app (rs : List Rl) (b : Bool) (u v : List Wd) : tks rs b (u ++ v) = tks (tks rs b u).1 (tks rs b u).2 v := by unfold tks; rw [List.foldl_append]
theorem kfF_wds {tab : List (List Edg)} (ho : Ordered tab) : ∀ (n m s : Nat) (beg : List UInt8) (rs : List Rl), s < tab.length → s < n → s < m → kfF n tab s beg rs = tks rs true ((wds m tab s).map (beg ++ ·))
  | 0, _, _, _, _, _, h, _ => absurd h (by omega)
  | n + 1, 0, _, _, _, _, _, h => absurd h (by omega)
  | n + 1, m + 1, s, beg, rs, hs, hn, hm => by
    obtain ⟨es, hes⟩ : ∃ es, tab[s]? = some es := ⟨_, List.getElem?_eq_getElem hs⟩
    obtain ⟨o1, o2⟩ := ho s es hes
    by_cases h0 : s = 0
    · have e : kfF (n + 1) tab s beg rs = if s = 0 then tkR rs beg else ((tab[s]?).getD []).foldl (fun acc e => if acc.2 = true then kfF n tab e.2 (beg ++ [e.1]) acc.1 else acc) (rs, true) := rfl
      rw [e, if_pos h0, wds_last (by rw [hes, o1.2 h0])]
      simp [tks]
    · rw [kfF_more n tab s beg rs es h0 hes, wds_more hes (fun e => h0 (o1.1 e))]
      have : ∀ (l : List Edg) (acc : List Rl) (b : Bool), (∀ e ∈ l, e.2 < s) → l.foldl (fun acc e => if acc.2 = true then kfF n tab e.2 (beg ++ [e.1]) acc.1 else acc) (acc, b) = tks acc b ((l.flatMap fun e => (wds m tab e.2).map (e.1 :: ·)).map (beg ++ ·)) := by
        intro l
        induction l with
        | nil => intro acc b _; rfl
        | cons e l ih =>
          intro acc b hl
          have hes := hl e (by simp)
          rw [List.foldl_cons, List.flatMap_cons, List.map_append, tks_app]
          have hone : (if b = true then kfF n tab e.2 (beg ++ [e.1]) acc else (acc, b)) = tks acc b (((wds m tab e.2).map (e.1 :: ·)).map (beg ++ ·)) := by
            cases b with
            | false =>
              have : ∀ ws : List Wd, tks acc false ws = (acc, false) := by
                intro ws
                unfold tks
                exact fold_stop _ _ _
              rw [this]; rfl
            | true =>
              rw [if_pos rfl, kfF_wds ho n m e.2 (beg ++ [e.1]) acc (by omega) (by omega) (by omega), List.map_map]
              congr 1
              apply List.map_congr_left
              intro w _
              simp
          dsimp only
          rw [hone]
          obtain ⟨a1, a2⟩ := tks acc b (((wds m tab e.2).map (e.1 :: ·)).map (beg ++ ·))
          exact ih a1 a2 (fun x hx => hl x (by simp [hx]))
      exact this es rs true o2
theorem kfA_wds {tab : List (List Edg)} (ho : Ordered tab) (h0 : tab ≠ []) (k : Nat) (rs : List Rl) (hk : tab.length ≤ k) : kfA tab rs = (tks rs true (wds k tab (tab.length - 1))).1 := by
  have hp : 0 < tab.length := List.length_pos_iff.2 h0
  unfold kfA
  rw [if_neg h0, kfF_wds ho tab.length k (tab.length - 1) [] rs (by omega) (by omega) (by omega)]
  simp
/-- Keys of right rules, apart, are all taken. -/
theorem tks_keys : ∀ (rs acc : List Rl), RlsRt (acc ++ rs) → tks acc true (rs.map rlKey) = (acc ++ rs, true)
  | [], acc, _ => by simp [tks]
  | r :: rs, acc, h => by
    have hr : RlRt r := h.ok r (by simp)
    have h1 : tkR acc (rlKey r) = (acc ++ [r], true) := by
      unfold tkR
      rw [rkOf_key hr]
      show ((addRl acc r).1, decide ((addRl acc r).2 = 0)) = _
      unfold addRl
      rw [if_neg, if_neg]
      · rfl
      · have := h.many
        simp only [List.length_append, List.length_cons] at this
        omega
      · intro hk
        obtain ⟨q, hq, e⟩ := (known_iff (fun q hq => (h.ok q (by simp [hq])).ok) hr.ok).1 hk
        exact (List.pairwise_append.1 h.apart).2.2 q hq r (by simp) e
    have ih := tks_keys rs (acc ++ [r]) (by simpa using h)
    show tks (if true = true then tkR acc (rlKey r) else (acc, true)).1 (if true = true then tkR acc (rlKey r) else (acc, true)).2 (rs.map rlKey) = _
    rw [if_pos rfl, h1, ih]
    simp
end Go.Proofs.YtgohllfpceeboabGreatDoor

namespace Go.Proofs.YtgohllfpceeboabGreatDoor
open Sx
theorem insW_perm (x : Wd) (m : List Wd) : (insW x m).Perm (x :: m) := by
  unfold insW
  refine List.perm_middle.trans (List.Perm.cons x ?_)
  rw [List.takeWhile_append_dropWhile]
theorem sortW_permG : ∀ (l m : List Wd), (l.foldl (fun m x => insW x m) m).Perm (l ++ m)
  | [], m => by simp
  | x :: l, m => by
    rw [List.foldl_cons]
    refine (sortW_permG l (insW x m)).trans ?_
    refine ((insW_perm x m).append_left l).trans ?_
    exact List.perm_middle
theorem sortW_perm (l : List Wd) : (sortW l).Perm l := by
  have := sortW_permG l []
  simpa [sortW] using this
theorem _root_.Sx.RlsRt.perm {rs rs' : List Rl} (h : RlsRt rs) (hp : rs'.Perm rs) : RlsRt rs' := by
  refine ⟨fun r hr => h.ok r (hp.mem_iff.1 hr), ?_, by rw [hp.length_eq]; exact h.many⟩
  exact hp.symm.pairwise h.apart (fun hab e => hab ⟨e.1.symm, e.2.symm⟩)
/-- Rules in the order of their keys. -/
def srt (rs : List Rl) : List Rl := (sortW (rs.map rlKey)).filterMap rkOf
theorem back_keys : ∀ {rs : List Rl}, (∀ r ∈ rs, RlRt r) → (rs.map rlKey).filterMap rkOf = rs
  | [], _ => rfl
  | r :: rs, h => by
    rw [List.map_cons, List.filterMap_cons, rkOf_key (h r (by simp))]
    simp only
    rw [back_keys (fun q hq => h q (by simp [hq]))]
theorem keys_back : ∀ {ws : List Wd}, (∀ w ∈ ws, ∃ r, RlRt r ∧ rlKey r = w) → (ws.filterMap rkOf).map rlKey = ws
  | [], _ => rfl
  | w :: ws, h => by
    obtain ⟨r, h1, h2⟩ := h w (by simp)
    rw [List.filterMap_cons, ← h2, rkOf_key h1]
    simp only [List.map_cons]
    rw [keys_back (fun v hv => h v (by simp [hv]))]
theorem srt_perm {rs : List Rl} (h : ∀ r ∈ rs, RlRt r) : (srt rs).Perm rs := by
  have := (sortW_perm (rs.map rlKey)).filterMap rkOf
  rwa [back_keys h] at this
theorem srt_keys {rs : List Rl} (h : ∀ r ∈ rs, RlRt r) : (srt rs).map rlKey = sortW (rs.map rlKey) :=
  keys_back fun w hw => by
    obtain ⟨r, hr, rfl⟩ := List.mem_map.1 ((sortW_perm _).mem_iff.1 hw)
    exact ⟨r, h r hr, rfl⟩
theorem rlsRt_srt {rs : List Rl} (h : RlsRt rs) : RlsRt (srt rs) := h.perm (srt_perm h.ok)
theorem _root_.Sx.RlsRt.nodup {rs : List Rl} (h : RlsRt rs) : (rs.map rlKey).Nodup := free_nodup (keys_free h.rls.ok h.apart)
theorem sortW_again {l : List Wd} (h : l.Nodup) : sortW (sortW l) = sortW l := by
  have h1 := sortW_ok l h
  have h2 : (sortW l).Nodup := (sortW_perm l).nodup_iff.2 h
  exact (sortW_one (sortW l) (sortW l) h2 h1.1 (fun _ => Iff.rfl)).symm
/-- Whose rules an image tells. -/
structure Img (b : List UInt8) (rs : List Rl) : Prop where
  rt : RlsRt rs
  rise : sortW (rs.map rlKey) = rs.map rlKey
  is : imgT (tabOf rs) = b
theorem srt_nil {rs : List Rl} (h : RlsRt rs) : srt rs = [] ↔ rs = [] := by
  have := (srt_perm h.ok).length_eq
  constructor
  · intro e; rw [e] at this; exact List.eq_nil_of_length_eq_zero this.symm
  · intro e; subst e; exact List.eq_nil_of_length_eq_zero this
theorem img_srt {rs : List Rl} (h : RlsRt rs) : Img (imgT (tabOf rs)) (srt rs) := by
  have hk := srt_keys h.ok
  refine ⟨rlsRt_srt h, by rw [hk, sortW_again h.nodup], ?_⟩
  unfold tabOf
  rw [hk, sortW_again h.nodup]
  by_cases h0 : rs = []
  · rw [if_pos h0, if_pos ((srt_nil h).2 h0)]
  · rw [if_neg h0, if_neg (fun e => h0 ((srt_nil h).1 e))]
/-- What an image tells of its rules; the error. -/
def opn (b : List UInt8) : List Rl × Int := if 8000 < b.length then ([], 1) else match rdImg b with
  | none => ([], 6)
  | some tab => if imgT (tabOf (kfA tab [])) = b then (kfA tab [], 0) else ([], 6)
theorem rlsRt_nil : RlsRt [] := ⟨by simp, by simp, by simp⟩
theorem rdImg_ord {b : List UInt8} {tab : List (List Edg)} (h : rdImg b = some tab) : Ordered tab := by
  have key : ∀ (m n : Nat) (b : List UInt8) (t : List (List Edg)), rdTab m n b = some t → ∀ i es, t[i]? = some es → (es = [] ↔ n + i = 0) ∧ ∀ e ∈ es, e.2 < n + i := by
    intro m
    induction m with
    | zero =>
      intro n b t ht i es hi
      unfold rdTab at ht
      split at ht
      · obtain rfl := Option.some.inj ht; simp at hi
      · cases ht
    | succ m ih =>
      intro n b t ht i es hi
      cases b with
      | nil => simp [rdTab] at ht
      | cons k r =>
        simp only [rdTab] at ht
        split at ht
        · cases ht
        · rename_i es' r' he
          split at ht
          · rename_i hc
            obtain ⟨t', h1, rfl⟩ := Option.map_eq_some_iff.1 ht
            cases i with
            | zero =>
              simp only [List.getElem?_cons_zero, Option.some.injEq] at hi
              subst hi
              exact hc
            | succ i =>
              rw [List.getElem?_cons_succ] at hi
              have := ih (n + 1) r' t' h1 i es hi
              rw [show n + 1 + i = n + (i + 1) by omega] at this
              exact this
          · cases ht
  unfold rdImg at h
  split at h
  · intro i es hi
    have := key _ _ _ _ h i es hi
    rwa [Nat.zero_add] at this
  · cases h
theorem kfA_rt {tab : List (List Edg)} (ho : Ordered tab) : RlsRt (kfA tab []) := by
  by_cases h0 : tab = []
  · unfold kfA; rw [if_pos h0]; exact rlsRt_nil
  · rw [kfA_wds ho h0 tab.length [] (Nat.le_refl _)]
    exact tks_rt _ _ _ rlsRt_nil
/-- Images of right rules are read. -/
theorem img_read {b : List UInt8} {rs : List Rl} (h : Img b rs) : ∃ tab, rdImg b = some tab ∧ kfA tab [] = rs := by
  obtain ⟨h1, h2, rfl⟩ := h
  by_cases h0 : rs = []
  · subst h0
    exact ⟨[], img_reads_nil, rfl⟩
  · obtain ⟨r1, r2, _, r4⟩ := img_reads h1.rls h0
    obtain ⟨m1, m2, _⟩ := img_readsM (tabOf rs).length h1.rls h0
    refine ⟨tabOf rs, r1, ?_⟩
    rw [kfA_wds m2 r2 (64 + (tabOf rs).length) [] (by omega), m1, h2, tks_keys rs [] (by simpa using h1)]
    rfl
theorem opn_of {b : List UInt8} {rs : List Rl} (hb : b.length ≤ 8000) (h : Img b rs) : opn b = (rs, 0) := by
  obtain ⟨tab, h1, h2⟩ := img_read h
  unfold opn
  rw [if_neg (by omega), h1]
  simp only
  rw [h2, if_pos h.is]
theorem opn_is {b : List UInt8} (h : (opn b).2 = 0) : b.length ≤ 8000 ∧ Img b (opn b).1 := by
  unfold opn at h ⊢
  split
  · rename_i hc; rw [if_pos hc] at h; simp at h
  · rename_i hc
    rw [if_neg hc] at h
    refine ⟨by omega, ?_⟩
    cases hr : rdImg b with
    | none => rw [hr] at h; simp at h
    | some tab =>
      rw [hr] at h
      simp only at h ⊢
      have hrt := kfA_rt (rdImg_ord hr)
      obtain ⟨rs, hrs⟩ : ∃ rs, kfA tab [] = rs := ⟨_, rfl⟩
      rw [hrs] at h hrt ⊢
      split at h
      · rename_i hi
        rw [if_pos hi]
        have hs := img_srt hrt
        rw [hi] at hs
        obtain ⟨tab', t1, t2⟩ := img_read hs
        rw [hr] at t1
        obtain rfl := Option.some.inj t1
        rw [hrs] at t2
        have := hs.rise
        rw [← t2] at this
        exact ⟨hrt, this, hi⟩
      · simp at h
theorem opn_err (b : List UInt8) : (opn b).2 = 0 ∨ (8000 < b.length ∧ opn b = ([], 1)) ∨ (b.length ≤ 8000 ∧ opn b = ([], 6)) := by
  unfold opn
  split
  · exact Or.inr (Or.inl ⟨by assumption, rfl⟩)
  · split
    · exact Or.inr (Or.inr ⟨by omega, rfl⟩)
    · split
      · exact Or.inl rfl
      · exact Or.inr (Or.inr ⟨by omega, rfl⟩)
end Go.Proofs.YtgohllfpceeboabGreatDoor

namespace Sx
def eSum (tab : List (List Edg)) : Nat := (tab.map List.length).sum
theorem eSum_app (a b : List (List Edg)) : eSum (a ++ b) = eSum a + eSum b := by simp [eSum]
/-- How many edges there come to be. -/
theorem edgF_edges : ∀ (n : Nat) (tab : List (List Edg)) (l : List Wd), OkF n l → eSum (edgF n tab l).1 ≤ eSum tab + sl l
  | 0, _, _, h => absurd h (by simp [OkF])
  | n + 1, tab, l, ho => by
    have fold : ∀ (gs : List (UInt8 × List Wd)) (tab : List (List Edg)) (es0 : List Edg), (∀ g ∈ gs, OkF n g.2) →
        eSum (gs.foldl (edgE n) (tab, es0)).1 + (gs.foldl (edgE n) (tab, es0)).2.length ≤ eSum tab + es0.length + (gs.map fun g => sl g.2 + 1).sum := by
      intro gs
      induction gs with
      | nil => intro tab es0 _; simp
      | cons g gs ih =>
        intro tab es0 hg
        have a := edgF_edges n tab g.2 (hg g (by simp))
        have b := ih (edgF n tab g.2).1 (es0 ++ [(g.1, (edgF n tab g.2).2)]) (fun y hy => hg y (by simp [hy]))
        rw [List.foldl_cons, show edgE n (tab, es0) g = ((edgF n tab g.2).1, es0 ++ [(g.1, (edgF n tab g.2).2)]) from rfl]
        simp only [List.map_cons, List.sum_cons]
        rw [List.length_append, List.length_singleton] at b
        omega
    have f := fold (grp l) tab [] ho.2
    have hs := grp_sum_ok ho
    rw [edgF_succ]
    generalize (grp l).foldl (edgE n) (tab, []) = r at f
    rw [List.length_nil] at f
    cases hp : posOf r.2 r.1 with
    | some i => simp only; omega
    | none =>
      simp only
      rw [eSum_app, show eSum [r.2] = r.2.length by simp [eSum]]
      omega
theorem imgT_len (tab : List (List Edg)) : (imgT tab).length = 2 + tab.length + 3 * eSum tab := by
  have h1 : ∀ es : List Edg, (es.flatMap fun e => e.1 :: two e.2).length = 3 * es.length := by
    intro es
    induction es with
    | nil => rfl
    | cons e es ih => rw [List.flatMap_cons, List.length_append, ih]; simp [two]; omega
  have h2 : ∀ t : List (List Edg), (t.flatMap tellE).length = t.length + 3 * eSum t := by
    intro t
    induction t with
    | nil => rfl
    | cons es t ih =>
      rw [List.flatMap_cons, List.length_append, ih]
      unfold tellE
      rw [List.length_cons, h1]
      simp [eSum]
      omega
  unfold imgT
  rw [List.length_append, h2]
  simp [two]
  omega
/-- An image of right rules is no longer than images may be. -/
theorem img_len {rs : List Rl} (h : RlsOk rs) : (imgT (tabOf rs)).length ≤ 8000 := by
  by_cases h0 : rs = []
  · subst h0; decide
  · have hk := (keys_ok h h0).1
    have hso := sortW_ok _ (free_nodup (keys_free h.ok h.apart))
    have hlen : (sortW (rs.map rlKey)).length = rs.length := by
      have := sortW_length (rs.map rlKey) []
      unfold sortW
      rw [this, List.length_map]; rfl
    have hs := sl_all (sortW (rs.map rlKey)) 63 (fun x hx => by
      obtain ⟨r, hr, rfl⟩ := List.mem_map.1 ((hso.2 x).1 hx)
      have := rlKey_len (h.ok r hr)
      omega)
    have hm := h.many
    rw [hlen] at hs
    have h2 : rs.length * 63 ≤ 30 * 63 := Nat.mul_le_mul_right _ hm
    have htab : tabOf rs = (edgF 64 [] (sortW (rs.map rlKey))).1 := by unfold tabOf; rw [if_neg h0]
    have e1 := edgF_edges 64 [] _ hk
    have e2 := (edgF_len 64 [] _ hk (by simp)).2.1
    rw [imgT_len, htab]
    simp only [eSum, List.map_nil, List.sum_nil, List.length_nil] at e1 e2 ⊢
    omega
theorem linesGo_run : ∀ (x r cur : List UInt8), (10 : UInt8) ∉ x → linesGo (x ++ 10 :: r) cur = (cur ++ x) :: linesOf r
  | [], r, cur, _ => by simp [linesGo, linesOf]
  | b :: x, r, cur, h => by
    have hb : b ≠ 10 := fun e => h (by simp [e])
    have ih := linesGo_run x r (cur ++ [b]) (fun e => h (by simp [e]))
    rw [List.cons_append]
    conv => lhs; unfold linesGo
    rw [if_neg hb, ih]
    simp
end Sx
namespace Go.Proofs.YtgohllfpceeboabGreatDoor
open Sx
theorem tabOf_perm {rs rs' : List Rl} (h : RlsRt rs) (hp : rs'.Perm rs) : tabOf rs' = tabOf rs := by
  have e : sortW (rs'.map rlKey) = sortW (rs.map rlKey) := by
    have hn := h.nodup
    have hn' := (h.perm hp).nodup
    have h1 := sortW_ok _ hn'
    refine sortW_one (rs.map rlKey) (sortW (rs'.map rlKey)) hn h1.1 (fun y => ?_)
    rw [h1.2 y]
    exact (hp.map rlKey).mem_iff
  unfold tabOf
  rw [e]
  by_cases h0 : rs = []
  · subst h0
    have : rs' = [] := List.eq_nil_of_length_eq_zero hp.length_eq
    rw [if_pos rfl, if_pos this]
  · have : rs' ≠ [] := fun e => h0 (List.eq_nil_of_length_eq_zero (by rw [← hp.length_eq, e]; rfl))
    rw [if_neg h0, if_neg this]
end Go.Proofs.YtgohllfpceeboabGreatDoor

namespace Sx
def upI (c : Int) : Int := if 97 ≤ c ∧ c ≤ 122 then c - 32 else c
/-- With great letters. -/
def upB (s : List UInt8) : List UInt8 := s.map fun b => if 97 ≤ b ∧ b ≤ 122 then b - 32 else b
theorem label_lower {a b : List Int} (h : a.map lower = b.map lower) : label a = label b := by unfold label; rw [h]
end Sx
namespace Sx
end Sx

namespace Sx
/-- Letters with dots between. -/
def dotI : List (List Int) → List Int
  | [] => []
  | x :: r => x ++ r.flatMap fun y => 46 :: y
theorem text_app (a b : List Int) : text (a ++ b) = text a ++ text b := by simp [text]
theorem text_dotI : ∀ (h : List (List Int)), text (dotI h) = dotted (h.map text)
  | [] => rfl
  | x :: r => by
    have : ∀ r : List (List Int), text (r.flatMap fun y => 46 :: y) = (r.map text).flatMap fun y => 46 :: y := by
      intro r
      induction r with
      | nil => rfl
      | cons y r ih =>
        rw [List.flatMap_cons, text_app, ih, List.map_cons, List.flatMap_cons]
        rfl
    simp only [dotI, List.map_cons, dotted]
    rw [text_app, this]
theorem hostGo_runI : ∀ (x r cur : List Int), (∀ b ∈ x, b ≠ 46) → hostGo (x ++ r) cur = hostGo r (cur ++ x)
  | [], r, cur, _ => by simp
  | b :: x, r, cur, h => by
    have ih := hostGo_runI x r (cur ++ [b]) (fun c hc => h c (by simp [hc]))
    show hostGo (b :: (x ++ r)) cur = _
    rw [hostGo, if_neg (h b (by simp)), ih]
    simp
theorem hostGo_dotI : ∀ (h : List (List Int)) (k : List (List UInt8)), h ≠ [] → h.map label = k.map some → (∀ x ∈ h, ∀ b ∈ x, b ≠ 46) → hostGo (dotI h) [] = some k
  | [], _, n, _, _ => absurd rfl n
  | [x], k, _, hl, h => by
    have := hostGo_runI x [] [] (h x (by simp))
    rw [List.append_nil, List.nil_append] at this
    have e : dotI [x] = x := by simp [dotI]
    rw [e, this]
    cases k with
    | nil => simp at hl
    | cons y k =>
      simp only [List.map_cons, List.map_nil, List.cons.injEq] at hl
      have : k = [] := by simpa using hl.2.symm
      subst this
      unfold hostGo
      rw [hl.1]
  | x :: y :: r, k, _, hl, h => by
    cases k with
    | nil => simp at hl
    | cons z k =>
      simp only [List.map_cons, List.cons.injEq] at hl
      have ih := hostGo_dotI (y :: r) k (by simp) (by simpa using hl.2) (fun z hz => h z (by simp [hz]))
      have := hostGo_runI x (46 :: dotI (y :: r)) [] (h x (by simp))
      rw [List.nil_append] at this
      have e : dotI (x :: y :: r) = x ++ 46 :: dotI (y :: r) := by simp [dotI]
      rw [e, this, hostGo, if_pos rfl, hl.1]
      simp only
      rw [ih]
      rfl
theorem mem_dotI : ∀ (h : List (List Int)) (c : Int), c ∈ dotI h → c = 46 ∨ ∃ x ∈ h, c ∈ x
  | [], _, h => by simp [dotI] at h
  | x :: r, c, h => by
    simp only [dotI, List.mem_append, List.mem_flatMap, List.mem_cons] at h
    rcases h with h | ⟨y, hy, rfl | h⟩
    · exact Or.inr ⟨x, by simp, h⟩
    · exact Or.inl rfl
    · exact Or.inr ⟨y, by simp [hy], h⟩
end Sx

namespace Sx
/-- Which of n things a raw number speaks of. -/
def pickN (c : Int) (n : Nat) : Nat := ((if c < 0 then -(c + 1) else c) % (n : Int)).toNat
theorem pickN_lt (c : Int) (n : Nat) (h : 0 < n) : pickN c n < n := by
  unfold pickN
  have h1 := Int.emod_lt_of_pos (if c < 0 then -(c + 1) else c) (show (0 : Int) < n by omega)
  have h2 := Int.emod_nonneg (if c < 0 then -(c + 1) else c) (show (n : Int) ≠ 0 by omega)
  omega
/-- The names that labels are made of: as they are written, as letters, in plain form. -/
def nmI (i : Nat) : List Int := match i with
  | 0 => [97] | 1 => [98] | 2 => [99, 111, 109] | 3 => [117, 107] | 4 => [120, 49] | 5 => [97, 45, 98] | 6 => [98, 252, 99, 104] | _ => [120, 110, 45, 45, 116, 100, 97]
def nm (i : Nat) : List UInt8 := match i with
  | 0 => [97] | 1 => [98] | 2 => [99, 111, 109] | 3 => [117, 107] | 4 => [120, 49] | 5 => [97, 45, 98] | 6 => [98, 195, 188, 99, 104] | _ => [120, 110, 45, 45, 116, 100, 97]
def nmP (i : Nat) : List UInt8 := match i with
  | 0 => [97] | 1 => [98] | 2 => [99, 111, 109] | 3 => [117, 107] | 4 => [120, 49] | 5 => [97, 45, 98] | 6 => formOf [98, 252, 99, 104] | _ => [120, 110, 45, 45, 116, 100, 97]
theorem nm_is : ∀ i, i < 8 → text (nmI i) = nm i ∧ label (nmI i) = some (nmP i) ∧ (nmI i).map lower = nmI i ∧ ((nmI i).map upI).map lower = nmI i ∧ digs (nmP i) = false ∧ (nmP i).length ≤ 11 ∧ (nm i).length ≤ 7 ∧ ((nm i).getD 0 0 ≠ 42 ∧ (nm i).getD 0 0 ≠ 33 ∧ (nm i).getD 0 0 ≠ 47 ∧ (nm i).getD 0 0 ≠ 61 ∧ (nm i).getD 0 0 ≠ 0) ∧ nmP i ≠ [122] := by
  intro i hi
  match i, hi with
  | 0, _ => decide +kernel
  | 1, _ => decide +kernel
  | 2, _ => decide +kernel
  | 3, _ => decide +kernel
  | 4, _ => decide +kernel
  | 5, _ => decide +kernel
  | 6, _ => decide +kernel
  | 7, _ => decide +kernel
theorem nmI_good : ∀ i, i < 8 → ∀ c ∈ nmI i, Good c ∧ c ≠ 46 ∧ Good (upI c) ∧ upI c ≠ 46 := by
  intro i hi c hc
  have : (c = 97 ∨ c = 98 ∨ c = 99 ∨ c = 111 ∨ c = 109 ∨ c = 117 ∨ c = 107 ∨ c = 120 ∨ c = 49 ∨ c = 45 ∨ c = 252 ∨ c = 104 ∨ c = 110 ∨ c = 116 ∨ c = 100) := by
    match i, hi with
    | 0, _ => simp [nmI] at hc; omega
    | 1, _ => simp [nmI] at hc; omega
    | 2, _ => simp [nmI] at hc; omega
    | 3, _ => simp [nmI] at hc; omega
    | 4, _ => simp [nmI] at hc; omega
    | 5, _ => simp [nmI] at hc; omega
    | 6, _ => simp [nmI] at hc; omega
    | 7, _ => simp [nmI] at hc; omega
  unfold Good upI
  split <;> omega
theorem text_upG : ∀ l : List Int, (∀ c ∈ l, Good c) → upB (text l) = text (l.map upI)
  | [], _ => rfl
  | c :: l, h => by
    have ih := text_upG l (fun d hd => h d (by simp [hd]))
    have hg := h c (by simp)
    unfold Good at hg
    have e1 : text (c :: l) = utf c ++ text l := by simp [text]
    have e2 : text ((c :: l).map upI) = utf (upI c) ++ text (l.map upI) := by simp [text]
    rw [e1, e2, ← ih]
    unfold upB
    rw [List.map_append]
    congr 1
    by_cases hlt : c < 128
    · have hu : utf c = [UInt8.ofNat c.toNat] := by unfold utf; rw [if_pos hlt]
      have hu2 : utf (upI c) = [UInt8.ofNat (upI c).toNat] := by unfold utf; rw [if_pos]; unfold upI; split <;> omega
      rw [hu, hu2]
      simp only [List.map_cons, List.map_nil, List.cons.injEq, and_true]
      obtain ⟨n, rfl⟩ : ∃ n : Nat, c = n := ⟨c.toNat, by omega⟩
      have hn : n < 128 := by omega
      clear h hg hu hu2 e1 e2 ih hlt
      rw [Int.toNat_natCast]
      unfold upI
      revert n
      decide
    · have hup : upI c = c := by
        unfold upI
        rw [if_neg (by omega)]
      rw [hup]
      conv => rhs; rw [← List.map_id (utf c)]
      refine List.map_congr_left fun b hb => ?_
      have hb2 : 128 ≤ b.toNat := by
        unfold utf at hb
        rw [if_neg hlt] at hb
        split at hb
        · simp only [List.mem_cons, List.not_mem_nil, or_false] at hb
          rcases hb with rfl | rfl <;> (rw [UInt8.toNat_ofNat']; omega)
        · split at hb
          · simp only [List.mem_cons, List.not_mem_nil, or_false] at hb
            rcases hb with rfl | rfl | rfl <;> (rw [UInt8.toNat_ofNat']; omega)
          · simp only [List.mem_cons, List.not_mem_nil, or_false] at hb
            rcases hb with rfl | rfl | rfl | rfl <;> (rw [UInt8.toNat_ofNat']; omega)
      rw [if_neg]
      · rfl
      · rintro ⟨_, h2⟩
        have : b.toNat ≤ 122 := h2
        omega
/-- Names that a host is made of. -/
structure IxOk (ix : List Nat) : Prop where
  ne : ix ≠ []
  few : ix.length ≤ 5
  lt : ∀ i ∈ ix, i < 8
theorem dotted_nm {ix : List Nat} (h : IxOk ix) : dotted (ix.map nm) = text (dotI (ix.map nmI)) := by
  rw [text_dotI, List.map_map]
  congr 1
  exact List.map_congr_left fun i hi => ((nm_is i (h.lt i hi)).1).symm
theorem dots_le (M : Nat) : ∀ (q : List (List UInt8)), (∀ x ∈ q, x.length ≤ M) → (dotted q).length ≤ q.length * (M + 1)
  | [], _ => by simp [dotted]
  | [x], h => by have := h x (by simp); simp [dotted]; omega
  | x :: y :: r, h => by
    have h1 := h x (by simp)
    have h2 := dots_le M (y :: r) (fun z hz => h z (by simp [hz]))
    rw [dotted_cons, List.length_append, List.length_cons]
    simp only [List.length_cons] at h2 ⊢
    rw [Nat.succ_mul]
    omega
theorem hostEnd_ix {ix : List Nat} (h : IxOk ix) : hostEnd (ix.map nmP) = (ix.map nmP, 0) := by
  have hpos : 0 < ix.length := List.length_pos_iff.2 h.ne
  have hf := h.few
  unfold hostEnd
  rw [if_neg]
  have h1 : digs ((ix.map nmP).getD ((ix.map nmP).length - 1) []) = false := by
    rw [List.getD_eq_getElem?_getD, List.getElem?_eq_getElem (by rw [List.length_map]; omega), Option.getD_some, List.getElem_map]
    exact (nm_is _ (h.lt _ (List.getElem_mem _))).2.2.2.2.1
  have h2 : allLen (ix.map nmP) ≤ ix.length * 12 := by
    have : ∀ jx : List Nat, (∀ i ∈ jx, i < 8) → allLen (jx.map nmP) ≤ jx.length * 12 := by
      intro jx
      induction jx with
      | nil => intro _; simp [allLen]
      | cons i jx ih =>
        intro hj
        have e1 := ih (fun k hk => hj k (by simp [hk]))
        have e2 := (nm_is i (hj i (by simp))).2.2.2.2.2.1
        simp only [allLen, List.map_cons, List.sum_cons, List.length_cons] at e1 ⊢
        omega
    exact this ix h.lt
  rw [h1]
  simp only [Bool.false_or, Bool.or_eq_true, decide_eq_true_eq, List.length_map]
  omega
theorem host_ix {ix : List Nat} (h : IxOk ix) : host (dotted (ix.map nm)) = (ix.map nmP, 0) := by
  have hf := h.few
  have hl : (dotted (ix.map nm)).length ≤ 60 := by
    have := dots_le 7 (ix.map nm) (fun x hx => by
      obtain ⟨i, hi, rfl⟩ := List.mem_map.1 hx
      exact (nm_is i (h.lt i hi)).2.2.2.2.2.2.1)
    rw [List.length_map] at this
    omega
  have hgood : ∀ c ∈ dotI (ix.map nmI), Good c := fun c hc => by
    rcases mem_dotI _ c hc with rfl | ⟨x, hx, hc⟩
    · exact ⟨by omega, by omega, by omega⟩
    · obtain ⟨i, hi, rfl⟩ := List.mem_map.1 hx
      exact (nmI_good i (h.lt i hi) c hc).1
  conv => lhs; unfold host
  rw [if_neg (by omega), dotted_nm h, letters_text _ hgood]
  simp only
  rw [hostGo_dotI (ix.map nmI) (ix.map nmP) (by simpa using h.ne) (by
    rw [List.map_map, List.map_map]
    exact List.map_congr_left fun i hi => (nm_is i (h.lt i hi)).2.1) (fun x hx c hc => by
    obtain ⟨i, hi, rfl⟩ := List.mem_map.1 hx
    exact (nmI_good i (h.lt i hi) c hc).2.1)]
  exact hostEnd_ix h
theorem upB_len (s : List UInt8) : (upB s).length = s.length := by unfold upB; rw [List.length_map]
theorem host_ixU {ix : List Nat} (h : IxOk ix) : host (upB (dotted (ix.map nm))) = (ix.map nmP, 0) := by
  have hf := h.few
  have hl : (upB (dotted (ix.map nm))).length ≤ 60 := by
    have := dots_le 7 (ix.map nm) (fun x hx => by
      obtain ⟨i, hi, rfl⟩ := List.mem_map.1 hx
      exact (nm_is i (h.lt i hi)).2.2.2.2.2.2.1)
    rw [List.length_map] at this
    rw [upB_len]
    omega
  have hgood : ∀ c ∈ dotI (ix.map nmI), Good c := fun c hc => by
    rcases mem_dotI _ c hc with rfl | ⟨x, hx, hc⟩
    · exact ⟨by omega, by omega, by omega⟩
    · obtain ⟨i, hi, rfl⟩ := List.mem_map.1 hx
      exact (nmI_good i (h.lt i hi) c hc).1
  have hmap : ∀ q : List (List Int), (dotI q).map upI = dotI (q.map fun x => x.map upI) := by
    intro q
    cases q with
    | nil => rfl
    | cons x r =>
      simp only [dotI, List.map_cons, List.map_append]
      congr 1
      rw [List.map_flatMap, List.flatMap_map]
      rfl
  conv => lhs; unfold host
  rw [if_neg (by omega), dotted_nm h, text_upG _ hgood, hmap, letters_text _ (fun c hc => by
    rcases mem_dotI _ c hc with rfl | ⟨x, hx, hc⟩
    · exact ⟨by omega, by omega, by omega⟩
    · obtain ⟨y, hy, rfl⟩ := List.mem_map.1 hx
      obtain ⟨i, hi, rfl⟩ := List.mem_map.1 hy
      obtain ⟨d, hd, rfl⟩ := List.mem_map.1 hc
      exact (nmI_good i (h.lt i hi) d hd).2.2.1)]
  simp only
  rw [hostGo_dotI _ (ix.map nmP) (by simpa using h.ne) (by
    rw [List.map_map, List.map_map, List.map_map]
    refine List.map_congr_left fun i hi => ?_
    obtain ⟨a1, a2, a3, a4, _⟩ := nm_is i (h.lt i hi)
    simp only [Function.comp]
    rw [← a2]
    exact label_lower (by rw [a4, a3])) (fun x hx c hc => by
    obtain ⟨y, hy, rfl⟩ := List.mem_map.1 hx
    obtain ⟨i, hi, rfl⟩ := List.mem_map.1 hy
    obtain ⟨d, hd, rfl⟩ := List.mem_map.1 hc
    exact (nmI_good i (h.lt i hi) d hd).2.2.2)]
  exact hostEnd_ix h
end Sx

namespace Sx
/-- A raw rule: its kind, its section, its labels. -/
abbrev RawR := Int × Int × Int × Int × Int
def hostIx (a b c : Int) : List Nat := (if pickN c 16 < 8 then [pickN c 8] else []) ++ (if pickN b 9 < 8 then [pickN b 8] else []) ++ [pickN a 8]
def ruleIx (r : RawR) : List Nat := if pickN r.1 4 = 1 then pickN r.2.2.2.2 8 :: hostIx r.2.2.1 r.2.2.2.1 15 else hostIx r.2.2.1 r.2.2.2.1 r.2.2.2.2
def rawK (r : RawR) : UInt8 := if pickN r.1 4 = 0 then 42 else if pickN r.1 4 = 1 then 33 else 36
def rawS (r : RawR) : UInt8 := if pickN r.2.1 2 = 0 then 105 else 112
/-- A raw rule's rule, its line, the line of its section. -/
def rawRl (r : RawR) : Rl := ((ruleIx r).map nmP, rawK r, rawS r)
def lineT (r : RawR) : List UInt8 := (if rawK r = 42 then [42, 46] else if rawK r = 33 then [33] else []) ++ dotted ((ruleIx r).map nm)
def secT (r : RawR) : List UInt8 := [61, 61, 61, rawS r]
theorem hostIx_ok (a b c : Int) : IxOk (hostIx a b c) ∧ (hostIx a b c).length ≤ 3 := by
  have ha := pickN_lt a 8 (by omega)
  have hb := pickN_lt b 8 (by omega)
  have hc := pickN_lt c 8 (by omega)
  have hl : (hostIx a b c).length ≤ 3 := by
    unfold hostIx
    simp only [List.length_append]
    repeat' split
    all_goals simp
  refine ⟨⟨by unfold hostIx; simp, by omega, fun i hi => ?_⟩, hl⟩
  unfold hostIx at hi
  rcases List.mem_append.1 hi with hi | hi
  · rcases List.mem_append.1 hi with hi | hi
    · split at hi
      · rw [List.mem_singleton.1 hi]; exact hc
      · cases hi
    · split at hi
      · rw [List.mem_singleton.1 hi]; exact hb
      · cases hi
  · rw [List.mem_singleton.1 hi]; exact ha
theorem ruleIx_ok (r : RawR) : IxOk (ruleIx r) ∧ (ruleIx r).length ≤ 4 ∧ (pickN r.1 4 = 1 → 1 < (ruleIx r).length) := by
  unfold ruleIx
  split
  · obtain ⟨h1, h2⟩ := hostIx_ok r.2.2.1 r.2.2.2.1 15
    have hc := pickN_lt r.2.2.2.2 8 (by omega)
    have hp : 0 < (hostIx r.2.2.1 r.2.2.2.1 15).length := List.length_pos_iff.2 h1.ne
    refine ⟨⟨by simp, by rw [List.length_cons]; omega, fun i hi => ?_⟩, by rw [List.length_cons]; omega, fun _ => by rw [List.length_cons]; omega⟩
    rcases List.mem_cons.1 hi with rfl | hi
    · exact hc
    · exact h1.lt i hi
  · rename_i hk
    obtain ⟨h1, h2⟩ := hostIx_ok r.2.2.1 r.2.2.2.1 r.2.2.2.2
    exact ⟨h1, by omega, fun h => absurd h hk⟩
theorem rawK_is (r : RawR) : isKd (rawK r) ∧ (rawK r = 33 ↔ pickN r.1 4 = 1) := by
  unfold rawK isKd
  by_cases h0 : pickN r.1 4 = 0
  · rw [if_pos h0]; exact ⟨Or.inr (Or.inl rfl), by constructor; (intro h; cases h); (intro h; omega)⟩
  · rw [if_neg h0]
    by_cases h1 : pickN r.1 4 = 1
    · rw [if_pos h1]; exact ⟨Or.inr (Or.inr rfl), ⟨fun _ => h1, fun _ => rfl⟩⟩
    · rw [if_neg h1]; exact ⟨Or.inl rfl, by constructor; (intro h; cases h); (intro h; omega)⟩
theorem rawS_is (r : RawR) : rawS r = 105 ∨ rawS r = 112 := by unfold rawS; split <;> simp
theorem rawRl_rt (r : RawR) : RlRt (rawRl r) := by
  have hi := (ruleIx_ok r).1
  have h := host_ix hi
  have ha := host_again (s := dotted ((ruleIx r).map nm)) (by rw [h])
  rw [h] at ha
  refine ⟨ha, (rawK_is r).1, fun hk => ?_, rawS_is r⟩
  have := (ruleIx_ok r).2.2 ((rawK_is r).2.1 hk)
  show 1 < ((ruleIx r).map nmP).length
  rw [List.length_map]
  exact this
theorem nm_head {ix : List Nat} (h : IxOk ix) : ∃ b q, dotted (ix.map nm) = b :: q ∧ b ≠ 42 ∧ b ≠ 33 ∧ b ≠ 47 ∧ b ≠ 61 ∧ upB [b] ≠ [47] ∧ upB [b] ≠ [61] ∧ upB [b] ≠ [42] ∧ upB [b] ≠ [33] := by
  obtain ⟨i, t, rfl⟩ := List.exists_cons_of_ne_nil h.ne
  have hi := h.lt i (by simp)
  have e : dotted ((i :: t).map nm) = nm i ++ (t.map nm).flatMap fun y => 46 :: y := rfl
  have hh : ∃ b q, nm i = b :: q ∧ b ≠ 42 ∧ b ≠ 33 ∧ b ≠ 47 ∧ b ≠ 61 ∧ upB [b] ≠ [47] ∧ upB [b] ≠ [61] ∧ upB [b] ≠ [42] ∧ upB [b] ≠ [33] := by
    match i, hi with
    | 0, _ => exact ⟨_, _, rfl, by decide⟩
    | 1, _ => exact ⟨_, _, rfl, by decide⟩
    | 2, _ => exact ⟨_, _, rfl, by decide⟩
    | 3, _ => exact ⟨_, _, rfl, by decide⟩
    | 4, _ => exact ⟨_, _, rfl, by decide⟩
    | 5, _ => exact ⟨_, _, rfl, by decide⟩
    | 6, _ => exact ⟨_, _, rfl, by decide⟩
    | 7, _ => exact ⟨_, _, rfl, by decide⟩
  obtain ⟨b, q, h1, h2⟩ := hh
  exact ⟨b, q ++ (t.map nm).flatMap fun y => 46 :: y, by rw [e, h1]; rfl, h2⟩
theorem cutRl_raw (r : RawR) : cutRl (lineT r) = (rawK r, dotted ((ruleIx r).map nm)) ∧ cutRl (upB (lineT r)) = (rawK r, upB (dotted ((ruleIx r).map nm))) := by
  obtain ⟨b, q, hd, h42, h33, h47, h61, u47, u61, u42, u33⟩ := nm_head (ruleIx_ok r).1
  have hu : upB (b :: q) = (upB [b] ++ upB q) := by simp [upB]
  obtain ⟨c, hc⟩ : ∃ c, upB [b] = [c] := ⟨_, rfl⟩
  rw [hc] at u47 u61 u42 u33 hu
  have c42 : c ≠ 42 := fun e => u42 (by rw [e])
  have c33 : c ≠ 33 := fun e => u33 (by rw [e])
  unfold lineT
  rw [hd]
  rcases (rawK_is r).1 with k | k | k
  · rw [k]
    constructor
    · unfold cutRl
      simp only [show ((36 : UInt8) = 42) = False by simp, show ((36 : UInt8) = 33) = False by simp, if_false, List.nil_append]
      rw [if_neg, if_neg]
      · simp [h33]
      · cases q <;> simp [h42]
    · unfold cutRl
      simp only [show ((36 : UInt8) = 42) = False by simp, show ((36 : UInt8) = 33) = False by simp, if_false, List.nil_append]
      rw [hu, if_neg, if_neg]
      · simp [c33]
      · cases q <;> simp [upB, c42]
  · rw [k]
    constructor
    · simp [cutRl]
    · simp [cutRl, upB]
  · rw [k]
    constructor
    · simp [cutRl]
    · simp [cutRl, upB]
theorem read_raw (r : RawR) (sec : UInt8) : readRl (lineT r) sec = some ((ruleIx r).map nmP, rawK r, sec) ∧ readRl (upB (lineT r)) sec = some ((ruleIx r).map nmP, rawK r, sec) := by
  obtain ⟨c1, c2⟩ := cutRl_raw r
  have h1 := host_ix (ruleIx_ok r).1
  have h2 := host_ixU (ruleIx_ok r).1
  have h3 : rawK r = 33 → 1 < ((ruleIx r).map nmP).length := (rawRl_rt r).2.2.1
  unfold readRl
  rw [c1, c2]
  simp only
  rw [h1, h2]
  simp only
  rw [if_pos ⟨trivial, h3⟩]
  exact ⟨rfl, rfl⟩
/-- What a raw rule's line is not. -/
theorem raw_not (r : RawR) : ∀ x, (x = lineT r ∨ x = upB (lineT r)) → ¬ (x = [] ∨ x.take 2 = [47, 47]) ∧ x ≠ [61, 61, 61, 105] ∧ x ≠ [61, 61, 61, 112] := by
  obtain ⟨b, q, hd, h42, h33, h47, h61, u47, u61, u42, u33⟩ := nm_head (ruleIx_ok r).1
  obtain ⟨c, hc⟩ : ∃ c, upB [b] = [c] := ⟨_, rfl⟩
  have hu : upB (b :: q) = c :: upB q := by rw [show upB (b :: q) = upB [b] ++ upB q by simp [upB], hc]; rfl
  have c47 : c ≠ 47 := fun e => u47 (by rw [hc, e])
  have c61 : c ≠ 61 := fun e => u61 (by rw [hc, e])
  have key : ∀ (e : UInt8) (t : List UInt8), e ≠ 47 → e ≠ 61 → ¬ (e :: t = [] ∨ (e :: t).take 2 = [47, 47]) ∧ e :: t ≠ [61, 61, 61, 105] ∧ e :: t ≠ [61, 61, 61, 112] := by
    intro e t h1 h2
    refine ⟨?_, ?_, ?_⟩
    · rintro (h | h)
      · cases h
      · cases t <;> simp at h
        exact h1 h.1
    · intro h; injection h with h _; exact h2 h
    · intro h; injection h with h _; exact h2 h
  have hh : (∃ e t, lineT r = e :: t ∧ e ≠ 47 ∧ e ≠ 61) ∧ ∃ e t, upB (lineT r) = e :: t ∧ e ≠ 47 ∧ e ≠ 61 := by
    unfold lineT
    rw [hd]
    rcases (rawK_is r).1 with k | k | k
    · rw [k]
      exact ⟨⟨b, q, rfl, h47, h61⟩, ⟨c, upB q, hu, c47, c61⟩⟩
    · rw [k]
      exact ⟨⟨42, _, rfl, by decide, by decide⟩, ⟨42, _, rfl, by decide, by decide⟩⟩
    · rw [k]
      exact ⟨⟨33, _, rfl, by decide, by decide⟩, ⟨33, _, rfl, by decide, by decide⟩⟩
  obtain ⟨⟨e, t, e1, e2, e3⟩, ⟨f, s, f1, f2, f3⟩⟩ := hh
  rintro x (rfl | rfl)
  · rw [e1]; exact key e t e2 e3
  · rw [f1]; exact key f s f2 f3
theorem addLn_raw {rs : List Rl} (r : RawR) (h : RlsRt (rs ++ [rawRl r])) : ∀ x, (x = lineT r ∨ x = upB (lineT r)) → addLn rs (rawS r) x = ((rs ++ [rawRl r], rawS r), 0) := by
  intro x hx
  obtain ⟨n1, n2, n3⟩ := raw_not r x hx
  have hr : RlRt (rawRl r) := h.ok _ (by simp)
  have hrd : readRl x (rawS r) = some (rawRl r) := by
    rcases hx with rfl | rfl
    · exact (read_raw r _).1
    · exact (read_raw r _).2
  unfold addLn
  rw [if_neg n1, if_neg n2, if_neg n3, hrd]
  simp only
  rw [if_neg, if_neg]
  · have := h.many
    simp only [List.length_append, List.length_singleton] at this
    omega
  · intro hk
    obtain ⟨q, hq, e⟩ := (known_iff (fun q hq => (h.ok q (by simp [hq])).ok) hr.ok).1 hk
    exact (List.pairwise_append.1 h.apart).2.2 q hq _ (by simp) e
theorem addLn_secT (rs : List Rl) (sec : UInt8) (r : RawR) : addLn rs sec (secT r) = ((rs, rawS r), 0) := by
  unfold secT addLn
  rcases rawS_is r with e | e <;> rw [e] <;> simp
theorem addLns_ok1 {x : List UInt8} {r : List (List UInt8)} {rs rs' : List Rl} {sec sec' : UInt8} {n : Int} (h : addLn rs sec x = ((rs', sec'), 0)) : addLns (x :: r) rs sec n = addLns r rs' sec' (n + 1) := by
  conv => lhs; unfold addLns
  rw [h]
  simp
theorem raw_no10 (r : RawR) : (10 : UInt8) ∉ lineT r ∧ (10 : UInt8) ∉ upB (lineT r) ∧ (10 : UInt8) ∉ secT r := by
  have h1 : ∀ b ∈ lineT r, b ≠ 10 ∧ (if 97 ≤ b ∧ b ≤ 122 then b - 32 else b) ≠ 10 := by
    intro b hb
    unfold lineT at hb
    have hnm : ∀ i, i < 8 → ∀ b ∈ nm i, b ≠ 10 ∧ (if 97 ≤ b ∧ b ≤ 122 then b - 32 else b) ≠ 10 := by
      intro i hi
      match i, hi with
      | 0, _ => decide
      | 1, _ => decide
      | 2, _ => decide
      | 3, _ => decide
      | 4, _ => decide
      | 5, _ => decide
      | 6, _ => decide
      | 7, _ => decide
    have hdot : ∀ (q : List (List UInt8)) (b : UInt8), b ∈ dotted q → b = 46 ∨ ∃ x ∈ q, b ∈ x := by
      intro q b hb
      cases q with
      | nil => simp [dotted] at hb
      | cons x r =>
        simp only [dotted, List.mem_append, List.mem_flatMap, List.mem_cons] at hb
        rcases hb with h | ⟨y, hy, rfl | h⟩
        · exact Or.inr ⟨x, by simp, h⟩
        · exact Or.inl rfl
        · exact Or.inr ⟨y, by simp [hy], h⟩
    rcases List.mem_append.1 hb with hb | hb
    · rcases (rawK_is r).1 with k | k | k
      · rw [k] at hb; simp at hb
      · rw [k] at hb; simp at hb; rcases hb with rfl | rfl <;> decide
      · rw [k] at hb; simp at hb; subst hb; decide
    · rcases hdot _ b hb with rfl | ⟨x, hx, hb⟩
      · decide
      · obtain ⟨i, hi, rfl⟩ := List.mem_map.1 hx
        exact hnm i ((ruleIx_ok r).1.lt i hi) b hb
  refine ⟨fun h => (h1 10 h).1 rfl, fun h => ?_, fun h => ?_⟩
  · unfold upB at h
    obtain ⟨b, hb, e⟩ := List.mem_map.1 h
    exact (h1 b hb).2 e
  · unfold secT at h
    rcases rawS_is r with e | e <;> rw [e] at h <;> simp at h
theorem linesOf_cut {x r : List UInt8} (h : (10 : UInt8) ∉ x) : linesOf (x ++ 10 :: r) = x :: linesOf r := by
  show linesGo _ [] = _
  rw [linesGo_run x r [] h]
  simp
theorem linesOf_one {x : List UInt8} (h : (10 : UInt8) ∉ x) (h0 : x ≠ []) : linesOf x = [x] := by
  have : ∀ (x cur : List UInt8), (10 : UInt8) ∉ x → linesGo x cur = if cur ++ x = [] then [] else [cur ++ x] := by
    intro x
    induction x with
    | nil => intro cur _; simp [linesGo]
    | cons b x ih =>
      intro cur h
      have hb : b ≠ 10 := fun e => h (by simp [e])
      conv => lhs; unfold linesGo
      rw [if_neg hb, ih (cur ++ [b]) (fun e => h (by simp [e]))]
      simp
  show linesGo x [] = _
  rw [this x [] h]
  simp [h0]
/-- Lists of raw rules. -/
def listT (l : List RawR) : List UInt8 := l.flatMap fun r => secT r ++ 10 :: (lineT r ++ [10])
def turnT (note : List UInt8) (l : List RawR) : List UInt8 := l.flatMap fun r => note ++ 10 :: 10 :: (secT r ++ 10 :: (upB (lineT r) ++ [10]))
def ownT (l : List RawR) : List (List UInt8) := l.map fun r => secT r ++ 10 :: lineT r
theorem linesOf_nil : linesOf [] = [] := rfl
theorem lineT_len (r : RawR) : (lineT r).length ≤ 34 := by
  have h2 := (ruleIx_ok r).2.1
  have h1 := dots_le 7 ((ruleIx r).map nm) (fun x hx => by
      obtain ⟨i, hi, rfl⟩ := List.mem_map.1 hx
      exact (nm_is i ((ruleIx_ok r).1.lt i hi)).2.2.2.2.2.2.1)
  rw [List.length_map] at h1
  unfold lineT
  rw [List.length_append]
  rcases (rawK_is r).1 with k | k | k <;> rw [k] <;> simp <;> omega
theorem RlsRt.cut {a b : List Rl} (h : RlsRt (a ++ b)) : RlsRt a := ⟨fun r hr => h.ok r (by simp [hr]), (List.pairwise_append.1 h.apart).1, by have := h.many; rw [List.length_append] at this; omega⟩
theorem addLns_list : ∀ (l : List RawR) (acc : List Rl) (sec : UInt8) (n : Int), RlsRt (acc ++ l.map rawRl) → ∃ m, addLns (linesOf (listT l)) acc sec n = (acc ++ l.map rawRl, 0, m)
  | [], acc, sec, n, _ => ⟨n, by simp [listT, linesOf_nil, addLns]⟩
  | r :: l, acc, sec, n, h => by
    obtain ⟨q1, q2, q3⟩ := raw_no10 r
    have e : listT (r :: l) = secT r ++ 10 :: (lineT r ++ 10 :: listT l) := by simp [listT]
    have h1 : RlsRt (acc ++ [rawRl r]) := RlsRt.cut (b := l.map rawRl) (by simpa using h)
    obtain ⟨m, hm⟩ := addLns_list l (acc ++ [rawRl r]) (rawS r) (n + 1 + 1) (by simpa using h)
    rw [e, linesOf_cut q3, linesOf_cut q1, addLns_ok1 (addLn_secT acc sec r), addLns_ok1 (addLn_raw r h1 _ (Or.inl rfl)), hm]
    exact ⟨m, by simp⟩
theorem addLns_turn (note : List UInt8) (h10 : (10 : UInt8) ∉ note) (h47 : note.take 2 = [47, 47]) : ∀ (l : List RawR) (acc : List Rl) (sec : UInt8) (n : Int), RlsRt (acc ++ l.map rawRl) → ∃ m, addLns (linesOf (turnT note l)) acc sec n = (acc ++ l.map rawRl, 0, m)
  | [], acc, sec, n, _ => ⟨n, by simp [turnT, linesOf_nil, addLns]⟩
  | r :: l, acc, sec, n, h => by
    obtain ⟨q1, q2, q3⟩ := raw_no10 r
    have e : turnT note (r :: l) = note ++ 10 :: ([] ++ 10 :: (secT r ++ 10 :: (upB (lineT r) ++ 10 :: turnT note l))) := by simp [turnT]
    have h1 : RlsRt (acc ++ [rawRl r]) := RlsRt.cut (b := l.map rawRl) (by simpa using h)
    obtain ⟨m, hm⟩ := addLns_turn note h10 h47 l (acc ++ [rawRl r]) (rawS r) (n + 1 + 1 + 1 + 1) (by simpa using h)
    have s1 : addLn acc sec note = ((acc, sec), 0) := by unfold addLn; rw [if_pos (Or.inr h47)]
    have s2 : addLn acc sec [] = ((acc, sec), 0) := by unfold addLn; rw [if_pos (Or.inl rfl)]
    rw [e, linesOf_cut h10, linesOf_cut (x := []) (by simp), linesOf_cut q3, linesOf_cut q2, addLns_ok1 s1, addLns_ok1 s2, addLns_ok1 (addLn_secT acc sec r), addLns_ok1 (addLn_raw r h1 _ (Or.inr rfl)), hm]
    exact ⟨m, by simp⟩
theorem addAll_own : ∀ (l : List RawR) (acc : List Rl) (n : Int), RlsRt (acc ++ l.map rawRl) → ∃ m, addAll (ownT l) acc n = (acc ++ l.map rawRl, 0, m)
  | [], acc, n, _ => ⟨n, by simp [ownT, addAll]⟩
  | r :: l, acc, n, h => by
    obtain ⟨q1, q2, q3⟩ := raw_no10 r
    have h1 : RlsRt (acc ++ [rawRl r]) := RlsRt.cut (b := l.map rawRl) (by simpa using h)
    have h0 : lineT r ≠ [] := fun e => (raw_not r _ (Or.inl rfl)).1 (Or.inl e)
    obtain ⟨m, hm⟩ := addAll_own l (acc ++ [rawRl r]) (n + 1 + 1) (by simpa using h)
    have hs : addLns (linesOf (secT r ++ 10 :: lineT r)) acc 105 n = (acc ++ [rawRl r], 0, n + 1 + 1) := by
      rw [linesOf_cut q3, linesOf_one q1 h0, addLns_ok1 (addLn_secT acc 105 r), addLns_ok1 (addLn_raw r h1 _ (Or.inl rfl))]
      rfl
    have e : ownT (r :: l) = (secT r ++ 10 :: lineT r) :: ownT l := rfl
    rw [e]
    unfold addAll
    rw [hs]
    simp only [if_true]
    rw [hm]
    exact ⟨m, by simp⟩
theorem flat_len {α : Type} (f : α → List UInt8) (M : Nat) (h : ∀ x, (f x).length ≤ M) : ∀ l : List α, (l.flatMap f).length ≤ l.length * M
  | [] => by simp
  | x :: l => by
    have h1 := h x
    have h2 := flat_len f M h l
    rw [List.flatMap_cons, List.length_append, List.length_cons, Nat.succ_mul]
    omega
/-- The image of raw rules, however they are written. -/
theorem comp_list {l : List RawR} (h : RlsRt (l.map rawRl)) (hl : l.length ≤ 10) : compR [listT l] = (imgT (tabOf (l.map rawRl)), 0, 0) := by
  obtain ⟨m, hm⟩ := addLns_list l [] 105 0 (by simpa using h)
  rw [List.nil_append] at hm
  have hall : addAll [listT l] [] 0 = (l.map rawRl, 0, m) := by
    unfold addAll
    rw [hm]
    simp [addAll]
  have hlen : (listT l).length ≤ l.length * 40 := flat_len _ 40 (fun r => by have := lineT_len r; simp [secT]; omega) l
  unfold compR
  rw [if_neg (by simp [sl]; omega), hall]
  simp
theorem comp_turn {l : List RawR} {note : List UInt8} (h10 : (10 : UInt8) ∉ note) (h47 : note.take 2 = [47, 47]) (hn : note.length ≤ 22) (h : RlsRt (l.map rawRl)) (hl : l.length ≤ 10) : compR [turnT note l] = (imgT (tabOf (l.map rawRl)), 0, 0) := by
  obtain ⟨m, hm⟩ := addLns_turn note h10 h47 l [] 105 0 (by simpa using h)
  rw [List.nil_append] at hm
  have hall : addAll [turnT note l] [] 0 = (l.map rawRl, 0, m) := by
    unfold addAll
    rw [hm]
    simp [addAll]
  have hlen : (turnT note l).length ≤ l.length * 64 := flat_len _ 64 (fun r => by have := lineT_len r; have := upB_len (lineT r); simp [secT]; omega) l
  unfold compR
  rw [if_neg (by simp [sl]; omega), hall]
  simp
theorem comp_own {l : List RawR} (h : RlsRt (l.map rawRl)) (hl : l.length ≤ 10) : compR (ownT l) = (imgT (tabOf (l.map rawRl)), 0, 0) := by
  obtain ⟨m, hm⟩ := addAll_own l [] 0 (by simpa using h)
  rw [List.nil_append] at hm
  have hlen : sl (ownT l) ≤ l.length * 39 := by
    have := sl_all (ownT l) 39 (fun x hx => by
      obtain ⟨r, hr, rfl⟩ := List.mem_map.1 hx
      have := lineT_len r
      simp [secT]; omega)
    unfold ownT at this ⊢
    rwa [List.length_map] at this
  unfold compR
  rw [if_neg (by omega), hm]
  simp
/-- Of raw rules, ten at most, those whose line has not come already. -/
def frB (m : List RawR) (r : RawR) : Bool := m.all fun q => decide (dotted (rawRl q).1 ≠ dotted (rawRl r).1) || decide (rawK q ≠ rawK r)
def kepS (m : List RawR) (r : RawR) : List RawR := if m.length < 10 ∧ frB m r = true then m ++ [r] else m
def kepF (l : List RawR) : List RawR := l.foldl kepS []
theorem kepF_ok (l : List RawR) : RlsRt ((kepF l).map rawRl) ∧ (kepF l).length ≤ 10 := by
  have key : ∀ (l m : List RawR), RlsRt (m.map rawRl) → m.length ≤ 10 → RlsRt ((l.foldl kepS m).map rawRl) ∧ (l.foldl kepS m).length ≤ 10 := by
    intro l
    induction l with
    | nil => intro m h1 h2; exact ⟨h1, h2⟩
    | cons r l ih =>
      intro m h1 h2
      rw [List.foldl_cons]
      apply (fun (h : RlsRt ((kepS m r).map rawRl) ∧ (kepS m r).length ≤ 10) => ih _ h.1 h.2)
      unfold kepS
      split
      · rename_i hc
        refine ⟨?_, by rw [List.length_append, List.length_singleton]; omega⟩
        rw [List.map_append]
        refine ⟨fun q hq => ?_, ?_, ?_⟩
        · rcases List.mem_append.1 hq with hq | hq
          · exact h1.ok q hq
          · simp only [List.map_cons, List.map_nil, List.mem_singleton] at hq
            rw [hq]; exact rawRl_rt r
        · rw [List.pairwise_append]
          refine ⟨h1.apart, by simp, fun a ha b hb => ?_⟩
          simp only [List.map_cons, List.map_nil, List.mem_singleton] at hb
          subst hb
          obtain ⟨q, hq, rfl⟩ := List.mem_map.1 ha
          rintro ⟨e1, e2⟩
          have := List.all_eq_true.1 hc.2 q hq
          rw [e1] at this
          simp at this
          exact this e2
        · simp only [List.length_append, List.length_map, List.length_singleton, List.map_cons, List.map_nil]
          omega
      · exact ⟨h1, h2⟩
  exact key l [] ⟨by simp, by simp, by simp⟩ (by simp)
end Sx

namespace Go.Proofs.YtgohllfpceeboabGreatDoor
open Go.RowKit
theorem pickN_int (c : Int) (n : Nat) (h : 0 < n) : ((Sx.pickN c n : Nat) : Int) = (if c < 0 then -(c + 1) else c) % (n : Int) := by
  unfold Sx.pickN
  have := Int.emod_nonneg (if c < 0 then -(c + 1) else c) (show (n : Int) ≠ 0 by omega)
  omega
set_option maxRecDepth 100000 in
set_option maxHeartbeats 1000000 in
/-- suffixkeep.pick -/
theorem kpick (c : Int) (n : Nat) (w : World) (h1 : -9223372036854775808 ≤ c) (h2 : c ≤ 9223372036854775807) (hn : 0 < n) (hn2 : n ≤ 2000000) : Calls Tryz.prog 11 #[.int .i64 c, .int .i64 n] w fun e w' => e = .returned (.int .i64 (Sx.pickN c n : Nat)) ∧ w' = w := by
  have hp := pickN_int c n hn
  have hn0 : ¬ (n : Int) = 0 := by omega
  have hn1 : ((n : Int) == 0) = false := by simpa using hn0
  by_cases hc : c < 0
  · rw [if_pos hc] at hp
    have e1 : (-(c + 1)).tmod (n : Int) = (-(c + 1)) % (n : Int) := Int.tmod_eq_emod_of_nonneg (by omega)
    have hlt := Sx.pickN_lt c n hn
    have HP := hide hp
    clear hp
    go_enter Tryz.func11, Tryz.ntmps11
    go_wp2
    go_ret
    refine ⟨?_, rfl⟩
    rw [HP.out, ← e1]
    rfl
  · rw [if_neg hc] at hp
    have e1 : c.tmod (n : Int) = c % (n : Int) := Int.tmod_eq_emod_of_nonneg (by omega)
    have HP := hide hp
    clear hp
    go_enter Tryz.func11, Tryz.ntmps11
    go_wp2
    go_ret
    refine ⟨?_, rfl⟩
    rw [HP.out, ← e1]
    rfl
end Go.Proofs.YtgohllfpceeboabGreatDoor

namespace Go.Proofs.YtgohllfpceeboabGreatDoor
open Go.RowKit
theorem below_step' {w W W' : World} (h : Below w.heap.size w W) (h' : Below W.heap.size W W') : Below w.heap.size w W' := h.trans (h'.mono h.size)
/-- An int's bounds. -/
def I64 (c : Int) : Prop := -9223372036854775808 ≤ c ∧ c ≤ 9223372036854775807
set_option maxRecDepth 100000 in
set_option maxHeartbeats 2000000 in
/-- suffixkeep.names -/
theorem knames (c : Int) (w : World) (hc : I64 c) : Calls Tryz.prog 29 #[.int .i64 c] w fun e w' => e = .returned (.string ⟨(Sx.nm (Sx.pickN c 8)).toArray⟩) ∧ Below w.heap.size w w' := by
  have HP := hide (fun W => kpick c 8 W hc.1 hc.2 (by omega) (by omega))
  have hl := Sx.pickN_lt c 8 (by omega)
  obtain ⟨m, hm⟩ : ∃ m, Sx.pickN c 8 = m := ⟨_, rfl⟩
  rw [hm] at HP hl ⊢
  clear hm hc
  have HB0 : Hid (∀ o, Below w.heap.size w (w.alloc o)) := hide (fun o => (Below.refl _ w).alloc (Nat.le_refl _) o)
  go_enter Tryz.func29, Tryz.ntmps29
  go_wp2_with fail
  refine (HP.out _).mono ?_
  rintro e w1 ⟨rfl, rfl⟩
  have hcell : (w.alloc (.cells #[.string ⟨#[97]⟩, .string ⟨#[98]⟩, .string ⟨#[99, 111, 109]⟩, .string ⟨#[117, 107]⟩, .string ⟨#[120, 49]⟩, .string ⟨#[97, 45, 98]⟩, .string ⟨#[98, 195, 188, 99, 104]⟩, .string ⟨#[120, 110, 45, 45, 116, 100, 97]⟩] 9)).cell? ⟨w.heap.size, m, none⟩ = some (.string ⟨(Sx.nm m).toArray⟩) := by
    rw [Lib.cell_of_heap (heap_alloc_new _ _)]
    match m, hl with
    | 0, _ => rfl
    | 1, _ => rfl
    | 2, _ => rfl
    | 3, _ => rfl
    | 4, _ => rfl
    | 5, _ => rfl
    | 6, _ => rfl
    | 7, _ => rfl
  go_wp2
  go_ret
  exact ⟨rfl, HB0.out _⟩
theorem nm_len (i : Nat) : (Sx.nm i).length ≤ 7 := by
  unfold Sx.nm
  split <;> simp
theorem dot_two (x : List UInt8) (r : List (List UInt8)) (h : r ≠ []) : Sx.dotted (x :: r) = x ++ 46 :: Sx.dotted r := by
  obtain ⟨y, t, rfl⟩ := List.exists_cons_of_ne_nil h
  exact Sx.dotted_cons x y t
set_option maxRecDepth 100000 in
set_option maxHeartbeats 2000000 in
/-- suffixkeep.hostOf -/
theorem khostOf (a b c : Int) (w : World) (ha : I64 a) (hb : I64 b) (hc : I64 c) : Calls Tryz.prog 9 #[.int .i64 a, .int .i64 b, .int .i64 c] w fun e w' => e = .returned (.string ⟨(Sx.dotted ((Sx.hostIx a b c).map Sx.nm)).toArray⟩) ∧ Below w.heap.size w w' := by
  have HA := hide (fun W => knames a W ha)
  have HBN := hide (fun W => knames b W hb)
  have HCN := hide (fun W => knames c W hc)
  have HP9 := hide (fun W => kpick b 9 W hb.1 hb.2 (by omega) (by omega))
  have HP16 := hide (fun W => kpick c 16 W hc.1 hc.2 (by omega) (by omega))
  have hix : Sx.hostIx a b c = (if Sx.pickN c 16 < 8 then [Sx.pickN c 8] else []) ++ (if Sx.pickN b 9 < 8 then [Sx.pickN b 8] else []) ++ [Sx.pickN a 8] := rfl
  rw [hix]
  obtain ⟨x, hx⟩ : ∃ x, Sx.nm (Sx.pickN a 8) = x := ⟨_, rfl⟩
  obtain ⟨y, hy⟩ : ∃ y, Sx.nm (Sx.pickN b 8) = y := ⟨_, rfl⟩
  obtain ⟨z, hz⟩ : ∃ z, Sx.nm (Sx.pickN c 8) = z := ⟨_, rfl⟩
  have lx := nm_len (Sx.pickN a 8)
  have ly := nm_len (Sx.pickN b 8)
  have lz := nm_len (Sx.pickN c 8)
  rw [hx] at HA lx
  rw [hy] at HBN ly
  rw [hz] at HCN lz
  obtain ⟨R, hR⟩ : ∃ R, Sx.dotted (((if Sx.pickN c 16 < 8 then [Sx.pickN c 8] else []) ++ (if Sx.pickN b 9 < 8 then [Sx.pickN b 8] else []) ++ [Sx.pickN a 8]).map Sx.nm) = R := ⟨_, rfl⟩
  rw [hR]
  rw [List.map_append, List.map_append, List.map_cons, List.map_nil, hx] at hR
  obtain ⟨m, hm⟩ : ∃ m, Sx.pickN b 9 = m := ⟨_, rfl⟩
  obtain ⟨n, hn⟩ : ∃ n, Sx.pickN c 16 = n := ⟨_, rfl⟩
  rw [hm] at HP9 hR
  rw [hn] at HP16 hR
  have a1 : (⟨y.toArray⟩ : ByteArray) ++ ⟨#[46]⟩ = ⟨(y ++ [46]).toArray⟩ := ba_app y [46]
  have a2 := ba_app (y ++ [46]) x
  have a3 : (⟨z.toArray⟩ : ByteArray) ++ ⟨#[46]⟩ = ⟨(z ++ [46]).toArray⟩ := ba_app z [46]
  have a4 := ba_app (z ++ [46]) x
  have a5 := ba_app (z ++ [46]) (y ++ [46] ++ x)
  have sx : (⟨x.toArray⟩ : ByteArray).size ≤ 10 := by show x.length ≤ 10; omega
  have sy : (⟨y.toArray⟩ : ByteArray).size ≤ 10 := by show y.length ≤ 10; omega
  have sz : (⟨z.toArray⟩ : ByteArray).size ≤ 10 := by show z.length ≤ 10; omega
  have sy1 : (⟨(y ++ [46]).toArray⟩ : ByteArray).size ≤ 20 := by show (y ++ [46]).length ≤ 20; rw [List.length_append]; simp; omega
  have sz1 : (⟨(z ++ [46]).toArray⟩ : ByteArray).size ≤ 20 := by show (z ++ [46]).length ≤ 20; rw [List.length_append]; simp; omega
  have syx : (⟨(y ++ [46] ++ x).toArray⟩ : ByteArray).size ≤ 40 := by show (y ++ [46] ++ x).length ≤ 40; rw [List.length_append, List.length_append]; simp; omega
  obtain ⟨X, hX⟩ : ∃ X : ByteArray, ⟨x.toArray⟩ = X := ⟨_, rfl⟩
  obtain ⟨Y, hY⟩ : ∃ Y : ByteArray, ⟨y.toArray⟩ = Y := ⟨_, rfl⟩
  obtain ⟨Z, hZ⟩ : ∃ Z : ByteArray, ⟨z.toArray⟩ = Z := ⟨_, rfl⟩
  obtain ⟨Y1, hY1⟩ : ∃ Y1 : ByteArray, ⟨(y ++ [46]).toArray⟩ = Y1 := ⟨_, rfl⟩
  obtain ⟨Z1, hZ1⟩ : ∃ Z1 : ByteArray, ⟨(z ++ [46]).toArray⟩ = Z1 := ⟨_, rfl⟩
  obtain ⟨YX, hYX⟩ : ∃ YX : ByteArray, ⟨(y ++ [46] ++ x).toArray⟩ = YX := ⟨_, rfl⟩
  rw [hX] at a2 a4 sx HA
  rw [hY] at a1 sy HBN
  rw [hZ] at a3 sz HCN
  rw [hY1] at a1 a2 sy1
  rw [hZ1] at a3 a4 a5 sz1
  rw [hYX] at a2 a5 syx
  have EX := hide hX
  have EYX := hide hYX
  clear hix hx hm hn lx ly lz hX hY hZ hY1 hZ1 hYX
  go_enter Tryz.func9, Tryz.ntmps9
  go_wp2_with fail
  refine (HA.out _).mono ?_
  rintro e w1 ⟨rfl, hB⟩
  have HB1 := hide hB
  clear hB
  go_wp2_with fail
  refine (HP9.out _).mono ?_
  rintro e w2 ⟨rfl, rfl⟩
  by_cases h8 : m < 8
  · rw [if_pos h8, List.map_cons, List.map_nil, hy] at hR
    go_wp2_with fail
    refine (HBN.out _).mono ?_
    rintro e w3 ⟨rfl, hB⟩
    have HB3 := hide (below_step' HB1.out hB)
    clear hB
    go_wp2_with fail
    refine (HP16.out _).mono ?_
    rintro e w4 ⟨rfl, rfl⟩
    by_cases h9 : n < 8
    · rw [if_pos h9, List.map_cons, List.map_nil, hz] at hR
      have HR : Hid (R = z ++ 46 :: (y ++ 46 :: x)) := hide (by rw [← hR]; simp [Sx.dotted])
      clear hR
      go_wp2_with fail
      refine (HCN.out _).mono ?_
      rintro e w5 ⟨rfl, hB⟩
      have HB5 := hide (below_step' HB3.out hB)
      clear hB
      go_wp2
      go_ret
      exact ⟨by rw [HR.out]; rfl, HB5.out⟩
    · rw [if_neg h9, List.map_nil, List.nil_append] at hR
      have HR : Hid (R = y ++ [46] ++ x) := hide (by rw [← hR]; simp [Sx.dotted])
      have h9' : ((n : Int) < 8) = False := by simp; omega
      clear hR
      go_wp2
      go_ret
      exact ⟨by rw [HR.out, EYX.out]; rfl, HB3.out⟩
  · rw [if_neg h8, List.map_nil, List.append_nil] at hR
    have h8' : ((m : Int) < 8) = False := by simp; omega
    go_wp2_with fail
    refine (HP16.out _).mono ?_
    rintro e w4 ⟨rfl, rfl⟩
    by_cases h9 : n < 8
    · rw [if_pos h9, List.map_cons, List.map_nil, hz] at hR
      have HR : Hid (R = z ++ 46 :: x) := hide (by rw [← hR]; simp [Sx.dotted])
      clear hR
      go_wp2_with fail
      refine (HCN.out _).mono ?_
      rintro e w5 ⟨rfl, hB⟩
      have HB5 := hide (below_step' HB1.out hB)
      clear hB
      go_wp2
      go_ret
      exact ⟨by rw [HR.out]; rfl, HB5.out⟩
    · rw [if_neg h9, List.map_nil, List.nil_append] at hR
      have HR : Hid (R = x) := hide (by rw [← hR]; simp [Sx.dotted])
      have h9' : ((n : Int) < 8) = False := by simp; omega
      clear hR
      go_wp2
      go_ret
      exact ⟨by rw [HR.out, EX.out]; rfl, HB1.out⟩
end Go.Proofs.YtgohllfpceeboabGreatDoor

