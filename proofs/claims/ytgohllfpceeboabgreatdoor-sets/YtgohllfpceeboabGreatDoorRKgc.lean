import Derived.Test.YtgohllfpceeboabGreatDoorSbbg
import Derived.Test.YtgohllfpceeboabGreatDoorSbbe
import Derived.Test.YtgohllfpceeboabGreatDoorRKga
import Derived.Test.YtgohllfpceeboabGreatDoorRKgb
import Derived.Deep.RegionHeldLaw
import Derived.Deep.CutBlock
import Derived.Deep.DeepCutAuto
namespace Go.Proofs.YtgohllfpceeboabGreatDoor
open Go.RowKit
/-- The rule that prevails for a host, and what it tells. -/
theorem prevH {rs : List Sx.Rl} {H : List (List UInt8)} (hrt : Sx.RlsRt rs) (hh : Sx.HostOk H) (P : ByteArray) (hPl : P.data.toList = Sx.dotted H) :
    (∀ v W, PrAt W v rs → Calls Tryz.prog 39 #[v, .string P] W fun e w' => e = .returned (ruA (prvl rs (Sx.dotted H))) ∧ Below W.heap.size W w') ∧
    (∀ W, Calls Tryz.prog 41 #[ruA (prvl rs (Sx.dotted H)), .string P] W fun e w' => e = .returned (.string ⟨(lastP (Sx.dotted H) (pubI (prvl rs (Sx.dotted H)) + 1)).toArray⟩) ∧ Below W.heap.size W w') ∧
    (∀ W, Calls Tryz.prog 40 #[ruA (prvl rs (Sx.dotted H)), .string P] W fun e w' => e = .returned (.string ⟨(lastP (Sx.dotted H) (pubI (prvl rs (Sx.dotted H)))).toArray⟩) ∧ Below W.heap.size W w') := by
  obtain ⟨p1, p2, p3⟩ := prvl_pub hh hrt.ok
  have hle := pubL_le hh.1 rs
  have h6 := hh.2.1
  have hdl : (Sx.dotted H).length ≤ 60 := by have := Sx.dotted_allL H hh.1; have := hh.2.2.1; omega
  have hPs : P.size ≤ 1000 := by rw [← ba_len, hPl]; omega
  have hbest : (prvl rs (Sx.dotted H)).1.length ≤ 1000 := prvl_mem _ (fun r => r.1.length ≤ 1000) (by simp) rs (fun r hr => by have := (rt_small (hrt.ok r hr)).1; omega)
  have hPe : P = ⟨(Sx.dotted H).toArray⟩ := by rw [← hPl]
  refine ⟨fun v W hv => ?_, fun W => ?_, fun W => ?_⟩
  · have := pprvl rs (Sx.dotted H) v W hv (fun r hr => ⟨by have := (rt_small (hrt.ok r hr)).1; omega, by have := (rt_small (hrt.ok r hr)).2; omega⟩) (by omega) (by have := hrt.many; omega)
    rw [← hPe] at this
    exact this
  · have := pdomO (prvl rs (Sx.dotted H)) _ P W hbest p1 p3 (by omega) hPs
    rw [hPl] at this
    rw [p1]
    exact this
  · have := psufO (prvl rs (Sx.dotted H)) _ P W hbest p1 p3 (by omega) hPs
    rw [hPl] at this
    rw [p1]
    exact this
theorem allLen_drop (h : List (List UInt8)) (k : Nat) : Sx.allLen (h.drop k) ≤ Sx.allLen h := by
  unfold Sx.allLen
  conv => rhs; rw [← List.take_append_drop k h]
  rw [List.map_append, List.sum_append]
  omega
theorem lastH_len {H : List (List UInt8)} (hh : Sx.HostOk H) (n : Nat) (hn : 1 ≤ n) : (lastP (Sx.dotted H) n).length ≤ 60 := by
  rw [lastP_is hh n hn]
  split
  · by_cases he : H.drop (H.length - n) = []
    · rw [he]; simp [Sx.dotted]
    · have h1 := Sx.dotted_allL _ he
      have h2 := allLen_drop H (H.length - n)
      have h3 := hh.2.2.1
      omega
  · simp
theorem lastD_len {rs : List Sx.Rl} {H : List (List UInt8)} (hrt : Sx.RlsRt rs) (hh : Sx.HostOk H) : (lastP (Sx.dotted H) (pubI (prvl rs (Sx.dotted H)) + 1)).length ≤ 60 := by
  obtain ⟨p1, p2, p3⟩ := prvl_pub hh hrt.ok
  have e : ((Sx.pubL H rs).1 : Int) + 1 = (((Sx.pubL H rs).1 + 1 : Nat) : Int) := by omega
  rw [p1, e]
  exact lastH_len hh _ (by omega)
theorem c3_new (w : World) (s h : ByteArray) (p : Int) : ∀ W, Below (w.alloc (.cells #[.string s, .string h, .int .i64 p] 72)).heap.size (w.alloc (.cells #[.string s, .string h, .int .i64 p] 72)) W → W.cell? ⟨w.heap.size, 0, none⟩ = some (.string s) ∧ W.cell? ⟨w.heap.size, 1, none⟩ = some (.string h) ∧ W.cell? ⟨w.heap.size, 2, none⟩ = some (.int .i64 p) := fun W hB => by
  have hm := World.cell?_alloc_mark w #[.string s, .string h, .int .i64 p] 72 (0, 0)
  have hz : w.heap.size < (w.alloc (.cells #[.string s, .string h, .int .i64 p] 72)).heap.size := by rw [World.size_alloc]; omega
  exact ⟨(hB.cell (p := ⟨w.heap.size, 0, none⟩) hz).trans ((hm 0).trans rfl), (hB.cell (p := ⟨w.heap.size, 1, none⟩) hz).trans ((hm 1).trans rfl), (hB.cell (p := ⟨w.heap.size, 2, none⟩) hz).trans ((hm 2).trans rfl)⟩
set_option maxRecDepth 100000 in
set_option maxHeartbeats 4000000 in
/-- (*suffix.World).site -/
theorem psite (g n : Nat) (rs : List Sx.Rl) (os : List Org) (w : World) (hr : RdW w g rs os) (hn : n < os.length) (hok : ∀ o ∈ os, OrgOk o) (hrt : Sx.RlsRt rs) : Calls Tryz.prog 93 #[.pointer (some ⟨g, 0, none⟩), .int .i64 n] w fun e w' => e = .returned (.string ⟨(siteP rs os[n]).toArray⟩) ∧ Below w.heap.size w w' := by
  have HRD := hide hr
  obtain ⟨rv, p, cap, h1, h2, h3, h4, h5⟩ := hr
  obtain ⟨rb, rfl, hrb, o1⟩ := h5 n hn
  have hxo := hok os[n] (List.getElem_mem hn)
  have HOP := hide (fun W => popqO os[n] W hxo)
  obtain ⟨x, hx⟩ : ∃ x, os[n] = x := ⟨_, rfl⟩
  rw [hx] at o1 HOP hxo ⊢
  clear hx h5 hok
  unfold O4 at o1
  unfold orgA at HOP
  obtain ⟨c1, c2, c3, c4⟩ := o1
  obtain ⟨ox, d⟩ := x
  cases ox with
  | none =>
    rw [decide_eq_true rfl] at HOP
    have hs : siteP rs (none, d) = opqB := rfl
    rw [hs]
    dsimp only [schOf, hstOf, prtOf] at c1 c2 c3 c4 HOP
    go_enter Tryz.func93, Tryz.ntmps93
    go_wp2_with fail
    refine (HOP.out _).mono ?_
    rintro e v1 ⟨rfl, hB⟩
    have HB := hide (below_to ((Below.refl _ w).alloc (Nat.le_refl _) _) hB)
    clear hB
    go_wp2
    go_ret
    exact ⟨rfl, HB.out⟩
  | some t =>
    obtain ⟨s, H, q⟩ := t
    rw [decide_eq_false (by simp)] at HOP
    obtain ⟨hsc, hh, -⟩ := hxo
    have hsP : siteP rs (some (s, H, q), d) = s ++ [58, 47, 47] ++ (if lastP (Sx.dotted H) (pubI (prvl rs (Sx.dotted H)) + 1) = [] then Sx.dotted H else lastP (Sx.dotted H) (pubI (prvl rs (Sx.dotted H)) + 1)) := rfl
    rw [hsP]
    dsimp only [schOf, hstOf, prtOf] at c1 c2 c3 c4 HOP
    have hsl : s.length ≤ 5 := by rcases hsc with rfl | rfl <;> simp [httpB, httpsB]
    have hdl : (Sx.dotted H).length ≤ 60 := by have := Sx.dotted_allL H hh.1; have := hh.2.2.1; omega
    obtain ⟨P, hP⟩ : ∃ X : ByteArray, ⟨(Sx.dotted H).toArray⟩ = X := ⟨_, rfl⟩
    have hPl : P.data.toList = Sx.dotted H := by rw [← hP]
    obtain ⟨v1, v2, -⟩ := prevH hrt hh P hPl
    have HPV := hide (fun W (h : Below w.heap.size w W) => v1 rv W (h4.below h))
    have HDO := hide v2
    have hol := lastD_len hrt hh
    obtain ⟨ow, how⟩ : ∃ o, lastP (Sx.dotted H) (pubI (prvl rs (Sx.dotted H)) + 1) = o := ⟨_, rfl⟩
    rw [how] at HDO hol ⊢
    obtain ⟨⟨bh, bk, bs⟩, hb⟩ : ∃ b, prvl rs (Sx.dotted H) = b := ⟨_, rfl⟩
    rw [hb] at HPV HDO
    unfold ruA at HPV HDO
    dsimp only at HPV HDO
    rw [hP] at c2 HOP
    obtain ⟨S, hS⟩ : ∃ X : ByteArray, ⟨s.toArray⟩ = X := ⟨_, rfl⟩
    obtain ⟨D, hD⟩ : ∃ X : ByteArray, ⟨d.toArray⟩ = X := ⟨_, rfl⟩
    obtain ⟨O, hO⟩ : ∃ X : ByteArray, ⟨ow.toArray⟩ = X := ⟨_, rfl⟩
    obtain ⟨E, hE⟩ : ∃ X : ByteArray, ⟨(Sx.dotted bh).toArray⟩ = X := ⟨_, rfl⟩
    obtain ⟨M, hM⟩ : ∃ M, bh.length = M := ⟨_, rfl⟩
    rw [hE, hM] at HPV HDO
    rw [hO] at HDO
    rw [hS] at c1 HOP
    rw [hD] at c4 HOP
    obtain ⟨rp, rc, rfl, -⟩ := h4
    have hOl : O.data.toList = ow := by rw [← hO]
    have hOs : O.size ≤ 60 := by rw [← ba_len, hOl]; exact hol
    have hPs : P.size ≤ 60 := by rw [← ba_len, hPl]; exact hdl
    have hSs : S.size ≤ 5 := by rw [← hS]; exact hsl
    have a1 : S ++ ⟨#[58, 47, 47]⟩ = ⟨(s ++ [58, 47, 47]).toArray⟩ := by rw [← hS]; exact ba_app s [58, 47, 47]
    have a2 := ba_app (s ++ [58, 47, 47]) ow
    have a3 := ba_app (s ++ [58, 47, 47]) (Sx.dotted H)
    obtain ⟨T1, hT1⟩ : ∃ X : ByteArray, ⟨(s ++ [58, 47, 47]).toArray⟩ = X := ⟨_, rfl⟩
    have hT1s : T1.size ≤ 8 := by rw [← hT1]; show (s ++ [58, 47, 47]).length ≤ 8; rw [List.length_append]; simp; omega
    rw [hT1] at a1 a2 a3
    rw [hO] at a2
    rw [hP] at a3
    have HOF : Hid (∀ W, Below (w.alloc (.cells #[.string S, .string P, .int .i64 q, .string D] 75)).heap.size (w.alloc (.cells #[.string S, .string P, .int .i64 q, .string D] 75)) W → C4 W w.heap.size S P q D) := hide (fun W h => (c4_new w S P D q).below h (by rw [World.size_alloc]; omega))
    have hcase : ow = [] ∨ ow ≠ [] := Decidable.em _
    obtain ⟨FN, hFN⟩ : ∃ X : ByteArray, ⟨(s ++ [58, 47, 47] ++ (if ow = [] then Sx.dotted H else ow)).toArray⟩ = X := ⟨_, rfl⟩
    rw [hFN]
    have HF1 : Hid (ow = [] → T1 ++ P = FN) := hide (fun h => by rw [a3, ← hFN, if_pos h])
    have HF2 : Hid (ow ≠ [] → T1 ++ O = FN) := hide (fun h => by rw [a2, ← hFN, if_neg h])
    clear a2 a3 hFN
    clear how hb hE hM v1 v2 hsP hsc hh hrt hPl hP hS hD hO hT1 hsl hdl hol
    go_enter Tryz.func93, Tryz.ntmps93
    go_wp2_with fail
    refine (HOP.out _).mono ?_
    rintro e y1 ⟨rfl, hB⟩
    have HB1 := hide (below_to ((Below.refl _ w).alloc (Nat.le_refl _) _) hB)
    obtain ⟨f1, f2, f3, f4⟩ := HOF.out _ hB
    have g0 := (HB1.out.cell (p := ⟨g, 0, none⟩) h1).trans h2
    clear hB c1 c2 c3 c4 h3 h2
    have HFR := hide (c3_new y1 S P q)
    obtain ⟨t1, t2, t3⟩ := HFR.out _ (Below.refl _ _)
    have HB2 := hide (HB1.out.alloc HB1.out.size (.cells #[.string S, .string P, .int .i64 q] 72))
    go_wp2_with fail
    obtain ⟨VA, hVA⟩ : ∃ V, y1.alloc (.cells #[.string S, .string P, .int .i64 q] 72) = V := ⟨_, rfl⟩
    have gA := (HB2.out.cell (p := ⟨g, 0, none⟩) h1).trans ((HB1.out.cell (p := ⟨g, 0, none⟩) h1).symm.trans g0)
    rw [hVA] at HFR t1 t2 t3 HB2 gA ⊢
    have HG0 : Hid (∀ W, Below VA.heap.size VA W → W.cell? ⟨g, 0, none⟩ = some (.slice rp rs.length rc) ∧ W.cell? ⟨y1.heap.size, 1, none⟩ = some (.string P)) := hide (fun W h => ⟨(h.cell (p := ⟨g, 0, none⟩) (Nat.lt_of_lt_of_le h1 HB2.out.size)).trans gA, (HFR.out W h).2.1⟩)
    have hS0 := HG0.out VA (Below.refl _ _)
    have hbA : Below VA.heap.size VA VA := Below.refl _ _
    have hbz := HB1.out.size
    clear hVA f1 f2 f3 f4 g0 gA t1 t2 t3 HOF HOP
    go_region_held_law (fun w' => w'.cell? ⟨g, 0, none⟩ = some (.slice rp rs.length rc) ∧ w'.cell? ⟨y1.heap.size, 1, none⟩ = some (.string P)) (first | exact hS2 | exact hS1 | exact hS0 | go_keep) (first | (go_at_call 39; refine (HPV.out _ (below_to HB2.out (by first | exact hbA | exact hbA.drew))).mono ?_; rintro e v1 ⟨rfl, hB1⟩; have hb1 : Below VA.heap.size VA v1 := below_to (by first | exact hbA | exact hbA.drew) hB1; have hS1 := HG0.out v1 hb1) | (go_at_call 41; refine (HDO.out _).mono ?_; rintro e v2 ⟨rfl, hB2⟩; have hb2 : Below VA.heap.size VA v2 := below_to (by first | exact hb1 | exact hb1.drew) hB2; have hS2 := HG0.out v2 hb2))
    all_goals (
      obtain ⟨t1, t2, t3⟩ := HFR.out _ hb2
      have HBF := hide (below_to HB2.out hb2)
      clear hb1 hb2 hB1 hB2 hS0 hS1 hS2
      rcases hcase with hc | hc
      · have hO0 := no_text (X := O) (by rw [hOl, hc])
        have hF := HF1.out hc
        clear hc hOl
        go_wp2
        go_ret
        exact ⟨rfl, HBF.out⟩
      · have hO0 := ne_text (X := O) (by rw [← ba_len, hOl]; exact List.length_pos_iff.2 hc)
        have hF := HF2.out hc
        clear hc hOl
        go_wp2
        go_ret
        exact ⟨rfl, HBF.out⟩)
end Go.Proofs.YtgohllfpceeboabGreatDoor
