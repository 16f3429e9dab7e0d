import Derived.Test.YtgohllfpceeboabGreatDoorSbbg
import Derived.Test.YtgohllfpceeboabGreatDoorSbbb
import Derived.Test.YtgohllfpceeboabGreatDoorSbbe
import Derived.Test.YtgohllfpceeboabGreatDoorSbar
import Derived.Test.YtgohllfpceeboabGreatDoorRKga
import Derived.Deep.RegionHeldLaw
namespace Go.Proofs.YtgohllfpceeboabGreatDoor
open Go.RowKit
theorem take_ext (s : ByteArray) (n : Nat) : (s.extract 0 n).data.toList = s.data.toList.take n := by
  simp [ByteArray.data_extract]
set_option maxRecDepth 100000 in
set_option maxHeartbeats 2000000 in
/-- suffixkeep.fits -/
theorem kfits (h t : ByteArray) (more : Nat) (w : World) (hh : h.size ≤ 1000) (ht : t.size ≤ 1000) : Calls Tryz.prog 16 #[.string h, .string t, .int .i64 more] w fun e w' => e = .returned (.bool (Sx.fitT h.data.toList t.data.toList more)) ∧ w' = w := by
  by_cases h1 : h.size < t.size
  · have hr : Sx.fitT h.data.toList t.data.toList more = false := by
      unfold Sx.fitT
      rw [if_pos (Or.inl (by rw [ba_len, ba_len]; exact h1))]
    rw [hr]
    clear hr
    go_enter Tryz.func16, Tryz.ntmps16
    go_wp2
    go_ret
    exact ⟨rfl, rfl⟩
  · have hn : ¬ ((h.size : Int) < t.size) := by omega
    have hnf : ((h.size : Int) < t.size) = False := by simpa using hn
    obtain ⟨n, hnn⟩ : ∃ n, h.size - t.size = n := ⟨_, rfl⟩
    have hni : (h.size : Int) - t.size = (n : Int) := by omega
    have hnl : n ≤ h.size := by omega
    have hdr : (h.extract n h.size).data.toList = h.data.toList.drop n := by rw [drop_ext]
    have htk := take_ext h n
    obtain ⟨E, hE⟩ : ∃ E, h.extract n h.size = E := ⟨_, rfl⟩
    obtain ⟨A, hA⟩ : ∃ A, h.extract 0 n = A := ⟨_, rfl⟩
    rw [hE] at hdr
    rw [hA] at htk
    have hcmp : (E.toList == t.toList) = decide (h.data.toList.drop n = t.data.toList) := by rw [ba_eq, hdr]
    have hAs : A.size = n := by rw [← ba_len, htk, List.length_take, ba_len]; omega
    have hfit : Sx.fitT h.data.toList t.data.toList more = if (E.toList == t.toList) = false then false else if n = 0 then decide (more = 0) else decide (h.data.toList.getD (n - 1) 0 = 46) := by
      unfold Sx.fitT
      rw [ba_len, ba_len, hnn, hcmp]
      simp only [h1, false_or, ne_eq, decide_eq_false_iff_not]
    have HF := hide hfit
    clear hfit hcmp hdr
    by_cases hc : (E.toList == t.toList) = true
    · by_cases h0 : n = 0
      · subst h0
        have hA0 := no_text (X := A) (by rw [htk]; rfl)
        have hx : ((more : Int) == 0) = decide (more = 0) := by
          rw [Bool.eq_iff_iff]; simp
        clear htk h1 hn
        go_enter Tryz.func16, Tryz.ntmps16
        go_wp2
        go_ret
        rw [HF.out, hc]
        refine ⟨?_, rfl⟩
        simp
      · have hA0 := ne_text (X := A) (by omega)
        have hlt : n - 1 < A.size := by omega
        have hby : A[n - 1] = h.data.toList.getD (n - 1) 0 := by
          rw [← ba_get A (n - 1) hlt, htk]
          rw [List.getD_eq_getElem?_getD, List.getD_eq_getElem?_getD, List.getElem?_take_of_lt (by omega)]
        obtain ⟨c, hcc⟩ : ∃ c, h.data.toList.getD (n - 1) 0 = c := ⟨_, rfl⟩
        rw [hcc] at hby HF
        have hn1 : (A.size : Int) - 1 = ((n - 1 : Nat) : Int) := by omega
        have hx : ((c.toNat : Int) == 46) = decide (c = 46) := by
          rw [Bool.eq_iff_iff, beq_iff_eq, decide_eq_true_eq]
          exact ⟨fun h => UInt8.toNat_inj.1 (Int.ofNat.inj h), fun h => by rw [h]; rfl⟩
        clear htk h1 hn hcc
        go_enter Tryz.func16, Tryz.ntmps16
        go_wp2
        go_ret
        rw [HF.out, hc, if_neg (by simp), if_neg h0]
        refine ⟨?_, rfl⟩
        simp
    · have hc' : (E.toList == t.toList) = false := by simpa using hc
      clear htk h1 hn hc
      go_enter Tryz.func16, Tryz.ntmps16
      go_wp2
      go_ret
      rw [HF.out, hc']
      exact ⟨rfl, rfl⟩
end Go.Proofs.YtgohllfpceeboabGreatDoor
namespace Go.Proofs.YtgohllfpceeboabGreatDoor
open Sx
/-- A host of names with z ahead of it. -/
theorem host_zix {ix : List Nat} (h : IxOk ix) (h4 : ix.length ≤ 4) : host ([122, 46] ++ dotted (ix.map nm)) = ([122] :: ix.map nmP, 0) := by
  have hf := h.few
  have hzI : ([122, 46] : List UInt8) ++ dotted (ix.map nm) = text (dotI ([122] :: ix.map nmI)) := by
    obtain ⟨i, t, rfl⟩ := List.exists_cons_of_ne_nil h.ne
    have e : dotI ([122] :: (i :: t).map nmI) = 122 :: 46 :: dotI ((i :: t).map nmI) := by simp [dotI]
    rw [e, dotted_nm h]
    rfl
  have hl : ([122, 46] ++ dotted (ix.map nm)).length ≤ 60 := by
    have := dots_le 7 (ix.map nm) (fun x hx => by
      obtain ⟨i, hi, rfl⟩ := List.mem_map.1 hx
      exact (nm_is i (h.lt i hi)).2.2.2.2.2.2.1)
    rw [List.length_map] at this
    rw [List.length_append]
    simp only [List.length_cons, List.length_nil]
    omega
  have hgood : ∀ c ∈ dotI ([122] :: ix.map nmI), Sx.Good c := fun c hc => by
    rcases mem_dotI _ c hc with rfl | ⟨x, hx, hc⟩
    · exact ⟨by omega, by omega, by omega⟩
    · rcases List.mem_cons.1 hx with rfl | hx
      · rw [List.mem_singleton.1 hc]; exact ⟨by omega, by omega, by omega⟩
      · obtain ⟨i, hi, rfl⟩ := List.mem_map.1 hx
        exact (nmI_good i (h.lt i hi) c hc).1
  conv => lhs; unfold host
  rw [if_neg (by omega), hzI, letters_text _ hgood]
  simp only
  rw [hostGo_dotI ([122] :: ix.map nmI) ([122] :: ix.map nmP) (by simp) (by
    rw [List.map_cons, List.map_cons, List.map_map, List.map_map]
    rw [show label [122] = some [122] by decide +kernel]
    congr 1
    exact List.map_congr_left fun i hi => (nm_is i (h.lt i hi)).2.1) (fun x hx c hc => by
    rcases List.mem_cons.1 hx with rfl | hx
    · rw [List.mem_singleton.1 hc]; omega
    · obtain ⟨i, hi, rfl⟩ := List.mem_map.1 hx
      exact (nmI_good i (h.lt i hi) c hc).2.1)]
  simp only
  have h1 := hostEnd_ix h
  have hlast : ([122] :: ix.map nmP).getD (([122] :: ix.map nmP).length - 1) [] = (ix.map nmP).getD ((ix.map nmP).length - 1) [] := by
    obtain ⟨i, t, rfl⟩ := List.exists_cons_of_ne_nil h.ne
    simp
  unfold hostEnd at h1 ⊢
  rw [hlast]
  split at h1
  · exact absurd (congrArg Prod.snd h1) (by simp)
  · rename_i hc
    rw [if_neg]
    simp only [Bool.or_eq_true, decide_eq_true_eq, not_or] at hc ⊢
    refine ⟨⟨hc.1.1, by rw [List.length_cons, List.length_map]; omega⟩, ?_⟩
    have : ∀ jx : List Nat, (∀ i ∈ jx, i < 8) → allLen (jx.map nmP) ≤ jx.length * 12 := by
      intro jx
      induction jx with
      | nil => intro _; simp [allLen]
      | cons i jx ih =>
        intro hj
        have e1 := ih (fun k hk => hj k (by simp [hk]))
        have e2 := (nm_is i (hj i (by simp))).2.2.2.2.2.1
        simp only [allLen, List.map_cons, List.sum_cons, List.length_cons] at e1 ⊢
        omega
    have h2 := this ix h.lt
    simp only [allLen, List.map_cons, List.sum_cons, List.length_cons, List.length_nil] at h2 ⊢
    omega
/-- What may be set, by what Lookup tells. -/
theorem may_look {rs : List Rl} (hr : ∀ r ∈ rs, RlRt r) {V H : List (List UInt8)} (hV : HostOk V) (hH : HostOk H) :
    mayD rs V H = if fitT (dotted H) (dotted V) 1 = true then !decide (lastP (dotted V) (pubI (prvl rs (dotted V))) = dotted V) else decide (dotted V = dotted H) := by
  rw [← may_is hr hV hH, fitT_is]
  unfold mayP
  by_cases hs : suffixB (dotted H) (46 :: dotted V) = true
  · have hne : ¬ dotted V = dotted H := fun e => by
      have := (suf_iff hH hV).1 hs
      rw [(dotted_eq hV hH).1 e] at this
      omega
    rw [hs]
    simp only [Bool.true_or, if_true, Bool.true_and, hne, decide_false, Bool.false_or]
    congr 1
    rw [Bool.eq_iff_iff]
    simp only [decide_eq_true_eq]
    exact ⟨fun e => e.symm, fun e => e.symm⟩
  · rw [Bool.not_eq_true] at hs
    rw [hs]
    simp
/-- SETS, of the pure answers. -/
theorem sets_pure {rs : List Rl} {H V : List (List UInt8)} {s0 : List UInt8} {p q : Int} (hV : HostOk V) (Z : List (List UInt8)) (hZ : H ≠ Z) (d e : Bool) :
    let o0 : Org := (some (s0, H, p), [])
    let o1 : Org := (some (s0, Z, q), [])
    let o0' : Org := if d = true then (some (s0, H, p), dotted V) else o0
    let o1' : Org := if e = true then (some (s0, Z, q), dotted V) else o1
    relA 0 1 o0 o1 = false ∧ relB 0 1 o0 o1 = false ∧ relA 0 1 o0' o1 = false ∧ relB 0 1 o0' o1 = false ∧ relC rs 0 1 o0' o1 = relC rs 0 1 o0 o1 ∧ relB 0 1 o0' o1' = (d && e) := by
  have hne : dotted V ≠ [] := dotted_nil hV.1 (fun x hx => (hV.2.2.2 x hx).1)
  have h0 : relA 0 1 ((some (s0, H, p), []) : Org) (some (s0, Z, q), []) = false := by
    unfold relA
    simp [hZ]
  refine ⟨h0, ?_, ?_, ?_, ?_, ?_⟩
  · unfold relB
    rw [if_pos ⟨rfl, rfl⟩]; exact h0
  · cases d
    · exact h0
    · unfold relA; simp [hZ]
  · cases d
    · unfold relB
      simp only [Bool.false_eq_true, if_false]
      rw [if_pos ⟨trivial, trivial⟩]; exact h0
    · unfold relB
      simp [hne]
  · cases d
    · rfl
    · unfold relC siteP; rfl
  · cases d <;> cases e
    · unfold relB
      simp only [Bool.false_eq_true, if_false]
      rw [if_pos ⟨trivial, trivial⟩]; exact h0
    · unfold relB
      simp [hne, Ne.symm hne]
    · unfold relB
      simp [hne]
    · unfold relB
      simp [hne, schOf]
end Go.Proofs.YtgohllfpceeboabGreatDoor
