import Derived.Test.YtgohllfpceeboabGreatDoorSbbg
import Derived.Test.YtgohllfpceeboabGreatDoorRKga
import Derived.Test.YtgohllfpceeboabGreatDoorRKgb
import Derived.Test.YtgohllfpceeboabGreatDoorRKgc
import Derived.Test.YtgohllfpceeboabGreatDoorRKgd
import Derived.Test.YtgohllfpceeboabGreatDoorRKge
import Derived.Test.YtgohllfpceeboabGreatDoorRKgf
import Derived.Test.YtgohllfpceeboabGreatDoorRKgg
import Derived.Test.YtgohllfpceeboabGreatDoorRKgh
import Derived.Test.YtgohllfpceeboabGreatDoorRKgi
import Derived.Test.YtgohllfpceeboabGreatDoorRKgj
import Derived.Deep.RegionHeldLaw
import Derived.Deep.RegionLaw
namespace Go.Proofs.YtgohllfpceeboabGreatDoor
open Go.RowKit
set_option maxRecDepth 100000 in
set_option maxHeartbeats 4000000 in
/-- (*suffix.World).Opaque -/
theorem pOpaqueE (g : Nat) (rs : List Sx.Rl) (os : List Org) (w : World) (hW : WlAt w g rs os) (hl : os.length < 20) : Calls Tryz.prog 12 #[.pointer (some ⟨g, 0, none⟩)] w fun e w' => e = .returned (.tuple #[.int .i64 os.length, .int .i64 0]) ∧ WlAt w' g rs (os ++ [(none, [])]) ∧ Below g w w' ∧ KeepB w w' := by
  have HA := hide (paddW g (none, []) rs os w hW hl)
  have hA : orgA (none, []) = .agg #[.string ⟨#[]⟩, .string ⟨#[]⟩, .int .i64 0, .string ⟨#[]⟩] := rfl
  rw [hA] at HA
  clear hW hA
  go_enter Tryz.func12, Tryz.ntmps12
  go_wp2_with fail
  refine HA.out.mono ?_
  rintro e w1 ⟨rfl, hS⟩
  have HS := hide hS
  clear hS
  go_wp2
  go_ret2
  exact ⟨rfl, HS.out⟩
set_option maxRecDepth 100000 in
set_option maxHeartbeats 4000000 in
/-- (*suffix.World).Tuple -/
theorem pTupleE (g : Nat) (s h : ByteArray) (p : Int) (rs : List Sx.Rl) (os : List Org) (w : World) (hw : LWt w) (hW : WlAt w g rs os) (hl : os.length < 20) (hs : schOk s.data.toList) (hp : 0 ≤ p ∧ p ≤ 65535) (hh : (Sx.host h.data.toList).2 = 0) : Calls Tryz.prog 10 #[.pointer (some ⟨g, 0, none⟩), .string s, .string h, .int .i64 p] w fun e w' => e = .returned (.tuple #[.int .i64 os.length, .int .i64 0]) ∧ WlAt w' g rs (os ++ [(some (s.data.toList, (Sx.host h.data.toList).1, p), [])]) ∧ Below g w w' ∧ KeepB w w' := by
  have hg : g < w.heap.size := by obtain ⟨rv, p, cap, h1, -⟩ := hW.read; exact h1
  have HSC := hide (pschm s w)
  have HPT := hide (pport p w)
  rw [decide_eq_true hs] at HSC
  rw [decide_eq_true hp] at HPT
  have HHI := hide (phip_any h w hw)
  unfold PlnPost at HHI
  have hpl : Sx.plainR h.data.toList = (Sx.dotted (Sx.host h.data.toList).1, 0) := by
    unfold Sx.plainR
    rw [← hh]
  rw [hpl] at HHI
  obtain ⟨HH, hHH⟩ : ∃ H, (Sx.host h.data.toList).1 = H := ⟨_, rfl⟩
  rw [hHH] at HHI ⊢
  have hss : 0 < s.size ∧ s.size ≤ 5 := by
    rw [← ba_len]
    rcases hs with e | e <;> rw [e] <;> simp [httpB, httpsB]
  have hAd : ∀ W, Below w.heap.size w W → Calls Tryz.prog 34 #[.pointer (some ⟨g, 0, none⟩), orgA (some (s.data.toList, HH, p), [])] W fun e w' => e = .returned (.tuple #[.int .i64 os.length, .int .i64 0]) ∧ WlAt w' g rs (os ++ [(some (s.data.toList, HH, p), [])]) ∧ Below g W w' ∧ KeepB W w' := fun W hB => paddW g (some (s.data.toList, HH, p), []) rs os W (hW.below hB) hl
  have hA : orgA (some (s.data.toList, HH, p), []) = .agg #[.string s, .string ⟨(Sx.dotted HH).toArray⟩, .int .i64 p, .string ⟨#[]⟩] := by
    unfold orgA schOf hstOf prtOf
    simp
  rw [hA] at hAd
  have HAD := hide hAd
  obtain ⟨P, hP⟩ : ∃ X : ByteArray, ⟨(Sx.dotted HH).toArray⟩ = X := ⟨_, rfl⟩
  dsimp only at HHI
  rw [hP] at HHI HAD
  have HNT := hide (fun W => pntup s P p W hss.1 (by omega))
  clear hpl hHH hAd hA hP hW hs hh hw
  go_enter Tryz.func10, Tryz.ntmps10
  go_wp2_with fail
  refine HSC.out.mono ?_
  rintro e w1 ⟨rfl, rfl⟩
  go_wp2_with fail
  refine HPT.out.mono ?_
  rintro e w1 ⟨rfl, rfl⟩
  go_wp2_with fail
  refine HHI.out.mono ?_
  rintro e w2 ⟨hB, rfl⟩
  have HB2 := hide hB
  clear hB
  go_wp2_with fail
  refine (HNT.out _).mono ?_
  rintro e w3 ⟨rfl, hB⟩
  have HB3 := hide (below_to HB2.out hB)
  clear hB
  go_wp2_with fail
  refine (HAD.out _ HB3.out).mono ?_
  rintro e w4 ⟨rfl, q3, q4, q5⟩
  have HS : Hid (WlAt w4 g rs (os ++ [(some (s.data.toList, HH, p), [])]) ∧ Below g w1 w4 ∧ KeepB w1 w4) := hide ⟨q3, (HB3.out.mono (by omega)).trans q4, (keepB_below HB3.out).trans q5⟩
  clear q3 q4 q5
  go_wp2
  go_ret2
  exact ⟨rfl, HS.out⟩
/-- What Domain answers, and the origins then. -/
def domR (rs : List Sx.Rl) (os : List Org) (n : Int) (V : List (List UInt8)) : Int × List Org :=
  if 0 ≤ n ∧ n < os.length then
    match os[n.toNat]? with
    | some (none, _) => (8, os)
    | some (some (s, H, q), _) => if mayP rs V H = true then (0, os.set n.toNat (some (s, H, q), Sx.dotted V)) else (9, os)
    | none => (7, os)
  else (7, os)
theorem domR_none {rs : List Sx.Rl} {os : List Org} {m : Nat} {V : List (List UInt8)} {d : List UInt8} (hm : m < os.length) (h : os[m] = (none, d)) : domR rs os m V = (8, os) := by
  unfold domR
  rw [if_pos ⟨by omega, by omega⟩, Int.toNat_natCast, List.getElem?_eq_getElem hm, h]
theorem domR_some {rs : List Sx.Rl} {os : List Org} {m : Nat} {V : List (List UInt8)} {s d : List UInt8} {H : List (List UInt8)} {q : Int} (hm : m < os.length) (h : os[m] = (some (s, H, q), d)) : domR rs os m V = if mayP rs V H = true then (0, os.set m (some (s, H, q), Sx.dotted V)) else (9, os) := by
  unfold domR
  rw [if_pos ⟨by omega, by omega⟩, Int.toNat_natCast, List.getElem?_eq_getElem hm, h]
theorem domR_out {rs : List Sx.Rl} {os : List Org} {n : Int} {V : List (List UInt8)} (h : ¬ (0 ≤ n ∧ n < os.length)) : domR rs os n V = (7, os) := by
  unfold domR
  rw [if_neg h]
set_option maxRecDepth 100000 in
set_option maxHeartbeats 4000000 in
/-- (*suffix.World).Domain -/
theorem pDomainE (g : Nat) (n : Int) (v : ByteArray) (rs : List Sx.Rl) (os : List Org) (w : World) (hw : LWt w) (hW : WlAt w g rs os) (hok : ∀ o ∈ os, OrgOk o) (hrt : Sx.RlsRt rs) (hh : (Sx.host v.data.toList).2 = 0) : Calls Tryz.prog 17 #[.pointer (some ⟨g, 0, none⟩), .int .i64 n, .string v] w fun e w' => e = .returned (.int .i64 (domR rs os n (Sx.host v.data.toList).1).1) ∧ WlAt w' g rs (domR rs os n (Sx.host v.data.toList).1).2 ∧ Below g w w' ∧ KeepB w w' := by
  have hr := hW.read
  have hg : g < w.heap.size := by obtain ⟨rv, p, cap, h1, -⟩ := hW.read; exact h1
  have HH := hide (phas g n rs os w hr)
  by_cases hn : 0 ≤ n ∧ n < os.length
  · rw [decide_eq_true hn] at HH
    obtain ⟨m, rfl⟩ : ∃ m : Nat, n = m := ⟨n.toNat, by omega⟩
    have hm : m < os.length := by omega
    have HHI := hide (fun W hW => phip_any v W hW)
    unfold PlnPost at HHI
    have hpl : Sx.plainR v.data.toList = (Sx.dotted (Sx.host v.data.toList).1, 0) := by
      unfold Sx.plainR
      rw [← hh]
    rw [hpl] at HHI
    have hHo := Sx.host_ok v.data.toList hh
    obtain ⟨V, hV⟩ : ∃ H, (Sx.host v.data.toList).1 = H := ⟨_, rfl⟩
    rw [hV] at HHI hHo ⊢
    have hxo := hok os[m] (List.getElem_mem hm)
    have HOP := hide (fun W => popqO os[m] W hxo)
    obtain ⟨W0, rv, ov, t1, t2, t3, t4, t5⟩ := hW
    obtain ⟨p, cap, rfl⟩ := own_shapeK t5
    have hWl : WlAt w g rs os := ⟨W0, rv, _, t1, t2, t3, t4, t5⟩
    obtain ⟨rb, rfl⟩ : ∃ rb, p = some ⟨rb, 0, none⟩ := by
      rcases t5.2 with ⟨e1, e2⟩ | ⟨b, cap', cur, e1, e2, e3, e4⟩
      · omega
      · exact ⟨b, by injection e1⟩
    have hrb := t5.lt rb rfl
    have c1 : w.cell? ⟨g, 1, none⟩ = some (.slice (some ⟨rb, 0, none⟩) os.length cap) := by simp [World.cell?, t4]
    obtain ⟨a1, a2, a3, a4⟩ := orgCs_get os m hm
    have hadd : ∀ k, (⟨rb, 0, none⟩ : Addr).add k = ⟨rb, k, none⟩ := fun k => by rw [Addr.add_lit, Nat.zero_add]
    have hcc : ∀ k u, (orgCs os)[k]? = some u → w.cell? ⟨rb, k, none⟩ = some u := fun k u hu => by
      rw [← hadd]; exact t5.cells (g := rb) rfl _ _ hu
    have d1 := hcc _ _ a1
    have d2 := hcc _ _ a2
    have d3 := hcc _ _ a3
    have d4 := hcc _ _ a4
    obtain ⟨ox, hox⟩ : ∃ x, os[m] = x := ⟨_, rfl⟩
    rw [hox] at d1 d2 d3 d4 HOP hxo
    unfold orgA at HOP
    have HWL := hide (fun W (h : Below w.heap.size w W) => hWl.below h)
    have HLW : Hid (∀ W, Below w.heap.size w W → LWt W) := hide (fun W h => lwt_stays _ _ hw h)
    have hset := orgCs_set os m hm (Sx.dotted V)
    rw [hox] at hset
    have HT5 := hide t5
    obtain ⟨o1, d⟩ := ox
    clear a1 a2 a3 a4 hadd hcc hr t2 t3 hpl hV hw
    cases o1 with
    | none =>
      rw [domR_none hm hox]
      rw [decide_eq_true rfl] at HOP
      dsimp only [schOf, hstOf, prtOf] at d1 d2 d3 d4 HOP
      clear hset
      go_enter Tryz.func17, Tryz.ntmps17
      go_wp2_with fail
      refine HH.out.mono ?_
      rintro e w1 ⟨rfl, rfl⟩
      go_wp2_with fail
      refine (HOP.out _).mono ?_
      rintro e w2 ⟨rfl, hB⟩
      have HB := hide hB
      clear hB
      go_wp2
      go_ret
      exact ⟨rfl, HWL.out _ HB.out, HB.out.mono (by omega), keepB_below HB.out⟩
    | some t =>
      obtain ⟨s, H, q⟩ := t
      rw [domR_some hm hox]
      rw [decide_eq_false (by simp)] at HOP
      obtain ⟨-, hHH, -⟩ := hxo
      dsimp only [schOf, hstOf, prtOf] at d1 d2 d3 d4 HOP
      obtain ⟨PV, hPV⟩ : ∃ X : ByteArray, ⟨(Sx.dotted V).toArray⟩ = X := ⟨_, rfl⟩
      obtain ⟨PH, hPH⟩ : ∃ X : ByteArray, ⟨(Sx.dotted H).toArray⟩ = X := ⟨_, rfl⟩
      have HMY := hide (fun W (h : Below w.heap.size w W) => pmay g V H PV PH rs os W (hWl.below h).read hrt hHo hHH (by rw [← hPV]) (by rw [← hPH]))
      obtain ⟨MB, hMB⟩ : ∃ b, mayP rs V H = b := ⟨_, rfl⟩
      rw [hMB] at HMY ⊢
      dsimp only at HHI
      rw [hPV] at HHI hset
      rw [hPH] at d2 HOP
      obtain ⟨S, hS⟩ : ∃ X : ByteArray, ⟨s.toArray⟩ = X := ⟨_, rfl⟩
      obtain ⟨D, hD⟩ : ∃ X : ByteArray, ⟨d.toArray⟩ = X := ⟨_, rfl⟩
      rw [hS] at d1 HOP
      rw [hD] at d4 HOP
      have HSET := hide hset
      have HC : Hid (∀ W, Below w.heap.size w W → W.cell? ⟨rb, m * 4 + 1, none⟩ = some (.string PH) ∧ W.cell? ⟨rb, m * 4 + 3, none⟩ = some (.string D) ∧ W.frozen? ⟨rb, m * 4 + 3, none⟩ = false) := hide (fun W h => by
        refine ⟨(h.cell (p := ⟨rb, m * 4 + 1, none⟩) hrb.2).trans d2, (h.cell (p := ⟨rb, m * 4 + 3, none⟩) hrb.2).trans d4, (h.frozen (p := ⟨rb, m * 4 + 3, none⟩) hrb.2).trans ?_⟩
        rcases HT5.out.2 with ⟨e1, _⟩ | ⟨b, cap', cur, e1, e2, e3, e4⟩
        · cases e1
        · injection e1 with e1
          injection e1 with e1
          injection e1 with e1
          subst e1
          simp [World.frozen?, e3])
      have HFIN : Hid (∀ W, Below w.heap.size w W → WlAt (W.setCell ⟨rb, m * 4 + 3, none⟩ (.string PV)) g rs (os.set m (some (s, H, q), Sx.dotted V)) ∧ Below g w (W.setCell ⟨rb, m * 4 + 3, none⟩ (.string PV)) ∧ KeepB w (W.setCell ⟨rb, m * 4 + 3, none⟩ (.string PV))) := hide (fun W h => by
        obtain ⟨W0', rv', ov', u1, u2, u3, u4, u5⟩ := HWL.out W h
        have u6 := own_later HT5.out h
        have hgb : W.heap[g]? = some (.cells #[rv, .slice (some ⟨rb, 0, none⟩) os.length cap] 87) := (h.block g hg).trans t4
        obtain ⟨rfl, rfl⟩ : rv' = rv ∧ ov' = .slice (some ⟨rb, 0, none⟩) os.length cap := by
          rw [u4] at hgb
          simpa using hgb
        refine ⟨⟨W0', rv', .slice (some ⟨rb, 0, none⟩) os.length cap, u1, u2, ?_, ?_, ?_⟩, ?_, ?_⟩
        · exact u3.setCell (p := ⟨rb, m * 4 + 3, none⟩) (by show g ≤ rb; omega) _
        · rw [heap_setCell_other _ _ _ _ (by show g ≠ rb; omega)]; exact u4
        · rw [List.length_set, HSET.out]
          exact own_setIn u6 _ _
        · exact (h.mono (by omega)).setCell (p := ⟨rb, m * 4 + 3, none⟩) (by show g ≤ rb; omega) _
        · rcases u6.2 with ⟨e1, _⟩ | ⟨b, cap', cur, e1, e2, e3, e4⟩
          · cases e1
          · injection e1 with e1
            injection e1 with e1
            injection e1 with e1
            subst e1
            exact (keepB_below h).trans (keepB_set e3 (.inl rfl) _))
      clear hset hPV hPH hS hD hMB hHo hHH hrt t4 t5 hWl hok
      go_enter Tryz.func17, Tryz.ntmps17
      go_wp2_with fail
      refine HH.out.mono ?_
      rintro e w1 ⟨rfl, rfl⟩
      go_wp2_with fail
      refine (HOP.out _).mono ?_
      rintro e w2 ⟨rfl, hB⟩
      have HB2 := hide hB
      clear hB
      go_wp2_with fail
      refine (HHI.out _ (HLW.out _ HB2.out)).mono ?_
      rintro e w3 ⟨hB, rfl⟩
      have HB3 := hide (below_to HB2.out hB)
      clear hB d1 d2 d3 d4
      obtain ⟨e1, e2, e3⟩ := HC.out _ HB3.out
      go_wp2_with fail
      refine (HMY.out _ HB3.out).mono ?_
      rintro e w4 ⟨rfl, hB⟩
      have HB4 := hide (below_to HB3.out hB)
      clear hB e1 e2 e3
      obtain ⟨e1, e2, e3⟩ := HC.out _ HB4.out
      cases MB with
      | false =>
        go_wp2
        go_ret
        exact ⟨rfl, HWL.out _ HB4.out, HB4.out.mono (by omega), keepB_below HB4.out⟩
      | true =>
        go_wp2
        go_ret
        exact ⟨rfl, HFIN.out _ HB4.out⟩
  · rw [domR_out hn]
    rw [decide_eq_false hn] at HH
    clear hr hn
    go_enter Tryz.func17, Tryz.ntmps17
    go_wp2_with fail
    refine HH.out.mono ?_
    rintro e w1 ⟨rfl, rfl⟩
    go_wp2
    go_ret
    exact ⟨rfl, hW, Below.refl _ _, fun _ _ _ _ _ _ h => h⟩
theorem nm_len3 {ix : List Nat} (h : Sx.IxOk ix) (h3 : ix.length ≤ 3) : (Sx.dotted (ix.map Sx.nm)).length ≤ 100 := by
  have := Sx.dots_le 7 (ix.map Sx.nm) (fun x hx => by
    obtain ⟨i, hi, rfl⟩ := List.mem_map.1 hx
    exact (Sx.nm_is i (h.lt i hi)).2.2.2.2.2.2.1)
  rw [List.length_map] at this
  omega
theorem nmP_len3 {ix : List Nat} (h : Sx.IxOk ix) (h3 : ix.length ≤ 3) : (Sx.dotted (ix.map Sx.nmP)).length ≤ 100 := by
  have := Sx.dots_le 11 (ix.map Sx.nmP) (fun x hx => by
    obtain ⟨i, hi, rfl⟩ := List.mem_map.1 hx
    exact (Sx.nm_is i (h.lt i hi)).2.2.2.2.2.1)
  rw [List.length_map] at this
  omega
/-- Two tuples of one scheme and an opaque one. -/
def orgU (H : List (List UInt8)) (p : Int) (D : List UInt8) : Org := (some (httpsB, H, p), D)
theorem orgU_ok {H : List (List UInt8)} {p : Int} (D : List UInt8) (hH : Sx.HostOk H) (hp : 0 ≤ p ∧ p ≤ 65535) : OrgOk (orgU H p D) := ⟨Or.inr rfl, hH, hp⟩
theorem three_ok {x y : Org} (hx : OrgOk x) (hy : OrgOk y) : ∀ o ∈ [x, y, ((none, []) : Org)], OrgOk o := fun o ho => by
  rcases List.mem_cons.1 ho with rfl | ho
  · exact hx
  rcases List.mem_cons.1 ho with rfl | ho
  · exact hy
  rw [List.mem_singleton.1 ho]
  rfl
/-- Same of the first two. -/
theorem same3 (g : Nat) (x y : Org) (rs : List Sx.Rl) (w : World) (hW : WlAt w g rs [x, y, (none, [])]) (hx : OrgOk x) (hy : OrgOk y) (hrt : Sx.RlsRt rs) : Calls Tryz.prog 13 #[.pointer (some ⟨g, 0, none⟩), .int .i64 0, .int .i64 1] w fun e w' => e = .returned (.tuple #[.bool (relA 0 1 x y), .bool (relB 0 1 x y), .bool (relC rs 0 1 x y), .int .i64 0]) ∧ Below w.heap.size w w' :=
  pSameY g 0 1 rs [x, y, (none, [])] w hW.read (by simp) (by simp) (three_ok hx hy) hrt
/-- Domain of the first. -/
theorem dom3a (g : Nat) (x y : Org) (V H : List (List UInt8)) (p : Int) (D : List UInt8) (u : ByteArray) (rs : List Sx.Rl) (w : World) (hw : LWt w) (hW : WlAt w g rs [x, y, (none, [])]) (hx : OrgOk x) (hy : OrgOk y) (hrt : Sx.RlsRt rs) (hu : Sx.host u.data.toList = (V, 0)) (he : x = orgU H p D) : Calls Tryz.prog 17 #[.pointer (some ⟨g, 0, none⟩), .int .i64 0, .string u] w fun e w' => e = .returned (.int .i64 (if mayP rs V H = true then 0 else 9)) ∧ WlAt w' g rs [if mayP rs V H = true then orgU H p (Sx.dotted V) else x, y, (none, [])] ∧ Below g w w' := by
  refine (pDomainE g ((0 : Nat) : Int) u rs [x, y, (none, [])] w hw hW (three_ok hx hy) hrt (by rw [hu])).mono ?_
  rw [hu, domR_some (m := 0) (by simp) (show [x, y, ((none, []) : Org)][0] = (some (httpsB, H, p), D) from he)]
  rintro e w' ⟨rfl, h1, h2, -⟩
  by_cases hm : mayP rs V H = true
  · rw [if_pos hm] at h1 ⊢
    rw [if_pos hm, if_pos hm]
    exact ⟨rfl, h1, h2⟩
  · rw [if_neg hm] at h1 ⊢
    rw [if_neg hm, if_neg hm]
    exact ⟨rfl, h1, h2⟩
/-- Domain of the second. -/
theorem dom3b (g : Nat) (x y : Org) (V H : List (List UInt8)) (p : Int) (D : List UInt8) (u : ByteArray) (rs : List Sx.Rl) (w : World) (hw : LWt w) (hW : WlAt w g rs [x, y, (none, [])]) (hx : OrgOk x) (hy : OrgOk y) (hrt : Sx.RlsRt rs) (hu : Sx.host u.data.toList = (V, 0)) (he : y = orgU H p D) : Calls Tryz.prog 17 #[.pointer (some ⟨g, 0, none⟩), .int .i64 1, .string u] w fun e w' => e = .returned (.int .i64 (if mayP rs V H = true then 0 else 9)) ∧ WlAt w' g rs [x, if mayP rs V H = true then orgU H p (Sx.dotted V) else y, (none, [])] ∧ Below g w w' := by
  refine (pDomainE g ((1 : Nat) : Int) u rs [x, y, (none, [])] w hw hW (three_ok hx hy) hrt (by rw [hu])).mono ?_
  rw [hu, domR_some (m := 1) (by simp) (show [x, y, ((none, []) : Org)][1] = (some (httpsB, H, p), D) from he)]
  rintro e w' ⟨rfl, h1, h2, -⟩
  by_cases hm : mayP rs V H = true
  · rw [if_pos hm] at h1 ⊢
    rw [if_pos hm, if_pos hm]
    exact ⟨rfl, h1, h2⟩
  · rw [if_neg hm] at h1 ⊢
    rw [if_neg hm, if_neg hm]
    exact ⟨rfl, h1, h2⟩
/-- Domain of the opaque one. -/
theorem dom3c (g : Nat) (x y : Org) (u : ByteArray) (rs : List Sx.Rl) (w : World) (hw : LWt w) (hW : WlAt w g rs [x, y, (none, [])]) (hx : OrgOk x) (hy : OrgOk y) (hrt : Sx.RlsRt rs) (hu : (Sx.host u.data.toList).2 = 0) : Calls Tryz.prog 17 #[.pointer (some ⟨g, 0, none⟩), .int .i64 2, .string u] w fun e w' => e = .returned (.int .i64 8) ∧ WlAt w' g rs [x, y, (none, [])] ∧ Below g w w' := by
  refine (pDomainE g ((2 : Nat) : Int) u rs [x, y, (none, [])] w hw hW (three_ok hx hy) hrt hu).mono ?_
  rw [domR_none (m := 2) (by simp) rfl]
  rintro e w' ⟨rfl, h1, h2, -⟩
  exact ⟨rfl, h1, h2⟩
/-- Domain of none. -/
theorem dom3d (g : Nat) (x y : Org) (u : ByteArray) (rs : List Sx.Rl) (w : World) (hw : LWt w) (hW : WlAt w g rs [x, y, (none, [])]) (hx : OrgOk x) (hy : OrgOk y) (hrt : Sx.RlsRt rs) (hu : (Sx.host u.data.toList).2 = 0) : Calls Tryz.prog 17 #[.pointer (some ⟨g, 0, none⟩), .int .i64 3, .string u] w fun e w' => e = .returned (.int .i64 7) ∧ Below g w w' := by
  refine (pDomainE g 3 u rs [x, y, (none, [])] w hw hW (three_ok hx hy) hrt hu).mono ?_
  rw [domR_out (by simp)]
  rintro e w' ⟨rfl, -, h2, -⟩
  exact ⟨rfl, h2⟩
end Go.Proofs.YtgohllfpceeboabGreatDoor
