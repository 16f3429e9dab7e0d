import Derived.Test.YtgohllfpceeboabGreatDoorSbbg
import Derived.Test.YtgohllfpceeboabGreatDoorRKga
import Derived.Test.YtgohllfpceeboabGreatDoorRKgb
import Derived.Test.YtgohllfpceeboabGreatDoorRKgc
import Derived.Test.YtgohllfpceeboabGreatDoorRKgg
import Derived.Test.YtgohllfpceeboabGreatDoorRKgh
import Derived.Test.YtgohllfpceeboabGreatDoorRKgi
import Derived.Deep.RegionHeldLaw
import Derived.Deep.RegionLaw
namespace Go.Proofs.YtgohllfpceeboabGreatDoor
open Go.RowKit
/-- A cell of an own row is written. -/
theorem own_setIn {w : World} {base : Nat} {e : TypeId} {size n g cap : Nat} {xs : List Value} (h : w.ownsRow base e size (.slice (some ⟨g, 0, none⟩) n cap) n xs) (k : Nat) (u : Value) : (w.setCell ⟨g, k, none⟩ u).ownsRow base e size (.slice (some ⟨g, 0, none⟩) n cap) n (xs.set k u) := by
  obtain ⟨h1, h2⟩ := h
  refine ⟨by rw [List.length_set]; exact h1, ?_⟩
  rcases h2 with ⟨h, _⟩ | ⟨g', cap', cur, hv, hb, hg, r1, r2, r3, r4⟩
  · cases h
  · injection hv with ha hb' hc
    injection ha with ha
    injection ha with ha
    subst ha
    refine .inr ⟨g, cap', cur.setIfInBounds k u, by rw [hc], hb, heap_setCell_same w g k cur e u hg, r1, r2, by rw [Array.size_setIfInBounds]; exact r3, ?_⟩
    rw [Array.toList_setIfInBounds, List.take_set, r4]
theorem orgCs_len (os : List Org) : (orgCs os).length = os.length * 4 := by
  induction os with
  | nil => rfl
  | cons x r ih =>
    have e : orgCs (x :: r) = orgC x ++ orgCs r := rfl
    rw [e, List.length_append, ih, List.length_cons]
    show 4 + _ = _
    omega
theorem orgCs_set : ∀ (os : List Org) (n : Nat) (h : n < os.length) (d : List UInt8), orgCs (os.set n (os[n].1, d)) = (orgCs os).set (n * 4 + 3) (.string ⟨d.toArray⟩)
  | x :: r, 0, _, d => rfl
  | x :: r, n + 1, h, d => by
    have ih := orgCs_set r n (by simpa using h) d
    have e : ∀ y l, orgCs (y :: l) = orgC y ++ orgCs l := fun _ _ => rfl
    rw [List.set_cons_succ, List.getElem_cons_succ, e, e, ih]
    have hl : (orgC x).length = 4 := rfl
    rw [show (n + 1) * 4 + 3 = (orgC x).length + (n * 4 + 3) by rw [hl]; omega, List.set_append_right _ _ (by omega)]
    congr 2
    omega
set_option maxRecDepth 100000 in
set_option maxHeartbeats 4000000 in
/-- (*suffix.World).Domain -/
theorem pDomain (g : Nat) (n : Int) (v : ByteArray) (rs : List Sx.Rl) (os : List Org) (w : World) (hw : LWt w) (hW : WlAt w g rs os) (hl : os.length ≤ 20) (hok : ∀ o ∈ os, OrgOk o) (hrt : Sx.RlsRt rs) (hh : (Sx.host v.data.toList).2 = 0) : Calls Tryz.prog 17 #[.pointer (some ⟨g, 0, none⟩), .int .i64 n, .string v] w fun e w' => (∃ a, e = .returned (.int .i64 a)) ∧ StPost w g rs w' := by
  have hr := hW.read
  have hg : g < w.heap.size := by obtain ⟨rv, p, cap, h1, -⟩ := hW.read; exact h1
  have HH := hide (phas g n rs os w hr)
  by_cases hn : 0 ≤ n ∧ n < os.length
  · rw [decide_eq_true hn] at HH
    obtain ⟨m, rfl⟩ : ∃ m : Nat, n = m := ⟨n.toNat, by omega⟩
    have hm : m < os.length := by omega
    have HHI := hide (fun W hW => phip_any v W hW)
    unfold PlnPost at HHI
    have hpl : Sx.plainR v.data.toList = (Sx.dotted (Sx.host v.data.toList).1, 0) := by
      unfold Sx.plainR
      rw [← hh]
    rw [hpl] at HHI
    have hHo := Sx.host_ok v.data.toList hh
    obtain ⟨V, hV⟩ : ∃ H, (Sx.host v.data.toList).1 = H := ⟨_, rfl⟩
    rw [hV] at HHI hHo
    have hxo := hok os[m] (List.getElem_mem hm)
    have HOP := hide (fun W => popqO os[m] W hxo)
    obtain ⟨W0, rv, ov, t1, t2, t3, t4, t5⟩ := hW
    obtain ⟨p, cap, rfl⟩ := own_shapeK t5
    have hWl : WlAt w g rs os := ⟨W0, rv, _, t1, t2, t3, t4, t5⟩
    obtain ⟨rb, rfl⟩ : ∃ rb, p = some ⟨rb, 0, none⟩ := by
      rcases t5.2 with ⟨e1, e2⟩ | ⟨b, cap', cur, e1, e2, e3, e4⟩
      · omega
      · exact ⟨b, by injection e1⟩
    have hrb := t5.lt rb rfl
    have c1 : w.cell? ⟨g, 1, none⟩ = some (.slice (some ⟨rb, 0, none⟩) os.length cap) := by simp [World.cell?, t4]
    obtain ⟨a1, a2, a3, a4⟩ := orgCs_get os m hm
    have hadd : ∀ k, (⟨rb, 0, none⟩ : Addr).add k = ⟨rb, k, none⟩ := fun k => by rw [Addr.add_lit, Nat.zero_add]
    have hcc : ∀ k u, (orgCs os)[k]? = some u → w.cell? ⟨rb, k, none⟩ = some u := fun k u hu => by
      rw [← hadd]; exact t5.cells (g := rb) rfl _ _ hu
    have d1 := hcc _ _ a1
    have d2 := hcc _ _ a2
    have d3 := hcc _ _ a3
    have d4 := hcc _ _ a4
    obtain ⟨ox, hox⟩ : ∃ x, os[m] = x := ⟨_, rfl⟩
    rw [hox] at d1 d2 d3 d4 HOP hxo
    unfold orgA at HOP
    have HWL := hide (fun W (h : Below w.heap.size w W) => hWl.below h)
    have HLW : Hid (∀ W, Below w.heap.size w W → LWt W) := hide (fun W h => lwt_stays _ _ hw h)
    have hset := orgCs_set os m hm (Sx.dotted V)
    rw [hox] at hset
    have HT5 := hide t5
    obtain ⟨o1, d⟩ := ox
    clear a1 a2 a3 a4 hadd hcc hr t2 t3 hpl hV hw
    cases o1 with
    | none =>
      rw [decide_eq_true rfl] at HOP
      dsimp only [schOf, hstOf, prtOf] at d1 d2 d3 d4 HOP
      clear hset
      go_enter Tryz.func17, Tryz.ntmps17
      go_wp2_with fail
      refine HH.out.mono ?_
      rintro e w1 ⟨rfl, rfl⟩
      go_wp2_with fail
      refine (HOP.out _).mono ?_
      rintro e w2 ⟨rfl, hB⟩
      have HB := hide hB
      clear hB
      go_wp2
      go_ret
      exact ⟨⟨8, rfl⟩, os, hok, hl, HWL.out _ HB.out, HB.out.mono (by omega), keepB_below HB.out⟩
    | some t =>
      obtain ⟨s, H, q⟩ := t
      rw [decide_eq_false (by simp)] at HOP
      obtain ⟨hsc, hHH, hq⟩ := hxo
      dsimp only [schOf, hstOf, prtOf] at d1 d2 d3 d4 HOP
      obtain ⟨PV, hPV⟩ : ∃ X : ByteArray, ⟨(Sx.dotted V).toArray⟩ = X := ⟨_, rfl⟩
      obtain ⟨PH, hPH⟩ : ∃ X : ByteArray, ⟨(Sx.dotted H).toArray⟩ = X := ⟨_, rfl⟩
      have HMY := hide (fun W (h : Below w.heap.size w W) => pmay g V H PV PH rs os W (hWl.below h).read hrt hHo hHH (by rw [← hPV]) (by rw [← hPH]))
      obtain ⟨MB, hMB⟩ : ∃ b, mayP rs V H = b := ⟨_, rfl⟩
      rw [hMB] at HMY
      dsimp only at HHI
      rw [hPV] at HHI hset
      rw [hPH] at d2 HOP
      obtain ⟨S, hS⟩ : ∃ X : ByteArray, ⟨s.toArray⟩ = X := ⟨_, rfl⟩
      obtain ⟨D, hD⟩ : ∃ X : ByteArray, ⟨d.toArray⟩ = X := ⟨_, rfl⟩
      rw [hS] at d1 HOP
      rw [hD] at d4 HOP
      have HSET := hide hset
      have HC : Hid (∀ W, Below w.heap.size w W → W.cell? ⟨rb, m * 4 + 1, none⟩ = some (.string PH) ∧ W.cell? ⟨rb, m * 4 + 3, none⟩ = some (.string D) ∧ W.frozen? ⟨rb, m * 4 + 3, none⟩ = false) := hide (fun W h => by
        refine ⟨(h.cell (p := ⟨rb, m * 4 + 1, none⟩) hrb.2).trans d2, (h.cell (p := ⟨rb, m * 4 + 3, none⟩) hrb.2).trans d4, (h.frozen (p := ⟨rb, m * 4 + 3, none⟩) hrb.2).trans ?_⟩
        rcases HT5.out.2 with ⟨e1, _⟩ | ⟨b, cap', cur, e1, e2, e3, e4⟩
        · cases e1
        · injection e1 with e1
          injection e1 with e1
          injection e1 with e1
          subst e1
          simp [World.frozen?, e3])
      have HFIN : Hid (∀ W, Below w.heap.size w W → StPost w g rs (W.setCell ⟨rb, m * 4 + 3, none⟩ (.string PV))) := hide (fun W h => by
        obtain ⟨W0', rv', ov', u1, u2, u3, u4, u5⟩ := HWL.out W h
        have u6 := own_later HT5.out h
        have hgb : W.heap[g]? = some (.cells #[rv, .slice (some ⟨rb, 0, none⟩) os.length cap] 87) := (h.block g hg).trans t4
        obtain ⟨rfl, rfl⟩ : rv' = rv ∧ ov' = .slice (some ⟨rb, 0, none⟩) os.length cap := by
          rw [u4] at hgb
          simpa using hgb
        refine ⟨os.set m (some (s, H, q), Sx.dotted V), fun o ho => ?_, by rw [List.length_set]; exact hl, ⟨W0', rv', .slice (some ⟨rb, 0, none⟩) os.length cap, u1, u2, ?_, ?_, ?_⟩, ?_, ?_⟩
        · rcases List.mem_or_eq_of_mem_set ho with ho | ho
          · exact hok o ho
          · rw [ho]; exact ⟨hsc, hHH, hq⟩
        · exact u3.setCell (p := ⟨rb, m * 4 + 3, none⟩) (by show g ≤ rb; omega) _
        · rw [heap_setCell_other _ _ _ _ (by show g ≠ rb; omega)]; exact u4
        · rw [List.length_set, HSET.out]
          exact own_setIn u6 _ _
        · exact (h.mono (by omega)).setCell (p := ⟨rb, m * 4 + 3, none⟩) (by show g ≤ rb; omega) _
        · rcases u6.2 with ⟨e1, _⟩ | ⟨b, cap', cur, e1, e2, e3, e4⟩
          · cases e1
          · injection e1 with e1
            injection e1 with e1
            injection e1 with e1
            subst e1
            exact (keepB_below h).trans (keepB_set e3 (.inl rfl) _))
      clear hset hPV hPH hS hD hMB hHo hsc hHH hq hrt t4 t5 hWl
      go_enter Tryz.func17, Tryz.ntmps17
      go_wp2_with fail
      refine HH.out.mono ?_
      rintro e w1 ⟨rfl, rfl⟩
      go_wp2_with fail
      refine (HOP.out _).mono ?_
      rintro e w2 ⟨rfl, hB⟩
      have HB2 := hide hB
      clear hB
      go_wp2_with fail
      refine (HHI.out _ (HLW.out _ HB2.out)).mono ?_
      rintro e w3 ⟨hB, rfl⟩
      have HB3 := hide (below_to HB2.out hB)
      clear hB d1 d2 d3 d4
      obtain ⟨e1, e2, e3⟩ := HC.out _ HB3.out
      go_wp2_with fail
      refine (HMY.out _ HB3.out).mono ?_
      rintro e w4 ⟨rfl, hB⟩
      have HB4 := hide (below_to HB3.out hB)
      clear hB e1 e2 e3
      obtain ⟨e1, e2, e3⟩ := HC.out _ HB4.out
      cases MB with
      | false =>
        go_wp2
        go_ret
        exact ⟨⟨9, rfl⟩, os, hok, hl, HWL.out _ HB4.out, HB4.out.mono (by omega), keepB_below HB4.out⟩
      | true =>
        go_wp2
        go_ret
        exact ⟨⟨0, rfl⟩, HFIN.out _ HB4.out⟩
  · rw [decide_eq_false hn] at HH
    clear hr hn
    go_enter Tryz.func17, Tryz.ntmps17
    go_wp2_with fail
    refine HH.out.mono ?_
    rintro e w1 ⟨rfl, rfl⟩
    go_wp2
    go_ret
    exact ⟨⟨7, rfl⟩, os, hok, hl, hW, Below.refl _ _, fun _ _ _ _ _ _ h => h⟩
end Go.Proofs.YtgohllfpceeboabGreatDoor
