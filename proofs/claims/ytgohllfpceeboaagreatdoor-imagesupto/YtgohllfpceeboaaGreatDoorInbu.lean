import Derived.Test.YtgohllfpceeboaaGreatDoorInbt
namespace Go.Proofs.YtgohllfpceeboaaGreatDoor
open Go.RowKit
theorem secs_next (rs : List Sx.Rl) (s : UInt8) (k : Nat) (h : k < rs.length) : joinL (secs (rs.take (k + 1)) s) = joinL (secs (rs.take k) s) ++ if rs[k].2.2 = s then Sx.rlLine rs[k] ++ [10] else [] := by
 unfold secs joinL
 rw [List.take_succ_eq_append_getElem h, List.filter_append, List.map_append, List.flatMap_append]
 congr 1
 by_cases e : rs[k].2.2 = s
 · rw [if_pos e]
   simp [e]
 · rw [if_neg e]
   simp [e]
theorem line_len {r : Sx.Rl} (h : Sx.RlRt r) : (Sx.rlLine r).length ≤ 62 := by
 have h2 := Sx.dotted_len61 h.ok.1
 unfold Sx.rlLine
 rw [List.length_append]
 repeat' split
 all_goals simp
 all_goals omega
theorem outL_is (rs : List Sx.Rl) : outL rs = joinL (secs rs 105) ++ (if joinL (secs rs 112) = [] then joinL (secs rs 112) else [61, 61, 61, 112, 10] ++ joinL (secs rs 112)) := by
 unfold outL
 congr 1
 cases h : secs rs 112 with
 | nil => simp [joinL]
 | cons x l =>
   rw [if_neg (by simp), if_neg (by simp [joinL])]
   simp [joinL]
theorem ropenE (l : List UInt8) (w : World) : Calls Tryz.prog 153 #[.string ⟨l.toArray⟩] w fun e w' => Below w.heap.size w w' ∧ if (opn l).2 = 0 then ∃ (v : Value) (q : List RlE), e = .returned (.tuple #[v, .int .i64 0]) ∧ q.map (·.2) = (opn l).1 ∧ RlsAt w' w.heap.size v q else e = .returned (.tuple #[.slice none 0 0, .int .i64 (opn l).2]) := by
 have h := ropen l w
 unfold OpenPost at h
 rw [opnD_eq] at h
 exact h
set_option maxRecDepth 100000 in
set_option maxHeartbeats 4000000 in
theorem rrules (l : List UInt8) (w : World) : Calls Tryz.prog 102 #[.string ⟨l.toArray⟩] w fun e w' => e = .returned (.tuple #[.string ⟨(lsR l).1.toArray⟩, .int .i64 (lsR l).2]) ∧ Below w.heap.size w w' := by
 have HOP := hide (ropenE l w)
 have hrt : (opn l).2 = 0 → Sx.RlsRt (opn l).1 := fun h => (opn_is h).2.rt
 obtain ⟨I, hI⟩ : ∃ X : ByteArray, ⟨l.toArray⟩ = X := ⟨_, rfl⟩
 rw [hI] at HOP ⊢
 clear hI
 unfold lsR
 obtain ⟨⟨rs, n⟩, ho⟩ : ∃ x, opn l = x := ⟨_, rfl⟩
 rw [ho] at HOP hrt ⊢
 dsimp only at HOP hrt ⊢
 clear ho
 by_cases h0 : n = 0
 · subst h0
   rw [if_pos rfl]
   dsimp only
   have hout := outL_is rs
   have HRT := hide (hrt rfl)
   clear hrt
   go_enter Tryz.func102, Tryz.ntmps102
   go_wp2_with fail
   refine HOP.out.mono ?_
   rintro e w1 ⟨hB1, he⟩
   simp only [if_true] at he
   obtain ⟨v, q, rfl, hq, hat⟩ := he
   obtain ⟨pr, cr, rfl⟩ := own_shapeK hat.row
   have HAT := hide hat
   have HB1 := hide hB1
   have HQ := hide hq
   have hql : q.length = rs.length := by rw [← hq, List.length_map]
   have hq30 : q.length ≤ 30 := by have := HRT.out.many; omega
   have HQL := hide hql
   have HOUT := hide hout
   have hsz := hB1.size
   clear hat hB1 hq hql hout HOP
   go_wp2
   go_loopw [6, 7, 8] (fun av bv iv wr => ∃ (i : Nat) (A B : ByteArray), av = .string A ∧ bv = .string B ∧ iv = .int .i64 i ∧ i ≤ q.length ∧ A.data.toList = joinL (secs (rs.take i) 105) ∧ B.data.toList = joinL (secs (rs.take i) 112) ∧ A.size ≤ 63 * i ∧ B.size ≤ 63 * i ∧ Below w1.heap.size w1 wr) (fun _ _ i _ => (q.length - intOf i).toNat)
   case atStart => exact ⟨0, ⟨#[]⟩, ⟨#[]⟩, rfl, rfl, rfl, by omega, by simp [joinL, secs], by simp [joinL, secs], by show 0 ≤ 0; omega, by show 0 ≤ 0; omega, Below.refl _ _⟩
   case round =>
    obtain ⟨i, A, B, rfl, rfl, rfl, hi, hA, hB, hAs, hBs, hBw⟩ := hrel
    rename World => wr
    have HA := hide hA
    have HB := hide hB
    have HBW := hide hBw
    have hat := HAT.out.below hBw
    clear hA hB hBw
    by_cases hlt : i < q.length
    · have hlt' : (i : Int) < (q.length : Int) := by omega
      have hir : i < rs.length := by have := HQL.out; omega
      obtain ⟨g, c', hv, -, -⟩ := hat.row.form (by omega)
      simp only [Value.slice.injEq, true_and] at hv
      obtain ⟨rfl, rfl⟩ := hv
      obtain ⟨k1, k2, k3⟩ := hat.cells i hlt
      have hqi : q[i].2 = rs[i] := by
       have h1 : (q.map (·.2))[i]'(by rw [List.length_map]; exact hlt) = rs[i] := by simp only [HQ.out]
       rw [List.getElem_map] at h1
       exact h1
      have hrr := HRT.out.ok rs[i] (List.getElem_mem hir)
      have hll := line_len hrr
      have hh := hat.hosts q[i] (List.getElem_mem hlt)
      have n1 := secs_next rs 105 i hir
      have n2 := secs_next rs 112 i hir
      rw [← HA.out] at n1
      rw [← HB.out] at n2
      obtain ⟨r, hr⟩ : ∃ r, rs[i] = r := ⟨_, rfl⟩
      rw [hr] at hqi hrr hll n1 n2
      obtain ⟨⟨hv, r'⟩, hqe⟩ : ∃ x, q[i] = x := ⟨_, rfl⟩
      rw [hqe] at k1 k2 k3 hh hqi
      dsimp only at k1 k2 k3 hh hqi
      subst hqi
      have hl1 : r'.1.length ≤ 6 := hrr.ok.1.2.1
      have hl2 : Sx.allLen r'.1 ≤ 61 := hrr.ok.1.2.2.1
      have HLN := hide (rline_any r' _ hv wr (by omega) (fun x hx => by have := allLen_ge r'.1 x hx; omega) hh)
      obtain ⟨ph, ch, hph⟩ := own_shapeK hh
      subst hph
      have hsec := hrr.2.2.2
      obtain ⟨LN, hLN⟩ : ∃ X : ByteArray, ⟨(Sx.rlLine r').toArray⟩ = X := ⟨_, rfl⟩
      have hLl : LN.data.toList = Sx.rlLine r' := by rw [← hLN]
      have hLs : LN.size ≤ 62 := by rw [← ba_len, hLl]; exact hll
      rw [hLN] at HLN
      have HN1 := hide n1
      have HN2 := hide n2
      have HLL := hide hLl
      obtain ⟨rh, rk, rsec⟩ := r'
      dsimp only at k1 k2 k3 hsec HLN
      clear n1 n2 hr hqe hrr hll hl1 hl2 hLN hLl hh hat
      rcases hsec with rfl | rfl
      · go_wp2_with fail
        refine HLN.out.mono ?_
        rintro e w2 ⟨rfl, hB2⟩
        have HB2 := hide (HBW.out.trans (hB2.mono HBW.out.size))
        clear hB2 k1 k2 k3
        go_wp2
        refine ⟨⟨i + 1, _, _, rfl, rfl, by go_num, by omega, ?_, ?_, ?_, by omega, HB2.out⟩, by simp [intOf]; omega⟩
        · rw [HN1.out]
          simp [ByteArray.data_append, HLL.out]
        · rw [HN2.out, if_neg (by decide)]
          simp
        · simp only [ByteArray.size_append]
          show A.size + LN.size + 1 ≤ _
          omega
      · go_wp2_with fail
        refine HLN.out.mono ?_
        rintro e w2 ⟨rfl, hB2⟩
        have HB2 := hide (HBW.out.trans (hB2.mono HBW.out.size))
        clear hB2 k1 k2 k3
        go_wp2
        refine ⟨⟨i + 1, _, _, rfl, rfl, by go_num, by omega, ?_, ?_, by omega, ?_, HB2.out⟩, by simp [intOf]; omega⟩
        · rw [HN1.out, if_neg (by decide)]
          simp
        · rw [HN2.out]
          simp [ByteArray.data_append, HLL.out]
        · simp only [ByteArray.size_append]
          show B.size + LN.size + 1 ≤ _
          omega
    · have hni : ¬ (i : Int) < (q.length : Int) := by omega
      have hir : rs.take i = rs := List.take_of_length_le (by have := HQL.out; omega)
      have hA := HA.out
      have hB := HB.out
      rw [hir] at hA hB
      have hfin : outL rs = A.data.toList ++ (if B.data.toList = [] then B.data.toList else [61, 61, 61, 112, 10] ++ B.data.toList) := by rw [HOUT.out, hA, hB]
      have HFIN := hide hfin
      have HBB := hide (HB1.out.trans (HBW.out.mono hsz))
      clear hA hB hfin hir hlt
      by_cases hBe : B.data.toList = []
      · have hbe : B.toList.isEmpty = true := by rw [ByteArray.toList_eq, hBe]; rfl
        have hfn := HFIN.out
        rw [if_pos hBe] at hfn
        have HF2 : Hid (outL rs = (A ++ B).data.toList) := hide (by rw [hfn]; simp [ByteArray.data_append])
        clear hBe hfn
        go_wp2
        go_ret2
        have e9 := HF2.out
        exact ⟨by rw [e9, Array.toArray_toList]; rfl, HBB.out⟩
      · have hbe : B.toList.isEmpty = false := by rw [ByteArray.toList_eq, List.isEmpty_eq_false_iff]; exact hBe
        have hfn := HFIN.out
        rw [if_neg hBe] at hfn
        have HF2 : Hid (outL rs = (A ++ ((⟨#[61, 61, 61, 112, 10]⟩ : ByteArray) ++ B)).data.toList) := hide (by rw [hfn]; simp [ByteArray.data_append])
        clear hBe hfn
        go_wp2
        go_ret2
        have e9 := HF2.out
        exact ⟨by rw [e9, Array.toArray_toList]; rfl, HBB.out⟩
 · rw [if_neg h0]
   have hn0 : (n != 0) = true := by simp [h0]
   have H0 := hide h0
   clear hrt h0
   go_enter Tryz.func102, Tryz.ntmps102
   go_wp2_with fail
   refine HOP.out.mono ?_
   rintro e w1 ⟨hB1, he⟩
   rw [if_neg H0.out] at he
   subst he
   have HB1 := hide hB1
   clear hB1
   go_wp2
   go_ret2
   exact ⟨rfl, HB1.out⟩
set_option maxRecDepth 100000 in
set_option maxHeartbeats 4000000 in
theorem rlook (l : List UInt8) (t : ByteArray) (w : World) : Calls Tryz.prog 103 #[.string ⟨l.toArray⟩, .string t] w fun e w' => e = .returned (.tuple #[.string ⟨(lkR l t.data.toList).1.toArray⟩, .string ⟨(lkR l t.data.toList).2.1.toArray⟩, .string ⟨(lkR l t.data.toList).2.2.1.toArray⟩, .int .i64 (lkR l t.data.toList).2.2.2]) ∧ Below w.heap.size w w' := by
 have HOP := hide (ropenE l w)
 have hrt : (opn l).2 = 0 → Sx.RlsRt (opn l).1 ∧ Sx.imgT (Sx.tabOf (opn l).1) = l := fun h => ⟨(opn_is h).2.rt, (opn_is h).2.is⟩
 have HHO := hide (fun W => rhost_any t W)
 unfold HostPost at HHO
 obtain ⟨I, hI⟩ : ∃ X : ByteArray, ⟨l.toArray⟩ = X := ⟨_, rfl⟩
 rw [hI] at HOP ⊢
 clear hI
 by_cases h0 : (opn l).2 = 0
 · obtain ⟨hr1, hr2⟩ := hrt h0
   by_cases hh : (Sx.host t.data.toList).2 = 0
   · obtain ⟨e1, e2, e3⟩ := look_is hr1 hh
     rw [hr2] at e1
     rw [e1]
     dsimp only
     have hok := Sx.host_ok t.data.toList hh
     rw [hh] at HHO
     obtain ⟨H, hH⟩ : ∃ x, (Sx.host t.data.toList).1 = x := ⟨_, rfl⟩
     rw [hH] at hok e2 e3 HHO ⊢
     obtain ⟨rs, hrs⟩ : ∃ x, (opn l).1 = x := ⟨_, rfl⟩
     rw [hrs] at hr1 e2 e3 HOP ⊢
     have HPB := hide (fun q b1 c1 v W hl hq hat hne ho => rpub q H w.heap.size w.heap.size b1 c1 v W hl hq hat hne ho)
     have HDO := hide (fun q b1 c1 v W hl hq hat hne ho hn => rdom q H w.heap.size w.heap.size b1 c1 v W hl hq hat hne ho hn)
     have H0 := hide h0
     have HR1 := hide hr1
     have hHl : H.length ≤ 6 := hok.2.1
     have hHp : 0 < H.length := List.length_pos_iff.2 hok.1
     have hHx : ∀ x ∈ H, x.length ≤ 100000 := fun x hx => by have h1 := allLen_ge H x hx; have h2 := hok.2.2.1; omega
     have HHX := hide hHx
     clear e1 hr2 hrt h0 hh hok hH hrs hr1 hHx
     obtain ⟨sec, hsec⟩ : ∃ x, (Sx.pubL H rs).2 = x := ⟨_, rfl⟩
     obtain ⟨n, hn⟩ : ∃ x, (Sx.pubL H rs).1 = x := ⟨_, rfl⟩
     rw [hn] at e2 e3
     rw [hn, hsec]
     have HSEC := hide hsec
     have HN := hide hn
     clear hsec hn
     obtain ⟨m, hm⟩ : ∃ m, H.length - n = m := ⟨_, rfl⟩
     rw [hm]
     obtain ⟨A, hA⟩ : ∃ X : ByteArray, ⟨(Sx.dotted (H.drop m)).toArray⟩ = X := ⟨_, rfl⟩
     obtain ⟨D, hD⟩ : ∃ X : ByteArray, (⟨(if n + 1 ≤ H.length then Sx.dotted (H.drop (H.length - (n + 1))) else []).toArray⟩ : ByteArray) = X := ⟨_, rfl⟩
     obtain ⟨SC, hSC⟩ : ∃ X : ByteArray, ⟨[sec].toArray⟩ = X := ⟨_, rfl⟩
     rw [hA, hD, hSC]
     have hcv : ∀ V : World, (convert 58 9 (.slice (some ⟨V.heap.size, 0, none⟩) 1 1)).run Tryz.prog (V.alloc (.cells #[.int .u8 sec.toNat] 5)) = .ok (.string SC) (V.alloc (.cells #[.int .u8 sec.toNat] 5)) := fun V => by rw [← hSC]; exact one_conv (by rw [World.cell?_alloc_mark]; rfl)
     have hcv2 : ∀ V : World, (convert 58 9 (.slice (some ⟨V.heap.size, 0, none⟩) 1 1)).run Tryz.prog (V.alloc (.cells #[.int .u8 sec.toNat] 5)).drew = .ok (.string SC) (V.alloc (.cells #[.int .u8 sec.toNat] 5)).drew := fun V => by
      rw [← hSC]
      refine one_conv ?_
      show (V.alloc (.cells #[.int .u8 sec.toNat] 5)).cell? ⟨V.heap.size, 0, none⟩ = _
      rw [World.cell?_alloc_mark]
      rfl
     have HCV := hide (And.intro hcv hcv2)
     have HAD := hide hA
     have HDD := hide hD
     clear hA hD hSC hcv hcv2
     go_enter Tryz.func103, Tryz.ntmps103
     go_wp2_with fail
     refine HOP.out.mono ?_
     rintro e w1 ⟨hB1, he⟩
     rw [if_pos H0.out] at he
     obtain ⟨v, q, rfl, hq, hat⟩ := he
     obtain ⟨pr, cr, rfl⟩ := own_shapeK hat.row
     have hq30 : q.length ≤ 30 := by have := HR1.out.many; rw [← hq, List.length_map] at this; exact this
     have hne : ∀ x ∈ q, x.2.1 ≠ [] ∧ x.2.1.length ≤ 1000 := fun x hx => by
      have h1 := (HR1.out.ok x.2 (by rw [← hq]; exact List.mem_map.2 ⟨x, hx, rfl⟩)).ok.1
      exact ⟨h1.1, by have := h1.2.1; omega⟩
     have HAT := hide hat
     have HNE := hide hne
     have HQ := hide hq
     have HB1 := hide hB1
     have hsz1 := hB1.size
     clear hat hne hq hB1 HOP
     go_wp2_with fail
     refine (HHO.out _).mono ?_
     rintro e w2 ⟨hB2, v2, rfl, hown, -, -⟩
     obtain ⟨b1, c1, hv2, -, -⟩ := hown.form hHp
     subst hv2
     obtain ⟨-, -, hc1, -, -, hb1, hcl⟩ := own_cells hown
     have hat2 := HAT.out.below hB2
     have hown2 := row_base hown hsz1
     have hpb := HPB.out q b1 c1 _ w2 (by omega) (by omega) hat2 HNE.out hown2
     rw [HQ.out, HN.out, HSEC.out] at hpb
     have hdo := fun W (h : Below w2.heap.size w2 W) => HDO.out q b1 c1 _ W (by omega) (by omega) (hat2.below h) HNE.out (own_later hown2 h) (by rw [HQ.out, HN.out]; omega)
     simp only [HQ.out, HN.out] at hdo
     have HP := hide hpb
     have HDM := hide hdo
     have HB2 := hide (HB1.out.trans (hB2.mono HB1.out.size))
     have HCL : Hid (∀ W, Below w2.heap.size w2 W → ∀ j (hj : j < H.length), W.cell? ⟨b1, j, none⟩ = some (.string ⟨H[j].toArray⟩)) := hide (fun W h j hj => (h.cell (p := ⟨b1, j, none⟩) hb1).trans (by
      have := hcl j (by simpa [stV] using hj)
      simpa [stV] using this))
     clear hB2 hown hown2 hat2 hpb hdo hcl HPB HDO HHO HAT
     go_wp2_with fail
     refine HP.out.mono ?_
     rintro e w3 ⟨rfl, hB3⟩
     have HB3 := hide hB3
     clear hB3
     go_wp2_with fail
     refine (HDM.out _ HB3.out).mono ?_
     rintro e w4 ⟨hB4, he⟩
     have hb4 : Below w2.heap.size w2 w4 := HB3.out.trans (hB4.mono HB3.out.size)
     have HBF := hide (HB2.out.trans (hb4.mono HB2.out.size))
     have hd1 : ∀ W, Below w2.heap.size w2 W → Calls Tryz.prog 148 #[.slice (some ⟨b1, m, none⟩) (H.length - m) (c1 - m)] W fun e w' => e = .returned (.string A) ∧ w' = W := fun W h => by
      rw [← HAD.out, ← List.length_drop]
      exact rdot_read (H.drop m) b1 m _ W (by rw [List.length_drop]; omega) (fun x hx => HHX.out x (List.mem_of_mem_drop hx)) (fun j hj => by
       rw [List.length_drop] at hj
       rw [HCL.out W h (m + j) (by omega), List.getElem_drop])
     have HD1 := hide hd1
     have hmH : m < H.length := by omega
     have hwI : IntKind.i64.wrap ((H.length : Int) - (n : Int)) = (m : Int) := by rw [IntKind.wrap_i64]; omega
     have hcm : (c1 = m) = False := by simp; omega
     have hml : (m : Int) ≤ (H.length : Int) := by omega
     clear hd1 hB4 hm
     obtain ⟨hcv, hcv2⟩ := HCV.out
     obtain ⟨dv, rfl, HD2⟩ : ∃ dv, e = .returned dv ∧ Hid (∀ W, Below w2.heap.size w2 W → Calls Tryz.prog 148 #[dv] W fun e w' => e = .returned (.string D) ∧ w' = W) := by
      rcases he with ⟨h1, rfl⟩ | ⟨h1, c, rfl⟩
      · refine ⟨_, rfl, hide (fun W _ => ?_)⟩
        rw [← HDD.out, if_neg (by omega)]
        exact rdot_any [] 0 (.slice none 0 0) W (by simp) (by simp) (World.ownsRow_nil _ _ _ _)
      · refine ⟨_, rfl, hide (fun W h => ?_)⟩
        rw [← HDD.out, if_pos (by omega), show H.length - n - 1 = H.length - (n + 1) by omega]
        have hl9 : (H.drop (H.length - (n + 1))).length = n + 1 := by rw [List.length_drop]; omega
        have h9 := rdot_read (H.drop (H.length - (n + 1))) b1 (H.length - (n + 1)) c W (by rw [hl9]; omega) (fun x hx => HHX.out x (List.mem_of_mem_drop hx)) (fun j hj => by
         rw [hl9] at hj
         rw [HCL.out W h (H.length - (n + 1) + j) (by omega), List.getElem_drop])
        rw [hl9] at h9
        exact h9
     have HE1 := hide (HD1.out _ hb4.drew)
     have HE2 := hide (HD1.out _ (hb4.alloc hb4.size (.cells #[.int .u8 sec.toNat] 5)).drew)
     have HE3 := hide (HD2.out _ hb4.drew)
     have HE4 := hide (HD2.out _ (hb4.alloc hb4.size (.cells #[.int .u8 sec.toNat] 5)).drew)
     clear he HD1 HD2 HDM HCL HP HB2 HB3
     go_wp2_with fail
     go_region_held_law (fun _ => True) (trivial) (first | (go_at_call 148; with_reducible refine HE1.out.mono ?_; rintro e y1 ⟨rfl, rfl⟩) | (go_at_call 148; with_reducible refine HE2.out.mono ?_; rintro e y2 ⟨rfl, rfl⟩) | (go_at_call 148; with_reducible refine HE3.out.mono ?_; rintro e y3 ⟨rfl, rfl⟩) | (go_at_call 148; with_reducible refine HE4.out.mono ?_; rintro e y4 ⟨rfl, rfl⟩))
     all_goals (
      have HBE := hide (HBF.out.alloc HBF.out.size (.cells #[.int .u8 sec.toNat] 5)).drew
      go_wp2
      exact bodyPost_ret (v := .tuple #[.string A, .string D, .string SC, .int .i64 0]) (by simp [results, Tryz.results103, go_sem]) rfl ⟨rfl, HBE.out⟩)
   · have hno : lkR l t.data.toList = ([], [], [], (Sx.host t.data.toList).2) := by unfold lkR; rw [if_pos h0, if_neg hh]
     rw [hno]
     obtain ⟨nh, hnh⟩ : ∃ z, (Sx.host t.data.toList).2 = z := ⟨_, rfl⟩
     rw [hnh] at HHO hh ⊢
     have hn0 : (nh != 0) = true := by simp [hh]
     have H0 := hide h0
     clear hno hrt hr1 hr2 h0 hh hnh
     go_enter Tryz.func103, Tryz.ntmps103
     go_wp2_with fail
     refine HOP.out.mono ?_
     rintro e w1 ⟨hB1, he⟩
     rw [if_pos H0.out] at he
     obtain ⟨v, q, rfl, -, -⟩ := he
     have HB1 := hide hB1
     clear hB1
     go_wp2_with fail
     refine (HHO.out _).mono ?_
     rintro e w2 ⟨hB2, v2, rfl, -, -⟩
     have HB2 := hide (HB1.out.trans (hB2.mono HB1.out.size))
     clear hB2
     go_wp2
     exact bodyPost_ret (v := .tuple #[.string ⟨#[]⟩, .string ⟨#[]⟩, .string ⟨#[]⟩, .int .i64 nh]) (by simp [results, Tryz.results103, go_sem]) rfl ⟨rfl, HB2.out⟩
 · have hno : lkR l t.data.toList = ([], [], [], (opn l).2) := by unfold lkR; rw [if_neg h0]
   rw [hno]
   have H0 := hide h0
   obtain ⟨n, hn⟩ : ∃ n, (opn l).2 = n := ⟨_, rfl⟩
   have hn0 : (n != 0) = true := by rw [← hn]; simp [h0]
   have HE := hide hn
   rw [hn]
   clear hno hrt h0 hn HHO
   go_enter Tryz.func103, Tryz.ntmps103
   go_wp2_with fail
   refine HOP.out.mono ?_
   rintro e w1 ⟨hB1, he⟩
   rw [if_neg H0.out, HE.out] at he
   subst he
   have HB1 := hide hB1
   clear hB1
   go_wp2
   exact bodyPost_ret (v := .tuple #[.string ⟨#[]⟩, .string ⟨#[]⟩, .string ⟨#[]⟩, .int .i64 n]) (by simp [results, Tryz.results103, go_sem]) rfl ⟨rfl, HB1.out⟩
end Go.Proofs.YtgohllfpceeboaaGreatDoor
namespace Sx
def SecOk (rs : List Rl) : Prop := ∀ r ∈ rs, r.2.2 = 105 ∨ r.2.2 = 112
theorem addLn_sec {rs : List Rl} {sec : UInt8} {line : List UInt8} (h : SecOk rs) (hs : sec = 105 ∨ sec = 112) : SecOk (addLn rs sec line).1.1 ∧ ((addLn rs sec line).1.2 = 105 ∨ (addLn rs sec line).1.2 = 112) := by
 unfold addLn
 split
 · exact ⟨h, hs⟩
 · split
   · exact ⟨h, .inl rfl⟩
   · split
     · exact ⟨h, .inr rfl⟩
     · cases hr : readRl line sec with
       | none => exact ⟨h, hs⟩
       | some r =>
         simp only
         split
         · exact ⟨h, hs⟩
         · split
           · exact ⟨h, hs⟩
           · refine ⟨fun q hq => ?_, hs⟩
             rcases List.mem_append.1 hq with hq | hq
             · exact h q hq
             · rw [List.mem_singleton.1 hq]
               unfold readRl at hr
               split at hr
               · obtain rfl := Option.some.inj hr
                 exact hs
               · cases hr
theorem addLns_sec : ∀ (l : List (List UInt8)) (rs : List Rl) (sec : UInt8) (n : Int), SecOk rs → (sec = 105 ∨ sec = 112) → SecOk (addLns l rs sec n).1
 | [], _, _, _, h, _ => h
 | x :: r, rs, sec, n, h, hs => by
   unfold addLns
   split
   · exact addLns_sec r _ _ _ (addLn_sec h hs).1 (addLn_sec h hs).2
   · exact h
theorem addAll_sec : ∀ (l : List (List UInt8)) (rs : List Rl) (n : Int), SecOk rs → SecOk (addAll l rs n).1
 | [], _, _, h => h
 | s :: r, rs, n, h => by
   unfold addAll
   split
   · exact addAll_sec r _ _ (addLns_sec _ _ _ _ h (.inl rfl))
   · exact addLns_sec _ _ _ _ h (.inl rfl)
theorem secOk_ne {rs : List Rl} (h : SecOk rs) : ∀ r ∈ rs, r.2.2 ≠ 10 := by
 intro r hr
 rcases h r hr with e | e <;> rw [e] <;> decide
end Sx
namespace Go.Proofs.YtgohllfpceeboaaGreatDoor
open Go.RowKit
set_option maxRecDepth 100000 in
set_option maxHeartbeats 1000000 in
theorem rcomp (L : List (List UInt8)) (v : Value) (w : World) (hrd : RdS w v L) (hL : L.length ≤ 1000000000000) (hsl : Sx.sl L ≤ 1000000000000) : Calls Tryz.prog 101 #[v] w fun e w' => e = .returned (.tuple #[.string ⟨(Sx.compR L).1.toArray⟩, .int .i64 (Sx.compR L).2.1, .int .i64 (Sx.compR L).2.2]) ∧ Below w.heap.size w w' := by
 have HP := hide (rparse L v w hrd hL hsl)
 clear hrd hL hsl
 go_enter Tryz.func101, Tryz.ntmps101
 go_wp2_with fail
 refine HP.out.mono ?_
 rintro e w1 ⟨hB, hpost⟩
 by_cases hbig : 2000 < Sx.sl L
 · rw [if_pos hbig] at hpost
   subst hpost
   have hc : Sx.compR L = ([], 1, 0) := by unfold Sx.compR; rw [if_pos hbig]
   have HC := hide hc
   clear hc hbig
   go_wp2
   go_ret3
   exact ⟨by rw [HC.out]; rfl, hB⟩
 · rw [if_neg hbig] at hpost
   by_cases h0 : (Sx.addAll L [] 0).2.1 = 0
   · rw [if_pos h0] at hpost
     obtain ⟨v2, q, rfl, hq, hat⟩ := hpost
     have hc : Sx.compR L = (Sx.imgT (Sx.tabOf (q.map (·.2))), 0, 0) := by unfold Sx.compR; rw [if_neg hbig, if_pos h0, hq]
     have hok := Sx.addAll_ok L [] 0 Sx.rlsOk_nil
     have hsec := Sx.secOk_ne (Sx.addAll_sec L [] 0 (by intro r hr; cases hr))
     rw [← hq] at hok hsec
     have HI := hide (rimg q w.heap.size v2 w1 hat hok hsec)
     have HC := hide hc
     have hsz := hB.size
     clear hc hbig h0 hq hok hsec hat
     go_wp2_with fail
     refine HI.out.mono ?_
     rintro e w2 ⟨rfl, hB2⟩
     go_wp2
     go_ret3
     exact ⟨by rw [HC.out]; rfl, hB.trans (hB2.mono hsz)⟩
   · rw [if_neg h0] at hpost
     subst hpost
     have hc : Sx.compR L = ([], (Sx.addAll L [] 0).2.1, (Sx.addAll L [] 0).2.2) := by unfold Sx.compR; rw [if_neg hbig, if_neg h0]
     have HC := hide hc
     generalize (Sx.addAll L [] 0).2.1 = m at HC h0 ⊢
     generalize (Sx.addAll L [] 0).2.2 = n at HC ⊢
     have hm : (m != 0) = true := by simpa using h0
     clear hc hbig h0
     go_wp2
     go_ret3
     exact ⟨by rw [HC.out]; rfl, hB⟩
end Go.Proofs.YtgohllfpceeboaaGreatDoor
