import Derived.Test.YtgohllfpceeboaaGreatDoorSbbg
import Derived.Test.YtgohllfpceeboaaGreatDoorSbbe
import Derived.Test.YtgohllfpceeboaaGreatDoorSbbi
import Derived.Test.YtgohllfpceeboaaGreatDoorSbbj
import Derived.Test.YtgohllfpceeboaaGreatDoorKed
import Derived.Deep.RegionHeldLaw
import Derived.Deep.AppendSrc
import Derived.Deep.CutBlock
import Derived.Deep.DeepCutAuto
namespace Go.Proofs.YtgohllfpceeboaaGreatDoor
open Go.RowKit
set_option maxRecDepth 100000 in
set_option maxHeartbeats 8000000 in
/-- suffixkeep.Turned -/
theorem kturned (l : List Sx.RawR) (v : Value) (a : Int) (rm : ByteArray) (w : World) (hw : LWt w) (hv : RdR w v l) (hl : l.length ≤ 9223372036854775807) (ha : I64 a) : Calls Tryz.prog 9 #[v, .int .i64 a, .string rm] w fun e w' => e = .returned (.bool true) ∧ Below w.heap.size w w' := by
  have HAW := hide (kawake w hw)
  have hXs : 0 < (⟨exX.toArray⟩ : ByteArray).size := exX_len
  obtain ⟨X, hX⟩ : ∃ X : ByteArray, ⟨exX.toArray⟩ = X := ⟨_, rfl⟩
  rw [hX] at HAW hXs
  have hXe := ne_text hXs
  clear hX hXs
  have HLW : Hid (∀ W, Below w.heap.size w W → LWt W) := hide (fun W h => lwt_stays _ _ hw h)
  have HKE : Hid (∀ W, Below w.heap.size w W → Calls Tryz.prog 24 #[v] W fun e w' => ∃ mv, e = .returned mv ∧ RdR w' mv (Sx.kepF l) ∧ Below W.heap.size W w') := hide (fun W h => by
    have hv' := hv.below h
    refine (kkept l v W (lwt_stays _ _ hw h) hv' hl).mono ?_
    rintro e w' ⟨mv, rfl, h1, h2⟩
    obtain ⟨-, -, -, ho, -⟩ := hv
    exact ⟨mv, rfl, rdR_own h1 (fun x hx => ho x (kep_of _ x hx)), h2⟩)
  have HLI : Hid (∀ mv W, RdR W mv (Sx.kepF l) → Calls Tryz.prog 25 #[mv] W fun e w' => e = .returned (.string ⟨(Sx.listT (Sx.kepF l)).toArray⟩) ∧ Below W.heap.size W w') := hide (fun mv W h => klist _ _ _ h (Sx.kepF_ok l).2)
  have HPI := hide (fun W => kpick a 100 W ha.1 ha.2 (by omega) (by omega))
  have hf100 := Sx.pickN_lt a 100 (by omega)
  obtain ⟨f, hf⟩ : ∃ f, Sx.pickN a 100 = f := ⟨_, rfl⟩
  rw [hf] at HPI hf100
  obtain ⟨n1, n2, n3⟩ := noteT_ok rm.data.toList
  obtain ⟨tp1, tp2, tp3⟩ := turned_pure l f n1 n2 n3
  have hml := (Sx.kepF_ok l).2
  have HCA := hide (fun W h => pcomp1 (Sx.listT (Sx.kepF l)) W h)
  have HCB := hide (fun W h => pcomp1 (Sx.turnT (noteT rm.data.toList) (rotR (Sx.kepF l) f)) W h)
  have HCC := hide (fun v W h1 h2 => pcomp (Sx.ownT (rotR (Sx.kepF l) f)) v W h1 h2 (by unfold Sx.ownT; rw [List.length_map, rotR_len]; omega))
  rw [tp1] at HCA
  rw [tp2, tp1] at HCB
  rw [tp3, tp1] at HCC
  obtain ⟨im, him⟩ : ∃ im, (Sx.compR [Sx.listT (Sx.kepF l)]).1 = im := ⟨_, rfl⟩
  obtain ⟨at0, hat⟩ : ∃ im, (Sx.compR [Sx.listT (Sx.kepF l)]).2.2 = im := ⟨_, rfl⟩
  rw [him, hat] at HCA HCB HCC
  obtain ⟨nt, hnt⟩ : ∃ nt, noteT rm.data.toList = nt := ⟨_, rfl⟩
  rw [hnt] at HCB n3
  obtain ⟨m, hm⟩ : ∃ m, Sx.kepF l = m := ⟨_, rfl⟩
  rw [hm] at HKE HLI HCA HCB HCC hml
  have hrl := rotR_len m f
  obtain ⟨ro, hro⟩ : ∃ r, rotR m f = r := ⟨_, rfl⟩
  rw [hro] at hrl HCB HCC
  have HRA : Hid (∀ k, k < m.length → ∃ (h1 : k < ro.length) (h2 : (k + f) % m.length < m.length), ro[k] = m[(k + f) % m.length]) := hide (fun k h => by
    subst hro
    exact ⟨by rw [rotR_len]; exact h, Nat.mod_lt _ (by omega), rotR_at m f k h⟩)
  obtain ⟨L, hL⟩ : ∃ X : ByteArray, ⟨(Sx.listT m).toArray⟩ = X := ⟨_, rfl⟩
  obtain ⟨I, hI⟩ : ∃ X : ByteArray, ⟨im.toArray⟩ = X := ⟨_, rfl⟩
  rw [hL] at HLI HCA
  rw [hI] at HCA HCB HCC
  have pp : (I.toList == I.toList) = true := by simp
  clear tp1 tp2 tp3 n1 n2 him hat hL hI hm hf hro
  have HNT := hide hnt
  clear hnt
  go_enter Tryz.func9, Tryz.ntmps9
  go_wp2_with fail
  refine HAW.out.mono ?_
  rintro e w1 ⟨rfl, hB⟩
  have HB1 := hide hB
  clear hB HAW
  go_wp2_with fail
  refine (HKE.out _ HB1.out).mono ?_
  rintro e w2 ⟨mv, rfl, hrd, hB⟩
  have HB2 := hide (below_to HB1.out hB)
  have HRD := hide hrd
  clear hB hrd
  go_wp2_with fail
  refine (HLI.out _ _ HRD.out).mono ?_
  rintro e w3 ⟨rfl, hB⟩
  have HB3 := hide (below_to HB2.out hB)
  have HC3 := hide hB
  clear hB
  go_wp2_with fail
  refine (HCA.out _ (HLW.out _ HB3.out)).mono ?_
  rintro e w4 ⟨rfl, hB⟩
  have HB4 := hide (below_to (HB3.out.alloc HB3.out.size _) hB)
  have HC4 := hide (below_to (HC3.out.alloc HC3.out.size _) hB)
  clear hB
  go_upto_block 0 with fail
  go_cut [14, 15] (fun nv _ wc => ∃ N : ByteArray, nv = .string N ∧ N.data.toList = nt ∧ N.size ≤ 22 ∧ w4 = wc)
  case first =>
   go_wp2_with fail
   go_loop [14, 15] (fun nv iv => ∃ (k : Nat) (N : ByteArray), nv = .string N ∧ iv = .int .i64 k ∧ k ≤ rm.size ∧ k ≤ 20 ∧ N.size ≤ 2 + k ∧ N.data.toList = [47, 47] ++ (rm.data.toList.take k).filter fun b => decide (b ≠ 10)) (fun _ iv => (20 - intOf iv).toNat)
   case atStart => exact ⟨0, _, rfl, rfl, by omega, by omega, by decide, rfl⟩
   case round =>
     obtain ⟨k, N, rfl, rfl, hk, hk20, hNs, hN⟩ := hrel
     by_cases hlt : k < rm.size ∧ k < 20
     · obtain ⟨hlt, hlt20⟩ := hlt
       have hlt2 : k < rm.data.toList.length := by rw [ba_len]; exact hlt
       have hget : rm.data.toList[k] = rm[k] := rfl
       have hst : ([47, 47] ++ (rm.data.toList.take (k + 1)).filter fun b => decide (b ≠ 10)) = if rm[k] = 10 then N.data.toList else N.data.toList ++ [rm[k]] := by
         rw [List.take_succ_eq_append_getElem hlt2, List.filter_append, ← List.append_assoc, ← hN, hget]
         split <;> rename_i hx
         · rw [List.filter_cons_of_neg (by simp [hx])]; simp
         · rw [List.filter_cons_of_pos (by simp [hx])]; simp
       have hex : (rm.extract k (k + 1)).data.toList = [rm[k]] := by
         rw [ByteArray.data_extract]
         apply List.ext_getElem
         · simp
           have : rm.data.size = rm.size := rfl
           omega
         · intro i h1 h2
           simp at h2
           subst h2
           simp
           rfl
       have hes : (rm.extract k (k + 1)).size = 1 := by rw [← ba_len, hex]; rfl
       obtain ⟨c, hc⟩ : ∃ c, rm[k] = c := ⟨_, rfl⟩
       rw [hc] at hst hex
       have hti : ((k : Int) + 1).toNat = k + 1 := by omega
       obtain ⟨E, hE⟩ : ∃ E, rm.extract k (k + 1) = E := ⟨_, rfl⟩
       rw [hE] at hex hes
       by_cases h10 : c = 10
       · rw [if_pos h10] at hst
         subst h10
         have HST := hide hst
         clear hst hN hget hex
         go_wp2
         go_round
         case rel => exact ⟨k + 1, N, rfl, by go_num, by omega, by omega, by omega, HST.out.symm⟩
         case measure => simp [intOf]; omega
       · rw [if_neg h10] at hst
         have hx : ((c.toNat : Int) == 10) = false := by
           rw [beq_eq_false_iff_ne]
           exact fun h => h10 (UInt8.toNat_inj.1 (Int.ofNat.inj h))
         have hx2 : ((c.toNat : Int) != 10) = true := by
           rw [bne, hx]; rfl
         have hap : (N ++ E).data.toList = N.data.toList ++ [c] := by rw [ByteArray.data_append, Array.toList_append, hex]
         have has : (N ++ E).size = N.size + 1 := by rw [← ba_len, hap, List.length_append, ba_len]; rfl
         have HST := hide (hap.trans hst.symm)
         clear hst hN hget hex hap
         go_wp2
         go_round
         case rel => exact ⟨k + 1, N ++ E, by go_num, by go_num, by omega, by omega, by omega, HST.out⟩
         case measure => simp [intOf]; omega
     · have hfin : N.data.toList = nt := by
         rw [hN, ← HNT.out]
         unfold noteT
         congr 2
         by_cases h20 : k < 20
         · rw [List.take_of_length_le (by rw [ba_len]; omega), List.take_of_length_le (by rw [ba_len]; omega)]
         · rw [show k = 20 by omega]
       have hNs2 : N.size ≤ 22 := by omega
       have HFN := hide hfin
       have h5 : k < rm.size → ((k : Int) < 20) = False := fun h => by simp; omega
       by_cases hkl : k < rm.size
       · have h6 := h5 hkl
         clear hfin hN hlt h5
         go_wp2
         go_meet
         case rel => exact ⟨N, rfl, HFN.out, hNs2, rfl⟩
       · have h6 : ((k : Int) < rm.size) = False := by simp; omega
         clear hfin hN hlt h5
         go_wp2
         go_meet
         case rel => exact ⟨N, rfl, HFN.out, hNs2, rfl⟩
  case rest =>
    obtain ⟨N, rfl, hfN, hNs2, rfl⟩ := hcut
    have HFN := hide hfN
    clear hfN
    have HR4 := hide (HRD.out.below HC4.out)
    obtain ⟨mp, mc, rfl, hmo, hmr⟩ := HR4.out
    have HMO := hide hmo
    have HMR := hide hmr
    clear hmo hmr HR4 HRD HC4 HC3 HKE HLI HCA HB1 HB2 HB3
    obtain ⟨i0, hi, hz0, hz1, hz2⟩ := info_parts Tryz.info9
    go_wp2_with fail
    go_loopw [12, 13, 16] (fun tv ov kv wr => ∃ (k : Nat) (T : ByteArray), tv = .string T ∧ kv = .int .i64 k ∧ k ≤ m.length ∧ T.size ≤ 70 * k ∧ T.data.toList = Sx.turnT nt (ro.take k) ∧ wr.ownsRow w4.heap.size 9 1 ov k (stV (Sx.ownT (ro.take k))) ∧ Below w4.heap.size w4 wr) (fun _ _ kv _ => (m.length - intOf kv).toNat)
    case atStart => exact ⟨0, _, rfl, rfl, by omega, by decide, rfl, World.ownsRow_nil _ _ _ _, Below.refl _ _⟩
    case round =>
      obtain ⟨k, T, rfl, rfl, hk, hTs, hT, hown, hBr⟩ := hrel
      have HBR := hide hBr
      obtain ⟨op, oc, rfl⟩ := own_shapeK hown
      have HOWN := hide hown
      by_cases hlt : k < m.length
      · obtain ⟨hr1, hr2, hrq⟩ := HRA.out k hlt
        obtain ⟨j, hj⟩ : ∃ j, (k + f) % m.length = j := ⟨_, rfl⟩
        have hrem : Int.tmod ((k : Int) + f) m.length = (j : Int) := by
          rw [Int.tmod_eq_emod_of_nonneg (by omega), ← hj]
          simp
        simp only [hj] at hrq hr2
        have hm0 : ¬ (m.length : Int) = 0 := by omega
        have hm1 : ((m.length : Int) == 0) = false := by simpa using hm0
        obtain ⟨g, go, rfl, hg, hc5⟩ := HMR.out j hr2
        have hqo := HMO.out m[j] (List.getElem_mem hr2)
        have htt := turnT_take nt ro k hr1
        have hot := ownT_take ro k hr1
        rw [hrq] at htt hot
        obtain ⟨q, hq⟩ : ∃ q, m[j] = q := ⟨_, rfl⟩
        rw [hq] at hqo htt hot hc5
        clear hq hrq hj
        have HL1 := hide (fun W => kline q W hqo)
        have HS1 := hide (fun W => ksection q W hqo)
        have hll := Sx.lineT_len q
        have hsl : (Sx.secT q ++ [10]).length = 5 := rfl
        have HU1 := hide (fun W => kupper ⟨(Sx.lineT q).toArray⟩ W (by show (Sx.lineT q).length ≤ 1000; omega))
        rw [show (⟨(Sx.lineT q).toArray⟩ : ByteArray).data.toList = Sx.lineT q from rfl] at HU1
        have hul := upB_len (Sx.lineT q)
        obtain ⟨y, hy⟩ : ∃ y, Sx.lineT q = y := ⟨_, rfl⟩
        rw [hy] at HL1 HU1 hll hul htt hot
        obtain ⟨u, hu⟩ : ∃ u, Sx.upB y = u := ⟨_, rfl⟩
        rw [hu] at HU1 hul htt
        obtain ⟨x, hx⟩ : ∃ x, Sx.secT q ++ [10] = x := ⟨_, rfl⟩
        have htt2 : Sx.turnT nt (ro.take (k + 1)) = T.data.toList ++ nt ++ [10, 10] ++ x ++ u ++ [10] := by
          rw [htt, hT, ← hx]; simp
        have hot2 : Sx.ownT (ro.take (k + 1)) = Sx.ownT (ro.take k) ++ [x ++ y] := by
          rw [hot, ← hx]; simp
        rw [hx] at HS1 hsl
        obtain ⟨t, ht⟩ : ∃ t, T.data.toList = t := ⟨_, rfl⟩
        have hTe : T = ⟨t.toArray⟩ := by rw [← ht]
        have hNe : N = ⟨nt.toArray⟩ := by rw [← HFN.out]
        have hts : t.length ≤ 700 := by rw [← ht, ba_len]; omega
        rw [ht] at htt2
        have a1 : T ++ N = ⟨(t ++ nt).toArray⟩ := by rw [hTe, hNe]; exact ba_app t nt
        have a2 : (⟨(t ++ nt).toArray⟩ : ByteArray) ++ ⟨#[10, 10]⟩ = ⟨(t ++ nt ++ [10, 10]).toArray⟩ := ba_app (t ++ nt) [10, 10]
        have a3 := ba_app (t ++ nt ++ [10, 10]) x
        have a4 := ba_app (t ++ nt ++ [10, 10] ++ x) u
        have a5 : (⟨(t ++ nt ++ [10, 10] ++ x ++ u).toArray⟩ : ByteArray) ++ ⟨#[10]⟩ = ⟨(t ++ nt ++ [10, 10] ++ x ++ u ++ [10]).toArray⟩ := ba_app (t ++ nt ++ [10, 10] ++ x ++ u) [10]
        have a6 := ba_app x y
        have z0 : (⟨(t ++ nt ++ [10, 10] ++ x ++ u ++ [10]).toArray⟩ : ByteArray).size ≤ 70 * (k + 1) := by
          show (t ++ nt ++ [10, 10] ++ x ++ u ++ [10]).length ≤ _
          rw [← ht]
          simp only [List.length_append, List.length_cons, List.length_nil, ba_len]
          omega
        have z1 : (⟨(t ++ nt).toArray⟩ : ByteArray).size ≤ 722 := by show (t ++ nt).length ≤ 722; rw [List.length_append]; omega
        have z2 : (⟨(t ++ nt ++ [10, 10]).toArray⟩ : ByteArray).size ≤ 724 := by
          show (t ++ nt ++ [10, 10]).length ≤ 724
          simp only [List.length_append, List.length_cons, List.length_nil]; omega
        have z3 : (⟨(t ++ nt ++ [10, 10] ++ x).toArray⟩ : ByteArray).size ≤ 729 := by
          show (t ++ nt ++ [10, 10] ++ x).length ≤ 729
          simp only [List.length_append, List.length_cons, List.length_nil]; omega
        have z4 : (⟨(t ++ nt ++ [10, 10] ++ x ++ u).toArray⟩ : ByteArray).size ≤ 770 := by
          show (t ++ nt ++ [10, 10] ++ x ++ u).length ≤ 770
          simp only [List.length_append, List.length_cons, List.length_nil]; omega
        have z5 : (⟨x.toArray⟩ : ByteArray).size = 5 := hsl
        have z6 : (⟨y.toArray⟩ : ByteArray).size ≤ 34 := hll
        have z7 : (⟨u.toArray⟩ : ByteArray).size ≤ 34 := by show u.length ≤ 34; omega
        have z8 : T.size ≤ 700 := by omega
        have hf5 : (⟨(t ++ nt ++ [10, 10] ++ x ++ u ++ [10]).toArray⟩ : ByteArray).data.toList = t ++ nt ++ [10, 10] ++ x ++ u ++ [10] := rfl
        have hst5 : stV [x ++ y] = [.string ⟨(x ++ y).toArray⟩] := rfl
        obtain ⟨X1, hX1⟩ : ∃ X : ByteArray, ⟨x.toArray⟩ = X := ⟨_, rfl⟩
        obtain ⟨Y1, hY1⟩ : ∃ X : ByteArray, ⟨y.toArray⟩ = X := ⟨_, rfl⟩
        obtain ⟨U1, hU1⟩ : ∃ X : ByteArray, ⟨u.toArray⟩ = X := ⟨_, rfl⟩
        obtain ⟨V1, hV1⟩ : ∃ X : ByteArray, ⟨(t ++ nt).toArray⟩ = X := ⟨_, rfl⟩
        obtain ⟨V2, hV2⟩ : ∃ X : ByteArray, ⟨(t ++ nt ++ [10, 10]).toArray⟩ = X := ⟨_, rfl⟩
        obtain ⟨V3, hV3⟩ : ∃ X : ByteArray, ⟨(t ++ nt ++ [10, 10] ++ x).toArray⟩ = X := ⟨_, rfl⟩
        obtain ⟨V4, hV4⟩ : ∃ X : ByteArray, ⟨(t ++ nt ++ [10, 10] ++ x ++ u).toArray⟩ = X := ⟨_, rfl⟩
        obtain ⟨V5, hV5⟩ : ∃ X : ByteArray, ⟨(t ++ nt ++ [10, 10] ++ x ++ u ++ [10]).toArray⟩ = X := ⟨_, rfl⟩
        obtain ⟨W1, hW1⟩ : ∃ X : ByteArray, ⟨(x ++ y).toArray⟩ = X := ⟨_, rfl⟩
        rw [hV1] at a1 a2 z1
        rw [hV2] at a2 a3 z2
        rw [hX1] at a3 a6 z5 HS1
        rw [hV3] at a3 a4 z3
        rw [hU1] at a4 z7 HU1
        rw [hV4] at a4 a5 z4
        rw [hV5] at a5 z0 hf5
        rw [hY1] at a6 z6 HL1 HU1
        rw [hW1] at a6 hst5
        have HTT : Hid (V5.data.toList = Sx.turnT nt (ro.take (k + 1))) := hide (hf5.trans htt2.symm)
        have HOT : Hid (stV (Sx.ownT (ro.take (k + 1))) = stV (Sx.ownT (ro.take k)) ++ [.string W1]) := hide (by rw [hot2, stV_app, hst5])
        obtain ⟨q1, q2, q3, q4, q5⟩ := q
        have hx0 := hc5.below hBr hg
        unfold R5 at hx0
        unfold rawV at HL1 HS1
        dsimp only at hx0 HL1 HS1
        obtain ⟨b1, b2, b3, b4, b5⟩ := hx0
        have hbw := HBR.out.size
        clear hc5 hown hBr hT htt hot htt2 hot2 hTe hNe hX1 hY1 hU1 hV1 hV2 hV3 hV4 hV5 hW1 hf5 hst5 hx hy hu ht hqo hll hul hsl hr1 hTs hts
        go_wp2_with fail
        refine (HPI.out _).mono ?_
        rintro e v1 ⟨rfl, rfl⟩
        go_wp2_with fail
        have hbx0 : Below w4.heap.size w4 (v1.alloc (.cells #[.int .i64 q1, .int .i64 q2, .int .i64 q3, .int .i64 q4, .int .i64 q5] 42)) := HBR.out.alloc HBR.out.size _
        obtain ⟨VA, hVA⟩ : ∃ VA, v1.alloc (.cells #[.int .i64 q1, .int .i64 q2, .int .i64 q3, .int .i64 q4, .int .i64 q5] 42) = VA := ⟨_, rfl⟩
        have hown1 := HOWN.out.alloc (.cells #[.int .i64 q1, .int .i64 q2, .int .i64 q3, .int .i64 q4, .int .i64 q5] 42)
        have hbk : v1.heap.size < VA.heap.size := by rw [← hVA, World.size_alloc]; omega
        have hcA := cell5_new v1 (.int .i64 q1) (.int .i64 q2) (.int .i64 q3) (.int .i64 q4) (.int .i64 q5) 42
        rw [hVA] at hbx0 hown1 hcA ⊢
        have hadd : ∀ n, (⟨v1.heap.size, 0, none⟩ : Addr).add n = ⟨v1.heap.size, n, none⟩ := fun n => by rw [Addr.add_lit, Nat.zero_add]
        have HBX : Hid (∀ W, Below VA.heap.size VA W → W.cell? ⟨v1.heap.size, 0, none⟩ = some (.int .i64 q1) ∧ W.cell? ⟨v1.heap.size, 1, none⟩ = some (.int .i64 q2) ∧ W.cell? ⟨v1.heap.size, 2, none⟩ = some (.int .i64 q3) ∧ W.cell? ⟨v1.heap.size, 3, none⟩ = some (.int .i64 q4) ∧ W.cell? ⟨v1.heap.size, 4, none⟩ = some (.int .i64 q5)) := hide (fun W h => by
          refine ⟨(h.cell (p := ⟨v1.heap.size, 0, none⟩) hbk).trans ?_, (h.cell (p := ⟨v1.heap.size, 1, none⟩) hbk).trans ?_, (h.cell (p := ⟨v1.heap.size, 2, none⟩) hbk).trans ?_, (h.cell (p := ⟨v1.heap.size, 3, none⟩) hbk).trans ?_, (h.cell (p := ⟨v1.heap.size, 4, none⟩) hbk).trans ?_⟩
          · exact (hadd 0) ▸ hcA 0 _ rfl
          · exact (hadd 1) ▸ hcA 1 _ rfl
          · exact (hadd 2) ▸ hcA 2 _ rfl
          · exact (hadd 3) ▸ hcA 3 _ rfl
          · exact (hadd 4) ▸ hcA 4 _ rfl)
        have HXA := hide hbx0
        have HOW1 := hide hown1
        have hbA : Below VA.heap.size VA VA := Below.refl _ _
        have hS0 := HBX.out VA hbA
        have hbz := hbx0.size
        clear hVA hcA hadd hbx0 hown1 b1 b2 b3 b4 b5
        have hnb : some v1.heap.size ≠ (Value.slice op k oc).ownBlock := fun e => Nat.lt_irrefl _ (HOWN.out.lt _ e.symm).2
        obtain ⟨bk, hbke⟩ : ∃ bk, v1.heap.size = bk := ⟨_, rfl⟩
        rw [hbke] at HBX hS0 hbk hbw hnb ⊢
        clear hbke
        have e1 : (9223372036854775807 < T.size + N.size) = False := by simp; omega
        have e2 : (9223372036854775807 < V1.size + 2) = False := by simp; omega
        have e3 : (9223372036854775807 < V2.size + 5) = False := by simp; omega
        have e4 : (9223372036854775807 < V3.size + U1.size) = False := by simp; omega
        have e5 : (9223372036854775807 < V4.size + 1) = False := by simp; omega
        have e6 : (9223372036854775807 < 5 + Y1.size) = False := by simp; omega
        go_region_held_law (fun w' => w'.cell? ⟨bk, 0, none⟩ = some (.int .i64 q1) ∧ w'.cell? ⟨bk, 1, none⟩ = some (.int .i64 q2) ∧ w'.cell? ⟨bk, 2, none⟩ = some (.int .i64 q3) ∧ w'.cell? ⟨bk, 3, none⟩ = some (.int .i64 q4) ∧ w'.cell? ⟨bk, 4, none⟩ = some (.int .i64 q5)) (first | exact hS3 | exact hS2 | exact hS1 | exact hS0 | go_keep) (first | (go_at_call 27; refine (HS1.out _).mono ?_; rintro e y1 ⟨rfl, hB1⟩; have hb1 : Below VA.heap.size VA y1 := below_to (by first | exact hbA | exact hbA.drew) hB1; have hS1 := HBX.out y1 hb1) | (go_at_call 28; refine (HL1.out _).mono ?_; rintro e y2 ⟨rfl, hB2⟩; have hb2 : Below VA.heap.size VA y2 := below_to (by first | exact hb1 | exact hb1.drew) hB2; have hS2 := HBX.out y2 hb2) | (go_at_call 20; refine (HU1.out _).mono ?_; rintro e y3 ⟨rfl, hB3⟩; have hb3 : Below VA.heap.size VA y3 := below_to (by first | exact hb2 | exact hb2.drew) hB3; have hS3 := HBX.out y3 hb3))
        all_goals (
          obtain ⟨VB, hVB⟩ : ∃ V, V = y3 := ⟨_, rfl⟩
          subst hVB
          have HBV := hide hb3
          have HBW := hide (below_to HXA.out hb3)
          have hown2 := own_later HOW1.out hb3
          have hS0' := HBX.out _ hb3
          have hbB : Below VB.heap.size VB VB := Below.refl _ _
          have hvz := hb3.size
          have HBY : Hid (∀ W, Below VB.heap.size VB W → W.cell? ⟨bk, 0, none⟩ = some (.int .i64 q1) ∧ W.cell? ⟨bk, 1, none⟩ = some (.int .i64 q2) ∧ W.cell? ⟨bk, 2, none⟩ = some (.int .i64 q3) ∧ W.cell? ⟨bk, 3, none⟩ = some (.int .i64 q4) ∧ W.cell? ⟨bk, 4, none⟩ = some (.int .i64 q5)) := hide (fun W h => HBX.out W (below_to HBV.out h))
          have HSG : Hid (∀ Y W6, Below VB.heap.size VB Y → (Y.alloc (.cells #[.string W1] 9)).grownBy W6 (Value.slice op k oc).ownBlock → W6.cell? ⟨bk, 0, none⟩ = some (.int .i64 q1) ∧ W6.cell? ⟨bk, 1, none⟩ = some (.int .i64 q2) ∧ W6.cell? ⟨bk, 2, none⟩ = some (.int .i64 q3) ∧ W6.cell? ⟨bk, 3, none⟩ = some (.int .i64 q4) ∧ W6.cell? ⟨bk, 4, none⟩ = some (.int .i64 q5)) := hide (fun Y W6 h hg => by
            obtain ⟨s1, s2, s3, s4, s5⟩ := HBY.out _ (h.alloc h.size (.cells #[.string W1] 9))
            have hlt6 : bk < (Y.alloc (.cells #[.string W1] 9)).heap.size := by
              rw [World.size_alloc]
              have := h.size
              omega
            exact ⟨(hg.cell_far ⟨bk, 0, none⟩ hlt6 hnb).trans s1, (hg.cell_far ⟨bk, 1, none⟩ hlt6 hnb).trans s2, (hg.cell_far ⟨bk, 2, none⟩ hlt6 hnb).trans s3, (hg.cell_far ⟨bk, 3, none⟩ hlt6 hnb).trans s4, (hg.cell_far ⟨bk, 4, none⟩ hlt6 hnb).trans s5⟩)
          have HOW2 := hide hown2
          have HZ0 := hide z0
          clear hb3 hb2 hb1 hB1 hB2 hB3 hS1 hS2 hS3 hown2 hS0 hbA a1 a2 a3 a4 a5 e1 e2 e3 e4 e5 z0 z1 z2 z3 z4 z7 z8 hnb
          go_upto_region 19 with fail
          go_region_held_law (fun w' => w'.cell? ⟨bk, 0, none⟩ = some (.int .i64 q1) ∧ w'.cell? ⟨bk, 1, none⟩ = some (.int .i64 q2) ∧ w'.cell? ⟨bk, 2, none⟩ = some (.int .i64 q3) ∧ w'.cell? ⟨bk, 3, none⟩ = some (.int .i64 q4) ∧ w'.cell? ⟨bk, 4, none⟩ = some (.int .i64 q5)) (first | exact hS5 | exact hS2 | exact hS1 | exact hS0' | go_keep) (first | (go_at_call 27; refine (HS1.out _).mono ?_; rintro e y1 ⟨rfl, hB1⟩; have hb1 : Below VB.heap.size VB y1 := below_to (by first | exact hbB | exact hbB.drew) hB1; have hS1 := HBY.out y1 hb1) | (go_at_call 28; refine (HL1.out _).mono ?_; rintro e y2 ⟨rfl, hB2⟩; have hb2 : Below VB.heap.size VB y2 := below_to (by first | exact hb1 | exact hb1.drew) hB2; have hS2 := HBY.out y2 hb2; have hown3 := own_later HOW2.out hb2; have hz3 := (below_to HBW.out hb2).size) | (refine step_append_lies _ rfl _ _ _ rfl w4.heap.size 9 i0 (.string ⟨#[]⟩) 1 16 Tryz.underlying34 hi hz0 hz1 hz2 rfl (by decide) (.slice op k oc) k (stV (Sx.ownT (ro.take k))) rfl (hown3.alloc _) ⟨y2.heap.size, 0, none⟩ 1 1 [.string W1] rfl rfl (cell_one_new _ _ _) (by simp [Value.oneCell']) (by omega) (by unfold maxLen; omega) (by omega) (by simp; omega) _ rfl ?_; intro g6 cap6 w6 hown6 hgrow6 hat6 hlt6; have hS5 := HSG.out y2 w6 hb2 hgrow6))
          all_goals (
            have hB6 := below_app (below_to HBW.out hb2) hz3 hown3 hgrow6
            go_wp2
            exact ⟨⟨k + 1, V5, rfl, by go_num, by omega, HZ0.out, HTT.out, by rw [HOT.out]; exact hown6, hB6⟩, by simp [intOf]; omega⟩))
      · have hke : k = m.length := by omega
        have hge : ((k : Int) < m.length) = False := by simp; omega
        rw [List.take_of_length_le (by omega)] at hT hown
        have hTe : (⟨(Sx.turnT nt ro).toArray⟩ : ByteArray) = T := by rw [← hT]
        have hol : (Sx.ownT ro).length = k := by unfold Sx.ownT; rw [List.length_map]; omega
        have HOW : Hid (wr.ownsRow w4.heap.size 9 1 (.slice op k oc) (Sx.ownT ro).length (stV (Sx.ownT ro))) := hide (by rw [hol]; exact hown)
        rw [hTe] at HCB
        have HBE := hide (below_to HB4.out hBr)
        have hbe := HBE.out.size
        clear hown hT hTe hol hBr HOWN hlt hke hrl
        go_wp2_with fail
        refine (HCB.out _ (HLW.out _ HBE.out)).mono ?_
        rintro e y1 ⟨rfl, hB⟩
        have HBA := hide (below_to ((Below.refl _ wr).alloc (Nat.le_refl _) _) hB)
        have HBF := hide (below_to HBE.out HBA.out)
        have HOW2 := hide (rds_own (own_later HOW.out HBA.out))
        clear hB
        go_wp2_with fail
        refine (HCC.out _ _ (HLW.out _ HBF.out) HOW2.out).mono ?_
        rintro e y2 ⟨rfl, hB⟩
        have HBG := hide (below_to HBF.out hB)
        clear hB
        go_wp2
        go_ret
        exact ⟨rfl, HBG.out⟩
end Go.Proofs.YtgohllfpceeboaaGreatDoor
