import Derived.Test.YtgohllfpceeboaaGreatDoorSbbg
import Derived.Test.YtgohllfpceeboaaGreatDoorSbbb
import Derived.Test.YtgohllfpceeboaaGreatDoorSbbe
import Derived.Test.YtgohllfpceeboaaGreatDoorKea
import Derived.Test.YtgohllfpceeboaaGreatDoorKeb
import Derived.Deep.RegionHeldLaw
namespace Go.Proofs.YtgohllfpceeboaaGreatDoor
open Go.RowKit
set_option maxRecDepth 100000 in
set_option maxHeartbeats 8000000 in
/-- suffixkeep.Found -/
theorem kfound (l : List Sx.RawR) (v : Value) (a b c d : Int) (w : World) (hw : LWt w) (hv : RdR w v l) (hl : l.length ≤ 9223372036854775807) (ha : I64 a) (hb : I64 b) (hc : I64 c) (hd : I64 d) : Calls Tryz.prog 10 #[v, .int .i64 a, .int .i64 b, .int .i64 c, .int .i64 d] w fun e w' => e = .returned (.bool true) ∧ Below w.heap.size w w' := by
  have HAW := hide (kawake w hw)
  have hXs : 0 < (⟨exX.toArray⟩ : ByteArray).size := exX_len
  obtain ⟨X, hX⟩ : ∃ X : ByteArray, ⟨exX.toArray⟩ = X := ⟨_, rfl⟩
  rw [hX] at HAW hXs
  have hXe := ne_text hXs
  clear hX hXs
  have HLW : Hid (∀ W, Below w.heap.size w W → LWt W) := hide (fun W h => lwt_stays _ _ hw h)
  have HKE : Hid (∀ W, Below w.heap.size w W → Calls Tryz.prog 24 #[v] W fun e w' => ∃ mv, e = .returned mv ∧ RdR w' mv (Sx.kepF l) ∧ Below W.heap.size W w') := hide (fun W h => by
    have hv' := hv.below h
    refine (kkept l v W (lwt_stays _ _ hw h) hv' hl).mono ?_
    rintro e w' ⟨mv, rfl, h1, h2⟩
    obtain ⟨-, -, -, ho, -⟩ := hv
    exact ⟨mv, rfl, rdR_own h1 (fun x hx => ho x (kep_of _ x hx)), h2⟩)
  have HLI : Hid (∀ mv W, RdR W mv (Sx.kepF l) → Calls Tryz.prog 25 #[mv] W fun e w' => e = .returned (.string ⟨(Sx.listT (Sx.kepF l)).toArray⟩) ∧ Below W.heap.size W w') := hide (fun mv W h => klist _ _ _ h (Sx.kepF_ok l).2)
  have HCO := hide (fun W h => pcomp1 (Sx.listT (Sx.kepF l)) W h)
  have HHO := hide (fun W => khostOf a b c W ha hb hc)
  have HPI := hide (fun W => kpick d 9 W hd.1 hd.2 (by omega) (by omega))
  have HNA := hide (fun W => knames d W hd)
  have hce : (Sx.compR [Sx.listT (Sx.kepF l)]).2.1 = 0 := by
    obtain ⟨k1, k2⟩ := Sx.kepF_ok l
    rw [Sx.comp_list k1 k2]
  obtain ⟨hix, hi3⟩ := Sx.hostIx_ok a b c
  have hd8 := Sx.pickN_lt d 8 (by omega)
  have hd9 := Sx.pickN_lt d 9 (by omega)
  have hhl := ix_name_len hix (by omega)
  have hnl := (Sx.nm_is _ hd8).2.2.2.2.2.2.1
  obtain ⟨ix, hixd⟩ : ∃ ix, (if Sx.pickN d 9 < 8 then Sx.pickN d 8 :: Sx.hostIx a b c else Sx.hostIx a b c) = ix := ⟨_, rfl⟩
  have hixo : Sx.IxOk ix ∧ ix.length ≤ 4 := by
    rw [← hixd]
    split
    · refine ⟨⟨by simp, by rw [List.length_cons]; omega, fun i hi => ?_⟩, by rw [List.length_cons]; omega⟩
      rcases List.mem_cons.1 hi with rfl | hi
      · exact hd8
      · exact hix.lt i hi
    · exact ⟨hix, by omega⟩
  obtain ⟨hio, hi4⟩ := hixo
  have htx : Sx.dotted (ix.map Sx.nm) = if Sx.pickN d 9 < 8 then Sx.nm (Sx.pickN d 8) ++ [46] ++ Sx.dotted ((Sx.hostIx a b c).map Sx.nm) else Sx.dotted ((Sx.hostIx a b c).map Sx.nm) := by
    rw [← hixd]
    split
    · obtain ⟨y, r, hy⟩ := List.exists_cons_of_ne_nil (show (Sx.hostIx a b c).map Sx.nm ≠ [] by rw [Ne, List.map_eq_nil_iff]; exact hix.ne)
      rw [List.map_cons, hy, Sx.dotted_cons]
      simp
    · rfl
  have hpl : Sx.plainR (Sx.dotted (ix.map Sx.nm)) = (Sx.dotted (ix.map Sx.nmP), 0) := by
    unfold Sx.plainR
    rw [Sx.host_ix hio]
  have hpll := ix_plain_len hio hi4
  have hfp := fun st hst => found_pure l hio (Sx.dotted (ix.map Sx.nmP)) rfl st hst
  obtain ⟨p, hp⟩ : ∃ p, Sx.dotted (ix.map Sx.nmP) = p := ⟨_, rfl⟩
  obtain ⟨s, hs⟩ : ∃ s, Sx.dotted (ix.map Sx.nm) = s := ⟨_, rfl⟩
  obtain ⟨t0, ht0⟩ : ∃ s, Sx.dotted ((Sx.hostIx a b c).map Sx.nm) = s := ⟨_, rfl⟩
  obtain ⟨x0, hx0⟩ : ∃ s, Sx.nm (Sx.pickN d 8) = s := ⟨_, rfl⟩
  rw [hp] at hpl hpll hfp
  rw [hs] at hpl hfp htx
  rw [ht0] at HHO hhl htx
  rw [hx0] at HNA hnl htx
  rw [hce] at HCO
  obtain ⟨im, him⟩ : ∃ im, (Sx.compR [Sx.listT (Sx.kepF l)]).1 = im := ⟨_, rfl⟩
  obtain ⟨at0, hat⟩ : ∃ im, (Sx.compR [Sx.listT (Sx.kepF l)]).2.2 = im := ⟨_, rfl⟩
  rw [him] at HCO hfp
  rw [hat] at HCO
  have HPL : Hid (∀ W, LWt W → Calls Tryz.prog 18 #[.string ⟨s.toArray⟩] W fun e w' => Below W.heap.size W w' ∧ e = .returned (.tuple #[.string ⟨p.toArray⟩, .int .i64 0])) := hide (fun W h => by
    have := plainsaid_any ⟨s.toArray⟩ W h
    rw [show (⟨s.toArray⟩ : ByteArray).data.toList = s from rfl, hpl] at this
    exact this)
  have hml := (Sx.kepF_ok l).2
  obtain ⟨m, hm⟩ : ∃ m, Sx.kepF l = m := ⟨_, rfl⟩
  rw [hm] at HKE HLI HCO hfp hml
  obtain ⟨L, hL⟩ : ∃ X : ByteArray, ⟨(Sx.listT m).toArray⟩ = X := ⟨_, rfl⟩
  obtain ⟨I, hI⟩ : ∃ X : ByteArray, ⟨im.toArray⟩ = X := ⟨_, rfl⟩
  obtain ⟨S, hS⟩ : ∃ X : ByteArray, ⟨s.toArray⟩ = X := ⟨_, rfl⟩
  obtain ⟨P, hP⟩ : ∃ X : ByteArray, ⟨p.toArray⟩ = X := ⟨_, rfl⟩
  obtain ⟨T0, hT0⟩ : ∃ X : ByteArray, ⟨t0.toArray⟩ = X := ⟨_, rfl⟩
  obtain ⟨X0, hX0⟩ : ∃ X : ByteArray, ⟨x0.toArray⟩ = X := ⟨_, rfl⟩
  obtain ⟨X1, hX1⟩ : ∃ X : ByteArray, ⟨(x0 ++ [46]).toArray⟩ = X := ⟨_, rfl⟩
  have hPl : P.data.toList = p := by rw [← hP]
  have hPs : P.size ≤ 100 := by rw [← ba_len, hPl]; exact hpll
  have hSl : S.data.toList = s := by rw [← hS]
  have hIl : I.data.toList = im := by rw [← hI]
  have happ1 : X0 ++ ⟨#[46]⟩ = X1 := by rw [← hX0, ← hX1]; exact ba_app x0 [46]
  have happ2 : Sx.pickN d 9 < 8 → X1 ++ T0 = S := fun h => by
    rw [← hX1, ← hT0, ← hS, ba_app, htx, if_pos h]
  have hsame : ¬ Sx.pickN d 9 < 8 → S = T0 := fun h => by
    rw [← hT0, ← hS, htx, if_neg h]
  have hz0 : X0.size ≤ 7 := by rw [← hX0]; exact hnl
  have hz1 : X1.size ≤ 8 := by rw [← hX1]; show (x0 ++ [46]).length ≤ 8; rw [List.length_append]; simp; omega
  have hz2 : T0.size ≤ 100 := by rw [← hT0]; exact hhl
  rw [hL] at HLI HCO
  rw [hI] at HCO
  rw [hS, hP] at HPL
  rw [hT0] at HHO
  rw [hX0] at HNA
  have HLK : Hid (∀ (A B C : ByteArray) (st : Nat × Bool × UInt8), m.foldl (fndT p) (0, false, 45) = st → A.data.toList = Sx.tailT p (Sx.fndN st) → B.data.toList = (if Sx.fndN st < Sx.dotsN p + 1 then Sx.tailT p (Sx.fndN st + 1) else []) → C.data.toList = [st.2.2] → ∀ W, LWt W → Calls Tryz.prog 36 #[.string I, .string S, .string A, .string B, .string C] W fun e w' => e = .returned (.bool true) ∧ Below W.heap.size W w') := hide (fun A B C st hst hA hB hC W h => by
    have := klooks I S A B C W h
    rw [hIl, hSl, hA, hB, hC, hfp st hst, decide_eq_true rfl] at this
    exact this)
  obtain ⟨m9, hm9⟩ : ∃ n, Sx.pickN d 9 = n := ⟨_, rfl⟩
  rw [hm9] at HPI happ2 hsame hd9
  have HLB := hide (fun W => klabels P W (by omega))
  rw [hPl] at HLB
  have HTL : Hid (∀ (n : Nat) W, n ≤ 1000 → Calls Tryz.prog 35 #[.string P, .int .i64 n] W fun e w' => e = .returned (.string ⟨(Sx.tailT p n).toArray⟩) ∧ w' = W) := hide (fun n W hn => by
    have := ktail P n W (by omega) hn
    rw [hPl] at this
    exact this)
  clear hce him hat hs hL hI hS hP hT0 hX0 hX1 hix hi3 hhl hnl hixd hio hi4 hpl hpll hfp hp ht0 hx0 htx hm9 hd8 hSl hIl hm
  go_enter Tryz.func10, Tryz.ntmps10
  go_wp2_with fail
  refine HAW.out.mono ?_
  rintro e w1 ⟨rfl, hB⟩
  have HB1 := hide hB
  clear hB HAW
  go_wp2_with fail
  refine (HKE.out _ HB1.out).mono ?_
  rintro e w2 ⟨mv, rfl, hrd, hB⟩
  have HB2 := hide (below_to HB1.out hB)
  have HRD := hide hrd
  clear hB hrd
  go_wp2_with fail
  refine (HLI.out _ _ HRD.out).mono ?_
  rintro e w3 ⟨rfl, hB⟩
  have HB3 := hide (below_to HB2.out hB)
  have HC3 := hide hB
  clear hB
  go_wp2_with fail
  refine (HCO.out _ (HLW.out _ HB3.out)).mono ?_
  rintro e w4 ⟨rfl, hB⟩
  have HB4 := hide (below_to (HB3.out.alloc HB3.out.size _) hB)
  have HC4 := hide (below_to (HC3.out.alloc HC3.out.size _) hB)
  clear hB
  go_wp2_with fail
  refine (HHO.out _).mono ?_
  rintro e w5 ⟨rfl, hB⟩
  have HB5 := hide (below_to HB4.out hB)
  have HC5 := hide (below_to HC4.out hB)
  clear hB
  go_wp2_with fail
  refine (HPI.out _).mono ?_
  rintro e w6 ⟨rfl, rfl⟩
  by_cases h9 : m9 < 8
  all_goals first
    | (have happ2' := happ2 h9
       have h9' : ((m9 : Int) < 8) = True := by simp; omega
       clear hsame happ2
       go_wp2_with fail
       refine (HNA.out _).mono ?_
       rintro e w7 ⟨rfl, hB⟩
       have HB7 := hide (below_to HB5.out hB)
       have HC7 := hide (below_to HC5.out hB)
       clear hB)
    | (have hsame' := hsame h9
       subst hsame'
       have h9' : ((m9 : Int) < 8) = False := by simp; omega
       have HB7 := HB5
       have HC7 := HC5
       obtain ⟨w7, hw7⟩ : ∃ W, W = w6 := ⟨_, rfl⟩
       subst hw7
       clear hsame happ2)
  all_goals (
    go_wp2_with fail
    refine (HPL.out _ (HLW.out _ HB7.out)).mono ?_
    rintro e w8 ⟨hB, rfl⟩
    have HB8 := hide (below_to HB7.out hB)
    have HC8 := hide (below_to HC7.out hB)
    clear hB HKE HLI HCO HHO HPI HNA HB1 HB2 HB3 HB4 HB5 HB7 HC3 HC4 HC5 HC7 happ1 hz0 hz1 hz2
    have HR8 := hide (HRD.out.below HC8.out)
    obtain ⟨mp, mc, rfl, hmo, hmr⟩ := HR8.out
    have HMO := hide hmo
    have HMR := hide hmr
    clear hmo hmr HR8 HRD HC8
    go_wp2_with fail
    go_loopw [19, 20, 21, 22] (fun cv fv tv kv wr => ∃ (k : Nat) (st : Nat × Bool × UInt8) (T : ByteArray), cv = .int .i64 st.1 ∧ fv = .bool st.2.1 ∧ tv = .string T ∧ T.data.toList = [st.2.2] ∧ kv = .int .i64 k ∧ k ≤ m.length ∧ (m.take k).foldl (fndT p) (0, false, 45) = st ∧ FnOk st ∧ Below w8.heap.size w8 wr) (fun _ _ _ kv _ => (m.length - intOf kv).toNat)
    case atStart => exact ⟨0, (0, false, 45), _, rfl, rfl, rfl, rfl, rfl, by omega, rfl, ⟨by decide, fun h => by cases h⟩, Below.refl _ _⟩
    case round =>
      obtain ⟨k, st, T, rfl, rfl, rfl, hT, rfl, hk, hst, hok, hBr⟩ := hrel
      have HBR := hide hBr
      by_cases hlt : k < m.length
      · obtain ⟨g, go, rfl, hg, hc5⟩ := HMR.out k hlt
        have hqo := HMO.out m[k] (List.getElem_mem hlt)
        have hfs := fnd_take p m k hlt
        rw [hst] at hfs
        obtain ⟨q, hq⟩ : ∃ q, m[k] = q := ⟨_, rfl⟩
        rw [hq] at hqo hfs hc5
        clear hq
        have hok2 := fnOk_step p st q hok
        have HL1 := hide (fun W => kline q W hqo)
        have HH1 := hide (fun W => khostL q W)
        have HP1 := hide (fun W h => kplainL q W h)
        have HK1 := hide (fun W => kkindL q W)
        have HS1 := hide (fun W => ksection q W hqo)
        have hgx : (⟨(Sx.secT q ++ [10]).toArray⟩ : ByteArray).size = 5 := rfl
        have hge : ((⟨(Sx.secT q ++ [10]).toArray⟩ : ByteArray).extract 3 4).data.toList = [Sx.rawS q] := rfl
        obtain ⟨hrl1, hrl4⟩ := raw_len q
        have hdt := raw_dots q
        have hsz : (Sx.dotted (Sx.rawRl q).1).length ≤ 100 := ix_plain_len (Sx.ruleIx_ok q).1 (Sx.ruleIx_ok q).2.1
        obtain ⟨A1, hA1⟩ : ∃ X : ByteArray, ⟨(Sx.lineT q).toArray⟩ = X := ⟨_, rfl⟩
        obtain ⟨A2, hA2⟩ : ∃ X : ByteArray, ⟨(Sx.dotted ((Sx.ruleIx q).map Sx.nm)).toArray⟩ = X := ⟨_, rfl⟩
        obtain ⟨A3, hA3⟩ : ∃ X : ByteArray, ⟨(Sx.dotted (Sx.rawRl q).1).toArray⟩ = X := ⟨_, rfl⟩
        obtain ⟨G, hG⟩ : ∃ X : ByteArray, ⟨(Sx.secT q ++ [10]).toArray⟩ = X := ⟨_, rfl⟩
        have hA3l : A3.data.toList = Sx.dotted (Sx.rawRl q).1 := by rw [← hA3]
        have hA3s : A3.size ≤ 100 := by rw [← ba_len, hA3l]; exact hsz
        have HN1 := hide (fun W => klabels A3 W (by omega))
        have HF1 := hide (fun mo W => kfits P A3 mo W (by omega) (by omega))
        rw [hA3l, hdt] at HN1
        rw [hPl, hA3l] at HF1
        rw [hA1] at HL1 HH1 HK1
        rw [hA2] at HH1 HP1
        rw [hA3] at HP1
        rw [hG] at HS1 hgx hge
        obtain ⟨n, hn⟩ : ∃ n, (Sx.rawRl q).1.length = n := ⟨_, rfl⟩
        rw [hn] at HN1 hrl1 hrl4
        have HX : Hid (∀ W, Below w8.heap.size w8 W → R5 W g (go + k * 5) q) := hide (fun W h => hc5.below h hg)
        have HLX : Hid (∀ W, Below w8.heap.size w8 W → LWt W) := hide (fun W h => HLW.out _ (below_to HB8.out h))
        have HPQ : Hid (∀ (s' : Nat × Bool × UInt8), fndT p st q = s' → (m.take (k + 1)).foldl (fndT p) (0, false, 45) = s' ∧ FnOk s') := hide (fun s' h => ⟨hfs.trans h, h ▸ hok2⟩)
        obtain ⟨r1, r2, r3, r4, r5⟩ := id (⟨q.1, q.2.1, q.2.2.1, q.2.2.2.1, q.2.2.2.2⟩ : Sx.RawR)
        have hrk := (Sx.rawK_is q).1
        have HYES := hide (fun (N : Nat) hN h1 h2 => fnd_yes (p := p) (st := st) (r := q) (n := N) hN h1 h2)
        have HPASS := hide (fun (N : Nat) hN h2 => fnd_pass (p := p) (st := st) (r := q) (n := N) hN h2)
        have HNO := hide (fun h => fnd_no (p := p) (st := st) (r := q) h)
        obtain ⟨FF, hFF⟩ : ∃ F : Nat → Bool, F = fun mo => Sx.fitT p (Sx.dotted (Sx.rawRl q).1) mo := ⟨_, rfl⟩
        have hFF' : ∀ mo, Sx.fitT p (Sx.dotted (Sx.rawRl q).1) mo = FF mo := fun mo => by rw [hFF]
        clear r1 r2 r3 r4 r5 hfs hok2 hok hst hBr hA1 hA2 hA3 hA3l hG hc5 hdt hsz hFF
        simp only [hFF', hn] at HF1 HYES HPASS HNO
        obtain ⟨RK, hRK⟩ : ∃ RK, Sx.rawK q = RK := ⟨_, rfl⟩
        obtain ⟨RS, hRS⟩ : ∃ RK, Sx.rawS q = RK := ⟨_, rfl⟩
        simp only [hRK, hRS] at HK1 HYES HPASS HNO hrk hge
        obtain ⟨KN, hKN⟩ : ∃ n, RK.toNat = n := ⟨_, rfl⟩
        rw [hKN] at HK1
        obtain ⟨cn, cf, cs⟩ := st
        dsimp only at HYES HPASS HNO hT ⊢
        obtain ⟨q1, q2, q3, q4, q5⟩ := q
        have hX0 := HX.out wr HBR.out
        unfold R5 at hX0 HX
        unfold rawV at HL1 HS1
        dsimp only at hX0 HX HL1 HS1
        obtain ⟨a1, a2, a3, a4, a5⟩ := hX0
        have HRK := hide hRK
        clear hRK hRS hFF' hn hqo
        go_wp2_with fail
        refine (HL1.out _).mono ?_
        rintro e v1 ⟨rfl, hB⟩
        have HV1 := hide (below_to HBR.out hB)
        clear hB a1 a2 a3 a4 a5
        go_wp2_with fail
        refine (HH1.out _).mono ?_
        rintro e v2 ⟨rfl, rfl⟩
        go_wp2_with fail
        refine (HP1.out _ (HLX.out _ HV1.out)).mono ?_
        rintro e v3 ⟨hB, rfl⟩
        have HV3 := hide (below_to HV1.out hB)
        clear hB
        go_wp2_with fail
        refine (HN1.out _).mono ?_
        rintro e v4 ⟨rfl, rfl⟩
        go_wp2_with fail
        refine (HK1.out _).mono ?_
        rintro e v4 ⟨rfl, rfl⟩
        have HV4 := HV3
        clear HV3 HV1
        rcases hrk with hk | hk | hk
        · subst hk
          obtain rfl : 36 = KN := hKN
          simp only [show ((36 : UInt8) = 42) = False from by simp, show ((36 : UInt8) = 33) = False from by simp, if_false, Nat.add_zero] at HYES HPASS HNO
          have HF2 := hide (HF1.out 0)
          obtain ⟨FB, hFB⟩ : ∃ b, FF 0 = b := ⟨_, rfl⟩
          rw [hFB] at HF2 HYES HNO
          clear hFB HF1
          go_wp2_with fail
          refine (HF2.out _).mono ?_
          rintro e v5 ⟨rfl, rfl⟩
          go_wp2_with fail
          refine (HK1.out _).mono ?_
          rintro e v5 ⟨rfl, rfl⟩
          cases FB with
          | false =>
            go_wp2
            exact ⟨⟨k + 1, (cn, cf, cs), T, rfl, rfl, rfl, hT, by go_num, by omega, (HPQ.out _ (HNO.out (by simp))).1, (HPQ.out _ (HNO.out (by simp))).2, HV4.out⟩, by simp [intOf]; omega⟩
          | true =>
            obtain ⟨a1, a2, a3, a4, a5⟩ := HX.out _ HV4.out
            cases cf with
            | true =>
              go_wp2
              exact ⟨⟨k + 1, (cn, true, cs), T, rfl, rfl, rfl, hT, by go_num, by omega, (HPQ.out _ (HNO.out (by simp))).1, (HPQ.out _ (HNO.out (by simp))).2, HV4.out⟩, by simp [intOf]; omega⟩
            | false =>
              rcases Nat.lt_trichotomy (n) cn with h | h | h
              · have c1 : ((cn : Int) < (n : Int)) = False := by simp; omega
                have c2 : ((n : Int) == cn) = false := by simp; omega
                have c3 : ¬ (n : Int) = cn := by omega
                have c4 : ¬ n  = cn := by omega
                go_wp2
                exact ⟨⟨k + 1, (cn, false, cs), T, rfl, rfl, rfl, hT, by go_num, by omega, (HPQ.out _ (HPASS.out (n) rfl (by simp; omega))).1, (HPQ.out _ (HPASS.out (n) rfl (by simp; omega))).2, HV4.out⟩, by simp [intOf]; omega⟩
              · have c1 : ((cn : Int) < (n : Int)) = False := by simp; omega
                subst h
                go_wp2_with fail
                refine (HK1.out _).mono ?_
                rintro e v6 ⟨rfl, rfl⟩
                go_wp2_with fail
                refine (HS1.out _).mono ?_
                rintro e v6 ⟨rfl, hB⟩
                have HV6 := hide (below_to HV4.out hB)
                clear hB
                go_wp2
                exact ⟨⟨k + 1, (n, false, RS), _, by go_num, rfl, rfl, hge, by go_num, by omega, (HPQ.out _ (HYES.out (n) rfl (by simp) (by simp))).1, (HPQ.out _ (HYES.out (n) rfl (by simp) (by simp))).2, HV6.out⟩, by simp [intOf]; omega⟩
              · have c1 : ((cn : Int) < (n : Int)) = True := by simp; omega
                go_wp2_with fail
                refine (HS1.out _).mono ?_
                rintro e v6 ⟨rfl, hB⟩
                have HV6 := hide (below_to HV4.out hB)
                clear hB
                go_wp2
                exact ⟨⟨k + 1, (n, false, RS), _, by go_num, rfl, rfl, hge, by go_num, by omega, (HPQ.out _ (HYES.out (n) rfl (by simp) (by simp; omega))).1, (HPQ.out _ (HYES.out (n) rfl (by simp) (by simp; omega))).2, HV6.out⟩, by simp [intOf]; omega⟩
        · subst hk
          obtain rfl : 42 = KN := hKN
          simp only [show ((42 : UInt8) = 36) = False from by simp, show ((42 : UInt8) = 33) = False from by simp, if_true] at HYES HPASS HNO
          have HF2 := hide (HF1.out 1)
          obtain ⟨FB, hFB⟩ : ∃ b, FF 1 = b := ⟨_, rfl⟩
          rw [hFB] at HF2 HYES HNO
          clear hFB HF1
          go_wp2_with fail
          refine (HF2.out _).mono ?_
          rintro e v5 ⟨rfl, rfl⟩
          go_wp2_with fail
          refine (HK1.out _).mono ?_
          rintro e v5 ⟨rfl, rfl⟩
          cases FB with
          | false =>
            go_wp2
            exact ⟨⟨k + 1, (cn, cf, cs), T, rfl, rfl, rfl, hT, by go_num, by omega, (HPQ.out _ (HNO.out (by simp))).1, (HPQ.out _ (HNO.out (by simp))).2, HV4.out⟩, by simp [intOf]; omega⟩
          | true =>
            obtain ⟨a1, a2, a3, a4, a5⟩ := HX.out _ HV4.out
            cases cf with
            | true =>
              go_wp2
              exact ⟨⟨k + 1, (cn, true, cs), T, rfl, rfl, rfl, hT, by go_num, by omega, (HPQ.out _ (HNO.out (by simp))).1, (HPQ.out _ (HNO.out (by simp))).2, HV4.out⟩, by simp [intOf]; omega⟩
            | false =>
              rcases Nat.lt_trichotomy (n + 1) cn with h | h | h
              · have c1 : ((cn : Int) < (n : Int) + 1) = False := by simp; omega
                have c2 : ((n : Int) + 1 == cn) = false := by simp; omega
                have c3 : ¬ (n : Int) + 1 = cn := by omega
                have c4 : ¬ n + 1 = cn := by omega
                go_wp2
                exact ⟨⟨k + 1, (cn, false, cs), T, rfl, rfl, rfl, hT, by go_num, by omega, (HPQ.out _ (HPASS.out (n + 1) rfl (by simp; omega))).1, (HPQ.out _ (HPASS.out (n + 1) rfl (by simp; omega))).2, HV4.out⟩, by simp [intOf]; omega⟩
              · have c1 : ((cn : Int) < (n : Int) + 1) = False := by simp; omega
                have c2 : ((n : Int) + 1 == cn) = true := by simp; omega
                have c3 : ((n : Int) + 1 = cn) = True := by simp; omega
                go_wp2_with fail
                refine (HK1.out _).mono ?_
                rintro e v6 ⟨rfl, rfl⟩
                go_wp2
                exact ⟨⟨k + 1, (cn, false, cs), T, rfl, rfl, rfl, hT, by go_num, by omega, (HPQ.out _ (HPASS.out (n + 1) rfl (by simp; omega))).1, (HPQ.out _ (HPASS.out (n + 1) rfl (by simp; omega))).2, HV4.out⟩, by simp [intOf]; omega⟩
              · have c1 : ((cn : Int) < (n : Int) + 1) = True := by simp; omega
                go_wp2_with fail
                refine (HS1.out _).mono ?_
                rintro e v6 ⟨rfl, hB⟩
                have HV6 := hide (below_to HV4.out hB)
                clear hB
                go_wp2
                exact ⟨⟨k + 1, (n + 1, false, RS), _, by go_num, rfl, rfl, hge, by go_num, by omega, (HPQ.out _ (HYES.out (n + 1) rfl (by simp) (by simp; omega))).1, (HPQ.out _ (HYES.out (n + 1) rfl (by simp) (by simp; omega))).2, HV6.out⟩, by simp [intOf]; omega⟩
        · subst hk
          obtain rfl : 33 = KN := hKN
          simp only [show ((33 : UInt8) = 42) = False from by simp, show ((33 : UInt8) = 36) = False from by simp, if_false, Nat.add_zero] at HYES HPASS HNO
          have HF2 := hide (HF1.out 0)
          obtain ⟨FB, hFB⟩ : ∃ b, FF 0 = b := ⟨_, rfl⟩
          rw [hFB] at HF2 HYES HNO
          clear hFB HF1
          go_wp2_with fail
          refine (HF2.out _).mono ?_
          rintro e v5 ⟨rfl, rfl⟩
          go_wp2_with fail
          refine (HK1.out _).mono ?_
          rintro e v5 ⟨rfl, rfl⟩
          cases FB with
          | false =>
            go_wp2
            exact ⟨⟨k + 1, (cn, cf, cs), T, rfl, rfl, rfl, hT, by go_num, by omega, (HPQ.out _ (HNO.out (by simp))).1, (HPQ.out _ (HNO.out (by simp))).2, HV4.out⟩, by simp [intOf]; omega⟩
          | true =>
            obtain ⟨a1, a2, a3, a4, a5⟩ := HX.out _ HV4.out
            cases cf with
            | false =>
              go_wp2_with fail
              refine (HS1.out _).mono ?_
              rintro e v6 ⟨rfl, hB⟩
              have HV6 := hide (below_to HV4.out hB)
              clear hB
              go_wp2
              exact ⟨⟨k + 1, (n, true, RS), _, by go_num, rfl, rfl, hge, by go_num, by omega, (HPQ.out _ (HYES.out (n) rfl (by simp) (by simp))).1, (HPQ.out _ (HYES.out (n) rfl (by simp) (by simp))).2, HV6.out⟩, by simp [intOf]; omega⟩
            | true =>
              rcases Nat.lt_trichotomy (n) cn with h | h | h
              · have c1 : ((cn : Int) < (n : Int)) = False := by simp; omega
                have c2 : ((n : Int) == cn) = false := by simp; omega
                have c3 : ¬ (n : Int) = cn := by omega
                have c4 : ¬ n  = cn := by omega
                go_wp2
                exact ⟨⟨k + 1, (cn, true, cs), T, rfl, rfl, rfl, hT, by go_num, by omega, (HPQ.out _ (HPASS.out (n) rfl (by simp; omega))).1, (HPQ.out _ (HPASS.out (n) rfl (by simp; omega))).2, HV4.out⟩, by simp [intOf]; omega⟩
              · have c1 : ((cn : Int) < (n : Int)) = False := by simp; omega
                subst h
                go_wp2_with fail
                refine (HK1.out _).mono ?_
                rintro e v6 ⟨rfl, rfl⟩
                go_wp2
                exact ⟨⟨k + 1, (n, true, cs), T, rfl, rfl, rfl, hT, by go_num, by omega, (HPQ.out _ (HPASS.out (n) rfl (by simp))).1, (HPQ.out _ (HPASS.out (n) rfl (by simp))).2, HV4.out⟩, by simp [intOf]; omega⟩
              · have c1 : ((cn : Int) < (n : Int)) = True := by simp; omega
                go_wp2_with fail
                refine (HS1.out _).mono ?_
                rintro e v6 ⟨rfl, hB⟩
                have HV6 := hide (below_to HV4.out hB)
                clear hB
                go_wp2
                exact ⟨⟨k + 1, (n, true, RS), _, by go_num, rfl, rfl, hge, by go_num, by omega, (HPQ.out _ (HYES.out (n) rfl (by simp) (by simp; omega))).1, (HPQ.out _ (HYES.out (n) rfl (by simp) (by simp; omega))).2, HV6.out⟩, by simp [intOf]; omega⟩
      · have hke : k = m.length := by omega
        have hfin : m.foldl (fndT p) (0, false, 45) = st := by rw [← hst, List.take_of_length_le (by omega)]
        have hge : ((k : Int) < m.length) = False := by simp; omega
        have HLK2 := hide (fun A B h1 h2 => HLK.out A B T st hfin h1 h2 hT)
        obtain ⟨D, hD⟩ : ∃ D, Sx.dotsN p + 1 = D := ⟨_, rfl⟩
        rw [hD] at HLB HLK2
        have HBE := hide (below_to HB8.out hBr)
        have HWE := hide (HLW.out _ HBE.out)
        obtain ⟨cn, cf, cs⟩ := st
        obtain ⟨ho1, ho2⟩ := hok
        dsimp only at ho1 ho2 ⊢
        clear hfin hst hT hBr HLK hlt hD
        cases cf with
        | true =>
          by_cases h0 : cn - 1 = 0
          · skip
            have hpos := ho2 rfl
            have hci : (cn : Int) - 1 = ((cn - 1 : Nat) : Int) := by omega
            obtain ⟨c1, hc1⟩ : ∃ c1, cn - 1 = c1 := ⟨_, rfl⟩
            rw [hc1] at hci
            obtain rfl : c1 = 0 := by omega
            obtain rfl : cn = 1 := by omega
            have hfn : Sx.fndN (1, true, cs) = 1 := by
              rw [fndN_t]
              rfl
            have HT1 := hide (fun W => HTL.out 1 W (by omega))
            have HT2 : Hid (∀ W, Calls Tryz.prog 35 #[.string P, .int .i64 (2)] W fun e w' => e = .returned (.string ⟨(Sx.tailT p (1 + 1)).toArray⟩) ∧ w' = W) := hide (fun W => HTL.out (1 + 1) W (by omega))
            go_wp2_with fail
            refine (HLB.out _).mono ?_
            rintro e y1 ⟨rfl, rfl⟩
            by_cases hlt : 1 < D
            · have d1 : ((1 : Int) < D) = True := by simp; omega
              go_wp2_with fail
              refine (HT2.out _).mono ?_
              rintro e y2 ⟨rfl, rfl⟩
              go_wp2_with fail
              refine (HT1.out _).mono ?_
              rintro e y3 ⟨rfl, rfl⟩
              go_wp2_with fail
              refine (HLK2.out _ _ (by rw [hfn]) (by rw [hfn, if_pos (by omega)]) _ HWE.out).mono ?_
              rintro e y4 ⟨rfl, hB⟩
              have HBF := hide (below_to HBE.out hB)
              clear hB
              go_wp2
              go_ret
              exact ⟨rfl, HBF.out⟩
            · have d1 : ((1 : Int) < D) = False := by simp; omega
              go_wp2_with fail
              refine (HT1.out _).mono ?_
              rintro e y3 ⟨rfl, rfl⟩
              go_wp2_with fail
              refine (HLK2.out _ _ (by rw [hfn]) (by rw [hfn, if_neg (by omega)]) _ HWE.out).mono ?_
              rintro e y4 ⟨rfl, hB⟩
              have HBF := hide (below_to HBE.out hB)
              clear hB
              go_wp2
              go_ret
              exact ⟨rfl, HBF.out⟩
          · skip
            have hpos := ho2 rfl
            have hci : (cn : Int) - 1 = ((cn - 1 : Nat) : Int) := by omega
            obtain ⟨c1, hc1⟩ : ∃ c1, cn - 1 = c1 := ⟨_, rfl⟩
            rw [hc1] at hci
            have hcz : ((c1 : Int) == 0) = false := by simp; omega
            have hcy : ¬ (c1 : Int) = 0 := by omega
            have hfn : Sx.fndN (cn, true, cs) = c1 := by
              rw [fndN_t]
              rw [if_neg (by omega)]; exact hc1
            have HT1 := hide (fun W => HTL.out c1 W (by omega))
            have HT2 : Hid (∀ W, Calls Tryz.prog 35 #[.string P, .int .i64 ((c1 : Int) + 1)] W fun e w' => e = .returned (.string ⟨(Sx.tailT p (c1 + 1)).toArray⟩) ∧ w' = W) := hide (fun W => HTL.out (c1 + 1) W (by omega))
            go_wp2_with fail
            refine (HLB.out _).mono ?_
            rintro e y1 ⟨rfl, rfl⟩
            by_cases hlt : c1 < D
            · have d1 : ((c1 : Int) < D) = True := by simp; omega
              go_wp2_with fail
              refine (HT2.out _).mono ?_
              rintro e y2 ⟨rfl, rfl⟩
              go_wp2_with fail
              refine (HT1.out _).mono ?_
              rintro e y3 ⟨rfl, rfl⟩
              go_wp2_with fail
              refine (HLK2.out _ _ (by rw [hfn]) (by rw [hfn, if_pos (by omega)]) _ HWE.out).mono ?_
              rintro e y4 ⟨rfl, hB⟩
              have HBF := hide (below_to HBE.out hB)
              clear hB
              go_wp2
              go_ret
              exact ⟨rfl, HBF.out⟩
            · have d1 : ((c1 : Int) < D) = False := by simp; omega
              go_wp2_with fail
              refine (HT1.out _).mono ?_
              rintro e y3 ⟨rfl, rfl⟩
              go_wp2_with fail
              refine (HLK2.out _ _ (by rw [hfn]) (by rw [hfn, if_neg (by omega)]) _ HWE.out).mono ?_
              rintro e y4 ⟨rfl, hB⟩
              have HBF := hide (below_to HBE.out hB)
              clear hB
              go_wp2
              go_ret
              exact ⟨rfl, HBF.out⟩
        | false =>
          by_cases h0 : cn = 0
          · skip
            subst h0
            have hfn : Sx.fndN (0, false, cs) = 1 := by
              rw [fndN_f]
              rfl
            have HT1 := hide (fun W => HTL.out 1 W (by omega))
            have HT2 : Hid (∀ W, Calls Tryz.prog 35 #[.string P, .int .i64 (2)] W fun e w' => e = .returned (.string ⟨(Sx.tailT p (1 + 1)).toArray⟩) ∧ w' = W) := hide (fun W => HTL.out (1 + 1) W (by omega))
            go_wp2_with fail
            refine (HLB.out _).mono ?_
            rintro e y1 ⟨rfl, rfl⟩
            by_cases hlt : 1 < D
            · have d1 : ((1 : Int) < D) = True := by simp; omega
              go_wp2_with fail
              refine (HT2.out _).mono ?_
              rintro e y2 ⟨rfl, rfl⟩
              go_wp2_with fail
              refine (HT1.out _).mono ?_
              rintro e y3 ⟨rfl, rfl⟩
              go_wp2_with fail
              refine (HLK2.out _ _ (by rw [hfn]) (by rw [hfn, if_pos (by omega)]) _ HWE.out).mono ?_
              rintro e y4 ⟨rfl, hB⟩
              have HBF := hide (below_to HBE.out hB)
              clear hB
              go_wp2
              go_ret
              exact ⟨rfl, HBF.out⟩
            · have d1 : ((1 : Int) < D) = False := by simp; omega
              go_wp2_with fail
              refine (HT1.out _).mono ?_
              rintro e y3 ⟨rfl, rfl⟩
              go_wp2_with fail
              refine (HLK2.out _ _ (by rw [hfn]) (by rw [hfn, if_neg (by omega)]) _ HWE.out).mono ?_
              rintro e y4 ⟨rfl, hB⟩
              have HBF := hide (below_to HBE.out hB)
              clear hB
              go_wp2
              go_ret
              exact ⟨rfl, HBF.out⟩
          · skip
            have hcz : ((cn : Int) == 0) = false := by simp; omega
            have hcy : ¬ (cn : Int) = 0 := by omega
            have hfn : Sx.fndN (cn, false, cs) = cn := by
              rw [fndN_f]
              rw [if_neg h0]
            have HT1 := hide (fun W => HTL.out cn W (by omega))
            have HT2 : Hid (∀ W, Calls Tryz.prog 35 #[.string P, .int .i64 ((cn : Int) + 1)] W fun e w' => e = .returned (.string ⟨(Sx.tailT p (cn + 1)).toArray⟩) ∧ w' = W) := hide (fun W => HTL.out (cn + 1) W (by omega))
            go_wp2_with fail
            refine (HLB.out _).mono ?_
            rintro e y1 ⟨rfl, rfl⟩
            by_cases hlt : cn < D
            · have d1 : ((cn : Int) < D) = True := by simp; omega
              go_wp2_with fail
              refine (HT2.out _).mono ?_
              rintro e y2 ⟨rfl, rfl⟩
              go_wp2_with fail
              refine (HT1.out _).mono ?_
              rintro e y3 ⟨rfl, rfl⟩
              go_wp2_with fail
              refine (HLK2.out _ _ (by rw [hfn]) (by rw [hfn, if_pos (by omega)]) _ HWE.out).mono ?_
              rintro e y4 ⟨rfl, hB⟩
              have HBF := hide (below_to HBE.out hB)
              clear hB
              go_wp2
              go_ret
              exact ⟨rfl, HBF.out⟩
            · have d1 : ((cn : Int) < D) = False := by simp; omega
              go_wp2_with fail
              refine (HT1.out _).mono ?_
              rintro e y3 ⟨rfl, rfl⟩
              go_wp2_with fail
              refine (HLK2.out _ _ (by rw [hfn]) (by rw [hfn, if_neg (by omega)]) _ HWE.out).mono ?_
              rintro e y4 ⟨rfl, hB⟩
              have HBF := hide (below_to HBE.out hB)
              clear hB
              go_wp2
              go_ret
              exact ⟨rfl, HBF.out⟩)
end Go.Proofs.YtgohllfpceeboaaGreatDoor
