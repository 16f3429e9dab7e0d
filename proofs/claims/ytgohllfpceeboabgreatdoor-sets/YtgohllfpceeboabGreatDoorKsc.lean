import Derived.Test.YtgohllfpceeboabGreatDoorKsa
import Derived.Test.YtgohllfpceeboabGreatDoorKst
import Derived.Test.YtgohllfpceeboabGreatDoorKsw
import Derived.Test.YtgohllfpceeboabGreatDoorSbbi
import Derived.Test.YtgohllfpceeboabGreatDoorSbbg
import Derived.Test.YtgohllfpceeboabGreatDoorSbbe
import Derived.Test.YtgohllfpceeboabGreatDoorKfa
import Derived.Deep.RegionHeldLaw
import Derived.Deep.CutBlock
import Derived.Deep.DeepCutAuto
namespace Go.Proofs.YtgohllfpceeboabGreatDoor
open Go.RowKit
set_option maxRecDepth 100000 in
set_option maxHeartbeats 8000000 in
/-- suffixkeep.Sets -/
theorem ksets (l : List Sx.RawR) (v : Value) (a b c x y z p : Int) (w : World) (hw : LWt w) (hv : RdR w v l) (hl : l.length ≤ 9223372036854775807) (ha : I64 a) (hb : I64 b) (hc : I64 c) (hx : I64 x) (hy : I64 y) (hz : I64 z) (hp : I64 p) : Calls Tryz.prog 3 #[v, .int .i64 a, .int .i64 b, .int .i64 c, .int .i64 x, .int .i64 y, .int .i64 z, .int .i64 p] w fun e w' => e = .returned (.bool true) ∧ Below w.heap.size w w' := by
  obtain ⟨hix, hi3⟩ := Sx.hostIx_ok a b c
  obtain ⟨hjx, hj3⟩ := Sx.hostIx_ok x y z
  have HWD := hide (kworld l v w hw hv hl)
  have HLW : Hid (∀ W, Below w.heap.size w W → LWt W) := hide (fun W h => lwt_stays _ _ hw h)
  have HKE : Hid (∀ W, Below w.heap.size w W → Calls Tryz.prog 8 #[v] W fun e w' => ∃ mv, e = .returned mv ∧ RdR w' mv (Sx.kepF l) ∧ Below W.heap.size W w') := hide (fun W h => by
    have hv' := hv.below h
    refine (kkept l v W (lwt_stays _ _ hw h) hv' hl).mono ?_
    rintro e w' ⟨mv, rfl, h1, h2⟩
    obtain ⟨-, -, -, ho, -⟩ := hv
    exact ⟨mv, rfl, rdR_own h1 (fun x hx => ho x (kep_of _ x hx)), h2⟩)
  have HLI : Hid (∀ mv W, RdR W mv (Sx.kepF l) → Calls Tryz.prog 7 #[mv] W fun e w' => e = .returned (.string ⟨(Sx.listT (Sx.kepF l)).toArray⟩) ∧ Below W.heap.size W w') := hide (fun mv W h => klist _ _ _ h (Sx.kepF_ok l).2)
  have HCO := hide (fun W h => pcomp1 (Sx.listT (Sx.kepF l)) W h)
  obtain ⟨j1, j2, -, -⟩ := junk_img l
  rw [j1] at HCO
  obtain ⟨im, him⟩ : ∃ im, (Sx.compR [Sx.listT (Sx.kepF l)]).1 = im := ⟨_, rfl⟩
  obtain ⟨at0, hat⟩ : ∃ im, (Sx.compR [Sx.listT (Sx.kepF l)]).2.2 = im := ⟨_, rfl⟩
  rw [him] at HCO j2 HWD
  rw [hat] at HCO
  have hrt := opn_rt im
  have HHO1 := hide (fun W => khostOf a b c W ha hb hc)
  have HHO2 := hide (fun W => khostOf x y z W hx hy hz)
  have e1 := Sx.host_ix hix
  have e2 := Sx.host_ix hjx
  have e3 := Sx.host_ixU hjx
  have e4 := host_zix hix (by omega)
  have n1 := nm_len3 hix hi3
  have n2 := nm_len3 hjx hj3
  have m1 := nmP_len3 hix hi3
  have m2 := nmP_len3 hjx hj3
  obtain ⟨s, hs⟩ : ∃ q, Sx.dotted ((Sx.hostIx a b c).map Sx.nm) = q := ⟨_, rfl⟩
  obtain ⟨t, ht⟩ : ∃ q, Sx.dotted ((Sx.hostIx x y z).map Sx.nm) = q := ⟨_, rfl⟩
  obtain ⟨H, hH⟩ : ∃ q, (Sx.hostIx a b c).map Sx.nmP = q := ⟨_, rfl⟩
  obtain ⟨V, hV⟩ : ∃ q, (Sx.hostIx x y z).map Sx.nmP = q := ⟨_, rfl⟩
  rw [hs] at HHO1 e1 e4 n1
  rw [ht] at HHO2 e2 e3 n2
  rw [hH] at e1 e4 m1
  rw [hV] at e2 e3 m2
  have oH : Sx.HostOk H := by have := Sx.host_ok s (by rw [e1]); rw [e1] at this; exact this
  have oV : Sx.HostOk V := by have := Sx.host_ok t (by rw [e2]); rw [e2] at this; exact this
  have oZ : Sx.HostOk ([122] :: H) := by have := Sx.host_ok ([122, 46] ++ s) (by rw [e4]); rw [e4] at this; exact this
  obtain ⟨rs, hrs⟩ : ∃ q, (opn im).1 = q := ⟨_, rfl⟩
  have hlk : lkR im t = lkA rs (Sx.dotted V) := by unfold lkR; rw [if_pos j2, if_pos (by rw [e2]), e2, hrs]
  rw [hrs] at hrt HWD
  unfold lkA at hlk
  have hd := may_look hrt.ok oV oH
  rw [← may_is hrt.ok oV oH] at hd
  obtain ⟨pu, hpu⟩ : ∃ q, lastP (Sx.dotted V) (pubI (prvl rs (Sx.dotted V))) = q := ⟨_, rfl⟩
  obtain ⟨x2, hx2⟩ : ∃ q, lastP (Sx.dotted V) (pubI (prvl rs (Sx.dotted V)) + 1) = q := ⟨_, rfl⟩
  obtain ⟨x3, hx3⟩ : ∃ q, [(prvl rs (Sx.dotted V)).2.2] = q := ⟨_, rfl⟩
  rw [hpu, hx2, hx3] at hlk
  rw [hpu] at hd
  have hp0 := Sx.pickN_lt p 65536 (by omega)
  have hp1 := Sx.pickN_lt (wrap64 (p + 1)) 65536 (by omega)
  have hwr : -9223372036854775808 ≤ wrap64 (p + 1) ∧ wrap64 (p + 1) ≤ 9223372036854775807 := by
    unfold wrap64; omega
  have HP0 := hide (fun W => kpick p 65536 W hp.1 hp.2 (by omega) (by omega))
  have HP1 := hide (fun W => kpick (wrap64 (p + 1)) 65536 W hwr.1 hwr.2 (by omega) (by omega))
  obtain ⟨p0, hp0e⟩ : ∃ q, Sx.pickN p 65536 = q := ⟨_, rfl⟩
  obtain ⟨p1, hp1e⟩ : ∃ q, Sx.pickN (wrap64 (p + 1)) 65536 = q := ⟨_, rfl⟩
  rw [hp0e] at HP0 hp0
  rw [hp1e] at HP1 hp1
  have hsp := sets_pure (rs := rs) (H := H) (V := V) (s0 := httpsB) (p := p0) (q := p1) oV ([122] :: H) (fun h => by have := congrArg List.length h; simp at this) (mayP rs V H) (mayP rs V ([122] :: H))
  have k0 : ∀ D, OrgOk (orgU H p0 D) := fun D => orgU_ok D oH (by omega)
  have k1 : ∀ D, OrgOk (orgU ([122] :: H) p1 D) := fun D => orgU_ok D oZ (by omega)
  have hz1 : (⟨#[122, 46]⟩ : ByteArray) ++ ⟨s.toArray⟩ = ⟨([122, 46] ++ s).toArray⟩ := ba_app [122, 46] s
  have hSs : (⟨s.toArray⟩ : ByteArray).size ≤ 1000 := by rw [← ba_len]; exact Nat.le_trans n1 (by omega)
  obtain ⟨S, hS'⟩ : ∃ X : ByteArray, ⟨s.toArray⟩ = X := ⟨_, rfl⟩
  obtain ⟨T, hT⟩ : ∃ X : ByteArray, ⟨t.toArray⟩ = X := ⟨_, rfl⟩
  obtain ⟨ZS, hZS⟩ : ∃ X : ByteArray, ⟨([122, 46] ++ s).toArray⟩ = X := ⟨_, rfl⟩
  obtain ⟨UT, hUT⟩ : ∃ X : ByteArray, ⟨(Sx.upB t).toArray⟩ = X := ⟨_, rfl⟩
  obtain ⟨I, hI⟩ : ∃ X : ByteArray, ⟨im.toArray⟩ = X := ⟨_, rfl⟩
  have lS : S.data.toList = s := by rw [← hS']
  have lT : T.data.toList = t := by rw [← hT]
  have lZ : ZS.data.toList = [122, 46] ++ s := by rw [← hZS]
  have lU : UT.data.toList = Sx.upB t := by rw [← hUT]
  have lI : I.data.toList = im := by rw [← hI]
  have e1' : Sx.host S.data.toList = (H, 0) := by rw [lS]; exact e1
  have e2' : Sx.host T.data.toList = (V, 0) := by rw [lT]; exact e2
  have e3' : Sx.host UT.data.toList = (V, 0) := by rw [lU]; exact e3
  have e4' : Sx.host ZS.data.toList = ([122] :: H, 0) := by rw [lZ]; exact e4
  rw [hS'] at HHO1 hz1 hSs
  rw [hT] at HHO2
  rw [hZS] at hz1
  rw [hI] at HCO
  obtain ⟨HS, hHS⟩ : ∃ X : ByteArray, ⟨#[104, 116, 116, 112, 115]⟩ = X := ⟨_, rfl⟩
  have hhs : HS.data.toList = httpsB := by rw [← hHS]; rfl
  have HT0 : Hid (∀ g W, w.heap.size ≤ g → Below w.heap.size w W → WlAt W g rs [] → Calls Tryz.prog 10 #[.pointer (some ⟨g, 0, none⟩), .string HS, .string S, .int .i64 p0] W fun e w' => e = .returned (.tuple #[.int .i64 0, .int .i64 0]) ∧ WlAt w' g rs [orgU H p0 []] ∧ Below w.heap.size w w') := hide (fun g W hg hB hW => by
    refine (pTupleE g HS S p0 rs [] W (HLW.out _ hB) hW (by simp) (Or.inr hhs) (by omega) (by rw [e1'])).mono ?_
    rintro e w' ⟨rfl, h1, h2, -⟩
    refine ⟨rfl, ?_, hB.trans (h2.mono hg)⟩
    rw [e1', hhs] at h1
    exact h1)
  have HT1 : Hid (∀ g W, w.heap.size ≤ g → Below w.heap.size w W → WlAt W g rs [orgU H p0 []] → Calls Tryz.prog 10 #[.pointer (some ⟨g, 0, none⟩), .string HS, .string ZS, .int .i64 p1] W fun e w' => e = .returned (.tuple #[.int .i64 1, .int .i64 0]) ∧ WlAt w' g rs [orgU H p0 [], orgU ([122] :: H) p1 []] ∧ Below w.heap.size w w') := hide (fun g W hg hB hW => by
    refine (pTupleE g HS ZS p1 rs [orgU H p0 []] W (HLW.out _ hB) hW (by simp) (Or.inr hhs) (by omega) (by rw [e4'])).mono ?_
    rintro e w' ⟨rfl, h1, h2, -⟩
    refine ⟨rfl, ?_, hB.trans (h2.mono hg)⟩
    rw [e4', hhs] at h1
    exact h1)
  have HOQ : Hid (∀ g W, w.heap.size ≤ g → Below w.heap.size w W → WlAt W g rs [orgU H p0 [], orgU ([122] :: H) p1 []] → Calls Tryz.prog 12 #[.pointer (some ⟨g, 0, none⟩)] W fun e w' => e = .returned (.tuple #[.int .i64 2, .int .i64 0]) ∧ WlAt w' g rs [orgU H p0 [], orgU ([122] :: H) p1 [], (none, [])] ∧ Below w.heap.size w w') := hide (fun g W hg hB hW => by
    refine (pOpaqueE g rs [orgU H p0 [], orgU ([122] :: H) p1 []] W hW (by simp)).mono ?_
    rintro e w' ⟨rfl, h1, h2, -⟩
    exact ⟨rfl, h1, hB.trans (h2.mono hg)⟩)
  have hdd : ∀ (o o' : Org) (m : Bool), (if m = true then o' else o) = if m then o' else o := fun _ _ _ => rfl
  obtain ⟨d, hde⟩ : ∃ q, mayP rs V H = q := ⟨_, rfl⟩
  obtain ⟨f, hfe⟩ : ∃ q, mayP rs V ([122] :: H) = q := ⟨_, rfl⟩
  rw [hde] at hd hsp
  rw [hfe] at hsp
  obtain ⟨q1, q2, q3, q4, q5, q6⟩ := hsp
  have hS : ∀ (X Y : Org) (A B C : Bool), OrgOk X → OrgOk Y → relA 0 1 X Y = A → relB 0 1 X Y = B → relC rs 0 1 X Y = C → ∀ g W, Below w.heap.size w W → WlAt W g rs [X, Y, (none, [])] → Calls Tryz.prog 13 #[.pointer (some ⟨g, 0, none⟩), .int .i64 0, .int .i64 1] W fun e w' => e = .returned (.tuple #[.bool A, .bool B, .bool C, .int .i64 0]) ∧ WlAt w' g rs [X, Y, (none, [])] ∧ Below w.heap.size w w' := fun X Y A B C hX hY h1 h2 h3 g W hB hW => by
    refine (same3 g X Y rs W hW hX hY hrt).mono ?_
    rintro e w' ⟨rfl, h4⟩
    rw [h1, h2, h3]
    exact ⟨rfl, hW.below h4, below_to hB h4⟩
  obtain ⟨R, hR⟩ : ∃ q, relC rs 0 1 (orgU H p0 []) (orgU ([122] :: H) p1 []) = q := ⟨_, rfl⟩
  obtain ⟨X, hX⟩ : ∃ o : Org, (if d = true then orgU H p0 (Sx.dotted V) else orgU H p0 []) = o := ⟨_, rfl⟩
  obtain ⟨Y, hY⟩ : ∃ o : Org, (if f = true then orgU ([122] :: H) p1 (Sx.dotted V) else orgU ([122] :: H) p1 []) = o := ⟨_, rfl⟩
  have oX : OrgOk X := by rw [← hX]; split <;> exact k0 _
  have oY : OrgOk Y := by rw [← hY]; split <;> exact k1 _
  have HS1 := hide (hS _ _ _ _ _ (k0 []) (k1 []) q1 q2 hR)
  have HS2 := hide (hS X _ false false R oX (k1 []) (by rw [← hX]; exact q3) (by rw [← hX]; exact q4) (by rw [← hX]; exact q5.trans hR))
  obtain ⟨A3, hA3⟩ : ∃ q, relA 0 1 X Y = q := ⟨_, rfl⟩
  obtain ⟨C3, hC3⟩ : ∃ q, relC rs 0 1 X Y = q := ⟨_, rfl⟩
  have HS3 := hide (hS X Y A3 (d && f) C3 oX oY hA3 (by rw [← hX, ← hY]; exact q6) hC3)
  have HD0 : Hid (∀ g W, w.heap.size ≤ g → Below w.heap.size w W → WlAt W g rs [orgU H p0 [], orgU ([122] :: H) p1 [], (none, [])] → Calls Tryz.prog 17 #[.pointer (some ⟨g, 0, none⟩), .int .i64 0, .string UT] W fun e w' => e = .returned (.int .i64 (if d = true then 0 else 9)) ∧ WlAt w' g rs [X, orgU ([122] :: H) p1 [], (none, [])] ∧ Below w.heap.size w w') := hide (fun g W hg hB hW => by
    have h0 := dom3a g _ _ V H p0 [] UT rs W (HLW.out _ hB) hW (k0 []) (k1 []) hrt e3' rfl
    rw [hde, hX] at h0
    refine h0.mono ?_
    rintro e w' ⟨rfl, h1, h2⟩
    exact ⟨rfl, h1, hB.trans (h2.mono hg)⟩)
  have HD1 : Hid (∀ g W, w.heap.size ≤ g → Below w.heap.size w W → WlAt W g rs [X, orgU ([122] :: H) p1 [], (none, [])] → Calls Tryz.prog 17 #[.pointer (some ⟨g, 0, none⟩), .int .i64 1, .string T] W fun e w' => e = .returned (.int .i64 (if f = true then 0 else 9)) ∧ WlAt w' g rs [X, Y, (none, [])] ∧ Below w.heap.size w w') := hide (fun g W hg hB hW => by
    have h0 := dom3b g _ _ V ([122] :: H) p1 [] T rs W (HLW.out _ hB) hW oX (k1 []) hrt e2' rfl
    rw [hfe, hY] at h0
    refine h0.mono ?_
    rintro e w' ⟨rfl, h1, h2⟩
    exact ⟨rfl, h1, hB.trans (h2.mono hg)⟩)
  have HD2 : Hid (∀ g W, w.heap.size ≤ g → Below w.heap.size w W → WlAt W g rs [X, Y, (none, [])] → Calls Tryz.prog 17 #[.pointer (some ⟨g, 0, none⟩), .int .i64 2, .string T] W fun e w' => e = .returned (.int .i64 8) ∧ WlAt w' g rs [X, Y, (none, [])] ∧ Below w.heap.size w w') := hide (fun g W hg hB hW => by
    refine (dom3c g _ _ T rs W (HLW.out _ hB) hW oX oY hrt (by rw [e2'])).mono ?_
    rintro e w' ⟨rfl, h1, h2⟩
    exact ⟨rfl, h1, hB.trans (h2.mono hg)⟩)
  have HD3 : Hid (∀ g W, w.heap.size ≤ g → Below w.heap.size w W → WlAt W g rs [X, Y, (none, [])] → Calls Tryz.prog 17 #[.pointer (some ⟨g, 0, none⟩), .int .i64 3, .string T] W fun e w' => e = .returned (.int .i64 7) ∧ Below w.heap.size w w') := hide (fun g W hg hB hW => by
    refine (dom3d g _ _ T rs W (HLW.out _ hB) hW oX oY hrt (by rw [e2'])).mono ?_
    rintro e w' ⟨rfl, h2⟩
    exact ⟨rfl, hB.trans (h2.mono hg)⟩)
  have HL1 : Hid (∀ W, Below w.heap.size w W → Calls Tryz.prog 14 #[.string S] W fun e w' => e = .returned (.tuple #[.string ⟨(Sx.dotted H).toArray⟩, .int .i64 0]) ∧ Below W.heap.size W w') := hide (fun W h => by
    have := plainsaid_any S W (HLW.out _ h)
    rw [show Sx.plainR S.data.toList = (Sx.dotted H, 0) by unfold Sx.plainR; rw [e1']] at this
    exact this.mono fun e w' ⟨h1, h2⟩ => ⟨h2, h1⟩)
  have HL2 : Hid (∀ W, Below w.heap.size w W → Calls Tryz.prog 14 #[.string T] W fun e w' => e = .returned (.tuple #[.string ⟨(Sx.dotted V).toArray⟩, .int .i64 0]) ∧ Below W.heap.size W w') := hide (fun W h => by
    have := plainsaid_any T W (HLW.out _ h)
    rw [show Sx.plainR T.data.toList = (Sx.dotted V, 0) by unfold Sx.plainR; rw [e2']] at this
    exact this.mono fun e w' ⟨h1, h2⟩ => ⟨h2, h1⟩)
  have HLK : Hid (∀ W, Below w.heap.size w W → Calls Tryz.prog 15 #[.string I, .string T] W fun e w' => e = .returned (.tuple #[.string ⟨pu.toArray⟩, .string ⟨x2.toArray⟩, .string ⟨x3.toArray⟩, .int .i64 0]) ∧ Below W.heap.size W w') := hide (fun W h => by
    have := plook I T W (HLW.out _ h)
    rw [show lkR I.data.toList T.data.toList = (pu, x2, x3, 0) by rw [lI, lT]; exact hlk] at this
    exact this)
  obtain ⟨F, hF⟩ : ∃ q, Sx.fitT (Sx.dotted H) (Sx.dotted V) 1 = q := ⟨_, rfl⟩
  rw [hF] at hd
  have HFI : Hid (∀ W, Calls Tryz.prog 16 #[.string ⟨(Sx.dotted H).toArray⟩, .string ⟨(Sx.dotted V).toArray⟩, .int .i64 1] W fun e w' => e = .returned (.bool F) ∧ w' = W) := hide (fun W => by
    have := kfits ⟨(Sx.dotted H).toArray⟩ ⟨(Sx.dotted V).toArray⟩ 1 W (by rw [← ba_len]; exact Nat.le_trans m1 (by omega)) (by rw [← ba_len]; exact Nat.le_trans m2 (by omega))
    rw [show Sx.fitT (⟨(Sx.dotted H).toArray⟩ : ByteArray).data.toList (⟨(Sx.dotted V).toArray⟩ : ByteArray).data.toList 1 = F from hF] at this
    exact this)
  have HUP : Hid (∀ W, Calls Tryz.prog 18 #[.string T] W fun e w' => e = .returned (.string UT) ∧ Below W.heap.size W w') := hide (fun W => by
    have := kupper T W (by rw [← ba_len, lT]; exact Nat.le_trans n2 (by omega))
    rw [lT, hUT] at this
    exact this)
  obtain ⟨B1, hB1⟩ : ∃ q, decide (Sx.dotted V = Sx.dotted H) = q := ⟨_, rfl⟩
  obtain ⟨B2, hB2⟩ : ∃ q, decide (pu = Sx.dotted V) = q := ⟨_, rfl⟩
  rw [hB1, hB2] at hd
  have hb1 : ((⟨(Sx.dotted V).toArray⟩ : ByteArray).toList == (⟨(Sx.dotted H).toArray⟩ : ByteArray).toList) = B1 := (ba_eq _ _).trans hB1
  have hb2 : ((⟨pu.toArray⟩ : ByteArray).toList == (⟨(Sx.dotted V).toArray⟩ : ByteArray).toList) = B2 := (ba_eq _ _).trans hB2
  obtain ⟨L, hL⟩ : ∃ X : ByteArray, ⟨(Sx.listT (Sx.kepF l)).toArray⟩ = X := ⟨_, rfl⟩
  obtain ⟨DH, hDH⟩ : ∃ X : ByteArray, ⟨(Sx.dotted H).toArray⟩ = X := ⟨_, rfl⟩
  obtain ⟨DV, hDV⟩ : ∃ X : ByteArray, ⟨(Sx.dotted V).toArray⟩ = X := ⟨_, rfl⟩
  obtain ⟨PU, hPU⟩ : ∃ X : ByteArray, ⟨pu.toArray⟩ = X := ⟨_, rfl⟩
  obtain ⟨X2, hX2⟩ : ∃ X : ByteArray, ⟨x2.toArray⟩ = X := ⟨_, rfl⟩
  obtain ⟨X3, hX3⟩ : ∃ X : ByteArray, ⟨x3.toArray⟩ = X := ⟨_, rfl⟩
  rw [hL] at HLI HCO
  subst hHS
  rw [hDH] at HL1 HFI hb1
  rw [hDV] at HL2 HFI hb1 hb2
  rw [hPU, hX2, hX3] at HLK
  rw [hPU] at hb2
  have HD := hide hd
  have HB1e := hide hb1
  have HB2e := hide hb2
  clear hd hb1 hb2 hB1 hB2 hL hI hS' hT hZS hUT hDH hDV hPU hX2 hX3 hF hlk hpu hx2 hx3 hS q1 q2 q3 q4 q5 q6 hR hA3 hC3 hX hY oX oY k0 k1 hde hfe hdd hp0e hp1e hp0 hp1 hwr oH oV oZ hrs hrt e1 e2 e3 e4 e1' e2' e3' e4' hhs lS lT lZ lU lI n1 n2 m1 m2 hs ht hH hV him hat j1 j2 hix hi3 hjx hj3 ha hb hc hx hy hz hp hv hw
  go_enter Tryz.func3, Tryz.ntmps3
  go_wp2_with fail
  refine HWD.out.mono ?_
  rintro e w1 ⟨g, rfl, hg, hW, hB⟩
  have HG := hide hg
  have HB0 := hide hB
  have HW0 := hide hW
  clear hB hg hW
  go_wp2_with fail
  refine (HKE.out _ HB0.out).mono ?_
  rintro e w2 ⟨mv, rfl, hrd, hB⟩
  have HB2 := hide (below_to HB0.out hB)
  have HW2 := hide (HW0.out.below hB)
  have HRD := hide hrd
  clear hB hrd
  go_wp2_with fail
  refine (HLI.out _ _ HRD.out).mono ?_
  rintro e w3 ⟨rfl, hB⟩
  have HB3 := hide (below_to HB2.out hB)
  have HW3 := hide (HW2.out.below hB)
  clear hB
  go_wp2_with fail
  refine (HCO.out _ (HLW.out _ HB3.out)).mono ?_
  rintro e w4 ⟨rfl, hB⟩
  have HB4 := hide (below_to (HB3.out.alloc HB3.out.size _) hB)
  have HW4 := hide ((HW3.out.below ((Below.refl _ w3).alloc (Nat.le_refl _) _)).below hB)
  clear hB
  go_wp2_with fail
  refine (HHO1.out _).mono ?_
  rintro e w5 ⟨rfl, hB⟩
  have HB5 := hide (below_to HB4.out hB)
  have HW5 := hide (HW4.out.below hB)
  clear hB
  go_wp2_with fail
  refine (HHO2.out _).mono ?_
  rintro e w6 ⟨rfl, hB⟩
  have HB6 := hide (below_to HB5.out hB)
  have HW6 := hide (HW5.out.below hB)
  clear hB
  go_wp2_with fail
  refine (HP0.out _).mono ?_
  rintro e w7 ⟨rfl, rfl⟩
  go_wp2_with fail
  refine (HT0.out _ _ HG.out HB6.out HW6.out).mono ?_
  rintro e w8 ⟨rfl, hW, hB⟩
  have HB8 := hide hB
  have HW8 := hide hW
  clear hB hW
  go_wp2_with fail
  refine (HP1.out _).mono ?_
  rintro e w9 ⟨rfl, rfl⟩
  go_wp2_with fail
  refine (HT1.out _ _ HG.out HB8.out HW8.out).mono ?_
  rintro e w10 ⟨rfl, hW, hB⟩
  have HB10 := hide hB
  have HW10 := hide hW
  clear hB hW
  go_wp2_with fail
  refine (HOQ.out _ _ HG.out HB10.out HW10.out).mono ?_
  rintro e w11 ⟨rfl, hW, hB⟩
  have HB11 := hide hB
  have HW11 := hide hW
  clear hB hW
  go_wp2_with fail
  refine (HS1.out _ _ HB11.out HW11.out).mono ?_
  rintro e w12 ⟨rfl, hW, hB⟩
  have HB12 := hide hB
  have HW12 := hide hW
  clear hB hW
  go_wp2_with fail
  refine (HL1.out _ HB12.out).mono ?_
  rintro e w13 ⟨rfl, hB⟩
  have HB13 := hide (below_to HB12.out hB)
  have HW13 := hide (HW12.out.below hB)
  clear hB
  go_wp2_with fail
  refine (HL2.out _ HB13.out).mono ?_
  rintro e w14 ⟨rfl, hB⟩
  have HB14 := hide (below_to HB13.out hB)
  have HW14 := hide (HW13.out.below hB)
  clear hB
  go_wp2_with fail
  refine (HLK.out _ HB14.out).mono ?_
  rintro e w15 ⟨rfl, hB⟩
  have HB15 := hide (below_to HB14.out hB)
  have HW15 := hide (HW14.out.below hB)
  clear hB
  have hb1 := HB1e.out
  go_wp2_with fail
  refine (HFI.out _).mono ?_
  rintro e w16 ⟨rfl, rfl⟩
  clear hb1
  go_upto_if 150 with fail
  go_cut [41] from 145 to 153 (fun m wc => m = .bool d ∧ w16 = wc)
  case first =>
    have hd := HD.out
    have hb2 := HB2e.out
    cases F with
    | true =>
      rw [if_pos rfl] at hd
      subst hd
      go_wp2_with fail
      go_meet
      exact ⟨rfl, rfl⟩
    | false =>
      rw [if_neg (by decide)] at hd
      subst hd
      go_wp2_with fail
      go_meet
      exact ⟨rfl, rfl⟩
  case rest =>
    obtain ⟨rfl, rfl⟩ := hcut
    clear HD HB1e HB2e HFI HLK HL1 HL2 HOQ HT0 HT1 HP0 HP1 HHO1 HHO2 HCO HLI HKE HWD HS1
    go_wp2_with fail
    refine (HUP.out _).mono ?_
    rintro e w17 ⟨rfl, hB⟩
    have HB17 := hide (below_to HB15.out hB)
    have HW17 := hide (HW15.out.below hB)
    clear hB
    go_wp2_with fail
    refine (HD0.out _ _ HG.out HB17.out HW17.out).mono ?_
    rintro e w18 ⟨rfl, hW, hB⟩
    have HB18 := hide hB
    have HW18 := hide hW
    clear hB hW HD0 HUP
    cases R <;> cases d
    all_goals (as_aux_lemma =>
      go_wp2_with fail
      refine (HS2.out _ _ HB18.out HW18.out).mono ?_
      rintro e w19 ⟨rfl, hW, hB⟩
      have HB19 := hide hB
      have HW19 := hide hW
      clear hB hW
      go_wp2_with fail
      refine (HD1.out _ _ HG.out HB19.out HW19.out).mono ?_
      rintro e w20 ⟨rfl, hW, hB⟩
      have HB20 := hide hB
      have HW20 := hide hW
      clear hB hW
      cases f
      all_goals (
        go_wp2_with fail
        refine (HS3.out _ _ HB20.out HW20.out).mono ?_
        rintro e w21 ⟨rfl, hW, hB⟩
        have HB21 := hide hB
        have HW21 := hide hW
        clear hB hW
        go_wp2_with fail
        refine (HD2.out _ _ HG.out HB21.out HW21.out).mono ?_
        rintro e w22 ⟨rfl, hW, hB⟩
        have HB22 := hide hB
        have HW22 := hide hW
        clear hB hW
        go_wp2_with fail
        refine (HD3.out _ _ HG.out HB22.out HW22.out).mono ?_
        rintro e w23 ⟨rfl, hB⟩
        have HB23 := hide hB
        clear hB
        go_wp2
        go_ret
        exact ⟨rfl, HB23.out⟩))
end Go.Proofs.YtgohllfpceeboabGreatDoor
