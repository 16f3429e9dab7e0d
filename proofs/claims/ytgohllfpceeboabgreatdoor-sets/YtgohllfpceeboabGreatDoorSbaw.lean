import Derived.Test.YtgohllfpceeboabGreatDoorSbaa
import Derived.Test.YtgohllfpceeboabGreatDoorSbac
import Derived.Test.YtgohllfpceeboabGreatDoorSbal
import Derived.Test.YtgohllfpceeboabGreatDoorSbaq
import Derived.Test.YtgohllfpceeboabGreatDoorSbar
import Derived.Test.YtgohllfpceeboabGreatDoorSbas
import Derived.Test.YtgohllfpceeboabGreatDoorSbat
import Derived.Test.YtgohllfpceeboabGreatDoorProg
import Derived.Test.YtgohllfpceeboabGreatDoorSbah
import Derived.Test.YtgohllfpceeboabGreatDoorSbab
import Derived.Test.YtgohllfpceeboabGreatDoorSbav
import Derived.Maps.OwnSet
import Derived.Lib.AppendStr
import Derived.Deep.RegionHeldLaw
import Derived.Sort.OwnSorted
namespace Go.Proofs.YtgohllfpceeboabGreatDoor
open Go.RowKit
/-- suffix.areLong -/
theorem plong (L : List (List UInt8)) (v : Value) (w : World) (hrd : RdS w v L) (hL : L.length ≤ 1000000000000) : Calls Tryz.prog 22 #[v] w fun e w' => e = .returned (.bool (decide (2000 < Sx.sl L))) ∧ w' = w := by
  obtain ⟨p, cap, rfl, hrd⟩ := hrd
  have HRD := hide hrd
  clear hrd
  go_enter Tryz.func22, Tryz.ntmps22
  go_wp2
  go_loop [3, 8] (fun a i => ∃ (k m : Nat), a = .int .i64 m ∧ i = .int .i64 k ∧ k ≤ L.length ∧ Sx.sl (L.take k) + m = 2000) (fun _ i => (L.length - intOf i).toNat)
  case atStart => exact ⟨0, 2000, rfl, rfl, by omega, rfl⟩
  case round =>
    obtain ⟨k, m, rfl, rfl, hk, hm⟩ := hrel
    by_cases hlt : k < L.length
    · obtain ⟨b, off, rfl, hb, hc⟩ := HRD.out k hlt
      have ht := sl_take L k hlt
      have hsp := sl_split L (k + 1)
      obtain ⟨x, hx⟩ : ∃ x, L[k] = x := ⟨_, rfl⟩
      rw [hx] at hc ht
      by_cases hbig : m < x.length
      · have hlong : 2000 < Sx.sl L := by omega
        have HL := hide hlong
        clear ht hsp hm hx hlong
        have hbi : (m : Int) < (x.length : Int) := by omega
        go_wp2
        go_ret
        exact ⟨ret_bool (by rw [decide_eq_true HL.out]), rfl⟩
      · have hm2 : Sx.sl (L.take (k + 1)) + (m - x.length) = 2000 := by omega
        have hbi : ¬ (m : Int) < (x.length : Int) := by omega
        have hml : m ≤ 2000 := by omega
        have HM := hide hm2
        clear ht hsp hm hx hm2
        go_wp2
        exact ⟨⟨k + 1, m - x.length, by go_num, by go_num, by omega, HM.out⟩, by simp [intOf]; omega⟩
    · have hkl : k = L.length := by omega
      subst hkl
      rw [List.take_length] at hm
      have hsh : ¬ 2000 < Sx.sl L := by omega
      have HL := hide hsh
      clear hlt hk hm hsh
      go_wp2
      go_ret
      exact ⟨ret_bool (by rw [decide_eq_false HL.out]), rfl⟩
end Go.Proofs.YtgohllfpceeboabGreatDoor
namespace Go.Proofs.YtgohllfpceeboabGreatDoor
open Go.RowKit
theorem idx_nl (X : List UInt8) : Lib.indexByte X 10 = if Sx.lineLen X < X.length then (Sx.lineLen X : Int) else -1 := by
  induction X with
  | nil => rfl
  | cons x r ih =>
    unfold Lib.indexByte
    by_cases hx : x = 10
    · subst hx
      have e : Sx.lineLen (10 :: r) = 0 := by simp [Sx.lineLen]
      rw [e]
      simp
    · have e : Sx.lineLen (x :: r) = Sx.lineLen r + 1 := by simp [Sx.lineLen, hx]
      rw [if_neg (by simpa using hx), ih, e, List.length_cons]
      by_cases h : Sx.lineLen r < r.length
      · have hne : ((Sx.lineLen r : Int) == -1) = false := by rw [beq_eq_false_iff_ne]; omega
        rw [if_pos h, hne, if_pos (show Sx.lineLen r + 1 < r.length + 1 by omega)]
        simp
      · rw [if_neg h, if_neg (show ¬ Sx.lineLen r + 1 < r.length + 1 by omega)]
        simp
set_option maxRecDepth 100000 in
/-- stringslite.Cut at a newline -/
theorem pcutnl0 (s : ByteArray) (w : World) (hs : s.size ≤ 1000000) : Calls Tryz.prog 118 #[.string s, .string ⟨#[10]⟩] w fun e w' => (∃ f, e = .returned (.tuple #[.string ⟨(s.data.toList.take (Sx.lineLen s.data.toList)).toArray⟩, .string ⟨(s.data.toList.drop (Sx.lineLen s.data.toList + 1)).toArray⟩, .bool f])) ∧ Below w.heap.size w w' := by
  have hi := Tryz.stringslite_Index_one s 10 w
  rw [idx_nl, ba_len] at hi
  have hle := Sx.lineLen_le s.data.toList
  rw [ba_len] at hle
  have hall : Sx.lineLen s.data.toList = s.size → s.data.toList.take (Sx.lineLen s.data.toList) = s.data.toList ∧ s.data.toList.drop (Sx.lineLen s.data.toList + 1) = [] := fun h => by
    rw [h]
    exact ⟨by rw [← ba_len, List.take_length], by rw [List.drop_eq_nil_iff, ba_len]; omega⟩
  obtain ⟨L, hL⟩ : ∃ L, Sx.lineLen s.data.toList = L := ⟨_, rfl⟩
  rw [hL] at hi hle hall ⊢
  have htk : (⟨(s.data.toList.take L).toArray⟩ : ByteArray) = s.extract 0 L := by
    apply ByteArray.ext
    apply Array.toList_inj.1
    rw [ba_ext, List.drop_zero]
  have hdr := drop_ext s (L + 1)
  by_cases hlt : L < s.size
  · rw [if_pos hlt] at hi
    have HI := hide hi
    have HTK := hide htk
    have HDR := hide hdr
    clear hi hall htk hdr hL
    go_enter Tryz.func118, Tryz.ntmps118
    go_wp2_with fail
    refine HI.out.mono ?_
    rintro e w1 ⟨rfl, rfl⟩
    go_wp2
    go_quiet ((fail))
    go_wp2
    go_ret3
    exact ⟨⟨true, by rw [HTK.out, ← HDR.out]; rfl⟩, below_drewN (Below.refl _ _) _⟩
  · rw [if_neg hlt] at hi
    have HI := hide hi
    obtain ⟨h1, h2⟩ := hall (by omega)
    rw [h1, h2]
    clear hi hall htk hdr hL h1 h2
    go_enter Tryz.func118, Tryz.ntmps118
    go_wp2_with fail
    refine HI.out.mono ?_
    rintro e w1 ⟨rfl, rfl⟩
    go_wp2
    go_ret3
    exact ⟨⟨_, rfl⟩, Below.refl _ _⟩
/-- strings.Cut at a newline -/
theorem pcutnl (s : ByteArray) (w : World) (hs : s.size ≤ 1000000) : Calls Tryz.prog 75 #[.string s, .string ⟨#[10]⟩] w fun e w' => (∃ f, e = .returned (.tuple #[.string ⟨(s.data.toList.take (Sx.lineLen s.data.toList)).toArray⟩, .string ⟨(s.data.toList.drop (Sx.lineLen s.data.toList + 1)).toArray⟩, .bool f])) ∧ Below w.heap.size w w' := by
  have HC := hide (pcutnl0 s w hs)
  obtain ⟨A, hA⟩ : ∃ A : ByteArray, ⟨(s.data.toList.take (Sx.lineLen s.data.toList)).toArray⟩ = A := ⟨_, rfl⟩
  obtain ⟨Z, hZ⟩ : ∃ Z : ByteArray, ⟨(s.data.toList.drop (Sx.lineLen s.data.toList + 1)).toArray⟩ = Z := ⟨_, rfl⟩
  rw [hA, hZ] at HC ⊢
  clear hA hZ
  go_enter Tryz.func75, Tryz.ntmps75
  go_wp2_with fail
  refine HC.out.mono ?_
  rintro e w1 ⟨⟨f, rfl⟩, hB⟩
  go_wp2
  go_ret3
  exact ⟨⟨f, rfl⟩, hB⟩
/-- Where a reader stands behind lists, or what it was refused for. -/
def RdEnd (W : World) (b : Nat) (R : List Sx.Rl × Int × Int) : Prop := ∃ sec, RdrAt W b R.1 sec R.2.2 R.2.1
theorem addLn_no (rs : List Sx.Rl) (sec : UInt8) (x : List UInt8) (h : (Sx.addLn rs sec x).2 ≠ 0) : (Sx.addLn rs sec x).1.1 = rs := by
  unfold Sx.addLn at h ⊢
  split
  · rfl
  · split
    · rfl
    · split
      · rfl
      · cases hr : Sx.readRl x sec with
        | none => rfl
        | some r =>
          simp only
          split
          · rfl
          · split
            · rfl
            · rename_i h1 h2 h3 h4 h5
              rw [if_neg h1, if_neg h2, if_neg h3, hr] at h
              simp only [h5, if_false, h4] at h
              exact absurd rfl h
set_option maxRecDepth 100000 in
set_option maxHeartbeats 1000000 in
/-- (suffix.list).lines, taken by a reader -/
theorem plines (w0 : World) (hw : LWt w0) (b : Nat) (hb0 : w0.heap.size ≤ b) (s : ByteArray) (rs : List Sx.Rl) (sec : UInt8) (n : Int) (w : World) (hB0 : Below w0.heap.size w0 w) (hr : RdrAt w b rs sec n 0) (hok : Sx.RlsOk rs) (hs : s.size ≤ 1000000) (hn0 : 0 ≤ n) (hn1 : n + s.size ≤ 100000000) :
    Calls Tryz.prog 48 #[.string s, .func (.func 49) #[.pointer (some ⟨b, 0, none⟩)] #[]] w fun e w' => (∃ v, e = .returned v) ∧ Below w0.heap.size w0 w' ∧ RdEnd w' b (Sx.addLns (Sx.linesOf s.data.toList) rs sec n) := by
  obtain ⟨R, hR⟩ : ∃ R, Sx.addLns (Sx.linesOf s.data.toList) rs sec n = R := ⟨_, rfl⟩
  rw [hR]
  have HR := hide hR
  have HRD := hide hr
  have HOK := hide hok
  have HW := hide hw
  have HB0 := hide hB0
  clear hR hr hok hw hB0
  go_enter Tryz.func48, Tryz.ntmps48
  go_wp2
  go_loopw [4] (fun v wr => ∃ (Q : ByteArray) (rs' : List Sx.Rl) (sec' : UInt8) (n' : Int), v = .string Q ∧ RdrAt wr b rs' sec' n' 0 ∧ Sx.RlsOk rs' ∧ Sx.addLns (Sx.linesOf Q.data.toList) rs' sec' n' = R ∧ Q.size ≤ 1000000 ∧ 0 ≤ n' ∧ n' + Q.size ≤ 100000000 ∧ Below w0.heap.size w0 wr) (fun v _ => strLn v)
  case atStart => exact ⟨s, rs, sec, n, rfl, HRD.out, HOK.out, HR.out, hs, hn0, hn1, HB0.out⟩
  case round =>
    clear HRD HOK HR HB0 hn0 hn1
    obtain ⟨Q, rs', sec', n', rfl, hrd, hok, hadd, hQ, hn0, hn1, hB⟩ := hrel
    by_cases hne : Q.data.toList = []
    · have he : (Q.toList == []) = true := by rw [ByteArray.toList_eq, hne]; rfl
      have he2 : Q.toList.isEmpty = true := by rw [ByteArray.toList_eq, hne]; rfl
      rw [hne] at hadd
      have HA := hide hadd
      clear hne hadd
      go_wp2
      go_end0
      exact ⟨⟨_, rfl⟩, hB, sec', by rw [← HA.out]; exact hrd⟩
    · have he2 : Q.toList.isEmpty = false := by
        rw [ByteArray.toList_eq]
        cases h : Q.data.toList with
        | nil => exact absurd h hne
        | cons _ _ => rfl
      have hlm := Sx.linesOf_more hne
      have hll := Sx.lineLen_le Q.data.toList
      have HCUT := hide (pcutnl Q wr hQ)
      have hzl : (Q.data.toList.drop (Sx.lineLen Q.data.toList + 1)).length + 1 ≤ Q.size := by
        have h1 := List.length_pos_iff.2 hne
        rw [List.length_drop, ba_len] at *
        omega
      obtain ⟨A, hA⟩ : ∃ A : ByteArray, ⟨(Q.data.toList.take (Sx.lineLen Q.data.toList)).toArray⟩ = A := ⟨_, rfl⟩
      obtain ⟨Z, hZ⟩ : ∃ Z : ByteArray, ⟨(Q.data.toList.drop (Sx.lineLen Q.data.toList + 1)).toArray⟩ = Z := ⟨_, rfl⟩
      have hAl : Q.data.toList.take (Sx.lineLen Q.data.toList) = A.data.toList := by rw [← hA]
      have hZl : Q.data.toList.drop (Sx.lineLen Q.data.toList + 1) = Z.data.toList := by rw [← hZ]
      rw [hA, hZ] at HCUT
      rw [hAl, hZl] at hlm
      rw [hZl, ba_len] at hzl
      rw [hlm] at hadd
      have HADD := hide hadd
      have HRD := hide hrd
      have HOK := hide hok
      have hsz := hB.size
      have hbl := hrd.lt
      have HB := hide hB
      clear hlm hadd hA hZ hAl hZl hll hne hrd hok hB
      go_wp2_with fail
      refine HCUT.out.mono ?_
      rintro e w1 ⟨⟨f, rfl⟩, hB1⟩
      have hBa := HB.out.trans (hB1.mono hsz)
      have HT := hide (ptake b rs' sec' n' 0 A w1 (lwt_stays _ _ HW.out hBa) (HRD.out.below hB1) HOK.out.many hn0 (by omega))
      have HBA := hide hBa
      have hsa := hBa.size
      clear hB1 hBa HCUT HB
      by_cases h0 : (Sx.addLn rs' sec' A.data.toList).2 = 0
      · have ht := HT.out
        rw [decide_eq_true h0] at ht
        have HT2 := hide ht
        clear ht HT
        go_wp2_with fail
        refine HT2.out.mono ?_
        rintro e w2 ⟨rfl, hB2, ht2⟩
        unfold takeR at ht2
        rw [if_pos h0] at ht2
        have hok2 : Sx.RlsOk (Sx.addLn rs' sec' A.data.toList).1.1 := Sx.addLn_ok HOK.out
        have hadd2 : Sx.addLns (Sx.linesOf Z.data.toList) (Sx.addLn rs' sec' A.data.toList).1.1 (Sx.addLn rs' sec' A.data.toList).1.2 (n' + 1) = R := by
          rw [← HADD.out, Sx.addLns, if_pos h0]
        have HT3 := hide ht2
        have HOK2 := hide hok2
        have HADD2 := hide hadd2
        have HB2 : Hid (Below w0.heap.size w0 w2) := hide (HBA.out.trans (hB2.mono hb0))
        clear ht2 hok2 hadd2 hB2 h0 HADD
        go_wp2
        exact ⟨⟨Z, _, _, n' + 1, rfl, HT3.out, HOK2.out, HADD2.out, by omega, by omega, by omega, HB2.out⟩, by show Z.size < Q.size; omega⟩
      · have ht := HT.out
        rw [decide_eq_false h0] at ht
        have HT2 := hide ht
        clear ht HT
        go_wp2_with fail
        refine HT2.out.mono ?_
        rintro e w2 ⟨rfl, hB2, ht2⟩
        unfold takeR at ht2
        rw [if_neg h0, addLn_no _ _ _ h0] at ht2
        have hadd2 : R = (rs', (Sx.addLn rs' sec' A.data.toList).2, n') := by
          rw [← HADD.out, Sx.addLns, if_neg h0]
        have HT3 := hide ht2
        have HADD2 := hide hadd2
        have HB2 : Hid (Below w0.heap.size w0 w2) := hide (HBA.out.trans (hB2.mono hb0))
        clear ht2 hadd2 hB2 h0 HADD
        go_wp2
        refine bodyPost_ret (results_none rfl _ _ _) rfl ?_
        obtain ⟨sc, hx⟩ := HT3.out
        exact ⟨⟨_, rfl⟩, HB2.out, sc, by rw [HADD2.out]; exact hx⟩
theorem addLns_n : ∀ (l : List (List UInt8)) (rs : List Sx.Rl) (sec : UInt8) (n : Int), n ≤ (Sx.addLns l rs sec n).2.2 ∧ (Sx.addLns l rs sec n).2.2 ≤ n + l.length
  | [], _, _, n => ⟨Int.le_refl _, by simp [Sx.addLns]⟩
  | x :: r, rs, sec, n => by
    unfold Sx.addLns
    split
    · have := addLns_n r (Sx.addLn rs sec x).1.1 (Sx.addLn rs sec x).1.2 (n + 1)
      rw [List.length_cons]
      omega
    · simp only [List.length_cons]
      omega
theorem linesGo_len : ∀ (s cur : List UInt8), (Sx.linesGo s cur).length ≤ s.length + (if cur = [] then 0 else 1)
  | [], cur => by unfold Sx.linesGo; split <;> simp
  | x :: r, cur => by
    unfold Sx.linesGo
    split
    · have := linesGo_len r []
      rw [if_pos rfl] at this
      simp only [List.length_cons]
      omega
    · have := linesGo_len r (cur ++ [x])
      rw [if_neg (by simp)] at this
      simp only [List.length_cons]
      omega
theorem linesOf_len (s : List UInt8) : (Sx.linesOf s).length ≤ s.length := by
  have := linesGo_len s []
  rw [if_pos rfl] at this
  exact this
set_option maxRecDepth 100000 in
set_option maxHeartbeats 1000000 in
/-- (*suffix.reader).add -/
theorem prdadd (w0 : World) (hw : LWt w0) (b : Nat) (hb0 : w0.heap.size ≤ b) (L : List (List UInt8)) (v : Value) (w : World) (hB0 : Below w0.heap.size w0 w) (hrd : RdS w0 v L) (hr : RdrAt w b [] 0 0 0) (hsl : Sx.sl L ≤ 2000) (hL : L.length ≤ 1000000000000) :
    Calls Tryz.prog 23 #[.pointer (some ⟨b, 0, none⟩), v] w fun e w' => (∃ v, e = .returned v) ∧ Below w0.heap.size w0 w' ∧ RdEnd w' b (Sx.addAll L [] 0) := by
  obtain ⟨p, cap, rfl, hrd⟩ := hrd
  have HRD := hide hrd
  have HR := hide hr
  have HW := hide hw
  have HB0 := hide hB0
  clear hrd hr hw hB0
  go_enter Tryz.func23, Tryz.ntmps23
  go_wp2
  go_loopw [8] (fun i wr => ∃ (k : Nat) (rs' : List Sx.Rl) (sec' : UInt8) (n' : Int), i = .int .i64 k ∧ k ≤ L.length ∧ RdrAt wr b rs' sec' n' 0 ∧ Sx.RlsOk rs' ∧ Sx.addAll (L.drop k) rs' n' = Sx.addAll L [] 0 ∧ 0 ≤ n' ∧ n' + Sx.sl (L.drop k) ≤ 2000 ∧ Below w0.heap.size w0 wr) (fun i _ => (L.length - intOf i).toNat)
  case atStart => exact ⟨0, [], 0, 0, rfl, by omega, HR.out, Sx.rlsOk_nil, rfl, by omega, by rw [List.drop_zero]; omega, HB0.out⟩
  case round =>
    clear HR HB0
    obtain ⟨k, rs', sec', n', rfl, hk, hrd, hok, hadd, hn0, hn1, hB⟩ := hrel
    by_cases hlt : k < L.length
    · obtain ⟨bb, off, rfl, hbb, hc⟩ := HRD.out k hlt
      have hc2 := (hB.cell (p := ⟨bb, off + k, none⟩) hbb).trans hc
      have hdr := List.drop_eq_getElem_cons hlt
      have hsd := sl_drop L k hlt
      obtain ⟨s, hs⟩ : ∃ s, L[k] = s := ⟨_, rfl⟩
      rw [hs] at hc2 hdr hsd
      rw [hdr, addAll_cons] at hadd
      obtain ⟨S, hS⟩ : ∃ S : ByteArray, ⟨s.toArray⟩ = S := ⟨_, rfl⟩
      have hSl : S.data.toList = s := by rw [← hS]
      have hSz : S.size = s.length := by rw [← hS]; rfl
      rw [hS] at hc2
      have hr2 := hrd.sets 105
      have hB2 := hB.setCell (p := ⟨b, 1, none⟩) hb0 (.int .u8 105)
      have HLN := hide (plines w0 HW.out b hb0 S rs' 105 n' _ hB2 hr2 hok (by omega) hn0 (by omega))
      rw [hSl] at HLN
      have hnn := addLns_n (Sx.linesOf s) rs' 105 n'
      have hll := linesOf_len s
      have hok2 := Sx.addLns_ok (Sx.linesOf s) rs' 105 n' hok
      obtain ⟨q1, q2, q3, f1, f2, f3⟩ := hrd.cells
      obtain ⟨⟨rs2, m2, n2⟩, hX⟩ : ∃ X, Sx.addLns (Sx.linesOf s) rs' 105 n' = X := ⟨_, rfl⟩
      rw [hX] at HLN hnn hok2 hadd
      dsimp only at hnn hok2
      have hn3 : 0 ≤ n2 := by omega
      have hn4 : n2 + Sx.sl (L.drop (k + 1)) ≤ 2000 := by omega
      have HADD := hide hadd
      have HOK2 := hide hok2
      clear hdr hsd hs hS hSl hSz hc hX hnn hll hadd hr2 hok hok2 hB2 hrd hB
      go_wp2_with fail
      refine HLN.out.mono ?_
      rintro e w2 ⟨⟨ev, rfl⟩, hB3, sc3, hr3⟩
      dsimp only at hr3
      obtain ⟨p1, p2, p3, g1, g2, g3⟩ := hr3.cells
      by_cases hm : m2 = 0
      · subst hm
        have HR3 := hide hr3
        have HB3 := hide hB3
        clear hr3 hB3
        go_wp2
        exact ⟨⟨k + 1, rs2, sc3, n2, by go_num, by omega, HR3.out, HOK2.out, by rw [← HADD.out]; rfl, hn3, hn4, HB3.out⟩, by simp [intOf]; omega⟩
      · have hmb : (m2 != 0) = true := by simpa using hm
        have HF : Hid ((rs2, m2, n2) = Sx.addAll L [] 0) := hide (by rw [← HADD.out]; unfold contL; rw [if_neg hm])
        have HR3 := hide hr3
        have HB3 := hide hB3
        clear hr3 hB3
        go_wp2
        refine bodyPost_ret (results_none rfl _ _ _) rfl ?_
        exact ⟨⟨_, rfl⟩, HB3.out, sc3, by rw [← HF.out]; exact HR3.out⟩
    · have hkl : k = L.length := by omega
      subst hkl
      rw [List.drop_length] at hadd
      have HADD := hide hadd
      clear hadd hlt hk hn1
      go_wp2
      go_end0
      exact ⟨⟨_, rfl⟩, hB, sec', by rw [← HADD.out]; exact hrd⟩
end Go.Proofs.YtgohllfpceeboabGreatDoor
namespace Go.Proofs.YtgohllfpceeboabGreatDoor
open Go.RowKit
/-- automaton.twoBytes -/
theorem ptwo (n : Nat) (w : World) (hn : n < 65536) : Calls Tryz.prog 127 #[.int .i64 n] w fun e w' => e = .returned (.slice (some ⟨w.heap.size, 0, none⟩) 2 2) ∧ w' = w.alloc (.cells #[.int .u8 ((n : Int) / 256), .int .u8 ((n : Int) % 256)] 5) := by
  go_enter Tryz.func127, Tryz.ntmps127
  go_wp2
  go_ret
  exact ⟨rfl, rfl⟩
/-- Edges that lie somewhere, to be read. -/
def EdAt (w : World) (v : Value) (es : List Sx.Edg) : Prop := ∃ p cap, v = .slice p es.length cap ∧ ∀ j (h : j < es.length), ∃ b, p = some ⟨b, 0, none⟩ ∧ b < w.heap.size ∧ w.cell? ⟨b, j * 2, none⟩ = some (.int .u8 es[j].1.toNat) ∧ w.cell? ⟨b, j * 2 + 1, none⟩ = some (.int .i64 es[j].2)
/-- What has been told of a state, up to an edge. -/
def tellP (es : List Sx.Edg) (k : Nat) : List UInt8 := UInt8.ofNat es.length :: (es.take k).flatMap fun e => e.1 :: Sx.two e.2
theorem tellP_all (es : List Sx.Edg) : tellP es es.length = Sx.tellE es := by unfold tellP Sx.tellE; rw [List.take_length]
theorem tellP_more (es : List Sx.Edg) (k : Nat) (h : k < es.length) : tellP es (k + 1) = tellP es k ++ [es[k].1] ++ Sx.two es[k].2 := by
  unfold tellP
  rw [List.take_succ_eq_append_getElem h, List.flatMap_append]
  simp
theorem tellP_len (es : List Sx.Edg) (k : Nat) (h : k ≤ es.length) : (tellP es k).length = 1 + k * 3 := by
  induction k with
  | zero => simp [tellP]
  | succ k ih =>
    rw [tellP_more es k (by omega), List.length_append, List.length_append, ih (by omega)]
    simp [Sx.two]
    omega
theorem byV_two (n : Nat) (h : n < 65536) : byV (Sx.two n) = [.int .u8 ((n : Int) / 256), .int .u8 ((n : Int) % 256)] := by
  unfold byV Sx.two
  simp only [List.map_cons, List.map_nil, UInt8.toNat_ofNat']
  rw [show ((n / 256 % 2 ^ 8 : Nat) : Int) = (n : Int) / 256 from by omega, show ((n % 256 % 2 ^ 8 : Nat) : Int) = (n : Int) % 256 from by omega]
theorem cell1_at (w : World) (x : Value) (t : TypeId) (n : Nat) (hn : w.heap.size = n) : ∀ j u, [x][j]? = some u → (w.alloc (.cells #[x] t)).cell? ((⟨n, 0, none⟩ : Addr).add j) = some u := by
  subst hn
  exact cell_one_new w x t
theorem cell2_at (w : World) (x y : Value) (t : TypeId) (n : Nat) (hn : w.heap.size = n) : ∀ (j : Nat) (u : Value), [x, y][j]? = some u → (w.alloc (.cells #[x, y] t)).cell? ((⟨n, 0, none⟩ : Addr).add j) = some u := by
  subst hn
  intro j u hj
  rw [Addr.add_lit, Nat.zero_add, World.cell?_alloc_mark]
  simpa using hj
theorem box_far {wr w6 : World} {x y z : Value} {t t2 : TypeId} {row : Option Nat} (hg : ((wr.alloc (.cells #[x, y] t)).alloc (.cells #[z] t2)).grownBy w6 row) (hne : some wr.heap.size ≠ row) : w6.cell? ⟨wr.heap.size, 1, none⟩ = some y := by
  have h1 : (wr.alloc (.cells #[x, y] t)).cell? ⟨wr.heap.size, 1, none⟩ = some y := by rw [World.cell?_alloc_mark]; rfl
  have h2 := ((Below.refl (wr.heap.size + 1) (wr.alloc (.cells #[x, y] t))).alloc (by rw [World.size_alloc]; exact Nat.le_refl _) (.cells #[z] t2)).cell (p := ⟨wr.heap.size, 1, none⟩) (Nat.lt_succ_self _)
  exact (hg.cell_far ⟨wr.heap.size, 1, none⟩ (by simp; omega) hne).trans (h2.trans h1)
set_option maxRecDepth 100000 in
set_option maxHeartbeats 1000000 in
/-- automaton.tell -/
theorem ptell (es : List Sx.Edg) (v : Value) (w : World) (hv : EdAt w v es) (hl : es.length ≤ 1000) (ht : ∀ e ∈ es, e.2 < 65536) : Calls Tryz.prog 185 #[v] w fun e w' => e = .returned (.string ⟨(Sx.tellE es).toArray⟩) ∧ Below w.heap.size w w' := by
  obtain ⟨i2, hi2, hx0, hx1, hx2⟩ := info_parts Tryz.info5
  obtain ⟨p, cap, rfl, hrd⟩ := hv
  have HRD := hide hrd
  have HT := hide ht
  clear hrd ht
  have hown0 : (w.alloc (.cells #[.int .u8 ((es.length : Int) % 256)] 5)).ownsRow w.heap.size 5 1 (.slice (some ⟨w.heap.size, 0, none⟩) 1 1) 1 (byV (tellP es 0)) := by
    refine ⟨by simp [byV, tellP], .inr ⟨w.heap.size, 1, #[.int .u8 ((es.length : Int) % 256)], rfl, Nat.le_refl _, heap_alloc_new _ _, by omega, by unfold maxLen; omega, rfl, ?_⟩⟩
    simp [byV, tellP, UInt8.toNat_ofNat']
  have HOWN := hide hown0
  clear hown0
  go_enter Tryz.func185, Tryz.ntmps185
  go_wp2
  go_loopw [3, 12] (fun tv iv wr => ∃ (k g c : Nat), iv = .int .i64 k ∧ k ≤ es.length ∧ tv = .slice (some ⟨g, 0, none⟩) (1 + k * 3) c ∧ wr.ownsRow w.heap.size 5 1 tv (1 + k * 3) (byV (tellP es k)) ∧ Below w.heap.size w wr) (fun _ iv _ => (es.length - intOf iv).toNat)
  case atStart => exact ⟨0, w.heap.size, 1, rfl, by omega, rfl, HOWN.out, (Below.refl _ _).alloc (Nat.le_refl _) _⟩
  case round =>
    obtain ⟨k, g, c, rfl, hk, rfl, hown, hB⟩ := hrel
    have hsz := hB.size
    by_cases hlt : k < es.length
    · obtain ⟨b, rfl, hb, c1, c2⟩ := HRD.out k hlt
      have d1 := (hB.cell (p := ⟨b, k * 2, none⟩) hb).trans c1
      have d2 := (hB.cell (p := ⟨b, k * 2 + 1, none⟩) hb).trans c2
      have htm := tellP_more es k hlt
      have hto := HT.out es[k] (List.getElem_mem hlt)
      obtain ⟨⟨x, t⟩, he⟩ : ∃ x, es[k] = x := ⟨_, rfl⟩
      rw [he] at d1 d2 htm hto
      dsimp only at d1 d2 htm hto
      have hb2 := byV_two t hto
      have HTM := hide htm
      have HB2 := hide hb2
      clear c1 c2 he htm hb2
      go_wp2_with (at_builtin; go_must (refine wpList_append_lies _ rfl _ _ _ rfl w.heap.size 5 i2 (.int .u8 0) 1 1 Tryz.underlying90 hi2 hx0 hx1 hx2 rfl (by decide) _ _ _ rfl ((hown.alloc _).alloc _) ⟨_, 0, none⟩ 1 1 [.int .u8 x.toNat] rfl rfl (cell1_at _ _ _ _ (by simp)) (by simp [Value.oneCell']) (by omega) (by unfold maxLen; omega) (by omega) (by simp; omega) _ rfl ?_))
      intro g6 cap6 w6 hown6 hgrow6 hat6 hlt6
      have d3 := box_far hgrow6 (show some wr.heap.size ≠ some g from fun e => by have := (hown.lt g rfl).2; cases e; omega)
      have hB6 : Below w.heap.size w w6 := below_app (hB.alloc hsz _) (by rw [World.size_alloc]; omega) (hown.alloc _) hgrow6
      have hs6 := hB6.size
      clear hgrow6 hat6 hlt6 hown d1 d2
      go_wp2_with fail
      refine (ptwo t w6 hto).mono ?_
      rintro e w7 ⟨rfl, rfl⟩
      go_wp2_with (at_builtin; go_must (refine wpList_append_lies _ rfl _ _ _ rfl w.heap.size 5 i2 (.int .u8 0) 1 1 Tryz.underlying90 hi2 hx0 hx1 hx2 rfl (by decide) _ _ _ rfl (hown6.alloc _) ⟨_, 0, none⟩ 2 2 [.int .u8 ((t : Int) / 256), .int .u8 ((t : Int) % 256)] rfl rfl (cell2_at _ _ _ _ _ rfl) (by simp [Value.oneCell']) (by omega) (by unfold maxLen; omega) (by omega) (by simp; omega) _ rfl ?_))
      intro g8 cap8 w8 hown8 hgrow8 hat8 hlt8
      have hB8 := below_app hB6 hs6 hown6 hgrow8
      have hown9 : w8.ownsRow w.heap.size 5 1 (.slice (some ⟨g8, 0, none⟩) (1 + k * 3 + 1 + 2) cap8) (1 + k * 3 + 1 + 2) (byV (tellP es (k + 1))) := by
        rw [HTM.out, byV_app, byV_app, HB2.out, List.append_assoc]
        exact hown8
      clear hown8 hgrow8 hat8 hlt8 hown6 hB6 d3
      go_wp2
      have e3 : 1 + k * 3 + 1 + 2 = 1 + (k + 1) * 3 := by omega
      rw [e3] at hown9 ⊢
      exact ⟨⟨k + 1, g8, cap8, by go_num, by omega, rfl, hown9, hB8⟩, by simp [intOf]; omega⟩
    · have hkl : k = es.length := by omega
      subst hkl
      rw [tellP_all] at hown
      have hcv := own_string hown
      have HB := hide hB
      clear hown hk hlt hB
      go_wp2
      go_ret
      exact ⟨rfl, HB.out⟩
/-- Keys that lie somewhere below a mark, to be read and cut. -/
def KyAt (w : World) (B : Nat) (v : Value) (K : List (List UInt8)) : Prop := ∃ p cap, v = .slice p K.length cap ∧ K.length ≤ cap ∧ cap ≤ maxLen ∧ ∀ j (h : j < K.length), ∃ b off, p = some ⟨b, off, none⟩ ∧ b < B ∧ w.cell? ⟨b, off + j, none⟩ = some (.string ⟨K[j].toArray⟩)
/-- automaton.countWith -/
theorem pcw (c : UInt8) (d m : Nat) (K : List (List UInt8)) (B : Nat) (v : Value) (w : World) (hv : KyAt w B v K) (hd : ∀ k ∈ K, d < k.length) (hm : m ≤ K.length) (h1 : ∀ j (h : j < K.length) (h2 : d < K[j].length), j < m → K[j][d] = c) (h2 : ∀ (h : m < K.length) (h2 : d < K[m].length), K[m][d] ≠ c) (hl : K.length ≤ 1000) :
    Calls Tryz.prog 126 #[.int .u8 c.toNat, .int .i64 d, v] w fun e w' => e = .returned (.int .i64 m) ∧ w' = w := by
  obtain ⟨p, cap, rfl, _, _, hrd⟩ := hv
  have HRD := hide hrd
  have H1 := hide h1
  have H2 := hide h2
  have HD := hide hd
  clear hrd h1 h2 hd
  go_enter Tryz.func126, Tryz.ntmps126
  go_wp2
  go_loop [7] (fun i => ∃ k : Nat, i = .int .i64 k ∧ k ≤ m) (fun i => (m - intOf i).toNat)
  case atStart => exact ⟨0, rfl, by omega⟩
  case round =>
    obtain ⟨k, rfl, hk⟩ := hrel
    by_cases hlt : k < K.length
    · obtain ⟨b, off, rfl, hb, hc⟩ := HRD.out k hlt
      have hdl := HD.out K[k] (List.getElem_mem hlt)
      have g1 := H1.out k hlt hdl
      have g2 : ∀ h : k = m, K[k][d] ≠ c := fun h => by subst h; exact H2.out hlt hdl
      obtain ⟨x, hx⟩ : ∃ x, K[k] = x := ⟨_, rfl⟩
      simp only [hx] at hc hdl g1 g2
      obtain ⟨y, hy⟩ : ∃ y, x[d] = y := ⟨_, rfl⟩
      have hg : ∀ h : d < (⟨x.toArray⟩ : ByteArray).size, (⟨x.toArray⟩ : ByteArray)[d]'h = y := fun h => hy
      rw [hy] at g1 g2
      have hxs : (⟨x.toArray⟩ : ByteArray).size = x.length := rfl
      clear hx hy
      by_cases hkm : k < m
      · have hyc := g1 hkm
        subst hyc
        clear g1 g2
        go_wp2
        exact ⟨⟨k + 1, by go_num, by omega⟩, by simp [intOf]; omega⟩
      · have hyc := g2 (by omega)
        have hn : ((y.toNat : Int) == (c.toNat : Int)) = false := by
          rw [beq_eq_false_iff_ne]
          intro e
          exact hyc (UInt8.toNat_inj.1 (by omega))
        have hn2 : ¬ (y.toNat : Int) = (c.toNat : Int) := by simpa using hn
        have hkm2 : k = m := by omega
        subst hkm2
        clear g1 g2 hyc hkm hk
        go_wp2
        go_ret
        exact ⟨rfl, rfl⟩
    · have hkm : k = m := by omega
      subst hkm
      clear hk
      go_wp2
      go_ret
      exact ⟨rfl, rfl⟩
end Go.Proofs.YtgohllfpceeboabGreatDoor
namespace Go.Proofs.YtgohllfpceeboabGreatDoor
open Go.RowKit Go.Maps
/-- What is known of the map of states. -/
structure MapIs (D : DataW Unit) (tab : List (List Sx.Edg)) : Prop where
  has : ∀ t : List UInt8, Maps.has D (.string t) = decide (t ∈ tab.map Sx.tellE)
  at' : ∀ (t : List UInt8) (i : Nat), Sx.posOf t (tab.map Sx.tellE) = some i → D.atKey (.string t) (.lit (.int .i64 0)) = .lit (.int .i64 i)
  size : Maps.size D = tab.length
theorem posOf_snoc {α : Type} [DecidableEq α] (x y : α) : ∀ (l : List α), x ∉ l → Sx.posOf y (l ++ [x]) = if y = x then (match Sx.posOf y l with | some i => some i | none => some l.length) else Sx.posOf y l
  | [], _ => by
    by_cases h : y = x
    · subst h; simp [Sx.posOf]
    · rw [if_neg h]; simp [Sx.posOf, Ne.symm h]
  | z :: r, hx => by
    simp only [List.mem_cons, not_or] at hx
    rw [List.cons_append]
    unfold Sx.posOf
    by_cases hz : z = y
    · rw [if_pos hz]
      subst hz
      rw [if_neg (Ne.symm hx.1)]
      simp
    · rw [if_neg hz, posOf_snoc x y r hx.2]
      by_cases h : y = x
      · rw [if_pos h, if_pos h]
        cases hp : Sx.posOf y r with
        | some i => simp [hz]
        | none => simp [hz]
      · rw [if_neg h, if_neg h]
        simp [hz]
theorem mapIs_nil : MapIs (.map []) [] := ⟨fun t => by simp [Maps.has_eq], fun t i h => by simp [Sx.posOf] at h, by simp [Maps.size_eq]⟩
theorem MapIs.put {D : DataW Unit} {tab : List (List Sx.Edg)} (h : MapIs D tab) (ht : Maps.Tidy D) (es : List Sx.Edg) (hn : Sx.tellE es ∉ tab.map Sx.tellE) : MapIs (D.put (.string (Sx.tellE es)) (.lit (.int .i64 tab.length))) (tab ++ [es]) := by
  have hk : WideAt.IsKeyLit (.string (Sx.tellE es)) := by trivial
  have h0 : Maps.has D (.string (Sx.tellE es)) = false := by rw [h.has]; simpa using hn
  refine ⟨fun t => ?_, fun t i hp => ?_, ?_⟩
  · by_cases e : t = Sx.tellE es
    · subst e
      rw [Maps.has_put_same ht.isMap hk]
      simp
    · rw [Maps.has_put_other (by simpa using e), h.has, List.map_append]
      simp [e]
  · rw [List.map_append, List.map_cons, List.map_nil, posOf_snoc _ _ _ hn] at hp
    by_cases e : t = Sx.tellE es
    · subst e
      rw [Maps.atKey_put_same ht.isMap hk]
      rw [if_pos rfl, (Sx.posOf_none _ _).2 hn] at hp
      simp only [List.length_map, Option.some.injEq] at hp
      rw [hp]
    · rw [if_neg e] at hp
      rw [Maps.atKey_put_other (by simpa using e)]
      exact h.at' t i hp
  · rw [Maps.size_put ht, h0, h.size]
    simp
/-- All that is no row of edges aside: rows of edges stay. -/
def KeepE (W W' : World) : Prop := W.heap.size ≤ W'.heap.size ∧ ∀ (k : Nat) (cs : Array Value) (fr : Nat × Nat), W.heap[k]? = some (.cells cs 185 fr) → W'.heap[k]? = some (.cells cs 185 fr)
theorem KeepE.refl (W : World) : KeepE W W := ⟨Nat.le_refl _, fun _ _ _ h => h⟩
theorem KeepE.trans {A B C : World} (h : KeepE A B) (h2 : KeepE B C) : KeepE A C := ⟨Nat.le_trans h.1 h2.1, fun k cs fr hk => h2.2 k cs fr (h.2 k cs fr hk)⟩
theorem KeepE.below {W W' : World} (h : Below W.heap.size W W') : KeepE W W' := ⟨h.size, fun k _ _ hk => (h.block k (Array.getElem?_eq_some_iff.1 hk).1).trans hk⟩
theorem KeepE.grown {W W' : World} {row : Option Nat} (h : W.grownBy W' row) (hr : ∀ r, row = some r → W.heap.size ≤ r ∨ ∃ o, W.heap[r]? = some o ∧ ∀ cs fr, o ≠ .cells cs 185 fr) : KeepE W W' :=
  ⟨h.size, fun k cs fr hk => (h.block k (Array.getElem?_eq_some_iff.1 hk).1 (fun e => by
    rcases hr k e.symm with h1 | ⟨o, ho, hne⟩
    · have := (Array.getElem?_eq_some_iff.1 hk).1; omega
    · rw [hk] at ho; exact hne cs fr (Option.some.inj ho).symm)).trans hk⟩
theorem KeepE.own {W W' : World} (h : KeepE W W') {B n z : Nat} {v : Value} {xs : List Value} (ho : W.ownsRow B 185 z v n xs) : W'.ownsRow B 185 z v n xs := by
  obtain ⟨h1, h2⟩ := ho
  refine ⟨h1, ?_⟩
  rcases h2 with h2 | ⟨g, cap, cur, hv, hg, hh, r⟩
  · exact .inl h2
  · exact .inr ⟨g, cap, cur, hv, hg, h.2 _ _ _ hh, r⟩
/-- The states as they lie: the map at B, the two words at B + 1, what is told of them above. -/
structure StA (W : World) (B : Nat) (tab : List (List Sx.Edg)) : Prop where
  map : ∃ D, W.ownsMap Tryz.prog 9 (plainElem Tryz.prog 3) B tab.length D ∧ MapIs D tab
  row : ∃ v, W.heap[B + 1]? = some (.cells #[.map (some B), v] 181 (0, 0)) ∧ W.ownsRow (B + 2) 5 1 v (tab.flatMap Sx.tellE).length (byV (tab.flatMap Sx.tellE)) ∧ (tab = [] → v = .slice none 0 0)
  len : ∀ x ∈ tab, x.length ≤ 1000
  ok : ∀ x ∈ tab, ∀ e ∈ x, e.2 < tab.length
theorem StA.below {W W' : World} {B : Nat} {tab : List (List Sx.Edg)} (h : StA W B tab) (hb : Below W.heap.size W W') : StA W' B tab := by
  obtain ⟨⟨D, h1, h2⟩, ⟨v, h3, h4, h7⟩, h5, h6⟩ := h
  refine ⟨⟨D, ?_, h2⟩, ⟨v, (hb.block _ (Array.getElem?_eq_some_iff.1 h3).1).trans h3, own_later h4 hb, h7⟩, h5, h6⟩
  have hlt := h1.lt
  obtain ⟨es, clock, hb1, F, hs, hD⟩ := h1
  exact ⟨es, clock, (hb.block _ hlt).trans hb1, F, hs, hD⟩
theorem StA.siz {W : World} {B : Nat} {tab : List (List Sx.Edg)} (h : StA W B tab) : B + 2 ≤ W.heap.size := by
  obtain ⟨_, ⟨v, h3, _⟩, _, _⟩ := h
  have := (Array.getElem?_eq_some_iff.1 h3).1
  omega
/-- A state with these edges, a new one if there is none yet: the states, and its number. -/
def addE (tab : List (List Sx.Edg)) (es : List Sx.Edg) : List (List Sx.Edg) × Nat := match Sx.posOf es tab with
  | some i => (tab, i)
  | none => (tab ++ [es], tab.length)
theorem addE_some {tab : List (List Sx.Edg)} {es : List Sx.Edg} {i : Nat} (h : Sx.posOf es tab = some i) : addE tab es = (tab, i) := by unfold addE; rw [h]
theorem addE_none {tab : List (List Sx.Edg)} {es : List Sx.Edg} (h : Sx.posOf es tab = none) : addE tab es = (tab ++ [es], tab.length) := by unfold addE; rw [h]
theorem edgF_addE (n : Nat) (tab : List (List Sx.Edg)) (l : List Sx.Wd) : Sx.edgF (n + 1) tab l = addE ((Sx.grp l).foldl (Sx.edgE n) (tab, [])).1 ((Sx.grp l).foldl (Sx.edgE n) (tab, [])).2 := by rw [Sx.edgF_succ]; rfl
theorem keyLaw : Keyed Tryz.prog 9 := string_keyed Tryz.underlying9
theorem zeroInt (w : World) : (zeroValue 3).run Tryz.prog w = .ok (.int .i64 0) w := by kernel_rfl
theorem tell_bound (tab : List (List Sx.Edg)) (hn : tab.length ≤ 60000) (hlen : ∀ x ∈ tab, x.length ≤ 1000) : (tab.flatMap Sx.tellE).length ≤ 240000000 := by
  have : ∀ l : List (List Sx.Edg), (∀ x ∈ l, x.length ≤ 1000) → (l.flatMap Sx.tellE).length ≤ l.length * 4000 := by
    intro l
    induction l with
    | nil => intro _; simp
    | cons x l ih =>
      intro h
      have h1 := ih (fun y hy => h y (by simp [hy]))
      have h2 := h x (by simp)
      have h3 : (Sx.tellE x).length = 1 + x.length * 3 := by rw [← tellP_all, tellP_len _ _ (Nat.le_refl _)]
      rw [List.flatMap_cons, List.length_append, List.length_cons]
      omega
  have := this tab hlen
  omega
set_option maxRecDepth 100000 in
set_option maxHeartbeats 1000000 in
/-- (*automaton.states).add -/
theorem padd (es : List Sx.Edg) (v : Value) (B : Nat) (tab : List (List Sx.Edg)) (w : World) (hv : EdAt w v es) (hst : StA w B tab) (hl : es.length ≤ 1000) (hto : ∀ e ∈ es, e.2 < tab.length) (hn : tab.length ≤ 60000) :
    Calls Tryz.prog 125 #[.pointer (some ⟨B + 1, 0, none⟩), v] w fun e w' => Below B w w' ∧ KeepE w w' ∧
      e = .returned (.int .i64 ((addE tab es).2 : Nat)) ∧ StA w' B (addE tab es).1 := by
  obtain ⟨i2, hi2, hx0, hx1, hx2⟩ := info_parts Tryz.info5
  have hlen := hst.len
  have htab : ∀ x ∈ tab, ∀ e ∈ x, e.2 < 65536 := fun x hx e he => by have := hst.ok x hx e he; omega
  have ht : ∀ e ∈ es, e.2 < 65536 := fun e he => by have := hto e he; omega
  have HTE := hide (ptell es v w hv hl ht)
  have HLEN := hide hlen
  have HTO := hide hto
  have HOK := hide hst.ok
  have hpm : Sx.posOf (Sx.tellE es) (tab.map Sx.tellE) = Sx.posOf es tab := Sx.posOf_map Sx.tellE es tab (fun y hy e => Sx.tellE_inj (htab y hy) ht e)
  have HPM := hide hpm
  have HST := hide hst
  have hsz := hst.siz
  clear hpm hst htab hlen hto
  go_enter Tryz.func125, Tryz.ntmps125
  go_wp2_with fail
  refine HTE.out.mono ?_
  rintro e w1 ⟨rfl, hB1⟩
  obtain ⟨⟨D, hown, hD⟩, ⟨tv, hbox, hrow, hnilt⟩, _, _⟩ := HST.out.below hB1
  have HNT := hide hnilt
  clear hnilt
  have c0 : w1.cell? ⟨B + 1, 0, none⟩ = some (.map (some B)) := by simp [World.cell?, hbox]
  have hs1 := hB1.size
  have hzl : (Sx.tellE es).length = 1 + es.length * 3 := by rw [← tellP_all, tellP_len _ _ (Nat.le_refl _)]
  have hkey : keyOf Tryz.prog 9 (.string ⟨(Sx.tellE es).toArray⟩) = some (.string (Sx.tellE es)) := WideMaps.keyOf_string_mk Tryz.underlying9 (by show (Sx.tellE es).length ≤ maxLen; rw [hzl]; unfold maxLen; omega)
  obtain ⟨T, hT⟩ : ∃ T, Sx.tellE es = T := ⟨_, rfl⟩
  have HHAS := hide (hD.has T)
  have HAT := hide (hD.at' T)
  have hsiz := hD.size
  rw [hT] at hkey hzl HPM ⊢
  have HTT := hide hT
  have HD := hide hD
  have HBB := hide hB1
  have HBX := hide hbox
  clear hT hD HST hv HTE ht hB1
  cases hp : Sx.posOf es tab with
  | some i =>
    have hpT : Sx.posOf T (tab.map Sx.tellE) = some i := HPM.out.trans hp
    have hmem : T ∈ tab.map Sx.tellE := List.mem_of_getElem? (Sx.posOf_get _ _ _ hpT)
    have hh : Maps.has D (.string T) = true := by rw [HHAS.out]; simpa using hmem
    have hav := HAT.out i hpT
    have HP := hide (addE_some hp)
    clear hmem hpT hp
    go_wp2_with (at_lookup; go_must (refine wpList_lookup_own_ok_int _ rfl _ _ 179 rfl 9 3 .i64 keyLaw Tryz.underlying179 Tryz.underlying3 (zeroInt _) B _ D rfl hown _ _ rfl hkey ?_; intro c hat hwc; rw [hav] at hat; obtain rfl : (i : Int) = c := (by simpa using hat); clear hat hwc; rw [hh]))
    go_ret
    rw [HP.out]
    exact ⟨HBB.out.mono (by omega), KeepE.below HBB.out, rfl, ⟨⟨D, hown, HD.out⟩, ⟨tv, HBX.out, hrow, HNT.out⟩, HLEN.out, HOK.out⟩⟩
  | none =>
    have hpT : Sx.posOf T (tab.map Sx.tellE) = none := HPM.out.trans hp
    have hnm := (Sx.posOf_none _ _).1 hpT
    have hh : Maps.has D (.string T) = false := by rw [HHAS.out]; simpa using hnm
    have HNM := hide hnm
    have hav := Maps.atKey_of_not_has hh (.lit (.int .i64 0))
    have HP := hide (addE_none hp)
    clear hnm hpT hp
    go_wp2_with (first | (at_lookup; go_must (refine wpList_lookup_own_ok_int _ rfl _ _ 179 rfl 9 3 .i64 keyLaw Tryz.underlying179 Tryz.underlying3 (zeroInt _) B _ D rfl hown _ _ rfl hkey ?_; intro c hat hwc; rw [hav] at hat; obtain rfl : (0 : Int) = c := (by simpa using hat); clear hat hwc; rw [hh])) | (at_len; go_must (refine wpList_len_own _ rfl _ 179 rfl 9 3 Tryz.underlying179 _ B _ D rfl hown ?_; rw [hsiz])) | (at_mapUpdate; go_must (refine wpList_mapUpdate_own _ rfl _ _ _ 179 rfl 9 3 keyLaw Tryz.underlying179 _ B _ D rfl hown (by unfold maxLen; omega) _ _ _ rfl rfl hkey _ [] (plainElem_int Tryz.underlying3 (WalkArith.wf_i64 (by omega))) ?_)))
    intro w2 hown2 hgrow2
    have hbox2 := (hgrow2.block (B + 1) (Array.getElem?_eq_some_iff.1 hbox).1 (by simp)).trans hbox
    have hrow2 := hrow.kept hgrow2 (.inr (fun e => by have := (hrow.lt B e).1; omega))
    have c1 : w2.cell? ⟨B + 1, 1, none⟩ = some tv := by simp [World.cell?, hbox2]
    have hs2 := hgrow2.size
    have hNZ : (tab.flatMap Sx.tellE).length ≤ 240000000 := tell_bound tab hn HLEN.out
    have hTl : T.length ≤ 4000 := by omega
    obtain ⟨F, hF⟩ : ∃ F, tab.flatMap Sx.tellE = F := ⟨_, rfl⟩
    rw [hF] at hNZ hrow2
    have HF := hide hF
    clear hF hzl
    have HOWN2 := hide hown2
    have HMP := hide hown
    have HG2 := hide hgrow2
    clear hgrow2 hown2 hown hrow c0 hav hh hkey
    go_wp2_with (at_builtin; go_must (refine Lib.wpList_append_own_string _ rfl _ _ _ _ rfl (B + 2) 5 i2 Tryz.underlying90 Tryz.underlying9 hi2 hx0 hx1 hx2 _ _ _ rfl hrow2 _ rfl (by show _ + T.length ≤ _; unfold maxLen; omega) (by show _ + T.length ≤ _; omega) (by omega) ?_))
    intro v3 w3 hown3 hgrow3 hnil3
    have hne3 : some (B + 1) ≠ tv.ownBlock := fun e => by have := (hrow2.lt (B + 1) e.symm).1; omega
    have hbox3 := (hgrow3.block (B + 1) (Array.getElem?_eq_some_iff.1 hbox2).1 hne3).trans hbox2
    have c3 : w3.cell? ⟨B + 1, 1, none⟩ = some tv := by simp [World.cell?, hbox3]
    have f3 : w3.frozen? ⟨B + 1, 1, none⟩ = false := by simp [World.frozen?, hbox3]
    have hs3 := hgrow3.size
    obtain ⟨L3, hL3⟩ : ∃ L3, F.length + T.length = L3 := ⟨_, rfl⟩
    rw [hL3] at hown3
    have HL3 := hide hL3
    obtain ⟨p3, cp3, hv3⟩ := own_shapeK hown3
    rw [hv3] at hown3 ⊢
    clear hnil3 hv3 hL3
    go_wp2
    go_ret
    obtain ⟨v3, hv3⟩ : ∃ v3, Value.slice p3 L3 cp3 = v3 := ⟨_, rfl⟩
    rw [hv3] at hown3 ⊢
    have hg4 := grown_setCell w3 (B + 1) 1 v3
    have hbox4 : (w3.setCell ⟨B + 1, 1, none⟩ v3).heap[B + 1]? = some (.cells #[.map (some B), v3] 181 (0, 0)) := by
      simp [World.setCell, Array.getElem?_modify, hbox3]
    have hnb : ∀ r, tv.ownBlock = some r → B + 2 ≤ r := fun r e => (hrow2.lt r e).1
    have hBe : Below B w (w3.setCell ⟨B + 1, 1, none⟩ v3) := (((HBB.out.mono (by omega)).grown HG2.out (by omega) (fun r e => by cases e; exact Nat.le_refl _)).grown hgrow3 (by omega) (fun r e => by have := hnb r e; omega)).grown hg4 (by omega) (fun r e => by cases e; omega)
    have hKe : KeepE w (w3.setCell ⟨B + 1, 1, none⟩ v3) := by
      refine (((KeepE.below HBB.out).trans (KeepE.grown HG2.out ?_)).trans (KeepE.grown hgrow3 ?_)).trans (KeepE.grown hg4 ?_)
      · rintro r e
        cases e
        obtain ⟨q, cl, hm, _⟩ := HMP.out
        exact .inr ⟨_, hm, fun cs fr e => by cases e⟩
      · rintro r e
        rcases hrow2.2 with ⟨h1, _⟩ | ⟨g, cap, cur, h1, h2, h3, h4⟩
        · rw [h1] at e; cases e
        · rw [h1] at e
          cases e
          exact .inr ⟨_, h3, fun cs fr e => by injection e with _ e2; exact absurd e2 (by decide)⟩
      · rintro r e
        cases e
        exact .inr ⟨_, hbox3, fun cs fr e => by injection e with _ e2; exact absurd e2 (by decide)⟩
    rw [HP.out]
    have hlen2 : (tab ++ [es], tab.length).1.length = tab.length + 1 := by simp
    refine ⟨hBe, hKe, rfl, ⟨_, by rw [hlen2]; exact (HOWN2.out.kept hgrow3 (fun e => by have := hnb B e.symm; omega)).kept hg4 (fun e => by cases e), ?_⟩, ⟨v3, hbox4, ?_, fun e => by simp at e⟩, ?_, ?_⟩
    · have := HD.out.put (HMP.out.tidy keyLaw) es (by rw [HTT.out]; exact HNM.out)
      rw [HTT.out] at this
      exact this
    · have h9 := hown3.kept hg4 (.inr (fun e => by have := (hown3.lt (B + 1) e).1; omega))
      rw [List.flatMap_append, List.flatMap_cons, List.flatMap_nil, List.append_nil, HTT.out, HF.out, byV_app, List.length_append, show F.length + T.length = L3 from HL3.out]
      exact h9
    · intro x hx
      rcases List.mem_append.1 hx with hx | hx
      · exact HLEN.out x hx
      · rw [List.mem_singleton.1 hx]; exact hl
    · intro x hx e he
      rw [hlen2]
      rcases List.mem_append.1 hx with hx | hx
      · have := HOK.out x hx e he; omega
      · rw [List.mem_singleton.1 hx] at he; have := HTO.out e he; omega
end Go.Proofs.YtgohllfpceeboabGreatDoor
namespace Go.Proofs.YtgohllfpceeboabGreatDoor
open Go.RowKit Go.Maps
theorem Tryz.info185 : (Tryz.prog.info? 185).map (fun i => (i.zero, i.size, i.bytes)) = some (some (.agg #[.int .u8 0, .int .i64 0]), 2, 16) := by kernel_rfl
theorem KyAt.below {w w' : World} {B : Nat} {v : Value} {K : List (List UInt8)} (h : KyAt w B v K) (hb : Below B w w') : KyAt w' B v K := by
  obtain ⟨p, cap, h1, h2, h3, h4⟩ := h
  refine ⟨p, cap, h1, h2, h3, fun j hj => ?_⟩
  obtain ⟨b, off, e1, e2, e3⟩ := h4 j hj
  exact ⟨b, off, e1, e2, (hb.cell (p := ⟨b, off + j, none⟩) e2).trans e3⟩
theorem KeepE.later {A W W' : World} {row : Option Nat} (h : KeepE A W) (hg : W.grownBy W' row) (hr : ∀ r, row = some r → A.heap.size ≤ r) : KeepE A W' :=
  ⟨Nat.le_trans h.1 hg.size, fun k cs fr hk => (hg.block k (Array.getElem?_eq_some_iff.1 (h.2 k cs fr hk)).1 (fun e => by
    have := hr k e.symm
    have := (Array.getElem?_eq_some_iff.1 hk).1
    omega)).trans (h.2 k cs fr hk)⟩
theorem StA.grownE {W W' : World} {B : Nat} {tab : List (List Sx.Edg)} {row : Option Nat} (h : StA W B tab) (hg : W.grownBy W' row) (hr : ∀ r, row = some r → ∃ cs fr, W.heap[r]? = some (.cells cs 185 fr)) : StA W' B tab := by
  obtain ⟨⟨D, h1, h2⟩, ⟨v, h3, h4, h7⟩, h5, h6⟩ := h
  refine ⟨⟨D, h1.kept hg (fun e => ?_), h2⟩, ⟨v, (hg.block _ (Array.getElem?_eq_some_iff.1 h3).1 (fun e => ?_)).trans h3, h4.kept hg ?_, h7⟩, h5, h6⟩
  · obtain ⟨cs, fr, hc⟩ := hr B e.symm
    obtain ⟨es, cl, hm, _⟩ := h1
    rw [hm] at hc; cases hc
  · obtain ⟨cs, fr, hc⟩ := hr _ e.symm
    rw [h3] at hc
    injection hc with hc
    injection hc with _ e2
    exact absurd e2 (by decide)
  · rcases h4.2 with ⟨e1, _⟩ | ⟨g, cap, cur, e1, e2, e3, e4⟩
    · exact .inl (by rw [e1]; rfl)
    · refine .inr (fun e => ?_)
      rw [e1] at e
      obtain ⟨cs, fr, hc⟩ := hr g e.symm
      rw [e3] at hc
      injection hc with hc
      injection hc with _ e2
      exact absurd e2 (by decide)
theorem own_block {W : World} {B n z : Nat} {e : TypeId} {v : Value} {xs : List Value} (h : W.ownsRow B e z v n xs) : ∀ r, v.ownBlock = some r → ∃ cs fr, W.heap[r]? = some (.cells cs e fr) := by
  intro r hr
  rcases h.2 with ⟨e1, _⟩ | ⟨g, cap, cur, e1, e2, e3, e4⟩
  · rw [e1] at hr; cases hr
  · rw [e1] at hr
    cases hr
    exact ⟨_, _, e3⟩
def edV (es : List Sx.Edg) : List Value := es.flatMap fun e => [Value.int .u8 e.1.toNat, Value.int .i64 e.2]
theorem edV_app (a b : List Sx.Edg) : edV (a ++ b) = edV a ++ edV b := by simp [edV]
theorem edV_get : ∀ (l : List Sx.Edg) (j : Nat) (h : j < l.length), (edV l)[j * 2]? = some (.int .u8 l[j].1.toNat) ∧ (edV l)[j * 2 + 1]? = some (.int .i64 l[j].2) := by
  intro l
  induction l with
  | nil => intro j h; exact absurd h (Nat.not_lt_zero _)
  | cons x r ih =>
    intro j h
    have e : edV (x :: r) = Value.int .u8 x.1.toNat :: Value.int .i64 x.2 :: edV r := rfl
    cases j with
    | zero => rw [e]; exact ⟨rfl, rfl⟩
    | succ j =>
      have := ih j (by simpa using h)
      rw [e, show (j + 1) * 2 = j * 2 + 1 + 1 from by omega]
      simpa using this
theorem edAt_own {W : World} {B : Nat} {v : Value} {es : List Sx.Edg} (h : W.ownsRow B 185 2 v es.length (edV es)) : EdAt W v es := by
  obtain ⟨p, cap, hv⟩ := own_shapeK h
  refine ⟨p, cap, hv, fun j hj => ?_⟩
  rcases h.2 with ⟨e1, e2⟩ | ⟨g, cap, cur, e1, e2, e3, e4⟩
  · omega
  · have hp : p = some ⟨g, 0, none⟩ := by rw [hv] at e1; injection e1
    obtain ⟨a1, a2⟩ := edV_get es j hj
    have c1 := h.cells (g := g) (by rw [e1]; rfl) _ _ a1
    have c2 := h.cells (g := g) (by rw [e1]; rfl) _ _ a2
    rw [Addr.add_lit, Nat.zero_add] at c1 c2
    exact ⟨g, hp, (Array.getElem?_eq_some_iff.1 e3).1, c1, c2⟩
def slLen : Value → Nat
  | .slice _ n _ => n
  | _ => 0
/-- The keys at the beginning that have one byte at this depth, and the others. -/
theorem block_keys (R : List (List UInt8)) (d : Nat) (hd : ∀ k ∈ R, d < k.length) (hR : 0 < R.length) : ∃ (c : UInt8) (m : Nat), 0 < m ∧ m ≤ R.length ∧ (∀ j (h : j < R.length) (h2 : d < R[j].length), j < m → R[j][d] = c) ∧ (∀ (h : m < R.length) (h2 : d < R[m].length), R[m][d] ≠ c) ∧
    Sx.grp (R.map (·.drop d)) = (c, (R.take m).map (·.drop (d + 1))) :: Sx.grp ((R.drop m).map (·.drop d)) := by
  have hne : ∀ w ∈ R.map (·.drop d), w ≠ [] := by
    intro w hw e
    obtain ⟨k, hk, rfl⟩ := List.mem_map.1 hw
    have h1 := congrArg List.length e
    have h2 := hd k hk
    rw [List.length_drop, List.length_nil] at h1
    omega
  obtain ⟨c, bl, rest, h1, h2, h3⟩ := Sx.split_block (R.map (·.drop d)) hne (by intro e; have := congrArg List.length e; rw [List.length_map, List.length_nil] at this; omega)
  have hlen := congrArg List.length h1
  simp only [List.length_map, List.length_append] at hlen
  have hdr : ∀ j (h : j < R.length) (h2 : d < R[j].length), R[j].drop d = R[j][d] :: R[j].drop (d + 1) := fun j h h2 => List.drop_eq_getElem_cons h2
  have hat : ∀ j (h : j < R.length), (R.map (·.drop d))[j]? = some (R[j].drop d) := fun j h => by rw [List.getElem?_map, List.getElem?_eq_getElem h]; rfl
  have hblt : (R.take bl.length).map (·.drop (d + 1)) = bl := by
    apply List.ext_getElem
    · simp; omega
    · intro j a1 a2
      have hj : j < R.length := by omega
      have hdl := hd R[j] (List.getElem_mem hj)
      have e1 := hat j hj
      rw [h1, List.getElem?_append_left (by simpa using a2), List.getElem?_map, List.getElem?_eq_getElem a2, hdr j hj hdl] at e1
      simp only [Option.map_some, Option.some.injEq, List.cons.injEq] at e1
      simp only [List.getElem_map, List.getElem_take]
      exact e1.2.symm
  have hrest : (R.drop bl.length).map (·.drop d) = rest := by
    rw [List.map_drop, h1, List.drop_left' (by simp)]
  refine ⟨c, bl.length, List.length_pos_iff.2 h2, by omega, ?_, ?_, ?_⟩
  · intro j h hdl hj
    have e1 := hat j h
    rw [h1, List.getElem?_append_left (by simpa using hj), List.getElem?_map, List.getElem?_eq_getElem hj, hdr j h hdl] at e1
    simp only [Option.map_some, Option.some.injEq, List.cons.injEq] at e1
    exact e1.1.symm
  · intro h hdl
    have e1 := hat bl.length h
    rw [h1, List.getElem?_append_right (by simp), List.length_map, Nat.sub_self, hdr _ h hdl] at e1
    obtain ⟨r0, hr0⟩ : ∃ r0, rest = (R[bl.length][d] :: R[bl.length].drop (d + 1)) :: r0 := by
      cases rest with
      | nil => simp at e1
      | cons y r => simp only [List.getElem?_cons_zero, Option.some.injEq] at e1; exact ⟨r, by rw [e1]⟩
    exact h3 _ _ _ hr0
  · rw [h1, hrest, hblt]
    exact Sx.grp_block c bl rest h2 (fun w hw => hne w (by rw [h1]; exact List.mem_append_right _ hw)) h3
set_option maxRecDepth 100000 in
set_option maxHeartbeats 4000000 in
/-- (*automaton.states).addKeys -/
theorem pak (B : Nat) : ∀ (n : Nat) (K : List (List UInt8)) (d : Nat) (v : Value) (tab : List (List Sx.Edg)) (w : World), KyAt w B v K → (∀ k ∈ K, d ≤ k.length) → d + n ≤ 1000 → Sx.OkF n (K.map (·.drop d)) → StA w B tab → tab.length + Sx.sl (K.map (·.drop d)) ≤ 50000 → K.length ≤ 1000 →
    Calls Tryz.prog 81 #[.pointer (some ⟨B + 1, 0, none⟩), .int .i64 d, v] w fun e w' => Below B w w' ∧ KeepE w w' ∧ e = .returned (.int .i64 ((Sx.edgF n tab (K.map (·.drop d))).2 : Nat)) ∧ StA w' B (Sx.edgF n tab (K.map (·.drop d))).1 := by
  intro n
  induction n with
  | zero => intro K d v tab w _ _ _ h; exact absurd h (by simp [Sx.OkF])
  | succ n ih =>
    intro K d v tab w hv hd hd1 hok hst hbd hKl
    obtain ⟨i0, hi, hz0, hz1, hz2⟩ := info_parts Tryz.info185
    have HV := hide hv
    have HST := hide hst
    have hsb0 := hst.siz
    have IH := hide ih
    have hfine := hok.1
    have HG := hide hok.2
    obtain ⟨p, cap, rfl, hcap, hcm, hrd⟩ := hv
    have hK0 : 0 < K.length := by
      rcases hfine with h | h
      · have := congrArg List.length h; simp at this; omega
      · have := List.length_pos_iff.2 h.1; simpa using this
    obtain ⟨b, off, rfl, hb, hc⟩ := hrd 0 hK0
    clear ih hst hrd
    rcases hfine with hend | ⟨_, hmore⟩
    · have hk0 : K[0].length = d := by
        have h1 := hd K[0] (List.getElem_mem hK0)
        have h2 : K[0].drop d = [] := by
          have : (K.map (·.drop d))[0]? = some [] := by rw [hend]; rfl
          rw [List.getElem?_map, List.getElem?_eq_getElem hK0] at this
          simpa using this
        have := congrArg List.length h2
        rw [List.length_drop, List.length_nil] at this
        omega
      obtain ⟨x, hx⟩ : ∃ x, K[0] = x := ⟨_, rfl⟩
      rw [hx] at hc hk0
      have hc2 : w.cell? ⟨b, off, none⟩ = some (.string ⟨x.toArray⟩) := hc
      have HA := hide (padd [] (.slice none 0 0) B tab w ⟨none, 0, rfl, fun j h => absurd h (Nat.not_lt_zero _)⟩ HST.out (by simp) (by simp) (by omega))
      have HE : Hid (Sx.edgF (n + 1) tab (K.map (·.drop d)) = addE tab []) := hide (by rw [edgF_addE, hend]; rfl)
      have hxl : (⟨x.toArray⟩ : ByteArray).size = d := hk0
      clear hx hend hd hbd hok hc
      go_enter Tryz.func81, Tryz.ntmps81
      go_wp2_with fail
      refine HA.out.mono ?_
      rintro e w1 ⟨hB1, hE1, rfl, hst1⟩
      go_wp2
      go_ret
      rw [HE.out]
      exact ⟨hB1, hE1, rfl, hst1⟩
    · have hdd : ∀ k ∈ K, d < k.length := by
        intro k hk
        have h1 := hmore (k.drop d) (List.mem_map.2 ⟨k, hk, rfl⟩)
        have h2 := List.length_pos_iff.2 h1
        rw [List.length_drop] at h2
        omega
      have hk0 : d < K[0].length := hdd _ (List.getElem_mem hK0)
      have hsum : tab.length + ((Sx.grp (K.map (·.drop d))).map fun g => Sx.sl g.2 + 1).sum ≤ 50000 := by
        have := Sx.grp_sum _ hmore
        omega
      obtain ⟨x, hx⟩ : ∃ x, K[0] = x := ⟨_, rfl⟩
      rw [hx] at hc hk0
      have hc2 : w.cell? ⟨b, off, none⟩ = some (.string ⟨x.toArray⟩) := hc
      have hxl : (⟨x.toArray⟩ : ByteArray).size = x.length := rfl
      have hne0 : ¬ (x.length : Int) = (d : Int) := by omega
      have hne1 : ((x.length : Int) == (d : Int)) = false := by simp; omega
      obtain ⟨GR, hGR⟩ : ∃ GR, (Sx.grp (K.map (·.drop d))).foldl (Sx.edgE n) (tab, []) = GR := ⟨_, rfl⟩
      have HE : Hid (Sx.edgF (n + 1) tab (K.map (·.drop d)) = addE GR.1 GR.2) := hide (by rw [edgF_addE, hGR])
      have HGR := hide hGR
      have HDD := hide hdd
      have HSUM := hide hsum
      clear hx hd hbd hok hc hmore hdd hsum hGR
      go_enter Tryz.func81, Tryz.ntmps81
      go_wp2_with fail
      go_loopw [2, 7] (fun kv ev wr => ∃ (R : List (List UInt8)) (tabi : List (List Sx.Edg)) (es : List Sx.Edg), KyAt wr B kv R ∧ wr.ownsRow w.heap.size 185 2 ev es.length (edV es) ∧ (Sx.grp (R.map (·.drop d))).foldl (Sx.edgE n) (tabi, es) = GR ∧ (∀ g ∈ Sx.grp (R.map (·.drop d)), Sx.OkF n g.2) ∧ (∀ k ∈ R, d < k.length) ∧ StA wr B tabi ∧ tabi.length + ((Sx.grp (R.map (·.drop d))).map fun g => Sx.sl g.2 + 1).sum ≤ 50000 ∧ es.length + R.length ≤ 1000 ∧ (∀ e ∈ es, e.2 < tabi.length) ∧ Below B w wr ∧ KeepE w wr) (fun kv _ _ => slLen kv)
      case atStart => exact ⟨K, tab, [], HV.out, World.ownsRow_nil _ _ _ _, HGR.out, HG.out, HDD.out, HST.out, HSUM.out, by simpa using hKl, by simp, Below.refl _ _, KeepE.refl _⟩
      case round =>
        obtain ⟨R, tabi, es, hky, hown, hfold, hg, hdd, hst, hsum, hlen, hto, hB, hE⟩ := hrel
        have HKY := hide hky
        have HST := hide hst
        have HB := hide hB
        have HE2 := hide hE
        have HTO := hide hto
        have hsz := hB.size
        have hsb := hst.siz
        obtain ⟨p, cp, rfl, hcp, hcpm, hrd⟩ := hky
        clear hst hB hE hto hc2 hne0 hne1 hk0 hxl
        by_cases hR : 0 < R.length
        · obtain ⟨c, m, hm0, hm, h1, h2, hgrp⟩ := block_keys R d hdd hR
          obtain ⟨b2, off2, rfl, hb2, hcc⟩ := hrd 0 hR
          have hd0 := hdd R[0] (List.getElem_mem hR)
          have hx0 := h1 0 hR hd0 hm0
          obtain ⟨y, hy⟩ : ∃ y, R[0] = y := ⟨_, rfl⟩
          simp only [hy] at hcc hd0 hx0
          have hc3 : wr.cell? ⟨b2, off2, none⟩ = some (.string ⟨y.toArray⟩) := hcc
          have hgt : ∀ h : d < (⟨y.toArray⟩ : ByteArray).size, (⟨y.toArray⟩ : ByteArray)[d]'h = c := fun h => hx0
          have hyl : (⟨y.toArray⟩ : ByteArray).size = y.length := rfl
          have HCW := hide (pcw c d m R B (.slice (some ⟨b2, off2, none⟩) R.length cp) wr HKY.out hdd hm h1 h2 (by omega))
          have hkyt : KyAt wr B (.slice (some ⟨b2, off2, none⟩) m cp) (R.take m) := by
            refine ⟨some ⟨b2, off2, none⟩, cp, by rw [List.length_take, Nat.min_eq_left hm], by rw [List.length_take]; omega, hcpm, fun j hj => ?_⟩
            rw [List.length_take] at hj
            obtain ⟨b3, o3, e1, e2, e3⟩ := hrd j (by omega)
            exact ⟨b3, o3, e1, e2, by rw [List.getElem_take]; exact e3⟩
          have hokb : Sx.OkF n ((R.take m).map (·.drop (d + 1))) := hg (c, (R.take m).map (·.drop (d + 1))) (by rw [hgrp]; simp)
          have hsum2 := hsum
          rw [hgrp, List.map_cons, List.sum_cons] at hsum2
          dsimp only at hsum2
          have hfold2 := hfold
          rw [hgrp, List.foldl_cons] at hfold2
          have hg2 : ∀ g ∈ Sx.grp ((R.drop m).map (·.drop d)), Sx.OkF n g.2 := fun g hgm => hg g (by rw [hgrp]; exact List.mem_cons_of_mem _ hgm)
          have hrec := IH.out (R.take m) (d + 1) (.slice (some ⟨b2, off2, none⟩) m cp) tabi wr hkyt (fun k hk => hdd k (List.mem_of_mem_take hk)) (by omega) hokb HST.out (by omega) (by rw [List.length_take]; omega)
          have hel := Sx.edgF_len n tabi ((R.take m).map (·.drop (d + 1))) hokb HST.out.ok
          obtain ⟨q, hq⟩ : ∃ q, Sx.edgF n tabi ((R.take m).map (·.drop (d + 1))) = q := ⟨_, rfl⟩
          rw [hq] at hrec hel
          have hfold3 : (Sx.grp ((R.drop m).map (·.drop d))).foldl (Sx.edgE n) (q.1, es ++ [(c, q.2)]) = GR := by
            rw [← hfold2]
            unfold Sx.edgE
            rw [hq]
          obtain ⟨S2, hS2⟩ : ∃ S2, ((Sx.grp ((R.drop m).map (·.drop d))).map fun g => Sx.sl g.2 + 1).sum = S2 := ⟨_, rfl⟩
          rw [hS2] at hsum2
          obtain ⟨S1, hS1⟩ : ∃ S1, Sx.sl ((R.take m).map (·.drop (d + 1))) = S1 := ⟨_, rfl⟩
          rw [hS1] at hsum2 hel
          have hq1 : q.1.length + S2 ≤ 50000 := by omega
          have hq2 := hel.2.2.1
          have hq0 := hel.1
          have hdr2 : (R.drop m).length = R.length - m := List.length_drop
          rw [show ((d + 1 : Nat) : Int) = (d : Int) + 1 from by omega] at hrec
          have HREC := hide hrec
          have HF3 := hide hfold3
          have HG2 := hide hg2
          have HS2 := hide hS2
          have HDR : Hid (∀ k ∈ R.drop m, d < k.length) := hide (fun k hk => hdd k (List.mem_of_mem_drop hk))
          have HRD := hide hrd
          have HLEN := hide hlen
          clear hrec hfold3 hg2 hS2 hS1 hfold2 hfold hq hel hsum hsum2 hgrp hkyt hokb hcc hx0 hy h1 h2 hg hdd hrd HG HGR HDD HSUM HV hdr2 hlen
          obtain ⟨N, hN⟩ : ∃ N, R.length = N := ⟨_, rfl⟩
          rw [hN] at HCW hcp hm hR ⊢
          have HN := hide hN
          clear hN
          have hNl : N ≤ 1000 := by have := HLEN.out; have := HN.out; omega
          obtain ⟨ep, ec, hev⟩ := own_shapeK hown
          subst hev
          go_wp2_with fail
          refine HCW.out.mono ?_
          rintro e w1 ⟨rfl, rfl⟩
          go_wp2_with fail
          refine HREC.out.mono ?_
          rintro e w2 ⟨hB2, hE2, rfl, hst2⟩
          have hown2 := hE2.own hown
          have hs2 := hE2.1
          have hesl : es.length ≤ 1000 := by have := HLEN.out; omega
          obtain ⟨ix, hix⟩ : ∃ ix, q.2 = ix := ⟨_, rfl⟩
          rw [hix] at hq2 HF3 ⊢
          have HB2 := hide hB2
          have HST2 := hide hst2
          have HEE := hide hE2
          clear hB2 hst2 hE2 hown hix HREC HCW
          go_wp2_with (at_builtin; go_must (refine wpList_append_lies _ rfl _ _ _ rfl w.heap.size 185 i0 (.agg #[.int .u8 0, .int .i64 0]) 2 16 Tryz.underlying143 hi hz0 hz1 hz2 rfl (by decide) _ _ _ rfl (hown2.alloc _) ⟨_, 0, none⟩ 1 1 [.int .u8 c.toNat, .int .i64 ix] rfl rfl (cell2_at _ _ _ _ _ rfl) (by simp [Value.oneCell']) (by omega) (by unfold maxLen; omega) (by omega) (by simp; omega) _ rfl ?_))
          intro g6 cap6 w6 hown6 hgrow6 hat6 hlt6
          have hgr : ∀ r, (Value.slice ep es.length ec).ownBlock = some r → w.heap.size ≤ r := fun r e => (hown2.lt r e).1
          have hBx : Below B w w6 := ((HB.out.trans HB2.out).alloc (by omega) _).grown hgrow6 (by rw [World.size_alloc]; omega) (fun r e => by have := hgr r e; omega)
          have hKx : KeepE w w6 := ((HE2.out.trans HEE.out).trans (KeepE.below ((Below.refl _ _).alloc (Nat.le_refl _) _))).later hgrow6 hgr
          have hSx : StA w6 B q.1 := (HST2.out.below ((Below.refl _ _).alloc (Nat.le_refl _) _)).grownE hgrow6 (fun r e => own_block (hown2.alloc _) r e)
          have hown7 : w6.ownsRow w.heap.size 185 2 (.slice (some ⟨g6, 0, none⟩) (es.length + 1) cap6) (es ++ [(c, ix)]).length (edV (es ++ [(c, ix)])) := by
            rw [edV_app, List.length_append]
            exact hown6
          have hto7 : ∀ e ∈ es ++ [(c, ix)], e.2 < q.1.length := fun e he => by
            rcases List.mem_append.1 he with he | he
            · have := HTO.out e he; omega
            · rw [List.mem_singleton.1 he]; exact hq2
          have hky7 : ∀ o2, (m < N → o2 = off2 + m) → KyAt w6 B (.slice (some ⟨b2, o2, none⟩) (N - m) (cp - m)) (R.drop m) := by
            intro o2 ho2
            refine ⟨some ⟨b2, o2, none⟩, cp - m, by rw [List.length_drop, HN.out], by rw [List.length_drop, HN.out]; omega, by omega, fun j hj => ?_⟩
            rw [List.length_drop, HN.out] at hj
            obtain ⟨b3, o3, e1, e2, e3⟩ := HRD.out (m + j) (by rw [HN.out]; omega)
            obtain ⟨rfl, rfl⟩ : b2 = b3 ∧ off2 = o3 := by injection e1 with e1; injection e1 with e1 e2; exact ⟨e1, e2⟩
            refine ⟨b2, o2, rfl, e2, ?_⟩
            rw [ho2 (by omega), List.getElem_drop, Nat.add_assoc]
            have := (((HB2.out.alloc (by omega) _).grown hgrow6 (by rw [World.size_alloc]; omega) (fun r e => by have := hgr r e; omega)).cell (p := ⟨b2, off2 + (m + j), none⟩) e2).trans e3
            exact this
          have HKY7 := hide hky7
          have HBX := hide hBx
          have HKX := hide hKx
          have HSX := hide hSx
          have HOWN7 := hide hown7
          have HTO7 := hide hto7
          have HCNT : Hid ((es ++ [(c, ix)]).length + (R.drop m).length ≤ 1000) := hide (by have := HLEN.out; rw [List.length_append, List.length_singleton, List.length_drop]; omega)
          clear hgrow6 hown6 hat6 hown7 hto7 hky7 hSx hKx hBx hgr hown2 HKY HRD
          by_cases hcm2 : m = cp
          · have hmN : N = m := by omega
            subst hcm2
            subst hmN
            go_wp2
            exact ⟨⟨R.drop N, q.1, es ++ [(c, ix)], by have := HKY7.out off2 (fun h => absurd h (Nat.lt_irrefl _)); rw [Nat.sub_self] at this; exact this, HOWN7.out, HF3.out, HG2.out, HDR.out, HSX.out, by rw [HS2.out]; exact hq1, HCNT.out, HTO7.out, HBX.out, HKX.out⟩, by simp [slLen]; omega⟩
          · have hlt2 : m < cp := by omega
            go_wp2
            exact ⟨⟨R.drop m, q.1, es ++ [(c, ix)], HKY7.out _ (fun _ => rfl), HOWN7.out, HF3.out, HG2.out, HDR.out, HSX.out, by rw [HS2.out]; exact hq1, HCNT.out, HTO7.out, HBX.out, HKX.out⟩, by simp [slLen]; omega⟩
        · have hR0 : R = [] := List.eq_nil_of_length_eq_zero (by omega)
          subst hR0
          have hfold2 : (tabi, es) = GR := hfold
          have HA := hide (padd es _ B tabi wr (edAt_own hown) HST.out (by omega) HTO.out (by omega))
          have HF := hide hfold2
          obtain ⟨ep, ec, hev⟩ := own_shapeK hown
          subst hev
          clear hfold hfold2 hrd hown hg hdd hsum HKY HDD HSUM HV HG HGR
          simp only [List.length_nil] at hcp hR ⊢
          go_wp2_with fail
          refine HA.out.mono ?_
          rintro e w1 ⟨hB1, hE1, rfl, hst1⟩
          go_wp2
          go_ret
          rw [HE.out, ← HF.out]
          exact ⟨HB.out.trans hB1, HE2.out.trans hE1, rfl, hst1⟩
end Go.Proofs.YtgohllfpceeboabGreatDoor
namespace Go.Proofs.YtgohllfpceeboabGreatDoor
open Go.RowKit Go.Maps
theorem two_ownP (w : World) (n : Nat) (h : n < 65536) : (w.alloc (.cells #[.int .u8 ((n : Int) / 256), .int .u8 ((n : Int) % 256)] 5)).ownsRow w.heap.size 5 1 (.slice (some ⟨w.heap.size, 0, none⟩) 2 2) 2 (byV (Sx.two n)) := by
  refine ⟨by simp [byV, Sx.two], .inr ⟨w.heap.size, 2, #[.int .u8 ((n : Int) / 256), .int .u8 ((n : Int) % 256)], rfl, Nat.le_refl _, heap_alloc_new _ _, by omega, by unfold maxLen; omega, rfl, ?_⟩⟩
  rw [byV_two n h]; rfl
theorem ptwoB (n : Nat) (w : World) (hn : n < 65536) : Calls Tryz.prog 127 #[.int .i64 n] w fun e w' => e = .returned (.slice (some ⟨w.heap.size, 0, none⟩) 2 2) ∧ w'.ownsRow w.heap.size 5 1 (.slice (some ⟨w.heap.size, 0, none⟩) 2 2) 2 (byV (Sx.two n)) ∧ Below w.heap.size w w' := by
  refine (ptwo n w hn).mono ?_
  rintro e w' ⟨rfl, rfl⟩
  exact ⟨rfl, two_ownP w n hn, (Below.refl _ _).alloc (Nat.le_refl _) _⟩
theorem step_len {H : Type} {P : Program} {w : World} {ops : Array Oper} {o : Oper} {a : Act} {K : Act → World → Prop} {Q : Exit → Act → World → Prop} {E : Prop} (hgd : o.guard = none) (m : Operand) (t : TypeId) (hop : o.op = Op.call { callee := Callee.builtin Builtin.len, args := #[m], argTypes := #[t] })
    (k e : TypeId) (ht : P.underlying t = some (.map k e)) (R : Value → Option (DataW H × List MemPlace)) (b n : Nat) (D : DataW H) (hm : a.eval m = .map (some b)) (hown : w.ownsMap P k R b n D) (N : Nat) (hN : Maps.size D = N)
    (hK : K (a.put o.dst (.int .i64 N)) w) :
    if Region.wanted o (yielded ops a.tmps) = true then Oper.wp P o a w K Q else E := by
  have hw : Region.wanted o (yielded ops a.tmps) = true := by simp [Region.wanted, hgd]
  rw [if_pos hw]
  subst hN
  unfold Oper.wp
  simp [execOp, hop, resolve, invoke, builtin, hm, hown.len ht o.type, Result.andThen]
  exact hK
theorem step_append_nothing {P : Program} {w : World} {ops : Array Oper} {o : Oper} {a : Act} {K : Act → World → Prop} {Q : Exit → Act → World → Prop} {E : Prop} (hgd : o.guard = none) (s x : Operand) (t : TypeId)
    (ho : o.op = .call { callee := .builtin .append, args := #[s, x], argTypes := #[t, t] })
    (e : TypeId) (i : TypeInfo) (ht : P.underlying t = some (.slice e)) (hi : P.info? e = some i)
    (v : Value) (hs : a.eval s = v) (hx : a.eval x = .slice none 0 0) (hv : v = .slice none 0 0 ∨ ∃ g n cap, v = .slice (some ⟨g, 0, none⟩) n cap ∧ n ≤ cap)
    (h : K (a.put o.dst v) w) : if Region.wanted o (yielded ops a.tmps) = true then Oper.wp P o a w K Q else E := by
  have hw : Region.wanted o (yielded ops a.tmps) = true := by simp [Region.wanted, hgd]
  rw [if_pos hw]
  have hr := run_append_nothing (P := P) w t o.type e i ht hi v hv
  unfold Oper.wp execOp
  simp only [ho, resolve, invoke, builtin, Sem.run_bind, Sem.run_pure, Result.andThen_ok, List.map_toArray, List.map_cons, List.map_nil, hs, hx, hr]
  exact h
theorem far_box {w w' : World} {b : Nat} {cs : Array Value} {t : TypeId} {fr : Nat × Nat} (hb : Below w.heap.size w w') (h : w.heap[b]? = some (.cells cs t fr)) : w'.heap[b]? = some (.cells cs t fr) := (hb.block b (Array.getElem?_eq_some_iff.1 h).1).trans h
set_option maxRecDepth 100000 in
set_option maxHeartbeats 1000000 in
/-- (*automaton.states).image -/
theorem psimg (B : Nat) (tab : List (List Sx.Edg)) (w : World) (hst : StA w B tab) (hn : tab.length ≤ 60000) : Calls Tryz.prog 82 #[.pointer (some ⟨B + 1, 0, none⟩)] w fun e w' => e = .returned (.string ⟨(Sx.imgT tab).toArray⟩) ∧ Below w.heap.size w w' := by
  obtain ⟨i2, hi2, hx0, hx1, hx2⟩ := info_parts Tryz.info5
  have hsb := hst.siz
  obtain ⟨⟨D, hown, hD⟩, ⟨tv, hbox, hrow, hnil⟩, hlen, _⟩ := hst
  have hsiz := hD.size
  have c0 : w.cell? ⟨B + 1, 0, none⟩ = some (.map (some B)) := by simp [World.cell?, hbox]
  have c1 : w.cell? ⟨B + 1, 1, none⟩ = some tv := by simp [World.cell?, hbox]
  have hcc : ∀ w', Below w.heap.size w w' → w'.cell? ⟨B + 1, 0, none⟩ = some (.map (some B)) ∧ w'.cell? ⟨B + 1, 1, none⟩ = some tv := fun w' hb => by
    have hbx := far_box hb hbox
    exact ⟨by simp [World.cell?, hbx], by simp [World.cell?, hbx]⟩
  have hFb := tell_bound tab hn hlen
  have htw := fun w => ptwoB tab.length w (by omega)
  obtain ⟨F, hF⟩ : ∃ F, tab.flatMap Sx.tellE = F := ⟨_, rfl⟩
  rw [hF] at hrow hFb
  have HI : Hid (Sx.imgT tab = Sx.two tab.length ++ F) := hide (by unfold Sx.imgT; rw [hF])
  obtain ⟨N, hN⟩ : ∃ N, tab.length = N := ⟨_, rfl⟩
  rw [hN] at hn hown hsiz htw HI
  obtain ⟨T2, hT2⟩ : ∃ T2, Sx.two N = T2 := ⟨_, rfl⟩
  rw [hT2] at htw HI
  have HTW := hide htw
  have HCC := hide hcc
  by_cases ht : tab = []
  · have htv := hnil ht
    subst htv
    have hF0 : F = [] := by rw [← hF, ht]; rfl
    subst hF0
    clear hF hlen hnil hrow hbox hN hD ht htw hT2 hcc
    go_enter Tryz.func82, Tryz.ntmps82
    go_wp2
    go_region_held_law (fun w' => w'.cell? ⟨B + 1, 0, none⟩ = some (.map (some B)) ∧ w'.cell? ⟨B + 1, 1, none⟩ = some (.slice none 0 0)) (first | exact hS1 | go_keep) (first | (refine step_len rfl _ 179 rfl 9 3 Tryz.underlying179 _ B _ D rfl hown N hsiz ?_) | (go_at_call 127; refine (HTW.out _).mono ?_; rintro e w1 ⟨rfl, ho1, hB1⟩; have hBw : Below w.heap.size w w1 := ((Below.refl _ w).drew).trans hB1; have hS1 := HCC.out w1 hBw; have hcv : (convert 90 9 (.slice (some ⟨w.heap.size, 0, none⟩) 2 2)).run Tryz.prog w1 = .ok (.string ⟨T2.toArray⟩) w1 := own_string ho1) | (refine step_append_nothing rfl _ _ _ rfl 5 i2 Tryz.underlying90 hi2 _ rfl rfl (.inr ⟨_, _, _, rfl, by omega⟩) ?_))
    all_goals (go_wp2; go_ret; rw [HI.out, List.append_nil]; exact ⟨rfl, hBw⟩)
  · have hF0 : 0 < F.length := by
      rw [← hF]
      obtain ⟨x, r, rfl⟩ := List.exists_cons_of_ne_nil ht
      simp [Sx.tellE]
    have htv : ∃ g cap, tv = .slice (some ⟨g, 0, none⟩) F.length cap := by
      rcases hrow.2 with ⟨_, h2⟩ | ⟨g, cap, cur, h1, _⟩
      · omega
      · exact ⟨g, cap, h1⟩
    obtain ⟨g, cap, rfl⟩ := htv
    have hcs : ∀ w', Below w.heap.size w w' → ∀ j u, (byV F)[j]? = some u → w'.cell? ((⟨g, 0, none⟩ : Addr).add j) = some u := fun w' hb => (own_later hrow hb).cells (g := g) rfl
    have hbl : (byV F).length = F.length * 1 := by unfold byV; simp
    have h1c : ∀ u ∈ byV F, u.oneCell' = true := by
      intro u hu
      unfold byV at hu
      obtain ⟨x, _, rfl⟩ := List.mem_map.1 hu
      rfl
    obtain ⟨Z, hZ⟩ : ∃ Z, F.length = Z := ⟨_, rfl⟩
    rw [hZ] at hF0 hFb c1 hbl hrow HCC
    have HFN : Hid (byV T2 ++ byV F = byV (T2 ++ F)) := hide (byV_app _ _).symm
    have HCS := hide hcs
    have hlt : B + 1 < w.heap.size := by omega
    clear hF hlen hnil hrow hbox hN hD ht htw hT2 hcc hcs hZ
    go_enter Tryz.func82, Tryz.ntmps82
    go_wp2
    go_region_held_law (fun w' => w'.cell? ⟨B + 1, 0, none⟩ = some (.map (some B)) ∧ w'.cell? ⟨B + 1, 1, none⟩ = some (.slice (some ⟨g, 0, none⟩) Z cap)) (first | exact hS6 | exact hS1 | go_keep) (first | (refine step_len rfl _ 179 rfl 9 3 Tryz.underlying179 _ B _ D rfl hown N hsiz ?_) | (go_at_call 127; refine (HTW.out _).mono ?_; rintro e w1 ⟨rfl, ho1, hB1⟩; have hBw : Below w.heap.size w w1 := ((Below.refl _ w).drew).trans hB1; have hS1 := HCC.out w1 hBw; have hsw : w.heap.size ≤ w1.heap.size := hBw.size) | (refine step_append_lies _ rfl _ _ _ rfl w.heap.size 5 i2 (.int .u8 0) 1 1 Tryz.underlying90 hi2 hx0 hx1 hx2 rfl (by decide) _ 2 (byV T2) rfl ho1 ⟨g, 0, none⟩ Z cap (byV F) rfl hbl (HCS.out _ hBw) h1c hF0 (by unfold maxLen; omega) (by omega) hsw _ rfl ?_; intro g6 cap6 w6 hown6 hgrow6 hat6 hlt6; rw [HFN.out] at hown6; have hcv : (convert 90 9 (.slice (some ⟨g6, 0, none⟩) (2 + Z) cap6)).run Tryz.prog w6 = .ok (.string ⟨(T2 ++ F).toArray⟩) w6 := own_string hown6; have hB6 : Below w.heap.size w w6 := hBw.grown hgrow6 hsw (fun r e => (ho1.lt r e).1); have hS6 := HCC.out w6 hB6))
    all_goals (go_wp2; go_ret; rw [HI.out]; exact ⟨rfl, hB6⟩)
end Go.Proofs.YtgohllfpceeboabGreatDoor
namespace Sx
theorem merge_sortW (l : List Wd) (hn : l.Nodup) : l.mergeSort (fun x y => decide (x ≤ y)) = sortW l := by
  have hle : ∀ a b : Wd, a ≤ b ↔ ¬ b < a := fun a b => Iff.rfl
  have hp : (l.mergeSort (fun x y => decide (x ≤ y))).Perm l := List.mergeSort_perm l _
  have hs : (l.mergeSort (fun x y => decide (x ≤ y))).Pairwise (fun a b => decide (a ≤ b) = true) := by
    apply List.pairwise_mergeSort
    · intro a b c h1 h2
      simp only [decide_eq_true_eq, hle] at h1 h2 ⊢
      intro h3
      rcases wlt_tri b a h1 with e | e
      · subst e; exact h2 h3
      · exact h2 (wlt_trans h3 e)
    · intro a b
      simp only [Bool.or_eq_true, decide_eq_true_eq, hle]
      by_cases h : b < a
      · exact .inr (wlt_asym _ _ h)
      · exact .inl h
  refine sortW_one l _ hn ?_ (fun y => hp.mem_iff)
  have hn2 : (l.mergeSort (fun x y => decide (x ≤ y))).Nodup := hp.nodup_iff.2 hn
  refine (hs.and hn2).imp ?_
  rintro a b ⟨h1, h2⟩
  simp only [decide_eq_true_eq, hle] at h1
  rcases wlt_tri b a h1 with e | e
  · exact absurd e.symm h2
  · exact e
end Sx
namespace Go.Proofs.YtgohllfpceeboabGreatDoor
open Go.RowKit Go.Maps
/-- automaton.newStates -/
theorem pnst (w : World) : Calls Tryz.prog 80 #[] w fun e w' => e = .returned (.pointer (some ⟨w.heap.size + 1, 0, none⟩)) ∧ StA w' w.heap.size [] ∧ Below w.heap.size w w' := by
  have hmm := @run_makeMap Tryz.prog
  go_enter Tryz.func80, Tryz.ntmps80
  go_wp2
  go_ret
  refine ⟨rfl, ⟨⟨.map [], (World.ownsMap_made _ _ _ _).alloc _, mapIs_nil⟩, ⟨.slice none 0 0, ?_, World.ownsRow_nil _ _ _ _, fun _ => rfl⟩, by simp, by simp⟩, ((Below.refl _ _).alloc (Nat.le_refl _) _).alloc (by rw [World.size_alloc]; exact Nat.le_succ _) _⟩
  have := heap_alloc_new (w.alloc (.map #[] 0)) (.cells #[.map (some w.heap.size), .slice none 0 0] 181)
  rw [World.size_alloc] at this
  exact this
theorem nil_neq (g n cap : Nat) (w : World) : (binOp BinOp.eql 51 (.slice (some ⟨g, 0, none⟩) n cap) (.slice none 0 0)).run Tryz.prog w = .ok (.bool false) w := by
  exact Lib.run_eql_slice_nil _ _ _ _ _ _ _ _ Tryz.underlying51
set_option maxRecDepth 100000 in
set_option maxHeartbeats 1000000 in
/-- slices.Clone of keys -/
theorem pclone (K : List (List UInt8)) (B : Nat) (v : Value) (w : World) (hv : w.ownsRow B 9 1 v K.length (stV K)) (hK : 0 < K.length) (hl : K.length ≤ 1000) : Calls Tryz.prog 78 #[v] w fun e w' => (∃ g cap, e = .returned (.slice (some ⟨g, 0, none⟩) K.length cap) ∧ w'.ownsRow w.heap.size 9 1 (.slice (some ⟨g, 0, none⟩) K.length cap) K.length (stV K)) ∧ Below w.heap.size w w' := by
  obtain ⟨i0, hi, hz0, hz1, hz2⟩ := info_parts Tryz.info9
  obtain ⟨g, cap, rfl, hgl⟩ : ∃ g cap, v = .slice (some ⟨g, 0, none⟩) K.length cap ∧ g < w.heap.size := by
    rcases hv.2 with ⟨_, h2⟩ | ⟨g, cap, cur, h1, h2, h3, h4⟩
    · omega
    · exact ⟨g, cap, h1, (Array.getElem?_eq_some_iff.1 h3).1⟩
  have hcs : ∀ w', Below w.heap.size w w' → ∀ j u, (stV K)[j]? = some u → w'.cell? ((⟨g, 0, none⟩ : Addr).add j) = some u := fun w' hb => (own_later hv hb).cells (g := g) rfl
  have hbl : (stV K).length = K.length * 1 := by unfold stV; simp
  have h1c : ∀ u ∈ stV K, u.oneCell' = true := by
    intro u hu
    unfold stV at hu
    obtain ⟨x, _, rfl⟩ := List.mem_map.1 hu
    rfl
  have HCS := hide hcs
  obtain ⟨N, hN⟩ : ∃ N, K.length = N := ⟨_, rfl⟩
  rw [hN] at hbl hK hl ⊢
  have hneq := nil_neq g N cap
  have how : (w.alloc (.cells #[] 9)).ownsRow w.heap.size 9 1 (.slice (some ⟨w.heap.size, 0, none⟩) 0 0) 0 [] := ⟨rfl, .inr ⟨w.heap.size, 0, #[], rfl, Nat.le_refl _, heap_alloc_new _ _, Nat.le_refl _, Nat.zero_le _, rfl, rfl⟩⟩
  have hB0 : Below w.heap.size w (w.alloc (.cells #[] 9)) := (Below.refl _ _).alloc (Nat.le_refl _) _
  clear hcs hv hN
  go_enter Tryz.func78, Tryz.ntmps78
  go_wp2_with (at_builtin; go_must (refine wpList_append_lies _ rfl _ _ _ rfl w.heap.size 9 i0 (.string ⟨#[]⟩) 1 16 Tryz.underlying51 hi hz0 hz1 hz2 rfl (by decide) _ _ _ rfl how ⟨g, 0, none⟩ _ _ (stV K) rfl hbl (HCS.out _ hB0) h1c (by omega) (by unfold maxLen; omega) (by omega) (by rw [World.size_alloc]; omega) _ rfl ?_))
  intro g6 cap6 w6 hown6 hgrow6 hat6 hlt6
  have hB6 : Below w.heap.size w w6 := hB0.grown hgrow6 (by rw [World.size_alloc]; omega) (fun r e => (how.lt r e).1)
  clear hgrow6 hat6
  go_wp2
  go_ret
  exact ⟨⟨g6, cap6, rfl, hown6⟩, hB6⟩
theorem ky_own {w : World} {B H : Nat} {g cap : Nat} {K : List (List UInt8)} (h : w.ownsRow B 9 1 (.slice (some ⟨g, 0, none⟩) K.length cap) K.length (stV K)) (hH : g < H) : KyAt w H (.slice (some ⟨g, 0, none⟩) K.length cap) K := by
  rcases h.2 with ⟨e0, _⟩ | ⟨g', cap', cur, e0, hb, hg, hn, hm, _⟩
  · cases e0
  · cases e0
    refine ⟨_, _, rfl, hn, hm, fun j hj => ⟨g, 0, rfl, hH, ?_⟩⟩
    have := h.cells (g := g) rfl j (.string ⟨K[j].toArray⟩) (by unfold stV; rw [List.getElem?_map, List.getElem?_eq_getElem hj]; rfl)
    rw [Addr.add_lit] at this
    exact this
/-- What the library's sort leaves: the row sorted, all else as it was. -/
theorem sorted_world {w : World} {g cap : Nat} {K Z : List (List UInt8)} {B nn : Nat} {os : Array Obj} (hv : w.ownsRow B 9 1 (.slice (some ⟨g, 0, none⟩) K.length cap) K.length (stV K)) (hB : B ≤ w.heap.size) (hZ : Z.length = K.length) :
    Below B w (Go.Sort.grow (Go.Sort.putRow encStr (Go.Sort.ahead w nn) g 0 Z.toArray) os) ∧ KyAt (Go.Sort.grow (Go.Sort.putRow encStr (Go.Sort.ahead w nn) g 0 Z.toArray) os) w.heap.size (.slice (some ⟨g, 0, none⟩) K.length cap) Z := by
  have hgl : g < w.heap.size := (hv.lt g rfl).2
  refine ⟨(Below.refl B w).grown (grownBy_sorted _) hB (fun r e => by cases e; exact (hv.lt g rfl).1), ?_⟩
  rcases hv.2 with ⟨e0, _⟩ | ⟨g', cap', cur, e0, hb, hg, hn, hm, hs, ht⟩
  · cases e0
  · cases e0
    have h2 := ownsRow_sorted (n := nn) (os := os) hZ hb hg hn hm hs
    rw [← hZ] at h2 ⊢
    exact ky_own h2 hgl
theorem holds_own {w : World} {g cap : Nat} {K : List (List UInt8)} {B : Nat} (hv : w.ownsRow B 9 1 (.slice (some ⟨g, 0, none⟩) K.length cap) K.length (stV K)) : Go.Sort.Holds encStr w g 0 K.toArray := by
  rcases hv.2 with ⟨e0, _⟩ | ⟨g', cap', cur, e0, hb, hg, hn, hm, hs, ht⟩
  · cases e0
  · cases e0
    exact holds_of_block hg (by rw [Nat.mul_one] at ht; exact ht)
set_option maxRecDepth 100000 in
set_option maxHeartbeats 1000000 in
/-- automaton.Image of keys -/
theorem pimage (K : List (List UInt8)) (B : Nat) (v : Value) (w : World) (hv : w.ownsRow B 9 1 v K.length (stV K)) (hK : 0 < K.length) (hl : K.length ≤ 100) (hnd : K.Nodup) (hok : Sx.OkF 64 (Sx.sortW K)) (hsl : Sx.sl (Sx.sortW K) ≤ 10000) :
    Calls Tryz.prog 51 #[v] w fun e w' => e = .returned (.string ⟨(Sx.imgT (Sx.edgF 64 [] (Sx.sortW K)).1).toArray⟩) ∧ Below w.heap.size w w' := by
  have HC := hide (pclone K B v w hv hK (by omega))
  obtain ⟨p, cap, rfl⟩ := own_shapeK hv
  clear hv
  go_enter Tryz.func51, Tryz.ntmps51
  go_wp2_with fail
  refine HC.out.mono ?_
  rintro e w1 ⟨⟨g, c1, rfl, hown⟩, hB1⟩
  have hs1 := hB1.size
  have hH : Go.Sort.Holds encStr w1 g 0 K.toArray := holds_own hown
  have hgl : g < w1.heap.size := (hown.lt g rfl).2
  have hso := Tryz.slices_Sort_string g 0 c1 K w1 hH hgl (by omega)
  rw [Sx.merge_sortW K hnd] at hso
  have hZl : (Sx.sortW K).length = K.length := by rw [← Sx.merge_sortW K hnd]; exact List.length_mergeSort _
  have hsw : ∀ nn os, Below w.heap.size w1 (Go.Sort.grow (Go.Sort.putRow encStr (Go.Sort.ahead w1 nn) g 0 (Sx.sortW K).toArray) os) ∧ KyAt (Go.Sort.grow (Go.Sort.putRow encStr (Go.Sort.ahead w1 nn) g 0 (Sx.sortW K).toArray) os) w1.heap.size (.slice (some ⟨g, 0, none⟩) K.length c1) (Sx.sortW K) := fun nn os => by
    exact sorted_world (nn := nn) (os := os) hown hs1 hZl
  have HSO := hide hso
  have HSW := hide hsw
  obtain ⟨Z, hZ⟩ : ∃ Z, Sx.sortW K = Z := ⟨_, rfl⟩
  have HZ := hide hZ
  rw [hZ] at HSO HSW hok hsl hZl
  clear hso hsw hZ hH hown
  go_wp2_with fail
  refine HSO.out.mono ?_
  rintro e w2 ⟨rfl, nn, os, hw2⟩
  obtain ⟨hB2, hky⟩ := HSW.out nn os
  rw [← hw2] at hB2 hky
  clear hw2 HSO HSW
  have hs2 := hB2.size
  have hBx := hB1.trans hB2
  have HKY := hide hky
  clear hky hB1 hB2
  go_wp2_with fail
  refine (pnst w2).mono ?_
  rintro e w3 ⟨rfl, hst, hB3⟩
  have hky3 : KyAt w3 w2.heap.size (.slice (some ⟨g, 0, none⟩) K.length c1) Z := (KyAt.below (by
    obtain ⟨p', c', e1, e2, e3, e4⟩ := HKY.out
    refine ⟨p', c', e1, e2, e3, fun j hj => ?_⟩
    obtain ⟨b, off, f1, f2, f3⟩ := e4 j hj
    exact ⟨b, off, f1, Nat.lt_of_lt_of_le f2 hs2, f3⟩) hB3)
  have hmap : Z.map (fun x => List.drop 0 x) = Z := by simp
  have hak := pak w2.heap.size 64 Z 0 _ [] w3 hky3 (fun k _ => Nat.zero_le _) (by omega) (by rw [hmap]; exact hok) hst (by rw [hmap]; simp only [List.length_nil]; omega) (by omega)
  rw [hmap] at hak
  have hel := Sx.edgF_len 64 [] Z hok (by intro es hes; cases hes)
  obtain ⟨q, hq⟩ : ∃ q, Sx.edgF 64 [] Z = q := ⟨_, rfl⟩
  rw [hq] at hak hel
  have HQ : Hid (Sx.edgF 64 [] (Sx.sortW K) = q) := hide (by rw [HZ.out]; exact hq)
  have HAK := hide hak
  have hB13 := hBx.trans (hB3.mono (by have := hBx.size; omega))
  have hs3 := hB3.size
  simp only [List.length_nil, Nat.zero_add] at hel
  have hql : q.1.length ≤ 60000 := by omega
  clear hak hq hmap hky3 hst hel HKY hB3 hBx
  obtain ⟨N, hN⟩ : ∃ N, K.length = N := ⟨_, rfl⟩
  rw [hN] at hK HAK ⊢
  go_wp2_with fail
  refine HAK.out.mono ?_
  rintro e w4 ⟨hB4, _, rfl, hst4⟩
  have hBy := hB13.trans (hB4.mono (by omega))
  have hs4 := hBy.size
  clear hB4 HAK hB13
  go_wp2_with fail
  refine (psimg _ q.1 w4 hst4 hql).mono ?_
  rintro e w5 ⟨rfl, hB5⟩
  have hBz := hBy.trans (hB5.mono hs4)
  clear hB5 hst4 hBy
  go_wp2
  go_ret
  rw [HQ.out]
  exact ⟨rfl, hBz⟩
/-- automaton.Image of no keys -/
theorem pimage0 (w : World) : Calls Tryz.prog 51 #[.slice none 0 0] w fun e w' => e = .returned (.string ⟨(Sx.imgT []).toArray⟩) ∧ Below w.heap.size w w' := by
  have hcl : ∀ w, Calls Tryz.prog 78 #[.slice none 0 0] w fun e w' => e = .returned (.slice none 0 0) ∧ w' = w := by
    intro w
    have hneq : ∀ w : World, (binOp BinOp.eql 51 (.slice none 0 0) (.slice none 0 0)).run Tryz.prog w = .ok (.bool true) w := fun w => Lib.run_eql_slice_nil _ _ _ _ _ _ _ _ Tryz.underlying51
    go_enter Tryz.func78, Tryz.ntmps78
    go_wp2
    go_ret
    exact ⟨rfl, rfl⟩
  have HCL := hide (hcl w)
  clear hcl
  go_enter Tryz.func51, Tryz.ntmps51
  go_wp2_with fail
  refine HCL.out.mono ?_
  rintro e w1 ⟨rfl, rfl⟩
  go_wp2_with fail
  refine (Tryz.slices_Sort_string_none none 0 _).mono ?_
  rintro e w2 ⟨rfl, rfl⟩
  go_wp2_with fail
  refine (pnst _).mono ?_
  rintro e w3 ⟨rfl, hst, hB3⟩
  go_wp2_with fail
  refine (psimg _ [] w3 hst (by simp)).mono ?_
  rintro e w5 ⟨rfl, hB5⟩
  have hBz := hB3.trans (hB5.mono hB3.size)
  clear hB5 hst hB3
  go_wp2
  go_ret
  exact ⟨rfl, hBz⟩
end Go.Proofs.YtgohllfpceeboabGreatDoor
namespace Go.Proofs.YtgohllfpceeboabGreatDoor
open Go.RowKit
theorem sl_le (l : List Sx.Wd) (M : Nat) (h : ∀ w ∈ l, w.length ≤ M) : Sx.sl l ≤ l.length * M := by
  induction l with
  | nil => simp [Sx.sl]
  | cons x r ih =>
    have h1 := ih (fun w hw => h w (by simp [hw]))
    have h2 := h x (by simp)
    have e : Sx.sl (x :: r) = x.length + Sx.sl r := by simp [Sx.sl]
    rw [e, List.length_cons, Nat.succ_mul]
    omega
set_option maxRecDepth 100000 in
set_option maxHeartbeats 1000000 in
/-- (suffix.ruleSet).image -/
theorem prsimg (rs : List Sx.Rl) (v : Value) (w : World) (hv : PrAt w v rs) (hok : Sx.RlsOk rs) : Calls Tryz.prog 24 #[v] w fun e w' => e = .returned (.string ⟨(Sx.imgT (Sx.tabOf rs)).toArray⟩) ∧ Below w.heap.size w w' := by
  obtain ⟨i0, hi, hz0, hz1, hz2⟩ := info_parts Tryz.info9
  obtain ⟨p, cap, rfl, hrd⟩ := hv
  have HRD := hide hrd
  have HOK := hide hok
  have hN := hok.many
  clear hrd hok
  go_enter Tryz.func24, Tryz.ntmps24
  go_wp2
  go_loopw [3, 8] (fun kv iv wr => ∃ k : Nat, iv = .int .i64 k ∧ k ≤ rs.length ∧ wr.ownsRow w.heap.size 9 1 kv k (stV ((rs.take k).map Sx.rlKey)) ∧ (k = 0 → kv = .slice none 0 0) ∧ Below w.heap.size w wr) (fun _ iv _ => (rs.length - intOf iv).toNat)
  case atStart => exact ⟨0, rfl, by omega, World.ownsRow_nil _ _ _ _, fun _ => rfl, Below.refl _ _⟩
  case round =>
    obtain ⟨k, rfl, hk, hown, hnil, hB⟩ := hrel
    have hsz := hB.size
    by_cases hlt : k < rs.length
    · obtain ⟨b, rfl, hb, c1, c2, c3, c4⟩ := HRD.out k hlt
      have d1 := (hB.cell (p := ⟨b, k * 4, none⟩) hb).trans c1
      have d2 := (hB.cell (p := ⟨b, k * 4 + 1, none⟩) hb).trans c2
      have d3 := (hB.cell (p := ⟨b, k * 4 + 2, none⟩) hb).trans c3
      have d4 := (hB.cell (p := ⟨b, k * 4 + 3, none⟩) hb).trans c4
      have hrl := HOK.out.ok rs[k] (List.getElem_mem hlt)
      have hkt : (rs.take (k + 1)).map Sx.rlKey = (rs.take k).map Sx.rlKey ++ [Sx.rlKey rs[k]] := by rw [List.take_succ_eq_append_getElem hlt, List.map_append]; rfl
      have hky := fun w => pkey rs[k] w hrl
      obtain ⟨⟨qh, qk, qs⟩, hq⟩ : ∃ q, rs[k] = q := ⟨_, rfl⟩
      rw [hq] at d1 d2 d3 d4 hkt hky
      have hra : ruA (qh, qk, qs) = .agg #[.int .u8 qk.toNat, .string ⟨(Sx.dotted qh).toArray⟩, .int .i64 qh.length, .int .u8 qs.toNat] := rfl
      rw [hra] at hky
      dsimp only at d1 d2 d3 d4
      obtain ⟨D, hD⟩ : ∃ D : ByteArray, ⟨(Sx.dotted qh).toArray⟩ = D := ⟨_, rfl⟩
      obtain ⟨N, hN2⟩ : ∃ N, qh.length = N := ⟨_, rfl⟩
      rw [hD] at d2 hky
      rw [hN2] at d3 hky
      obtain ⟨X, hX⟩ : ∃ X : ByteArray, ⟨(Sx.rlKey (qh, qk, qs)).toArray⟩ = X := ⟨_, rfl⟩
      rw [hX] at hky
      have hst : stV ((rs.take (k + 1)).map Sx.rlKey) = stV ((rs.take k).map Sx.rlKey) ++ [.string X] := by
        rw [hkt, stV_app]
        unfold stV
        rw [List.map_cons, List.map_nil, hX]
      have HST := hide hst
      have HKY := hide hky
      obtain ⟨kp, kc, rfl⟩ := own_shapeK hown
      clear c1 c2 c3 c4 hkt hky hra hD hN2 hX hq hrl hst hnil
      go_wp2_with fail
      refine (HKY.out _).mono ?_
      rintro e w2 ⟨rfl, hB2⟩
      have hBa : Below wr.heap.size wr w2 := ((Below.refl _ wr).alloc (Nat.le_refl _) _).trans (hB2.mono (by rw [World.size_alloc]; exact Nat.le_succ _))
      have hown2 := own_later hown hBa
      have hB3 := hB.trans (hBa.mono hsz)
      have hsz3 := hB3.size
      clear hB2 hBa hown hB
      go_wp2_with (at_builtin; go_must (refine wpList_append_lies _ rfl _ _ _ rfl w.heap.size 9 i0 (.string ⟨#[]⟩) 1 16 Tryz.underlying51 hi hz0 hz1 hz2 rfl (by decide) _ _ _ rfl (hown2.alloc _) ⟨_, 0, none⟩ 1 1 [.string X] rfl rfl (cell_one_new _ _ _) (by simp [Value.oneCell']) (by omega) (by unfold maxLen; omega) (by omega) (by simp; omega) _ rfl ?_; intro g6 cap6 w6 hown6 hgrow6 hat6 hlt6))
      exact ⟨⟨k + 1, by go_num, by omega, by rw [HST.out]; exact hown6, fun h => by omega, below_app hB3 hsz3 hown2 hgrow6⟩, by simp [intOf]; omega⟩
    · have hkl : k = rs.length := by omega
      subst hkl
      rw [List.take_length] at hown
      clear hlt hk
      by_cases h0 : rs = []
      · subst h0
        have hkv := hnil rfl
        subst hkv
        clear hnil hown
        go_wp2_with fail
        refine (pimage0 wr).mono ?_
        rintro e w2 ⟨rfl, hB2⟩
        have hBe := hB.trans (hB2.mono hsz)
        clear hB2
        go_wp2
        go_ret
        exact ⟨rfl, hBe⟩
      · have hfree := Sx.keys_free HOK.out.ok HOK.out.apart
        have hko := Sx.keys_ok HOK.out h0
        have hso := Sx.sortW_ok _ (Sx.free_nodup hfree)
        have hlen : (Sx.sortW (rs.map Sx.rlKey)).length = rs.length := by
          rw [← Sx.merge_sortW _ (Sx.free_nodup hfree), List.length_mergeSort, List.length_map]
        have hslb : Sx.sl (Sx.sortW (rs.map Sx.rlKey)) ≤ 10000 := by
          have h1 := sl_le (Sx.sortW (rs.map Sx.rlKey)) 64 (fun x hx => by
            obtain ⟨r, hr, rfl⟩ := List.mem_map.1 ((hso.2 x).1 hx)
            exact Nat.le_of_lt (Sx.rlKey_len (HOK.out.ok r hr)))
          rw [hlen] at h1
          have h2 : rs.length * 64 ≤ 30 * 64 := Nat.mul_le_mul_right _ hN
          omega
        have hpos : 0 < rs.length := List.length_pos_iff.2 h0
        have hml : (rs.map Sx.rlKey).length = rs.length := List.length_map _
        have hpi := pimage (rs.map Sx.rlKey) w.heap.size _ wr (by rw [hml]; exact hown) (by rw [hml]; exact hpos) (by rw [hml]; omega) (Sx.free_nodup hfree) hko.1 hslb
        have htab : (Sx.edgF 64 [] (Sx.sortW (rs.map Sx.rlKey))).1 = Sx.tabOf rs := by unfold Sx.tabOf; rw [if_neg h0]
        rw [htab] at hpi
        have HPI := hide hpi
        obtain ⟨kp, kc, rfl⟩ := own_shapeK hown
        clear hfree hko hso hlen hslb hpos hml hpi htab hown hnil
        go_wp2_with fail
        refine HPI.out.mono ?_
        rintro e w2 ⟨rfl, hB2⟩
        have hBe := hB.trans (hB2.mono hsz)
        clear hB2
        go_wp2
        go_ret
        exact ⟨rfl, hBe⟩
set_option maxRecDepth 100000 in
set_option maxHeartbeats 1000000 in
/-- suffix.Compile -/
theorem pcomp (L : List (List UInt8)) (v : Value) (w : World) (hw : LWt w) (hrd : RdS w v L) (hL : L.length ≤ 1000000000000) : Calls Tryz.prog 6 #[v] w fun e w' => e = .returned (.tuple #[.string ⟨(Sx.compR L).1.toArray⟩, .int .i64 (Sx.compR L).2.1, .int .i64 (Sx.compR L).2.2]) ∧ Below w.heap.size w w' := by
  have HLG := hide (plong L v w hrd hL)
  obtain ⟨p, cap, hv, hrd2⟩ := hrd
  by_cases hbig : 2000 < Sx.sl L
  · have hc : Sx.compR L = ([], 1, 0) := by unfold Sx.compR; rw [if_pos hbig]
    have hlg := HLG.out
    rw [decide_eq_true hbig] at hlg
    have HL2 := hide hlg
    have HC := hide hc
    subst hv
    clear hc hbig hlg HLG hrd2
    go_enter Tryz.func6, Tryz.ntmps6
    go_wp2_with fail
    refine HL2.out.mono ?_
    rintro e w1 ⟨rfl, rfl⟩
    go_wp2
    go_ret3
    exact ⟨by rw [HC.out]; rfl, Below.refl _ _⟩
  · have hlg := HLG.out
    rw [decide_eq_false hbig] at hlg
    have HL2 := hide hlg
    have hB0 : Below w.heap.size w (w.alloc (.cells #[.slice none 0 0, .int .u8 0, .int .i64 0, .int .i64 0] 57)) := (Below.refl _ _).alloc (Nat.le_refl _) _
    have hr0 : RdrAt (w.alloc (.cells #[.slice none 0 0, .int .u8 0, .int .i64 0, .int .i64 0] 57)) w.heap.size [] 0 0 0 := ⟨.slice none 0 0, heap_alloc_new _ _, World.ownsRow_nil _ _ _ _⟩
    have HRA := hide (prdadd w hw w.heap.size (Nat.le_refl _) L v _ hB0 ⟨p, cap, hv, hrd2⟩ hr0 (by omega) hL)
    have hok := Sx.addAll_ok L [] 0 Sx.rlsOk_nil
    have hc : Sx.compR L = if (Sx.addAll L [] 0).2.1 = 0 then (Sx.imgT (Sx.tabOf (Sx.addAll L [] 0).1), 0, 0) else ([], (Sx.addAll L [] 0).2.1, (Sx.addAll L [] 0).2.2) := by
      unfold Sx.compR
      rw [if_neg hbig]
    obtain ⟨⟨rs, m, n⟩, hA⟩ : ∃ A, Sx.addAll L [] 0 = A := ⟨_, rfl⟩
    rw [hA] at HRA hok hc
    dsimp only at hok hc
    have HC := hide hc
    have HOK := hide hok
    subst hv
    clear hc hbig hlg HLG hrd2 hA hok hw hB0 hr0
    go_enter Tryz.func6, Tryz.ntmps6
    go_wp2_with fail
    refine HL2.out.mono ?_
    rintro e w1 ⟨rfl, rfl⟩
    go_wp2_with fail
    refine HRA.out.mono ?_
    rintro e w2 ⟨⟨ev, rfl⟩, hB2, sc, rv, hbx, hrow⟩
    dsimp only at hbx hrow
    obtain ⟨⟨q0, q1, q2, q3⟩, f0, f1, f2, f3⟩ := box4 hbx
    by_cases hm : m = 0
    · subst hm
      have HI := hide (fun w (h : Below w2.heap.size w2 w) => prsimg rs rv w ((prAt_own hrow).below h) HOK.out)
      obtain ⟨vp, vc, rfl⟩ := own_shapeK hrow
      have hs2 := hB2.size
      clear hbx hrow
      go_wp2_with fail
      refine (HI.out w2 (Below.refl _ _)).mono ?_
      rintro e w3 ⟨rfl, hB3⟩
      have hBe := hB2.trans (hB3.mono hs2)
      clear hB3 hB2 HI
      go_wp2
      go_ret3
      exact ⟨by rw [HC.out]; rfl, hBe⟩
    · have hmb : (m != 0) = true := by simpa using hm
      have HM := hide hm
      clear hbx hrow hm
      go_wp2
      go_quiet ((fail))
      go_wp2
      go_ret3
      exact ⟨by rw [HC.out, if_neg HM.out]; rfl, below_drewN hB2 _⟩
end Go.Proofs.YtgohllfpceeboabGreatDoor

