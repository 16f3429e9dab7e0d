import Derived.Test.YtgohllfpceeboabGreatDoorSbbg
import Derived.Test.YtgohllfpceeboabGreatDoorRKga
import Derived.Test.YtgohllfpceeboabGreatDoorRKgb
import Derived.Test.YtgohllfpceeboabGreatDoorRKgc
import Derived.Test.YtgohllfpceeboabGreatDoorRKgg
import Derived.Test.YtgohllfpceeboabGreatDoorRKgh
import Derived.Deep.RegionHeldLaw
import Derived.Deep.RegionLaw
namespace Go.Proofs.YtgohllfpceeboabGreatDoor
open Go.RowKit
set_option maxRecDepth 100000 in
set_option maxHeartbeats 4000000 in
/-- (*suffix.World).mayBeDomain -/
theorem pmay (g : Nat) (V H : List (List UInt8)) (A B : ByteArray) (rs : List Sx.Rl) (os : List Org) (w : World) (hr : RdW w g rs os) (hrt : Sx.RlsRt rs) (hv : Sx.HostOk V) (hh : Sx.HostOk H) (hA : A.data.toList = Sx.dotted V) (hB : B.data.toList = Sx.dotted H) : Calls Tryz.prog 43 #[.pointer (some ⟨g, 0, none⟩), .string A, .string B] w fun e w' => e = .returned (.bool (mayP rs V H)) ∧ Below w.heap.size w w' := by
  obtain ⟨rv, p, cap, h1, h2, h3, h4, h5⟩ := hr
  have hlA : A.size ≤ 60 := by have := Sx.dotted_allL V hv.1; have := hv.2.2.1; rw [← ba_len, hA]; omega
  have hlB : B.size ≤ 60 := by have := Sx.dotted_allL H hh.1; have := hh.2.2.1; rw [← ba_len, hB]; omega
  obtain ⟨v1, -, v3⟩ := prevH hrt hv A hA
  have hm : mayP rs V H = ((A.toList == B.toList) || (suffixB B.data.toList (46 :: A.data.toList) && !(A.toList == (⟨(lastP (Sx.dotted V) (pubI (prvl rs (Sx.dotted V)))).toArray⟩ : ByteArray).toList))) := by
    unfold mayP
    rw [ba_eq, ba_eq, hA, hB]
  have e46 : (⟨#[46]⟩ : ByteArray) ++ A = ⟨(46 :: A.data.toList).toArray⟩ := by
    have : A = ⟨A.data.toList.toArray⟩ := by simp
    rw [this]; exact ba_app [46] _
  have HSF := hide (fun W => psuf_any B ⟨(46 :: A.data.toList).toArray⟩ W (by omega))
  rw [show (⟨(46 :: A.data.toList).toArray⟩ : ByteArray).data.toList = 46 :: A.data.toList from rfl] at HSF
  have HPV := hide (fun W (h : Below w.heap.size w W) => v1 rv W (h4.below h))
  have HSU := hide v3
  obtain ⟨⟨bh, bk, bs⟩, hb⟩ : ∃ b, prvl rs (Sx.dotted V) = b := ⟨_, rfl⟩
  obtain ⟨O, hO⟩ : ∃ X : ByteArray, ⟨(lastP (Sx.dotted V) (pubI (prvl rs (Sx.dotted V)))).toArray⟩ = X := ⟨_, rfl⟩
  rw [hO] at HSU hm
  rw [hb] at HPV HSU
  unfold ruA at HPV HSU
  dsimp only at HPV HSU
  obtain ⟨E, hE⟩ : ∃ X : ByteArray, ⟨(Sx.dotted bh).toArray⟩ = X := ⟨_, rfl⟩
  obtain ⟨M, hM⟩ : ∃ M, bh.length = M := ⟨_, rfl⟩
  rw [hE, hM] at HPV HSU
  obtain ⟨Z, hZ⟩ : ∃ X : ByteArray, ⟨(46 :: A.data.toList).toArray⟩ = X := ⟨_, rfl⟩
  rw [hZ] at HSF e46
  obtain ⟨SB, hSB⟩ : ∃ b, suffixB B.data.toList (46 :: A.data.toList) = b := ⟨_, rfl⟩
  rw [hSB] at HSF hm
  obtain ⟨R, hR⟩ : ∃ R, mayP rs V H = R := ⟨_, rfl⟩
  rw [hR] at hm ⊢
  have HM := hide hm
  obtain ⟨rp, rc, rfl, -⟩ := h4
  clear hm hR hSB hZ hE hM hb hO v1 v3 hA hB hv hh hrt h3 h5
  cases hE : (A.toList == B.toList) with
  | true =>
    go_enter Tryz.func43, Tryz.ntmps43
    go_wp2
    go_ret
    exact ⟨by rw [HM.out, hE]; rfl, Below.refl _ _⟩
  | false =>
    go_enter Tryz.func43, Tryz.ntmps43
    go_wp2_with fail
    refine (HSF.out _).mono ?_
    rintro e y1 ⟨rfl, rfl⟩
    cases SB with
    | false =>
      go_wp2
      go_ret
      exact ⟨by rw [HM.out, hE]; rfl, Below.refl _ _⟩
    | true =>
      go_wp2_with fail
      refine (HPV.out _ (Below.refl _ _)).mono ?_
      rintro e y2 ⟨rfl, hB2⟩
      have HB2 := hide hB2
      clear hB2
      go_wp2_with fail
      refine (HSU.out _).mono ?_
      rintro e y3 ⟨rfl, hB3⟩
      have HB3 := hide (below_to HB2.out hB3)
      clear hB3
      go_wp2
      go_ret
      exact ⟨by rw [HM.out, hE]; first | rfl | (cases (A.toList == O.toList) <;> rfl), HB3.out⟩
end Go.Proofs.YtgohllfpceeboabGreatDoor
