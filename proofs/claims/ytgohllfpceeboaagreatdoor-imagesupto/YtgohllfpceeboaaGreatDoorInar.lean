import Derived.Test.YtgohllfpceeboaaGreatDoorInaq
import Derived.RangeFuncNested
import Derived.RangeFuncBound
import Derived.RangeFuncCalls
import Derived.RangeFuncLeaves
import Derived.Shelf.Abstract
import Derived.Shelf.RegionOpen
import Derived.OwnWalkIn
import Derived.TacticsInMore
import Derived.LoopNIn
import Derived.LoopIn
namespace Go.Proofs.YtgohllfpceeboaaGreatDoor
open Go.RowKit Go.Shelf
attribute [local go_sem] Oper.semAt_some
def dotAt (r : List UInt8) : Int := lastTo r 46 r.length
theorem lastTo_bd (s : List UInt8) (c : UInt8) : ∀ k : Nat, -1 ≤ lastTo s c k ∧ lastTo s c k < k := by
 intro k
 induction k with
 | zero => simp [lastTo]
 | succ k ih => simp only [lastTo]; split <;> omega
def pcsF : Nat → List UInt8 → List (List UInt8)
 | 0, r => [r]
 | f + 1, r => if dotAt r < 0 then [r] else r.drop (dotAt r + 1).toNat :: pcsF f (r.take (dotAt r).toNat)
def pcs (r : List UInt8) : List (List UInt8) := pcsF r.length r
theorem pcsF_fuel : ∀ (f g : Nat) (r : List UInt8), r.length ≤ f → r.length ≤ g → pcsF f r = pcsF g r := by
 intro f
 induction f with
 | zero =>
   intro g r hf hg
   have : r = [] := List.eq_nil_of_length_eq_zero (by omega)
   subst this
   cases g with
   | zero => rfl
   | succ g => simp [pcsF, dotAt, lastTo]
 | succ f ih =>
   intro g r hf hg
   have hb := lastTo_bd r 46 r.length
   cases g with
   | zero =>
     have : r = [] := List.eq_nil_of_length_eq_zero (by omega)
     subst this
     simp [pcsF, dotAt, lastTo]
   | succ g =>
     simp only [pcsF]
     by_cases h : dotAt r < 0
     · rw [if_pos h, if_pos h]
     · rw [if_neg h, if_neg h, ih g _ (by rw [List.length_take]; unfold dotAt at *; omega) (by rw [List.length_take]; unfold dotAt at *; omega)]
theorem pcs_last (r : List UInt8) (h : dotAt r < 0) : pcs r = [r] := by
 unfold pcs
 cases hl : r.length with
 | zero => rfl
 | succ n => simp only [pcsF]; rw [if_pos h]
theorem pcs_more (r : List UInt8) (h : ¬ dotAt r < 0) : pcs r = r.drop (dotAt r + 1).toNat :: pcs (r.take (dotAt r).toNat) := by
 have hb := lastTo_bd r 46 r.length
 unfold pcs
 cases hl : r.length with
 | zero => unfold dotAt at h; rw [hl] at hb h; omega
 | succ n =>
   simp only [pcsF]
   rw [if_neg h, pcsF_fuel n (r.take (dotAt r).toNat).length _ (by rw [List.length_take]; unfold dotAt at *; omega) (Nat.le_refl _)]
def strLn : Value → Nat
 | .string b => b.size
 | _ => 0
set_option maxRecDepth 100000 in
set_option maxHeartbeats 4000000 in
theorem plabs_anyL (n : Nat) (hn : 1 ≤ n) (l : Nat) (s : ByteArray) (hs : s.size ≤ 10000) (P : List (List UInt8)) (hP : P = pcs s.data.toList) (J : Nat → World → Prop) (Jx : World → Prop)
 (hY : ∀ k (h : k < P.length) W, J k W → YieldAt Fence.wide (n - 1) Tryz.prog l #[.string ⟨P[k].toArray⟩] W fun e W' => (e = .returned (.bool true) ∧ J (k + 1) W') ∨ (e = .returned (.bool false) ∧ Jx W'))
 (W : World) (h0 : J 0 W) :
 CallsIn Fence.wide n Tryz.prog 111 #[.string s, .func (.yield l) #[] #[]] W fun e W' => (∃ v, e = .returned v) ∧ (J P.length W' ∨ Jx W') := by
 refine callsIn_of_wp Tryz.func111 rfl trivial ?_ rfl
 simp only [Tryz.ntmps111, List.size_toArray, List.length_cons, List.length_nil, Nat.reduceAdd, Nat.reduceSub, Array.replicate_succ, Array.replicate_zero, List.push_toArray, List.append_toArray, List.nil_append, List.cons_append]
 have HP := hide hP
 have HY := hide hY
 clear hP hY
 gi_wp2
 gi_loopw [4] (fun rv wr => ∃ (R : ByteArray) (k : Nat), rv = .string R ∧ R.size ≤ 10000 ∧ k < P.length ∧ P.drop k = pcs R.data.toList ∧ J k wr) (fun rv _ => strLn rv)
 case atStart => exact ⟨s, 0, rfl, hs, by rw [HP.out]; unfold pcs; cases s.data.toList.length <;> simp [pcsF]; split <;> simp, by rw [List.drop_zero]; exact HP.out, h0⟩
 case round =>
  obtain ⟨R, k, rfl, hRz, hk, hd, hJ⟩ := hrel
  have hla := plast_any R 46 wr (by omega)
  have hbd := lastTo_bd R.data.toList 46 R.size
  have hde : dotAt R.data.toList = lastTo R.data.toList 46 R.size := by unfold dotAt; rw [ba_len]
  obtain ⟨dv, hdv⟩ : ∃ dv, lastTo R.data.toList 46 R.size = dv := ⟨_, rfl⟩
  rw [hdv] at hla hbd hde
  have hla2 : Calls Tryz.prog 160 #[.string R, .int .u8 46] wr fun e w' => e = .returned (.int .i64 dv) ∧ w' = wr := hla
  have HLA := hide hla2
  have HDE := hide hde
  have HD := hide hd
  clear hla hla2 hdv hde hd
  by_cases hneg : dv < 0
  · have hdm : dv = -1 := by omega
    subst hdm
    have hpl : pcs R.data.toList = [R.data.toList] := pcs_last _ (by rw [HDE.out]; omega)
    have hpk : P[k] = R.data.toList := by
     have := HD.out
     rw [hpl, List.drop_eq_getElem_cons hk] at this
     exact (List.cons.inj this).1
    have hkl : k + 1 = P.length := by
     have := congrArg List.length HD.out
     rw [hpl, List.length_drop] at this
     simp at this; omega
    obtain ⟨fn, tmps, assign, body, hy, hR⟩ := HY.out k hk wr hJ
    have hRR : (⟨P[k].toArray⟩ : ByteArray) = R := by rw [hpk]
    rw [hRR] at hy
    have HR := hide hR
    have HKL := hide hkl
    clear hR hRR hpk hpl hkl
    gi_wp2_with (refine ⟨trivial, ?_⟩; gi_at_call 160; refine (callsIn_wide.2 HLA.out).mono ?_; rintro e w' ⟨rfl, rfl⟩)
    refine HR.out.mono ?_
    rintro e W3 (⟨rfl, hJ3⟩ | ⟨rfl, hJx3⟩)
    · gi_wp2
      refine bodyPost_ret (results_none rfl _ _ _) rfl ?_
      exact ⟨⟨_, rfl⟩, .inl (by rw [← HKL.out]; exact hJ3)⟩
    · gi_wp2
      refine bodyPost_ret (results_none rfl _ _ _) rfl ?_
      exact ⟨⟨_, rfl⟩, .inr hJx3⟩
  · obtain ⟨d, hd1⟩ : ∃ d : Nat, dv = (d : Int) := ⟨dv.toNat, by omega⟩
    subst hd1
    have hdz : d < R.size := by omega
    have hpm := pcs_more R.data.toList (by rw [HDE.out]; exact hneg)
    rw [HDE.out] at hpm
    have hpk : P[k] = R.data.toList.drop (d + 1) := by
     have := HD.out
     rw [hpm, List.drop_eq_getElem_cons hk] at this
     exact (List.cons.inj this).1
    have hpr : P.drop (k + 1) = pcs (R.data.toList.take d) := by
     have := HD.out
     rw [hpm, List.drop_eq_getElem_cons hk] at this
     exact (List.cons.inj this).2
    have hkl : k + 1 < P.length := by
     have h1 := congrArg List.length hpr
     rw [List.length_drop] at h1
     have h2 : 0 < (pcs (R.data.toList.take d)).length := by
      unfold pcs
      cases (R.data.toList.take d).length with
      | zero => simp [pcsF]
      | succ m => simp only [pcsF]; split <;> simp
     omega
    obtain ⟨fn, tmps, assign, body, hy, hR⟩ := HY.out k hk wr hJ
    have hRR : (⟨P[k].toArray⟩ : ByteArray) = R.extract (d + 1) R.size := by
     rw [hpk]
     apply ByteArray.ext
     apply Array.toList_inj.1
     rw [ba_ext, ← ba_len, List.take_length]
    rw [hRR] at hy
    have hrl : (R.extract 0 d).data.toList = R.data.toList.take d := by rw [ba_ext, List.drop_zero]
    have hrz : (R.extract 0 d).size = d := by rw [← ba_len, hrl, List.length_take, ba_len]; omega
    have HR := hide hR
    have HPR := hide hpr
    have HRL := hide hrl
    have HRZ := hide hrz
    clear hR hRR hpk hpr hrl hrz hpm
    have e1 : (0 : Int) ≤ (d : Int) + 1 := by omega
    have e2 : (d : Int) + 1 ≤ (R.size : Int) := by omega
    have e3 : ((d : Int) + 1).toNat = d + 1 := by omega
    gi_wp2_with (refine ⟨trivial, ?_⟩; gi_at_call 160; refine (callsIn_wide.2 HLA.out).mono ?_; rintro e w' ⟨rfl, rfl⟩)
    refine HR.out.mono ?_
    rintro e W3 (⟨rfl, hJ3⟩ | ⟨rfl, hJx3⟩)
    · gi_wp2
      exact ⟨⟨_, k + 1, rfl, by rw [HRZ.out]; omega, hkl, by rw [HRL.out]; exact HPR.out, hJ3⟩, by show (R.extract 0 d).size < R.size; rw [HRZ.out]; exact hdz⟩
    · gi_wp2
      refine bodyPost_ret (results_none rfl _ _ _) rfl ?_
      exact ⟨⟨_, rfl⟩, .inr hJx3⟩
theorem plabs_any (n : Nat) (hn : 1 ≤ n) (l : Nat) (s : ByteArray) (hs : s.size ≤ 1000) (P : List (List UInt8)) (hP : P = pcs s.data.toList) (J : Nat → World → Prop) (Jx : World → Prop)
 (hY : ∀ k (h : k < P.length) W, J k W → YieldAt Fence.wide (n - 1) Tryz.prog l #[.string ⟨P[k].toArray⟩] W fun e W' => (e = .returned (.bool true) ∧ J (k + 1) W') ∨ (e = .returned (.bool false) ∧ Jx W'))
 (W : World) (h0 : J 0 W) :
 CallsIn Fence.wide n Tryz.prog 111 #[.string s, .func (.yield l) #[] #[]] W fun e W' => (∃ v, e = .returned v) ∧ (J P.length W' ∨ Jx W') := plabs_anyL n hn l s (by omega) P hP J Jx hY W h0
end Go.Proofs.YtgohllfpceeboaaGreatDoor
