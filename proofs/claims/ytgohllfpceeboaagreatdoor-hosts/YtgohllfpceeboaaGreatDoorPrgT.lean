import Derived.Test.YtgohllfpceeboaaGreatDoorPrgS
namespace Go.Proofs.YtgohllfpceeboaaGreatDoor
open Go.RowKit

theorem grown_trans {a b c : World} {r : Option Nat} (h : a.grownBy b r) (k : b.grownBy c r) : a.grownBy c r :=
  ⟨k.os.trans h.os, k.tape.trans h.tape, k.output.trans h.output, Nat.le_trans h.size k.size, fun i hi hn => (k.block i (Nat.lt_of_lt_of_le hi h.size) hn).trans (h.block i hi hn)⟩
/-- swapRange, of runs that are known. -/
theorem psr_parts (P U M V S : List (Int × Int)) (N g cap : Nat) (ai bi ni : Int) (fv : Value) (w : World) (hw : WaysAt w g (P ++ U ++ M ++ V ++ S)) (hN : (P ++ U ++ M ++ V ++ S).length = N) (hl : N ≤ 1000) (h : U.length = V.length) (ha : ai = P.length) (hb : bi = P.length + U.length + M.length) (hn : ni = U.length) :
    Calls Tryz.prog 275 #[.slice (some ⟨g, 0, none⟩) N cap, .int .i64 ai, .int .i64 bi, .int .i64 ni, fv] w fun e w' => (∃ v, e = .returned v) ∧ WaysAt w' g (P ++ V ++ M ++ U ++ S) ∧ w.grownBy w' (some g) := by
  have := psr_any (P ++ U ++ M ++ V ++ S) g cap P.length (P.length + U.length + M.length) U.length fv w hw (by omega) (by omega) (by simp; omega)
  rw [swapR_parts P U M V S h, hN] at this
  subst ha
  subst hn
  rw [show bi = ((P.length + U.length + M.length : Nat) : Int) from by omega]
  exact this

set_option maxRecDepth 100000 in
set_option maxHeartbeats 1000000 in
/-- slices.rotateCmpFunc at ways -/
theorem prot_any (P X Y S : List (Int × Int)) (N g cap : Nat) (fv : Value) (w : World) (hw : WaysAt w g (P ++ X ++ Y ++ S)) (hN : (P ++ X ++ Y ++ S).length = N) (hl : N ≤ 1000) (hX : 0 < X.length) (hY : 0 < Y.length) (ai mi bi : Int) (ha : ai = P.length) (hm : mi = P.length + X.length) (hb : bi = P.length + X.length + Y.length) :
    Calls Tryz.prog 274 #[.slice (some ⟨g, 0, none⟩) N cap, .int .i64 ai, .int .i64 mi, .int .i64 bi, fv] w fun e w' => (∃ v, e = .returned v) ∧ WaysAt w' g (P ++ Y ++ X ++ S) ∧ w.grownBy w' (some g) := by
  obtain ⟨T, hT⟩ : ∃ T, P ++ Y ++ X ++ S = T := ⟨_, rfl⟩
  rw [hT]
  have HT := hide hT
  have HW := hide hw
  have HN := hide hN
  have hxn : P.length + X.length + Y.length ≤ N := by rw [← hN]; simp; omega
  have e0 : mi - ai = (X.length : Int) := by omega
  have e1 : bi - mi = (Y.length : Int) := by omega
  have hb0 : 0 ≤ ai ∧ ai ≤ 1000 ∧ 0 ≤ mi ∧ mi ≤ 1000 ∧ 0 ≤ bi ∧ bi ≤ 1000 := by omega
  have HM := hide hm
  clear hT hw hN ha hm hb
  obtain ⟨q1, q2, q3, q4, q5, q6⟩ := hb0
  go_enter Tryz.func274, Tryz.ntmps274
  go_wp2
  go_loopw [10, 11] (fun iv jv wr => ∃ (P' U V S' : List (Int × Int)), iv = .int .i64 U.length ∧ jv = .int .i64 V.length ∧ 0 < U.length ∧ 0 < V.length ∧ U.length ≤ 1000 ∧ V.length ≤ 1000 ∧ mi = (P'.length : Int) + (U.length : Int) ∧ WaysAt wr g (P' ++ U ++ V ++ S') ∧ (P' ++ U ++ V ++ S').length = N ∧ P' ++ V ++ U ++ S' = T ∧ w.grownBy wr (some g)) (fun iv jv _ => (intOf iv + intOf jv).toNat)
  case atStart => exact ⟨P, X, Y, S, rfl, rfl, hX, hY, by omega, by omega, HM.out, HW.out, HN.out, HT.out, ⟨rfl, rfl, rfl, Nat.le_refl _, fun _ _ _ => rfl⟩⟩
  case round =>
    obtain ⟨P', U, V, S', rfl, rfl, hu, hv, hu2, hv2, hmi, hwa, hlen, htg, hgr⟩ := hrel
    have HMI := hide hmi
    have HWA := hide hwa
    have HLEN := hide hlen
    have HTG := hide htg
    have hmle : (P'.length : Int) + (U.length : Int) = mi := hmi.symm
    clear hwa hlen htg e0 e1 HW HN HT HM hmi
    have hmb : (U.length : Int) ≤ mi := by omega
    have hPl : (P'.length : Int) = mi - (U.length : Int) := by omega
    have HPL := hide hPl
    have hVb : mi + (V.length : Int) ≤ 2000 := by omega
    clear hmle hPl
    by_cases heq : U.length = V.length
    · have hne : ((U.length : Int) != (V.length : Int)) = false := by rw [heq]; simp
      have HC := hide (psr_parts P' U [] V S' N g cap (mi - U.length) mi U.length fv wr (by simpa using HWA.out) (by simpa using HLEN.out) (by omega) heq (by rw [HPL.out]) (by have := HPL.out; simp; omega) rfl)
      clear heq
      go_wp2_with fail
      refine HC.out.mono ?_
      rintro e w1 ⟨⟨v, rfl⟩, hw1, hg1⟩
      have HW1 := hide hw1
      clear hw1
      go_wp2
      go_end0
      exact ⟨⟨_, rfl⟩, by rw [← HTG.out]; simpa using HW1.out, grown_trans hgr hg1⟩
    · have hne : ((U.length : Int) != (V.length : Int)) = true := by rw [bne_iff_ne]; omega
      by_cases hgt : V.length < U.length
      · have hsplit : U = U.take V.length ++ U.drop V.length := (List.take_append_drop _ _).symm
        have hl1 : (U.take V.length).length = V.length := by simp; omega
        have hl2 : (U.drop V.length).length = U.length - V.length := by simp
        have HC := hide (psr_parts P' (U.take V.length) (U.drop V.length) V S' N g cap (mi - U.length) mi V.length fv wr (by have := HWA.out; rw [hsplit] at this; simpa [List.append_assoc] using this) (by have := HLEN.out; rw [hsplit] at this; simpa using this) (by omega) hl1 (by rw [HPL.out]) (by have := HPL.out; rw [hl1, hl2]; omega) (by rw [hl1]))
        have HSP := hide hsplit
        have HL1 := hide hl1
        have HL2 := hide hl2
        clear hsplit hl1 hl2
        go_wp2_with fail
        refine HC.out.mono ?_
        rintro e w1 ⟨⟨v, rfl⟩, hw1, hg1⟩
        have HW1 := hide hw1
        clear hw1 HC
        go_wp2
        refine ⟨⟨P' ++ V, U.drop V.length, U.take V.length, S', ?_, ?_, ?_, ?_, ?_, ?_, ?_, HW1.out, ?_, ?_, grown_trans hgr hg1⟩, by simp [intOf]; omega⟩
        · rw [HL2.out, show ((U.length - V.length : Nat) : Int) = (U.length : Int) - (V.length : Int) from by omega]
        · rw [HL1.out]
        · rw [HL2.out]; omega
        · rw [HL1.out]; exact hv
        · rw [HL2.out]; omega
        · rw [HL1.out]; omega
        · have := HPL.out; rw [HL2.out, List.length_append]; omega
        · have := HLEN.out; simp only [List.length_append] at this ⊢; rw [HL1.out, HL2.out]; omega
        · rw [← HTG.out]; simp only [List.append_assoc]; rw [← List.append_assoc (U.take V.length), List.take_append_drop]
      · have hlt : U.length < V.length := by omega
        have hsplit : V = V.take (V.length - U.length) ++ V.drop (V.length - U.length) := (List.take_append_drop _ _).symm
        have hl1 : (V.take (V.length - U.length)).length = V.length - U.length := by simp
        have hl2 : (V.drop (V.length - U.length)).length = U.length := by simp; omega
        have HC := hide (psr_parts P' U (V.take (V.length - U.length)) (V.drop (V.length - U.length)) S' N g cap (mi - U.length) (mi + V.length - U.length) U.length fv wr (by have := HWA.out; rw [hsplit] at this; simpa [List.append_assoc] using this) (by have := HLEN.out; rw [hsplit] at this; simpa using this) (by omega) hl2.symm (by rw [HPL.out]) (by have := HPL.out; rw [hl1]; omega) rfl)
        have HL1 := hide hl1
        have HL2 := hide hl2
        clear hsplit hl1 hl2 hgt
        go_wp2_with fail
        refine HC.out.mono ?_
        rintro e w1 ⟨⟨v, rfl⟩, hw1, hg1⟩
        have HW1 := hide hw1
        clear hw1 HC
        go_wp2
        refine ⟨⟨P', V.drop (V.length - U.length), V.take (V.length - U.length), U ++ S', ?_, ?_, ?_, ?_, ?_, ?_, ?_, ?_, ?_, ?_, grown_trans hgr hg1⟩, by simp [intOf]; omega⟩
        · rw [HL2.out]
        · rw [HL1.out, show ((V.length - U.length : Nat) : Int) = (V.length : Int) - (U.length : Int) from by omega]
        · rw [HL2.out]; exact hu
        · rw [HL1.out]; omega
        · rw [HL2.out]; omega
        · rw [HL1.out]; omega
        · have := HPL.out; rw [HL2.out]; omega
        · have := HW1.out; simpa [List.append_assoc] using this
        · have := HLEN.out; simp only [List.length_append] at this ⊢; rw [HL1.out, HL2.out]; omega
        · rw [← HTG.out]; simp only [List.append_assoc]; rw [← List.append_assoc (V.take (V.length - U.length)), List.take_append_drop]
end Go.Proofs.YtgohllfpceeboaaGreatDoor
