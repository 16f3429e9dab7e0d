import Derived.Test.YtgohllfpceeboabGreatDoorSbbg
import Derived.Test.YtgohllfpceeboabGreatDoorRKga
import Derived.Test.YtgohllfpceeboabGreatDoorRKgb
import Derived.Test.YtgohllfpceeboabGreatDoorRKgc
import Derived.Test.YtgohllfpceeboabGreatDoorRKgd
import Derived.Test.YtgohllfpceeboabGreatDoorRKge
import Derived.Deep.RegionHeldLaw
namespace Go.Proofs.YtgohllfpceeboabGreatDoor
open Go.RowKit
set_option maxRecDepth 100000 in
set_option maxHeartbeats 2000000 in
/-- (*suffix.World).Site -/
theorem pSiteY (g n : Nat) (rs : List Sx.Rl) (os : List Org) (w : World) (hr : RdW w g rs os) (hn : n < os.length) (hok : ∀ o ∈ os, OrgOk o) (hrt : Sx.RlsRt rs) : Calls Tryz.prog 111 #[.pointer (some ⟨g, 0, none⟩), .int .i64 n] w fun e w' => e = .returned (.tuple #[.string ⟨(siteP rs os[n]).toArray⟩, .int .i64 0]) ∧ Below w.heap.size w w' := by
  have HH := hide (phas g n rs os w hr)
  have HS := hide (psite g n rs os w hr hn hok hrt)
  rw [decide_eq_true (show (0 : Int) ≤ n ∧ (n : Int) < os.length by omega)] at HH
  obtain ⟨T, hT⟩ : ∃ X : ByteArray, ⟨(siteP rs os[n]).toArray⟩ = X := ⟨_, rfl⟩
  rw [hT] at HS ⊢
  clear hT hr hok hrt
  go_enter Tryz.func111, Tryz.ntmps111
  go_wp2_with fail
  refine HH.out.mono ?_
  rintro e w1 ⟨rfl, rfl⟩
  go_wp2_with fail
  refine HS.out.mono ?_
  rintro e w2 ⟨rfl, hB⟩
  have HB := hide hB
  clear hB
  go_wp2
  go_ret2
  exact ⟨rfl, HB.out⟩
set_option maxRecDepth 100000 in
set_option maxHeartbeats 2000000 in
theorem pSiteN (g : Nat) (n : Int) (rs : List Sx.Rl) (os : List Org) (w : World) (hr : RdW w g rs os) (hn : ¬ (0 ≤ n ∧ n < os.length)) : Calls Tryz.prog 111 #[.pointer (some ⟨g, 0, none⟩), .int .i64 n] w fun e w' => e = .returned (.tuple #[.string ⟨#[]⟩, .int .i64 7]) ∧ w' = w := by
  have HH := hide (phas g n rs os w hr)
  rw [decide_eq_false hn] at HH
  clear hr hn
  go_enter Tryz.func111, Tryz.ntmps111
  go_wp2_with fail
  refine HH.out.mono ?_
  rintro e w1 ⟨rfl, rfl⟩
  go_wp2
  go_ret2
  exact ⟨rfl, rfl⟩
set_option maxRecDepth 100000 in
set_option maxHeartbeats 2000000 in
/-- (*suffix.World).Same -/
theorem pSameY (g a b : Nat) (rs : List Sx.Rl) (os : List Org) (w : World) (hr : RdW w g rs os) (ha : a < os.length) (hb : b < os.length) (hok : ∀ o ∈ os, OrgOk o) (hrt : Sx.RlsRt rs) : Calls Tryz.prog 13 #[.pointer (some ⟨g, 0, none⟩), .int .i64 a, .int .i64 b] w fun e w' => e = .returned (.tuple #[.bool (relA a b os[a] os[b]), .bool (relB a b os[a] os[b]), .bool (relC rs a b os[a] os[b]), .int .i64 0]) ∧ Below w.heap.size w w' := by
  have HA := hide (phas g a rs os w hr)
  have HH := hide (phas g b rs os w hr)
  have HS := hide (prelat g a b rs os w hr ha hb hok hrt)
  rw [decide_eq_true (show (0 : Int) ≤ a ∧ (a : Int) < os.length by omega)] at HA
  rw [decide_eq_true (show (0 : Int) ≤ b ∧ (b : Int) < os.length by omega)] at HH
  obtain ⟨R1, hR1⟩ : ∃ R, relA a b os[a] os[b] = R := ⟨_, rfl⟩
  obtain ⟨R2, hR2⟩ : ∃ R, relB a b os[a] os[b] = R := ⟨_, rfl⟩
  obtain ⟨R3, hR3⟩ : ∃ R, relC rs a b os[a] os[b] = R := ⟨_, rfl⟩
  rw [hR1, hR2, hR3] at HS ⊢
  clear hR1 hR2 hR3 hr hok hrt
  go_enter Tryz.func13, Tryz.ntmps13
  go_wp2_with fail
  refine HA.out.mono ?_
  rintro e w1 ⟨rfl, rfl⟩
  go_wp2_with fail
  refine HH.out.mono ?_
  rintro e w1 ⟨rfl, rfl⟩
  go_wp2_with fail
  refine HS.out.mono ?_
  rintro e w2 ⟨rfl, hB⟩
  have HB := hide hB
  have hbz := hB.size
  clear hB
  go_wp2_with fail
  go_region
  all_goals (
    go_wp2
    exact bodyPost_ret (v := .tuple #[.bool R1, .bool R2, .bool R3, .int .i64 0]) (by simp [results, Tryz.results13, go_sem]) rfl ⟨rfl, by first | exact HB.out.alloc hbz _ | exact (HB.out.alloc hbz _).drew⟩)
set_option maxRecDepth 100000 in
set_option maxHeartbeats 2000000 in
theorem pSameN (g : Nat) (a b : Int) (rs : List Sx.Rl) (os : List Org) (w : World) (hr : RdW w g rs os) (hn : ¬ (0 ≤ a ∧ a < os.length) ∨ ¬ (0 ≤ b ∧ b < os.length)) : Calls Tryz.prog 13 #[.pointer (some ⟨g, 0, none⟩), .int .i64 a, .int .i64 b] w fun e w' => e = .returned (.tuple #[.bool false, .bool false, .bool false, .int .i64 7]) ∧ w' = w := by
  have HA := hide (phas g a rs os w hr)
  have HH := hide (phas g b rs os w hr)
  by_cases h1 : 0 ≤ a ∧ a < os.length
  · have h2 : ¬ (0 ≤ b ∧ b < os.length) := by
      rcases hn with h | h
      · exact absurd h1 h
      · exact h
    rw [decide_eq_true h1] at HA
    rw [decide_eq_false h2] at HH
    clear hr hn h1 h2
    go_enter Tryz.func13, Tryz.ntmps13
    go_wp2_with fail
    refine HA.out.mono ?_
    rintro e w1 ⟨rfl, rfl⟩
    go_wp2_with fail
    refine HH.out.mono ?_
    rintro e w1 ⟨rfl, rfl⟩
    go_wp2
    exact bodyPost_ret (v := .tuple #[.bool false, .bool false, .bool false, .int .i64 7]) (by simp [results, Tryz.results13, go_sem]) rfl ⟨rfl, rfl⟩
  · rw [decide_eq_false h1] at HA
    clear hr hn h1 HH
    go_enter Tryz.func13, Tryz.ntmps13
    go_wp2_with fail
    refine HA.out.mono ?_
    rintro e w1 ⟨rfl, rfl⟩
    go_wp2
    exact bodyPost_ret (v := .tuple #[.bool false, .bool false, .bool false, .int .i64 7]) (by simp [results, Tryz.results13, go_sem]) rfl ⟨rfl, rfl⟩
end Go.Proofs.YtgohllfpceeboabGreatDoor
