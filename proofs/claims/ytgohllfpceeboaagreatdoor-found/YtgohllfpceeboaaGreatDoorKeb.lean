import Derived.Test.YtgohllfpceeboaaGreatDoorSbbg
import Derived.Test.YtgohllfpceeboaaGreatDoorSbbb
namespace Go.Proofs.YtgohllfpceeboaaGreatDoor
open Go.RowKit
theorem fnd_take (p : List UInt8) (m : List Sx.RawR) (k : Nat) (h : k < m.length) : (m.take (k + 1)).foldl (fndT p) (0, false, 45) = fndT p ((m.take k).foldl (fndT p) (0, false, 45)) m[k] := by
  rw [List.take_succ_eq_append_getElem h, List.foldl_append]
  rfl
theorem raw_len (r : Sx.RawR) : 1 ≤ (Sx.rawRl r).1.length ∧ (Sx.rawRl r).1.length ≤ 4 := by
  obtain ⟨h1, h2, -⟩ := Sx.ruleIx_ok r
  have h0 : 0 < (Sx.ruleIx r).length := List.length_pos_iff.2 h1.ne
  have e : (Sx.rawRl r).1.length = (Sx.ruleIx r).length := by show ((Sx.ruleIx r).map Sx.nmP).length = _; rw [List.length_map]
  omega
/-- What holds of the state while the rules are tried. -/
def FnOk (st : Nat × Bool × UInt8) : Prop := st.1 ≤ 5 ∧ (st.2.1 = true → 0 < st.1)
theorem fnOk_step (p : List UInt8) (st : Nat × Bool × UInt8) (r : Sx.RawR) (h : FnOk st) : FnOk (fndT p st r) := by
  obtain ⟨h1, h2⟩ := raw_len r
  have hmo : (if Sx.rawK r = 42 then 1 else 0) ≤ 1 := by split <;> omega
  unfold fndT
  obtain ⟨mo, hm⟩ : ∃ mo, (if Sx.rawK r = 42 then 1 else 0) = mo := ⟨_, rfl⟩
  rw [hm] at hmo ⊢
  split
  · exact h
  · split
    · exact ⟨show (Sx.rawRl r).1.length + mo ≤ 5 by omega, fun _ => show 0 < (Sx.rawRl r).1.length + mo by omega⟩
    · exact h
theorem fnOk_all (p : List UInt8) : ∀ (m : List Sx.RawR) (st : Nat × Bool × UInt8), FnOk st → FnOk (m.foldl (fndT p) st)
  | [], _, h => h
  | r :: m, st, h => by rw [List.foldl_cons]; exact fnOk_all p m _ (fnOk_step p st r h)
/-- One rule tried, case by case. -/
theorem fnd_no {p : List UInt8} {st : Nat × Bool × UInt8} {r : Sx.RawR} (h : Sx.fitT p (Sx.dotted (Sx.rawRl r).1) (if Sx.rawK r = 42 then 1 else 0) = false ∨ (st.2.1 = true ∧ Sx.rawK r ≠ 33)) : fndT p st r = st := by
  unfold fndT; rw [if_pos h]
theorem fnd_yes {p : List UInt8} {st : Nat × Bool × UInt8} {r : Sx.RawR} {n : Nat} (hn : (Sx.rawRl r).1.length + (if Sx.rawK r = 42 then 1 else 0) = n) (h : ¬ (Sx.fitT p (Sx.dotted (Sx.rawRl r).1) (if Sx.rawK r = 42 then 1 else 0) = false ∨ (st.2.1 = true ∧ Sx.rawK r ≠ 33))) (h2 : (Sx.rawK r = 33 ∧ st.2.1 = false) ∨ st.1 < n ∨ (n = st.1 ∧ Sx.rawK r = 36)) : fndT p st r = (n, decide (Sx.rawK r = 33), Sx.rawS r) := by
  unfold fndT; rw [if_neg h, hn, if_pos h2]
theorem fnd_pass {p : List UInt8} {st : Nat × Bool × UInt8} {r : Sx.RawR} {n : Nat} (hn : (Sx.rawRl r).1.length + (if Sx.rawK r = 42 then 1 else 0) = n) (h2 : ¬ ((Sx.rawK r = 33 ∧ st.2.1 = false) ∨ st.1 < n ∨ (n = st.1 ∧ Sx.rawK r = 36))) : fndT p st r = st := by
  unfold fndT
  rw [hn, if_neg h2]
  exact ite_self _
theorem raw_dots (r : Sx.RawR) : Sx.dotsN (Sx.dotted (Sx.rawRl r).1) + 1 = (Sx.rawRl r).1.length := by
  have hrt := (Sx.rawRl_rt r).ok
  have hh := hrt.1
  exact Sx.dotsN_dotted _ hh.1 (fun x hx b hb => Sx.plB_no46 ((hh.2.2.2 x hx).2 b hb))
theorem ix_plain_len {ix : List Nat} (hi : Sx.IxOk ix) (h4 : ix.length ≤ 4) : (Sx.dotted (ix.map Sx.nmP)).length ≤ 100 := by
  have h1 := Sx.dots_le 11 (ix.map Sx.nmP) (fun x hx => by
      obtain ⟨i, hi', rfl⟩ := List.mem_map.1 hx
      exact (Sx.nm_is i (hi.lt i hi')).2.2.2.2.2.1)
  rw [List.length_map] at h1
  omega
theorem ix_name_len {ix : List Nat} (hi : Sx.IxOk ix) (h4 : ix.length ≤ 4) : (Sx.dotted (ix.map Sx.nm)).length ≤ 100 := by
  have h1 := Sx.dots_le 7 (ix.map Sx.nm) (fun x hx => by
      obtain ⟨i, hi', rfl⟩ := List.mem_map.1 hx
      exact (Sx.nm_is i (hi.lt i hi')).2.2.2.2.2.2.1)
  rw [List.length_map] at h1
  omega
theorem fndN_t (cn : Nat) (cs : UInt8) : Sx.fndN (cn, true, cs) = if cn - 1 = 0 then 1 else cn - 1 := rfl
theorem fndN_f (cn : Nat) (cs : UInt8) : Sx.fndN (cn, false, cs) = if cn = 0 then 1 else cn := rfl
end Go.Proofs.YtgohllfpceeboaaGreatDoor
