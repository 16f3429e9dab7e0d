import Derived.Test.YtgohllfpceeboaaGreatDoorSbba
import Derived.Test.YtgohllfpceeboaaGreatDoorSbay
import Derived.Test.YtgohllfpceeboaaGreatDoorSbaz
import Derived.Test.YtgohllfpceeboaaGreatDoorSbbg
namespace Go.Proofs.YtgohllfpceeboaaGreatDoor
open Go.ChangeShapes Go.WideShapes Go.ChangeAt Go.RowKit Go.Deep
theorem Tryz.cells67 : Tryz.prog.cellsOf 67 = 5 := by kernel_rfl
theorem i64_wfS {n : Int} (h : (Lit.int .i64 n).wf = true) : -9223372036854775808 ≤ n ∧ n ≤ 9223372036854775807 := by
  simp [Lit.wf, IntKind.min, IntKind.max, IntKind.signed, IntKind.bits] at h
  omega
set_option maxRecDepth 100000 in
/-- A raw rule, opened: its five cells. -/
theorem rule_openS {H : Type} {enc : TypeId × Value → H} {w : World} {base : Nat} {spare : Nat → Bool} {held : Bool} {fuel : Nat} {cs : List Value} {x : DataW H × List MemPlace} (h : DataW.trod enc Tryz.prog w base spare held fuel 67 cs = some x) :
    ∃ q : Sx.RawR, cs = [.int .i64 q.1, .int .i64 q.2.1, .int .i64 q.2.2.1, .int .i64 q.2.2.2.1, .int .i64 q.2.2.2.2] ∧ RawOk q := by
  obtain ⟨xs, n, rfl, -, hl, hx, hf⟩ := DataW.trod_struct Tryz.underlying67 h
  rw [Tryz.cells67] at hl
  have hx2 : xs.length = 5 := hx
  have f0 : DataW.trod enc Tryz.prog w base spare held n 3 ((cs.drop 0).take (Tryz.prog.cellsOf 3)) = xs[0]? := hf 0 _ rfl
  have f1 : DataW.trod enc Tryz.prog w base spare held n 3 ((cs.drop 1).take (Tryz.prog.cellsOf 3)) = xs[1]? := hf 1 _ rfl
  have f2 : DataW.trod enc Tryz.prog w base spare held n 3 ((cs.drop 2).take (Tryz.prog.cellsOf 3)) = xs[2]? := hf 2 _ rfl
  have f3 : DataW.trod enc Tryz.prog w base spare held n 3 ((cs.drop 3).take (Tryz.prog.cellsOf 3)) = xs[3]? := hf 3 _ rfl
  have f4 : DataW.trod enc Tryz.prog w base spare held n 3 ((cs.drop 4).take (Tryz.prog.cellsOf 3)) = xs[4]? := hf 4 _ rfl
  rw [List.getElem?_eq_getElem (by omega)] at f0 f1 f2 f3 f4
  obtain ⟨a0, e0, -, w0⟩ := DataW.trod_int Tryz.underlying3 f0
  obtain ⟨a1, e1, -, w1⟩ := DataW.trod_int Tryz.underlying3 f1
  obtain ⟨a2, e2, -, w2⟩ := DataW.trod_int Tryz.underlying3 f2
  obtain ⟨a3, e3, -, w3⟩ := DataW.trod_int Tryz.underlying3 f3
  obtain ⟨a4, e4, -, w4⟩ := DataW.trod_int Tryz.underlying3 f4
  rw [Tryz.cells3] at e0 e1 e2 e3 e4
  have g0 := one_of_part e0
  have g1 := one_of_part e1
  have g2 := one_of_part e2
  have g3 := one_of_part e3
  have g4 := one_of_part e4
  refine ⟨(a0, a1, a2, a3, a4), ?_, i64_wfS w0, i64_wfS w1, i64_wfS w2, i64_wfS w3, i64_wfS w4⟩
  match cs, hl with
  | [c0, c1, c2, c3, c4], _ =>
    simp only [List.getElem?_cons_zero, List.getElem?_cons_succ, Option.some.injEq] at g0 g1 g2 g3 g4
    subst g0 g1 g2 g3 g4
    rfl
set_option maxRecDepth 100000 in
/-- Raw rules that came in, opened. -/
theorem steps_open {H : Type} {enc : TypeId × Value → H} {w : World} {fuel : Nat} {v : Value} {x : DataW H × List MemPlace} (h : DataW.trod enc Tryz.prog w 0 (fun _ => true) true fuel 63 [v] = some x) :
    ∃ l : List Sx.RawR, l.length ≤ 9223372036854775807 ∧ RdR w v l := by
  rcases open_slice Tryz.underlying63 h with ⟨hcs, -⟩ | ⟨a, len, cap, m, n2, D, Pl, hcs, -, hl2, hm, hmm, -, hel⟩
  · simp only [List.cons.injEq, and_true] at hcs
    subst hcs
    exact ⟨[], by simp, none, 0, rfl, by simp, fun j hj => absurd hj (Nat.not_lt_zero _)⟩
  · simp only [List.cons.injEq, and_true] at hcs
    subst hcs
    simp only [if_true] at hmm
    subst hmm
    rw [Tryz.cells67] at hel
    obtain ⟨S, hS⟩ := choose_lt (α := Sx.RawR) (p := fun i q => w.cells? 0 (a.add (i * 5)) 5 = some [.int .i64 q.1, .int .i64 q.2.1, .int .i64 q.2.2.1, .int .i64 q.2.2.2.1, .int .i64 q.2.2.2.2] ∧ RawOk q) (fun i (hi : i < len) => by
      obtain ⟨cs', g1, g2⟩ := hel i (by omega)
      obtain ⟨q, rfl, g3⟩ := rule_openS g2
      exact ⟨q, g1, g3⟩)
    have hLl : ((List.range len).map S).length = len := by simp
    have hml : len ≤ 9223372036854775807 := by have := Nat.le_trans hl2 hm; unfold maxLen at this; omega
    refine ⟨(List.range len).map S, by rw [hLl]; exact hml, some a, _, by rw [hLl], fun q hq => ?_, fun j hj => ?_⟩
    · obtain ⟨i, hi, rfl⟩ := List.mem_map.1 hq
      exact (hS i (List.mem_range.1 hi)).2
    · rw [hLl] at hj
      obtain ⟨b, off, spot⟩ := a
      have hc : ∀ j, j < len → ∀ i u, ([Value.int .i64 (S j).1, .int .i64 (S j).2.1, .int .i64 (S j).2.2.1, .int .i64 (S j).2.2.2.1, .int .i64 (S j).2.2.2.2])[i]? = some u → w.cell? ((⟨b, off, spot⟩ : Addr).add (j * 5) |>.add i) = some u := fun j hj i u hu => by
        obtain ⟨-, hlen, hcell⟩ := World.cells?_some (hS j hj).1
        have hi : i < 5 := by rw [← hlen]; exact (List.getElem?_eq_some_iff.1 hu).1
        rw [hcell i hi]; exact hu
      have hspot : spot = none := by
        have := hc 0 (by omega) 0 _ rfl
        simpa [Addr.add] using World.cell?_spot this
      subst hspot
      have hadd : ∀ j i, ((⟨b, off, none⟩ : Addr).add (j * 5)).add i = ⟨b, off + j * 5 + i, none⟩ := fun j i => by rw [Addr.add_lit, Addr.add_lit]
      have h0 := hc j hj 0 _ rfl
      have h1 := hc j hj 1 _ rfl
      have h2 := hc j hj 2 _ rfl
      have h3 := hc j hj 3 _ rfl
      have h4 := hc j hj 4 _ rfl
      rw [hadd] at h0 h1 h2 h3 h4
      rw [Nat.add_zero] at h0
      have hSj : ((List.range len).map S)[j]'(by rw [hLl]; exact hj) = S j := by simp
      refine ⟨b, off, rfl, cell_has h0, ?_⟩
      rw [hSj]
      exact ⟨h0, h1, h2, h3, h4⟩
end Go.Proofs.YtgohllfpceeboaaGreatDoor
