import Derived.Test.YtgohllfpceeboaaGreatDoorRows
import Derived.Test.YtgohllfpceeboaaGreatDoorGak
import Derived.ProofKit
import Derived.Deep.Slices
import Derived.Lib.LaidU8T
import Derived.Lay
import Derived.MakeChecks
import Derived.Stop.Joined
import Derived.Test.YtgohllfpceeboaaGreatDoorCards
import Derived.Test.YtgohllfpceeboaaGreatDoorTie
import Derived.SevenTiedAt
namespace Go.Proofs.YtgohllfpceeboaaGreatDoor
open Go.ChangeShapes Go.WideShapes Go.ChangeAt Go.RowKit Go.Deep

theorem Tryz.own : ownKnob Tryz.prog.godebug = none := by kernel_rfl
theorem Tryz.laidOut : laidOutB Tryz.prog = true := by kernel_rfl
theorem Tryz.cells78 : Tryz.prog.cellsOf 78 = 8 := by kernel_rfl
theorem Tryz.cells3 : Tryz.prog.cellsOf 3 = 1 := by kernel_rfl
theorem Tryz.cells9 : Tryz.prog.cellsOf 9 = 1 := by kernel_rfl
theorem Tryz.cells34 : Tryz.prog.cellsOf 34 = 1 := by kernel_rfl
theorem Tryz.cells4 : Tryz.prog.cellsOf 4 = 1 := by kernel_rfl

/-- One cell's part of a row of cells. -/
theorem one_of_part {cs : List Value} {i : Nat} {v : Value} (h : (cs.drop i).take 1 = [v]) : cs[i]? = some v := by
  have h0 : ((cs.drop i).take 1)[0]? = some v := by rw [h]; rfl
  simpa using h0

set_option maxRecDepth 100000 in
/-- A step of a script, opened: its eight cells. -/
theorem op_open {H : Type} {enc : TypeId × Value → H} {w : World} {base : Nat} {spare : Nat → Bool} {held : Bool} {fuel : Nat} {cs : List Value} {x : DataW H × List MemPlace} (h : DataW.trod enc Tryz.prog w base spare held fuel 78 cs = some x) :
    ∃ o : OpC, cs = o.cells := by
  obtain ⟨xs, n, rfl, -, hl, hx, hf⟩ := DataW.trod_struct Tryz.underlying78 h
  rw [Tryz.cells78] at hl
  have hx8 : xs.length = 8 := hx
  have f0 : DataW.trod enc Tryz.prog w base spare held n 3 ((cs.drop 0).take (Tryz.prog.cellsOf 3)) = xs[0]? := hf 0 _ rfl
  have f1 : DataW.trod enc Tryz.prog w base spare held n 3 ((cs.drop 1).take (Tryz.prog.cellsOf 3)) = xs[1]? := hf 1 _ rfl
  have f2 : DataW.trod enc Tryz.prog w base spare held n 3 ((cs.drop 2).take (Tryz.prog.cellsOf 3)) = xs[2]? := hf 2 _ rfl
  have f3 : DataW.trod enc Tryz.prog w base spare held n 3 ((cs.drop 3).take (Tryz.prog.cellsOf 3)) = xs[3]? := hf 3 _ rfl
  have f4 : DataW.trod enc Tryz.prog w base spare held n 9 ((cs.drop 4).take (Tryz.prog.cellsOf 9)) = xs[4]? := hf 4 _ rfl
  have f5 : DataW.trod enc Tryz.prog w base spare held n 9 ((cs.drop 5).take (Tryz.prog.cellsOf 9)) = xs[5]? := hf 5 _ rfl
  have f6 : DataW.trod enc Tryz.prog w base spare held n 34 ((cs.drop 6).take (Tryz.prog.cellsOf 34)) = xs[6]? := hf 6 _ rfl
  have f7 : DataW.trod enc Tryz.prog w base spare held n 4 ((cs.drop 7).take (Tryz.prog.cellsOf 4)) = xs[7]? := hf 7 _ rfl
  rw [List.getElem?_eq_getElem (by omega)] at f0 f1 f2 f3 f4 f5 f6 f7
  obtain ⟨a0, e0, -, -⟩ := DataW.trod_int Tryz.underlying3 f0
  obtain ⟨a1, e1, -, -⟩ := DataW.trod_int Tryz.underlying3 f1
  obtain ⟨a2, e2, -, -⟩ := DataW.trod_int Tryz.underlying3 f2
  obtain ⟨a3, e3, -, -⟩ := DataW.trod_int Tryz.underlying3 f3
  obtain ⟨a4, e4, -, -⟩ := DataW.trod_string Tryz.underlying9 f4
  obtain ⟨a5, e5, -, -⟩ := DataW.trod_string Tryz.underlying9 f5
  obtain ⟨a7, e7, -⟩ := DataW.trod_bool Tryz.underlying4 f7
  obtain ⟨la, ln, lc, e6⟩ : ∃ la ln lc, (cs.drop 6).take 1 = [Value.slice la ln lc] := by
    rcases DataW.trod_slice Tryz.underlying34 f6 with ⟨h0, -⟩ | ⟨a, len, cap, -, -, -, -, h0, -⟩
    · exact ⟨none, 0, 0, by rw [← Tryz.cells34]; exact h0⟩
    · exact ⟨some a, len, cap, by rw [← Tryz.cells34]; exact h0⟩
  rw [Tryz.cells3] at e0 e1 e2 e3
  rw [Tryz.cells9] at e4 e5
  rw [Tryz.cells4] at e7
  have g0 := one_of_part e0
  have g1 := one_of_part e1
  have g2 := one_of_part e2
  have g3 := one_of_part e3
  have g4 := one_of_part e4
  have g5 := one_of_part e5
  have g6 := one_of_part e6
  have g7 := one_of_part e7
  refine ⟨⟨a0, a1, a2, a3, a4, a5, la, ln, lc, a7⟩, ?_⟩
  match cs, hl with
  | [c0, c1, c2, c3, c4, c5, c6, c7], _ =>
    simp only [List.getElem?_cons_zero, List.getElem?_cons_succ, Option.some.injEq] at g0 g1 g2 g3 g4 g5 g6 g7
    subst g0 g1 g2 g3 g4 g5 g6 g7
    rfl

theorem first_eq : Rows.laid_unicode_utf8_first = Lib.firstData := by kernel_rfl
theorem accept_eq : (Rows.laid_unicode_utf8_acceptRanges : DataW Unit) = Lib.acceptData := by kernel_rfl
theorem u8x : U8Extra Tryz.prog Tryz.layValid_ren := ⟨by kernel_rfl, by kernel_rfl, by kernel_rfl, by kernel_rfl, by kernel_rfl, by kernel_rfl, by kernel_rfl⟩

end Go.Proofs.YtgohllfpceeboaaGreatDoor
