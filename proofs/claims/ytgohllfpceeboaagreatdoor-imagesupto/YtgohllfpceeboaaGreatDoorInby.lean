import Derived.Test.YtgohllfpceeboaaGreatDoorRows
import Derived.Test.YtgohllfpceeboaaGreatDoorInbu
import Derived.Test.YtgohllfpceeboaaGreatDoorInbx
import Derived.ProofKit
import Derived.Deep.Slices
import Derived.Lib.LaidU8T
import Derived.Lay
import Derived.MakeChecks
import Derived.Stop.Joined
import Derived.SevenTiedAt
import Derived.Laws.CopyOwn
namespace Go.Proofs.YtgohllfpceeboaaGreatDoor
open Go.ChangeShapes Go.WideShapes Go.ChangeAt Go.RowKit Go.Deep
theorem Tryz.own : ownKnob Tryz.prog.godebug = none := by kernel_rfl
theorem Tryz.laidOut : laidOutB Tryz.prog = true := by kernel_rfl
theorem Tryz.cells78 : Tryz.prog.cellsOf 78 = 8 := by kernel_rfl
theorem Tryz.cells3 : Tryz.prog.cellsOf 3 = 1 := by kernel_rfl
theorem Tryz.cells9 : Tryz.prog.cellsOf 9 = 1 := by kernel_rfl
theorem Tryz.cells34 : Tryz.prog.cellsOf 34 = 1 := by kernel_rfl
theorem Tryz.cells4 : Tryz.prog.cellsOf 4 = 1 := by kernel_rfl
theorem one_of_part {cs : List Value} {i : Nat} {v : Value} (h : (cs.drop i).take 1 = [v]) : cs[i]? = some v := by
 have h0 : ((cs.drop i).take 1)[0]? = some v := by rw [h]; rfl
 simpa using h0
set_option maxRecDepth 100000 in
theorem op_open {H : Type} {enc : TypeId × Value → H} {w : World} {base : Nat} {spare : Nat → Bool} {held : Bool} {fuel : Nat} {cs : List Value} {x : DataW H × List MemPlace} (h : DataW.trod enc Tryz.prog w base spare held fuel 78 cs = some x) :
 ∃ o : OpC, cs = o.cells := by
 obtain ⟨xs, n, rfl, -, hl, hx, hf⟩ := DataW.trod_struct Tryz.underlying78 h
 rw [Tryz.cells78] at hl
 have hx8 : xs.length = 8 := hx
 have f0 : DataW.trod enc Tryz.prog w base spare held n 3 ((cs.drop 0).take (Tryz.prog.cellsOf 3)) = xs[0]? := hf 0 _ rfl
 have f1 : DataW.trod enc Tryz.prog w base spare held n 3 ((cs.drop 1).take (Tryz.prog.cellsOf 3)) = xs[1]? := hf 1 _ rfl
 have f2 : DataW.trod enc Tryz.prog w base spare held n 3 ((cs.drop 2).take (Tryz.prog.cellsOf 3)) = xs[2]? := hf 2 _ rfl
 have f3 : DataW.trod enc Tryz.prog w base spare held n 3 ((cs.drop 3).take (Tryz.prog.cellsOf 3)) = xs[3]? := hf 3 _ rfl
 have f4 : DataW.trod enc Tryz.prog w base spare held n 9 ((cs.drop 4).take (Tryz.prog.cellsOf 9)) = xs[4]? := hf 4 _ rfl
 have f5 : DataW.trod enc Tryz.prog w base spare held n 9 ((cs.drop 5).take (Tryz.prog.cellsOf 9)) = xs[5]? := hf 5 _ rfl
 have f6 : DataW.trod enc Tryz.prog w base spare held n 34 ((cs.drop 6).take (Tryz.prog.cellsOf 34)) = xs[6]? := hf 6 _ rfl
 have f7 : DataW.trod enc Tryz.prog w base spare held n 4 ((cs.drop 7).take (Tryz.prog.cellsOf 4)) = xs[7]? := hf 7 _ rfl
 rw [List.getElem?_eq_getElem (by omega)] at f0 f1 f2 f3 f4 f5 f6 f7
 obtain ⟨a0, e0, -, -⟩ := DataW.trod_int Tryz.underlying3 f0
 obtain ⟨a1, e1, -, -⟩ := DataW.trod_int Tryz.underlying3 f1
 obtain ⟨a2, e2, -, -⟩ := DataW.trod_int Tryz.underlying3 f2
 obtain ⟨a3, e3, -, -⟩ := DataW.trod_int Tryz.underlying3 f3
 obtain ⟨a4, e4, -, -⟩ := DataW.trod_string Tryz.underlying9 f4
 obtain ⟨a5, e5, -, -⟩ := DataW.trod_string Tryz.underlying9 f5
 obtain ⟨a7, e7, -⟩ := DataW.trod_bool Tryz.underlying4 f7
 obtain ⟨la, ln, lc, e6⟩ : ∃ la ln lc, (cs.drop 6).take 1 = [Value.slice la ln lc] := by
  rcases DataW.trod_slice Tryz.underlying34 f6 with ⟨h0, -⟩ | ⟨a, len, cap, -, -, -, -, h0, -⟩
  · exact ⟨none, 0, 0, by rw [← Tryz.cells34]; exact h0⟩
  · exact ⟨some a, len, cap, by rw [← Tryz.cells34]; exact h0⟩
 rw [Tryz.cells3] at e0 e1 e2 e3
 rw [Tryz.cells9] at e4 e5
 rw [Tryz.cells4] at e7
 have g0 := one_of_part e0
 have g1 := one_of_part e1
 have g2 := one_of_part e2
 have g3 := one_of_part e3
 have g4 := one_of_part e4
 have g5 := one_of_part e5
 have g6 := one_of_part e6
 have g7 := one_of_part e7
 refine ⟨⟨a0, a1, a2, a3, a4, a5, la, ln, lc, a7⟩, ?_⟩
 match cs, hl with
 | [c0, c1, c2, c3, c4, c5, c6, c7], _ =>
   simp only [List.getElem?_cons_zero, List.getElem?_cons_succ, Option.some.injEq] at g0 g1 g2 g3 g4 g5 g6 g7
   subst g0 g1 g2 g3 g4 g5 g6 g7
   rfl
theorem first_eq : Rows.laid_unicode_utf8_first = Lib.firstData := by kernel_rfl
theorem accept_eq : (Rows.laid_unicode_utf8_acceptRanges : DataW Unit) = Lib.acceptData := by kernel_rfl
theorem u8x : U8Extra Tryz.prog Tryz.layValid_ren := ⟨by kernel_rfl, by kernel_rfl, by kernel_rfl, by kernel_rfl, by kernel_rfl, by kernel_rfl, by kernel_rfl⟩
end Go.Proofs.YtgohllfpceeboaaGreatDoor
namespace Go.Proofs.YtgohllfpceeboaaGreatDoor
open Go.RowKit
theorem RdS.below {W W' : World} {v : Value} {L : List (List UInt8)} (h : RdS W v L) (hb : Below W.heap.size W W') : RdS W' v L := by
 obtain ⟨p, cap, h1, h2⟩ := h
 refine ⟨p, cap, h1, fun j hj => ?_⟩
 obtain ⟨b, off, e1, e2, e3⟩ := h2 j hj
 exact ⟨b, off, e1, Nat.lt_of_lt_of_le e2 hb.size, (hb.cell (p := ⟨b, off + j, none⟩) e2).trans e3⟩
end Go.Proofs.YtgohllfpceeboaaGreatDoor
namespace Go.Proofs.YtgohllfpceeboaaGreatDoor
open Go.RowKit
def OpLs (w : World) (o : OpC) : Prop := ∃ L : List (List UInt8), L.length = o.ln ∧ L.length ≤ 1048576 ∧ Sx.sl L ≤ 1048576 ∧ RdS w (.slice o.la o.ln o.lc) L
theorem OpLs.below {w w' : World} {o : OpC} (h : OpLs w o) (hb : Below w.heap.size w w') : OpLs w' o := by
 obtain ⟨L, h1, h2, h3, h4⟩ := h
 exact ⟨L, h1, h2, h3, RdS.below h4 hb⟩
end Go.Proofs.YtgohllfpceeboaaGreatDoor
namespace Go.Proofs.YtgohllfpceeboaaGreatDoor
open Go.RowKit
theorem ba_back (i : ByteArray) : (⟨i.data.toList.toArray⟩ : ByteArray) = i := by simp
theorem op_box (w W0 : World) (a0 a1 a2 a3 a4 a5 a6 a7 : Value) (hW : w.alloc (.cells #[a0, a1, a2, a3, a4, a5, a6, a7] 78) = W0) : W0.heap.size = w.heap.size + 1 ∧ Below w.heap.size w W0 ∧ ∀ W, Below W0.heap.size W0 W → Below w.heap.size w W ∧ W.cell? ⟨w.heap.size, 0, none⟩ = some a0 ∧ W.cell? ⟨w.heap.size, 1, none⟩ = some a1 ∧ W.cell? ⟨w.heap.size, 2, none⟩ = some a2 ∧ W.cell? ⟨w.heap.size, 3, none⟩ = some a3 ∧ W.cell? ⟨w.heap.size, 4, none⟩ = some a4 ∧ W.cell? ⟨w.heap.size, 5, none⟩ = some a5 ∧ W.cell? ⟨w.heap.size, 6, none⟩ = some a6 ∧ W.cell? ⟨w.heap.size, 7, none⟩ = some a7 := by
 have hs : W0.heap.size = w.heap.size + 1 := by rw [← hW, World.size_alloc]
 have hB : Below w.heap.size w W0 := by rw [← hW]; exact (Below.refl _ _).alloc (Nat.le_refl _) _
 have hb : W0.heap[w.heap.size]? = some (.cells #[a0, a1, a2, a3, a4, a5, a6, a7] 78 (0, 0)) := by rw [← hW]; exact heap_alloc_new _ _
 refine ⟨hs, hB, fun W h => ?_⟩
 have h1 := (h.block w.heap.size (by omega)).trans hb
 refine ⟨hB.trans (h.mono (by omega)), ?_⟩
 simp [World.cell?, h1]
set_option maxRecDepth 100000 in
set_option maxHeartbeats 2000000 in
theorem law_image (L : List (List UInt8)) (a0 a1 a2 a3 a5 : Value) (s : ByteArray) (md : Bool) (la : Option Addr) (lc : Nat) (w : World) (hrd : RdS w (.slice la L.length lc) L) (hL : L.length ≤ 1048576) (hsl : Sx.sl L ≤ 1048576) : Calls Tryz.prog 68 #[.agg #[a0, a1, a2, a3, .string s, a5, .slice la L.length lc, .bool md]] w fun e w' => ∃ I : ByteArray, e = .returned (.string I) ∧ Below w.heap.size w w' := by
 obtain ⟨W0, hW0⟩ : ∃ W0, w.alloc (.cells #[a0, a1, a2, a3, .string s, a5, .slice la L.length lc, .bool md] 78) = W0 := ⟨_, rfl⟩
 obtain ⟨-, hB0, hbx⟩ := op_box w W0 _ _ _ _ _ _ _ _ hW0
 obtain ⟨-, c0, c1, c2, c3, c4, c5, c6, c7⟩ := hbx W0 (Below.refl _ _)
 have HCO := hide (rcomp L _ W0 (RdS.below hrd hB0) (by omega) (by omega))
 have HB0 := hide hB0
 have HW0 := hide hW0
 clear hrd hbx hB0 hW0
 obtain ⟨X, hX⟩ : ∃ X : ByteArray, ⟨(Sx.compR L).1.toArray⟩ = X := ⟨_, rfl⟩
 obtain ⟨x1, hx1⟩ : ∃ x, (Sx.compR L).2.1 = x := ⟨_, rfl⟩
 obtain ⟨x2, hx2⟩ : ∃ x, (Sx.compR L).2.2 = x := ⟨_, rfl⟩
 rw [hX, hx1, hx2] at HCO
 clear hX hx1 hx2
 cases md with
 | true =>
   go_enter Tryz.func68, Tryz.ntmps68
   go_upto_region 1 with fail
   rw [HW0.out]
   go_wp2_with fail
   refine HCO.out.mono ?_
   rintro e w1 ⟨rfl, hB1⟩
   have HB1 := hide (HB0.out.trans (hB1.mono HB0.out.size))
   clear hB1
   go_wp2
   go_ret
   exact ⟨_, rfl, HB1.out⟩
 | false =>
   go_enter Tryz.func68, Tryz.ntmps68
   go_upto_region 1 with fail
   rw [HW0.out]
   go_wp2
   go_ret
   exact ⟨_, rfl, HB0.out⟩
set_option maxRecDepth 100000 in
set_option maxHeartbeats 4000000 in
theorem law_images (L : List (List UInt8)) (k : Int) (hk : k = 4 ∨ k = 5) (a1 a2 a3 : Value) (s t : ByteArray) (md : Bool) (la : Option Addr) (lc : Nat) (w : World) (hw : LWt w) (hrd : RdS w (.slice la L.length lc) L) (hL : L.length ≤ 1048576) (hsl : Sx.sl L ≤ 1048576) : Calls Tryz.prog 66 #[.agg #[.int .i64 k, a1, a2, a3, .string s, .string t, .slice la L.length lc, .bool md]] w fun e w' => e = .returned (.bool true) ∧ Below w.heap.size w w' := by
 obtain ⟨W0, hW0⟩ : ∃ W0, w.alloc (.cells #[.int .i64 k, a1, a2, a3, .string s, .string t, .slice la L.length lc, .bool md] 78) = W0 := ⟨_, rfl⟩
 obtain ⟨-, hB0, hbx⟩ := op_box w W0 _ _ _ _ _ _ _ _ hW0
 obtain ⟨-, c0, c1, c2, c3, c4, c5, c6, c7⟩ := hbx W0 (Below.refl _ _)
 have HIM := hide (law_image L (.int .i64 k) a1 a2 a3 (.string t) s md la lc W0 (RdS.below hrd hB0) hL hsl)
 have HBX := hide hbx
 have HLW : Hid (∀ W, Below w.heap.size w W → LWt W) := hide (fun W h => lwt_stays _ _ hw h)
 have HW0 := hide hW0
 clear hrd hbx hB0 hW0 hw
 rcases hk with rfl | rfl
 · go_enter Tryz.func66, Tryz.ntmps66
   go_upto_region 1 with fail
   rw [HW0.out]
   go_wp2_with fail
   refine HIM.out.mono ?_
   rintro e w1 ⟨I, rfl, hB1⟩
   obtain ⟨hb1, d0, d1, d2, d3, d4, d5, d6, d7⟩ := HBX.out _ hB1
   have HP := hide (fun W h => prules I W h)
   have HR := hide (fun W => rrules I.data.toList W)
   rw [ba_back] at HR
   obtain ⟨X, hX⟩ : ∃ X : ByteArray, ⟨(lsR I.data.toList).1.toArray⟩ = X := ⟨_, rfl⟩
   obtain ⟨n, hn⟩ : ∃ x, (lsR I.data.toList).2 = x := ⟨_, rfl⟩
   rw [hX, hn] at HP HR
   have xx : (X.toList == X.toList) = true := by simp
   have nn : (n == n) = true := by simp
   have HB1 := hide hb1
   clear hX hn c0 c1 c2 c3 c4 c5 c6 c7 hB1 hb1
   go_wp2_with fail
   refine (HP.out _ (HLW.out _ HB1.out)).mono ?_
   rintro e w2 ⟨rfl, hB2⟩
   have HB2 := hide (HB1.out.trans (hB2.mono HB1.out.size))
   clear hB2 d0 d1 d2 d3 d4 d5 d6 d7
   go_wp2_with fail
   refine (HR.out _).mono ?_
   rintro e w3 ⟨rfl, hB3⟩
   have HB3 := hide (HB2.out.trans (hB3.mono HB2.out.size))
   clear hB3
   go_wp2_with (go_at_call 99; go_must (refine (num_any _ _).mono ?_; rintro e w' ⟨rfl, rfl⟩))
   go_ret
   exact ⟨rfl, HB3.out⟩
 · go_enter Tryz.func66, Tryz.ntmps66
   go_upto_region 1 with fail
   rw [HW0.out]
   go_wp2_with fail
   refine HIM.out.mono ?_
   rintro e w1 ⟨I, rfl, hB1⟩
   obtain ⟨hb1, d0, d1, d2, d3, d4, d5, d6, d7⟩ := HBX.out _ hB1
   have HC5 : Hid (∀ W, Below w1.heap.size w1 W → W.cell? ⟨w.heap.size, 5, none⟩ = some (.string t)) := hide (fun W h => (h.cell (p := ⟨w.heap.size, 5, none⟩) (World.block_lt_of_cell? w1 ⟨w.heap.size, 5, none⟩ d5)).trans d5)
   have HP := hide (fun W h => plook I t W h)
   have HR := hide (fun W => rlook I.data.toList t W)
   rw [ba_back] at HR
   obtain ⟨⟨q1, q2, q3, n⟩, hq⟩ : ∃ x, lkR I.data.toList t.data.toList = x := ⟨_, rfl⟩
   rw [hq] at HP HR
   dsimp only at HP HR
   obtain ⟨X, hX⟩ : ∃ X : ByteArray, ⟨q1.toArray⟩ = X := ⟨_, rfl⟩
   obtain ⟨Y, hY⟩ : ∃ X : ByteArray, ⟨q2.toArray⟩ = X := ⟨_, rfl⟩
   obtain ⟨Z, hZ⟩ : ∃ X : ByteArray, ⟨q3.toArray⟩ = X := ⟨_, rfl⟩
   rw [hX, hY, hZ] at HP HR
   have xx : (X.toList == X.toList) = true := by simp
   have yy : (Y.toList == Y.toList) = true := by simp
   have zz : (Z.toList == Z.toList) = true := by simp
   have nn : (n == n) = true := by simp
   have HB1 := hide hb1
   clear hX hY hZ hq c0 c1 c2 c3 c4 c5 c6 c7 hB1 hb1
   go_wp2_with fail
   refine (HP.out _ (HLW.out _ HB1.out)).mono ?_
   rintro e w2 ⟨rfl, hB2⟩
   have e5 := HC5.out _ hB2
   have HB2 := hide (HB1.out.trans (hB2.mono HB1.out.size))
   clear hB2 d0 d1 d2 d3 d4 d5 d6 d7
   go_wp2_with fail
   refine (HR.out _).mono ?_
   rintro e w3 ⟨rfl, hB3⟩
   have HB3 := hide (HB2.out.trans (hB3.mono HB2.out.size))
   clear hB3
   go_wp2_with (go_at_call 99; go_must (refine (num_any _ _).mono ?_; rintro e w' ⟨rfl, rfl⟩))
   go_ret
   exact ⟨rfl, HB3.out⟩
set_option maxRecDepth 100000 in
set_option maxHeartbeats 1000000 in
theorem step_img (wp : Value) (o : OpC) (hk : o.k = 4 ∨ o.k = 5) (w : World) (hw : LWt w) (hl : OpLs w o) :
 Calls Tryz.prog 45 #[wp, .agg o.cells.toArray] w fun e w' => e = .returned (.bool true) ∧ Below w.heap.size w w' := by
 obtain ⟨k, n1, n2, n3, s, t, la, ln, lc, md⟩ := o
 obtain ⟨L, h1, h2, h3, h4⟩ := hl
 dsimp only at h1 h4 hk
 subst h1
 have hcs : (OpC.cells ⟨k, n1, n2, n3, s, t, la, L.length, lc, md⟩).toArray = #[.int .i64 k, .int .i64 n1, .int .i64 n2, .int .i64 n3, .string s, .string t, .slice la L.length lc, .bool md] := rfl
 rw [hcs]
 have hB0 : Below w.heap.size w (w.alloc (.cells #[.int .i64 k, .int .i64 n1, .int .i64 n2, .int .i64 n3, .string s, .string t, .slice la L.length lc, .bool md] 78)) := (Below.refl _ _).alloc (Nat.le_refl _) _
 have HC := hide (law_images L k hk (.int .i64 n1) (.int .i64 n2) (.int .i64 n3) s t md la lc _ (lwt_stays _ _ hw hB0) (RdS.below h4 hB0) h2 h3)
 clear hcs hw h4
 rcases hk with rfl | rfl
 all_goals (
  go_enter Tryz.func45, Tryz.ntmps45
  go_wp2_with fail
  refine HC.out.mono ?_
  rintro e w1 ⟨rfl, hB1⟩
  have hBB := hB0.trans (hB1.mono (by simp))
  clear HC hB0 hB1
  go_wp2
  go_ret
  exact ⟨rfl, hBB⟩)
set_option maxRecDepth 100000 in
set_option maxHeartbeats 1000000 in
theorem plays_img (l : List OpC) (b off cap : Nat) (w : World) (hw : LWt w) (ho : OpsAt w b off l) (hls : ∀ o ∈ l, OpLs w o) (hl : l.length ≤ maxLen) :
 Calls Tryz.prog 15 #[.slice (some ⟨b, off, none⟩) l.length cap, .int .i64 4, .int .i64 5] w fun e w' => e = .returned (.bool true) ∧ Below w.heap.size w w' := by
 unfold maxLen at hl
 have HO := hide ho
 have HW := hide hw
 have HLS := hide hls
 have hbw := ho.1
 clear ho hw hls
 go_enter Tryz.func15, Tryz.ntmps15
 go_wp2
 go_loopw [8] (fun i wr => ∃ j : Nat, i = .int .i64 j ∧ j ≤ l.length ∧ Below w.heap.size w wr) (fun i _ => (l.length - intOf i).toNat)
 case atStart => exact ⟨0, rfl, by omega, (Below.refl _ _).alloc (Nat.le_refl _) _⟩
 case round =>
  obtain ⟨j, rfl, hj, hB⟩ := hrel
  by_cases hlt : j < l.length
  · have hcs : ∀ i v, (l[j].cells)[i]? = some v → wr.cell? ⟨b, off + j * 8 + i, none⟩ = some v := fun i v h => (hB.cell (p := ⟨b, off + j * 8 + i, none⟩) hbw).trans (HO.out.2 j hlt i v h)
    have hol := HLS.out l[j] (List.getElem_mem hlt)
    obtain ⟨o, hoo⟩ : ∃ o, l[j] = o := ⟨_, rfl⟩
    rw [hoo] at hcs hol
    clear hoo
    have hst := fun (w' : World) (hk : o.k = 4 ∨ o.k = 5) (hb : Below w.heap.size w w') => step_img (.pointer (some ⟨w.heap.size, 0, none⟩)) o hk w' (lwt_stays _ _ HW.out hb) (hol.below hb)
    have HST := hide hst
    clear hst hol
    obtain ⟨k, n1, n2, n3, s, t, la, ln, lc, md⟩ := o
    have c0 := hcs 0 _ rfl
    have c1 := hcs 1 _ rfl
    have c2 := hcs 2 _ rfl
    have c3 := hcs 3 _ rfl
    have c4 := hcs 4 _ rfl
    have c5 := hcs 5 _ rfl
    have c6 := hcs 6 _ rfl
    have c7 := hcs 7 _ rfl
    rw [Nat.add_zero] at c0
    clear hcs
    have hB2 : Below w.heap.size w (wr.alloc (.cells #[.int .i64 k, .int .i64 n1, .int .i64 n2, .int .i64 n3, .string s, .string t, .slice la ln lc, .bool md] 78)) := hB.alloc hB.size _
    by_cases h1 : 4 ≤ k
    · by_cases h2 : k ≤ 5
      · have HC := hide (HST.out _ (by show k = 4 ∨ k = 5; omega) hB2)
        have hc : (OpC.cells ⟨k, n1, n2, n3, s, t, la, ln, lc, md⟩).toArray = #[.int .i64 k, .int .i64 n1, .int .i64 n2, .int .i64 n3, .string s, .string t, .slice la ln lc, .bool md] := rfl
        rw [hc] at HC
        clear hc HST
        go_wp2_with fail
        refine HC.out.mono ?_
        rintro e w2 ⟨rfl, hB3⟩
        have hBB := hB2.trans (hB3.mono (by have := hB.size; simp; omega))
        clear HC hB3 hB2
        go_wp2
        exact ⟨⟨j + 1, by go_num, by omega, hBB⟩, by simp [intOf]; omega⟩
      · clear HST
        go_wp2
        exact ⟨⟨j + 1, by go_num, by omega, hB2⟩, by simp [intOf]; omega⟩
    · clear HST
      go_wp2
      exact ⟨⟨j + 1, by go_num, by omega, hB2⟩, by simp [intOf]; omega⟩
  · go_wp2
    go_ret
    exact ⟨rfl, hB⟩
theorem plays_zeroI (a : Option Addr) (cap : Nat) (w : World) : Calls Tryz.prog 15 #[.slice a 0 cap, .int .i64 4, .int .i64 5] w fun e w' => e = .returned (.bool true) ∧ Below w.heap.size w w' := by
 go_enter Tryz.func15, Tryz.ntmps15
 go_wp2
 go_loopw [8] (fun i wr => i = .int .i64 0 ∧ Below w.heap.size w wr) (fun _ _ => 0)
 case atStart => exact ⟨rfl, (Below.refl _ _).alloc (Nat.le_refl _) _⟩
 case round =>
  obtain ⟨rfl, hB⟩ := hrel
  go_wp2
  go_ret
  exact ⟨rfl, hB⟩
theorem img_law (l : List OpC) (b off cap : Nat) (w : World) (hw : LWt w) (ho : OpsAt w b off l) (hls : ∀ o ∈ l, OpLs w o) (hl : l.length ≤ maxLen) :
 Calls Tryz.prog 5 #[.slice (some ⟨b, off, none⟩) l.length cap] w fun e w' => e = .returned (.bool true) ∧ Below w.heap.size w w' := by
 have HC := hide (plays_img l b off cap w hw ho hls hl)
 clear hw ho hls
 go_enter Tryz.func5, Tryz.ntmps5
 go_wp2_with (go_at_call 15; go_must (refine HC.out.mono ?_; rintro e w' ⟨rfl, hB⟩))
 go_ret
 exact ⟨rfl, hB⟩
theorem img_law_zero (a : Option Addr) (cap : Nat) (w : World) : Calls Tryz.prog 5 #[.slice a 0 cap] w fun e w' => e = .returned (.bool true) ∧ Below w.heap.size w w' := by
 have HC := hide (plays_zeroI a cap w)
 go_enter Tryz.func5, Tryz.ntmps5
 go_wp2_with (go_at_call 15; go_must (refine HC.out.mono ?_; rintro e w' ⟨rfl, hB⟩))
 go_ret
 exact ⟨rfl, hB⟩
end Go.Proofs.YtgohllfpceeboaaGreatDoor
