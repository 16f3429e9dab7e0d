import Derived.Test.YtgohllfpceeboabGreatDoorSbbb
import Derived.Test.YtgohllfpceeboabGreatDoorSbaa
import Derived.Test.YtgohllfpceeboabGreatDoorSbar
import Derived.Test.YtgohllfpceeboabGreatDoorSbas
import Derived.Test.YtgohllfpceeboabGreatDoorSbat
import Derived.Test.YtgohllfpceeboabGreatDoorSbbd
import Derived.Test.YtgohllfpceeboabGreatDoorProg
import Derived.Test.YtgohllfpceeboabGreatDoorSbah
import Derived.Test.YtgohllfpceeboabGreatDoorSbal
import Derived.Test.YtgohllfpceeboabGreatDoorSbao
import Derived.Test.YtgohllfpceeboabGreatDoorSbab
import Derived.Test.YtgohllfpceeboabGreatDoorSbay
import Derived.Test.YtgohllfpceeboabGreatDoorSbba
import Derived.Test.YtgohllfpceeboabGreatDoorSbaq
import Derived.Test.YtgohllfpceeboabGreatDoorSbac
import Derived.Test.YtgohllfpceeboabGreatDoorSbaw
import Derived.Test.YtgohllfpceeboabGreatDoorSbav
import Derived.Test.YtgohllfpceeboabGreatDoorSbaz
namespace Go.Proofs.YtgohllfpceeboabGreatDoor
open Go.RowKit
theorem secs_more (rs : List Sx.Rl) (s : UInt8) (k : Nat) (h : k < rs.length) : secs (rs.take (k + 1)) s = secs (rs.take k) s ++ if rs[k].2.2 = s then [Sx.rlLine rs[k]] else [] := by
  unfold secs
  rw [List.take_succ_eq_append_getElem h, List.filter_append, List.map_append]
  congr 1
  by_cases e : rs[k].2.2 = s
  · rw [if_pos e]; simp [e]
  · rw [if_neg e]; simp [e]
theorem secs_le (rs : List Sx.Rl) (s : UInt8) : (secs rs s).length ≤ rs.length := by
  unfold secs
  rw [List.length_map]
  exact List.length_filter_le _ _
set_option maxRecDepth 100000 in
set_option maxHeartbeats 1000000 in
/-- (suffix.ruleSet).linesOf -/
theorem plinesO (rs : List Sx.Rl) (sec : UInt8) (v : Value) (w : World) (hv : PrAt w v rs) (hok : ∀ r ∈ rs, Sx.isKd r.2.1 ∧ (Sx.dotted r.1).length ≤ 1000) (hN : rs.length ≤ 1000) :
    Calls Tryz.prog 117 #[v, .int .u8 sec.toNat] w fun e w' => ∃ lv, e = .returned lv ∧ w'.ownsRow w.heap.size 9 1 lv (secs rs sec).length (stV (secs rs sec)) ∧ Below w.heap.size w w' := by
  obtain ⟨i0, hi, hz0, hz1, hz2⟩ := info_parts Tryz.info9
  obtain ⟨p, cap, rfl, hrd⟩ := hv
  have HRD := hide hrd
  have HOK := hide hok
  clear hrd hok
  go_enter Tryz.func117, Tryz.ntmps117
  go_wp2_with fail
  go_loopw [5, 10] (fun kv iv wr => ∃ (k : Nat) (L : List (List UInt8)), iv = .int .i64 k ∧ k ≤ rs.length ∧ secs (rs.take k) sec = L ∧ L.length ≤ k ∧ wr.ownsRow w.heap.size 9 1 kv L.length (stV L) ∧ Below w.heap.size w wr) (fun _ iv _ => (rs.length - intOf iv).toNat)
  case atStart => exact ⟨0, [], rfl, by omega, rfl, by simp, World.ownsRow_nil _ _ _ _, Below.refl _ _⟩
  case round =>
    obtain ⟨k, L, rfl, hk, hL, hLk, hown, hB⟩ := hrel
    have hsz := hB.size
    obtain ⟨kp, kc, rfl⟩ := own_shapeK hown
    by_cases hlt : k < rs.length
    · obtain ⟨b, rfl, hb, c1, c2, c3, c4⟩ := HRD.out k hlt
      have d1 := (hB.cell (p := ⟨b, k * 4, none⟩) hb).trans c1
      have d2 := (hB.cell (p := ⟨b, k * 4 + 1, none⟩) hb).trans c2
      have d3 := (hB.cell (p := ⟨b, k * 4 + 2, none⟩) hb).trans c3
      have d4 := (hB.cell (p := ⟨b, k * 4 + 3, none⟩) hb).trans c4
      have hrl := HOK.out rs[k] (List.getElem_mem hlt)
      have hst := secs_more rs sec k hlt
      rw [hL] at hst
      have hky := fun w => pline rs[k] w hrl.1 (by omega)
      obtain ⟨⟨qh, qk, qs⟩, hq⟩ : ∃ q, rs[k] = q := ⟨_, rfl⟩
      rw [hq] at d1 d2 d3 d4 hst hky
      unfold ruA at hky
      dsimp only at d1 d2 d3 d4 hst hky
      obtain ⟨D, hD⟩ : ∃ D : ByteArray, ⟨(Sx.dotted qh).toArray⟩ = D := ⟨_, rfl⟩
      obtain ⟨N, hN2⟩ : ∃ N, qh.length = N := ⟨_, rfl⟩
      rw [hD] at d2 hky
      rw [hN2] at d3 hky
      obtain ⟨LN, hLN⟩ : ∃ LN, Sx.rlLine (qh, qk, qs) = LN := ⟨_, rfl⟩
      rw [hLN] at hst hky
      obtain ⟨X, hX⟩ : ∃ X : ByteArray, ⟨LN.toArray⟩ = X := ⟨_, rfl⟩
      rw [hX] at hky
      have HST := hide hst
      have HKY := hide hky
      have HX : Hid (stV (L ++ [LN]) = stV L ++ [.string X]) := hide (by rw [stV_app]; simp [stV, hX])
      have HA : Hid (∀ o, Below w.heap.size w (wr.alloc o)) := hide (fun o => hB.alloc hsz o)
      clear c1 c2 c3 c4 hky hD hN2 hX hLN hq hrl hst hL
      by_cases hs : qs = sec
      · subst hs
        go_wp2_with fail
        refine (HKY.out _).mono ?_
        rintro e w2 ⟨rfl, hB2⟩
        have hBa : Below wr.heap.size wr w2 := ((Below.refl _ wr).alloc (Nat.le_refl _) _).trans (hB2.mono (by rw [World.size_alloc]; exact Nat.le_succ _))
        have hown2 := own_later hown hBa
        have hB3 := hB.trans (hBa.mono hsz)
        have hsz3 := hB3.size
        clear hB2 hBa hown hB
        go_wp2_with (at_builtin; go_must (refine wpList_append_lies _ rfl _ _ _ rfl w.heap.size 9 i0 (.string ⟨#[]⟩) 1 16 Tryz.underlying51 hi hz0 hz1 hz2 rfl (by decide) _ _ _ rfl (hown2.alloc _) ⟨_, 0, none⟩ 1 1 [.string X] rfl rfl (cell_one_new _ _ _) (by simp [Value.oneCell']) (by omega) (by unfold maxLen; omega) (by omega) (by simp; omega) _ rfl ?_; intro g6 cap6 w6 hown6 hgrow6 hat6 hlt6))
        exact ⟨⟨k + 1, L ++ [LN], by go_num, by omega, by rw [HST.out]; simp, by simp; omega, by rw [HX.out, List.length_append, List.length_singleton]; exact hown6, below_app hB3 hsz3 hown2 hgrow6⟩, by simp [intOf]; omega⟩
      · have hs1 : ((qs.toNat : Int) == (sec.toNat : Int)) = false := by
          rw [beq_eq_false_iff_ne]
          intro e
          exact hs (UInt8.toNat_inj.1 (by omega))
        have hs2 : ¬ (qs.toNat : Int) = (sec.toNat : Int) := by simpa using hs1
        have hown2 := fun o => own_later hown ((Below.refl _ wr).alloc (Nat.le_refl _) o)
        have HOW := hide hown2
        clear hown hown2
        go_wp2
        exact ⟨⟨k + 1, L, by go_num, by omega, by rw [HST.out, if_neg hs, List.append_nil], by omega, HOW.out _, HA.out _⟩, by simp [intOf]; omega⟩
    · have hkl : k = rs.length := by omega
      subst hkl
      rw [List.take_length] at hL
      have HL := hide hL
      have HO := hide hown
      have HB := hide hB
      clear hL hown hB
      go_wp2
      go_ret
      rw [HL.out]
      exact ⟨_, rfl, HO.out, HB.out⟩
end Go.Proofs.YtgohllfpceeboabGreatDoor

namespace Go.Proofs.YtgohllfpceeboabGreatDoor
open Go.RowKit Go.Shelf
theorem lw_lies : liesAt Tryz.prog Tryz.prog.depth 171 (2 / Tryz.prog.cellsOf 171) 0 134 1 = true := by kernel_rfl
theorem lw_size : (Tryz.prog.info? 134).map (·.size) = some 2 := by kernel_rfl
theorem lw_byte : (Tryz.prog.info? 5).map (fun i => (i.zero, i.size, i.bytes)) = some (some (.int .u8 0), 1, 1) := by kernel_rfl
/-- A list writer: its builder, used or not. -/
def LwAt (W : World) (B b : Nat) (bs : List UInt8) : Prop := Lib.IsBuilderF 171 5 B b (Lib.byteCells bs) W
set_option maxRecDepth 100000 in
set_option maxHeartbeats 1000000 in
/-- (*strings.Builder).copyCheck, of a list writer's builder that was not used before -/
theorem pccF (b : Nat) (w : World) (h0 : w.cell? ⟨b, 0, none⟩ = some (.pointer none)) (hsh : w.shape? b = some (171, 2)) (hfz : w.frozen? ⟨b, 0, none⟩ = false) :
    Calls Tryz.prog 140 #[.pointer (some ⟨b, 0, none⟩)] w fun e w' => e = .returned (.tuple #[]) ∧ w' = w.setCell ⟨b, 0, none⟩ (.pointer (some ⟨b, 0, none⟩)) := by
  obtain ⟨j, hj, hjs⟩ := Option.map_eq_some_iff.1 lw_size
  have q1 := Lib.run_to_unsafe (P := Tryz.prog) (w := w) ⟨b, 0, none⟩ Tryz.underlying132 Tryz.underlying274 hj (by rw [hjs]; decide) hsh (Nat.zero_lt_succ 1)
  have q2 := Lib.run_from_unsafe (P := Tryz.prog) (w := w) ⟨b, 0, none⟩ Tryz.underlying274 Tryz.underlying132 hj hsh lw_lies
  go_enter Tryz.func140, Tryz.ntmps140
  go_wp2
  rw [run_callFunc_extern Tryz.func199 (by kernel_rfl) (by kernel_rfl) (by kernel_rfl) (e := Extern.AbiNoEscape.same) (by kernel_rfl), Lib.run_noEscape]
  simp only [Result.andThen]
  rw [Oper.upon_value]
  go_wp2
  go_end0
  exact ⟨rfl, rfl⟩
/-- (*strings.Builder).copyCheck, of a list writer -/
theorem pcc (B b : Nat) (bs : List UInt8) (w : World) (h : LwAt w B b bs) :
    Calls Tryz.prog 140 #[.pointer (some ⟨b, 0, none⟩)] w fun e w' => e = .returned (.tuple #[]) ∧ Lib.BuilderAtF 171 5 B b (.pointer (some ⟨b, 0, none⟩)) (Lib.byteCells bs) w' ∧ Below B w w' ∧ Lib.OthersKept 5 (some b) w w' := by
  rcases h with h | h
  · refine (pccF b w h.cell0 h.shape h.frozen0).mono ?_
    rintro e w' ⟨rfl, rfl⟩
    exact ⟨rfl, h.used _, (Below.refl B w).setCell (p := ⟨b, 0, none⟩) h.1 _, (Lib.OthersKept.refl _ _ w).setCell ⟨b, 0, none⟩ rfl _⟩
  · refine (Any.Builder_copyCheck_used (P := Tryz.prog) (ρ := Tryz.bren) { Tryz.layWS with } Tryz.bX.toX72 b w h.cell0).mono ?_
    rintro e w' ⟨rfl, rfl⟩
    exact ⟨rfl, h, Below.refl B _, Lib.OthersKept.refl _ _ _⟩
set_option maxRecDepth 100000 in
set_option maxHeartbeats 1000000 in
/-- (*strings.Builder).WriteString, of a list writer -/
theorem pwsL (B b : Nat) (bs : List UInt8) (s : ByteArray) (w : World) (h : LwAt w B b bs) (hlen : bs.length + s.size ≤ 1000000) (hBw : B ≤ w.heap.size) :
    Calls Tryz.prog 90 #[.pointer (some ⟨b, 0, none⟩), .string s] w fun e w' => (∃ v, e = .returned v) ∧ LwAt w' B b (bs ++ s.data.toList) ∧ Below B w w' ∧ Lib.OthersKept 5 (some b) w w' := by
  obtain ⟨i0, hi, hz0, hz1, hz2⟩ := info_parts lw_byte
  have hbl : (Lib.byteCells bs).length = bs.length := Lib.byteCells_length bs
  go_enter Tryz.func90, Tryz.ntmps90
  go_wp2_with fail
  refine (pcc B b bs _ h).mono ?_
  rintro e w1 ⟨rfl, h1, hb1, hk1⟩
  obtain ⟨hB, v, hbk, hown, hne⟩ := h1
  have c0 : w1.cell? ⟨b, 0, none⟩ = some (.pointer (some ⟨b, 0, none⟩)) := by rw [Lib.cell_of_heap hbk]; rfl
  have c1 : w1.cell? ⟨b, 1, none⟩ = some v := by rw [Lib.cell_of_heap hbk]; rfl
  go_wp2_with (at_builtin; refine Lib.wpList_append_own_stringF _ rfl _ _ 90 9 rfl B 5 i0 Tryz.underlying90 Tryz.underlying9 hi hz0 hz1 hz2 _ _ _ rfl hown s rfl ?c3 ?c4 ?c5 ?_)
  case c3 => unfold maxLen; omega
  case c4 => omega
  case c5 => have := hb1.size; omega
  intro v' w2 hown' hgrow _
  have hlt : b < w1.heap.size := (Array.getElem?_eq_some_iff.1 hbk).1
  have hb2 : w2.heap[b]? = some (.cells #[.pointer (some ⟨b, 0, none⟩), v] 171 (0, 0)) := by
    rw [hgrow.block b hlt (fun e => hne e.symm)]
    exact hbk
  have d0 : w2.cell? ⟨b, 0, none⟩ = some (.pointer (some ⟨b, 0, none⟩)) := by rw [Lib.cell_of_heap hb2]; rfl
  have d1 : w2.cell? ⟨b, 1, none⟩ = some v := by rw [Lib.cell_of_heap hb2]; rfl
  have f1 : w2.frozen? ⟨b, 1, none⟩ = false := Lib.frozen_of_heap hb2 1
  obtain ⟨ao, n', cap, rfl⟩ : ∃ ao n' cap, v' = .slice ao n' cap := by
    rcases hown'.2 with ⟨hv, _⟩ | ⟨g, cap, cur, fz, hv, _⟩
    · exact ⟨_, _, _, hv⟩
    · exact ⟨_, _, _, hv⟩
  go_wp2
  go_ret2
  refine ⟨⟨_, rfl⟩, ?_, ?_, (hk1.grown hgrow (Lib.ownsRowF_kind hown)).setCell ⟨b, 1, none⟩ rfl _⟩
  · refine .inr ?_
    rw [byteCells_app]
    exact Lib.BuilderAtF.put hB hb2 (bs' := Lib.byteCells bs ++ Lib.byteCells s.data.toList) (by rw [List.length_append, Lib.byteCells_length, Lib.byteCells_length, ba_len]; exact hown') (by decide)
  · exact (hb1.grown hgrow (by have := hb1.size; omega) (fun k hk => (hown.lt k hk).1)).setCell (p := ⟨b, 1, none⟩) hB _
set_option maxRecDepth 100000 in
set_option maxHeartbeats 1000000 in
/-- (*strings.Builder).WriteByte, of a list writer: a newline -/
theorem pwbL (B b : Nat) (bs : List UInt8) (w : World) (h : LwAt w B b bs) (hlen : bs.length ≤ 1000000) (hBw : B ≤ w.heap.size) :
    Calls Tryz.prog 89 #[.pointer (some ⟨b, 0, none⟩), .int .u8 10] w fun e w' => (∃ v, e = .returned v) ∧ LwAt w' B b (bs ++ [10]) ∧ Below B w w' ∧ Lib.OthersKept 5 (some b) w w' := by
  obtain ⟨i0, hi, hz0, hz1, hz2⟩ := info_parts lw_byte
  have hbl : (Lib.byteCells bs).length = bs.length := Lib.byteCells_length bs
  go_enter Tryz.func89, Tryz.ntmps89
  go_wp2_with fail
  refine (pcc B b bs _ h).mono ?_
  rintro e w1 ⟨rfl, h1, hb1, hk1⟩
  obtain ⟨hB, v, hbk, hown, hne⟩ := h1
  have c0 : w1.cell? ⟨b, 0, none⟩ = some (.pointer (some ⟨b, 0, none⟩)) := by rw [Lib.cell_of_heap hbk]; rfl
  have c1 : w1.cell? ⟨b, 1, none⟩ = some v := by rw [Lib.cell_of_heap hbk]; rfl
  go_wp2_with (at_builtin; refine wpList_append_ownF _ rfl _ _ 90 rfl B 5 i0 (.int .u8 0) 1 1 Tryz.underlying90 hi hz0 hz1 hz2 rfl (by decide) _ _ _ rfl (hown.alloc _) ⟨w1.heap.size, 0, none⟩ 1 1 [.int .u8 10] rfl rfl (cell_one_new _ _ _) (by simp [Value.oneCell']) ?c3 ?c4 ?c5 ?_)
  case c3 => unfold maxLen; omega
  case c4 => omega
  case c5 => have := hb1.size; simp; omega
  intro v' w2 hown' hgrow _
  have hlt : b < w1.heap.size := (Array.getElem?_eq_some_iff.1 hbk).1
  have hb2 : w2.heap[b]? = some (.cells #[.pointer (some ⟨b, 0, none⟩), v] 171 (0, 0)) := by
    rw [hgrow.block b (by simp; omega) (fun e => hne e.symm), heap_alloc_old _ _ hlt]
    exact hbk
  have d0 : w2.cell? ⟨b, 0, none⟩ = some (.pointer (some ⟨b, 0, none⟩)) := by rw [Lib.cell_of_heap hb2]; rfl
  have d1 : w2.cell? ⟨b, 1, none⟩ = some v := by rw [Lib.cell_of_heap hb2]; rfl
  have f1 : w2.frozen? ⟨b, 1, none⟩ = false := Lib.frozen_of_heap hb2 1
  obtain ⟨ao, n', cap, rfl⟩ : ∃ ao n' cap, v' = .slice ao n' cap := by
    rcases hown'.2 with ⟨hv, _⟩ | ⟨g, cap, cur, fz, hv, _⟩
    · exact ⟨_, _, _, hv⟩
    · exact ⟨_, _, _, hv⟩
  go_wp2
  go_ret
  refine ⟨⟨_, rfl⟩, ?_, ?_, ((hk1.alloc _).grown hgrow (Lib.ownsRowF_kind (hown.alloc _))).setCell ⟨b, 1, none⟩ rfl _⟩
  · refine .inr ?_
    rw [byteCells_app]
    exact Lib.BuilderAtF.put hB hb2 (bs' := Lib.byteCells bs ++ Lib.byteCells [10]) (by simpa [Lib.byteCells] using hown') (by decide)
  · exact ((hb1.alloc (by have := hb1.size; omega) _).grown hgrow (by have := hb1.size; simp; omega) (fun k hk => (hown.lt k hk).1)).setCell (p := ⟨b, 1, none⟩) hB _
end Go.Proofs.YtgohllfpceeboabGreatDoor

namespace Go.Proofs.YtgohllfpceeboabGreatDoor
open Go.RowKit Go.Shelf
set_option maxRecDepth 100000 in
set_option maxHeartbeats 1000000 in
/-- (*strings.Builder).String, of a list writer that has bytes -/
theorem pstL1 (B b : Nat) (l : List UInt8) (w : World) (h : LwAt w B b l) (h0 : l ≠ []) :
    Calls Tryz.prog 91 #[.pointer (some ⟨b, 0, none⟩)] w fun e w' => e = .returned (.string ⟨l.toArray⟩) ∧ Below B w w' := by
  obtain ⟨p, hAt⟩ : ∃ p, Lib.BuilderAtF 171 5 B b p (Lib.byteCells l) w := by
    rcases h with h | h
    · exact ⟨_, h⟩
    · exact ⟨_, h⟩
  obtain ⟨hB, v, hbk, hown, hne⟩ := hAt
  have hl0 : l.length ≠ 0 := by simpa using h0
  rw [Lib.byteCells_length] at hown
  obtain ⟨g, cap, cur, fz, rfl, hbg, hg, hfz, hnc, hcm, hcs, htake⟩ : ∃ g cap cur fz, v = .slice (some ⟨g, 0, none⟩) l.length cap ∧ B ≤ g ∧ w.heap[g]? = some (.cells cur 5 fz) ∧ fz.2 ≤ l.length * 1 ∧ l.length ≤ cap ∧ cap ≤ maxLen ∧ cur.size = cap * 1 ∧ cur.toList.take (l.length * 1) = Lib.byteCells l := by
    rcases hown.2 with ⟨_, hz⟩ | ⟨g, cap, cur, fz, hv, r⟩
    · exact absurd hz hl0
    · exact ⟨g, cap, cur, fz, hv, r⟩
  have hbk1 : w.drew.heap[b]? = some (.cells #[p, .slice (some ⟨g, 0, none⟩) l.length cap] 171 (0, 0)) := hbk
  have hg1 : w.drew.heap[g]? = some (.cells cur 5 fz) := hg
  have c1 : w.drew.cell? ⟨b, 1, none⟩ = some (.slice (some ⟨g, 0, none⟩) l.length cap) := by rw [Lib.cell_of_heap hbk1]; rfl
  have hSD : (Builtin.unsafeSliceData_ #[90] 198 #[.slice (some ⟨g, 0, none⟩) l.length cap]).run Tryz.prog w.drew = .ok (.pointer (some ⟨g, 0, none⟩)) w.drew := Lib.run_unsafeSliceData_row _ _ _ _ _ _ (by omega)
  have hUS : (Builtin.unsafeString_ #[198, 3] 9 #[.pointer (some ⟨g, 0, none⟩), .int .i64 l.length]).run Tryz.prog w.drew = .ok (.string ⟨l.toArray⟩) (w.drew.freeze ⟨g, 0, none⟩ l.length) := by
    refine Lib.run_unsafeString_row w.drew 198 3 9 5 Tryz.underlying198 Tryz.bX.cellsByte g cur.size (by simp [World.shape?, hg1]) l h0 (by omega) (by unfold maxLen at hcm; omega) ?_
    intro j x hx
    exact hown.cells (g := g) rfl j (.int .u8 x.toNat) (by simp [Lib.byteCells, hx])
  have HB : Hid (Below B w (w.drew.freeze ⟨g, 0, none⟩ l.length)) := hide (Lib.below_freeze (Below.drew (Below.refl B w)) (p := ⟨g, 0, none⟩) hbg _)
  have mixed := Tryz.layST.mixed
  clear hown hbk hbk1 hg hg1 htake hcs hcm hnc hfz h
  go_enter Tryz.func91, Tryz.ntmps91
  go_wp2
  go_region_o
  all_goals (go_wp2; go_ret; exact ⟨rfl, HB.out⟩)
set_option maxRecDepth 100000 in
set_option maxHeartbeats 1000000 in
/-- (*strings.Builder).String, of a list writer that was not written to -/
theorem pstL0 (B b : Nat) (w : World) (p : Value) (hbk : w.heap[b]? = some (.cells #[p, .slice none 0 0] 171 (0, 0))) :
    Calls Tryz.prog 91 #[.pointer (some ⟨b, 0, none⟩)] w fun e w' => e = .returned (.string ⟨#[]⟩) ∧ Below B w w' := by
  have mixed := Tryz.layST.mixed
  have hbk1 : w.drew.heap[b]? = some (.cells #[p, .slice none 0 0] 171 (0, 0)) := hbk
  have c1 : w.drew.cell? ⟨b, 1, none⟩ = some (.slice none 0 0) := by rw [Lib.cell_of_heap hbk1]; rfl
  have hSD : (Builtin.unsafeSliceData_ #[90] 198 #[.slice none 0 0]).run Tryz.prog w.drew = .ok (.pointer none) w.drew := rfl
  have hUS := fun (w : World) => Lib.run_unsafeString_none (P := Tryz.prog) (w := w) 198 3 9 none
  have HB : Hid (Below B w w.drew) := hide (Below.drew (Below.refl B w))
  clear hbk hbk1
  go_enter Tryz.func91, Tryz.ntmps91
  go_wp2
  go_region_o
  all_goals (go_wp2; go_ret; exact ⟨rfl, HB.out⟩)
/-- A list writer, new or written to. -/
def LwNew (W : World) (B b : Nat) (bs : List UInt8) : Prop := LwAt W B b bs ∧ (bs = [] → W.heap[b]? = some (.cells #[.pointer none, .slice none 0 0] 171 (0, 0)))
theorem pstL (B b : Nat) (l : List UInt8) (w : World) (h : LwNew w B b l) :
    Calls Tryz.prog 91 #[.pointer (some ⟨b, 0, none⟩)] w fun e w' => e = .returned (.string ⟨l.toArray⟩) ∧ Below B w w' := by
  by_cases h0 : l = []
  · subst h0
    exact pstL0 B b w _ (h.2 rfl)
  · exact pstL1 B b l w h.1 h0
/-- Texts in a row, each behind the other, as a writer takes them: those that lie below the writer. -/
theorem joinL_len (M : Nat) : ∀ L : List (List UInt8), (∀ x ∈ L, x.length ≤ M) → (joinL L).length ≤ L.length * (M + 1)
  | [], _ => by simp [joinL]
  | x :: L, h => by
    have h1 := h x (by simp)
    have h2 := joinL_len M L (fun y hy => h y (by simp [hy]))
    have e : joinL (x :: L) = x ++ 10 :: joinL L := by simp [joinL]
    rw [e, List.length_append, List.length_cons, List.length_cons, Nat.succ_mul]
    omega
theorem joinL_app (a b : List (List UInt8)) : joinL (a ++ b) = joinL a ++ joinL b := by simp [joinL]
set_option maxRecDepth 100000 in
set_option maxHeartbeats 2000000 in
/-- (*suffix.listWriter).add -/
theorem plwadd (L : List (List UInt8)) (v : Value) (B b : Nat) (bs : List UInt8) (w : World) (h : LwNew w B b bs) (hB : B ≤ w.heap.size) (hr : w.ownsRow 0 9 1 v L.length (stV L)) (hL : L.length ≤ 100) (hx : ∀ x ∈ L, x.length ≤ 1000) (hbs : bs.length ≤ 200000) :
    Calls Tryz.prog 116 #[.pointer (some ⟨b, 0, none⟩), v] w fun e w' => (∃ u, e = .returned u) ∧ LwNew w' B b (bs ++ joinL L) ∧ Below B w w' ∧ Lib.OthersKept 5 (some b) w w' := by
  have HROW : Hid (∀ W, Lib.OthersKept 5 (some b) w W → ∀ j (hj : j < L.length), ∃ g c, v = .slice (some ⟨g, 0, none⟩) L.length c ∧ W.cell? ⟨g, j, none⟩ = some (.string ⟨L[j].toArray⟩)) := hide (fun W hW j hj => by
    rcases hr.2 with ⟨_, h0⟩ | ⟨g, cap, cur, hv, _, hg, h1, h2, h3, h4⟩
    · omega
    · refine ⟨g, cap, hv, ?_⟩
      have hgb : g ≠ b := fun e => by
        subst e
        have hh : ∃ p u, w.heap[g]? = some (.cells #[p, u] 171 (0, 0)) := by
          rcases h.1 with q | q
          · obtain ⟨_, u, q, _⟩ := q; exact ⟨_, u, q⟩
          · obtain ⟨_, u, q, _⟩ := q; exact ⟨_, u, q⟩
        obtain ⟨p, u, hh⟩ := hh
        rw [hg] at hh
        cases hh
      have hk := hW g _ hg (fun e => hgb (Option.some.inj e)) (fun c fz e => by cases e)
      rw [Lib.cell_of_heap hk]
      rw [Nat.mul_one] at h4
      have h5 : (cur.toList.take L.length)[j]? = (stV L)[j]? := by rw [h4]
      rw [List.getElem?_take_of_lt hj] at h5
      rw [← Array.getElem?_toList, h5]
      unfold stV
      rw [List.getElem?_map, List.getElem?_eq_getElem hj]
      rfl)
  obtain ⟨p, cap, rfl⟩ := own_shapeK hr
  have HH := hide h
  have HXX := hide hx
  have hJ : Hid (∀ k, k ≤ L.length → (joinL (L.take k)).length ≤ 200000) := hide (fun k hk => by
    have h1 := joinL_len 1000 (L.take k) (fun x hx' => hx x (List.mem_of_mem_take hx'))
    rw [List.length_take] at h1
    have h2 : min k L.length * (1000 + 1) ≤ 100 * 1001 := Nat.mul_le_mul_right _ (by omega)
    omega)
  clear h hr hx
  go_enter Tryz.func116, Tryz.ntmps116
  go_wp2_with fail
  go_loopw [8] (fun i wr => ∃ k : Nat, i = .int .i64 k ∧ k ≤ L.length ∧ LwNew wr B b (bs ++ joinL (L.take k)) ∧ Below B w wr ∧ Lib.OthersKept 5 (some b) w wr) (fun i _ => (L.length - intOf i).toNat)
  case atStart => exact ⟨0, rfl, by omega, by simpa [joinL] using HH.out, Below.refl _ _, Lib.OthersKept.refl _ _ _⟩
  case round =>
    obtain ⟨k, rfl, hk, hlw, hBw, hok⟩ := hrel
    have HOK := hide hok
    have HBW := hide hBw
    have hsz := hBw.size
    have HLW := hide hlw
    have hjl := hJ.out k hk
    clear hok hBw hlw
    by_cases hlt : k < L.length
    · obtain ⟨g, c, hg, hc⟩ := HROW.out wr HOK.out k hlt
      obtain rfl : p = some ⟨g, 0, none⟩ := by injection hg
      clear hg
      have hlx := HXX.out L[k] (List.getElem_mem hlt)
      have htk : joinL (L.take (k + 1)) = joinL (L.take k) ++ (L[k] ++ [10]) := by rw [List.take_succ_eq_append_getElem hlt, joinL_app]; simp [joinL]
      obtain ⟨X, hX⟩ : ∃ X : ByteArray, ⟨L[k].toArray⟩ = X := ⟨_, rfl⟩
      have hXl : X.data.toList = L[k] := by rw [← hX]
      have hXs : X.size ≤ 1000 := by rw [← ba_len, hXl]; exact hlx
      rw [hX] at hc
      have HTK := hide htk
      have HXL := hide hXl
      clear hX hXl htk hlx
      go_wp2_with fail
      refine (pwsL B b (bs ++ joinL (L.take k)) X _ HLW.out.1 (by rw [List.length_append]; omega) (by omega)).mono ?_
      rintro e w1 ⟨⟨u1, rfl⟩, hl1, hB1, hk1⟩
      have HL1 := hide hl1
      have HB1 := hide hB1
      have HK1 := hide hk1
      have hs1 := hB1.size
      clear hl1 hB1 hk1
      go_wp2_with fail
      refine (pwbL B b _ _ HL1.out (by rw [List.length_append, List.length_append, ba_len]; omega) (by omega)).mono ?_
      rintro e w2 ⟨⟨u2, rfl⟩, hl2, hB2, hk2⟩
      have HL2 := hide hl2
      have HB2 := hide hB2
      have HK2 := hide hk2
      clear hl2 hB2 hk2
      go_wp2
      refine ⟨⟨k + 1, by go_num, by omega, ⟨?_, ?_⟩, HBW.out.trans (HB1.out.trans HB2.out), HOK.out.trans (HK1.out.trans HK2.out)⟩, by simp [intOf]; omega⟩
      · have := HL2.out
        rw [HTK.out, ← HXL.out, ← List.append_assoc, ← List.append_assoc]
        exact this
      · intro e
        rw [HTK.out] at e
        simp at e
    · have hke : k = L.length := by omega
      subst hke
      rw [List.take_length] at HLW
      go_wp2
      go_end0
      exact ⟨⟨_, rfl⟩, HLW.out, HBW.out, HOK.out⟩
end Go.Proofs.YtgohllfpceeboabGreatDoor

namespace Go.Proofs.YtgohllfpceeboabGreatDoor
open Go.RowKit Go.Shelf
theorem LwNew.below {W W' : World} {B b : Nat} {bs : List UInt8} (h : LwNew W B b bs) (hb : Below W.heap.size W W') : LwNew W' B b bs :=
  ⟨builder_below h.1 hb, fun e => (hb.block b (Array.getElem?_eq_some_iff.1 (h.2 e)).1).trans (h.2 e)⟩
theorem own_others {W W' : World} {B b n : Nat} {v : Value} {xs : List Value} (h : W.ownsRow B 9 1 v n xs) (hb : b < B) (ho : Lib.OthersKept 5 (some b) W W') : W'.ownsRow B 9 1 v n xs := by
  refine ⟨h.1, ?_⟩
  rcases h.2 with h2 | ⟨g, cap, cur, h1, h2, h3, h4⟩
  · exact .inl h2
  · exact .inr ⟨g, cap, cur, h1, h2, ho g _ h3 (fun e => by have := Option.some.inj e; omega) (fun c fz e => by cases e), h4⟩
theorem own_one9 (w : World) (x : List UInt8) : (w.alloc (.cells #[.string ⟨x.toArray⟩] 9)).ownsRow 0 9 1 (.slice (some ⟨w.heap.size, 0, none⟩) 1 1) [x].length (stV [x]) := by
  refine ⟨by simp [stV], .inr ⟨w.heap.size, 1, _, rfl, Nat.zero_le _, heap_alloc_new _ _, by simp, by unfold maxLen; omega, rfl, rfl⟩⟩
set_option maxRecDepth 100000 in
set_option maxHeartbeats 2000000 in
/-- (suffix.ruleSet).list -/
theorem plist (rs : List Sx.Rl) (v : Value) (w : World) (hv : PrAt w v rs) (hok : ∀ r ∈ rs, Sx.isKd r.2.1 ∧ (Sx.dotted r.1).length ≤ 500) (hN : rs.length ≤ 50) :
    Calls Tryz.prog 74 #[v] w fun e w' => e = .returned (.string ⟨(outL rs).toArray⟩) ∧ Below w.heap.size w w' := by
  have HLN := hide (fun s W (h : Below w.heap.size w W) => plinesO rs s v W (hv.below h) (fun r hr => ⟨(hok r hr).1, by have := (hok r hr).2; omega⟩) (by omega))
  obtain ⟨p, cap, rfl, _⟩ := hv
  have hx : ∀ s, ∀ x ∈ secs rs s, x.length ≤ 1000 := fun s x hx => by
    unfold secs at hx
    obtain ⟨r, hr, rfl⟩ := List.mem_map.1 hx
    have := (hok r (List.mem_filter.1 hr).1).2
    unfold Sx.rlLine
    rw [List.length_append]
    repeat' split
    all_goals simp
    all_goals omega
  have hl : ∀ s, (secs rs s).length ≤ 50 := fun s => by have := secs_le rs s; omega
  have HADD := hide (fun s v B b bs W h hB hr hbs => plwadd (secs rs s) v B b bs W h hB hr (by have := hl s; omega) (hx s) hbs)
  have HJL : Hid (∀ s, (joinL (secs rs s)).length ≤ 100000) := hide (fun s => by
    have h1 := joinL_len 1000 (secs rs s) (hx s)
    have h2 : (secs rs s).length * (1000 + 1) ≤ 50 * 1001 := Nat.mul_le_mul_right _ (hl s)
    omega)
  have HL := hide hl
  clear hok hx hl
  have hNew : LwNew (w.alloc (.cells #[.pointer none, .slice none 0 0] 171)) w.heap.size w.heap.size [] := by
    refine ⟨.inl ⟨Nat.le_refl _, .slice none 0 0, heap_alloc_new _ _, ?_, by simp [Value.ownBlock]⟩, fun _ => heap_alloc_new _ _⟩
    exact World.ownsRowF_of (World.ownsRow_nil _ _ _ _)
  have HNEW := hide hNew
  have HB0 : Hid (∀ o, Below w.heap.size w (w.alloc o)) := hide (fun o => (Below.refl _ w).alloc (Nat.le_refl _) o)
  clear hNew
  go_enter Tryz.func74, Tryz.ntmps74
  go_wp2_with fail
  refine (HLN.out 105 _ (HB0.out _)).mono ?_
  rintro e w1 ⟨l1, rfl, ho1, hB1⟩
  have hz1 := hB1.size
  rw [World.size_alloc] at hz1
  have HN1 := hide (HNEW.out.below hB1)
  have HO1 := hide (own_lowerK ho1 (Nat.zero_le _))
  have HB1 : Hid (Below w.heap.size w w1) := hide ((HB0.out _).trans (hB1.mono (by simp)))
  obtain ⟨p1, c1, rfl⟩ := own_shapeK ho1
  clear ho1 hB1 HNEW
  go_wp2_with fail
  refine (HADD.out 105 _ w.heap.size w.heap.size [] w1 HN1.out (by omega) HO1.out (by simp)).mono ?_
  rintro e w2 ⟨⟨u2, rfl⟩, hn2, hB2, -⟩
  rw [List.nil_append] at hn2
  have HN2 := hide hn2
  have HB2 : Hid (Below w.heap.size w w2) := hide (HB1.out.trans hB2)
  have hz2 := hB2.size
  clear hn2 hB2 HN1 HO1 HB1
  go_wp2_with fail
  refine (HLN.out 112 _ HB2.out).mono ?_
  rintro e w3 ⟨l3, rfl, ho3, hB3⟩
  have hz3 := hB3.size
  have HN3 := hide (HN2.out.below hB3)
  have HB3 : Hid (Below w.heap.size w w3) := hide (HB2.out.trans (hB3.mono (by omega)))
  have HO3 := hide ho3
  obtain ⟨p3, c3, rfl⟩ := own_shapeK ho3
  have HOUT : Hid (outL rs = joinL (secs rs 105) ++ if secs rs 112 = [] then [] else joinL ([61, 61, 61, 112] :: secs rs 112)) := hide rfl
  have hl2 := HL.out 112
  have HJ1 := HJL.out 105
  clear ho3 hB3 HN2 HLN
  by_cases h0 : secs rs 112 = []
  · have hlen : (secs rs 112).length = 0 := by rw [h0]; rfl
    rw [hlen]
    have HH0 := hide h0
    clear h0 hlen
    go_wp2_with fail
    refine (pstL _ _ _ _ HN3.out).mono ?_
    rintro e w4 ⟨rfl, hB4⟩
    have HB4 := hide (HB3.out.trans hB4)
    clear hB4
    go_wp2
    go_ret
    refine ⟨?_, HB4.out⟩
    rw [HOUT.out, if_pos HH0.out, List.append_nil]
    rfl
  · have hpos : 0 < (secs rs 112).length := List.length_pos_iff.2 h0
    have HH0 := hide h0
    obtain ⟨M, hM⟩ : ∃ M, (secs rs 112).length = M + 1 := ⟨(secs rs 112).length - 1, by omega⟩
    have HM := hide hM
    rw [hM] at hl2 ⊢
    clear h0 hpos hM
    go_wp2_with fail
    have hA : Below w3.heap.size w3 (w3.alloc (.cells #[.string ⟨#[61, 61, 61, 112]⟩] 9)) := (Below.refl _ _).alloc (Nat.le_refl _) _
    refine (plwadd [[61, 61, 61, 112]] _ w.heap.size w.heap.size (joinL (secs rs 105)) _ (HN3.out.below hA) (by have := hA.size; omega) (own_one9 w3 _) (by simp) (by simp) (by omega)).mono ?_
    rintro e w4 ⟨⟨u4, rfl⟩, hn4, hB4, hk4⟩
    have HN4 := hide hn4
    have HO4 := hide (own_lowerK (own_others (own_later HO3.out hA) (by omega) hk4) (Nat.zero_le _))
    have HB4 : Hid (Below w.heap.size w w4) := hide (HB3.out.trans ((hA.mono (by omega)).trans hB4))
    have hz4 := HB4.out.size
    rw [HM.out] at HO4
    have HAD2 := HADD.out 112
    rw [HM.out] at HAD2
    have HAD3 := hide HAD2
    clear hn4 hB4 hk4 HN3 HO3 HB3 hA HADD HAD2
    go_wp2_with fail
    refine (HAD3.out _ w.heap.size w.heap.size _ w4 HN4.out (by omega) HO4.out (by rw [List.length_append]; simp [joinL] at HJ1 ⊢; omega)).mono ?_
    rintro e w5 ⟨⟨u5, rfl⟩, hn5, hB5, -⟩
    have HN5 := hide hn5
    have HB5 : Hid (Below w.heap.size w w5) := hide (HB4.out.trans hB5)
    clear hn5 hB5
    go_wp2_with fail
    refine (pstL _ _ _ _ HN5.out).mono ?_
    rintro e w6 ⟨rfl, hB6⟩
    have HB6 := hide (HB5.out.trans hB6)
    clear hB6
    go_wp2
    go_ret
    refine ⟨?_, HB6.out⟩
    rw [HOUT.out, if_neg HH0.out]
    have e : joinL ([61, 61, 61, 112] :: secs rs 112) = joinL [[61, 61, 61, 112]] ++ joinL (secs rs 112) := by simp [joinL]
    rw [e]
    rfl
end Go.Proofs.YtgohllfpceeboabGreatDoor

namespace Go.Proofs.YtgohllfpceeboabGreatDoor
open Go.RowKit
theorem opn_rt (b : List UInt8) : Sx.RlsRt (opn b).1 := by
  rcases opn_err b with h | ⟨_, h⟩ | ⟨_, h⟩
  · exact (opn_is h).2.rt
  · rw [h]; exact rlsRt_nil
  · rw [h]; exact rlsRt_nil
theorem rt_small {r : Sx.Rl} (h : Sx.RlRt r) : r.1.length ≤ 6 ∧ (Sx.dotted r.1).length ≤ 60 := by
  have h1 := h.ok.1
  have h2 := Sx.dotted_allL r.1 h1.1
  have h3 := h1.2.2.1
  exact ⟨h1.2.1, by omega⟩
set_option maxRecDepth 100000 in
set_option maxHeartbeats 2000000 in
/-- suffix.Rules -/
theorem prules (i : ByteArray) (w : World) (hw : LWt w) : Calls Tryz.prog 46 #[.string i] w fun e w' => e = .returned (.tuple #[.string ⟨(lsR i.data.toList).1.toArray⟩, .int .i64 (lsR i.data.toList).2]) ∧ Below w.heap.size w w' := by
  have HRI := hide (prdimg i.data.toList w hw)
  have hrt := opn_rt i.data.toList
  have hls : lsR i.data.toList = if (opn i.data.toList).2 = 0 then (outL (opn i.data.toList).1, 0) else ([], (opn i.data.toList).2) := rfl
  rw [hls]
  obtain ⟨⟨rs, e⟩, ho⟩ : ∃ q, opn i.data.toList = q := ⟨_, rfl⟩
  rw [ho] at HRI hrt ⊢
  dsimp only at HRI hrt ⊢
  have HLS := hide (fun v W hv => plist rs v W hv (fun r hr => ⟨(hrt.ok r hr).2.1, by have := (rt_small (hrt.ok r hr)).2; omega⟩) (by have := hrt.many; omega))
  have hia : (⟨i.data.toList.toArray⟩ : ByteArray) = i := by simp
  rw [hia] at HRI
  clear hls ho hrt hw hia
  go_enter Tryz.func46, Tryz.ntmps46
  go_wp2_with fail
  refine HRI.out.mono ?_
  rintro e w1 ⟨hB1, v, rfl, hv⟩
  have HB1 := hide hB1
  have HLV := hide (HLS.out v w1 hv)
  obtain ⟨p, cap, rfl, _⟩ := hv
  clear hB1 HRI HLS
  by_cases he : e = 0
  · subst he
    go_wp2_with fail
    refine HLV.out.mono ?_
    rintro e w2 ⟨rfl, hB2⟩
    have HB2 := hide (HB1.out.trans (hB2.mono HB1.out.size))
    clear hB2
    go_wp2
    go_ret2
    exact ⟨rfl, HB2.out⟩
  · have k1 : (e != 0) = true := by simpa using he
    go_wp2
    go_ret2
    exact ⟨rfl, HB1.out⟩
set_option maxRecDepth 100000 in
set_option maxHeartbeats 2000000 in
/-- suffix.Lookup -/
theorem plook (i h : ByteArray) (w : World) (hw : LWt w) : Calls Tryz.prog 15 #[.string i, .string h] w fun e w' => e = .returned (.tuple #[.string ⟨(lkR i.data.toList h.data.toList).1.toArray⟩, .string ⟨(lkR i.data.toList h.data.toList).2.1.toArray⟩, .string ⟨(lkR i.data.toList h.data.toList).2.2.1.toArray⟩, .int .i64 (lkR i.data.toList h.data.toList).2.2.2]) ∧ Below w.heap.size w w' := by
  have HRI := hide (prdimg i.data.toList w hw)
  have hrt := opn_rt i.data.toList
  obtain ⟨LK, hLK⟩ : ∃ LK, lkR i.data.toList h.data.toList = LK := ⟨_, rfl⟩
  rw [hLK]
  unfold lkR at hLK
  obtain ⟨⟨rs, e⟩, ho⟩ : ∃ q, opn i.data.toList = q := ⟨_, rfl⟩
  rw [ho] at HRI hrt hLK
  dsimp only at HRI hrt hLK
  have HPL := hide (fun W hW => phip_any h W hW)
  unfold PlnPost at HPL
  have HLW : Hid (∀ W, Below w.heap.size w W → LWt W) := hide (fun W h => lwt_stays _ _ hw h)
  have hia : (⟨i.data.toList.toArray⟩ : ByteArray) = i := by simp
  rw [hia] at HRI
  clear ho hw hia
  by_cases he : e = 0
  · subst he
    rw [if_pos rfl] at hLK
    have hpl : Sx.plainR h.data.toList = (Sx.dotted (Sx.host h.data.toList).1, (Sx.host h.data.toList).2) := rfl
    rw [hpl] at HPL
    have hhost := Sx.host_ok h.data.toList
    obtain ⟨⟨H, f⟩, hH⟩ : ∃ q, Sx.host h.data.toList = q := ⟨_, rfl⟩
    rw [hH] at HPL hLK hhost
    dsimp only at HPL hLK hhost
    clear hpl hH
    by_cases hf : f = 0
    · subst hf
      rw [if_pos rfl] at hLK
      have hh := hhost rfl
      obtain ⟨p1, p2, p3⟩ := prvl_pub hh hrt.ok
      have hle := pubL_le hh.1 rs
      have h6 := hh.2.1
      have hdl : (Sx.dotted H).length ≤ 60 := by have := Sx.dotted_allL H hh.1; have := hh.2.2.1; omega
      obtain ⟨P, hP⟩ : ∃ P : ByteArray, ⟨(Sx.dotted H).toArray⟩ = P := ⟨_, rfl⟩
      have hPl : P.data.toList = Sx.dotted H := by rw [← hP]
      have hPs : P.size ≤ 1000 := by rw [← ba_len, hPl]; omega
      have HPV := hide (fun v W hv => pprvl rs (Sx.dotted H) v W hv (fun r hr => ⟨by have := (rt_small (hrt.ok r hr)).1; omega, by have := (rt_small (hrt.ok r hr)).2; omega⟩) (by omega) (by have := hrt.many; omega))
      have hbest : (prvl rs (Sx.dotted H)).1.length ≤ 1000 := prvl_mem _ (fun r => r.1.length ≤ 1000) (by simp) rs (fun r hr => by have := (rt_small (hrt.ok r hr)).1; omega)
      unfold lkA at hLK
      obtain ⟨b, hb⟩ : ∃ b, prvl rs (Sx.dotted H) = b := ⟨_, rfl⟩
      rw [hb] at p1 p2 hLK HPV hbest
      obtain ⟨n, hn⟩ : ∃ n, (Sx.pubL H rs).1 = n := ⟨_, rfl⟩
      rw [hn] at p1 p3 hle
      have HSU := hide (fun W => psufO b n P W hbest p1 p3 (by omega) hPs)
      have HDO := hide (fun W => pdomO b n P W hbest p1 p3 (by omega) hPs)
      rw [p1] at hLK
      rw [hPl] at HSU HDO
      rw [hP] at HPL HPV
      subst hLK
      dsimp only
      obtain ⟨A, hA⟩ : ∃ A : ByteArray, ⟨(lastP (Sx.dotted H) (n : Int)).toArray⟩ = A := ⟨_, rfl⟩
      obtain ⟨C, hC⟩ : ∃ C : ByteArray, ⟨(lastP (Sx.dotted H) ((n : Int) + 1)).toArray⟩ = C := ⟨_, rfl⟩
      rw [hA] at HSU ⊢
      rw [hC] at HDO ⊢
      have hsec : b.2.2 = 105 ∨ b.2.2 = 112 ∨ b.2.2 = 45 := by
        rw [← hb]
        exact prvl_mem _ (fun r => r.2.2 = 105 ∨ r.2.2 = 112 ∨ r.2.2 = 45) (Or.inr (Or.inr rfl)) rs (fun r hr => by rcases (hrt.ok r hr).2.2.2 with h | h; exact Or.inl h; exact Or.inr (Or.inl h))
      obtain ⟨bh, bk, bs⟩ := b
      unfold ruA at HPV HSU HDO
      dsimp only at HPV HSU HDO hsec ⊢
      have HENC : Hid (Utf8.encode (bs.toNat : Int) = ⟨[bs].toArray⟩) := hide (by rcases hsec with rfl | rfl | rfl <;> decide)
      obtain ⟨E, hE⟩ : ∃ E : ByteArray, ⟨(Sx.dotted bh).toArray⟩ = E := ⟨_, rfl⟩
      obtain ⟨M, hM⟩ : ∃ M, bh.length = M := ⟨_, rfl⟩
      rw [hE, hM] at HPV HSU HDO
      clear p1 p2 p3 hle h6 hdl hP hPl hb hn hA hC hE hM hh hhost hrt hbest hsec
      go_enter Tryz.func15, Tryz.ntmps15
      go_wp2_with fail
      refine HRI.out.mono ?_
      rintro e w1 ⟨hB1, v, rfl, hv⟩
      have HB1 := hide hB1
      have HV := hide hv
      obtain ⟨q, cap, rfl, _⟩ := hv
      clear hB1 HRI
      go_wp2_with fail
      refine (HPL.out _ (HLW.out _ HB1.out)).mono ?_
      rintro e w2 ⟨hB2, rfl⟩
      have HB2 := hide (HB1.out.trans (hB2.mono HB1.out.size))
      have HPV2 := hide (HPV.out _ w2 (HV.out.below hB2))
      clear hB2 HPV HV HPL
      go_wp2_with fail
      refine HPV2.out.mono ?_
      rintro e w3 ⟨rfl, hB3⟩
      have HB3 := hide (HB2.out.trans (hB3.mono HB2.out.size))
      clear hB3 HPV2
      obtain ⟨W0, hW0⟩ : ∃ W0, w3.alloc (.cells #[.int .u8 bk.toNat, .string E, .int .i64 M, .int .u8 bs.toNat] 82) = W0 := ⟨_, rfl⟩
      have HNEW : Hid (∀ W, Below W0.heap.size W0 W → (W.cell? ⟨w3.heap.size, 0, none⟩ = some (.int .u8 bk.toNat) ∧ W.cell? ⟨w3.heap.size, 1, none⟩ = some (.string E) ∧ W.cell? ⟨w3.heap.size, 2, none⟩ = some (.int .i64 M) ∧ W.cell? ⟨w3.heap.size, 3, none⟩ = some (.int .u8 bs.toNat)) ∧ Below w.heap.size w W) := hide (fun W hb => by
        rw [← hW0] at hb
        have h1 := (hb.block w3.heap.size (by simp)).trans (heap_alloc_new _ _)
        exact ⟨(box4 h1).1, (HB3.out.alloc HB3.out.size _).trans (hb.mono (by have := HB3.out.size; simp; omega))⟩)
      have hS0 := (HNEW.out W0.drew ((Below.refl _ W0).drew)).1
      go_wp2_with fail
      clear hW0
      go_region_held_law (fun W => W.cell? ⟨w3.heap.size, 0, none⟩ = some (.int .u8 bk.toNat) ∧ W.cell? ⟨w3.heap.size, 1, none⟩ = some (.string E) ∧ W.cell? ⟨w3.heap.size, 2, none⟩ = some (.int .i64 M) ∧ W.cell? ⟨w3.heap.size, 3, none⟩ = some (.int .u8 bs.toNat)) (first | exact hS0 | exact hS1 | exact hS2 | go_keep) (first | (go_at_call 40; refine (HSU.out _).mono ?_; rintro e wA ⟨rfl, hBA⟩; have hbA : Below W0.heap.size W0 wA := (Below.refl _ W0).drew.trans hBA; have hS1 := (HNEW.out wA hbA).1) | (go_at_call 41; refine (HDO.out _).mono ?_; rintro e wB ⟨rfl, hBB⟩; have hbB : Below W0.heap.size W0 wB := hbA.trans (hBB.mono hbA.size); have hS2 := (HNEW.out wB hbB).1))
      have HFB := hide (HNEW.out wB hbB).2
      rw [HENC.out]
      clear hS0 hS1 hS2 hBA hbA hBB hbB HNEW
      go_wp2
      exact bodyPost_ret (v := .tuple #[.string A, .string C, .string ⟨[bs].toArray⟩, .int .i64 0]) (by simp [results, Tryz.results15, go_sem]) rfl ⟨rfl, HFB.out⟩
    · have k1 : (f != 0) = true := by simpa using hf
      rw [if_neg hf] at hLK
      subst hLK
      dsimp only
      obtain ⟨P, hP⟩ : ∃ P : ByteArray, ⟨(Sx.dotted H).toArray⟩ = P := ⟨_, rfl⟩
      rw [hP] at HPL
      clear hP hhost hrt
      go_enter Tryz.func15, Tryz.ntmps15
      go_wp2_with fail
      refine HRI.out.mono ?_
      rintro e w1 ⟨hB1, v, rfl, hv⟩
      have HB1 := hide hB1
      obtain ⟨q, cap, rfl, _⟩ := hv
      clear hB1 HRI
      go_wp2_with fail
      refine (HPL.out _ (HLW.out _ HB1.out)).mono ?_
      rintro e w2 ⟨hB2, rfl⟩
      have HB2 := hide (HB1.out.trans (hB2.mono HB1.out.size))
      clear hB2 HPL
      go_wp2
      exact bodyPost_ret (v := .tuple #[.string ⟨#[]⟩, .string ⟨#[]⟩, .string ⟨#[]⟩, .int .i64 f]) (by simp [results, Tryz.results15, go_sem]) rfl ⟨rfl, HB2.out⟩
  · have k1 : (e != 0) = true := by simpa using he
    rw [if_neg he] at hLK
    subst hLK
    dsimp only
    clear hrt HPL
    go_enter Tryz.func15, Tryz.ntmps15
    go_wp2_with fail
    refine HRI.out.mono ?_
    rintro e w1 ⟨hB1, v, rfl, hv⟩
    have HB1 := hide hB1
    obtain ⟨q, cap, rfl, _⟩ := hv
    clear hB1 HRI
    go_wp2
    exact bodyPost_ret (v := .tuple #[.string ⟨#[]⟩, .string ⟨#[]⟩, .string ⟨#[]⟩, .int .i64 e]) (by simp [results, Tryz.results15, go_sem]) rfl ⟨rfl, HB1.out⟩
end Go.Proofs.YtgohllfpceeboabGreatDoor

namespace Go.Proofs.YtgohllfpceeboabGreatDoor
open Go.RowKit
/-- Texts are the same if their bytes are. -/
theorem ba_eq (a b : ByteArray) : (a.toList == b.toList) = decide (a.data.toList = b.data.toList) := by
  rw [ByteArray.toList_eq, ByteArray.toList_eq, Bool.eq_iff_iff]
  simp
set_option maxRecDepth 100000 in
set_option maxHeartbeats 2000000 in
/-- suffixkeep.looks -/
theorem klooks (i h a b c : ByteArray) (w : World) (hw : LWt w) :
    Calls Tryz.prog 47 #[.string i, .string h, .string a, .string b, .string c] w fun e w' => e = .returned (.bool (decide (lkR i.data.toList h.data.toList = (a.data.toList, b.data.toList, c.data.toList, 0)))) ∧ Below w.heap.size w w' := by
  have HLK := hide (plook i h w hw)
  obtain ⟨⟨p, d, s, e⟩, hq⟩ : ∃ q, lkR i.data.toList h.data.toList = q := ⟨_, rfl⟩
  rw [hq] at HLK ⊢
  dsimp only at HLK
  obtain ⟨R, hR⟩ : ∃ R, decide ((p, d, s, e) = (a.data.toList, b.data.toList, c.data.toList, (0 : Int))) = R := ⟨_, rfl⟩
  rw [hR]
  have hR2 : (decide (e = 0) && (decide (p = a.data.toList) && (decide (d = b.data.toList) && decide (s = c.data.toList)))) = R := by
    rw [← hR, Bool.eq_iff_iff]
    simp only [Bool.and_eq_true, decide_eq_true_eq, Prod.mk.injEq]
    constructor
    · rintro ⟨h1, h2, h3, h4⟩; exact ⟨h2, h3, h4, h1⟩
    · rintro ⟨h2, h3, h4, h1⟩; exact ⟨h1, h2, h3, h4⟩
  obtain ⟨P, hP⟩ : ∃ P : ByteArray, ⟨p.toArray⟩ = P := ⟨_, rfl⟩
  obtain ⟨D, hD⟩ : ∃ D : ByteArray, ⟨d.toArray⟩ = D := ⟨_, rfl⟩
  obtain ⟨S, hS⟩ : ∃ S : ByteArray, ⟨s.toArray⟩ = S := ⟨_, rfl⟩
  rw [hP, hD, hS] at HLK
  have e1 : (P.toList == a.toList) = decide (p = a.data.toList) := by rw [ba_eq, ← hP]
  have e2 : (D.toList == b.toList) = decide (d = b.data.toList) := by rw [ba_eq, ← hD]
  have e3 : (S.toList == c.toList) = decide (s = c.data.toList) := by rw [ba_eq, ← hS]
  rw [← e1, ← e2, ← e3] at hR2
  have HR := hide hR2
  clear hq hR hR2 hP hD hS e1 e2 e3 hw
  go_enter Tryz.func47, Tryz.ntmps47
  go_wp2_with fail
  refine HLK.out.mono ?_
  rintro e w1 ⟨rfl, hB⟩
  have HB := hide hB
  clear hB HLK
  by_cases h0 : e = 0
  · subst h0
    cases hp : (P.toList == a.toList) with
    | false =>
      go_wp2
      go_ret
      exact ⟨by rw [← HR.out, hp]; rfl, HB.out⟩
    | true =>
      cases hd : (D.toList == b.toList) with
      | false =>
        go_wp2
        go_ret
        exact ⟨by rw [← HR.out, hp, hd]; rfl, HB.out⟩
      | true =>
        go_wp2
        go_ret
        exact ⟨by rw [← HR.out, hp, hd]; exact ret_bool (by simp), HB.out⟩
  · have k1 : (e == 0) = false := by simpa using h0
    go_wp2
    go_ret
    exact ⟨by rw [← HR.out]; exact ret_bool (by simp [h0]), HB.out⟩
end Go.Proofs.YtgohllfpceeboabGreatDoor

namespace Sx
set_option maxRecDepth 100000 in
theorem aw_p1 : plainR [69, 120, 97, 109, 112, 108, 101, 46, 67, 79, 77] = ([101, 120, 97, 109, 112, 108, 101, 46, 99, 111, 109], 0) := by decide +kernel
set_option maxRecDepth 100000 in
theorem aw_p2 : plainR [98, 195, 188, 99, 104, 101, 114, 46, 100, 101] = ([120, 110, 45, 45, 98, 99, 104, 101, 114, 45, 107, 118, 97, 46, 100, 101], 0) := by decide +kernel
set_option maxRecDepth 100000 in
theorem aw_s1 : shownR [120, 110, 45, 45, 98, 99, 104, 101, 114, 45, 107, 118, 97, 46, 100, 101] = ([98, 195, 188, 99, 104, 101, 114, 46, 100, 101], 0) := by decide +kernel
set_option maxRecDepth 100000 in
theorem aw_c1 : compR [[99, 111, 109]] = ([0, 6, 0, 1, 105, 0, 0, 1, 36, 0, 1, 1, 109, 0, 2, 1, 111, 0, 3, 1, 99, 0, 4], 0, 0) := by decide +kernel
end Sx
namespace Go.Proofs.YtgohllfpceeboabGreatDoor
open Sx
set_option maxRecDepth 100000 in
theorem aw_l1 : lkR exX [97, 46, 98, 46, 99, 111, 109] = ([99, 111, 109], [98, 46, 99, 111, 109], [105], 0) := by
  unfold lkR
  rw [ex_opn]
  decide +kernel
set_option maxRecDepth 100000 in
theorem aw_l2 : lkR exX [99, 111, 109] = ([99, 111, 109], [], [105], 0) := by
  unfold lkR
  rw [ex_opn]
  decide +kernel
set_option maxRecDepth 100000 in
theorem aw_l3 : lkR exX [120, 46, 99, 111, 46, 117, 107] = ([99, 111, 46, 117, 107], [120, 46, 99, 111, 46, 117, 107], [105], 0) := by
  unfold lkR
  rw [ex_opn]
  decide +kernel
set_option maxRecDepth 100000 in
theorem aw_l4 : lkR exX [97, 46, 98, 46, 99, 107] = ([98, 46, 99, 107], [97, 46, 98, 46, 99, 107], [105], 0) := by
  unfold lkR
  rw [ex_opn]
  decide +kernel
set_option maxRecDepth 100000 in
theorem aw_l5 : lkR exX [99, 107] = ([99, 107], [], [45], 0) := by
  unfold lkR
  rw [ex_opn]
  decide +kernel
set_option maxRecDepth 100000 in
theorem aw_l6 : lkR exX [97, 46, 119, 119, 119, 46, 99, 107] = ([99, 107], [119, 119, 119, 46, 99, 107], [105], 0) := by
  unfold lkR
  rw [ex_opn]
  decide +kernel
set_option maxRecDepth 100000 in
theorem aw_l7 : lkR exX [97, 46, 98, 108, 111, 103, 115, 112, 111, 116, 46, 99, 111, 109] = ([98, 108, 111, 103, 115, 112, 111, 116, 46, 99, 111, 109], [97, 46, 98, 108, 111, 103, 115, 112, 111, 116, 46, 99, 111, 109], [112], 0) := by
  unfold lkR
  rw [ex_opn]
  decide +kernel
set_option maxRecDepth 100000 in
theorem aw_l8 : lkR exX [97, 46, 98, 46, 122, 122] = ([122, 122], [98, 46, 122, 122], [45], 0) := by
  unfold lkR
  rw [ex_opn]
  decide +kernel
end Go.Proofs.YtgohllfpceeboabGreatDoor

namespace Go.Proofs.YtgohllfpceeboabGreatDoor
open Go.RowKit
/-- A row of one text, made for a call. -/
theorem rds_one (w : World) (x : List UInt8) : RdS (w.alloc (.cells #[.string ⟨x.toArray⟩] 9)) (.slice (some ⟨w.heap.size, 0, none⟩) 1 1) [x] := by
  refine ⟨_, 1, rfl, fun j hj => ⟨w.heap.size, 0, rfl, by simp, ?_⟩⟩
  obtain rfl : j = 0 := by simp at hj; omega
  have := heap_alloc_new w (.cells #[.string ⟨x.toArray⟩] 9)
  rw [Lib.cell_of_heap this]
  rfl
theorem below_alloc {w W : World} (h : Below w.heap.size w W) (o : Obj) : Below w.heap.size w (W.alloc o) := h.alloc h.size o
theorem below_step {w W W' : World} (h : Below w.heap.size w W) (h' : Below W.heap.size W W') : Below w.heap.size w W' := h.trans (h'.mono h.size)
theorem below_stepA {w W W' : World} {o : Obj} (h : Below w.heap.size w W) (h' : Below (W.alloc o).heap.size (W.alloc o) W') : Below w.heap.size w W' := below_step (below_alloc h o) h'
/-- Compile of one text. -/
theorem pcomp1 (x : List UInt8) (W : World) (hw : LWt W) : Calls Tryz.prog 6 #[.slice (some ⟨W.heap.size, 0, none⟩) 1 1] (W.alloc (.cells #[.string ⟨x.toArray⟩] 9)) fun e w' => e = .returned (.tuple #[.string ⟨(Sx.compR [x]).1.toArray⟩, .int .i64 (Sx.compR [x]).2.1, .int .i64 (Sx.compR [x]).2.2]) ∧ Below (W.alloc (.cells #[.string ⟨x.toArray⟩] 9)).heap.size (W.alloc (.cells #[.string ⟨x.toArray⟩] 9)) w' :=
  pcomp [x] _ _ (lwt_stays _ _ hw ((Below.refl _ W).alloc (Nat.le_refl _) _)) (rds_one W x) (by simp)
set_option maxRecDepth 100000 in
set_option maxHeartbeats 4000000 in
/-- suffixkeep.awake -/
theorem kawake (w : World) (hw : LWt w) : Calls Tryz.prog 20 #[] w fun e w' => e = .returned (.string ⟨exX.toArray⟩) ∧ Below w.heap.size w w' := by
  have HP1 : Hid (∀ W, LWt W → Calls Tryz.prog 14 #[.string ⟨#[69, 120, 97, 109, 112, 108, 101, 46, 67, 79, 77]⟩] W fun e w' => Below W.heap.size W w' ∧ e = .returned (.tuple #[.string ⟨#[101, 120, 97, 109, 112, 108, 101, 46, 99, 111, 109]⟩, .int .i64 0])) := hide (fun W h => by
    have := plainsaid_any ⟨#[69, 120, 97, 109, 112, 108, 101, 46, 67, 79, 77]⟩ W h
    unfold PlnPost at this
    rw [show (⟨#[69, 120, 97, 109, 112, 108, 101, 46, 67, 79, 77]⟩ : ByteArray).data.toList = [69, 120, 97, 109, 112, 108, 101, 46, 67, 79, 77] from rfl, Sx.aw_p1] at this
    exact this)
  have HP2 : Hid (∀ W, LWt W → Calls Tryz.prog 14 #[.string ⟨#[98, 195, 188, 99, 104, 101, 114, 46, 100, 101]⟩] W fun e w' => Below W.heap.size W w' ∧ e = .returned (.tuple #[.string ⟨#[120, 110, 45, 45, 98, 99, 104, 101, 114, 45, 107, 118, 97, 46, 100, 101]⟩, .int .i64 0])) := hide (fun W h => by
    have := plainsaid_any ⟨#[98, 195, 188, 99, 104, 101, 114, 46, 100, 101]⟩ W h
    unfold PlnPost at this
    rw [show (⟨#[98, 195, 188, 99, 104, 101, 114, 46, 100, 101]⟩ : ByteArray).data.toList = [98, 195, 188, 99, 104, 101, 114, 46, 100, 101] from rfl, Sx.aw_p2] at this
    exact this)
  have HS1 : Hid (∀ W, LWt W → Calls Tryz.prog 45 #[.string ⟨#[120, 110, 45, 45, 98, 99, 104, 101, 114, 45, 107, 118, 97, 46, 100, 101]⟩] W fun e w' => Below W.heap.size W w' ∧ e = .returned (.tuple #[.string ⟨#[98, 195, 188, 99, 104, 101, 114, 46, 100, 101]⟩, .int .i64 0])) := hide (fun W h => by
    have := shownsaid_any ⟨#[120, 110, 45, 45, 98, 99, 104, 101, 114, 45, 107, 118, 97, 46, 100, 101]⟩ W h
    unfold PlnPost at this
    rw [show (⟨#[120, 110, 45, 45, 98, 99, 104, 101, 114, 45, 107, 118, 97, 46, 100, 101]⟩ : ByteArray).data.toList = [120, 110, 45, 45, 98, 99, 104, 101, 114, 45, 107, 118, 97, 46, 100, 101] from rfl, Sx.aw_s1] at this
    exact this)
  have HC1 : Hid (∀ W, LWt W → Calls Tryz.prog 6 #[.slice (some ⟨W.heap.size, 0, none⟩) 1 1] (W.alloc (.cells #[.string ⟨#[99, 111, 109]⟩] 9)) fun e w' => e = .returned (.tuple #[.string ⟨#[0, 6, 0, 1, 105, 0, 0, 1, 36, 0, 1, 1, 109, 0, 2, 1, 111, 0, 3, 1, 99, 0, 4]⟩, .int .i64 0, .int .i64 0]) ∧ Below (W.alloc (.cells #[.string ⟨#[99, 111, 109]⟩] 9)).heap.size (W.alloc (.cells #[.string ⟨#[99, 111, 109]⟩] 9)) w') := hide (fun W h => by
    have := pcomp1 [99, 111, 109] W h
    rw [Sx.aw_c1] at this
    exact this)
  obtain ⟨X, hX⟩ : ∃ X : ByteArray, ⟨exX.toArray⟩ = X := ⟨_, rfl⟩
  have hXl : X.data.toList = exX := by rw [← hX]
  have HC2 : Hid (∀ W, LWt W → Calls Tryz.prog 6 #[.slice (some ⟨W.heap.size, 0, none⟩) 1 1] (W.alloc (.cells #[.string ⟨#[99, 111, 109, 10, 117, 107, 10, 99, 111, 46, 117, 107, 10, 42, 46, 99, 107, 10, 33, 119, 119, 119, 46, 99, 107, 10, 61, 61, 61, 112, 10, 98, 108, 111, 103, 115, 112, 111, 116, 46, 99, 111, 109, 10]⟩] 9)) fun e w' => e = .returned (.tuple #[.string X, .int .i64 0, .int .i64 0]) ∧ Below (W.alloc (.cells #[.string ⟨#[99, 111, 109, 10, 117, 107, 10, 99, 111, 46, 117, 107, 10, 42, 46, 99, 107, 10, 33, 119, 119, 119, 46, 99, 107, 10, 61, 61, 61, 112, 10, 98, 108, 111, 103, 115, 112, 111, 116, 46, 99, 111, 109, 10]⟩] 9)).heap.size (W.alloc (.cells #[.string ⟨#[99, 111, 109, 10, 117, 107, 10, 99, 111, 46, 117, 107, 10, 42, 46, 99, 107, 10, 33, 119, 119, 119, 46, 99, 107, 10, 61, 61, 61, 112, 10, 98, 108, 111, 103, 115, 112, 111, 116, 46, 99, 111, 109, 10]⟩] 9)) w') := hide (fun W h => by
    have := pcomp1 exT W h
    rw [ex_comp] at this
    rw [← hX]
    exact this)
  have HR1 : Hid (∀ W, LWt W → Calls Tryz.prog 46 #[.string X] W fun e w' => e = .returned (.tuple #[.string ⟨#[42, 46, 99, 107, 10, 33, 119, 119, 119, 46, 99, 107, 10, 99, 111, 109, 10, 117, 107, 10, 99, 111, 46, 117, 107, 10, 61, 61, 61, 112, 10, 98, 108, 111, 103, 115, 112, 111, 116, 46, 99, 111, 109, 10]⟩, .int .i64 0]) ∧ Below W.heap.size W w') := hide (fun W h => by
    have := prules X W h
    rw [hXl, ex_ls] at this
    exact this)
  have HL1 : Hid (∀ W, LWt W → Calls Tryz.prog 47 #[.string X, .string ⟨#[97, 46, 98, 46, 99, 111, 109]⟩, .string ⟨#[99, 111, 109]⟩, .string ⟨#[98, 46, 99, 111, 109]⟩, .string ⟨#[105]⟩] W fun e w' => e = .returned (.bool true) ∧ Below W.heap.size W w') := hide (fun W h => by
    have := klooks X ⟨#[97, 46, 98, 46, 99, 111, 109]⟩ ⟨#[99, 111, 109]⟩ ⟨#[98, 46, 99, 111, 109]⟩ ⟨#[105]⟩ W h
    rw [hXl, decide_eq_true (show lkR exX _ = _ from aw_l1)] at this
    exact this)
  have HL2 : Hid (∀ W, LWt W → Calls Tryz.prog 47 #[.string X, .string ⟨#[99, 111, 109]⟩, .string ⟨#[99, 111, 109]⟩, .string ⟨#[]⟩, .string ⟨#[105]⟩] W fun e w' => e = .returned (.bool true) ∧ Below W.heap.size W w') := hide (fun W h => by
    have := klooks X ⟨#[99, 111, 109]⟩ ⟨#[99, 111, 109]⟩ ⟨#[]⟩ ⟨#[105]⟩ W h
    rw [hXl, decide_eq_true (show lkR exX _ = _ from aw_l2)] at this
    exact this)
  have HL3 : Hid (∀ W, LWt W → Calls Tryz.prog 47 #[.string X, .string ⟨#[120, 46, 99, 111, 46, 117, 107]⟩, .string ⟨#[99, 111, 46, 117, 107]⟩, .string ⟨#[120, 46, 99, 111, 46, 117, 107]⟩, .string ⟨#[105]⟩] W fun e w' => e = .returned (.bool true) ∧ Below W.heap.size W w') := hide (fun W h => by
    have := klooks X ⟨#[120, 46, 99, 111, 46, 117, 107]⟩ ⟨#[99, 111, 46, 117, 107]⟩ ⟨#[120, 46, 99, 111, 46, 117, 107]⟩ ⟨#[105]⟩ W h
    rw [hXl, decide_eq_true (show lkR exX _ = _ from aw_l3)] at this
    exact this)
  have HL4 : Hid (∀ W, LWt W → Calls Tryz.prog 47 #[.string X, .string ⟨#[97, 46, 98, 46, 99, 107]⟩, .string ⟨#[98, 46, 99, 107]⟩, .string ⟨#[97, 46, 98, 46, 99, 107]⟩, .string ⟨#[105]⟩] W fun e w' => e = .returned (.bool true) ∧ Below W.heap.size W w') := hide (fun W h => by
    have := klooks X ⟨#[97, 46, 98, 46, 99, 107]⟩ ⟨#[98, 46, 99, 107]⟩ ⟨#[97, 46, 98, 46, 99, 107]⟩ ⟨#[105]⟩ W h
    rw [hXl, decide_eq_true (show lkR exX _ = _ from aw_l4)] at this
    exact this)
  have HL5 : Hid (∀ W, LWt W → Calls Tryz.prog 47 #[.string X, .string ⟨#[99, 107]⟩, .string ⟨#[99, 107]⟩, .string ⟨#[]⟩, .string ⟨#[45]⟩] W fun e w' => e = .returned (.bool true) ∧ Below W.heap.size W w') := hide (fun W h => by
    have := klooks X ⟨#[99, 107]⟩ ⟨#[99, 107]⟩ ⟨#[]⟩ ⟨#[45]⟩ W h
    rw [hXl, decide_eq_true (show lkR exX _ = _ from aw_l5)] at this
    exact this)
  have HL6 : Hid (∀ W, LWt W → Calls Tryz.prog 47 #[.string X, .string ⟨#[97, 46, 119, 119, 119, 46, 99, 107]⟩, .string ⟨#[99, 107]⟩, .string ⟨#[119, 119, 119, 46, 99, 107]⟩, .string ⟨#[105]⟩] W fun e w' => e = .returned (.bool true) ∧ Below W.heap.size W w') := hide (fun W h => by
    have := klooks X ⟨#[97, 46, 119, 119, 119, 46, 99, 107]⟩ ⟨#[99, 107]⟩ ⟨#[119, 119, 119, 46, 99, 107]⟩ ⟨#[105]⟩ W h
    rw [hXl, decide_eq_true (show lkR exX _ = _ from aw_l6)] at this
    exact this)
  have HL7 : Hid (∀ W, LWt W → Calls Tryz.prog 47 #[.string X, .string ⟨#[97, 46, 98, 108, 111, 103, 115, 112, 111, 116, 46, 99, 111, 109]⟩, .string ⟨#[98, 108, 111, 103, 115, 112, 111, 116, 46, 99, 111, 109]⟩, .string ⟨#[97, 46, 98, 108, 111, 103, 115, 112, 111, 116, 46, 99, 111, 109]⟩, .string ⟨#[112]⟩] W fun e w' => e = .returned (.bool true) ∧ Below W.heap.size W w') := hide (fun W h => by
    have := klooks X ⟨#[97, 46, 98, 108, 111, 103, 115, 112, 111, 116, 46, 99, 111, 109]⟩ ⟨#[98, 108, 111, 103, 115, 112, 111, 116, 46, 99, 111, 109]⟩ ⟨#[97, 46, 98, 108, 111, 103, 115, 112, 111, 116, 46, 99, 111, 109]⟩ ⟨#[112]⟩ W h
    rw [hXl, decide_eq_true (show lkR exX _ = _ from aw_l7)] at this
    exact this)
  have HL8 : Hid (∀ W, LWt W → Calls Tryz.prog 47 #[.string X, .string ⟨#[97, 46, 98, 46, 122, 122]⟩, .string ⟨#[122, 122]⟩, .string ⟨#[98, 46, 122, 122]⟩, .string ⟨#[45]⟩] W fun e w' => e = .returned (.bool true) ∧ Below W.heap.size W w') := hide (fun W h => by
    have := klooks X ⟨#[97, 46, 98, 46, 122, 122]⟩ ⟨#[122, 122]⟩ ⟨#[98, 46, 122, 122]⟩ ⟨#[45]⟩ W h
    rw [hXl, decide_eq_true (show lkR exX _ = _ from aw_l8)] at this
    exact this)
  rw [hX]
  have HW := hide hw
  have HLW : Hid (∀ W, Below w.heap.size w W → LWt W) := hide (fun W h => lwt_stays _ _ hw h)
  clear hw hX hXl
  go_enter Tryz.func20, Tryz.ntmps20
  go_wp2_with fail
  refine (HP1.out _ HW.out).mono ?_
  rintro e w1 ⟨hB, rfl⟩
  have HB1 : Hid (Below w.heap.size w w1) := hide (below_step (Below.refl _ w) hB)
  clear hB
  go_wp2_with fail
  refine (HP2.out _ (HLW.out _ HB1.out)).mono ?_
  rintro e w2 ⟨hB, rfl⟩
  have HB2 : Hid (Below w.heap.size w w2) := hide (below_step (HB1.out) hB)
  clear hB
  go_wp2_with fail
  refine (HS1.out _ (HLW.out _ HB2.out)).mono ?_
  rintro e w3 ⟨hB, rfl⟩
  have HB3 : Hid (Below w.heap.size w w3) := hide (below_step (HB2.out) hB)
  clear hB
  go_wp2_with fail
  refine (HC1.out _ (HLW.out _ HB3.out)).mono ?_
  rintro e w4 ⟨rfl, hB⟩
  have HB4 : Hid (Below w.heap.size w w4) := hide (below_stepA (HB3.out) hB)
  clear hB
  go_wp2_with fail
  refine (HC2.out _ (HLW.out _ HB4.out)).mono ?_
  rintro e w5 ⟨rfl, hB⟩
  have HB5 : Hid (Below w.heap.size w w5) := hide (below_stepA (HB4.out) hB)
  clear hB
  go_wp2_with fail
  refine (HR1.out _ (HLW.out _ HB5.out)).mono ?_
  rintro e w6 ⟨rfl, hB⟩
  have HB6 : Hid (Below w.heap.size w w6) := hide (below_step (HB5.out) hB)
  clear hB
  go_wp2_with fail
  refine (HL1.out _ (HLW.out _ HB6.out)).mono ?_
  rintro e w7 ⟨rfl, hB⟩
  have HB7 : Hid (Below w.heap.size w w7) := hide (below_step (HB6.out) hB)
  clear hB
  go_wp2_with fail
  refine (HL2.out _ (HLW.out _ HB7.out)).mono ?_
  rintro e w8 ⟨rfl, hB⟩
  have HB8 : Hid (Below w.heap.size w w8) := hide (below_step (HB7.out) hB)
  clear hB
  go_wp2_with fail
  refine (HL3.out _ (HLW.out _ HB8.out)).mono ?_
  rintro e w9 ⟨rfl, hB⟩
  have HB9 : Hid (Below w.heap.size w w9) := hide (below_step (HB8.out) hB)
  clear hB
  go_wp2_with fail
  refine (HL4.out _ (HLW.out _ HB9.out)).mono ?_
  rintro e w10 ⟨rfl, hB⟩
  have HB10 : Hid (Below w.heap.size w w10) := hide (below_step (HB9.out) hB)
  clear hB
  go_wp2_with fail
  refine (HL5.out _ (HLW.out _ HB10.out)).mono ?_
  rintro e w11 ⟨rfl, hB⟩
  have HB11 : Hid (Below w.heap.size w w11) := hide (below_step (HB10.out) hB)
  clear hB
  go_wp2_with fail
  refine (HL6.out _ (HLW.out _ HB11.out)).mono ?_
  rintro e w12 ⟨rfl, hB⟩
  have HB12 : Hid (Below w.heap.size w w12) := hide (below_step (HB11.out) hB)
  clear hB
  go_wp2_with fail
  refine (HL7.out _ (HLW.out _ HB12.out)).mono ?_
  rintro e w13 ⟨rfl, hB⟩
  have HB13 : Hid (Below w.heap.size w w13) := hide (below_step (HB12.out) hB)
  clear hB
  go_wp2_with fail
  refine (HL8.out _ (HLW.out _ HB13.out)).mono ?_
  rintro e w14 ⟨rfl, hB⟩
  have HB14 : Hid (Below w.heap.size w w14) := hide (below_step (HB13.out) hB)
  clear hB
  go_wp2
  go_ret
  exact ⟨rfl, HB14.out⟩
end Go.Proofs.YtgohllfpceeboabGreatDoor

namespace Go.Proofs.YtgohllfpceeboabGreatDoor
open Go.RowKit
theorem exX_len : 0 < exX.length := by
  have h := ex_opn
  by_cases h0 : exX = []
  · rw [h0] at h
    exact absurd (congrArg Prod.snd h) (by decide)
  · exact List.length_pos_iff.2 h0
theorem ne_text {X : ByteArray} (h : 0 < X.size) : X.toList.isEmpty = false := by
  rw [ByteArray.toList_eq, List.isEmpty_eq_false_iff]
  intro e
  have := congrArg List.length e
  rw [ba_len, List.length_nil] at this
  omega
theorem no_text {X : ByteArray} (h : X.data.toList = []) : X.toList.isEmpty = true := by
  rw [ByteArray.toList_eq, h]
  rfl
end Go.Proofs.YtgohllfpceeboabGreatDoor

namespace Go.Proofs.YtgohllfpceeboabGreatDoor
open Go.RowKit
theorem nm_head (i : Nat) : ∃ c t, Sx.nm i = c :: t ∧ c ≠ 42 ∧ c ≠ 33 := by
  unfold Sx.nm
  split <;> exact ⟨_, _, rfl, by decide, by decide⟩
/-- A line: its first byte and what its host is. -/
theorem line_cut (r : Sx.RawR) : ∃ c t, Sx.lineT r = c :: t ∧ (c = 42 → 2 ≤ (c :: t).length) ∧ kindB c = Sx.rawK r ∧ (if c = 42 then t.drop 1 else if c = 33 then t else c :: t) = Sx.dotted ((Sx.ruleIx r).map Sx.nm) := by
  have hne : (Sx.ruleIx r).map Sx.nm ≠ [] := by
    rw [Ne, List.map_eq_nil_iff]
    intro h
    unfold Sx.ruleIx Sx.hostIx at h
    split at h <;> simp at h
  obtain ⟨c, t, hd, n1, n2⟩ : ∃ c t, Sx.dotted ((Sx.ruleIx r).map Sx.nm) = c :: t ∧ c ≠ 42 ∧ c ≠ 33 := by
    cases hx : Sx.ruleIx r with
    | nil => rw [hx] at hne; exact absurd rfl hne
    | cons i ix =>
      obtain ⟨c, t, h1, h2, h3⟩ := nm_head i
      rw [List.map_cons]
      cases hy : ix.map Sx.nm with
      | nil => exact ⟨c, t, by simp [Sx.dotted, h1], h2, h3⟩
      | cons y ys => exact ⟨c, t ++ 46 :: Sx.dotted (y :: ys), by rw [Sx.dotted_cons, h1]; rfl, h2, h3⟩
  unfold Sx.lineT
  rw [hd]
  rcases (Sx.rawK_is r).1 with k | k | k
  · rw [k]
    refine ⟨c, t, rfl, fun h => absurd h n1, ?_, ?_⟩
    · unfold kindB; rw [if_neg n1, if_neg n2]
    · rw [if_neg n1, if_neg n2]
  · rw [k]
    exact ⟨42, 46 :: c :: t, rfl, fun _ => by simp, rfl, rfl⟩
  · rw [k]
    exact ⟨33, c :: t, rfl, fun h => absurd h (by decide), rfl, rfl⟩
theorem kkindL (r : Sx.RawR) (W : World) : Calls Tryz.prog 28 #[.string ⟨(Sx.lineT r).toArray⟩] W fun e w' => e = .returned (.int .u8 (Sx.rawK r).toNat) ∧ w' = W := by
  obtain ⟨c, t, h1, h2, h3, h4⟩ := line_cut r
  rw [h1, ← h3]
  exact kkind ⟨(c :: t).toArray⟩ c W (Nat.succ_pos _) rfl
set_option maxRecDepth 100000 in
set_option maxHeartbeats 2000000 in
/-- suffixkeep.host -/
theorem khostP (X : ByteArray) (c : UInt8) (w : World) (h0 : 0 < X.size) (h2 : c = 42 → 2 ≤ X.size) (hc : X[0] = c) (h1 : X.size ≤ 100) : Calls Tryz.prog 27 #[.string X] w fun e w' => e = .returned (.string (if c = 42 then X.extract 2 X.size else if c = 33 then X.extract 1 X.size else X)) ∧ w' = w := by
  have HK := hide (fun W => kkind X c W (by omega) hc)
  unfold kindB at HK
  clear hc
  by_cases c1 : c = 42
  · have h2 := h2 c1
    subst c1
    rw [if_pos rfl] at HK ⊢
    go_enter Tryz.func27, Tryz.ntmps27
    go_wp2_with fail
    refine (HK.out _).mono ?_
    rintro e w1 ⟨rfl, rfl⟩
    go_wp2
    go_ret
    exact ⟨rfl, rfl⟩
  · clear h2
    rw [if_neg c1] at HK ⊢
    by_cases c2 : c = 33
    · subst c2
      rw [if_pos rfl] at HK ⊢
      go_enter Tryz.func27, Tryz.ntmps27
      go_wp2_with fail
      refine (HK.out _).mono ?_
      rintro e w1 ⟨rfl, rfl⟩
      go_wp2
      go_ret
      exact ⟨rfl, rfl⟩
    · rw [if_neg c2] at HK ⊢
      go_enter Tryz.func27, Tryz.ntmps27
      go_wp2_with fail
      refine (HK.out _).mono ?_
      rintro e w1 ⟨rfl, rfl⟩
      go_wp2
      go_ret
      exact ⟨rfl, rfl⟩
theorem khostL (r : Sx.RawR) (W : World) : Calls Tryz.prog 27 #[.string ⟨(Sx.lineT r).toArray⟩] W fun e w' => e = .returned (.string ⟨(Sx.dotted ((Sx.ruleIx r).map Sx.nm)).toArray⟩) ∧ w' = W := by
  have hl := Sx.lineT_len r
  obtain ⟨c, t, h1, h2, h3, h4⟩ := line_cut r
  rw [h1] at hl ⊢
  have h := khostP ⟨(c :: t).toArray⟩ c W (Nat.succ_pos _) h2 rfl (by show (c :: t).length ≤ 100; omega)
  have e : (if c = 42 then (⟨(c :: t).toArray⟩ : ByteArray).extract 2 (⟨(c :: t).toArray⟩ : ByteArray).size else if c = 33 then (⟨(c :: t).toArray⟩ : ByteArray).extract 1 (⟨(c :: t).toArray⟩ : ByteArray).size else ⟨(c :: t).toArray⟩) = ⟨(Sx.dotted ((Sx.ruleIx r).map Sx.nm)).toArray⟩ := by
    rw [← h4, drop_ext, drop_ext]
    by_cases c1 : c = 42
    · rw [if_pos c1, if_pos c1]; rfl
    · rw [if_neg c1, if_neg c1]
      by_cases c2 : c = 33
      · rw [if_pos c2, if_pos c2]; rfl
      · rw [if_neg c2, if_neg c2]
  rw [e] at h
  exact h
theorem kplainL (r : Sx.RawR) (W : World) (h : LWt W) : Calls Tryz.prog 14 #[.string ⟨(Sx.dotted ((Sx.ruleIx r).map Sx.nm)).toArray⟩] W fun e w' => Below W.heap.size W w' ∧ e = .returned (.tuple #[.string ⟨(Sx.dotted (Sx.rawRl r).1).toArray⟩, .int .i64 0]) := by
  have hp : Sx.plainR (Sx.dotted ((Sx.ruleIx r).map Sx.nm)) = (Sx.dotted (Sx.rawRl r).1, 0) := by
    unfold Sx.plainR
    rw [Sx.host_ix (Sx.ruleIx_ok r).1]
    rfl
  have := plainsaid_any ⟨(Sx.dotted ((Sx.ruleIx r).map Sx.nm)).toArray⟩ W h
  rw [show (⟨(Sx.dotted ((Sx.ruleIx r).map Sx.nm)).toArray⟩ : ByteArray).data.toList = Sx.dotted ((Sx.ruleIx r).map Sx.nm) from rfl, hp] at this
  exact this
/-- The cells of raw rules. -/
def rwC (r : Sx.RawR) : List Value := [.int .i64 r.1, .int .i64 r.2.1, .int .i64 r.2.2.1, .int .i64 r.2.2.2.1, .int .i64 r.2.2.2.2]
def rwV (l : List Sx.RawR) : List Value := l.flatMap rwC
theorem rwV_app (a b : List Sx.RawR) : rwV (a ++ b) = rwV a ++ rwV b := by simp [rwV]
theorem rwV_get : ∀ (l : List Sx.RawR) (j : Nat) (h : j < l.length), (rwV l)[j * 5]? = some (.int .i64 l[j].1) ∧ (rwV l)[j * 5 + 1]? = some (.int .i64 l[j].2.1) ∧ (rwV l)[j * 5 + 2]? = some (.int .i64 l[j].2.2.1) ∧ (rwV l)[j * 5 + 3]? = some (.int .i64 l[j].2.2.2.1) ∧ (rwV l)[j * 5 + 4]? = some (.int .i64 l[j].2.2.2.2) := by
  intro l
  induction l with
  | nil => intro j h; exact absurd h (Nat.not_lt_zero _)
  | cons x r ih =>
    intro j h
    have e : rwV (x :: r) = Value.int .i64 x.1 :: Value.int .i64 x.2.1 :: Value.int .i64 x.2.2.1 :: Value.int .i64 x.2.2.2.1 :: Value.int .i64 x.2.2.2.2 :: rwV r := rfl
    cases j with
    | zero => rw [e]; exact ⟨rfl, rfl, rfl, rfl, rfl⟩
    | succ j =>
      have := ih j (by simpa using h)
      rw [e, show (j + 1) * 5 = j * 5 + 5 by omega]
      exact this
theorem rdR_own {W : World} {B : Nat} {v : Value} {l : List Sx.RawR} (h : W.ownsRow B 61 5 v l.length (rwV l)) (ho : ∀ x ∈ l, RawOk x) : RdR W v l := by
  obtain ⟨p, cap, hv⟩ := own_shapeK h
  refine ⟨p, cap, hv, ho, fun j hj => ?_⟩
  rcases h.2 with ⟨e1, e2⟩ | ⟨g, cap, cur, e1, e2, e3, e4⟩
  · omega
  · have hp : p = some ⟨g, 0, none⟩ := by rw [hv] at e1; injection e1
    obtain ⟨a1, a2, a3, a4, a5⟩ := rwV_get l j hj
    have hg := h.lt g (by rw [e1]; rfl)
    refine ⟨g, 0, hp, hg.2, ?_⟩
    rw [Nat.zero_add]
    have hadd : ∀ n, (⟨g, 0, none⟩ : Addr).add n = ⟨g, n, none⟩ := fun n => by unfold Addr.add; split <;> simp_all
    have hc : ∀ n u, (rwV l)[n]? = some u → W.cell? ⟨g, n, none⟩ = some u := fun n u hu => by
      rw [← hadd]; exact h.cells (g := g) (by rw [e1]; rfl) _ _ hu
    exact ⟨hc _ _ a1, hc _ _ a2, hc _ _ a3, hc _ _ a4, hc _ _ a5⟩
end Go.Proofs.YtgohllfpceeboabGreatDoor

