import Derived.Test.YtgohllfpceeboaaGreatDoorInbv
import Derived.Test.YtgohllfpceeboaaGreatDoorInbw
namespace Go.Proofs.YtgohllfpceeboaaGreatDoor
open Go.RowKit
set_option maxRecDepth 100000 in
set_option maxHeartbeats 2000000 in
theorem pline (r : Sx.Rl) (w : World) (hk : Sx.isKd r.2.1) (hd : (Sx.dotted r.1).length ≤ 100000) :
 Calls Tryz.prog 144 #[ruA r] w fun e w' => e = .returned (.string ⟨(Sx.rlLine r).toArray⟩) ∧ Below w.heap.size w w' := by
 obtain ⟨h, k, sc⟩ := r
 unfold ruA Sx.rlLine
 dsimp only at hk hd ⊢
 have HB0 : Hid (∀ o, Below w.heap.size w (w.alloc o)) := hide (fun o => (Below.refl _ w).alloc (Nat.le_refl _) o)
 obtain ⟨D, hD⟩ : ∃ D, Sx.dotted h = D := ⟨_, rfl⟩
 rw [hD] at hd ⊢
 obtain ⟨M, hM⟩ : ∃ M, h.length = M := ⟨_, rfl⟩
 rw [hM]
 have hDs : (⟨D.toArray⟩ : ByteArray).size ≤ 100000 := hd
 have e1 := ba_app [42, 46] D
 have e2 := ba_app [33] D
 have e3 := ba_app [] D
 obtain ⟨X, hX⟩ : ∃ X : ByteArray, ⟨D.toArray⟩ = X := ⟨_, rfl⟩
 rw [hX] at hDs e1 e2 e3 ⊢
 clear hD hM hd
 rcases hk with rfl | rfl | rfl
 · have HR := hide e3
   have hap := e3
   clear e1 e2 e3
   go_enter Tryz.func144, Tryz.ntmps144
   go_wp2_with fail
   go_region_with (go_at_call 195; refine (pahead_p _).mono ?_; rintro e w1 ⟨rfl, rfl⟩)
   all_goals
    go_wp2
    go_ret
    exact ⟨by first | rfl | (rw [← HR.out]; rfl), by first | exact HB0.out _ | exact (HB0.out _).drew⟩
 · have HR := hide e1
   have hap := e1
   clear e1 e2 e3
   go_enter Tryz.func144, Tryz.ntmps144
   go_wp2_with fail
   go_region_with (go_at_call 195; refine (pahead_w _).mono ?_; rintro e w1 ⟨rfl, rfl⟩)
   all_goals
    go_wp2
    go_ret
    exact ⟨by first | rfl | (rw [← HR.out]; rfl), by first | exact HB0.out _ | exact (HB0.out _).drew⟩
 · have HR := hide e2
   have hap := e2
   clear e1 e2 e3
   go_enter Tryz.func144, Tryz.ntmps144
   go_wp2_with fail
   go_region_with (go_at_call 195; refine (pahead_e _).mono ?_; rintro e w1 ⟨rfl, rfl⟩)
   all_goals
    go_wp2
    go_ret
    exact ⟨by first | rfl | (rw [← HR.out]; rfl), by first | exact HB0.out _ | exact (HB0.out _).drew⟩
end Go.Proofs.YtgohllfpceeboaaGreatDoor
namespace Go.Proofs.YtgohllfpceeboaaGreatDoor
open Go.RowKit
theorem secs_more (rs : List Sx.Rl) (s : UInt8) (k : Nat) (h : k < rs.length) : secs (rs.take (k + 1)) s = secs (rs.take k) s ++ if rs[k].2.2 = s then [Sx.rlLine rs[k]] else [] := by
 unfold secs
 rw [List.take_succ_eq_append_getElem h, List.filter_append, List.map_append]
 congr 1
 by_cases e : rs[k].2.2 = s
 · rw [if_pos e]; simp [e]
 · rw [if_neg e]; simp [e]
theorem secs_le (rs : List Sx.Rl) (s : UInt8) : (secs rs s).length ≤ rs.length := by
 unfold secs
 rw [List.length_map]
 exact List.length_filter_le _ _
set_option maxRecDepth 100000 in
set_option maxHeartbeats 1000000 in
theorem plinesO (rs : List Sx.Rl) (sec : UInt8) (v : Value) (w : World) (hv : PrAt w v rs) (hok : ∀ r ∈ rs, Sx.isKd r.2.1 ∧ (Sx.dotted r.1).length ≤ 1000) (hN : rs.length ≤ 1000) :
 Calls Tryz.prog 83 #[v, .int .u8 sec.toNat] w fun e w' => ∃ lv, e = .returned lv ∧ w'.ownsRow w.heap.size 9 1 lv (secs rs sec).length (stV (secs rs sec)) ∧ Below w.heap.size w w' := by
 obtain ⟨i0, hi, hz0, hz1, hz2⟩ := info_parts Tryz.info9
 obtain ⟨p, cap, rfl, hrd⟩ := hv
 have HRD := hide hrd
 have HOK := hide hok
 clear hrd hok
 go_enter Tryz.func83, Tryz.ntmps83
 go_wp2_with fail
 go_loopw [5, 10] (fun kv iv wr => ∃ (k : Nat) (L : List (List UInt8)), iv = .int .i64 k ∧ k ≤ rs.length ∧ secs (rs.take k) sec = L ∧ L.length ≤ k ∧ wr.ownsRow w.heap.size 9 1 kv L.length (stV L) ∧ Below w.heap.size w wr) (fun _ iv _ => (rs.length - intOf iv).toNat)
 case atStart => exact ⟨0, [], rfl, by omega, rfl, by simp, World.ownsRow_nil _ _ _ _, Below.refl _ _⟩
 case round =>
  obtain ⟨k, L, rfl, hk, hL, hLk, hown, hB⟩ := hrel
  have hsz := hB.size
  obtain ⟨kp, kc, rfl⟩ := own_shapeK hown
  by_cases hlt : k < rs.length
  · obtain ⟨b, rfl, hb, c1, c2, c3, c4⟩ := HRD.out k hlt
    have d1 := (hB.cell (p := ⟨b, k * 4, none⟩) hb).trans c1
    have d2 := (hB.cell (p := ⟨b, k * 4 + 1, none⟩) hb).trans c2
    have d3 := (hB.cell (p := ⟨b, k * 4 + 2, none⟩) hb).trans c3
    have d4 := (hB.cell (p := ⟨b, k * 4 + 3, none⟩) hb).trans c4
    have hrl := HOK.out rs[k] (List.getElem_mem hlt)
    have hst := secs_more rs sec k hlt
    rw [hL] at hst
    have hky := fun w => pline rs[k] w hrl.1 (by omega)
    obtain ⟨⟨qh, qk, qs⟩, hq⟩ : ∃ q, rs[k] = q := ⟨_, rfl⟩
    rw [hq] at d1 d2 d3 d4 hst hky
    unfold ruA at hky
    dsimp only at d1 d2 d3 d4 hst hky
    obtain ⟨D, hD⟩ : ∃ D : ByteArray, ⟨(Sx.dotted qh).toArray⟩ = D := ⟨_, rfl⟩
    obtain ⟨N, hN2⟩ : ∃ N, qh.length = N := ⟨_, rfl⟩
    rw [hD] at d2 hky
    rw [hN2] at d3 hky
    obtain ⟨LN, hLN⟩ : ∃ LN, Sx.rlLine (qh, qk, qs) = LN := ⟨_, rfl⟩
    rw [hLN] at hst hky
    obtain ⟨X, hX⟩ : ∃ X : ByteArray, ⟨LN.toArray⟩ = X := ⟨_, rfl⟩
    rw [hX] at hky
    have HST := hide hst
    have HKY := hide hky
    have HX : Hid (stV (L ++ [LN]) = stV L ++ [.string X]) := hide (by rw [stV_app]; simp [stV, hX])
    have HA : Hid (∀ o, Below w.heap.size w (wr.alloc o)) := hide (fun o => hB.alloc hsz o)
    clear c1 c2 c3 c4 hky hD hN2 hX hLN hq hrl hst hL
    by_cases hs : qs = sec
    · subst hs
      go_wp2_with fail
      refine (HKY.out _).mono ?_
      rintro e w2 ⟨rfl, hB2⟩
      have hBa : Below wr.heap.size wr w2 := ((Below.refl _ wr).alloc (Nat.le_refl _) _).trans (hB2.mono (by rw [World.size_alloc]; exact Nat.le_succ _))
      have hown2 := own_later hown hBa
      have hB3 := hB.trans (hBa.mono hsz)
      have hsz3 := hB3.size
      clear hB2 hBa hown hB
      go_wp2_with (at_builtin; go_must (refine wpList_append_lies _ rfl _ _ _ rfl w.heap.size 9 i0 (.string ⟨#[]⟩) 1 16 Tryz.underlying34 hi hz0 hz1 hz2 rfl (by decide) _ _ _ rfl (hown2.alloc _) ⟨_, 0, none⟩ 1 1 [.string X] rfl rfl (cell_one_new _ _ _) (by simp [Value.oneCell']) (by omega) (by unfold maxLen; omega) (by omega) (by simp; omega) _ rfl ?_; intro g6 cap6 w6 hown6 hgrow6 hat6 hlt6))
      exact ⟨⟨k + 1, L ++ [LN], by go_num, by omega, by rw [HST.out]; simp, by simp; omega, by rw [HX.out, List.length_append, List.length_singleton]; exact hown6, below_app hB3 hsz3 hown2 hgrow6⟩, by simp [intOf]; omega⟩
    · have hs1 : ((qs.toNat : Int) == (sec.toNat : Int)) = false := by
       rw [beq_eq_false_iff_ne]
       intro e
       exact hs (UInt8.toNat_inj.1 (by omega))
      have hs2 : ¬ (qs.toNat : Int) = (sec.toNat : Int) := by simpa using hs1
      have hown2 := fun o => own_later hown ((Below.refl _ wr).alloc (Nat.le_refl _) o)
      have HOW := hide hown2
      clear hown hown2
      go_wp2
      exact ⟨⟨k + 1, L, by go_num, by omega, by rw [HST.out, if_neg hs, List.append_nil], by omega, HOW.out _, HA.out _⟩, by simp [intOf]; omega⟩
  · have hkl : k = rs.length := by omega
    subst hkl
    rw [List.take_length] at hL
    have HL := hide hL
    have HO := hide hown
    have HB := hide hB
    clear hL hown hB
    go_wp2
    go_ret
    rw [HL.out]
    exact ⟨_, rfl, HO.out, HB.out⟩
end Go.Proofs.YtgohllfpceeboaaGreatDoor
namespace Go.Proofs.YtgohllfpceeboaaGreatDoor
open Go.RowKit Go.Shelf
theorem lw_lies : liesAt Tryz.prog Tryz.prog.depth 135 (2 / Tryz.prog.cellsOf 135) 0 133 1 = true := by kernel_rfl
theorem lw_size : (Tryz.prog.info? 133).map (·.size) = some 2 := by kernel_rfl
theorem lw_byte : (Tryz.prog.info? 5).map (fun i => (i.zero, i.size, i.bytes)) = some (some (.int .u8 0), 1, 1) := by kernel_rfl
def LwAt (W : World) (B b : Nat) (bs : List UInt8) : Prop := Lib.IsBuilderF 135 5 B b (Lib.byteCells bs) W
set_option maxRecDepth 100000 in
set_option maxHeartbeats 1000000 in
theorem pccF (b : Nat) (w : World) (h0 : w.cell? ⟨b, 0, none⟩ = some (.pointer none)) (hsh : w.shape? b = some (135, 2)) (hfz : w.frozen? ⟨b, 0, none⟩ = false) :
 Calls Tryz.prog 168 #[.pointer (some ⟨b, 0, none⟩)] w fun e w' => e = .returned (.tuple #[]) ∧ w' = w.setCell ⟨b, 0, none⟩ (.pointer (some ⟨b, 0, none⟩)) := by
 obtain ⟨j, hj, hjs⟩ := Option.map_eq_some_iff.1 lw_size
 have q1 := Lib.run_to_unsafe (P := Tryz.prog) (w := w) ⟨b, 0, none⟩ Tryz.underlying131 Tryz.underlying292 hj (by rw [hjs]; decide) hsh (Nat.zero_lt_succ 1)
 have q2 := Lib.run_from_unsafe (P := Tryz.prog) (w := w) ⟨b, 0, none⟩ Tryz.underlying292 Tryz.underlying131 hj hsh lw_lies
 go_enter Tryz.func168, Tryz.ntmps168
 go_wp2
 rw [run_callFunc_extern Tryz.func219 (by kernel_rfl) (by kernel_rfl) (by kernel_rfl) (e := Extern.AbiNoEscape.same) (by kernel_rfl), Lib.run_noEscape]
 simp only [Result.andThen]
 rw [Oper.upon_value]
 go_wp2
 go_end0
 exact ⟨rfl, rfl⟩
theorem pcc (B b : Nat) (bs : List UInt8) (w : World) (h : LwAt w B b bs) :
 Calls Tryz.prog 168 #[.pointer (some ⟨b, 0, none⟩)] w fun e w' => e = .returned (.tuple #[]) ∧ Lib.BuilderAtF 135 5 B b (.pointer (some ⟨b, 0, none⟩)) (Lib.byteCells bs) w' ∧ Below B w w' ∧ Lib.OthersKept 5 (some b) w w' := by
 rcases h with h | h
 · refine (pccF b w h.cell0 h.shape h.frozen0).mono ?_
   rintro e w' ⟨rfl, rfl⟩
   exact ⟨rfl, h.used _, (Below.refl B w).setCell (p := ⟨b, 0, none⟩) h.1 _, (Lib.OthersKept.refl _ _ w).setCell ⟨b, 0, none⟩ rfl _⟩
 · refine (Any.Builder_copyCheck_used (P := Tryz.prog) (ρ := Tryz.bren) { Tryz.layWS with } Tryz.bX.toX72 b w h.cell0).mono ?_
   rintro e w' ⟨rfl, rfl⟩
   exact ⟨rfl, h, Below.refl B _, Lib.OthersKept.refl _ _ _⟩
set_option maxRecDepth 100000 in
set_option maxHeartbeats 1000000 in
theorem pwsL (B b : Nat) (bs : List UInt8) (s : ByteArray) (w : World) (h : LwAt w B b bs) (hlen : bs.length + s.size ≤ 1000000) (hBw : B ≤ w.heap.size) :
 Calls Tryz.prog 117 #[.pointer (some ⟨b, 0, none⟩), .string s] w fun e w' => (∃ v, e = .returned v) ∧ LwAt w' B b (bs ++ s.data.toList) ∧ Below B w w' ∧ Lib.OthersKept 5 (some b) w w' := by
 obtain ⟨i0, hi, hz0, hz1, hz2⟩ := info_parts lw_byte
 have hbl : (Lib.byteCells bs).length = bs.length := Lib.byteCells_length bs
 go_enter Tryz.func117, Tryz.ntmps117
 go_wp2_with fail
 refine (pcc B b bs _ h).mono ?_
 rintro e w1 ⟨rfl, h1, hb1, hk1⟩
 obtain ⟨hB, v, hbk, hown, hne⟩ := h1
 have c0 : w1.cell? ⟨b, 0, none⟩ = some (.pointer (some ⟨b, 0, none⟩)) := by rw [Lib.cell_of_heap hbk]; rfl
 have c1 : w1.cell? ⟨b, 1, none⟩ = some v := by rw [Lib.cell_of_heap hbk]; rfl
 go_wp2_with (at_builtin; refine Lib.wpList_append_own_stringF _ rfl _ _ 58 9 rfl B 5 i0 Tryz.underlying58 Tryz.underlying9 hi hz0 hz1 hz2 _ _ _ rfl hown s rfl ?c3 ?c4 ?c5 ?_)
 case c3 => unfold maxLen; omega
 case c4 => omega
 case c5 => have := hb1.size; omega
 intro v' w2 hown' hgrow _
 have hlt : b < w1.heap.size := (Array.getElem?_eq_some_iff.1 hbk).1
 have hb2 : w2.heap[b]? = some (.cells #[.pointer (some ⟨b, 0, none⟩), v] 135 (0, 0)) := by
  rw [hgrow.block b hlt (fun e => hne e.symm)]
  exact hbk
 have d0 : w2.cell? ⟨b, 0, none⟩ = some (.pointer (some ⟨b, 0, none⟩)) := by rw [Lib.cell_of_heap hb2]; rfl
 have d1 : w2.cell? ⟨b, 1, none⟩ = some v := by rw [Lib.cell_of_heap hb2]; rfl
 have f1 : w2.frozen? ⟨b, 1, none⟩ = false := Lib.frozen_of_heap hb2 1
 obtain ⟨ao, n', cap, rfl⟩ : ∃ ao n' cap, v' = .slice ao n' cap := by
  rcases hown'.2 with ⟨hv, _⟩ | ⟨g, cap, cur, fz, hv, _⟩
  · exact ⟨_, _, _, hv⟩
  · exact ⟨_, _, _, hv⟩
 go_wp2
 go_ret2
 refine ⟨⟨_, rfl⟩, ?_, ?_, (hk1.grown hgrow (Lib.ownsRowF_kind hown)).setCell ⟨b, 1, none⟩ rfl _⟩
 · refine .inr ?_
   rw [byteCells_app]
   exact Lib.BuilderAtF.put hB hb2 (bs' := Lib.byteCells bs ++ Lib.byteCells s.data.toList) (by rw [List.length_append, Lib.byteCells_length, Lib.byteCells_length, ba_len]; exact hown') (by decide)
 · exact (hb1.grown hgrow (by have := hb1.size; omega) (fun k hk => (hown.lt k hk).1)).setCell (p := ⟨b, 1, none⟩) hB _
set_option maxRecDepth 100000 in
set_option maxHeartbeats 1000000 in
theorem pwbL (B b : Nat) (bs : List UInt8) (w : World) (h : LwAt w B b bs) (hlen : bs.length ≤ 1000000) (hBw : B ≤ w.heap.size) :
 Calls Tryz.prog 116 #[.pointer (some ⟨b, 0, none⟩), .int .u8 10] w fun e w' => (∃ v, e = .returned v) ∧ LwAt w' B b (bs ++ [10]) ∧ Below B w w' ∧ Lib.OthersKept 5 (some b) w w' := by
 obtain ⟨i0, hi, hz0, hz1, hz2⟩ := info_parts lw_byte
 have hbl : (Lib.byteCells bs).length = bs.length := Lib.byteCells_length bs
 go_enter Tryz.func116, Tryz.ntmps116
 go_wp2_with fail
 refine (pcc B b bs _ h).mono ?_
 rintro e w1 ⟨rfl, h1, hb1, hk1⟩
 obtain ⟨hB, v, hbk, hown, hne⟩ := h1
 have c0 : w1.cell? ⟨b, 0, none⟩ = some (.pointer (some ⟨b, 0, none⟩)) := by rw [Lib.cell_of_heap hbk]; rfl
 have c1 : w1.cell? ⟨b, 1, none⟩ = some v := by rw [Lib.cell_of_heap hbk]; rfl
 go_wp2_with (at_builtin; refine wpList_append_ownF _ rfl _ _ 58 rfl B 5 i0 (.int .u8 0) 1 1 Tryz.underlying58 hi hz0 hz1 hz2 rfl (by decide) _ _ _ rfl (hown.alloc _) ⟨w1.heap.size, 0, none⟩ 1 1 [.int .u8 10] rfl rfl (cell_one_new _ _ _) (by simp [Value.oneCell']) ?c3 ?c4 ?c5 ?_)
 case c3 => unfold maxLen; omega
 case c4 => omega
 case c5 => have := hb1.size; simp; omega
 intro v' w2 hown' hgrow _
 have hlt : b < w1.heap.size := (Array.getElem?_eq_some_iff.1 hbk).1
 have hb2 : w2.heap[b]? = some (.cells #[.pointer (some ⟨b, 0, none⟩), v] 135 (0, 0)) := by
  rw [hgrow.block b (by simp; omega) (fun e => hne e.symm), heap_alloc_old _ _ hlt]
  exact hbk
 have d0 : w2.cell? ⟨b, 0, none⟩ = some (.pointer (some ⟨b, 0, none⟩)) := by rw [Lib.cell_of_heap hb2]; rfl
 have d1 : w2.cell? ⟨b, 1, none⟩ = some v := by rw [Lib.cell_of_heap hb2]; rfl
 have f1 : w2.frozen? ⟨b, 1, none⟩ = false := Lib.frozen_of_heap hb2 1
 obtain ⟨ao, n', cap, rfl⟩ : ∃ ao n' cap, v' = .slice ao n' cap := by
  rcases hown'.2 with ⟨hv, _⟩ | ⟨g, cap, cur, fz, hv, _⟩
  · exact ⟨_, _, _, hv⟩
  · exact ⟨_, _, _, hv⟩
 go_wp2
 go_ret
 refine ⟨⟨_, rfl⟩, ?_, ?_, ((hk1.alloc _).grown hgrow (Lib.ownsRowF_kind (hown.alloc _))).setCell ⟨b, 1, none⟩ rfl _⟩
 · refine .inr ?_
   rw [byteCells_app]
   exact Lib.BuilderAtF.put hB hb2 (bs' := Lib.byteCells bs ++ Lib.byteCells [10]) (by simpa [Lib.byteCells] using hown') (by decide)
 · exact ((hb1.alloc (by have := hb1.size; omega) _).grown hgrow (by have := hb1.size; simp; omega) (fun k hk => (hown.lt k hk).1)).setCell (p := ⟨b, 1, none⟩) hB _
end Go.Proofs.YtgohllfpceeboaaGreatDoor
namespace Go.Proofs.YtgohllfpceeboaaGreatDoor
open Go.RowKit Go.Shelf
set_option maxRecDepth 100000 in
set_option maxHeartbeats 1000000 in
theorem pstL1 (B b : Nat) (l : List UInt8) (w : World) (h : LwAt w B b l) (h0 : l ≠ []) :
 Calls Tryz.prog 84 #[.pointer (some ⟨b, 0, none⟩)] w fun e w' => e = .returned (.string ⟨l.toArray⟩) ∧ Below B w w' := by
 obtain ⟨p, hAt⟩ : ∃ p, Lib.BuilderAtF 135 5 B b p (Lib.byteCells l) w := by
  rcases h with h | h
  · exact ⟨_, h⟩
  · exact ⟨_, h⟩
 obtain ⟨hB, v, hbk, hown, hne⟩ := hAt
 have hl0 : l.length ≠ 0 := by simpa using h0
 rw [Lib.byteCells_length] at hown
 obtain ⟨g, cap, cur, fz, rfl, hbg, hg, hfz, hnc, hcm, hcs, htake⟩ : ∃ g cap cur fz, v = .slice (some ⟨g, 0, none⟩) l.length cap ∧ B ≤ g ∧ w.heap[g]? = some (.cells cur 5 fz) ∧ fz.2 ≤ l.length * 1 ∧ l.length ≤ cap ∧ cap ≤ maxLen ∧ cur.size = cap * 1 ∧ cur.toList.take (l.length * 1) = Lib.byteCells l := by
  rcases hown.2 with ⟨_, hz⟩ | ⟨g, cap, cur, fz, hv, r⟩
  · exact absurd hz hl0
  · exact ⟨g, cap, cur, fz, hv, r⟩
 have hbk1 : w.drew.heap[b]? = some (.cells #[p, .slice (some ⟨g, 0, none⟩) l.length cap] 135 (0, 0)) := hbk
 have hg1 : w.drew.heap[g]? = some (.cells cur 5 fz) := hg
 have c1 : w.drew.cell? ⟨b, 1, none⟩ = some (.slice (some ⟨g, 0, none⟩) l.length cap) := by rw [Lib.cell_of_heap hbk1]; rfl
 have hSD : (Builtin.unsafeSliceData_ #[58] 207 #[.slice (some ⟨g, 0, none⟩) l.length cap]).run Tryz.prog w.drew = .ok (.pointer (some ⟨g, 0, none⟩)) w.drew := Lib.run_unsafeSliceData_row _ _ _ _ _ _ (by omega)
 have hUS : (Builtin.unsafeString_ #[207, 3] 9 #[.pointer (some ⟨g, 0, none⟩), .int .i64 l.length]).run Tryz.prog w.drew = .ok (.string ⟨l.toArray⟩) (w.drew.freeze ⟨g, 0, none⟩ l.length) := by
  refine Lib.run_unsafeString_row w.drew 207 3 9 5 Tryz.underlying207 Tryz.bX.cellsByte g cur.size (by simp [World.shape?, hg1]) l h0 (by omega) (by unfold maxLen at hcm; omega) ?_
  intro j x hx
  exact hown.cells (g := g) rfl j (.int .u8 x.toNat) (by simp [Lib.byteCells, hx])
 have HB : Hid (Below B w (w.drew.freeze ⟨g, 0, none⟩ l.length)) := hide (Lib.below_freeze (Below.drew (Below.refl B w)) (p := ⟨g, 0, none⟩) hbg _)
 have mixed := Tryz.layST.mixed
 clear hown hbk hbk1 hg hg1 htake hcs hcm hnc hfz h
 go_enter Tryz.func84, Tryz.ntmps84
 go_wp2
 go_region_o
 all_goals (go_wp2; go_ret; exact ⟨rfl, HB.out⟩)
set_option maxRecDepth 100000 in
set_option maxHeartbeats 1000000 in
theorem pstL0 (B b : Nat) (w : World) (p : Value) (hbk : w.heap[b]? = some (.cells #[p, .slice none 0 0] 135 (0, 0))) :
 Calls Tryz.prog 84 #[.pointer (some ⟨b, 0, none⟩)] w fun e w' => e = .returned (.string ⟨#[]⟩) ∧ Below B w w' := by
 have mixed := Tryz.layST.mixed
 have hbk1 : w.drew.heap[b]? = some (.cells #[p, .slice none 0 0] 135 (0, 0)) := hbk
 have c1 : w.drew.cell? ⟨b, 1, none⟩ = some (.slice none 0 0) := by rw [Lib.cell_of_heap hbk1]; rfl
 have hSD : (Builtin.unsafeSliceData_ #[58] 207 #[.slice none 0 0]).run Tryz.prog w.drew = .ok (.pointer none) w.drew := rfl
 have hUS := fun (w : World) => Lib.run_unsafeString_none (P := Tryz.prog) (w := w) 207 3 9 none
 have HB : Hid (Below B w w.drew) := hide (Below.drew (Below.refl B w))
 clear hbk hbk1
 go_enter Tryz.func84, Tryz.ntmps84
 go_wp2
 go_region_o
 all_goals (go_wp2; go_ret; exact ⟨rfl, HB.out⟩)
def LwNew (W : World) (B b : Nat) (bs : List UInt8) : Prop := LwAt W B b bs ∧ (bs = [] → W.heap[b]? = some (.cells #[.pointer none, .slice none 0 0] 135 (0, 0)))
theorem pstL (B b : Nat) (l : List UInt8) (w : World) (h : LwNew w B b l) :
 Calls Tryz.prog 84 #[.pointer (some ⟨b, 0, none⟩)] w fun e w' => e = .returned (.string ⟨l.toArray⟩) ∧ Below B w w' := by
 by_cases h0 : l = []
 · subst h0
   exact pstL0 B b w _ (h.2 rfl)
 · exact pstL1 B b l w h.1 h0
theorem joinL_len (M : Nat) : ∀ L : List (List UInt8), (∀ x ∈ L, x.length ≤ M) → (joinL L).length ≤ L.length * (M + 1)
 | [], _ => by simp [joinL]
 | x :: L, h => by
   have h1 := h x (by simp)
   have h2 := joinL_len M L (fun y hy => h y (by simp [hy]))
   have e : joinL (x :: L) = x ++ 10 :: joinL L := by simp [joinL]
   rw [e, List.length_append, List.length_cons, List.length_cons, Nat.succ_mul]
   omega
theorem joinL_app (a b : List (List UInt8)) : joinL (a ++ b) = joinL a ++ joinL b := by simp [joinL]
set_option maxRecDepth 100000 in
set_option maxHeartbeats 2000000 in
theorem plwadd (L : List (List UInt8)) (v : Value) (B b : Nat) (bs : List UInt8) (w : World) (h : LwNew w B b bs) (hB : B ≤ w.heap.size) (hr : w.ownsRow 0 9 1 v L.length (stV L)) (hL : L.length ≤ 100) (hx : ∀ x ∈ L, x.length ≤ 1000) (hbs : bs.length ≤ 200000) :
 Calls Tryz.prog 82 #[.pointer (some ⟨b, 0, none⟩), v] w fun e w' => (∃ u, e = .returned u) ∧ LwNew w' B b (bs ++ joinL L) ∧ Below B w w' ∧ Lib.OthersKept 5 (some b) w w' := by
 have HROW : Hid (∀ W, Lib.OthersKept 5 (some b) w W → ∀ j (hj : j < L.length), ∃ g c, v = .slice (some ⟨g, 0, none⟩) L.length c ∧ W.cell? ⟨g, j, none⟩ = some (.string ⟨L[j].toArray⟩)) := hide (fun W hW j hj => by
  rcases hr.2 with ⟨_, h0⟩ | ⟨g, cap, cur, hv, _, hg, h1, h2, h3, h4⟩
  · omega
  · refine ⟨g, cap, hv, ?_⟩
    have hgb : g ≠ b := fun e => by
     subst e
     have hh : ∃ p u, w.heap[g]? = some (.cells #[p, u] 135 (0, 0)) := by
      rcases h.1 with q | q
      · obtain ⟨_, u, q, _⟩ := q; exact ⟨_, u, q⟩
      · obtain ⟨_, u, q, _⟩ := q; exact ⟨_, u, q⟩
     obtain ⟨p, u, hh⟩ := hh
     rw [hg] at hh
     cases hh
    have hk := hW g _ hg (fun e => hgb (Option.some.inj e)) (fun c fz e => by cases e)
    rw [Lib.cell_of_heap hk]
    rw [Nat.mul_one] at h4
    have h5 : (cur.toList.take L.length)[j]? = (stV L)[j]? := by rw [h4]
    rw [List.getElem?_take_of_lt hj] at h5
    rw [← Array.getElem?_toList, h5]
    unfold stV
    rw [List.getElem?_map, List.getElem?_eq_getElem hj]
    rfl)
 obtain ⟨p, cap, rfl⟩ := own_shapeK hr
 have HH := hide h
 have HXX := hide hx
 have hJ : Hid (∀ k, k ≤ L.length → (joinL (L.take k)).length ≤ 200000) := hide (fun k hk => by
  have h1 := joinL_len 1000 (L.take k) (fun x hx' => hx x (List.mem_of_mem_take hx'))
  rw [List.length_take] at h1
  have h2 : min k L.length * (1000 + 1) ≤ 100 * 1001 := Nat.mul_le_mul_right _ (by omega)
  omega)
 clear h hr hx
 go_enter Tryz.func82, Tryz.ntmps82
 go_wp2_with fail
 go_loopw [8] (fun i wr => ∃ k : Nat, i = .int .i64 k ∧ k ≤ L.length ∧ LwNew wr B b (bs ++ joinL (L.take k)) ∧ Below B w wr ∧ Lib.OthersKept 5 (some b) w wr) (fun i _ => (L.length - intOf i).toNat)
 case atStart => exact ⟨0, rfl, by omega, by simpa [joinL] using HH.out, Below.refl _ _, Lib.OthersKept.refl _ _ _⟩
 case round =>
  obtain ⟨k, rfl, hk, hlw, hBw, hok⟩ := hrel
  have HOK := hide hok
  have HBW := hide hBw
  have hsz := hBw.size
  have HLW := hide hlw
  have hjl := hJ.out k hk
  clear hok hBw hlw
  by_cases hlt : k < L.length
  · obtain ⟨g, c, hg, hc⟩ := HROW.out wr HOK.out k hlt
    obtain rfl : p = some ⟨g, 0, none⟩ := by injection hg
    clear hg
    have hlx := HXX.out L[k] (List.getElem_mem hlt)
    have htk : joinL (L.take (k + 1)) = joinL (L.take k) ++ (L[k] ++ [10]) := by rw [List.take_succ_eq_append_getElem hlt, joinL_app]; simp [joinL]
    obtain ⟨X, hX⟩ : ∃ X : ByteArray, ⟨L[k].toArray⟩ = X := ⟨_, rfl⟩
    have hXl : X.data.toList = L[k] := by rw [← hX]
    have hXs : X.size ≤ 1000 := by rw [← ba_len, hXl]; exact hlx
    rw [hX] at hc
    have HTK := hide htk
    have HXL := hide hXl
    clear hX hXl htk hlx
    go_wp2_with fail
    refine (pwsL B b (bs ++ joinL (L.take k)) X _ HLW.out.1 (by rw [List.length_append]; omega) (by omega)).mono ?_
    rintro e w1 ⟨⟨u1, rfl⟩, hl1, hB1, hk1⟩
    have HL1 := hide hl1
    have HB1 := hide hB1
    have HK1 := hide hk1
    have hs1 := hB1.size
    clear hl1 hB1 hk1
    go_wp2_with fail
    refine (pwbL B b _ _ HL1.out (by rw [List.length_append, List.length_append, ba_len]; omega) (by omega)).mono ?_
    rintro e w2 ⟨⟨u2, rfl⟩, hl2, hB2, hk2⟩
    have HL2 := hide hl2
    have HB2 := hide hB2
    have HK2 := hide hk2
    clear hl2 hB2 hk2
    go_wp2
    refine ⟨⟨k + 1, by go_num, by omega, ⟨?_, ?_⟩, HBW.out.trans (HB1.out.trans HB2.out), HOK.out.trans (HK1.out.trans HK2.out)⟩, by simp [intOf]; omega⟩
    · have := HL2.out
      rw [HTK.out, ← HXL.out, ← List.append_assoc, ← List.append_assoc]
      exact this
    · intro e
      rw [HTK.out] at e
      simp at e
  · have hke : k = L.length := by omega
    subst hke
    rw [List.take_length] at HLW
    go_wp2
    go_end0
    exact ⟨⟨_, rfl⟩, HLW.out, HBW.out, HOK.out⟩
end Go.Proofs.YtgohllfpceeboaaGreatDoor
namespace Go.Proofs.YtgohllfpceeboaaGreatDoor
open Go.RowKit Go.Shelf
theorem LwNew.below {W W' : World} {B b : Nat} {bs : List UInt8} (h : LwNew W B b bs) (hb : Below W.heap.size W W') : LwNew W' B b bs :=
 ⟨builder_below h.1 hb, fun e => (hb.block b (Array.getElem?_eq_some_iff.1 (h.2 e)).1).trans (h.2 e)⟩
theorem own_others {W W' : World} {B b n : Nat} {v : Value} {xs : List Value} (h : W.ownsRow B 9 1 v n xs) (hb : b < B) (ho : Lib.OthersKept 5 (some b) W W') : W'.ownsRow B 9 1 v n xs := by
 refine ⟨h.1, ?_⟩
 rcases h.2 with h2 | ⟨g, cap, cur, h1, h2, h3, h4⟩
 · exact .inl h2
 · exact .inr ⟨g, cap, cur, h1, h2, ho g _ h3 (fun e => by have := Option.some.inj e; omega) (fun c fz e => by cases e), h4⟩
theorem own_one9 (w : World) (x : List UInt8) : (w.alloc (.cells #[.string ⟨x.toArray⟩] 9)).ownsRow 0 9 1 (.slice (some ⟨w.heap.size, 0, none⟩) 1 1) [x].length (stV [x]) := by
 refine ⟨by simp [stV], .inr ⟨w.heap.size, 1, _, rfl, Nat.zero_le _, heap_alloc_new _ _, by simp, by unfold maxLen; omega, rfl, rfl⟩⟩
set_option maxRecDepth 100000 in
set_option maxHeartbeats 2000000 in
theorem plist (rs : List Sx.Rl) (v : Value) (w : World) (hv : PrAt w v rs) (hok : ∀ r ∈ rs, Sx.isKd r.2.1 ∧ (Sx.dotted r.1).length ≤ 500) (hN : rs.length ≤ 50) :
 Calls Tryz.prog 54 #[v] w fun e w' => e = .returned (.string ⟨(outL rs).toArray⟩) ∧ Below w.heap.size w w' := by
 have HLN := hide (fun s W (h : Below w.heap.size w W) => plinesO rs s v W (hv.below h) (fun r hr => ⟨(hok r hr).1, by have := (hok r hr).2; omega⟩) (by omega))
 obtain ⟨p, cap, rfl, _⟩ := hv
 have hx : ∀ s, ∀ x ∈ secs rs s, x.length ≤ 1000 := fun s x hx => by
  unfold secs at hx
  obtain ⟨r, hr, rfl⟩ := List.mem_map.1 hx
  have := (hok r (List.mem_filter.1 hr).1).2
  unfold Sx.rlLine
  rw [List.length_append]
  repeat' split
  all_goals simp
  all_goals omega
 have hl : ∀ s, (secs rs s).length ≤ 50 := fun s => by have := secs_le rs s; omega
 have HADD := hide (fun s v B b bs W h hB hr hbs => plwadd (secs rs s) v B b bs W h hB hr (by have := hl s; omega) (hx s) hbs)
 have HJL : Hid (∀ s, (joinL (secs rs s)).length ≤ 100000) := hide (fun s => by
  have h1 := joinL_len 1000 (secs rs s) (hx s)
  have h2 : (secs rs s).length * (1000 + 1) ≤ 50 * 1001 := Nat.mul_le_mul_right _ (hl s)
  omega)
 have HL := hide hl
 clear hok hx hl
 have hNew : LwNew (w.alloc (.cells #[.pointer none, .slice none 0 0] 135)) w.heap.size w.heap.size [] := by
  refine ⟨.inl ⟨Nat.le_refl _, .slice none 0 0, heap_alloc_new _ _, ?_, by simp [Value.ownBlock]⟩, fun _ => heap_alloc_new _ _⟩
  exact World.ownsRowF_of (World.ownsRow_nil _ _ _ _)
 have HNEW := hide hNew
 have HB0 : Hid (∀ o, Below w.heap.size w (w.alloc o)) := hide (fun o => (Below.refl _ w).alloc (Nat.le_refl _) o)
 clear hNew
 go_enter Tryz.func54, Tryz.ntmps54
 go_wp2_with fail
 refine (HLN.out 105 _ (HB0.out _)).mono ?_
 rintro e w1 ⟨l1, rfl, ho1, hB1⟩
 have hz1 := hB1.size
 rw [World.size_alloc] at hz1
 have HN1 := hide (HNEW.out.below hB1)
 have HO1 := hide (own_lowerK ho1 (Nat.zero_le _))
 have HB1 : Hid (Below w.heap.size w w1) := hide ((HB0.out _).trans (hB1.mono (by simp)))
 obtain ⟨p1, c1, rfl⟩ := own_shapeK ho1
 clear ho1 hB1 HNEW
 go_wp2_with fail
 refine (HADD.out 105 _ w.heap.size w.heap.size [] w1 HN1.out (by omega) HO1.out (by simp)).mono ?_
 rintro e w2 ⟨⟨u2, rfl⟩, hn2, hB2, -⟩
 rw [List.nil_append] at hn2
 have HN2 := hide hn2
 have HB2 : Hid (Below w.heap.size w w2) := hide (HB1.out.trans hB2)
 have hz2 := hB2.size
 clear hn2 hB2 HN1 HO1 HB1
 go_wp2_with fail
 refine (HLN.out 112 _ HB2.out).mono ?_
 rintro e w3 ⟨l3, rfl, ho3, hB3⟩
 have hz3 := hB3.size
 have HN3 := hide (HN2.out.below hB3)
 have HB3 : Hid (Below w.heap.size w w3) := hide (HB2.out.trans (hB3.mono (by omega)))
 have HO3 := hide ho3
 obtain ⟨p3, c3, rfl⟩ := own_shapeK ho3
 have HOUT : Hid (outL rs = joinL (secs rs 105) ++ if secs rs 112 = [] then [] else joinL ([61, 61, 61, 112] :: secs rs 112)) := hide rfl
 have hl2 := HL.out 112
 have HJ1 := HJL.out 105
 clear ho3 hB3 HN2 HLN
 by_cases h0 : secs rs 112 = []
 · have hlen : (secs rs 112).length = 0 := by rw [h0]; rfl
   rw [hlen]
   have HH0 := hide h0
   clear h0 hlen
   go_wp2_with fail
   refine (pstL _ _ _ _ HN3.out).mono ?_
   rintro e w4 ⟨rfl, hB4⟩
   have HB4 := hide (HB3.out.trans hB4)
   clear hB4
   go_wp2
   go_ret
   refine ⟨?_, HB4.out⟩
   rw [HOUT.out, if_pos HH0.out, List.append_nil]
   rfl
 · have hpos : 0 < (secs rs 112).length := List.length_pos_iff.2 h0
   have HH0 := hide h0
   obtain ⟨M, hM⟩ : ∃ M, (secs rs 112).length = M + 1 := ⟨(secs rs 112).length - 1, by omega⟩
   have HM := hide hM
   rw [hM] at hl2 ⊢
   clear h0 hpos hM
   go_wp2_with fail
   have hA : Below w3.heap.size w3 (w3.alloc (.cells #[.string ⟨#[61, 61, 61, 112]⟩] 9)) := (Below.refl _ _).alloc (Nat.le_refl _) _
   refine (plwadd [[61, 61, 61, 112]] _ w.heap.size w.heap.size (joinL (secs rs 105)) _ (HN3.out.below hA) (by have := hA.size; omega) (own_one9 w3 _) (by simp) (by simp) (by omega)).mono ?_
   rintro e w4 ⟨⟨u4, rfl⟩, hn4, hB4, hk4⟩
   have HN4 := hide hn4
   have HO4 := hide (own_lowerK (own_others (own_later HO3.out hA) (by omega) hk4) (Nat.zero_le _))
   have HB4 : Hid (Below w.heap.size w w4) := hide (HB3.out.trans ((hA.mono (by omega)).trans hB4))
   have hz4 := HB4.out.size
   rw [HM.out] at HO4
   have HAD2 := HADD.out 112
   rw [HM.out] at HAD2
   have HAD3 := hide HAD2
   clear hn4 hB4 hk4 HN3 HO3 HB3 hA HADD HAD2
   go_wp2_with fail
   refine (HAD3.out _ w.heap.size w.heap.size _ w4 HN4.out (by omega) HO4.out (by rw [List.length_append]; simp [joinL] at HJ1 ⊢; omega)).mono ?_
   rintro e w5 ⟨⟨u5, rfl⟩, hn5, hB5, -⟩
   have HN5 := hide hn5
   have HB5 : Hid (Below w.heap.size w w5) := hide (HB4.out.trans hB5)
   clear hn5 hB5
   go_wp2_with fail
   refine (pstL _ _ _ _ HN5.out).mono ?_
   rintro e w6 ⟨rfl, hB6⟩
   have HB6 := hide (HB5.out.trans hB6)
   clear hB6
   go_wp2
   go_ret
   refine ⟨?_, HB6.out⟩
   rw [HOUT.out, if_neg HH0.out]
   have e : joinL ([61, 61, 61, 112] :: secs rs 112) = joinL [[61, 61, 61, 112]] ++ joinL (secs rs 112) := by simp [joinL]
   rw [e]
   rfl
end Go.Proofs.YtgohllfpceeboaaGreatDoor
namespace Go.Proofs.YtgohllfpceeboaaGreatDoor
open Go.RowKit
theorem tabR_at {W : World} {B b : Nat} {sv : Value} {tab : List (List Sx.Edg)} {vs : List Value} (h : TabAt W B sv tab vs) (hb : W.heap.size ≤ b) (h0 : tab ≠ []) : TabR W b sv tab := by
 have hp : 0 < tab.length := List.length_pos_iff.2 h0
 rcases h.row.2 with ⟨_, e⟩ | ⟨g, cap, cur, hv, _, hg, h1, h2, h3, h4⟩
 · omega
 · refine ⟨g, cap, hv, Nat.lt_of_lt_of_le (Array.getElem?_eq_some_iff.1 hg).1 hb, fun i hi => ?_⟩
   rw [Nat.mul_one] at h4
   have hi2 : i < vs.length := by rw [h.len]; exact hi
   have hci : W.cell? ⟨g, i, none⟩ = some vs[i] := by
    rw [Lib.cell_of_heap hg, ← Array.getElem?_toList]
    have h5 : (cur.toList.take tab.length)[i]? = vs[i]? := by rw [h4]
    rw [List.getElem?_take_of_lt hi, List.getElem?_eq_getElem hi2] at h5
    exact h5
   have he := h.each i hi hi2
   obtain ⟨p, c, hpc⟩ := own_shapeK he
   refine ⟨p, c, by rw [hci, hpc], fun j hj => ?_⟩
   rcases he.2 with ⟨_, e⟩ | ⟨e, cap2, cur2, hv2, _, he2, k1, k2, k3, k4⟩
   · omega
   · rw [hpc] at hv2
     obtain rfl : p = some ⟨e, 0, none⟩ := by injection hv2
     have hg2 := edV_get tab[i] j hj
     have hk : ∀ m, m < tab[i].length * 2 → cur2[m]? = (edV tab[i])[m]? := fun m hm => by
      have h5 : (cur2.toList.take (tab[i].length * 2))[m]? = (edV tab[i])[m]? := by rw [k4]
      rw [List.getElem?_take_of_lt hm] at h5
      rw [← Array.getElem?_toList, h5]
     refine ⟨e, rfl, Nat.lt_of_lt_of_le (Array.getElem?_eq_some_iff.1 he2).1 hb, ?_, ?_⟩
     · rw [Lib.cell_of_heap he2, hk _ (by omega)]; exact hg2.1
     · rw [Lib.cell_of_heap he2, hk _ (by omega)]; exact hg2.2
theorem TabR.below' {w w' : World} {b b' B : Nat} {sv : Value} {tab : List (List Sx.Edg)} (h : TabR w b sv tab) (hb : Below B w w') (hB : b ≤ B) (hb' : b ≤ b') : TabR w' b' sv tab := by
 obtain ⟨g, cap, h1, h2, h3⟩ := h
 refine ⟨g, cap, h1, by omega, fun i hi => ?_⟩
 obtain ⟨p, c, h4, h5⟩ := h3 i hi
 refine ⟨p, c, (hb.cell (p := ⟨g, i, none⟩) (Nat.lt_of_lt_of_le h2 hB)).trans h4, fun j hj => ?_⟩
 obtain ⟨e, h6, h7, h8, h9⟩ := h5 j hj
 exact ⟨e, h6, by omega, (hb.cell (p := ⟨e, j * 2, none⟩) (Nat.lt_of_lt_of_le h7 hB)).trans h8, (hb.cell (p := ⟨e, j * 2 + 1, none⟩) (Nat.lt_of_lt_of_le h7 hB)).trans h9⟩
theorem cell_has {W : World} {b i : Nat} {v : Value} (h : W.cell? ⟨b, i, none⟩ = some v) : b < W.heap.size := by
 by_cases hlt : b < W.heap.size
 · exact hlt
 · have hn : W.heap[b]? = none := Array.getElem?_eq_none (by omega)
   simp [World.cell?, hn] at h
theorem rdEdges_len : ∀ (k : Nat) (b : List UInt8) (es : List Sx.Edg) (r : List UInt8), Sx.rdEdges k b = some (es, r) → es.length = k ∧ b.length = 3 * k + r.length
 | 0, b, es, r, h => by
   simp only [Sx.rdEdges, Option.some.injEq, Prod.mk.injEq] at h
   rw [← h.1, ← h.2]; simp
 | k + 1, b, es, r, h => by
   match b, h with
   | [], h => simp [Sx.rdEdges] at h
   | [_], h => simp [Sx.rdEdges] at h
   | [_, _], h => simp [Sx.rdEdges] at h
   | c :: x :: z :: t, h =>
     simp only [Sx.rdEdges] at h
     obtain ⟨⟨es', r'⟩, h1, h2⟩ := Option.map_eq_some_iff.1 h
     obtain ⟨i1, i2⟩ := rdEdges_len k t es' r' h1
     simp only [Prod.mk.injEq] at h2
     rw [← h2.1, ← h2.2]
     simp only [List.length_cons]
     omega
theorem rdTab_len : ∀ (m n : Nat) (b : List UInt8) (t : List (List Sx.Edg)), Sx.rdTab m n b = some t → t.length = m ∧ (∀ es ∈ t, es.length ≤ 255) ∧ b.length + (if n = 0 then 3 else 0) ≥ 4 * t.length
 | 0, n, b, t, h => by
   unfold Sx.rdTab at h
   split at h
   · obtain rfl := Option.some.inj h; simp
   · cases h
 | m + 1, n, b, t, h => by
   cases b with
   | nil => simp [Sx.rdTab] at h
   | cons k r =>
     simp only [Sx.rdTab] at h
     split at h
     · cases h
     · rename_i es' r' he
       split at h
       · rename_i hc
         obtain ⟨t', h1, rfl⟩ := Option.map_eq_some_iff.1 h
         obtain ⟨i1, i2, i3⟩ := rdTab_len m (n + 1) r' t' h1
         obtain ⟨j1, j2⟩ := rdEdges_len _ _ _ _ he
         have hk : k.toNat < 256 := k.toNat_lt
         rw [if_neg (by omega)] at i3
         refine ⟨by rw [List.length_cons, i1], fun es hes => ?_, ?_⟩
         · rcases List.mem_cons.1 hes with rfl | hes
           · omega
           · exact i2 es hes
         · simp only [List.length_cons]
           by_cases h0 : n = 0
           · rw [if_pos h0]; omega
           · rw [if_neg h0]
             have : es' ≠ [] := fun e => h0 (hc.1.1 e)
             have := List.length_pos_iff.2 this
             omega
       · cases h
theorem rdImg_len {b : List UInt8} {t : List (List Sx.Edg)} (h : Sx.rdImg b = some t) (hb : b.length ≤ 8000) : t.length ≤ 3000 ∧ ∀ es ∈ t, es.length ≤ 1000 := by
 unfold Sx.rdImg at h
 split at h
 · obtain ⟨_, h2, h3⟩ := rdTab_len _ _ _ _ h
   simp only [List.length_cons, if_true] at hb h3
   exact ⟨by omega, fun es hes => by have := h2 es hes; omega⟩
 · cases h
theorem below_alloc' {w W : World} (h : Below w.heap.size w W) (o : Obj) : Below w.heap.size w (W.alloc o) := h.alloc h.size o
theorem prAt_nil (W : World) : PrAt W (.slice none 0 0) [] := ⟨none, 0, rfl, fun _ h => absurd h (Nat.not_lt_zero _)⟩
set_option maxRecDepth 100000 in
set_option maxHeartbeats 2000000 in
theorem prdimg (l : List UInt8) (w : World) (hw : LWt w) : Calls Tryz.prog 53 #[.string ⟨l.toArray⟩] w fun e w' => Below w.heap.size w w' ∧ ∃ v, e = .returned (.tuple #[v, .int .i64 (opn l).2]) ∧ PrAt w' v (opn l).1 := by
 have HRD := hide (preadS l w)
 obtain ⟨D, hD⟩ : ∃ D : ByteArray, ⟨l.toArray⟩ = D := ⟨_, rfl⟩
 have hDl : D.data.toList = l := by rw [← hD]
 have hDs : D.size = l.length := by rw [← ba_len, hDl]
 rw [hD] at HRD ⊢
 by_cases hlong : 8000 < l.length
 · have ho : opn l = ([], 1) := by unfold opn; rw [if_pos hlong]
   have HO := hide ho
   have hs : 8000 < D.size := by omega
   clear HRD hD hDl hDs hlong ho hw
   go_enter Tryz.func53, Tryz.ntmps53
   go_wp2
   go_ret2
   rw [HO.out]
   exact ⟨Below.refl _ _, _, rfl, prAt_nil _⟩
 · have hs : D.size ≤ 8000 := by omega
   have HDL := hide hDl
   cases hr : Sx.rdImg l with
   | none =>
     have ho : opn l = ([], 6) := by unfold opn; rw [if_neg hlong, hr]
     have HO := hide ho
     have HRD2 := HRD.out
     rw [hr, Option.isSome_none] at HRD2
     have HR := hide HRD2
     clear HRD HRD2 hD hDl hDs hlong ho hw hr
     go_enter Tryz.func53, Tryz.ntmps53
     go_wp2_with fail
     refine HR.out.mono ?_
     rintro e w1 ⟨hB1, sv, rfl, ⟨sp, sn, sc, rfl⟩, -⟩
     have HB1 := hide (fun o => below_alloc' hB1 o)
     clear hB1 HR
     go_wp2
     go_ret2
     rw [HO.out]
     exact ⟨HB1.out _, _, rfl, prAt_nil _⟩
   | some tab =>
     have hord := rdImg_ord hr
     obtain ⟨hlen, hedg⟩ := rdImg_len hr (by omega)
     have hrt := kfA_rt hord
     have ho : opn l = if Sx.imgT (Sx.tabOf (kfA tab [])) = l then (kfA tab [], 0) else ([], 6) := by unfold opn; rw [if_neg hlong, hr]
     have HRD2 := HRD.out
     rw [hr, Option.isSome_some] at HRD2
     have HR := hide HRD2
     have HKEYS := hide (fun b hb sv W hB hn hT hr => pkeys w hw b hb sv tab hord hedg hlen [] W hB hn hT hr (by simp))
     obtain ⟨rs, hrs⟩ : ∃ rs, kfA tab [] = rs := ⟨_, rfl⟩
     rw [hrs] at hrt ho HKEYS
     have HIMG := hide (fun v W hv => prsimg rs v W hv hrt.rls)
     obtain ⟨I, hI⟩ : ∃ I : ByteArray, ⟨(Sx.imgT (Sx.tabOf rs)).toArray⟩ = I := ⟨_, rfl⟩
     rw [hI] at HIMG
     have hIl : I.data.toList = Sx.imgT (Sx.tabOf rs) := by rw [← hI]
     rw [← hIl, ← hDl] at ho
     have HO := hide ho
     have HT : Hid (∀ tab', some tab = some tab' → tab' = tab) := hide (fun t e => (Option.some.inj e).symm)
     clear HRD HRD2 hD hDl hDs hlong ho hr hord hlen hedg hrs hI hIl hrt
     go_enter Tryz.func53, Tryz.ntmps53
     go_wp2_with fail
     refine HR.out.mono ?_
     rintro e w1 ⟨hB1, sv, rfl, -, hsv⟩
     obtain ⟨vs, hta⟩ := hsv tab rfl
     have HTA := hide hta
     have HB1 := hide hB1
     obtain ⟨ap, ac, rfl⟩ := own_shapeK hta.row
     clear hsv hta hB1 HR
     go_wp2_with fail
     have hA0 : Below w1.heap.size w1 ((w1.alloc (.cells #[.slice ap tab.length ac] 128)).alloc (.cells #[.slice none 0 0] 89)) := ((Below.refl _ _).alloc (Nat.le_refl _) _).alloc (by simp) _
     have hz1 := HB1.out.size
     have hrs0 : RsAt ((w1.alloc (.cells #[.slice ap tab.length ac] 128)).alloc (.cells #[.slice none 0 0] 89)) (w1.heap.size + 1) [] := by
      refine ⟨.slice none 0 0, ?_, World.ownsRow_nil _ _ _ _⟩
      have := heap_alloc_new (w1.alloc (.cells #[.slice ap tab.length ac] 128)) (.cells #[.slice none 0 0] 89)
      rw [World.size_alloc] at this
      exact this
     refine (HKEYS.out (w1.heap.size + 1) (by omega) _ _ (HB1.out.trans (hA0.mono hz1)) (fun h => ⟨ap, ac, by rw [h]; rfl⟩) (fun h0 => ?_) hrs0).mono ?_
     · exact TabR.below' (tabR_at HTA.out (Nat.le_refl _) h0) hA0 (Nat.le_refl _) (by omega)
     rintro e w2 ⟨⟨u, rfl⟩, hB2, rv, hbx, hrow⟩
     have hB2' : Below w.heap.size w w2 := (HB1.out.trans (hA0.mono hz1)).trans (hB2.mono (by omega))
     have hcell : w2.cell? ⟨w1.heap.size + 1, 0, none⟩ = some rv := by rw [Lib.cell_of_heap hbx]; rfl
     have HPR := hide (prAt_own hrow)
     have HB2 := hide hB2'
     obtain ⟨rp, rc, rfl⟩ := own_shapeK hrow
     clear hbx hrow hB2 hB2' hA0 hrs0 HTA HKEYS
     go_wp2_with fail
     refine (HIMG.out _ _ HPR.out).mono ?_
     rintro e w3 ⟨rfl, hB3⟩
     have HPR3 := hide (HPR.out.below hB3)
     have HB3 : Hid (Below w.heap.size w w3) := hide (HB2.out.trans (hB3.mono HB2.out.size))
     have hcell3 : w3.cell? ⟨w1.heap.size + 1, 0, none⟩ = some (.slice rp rs.length rc) := (hB3.cell (p := ⟨w1.heap.size + 1, 0, none⟩) (cell_has hcell)).trans hcell
     clear hB3 hcell HPR HB2 HIMG
     cases hcmp : (I.toList == D.toList) with
     | true =>
       have hq : I.data.toList = D.data.toList := by
        rw [ByteArray.toList_eq, ByteArray.toList_eq] at hcmp
        simpa using hcmp
       have HQ := hide hq
       clear hq
       go_wp2
       go_ret2
       rw [← HDL.out, HO.out, if_pos HQ.out]
       exact ⟨HB3.out, _, rfl, HPR3.out⟩
     | false =>
       have hq : ¬ I.data.toList = D.data.toList := by
        rw [ByteArray.toList_eq, ByteArray.toList_eq] at hcmp
        simpa using hcmp
       have HQ := hide hq
       clear hq
       go_wp2
       go_ret2
       rw [← HDL.out, HO.out, if_neg HQ.out]
       exact ⟨HB3.out, _, rfl, prAt_nil _⟩
end Go.Proofs.YtgohllfpceeboaaGreatDoor
namespace Go.Proofs.YtgohllfpceeboaaGreatDoor
open Go.RowKit
theorem opn_rt (b : List UInt8) : Sx.RlsRt (opn b).1 := by
 rcases opn_err b with h | ⟨_, h⟩ | ⟨_, h⟩
 · exact (opn_is h).2.rt
 · rw [h]; exact rlsRt_nil
 · rw [h]; exact rlsRt_nil
theorem rt_small {r : Sx.Rl} (h : Sx.RlRt r) : r.1.length ≤ 6 ∧ (Sx.dotted r.1).length ≤ 60 := by
 have h1 := h.ok.1
 have h2 := Sx.dotted_allL r.1 h1.1
 have h3 := h1.2.2.1
 exact ⟨h1.2.1, by omega⟩
set_option maxRecDepth 100000 in
set_option maxHeartbeats 2000000 in
theorem prules (i : ByteArray) (w : World) (hw : LWt w) : Calls Tryz.prog 23 #[.string i] w fun e w' => e = .returned (.tuple #[.string ⟨(lsR i.data.toList).1.toArray⟩, .int .i64 (lsR i.data.toList).2]) ∧ Below w.heap.size w w' := by
 have HRI := hide (prdimg i.data.toList w hw)
 have hrt := opn_rt i.data.toList
 have hls : lsR i.data.toList = if (opn i.data.toList).2 = 0 then (outL (opn i.data.toList).1, 0) else ([], (opn i.data.toList).2) := rfl
 rw [hls]
 obtain ⟨⟨rs, e⟩, ho⟩ : ∃ q, opn i.data.toList = q := ⟨_, rfl⟩
 rw [ho] at HRI hrt ⊢
 dsimp only at HRI hrt ⊢
 have HLS := hide (fun v W hv => plist rs v W hv (fun r hr => ⟨(hrt.ok r hr).2.1, by have := (rt_small (hrt.ok r hr)).2; omega⟩) (by have := hrt.many; omega))
 have hia : (⟨i.data.toList.toArray⟩ : ByteArray) = i := by simp
 rw [hia] at HRI
 clear hls ho hrt hw hia
 go_enter Tryz.func23, Tryz.ntmps23
 go_wp2_with fail
 refine HRI.out.mono ?_
 rintro e w1 ⟨hB1, v, rfl, hv⟩
 have HB1 := hide hB1
 have HLV := hide (HLS.out v w1 hv)
 obtain ⟨p, cap, rfl, _⟩ := hv
 clear hB1 HRI HLS
 by_cases he : e = 0
 · subst he
   go_wp2_with fail
   refine HLV.out.mono ?_
   rintro e w2 ⟨rfl, hB2⟩
   have HB2 := hide (HB1.out.trans (hB2.mono HB1.out.size))
   clear hB2
   go_wp2
   go_ret2
   exact ⟨rfl, HB2.out⟩
 · have k1 : (e != 0) = true := by simpa using he
   go_wp2
   go_ret2
   exact ⟨rfl, HB1.out⟩
set_option maxRecDepth 100000 in
set_option maxHeartbeats 2000000 in
theorem plook (i h : ByteArray) (w : World) (hw : LWt w) : Calls Tryz.prog 37 #[.string i, .string h] w fun e w' => e = .returned (.tuple #[.string ⟨(lkR i.data.toList h.data.toList).1.toArray⟩, .string ⟨(lkR i.data.toList h.data.toList).2.1.toArray⟩, .string ⟨(lkR i.data.toList h.data.toList).2.2.1.toArray⟩, .int .i64 (lkR i.data.toList h.data.toList).2.2.2]) ∧ Below w.heap.size w w' := by
 have HRI := hide (prdimg i.data.toList w hw)
 have hrt := opn_rt i.data.toList
 obtain ⟨LK, hLK⟩ : ∃ LK, lkR i.data.toList h.data.toList = LK := ⟨_, rfl⟩
 rw [hLK]
 unfold lkR at hLK
 obtain ⟨⟨rs, e⟩, ho⟩ : ∃ q, opn i.data.toList = q := ⟨_, rfl⟩
 rw [ho] at HRI hrt hLK
 dsimp only at HRI hrt hLK
 have HPL := hide (fun W hW => phip_any h W hW)
 unfold PlnPost at HPL
 have HLW : Hid (∀ W, Below w.heap.size w W → LWt W) := hide (fun W h => lwt_stays _ _ hw h)
 have hia : (⟨i.data.toList.toArray⟩ : ByteArray) = i := by simp
 rw [hia] at HRI
 clear ho hw hia
 by_cases he : e = 0
 · subst he
   rw [if_pos rfl] at hLK
   have hpl : Sx.plainR h.data.toList = (Sx.dotted (Sx.host h.data.toList).1, (Sx.host h.data.toList).2) := rfl
   rw [hpl] at HPL
   have hhost := Sx.host_ok h.data.toList
   obtain ⟨⟨H, f⟩, hH⟩ : ∃ q, Sx.host h.data.toList = q := ⟨_, rfl⟩
   rw [hH] at HPL hLK hhost
   dsimp only at HPL hLK hhost
   clear hpl hH
   by_cases hf : f = 0
   · subst hf
     rw [if_pos rfl] at hLK
     have hh := hhost rfl
     obtain ⟨p1, p2, p3⟩ := prvl_pub hh hrt.ok
     have hle := pubL_le hh.1 rs
     have h6 := hh.2.1
     have hdl : (Sx.dotted H).length ≤ 60 := by have := Sx.dotted_allL H hh.1; have := hh.2.2.1; omega
     obtain ⟨P, hP⟩ : ∃ P : ByteArray, ⟨(Sx.dotted H).toArray⟩ = P := ⟨_, rfl⟩
     have hPl : P.data.toList = Sx.dotted H := by rw [← hP]
     have hPs : P.size ≤ 1000 := by rw [← ba_len, hPl]; omega
     have HPV := hide (fun v W hv => pprvl rs (Sx.dotted H) v W hv (fun r hr => ⟨by have := (rt_small (hrt.ok r hr)).1; omega, by have := (rt_small (hrt.ok r hr)).2; omega⟩) (by omega) (by have := hrt.many; omega))
     have hbest : (prvl rs (Sx.dotted H)).1.length ≤ 1000 := prvl_mem _ (fun r => r.1.length ≤ 1000) (by simp) rs (fun r hr => by have := (rt_small (hrt.ok r hr)).1; omega)
     unfold lkA at hLK
     obtain ⟨b, hb⟩ : ∃ b, prvl rs (Sx.dotted H) = b := ⟨_, rfl⟩
     rw [hb] at p1 p2 hLK HPV hbest
     obtain ⟨n, hn⟩ : ∃ n, (Sx.pubL H rs).1 = n := ⟨_, rfl⟩
     rw [hn] at p1 p3 hle
     have HSU := hide (fun W => psufO b n P W hbest p1 p3 (by omega) hPs)
     have HDO := hide (fun W => pdomO b n P W hbest p1 p3 (by omega) hPs)
     rw [p1] at hLK
     rw [hPl] at HSU HDO
     rw [hP] at HPL HPV
     subst hLK
     dsimp only
     obtain ⟨A, hA⟩ : ∃ A : ByteArray, ⟨(lastP (Sx.dotted H) (n : Int)).toArray⟩ = A := ⟨_, rfl⟩
     obtain ⟨C, hC⟩ : ∃ C : ByteArray, ⟨(lastP (Sx.dotted H) ((n : Int) + 1)).toArray⟩ = C := ⟨_, rfl⟩
     rw [hA] at HSU ⊢
     rw [hC] at HDO ⊢
     have hsec : b.2.2 = 105 ∨ b.2.2 = 112 ∨ b.2.2 = 45 := by
      rw [← hb]
      exact prvl_mem _ (fun r => r.2.2 = 105 ∨ r.2.2 = 112 ∨ r.2.2 = 45) (Or.inr (Or.inr rfl)) rs (fun r hr => by rcases (hrt.ok r hr).2.2.2 with h | h; exact Or.inl h; exact Or.inr (Or.inl h))
     obtain ⟨bh, bk, bs⟩ := b
     unfold ruA at HPV HSU HDO
     dsimp only at HPV HSU HDO hsec ⊢
     have HENC : Hid (Utf8.encode (bs.toNat : Int) = ⟨[bs].toArray⟩) := hide (by rcases hsec with rfl | rfl | rfl <;> decide)
     obtain ⟨E, hE⟩ : ∃ E : ByteArray, ⟨(Sx.dotted bh).toArray⟩ = E := ⟨_, rfl⟩
     obtain ⟨M, hM⟩ : ∃ M, bh.length = M := ⟨_, rfl⟩
     rw [hE, hM] at HPV HSU HDO
     clear p1 p2 p3 hle h6 hdl hP hPl hb hn hA hC hE hM hh hhost hrt hbest hsec
     go_enter Tryz.func37, Tryz.ntmps37
     go_wp2_with fail
     refine HRI.out.mono ?_
     rintro e w1 ⟨hB1, v, rfl, hv⟩
     have HB1 := hide hB1
     have HV := hide hv
     obtain ⟨q, cap, rfl, _⟩ := hv
     clear hB1 HRI
     go_wp2_with fail
     refine (HPL.out _ (HLW.out _ HB1.out)).mono ?_
     rintro e w2 ⟨hB2, rfl⟩
     have HB2 := hide (HB1.out.trans (hB2.mono HB1.out.size))
     have HPV2 := hide (HPV.out _ w2 (HV.out.below hB2))
     clear hB2 HPV HV HPL
     go_wp2_with fail
     refine HPV2.out.mono ?_
     rintro e w3 ⟨rfl, hB3⟩
     have HB3 := hide (HB2.out.trans (hB3.mono HB2.out.size))
     clear hB3 HPV2
     obtain ⟨W0, hW0⟩ : ∃ W0, w3.alloc (.cells #[.int .u8 bk.toNat, .string E, .int .i64 M, .int .u8 bs.toNat] 98) = W0 := ⟨_, rfl⟩
     have HNEW : Hid (∀ W, Below W0.heap.size W0 W → (W.cell? ⟨w3.heap.size, 0, none⟩ = some (.int .u8 bk.toNat) ∧ W.cell? ⟨w3.heap.size, 1, none⟩ = some (.string E) ∧ W.cell? ⟨w3.heap.size, 2, none⟩ = some (.int .i64 M) ∧ W.cell? ⟨w3.heap.size, 3, none⟩ = some (.int .u8 bs.toNat)) ∧ Below w.heap.size w W) := hide (fun W hb => by
      rw [← hW0] at hb
      have h1 := (hb.block w3.heap.size (by simp)).trans (heap_alloc_new _ _)
      exact ⟨(box4 h1).1, (HB3.out.alloc HB3.out.size _).trans (hb.mono (by have := HB3.out.size; simp; omega))⟩)
     have hS0 := (HNEW.out W0.drew ((Below.refl _ W0).drew)).1
     go_wp2_with fail
     clear hW0
     go_region_held_law (fun W => W.cell? ⟨w3.heap.size, 0, none⟩ = some (.int .u8 bk.toNat) ∧ W.cell? ⟨w3.heap.size, 1, none⟩ = some (.string E) ∧ W.cell? ⟨w3.heap.size, 2, none⟩ = some (.int .i64 M) ∧ W.cell? ⟨w3.heap.size, 3, none⟩ = some (.int .u8 bs.toNat)) (first | exact hS0 | exact hS1 | exact hS2 | go_keep) (first | (go_at_call 56; refine (HSU.out _).mono ?_; rintro e wA ⟨rfl, hBA⟩; have hbA : Below W0.heap.size W0 wA := (Below.refl _ W0).drew.trans hBA; have hS1 := (HNEW.out wA hbA).1) | (go_at_call 57; refine (HDO.out _).mono ?_; rintro e wB ⟨rfl, hBB⟩; have hbB : Below W0.heap.size W0 wB := hbA.trans (hBB.mono hbA.size); have hS2 := (HNEW.out wB hbB).1))
     have HFB := hide (HNEW.out wB hbB).2
     rw [HENC.out]
     clear hS0 hS1 hS2 hBA hbA hBB hbB HNEW
     go_wp2
     exact bodyPost_ret (v := .tuple #[.string A, .string C, .string ⟨[bs].toArray⟩, .int .i64 0]) (by simp [results, Tryz.results37, go_sem]) rfl ⟨rfl, HFB.out⟩
   · have k1 : (f != 0) = true := by simpa using hf
     rw [if_neg hf] at hLK
     subst hLK
     dsimp only
     obtain ⟨P, hP⟩ : ∃ P : ByteArray, ⟨(Sx.dotted H).toArray⟩ = P := ⟨_, rfl⟩
     rw [hP] at HPL
     clear hP hhost hrt
     go_enter Tryz.func37, Tryz.ntmps37
     go_wp2_with fail
     refine HRI.out.mono ?_
     rintro e w1 ⟨hB1, v, rfl, hv⟩
     have HB1 := hide hB1
     obtain ⟨q, cap, rfl, _⟩ := hv
     clear hB1 HRI
     go_wp2_with fail
     refine (HPL.out _ (HLW.out _ HB1.out)).mono ?_
     rintro e w2 ⟨hB2, rfl⟩
     have HB2 := hide (HB1.out.trans (hB2.mono HB1.out.size))
     clear hB2 HPL
     go_wp2
     exact bodyPost_ret (v := .tuple #[.string ⟨#[]⟩, .string ⟨#[]⟩, .string ⟨#[]⟩, .int .i64 f]) (by simp [results, Tryz.results37, go_sem]) rfl ⟨rfl, HB2.out⟩
 · have k1 : (e != 0) = true := by simpa using he
   rw [if_neg he] at hLK
   subst hLK
   dsimp only
   clear hrt HPL
   go_enter Tryz.func37, Tryz.ntmps37
   go_wp2_with fail
   refine HRI.out.mono ?_
   rintro e w1 ⟨hB1, v, rfl, hv⟩
   have HB1 := hide hB1
   obtain ⟨q, cap, rfl, _⟩ := hv
   clear hB1 HRI
   go_wp2
   exact bodyPost_ret (v := .tuple #[.string ⟨#[]⟩, .string ⟨#[]⟩, .string ⟨#[]⟩, .int .i64 e]) (by simp [results, Tryz.results37, go_sem]) rfl ⟨rfl, HB1.out⟩
end Go.Proofs.YtgohllfpceeboaaGreatDoor
