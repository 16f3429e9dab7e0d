import Derived.Test.YtgohllfpceeboaaGreatDoorCda
import Derived.Test.YtgohllfpceeboaaGreatDoorFcA
import Derived.Test.YtgohllfpceeboaaGreatDoorSkai
import Derived.Deep.DeepHandedRow
namespace Go.Proofs.YtgohllfpceeboaaGreatDoor
open Go.ChangeShapes Go.WideShapes Go.ChangeAt Go.RowKit Go.Deep
/-- What is in a list counts in its bulk. -/
theorem bulk_mem {H : Type} {d : DataW H} : ∀ {l : List (DataW H)}, d ∈ l → Rows.uptoBulk d ≤ Rows.uptoBulkAll l
  | [], h => by cases h
  | x :: r, h => by
    unfold Rows.uptoBulkAll
    rcases List.mem_cons.1 h with rfl | h
    · exact Nat.le_add_right _ _
    · exact Nat.le_trans (bulk_mem h) (Nat.le_add_left _ _)
theorem bulk_texts {H : Type} : ∀ (L : List (List UInt8)), Rows.uptoBulkAll (L.map fun s => (DataW.lit (H := H) (.string s))) = L.length + Sx.sl L
  | [] => by simp [Rows.uptoBulkAll, Sx.sl]
  | s :: r => by
    have ih := bulk_texts (H := H) r
    have e : Sx.sl (s :: r) = s.length + Sx.sl r := by simp [Sx.sl]
    simp only [List.map_cons, Rows.uptoBulkAll, Rows.uptoBulk, ih, List.length_cons, e]
    omega
set_option maxRecDepth 100000 in
/-- Lists that came in, opened. -/
theorem strs_open {H : Type} {enc : TypeId × Value → H} {w : World} {fuel : Nat} {v : Value} {x : DataW H × List MemPlace} (h : DataW.trod enc Tryz.prog w 0 (fun _ => true) true fuel 34 [v] = some x) :
    ∃ L : List (List UInt8), L.length + Sx.sl L ≤ Rows.uptoBulk x.1 ∧ RdS w v L := by
  rcases open_slice Tryz.underlying34 h with ⟨hcs, -⟩ | ⟨a, len, cap, m, n2, D, Pl, hcs, -, hl2, hm, hmm, hx6, hel⟩
  · simp only [List.cons.injEq, and_true] at hcs
    subst hcs
    exact ⟨[], by simp [Sx.sl], ⟨none, 0, rfl, fun j hj => absurd hj (Nat.not_lt_zero _)⟩⟩
  · simp only [List.cons.injEq, and_true] at hcs
    subst hcs
    simp only [if_true] at hmm
    subst hmm
    rw [Tryz.cells9] at hel
    obtain ⟨S, hS⟩ := choose_lt (α := ByteArray) (p := fun i s => w.cells? 0 (a.add (i * 1)) 1 = some [.string s] ∧ D i = .lit (.string s.data.toList)) (fun i (hi : i < len) => by
      obtain ⟨cs', g1, g2⟩ := hel i (by omega)
      obtain ⟨s, rfl, g3, -⟩ := DataW.trod_string Tryz.underlying9 g2
      exact ⟨s, g1, by injection g3⟩)
    have hLl : ((List.range len).map fun i => (S i).data.toList).length = len := by simp
    refine ⟨(List.range len).map fun i => (S i).data.toList, ?_, ?_⟩
    · have e1 : ((List.range len).map D) = ((List.range len).map fun i => (S i).data.toList).map fun s => (DataW.lit (H := H) (.string s)) := by
        rw [List.map_map]
        refine List.map_congr_left fun i hi => ?_
        exact (hS i (List.mem_range.1 hi)).2
      have e2 := bulk_texts (H := H) ((List.range len).map fun i => (S i).data.toList)
      rw [← e1] at e2
      rw [hx6]
      simp only [Rows.uptoBulk]
      omega
    · refine ⟨some a, _, by rw [hLl], fun j hj => ?_⟩
      rw [hLl] at hj
      obtain ⟨b, off, spot⟩ := a
      have hc : ∀ j, j < len → w.cell? ((⟨b, off, spot⟩ : Addr).add (j * 1)) = some (.string (S j)) := fun j hj => by
        obtain ⟨-, hlen, hcell⟩ := World.cells?_some (hS j hj).1
        have := hcell 0 (by omega)
        rw [show ∀ a : Addr, a.add 0 = a from fun a => by unfold Addr.add; simp] at this
        exact this
      have hspot : spot = none := by
        have := hc 0 (by omega)
        simpa [Addr.add] using World.cell?_spot this
      subst hspot
      have hadd : ∀ j, (⟨b, off, none⟩ : Addr).add (j * 1) = ⟨b, off + j, none⟩ := fun j => by
        rw [Nat.mul_one, Addr.add_lit]
      have hcj := hc j hj
      rw [hadd] at hcj
      refine ⟨b, off, rfl, cell_has hcj, ?_⟩
      simp only [List.getElem_map, List.getElem_range]
      exact hcj
set_option maxRecDepth 100000 in
theorem again_contract (H : Type) (enc : TypeId × Value → H) (W : World) (base : Nat) (args : Array Value) (ds gs : List (DataW H)) (before : List MemPlace)
    (hval : ∀ (j : Nat) t v, Tryz.f8.params[j]? = some t → args[j]? = some v → Value.okWide Tryz.prog W .any base t v)
    (hW : DataW.Whole enc Tryz.prog Tryz.f8.params.toList Rows.againSpec.vars false W args.toList ds gs before) (hk : Rows.uptoSmall H (ds ++ gs) = true) (hL : laidMetH Tryz.prog Rows.againUptoRow.laid W) :
    Calls Tryz.prog 8 args W fun e W' => ∃ v, e = .returned v ∧ Rows.againSpec.post enc Tryz.prog Tryz.f8 false true false false W args v W' := by
  have hW' := hW
  obtain ⟨p, q, hA0, hV, rfl, _, _⟩ := hW
  have hA : DataW.TrodAll enc Tryz.prog W 0 (fun _ => true) true Tryz.f8.params.toList args.toList ds p := hA0
  rw [Tryz.params8] at hA hval
  obtain ⟨v0, d0, rfl, rfl, h0⟩ := trodAll_one hA
  obtain ⟨rfl, rfl⟩ := trodVars_none hV
  have h0k := h0
  obtain ⟨fuel, hf⟩ := h0
  clear hA0
  simp only [List.append_nil] at hW' hk
  have hbk : Rows.uptoBulk d0 ≤ 1048576 := by
    have h := of_decide_eq_true hk
    simp only [Rows.uptoBulkAll] at h
    omega
  have hlt : ∀ x ∈ p, x.block < W.heap.size := fun x hx => by simpa using hW'.lt x hx
  rw [MakeChecks.laidMetH_plain _ _ _ (by kernel_rfl)] at hL
  have hT : LWt W := utf8Tabs_of_readsT (U8Types.of196 Tryz.layValid) u8x (first_eq ▸ Lib.laidMet.reads hL (.tail _ (.head _))) (accept_eq ▸ Lib.laidMet.reads hL (.head _))
  obtain ⟨a0, len, cap, rfl⟩ := okWide_slice Tryz.underlying34 (hval 0 34 v0 rfl rfl)
  have hf' : DataW.trod enc Tryz.prog W 0 (fun _ => true) true fuel 34 [.slice a0 len cap] = some (d0, p) := hf
  obtain ⟨L, hl, hrd⟩ := strs_open hf'
  dsimp only at hl
  refine (kagain L _ W hT hrd (by omega)).mono fun e W' ⟨he, hb⟩ => ?_
  subst he
  exact ⟨_, rfl, ⟨_, _, _, [], _, [], hW', trodAll_mk1 (shut_bool Tryz.underlying4 true), trodAll_mk1 (Below.trod Tryz.laidOut (by kernel_rfl) (of_decide_eq_true (by kernel_rfl)) h0k hb hlt), rfl, hb.frame _, fun h => by cases h⟩⟩
set_option maxRecDepth 100000 in
theorem again_lifted (os : Os) (started : os.Started) (H : Type) (enc : TypeId × Value → H) (F : Stop.Interp) :
    ReturnsInHanded {} Tryz.checked os 8 .any ((Rows.OpenSpec.upto Rows.againSpec).preRow enc Tryz.prog Tryz.f8 Rows.againUptoRow.domain false Rows.againUptoRow.laid) (((Rows.OpenSpec.upto Rows.againSpec).at F).post enc Tryz.prog Tryz.f8 false true false false) := by
  have hok : Input.okWideB Tryz.checked.prog ((World.laidAll Tryz.prog os Rows.againUptoRow.laid).forCall (fun _ _ => 0) ⟨#[], #[.slice none 0 0], []⟩) 8 ⟨#[], #[.slice none 0 0], []⟩ = true := by kernel_rfl
  have hx : ∃ places, DataW.whole enc Tryz.prog ((World.laidAll Tryz.prog os Rows.againUptoRow.laid).forCall (fun _ _ => 0) ⟨#[], #[.slice none 0 0], []⟩).memory Tryz.f8.params.toList Rows.againSpec.vars false #[Value.slice none 0 0].toList 8 = some ([.nil], [], places) := ⟨[], by kernel_rfl⟩
  obtain ⟨places, hx⟩ := hx
  refine returnsInHanded_of_row (C := Tryz.checked) (s := Rows.OpenSpec.upto Rows.againSpec) Tryz.own started (by kernel_rfl) Tryz.func8
    ⟨World.laidAll Tryz.prog os Rows.againUptoRow.laid, fun _ _ => 0, ⟨#[], #[.slice none 0 0], []⟩, World.laidAll_os _ _ _, World.shaped_of_ZipB (by kernel_rfl) (by kernel_rfl), (Input.okWide_of_okWideB (base := 0) hok).1, (Input.okWide_of_okWideB hok).2,
      OpenSpec.preRow_of_cond 8 hx (by kernel_rfl) (fun k hk => by cases hk; kernel_rfl) (by kernel_rfl) (by rw [MakeChecks.laidMetH_plain _ _ _ (by kernel_rfl)]; exact laidMet_laidAll _ (by kernel_rfl) (by kernel_rfl)),
      by simp only [Assume.holds]; exact ⟨by simp, by simp, fun _ => Modest.zero, by simp, by simp⟩⟩ ?_
  intro W base args ds gs before hval hW _ hcond _ hL _ _
  exact again_contract H enc W base args ds gs before hval hW (hcond _ rfl) hL
theorem again_row_holds : Rows.AgainUptoSaid :=
  OpenClaim.holds_of_cond 8 Tryz.f8 rfl rfl rfl rfl rfl rfl rfl ⟨rfl, rfl, rfl, rfl, rfl⟩ rfl rfl rfl rfl rfl (by kernel_rfl) Tryz.func8 again_facts
    (of_decide_eq_true (by kernel_rfl)) (by unfold Func.isWrapper; first | (rw [if_pos (by decide +kernel)]; kernel_rfl) | (rw [if_neg (by decide +kernel)]; exact ⟨rfl, rfl⟩))
    (fun os started H enc _ F => by rw [OpenClaim.pre_eq_preRow]; exact again_lifted os started H enc F)
theorem again_card_holds : Rows.AgainUptoCardSaid :=
  Claim7.holds_tied_plain_at .later [] _ _ _ _ again_row_holds (fun _ h => by cases h) (by kernel_rfl) (fun _ h => by cases h) againUpto_row_tie rfl ⟨rfl, rfl⟩ (by kernel_rfl) rfl
    (fun f fn hf hfn => by
      obtain rfl : f = 8 := Option.some.inj ((show Tryz.prog.funcNamed "suffix/suffixkeep.Again" = some 8 by kernel_rfl).symm.trans hf) |>.symm
      obtain rfl : fn = Tryz.f8 := (Option.some.inj (Tryz.func8.symm.trans hfn)).symm
      exact ⟨by kernel_rfl, fun j t ht => by
        rw [Tryz.params8] at ht
        have hm : t ∈ [34] := by simpa using Array.mem_of_getElem? ht
        have hall : ([34].all fun u => !Tryz.prog.wantsStandIn u) = true := by kernel_rfl
        exact (show Tryz.prog.wantsStandIn t = false by simpa using List.all_eq_true.1 hall t hm)⟩)
    (by kernel_rfl)
end Go.Proofs.YtgohllfpceeboaaGreatDoor
