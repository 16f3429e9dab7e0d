import Derived.Test.YtgohllfpceeboaaGreatDoorCards
import Derived.Test.YtgohllfpceeboaaGreatDoorInby
import Derived.Test.YtgohllfpceeboaaGreatDoorFcI
import Derived.Test.YtgohllfpceeboaaGreatDoorTie
import Derived.Deep.DeepHandedRow
import Derived.Carry
namespace Go.Proofs.YtgohllfpceeboaaGreatDoor
open Go.ChangeShapes Go.WideShapes Go.ChangeAt Go.RowKit Go.Deep
theorem bulk_mem {H : Type} {d : DataW H} : ∀ {l : List (DataW H)}, d ∈ l → Rows.uptoBulk d ≤ Rows.uptoBulkAll l
 | [], h => by cases h
 | x :: r, h => by
   unfold Rows.uptoBulkAll
   rcases List.mem_cons.1 h with rfl | h
   · exact Nat.le_add_right _ _
   · exact Nat.le_trans (bulk_mem h) (Nat.le_add_left _ _)
theorem bulk_texts {H : Type} : ∀ (L : List (List UInt8)), Rows.uptoBulkAll (L.map fun s => (DataW.lit (H := H) (.string s))) = L.length + Sx.sl L
 | [] => by simp [Rows.uptoBulkAll, Sx.sl]
 | s :: r => by
   have ih := bulk_texts (H := H) r
   have e : Sx.sl (s :: r) = s.length + Sx.sl r := by simp [Sx.sl]
   simp only [List.map_cons, Rows.uptoBulkAll, Rows.uptoBulk, ih, List.length_cons, e]
   omega
set_option maxRecDepth 100000 in
theorem op_lists {H : Type} {enc : TypeId × Value → H} {w : World} {fuel : Nat} {o : OpC} {x : DataW H × List MemPlace} (h : DataW.trod enc Tryz.prog w 0 (fun _ => true) true fuel 78 o.cells = some x) :
 ∃ L : List (List UInt8), L.length = o.ln ∧ L.length + Sx.sl L ≤ Rows.uptoBulk x.1 ∧ RdS w (.slice o.la o.ln o.lc) L := by
 obtain ⟨xs, n, rfl, rfl, hl, hx, hf⟩ := DataW.trod_struct Tryz.underlying78 h
 have hx8 : xs.length = 8 := hx
 have f6 : DataW.trod enc Tryz.prog w 0 (fun _ => true) true n 34 ((o.cells.drop 6).take (Tryz.prog.cellsOf 34)) = xs[6]? := hf 6 _ rfl
 rw [List.getElem?_eq_getElem (by omega), Tryz.cells34] at f6
 have hcs6 : (o.cells.drop 6).take 1 = [.slice o.la o.ln o.lc] := rfl
 rw [hcs6] at f6
 have hb6 : Rows.uptoBulk (xs[6]'(by omega)).1 ≤ Rows.uptoBulk (DataW.agg (xs.map (·.1))) := by
  have := bulk_mem (l := xs.map (·.1)) (d := (xs[6]'(by omega)).1) (List.mem_map.2 ⟨_, List.getElem_mem (by omega), rfl⟩)
  simp only [Rows.uptoBulk]
  omega
 rcases open_slice Tryz.underlying34 f6 with ⟨hcs, -⟩ | ⟨a, len, cap, m, n2, D, Pl, hcs, -, hl2, hm, hmm, hx6, hel⟩
 · simp only [List.cons.injEq, and_true, Value.slice.injEq] at hcs
   obtain ⟨h1, h2, h3⟩ := hcs
   exact ⟨[], by rw [h2]; rfl, by simp [Sx.sl], ⟨none, 0, by rw [h1, h2, h3]; rfl, fun j hj => absurd hj (Nat.not_lt_zero _)⟩⟩
 · simp only [List.cons.injEq, and_true, Value.slice.injEq] at hcs
   obtain ⟨h1, h2, h3⟩ := hcs
   simp only [if_true] at hmm
   subst hmm
   rw [Tryz.cells9] at hel
   obtain ⟨S, hS⟩ := choose_lt (α := ByteArray) (p := fun i s => w.cells? 0 (a.add (i * 1)) 1 = some [.string s] ∧ D i = .lit (.string s.data.toList)) (fun i (hi : i < len) => by
    obtain ⟨cs', g1, g2⟩ := hel i (by omega)
    obtain ⟨s, rfl, g3, -⟩ := DataW.trod_string Tryz.underlying9 g2
    exact ⟨s, g1, by injection g3⟩)
   have hLl : ((List.range len).map fun i => (S i).data.toList).length = len := by simp
   refine ⟨(List.range len).map fun i => (S i).data.toList, by rw [hLl, h2], ?_, ?_⟩
   · have e1 : ((List.range len).map D) = ((List.range len).map fun i => (S i).data.toList).map fun s => (DataW.lit (H := H) (.string s)) := by
      rw [List.map_map]
      refine List.map_congr_left fun i hi => ?_
      exact (hS i (List.mem_range.1 hi)).2
     have e2 := bulk_texts (H := H) ((List.range len).map fun i => (S i).data.toList)
     rw [← e1] at e2
     have e3 : Rows.uptoBulkAll ((List.range len).map D) ≤ Rows.uptoBulk (xs[6]'(by omega)).1 := by
      rw [hx6]
      simp only [Rows.uptoBulk]
      omega
     show _ ≤ Rows.uptoBulk (DataW.agg (xs.map (·.1)))
     omega
   · refine ⟨o.la, o.lc, by rw [hLl, h2], fun j hj => ?_⟩
     rw [hLl] at hj
     obtain ⟨b, off, spot⟩ := a
     have hc : ∀ j, j < len → w.cell? ((⟨b, off, spot⟩ : Addr).add (j * 1)) = some (.string (S j)) := fun j hj => by
      obtain ⟨-, hlen, hcell⟩ := World.cells?_some (hS j hj).1
      have := hcell 0 (by omega)
      rw [show ∀ a : Addr, a.add 0 = a from fun a => by unfold Addr.add; simp] at this
      exact this
     have hspot : spot = none := by
      have := hc 0 (by omega)
      simpa [Addr.add] using World.cell?_spot this
     subst hspot
     have hadd : ∀ j, (⟨b, off, none⟩ : Addr).add (j * 1) = ⟨b, off + j, none⟩ := fun j => by
      rw [Nat.mul_one, Addr.add_lit]
     have hcj := hc j hj
     rw [hadd] at hcj
     have hb : b < w.heap.size := by
      by_cases hlt : b < w.heap.size
      · exact hlt
      · have hn : w.heap[b]? = none := Array.getElem?_eq_none (by omega)
        simp [World.cell?, hn] at hcj
     refine ⟨b, off, h1, hb, ?_⟩
     simp only [List.getElem_map, List.getElem_range]
     exact hcj
theorem img_in {H : Type} {enc : TypeId × Value → H} {W : World} {v : Value} {x : DataW H × List MemPlace} {fuel : Nat} (h : DataW.trod enc Tryz.prog W 0 (fun _ => true) true fuel 22 [v] = some x) (hL : LWt W) (hbk : Rows.uptoBulk x.1 ≤ 1048576) :
 Calls Tryz.prog 5 #[v] W fun e w' => e = .returned (.bool true) ∧ Below W.heap.size W w' := by
 rcases open_slice Tryz.underlying22 h with ⟨hcs, -⟩ | ⟨a, len, cap, m, n, D, Pl, hcs, -, hl, hm, hmm, hxx, hel⟩
 · simp only [List.cons.injEq, and_true] at hcs
   subst hcs
   exact img_law_zero none 0 W
 · simp only [List.cons.injEq, and_true] at hcs
   subst hcs
   simp only [if_true] at hmm
   subst hmm
   rw [Tryz.cells78] at hel
   have inh : Inhabited OpC := ⟨⟨0, 0, 0, 0, ⟨#[]⟩, ⟨#[]⟩, none, 0, 0, false⟩⟩
   have hbe : ∀ i, i < len → Rows.uptoBulk (D i) ≤ 1048576 := fun i hi => by
    have h1 : Rows.uptoBulk (D i) ≤ Rows.uptoBulkAll ((List.range len).map D) := bulk_mem (List.mem_map.2 ⟨i, List.mem_range.2 hi, rfl⟩)
    rw [hxx] at hbk
    simp only [Rows.uptoBulk] at hbk
    omega
   obtain ⟨V, hV⟩ := choose_lt (α := OpC) (p := fun i o => W.cells? 0 (a.add (i * 8)) 8 = some o.cells ∧ OpLs W o) (fun i (hi : i < len) => by
    obtain ⟨cs', h1, h2⟩ := hel i (by omega)
    obtain ⟨o, rfl⟩ := op_open h2
    obtain ⟨L, g1, g2, g3⟩ := op_lists h2
    have hb := hbe i hi
    dsimp only at g2
    exact ⟨o, h1, L, g1, by omega, by omega, g3⟩)
   obtain ⟨b, off, spot⟩ := a
   by_cases h0 : len = 0
   · subst h0
     exact img_law_zero _ _ W
   · have hc : ∀ j, j < len → ∀ i v, ((V j).cells)[i]? = some v → W.cell? ((⟨b, off, spot⟩ : Addr).add (j * 8) |>.add i) = some v := fun j hj i v hv => by
      obtain ⟨-, hlen, hcell⟩ := World.cells?_some (hV j hj).1
      have hi : i < 8 := by rw [← hlen]; exact (List.getElem?_eq_some_iff.1 hv).1
      rw [hcell i hi]; exact hv
     have hspot : spot = none := by
      have := hc 0 (by omega) 0 _ rfl
      simpa [Addr.add] using World.cell?_spot this
     subst hspot
     have hadd : ∀ j i, ((⟨b, off, none⟩ : Addr).add (j * 8)).add i = ⟨b, off + j * 8 + i, none⟩ := fun j i => by
      rw [Addr.add_lit, Addr.add_lit]
     have hb : b < W.heap.size := by
      have := hc 0 (by omega) 0 _ rfl
      rw [hadd] at this
      by_cases hlt : b < W.heap.size
      · exact hlt
      · have hn : W.heap[b]? = none := Array.getElem?_eq_none (by omega)
        simp [World.cell?, hn] at this
     have hll : ((List.range len).map V).length = len := by simp
     have := img_law ((List.range len).map V) b off m W hL ⟨hb, fun j hj i v hv => by
      have hj' : j < len := by rw [← hll]; exact hj
      have hg : ((List.range len).map V)[j] = V j := by simp
      rw [hg] at hv
      have := hc j hj' i v hv
      rw [hadd] at this
      exact this⟩ (fun o ho => by
      obtain ⟨i, hi, rfl⟩ := List.mem_map.1 ho
      exact (hV i (List.mem_range.1 hi)).2) (by rw [hll]; exact Nat.le_trans hl hm)
     rw [hll] at this
     exact this
set_option maxRecDepth 100000 in
theorem img_contract (H : Type) (enc : TypeId × Value → H) (W : World) (base : Nat) (args : Array Value) (ds gs : List (DataW H)) (before : List MemPlace)
 (hval : ∀ (j : Nat) t v, Tryz.f5.params[j]? = some t → args[j]? = some v → Value.okWide Tryz.prog W .any base t v)
 (hW : DataW.Whole enc Tryz.prog Tryz.f5.params.toList Rows.imagesSpec.vars false W args.toList ds gs before) (hk : Rows.uptoSmall H (ds ++ gs) = true) (hL : laidMetH Tryz.prog Rows.imagesUptoRow.laid W) :
 Calls Tryz.prog 5 args W fun e W' => ∃ v, e = .returned v ∧ Rows.imagesSpec.post enc Tryz.prog Tryz.f5 false true false false W args v W' := by
 have hW' := hW
 obtain ⟨p, q, hA0, hV, rfl, _, _⟩ := hW
 have hA : DataW.TrodAll enc Tryz.prog W 0 (fun _ => true) true Tryz.f5.params.toList args.toList ds p := hA0
 rw [Tryz.params5] at hA hval
 obtain ⟨v0, d0, rfl, rfl, h0⟩ := trodAll_one hA
 obtain ⟨rfl, rfl⟩ := trodVars_none hV
 have h0k := h0
 obtain ⟨fuel, hf⟩ := h0
 clear hA0
 simp only [List.append_nil] at hW' hk
 have hbk : Rows.uptoBulk d0 ≤ 1048576 := by
  have h := of_decide_eq_true hk
  simp only [Rows.uptoBulkAll] at h
  omega
 have hlt : ∀ x ∈ p, x.block < W.heap.size := fun x hx => by simpa using hW'.lt x hx
 rw [MakeChecks.laidMetH_plain _ _ _ (by kernel_rfl)] at hL
 have hT : LWt W := utf8Tabs_of_readsT (U8Types.of196 Tryz.layValid) u8x (first_eq ▸ Lib.laidMet.reads hL (.tail _ (.head _))) (accept_eq ▸ Lib.laidMet.reads hL (.head _))
 obtain ⟨a0, len, cap, rfl⟩ := okWide_slice Tryz.underlying22 (hval 0 22 v0 rfl rfl)
 have hf' : DataW.trod enc Tryz.prog W 0 (fun _ => true) true fuel 22 [.slice a0 len cap] = some (d0, p) := hf
 refine (img_in hf' hT hbk).mono fun e W' ⟨he, hb⟩ => ?_
 subst he
 exact ⟨_, rfl, ⟨_, _, _, [], _, [], hW', trodAll_mk1 (shut_bool Tryz.underlying4 true), trodAll_mk1 (Below.trod Tryz.laidOut (by kernel_rfl) (of_decide_eq_true (by kernel_rfl)) h0k hb hlt), rfl, hb.frame _, fun h => by cases h⟩⟩
set_option maxRecDepth 100000 in
theorem img_lifted (os : Os) (started : os.Started) (H : Type) (enc : TypeId × Value → H) (F : Stop.Interp) :
 ReturnsInHanded {} Tryz.checked os 5 .any ((Rows.OpenSpec.upto Rows.imagesSpec).preRow enc Tryz.prog Tryz.f5 Rows.imagesUptoRow.domain false Rows.imagesUptoRow.laid) (((Rows.OpenSpec.upto Rows.imagesSpec).at F).post enc Tryz.prog Tryz.f5 false true false false) := by
 have hok : Input.okWideB Tryz.checked.prog ((World.laidAll Tryz.prog os Rows.imagesUptoRow.laid).forCall (fun _ _ => 0) ⟨#[], #[.slice none 0 0], []⟩) 5 ⟨#[], #[.slice none 0 0], []⟩ = true := by kernel_rfl
 have hx : ∃ places, DataW.whole enc Tryz.prog ((World.laidAll Tryz.prog os Rows.imagesUptoRow.laid).forCall (fun _ _ => 0) ⟨#[], #[.slice none 0 0], []⟩).memory Tryz.f5.params.toList Rows.imagesSpec.vars false #[Value.slice none 0 0].toList 8 = some ([.nil], [], places) := ⟨[], by kernel_rfl⟩
 obtain ⟨places, hx⟩ := hx
 refine returnsInHanded_of_row (C := Tryz.checked) (s := Rows.OpenSpec.upto Rows.imagesSpec) Tryz.own started (by kernel_rfl) Tryz.func5
  ⟨World.laidAll Tryz.prog os Rows.imagesUptoRow.laid, fun _ _ => 0, ⟨#[], #[.slice none 0 0], []⟩, World.laidAll_os _ _ _, World.shaped_of_ZipB (by kernel_rfl) (by kernel_rfl), (Input.okWide_of_okWideB (base := 0) hok).1, (Input.okWide_of_okWideB hok).2,
    OpenSpec.preRow_of_cond 8 hx (by kernel_rfl) (fun k hk => by cases hk; kernel_rfl) (by kernel_rfl) (by rw [MakeChecks.laidMetH_plain _ _ _ (by kernel_rfl)]; exact laidMet_laidAll _ (by kernel_rfl) (by kernel_rfl)),
    by simp only [Assume.holds]; exact ⟨by simp, by simp, fun _ => Modest.zero, by simp, by simp⟩⟩ ?_
 intro W base args ds gs before hval hW _ hcond _ hL _ _
 exact img_contract H enc W base args ds gs before hval hW (hcond _ rfl) hL
theorem img_row_holds : Rows.ImagesUptoSaid :=
 OpenClaim.holds_of_cond 5 Tryz.f5 rfl rfl rfl rfl rfl rfl rfl ⟨rfl, rfl, rfl, rfl, rfl⟩ rfl rfl rfl rfl rfl (by kernel_rfl) Tryz.func5 img_facts
  (of_decide_eq_true (by kernel_rfl)) (by unfold Func.isWrapper; first | (rw [if_pos (by decide +kernel)]; kernel_rfl) | (rw [if_neg (by decide +kernel)]; exact ⟨rfl, rfl⟩))
  (fun os started H enc _ F => by rw [OpenClaim.pre_eq_preRow]; exact img_lifted os started H enc F)
theorem img_card_holds : Rows.ImagesUptoCardSaid :=
 Claim7.holds_tied_plain_at .later [] _ _ _ _ img_row_holds (fun _ h => by cases h) (by kernel_rfl) (fun _ h => by cases h) imagesUpto_row_tie rfl ⟨rfl, rfl⟩ (by kernel_rfl) rfl
  (fun f fn hf hfn => by
    obtain rfl : f = 5 := Option.some.inj ((show Tryz.prog.funcNamed "suffix/suffixlaw.Images" = some 5 by kernel_rfl).symm.trans hf) |>.symm
    obtain rfl : fn = Tryz.f5 := (Option.some.inj (Tryz.func5.symm.trans hfn)).symm
    exact ⟨by kernel_rfl, fun j t ht => by
     rw [Tryz.params5] at ht
     have hm : t ∈ [22] := by simpa using Array.mem_of_getElem? ht
     have hall : ([22].all fun u => !Tryz.prog.wantsStandIn u) = true := by kernel_rfl
     exact (show Tryz.prog.wantsStandIn t = false by simpa using List.all_eq_true.1 hall t hm)⟩)
  (by kernel_rfl)
end Go.Proofs.YtgohllfpceeboaaGreatDoor
