import Derived.Test.YtgohllfpceeboaaGreatDoorCda
import Derived.Test.YtgohllfpceeboaaGreatDoorFcK
import Derived.Test.YtgohllfpceeboaaGreatDoorScaa
namespace Go.Proofs.YtgohllfpceeboaaGreatDoor
open Go.ChangeShapes Go.WideShapes Go.ChangeAt Go.RowKit Go.Deep
theorem Tryz.cells82 : Tryz.prog.cellsOf 82 = 2 := by kernel_rfl
theorem i64_wf {n : Int} (h : (Lit.int .i64 n).wf = true) : -9223372036854775808 ≤ n ∧ n ≤ 9223372036854775807 := by
  simp [Lit.wf, IntKind.min, IntKind.max, IntKind.signed, IntKind.bits] at h
  omega
set_option maxRecDepth 100000 in
/-- A raw letter, opened: its two cells. -/
theorem letter_open {H : Type} {enc : TypeId × Value → H} {w : World} {base : Nat} {spare : Nat → Bool} {held : Bool} {fuel : Nat} {cs : List Value} {x : DataW H × List MemPlace} (h : DataW.trod enc Tryz.prog w base spare held fuel 82 cs = some x) :
    ∃ q : Int × Int, cs = [.int .i64 q.1, .int .i64 q.2] ∧ (-9223372036854775808 ≤ q.1 ∧ q.1 ≤ 9223372036854775807) ∧ -9223372036854775808 ≤ q.2 ∧ q.2 ≤ 9223372036854775807 := by
  obtain ⟨xs, n, rfl, -, hl, hx, hf⟩ := DataW.trod_struct Tryz.underlying82 h
  rw [Tryz.cells82] at hl
  have hx2 : xs.length = 2 := hx
  have f0 : DataW.trod enc Tryz.prog w base spare held n 3 ((cs.drop 0).take (Tryz.prog.cellsOf 3)) = xs[0]? := hf 0 _ rfl
  have f1 : DataW.trod enc Tryz.prog w base spare held n 3 ((cs.drop 1).take (Tryz.prog.cellsOf 3)) = xs[1]? := hf 1 _ rfl
  rw [List.getElem?_eq_getElem (by omega)] at f0 f1
  obtain ⟨a0, e0, -, w0⟩ := DataW.trod_int Tryz.underlying3 f0
  obtain ⟨a1, e1, -, w1⟩ := DataW.trod_int Tryz.underlying3 f1
  rw [Tryz.cells3] at e0 e1
  have g0 := one_of_part e0
  have g1 := one_of_part e1
  refine ⟨(a0, a1), ?_, i64_wf w0, i64_wf w1⟩
  match cs, hl with
  | [c0, c1], _ =>
    simp only [List.getElem?_cons_zero, List.getElem?_cons_succ, Option.some.injEq] at g0 g1
    subst g0 g1
    rfl
set_option maxRecDepth 100000 in
/-- Raw letters that came in, opened. -/
theorem letters_open {H : Type} {enc : TypeId × Value → H} {w : World} {fuel : Nat} {v : Value} {x : DataW H × List MemPlace} (h : DataW.trod enc Tryz.prog w 0 (fun _ => true) true fuel 25 [v] = some x) :
    ∃ l : List (Int × Int), l.length ≤ 9223372036854775807 ∧ RdL w v l := by
  rcases open_slice Tryz.underlying25 h with ⟨hcs, -⟩ | ⟨a, len, cap, m, n2, D, Pl, hcs, -, hl2, hm, hmm, -, hel⟩
  · simp only [List.cons.injEq, and_true] at hcs
    subst hcs
    exact ⟨[], by simp, none, 0, rfl, by simp, fun j hj => absurd hj (Nat.not_lt_zero _)⟩
  · simp only [List.cons.injEq, and_true] at hcs
    subst hcs
    simp only [if_true] at hmm
    subst hmm
    rw [Tryz.cells82] at hel
    obtain ⟨S, hS⟩ := choose_lt (α := Int × Int) (p := fun i q => w.cells? 0 (a.add (i * 2)) 2 = some [.int .i64 q.1, .int .i64 q.2] ∧ (-9223372036854775808 ≤ q.1 ∧ q.1 ≤ 9223372036854775807) ∧ -9223372036854775808 ≤ q.2 ∧ q.2 ≤ 9223372036854775807) (fun i (hi : i < len) => by
      obtain ⟨cs', g1, g2⟩ := hel i (by omega)
      obtain ⟨q, rfl, g3⟩ := letter_open g2
      exact ⟨q, g1, g3⟩)
    have hLl : ((List.range len).map S).length = len := by simp
    have hml : len ≤ 9223372036854775807 := by have := Nat.le_trans hl2 hm; unfold maxLen at this; omega
    refine ⟨(List.range len).map S, by rw [hLl]; exact hml, some a, _, by rw [hLl], fun q hq => ?_, fun j hj => ?_⟩
    · obtain ⟨i, hi, rfl⟩ := List.mem_map.1 hq
      exact (hS i (List.mem_range.1 hi)).2
    · rw [hLl] at hj
      obtain ⟨b, off, spot⟩ := a
      have hc : ∀ j, j < len → ∀ i u, ([Value.int .i64 (S j).1, .int .i64 (S j).2])[i]? = some u → w.cell? ((⟨b, off, spot⟩ : Addr).add (j * 2) |>.add i) = some u := fun j hj i u hu => by
        obtain ⟨-, hlen, hcell⟩ := World.cells?_some (hS j hj).1
        have hi : i < 2 := by rw [← hlen]; exact (List.getElem?_eq_some_iff.1 hu).1
        rw [hcell i hi]; exact hu
      have hspot : spot = none := by
        have := hc 0 (by omega) 0 _ rfl
        simpa [Addr.add] using World.cell?_spot this
      subst hspot
      have hadd : ∀ j i, ((⟨b, off, none⟩ : Addr).add (j * 2)).add i = ⟨b, off + j * 2 + i, none⟩ := fun j i => by rw [Addr.add_lit, Addr.add_lit]
      have h0 := hc j hj 0 _ rfl
      have h1 := hc j hj 1 _ rfl
      rw [hadd] at h0 h1
      rw [Nat.add_zero] at h0
      refine ⟨b, off, rfl, cell_has h0, ?_, ?_⟩
      · simp only [List.getElem_map, List.getElem_range]; exact h0
      · simp only [List.getElem_map, List.getElem_range]; exact h1
set_option maxRecDepth 100000 in
theorem coded_lifted (os : Os) (started : os.Started) (H : Type) (enc : TypeId × Value → H) :
    ReturnsInHanded {} Tryz.checked os 6 .any (fun w args => (Rows.codedSpec.pre enc Tryz.prog Tryz.f6 [] false w args ∧ laidMetH Tryz.prog Rows.codedRow.laid w) ∧ sizedMet enc Tryz.prog Tryz.f6 (OpenSpec.ofChange Rows.codedSpec) false w args)
      (Rows.codedSpec.post enc Tryz.prog Tryz.f6 false true false false) := by
  refine returnsInHanded_of_change_and (C := Tryz.checked) (X := fun w _ => laidMetH Tryz.prog Rows.codedRow.laid w) (fun _ _ _ hh h => h.of_heap hh) Tryz.own started (by kernel_rfl) Tryz.func6
    (ChangeSpec.witness_shaped (enc := enc) (C := Tryz.checked) (os := os) (X := fun w _ => laidMetH Tryz.prog Rows.codedRow.laid w) false (World.laidAll Tryz.prog os Rows.codedRow.laid) #[.slice none 0 0, .slice none 0 0] 8 (World.laidAll_os _ _ _)
      (World.shaped_of_ZipB (by kernel_rfl) (by kernel_rfl)) (by kernel_rfl) (by kernel_rfl) (by kernel_rfl)
      (by rw [MakeChecks.laidMetH_plain _ _ _ (by kernel_rfl)]; exact laidMet_laidAll _ (by kernel_rfl) (by kernel_rfl))) ?_
  intro W base args ds gs before hval0 hW _ _ hL _
  have hval : ∀ (j : Nat) t v, Tryz.f6.params[j]? = some t → args[j]? = some v → Value.okWide Tryz.prog W .any base t v := hval0
  have hW' := hW
  obtain ⟨p, q, hA0, hV, rfl, _, _⟩ := hW
  have hA : DataW.TrodAll enc Tryz.prog W 0 (fun _ => true) true Tryz.f6.params.toList args.toList ds p := hA0
  rw [Tryz.params6] at hA hval
  obtain ⟨v0, v1, d0, d1, p0, p1, rfl, rfl, rfl, h0, h1⟩ := trodAll_two hA
  obtain ⟨rfl, rfl⟩ := trodVars_none hV
  have h0k := h0
  have h1k := h1
  obtain ⟨fuel, hf⟩ := h0
  obtain ⟨fuel1, hf1⟩ := h1
  clear hA0 hval0
  simp only [List.append_nil] at hW'
  have hlt : ∀ x ∈ p0 ++ p1, x.block < W.heap.size := fun x hx => by simpa using hW'.lt x (by simpa using hx)
  rw [MakeChecks.laidMetH_plain _ _ _ (by kernel_rfl)] at hL
  have hT : LWt W := utf8Tabs_of_readsT (U8Types.of196 Tryz.layValid) u8x (first_eq ▸ Lib.laidMet.reads hL (.tail _ (.head _))) (accept_eq ▸ Lib.laidMet.reads hL (.head _))
  obtain ⟨a0, len, cap, rfl⟩ := okWide_slice Tryz.underlying25 (hval 0 25 v0 rfl rfl)
  obtain ⟨a1, len1, cap1, rfl⟩ := okWide_slice Tryz.underlying25 (hval 1 25 v1 rfl rfl)
  have hf' : DataW.trod enc Tryz.prog W 0 (fun _ => true) true fuel 25 [.slice a0 len cap] = some (d0, p0) := hf
  have hf1' : DataW.trod enc Tryz.prog W 0 (fun _ => true) true fuel1 25 [.slice a1 len1 cap1] = some (d1, p1) := hf1
  obtain ⟨la, hla, hra⟩ := letters_open hf'
  obtain ⟨lb, hlb, hrb⟩ := letters_open hf1'
  refine (kcoded la lb _ _ W hT hra hrb hla hlb).mono fun e W' ⟨he, hb⟩ => ?_
  subst he
  exact ⟨_, rfl, ⟨_, _, _, [], _, [], hW', trodAll_mk1 (shut_bool Tryz.underlying4 true), trodAll_mk2 (Below.trod Tryz.laidOut (by kernel_rfl) (of_decide_eq_true (by kernel_rfl)) h0k hb (fun x hx => hlt x (by simp [hx]))) (Below.trod Tryz.laidOut (by kernel_rfl) (of_decide_eq_true (by kernel_rfl)) h1k hb (fun x hx => hlt x (by simp [hx]))), rfl, hb.frame _, fun h => by cases h⟩⟩
theorem coded_row_holds : Rows.CodedSaid :=
  OpenClaim.holds_of_wide 6 Tryz.f6 rfl rfl rfl rfl rfl rfl rfl ⟨rfl, rfl, rfl, rfl, rfl⟩ rfl rfl rfl rfl rfl (by kernel_rfl) Tryz.func6 coded_facts
    (of_decide_eq_true (by kernel_rfl)) (by unfold Func.isWrapper; first | (rw [if_pos (by decide +kernel)]; kernel_rfl) | (rw [if_neg (by decide +kernel)]; exact ⟨rfl, rfl⟩))
    (fun os started H enc _ => coded_lifted os started H enc)
theorem coded_card_holds : Rows.CodedCardSaid :=
  Claim7.holds_tied_plain_at .later [] [.data, .pinned] true (true, "4ff5566b1dfff07df10d82966ca7d3ecf80758a004f0d071bd1ce211aa49ae52") false coded_row_holds (fun _ h => by cases h) (by kernel_rfl) (fun _ h => by cases h) coded_row_tie rfl ⟨rfl, rfl⟩ (by kernel_rfl) rfl
    (fun f fn hf hfn => by
      obtain rfl : f = 6 := Option.some.inj ((show Tryz.prog.funcNamed "suffix/suffixkeep.Coded" = some 6 by kernel_rfl).symm.trans hf) |>.symm
      obtain rfl : fn = Tryz.f6 := (Option.some.inj (Tryz.func6.symm.trans hfn)).symm
      exact ⟨by kernel_rfl, fun j t ht => by
        rw [Tryz.params6] at ht
        have hm : t ∈ [25, 25] := by simpa using Array.mem_of_getElem? ht
        have hall : ([25, 25].all fun u => !Tryz.prog.wantsStandIn u) = true := by kernel_rfl
        exact (show Tryz.prog.wantsStandIn t = false by simpa using List.all_eq_true.1 hall t hm)⟩)
    (by kernel_rfl)
end Go.Proofs.YtgohllfpceeboaaGreatDoor
