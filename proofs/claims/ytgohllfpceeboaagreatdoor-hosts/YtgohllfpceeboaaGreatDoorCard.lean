import Derived.Test.YtgohllfpceeboaaGreatDoorCda
import Derived.Test.YtgohllfpceeboaaGreatDoorFcH
namespace Go.Proofs.YtgohllfpceeboaaGreatDoor
open Go.ChangeShapes Go.WideShapes Go.ChangeAt Go.RowKit Go.Deep
set_option maxRecDepth 100000 in
set_option maxHeartbeats 1000000 in
theorem plays_zero (a : Option Addr) (cap : Nat) (w : World) : Calls Tryz.prog 15 #[.slice a 0 cap, .int .i64 1, .int .i64 2] w fun e w' => e = .returned (.bool true) ∧ Below w.heap.size w w' := by
  go_enter Tryz.func15, Tryz.ntmps15
  go_wp2
  go_loopw [8] (fun i wr => i = .int .i64 0 ∧ Below w.heap.size w wr) (fun _ _ => 0)
  case atStart => exact ⟨rfl, (Below.refl _ _).alloc (Nat.le_refl _) _⟩
  case round =>
    obtain ⟨rfl, hB⟩ := hrel
    go_wp2
    go_ret
    exact ⟨rfl, hB⟩
/-- suffixlaw.Hosts, of an empty script -/
theorem hosts_law_zero (a : Option Addr) (cap : Nat) (w : World) : Calls Tryz.prog 3 #[.slice a 0 cap] w fun e w' => e = .returned (.bool true) ∧ Below w.heap.size w w' := by
  have HC := hide (plays_zero a cap w)
  go_enter Tryz.func3, Tryz.ntmps3
  go_wp2_with (go_at_call 15; go_must (refine HC.out.mono ?_; rintro e w' ⟨rfl, hB⟩))
  go_ret
  exact ⟨rfl, hB⟩

/-- suffixlaw.Hosts, of whatever came in -/
theorem hosts_in {H : Type} {enc : TypeId × Value → H} {W : World} {v : Value} {x : DataW H × List MemPlace} {fuel : Nat} (h : DataW.trod enc Tryz.prog W 0 (fun _ => true) true fuel 22 [v] = some x) (hL : LWt W) :
    Calls Tryz.prog 3 #[v] W fun e w' => e = .returned (.bool true) ∧ Below W.heap.size W w' := by
  rcases open_slice Tryz.underlying22 h with ⟨hcs, -⟩ | ⟨a, len, cap, m, n, D, Pl, hcs, -, hl, hm, hmm, -, hel⟩
  · simp only [List.cons.injEq, and_true] at hcs
    subst hcs
    exact hosts_law_nil W
  · simp only [List.cons.injEq, and_true] at hcs
    subst hcs
    simp only [if_true] at hmm
    subst hmm
    rw [Tryz.cells78] at hel
    have inh : Inhabited OpC := ⟨⟨0, 0, 0, 0, ⟨#[]⟩, ⟨#[]⟩, none, 0, 0, false⟩⟩
    obtain ⟨V, hV⟩ := choose_lt (α := OpC) (p := fun i o => W.cells? 0 (a.add (i * 8)) 8 = some o.cells) (fun i hi => by
      obtain ⟨cs', h1, h2⟩ := hel i hi
      obtain ⟨o, rfl⟩ := op_open h2
      exact ⟨o, h1⟩)
    obtain ⟨b, off, spot⟩ := a
    by_cases h0 : len = 0
    · subst h0
      exact hosts_law_zero _ _ W
    · have hc : ∀ j, j < len → ∀ i v, ((V j).cells)[i]? = some v → W.cell? ((⟨b, off, spot⟩ : Addr).add (j * 8) |>.add i) = some v := fun j hj i v hv => by
        obtain ⟨-, hlen, hcell⟩ := World.cells?_some (hV j (by omega))
        have hi : i < 8 := by rw [← hlen]; exact (List.getElem?_eq_some_iff.1 hv).1
        rw [hcell i hi]; exact hv
      have hspot : spot = none := by
        have := hc 0 (by omega) 0 _ rfl
        simpa [Addr.add] using World.cell?_spot this
      subst hspot
      have hadd : ∀ j i, ((⟨b, off, none⟩ : Addr).add (j * 8)).add i = ⟨b, off + j * 8 + i, none⟩ := fun j i => by
        unfold Addr.add
        by_cases h1 : j * 8 = 0 <;> by_cases h2 : i = 0 <;> simp [h1, h2]
      have hb : b < W.heap.size := by
        have := hc 0 (by omega) 0 _ rfl
        rw [hadd] at this
        by_cases hlt : b < W.heap.size
        · exact hlt
        · have hn : W.heap[b]? = none := Array.getElem?_eq_none (by omega)
          simp [World.cell?, hn] at this
      have hll : ((List.range len).map V).length = len := by simp
      have := hosts_law plainsaid_any shownsaid_any lwt_stays ((List.range len).map V) b off m W hL ⟨hb, fun j hj i v hv => by
        have hj' : j < len := by rw [← hll]; exact hj
        have hg : ((List.range len).map V)[j] = V j := by simp
        rw [hg] at hv
        have := hc j hj' i v hv
        rw [hadd] at this
        exact this⟩ (by rw [hll]; exact Nat.le_trans hl hm)
      rw [hll] at this
      exact this

set_option maxRecDepth 100000 in
theorem hosts_lifted (os : Os) (started : os.Started) (H : Type) (enc : TypeId × Value → H) :
    ReturnsInHanded {} Tryz.checked os 3 .any (fun w args => (Rows.hostsSpec.pre enc Tryz.prog Tryz.f3 [] false w args ∧ laidMetH Tryz.prog Rows.hostsRow.laid w) ∧ sizedMet enc Tryz.prog Tryz.f3 (OpenSpec.ofChange Rows.hostsSpec) false w args)
      (Rows.hostsSpec.post enc Tryz.prog Tryz.f3 false true false false) := by
  refine returnsInHanded_of_change_and (C := Tryz.checked) (X := fun w _ => laidMetH Tryz.prog Rows.hostsRow.laid w) (fun _ _ _ hh h => h.of_heap hh) Tryz.own started (by kernel_rfl) Tryz.func3
    (ChangeSpec.witness_shaped (enc := enc) (C := Tryz.checked) (os := os) (X := fun w _ => laidMetH Tryz.prog Rows.hostsRow.laid w) false (World.laidAll Tryz.prog os Rows.hostsRow.laid) #[.slice none 0 0] 8 (World.laidAll_os _ _ _)
      (World.shaped_of_ZipB (by kernel_rfl) (by kernel_rfl)) (by kernel_rfl) (by kernel_rfl) (by kernel_rfl)
      (by rw [MakeChecks.laidMetH_plain _ _ _ (by kernel_rfl)]; exact laidMet_laidAll _ (by kernel_rfl) (by kernel_rfl))) ?_
  intro W base args ds gs before hval0 hW _ _ hL _
  have hval : ∀ (j : Nat) t v, Tryz.f3.params[j]? = some t → args[j]? = some v → Value.okWide Tryz.prog W .any base t v := hval0
  have hW' := hW
  obtain ⟨p, q, hA0, hV, rfl, _, _⟩ := hW
  have hA : DataW.TrodAll enc Tryz.prog W 0 (fun _ => true) true Tryz.f3.params.toList args.toList ds p := hA0
  rw [Tryz.params3] at hA hval
  obtain ⟨v0, d0, rfl, rfl, h0⟩ := trodAll_one hA
  obtain ⟨rfl, rfl⟩ := trodVars_none hV
  have h0k := h0
  obtain ⟨fuel, hf⟩ := h0
  clear hA0 hval0
  simp only [List.append_nil] at hW'
  have hlt : ∀ x ∈ p, x.block < W.heap.size := fun x hx => by simpa using hW'.lt x hx
  rw [MakeChecks.laidMetH_plain _ _ _ (by kernel_rfl)] at hL
  have hT : LWt W := utf8Tabs_of_readsT (U8Types.of196 Tryz.layValid) u8x (first_eq ▸ Lib.laidMet.reads hL (.tail _ (.head _))) (accept_eq ▸ Lib.laidMet.reads hL (.head _))
  obtain ⟨a0, len, cap, rfl⟩ := okWide_slice Tryz.underlying22 (hval 0 22 v0 rfl rfl)
  have hf' : DataW.trod enc Tryz.prog W 0 (fun _ => true) true fuel 22 [.slice a0 len cap] = some (d0, p) := hf
  refine (hosts_in hf' hT).mono fun e W' ⟨he, hb⟩ => ?_
  subst he
  exact ⟨_, rfl, ⟨_, _, _, [], _, [], hW', trodAll_mk1 (shut_bool Tryz.underlying4 true), trodAll_mk1 (Below.trod Tryz.laidOut (by kernel_rfl) (of_decide_eq_true (by kernel_rfl)) h0k hb hlt), rfl, hb.frame _, fun h => by cases h⟩⟩

theorem hosts_row_holds : Rows.HostsSaid :=
  OpenClaim.holds_of_wide 3 Tryz.f3 rfl rfl rfl rfl rfl rfl rfl ⟨rfl, rfl, rfl, rfl, rfl⟩ rfl rfl rfl rfl rfl (by kernel_rfl) Tryz.func3 hosts_facts
    (of_decide_eq_true (by kernel_rfl)) (by unfold Func.isWrapper; first | (rw [if_pos (by decide +kernel)]; kernel_rfl) | (rw [if_neg (by decide +kernel)]; exact ⟨rfl, rfl⟩))
    (fun os started H enc _ => hosts_lifted os started H enc)

theorem hosts_card_holds : Rows.HostsCardSaid :=
  Claim7.holds_tied_plain_at .later [] [.data, .pinned] true (true, "4ff5566b1dfff07df10d82966ca7d3ecf80758a004f0d071bd1ce211aa49ae52") false hosts_row_holds (fun _ h => by cases h) (by kernel_rfl) (fun _ h => by cases h) hosts_row_tie rfl ⟨rfl, rfl⟩ (by kernel_rfl) rfl
    (fun f fn hf hfn => by
      obtain rfl : f = 3 := Option.some.inj ((show Tryz.prog.funcNamed "suffix/suffixlaw.Hosts" = some 3 by kernel_rfl).symm.trans hf) |>.symm
      obtain rfl : fn = Tryz.f3 := (Option.some.inj (Tryz.func3.symm.trans hfn)).symm
      exact ⟨by kernel_rfl, fun j t ht => by
        rw [Tryz.params3] at ht
        have hm : t ∈ [22] := by simpa using Array.mem_of_getElem? ht
        have hall : ([22].all fun u => !Tryz.prog.wantsStandIn u) = true := by kernel_rfl
        exact (show Tryz.prog.wantsStandIn t = false by simpa using List.all_eq_true.1 hall t hm)⟩)
    (by kernel_rfl)
#print axioms hosts_card_holds
end Go.Proofs.YtgohllfpceeboaaGreatDoor
