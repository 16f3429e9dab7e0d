import Derived.Test.YtgohllfpceeboabGreatDoorSbay
import Derived.Test.YtgohllfpceeboabGreatDoorSbaa
import Derived.Test.YtgohllfpceeboabGreatDoorSbaq
import Derived.Test.YtgohllfpceeboabGreatDoorSbar
import Derived.Test.YtgohllfpceeboabGreatDoorSbas
import Derived.Test.YtgohllfpceeboabGreatDoorSbbe
import Derived.Test.YtgohllfpceeboabGreatDoorSbaz
import Derived.Test.YtgohllfpceeboabGreatDoorProg
import Derived.Test.YtgohllfpceeboabGreatDoorSbah
namespace Go.Proofs.YtgohllfpceeboabGreatDoor
open Go.RowKit
theorem Tryz.info61 : (Tryz.prog.info? 61).map (fun i => (i.zero, i.size, i.bytes)) = some (some (.agg #[.int .i64 0, .int .i64 0, .int .i64 0, .int .i64 0, .int .i64 0]), 5, 40) := by kernel_rfl
theorem cell5_new (w : World) (x y z u v : Value) (t : TypeId) : ∀ (j : Nat) (q : Value), [x, y, z, u, v][j]? = some q → (w.alloc (.cells #[x, y, z, u, v] t)).cell? ((⟨w.heap.size, 0, none⟩ : Addr).add j) = some q := by
  intro j q hj
  rw [Addr.add_lit, Nat.zero_add, World.cell?_alloc_mark]
  simpa using hj
theorem kep_step (l : List Sx.RawR) (k : Nat) (h : k < l.length) : Sx.kepF (l.take (k + 1)) = Sx.kepS (Sx.kepF (l.take k)) l[k] := by
  rw [List.take_succ_eq_append_getElem h]
  unfold Sx.kepF
  rw [List.foldl_append]
  rfl
theorem kep_full : ∀ (t m : List Sx.RawR), 10 ≤ m.length → t.foldl Sx.kepS m = m
  | [], _, _ => rfl
  | r :: t, m, h => by
    have e : Sx.kepS m r = m := by unfold Sx.kepS; rw [if_neg (by omega)]
    rw [List.foldl_cons, e]
    exact kep_full t m h
theorem kep_end (l : List Sx.RawR) (k : Nat) (h : 10 ≤ (Sx.kepF (l.take k)).length) : Sx.kepF l = Sx.kepF (l.take k) := by
  conv => lhs; rw [← List.take_append_drop k l]
  unfold Sx.kepF at h ⊢
  rw [List.foldl_append]
  exact kep_full _ _ h
theorem kep_of (l : List Sx.RawR) : ∀ x ∈ Sx.kepF l, x ∈ l := by
  have key : ∀ (t m : List Sx.RawR), ∀ x ∈ t.foldl Sx.kepS m, x ∈ m ∨ x ∈ t := by
    intro t
    induction t with
    | nil => intro m x hx; exact Or.inl hx
    | cons r t ih =>
      intro m x hx
      rw [List.foldl_cons] at hx
      rcases ih _ x hx with h | h
      · unfold Sx.kepS at h
        split at h
        · rcases List.mem_append.1 h with h | h
          · exact Or.inl h
          · exact Or.inr (by rw [List.mem_singleton.1 h]; simp)
        · exact Or.inl h
      · exact Or.inr (by simp [h])
  intro x hx
  rcases key l [] x hx with h | h
  · cases h
  · exact h
theorem fr_step (m : List Sx.RawR) (r : Sx.RawR) (j : Nat) (h : j < m.length) : Sx.frB (m.take (j + 1)) r = (Sx.frB (m.take j) r && (decide (Sx.dotted (Sx.rawRl m[j]).1 ≠ Sx.dotted (Sx.rawRl r).1) || decide (Sx.rawK m[j] ≠ Sx.rawK r))) := by
  unfold Sx.frB
  rw [List.take_succ_eq_append_getElem h, List.all_append]
  simp
set_option maxRecDepth 100000 in
set_option maxHeartbeats 4000000 in
/-- suffixkeep.kept -/
theorem kkept (l : List Sx.RawR) (v : Value) (w : World) (hw : LWt w) (hv : RdR w v l) (hl : l.length ≤ 9223372036854775807) : Calls Tryz.prog 8 #[v] w fun e w' => ∃ mv, e = .returned mv ∧ w'.ownsRow w.heap.size 61 5 mv (Sx.kepF l).length (rwV (Sx.kepF l)) ∧ Below w.heap.size w w' := by
  obtain ⟨p, cap, rfl, hr, hc⟩ := hv
  have HC := hide hc
  have HR := hide hr
  have HLW : Hid (∀ W, Below w.heap.size w W → LWt W) := hide (fun W h => lwt_stays _ _ hw h)
  have HOK : Hid (∀ k, ∀ x ∈ Sx.kepF (l.take k), RawOk x) := hide (fun k x hx => hr x (List.mem_of_mem_take (kep_of _ x hx)))
  have HLN : Hid (∀ k, (Sx.kepF (l.take k)).length ≤ 10) := hide (fun k => (Sx.kepF_ok _).2)
  clear hc hr hw
  go_enter Tryz.func8, Tryz.ntmps8
  go_wp2_with fail
  go_loopw [3, 4] (fun mv iv wr => ∃ (k : Nat) (m : List Sx.RawR), iv = .int .i64 k ∧ k ≤ l.length ∧ Sx.kepF (l.take k) = m ∧ wr.ownsRow w.heap.size 61 5 mv m.length (rwV m) ∧ Below w.heap.size w wr) (fun _ iv _ => (l.length - intOf iv).toNat)
  case atStart => exact ⟨0, [], rfl, by omega, rfl, ⟨rfl, .inl ⟨rfl, rfl⟩⟩, Below.refl _ _⟩
  case round =>
    obtain ⟨k, m, rfl, hk, hm, hown, hB⟩ := hrel
    have hok := HOK.out k
    have hml := HLN.out k
    rw [hm] at hok hml
    obtain ⟨mp, mc, rfl⟩ := own_shapeK hown
    have HB := hide hB
    have HOWN := hide hown
    by_cases hlt : k < l.length ∧ m.length < 10
    · obtain ⟨hlt, hm10⟩ := hlt
      obtain ⟨b, off, rfl, hb, hc5⟩ := HC.out k hlt
      have hro := HR.out l[k] (List.getElem_mem hlt)
      have hst := kep_step l k hlt
      rw [hm] at hst
      obtain ⟨q, hq⟩ : ∃ q, l[k] = q := ⟨_, rfl⟩
      rw [hq] at hro hst hc5
      clear hq
      have HST := hide hst
      have HM := hide hm
      clear hst hm hB hown
      obtain ⟨V, rfl⟩ : ∃ V, V = wr := ⟨_, rfl⟩
      have hm10' : ((m.length : Int) < 10) = True := by simp; omega
      go_wp2_with fail
      go_loopw [5, 6] (fun fv jv ws => ∃ (j : Nat) (f : Bool), fv = .bool f ∧ jv = .int .i64 j ∧ j ≤ m.length ∧ Sx.frB (m.take j) q = f ∧ Below V.heap.size V ws) (fun _ jv _ => (m.length - intOf jv).toNat)
      case atStart => exact ⟨0, true, rfl, rfl, by omega, rfl, Below.refl _ _⟩
      case round =>
        obtain ⟨j, f, rfl, rfl, hj, hf, hBs⟩ := hrel
        have HBS := hide hBs
        by_cases hjl : j < m.length
        · have hrd := rdR_own HOWN.out hok
          obtain ⟨mp', mc', hmv, -, hmc⟩ := hrd
          obtain ⟨g, go, hgp, hg, hc6⟩ := hmc j hjl
          obtain ⟨rfl, -⟩ : mp = mp' ∧ mc = mc' := by injection hmv with h1 h2 h3; exact ⟨h1, h3⟩
          subst hgp
          have hqo := hok m[j] (List.getElem_mem hjl)
          have hfs := fr_step m q j hjl
          rw [hf] at hfs
          obtain ⟨r, hr⟩ : ∃ r, m[j] = r := ⟨_, rfl⟩
          rw [hr] at hqo hfs hc6
          clear hmv hmc hr hf
          have HL1 := hide (fun W => kline r W hqo)
          have HH1 := hide (fun W => khostL r W)
          have HP1 := hide (fun W h => kplainL r W h)
          have HK1 := hide (fun W => kkindL r W)
          have HL2 := hide (fun W => kline q W hro)
          have HH2 := hide (fun W => khostL q W)
          have HP2 := hide (fun W h => kplainL q W h)
          have HK2 := hide (fun W => kkindL q W)
          obtain ⟨A1, hA1⟩ : ∃ X : ByteArray, ⟨(Sx.lineT r).toArray⟩ = X := ⟨_, rfl⟩
          obtain ⟨A2, hA2⟩ : ∃ X : ByteArray, ⟨(Sx.dotted ((Sx.ruleIx r).map Sx.nm)).toArray⟩ = X := ⟨_, rfl⟩
          obtain ⟨A3, hA3⟩ : ∃ X : ByteArray, ⟨(Sx.dotted (Sx.rawRl r).1).toArray⟩ = X := ⟨_, rfl⟩
          obtain ⟨B1, hB1⟩ : ∃ X : ByteArray, ⟨(Sx.lineT q).toArray⟩ = X := ⟨_, rfl⟩
          obtain ⟨B2, hB2⟩ : ∃ X : ByteArray, ⟨(Sx.dotted ((Sx.ruleIx q).map Sx.nm)).toArray⟩ = X := ⟨_, rfl⟩
          obtain ⟨B3, hB3⟩ : ∃ X : ByteArray, ⟨(Sx.dotted (Sx.rawRl q).1).toArray⟩ = X := ⟨_, rfl⟩
          have hcmp : (A3.toList == B3.toList) = decide (Sx.dotted (Sx.rawRl r).1 = Sx.dotted (Sx.rawRl q).1) := by
            rw [ba_eq, ← hA3, ← hB3]
          rw [hA1] at HL1 HH1 HK1
          rw [hA2] at HH1 HP1
          rw [hA3] at HP1
          rw [hB1] at HL2 HH2 HK2
          rw [hB2] at HH2 HP2
          rw [hB3] at HP2
          have hkc : ((Sx.rawK r).toNat : Int) = (Sx.rawK q).toNat ↔ Sx.rawK r = Sx.rawK q := ⟨fun h => UInt8.toNat_inj.1 (Int.ofNat.inj h), fun h => by rw [h]⟩
          obtain ⟨K1, hK1⟩ : ∃ K, (Sx.rawK r).toNat = K := ⟨_, rfl⟩
          obtain ⟨K2, hK2⟩ : ∃ K, (Sx.rawK q).toNat = K := ⟨_, rfl⟩
          rw [hK1] at HK1
          rw [hK2] at HK2
          rw [hK1, hK2] at hkc
          have HFS : Hid (Sx.frB (m.take (j + 1)) q = (f && (!(A3.toList == B3.toList) || decide (¬ (K1 : Int) = K2)))) := hide (by
            rw [hfs, hcmp]
            congr 2
            · simp
            · exact decide_eq_decide.2 (not_congr hkc.symm))
          obtain ⟨r1, r2, r3, r4, r5⟩ := r
          obtain ⟨q1, q2, q3, q4, q5⟩ := q
          unfold rawV at HL1 HL2
          dsimp only at HL1 HL2
          have hc5w := hc5.below HB.out hb
          have hbr : b < V.heap.size := Nat.lt_of_lt_of_le hb HB.out.size
          have HX : Hid (∀ W, Below V.heap.size V W → (W.cell? ⟨g, go + j * 5, none⟩ = some (.int .i64 r1) ∧ W.cell? ⟨g, go + j * 5 + 1, none⟩ = some (.int .i64 r2) ∧ W.cell? ⟨g, go + j * 5 + 2, none⟩ = some (.int .i64 r3) ∧ W.cell? ⟨g, go + j * 5 + 3, none⟩ = some (.int .i64 r4) ∧ W.cell? ⟨g, go + j * 5 + 4, none⟩ = some (.int .i64 r5)) ∧ (W.cell? ⟨b, off + k * 5, none⟩ = some (.int .i64 q1) ∧ W.cell? ⟨b, off + k * 5 + 1, none⟩ = some (.int .i64 q2) ∧ W.cell? ⟨b, off + k * 5 + 2, none⟩ = some (.int .i64 q3) ∧ W.cell? ⟨b, off + k * 5 + 3, none⟩ = some (.int .i64 q4) ∧ W.cell? ⟨b, off + k * 5 + 4, none⟩ = some (.int .i64 q5))) := hide (fun W h => ⟨hc6.below h hg, hc5w.below h hbr⟩)
          have HLX : Hid (∀ W, Below V.heap.size V W → LWt W) := hide (fun W h => HLW.out _ (below_to HB.out h))
          obtain ⟨⟨a1, a2, a3, a4, a5⟩, b1, b2, b3, b4, b5⟩ := HX.out wr hBs
          have hbw := HB.out.size
          clear hc5 hc5w hc6 hfs hA1 hA2 hA3 hB1 hB2 hB3 hcmp hkc hK1 hK2 hqo hro hBs hok
          go_wp2_with fail
          refine (HL1.out _).mono ?_
          rintro e w1 ⟨rfl, hB1⟩
          have HB1 := hide (below_to HBS.out hB1)
          clear hB1 a1 a2 a3 a4 a5 b1 b2 b3 b4 b5
          go_wp2_with fail
          refine (HH1.out _).mono ?_
          rintro e w2 ⟨rfl, rfl⟩
          go_wp2_with fail
          refine (HP1.out _ (HLX.out _ HB1.out)).mono ?_
          rintro e w3 ⟨hB1, rfl⟩
          have HB3 := hide (below_to HB1.out hB1)
          obtain ⟨-, b1, b2, b3, b4, b5⟩ := HX.out w3 HB3.out
          clear hB1
          go_wp2_with fail
          refine (HL2.out _).mono ?_
          rintro e w4 ⟨rfl, hB1⟩
          have HB4 := hide (below_to HB3.out hB1)
          clear hB1 b1 b2 b3 b4 b5
          go_wp2_with fail
          refine (HH2.out _).mono ?_
          rintro e w5 ⟨rfl, rfl⟩
          go_wp2_with fail
          refine (HP2.out _ (HLX.out _ HB4.out)).mono ?_
          rintro e w6 ⟨hB1, rfl⟩
          have HB6 := hide (below_to HB4.out hB1)
          clear hB1
          have hS0 := HX.out w6 HB6.out
          cases f with
          | false =>
            go_wp2_with fail
            go_region
            all_goals (go_wp2; exact ⟨⟨j + 1, false, rfl, by go_num, by omega, by rw [HFS.out]; rfl, by first | exact HB6.out | exact HB6.out.drew⟩, by simp [intOf]; omega⟩)
          | true =>
            by_cases hne : (A3.toList == B3.toList) = true
            · by_cases hk2 : K1 = K2
              · subst hk2
                go_wp2_with fail
                go_region_held_law (fun w' => (w'.cell? ⟨g, go + j * 5, none⟩ = some (.int .i64 r1) ∧ w'.cell? ⟨g, go + j * 5 + 1, none⟩ = some (.int .i64 r2) ∧ w'.cell? ⟨g, go + j * 5 + 2, none⟩ = some (.int .i64 r3) ∧ w'.cell? ⟨g, go + j * 5 + 3, none⟩ = some (.int .i64 r4) ∧ w'.cell? ⟨g, go + j * 5 + 4, none⟩ = some (.int .i64 r5)) ∧ (w'.cell? ⟨b, off + k * 5, none⟩ = some (.int .i64 q1) ∧ w'.cell? ⟨b, off + k * 5 + 1, none⟩ = some (.int .i64 q2) ∧ w'.cell? ⟨b, off + k * 5 + 2, none⟩ = some (.int .i64 q3) ∧ w'.cell? ⟨b, off + k * 5 + 3, none⟩ = some (.int .i64 q4) ∧ w'.cell? ⟨b, off + k * 5 + 4, none⟩ = some (.int .i64 q5))) (first | exact hS2 | exact hS1 | exact hS0 | go_keep) (first | (have hbX := hbC; go_at_call 28; refine (HK2.out _).mono ?_; rintro e wD ⟨rfl, rfl⟩) | (have hbX := hbM; go_at_call 26; refine (HL2.out _).mono ?_; rintro e wC ⟨rfl, hBC⟩; have hbC : Below V.heap.size V wC := below_to (by first | exact hbA | exact hbA.drew) hBC; have hS2 := HX.out wC hbC) | (have hbX := hbA; go_at_call 28; refine (HK1.out _).mono ?_; rintro e wB ⟨rfl, rfl⟩; have hbM : True := trivial) | (go_at_call 26; refine (HL1.out _).mono ?_; rintro e wA ⟨rfl, hBA⟩; have hbA : Below V.heap.size V wA := below_to (by first | exact HB6.out | exact HB6.out.drew) hBA; have hS1 := HX.out wA hbA))
                all_goals (go_wp2; exact ⟨⟨j + 1, false, rfl, by go_num, by omega, by rw [HFS.out, hne]; simp, hbC⟩, by simp [intOf]; omega⟩)
              · have k1 : ((K1 : Int) == K2) = false := by simp; omega
                have k2 : ¬ (K1 : Int) = K2 := by omega
                have k3 : ((K1 : Int) != K2) = true := by simp; omega
                go_wp2_with fail
                go_region_held_law (fun w' => (w'.cell? ⟨g, go + j * 5, none⟩ = some (.int .i64 r1) ∧ w'.cell? ⟨g, go + j * 5 + 1, none⟩ = some (.int .i64 r2) ∧ w'.cell? ⟨g, go + j * 5 + 2, none⟩ = some (.int .i64 r3) ∧ w'.cell? ⟨g, go + j * 5 + 3, none⟩ = some (.int .i64 r4) ∧ w'.cell? ⟨g, go + j * 5 + 4, none⟩ = some (.int .i64 r5)) ∧ (w'.cell? ⟨b, off + k * 5, none⟩ = some (.int .i64 q1) ∧ w'.cell? ⟨b, off + k * 5 + 1, none⟩ = some (.int .i64 q2) ∧ w'.cell? ⟨b, off + k * 5 + 2, none⟩ = some (.int .i64 q3) ∧ w'.cell? ⟨b, off + k * 5 + 3, none⟩ = some (.int .i64 q4) ∧ w'.cell? ⟨b, off + k * 5 + 4, none⟩ = some (.int .i64 q5))) (first | exact hS2 | exact hS1 | exact hS0 | go_keep) (first | (have hbX := hbC; go_at_call 28; refine (HK2.out _).mono ?_; rintro e wD ⟨rfl, rfl⟩) | (have hbX := hbM; go_at_call 26; refine (HL2.out _).mono ?_; rintro e wC ⟨rfl, hBC⟩; have hbC : Below V.heap.size V wC := below_to (by first | exact hbA | exact hbA.drew) hBC; have hS2 := HX.out wC hbC) | (have hbX := hbA; go_at_call 28; refine (HK1.out _).mono ?_; rintro e wB ⟨rfl, rfl⟩; have hbM : True := trivial) | (go_at_call 26; refine (HL1.out _).mono ?_; rintro e wA ⟨rfl, hBA⟩; have hbA : Below V.heap.size V wA := below_to (by first | exact HB6.out | exact HB6.out.drew) hBA; have hS1 := HX.out wA hbA))
                all_goals (go_wp2; exact ⟨⟨j + 1, true, rfl, by go_num, by omega, by rw [HFS.out, hne]; simp [k2], hbC⟩, by simp [intOf]; omega⟩)
            · have hne' : (A3.toList == B3.toList) = false := by simpa using hne
              clear hne
              go_wp2_with fail
              go_region
              all_goals (go_wp2; exact ⟨⟨j + 1, true, rfl, by go_num, by omega, by rw [HFS.out, hne']; rfl, by first | exact HB6.out | exact HB6.out.drew⟩, by simp [intOf]; omega⟩)
        · have hje : j = m.length := by omega
          have hfr : Sx.frB m q = f := by rw [← hf, List.take_of_length_le (by omega)]
          have hjf : ((j : Int) < m.length) = False := by simp; omega
          have hs2 : Sx.kepF (l.take (k + 1)) = if f = true then m ++ [q] else m := by
            rw [HST.out]; unfold Sx.kepS
            rw [hfr]
            by_cases h : f = true
            · rw [if_pos ⟨hm10, h⟩, if_pos h]
            · rw [if_neg (fun e => h e.2), if_neg h]
          have HS2 := hide hs2
          have hrow1 := own_later HOWN.out HBS.out
          have HBW : Hid (Below w.heap.size w wr) := hide (below_to HB.out HBS.out)
          have hbw := HBW.out.size
          clear hf hfr hs2 hBs hjl HST
          subst hje
          cases f with
          | false =>
            go_wp2
            exact ⟨⟨k + 1, m, by go_num, by omega, HS2.out, hrow1, HBW.out⟩, by simp [intOf]; omega⟩
          | true =>
            have HQ5 := hide (hc5.below HBW.out hb)
            have HPV : Hid (rwV (m ++ [q]) = rwV m ++ rwV [q]) := hide (rwV_app m [q])
            obtain ⟨q1, q2, q3, q4, q5⟩ := q
            obtain ⟨i0, hi, hz0, hz1, hz2⟩ := info_parts Tryz.info61
            clear hc5 hro hok
            obtain ⟨b1, b2, b3, b4, b5⟩ := HQ5.out
            dsimp only at b1 b2 b3 b4 b5
            go_wp2_with (at_builtin; go_must (refine wpList_append_lies _ rfl _ _ _ rfl w.heap.size 61 i0 (.agg #[.int .i64 0, .int .i64 0, .int .i64 0, .int .i64 0, .int .i64 0]) 5 40 Tryz.underlying22 hi hz0 hz1 hz2 rfl (by decide) _ _ _ rfl (hrow1.alloc _) ⟨_, 0, none⟩ 1 1 [.int .i64 q1, .int .i64 q2, .int .i64 q3, .int .i64 q4, .int .i64 q5] rfl rfl (cell5_new _ _ _ _ _ _ _) (by simp [Value.oneCell']) (by omega) (by unfold maxLen; omega) (by omega) (by simp; omega) _ rfl ?_; intro g8 cap8 w8 hown8 hgrow8 hat8 hlt8))
            have hBx : Below w.heap.size w w8 := (HBW.out.alloc (by omega) _).grown hgrow8 (by rw [World.size_alloc]; omega) (fun r e => (hrow1.lt r e).1)
            refine ⟨⟨k + 1, m ++ [(q1, q2, q3, q4, q5)], by go_num, by omega, HS2.out, ?_, hBx⟩, by simp [intOf]; omega⟩
            rw [HPV.out, List.length_append, List.length_singleton]
            exact hown8
    · have hfin : Sx.kepF l = m := by
        by_cases h : k < l.length
        · rw [kep_end l k (by rw [hm]; omega), hm]
        · rw [← hm, List.take_of_length_le (by omega)]
      have HF := hide hfin
      by_cases h : k < l.length
      · have h2 : ((m.length : Int) < 10) = False := by simp; omega
        clear hfin hm hlt
        go_wp2
        go_ret
        exact ⟨_, rfl, by rw [HF.out]; exact hown, HB.out⟩
      · have h2 : ((k : Int) < l.length) = False := by simp; omega
        clear hfin hm hlt
        go_wp2
        go_ret
        exact ⟨_, rfl, by rw [HF.out]; exact hown, HB.out⟩
end Go.Proofs.YtgohllfpceeboabGreatDoor

