import Derived.Test.YtgohllfpceeboaaGreatDoorGap
import Derived.Test.YtgohllfpceeboaaGreatDoorRefP
import Derived.Test.YtgohllfpceeboaaGreatDoorGao
import Derived.Laws.CopyOwn
namespace Sx
/-- The sections that a rule may have. -/
def SecOk (rs : List Rl) : Prop := ∀ r ∈ rs, r.2.2 = 105 ∨ r.2.2 = 112
theorem addLn_sec {rs : List Rl} {sec : UInt8} {line : List UInt8} (h : SecOk rs) (hs : sec = 105 ∨ sec = 112) : SecOk (addLn rs sec line).1.1 ∧ ((addLn rs sec line).1.2 = 105 ∨ (addLn rs sec line).1.2 = 112) := by
  unfold addLn
  split
  · exact ⟨h, hs⟩
  · split
    · exact ⟨h, .inl rfl⟩
    · split
      · exact ⟨h, .inr rfl⟩
      · cases hr : readRl line sec with
        | none => exact ⟨h, hs⟩
        | some r =>
          simp only
          split
          · exact ⟨h, hs⟩
          · split
            · exact ⟨h, hs⟩
            · refine ⟨fun q hq => ?_, hs⟩
              rcases List.mem_append.1 hq with hq | hq
              · exact h q hq
              · rw [List.mem_singleton.1 hq]
                unfold readRl at hr
                split at hr
                · obtain rfl := Option.some.inj hr
                  exact hs
                · cases hr
theorem addLns_sec : ∀ (l : List (List UInt8)) (rs : List Rl) (sec : UInt8) (n : Int), SecOk rs → (sec = 105 ∨ sec = 112) → SecOk (addLns l rs sec n).1
  | [], _, _, _, h, _ => h
  | x :: r, rs, sec, n, h, hs => by
    unfold addLns
    split
    · exact addLns_sec r _ _ _ (addLn_sec h hs).1 (addLn_sec h hs).2
    · exact h
theorem addAll_sec : ∀ (l : List (List UInt8)) (rs : List Rl) (n : Int), SecOk rs → SecOk (addAll l rs n).1
  | [], _, _, h => h
  | s :: r, rs, n, h => by
    unfold addAll
    split
    · exact addAll_sec r _ _ (addLns_sec _ _ _ _ h (.inl rfl))
    · exact addLns_sec _ _ _ _ h (.inl rfl)
theorem secOk_ne {rs : List Rl} (h : SecOk rs) : ∀ r ∈ rs, r.2.2 ≠ 10 := by
  intro r hr
  rcases h r hr with e | e <;> rw [e] <;> decide
end Sx
namespace Go.Proofs.YtgohllfpceeboaaGreatDoor
open Go.RowKit
set_option maxRecDepth 100000 in
set_option maxHeartbeats 1000000 in
/-- suffixref.Compile -/
theorem rcomp (L : List (List UInt8)) (v : Value) (w : World) (hrd : RdS w v L) (hL : L.length ≤ 1000000000000) (hsl : Sx.sl L ≤ 1000000000000) : Calls Tryz.prog 101 #[v] w fun e w' => e = .returned (.tuple #[.string ⟨(Sx.compR L).1.toArray⟩, .int .i64 (Sx.compR L).2.1, .int .i64 (Sx.compR L).2.2]) ∧ Below w.heap.size w w' := by
  have HP := hide (rparse L v w hrd hL hsl)
  clear hrd hL hsl
  go_enter Tryz.func101, Tryz.ntmps101
  go_wp2_with fail
  refine HP.out.mono ?_
  rintro e w1 ⟨hB, hpost⟩
  by_cases hbig : 2000 < Sx.sl L
  · rw [if_pos hbig] at hpost
    subst hpost
    have hc : Sx.compR L = ([], 1, 0) := by unfold Sx.compR; rw [if_pos hbig]
    have HC := hide hc
    clear hc hbig
    go_wp2
    go_ret3
    exact ⟨by rw [HC.out]; rfl, hB⟩
  · rw [if_neg hbig] at hpost
    by_cases h0 : (Sx.addAll L [] 0).2.1 = 0
    · rw [if_pos h0] at hpost
      obtain ⟨v2, q, rfl, hq, hat⟩ := hpost
      have hc : Sx.compR L = (Sx.imgT (Sx.tabOf (q.map (·.2))), 0, 0) := by unfold Sx.compR; rw [if_neg hbig, if_pos h0, hq]
      have hok := Sx.addAll_ok L [] 0 Sx.rlsOk_nil
      have hsec := Sx.secOk_ne (Sx.addAll_sec L [] 0 (by intro r hr; cases hr))
      rw [← hq] at hok hsec
      have HI := hide (rimg q w.heap.size v2 w1 hat hok hsec)
      have HC := hide hc
      have hsz := hB.size
      clear hc hbig h0 hq hok hsec hat
      go_wp2_with fail
      refine HI.out.mono ?_
      rintro e w2 ⟨rfl, hB2⟩
      go_wp2
      go_ret3
      exact ⟨by rw [HC.out]; rfl, hB.trans (hB2.mono hsz)⟩
    · rw [if_neg h0] at hpost
      subst hpost
      have hc : Sx.compR L = ([], (Sx.addAll L [] 0).2.1, (Sx.addAll L [] 0).2.2) := by unfold Sx.compR; rw [if_neg hbig, if_neg h0]
      have HC := hide hc
      generalize (Sx.addAll L [] 0).2.1 = m at HC h0 ⊢
      generalize (Sx.addAll L [] 0).2.2 = n at HC ⊢
      have hm : (m != 0) = true := by simpa using h0
      clear hc hbig h0
      go_wp2
      go_ret3
      exact ⟨by rw [HC.out]; rfl, hB⟩
end Go.Proofs.YtgohllfpceeboaaGreatDoor
namespace Go.Proofs.YtgohllfpceeboaaGreatDoor
open Go.RowKit
/-- A row of texts, known whole. -/
def TxAt (W : World) (g : Nat) (X : List (List UInt8)) : Prop := W.heap[g]? = some (.cells (stV X).toArray 9 (0, 0))
theorem TxAt.below {W W' : World} {g B : Nat} {X : List (List UInt8)} (h : TxAt W g X) (hb : Below B W W') (hg : g < B) : TxAt W' g X := (hb.block g hg).trans h
theorem TxAt.lt {W : World} {g : Nat} {X : List (List UInt8)} (h : TxAt W g X) : g < W.heap.size := (Array.getElem?_eq_some_iff.1 h).1
theorem TxAt.cell {W : World} {g : Nat} {X : List (List UInt8)} (h : TxAt W g X) (j : Nat) (hj : j < X.length) : W.cell? ⟨g, j, none⟩ = some (.string ⟨X[j].toArray⟩) ∧ W.frozen? ⟨g, j, none⟩ = false := by
  unfold TxAt at h
  constructor
  · simp only [World.cell?, h, Option.isSome_none, Bool.false_eq_true, if_false]
    unfold stV
    rw [List.getElem?_toArray, List.getElem?_map, List.getElem?_eq_getElem hj]
    rfl
  · simp [World.frozen?, h]
theorem TxAt.set {W : World} {g : Nat} {X : List (List UInt8)} (h : TxAt W g X) (j : Nat) (x : List UInt8) : TxAt (W.setCell ⟨g, j, none⟩ (.string ⟨x.toArray⟩)) g (X.set j x) := by
  unfold TxAt at h ⊢
  have e : (stV (X.set j x)).toArray = (stV X).toArray.setIfInBounds j (.string ⟨x.toArray⟩) := by
    unfold stV
    rw [List.setIfInBounds_toArray, List.map_set]
  rw [e]
  simp [World.setCell, Array.getElem?_modify, h]
theorem TxAt.rds {W : World} {g : Nat} {X L : List (List UInt8)} (h : TxAt W g X) (cap : Nat) (hX : ∀ j (hj : j < L.length), X[j]? = some L[j]) : RdS W (.slice (some ⟨g, 0, none⟩) L.length cap) L := by
  refine ⟨_, _, rfl, fun j hj => ⟨g, 0, rfl, h.lt, ?_⟩⟩
  obtain ⟨h1, h2⟩ := List.getElem?_eq_some_iff.1 (hX j hj)
  have := (h.cell j h1).1
  rw [h2] at this
  rw [Nat.zero_add]
  exact this
theorem RdS.below {W W' : World} {v : Value} {L : List (List UInt8)} (h : RdS W v L) (hb : Below W.heap.size W W') : RdS W' v L := by
  obtain ⟨p, cap, h1, h2⟩ := h
  refine ⟨p, cap, h1, fun j hj => ?_⟩
  obtain ⟨b, off, e1, e2, e3⟩ := h2 j hj
  exact ⟨b, off, e1, Nat.lt_of_lt_of_le e2 hb.size, (hb.cell (p := ⟨b, off + j, none⟩) e2).trans e3⟩
/-- "beyond" -/
def byd : List UInt8 := [98, 101, 121, 111, 110, 100]
/-- The lists, and the marks behind them, of which so many are laid. -/
def rowX (L : List (List UInt8)) (k : Nat) : List (List UInt8) := L ++ (List.replicate k byd ++ List.replicate (8 - k) [])
theorem rowX_len (L : List (List UInt8)) (k : Nat) (h : k ≤ 8) : (rowX L k).length = L.length + 8 := by simp [rowX]; omega
theorem rowX_set (L : List (List UInt8)) (k : Nat) (h : k < 8) : (rowX L k).set (L.length + k) byd = rowX L (k + 1) := by
  unfold rowX
  rw [List.set_append_right _ _ (by omega), Nat.add_sub_cancel_left, List.set_append_right _ _ (by simp), List.length_replicate, Nat.sub_self, List.replicate_succ']
  have : 8 - k = (8 - (k + 1)) + 1 := by omega
  rw [this, List.replicate_succ, List.set_cons_zero, List.append_assoc]
  rfl
theorem rowX_low (L : List (List UInt8)) (k j : Nat) (h : j < L.length) : (rowX L k)[j]? = some L[j] := by
  unfold rowX
  rw [List.getElem?_append_left h, List.getElem?_eq_getElem h]
theorem rowX_high (L : List (List UInt8)) (j : Nat) (h : L.length ≤ j) (h2 : j < L.length + 8) : (rowX L 8)[j]? = some byd := by
  unfold rowX
  rw [List.getElem?_append_right h]
  have e : List.replicate 8 byd ++ List.replicate (8 - 8) [] = List.replicate 8 byd := by simp
  rw [e, List.getElem?_replicate, if_pos (by omega)]
theorem made_texts (n : Nat) : (madeCells #[Value.string ⟨#[]⟩] n).toList = stV (List.replicate n []) := by
  unfold madeCells stV
  apply List.ext_getElem
  · simp
  · intro i h1 h2
    simp [Nat.mod_one]
theorem own_whole {w : World} {B g n : Nat} {e : TypeId} {xs : List Value} (h : w.ownsRow B e 1 (.slice (some ⟨g, 0, none⟩) n n) n xs) : w.heap[g]? = some (.cells xs.toArray e (0, 0)) := by
  rcases h.2 with ⟨e0, _⟩ | ⟨g', cap', cur, e0, hb, hg, hn, hm, hs, ht⟩
  · cases e0
  · cases e0
    rw [Nat.mul_one] at hs ht
    rw [← Array.length_toList] at hs
    rw [← hs, List.take_length] at ht
    rw [← ht]
    exact hg
theorem splice_row (L : List (List UInt8)) : splice (stV (List.replicate (L.length + 8) [])) 0 (stV L) = stV (rowX L 0) := by
  unfold splice rowX
  rw [List.take_zero, List.nil_append, Nat.zero_add, stV_app]
  congr 1
  unfold stV
  rw [List.length_map, ← List.map_drop, List.drop_replicate]
  simp
set_option maxRecDepth 100000 in
set_option maxHeartbeats 4000000 in
/-- suffixlaw.compiles -/
theorem compiles_any (L : List (List UInt8)) (a0 a1 a2 a3 a4 a5 a7 : Value) (la : Option Addr) (lc : Nat) (w : World) (hw : LWt w) (hrd : RdS w (.slice la L.length lc) L) (hL : L.length ≤ 1048576) (hsl : Sx.sl L ≤ 1048576) :
    Calls Tryz.prog 65 #[.agg #[a0, a1, a2, a3, a4, a5, .slice la L.length lc, a7]] w fun e w' => e = .returned (.bool true) ∧ Below w.heap.size w w' := by
  obtain ⟨i0, hi, hz0, hz1, hz2⟩ := info_parts Tryz.info9
  have HRD := hide hrd
  have HW := hide hw
  have HSL := hide hsl
  clear hrd hw hsl
  have hsz1 : (Tryz.prog.info? 9).map (·.size) = some 1 := by rw [hi]; simp [hz1]
  have hbytes : i0.bytes * (L.length + 8) ≤ 281474976710656 := by rw [hz2]; omega
  obtain ⟨W0, hW0⟩ : ∃ W0, w.alloc (.cells #[a0, a1, a2, a3, a4, a5, .slice la L.length lc, a7] 78) = W0 := ⟨_, rfl⟩
  have hBW : Below w.heap.size w W0 := by rw [← hW0]; exact (Below.refl _ _).alloc (Nat.le_refl _) _
  have hbx : W0.heap[w.heap.size]? = some (.cells #[a0, a1, a2, a3, a4, a5, .slice la L.length lc, a7] 78 (0, 0)) := by rw [← hW0]; exact heap_alloc_new _ _
  have hW0s : W0.heap.size = w.heap.size + 1 := by rw [← hW0, World.size_alloc]
  have hc6 : ∀ W, Below (w.heap.size + 1) W0 W → W.cell? ⟨w.heap.size, 6, none⟩ = some (.slice la L.length lc) := fun W hb => by
    have := (hb.block w.heap.size (Nat.lt_succ_self _)).trans hbx
    simp [World.cell?, this]
  have hRD2 : ∀ W, Below (w.heap.size + 1) W0 W → RdS W (.slice la L.length lc) L := fun W hb => RdS.below HRD.out (hBW.trans (hb.mono (by omega)))
  have hLW2 : ∀ W, Below (w.heap.size + 1) W0 W → LWt W := fun W hb => lwt_stays _ _ HW.out (hBW.trans (hb.mono (by omega)))
  have HC6 := hide hc6
  have HRD2 := hide hRD2
  have HLW2 := hide hLW2
  have HBW := hide hBW
  have HW0S := hide hW0s
  have HW0 := hide hW0
  have hsplice := hide (splice_row L)
  have hmade := hide (made_texts (L.length + 8))
  have hstl : (stV L).length = L.length := by unfold stV; simp
  have h1c : ∀ u ∈ stV L, u.oneCell' = true := by
    intro u hu
    unfold stV at hu
    obtain ⟨x, _, rfl⟩ := List.mem_map.1 hu
    rfl
  have HSTL := hide hstl
  have HMIN : Hid ((stV L).length = Nat.min L.length (L.length + 8)) := hide (by rw [hstl]; simp only [Nat.min_def]; split <;> omega)
  have HFIT : Hid (0 + (stV L).length ≤ (stV (List.replicate (L.length + 8) [])).length) := hide (by rw [hstl]; unfold stV; simp)
  have H1C := hide h1c
  clear hc6 hRD2 hLW2 hBW hbx hW0s hW0 hstl h1c
  go_enter Tryz.func65, Tryz.ntmps65
  go_wp2_with (at_make; go_must (refine wpList_make_full _ rfl _ _ 34 rfl (w.heap.size + 1) 9 i0 (.string ⟨#[]⟩) 1 Tryz.underlying34 hi hz0 hz1 .i64 .i64 _ _ (L.length + 8) rfl rfl (by omega) (by omega) hbytes (by unfold maxLen; omega) (by rw [World.size_alloc]; exact Nat.le_refl _) ?_))
  intro w1 hown1 hgrow1
  rw [hmade.out] at hown1
  have htx := own_whole hown1
  rw [HW0.out] at hgrow1
  have hB1 : Below (w.heap.size + 1) W0 w1 := (Below.refl _ _).grown hgrow1 (by rw [HW0S.out]; exact Nat.le_refl _) (fun r e => by cases e)
  have hc1 := HC6.out w1 hB1
  have hr1 := HRD2.out w1 hB1
  have hsrc : 0 < (stV L).length → (some ⟨w.heap.size + 1, 0, none⟩ : Option Addr) = some ⟨w.heap.size + 1, 0, none⟩ ∧ ∃ ad, la = some ad ∧ ∀ j v, (stV L)[j]? = some v → w1.cell? (ad.add j) = some v := fun h0 => by
    rw [HSTL.out] at h0
    obtain ⟨p', c', e1, e2⟩ := hr1
    obtain ⟨b, off, f1, f2, f3⟩ := e2 0 h0
    have hla : la = p' := by injection e1
    refine ⟨rfl, ⟨b, off, none⟩, by rw [hla, f1], fun j v hj => ?_⟩
    have hjl : j < L.length := by
      have := (List.getElem?_eq_some_iff.1 hj).1
      rw [HSTL.out] at this
      exact this
    obtain ⟨b2, off2, g1, g2, g3⟩ := e2 j hjl
    obtain ⟨rfl, rfl⟩ : b = b2 ∧ off = off2 := by rw [f1] at g1; injection g1 with g1; injection g1 with g1 g3; exact ⟨g1, g3⟩
    unfold stV at hj
    rw [List.getElem?_map, List.getElem?_eq_getElem hjl] at hj
    simp only [Option.map_some, Option.some.injEq] at hj
    rw [Addr.add_lit, ← hj]
    exact g3
  have HSRC := hide hsrc
  have HB1 := hide hB1
  clear hsrc hr1 hown1 hgrow1 hB1
  go_wp2_with (refine wpList_copy_splice rfl _ _ 34 34 rfl 9 Tryz.underlying34 hsz1 _ _ _ _ _ _ rfl rfl (w.heap.size + 1) 0 (stV (List.replicate (L.length + 8) [])) 9 htx (stV L) HMIN.out HSRC.out HFIT.out H1C.out (w.heap.size + 1) W0 HB1.out (Nat.le_refl _) ?_)
  intro w2 htx2 hB2
  have htx3 : TxAt w2 (w.heap.size + 1) (rowX L 0) := by
    unfold TxAt
    rw [← hsplice.out]
    exact htx2.out
  have HTX := hide htx3
  have HB2 := hide hB2
  clear htx2 htx3 hB2 htx hc1 HSRC HB1
  go_wp2
  go_loopw [4] (fun i wr => ∃ k : Nat, i = .int .i64 k ∧ k ≤ 8 ∧ TxAt wr (w.heap.size + 1) (rowX L k) ∧ Below (w.heap.size + 1) W0 wr) (fun i _ => (8 - intOf i).toNat)
  case atStart => exact ⟨0, rfl, by omega, HTX.out, HB2.out⟩
  case round =>
    clear HTX HB2
    obtain ⟨k, rfl, hk, htx, hB⟩ := hrel
    have hc6 := HC6.out _ hB
    by_cases hlt : k < 8
    · have hxs := rowX_set L k hlt
      have hcl := htx.cell (L.length + k) (by rw [rowX_len L k hk]; omega)
      have hst := htx.set (L.length + k) byd
      rw [hxs] at hst
      obtain ⟨x, hx⟩ : ∃ x : Value, Value.string ⟨((rowX L k)[L.length + k]'(by rw [rowX_len L k hk]; omega)).toArray⟩ = x := ⟨_, rfl⟩
      rw [hx] at hcl
      obtain ⟨hcl1, hcl2⟩ := hcl
      have HST := hide hst
      have HB := hide hB
      clear hxs hst hx htx hB
      go_wp2
      exact ⟨⟨k + 1, by go_num, by omega, HST.out, HB.out.setCell (p := ⟨w.heap.size + 1, L.length + k, none⟩) (Nat.le_refl _) _⟩, by simp [intOf]; omega⟩
    · have hk8 : k = 8 := by omega
      subst hk8
      clear hlt hk
      have HPC := hide (pcomp L (.slice (some ⟨w.heap.size + 1, 0, none⟩) L.length (L.length + 8)) _ (HLW2.out _ hB) (htx.rds _ (fun j hj => rowX_low L 8 j hj)) (by omega))
      have htl := htx.lt
      obtain ⟨⟨Sb, m, nn⟩, hCR⟩ : ∃ C, Sx.compR L = C := ⟨_, rfl⟩
      rw [hCR] at HPC
      dsimp only at HPC
      have HCR := hide hCR
      have hws : w.heap.size + 1 ≤ wr.heap.size := by omega
      have HTX := hide htx
      have HB := hide hB
      clear hCR htx hB
      go_wp2_with fail
      refine HPC.out.mono ?_
      rintro e w3 ⟨rfl, hB3⟩
      have hBb := HB.out.trans (hB3.mono hws)
      have htx3 := HTX.out.below hB3 htl
      have hc63 := HC6.out _ hBb
      have HRC := hide (rcomp L (.slice la L.length lc) w3 (HRD2.out _ hBb) (by omega) (by have := HSL.out; omega))
      have hrc := HRC.out
      rw [HCR.out] at hrc
      dsimp only at hrc
      have HRC2 := hide hrc
      have hs3 := hB3.size
      have HBB := hide hBb
      have HTX3 := hide htx3
      clear hrc HRC hB3 hBb htx3 HPC HB HTX hc6
      go_wp2_with fail
      refine HRC2.out.mono ?_
      rintro e w4 ⟨rfl, hB4⟩
      have hs4 := hB4.size
      have hBc := HBB.out.trans (hB4.mono (by omega))
      have htx4 := HTX3.out.below hB4 (by omega)
      have HBC := hide hBc
      have HTX4 := hide htx4
      clear hB4 hBc htx4 HRC2 HBB HTX3 hc63
      obtain ⟨SB, hSB⟩ : ∃ SB : ByteArray, ⟨Sb.toArray⟩ = SB := ⟨_, rfl⟩
      rw [hSB]
      have HSB := hide hSB
      clear hSB
      go_wp2_with fail
      go_loopw [11] (fun i wv => ∃ j : Nat, i = .int .i64 j ∧ j ≤ L.length + 8 ∧ Below w4.heap.size w4 wv) (fun i _ => (L.length + 8 - intOf i).toNat)
      case atStart => exact ⟨0, rfl, by omega, Below.refl _ _⟩
      case round =>
        obtain ⟨j, rfl, hj, hB⟩ := hrel
        rename World => wv
        have hBd := HBC.out.trans (hB.mono (by omega))
        have hc6 := HC6.out _ hBd
        have htx := HTX4.out.below hB (by omega)
        have hs5 := hB.size
        by_cases hlt : j < L.length + 8
        · have hgj := htx.cell j (by rw [rowX_len L 8 (Nat.le_refl _)]; exact hlt)
          have hj8 : j < (rowX L 8).length := by rw [rowX_len L 8 (Nat.le_refl _)]; exact hlt
          by_cases hjl : j < L.length
          · obtain ⟨p', c', e1, e2⟩ := HRD2.out _ hBd
            obtain ⟨b, off, f1, f2, f3⟩ := e2 j hjl
            obtain ⟨rfl, rfl⟩ : la = p' ∧ lc = c' := by injection e1 with e1 _ e3; exact ⟨e1, e3⟩
            subst f1
            have hx : (rowX L 8)[j] = L[j] := by
              have := rowX_low L 8 j hjl
              rw [List.getElem?_eq_getElem hj8] at this
              exact Option.some.inj this
            rw [hx] at hgj
            obtain ⟨X, hX⟩ : ∃ X : ByteArray, ⟨L[j].toArray⟩ = X := ⟨_, rfl⟩
            rw [hX] at hgj f3
            have hxx : (X.toList != X.toList) = false := by simp
            obtain ⟨hg1, hg2⟩ := hgj
            have HB := hide hB
            clear hx hX e1 e2 htx hBd hB
            go_wp2
            exact ⟨⟨j + 1, by go_num, by omega, HB.out⟩, by simp [intOf]; omega⟩
          · have hx : (rowX L 8)[j] = byd := by
              have := rowX_high L j (by omega) hlt
              rw [List.getElem?_eq_getElem hj8] at this
              exact Option.some.inj this
            rw [hx] at hgj
            have hg3 : wv.cell? ⟨w.heap.size + 1, j, none⟩ = some (.string ⟨#[98, 101, 121, 111, 110, 100]⟩) := hgj.1
            have HB := hide hB
            clear hx htx hBd hB hgj
            go_wp2
            exact ⟨⟨j + 1, by go_num, by omega, HB.out⟩, by simp [intOf]; omega⟩
        · have hje : j = L.length + 8 := by omega
          subst hje
          clear hlt hj
          by_cases hL0 : L = []
          · subst hL0
            have HPC := hide (pcomp [] (.slice none 0 0) wv (HLW2.out _ hBd) ⟨none, 0, rfl, fun j hj => absurd hj (Nat.not_lt_zero _)⟩ (by simp))
            have hpc := HPC.out
            rw [HCR.out] at hpc
            dsimp only at hpc
            rw [HSB.out] at hpc
            have HPC2 := hide hpc
            have HBd := hide hBd
            clear hpc HPC hBd htx
            simp only [List.length_nil] at hc6 ⊢
            go_wp2_with fail
            refine HPC2.out.mono ?_
            rintro e w6 ⟨rfl, hB6⟩
            have hBe := hB.trans (hB6.mono hs5)
            have hss : (SB.toList != SB.toList) = false := by simp
            have hse : (SB.toList == SB.toList) = true := by simp
            have hm1 : (m != m) = false := by simp
            have hm2 : (m == m) = true := by simp
            have hn1 : (nn != nn) = false := by simp
            have hn2 : (nn == nn) = true := by simp
            clear hB6 HPC2 HBd hB hc6
            go_wp2_with (go_at_call 99; go_must (refine (num_any _ _).mono ?_; rintro e w' ⟨rfl, rfl⟩))
            go_ret
            exact ⟨rfl, (HBW.out.trans (HBC.out.mono (by omega))).trans (hBe.mono (by omega))⟩
          · have hne : ¬ L.length = 0 := fun h => hL0 (List.eq_nil_of_length_eq_zero h)
            have hnb : ((L.length : Int) == 0) = false := by simp; omega
            have hnb2 : ¬ (L.length : Int) = 0 := by omega
            have hse : (SB.toList == SB.toList) = true := by simp
            have hm2 : (m == m) = true := by simp
            have hn2 : (nn == nn) = true := by simp
            clear hBd htx hL0
            go_wp2_with (go_at_call 99; go_must (refine (num_any _ _).mono ?_; rintro e w' ⟨rfl, rfl⟩))
            go_ret
            exact ⟨rfl, (HBW.out.trans (HBC.out.mono (by omega))).trans (hB.mono (by omega))⟩
end Go.Proofs.YtgohllfpceeboaaGreatDoor
namespace Go.Proofs.YtgohllfpceeboaaGreatDoor
open Go.RowKit
/-- The lists of a step, as they lie. -/
def OpLs (w : World) (o : OpC) : Prop := ∃ L : List (List UInt8), L.length = o.ln ∧ L.length ≤ 1048576 ∧ Sx.sl L ≤ 1048576 ∧ RdS w (.slice o.la o.ln o.lc) L
set_option maxRecDepth 100000 in
set_option maxHeartbeats 1000000 in
/-- (*suffixlaw.World).step, at KCompile -/
theorem step_comp (wp : Value) (o : OpC) (hk : o.k = 3) (w : World) (hw : LWt w) (hl : OpLs w o) :
    Calls Tryz.prog 45 #[wp, .agg o.cells.toArray] w fun e w' => e = .returned (.bool true) ∧ Below w.heap.size w w' := by
  obtain ⟨k, n1, n2, n3, s, t, la, ln, lc, md⟩ := o
  obtain ⟨L, h1, h2, h3, h4⟩ := hl
  dsimp only at h1 h4 hk
  subst h1
  subst hk
  have hcs : (OpC.cells ⟨3, n1, n2, n3, s, t, la, L.length, lc, md⟩).toArray = #[.int .i64 3, .int .i64 n1, .int .i64 n2, .int .i64 n3, .string s, .string t, .slice la L.length lc, .bool md] := rfl
  rw [hcs]
  have hB0 : Below w.heap.size w (w.alloc (.cells #[.int .i64 3, .int .i64 n1, .int .i64 n2, .int .i64 n3, .string s, .string t, .slice la L.length lc, .bool md] 78)) := (Below.refl _ _).alloc (Nat.le_refl _) _
  have HC := hide (compiles_any L (.int .i64 3) (.int .i64 n1) (.int .i64 n2) (.int .i64 n3) (.string s) (.string t) (.bool md) la lc _ (lwt_stays _ _ hw hB0) (RdS.below h4 hB0) h2 h3)
  clear hcs hw h4
  go_enter Tryz.func45, Tryz.ntmps45
  go_wp2_with fail
  refine HC.out.mono ?_
  rintro e w1 ⟨rfl, hB1⟩
  have hBB := hB0.trans (hB1.mono (by simp))
  clear HC hB0 hB1
  go_wp2
  go_ret
  exact ⟨rfl, hBB⟩
theorem OpLs.below {w w' : World} {o : OpC} (h : OpLs w o) (hb : Below w.heap.size w w') : OpLs w' o := by
  obtain ⟨L, h1, h2, h3, h4⟩ := h
  exact ⟨L, h1, h2, h3, RdS.below h4 hb⟩
set_option maxRecDepth 100000 in
set_option maxHeartbeats 1000000 in
/-- suffixlaw.plays, at KCompile alone -/
theorem plays_comp (l : List OpC) (b off cap : Nat) (w : World) (hw : LWt w) (ho : OpsAt w b off l) (hls : ∀ o ∈ l, OpLs w o) (hl : l.length ≤ maxLen) :
    Calls Tryz.prog 15 #[.slice (some ⟨b, off, none⟩) l.length cap, .int .i64 3, .int .i64 3] w fun e w' => e = .returned (.bool true) ∧ Below w.heap.size w w' := by
  unfold maxLen at hl
  have HO := hide ho
  have HW := hide hw
  have HLS := hide hls
  have hbw := ho.1
  clear ho hw hls
  go_enter Tryz.func15, Tryz.ntmps15
  go_wp2
  go_loopw [8] (fun i wr => ∃ j : Nat, i = .int .i64 j ∧ j ≤ l.length ∧ Below w.heap.size w wr) (fun i _ => (l.length - intOf i).toNat)
  case atStart => exact ⟨0, rfl, by omega, (Below.refl _ _).alloc (Nat.le_refl _) _⟩
  case round =>
    obtain ⟨j, rfl, hj, hB⟩ := hrel
    by_cases hlt : j < l.length
    · have hcs : ∀ i v, (l[j].cells)[i]? = some v → wr.cell? ⟨b, off + j * 8 + i, none⟩ = some v := fun i v h => (hB.cell (p := ⟨b, off + j * 8 + i, none⟩) hbw).trans (HO.out.2 j hlt i v h)
      have hol := HLS.out l[j] (List.getElem_mem hlt)
      obtain ⟨o, hoo⟩ : ∃ o, l[j] = o := ⟨_, rfl⟩
      rw [hoo] at hcs hol
      clear hoo
      have hst := fun (w' : World) (hk : o.k = 3) (hb : Below w.heap.size w w') => step_comp (.pointer (some ⟨w.heap.size, 0, none⟩)) o hk w' (lwt_stays _ _ HW.out hb) (hol.below hb)
      have HST := hide hst
      clear hst hol
      obtain ⟨k, n1, n2, n3, s, t, la, ln, lc, md⟩ := o
      have c0 := hcs 0 _ rfl
      have c1 := hcs 1 _ rfl
      have c2 := hcs 2 _ rfl
      have c3 := hcs 3 _ rfl
      have c4 := hcs 4 _ rfl
      have c5 := hcs 5 _ rfl
      have c6 := hcs 6 _ rfl
      have c7 := hcs 7 _ rfl
      rw [Nat.add_zero] at c0
      clear hcs
      have hB2 : Below w.heap.size w (wr.alloc (.cells #[.int .i64 k, .int .i64 n1, .int .i64 n2, .int .i64 n3, .string s, .string t, .slice la ln lc, .bool md] 78)) := hB.alloc hB.size _
      by_cases h1 : 3 ≤ k
      · by_cases h2 : k ≤ 3
        · have hk3 : k = 3 := by omega
          subst hk3
          have HC := hide (HST.out _ rfl hB2)
          have hc : (OpC.cells ⟨3, n1, n2, n3, s, t, la, ln, lc, md⟩).toArray = #[.int .i64 3, .int .i64 n1, .int .i64 n2, .int .i64 n3, .string s, .string t, .slice la ln lc, .bool md] := rfl
          rw [hc] at HC
          clear hc HST
          go_wp2_with fail
          refine HC.out.mono ?_
          rintro e w2 ⟨rfl, hB3⟩
          have hBB := hB2.trans (hB3.mono (by have := hB.size; simp; omega))
          clear HC hB3 hB2
          go_wp2
          exact ⟨⟨j + 1, by go_num, by omega, hBB⟩, by simp [intOf]; omega⟩
        · clear HST
          go_wp2
          exact ⟨⟨j + 1, by go_num, by omega, hB2⟩, by simp [intOf]; omega⟩
      · clear HST
        go_wp2
        exact ⟨⟨j + 1, by go_num, by omega, hB2⟩, by simp [intOf]; omega⟩
    · go_wp2
      go_ret
      exact ⟨rfl, hB⟩
theorem plays_zeroC (a : Option Addr) (cap : Nat) (w : World) : Calls Tryz.prog 15 #[.slice a 0 cap, .int .i64 3, .int .i64 3] w fun e w' => e = .returned (.bool true) ∧ Below w.heap.size w w' := by
  go_enter Tryz.func15, Tryz.ntmps15
  go_wp2
  go_loopw [8] (fun i wr => i = .int .i64 0 ∧ Below w.heap.size w wr) (fun _ _ => 0)
  case atStart => exact ⟨rfl, (Below.refl _ _).alloc (Nat.le_refl _) _⟩
  case round =>
    obtain ⟨rfl, hB⟩ := hrel
    go_wp2
    go_ret
    exact ⟨rfl, hB⟩
/-- suffixlaw.Compiles -/
theorem comp_law (l : List OpC) (b off cap : Nat) (w : World) (hw : LWt w) (ho : OpsAt w b off l) (hls : ∀ o ∈ l, OpLs w o) (hl : l.length ≤ maxLen) :
    Calls Tryz.prog 4 #[.slice (some ⟨b, off, none⟩) l.length cap] w fun e w' => e = .returned (.bool true) ∧ Below w.heap.size w w' := by
  have HC := hide (plays_comp l b off cap w hw ho hls hl)
  clear hw ho hls
  go_enter Tryz.func4, Tryz.ntmps4
  go_wp2_with (go_at_call 15; go_must (refine HC.out.mono ?_; rintro e w' ⟨rfl, hB⟩))
  go_ret
  exact ⟨rfl, hB⟩
theorem comp_law_zero (a : Option Addr) (cap : Nat) (w : World) : Calls Tryz.prog 4 #[.slice a 0 cap] w fun e w' => e = .returned (.bool true) ∧ Below w.heap.size w w' := by
  have HC := hide (plays_zeroC a cap w)
  go_enter Tryz.func4, Tryz.ntmps4
  go_wp2_with (go_at_call 15; go_must (refine HC.out.mono ?_; rintro e w' ⟨rfl, hB⟩))
  go_ret
  exact ⟨rfl, hB⟩
end Go.Proofs.YtgohllfpceeboaaGreatDoor
