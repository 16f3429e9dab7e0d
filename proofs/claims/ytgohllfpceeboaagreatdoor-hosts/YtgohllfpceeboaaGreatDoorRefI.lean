import Derived.Test.YtgohllfpceeboaaGreatDoorRefG
import Derived.Test.YtgohllfpceeboaaGreatDoorRefH
namespace Go.Proofs.YtgohllfpceeboaaGreatDoor
open Go.RowKit

/-- What suffixref.Plain and Shown hand back. -/
def PlnPost (r : List UInt8 × Int) (B : Nat) (w : World) (e : Ending) (w' : World) : Prop :=
  Below B w w' ∧ e = .returned (.tuple #[.string ⟨r.1.toArray⟩, .int .i64 r.2])

set_option maxRecDepth 100000 in
set_option maxHeartbeats 1000000 in
/-- suffixref.Plain -/
theorem rplain_any (s : ByteArray) (w : World) : Calls Tryz.prog 98 #[.string s] w (PlnPost (Sx.plainR s.data.toList) w.heap.size w) := by
  go_enter Tryz.func98, Tryz.ntmps98
  go_wp2_with fail
  refine (rhost_any s _).mono ?_
  rintro e w1 ⟨hB, v, rfl, ho, h6, hx⟩
  have HD := hide (rdot_any _ _ v w1 (by omega) (fun x h => by have := hx x h; omega) ho)
  clear ho h6 hx
  go_wp2_with (go_at_call 148; go_must (refine HD.out.mono ?_; rintro e w2 ⟨rfl, rfl⟩))
  go_ret2
  exact ⟨hB, rfl⟩

theorem shown_take (h : List (List UInt8)) (k : Nat) (hk : k < h.length) (x : List UInt8) (hx : h[k] = x) (y : List UInt8) (hy : Sx.shownOf x = y) : (h.take (k + 1)).map Sx.shownOf = (h.take k).map Sx.shownOf ++ [y] := by
  rw [List.take_succ_eq_append_getElem hk, List.map_append, hx]; simp [hy]

set_option maxRecDepth 100000 in
set_option maxHeartbeats 2000000 in
/-- suffixref.Shown -/
theorem rshown_any (s : ByteArray) (w : World) : Calls Tryz.prog 100 #[.string s] w (PlnPost (Sx.shownR s.data.toList) w.heap.size w) := by
  obtain ⟨i0, hi, hz0, hz1, hz2⟩ := info_parts Tryz.info9
  go_enter Tryz.func100, Tryz.ntmps100
  go_wp2_with fail
  refine (rhost_any s _).mono ?_
  rintro e w1 ⟨hB1, v, rfl, ho, h6, hx⟩
  have hres : Sx.shownR s.data.toList = (Sx.dotted ((Sx.host s.data.toList).1.map Sx.shownOf), (Sx.host s.data.toList).2) := rfl
  obtain ⟨h, hh⟩ : ∃ h, (Sx.host s.data.toList).1 = h := ⟨_, rfl⟩
  obtain ⟨n, hn⟩ : ∃ n, (Sx.host s.data.toList).2 = n := ⟨_, rfl⟩
  rw [hh, hn] at hres
  rw [hh] at ho h6 hx
  rw [hn]
  have HRES := hide hres
  have HX := hide hx
  have hsz1 := hB1.size
  clear hres hh hn hx
  have fin : ∀ (m : Value) (w2 : World), w2.ownsRow w1.heap.size 9 1 m h.length (stV (h.map Sx.shownOf)) → (∀ x ∈ h.map Sx.shownOf, x.length ≤ 1000) → Calls Tryz.prog 148 #[m] w2 fun e w' => e = .returned (.string ⟨(Sx.dotted (h.map Sx.shownOf)).toArray⟩) ∧ w' = w2 := by
    intro m w2 hm hxx
    exact rdot_any (h.map Sx.shownOf) _ m w2 (by simp; omega) hxx (by rw [List.length_map]; exact hm)
  have FIN := hide fin
  clear fin
  rcases ho.2 with ⟨rfl, h0⟩ | ⟨g, cap, cur, rfl, hg1, hg2, hc1, hc2, hc3, hc4⟩
  · have he : h = [] := List.eq_nil_of_length_eq_zero h0
    have HF := hide (FIN.out (.slice none 0 0) w1 (by rw [he]; exact World.ownsRow_nil _ _ 9 1) (by rw [he]; intro x hx; simp at hx))
    clear h0 he ho
    go_wp2
    go_loop [6, 7] (fun x i => x = .slice none 0 0 ∧ i = .int .i64 0) (fun _ _ => 0)
    case atStart => exact ⟨rfl, rfl⟩
    case round =>
      obtain ⟨rfl, rfl⟩ := hrel
      go_wp2_with (go_at_call 148; go_must (refine HF.out.mono ?_; rintro e w2 ⟨rfl, rfl⟩))
      go_ret2
      exact ⟨hB1, by rw [HRES.out]; rfl⟩
  · have HO := hide ho
    have hgl : g < w1.heap.size := (ho.lt g rfl).2
    clear ho hg2 hc3 hc4
    go_wp2
    go_loopw [6, 7] (fun x i wr => ∃ k : Nat, i = .int .i64 k ∧ k ≤ h.length ∧ wr.ownsRow w1.heap.size 9 1 x k (stV ((h.take k).map Sx.shownOf)) ∧ (∀ y ∈ (h.take k).map Sx.shownOf, y.length ≤ 1000) ∧ Below w1.heap.size w1 wr) (fun _ i _ => (h.length - intOf i).toNat)
    case atStart => exact ⟨0, rfl, by omega, World.ownsRow_nil _ _ 9 1, fun y hy => by simp at hy, Below.refl _ _⟩
    case round =>
      obtain ⟨k, rfl, hk, hown, hys, hB⟩ := hrel
      have HYS := hide hys
      have hsz := hB.size
      clear hys
      by_cases hlt : k < h.length
      · have hcell : wr.cell? ⟨g, k, none⟩ = some (.string ⟨h[k].toArray⟩) := own_strG (own_later HO.out hB) k hlt
        have hx20 := HX.out h[k] (List.getElem_mem hlt)
        obtain ⟨x, hxe⟩ : ∃ x, h[k] = x := ⟨_, rfl⟩
        rw [hxe] at hcell hx20
        have HXE := hide hxe
        obtain ⟨t, ht⟩ : ∃ t : ByteArray, (⟨x.toArray⟩ : ByteArray) = t := ⟨_, rfl⟩
        have htx : x = t.data.toList := by rw [← ht]
        have ht20 : t.size ≤ 20 := by rw [← ba_len, ← htx]; exact hx20
        rw [ht] at hcell
        have HTX := hide htx
        clear hxe ht htx
        have next : ∀ (y : List UInt8), Sx.shownOf x = y → y.length ≤ 1000 → (∀ z ∈ (h.take (k + 1)).map Sx.shownOf, z.length ≤ 1000) ∧ stV ((h.take (k + 1)).map Sx.shownOf) = stV ((h.take k).map Sx.shownOf) ++ [.string ⟨y.toArray⟩] := by
          intro y hy hyl
          rw [shown_take h k hlt x HXE.out y hy, stV_app]
          refine ⟨?_, rfl⟩
          intro z hz
          rcases List.mem_append.1 hz with hz | hz
          · exact HYS.out z hz
          · rw [List.mem_singleton] at hz; rw [hz]; exact hyl
        have NEXT := hide next
        clear next
        by_cases e4 : 4 < t.size
        · cases e6 : ((t.extract 0 4).toList == [120, 110, 45, 45]) with
          | true =>
            have hso : Sx.shownOf x = Sx.text ((Sx.dec (t.data.toList.drop 4)).getD []) := by
              unfold Sx.shownOf
              have a1 : decide (4 < x.length) = true := by rw [HTX.out, ba_len]; simp; omega
              have a2 : (x.take 4 == Sx.xn) = true := by rw [HTX.out, ← ba_take, ← ByteArray.toList_eq]; exact e6
              rw [a1, a2, HTX.out]; rfl
            have HSO := hide hso
            clear hso
            go_wp2_with fail
            refine (rdec_any (t.extract 4 t.size) _ (by rw [← ba_len, ba_drop]; simp; omega)).mono ?_
            rw [ba_drop]
            rintro e w2 ⟨hB5, (⟨hd, rfl⟩ | ⟨l2, v2, hd, hl20, hl2h, hl2v, rfl, hl2o⟩)⟩
            · obtain ⟨hn1, hn2⟩ := NEXT.out [] (by rw [HSO.out, hd]; rfl) (by simp)
              have HN2 := hide hn2
              have HN1 := hide hn1
              clear hd hn1 hn2
              have hown2 := own_later hown hB5
              have hB3 := hB.trans (hB5.mono hsz)
              have hsz3 := hB3.size
              go_wp2_with (first | (go_at_call 150; go_must (refine (rtext_nil _).mono ?_; rintro e w3 ⟨rfl, rfl⟩)) | (at_builtin; go_must (refine wpList_append_lies _ rfl _ _ _ rfl w1.heap.size 9 i0 (.string ⟨#[]⟩) 1 16 Tryz.underlying34 hi hz0 hz1 hz2 rfl (by decide) _ _ _ rfl (hown2.alloc _) ⟨_, 0, none⟩ 1 1 [.string ⟨#[]⟩] rfl rfl (cell_one_new _ _ _) (by simp [Value.oneCell']) (by omega) (by unfold maxLen; omega) (by omega) (by simp; omega) _ rfl ?_; intro g2 cap2 w4 hown3 hgrow hat hlt1)))
              exact ⟨⟨k + 1, by go_num, by omega, by rw [HN2.out]; exact hown3, HN1.out, below_app hB3 hsz3 hown2 hgrow⟩, by simp [intOf]; omega⟩
            · have htl := Sx.text_len l2
              obtain ⟨hn1, hn2⟩ := NEXT.out (Sx.text l2) (by rw [HSO.out, hd]; rfl) (by omega)
              have HN2 := hide hn2
              have HN1 := hide hn1
              obtain ⟨gd, capd, rfl, hgd1, hgd2⟩ := hl2o.form hl20
              obtain ⟨_, _, _, _, _, hc4, hcl⟩ := own_cells hl2o
              have htxt := rtext_some l2 gd 0 capd w2 (by omega) hc4 (fun j hj => by
                have := hcl j (by simp [inV]; exact hj)
                rw [Nat.zero_add, this]; simp [inV]) hl2v
              have HTXT := hide htxt
              have HL2 := hide hl2v
              clear hd hn1 hn2 htxt hcl hl2v hl2o
              have hown2 := own_later hown hB5
              have hB3 := hB.trans (hB5.mono hsz)
              have hsz3 := hB3.size
              go_wp2_with fail
              refine HTXT.out.mono ?_
              rintro e w3 ⟨rfl, hB6⟩
              have hown4 := own_later hown2 hB6
              have hB7 := hB3.trans (hB6.mono hsz3)
              have hsz7 := hB7.size
              go_wp2_with (at_builtin; go_must (refine wpList_append_lies _ rfl _ _ _ rfl w1.heap.size 9 i0 (.string ⟨#[]⟩) 1 16 Tryz.underlying34 hi hz0 hz1 hz2 rfl (by decide) _ _ _ rfl (hown4.alloc _) ⟨_, 0, none⟩ 1 1 [.string ⟨(Sx.text l2).toArray⟩] rfl rfl (cell_one_new _ _ _) (by simp [Value.oneCell']) (by omega) (by unfold maxLen; omega) (by omega) (by simp; omega) _ rfl ?_; intro g2 cap2 w4 hown3 hgrow hat hlt1))
              exact ⟨⟨k + 1, by go_num, by omega, by rw [HN2.out]; exact hown3, HN1.out, below_app hB7 hsz7 hown4 hgrow⟩, by simp [intOf]; omega⟩
          | false =>
            have hso : Sx.shownOf x = t.data.toList := by
              unfold Sx.shownOf
              have a2 : (x.take 4 == Sx.xn) = false := by rw [HTX.out, ← ba_take, ← ByteArray.toList_eq]; exact e6
              rw [a2, HTX.out]; simp
            obtain ⟨hn1, hn2⟩ := NEXT.out _ hso (by rw [ba_len]; omega)
            have HN2 := hide hn2
            have HN1 := hide hn1
            clear hso hn1 hn2
            go_wp2_with (at_builtin; go_must (refine wpList_append_lies _ rfl _ _ _ rfl w1.heap.size 9 i0 (.string ⟨#[]⟩) 1 16 Tryz.underlying34 hi hz0 hz1 hz2 rfl (by decide) _ _ _ rfl (hown.alloc _) ⟨_, 0, none⟩ 1 1 [.string t] rfl rfl (cell_one_new _ _ _) (by simp [Value.oneCell']) (by omega) (by unfold maxLen; omega) (by omega) (by simp; omega) _ rfl ?_; intro g2 cap2 w4 hown3 hgrow hat hlt1))
            exact ⟨⟨k + 1, by go_num, by omega, by rw [HN2.out]; exact hown3, HN1.out, below_app hB hsz hown hgrow⟩, by simp [intOf]; omega⟩
        · have hso : Sx.shownOf x = t.data.toList := by
            unfold Sx.shownOf
            have a1 : decide (4 < x.length) = false := by rw [HTX.out, ba_len]; simp; omega
            rw [a1, HTX.out]; simp
          obtain ⟨hn1, hn2⟩ := NEXT.out _ hso (by rw [ba_len]; omega)
          have HN2 := hide hn2
          have HN1 := hide hn1
          clear hso hn1 hn2
          go_wp2_with (at_builtin; go_must (refine wpList_append_lies _ rfl _ _ _ rfl w1.heap.size 9 i0 (.string ⟨#[]⟩) 1 16 Tryz.underlying34 hi hz0 hz1 hz2 rfl (by decide) _ _ _ rfl (hown.alloc _) ⟨_, 0, none⟩ 1 1 [.string t] rfl rfl (cell_one_new _ _ _) (by simp [Value.oneCell']) (by omega) (by unfold maxLen; omega) (by omega) (by simp; omega) _ rfl ?_; intro g2 cap2 w4 hown3 hgrow hat hlt1))
          exact ⟨⟨k + 1, by go_num, by omega, by rw [HN2.out]; exact hown3, HN1.out, below_app hB hsz hown hgrow⟩, by simp [intOf]; omega⟩
      · have hkl : k = h.length := by omega
        subst hkl
        rw [List.take_length] at hown HYS
        have HF := hide (FIN.out _ wr hown HYS.out)
        clear hown HYS
        go_wp2_with (go_at_call 148; go_must (refine HF.out.mono ?_; rintro e w2 ⟨rfl, rfl⟩))
        go_ret2
        exact ⟨hB1.trans (hB.mono hsz1), by rw [HRES.out]; rfl⟩
end Go.Proofs.YtgohllfpceeboaaGreatDoor
