import Derived.Test.YtgohllfpceeboaaGreatDoorRefC
import Derived.Test.YtgohllfpceeboaaGreatDoorRefF
import Derived.Test.YtgohllfpceeboaaGreatDoorGaa
import Derived.Deep.Onto
import Derived.Test.YtgohllfpceeboaaGreatDoorGah
import Derived.Test.YtgohllfpceeboaaGreatDoorGaj
namespace Go.Proofs.YtgohllfpceeboaaGreatDoor
open Go.RowKit

/-- What suffixref.Host hands back. -/
def HostPost (s : List UInt8) (B : Nat) (w : World) (e : Ending) (w' : World) : Prop :=
  Below B w w' ∧ ∃ v, e = .returned (.tuple #[v, .int .i64 (Sx.host s).2]) ∧ w'.ownsRow B 9 1 v (Sx.host s).1.length (stV (Sx.host s).1) ∧ (Sx.host s).1.length ≤ 6 ∧ (∀ x ∈ (Sx.host s).1, x.length ≤ 20)

theorem host_none {s : List UInt8} (hs : ¬ 60 < s.length) (h : Sx.letters s = none) : Sx.host s = ([], 2) := by unfold Sx.host; rw [if_neg hs, h]
theorem host_bad {s : List UInt8} {l : List Int} (hs : ¬ 60 < s.length) (h : Sx.letters s = some l) (hg : Sx.hostGo l [] = none) : Sx.host s = ([], 2) := by unfold Sx.host; rw [if_neg hs, h]; simp only [hg]
theorem host_end {s : List UInt8} {l : List Int} {h : List (List UInt8)} (hs : ¬ 60 < s.length) (hl : Sx.letters s = some l) (hg : Sx.hostGo l [] = some h) : Sx.host s = Sx.hostEnd h := by unfold Sx.host; rw [if_neg hs, hl]; simp only [hg]
theorem post_fail {s : List UInt8} {B : Nat} {w w' : World} {n : Int} (h : Sx.host s = ([], n)) (hb : Below B w w') (e : Ending) (he : e = .returned (.tuple #[.slice none 0 0, .int .i64 n])) : HostPost s B w e w' := by
  refine ⟨hb, .slice none 0 0, ?_, ?_, ?_, ?_⟩
  · rw [h, he]
  · rw [h]; exact World.ownsRow_nil _ _ 9 1
  · rw [h]; simp
  · rw [h]; intro x hx; simp at hx
theorem let_len : ∀ (f : Nat) (s : List UInt8) (l : List Int), Sx.letF f s = some l → l.length ≤ s.length ∧ ∀ c ∈ l, 0 ≤ c ∧ c ≤ 1114111 := by
  intro f
  induction f with
  | zero =>
    intro s l h
    cases s with
    | nil => simp only [Sx.letF, Option.some.injEq] at h; subst h; simp
    | cons x s => simp [Sx.letF] at h
  | succ f ih =>
    intro s l h
    cases s with
    | nil => simp only [Sx.letF, Option.some.injEq] at h; subst h; simp
    | cons x s =>
      simp only [Sx.letF] at h
      cases ho : Sx.one (x :: s) with
      | none => rw [ho] at h; simp at h
      | some p =>
        obtain ⟨c, r⟩ := p
        rw [ho] at h
        simp only [Option.map_eq_some_iff] at h
        obtain ⟨l2, h2, rfl⟩ := h
        have h3 := ih r l2 h2
        have h4 := Sx.one_len x s c r ho
        refine ⟨by simp only [List.length_cons]; omega, ?_⟩
        intro y hy
        rcases List.mem_cons.1 hy with rfl | hy
        · simp only [Sx.one] at ho
          split at ho
          · cases ho
          · rename_i m c0 least hlead
            unfold Sx.rest at ho
            split at ho
            · cases ho
            · rename_i c' s' hcf
              split at ho
              · cases ho
              · rename_i hb
                simp only [Option.some.injEq, Prod.mk.injEq] at ho
                have hlo : 0 ≤ least := by
                  unfold Sx.lead at hlead
                  repeat' split at hlead
                  all_goals (simp only [Option.some.injEq, Prod.mk.injEq, reduceCtorEq] at hlead; try omega)
                omega
        · exact h3.2 y hy

theorem hostGo_ne : ∀ (l cur : List Int) (h : List (List UInt8)), Sx.hostGo l cur = some h → 0 < h.length := by
  intro l
  induction l with
  | nil =>
    intro cur h hh
    simp only [Sx.hostGo] at hh
    split at hh
    · cases hh
    · cases hh; simp
  | cons c r ih =>
    intro cur h hh
    simp only [Sx.hostGo] at hh
    split at hh
    · split at hh
      · cases hh
      · rw [Option.map_eq_some_iff] at hh
        obtain ⟨y, _, rfl⟩ := hh
        simp
    · exact ih _ _ hh
theorem digs_more (l : List UInt8) (j : Nat) (h : j < l.length) : Sx.digs (l.take (j + 1)) = (Sx.digs (l.take j) && (decide (48 ≤ l[j].toNat) && decide (l[j].toNat ≤ 57))) := by
  unfold Sx.digs
  rw [List.take_succ_eq_append_getElem h, List.all_append]; simp
theorem own_str {w : World} {B b cap : Nat} {h : List (List UInt8)} (ho : w.ownsRow B 9 1 (.slice (some ⟨b, 0, none⟩) h.length cap) h.length (stV h)) (k : Nat) (hk : k < h.length) : w.cell? ⟨b, k, none⟩ = some (.string ⟨(h.getD k []).toArray⟩) := by
  obtain ⟨_, _, _, _, _, _, hc⟩ := own_cells ho
  rw [hc k (by simp [stV]; exact hk)]
  simp [stV, List.getElem?_eq_getElem hk]

set_option maxRecDepth 100000 in
set_option maxHeartbeats 2000000 in
theorem rhost_any (s : ByteArray) (w : World) : Calls Tryz.prog 147 #[.string s] w (HostPost s.data.toList w.heap.size w) := by
  obtain ⟨i0, hi, hz0, hz1, hz2⟩ := info_parts Tryz.info9
  by_cases hs : 60 < s.size
  · have hh : Sx.host s.data.toList = ([], 1) := by unfold Sx.host; rw [ba_len, if_pos hs]
    have HH := hide hh
    clear hh
    go_enter Tryz.func147, Tryz.ntmps147
    go_wp2
    go_ret2
    exact post_fail HH.out (Below.refl _ _) _ rfl
  · have hsl : ¬ 60 < s.data.toList.length := by rw [ba_len]; exact hs
    have HSL := hide hsl
    clear hsl
    go_enter Tryz.func147, Tryz.ntmps147
    go_wp2_with fail
    refine (rlet_any s _ (by omega)).mono ?_
    rintro e w1 ⟨hB1, (⟨hn, rfl⟩ | ⟨l, v, hn, rfl, hown⟩)⟩
    · have HN := hide hn
      clear hn
      go_wp2
      go_ret2
      exact post_fail (host_none HSL.out HN.out) hB1 _ rfl
    · have HN := hide hn
      have hll := let_len _ _ _ hn
      rw [ba_len] at hll
      obtain ⟨hll1, hll2⟩ := hll
      have HLV := hide hll2
      have hsz1 := hB1.size
      clear hn hll2
      rcases hown.2 with ⟨rfl, hl0⟩ | ⟨g, cap, cur, rfl, hg1, hg2, hc1, hc2, hc3, hc4⟩
      · have hl1 : l = [] := List.eq_nil_of_length_eq_zero hl0
        have HL1 := hide hl1
        clear hl1 hl0 hown
        go_wp2
        go_loopw [6, 7, 8, 9] (fun x f a i wr => x = .slice none 0 0 ∧ f = .int .i64 0 ∧ a = .int .i64 0 ∧ i = .int .i64 0 ∧ wr = w1) (fun _ _ _ _ _ => 0)
        case atStart => exact ⟨rfl, rfl, rfl, rfl, rfl⟩
        case round =>
          obtain ⟨rfl, rfl, rfl, rfl, rfl⟩ := hrel
          go_wp2_with fail
          refine (rlab_nil _ _ _).mono ?_
          rintro e w2 ⟨hB2, (⟨hn2, rfl⟩ | ⟨x, hn2, _, rfl⟩)⟩
          · clear hn2
            go_wp2
            go_ret2
            exact post_fail (host_bad HSL.out HN.out (by rw [HL1.out]; simp only [Sx.hostGo, Sx.label_nil])) (hB1.trans (hB2.mono hsz1)) _ rfl
          · rw [Sx.label_nil] at hn2; cases hn2
      · have hgl : g < w1.heap.size := (hown.lt g rfl).2
        have HOWN := hide hown
        clear hown hg2 hc3 hc4
        go_wp2
        go_loopw [6, 7, 8, 9] (fun hv fv av iv wr => ∃ (k f : Nat) (pre : List (List UInt8)), fv = .int .i64 f ∧ av = .int .i64 (Sx.allLen pre) ∧ iv = .int .i64 k ∧ k ≤ l.length + 1 ∧ f ≤ k ∧ pre.length ≤ k ∧ Sx.allLen pre ≤ 21 * k ∧ (∀ x ∈ pre, x.length ≤ 20) ∧ Sx.HostAt l k f pre ∧ wr.ownsRow w1.heap.size 9 1 hv pre.length (stV pre) ∧ Below w1.heap.size w1 wr) (fun _ _ _ iv _ => (l.length + 1 - intOf iv).toNat)
        case atStart => exact ⟨0, 0, [], rfl, rfl, rfl, by omega, by omega, by simp, by simp [Sx.allLen], fun x hx => by simp at hx, Sx.HostAt.zero l, World.ownsRow_nil _ _ 9 1, Below.refl _ _⟩
        case round =>
          obtain ⟨k, f, pre, rfl, rfl, rfl, hk, hfk, hpk, hal, hxs, hat, hownh, hB⟩ := hrel
          have HAT := hide hat
          have HXS := hide hxs
          have hszr := hB.size
          clear hat hxs
          by_cases hke : k ≤ l.length
          · have hownl := own_later HOWN.out hB
            by_cases hkl : k < l.length
            · have hcell : wr.cell? ⟨g, k, none⟩ = some (.int .i64 l[k]) := by
                have := (own_cells hownl).2.2.2.2.2.2 k (by simp [inV]; exact hkl)
                rw [this]; simp [inV]
              obtain ⟨c, hc⟩ : ∃ c, l[k] = c := ⟨_, rfl⟩
              rw [hc] at hcell
              have HC := hide hc
              clear hc
              by_cases h46 : c = 46
              · subst h46
                have hdot : Hid (∀ h : k < l.length, l[k] = 46) := hide (fun _ => HC.out)
                have hbl := Sx.between_len l f k hfk hke
                have HBL := hide hbl
                clear hbl
                by_cases hfe : f < k
                · have hrd : ∀ j (h : j < (Sx.between l f k).length), wr.cell? ⟨g, f + j, none⟩ = some (.int .i64 (Sx.between l f k)[j]) := by
                    intro j h
                    have hb2 := HBL.out
                    rw [Sx.between_get l f k j hke h]
                    have := (own_cells hownl).2.2.2.2.2.2 (f + j) (by simp [inV]; omega)
                    rw [this]; simp [inV]
                  have hlab := rlab_some (Sx.between l f k) g f (cap - f) wr (by rw [HBL.out]; omega) (by rw [HBL.out]; omega) (by omega) hrd (fun c hc => HLV.out c (List.mem_of_mem_take (List.mem_of_mem_drop hc)))
                  rw [HBL.out] at hlab
                  have HLAB := hide hlab
                  have hcf : ¬ cap = f := by omega
                  clear hrd hlab hownl
                  go_wp2_with fail
                  refine HLAB.out.mono ?_
                  rintro e w2 ⟨hB2, (⟨hn2, rfl⟩ | ⟨x, hn2, hx20, rfl⟩)⟩
                  all_goals
                    have HN2 := hide hn2
                    clear hn2
                  · go_wp2
                    go_ret2
                    exact post_fail (host_bad HSL.out HN.out (HAT.out.bad hke hdot.out HN2.out)) (hB1.trans ((hB.trans (hB2.mono hszr)).mono hsz1)) _ rfl
                  · have hown2 := own_later hownh hB2
                    have hB3 := hB.trans (hB2.mono hszr)
                    have hsz3 := hB3.size
                    go_wp2_with (at_builtin; go_must (refine wpList_append_lies _ rfl _ _ _ rfl w1.heap.size 9 i0 (.string ⟨#[]⟩) 1 16 Tryz.underlying34 hi hz0 hz1 hz2 rfl (by decide) _ _ _ rfl (hown2.alloc _) ⟨w2.heap.size, 0, none⟩ 1 1 [.string ⟨x.toArray⟩] rfl rfl (cell_one_new _ _ _) (by simp [Value.oneCell']) (by omega) (by unfold maxLen; omega) (by omega) (by simp; omega) _ rfl ?_; intro g2 cap2 w3 hown3 hgrow hat hlt1))
                    refine ⟨⟨k + 1, k + 1, pre ++ [x], by go_num, by rw [Sx.allLen_snoc]; go_num, by go_num, by omega, by omega, by simp; omega, by rw [Sx.allLen_snoc]; omega, ?_, HAT.out.more hke hdot.out HN2.out, by rw [stV_app, List.length_append]; exact hown3, below_app hB3 hsz3 hown2 hgrow⟩, by simp [intOf]; omega⟩
                    intro y hy
                    rcases List.mem_append.1 hy with hy | hy
                    · exact HXS.out y hy
                    · rw [List.mem_singleton] at hy; rw [hy]; exact hx20
                · have hfe2 : f = k := by omega
                  subst hfe2
                  clear hownl
                  by_cases hcf : cap = f
                  all_goals
                    go_wp2_with fail
                    refine (rlab_nil _ _ _).mono ?_
                    rintro e w2 ⟨hB2, (⟨hn2, rfl⟩ | ⟨x, hn2, _, rfl⟩)⟩
                    · clear hn2
                      go_wp2
                      go_ret2
                      exact post_fail (host_bad HSL.out HN.out (HAT.out.bad hke hdot.out (by rw [Sx.between_same]; exact Sx.label_nil))) (hB1.trans ((hB.trans (hB2.mono hszr)).mono hsz1)) _ rfl
                    · rw [Sx.label_nil] at hn2; cases hn2
              · have h46' : (c != 46) = true := by rw [bne_iff_ne]; exact h46
                have H46 := hide h46
                clear h46 hownl
                go_wp2
                exact ⟨⟨k + 1, f, pre, rfl, rfl, by go_num, by omega, by omega, by omega, by omega, HXS.out, HAT.out.skip hkl (by rw [HC.out]; exact H46.out), hownh, hB⟩, by simp [intOf]; omega⟩
            · have hdot : Hid (∀ h : k < l.length, l[k] = 46) := hide (fun h => absurd h hkl)
              have hbl := Sx.between_len l f k hfk hke
              have HBL := hide hbl
              clear hbl
              by_cases hfe : f < k
              · have hrd : ∀ j (h : j < (Sx.between l f k).length), wr.cell? ⟨g, f + j, none⟩ = some (.int .i64 (Sx.between l f k)[j]) := by
                  intro j h
                  have hb2 := HBL.out
                  rw [Sx.between_get l f k j hke h]
                  have := (own_cells hownl).2.2.2.2.2.2 (f + j) (by simp [inV]; omega)
                  rw [this]; simp [inV]
                have hlab := rlab_some (Sx.between l f k) g f (cap - f) wr (by rw [HBL.out]; omega) (by rw [HBL.out]; omega) (by omega) hrd (fun c hc => HLV.out c (List.mem_of_mem_take (List.mem_of_mem_drop hc)))
                rw [HBL.out] at hlab
                have HLAB := hide hlab
                have hcf : ¬ cap = f := by omega
                clear hrd hlab hownl
                go_wp2_with fail
                refine HLAB.out.mono ?_
                rintro e w2 ⟨hB2, (⟨hn2, rfl⟩ | ⟨x, hn2, hx20, rfl⟩)⟩
                all_goals
                  have HN2 := hide hn2
                  clear hn2
                · go_wp2
                  go_ret2
                  exact post_fail (host_bad HSL.out HN.out (HAT.out.bad hke hdot.out HN2.out)) (hB1.trans ((hB.trans (hB2.mono hszr)).mono hsz1)) _ rfl
                · have hown2 := own_later hownh hB2
                  have hB3 := hB.trans (hB2.mono hszr)
                  have hsz3 := hB3.size
                  go_wp2_with (at_builtin; go_must (refine wpList_append_lies _ rfl _ _ _ rfl w1.heap.size 9 i0 (.string ⟨#[]⟩) 1 16 Tryz.underlying34 hi hz0 hz1 hz2 rfl (by decide) _ _ _ rfl (hown2.alloc _) ⟨w2.heap.size, 0, none⟩ 1 1 [.string ⟨x.toArray⟩] rfl rfl (cell_one_new _ _ _) (by simp [Value.oneCell']) (by omega) (by unfold maxLen; omega) (by omega) (by simp; omega) _ rfl ?_; intro g2 cap2 w3 hown3 hgrow hat hlt1))
                  refine ⟨⟨k + 1, k + 1, pre ++ [x], by go_num, by rw [Sx.allLen_snoc]; go_num, by go_num, by omega, by omega, by simp; omega, by rw [Sx.allLen_snoc]; omega, ?_, HAT.out.more hke hdot.out HN2.out, by rw [stV_app, List.length_append]; exact hown3, below_app hB3 hsz3 hown2 hgrow⟩, by simp [intOf]; omega⟩
                  intro y hy
                  rcases List.mem_append.1 hy with hy | hy
                  · exact HXS.out y hy
                  · rw [List.mem_singleton] at hy; rw [hy]; exact hx20
              · have hfe2 : f = k := by omega
                subst hfe2
                clear hownl
                by_cases hcf : cap = f
                all_goals
                  go_wp2_with fail
                  refine (rlab_nil _ _ _).mono ?_
                  rintro e w2 ⟨hB2, (⟨hn2, rfl⟩ | ⟨x, hn2, _, rfl⟩)⟩
                  · clear hn2
                    go_wp2
                    go_ret2
                    exact post_fail (host_bad HSL.out HN.out (HAT.out.bad hke hdot.out (by rw [Sx.between_same]; exact Sx.label_nil))) (hB1.trans ((hB.trans (hB2.mono hszr)).mono hsz1)) _ rfl
                  · rw [Sx.label_nil] at hn2; cases hn2
          · obtain ⟨hgo, _⟩ := HAT.out.done (by omega)
            have hpos := hostGo_ne _ _ _ hgo
            have hend := host_end HSL.out HN.out hgo
            have HEND := hide hend
            obtain ⟨gh, caph, rfl, hgh1, hgh2⟩ := hownh.form hpos
            have hcell := own_str hownh (pre.length - 1) (by omega)
            obtain ⟨t, ht⟩ : ∃ t : ByteArray, (⟨(pre.getD (pre.length - 1) []).toArray⟩ : ByteArray) = t := ⟨_, rfl⟩
            have htl : pre.getD (pre.length - 1) [] = t.data.toList := by rw [← ht]
            rw [ht] at hcell
            have hdig : Sx.digs (pre.getD (pre.length - 1) []) = Sx.digs t.data.toList := by rw [htl]
            have HDIG := hide hdig
            have ht20 : t.size ≤ 20 := by
              rw [← ba_len, ← htl]
              exact HXS.out _ (by rw [List.getD_eq_getElem?_getD, List.getElem?_eq_getElem (by omega), Option.getD_some]; exact List.getElem_mem _)
            have hfin1 : Hid (Sx.digs t.data.toList = true ∨ 6 < pre.length ∨ 61 < Sx.allLen pre → Sx.host s.data.toList = ([], 2)) := hide (fun h => by
              rw [hend]; unfold Sx.hostEnd; rw [hdig, if_pos]
              rcases h with h | h | h <;> simp [h])
            have hfin2 : Hid (Sx.digs t.data.toList = false → ¬ 6 < pre.length → ¬ 61 < Sx.allLen pre → Sx.host s.data.toList = (pre, 0)) := hide (fun h1 h2 h3 => by
              rw [hend]; unfold Sx.hostEnd; rw [hdig, if_neg]
              simp [h1]; omega)
            have hBB := hB1.trans (hB.mono hsz1)
            clear hgo hend ht htl hdig
            go_wp2
            go_loop [13, 14] (fun o i => ∃ (j : Nat) (b : Bool), o = .bool b ∧ i = .int .i64 j ∧ j ≤ t.size ∧ Sx.digs (t.data.toList.take j) = b) (fun _ i => (t.size - intOf i).toNat)
            case atStart => exact ⟨0, true, rfl, rfl, by omega, rfl⟩
            case round =>
              obtain ⟨j, b, rfl, rfl, hj, hdj⟩ := hrel
              have HDJ := hide hdj
              clear hdj
              by_cases hjl : j < t.size
              · have hmo := digs_more t.data.toList j (by rw [ba_len]; exact hjl)
                rw [byte_at t j hjl, HDJ.out] at hmo
                have HMO := hide hmo
                clear hmo
                cases b with
                | false =>
                  go_wp2
                  exact ⟨⟨j + 1, false, rfl, by go_num, by omega, by rw [HMO.out]; rfl⟩, by simp [intOf]; omega⟩
                | true =>
                  have hub := t[j].toNat_lt
                  by_cases q1 : 48 ≤ t[j].toNat
                  · by_cases q2 : t[j].toNat ≤ 57
                    · have d1 : decide (48 ≤ (t[j].toNat : Int)) = true := by simp; omega
                      have d2 : decide ((t[j].toNat : Int) ≤ 57) = true := by simp; omega
                      go_wp2
                      exact ⟨⟨j + 1, true, rfl, by go_num, by omega, by rw [HMO.out]; simp [q1, q2]⟩, by simp [intOf]; omega⟩
                    · have d1 : decide (48 ≤ (t[j].toNat : Int)) = true := by simp; omega
                      have d2 : decide ((t[j].toNat : Int) ≤ 57) = false := by simp; omega
                      go_wp2
                      exact ⟨⟨j + 1, false, rfl, by go_num, by omega, by rw [HMO.out]; simp; omega⟩, by simp [intOf]; omega⟩
                  · have d1 : decide (48 ≤ (t[j].toNat : Int)) = false := by simp; omega
                    go_wp2
                    exact ⟨⟨j + 1, false, rfl, by go_num, by omega, by rw [HMO.out]; simp; omega⟩, by simp [intOf]; omega⟩
              · have hb : Sx.digs t.data.toList = b := by rw [← HDJ.out, List.take_of_length_le (by rw [ba_len]; omega)]
                have HB := hide hb
                clear hb
                cases b with
                | true =>
                  go_wp2
                  go_ret2
                  exact post_fail (hfin1.out (.inl HB.out)) hBB _ rfl
                | false =>
                  by_cases r1 : 6 < pre.length
                  · have d1 : decide (6 < (pre.length : Int)) = true := by simp; omega
                    go_wp2
                    go_ret2
                    exact post_fail (hfin1.out (.inr (.inl r1))) hBB _ rfl
                  · have d1 : decide (6 < (pre.length : Int)) = false := by simp; omega
                    by_cases r2 : 61 < Sx.allLen pre
                    · go_wp2
                      go_ret2
                      exact post_fail (hfin1.out (.inr (.inr r2))) hBB _ rfl
                    · go_wp2
                      go_ret2
                      have hh := hfin2.out HB.out r1 r2
                      refine ⟨hBB, .slice (some ⟨gh, 0, none⟩) pre.length caph, ?_, ?_, ?_, ?_⟩
                      rotate_left
                      · rw [hh]; exact hownh.mono hsz1
                      · rw [hh]; simp; omega
                      · rw [hh]; exact HXS.out
                      · rw [hh]
                        rfl
end Go.Proofs.YtgohllfpceeboaaGreatDoor
namespace Go.Proofs.YtgohllfpceeboaaGreatDoor
open Go.RowKit

/-- What suffixref.Plain and Shown hand back. -/
def PlnPost (r : List UInt8 × Int) (B : Nat) (w : World) (e : Ending) (w' : World) : Prop :=
  Below B w w' ∧ e = .returned (.tuple #[.string ⟨r.1.toArray⟩, .int .i64 r.2])

set_option maxRecDepth 100000 in
set_option maxHeartbeats 1000000 in
/-- suffixref.Plain -/
theorem rplain_any (s : ByteArray) (w : World) : Calls Tryz.prog 98 #[.string s] w (PlnPost (Sx.plainR s.data.toList) w.heap.size w) := by
  go_enter Tryz.func98, Tryz.ntmps98
  go_wp2_with fail
  refine (rhost_any s _).mono ?_
  rintro e w1 ⟨hB, v, rfl, ho, h6, hx⟩
  have HD := hide (rdot_any _ _ v w1 (by omega) (fun x h => by have := hx x h; omega) ho)
  clear ho h6 hx
  go_wp2_with (go_at_call 148; go_must (refine HD.out.mono ?_; rintro e w2 ⟨rfl, rfl⟩))
  go_ret2
  exact ⟨hB, rfl⟩

theorem shown_take (h : List (List UInt8)) (k : Nat) (hk : k < h.length) (x : List UInt8) (hx : h[k] = x) (y : List UInt8) (hy : Sx.shownOf x = y) : (h.take (k + 1)).map Sx.shownOf = (h.take k).map Sx.shownOf ++ [y] := by
  rw [List.take_succ_eq_append_getElem hk, List.map_append, hx]; simp [hy]

set_option maxRecDepth 100000 in
set_option maxHeartbeats 2000000 in
/-- suffixref.Shown -/
theorem rshown_any (s : ByteArray) (w : World) : Calls Tryz.prog 100 #[.string s] w (PlnPost (Sx.shownR s.data.toList) w.heap.size w) := by
  obtain ⟨i0, hi, hz0, hz1, hz2⟩ := info_parts Tryz.info9
  go_enter Tryz.func100, Tryz.ntmps100
  go_wp2_with fail
  refine (rhost_any s _).mono ?_
  rintro e w1 ⟨hB1, v, rfl, ho, h6, hx⟩
  have hres : Sx.shownR s.data.toList = (Sx.dotted ((Sx.host s.data.toList).1.map Sx.shownOf), (Sx.host s.data.toList).2) := rfl
  obtain ⟨h, hh⟩ : ∃ h, (Sx.host s.data.toList).1 = h := ⟨_, rfl⟩
  obtain ⟨n, hn⟩ : ∃ n, (Sx.host s.data.toList).2 = n := ⟨_, rfl⟩
  rw [hh, hn] at hres
  rw [hh] at ho h6 hx
  rw [hn]
  have HRES := hide hres
  have HX := hide hx
  have hsz1 := hB1.size
  clear hres hh hn hx
  have fin : ∀ (m : Value) (w2 : World), w2.ownsRow w1.heap.size 9 1 m h.length (stV (h.map Sx.shownOf)) → (∀ x ∈ h.map Sx.shownOf, x.length ≤ 1000) → Calls Tryz.prog 148 #[m] w2 fun e w' => e = .returned (.string ⟨(Sx.dotted (h.map Sx.shownOf)).toArray⟩) ∧ w' = w2 := by
    intro m w2 hm hxx
    exact rdot_any (h.map Sx.shownOf) _ m w2 (by simp; omega) hxx (by rw [List.length_map]; exact hm)
  have FIN := hide fin
  clear fin
  rcases ho.2 with ⟨rfl, h0⟩ | ⟨g, cap, cur, rfl, hg1, hg2, hc1, hc2, hc3, hc4⟩
  · have he : h = [] := List.eq_nil_of_length_eq_zero h0
    have HF := hide (FIN.out (.slice none 0 0) w1 (by rw [he]; exact World.ownsRow_nil _ _ 9 1) (by rw [he]; intro x hx; simp at hx))
    clear h0 he ho
    go_wp2
    go_loop [6, 7] (fun x i => x = .slice none 0 0 ∧ i = .int .i64 0) (fun _ _ => 0)
    case atStart => exact ⟨rfl, rfl⟩
    case round =>
      obtain ⟨rfl, rfl⟩ := hrel
      go_wp2_with (go_at_call 148; go_must (refine HF.out.mono ?_; rintro e w2 ⟨rfl, rfl⟩))
      go_ret2
      exact ⟨hB1, by rw [HRES.out]; rfl⟩
  · have HO := hide ho
    have hgl : g < w1.heap.size := (ho.lt g rfl).2
    clear ho hg2 hc3 hc4
    go_wp2
    go_loopw [6, 7] (fun x i wr => ∃ k : Nat, i = .int .i64 k ∧ k ≤ h.length ∧ wr.ownsRow w1.heap.size 9 1 x k (stV ((h.take k).map Sx.shownOf)) ∧ (∀ y ∈ (h.take k).map Sx.shownOf, y.length ≤ 1000) ∧ Below w1.heap.size w1 wr) (fun _ i _ => (h.length - intOf i).toNat)
    case atStart => exact ⟨0, rfl, by omega, World.ownsRow_nil _ _ 9 1, fun y hy => by simp at hy, Below.refl _ _⟩
    case round =>
      obtain ⟨k, rfl, hk, hown, hys, hB⟩ := hrel
      have HYS := hide hys
      have hsz := hB.size
      clear hys
      by_cases hlt : k < h.length
      · have hcell : wr.cell? ⟨g, k, none⟩ = some (.string ⟨h[k].toArray⟩) := own_strG (own_later HO.out hB) k hlt
        have hx20 := HX.out h[k] (List.getElem_mem hlt)
        obtain ⟨x, hxe⟩ : ∃ x, h[k] = x := ⟨_, rfl⟩
        rw [hxe] at hcell hx20
        have HXE := hide hxe
        obtain ⟨t, ht⟩ : ∃ t : ByteArray, (⟨x.toArray⟩ : ByteArray) = t := ⟨_, rfl⟩
        have htx : x = t.data.toList := by rw [← ht]
        have ht20 : t.size ≤ 20 := by rw [← ba_len, ← htx]; exact hx20
        rw [ht] at hcell
        have HTX := hide htx
        clear hxe ht htx
        have next : ∀ (y : List UInt8), Sx.shownOf x = y → y.length ≤ 1000 → (∀ z ∈ (h.take (k + 1)).map Sx.shownOf, z.length ≤ 1000) ∧ stV ((h.take (k + 1)).map Sx.shownOf) = stV ((h.take k).map Sx.shownOf) ++ [.string ⟨y.toArray⟩] := by
          intro y hy hyl
          rw [shown_take h k hlt x HXE.out y hy, stV_app]
          refine ⟨?_, rfl⟩
          intro z hz
          rcases List.mem_append.1 hz with hz | hz
          · exact HYS.out z hz
          · rw [List.mem_singleton] at hz; rw [hz]; exact hyl
        have NEXT := hide next
        clear next
        by_cases e4 : 4 < t.size
        · cases e6 : ((t.extract 0 4).toList == [120, 110, 45, 45]) with
          | true =>
            have hso : Sx.shownOf x = Sx.text ((Sx.dec (t.data.toList.drop 4)).getD []) := by
              unfold Sx.shownOf
              have a1 : decide (4 < x.length) = true := by rw [HTX.out, ba_len]; simp; omega
              have a2 : (x.take 4 == Sx.xn) = true := by rw [HTX.out, ← ba_take, ← ByteArray.toList_eq]; exact e6
              rw [a1, a2, HTX.out]; rfl
            have HSO := hide hso
            clear hso
            go_wp2_with fail
            refine (rdec_any (t.extract 4 t.size) _ (by rw [← ba_len, ba_drop]; simp; omega)).mono ?_
            rw [ba_drop]
            rintro e w2 ⟨hB5, (⟨hd, rfl⟩ | ⟨l2, v2, hd, hl20, hl2h, hl2v, rfl, hl2o⟩)⟩
            · obtain ⟨hn1, hn2⟩ := NEXT.out [] (by rw [HSO.out, hd]; rfl) (by simp)
              have HN2 := hide hn2
              have HN1 := hide hn1
              clear hd hn1 hn2
              have hown2 := own_later hown hB5
              have hB3 := hB.trans (hB5.mono hsz)
              have hsz3 := hB3.size
              go_wp2_with (first | (go_at_call 150; go_must (refine (rtext_nil _).mono ?_; rintro e w3 ⟨rfl, rfl⟩)) | (at_builtin; go_must (refine wpList_append_lies _ rfl _ _ _ rfl w1.heap.size 9 i0 (.string ⟨#[]⟩) 1 16 Tryz.underlying34 hi hz0 hz1 hz2 rfl (by decide) _ _ _ rfl (hown2.alloc _) ⟨_, 0, none⟩ 1 1 [.string ⟨#[]⟩] rfl rfl (cell_one_new _ _ _) (by simp [Value.oneCell']) (by omega) (by unfold maxLen; omega) (by omega) (by simp; omega) _ rfl ?_; intro g2 cap2 w4 hown3 hgrow hat hlt1)))
              exact ⟨⟨k + 1, by go_num, by omega, by rw [HN2.out]; exact hown3, HN1.out, below_app hB3 hsz3 hown2 hgrow⟩, by simp [intOf]; omega⟩
            · have htl := Sx.text_len l2
              obtain ⟨hn1, hn2⟩ := NEXT.out (Sx.text l2) (by rw [HSO.out, hd]; rfl) (by omega)
              have HN2 := hide hn2
              have HN1 := hide hn1
              obtain ⟨gd, capd, rfl, hgd1, hgd2⟩ := hl2o.form hl20
              obtain ⟨_, _, _, _, _, hc4, hcl⟩ := own_cells hl2o
              have htxt := rtext_some l2 gd 0 capd w2 (by omega) hc4 (fun j hj => by
                have := hcl j (by simp [inV]; exact hj)
                rw [Nat.zero_add, this]; simp [inV]) hl2v
              have HTXT := hide htxt
              have HL2 := hide hl2v
              clear hd hn1 hn2 htxt hcl hl2v hl2o
              have hown2 := own_later hown hB5
              have hB3 := hB.trans (hB5.mono hsz)
              have hsz3 := hB3.size
              go_wp2_with fail
              refine HTXT.out.mono ?_
              rintro e w3 ⟨rfl, hB6⟩
              have hown4 := own_later hown2 hB6
              have hB7 := hB3.trans (hB6.mono hsz3)
              have hsz7 := hB7.size
              go_wp2_with (at_builtin; go_must (refine wpList_append_lies _ rfl _ _ _ rfl w1.heap.size 9 i0 (.string ⟨#[]⟩) 1 16 Tryz.underlying34 hi hz0 hz1 hz2 rfl (by decide) _ _ _ rfl (hown4.alloc _) ⟨_, 0, none⟩ 1 1 [.string ⟨(Sx.text l2).toArray⟩] rfl rfl (cell_one_new _ _ _) (by simp [Value.oneCell']) (by omega) (by unfold maxLen; omega) (by omega) (by simp; omega) _ rfl ?_; intro g2 cap2 w4 hown3 hgrow hat hlt1))
              exact ⟨⟨k + 1, by go_num, by omega, by rw [HN2.out]; exact hown3, HN1.out, below_app hB7 hsz7 hown4 hgrow⟩, by simp [intOf]; omega⟩
          | false =>
            have hso : Sx.shownOf x = t.data.toList := by
              unfold Sx.shownOf
              have a2 : (x.take 4 == Sx.xn) = false := by rw [HTX.out, ← ba_take, ← ByteArray.toList_eq]; exact e6
              rw [a2, HTX.out]; simp
            obtain ⟨hn1, hn2⟩ := NEXT.out _ hso (by rw [ba_len]; omega)
            have HN2 := hide hn2
            have HN1 := hide hn1
            clear hso hn1 hn2
            go_wp2_with (at_builtin; go_must (refine wpList_append_lies _ rfl _ _ _ rfl w1.heap.size 9 i0 (.string ⟨#[]⟩) 1 16 Tryz.underlying34 hi hz0 hz1 hz2 rfl (by decide) _ _ _ rfl (hown.alloc _) ⟨_, 0, none⟩ 1 1 [.string t] rfl rfl (cell_one_new _ _ _) (by simp [Value.oneCell']) (by omega) (by unfold maxLen; omega) (by omega) (by simp; omega) _ rfl ?_; intro g2 cap2 w4 hown3 hgrow hat hlt1))
            exact ⟨⟨k + 1, by go_num, by omega, by rw [HN2.out]; exact hown3, HN1.out, below_app hB hsz hown hgrow⟩, by simp [intOf]; omega⟩
        · have hso : Sx.shownOf x = t.data.toList := by
            unfold Sx.shownOf
            have a1 : decide (4 < x.length) = false := by rw [HTX.out, ba_len]; simp; omega
            rw [a1, HTX.out]; simp
          obtain ⟨hn1, hn2⟩ := NEXT.out _ hso (by rw [ba_len]; omega)
          have HN2 := hide hn2
          have HN1 := hide hn1
          clear hso hn1 hn2
          go_wp2_with (at_builtin; go_must (refine wpList_append_lies _ rfl _ _ _ rfl w1.heap.size 9 i0 (.string ⟨#[]⟩) 1 16 Tryz.underlying34 hi hz0 hz1 hz2 rfl (by decide) _ _ _ rfl (hown.alloc _) ⟨_, 0, none⟩ 1 1 [.string t] rfl rfl (cell_one_new _ _ _) (by simp [Value.oneCell']) (by omega) (by unfold maxLen; omega) (by omega) (by simp; omega) _ rfl ?_; intro g2 cap2 w4 hown3 hgrow hat hlt1))
          exact ⟨⟨k + 1, by go_num, by omega, by rw [HN2.out]; exact hown3, HN1.out, below_app hB hsz hown hgrow⟩, by simp [intOf]; omega⟩
      · have hkl : k = h.length := by omega
        subst hkl
        rw [List.take_length] at hown HYS
        have HF := hide (FIN.out _ wr hown HYS.out)
        clear hown HYS
        go_wp2_with (go_at_call 148; go_must (refine HF.out.mono ?_; rintro e w2 ⟨rfl, rfl⟩))
        go_ret2
        exact ⟨hB1.trans (hB.mono hsz1), by rw [HRES.out]; rfl⟩
end Go.Proofs.YtgohllfpceeboaaGreatDoor
namespace Go.Proofs.YtgohllfpceeboaaGreatDoor
open Go.RowKit

/-- suffixlaw.num -/
theorem num_any (n : Int) (w : World) : Calls Tryz.prog 99 #[.int .i64 n] w fun e w' => e = .returned (.int .i64 n) ∧ w' = w := by
  go_enter Tryz.func99, Tryz.ntmps99
  go_wp2
  go_ret
  exact ⟨rfl, rfl⟩

/-- What is asked of the program's Plain and Shown, in a world of which LW holds. -/
def PlainSaid (LW : World → Prop) : Prop := ∀ (s : ByteArray) (w : World), LW w → Calls Tryz.prog 18 #[.string s] w (PlnPost (Sx.plainR s.data.toList) w.heap.size w)
def ShownSaid (LW : World → Prop) : Prop := ∀ (s : ByteArray) (w : World), LW w → Calls Tryz.prog 19 #[.string s] w (PlnPost (Sx.shownR s.data.toList) w.heap.size w)
/-- That a world's premise stays where nothing below has turned. -/
def Stays (LW : World → Prop) : Prop := ∀ w w', LW w → Below w.heap.size w w' → LW w'

theorem box_cell (w w1 : World) (cs : Array Value) (t : TypeId) (h : Below (w.heap.size + 1) (w.alloc (.cells cs t)) w1) (j : Nat) (v : Value) (hv : cs[j]? = some v) : w1.cell? ⟨w.heap.size, j, none⟩ = some v := by
  rw [h.cell (p := ⟨w.heap.size, j, none⟩) (by simp), World.cell?_alloc_mark]; exact hv

set_option maxRecDepth 100000 in
set_option maxHeartbeats 1000000 in
/-- suffixlaw.hosts, at KPlain -/
theorem hosts_plain {LW : World → Prop} (hP : PlainSaid LW) (hS : Stays LW) (a1 a2 a3 a6 a7 : Value) (s t : ByteArray) (w : World) (hw : LW w) :
    Calls Tryz.prog 64 #[.agg #[.int .i64 1, a1, a2, a3, .string s, .string t, a6, a7]] w fun e w' => e = .returned (.bool true) ∧ Below w.heap.size w w' := by
  have hB0 : Below w.heap.size w (w.alloc (.cells #[.int .i64 1, a1, a2, a3, .string s, .string t, a6, a7] 78)) := (Below.refl _ _).alloc (Nat.le_refl _) _
  have HC := hide (hP s _ (hS _ _ hw hB0))
  clear hP
  go_enter Tryz.func64, Tryz.ntmps64
  go_wp2_with fail
  refine HC.out.mono ?_
  rintro e w1 ⟨hB1, rfl⟩
  rw [World.size_alloc] at hB1
  have hc4 := box_cell w w1 _ _ hB1 4 _ rfl
  have hsz1 := hB1.size
  rw [World.size_alloc] at hsz1
  have hBa := hB0.trans (hB1.mono (Nat.le_succ _))
  go_wp2_with fail
  refine (rplain_any s _).mono ?_
  rintro e w2 ⟨hB2, rfl⟩
  have hBB := hBa.trans (hB2.mono (by omega))
  clear hBa hB0 hB1 hB2
  obtain ⟨p, hp⟩ : ∃ p, (Sx.plainR s.data.toList).1 = p := ⟨_, rfl⟩
  obtain ⟨n, hn⟩ : ∃ n, (Sx.plainR s.data.toList).2 = n := ⟨_, rfl⟩
  rw [hp, hn]
  clear hp hn HC
  have he : ((⟨p.toArray⟩ : ByteArray).toList == (⟨p.toArray⟩ : ByteArray).toList) = true := by simp
  have hn2 : (n == n) = true := by simp
  go_wp2_with (go_at_call 99; go_must (refine (num_any _ _).mono ?_; rintro e w' ⟨rfl, rfl⟩))
  go_ret
  exact ⟨rfl, hBB⟩

set_option maxRecDepth 100000 in
set_option maxHeartbeats 1000000 in
/-- suffixlaw.hosts, at KShown -/
theorem hosts_shown {LW : World → Prop} (hP : ShownSaid LW) (hS : Stays LW) (a1 a2 a3 a6 a7 : Value) (s t : ByteArray) (w : World) (hw : LW w) :
    Calls Tryz.prog 64 #[.agg #[.int .i64 2, a1, a2, a3, .string s, .string t, a6, a7]] w fun e w' => e = .returned (.bool true) ∧ Below w.heap.size w w' := by
  have hB0 : Below w.heap.size w (w.alloc (.cells #[.int .i64 2, a1, a2, a3, .string s, .string t, a6, a7] 78)) := (Below.refl _ _).alloc (Nat.le_refl _) _
  have HC := hide (hP s _ (hS _ _ hw hB0))
  clear hP
  go_enter Tryz.func64, Tryz.ntmps64
  go_wp2_with fail
  refine HC.out.mono ?_
  rintro e w1 ⟨hB1, rfl⟩
  rw [World.size_alloc] at hB1
  have hc4 := box_cell w w1 _ _ hB1 4 _ rfl
  have hsz1 := hB1.size
  rw [World.size_alloc] at hsz1
  have hBa := hB0.trans (hB1.mono (Nat.le_succ _))
  go_wp2_with fail
  refine (rshown_any s _).mono ?_
  rintro e w2 ⟨hB2, rfl⟩
  have hBB := hBa.trans (hB2.mono (by omega))
  clear hBa hB0 hB1 hB2
  obtain ⟨p, hp⟩ : ∃ p, (Sx.shownR s.data.toList).1 = p := ⟨_, rfl⟩
  obtain ⟨n, hn⟩ : ∃ n, (Sx.shownR s.data.toList).2 = n := ⟨_, rfl⟩
  rw [hp, hn]
  clear hp hn HC
  have he : ((⟨p.toArray⟩ : ByteArray).toList == (⟨p.toArray⟩ : ByteArray).toList) = true := by simp
  have hn2 : (n == n) = true := by simp
  go_wp2_with (go_at_call 99; go_must (refine (num_any _ _).mono ?_; rintro e w' ⟨rfl, rfl⟩))
  go_ret
  exact ⟨rfl, hBB⟩

set_option maxRecDepth 100000 in
set_option maxHeartbeats 1000000 in
/-- (*suffixlaw.World).step, at KPlain and KShown -/
theorem step_any {LW : World → Prop} (hP : PlainSaid LW) (hQ : ShownSaid LW) (hS : Stays LW) (k : Int) (hk : k = 1 ∨ k = 2) (wp a1 a2 a3 a6 a7 : Value) (s t : ByteArray) (w : World) (hw : LW w) :
    Calls Tryz.prog 45 #[wp, .agg #[.int .i64 k, a1, a2, a3, .string s, .string t, a6, a7]] w fun e w' => e = .returned (.bool true) ∧ Below w.heap.size w w' := by
  have hB0 : Below w.heap.size w (w.alloc (.cells #[.int .i64 k, a1, a2, a3, .string s, .string t, a6, a7] 78)) := (Below.refl _ _).alloc (Nat.le_refl _) _
  have hw0 := hS _ _ hw hB0
  rcases hk with rfl | rfl
  · have HC := hide (hosts_plain hP hS a1 a2 a3 a6 a7 s t _ hw0)
    clear hP hQ hw0 hw
    go_enter Tryz.func45, Tryz.ntmps45
    go_wp2_with fail
    refine HC.out.mono ?_
    rintro e w1 ⟨rfl, hB1⟩
    have hBB := hB0.trans (hB1.mono (by simp))
    clear HC hB0 hB1
    go_wp2
    go_ret
    exact ⟨rfl, hBB⟩
  · have HC := hide (hosts_shown hQ hS a1 a2 a3 a6 a7 s t _ hw0)
    clear hP hQ hw0 hw
    go_enter Tryz.func45, Tryz.ntmps45
    go_wp2_with fail
    refine HC.out.mono ?_
    rintro e w1 ⟨rfl, hB1⟩
    have hBB := hB0.trans (hB1.mono (by simp))
    clear HC hB0 hB1
    go_wp2
    go_ret
    exact ⟨rfl, hBB⟩

/-- One step of a script, as its cells hold it. -/
structure OpC where
  k : Int
  n1 : Int
  n2 : Int
  n3 : Int
  s : ByteArray
  t : ByteArray
  la : Option Addr
  ln : Nat
  lc : Nat
  md : Bool
def OpC.cells (o : OpC) : List Value := [.int .i64 o.k, .int .i64 o.n1, .int .i64 o.n2, .int .i64 o.n3, .string o.s, .string o.t, .slice o.la o.ln o.lc, .bool o.md]
def OpsAt (w : World) (b off : Nat) (l : List OpC) : Prop := b < w.heap.size ∧ ∀ j (h : j < l.length), ∀ i v, (l[j].cells)[i]? = some v → w.cell? ⟨b, off + j * 8 + i, none⟩ = some v
set_option maxRecDepth 100000 in
set_option maxHeartbeats 1000000 in
/-- suffixlaw.plays, from KPlain to KShown -/
theorem plays_any {LW : World → Prop} (hP : PlainSaid LW) (hQ : ShownSaid LW) (hS : Stays LW) (l : List OpC) (b off cap : Nat) (w : World) (hw : LW w) (ho : OpsAt w b off l) (hl : l.length ≤ maxLen) :
    Calls Tryz.prog 15 #[.slice (some ⟨b, off, none⟩) l.length cap, .int .i64 1, .int .i64 2] w fun e w' => e = .returned (.bool true) ∧ Below w.heap.size w w' := by
  unfold maxLen at hl
  have HO := hide ho
  have HW := hide hw
  have hbw := ho.1
  clear ho hw
  go_enter Tryz.func15, Tryz.ntmps15
  go_wp2
  go_loopw [8] (fun i wr => ∃ j : Nat, i = .int .i64 j ∧ j ≤ l.length ∧ Below w.heap.size w wr) (fun i _ => (l.length - intOf i).toNat)
  case atStart => exact ⟨0, rfl, by omega, (Below.refl _ _).alloc (Nat.le_refl _) _⟩
  case round =>
    obtain ⟨j, rfl, hj, hB⟩ := hrel
    by_cases hlt : j < l.length
    · have hcs : ∀ i v, (l[j].cells)[i]? = some v → wr.cell? ⟨b, off + j * 8 + i, none⟩ = some v := fun i v h => (hB.cell (p := ⟨b, off + j * 8 + i, none⟩) hbw).trans (HO.out.2 j hlt i v h)
      obtain ⟨o, hoo⟩ : ∃ o, l[j] = o := ⟨_, rfl⟩
      rw [hoo] at hcs
      clear hoo
      obtain ⟨k, n1, n2, n3, s, t, la, ln, lc, md⟩ := o
      have c0 := hcs 0 _ rfl
      have c1 := hcs 1 _ rfl
      have c2 := hcs 2 _ rfl
      have c3 := hcs 3 _ rfl
      have c4 := hcs 4 _ rfl
      have c5 := hcs 5 _ rfl
      have c6 := hcs 6 _ rfl
      have c7 := hcs 7 _ rfl
      rw [Nat.add_zero] at c0
      clear hcs
      have hB2 : Below w.heap.size w (wr.alloc (.cells #[.int .i64 k, .int .i64 n1, .int .i64 n2, .int .i64 n3, .string s, .string t, .slice la ln lc, .bool md] 78)) := hB.alloc hB.size _
      by_cases h1 : 1 ≤ k
      · by_cases h2 : k ≤ 2
        · have HC := hide (step_any hP hQ hS k (by omega) (.pointer (some ⟨w.heap.size, 0, none⟩)) (.int .i64 n1) (.int .i64 n2) (.int .i64 n3) (.slice la ln lc) (.bool md) s t (wr.alloc (.cells #[.int .i64 k, .int .i64 n1, .int .i64 n2, .int .i64 n3, .string s, .string t, .slice la ln lc, .bool md] 78)) (hS _ _ HW.out hB2))
          go_wp2_with fail
          refine HC.out.mono ?_
          rintro e w2 ⟨rfl, hB3⟩
          have hBB := hB2.trans (hB3.mono (by have := hB.size; simp; omega))
          clear HC hB3 hB2
          go_wp2
          exact ⟨⟨j + 1, by go_num, by omega, hBB⟩, by simp [intOf]; omega⟩
        · go_wp2
          exact ⟨⟨j + 1, by go_num, by omega, hB2⟩, by simp [intOf]; omega⟩
      · go_wp2
        exact ⟨⟨j + 1, by go_num, by omega, hB2⟩, by simp [intOf]; omega⟩
    · go_wp2
      go_ret
      exact ⟨rfl, hB⟩

set_option maxRecDepth 100000 in
set_option maxHeartbeats 1000000 in
/-- suffixlaw.Hosts -/
theorem hosts_law {LW : World → Prop} (hP : PlainSaid LW) (hQ : ShownSaid LW) (hS : Stays LW) (l : List OpC) (b off cap : Nat) (w : World) (hw : LW w) (ho : OpsAt w b off l) (hl : l.length ≤ maxLen) :
    Calls Tryz.prog 3 #[.slice (some ⟨b, off, none⟩) l.length cap] w fun e w' => e = .returned (.bool true) ∧ Below w.heap.size w w' := by
  have HC := hide (plays_any hP hQ hS l b off cap w hw ho hl)
  clear hP hQ hw ho
  go_enter Tryz.func3, Tryz.ntmps3
  go_wp2_with (go_at_call 15; go_must (refine HC.out.mono ?_; rintro e w' ⟨rfl, hB⟩))
  go_ret
  exact ⟨rfl, hB⟩
set_option maxRecDepth 100000 in
set_option maxHeartbeats 1000000 in
theorem plays_nil (w : World) : Calls Tryz.prog 15 #[.slice none 0 0, .int .i64 1, .int .i64 2] w fun e w' => e = .returned (.bool true) ∧ Below w.heap.size w w' := by
  go_enter Tryz.func15, Tryz.ntmps15
  go_wp2
  go_loopw [8] (fun i wr => i = .int .i64 0 ∧ Below w.heap.size w wr) (fun _ _ => 0)
  case atStart => exact ⟨rfl, (Below.refl _ _).alloc (Nat.le_refl _) _⟩
  case round =>
    obtain ⟨rfl, hB⟩ := hrel
    go_wp2
    go_ret
    exact ⟨rfl, hB⟩
/-- suffixlaw.Hosts, of no script -/
theorem hosts_law_nil (w : World) : Calls Tryz.prog 3 #[.slice none 0 0] w fun e w' => e = .returned (.bool true) ∧ Below w.heap.size w w' := by
  have HC := hide (plays_nil w)
  go_enter Tryz.func3, Tryz.ntmps3
  go_wp2_with (go_at_call 15; go_must (refine HC.out.mono ?_; rintro e w' ⟨rfl, hB⟩))
  go_ret
  exact ⟨rfl, hB⟩
end Go.Proofs.YtgohllfpceeboaaGreatDoor
namespace Go.Proofs.YtgohllfpceeboaaGreatDoor
open Go.RowKit
attribute [local go_sem ↓] Go.wp_at_zero Go.wp_at_succ
/-- The world's premise: the tables of utf8 are laid. -/
def LWt (w : World) : Prop := Lib.Utf8Tabs (Tryz.layValid_ren.g 3) (Tryz.layValid_ren.g 4) w
theorem lwt_stays : Stays LWt := by
  intro w w' h hb
  have lt : ∀ {b o : Nat} {v : Value}, w.cell? ⟨b, o, none⟩ = some v → b < w.heap.size := fun {b o v} hc => by
    by_cases hlt : b < w.heap.size
    · exact hlt
    · have : w.heap[b]? = none := Array.getElem?_eq_none (by omega)
      simp [World.cell?, this] at hc
  refine ⟨fun c hc => ?_, fun i hi => ⟨?_, ?_⟩⟩
  · have := h.1 c hc
    exact (hb.cell (p := ⟨_, c, none⟩) (lt this)).trans this
  · have := (h.2 i hi).1
    exact (hb.cell (p := ⟨_, 2 * i, none⟩) (lt this)).trans this
  · have := (h.2 i hi).2
    exact (hb.cell (p := ⟨_, 2 * i + 1, none⟩) (lt this)).trans this
theorem pvs_any (s : ByteArray) (w : World) (hw : LWt w) (hs : s.size ≤ 60) : Calls Tryz.prog 110 #[.string s] w fun e w' => e = .returned (.bool (Sx.letters s.data.toList).isSome) ∧ Below w.heap.size w w' := by
  have := Any.utf8_ValidString Tryz.layValid s w (by omega) hw
  rw [valid_letters _ _ (Nat.le_refl _)] at this
  exact this
set_option maxRecDepth 100000 in
set_option maxHeartbeats 2000000 in
/-- suffix.readHost, of a long text -/
theorem prh_long (s : ByteArray) (w : World) (hs : 60 < s.size) : Calls Tryz.prog 71 #[.string s] w fun e w' => Below w.heap.size w w' ∧ e = .returned (.tuple #[.slice none 0 0, .int .i64 1]) := by
  have hd : decide ((60 : Int) < (s.size : Int)) = true := by simp; omega
  go_enter Tryz.func71, Tryz.ntmps71
  go_wp2
  have hB0 : Below w.heap.size w ((w.alloc (.cells #[.slice none 0 0] 115)).alloc (.cells #[.int .i64 1] 28)) := ((Below.refl _ w).alloc (Nat.le_refl _) _).alloc (by rw [World.size_alloc]; exact Nat.le_succ _) _
  have z2 : ((w.alloc (.cells #[.slice none 0 0] 115)).alloc (.cells #[.int .i64 1] 28)).cell? ⟨w.heap.size, 0, none⟩ = some (.slice none 0 0) := ((Boxed.new w 115 _).alloc _).cell
  have z3 : ((w.alloc (.cells #[.slice none 0 0] 115)).alloc (.cells #[.int .i64 1] 28)).cell? ⟨w.heap.size + 1, 0, none⟩ = some (.int .i64 1) := by
    have := (Boxed.new (w.alloc (.cells #[.slice none 0 0] 115)) 28 (.int .i64 1)).cell
    rw [World.size_alloc] at this
    exact this
  exact bodyPost_ret (v := .tuple #[.slice none 0 0, .int .i64 1]) (by simp [results, Tryz.results71, go_sem, z2, z3]) rfl ⟨hB0, rfl⟩
set_option maxRecDepth 100000 in
set_option maxHeartbeats 2000000 in
/-- suffix.readHost, of a text that is no UTF-8 -/
theorem prh_bad (s : ByteArray) (w : World) (hw : LWt w) (hs : s.size ≤ 60) (hl : Sx.letters s.data.toList = none) : Calls Tryz.prog 71 #[.string s] w fun e w' => Below w.heap.size w w' ∧ e = .returned (.tuple #[.slice none 0 0, .int .i64 2]) := by
  have hd : (60 < s.size) = False := by simp; omega
  have hB0 : Below w.heap.size w ((w.alloc (.cells #[.slice none 0 0] 115)).alloc (.cells #[.int .i64 0] 28)) := ((Below.refl _ w).alloc (Nat.le_refl _) _).alloc (by rw [World.size_alloc]; exact Nat.le_succ _) _
  have hx2 : Boxed ((w.alloc (.cells #[.slice none 0 0] 115)).alloc (.cells #[.int .i64 0] 28)) w.heap.size 115 (.slice none 0 0) := (Boxed.new w 115 _).alloc _
  have hx3 : Boxed ((w.alloc (.cells #[.slice none 0 0] 115)).alloc (.cells #[.int .i64 0] 28)) (w.heap.size + 1) 28 (.int .i64 0) := by
    have := Boxed.new (w.alloc (.cells #[.slice none 0 0] 115)) 28 (.int .i64 0)
    rw [World.size_alloc] at this
    exact this
  have hv := pvs_any s _ (lwt_stays w _ hw hB0) hs
  rw [hl] at hv
  have HV := hide hv
  clear hv hl hw
  go_enter Tryz.func71, Tryz.ntmps71
  go_wp2_with (go_at_call 110; go_must (refine HV.out.mono ?_; rintro e w2 ⟨rfl, hB2⟩; have q2 : Boxed w2 w.heap.size 115 (.slice none 0 0) := (hB2.block _ hx2.lt).trans hx2; have q3 : Boxed w2 (w.heap.size + 1) 28 (.int .i64 0) := (hB2.block _ hx3.lt).trans hx3; have u2 := q2.cell; have u3 := q3.cell; have u4 := q2.frozen; have u5 := q3.frozen))
  have y2 : Boxed ((w2.setCell ⟨w.heap.size, 0, none⟩ (.slice none 0 0)).setCell ⟨w.heap.size + 1, 0, none⟩ (.int .i64 2)) w.heap.size 115 (.slice none 0 0) := (q2.set _).kept (grownBy_setCell' _ _ _) (fun e => by have := Option.some.inj e; omega)
  have y3 : Boxed ((w2.setCell ⟨w.heap.size, 0, none⟩ (.slice none 0 0)).setCell ⟨w.heap.size + 1, 0, none⟩ (.int .i64 2)) (w.heap.size + 1) 28 (.int .i64 2) := (q3.kept (grownBy_setCell' _ _ _) (fun e => by have := Option.some.inj e; omega)).set _
  have v2 := y2.cell
  have v3 := y3.cell
  have hBe := hB0.trans (hB2.mono hB0.size)
  exact bodyPost_ret (v := .tuple #[.slice none 0 0, .int .i64 2]) (by simp [results, Tryz.results71, go_sem, v2, v3]) rfl ⟨(hBe.setCell (p := ⟨w.heap.size, 0, none⟩) (Nat.le_refl _) _).setCell (p := ⟨w.heap.size + 1, 0, none⟩) (Nat.le_succ _) _, rfl⟩
/-- What readHost hands back. -/
def RhPost (s : ByteArray) (w : World) (e : Ending) (w' : World) : Prop :=
  Below w.heap.size w w' ∧ ((∃ err : Int, err ≠ 0 ∧ Sx.host s.data.toList = ([], err) ∧ e = .returned (.tuple #[.slice none 0 0, .int .i64 err])) ∨
    (∃ (L : List Lab) (g cap : Nat), Sx.host s.data.toList = (L.map (fun x => x.2.data.toList), 0) ∧ e = .returned (.tuple #[.slice (some ⟨g, 0, none⟩) L.length cap, .int .i64 0]) ∧ LbAt w' g L ∧ L.length ≤ 6 ∧ ∀ x ∈ L, ∃ p, labP p = x ∧ okP p = true ∧ (∃ l, Sx.letters p = some l) ∧ p.length ≤ 60))
theorem prh_any (s : ByteArray) (w : World) (hw : LWt w) : Calls Tryz.prog 71 #[.string s] w (RhPost s w) := by
  by_cases hs : s.size ≤ 60
  · cases hl : Sx.letters s.data.toList with
    | none =>
      refine (prh_bad s w hw hs hl).mono ?_
      rintro e w' ⟨h1, rfl⟩
      exact ⟨h1, .inl ⟨2, by omega, by unfold Sx.host; rw [if_neg (by rw [ba_len]; omega), hl], rfl⟩⟩
    | some l =>
      obtain ⟨h1, h2, h3⟩ := pieces_are s l hl
      have hh := host_eq s l hl hs
      refine (prh_valid s w (pcs s.data.toList) hs rfl (fun w' hb => by
        have := pvs_any s w' (lwt_stays w w' hw hb) hs
        rw [hl] at this
        exact this) (fun p hp => ⟨(h3 p hp).1, by have := (h3 p hp).2; omega⟩)).mono ?_
      rintro e w' ⟨g1, (⟨g2, rfl⟩ | ⟨g2, g, cap, rfl, g3⟩)⟩
      · rw [g2] at hh
        exact ⟨g1, .inl ⟨2, by omega, hh, rfl⟩⟩
      · rw [g2, if_pos rfl] at hh
        have hH : (hostL (pcs s.data.toList)).map (fun x => x.2.data.toList) = (pcs s.data.toList).reverse.map fun p => Sx.formOf (mP p) := by
          unfold hostL
          rw [List.map_reverse, List.map_map, List.map_reverse]; rfl
        unfold hostOk at g2
        simp only [Bool.and_eq_true, decide_eq_true_eq] at g2
        refine ⟨g1, .inr ⟨hostL (pcs s.data.toList), g, cap, by rw [hH]; exact hh, rfl, g3, by unfold hostL; rw [List.length_reverse, List.length_map]; exact g2.1.1.1, fun x hx => ?_⟩⟩
        unfold hostL at hx
        rw [List.mem_reverse] at hx
        obtain ⟨p, hp, rfl⟩ := List.mem_map.1 hx
        exact ⟨p, rfl, List.all_eq_true.1 g2.1.1.2 p hp, (h3 p hp).1, by have := (h3 p hp).2; omega⟩
  · refine (prh_long s w (by omega)).mono ?_
    rintro e w' ⟨h1, rfl⟩
    exact ⟨h1, .inl ⟨1, by omega, by unfold Sx.host; rw [if_pos (by rw [ba_len]; omega)], rfl⟩⟩
theorem decF_len : ∀ (f : Nat) (l : List Int) (bias n i : Int) (first : Bool) (s : List UInt8) (m : List Int), Sx.decF f l bias n i first s = some m → m.length ≤ l.length + s.length := by
  intro f
  induction f with
  | zero =>
    intro l bias n i first s m h
    cases s with
    | nil => simp only [Sx.decF, Option.some.injEq] at h; rw [← h]; simp
    | cons x s => simp [Sx.decF] at h
  | succ f ih =>
    intro l bias n i first s m h
    cases s with
    | nil => simp only [Sx.decF, Option.some.injEq] at h; rw [← h]; simp
    | cons x s =>
      simp only [Sx.decF] at h
      cases hn : Sx.numF bias 0 1 0 (x :: s) with
      | none => rw [hn] at h; cases h
      | some p =>
        obtain ⟨d, s2⟩ := p
        rw [hn] at h
        simp only at h
        have hl := Sx.numF_len _ _ _ _ _ _ _ hn
        split at h
        · cases h
        · have := ih _ _ _ _ _ _ _ h
          rw [Sx.putIn_len] at this
          omega
theorem dec_len (s : List UInt8) (m : List Int) (h : Sx.dec s = some m) : m.length ≤ s.length := by
  rw [Sx.dec_parts] at h
  split at h
  · cases h
  · have h1 := decF_len _ _ _ _ _ _ _ _ h
    have h2 := Sx.dashTo_bd s s.length
    unfold Sx.plainPart Sx.numPart at h1
    rw [List.length_map, List.length_take, List.length_drop] at h1
    unfold Sx.dash at h1
    omega
theorem lab_facts (x : Lab) (p : List UInt8) (h : labP p = x) (ho : okP p = true) (hl : ∃ l, Sx.letters p = some l) (hp : p.length ≤ 60) : x.2.size ≤ 20 ∧ (∀ b ∈ x.2.data.toList, b.toNat < 128) ∧ shownB x.2.data.toList = Sx.shownOf x.2.data.toList ∧ (shownB x.2.data.toList).length ≤ 1000 := by
  obtain ⟨l, hl⟩ := hl
  obtain ⟨hm, hml, hmg, hmt⟩ := piece_facts p l hl hp
  have hx : x.2.data.toList = Sx.formOf (mP p) := by rw [← h]; rfl
  have h1 := ok_short p ho
  have h2 := (form_len (mP p) hml hmg).2
  refine ⟨by rw [← ba_len, hx]; exact h1, by rw [hx]; exact h2, by rw [hx]; exact shown_eq p ho, ?_⟩
  rw [hx]
  unfold shownB
  split
  · unfold Sx.letOf
    split
    · have h3 := Sx.text_len ((Sx.dec ((Sx.formOf (mP p)).drop 4)).getD [])
      cases hd : Sx.dec ((Sx.formOf (mP p)).drop 4) with
      | none => simp [Sx.text]
      | some m =>
        have h4 := dec_len _ _ hd
        rw [hd] at h3
        rw [List.length_drop] at h4
        simp only [Option.getD_some] at h3 ⊢
        omega
    · simp
  · omega
set_option maxRecDepth 100000 in
set_option maxHeartbeats 2000000 in
/-- suffix.hostIn, at plainForm -/
theorem phip_any (s : ByteArray) (w : World) (hw : LWt w) : Calls Tryz.prog 47 #[.string s, .func (.func 48) #[] #[]] w (PlnPost (Sx.plainR s.data.toList) w.heap.size w) := by
  have HRH := hide (prh_any s w hw)
  have HR : Hid (∀ (L : List Lab), Sx.host s.data.toList = (L.map (fun x => x.2.data.toList), 0) → (∀ x ∈ L, ∃ p, labP p = x ∧ okP p = true ∧ (∃ l, Sx.letters p = some l) ∧ p.length ≤ 60) → Sx.plainR s.data.toList = (Sx.dotted (L.map fun x => id x.2.data.toList), 0)) := hide (fun L h hx => by
    unfold Sx.plainR
    rw [h]
    simp only [id])
  have HN : Hid (∀ err : Int, Sx.host s.data.toList = ([], err) → Sx.plainR s.data.toList = ([], err)) := hide (fun err h => by unfold Sx.plainR; rw [h]; rfl)
  go_enter Tryz.func47, Tryz.ntmps47
  go_wp2_with fail
  refine HRH.out.mono ?_
  rintro e w2 ⟨hB2, (⟨err, he0, hh, rfl⟩ | ⟨L, g, cap, hh, rfl, hlb, hl6, hx⟩)⟩
  · have HHH := hide (HN.out err hh)
    have hd : (err != 0) = true := by simpa using he0
    clear hh
    go_wp2
    go_ret2
    exact ⟨hB2, by rw [HHH.out]; rfl⟩
  · have HHH := hide (HR.out L hh hx)
    have hj := pjp_any L id g cap w2 hlb (by omega) (fun x hm => by
      obtain ⟨p, h1, h2, h3, h4⟩ := hx x hm
      have hf := lab_facts x p h1 h2 h3 h4
      show x.2.data.toList.length ≤ 1000; rw [ba_len]; omega) (fun x hm w => by
      obtain ⟨p, h1, h2, h3, h4⟩ := hx x hm
      have hf := lab_facts x p h1 h2 h3 h4
      exact ppf_any x.1 x.2 w)
    obtain ⟨T, hT⟩ : ∃ T : ByteArray, ⟨(Sx.dotted (L.map fun x => id x.2.data.toList)).toArray⟩ = T := ⟨_, rfl⟩
    rw [hT] at hj
    have HJ := hide hj
    have HT := hide hT
    clear hj hh hx hT hlb
    go_wp2_with (go_at_call 72; go_must (refine HJ.out.mono ?_; rintro e w3 ⟨rfl, hB3⟩))
    go_ret2
    exact ⟨hB2.trans (hB3.mono hB2.size), by rw [HHH.out, ← HT.out]; rfl⟩
set_option maxRecDepth 100000 in
set_option maxHeartbeats 2000000 in
/-- suffix.hostIn, at shownForm -/
theorem phis_any (s : ByteArray) (w : World) (hw : LWt w) : Calls Tryz.prog 47 #[.string s, .func (.func 49) #[] #[]] w (PlnPost (Sx.shownR s.data.toList) w.heap.size w) := by
  have HRH := hide (prh_any s w hw)
  have HR : Hid (∀ (L : List Lab), Sx.host s.data.toList = (L.map (fun x => x.2.data.toList), 0) → (∀ x ∈ L, ∃ p, labP p = x ∧ okP p = true ∧ (∃ l, Sx.letters p = some l) ∧ p.length ≤ 60) → Sx.shownR s.data.toList = (Sx.dotted (L.map fun x => shownB x.2.data.toList), 0)) := hide (fun L h hx => by
    unfold Sx.shownR
    rw [h]
    simp only [List.map_map]
    congr 2
    refine List.map_congr_left (fun x hm => ?_)
    obtain ⟨p, h1, h2, h3, h4⟩ := hx x hm
    exact (lab_facts x p h1 h2 h3 h4).2.2.1.symm)
  have HN : Hid (∀ err : Int, Sx.host s.data.toList = ([], err) → Sx.shownR s.data.toList = ([], err)) := hide (fun err h => by unfold Sx.shownR; rw [h]; rfl)
  go_enter Tryz.func47, Tryz.ntmps47
  go_wp2_with fail
  refine HRH.out.mono ?_
  rintro e w2 ⟨hB2, (⟨err, he0, hh, rfl⟩ | ⟨L, g, cap, hh, rfl, hlb, hl6, hx⟩)⟩
  · have HHH := hide (HN.out err hh)
    have hd : (err != 0) = true := by simpa using he0
    clear hh
    go_wp2
    go_ret2
    exact ⟨hB2, by rw [HHH.out]; rfl⟩
  · have HHH := hide (HR.out L hh hx)
    have hj := pjs_any L shownB g cap w2 hlb (by omega) (fun x hm => by
      obtain ⟨p, h1, h2, h3, h4⟩ := hx x hm
      have hf := lab_facts x p h1 h2 h3 h4
      exact hf.2.2.2) (fun x hm w => by
      obtain ⟨p, h1, h2, h3, h4⟩ := hx x hm
      have hf := lab_facts x p h1 h2 h3 h4
      exact pshf_any x.1 x.2 w hf.1 hf.2.1)
    obtain ⟨T, hT⟩ : ∃ T : ByteArray, ⟨(Sx.dotted (L.map fun x => shownB x.2.data.toList)).toArray⟩ = T := ⟨_, rfl⟩
    rw [hT] at hj
    have HJ := hide hj
    have HT := hide hT
    clear hj hh hx hT hlb
    go_wp2_with (go_at_call 72; go_must (refine HJ.out.mono ?_; rintro e w3 ⟨rfl, hB3⟩))
    go_ret2
    exact ⟨hB2.trans (hB3.mono hB2.size), by rw [HHH.out, ← HT.out]; rfl⟩
/-- suffix.Plain -/
theorem plainsaid_any : PlainSaid LWt := by
  intro s w hw
  have HC := hide (phip_any s w hw)
  clear hw
  go_enter Tryz.func18, Tryz.ntmps18
  go_wp2_with fail
  refine HC.out.mono ?_
  rintro e w2 ⟨hB, rfl⟩
  go_wp2
  go_ret2
  exact ⟨hB, rfl⟩
/-- suffix.Shown -/
theorem shownsaid_any : ShownSaid LWt := by
  intro s w hw
  have HC := hide (phis_any s w hw)
  clear hw
  go_enter Tryz.func19, Tryz.ntmps19
  go_wp2_with fail
  refine HC.out.mono ?_
  rintro e w2 ⟨hB, rfl⟩
  go_wp2
  go_ret2
  exact ⟨hB, rfl⟩
end Go.Proofs.YtgohllfpceeboaaGreatDoor
