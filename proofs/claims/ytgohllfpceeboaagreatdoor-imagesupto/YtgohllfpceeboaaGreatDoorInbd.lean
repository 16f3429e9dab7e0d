import Derived.Test.YtgohllfpceeboaaGreatDoorInbc
import Derived.Test.YtgohllfpceeboaaGreatDoorInah
import Derived.Test.YtgohllfpceeboaaGreatDoorInae
import Derived.Deep.Onto
import Derived.Laws.ResultCell
namespace Go.Proofs.YtgohllfpceeboaaGreatDoor
open Go.RowKit
def HostPost (s : List UInt8) (B : Nat) (w : World) (e : Ending) (w' : World) : Prop :=
 Below B w w' ∧ ∃ v, e = .returned (.tuple #[v, .int .i64 (Sx.host s).2]) ∧ w'.ownsRow B 9 1 v (Sx.host s).1.length (stV (Sx.host s).1) ∧ (Sx.host s).1.length ≤ 6 ∧ (∀ x ∈ (Sx.host s).1, x.length ≤ 20)
theorem host_none {s : List UInt8} (hs : ¬ 60 < s.length) (h : Sx.letters s = none) : Sx.host s = ([], 2) := by unfold Sx.host; rw [if_neg hs, h]
theorem host_bad {s : List UInt8} {l : List Int} (hs : ¬ 60 < s.length) (h : Sx.letters s = some l) (hg : Sx.hostGo l [] = none) : Sx.host s = ([], 2) := by unfold Sx.host; rw [if_neg hs, h]; simp only [hg]
theorem host_end {s : List UInt8} {l : List Int} {h : List (List UInt8)} (hs : ¬ 60 < s.length) (hl : Sx.letters s = some l) (hg : Sx.hostGo l [] = some h) : Sx.host s = Sx.hostEnd h := by unfold Sx.host; rw [if_neg hs, hl]; simp only [hg]
theorem post_fail {s : List UInt8} {B : Nat} {w w' : World} {n : Int} (h : Sx.host s = ([], n)) (hb : Below B w w') (e : Ending) (he : e = .returned (.tuple #[.slice none 0 0, .int .i64 n])) : HostPost s B w e w' := by
 refine ⟨hb, .slice none 0 0, ?_, ?_, ?_, ?_⟩
 · rw [h, he]
 · rw [h]; exact World.ownsRow_nil _ _ 9 1
 · rw [h]; simp
 · rw [h]; intro x hx; simp at hx
theorem let_len : ∀ (f : Nat) (s : List UInt8) (l : List Int), Sx.letF f s = some l → l.length ≤ s.length ∧ ∀ c ∈ l, 0 ≤ c ∧ c ≤ 1114111 := by
 intro f
 induction f with
 | zero =>
   intro s l h
   cases s with
   | nil => simp only [Sx.letF, Option.some.injEq] at h; subst h; simp
   | cons x s => simp [Sx.letF] at h
 | succ f ih =>
   intro s l h
   cases s with
   | nil => simp only [Sx.letF, Option.some.injEq] at h; subst h; simp
   | cons x s =>
     simp only [Sx.letF] at h
     cases ho : Sx.one (x :: s) with
     | none => rw [ho] at h; simp at h
     | some p =>
       obtain ⟨c, r⟩ := p
       rw [ho] at h
       simp only [Option.map_eq_some_iff] at h
       obtain ⟨l2, h2, rfl⟩ := h
       have h3 := ih r l2 h2
       have h4 := Sx.one_len x s c r ho
       refine ⟨by simp only [List.length_cons]; omega, ?_⟩
       intro y hy
       rcases List.mem_cons.1 hy with rfl | hy
       · simp only [Sx.one] at ho
         split at ho
         · cases ho
         · rename_i m c0 least hlead
           unfold Sx.rest at ho
           split at ho
           · cases ho
           · rename_i c' s' hcf
             split at ho
             · cases ho
             · rename_i hb
               simp only [Option.some.injEq, Prod.mk.injEq] at ho
               have hlo : 0 ≤ least := by
                unfold Sx.lead at hlead
                repeat' split at hlead
                all_goals (simp only [Option.some.injEq, Prod.mk.injEq, reduceCtorEq] at hlead; try omega)
               omega
       · exact h3.2 y hy
theorem hostGo_ne : ∀ (l cur : List Int) (h : List (List UInt8)), Sx.hostGo l cur = some h → 0 < h.length := by
 intro l
 induction l with
 | nil =>
   intro cur h hh
   simp only [Sx.hostGo] at hh
   split at hh
   · cases hh
   · cases hh; simp
 | cons c r ih =>
   intro cur h hh
   simp only [Sx.hostGo] at hh
   split at hh
   · split at hh
     · cases hh
     · rw [Option.map_eq_some_iff] at hh
       obtain ⟨y, _, rfl⟩ := hh
       simp
   · exact ih _ _ hh
theorem digs_more (l : List UInt8) (j : Nat) (h : j < l.length) : Sx.digs (l.take (j + 1)) = (Sx.digs (l.take j) && (decide (48 ≤ l[j].toNat) && decide (l[j].toNat ≤ 57))) := by
 unfold Sx.digs
 rw [List.take_succ_eq_append_getElem h, List.all_append]; simp
theorem own_str {w : World} {B b cap : Nat} {h : List (List UInt8)} (ho : w.ownsRow B 9 1 (.slice (some ⟨b, 0, none⟩) h.length cap) h.length (stV h)) (k : Nat) (hk : k < h.length) : w.cell? ⟨b, k, none⟩ = some (.string ⟨(h.getD k []).toArray⟩) := by
 obtain ⟨_, _, _, _, _, _, hc⟩ := own_cells ho
 rw [hc k (by simp [stV]; exact hk)]
 simp [stV, List.getElem?_eq_getElem hk]
set_option maxRecDepth 100000 in
set_option maxHeartbeats 2000000 in
theorem rhost_any (s : ByteArray) (w : World) : Calls Tryz.prog 147 #[.string s] w (HostPost s.data.toList w.heap.size w) := by
 obtain ⟨i0, hi, hz0, hz1, hz2⟩ := info_parts Tryz.info9
 by_cases hs : 60 < s.size
 · have hh : Sx.host s.data.toList = ([], 1) := by unfold Sx.host; rw [ba_len, if_pos hs]
   have HH := hide hh
   clear hh
   go_enter Tryz.func147, Tryz.ntmps147
   go_wp2
   go_ret2
   exact post_fail HH.out (Below.refl _ _) _ rfl
 · have hsl : ¬ 60 < s.data.toList.length := by rw [ba_len]; exact hs
   have HSL := hide hsl
   clear hsl
   go_enter Tryz.func147, Tryz.ntmps147
   go_wp2_with fail
   refine (rlet_any s _ (by omega)).mono ?_
   rintro e w1 ⟨hB1, (⟨hn, rfl⟩ | ⟨l, v, hn, rfl, hown⟩)⟩
   · have HN := hide hn
     clear hn
     go_wp2
     go_ret2
     exact post_fail (host_none HSL.out HN.out) hB1 _ rfl
   · have HN := hide hn
     have hll := let_len _ _ _ hn
     rw [ba_len] at hll
     obtain ⟨hll1, hll2⟩ := hll
     have HLV := hide hll2
     have hsz1 := hB1.size
     clear hn hll2
     rcases hown.2 with ⟨rfl, hl0⟩ | ⟨g, cap, cur, rfl, hg1, hg2, hc1, hc2, hc3, hc4⟩
     · have hl1 : l = [] := List.eq_nil_of_length_eq_zero hl0
       have HL1 := hide hl1
       clear hl1 hl0 hown
       go_wp2
       go_loopw [6, 7, 8, 9] (fun x f a i wr => x = .slice none 0 0 ∧ f = .int .i64 0 ∧ a = .int .i64 0 ∧ i = .int .i64 0 ∧ wr = w1) (fun _ _ _ _ _ => 0)
       case atStart => exact ⟨rfl, rfl, rfl, rfl, rfl⟩
       case round =>
        obtain ⟨rfl, rfl, rfl, rfl, rfl⟩ := hrel
        go_wp2_with fail
        refine (rlab_nil _ _ _).mono ?_
        rintro e w2 ⟨hB2, (⟨hn2, rfl⟩ | ⟨x, hn2, _, rfl⟩)⟩
        · clear hn2
          go_wp2
          go_ret2
          exact post_fail (host_bad HSL.out HN.out (by rw [HL1.out]; simp only [Sx.hostGo, Sx.label_nil])) (hB1.trans (hB2.mono hsz1)) _ rfl
        · rw [Sx.label_nil] at hn2; cases hn2
     · have hgl : g < w1.heap.size := (hown.lt g rfl).2
       have HOWN := hide hown
       clear hown hg2 hc3 hc4
       go_wp2
       go_loopw [6, 7, 8, 9] (fun hv fv av iv wr => ∃ (k f : Nat) (pre : List (List UInt8)), fv = .int .i64 f ∧ av = .int .i64 (Sx.allLen pre) ∧ iv = .int .i64 k ∧ k ≤ l.length + 1 ∧ f ≤ k ∧ pre.length ≤ k ∧ Sx.allLen pre ≤ 21 * k ∧ (∀ x ∈ pre, x.length ≤ 20) ∧ Sx.HostAt l k f pre ∧ wr.ownsRow w1.heap.size 9 1 hv pre.length (stV pre) ∧ Below w1.heap.size w1 wr) (fun _ _ _ iv _ => (l.length + 1 - intOf iv).toNat)
       case atStart => exact ⟨0, 0, [], rfl, rfl, rfl, by omega, by omega, by simp, by simp [Sx.allLen], fun x hx => by simp at hx, Sx.HostAt.zero l, World.ownsRow_nil _ _ 9 1, Below.refl _ _⟩
       case round =>
        obtain ⟨k, f, pre, rfl, rfl, rfl, hk, hfk, hpk, hal, hxs, hat, hownh, hB⟩ := hrel
        have HAT := hide hat
        have HXS := hide hxs
        have hszr := hB.size
        clear hat hxs
        by_cases hke : k ≤ l.length
        · have hownl := own_later HOWN.out hB
          by_cases hkl : k < l.length
          · have hcell : wr.cell? ⟨g, k, none⟩ = some (.int .i64 l[k]) := by
             have := (own_cells hownl).2.2.2.2.2.2 k (by simp [inV]; exact hkl)
             rw [this]; simp [inV]
            obtain ⟨c, hc⟩ : ∃ c, l[k] = c := ⟨_, rfl⟩
            rw [hc] at hcell
            have HC := hide hc
            clear hc
            by_cases h46 : c = 46
            · subst h46
              have hdot : Hid (∀ h : k < l.length, l[k] = 46) := hide (fun _ => HC.out)
              have hbl := Sx.between_len l f k hfk hke
              have HBL := hide hbl
              clear hbl
              by_cases hfe : f < k
              · have hrd : ∀ j (h : j < (Sx.between l f k).length), wr.cell? ⟨g, f + j, none⟩ = some (.int .i64 (Sx.between l f k)[j]) := by
                 intro j h
                 have hb2 := HBL.out
                 rw [Sx.between_get l f k j hke h]
                 have := (own_cells hownl).2.2.2.2.2.2 (f + j) (by simp [inV]; omega)
                 rw [this]; simp [inV]
                have hlab := rlab_some (Sx.between l f k) g f (cap - f) wr (by rw [HBL.out]; omega) (by rw [HBL.out]; omega) (by omega) hrd (fun c hc => HLV.out c (List.mem_of_mem_take (List.mem_of_mem_drop hc)))
                rw [HBL.out] at hlab
                have HLAB := hide hlab
                have hcf : ¬ cap = f := by omega
                clear hrd hlab hownl
                go_wp2_with fail
                refine HLAB.out.mono ?_
                rintro e w2 ⟨hB2, (⟨hn2, rfl⟩ | ⟨x, hn2, hx20, rfl⟩)⟩
                all_goals
                 have HN2 := hide hn2
                 clear hn2
                · go_wp2
                  go_ret2
                  exact post_fail (host_bad HSL.out HN.out (HAT.out.bad hke hdot.out HN2.out)) (hB1.trans ((hB.trans (hB2.mono hszr)).mono hsz1)) _ rfl
                · have hown2 := own_later hownh hB2
                  have hB3 := hB.trans (hB2.mono hszr)
                  have hsz3 := hB3.size
                  go_wp2_with (at_builtin; go_must (refine wpList_append_lies _ rfl _ _ _ rfl w1.heap.size 9 i0 (.string ⟨#[]⟩) 1 16 Tryz.underlying34 hi hz0 hz1 hz2 rfl (by decide) _ _ _ rfl (hown2.alloc _) ⟨w2.heap.size, 0, none⟩ 1 1 [.string ⟨x.toArray⟩] rfl rfl (cell_one_new _ _ _) (by simp [Value.oneCell']) (by omega) (by unfold maxLen; omega) (by omega) (by simp; omega) _ rfl ?_; intro g2 cap2 w3 hown3 hgrow hat hlt1))
                  refine ⟨⟨k + 1, k + 1, pre ++ [x], by go_num, by rw [Sx.allLen_snoc]; go_num, by go_num, by omega, by omega, by simp; omega, by rw [Sx.allLen_snoc]; omega, ?_, HAT.out.more hke hdot.out HN2.out, by rw [stV_app, List.length_append]; exact hown3, below_app hB3 hsz3 hown2 hgrow⟩, by simp [intOf]; omega⟩
                  intro y hy
                  rcases List.mem_append.1 hy with hy | hy
                  · exact HXS.out y hy
                  · rw [List.mem_singleton] at hy; rw [hy]; exact hx20
              · have hfe2 : f = k := by omega
                subst hfe2
                clear hownl
                by_cases hcf : cap = f
                all_goals
                 go_wp2_with fail
                 refine (rlab_nil _ _ _).mono ?_
                 rintro e w2 ⟨hB2, (⟨hn2, rfl⟩ | ⟨x, hn2, _, rfl⟩)⟩
                 · clear hn2
                   go_wp2
                   go_ret2
                   exact post_fail (host_bad HSL.out HN.out (HAT.out.bad hke hdot.out (by rw [Sx.between_same]; exact Sx.label_nil))) (hB1.trans ((hB.trans (hB2.mono hszr)).mono hsz1)) _ rfl
                 · rw [Sx.label_nil] at hn2; cases hn2
            · have h46' : (c != 46) = true := by rw [bne_iff_ne]; exact h46
              have H46 := hide h46
              clear h46 hownl
              go_wp2
              exact ⟨⟨k + 1, f, pre, rfl, rfl, by go_num, by omega, by omega, by omega, by omega, HXS.out, HAT.out.skip hkl (by rw [HC.out]; exact H46.out), hownh, hB⟩, by simp [intOf]; omega⟩
          · have hdot : Hid (∀ h : k < l.length, l[k] = 46) := hide (fun h => absurd h hkl)
            have hbl := Sx.between_len l f k hfk hke
            have HBL := hide hbl
            clear hbl
            by_cases hfe : f < k
            · have hrd : ∀ j (h : j < (Sx.between l f k).length), wr.cell? ⟨g, f + j, none⟩ = some (.int .i64 (Sx.between l f k)[j]) := by
               intro j h
               have hb2 := HBL.out
               rw [Sx.between_get l f k j hke h]
               have := (own_cells hownl).2.2.2.2.2.2 (f + j) (by simp [inV]; omega)
               rw [this]; simp [inV]
              have hlab := rlab_some (Sx.between l f k) g f (cap - f) wr (by rw [HBL.out]; omega) (by rw [HBL.out]; omega) (by omega) hrd (fun c hc => HLV.out c (List.mem_of_mem_take (List.mem_of_mem_drop hc)))
              rw [HBL.out] at hlab
              have HLAB := hide hlab
              have hcf : ¬ cap = f := by omega
              clear hrd hlab hownl
              go_wp2_with fail
              refine HLAB.out.mono ?_
              rintro e w2 ⟨hB2, (⟨hn2, rfl⟩ | ⟨x, hn2, hx20, rfl⟩)⟩
              all_goals
               have HN2 := hide hn2
               clear hn2
              · go_wp2
                go_ret2
                exact post_fail (host_bad HSL.out HN.out (HAT.out.bad hke hdot.out HN2.out)) (hB1.trans ((hB.trans (hB2.mono hszr)).mono hsz1)) _ rfl
              · have hown2 := own_later hownh hB2
                have hB3 := hB.trans (hB2.mono hszr)
                have hsz3 := hB3.size
                go_wp2_with (at_builtin; go_must (refine wpList_append_lies _ rfl _ _ _ rfl w1.heap.size 9 i0 (.string ⟨#[]⟩) 1 16 Tryz.underlying34 hi hz0 hz1 hz2 rfl (by decide) _ _ _ rfl (hown2.alloc _) ⟨w2.heap.size, 0, none⟩ 1 1 [.string ⟨x.toArray⟩] rfl rfl (cell_one_new _ _ _) (by simp [Value.oneCell']) (by omega) (by unfold maxLen; omega) (by omega) (by simp; omega) _ rfl ?_; intro g2 cap2 w3 hown3 hgrow hat hlt1))
                refine ⟨⟨k + 1, k + 1, pre ++ [x], by go_num, by rw [Sx.allLen_snoc]; go_num, by go_num, by omega, by omega, by simp; omega, by rw [Sx.allLen_snoc]; omega, ?_, HAT.out.more hke hdot.out HN2.out, by rw [stV_app, List.length_append]; exact hown3, below_app hB3 hsz3 hown2 hgrow⟩, by simp [intOf]; omega⟩
                intro y hy
                rcases List.mem_append.1 hy with hy | hy
                · exact HXS.out y hy
                · rw [List.mem_singleton] at hy; rw [hy]; exact hx20
            · have hfe2 : f = k := by omega
              subst hfe2
              clear hownl
              by_cases hcf : cap = f
              all_goals
               go_wp2_with fail
               refine (rlab_nil _ _ _).mono ?_
               rintro e w2 ⟨hB2, (⟨hn2, rfl⟩ | ⟨x, hn2, _, rfl⟩)⟩
               · clear hn2
                 go_wp2
                 go_ret2
                 exact post_fail (host_bad HSL.out HN.out (HAT.out.bad hke hdot.out (by rw [Sx.between_same]; exact Sx.label_nil))) (hB1.trans ((hB.trans (hB2.mono hszr)).mono hsz1)) _ rfl
               · rw [Sx.label_nil] at hn2; cases hn2
        · obtain ⟨hgo, _⟩ := HAT.out.done (by omega)
          have hpos := hostGo_ne _ _ _ hgo
          have hend := host_end HSL.out HN.out hgo
          have HEND := hide hend
          obtain ⟨gh, caph, rfl, hgh1, hgh2⟩ := hownh.form hpos
          have hcell := own_str hownh (pre.length - 1) (by omega)
          obtain ⟨t, ht⟩ : ∃ t : ByteArray, (⟨(pre.getD (pre.length - 1) []).toArray⟩ : ByteArray) = t := ⟨_, rfl⟩
          have htl : pre.getD (pre.length - 1) [] = t.data.toList := by rw [← ht]
          rw [ht] at hcell
          have hdig : Sx.digs (pre.getD (pre.length - 1) []) = Sx.digs t.data.toList := by rw [htl]
          have HDIG := hide hdig
          have ht20 : t.size ≤ 20 := by
           rw [← ba_len, ← htl]
           exact HXS.out _ (by rw [List.getD_eq_getElem?_getD, List.getElem?_eq_getElem (by omega), Option.getD_some]; exact List.getElem_mem _)
          have hfin1 : Hid (Sx.digs t.data.toList = true ∨ 6 < pre.length ∨ 61 < Sx.allLen pre → Sx.host s.data.toList = ([], 2)) := hide (fun h => by
           rw [hend]; unfold Sx.hostEnd; rw [hdig, if_pos]
           rcases h with h | h | h <;> simp [h])
          have hfin2 : Hid (Sx.digs t.data.toList = false → ¬ 6 < pre.length → ¬ 61 < Sx.allLen pre → Sx.host s.data.toList = (pre, 0)) := hide (fun h1 h2 h3 => by
           rw [hend]; unfold Sx.hostEnd; rw [hdig, if_neg]
           simp [h1]; omega)
          have hBB := hB1.trans (hB.mono hsz1)
          clear hgo hend ht htl hdig
          go_wp2
          go_loop [13, 14] (fun o i => ∃ (j : Nat) (b : Bool), o = .bool b ∧ i = .int .i64 j ∧ j ≤ t.size ∧ Sx.digs (t.data.toList.take j) = b) (fun _ i => (t.size - intOf i).toNat)
          case atStart => exact ⟨0, true, rfl, rfl, by omega, rfl⟩
          case round =>
           obtain ⟨j, b, rfl, rfl, hj, hdj⟩ := hrel
           have HDJ := hide hdj
           clear hdj
           by_cases hjl : j < t.size
           · have hmo := digs_more t.data.toList j (by rw [ba_len]; exact hjl)
             rw [byte_at t j hjl, HDJ.out] at hmo
             have HMO := hide hmo
             clear hmo
             cases b with
             | false =>
               go_wp2
               exact ⟨⟨j + 1, false, rfl, by go_num, by omega, by rw [HMO.out]; rfl⟩, by simp [intOf]; omega⟩
             | true =>
               have hub := t[j].toNat_lt
               by_cases q1 : 48 ≤ t[j].toNat
               · by_cases q2 : t[j].toNat ≤ 57
                 · have d1 : decide (48 ≤ (t[j].toNat : Int)) = true := by simp; omega
                   have d2 : decide ((t[j].toNat : Int) ≤ 57) = true := by simp; omega
                   go_wp2
                   exact ⟨⟨j + 1, true, rfl, by go_num, by omega, by rw [HMO.out]; simp [q1, q2]⟩, by simp [intOf]; omega⟩
                 · have d1 : decide (48 ≤ (t[j].toNat : Int)) = true := by simp; omega
                   have d2 : decide ((t[j].toNat : Int) ≤ 57) = false := by simp; omega
                   go_wp2
                   exact ⟨⟨j + 1, false, rfl, by go_num, by omega, by rw [HMO.out]; simp; omega⟩, by simp [intOf]; omega⟩
               · have d1 : decide (48 ≤ (t[j].toNat : Int)) = false := by simp; omega
                 go_wp2
                 exact ⟨⟨j + 1, false, rfl, by go_num, by omega, by rw [HMO.out]; simp; omega⟩, by simp [intOf]; omega⟩
           · have hb : Sx.digs t.data.toList = b := by rw [← HDJ.out, List.take_of_length_le (by rw [ba_len]; omega)]
             have HB := hide hb
             clear hb
             cases b with
             | true =>
               go_wp2
               go_ret2
               exact post_fail (hfin1.out (.inl HB.out)) hBB _ rfl
             | false =>
               by_cases r1 : 6 < pre.length
               · have d1 : decide (6 < (pre.length : Int)) = true := by simp; omega
                 go_wp2
                 go_ret2
                 exact post_fail (hfin1.out (.inr (.inl r1))) hBB _ rfl
               · have d1 : decide (6 < (pre.length : Int)) = false := by simp; omega
                 by_cases r2 : 61 < Sx.allLen pre
                 · go_wp2
                   go_ret2
                   exact post_fail (hfin1.out (.inr (.inr r2))) hBB _ rfl
                 · go_wp2
                   go_ret2
                   have hh := hfin2.out HB.out r1 r2
                   refine ⟨hBB, .slice (some ⟨gh, 0, none⟩) pre.length caph, ?_, ?_, ?_, ?_⟩
                   rotate_left
                   · rw [hh]; exact hownh.mono hsz1
                   · rw [hh]; simp; omega
                   · rw [hh]; exact HXS.out
                   · rw [hh]
                     rfl
end Go.Proofs.YtgohllfpceeboaaGreatDoor
namespace Go.Proofs.YtgohllfpceeboaaGreatDoor
open Go.RowKit
theorem own_lowerK {w : World} {B B' n : Nat} {e : TypeId} {z : Nat} {v : Value} {xs : List Value} (h : w.ownsRow B e z v n xs) (hk : B' ≤ B) : w.ownsRow B' e z v n xs := by
 refine ⟨h.1, ?_⟩
 rcases h.2 with h2 | ⟨g, cap, cur, hv, hg, r⟩
 · exact .inl h2
 · exact .inr ⟨g, cap, cur, hv, Nat.le_trans hk hg, r⟩
theorem own_shapeK {w : World} {B n : Nat} {e : TypeId} {z : Nat} {v : Value} {xs : List Value} (h : w.ownsRow B e z v n xs) : ∃ p cap, v = .slice p n cap := by
 rcases h.2 with ⟨rfl, rfl⟩ | ⟨g, cap, cur, hv, _⟩
 · exact ⟨none, 0, rfl⟩
 · exact ⟨_, cap, hv⟩
def ReadPost (s : List UInt8) (sec : UInt8) (B : Nat) (w : World) (e : Ending) (w' : World) : Prop :=
 Below B w w' ∧ ∃ (v : Value) (kd : UInt8), (∃ p m c, v = .slice p m c) ∧ e = .returned (.tuple #[.agg #[v, .int .u8 kd.toNat, .int .u8 sec.toNat], .bool (Sx.readRl s sec).isSome]) ∧ ∀ r, Sx.readRl s sec = some r → r.2.1 = kd ∧ r.2.2 = sec ∧ w'.ownsRow B 9 1 v r.1.length (stV r.1) ∧ r.1.length ≤ 6 ∧ ∀ x ∈ r.1, x.length ≤ 20
theorem readRl_some {s : List UInt8} {sec kd : UInt8} {t : List UInt8} (hc : Sx.cutRl s = (kd, t)) : (Sx.readRl s sec).isSome = (decide ((Sx.host t).2 = 0) && (decide (kd ≠ 33) || decide (1 < (Sx.host t).1.length))) ∧ ∀ r, Sx.readRl s sec = some r → r = ((Sx.host t).1, kd, sec) := by
 unfold Sx.readRl
 rw [hc]
 constructor
 · by_cases h : (Sx.host t).2 = 0 ∧ (kd = 33 → 1 < (Sx.host t).1.length)
   · rw [if_pos h]
     obtain ⟨h1, h2⟩ := h
     by_cases h3 : kd = 33
     · simp [h1, h2 h3]
     · simp [h1, h3]
   · rw [if_neg h]
     by_cases h1 : (Sx.host t).2 = 0
     · by_cases h3 : kd = 33
       · have : ¬ 1 < (Sx.host t).1.length := fun h4 => h ⟨h1, fun _ => h4⟩
         simp [h3, this]
       · exact absurd ⟨h1, fun e => absurd e h3⟩ h
     · simp [h1]
 · intro r hr
   split at hr
   · exact (Option.some.inj hr).symm
   · cases hr
theorem alloc2_cell (w : World) (A : Obj) (cs : Array Value) (t : TypeId) (j : Nat) : ((w.alloc A).alloc (.cells cs t)).cell? ⟨w.heap.size + 1, j, none⟩ = cs[j]? := by
 have hz : (w.alloc A).heap.size = w.heap.size + 1 := World.size_alloc _ _
 rw [← hz, World.cell?_alloc_mark]
theorem alloc2_frozen (w : World) (A : Obj) (cs : Array Value) (t : TypeId) (j : Nat) : ((w.alloc A).alloc (.cells cs t)).frozen? ⟨w.heap.size + 1, j, none⟩ = false := by
 have hz : (w.alloc A).heap.size = w.heap.size + 1 := World.size_alloc _ _
 rw [← hz]
 simp
theorem read_ends {s : List UInt8} {sec kd : UInt8} {t : List UInt8} {w w1 : World} {A : Obj} {cs : Array Value} {ty : TypeId} {v : Value} (b : Bool) (a0 a1 a2 : Value) (HC : Hid ((Sx.readRl s sec).isSome = (decide ((Sx.host t).2 = 0) && (decide (kd ≠ 33) || decide (1 < (Sx.host t).1.length))) ∧ ∀ r, Sx.readRl s sec = some r → r = ((Sx.host t).1, kd, sec)))
 (hB : Below ((w.alloc A).alloc (.cells cs ty)).heap.size ((w.alloc A).alloc (.cells cs ty)) w1) (ho : w1.ownsRow ((w.alloc A).alloc (.cells cs ty)).heap.size 9 1 v (Sx.host t).1.length (stV (Sx.host t).1)) (h6 : (Sx.host t).1.length ≤ 6) (hx : ∀ x ∈ (Sx.host t).1, x.length ≤ 20) (hb : (decide ((Sx.host t).2 = 0) && (decide (kd ≠ 33) || decide (1 < (Sx.host t).1.length))) = b) :
 ReadPost s sec w.heap.size w (.returned (.tuple #[.agg #[v, .int .u8 kd.toNat, .int .u8 sec.toNat], .bool b])) ((((w1.setCell ⟨w.heap.size + 1, 0, none⟩ v).setCell ⟨w.heap.size, 0, none⟩ a0).setCell ⟨w.heap.size, 1, none⟩ a1).setCell ⟨w.heap.size, 2, none⟩ a2) := by
 obtain ⟨h1, h2⟩ := HC.out
 have hz1 : ((w.alloc A).alloc (.cells cs ty)).heap.size = w.heap.size + 2 := by rw [World.size_alloc, World.size_alloc]
 have hB0 : Below w.heap.size w w1 := (((Below.refl _ w).alloc (Nat.le_refl _) A).alloc (by simp) (.cells cs ty)).trans (hB.mono (by omega))
 have hs1 : ∀ (k o : Nat) (x : Value) (W : World), Below w.heap.size w W → w.heap.size ≤ k → Below w.heap.size w (W.setCell ⟨k, o, none⟩ x) := fun k o x W h hk => h.setCell (show w.heap.size ≤ (⟨k, o, none⟩ : Addr).block from hk) _
 refine ⟨hs1 _ _ _ _ (hs1 _ _ _ _ (hs1 _ _ _ _ (hs1 _ _ _ _ hB0 (by omega)) (Nat.le_refl _)) (Nat.le_refl _)) (Nat.le_refl _), v, kd, (by obtain ⟨p, c, hv⟩ := own_shapeK ho; exact ⟨p, _, c, hv⟩), by rw [h1, hb], fun r hr => ?_⟩
 have := h2 r hr
 subst this
 refine ⟨rfl, rfl, ?_, h6, hx⟩
 rw [hz1] at ho
 have hst : ∀ (k o : Nat) (x : Value) (W : World), k < w.heap.size + 2 → W.ownsRow (w.heap.size + 2) 9 1 v (Sx.host t).1.length (stV (Sx.host t).1) → (W.setCell ⟨k, o, none⟩ x).ownsRow (w.heap.size + 2) 9 1 v (Sx.host t).1.length (stV (Sx.host t).1) := by
  intro k o x W hk h
  have hg : W.grownBy (W.setCell ⟨k, o, none⟩ x) (some k) := ⟨rfl, rfl, rfl, by rw [World.size_setCell]; exact Nat.le_refl _, fun j hj hne => heap_setCell_other _ _ _ _ (fun e => hne (by rw [e]))⟩
  refine h.kept hg (.inr ?_)
  intro e
  have := (h.lt _ e).1
  omega
 exact own_lowerK (hst _ _ _ _ (by omega) (hst _ _ _ _ (by omega) (hst _ _ _ _ (by omega) (hst _ _ _ _ (by omega) ho)))) (by omega)
theorem alloc1_cell (w : World) (cs : Array Value) (t : TypeId) (A : Obj) (j : Nat) : ((w.alloc (.cells cs t)).alloc A).cell? ⟨w.heap.size, j, none⟩ = cs[j]? := by
 rw [World.cell?_alloc_lt _ _ _ (by simp), World.cell?_alloc_mark]
theorem alloc1_frozen (w : World) (cs : Array Value) (t : TypeId) (A : Obj) (j : Nat) : ((w.alloc (.cells cs t)).alloc A).frozen? ⟨w.heap.size, j, none⟩ = false := by
 simp
theorem cut_star {s : ByteArray} (e : ((s.extract 0 2).toList == [42, 46]) = true) : Sx.cutRl s.data.toList = (42, (s.extract 2 s.size).data.toList) := by
 unfold Sx.cutRl
 rw [← ba_take, ← ByteArray.toList_eq, if_pos (by simpa using e), ba_drop]
theorem take1 {s : ByteArray} (h : 0 < s.size) : s.data.toList.take 1 = [s.data.toList[0]'(by rw [ba_len]; exact h)] := by
 have : 0 < s.data.toList.length := by rw [ba_len]; exact h
 obtain ⟨x, r, hx⟩ := List.exists_cons_of_ne_nil (List.ne_nil_of_length_pos this)
 simp [hx]
theorem cut_not {s : ByteArray} (e : s.size < 2 ∨ ((s.extract 0 2).toList == [42, 46]) = false) : s.data.toList.take 2 ≠ [42, 46] := by
 intro h
 rcases e with e | e
 · have := congrArg List.length h
   rw [List.length_take, ba_len] at this
   simp at this; omega
 · rw [← ba_take, ← ByteArray.toList_eq] at h
   simp [h] at e
theorem cut_exc {s : ByteArray} (h : 0 < s.size) (e : s.size < 2 ∨ ((s.extract 0 2).toList == [42, 46]) = false) (h0 : s.data.toList[0]'(by rw [ba_len]; exact h) = 33) : Sx.cutRl s.data.toList = (33, (s.extract 1 s.size).data.toList) := by
 unfold Sx.cutRl
 rw [if_neg (cut_not e), take1 h, h0, if_pos rfl, ba_drop]
theorem cut_plain {s : ByteArray} (e : s.size < 2 ∨ ((s.extract 0 2).toList == [42, 46]) = false) (h0 : ∀ h : 0 < s.size, s.data.toList[0]'(by rw [ba_len]; exact h) ≠ 33) : Sx.cutRl s.data.toList = (36, s.data.toList) := by
 unfold Sx.cutRl
 rw [if_neg (cut_not e), if_neg]
 intro h
 by_cases hz : 0 < s.size
 · rw [take1 hz] at h
   exact h0 hz (by simpa using h)
 · have := congrArg List.length h
   rw [List.length_take, ba_len] at this
   simp at this; omega
set_option maxRecDepth 100000 in
set_option maxHeartbeats 2000000 in
theorem rread_any (s : ByteArray) (sec : UInt8) (w : World) : Calls Tryz.prog 204 #[.string s, .int .u8 sec.toNat] w (ReadPost s.data.toList sec w.heap.size w) := by
 by_cases hstar : 2 ≤ s.size ∧ ((s.extract 0 2).toList == [42, 46]) = true
 · obtain ⟨h2, e2⟩ := hstar
   have HC := hide (readRl_some (sec := sec) (cut_star e2))
   go_enter Tryz.func204, Tryz.ntmps204
   go_wp2_with fail
   generalize s.extract 2 s.size = T at HC ⊢
   refine (rhost_any _ _).mono ?_
   rintro e w1 ⟨hB, v, rfl, ho, h6, hx⟩
   have k0 := (hB.cell (p := ⟨w.heap.size + 1, 0, none⟩) (by simp)).trans (alloc2_cell _ _ _ _ _)
   have k1 := (hB.cell (p := ⟨w.heap.size + 1, 1, none⟩) (by simp)).trans (alloc2_cell _ _ _ _ _)
   have k2 := (hB.cell (p := ⟨w.heap.size + 1, 2, none⟩) (by simp)).trans (alloc2_cell _ _ _ _ _)
   have kf := (hB.frozen (p := ⟨w.heap.size + 1, 0, none⟩) (by simp)).trans (alloc2_frozen _ _ _ _ _)
   have q0 := (hB.cell (p := ⟨w.heap.size, 0, none⟩) (by simp; omega)).trans (alloc1_cell _ _ _ _ _)
   have q1 := (hB.cell (p := ⟨w.heap.size, 1, none⟩) (by simp; omega)).trans (alloc1_cell _ _ _ _ _)
   have q2 := (hB.cell (p := ⟨w.heap.size, 2, none⟩) (by simp; omega)).trans (alloc1_cell _ _ _ _ _)
   have qf : ∀ j, w1.frozen? ⟨w.heap.size, j, none⟩ = false := fun j => (hB.frozen (p := ⟨w.heap.size, j, none⟩) (by simp; omega)).trans (alloc1_frozen _ _ _ _ _)
   have FIN := hide (fun b a0 a1 a2 => read_ends b a0 a1 a2 HC hB ho h6 hx)
   simp only [List.getElem?_toArray, List.getElem?_cons_zero, List.getElem?_cons_succ] at k0 k1 k2 q0 q1 q2
   obtain ⟨p, cap, rfl⟩ := own_shapeK ho
   generalize (Sx.host T.data.toList).2 = n at FIN ⊢
   generalize (Sx.host T.data.toList).1.length = L at FIN h6 ⊢
   clear ho hx HC
   by_cases hn : n = 0
   · subst hn
     go_wp2
     (try simp only [Exit.inBlock, Exit.then])
     refine bodyPost_ret (v := .tuple #[.agg #[.slice p L cap, .int .u8 42, .int .u8 sec.toNat], .bool true]) ?_ rfl (FIN.out _ _ _ _ (by simp))
     rw [results_cell_tmp rfl]
     go_simp
   · have hn' : (n == 0) = false := by simpa using hn
     go_wp2
     (try simp only [Exit.inBlock, Exit.then])
     refine bodyPost_ret (v := .tuple #[.agg #[.slice p L cap, .int .u8 42, .int .u8 sec.toNat], .bool false]) ?_ rfl (FIN.out _ _ _ _ (by simp [hn]))
     rw [results_cell_tmp rfl]
     go_simp
 · have e2 : s.size < 2 ∨ ((s.extract 0 2).toList == [42, 46]) = false := by
    by_cases h2 : 2 ≤ s.size
    · right
      cases h : ((s.extract 0 2).toList == [42, 46]) with
      | true => exact absurd ⟨h2, h⟩ hstar
      | false => rfl
    · left; omega
   clear hstar
   by_cases h1 : 0 < s.size
   · have hg : s[0] = s.data.toList[0]'(by rw [ba_len]; exact h1) := rfl
     by_cases h33 : s.data.toList[0]'(by rw [ba_len]; exact h1) = 33
     · have HC := hide (readRl_some (sec := sec) (cut_exc h1 e2 h33))
       have hb : ((s[0].toNat : Int) == 33) = true := by rw [hg, h33]; rfl
       clear hg h33
       go_enter Tryz.func204, Tryz.ntmps204
       by_cases h2 : 2 ≤ s.size
       · have e2' : ((s.extract 0 2).toList == [42, 46]) = false := by
          rcases e2 with e2 | e2
          · omega
          · exact e2
         clear e2
         go_wp2_with fail
         generalize s.extract 1 s.size = T at HC ⊢
         refine (rhost_any _ _).mono ?_
         rintro e w1 ⟨hB, v, rfl, ho, h6, hx⟩
         have k0 := (hB.cell (p := ⟨w.heap.size + 1, 0, none⟩) (by simp)).trans (alloc2_cell _ _ _ _ _)
         have k1 := (hB.cell (p := ⟨w.heap.size + 1, 1, none⟩) (by simp)).trans (alloc2_cell _ _ _ _ _)
         have k2 := (hB.cell (p := ⟨w.heap.size + 1, 2, none⟩) (by simp)).trans (alloc2_cell _ _ _ _ _)
         have kf := (hB.frozen (p := ⟨w.heap.size + 1, 0, none⟩) (by simp)).trans (alloc2_frozen _ _ _ _ _)
         have q0 := (hB.cell (p := ⟨w.heap.size, 0, none⟩) (by simp; omega)).trans (alloc1_cell _ _ _ _ _)
         have q1 := (hB.cell (p := ⟨w.heap.size, 1, none⟩) (by simp; omega)).trans (alloc1_cell _ _ _ _ _)
         have q2 := (hB.cell (p := ⟨w.heap.size, 2, none⟩) (by simp; omega)).trans (alloc1_cell _ _ _ _ _)
         have qf : ∀ j, w1.frozen? ⟨w.heap.size, j, none⟩ = false := fun j => (hB.frozen (p := ⟨w.heap.size, j, none⟩) (by simp; omega)).trans (alloc1_frozen _ _ _ _ _)
         have FIN := hide (fun b a0 a1 a2 => read_ends b a0 a1 a2 HC hB ho h6 hx)
         simp only [List.getElem?_toArray, List.getElem?_cons_zero, List.getElem?_cons_succ] at k0 k1 k2 q0 q1 q2
         obtain ⟨p, cap, rfl⟩ := own_shapeK ho
         generalize (Sx.host T.data.toList).2 = n at FIN ⊢
         generalize (Sx.host T.data.toList).1.length = L at FIN h6 ⊢
         clear ho hx HC
         by_cases hn : n = 0
         · subst hn
           by_cases h1L : 1 < L
           · have h1i : (1 : Int) < (L : Int) := by omega
             go_wp2
             (try simp only [Exit.inBlock, Exit.then])
             refine bodyPost_ret (v := .tuple #[.agg #[.slice p L cap, .int .u8 33, .int .u8 sec.toNat], .bool true]) ?_ rfl (FIN.out _ _ _ _ (by simp [h1L]))
             rw [results_cell_tmp rfl]
             go_simp
           · have h1i : ¬ (1 : Int) < (L : Int) := by omega
             go_wp2
             (try simp only [Exit.inBlock, Exit.then])
             refine bodyPost_ret (v := .tuple #[.agg #[.slice p L cap, .int .u8 33, .int .u8 sec.toNat], .bool false]) ?_ rfl (FIN.out _ _ _ _ (by simp [h1L]))
             rw [results_cell_tmp rfl]
             go_simp
         · have hn' : (n == 0) = false := by simpa using hn
           go_wp2
           (try simp only [Exit.inBlock, Exit.then])
           refine bodyPost_ret (v := .tuple #[.agg #[.slice p L cap, .int .u8 33, .int .u8 sec.toNat], .bool false]) ?_ rfl (FIN.out _ _ _ _ (by simp [hn]))
           rw [results_cell_tmp rfl]
           go_simp
       · clear e2
         go_wp2_with fail
         generalize s.extract 1 s.size = T at HC ⊢
         refine (rhost_any _ _).mono ?_
         rintro e w1 ⟨hB, v, rfl, ho, h6, hx⟩
         have k0 := (hB.cell (p := ⟨w.heap.size + 1, 0, none⟩) (by simp)).trans (alloc2_cell _ _ _ _ _)
         have k1 := (hB.cell (p := ⟨w.heap.size + 1, 1, none⟩) (by simp)).trans (alloc2_cell _ _ _ _ _)
         have k2 := (hB.cell (p := ⟨w.heap.size + 1, 2, none⟩) (by simp)).trans (alloc2_cell _ _ _ _ _)
         have kf := (hB.frozen (p := ⟨w.heap.size + 1, 0, none⟩) (by simp)).trans (alloc2_frozen _ _ _ _ _)
         have q0 := (hB.cell (p := ⟨w.heap.size, 0, none⟩) (by simp; omega)).trans (alloc1_cell _ _ _ _ _)
         have q1 := (hB.cell (p := ⟨w.heap.size, 1, none⟩) (by simp; omega)).trans (alloc1_cell _ _ _ _ _)
         have q2 := (hB.cell (p := ⟨w.heap.size, 2, none⟩) (by simp; omega)).trans (alloc1_cell _ _ _ _ _)
         have qf : ∀ j, w1.frozen? ⟨w.heap.size, j, none⟩ = false := fun j => (hB.frozen (p := ⟨w.heap.size, j, none⟩) (by simp; omega)).trans (alloc1_frozen _ _ _ _ _)
         have FIN := hide (fun b a0 a1 a2 => read_ends b a0 a1 a2 HC hB ho h6 hx)
         simp only [List.getElem?_toArray, List.getElem?_cons_zero, List.getElem?_cons_succ] at k0 k1 k2 q0 q1 q2
         obtain ⟨p, cap, rfl⟩ := own_shapeK ho
         generalize (Sx.host T.data.toList).2 = n at FIN ⊢
         generalize (Sx.host T.data.toList).1.length = L at FIN h6 ⊢
         clear ho hx HC
         by_cases hn : n = 0
         · subst hn
           by_cases h1L : 1 < L
           · have h1i : (1 : Int) < (L : Int) := by omega
             go_wp2
             (try simp only [Exit.inBlock, Exit.then])
             refine bodyPost_ret (v := .tuple #[.agg #[.slice p L cap, .int .u8 33, .int .u8 sec.toNat], .bool true]) ?_ rfl (FIN.out _ _ _ _ (by simp [h1L]))
             rw [results_cell_tmp rfl]
             go_simp
           · have h1i : ¬ (1 : Int) < (L : Int) := by omega
             go_wp2
             (try simp only [Exit.inBlock, Exit.then])
             refine bodyPost_ret (v := .tuple #[.agg #[.slice p L cap, .int .u8 33, .int .u8 sec.toNat], .bool false]) ?_ rfl (FIN.out _ _ _ _ (by simp [h1L]))
             rw [results_cell_tmp rfl]
             go_simp
         · have hn' : (n == 0) = false := by simpa using hn
           go_wp2
           (try simp only [Exit.inBlock, Exit.then])
           refine bodyPost_ret (v := .tuple #[.agg #[.slice p L cap, .int .u8 33, .int .u8 sec.toNat], .bool false]) ?_ rfl (FIN.out _ _ _ _ (by simp [hn]))
           rw [results_cell_tmp rfl]
           go_simp
     · have HC := hide (readRl_some (sec := sec) (cut_plain e2 (fun _ => h33)))
       have hb : ((s[0].toNat : Int) == 33) = false := by
        rw [hg, beq_eq_false_iff_ne]
        intro e
        apply h33
        apply UInt8.toNat_inj.1
        have : (s.data.toList[0]'(by rw [ba_len]; exact h1)).toNat = 33 := by omega
        rw [this]; rfl
       clear hg h33
       go_enter Tryz.func204, Tryz.ntmps204
       by_cases h2 : 2 ≤ s.size
       · have e2' : ((s.extract 0 2).toList == [42, 46]) = false := by
          rcases e2 with e2 | e2
          · omega
          · exact e2
         clear e2
         go_wp2_with fail
         refine (rhost_any _ _).mono ?_
         rintro e w1 ⟨hB, v, rfl, ho, h6, hx⟩
         have k0 := (hB.cell (p := ⟨w.heap.size + 1, 0, none⟩) (by simp)).trans (alloc2_cell _ _ _ _ _)
         have k1 := (hB.cell (p := ⟨w.heap.size + 1, 1, none⟩) (by simp)).trans (alloc2_cell _ _ _ _ _)
         have k2 := (hB.cell (p := ⟨w.heap.size + 1, 2, none⟩) (by simp)).trans (alloc2_cell _ _ _ _ _)
         have kf := (hB.frozen (p := ⟨w.heap.size + 1, 0, none⟩) (by simp)).trans (alloc2_frozen _ _ _ _ _)
         have q0 := (hB.cell (p := ⟨w.heap.size, 0, none⟩) (by simp; omega)).trans (alloc1_cell _ _ _ _ _)
         have q1 := (hB.cell (p := ⟨w.heap.size, 1, none⟩) (by simp; omega)).trans (alloc1_cell _ _ _ _ _)
         have q2 := (hB.cell (p := ⟨w.heap.size, 2, none⟩) (by simp; omega)).trans (alloc1_cell _ _ _ _ _)
         have qf : ∀ j, w1.frozen? ⟨w.heap.size, j, none⟩ = false := fun j => (hB.frozen (p := ⟨w.heap.size, j, none⟩) (by simp; omega)).trans (alloc1_frozen _ _ _ _ _)
         have FIN := hide (fun b a0 a1 a2 => read_ends b a0 a1 a2 HC hB ho h6 hx)
         simp only [List.getElem?_toArray, List.getElem?_cons_zero, List.getElem?_cons_succ] at k0 k1 k2 q0 q1 q2
         obtain ⟨p, cap, rfl⟩ := own_shapeK ho
         generalize (Sx.host s.data.toList).2 = n at FIN ⊢
         generalize (Sx.host s.data.toList).1.length = L at FIN h6 ⊢
         clear ho hx HC
         by_cases hn : n = 0
         · subst hn
           go_wp2
           (try simp only [Exit.inBlock, Exit.then])
           refine bodyPost_ret (v := .tuple #[.agg #[.slice p L cap, .int .u8 36, .int .u8 sec.toNat], .bool true]) ?_ rfl (FIN.out _ _ _ _ (by simp))
           rw [results_cell_tmp rfl]
           go_simp
         · have hn' : (n == 0) = false := by simpa using hn
           go_wp2
           (try simp only [Exit.inBlock, Exit.then])
           refine bodyPost_ret (v := .tuple #[.agg #[.slice p L cap, .int .u8 36, .int .u8 sec.toNat], .bool false]) ?_ rfl (FIN.out _ _ _ _ (by simp [hn]))
           rw [results_cell_tmp rfl]
           go_simp
       · clear e2
         go_wp2_with fail
         refine (rhost_any _ _).mono ?_
         rintro e w1 ⟨hB, v, rfl, ho, h6, hx⟩
         have k0 := (hB.cell (p := ⟨w.heap.size + 1, 0, none⟩) (by simp)).trans (alloc2_cell _ _ _ _ _)
         have k1 := (hB.cell (p := ⟨w.heap.size + 1, 1, none⟩) (by simp)).trans (alloc2_cell _ _ _ _ _)
         have k2 := (hB.cell (p := ⟨w.heap.size + 1, 2, none⟩) (by simp)).trans (alloc2_cell _ _ _ _ _)
         have kf := (hB.frozen (p := ⟨w.heap.size + 1, 0, none⟩) (by simp)).trans (alloc2_frozen _ _ _ _ _)
         have q0 := (hB.cell (p := ⟨w.heap.size, 0, none⟩) (by simp; omega)).trans (alloc1_cell _ _ _ _ _)
         have q1 := (hB.cell (p := ⟨w.heap.size, 1, none⟩) (by simp; omega)).trans (alloc1_cell _ _ _ _ _)
         have q2 := (hB.cell (p := ⟨w.heap.size, 2, none⟩) (by simp; omega)).trans (alloc1_cell _ _ _ _ _)
         have qf : ∀ j, w1.frozen? ⟨w.heap.size, j, none⟩ = false := fun j => (hB.frozen (p := ⟨w.heap.size, j, none⟩) (by simp; omega)).trans (alloc1_frozen _ _ _ _ _)
         have FIN := hide (fun b a0 a1 a2 => read_ends b a0 a1 a2 HC hB ho h6 hx)
         simp only [List.getElem?_toArray, List.getElem?_cons_zero, List.getElem?_cons_succ] at k0 k1 k2 q0 q1 q2
         obtain ⟨p, cap, rfl⟩ := own_shapeK ho
         generalize (Sx.host s.data.toList).2 = n at FIN ⊢
         generalize (Sx.host s.data.toList).1.length = L at FIN h6 ⊢
         clear ho hx HC
         by_cases hn : n = 0
         · subst hn
           go_wp2
           (try simp only [Exit.inBlock, Exit.then])
           refine bodyPost_ret (v := .tuple #[.agg #[.slice p L cap, .int .u8 36, .int .u8 sec.toNat], .bool true]) ?_ rfl (FIN.out _ _ _ _ (by simp))
           rw [results_cell_tmp rfl]
           go_simp
         · have hn' : (n == 0) = false := by simpa using hn
           go_wp2
           (try simp only [Exit.inBlock, Exit.then])
           refine bodyPost_ret (v := .tuple #[.agg #[.slice p L cap, .int .u8 36, .int .u8 sec.toNat], .bool false]) ?_ rfl (FIN.out _ _ _ _ (by simp [hn]))
           rw [results_cell_tmp rfl]
           go_simp
   · have HC := hide (readRl_some (sec := sec) (cut_plain e2 (fun h => absurd h h1)))
     clear e2
     have h0 : s.size = 0 := by omega
     have h0a : ¬ (2 : Int) ≤ (s.size : Int) := by omega
     have h0b : ¬ (1 : Int) ≤ (s.size : Int) := by omega
     clear h0
     go_enter Tryz.func204, Tryz.ntmps204
     go_wp2_with fail
     refine (rhost_any _ _).mono ?_
     rintro e w1 ⟨hB, v, rfl, ho, h6, hx⟩
     have k0 := (hB.cell (p := ⟨w.heap.size + 1, 0, none⟩) (by simp)).trans (alloc2_cell _ _ _ _ _)
     have k1 := (hB.cell (p := ⟨w.heap.size + 1, 1, none⟩) (by simp)).trans (alloc2_cell _ _ _ _ _)
     have k2 := (hB.cell (p := ⟨w.heap.size + 1, 2, none⟩) (by simp)).trans (alloc2_cell _ _ _ _ _)
     have kf := (hB.frozen (p := ⟨w.heap.size + 1, 0, none⟩) (by simp)).trans (alloc2_frozen _ _ _ _ _)
     have q0 := (hB.cell (p := ⟨w.heap.size, 0, none⟩) (by simp; omega)).trans (alloc1_cell _ _ _ _ _)
     have q1 := (hB.cell (p := ⟨w.heap.size, 1, none⟩) (by simp; omega)).trans (alloc1_cell _ _ _ _ _)
     have q2 := (hB.cell (p := ⟨w.heap.size, 2, none⟩) (by simp; omega)).trans (alloc1_cell _ _ _ _ _)
     have qf : ∀ j, w1.frozen? ⟨w.heap.size, j, none⟩ = false := fun j => (hB.frozen (p := ⟨w.heap.size, j, none⟩) (by simp; omega)).trans (alloc1_frozen _ _ _ _ _)
     have FIN := hide (fun b a0 a1 a2 => read_ends b a0 a1 a2 HC hB ho h6 hx)
     simp only [List.getElem?_toArray, List.getElem?_cons_zero, List.getElem?_cons_succ] at k0 k1 k2 q0 q1 q2
     obtain ⟨p, cap, rfl⟩ := own_shapeK ho
     generalize (Sx.host s.data.toList).2 = n at FIN ⊢
     generalize (Sx.host s.data.toList).1.length = L at FIN h6 ⊢
     clear ho hx HC
     by_cases hn : n = 0
     · subst hn
       go_wp2
       (try simp only [Exit.inBlock, Exit.then])
       refine bodyPost_ret (v := .tuple #[.agg #[.slice p L cap, .int .u8 36, .int .u8 sec.toNat], .bool true]) ?_ rfl (FIN.out _ _ _ _ (by simp))
       rw [results_cell_tmp rfl]
       go_simp
     · have hn' : (n == 0) = false := by simpa using hn
       go_wp2
       (try simp only [Exit.inBlock, Exit.then])
       refine bodyPost_ret (v := .tuple #[.agg #[.slice p L cap, .int .u8 36, .int .u8 sec.toNat], .bool false]) ?_ rfl (FIN.out _ _ _ _ (by simp [hn]))
       rw [results_cell_tmp rfl]
       go_simp
end Go.Proofs.YtgohllfpceeboaaGreatDoor
