import Derived.Test.YtgohllfpceeboaaGreatDoorInac
import Derived.Test.YtgohllfpceeboaaGreatDoorInaa
namespace Go.Proofs.YtgohllfpceeboaaGreatDoor
open Go.RowKit
def LetPost (s : List UInt8) (B : Nat) (w : World) (e : Ending) (w' : World) : Prop :=
 Below B w w' ∧ ((Sx.letters s = none ∧ e = .returned (.tuple #[.slice none 0 0, .bool false])) ∨ ∃ l v, Sx.letters s = some l ∧ e = .returned (.tuple #[v, .bool true]) ∧ w'.ownsRow B 3 1 v l.length (inV l))
theorem let_fail {s : List UInt8} {i : Nat} {pre : List Int} (hq : (Sx.letters (s.drop i)).map (pre ++ ·) = Sx.letters s) (hlt : i < s.length) (ho : Sx.one (s.drop i) = none) : Sx.letters s = none := by
 rw [← hq, Sx.letters_none _ (by intro h; have := congrArg List.length h; simp at this; omega) ho]; rfl
theorem let_more {s : List UInt8} {i p : Nat} {pre : List Int} {c : Int} (hq : (Sx.letters (s.drop i)).map (pre ++ ·) = Sx.letters s) (ho : Sx.one (s.drop i) = some (c, s.drop p)) : (Sx.letters (s.drop p)).map ((pre ++ [c]) ++ ·) = Sx.letters s := by
 rw [← hq, Sx.letters_some _ _ _ ho, Option.map_map]
 congr 1
 funext x; simp
theorem byte_atC (s : ByteArray) (i : Nat) (_h : i < s.size) (h' : i < s.data.toList.length) : s.data.toList[i] = s[i] := by
 simp; rfl
set_option maxRecDepth 100000 in
set_option maxHeartbeats 4000000 in
theorem rlet_any (s : ByteArray) (w : World) (hs : s.size ≤ 1000) :
 Calls Tryz.prog 198 #[.string s] w (LetPost s.data.toList w.heap.size w) := by
 obtain ⟨i0, hi, hz0, hz1, hz2⟩ := info_parts Tryz.info3
 have hlen : s.data.toList.length = s.size := by simp
 have HL := hide hlen
 clear hlen
 go_enter Tryz.func198, Tryz.ntmps198
 go_wp2
 go_loopw [4, 5] (fun x n wr => ∃ (i : Nat) (pre : List Int), n = .int .i64 i ∧ i ≤ s.size ∧ pre.length ≤ i ∧ wr.ownsRow w.heap.size 3 1 x pre.length (inV pre) ∧ Below w.heap.size w wr ∧ (Sx.letters (s.data.toList.drop i)).map (pre ++ ·) = Sx.letters s.data.toList) (fun _ n _ => (s.size - intOf n).toNat)
 case atStart => exact ⟨0, [], rfl, by omega, by simp, World.ownsRow_nil w _ 3 1, Below.refl _ _, by simp⟩
 case round =>
  obtain ⟨i, pre, rfl, hk, hp, hown, hB, hq⟩ := hrel
  have HQ := hide hq
  clear hq
  have hsz := hB.size
  by_cases hlt : i < s.size
  · have hx := s[i].toNat_lt
    have hi2 : i < s.data.toList.length := by rw [HL.out]; exact hlt
    have hb := byte_atC s i hlt hi2
    have HBY := hide hb
    clear hb
    by_cases c1 : s[i].toNat < 128
    · skip
      have hlead : Hid (Sx.lead s.data.toList[i] = some (0, (s[i].toNat : Int), 0)) := by
       refine hide ?_
       rw [HBY.out]; unfold Sx.lead; rw [if_pos c1]
      go_wp2
      go_loop [5, 6, 9] (fun n c k => ∃ (j p : Nat) (cc : Int), n = .int .i64 p ∧ c = .int .i64 cc ∧ k = .int .i64 j ∧ j ≤ 0 ∧ p ≤ s.size ∧ i + 1 + j ≤ p ∧ p ≤ i + 1 + j ∧ 0 ≤ cc ∧ cc ≤ 67108863 ∧ cc ≤ Sx.cb j ∧ Sx.contF (0 - j) cc (s.data.toList.drop p) = Sx.contF 0 ((s[i].toNat : Int)) (s.data.toList.drop (i + 1))) (fun _ _ k => (0 - intOf k).toNat)
      case atStart => exact ⟨0, i + 1, _, by go_num, rfl, rfl, by omega, by omega, by omega, by omega, by omega, by omega, by simp [Sx.cb]; omega, rfl⟩
      case round =>
       obtain ⟨j, p, cc, rfl, rfl, rfl, hj, hps, hp1, hp2, hc0, hc1, hcb, hcq⟩ := hrel
       have HCQ := hide hcq
       have HCB := hide hcb
       clear hcq hcb
       by_cases hjm : j < 0
       · omega
       · have hjM : 0 - j = 0 := by omega
         have hcf : Sx.contF 0 ((s[i].toNat : Int)) (s.data.toList.drop (i + 1)) = some (cc, s.data.toList.drop p) := by rw [← HCQ.out, hjM]; rfl
         have HCF := hide hcf
         clear hcf hjM
         have bads : ∀ hbad : cc < 0 ∨ 1114111 < cc ∨ (55296 ≤ cc ∧ cc ≤ 57343), Sx.letters s.data.toList = none := fun hbad => let_fail HQ.out hi2 (by rw [Sx.one_at _ i hi2 _ _ _ hlead.out]; exact Sx.rest_bad _ _ _ _ _ _ HCF.out hbad)
         have BADS := hide bads
         clear bads
         by_cases d1 : cc < 0
         · omega
         · by_cases d2 : 1114111 < cc
           · go_wp2
             go_ret2
             exact ⟨hB, .inl ⟨BADS.out (by omega), rfl⟩⟩
           · by_cases d3 : 55296 ≤ cc
             · by_cases d4 : cc ≤ 57343
               · go_wp2
                 go_ret2
                 exact ⟨hB, .inl ⟨BADS.out (by omega), rfl⟩⟩
               · have ho : Sx.one (s.data.toList.drop i) = some (cc, s.data.toList.drop p) := by rw [Sx.one_at _ i hi2 _ _ _ hlead.out]; exact Sx.rest_ok _ _ _ _ _ _ HCF.out (by omega)
                 have HO := hide ho
                 clear ho
                 go_wp2_with (at_builtin; go_must (refine wpList_append_lies _ rfl _ _ _ rfl w.heap.size 3 i0 (.int .i64 0) 1 8 Tryz.underlying211 hi hz0 hz1 hz2 rfl (by decide) _ _ _ rfl (hown.alloc _) ⟨wr.heap.size, 0, none⟩ 1 1 [.int .i64 cc] rfl rfl (cell_one_new _ _ _) (by simp [Value.oneCell']) (by omega) (by unfold maxLen; omega) (by omega) (by simp; omega) _ rfl ?_; intro g cap w1 hown1 hgrow hat hlt1))
                 exact ⟨⟨p, pre ++ [cc], rfl, hps, by simp; omega, by rw [inV_app, List.length_append]; exact hown1, below_app hB hsz hown hgrow, let_more HQ.out HO.out⟩, by simp [intOf]; omega⟩
             · have ho : Sx.one (s.data.toList.drop i) = some (cc, s.data.toList.drop p) := by rw [Sx.one_at _ i hi2 _ _ _ hlead.out]; exact Sx.rest_ok _ _ _ _ _ _ HCF.out (by omega)
               have HO := hide ho
               clear ho
               go_wp2_with (at_builtin; go_must (refine wpList_append_lies _ rfl _ _ _ rfl w.heap.size 3 i0 (.int .i64 0) 1 8 Tryz.underlying211 hi hz0 hz1 hz2 rfl (by decide) _ _ _ rfl (hown.alloc _) ⟨wr.heap.size, 0, none⟩ 1 1 [.int .i64 cc] rfl rfl (cell_one_new _ _ _) (by simp [Value.oneCell']) (by omega) (by unfold maxLen; omega) (by omega) (by simp; omega) _ rfl ?_; intro g cap w1 hown1 hgrow hat hlt1))
               exact ⟨⟨p, pre ++ [cc], rfl, hps, by simp; omega, by rw [inV_app, List.length_append]; exact hown1, below_app hB hsz hown hgrow, let_more HQ.out HO.out⟩, by simp [intOf]; omega⟩
    · by_cases c2 : 192 ≤ s[i].toNat
      · by_cases c3 : s[i].toNat < 224
        · skip
          have hlead : Hid (Sx.lead s.data.toList[i] = some (1, (s[i].toNat : Int) - 192, 128)) := by
           refine hide ?_
           rw [HBY.out]; unfold Sx.lead; rw [if_neg (by omega), if_pos (by omega)]
          go_wp2
          go_loop [5, 6, 9] (fun n c k => ∃ (j p : Nat) (cc : Int), n = .int .i64 p ∧ c = .int .i64 cc ∧ k = .int .i64 j ∧ j ≤ 1 ∧ p ≤ s.size ∧ i + 1 + j ≤ p ∧ p ≤ i + 1 + j ∧ 0 ≤ cc ∧ cc ≤ 67108863 ∧ cc ≤ Sx.cb j ∧ Sx.contF (1 - j) cc (s.data.toList.drop p) = Sx.contF 1 ((s[i].toNat : Int) - 192) (s.data.toList.drop (i + 1))) (fun _ _ k => (1 - intOf k).toNat)
          case atStart => exact ⟨0, i + 1, _, by go_num, rfl, rfl, by omega, by omega, by omega, by omega, by omega, by omega, by simp [Sx.cb]; omega, rfl⟩
          case round =>
           obtain ⟨j, p, cc, rfl, rfl, rfl, hj, hps, hp1, hp2, hc0, hc1, hcb, hcq⟩ := hrel
           have HCQ := hide hcq
           have HCB := hide hcb
           clear hcq hcb
           by_cases hjm : j < 1
           · by_cases hpl : p < s.size
             · have hyp := byte_atC s p hpl (by rw [HL.out]; exact hpl)
               have HY := hide hyp
               clear hyp
               have hyl := s[p].toNat_lt
               by_cases g1 : 128 ≤ s[p].toNat
               · by_cases g2 : s[p].toNat < 192
                 · have hstep := Sx.cb_step cc j s[p].toNat HCB.out (by omega)
                   have hle := Sx.cb_le (j + 1) (by omega)
                   have HST := hide hstep
                   have hcc2 : cc * 64 + (s[p].toNat : Int) - 128 ≤ 67108863 := by omega
                   clear hstep hle
                   go_wp2
                   refine ⟨⟨u2, u3, _, _, _, ⟨j + 1, p + 1, by go_num, _, rfl, by go_num, by omega, by omega, by omega, by omega, by omega, hcc2, HST.out, ?_⟩, rfl, rfl, rfl, rfl, rfl⟩, by simp [intOf]; omega⟩
                   rw [← HCQ.out]
                   have hm : 1 - j = (1 - (j + 1)) + 1 := by omega
                   rw [hm, Sx.contF_yes _ cc _ p (by rw [HL.out]; exact hpl) (by rw [HY.out]; exact g1) (by rw [HY.out]; exact g2), HY.out]
                 · go_wp2
                   go_ret2
                   refine ⟨hB, .inl ⟨let_fail HQ.out hi2 ?_, rfl⟩⟩
                   rw [Sx.one_at _ i hi2 _ _ _ hlead.out, Sx.rest_none]
                   rw [← HCQ.out, show 1 - j = (1 - (j + 1)) + 1 from by omega, Sx.contF_no _ cc _ p (by rw [HL.out]; exact hpl) (by rw [HY.out]; omega)]
               · go_wp2
                 go_ret2
                 refine ⟨hB, .inl ⟨let_fail HQ.out hi2 ?_, rfl⟩⟩
                 rw [Sx.one_at _ i hi2 _ _ _ hlead.out, Sx.rest_none]
                 rw [← HCQ.out, show 1 - j = (1 - (j + 1)) + 1 from by omega, Sx.contF_no _ cc _ p (by rw [HL.out]; exact hpl) (by rw [HY.out]; omega)]
             · go_wp2
               go_ret2
               refine ⟨hB, .inl ⟨let_fail HQ.out hi2 ?_, rfl⟩⟩
               rw [Sx.one_at _ i hi2 _ _ _ hlead.out, Sx.rest_none]
               rw [← HCQ.out, show 1 - j = (1 - (j + 1)) + 1 from by omega, Sx.contF_end _ cc _ p (by rw [HL.out]; omega)]
           · have hjM : 1 - j = 0 := by omega
             have hcf : Sx.contF 1 ((s[i].toNat : Int) - 192) (s.data.toList.drop (i + 1)) = some (cc, s.data.toList.drop p) := by rw [← HCQ.out, hjM]; rfl
             have HCF := hide hcf
             clear hcf hjM
             have bads : ∀ hbad : cc < 128 ∨ 1114111 < cc ∨ (55296 ≤ cc ∧ cc ≤ 57343), Sx.letters s.data.toList = none := fun hbad => let_fail HQ.out hi2 (by rw [Sx.one_at _ i hi2 _ _ _ hlead.out]; exact Sx.rest_bad _ _ _ _ _ _ HCF.out hbad)
             have BADS := hide bads
             clear bads
             by_cases d1 : cc < 128
             · go_wp2
               go_ret2
               exact ⟨hB, .inl ⟨BADS.out (by omega), rfl⟩⟩
             · by_cases d2 : 1114111 < cc
               · go_wp2
                 go_ret2
                 exact ⟨hB, .inl ⟨BADS.out (by omega), rfl⟩⟩
               · by_cases d3 : 55296 ≤ cc
                 · by_cases d4 : cc ≤ 57343
                   · go_wp2
                     go_ret2
                     exact ⟨hB, .inl ⟨BADS.out (by omega), rfl⟩⟩
                   · have ho : Sx.one (s.data.toList.drop i) = some (cc, s.data.toList.drop p) := by rw [Sx.one_at _ i hi2 _ _ _ hlead.out]; exact Sx.rest_ok _ _ _ _ _ _ HCF.out (by omega)
                     have HO := hide ho
                     clear ho
                     go_wp2_with (at_builtin; go_must (refine wpList_append_lies _ rfl _ _ _ rfl w.heap.size 3 i0 (.int .i64 0) 1 8 Tryz.underlying211 hi hz0 hz1 hz2 rfl (by decide) _ _ _ rfl (hown.alloc _) ⟨wr.heap.size, 0, none⟩ 1 1 [.int .i64 cc] rfl rfl (cell_one_new _ _ _) (by simp [Value.oneCell']) (by omega) (by unfold maxLen; omega) (by omega) (by simp; omega) _ rfl ?_; intro g cap w1 hown1 hgrow hat hlt1))
                     exact ⟨⟨p, pre ++ [cc], rfl, hps, by simp; omega, by rw [inV_app, List.length_append]; exact hown1, below_app hB hsz hown hgrow, let_more HQ.out HO.out⟩, by simp [intOf]; omega⟩
                 · have ho : Sx.one (s.data.toList.drop i) = some (cc, s.data.toList.drop p) := by rw [Sx.one_at _ i hi2 _ _ _ hlead.out]; exact Sx.rest_ok _ _ _ _ _ _ HCF.out (by omega)
                   have HO := hide ho
                   clear ho
                   go_wp2_with (at_builtin; go_must (refine wpList_append_lies _ rfl _ _ _ rfl w.heap.size 3 i0 (.int .i64 0) 1 8 Tryz.underlying211 hi hz0 hz1 hz2 rfl (by decide) _ _ _ rfl (hown.alloc _) ⟨wr.heap.size, 0, none⟩ 1 1 [.int .i64 cc] rfl rfl (cell_one_new _ _ _) (by simp [Value.oneCell']) (by omega) (by unfold maxLen; omega) (by omega) (by simp; omega) _ rfl ?_; intro g cap w1 hown1 hgrow hat hlt1))
                   exact ⟨⟨p, pre ++ [cc], rfl, hps, by simp; omega, by rw [inV_app, List.length_append]; exact hown1, below_app hB hsz hown hgrow, let_more HQ.out HO.out⟩, by simp [intOf]; omega⟩
        · by_cases c4 : s[i].toNat < 240
          · skip
            have hlead : Hid (Sx.lead s.data.toList[i] = some (2, (s[i].toNat : Int) - 224, 2048)) := by
             refine hide ?_
             rw [HBY.out]; unfold Sx.lead; rw [if_neg (by omega), if_neg (by omega), if_pos (by omega)]
            go_wp2
            go_loop [5, 6, 9] (fun n c k => ∃ (j p : Nat) (cc : Int), n = .int .i64 p ∧ c = .int .i64 cc ∧ k = .int .i64 j ∧ j ≤ 2 ∧ p ≤ s.size ∧ i + 1 + j ≤ p ∧ p ≤ i + 1 + j ∧ 0 ≤ cc ∧ cc ≤ 67108863 ∧ cc ≤ Sx.cb j ∧ Sx.contF (2 - j) cc (s.data.toList.drop p) = Sx.contF 2 ((s[i].toNat : Int) - 224) (s.data.toList.drop (i + 1))) (fun _ _ k => (2 - intOf k).toNat)
            case atStart => exact ⟨0, i + 1, _, by go_num, rfl, rfl, by omega, by omega, by omega, by omega, by omega, by omega, by simp [Sx.cb]; omega, rfl⟩
            case round =>
             obtain ⟨j, p, cc, rfl, rfl, rfl, hj, hps, hp1, hp2, hc0, hc1, hcb, hcq⟩ := hrel
             have HCQ := hide hcq
             have HCB := hide hcb
             clear hcq hcb
             by_cases hjm : j < 2
             · by_cases hpl : p < s.size
               · have hyp := byte_atC s p hpl (by rw [HL.out]; exact hpl)
                 have HY := hide hyp
                 clear hyp
                 have hyl := s[p].toNat_lt
                 by_cases g1 : 128 ≤ s[p].toNat
                 · by_cases g2 : s[p].toNat < 192
                   · have hstep := Sx.cb_step cc j s[p].toNat HCB.out (by omega)
                     have hle := Sx.cb_le (j + 1) (by omega)
                     have HST := hide hstep
                     have hcc2 : cc * 64 + (s[p].toNat : Int) - 128 ≤ 67108863 := by omega
                     clear hstep hle
                     go_wp2
                     refine ⟨⟨u2, u3, _, _, _, ⟨j + 1, p + 1, by go_num, _, rfl, by go_num, by omega, by omega, by omega, by omega, by omega, hcc2, HST.out, ?_⟩, rfl, rfl, rfl, rfl, rfl⟩, by simp [intOf]; omega⟩
                     rw [← HCQ.out]
                     have hm : 2 - j = (2 - (j + 1)) + 1 := by omega
                     rw [hm, Sx.contF_yes _ cc _ p (by rw [HL.out]; exact hpl) (by rw [HY.out]; exact g1) (by rw [HY.out]; exact g2), HY.out]
                   · go_wp2
                     go_ret2
                     refine ⟨hB, .inl ⟨let_fail HQ.out hi2 ?_, rfl⟩⟩
                     rw [Sx.one_at _ i hi2 _ _ _ hlead.out, Sx.rest_none]
                     rw [← HCQ.out, show 2 - j = (2 - (j + 1)) + 1 from by omega, Sx.contF_no _ cc _ p (by rw [HL.out]; exact hpl) (by rw [HY.out]; omega)]
                 · go_wp2
                   go_ret2
                   refine ⟨hB, .inl ⟨let_fail HQ.out hi2 ?_, rfl⟩⟩
                   rw [Sx.one_at _ i hi2 _ _ _ hlead.out, Sx.rest_none]
                   rw [← HCQ.out, show 2 - j = (2 - (j + 1)) + 1 from by omega, Sx.contF_no _ cc _ p (by rw [HL.out]; exact hpl) (by rw [HY.out]; omega)]
               · go_wp2
                 go_ret2
                 refine ⟨hB, .inl ⟨let_fail HQ.out hi2 ?_, rfl⟩⟩
                 rw [Sx.one_at _ i hi2 _ _ _ hlead.out, Sx.rest_none]
                 rw [← HCQ.out, show 2 - j = (2 - (j + 1)) + 1 from by omega, Sx.contF_end _ cc _ p (by rw [HL.out]; omega)]
             · have hjM : 2 - j = 0 := by omega
               have hcf : Sx.contF 2 ((s[i].toNat : Int) - 224) (s.data.toList.drop (i + 1)) = some (cc, s.data.toList.drop p) := by rw [← HCQ.out, hjM]; rfl
               have HCF := hide hcf
               clear hcf hjM
               have bads : ∀ hbad : cc < 2048 ∨ 1114111 < cc ∨ (55296 ≤ cc ∧ cc ≤ 57343), Sx.letters s.data.toList = none := fun hbad => let_fail HQ.out hi2 (by rw [Sx.one_at _ i hi2 _ _ _ hlead.out]; exact Sx.rest_bad _ _ _ _ _ _ HCF.out hbad)
               have BADS := hide bads
               clear bads
               by_cases d1 : cc < 2048
               · go_wp2
                 go_ret2
                 exact ⟨hB, .inl ⟨BADS.out (by omega), rfl⟩⟩
               · by_cases d2 : 1114111 < cc
                 · go_wp2
                   go_ret2
                   exact ⟨hB, .inl ⟨BADS.out (by omega), rfl⟩⟩
                 · by_cases d3 : 55296 ≤ cc
                   · by_cases d4 : cc ≤ 57343
                     · go_wp2
                       go_ret2
                       exact ⟨hB, .inl ⟨BADS.out (by omega), rfl⟩⟩
                     · have ho : Sx.one (s.data.toList.drop i) = some (cc, s.data.toList.drop p) := by rw [Sx.one_at _ i hi2 _ _ _ hlead.out]; exact Sx.rest_ok _ _ _ _ _ _ HCF.out (by omega)
                       have HO := hide ho
                       clear ho
                       go_wp2_with (at_builtin; go_must (refine wpList_append_lies _ rfl _ _ _ rfl w.heap.size 3 i0 (.int .i64 0) 1 8 Tryz.underlying211 hi hz0 hz1 hz2 rfl (by decide) _ _ _ rfl (hown.alloc _) ⟨wr.heap.size, 0, none⟩ 1 1 [.int .i64 cc] rfl rfl (cell_one_new _ _ _) (by simp [Value.oneCell']) (by omega) (by unfold maxLen; omega) (by omega) (by simp; omega) _ rfl ?_; intro g cap w1 hown1 hgrow hat hlt1))
                       exact ⟨⟨p, pre ++ [cc], rfl, hps, by simp; omega, by rw [inV_app, List.length_append]; exact hown1, below_app hB hsz hown hgrow, let_more HQ.out HO.out⟩, by simp [intOf]; omega⟩
                   · have ho : Sx.one (s.data.toList.drop i) = some (cc, s.data.toList.drop p) := by rw [Sx.one_at _ i hi2 _ _ _ hlead.out]; exact Sx.rest_ok _ _ _ _ _ _ HCF.out (by omega)
                     have HO := hide ho
                     clear ho
                     go_wp2_with (at_builtin; go_must (refine wpList_append_lies _ rfl _ _ _ rfl w.heap.size 3 i0 (.int .i64 0) 1 8 Tryz.underlying211 hi hz0 hz1 hz2 rfl (by decide) _ _ _ rfl (hown.alloc _) ⟨wr.heap.size, 0, none⟩ 1 1 [.int .i64 cc] rfl rfl (cell_one_new _ _ _) (by simp [Value.oneCell']) (by omega) (by unfold maxLen; omega) (by omega) (by simp; omega) _ rfl ?_; intro g cap w1 hown1 hgrow hat hlt1))
                     exact ⟨⟨p, pre ++ [cc], rfl, hps, by simp; omega, by rw [inV_app, List.length_append]; exact hown1, below_app hB hsz hown hgrow, let_more HQ.out HO.out⟩, by simp [intOf]; omega⟩
          · by_cases c5 : s[i].toNat < 248
            · skip
              have hlead : Hid (Sx.lead s.data.toList[i] = some (3, (s[i].toNat : Int) - 240, 65536)) := by
               refine hide ?_
               rw [HBY.out]; unfold Sx.lead; rw [if_neg (by omega), if_neg (by omega), if_neg (by omega), if_pos (by omega)]
              go_wp2
              go_loop [5, 6, 9] (fun n c k => ∃ (j p : Nat) (cc : Int), n = .int .i64 p ∧ c = .int .i64 cc ∧ k = .int .i64 j ∧ j ≤ 3 ∧ p ≤ s.size ∧ i + 1 + j ≤ p ∧ p ≤ i + 1 + j ∧ 0 ≤ cc ∧ cc ≤ 67108863 ∧ cc ≤ Sx.cb j ∧ Sx.contF (3 - j) cc (s.data.toList.drop p) = Sx.contF 3 ((s[i].toNat : Int) - 240) (s.data.toList.drop (i + 1))) (fun _ _ k => (3 - intOf k).toNat)
              case atStart => exact ⟨0, i + 1, _, by go_num, rfl, rfl, by omega, by omega, by omega, by omega, by omega, by omega, by simp [Sx.cb]; omega, rfl⟩
              case round =>
               obtain ⟨j, p, cc, rfl, rfl, rfl, hj, hps, hp1, hp2, hc0, hc1, hcb, hcq⟩ := hrel
               have HCQ := hide hcq
               have HCB := hide hcb
               clear hcq hcb
               by_cases hjm : j < 3
               · by_cases hpl : p < s.size
                 · have hyp := byte_atC s p hpl (by rw [HL.out]; exact hpl)
                   have HY := hide hyp
                   clear hyp
                   have hyl := s[p].toNat_lt
                   by_cases g1 : 128 ≤ s[p].toNat
                   · by_cases g2 : s[p].toNat < 192
                     · have hstep := Sx.cb_step cc j s[p].toNat HCB.out (by omega)
                       have hle := Sx.cb_le (j + 1) (by omega)
                       have HST := hide hstep
                       have hcc2 : cc * 64 + (s[p].toNat : Int) - 128 ≤ 67108863 := by omega
                       clear hstep hle
                       go_wp2
                       refine ⟨⟨u2, u3, _, _, _, ⟨j + 1, p + 1, by go_num, _, rfl, by go_num, by omega, by omega, by omega, by omega, by omega, hcc2, HST.out, ?_⟩, rfl, rfl, rfl, rfl, rfl⟩, by simp [intOf]; omega⟩
                       rw [← HCQ.out]
                       have hm : 3 - j = (3 - (j + 1)) + 1 := by omega
                       rw [hm, Sx.contF_yes _ cc _ p (by rw [HL.out]; exact hpl) (by rw [HY.out]; exact g1) (by rw [HY.out]; exact g2), HY.out]
                     · go_wp2
                       go_ret2
                       refine ⟨hB, .inl ⟨let_fail HQ.out hi2 ?_, rfl⟩⟩
                       rw [Sx.one_at _ i hi2 _ _ _ hlead.out, Sx.rest_none]
                       rw [← HCQ.out, show 3 - j = (3 - (j + 1)) + 1 from by omega, Sx.contF_no _ cc _ p (by rw [HL.out]; exact hpl) (by rw [HY.out]; omega)]
                   · go_wp2
                     go_ret2
                     refine ⟨hB, .inl ⟨let_fail HQ.out hi2 ?_, rfl⟩⟩
                     rw [Sx.one_at _ i hi2 _ _ _ hlead.out, Sx.rest_none]
                     rw [← HCQ.out, show 3 - j = (3 - (j + 1)) + 1 from by omega, Sx.contF_no _ cc _ p (by rw [HL.out]; exact hpl) (by rw [HY.out]; omega)]
                 · go_wp2
                   go_ret2
                   refine ⟨hB, .inl ⟨let_fail HQ.out hi2 ?_, rfl⟩⟩
                   rw [Sx.one_at _ i hi2 _ _ _ hlead.out, Sx.rest_none]
                   rw [← HCQ.out, show 3 - j = (3 - (j + 1)) + 1 from by omega, Sx.contF_end _ cc _ p (by rw [HL.out]; omega)]
               · have hjM : 3 - j = 0 := by omega
                 have hcf : Sx.contF 3 ((s[i].toNat : Int) - 240) (s.data.toList.drop (i + 1)) = some (cc, s.data.toList.drop p) := by rw [← HCQ.out, hjM]; rfl
                 have HCF := hide hcf
                 clear hcf hjM
                 have bads : ∀ hbad : cc < 65536 ∨ 1114111 < cc ∨ (55296 ≤ cc ∧ cc ≤ 57343), Sx.letters s.data.toList = none := fun hbad => let_fail HQ.out hi2 (by rw [Sx.one_at _ i hi2 _ _ _ hlead.out]; exact Sx.rest_bad _ _ _ _ _ _ HCF.out hbad)
                 have BADS := hide bads
                 clear bads
                 by_cases d1 : cc < 65536
                 · go_wp2
                   go_ret2
                   exact ⟨hB, .inl ⟨BADS.out (by omega), rfl⟩⟩
                 · by_cases d2 : 1114111 < cc
                   · go_wp2
                     go_ret2
                     exact ⟨hB, .inl ⟨BADS.out (by omega), rfl⟩⟩
                   · have ho : Sx.one (s.data.toList.drop i) = some (cc, s.data.toList.drop p) := by rw [Sx.one_at _ i hi2 _ _ _ hlead.out]; exact Sx.rest_ok _ _ _ _ _ _ HCF.out (by omega)
                     have HO := hide ho
                     clear ho
                     go_wp2_with (at_builtin; go_must (refine wpList_append_lies _ rfl _ _ _ rfl w.heap.size 3 i0 (.int .i64 0) 1 8 Tryz.underlying211 hi hz0 hz1 hz2 rfl (by decide) _ _ _ rfl (hown.alloc _) ⟨wr.heap.size, 0, none⟩ 1 1 [.int .i64 cc] rfl rfl (cell_one_new _ _ _) (by simp [Value.oneCell']) (by omega) (by unfold maxLen; omega) (by omega) (by simp; omega) _ rfl ?_; intro g cap w1 hown1 hgrow hat hlt1))
                     exact ⟨⟨p, pre ++ [cc], rfl, hps, by simp; omega, by rw [inV_app, List.length_append]; exact hown1, below_app hB hsz hown hgrow, let_more HQ.out HO.out⟩, by simp [intOf]; omega⟩
            · skip
              have hlead : Hid (Sx.lead s.data.toList[i] = none) := by
               refine hide ?_
               rw [HBY.out]; unfold Sx.lead; rw [if_neg (by omega), if_neg (by omega), if_neg (by omega), if_neg (by omega)]
              go_wp2
              go_ret2
              exact ⟨hB, .inl ⟨let_fail HQ.out hi2 (Sx.one_bad _ i hi2 hlead.out), rfl⟩⟩
      · skip
        have hlead : Hid (Sx.lead s.data.toList[i] = none) := by
         refine hide ?_
         rw [HBY.out]; unfold Sx.lead; rw [if_neg (by omega), if_neg (by omega), if_neg (by omega), if_neg (by omega)]
        go_wp2
        go_ret2
        exact ⟨hB, .inl ⟨let_fail HQ.out hi2 (Sx.one_bad _ i hi2 hlead.out), rfl⟩⟩
  · go_wp2
    go_ret2
    refine ⟨hB, .inr ⟨pre, _, ?_, rfl, hown⟩⟩
    rw [← HQ.out, List.drop_eq_nil_of_le (by rw [HL.out]; omega)]
    simp [Sx.letters_nil]
end Go.Proofs.YtgohllfpceeboaaGreatDoor
