import Derived.Test.YtgohllfpceeboaaGreatDoorSbbg
import Derived.Test.YtgohllfpceeboaaGreatDoorSbbe
import Derived.Test.YtgohllfpceeboaaGreatDoorKfa
import Derived.Test.YtgohllfpceeboaaGreatDoorKfb
import Derived.Deep.RegionHeldLaw
import Derived.Laws.BitsAllLaws
import Derived.Deep.CutBlock
import Derived.Deep.DeepCutAuto
namespace Go.Proofs.YtgohllfpceeboaaGreatDoor
open Go.RowKit
theorem take_ext0 (s : ByteArray) (n : Nat) : (s.extract 0 n).data.toList = s.data.toList.take n := by
  simp [ByteArray.data_extract]
set_option maxRecDepth 100000 in
set_option maxHeartbeats 8000000 in
/-- suffixkeep.Junk -/
theorem kjunk (l : List Sx.RawR) (v : Value) (a b : Int) (J : ByteArray) (w : World) (hw : LWt w) (hv : RdR w v l) (hl : l.length ≤ 9223372036854775807) (ha : I64 a) (hb : I64 b) : Calls Tryz.prog 13 #[v, .int .i64 a, .int .i64 b, .string J] w fun e w' => e = .returned (.bool true) ∧ Below w.heap.size w w' := by
  have HAW := hide (kawake w hw)
  have hXs : 0 < (⟨exX.toArray⟩ : ByteArray).size := exX_len
  obtain ⟨X, hX⟩ : ∃ X : ByteArray, ⟨exX.toArray⟩ = X := ⟨_, rfl⟩
  rw [hX] at HAW hXs
  have hXe := ne_text hXs
  clear hX hXs
  have HLW : Hid (∀ W, Below w.heap.size w W → LWt W) := hide (fun W h => lwt_stays _ _ hw h)
  have HKE : Hid (∀ W, Below w.heap.size w W → Calls Tryz.prog 24 #[v] W fun e w' => ∃ mv, e = .returned mv ∧ RdR w' mv (Sx.kepF l) ∧ Below W.heap.size W w') := hide (fun W h => by
    have hv' := hv.below h
    refine (kkept l v W (lwt_stays _ _ hw h) hv' hl).mono ?_
    rintro e w' ⟨mv, rfl, h1, h2⟩
    obtain ⟨-, -, -, ho, -⟩ := hv
    exact ⟨mv, rfl, rdR_own h1 (fun x hx => ho x (kep_of _ x hx)), h2⟩)
  have HLI : Hid (∀ mv W, RdR W mv (Sx.kepF l) → Calls Tryz.prog 25 #[mv] W fun e w' => e = .returned (.string ⟨(Sx.listT (Sx.kepF l)).toArray⟩) ∧ Below W.heap.size W w') := hide (fun mv W h => klist _ _ _ h (Sx.kepF_ok l).2)
  have HCO := hide (fun W h => pcomp1 (Sx.listT (Sx.kepF l)) W h)
  obtain ⟨j1, j2, j3, j4⟩ := junk_img l
  rw [j1] at HCO
  obtain ⟨im, him⟩ : ∃ im, (Sx.compR [Sx.listT (Sx.kepF l)]).1 = im := ⟨_, rfl⟩
  obtain ⟨at0, hat⟩ : ∃ im, (Sx.compR [Sx.listT (Sx.kepF l)]).2.2 = im := ⟨_, rfl⟩
  rw [him] at HCO j2 j3 j4
  rw [hat] at HCO
  have jm := opn_more j2 0
  have jl := opn_less j2 j3
  have hil : 0 < im.length := List.length_pos_iff.2 j3
  obtain ⟨L, hL⟩ : ∃ X : ByteArray, ⟨(Sx.listT (Sx.kepF l)).toArray⟩ = X := ⟨_, rfl⟩
  obtain ⟨I, hI⟩ : ∃ X : ByteArray, ⟨im.toArray⟩ = X := ⟨_, rfl⟩
  have hIl : I.data.toList = im := by rw [← hI]
  have hIs : I.size = im.length := by rw [← ba_len, hIl]
  rw [hL] at HLI HCO
  rw [hI] at HCO
  have HPK := hide (fun W => kpick a I.size W ha.1 ha.2 (by omega) (by omega))
  have HPB := hide (fun W => kpick b 255 W hb.1 hb.2 (by omega) (by omega))
  have hk := Sx.pickN_lt a I.size (by omega)
  have hb255 := Sx.pickN_lt b 255 (by omega)
  obtain ⟨k, hkk⟩ : ∃ k, Sx.pickN a I.size = k := ⟨_, rfl⟩
  obtain ⟨y, hy⟩ : ∃ k, Sx.pickN b 255 = k := ⟨_, rfl⟩
  rw [hkk] at HPK hk
  rw [hy] at HPB hb255
  have HIL := hide hIl
  have HIS := hide hIs
  have HJM := hide jm
  have HJL := hide jl
  have hi0 : 0 < I.size := by omega
  have hi8 : I.size ≤ 8000 := by omega
  clear hL hI him hat hkk hy j1 j2 j3 hIl hIs jm jl j4 hil
  go_enter Tryz.func13, Tryz.ntmps13
  go_wp2_with fail
  refine HAW.out.mono ?_
  rintro e w1 ⟨rfl, hB⟩
  have HB1 := hide hB
  clear hB HAW
  go_wp2_with fail
  refine (HKE.out _ HB1.out).mono ?_
  rintro e w2 ⟨mv, rfl, hrd, hB⟩
  have HB2 := hide (below_to HB1.out hB)
  have HRD := hide hrd
  clear hB hrd
  go_wp2_with fail
  refine (HLI.out _ _ HRD.out).mono ?_
  rintro e w3 ⟨rfl, hB⟩
  have HB3 := hide (below_to HB2.out hB)
  clear hB
  go_wp2_with fail
  refine (HCO.out _ (HLW.out _ HB3.out)).mono ?_
  rintro e w4 ⟨rfl, hB⟩
  have HB4 := hide (below_to (HB3.out.alloc HB3.out.size _) hB)
  clear hB HKE HLI HCO HRD
  have hcv := run_bytes_of_string (P := Tryz.prog) w4 9 58 5 I Tryz.underlying9 Tryz.underlying58 Tryz.underlying5
  obtain ⟨cap, hcap⟩ : ∃ cap, grownCap w4 I.size 0 5 = cap := ⟨_, rfl⟩
  rw [hcap] at hcv
  have hnew := bytes_new w4 I cap (bytesRow I cap).size (by simp [bytesRow])
  have hBel : Below w4.heap.size w4 (w4.drew.alloc (.cells (bytesRow I cap) 5 ((bytesRow I cap).size, (bytesRow I cap).size + 1))) := ((Below.refl w4.heap.size w4).drew).alloc (Nat.le_refl _) _
  obtain ⟨W0, hW0⟩ : ∃ W0, (w4.drew.alloc (.cells (bytesRow I cap) 5 ((bytesRow I cap).size, (bytesRow I cap).size + 1))) = W0 := ⟨_, rfl⟩
  rw [hW0] at hcv hnew hBel
  have hk2 : k < I.data.toList.length := by rw [ba_len]; exact hk
  obtain ⟨hc, hf⟩ := hnew.2 k hk2
  obtain ⟨x, hx⟩ : ∃ x, I.data.toList[k] = x := ⟨_, rfl⟩
  rw [hx] at hc
  have hxl := x.toNat_lt
  have HNEW := hide hnew
  have HB0 := hide hBel
  clear hW0 hcap hnew hBel hx hk2
  go_wp2_with fail
  refine (HPK.out _).mono ?_
  rintro e w5 ⟨rfl, rfl⟩
  clear hcv
  go_wp2_with fail
  have hy1 : (y : Int) ≤ 254 := by omega
  obtain ⟨u, hxor⟩ : ∃ u : UInt8, bits .xor .u8 (x.toNat : Int) (IntKind.u8.wrap (IntKind.i64.wrap (1 + (y : Int)))) = (u.toNat : Int) := by
    have h1 := u8_xor_nat x.toNat (1 + y) hxl (by omega)
    have h2 : x.toNat ^^^ (1 + y) < 2 ^ 8 := Nat.xor_lt_two_pow (by omega) (by omega)
    have h3 : IntKind.i64.wrap (1 + (y : Int)) = 1 + (y : Int) := by rw [IntKind.wrap_i64]; omega
    have h4 : IntKind.u8.wrap (1 + (y : Int)) = 1 + (y : Int) := by rw [IntKind.wrap_u8']; omega
    refine ⟨UInt8.ofNat (x.toNat ^^^ (1 + y)), ?_⟩
    rw [h3, h4, UInt8.toNat_ofNat', Nat.mod_eq_of_lt h2, ← h1]
    simp
  have HXO := hide hxor
  clear hxor
  go_cut [14] (fun kv wc => kv = .int .i64 k ∧ wc = (w5.setCell ⟨w4.heap.size, k, none⟩ (.int .u8 u.toNat)).drew)
  case first =>
    go_region_with (go_at_call 26; refine (HPB.out _).mono ?_; rintro e w6 ⟨rfl, rfl⟩)
    all_goals (
      rw [HXO.out]
      go_wp2_with fail
      go_meet
      exact ⟨rfl, rfl⟩)
  case rest =>
    obtain ⟨rfl, hwc⟩ := hcut
    have hk2 : k < I.data.toList.length := by rw [ba_len]; exact hk
    have hby : ByAt wc w4.heap.size (I.data.toList.set k u) := by rw [hwc]; exact HNEW.out.set k hk2 u
    have hBc : Below w4.heap.size w4 wc := by rw [hwc]; exact (HB0.out.setCell (p := ⟨w4.heap.size, k, none⟩) (Nat.le_refl _) _).drew
    have hcs := by_string (cap := cap) hby
    have hcd : (convert 58 9 (.slice (some ⟨w4.heap.size, 0, none⟩) (I.data.toList.set k u).length cap)).run Tryz.prog wc.drew = .ok (.string ⟨(I.data.toList.set k u).toArray⟩) wc.drew := by_string (cap := cap) (W := wc.drew) hby
    have hsl : (I.data.toList.set k u).length = I.size := by rw [List.length_set, ba_len]
    rw [hsl] at hcs hcd
    obtain ⟨A3, hA3⟩ : ∃ X : ByteArray, ⟨(I.data.toList.set k u).toArray⟩ = X := ⟨_, rfl⟩
    rw [hA3] at hcs hcd
    have hA1 : (I ++ ⟨#[0]⟩).data.toList = im ++ [0] := by rw [ByteArray.data_append, Array.toList_append, HIL.out]
    obtain ⟨A1, hA1e⟩ : ∃ X : ByteArray, I ++ ⟨#[0]⟩ = X := ⟨_, rfl⟩
    rw [hA1e] at hA1
    have hA2 : (I.extract 0 (I.size - 1)).data.toList = im.dropLast := by
      rw [take_ext0, HIL.out, HIS.out, List.dropLast_eq_take]
    obtain ⟨A2, hA2e⟩ : ∃ X : ByteArray, I.extract 0 (I.size - 1) = X := ⟨_, rfl⟩
    rw [hA2e] at hA2
    have hi1 : (I.size : Int) - 1 = ((I.size - 1 : Nat) : Int) := by omega
    have e1 : (9223372036854775807 < I.size + 1) = False := by simp; omega
    have HBC := hide (below_to HB4.out hBc)
    have HA1 := hide hA1
    have HA2 := hide hA2
    have hbz := hBc.size
    clear hby hBc hsl hA3 hwc hA1 hA2 HNEW HB0 hc hf hxl hy1
    go_wp2_with fail
    go_region
    have hBD : Below w.heap.size w (wc.alloc (.cells #[.string A1, .string A2, .string A3, .string J] 9)).drew := (HBC.out.alloc HBC.out.size _).drew
    have hCD : ∀ n x, [A1, A2, A3, J][n]? = some x → (wc.alloc (.cells #[.string A1, .string A2, .string A3, .string J] 9)).drew.cell? ⟨wc.heap.size, n, none⟩ = some (.string x) := fun n x hx => by
      have hm := World.cell?_alloc_mark wc #[.string A1, .string A2, .string A3, .string J] 9 (0, 0) n
      show (wc.alloc (.cells #[.string A1, .string A2, .string A3, .string J] 9)).cell? _ = _
      rw [hm]
      match n, hx with
      | 0, hx => simpa using hx
      | 1, hx => simpa using hx
      | 2, hx => simpa using hx
      | 3, hx => simpa using hx
    have hsz4 : wc.heap.size < (wc.alloc (.cells #[.string A1, .string A2, .string A3, .string J] 9)).drew.heap.size := by
      show wc.heap.size < (wc.alloc _).heap.size
      rw [World.size_alloc]; omega
    obtain ⟨VA, hVA⟩ : ∃ V, (wc.alloc (.cells #[.string A1, .string A2, .string A3, .string J] 9)).drew = V := ⟨_, rfl⟩
    rw [hVA] at hBD hCD hsz4 ⊢
    obtain ⟨lb, hlb⟩ : ∃ n, wc.heap.size = n := ⟨_, rfl⟩
    rw [hlb] at hCD hsz4 ⊢
    have HTX : Hid (∀ n, n < 4 → ∃ x : ByteArray, (∀ W, Below VA.heap.size VA W → W.cell? ⟨lb, n, none⟩ = some (.string x)) ∧ (n < 2 → (opn x.data.toList).2 ≠ 0)) := hide (fun n hn => by
      have key : ∀ x, [A1, A2, A3, J][n]? = some x → ∀ W, Below VA.heap.size VA W → W.cell? ⟨lb, n, none⟩ = some (.string x) := fun x hx W hW => (hW.cell (p := ⟨lb, n, none⟩) hsz4).trans (hCD n x hx)
      match n, hn with
      | 0, _ => exact ⟨A1, key A1 rfl, fun _ => by rw [HA1.out]; exact HJM.out⟩
      | 1, _ => exact ⟨A2, key A2 rfl, fun _ => by rw [HA2.out]; exact HJL.out⟩
      | 2, _ => exact ⟨A3, key A3 rfl, fun h => by omega⟩
      | 3, _ => exact ⟨J, key J rfl, fun h => by omega⟩)
    have HBD := hide hBD
    clear hCD hsz4 hVA hlb hBD hcs hcd hA1e hA2e e1 hi1 HA1 HA2 HJM HJL HIL HIS HPK HPB HBC hk2 hk hbz HB1 HB2 HB3 hi0 hi8
    go_wp2_with fail
    go_loopw [16] (fun nv wr => ∃ n : Nat, nv = .int .i64 n ∧ n ≤ 4 ∧ Below VA.heap.size VA wr) (fun nv _ => (4 - intOf nv).toNat)
    case atStart => exact ⟨0, rfl, by omega, Below.refl _ _⟩
    case round =>
      obtain ⟨n, rfl, hn, hBr⟩ := hrel
      have HBR := hide hBr
      by_cases hlt : n < 4
      · obtain ⟨x, hxc, hx2⟩ := HTX.out n hlt
        have HXC := hide hxc
        have hLX : ∀ W, Below VA.heap.size VA W → LWt W := fun W h => HLW.out _ (below_to HBD.out h)
        have HLX := hide hLX
        have hxe : (⟨x.data.toList.toArray⟩ : ByteArray) = x := by simp
        have HRU := hide (fun W h => prules x W h)
        have HLK := hide (fun W h => plook x ⟨#[97, 46, 99, 111, 109]⟩ W h)
        have HNW := hide (fun W h => pnew x.data.toList W h)
        rw [hxe] at HNW
        rw [show (⟨#[97, 46, 99, 111, 109]⟩ : ByteArray).data.toList = [97, 46, 99, 111, 109] from rfl] at HLK
        have c0 := HXC.out wr hBr
        by_cases he : (opn x.data.toList).2 = 0
        · obtain ⟨y1, y2, y3⟩ := junk_yes he
          have HCM := hide (fun W h => pcomp1 (lsR x.data.toList).1 W h)
          have hn2 : ¬ n < 2 := fun h => hx2 h he
          rw [y1] at HRU
          rw [y2] at HLK
          rw [y3] at HCM
          dsimp only at HCM
          rw [hxe] at HCM
          unfold NewPost at HNW
          rw [he] at HNW
          obtain ⟨R, hR⟩ : ∃ X : ByteArray, ⟨(lsR x.data.toList).1.toArray⟩ = X := ⟨_, rfl⟩
          rw [hR] at HRU HCM
          obtain ⟨⟨lp, ld, lt, lx⟩, hlk⟩ : ∃ q, lkR x.data.toList [97, 46, 99, 111, 109] = q := ⟨_, rfl⟩
          rw [hlk] at HLK
          dsimp only at HLK
          have hn3 : ((n : Int) < 2) = False := by simp; omega
          have xx : (x.toList == x.toList) = true := by simp
          clear y1 y2 y3 he hx2 hR hlk hxc hLX hxe
          go_wp2_with fail
          refine (HRU.out _ (HLX.out _ HBR.out)).mono ?_
          rintro e v1 ⟨rfl, hB⟩
          have HV1 := hide (below_to HBR.out hB)
          have c1 := HXC.out v1 HV1.out
          clear hB c0
          go_wp2_with fail
          refine (HLK.out _ (HLX.out _ HV1.out)).mono ?_
          rintro e v2 ⟨rfl, hB⟩
          have HV2 := hide (below_to HV1.out hB)
          have c2 := HXC.out v2 HV2.out
          clear hB c1
          go_wp2_with fail
          refine (HNW.out _ (HLX.out _ HV2.out)).mono ?_
          rintro e v3 ⟨hB, hcase⟩
          obtain ⟨g, rfl⟩ : ∃ g, e = .returned (.tuple #[.pointer (some ⟨g, 0, none⟩), .int .i64 0]) := by
            rcases hcase with ⟨h, -⟩ | ⟨-, g, rv, h, -⟩
            · exact absurd rfl h
            · exact ⟨g, h⟩
          have HV3 := hide (below_to HV2.out hB)
          clear hB c2 hcase
          go_wp2_with fail
          refine (HCM.out _ (HLX.out _ HV3.out)).mono ?_
          rintro e v4 ⟨rfl, hB⟩
          have HV4 := hide (below_to (HV3.out.alloc HV3.out.size _) hB)
          have c4 := HXC.out v4 HV4.out
          clear hB
          go_wp2
          exact ⟨⟨n + 1, by go_num, by omega, HV4.out⟩, by simp [intOf]; omega⟩
        · obtain ⟨y1, y2⟩ := junk_no he
          rw [y1] at HRU
          rw [y2] at HLK
          dsimp only at HRU HLK
          unfold NewPost at HNW
          obtain ⟨er, her⟩ : ∃ er, (opn x.data.toList).2 = er := ⟨_, rfl⟩
          rw [her] at HRU HLK HNW he
          have k1 : (er != 0) = true := by simpa using he
          have k2 : (er == 0) = false := by simpa using he
          have k3 : (er == er) = true := by simp
          have k4 : (er != er) = false := by simp
          have he' := hide he
          clear y1 y2 her hx2 hxc hLX hxe
          go_wp2_with fail
          refine (HRU.out _ (HLX.out _ HBR.out)).mono ?_
          rintro e v1 ⟨rfl, hB⟩
          have HV1 := hide (below_to HBR.out hB)
          have c1 := HXC.out v1 HV1.out
          clear hB c0
          go_wp2_with fail
          refine (HLK.out _ (HLX.out _ HV1.out)).mono ?_
          rintro e v2 ⟨rfl, hB⟩
          have HV2 := hide (below_to HV1.out hB)
          have c2 := HXC.out v2 HV2.out
          clear hB c1
          go_wp2_with fail
          refine (HNW.out _ (HLX.out _ HV2.out)).mono ?_
          rintro e v3 ⟨hB, hcase⟩
          obtain rfl : e = .returned (.tuple #[.pointer none, .int .i64 er]) := by
            rcases hcase with ⟨-, h⟩ | ⟨h, -⟩
            · exact h
            · exact absurd h he'.out
          have HV3 := hide (below_to HV2.out hB)
          clear hB c2 hcase
          go_wp2
          all_goals exact ⟨⟨n + 1, by go_num, by omega, HV3.out⟩, by simp [intOf]; omega⟩
      · have hge : ((n : Int) < 4) = False := by simp; omega
        have hfin := below_to HBD.out hBr
        have HF := hide hfin
        clear hBr hfin hlt
        go_wp2
        go_ret
        exact ⟨rfl, HF.out⟩
end Go.Proofs.YtgohllfpceeboaaGreatDoor
