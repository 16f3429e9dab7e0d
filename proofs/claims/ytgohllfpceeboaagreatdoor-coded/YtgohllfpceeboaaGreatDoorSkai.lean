import Derived.Test.YtgohllfpceeboaaGreatDoorSkaa
import Derived.Test.YtgohllfpceeboaaGreatDoorSkac
import Derived.Test.YtgohllfpceeboaaGreatDoorSkad
import Derived.Test.YtgohllfpceeboaaGreatDoorGaa
import Derived.Test.YtgohllfpceeboaaGreatDoorGak
import Derived.Test.YtgohllfpceeboaaGreatDoorGal
import Derived.Test.YtgohllfpceeboaaGreatDoorGan
import Derived.Test.YtgohllfpceeboaaGreatDoorSkag
import Derived.Test.YtgohllfpceeboaaGreatDoorSkah
import Derived.Test.YtgohllfpceeboaaGreatDoorProg
import Derived.Test.YtgohllfpceeboaaGreatDoorRefF
import Derived.Test.YtgohllfpceeboaaGreatDoorGab
import Derived.Test.YtgohllfpceeboaaGreatDoorGao
import Derived.Test.YtgohllfpceeboaaGreatDoorRefP
import Derived.Test.YtgohllfpceeboaaGreatDoorSkae
namespace Go.Proofs.YtgohllfpceeboaaGreatDoor
open Go.RowKit
theorem opn_rt (b : List UInt8) : Sx.RlsRt (opn b).1 := by
  rcases opn_err b with h | ⟨_, h⟩ | ⟨_, h⟩
  · exact (opn_is h).2.rt
  · rw [h]; exact rlsRt_nil
  · rw [h]; exact rlsRt_nil
theorem rt_small {r : Sx.Rl} (h : Sx.RlRt r) : r.1.length ≤ 6 ∧ (Sx.dotted r.1).length ≤ 60 := by
  have h1 := h.ok.1
  have h2 := Sx.dotted_allL r.1 h1.1
  have h3 := h1.2.2.1
  exact ⟨h1.2.1, by omega⟩
set_option maxRecDepth 100000 in
set_option maxHeartbeats 2000000 in
/-- suffix.Rules -/
theorem prules (i : ByteArray) (w : World) (hw : LWt w) : Calls Tryz.prog 23 #[.string i] w fun e w' => e = .returned (.tuple #[.string ⟨(lsR i.data.toList).1.toArray⟩, .int .i64 (lsR i.data.toList).2]) ∧ Below w.heap.size w w' := by
  have HRI := hide (prdimg i.data.toList w hw)
  have hrt := opn_rt i.data.toList
  have hls : lsR i.data.toList = if (opn i.data.toList).2 = 0 then (outL (opn i.data.toList).1, 0) else ([], (opn i.data.toList).2) := rfl
  rw [hls]
  obtain ⟨⟨rs, e⟩, ho⟩ : ∃ q, opn i.data.toList = q := ⟨_, rfl⟩
  rw [ho] at HRI hrt ⊢
  dsimp only at HRI hrt ⊢
  have HLS := hide (fun v W hv => plist rs v W hv (fun r hr => ⟨(hrt.ok r hr).2.1, by have := (rt_small (hrt.ok r hr)).2; omega⟩) (by have := hrt.many; omega))
  have hia : (⟨i.data.toList.toArray⟩ : ByteArray) = i := by simp
  rw [hia] at HRI
  clear hls ho hrt hw hia
  go_enter Tryz.func23, Tryz.ntmps23
  go_wp2_with fail
  refine HRI.out.mono ?_
  rintro e w1 ⟨hB1, v, rfl, hv⟩
  have HB1 := hide hB1
  have HLV := hide (HLS.out v w1 hv)
  obtain ⟨p, cap, rfl, _⟩ := hv
  clear hB1 HRI HLS
  by_cases he : e = 0
  · subst he
    go_wp2_with fail
    refine HLV.out.mono ?_
    rintro e w2 ⟨rfl, hB2⟩
    have HB2 := hide (HB1.out.trans (hB2.mono HB1.out.size))
    clear hB2
    go_wp2
    go_ret2
    exact ⟨rfl, HB2.out⟩
  · have k1 : (e != 0) = true := by simpa using he
    go_wp2
    go_ret2
    exact ⟨rfl, HB1.out⟩
set_option maxRecDepth 100000 in
set_option maxHeartbeats 2000000 in
/-- suffix.Lookup -/
theorem plook (i h : ByteArray) (w : World) (hw : LWt w) : Calls Tryz.prog 37 #[.string i, .string h] w fun e w' => e = .returned (.tuple #[.string ⟨(lkR i.data.toList h.data.toList).1.toArray⟩, .string ⟨(lkR i.data.toList h.data.toList).2.1.toArray⟩, .string ⟨(lkR i.data.toList h.data.toList).2.2.1.toArray⟩, .int .i64 (lkR i.data.toList h.data.toList).2.2.2]) ∧ Below w.heap.size w w' := by
  have HRI := hide (prdimg i.data.toList w hw)
  have hrt := opn_rt i.data.toList
  obtain ⟨LK, hLK⟩ : ∃ LK, lkR i.data.toList h.data.toList = LK := ⟨_, rfl⟩
  rw [hLK]
  unfold lkR at hLK
  obtain ⟨⟨rs, e⟩, ho⟩ : ∃ q, opn i.data.toList = q := ⟨_, rfl⟩
  rw [ho] at HRI hrt hLK
  dsimp only at HRI hrt hLK
  have HPL := hide (fun W hW => phip_any h W hW)
  unfold PlnPost at HPL
  have HLW : Hid (∀ W, Below w.heap.size w W → LWt W) := hide (fun W h => lwt_stays _ _ hw h)
  have hia : (⟨i.data.toList.toArray⟩ : ByteArray) = i := by simp
  rw [hia] at HRI
  clear ho hw hia
  by_cases he : e = 0
  · subst he
    rw [if_pos rfl] at hLK
    have hpl : Sx.plainR h.data.toList = (Sx.dotted (Sx.host h.data.toList).1, (Sx.host h.data.toList).2) := rfl
    rw [hpl] at HPL
    have hhost := Sx.host_ok h.data.toList
    obtain ⟨⟨H, f⟩, hH⟩ : ∃ q, Sx.host h.data.toList = q := ⟨_, rfl⟩
    rw [hH] at HPL hLK hhost
    dsimp only at HPL hLK hhost
    clear hpl hH
    by_cases hf : f = 0
    · subst hf
      rw [if_pos rfl] at hLK
      have hh := hhost rfl
      obtain ⟨p1, p2, p3⟩ := prvl_pub hh hrt.ok
      have hle := pubL_le hh.1 rs
      have h6 := hh.2.1
      have hdl : (Sx.dotted H).length ≤ 60 := by have := Sx.dotted_allL H hh.1; have := hh.2.2.1; omega
      obtain ⟨P, hP⟩ : ∃ P : ByteArray, ⟨(Sx.dotted H).toArray⟩ = P := ⟨_, rfl⟩
      have hPl : P.data.toList = Sx.dotted H := by rw [← hP]
      have hPs : P.size ≤ 1000 := by rw [← ba_len, hPl]; omega
      have HPV := hide (fun v W hv => pprvl rs (Sx.dotted H) v W hv (fun r hr => ⟨by have := (rt_small (hrt.ok r hr)).1; omega, by have := (rt_small (hrt.ok r hr)).2; omega⟩) (by omega) (by have := hrt.many; omega))
      have hbest : (prvl rs (Sx.dotted H)).1.length ≤ 1000 := prvl_mem _ (fun r => r.1.length ≤ 1000) (by simp) rs (fun r hr => by have := (rt_small (hrt.ok r hr)).1; omega)
      unfold lkA at hLK
      obtain ⟨b, hb⟩ : ∃ b, prvl rs (Sx.dotted H) = b := ⟨_, rfl⟩
      rw [hb] at p1 p2 hLK HPV hbest
      obtain ⟨n, hn⟩ : ∃ n, (Sx.pubL H rs).1 = n := ⟨_, rfl⟩
      rw [hn] at p1 p3 hle
      have HSU := hide (fun W => psufO b n P W hbest p1 p3 (by omega) hPs)
      have HDO := hide (fun W => pdomO b n P W hbest p1 p3 (by omega) hPs)
      rw [p1] at hLK
      rw [hPl] at HSU HDO
      rw [hP] at HPL HPV
      subst hLK
      dsimp only
      obtain ⟨A, hA⟩ : ∃ A : ByteArray, ⟨(lastP (Sx.dotted H) (n : Int)).toArray⟩ = A := ⟨_, rfl⟩
      obtain ⟨C, hC⟩ : ∃ C : ByteArray, ⟨(lastP (Sx.dotted H) ((n : Int) + 1)).toArray⟩ = C := ⟨_, rfl⟩
      rw [hA] at HSU ⊢
      rw [hC] at HDO ⊢
      have hsec : b.2.2 = 105 ∨ b.2.2 = 112 ∨ b.2.2 = 45 := by
        rw [← hb]
        exact prvl_mem _ (fun r => r.2.2 = 105 ∨ r.2.2 = 112 ∨ r.2.2 = 45) (Or.inr (Or.inr rfl)) rs (fun r hr => by rcases (hrt.ok r hr).2.2.2 with h | h; exact Or.inl h; exact Or.inr (Or.inl h))
      obtain ⟨bh, bk, bs⟩ := b
      unfold ruA at HPV HSU HDO
      dsimp only at HPV HSU HDO hsec ⊢
      have HENC : Hid (Utf8.encode (bs.toNat : Int) = ⟨[bs].toArray⟩) := hide (by rcases hsec with rfl | rfl | rfl <;> decide)
      obtain ⟨E, hE⟩ : ∃ E : ByteArray, ⟨(Sx.dotted bh).toArray⟩ = E := ⟨_, rfl⟩
      obtain ⟨M, hM⟩ : ∃ M, bh.length = M := ⟨_, rfl⟩
      rw [hE, hM] at HPV HSU HDO
      clear p1 p2 p3 hle h6 hdl hP hPl hb hn hA hC hE hM hh hhost hrt hbest hsec
      go_enter Tryz.func37, Tryz.ntmps37
      go_wp2_with fail
      refine HRI.out.mono ?_
      rintro e w1 ⟨hB1, v, rfl, hv⟩
      have HB1 := hide hB1
      have HV := hide hv
      obtain ⟨q, cap, rfl, _⟩ := hv
      clear hB1 HRI
      go_wp2_with fail
      refine (HPL.out _ (HLW.out _ HB1.out)).mono ?_
      rintro e w2 ⟨hB2, rfl⟩
      have HB2 := hide (HB1.out.trans (hB2.mono HB1.out.size))
      have HPV2 := hide (HPV.out _ w2 (HV.out.below hB2))
      clear hB2 HPV HV HPL
      go_wp2_with fail
      refine HPV2.out.mono ?_
      rintro e w3 ⟨rfl, hB3⟩
      have HB3 := hide (HB2.out.trans (hB3.mono HB2.out.size))
      clear hB3 HPV2
      obtain ⟨W0, hW0⟩ : ∃ W0, w3.alloc (.cells #[.int .u8 bk.toNat, .string E, .int .i64 M, .int .u8 bs.toNat] 98) = W0 := ⟨_, rfl⟩
      have HNEW : Hid (∀ W, Below W0.heap.size W0 W → (W.cell? ⟨w3.heap.size, 0, none⟩ = some (.int .u8 bk.toNat) ∧ W.cell? ⟨w3.heap.size, 1, none⟩ = some (.string E) ∧ W.cell? ⟨w3.heap.size, 2, none⟩ = some (.int .i64 M) ∧ W.cell? ⟨w3.heap.size, 3, none⟩ = some (.int .u8 bs.toNat)) ∧ Below w.heap.size w W) := hide (fun W hb => by
        rw [← hW0] at hb
        have h1 := (hb.block w3.heap.size (by simp)).trans (heap_alloc_new _ _)
        exact ⟨(box4 h1).1, (HB3.out.alloc HB3.out.size _).trans (hb.mono (by have := HB3.out.size; simp; omega))⟩)
      have hS0 := (HNEW.out W0.drew ((Below.refl _ W0).drew)).1
      go_wp2_with fail
      clear hW0
      go_region_held_law (fun W => W.cell? ⟨w3.heap.size, 0, none⟩ = some (.int .u8 bk.toNat) ∧ W.cell? ⟨w3.heap.size, 1, none⟩ = some (.string E) ∧ W.cell? ⟨w3.heap.size, 2, none⟩ = some (.int .i64 M) ∧ W.cell? ⟨w3.heap.size, 3, none⟩ = some (.int .u8 bs.toNat)) (first | exact hS0 | exact hS1 | exact hS2 | go_keep) (first | (go_at_call 56; refine (HSU.out _).mono ?_; rintro e wA ⟨rfl, hBA⟩; have hbA : Below W0.heap.size W0 wA := (Below.refl _ W0).drew.trans hBA; have hS1 := (HNEW.out wA hbA).1) | (go_at_call 57; refine (HDO.out _).mono ?_; rintro e wB ⟨rfl, hBB⟩; have hbB : Below W0.heap.size W0 wB := hbA.trans (hBB.mono hbA.size); have hS2 := (HNEW.out wB hbB).1))
      have HFB := hide (HNEW.out wB hbB).2
      rw [HENC.out]
      clear hS0 hS1 hS2 hBA hbA hBB hbB HNEW
      go_wp2
      exact bodyPost_ret (v := .tuple #[.string A, .string C, .string ⟨[bs].toArray⟩, .int .i64 0]) (by simp [results, Tryz.results37, go_sem]) rfl ⟨rfl, HFB.out⟩
    · have k1 : (f != 0) = true := by simpa using hf
      rw [if_neg hf] at hLK
      subst hLK
      dsimp only
      obtain ⟨P, hP⟩ : ∃ P : ByteArray, ⟨(Sx.dotted H).toArray⟩ = P := ⟨_, rfl⟩
      rw [hP] at HPL
      clear hP hhost hrt
      go_enter Tryz.func37, Tryz.ntmps37
      go_wp2_with fail
      refine HRI.out.mono ?_
      rintro e w1 ⟨hB1, v, rfl, hv⟩
      have HB1 := hide hB1
      obtain ⟨q, cap, rfl, _⟩ := hv
      clear hB1 HRI
      go_wp2_with fail
      refine (HPL.out _ (HLW.out _ HB1.out)).mono ?_
      rintro e w2 ⟨hB2, rfl⟩
      have HB2 := hide (HB1.out.trans (hB2.mono HB1.out.size))
      clear hB2 HPL
      go_wp2
      exact bodyPost_ret (v := .tuple #[.string ⟨#[]⟩, .string ⟨#[]⟩, .string ⟨#[]⟩, .int .i64 f]) (by simp [results, Tryz.results37, go_sem]) rfl ⟨rfl, HB2.out⟩
  · have k1 : (e != 0) = true := by simpa using he
    rw [if_neg he] at hLK
    subst hLK
    dsimp only
    clear hrt HPL
    go_enter Tryz.func37, Tryz.ntmps37
    go_wp2_with fail
    refine HRI.out.mono ?_
    rintro e w1 ⟨hB1, v, rfl, hv⟩
    have HB1 := hide hB1
    obtain ⟨q, cap, rfl, _⟩ := hv
    clear hB1 HRI
    go_wp2
    exact bodyPost_ret (v := .tuple #[.string ⟨#[]⟩, .string ⟨#[]⟩, .string ⟨#[]⟩, .int .i64 e]) (by simp [results, Tryz.results37, go_sem]) rfl ⟨rfl, HB1.out⟩
end Go.Proofs.YtgohllfpceeboaaGreatDoor

namespace Go.Proofs.YtgohllfpceeboaaGreatDoor
open Go.RowKit
/-- Texts are the same if their bytes are. -/
theorem ba_eq (a b : ByteArray) : (a.toList == b.toList) = decide (a.data.toList = b.data.toList) := by
  rw [ByteArray.toList_eq, ByteArray.toList_eq, Bool.eq_iff_iff]
  simp
set_option maxRecDepth 100000 in
set_option maxHeartbeats 2000000 in
/-- suffixkeep.looks -/
theorem klooks (i h a b c : ByteArray) (w : World) (hw : LWt w) :
    Calls Tryz.prog 36 #[.string i, .string h, .string a, .string b, .string c] w fun e w' => e = .returned (.bool (decide (lkR i.data.toList h.data.toList = (a.data.toList, b.data.toList, c.data.toList, 0)))) ∧ Below w.heap.size w w' := by
  have HLK := hide (plook i h w hw)
  obtain ⟨⟨p, d, s, e⟩, hq⟩ : ∃ q, lkR i.data.toList h.data.toList = q := ⟨_, rfl⟩
  rw [hq] at HLK ⊢
  dsimp only at HLK
  obtain ⟨R, hR⟩ : ∃ R, decide ((p, d, s, e) = (a.data.toList, b.data.toList, c.data.toList, (0 : Int))) = R := ⟨_, rfl⟩
  rw [hR]
  have hR2 : (decide (e = 0) && (decide (p = a.data.toList) && (decide (d = b.data.toList) && decide (s = c.data.toList)))) = R := by
    rw [← hR, Bool.eq_iff_iff]
    simp only [Bool.and_eq_true, decide_eq_true_eq, Prod.mk.injEq]
    constructor
    · rintro ⟨h1, h2, h3, h4⟩; exact ⟨h2, h3, h4, h1⟩
    · rintro ⟨h2, h3, h4, h1⟩; exact ⟨h1, h2, h3, h4⟩
  obtain ⟨P, hP⟩ : ∃ P : ByteArray, ⟨p.toArray⟩ = P := ⟨_, rfl⟩
  obtain ⟨D, hD⟩ : ∃ D : ByteArray, ⟨d.toArray⟩ = D := ⟨_, rfl⟩
  obtain ⟨S, hS⟩ : ∃ S : ByteArray, ⟨s.toArray⟩ = S := ⟨_, rfl⟩
  rw [hP, hD, hS] at HLK
  have e1 : (P.toList == a.toList) = decide (p = a.data.toList) := by rw [ba_eq, ← hP]
  have e2 : (D.toList == b.toList) = decide (d = b.data.toList) := by rw [ba_eq, ← hD]
  have e3 : (S.toList == c.toList) = decide (s = c.data.toList) := by rw [ba_eq, ← hS]
  rw [← e1, ← e2, ← e3] at hR2
  have HR := hide hR2
  clear hq hR hR2 hP hD hS e1 e2 e3 hw
  go_enter Tryz.func36, Tryz.ntmps36
  go_wp2_with fail
  refine HLK.out.mono ?_
  rintro e w1 ⟨rfl, hB⟩
  have HB := hide hB
  clear hB HLK
  by_cases h0 : e = 0
  · subst h0
    cases hp : (P.toList == a.toList) with
    | false =>
      go_wp2
      go_ret
      exact ⟨by rw [← HR.out, hp]; rfl, HB.out⟩
    | true =>
      cases hd : (D.toList == b.toList) with
      | false =>
        go_wp2
        go_ret
        exact ⟨by rw [← HR.out, hp, hd]; rfl, HB.out⟩
      | true =>
        go_wp2
        go_ret
        exact ⟨by rw [← HR.out, hp, hd]; exact ret_bool (by simp), HB.out⟩
  · have k1 : (e == 0) = false := by simpa using h0
    go_wp2
    go_ret
    exact ⟨by rw [← HR.out]; exact ret_bool (by simp [h0]), HB.out⟩
end Go.Proofs.YtgohllfpceeboaaGreatDoor

namespace Go.Proofs.YtgohllfpceeboaaGreatDoor
open Go.RowKit
/-- A row of one text, made for a call. -/
theorem rds_one (w : World) (x : List UInt8) : RdS (w.alloc (.cells #[.string ⟨x.toArray⟩] 9)) (.slice (some ⟨w.heap.size, 0, none⟩) 1 1) [x] := by
  refine ⟨_, 1, rfl, fun j hj => ⟨w.heap.size, 0, rfl, by simp, ?_⟩⟩
  obtain rfl : j = 0 := by simp at hj; omega
  have := heap_alloc_new w (.cells #[.string ⟨x.toArray⟩] 9)
  rw [Lib.cell_of_heap this]
  rfl
theorem below_alloc {w W : World} (h : Below w.heap.size w W) (o : Obj) : Below w.heap.size w (W.alloc o) := h.alloc h.size o
theorem below_step {w W W' : World} (h : Below w.heap.size w W) (h' : Below W.heap.size W W') : Below w.heap.size w W' := h.trans (h'.mono h.size)
theorem below_stepA {w W W' : World} {o : Obj} (h : Below w.heap.size w W) (h' : Below (W.alloc o).heap.size (W.alloc o) W') : Below w.heap.size w W' := below_step (below_alloc h o) h'
/-- Compile of one text. -/
theorem pcomp1 (x : List UInt8) (W : World) (hw : LWt W) : Calls Tryz.prog 22 #[.slice (some ⟨W.heap.size, 0, none⟩) 1 1] (W.alloc (.cells #[.string ⟨x.toArray⟩] 9)) fun e w' => e = .returned (.tuple #[.string ⟨(Sx.compR [x]).1.toArray⟩, .int .i64 (Sx.compR [x]).2.1, .int .i64 (Sx.compR [x]).2.2]) ∧ Below (W.alloc (.cells #[.string ⟨x.toArray⟩] 9)).heap.size (W.alloc (.cells #[.string ⟨x.toArray⟩] 9)) w' :=
  pcomp [x] _ _ (lwt_stays _ _ hw ((Below.refl _ W).alloc (Nat.le_refl _) _)) (rds_one W x) (by simp)
set_option maxRecDepth 100000 in
set_option maxHeartbeats 4000000 in
/-- suffixkeep.awake -/
theorem kawake (w : World) (hw : LWt w) : Calls Tryz.prog 16 #[] w fun e w' => e = .returned (.string ⟨exX.toArray⟩) ∧ Below w.heap.size w w' := by
  have HP1 : Hid (∀ W, LWt W → Calls Tryz.prog 18 #[.string ⟨#[69, 120, 97, 109, 112, 108, 101, 46, 67, 79, 77]⟩] W fun e w' => Below W.heap.size W w' ∧ e = .returned (.tuple #[.string ⟨#[101, 120, 97, 109, 112, 108, 101, 46, 99, 111, 109]⟩, .int .i64 0])) := hide (fun W h => by
    have := plainsaid_any ⟨#[69, 120, 97, 109, 112, 108, 101, 46, 67, 79, 77]⟩ W h
    unfold PlnPost at this
    rw [show (⟨#[69, 120, 97, 109, 112, 108, 101, 46, 67, 79, 77]⟩ : ByteArray).data.toList = [69, 120, 97, 109, 112, 108, 101, 46, 67, 79, 77] from rfl, Sx.aw_p1] at this
    exact this)
  have HP2 : Hid (∀ W, LWt W → Calls Tryz.prog 18 #[.string ⟨#[98, 195, 188, 99, 104, 101, 114, 46, 100, 101]⟩] W fun e w' => Below W.heap.size W w' ∧ e = .returned (.tuple #[.string ⟨#[120, 110, 45, 45, 98, 99, 104, 101, 114, 45, 107, 118, 97, 46, 100, 101]⟩, .int .i64 0])) := hide (fun W h => by
    have := plainsaid_any ⟨#[98, 195, 188, 99, 104, 101, 114, 46, 100, 101]⟩ W h
    unfold PlnPost at this
    rw [show (⟨#[98, 195, 188, 99, 104, 101, 114, 46, 100, 101]⟩ : ByteArray).data.toList = [98, 195, 188, 99, 104, 101, 114, 46, 100, 101] from rfl, Sx.aw_p2] at this
    exact this)
  have HS1 : Hid (∀ W, LWt W → Calls Tryz.prog 19 #[.string ⟨#[120, 110, 45, 45, 98, 99, 104, 101, 114, 45, 107, 118, 97, 46, 100, 101]⟩] W fun e w' => Below W.heap.size W w' ∧ e = .returned (.tuple #[.string ⟨#[98, 195, 188, 99, 104, 101, 114, 46, 100, 101]⟩, .int .i64 0])) := hide (fun W h => by
    have := shownsaid_any ⟨#[120, 110, 45, 45, 98, 99, 104, 101, 114, 45, 107, 118, 97, 46, 100, 101]⟩ W h
    unfold PlnPost at this
    rw [show (⟨#[120, 110, 45, 45, 98, 99, 104, 101, 114, 45, 107, 118, 97, 46, 100, 101]⟩ : ByteArray).data.toList = [120, 110, 45, 45, 98, 99, 104, 101, 114, 45, 107, 118, 97, 46, 100, 101] from rfl, Sx.aw_s1] at this
    exact this)
  have HC1 : Hid (∀ W, LWt W → Calls Tryz.prog 22 #[.slice (some ⟨W.heap.size, 0, none⟩) 1 1] (W.alloc (.cells #[.string ⟨#[99, 111, 109]⟩] 9)) fun e w' => e = .returned (.tuple #[.string ⟨#[0, 6, 0, 1, 105, 0, 0, 1, 36, 0, 1, 1, 109, 0, 2, 1, 111, 0, 3, 1, 99, 0, 4]⟩, .int .i64 0, .int .i64 0]) ∧ Below (W.alloc (.cells #[.string ⟨#[99, 111, 109]⟩] 9)).heap.size (W.alloc (.cells #[.string ⟨#[99, 111, 109]⟩] 9)) w') := hide (fun W h => by
    have := pcomp1 [99, 111, 109] W h
    rw [Sx.aw_c1] at this
    exact this)
  obtain ⟨X, hX⟩ : ∃ X : ByteArray, ⟨exX.toArray⟩ = X := ⟨_, rfl⟩
  have hXl : X.data.toList = exX := by rw [← hX]
  have HC2 : Hid (∀ W, LWt W → Calls Tryz.prog 22 #[.slice (some ⟨W.heap.size, 0, none⟩) 1 1] (W.alloc (.cells #[.string ⟨#[99, 111, 109, 10, 117, 107, 10, 99, 111, 46, 117, 107, 10, 42, 46, 99, 107, 10, 33, 119, 119, 119, 46, 99, 107, 10, 61, 61, 61, 112, 10, 98, 108, 111, 103, 115, 112, 111, 116, 46, 99, 111, 109, 10]⟩] 9)) fun e w' => e = .returned (.tuple #[.string X, .int .i64 0, .int .i64 0]) ∧ Below (W.alloc (.cells #[.string ⟨#[99, 111, 109, 10, 117, 107, 10, 99, 111, 46, 117, 107, 10, 42, 46, 99, 107, 10, 33, 119, 119, 119, 46, 99, 107, 10, 61, 61, 61, 112, 10, 98, 108, 111, 103, 115, 112, 111, 116, 46, 99, 111, 109, 10]⟩] 9)).heap.size (W.alloc (.cells #[.string ⟨#[99, 111, 109, 10, 117, 107, 10, 99, 111, 46, 117, 107, 10, 42, 46, 99, 107, 10, 33, 119, 119, 119, 46, 99, 107, 10, 61, 61, 61, 112, 10, 98, 108, 111, 103, 115, 112, 111, 116, 46, 99, 111, 109, 10]⟩] 9)) w') := hide (fun W h => by
    have := pcomp1 exT W h
    rw [ex_comp] at this
    rw [← hX]
    exact this)
  have HR1 : Hid (∀ W, LWt W → Calls Tryz.prog 23 #[.string X] W fun e w' => e = .returned (.tuple #[.string ⟨#[42, 46, 99, 107, 10, 33, 119, 119, 119, 46, 99, 107, 10, 99, 111, 109, 10, 117, 107, 10, 99, 111, 46, 117, 107, 10, 61, 61, 61, 112, 10, 98, 108, 111, 103, 115, 112, 111, 116, 46, 99, 111, 109, 10]⟩, .int .i64 0]) ∧ Below W.heap.size W w') := hide (fun W h => by
    have := prules X W h
    rw [hXl, ex_ls] at this
    exact this)
  have HL1 : Hid (∀ W, LWt W → Calls Tryz.prog 36 #[.string X, .string ⟨#[97, 46, 98, 46, 99, 111, 109]⟩, .string ⟨#[99, 111, 109]⟩, .string ⟨#[98, 46, 99, 111, 109]⟩, .string ⟨#[105]⟩] W fun e w' => e = .returned (.bool true) ∧ Below W.heap.size W w') := hide (fun W h => by
    have := klooks X ⟨#[97, 46, 98, 46, 99, 111, 109]⟩ ⟨#[99, 111, 109]⟩ ⟨#[98, 46, 99, 111, 109]⟩ ⟨#[105]⟩ W h
    rw [hXl, decide_eq_true (show lkR exX _ = _ from aw_l1)] at this
    exact this)
  have HL2 : Hid (∀ W, LWt W → Calls Tryz.prog 36 #[.string X, .string ⟨#[99, 111, 109]⟩, .string ⟨#[99, 111, 109]⟩, .string ⟨#[]⟩, .string ⟨#[105]⟩] W fun e w' => e = .returned (.bool true) ∧ Below W.heap.size W w') := hide (fun W h => by
    have := klooks X ⟨#[99, 111, 109]⟩ ⟨#[99, 111, 109]⟩ ⟨#[]⟩ ⟨#[105]⟩ W h
    rw [hXl, decide_eq_true (show lkR exX _ = _ from aw_l2)] at this
    exact this)
  have HL3 : Hid (∀ W, LWt W → Calls Tryz.prog 36 #[.string X, .string ⟨#[120, 46, 99, 111, 46, 117, 107]⟩, .string ⟨#[99, 111, 46, 117, 107]⟩, .string ⟨#[120, 46, 99, 111, 46, 117, 107]⟩, .string ⟨#[105]⟩] W fun e w' => e = .returned (.bool true) ∧ Below W.heap.size W w') := hide (fun W h => by
    have := klooks X ⟨#[120, 46, 99, 111, 46, 117, 107]⟩ ⟨#[99, 111, 46, 117, 107]⟩ ⟨#[120, 46, 99, 111, 46, 117, 107]⟩ ⟨#[105]⟩ W h
    rw [hXl, decide_eq_true (show lkR exX _ = _ from aw_l3)] at this
    exact this)
  have HL4 : Hid (∀ W, LWt W → Calls Tryz.prog 36 #[.string X, .string ⟨#[97, 46, 98, 46, 99, 107]⟩, .string ⟨#[98, 46, 99, 107]⟩, .string ⟨#[97, 46, 98, 46, 99, 107]⟩, .string ⟨#[105]⟩] W fun e w' => e = .returned (.bool true) ∧ Below W.heap.size W w') := hide (fun W h => by
    have := klooks X ⟨#[97, 46, 98, 46, 99, 107]⟩ ⟨#[98, 46, 99, 107]⟩ ⟨#[97, 46, 98, 46, 99, 107]⟩ ⟨#[105]⟩ W h
    rw [hXl, decide_eq_true (show lkR exX _ = _ from aw_l4)] at this
    exact this)
  have HL5 : Hid (∀ W, LWt W → Calls Tryz.prog 36 #[.string X, .string ⟨#[99, 107]⟩, .string ⟨#[99, 107]⟩, .string ⟨#[]⟩, .string ⟨#[45]⟩] W fun e w' => e = .returned (.bool true) ∧ Below W.heap.size W w') := hide (fun W h => by
    have := klooks X ⟨#[99, 107]⟩ ⟨#[99, 107]⟩ ⟨#[]⟩ ⟨#[45]⟩ W h
    rw [hXl, decide_eq_true (show lkR exX _ = _ from aw_l5)] at this
    exact this)
  have HL6 : Hid (∀ W, LWt W → Calls Tryz.prog 36 #[.string X, .string ⟨#[97, 46, 119, 119, 119, 46, 99, 107]⟩, .string ⟨#[99, 107]⟩, .string ⟨#[119, 119, 119, 46, 99, 107]⟩, .string ⟨#[105]⟩] W fun e w' => e = .returned (.bool true) ∧ Below W.heap.size W w') := hide (fun W h => by
    have := klooks X ⟨#[97, 46, 119, 119, 119, 46, 99, 107]⟩ ⟨#[99, 107]⟩ ⟨#[119, 119, 119, 46, 99, 107]⟩ ⟨#[105]⟩ W h
    rw [hXl, decide_eq_true (show lkR exX _ = _ from aw_l6)] at this
    exact this)
  have HL7 : Hid (∀ W, LWt W → Calls Tryz.prog 36 #[.string X, .string ⟨#[97, 46, 98, 108, 111, 103, 115, 112, 111, 116, 46, 99, 111, 109]⟩, .string ⟨#[98, 108, 111, 103, 115, 112, 111, 116, 46, 99, 111, 109]⟩, .string ⟨#[97, 46, 98, 108, 111, 103, 115, 112, 111, 116, 46, 99, 111, 109]⟩, .string ⟨#[112]⟩] W fun e w' => e = .returned (.bool true) ∧ Below W.heap.size W w') := hide (fun W h => by
    have := klooks X ⟨#[97, 46, 98, 108, 111, 103, 115, 112, 111, 116, 46, 99, 111, 109]⟩ ⟨#[98, 108, 111, 103, 115, 112, 111, 116, 46, 99, 111, 109]⟩ ⟨#[97, 46, 98, 108, 111, 103, 115, 112, 111, 116, 46, 99, 111, 109]⟩ ⟨#[112]⟩ W h
    rw [hXl, decide_eq_true (show lkR exX _ = _ from aw_l7)] at this
    exact this)
  have HL8 : Hid (∀ W, LWt W → Calls Tryz.prog 36 #[.string X, .string ⟨#[97, 46, 98, 46, 122, 122]⟩, .string ⟨#[122, 122]⟩, .string ⟨#[98, 46, 122, 122]⟩, .string ⟨#[45]⟩] W fun e w' => e = .returned (.bool true) ∧ Below W.heap.size W w') := hide (fun W h => by
    have := klooks X ⟨#[97, 46, 98, 46, 122, 122]⟩ ⟨#[122, 122]⟩ ⟨#[98, 46, 122, 122]⟩ ⟨#[45]⟩ W h
    rw [hXl, decide_eq_true (show lkR exX _ = _ from aw_l8)] at this
    exact this)
  rw [hX]
  have HW := hide hw
  have HLW : Hid (∀ W, Below w.heap.size w W → LWt W) := hide (fun W h => lwt_stays _ _ hw h)
  clear hw hX hXl
  go_enter Tryz.func16, Tryz.ntmps16
  go_wp2_with fail
  refine (HP1.out _ HW.out).mono ?_
  rintro e w1 ⟨hB, rfl⟩
  have HB1 : Hid (Below w.heap.size w w1) := hide (below_step (Below.refl _ w) hB)
  clear hB
  go_wp2_with fail
  refine (HP2.out _ (HLW.out _ HB1.out)).mono ?_
  rintro e w2 ⟨hB, rfl⟩
  have HB2 : Hid (Below w.heap.size w w2) := hide (below_step (HB1.out) hB)
  clear hB
  go_wp2_with fail
  refine (HS1.out _ (HLW.out _ HB2.out)).mono ?_
  rintro e w3 ⟨hB, rfl⟩
  have HB3 : Hid (Below w.heap.size w w3) := hide (below_step (HB2.out) hB)
  clear hB
  go_wp2_with fail
  refine (HC1.out _ (HLW.out _ HB3.out)).mono ?_
  rintro e w4 ⟨rfl, hB⟩
  have HB4 : Hid (Below w.heap.size w w4) := hide (below_stepA (HB3.out) hB)
  clear hB
  go_wp2_with fail
  refine (HC2.out _ (HLW.out _ HB4.out)).mono ?_
  rintro e w5 ⟨rfl, hB⟩
  have HB5 : Hid (Below w.heap.size w w5) := hide (below_stepA (HB4.out) hB)
  clear hB
  go_wp2_with fail
  refine (HR1.out _ (HLW.out _ HB5.out)).mono ?_
  rintro e w6 ⟨rfl, hB⟩
  have HB6 : Hid (Below w.heap.size w w6) := hide (below_step (HB5.out) hB)
  clear hB
  go_wp2_with fail
  refine (HL1.out _ (HLW.out _ HB6.out)).mono ?_
  rintro e w7 ⟨rfl, hB⟩
  have HB7 : Hid (Below w.heap.size w w7) := hide (below_step (HB6.out) hB)
  clear hB
  go_wp2_with fail
  refine (HL2.out _ (HLW.out _ HB7.out)).mono ?_
  rintro e w8 ⟨rfl, hB⟩
  have HB8 : Hid (Below w.heap.size w w8) := hide (below_step (HB7.out) hB)
  clear hB
  go_wp2_with fail
  refine (HL3.out _ (HLW.out _ HB8.out)).mono ?_
  rintro e w9 ⟨rfl, hB⟩
  have HB9 : Hid (Below w.heap.size w w9) := hide (below_step (HB8.out) hB)
  clear hB
  go_wp2_with fail
  refine (HL4.out _ (HLW.out _ HB9.out)).mono ?_
  rintro e w10 ⟨rfl, hB⟩
  have HB10 : Hid (Below w.heap.size w w10) := hide (below_step (HB9.out) hB)
  clear hB
  go_wp2_with fail
  refine (HL5.out _ (HLW.out _ HB10.out)).mono ?_
  rintro e w11 ⟨rfl, hB⟩
  have HB11 : Hid (Below w.heap.size w w11) := hide (below_step (HB10.out) hB)
  clear hB
  go_wp2_with fail
  refine (HL6.out _ (HLW.out _ HB11.out)).mono ?_
  rintro e w12 ⟨rfl, hB⟩
  have HB12 : Hid (Below w.heap.size w w12) := hide (below_step (HB11.out) hB)
  clear hB
  go_wp2_with fail
  refine (HL7.out _ (HLW.out _ HB12.out)).mono ?_
  rintro e w13 ⟨rfl, hB⟩
  have HB13 : Hid (Below w.heap.size w w13) := hide (below_step (HB12.out) hB)
  clear hB
  go_wp2_with fail
  refine (HL8.out _ (HLW.out _ HB13.out)).mono ?_
  rintro e w14 ⟨rfl, hB⟩
  have HB14 : Hid (Below w.heap.size w w14) := hide (below_step (HB13.out) hB)
  clear hB
  go_wp2
  go_ret
  exact ⟨rfl, HB14.out⟩
end Go.Proofs.YtgohllfpceeboaaGreatDoor

namespace Go.Proofs.YtgohllfpceeboaaGreatDoor
open Go.RowKit
theorem exX_len : 0 < exX.length := by
  have h := ex_opn
  by_cases h0 : exX = []
  · rw [h0] at h
    exact absurd (congrArg Prod.snd h) (by decide)
  · exact List.length_pos_iff.2 h0
theorem ne_text {X : ByteArray} (h : 0 < X.size) : X.toList.isEmpty = false := by
  rw [ByteArray.toList_eq, List.isEmpty_eq_false_iff]
  intro e
  have := congrArg List.length e
  rw [ba_len, List.length_nil] at this
  omega
theorem no_text {X : ByteArray} (h : X.data.toList = []) : X.toList.isEmpty = true := by
  rw [ByteArray.toList_eq, h]
  rfl
set_option maxRecDepth 100000 in
set_option maxHeartbeats 4000000 in
/-- suffixkeep.Steady -/
theorem ksteady (s : ByteArray) (w : World) (hw : LWt w) : Calls Tryz.prog 7 #[.string s] w fun e w' => e = .returned (.bool true) ∧ Below w.heap.size w w' := by
  have HAW := hide (kawake w hw)
  have hXs : 0 < (⟨exX.toArray⟩ : ByteArray).size := exX_len
  obtain ⟨X, hX⟩ : ∃ X : ByteArray, ⟨exX.toArray⟩ = X := ⟨_, rfl⟩
  rw [hX] at HAW hXs
  have hXe := ne_text hXs
  have HLW : Hid (∀ W, Below w.heap.size w W → LWt W) := hide (fun W h => lwt_stays _ _ hw h)
  have HPL : Hid (∀ (t : ByteArray) W, LWt W → Calls Tryz.prog 18 #[.string t] W fun e w' => Below W.heap.size W w' ∧ e = .returned (.tuple #[.string ⟨(Sx.plainR t.data.toList).1.toArray⟩, .int .i64 (Sx.plainR t.data.toList).2])) := hide (fun t W h => plainsaid_any t W h)
  have HSH : Hid (∀ (t : ByteArray) W, LWt W → Calls Tryz.prog 19 #[.string t] W fun e w' => Below W.heap.size W w' ∧ e = .returned (.tuple #[.string ⟨(Sx.shownR t.data.toList).1.toArray⟩, .int .i64 (Sx.shownR t.data.toList).2])) := hide (fun t W h => shownsaid_any t W h)
  have hst := Sx.steady_pure s.data.toList
  have her := Sx.steady_err s.data.toList
  have h1 := HPL.out s
  have h2 := HSH.out s
  have hef : (Sx.shownR s.data.toList).2 = (Sx.plainR s.data.toList).2 := rfl
  rw [hef] at h2
  obtain ⟨⟨p, e⟩, hp⟩ : ∃ q, Sx.plainR s.data.toList = q := ⟨_, rfl⟩
  obtain ⟨sh, hsh⟩ : ∃ q, (Sx.shownR s.data.toList).1 = q := ⟨_, rfl⟩
  rw [hp] at hst her h1 h2
  rw [hsh] at hst her h2
  dsimp only at hst her h1 h2
  obtain ⟨P, hP⟩ : ∃ P : ByteArray, ⟨p.toArray⟩ = P := ⟨_, rfl⟩
  obtain ⟨S, hS⟩ : ∃ S : ByteArray, ⟨sh.toArray⟩ = S := ⟨_, rfl⟩
  rw [hP] at h1
  rw [hS] at h2
  have hPl : P.data.toList = p := by rw [← hP]
  have hSl : S.data.toList = sh := by rw [← hS]
  have H1 := hide h1
  have H2 := hide h2
  clear h1 h2 hef hp hsh hX hXs hw
  by_cases he : e = 0
  · subst he
    obtain ⟨q1, q2, q3⟩ := hst rfl
    have h3 := HPL.out P
    have h4 := HSH.out P
    rw [hPl, q1] at h3
    rw [hPl, q2] at h4
    dsimp only at h3 h4
    rw [hP] at h3
    rw [hS] at h4
    have h5 := HPL.out S
    rw [hSl] at h5
    have HR : Hid ((Sx.plainR sh).2 = 1 ∨ ((Sx.plainR sh).2 = 0 ∧ (Sx.plainR sh).1 = p)) := hide (by
      rcases q3 with q | q
      · exact Or.inl q
      · rw [q]; exact Or.inr ⟨rfl, rfl⟩)
    obtain ⟨⟨r, i⟩, hr⟩ : ∃ q, Sx.plainR sh = q := ⟨_, rfl⟩
    rw [hr] at h5 HR
    dsimp only at h5 HR
    obtain ⟨R, hR⟩ : ∃ R : ByteArray, ⟨r.toArray⟩ = R := ⟨_, rfl⟩
    rw [hR] at h5
    have HRP : Hid (r = p → (R.toList == P.toList) = true) := hide (fun e => by rw [ba_eq, ← hR, ← hP, e]; simp)
    have H3 := hide h3
    have H4 := hide h4
    have H5 := hide h5
    have pp : (P.toList == P.toList) = true := by simp
    have ss : (S.toList == S.toList) = true := by simp
    clear h3 h4 h5 q1 q2 q3 hst her hr hR hP hS hPl hSl
    go_enter Tryz.func7, Tryz.ntmps7
    go_wp2_with fail
    refine HAW.out.mono ?_
    rintro e w1 ⟨rfl, hB⟩
    have HB1 := hide hB
    clear hB HAW
    go_wp2_with fail
    refine (H1.out _ (HLW.out _ HB1.out)).mono ?_
    rintro e w2 ⟨hB, rfl⟩
    have HB2 := hide (below_step HB1.out hB)
    clear hB
    go_wp2_with fail
    refine (H2.out _ (HLW.out _ HB2.out)).mono ?_
    rintro e w3 ⟨hB, rfl⟩
    have HB3 := hide (below_step HB2.out hB)
    clear hB
    go_wp2_with fail
    refine (H3.out _ (HLW.out _ HB3.out)).mono ?_
    rintro e w4 ⟨hB, rfl⟩
    have HB4 := hide (below_step HB3.out hB)
    clear hB
    go_wp2_with fail
    refine (H4.out _ (HLW.out _ HB4.out)).mono ?_
    rintro e w5 ⟨hB, rfl⟩
    have HB5 := hide (below_step HB4.out hB)
    clear hB
    go_wp2_with fail
    refine (H5.out _ (HLW.out _ HB5.out)).mono ?_
    rintro e w6 ⟨hB, rfl⟩
    have HB6 := hide (below_step HB5.out hB)
    clear hB
    rcases HR.out with hi | ⟨hi, hrp⟩
    · subst hi
      go_wp2
      go_ret
      exact ⟨rfl, HB6.out⟩
    · subst hi
      have hRP := HRP.out hrp
      go_wp2
      go_ret
      exact ⟨rfl, HB6.out⟩
  · obtain ⟨q1, q2⟩ := her he
    have hP0 := no_text (X := P) (by rw [hPl, q1])
    have hS0 := no_text (X := S) (by rw [hSl, q2])
    have k1 : (e != 0) = true := by simpa using he
    have k2 : (e == 0) = false := by simpa using he
    clear q1 q2 hst her hP hS hPl hSl HPL HSH
    go_enter Tryz.func7, Tryz.ntmps7
    go_wp2_with fail
    refine HAW.out.mono ?_
    rintro e w1 ⟨rfl, hB⟩
    have HB1 := hide hB
    clear hB HAW
    go_wp2_with fail
    refine (H1.out _ (HLW.out _ HB1.out)).mono ?_
    rintro e w2 ⟨hB, rfl⟩
    have HB2 := hide (below_step HB1.out hB)
    clear hB
    go_wp2_with fail
    refine (H2.out _ (HLW.out _ HB2.out)).mono ?_
    rintro e w3 ⟨hB, rfl⟩
    have HB3 := hide (below_step HB2.out hB)
    clear hB
    go_wp2
    go_ret
    exact ⟨rfl, HB3.out⟩
end Go.Proofs.YtgohllfpceeboaaGreatDoor

namespace Go.Proofs.YtgohllfpceeboaaGreatDoor
open Go.RowKit
set_option maxRecDepth 100000 in
set_option maxHeartbeats 4000000 in
/-- suffixkeep.Again -/
theorem kagain (L : List (List UInt8)) (v : Value) (w : World) (hw : LWt w) (hrd : RdS w v L) (hL : L.length ≤ 1000000000000) : Calls Tryz.prog 8 #[v] w fun e w' => e = .returned (.bool true) ∧ Below w.heap.size w w' := by
  have HAW := hide (kawake w hw)
  have hXs : 0 < (⟨exX.toArray⟩ : ByteArray).size := exX_len
  obtain ⟨X, hX⟩ : ∃ X : ByteArray, ⟨exX.toArray⟩ = X := ⟨_, rfl⟩
  rw [hX] at HAW hXs
  have hXe := ne_text hXs
  have HLW : Hid (∀ W, Below w.heap.size w W → LWt W) := hide (fun W h => lwt_stays _ _ hw h)
  have HCO := hide (fun W (h : Below w.heap.size w W) => pcomp L v W (lwt_stays _ _ hw h) (RdS.below hrd h) hL)
  obtain ⟨vp, vc, rfl, _⟩ := hrd
  have hag := again_pure (L := L)
  have her := comp_err (L := L)
  obtain ⟨⟨i, e, a⟩, hc⟩ : ∃ q, Sx.compR L = q := ⟨_, rfl⟩
  rw [hc] at HCO hag her
  dsimp only at HCO hag her
  obtain ⟨I, hI⟩ : ∃ I : ByteArray, ⟨i.toArray⟩ = I := ⟨_, rfl⟩
  have hIl : I.data.toList = i := by rw [← hI]
  rw [hI] at HCO
  clear hc hX hXs hw
  by_cases he : e = 0
  · subst he
    obtain ⟨rfl, r, q1, q2⟩ := hag rfl
    have h1 := fun W h => prules I W h
    rw [hIl, q1] at h1
    have h2 := fun W h => pcomp1 r W h
    rw [q2] at h2
    dsimp only at h1 h2
    obtain ⟨R, hR⟩ : ∃ R : ByteArray, ⟨r.toArray⟩ = R := ⟨_, rfl⟩
    rw [hR] at h1 h2
    rw [hI] at h2
    have H1 := hide h1
    have H2 := hide h2
    have ii : (I.toList == I.toList) = true := by simp
    have rr : (R.toList == R.toList) = true := by simp
    clear h1 h2 q1 q2 hag her hI hIl hR
    go_enter Tryz.func8, Tryz.ntmps8
    go_wp2_with fail
    refine HAW.out.mono ?_
    rintro e w1 ⟨rfl, hB⟩
    have HB1 := hide hB
    clear hB HAW
    go_wp2_with fail
    refine (HCO.out _ HB1.out).mono ?_
    rintro e w2 ⟨rfl, hB⟩
    have HB2 := hide (below_step HB1.out hB)
    clear hB HCO
    go_wp2_with fail
    refine (H1.out _ (HLW.out _ HB2.out)).mono ?_
    rintro e w3 ⟨rfl, hB⟩
    have HB3 := hide (below_step HB2.out hB)
    clear hB
    go_wp2_with fail
    refine (H2.out _ (HLW.out _ HB3.out)).mono ?_
    rintro e w4 ⟨rfl, hB⟩
    have HB4 := hide (below_stepA HB3.out hB)
    clear hB
    go_wp2_with fail
    refine (H1.out _ (HLW.out _ HB4.out)).mono ?_
    rintro e w5 ⟨rfl, hB⟩
    have HB5 := hide (below_step HB4.out hB)
    clear hB
    go_wp2
    go_ret
    exact ⟨rfl, HB5.out⟩
  · have hI0 := no_text (X := I) (by rw [hIl]; exact her he)
    have k1 : (e != 0) = true := by simpa using he
    clear hag her hI hIl
    go_enter Tryz.func8, Tryz.ntmps8
    go_wp2_with fail
    refine HAW.out.mono ?_
    rintro e w1 ⟨rfl, hB⟩
    have HB1 := hide hB
    clear hB HAW
    go_wp2_with fail
    refine (HCO.out _ HB1.out).mono ?_
    rintro e w2 ⟨rfl, hB⟩
    have HB2 := hide (below_step HB1.out hB)
    clear hB HCO
    go_wp2
    go_ret
    exact ⟨rfl, HB2.out⟩
end Go.Proofs.YtgohllfpceeboaaGreatDoor

