import Derived.Test.YtgohllfpceeboabGreatDoorSbaa
import Derived.Test.YtgohllfpceeboabGreatDoorSbac
import Derived.Test.YtgohllfpceeboabGreatDoorSbai
import Derived.Test.YtgohllfpceeboabGreatDoorSbak
import Derived.Test.YtgohllfpceeboabGreatDoorProg
import Derived.Test.YtgohllfpceeboabGreatDoorSbaj
import Derived.Test.YtgohllfpceeboabGreatDoorSbab
import Derived.RangeFuncNested
import Derived.RangeFuncBound
import Derived.RangeFuncCalls
import Derived.RangeFuncLeaves
import Derived.Shelf.Abstract
import Derived.Shelf.RegionOpen
import Derived.WalkKit
import Derived.OwnWalkIn
import Derived.TacticsInMore
import Derived.LoopNIn
import Derived.LoopIn
import Derived.Ground.NamesProg
import Derived.Shelf.Strings.SlTrimAscii
import Derived.Shelf.Strings.Builder1
import Derived.Shelf.Unicode.ValidAny
namespace Sx
/-- The letters ahead of the divider. -/
def plainPart (s : List UInt8) : List Int := (s.take (dash s).toNat).map fun c => (c.toNat : Int)
def numPart (s : List UInt8) : List UInt8 := s.drop (dash s + 1).toNat
def letOf (s : List UInt8) : List UInt8 := if codeOk s then text ((dec s).getD []) else []
theorem dec_parts (s : List UInt8) : dec s = if numPart s = [] then none else decL (plainPart s) 72 128 0 true (numPart s) := by
  have h := dashTo_bd s s.length
  unfold dec numPart plainPart
  by_cases c : (s.length : Int) ≤ dash s + 1
  · rw [if_pos c, if_pos (List.drop_eq_nil_of_le (by unfold dash at *; omega))]
  · rw [if_neg c, if_neg]
    intro e
    have := congrArg List.length e
    rw [List.length_drop] at this
    simp at this
    unfold dash at *
    omega
end Sx
namespace Go.Proofs.YtgohllfpceeboabGreatDoor
open Go.RowKit
attribute [local go_sem ↓] Go.wp_at_zero Go.wp_at_succ
/-- What is passed over, told again by the way. -/
theorem behind_passed (n i L d : Int) : (n + (i + d) / (L + 1) - n) * (L + 1) + (i + d) % (L + 1) - i = d := by
  have := Int.emod_add_mul_ediv (i + d) (L + 1)
  have h2 : (n + (i + d) / (L + 1) - n) = (i + d) / (L + 1) := by omega
  rw [h2, Int.mul_comm]
  omega
theorem most_bound (n i L d : Int) (hL : 0 ≤ L) (hi : 0 ≤ i) (h : (1114112 - n) * (L + 1) < d) : 1114111 < n + (i + d) / (L + 1) := by
  have : 1114112 - n ≤ (i + d) / (L + 1) := (Int.le_ediv_iff_mul_le (by omega)).2 (by omega)
  omega
theorem most_le (n L : Int) (h0 : 128 ≤ n) (h1 : n ≤ 1114111) (hL : 0 ≤ L) (hL2 : L ≤ 100) : 0 ≤ (1114112 - n) * (L + 1) ∧ (1114112 - n) * (L + 1) ≤ 112512384 := by
  have a : (1114112 - n) * (L + 1) ≤ 1113984 * (L + 1) := Int.mul_le_mul_of_nonneg_right (by omega) (by omega)
  exact ⟨Int.mul_nonneg (by omega) (by omega), by omega⟩
theorem point_le (n i L d : Int) (hL : 0 ≤ L) (hi : 0 ≤ i) (hi2 : i ≤ L + 1) (hd : 0 ≤ d) (h : d ≤ (1114112 - n) * (L + 1)) : n ≤ n + (i + d) / (L + 1) ∧ n + (i + d) / (L + 1) ≤ 1114113 := by
  have a : 0 ≤ (i + d) / (L + 1) := Int.ediv_nonneg (by omega) (by omega)
  have b : (i + d) / (L + 1) ≤ 1114112 - n + 1 := by
    have : (i + d) / (L + 1) < 1114112 - n + 2 := Int.ediv_lt_of_lt_mul (by omega) (by
      have : (1114112 - n + 2) * (L + 1) = (1114112 - n) * (L + 1) + 2 * (L + 1) := by rw [Int.add_mul]
      omega)
    omega
  omega
theorem own_ruat {w : World} {B g n c : Nat} {l : List Int} (h : w.ownsRow B 21 1 (.slice (some ⟨g, 0, none⟩) n c) n (ruV l)) (hz : n = l.length) : (convert 232 9 (.slice (some ⟨g, 0, none⟩) n c)).run Tryz.prog w = .ok (.string (runesBytes l)) w := by
  have := run_convert_runes (P := Tryz.prog) w 232 9 21 ⟨g, 0, none⟩ n c l (by omega) Tryz.underlying232 Tryz.underlying21 Tryz.underlying9 (fun j hj => by
    have := h.cells (g := g) rfl j (.int .i32 (l.getD j 0)) (by unfold ruV; rw [List.getElem?_map, List.getElem?_eq_getElem hj]; simp [List.getElem?_eq_getElem hj])
    exact this)
  rw [hz, List.take_length] at this
  rw [hz]; exact this
theorem ba_ext (s : ByteArray) (a b : Nat) : (s.extract a b).data.toList = (s.data.toList.take b).drop a := by
  rw [ByteArray.data_extract, Array.toList_extract]
  simp [List.extract_eq_take_drop, List.drop_take]
theorem ascii_text : ∀ (l : List UInt8), (∀ b ∈ l, b.toNat < 128) → Sx.text (l.map fun c => (c.toNat : Int)) = l := by
  intro l
  induction l with
  | nil => intro _; rfl
  | cons x l ih =>
    intro h
    have hx := h x (List.mem_cons_self ..)
    have e : Sx.utf (x.toNat : Int) = [x] := by
      unfold Sx.utf
      rw [if_pos (by omega)]
      congr 1
      simp
    have := ih (fun y hy => h y (List.mem_cons_of_mem _ hy))
    unfold Sx.text at this ⊢
    rw [List.map_cons, List.flatMap_cons, this, e]; rfl
theorem ascii_good (l : List UInt8) (h : ∀ b ∈ l, b.toNat < 128) : ∀ c ∈ l.map (fun c => (c.toNat : Int)), Sx.Good c ∧ c < 128 := by
  intro c hc
  obtain ⟨x, hx, rfl⟩ := List.mem_map.1 hc
  have := h x hx
  unfold Sx.Good
  omega
theorem ascii_letters (l : List UInt8) (h : ∀ b ∈ l, b.toNat < 128) : Sx.letters l = some (l.map fun c => (c.toNat : Int)) := by
  have := Sx.letters_text (l.map fun c => (c.toNat : Int)) (fun c hc => (ascii_good l h c hc).1)
  rw [ascii_text l h] at this
  exact this
/-- What is asked of the letters that stand so far. -/
structure LetAt (s : List UInt8) (l : List Int) (q : List UInt8) (n i bias dm : Int) (first : Bool) : Prop where
  good : ∀ c ∈ l, Sx.Good c
  len : l.length + q.length ≤ 16
  dec : Sx.decL l bias n (i + 1) first q = Sx.decL (Sx.plainPart s) 72 128 0 true (Sx.numPart s)
  dm : dm = if first then 700 else 2
  n0 : 128 ≤ n
  n1 : n ≤ 1114111
  i0 : -1 ≤ i
  i1 : i ≤ l.length
  b0 : 0 ≤ bias
  b1 : bias ≤ 180
  some : (first = true ∧ l = Sx.plainPart s ∧ q = Sx.numPart s) ∨ (first = false ∧ l.any (fun c => decide (128 ≤ c)) = true ∧ Sx.numPart s ≠ [])
theorem pmost_below (b : Nat) (n i L bias dm : Int) (w : World) (hR : RowAt w b n i L bias dm) (h0 : 128 ≤ n) (h1 : n ≤ 1114111) (h2 : 0 ≤ L) (h3 : L ≤ 1000) :
    Calls Tryz.prog 163 #[.pointer (some ⟨b, 0, none⟩)] w fun e w' => e = .returned (.int .i64 ((1114112 - n) * (L + 1))) ∧ Below w.heap.size w w' ∧ w'.heap.size = w.heap.size := by
  refine (pmost_any b n i L bias dm w hR h0 h1 h2 h3).mono ?_
  rintro e w' ⟨rfl, q, rfl⟩
  exact ⟨rfl, below_drewN (Below.refl _ w) q, rfl⟩
theorem num_rest (bias : Int) : ∀ (s : List UInt8) (d w : Int) (k : Nat) (d' : Int) (s' : List UInt8), Sx.numF bias d w k s = some (d', s') → s' = s.drop (s.length - s'.length) := by
  intro s
  induction s with
  | nil => intro d w k d' s' h; simp [Sx.numF] at h
  | cons x s ih =>
    intro d w k d' s' h
    have hl := Sx.numF_len _ _ _ _ _ _ _ h
    simp only [List.length_cons] at hl ⊢
    rw [show s.length + 1 - s'.length = (s.length - s'.length) + 1 from by omega, List.drop_succ_cons]
    simp only [Sx.numF] at h
    split at h
    · simp at h
    · split at h
      · simp at h
      · split at h
        · simp only [Option.some.injEq, Prod.mk.injEq] at h
          rw [← h.2, Nat.sub_self]; rfl
        · exact ih _ _ _ _ _ h
theorem wrap_i32 (m : Int) (h0 : 0 ≤ m) (h1 : m ≤ 2000000) : IntKind.i32.wrap m = m := by
  have e : IntKind.i32.wrap m = if (m % 4294967296) ≥ 2147483648 then m % 4294967296 - 4294967296 else m % 4294967296 := by
    simp [IntKind.wrap, IntKind.signed, IntKind.bits]
  rw [e, if_neg (by omega)]
  omega
theorem ways_count (l : List Int) : (waysTo l l.length).length = (l.filter fun c => decide (128 ≤ c)).length := by
  rw [waysTo_all, List.length_map, ← (Sx.ord_perm l).length_eq, Sx.ord_len]
theorem ways_some (l : List Int) (h : (l.any fun c => decide (128 ≤ c)) = true) : 0 < (waysTo l l.length).length := by
  rw [ways_count]
  obtain ⟨c, hc, h2⟩ := List.any_eq_true.1 h
  exact List.length_pos_of_mem (List.mem_filter.2 ⟨hc, h2⟩)
theorem ways_few (l : List Int) : (waysTo l l.length).length ≤ l.length := waysTo_le l l.length
def strLen : Value → Nat
  | .string b => b.size
  | _ => 0
theorem no_code (s : List UInt8) (h : Sx.decL (Sx.plainPart s) 72 128 0 true (Sx.numPart s) = none) : Sx.codeOk s = false ∧ Sx.letOf s = [] := by
  have e : Sx.dec s = none := by rw [Sx.dec_parts]; split
                                 · rfl
                                 · exact h
  have e2 : Sx.codeOk s = false := by unfold Sx.codeOk; rw [e]
  exact ⟨e2, by unfold Sx.letOf; rw [e2]; rfl⟩
set_option maxRecDepth 100000 in
set_option maxHeartbeats 4000000 in
/-- code.Letters -/
theorem plet_any (s : ByteArray) (w : World) (hs : s.size ≤ 16) (hp : ∀ b ∈ s.data.toList, b.toNat < 128) :
    Calls Tryz.prog 115 #[.string s] w fun e w' => e = .returned (.tuple #[.string ⟨(Sx.letOf s.data.toList).toArray⟩, .bool (Sx.codeOk s.data.toList)]) ∧ Below w.heap.size w w' := by
  have HP := hide hp
  clear hp
  have hln : s.data.toList.length = s.size := ba_len s
  have hdb := Sx.dashTo_bd s.data.toList s.data.toList.length
  obtain ⟨P, hP⟩ : ∃ P, s.extract 0 (Sx.dash s.data.toList).toNat = P := ⟨_, rfl⟩
  obtain ⟨N, hN⟩ : ∃ N, s.extract (Sx.dash s.data.toList + 1).toNat s.size = N := ⟨_, rfl⟩
  have hPl : P.data.toList = s.data.toList.take (Sx.dash s.data.toList).toNat := by rw [← hP, ba_ext, List.drop_zero]
  have hNl : N.data.toList = Sx.numPart s.data.toList := by
    rw [← hN, ba_ext]; unfold Sx.numPart
    rw [← hln, List.take_length]
  have hasc : ∀ b ∈ P.data.toList, b.toNat < 128 := fun b hb => HP.out b (by rw [hPl] at hb; exact List.mem_of_mem_take hb)
  have hlet := ascii_letters _ hasc
  have hgood := ascii_good _ hasc
  have hpp : Sx.plainPart s.data.toList = P.data.toList.map fun c => (c.toNat : Int) := by rw [hPl]; rfl
  rw [← hpp] at hlet hgood
  have hps : (Sx.plainPart s.data.toList).length + N.size ≤ 16 := by
    rw [hpp, List.length_map, hPl, List.length_take, ← ba_len N, hNl]
    unfold Sx.numPart
    rw [List.length_drop]
    unfold Sx.dash at *
    omega
  have hpz : P.size ≤ 16 := by rw [← ba_len P, hPl, List.length_take]; omega
  have HSP := hide (psplit_any s w (by omega))
  have HC : Hid (Calls Tryz.prog 160 #[.string s] w fun e w' => e = .returned (.tuple #[.string P, .string N]) ∧ ∃ q, w' = w.drewN q) := hide (by have := HSP.out; rw [hP, hN] at this; exact this)
  have HLET := hide hlet
  have HGOOD := hide hgood
  have HNL := hide hNl
  clear HSP hP hN hPl hNl hasc hlet hgood hpp hdb hln
  go_enter Tryz.func115, Tryz.ntmps115
  go_wp2_with fail
  refine HC.out.mono ?_
  rintro e w1 ⟨rfl, q0, hw1⟩
  have hBw1 : Below w.heap.size w w1 := by rw [hw1]; exact below_drewN (Below.refl _ w) _
  clear hw1 HC
  obtain ⟨l0, hl0⟩ : ∃ l0, Sx.plainPart s.data.toList = l0 := ⟨_, rfl⟩
  rw [hl0] at HLET HGOOD hps
  have hrunes := runes_of P P.size 0 l0 #[] (by rw [List.drop_zero]; exact HLET.out) (by omega) (by omega)
  rw [Array.empty_append] at hrunes
  have hcv := run_runes_of_string (P := Tryz.prog) w1 9 232 21 P Tryz.underlying9 Tryz.underlying232 Tryz.underlying21 (by rw [hrunes]; simp; omega)
  rw [hrunes] at hcv
  have hrs : (l0.map fun c => Value.int .i32 c).toArray.size = l0.length := by simp
  rw [hrs] at hcv
  have hcg := grownCap_ge w1 l0.length 0 21
  have hcm := grownCap_le_maxLen w1 l0.length 0 21 (by unfold maxLen; omega)
  obtain ⟨cap, hcap⟩ : ∃ cap, grownCap w1 l0.length 0 21 = cap := ⟨_, rfl⟩
  rw [hcap] at hcv hcg hcm
  obtain ⟨cs, hcs⟩ : ∃ cs, (l0.map fun c => Value.int .i32 c).toArray ++ Array.replicate (cap - l0.length) (.int .i32 0) = cs := ⟨_, rfl⟩
  rw [hcs] at hcv
  have hown : (w1.drew.alloc (.cells cs 21)).ownsRow w.heap.size 21 1 (.slice (some ⟨w1.heap.size, 0, none⟩) l0.length cap) l0.length (ruV l0) := by
    refine ⟨by rw [ruV_len]; omega, .inr ⟨w1.heap.size, cap, cs, rfl, hBw1.size, ?_, hcg, hcm, ?_, ?_⟩⟩
    · show (w1.drew.heap.push _)[w1.heap.size]? = _; exact Array.getElem?_push_size
    · rw [← hcs]; simp; omega
    · rw [← hcs, Nat.mul_one, Array.toList_append, List.take_append_of_le_length (by simp), List.take_of_length_le (by simp)]; rfl
  have hB2 : Below w.heap.size w (w1.drew.alloc (.cells cs 21)) := (hBw1.drew).alloc hBw1.size _
  have hsz2 : (w1.drew.alloc (.cells cs 21)).heap.size = w1.heap.size + 1 := World.size_alloc _ _
  obtain ⟨W2, hW2⟩ : ∃ W2, w1.drew.alloc (.cells cs 21) = W2 := ⟨_, rfl⟩
  rw [hW2] at hcv hown hB2 hsz2
  have HOWN := hide hown
  have HB2 := hide hB2
  have HSZ2 := hide hsz2
  have HL0 := hide hl0
  clear hrs hrunes hcs hW2 hcap hown hB2 hsz2 hl0
  go_wp2_with (go_at_call 161; go_must (refine (prow_any _ _).mono ?_; rintro e w3 ⟨rfl, hBr⟩))
  have hw3 := hBr.size
  have hR4 := row_new w3 236 128 (-1) l0.length 72 700
  have hB4 : Below w.heap.size w (w3.alloc (.cells #[.int .i64 128, .int .i64 (-1), .int .i64 l0.length, .int .i64 72, .int .i64 700] 236)) := (HB2.out.trans (hBr.mono HB2.out.size)).alloc (Nat.le_trans HB2.out.size hw3) _
  have how4 := (own_below HOWN.out hBr (Nat.le_refl _)).alloc (.cells #[.int .i64 128, .int .i64 (-1), .int .i64 l0.length, .int .i64 72, .int .i64 700] 236)
  have hnb : w1.heap.size ≠ w3.heap.size := by have := HSZ2.out; omega
  obtain ⟨rb, hrb⟩ : ∃ rb, w3.heap.size = rb := ⟨_, rfl⟩
  obtain ⟨g0, hg0⟩ : ∃ g0, w1.heap.size = g0 := ⟨_, rfl⟩
  obtain ⟨W4, hW4⟩ : ∃ W4, (w3.alloc (.cells #[.int .i64 128, .int .i64 (-1), .int .i64 l0.length, .int .i64 72, .int .i64 700] 236)) = W4 := ⟨_, rfl⟩
  have hrw : w.heap.size ≤ rb := by rw [← hrb]; exact Nat.le_trans HB2.out.size hw3
  rw [hW4] at hR4 hB4 how4 ⊢
  rw [hrb] at hR4 hnb ⊢
  rw [hg0] at how4 hnb ⊢
  have HR4 := hide hR4
  have HOW4 := hide how4
  have HB4 := hide hB4
  clear hR4 how4 hB4 hW4 hrb hg0 hBr HOWN HB2 HSZ2 hw3 hcv hBw1
  have hlet0 : LetAt s.data.toList l0 N.data.toList 128 (-1) 72 700 true := by
    refine ⟨fun c hc => (HGOOD.out c hc).1, by rw [ba_len]; exact hps, by rw [HNL.out, ← HL0.out]; rfl, rfl, by omega, by omega, by omega, by omega, by omega, by omega, .inl ⟨rfl, HL0.out.symm, HNL.out⟩⟩
  have HLET0 := hide hlet0
  clear hlet0
  go_loopw [5, 6] (fun qv lv wr => ∃ (l : List Int) (Q : ByteArray) (g c z : Nat) (n i bias dm : Int) (first : Bool), qv = .string Q ∧ lv = .slice (some ⟨g, 0, none⟩) z c ∧ l.length = z ∧ LetAt s.data.toList l Q.data.toList n i bias dm first ∧ RowAt wr rb n i z bias dm ∧ wr.ownsRow w.heap.size 21 1 (.slice (some ⟨g, 0, none⟩) z c) z (ruV l) ∧ g ≠ rb ∧ Below w.heap.size w wr) (fun qv _ _ => strLen qv)
  case atStart => exact ⟨l0, N, g0, cap, l0.length, 128, -1, 72, 700, true, rfl, rfl, rfl, HLET0.out, HR4.out, HOW4.out, hnb, HB4.out⟩
  case round =>
    obtain ⟨l, Q, g, c, z, n, i, bias, dm, first, rfl, rfl, hlz, hLA, hR, hown, hgr, hB⟩ := hrel
    have HLA := hide hLA
    have HR := hide hR
    have HOWN := hide hown
    have HB := hide hB
    have HLZ := hide hlz
    obtain ⟨_, hlen, _, hdm, hn0, hn1, hi0, hi1, hb0, hb1, _⟩ := hLA
    rw [hlz] at hlen hi1
    rw [ba_len] at hlen
    have HDM := hide hdm
    have hc3 := hR.c3
    have hrbl := hR.lt
    have hgl := hown.lt g rfl
    clear hlz hown hB hR hdm HLET0 HR4 HOW4 HB4
    by_cases hQ : 0 < Q.size
    · have hml := most_le n z hn0 hn1 (by omega) (by omega)
      obtain ⟨mo, hmo⟩ : ∃ mo, (1114112 - n) * ((z : Int) + 1) = mo := ⟨_, rfl⟩
      rw [hmo] at hml
      have hrd := Sx.rd_zero bias mo (by omega) hml.1 (by omega) Q.data.toList
      obtain ⟨nf, hnf⟩ : ∃ nf, Sx.numF bias 0 1 0 Q.data.toList = nf := ⟨_, rfl⟩
      rw [hnf] at hrd
      have HMO := hide hmo
      have HNF := hide hnf
      clear hmo hnf
      obtain ⟨D0, hD0⟩ : ∃ D0, (Sx.rdF bias mo 0 1 0 Q.data.toList).1 = D0 := ⟨_, rfl⟩
      obtain ⟨Z0, hZ0⟩ : ∃ Z0, (Sx.rdF bias mo 0 1 0 Q.data.toList).2 = Z0 := ⟨_, rfl⟩
      have HRD : Hid ((D0, Z0) = Sx.rdOf mo 0 Q.data.toList.length nf) := hide (by rw [← hrd, ← hD0, ← hZ0])
      have HD0 := hide hD0
      have HZ0 := hide hZ0
      clear hrd hD0 hZ0
      have hqe : Q.toList.isEmpty = false := by
        rw [ByteArray.toList_eq]
        cases h : Q.data.toList with
        | nil => rw [← ba_len, h] at hQ; exact absurd hQ (by decide)
        | cons => rfl
      have HQE := hide hqe
      go_wp2
      go_region_held3 (fun w' => w'.cell? ⟨rb, 3, none⟩ = some (.int .i64 bias)) (first | exact hc5 | exact hc3 | go_keep) (first | (go_at_call 163; refine (pmost_below rb n i z bias dm _ HR.out.drew hn0 hn1 (by omega) (by omega)).mono ?_; rintro e w5 ⟨rfl, hB5, hsz5⟩; rw [HMO.out]; have hc5 := (hB5.cell (p := ⟨rb, 3, none⟩) hrbl).trans hc3) | (go_at_call 162; refine (pread_any Q bias mo _ (by omega) hb0 (by omega) hml.1 (by omega)).mono ?_; rintro e w6 ⟨rfl, rfl⟩; rw [HD0.out, HZ0.out]))
      clear hqe
      have hB5 : Below wr.heap.size wr w6 := (Below.refl _ wr).drew.trans hB5
      have hsz5 : w6.heap.size = wr.heap.size := hsz5
      have hR5 : RowAt w6 rb n i z bias dm := HR.out.below hB5 hrbl
      have hO5 := own_below HOWN.out hB5 (Nat.le_refl _)
      have hB5' := HB.out.trans (hB5.mono HB.out.size)
      have HR5 := hide hR5
      have HO5 := hide hO5
      have HB5 := hide hB5'
      have hrbl5 := hR5.lt
      clear hB5 hR5 hO5 hB5' HR HOWN HB hc5
      have hqne : Q.data.toList ≠ [] := by intro h; rw [← ba_len, h] at hQ; exact absurd hQ (by decide)
      have HQN := hide hqne
      clear hqne
      by_cases hok : ∃ d s', nf = some (d, s') ∧ d ≤ mo
      · obtain ⟨d, s', hnf, hdm⟩ := hok
        have hsl := Sx.numF_len _ _ _ _ _ _ _ (by rw [HNF.out, hnf] : Sx.numF bias 0 1 0 Q.data.toList = some (d, s'))
        have hmono := Sx.numF_mono _ _ _ _ _ _ _ (by omega) (by rw [HNF.out, hnf] : Sx.numF bias 0 1 0 Q.data.toList = some (d, s'))
        have hres := num_rest _ _ _ _ _ _ _ (by rw [HNF.out, hnf] : Sx.numF bias 0 1 0 Q.data.toList = some (d, s'))
        have hDZ : D0 = d ∧ Z0 = ((Q.size - s'.length : Nat) : Int) := by
          have h := HRD.out
          rw [hnf] at h
          unfold Sx.rdOf at h
          simp only at h
          rw [if_pos hdm, ba_len] at h
          rw [ba_len] at hsl
          exact ⟨congrArg Prod.fst h, by have := congrArg Prod.snd h; simp only at this; omega⟩
        obtain ⟨hD, hZ⟩ := hDZ
        clear HRD HD0 HZ0
        subst D0
        rw [ba_len] at hsl hres
        obtain ⟨Zn, hZn⟩ : ∃ Zn, Q.size - s'.length = Zn := ⟨_, rfl⟩
        rw [hZn] at hZ hres
        subst Z0
        have hz1 : 1 ≤ Zn := by omega
        have hz2 : Zn ≤ Q.size := by omega
        have hbp := behind_passed n (i + 1) z d
        have hpl := point_le n (i + 1) z d (by omega) (by omega) (by omega) hmono (by rw [HMO.out]; exact hdm)
        have hj0 : 0 ≤ (i + 1 + d) % ((z : Int) + 1) := Int.emod_nonneg _ (by omega)
        have hj1 : (i + 1 + d) % ((z : Int) + 1) < (z : Int) + 1 := Int.emod_lt_of_pos _ (by omega)
        obtain ⟨m, hm⟩ : ∃ m, n + (i + 1 + d) / ((z : Int) + 1) = m := ⟨_, rfl⟩
        obtain ⟨j, hj⟩ : ∃ j : Nat, (i + 1 + d) % ((z : Int) + 1) = (j : Int) := ⟨((i + 1 + d) % ((z : Int) + 1)).toNat, by omega⟩
        rw [hm, hj] at hbp
        rw [hm] at hpl
        rw [hj] at hj0 hj1
        have HM := hide hm
        have HJ := hide hj
        have HBP := hide hbp
        have HRES := hide hres
        have HZN := hide hZn
        have HNF2 : Hid (Sx.numF bias 0 1 0 Q.data.toList = some (d, s')) := hide (by rw [HNF.out, hnf])
        clear hm hj hbp hres hZn hnf HNF
        obtain ⟨hpl1, hpl2⟩ := hpl
        have hwm := wrap_i32 m (by omega) (by omega)
        go_wp2_with (go_at_call 164; go_must (refine (pbehind_any rb n i z bias dm d _ HR5.out hn0 hn1 (by omega) (by omega) hi0 (by omega) hmono (by omega)).mono ?_; rintro e w7 ⟨rfl, hB7⟩; rw [HM.out, HJ.out]))
        have t1 : (w7.alloc (.cells #[.int .i64 m, .int .i64 j] 234)).cell? ⟨w7.heap.size, 0, none⟩ = some (.int .i64 m) := by rw [World.cell?_alloc_mark]; rfl
        have t2 : (w7.alloc (.cells #[.int .i64 m, .int .i64 j] 234)).cell? ⟨w7.heap.size, 1, none⟩ = some (.int .i64 j) := by rw [World.cell?_alloc_mark]; rfl
        have hB8 : Below w6.heap.size w6 (w7.alloc (.cells #[.int .i64 m, .int .i64 j] 234)) := hB7.alloc hB7.size _
        have hs8 : (w7.alloc (.cells #[.int .i64 m, .int .i64 j] 234)).heap.size = w7.heap.size + 1 := World.size_alloc _ _
        have hg6 : g < w6.heap.size := (HO5.out.lt g rfl).2
        have hw7 := hB7.size
        obtain ⟨tb, htb⟩ : ∃ tb, w7.heap.size = tb := ⟨_, rfl⟩
        obtain ⟨W8, hW8⟩ : ∃ W8, w7.alloc (.cells #[.int .i64 m, .int .i64 j] 234) = W8 := ⟨_, rfl⟩
        rw [hW8] at t1 t2 hB8 hs8 ⊢
        rw [htb] at t1 t2 hs8 hw7 ⊢
        have HR8 := hide (HR5.out.below hB8 hrbl5)
        have HO8 := hide (own_below HO5.out hB8 (Nat.le_refl _))
        have HB8 := hide (HB5.out.trans (hB8.mono HB5.out.size))
        have HS8 := hide hs8
        have htl : tb < W8.heap.size := by omega
        clear hB8 hs8 htb hW8 hB7
        refine (pvr_any m W8).mono ?_
        rintro e w' ⟨rfl, rfl⟩
        obtain ⟨rk, hrk⟩ : ∃ rk, runeOk m = rk := ⟨_, rfl⟩
        rw [hrk]
        have HRK := hide hrk
        clear hrk
        cases rk with
        | false =>
          have hdn : Sx.decL l bias n (i + 1) first Q.data.toList = none := by
            refine Sx.decL_bad _ _ _ _ _ _ d s' HNF2.out ?_
            rw [HLZ.out, HM.out]
            have := HRK.out
            unfold runeOk at this
            simp at this
            omega
          have hnc := no_code s.data.toList (by rw [← HLA.out.dec]; exact hdn)
          have HNC := hide hnc
          clear hnc hdn
          go_wp2
          go_ret2
          exact ⟨by rw [HNC.out.1, HNC.out.2]; rfl, HB8.out⟩
        | true =>
          have hmg : Sx.Good m := by
            have := HRK.out
            unfold runeOk at this
            simp at this
            unfold Sx.Good
            omega
          have hm1 : m ≤ 1114111 := hmg.2.1
          have HMG := hide hmg
          clear hmg
          have hv9 : (w'.alloc (.cells #[.int .i32 m] 21)).heap[w'.heap.size]? = some (.cells #[.int .i32 m] 21) := by show (w'.heap.push _)[w'.heap.size]? = _; exact Array.getElem?_push_size
          have hO9 := HO8.out.alloc (.cells #[.int .i32 m] 21)
          have hB9 : Below w'.heap.size w' (w'.alloc (.cells #[.int .i32 m] 21)) := (Below.refl _ w').alloc (Nat.le_refl _) _
          have hg8 : g < w'.heap.size := (HO8.out.lt g rfl).2
          have hins := pinsert_any l m j w.heap.size g c w'.heap.size (w'.alloc (.cells #[.int .i32 m] 21)) (by rw [HLZ.out]; exact hO9) (by rw [HLZ.out]; omega) (by rw [HLZ.out]; omega) hv9 (by omega) (Nat.le_trans HB8.out.size hB9.size)
          rw [HLZ.out] at hins
          have HINS := hide hins
          have t3 := (hB9.cell (p := ⟨tb, 0, none⟩) htl).trans t1
          have t4 := (hB9.cell (p := ⟨tb, 1, none⟩) htl).trans t2
          have HR9 := hide (HR8.out.below hB9 HR8.out.lt)
          have HB9 := hide (HB8.out.trans (hB9.mono HB8.out.size))
          have hs9 : w'.heap.size < (w'.alloc (.cells #[.int .i32 m] 21)).heap.size := by rw [World.size_alloc]; exact Nat.lt_succ_self _
          have HT3 := hide t3
          have HT4 := hide t4
          clear hins hv9 hO9 hB9 t3 t4
          go_wp2_with fail
          refine HINS.out.mono ?_
          rintro e w10 ⟨g', c', rfl, hO10, hg10, hat⟩
          have hrb8 : rb < w'.heap.size := HR8.out.lt
          have htg : tb ≠ g := by omega
          have u1 := (hg10.cell_far ⟨tb, 0, none⟩ (Nat.lt_trans htl hs9) (fun h => htg (Option.some.inj h))).trans HT3.out
          have u2 := (hg10.cell_far ⟨tb, 1, none⟩ (Nat.lt_trans htl hs9) (fun h => htg (Option.some.inj h))).trans HT4.out
          have hR10 := HR9.out.kept hg10 (fun h => hgr (Option.some.inj h).symm)
          have hB10 := HB9.out.grown hg10 HB9.out.size (fun q e => by cases e; exact (HO8.out.lt g rfl).1)
          have hgr2 : g' ≠ rb := by
            rcases hat with h | h
            · rw [h]; exact hgr
            · rw [h, World.size_alloc]; omega
          have hsz10 := hg10.size
          have HR10 := hide hR10
          have HO10 := hide hO10
          have HB10 := hide hB10
          have hab : Sx.bias1 (d / dm) ((z : Int) + 1) = Sx.after d ((z : Int) + 1) first := by
            rw [HDM.out]; unfold Sx.after
            cases first <;> rfl
          have hdmb : 1 ≤ dm ∧ dm ≤ 1000 := by rw [HDM.out]; cases first <;> simp
          have habd := Sx.after_bd d ((z : Int) + 1) first hmono (by omega) (by omega)
          have HAB := hide hab
          have HABD := hide habd
          clear hR10 hO10 hB10 hab habd t1 t2 HT3 HT4 hg10 hat HINS HR9 HB9 hs9 hsz10
          have hzq : (Zn : Int) ≤ (Q.size : Int) := by omega
          go_wp2_with (go_at_call 167; go_must (refine (ptake_any rb n i z bias dm m j _ HR10.out hn0 hn1 (by omega) (by omega) hi0 (by omega) hpl1 hm1 (by omega) (by omega) (by rw [HBP.out]; exact hmono) hdmb.1 hdmb.2).mono ?_; rintro e w11 ⟨⟨v3, rfl⟩, hR11, hg11⟩; rw [HBP.out, HAB.out] at hR11))
          have hql : (Q.extract Zn Q.size).data.toList = s' := by
            rw [ba_ext, ← ba_len, List.take_length]; exact HRES.out.symm
          have hqz : (Q.extract Zn Q.size).size = Q.size - Zn := by rw [← ba_len, hql]; have := HZN.out; omega
          have hLen : (l.take j ++ m :: l.drop j).length = z + 1 := by
            rw [List.length_append, List.length_take, List.length_cons, List.length_drop, HLZ.out]; omega
          have hLA2 : LetAt s.data.toList (l.take j ++ m :: l.drop j) s' m j (Sx.after d ((z : Int) + 1) first) 2 false := by
            have hold := HLA.out
            refine ⟨fun x hx => ?_, ?_, ?_, rfl, by omega, hm1, by omega, by rw [hLen]; omega, HABD.out.1, HABD.out.2, .inr ⟨rfl, ?_, ?_⟩⟩
            · rcases List.mem_append.1 hx with hx | hx
              · exact hold.good x (List.mem_of_mem_take hx)
              · rcases List.mem_cons.1 hx with rfl | hx
                · exact HMG.out
                · exact hold.good x (List.mem_of_mem_drop hx)
            · rw [hLen]; have := HZN.out; omega
            · rw [← hold.dec, Sx.decL_more l bias n (i + 1) first _ d s' HNF2.out (by rw [HLZ.out, HM.out]; have := HMG.out; unfold Sx.Good at this; omega), HLZ.out, HM.out, HJ.out]
              unfold Sx.putIn
              rw [Int.toNat_natCast]
            · rw [List.any_append, List.any_cons, show decide (128 ≤ m) = true from by simp; omega]; simp
            · rcases hold.some with ⟨_, _, h⟩ | ⟨_, _, h⟩
              · rw [← h]; exact HQN.out
              · exact h
          refine ⟨⟨_, _, g', c', z + 1, m, j, _, 2, false, rfl, rfl, hLen, by rw [hql]; exact hLA2, ?_, HO10.out.kept hg11 (.inr (fun h => hgr2 (Option.some.inj h))), hgr2, HB10.out.grown hg11 HB10.out.size (fun q e => by cases e; exact hrw)⟩, by show (Q.extract Zn Q.size).size < Q.size; rw [hqz]; omega⟩
          rw [show ((z + 1 : Nat) : Int) = (z : Int) + 1 from by omega]
          exact hR11
      · have hDZ : D0 = 0 ∧ Z0 = 0 := by
          have h := HRD.out
          cases hn : nf with
          | none => rw [hn] at h; exact ⟨congrArg Prod.fst h, congrArg Prod.snd h⟩
          | some p =>
            obtain ⟨d, s'⟩ := p
            rw [hn] at h
            unfold Sx.rdOf at h
            simp only at h
            rw [if_neg (fun hle => hok ⟨d, s', hn, hle⟩)] at h
            exact ⟨congrArg Prod.fst h, congrArg Prod.snd h⟩
        have hdn : Sx.decL l bias n (i + 1) first Q.data.toList = none := by
          cases hn : nf with
          | none => exact Sx.decL_no _ _ _ _ _ _ HQN.out (by rw [HNF.out, hn])
          | some p =>
            obtain ⟨d, s'⟩ := p
            refine Sx.decL_bad _ _ _ _ _ _ d s' (by rw [HNF.out, hn]) (.inl ?_)
            have hlt : mo < d := by
              by_cases h : d ≤ mo
              · exact absurd ⟨d, s', hn, h⟩ hok
              · omega
            rw [HLZ.out]
            exact most_bound n (i + 1) z d (by omega) (by omega) (by rw [HMO.out]; exact hlt)
        have hnc := no_code s.data.toList (by rw [← HLA.out.dec]; exact hdn)
        obtain ⟨rfl, rfl⟩ := hDZ
        have HNC := hide hnc
        clear hnc hdn hok
        go_wp2
        go_ret2
        exact ⟨by rw [HNC.out.1, HNC.out.2]; rfl, HB5.out⟩
    · have hq0 : Q.data.toList = [] := List.eq_nil_of_length_eq_zero (by rw [ba_len]; omega)
      have hqe : Q.toList.isEmpty = true := by rw [ByteArray.toList_eq, hq0]; rfl
      have hd := HLA.out.dec
      rw [hq0, Sx.decL_nil] at hd
      have hcv2 := own_ruat HOWN.out HLZ.out.symm
      rw [Sx.runes_text l HLA.out.good] at hcv2
      have hlt2 := Sx.letters_text l HLA.out.good
      have htl := Sx.text_len l
      obtain ⟨T, hT⟩ : ∃ T : ByteArray, ⟨(Sx.text l).toArray⟩ = T := ⟨_, rfl⟩
      have hTl : T.data.toList = Sx.text l := by rw [← hT]
      have hTz : T.size ≤ 64 := by rw [← ba_len, hTl]; rw [HLZ.out] at htl; omega
      rw [hT] at hcv2
      obtain ⟨f, hf⟩ : ∃ f, (l.any fun c => decide (128 ≤ c)) = f := ⟨_, rfl⟩
      have HD := hide hd
      have HTL := hide hTl
      have HLT := hide hlt2
      have HF := hide hf
      have HT := hide hT
      clear hd hTl hlt2 hf hT hq0 htl
      cases f with
      | false =>
        have hcm := HLA.out.some
        have hnc : Sx.codeOk s.data.toList = false ∧ Sx.letOf s.data.toList = [] := by
          have e : Sx.dec s.data.toList = none := by
            rw [Sx.dec_parts]
            rcases HLA.out.some with ⟨_, _, h⟩ | ⟨_, h, _⟩
            · rw [if_pos]
              rw [← h]; exact List.eq_nil_of_length_eq_zero (by rw [ba_len]; omega)
            · rw [HF.out] at h; exact absurd h (by decide)
          have e2 : Sx.codeOk s.data.toList = false := by unfold Sx.codeOk; rw [e]
          exact ⟨e2, by unfold Sx.letOf; rw [e2]; rfl⟩
        have HNC := hide hnc
        clear hnc hcm
        go_wp2_with (go_at_call 131; go_must (refine (pcf_any T l _ (by rw [HTL.out]; exact HLT.out) (by omega)).mono ?_; rintro e w7 ⟨rfl, hB7⟩; rw [HF.out]))
        go_ret2
        exact ⟨by rw [HNC.out.1, HNC.out.2]; rfl, HB.out.trans (hB7.mono HB.out.size)⟩
      | true =>
        have hnn : Sx.numPart s.data.toList ≠ [] := by
          rcases HLA.out.some with ⟨_, h, _⟩ | ⟨_, _, h⟩
          · have h2 := HF.out
            rw [h, HL0.out] at h2
            obtain ⟨x, hx, h3⟩ := List.any_eq_true.1 h2
            have := (HGOOD.out x hx).2
            simp at h3
            omega
          · exact h
        have hdec : Sx.dec s.data.toList = some l := by rw [Sx.dec_parts, if_neg hnn, ← HD.out]
        obtain ⟨E, hE⟩ : ∃ E : ByteArray, ⟨(Sx.enc l).toArray⟩ = E := ⟨_, rfl⟩
        have hEl : E.data.toList = Sx.enc l := by rw [← hE]
        have HOF := hide (fun (w : World) => by have := pof_any T l w (by rw [HTL.out]; exact HLT.out) (by omega) (ways_some l HF.out) (by have h1 := ways_few l; have h2 := HLZ.out; omega); rw [hE] at this; exact this)
        obtain ⟨k, hk⟩ : ∃ k, Sx.codeOk s.data.toList = k := ⟨_, rfl⟩
        have hk2 : (Sx.enc l == s.data.toList) = k := by rw [← hk]; unfold Sx.codeOk; rw [hdec]
        have hlo : Sx.letOf s.data.toList = if k then Sx.text l else [] := by unfold Sx.letOf; rw [hk, hdec]; rfl
        have hes : (E.toList == s.toList) = k := by rw [ByteArray.toList_eq, ByteArray.toList_eq, hEl]; exact hk2
        have HK := hide hk
        have HLO := hide hlo
        clear hk hk2 hlo hE hEl hdec hnn
        cases k with
        | false =>
          go_wp2_with (first | (go_at_call 131; go_must (refine (pcf_any T l _ (by rw [HTL.out]; exact HLT.out) (by omega)).mono ?_; rintro e w7 ⟨rfl, hB7⟩; rw [HF.out])) | (go_at_call 133; go_must (refine (HOF.out _).mono ?_; rintro e w8 ⟨rfl, hB8⟩)))
          go_ret2
          exact ⟨by rw [HK.out, HLO.out]; rfl, (HB.out.trans (hB7.mono HB.out.size)).trans (hB8.mono (Nat.le_trans HB.out.size hB7.size))⟩
        | true =>
          go_wp2_with (first | (go_at_call 131; go_must (refine (pcf_any T l _ (by rw [HTL.out]; exact HLT.out) (by omega)).mono ?_; rintro e w7 ⟨rfl, hB7⟩; rw [HF.out])) | (go_at_call 133; go_must (refine (HOF.out _).mono ?_; rintro e w8 ⟨rfl, hB8⟩)))
          go_ret2
          exact ⟨by rw [HK.out, show Sx.letOf s.data.toList = Sx.text l from HLO.out, HT.out]; rfl, (HB.out.trans (hB7.mono HB.out.size)).trans (hB8.mono (Nat.le_trans HB.out.size hB7.size))⟩
end Go.Proofs.YtgohllfpceeboabGreatDoor
namespace Go.Proofs.YtgohllfpceeboabGreatDoor
open Go.RowKit Go.Shelf
attribute [local go_sem] Oper.semAt_some
/-- Where the last dot stands; -1: there is none. -/
def dotAt (r : List UInt8) : Int := lastTo r 46 r.length
theorem lastTo_bd (s : List UInt8) (c : UInt8) : ∀ k : Nat, -1 ≤ lastTo s c k ∧ lastTo s c k < k := by
  intro k
  induction k with
  | zero => simp [lastTo]
  | succ k ih => simp only [lastTo]; split <;> omega
/-- What stands between the dots, from the right. -/
def pcsF : Nat → List UInt8 → List (List UInt8)
  | 0, r => [r]
  | f + 1, r => if dotAt r < 0 then [r] else r.drop (dotAt r + 1).toNat :: pcsF f (r.take (dotAt r).toNat)
def pcs (r : List UInt8) : List (List UInt8) := pcsF r.length r
theorem pcsF_fuel : ∀ (f g : Nat) (r : List UInt8), r.length ≤ f → r.length ≤ g → pcsF f r = pcsF g r := by
  intro f
  induction f with
  | zero =>
    intro g r hf hg
    have : r = [] := List.eq_nil_of_length_eq_zero (by omega)
    subst this
    cases g with
    | zero => rfl
    | succ g => simp [pcsF, dotAt, lastTo]
  | succ f ih =>
    intro g r hf hg
    have hb := lastTo_bd r 46 r.length
    cases g with
    | zero =>
      have : r = [] := List.eq_nil_of_length_eq_zero (by omega)
      subst this
      simp [pcsF, dotAt, lastTo]
    | succ g =>
      simp only [pcsF]
      by_cases h : dotAt r < 0
      · rw [if_pos h, if_pos h]
      · rw [if_neg h, if_neg h, ih g _ (by rw [List.length_take]; unfold dotAt at *; omega) (by rw [List.length_take]; unfold dotAt at *; omega)]
theorem pcs_last (r : List UInt8) (h : dotAt r < 0) : pcs r = [r] := by
  unfold pcs
  cases hl : r.length with
  | zero => rfl
  | succ n => simp only [pcsF]; rw [if_pos h]
theorem pcs_more (r : List UInt8) (h : ¬ dotAt r < 0) : pcs r = r.drop (dotAt r + 1).toNat :: pcs (r.take (dotAt r).toNat) := by
  have hb := lastTo_bd r 46 r.length
  unfold pcs
  cases hl : r.length with
  | zero => unfold dotAt at h; rw [hl] at hb h; omega
  | succ n =>
    simp only [pcsF]
    rw [if_neg h, pcsF_fuel n (r.take (dotAt r).toNat).length _ (by rw [List.length_take]; unfold dotAt at *; omega) (Nat.le_refl _)]
def strLn : Value → Nat
  | .string b => b.size
  | _ => 0
set_option maxRecDepth 100000 in
set_option maxHeartbeats 4000000 in
/-- (suffix.host).labels, whatever it is handed for yield -/
theorem plabs_any (n : Nat) (hn : 1 ≤ n) (l : Nat) (s : ByteArray) (hs : s.size ≤ 1000) (P : List (List UInt8)) (hP : P = pcs s.data.toList) (J : Nat → World → Prop) (Jx : World → Prop)
    (hY : ∀ k (h : k < P.length) W, J k W → YieldAt Fence.wide (n - 1) Tryz.prog l #[.string ⟨P[k].toArray⟩] W fun e W' => (e = .returned (.bool true) ∧ J (k + 1) W') ∨ (e = .returned (.bool false) ∧ Jx W'))
    (W : World) (h0 : J 0 W) :
    CallsIn Fence.wide n Tryz.prog 84 #[.string s, .func (.yield l) #[] #[]] W fun e W' => (∃ v, e = .returned v) ∧ (J P.length W' ∨ Jx W') := by
  refine callsIn_of_wp Tryz.func84 rfl trivial ?_ rfl
  simp only [Tryz.ntmps84, List.size_toArray, List.length_cons, List.length_nil, Nat.reduceAdd, Nat.reduceSub, Array.replicate_succ, Array.replicate_zero, List.push_toArray, List.append_toArray, List.nil_append, List.cons_append]
  have HP := hide hP
  have HY := hide hY
  clear hP hY
  gi_wp2
  gi_loopw [4] (fun rv wr => ∃ (R : ByteArray) (k : Nat), rv = .string R ∧ R.size ≤ 1000 ∧ k < P.length ∧ P.drop k = pcs R.data.toList ∧ J k wr) (fun rv _ => strLn rv)
  case atStart => exact ⟨s, 0, rfl, hs, by rw [HP.out]; unfold pcs; cases s.data.toList.length <;> simp [pcsF]; split <;> simp, by rw [List.drop_zero]; exact HP.out, h0⟩
  case round =>
    obtain ⟨R, k, rfl, hRz, hk, hd, hJ⟩ := hrel
    have hla := plast_any R 46 wr (by omega)
    have hbd := lastTo_bd R.data.toList 46 R.size
    have hde : dotAt R.data.toList = lastTo R.data.toList 46 R.size := by unfold dotAt; rw [ba_len]
    obtain ⟨dv, hdv⟩ : ∃ dv, lastTo R.data.toList 46 R.size = dv := ⟨_, rfl⟩
    rw [hdv] at hla hbd hde
    have hla2 : Calls Tryz.prog 129 #[.string R, .int .u8 46] wr fun e w' => e = .returned (.int .i64 dv) ∧ w' = wr := hla
    have HLA := hide hla2
    have HDE := hide hde
    have HD := hide hd
    clear hla hla2 hdv hde hd
    by_cases hneg : dv < 0
    · have hdm : dv = -1 := by omega
      subst hdm
      have hpl : pcs R.data.toList = [R.data.toList] := pcs_last _ (by rw [HDE.out]; omega)
      have hpk : P[k] = R.data.toList := by
        have := HD.out
        rw [hpl, List.drop_eq_getElem_cons hk] at this
        exact (List.cons.inj this).1
      have hkl : k + 1 = P.length := by
        have := congrArg List.length HD.out
        rw [hpl, List.length_drop] at this
        simp at this; omega
      obtain ⟨fn, tmps, assign, body, hy, hR⟩ := HY.out k hk wr hJ
      have hRR : (⟨P[k].toArray⟩ : ByteArray) = R := by rw [hpk]
      rw [hRR] at hy
      have HR := hide hR
      have HKL := hide hkl
      clear hR hRR hpk hpl hkl
      gi_wp2_with (refine ⟨trivial, ?_⟩; gi_at_call 129; refine (callsIn_wide.2 HLA.out).mono ?_; rintro e w' ⟨rfl, rfl⟩)
      refine HR.out.mono ?_
      rintro e W3 (⟨rfl, hJ3⟩ | ⟨rfl, hJx3⟩)
      · gi_wp2
        refine bodyPost_ret (results_none rfl _ _ _) rfl ?_
        exact ⟨⟨_, rfl⟩, .inl (by rw [← HKL.out]; exact hJ3)⟩
      · gi_wp2
        refine bodyPost_ret (results_none rfl _ _ _) rfl ?_
        exact ⟨⟨_, rfl⟩, .inr hJx3⟩
    · obtain ⟨d, hd1⟩ : ∃ d : Nat, dv = (d : Int) := ⟨dv.toNat, by omega⟩
      subst hd1
      have hdz : d < R.size := by omega
      have hpm := pcs_more R.data.toList (by rw [HDE.out]; exact hneg)
      rw [HDE.out] at hpm
      have hpk : P[k] = R.data.toList.drop (d + 1) := by
        have := HD.out
        rw [hpm, List.drop_eq_getElem_cons hk] at this
        exact (List.cons.inj this).1
      have hpr : P.drop (k + 1) = pcs (R.data.toList.take d) := by
        have := HD.out
        rw [hpm, List.drop_eq_getElem_cons hk] at this
        exact (List.cons.inj this).2
      have hkl : k + 1 < P.length := by
        have h1 := congrArg List.length hpr
        rw [List.length_drop] at h1
        have h2 : 0 < (pcs (R.data.toList.take d)).length := by
          unfold pcs
          cases (R.data.toList.take d).length with
          | zero => simp [pcsF]
          | succ m => simp only [pcsF]; split <;> simp
        omega
      obtain ⟨fn, tmps, assign, body, hy, hR⟩ := HY.out k hk wr hJ
      have hRR : (⟨P[k].toArray⟩ : ByteArray) = R.extract (d + 1) R.size := by
        rw [hpk]
        apply ByteArray.ext
        apply Array.toList_inj.1
        rw [ba_ext, ← ba_len, List.take_length]
      rw [hRR] at hy
      have hrl : (R.extract 0 d).data.toList = R.data.toList.take d := by rw [ba_ext, List.drop_zero]
      have hrz : (R.extract 0 d).size = d := by rw [← ba_len, hrl, List.length_take, ba_len]; omega
      have HR := hide hR
      have HPR := hide hpr
      have HRL := hide hrl
      have HRZ := hide hrz
      clear hR hRR hpk hpr hrl hrz hpm
      have e1 : (0 : Int) ≤ (d : Int) + 1 := by omega
      have e2 : (d : Int) + 1 ≤ (R.size : Int) := by omega
      have e3 : ((d : Int) + 1).toNat = d + 1 := by omega
      gi_wp2_with (refine ⟨trivial, ?_⟩; gi_at_call 129; refine (callsIn_wide.2 HLA.out).mono ?_; rintro e w' ⟨rfl, rfl⟩)
      refine HR.out.mono ?_
      rintro e W3 (⟨rfl, hJ3⟩ | ⟨rfl, hJx3⟩)
      · gi_wp2
        exact ⟨⟨_, k + 1, rfl, by rw [HRZ.out]; omega, hkl, by rw [HRL.out]; exact HPR.out, hJ3⟩, by show (R.extract 0 d).size < R.size; rw [HRZ.out]; exact hdz⟩
      · gi_wp2
        refine bodyPost_ret (results_none rfl _ _ _) rfl ?_
        exact ⟨⟨_, rfl⟩, .inr hJx3⟩
end Go.Proofs.YtgohllfpceeboabGreatDoor
namespace Go.Proofs.YtgohllfpceeboabGreatDoor
open Go.RowKit Go.Shelf
/-- What a round over labels leaves: it goes on, or it has returned. -/
def RndPost (B k : Nat) (I : Nat → World → Prop) (Ix : World → Prop) (W : World) : Exit → Act → World → Prop
  | .normal, _, W' => KeepsFrom B W W' ∧ I (k + 1) W'
  | .ret, _, W' => KeepsFrom B W W' ∧ Ix W'
  | _, _, _ => False
/-- 'for piece := range host(s).labels': the iterator is a method value. -/
theorem range_labs {ps : Array Tmp} {assign body : Code} {Q : Exit → Act → World → Prop} {a : Act} {w : World} (n : Nat) (h1 : 1 ≤ n) (h2 : 1 ≤ n - 1) (s : ByteArray) (hs : s.size ≤ 1000) (g : Operand) (hg : a.eval g = .func (.func 84) #[.string s] #[])
    (P : List (List UInt8)) (hP : P = pcs s.data.toList) (hps : ps.size = 1) (I : Nat → World → Prop) (Ix : World → Prop) (hI : OwnFrom w.heap.size I) (hIx : OwnFrom w.heap.size (fun (_ : Unit) W => Ix W)) (h0 : I 0 w) (a₁ : ByteArray → Act)
    (hassign : ∀ (l : Nat) (x : ByteArray) (W : World) (K : Act → World → Prop), K (a₁ x) W →
      assign.wpIn (Fence.wide.inRound l) (n - 1 - 1) Tryz.prog (Exit.then K (fun _ _ _ => False)) { tmps := (ps.zip #[.string x]).foldl (fun t (p, v) => t.setIfInBounds p v) a.tmps, defers := [] } W)
    (hbody : ∀ (l k : Nat) (h : k < P.length) (W : World), I k W → body.wpIn (Fence.wide.inRound l) (n - 1 - 1) Tryz.prog (RndPost w.heap.size k I Ix W) (a₁ ⟨P[k].toArray⟩) W)
    (hdone : ∀ (D : Nat) (W : World), w.heap.size ≤ D → I P.length W → W.heap[D]? = some (.deferred (some [])) → Q .normal { a with defers := { target := .collected D, args := #[] } :: a.defers } W)
    (hstop : ∀ (D : Nat) (W : World), w.heap.size ≤ D → Ix W → W.heap[D]? = some (.deferred (some [])) → Code.ret.wpIn Fence.wide n Tryz.prog Q { a with defers := { target := .collected D, args := #[] } :: a.defers } W) :
    (Code.rangeFunc g ps assign body).wpIn Fence.wide n Tryz.prog Q a w := by
  refine wpIn_rangeFunc ?_
  intro fn hfn
  obtain ⟨rec, hrec⟩ : ∃ rec : LoopState → Option Code → Loop, rec = fun st pe => { state := st, pending := pe, fn := fn, tmps := a.tmps, params := ps, assign := assign, body := body, defers := w.heap.size } := ⟨_, rfl⟩
  obtain ⟨W1, hW1⟩ : ∃ W1, (w.alloc (.deferred (some []))).alloc (.loop (rec .ready none)) = W1 := ⟨_, rfl⟩
  have hl1 : W1.heap[w.heap.size + 1]? = some (.loop (rec .ready none)) := by
    have := World.alloc_heap_new (w.alloc (.deferred (some []))) (.loop (rec .ready none))
    rw [World.size_alloc, hW1] at this
    exact this
  have hd1 : W1.heap[w.heap.size]? = some (.deferred (some [])) := by
    rw [← hW1]
    exact (Below.heap_alloc _ _ _ (by rw [World.size_alloc]; exact Nat.lt_succ_self _)).trans (World.alloc_heap_new w _)
  have hI1 : I 0 W1 := by rw [← hW1]; exact hI.alloc _ (hI.alloc _ h0)
  have hIx' : ∀ {W : World} {l : Nat} {o : Obj} (o' : Obj), Ix W → w.heap.size ≤ l → W.heap[l]? = some o → o.isCells = false → Ix (W.putObj l o') := fun o' h hl ho hc => OwnFrom.putObj (s := ()) hIx o' h hl ho hc
  refine ⟨w.heap.size + 1, [{ target := .collected w.heap.size, args := #[] }], W1, { target := .fn (.func 84) #[], args := #[.string s, .func (.yield (w.heap.size + 1)) #[] #[]] }, W1, 84,
    #[.string s, .func (.yield (w.heap.size + 1)) #[] #[]], W1, ?_, ?_, fun _ _ => trivial, ?_, fun _ => h1, ?_⟩
  · rw [← hW1, hrec]; exact run_enterLoop_outer _ _ _ _ _
  · simp only [resolve, hg]
    simp [go_sem]
  · have eg : ∀ args w, (callFunc 84 args).run Tryz.prog w = .ok (.enter 84 args) w := enters_of Tryz.func84 (by kernel_rfl) rfl
    simp [invoke, go_sem, eg]
  · refine (plabs_any (n - 1) h2 (w.heap.size + 1) s hs P hP
      (fun k W => I k W ∧ W.heap[w.heap.size + 1]? = some (.loop (rec .ready none)) ∧ W.heap[w.heap.size]? = some (.deferred (some [])))
      (fun W => Ix W ∧ W.heap[w.heap.size + 1]? = some (.loop (rec .done (some .ret))) ∧ W.heap[w.heap.size]? = some (.deferred (some []))) ?_ W1 ⟨hI1, hl1, hd1⟩).mono ?_
    · rintro k hk W ⟨hi, hl, hd⟩
      have hlt : w.heap.size + 1 < W.heap.size := (Array.getElem?_eq_some_iff.1 hl).1
      have hy := run_yield (P := Tryz.prog) (args := #[.string ⟨P[k].toArray⟩]) hl (by rw [hrec]; exact hps.symm)
      rw [hrec] at hy
      refine ⟨fn, _, assign, body, hy, roundIn_of_wpIn hfn (hassign _ ⟨P[k].toArray⟩ W _ ⟨_, run_beginRound hl (by rw [hrec]), ?_⟩)⟩
      obtain ⟨V, hV⟩ : ∃ V, W.putObj (w.heap.size + 1) (.loop { rec .ready none with state := .busy }) = V := ⟨_, rfl⟩
      have hl2 : V.heap[w.heap.size + 1]? = some (.loop { rec .ready none with state := .busy }) := by rw [← hV]; exact World.putObj_heap_same hlt
      have hd2 : V.heap[w.heap.size]? = some (.deferred (some [])) := by rw [← hV]; exact (World.putObj_heap_other (by omega)).trans hd
      have hi2 : I k V := by rw [← hV]; exact hI.putObj _ hi (by omega) hl rfl
      have fin : ∀ (jump : Option Code) (W3 : World), KeepsFrom w.heap.size V W3 →
          (Instr.endRound (w.heap.size + 1) jump).run Tryz.prog W3 = .ok (.bool jump.isNone) (W3.putObj (w.heap.size + 1) (.loop (rec (if jump.isNone then .ready else .done) jump))) ∧
          W3.heap[w.heap.size + 1]? = some (.loop { rec .ready none with state := .busy }) ∧
          (W3.putObj (w.heap.size + 1) (.loop (rec (if jump.isNone then .ready else .done) jump))).heap[w.heap.size + 1]? = some (.loop (rec (if jump.isNone then .ready else .done) jump)) ∧
          (W3.putObj (w.heap.size + 1) (.loop (rec (if jump.isNone then .ready else .done) jump))).heap[w.heap.size]? = some (.deferred (some [])) := by
        intro jump W3 hk3
        have hl3 := hk3.same _ _ (by omega) hl2 rfl
        have hr3 := run_endRound (P := Tryz.prog) jump hl3
        rw [hrec] at hr3 ⊢
        rw [hrec] at hl3
        exact ⟨hr3, hl3, World.putObj_heap_same (Array.getElem?_eq_some_iff.1 hl3).1, (World.putObj_heap_other (by omega)).trans (hk3.same _ _ (Nat.le_refl _) hd2 rfl)⟩
      have hb := hbody (w.heap.size + 1) k hk V hi2
      rw [← hV] at hb
      refine wpIn_mono hb ?_
      rw [hV]
      rintro e a3 W3 hp
      cases e with
      | normal =>
        obtain ⟨hk3, hi3⟩ := hp
        obtain ⟨hr, hl3, hl4, hd4⟩ := fin none W3 hk3
        exact ⟨_, _, hr, .inl ⟨rfl, hI.putObj _ hi3 (by omega) hl3 rfl, hl4, hd4⟩⟩
      | ret =>
        obtain ⟨hk3, hi3⟩ := hp
        obtain ⟨hr, hl3, hl4, hd4⟩ := fin (some .ret) W3 hk3
        exact ⟨_, _, hr, .inr ⟨rfl, hIx' _ hi3 (by omega) hl3 rfl, hl4, hd4⟩⟩
      | exit id => exact hp.elim
      | goto t => exact hp.elim
      | panic ch => exact hp.elim
      | outgrown => exact hp.elim
    · rintro e W2 ⟨⟨v, rfl⟩, (⟨hi, hl, hd⟩ | ⟨hi, hl, hd⟩)⟩
      · refine ⟨none, _, by have := run_endLoop (P := Tryz.prog) hl (by rw [hrec]; simp); rw [hrec] at this; exact this, hdone _ _ (Nat.le_refl _) (hI.putObj _ hi (by omega) hl rfl) ((World.putObj_heap_other (by omega)).trans hd)⟩
      · refine ⟨some .ret, _, by have := run_endLoop (P := Tryz.prog) hl (by rw [hrec]; simp); rw [hrec] at this; exact this, hstop _ _ (Nat.le_refl _) (hIx' _ hi (by omega) hl rfl) ((World.putObj_heap_other (by omega)).trans hd)⟩
end Go.Proofs.YtgohllfpceeboabGreatDoor
namespace Go.Proofs
open Go.Shelf
def Tryz.layTrim_ren : Ren where
  f := fun | 160 => 139 | 232 => 193 | 231 => 192 | 227 => 194 | 234 => 196 | 233 => 195 | 236 => 198 | 235 => 197 | 228 => 235 | 271 => 238 | 151 => 237 | 197 => 236 | 120 => 250 | 152 => 249 | 260 => 248 | 137 => 255 | 119 => 165 | 224 => 221 | 225 => 220 | 217 => 219 | 266 => 242 | n => n
  t := fun | 9 => 9 | 4 => 4 | 3 => 3 | 5 => 5 | 117 => 270 | 116 => 269 | 0 => 0 | 124 => 273 | 21 => 21 | 105 => 308 | 46 => 178 | 119 => 188 | 139 => 191 | 138 => 190 | n => n
  g := fun | 3 => 0 | 4 => 1 | n => n
theorem Tryz.layTrim : Lays.n160 Tryz.prog Tryz.layTrim_ren :=
  {
    mixed := by kernel_rfl, f119 := Tryz.func165.trans (congrArg some (by kernel_rfl)), f120 := Tryz.func250.trans (congrArg some (by kernel_rfl)), f137 := Tryz.func255.trans (congrArg some (by kernel_rfl)), f151 := Tryz.func237.trans (congrArg some (by kernel_rfl)), f152 := Tryz.func249.trans (congrArg some (by kernel_rfl)),
    f160 := Tryz.func139.trans (congrArg some (by kernel_rfl)), f197 := Tryz.func236.trans (congrArg some (by kernel_rfl)), f217 := Tryz.func219.trans (congrArg some (by kernel_rfl)), f224 := Tryz.func221.trans (congrArg some (by kernel_rfl)), f225 := Tryz.func220.trans (congrArg some (by kernel_rfl)), f227 := Tryz.func194.trans (congrArg some (by kernel_rfl)),
    f228 := Tryz.func235.trans (congrArg some (by kernel_rfl)), f231 := Tryz.func192.trans (congrArg some (by kernel_rfl)), f232 := Tryz.func193.trans (congrArg some (by kernel_rfl)), f233 := Tryz.func195.trans (congrArg some (by kernel_rfl)), f234 := Tryz.func196.trans (congrArg some (by kernel_rfl)), f235 := Tryz.func197.trans (congrArg some (by kernel_rfl)),
    f236 := Tryz.func198.trans (congrArg some (by kernel_rfl)), f260 := Tryz.func248.trans (congrArg some (by kernel_rfl)), f266 := Tryz.func242.trans (congrArg some (by kernel_rfl)), f271 := Tryz.func238.trans (congrArg some (by kernel_rfl)), t0 := Tryz.underlying0, a0 := Tryz.isAgg0,
    z0 := Tryz.sizeOf0, v0 := Tryz.zeroValue0, t3 := Tryz.underlying3, a3 := Tryz.isAgg3, z3 := Tryz.sizeOf3, v3 := Tryz.zeroValue3,
    t4 := Tryz.underlying4, a4 := Tryz.isAgg4, z4 := Tryz.sizeOf4, v4 := Tryz.zeroValue4, t5 := Tryz.underlying5, a5 := Tryz.isAgg5,
    z5 := Tryz.sizeOf5, v5 := Tryz.zeroValue5, t9 := Tryz.underlying9, a9 := Tryz.isAgg9, z9 := Tryz.sizeOf9, v9 := Tryz.zeroValue9,
    t21 := Tryz.underlying21, a21 := Tryz.isAgg21, z21 := Tryz.sizeOf21, v21 := Tryz.zeroValue21, t46 := Tryz.underlying178, a46 := Tryz.isAgg178,
    z46 := Tryz.sizeOf178, v46 := Tryz.zeroValue178, t105 := Tryz.underlying308, a105 := Tryz.isAgg308, z105 := Tryz.sizeOf308, v105 := Tryz.zeroValue308,
    t116 := Tryz.underlying269, a116 := Tryz.isAgg269, z116 := Tryz.sizeOf269, t117 := Tryz.underlying270, a117 := Tryz.isAgg270, z117 := Tryz.sizeOf270,
    v117 := Tryz.zeroValue270, t119 := Tryz.underlying188, a119 := Tryz.isAgg188, z119 := Tryz.sizeOf188, t124 := Tryz.underlying273, a124 := Tryz.isAgg273,
    z124 := Tryz.sizeOf273, v124 := Tryz.zeroValue273, t138 := Tryz.underlying190, a138 := Tryz.isAgg190, z138 := Tryz.sizeOf190, v138 := Tryz.zeroValue190,
    t139 := Tryz.underlying191, a139 := Tryz.isAgg191, z139 := Tryz.sizeOf191, v139 := Tryz.zeroValue191, g3 := by kernel_rfl, g4 := by kernel_rfl }
def Tryz.layValid_ren : Ren where
  f := fun | 196 => 83 | 259 => 128 | n => n
  t := fun | 9 => 9 | 4 => 4 | 3 => 3 | 5 => 5 | 12 => 12 | 119 => 188 | 0 => 0 | 46 => 178 | 139 => 191 | 138 => 190 | 53 => 260 | n => n
  g := fun | 3 => 0 | 4 => 1 | n => n
theorem Tryz.layValid : Lays.n196 Tryz.prog Tryz.layValid_ren :=
  {
    mixed := by kernel_rfl, f196 := Tryz.func83.trans (congrArg some (by kernel_rfl)), f259 := Tryz.func128.trans (congrArg some (by kernel_rfl)), t0 := Tryz.underlying0, a0 := Tryz.isAgg0, z0 := Tryz.sizeOf0,
    v0 := Tryz.zeroValue0, t3 := Tryz.underlying3, a3 := Tryz.isAgg3, z3 := Tryz.sizeOf3, v3 := Tryz.zeroValue3, t4 := Tryz.underlying4,
    a4 := Tryz.isAgg4, z4 := Tryz.sizeOf4, v4 := Tryz.zeroValue4, t5 := Tryz.underlying5, a5 := Tryz.isAgg5, z5 := Tryz.sizeOf5,
    v5 := Tryz.zeroValue5, t9 := Tryz.underlying9, a9 := Tryz.isAgg9, z9 := Tryz.sizeOf9, v9 := Tryz.zeroValue9, t12 := Tryz.underlying12,
    a12 := Tryz.isAgg12, z12 := Tryz.sizeOf12, v12 := Tryz.zeroValue12, t46 := Tryz.underlying178, a46 := Tryz.isAgg178, z46 := Tryz.sizeOf178,
    v46 := Tryz.zeroValue178, t53 := Tryz.underlying260, a53 := Tryz.isAgg260, z53 := Tryz.sizeOf260, v53 := Tryz.zeroValue260, t119 := Tryz.underlying188,
    a119 := Tryz.isAgg188, z119 := Tryz.sizeOf188, t138 := Tryz.underlying190, a138 := Tryz.isAgg190, z138 := Tryz.sizeOf190, v138 := Tryz.zeroValue190,
    t139 := Tryz.underlying191, a139 := Tryz.isAgg191, z139 := Tryz.sizeOf191, v139 := Tryz.zeroValue191, g3 := by kernel_rfl, g4 := by kernel_rfl }
def Tryz.bren : Ren where
  f := fun | 240 => 140 | 276 => 199 | 166 => 90 | 167 => 89 | 169 => 91 | n => n
  t := fun | 70 => 132 | 72 => 134 | 37 => 90 | 127 => 198 | 75 => 136 | 80 => 48 | 164 => 274 | n => n
  g := fun n => n
theorem Tryz.layWS : Lays.n166 Tryz.prog Tryz.bren :=
  { mixed := by kernel_rfl, f166 := Tryz.func90.trans (congrArg some (by kernel_rfl)), f240 := Tryz.func140.trans (congrArg some (by kernel_rfl)), f276 := Tryz.func199.trans (congrArg some (by kernel_rfl)),
    t0 := Tryz.underlying0, a0 := Tryz.isAgg0, z0 := Tryz.sizeOf0, v0 := Tryz.zeroValue0, t3 := Tryz.underlying3, a3 := Tryz.isAgg3, z3 := Tryz.sizeOf3, v3 := Tryz.zeroValue3, t4 := Tryz.underlying4, a4 := Tryz.isAgg4, z4 := Tryz.sizeOf4, v4 := Tryz.zeroValue4, t9 := Tryz.underlying9, a9 := Tryz.isAgg9, z9 := Tryz.sizeOf9, v9 := Tryz.zeroValue9,
    t20 := Tryz.underlying20, a20 := Tryz.isAgg20, z20 := Tryz.sizeOf20, v20 := Tryz.zeroValue20, t37 := Tryz.underlying90, a37 := Tryz.isAgg90, z37 := Tryz.sizeOf90, v37 := Tryz.zeroValue90, t70 := Tryz.underlying132, a70 := Tryz.isAgg132, z70 := Tryz.sizeOf132, v70 := Tryz.zeroValue132, t72 := Tryz.underlying134, a72 := Tryz.isAgg134, z72 := Tryz.sizeOf134, v72 := Tryz.zeroValue134,
    t75 := Tryz.underlying136, a75 := Tryz.isAgg136, z75 := Tryz.sizeOf136, v75 := Tryz.zeroValue136, t164 := Tryz.underlying274, a164 := Tryz.isAgg274, z164 := Tryz.sizeOf274, v164 := Tryz.zeroValue274 }
theorem Tryz.layWB : Lays.n167 Tryz.prog Tryz.bren :=
  { mixed := by kernel_rfl, f167 := Tryz.func89.trans (congrArg some (by kernel_rfl)), f240 := Tryz.func140.trans (congrArg some (by kernel_rfl)), f276 := Tryz.func199.trans (congrArg some (by kernel_rfl)),
    t0 := Tryz.underlying0, a0 := Tryz.isAgg0, z0 := Tryz.sizeOf0, v0 := Tryz.zeroValue0, t4 := Tryz.underlying4, a4 := Tryz.isAgg4, z4 := Tryz.sizeOf4, v4 := Tryz.zeroValue4, t5 := Tryz.underlying5, a5 := Tryz.isAgg5, z5 := Tryz.sizeOf5, v5 := Tryz.zeroValue5, t9 := Tryz.underlying9, a9 := Tryz.isAgg9, z9 := Tryz.sizeOf9, v9 := Tryz.zeroValue9,
    t20 := Tryz.underlying20, a20 := Tryz.isAgg20, z20 := Tryz.sizeOf20, v20 := Tryz.zeroValue20, t37 := Tryz.underlying90, a37 := Tryz.isAgg90, z37 := Tryz.sizeOf90, v37 := Tryz.zeroValue90, t70 := Tryz.underlying132, a70 := Tryz.isAgg132, z70 := Tryz.sizeOf132, v70 := Tryz.zeroValue132, t72 := Tryz.underlying134, a72 := Tryz.isAgg134, z72 := Tryz.sizeOf134, v72 := Tryz.zeroValue134,
    t75 := Tryz.underlying136, a75 := Tryz.isAgg136, z75 := Tryz.sizeOf136, v75 := Tryz.zeroValue136, t164 := Tryz.underlying274, a164 := Tryz.isAgg274, z164 := Tryz.sizeOf274, v164 := Tryz.zeroValue274 }
theorem Tryz.layST : Lays.n169 Tryz.prog Tryz.bren :=
  { mixed := by kernel_rfl, f169 := Tryz.func91.trans (congrArg some (by kernel_rfl)),
    t0 := Tryz.underlying0, a0 := Tryz.isAgg0, z0 := Tryz.sizeOf0, v0 := Tryz.zeroValue0, t3 := Tryz.underlying3, a3 := Tryz.isAgg3, z3 := Tryz.sizeOf3, v3 := Tryz.zeroValue3, t9 := Tryz.underlying9, a9 := Tryz.isAgg9, z9 := Tryz.sizeOf9, v9 := Tryz.zeroValue9, t37 := Tryz.underlying90, a37 := Tryz.isAgg90, z37 := Tryz.sizeOf90, v37 := Tryz.zeroValue90, t70 := Tryz.underlying132, a70 := Tryz.isAgg132, z70 := Tryz.sizeOf132, v70 := Tryz.zeroValue132, t72 := Tryz.underlying134, a72 := Tryz.isAgg134, z72 := Tryz.sizeOf134, v72 := Tryz.zeroValue134, t127 := Tryz.underlying198, a127 := Tryz.isAgg198, z127 := Tryz.sizeOf198, v127 := Tryz.zeroValue198 }
theorem Tryz.bX : Builder.Extra Tryz.prog Tryz.bren :=
  { sizeBuilder := by kernel_rfl, liesBuilder := by kernel_rfl, t5 := Tryz.underlying5, a5 := Tryz.isAgg5, z5 := Tryz.sizeOf5, v5 := Tryz.zeroValue5, infoByte := by kernel_rfl, cellsByte := by kernel_rfl, sizeByte := by kernel_rfl, neB5 := by decide }
end Go.Proofs
namespace Go.Proofs.YtgohllfpceeboabGreatDoor
open Go.RowKit
attribute [local go_sem ↓] Go.wp_at_zero Go.wp_at_succ
theorem letters_back (s : ByteArray) : ∀ (n pos : Nat) (l : List Int), Sx.letters (s.data.toList.drop pos) = some l → s.size - pos ≤ n → pos ≤ s.size → Sx.text l = s.data.toList.drop pos ∧ ∀ c ∈ l, Sx.Good c := by
  intro n
  induction n with
  | zero =>
    intro pos l h hb hp
    rw [List.drop_eq_nil_of_le (by rw [ba_len]; omega)] at h ⊢
    rw [Sx.letters_nil] at h
    cases h
    exact ⟨rfl, fun c hc => by cases hc⟩
  | succ n ih =>
    intro pos l h hb hp
    by_cases hlt : pos < s.size
    · obtain ⟨c, m, l2, hd, rfl, hc0, hc1, hsur, hn1, hn2, hq2, hu⟩ := Sx.step_rune s pos l h hlt
      obtain ⟨i1, i2⟩ := ih (pos + m) l2 hq2 (by omega) hn2
      refine ⟨?_, fun x hx => ?_⟩
      · have e : Sx.text (c :: l2) = Sx.utf c ++ Sx.text l2 := by simp [Sx.text]
        rw [e, hu, i1, ← List.drop_drop, List.take_append_drop]
      · rcases List.mem_cons.1 hx with rfl | hx
        · exact ⟨hc0, hc1, hsur⟩
        · exact i2 x hx
    · rw [List.drop_eq_nil_of_le (by rw [ba_len]; omega)] at h ⊢
      rw [Sx.letters_nil] at h
      cases h
      exact ⟨rfl, fun c hc => by cases hc⟩
theorem letters_is (s : ByteArray) (l : List Int) (h : Sx.letters s.data.toList = some l) : Sx.text l = s.data.toList ∧ ∀ c ∈ l, Sx.Good c := by
  have := letters_back s s.size 0 l (by rw [List.drop_zero]; exact h) (by omega) (by omega)
  rw [List.drop_zero] at this
  exact this
theorem low_hi (x : Int) (h0 : 128 ≤ x) (h1 : x < 256) : lowB (UInt8.ofNat x.toNat) = UInt8.ofNat x.toNat := by
  unfold lowB
  rw [Sx.u8n x (by omega) h1, if_neg (by omega)]
theorem low_utf (c : Int) (h : Sx.Good c) : (Sx.utf c).map lowB = Sx.utf (Sx.lower c) := by
  obtain ⟨h0, h1, h2⟩ := h
  by_cases a1 : c < 128
  · have e1 : Sx.utf c = [UInt8.ofNat c.toNat] := by unfold Sx.utf; rw [if_pos a1]
    have e2 : Sx.utf (Sx.lower c) = [UInt8.ofNat (Sx.lower c).toNat] := by unfold Sx.utf; rw [if_pos (by unfold Sx.lower; split <;> omega)]
    rw [e1, e2, List.map_cons, List.map_nil]
    unfold lowB Sx.lower
    rw [Sx.u8n c h0 (by omega)]
    by_cases a2 : 65 ≤ c ∧ c ≤ 90
    · rw [if_pos (by omega), if_pos a2, show (c + 32).toNat = c.toNat + 32 from by omega]
    · rw [if_neg (by omega), if_neg a2]
  · have e : Sx.lower c = c := by unfold Sx.lower; rw [if_neg (by omega)]
    rw [e]
    unfold Sx.utf
    rw [if_neg a1]
    by_cases a2 : c < 2048
    · rw [if_pos a2]
      simp only [List.map_cons, List.map_nil]
      rw [low_hi _ (by omega) (by omega), low_hi _ (by omega) (by omega)]
    · rw [if_neg a2]
      by_cases a3 : c < 65536
      · rw [if_pos a3]
        simp only [List.map_cons, List.map_nil]
        rw [low_hi _ (by omega) (by omega), low_hi _ (by omega) (by omega), low_hi _ (by omega) (by omega)]
      · rw [if_neg a3]
        simp only [List.map_cons, List.map_nil]
        rw [low_hi _ (by omega) (by omega), low_hi _ (by omega) (by omega), low_hi _ (by omega) (by omega), low_hi _ (by omega) (by omega)]
theorem low_text : ∀ (l : List Int), (∀ c ∈ l, Sx.Good c) → (Sx.text l).map lowB = Sx.text (l.map Sx.lower) := by
  intro l
  induction l with
  | nil => intro _; rfl
  | cons c l ih =>
    intro h
    have e : ∀ x (r : List Int), Sx.text (x :: r) = Sx.utf x ++ Sx.text r := fun x r => by simp [Sx.text]
    rw [List.map_cons, e, e, List.map_append, low_utf c (h c (List.mem_cons_self ..)), ih (fun x hx => h x (List.mem_cons_of_mem _ hx))]
theorem good_lower (c : Int) (h : Sx.Good c) : Sx.Good (Sx.lower c) := by
  unfold Sx.Good Sx.lower at *
  split <;> omega
theorem encWays_len (l : List Int) (hl : l.length ≤ 100) (hr : ∀ c ∈ l, c ≤ 1114111) : ∀ (todo done : List Nat), Sx.ord l = done ++ todo → ∀ (n i bias : Int) (first : Bool), 128 ≤ n → -1 ≤ i → (Sx.encWays (todo.map (Sx.wayAt l)) bias n i (((Sx.plainOf l).length + done.length : Nat) : Int) first).length ≤ todo.length * 113000001 := by
  intro todo
  induction todo with
  | nil => intro done _ n i bias first _ _; simp [Sx.encWays]
  | cons c0 todo ih =>
    intro done ho n i bias first hn hi
    obtain ⟨hcl, hcf, _⟩ := Sx.flags_todo l done (c0 :: todo) ho c0 (List.mem_cons_self ..)
    have hlm : l.getD c0 0 ≤ 1114111 := by
      have := hr l[c0] (List.getElem_mem hcl)
      simpa [List.getElem?_eq_getElem hcl] using this
    have hst := Sx.stand_le_put l done todo c0 ho
    have hpo := Sx.plain_ord l
    have hdl := congrArg List.length ho
    rw [List.length_append, List.length_cons] at hdl
    have hle := Sx.passed_le (l.getD c0 0) n (Sx.stand l c0) i (((Sx.plainOf l).length + done.length : Nat) : Int) hlm hn hi (by omega) (by omega) (by omega)
    have hw := Sx.writ_len _ 0 bias hle.2
    have h2 := ih (done ++ [c0]) (by rw [ho]; simp) (l.getD c0 0) (Sx.stand l c0) (Sx.after ((l.getD c0 0 - n) * ((((Sx.plainOf l).length + done.length : Nat) : Int) + 1) + (Sx.stand l c0 : Int) - (i + 1)) ((((Sx.plainOf l).length + done.length : Nat) : Int) + 1) first) false (by omega) (by omega)
    rw [List.length_append, List.length_cons, List.length_nil, show (((Sx.plainOf l).length + (done.length + (0 + 1)) : Nat) : Int) = (((Sx.plainOf l).length + done.length : Nat) : Int) + 1 from by omega] at h2
    simp only [List.map_cons, Sx.wayAt, Sx.encWays, List.length_append, List.length_cons] at h2 ⊢
    omega
theorem enc_len (l : List Int) (hl : l.length ≤ 100) (hr : ∀ c ∈ l, c ≤ 1114111) : (Sx.enc l).length ≤ 20000000000 := by
  have h1 := encWays_len l hl hr (Sx.ord l) [] rfl 128 (-1) 72 true (by omega) (by omega)
  have h2 := Sx.head_len l hl
  have h3 := Sx.plain_ord l
  unfold Sx.enc
  rw [List.length_append]
  simp only [List.length_nil, Nat.add_zero] at h1
  have h4 : (Sx.ord l).length * 113000001 ≤ 100 * 113000001 := Nat.mul_le_mul_right _ (by omega)
  omega
/-- A box of two cells that may be written. -/
def Box2 (w : World) (b : Nat) (x y : Value) : Prop := b < w.heap.size ∧ w.cell? ⟨b, 0, none⟩ = some x ∧ w.cell? ⟨b, 1, none⟩ = some y ∧ w.frozen? ⟨b, 0, none⟩ = false ∧ w.frozen? ⟨b, 1, none⟩ = false
theorem Box2.below {w w' : World} {b : Nat} {x y : Value} (h : Box2 w b x y) (hb : Below w.heap.size w w') : Box2 w' b x y :=
  ⟨Nat.lt_of_lt_of_le h.1 hb.size, (hb.cell (p := ⟨b, 0, none⟩) h.1).trans h.2.1, (hb.cell (p := ⟨b, 1, none⟩) h.1).trans h.2.2.1, (hb.frozen (p := ⟨b, 0, none⟩) h.1).trans h.2.2.2.1, (hb.frozen (p := ⟨b, 1, none⟩) h.1).trans h.2.2.2.2⟩
theorem box2_new (w : World) (x y : Value) (t : TypeId) : Box2 (w.alloc (.cells #[x, y] t)) w.heap.size x y :=
  ⟨by rw [World.size_alloc]; exact Nat.lt_succ_self _, by rw [World.cell?_alloc_mark]; rfl, by rw [World.cell?_alloc_mark]; rfl, frozen_new w _ t 0, frozen_new w _ t 1⟩
set_option maxRecDepth 100000 in
set_option maxHeartbeats 1000000 in
/-- suffix.newLabel -/
theorem pnl_any (s : ByteArray) (l : List Int) (w : World) (hl : Sx.letters s.data.toList = some l) (hs : s.size ≤ 60) :
    Calls Tryz.prog 85 #[.string s] w fun e w' => e = .returned (.agg #[.string ⟨(Sx.text (l.map Sx.lower)).toArray⟩, .string ⟨(Sx.formOf (l.map Sx.lower)).toArray⟩]) ∧ Below w.heap.size w w' := by
  obtain ⟨ht, hg⟩ := letters_is s l hl
  have hlow := low_text l hg
  have hgm : ∀ c ∈ l.map Sx.lower, Sx.Good c := fun c hc => by
    obtain ⟨x, hx, rfl⟩ := List.mem_map.1 hc
    exact good_lower x (hg x hx)
  have hlt := Sx.letters_text _ hgm
  have hws := fun w => pws_any s w (by omega)
  rw [← ht, hlow] at hws
  have hlen : (Sx.text (l.map Sx.lower)).length = s.size := by rw [← hlow, List.length_map, ht, ba_len]
  obtain ⟨m, hm⟩ : ∃ m, l.map Sx.lower = m := ⟨_, rfl⟩
  rw [hm] at hgm hlt hws hlen ⊢
  obtain ⟨A, hA⟩ : ∃ A : ByteArray, ⟨(Sx.text m).toArray⟩ = A := ⟨_, rfl⟩
  have hAl : A.data.toList = Sx.text m := by rw [← hA]
  have hAz : A.size ≤ 60 := by rw [← ba_len, hAl]; omega
  rw [hA] at hws ⊢
  have hAm : Sx.letters A.data.toList = some m := by rw [hAl]; exact hlt
  obtain ⟨hrg, hcnt⟩ := letters_range A.size A 0 m (by rw [List.drop_zero]; exact hAm) (by omega) (by omega)
  obtain ⟨f, hf⟩ : ∃ f, (m.any fun c => decide (128 ≤ c)) = f := ⟨_, rfl⟩
  have hform : Sx.formOf m = if f then Sx.xn ++ Sx.enc m else Sx.text m := by unfold Sx.formOf; rw [hf]
  have hB0 : Below w.heap.size w (w.alloc (.cells #[.string ⟨#[]⟩, .string ⟨#[]⟩] 69)) := (Below.refl _ _).alloc (Nat.le_refl _) _
  have HWS := hide hws
  have HAM := hide hAm
  have HF := hide hf
  have HFO := hide hform
  have HA := hide hA
  have HCN := hide hcnt
  have HRG := hide hrg
  clear hws hAm hf hform hA hcnt hrg hAl hlen hlt hgm hm hlow hg ht hl
  have hx0 := box2_new w (.string ⟨#[]⟩) (.string ⟨#[]⟩) 69
  go_enter Tryz.func85, Tryz.ntmps85
  cases f with
  | false =>
    go_wp2_with (first | (go_at_call 130; go_must (refine (HWS.out _).mono ?_; rintro e w2 ⟨rfl, hB2⟩; have hx2 := hx0.below hB2; clear hx0)) | (go_at_call 131; go_must (refine (pcf_any A m _ HAM.out (by omega)).mono ?_; rintro e w3 ⟨rfl, hB3⟩; rw [HF.out]; have hx3 := hx2.below hB3; obtain ⟨y0, y1, y2, y3, y4⟩ := hx3)))
    have z0 : ((w3.setCell ⟨w.heap.size, 0, none⟩ (.string A)).setCell ⟨w.heap.size, 1, none⟩ (.string A)).cell? ⟨w.heap.size, 0, none⟩ = some (.string A) := by rw [World.cell?_setCell_other _ _ _ _ (by simp), World.cell?_setCell_same _ _ _ y1]
    have z1 : ((w3.setCell ⟨w.heap.size, 0, none⟩ (.string A)).setCell ⟨w.heap.size, 1, none⟩ (.string A)).cell? ⟨w.heap.size, 1, none⟩ = some (.string A) := by rw [World.cell?_setCell_same _ _ _ ((World.cell?_setCell_other _ _ _ _ (by simp)).trans y2)]
    have hBf : Below w.heap.size w ((w3.setCell ⟨w.heap.size, 0, none⟩ (.string A)).setCell ⟨w.heap.size, 1, none⟩ (.string A)) := (((hB0.trans (hB2.mono hB0.size)).trans (hB3.mono (Nat.le_trans hB0.size hB2.size))).setCell (p := ⟨w.heap.size, 0, none⟩) (Nat.le_refl _) _).setCell (p := ⟨w.heap.size, 1, none⟩) (Nat.le_refl _) _
    exact bodyPost_ret (v := .agg #[.string A, .string A]) (by simp [results, Tryz.results85, go_sem, z0, z1]) rfl ⟨by rw [HFO.out, if_neg (by decide), HA.out], hBf⟩
  | true =>
    have hof := fun w => pof_any A m w HAM.out (by omega) (ways_some m HF.out) (by rw [ways_count]; have h1 := HCN.out; have h2 := List.length_filter_le (fun c => decide (128 ≤ c)) m; omega)
    obtain ⟨E, hE⟩ : ∃ E : ByteArray, ⟨(Sx.enc m).toArray⟩ = E := ⟨_, rfl⟩
    have hez : E.size ≤ 20000000000 := by rw [← ba_len, ← hE]; exact enc_len m (by have := HCN.out; omega) (fun c hc => (HRG.out c hc).2)
    rw [hE] at hof
    have HOF := hide hof
    have HE := hide hE
    clear hof hE
    go_wp2_with (first | (go_at_call 130; go_must (refine (HWS.out _).mono ?_; rintro e w2 ⟨rfl, hB2⟩; have hx2 := hx0.below hB2; clear hx0)) | (go_at_call 131; go_must (refine (pcf_any A m _ HAM.out (by omega)).mono ?_; rintro e w3 ⟨rfl, hB3⟩; rw [HF.out]; have hx3 := hx2.below hB3; clear hx2)) | (go_at_call 133; go_must (refine (HOF.out _).mono ?_; rintro e w4 ⟨rfl, hB4⟩; have hx4 := hx3.below hB4; obtain ⟨y0, y1, y2, y3, y4⟩ := hx4)))
    have z0 : ((w4.setCell ⟨w.heap.size, 0, none⟩ (.string A)).setCell ⟨w.heap.size, 1, none⟩ (.string (⟨#[120, 110, 45, 45]⟩ ++ E))).cell? ⟨w.heap.size, 0, none⟩ = some (.string A) := by rw [World.cell?_setCell_other _ _ _ _ (by simp), World.cell?_setCell_same _ _ _ y1]
    have z1 : ((w4.setCell ⟨w.heap.size, 0, none⟩ (.string A)).setCell ⟨w.heap.size, 1, none⟩ (.string (⟨#[120, 110, 45, 45]⟩ ++ E))).cell? ⟨w.heap.size, 1, none⟩ = some (.string (⟨#[120, 110, 45, 45]⟩ ++ E)) := by rw [World.cell?_setCell_same _ _ _ ((World.cell?_setCell_other _ _ _ _ (by simp)).trans y2)]
    have hBf : Below w.heap.size w ((w4.setCell ⟨w.heap.size, 0, none⟩ (.string A)).setCell ⟨w.heap.size, 1, none⟩ (.string (⟨#[120, 110, 45, 45]⟩ ++ E))) := ((((hB0.trans (hB2.mono hB0.size)).trans (hB3.mono (Nat.le_trans hB0.size hB2.size))).trans (hB4.mono (Nat.le_trans hB0.size (Nat.le_trans hB2.size hB3.size)))).setCell (p := ⟨w.heap.size, 0, none⟩) (Nat.le_refl _) _).setCell (p := ⟨w.heap.size, 1, none⟩) (Nat.le_refl _) _
    exact bodyPost_ret (v := .agg #[.string A, .string (⟨#[120, 110, 45, 45]⟩ ++ E)]) (by simp [results, Tryz.results85, go_sem, z0, z1]) rfl ⟨by rw [HFO.out, if_pos trivial, ← HE.out, show (#[120, 110, 45, 45] : Array UInt8) = Sx.xn.toArray from rfl, ba_app], hBf⟩
def digitsB : List UInt8 := [48, 49, 50, 51, 52, 53, 54, 55, 56, 57]
set_option maxRecDepth 100000 in
theorem digit_mem (c : UInt8) : digitsB.contains c = (decide (48 ≤ c.toNat) && decide (c.toNat ≤ 57)) := by
  revert c
  have h : ∀ n : Fin 256, digitsB.contains (UInt8.ofNat n.val) = (decide (48 ≤ (UInt8.ofNat n.val).toNat) && decide ((UInt8.ofNat n.val).toNat ≤ 57)) := by decide
  intro c
  have := h ⟨c.toNat, c.toNat_lt⟩
  simpa using this
theorem dropWhile_nil {α : Type} (p : α → Bool) : ∀ (l : List α), (l.dropWhile p = [] ↔ l.all p = true) := by
  intro l
  induction l with
  | nil => simp
  | cons x l ih =>
    rw [List.dropWhile_cons, List.all_cons]
    cases h : p x with
    | true => simpa using ih
    | false => simp
theorem dropWhile_head {α : Type} (p : α → Bool) : ∀ (l : List α) (x : α) (r : List α), l.dropWhile p = x :: r → p x = false := by
  intro l
  induction l with
  | nil => intro x r h; simp at h
  | cons y l ih =>
    intro x r h
    rw [List.dropWhile_cons] at h
    cases hp : p y with
    | true => rw [hp, if_pos rfl] at h; exact ih x r h
    | false =>
      rw [hp, if_neg (by simp)] at h
      cases h; exact hp
theorem trim_digits (l : List UInt8) : (Lib.trimS l digitsB = [] ↔ Sx.digs l = true) := by
  have e : Sx.digs l = l.all (digitsB.contains ·) := by
    unfold Sx.digs
    congr 1
    funext c
    rw [digit_mem]
  rw [e]
  unfold Lib.trimS Lib.trimRightS Lib.trimLeftS
  have e2 : l.all (digitsB.contains ·) = l.reverse.all (digitsB.contains ·) := List.all_reverse.symm
  rw [e2, dropWhile_nil, List.all_reverse]
  constructor
  · intro h2
    cases h3 : List.dropWhile (digitsB.contains ·) l.reverse with
    | nil => exact (dropWhile_nil _ _).1 h3
    | cons x r =>
      rw [h3, List.all_cons, dropWhile_head _ _ _ _ h3] at h2
      exact absurd h2 (by simp)
  · intro h
    rw [(dropWhile_nil _ _).2 h]; rfl
set_option maxRecDepth 100000 in
set_option maxHeartbeats 1000000 in
/-- (suffix.label).isOfDigits -/
theorem pdg_any (a b : ByteArray) (w : World) (hb : b.size ≤ 1000000) :
    Calls Tryz.prog 87 #[.agg #[.string a, .string b]] w fun e w' => e = .returned (.bool (Sx.digs b.data.toList)) ∧ Below w.heap.size w w' := by
  have hcon := fun w => Any.strings_Trim_laid Tryz.layTrim (by kernel_rfl) b ⟨#[48, 49, 50, 51, 52, 53, 54, 55, 56, 57]⟩ w (by omega) (by decide) (ascii_of_all (by decide))
  obtain ⟨r, hr⟩ : ∃ r : ByteArray, ⟨(Lib.trimS b.data.toList digitsB).toArray⟩ = r := ⟨_, rfl⟩
  have hc2 : ∀ w, Calls Tryz.prog 139 #[.string b, .string ⟨#[48, 49, 50, 51, 52, 53, 54, 55, 56, 57]⟩] w fun e w' => e = .returned (.string r) ∧ Below w.heap.size w w' := fun w => by
    have := hcon w
    rw [← hr]
    exact this
  have hre : r.toList.isEmpty = Sx.digs b.data.toList := by
    rw [ByteArray.toList_eq, ← hr]
    show (Lib.trimS b.data.toList digitsB).isEmpty = _
    have := trim_digits b.data.toList
    cases hd : Sx.digs b.data.toList with
    | true => rw [this.2 hd]; rfl
    | false =>
      cases ht : Lib.trimS b.data.toList digitsB with
      | nil => rw [this.1 ht] at hd; cases hd
      | cons => rfl
  have HC2 := hide hc2
  have HRE := hide hre
  clear hcon hr hc2 hre
  have hB0 : Below w.heap.size w (w.alloc (.cells #[.string a, .string b] 69)) := (Below.refl _ _).alloc (Nat.le_refl _) _
  go_enter Tryz.func87, Tryz.ntmps87
  go_wp2_with (go_at_call 139; go_must (refine (HC2.out _).mono ?_; rintro e w2 ⟨rfl, hB2⟩))
  go_ret
  exact ⟨ret_bool (by rw [← HRE.out]), hB0.trans (hB2.mono hB0.size)⟩
end Go.Proofs.YtgohllfpceeboabGreatDoor

