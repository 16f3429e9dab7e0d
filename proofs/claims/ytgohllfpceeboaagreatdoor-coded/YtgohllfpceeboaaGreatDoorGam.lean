import Derived.Test.YtgohllfpceeboaaGreatDoorGak
import Derived.Test.YtgohllfpceeboaaGreatDoorGal
import Derived.Laws.ResultCell
import Derived.Deep.Onto
import Derived.Deep.RegionHeldLaw
namespace Go.Proofs.YtgohllfpceeboaaGreatDoor
open Go.RowKit
theorem own_lowerK {w : World} {B B' n : Nat} {e : TypeId} {z : Nat} {v : Value} {xs : List Value} (h : w.ownsRow B e z v n xs) (hk : B' ≤ B) : w.ownsRow B' e z v n xs := by
  refine ⟨h.1, ?_⟩
  rcases h.2 with h2 | ⟨g, cap, cur, hv, hg, r⟩
  · exact .inl h2
  · exact .inr ⟨g, cap, cur, hv, Nat.le_trans hk hg, r⟩
theorem own_shapeK {w : World} {B n : Nat} {e : TypeId} {z : Nat} {v : Value} {xs : List Value} (h : w.ownsRow B e z v n xs) : ∃ p cap, v = .slice p n cap := by
  rcases h.2 with ⟨rfl, rfl⟩ | ⟨g, cap, cur, hv, _⟩
  · exact ⟨none, 0, rfl⟩
  · exact ⟨_, cap, hv⟩
/-- What suffixref.Read hands back. -/
def ReadPost (s : List UInt8) (sec : UInt8) (B : Nat) (w : World) (e : Ending) (w' : World) : Prop :=
  Below B w w' ∧ ∃ (v : Value) (kd : UInt8), (∃ p m c, v = .slice p m c) ∧ e = .returned (.tuple #[.agg #[v, .int .u8 kd.toNat, .int .u8 sec.toNat], .bool (Sx.readRl s sec).isSome]) ∧ ∀ r, Sx.readRl s sec = some r → r.2.1 = kd ∧ r.2.2 = sec ∧ w'.ownsRow B 9 1 v r.1.length (stV r.1) ∧ r.1.length ≤ 6 ∧ ∀ x ∈ r.1, x.length ≤ 20
theorem readRl_some {s : List UInt8} {sec kd : UInt8} {t : List UInt8} (hc : Sx.cutRl s = (kd, t)) : (Sx.readRl s sec).isSome = (decide ((Sx.host t).2 = 0) && (decide (kd ≠ 33) || decide (1 < (Sx.host t).1.length))) ∧ ∀ r, Sx.readRl s sec = some r → r = ((Sx.host t).1, kd, sec) := by
  unfold Sx.readRl
  rw [hc]
  constructor
  · by_cases h : (Sx.host t).2 = 0 ∧ (kd = 33 → 1 < (Sx.host t).1.length)
    · rw [if_pos h]
      obtain ⟨h1, h2⟩ := h
      by_cases h3 : kd = 33
      · simp [h1, h2 h3]
      · simp [h1, h3]
    · rw [if_neg h]
      by_cases h1 : (Sx.host t).2 = 0
      · by_cases h3 : kd = 33
        · have : ¬ 1 < (Sx.host t).1.length := fun h4 => h ⟨h1, fun _ => h4⟩
          simp [h3, this]
        · exact absurd ⟨h1, fun e => absurd e h3⟩ h
      · simp [h1]
  · intro r hr
    split at hr
    · exact (Option.some.inj hr).symm
    · cases hr
theorem alloc2_cell (w : World) (A : Obj) (cs : Array Value) (t : TypeId) (j : Nat) : ((w.alloc A).alloc (.cells cs t)).cell? ⟨w.heap.size + 1, j, none⟩ = cs[j]? := by
  have hz : (w.alloc A).heap.size = w.heap.size + 1 := World.size_alloc _ _
  rw [← hz, World.cell?_alloc_mark]
theorem alloc2_frozen (w : World) (A : Obj) (cs : Array Value) (t : TypeId) (j : Nat) : ((w.alloc A).alloc (.cells cs t)).frozen? ⟨w.heap.size + 1, j, none⟩ = false := by
  have hz : (w.alloc A).heap.size = w.heap.size + 1 := World.size_alloc _ _
  rw [← hz]
  simp
theorem read_ends {s : List UInt8} {sec kd : UInt8} {t : List UInt8} {w w1 : World} {A : Obj} {cs : Array Value} {ty : TypeId} {v : Value} (b : Bool) (a0 a1 a2 : Value) (HC : Hid ((Sx.readRl s sec).isSome = (decide ((Sx.host t).2 = 0) && (decide (kd ≠ 33) || decide (1 < (Sx.host t).1.length))) ∧ ∀ r, Sx.readRl s sec = some r → r = ((Sx.host t).1, kd, sec)))
    (hB : Below ((w.alloc A).alloc (.cells cs ty)).heap.size ((w.alloc A).alloc (.cells cs ty)) w1) (ho : w1.ownsRow ((w.alloc A).alloc (.cells cs ty)).heap.size 9 1 v (Sx.host t).1.length (stV (Sx.host t).1)) (h6 : (Sx.host t).1.length ≤ 6) (hx : ∀ x ∈ (Sx.host t).1, x.length ≤ 20) (hb : (decide ((Sx.host t).2 = 0) && (decide (kd ≠ 33) || decide (1 < (Sx.host t).1.length))) = b) :
    ReadPost s sec w.heap.size w (.returned (.tuple #[.agg #[v, .int .u8 kd.toNat, .int .u8 sec.toNat], .bool b])) ((((w1.setCell ⟨w.heap.size + 1, 0, none⟩ v).setCell ⟨w.heap.size, 0, none⟩ a0).setCell ⟨w.heap.size, 1, none⟩ a1).setCell ⟨w.heap.size, 2, none⟩ a2) := by
  obtain ⟨h1, h2⟩ := HC.out
  have hz1 : ((w.alloc A).alloc (.cells cs ty)).heap.size = w.heap.size + 2 := by rw [World.size_alloc, World.size_alloc]
  have hB0 : Below w.heap.size w w1 := (((Below.refl _ w).alloc (Nat.le_refl _) A).alloc (by simp) (.cells cs ty)).trans (hB.mono (by omega))
  have hs1 : ∀ (k o : Nat) (x : Value) (W : World), Below w.heap.size w W → w.heap.size ≤ k → Below w.heap.size w (W.setCell ⟨k, o, none⟩ x) := fun k o x W h hk => h.setCell (show w.heap.size ≤ (⟨k, o, none⟩ : Addr).block from hk) _
  refine ⟨hs1 _ _ _ _ (hs1 _ _ _ _ (hs1 _ _ _ _ (hs1 _ _ _ _ hB0 (by omega)) (Nat.le_refl _)) (Nat.le_refl _)) (Nat.le_refl _), v, kd, (by obtain ⟨p, c, hv⟩ := own_shapeK ho; exact ⟨p, _, c, hv⟩), by rw [h1, hb], fun r hr => ?_⟩
  have := h2 r hr
  subst this
  refine ⟨rfl, rfl, ?_, h6, hx⟩
  rw [hz1] at ho
  have hst : ∀ (k o : Nat) (x : Value) (W : World), k < w.heap.size + 2 → W.ownsRow (w.heap.size + 2) 9 1 v (Sx.host t).1.length (stV (Sx.host t).1) → (W.setCell ⟨k, o, none⟩ x).ownsRow (w.heap.size + 2) 9 1 v (Sx.host t).1.length (stV (Sx.host t).1) := by
    intro k o x W hk h
    have hg : W.grownBy (W.setCell ⟨k, o, none⟩ x) (some k) := ⟨rfl, rfl, rfl, by rw [World.size_setCell]; exact Nat.le_refl _, fun j hj hne => heap_setCell_other _ _ _ _ (fun e => hne (by rw [e]))⟩
    refine h.kept hg (.inr ?_)
    intro e
    have := (h.lt _ e).1
    omega
  exact own_lowerK (hst _ _ _ _ (by omega) (hst _ _ _ _ (by omega) (hst _ _ _ _ (by omega) (hst _ _ _ _ (by omega) ho)))) (by omega)
theorem alloc1_cell (w : World) (cs : Array Value) (t : TypeId) (A : Obj) (j : Nat) : ((w.alloc (.cells cs t)).alloc A).cell? ⟨w.heap.size, j, none⟩ = cs[j]? := by
  rw [World.cell?_alloc_lt _ _ _ (by simp), World.cell?_alloc_mark]
theorem alloc1_frozen (w : World) (cs : Array Value) (t : TypeId) (A : Obj) (j : Nat) : ((w.alloc (.cells cs t)).alloc A).frozen? ⟨w.heap.size, j, none⟩ = false := by
  simp
theorem cut_star {s : ByteArray} (e : ((s.extract 0 2).toList == [42, 46]) = true) : Sx.cutRl s.data.toList = (42, (s.extract 2 s.size).data.toList) := by
  unfold Sx.cutRl
  rw [← ba_take, ← ByteArray.toList_eq, if_pos (by simpa using e), ba_drop]
theorem take1 {s : ByteArray} (h : 0 < s.size) : s.data.toList.take 1 = [s.data.toList[0]'(by rw [ba_len]; exact h)] := by
  have : 0 < s.data.toList.length := by rw [ba_len]; exact h
  obtain ⟨x, r, hx⟩ := List.exists_cons_of_ne_nil (List.ne_nil_of_length_pos this)
  simp [hx]
theorem cut_not {s : ByteArray} (e : s.size < 2 ∨ ((s.extract 0 2).toList == [42, 46]) = false) : s.data.toList.take 2 ≠ [42, 46] := by
  intro h
  rcases e with e | e
  · have := congrArg List.length h
    rw [List.length_take, ba_len] at this
    simp at this; omega
  · rw [← ba_take, ← ByteArray.toList_eq] at h
    simp [h] at e
theorem cut_exc {s : ByteArray} (h : 0 < s.size) (e : s.size < 2 ∨ ((s.extract 0 2).toList == [42, 46]) = false) (h0 : s.data.toList[0]'(by rw [ba_len]; exact h) = 33) : Sx.cutRl s.data.toList = (33, (s.extract 1 s.size).data.toList) := by
  unfold Sx.cutRl
  rw [if_neg (cut_not e), take1 h, h0, if_pos rfl, ba_drop]
theorem cut_plain {s : ByteArray} (e : s.size < 2 ∨ ((s.extract 0 2).toList == [42, 46]) = false) (h0 : ∀ h : 0 < s.size, s.data.toList[0]'(by rw [ba_len]; exact h) ≠ 33) : Sx.cutRl s.data.toList = (36, s.data.toList) := by
  unfold Sx.cutRl
  rw [if_neg (cut_not e), if_neg]
  intro h
  by_cases hz : 0 < s.size
  · rw [take1 hz] at h
    exact h0 hz (by simpa using h)
  · have := congrArg List.length h
    rw [List.length_take, ba_len] at this
    simp at this; omega
set_option maxRecDepth 100000 in
set_option maxHeartbeats 2000000 in
/-- suffixref.Read -/
theorem rread_any (s : ByteArray) (sec : UInt8) (w : World) : Calls Tryz.prog 204 #[.string s, .int .u8 sec.toNat] w (ReadPost s.data.toList sec w.heap.size w) := by
  by_cases hstar : 2 ≤ s.size ∧ ((s.extract 0 2).toList == [42, 46]) = true
  · obtain ⟨h2, e2⟩ := hstar
    have HC := hide (readRl_some (sec := sec) (cut_star e2))
    go_enter Tryz.func204, Tryz.ntmps204
    go_wp2_with fail
    generalize s.extract 2 s.size = T at HC ⊢
    refine (rhost_any _ _).mono ?_
    rintro e w1 ⟨hB, v, rfl, ho, h6, hx⟩
    have k0 := (hB.cell (p := ⟨w.heap.size + 1, 0, none⟩) (by simp)).trans (alloc2_cell _ _ _ _ _)
    have k1 := (hB.cell (p := ⟨w.heap.size + 1, 1, none⟩) (by simp)).trans (alloc2_cell _ _ _ _ _)
    have k2 := (hB.cell (p := ⟨w.heap.size + 1, 2, none⟩) (by simp)).trans (alloc2_cell _ _ _ _ _)
    have kf := (hB.frozen (p := ⟨w.heap.size + 1, 0, none⟩) (by simp)).trans (alloc2_frozen _ _ _ _ _)
    have q0 := (hB.cell (p := ⟨w.heap.size, 0, none⟩) (by simp; omega)).trans (alloc1_cell _ _ _ _ _)
    have q1 := (hB.cell (p := ⟨w.heap.size, 1, none⟩) (by simp; omega)).trans (alloc1_cell _ _ _ _ _)
    have q2 := (hB.cell (p := ⟨w.heap.size, 2, none⟩) (by simp; omega)).trans (alloc1_cell _ _ _ _ _)
    have qf : ∀ j, w1.frozen? ⟨w.heap.size, j, none⟩ = false := fun j => (hB.frozen (p := ⟨w.heap.size, j, none⟩) (by simp; omega)).trans (alloc1_frozen _ _ _ _ _)
    have FIN := hide (fun b a0 a1 a2 => read_ends b a0 a1 a2 HC hB ho h6 hx)
    simp only [List.getElem?_toArray, List.getElem?_cons_zero, List.getElem?_cons_succ] at k0 k1 k2 q0 q1 q2
    obtain ⟨p, cap, rfl⟩ := own_shapeK ho
    generalize (Sx.host T.data.toList).2 = n at FIN ⊢
    generalize (Sx.host T.data.toList).1.length = L at FIN h6 ⊢
    clear ho hx HC
    by_cases hn : n = 0
    · subst hn
      go_wp2
      (try simp only [Exit.inBlock, Exit.then])
      refine bodyPost_ret (v := .tuple #[.agg #[.slice p L cap, .int .u8 42, .int .u8 sec.toNat], .bool true]) ?_ rfl (FIN.out _ _ _ _ (by simp))
      rw [results_cell_tmp rfl]
      go_simp
    · have hn' : (n == 0) = false := by simpa using hn
      go_wp2
      (try simp only [Exit.inBlock, Exit.then])
      refine bodyPost_ret (v := .tuple #[.agg #[.slice p L cap, .int .u8 42, .int .u8 sec.toNat], .bool false]) ?_ rfl (FIN.out _ _ _ _ (by simp [hn]))
      rw [results_cell_tmp rfl]
      go_simp
  · have e2 : s.size < 2 ∨ ((s.extract 0 2).toList == [42, 46]) = false := by
      by_cases h2 : 2 ≤ s.size
      · right
        cases h : ((s.extract 0 2).toList == [42, 46]) with
        | true => exact absurd ⟨h2, h⟩ hstar
        | false => rfl
      · left; omega
    clear hstar
    by_cases h1 : 0 < s.size
    · have hg : s[0] = s.data.toList[0]'(by rw [ba_len]; exact h1) := rfl
      by_cases h33 : s.data.toList[0]'(by rw [ba_len]; exact h1) = 33
      · have HC := hide (readRl_some (sec := sec) (cut_exc h1 e2 h33))
        have hb : ((s[0].toNat : Int) == 33) = true := by rw [hg, h33]; rfl
        clear hg h33
        go_enter Tryz.func204, Tryz.ntmps204
        by_cases h2 : 2 ≤ s.size
        · have e2' : ((s.extract 0 2).toList == [42, 46]) = false := by
            rcases e2 with e2 | e2
            · omega
            · exact e2
          clear e2
          go_wp2_with fail
          generalize s.extract 1 s.size = T at HC ⊢
          refine (rhost_any _ _).mono ?_
          rintro e w1 ⟨hB, v, rfl, ho, h6, hx⟩
          have k0 := (hB.cell (p := ⟨w.heap.size + 1, 0, none⟩) (by simp)).trans (alloc2_cell _ _ _ _ _)
          have k1 := (hB.cell (p := ⟨w.heap.size + 1, 1, none⟩) (by simp)).trans (alloc2_cell _ _ _ _ _)
          have k2 := (hB.cell (p := ⟨w.heap.size + 1, 2, none⟩) (by simp)).trans (alloc2_cell _ _ _ _ _)
          have kf := (hB.frozen (p := ⟨w.heap.size + 1, 0, none⟩) (by simp)).trans (alloc2_frozen _ _ _ _ _)
          have q0 := (hB.cell (p := ⟨w.heap.size, 0, none⟩) (by simp; omega)).trans (alloc1_cell _ _ _ _ _)
          have q1 := (hB.cell (p := ⟨w.heap.size, 1, none⟩) (by simp; omega)).trans (alloc1_cell _ _ _ _ _)
          have q2 := (hB.cell (p := ⟨w.heap.size, 2, none⟩) (by simp; omega)).trans (alloc1_cell _ _ _ _ _)
          have qf : ∀ j, w1.frozen? ⟨w.heap.size, j, none⟩ = false := fun j => (hB.frozen (p := ⟨w.heap.size, j, none⟩) (by simp; omega)).trans (alloc1_frozen _ _ _ _ _)
          have FIN := hide (fun b a0 a1 a2 => read_ends b a0 a1 a2 HC hB ho h6 hx)
          simp only [List.getElem?_toArray, List.getElem?_cons_zero, List.getElem?_cons_succ] at k0 k1 k2 q0 q1 q2
          obtain ⟨p, cap, rfl⟩ := own_shapeK ho
          generalize (Sx.host T.data.toList).2 = n at FIN ⊢
          generalize (Sx.host T.data.toList).1.length = L at FIN h6 ⊢
          clear ho hx HC
          by_cases hn : n = 0
          · subst hn
            by_cases h1L : 1 < L
            · have h1i : (1 : Int) < (L : Int) := by omega
              go_wp2
              (try simp only [Exit.inBlock, Exit.then])
              refine bodyPost_ret (v := .tuple #[.agg #[.slice p L cap, .int .u8 33, .int .u8 sec.toNat], .bool true]) ?_ rfl (FIN.out _ _ _ _ (by simp [h1L]))
              rw [results_cell_tmp rfl]
              go_simp
            · have h1i : ¬ (1 : Int) < (L : Int) := by omega
              go_wp2
              (try simp only [Exit.inBlock, Exit.then])
              refine bodyPost_ret (v := .tuple #[.agg #[.slice p L cap, .int .u8 33, .int .u8 sec.toNat], .bool false]) ?_ rfl (FIN.out _ _ _ _ (by simp [h1L]))
              rw [results_cell_tmp rfl]
              go_simp
          · have hn' : (n == 0) = false := by simpa using hn
            go_wp2
            (try simp only [Exit.inBlock, Exit.then])
            refine bodyPost_ret (v := .tuple #[.agg #[.slice p L cap, .int .u8 33, .int .u8 sec.toNat], .bool false]) ?_ rfl (FIN.out _ _ _ _ (by simp [hn]))
            rw [results_cell_tmp rfl]
            go_simp
        · clear e2
          go_wp2_with fail
          generalize s.extract 1 s.size = T at HC ⊢
          refine (rhost_any _ _).mono ?_
          rintro e w1 ⟨hB, v, rfl, ho, h6, hx⟩
          have k0 := (hB.cell (p := ⟨w.heap.size + 1, 0, none⟩) (by simp)).trans (alloc2_cell _ _ _ _ _)
          have k1 := (hB.cell (p := ⟨w.heap.size + 1, 1, none⟩) (by simp)).trans (alloc2_cell _ _ _ _ _)
          have k2 := (hB.cell (p := ⟨w.heap.size + 1, 2, none⟩) (by simp)).trans (alloc2_cell _ _ _ _ _)
          have kf := (hB.frozen (p := ⟨w.heap.size + 1, 0, none⟩) (by simp)).trans (alloc2_frozen _ _ _ _ _)
          have q0 := (hB.cell (p := ⟨w.heap.size, 0, none⟩) (by simp; omega)).trans (alloc1_cell _ _ _ _ _)
          have q1 := (hB.cell (p := ⟨w.heap.size, 1, none⟩) (by simp; omega)).trans (alloc1_cell _ _ _ _ _)
          have q2 := (hB.cell (p := ⟨w.heap.size, 2, none⟩) (by simp; omega)).trans (alloc1_cell _ _ _ _ _)
          have qf : ∀ j, w1.frozen? ⟨w.heap.size, j, none⟩ = false := fun j => (hB.frozen (p := ⟨w.heap.size, j, none⟩) (by simp; omega)).trans (alloc1_frozen _ _ _ _ _)
          have FIN := hide (fun b a0 a1 a2 => read_ends b a0 a1 a2 HC hB ho h6 hx)
          simp only [List.getElem?_toArray, List.getElem?_cons_zero, List.getElem?_cons_succ] at k0 k1 k2 q0 q1 q2
          obtain ⟨p, cap, rfl⟩ := own_shapeK ho
          generalize (Sx.host T.data.toList).2 = n at FIN ⊢
          generalize (Sx.host T.data.toList).1.length = L at FIN h6 ⊢
          clear ho hx HC
          by_cases hn : n = 0
          · subst hn
            by_cases h1L : 1 < L
            · have h1i : (1 : Int) < (L : Int) := by omega
              go_wp2
              (try simp only [Exit.inBlock, Exit.then])
              refine bodyPost_ret (v := .tuple #[.agg #[.slice p L cap, .int .u8 33, .int .u8 sec.toNat], .bool true]) ?_ rfl (FIN.out _ _ _ _ (by simp [h1L]))
              rw [results_cell_tmp rfl]
              go_simp
            · have h1i : ¬ (1 : Int) < (L : Int) := by omega
              go_wp2
              (try simp only [Exit.inBlock, Exit.then])
              refine bodyPost_ret (v := .tuple #[.agg #[.slice p L cap, .int .u8 33, .int .u8 sec.toNat], .bool false]) ?_ rfl (FIN.out _ _ _ _ (by simp [h1L]))
              rw [results_cell_tmp rfl]
              go_simp
          · have hn' : (n == 0) = false := by simpa using hn
            go_wp2
            (try simp only [Exit.inBlock, Exit.then])
            refine bodyPost_ret (v := .tuple #[.agg #[.slice p L cap, .int .u8 33, .int .u8 sec.toNat], .bool false]) ?_ rfl (FIN.out _ _ _ _ (by simp [hn]))
            rw [results_cell_tmp rfl]
            go_simp
      · have HC := hide (readRl_some (sec := sec) (cut_plain e2 (fun _ => h33)))
        have hb : ((s[0].toNat : Int) == 33) = false := by
          rw [hg, beq_eq_false_iff_ne]
          intro e
          apply h33
          apply UInt8.toNat_inj.1
          have : (s.data.toList[0]'(by rw [ba_len]; exact h1)).toNat = 33 := by omega
          rw [this]; rfl
        clear hg h33
        go_enter Tryz.func204, Tryz.ntmps204
        by_cases h2 : 2 ≤ s.size
        · have e2' : ((s.extract 0 2).toList == [42, 46]) = false := by
            rcases e2 with e2 | e2
            · omega
            · exact e2
          clear e2
          go_wp2_with fail
          refine (rhost_any _ _).mono ?_
          rintro e w1 ⟨hB, v, rfl, ho, h6, hx⟩
          have k0 := (hB.cell (p := ⟨w.heap.size + 1, 0, none⟩) (by simp)).trans (alloc2_cell _ _ _ _ _)
          have k1 := (hB.cell (p := ⟨w.heap.size + 1, 1, none⟩) (by simp)).trans (alloc2_cell _ _ _ _ _)
          have k2 := (hB.cell (p := ⟨w.heap.size + 1, 2, none⟩) (by simp)).trans (alloc2_cell _ _ _ _ _)
          have kf := (hB.frozen (p := ⟨w.heap.size + 1, 0, none⟩) (by simp)).trans (alloc2_frozen _ _ _ _ _)
          have q0 := (hB.cell (p := ⟨w.heap.size, 0, none⟩) (by simp; omega)).trans (alloc1_cell _ _ _ _ _)
          have q1 := (hB.cell (p := ⟨w.heap.size, 1, none⟩) (by simp; omega)).trans (alloc1_cell _ _ _ _ _)
          have q2 := (hB.cell (p := ⟨w.heap.size, 2, none⟩) (by simp; omega)).trans (alloc1_cell _ _ _ _ _)
          have qf : ∀ j, w1.frozen? ⟨w.heap.size, j, none⟩ = false := fun j => (hB.frozen (p := ⟨w.heap.size, j, none⟩) (by simp; omega)).trans (alloc1_frozen _ _ _ _ _)
          have FIN := hide (fun b a0 a1 a2 => read_ends b a0 a1 a2 HC hB ho h6 hx)
          simp only [List.getElem?_toArray, List.getElem?_cons_zero, List.getElem?_cons_succ] at k0 k1 k2 q0 q1 q2
          obtain ⟨p, cap, rfl⟩ := own_shapeK ho
          generalize (Sx.host s.data.toList).2 = n at FIN ⊢
          generalize (Sx.host s.data.toList).1.length = L at FIN h6 ⊢
          clear ho hx HC
          by_cases hn : n = 0
          · subst hn
            go_wp2
            (try simp only [Exit.inBlock, Exit.then])
            refine bodyPost_ret (v := .tuple #[.agg #[.slice p L cap, .int .u8 36, .int .u8 sec.toNat], .bool true]) ?_ rfl (FIN.out _ _ _ _ (by simp))
            rw [results_cell_tmp rfl]
            go_simp
          · have hn' : (n == 0) = false := by simpa using hn
            go_wp2
            (try simp only [Exit.inBlock, Exit.then])
            refine bodyPost_ret (v := .tuple #[.agg #[.slice p L cap, .int .u8 36, .int .u8 sec.toNat], .bool false]) ?_ rfl (FIN.out _ _ _ _ (by simp [hn]))
            rw [results_cell_tmp rfl]
            go_simp
        · clear e2
          go_wp2_with fail
          refine (rhost_any _ _).mono ?_
          rintro e w1 ⟨hB, v, rfl, ho, h6, hx⟩
          have k0 := (hB.cell (p := ⟨w.heap.size + 1, 0, none⟩) (by simp)).trans (alloc2_cell _ _ _ _ _)
          have k1 := (hB.cell (p := ⟨w.heap.size + 1, 1, none⟩) (by simp)).trans (alloc2_cell _ _ _ _ _)
          have k2 := (hB.cell (p := ⟨w.heap.size + 1, 2, none⟩) (by simp)).trans (alloc2_cell _ _ _ _ _)
          have kf := (hB.frozen (p := ⟨w.heap.size + 1, 0, none⟩) (by simp)).trans (alloc2_frozen _ _ _ _ _)
          have q0 := (hB.cell (p := ⟨w.heap.size, 0, none⟩) (by simp; omega)).trans (alloc1_cell _ _ _ _ _)
          have q1 := (hB.cell (p := ⟨w.heap.size, 1, none⟩) (by simp; omega)).trans (alloc1_cell _ _ _ _ _)
          have q2 := (hB.cell (p := ⟨w.heap.size, 2, none⟩) (by simp; omega)).trans (alloc1_cell _ _ _ _ _)
          have qf : ∀ j, w1.frozen? ⟨w.heap.size, j, none⟩ = false := fun j => (hB.frozen (p := ⟨w.heap.size, j, none⟩) (by simp; omega)).trans (alloc1_frozen _ _ _ _ _)
          have FIN := hide (fun b a0 a1 a2 => read_ends b a0 a1 a2 HC hB ho h6 hx)
          simp only [List.getElem?_toArray, List.getElem?_cons_zero, List.getElem?_cons_succ] at k0 k1 k2 q0 q1 q2
          obtain ⟨p, cap, rfl⟩ := own_shapeK ho
          generalize (Sx.host s.data.toList).2 = n at FIN ⊢
          generalize (Sx.host s.data.toList).1.length = L at FIN h6 ⊢
          clear ho hx HC
          by_cases hn : n = 0
          · subst hn
            go_wp2
            (try simp only [Exit.inBlock, Exit.then])
            refine bodyPost_ret (v := .tuple #[.agg #[.slice p L cap, .int .u8 36, .int .u8 sec.toNat], .bool true]) ?_ rfl (FIN.out _ _ _ _ (by simp))
            rw [results_cell_tmp rfl]
            go_simp
          · have hn' : (n == 0) = false := by simpa using hn
            go_wp2
            (try simp only [Exit.inBlock, Exit.then])
            refine bodyPost_ret (v := .tuple #[.agg #[.slice p L cap, .int .u8 36, .int .u8 sec.toNat], .bool false]) ?_ rfl (FIN.out _ _ _ _ (by simp [hn]))
            rw [results_cell_tmp rfl]
            go_simp
    · have HC := hide (readRl_some (sec := sec) (cut_plain e2 (fun h => absurd h h1)))
      clear e2
      have h0 : s.size = 0 := by omega
      have h0a : ¬ (2 : Int) ≤ (s.size : Int) := by omega
      have h0b : ¬ (1 : Int) ≤ (s.size : Int) := by omega
      clear h0
      go_enter Tryz.func204, Tryz.ntmps204
      go_wp2_with fail
      refine (rhost_any _ _).mono ?_
      rintro e w1 ⟨hB, v, rfl, ho, h6, hx⟩
      have k0 := (hB.cell (p := ⟨w.heap.size + 1, 0, none⟩) (by simp)).trans (alloc2_cell _ _ _ _ _)
      have k1 := (hB.cell (p := ⟨w.heap.size + 1, 1, none⟩) (by simp)).trans (alloc2_cell _ _ _ _ _)
      have k2 := (hB.cell (p := ⟨w.heap.size + 1, 2, none⟩) (by simp)).trans (alloc2_cell _ _ _ _ _)
      have kf := (hB.frozen (p := ⟨w.heap.size + 1, 0, none⟩) (by simp)).trans (alloc2_frozen _ _ _ _ _)
      have q0 := (hB.cell (p := ⟨w.heap.size, 0, none⟩) (by simp; omega)).trans (alloc1_cell _ _ _ _ _)
      have q1 := (hB.cell (p := ⟨w.heap.size, 1, none⟩) (by simp; omega)).trans (alloc1_cell _ _ _ _ _)
      have q2 := (hB.cell (p := ⟨w.heap.size, 2, none⟩) (by simp; omega)).trans (alloc1_cell _ _ _ _ _)
      have qf : ∀ j, w1.frozen? ⟨w.heap.size, j, none⟩ = false := fun j => (hB.frozen (p := ⟨w.heap.size, j, none⟩) (by simp; omega)).trans (alloc1_frozen _ _ _ _ _)
      have FIN := hide (fun b a0 a1 a2 => read_ends b a0 a1 a2 HC hB ho h6 hx)
      simp only [List.getElem?_toArray, List.getElem?_cons_zero, List.getElem?_cons_succ] at k0 k1 k2 q0 q1 q2
      obtain ⟨p, cap, rfl⟩ := own_shapeK ho
      generalize (Sx.host s.data.toList).2 = n at FIN ⊢
      generalize (Sx.host s.data.toList).1.length = L at FIN h6 ⊢
      clear ho hx HC
      by_cases hn : n = 0
      · subst hn
        go_wp2
        (try simp only [Exit.inBlock, Exit.then])
        refine bodyPost_ret (v := .tuple #[.agg #[.slice p L cap, .int .u8 36, .int .u8 sec.toNat], .bool true]) ?_ rfl (FIN.out _ _ _ _ (by simp))
        rw [results_cell_tmp rfl]
        go_simp
      · have hn' : (n == 0) = false := by simpa using hn
        go_wp2
        (try simp only [Exit.inBlock, Exit.then])
        refine bodyPost_ret (v := .tuple #[.agg #[.slice p L cap, .int .u8 36, .int .u8 sec.toNat], .bool false]) ?_ rfl (FIN.out _ _ _ _ (by simp [hn]))
        rw [results_cell_tmp rfl]
        go_simp
end Go.Proofs.YtgohllfpceeboaaGreatDoor
namespace Sx
/-- Words with one first byte ahead, and the others. -/
theorem split_block : ∀ (L : List Wd), (∀ w ∈ L, w ≠ []) → L ≠ [] → ∃ (c : UInt8) (b : List Wd) (rest : List Wd), L = b.map (c :: ·) ++ rest ∧ b ≠ [] ∧ ∀ d t r, rest = (d :: t) :: r → d ≠ c
  | [], _, h => absurd rfl h
  | [] :: r, h, _ => absurd rfl (h [] (by simp))
  | [c :: t], _, _ => ⟨c, [t], [], by simp, by simp, by simp⟩
  | (c :: t) :: y :: r, h, _ => by
    obtain ⟨d, b, rest, h1, h2, h3⟩ := split_block (y :: r) (fun w hw => h w (List.mem_cons_of_mem _ hw)) (by simp)
    by_cases e : d = c
    · subst e
      exact ⟨d, t :: b, rest, by rw [h1]; simp, by simp, h3⟩
    · refine ⟨c, [t], y :: r, by simp, by simp, fun d' t' r' h' => ?_⟩
      obtain ⟨u, b', rfl⟩ := List.exists_cons_of_ne_nil h2
      rw [h'] at h1
      simp only [List.map_cons, List.cons_append, List.cons.injEq] at h1
      rw [h1.1.1]; exact e
/-- How many states there come to be. -/
theorem stsF_len : ∀ (n : Nat) (all : Sts) (l : List Wd), OkF n l → (stsF n all l).1.length ≤ all.length + sl l + 1
  | 0, _, _, h => absurd h (by simp [OkF])
  | n + 1, all, l, ho => by
    have fold : ∀ (gs : List (UInt8 × List Wd)) (s : Sts × List Edg), (∀ g ∈ gs, OkF n g.2) → (gs.foldl (stsE n) s).1.length ≤ s.1.length + (gs.map fun g => sl g.2 + 1).sum := by
      intro gs
      induction gs with
      | nil => intro s _; simp
      | cons g gs ih =>
        intro s hg
        have a1 := stsF_len n s.1 g.2 (hg g (by simp))
        have a2 := ih (stsE n s g) (fun y hy => hg y (by simp [hy]))
        rw [List.foldl_cons]
        simp only [List.map_cons, List.sum_cons]
        simp only [stsE] at a2 ⊢
        omega
    have f := fold (grp l) (all, []) ho.2
    have hs : ((grp l).map fun g => sl g.2 + 1).sum ≤ sl l := by
      rcases ho.1 with rfl | ⟨_, h1⟩
      · simp [grp]
      · exact grp_sum l h1
    rw [stsF_succ]
    split
    · simp only; omega
    · simp only [List.length_append, List.length_cons, List.length_nil] at f ⊢
      omega
theorem grp_sum_ok {n : Nat} {l : List Wd} (ho : OkF (n + 1) l) : ((grp l).map fun g => sl g.2 + 1).sum ≤ sl l := by
  rcases ho.1 with rfl | ⟨_, h1⟩
  · simp [grp]
  · exact grp_sum l h1
end Sx
namespace Go.Proofs.YtgohllfpceeboaaGreatDoor
open Go.RowKit
theorem Tryz.info280 : (Tryz.prog.info? 280).map (fun i => (i.zero, i.size, i.bytes)) = some (some (.agg #[.string ⟨#[]⟩, .slice none 0 0, .slice none 0 0]), 3, 64) := by kernel_rfl
/-- A state as it lies: the row of its bytes, the row of its numbers; what can follow, its edges. -/
abbrev SnE := Value × Value × (List Sx.Wd × List Sx.Edg)
def snV (q : List SnE) : List Value := q.flatMap fun x => [Value.string ⟨(Sx.idOf x.2.2.1).toArray⟩, x.1, x.2.1]
def esB (es : List Sx.Edg) : List UInt8 := es.map (·.1)
def esN (es : List Sx.Edg) : List Int := es.map fun e => (e.2 : Int)
structure StsAt (w : World) (B : Nat) (v : Value) (q : List SnE) : Prop where
  row : w.ownsRow B 280 3 v q.length (snV q)
  bys : ∀ x ∈ q, w.ownsRow B 5 1 x.1 x.2.2.2.length (byV (esB x.2.2.2))
  tos : ∀ x ∈ q, w.ownsRow B 3 1 x.2.1 x.2.2.2.length (inV (esN x.2.2.2))
/-- Rows of different types lie apart. -/
theorem own_apart {w : World} {B B' n n' z z' : Nat} {e e' : TypeId} {v v' : Value} {xs xs' : List Value} (h : w.ownsRow B e z v n xs) (h' : w.ownsRow B' e' z' v' n' xs') (hne : e ≠ e') : v.ownBlock = none ∨ v.ownBlock ≠ v'.ownBlock := by
  rcases h.2 with ⟨rfl, _⟩ | ⟨g, cap, cur, rfl, _, hg, _⟩
  · left; rfl
  · right
    rcases h'.2 with ⟨rfl, _⟩ | ⟨g', cap', cur', rfl, _, hg', _⟩
    · simp [Value.ownBlock]
    · intro e
      simp only [Value.ownBlock, Option.some.injEq] at e
      subst e
      rw [hg] at hg'
      simp only [Option.some.injEq, Obj.cells.injEq] at hg'
      exact hne hg'.2.1
theorem snV_get : ∀ (q : List SnE) (j : Nat) (h : j < q.length), (snV q)[j * 3]? = some (.string ⟨(Sx.idOf q[j].2.2.1).toArray⟩) ∧ (snV q)[j * 3 + 1]? = some q[j].1 ∧ (snV q)[j * 3 + 2]? = some q[j].2.1 := by
  intro q
  induction q with
  | nil => intro j h; exact absurd h (Nat.not_lt_zero _)
  | cons x r ih =>
    intro j h
    have e : snV (x :: r) = Value.string ⟨(Sx.idOf x.2.2.1).toArray⟩ :: x.1 :: x.2.1 :: snV r := rfl
    cases j with
    | zero => rw [e]; exact ⟨rfl, rfl, rfl⟩
    | succ j =>
      have := ih j (by simpa using h)
      rw [e, show (j + 1) * 3 = j * 3 + 1 + 1 + 1 from by omega]
      simpa using this
theorem snV_app (a b : List SnE) : snV (a ++ b) = snV a ++ snV b := by simp [snV]
theorem StsAt.id {w : World} {B g cap : Nat} {q : List SnE} (h : StsAt w B (.slice (some ⟨g, 0, none⟩) q.length cap) q) (j : Nat) (hj : j < q.length) : w.cell? ⟨g, j * 3, none⟩ = some (.string ⟨(Sx.idOf q[j].2.2.1).toArray⟩) := by
  have := h.row.cells (g := g) rfl _ _ (snV_get q j hj).1
  rw [Addr.add_lit, Nat.zero_add] at this
  exact this
/-- A state whose rows lie above a mark. -/
def FreshE (H : Nat) (x : SnE) : Prop := (∀ g, x.1.ownBlock = some g → H ≤ g) ∧ ∀ g, x.2.1.ownBlock = some g → H ≤ g
/-- What suffixref.number hands back. -/
def NumPost (n : Nat) (l : List Sx.Wd) (q : List SnE) (B : Nat) (av : Value) (w : World) (e : Ending) (w' : World) : Prop :=
  ∃ (v' : Value) (q' : List SnE), e = .returned (.tuple #[v', .int .i64 ((Sx.stsF n (q.map (·.2.2)) l).2 : Nat)]) ∧ q'.map (·.2.2) = (Sx.stsF n (q.map (·.2.2)) l).1 ∧ StsAt w' B v' q' ∧ w.grownBy w' av.ownBlock ∧ (v'.ownBlock = av.ownBlock ∨ ∀ g, v'.ownBlock = some g → w.heap.size ≤ g) ∧ (∀ x ∈ q', Sx.NoNl x.2.2.1) ∧ ∀ x ∈ q', x ∈ q ∨ FreshE w.heap.size x
theorem StsAt.alloc {w : World} {B : Nat} {v : Value} {q : List SnE} (h : StsAt w B v q) (o : Obj) : StsAt (w.alloc o) B v q := ⟨h.row.alloc o, fun x hx => (h.bys x hx).alloc o, fun x hx => (h.tos x hx).alloc o⟩
theorem StsAt.below {w w' : World} {B : Nat} {v : Value} {q : List SnE} (h : StsAt w B v q) (hb : Below w.heap.size w w') : StsAt w' B v q := ⟨own_later h.row hb, fun x hx => own_later (h.bys x hx) hb, fun x hx => own_later (h.tos x hx) hb⟩
theorem grown_step {w w1 w2 : World} {r r2 : Option Nat} (h1 : w.grownBy w1 r) (h2 : w1.grownBy w2 r2) (hr : r2 = r ∨ ∀ g, r2 = some g → w.heap.size ≤ g) : w.grownBy w2 r := by
  refine ⟨h2.os.trans h1.os, h2.tape.trans h1.tape, h2.output.trans h1.output, Nat.le_trans h1.size h2.size, fun k hk hne => ?_⟩
  refine (h2.block k (Nat.lt_of_lt_of_le hk h1.size) (fun e => ?_)).trans (h1.block k hk hne)
  rcases hr with hr | hr
  · rw [hr] at e; exact hne e
  · have := hr k e.symm; omega
theorem grown_setCell (w : World) (b o : Nat) (v : Value) : w.grownBy (w.setCell ⟨b, o, none⟩ v) (some b) :=
  ⟨rfl, rfl, rfl, by rw [World.size_setCell]; exact Nat.le_refl _, fun j hj hne => heap_setCell_other _ _ _ _ (fun e => hne (by rw [e]))⟩
theorem ap_of {r s : Option Nat} {H : Nat} (h : ∀ g, r = some g → H ≤ g) (h2 : ∀ g, s = some g → g < H) : r = none ∨ r ≠ s := by
  cases r with
  | none => exact .inl rfl
  | some g =>
    right
    intro e
    have := h g rfl
    have := h2 g e.symm
    omega
/-- What suffixref.number has in its hands. -/
structure NumMem (q : List SnE) (B : Nat) (av : Value) (w : World) (u : List UInt8) (a : Value) (wr : World) (q2 : List SnE) (bs : List UInt8) (ns : List Int) (bv tv : Value) : Prop where
  sts : StsAt wr B a q2
  c0 : wr.cell? ⟨w.heap.size, 0, none⟩ = some (.string ⟨u.toArray⟩)
  c1 : wr.cell? ⟨w.heap.size, 1, none⟩ = some bv
  c2 : wr.cell? ⟨w.heap.size, 2, none⟩ = some tv
  fz : ∀ j, wr.frozen? ⟨w.heap.size, j, none⟩ = false
  bys : wr.ownsRow B 5 1 bv bs.length (byV bs)
  tos : wr.ownsRow B 3 1 tv ns.length (inV ns)
  bAt : ∀ g, bv.ownBlock = some g → w.heap.size < g
  tAt : ∀ g, tv.ownBlock = some g → w.heap.size < g
  grown : w.grownBy wr av.ownBlock
  aAt : a.ownBlock = av.ownBlock ∨ ∀ g, a.ownBlock = some g → w.heap.size < g
  avAt : ∀ g, av.ownBlock = some g → g < w.heap.size
  lt : w.heap.size < wr.heap.size
  apB : ∀ x ∈ q2, x.1.ownBlock = none ∨ x.1.ownBlock ≠ bv.ownBlock
  apT : ∀ x ∈ q2, x.2.1.ownBlock = none ∨ x.2.1.ownBlock ≠ tv.ownBlock
  fresh : ∀ x ∈ q2, x ∈ q ∨ FreshE w.heap.size x
  sb : ∃ cs, wr.heap[w.heap.size]? = some (.cells cs 280 (0, 0))
theorem NumMem.a_ne {q : List SnE} {B : Nat} {av : Value} {w : World} {u : List UInt8} {a : Value} {wr : World} {q2 : List SnE} {bs : List UInt8} {ns : List Int} {bv tv : Value} (h : NumMem q B av w u a wr q2 bs ns bv tv) : a.ownBlock ≠ some w.heap.size := by
  intro e
  rcases h.aAt with h1 | h1
  · rw [h1] at e; have := h.avAt _ e; omega
  · have := h1 _ e; omega
theorem NumMem.below {q : List SnE} {B : Nat} {av : Value} {w : World} {u : List UInt8} {a : Value} {wr wr' : World} {q2 : List SnE} {bs : List UInt8} {ns : List Int} {bv tv : Value} (h : NumMem q B av w u a wr q2 bs ns bv tv) (hb : Below wr.heap.size wr wr') : NumMem q B av w u a wr' q2 bs ns bv tv :=
  ⟨h.sts.below hb, (hb.cell (p := ⟨w.heap.size, 0, none⟩) h.lt).trans h.c0, (hb.cell (p := ⟨w.heap.size, 1, none⟩) h.lt).trans h.c1, (hb.cell (p := ⟨w.heap.size, 2, none⟩) h.lt).trans h.c2, fun j => (hb.frozen (p := ⟨w.heap.size, j, none⟩) h.lt).trans (h.fz j), own_later h.bys hb, own_later h.tos hb, h.bAt, h.tAt,
    grown_step h.grown (r2 := none) ⟨hb.os, hb.tape, hb.output, hb.size, fun k hk _ => hb.block k hk⟩ (.inr (by simp)), h.aAt, h.avAt, Nat.lt_of_lt_of_le h.lt hb.size, h.apB, h.apT, h.fresh, by rw [hb.block _ h.lt]; exact h.sb⟩
/-- Behind the states of a group. -/
theorem NumMem.deeper {q : List SnE} {B : Nat} {av : Value} {w : World} {u : List UInt8} {a a' : Value} {wr wr' : World} {q2 q3 : List SnE} {bs : List UInt8} {ns : List Int} {bv tv : Value} (h : NumMem q B av w u a wr q2 bs ns bv tv) (hs : StsAt wr' B a' q3) (hg : wr.grownBy wr' a.ownBlock) (hat : a'.ownBlock = a.ownBlock ∨ ∀ g, a'.ownBlock = some g → wr.heap.size ≤ g) (hfr : ∀ x ∈ q3, x ∈ q2 ∨ FreshE wr.heap.size x) : NumMem q B av w u a' wr' q3 bs ns bv tv := by
  have hne : some w.heap.size ≠ a.ownBlock := fun e => h.a_ne e.symm
  refine ⟨hs, (hg.cell_far ⟨w.heap.size, 0, none⟩ h.lt hne).trans h.c0, (hg.cell_far ⟨w.heap.size, 1, none⟩ h.lt hne).trans h.c1, (hg.cell_far ⟨w.heap.size, 2, none⟩ h.lt hne).trans h.c2, fun j => (hg.frozen_far ⟨w.heap.size, j, none⟩ h.lt hne).trans (h.fz j),
    h.bys.kept hg (own_apart h.bys h.sts.row (by decide)), h.tos.kept hg (own_apart h.tos h.sts.row (by decide)), h.bAt, h.tAt, grown_step h.grown hg ?_, ?_, h.avAt, Nat.lt_of_lt_of_le h.lt hg.size, fun x hx => ?_, fun x hx => ?_, fun x hx => ?_, by rw [hg.block _ h.lt hne]; exact h.sb⟩
  · rcases h.aAt with e | e
    · exact .inl e
    · exact .inr fun g hg' => Nat.le_of_lt (e g hg')
  · rcases hat with e | e
    · rw [e]; exact h.aAt
    · exact .inr fun g hg' => Nat.lt_of_lt_of_le h.lt (e g hg')
  · rcases hfr x hx with e | e
    · exact h.apB x e
    · exact ap_of e.1 fun g e3 => (h.bys.lt g e3).2
  · rcases hfr x hx with e | e
    · exact h.apT x e
    · exact ap_of e.2 fun g e3 => (h.tos.lt g e3).2
  · rcases hfr x hx with e | e
    · exact h.fresh x e
    · exact .inr ⟨fun g hg' => Nat.le_trans (Nat.le_of_lt h.lt) (e.1 g hg'), fun g hg' => Nat.le_trans (Nat.le_of_lt h.lt) (e.2 g hg')⟩
theorem setCell_typed {w : World} {k : Nat} {cs : Array Value} {t : TypeId} (h : w.heap[k]? = some (.cells cs t (0, 0))) (o : Nat) (v : Value) : ∃ cs', (w.setCell ⟨k, o, none⟩ v).heap[k]? = some (.cells cs' t (0, 0)) :=
  ⟨_, heap_setCell_same w k o cs t v h⟩
/-- Behind a byte more. -/
theorem NumMem.pushB {q : List SnE} {B : Nat} {av : Value} {w : World} {u : List UInt8} {a : Value} {wr w7 : World} {q2 : List SnE} {bs : List UInt8} {ns : List Int} {bv tv : Value} (h : NumMem q B av w u a wr q2 bs ns bv tv) {o : Obj} {g cap m : Nat} {x : UInt8} (hown : w7.ownsRow B 5 1 (.slice (some ⟨g, 0, none⟩) m cap) m (byV bs ++ [.int .u8 x.toNat])) (hg : (wr.alloc o).grownBy w7 bv.ownBlock) (hat : bv.ownBlock = some g ∨ g = wr.heap.size + 1) (hm : m = bs.length + 1) : NumMem q B av w u a (w7.setCell ⟨w.heap.size, 1, none⟩ (.slice (some ⟨g, 0, none⟩) m cap)) q2 (bs ++ [x]) ns (.slice (some ⟨g, 0, none⟩) m cap) tv := by
  have hg2 : wr.grownBy w7 bv.ownBlock := (World.grownBy_alloc wr o _).trans hg
  have hne : some w.heap.size ≠ bv.ownBlock := fun e => by have := h.bAt _ e.symm; omega
  have hgg : w.heap.size < g := by
    rcases hat with e | e
    · exact h.bAt _ e
    · have := h.lt; omega
  have hset := grown_setCell w7 w.heap.size 1 (.slice (some ⟨g, 0, none⟩) m cap)
  have hrow := (h.sts.row.kept hg2 (own_apart h.sts.row h.bys (by decide))).kept hset (.inr h.a_ne)
  have hcv : w7.cell? ⟨w.heap.size, 1, none⟩ = some bv := (hg2.cell_far ⟨w.heap.size, 1, none⟩ h.lt hne).trans h.c1
  have hlow : ∀ (y : Value) (e : TypeId) (n : Nat) (xs : List Value), w7.ownsRow B e 1 y n xs → (y.ownBlock ≠ some w.heap.size) → (w7.setCell ⟨w.heap.size, 1, none⟩ (.slice (some ⟨g, 0, none⟩) m cap)).ownsRow B e 1 y n xs := fun y e n xs hy hyn => hy.kept hset (.inr hyn)
  have hsE : ∀ (y : Value) (e : TypeId) (n : Nat) (xs : List Value), wr.ownsRow B e 1 y n xs → e ≠ 280 → y.ownBlock ≠ some w.heap.size := by
    intro y e n xs hy hne2 hyb
    rcases hy.2 with ⟨rfl, _⟩ | ⟨gy, capy, cur, rfl, _, hgy, _⟩
    · simp [Value.ownBlock] at hyb
    · simp only [Value.ownBlock, Option.some.injEq] at hyb
      subst hyb
      have := h.sb
      rw [hgy] at this
      obtain ⟨cs, hh⟩ := this
      simp only [Option.some.injEq, Obj.cells.injEq] at hh
      exact hne2 hh.2.1
  refine ⟨⟨hrow, fun x hx => ?_, fun x hx => ?_⟩, (World.cell?_setCell_other _ _ _ _ (by simp)).trans ((hg2.cell_far ⟨w.heap.size, 0, none⟩ h.lt hne).trans h.c0), World.cell?_setCell_same _ _ _ hcv, (World.cell?_setCell_other _ _ _ _ (by simp)).trans ((hg2.cell_far ⟨w.heap.size, 2, none⟩ h.lt hne).trans h.c2), fun j => by rw [World.frozen?_setCell]; exact (hg2.frozen_far ⟨w.heap.size, j, none⟩ h.lt hne).trans (h.fz j), ?_, ?_, ?_, ?_, ?_, h.aAt, h.avAt, ?_, ?_, ?_, h.fresh, ?_⟩
  · exact hlow _ _ _ _ ((h.sts.bys x hx).kept hg2 (h.apB x hx)) (hsE _ _ _ _ (h.sts.bys x hx) (by decide))
  · exact hlow _ _ _ _ ((h.sts.tos x hx).kept hg2 (own_apart (h.sts.tos x hx) h.bys (by decide))) (hsE _ _ _ _ (h.sts.tos x hx) (by decide))
  · have : w7.ownsRow B 5 1 (.slice (some ⟨g, 0, none⟩) m cap) (bs ++ [x]).length (byV (bs ++ [x])) := by
      rw [List.length_append, List.length_singleton, ← hm, byV_app]
      exact hown
    refine this.kept hset (.inr ?_)
    simp only [Value.ownBlock, ne_eq, Option.some.injEq]
    omega
  · exact hlow _ _ _ _ (h.tos.kept hg2 (own_apart h.tos h.bys (by decide))) (hsE _ _ _ _ h.tos (by decide))
  · intro g' e
    simp only [Value.ownBlock, Option.some.injEq] at e
    omega
  · exact h.tAt
  · exact grown_step (grown_step h.grown hg2 (.inr fun g' e => Nat.le_of_lt (h.bAt g' e))) hset (.inr fun g' e => by simp only [Option.some.injEq] at e; omega)
  · rw [World.size_setCell]; exact Nat.lt_of_lt_of_le h.lt hg2.size
  · intro x hx
    rcases hat with e | e
    · have := h.apB x hx
      rw [e] at this
      exact this
    · refine .inr fun e2 => ?_
      simp only [Value.ownBlock] at e2
      have := ((h.sts.bys x hx).lt g e2).2
      omega
  · exact h.apT
  · obtain ⟨cs, hh⟩ := h.sb
    have h1 : w7.heap[w.heap.size]? = some (.cells cs 280 (0, 0)) := (hg2.block _ h.lt hne).trans hh
    exact setCell_typed h1 _ _
/-- Behind a number more. -/
theorem NumMem.pushN {q : List SnE} {B : Nat} {av : Value} {w : World} {u : List UInt8} {a : Value} {wr w7 : World} {q2 : List SnE} {bs : List UInt8} {ns : List Int} {bv tv : Value} (h : NumMem q B av w u a wr q2 bs ns bv tv) {o : Obj} {g cap m : Nat} {x : Int} (hown : w7.ownsRow B 3 1 (.slice (some ⟨g, 0, none⟩) m cap) m (inV ns ++ [.int .i64 x])) (hg : (wr.alloc o).grownBy w7 tv.ownBlock) (hat : tv.ownBlock = some g ∨ g = wr.heap.size + 1) (hm : m = ns.length + 1) : NumMem q B av w u a (w7.setCell ⟨w.heap.size, 2, none⟩ (.slice (some ⟨g, 0, none⟩) m cap)) q2 bs (ns ++ [x]) bv (.slice (some ⟨g, 0, none⟩) m cap) := by
  have hg2 : wr.grownBy w7 tv.ownBlock := (World.grownBy_alloc wr o _).trans hg
  have hne : some w.heap.size ≠ tv.ownBlock := fun e => by have := h.tAt _ e.symm; omega
  have hgg : w.heap.size < g := by
    rcases hat with e | e
    · exact h.tAt _ e
    · have := h.lt; omega
  have hset := grown_setCell w7 w.heap.size 2 (.slice (some ⟨g, 0, none⟩) m cap)
  have hrow := (h.sts.row.kept hg2 (own_apart h.sts.row h.tos (by decide))).kept hset (.inr h.a_ne)
  have hcv : w7.cell? ⟨w.heap.size, 2, none⟩ = some tv := (hg2.cell_far ⟨w.heap.size, 2, none⟩ h.lt hne).trans h.c2
  have hlow : ∀ (y : Value) (e : TypeId) (n : Nat) (xs : List Value), w7.ownsRow B e 1 y n xs → (y.ownBlock ≠ some w.heap.size) → (w7.setCell ⟨w.heap.size, 2, none⟩ (.slice (some ⟨g, 0, none⟩) m cap)).ownsRow B e 1 y n xs := fun y e n xs hy hyn => hy.kept hset (.inr hyn)
  have hsE : ∀ (y : Value) (e : TypeId) (n : Nat) (xs : List Value), wr.ownsRow B e 1 y n xs → e ≠ 280 → y.ownBlock ≠ some w.heap.size := by
    intro y e n xs hy hne2 hyb
    rcases hy.2 with ⟨rfl, _⟩ | ⟨gy, capy, cur, rfl, _, hgy, _⟩
    · simp [Value.ownBlock] at hyb
    · simp only [Value.ownBlock, Option.some.injEq] at hyb
      subst hyb
      have := h.sb
      rw [hgy] at this
      obtain ⟨cs, hh⟩ := this
      simp only [Option.some.injEq, Obj.cells.injEq] at hh
      exact hne2 hh.2.1
  refine ⟨⟨hrow, fun x hx => ?_, fun x hx => ?_⟩, (World.cell?_setCell_other _ _ _ _ (by simp)).trans ((hg2.cell_far ⟨w.heap.size, 0, none⟩ h.lt hne).trans h.c0), (World.cell?_setCell_other _ _ _ _ (by simp)).trans ((hg2.cell_far ⟨w.heap.size, 1, none⟩ h.lt hne).trans h.c1), World.cell?_setCell_same _ _ _ hcv, fun j => by rw [World.frozen?_setCell]; exact (hg2.frozen_far ⟨w.heap.size, j, none⟩ h.lt hne).trans (h.fz j), ?_, ?_, ?_, ?_, ?_, h.aAt, h.avAt, ?_, ?_, ?_, h.fresh, ?_⟩
  · exact hlow _ _ _ _ ((h.sts.bys x hx).kept hg2 (own_apart (h.sts.bys x hx) h.tos (by decide))) (hsE _ _ _ _ (h.sts.bys x hx) (by decide))
  · exact hlow _ _ _ _ ((h.sts.tos x hx).kept hg2 (h.apT x hx)) (hsE _ _ _ _ (h.sts.tos x hx) (by decide))
  · exact hlow _ _ _ _ (h.bys.kept hg2 (own_apart h.bys h.tos (by decide))) (hsE _ _ _ _ h.bys (by decide))
  · have : w7.ownsRow B 3 1 (.slice (some ⟨g, 0, none⟩) m cap) (ns ++ [x]).length (inV (ns ++ [x])) := by
      rw [List.length_append, List.length_singleton, ← hm, inV_app]
      exact hown
    refine this.kept hset (.inr ?_)
    simp only [Value.ownBlock, ne_eq, Option.some.injEq]
    omega
  · exact h.bAt
  · intro g' e
    simp only [Value.ownBlock, Option.some.injEq] at e
    omega
  · exact grown_step (grown_step h.grown hg2 (.inr fun g' e => Nat.le_of_lt (h.tAt g' e))) hset (.inr fun g' e => by simp only [Option.some.injEq] at e; omega)
  · rw [World.size_setCell]; exact Nat.lt_of_lt_of_le h.lt hg2.size
  · exact h.apB
  · intro x hx
    rcases hat with e | e
    · have := h.apT x hx
      rw [e] at this
      exact this
    · refine .inr fun e2 => ?_
      simp only [Value.ownBlock] at e2
      have := ((h.sts.tos x hx).lt g e2).2
      omega
  · obtain ⟨cs, hh⟩ := h.sb
    have h1 : w7.heap[w.heap.size]? = some (.cells cs 280 (0, 0)) := (hg2.block _ h.lt hne).trans hh
    exact setCell_typed h1 _ _
end Go.Proofs.YtgohllfpceeboaaGreatDoor
namespace Go.Proofs.YtgohllfpceeboaaGreatDoor
open Go.RowKit
theorem Tryz.info222 : (Tryz.prog.info? 222).map (fun i => (i.zero, i.size, i.bytes)) = some (some (.agg #[.slice none 0 0, .int .u8 0, .int .u8 0]), 3, 32) := by kernel_rfl
/-- A rule as it lies: the row of its host; the rule. -/
abbrev RlE := Value × Sx.Rl
def rlV (q : List RlE) : List Value := q.flatMap fun x => [x.1, Value.int .u8 x.2.2.1.toNat, Value.int .u8 x.2.2.2.toNat]
structure RlsAt (w : World) (B : Nat) (v : Value) (q : List RlE) : Prop where
  row : w.ownsRow B 222 3 v q.length (rlV q)
  hosts : ∀ x ∈ q, w.ownsRow B 9 1 x.1 x.2.1.length (stV x.2.1)
theorem RlsAt.below {w w' : World} {B : Nat} {v : Value} {q : List RlE} (h : RlsAt w B v q) (hb : Below w.heap.size w w') : RlsAt w' B v q := ⟨own_later h.row hb, fun x hx => own_later (h.hosts x hx) hb⟩
theorem rlV_app (a b : List RlE) : rlV (a ++ b) = rlV a ++ rlV b := by simp [rlV]
theorem rlV_get : ∀ (q : List RlE) (j : Nat) (h : j < q.length), (rlV q)[j * 3]? = some q[j].1 ∧ (rlV q)[j * 3 + 1]? = some (.int .u8 q[j].2.2.1.toNat) ∧ (rlV q)[j * 3 + 2]? = some (.int .u8 q[j].2.2.2.toNat) := by
  intro q
  induction q with
  | nil => intro j h; exact absurd h (Nat.not_lt_zero _)
  | cons x r ih =>
    intro j h
    have e : rlV (x :: r) = x.1 :: Value.int .u8 x.2.2.1.toNat :: Value.int .u8 x.2.2.2.toNat :: rlV r := rfl
    cases j with
    | zero => rw [e]; exact ⟨rfl, rfl, rfl⟩
    | succ j =>
      have := ih j (by simpa using h)
      rw [e, show (j + 1) * 3 = j * 3 + 1 + 1 + 1 from by omega]
      simpa using this
theorem RlsAt.cells {w : World} {B g cap : Nat} {q : List RlE} (h : RlsAt w B (.slice (some ⟨g, 0, none⟩) q.length cap) q) (j : Nat) (hj : j < q.length) : w.cell? ⟨g, j * 3, none⟩ = some q[j].1 ∧ w.cell? ⟨g, j * 3 + 1, none⟩ = some (.int .u8 q[j].2.2.1.toNat) ∧ w.cell? ⟨g, j * 3 + 2, none⟩ = some (.int .u8 q[j].2.2.2.toNat) := by
  obtain ⟨a1, a2, a3⟩ := rlV_get q j hj
  have c1 := h.row.cells (g := g) rfl _ _ a1
  have c2 := h.row.cells (g := g) rfl _ _ a2
  have c3 := h.row.cells (g := g) rfl _ _ a3
  rw [Addr.add_lit, Nat.zero_add] at c1 c2 c3
  exact ⟨c1, c2, c3⟩
theorem keys_take (q : List RlE) (k : Nat) (h : k < q.length) : (q.take (k + 1)).map (fun x => Sx.rlKey x.2) = (q.take k).map (fun x => Sx.rlKey x.2) ++ [Sx.rlKey q[k].2] := by
  rw [List.take_succ_eq_append_getElem h, List.map_append]; rfl
theorem allLen_ge (h : List (List UInt8)) (x : List UInt8) (hx : x ∈ h) : x.length ≤ Sx.allLen h := by
  induction h with
  | nil => cases hx
  | cons y r ih =>
    have e : Sx.allLen (y :: r) = y.length + 1 + Sx.allLen r := by simp [Sx.allLen]
    rcases List.mem_cons.1 hx with rfl | hx
    · omega
    · have := ih hx; omega
end Go.Proofs.YtgohllfpceeboaaGreatDoor
namespace Go.Proofs.YtgohllfpceeboaaGreatDoor
open Go.RowKit Go.Shelf
attribute [local go_sem] Oper.semAt_some
theorem lastTo_no (x : List UInt8) (c : UInt8) (h : ∀ b ∈ x, b ≠ c) : ∀ k, k ≤ x.length → lastTo x c k = -1 := by
  intro k
  induction k with
  | zero => intro _; rfl
  | succ k ih =>
    intro hk
    have hg : x.getD k 0 = x[k]'(by omega) := by simp [List.getD_eq_getElem?_getD, List.getElem?_eq_getElem (show k < x.length by omega)]
    simp only [lastTo]
    rw [if_neg (by rw [hg]; exact h _ (List.getElem_mem _)), ih (by omega)]
theorem lastTo_at (d x : List UInt8) (c : UInt8) (h : ∀ b ∈ x, b ≠ c) : ∀ j, j ≤ x.length → lastTo (d ++ c :: x) c (d.length + 1 + j) = d.length := by
  intro j
  induction j with
  | zero =>
    intro _
    simp only [lastTo]
    rw [if_pos (by simp)]
  | succ j ih =>
    intro hj
    have hg : (d ++ c :: x).getD (d.length + 1 + j) 0 = x[j]'(by omega) := by
      rw [List.getD_eq_getElem?_getD, List.getElem?_append_right (by omega), show d.length + 1 + j - d.length = j + 1 from by omega, List.getElem?_cons_succ, List.getElem?_eq_getElem (by omega)]
      rfl
    rw [show d.length + 1 + (j + 1) = (d.length + 1 + j) + 1 from by omega]
    simp only [lastTo]
    rw [if_neg (by rw [hg]; exact h _ (List.getElem_mem _)), ih (by omega)]
theorem pcs_turn : ∀ (r : List (List UInt8)), r ≠ [] → (∀ x ∈ r, ∀ b ∈ x, b ≠ 46) → pcs (Sx.dotted r.reverse) = r := by
  intro r
  induction r with
  | nil => intro hn; exact absurd rfl hn
  | cons x r ih =>
    intro hn hx
    rw [List.reverse_cons, Sx.dotted_snoc]
    have hx0 := hx x (by simp)
    by_cases hr : r = []
    · subst hr
      rw [if_pos (by simp)]
      exact pcs_last x (by unfold dotAt; rw [lastTo_no x 46 hx0 _ (Nat.le_refl _)]; omega)
    · rw [if_neg (by simpa using hr)]
      have hd : dotAt (Sx.dotted r.reverse ++ 46 :: x) = (Sx.dotted r.reverse).length := by
        unfold dotAt
        rw [List.length_append, List.length_cons, show (Sx.dotted r.reverse).length + (x.length + 1) = (Sx.dotted r.reverse).length + 1 + x.length from by omega]
        exact lastTo_at _ x 46 hx0 _ (Nat.le_refl _)
      rw [pcs_more _ (by rw [hd]; omega), hd]
      rw [show (((Sx.dotted r.reverse).length : Int) + 1).toNat = (Sx.dotted r.reverse).length + 1 from by omega, Int.toNat_natCast, List.take_left' rfl, ih hr (fun y hy => hx y (by simp [hy]))]
      rw [show Sx.dotted r.reverse ++ 46 :: x = (Sx.dotted r.reverse ++ [46]) ++ x from by simp, List.drop_left' (by simp)]
/-- The pieces of labels with dots between them are those labels, from the right. -/
theorem pcs_dotted (h : List (List UInt8)) (hn : h ≠ []) (hx : ∀ x ∈ h, ∀ b ∈ x, b ≠ 46) : pcs (Sx.dotted h) = h.reverse := by
  have := pcs_turn h.reverse (by simpa using hn) (fun x hm => hx x (List.mem_reverse.1 hm))
  rw [List.reverse_reverse] at this
  exact this
theorem pcs_len (r : List UInt8) : (pcs r).length ≤ r.length + 1 := by
  have : ∀ f r, (pcsF f r).length ≤ f + 1 := by
    intro f
    induction f with
    | zero => intro r; simp [pcsF]
    | succ f ih =>
      intro r
      simp only [pcsF]
      split
      · simp
      · have := ih (r.take (dotAt r).toNat)
        simp only [List.length_cons]
        omega
  exact this _ _
theorem own_low {w : World} {B B' n sz : Nat} {e : TypeId} {v : Value} {xs : List Value} (h : w.ownsRow B e sz v n xs) (hB : B' ≤ B) : w.ownsRow B' e sz v n xs := by
  refine ⟨h.1, ?_⟩
  rcases h.2 with h2 | ⟨g, cap, cur, h1, h2, h3⟩
  · exact .inl h2
  · exact .inr ⟨g, cap, cur, h1, Nat.le_trans hB h2, h3⟩
/-- Where the gathering of labels stands, behind k of them. -/
structure ColAt (P : List (List UInt8)) (w : World) (b : Nat) (k : Nat) (W : World) : Prop where
  kP : k ≤ P.length
  row : ∃ v, Boxed W b 34 v ∧ W.ownsRow (b + 1) 9 1 v k (stV (P.take k))
  bel : Below w.heap.size w W
  siz : b + 1 ≤ W.heap.size
theorem ColAt.own {P : List (List UInt8)} {w : World} {b C : Nat} (hC : w.heap.size ≤ C) : OwnFrom C (ColAt P w b) := by
  intro k W W' row h hg hr
  obtain ⟨a1, ⟨v, a4, a5⟩, a8, a9⟩ := h
  have hne : ∀ {b : Nat} {t : TypeId} {v : Value}, Boxed W b t v → some b ≠ row := fun hb e => by
    obtain ⟨_, o, ho, hc⟩ := hr _ e.symm
    exact box_ne hb ho hc rfl
  exact ⟨a1, ⟨v, a4.kept hg (hne a4), own_kept_off a5 hg (fun r e => (hr r e).2)⟩, a8.grown hg a8.size (fun r e => by have := (hr r e).1; omega), Nat.le_trans a9 hg.size⟩
set_option maxRecDepth 100000 in
set_option maxHeartbeats 1000000 in
/-- slices.AppendSeq of a host's labels, upon nothing -/
theorem pseq (s : ByteArray) (w : World) (P : List (List UInt8)) (hs : s.size ≤ 1000) (hP : P = pcs s.data.toList) :
    Calls Tryz.prog 229 #[.slice none 0 0, .func (.func 111) #[.string s] #[]] w fun e w' => ∃ v, e = .returned v ∧ w'.ownsRow w.heap.size 9 1 v P.length (stV P) ∧ Below w.heap.size w w' := by
  refine (callsIn_wide (n := 10)).1 ?_
  refine callsIn_of_wp_marks Tryz.func229 rfl trivial ?_ rfl
  simp only [Tryz.ntmps229, List.size_toArray, List.length_cons, List.length_nil, Nat.reduceAdd, Nat.reduceSub, Array.replicate_succ, Array.replicate_zero, List.push_toArray, List.append_toArray, List.nil_append, List.cons_append]
  obtain ⟨i0, hi, hz0, hz1, hz2⟩ := info_parts Tryz.info9
  have HP := hide hP
  have hB3 : Below w.heap.size w (w.alloc (.cells #[.slice none 0 0] 34)) := (Below.refl _ _).alloc (Nat.le_refl _) _
  have hy4 := Boxed.new w 34 (.slice none 0 0)
  have hsz3 : w.heap.size + 1 ≤ (w.alloc (.cells #[.slice none 0 0] 34)).heap.size := by rw [World.size_alloc]; exact Nat.le_refl _
  obtain ⟨b, hb⟩ : ∃ b, w.heap.size = b := ⟨_, rfl⟩
  obtain ⟨W3, hW3⟩ : ∃ W3, w.alloc (.cells #[.slice none 0 0] 34) = W3 := ⟨_, rfl⟩
  have HI0 : Hid (ColAt P w b 0 W3) := hide ⟨by omega, ⟨.slice none 0 0, by rw [← hW3, ← hb]; exact hy4, World.ownsRow_nil _ _ _ _⟩, by rw [← hW3]; exact hB3, by rw [← hW3, ← hb]; exact hsz3⟩
  have hw3 : w.heap.size ≤ W3.heap.size := by rw [← hW3]; exact hB3.size
  have HB := hide hb
  have HW3 := hide hW3
  clear hP hB3 hy4 hsz3 hb hW3
  gi_wp2
  rw [HW3.out, HB.out]
  refine range_labs 10 (by omega) (by omega) s hs (.tmp 6) rfl P HP.out rfl (ColAt P w b) (fun _ => False) (ColAt.own hw3) (fun _ _ _ _ h => h.elim) HI0.out
    (fun x => { tmps := #[Value.slice none 0 0, Value.func (Fn.func 111) #[Value.string s] #[], Value.pointer (some ⟨b, 0, none⟩), undef, Value.slice none 0 0, .string x, Value.func (Fn.func 111) #[Value.string s] #[], .string x, undef, undef, undef, undef, undef], defers := [] }) ?assign ?body ?done ?stop
  case assign =>
    intro l x W K hK
    gi_wp2
    exact hK
  case body =>
    rintro l k hk W ⟨kP, ⟨v, bv, hown⟩, bel, siz⟩
    obtain ⟨vp, vc, rfl⟩ := own_shape hown
    have c4 := (Boxed.alloc bv (.cells #[.string ⟨P[k].toArray⟩] 9)).cell
    have hkl : k ≤ 1000000 := by have := pcs_len s.data.toList; rw [← HP.out, ba_len] at this; omega
    obtain ⟨X, hX⟩ : ∃ X : ByteArray, ⟨P[k].toArray⟩ = X := ⟨_, rfl⟩
    rw [hX] at c4 ⊢
    have d4 := bv.cell
    have hbw : w.heap.size ≤ b := by rw [HB.out]; exact Nat.le_refl _
    gi_wp2_with (gi_at_builtin; refine wpListIn_append_own _ rfl _ _ _ rfl (b + 1) 9 i0 (.string ⟨#[]⟩) 1 16 Tryz.underlying34 hi hz0 hz1 hz2 rfl (by decide) _ _ _ rfl (hown.alloc _) ⟨_, 0, none⟩ 1 1 [.string X] rfl rfl ?_ ?_ ?_ ?_ ?_ ?_)
    · exact cell_one_new _ _ _
    · simp [Value.oneCell']
    · unfold maxLen; omega
    · omega
    · rw [World.size_alloc]; omega
    · intro v' w8 hown8 hgrow8 _
      obtain ⟨g', cap', rfl⟩ := ownsRow_succ hown8
      have s4 : Boxed w8 b 34 (.slice vp k vc) := (bv.alloc _).kept hgrow8 (Boxed.not_row bv (by decide) hown)
      have f4 := s4.cell
      have f5 := s4.frozen
      gi_wp2
      have hKO8 : KeepsOthers W w8 := (KeepsOthers.alloc _ _).trans (KeepsOthers.of_grownBy hgrow8 (fun j o e ho => by
        rcases (hown.alloc (.cells #[.string X] 9)).2 with ⟨h1, _⟩ | ⟨g, cap, cur, h1, h2, h3, h4⟩
        · rw [h1] at e; cases e
        · rw [h1] at e
          cases e
          rw [h3] at ho
          cases ho
          rfl))
      have hBe8 : Below w.heap.size w w8 := (bel.alloc bel.size _).grown hgrow8 (by rw [World.size_alloc]; exact Nat.le_succ_of_le bel.size) (fun q e => by have := (hown.lt q e).1; omega)
      have htk : P.take (k + 1) = P.take k ++ [P[k]] := List.take_succ_eq_append_getElem hk
      refine ⟨(hKO8.trans (KeepsOthers.setCell _ _ _)).from _, ⟨hk, ⟨_, s4.set _, ?_⟩, hBe8.setCell (p := ⟨b, 0, none⟩) hbw _, ?_⟩⟩
      · rw [htk, stV_app]
        have e : stV [P[k]] = [.string X] := by unfold stV; rw [List.map_cons, List.map_nil, hX]
        rw [e]
        exact hown8.kept (grownBy_setCell' w8 b _) (.inr (fun e => by have := (hown8.lt b e).1; omega))
      · have h1 := hgrow8.size
        rw [World.size_alloc] at h1
        rw [World.size_setCell]
        omega
  case done =>
    rintro D W hD ⟨_, ⟨v, bv, hown⟩, bel, siz⟩ hK
    rw [List.take_length] at hown
    obtain ⟨vp, vc, rfl⟩ := own_shape hown
    have d4 := bv.cell
    gi_wp2
    refine ⟨by simp, .inl ⟨_, _, rfl, run_takeDeferred hK, ?_⟩⟩
    have hbw : w.heap.size ≤ b := by rw [HB.out]; exact Nat.le_refl _
    refine ⟨.slice vp P.length vc, by simp [results, Tryz.results229, go_sem], _, rfl, ?_, ?_⟩
    · refine own_low (hown.kept (grownBy_putObj' W D (.deferred none)) ?_) (by omega)
      rcases hown.2 with ⟨h1, _⟩ | ⟨g, cap, cur, h1, h2, h3, h4⟩
      · exact .inl (by rw [h1]; rfl)
      · refine .inr (fun e => ?_)
        rw [h1] at e
        cases e
        rw [h3] at hK
        cases hK
    · exact bel.grown (grownBy_putObj' W D (.deferred none)) bel.size (fun q e => by cases e; omega)
  case stop =>
    rintro D W hD h
    exact h.elim
/-- slices.Collect of a host's labels -/
theorem pcol (s : ByteArray) (w : World) (P : List (List UInt8)) (hs : s.size ≤ 1000) (hP : P = pcs s.data.toList) :
    Calls Tryz.prog 183 #[.func (.func 111) #[.string s] #[]] w fun e w' => ∃ v, e = .returned v ∧ w'.ownsRow w.heap.size 9 1 v P.length (stV P) ∧ Below w.heap.size w w' := by
  have HS := hide (pseq s w P hs hP)
  clear hs hP
  go_enter Tryz.func183, Tryz.ntmps183
  go_wp2_with fail
  refine HS.out.mono ?_
  rintro e w1 ⟨v, rfl, hown, hB⟩
  obtain ⟨vp, vc, rfl⟩ := own_shape hown
  go_wp2
  go_ret
  exact ⟨_, rfl, hown, hB⟩
theorem join_dot (P : List (List UInt8)) : Lib.join P [46] = Sx.dotted P := by
  cases P with
  | nil => rfl
  | cons x r =>
    rw [Lib.join_cons]
    show x ++ (r.map ([46] ++ ·)).flatten = x ++ r.flatMap fun y => 46 :: y
    rw [List.flatMap_def]
    rfl
theorem pcsF_le : ∀ (f : Nat) (r : List UInt8), ∀ x ∈ pcsF f r, x.length ≤ r.length := by
  intro f
  induction f with
  | zero => intro r x hx; simp only [pcsF, List.mem_singleton] at hx; rw [hx]; exact Nat.le_refl _
  | succ f ih =>
    intro r x hx
    simp only [pcsF] at hx
    split at hx
    · rw [List.mem_singleton.1 hx]; exact Nat.le_refl _
    · rcases List.mem_cons.1 hx with rfl | hx
      · rw [List.length_drop]; omega
      · have := ih _ x hx
        rw [List.length_take] at this
        omega
theorem dots_lenP (M : Nat) : ∀ (q : List (List UInt8)), (∀ x ∈ q, x.length ≤ M) → (q.flatMap fun y => 46 :: y).length ≤ q.length * (M + 1)
  | [], _ => by simp
  | x :: q, h => by
    have h1 := h x (by simp)
    have h2 := dots_lenP M q (fun y hy => h y (by simp [hy]))
    rw [List.flatMap_cons, List.length_append, List.length_cons, List.length_cons, Nat.succ_mul]
    omega
theorem dot_lenP (h : List (List UInt8)) (M : Nat) (hx : ∀ x ∈ h, x.length ≤ M) : (Sx.dotted h).length ≤ h.length * (M + 1) := by
  cases h with
  | nil => simp [Sx.dotted]
  | cons x q =>
    have h1 := hx x (by simp)
    have h2 := dots_lenP M q (fun y hy => hx y (by simp [hy]))
    simp only [Sx.dotted, List.length_append, List.length_cons, Nat.succ_mul]
    omega
theorem stV_at (P : List (List UInt8)) (j : Nat) (x : ByteArray) (h : (P.map fun p => (⟨p.toArray⟩ : ByteArray))[j]? = some x) : (stV P)[j]? = some (.string x) := by
  unfold stV
  rw [List.getElem?_map] at h ⊢
  cases hp : P[j]? with
  | none => rw [hp] at h; cases h
  | some p => rw [hp] at h; simp only [Option.map_some, Option.some.injEq] at h ⊢; rw [h]
set_option maxHeartbeats 1000000 in
/-- (suffix.host).turned -/
theorem pturn (s : ByteArray) (w : World) (P : List (List UInt8)) (hs : s.size ≤ 1000) (hP : P = pcs s.data.toList) :
    Calls Tryz.prog 132 #[.string s] w fun e w' => e = .returned (.string ⟨(Sx.dotted P).toArray⟩) ∧ Below w.heap.size w w' := by
  have HS := hide (pcol s w P hs hP)
  have hPl : P.length ≤ 1001 := by have := pcs_len s.data.toList; rw [← hP, ba_len] at this; omega
  have hP0 : 0 < P.length := by
    rw [hP]; unfold pcs
    cases s.data.toList.length with
    | zero => simp [pcsF]
    | succ m => simp only [pcsF]; split <;> simp
  have hdl : (Sx.dotted P).length ≤ 10000000 := by
    have h1 := dot_lenP P 1000 (fun x hx => by rw [hP] at hx; have := pcsF_le _ _ x hx; rw [ba_len] at this; omega)
    have h2 : P.length * (1000 + 1) ≤ 1001 * 1001 := Nat.mul_le_mul_right _ hPl
    omega
  clear hP hs
  go_enter Tryz.func132, Tryz.ntmps132
  go_wp2_with fail
  refine HS.out.mono ?_
  rintro e w1 ⟨v, rfl, hown, hB⟩
  obtain ⟨g, cap, hv, hgB, hgl⟩ : ∃ g cap, v = .slice (some ⟨g, 0, none⟩) P.length cap ∧ P.length ≤ cap ∧ g < w1.heap.size := by
    rcases hown.2 with ⟨_, h2⟩ | ⟨g, cap, cur, h1, h2, h3, h4, _⟩
    · omega
    · exact ⟨g, cap, h1, h4, (Array.getElem?_eq_some_iff.1 h3).1⟩
  subst hv
  have hmm : (P.map fun p => (⟨p.toArray⟩ : ByteArray)).map (·.data.toList) = P := by rw [List.map_map]; exact List.map_id _
  have hj := Tryz.strings_Join g 0 cap (P.map fun p => (⟨p.toArray⟩ : ByteArray)) ⟨#[46]⟩ w1 (fun j x hx => by
    have := hown.cells (g := g) rfl _ _ (stV_at P j x hx)
    rw [Addr.add_lit] at this
    exact this) hgl (by rw [List.length_map]; omega) (by rw [List.length_map]; exact hgB) (by rw [hmm]; show (Lib.join P [46]).length ≤ _; rw [join_dot]; omega)
  rw [hmm, show (⟨#[46]⟩ : ByteArray).data.toList = [46] from rfl, join_dot, List.length_map] at hj
  have HJ := hide hj
  clear hj
  go_wp2_with fail
  refine HJ.out.mono ?_
  rintro e w2 ⟨rfl, hB2⟩
  have hBe := hB.trans (hB2.mono hB.size)
  clear hB hB2 hown HJ
  go_wp2
  go_ret
  exact ⟨rfl, hBe⟩
theorem conv2 {W : World} {b : Nat} {x y : UInt8} (h : W.heap[b]? = some (.cells #[.int .u8 x.toNat, .int .u8 y.toNat] 5 (0, 0))) : (convert 58 9 (.slice (some ⟨b, 0, none⟩) 2 2)).run Tryz.prog W = .ok (.string ⟨[x, y].toArray⟩) W := by
  refine own_string (B := 0) (n := 2) (bs := [x, y]) ⟨by simp [byV], .inr ⟨b, 2, _, rfl, Nat.zero_le _, h, by omega, by unfold maxLen; omega, rfl, rfl⟩⟩
theorem key_held {w w' w1 : World} {o : Obj} (hB : Below w'.heap.size w' w1) (h : Below (w.heap.size + 1) (w.alloc o) w') : Below (w.heap.size + 1) (w.alloc o) w1 := h.trans (hB.mono (by have := h.size; rw [World.size_alloc] at this; exact this))
theorem key_end {w w1 : World} {o : Obj} (h : Below (w.heap.size + 1) (w.alloc o) w1) : Below w.heap.size w w1 := ((Below.refl _ w).alloc (Nat.le_refl _) o).trans (h.mono (Nat.le_succ _))
theorem blk2 (w : World) (o o2 : Obj) : ((w.alloc o).alloc o2).drew.heap[w.heap.size + 1]? = some o2 := by
  have := heap_alloc_new (w.alloc o) o2
  rw [World.size_alloc] at this
  exact this
theorem conv_later {w w1 : World} {o : Obj} {x y : UInt8} (hB : Below ((w.alloc o).alloc (.cells #[.int .u8 x.toNat, .int .u8 y.toNat] 5)).drew.heap.size ((w.alloc o).alloc (.cells #[.int .u8 x.toNat, .int .u8 y.toNat] 5)).drew w1) : (convert 58 9 (.slice (some ⟨w.heap.size + 1, 0, none⟩) 2 2)).run Tryz.prog w1 = .ok (.string ⟨[x, y].toArray⟩) w1 :=
  conv2 ((hB.block _ (by show _ < ((w.alloc o).alloc _).heap.size; rw [World.size_alloc, World.size_alloc]; omega)).trans (blk2 w o _))
set_option maxRecDepth 100000 in
set_option maxHeartbeats 1000000 in
/-- (suffix.rule).key -/
theorem pkey (r : Sx.Rl) (w : World) (hr : Sx.RlOk r) : Calls Tryz.prog 77 #[ruA r] w fun e w' => e = .returned (.string ⟨(Sx.rlKey r).toArray⟩) ∧ Below w.heap.size w w' := by
  obtain ⟨h, k, sc⟩ := r
  have hpd := pcs_dotted h hr.1.1 (fun x hx b hb => Sx.plB_no46 ((hr.1.2.2.2 x hx).2 b hb))
  have hdl : (Sx.dotted h).length ≤ 1000 := by
    have h1 := dot_lenP h 100 (fun x hx => by have := allLen_ge h x hx; have h9 : Sx.allLen h ≤ 61 := hr.1.2.2.1; omega)
    have h2 : h.length ≤ 6 := hr.1.2.1
    have h3 : h.length * (100 + 1) ≤ 6 * 101 := Nat.mul_le_mul_right _ h2
    omega
  unfold ruA Sx.rlKey Sx.keyOf
  dsimp only
  obtain ⟨D, hD⟩ : ∃ D : ByteArray, ⟨(Sx.dotted h).toArray⟩ = D := ⟨_, rfl⟩
  have hDl : D.data.toList = Sx.dotted h := by rw [← hD]
  have hDz : D.size ≤ 1000 := by rw [← ba_len, hDl]; exact hdl
  have ht := fun w => pturn D w h.reverse hDz (by rw [hDl, hpd])
  rw [hD]
  obtain ⟨T, hT⟩ : ∃ T, Sx.dotted h.reverse = T := ⟨_, rfl⟩
  rw [hT] at ht ⊢
  have hTl : T.length ≤ 1000 := by
    rw [← hT]
    have h1 := dot_lenP h.reverse 100 (fun x hx => by have := allLen_ge h x (List.mem_reverse.1 hx); have h9 : Sx.allLen h ≤ 61 := hr.1.2.2.1; omega)
    have h2 : h.length ≤ 6 := hr.1.2.1
    rw [List.length_reverse] at h1
    have h3 : h.length * (100 + 1) ≤ 6 * 101 := Nat.mul_le_mul_right _ h2
    omega
  have hsum : T.length + 2 ≤ 9223372036854775807 := by omega
  have hts : (⟨T.toArray⟩ : ByteArray).size = T.length := rfl
  have hks : (⟨[k, sc].toArray⟩ : ByteArray).size = 2 := rfl
  have happ := ba_app T [k, sc]
  obtain ⟨N, hN⟩ : ∃ N, h.length = N := ⟨_, rfl⟩
  rw [hN]
  have HTU := hide ht
  clear ht hT hN hD hDl hDz hdl hpd hr
  go_enter Tryz.func77, Tryz.ntmps77
  go_wp2_with fail
  have hbx0 : ∀ (x y z u : Value) (W : World), Below (w.heap.size + 1) (w.alloc (.cells #[x, y, z, u] 98)) W → W.cell? ⟨w.heap.size, 0, none⟩ = some x ∧ W.cell? ⟨w.heap.size, 1, none⟩ = some y ∧ W.cell? ⟨w.heap.size, 3, none⟩ = some u := fun x y z u W hb => by
    have := (hb.block w.heap.size (Nat.lt_succ_self _)).trans (heap_alloc_new _ _)
    obtain ⟨⟨q0, q1, q2, q3⟩, _⟩ := box4 this
    exact ⟨q0, q1, q3⟩
  have HBX := hide hbx0
  clear hbx0
  have hcn : ∀ W : World, (convert 58 9 (.slice (some ⟨W.heap.size, 0, none⟩) 2 2)).run Tryz.prog (W.alloc (.cells #[.int .u8 k.toNat, .int .u8 sc.toNat] 5)) = .ok (.string ⟨[k, sc].toArray⟩) (W.alloc (.cells #[.int .u8 k.toNat, .int .u8 sc.toNat] 5)) := fun W => conv2 (heap_alloc_new W _)
  have hcm : ∀ (W : World) (o : Obj), (convert 58 9 (.slice (some ⟨W.heap.size + 1, 0, none⟩) 2 2)).run Tryz.prog ((W.alloc o).alloc (.cells #[.int .u8 k.toNat, .int .u8 sc.toNat] 5)).drew = .ok (.string ⟨[k, sc].toArray⟩) ((W.alloc o).alloc (.cells #[.int .u8 k.toNat, .int .u8 sc.toNat] 5)).drew := fun W o => conv2 (blk2 W o _)
  go_region_held_law (fun w' => w'.cell? ⟨w.heap.size, 0, none⟩ = some (.int .u8 k.toNat) ∧ w'.cell? ⟨w.heap.size, 1, none⟩ = some (.string D) ∧ w'.cell? ⟨w.heap.size, 3, none⟩ = some (.int .u8 sc.toNat)) (first | exact hS1 | go_keep) ((go_at_call 132; refine (HTU.out _).mono ?_; rintro e w1 ⟨rfl, hB1⟩; have hb1 : Below (w.heap.size + 1) (w.alloc (.cells #[.int .u8 k.toNat, .string D, .int .i64 N, .int .u8 sc.toNat] 98)) w1 := key_held hB1 (by first | exact (Below.refl _ _).drew | exact ((Below.refl _ _).alloc (by rw [World.size_alloc]; exact Nat.le_refl _) _).drew); have hS1 := HBX.out _ _ _ _ w1 hb1; (try have hcv := conv_later hB1)))
  all_goals (go_wp2; go_ret; refine ⟨rfl, ?_⟩; first | exact key_end hb1 | exact (key_end hb1).alloc (key_end hb1).size _)
end Go.Proofs.YtgohllfpceeboaaGreatDoor
