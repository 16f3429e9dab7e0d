import Derived.Test.YtgohllfpceeboaaGreatDoorInae
import Derived.Maps.OwnSet
namespace Go.Proofs.YtgohllfpceeboaaGreatDoor
open Go.RowKit
theorem ptwo (n : Nat) (w : World) (hn : n < 65536) : Calls Tryz.prog 188 #[.int .i64 n] w fun e w' => e = .returned (.slice (some ⟨w.heap.size, 0, none⟩) 2 2) ∧ w' = w.alloc (.cells #[.int .u8 ((n : Int) / 256), .int .u8 ((n : Int) % 256)] 5) := by
 go_enter Tryz.func188, Tryz.ntmps188
 go_wp2
 go_ret
 exact ⟨rfl, rfl⟩
def EdAt (w : World) (v : Value) (es : List Sx.Edg) : Prop := ∃ p cap, v = .slice p es.length cap ∧ ∀ j (h : j < es.length), ∃ b, p = some ⟨b, 0, none⟩ ∧ b < w.heap.size ∧ w.cell? ⟨b, j * 2, none⟩ = some (.int .u8 es[j].1.toNat) ∧ w.cell? ⟨b, j * 2 + 1, none⟩ = some (.int .i64 es[j].2)
def tellP (es : List Sx.Edg) (k : Nat) : List UInt8 := UInt8.ofNat es.length :: (es.take k).flatMap fun e => e.1 :: Sx.two e.2
theorem tellP_all (es : List Sx.Edg) : tellP es es.length = Sx.tellE es := by unfold tellP Sx.tellE; rw [List.take_length]
theorem tellP_more (es : List Sx.Edg) (k : Nat) (h : k < es.length) : tellP es (k + 1) = tellP es k ++ [es[k].1] ++ Sx.two es[k].2 := by
 unfold tellP
 rw [List.take_succ_eq_append_getElem h, List.flatMap_append]
 simp
theorem tellP_len (es : List Sx.Edg) (k : Nat) (h : k ≤ es.length) : (tellP es k).length = 1 + k * 3 := by
 induction k with
 | zero => simp [tellP]
 | succ k ih =>
   rw [tellP_more es k (by omega), List.length_append, List.length_append, ih (by omega)]
   simp [Sx.two]
   omega
theorem byV_two (n : Nat) (h : n < 65536) : byV (Sx.two n) = [.int .u8 ((n : Int) / 256), .int .u8 ((n : Int) % 256)] := by
 unfold byV Sx.two
 simp only [List.map_cons, List.map_nil, UInt8.toNat_ofNat']
 rw [show ((n / 256 % 2 ^ 8 : Nat) : Int) = (n : Int) / 256 from by omega, show ((n % 256 % 2 ^ 8 : Nat) : Int) = (n : Int) % 256 from by omega]
theorem cell1_at (w : World) (x : Value) (t : TypeId) (n : Nat) (hn : w.heap.size = n) : ∀ j u, [x][j]? = some u → (w.alloc (.cells #[x] t)).cell? ((⟨n, 0, none⟩ : Addr).add j) = some u := by
 subst hn
 exact cell_one_new w x t
theorem cell2_at (w : World) (x y : Value) (t : TypeId) (n : Nat) (hn : w.heap.size = n) : ∀ (j : Nat) (u : Value), [x, y][j]? = some u → (w.alloc (.cells #[x, y] t)).cell? ((⟨n, 0, none⟩ : Addr).add j) = some u := by
 subst hn
 intro j u hj
 rw [Addr.add_lit, Nat.zero_add, World.cell?_alloc_mark]
 simpa using hj
theorem box_far {wr w6 : World} {x y z : Value} {t t2 : TypeId} {row : Option Nat} (hg : ((wr.alloc (.cells #[x, y] t)).alloc (.cells #[z] t2)).grownBy w6 row) (hne : some wr.heap.size ≠ row) : w6.cell? ⟨wr.heap.size, 1, none⟩ = some y := by
 have h1 : (wr.alloc (.cells #[x, y] t)).cell? ⟨wr.heap.size, 1, none⟩ = some y := by rw [World.cell?_alloc_mark]; rfl
 have h2 := ((Below.refl (wr.heap.size + 1) (wr.alloc (.cells #[x, y] t))).alloc (by rw [World.size_alloc]; exact Nat.le_refl _) (.cells #[z] t2)).cell (p := ⟨wr.heap.size, 1, none⟩) (Nat.lt_succ_self _)
 exact (hg.cell_far ⟨wr.heap.size, 1, none⟩ (by simp; omega) hne).trans (h2.trans h1)
set_option maxRecDepth 100000 in
set_option maxHeartbeats 1000000 in
theorem ptell (es : List Sx.Edg) (v : Value) (w : World) (hv : EdAt w v es) (hl : es.length ≤ 1000) (ht : ∀ e ∈ es, e.2 < 65536) : Calls Tryz.prog 241 #[v] w fun e w' => e = .returned (.string ⟨(Sx.tellE es).toArray⟩) ∧ Below w.heap.size w w' := by
 obtain ⟨i2, hi2, hx0, hx1, hx2⟩ := info_parts Tryz.info5
 obtain ⟨p, cap, rfl, hrd⟩ := hv
 have HRD := hide hrd
 have HT := hide ht
 clear hrd ht
 have hown0 : (w.alloc (.cells #[.int .u8 ((es.length : Int) % 256)] 5)).ownsRow w.heap.size 5 1 (.slice (some ⟨w.heap.size, 0, none⟩) 1 1) 1 (byV (tellP es 0)) := by
  refine ⟨by simp [byV, tellP], .inr ⟨w.heap.size, 1, #[.int .u8 ((es.length : Int) % 256)], rfl, Nat.le_refl _, heap_alloc_new _ _, by omega, by unfold maxLen; omega, rfl, ?_⟩⟩
  simp [byV, tellP, UInt8.toNat_ofNat']
 have HOWN := hide hown0
 clear hown0
 go_enter Tryz.func241, Tryz.ntmps241
 go_wp2
 go_loopw [3, 12] (fun tv iv wr => ∃ (k g c : Nat), iv = .int .i64 k ∧ k ≤ es.length ∧ tv = .slice (some ⟨g, 0, none⟩) (1 + k * 3) c ∧ wr.ownsRow w.heap.size 5 1 tv (1 + k * 3) (byV (tellP es k)) ∧ Below w.heap.size w wr) (fun _ iv _ => (es.length - intOf iv).toNat)
 case atStart => exact ⟨0, w.heap.size, 1, rfl, by omega, rfl, HOWN.out, (Below.refl _ _).alloc (Nat.le_refl _) _⟩
 case round =>
  obtain ⟨k, g, c, rfl, hk, rfl, hown, hB⟩ := hrel
  have hsz := hB.size
  by_cases hlt : k < es.length
  · obtain ⟨b, rfl, hb, c1, c2⟩ := HRD.out k hlt
    have d1 := (hB.cell (p := ⟨b, k * 2, none⟩) hb).trans c1
    have d2 := (hB.cell (p := ⟨b, k * 2 + 1, none⟩) hb).trans c2
    have htm := tellP_more es k hlt
    have hto := HT.out es[k] (List.getElem_mem hlt)
    obtain ⟨⟨x, t⟩, he⟩ : ∃ x, es[k] = x := ⟨_, rfl⟩
    rw [he] at d1 d2 htm hto
    dsimp only at d1 d2 htm hto
    have hb2 := byV_two t hto
    have HTM := hide htm
    have HB2 := hide hb2
    clear c1 c2 he htm hb2
    go_wp2_with (at_builtin; go_must (refine wpList_append_lies _ rfl _ _ _ rfl w.heap.size 5 i2 (.int .u8 0) 1 1 Tryz.underlying58 hi2 hx0 hx1 hx2 rfl (by decide) _ _ _ rfl ((hown.alloc _).alloc _) ⟨_, 0, none⟩ 1 1 [.int .u8 x.toNat] rfl rfl (cell1_at _ _ _ _ (by simp)) (by simp [Value.oneCell']) (by omega) (by unfold maxLen; omega) (by omega) (by simp; omega) _ rfl ?_))
    intro g6 cap6 w6 hown6 hgrow6 hat6 hlt6
    have d3 := box_far hgrow6 (show some wr.heap.size ≠ some g from fun e => by have := (hown.lt g rfl).2; cases e; omega)
    have hB6 : Below w.heap.size w w6 := below_app (hB.alloc hsz _) (by rw [World.size_alloc]; omega) (hown.alloc _) hgrow6
    have hs6 := hB6.size
    clear hgrow6 hat6 hlt6 hown d1 d2
    go_wp2_with fail
    refine (ptwo t w6 hto).mono ?_
    rintro e w7 ⟨rfl, rfl⟩
    go_wp2_with (at_builtin; go_must (refine wpList_append_lies _ rfl _ _ _ rfl w.heap.size 5 i2 (.int .u8 0) 1 1 Tryz.underlying58 hi2 hx0 hx1 hx2 rfl (by decide) _ _ _ rfl (hown6.alloc _) ⟨_, 0, none⟩ 2 2 [.int .u8 ((t : Int) / 256), .int .u8 ((t : Int) % 256)] rfl rfl (cell2_at _ _ _ _ _ rfl) (by simp [Value.oneCell']) (by omega) (by unfold maxLen; omega) (by omega) (by simp; omega) _ rfl ?_))
    intro g8 cap8 w8 hown8 hgrow8 hat8 hlt8
    have hB8 := below_app hB6 hs6 hown6 hgrow8
    have hown9 : w8.ownsRow w.heap.size 5 1 (.slice (some ⟨g8, 0, none⟩) (1 + k * 3 + 1 + 2) cap8) (1 + k * 3 + 1 + 2) (byV (tellP es (k + 1))) := by
     rw [HTM.out, byV_app, byV_app, HB2.out, List.append_assoc]
     exact hown8
    clear hown8 hgrow8 hat8 hlt8 hown6 hB6 d3
    go_wp2
    have e3 : 1 + k * 3 + 1 + 2 = 1 + (k + 1) * 3 := by omega
    rw [e3] at hown9 ⊢
    exact ⟨⟨k + 1, g8, cap8, by go_num, by omega, rfl, hown9, hB8⟩, by simp [intOf]; omega⟩
  · have hkl : k = es.length := by omega
    subst hkl
    rw [tellP_all] at hown
    have hcv := own_string hown
    have HB := hide hB
    clear hown hk hlt hB
    go_wp2
    go_ret
    exact ⟨rfl, HB.out⟩
def KyAt (w : World) (B : Nat) (v : Value) (K : List (List UInt8)) : Prop := ∃ p cap, v = .slice p K.length cap ∧ K.length ≤ cap ∧ cap ≤ maxLen ∧ ∀ j (h : j < K.length), ∃ b off, p = some ⟨b, off, none⟩ ∧ b < B ∧ w.cell? ⟨b, off + j, none⟩ = some (.string ⟨K[j].toArray⟩)
theorem pcw (c : UInt8) (d m : Nat) (K : List (List UInt8)) (B : Nat) (v : Value) (w : World) (hv : KyAt w B v K) (hd : ∀ k ∈ K, d < k.length) (hm : m ≤ K.length) (h1 : ∀ j (h : j < K.length) (h2 : d < K[j].length), j < m → K[j][d] = c) (h2 : ∀ (h : m < K.length) (h2 : d < K[m].length), K[m][d] ≠ c) (hl : K.length ≤ 1000) :
 Calls Tryz.prog 187 #[.int .u8 c.toNat, .int .i64 d, v] w fun e w' => e = .returned (.int .i64 m) ∧ w' = w := by
 obtain ⟨p, cap, rfl, _, _, hrd⟩ := hv
 have HRD := hide hrd
 have H1 := hide h1
 have H2 := hide h2
 have HD := hide hd
 clear hrd h1 h2 hd
 go_enter Tryz.func187, Tryz.ntmps187
 go_wp2
 go_loop [7] (fun i => ∃ k : Nat, i = .int .i64 k ∧ k ≤ m) (fun i => (m - intOf i).toNat)
 case atStart => exact ⟨0, rfl, by omega⟩
 case round =>
  obtain ⟨k, rfl, hk⟩ := hrel
  by_cases hlt : k < K.length
  · obtain ⟨b, off, rfl, hb, hc⟩ := HRD.out k hlt
    have hdl := HD.out K[k] (List.getElem_mem hlt)
    have g1 := H1.out k hlt hdl
    have g2 : ∀ h : k = m, K[k][d] ≠ c := fun h => by subst h; exact H2.out hlt hdl
    obtain ⟨x, hx⟩ : ∃ x, K[k] = x := ⟨_, rfl⟩
    simp only [hx] at hc hdl g1 g2
    obtain ⟨y, hy⟩ : ∃ y, x[d] = y := ⟨_, rfl⟩
    have hg : ∀ h : d < (⟨x.toArray⟩ : ByteArray).size, (⟨x.toArray⟩ : ByteArray)[d]'h = y := fun h => hy
    rw [hy] at g1 g2
    have hxs : (⟨x.toArray⟩ : ByteArray).size = x.length := rfl
    clear hx hy
    by_cases hkm : k < m
    · have hyc := g1 hkm
      subst hyc
      clear g1 g2
      go_wp2
      exact ⟨⟨k + 1, by go_num, by omega⟩, by simp [intOf]; omega⟩
    · have hyc := g2 (by omega)
      have hn : ((y.toNat : Int) == (c.toNat : Int)) = false := by
       rw [beq_eq_false_iff_ne]
       intro e
       exact hyc (UInt8.toNat_inj.1 (by omega))
      have hn2 : ¬ (y.toNat : Int) = (c.toNat : Int) := by simpa using hn
      have hkm2 : k = m := by omega
      subst hkm2
      clear g1 g2 hyc hkm hk
      go_wp2
      go_ret
      exact ⟨rfl, rfl⟩
  · have hkm : k = m := by omega
    subst hkm
    clear hk
    go_wp2
    go_ret
    exact ⟨rfl, rfl⟩
end Go.Proofs.YtgohllfpceeboaaGreatDoor
