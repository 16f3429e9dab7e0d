import Derived.Test.YtgohllfpceeboaaGreatDoorInbp
import Derived.Maps.AppendAt
namespace Go.Proofs.YtgohllfpceeboaaGreatDoor
open Go.RowKit
def egAt (l : List UInt8) (p : Nat) : Sx.Edg := (l.getD p 0, (l.getD (p + 1) 0).toNat * 256 + (l.getD (p + 2) 0).toNat)
def egs (l : List UInt8) (p k : Nat) : List Sx.Edg := (List.range k).map fun j => egAt l (p + 3 * j)
theorem egs_len (l : List UInt8) (p k : Nat) : (egs l p k).length = k := by simp [egs]
theorem egs_succ (l : List UInt8) (p k : Nat) : egs l p (k + 1) = egs l p k ++ [egAt l (p + 3 * k)] := by
 unfold egs
 rw [List.range_succ, List.map_append]
 rfl
theorem egs_cons (l : List UInt8) (p k : Nat) : egs l p (k + 1) = egAt l p :: egs l (p + 3) k := by
 unfold egs
 rw [List.range_succ_eq_map, List.map_cons, List.map_map, Nat.mul_zero, Nat.add_zero]
 congr 1
 apply List.map_congr_left
 intro j _
 show egAt l (p + 3 * (j + 1)) = egAt l (p + 3 + 3 * j)
 congr 1
 omega
theorem drop_getD (l : List UInt8) (p : Nat) (h : p < l.length) : l.drop p = l.getD p 0 :: l.drop (p + 1) := by
 rw [List.drop_eq_getElem_cons h, List.getD_eq_getElem?_getD, List.getElem?_eq_getElem h]
 rfl
theorem rdEdges_egs (l : List UInt8) : ∀ (k p : Nat), p + 3 * k ≤ l.length → Sx.rdEdges k (l.drop p) = some (egs l p k, l.drop (p + 3 * k))
 | 0, p, _ => by
   show some ([], l.drop p) = some (egs l p 0, l.drop p)
   rfl
 | k + 1, p, h => by
   rw [drop_getD l p (by omega), drop_getD l (p + 1) (by omega), drop_getD l (p + 1 + 1) (by omega)]
   show (Sx.rdEdges k (l.drop (p + 1 + 1 + 1))).map _ = _
   rw [show p + 1 + 1 + 1 = p + 3 by omega, rdEdges_egs l k (p + 3) (by omega), egs_cons, show p + 3 * (k + 1) = p + 3 + 3 * k by omega]
   rfl
theorem rdEdges_short : ∀ (k : Nat) (r : List UInt8), r.length < 3 * k → Sx.rdEdges k r = none
 | 0, _, h => absurd h (by omega)
 | k + 1, [], _ => rfl
 | k + 1, [_], _ => rfl
 | k + 1, [_, _], _ => rfl
 | k + 1, c :: x :: y :: b, h => by
   show (Sx.rdEdges k b).map _ = none
   rw [rdEdges_short k b (by simp only [List.length_cons] at h; omega)]
   rfl
theorem tab_end (m n p : Nat) (l : List UInt8) (h : l.length ≤ p) : Sx.rdTab (m + 1) n (l.drop p) = none := by
 rw [List.drop_eq_nil_of_le h]
 rfl
theorem tab_cons (m n p : Nat) (l : List UInt8) (h : p < l.length) : Sx.rdTab (m + 1) n (l.drop p) = match Sx.rdEdges (l.getD p 0).toNat (l.drop (p + 1)) with
 | none => none
 | some (es, r') => if (es = [] ↔ n = 0) ∧ ∀ e ∈ es, e.2 < n then (Sx.rdTab m (n + 1) r').map (es :: ·) else none := by
 rw [drop_getD l p h]
 rfl
theorem tab_short (m n p : Nat) (l : List UInt8) (h : p < l.length) (hk : l.length < p + 1 + 3 * (l.getD p 0).toNat) : Sx.rdTab (m + 1) n (l.drop p) = none := by
 rw [tab_cons m n p l h, rdEdges_short _ _ (by rw [List.length_drop]; omega)]
theorem egs_nil (l : List UInt8) (p k : Nat) : egs l p k = [] ↔ k = 0 := by
 rw [← List.length_eq_zero_iff, egs_len]
theorem tab_zero (m n p : Nat) (l : List UInt8) (h : p < l.length) (hk : p + 1 + 3 * (l.getD p 0).toNat ≤ l.length) (hz : ¬ ((l.getD p 0).toNat = 0 ↔ n = 0)) : Sx.rdTab (m + 1) n (l.drop p) = none := by
 rw [tab_cons m n p l h, rdEdges_egs l _ _ hk]
 show (if _ then _ else _) = _
 rw [if_neg]
 rw [egs_nil]
 exact fun h => hz h.1
theorem tab_edge (m n p j : Nat) (l : List UInt8) (h : p < l.length) (hk : p + 1 + 3 * (l.getD p 0).toNat ≤ l.length) (hj : j < (l.getD p 0).toNat) (he : n ≤ (egAt l (p + 1 + 3 * j)).2) : Sx.rdTab (m + 1) n (l.drop p) = none := by
 rw [tab_cons m n p l h, rdEdges_egs l _ _ hk]
 show (if _ then _ else _) = _
 rw [if_neg]
 intro hh
 have := hh.2 (egAt l (p + 1 + 3 * j)) (List.mem_map.2 ⟨j, List.mem_range.2 hj, rfl⟩)
 omega
theorem tab_step (m n p : Nat) (l : List UInt8) (h : p < l.length) (hk : p + 1 + 3 * (l.getD p 0).toNat ≤ l.length) (hz : (l.getD p 0).toNat = 0 ↔ n = 0) (he : ∀ e ∈ egs l (p + 1) (l.getD p 0).toNat, e.2 < n) : Sx.rdTab (m + 1) n (l.drop p) = (Sx.rdTab m (n + 1) (l.drop (p + 1 + 3 * (l.getD p 0).toNat))).map (egs l (p + 1) (l.getD p 0).toNat :: ·) := by
 rw [tab_cons m n p l h, rdEdges_egs l _ _ hk]
 show (if _ then _ else _) = _
 rw [if_pos ⟨by rw [egs_nil]; exact hz, he⟩]
theorem img_none (l : List UInt8) (h : l.length < 2) : Sx.rdImg l = none := by
 rcases l with _ | ⟨a, _ | ⟨b, r⟩⟩
 · rfl
 · rfl
 · simp at h; omega
theorem img_tab (l : List UInt8) (h : 2 ≤ l.length) : Sx.rdImg l = Sx.rdTab ((l.getD 0 0).toNat * 256 + (l.getD 1 0).toNat) 0 (l.drop 2) := by
 rcases l with _ | ⟨a, _ | ⟨b, r⟩⟩
 · simp at h
 · simp at h
 · rfl
theorem row_keep {w w1 : World} {B B' n n' z z' : Nat} {e e' : TypeId} {v v' : Value} {xs xs' : List Value} {o : Obj} (h : w.ownsRow B e z v n xs) (h' : w.ownsRow B' e' z' v' n' xs') (hne : e ≠ e') (hg : (w.alloc o).grownBy w1 v'.ownBlock) : w1.ownsRow B e z v n xs := own_later' (h.alloc o) hg (own_apart (h.alloc o) (h'.alloc o) hne)
theorem row_base {w : World} {B C n z : Nat} {e : TypeId} {v : Value} {xs : List Value} (h : w.ownsRow C e z v n xs) (hB : B ≤ C) : w.ownsRow B e z v n xs := by
 obtain ⟨h1, h2⟩ := h
 refine ⟨h1, ?_⟩
 rcases h2 with h | ⟨g, cap, cur, r1, r2, r3⟩
 · exact .inl h
 · exact .inr ⟨g, cap, cur, r1, Nat.le_trans hB r2, r3⟩
theorem DtAt.push {w w1 w2 : World} {B C : Nat} {bv tv bv' tv' : Value} {q : List DtE} {rb rt : Value} {es : List Sx.Edg} {o o' : Obj} (h : DtAt w B bv tv q) (hBC : B ≤ C) (hb : w.ownsRow C 5 1 rb es.length (byV (esB es))) (ht : w.ownsRow C 3 1 rt es.length (inV (esN es))) (hg : (w.alloc o).grownBy w1 bv.ownBlock) (hg2 : (w1.alloc o').grownBy w2 tv.ownBlock)
 (h1 : w1.ownsRow B 58 1 bv' (q.length + 1) (q.map (·.1) ++ [rb])) (h2 : w2.ownsRow B 211 1 tv' (q.length + 1) (q.map (·.2.1) ++ [rt])) : DtAt w2 B bv' tv' (q ++ [(rb, rt, es)]) := by
 have t1 : w1.ownsRow B 211 1 tv q.length (q.map (·.2.1)) := row_keep h.rt h.rb (by decide) hg
 have k1 : ∀ {n : Nat} {v : Value} {xs : List Value}, w.ownsRow B 5 1 v n xs → w2.ownsRow B 5 1 v n xs := fun hv => row_keep (row_keep hv h.rb (by decide) hg) t1 (by decide) hg2
 have k2 : ∀ {n : Nat} {v : Value} {xs : List Value}, w.ownsRow B 3 1 v n xs → w2.ownsRow B 3 1 v n xs := fun hv => row_keep (row_keep hv h.rb (by decide) hg) t1 (by decide) hg2
 refine ⟨?_, ?_, fun x hx => ?_, fun x hx => ?_⟩
 · rw [List.length_append, List.length_singleton, List.map_append]
   exact row_keep h1 t1 (by decide) hg2
 · rw [List.length_append, List.length_singleton, List.map_append]
   exact h2
 · rcases List.mem_append.1 hx with hx | hx
   · exact k1 (h.bys x hx)
   · rw [List.mem_singleton.1 hx]; exact k1 (row_base hb hBC)
 · rcases List.mem_append.1 hx with hx | hx
   · exact k2 (h.tos x hx)
   · rw [List.mem_singleton.1 hx]; exact k2 (row_base ht hBC)
theorem wys_short {tab : List (List Sx.Edg)} (ho : Sx.Ordered tab) : ∀ (f s : Nat) (ahead : List UInt8) (ks : List Sx.Wd), s < tab.length → s < f → ∀ x ∈ wysF f tab s ahead ks, x ∈ ks ∨ x.length ≤ ahead.length + s
 | 0, _, _, _, _, h, _, _ => absurd h (by omega)
 | f + 1, s, ahead, ks, hs, hf, x, hx => by
   by_cases h0 : s = 0
   · have e : wysF (f + 1) tab s ahead ks = if s = 0 then ks ++ [ahead] else ((tab[s]?).getD []).foldl (fun acc e => if acc.length ≤ 30 then wysF f tab e.2 (ahead ++ [e.1]) acc else acc) ks := rfl
     rw [e, if_pos h0] at hx
     rcases List.mem_append.1 hx with h | h
     · exact .inl h
     · rw [List.mem_singleton.1 h]; exact .inr (by omega)
   · obtain ⟨es, hes⟩ : ∃ es, tab[s]? = some es := ⟨_, List.getElem?_eq_getElem hs⟩
     obtain ⟨-, o2⟩ := ho s es hes
     rw [fold_wyS f tab s ahead ks es h0 hes] at hx
     have : ∀ (l : List Sx.Edg) (acc : List Sx.Wd), (∀ e ∈ l, e.2 < s) → ∀ y ∈ l.foldl (wyS f tab ahead) acc, y ∈ acc ∨ y.length ≤ ahead.length + s := by
      intro l
      induction l with
      | nil => intro acc _ y hy; exact .inl hy
      | cons e l ih =>
        intro acc hl y hy
        rw [List.foldl_cons] at hy
        rcases ih _ (fun z hz => hl z (by simp [hz])) y hy with h | h
        · unfold wyS at h
          have hes := hl e (by simp)
          split at h
          · rcases wys_short ho f e.2 (ahead ++ [e.1]) acc (by omega) (by omega) y h with h | h
            · exact .inl h
            · rw [List.length_append, List.length_singleton] at h
              exact .inr (by omega)
          · exact .inl h
        · exact .inr h
     exact this es ks o2 x hx
def KeysPost (l : List UInt8) (w : World) (e : Ending) (w' : World) : Prop := Below w.heap.size w w' ∧ match Sx.rdImg l with
 | none => e = .returned (.tuple #[.slice none 0 0, .bool false])
 | some tab => ∃ v, e = .returned (.tuple #[v, .bool true]) ∧ w'.ownsRow w.heap.size 9 1 v (wysA tab).length (stV (wysA tab)) ∧ ∀ x ∈ wysA tab, x.length ≤ 70000
theorem keys_no {l : List UInt8} {w w' : World} (h : Sx.rdImg l = none) (hB : Below w.heap.size w w') : KeysPost l w (.returned (.tuple #[.slice none 0 0, .bool false])) w' := by
 unfold KeysPost
 rw [h]
 exact ⟨hB, rfl⟩
theorem at_getD (l : List UInt8) (p : Nat) : ∀ h : p < (⟨l.toArray⟩ : ByteArray).size, (⟨l.toArray⟩ : ByteArray)[p]'h = l.getD p 0 := fun h => by
 have h' : p < l.length := h
 rw [List.getD_eq_getElem?_getD, List.getElem?_eq_getElem h']
 rfl
set_option maxRecDepth 100000 in
set_option maxHeartbeats 4000000 in
theorem rkeys (l : List UInt8) (w : World) (hl : l.length ≤ 8000) : Calls Tryz.prog 208 #[.string ⟨l.toArray⟩] w (KeysPost l w) := by
 have hIs : (⟨l.toArray⟩ : ByteArray).size = l.length := rfl
 by_cases h2 : l.length < 2
 · have HN := hide (img_none l h2)
   obtain ⟨I, hI⟩ : ∃ X : ByteArray, ⟨l.toArray⟩ = X := ⟨_, rfl⟩
   rw [hI] at hIs ⊢
   have hI2 : I.size < 2 := by omega
   clear hIs hI h2
   go_enter Tryz.func208, Tryz.ntmps208
   go_wp2
   go_ret2
   exact keys_no HN.out (Below.refl _ _)
 · have HTB := hide (img_tab l (by omega))
   obtain ⟨i1, hi1, hx0, hx1, hx2⟩ := info_parts Tryz.info58
   obtain ⟨i2, hi2, hy0, hy1, hy2⟩ := info_parts Tryz.info211
   obtain ⟨i3, hi3, hu0, hu1, hu2⟩ := info_parts Tryz.info5
   obtain ⟨i4, hi4, hv0, hv1, hv2⟩ := info_parts Tryz.info3
   have hg0 := at_getD l 0
   have hg1 := at_getD l 1
   have HAT := hide (at_getD l)
   obtain ⟨a, ha⟩ : ∃ x, l.getD 0 0 = x := ⟨_, rfl⟩
   obtain ⟨b, hb⟩ : ∃ x, l.getD 1 0 = x := ⟨_, rfl⟩
   rw [ha] at hg0 HTB
   rw [hb] at hg1 HTB
   have ha2 : a.toNat < 256 := a.toNat_lt
   have hb2 : b.toNat < 256 := b.toNat_lt
   have h2i : ¬ (l.length : Int) < 2 := by omega
   obtain ⟨I, hI⟩ : ∃ X : ByteArray, ⟨l.toArray⟩ = X := ⟨_, rfl⟩
   rw [hI] at hIs hg0 hg1 HAT ⊢
   clear hI ha hb
   go_enter Tryz.func208, Tryz.ntmps208
   go_wp2
   go_quiet ((fail))
   go_wp2
   clear hg0 hg1
   obtain ⟨M, hM, hMn⟩ : ∃ M : Nat, 256 * (a.toNat : Int) + b.toNat = M ∧ a.toNat * 256 + b.toNat = M := ⟨256 * a.toNat + b.toNat, by simp, by omega⟩
   rw [hMn] at HTB
   rw [hM]
   have hM6 : M < 65536 := by omega
   clear ha2 hb2 hMn
   have hB0 : Below w.heap.size w (w.drewN nq) := (Below.refl _ w).trans ⟨rfl, rfl, rfl, Nat.le_refl _, fun _ _ => rfl⟩
   obtain ⟨W0, hW0⟩ : ∃ W, w.drewN nq = W := ⟨_, rfl⟩
   rw [hW0] at hB0 ⊢
   clear hW0
   have HB0 := hide hB0
   clear hB0
   go_loopw [5, 6, 7, 8] (fun av bv tv nv wr => ∃ (n p : Nat) (q : List DtE), av = .int .i64 p ∧ nv = .int .i64 n ∧ n ≤ M ∧ p ≤ l.length ∧ q.length = n ∧ DtAt wr w.heap.size bv tv q ∧ Below w.heap.size w wr ∧ (∀ x ∈ q, x.2.2.length ≤ 255) ∧ Sx.rdImg l = (Sx.rdTab (M - n) n (l.drop p)).map (q.map (·.2.2) ++ ·)) (fun _ _ _ n _ => (M - intOf n).toNat)
   case atStart => exact ⟨0, 2, [], rfl, rfl, by omega, by omega, rfl, ⟨World.ownsRow_nil _ _ _ _, World.ownsRow_nil _ _ _ _, by simp, by simp⟩, HB0.out, by simp, by rw [HTB.out]; simp⟩
   case round =>
    obtain ⟨n, p, q, rfl, rfl, hn, hp, hqn, hd, hB, h255, hrd⟩ := hrel
    rename World => wr
    subst hqn
    have HD := hide hd
    have HB := hide hB
    have H255 := hide h255
    have HRD := hide hrd
    obtain ⟨pb, cb, rfl⟩ := own_shapeK hd.rb
    obtain ⟨pt, ct, rfl⟩ := own_shapeK hd.rt
    clear hd hB h255 hrd
    by_cases hnm : q.length < M
    · have hnm' : (q.length : Int) < (M : Int) := by omega
      obtain ⟨m, hm⟩ : ∃ m, M - q.length = m + 1 := ⟨M - q.length - 1, by omega⟩
      by_cases hpl : p < l.length
      · have hpl' : ¬ (l.length : Int) ≤ (p : Int) := by omega
        have hgp := HAT.out p
        obtain ⟨kb, hkb⟩ : ∃ x, l.getD p 0 = x := ⟨_, rfl⟩
        rw [hkb] at hgp
        have hk2 : kb.toNat < 256 := kb.toNat_lt
        by_cases hs : p + 1 + 3 * kb.toNat ≤ l.length
        · by_cases hz : (kb.toNat = 0 ↔ q.length = 0)
          · obtain ⟨N0, z3, z4⟩ : ∃ N0, ((kb.toNat : Int) == 0) = N0 ∧ ((q.length : Int) == 0) = N0 := ⟨_, rfl, by rw [Bool.eq_iff_iff]; simp only [beq_iff_eq]; omega⟩
            have HED : Hid (∀ j, j < kb.toNat → q.length ≤ (egAt l (p + 1 + 3 * j)).2 → Sx.rdImg l = none) := hide (fun j hj he => by
             rw [HRD.out, hm, tab_edge m _ p j l hpl (by rw [hkb]; exact hs) (by rw [hkb]; exact hj) he]; rfl)
            have HSP : Hid ((∀ e ∈ egs l (p + 1) kb.toNat, e.2 < q.length) → Sx.rdImg l = (Sx.rdTab (M - (q.length + 1)) (q.length + 1) (l.drop (p + 1 + 3 * kb.toNat))).map (q.map (·.2.2) ++ [egs l (p + 1) kb.toNat] ++ ·)) := hide (fun he => by
             have h := tab_step m q.length p l hpl (by rw [hkb]; exact hs) (by rw [hkb]; exact hz) (by rw [hkb]; exact he)
             rw [hkb] at h
             rw [HRD.out, hm, h, show M - (q.length + 1) = m by omega]
             cases Sx.rdTab m (q.length + 1) (l.drop (p + 1 + 3 * kb.toNat)) with
             | none => rfl
             | some t => simp)
            have hs' : ¬ (l.length : Int) < (p : Int) + 1 + 3 * (kb.toNat : Int) := by omega
            clear hkb hz HRD
            go_wp2
            clear hgp z3 z4
            go_loopw [5, 10, 11, 12] (fun av rv tv iv w4 => ∃ (i : Nat), av = .int .i64 (p + 1 + 3 * i : Nat) ∧ iv = .int .i64 i ∧ i ≤ kb.toNat ∧ (∀ e ∈ egs l (p + 1) i, e.2 < q.length) ∧ w4.ownsRow wr.heap.size 5 1 rv i (byV (esB (egs l (p + 1) i))) ∧ w4.ownsRow wr.heap.size 3 1 tv i (inV (esN (egs l (p + 1) i))) ∧ Below wr.heap.size wr w4) (fun _ _ _ i _ => (kb.toNat - intOf i).toNat)
            case atStart => exact ⟨0, rfl, rfl, by omega, by simp [egs], World.ownsRow_nil _ _ _ _, World.ownsRow_nil _ _ _ _, Below.refl _ _⟩
            case round =>
             obtain ⟨i, rfl, rfl, hik, hall, ho1, ho2, hB4⟩ := hrel
             rename World => w4
             obtain ⟨rp, rc, rfl⟩ := own_shapeK ho1
             obtain ⟨tp, tc, rfl⟩ := own_shapeK ho2
             have HAL := hide hall
             clear hall
             by_cases hi : i < kb.toNat
             · have hi' : (i : Int) < (kb.toNat : Int) := by omega
               have he1 := egs_succ l (p + 1) i
               have hed := HED.out i hi
               obtain ⟨P, hP⟩ : ∃ P, p + 1 + 3 * i = P := ⟨_, rfl⟩
               rw [hP] at he1 hed
               have hPl : P + 2 < l.length := by omega
               have hgP := HAT.out P
               have hgQ := HAT.out (P + 1)
               have hgR := HAT.out (P + 2)
               unfold egAt at he1 hed
               obtain ⟨c, hc⟩ : ∃ x, l.getD P 0 = x := ⟨_, rfl⟩
               obtain ⟨x, hx⟩ : ∃ x, l.getD (P + 1) 0 = x := ⟨_, rfl⟩
               obtain ⟨y, hy⟩ : ∃ x, l.getD (P + 2) 0 = x := ⟨_, rfl⟩
               rw [hc] at hgP
               rw [hx] at hgQ
               rw [hy] at hgR
               rw [hc, hx, hy] at he1
               rw [hx, hy] at hed
               dsimp only at hed
               have hx2 : x.toNat < 256 := x.toNat_lt
               have hy2 : y.toNat < 256 := y.toNat_lt
               have HE1 := hide he1
               have HEN := hide hed
               have hP3 : p + 1 + 3 * (i + 1) = P + 3 := by omega
               have HP3 := hide hP3
               rw [hP]
               clear hP hc hx hy he1 hed hP3
               go_wp2
               have b1 : P + 1 < I.size := by omega
               have b2 : P + 2 < I.size := by omega
               have t1 : ((P : Int) + 1).toNat = P + 1 := by omega
               have t2 : ((P : Int) + 2).toNat = P + 2 := by omega
               have u1 : (P : Int) + 1 < (l.length : Int) := by omega
               have u2 : (P : Int) + 2 < (l.length : Int) := by omega
               have v1 : (0 : Int) ≤ (P : Int) + 1 := by omega
               have v2 : (0 : Int) ≤ (P : Int) + 2 := by omega
               go_quiet ((fail))
               clear hgQ hgR b1 b2 t1 t2 u1 u2 v1 v2
               obtain ⟨E, hE, hEn⟩ : ∃ E : Nat, 256 * (x.toNat : Int) + y.toNat = E ∧ x.toNat * 256 + y.toNat = E := ⟨256 * x.toNat + y.toNat, by simp, by omega⟩
               rw [hEn] at HEN HE1
               rw [hE]
               replace ho1 : (w4.drewN nq).ownsRow wr.heap.size 5 1 (.slice rp i rc) i (byV (esB (egs l (p + 1) i))) := ho1
               replace ho2 : (w4.drewN nq).ownsRow wr.heap.size 3 1 (.slice tp i tc) i (inV (esN (egs l (p + 1) i))) := ho2
               replace hB4 : Below wr.heap.size wr (w4.drewN nq) := hB4.trans ⟨rfl, rfl, rfl, Nat.le_refl _, fun _ _ => rfl⟩
               obtain ⟨W4, hW4⟩ : ∃ W, w4.drewN nq = W := ⟨_, rfl⟩
               rw [hW4] at ho1 ho2 hB4 ⊢
               clear hW4 hx2 hy2 hE hEn
               by_cases hx : q.length ≤ E
               · have HNO := hide (HEN.out hx)
                 have hx' : (q.length : Int) ≤ (E : Int) := by omega
                 have HBB := hide (HB.out.trans (hB4.mono HB.out.size))
                 clear ho1 ho2 hB4
                 go_wp2
                 go_ret2
                 exact keys_no HNO.out HBB.out
               · have hx' : ¬ (q.length : Int) ≤ (E : Int) := by omega
                 have hsz4 := hB4.size
                 go_upto_region 25 with (at_builtin; go_must (refine wpList_append_lies _ rfl _ _ _ rfl wr.heap.size 5 i3 (.int .u8 0) 1 1 Tryz.underlying58 hi3 hu0 hu1 hu2 rfl (by decide) _ _ _ rfl (ho1.alloc _) ⟨_, 0, none⟩ 1 1 [(.int .u8 c.toNat)] rfl rfl (cell_one_new _ _ _) (by simp [Value.oneCell']) (by omega) (by unfold maxLen; omega) (by omega) (by simp; omega) _ rfl ?_; intro g5 cap5 w5 hown5 hgrow5 hat5 hlt5))
                 have hsz5 : wr.heap.size ≤ w5.heap.size := (below_app hB4 hsz4 ho1 hgrow5).size
                 have ho3 := row_keep ho2 ho1 (by decide) hgrow5
                 clear hgP
                 go_wp2_with (at_builtin; go_must (refine wpList_append_lies _ rfl _ _ _ rfl wr.heap.size 3 i4 (.int .i64 0) 1 8 Tryz.underlying211 hi4 hv0 hv1 hv2 rfl (by decide) _ _ _ rfl (ho3.alloc _) ⟨_, 0, none⟩ 1 1 [(.int .i64 (E : Int))] rfl rfl (cell_one_new _ _ _) (by simp [Value.oneCell']) (by omega) (by unfold maxLen; omega) (by omega) (by simp; omega) _ rfl ?_; intro g6 cap6 w6 hown6 hgrow6 hat6 hlt6))
                 refine ⟨⟨i + 1, by rw [HP3.out]; go_num, by go_num, by omega, ?_, ?_, ?_, below_app (below_app hB4 hsz4 ho1 hgrow5) hsz5 ho3 hgrow6⟩, by simp [intOf]; omega⟩
                 · rw [HE1.out]
                   intro e he
                   rcases List.mem_append.1 he with he | he
                   · exact HAL.out e he
                   · rw [List.mem_singleton.1 he]; show E < q.length; omega
                 · rw [HE1.out, show byV (esB (egs l (p + 1) i ++ [(c, E)])) = byV (esB (egs l (p + 1) i)) ++ [.int .u8 c.toNat] by simp [byV, esB]]
                   exact row_keep hown5 ho3 (by decide) hgrow6
                 · rw [HE1.out, show inV (esN (egs l (p + 1) i ++ [(c, E)])) = inV (esN (egs l (p + 1) i)) ++ [.int .i64 (E : Int)] by simp [inV, esN]]
                   exact hown6
             · obtain rfl : i = kb.toNat := by omega
               have hni : ¬ (kb.toNat : Int) < (kb.toNat : Int) := by omega
               have hd4 := HD.out.below hB4
               have hsz4 := hB4.size
               have hwz : w.heap.size ≤ wr.heap.size := HB.out.size
               have hqM : q.length < 65536 := by omega
               have hB44 := HB.out.trans (hB4.mono HB.out.size)
               have HE2 := hide (HSP.out HAL.out)
               clear hi hik
               go_upto_region 28 with (at_builtin; go_must (refine wpList_append_lies _ rfl _ _ _ rfl w.heap.size 58 i1 (.slice none 0 0) 1 24 Tryz.underlying320 hi1 hx0 hx1 hx2 rfl (by decide) _ _ _ rfl (hd4.rb.alloc _) ⟨_, 0, none⟩ 1 1 [(.slice rp kb.toNat rc)] rfl rfl (cell_one_new _ _ _) (by simp [Value.oneCell']) (by omega) (by unfold maxLen; omega) (by omega) (by simp; omega) _ rfl ?_; intro g5 cap5 w5 hown5 hgrow5 hat5 hlt5))
               have hsz5 : w.heap.size ≤ w5.heap.size := (below_app hB44 (by omega) hd4.rb hgrow5).size
               have ht5 := row_keep hd4.rt hd4.rb (by decide) hgrow5
               go_wp2_with (at_builtin; go_must (refine wpList_append_lies _ rfl _ _ _ rfl w.heap.size 211 i2 (.slice none 0 0) 1 24 Tryz.underlying321 hi2 hy0 hy1 hy2 rfl (by decide) _ _ _ rfl (ht5.alloc _) ⟨_, 0, none⟩ 1 1 [(.slice tp kb.toNat tc)] rfl rfl (cell_one_new _ _ _) (by simp [Value.oneCell']) (by omega) (by unfold maxLen; omega) (by omega) (by simp; omega) _ rfl ?_; intro g6 cap6 w6 hown6 hgrow6 hat6 hlt6))
               have hpu := hd4.push (es := egs l (p + 1) kb.toNat) hwz (by rw [egs_len]; exact ho1) (by rw [egs_len]; exact ho2) hgrow5 hgrow6 hown5 hown6
               refine ⟨⟨q.length + 1, p + 1 + 3 * kb.toNat, _, by go_num, by go_num, by omega, by omega, by simp, hpu, below_app (below_app hB44 (by omega) hd4.rb hgrow5) hsz5 ht5 hgrow6, ?_, ?_⟩, by simp [intOf]; omega⟩
               · intro x hx
                 rcases List.mem_append.1 hx with hx | hx
                 · exact H255.out x hx
                 · rw [List.mem_singleton.1 hx]; show (egs l (p + 1) kb.toNat).length ≤ 255; rw [egs_len]; omega
               · rw [HE2.out]
                 simp
          · have hno : Sx.rdImg l = none := by rw [HRD.out, hm, tab_zero m _ p l hpl (by rw [hkb]; exact hs) (by rw [hkb]; exact hz)]; rfl
            have HNO := hide hno
            have hs' : ¬ (l.length : Int) < (p : Int) + 1 + 3 * (kb.toNat : Int) := by omega
            clear hno hkb
            rcases (show (kb.toNat = 0 ∧ ¬ q.length = 0) ∨ (¬ kb.toNat = 0 ∧ q.length = 0) by omega) with ⟨z1, z2⟩ | ⟨z1, z2⟩
            · have z3 : ((kb.toNat : Int) == 0) = true := by simp [z1]
              have z4 : ((q.length : Int) == 0) = false := by rw [beq_eq_false_iff_ne]; omega
              clear z1 z2 hz
              go_wp2
              go_ret2
              exact keys_no HNO.out HB.out
            · have z3 : ((kb.toNat : Int) == 0) = false := by rw [beq_eq_false_iff_ne]; omega
              have z4 : ((q.length : Int) == 0) = true := by simp [z2]
              clear z1 z2 hz
              go_wp2
              go_ret2
              exact keys_no HNO.out HB.out
        · have hno : Sx.rdImg l = none := by rw [HRD.out, hm, tab_short m _ p l hpl (by rw [hkb]; omega)]; rfl
          have HNO := hide hno
          have hs' : (l.length : Int) < (p : Int) + 1 + 3 * (kb.toNat : Int) := by omega
          clear hno hkb
          go_wp2
          go_ret2
          exact keys_no HNO.out HB.out
      · have hno : Sx.rdImg l = none := by rw [HRD.out, hm, tab_end m _ p l (by omega)]; rfl
        have HNO := hide hno
        have hpl' : (l.length : Int) ≤ (p : Int) := by omega
        clear hno
        go_wp2
        go_ret2
        exact keys_no HNO.out HB.out
    · obtain rfl : M = q.length := by omega
      have hnn : ¬ (q.length : Int) < (q.length : Int) := by omega
      have hm0 : q.length - q.length = 0 := by omega
      by_cases hpe : p = l.length
      · have hs : Sx.rdImg l = some (q.map (·.2.2)) := by
         rw [HRD.out, hm0, hpe, List.drop_eq_nil_of_le (Nat.le_refl _)]
         show (if ([] : List UInt8) = [] then some [] else none).map _ = _
         rw [if_pos rfl]
         simp
        have hpe' : (p : Int) = (l.length : Int) := by omega
        have hor := rdImg_ord hs
        have HS := hide hs
        by_cases hq0 : q.length = 0
        · have hq0' : ((q.length : Int) == 0) = true := by simp [hq0]
          have hqe : q.map (·.2.2) = [] := by rw [List.length_eq_zero_iff.1 hq0]; rfl
          have HQE := hide hqe
          have hbe : ((p : Int) != (l.length : Int)) = false := by simp [hpe']
          clear hs hor hqe hpe hq0
          go_wp2
          go_ret2
          unfold KeysPost
          rw [HS.out, HQE.out]
          exact ⟨HB.out, _, rfl, World.ownsRow_nil _ _ _ _, by simp [wysA]⟩
        · have hq0' : ((q.length : Int) == 0) = false := by rw [beq_eq_false_iff_ne]; omega
          have hbe : ((p : Int) != (l.length : Int)) = false := by simp [hpe']
          have HWY : Hid (Calls Tryz.prog 244 #[.slice pb q.length cb, .slice pt q.length ct, .int .i64 ((q.length : Int) - 1), .string ⟨#[]⟩, .slice none 0 0] wr (WysPost q.length (q.map (·.2.2)) (q.length - 1) [] [] w.heap.size (.slice none 0 0) wr)) := hide (by
           rw [show ((q.length : Int) - 1) = ((q.length - 1 : Nat) : Int) by omega]
           exact rways q w.heap.size _ _ hor (by omega) H255.out q.length (q.length - 1) [] [] (.slice none 0 0) wr HD.out (by omega) (by omega) (by simp) (World.ownsRow_nil _ _ _ _) HB.out.size (by simp; omega))
          have HWA : Hid (wysA (q.map (·.2.2)) = wysF q.length (q.map (·.2.2)) (q.length - 1) [] []) := hide (by
           unfold wysA
           rw [if_neg (by intro e; exact hq0 (by simpa using congrArg List.length e)), List.length_map])
          have HSH : Hid (∀ x ∈ wysA (q.map (·.2.2)), x.length ≤ 70000) := hide (fun x hx => by
           rw [HWA.out] at hx
           rcases wys_short hor q.length (q.length - 1) [] [] (by rw [List.length_map]; omega) (by omega) x hx with h | h
           · cases h
           · have : ([] : List UInt8).length = 0 := rfl
             omega)
          clear hs hor hpe hq0
          go_wp2_with fail
          refine HWY.out.mono ?_
          rintro e w9 ⟨v', rfl, p1, p2, -⟩
          have HP1 := hide p1
          have HB9 : Hid (Below w.heap.size w w9) := hide (HB.out.grown p2 HB.out.size (fun k e => by cases e))
          clear p1 p2
          go_wp2
          go_ret2
          unfold KeysPost
          rw [HS.out]
          exact ⟨HB9.out, _, rfl, by rw [HWA.out]; exact HP1.out, HSH.out⟩
      · have hno : Sx.rdImg l = none := by
         rw [HRD.out, hm0]
         show (if l.drop p = [] then some [] else none).map _ = none
         rw [if_neg (by rw [List.drop_eq_nil_iff]; omega)]
         rfl
        have HNO := hide hno
        have hpe' : ¬ (p : Int) = (l.length : Int) := by omega
        have hbe : ((p : Int) != (l.length : Int)) = true := by simp [hpe']
        clear hno hpe
        go_wp2
        go_ret2
        exact keys_no HNO.out HB.out
end Go.Proofs.YtgohllfpceeboaaGreatDoor
namespace Go.Proofs.YtgohllfpceeboaaGreatDoor
open Go.RowKit
def keyTo (h : List (List UInt8)) (k : Nat) : List UInt8 := if k = h.length then [] else Sx.dotted (h.drop k).reverse ++ if k = 0 then [] else [46]
theorem keyTo_step (h : List (List UInt8)) (k : Nat) (hk : k < h.length) : keyTo h k = keyTo h (k + 1) ++ h[k] ++ if k = 0 then [] else [46] := by
 unfold keyTo
 rw [if_neg (by omega), List.drop_eq_getElem_cons hk, List.reverse_cons, Sx.dotted_snoc]
 by_cases h1 : k + 1 = h.length
 · simp [h1]
 · have : h.drop (k + 1) ≠ [] := by
    intro e
    have := congrArg List.length e
    simp at this; omega
   simp [this, h1]
set_option maxRecDepth 100000 in
set_option maxHeartbeats 1000000 in
theorem rkey_some (h : List (List UInt8)) (kd sc : UInt8) (B b cap : Nat) (w : World) (hl : h.length ≤ 100) (hx : ∀ x ∈ h, x.length ≤ 1000) (ho : w.ownsRow B 9 1 (.slice (some ⟨b, 0, none⟩) h.length cap) h.length (stV h)) :
 Calls Tryz.prog 205 #[.agg #[.slice (some ⟨b, 0, none⟩) h.length cap, .int .u8 kd.toNat, .int .u8 sc.toNat]] w fun e w' => e = .returned (.string ⟨(Sx.keyOf h kd sc).toArray⟩) ∧ Below w.heap.size w w' := by
 have HO := hide ho
 have HX := hide hx
 clear ho hx
 go_enter Tryz.func205, Tryz.ntmps205
 go_wp2
 go_loop [3, 4] (fun s i => ∃ (k : Nat) (p : List UInt8) (j : Int), s = .string ⟨p.toArray⟩ ∧ i = .int .i64 j ∧ j = (k : Int) - 1 ∧ k ≤ h.length ∧ p.length ≤ 1001 * (h.length - k) ∧ keyTo h k = p) (fun _ i => (intOf i + 1).toNat)
 case atStart => exact ⟨h.length, [], _, rfl, by first | rfl | go_num, by omega, by omega, by simp, by simp [keyTo]⟩
 case round =>
  obtain ⟨k, p, j, rfl, rfl, hj, hk, hp, hd⟩ := hrel
  have HD := hide hd
  clear hd
  cases k with
  | succ k =>
    have hjk : j = (k : Int) := by omega
    subst hjk
    clear hj
    have hlt : k < h.length := by omega
    have hc0 := own_strG HO.out k hlt
    have hb : b < w.heap.size := by
     by_cases hlt : b < w.heap.size
     · exact hlt
     · have hn : w.heap[b]? = none := Array.getElem?_eq_none (by omega)
       simp [World.cell?, hn] at hc0
    have hc : ∀ v, (w.alloc v).cell? ⟨b, k, none⟩ = some (.string ⟨h[k].toArray⟩) := fun v => by exact (World.cell?_alloc_lt w v ⟨b, k, none⟩ hb).trans hc0
    have hxk := HX.out h[k] (List.getElem_mem hlt)
    have hdt := keyTo_step h k hlt
    obtain ⟨x, hxe⟩ : ∃ x, h[k] = x := ⟨_, rfl⟩
    rw [hxe] at hc hxk hdt
    rw [HD.out] at hdt
    have HDT := hide hdt
    clear hdt hxe hc0
    have hge : (0 : Int) ≤ (k : Int) := by omega
    by_cases h0 : k = 0
    · subst h0
      go_wp2
      rw [ba_app]
      exact ⟨⟨0, p ++ x, -1, rfl, rfl, by omega, by omega, by simp; omega, by rw [HDT.out]; simp⟩, by simp [intOf]⟩
    · have hgt : (0 : Int) < (k : Int) := by omega
      go_wp2
      rw [show (#[46] : Array UInt8) = [46].toArray from rfl, ba_app, ba_app]
      exact ⟨⟨k, _, (k : Int) - 1, rfl, rfl, rfl, by omega, by simp; omega, by rw [HDT.out, if_neg h0]⟩, by simp [intOf]⟩
  | zero =>
    have hjk : j = -1 := by omega
    subst hjk
    clear hj
    have he : (convert 58 9 (.slice (some ⟨w.heap.size + 1, 0, none⟩) 2 2)).run Tryz.prog ((w.alloc (.cells #[.slice (some ⟨b, 0, none⟩) h.length cap, .int .u8 kd.toNat, .int .u8 sc.toNat] 222)).alloc (.cells #[.int .u8 kd.toNat, .int .u8 sc.toNat] 5)) = .ok (.string ⟨[kd, sc].toArray⟩) ((w.alloc (.cells #[.slice (some ⟨b, 0, none⟩) h.length cap, .int .u8 kd.toNat, .int .u8 sc.toNat] 222)).alloc (.cells #[.int .u8 kd.toNat, .int .u8 sc.toNat] 5)) := by
     refine run_convert_bytes_back (P := Tryz.prog) _ 58 9 5 ⟨w.heap.size + 1, 0, none⟩ 2 [kd, sc] Tryz.underlying58 Tryz.underlying5 Tryz.underlying9 (fun j hj => ?_)
     have hz : (w.alloc (.cells #[.slice (some ⟨b, 0, none⟩) h.length cap, .int .u8 kd.toNat, .int .u8 sc.toNat] 222)).heap.size = w.heap.size + 1 := World.size_alloc _ _
     rw [Addr.add_lit, Nat.zero_add, ← hz, World.cell?_alloc_mark]
     match j, hj with
     | 0, _ => rfl
     | 1, _ => rfl
     | j + 2, hj => simp at hj; omega
    go_wp2
    go_ret
    rw [ba_app]
    refine ⟨ret_str ?_, ((Below.refl _ _).alloc (Nat.le_refl _) _).alloc (by simp) _⟩
    rw [← HD.out]
    unfold keyTo Sx.keyOf
    by_cases hz : h = []
    · subst hz; rfl
    · have : 0 ≠ h.length := fun e => hz (List.eq_nil_of_length_eq_zero e.symm)
      simp [this]
end Go.Proofs.YtgohllfpceeboaaGreatDoor
namespace Go.Proofs.YtgohllfpceeboaaGreatDoor
open Go.RowKit
theorem sortW_take (l : List Sx.Wd) (k : Nat) (h : k < l.length) : Sx.sortW (l.take (k + 1)) = Sx.insW l[k] (Sx.sortW (l.take k)) := by
 unfold Sx.sortW
 rw [List.take_succ_eq_append_getElem h, List.foldl_append]
 rfl
theorem insW_len (x : Sx.Wd) (m : List Sx.Wd) : (Sx.insW x m).length = m.length + 1 := by
 have h : m.takeWhile (fun y => decide (y < x)) ++ m.dropWhile (fun y => decide (y < x)) = m := List.takeWhile_append_dropWhile
 have := congrArg List.length h
 unfold Sx.insW
 simp only [List.length_append, List.length_cons] at this ⊢
 omega
theorem sortW_len : ∀ (k : Nat) (l : List Sx.Wd), k ≤ l.length → (Sx.sortW (l.take k)).length = k
 | 0, l, _ => rfl
 | k + 1, l, h => by rw [sortW_take l k (by omega), insW_len, sortW_len k l (by omega)]
theorem newsS_take {w : World} {B g cap : Nat} {l : List (List UInt8)} (h : w.ownsRow B 9 1 (.slice (some ⟨g, 0, none⟩) l.length cap) l.length (stV l)) (r : Nat) : ∀ j u, (stV (l.take r))[j]? = some u → w.cell? ((⟨g, 0, none⟩ : Addr).add j) = some u := by
 intro j u hu
 refine h.cells (g := g) rfl j u ?_
 have : stV (l.take r) = (stV l).take r := by simp [stV]
 rw [this, List.getElem?_take] at hu
 split at hu
 · exact hu
 · cases hu
theorem newsS_drop {w : World} {B g cap : Nat} {l : List (List UInt8)} (h : w.ownsRow B 9 1 (.slice (some ⟨g, 0, none⟩) l.length cap) l.length (stV l)) (r : Nat) : ∀ j u, (stV (l.drop r))[j]? = some u → w.cell? ((⟨g, r, none⟩ : Addr).add j) = some u := by
 intro j u hu
 have : stV (l.drop r) = (stV l).drop r := by simp [stV]
 rw [this, List.getElem?_drop] at hu
 have := h.cells (g := g) rfl (r + j) u hu
 rw [Addr.add_lit] at this ⊢
 rw [Nat.zero_add] at this
 exact this
theorem st_one (l : List (List UInt8)) : ∀ u ∈ stV l, u.oneCell' = true := by
 intro u hu
 obtain ⟨_, _, rfl⟩ := List.mem_map.1 hu
 rfl
def ahd (x : Sx.Wd) (m : List Sx.Wd) : Nat := (m.takeWhile fun y => decide (y < x)).length
theorem ahd_le (x : Sx.Wd) (m : List Sx.Wd) : ahd x m ≤ m.length := (List.takeWhile_sublist _).length_le
theorem ahd_lt (x : Sx.Wd) : ∀ (m : List Sx.Wd) (j : Nat) (h : j < m.length), j < ahd x m → m[j] < x
 | [], j, h, _ => by simp at h
 | y :: m, j, h, hj => by
   by_cases hy : y < x
   · have e : ahd x (y :: m) = ahd x m + 1 := by simp [ahd, hy]
     cases j with
     | zero => exact hy
     | succ j => exact ahd_lt x m j (by simpa using h) (by omega)
   · have e : ahd x (y :: m) = 0 := by simp [ahd, hy]
     omega
theorem ahd_not (x : Sx.Wd) : ∀ (m : List Sx.Wd) (h : ahd x m < m.length), ¬ m[ahd x m] < x
 | [], h => by simp at h
 | y :: m, h => by
   by_cases hy : y < x
   · have e : ahd x (y :: m) = ahd x m + 1 := by simp [ahd, hy]
     have := ahd_not x m (by rw [e] at h; simpa using h)
     simpa [e] using this
   · have e : ahd x (y :: m) = 0 := by simp [ahd, hy]
     simpa [e] using hy
theorem insW_at (x : Sx.Wd) (m : List Sx.Wd) : Sx.insW x m = m.take (ahd x m) ++ x :: m.drop (ahd x m) := by
 have h : m.takeWhile (fun y => decide (y < x)) ++ m.dropWhile (fun y => decide (y < x)) = m := List.takeWhile_append_dropWhile
 have h1 : m.take (ahd x m) = m.takeWhile (fun y => decide (y < x)) := by
  have := List.take_left (l₁ := m.takeWhile (fun y => decide (y < x))) (l₂ := m.dropWhile (fun y => decide (y < x)))
  rw [h] at this
  exact this
 have h2 : m.drop (ahd x m) = m.dropWhile (fun y => decide (y < x)) := by
  have := List.drop_left (l₁ := m.takeWhile (fun y => decide (y < x))) (l₂ := m.dropWhile (fun y => decide (y < x)))
  rw [h] at this
  exact this
 rw [h1, h2]; rfl
theorem bl_lt : ∀ (x y : List UInt8), Op.bytesLess x y = decide (x < y)
 | [], [] => by simp [Op.bytesLess]
 | [], d :: y => by simp [Op.bytesLess]
 | c :: x, [] => by simp [Op.bytesLess]
 | c :: x, d :: y => by
   have ih := bl_lt x y
   unfold Op.bytesLess
   rw [ih]
   by_cases h : c < d
   · simp [List.cons_lt_cons_iff, h]
   · by_cases e : c = d
     · simp [e]
     · simp [List.cons_lt_cons_iff, h, e]
set_option maxRecDepth 100000 in
set_option maxHeartbeats 1000000 in
theorem rsort_some (l : List Sx.Wd) (B b cap : Nat) (w : World) (hl : l.length ≤ 1000) (hx : ∀ x ∈ l, x.length ≤ 1000) (ho : w.ownsRow B 9 1 (.slice (some ⟨b, 0, none⟩) l.length cap) l.length (stV l)) :
 Calls Tryz.prog 206 #[.slice (some ⟨b, 0, none⟩) l.length cap] w fun e w' => ∃ v, e = .returned v ∧ w'.ownsRow w.heap.size 9 1 v l.length (stV (Sx.sortW l)) ∧ Below w.heap.size w w' := by
 obtain ⟨i0, hi, hz0, hz1, hz2⟩ := info_parts Tryz.info9
 have hbw : b < w.heap.size := (ho.lt b rfl).2
 have HO := hide ho
 have HX := hide hx
 clear ho hx
 go_enter Tryz.func206, Tryz.ntmps206
 go_wp2
 go_loopw [3, 4] (fun m i wr => ∃ k : Nat, i = .int .i64 k ∧ k ≤ l.length ∧ wr.ownsRow w.heap.size 9 1 m k (stV (Sx.sortW (l.take k))) ∧ Below w.heap.size w wr) (fun _ i _ => (l.length - intOf i).toNat)
 case atStart => exact ⟨0, rfl, by omega, World.ownsRow_nil _ _ _ _, Below.refl _ _⟩
 case round =>
  obtain ⟨k, rfl, hk, hown, hB⟩ := hrel
  have hsz := hB.size
  rename World => wo
  by_cases hlt : k < l.length
  · have hown0 := own_later HO.out hB
    have hcell := own_strG hown0 k hlt
    obtain ⟨x, hxe⟩ : ∃ x, l[k] = x := ⟨_, rfl⟩
    rw [hxe] at hcell
    have hM := sortW_take l k hlt
    rw [hxe] at hM
    have hMl := sortW_len k l hk
    obtain ⟨M, hMe⟩ : ∃ M, Sx.sortW (l.take k) = M := ⟨_, rfl⟩
    rw [hMe] at hM hown hMl
    subst hMl
    have HM := hide hM
    clear hM hMe hxe hown0
    rcases hown.2 with ⟨rfl, h0⟩ | ⟨g, cap2, cur, rfl, hg1, hg2, hc1, hc2, hc3, hc4⟩
    · have hM0 : M = [] := List.eq_nil_of_length_eq_zero h0
      subst hM0
      clear hown h0
      go_wp2
      go_loopw [5] (fun a w2 => a = .int .i64 0 ∧ Below wo.heap.size wo w2) (fun _ _ => 0)
      case atStart => exact ⟨rfl, Below.refl _ _⟩
      case round =>
       obtain ⟨rfl, hB2⟩ := hrel
       have hsz2 := hB2.size
       have hcell2 := (hB2.cell (p := ⟨b, 0, none⟩) (by simp; omega)).trans hcell
       go_wp2
       go_quiet ((fail))
       go_wp2_with (first | (at_builtin; refine wpList_append_nothing _ rfl _ _ _ rfl 9 i0 Tryz.underlying34 hi _ rfl rfl (.inl rfl) ?_) | (at_builtin; go_must (refine wpList_append_lies _ rfl _ _ _ rfl w.heap.size 9 i0 (.string ⟨#[]⟩) 1 16 Tryz.underlying34 hi hz0 hz1 hz2 rfl (by decide) (.slice none 0 0) 0 [] rfl (World.ownsRow_nil _ _ _ _) ⟨_, 0, none⟩ 1 1 [.string ⟨x.toArray⟩] rfl rfl (cell_one_new _ _ _) (by simp [Value.oneCell']) (by omega) (by unfold maxLen; omega) (by omega) (by simp; omega) _ rfl ?_)))
       intro g2 cap2 w2 hown2 hgrow hat hlt1
       have hcap2 : 0 + 1 ≤ cap2 := (own_cells hown2).2.2.1
       go_wp2_with (at_builtin; refine wpList_append_nothing _ rfl _ _ _ rfl 9 i0 Tryz.underlying34 hi _ rfl rfl (.inr ⟨_, _, _, rfl, hcap2⟩) ?_)
       refine ⟨⟨1, rfl, by omega, ?_, below_app (Go.below_drewN (hB.trans (hB2.mono hsz)) nq) (by simp; omega) (World.ownsRow_nil _ _ 9 1) hgrow⟩, by simp [intOf]; omega⟩
       have := HM.out
       rw [List.length_nil, Nat.zero_add] at this
       rw [this]
       exact hown2
    · have hMa := ahd_le x M
      have hgl := (hown.lt g rfl).2
      have HOWN := hide hown
      have hxl := hide (fun (j : Nat) (h : j < M.length) => ahd_lt x M j h)
      clear hown hg2 hc3 hc4
      obtain ⟨a, ha⟩ : ∃ a, ahd x M = a := ⟨_, rfl⟩
      rw [ha] at hMa
      have HA := hide ha
      clear ha
      go_wp2
      go_loopw [5] (fun t w2 => ∃ j : Nat, t = .int .i64 j ∧ j ≤ a ∧ Below wo.heap.size wo w2) (fun t _ => (a - intOf t).toNat)
      case atStart => exact ⟨0, rfl, by omega, Below.refl _ _⟩
      case round =>
       obtain ⟨j, rfl, hj, hB2⟩ := hrel
       have hsz2 := hB2.size
       have hcell2 := (hB2.cell (p := ⟨b, M.length, none⟩) (by simp; omega)).trans hcell
       have hown2 := own_later HOWN.out hB2
       by_cases hja : j < a
       · have hjM : j < M.length := by omega
         have hc := own_strG hown2 j hjM
         have hlts : M[j] < x := hxl.out j hjM (by rw [HA.out]; exact hja)
         obtain ⟨y, hy⟩ : ∃ y, M[j] = y := ⟨_, rfl⟩
         rw [hy] at hc hlts
         clear hy
         have hbl : Op.bytesLess y x = true := by rw [bl_lt]; simpa using hlts
         clear hlts
         go_wp2
         go_quiet ((fail))
         go_wp2
         exact ⟨⟨j + 1, by go_num, by omega, Go.below_drewN hB2 _⟩, by simp [intOf]; omega⟩
       · have hja2 : j = a := by omega
         subst hja2
         clear hj hja
         have hB3 := hB.trans (hB2.mono hsz)
         have hsz3 := hB3.size
         have fin : ∀ (w2 : World) (v2 : Value) (n2 : Nat) (xs : List Value), w2.ownsRow w.heap.size 9 1 v2 n2 xs → n2 = M.length + 1 → xs = stV (M.take j) ++ .string ⟨x.toArray⟩ :: stV (M.drop j) → w2.ownsRow w.heap.size 9 1 v2 (M.length + 1) (stV (Sx.sortW (l.take (M.length + 1)))) := by
          intro w2 v2 n2 xs h hn2 hxs
          subst hn2 hxs
          rw [HM.out, insW_at, HA.out]
          simpa [stV] using h
         have FIN := hide fin
         clear fin
         by_cases hjM : j < M.length
         · have hc := own_strG hown2 j hjM
           have hnl : ¬ M[j] < x := by
            have := ahd_not x M (by rw [HA.out]; exact hjM)
            simpa [HA.out] using this
           obtain ⟨y, hy⟩ : ∃ y, M[j] = y := ⟨_, rfl⟩
           rw [hy] at hc hnl
           clear hy
           have hbl : Op.bytesLess y x = false := by rw [bl_lt]; simpa using hnl
           clear hnl
           go_wp2
           go_quiet ((fail))
           have hown3 : (wr.drewN nq).ownsRow w.heap.size 9 1 (.slice (some ⟨g, 0, none⟩) M.length cap2) M.length (stV M) := hown2
           have hn1 := newsS_take hown3 j
           have HN1 := hide hn1
           clear hn1
           go_wp2_with (at_builtin; go_must (refine wpList_append_own_at _ rfl _ _ _ rfl w.heap.size 9 i0 (.string ⟨#[]⟩) 1 16 Tryz.underlying34 hi hz0 hz1 hz2 rfl (by decide) (.slice none 0 0) 0 [] rfl (World.ownsRow_nil _ _ 9 1) ⟨g, 0, none⟩ j _ (stV (M.take j)) rfl (by simp [stV]; omega) HN1.out (st_one _) (by unfold maxLen; omega) (by omega) (by simp; omega) ?_))
           intro v1 w1 hown4 hgrow4 hnil4 hat4
           have hB4 : Below w.heap.size w w1 := (Go.below_drewN hB3 nq).grown hgrow4 (by simp; omega) (fun k e => by cases e)
           have hl4 := hown3.kept hgrow4 (.inr (by simp [Value.ownBlock]))
           have hsz4 := hB4.size
           have hcell4 : w1.cell? ⟨b, M.length, none⟩ = some (.string ⟨x.toArray⟩) := (hgrow4.cell_far ⟨b, M.length, none⟩ (by simp; omega) (by simp [Value.ownBlock])).trans hcell2
           have hne4 : (some g : Option Nat) ≠ v1.ownBlock := by
            rcases hat4 with h | h
            · rw [h]; simp [Value.ownBlock]
            · rw [h]; simp; omega
           try rw [Nat.zero_add] at hown4
           try rw [List.nil_append] at hown4
           clear hat4 hnil4 hgrow4 hown3 hown2
           go_wp2_with (at_builtin; go_must (refine wpList_append_lies _ rfl _ _ _ rfl w.heap.size 9 i0 (.string ⟨#[]⟩) 1 16 Tryz.underlying34 hi hz0 hz1 hz2 rfl (by decide) v1 j (stV (M.take j)) rfl (hown4.alloc _) ⟨_, 0, none⟩ 1 1 [.string ⟨x.toArray⟩] rfl rfl (cell_one_new _ _ _) (by simp [Value.oneCell']) (by omega) (by unfold maxLen; omega) (by omega) (by simp; omega) _ rfl ?_))
           intro g5 cap5 w5 hown5 hgrow5 hat5 hlt5
           have hB5 : Below w.heap.size w w5 := below_app hB4 hsz4 hown4 hgrow5
           have hl5 := (hl4.alloc (.cells #[.string ⟨x.toArray⟩] 9)).kept hgrow5 (.inr (by simpa [Value.ownBlock] using hne4))
           have hsz5 := hB5.size
           have hn5 := newsS_drop hl5 j
           have HN5 := hide hn5
           clear hn5 hat5 hgrow5 hl4
           by_cases hcr : cap2 = j
           · go_wp2_with (at_builtin; go_must (refine wpList_append_own_at _ rfl _ _ _ rfl w.heap.size 9 i0 (.string ⟨#[]⟩) 1 16 Tryz.underlying34 hi hz0 hz1 hz2 rfl (by decide) (.slice (some ⟨g5, 0, none⟩) (j + 1) cap5) (j + 1) (stV (M.take j) ++ [.string ⟨x.toArray⟩]) rfl hown5 ⟨g, 0, none⟩ (M.length - j) _ (stV (M.drop j)) rfl (by simp [stV]) (by rw [List.drop_eq_nil_of_le (by omega)]; simp [stV]) (st_one _) (by unfold maxLen; omega) (by omega) (by omega) ?_))
             intro v6 w6 hown6 hgrow6 hnil6 hat6
             have hB6 : Below w.heap.size w w6 := hB5.grown hgrow6 (by omega) (fun k e => (hown5.lt k e).1)
             have hfin := FIN.out _ _ _ _ hown6 (by omega) (by simp)
             clear hat6 hnil6 hgrow6 hown6
             go_wp2
             exact ⟨⟨M.length + 1, by go_num, by omega, hfin, hB6⟩, by simp [intOf]; omega⟩
           · go_wp2_with (at_builtin; go_must (refine wpList_append_own_at _ rfl _ _ _ rfl w.heap.size 9 i0 (.string ⟨#[]⟩) 1 16 Tryz.underlying34 hi hz0 hz1 hz2 rfl (by decide) (.slice (some ⟨g5, 0, none⟩) (j + 1) cap5) (j + 1) (stV (M.take j) ++ [.string ⟨x.toArray⟩]) rfl hown5 ⟨g, j, none⟩ (M.length - j) _ (stV (M.drop j)) rfl (by simp [stV]) HN5.out (st_one _) (by unfold maxLen; omega) (by omega) (by omega) ?_))
             intro v6 w6 hown6 hgrow6 hnil6 hat6
             have hB6 : Below w.heap.size w w6 := hB5.grown hgrow6 (by omega) (fun k e => (hown5.lt k e).1)
             have hfin := FIN.out _ _ _ _ hown6 (by omega) (by simp)
             clear hat6 hnil6 hgrow6 hown6
             go_wp2
             exact ⟨⟨M.length + 1, by go_num, by omega, hfin, hB6⟩, by simp [intOf]; omega⟩
         · have hjM2 : ¬ (j : Int) < (M.length : Int) := by omega
           go_wp2
           go_quiet ((fail))
           have hown3 : (wr.drewN nq).ownsRow w.heap.size 9 1 (.slice (some ⟨g, 0, none⟩) M.length cap2) M.length (stV M) := hown2
           have hn1 := newsS_take hown3 j
           have HN1 := hide hn1
           clear hn1
           go_wp2_with (at_builtin; go_must (refine wpList_append_own_at _ rfl _ _ _ rfl w.heap.size 9 i0 (.string ⟨#[]⟩) 1 16 Tryz.underlying34 hi hz0 hz1 hz2 rfl (by decide) (.slice none 0 0) 0 [] rfl (World.ownsRow_nil _ _ 9 1) ⟨g, 0, none⟩ j _ (stV (M.take j)) rfl (by simp [stV]; omega) HN1.out (st_one _) (by unfold maxLen; omega) (by omega) (by simp; omega) ?_))
           intro v1 w1 hown4 hgrow4 hnil4 hat4
           have hB4 : Below w.heap.size w w1 := (Go.below_drewN hB3 nq).grown hgrow4 (by simp; omega) (fun k e => by cases e)
           have hl4 := hown3.kept hgrow4 (.inr (by simp [Value.ownBlock]))
           have hsz4 := hB4.size
           have hcell4 : w1.cell? ⟨b, M.length, none⟩ = some (.string ⟨x.toArray⟩) := (hgrow4.cell_far ⟨b, M.length, none⟩ (by simp; omega) (by simp [Value.ownBlock])).trans hcell2
           have hne4 : (some g : Option Nat) ≠ v1.ownBlock := by
            rcases hat4 with h | h
            · rw [h]; simp [Value.ownBlock]
            · rw [h]; simp; omega
           try rw [Nat.zero_add] at hown4
           try rw [List.nil_append] at hown4
           clear hat4 hnil4 hgrow4 hown3 hown2
           go_wp2_with (at_builtin; go_must (refine wpList_append_lies _ rfl _ _ _ rfl w.heap.size 9 i0 (.string ⟨#[]⟩) 1 16 Tryz.underlying34 hi hz0 hz1 hz2 rfl (by decide) v1 j (stV (M.take j)) rfl (hown4.alloc _) ⟨_, 0, none⟩ 1 1 [.string ⟨x.toArray⟩] rfl rfl (cell_one_new _ _ _) (by simp [Value.oneCell']) (by omega) (by unfold maxLen; omega) (by omega) (by simp; omega) _ rfl ?_))
           intro g5 cap5 w5 hown5 hgrow5 hat5 hlt5
           have hB5 : Below w.heap.size w w5 := below_app hB4 hsz4 hown4 hgrow5
           have hl5 := (hl4.alloc (.cells #[.string ⟨x.toArray⟩] 9)).kept hgrow5 (.inr (by simpa [Value.ownBlock] using hne4))
           have hsz5 := hB5.size
           have hn5 := newsS_drop hl5 j
           have HN5 := hide hn5
           clear hn5 hat5 hgrow5 hl4
           by_cases hcr : cap2 = j
           · go_wp2_with (at_builtin; go_must (refine wpList_append_own_at _ rfl _ _ _ rfl w.heap.size 9 i0 (.string ⟨#[]⟩) 1 16 Tryz.underlying34 hi hz0 hz1 hz2 rfl (by decide) (.slice (some ⟨g5, 0, none⟩) (j + 1) cap5) (j + 1) (stV (M.take j) ++ [.string ⟨x.toArray⟩]) rfl hown5 ⟨g, 0, none⟩ (M.length - j) _ (stV (M.drop j)) rfl (by simp [stV]) (by rw [List.drop_eq_nil_of_le (by omega)]; simp [stV]) (st_one _) (by unfold maxLen; omega) (by omega) (by omega) ?_))
             intro v6 w6 hown6 hgrow6 hnil6 hat6
             have hB6 : Below w.heap.size w w6 := hB5.grown hgrow6 (by omega) (fun k e => (hown5.lt k e).1)
             have hfin := FIN.out _ _ _ _ hown6 (by omega) (by simp)
             clear hat6 hnil6 hgrow6 hown6
             go_wp2
             exact ⟨⟨M.length + 1, by go_num, by omega, hfin, hB6⟩, by simp [intOf]; omega⟩
           · go_wp2_with (at_builtin; go_must (refine wpList_append_own_at _ rfl _ _ _ rfl w.heap.size 9 i0 (.string ⟨#[]⟩) 1 16 Tryz.underlying34 hi hz0 hz1 hz2 rfl (by decide) (.slice (some ⟨g5, 0, none⟩) (j + 1) cap5) (j + 1) (stV (M.take j) ++ [.string ⟨x.toArray⟩]) rfl hown5 ⟨g, j, none⟩ (M.length - j) _ (stV (M.drop j)) rfl (by simp [stV]) HN5.out (st_one _) (by unfold maxLen; omega) (by omega) (by omega) ?_))
             intro v6 w6 hown6 hgrow6 hnil6 hat6
             have hB6 : Below w.heap.size w w6 := hB5.grown hgrow6 (by omega) (fun k e => (hown5.lt k e).1)
             have hfin := FIN.out _ _ _ _ hown6 (by omega) (by simp)
             clear hat6 hnil6 hgrow6 hown6
             go_wp2
             exact ⟨⟨M.length + 1, by go_num, by omega, hfin, hB6⟩, by simp [intOf]; omega⟩
  · have hkl : k = l.length := by omega
    subst hkl
    rw [List.take_length] at hown
    go_wp2
    go_ret
    exact ⟨_, rfl, hown, hB⟩
set_option maxRecDepth 100000 in
set_option maxHeartbeats 1000000 in
theorem rsort_nil (w : World) : Calls Tryz.prog 206 #[.slice none 0 0] w fun e w' => e = .returned (.slice none 0 0) ∧ w' = w := by
 go_enter Tryz.func206, Tryz.ntmps206
 go_wp2
 go_loopw [3, 4] (fun m i wr => m = .slice none 0 0 ∧ i = .int .i64 0 ∧ wr = w) (fun _ _ _ => 0)
 case atStart => exact ⟨rfl, rfl, rfl⟩
 case round =>
  obtain ⟨rfl, rfl, rfl⟩ := hrel
  go_wp2
  go_ret
  exact ⟨rfl, rfl⟩
end Go.Proofs.YtgohllfpceeboaaGreatDoor
