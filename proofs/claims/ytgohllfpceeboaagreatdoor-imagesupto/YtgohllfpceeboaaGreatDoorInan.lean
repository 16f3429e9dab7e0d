import Derived.Test.YtgohllfpceeboaaGreatDoorInam
namespace Go.Proofs.YtgohllfpceeboaaGreatDoor
abbrev wy (l : List (Int × Int)) (i : Nat) : Int × Int := l.getD i (0, 0)
def rotL (l : List (Int × Int)) (s m e : Nat) : List (Int × Int) := l.take s ++ (l.drop m).take (e - m) ++ (l.drop s).take (m - s) ++ l.drop e
theorem cutL (l : List (Int × Int)) (s m e : Nat) (h1 : s ≤ m) (h2 : m ≤ e) : l = l.take s ++ (l.drop s).take (m - s) ++ (l.drop m).take (e - m) ++ l.drop e := by
 have a1 : l = l.take s ++ l.drop s := (List.take_append_drop s l).symm
 have a2 : l.drop s = (l.drop s).take (m - s) ++ l.drop m := by
  conv => lhs; rw [← List.take_append_drop (m - s) (l.drop s)]
  rw [List.drop_drop, show s + (m - s) = m from by omega]
 have a3 : l.drop m = (l.drop m).take (e - m) ++ l.drop e := by
  conv => lhs; rw [← List.take_append_drop (e - m) (l.drop m)]
  rw [List.drop_drop, show m + (e - m) = e from by omega]
 rw [List.append_assoc, List.append_assoc, ← a3, ← a2]
 exact a1
theorem rotL_perm (l : List (Int × Int)) (s m e : Nat) (h1 : s ≤ m) (h2 : m ≤ e) : (rotL l s m e).Perm l := by
 conv => rhs; rw [cutL l s m e h1 h2]
 unfold rotL
 refine List.Perm.append_right _ ?_
 rw [List.append_assoc, List.append_assoc]
 exact List.Perm.append_left _ List.perm_append_comm
theorem rotL_get (l : List (Int × Int)) (s m e i : Nat) (h1 : s ≤ m) (h2 : m ≤ e) (h3 : e ≤ l.length) : wy (rotL l s m e) i = if i < s then wy l i else if i < s + (e - m) then wy l (i + (m - s)) else if i < e then wy l (i - (e - m)) else wy l i := by
 unfold rotL wy
 simp only [List.getD_eq_getElem?_getD, List.getElem?_append, List.length_append, List.length_take, List.length_drop, List.getElem?_take, List.getElem?_drop]
 have n1 : min s l.length = s := by omega
 have n2 : min (e - m) (l.length - m) = e - m := by omega
 have n3 : min (m - s) (l.length - s) = m - s := by omega
 rw [n1, n2, n3]
 by_cases c1 : i < s
 · rw [if_pos (by omega), if_pos (by omega), if_pos c1, if_pos c1, if_pos c1]
 · by_cases c2 : i < s + (e - m)
   · rw [if_pos (by omega), if_pos c2, if_neg c1, if_pos (by omega), if_neg c1, if_pos c2, show m + (i - s) = i + (m - s) from by omega]
   · by_cases c3 : i < e
     · rw [if_pos (by omega), if_neg c2, if_pos (by omega), if_neg c1, if_neg c2, if_pos c3, show s + (i - (s + (e - m))) = i - (e - m) from by omega]
     · rw [if_neg (by omega), if_neg c1, if_neg c2, if_neg c3, show e + (i - (s + (e - m) + (m - s))) = i from by omega]
def Moved (l r : List (Int × Int)) (a b : Nat) : Prop := r.Perm l ∧ Stb r ∧ (∀ i, (i < a ∨ b ≤ i) → wy r i = wy l i) ∧ (∀ i, a ≤ i → i < b → ∃ k, a ≤ k ∧ k < b ∧ wy r i = wy l k)
theorem Moved.refl {l : List (Int × Int)} (h : Stb l) (a b : Nat) : Moved l l a b := ⟨.refl _, h, fun _ _ => rfl, fun i h1 h2 => ⟨i, h1, h2, rfl⟩⟩
theorem Moved.wide {l r : List (Int × Int)} {a b a' b' : Nat} (h : Moved l r a b) (h1 : a' ≤ a) (h2 : b ≤ b') : Moved l r a' b' := by
 obtain ⟨g1, g2, g3, g4⟩ := h
 refine ⟨g1, g2, fun i hi => g3 i (by omega), fun i hi1 hi2 => ?_⟩
 by_cases c : a ≤ i ∧ i < b
 · obtain ⟨k, k1, k2, k3⟩ := g4 i c.1 c.2
   exact ⟨k, by omega, by omega, k3⟩
 · exact ⟨i, hi1, hi2, g3 i (by omega)⟩
theorem Moved.trans {l r t : List (Int × Int)} {a b : Nat} (h : Moved l r a b) (k : Moved r t a b) : Moved l t a b := by
 obtain ⟨g1, g2, g3, g4⟩ := h
 obtain ⟨k1, k2, k3, k4⟩ := k
 refine ⟨k1.trans g1, k2, fun i hi => (k3 i hi).trans (g3 i hi), fun i hi1 hi2 => ?_⟩
 obtain ⟨j, j1, j2, j3⟩ := k4 i hi1 hi2
 obtain ⟨q, q1, q2, q3⟩ := g4 j j1 j2
 exact ⟨q, q1, q2, j3.trans q3⟩
theorem rotL_moved (l : List (Int × Int)) (s m e : Nat) (h1 : s ≤ m) (h2 : m ≤ e) (h3 : e ≤ l.length) (hs : Stb l) (hx : ∀ i k, s ≤ i → i < m → m ≤ k → k < e → (wy l k).1 < (wy l i).1) : Moved l (rotL l s m e) s e := by
 refine ⟨rotL_perm l s m e h1 h2, ?_, ?_, ?_⟩
 · intro i k hik hk
   have hk : k < l.length := by rw [(rotL_perm l s m e h1 h2).length_eq] at hk; exact hk
   show (wy (rotL l s m e) i).1 = (wy (rotL l s m e) k).1 → (wy (rotL l s m e) i).2 < (wy (rotL l s m e) k).2
   rw [rotL_get l s m e i h1 h2 h3, rotL_get l s m e k h1 h2 h3]
   by_cases a1 : i < s
   · rw [if_pos a1]
     by_cases b1 : k < s
     · rw [if_pos b1]; exact hs _ _ hik hk
     · rw [if_neg b1]
       by_cases b2 : k < s + (e - m)
       · rw [if_pos b2]; exact hs _ _ (by omega) (by omega)
       · rw [if_neg b2]
         by_cases b3 : k < e
         · rw [if_pos b3]; exact hs _ _ (by omega) (by omega)
         · rw [if_neg b3]; exact hs _ _ hik hk
   · rw [if_neg a1, if_neg (show ¬ k < s by omega)]
     by_cases a2 : i < s + (e - m)
     · rw [if_pos a2]
       by_cases b2 : k < s + (e - m)
       · rw [if_pos b2]; exact hs _ _ (by omega) (by omega)
       · rw [if_neg b2]
         by_cases b3 : k < e
         · rw [if_pos b3]
           intro he
           have := hx (k - (e - m)) (i + (m - s)) (by omega) (by omega) (by omega) (by omega)
           omega
         · rw [if_neg b3]; exact hs _ _ (by omega) hk
     · rw [if_neg a2, if_neg (show ¬ k < s + (e - m) by omega)]
       by_cases a3 : i < e
       · rw [if_pos a3]
         by_cases b3 : k < e
         · rw [if_pos b3]; exact hs _ _ (by omega) (by omega)
         · rw [if_neg b3]; exact hs _ _ (by omega) hk
       · rw [if_neg a3, if_neg (show ¬ k < e by omega)]; exact hs _ _ hik hk
 · intro i hi
   rw [rotL_get l s m e i h1 h2 h3]
   by_cases a1 : i < s
   · rw [if_pos a1]
   · rw [if_neg a1, if_neg (by omega), if_neg (by omega)]
 · intro i hi1 hi2
   rw [rotL_get l s m e i h1 h2 h3, if_neg (by omega)]
   by_cases a2 : i < s + (e - m)
   · rw [if_pos a2]; exact ⟨_, by omega, by omega, rfl⟩
   · rw [if_neg a2, if_pos hi2]; exact ⟨_, by omega, by omega, rfl⟩
theorem Risen.le {l : List (Int × Int)} {a b : Nat} (h : Risen l a b) (i k : Nat) (h1 : a ≤ i) (h2 : i ≤ k) (h3 : k < b) : (wy l i).1 ≤ (wy l k).1 := by
 by_cases e : i = k
 · rw [e]; exact Int.le_refl _
 · exact h i k h1 (by omega) h3
theorem Risen.part {l : List (Int × Int)} {a b a' b' : Nat} (h : Risen l a b) (h1 : a ≤ a') (h2 : b' ≤ b) : Risen l a' b' := fun i k hi hik hk => h i k (by omega) hik (by omega)
theorem sym_mid (l : List (Int × Int)) (a m b mid s e : Nat) (ham : a < m) (hb : b ≤ l.length) (hs : Stb l) (h1 : Risen l a m) (h2 : Risen l m b) (he : e + s = mid + m) (hsa : a ≤ s) (hsm : s ≤ m) (hsd : s ≤ mid) (heb : e ≤ b)
 (hx : s < m → m < e → (wy l (e - 1)).1 < (wy l s).1) (hy : a < s → e < b → (wy l (s - 1)).1 ≤ (wy l e).1) :
 ∃ r, r = (if s < m ∧ m < e then rotL l s m e else l) ∧ Moved l r a b ∧ Risen r a s ∧ Risen r s mid ∧ Risen r mid e ∧ Risen r e b ∧ ∀ i k, a ≤ i → i < mid → mid ≤ k → k < b → (wy r i).1 ≤ (wy r k).1 := by
 refine ⟨_, rfl, ?_⟩
 by_cases hc : s < m ∧ m < e
 · rw [if_pos hc]
   obtain ⟨c1, c2⟩ := hc
   have hx' := hx c1 c2
   have hlow : ∀ i k, s ≤ i → i < m → m ≤ k → k < e → (wy l k).1 < (wy l i).1 := by
    intro i k i1 i2 k1 k2
    have z1 := h1.le s i hsa i1 i2
    have z2 := h2.le k (e - 1) k1 (by omega) (by omega)
    omega
   have hg := fun i => rotL_get l s m e i hsm (by omega) (by omega)
   have hside : ∀ i k, a ≤ i → i < s → e ≤ k → k < b → (wy l i).1 ≤ (wy l k).1 := by
    intro i k i1 i2 k1 k2
    have z1 := h1.le i (s - 1) i1 (by omega) (by omega)
    have z2 := h2.le e k (by omega) k1 k2
    have z3 := hy (by omega) (by omega)
    omega
   refine ⟨(rotL_moved l s m e hsm (by omega) (by omega) hs hlow).wide hsa heb, ?_, ?_, ?_, ?_, ?_⟩
   · intro i k i1 ik k1
     show (wy (rotL l s m e) i).1 ≤ (wy (rotL l s m e) k).1
     rw [hg i, hg k, if_pos (by omega), if_pos (by omega)]
     exact h1.le _ _ i1 (by omega) (by omega)
   · intro i k i1 ik k1
     show (wy (rotL l s m e) i).1 ≤ (wy (rotL l s m e) k).1
     rw [hg i, hg k, if_neg (by omega), if_pos (by omega), if_neg (by omega), if_pos (by omega)]
     exact h2.le _ _ (by omega) (by omega) (by omega)
   · intro i k i1 ik k1
     show (wy (rotL l s m e) i).1 ≤ (wy (rotL l s m e) k).1
     rw [hg i, hg k, if_neg (by omega), if_neg (by omega), if_pos (by omega), if_neg (by omega), if_neg (by omega), if_pos (by omega)]
     exact h1.le _ _ (by omega) (by omega) (by omega)
   · intro i k i1 ik k1
     show (wy (rotL l s m e) i).1 ≤ (wy (rotL l s m e) k).1
     rw [hg i, hg k, if_neg (by omega), if_neg (by omega), if_neg (by omega), if_neg (by omega), if_neg (by omega), if_neg (by omega)]
     exact h2.le _ _ (by omega) (by omega) (by omega)
   · intro i k i1 i2 k1 k2
     rw [hg i, hg k, if_neg (show ¬ k < s by omega), if_neg (show ¬ k < s + (e - m) by omega)]
     by_cases a1 : i < s
     · rw [if_pos a1]
       by_cases b3 : k < e
       · rw [if_pos b3]; exact h1.le _ _ i1 (by omega) (by omega)
       · rw [if_neg b3]; exact hside _ _ i1 a1 (by omega) k2
     · rw [if_neg a1, if_pos (by omega)]
       by_cases b3 : k < e
       · rw [if_pos b3]
         have := hlow (k - (e - m)) (i + (m - s)) (by omega) (by omega) (by omega) (by omega)
         omega
       · rw [if_neg b3]; exact h2.le _ _ (by omega) (by omega) k2
 · rw [if_neg hc]
   refine ⟨.refl hs a b, h1.part (by omega) hsm, ?_, ?_, h2.part (by omega) (by omega), ?_⟩
   · intro i k i1 ik k1
     exact h2.le i k (by omega) (by omega) (by omega)
   · intro i k i1 ik k1
     exact h1.le i k (by omega) (by omega) (by omega)
   · intro i k i1 i2 k1 k2
     by_cases c : s < m
     · have e1 : e = m := by omega
       by_cases b1 : k < m
       · exact h1.le i k i1 (by omega) b1
       · have z1 := h1.le i (s - 1) i1 (by omega) (by omega)
         have z2 := h2.le e k (by omega) (by omega) k2
         have z3 := hy (by omega) (by omega)
         omega
     · by_cases b1 : i < m
       · have z1 := h1.le i (s - 1) i1 (by omega) (by omega)
         have z2 := h2.le e k (by omega) (by omega) k2
         have z3 := hy (by omega) (by omega)
         omega
       · exact h2.le i k (by omega) (by omega) k2
theorem sym_end {l r t u : List (Int × Int)} {a b mid : Nat} (hm : Moved l r a b) (hc : ∀ i k, a ≤ i → i < mid → mid ≤ k → k < b → (wy r i).1 ≤ (wy r k).1) (ha : a ≤ mid) (hb : mid ≤ b) (ht : Moved r t a mid) (ht2 : Risen t a mid) (hu : Moved t u mid b) (hu2 : Risen u mid b) : Moved l u a b ∧ Risen u a b := by
 refine ⟨(hm.trans (ht.wide (Nat.le_refl _) hb)).trans (hu.wide ha (Nat.le_refl _)), ?_⟩
 intro i k i1 ik k1
 by_cases c1 : k < mid
 · show (wy u i).1 ≤ (wy u k).1
   rw [hu.2.2.1 i (by omega), hu.2.2.1 k (by omega)]
   exact ht2 i k i1 ik c1
 · by_cases c2 : mid ≤ i
   · exact hu2 i k c2 ik k1
   · obtain ⟨q, q1, q2, q3⟩ := ht.2.2.2 i i1 (by omega)
     obtain ⟨v, v1, v2, v3⟩ := hu.2.2.2 k (by omega) k1
     show (wy u i).1 ≤ (wy u k).1
     rw [hu.2.2.1 i (by omega), q3, v3, ht.2.2.1 v (by omega)]
     exact hc q v q1 q2 v1 v2
theorem wy_ext {l r : List (Int × Int)} (h : l.length = r.length) (k : ∀ i, wy l i = wy r i) : l = r := by
 refine List.ext_getElem h fun i h1 h2 => ?_
 have := k i
 unfold wy at this
 rw [List.getD_eq_getElem?_getD, List.getElem?_eq_getElem h1, List.getD_eq_getElem?_getD, List.getElem?_eq_getElem h2, Option.getD_some, Option.getD_some] at this
 exact this
theorem rotL_len (l : List (Int × Int)) (s m e : Nat) (h1 : s ≤ m) (h2 : m ≤ e) : (rotL l s m e).length = l.length := (rotL_perm l s m e h1 h2).length_eq
theorem rotL_none (l : List (Int × Int)) (s m : Nat) (h : s ≤ m) : rotL l s m m = l := by
 have := cutL l s m m h (Nat.le_refl _)
 rw [Nat.sub_self, List.take_zero, List.append_nil] at this
 unfold rotL
 rw [Nat.sub_self, List.take_zero, List.append_nil]
 exact this.symm
theorem rotL_none' (l : List (Int × Int)) (m e : Nat) (h : m ≤ e) : rotL l m m e = l := by
 have := cutL l m m e (Nat.le_refl _) h
 rw [Nat.sub_self, List.take_zero, List.append_nil] at this
 unfold rotL
 rw [Nat.sub_self, List.take_zero, List.append_nil]
 exact this.symm
theorem rotL_right (l : List (Int × Int)) (a k : Nat) (h1 : a ≤ k) (h2 : k + 1 < l.length) : swapL (rotL l a (a + 1) (k + 1)) k (k + 1) = rotL l a (a + 1) (k + 2) := by
 have n1 := rotL_len l a (a + 1) (k + 1) (by omega) (by omega)
 refine wy_ext (by rw [swapL_len, n1, rotL_len _ _ _ _ (by omega) (by omega)]) fun i => ?_
 show (swapL _ _ _).getD i (0, 0) = _
 rw [swapL_getD _ _ _ _ (by omega) (by omega), rotL_get l a (a + 1) (k + 2) i (by omega) (by omega) (by omega)]
 show (if i = k + 1 then wy (rotL l a (a + 1) (k + 1)) k else if i = k then wy (rotL l a (a + 1) (k + 1)) (k + 1) else wy (rotL l a (a + 1) (k + 1)) i) = _
 rw [rotL_get l a (a + 1) (k + 1) k (by omega) (by omega) (by omega), rotL_get l a (a + 1) (k + 1) (k + 1) (by omega) (by omega) (by omega), rotL_get l a (a + 1) (k + 1) i (by omega) (by omega) (by omega)]
 by_cases c1 : i = k + 1
 · subst c1
   rw [if_pos rfl, if_neg (by omega), if_neg (by omega), if_pos (by omega), if_neg (by omega), if_neg (by omega), if_pos (by omega), show k - (k + 1 - (a + 1)) = k + 1 - (k + 2 - (a + 1)) from by omega]
 · rw [if_neg c1]
   by_cases c2 : i = k
   · subst c2
     rw [if_pos rfl, if_neg (by omega), if_neg (by omega), if_neg (by omega), if_neg (by omega), if_pos (by omega), show i + (a + 1 - a) = i + 1 from by omega]
   · rw [if_neg c2]
     by_cases c3 : i < a
     · rw [if_pos c3, if_pos c3]
     · rw [if_neg c3, if_neg c3]
       by_cases c4 : i < k
       · rw [if_pos (by omega), if_pos (by omega)]
       · rw [if_neg (by omega), if_neg (by omega), if_neg (by omega), if_neg (by omega)]
theorem rotL_left (l : List (Int × Int)) (k m : Nat) (h1 : k + 1 ≤ m) (h2 : m < l.length) : swapL (rotL l (k + 1) m (m + 1)) (k + 1) k = rotL l k m (m + 1) := by
 have n1 := rotL_len l (k + 1) m (m + 1) (by omega) (by omega)
 refine wy_ext (by rw [swapL_len, n1, rotL_len _ _ _ _ (by omega) (by omega)]) fun i => ?_
 show (swapL _ _ _).getD i (0, 0) = _
 rw [swapL_getD _ _ _ _ (by omega) (by omega), rotL_get l k m (m + 1) i (by omega) (by omega) (by omega)]
 show (if i = k then wy (rotL l (k + 1) m (m + 1)) (k + 1) else if i = k + 1 then wy (rotL l (k + 1) m (m + 1)) k else wy (rotL l (k + 1) m (m + 1)) i) = _
 rw [rotL_get l (k + 1) m (m + 1) k (by omega) (by omega) (by omega), rotL_get l (k + 1) m (m + 1) (k + 1) (by omega) (by omega) (by omega), rotL_get l (k + 1) m (m + 1) i (by omega) (by omega) (by omega)]
 by_cases c1 : i = k
 · subst c1
   rw [if_pos rfl, if_neg (by omega), if_pos (by omega), if_neg (by omega), if_pos (by omega), show i + 1 + (m - (i + 1)) = i + (m - i) from by omega]
 · rw [if_neg c1]
   by_cases c2 : i = k + 1
   · subst c2
     rw [if_pos rfl, if_pos (by omega), if_neg (by omega), if_neg (by omega), if_pos (by omega), show k + 1 - (m + 1 - m) = k from by omega]
   · rw [if_neg c2]
     by_cases c3 : i < k
     · rw [if_pos (by omega), if_pos c3]
     · rw [if_neg (show ¬ i < k + 1 by omega), if_neg c3, if_neg (show ¬ i < k + 1 + (m + 1 - m) by omega), if_neg (show ¬ i < k + (m + 1 - m) by omega)]
theorem sym_one_left (l : List (Int × Int)) (a i b : Nat) (h1 : a + 1 ≤ i) (h2 : i ≤ b) (hb : b ≤ l.length) (hs : Stb l) (hr : Risen l (a + 1) b) (hx : a + 1 < i → (wy l (i - 1)).1 < (wy l a).1) (hy : i < b → (wy l a).1 ≤ (wy l i).1) :
 Moved l (rotL l a (a + 1) i) a b ∧ Risen (rotL l a (a + 1) i) a b := by
 have hlow : ∀ p k, a ≤ p → p < a + 1 → a + 1 ≤ k → k < i → (wy l k).1 < (wy l p).1 := by
  intro p k p1 p2 k1 k2
  have z1 := hx (by omega)
  have z2 := hr.le k (i - 1) k1 (by omega) (by omega)
  rw [show p = a from by omega]
  omega
 refine ⟨(rotL_moved l a (a + 1) i (by omega) h1 (by omega) hs hlow).wide (Nat.le_refl _) h2, ?_⟩
 intro p k p1 pk k1
 show (wy _ p).1 ≤ (wy _ k).1
 rw [rotL_get l a (a + 1) i p (by omega) h1 (by omega), rotL_get l a (a + 1) i k (by omega) h1 (by omega), if_neg (by omega), if_neg (show ¬ k < a by omega)]
 by_cases c1 : k < a + (i - (a + 1))
 · rw [if_pos (by omega), if_pos c1]
   exact hr.le _ _ (by omega) (by omega) (by omega)
 · rw [if_neg c1]
   by_cases c2 : k < i
   · rw [if_pos c2, if_pos (by omega)]
     exact Int.le_of_lt (hlow _ _ (by omega) (by omega) (by omega) (by omega))
   · rw [if_neg c2]
     by_cases c3 : p < a + (i - (a + 1))
     · rw [if_pos c3]; exact hr.le _ _ (by omega) (by omega) (by omega)
     · rw [if_neg c3]
       by_cases c4 : p < i
       · rw [if_pos c4, show p - (i - (a + 1)) = a from by omega]
         have z1 := hy (by omega)
         have z2 := hr.le i k (by omega) (by omega) (by omega)
         omega
       · rw [if_neg c4]; exact hr.le _ _ (by omega) (by omega) (by omega)
theorem sym_one_right (l : List (Int × Int)) (a i m : Nat) (h1 : a ≤ i) (h2 : i ≤ m) (hb : m < l.length) (hs : Stb l) (hr : Risen l a m) (hx : i < m → (wy l m).1 < (wy l i).1) (hy : a < i → (wy l (i - 1)).1 ≤ (wy l m).1) :
 Moved l (rotL l i m (m + 1)) a (m + 1) ∧ Risen (rotL l i m (m + 1)) a (m + 1) := by
 have hlow : ∀ p k, i ≤ p → p < m → m ≤ k → k < m + 1 → (wy l k).1 < (wy l p).1 := by
  intro p k p1 p2 k1 k2
  have z1 := hx (by omega)
  have z2 := hr.le i p h1 p1 p2
  rw [show k = m from by omega]
  omega
 refine ⟨(rotL_moved l i m (m + 1) h2 (by omega) (by omega) hs hlow).wide h1 (Nat.le_refl _), ?_⟩
 intro p k p1 pk k1
 show (wy _ p).1 ≤ (wy _ k).1
 rw [rotL_get l i m (m + 1) p h2 (by omega) (by omega), rotL_get l i m (m + 1) k h2 (by omega) (by omega)]
 by_cases c1 : k < i
 · rw [if_pos (by omega), if_pos c1]; exact hr.le _ _ p1 (by omega) (by omega)
 · rw [if_neg c1]
   by_cases c2 : k < i + (m + 1 - m)
   · rw [if_pos c2, if_pos (by omega), show k + (m - i) = m from by omega]
     have z1 := hy (by omega)
     have z2 := hr.le p (i - 1) p1 (by omega) (by omega)
     omega
   · rw [if_neg c2, if_pos k1]
     by_cases c3 : p < i
     · rw [if_pos c3]; exact hr.le _ _ p1 (by omega) (by omega)
     · rw [if_neg c3]
       by_cases c4 : p < i + (m + 1 - m)
       · rw [if_pos c4]
         exact Int.le_of_lt (hlow _ _ (by omega) (by omega) (by omega) (by omega))
       · rw [if_neg c4, if_pos (by omega)]; exact hr.le _ _ (by omega) (by omega) (by omega)
end Go.Proofs.YtgohllfpceeboaaGreatDoor
namespace Go.Proofs.YtgohllfpceeboaaGreatDoor
open Go.RowKit
attribute [local go_sem ↓] Go.wp_at_zero Go.wp_at_succ
set_option maxRecDepth 100000 in
set_option maxHeartbeats 1000000 in
theorem psm_left (l : List (Int × Int)) (g cap a b : Nat) (w : World) (hw : WaysAt w g l) (hl : l.length ≤ 1000) (ha : a + 1 < b) (hb : b ≤ l.length) (hs : Stb l) (hr : Risen l (a + 1) b) (am : Int) (ham : am = (a : Int) + 1) :
 Calls Tryz.prog 267 #[.slice (some ⟨g, 0, none⟩) l.length cap, .int .i64 a, .int .i64 am, .int .i64 b, .func (.func 224) #[] #[]] w fun e w' => (∃ v, e = .returned v) ∧ (∃ r, Moved l r a b ∧ Risen r a b ∧ WaysAt w' g r) ∧ w.grownBy w' (some g) := by
 have HW := hide hw
 have HS := hide hs
 have HR := hide hr
 clear hw hs hr
 have hd1 : am - (a : Int) = 1 := by omega
 have HAM := hide ham
 clear ham
 go_enter Tryz.func267, Tryz.ntmps267
 go_wp2
 go_loopw [10, 11] (fun iv jv wr => ∃ I J : Nat, iv = .int .i64 I ∧ jv = .int .i64 J ∧ a + 1 ≤ I ∧ I ≤ J ∧ J ≤ b ∧ (a + 1 < I → (wy l (I - 1)).1 < (wy l a).1) ∧ (J < b → (wy l a).1 ≤ (wy l J).1) ∧ WaysAt wr g l ∧ w.grownBy wr (some g)) (fun iv jv _ => (intOf jv - intOf iv).toNat)
 case atStart => exact ⟨a + 1, b, by rw [HAM.out]; rfl, rfl, by omega, by omega, by omega, fun h => absurd h (by omega), fun h => absurd h (by omega), HW.out, ⟨rfl, rfl, rfl, Nat.le_refl _, fun _ _ _ => rfl⟩⟩
 case round =>
  obtain ⟨I, J, rfl, rfl, hI, hIJ, hJ, hx, hy, hwr, hgr⟩ := hrel
  have HX := hide hx
  have HY := hide hy
  have HWR := hide hwr
  have hglt := hwr.1
  clear hx hy
  by_cases hlt : I < J
  · have hd2 : decide ((I : Int) < (J : Int)) = true := by simp; omega
    obtain ⟨h, hh1, hh2⟩ : ∃ h : Nat, h * 2 ≤ I + J ∧ I + J ≤ h * 2 + 1 := ⟨(I + J) / 2, by omega, by omega⟩
    have hhl : h < l.length := by omega
    have hal : a < l.length := by omega
    go_wp2
    have hq : ((I : Int) + (J : Int)) / 2 = (h : Int) := by omega
    rw [hq]
    have HQ := hide hq
    clear hq
    obtain ⟨j1, j2⟩ := hwr.2.1 h hhl
    obtain ⟨i1, i2⟩ := hwr.2.1 a hal
    have q1 : wy l h = l[h]'hhl := by unfold wy; rw [List.getD_eq_getElem?_getD, List.getElem?_eq_getElem hhl, Option.getD_some]
    have q2 : wy l a = l[a]'hal := by unfold wy; rw [List.getD_eq_getElem?_getD, List.getElem?_eq_getElem hal, Option.getD_some]
    rw [← q1] at j1 j2
    rw [← q2] at i1 i2
    obtain ⟨x, hx⟩ : ∃ x, wy l h = x := ⟨_, rfl⟩
    obtain ⟨z, hz⟩ : ∃ z, wy l a = z := ⟨_, rfl⟩
    rw [hx] at j1 j2
    rw [hz] at i1 i2
    have HXX := hide hx
    have HZ := hide hz
    have hfz := hwr.2.2
    clear q1 q2 hx hz hwr
    obtain ⟨x1, x2⟩ := x
    obtain ⟨z1, z2⟩ := z
    have e1 : (0 : Int) ≤ (h : Int) := by omega
    have e2 : (h : Int) < (l.length : Int) := by omega
    have e3 : (0 : Int) ≤ (a : Int) := by omega
    have e4 : (a : Int) < (l.length : Int) := by omega
    obtain ⟨v, hv⟩ : ∃ v, cmpI x1 z1 = v := ⟨_, rfl⟩
    have HCM := hide hv
    clear hv
    go_region_held3 (fun w' => (w'.cell? ⟨g, h * 2, none⟩ = some (.int .i64 x1) ∧ w'.cell? ⟨g, h * 2 + 1, none⟩ = some (.int .i64 x2)) ∧ (w'.cell? ⟨g, a * 2, none⟩ = some (.int .i64 z1) ∧ w'.cell? ⟨g, a * 2 + 1, none⟩ = some (.int .i64 z2))) (first | exact ⟨⟨(hB.cell (p := ⟨g, h * 2, none⟩) hglt).trans j1, (hB.cell (p := ⟨g, h * 2 + 1, none⟩) hglt).trans j2⟩, (hB.cell (p := ⟨g, a * 2, none⟩) hglt).trans i1, (hB.cell (p := ⟨g, a * 2 + 1, none⟩) hglt).trans i2⟩ | go_keep) ((go_at_call 224; refine (pcw_any x1 x2 z1 z2 _).mono ?_; rintro e w' ⟨rfl, hB⟩; rw [HCM.out]))
    have hB2 : Below wr.heap.size wr w' := ((Below.refl wr.heap.size wr).drew).trans hB
    have hwm' := HWR.out.below hB2 hglt
    have HWM' := hide hwm'
    have hgr3 := grown_trans hgr (grown_below (r := some g) hB2 (Nat.le_refl _))
    clear hwm' hB hB2 j1 j2 i1 i2 hfz hgr HWR
    by_cases hc : x1 < z1
    · have hd3 : decide (v < 0) = true := by rw [← HCM.out]; unfold cmpI; rw [if_pos hc]; rfl
      rw [hd3]
      go_wp2
      exact ⟨⟨h + 1, J, by go_num, rfl, by omega, by omega, by omega, fun _ => by rw [Nat.add_sub_cancel, HXX.out, HZ.out]; exact hc, HY.out, HWM'.out, hgr3⟩, by simp [intOf]; omega⟩
    · have hd3 : decide (v < 0) = false := by rw [← HCM.out]; unfold cmpI; rw [if_neg hc]; split <;> simp
      rw [hd3]
      go_wp2
      exact ⟨⟨I, h, rfl, rfl, by omega, by omega, by omega, HX.out, fun _ => by rw [HXX.out, HZ.out]; exact Int.not_lt.mp hc, HWM'.out, hgr3⟩, by simp [intOf]; omega⟩
  · have hd2 : decide ((I : Int) < (J : Int)) = false := by simp; omega
    have hIJ' : I = J := by omega
    subst hIJ'
    have hm := sym_one_left l a I b hI hJ hb HS.out HR.out HX.out HY.out
    have HM := hide hm
    clear hm hwr
    go_wp2
    go_loopw [13] (fun kv wr => ∃ K : Nat, kv = .int .i64 K ∧ a ≤ K ∧ K + 1 ≤ I ∧ WaysAt wr g (rotL l a (a + 1) (K + 1)) ∧ w.grownBy wr (some g)) (fun kv _ => (I - intOf kv).toNat)
    case atStart => exact ⟨a, rfl, by omega, by omega, by rw [rotL_none l a (a + 1) (by omega)]; exact HWR.out, hgr⟩
    case round =>
     obtain ⟨K, rfl, hK1, hK2, hwk, hgk⟩ := hrel
     have HWK := hide hwk
     clear hgr HWR hglt
     have hglt := hwk.1
     by_cases hlt2 : K + 1 < I
     · have hd4 : decide ((K : Int) < (I : Int) - 1) = true := by simp; omega
       have hst := rotL_right l a K hK1 (by omega)
       have hml := rotL_len l a (a + 1) (K + 1) (by omega) (by omega)
       obtain ⟨m, hmm⟩ : ∃ m, rotL l a (a + 1) (K + 1) = m := ⟨_, rfl⟩
       rw [hmm] at hwk hst hml
       have HST := hide hst
       clear hst hmm
       have hkl : K < m.length := by omega
       have hkl2 : K + 1 < m.length := by omega
       obtain ⟨j1, j2⟩ := hwk.2.1 K hkl
       obtain ⟨i1, i2⟩ := hwk.2.1 (K + 1) hkl2
       obtain ⟨x, hx⟩ : ∃ x, m[K]'hkl = x := ⟨_, rfl⟩
       obtain ⟨z, hz⟩ : ∃ z, m[K + 1]'hkl2 = z := ⟨_, rfl⟩
       rw [hx] at j1 j2
       rw [hz] at i1 i2
       obtain ⟨x1, x2⟩ := x
       obtain ⟨z1, z2⟩ := z
       have hfz := hwk.2.2
       have hset := (hwk.set K hkl (z1, z2)).set (K + 1) (by simp; omega) (x1, x2)
       have HSET := hide hset
       have hsw : (m.set K (z1, z2)).set (K + 1) (x1, x2) = swapL m K (K + 1) := by
        unfold swapL
        rw [List.getD_eq_getElem?_getD, List.getElem?_eq_getElem hkl2, List.getD_eq_getElem?_getD, List.getElem?_eq_getElem hkl, Option.getD_some, Option.getD_some, hx, hz]
       have HSW := hide hsw
       clear hset hsw hx hz hwk
       have hfo : Tryz.prog.follows Departure.mixedOrders = true := by kernel_rfl
       obtain ⟨K', hk1, hk2⟩ : ∃ K' : Nat, K' ≤ K + 1 ∧ K + 1 ≤ K' := ⟨K + 1, by omega, by omega⟩
       have hkk : K + 1 = K' := by omega
       rw [hkk] at i1 i2
       have HKK := hide hkk
       clear hkk
       have e1 : (0 : Int) ≤ (K : Int) := by omega
       have e2 : (K : Int) < (l.length : Int) := by omega
       have e3 : (0 : Int) ≤ (K' : Int) := by omega
       have e4 : (K' : Int) < (l.length : Int) := by omega
       have f3 : (K : Int) + 1 = (K' : Int) := by omega
       have f5 : IntKind.i64.wrap (K' : Int) = (K' : Int) := by rw [IntWalk.i64_left]; exact IntWalk.wrap64_in _ (by omega)
       go_wp2
       go_big_region_o
       all_goals go_wp2
       refine ⟨⟨K', rfl, by omega, by omega, ?_, grown_drew (grown_set (grown_set (grown_set (grown_set hgk _ _) _ _) _ _) _ _)⟩, by simp [intOf]; omega⟩
       rw [← HKK.out, ← HST.out, ← HSW.out]
       have := HSET.out
       rw [HKK.out] at this ⊢
       exact this
     · have hd4 : decide ((K : Int) < (I : Int) - 1) = false := by simp; omega
       have hKI : K + 1 = I := by omega
       rw [hKI] at HWK
       clear hwk
       have HKI := hide hKI
       clear hKI
       go_wp2
       refine bodyPost_ret (results_none rfl _ _ _) rfl ?_
       exact ⟨⟨_, rfl⟩, ⟨_, HM.out.1, HM.out.2, HWK.out⟩, hgk⟩
end Go.Proofs.YtgohllfpceeboaaGreatDoor
namespace Go.Proofs.YtgohllfpceeboaaGreatDoor
open Go.RowKit
attribute [local go_sem ↓] Go.wp_at_zero Go.wp_at_succ
set_option maxRecDepth 100000 in
set_option maxHeartbeats 1000000 in
theorem psm_right (l : List (Int × Int)) (g cap a m : Nat) (w : World) (hw : WaysAt w g l) (hl : l.length ≤ 1000) (ha : a + 1 < m) (hb : m < l.length) (hs : Stb l) (hr : Risen l a m) (am : Int) (ham : am = (m : Int) + 1) :
 Calls Tryz.prog 267 #[.slice (some ⟨g, 0, none⟩) l.length cap, .int .i64 a, .int .i64 m, .int .i64 am, .func (.func 224) #[] #[]] w fun e w' => (∃ v, e = .returned v) ∧ (∃ r, Moved l r a (m + 1) ∧ Risen r a (m + 1) ∧ WaysAt w' g r) ∧ w.grownBy w' (some g) := by
 have HW := hide hw
 have HS := hide hs
 have HR := hide hr
 clear hw hs hr
 have hd0 : ((m : Int) - (a : Int) == 1) = false := by simp; omega
 have hd1 : am - (m : Int) = 1 := by omega
 have HAM := hide ham
 clear ham
 go_enter Tryz.func267, Tryz.ntmps267
 go_wp2
 go_loopw [14, 15] (fun iv jv wr => ∃ I J : Nat, iv = .int .i64 I ∧ jv = .int .i64 J ∧ a ≤ I ∧ I ≤ J ∧ J ≤ m ∧ (J < m → (wy l m).1 < (wy l J).1) ∧ (a < I → (wy l (I - 1)).1 ≤ (wy l m).1) ∧ WaysAt wr g l ∧ w.grownBy wr (some g)) (fun iv jv _ => (intOf jv - intOf iv).toNat)
 case atStart => exact ⟨a, m, rfl, rfl, by omega, by omega, by omega, fun h => absurd h (by omega), fun h => absurd h (by omega), HW.out, ⟨rfl, rfl, rfl, Nat.le_refl _, fun _ _ _ => rfl⟩⟩
 case round =>
  obtain ⟨I, J, rfl, rfl, hI, hIJ, hJ, hx, hy, hwr, hgr⟩ := hrel
  have HX := hide hx
  have HY := hide hy
  have HWR := hide hwr
  have hglt := hwr.1
  clear hx hy
  by_cases hlt : I < J
  · have hd2 : decide ((I : Int) < (J : Int)) = true := by simp; omega
    obtain ⟨h, hh1, hh2⟩ : ∃ h : Nat, h * 2 ≤ I + J ∧ I + J ≤ h * 2 + 1 := ⟨(I + J) / 2, by omega, by omega⟩
    have hhl : h < l.length := by omega
    go_wp2
    have hq : ((I : Int) + (J : Int)) / 2 = (h : Int) := by omega
    rw [hq]
    have HQ := hide hq
    clear hq
    obtain ⟨j1, j2⟩ := hwr.2.1 m hb
    obtain ⟨i1, i2⟩ := hwr.2.1 h hhl
    have q1 : wy l m = l[m]'hb := by unfold wy; rw [List.getD_eq_getElem?_getD, List.getElem?_eq_getElem hb, Option.getD_some]
    have q2 : wy l h = l[h]'hhl := by unfold wy; rw [List.getD_eq_getElem?_getD, List.getElem?_eq_getElem hhl, Option.getD_some]
    rw [← q1] at j1 j2
    rw [← q2] at i1 i2
    obtain ⟨x, hx⟩ : ∃ x, wy l m = x := ⟨_, rfl⟩
    obtain ⟨z, hz⟩ : ∃ z, wy l h = z := ⟨_, rfl⟩
    rw [hx] at j1 j2
    rw [hz] at i1 i2
    have HXX := hide hx
    have HZ := hide hz
    have hfz := hwr.2.2
    clear q1 q2 hx hz hwr
    obtain ⟨x1, x2⟩ := x
    obtain ⟨z1, z2⟩ := z
    have e1 : (0 : Int) ≤ (h : Int) := by omega
    have e2 : (h : Int) < (l.length : Int) := by omega
    have e3 : (0 : Int) ≤ (m : Int) := by omega
    have e4 : (m : Int) < (l.length : Int) := by omega
    obtain ⟨v, hv⟩ : ∃ v, cmpI x1 z1 = v := ⟨_, rfl⟩
    have HCM := hide hv
    clear hv
    go_region_held3 (fun w' => (w'.cell? ⟨g, m * 2, none⟩ = some (.int .i64 x1) ∧ w'.cell? ⟨g, m * 2 + 1, none⟩ = some (.int .i64 x2)) ∧ (w'.cell? ⟨g, h * 2, none⟩ = some (.int .i64 z1) ∧ w'.cell? ⟨g, h * 2 + 1, none⟩ = some (.int .i64 z2))) (first | exact ⟨⟨(hB.cell (p := ⟨g, m * 2, none⟩) hglt).trans j1, (hB.cell (p := ⟨g, m * 2 + 1, none⟩) hglt).trans j2⟩, (hB.cell (p := ⟨g, h * 2, none⟩) hglt).trans i1, (hB.cell (p := ⟨g, h * 2 + 1, none⟩) hglt).trans i2⟩ | go_keep) ((go_at_call 224; refine (pcw_any x1 x2 z1 z2 _).mono ?_; rintro e w' ⟨rfl, hB⟩; rw [HCM.out]))
    have hB2 : Below wr.heap.size wr w' := ((Below.refl wr.heap.size wr).drew).trans hB
    have hwm' := HWR.out.below hB2 hglt
    have HWM' := hide hwm'
    have hgr3 := grown_trans hgr (grown_below (r := some g) hB2 (Nat.le_refl _))
    clear hwm' hB hB2 j1 j2 i1 i2 hfz hgr HWR
    by_cases hc : x1 < z1
    · have hd3 : decide (v < 0) = true := by rw [← HCM.out]; unfold cmpI; rw [if_pos hc]; rfl
      rw [hd3]
      go_wp2
      exact ⟨⟨I, h, rfl, rfl, by omega, by omega, by omega, fun _ => by rw [HXX.out, HZ.out]; exact hc, HY.out, HWM'.out, hgr3⟩, by simp [intOf]; omega⟩
    · have hd3 : decide (v < 0) = false := by rw [← HCM.out]; unfold cmpI; rw [if_neg hc]; split <;> simp
      rw [hd3]
      go_wp2
      exact ⟨⟨h + 1, J, by go_num, rfl, by omega, by omega, by omega, HX.out, fun _ => by rw [Nat.add_sub_cancel, HXX.out, HZ.out]; exact Int.not_lt.mp hc, HWM'.out, hgr3⟩, by simp [intOf]; omega⟩
  · have hd2 : decide ((I : Int) < (J : Int)) = false := by simp; omega
    have hIJ' : I = J := by omega
    subst hIJ'
    have hm := sym_one_right l a I m hI hJ hb HS.out HR.out HX.out HY.out
    have HM := hide hm
    clear hm hwr
    go_wp2
    go_loopw [17] (fun kv wr => ∃ K : Nat, kv = .int .i64 K ∧ I ≤ K ∧ K ≤ m ∧ WaysAt wr g (rotL l K m (m + 1)) ∧ w.grownBy wr (some g)) (fun kv _ => (intOf kv).toNat)
    case atStart => exact ⟨m, rfl, by omega, by omega, by rw [rotL_none' l m (m + 1) (by omega)]; exact HWR.out, hgr⟩
    case round =>
     obtain ⟨K, rfl, hK1, hK2, hwk, hgk⟩ := hrel
     have HWK := hide hwk
     clear hgr HWR hglt
     have hglt := hwk.1
     by_cases hlt2 : I < K
     · have hd4 : decide ((I : Int) < (K : Int)) = true := by simp; omega
       obtain ⟨p, hp1, hp2⟩ : ∃ p, p + 1 ≤ K ∧ K ≤ p + 1 := ⟨K - 1, by omega, by omega⟩
       have hst := rotL_left l p m (by omega) hb
       rw [show p + 1 = K from by omega] at hst
       have hml := rotL_len l K m (m + 1) (by omega) (by omega)
       obtain ⟨q, hmm⟩ : ∃ q, rotL l K m (m + 1) = q := ⟨_, rfl⟩
       rw [hmm] at hwk hst hml
       have HST := hide hst
       clear hst hmm
       have hkl : K < q.length := by omega
       have hpl : p < q.length := by omega
       obtain ⟨j1, j2⟩ := hwk.2.1 K hkl
       obtain ⟨i1, i2⟩ := hwk.2.1 p hpl
       obtain ⟨x, hx⟩ : ∃ x, q[K]'hkl = x := ⟨_, rfl⟩
       obtain ⟨z, hz⟩ : ∃ z, q[p]'hpl = z := ⟨_, rfl⟩
       rw [hx] at j1 j2
       rw [hz] at i1 i2
       obtain ⟨x1, x2⟩ := x
       obtain ⟨z1, z2⟩ := z
       have hfz := hwk.2.2
       have hset := (hwk.set K hkl (z1, z2)).set p (by simp; omega) (x1, x2)
       have HSET := hide hset
       have hsw : (q.set K (z1, z2)).set p (x1, x2) = swapL q K p := by
        unfold swapL
        rw [List.getD_eq_getElem?_getD, List.getElem?_eq_getElem hpl, List.getD_eq_getElem?_getD, List.getElem?_eq_getElem hkl, Option.getD_some, Option.getD_some, hx, hz]
       have HSW := hide hsw
       clear hset hsw hx hz hwk
       have hfo : Tryz.prog.follows Departure.mixedOrders = true := by kernel_rfl
       have e1 : (0 : Int) ≤ (p : Int) := by omega
       have e2 : (p : Int) < (l.length : Int) := by omega
       have e3 : (0 : Int) ≤ (K : Int) := by omega
       have e4 : (K : Int) < (l.length : Int) := by omega
       have f3 : (K : Int) - 1 = (p : Int) := by omega
       have f5 : IntKind.i64.wrap (p : Int) = (p : Int) := by rw [IntWalk.i64_left]; exact IntWalk.wrap64_in _ (by omega)
       go_wp2
       go_big_region_o
       all_goals go_wp2
       refine ⟨⟨p, rfl, by omega, by omega, ?_, grown_drew (grown_set (grown_set (grown_set (grown_set hgk _ _) _ _) _ _) _ _)⟩, by simp [intOf]; omega⟩
       rw [← HST.out, ← HSW.out]
       exact HSET.out
     · have hd4 : decide ((I : Int) < (K : Int)) = false := by simp; omega
       have hKI : K = I := by omega
       have hwi : WaysAt wr g (rotL l I m (m + 1)) := by rw [← hKI]; exact HWK.out
       have HWI := hide hwi
       clear hwk hKI hwi
       go_wp2
       refine bodyPost_ret (results_none rfl _ _ _) rfl ?_
       exact ⟨⟨_, rfl⟩, ⟨_, HM.out.1, HM.out.2, HWI.out⟩, hgk⟩
end Go.Proofs.YtgohllfpceeboaaGreatDoor
