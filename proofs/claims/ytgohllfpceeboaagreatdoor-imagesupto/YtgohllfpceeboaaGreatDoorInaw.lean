import Derived.Test.YtgohllfpceeboaaGreatDoorInas
import Derived.Test.YtgohllfpceeboaaGreatDoorInav
import Derived.RangeFuncBox
namespace Go.Proofs.YtgohllfpceeboaaGreatDoor
open Go.RowKit Go.Shelf
attribute [local go_sem] Oper.semAt_some
def mP (p : List UInt8) : List Int := ((Sx.letters p).getD []).map Sx.lower
def labP (p : List UInt8) : Lab := (⟨(Sx.text (mP p)).toArray⟩, ⟨(Sx.formOf (mP p)).toArray⟩)
def okP (p : List UInt8) : Bool := rightB (Sx.text (mP p)) (Sx.formOf (mP p)) (mP p)
theorem Tryz.info86 : (Tryz.prog.info? 86).map (fun i => (i.zero, i.size, i.bytes)) = some (some (.agg #[.string ⟨#[]⟩, .string ⟨#[]⟩]), 2, 32) := by kernel_rfl
def laV (l : List Lab) : List Value := l.flatMap fun x => [Value.string x.1, Value.string x.2]
theorem laV_app (a b : List Lab) : laV (a ++ b) = laV a ++ laV b := by simp [laV]
theorem laV_get : ∀ (l : List Lab) (j : Nat) (h : j < l.length), (laV l)[j * 2]? = some (.string l[j].1) ∧ (laV l)[j * 2 + 1]? = some (.string l[j].2) := by
 intro l
 induction l with
 | nil => intro j h; exact absurd h (Nat.not_lt_zero _)
 | cons x r ih =>
   intro j h
   have e : laV (x :: r) = Value.string x.1 :: Value.string x.2 :: laV r := rfl
   cases j with
   | zero => rw [e]; exact ⟨rfl, rfl⟩
   | succ j =>
     have := ih j (by simpa using h)
     rw [e, show (j + 1) * 2 = j * 2 + 1 + 1 from by omega]
     simpa using this
theorem labs_of_own {w : World} {B g n cap : Nat} {l : List Lab} (h : w.ownsRow B 86 2 (.slice (some ⟨g, 0, none⟩) n cap) n (laV l)) : LbAt w g l := by
 refine ⟨(h.lt g rfl).2, fun j hj => ?_, fun o => h.frozenAt o⟩
 obtain ⟨a1, a2⟩ := laV_get l j hj
 have c1 := h.cells (g := g) rfl _ _ a1
 have c2 := h.cells (g := g) rfl _ _ a2
 rw [Addr.add_lit, Nat.zero_add] at c1 c2
 exact ⟨c1, c2⟩
def hostL (P : List (List UInt8)) : List Lab := (P.map labP).reverse
def hostOk (P : List (List UInt8)) : Bool := decide (P.length ≤ 6) && P.all okP && !(Sx.digs (Sx.formOf (mP (P.getD 0 [])))) && decide ((Sx.dotted ((hostL P).map fun x => x.2.data.toList)).length ≤ 60)
structure RdAt (P : List (List UInt8)) (w : World) (b2 b3 b4 B : Nat) (k : Nat) (W : World) : Prop where
 k6 : k ≤ 6
 kP : k ≤ P.length
 all : (P.take k).all okP = true
 row : ∃ v, Boxed W b4 115 v ∧ W.ownsRow B 86 2 v k (laV ((P.take k).map labP))
 r2 : Boxed W b2 115 (.slice none 0 0)
 r3 : Boxed W b3 28 (.int .i64 0)
 bel : Below w.heap.size w W
 siz : B ≤ W.heap.size
structure RdNo (P : List (List UInt8)) (w : World) (b2 b3 : Nat) (W : World) : Prop where
 no : hostOk P = false
 r2 : Boxed W b2 115 (.slice none 0 0)
 r3 : Boxed W b3 28 (.int .i64 2)
 bel : Below w.heap.size w W
theorem box_ne {W : World} {b r : Nat} {t : TypeId} {v : Value} {o : Obj} (h : Boxed W b t v) (ho : W.heap[r]? = some o) (hc : o.isCells = false) : b ≠ r := by
 intro e
 subst e
 have : W.heap[b]? = some (.cells #[v] t (0, 0)) := h
 rw [this] at ho
 cases ho
 cases hc
theorem own_kept_off {W W' : World} {row : Option Nat} {B n z : Nat} {e : TypeId} {v : Value} {xs : List Value} (h : W.ownsRow B e z v n xs) (hg : W.grownBy W' row) (hr : ∀ r, row = some r → ∃ o : Obj, W.heap[r]? = some o ∧ o.isCells = false) : W'.ownsRow B e z v n xs := by
 refine ⟨h.1, ?_⟩
 rcases h.2 with h2 | ⟨g, cap, cur, h1, h2, h3, h4⟩
 · exact .inl h2
 · refine .inr ⟨g, cap, cur, h1, h2, ?_, h4⟩
   rw [hg.block g (Array.getElem?_eq_some_iff.1 h3).1 (fun e => by
    obtain ⟨o, ho, hc⟩ := hr g e.symm
    rw [h3] at ho
    cases ho
    cases hc)]
   exact h3
theorem RdAt.own {P : List (List UInt8)} {w : World} {b2 b3 b4 B C : Nat} (hC : w.heap.size ≤ C) : OwnFrom C (RdAt P w b2 b3 b4 B) := by
 intro k W W' row h hg hr
 obtain ⟨a1, a2, a3, ⟨v, a4, a5⟩, a6, a7, a8, a9⟩ := h
 have hne : ∀ {b : Nat} {t : TypeId} {v : Value}, Boxed W b t v → some b ≠ row := fun hb e => by
  obtain ⟨_, o, ho, hc⟩ := hr _ e.symm
  exact box_ne hb ho hc rfl
 exact ⟨a1, a2, a3, ⟨v, a4.kept hg (hne a4), own_kept_off a5 hg (fun r e => (hr r e).2)⟩, a6.kept hg (hne a6), a7.kept hg (hne a7), a8.grown hg a8.size (fun r e => by have := (hr r e).1; omega), Nat.le_trans a9 hg.size⟩
theorem RdNo.own {P : List (List UInt8)} {w : World} {b2 b3 C : Nat} (hC : w.heap.size ≤ C) : OwnFrom C (fun (_ : Unit) W => RdNo P w b2 b3 W) := by
 intro k W W' row h hg hr
 obtain ⟨a1, a6, a7, a8⟩ := h
 have hne : ∀ {b : Nat} {t : TypeId} {v : Value}, Boxed W b t v → some b ≠ row := fun hb e => by
  obtain ⟨_, o, ho, hc⟩ := hr _ e.symm
  exact box_ne hb ho hc rfl
 exact ⟨a1, a6.kept hg (hne a6), a7.kept hg (hne a7), a8.grown hg a8.size (fun r e => by have := (hr r e).1; omega)⟩
theorem keeps_below {W W' : World} (h : Below W.heap.size W W') : KeepsOthers W W' :=
 ⟨h.size, fun k _ ho _ => (h.block k (Array.getElem?_eq_some_iff.1 ho).1).trans ho⟩
theorem hostOk_no (P : List (List UInt8)) (h : 6 < P.length ∨ P.all okP = false) : hostOk P = false := by
 unfold hostOk
 rcases h with h | h
 · rw [show decide (P.length ≤ 6) = false from by simp; omega]; simp
 · rw [h]; simp
theorem rd_no_close {P : List (List UInt8)} {w W V : World} (C : Nat) (hno : hostOk P = false) (q2 : Boxed V w.heap.size 115 (.slice none 0 0)) (q3 : Boxed V (w.heap.size + 1) 28 (.int .i64 0)) (hk : KeepsOthers W V) (hB : Below w.heap.size w V) :
 KeepsFrom C W ((V.setCell ⟨w.heap.size, 0, none⟩ (.slice none 0 0)).setCell ⟨w.heap.size + 1, 0, none⟩ (.int .i64 2)) ∧ RdNo P w w.heap.size (w.heap.size + 1) ((V.setCell ⟨w.heap.size, 0, none⟩ (.slice none 0 0)).setCell ⟨w.heap.size + 1, 0, none⟩ (.int .i64 2)) := by
 refine ⟨((hk.trans (KeepsOthers.setCell _ _ _)).trans (KeepsOthers.setCell _ _ _)).from C, hno, ?_, ?_, ?_⟩
 · exact (q2.set _).kept (grownBy_setCell' _ _ _) (fun e => by have := Option.some.inj e; omega)
 · exact (q3.kept (grownBy_setCell' _ _ _) (fun e => by have := Option.some.inj e; omega)).set _
 · exact (hB.setCell (p := ⟨w.heap.size, 0, none⟩) (Nat.le_refl _) _).setCell (p := ⟨w.heap.size + 1, 0, none⟩) (Nat.le_succ _) _
theorem lb_kept {w w' : World} {g : Nat} {l : List Lab} {r : Option Nat} (h : LbAt w g l) (hg : w.grownBy w' r) (hne : some g ≠ r) : LbAt w' g l :=
 ⟨Nat.lt_of_lt_of_le h.1 hg.size, fun j hj => ⟨(hg.cell_far ⟨g, j * 2, none⟩ h.1 hne).trans (h.2.1 j hj).1, (hg.cell_far ⟨g, j * 2 + 1, none⟩ h.1 hne).trans (h.2.1 j hj).2⟩, fun o => (hg.frozen_far ⟨g, o, none⟩ h.1 hne).trans (h.2.2 o)⟩
theorem ok_short (p : List UInt8) (h : okP p = true) : (Sx.formOf (mP p)).length ≤ 20 := by
 unfold okP rightB at h
 simp only [Bool.and_eq_true, decide_eq_true_eq] at h
 exact h.1.1.2
theorem form_len (m : List Int) (hl : m.length ≤ 60) (hg : ∀ c ∈ m, Sx.Good c) : (Sx.formOf m).length ≤ 2000 ∧ ∀ x ∈ Sx.formOf m, x.toNat < 128 := by
 have hr : ∀ c ∈ m, c ≤ 1114111 := fun c hc => (hg c hc).2.1
 unfold Sx.formOf
 cases hf : (m.any fun c => decide (128 ≤ c)) with
 | true =>
   rw [if_pos rfl, List.length_append]
   have := Sx.enc_lens m (by omega) hr
   refine ⟨by show 4 + _ ≤ _; omega, fun x hx => ?_⟩
   rcases List.mem_append.1 hx with hx | hx
   · exact (by decide : ∀ x ∈ Sx.xn, x.toNat < 128) x hx
   · exact Sx.enc_ascii m (by omega) hr x hx
 | false =>
   rw [if_neg (by simp)]
   have := Sx.text_len m
   refine ⟨by omega, fun x hx => ?_⟩
   obtain ⟨c, hc, hx⟩ := List.mem_flatMap.1 hx
   have h128 : c < 128 := by
    by_cases h : 128 ≤ c
    · have : (m.any fun c => decide (128 ≤ c)) = true := List.any_eq_true.2 ⟨c, hc, by simpa using h⟩
      rw [hf] at this; cases this
    · omega
   unfold Sx.utf at hx
   rw [if_pos h128] at hx
   rw [List.mem_singleton.1 hx, Sx.u8n c (hg c hc).1 (by omega)]
   have := (hg c hc).1
   omega
theorem piece_facts (p : List UInt8) (l : List Int) (hl : Sx.letters p = some l) (hp : p.length ≤ 60) : mP p = l.map Sx.lower ∧ (mP p).length ≤ 60 ∧ (∀ c ∈ mP p, Sx.Good c) ∧ (Sx.text (mP p)).length = p.length := by
 have e : (⟨p.toArray⟩ : ByteArray).data.toList = p := rfl
 obtain ⟨h1, h2⟩ := letters_is ⟨p.toArray⟩ l (by rw [e]; exact hl)
 rw [e] at h1
 have hm : mP p = l.map Sx.lower := by unfold mP; rw [hl]; rfl
 have h3 := low_text l h2
 have h4 : (Sx.text (l.map Sx.lower)).length = p.length := by rw [← h3, List.length_map, h1]
 have hsz : (⟨p.toArray⟩ : ByteArray).size = p.length := by rw [← ba_len, e]
 have h5 := letters_range p.length ⟨p.toArray⟩ 0 l (by rw [List.drop_zero, e]; exact hl) (by omega) (by omega)
 refine ⟨hm, ?_, ?_, by rw [hm]; exact h4⟩
 · rw [hm, List.length_map]
   omega
 · rw [hm]
   intro c hc
   obtain ⟨x, hx, rfl⟩ := List.mem_map.1 hc
   exact good_lower x (h2 x hx)
set_option maxRecDepth 100000 in
set_option maxHeartbeats 8000000 in
theorem prh_valid (s : ByteArray) (w : World) (P : List (List UInt8)) (hs : s.size ≤ 60) (hP : P = pcs s.data.toList) (hv : ∀ w', Below w.heap.size w w' → Calls Tryz.prog 110 #[.string s] w' fun e w2 => e = .returned (.bool true) ∧ Below w'.heap.size w' w2)
 (hpl : ∀ p ∈ P, (∃ l, Sx.letters p = some l) ∧ p.length ≤ 60) :
 Calls Tryz.prog 71 #[.string s] w fun e w' => Below w.heap.size w w' ∧ ((hostOk P = false ∧ e = .returned (.tuple #[.slice none 0 0, .int .i64 2])) ∨ (hostOk P = true ∧ ∃ g cap, e = .returned (.tuple #[.slice (some ⟨g, 0, none⟩) (hostL P).length cap, .int .i64 0]) ∧ LbAt w' g (hostL P))) := by
 refine (callsIn_wide (n := 10)).1 ?_
 refine callsIn_of_wp_marks Tryz.func71 rfl trivial ?_ rfl
 simp only [Tryz.ntmps71, List.size_toArray, List.length_cons, List.length_nil, Nat.reduceAdd, Nat.reduceSub, Array.replicate_succ, Array.replicate_zero, List.push_toArray, List.append_toArray, List.nil_append, List.cons_append]
 obtain ⟨i0, hi, hz0, hz1, hz2⟩ := info_parts Tryz.info86
 have HV := hide hv
 have HPL := hide hpl
 have HP := hide hP
 have hB0 : Below w.heap.size w ((w.alloc (.cells #[.slice none 0 0] 115)).alloc (.cells #[.int .i64 0] 28)) := ((Below.refl _ w).alloc (Nat.le_refl _) _).alloc (by rw [World.size_alloc]; exact Nat.le_succ _) _
 have hx2 : Boxed ((w.alloc (.cells #[.slice none 0 0] 115)).alloc (.cells #[.int .i64 0] 28)) w.heap.size 115 (.slice none 0 0) := (Boxed.new w 115 _).alloc _
 have hx3 : Boxed ((w.alloc (.cells #[.slice none 0 0] 115)).alloc (.cells #[.int .i64 0] 28)) (w.heap.size + 1) 28 (.int .i64 0) := by
  have := Boxed.new (w.alloc (.cells #[.slice none 0 0] 115)) 28 (.int .i64 0)
  rw [World.size_alloc] at this
  exact this
 have hd : (60 < s.size) = False := by simp; omega
 clear hv hpl hP
 gi_wp2_with (refine ⟨trivial, ?_⟩; gi_at_call 110; refine (callsIn_wide.2 (HV.out _ hB0)).mono ?_; rintro e w2 ⟨rfl, hB2⟩)
 have hB3 : Below w.heap.size w (w2.alloc (.cells #[.slice none 0 0] 115)) := (hB0.trans (hB2.mono hB0.size)).alloc (Nat.le_trans hB0.size hB2.size) _
 have hy2 : Boxed (w2.alloc (.cells #[.slice none 0 0] 115)) w.heap.size 115 (.slice none 0 0) := Boxed.alloc ((hB2.block _ hx2.lt).trans hx2) _
 have hy3 : Boxed (w2.alloc (.cells #[.slice none 0 0] 115)) (w.heap.size + 1) 28 (.int .i64 0) := Boxed.alloc ((hB2.block _ hx3.lt).trans hx3) _
 have hy4 := Boxed.new w2 115 (.slice none 0 0)
 have hsz3 : w2.heap.size + 1 ≤ (w2.alloc (.cells #[.slice none 0 0] 115)).heap.size := by rw [World.size_alloc]; exact Nat.le_refl _
 have hws : w.heap.size + 2 ≤ w2.heap.size := by have := hB2.size; rw [World.size_alloc, World.size_alloc] at this; omega
 obtain ⟨b4, hb4⟩ : ∃ b4, w2.heap.size = b4 := ⟨_, rfl⟩
 obtain ⟨W3, hW3⟩ : ∃ W3, w2.alloc (.cells #[.slice none 0 0] 115) = W3 := ⟨_, rfl⟩
 rw [hW3] at hB3 hy2 hy3 hy4 hsz3 ⊢
 rw [hb4] at hy4 hsz3 hws ⊢
 have HI0 : Hid (RdAt P w w.heap.size (w.heap.size + 1) b4 (b4 + 1) 0 W3) := hide ⟨by omega, by omega, by simp, ⟨.slice none 0 0, hy4, World.ownsRow_nil _ _ _ _⟩, hy2, hy3, hB3, hsz3⟩
 have hw3 := hB3.size
 clear hy2 hy3 hy4 hB3 hW3 hb4 hx2 hx3 hB0 hB2 hsz3 HV
 refine range_labs 10 (by omega) (by omega) s (by omega) (.tmp 14) rfl P HP.out rfl (RdAt P w w.heap.size (w.heap.size + 1) b4 (b4 + 1)) (RdNo P w w.heap.size (w.heap.size + 1)) (RdAt.own hw3) (RdNo.own hw3) HI0.out
  (fun x => { tmps := #[Value.string s, undef, Value.pointer (some ⟨w.heap.size, 0, none⟩), Value.pointer (some ⟨w.heap.size + 1, 0, none⟩), Value.pointer (some ⟨b4, 0, none⟩), .string x, undef, Value.string s,
        Value.int IntKind.i64 ↑s.size, Value.bool (decide (60 < (s.size : Int))), Value.string s, Value.bool true,
        Value.bool false, Value.string s, Value.func (Fn.func 111) #[Value.string s] #[], .string x, undef, undef, undef,
        undef, undef, undef, undef, undef, undef, undef, undef, undef, undef, undef, undef, undef, undef, undef,
        undef, undef, undef, undef, undef, undef, undef], defers := [] }) ?assign ?body ?done ?stop
 case assign =>
  intro l x W K hK
  gi_wp2
  exact hK
 case body =>
  rintro l k hk W hrd
  have HRD := hide hrd
  obtain ⟨k6, kP, hall, ⟨v, bv, hown⟩, r2, r3, bel, siz⟩ := hrd
  obtain ⟨⟨ll, hll⟩, hpz⟩ := HPL.out P[k] (List.getElem_mem hk)
  obtain ⟨hm, hml, hmg, hmt⟩ := piece_facts P[k] ll hll hpz
  have hxl : (⟨P[k].toArray⟩ : ByteArray).data.toList = P[k] := rfl
  have hnl := fun w => pnl_any ⟨P[k].toArray⟩ ll w (by rw [hxl]; exact hll) (by rw [← ba_len, hxl]; exact hpz)
  rw [← hm] at hnl
  obtain ⟨A, hA⟩ : ∃ A : ByteArray, ⟨(Sx.text (mP P[k])).toArray⟩ = A := ⟨_, rfl⟩
  obtain ⟨E, hE⟩ : ∃ E : ByteArray, ⟨(Sx.formOf (mP P[k])).toArray⟩ = E := ⟨_, rfl⟩
  have hAl : A.data.toList = Sx.text (mP P[k]) := by rw [← hA]
  have hEl : E.data.toList = Sx.formOf (mP P[k]) := by rw [← hE]
  have hlab : labP P[k] = (A, E) := by unfold labP; rw [hA, hE]
  obtain ⟨hf1, hf2⟩ := form_len (mP P[k]) hml hmg
  have hir := fun w => pir_any A E (mP P[k]) w (by rw [hAl]; exact Sx.letters_text _ hmg) (by rw [← ba_len, hAl]; omega) (by rw [← ba_len, hEl]; omega) (by rw [hEl]; exact hf2)
  rw [hA, hE] at hnl
  rw [hAl, hEl] at hir
  obtain ⟨X, hX⟩ : ∃ X : ByteArray, ⟨P[k].toArray⟩ = X := ⟨_, rfl⟩
  rw [hX] at hnl ⊢
  obtain ⟨rk, hrk⟩ : ∃ rk, okP P[k] = rk := ⟨_, rfl⟩
  have hrk2 : rightB (Sx.text (mP P[k])) (Sx.formOf (mP P[k])) (mP P[k]) = rk := hrk
  rw [hrk2] at hir
  have HNL := hide hnl
  have HIR := hide hir
  have HLAB := hide hlab
  have HRK := hide hrk
  have HALL := hide hall
  have hwW := bel.size
  have hgr : ∀ {W' : World}, Below W.heap.size W W' → Below w.heap.size w W' := fun h => bel.trans (h.mono bel.size)
  clear hnl hir hlab hrk hrk2 hall hA hE hAl hEl hX hxl hm hml hmg hmt hf1 hf2 hll hpz
  obtain ⟨vp, vc, rfl⟩ := own_shape hown
  by_cases hk6 : k = 6
  · have hno : hostOk P = false := hostOk_no P (.inl (by omega))
    subst hk6
    gi_wp2_with (refine ⟨trivial, ?_⟩; gi_at_call 112; refine (CallsIn.inRound l (callsIn_wide.2 (HNL.out _))).mono ?_; rintro e w5 ⟨rfl, hB5⟩; have c4 := (Boxed.alloc ((hB5.block _ bv.lt).trans bv) (.cells #[.string A, .string E] 86)).cell; have q2 : Boxed w5 w.heap.size 115 (.slice none 0 0) := (hB5.block _ r2.lt).trans r2; have q3 : Boxed w5 (w.heap.size + 1) 28 (.int .i64 0) := (hB5.block _ r3.lt).trans r3; have u2 := (q2.alloc (.cells #[.string A, .string E] 86)).cell; have u3 := (q3.alloc (.cells #[.string A, .string E] 86)).cell; have u4 := (q2.alloc (.cells #[.string A, .string E] 86)).frozen; have u5 := (q3.alloc (.cells #[.string A, .string E] 86)).frozen)
    refine ⟨trivial, ?_⟩
    gi_wp2
    exact rd_no_close _ hno (q2.alloc _) (q3.alloc _) ((keeps_below hB5).trans (KeepsOthers.alloc _ _)) ((hgr hB5).alloc (Nat.le_trans hwW hB5.size) _)
  · cases rk with
    | false =>
      have hno : hostOk P = false := hostOk_no P (.inr (by
       cases h : P.all okP with
       | false => rfl
       | true => have := List.all_eq_true.1 h P[k] (List.getElem_mem hk); rw [HRK.out] at this; cases this))
      gi_wp2_with (first | (refine ⟨trivial, ?_⟩; gi_at_call 112; refine (CallsIn.inRound l (callsIn_wide.2 (HNL.out _))).mono ?_; rintro e w5 ⟨rfl, hB5⟩; have c4 := (Boxed.alloc ((hB5.block _ bv.lt).trans bv) (.cells #[.string A, .string E] 86)).cell; have q2 : Boxed w5 w.heap.size 115 (.slice none 0 0) := (hB5.block _ r2.lt).trans r2; have q3 : Boxed w5 (w.heap.size + 1) 28 (.int .i64 0) := (hB5.block _ r3.lt).trans r3) | (refine ⟨trivial, ?_⟩; gi_at_call 113; refine (CallsIn.inRound l (callsIn_wide.2 (HIR.out _))).mono ?_; rintro e w7 ⟨rfl, hB7⟩; have p2 : Boxed w7 w.heap.size 115 (.slice none 0 0) := (hB7.block _ (q2.alloc _).lt).trans (q2.alloc _); have p3 : Boxed w7 (w.heap.size + 1) 28 (.int .i64 0) := (hB7.block _ (q3.alloc _).lt).trans (q3.alloc _); have u2 := p2.cell; have u3 := p3.cell; have u4 := p2.frozen; have u5 := p3.frozen))
      exact rd_no_close _ hno p2 p3 (((keeps_below hB5).trans (KeepsOthers.alloc _ _)).trans (keeps_below hB7)) (((hgr hB5).alloc (Nat.le_trans hwW hB5.size) _).trans (hB7.mono (by rw [World.size_alloc]; exact Nat.le_succ_of_le (Nat.le_trans hwW hB5.size))))
    | true =>
      gi_wp2_with (first | (refine ⟨trivial, ?_⟩; gi_at_call 112; refine (CallsIn.inRound l (callsIn_wide.2 (HNL.out _))).mono ?_; rintro e w5 ⟨rfl, hB5⟩; have q4 : Boxed w5 b4 115 (.slice vp k vc) := (hB5.block _ bv.lt).trans bv; have c4 := (q4.alloc (.cells #[.string A, .string E] 86)).cell; have q2 : Boxed w5 w.heap.size 115 (.slice none 0 0) := (hB5.block _ r2.lt).trans r2; have q3 : Boxed w5 (w.heap.size + 1) 28 (.int .i64 0) := (hB5.block _ r3.lt).trans r3; have hown5 := own_below hown hB5 (Nat.le_refl _)) | (refine ⟨trivial, ?_⟩; gi_at_call 113; refine (CallsIn.inRound l (callsIn_wide.2 (HIR.out _))).mono ?_; rintro e w7 ⟨rfl, hB7⟩; have p2 : Boxed w7 w.heap.size 115 (.slice none 0 0) := (hB7.block _ (q2.alloc _).lt).trans (q2.alloc _); have p3 : Boxed w7 (w.heap.size + 1) 28 (.int .i64 0) := (hB7.block _ (q3.alloc _).lt).trans (q3.alloc _); have p4 : Boxed w7 b4 115 (.slice vp k vc) := (hB7.block _ (q4.alloc _).lt).trans (q4.alloc _); have hown7 := own_below (hown5.alloc (.cells #[.string A, .string E] 86)) hB7 (Nat.le_refl _); have d4 := p4.cell; have bx := (box2_new w5 (.string A) (.string E) 86).below hB7; have e1 := bx.2.1; have e2 := bx.2.2.1; have hs7 : b4 + 1 ≤ w7.heap.size := Nat.le_trans siz (Nat.le_trans hB5.size (Nat.le_trans (by rw [World.size_alloc]; exact Nat.le_succ _) hB7.size)); clear c4) | (gi_at_builtin; have hs77 := hs7; refine wpListIn_append_own _ rfl _ _ _ rfl (b4 + 1) 86 i0 (.agg #[.string ⟨#[]⟩, .string ⟨#[]⟩]) 2 32 Tryz.underlying115 hi hz0 hz1 hz2 rfl (by decide) _ _ _ rfl (hown7.alloc _) ⟨_, 0, none⟩ 1 1 [.string A, .string E] rfl rfl ?_ ?_ ?_ ?_ ?_ ?_))
      · exact cell_two_new _ _ _ _
      · intro u hu
        rcases List.mem_cons.1 hu with rfl | hu
        · rfl
        · rw [List.mem_singleton.1 hu]; rfl
      · unfold maxLen; omega
      · omega
      · rw [World.size_alloc]; omega
      · intro v' w8 hown8 hgrow8 _
        obtain ⟨g', cap', rfl⟩ := ownsRow_succ hown8
        have s4 : Boxed w8 b4 115 (.slice vp k vc) := (p4.alloc _).kept hgrow8 (Boxed.not_row p4 (by decide) hown7)
        have s2 : Boxed w8 w.heap.size 115 (.slice none 0 0) := (p2.alloc _).kept hgrow8 (Boxed.not_row p2 (by decide) hown7)
        have s3 : Boxed w8 (w.heap.size + 1) 28 (.int .i64 0) := (p3.alloc _).kept hgrow8 (Boxed.not_row p3 (by decide) hown7)
        have f4 := s4.cell
        have f5 := s4.frozen
        gi_wp2
        have hKO : KeepsOthers W w7 := ((keeps_below hB5).trans (KeepsOthers.alloc _ _)).trans (keeps_below hB7)
        have hBe : Below w.heap.size w w7 := ((hgr hB5).alloc (Nat.le_trans hwW hB5.size) _).trans (hB7.mono (by rw [World.size_alloc]; exact Nat.le_succ_of_le (Nat.le_trans hwW hB5.size)))
        have hKO8 : KeepsOthers W w8 := (hKO.trans (KeepsOthers.alloc _ _)).trans (KeepsOthers.of_grownBy hgrow8 (fun j o e ho => by
         rcases (hown7.alloc (.cells #[.string A, .string E] 86)).2 with ⟨h1, _⟩ | ⟨g, cap, cur, h1, h2, h3, h4⟩
         · rw [h1] at e; cases e
         · rw [h1] at e
           cases e
           rw [h3] at ho
           cases ho
           rfl))
        have hBe8 : Below w.heap.size w w8 := (hBe.alloc hBe.size _).grown hgrow8 (by rw [World.size_alloc]; exact Nat.le_succ_of_le hBe.size) (fun q e => by have := (hown7.lt q e).1; omega)
        have htk : P.take (k + 1) = P.take k ++ [P[k]] := List.take_succ_eq_append_getElem hk
        refine ⟨(hKO8.trans (KeepsOthers.setCell _ _ _)).from _, ⟨by omega, hk, ?_, ⟨_, s4.set _, ?_⟩, s2.kept (grownBy_setCell' _ _ _) (fun e => by have := Option.some.inj e; omega), s3.kept (grownBy_setCell' _ _ _) (fun e => by have := Option.some.inj e; omega), hBe8.setCell (p := ⟨b4, 0, none⟩) (show w.heap.size ≤ b4 by omega) _, ?_⟩⟩
        · rw [htk, List.all_append, HALL.out, List.all_cons, HRK.out]; rfl
        · rw [htk, List.map_append, laV_app]
          have e : laV ([P[k]].map labP) = [.string A, .string E] := by rw [List.map_cons, List.map_nil, HLAB.out]; rfl
          rw [e]
          have h9 := hown8.kept (grownBy_setCell' w8 b4 (.slice (some ⟨g', 0, none⟩) (k + 1) cap')) (.inr (fun e => by have := (hown8.lt b4 e).1; omega))
          rw [List.map_take]
          exact h9
        · have h1 := hgrow8.size
          rw [World.size_alloc] at h1
          rw [World.size_setCell]
          omega
 case done =>
  rintro D W hD hrd hK
  obtain ⟨k6, _, hall, ⟨v, bv, hown⟩, r2, r3, bel, siz⟩ := hrd
  rw [List.take_length] at hall hown
  have hPn : 0 < P.length := by
   rw [HP.out]; unfold pcs
   cases s.data.toList.length with
   | zero => simp [pcsF]
   | succ m => simp only [pcsF]; split <;> simp
  obtain ⟨n, hn⟩ : ∃ n, P.length = n + 1 := ⟨P.length - 1, by omega⟩
  rw [hn] at hown
  obtain ⟨g, cap, rfl⟩ := ownsRow_succ hown
  have hlb := labs_of_own hown
  have hgb : b4 + 1 ≤ g := (hown.lt g rfl).1
  have hmapl : (P.map labP).length = n + 1 := by rw [List.length_map]; exact hn
  obtain ⟨e1, e2⟩ := hlb.2.1 0 (by omega)
  rw [Nat.zero_mul, Nat.zero_add] at e2
  rw [Nat.zero_mul] at e1
  obtain ⟨L0, hL0⟩ : ∃ L0, (P.map labP)[0]'(by omega) = L0 := ⟨_, rfl⟩
  rw [hL0] at e1 e2
  obtain ⟨A0, E0⟩ := L0
  have hE0 : E0.data.toList = Sx.formOf (mP (P.getD 0 [])) := by
   have h1 : (P.map labP)[0]'(by omega) = labP (P.getD 0 []) := by
    rw [List.getElem_map]
    congr 1
    rw [List.getD_eq_getElem?_getD, List.getElem?_eq_getElem hPn]; rfl
   rw [h1] at hL0
   have := congrArg Prod.snd hL0
   rw [← show _ = E0 from this]
   rfl
  simp only at e1 e2
  have b1 := bv.cell
  have hall2 := List.all_eq_true.1 hall
  have hdp := form_len (mP (P.getD 0 []))
  have hE0z : E0.size ≤ 20 := by
   rw [← ba_len, hE0]
   refine ok_short _ (hall2 _ ?_)
   rw [List.getD_eq_getElem?_getD, List.getElem?_eq_getElem hPn, Option.getD_some]
   exact List.getElem_mem hPn
  obtain ⟨dg, hdg⟩ : ∃ dg, Sx.digs (Sx.formOf (mP (P.getD 0 []))) = dg := ⟨_, rfl⟩
  have hdg2 : Sx.digs E0.data.toList = dg := by rw [hE0]; exact hdg
  have hOK : hostOk P = (!dg && decide ((Sx.dotted ((hostL P).map fun x => x.2.data.toList)).length ≤ 60)) := by
   unfold hostOk
   rw [hall, hdg, show decide (P.length ≤ 6) = true from by simpa using k6]; simp
  have HOK := hide hOK
  have HDG := hide hdg2
  have HALL := hide hall2
  have hDg : D ≠ g := fun e => by
   rcases hown.2 with ⟨h1, _⟩ | ⟨g2, cap2, cur, h1, h2, h3, h4⟩
   · cases h1
   · cases h1
     rw [e] at hK
     rw [h3] at hK
     cases hK
  have hDl : D < W.heap.size := (Array.getElem?_eq_some_iff.1 hK).1
  have hgW := hlb.1
  have HLB := hide hlb
  have hwW := bel.size
  clear hOK hdg hdg2 hall hall2 hL0 hE0 hdp hown hlb
  cases dg with
  | true =>
    gi_wp2_with (refine ⟨trivial, ?_⟩; gi_at_call 114; refine (callsIn_wide.2 (pdg_any A0 E0 _ (by omega))).mono ?_; rintro e w5 ⟨rfl, hB5⟩; rw [HDG.out]; have q2 : Boxed w5 w.heap.size 115 (.slice none 0 0) := (hB5.block _ r2.lt).trans r2; have q3 : Boxed w5 (w.heap.size + 1) 28 (.int .i64 0) := (hB5.block _ r3.lt).trans r3; have u2 := q2.cell; have u3 := q3.cell; have u4 := q2.frozen; have u5 := q3.frozen)
    have hk5 : w5.heap[D]? = some (.deferred (some [])) := (hB5.block D hDl).trans hK
    have hk2 := (KeepsOthers.setCell (w5.setCell ⟨w.heap.size, 0, none⟩ (.slice none 0 0)) ⟨w.heap.size + 1, 0, none⟩ (.int .i64 2)).same D _ ((KeepsOthers.setCell w5 ⟨w.heap.size, 0, none⟩ (.slice none 0 0)).same D _ hk5 rfl) rfl
    have hBe := bel.trans (hB5.mono bel.size)
    refine ⟨by simp, .inl ⟨_, _, rfl, run_takeDeferred hk2, ?_⟩⟩
    have y2 : Boxed ((w5.setCell ⟨w.heap.size, 0, none⟩ (.slice none 0 0)).setCell ⟨w.heap.size + 1, 0, none⟩ (.int .i64 2)) w.heap.size 115 (.slice none 0 0) := (q2.set _).kept (grownBy_setCell' _ _ _) (fun e => by have := Option.some.inj e; omega)
    have y3 : Boxed ((w5.setCell ⟨w.heap.size, 0, none⟩ (.slice none 0 0)).setCell ⟨w.heap.size + 1, 0, none⟩ (.int .i64 2)) (w.heap.size + 1) 28 (.int .i64 2) := (q3.kept (grownBy_setCell' _ _ _) (fun e => by have := Option.some.inj e; omega)).set _
    have v2 := (y2.kept (grownBy_putObj' ((w5.setCell ⟨w.heap.size, 0, none⟩ (.slice none 0 0)).setCell ⟨w.heap.size + 1, 0, none⟩ (.int .i64 2)) D (.deferred none)) (fun e => box_ne y2 hk2 rfl (Option.some.inj e))).cell
    have v3 := (y3.kept (grownBy_putObj' ((w5.setCell ⟨w.heap.size, 0, none⟩ (.slice none 0 0)).setCell ⟨w.heap.size + 1, 0, none⟩ (.int .i64 2)) D (.deferred none)) (fun e => box_ne y3 hk2 rfl (Option.some.inj e))).cell
    refine ⟨.tuple #[.slice none 0 0, .int .i64 2], by simp [results, Tryz.results71, go_sem, v2, v3], ?_⟩
    exact ⟨((hBe.setCell (p := ⟨w.heap.size, 0, none⟩) (Nat.le_refl _) _).setCell (p := ⟨w.heap.size + 1, 0, none⟩) (Nat.le_succ _) _).grown (grownBy_putObj' ((w5.setCell ⟨w.heap.size, 0, none⟩ (.slice none 0 0)).setCell ⟨w.heap.size + 1, 0, none⟩ (.int .i64 2)) D (.deferred none)) (by rw [World.size_setCell, World.size_setCell]; exact hBe.size) (fun q e => by cases e; omega), .inl ⟨by rw [HOK.out]; rfl, rfl⟩⟩
  | false =>
    have hrev := fun (w5 : World) (h : LbAt w5 g (P.map labP)) => prev_any (P.map labP) g cap w5 h (by omega)
    rw [hmapl] at hrev
    have hHLl : (hostL P).length = n + 1 := by unfold hostL; rw [List.length_reverse]; exact hmapl
    have hHmem : ∀ x ∈ hostL P, ∃ p ∈ P, labP p = x := fun x hx => by
     unfold hostL at hx
     rw [List.mem_reverse] at hx
     obtain ⟨p, hp, rfl⟩ := List.mem_map.1 hx
     exact ⟨p, hp, rfl⟩
    have hjoin := fun (w6 : World) (h : LbAt w6 g (hostL P)) => pjp_any (hostL P) id g cap w6 h (by omega) (fun x hx => by
     obtain ⟨p, hp, rfl⟩ := hHmem x hx
     have := ok_short p (HALL.out p hp)
     show (Sx.formOf (mP p)).length ≤ 1000
     omega) (fun x hx w => ppf_any x.1 x.2 w)
    rw [hHLl] at hjoin
    obtain ⟨T, hT⟩ : ∃ T : ByteArray, ⟨(Sx.dotted ((hostL P).map fun x => id x.2.data.toList)).toArray⟩ = T := ⟨_, rfl⟩
    have hTz : T.size = (Sx.dotted ((hostL P).map fun x => x.2.data.toList)).length := by rw [← ba_len, ← hT]; rfl
    rw [hT] at hjoin
    rw [← hTz] at HOK
    have HREV := hide hrev
    have HJN := hide hjoin
    have HHL := hide hHLl
    clear hrev hjoin hHLl hHmem hT hTz
    gi_wp2_with (first | (refine ⟨trivial, ?_⟩; gi_at_call 114; refine (callsIn_wide.2 (pdg_any A0 E0 _ (by omega))).mono ?_; rintro e w5 ⟨rfl, hB5⟩; rw [HDG.out]; have q2 : Boxed w5 w.heap.size 115 (.slice none 0 0) := (hB5.block _ r2.lt).trans r2; have q3 : Boxed w5 (w.heap.size + 1) 28 (.int .i64 0) := (hB5.block _ r3.lt).trans r3; have q4 : Boxed w5 b4 115 (.slice (some ⟨g, 0, none⟩) (n + 1) cap) := (hB5.block _ bv.lt).trans bv; have c4 := q4.cell; have HLB5 : Hid (LbAt w5 g (P.map labP)) := hide (LabsAt.below HLB.out hB5 hgW); have hk5 : w5.heap[D]? = some (.deferred (some [])) := (hB5.block D hDl).trans hK) | (refine ⟨trivial, ?_⟩; gi_at_call 115; refine (callsIn_wide.2 (HREV.out _ HLB5.out)).mono ?_; rintro e w6 ⟨⟨v6, rfl⟩, hlb6, hg6⟩; have p2 : Boxed w6 w.heap.size 115 (.slice none 0 0) := q2.kept hg6 (fun e => by have := Option.some.inj e; omega); have p3 : Boxed w6 (w.heap.size + 1) 28 (.int .i64 0) := q3.kept hg6 (fun e => by have := Option.some.inj e; omega); have p4 : Boxed w6 b4 115 (.slice (some ⟨g, 0, none⟩) (n + 1) cap) := q4.kept hg6 (fun e => by have := Option.some.inj e; omega); have d4 := p4.cell; have HLB6 : Hid (LbAt w6 g (hostL P)) := hide hlb6; have hk6 : w6.heap[D]? = some (.deferred (some [])) := (hg6.block D (Array.getElem?_eq_some_iff.1 hk5).1 (fun e => hDg (Option.some.inj e))).trans hk5; clear hlb6 c4) | (refine ⟨trivial, ?_⟩; gi_at_call 72; refine (callsIn_wide.2 (HJN.out _ HLB6.out)).mono ?_; rintro e w7 ⟨rfl, hB7⟩; have o2 : Boxed w7 w.heap.size 115 (.slice none 0 0) := (hB7.block _ p2.lt).trans p2; have o3 : Boxed w7 (w.heap.size + 1) 28 (.int .i64 0) := (hB7.block _ p3.lt).trans p3; have o4 : Boxed w7 b4 115 (.slice (some ⟨g, 0, none⟩) (n + 1) cap) := (hB7.block _ p4.lt).trans p4; have f4 := o4.cell; have u2 := o2.cell; have u3 := o3.cell; have u4 := o2.frozen; have u5 := o3.frozen; have HLB7 : Hid (LbAt w7 g (hostL P)) := hide (LabsAt.below HLB6.out hB7 HLB6.out.1)))
    · have h60 : 60 < (T.size : Int) := by assumption
      have hk7 : w7.heap[D]? = some (.deferred (some [])) := (hB7.block D (Array.getElem?_eq_some_iff.1 hk6).1).trans hk6
      have hBe5 := bel.trans (hB5.mono bel.size)
      have hBe6 := hBe5.grown hg6 hBe5.size (fun q e => by cases e; omega)
      have hBe := hBe6.trans (hB7.mono hBe6.size)
      have hk2 := (KeepsOthers.setCell (w7.setCell ⟨w.heap.size, 0, none⟩ (.slice none 0 0)) ⟨w.heap.size + 1, 0, none⟩ (.int .i64 2)).same D _ ((KeepsOthers.setCell w7 ⟨w.heap.size, 0, none⟩ (.slice none 0 0)).same D _ hk7 rfl) rfl
      refine ⟨by simp, .inl ⟨_, _, rfl, run_takeDeferred hk2, ?_⟩⟩
      have y2 : Boxed ((w7.setCell ⟨w.heap.size, 0, none⟩ (.slice none 0 0)).setCell ⟨w.heap.size + 1, 0, none⟩ (.int .i64 2)) w.heap.size 115 (.slice none 0 0) := (o2.set _).kept (grownBy_setCell' _ _ _) (fun e => by have := Option.some.inj e; omega)
      have y3 : Boxed ((w7.setCell ⟨w.heap.size, 0, none⟩ (.slice none 0 0)).setCell ⟨w.heap.size + 1, 0, none⟩ (.int .i64 2)) (w.heap.size + 1) 28 (.int .i64 2) := (o3.kept (grownBy_setCell' _ _ _) (fun e => by have := Option.some.inj e; omega)).set _
      have v2 := (y2.kept (grownBy_putObj' ((w7.setCell ⟨w.heap.size, 0, none⟩ (.slice none 0 0)).setCell ⟨w.heap.size + 1, 0, none⟩ (.int .i64 2)) D (.deferred none)) (fun e => box_ne y2 hk2 rfl (Option.some.inj e))).cell
      have v3 := (y3.kept (grownBy_putObj' ((w7.setCell ⟨w.heap.size, 0, none⟩ (.slice none 0 0)).setCell ⟨w.heap.size + 1, 0, none⟩ (.int .i64 2)) D (.deferred none)) (fun e => box_ne y3 hk2 rfl (Option.some.inj e))).cell
      refine ⟨.tuple #[.slice none 0 0, .int .i64 2], by simp [results, Tryz.results71, go_sem, v2, v3], ?_⟩
      exact ⟨((hBe.setCell (p := ⟨w.heap.size, 0, none⟩) (Nat.le_refl _) _).setCell (p := ⟨w.heap.size + 1, 0, none⟩) (Nat.le_succ _) _).grown (grownBy_putObj' ((w7.setCell ⟨w.heap.size, 0, none⟩ (.slice none 0 0)).setCell ⟨w.heap.size + 1, 0, none⟩ (.int .i64 2)) D (.deferred none)) (by rw [World.size_setCell, World.size_setCell]; exact hBe.size) (fun q e => by cases e; omega), .inl ⟨by rw [HOK.out]; simp; omega, rfl⟩⟩
    · have h60 : (T.size : Int) ≤ 60 := by assumption
      have hk7 : w7.heap[D]? = some (.deferred (some [])) := (hB7.block D (Array.getElem?_eq_some_iff.1 hk6).1).trans hk6
      have hBe5 := bel.trans (hB5.mono bel.size)
      have hBe6 := hBe5.grown hg6 hBe5.size (fun q e => by cases e; omega)
      have hBe := hBe6.trans (hB7.mono hBe6.size)
      have hk2 := (KeepsOthers.setCell (w7.setCell ⟨w.heap.size, 0, none⟩ (.slice (some ⟨g, 0, none⟩) (n + 1) cap)) ⟨w.heap.size + 1, 0, none⟩ (.int .i64 0)).same D _ ((KeepsOthers.setCell w7 ⟨w.heap.size, 0, none⟩ (.slice (some ⟨g, 0, none⟩) (n + 1) cap)).same D _ hk7 rfl) rfl
      refine ⟨by simp, .inl ⟨_, _, rfl, run_takeDeferred hk2, ?_⟩⟩
      have y2 : Boxed ((w7.setCell ⟨w.heap.size, 0, none⟩ (.slice (some ⟨g, 0, none⟩) (n + 1) cap)).setCell ⟨w.heap.size + 1, 0, none⟩ (.int .i64 0)) w.heap.size 115 (.slice (some ⟨g, 0, none⟩) (n + 1) cap) := (o2.set _).kept (grownBy_setCell' _ _ _) (fun e => by have := Option.some.inj e; omega)
      have y3 : Boxed ((w7.setCell ⟨w.heap.size, 0, none⟩ (.slice (some ⟨g, 0, none⟩) (n + 1) cap)).setCell ⟨w.heap.size + 1, 0, none⟩ (.int .i64 0)) (w.heap.size + 1) 28 (.int .i64 0) := (o3.kept (grownBy_setCell' _ _ _) (fun e => by have := Option.some.inj e; omega)).set _
      have v2 := (y2.kept (grownBy_putObj' ((w7.setCell ⟨w.heap.size, 0, none⟩ (.slice (some ⟨g, 0, none⟩) (n + 1) cap)).setCell ⟨w.heap.size + 1, 0, none⟩ (.int .i64 0)) D (.deferred none)) (fun e => box_ne y2 hk2 rfl (Option.some.inj e))).cell
      have v3 := (y3.kept (grownBy_putObj' ((w7.setCell ⟨w.heap.size, 0, none⟩ (.slice (some ⟨g, 0, none⟩) (n + 1) cap)).setCell ⟨w.heap.size + 1, 0, none⟩ (.int .i64 0)) D (.deferred none)) (fun e => box_ne y3 hk2 rfl (Option.some.inj e))).cell
      refine ⟨.tuple #[.slice (some ⟨g, 0, none⟩) (n + 1) cap, .int .i64 0], by simp [results, Tryz.results71, go_sem, v2, v3], ?_⟩
      refine ⟨((hBe.setCell (p := ⟨w.heap.size, 0, none⟩) (Nat.le_refl _) _).setCell (p := ⟨w.heap.size + 1, 0, none⟩) (Nat.le_succ _) _).grown (grownBy_putObj' ((w7.setCell ⟨w.heap.size, 0, none⟩ (.slice (some ⟨g, 0, none⟩) (n + 1) cap)).setCell ⟨w.heap.size + 1, 0, none⟩ (.int .i64 0)) D (.deferred none)) (by rw [World.size_setCell, World.size_setCell]; exact hBe.size) (fun q e => by cases e; omega), .inr ⟨by rw [HOK.out]; simp; omega, g, cap, by rw [HHL.out], ?_⟩⟩
      exact lb_kept (lb_kept (lb_kept HLB7.out (grownBy_setCell' _ _ _) (fun e => by have := Option.some.inj e; omega)) (grownBy_setCell' _ _ _) (fun e => by have := Option.some.inj e; omega)) (grownBy_putObj' ((w7.setCell ⟨w.heap.size, 0, none⟩ (.slice (some ⟨g, 0, none⟩) (n + 1) cap)).setCell ⟨w.heap.size + 1, 0, none⟩ (.int .i64 0)) D (.deferred none)) (fun e => hDg (Option.some.inj e).symm)
 case stop =>
  rintro D W hD hno hK
  obtain ⟨hno1, r2, r3, bel⟩ := hno
  gi_wp2
  refine ⟨by simp, .inl ⟨_, _, rfl, run_takeDeferred hK, ?_⟩⟩
  have v2 : (W.putObj D (.deferred none)).cell? ⟨w.heap.size, 0, none⟩ = some (.slice none 0 0) := (r2.kept (grownBy_putObj' W D (.deferred none)) (fun e => box_ne r2 hK rfl (Option.some.inj e))).cell
  have v3 : (W.putObj D (.deferred none)).cell? ⟨w.heap.size + 1, 0, none⟩ = some (.int .i64 2) := (r3.kept (grownBy_putObj' W D (.deferred none)) (fun e => box_ne r3 hK rfl (Option.some.inj e))).cell
  refine ⟨.tuple #[.slice none 0 0, .int .i64 2], by simp [results, Tryz.results71, go_sem, v2, v3], ?_⟩
  exact ⟨bel.grown (grownBy_putObj' W D (.deferred none)) bel.size (fun q e => by cases e; omega), .inl ⟨hno1, rfl⟩⟩
end Go.Proofs.YtgohllfpceeboaaGreatDoor
