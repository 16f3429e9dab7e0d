namespace Sx
abbrev Wd:=List UInt8
abbrev aT:=UInt8×Nat
def bH {α:Type} [DecidableEq α] (x:α):List α→Option Nat
 | []=>none
 | y::r=>if y=x then some 0 else (bH x r).map (· + 1)
theorem eV {α:Type} [DecidableEq α] (x:α):∀ l:List α,bH x l=none↔x ∉ l
 | []=>by simp[bH]
 | y::r=>by
   unfold bH;by_cases h:y=x
   · simp[h]
   · have:=eV x r;rw[if_neg h,Option.map_eq_none_iff,this];simp only[List.mem_cons,not_or];exact⟨fun h2=>⟨fun e=>h e.symm,h2⟩,fun h2=>h2.2⟩
theorem gU {α:Type} [DecidableEq α] (x:α):∀ (l:List α) (i:Nat),bH x l=some i→l[i]? = some x
 | [],i=>by simp[bH]
 | y::r,i=>by
   unfold bH;by_cases h:y=x
   · rw[if_pos h];intro e;obtain rfl:=Option.some.inj e;simp[h]
   · rw[if_neg h,Option.map_eq_some_iff];rintro⟨j,hj,rfl⟩
     simpa using gU x r j hj
theorem FZ {α:Type}:∀ (l:List α),l.Nodup→∀ (i j:Nat) (x:α),l[i]? = some x→l[j]? = some x→i=j
 | [],_,i,j,x,h,_=>by simp at h
 | y::r,hn,i,j,x,hi,hj=>by
   obtain⟨h1,h2⟩:=List.nodup_cons.1 hn;cases i with
   | zero =>
     cases j with
     | zero=>rfl
     | succ j =>
       simp only[List.getElem?_cons_zero,Option.some.injEq] at hi;simp only[List.getElem?_cons_succ] at hj;subst hi;exact absurd (List.mem_of_getElem? hj) h1
   | succ i =>
     cases j with
     | zero =>
       simp only[List.getElem?_cons_zero,Option.some.injEq] at hj;simp only[List.getElem?_cons_succ] at hi;subst hj;exact absurd (List.mem_of_getElem? hi) h1
     | succ j =>
       simp only[List.getElem?_cons_succ] at hi hj;rw[FZ r h2 i j x hi hj]
theorem ED {α:Type} [DecidableEq α] {l:List α}(hn:l.Nodup){i:Nat}{x:α}(h:l[i]? = some x):bH x l=some i:=by
 cases hp:bH x l with
 | none=>exact absurd (List.mem_of_getElem? h) ((eV x l).1 hp)
 | some j=>rw[FZ l hn i j x h (gU x l j hp)]
def grp:List Wd→List (UInt8×List Wd)
 | []=>[]
 | []::r=>grp r
 | (c::t)::r=>match grp r with
   | []=>[(c,[t])]
   | (d,b)::g=>if d=c then (c,t::b)::g else (c,[t])::(d,b)::g
def uT (g:List (UInt8×List Wd)):List Wd:=g.flatMap fun x=>x.2.map (x.1 :: ·)
theorem jG:∀ (l:List Wd),(∀ w∈l,w≠[])→uT (grp l)=l
 | [],_=>rfl
 | []::r,h=>absurd rfl (h [] (by simp))
 | (c::t)::r,h=>by
   have ih:=jG r (fun w hw=>h w (by simp[hw]));unfold grp;cases hg:grp r with
   | nil =>
     rw[hg] at ih;simp only[uT,List.flatMap_nil] at ih;simp[uT,←ih]
   | cons x g =>
     obtain⟨d,b⟩:=x;rw[hg] at ih;by_cases e:d=c
     · subst e;simp only[if_true];rw[←ih];simp[uT]
     · simp only[if_neg e];rw[←ih];simp[uT]
def sl (l:List Wd):Nat:=(l.map List.length).sum
theorem VB:∀ (l:List Wd),(∀ w∈l,w≠[])→∀ g∈grp l,sl g.2<sl l
 | [],_,g,hg=>by simp[grp] at hg
 | []::r,h,_,_=>absurd rfl (h [] (by simp))
 | (c::t)::r,h,g,hg=>by
   have ih:=VB r (fun w hw=>h w (by simp[hw]));unfold grp at hg;cases hr:grp r with
   | nil =>
     rw[hr] at hg;simp only[List.mem_singleton] at hg;subst hg;simp[sl];omega
   | cons x g' =>
     obtain⟨d,b⟩:=x;rw[hr] at hg ih;by_cases e:d=c
     · simp only[if_pos e,List.mem_cons] at hg;rcases hg with rfl | hg
       · have:=ih (d,b) (by simp);simp[sl] at this ⊢;omega
       · have:=ih g (by simp[hg]);simp[sl] at this ⊢;omega
     · simp only[if_neg e,List.mem_cons] at hg;rcases hg with rfl | rfl | hg
       · simp[sl];omega
       · have:=ih (d,b) (by simp);simp[sl] at this ⊢;omega
       · have:=ih g (by simp[hg]);simp[sl] at this ⊢;omega
theorem NU {l:List Wd}(h:∀ w∈l,w≠[])(h0:l≠[]):grp l≠[]:=by
 intro e;have:=jG l h;rw[e] at this;exact h0 this.symm
def SK (l:List Wd):Prop:=l=[[]]∨(l≠[]∧∀ w∈l,w≠[])
theorem WX {a b:List Wd}(ha:SK a)(hb:SK b)(h:grp a=grp b):a=b:=by
 rcases ha with rfl | ⟨a0,a1⟩
 · rcases hb with rfl | ⟨b0,b1⟩
   · rfl
   · exact absurd h.symm (NU b1 b0)
 · rcases hb with rfl | ⟨b0,b1⟩
   · exact absurd h (NU a1 a0)
   · rw[←jG a a1,←jG b b1,h]
def kB:Nat→List Wd→Prop
 | 0,_=>False
 | n+1,l=>SK l∧∀ g∈grp l,kB n g.2
abbrev Sts:=List (List Wd×List aT)
def fU:Nat→Sts→List Wd→Sts×Nat
 | 0,all,_=>(all,0)
 | n+1,all,l=>match bH l (all.map (·.1)) with
   | some i=>(all,i)
   | none =>
     let r:=(grp l).foldl (fun (s:Sts×List aT) g=>((fU n s.1 g.2).1,s.2++[(g.1,(fU n s.1 g.2).2)])) (all,[])
     (r.1++[(l,r.2)],r.1.length)
def bU:Nat→List (List aT)→List Wd→List (List aT)×Nat
 | 0,tab,_=>(tab,0)
 | n+1,tab,l =>
   let r:=(grp l).foldl (fun (s:List (List aT)×List aT) g=>((bU n s.1 g.2).1,s.2++[(g.1,(bU n s.1 g.2).2)])) (tab,[])
   match bH r.2 r.1 with
   | some i=>(r.1,i)
   | none=>(r.1++[r.2],r.1.length)
structure Inv (all:Sts):Prop where
 nd:(all.map (·.1)).Nodup
 fine:∀ s∈all,SK s.1
 edges:∀ s∈all,(grp s.1).map (fun g=>(g.1,some g.2))=s.2.map (fun e=>(e.1,(all[e.2]?).map (·.1)))
theorem MO {all:Sts}(h:Inv all){a b:List Wd×List aT}(ha:a∈all)(hb:b∈all)(e:a.2=b.2):a.1=b.1:=by
 refine WX (h.fine a ha) (h.fine b hb) ?_;have h1:=h.edges a ha;rw[e,←h.edges b hb] at h1;have inj:∀ (x y:List (UInt8×List Wd)),x.map (fun g=>(g.1,some g.2))=y.map (fun g=>(g.1,some g.2))→x=y:=by
  intro x
  induction x with
  | nil=>intro y hy;cases y with
    | nil=>rfl
    | cons _ _=>simp at hy
  | cons p x ih=>intro y hy;cases y with
    | nil=>simp at hy
    | cons q y =>
      simp only[List.map_cons,List.cons.injEq,Prod.mk.injEq,Option.some.injEq] at hy;rw[ih y hy.2,Prod.ext hy.1.1 hy.1.2]
 exact inj _ _ h1
theorem Inv.tab_nd {all:Sts}(h:Inv all):(all.map (·.2)).Nodup:=by
 have key:∀ (l:Sts),(l.map (·.1)).Nodup→(∀ a∈l,∀ b∈l,a.2=b.2→a.1=b.1)→(l.map (·.2)).Nodup:=by
  intro l
  induction l with
  | nil=>intro _ _;simp
  | cons x r ih =>
    intro h1 h2;simp only[List.map_cons,List.nodup_cons] at h1 ⊢;refine⟨fun hm=>?_,ih h1.2 (fun a ha b hb=>h2 a (by simp[ha]) b (by simp[hb]))⟩;obtain⟨y,hy,e⟩:=List.mem_map.1 hm;exact h1.1 (List.mem_map.2 ⟨y,hy,h2 y (by simp[hy]) x (by simp) e⟩)
 exact key all h.nd (fun a ha b hb e=>MO h ha hb e)
theorem AU {all ext:Sts}{j:Nat}(h:j<all.length):(all++ext)[j]? = all[j]?:=List.getElem?_append_left h
structure StsOk (n:Nat) (all:Sts) (l:List Wd):Prop where
 inv:Inv (fU n all l).1
 ext:∃ ext,(fU n all l).1=all++ext∧∀ s∈ext,sl s.1≤sl l
 at':((fU n all l).1[(fU n all l).2]?).map (·.1)=some l
 same:bU n (all.map (·.2)) l=((fU n all l).1.map (·.2),(fU n all l).2)
def vB (n:Nat)(s:Sts×List aT)(g:UInt8×List Wd):Sts×List aT:=((fU n s.1 g.2).1,s.2++[(g.1,(fU n s.1 g.2).2)])
def bN (n:Nat)(s:List (List aT)×List aT)(g:UInt8×List Wd):List (List aT)×List aT:=((bU n s.1 g.2).1,s.2++[(g.1,(bU n s.1 g.2).2)])
theorem GL (n B:Nat)(ih:∀ all l,Inv all→kB n l→StsOk n all l):∀ (gs:List (UInt8×List Wd)) (all:Sts) (es:List aT),Inv all→(∀ g∈gs,kB n g.2∧sl g.2<B) →
 ∃ (ext:Sts) (es':List aT),gs.foldl (vB n) (all,es)=(all++ext,es++es')∧Inv (all++ext)∧(∀ s∈ext,sl s.1<B) ∧
  gs.map (fun g=>(g.1,some g.2))=es'.map (fun e=>(e.1,((all++ext)[e.2]?).map (·.1)))∧gs.foldl (bN n) (all.map (·.2),es)=((all++ext).map (·.2),es++es')
 | [],all,es,hi,_=>⟨[],[],by simp,by simpa using hi,by simp,by simp,by simp⟩
 | g::gs,all,es,hi,hg=>by
   obtain⟨h1,h2⟩:=hg g (by simp);have N:=ih all g.2 hi h1;obtain⟨x1,hx1,hb1⟩:=N.ext;have hi1:Inv (all++x1):=hx1 ▸ N.inv;obtain⟨x2,es2,e1,e2,e3,e4,e5⟩:=GL n B ih gs (all++x1) (es++[(g.1,(fU n all g.2).2)]) hi1 (fun y hy=>hg y (by simp[hy]));have hat:=N.at';rw[hx1] at hat;have hlt:(fU n all g.2).2<(all++x1).length:=by
    by_cases hlt:(fU n all g.2).2<(all++x1).length
    · exact hlt
    · rw[List.getElem?_eq_none (by omega)] at hat;simp at hat
   refine⟨x1++x2,(g.1,(fU n all g.2).2)::es2,?_,?_,?_,?_,?_⟩
   · rw[List.foldl_cons,show vB n (all,es) g=(all++x1,es++[(g.1,(fU n all g.2).2)]) by simp[vB,hx1],e1];simp
   · rw[←List.append_assoc];exact e2
   · intro s hs;rcases List.mem_append.1 hs with hs | hs
     · have:=hb1 s hs;omega
     · exact e3 s hs
   · rw[←List.append_assoc,List.map_cons,List.map_cons,e4];congr 1;rw[AU hlt,hat]
   · rw[List.foldl_cons,show bN n (all.map (·.2),es) g=((all++x1).map (·.2),es++[(g.1,(fU n all g.2).2)]) by simp[bN,N.same,hx1],e5];simp
theorem yV (n:Nat)(all:Sts)(hi:Inv all)(ih:∀ l,kB n l→StsOk n all l)(hf:∀ l i,(all[i]?).map (·.1)=some l→kB n l→fU n all l=(all,i)):∀ (gs:List (UInt8×List Wd)) (es0 es:List aT),(∀ g∈gs,kB n g.2) →
 gs.map (fun g=>(g.1,some g.2))=es.map (fun e=>(e.1,(all[e.2]?).map (·.1)))→gs.foldl (bN n) (all.map (·.2),es0)=(all.map (·.2),es0++es)
 | [],es0,es,_,h=>by
   cases es with
   | nil=>simp
   | cons _ _=>simp at h
 | g::gs,es0,es,hg,h=>by
   cases es with
   | nil=>simp at h
   | cons e es =>
     simp only[List.map_cons,List.cons.injEq,Prod.mk.injEq] at h;have hn:=hf g.2 e.2 h.1.2.symm (hg g (by simp));have hs:=(ih g.2 (hg g (by simp))).same;rw[hn] at hs;rw[List.foldl_cons,show bN n (all.map (·.2),es0) g=(all.map (·.2),es0++[e]) by
      simp only[bN,hs];rw[h.1.1]]
     rw[yV n all hi ih hf gs (es0++[e]) es (fun y hy=>hg y (by simp[hy])) h.2];simp
theorem gR (n:Nat)(all:Sts)(l:List Wd):fU (n+1) all l=match bH l (all.map (·.1)) with
 | some i=>(all,i)
 | none=>(((grp l).foldl (vB n) (all,[])).1++[(l,((grp l).foldl (vB n) (all,[])).2)],((grp l).foldl (vB n) (all,[])).1.length):=rfl
theorem fA (n:Nat)(tab:List (List aT))(l:List Wd):bU (n+1) tab l=match bH ((grp l).foldl (bN n) (tab,[])).2 ((grp l).foldl (bN n) (tab,[])).1 with
 | some i=>(((grp l).foldl (bN n) (tab,[])).1,i)
 | none=>(((grp l).foldl (bN n) (tab,[])).1++[((grp l).foldl (bN n) (tab,[])).2],((grp l).foldl (bN n) (tab,[])).1.length):=rfl
theorem LU (n:Nat)(all:Sts)(hi:Inv all)(l:List Wd)(i:Nat)(h:(all[i]?).map (·.1)=some l)(hn:0<n):fU n all l=(all,i):=by
 cases n with
 | zero=>omega
 | succ n =>
   rw[gR,ED hi.nd (i:=i) (by rw[List.getElem?_map];exact h)]
theorem ZJ {n:Nat}{l:List Wd}(h:kB n l):0<n:=by
 cases n with
 | zero=>exact absurd h (by simp[kB])
 | succ n=>omega
theorem tL:∀ (n:Nat) (all:Sts) (l:List Wd),Inv all→kB n l→StsOk n all l
 | 0,_,_,_,h=>absurd h (by simp[kB])
 | n+1,all,l,hi,ho=>by
   have ih:=tL n;cases hp:bH l (all.map (·.1)) with
   | some i =>
     have hl:=gU _ _ _ hp;rw[List.getElem?_map] at hl;have he:fU (n+1) all l=(all,i):=by rw[gR,hp]
     obtain⟨s,hs,hsl⟩:=Option.map_eq_some_iff.1 hl;have hsm:=List.mem_of_getElem? hs;have hE:=hi.edges s hsm;rw[hsl] at hE;have hT:=yV n all hi (fun l' ho'=>ih all l' hi ho') (fun l' j hj ho'=>LU n all hi l' j hj (ZJ ho')) (grp l) [] s.2 ho.2 hE;have hpos:bH s.2 (all.map (·.2))=some i:=ED hi.tab_nd (by rw[List.getElem?_map,hs];rfl);refine⟨?_,⟨[],?_,by simp⟩,?_,?_⟩
     · rw[he];exact hi
     · rw[he];simp
     · rw[he];exact hl
     · rw[he,fA,hT];simp only[List.nil_append];rw[hpos]
   | none =>
     have hnm:=(eV _ _).1 hp;have hfine:=ho.1;have hsl:∀ g∈grp l,sl g.2<sl l∨l=[[]]:=fun g hg=>by
      rcases hfine with h0 | ⟨_,h1⟩
      · exact Or.inr h0
      · exact Or.inl (VB l h1 g hg)
     have hB:∀ g∈grp l,kB n g.2∧sl g.2<sl l:=fun g hg=>⟨ho.2 g hg,by
      rcases hsl g hg with h | h
      · exact h
      · subst h;simp[grp] at hg⟩
     obtain⟨ext,es,e1,e2,e3,e4,e5⟩:=GL n (sl l) ih (grp l) all [] hi hB;simp only[List.nil_append] at e1 e5;have he:fU (n+1) all l=(all++ext++[(l,es)],(all++ext).length):=by rw[gR,hp];simp only[e1]
     have hnl:l ∉ (all++ext).map (·.1):=by
      rw[List.map_append,List.mem_append];rintro(h | h)
      · exact hnm h
      · obtain⟨s,hs,e⟩:=List.mem_map.1 h;have:=e3 s hs;rw[e] at this;omega
     have hlt:∀ e∈es,e.2<(all++ext).length:=fun e hm=>by
      have:(e.1,((all++ext)[e.2]?).map (·.1))∈(grp l).map (fun g=>(g.1,some g.2)):=by rw[e4];exact List.mem_map.2 ⟨e,hm,rfl⟩
      obtain⟨g,_,hg⟩:=List.mem_map.1 this;by_cases hlt:e.2<(all++ext).length
      · exact hlt
      · rw[List.getElem?_eq_none (by omega)] at hg;simp at hg
     have hinv:Inv (all++ext++[(l,es)]):=by
      refine⟨?_,?_,?_⟩
      · rw[List.map_append,List.nodup_append];refine⟨e2.nd,by simp,fun a ha b hb=>?_⟩;simp only[List.map_cons,List.map_nil,List.mem_singleton] at hb;subst hb;exact fun e=>hnl (e ▸ ha)
      · intro s hs;rcases List.mem_append.1 hs with hs | hs
        · exact e2.fine s hs
        · simp only[List.mem_singleton] at hs;subst hs;exact hfine
      · intro s hs;rcases List.mem_append.1 hs with hs | hs
        · rw[e2.edges s hs];refine List.map_congr_left fun e hm=>?_;have:e.2<(all++ext).length:=by
           have hx:(e.1,((all++ext)[e.2]?).map (·.1))∈(grp s.1).map (fun g=>(g.1,some g.2)):=by rw[e2.edges s hs];exact List.mem_map.2 ⟨e,hm,rfl⟩
           obtain⟨g,_,hg⟩:=List.mem_map.1 hx;by_cases hlt:e.2<(all++ext).length
           · exact hlt
           · rw[List.getElem?_eq_none (by omega)] at hg;simp at hg
          rw[AU this]
        · simp only[List.mem_singleton] at hs;subst hs;simp only;rw[e4];exact List.map_congr_left fun e hm=>by rw[AU (hlt e hm)]
     have hpn:bH es ((all++ext).map (·.2))=none:=(eV _ _).2 (fun hm=>by
      obtain⟨s,hs,e⟩:=List.mem_map.1 hm;have h1:=MO hinv (a:=s) (b:=(l,es)) (by simp only[List.mem_append];exact Or.inl (List.mem_append.1 hs)) (by simp) e;exact hnl (List.mem_map.2 ⟨s,hs,h1⟩))
     refine⟨?_,⟨ext++[(l,es)],?_,?_⟩,?_,?_⟩
     · rw[he];exact hinv
     · rw[he];simp
     · intro s hs;rcases List.mem_append.1 hs with hs | hs
       · have:=e3 s hs;omega
       · simp only[List.mem_singleton] at hs;subst hs;exact Nat.le_refl _
     · rw[he];simp
     · rw[he,fA,e5,hpn];simp
end Sx
namespace Sx
def EX (l:List Wd):Prop:=l.Pairwise fun a b=>¬ a <+: b∧¬ b <+: a
theorem LM:∀ (l:List Wd),∀ g∈grp l,g.2≠[]∧(g.2.map (g.1 :: ·)).Sublist l
 | [],g,hg=>by simp[grp] at hg
 | []::r,g,hg=>by
   have:=LM r g (by simpa[grp] using hg);exact⟨this.1,this.2.cons _⟩
 | (c::t)::r,g,hg=>by
   have ih:=LM r;unfold grp at hg;cases hr:grp r with
   | nil =>
     rw[hr] at hg;simp only[List.mem_singleton] at hg;subst hg;exact⟨by simp,by simp⟩
   | cons x g' =>
     obtain⟨d,b⟩:=x;rw[hr] at hg ih;by_cases e:d=c
     · simp only[if_pos e,List.mem_cons] at hg;rcases hg with rfl | hg
       · have:=ih (d,b) (by simp);subst e;exact⟨by simp,by simpa using this.2⟩
       · have:=ih g (by simp[hg]);exact⟨this.1,this.2.cons _⟩
     · simp only[if_neg e,List.mem_cons] at hg;rcases hg with rfl | rfl | hg
       · exact⟨by simp,by simp⟩
       · have:=ih (d,b) (by simp);exact⟨this.1,this.2.cons _⟩
       · have:=ih g (by simp[hg]);exact⟨this.1,this.2.cons _⟩
theorem QE {l:List Wd}(h:EX l)(h0:l≠[]):SK l:=by
 by_cases hm:[]∈l
 · left;cases l with
   | nil=>exact absurd rfl h0
   | cons a r =>
     obtain⟨h1,h2⟩:=List.pairwise_cons.1 h;cases r with
     | nil =>
       simp only[List.mem_singleton] at hm;rw[hm]
     | cons b r =>
       rcases List.mem_cons.1 hm with hm | hm
       · exact absurd (List.nil_prefix) (hm ▸ (h1 b (by simp)).1)
       · exact absurd (List.nil_prefix) ((h1 [] hm).2)
 · exact Or.inr ⟨h0,fun w hw e=>hm (e ▸ hw)⟩
theorem OC:∀ (n:Nat) (l:List Wd),EX l→l≠[]→(∀ w∈l,w.length<n)→kB n l
 | 0,l,_,h0,hn=>by
   cases l with
   | nil=>exact absurd rfl h0
   | cons a r=>exact absurd (hn a (by simp)) (by omega)
 | n+1,l,h,h0,hn=>by
   refine⟨QE h h0,fun g hg=>?_⟩;obtain⟨g0,g1⟩:=LM l g hg;have hp:=h.sublist g1;rw[List.pairwise_map] at hp;refine OC n g.2 (hp.imp fun {a b} hab=>⟨fun e=>hab.1 (by simpa using e),fun e=>hab.2 (by simpa using e)⟩) g0 (fun w hw=>?_);have:=hn (g.1::w) (g1.subset (List.mem_map.2 ⟨w,hw,rfl⟩));simp only[List.length_cons] at this;omega
theorem uZ {α:Type}{lt:α→α→Prop}(irr:∀ a,¬ lt a a)(asym:∀ a b,lt a b→¬ lt b a):∀ (a b:List α),a.Pairwise lt→b.Pairwise lt→(∀ x,x∈a↔x∈b)→a=b
 | [],[],_,_,_=>rfl
 | [],y::b,_,_,h=>absurd ((h y).2 (by simp)) (by simp)
 | x::a,[],_,_,h=>absurd ((h x).1 (by simp)) (by simp)
 | x::a,y::b,ha,hb,h=>by
   obtain⟨a1,a2⟩:=List.pairwise_cons.1 ha;obtain⟨b1,b2⟩:=List.pairwise_cons.1 hb;have hxy:x=y:=by
    rcases List.mem_cons.1 ((h x).1 (by simp)) with e | e
    · exact e
    · rcases List.mem_cons.1 ((h y).2 (by simp)) with e' | e'
      · exact e'.symm
      · exact absurd (a1 y e') (asym _ _ (b1 x e))
   subst hxy;rw[uZ irr asym a b a2 b2 (fun z=>⟨fun hz=>by
    rcases List.mem_cons.1 ((h z).1 (by simp[hz])) with e | e
    · subst e;exact absurd (a1 z hz) (irr z)
    · exact e,fun hz=>by
    rcases List.mem_cons.1 ((h z).2 (by simp[hz])) with e | e
    · subst e;exact absurd (b1 z hz) (irr z)
    · exact e⟩)]
end Sx
/- Plain mathematics of codes: thresholds,digits,numbers,the bias. It imports nothing of the translation. -/
namespace Sx
def cE (k bias:Int):Int :=
 if 36*(k+1)-bias<1 then 1 else if 26<36*(k+1)-bias then 26 else 36*(k+1)-bias
theorem eP (k bias:Int):1≤cE k bias:=by unfold cE;split <;> (try split) <;> omega
theorem fP (k bias:Int):cE k bias≤26:=by unfold cE;split <;> (try split) <;> omega
def nL (x:Int):UInt8:=if x<26 then UInt8.ofNat (97+x.toNat) else UInt8.ofNat (22+x.toNat)
def iG:Nat→Int→Int→Int→List UInt8
 | 0,d,_,_=>[nL d]
 | f+1,d,k,bias =>
   if cE k bias≤d then nL (cE k bias+(d-cE k bias) % (36-cE k bias))::iG f ((d-cE k bias) / (36-cE k bias)) (k+1) bias
   else [nL d]
def iH (d k bias:Int):List UInt8:=iG d.toNat d k bias
theorem lP (d t:Int)(h1:1≤t)(h2:t≤26)(h:t≤d):0≤(d-t) / (36-t)∧(d-t) / (36-t)<d:=by
 have hp:0<36-t:=by omega
 refine⟨Int.ediv_nonneg (by omega) (by omega),?_⟩;have:(d-t) / (36-t)≤d-t:=Int.ediv_le_self _ (by omega);omega
theorem JP:∀ (f g:Nat) (d k bias:Int),0≤d→d.toNat≤f→d.toNat≤g→iG f d k bias=iG g d k bias:=by
 intro f
 induction f with
 | zero =>
   intro g d k bias h0 hf hg;have hd:d=0:=by omega
   subst hd;cases g with
   | zero=>rfl
   | succ g =>
     have:=eP k bias;simp only[iG];rw[if_neg (by omega)]
 | succ f ih =>
   intro g d k bias h0 hf hg;have h1:=eP k bias;have h2:=fP k bias;cases g with
   | zero =>
     have hd:d=0:=by omega
     subst hd;simp only[iG];rw[if_neg (by omega)]
   | succ g =>
     simp only[iG];by_cases h:cE k bias≤d
     · have hs:=lP d _ h1 h2 h;rw[if_pos h,if_pos h,ih g _ _ _ hs.1 (by omega) (by omega)]
     · rw[if_neg h,if_neg h]
theorem jA (d k bias:Int)(h0:0≤d)(h:cE k bias≤d) :
 iH d k bias=nL (cE k bias+(d-cE k bias) % (36-cE k bias))::iH ((d-cE k bias) / (36-cE k bias)) (k+1) bias:=by
 have h1:=eP k bias;have h2:=fP k bias;have hs:=lP d _ h1 h2 h;unfold iH;obtain⟨m,hm⟩:∃ m,d.toNat=m+1:=⟨d.toNat-1,by omega⟩
 rw[hm];simp only[iG];rw[if_pos h,JP m _ _ _ _ hs.1 (by omega) (Nat.le_refl _)]
theorem fD (d k bias:Int)(h:¬ cE k bias≤d):iH d k bias=[nL d]:=by
 unfold iH;cases hd:d.toNat with
 | zero=>rfl
 | succ m=>simp only[iG];rw[if_neg h]
def iF:Nat→Int→Int→Int
 | 0,d,n=>n+36*d / (d+38)
 | f+1,d,n=>if 455<d then iF f (d / 35) (n+36) else n+36*d / (d+38)
def oM (d n:Int):Int:=iF d.toNat d n
theorem KW:∀ (f g:Nat) (d n:Int),0≤d→d.toNat≤f→d.toNat≤g→iF f d n=iF g d n:=by
 intro f
 induction f with
 | zero =>
   intro g d n h0 hf hg;cases g with
   | zero=>rfl
   | succ g=>simp only[iF];rw[if_neg (by omega)]
 | succ f ih =>
   intro g d n h0 hf hg;cases g with
   | zero=>simp only[iF];rw[if_neg (by omega)]
   | succ g =>
     simp only[iF];by_cases h:455<d
     · rw[if_pos h,if_pos h,ih g _ _ (by omega) (by omega) (by omega)]
     · rw[if_neg h,if_neg h]
theorem oZ (d n:Int)(h:455<d):oM d n=oM (d / 35) (n+36):=by
 unfold oM;obtain⟨m,hm⟩:∃ m,d.toNat=m+1:=⟨d.toNat-1,by omega⟩
 rw[hm];simp only[iF];rw[if_pos h,KW m _ _ _ (by omega) (by omega) (Nat.le_refl _)]
theorem pG (d n:Int)(h:¬ 455<d):oM d n=n+36*d / (d+38):=by
 unfold oM;cases hd:d.toNat with
 | zero=>rfl
 | succ m=>simp only[iF];rw[if_neg h]
def oP (d aF:Int):Int:=oM (d+d / aF) 0
def after (d aF:Int)(first:Bool):Int:=if first then oP (d / 700) aF else oP (d / 2) aF
theorem WT:∀ (f:Nat) (d n:Int),0≤d→0≤n→n≤iF f d n∧(d≤455*35*35*35*35→d.toNat≤f→iF f d n≤n+180):=by
 intro f;have last:∀ d n:Int,0≤d→n≤n+36*d / (d+38)∧n+36*d / (d+38)≤n+36:=by
  intro d n h0;have hp:0<d+38:=by omega
  have h1:0≤36*d / (d+38):=Int.ediv_nonneg (by omega) (by omega);have h2:36*d / (d+38)<37:=Int.ediv_lt_of_lt_mul hp (by omega);omega
 intro d n h0 hn;refine⟨?_,?_⟩
 · induction f generalizing d n with
   | zero=>exact(last d n h0).1
   | succ f ih =>
     simp only[iF];split
     · have:=ih (d / 35) (n+36) (by omega) (by omega);omega
     · exact(last d n h0).1
 · intro hd hf
   -- at most four rounds
   have key:∀ (r:Nat) (f:Nat) (d n:Int),0≤d→d≤455*(35:Int) ^ r→d.toNat≤f→iF f d n≤n+36*r+36:=by
    intro r
    induction r with
    | zero =>
      intro f d n h0 hd hf;cases f with
      | zero=>have:=(last d n h0).2;simp only[iF];omega
      | succ f=>simp only[iF];rw[if_neg (by simp at hd;omega)];have:=(last d n h0).2;omega
    | succ r ih =>
      intro f d n h0 hd hf;have l2:=(last d n h0).2;cases f with
      | zero=>simp only[iF];omega
      | succ f =>
        simp only[iF];split
        · have h5:d / 35≤455*(35:Int) ^ r:=by
           rw[Int.pow_succ] at hd;generalize (35:Int) ^ r=p at *;omega
          have:=ih f (d / 35) (n+36) (by omega) h5 (by omega);omega
        · omega
   have:=key 4 f d n h0 (by simpa using hd) hf;omega
theorem mL (d aF:Int)(first:Bool)(h0:0≤d)(h1:d≤200000000)(hl:1≤aF):0≤after d aF first∧after d aF first≤180:=by
 have hh:∀ x:Int,0≤x→x≤100000000→0≤oP x aF∧oP x aF≤180:=by
  intro x hx hx2;have g1:0≤x / aF:=Int.ediv_nonneg hx (by omega);have g2:x / aF≤x:=Int.ediv_le_self _ hx;unfold oP oM;have:=WT (x+x / aF).toNat (x+x / aF) 0 (by omega) (by omega);have h3:=this.2 (by omega) (Nat.le_refl _);omega
 unfold after;split
 · exact hh _ (by omega) (by omega)
 · exact hh _ (by omega) (by omega)
def valOf (c:UInt8):Int:=if 97≤c.toNat∧c.toNat≤122 then (c.toNat:Int)-97 else if 48≤c.toNat∧c.toNat≤57 then (c.toNat:Int)-22 else -1
theorem nK (x:Nat)(h:x<36):valOf (nL x)=x:=by
 have k:∀ x:Fin 36,valOf (nL (x.val:Int))=(x.val:Int):=by decide
 exact k ⟨x,h⟩
theorem JY (c:UInt8)(h:∀ j:Nat,j<36→nL j≠c):valOf c = -1:=by
 have k:∀ n:Fin 256,(∃ j:Fin 36,nL (j.val:Int)=UInt8.ofNat n.val)∨valOf (UInt8.ofNat n.val) = -1:=by decide +kernel
 have hc:=c.toNat_lt;have:=k ⟨c.toNat,hc⟩;simp only[UInt8.ofNat_toNat] at this;rcases this with ⟨j,hj⟩ | this
 · exact absurd hj (h j.val j.isLt)
 · exact this
theorem wT (c:UInt8) : -1≤valOf c∧valOf c<36:=by unfold valOf;split <;> (try split) <;> omega
end Sx
namespace Sx
def fV (c:Int):List UInt8 :=
 if c<128 then [UInt8.ofNat c.toNat]
 else if c<2048 then [UInt8.ofNat (192+c / 64).toNat,UInt8.ofNat (128+c % 64).toNat]
 else if c<65536 then [UInt8.ofNat (224+c / 4096).toNat,UInt8.ofNat (128+c / 64 % 64).toNat,UInt8.ofNat (128+c % 64).toNat]
 else [UInt8.ofNat (240+c / 262144).toNat,UInt8.ofNat (128+c / 4096 % 64).toNat,UInt8.ofNat (128+c / 64 % 64).toNat,UInt8.ofNat (128+c % 64).toNat]
def text (l:List Int):List UInt8:=l.flatMap fV
theorem zD (l:List Int)(c:Int):text (l++[c])=text l++fV c:=by simp[text]
theorem C9 (c:Int):(fV c).length≤4:=by
 unfold fV;repeat' split
 all_goals simp
theorem lC (l:List Int):(text l).length≤4*l.length:=by
 induction l with
 | nil=>simp[text]
 | cons c l ih=>have:=C9 c;simp only[text,List.flatMap_cons,List.length_append,List.length_cons] at *;omega
theorem take_snoc (l:List Int)(k:Nat)(h:k<l.length):l.take (k+1)=l.take k++[l[k]]:=List.take_succ_eq_append_getElem h
end Sx
namespace Sx
def cB:Nat→Int→List UInt8→Option (Int×List UInt8)
 | 0,c,s=>some (c,s)
 | _+1,_,[]=>none
 | m+1,c,x::s=>if 128≤x.toNat∧x.toNat<192 then cB m (c*64+x.toNat-128) s else none
def lead (x:UInt8):Option (Nat×Int×Int) :=
 if x.toNat<128 then some (0,x.toNat,0)
 else if 192≤x.toNat∧x.toNat<224 then some (1,(x.toNat:Int)-192,128)
 else if 224≤x.toNat∧x.toNat<240 then some (2,(x.toNat:Int)-224,2048)
 else if 240≤x.toNat∧x.toNat<248 then some (3,(x.toNat:Int)-240,65536)
 else none
def rest (m:Nat)(c least:Int)(s:List UInt8):Option (Int×List UInt8) :=
 match cB m c s with
 | none=>none
 | some (c',s')=>if c'<least∨1114111<c'∨(55296≤c'∧c'≤57343) then none else some (c',s')
def one:List UInt8→Option (Int×List UInt8)
 | []=>none
 | x::r=>match lead x with
   | none=>none
   | some (m,c,least)=>rest m c least r
def tJ:Nat→List UInt8→Option (List Int)
 | _,[]=>some []
 | 0,_::_=>none
 | f+1,x::s=>match one (x::s) with
   | none=>none
   | some (c,r)=>(tJ f r).map (c :: ·)
def aF (s:List UInt8):Option (List Int):=tJ s.length s
theorem OO:∀ (m:Nat) (c:Int) (s:List UInt8) (c':Int) (s':List UInt8),cB m c s=some (c',s')→s'.length+m=s.length:=by
 intro m
 induction m with
 | zero=>intro c s c' s' h;simp only[cB,Option.some.injEq,Prod.mk.injEq] at h;rw[h.2];rfl
 | succ m ih =>
   intro c s c' s' h;cases s with
   | nil=>simp[cB] at h
   | cons x s =>
     simp only[cB] at h;split at h
     · have:=ih _ _ _ _ h;simp only[List.length_cons];omega
     · simp at h
theorem CH (x:UInt8)(s:List UInt8)(c:Int)(r:List UInt8)(h:one (x::s)=some (c,r)):r.length≤s.length:=by
 simp only[one] at h;split at h
 · simp at h
 · rename_i m c0 least _;unfold rest at h;split at h
   · simp at h
   · rename_i c' s' hc;split at h
     · simp at h
     · simp only[Option.some.injEq,Prod.mk.injEq] at h;have:=OO _ _ _ _ _ hc;rw[←h.2];omega
theorem QD:∀ (f g:Nat) (s:List UInt8),s.length≤f→s.length≤g→tJ f s=tJ g s:=by
 intro f
 induction f with
 | zero=>intro g s hf hg;cases s with
   | nil=>cases g <;> rfl
   | cons x s=>simp at hf
 | succ f ih =>
   intro g s hf hg;cases s with
   | nil=>cases g <;> rfl
   | cons x s =>
     cases g with
     | zero=>simp at hg
     | succ g =>
       simp only[tJ];cases h:one (x::s) with
       | none=>rfl
       | some p =>
         obtain⟨c,r⟩:=p;have:=CH _ _ _ _ h;simp only[List.length_cons] at hf hg;simp only[ih g r (by omega) (by omega)]
theorem dA:aF []=some []:=rfl
theorem lI (s:List UInt8)(hs:s≠[])(h:one s=none):aF s=none:=by
 cases s with
 | nil=>exact absurd rfl hs
 | cons x s=>simp only[aF,List.length_cons,tJ,h]
theorem iQ (s:List UInt8)(c:Int)(r:List UInt8)(h:one s=some (c,r)):aF s=(aF r).map (c :: ·):=by
 cases s with
 | nil=>simp[one] at h
 | cons x s =>
   have hl:=CH _ _ _ _ h;simp only[aF,List.length_cons,tJ,h];rw[QD s.length r.length r hl (Nat.le_refl _)]
def cb (j:Nat):Int:=256*64 ^ j-1
theorem AS (c:Int)(j:Nat)(x:Int)(h:c≤cb j)(hx:x<192):c*64+x-128≤cb (j+1):=by
 unfold cb at *;rw[Int.pow_succ];generalize (64:Int) ^ j=p at *;omega
theorem WU (j:Nat)(h:j≤3):cb j≤67108863:=by
 have:j=0∨j=1∨j=2∨j=3:=by omega
 rcases this with rfl | rfl | rfl | rfl <;> decide
theorem bP (s:List UInt8)(i:Nat)(h:i<s.length):s.drop i=s[i]::s.drop (i+1):=List.drop_eq_getElem_cons h
theorem nJ (m:Nat)(c:Int)(s:List UInt8)(i:Nat)(h:i<s.length)(h1:128≤s[i].toNat)(h2:s[i].toNat<192):cB (m+1) c (s.drop i)=cB m (c*64+s[i].toNat-128) (s.drop (i+1)):=by
 rw[bP s i h];simp only[cB];rw[if_pos ⟨h1,h2⟩]
theorem jO (m:Nat)(c:Int)(s:List UInt8)(i:Nat)(h:i<s.length)(h1:¬ (128≤s[i].toNat∧s[i].toNat<192)):cB (m+1) c (s.drop i)=none:=by
 rw[bP s i h];simp only[cB];rw[if_neg h1]
theorem nQ (m:Nat)(c:Int)(s:List UInt8)(i:Nat)(h:s.length≤i):cB (m+1) c (s.drop i)=none:=by
 rw[List.drop_eq_nil_of_le h];rfl
theorem dQ (s:List UInt8)(i:Nat)(h:i<s.length)(m:Nat)(c least:Int)(hl:lead s[i]=some (m,c,least)):one (s.drop i)=rest m c least (s.drop (i+1)):=by
 rw[bP s i h];simp only[one,hl]
theorem ME (s:List UInt8)(i:Nat)(h:i<s.length)(hl:lead s[i]=none):one (s.drop i)=none:=by
 rw[bP s i h];simp only[one,hl]
theorem rest_none (m:Nat)(c least:Int)(s:List UInt8)(h:cB m c s=none):rest m c least s=none:=by unfold rest;rw[h]
theorem qM (m:Nat)(c least:Int)(s:List UInt8)(c':Int)(s':List UInt8)(h:cB m c s=some (c',s'))(hb:c'<least∨1114111<c'∨(55296≤c'∧c'≤57343)):rest m c least s=none:=by
 unfold rest;rw[h];simp only;rw[if_pos hb]
theorem lK (m:Nat)(c least:Int)(s:List UInt8)(c':Int)(s':List UInt8)(h:cB m c s=some (c',s'))(hb:¬ (c'<least∨1114111<c'∨(55296≤c'∧c'≤57343))):rest m c least s=some (c',s'):=by
 unfold rest;rw[h];simp only;rw[if_neg hb]
end Sx
/- Plain mathematics of codes: the order of the foreign aF,the code of aF. -/
namespace Sx
def ins {α:Type}(lt:α→α→Bool)(x:α):List α→List α
 | []=>[x]
 | y::r=>if lt x y then x::y::r else y::ins lt x r
def lY {α:Type}(lt:α→α→Bool)(acc:List α):List α→List α
 | []=>acc
 | x::r=>lY lt (ins lt x acc) r
theorem BH {α:Type}(lt:α→α→Bool)(x z:α)(l:List α):z∈ins lt x l↔z=x∨z∈l:=by
 induction l with
 | nil=>simp[ins]
 | cons y r ih =>
   simp only[ins];split
   · simp
   · simp only[List.mem_cons,ih];constructor <;> (intro h;rcases h with h | h | h <;> simp[h])
theorem PS {α:Type}(lt:α→α→Bool)(z:α)(l acc:List α):z∈lY lt acc l↔z∈acc∨z∈l:=by
 induction l generalizing acc with
 | nil=>simp[lY]
 | cons x r ih =>
   simp only[lY,ih,BH,List.mem_cons];constructor
   · rintro((h | h) | h)
     · exact .inr (.inl h)
     · exact .inl h
     · exact .inr (.inr h)
   · rintro(h | h | h)
     · exact .inl (.inr h)
     · exact .inl (.inl h)
     · exact .inr h
theorem q7 {α:Type}(lt:α→α→Bool)(x:α)(l:List α):(ins lt x l).length=l.length+1:=by
 induction l with
 | nil=>rfl
 | cons y r ih=>simp only[ins];split <;> simp[ih]
theorem QX {α:Type}(lt:α→α→Bool)(l acc:List α):(lY lt acc l).length=acc.length+l.length:=by
 induction l generalizing acc with
 | nil=>rfl
 | cons x r ih=>simp only[lY,ih,q7,List.length_cons];omega
def mZ (l:List Int)(a b:Nat):Prop:=l.getD a 0<l.getD b 0∨(l.getD a 0=l.getD b 0∧a<b)
def UT (l:List Int)(a b:Nat):Bool:=decide (l.getD a 0<l.getD b 0)
theorem RX (l:List Int)(x:Nat)(acc:List Nat)(hx:∀ y∈acc,y<x)(h:acc.Pairwise (mZ l)):(ins (UT l) x acc).Pairwise (mZ l):=by
 induction acc with
 | nil=>simp[ins]
 | cons y r ih =>
   rw[List.pairwise_cons] at h;simp only[ins];split
   · rename_i hlt;simp only[UT,decide_eq_true_eq] at hlt;rw[List.pairwise_cons];refine⟨?_,by rw[List.pairwise_cons];exact h⟩;intro z hz;rcases List.mem_cons.1 hz with rfl | hz
     · exact .inl hlt
     · have:=h.1 z hz;unfold mZ at this;exact .inl (by omega)
   · rename_i hlt;simp only[UT,decide_eq_true_eq] at hlt;rw[List.pairwise_cons];refine⟨?_,ih (fun z hz=>hx z (List.mem_cons_of_mem _ hz)) h.2⟩;intro z hz;rcases(BH _ _ _ _).1 hz with rfl | hz
     · have:=hx y (List.mem_cons_self ..);unfold mZ;omega
     · exact h.1 z hz
theorem CO (l:List Int)(xs acc:List Nat)(hs:xs.Pairwise (· < ·))(hx:∀ y∈acc,∀ x∈xs,y<x)(h:acc.Pairwise (mZ l)):(lY (UT l) acc xs).Pairwise (mZ l):=by
 induction xs generalizing acc with
 | nil=>exact h
 | cons x r ih =>
   rw[List.pairwise_cons] at hs;simp only[lY];refine ih _ hs.2 ?_ (RX l x acc (fun y hy=>hx y hy x (List.mem_cons_self ..)) h);intro y hy z hz;rcases(BH _ _ _ _).1 hy with rfl | hy
   · exact hs.1 z hz
   · exact hx y hy z (List.mem_cons_of_mem _ hz)
def mD (l:List Int):List Nat:=(List.range l.length).filter fun k=>decide (128≤l.getD k 0)
def fF (l:List Int):List Nat:=lY (UT l) [] (mD l)
theorem jF (l:List Int):(fF l).Pairwise (mZ l):=by
 unfold fF;refine CO l _ _ ?_ (fun y hy=>by simp at hy) List.Pairwise.nil;unfold mD;exact List.Pairwise.filter _ (List.pairwise_lt_range)
theorem pY (l:List Int)(k:Nat):k∈fF l↔k<l.length∧128≤l.getD k 0:=by
 unfold fF mD;rw[PS];simp
theorem BL (l:List Int):(fF l).length=(l.filter fun c=>decide (128≤c)).length:=by
 unfold fF mD;rw[QX];simp only[List.length_nil,Nat.zero_add];have:l=(List.range l.length).map fun k=>l.getD k 0:=by
  apply List.ext_getElem
  · simp
  · intro i h1 h2;simp[List.getElem?_eq_getElem h1]
 conv=>rhs;rw[this]
 rw[List.filter_map,List.length_map];rfl
def bZ (l:List Int)(c:Nat):Nat:=(l.take c).countP fun x=>decide (x≤l.getD c 0)
theorem pE (l:List Int)(a b:Nat)(hab:a<b)(hb:b<l.length)(h:l.getD a 0=l.getD b 0):bZ l a+1≤bZ l b:=by
 unfold bZ;rw[h];have e:l.take b=l.take a++(l.drop a).take (b-a):=by
  have:=List.take_add (i:=a) (j:=b-a) (l:=l);rw[show a+(b-a)=b from by omega] at this;exact this
 rw[e,List.countP_append];have:1≤((l.drop a).take (b-a)).countP fun x=>decide (x≤l.getD b 0):=by
  have ha:a<l.length:=by omega
  rw[List.drop_eq_getElem_cons ha];obtain⟨m,hm⟩:∃ m,b-a=m+1:=⟨b-a-1,by omega⟩
  rw[hm,List.take_succ_cons,List.countP_cons];have:l[a]=l.getD a 0:=by simp[List.getElem?_eq_getElem ha]
  rw[this,h];simp
 omega
def bK:List (Int×Int)→Int→Int→Int→Int→Bool→List UInt8
 | [],_,_,_,_,_=>[]
 | (m,j)::r,bias,n,i,count,first =>
   iH ((m-n)*(count+1)+j-(i+1)) 0 bias++bK r (after ((m-n)*(count+1)+j-(i+1)) (count+1) first) m j (count+1) false
def bQ (l:List Int)(c:Nat):Int×Int:=(l.getD c 0,(bZ l c:Int))
def aE (l:List Int):List UInt8:=(l.filter fun c=>decide (c<128)).map fun c=>UInt8.ofNat c.toNat
def dT (l:List Int):List UInt8:=aE l++if 0<(aE l).length then [45] else []
def enc (l:List Int):List UInt8:=dT l++bK ((fF l).map (bQ l)) 72 128 (-1) (aE l).length true
theorem eX (l:List Int):(aE l).length+(fF l).length=l.length:=by
 rw[BL];unfold aE;rw[List.length_map]
 induction l with
 | nil=>rfl
 | cons c l ih =>
   simp only[List.filter_cons];by_cases h:c<128
   · rw[if_pos (by simpa using h),if_neg (by simpa using h)];simp only[List.length_cons];omega
   · rw[if_neg (by simpa using h),if_pos (by simp;omega)];simp only[List.length_cons];omega
def flags (l:List Int)(done:List Nat):List Bool:=(List.range l.length).map fun k=>decide (l.getD k 0<128) || decide (k∈done)
theorem eK (l:List Int)(done:List Nat):(flags l done).length=l.length:=by simp[flags]
theorem uI (l:List Int)(done:List Nat)(k:Nat)(h:k<l.length):(flags l done).getD k false=(decide (l.getD k 0<128) || decide (k∈done)):=by
 simp[flags,List.getElem?_range h]
theorem DY (l:List Int)(done todo:List Nat)(ho:fF l=done++todo)(k:Nat)(h:k<l.length)(hf:(flags l done).getD k false=false):k∈todo:=by
 rw[uI l done k h] at hf;simp only[Bool.or_eq_false_iff,decide_eq_false_iff_not] at hf;have:k∈fF l:=(pY l k).2 ⟨h,by omega⟩;rw[ho] at this;rcases List.mem_append.1 this with h1 | h1
 · exact absurd h1 hf.2
 · exact h1
theorem cQ (l:List Int)(done todo:List Nat)(ho:fF l=done++todo)(k:Nat)(h:k∈todo):k<l.length∧128≤l.getD k 0∧(flags l done).getD k false=false:=by
 have hm:k∈fF l:=by rw[ho];exact List.mem_append_right _ h
 have h1:=(pY l k).1 hm;refine⟨h1.1,h1.2,?_⟩;rw[uI l done k h1.1];simp only[Bool.or_eq_false_iff,decide_eq_false_iff_not];refine⟨by omega,fun hd=>?_⟩;have hp:=jF l;rw[ho,List.pairwise_append] at hp;have:=hp.2.2 k hd k h;unfold mZ at this;omega
theorem YH (l:List Int)(done todo:List Nat)(c0 c:Nat)(ho:fF l=done++c0::todo)(hc:c<l.length)(hf:(flags l done).getD c false=false)
 (hmin:∀ j,j<l.length→(flags l done).getD j false=false→l.getD c 0<l.getD j 0∨(l.getD c 0=l.getD j 0∧c≤j)):c=c0:=by
 have h1:=DY l done (c0::todo) ho c hc hf;rcases List.mem_cons.1 h1 with h1 | h1
 · exact h1
 · have h2:=cQ l done (c0::todo) ho c0 (List.mem_cons_self ..);have h3:=hmin c0 h2.1 h2.2.2;have hp:=jF l;rw[ho,List.pairwise_append] at hp;have h4:=(List.pairwise_cons.1 hp.2.1).1 c h1;unfold mZ at h4;omega
theorem nC (l:List Int)(done todo:List Nat)(c0:Nat)(ho:fF l=done++c0::todo):((flags l done).take c0).countP id=bZ l c0:=by
 have h2:=cQ l done (c0::todo) ho c0 (List.mem_cons_self ..);unfold bZ;have key:∀ k,k<c0→(flags l done).getD k false=decide (l.getD k 0≤l.getD c0 0):=by
  intro k hk;rw[uI l done k (by omega),Bool.eq_iff_iff];simp only[Bool.or_eq_true,decide_eq_true_eq];have hp:=jF l;rw[ho,List.pairwise_append] at hp;constructor
  · rintro(h | h)
    · omega
    · have:=hp.2.2 k h c0 (List.mem_cons_self ..);unfold mZ at this;omega
  · intro h;by_cases h1:l.getD k 0<128
    · exact .inl h1
    · right;have hm:k∈fF l:=(pY l k).2 ⟨by omega,by omega⟩;rw[ho] at hm;rcases List.mem_append.1 hm with hm | hm
      · exact hm
      · rcases List.mem_cons.1 hm with hm | hm
        · omega
        · have:=(List.pairwise_cons.1 hp.2.1).1 k hm;unfold mZ at this;omega
 have e:(flags l done).take c0=(l.take c0).map fun x=>decide (x≤l.getD c0 0):=by
  apply List.ext_getElem
  · simp[eK]
  · intro k h1 h3;have hk:k<c0:=by simp[eK] at h1;omega
    have:=key k hk;have hkl:k<(flags l done).length:=by rw[eK];omega
    have hkl2:k<l.length:=by omega
    simp only[List.getElem_take,List.getElem_map];simp only[List.getD_eq_getElem?_getD,List.getElem?_eq_getElem hkl,List.getElem?_eq_getElem hkl2,Option.getD_some] at this ⊢;exact this
 rw[e,List.countP_map];rfl
theorem pJ (l:List Int)(done todo:List Nat)(c0:Nat)(ho:fF l=done++c0::todo):(flags l done).set c0 true=flags l (done++[c0]):=by
 have h2:=cQ l done (c0::todo) ho c0 (List.mem_cons_self ..);apply List.ext_getElem
 · simp[eK]
 · intro k h1 h3;simp only[List.getElem_set,flags,List.getElem_map,List.getElem_range];split
   · rename_i h;subst h;simp
   · rename_i h;simp only[List.mem_append,List.mem_singleton];have:k≠c0:=fun e=>h e.symm;simp[this]
theorem oW (l:List Int):flags l []=l.map fun c=>decide (c<128):=by
 apply List.ext_getElem
 · simp[eK]
 · intro k h1 h2;have:k<l.length:=by simpa using h2
   simp[flags,List.getElem?_eq_getElem this]
theorem uD (l:List Int)(done todo:List Nat)(c0:Nat)(ho:fF l=done++c0::todo):bZ l c0≤(flags l done).countP id:=by
 rw[←nC l done todo c0 ho]
 conv=>rhs;rw[←List.take_append_drop c0 (flags l done)]
 rw[List.countP_append];omega
end Sx
namespace Sx
theorem xH (l:List Int):∀ n,n≤(fF l).length→(flags l ((fF l).take n)).countP id=(aE l).length+n:=by
 intro n
 induction n with
 | zero =>
   intro _;rw[List.take_zero,oW,List.countP_map];unfold aE;rw[List.length_map,List.countP_eq_length_filter];rfl
 | succ n ih =>
   intro h;have h1:n<(fF l).length:=by omega
   have ho:fF l=(fF l).take n++(fF l)[n]::(fF l).drop (n+1):=by
    rw[←List.drop_eq_getElem_cons h1,List.take_append_drop]
   have h2:=cQ l _ _ ho (fF l)[n] (List.mem_cons_self ..);rw[List.take_succ_eq_append_getElem h1,←pJ l _ _ _ ho];have hlt:(fF l)[n]<(flags l ((fF l).take n)).length:=by rw[eK];exact h2.1
   have hfl:(flags l ((fF l).take n))[(fF l)[n]]=false:=by
    have:=h2.2.2
    simpa[List.getElem?_eq_getElem hlt] using this
   have h3:=ih (by omega);rw[List.set_eq_take_append_cons_drop,if_pos hlt,List.countP_append,List.countP_cons]
   conv at h3=>lhs;rw[←List.take_append_drop (fF l)[n] (flags l ((fF l).take n)),List.drop_eq_getElem_cons hlt]
   rw[List.countP_append,List.countP_cons,hfl] at h3;simp only[id,if_true,Bool.false_eq_true,if_false] at h3 ⊢;omega
theorem sK (l:List Int)(done todo:List Nat)(ho:fF l=done++todo):(flags l done).countP id=(aE l).length+done.length:=by
 have:=xH l done.length (by rw[ho];simp);rw[ho,List.take_left] at this;exact this
theorem fB (l:List Int)(done todo:List Nat)(c0:Nat)(ho:fF l=done++c0::todo):bZ l c0≤(aE l).length+done.length:=by
 rw[←sK l done _ ho];exact uD l done todo c0 ho
def MinAt (l:List Int)(fl:List Bool)(k:Nat)(c:Int):Prop :=
 (c = -1∧∀ j,j<k→fl.getD j false=true) ∨
 ∃ cn:Nat,c=cn∧cn<k∧fl.getD cn false=false∧∀ j,j<k→fl.getD j false=false→l.getD cn 0<l.getD j 0∨(l.getD cn 0=l.getD j 0∧cn≤j)
theorem MinAt.zero (l:List Int)(fl:List Bool):MinAt l fl 0 (-1):=.inl ⟨rfl,fun j h=>by omega⟩
theorem MinAt.skip {l:List Int}{fl:List Bool}{k:Nat}{c:Int}(h:MinAt l fl k c)(hf:fl.getD k false=true):MinAt l fl (k+1) c:=by
 rcases h with ⟨rfl,h⟩ | ⟨cn,rfl,h1,h2,h3⟩
 · exact .inl ⟨rfl,fun j hj=>by rcases Nat.lt_or_ge j k with h4 | h4;exact h j h4;rw[show j=k from by omega];exact hf⟩
 · refine .inr ⟨cn,rfl,by omega,h2,fun j hj hj2=>?_⟩;rcases Nat.lt_or_ge j k with h4 | h4
   · exact h3 j h4 hj2
   · rw[show j=k from by omega,hf] at hj2;cases hj2
theorem MinAt.first {l:List Int}{fl:List Bool}{k:Nat}{c:Int}(h:MinAt l fl k c)(hc:c<0)(hf:fl.getD k false=false):MinAt l fl (k+1) k:=by
 rcases h with ⟨rfl,h⟩ | ⟨cn,rfl,h1,h2,h3⟩
 · refine .inr ⟨k,rfl,by omega,hf,fun j hj hj2=>?_⟩;rcases Nat.lt_or_ge j k with h4 | h4
   · rw[h j h4] at hj2;cases hj2
   · rw[show j=k from by omega];exact .inr ⟨rfl,Nat.le_refl _⟩
 · omega
theorem MinAt.less {l:List Int}{fl:List Bool}{k cn:Nat}(h:MinAt l fl k cn)(hf:fl.getD k false=false)(hl:l.getD k 0<l.getD cn 0):MinAt l fl (k+1) k:=by
 rcases h with ⟨h,_⟩ | ⟨cn',h0,h1,h2,h3⟩
 · omega
 · have:cn'=cn:=by omega
   subst this;refine .inr ⟨k,rfl,by omega,hf,fun j hj hj2=>?_⟩;rcases Nat.lt_or_ge j k with h4 | h4
   · have:=h3 j h4 hj2;omega
   · rw[show j=k from by omega];exact .inr ⟨rfl,Nat.le_refl _⟩
theorem MinAt.keep {l:List Int}{fl:List Bool}{k cn:Nat}(h:MinAt l fl k cn)(hl:¬ l.getD k 0<l.getD cn 0):MinAt l fl (k+1) cn:=by
 rcases h with ⟨h,_⟩ | ⟨cn',h0,h1,h2,h3⟩
 · omega
 · have:cn'=cn:=by omega
   subst this;refine .inr ⟨cn',rfl,by omega,h2,fun j hj hj2=>?_⟩;rcases Nat.lt_or_ge j k with h4 | h4
   · exact h3 j h4 hj2
   · rw[show j=k from by omega];omega
theorem MinAt.done {l:List Int}{done todo:List Nat}{c0:Nat}{c:Int}(ho:fF l=done++c0::todo)(h:MinAt l (flags l done) l.length c):c=c0:=by
 have h2:=cQ l done (c0::todo) ho c0 (List.mem_cons_self ..);rcases h with ⟨rfl,h⟩ | ⟨cn,rfl,h1,h3,h4⟩
 · rw[h c0 h2.1] at h2;cases h2.2.2
 · rw[YH l done todo c0 cn ho h1 h3 h4]
theorem MinAt.nat {l:List Int}{fl:List Bool}{k:Nat}{c:Int}(h:MinAt l fl k c)(hc:¬ c<0):∃ cn:Nat,c=cn∧cn<k:=by
 rcases h with ⟨rfl,_⟩ | ⟨cn,rfl,h1,_⟩
 · omega
 · exact⟨cn,rfl,h1⟩
def Later (l:List Int)(todo:List Nat)(n i:Int):Prop:=∀ c∈todo,n<l.getD c 0∨(n=l.getD c 0∧i+1≤(bZ l c:Int))
theorem iE (l:List Int):Later l (fF l) 128 (-1):=fun c hc=>by
 have:=((pY l c).1 hc).2;omega
theorem jJ (l:List Int)(done todo:List Nat)(c0:Nat)(ho:fF l=done++c0::todo):Later l todo (l.getD c0 0) (bZ l c0):=fun c hc=>by
 have hp:=jF l;rw[ho,List.pairwise_append] at hp;have h4:=(List.pairwise_cons.1 hp.2.1).1 c hc;have h2:=cQ l done (c0::todo) ho c (List.mem_cons_of_mem _ hc);rcases h4 with h4 | h4
 · exact .inl h4
 · have:=pE l c0 c h4.2 h2.1 h4.1;exact .inr ⟨h4.1,by omega⟩
theorem kK (m n j i count:Int)(h:n<m∨(n=m∧i+1≤j))(hi:i≤count)(hj:0≤j)(hc:0≤count):0≤(m-n)*(count+1)+j-(i+1):=by
 rcases h with h | ⟨h,h2⟩
 · have:1*(count+1)≤(m-n)*(count+1):=Int.mul_le_mul_of_nonneg_right (by omega) (by omega);omega
 · rw[h];simp;omega
theorem nI (m n j i count:Int)(hm:m≤1114111)(hn:128≤n)(hi : -1≤i)(hj:j≤100)(hc:0≤count)(hc2:count≤100):(m-n)*(count+1)≤1113983*101∧(m-n)*(count+1)+j-(i+1)≤113000000:=by
 by_cases h:0≤m-n
 · have h1:(m-n)*(count+1)≤1113983*(count+1):=Int.mul_le_mul_of_nonneg_right (by omega) (by omega);omega
 · have h1:(m-n)*(count+1)≤0:=by
    have:=Int.mul_le_mul_of_nonneg_right (show m-n≤0 by omega) (show 0≤count+1 by omega)
    simpa using this
   omega
end Sx
namespace Sx
theorem TK:∀ (f:Nat) (d k bias:Int),(iG f d k bias).length≤f+1:=by
 intro f
 induction f with
 | zero=>intro d k bias;simp[iG]
 | succ f ih =>
   intro d k bias;simp only[iG];split
   · have:=ih ((d-cE k bias) / (36-cE k bias)) (k+1) bias;simp only[List.length_cons];omega
   · simp
theorem vU (d k bias:Int)(h:d≤113000000):(iH d k bias).length≤113000001:=by
 have:=TK d.toNat d k bias;unfold iH;omega
theorem IE (l:List Int)(h:l.length≤100):(dT l).length≤101:=by
 have:=eX l;unfold dT;split <;> simp <;> omega
end Sx
/- Plain mathematics of codes: reading them. -/
namespace Sx
def fH (s:List UInt8):Nat→Int
 | 0=>-1
 | k+1=>if s.getD k 0=45 then (k:Int) else fH s k
def dash (s:List UInt8):Int:=fH s s.length
theorem oH (s:List UInt8):∀ k:Nat,-1≤fH s k∧fH s k<k:=by
 intro k
 induction k with
 | zero=>simp[fH]
 | succ k ih=>simp only[fH];split <;> omega
def cS (bias:Int):Int→Int→Nat→List UInt8→Option (Int×List UInt8)
 | _,_,_,[]=>none
 | d,w,k,x::s =>
   if 7<k then none
   else if valOf x<0 then none
   else if valOf x<cE k bias then some (d+valOf x*w,s)
   else cS bias (d+valOf x*w) (w*(36-cE k bias)) (k+1) s
theorem mT (bias:Int):∀ (s:List UInt8) (d w:Int) (k:Nat) (d':Int) (s':List UInt8),cS bias d w k s=some (d',s')→s'.length<s.length:=by
 intro s
 induction s with
 | nil=>intro d w k d' s' h;simp[cS] at h
 | cons x s ih =>
   intro d w k d' s' h;simp only[cS] at h;split at h
   · simp at h
   · split at h
     · simp at h
     · split at h
       · simp only[Option.some.injEq,Prod.mk.injEq] at h;rw[←h.2];simp
       · have:=ih _ _ _ _ _ h;simp;omega
def dY (l:List Int)(i n:Int):List Int:=l.take i.toNat++(n::l.drop i.toNat)
theorem bV (l:List Int)(i n:Int):(dY l i n).length=l.length+1:=by
 unfold dY;simp only[List.length_append,List.length_take,List.length_cons,List.length_drop];omega
def rR:Nat→List Int→Int→Int→Int→Bool→List UInt8→Option (List Int)
 | _,l,_,_,_,_,[]=>some l
 | 0,_,_,_,_,_,_::_=>none
 | f+1,l,bias,n,i,first,x::s =>
   match cS bias 0 1 0 (x::s) with
   | none=>none
   | some (d,s') =>
     if 1114111<n+(i+d) / ((l.length:Int)+1)∨(55296≤n+(i+d) / ((l.length:Int)+1)∧n+(i+d) / ((l.length:Int)+1)≤57343) then none
     else rR f (dY l ((i+d) % ((l.length:Int)+1)) (n+(i+d) / ((l.length:Int)+1))) (after d ((l.length:Int)+1) first) (n+(i+d) / ((l.length:Int)+1)) ((i+d) % ((l.length:Int)+1)+1) false s'
def kQ (l:List Int)(bias n i:Int)(first:Bool)(s:List UInt8):Option (List Int):=rR s.length l bias n i first s
theorem OU:∀ (f g:Nat) (l:List Int) (bias n i:Int) (first:Bool) (s:List UInt8),s.length≤f→s.length≤g→rR f l bias n i first s=rR g l bias n i first s:=by
 intro f
 induction f with
 | zero =>
   intro g l bias n i first s hf hg
   cases s with
   | nil=>cases g <;> rfl
   | cons x s=>simp at hf
 | succ f ih =>
   intro g l bias n i first s hf hg
   cases s with
   | nil=>cases g <;> rfl
   | cons x s =>
     cases g with
     | zero=>simp at hg
     | succ g =>
       simp only[rR];cases h:cS bias 0 1 0 (x::s) with
       | none=>rfl
       | some p =>
         obtain⟨d,s'⟩:=p;have:=mT _ _ _ _ _ _ _ h;simp only[List.length_cons] at hf hg this;simp only;split
         · rfl
         · exact ih g _ _ _ _ _ _ (by omega) (by omega)
theorem FW (l:List Int)(bias n i:Int)(first:Bool):kQ l bias n i first []=some l:=rfl
theorem MR (l:List Int)(bias n i:Int)(first:Bool)(s:List UInt8)(hs:s≠[])(h:cS bias 0 1 0 s=none):kQ l bias n i first s=none:=by
 cases s with
 | nil=>exact absurd rfl hs
 | cons x s=>simp only[kQ,List.length_cons,rR,h]
theorem qV (l:List Int)(bias n i:Int)(first:Bool)(s:List UInt8)(d:Int)(s':List UInt8)(h:cS bias 0 1 0 s=some (d,s'))
 (hb:1114111<n+(i+d) / ((l.length:Int)+1)∨(55296≤n+(i+d) / ((l.length:Int)+1)∧n+(i+d) / ((l.length:Int)+1)≤57343)):kQ l bias n i first s=none:=by
 cases s with
 | nil=>simp[cS] at h
 | cons x s=>simp only[kQ,List.length_cons,rR,h];rw[if_pos hb]
theorem nM (l:List Int)(bias n i:Int)(first:Bool)(s:List UInt8)(d:Int)(s':List UInt8)(h:cS bias 0 1 0 s=some (d,s'))
 (hb:¬ (1114111<n+(i+d) / ((l.length:Int)+1)∨(55296≤n+(i+d) / ((l.length:Int)+1)∧n+(i+d) / ((l.length:Int)+1)≤57343))) :
 kQ l bias n i first s=kQ (dY l ((i+d) % ((l.length:Int)+1)) (n+(i+d) / ((l.length:Int)+1))) (after d ((l.length:Int)+1) first) (n+(i+d) / ((l.length:Int)+1)) ((i+d) % ((l.length:Int)+1)+1) false s':=by
 cases s with
 | nil=>simp[cS] at h
 | cons x s =>
   have hl:=mT _ _ _ _ _ _ _ h;simp only[List.length_cons] at hl;simp only[kQ,List.length_cons,rR,h];rw[if_neg hb,OU s.length s'.length _ _ _ _ _ _ (by omega) (Nat.le_refl _)]
def dec (s:List UInt8):Option (List Int) :=
 if (s.length:Int)≤dash s+1 then none
 else kQ ((s.take (dash s).toNat).map fun c=>(c.toNat:Int)) 72 128 0 true (s.drop (dash s+1).toNat)
theorem II (bias d w:Int)(k:Nat)(s:List UInt8)(p:Nat)(h:s.length≤p):cS bias d w k (s.drop p)=none:=by
 rw[List.drop_eq_nil_of_le h];rfl
theorem yE (bias d w:Int)(k:Nat)(s:List UInt8)(p:Nat)(h:p<s.length)(hk:7<k):cS bias d w k (s.drop p)=none:=by
 rw[bP s p h];simp only[cS];rw[if_pos hk]
theorem CS (bias d w:Int)(k:Nat)(s:List UInt8)(p:Nat)(h:p<s.length)(hv:valOf s[p]<0):cS bias d w k (s.drop p)=none:=by
 rw[bP s p h];simp only[cS];rw[if_pos hv];split <;> rfl
theorem yN (bias d w:Int)(k:Nat)(s:List UInt8)(p:Nat)(h:p<s.length)(hk:¬ 7<k)(hv:¬ valOf s[p]<0)(ht:valOf s[p]<cE k bias):cS bias d w k (s.drop p)=some (d+valOf s[p]*w,s.drop (p+1)):=by
 rw[bP s p h];simp only[cS];rw[if_neg hk,if_neg hv,if_pos ht]
theorem yW (bias d w:Int)(k:Nat)(s:List UInt8)(p:Nat)(h:p<s.length)(hk:¬ 7<k)(hv:¬ valOf s[p]<0)(ht:¬ valOf s[p]<cE k bias):cS bias d w k (s.drop p)=cS bias (d+valOf s[p]*w) (w*(36-cE k bias)) (k+1) (s.drop (p+1)):=by
 rw[bP s p h];conv=>lhs;simp only[cS]
 rw[if_neg hk,if_neg hv,if_neg ht]
def Wt (d w:Int)(k:Nat):Prop:=0≤d∧d<36 ^ k∧1≤w∧w≤36 ^ k
theorem Wt.zero:Wt 0 1 0:=by unfold Wt;simp
theorem Wt.put {d w:Int}{k:Nat}(h:Wt d w k)(v:Int)(h0:0≤v)(h1:v<36):0≤v*w∧d+v*w<36 ^ (k+1):=by
 obtain⟨a,b,c,e⟩:=h;have h2:v*w≤35*w:=Int.mul_le_mul_of_nonneg_right (by omega) (by omega);have h3:0≤v*w:=Int.mul_nonneg h0 (by omega);rw[Int.pow_succ];refine⟨h3,?_⟩;generalize (36:Int) ^ k=p at *;omega
theorem Wt.step {d w:Int}{k:Nat}(h:Wt d w k)(v t:Int)(h0:0≤v)(h1:v<36)(ht:1≤t)(ht2:t≤26):Wt (d+v*w) (w*(36-t)) (k+1):=by
 have hp:=h.put v h0 h1;obtain⟨a,b,c,e⟩:=h;refine⟨by omega,hp.2,?_,?_⟩
 · have:w*1≤w*(36-t):=Int.mul_le_mul_of_nonneg_left (by omega) (by omega);omega
 · have h2:w*(36-t)≤w*36:=Int.mul_le_mul_of_nonneg_left (by omega) (by omega);rw[Int.pow_succ];generalize (36:Int) ^ k=p at *;omega
theorem J8 (k:Nat)(hk:k≤8):(36:Int) ^ k≤2821109907456:=by
 have:k=0∨k=1∨k=2∨k=3∨k=4∨k=5∨k=6∨k=7∨k=8:=by omega
 rcases this with rfl | rfl | rfl | rfl | rfl | rfl | rfl | rfl | rfl <;> decide
theorem Wt.bd {d w:Int}{k:Nat}(h:Wt d w k)(hk:k≤8):0≤d∧d≤2821109907455∧1≤w∧w≤2821109907456:=by
 obtain⟨a,b,c,e⟩:=h;have:=J8 k hk;omega
theorem X0 (k:Nat)(hk:k≤7):(36:Int) ^ (k+1)≤2821109907456:=J8 (k+1) (by omega)
theorem LZ (a b:Int)(hb:0<b)(hb2:b≤101)(h:a / b≤1114111):a≤112525312:=by
 have h1:a<(a / b+1)*b:=Int.lt_ediv_add_one_mul_self a hb;have h2:(a / b+1)*b≤1114112*b:=Int.mul_le_mul_of_nonneg_right (by omega) (by omega);omega
theorem RL (s:List UInt8)(k:Nat)(h:k<s.length):fH s (k+1)=if s[k]=45 then (k:Int) else fH s k:=by
 have:s.getD k 0=s[k]:=by simp[List.getElem?_eq_getElem h]
 simp only[fH,this]
end Sx
/- Plain mathematics of hosts: labels,hosts,their plain forms,by the document's answer. -/
namespace Sx
def lower (c:Int):Int:=if 65≤c∧c≤90 then c+32 else c
def tN (c:Int):Bool:=decide (128≤c) || decide (97≤c∧c≤122) || decide (48≤c∧c≤57) || decide (c=45)
def xn:List UInt8:=[120,110,45,45]
def codeOk (s:List UInt8):Bool:=match dec s with
 | none=>false
 | some l=>enc l == s
def dM (s:List UInt8):Bool:=decide (1≤s.length) && decide (s.length≤20) && !(s.getD 0 0 == 45) && !(s.getD (s.length-1) 0 == 45)
def aJ (m:List Int):List UInt8:=if m.any (fun c=>decide (128≤c)) then xn++enc m else text m
def cI (l:List Int):Option (List UInt8) :=
 if (l.map lower).all tN then
  if dM (aJ (l.map lower)) then
   if (!(l.map lower).any (fun c=>decide (128≤c))) && decide (4≤(aJ (l.map lower)).length) && ((aJ (l.map lower)).take 4 == xn) then
    if codeOk ((aJ (l.map lower)).drop 4) then some (aJ (l.map lower)) else none
   else some (aJ (l.map lower))
  else none
 else none
def BO (l:List Int):Bool:=(l.map lower).any fun c=>decide (128≤c)
def Y6 (l:List Int):Bool:=(l.map lower).all tN
theorem VN (c:Int)(h:0≤c)(h2:c≤1114111):0≤lower c∧lower c≤1114111:=by unfold lower;split <;> omega
theorem gK:cI []=none:=by
 unfold cI;simp[aJ,text,dM]
end Sx
/- Plain mathematics of hosts: hosts,their plain and shown forms,by the document's answer. -/
namespace Sx
def bD:List Int→List Int→Option (List (List UInt8))
 | [],cur=>match cI cur with
   | none=>none
   | some x=>some [x]
 | c::r,cur=>if c=46 then (match cI cur with
    | none=>none
    | some x=>(bD r []).map (x :: ·)) else bD r (cur++[c])
def aM (h:List (List UInt8)):Nat:=(h.map fun x=>x.length+1).sum
def lD (s:List UInt8):Bool:=s.all fun c=>decide (48≤c.toNat) && decide (c.toNat≤57)
def iD (h:List (List UInt8)):List (List UInt8)×Int :=
 if lD (h.getD (h.length-1) []) || decide (6<h.length) || decide (61<aM h) then ([],2) else (h,0)
def aI (s:List UInt8):List (List UInt8)×Int :=
 if 60<s.length then ([],1)
 else match aF s with
  | none=>([],2)
  | some l=>match bD l [] with
    | none=>([],2)
    | some h=>iD h
def aA:List (List UInt8)→List UInt8
 | []=>[]
 | x::r=>x++r.flatMap fun y=>46::y
def bW (x:List UInt8):List UInt8:=if decide (4<x.length) && (x.take 4 == xn) then text ((dec (x.drop 4)).getD []) else x
def dU (s:List UInt8):List UInt8×Int:=(aA (aI s).1,(aI s).2)
def iN (s:List UInt8):List UInt8×Int:=(aA ((aI s).1.map bW),(aI s).2)
theorem mX (h:List (List UInt8))(x:List UInt8):aA (h++[x])=if h=[] then x else aA h++46::x:=by
 cases h with
 | nil=>simp[aA]
 | cons y r=>simp[aA,List.flatMap_append]
theorem jY (h:List (List UInt8))(x:List UInt8):aM (h++[x])=aM h+(x.length+1):=by simp[aM]
def cK (l:List Int)(f k:Nat):List Int:=(l.take k).drop f
theorem sV (l:List Int)(f k:Nat)(h1:f≤k)(h2:k≤l.length):(cK l f k).length=k-f:=by simp[cK];omega
theorem sR (l:List Int)(f k j:Nat)(h2:k≤l.length)(hj:j<(cK l f k).length):(cK l f k)[j]=l[f+j]'(by simp[cK] at hj;omega):=by
 simp[cK]
theorem lT (l:List Int)(k:Nat):cK l k k=[]:=by simp[cK]
theorem BJ (l:List Int)(f k:Nat)(h1:f≤k)(h2:k<l.length):cK l f (k+1)=cK l f k++[l[k]]:=by
 unfold cK;rw[List.take_succ_eq_append_getElem h2,List.drop_append_of_le_length (by simp;omega)]
def HostAt (l:List Int)(k f:Nat)(pre:List (List UInt8)):Prop :=
 (k≤l.length∧f≤k∧(bD (l.drop k) (cK l f k)).map (pre ++ ·)=bD l [])∨(k=l.length+1∧bD l []=some pre)
theorem HostAt.zero (l:List Int):HostAt l 0 0 []:=.inl ⟨Nat.zero_le _,Nat.le_refl _,by simp[cK]⟩
theorem HostAt.skip {l:List Int}{k f:Nat}{pre:List (List UInt8)}(h:HostAt l k f pre)(hk:k<l.length)(hc:l[k]≠46):HostAt l (k+1) f pre:=by
 rcases h with ⟨h1,h2,h3⟩ | ⟨h1,_⟩
 · refine .inl ⟨by omega,by omega,?_⟩;rw[←h3,List.drop_eq_getElem_cons hk,BJ l f k h2 hk];simp only[bD];rw[if_neg hc]
 · omega
theorem HostAt.bad {l:List Int}{k f:Nat}{pre:List (List UInt8)}(h:HostAt l k f pre)(hk:k≤l.length)(hc:∀ h:k<l.length,l[k]=46)(hl:cI (cK l f k)=none):bD l []=none:=by
 rcases h with ⟨h1,h2,h3⟩ | ⟨h1,_⟩
 · rw[←h3];by_cases hlt:k<l.length
   · rw[List.drop_eq_getElem_cons hlt];simp only[bD];rw[if_pos (hc hlt),hl];rfl
   · rw[List.drop_eq_nil_of_le (by omega)];simp only[bD,hl];rfl
 · omega
theorem HostAt.more {l:List Int}{k f:Nat}{pre:List (List UInt8)}{x:List UInt8}(h:HostAt l k f pre)(hk:k≤l.length)(hc:∀ h:k<l.length,l[k]=46)(hl:cI (cK l f k)=some x):HostAt l (k+1) (k+1) (pre++[x]):=by
 rcases h with ⟨h1,h2,h3⟩ | ⟨h1,_⟩
 · by_cases hlt:k<l.length
   · refine .inl ⟨by omega,Nat.le_refl _,?_⟩;rw[←h3,List.drop_eq_getElem_cons hlt,lT]
     conv=>rhs;simp only[bD]
     rw[if_pos (hc hlt),hl];simp only[Option.map_map];congr 1;funext y;simp
   · refine .inr ⟨by omega,?_⟩;rw[←h3,List.drop_eq_nil_of_le (by omega)];simp only[bD,hl,Option.map_some]
 · omega
theorem HostAt.done {l:List Int}{k f:Nat}{pre:List (List UInt8)}(h:HostAt l k f pre)(hk:l.length<k):bD l []=some pre∧k=l.length+1:=by
 rcases h with ⟨h1,_,_⟩ | ⟨h1,h2⟩
 · omega
 · exact⟨h2,h1⟩
end Sx
