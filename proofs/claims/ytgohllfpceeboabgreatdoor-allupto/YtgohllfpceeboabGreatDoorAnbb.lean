import Derived.Test.YtgohllfpceeboabGreatDoorAnad
import Derived.Test.YtgohllfpceeboabGreatDoorAnae
import Derived.Deep.Onto
namespace Go.Proofs.YtgohllfpceeboabGreatDoor
theorem Tryz.info286 : (Tryz.prog.info? 286).map (fun i => (i.zero, i.size, i.bytes)) = some (some (.agg #[.string ⟨#[]⟩, .slice none 0 0, .slice none 0 0]), 3, 64) := by kernel_rfl
open Go.RowKit
abbrev oC:=Value×Value×(List Sx.Wd×List Sx.aT)
def SZ (q:List oC):List Value:=q.flatMap fun x=>[Value.string ⟨(Sx.pD x.2.2.1).toArray⟩,x.1,x.2.1]
def BC (es:List Sx.aT):List UInt8:=es.map (·.1)
def BW (es:List Sx.aT):List Int:=es.map fun e=>(e.2:Int)
structure StsAt (w:World) (B:Nat) (v:Value) (q:List oC):Prop where
 row:w.ownsRow B 286 3 v q.length (SZ q)
 bys:∀ x∈q,w.ownsRow B 5 1 x.1 x.2.2.2.length (dO (BC x.2.2.2))
 tos:∀ x∈q,w.ownsRow B 3 1 x.2.1 x.2.2.2.length (dW (BW x.2.2.2))
theorem bI {w:World}{B B' n n' z z':Nat}{e e':TypeId}{v v':Value}{xs xs':List Value}(h:w.ownsRow B e z v n xs)(h':w.ownsRow B' e' z' v' n' xs')(hne:e≠e'):v.ownBlock=none∨v.ownBlock≠v'.ownBlock:=by
 rcases h.2 with ⟨rfl,_⟩ | ⟨g,cap,cur,rfl,_,hg,_⟩
 · left;rfl
 · right;rcases h'.2 with ⟨rfl,_⟩ | ⟨g',cap',cur',rfl,_,hg',_⟩
   · simp[Value.ownBlock]
   · intro e;simp only[Value.ownBlock,Option.some.injEq] at e;subst e;rw[hg] at hg';simp only[Option.some.injEq,Obj.cells.injEq] at hg';exact hne hg'.2.1
theorem NF:∀ (q:List oC) (j:Nat) (h:j<q.length),(SZ q)[j*3]? = some (.string ⟨(Sx.pD q[j].2.2.1).toArray⟩)∧(SZ q)[j*3+1]? = some q[j].1∧(SZ q)[j*3+2]? = some q[j].2.1:=by
 intro q
 induction q with
 | nil=>intro j h;exact absurd h (Nat.not_lt_zero _)
 | cons x r ih =>
   intro j h;have e:SZ (x::r)=Value.string ⟨(Sx.pD x.2.2.1).toArray⟩::x.1::x.2.1::SZ r:=rfl;cases j with
   | zero=>rw[e];exact⟨rfl,rfl,rfl⟩
   | succ j =>
     have:=ih j (by simpa using h);rw[e,show(j+1)*3=j*3+1+1+1 from by omega]
     simpa using this
theorem y9 (a b:List oC):SZ (a++b)=SZ a++SZ b:=by simp[SZ]
theorem StsAt.id {w:World}{B g cap:Nat}{q:List oC}(h:StsAt w B (.slice (some ⟨g,0,none⟩) q.length cap) q)(j:Nat)(hj:j<q.length):w.cell? ⟨g,j*3,none⟩=some (.string ⟨(Sx.pD q[j].2.2.1).toArray⟩):=by
 have:=h.row.cells (g:=g) rfl _ _ (NF q j hj).1;rw[Addr.add_lit,Nat.zero_add] at this;exact this
def KC (H:Nat)(x:oC):Prop:=(∀ g,x.1.ownBlock=some g→H≤g)∧∀ g,x.2.1.ownBlock=some g→H≤g
def OH (n:Nat)(l:List Sx.Wd)(q:List oC)(B:Nat)(av:Value)(w:World)(e:Ending)(w':World):Prop :=
 ∃ (v':Value) (q':List oC),e=.returned (.tuple #[v',.int .i64 ((Sx.fU n (q.map (·.2.2)) l).2:Nat)])∧q'.map (·.2.2)=(Sx.fU n (q.map (·.2.2)) l).1∧StsAt w' B v' q'∧w.grownBy w' av.ownBlock∧(v'.ownBlock=av.ownBlock∨∀ g,v'.ownBlock=some g→w.heap.size≤g)∧(∀ x∈q',Sx.vL x.2.2.1)∧∀ x∈q',x∈q∨KC w.heap.size x
theorem StsAt.alloc {w:World}{B:Nat}{v:Value}{q:List oC}(h:StsAt w B v q)(o:Obj):StsAt (w.alloc o) B v q:=⟨h.row.alloc o,fun x hx=>(h.bys x hx).alloc o,fun x hx=>(h.tos x hx).alloc o⟩
theorem StsAt.below {w w':World}{B:Nat}{v:Value}{q:List oC}(h:StsAt w B v q)(hb:Below w.heap.size w w'):StsAt w' B v q:=⟨aD h.row hb,fun x hx=>aD (h.bys x hx) hb,fun x hx=>aD (h.tos x hx) hb⟩
theorem eB {w w1 w2:World}{r r2:Option Nat}(h1:w.grownBy w1 r)(h2:w1.grownBy w2 r2)(hr:r2=r∨∀ g,r2=some g→w.heap.size≤g):w.grownBy w2 r:=by
 refine⟨h2.os.trans h1.os,h2.tape.trans h1.tape,h2.output.trans h1.output,Nat.le_trans h1.size h2.size,fun k hk hne=>?_⟩;refine(h2.block k (Nat.lt_of_lt_of_le hk h1.size) (fun e=>?_)).trans (h1.block k hk hne);rcases hr with hr | hr
 · rw[hr] at e;exact hne e
 · have:=hr k e.symm;omega
theorem grown_setCell (w:World)(b o:Nat)(v:Value):w.grownBy (w.setCell ⟨b,o,none⟩ v) (some b) :=
 ⟨rfl,rfl,rfl,by rw[World.size_setCell];exact Nat.le_refl _,fun j hj hne=>heap_setCell_other _ _ _ _ (fun e=>hne (by rw[e]))⟩
theorem K4 {r s:Option Nat}{H:Nat}(h:∀ g,r=some g→H≤g)(h2:∀ g,s=some g→g<H):r=none∨r≠s:=by
 cases r with
 | none=>exact .inl rfl
 | some g =>
   right;intro e;have:=h g rfl;have:=h2 g e.symm;omega
structure NumMem (q:List oC) (B:Nat) (av:Value) (w:World) (u:List UInt8) (a:Value) (wr:World) (q2:List oC) (bs:List UInt8) (ns:List Int) (bv tv:Value):Prop where
 sts:StsAt wr B a q2
 c0:wr.cell? ⟨w.heap.size,0,none⟩=some (.string ⟨u.toArray⟩)
 c1:wr.cell? ⟨w.heap.size,1,none⟩=some bv
 c2:wr.cell? ⟨w.heap.size,2,none⟩=some tv
 fz:∀ j,wr.frozen? ⟨w.heap.size,j,none⟩=false
 bys:wr.ownsRow B 5 1 bv bs.length (dO bs)
 tos:wr.ownsRow B 3 1 tv ns.length (dW ns)
 bAt:∀ g,bv.ownBlock=some g→w.heap.size<g
 tAt:∀ g,tv.ownBlock=some g→w.heap.size<g
 grown:w.grownBy wr av.ownBlock
 aAt:a.ownBlock=av.ownBlock∨∀ g,a.ownBlock=some g→w.heap.size<g
 avAt:∀ g,av.ownBlock=some g→g<w.heap.size
 lt:w.heap.size<wr.heap.size
 apB:∀ x∈q2,x.1.ownBlock=none∨x.1.ownBlock≠bv.ownBlock
 apT:∀ x∈q2,x.2.1.ownBlock=none∨x.2.1.ownBlock≠tv.ownBlock
 fresh:∀ x∈q2,x∈q∨KC w.heap.size x
 sb:∃ cs,wr.heap[w.heap.size]? = some (.cells cs 286 (0,0))
theorem NumMem.a_ne {q:List oC}{B:Nat}{av:Value}{w:World}{u:List UInt8}{a:Value}{wr:World}{q2:List oC}{bs:List UInt8}{ns:List Int}{bv tv:Value}(h:NumMem q B av w u a wr q2 bs ns bv tv):a.ownBlock≠some w.heap.size:=by
 intro e;rcases h.aAt with h1 | h1
 · rw[h1] at e;have:=h.avAt _ e;omega
 · have:=h1 _ e;omega
theorem NumMem.below {q:List oC}{B:Nat}{av:Value}{w:World}{u:List UInt8}{a:Value}{wr wr':World}{q2:List oC}{bs:List UInt8}{ns:List Int}{bv tv:Value}(h:NumMem q B av w u a wr q2 bs ns bv tv)(hb:Below wr.heap.size wr wr'):NumMem q B av w u a wr' q2 bs ns bv tv :=
 ⟨h.sts.below hb,(hb.cell (p:=⟨w.heap.size,0,none⟩) h.lt).trans h.c0,(hb.cell (p:=⟨w.heap.size,1,none⟩) h.lt).trans h.c1,(hb.cell (p:=⟨w.heap.size,2,none⟩) h.lt).trans h.c2,fun j=>(hb.frozen (p:=⟨w.heap.size,j,none⟩) h.lt).trans (h.fz j),aD h.bys hb,aD h.tos hb,h.bAt,h.tAt,
   eB h.grown (r2:=none) ⟨hb.os,hb.tape,hb.output,hb.size,fun k hk _=>hb.block k hk⟩ (.inr (by simp)),h.aAt,h.avAt,Nat.lt_of_lt_of_le h.lt hb.size,h.apB,h.apT,h.fresh,by rw[hb.block _ h.lt];exact h.sb⟩
theorem NumMem.deeper {q:List oC}{B:Nat}{av:Value}{w:World}{u:List UInt8}{a a':Value}{wr wr':World}{q2 q3:List oC}{bs:List UInt8}{ns:List Int}{bv tv:Value}(h:NumMem q B av w u a wr q2 bs ns bv tv)(hs:StsAt wr' B a' q3)(hg:wr.grownBy wr' a.ownBlock)(hat:a'.ownBlock=a.ownBlock∨∀ g,a'.ownBlock=some g→wr.heap.size≤g)(hfr:∀ x∈q3,x∈q2∨KC wr.heap.size x):NumMem q B av w u a' wr' q3 bs ns bv tv:=by
 have hne:some w.heap.size≠a.ownBlock:=fun e=>h.a_ne e.symm;refine⟨hs,(hg.cell_far ⟨w.heap.size,0,none⟩ h.lt hne).trans h.c0,(hg.cell_far ⟨w.heap.size,1,none⟩ h.lt hne).trans h.c1,(hg.cell_far ⟨w.heap.size,2,none⟩ h.lt hne).trans h.c2,fun j=>(hg.frozen_far ⟨w.heap.size,j,none⟩ h.lt hne).trans (h.fz j),
  h.bys.kept hg (bI h.bys h.sts.row (by decide)),h.tos.kept hg (bI h.tos h.sts.row (by decide)),h.bAt,h.tAt,eB h.grown hg ?_,?_,h.avAt,Nat.lt_of_lt_of_le h.lt hg.size,fun x hx=>?_,fun x hx=>?_,fun x hx=>?_,by rw[hg.block _ h.lt hne];exact h.sb⟩
 · rcases h.aAt with e | e
   · exact .inl e
   · exact .inr fun g hg'=>Nat.le_of_lt (e g hg')
 · rcases hat with e | e
   · rw[e];exact h.aAt
   · exact .inr fun g hg'=>Nat.lt_of_lt_of_le h.lt (e g hg')
 · rcases hfr x hx with e | e
   · exact h.apB x e
   · exact K4 e.1 fun g e3=>(h.bys.lt g e3).2
 · rcases hfr x hx with e | e
   · exact h.apT x e
   · exact K4 e.2 fun g e3=>(h.tos.lt g e3).2
 · rcases hfr x hx with e | e
   · exact h.fresh x e
   · exact .inr ⟨fun g hg'=>Nat.le_trans (Nat.le_of_lt h.lt) (e.1 g hg'),fun g hg'=>Nat.le_trans (Nat.le_of_lt h.lt) (e.2 g hg')⟩
theorem oO {w:World}{k:Nat}{cs:Array Value}{t:TypeId}(h:w.heap[k]? = some (.cells cs t (0,0)))(o:Nat)(v:Value):∃ cs',(w.setCell ⟨k,o,none⟩ v).heap[k]? = some (.cells cs' t (0,0)) :=
 ⟨_,heap_setCell_same w k o cs t v h⟩
theorem NumMem.pushB {q:List oC}{B:Nat}{av:Value}{w:World}{u:List UInt8}{a:Value}{wr w7:World}{q2:List oC}{bs:List UInt8}{ns:List Int}{bv tv:Value}(h:NumMem q B av w u a wr q2 bs ns bv tv){o:Obj}{g cap m:Nat}{x:UInt8}(hown:w7.ownsRow B 5 1 (.slice (some ⟨g,0,none⟩) m cap) m (dO bs++[.int .u8 x.toNat]))(hg:(wr.alloc o).grownBy w7 bv.ownBlock)(hat:bv.ownBlock=some g∨g=wr.heap.size+1)(hm:m=bs.length+1):NumMem q B av w u a (w7.setCell ⟨w.heap.size,1,none⟩ (.slice (some ⟨g,0,none⟩) m cap)) q2 (bs++[x]) ns (.slice (some ⟨g,0,none⟩) m cap) tv:=by
 have hg2:wr.grownBy w7 bv.ownBlock:=(World.grownBy_alloc wr o _).trans hg;have hne:some w.heap.size≠bv.ownBlock:=fun e=>by have:=h.bAt _ e.symm;omega
 have hgg:w.heap.size<g:=by
  rcases hat with e | e
  · exact h.bAt _ e
  · have:=h.lt;omega
 have hset:=grown_setCell w7 w.heap.size 1 (.slice (some ⟨g,0,none⟩) m cap);have hrow:=(h.sts.row.kept hg2 (bI h.sts.row h.bys (by decide))).kept hset (.inr h.a_ne);have hcv:w7.cell? ⟨w.heap.size,1,none⟩=some bv:=(hg2.cell_far ⟨w.heap.size,1,none⟩ h.lt hne).trans h.c1;have hlow:∀ (y:Value) (e:TypeId) (n:Nat) (xs:List Value),w7.ownsRow B e 1 y n xs→(y.ownBlock≠some w.heap.size)→(w7.setCell ⟨w.heap.size,1,none⟩ (.slice (some ⟨g,0,none⟩) m cap)).ownsRow B e 1 y n xs:=fun y e n xs hy hyn=>hy.kept hset (.inr hyn);have hsE:∀ (y:Value) (e:TypeId) (n:Nat) (xs:List Value),wr.ownsRow B e 1 y n xs→e≠286→y.ownBlock≠some w.heap.size:=by
  intro y e n xs hy hne2 hyb;rcases hy.2 with ⟨rfl,_⟩ | ⟨gy,capy,cur,rfl,_,hgy,_⟩
  · simp[Value.ownBlock] at hyb
  · simp only[Value.ownBlock,Option.some.injEq] at hyb;subst hyb;have:=h.sb;rw[hgy] at this;obtain⟨cs,hh⟩:=this;simp only[Option.some.injEq,Obj.cells.injEq] at hh;exact hne2 hh.2.1
 refine⟨⟨hrow,fun x hx=>?_,fun x hx=>?_⟩,(World.cell?_setCell_other _ _ _ _ (by simp)).trans ((hg2.cell_far ⟨w.heap.size,0,none⟩ h.lt hne).trans h.c0),World.cell?_setCell_same _ _ _ hcv,(World.cell?_setCell_other _ _ _ _ (by simp)).trans ((hg2.cell_far ⟨w.heap.size,2,none⟩ h.lt hne).trans h.c2),fun j=>by rw[World.frozen?_setCell];exact(hg2.frozen_far ⟨w.heap.size,j,none⟩ h.lt hne).trans (h.fz j),?_,?_,?_,?_,?_,h.aAt,h.avAt,?_,?_,?_,h.fresh,?_⟩
 · exact hlow _ _ _ _ ((h.sts.bys x hx).kept hg2 (h.apB x hx)) (hsE _ _ _ _ (h.sts.bys x hx) (by decide))
 · exact hlow _ _ _ _ ((h.sts.tos x hx).kept hg2 (bI (h.sts.tos x hx) h.bys (by decide))) (hsE _ _ _ _ (h.sts.tos x hx) (by decide))
 · have:w7.ownsRow B 5 1 (.slice (some ⟨g,0,none⟩) m cap) (bs++[x]).length (dO (bs++[x])):=by
    rw[List.length_append,List.length_singleton,←hm,eQ];exact hown
   refine this.kept hset (.inr ?_);simp only[Value.ownBlock,ne_eq,Option.some.injEq];omega
 · exact hlow _ _ _ _ (h.tos.kept hg2 (bI h.tos h.bys (by decide))) (hsE _ _ _ _ h.tos (by decide))
 · intro g' e;simp only[Value.ownBlock,Option.some.injEq] at e;omega
 · exact h.tAt
 · exact eB (eB h.grown hg2 (.inr fun g' e=>Nat.le_of_lt (h.bAt g' e))) hset (.inr fun g' e=>by simp only[Option.some.injEq] at e;omega)
 · rw[World.size_setCell];exact Nat.lt_of_lt_of_le h.lt hg2.size
 · intro x hx;rcases hat with e | e
   · have:=h.apB x hx;rw[e] at this;exact this
   · refine .inr fun e2=>?_;simp only[Value.ownBlock] at e2;have:=((h.sts.bys x hx).lt g e2).2;omega
 · exact h.apT
 · obtain⟨cs,hh⟩:=h.sb;have h1:w7.heap[w.heap.size]? = some (.cells cs 286 (0,0)):=(hg2.block _ h.lt hne).trans hh;exact oO h1 _ _
theorem NumMem.pushN {q:List oC}{B:Nat}{av:Value}{w:World}{u:List UInt8}{a:Value}{wr w7:World}{q2:List oC}{bs:List UInt8}{ns:List Int}{bv tv:Value}(h:NumMem q B av w u a wr q2 bs ns bv tv){o:Obj}{g cap m:Nat}{x:Int}(hown:w7.ownsRow B 3 1 (.slice (some ⟨g,0,none⟩) m cap) m (dW ns++[.int .i64 x]))(hg:(wr.alloc o).grownBy w7 tv.ownBlock)(hat:tv.ownBlock=some g∨g=wr.heap.size+1)(hm:m=ns.length+1):NumMem q B av w u a (w7.setCell ⟨w.heap.size,2,none⟩ (.slice (some ⟨g,0,none⟩) m cap)) q2 bs (ns++[x]) bv (.slice (some ⟨g,0,none⟩) m cap):=by
 have hg2:wr.grownBy w7 tv.ownBlock:=(World.grownBy_alloc wr o _).trans hg;have hne:some w.heap.size≠tv.ownBlock:=fun e=>by have:=h.tAt _ e.symm;omega
 have hgg:w.heap.size<g:=by
  rcases hat with e | e
  · exact h.tAt _ e
  · have:=h.lt;omega
 have hset:=grown_setCell w7 w.heap.size 2 (.slice (some ⟨g,0,none⟩) m cap);have hrow:=(h.sts.row.kept hg2 (bI h.sts.row h.tos (by decide))).kept hset (.inr h.a_ne);have hcv:w7.cell? ⟨w.heap.size,2,none⟩=some tv:=(hg2.cell_far ⟨w.heap.size,2,none⟩ h.lt hne).trans h.c2;have hlow:∀ (y:Value) (e:TypeId) (n:Nat) (xs:List Value),w7.ownsRow B e 1 y n xs→(y.ownBlock≠some w.heap.size)→(w7.setCell ⟨w.heap.size,2,none⟩ (.slice (some ⟨g,0,none⟩) m cap)).ownsRow B e 1 y n xs:=fun y e n xs hy hyn=>hy.kept hset (.inr hyn);have hsE:∀ (y:Value) (e:TypeId) (n:Nat) (xs:List Value),wr.ownsRow B e 1 y n xs→e≠286→y.ownBlock≠some w.heap.size:=by
  intro y e n xs hy hne2 hyb;rcases hy.2 with ⟨rfl,_⟩ | ⟨gy,capy,cur,rfl,_,hgy,_⟩
  · simp[Value.ownBlock] at hyb
  · simp only[Value.ownBlock,Option.some.injEq] at hyb;subst hyb;have:=h.sb;rw[hgy] at this;obtain⟨cs,hh⟩:=this;simp only[Option.some.injEq,Obj.cells.injEq] at hh;exact hne2 hh.2.1
 refine⟨⟨hrow,fun x hx=>?_,fun x hx=>?_⟩,(World.cell?_setCell_other _ _ _ _ (by simp)).trans ((hg2.cell_far ⟨w.heap.size,0,none⟩ h.lt hne).trans h.c0),(World.cell?_setCell_other _ _ _ _ (by simp)).trans ((hg2.cell_far ⟨w.heap.size,1,none⟩ h.lt hne).trans h.c1),World.cell?_setCell_same _ _ _ hcv,fun j=>by rw[World.frozen?_setCell];exact(hg2.frozen_far ⟨w.heap.size,j,none⟩ h.lt hne).trans (h.fz j),?_,?_,?_,?_,?_,h.aAt,h.avAt,?_,?_,?_,h.fresh,?_⟩
 · exact hlow _ _ _ _ ((h.sts.bys x hx).kept hg2 (bI (h.sts.bys x hx) h.tos (by decide))) (hsE _ _ _ _ (h.sts.bys x hx) (by decide))
 · exact hlow _ _ _ _ ((h.sts.tos x hx).kept hg2 (h.apT x hx)) (hsE _ _ _ _ (h.sts.tos x hx) (by decide))
 · exact hlow _ _ _ _ (h.bys.kept hg2 (bI h.bys h.tos (by decide))) (hsE _ _ _ _ h.bys (by decide))
 · have:w7.ownsRow B 3 1 (.slice (some ⟨g,0,none⟩) m cap) (ns++[x]).length (dW (ns++[x])):=by
    rw[List.length_append,List.length_singleton,←hm,gY];exact hown
   refine this.kept hset (.inr ?_);simp only[Value.ownBlock,ne_eq,Option.some.injEq];omega
 · exact h.bAt
 · intro g' e;simp only[Value.ownBlock,Option.some.injEq] at e;omega
 · exact eB (eB h.grown hg2 (.inr fun g' e=>Nat.le_of_lt (h.tAt g' e))) hset (.inr fun g' e=>by simp only[Option.some.injEq] at e;omega)
 · rw[World.size_setCell];exact Nat.lt_of_lt_of_le h.lt hg2.size
 · exact h.apB
 · intro x hx;rcases hat with e | e
   · have:=h.apT x hx;rw[e] at this;exact this
   · refine .inr fun e2=>?_;simp only[Value.ownBlock] at e2;have:=((h.sts.tos x hx).lt g e2).2;omega
 · obtain⟨cs,hh⟩:=h.sb;have h1:w7.heap[w.heap.size]? = some (.cells cs 286 (0,0)):=(hg2.block _ h.lt hne).trans hh;exact oO h1 _ _
end Go.Proofs.YtgohllfpceeboabGreatDoor
