import Derived.Test.YtgohllfpceeboabGreatDoorAnbh
import Derived.Lib.UnsafeStr
import Derived.Lib.BufferWrite
import Derived.Laws.MakeOwn
import Derived.Lib.Strings
set_option maxRecDepth 100000
set_option maxHeartbeats 4000000
namespace Go.Proofs.YtgohllfpceeboabGreatDoor
theorem Tryz.info75 : (Tryz.prog.info? 75).map (fun i => (i.zero, i.size, i.bytes)) = some (some (.agg #[.string ⟨#[]⟩, .string ⟨#[]⟩, .int .i64 0, .string ⟨#[]⟩]), 4, 56) := by kernel_rfl
open Sx
open Go.RowKit in
theorem aN {w W w':World}(h:Below w.heap.size w W)(h':Below W.heap.size W w'):Below w.heap.size w w':=h.trans (h'.mono h.size)
theorem B9 {X:ByteArray}(h:0<X.size):X.toList.isEmpty=false:=by
 rw[ByteArray.toList_eq,List.isEmpty_eq_false_iff];intro e;have:=congrArg List.length e;rw[aC,List.length_nil] at this;omega
theorem C7 {X:ByteArray}(h:X.data.toList=[]):X.toList.isEmpty=true:=by
 rw[ByteArray.toList_eq,h];rfl
theorem ba_eq (a b:ByteArray):(a.toList == b.toList)=decide (a.data.toList=b.data.toList):=by
 rw[ByteArray.toList_eq,ByteArray.toList_eq,Bool.eq_iff_iff];simp
abbrev cJ:=Option (List UInt8×List (List UInt8)×Int)×List UInt8
def sW:List UInt8:=[104,116,116,112]
def mV:List UInt8:=[104,116,116,112,115]
def LL:List UInt8:=[111,112,97,113,117,101]
abbrev qO (s:List UInt8):Prop:=s=sW∨s=mV
def dF (o:cJ):Prop:=match o.1 with
 | none=>o.2=[]
 | some (s,H,p)=>qO s∧cD H∧0≤p∧p≤65535
def fZ (os:List cJ)(o:cJ):List cJ×Int×Int:=if os.length=20 then (os,0,5) else (os++[o],os.length,0)
def kY (os:List cJ)(s h:List UInt8)(p:Int):List cJ×Int×Int :=
 if qO s∧0≤p∧p≤65535 then (if (aI h).2=0 then fZ os (some (s,(aI h).1,p),[]) else (os,0,(aI h).2)) else (os,0,7)
def tG (os:List cJ):List cJ×Int×Int:=fZ os (none,[])
def JS (rs:List Rl)(v H:List (List UInt8)):Bool:=decide (aA v=aA H) || (cR (aA H) (46::aA v) && !decide (aA v=cY (aA v) (gJ (eR rs (aA v)))))
def TJ (rs:List Rl)(v H:List (List UInt8)):Bool:=dE H v && !(decide (v.length<H.length) && decide ((cL v rs).1=v.length))
theorem O7 {rs:List Rl}(hr:∀ r∈rs,RlRt r){v H:List (List UInt8)}(hv:cD v)(hH:cD H):JS rs v H=TJ rs v H:=by
 have h1:=MZ hH hv;have h2:=oD hv hH;obtain⟨p1,p2,p3⟩:=kW hv hr;have hle:=nG hv.1 rs;have hl:(aA v=cY (aA v) (gJ (eR rs (aA v))))↔(cL v rs).1=v.length:=by
  rw[p1,mN hv _ p3,if_pos hle];constructor
  · intro e;have hne:v.drop (v.length-(cL v rs).1)≠[]:=fun e=>by
     have:=congrArg List.length e;rw[List.length_drop,List.length_nil] at this;omega
    have hx:∀ x∈v,∀ b∈x,b≠46:=fun x hx b hb=>fJ ((hv.2.2.2 x hx).2 b hb);have:=jQ v _ hv.1 hne hx (fun x hx'=>hx x (List.mem_of_mem_drop hx')) e;have:=congrArg List.length this;rw[List.length_drop] at this;omega
  · intro e;rw[e,Nat.sub_self,List.drop_zero]
 unfold JS TJ;rw[Bool.eq_iff_iff];simp only[Bool.or_eq_true,Bool.and_eq_true,decide_eq_true_eq,Bool.not_eq_true',decide_eq_false_iff_not,Bool.and_eq_false_iff];rw[hl,h1,h2];constructor
 · rintro(e | ⟨⟨e1,e2⟩,e3⟩)
   · subst e;refine⟨by unfold dE;simp,Or.inl (by omega)⟩
   · exact⟨e1,Or.inr e3⟩
 · rintro⟨e1,e2⟩;by_cases hlt:v.length<H.length
   · right;rcases e2 with e2 | e2
     · exact absurd hlt e2
     · exact⟨⟨e1,hlt⟩,e2⟩
   · left;unfold dE at e1;simp only[Bool.and_eq_true,decide_eq_true_eq] at e1;have:H.length-v.length=0:=by omega
     rw[this,List.drop_zero] at e1;exact e1.2.symm
def mY (rs:List Rl)(os:List cJ)(n:Int)(v:List UInt8):List cJ×Int :=
 if 0≤n∧n<os.length then (match os.getD n.toNat (none,[]) with
  | (none,_)=>(os,8)
  | (some (s,H,p),_)=>if (aI v).2=0 then (if TJ rs (aI v).1 H=true then (os.set n.toNat (some (s,H,p),aA (aI v).1),0) else (os,9)) else (os,(aI v).2))
 else (os,7)
def fW (rs:List Rl)(o:cJ):List UInt8:=match o.1 with
 | none=>LL
 | some (s,H,_)=>s++[58,47,47]++(if cY (aA H) (gJ (eR rs (aA H))+1)=[] then aA H else cY (aA H) (gJ (eR rs (aA H))+1))
def lW (rs:List Rl)(o:cJ):List UInt8:=match o.1 with
 | none=>LL
 | some (s,H,_)=>s++[58,47,47]++(if H.length≤(cL H rs).1 then aA H else aA (H.drop (H.length-(cL H rs).1-1)))
theorem KL {h:List (List UInt8)}(h0:h≠[])(hx:∀ x∈h,x≠[]):aA h≠[]:=by
 intro e;obtain⟨x,r,rfl⟩:=List.exists_cons_of_ne_nil h0;simp only[aA,List.append_eq_nil_iff] at e;exact hx x (by simp) e.1
theorem BS {rs:List Rl}(hr:∀ r∈rs,RlRt r){o:cJ}(ho:dF o):fW rs o=lW rs o:=by
 obtain⟨x,d⟩:=o;cases x with
 | none=>rfl
 | some t =>
   obtain⟨s,H,p⟩:=t;obtain⟨_,hH,_⟩:=ho;obtain⟨p1,p2,p3⟩:=kW hH hr;unfold fW lW;simp only;have e:((cL H rs).1:Int)+1=(((cL H rs).1+1:Nat):Int):=by omega
   rw[p1,e,mN hH _ (by omega)];congr 1;by_cases hl:H.length≤(cL H rs).1
   · rw[if_pos hl,if_neg (show ¬ (cL H rs).1+1≤H.length by omega),if_pos rfl]
   · rw[if_neg hl,if_pos (show(cL H rs).1+1≤H.length by omega),if_neg]
     · congr 2
     · refine KL (fun e=>?_) (fun x hx=>(hH.2.2.2 x (List.mem_of_mem_drop hx)).1);have:=congrArg List.length e;rw[List.length_drop,List.length_nil] at this;omega
theorem IC {rs:List Rl}{o:cJ}(ho:dF o):fW rs o=LL↔o.1=none:=by
 obtain⟨x,d⟩:=o;cases x with
 | none=>exact⟨fun _=>rfl,fun _=>rfl⟩
 | some t =>
   obtain⟨s,H,p⟩:=t;obtain⟨hs,_⟩:=ho;refine⟨fun e=>?_,fun e=>by cases e⟩;exfalso;unfold fW at e;simp only at e;rcases hs with rfl | rfl
   · have:=congrArg List.head? e;simp[sW,LL] at this
   · have:=congrArg List.head? e;simp[mV,LL] at this
def bC (o:cJ):List UInt8:=match o.1 with
 | none=>[]
 | some (s,_,_)=>s
def pK (a b:Nat)(x y:cJ):Bool:=decide (a=b) || (decide (x.1≠none) && decide (x.1=y.1))
def tC (a b:Nat)(x y:cJ):Bool:=if x.2=[]∧y.2=[] then pK a b x y else decide (bC x=bC y) && decide (x.2=y.2)
def tH (rs:List Rl)(a b:Nat)(x y:cJ):Bool:=decide (a=b) || (decide (x.1≠none) && decide (fW rs x=fW rs y))
def tI (rs:List Rl)(a b:Nat)(x y:cJ):Bool×Bool×Bool:=match x.1,y.1 with
 | some (s,H,p),some (s',H',p')=>(decide (s=s') && decide (p=p') && decide (aA H=aA H'),(if x.2≠[]∨y.2≠[] then decide (s=s') && decide (x.2=y.2) else decide (s=s') && decide (p=p') && decide (aA H=aA H')),decide (lW rs x=lW rs y))
 | _,_=>(decide (a=b),decide (a=b),decide (a=b))
theorem uS {o:cJ}(ho:dF o)(h:o.1≠none):bC o≠[]:=by
 obtain⟨x,d⟩:=o;cases x with
 | none=>exact absurd rfl h
 | some t =>
   obtain⟨s,H,p⟩:=t;rcases ho.1 with rfl | rfl
   · simp[bC,sW]
   · simp[bC,mV]
theorem S0 {rs:List Rl}(hr:∀ r∈rs,RlRt r){a b:Nat}{x y:cJ}(hx:dF x)(hy:dF y)(hab:a=b→x=y):(pK a b x y,tC a b x y,tH rs a b x y)=tI rs a b x y:=by
 have sx:=BS hr hx;have sy:=BS hr hy;have ox:=IC (rs:=rs) hx;have oy:=IC (rs:=rs) hy;have qx:=uS hx;have qy:=uS hy;obtain⟨ox1,xd⟩:=x;obtain⟨oy1,yd⟩:=y;unfold tC pK tH tI;cases ox1 with
 | none =>
   have hxd:xd=[]:=hx;subst hxd;simp only;cases oy1 with
   | none =>
     have hyd:yd=[]:=hy;subst hyd;simp
   | some t =>
     obtain⟨s,H,p⟩:=t;have hne:a≠b:=fun e=>by have:=hab e;cases this
     by_cases hyd:yd=[]
     · subst hyd;simp[hne]
     · have:=qy (by simp);simp only[bC] at this ⊢;simp[hne,hyd,Ne.symm this]
 | some t =>
   obtain⟨s,H,p⟩:=t;cases oy1 with
   | none =>
     have hyd:yd=[]:=hy;subst hyd;have hne:a≠b:=fun e=>by have:=hab e;cases this
     have hst:fW rs (some (s,H,p),xd)≠fW rs (none,[]):=fun e=>by
      rw[oy.2 rfl] at e;have:=ox.1 e;cases this
     by_cases hxd:xd=[]
     · subst hxd;simp[hne,hst]
     · have:=qx (by simp);simp only[bC] at this ⊢;simp[hne,hxd,hst]
   | some t' =>
     obtain⟨s',H',p'⟩:=t';have hH:cD H:=hx.2.1;have hH':cD H':=hy.2.1;have hdd:=oD hH hH';simp only;rw[←sx,←sy];have hA:(decide (a=b) || (decide (some (s,H,p)≠none) && decide (some (s,H,p)=some (s',H',p'))))=(decide (s=s') && decide (p=p') && decide (aA H=aA H')):=by
      rw[Bool.eq_iff_iff];simp only[Bool.or_eq_true,Bool.and_eq_true,decide_eq_true_eq,Option.some.injEq,Prod.mk.injEq,hdd];constructor
      · rintro(e | ⟨_,e1,e2,e3⟩)
        · have:=hab e;simp only[Prod.mk.injEq,Option.some.injEq] at this;exact⟨⟨this.1.1,this.1.2.2⟩,this.1.2.1⟩
        · exact⟨⟨e1,e3⟩,e2⟩
      · rintro⟨⟨e1,e3⟩,e2⟩;exact Or.inr ⟨by simp,e1,e2,e3⟩
     rw[hA];simp only[Prod.mk.injEq,true_and];refine⟨?_,?_⟩
     · by_cases hd:xd=[]∧yd=[]
       · rw[if_pos hd,if_neg (by rw[hd.1,hd.2];simp)]
       · rw[if_neg hd,if_pos (by
          by_cases e:xd=[]
          · exact Or.inr (fun e2=>hd ⟨e,e2⟩)
          · exact Or.inl e)]
         rfl
     · rw[Bool.eq_iff_iff];simp only[Bool.or_eq_true,Bool.and_eq_true,decide_eq_true_eq];constructor
       · rintro(e | ⟨_,e⟩)
         · rw[hab e]
         · exact e
       · intro e;exact Or.inr ⟨by simp,e⟩
theorem FI {os:List cJ}{o:cJ}(h:∀ x∈os,dF x)(ho:dF o):∀ x∈(fZ os o).1,dF x:=by
 unfold fZ;split
 · exact h
 · intro x hx;rcases List.mem_append.1 hx with hx | hx
   · exact h x hx
   · rw[List.mem_singleton.1 hx];exact ho
theorem ZY {os:List cJ}(s h:List UInt8)(p:Int)(ho:∀ x∈os,dF x):∀ x∈(kY os s h p).1,dF x:=by
 unfold kY;split
 · rename_i hc;split
   · rename_i hh;exact FI ho ⟨hc.1,gX h hh,hc.2.1,hc.2.2⟩
   · exact ho
 · exact ho
theorem r7 {rs:List Rl}{os:List cJ}(n:Int)(v:List UInt8)(ho:∀ x∈os,dF x):∀ x∈(mY rs os n v).1,dF x:=by
 unfold mY;split
 · rename_i hn;have hlt:n.toNat<os.length:=by omega
   have hg:os.getD n.toNat (none,[])=os[n.toNat]:=by rw[List.getD_eq_getElem?_getD,List.getElem?_eq_getElem hlt];rfl
   have hmem:=ho _ (List.getElem_mem hlt);rw[hg];split
   · exact ho
   · rename_i s H p d he;rw[he] at hmem;split
     · split
       · intro x hx;rcases List.mem_or_eq_of_mem_set hx with hx | hx
         · exact ho x hx
         · rw[hx];exact hmem
       · exact ho
     · exact ho
 · exact ho
open Go.RowKit
def dZ (o:cJ):List UInt8:=match o.1 with
 | none=>[]
 | some (_,H,_)=>Sx.aA H
def bT (o:cJ):Int:=match o.1 with
 | none=>0
 | some (_,_,p)=>p
def O4 (W:World)(b k:Nat)(o:cJ):Prop:=W.cell? ⟨b,k,none⟩=some (.string ⟨(bC o).toArray⟩)∧W.cell? ⟨b,k+1,none⟩=some (.string ⟨(dZ o).toArray⟩)∧W.cell? ⟨b,k+2,none⟩=some (.int .i64 (bT o))∧W.cell? ⟨b,k+3,none⟩=some (.string ⟨o.2.toArray⟩)
theorem O4.below {W W':World}{b k N:Nat}{o:cJ}(h:O4 W b k o)(hb:Below N W W')(hN:b<N):O4 W' b k o:=by
 obtain⟨h1,h2,h3,h4⟩:=h;exact⟨(hb.cell (p:=⟨b,k,none⟩) hN).trans h1,(hb.cell (p:=⟨b,k+1,none⟩) hN).trans h2,(hb.cell (p:=⟨b,k+2,none⟩) hN).trans h3,(hb.cell (p:=⟨b,k+3,none⟩) hN).trans h4⟩
def RdW (W:World)(g:Nat)(rs:List Sx.Rl)(os:List cJ):Prop:=∃ rv p cap,g<W.heap.size∧W.cell? ⟨g,0,none⟩=some rv∧W.cell? ⟨g,1,none⟩=some (.slice p os.length cap)∧PrAt W rv rs∧∀ j (h:j<os.length),∃ b,p=some ⟨b,0,none⟩∧b<W.heap.size∧O4 W b (j*4) os[j]
theorem RdW.below {W W':World}{g:Nat}{rs:List Sx.Rl}{os:List cJ}(h:RdW W g rs os)(hb:Below W.heap.size W W'):RdW W' g rs os:=by
 obtain⟨rv,p,cap,h1,h2,h3,h4,h5⟩:=h;refine⟨rv,p,cap,Nat.lt_of_lt_of_le h1 hb.size,(hb.cell (p:=⟨g,0,none⟩) h1).trans h2,(hb.cell (p:=⟨g,1,none⟩) h1).trans h3,h4.below hb,fun j hj=>?_⟩;obtain⟨b,e1,e2,e3⟩:=h5 j hj;exact⟨b,e1,Nat.lt_of_lt_of_le e2 hb.size,e3.below hb e2⟩
theorem l8 {o:cJ}(ho:dF o):(bC o=[]∧dZ o=[]∧bT o=0)↔o.1=none:=by
 constructor
 · intro h;exact Classical.byContradiction fun hn=>uS ho hn h.1
 · intro h;obtain⟨x,d⟩:=o;dsimp only at h;subst h;exact⟨rfl,rfl,rfl⟩
theorem XT {x y:cJ}(hx:dF x)(hy:dF y):(bC x=bC y∧dZ x=dZ y∧bT x=bT y)↔x.1=y.1:=by
 constructor
 · intro h;obtain⟨h1,h2,h3⟩:=h;have qx:=uS hx;have qy:=uS hy;obtain⟨ox,xd⟩:=x;obtain⟨oy,yd⟩:=y;cases ox with
   | none =>
     cases oy with
     | none=>rfl
     | some t=>exact absurd h1.symm (qy (by simp))
   | some t =>
     cases oy with
     | none=>exact absurd h1 (qx (by simp))
     | some t' =>
       obtain⟨s,H,p⟩:=t;obtain⟨s',H',p'⟩:=t';have hH:Sx.cD H:=hx.2.1;have hH':Sx.cD H':=hy.2.1;have e:=(oD hH hH').1 h2;have e1:s=s':=h1;have e3:p=p':=h3;subst e e1 e3;rfl
 · intro h;unfold bC dZ bT;rw[h];exact⟨rfl,rfl,rfl⟩
theorem IU (g:Nat)(n:Int)(rs:List Sx.Rl)(os:List cJ)(w:World)(hr:RdW w g rs os):Calls Tryz.prog 36 #[.pointer (some ⟨g,0,none⟩),.int .i64 n] w fun e w'=>e=.returned (.bool (decide (0≤n∧n<os.length)))∧w'=w:=by
 obtain⟨rv,p,cap,h1,h2,h3,h4,h5⟩:=hr;clear h4 h5;by_cases c1:0≤n
 · by_cases c2:n<os.length
   · go_enter Tryz.func36,Tryz.ntmps36;go_wp2;go_ret;exact⟨by first | rfl | (rw[decide_eq_true ⟨c1,c2⟩];rfl),rfl⟩
   · have c3:(n<os.length)=False:=by simpa using c2
     go_enter Tryz.func36,Tryz.ntmps36;go_wp2;go_ret;exact⟨by first | rfl | (rw[decide_eq_false (fun h=>by omega)];rfl),rfl⟩
 · have c3:(0≤n)=False:=by simpa using c1
   go_enter Tryz.func36,Tryz.ntmps36;go_wp2;go_ret;exact⟨by first | rfl | (rw[decide_eq_false (fun h=>by omega)];rfl),rfl⟩
theorem Z4 (s h d:ByteArray)(p:Int)(w:World):Calls Tryz.prog 42 #[.agg #[.string s,.string h,.int .i64 p,.string d]] w fun e w'=>e=.returned (.bool (decide (s.toList=[]∧h.toList=[]∧p=0)))∧Below w.heap.size w w':=by
 go_enter Tryz.func42,Tryz.ntmps42;go_wp2;all_goals (
  go_ret;refine⟨?_,(Below.refl _ w).alloc (Nat.le_refl _) _⟩;simp_all)
def rH (o:cJ):Value:=.agg #[.string ⟨(bC o).toArray⟩,.string ⟨(dZ o).toArray⟩,.int .i64 (bT o),.string ⟨o.2.toArray⟩]
theorem ML (o:cJ)(w:World)(ho:dF o):Calls Tryz.prog 42 #[rH o] w fun e w'=>e=.returned (.bool (decide (o.1=none)))∧Below w.heap.size w w':=by
 have h:=Z4 ⟨(bC o).toArray⟩ ⟨(dZ o).toArray⟩ ⟨o.2.toArray⟩ (bT o) w;rw[ByteArray.toList_eq,ByteArray.toList_eq,decide_eq_decide.2 (l8 ho)] at h;exact h
def C4 (W:World)(b:Nat)(s h:ByteArray)(p:Int)(d:ByteArray):Prop:=W.cell? ⟨b,0,none⟩=some (.string s)∧W.cell? ⟨b,1,none⟩=some (.string h)∧W.cell? ⟨b,2,none⟩=some (.int .i64 p)∧W.cell? ⟨b,3,none⟩=some (.string d)
theorem C4.below {W W':World}{b N:Nat}{s h d:ByteArray}{p:Int}(hc:C4 W b s h p d)(hb:Below N W W')(hN:b<N):C4 W' b s h p d:=by
 obtain⟨h1,h2,h3,h4⟩:=hc;exact⟨(hb.cell (p:=⟨b,0,none⟩) hN).trans h1,(hb.cell (p:=⟨b,1,none⟩) hN).trans h2,(hb.cell (p:=⟨b,2,none⟩) hN).trans h3,(hb.cell (p:=⟨b,3,none⟩) hN).trans h4⟩
theorem AW (w:World)(s h d:ByteArray)(p:Int):C4 (w.alloc (.cells #[.string s,.string h,.int .i64 p,.string d] 75)) w.heap.size s h p d:=by
 have hm:=World.cell?_alloc_mark w #[.string s,.string h,.int .i64 p,.string d] 75 (0,0);exact⟨(hm 0).trans rfl,(hm 1).trans rfl,(hm 2).trans rfl,(hm 3).trans rfl⟩
theorem BP (w:World)(s h d s' h' d':ByteArray)(p p':Int)(W:World)(hW:W=((w.alloc (.cells #[.string s,.string h,.int .i64 p,.string d] 75)).alloc (.cells #[.string s',.string h',.int .i64 p',.string d'] 75)).drew) :
 w.heap.size<W.heap.size∧w.heap.size+1<W.heap.size∧C4 W w.heap.size s h p d∧C4 W (w.heap.size+1) s' h' p' d'∧Below w.heap.size w W:=by
 have h1:=AW w s h d p;obtain⟨w1,hw1⟩:∃ w1,w.alloc (.cells #[.string s,.string h,.int .i64 p,.string d] 75)=w1:=⟨_,rfl⟩
 have hz:w1.heap.size=w.heap.size+1:=by rw[←hw1,World.size_alloc]
 rw[hw1] at hW h1;have h2:=AW w1 s' h' d' p';have hB1:Below w.heap.size w w1:=by rw[←hw1];exact(Below.refl _ w).alloc (Nat.le_refl _) _
 have hB2:Below w1.heap.size w1 (w1.alloc (.cells #[.string s',.string h',.int .i64 p',.string d'] 75)):=(Below.refl _ w1).alloc (Nat.le_refl _) _;have hz2:(w1.alloc (.cells #[.string s',.string h',.int .i64 p',.string d'] 75)).heap.size=w.heap.size+2:=by rw[World.size_alloc,hz]
 have h3:=h1.below hB2 (by omega);rw[hz] at h2;subst hW;refine⟨?_,?_,h3,h2,(aN hB1 hB2).drew⟩
 · show w.heap.size<(w1.alloc _).heap.size;rw[hz2];omega
 · show w.heap.size+1<(w1.alloc _).heap.size;rw[hz2];omega
theorem H7 (g a b:Nat)(rs:List Sx.Rl)(os:List cJ)(w:World)(hr:RdW w g rs os)(ha:a<os.length)(hb:b<os.length)(hok:∀ o∈os,dF o):Calls Tryz.prog 55 #[.pointer (some ⟨g,0,none⟩),.int .i64 a,.int .i64 b] w fun e w'=>e=.returned (.bool (pK a b os[a] os[b]))∧Below w.heap.size w w':=by
 obtain⟨rv,p,cap,h1,h2,h3,h4,h5⟩:=hr;obtain⟨rb,rfl,hrb,o1⟩:=h5 a ha;obtain⟨rb',hrb',-,o2⟩:=h5 b hb;obtain rfl:rb=rb':=by injection hrb' with h;injection h
 have hxo:=hok os[a] (List.getElem_mem ha);have hyo:=hok os[b] (List.getElem_mem hb);have hfr:=XT hxo hyo;have HOP:=hide (fun W=>ML os[a] W hxo);obtain⟨x,hx⟩:∃ x,os[a]=x:=⟨_,rfl⟩
 obtain⟨y,hy⟩:∃ x,os[b]=x:=⟨_,rfl⟩
 rw[hx] at o1 hfr HOP ⊢;rw[hy] at o2 hfr ⊢;unfold O4 at o1 o2;unfold rH at HOP;have hrel:¬ a=b→pK a b x y=(!decide (x.1=none) && decide (bC x=bC y∧dZ x=dZ y∧bT x=bT y)):=fun h=>by
  unfold pK;rw[decide_eq_decide.2 hfr,decide_eq_false h,Bool.false_or];congr 1;simp
 have hrt:a=b→pK a b x y=true:=fun h=>by unfold pK;rw[decide_eq_true h];rfl
 obtain⟨S1,hS1⟩:∃ X:ByteArray,⟨(bC x).toArray⟩=X:=⟨_,rfl⟩
 obtain⟨H1,hH1⟩:∃ X:ByteArray,⟨(dZ x).toArray⟩=X:=⟨_,rfl⟩
 obtain⟨D1,hD1⟩:∃ X:ByteArray,⟨x.2.toArray⟩=X:=⟨_,rfl⟩
 obtain⟨S2,hS2⟩:∃ X:ByteArray,⟨(bC y).toArray⟩=X:=⟨_,rfl⟩
 obtain⟨H2,hH2⟩:∃ X:ByteArray,⟨(dZ y).toArray⟩=X:=⟨_,rfl⟩
 obtain⟨D2,hD2⟩:∃ X:ByteArray,⟨y.2.toArray⟩=X:=⟨_,rfl⟩
 have hcm:decide (bC x=bC y∧dZ x=dZ y∧bT x=bT y)=decide (S1.toList=S2.toList∧H1.toList=H2.toList∧bT x=bT y):=by
  rw[←hS1,←hS2,←hH1,←hH2];simp only[ByteArray.toList_eq]
 rw[hS1,hH1,hD1] at o1 HOP;rw[hS2,hH2,hD2] at o2;rw[hcm] at hrel;obtain⟨P1,hP1⟩:∃ n,bT x=n:=⟨_,rfl⟩
 obtain⟨P2,hP2⟩:∃ n,bT y=n:=⟨_,rfl⟩
 rw[hP1] at o1 hrel HOP;rw[hP2] at o2 hrel;obtain⟨c1,c2,c3,c4⟩:=o1;obtain⟨d1,d2,d3,d4⟩:=o2;obtain⟨R,hR⟩:∃ R,pK a b x y=R:=⟨_,rfl⟩
 rw[hR] at hrel hrt ⊢;obtain⟨OP,hOP⟩:∃ R,decide (x.1=none)=R:=⟨_,rfl⟩
 rw[hOP] at hrel HOP;have HREL:=hide hrel;have HRT:=hide hrt;clear hrel hrt hS1 hH1 hD1 hS2 hH2 hD2 hcm hP1 hP2 hfr hx hy hR hOP h4 h5 hrb' hok hxo hyo h2;go_enter Tryz.func55,Tryz.ntmps55;go_upto_region 1 with fail
 go_cut [7,8] (fun f s wc=>∃ b1 b2,f=.pointer (some ⟨b1,0,none⟩)∧s=.pointer (some ⟨b2,0,none⟩)∧b1<wc.heap.size∧b2<wc.heap.size∧C4 wc b1 S1 H1 P1 D1∧C4 wc b2 S2 H2 P2 D2∧Below w.heap.size w wc)
 case first =>
  go_region
  all_goals (
   go_wp2_with fail
   go_meet;first
    | (obtain⟨q1,q2,q3,q4,q5⟩:=BP w S1 H1 D1 S2 H2 D2 P1 P2 _ rfl
       exact⟨_,_,rfl,rfl,q1,q2,q3,q4,q5⟩)
    | (obtain⟨q1,q2,q3,q4,q5⟩:=BP w S2 H2 D2 S1 H1 D1 P2 P1 _ rfl
       exact⟨_,_,rfl,rfl,q2,q1,q4,q3,q5⟩))
 case rest =>
  obtain⟨b1,b2,rfl,rfl,hb1,hb2,q1,q2,hBc⟩:=hcut;have HBC:=hide hBc;have HX:Hid (∀ W,Below wc.heap.size wc W→C4 W b1 S1 H1 P1 D1∧C4 W b2 S2 H2 P2 D2):=hide (fun W h=>⟨q1.below h hb1,q2.below h hb2⟩);have hS0:=HX.out wc (Below.refl _ _);unfold C4 at hS0 HX;clear q1 q2 hBc c1 c2 c3 c4 d1 d2 d3 d4 h3;by_cases hab:a=b
  · have hRt:=HRT.out hab;have k1:((a:Int) == b)=true:=by simp;omega
    go_wp2;go_ret;exact⟨by rw[hRt];rfl,HBC.out⟩
  · have HRE:=hide (HREL.out hab);have k1:((a:Int) == b)=false:=by simp;omega
    obtain⟨⟨c1,c2,c3,c4⟩,d1,d2,d3,d4⟩:=hS0;go_wp2_with fail
    refine(HOP.out _).mono ?_;rintro e y1 ⟨rfl,hB1⟩;have HBE:=hide (aN HBC.out hB1);clear c1 c2 c3 c4 d1 d2 d3 d4;obtain⟨⟨c1,c2,c3,c4⟩,d1,d2,d3,d4⟩:=HX.out y1 hB1;clear hB1;cases OP with
    | true =>
      go_wp2;go_ret;exact⟨by rw[HRE.out];rfl,HBE.out⟩
    | false =>
      go_wp2;all_goals (
       go_ret;refine⟨?_,HBE.out⟩;rw[HRE.out];simp_all)
theorem cF {w:World}{b:Nat}{o:Obj}(h:w.heap[b]? = some o):b<w.heap.size:=(Array.getElem?_eq_some_iff.1 h).1
theorem JB (w:World)(x y z u:Value)(t:TypeId):∀ (j:Nat) (q:Value),[x,y,z,u][j]? = some q→(w.alloc (.cells #[x,y,z,u] t)).cell? ((⟨w.heap.size,0,none⟩:Addr).add j)=some q:=by
 intro j q hj;rw[Addr.add_lit,Nat.zero_add,World.cell?_alloc_mark]
 simpa using hj
theorem X9 (g:Nat)(o:cJ)(rs:List Sx.Rl)(os:List cJ)(w:World)(hW:RdW w g rs os)(hl:os.length=20):Calls Tryz.prog 34 #[.pointer (some ⟨g,0,none⟩),rH o] w fun e w'=>e=.returned (.tuple #[.int .i64 0,.int .i64 5])∧Below w.heap.size w w':=by
 obtain⟨rv,p,cap,h1,h2,h3,h4,h5⟩:=hW;unfold rH;obtain⟨S,hS⟩:∃ X:ByteArray,⟨(bC o).toArray⟩=X:=⟨_,rfl⟩
 obtain⟨H,hH⟩:∃ X:ByteArray,⟨(dZ o).toArray⟩=X:=⟨_,rfl⟩
 obtain⟨D,hD⟩:∃ X:ByteArray,⟨o.2.toArray⟩=X:=⟨_,rfl⟩
 obtain⟨P,hP⟩:∃ n,bT o=n:=⟨_,rfl⟩
 rw[hS,hH,hD,hP];rw[hl] at h3;clear h4 h5 hS hH hD hP;go_enter Tryz.func34,Tryz.ntmps34;go_wp2;go_ret2;exact⟨rfl,(Below.refl _ w).alloc (Nat.le_refl _) _⟩
theorem m5 (s:ByteArray)(w:World)(h0:0<s.size)(hl:s.size≤1000000):Calls Tryz.prog 92 #[.string s] w fun e w'=>e=.returned (.string s)∧Below w.heap.size w w':=by
 obtain⟨i0,hi,hz0,hz1,hz2⟩:=info_parts Tryz.info5;have hinfo:(Tryz.prog.info? 5).map (·.size)=some 1:=by rw[hi];simp[hz1]
 have hco:Tryz.prog.cellsOf 5=1:=by simp[Program.cellsOf,hi,hz1]
 obtain⟨M,hM⟩:∃ M,M=madeCells (Value.int .u8 0).cells (((s.size:Nat):Int).toNat*i0.size):=⟨_,rfl⟩
 have hMs:M.size=s.size:=by rw[hM,size_madeCells,hz1];simp
 have hmk:∀ W:World,(Instr.makeSlice 90 (.int .i64 (s.size:Int)) (.int .i64 (s.size:Int))).run Tryz.prog W=.ok (.slice (some ⟨W.heap.size,0,none⟩) s.size s.size) (W.alloc (.cells M 5)):=fun W=>by
  have h:=run_make (P:=Tryz.prog) W 90 5 i0 (.int .u8 0) Tryz.underlying90 hi hz0 .i64 .i64 (s.size:Int) (s.size:Int) (by omega) (by omega) (by rw[hz2];omega) (by omega);rw[←hM] at h
  simpa using h
 clear hM;have hcp:=Lib.run_copy_row_string (P:=Tryz.prog) (w.alloc (.cells M 5)) 90 9 3 5 w.heap.size 0 s.size s.size s M 5 Tryz.underlying90 hinfo (heap_alloc_new w _) (Nat.le_refl _) (by omega);obtain⟨Y,hY⟩:∃ Y,Y=(M.toList.take 0++Lib.byteCells s.data.toList++M.toList.drop (0+s.size)).toArray:=⟨_,rfl⟩
 rw[←hY] at hcp;have hYl:Y.toList=Lib.byteCells s.data.toList:=by
  rw[hY,List.toList_toArray,List.take_zero,List.nil_append,List.drop_of_length_le (by rw[Array.length_toList];omega),List.append_nil]
 have hYs:Y.size=s.size:=by rw[←Array.length_toList,hYl,Lib.byteCells_length,←Lib.size_eq]
 have hgY:((w.alloc (.cells M 5)).setRow w.heap.size Y).heap[w.heap.size]? = some (.cells Y 5 (0,0)):=setRow_heap _ _ M _ 5 (0,0) (heap_alloc_new w _);have hne:s.data.toList≠[]:=fun e=>by rw[Lib.size_eq,e] at h0;exact absurd h0 (by simp)
 have hUS:=Lib.run_unsafeString_row (P:=Tryz.prog) ((w.alloc (.cells M 5)).setRow w.heap.size Y) 198 3 9 5 Tryz.underlying198 hco w.heap.size Y.size (by unfold World.shape?;rw[hgY]) s.data.toList hne (by rw[←Lib.size_eq];omega) (by rw[←Lib.size_eq];omega)
  (fun j x hx=>Lib.cells_of_row hgY Y.size j _ (by rw[List.take_of_length_le (by rw[Array.length_toList];exact Nat.le_refl _),hYl];simp[Lib.byteCells,hx]))
 rw[←Lib.size_eq] at hUS;clear hY;go_enter Tryz.func92,Tryz.ntmps92;go_wp2;go_ret;have hb1:Below w.heap.size w (w.alloc (.cells M 5)):=(Below.refl _ w).alloc (Nat.le_refl _) _;have hb2:Below w.heap.size (w.alloc (.cells M 5)) ((w.alloc (.cells M 5)).setRow w.heap.size Y):=⟨rfl,rfl,rfl,by simp,fun k hk=>setRow_other _ _ _ _ (by omega)⟩
 exact⟨rfl,Lib.below_freeze (hb1.trans hb2) (p:=⟨w.heap.size,0,none⟩) (Nat.le_refl _) _⟩
theorem A9 (s:ByteArray)(w:World)(h0:0<s.size)(hl:s.size≤1000000):Calls Tryz.prog 54 #[.string s] w fun e w'=>e=.returned (.string s)∧Below w.heap.size w w':=by
 have HC:=hide (m5 s w h0 hl);go_enter Tryz.func54,Tryz.ntmps54;go_wp2_with fail
 refine HC.out.mono ?_;rintro e w1 ⟨rfl,hB⟩;have HB:=hide hB;clear hB;go_wp2;go_ret;exact⟨rfl,HB.out⟩
theorem Z9 {W:World}{b:Nat}{x y z:Value}{t:TypeId}(h:W.heap[b]? = some (.cells #[x,y,z] t (0,0))):(W.cell? ⟨b,0,none⟩=some x∧W.cell? ⟨b,1,none⟩=some y∧W.cell? ⟨b,2,none⟩=some z)∧W.frozen? ⟨b,0,none⟩=false∧W.frozen? ⟨b,1,none⟩=false∧W.frozen? ⟨b,2,none⟩=false:=by
 simp[World.cell?,World.frozen?,h]
theorem set3 {W:World}{b:Nat}{x y z:Value}(c1:W.cell? ⟨b,0,none⟩=some x)(c2:W.cell? ⟨b,1,none⟩=some y)(c3:W.cell? ⟨b,2,none⟩=some z)(x' y' z':Value) :
 (((W.setCell ⟨b,0,none⟩ x').setCell ⟨b,1,none⟩ y').setCell ⟨b,2,none⟩ z').cell? ⟨b,0,none⟩=some x'∧(((W.setCell ⟨b,0,none⟩ x').setCell ⟨b,1,none⟩ y').setCell ⟨b,2,none⟩ z').cell? ⟨b,1,none⟩=some y'∧(((W.setCell ⟨b,0,none⟩ x').setCell ⟨b,1,none⟩ y').setCell ⟨b,2,none⟩ z').cell? ⟨b,2,none⟩=some z':=by
 have d1:(W.setCell ⟨b,0,none⟩ x').cell? ⟨b,1,none⟩=some y:=by rw[World.cell?_setCell_other _ _ _ _ (by simp),c2]
 have d2:((W.setCell ⟨b,0,none⟩ x').setCell ⟨b,1,none⟩ y').cell? ⟨b,2,none⟩=some z:=by rw[World.cell?_setCell_other _ _ _ _ (by simp),World.cell?_setCell_other _ _ _ _ (by simp),c3]
 refine⟨?_,?_,?_⟩
 · rw[World.cell?_setCell_other _ _ _ _ (by simp),World.cell?_setCell_other _ _ _ _ (by simp),World.cell?_setCell_same _ _ _ c1]
 · rw[World.cell?_setCell_other _ _ _ _ (by simp),World.cell?_setCell_same _ _ _ d1]
 · rw[World.cell?_setCell_same _ _ _ d2]
theorem X8 (s h:ByteArray)(p:Int)(w:World)(h0:0<s.size)(hl:s.size≤1000000):Calls Tryz.prog 35 #[.string s,.string h,.int .i64 p] w fun e w'=>e=.returned (.agg #[.string s,.string h,.int .i64 p])∧Below w.heap.size w w':=by
 have HC:=hide (fun W=>A9 s W h0 hl);go_enter Tryz.func35,Tryz.ntmps35;go_wp2_with fail
 refine(HC.out _).mono ?_;rintro e y1 ⟨rfl,hB⟩;have hh:=(hB.block w.heap.size (by simp)).trans (heap_alloc_new _ _);obtain⟨⟨c1,c2,c3⟩,c4,c5,c6⟩:=Z9 hh;have HB:=hide (aN ((Below.refl _ w).alloc (Nat.le_refl _) _) hB);have hbz:=HB.out.size;clear hB hh;obtain⟨q1,q2,q3⟩:=set3 c1 c2 c3 (.string s) (.string h) (.int .i64 p);have HQ:=hide (And.intro q1 (And.intro q2 q3));clear q1 q2 q3;go_wp2;refine bodyPost_ret (v:=.agg #[.string s,.string h,.int .i64 p]) ?_ rfl ?_
 · obtain⟨q1,q2,q3⟩:=HQ.out;simp[results,Tryz.results35,go_sem,q1,q2,q3]
 · exact⟨rfl,((HB.out.setCell (p:=⟨w.heap.size,0,none⟩) (Nat.le_refl _) _).setCell (p:=⟨w.heap.size,1,none⟩) (Nat.le_refl _) _).setCell (p:=⟨w.heap.size,2,none⟩) (Nat.le_refl _) _⟩
theorem X5 (p:Int)(w:World):Calls Tryz.prog 31 #[.int .i64 p] w fun e w'=>e=.returned (.bool (decide (0≤p∧p≤65535)))∧w'=w:=by
 by_cases c1:0≤p
 · by_cases c2:p≤65535
   · go_enter Tryz.func31,Tryz.ntmps31;go_wp2;go_ret;exact⟨by first | rfl | (rw[decide_eq_true ⟨c1,c2⟩];rfl),rfl⟩
   · have c3:(p≤65535)=False:=by simpa using c2
     go_enter Tryz.func31,Tryz.ntmps31;go_wp2;go_ret;exact⟨by first | rfl | (rw[decide_eq_false (fun h=>by omega)];rfl),rfl⟩
 · have c3:(0≤p)=False:=by simpa using c1
   go_enter Tryz.func31,Tryz.ntmps31;go_wp2;go_ret;exact⟨by first | rfl | (rw[decide_eq_false (fun h=>by omega)];rfl),rfl⟩
theorem Y0 (s:ByteArray)(w:World):Calls Tryz.prog 30 #[.string s] w fun e w'=>e=.returned (.bool (decide (qO s.data.toList)))∧w'=w:=by
 have hd:decide (qO s.data.toList)=(s.toList == [104,116,116,112] || s.toList == [104,116,116,112,115]):=by
  rw[Bool.eq_iff_iff,ByteArray.toList_eq];simp[qO,sW,mV];exact decide_eq_true_iff
 rw[hd];clear hd;go_enter Tryz.func30,Tryz.ntmps30;go_wp2;all_goals (
  go_ret;refine⟨?_,rfl⟩;simp_all)
def PY (o:cJ):List Value:=[.string ⟨(bC o).toArray⟩,.string ⟨(dZ o).toArray⟩,.int .i64 (bT o),.string ⟨o.2.toArray⟩]
def fE (os:List cJ):List Value:=os.flatMap PY
theorem SR (a b:List cJ):fE (a++b)=fE a++fE b:=by simp[fE]
theorem zN:∀ (l:List cJ) (j:Nat) (h:j<l.length),(fE l)[j*4]? = some (.string ⟨(bC l[j]).toArray⟩)∧(fE l)[j*4+1]? = some (.string ⟨(dZ l[j]).toArray⟩)∧(fE l)[j*4+2]? = some (.int .i64 (bT l[j]))∧(fE l)[j*4+3]? = some (.string ⟨l[j].2.toArray⟩):=by
 intro l
 induction l with
 | nil=>intro j h;exact absurd h (Nat.not_lt_zero _)
 | cons x r ih =>
   intro j h;have e:fE (x::r)=Value.string ⟨(bC x).toArray⟩::Value.string ⟨(dZ x).toArray⟩::Value.int .i64 (bT x)::Value.string ⟨x.2.toArray⟩::fE r:=rfl;cases j with
   | zero=>rw[e];exact⟨rfl,rfl,rfl,rfl⟩
   | succ j =>
     have:=ih j (by simpa using h);rw[e,show(j+1)*4=j*4+4 by omega];exact this
theorem yR {s:List UInt8}(h:(Sx.aI s).2≠0):Sx.dU s=([],(Sx.aI s).2):=Prod.ext (Sx.KO s h).1 rfl
structure Ex (E:Nat→Prop) (w w':World):Prop where
 base:Below 0 w w'
 block:∀ k,k<w.heap.size→¬ E k→w'.heap[k]? = w.heap[k]?
theorem lE {E:Nat→Prop}{w w':World}(h:Below w.heap.size w w'):Ex E w w':=⟨h.mono (Nat.zero_le _),fun k hk _=>h.block k hk⟩
theorem Ex.trans {E E':Nat→Prop}{w w1 w2:World}(h:Ex E w w1)(h':Ex E' w1 w2)(hE:∀ k,k<w.heap.size→E' k→E k):Ex E w w2 :=
 ⟨h.base.trans h'.base,fun k hk hn=>(h'.block k (Nat.lt_of_lt_of_le hk h.base.size) (fun e=>hn (hE k hk e))).trans (h.block k hk hn)⟩
theorem Ex.mono {E E':Nat→Prop}{w w':World}(h:Ex E w w')(hE:∀ k,E k→E' k):Ex E' w w':=⟨h.base,fun k hk hn=>h.block k hk (fun e=>hn (hE k e))⟩
theorem Ex.below {E:Nat→Prop}{w w':World}{n:Nat}(h:Ex E w w')(hn:n≤w.heap.size)(hE:∀ k,E k→n≤k):Below n w w' :=
 ⟨h.base.os,h.base.tape,h.base.output,h.base.size,fun k hk=>h.block k (by omega) (fun e=>by have:=hE k e;omega)⟩
theorem Ex.own {E:Nat→Prop}{w w':World}{B z n:Nat}{e:TypeId}{v:Value}{xs:List Value}(h:Ex E w w')(ho:w.ownsRow B e z v n xs)(hn:∀ k,v.ownBlock=some k→¬ E k):w'.ownsRow B e z v n xs:=by
 refine⟨ho.1,?_⟩;rcases ho.2 with h1 | ⟨g,cap,cur,e1,e2,e3,e4⟩
 · exact .inl h1
 · exact .inr ⟨g,cap,cur,e1,e2,(h.block g (cF e3) (hn g (by rw[e1];rfl))).trans e3,e4⟩
def Ety (t1 t2:TypeId)(w:World)(E:Nat→Prop):Prop:=∀ k,E k→∀ cs t fr,w.heap[k]? = some (.cells cs t fr)→t=t1∨t=t2
theorem lG {w:World}{B z n k:Nat}{e:TypeId}{v:Value}{xs:List Value}(ho:w.ownsRow B e z v n xs)(hk:v.ownBlock=some k):∃ cs,w.heap[k]? = some (.cells cs e (0,0)):=by
 rcases ho.2 with ⟨e1,_⟩ | ⟨g,cap,cur,e1,e2,e3,e4⟩
 · rw[e1] at hk;cases hk
 · rw[e1] at hk;have:g=k:=by simpa[Value.ownBlock] using hk
   subst this;exact⟨cur,e3⟩
theorem Ety.own {t1 t2:TypeId}{E:Nat→Prop}{w w':World}{B z n:Nat}{e:TypeId}{v:Value}{xs:List Value}(hE:Ety t1 t2 w E)(h:Ex E w w')(ho:w.ownsRow B e z v n xs)(h1:e≠t1)(h2:e≠t2):w'.ownsRow B e z v n xs:=h.own ho (fun k hk he=>by
 obtain⟨cs,hc⟩:=lG ho hk;rcases hE k he _ _ _ hc with r | r
 · exact h1 r
 · exact h2 r)
def PE (g:Nat)(v:Value)(k:Nat):Prop:=k=g∨v.ownBlock=some k
theorem wU {w:World}{g B z n:Nat}{v:Value}{xs:List Value}{cs:Array Value}{t1 t2:TypeId}{fr:Nat×Nat}(hb:w.heap[g]? = some (.cells cs t1 fr))(ho:w.ownsRow B t2 z v n xs):Ety t1 t2 w (PE g v):=fun k hk cs' t fr' hc=>by
 rcases hk with rfl | hk
 · rw[hb] at hc;simp at hc;exact .inl hc.2.1.symm
 · obtain⟨cs2,h2⟩:=lG ho hk;rw[h2] at hc;simp at hc;exact .inr hc.2.1.symm
def PwAt (W:World)(g:Nat)(ov:Value)(rs:List Sx.Rl)(os:List cJ):Prop:=∃ rv,W.heap[g]? = some (.cells #[rv,ov] 87 (0,0))∧W.ownsRow 0 82 4 rv rs.length (tR rs)∧W.ownsRow (g+1) 75 4 ov os.length (fE os)
theorem PwAt.lt {W:World}{g:Nat}{ov:Value}{rs:List Sx.Rl}{os:List cJ}(h:PwAt W g ov rs os):g<W.heap.size:=by
 obtain⟨rv,h1,-⟩:=h;exact cF h1
theorem PwAt.ety {W:World}{g:Nat}{ov:Value}{rs:List Sx.Rl}{os:List cJ}(h:PwAt W g ov rs os):Ety 87 75 W (PE g ov):=by
 obtain⟨rv,h1,-,h3⟩:=h;exact wU h1 h3
theorem PwAt.ex {W W':World}{g:Nat}{ov:Value}{rs:List Sx.Rl}{os:List cJ}{E:Nat→Prop}{t1 t2:TypeId}(h:PwAt W g ov rs os)(hx:Ex E W W')(hn:∀ k,PE g ov k→¬ E k)(hE:Ety t1 t2 W E)(h1:82≠t1)(h2:82≠t2):PwAt W' g ov rs os:=by
 obtain⟨rv,a1,a2,a3⟩:=h;exact⟨rv,(hx.block g (cF a1) (hn g (.inl rfl))).trans a1,hE.own hx a2 h1 h2,hx.own a3 (fun k hk=>hn k (.inr hk))⟩
theorem PwAt.below {W W':World}{g:Nat}{ov:Value}{rs:List Sx.Rl}{os:List cJ}(h:PwAt W g ov rs os)(hb:Below W.heap.size W W'):PwAt W' g ov rs os:=by
 obtain⟨rv,a1,a2,a3⟩:=h;exact⟨rv,(hb.block g (cF a1)).trans a1,aD a2 hb,aD a3 hb⟩
theorem PwAt.read {W:World}{g:Nat}{ov:Value}{rs:List Sx.Rl}{os:List cJ}(h:PwAt W g ov rs os):RdW W g rs os:=by
 obtain⟨rv,h4,h2,h5⟩:=h;have hg:=cF h4;obtain⟨p,cap,rfl⟩:=aB h5;refine⟨rv,p,cap,hg,by simp[World.cell?,h4],by simp[World.cell?,h4],lA h2,fun j hj=>?_⟩;rcases h5.2 with ⟨e1,e2⟩ | ⟨b,cap',cur,e1,e2,e3,e4⟩
 · omega
 · have hp:p=some ⟨b,0,none⟩:=by injection e1
   obtain⟨a1,a2,a3,a4⟩:=zN os j hj;have hlt:=h5.lt b (by rw[e1];rfl);refine⟨b,hp,hlt.2,?_⟩;have hadd:∀ n,(⟨b,0,none⟩:Addr).add n=⟨b,n,none⟩:=fun n=>by rw[Addr.add_lit,Nat.zero_add]
   have hc:∀ n u,(fE os)[n]? = some u→W.cell? ⟨b,n,none⟩=some u:=fun n u hu=>by
    rw[←hadd];exact h5.cells (g:=b) (by rw[e1];rfl) _ _ hu
   exact⟨hc _ _ a1,hc _ _ a2,hc _ _ a3,hc _ _ a4⟩
def ZI (w:World)(v v':Value):Prop:=∀ k,v'.ownBlock=some k→v.ownBlock=some k∨w.heap.size≤k
def PPost (w:World)(g:Nat)(ov:Value)(rs:List Sx.Rl)(os:List cJ)(w':World):Prop:=∃ ov',PwAt w' g ov' rs os∧Ex (PE g ov) w w'∧ZI w ov ov'
theorem PPost.same {w w':World}{g:Nat}{ov:Value}{rs:List Sx.Rl}{os:List cJ}(h:PwAt w g ov rs os)(hb:Below w.heap.size w w'):PPost w g ov rs os w':=⟨ov,h.below hb,lE hb,fun _ h=>.inl h⟩
abbrev PK:=Value×cJ
def LX (x:PK):List Value:=[.bool (decide (x.2.1=none)),.string ⟨(bC x.2).toArray⟩,x.1,.int .i64 (bT x.2),.string ⟨x.2.2.toArray⟩]
def jN (d:List PK):List Value:=d.flatMap LX
theorem WC (a b:List PK):jN (a++b)=jN a++jN b:=by simp[jN]
theorem XM:∀ (l:List PK) (j:Nat) (h:j<l.length),(jN l)[j*5]? = some (.bool (decide (l[j].2.1=none)))∧(jN l)[j*5+1]? = some (.string ⟨(bC l[j].2).toArray⟩)∧(jN l)[j*5+2]? = some l[j].1∧(jN l)[j*5+3]? = some (.int .i64 (bT l[j].2))∧(jN l)[j*5+4]? = some (.string ⟨l[j].2.2.toArray⟩):=by
 intro l
 induction l with
 | nil=>intro j h;exact absurd h (Nat.not_lt_zero _)
 | cons x r ih =>
   intro j h;have e:jN (x::r)=.bool (decide (x.2.1=none))::Value.string ⟨(bC x.2).toArray⟩::x.1::Value.int .i64 (bT x.2)::Value.string ⟨x.2.2.toArray⟩::jN r:=rfl;cases j with
   | zero=>rw[e];exact⟨rfl,rfl,rfl,rfl,rfl⟩
   | succ j =>
     have:=ih j (by simpa using h);rw[e,show(j+1)*5=j*5+5 by omega];exact this
theorem DZ:∀ (l:List PK) (n:Nat) (h:n<l.length) (d:List UInt8),jN (l.set n (l[n].1,l[n].2.1,d))=(jN l).set (n*5+4) (.string ⟨d.toArray⟩)
 | x::r,0,_,d=>by
   simp[jN,LX,bC,bT]
 | x::r,n+1,h,d=>by
   have ih:=DZ r n (by simpa using h) d;have e:∀ y l,jN (y::l)=LX y++jN l:=fun _ _=>rfl;rw[List.set_cons_succ,List.getElem_cons_succ,e,e,ih];have hl:(LX x).length=5:=rfl;rw[show(n+1)*5+4=(LX x).length+(n*5+4) by rw[hl];omega,List.set_append_right _ _ (by omega)];congr 2;omega
def HoAt (W:World)(x:PK):Prop:=match x.2.1 with
 | none=>x.1=.slice none 0 0
 | some (_,H,_)=>W.ownsRow 0 9 1 x.1 H.length (bB H)
theorem HoAt.own {W W':World}{x:PK}(h:HoAt W x)(hk:∀ n v xs,W.ownsRow 0 9 1 v n xs→W'.ownsRow 0 9 1 v n xs):HoAt W' x:=by
 obtain⟨v,o,d⟩:=x;cases o with
 | none=>exact h
 | some t=>exact hk _ _ _ h
def DwAt (W:World)(g:Nat)(dv:Value)(rs:List Sx.Rl)(os:List cJ):Prop:=∃ (rv:Value) (q:List wZ) (d:List PK),q.map (·.2)=rs∧d.map (·.2)=os∧W.heap[g]? = some (.cells #[rv,dv] 225 (0,0))∧RlsAt W 0 rv q∧W.ownsRow (g+1) 228 5 dv d.length (jN d)∧∀ x∈d,HoAt W x
theorem DwAt.lt {W:World}{g:Nat}{dv:Value}{rs:List Sx.Rl}{os:List cJ}(h:DwAt W g dv rs os):g<W.heap.size:=by
 obtain⟨rv,q,d,-,-,h1,-⟩:=h;exact cF h1
theorem DwAt.ety {W:World}{g:Nat}{dv:Value}{rs:List Sx.Rl}{os:List cJ}(h:DwAt W g dv rs os):Ety 225 228 W (PE g dv):=by
 obtain⟨rv,q,d,-,-,h1,-,h3,-⟩:=h;exact wU h1 h3
theorem DwAt.ex {W W':World}{g:Nat}{dv:Value}{rs:List Sx.Rl}{os:List cJ}{E:Nat→Prop}{t1 t2:TypeId}(h:DwAt W g dv rs os)(hx:Ex E W W')(hn:∀ k,PE g dv k→¬ E k)(hE:Ety t1 t2 W E)(h1:218≠t1)(h2:218≠t2)(h3:9≠t1)(h4:9≠t2):DwAt W' g dv rs os:=by
 obtain⟨rv,q,d,a1,a2,a3,a4,a5,a6⟩:=h;exact⟨rv,q,d,a1,a2,(hx.block g (cF a3) (hn g (.inl rfl))).trans a3,⟨hE.own hx a4.row h1 h2,fun x hx'=>hE.own hx (a4.hosts x hx') h3 h4⟩,hx.own a5 (fun k hk=>hn k (.inr hk)),fun x hx'=>(a6 x hx').own (fun _ _ _ ho=>hE.own hx ho h3 h4)⟩
theorem DwAt.below {W W':World}{g:Nat}{dv:Value}{rs:List Sx.Rl}{os:List cJ}(h:DwAt W g dv rs os)(hb:Below W.heap.size W W'):DwAt W' g dv rs os:=by
 obtain⟨rv,q,d,a1,a2,a3,a4,a5,a6⟩:=h;exact⟨rv,q,d,a1,a2,(hb.block g (cF a3)).trans a3,a4.below hb,aD a5 hb,fun x hx'=>(a6 x hx').own (fun _ _ _ ho=>aD ho hb)⟩
def DPost (w:World)(g:Nat)(dv:Value)(rs:List Sx.Rl)(os:List cJ)(w':World):Prop:=∃ dv',DwAt w' g dv' rs os∧Ex (PE g dv) w w'∧ZI w dv dv'
theorem DPost.same {w w':World}{g:Nat}{dv:Value}{rs:List Sx.Rl}{os:List cJ}(h:DwAt w g dv rs os)(hb:Below w.heap.size w w'):DPost w g dv rs os w':=⟨dv,h.below hb,lE hb,fun _ h=>.inl h⟩
theorem PPost.back {w w1 w':World}{g:Nat}{ov:Value}{rs:List Sx.Rl}{os:List cJ}(hb:Below w.heap.size w w1)(h:PPost w1 g ov rs os w'):PPost w g ov rs os w':=by
 obtain⟨ov',h1,h2,h3⟩:=h;exact⟨ov',h1,(lE hb).trans h2 (fun _ _ h=>h),fun k hk=>(h3 k hk).imp id (fun h=>Nat.le_trans hb.size h)⟩
theorem DPost.back {w w1 w':World}{g:Nat}{dv:Value}{rs:List Sx.Rl}{os:List cJ}(hb:Below w.heap.size w w1)(h:DPost w1 g dv rs os w'):DPost w g dv rs os w':=by
 obtain⟨ov',h1,h2,h3⟩:=h;exact⟨ov',h1,(lE hb).trans h2 (fun _ _ h=>h),fun k hk=>(h3 k hk).imp id (fun h=>Nat.le_trans hb.size h)⟩
end Go.Proofs.YtgohllfpceeboabGreatDoor
