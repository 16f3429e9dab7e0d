import Derived.Test.YtgohllfpceeboabGreatDoorAnbe
import Derived.Test.YtgohllfpceeboabGreatDoorAnbf
import Derived.Test.YtgohllfpceeboabGreatDoorAnbg
namespace Go.Proofs.YtgohllfpceeboabGreatDoor
open Sx
theorem kN (a:UInt8)(r cur:List UInt8):bS (a::r) cur=if a=46 then cur::bS r [] else bS r (cur++[a]):=by conv=>lhs;unfold bS
theorem tZ:∀ (x y cur:List UInt8),bS (x++46::y) cur=bS x cur++bS y []
 | [],y,cur=>by simp[bS]
 | a::x,y,cur=>by
   rw[List.cons_append,kN,kN];split
   · rw[tZ x y []];rfl
   · exact tZ x y _
theorem pN:∀ (a t:List (List UInt8)),a≠[]→t≠[]→aA (a++t)=aA a++46::aA t
 | [],_,h,_=>absurd rfl h
 | [x],t,_,ht=>by
   cases t with
   | nil=>exact absurd rfl ht
   | cons y r=>simp[aA]
 | x::y::r,t,_,ht=>by
   have:=pN (y::r) t (by simp) ht;rw[List.cons_append,List.cons_append,cX,←List.cons_append,this,cX];simp
theorem WZ {h:List (List UInt8)}(hh:cD h):∀ x∈h,∀ b∈x,b≠46:=fun x hx b hb=>fJ ((hh.2.2.2 x hx).2 b hb)
theorem oD {h t:List (List UInt8)}(hh:cD h)(ht:cD t):(aA h=aA t)↔h=t :=
 ⟨fun e=>jQ h t hh.1 ht.1 (WZ hh) (WZ ht) e,fun e=>by rw[e]⟩
theorem AP:∀ (x cur:List UInt8),bS x cur≠[]
 | [],cur=>by simp[bS]
 | a::x,cur=>by
   unfold bS;split
   · simp
   · exact AP x _
theorem MZ {h t:List (List UInt8)}(hh:cD h)(ht:cD t):cR (aA h) (46::aA t)=true↔dE h t=true∧t.length<h.length:=by
 unfold cR dE;simp only[Bool.and_eq_true,decide_eq_true_eq,beq_iff_eq];constructor
 · rintro⟨h1,h2⟩;have e:aA h=(aA h).take ((aA h).length-(46::aA t).length)++46::aA t:=by
    conv=>lhs;rw[←List.take_append_drop ((aA h).length-(46::aA t).length) (aA h),h2]
   have e2:=fQ h hh.1 (WZ hh);rw[e,tZ,fQ t ht.1 (WZ ht)] at e2;obtain⟨a,ha⟩:∃ a,bS ((aA h).take ((aA h).length-(46::aA t).length)) []=a:=⟨_,rfl⟩
   have hne:=AP ((aA h).take ((aA h).length-(46::aA t).length)) [];rw[ha] at e2 hne;have hp:0<a.length:=List.length_pos_iff.2 hne;rw[←e2];simp only[List.length_append];refine⟨⟨by omega,?_⟩,by omega⟩;rw[show a.length+t.length-t.length=a.length by omega,List.drop_left]
 · rintro⟨⟨h1,h2⟩,h3⟩;have e:h=h.take (h.length-t.length)++t:=by
    conv=>lhs;rw[←List.take_append_drop (h.length-t.length) h,h2]
   have hne:h.take (h.length-t.length)≠[]:=by
    intro e0;have:=congrArg List.length e0;simp only[List.length_take,List.length_nil] at this;omega
   rw[e,pN _ t hne ht.1];simp only[List.length_append,List.length_cons];refine⟨by omega,?_⟩;rw[show(aA (h.take (h.length-t.length))).length+((aA t).length+1)-((aA t).length+1)=(aA (h.take (h.length-t.length))).length by omega,List.drop_left]
def FS (r:Rl)(p:List UInt8):Bool:=cR p (46::aA r.1) || (decide (p=aA r.1) && decide (r.2.1≠42))
def qF (r o:Rl):Bool:=if r.2.1≠o.2.1∧(r.2.1=33∨o.2.1=33) then decide (r.2.1=33) else if gJ r≠gJ o then decide (gJ r > gJ o) else decide (r.2.1=36)
def CB (p:List UInt8)(best r:Rl):Rl:=if (FS r p && qF r best)=true then r else best
def eR (rs:List Rl)(p:List UInt8):Rl:=rs.foldl (CB p) ([],42,45)
theorem S7 {h:List (List UInt8)}{r:Rl}(hh:cD h)(hr:mJ r):jV h r=if FS r (aA h)=true then some (r.1.length+if r.2.1=42 then 1 else 0) else none:=by
 have h1:=MZ hh hr.1;have h2:=oD hh hr.1;have hend:dE h r.1=true→(r.1.length<h.length∨h=r.1):=by
  unfold dE;simp only[Bool.and_eq_true,decide_eq_true_eq];rintro⟨a,b⟩;by_cases hl:r.1.length<h.length
  · exact Or.inl hl
  · right;rw[show h.length-r.1.length=0 by omega,List.drop_zero] at b;exact b
 have hself:h=r.1→dE h r.1=true:=by
  rintro rfl;simp[dE]
 unfold jV FS;simp only[Bool.or_eq_true,Bool.and_eq_true,decide_eq_true_eq];by_cases he:dE h r.1=true
 · rw[if_pos he];by_cases hk:r.2.1=42
   · rw[if_pos hk,if_pos hk];by_cases hl:r.1.length<h.length
     · rw[if_pos hl,if_pos (Or.inl (h1.2 ⟨he,hl⟩))]
     · rw[if_neg hl,if_neg];rintro(q | q)
       · exact hl (h1.1 q).2
       · exact q.2 hk
   · rw[if_neg hk,if_neg hk,if_pos]
     · rfl
     · rcases hend he with q | q
       · exact Or.inl (h1.2 ⟨he,q⟩)
       · exact Or.inr ⟨h2.2 q,hk⟩
 · rw[if_neg he,if_neg];rintro(q | q)
   · exact he (h1.1 q).1
   · exact he (hself (h2.1 q.1))
def Same (st:Option (Nat×Rl))(best:Rl):Prop:=match st with
 | none=>best=([],42,45)
 | some (n,r)=>best=r∧RlRt r∧n=r.1.length+if r.2.1=42 then 1 else 0
theorem RI {h:List (List UInt8)}(hh:cD h){st:Option (Nat×Rl)}{best r:Rl}(hr:RlRt r)(hs:Same st best):Same (eS h st r) (CB (aA h) best r):=by
 have hlen:0<r.1.length:=List.length_pos_iff.2 hr.ok.1.1;have hk:=hr.2.1;have hx:=hr.2.2.1;unfold eS CB;rw[S7 hh hr.ok];cases hf:FS r (aA h) with
 | false=>simpa using hs
 | true =>
   simp only[if_true,Bool.true_and];cases st with
   | none =>
     obtain rfl:best=([],42,45):=hs;have:qF r ([],42,45)=true:=by
      unfold qF gJ;rcases hk with e | e | e
      · simp only[e];by_cases h1:r.1.length=1
        · simp[h1]
        · simp;omega
      · simp only[e];simp;omega
      · simp[e]
     rw[if_pos this];exact⟨rfl,hr,rfl⟩
   | some x =>
     obtain⟨cnt,b⟩:=x;obtain⟨rfl,hb,rfl⟩:=hs;have hlb:0<best.1.length:=List.length_pos_iff.2 hb.ok.1.1;have hkb:=hb.2.1;simp only;have yes:qF r best=(decide (r.2.1=33∧(best.2.1≠33∨(best.1.length+if best.2.1=42 then 1 else 0)<(r.1.length+if r.2.1=42 then 1 else 0))) || decide (r.2.1≠33∧best.2.1≠33∧((best.1.length+if best.2.1=42 then 1 else 0)<(r.1.length+if r.2.1=42 then 1 else 0)∨((r.1.length+if r.2.1=42 then 1 else 0)=(best.1.length+if best.2.1=42 then 1 else 0)∧r.2.1=36)))):=by
      rw[Bool.eq_iff_iff];unfold qF gJ;rcases hk with e | e | e <;> rcases hkb with e' | e' | e' <;> simp only[e,e'] <;> simp <;> (try split) <;> (try simp) <;> (try omega)
     rw[yes];by_cases c1:r.2.1=33∧(best.2.1≠33∨(best.1.length+if best.2.1=42 then 1 else 0)<(r.1.length+if r.2.1=42 then 1 else 0))
     · rw[if_pos c1,decide_eq_true c1,Bool.true_or,if_pos rfl];exact⟨rfl,hr,rfl⟩
     · rw[if_neg c1,decide_eq_false c1,Bool.false_or];by_cases c2:r.2.1≠33∧best.2.1≠33∧((best.1.length+if best.2.1=42 then 1 else 0)<(r.1.length+if r.2.1=42 then 1 else 0)∨((r.1.length+if r.2.1=42 then 1 else 0)=(best.1.length+if best.2.1=42 then 1 else 0)∧r.2.1=36))
       · rw[if_pos c2,if_pos (decide_eq_true c2)];exact⟨rfl,hr,rfl⟩
       · rw[if_neg c2,decide_eq_false c2];exact⟨rfl,hb,rfl⟩
theorem IB {h:List (List UInt8)}(hh:cD h):∀ (rs:List Rl) (st:Option (Nat×Rl)) (best:Rl),(∀ r∈rs,RlRt r)→Same st best→Same (rs.foldl (eS h) st) (rs.foldl (CB (aA h)) best)
 | [],_,_,_,hs=>hs
 | r::rs,st,best,hr,hs=>IB hh rs _ _ (fun q hq=>hr q (by simp[hq])) (RI hh (hr r (by simp)) hs)
theorem kW {h:List (List UInt8)}(hh:cD h){rs:List Rl}(hr:∀ r∈rs,RlRt r):gJ (eR rs (aA h))=((cL h rs).1:Int)∧(eR rs (aA h)).2.2=(cL h rs).2∧1≤(cL h rs).1:=by
 have:=IB hh rs none ([],42,45) hr rfl;unfold eR cL dB;cases hb:rs.foldl (eS h) none with
 | none =>
   rw[hb] at this;have e:rs.foldl (CB (aA h)) ([],42,45)=([],42,45):=this;rw[e];exact⟨rfl,rfl,Nat.le_refl _⟩
 | some x =>
   obtain⟨n,r⟩:=x;rw[hb] at this;obtain⟨e,hr,rfl⟩:=this;have hlen:0<r.1.length:=List.length_pos_iff.2 hr.ok.1.1;rw[e];unfold gJ;simp only;refine⟨?_,trivial,?_⟩
   · rcases hr.2.1 with k | k | k
     · simp[k]
     · simp[k]
     · have:=hr.2.2.1 k;simp[k];omega
   · rcases hr.2.1 with k | k | k
     · simp[k];omega
     · simp[k]
     · have:=hr.2.2.1 k;simp[k];omega
theorem EM (h:List (List UInt8)):∀ (rs:List Rl) (st:Option (Nat×Rl)),(∀ x,st=some x→x.1≤h.length)→∀ x,rs.foldl (eS h) st=some x→x.1≤h.length
 | [],_,hs=>hs
 | r::rs,st,hs=>EM h rs _ (by
   intro x hx;have hfit:∀ n,jV h r=some n→n≤h.length:=by
    intro n hn;unfold jV dE at hn;split at hn
    · rename_i he;simp only[Bool.and_eq_true,decide_eq_true_eq] at he;split at hn
      · split at hn
        · obtain rfl:=Option.some.inj hn;omega
        · cases hn
      · obtain rfl:=Option.some.inj hn;exact he.1
    · cases hn
   unfold eS at hx;cases hf:jV h r with
   | none=>rw[hf] at hx;exact hs x hx
   | some n =>
     rw[hf] at hx;have hn:=hfit n hf;cases st with
     | none=>simp only[Option.some.injEq] at hx;subst hx;exact hn
     | some y =>
       obtain⟨c,b⟩:=y;simp only at hx;have hc:=hs (c,b) rfl;split at hx
       · obtain rfl:=Option.some.inj hx;exact hn
       · split at hx
         · obtain rfl:=Option.some.inj hx;exact hn
         · obtain rfl:=Option.some.inj hx;exact hc)
theorem nG {h:List (List UInt8)}(hn:h≠[])(rs:List Rl):(cL h rs).1≤h.length:=by
 have hp:0<h.length:=List.length_pos_iff.2 hn;unfold cL;have:=EM h rs none (by simp);unfold dB;cases hb:rs.foldl (eS h) none with
 | none=>simp only;omega
 | some x =>
   obtain⟨n,r⟩:=x;have:=this _ hb;simp only at this ⊢;split <;> omega
def cY (p:List UInt8)(n:Int):List UInt8:=if 1≤n∧n≤(fK p).length then aA ((fK p).take n.toNat).reverse else []
theorem EL {h:List (List UInt8)}(hh:cD h):fK (aA h)=h.reverse:=by
 have:=wQ (aA h);rw[fQ h hh.1 (WZ hh)] at this;have h2:=congrArg List.reverse this
 rwa [List.reverse_reverse] at h2
theorem mN {h:List (List UInt8)}(hh:cD h)(n:Nat)(hn:1≤n):cY (aA h) n=if n≤h.length then aA (h.drop (h.length-n)) else []:=by
 unfold cY;rw[EL hh,List.length_reverse];by_cases h1:n≤h.length
 · rw[if_pos h1,if_pos (by omega)];congr 1;rw[Int.toNat_natCast,List.take_reverse,List.reverse_reverse]
 · rw[if_neg h1,if_neg (by omega)]
def dP (rs:List Rl)(s:UInt8):List (List UInt8):=(rs.filter fun r=>decide (r.2.2=s)).map bG
def joinL (ls:List (List UInt8)):List UInt8:=ls.flatMap (· ++ [10])
def BK (rs:List Rl):List UInt8:=joinL (dP rs 105)++if dP rs 112=[] then [] else joinL ([61,61,61,112]::dP rs 112)
def I3 (b:List UInt8):List UInt8×Int:=if (eW b).2=0 then (BK (eW b).1,0) else ([],(eW b).2)
def Z2 (rs:List Rl)(p:List UInt8):List UInt8×List UInt8×List UInt8×Int:=(cY p (gJ (eR rs p)),cY p (gJ (eR rs p)+1),[(eR rs p).2.2],0)
def GH (b s:List UInt8):List UInt8×List UInt8×List UInt8×Int :=
 if (eW b).2=0 then (if (aI s).2=0 then Z2 (eW b).1 (aA (aI s).1) else ([],[],[],(aI s).2)) else ([],[],[],(eW b).2)
theorem SG {line:List UInt8}{sec:UInt8}{r:Rl}(hs:sec=105∨sec=112)(h:cN line sec=some r):RlRt r:=by
 unfold cN at h;split at h
 · rename_i hc;obtain rfl:=Option.some.inj h;exact⟨tP hc.1,GK line,hc.2,hs⟩
 · cases h
theorem YA {rs:List Rl}{sec:UInt8}{line:List UInt8}(hs:sec=105∨sec=112)(h:RlsRt rs):RlsRt (aU rs sec line).1.1∧((aU rs sec line).1.2=105∨(aU rs sec line).1.2=112):=by
 unfold aU;split
 · exact⟨h,hs⟩
 · split
   · exact⟨h,Or.inl rfl⟩
   · split
     · exact⟨h,Or.inr rfl⟩
     · cases hr:cN line sec with
       | none=>exact⟨h,hs⟩
       | some r =>
         have:=CZ h (SG hs hr);unfold cG at this;simp only;split
         · exact⟨h,hs⟩
         · rename_i h1;rw[if_neg h1] at this;split
           · exact⟨h,hs⟩
           · rename_i h2;rw[if_neg h2] at this;exact⟨this,hs⟩
theorem sD:∀ (l:List (List UInt8)) (rs:List Rl) (sec:UInt8) (n:Int),(sec=105∨sec=112)→RlsRt rs→RlsRt (bM l rs sec n).1
 | [],_,_,_,_,h=>h
 | x::r,rs,sec,n,hs,h=>by
   unfold bM;obtain⟨a,b⟩:=YA (line:=x) hs h;split
   · exact sD r _ _ _ b a
   · exact h
theorem rT:∀ (l:List (List UInt8)) (rs:List Rl) (n:Int),RlsRt rs→RlsRt (aQ l rs n).1
 | [],_,_,h=>h
 | s::r,rs,n,h=>by
   unfold aQ;split
   · exact rT r _ _ (sD _ _ _ _ (Or.inl rfl) h)
   · exact sD _ _ _ _ (Or.inl rfl) h
end Go.Proofs.YtgohllfpceeboabGreatDoor
namespace Sx
def qW (tab:List (List aT)):Nat:=(tab.map List.length).sum
theorem VM (a b:List (List aT)):qW (a++b)=qW a+qW b:=by simp[qW]
theorem uL:∀ (n:Nat) (tab:List (List aT)) (l:List Wd),kB n l→qW (bU n tab l).1≤qW tab+sl l
 | 0,_,_,h=>absurd h (by simp[kB])
 | n+1,tab,l,ho=>by
   have fold:∀ (gs:List (UInt8×List Wd)) (tab:List (List aT)) (es0:List aT),(∀ g∈gs,kB n g.2) →
    qW (gs.foldl (bN n) (tab,es0)).1+(gs.foldl (bN n) (tab,es0)).2.length≤qW tab+es0.length+(gs.map fun g=>sl g.2+1).sum:=by
    intro gs
    induction gs with
    | nil=>intro tab es0 _;simp
    | cons g gs ih =>
      intro tab es0 hg;have a:=uL n tab g.2 (hg g (by simp));have b:=ih (bU n tab g.2).1 (es0++[(g.1,(bU n tab g.2).2)]) (fun y hy=>hg y (by simp[hy]));rw[List.foldl_cons,show bN n (tab,es0) g=((bU n tab g.2).1,es0++[(g.1,(bU n tab g.2).2)]) from rfl];simp only[List.map_cons,List.sum_cons];rw[List.length_append,List.length_singleton] at b;omega
   have f:=fold (grp l) tab [] ho.2;have hs:=vP ho;rw[fA];generalize (grp l).foldl (bN n) (tab,[])=r at f;rw[List.length_nil] at f;cases hp:bH r.2 r.1 with
   | some i=>simp only;omega
   | none =>
     simp only;rw[VM,show qW [r.2]=r.2.length by simp[qW]];omega
theorem VK (tab:List (List aT)):(eH tab).length=2+tab.length+3*qW tab:=by
 have h1:∀ es:List aT,(es.flatMap fun e=>e.1::two e.2).length=3*es.length:=by
  intro es
  induction es with
  | nil=>rfl
  | cons e es ih=>rw[List.flatMap_cons,List.length_append,ih];simp[two];omega
 have h2:∀ t:List (List aT),(t.flatMap bO).length=t.length+3*qW t:=by
  intro t
  induction t with
  | nil=>rfl
  | cons es t ih =>
    rw[List.flatMap_cons,List.length_append,ih];unfold bO;rw[List.length_cons,h1];simp[qW];omega
 unfold eH;rw[List.length_append,h2];simp[two];omega
theorem u9 {rs:List Rl}(h:RlsOk rs):(eH (aW rs)).length≤8000:=by
 by_cases h0:rs=[]
 · subst h0;decide
 · have hk:=(nV h h0).1;have hso:=iJ _ (eT (kU h.ok h.apart));have hlen:(aR (rs.map aL)).length=rs.length:=by
    have:=lU (rs.map aL) [];unfold aR;rw[this,List.length_map];rfl
   have hs:=XW (aR (rs.map aL)) 63 (fun x hx=>by
    obtain⟨r,hr,rfl⟩:=List.mem_map.1 ((hso.2 x).1 hx);have:=jC (h.ok r hr);omega)
   have hm:=h.many;rw[hlen] at hs;have h2:rs.length*63≤30*63:=Nat.mul_le_mul_right _ hm;have htab:aW rs=(bU 64 [] (aR (rs.map aL))).1:=by unfold aW;rw[if_neg h0]
   have e1:=uL 64 [] _ hk;have e2:=(gC 64 [] _ hk (by simp)).2.1;rw[VK,htab];simp only[qW,List.map_nil,List.sum_nil,List.length_nil] at e1 e2 ⊢;omega
theorem pW {h:List (List UInt8)}(hh:cD h):(aA h).length≤60:=by
 have h1:=hh.2.2.1;obtain⟨x,t,rfl⟩:=List.exists_cons_of_ne_nil hh.1;have:∀ q:List (List UInt8),(q.flatMap fun y=>46::y).length=aM q:=by
  intro q
  induction q with
  | nil=>rfl
  | cons a q ih=>simp only[List.flatMap_cons,List.length_append,ih,aM,List.map_cons,List.sum_cons,List.length_cons]
 simp only[aA,List.length_append,this];simp only[aM,List.map_cons,List.sum_cons] at h1;simp only[aM];omega
theorem sU {h:List (List UInt8)}(hh:cD h):∃ b r,aA h=b::r∧pF b:=by
 obtain⟨x,t,rfl⟩:=List.exists_cons_of_ne_nil hh.1;obtain⟨hx,hb⟩:=hh.2.2.2 x (by simp);obtain⟨b,r,rfl⟩:=List.exists_cons_of_ne_nil hx;exact⟨b,r++t.flatMap fun y=>46::y,rfl,hb b (by simp)⟩
theorem XV {r:Rl}(h:mJ r):dV (bG r)=(r.2.1,aA r.1):=by
 obtain⟨H,k,s⟩:=r;obtain⟨b,q,hd,hb⟩:=sU h.1;dsimp only at hd;unfold dV bG;rcases h.2 with e | e | e
 · dsimp only at e;subst e;simp only[hd];unfold pF at hb;rw[if_neg,if_neg]
   · rfl
   · rintro e;simp at e;subst e;simp at hb
   · rintro e;simp at e;rw[e.1] at hb;simp at hb
 · dsimp only at e;subst e;simp
 · dsimp only at e;subst e;simp
theorem QH {r:Rl}(h:RlRt r):cN (bG r) r.2.2=some r:=by
 unfold cN;rw[XV h.ok,h.1];simp only;rw[if_pos ⟨trivial,h.2.2.1⟩]
theorem xZ {r:Rl}(h:mJ r):∃ b q,bG r=b::q∧(pF b∨b=42∨b=33):=by
 obtain⟨H,k,s⟩:=r;obtain⟨b,q,hd,hb⟩:=sU h.1;dsimp only at hd;unfold bG;rcases h.2 with e | e | e
 · dsimp only at e;subst e;exact⟨b,q,by simp[hd],Or.inl hb⟩
 · dsimp only at e;subst e;exact⟨42,_,by simp;rfl,Or.inr (Or.inl rfl)⟩
 · dsimp only at e;subst e;exact⟨33,_,by simp;rfl,Or.inr (Or.inr rfl)⟩
theorem LO {rs:List Rl}{r:Rl}(h:RlsRt (rs++[r])):aU rs r.2.2 (bG r)=((rs++[r],r.2.2),0):=by
 have hr:RlRt r:=h.ok r (by simp);obtain⟨b,q,hd,hb⟩:=xZ hr.ok;have hb2:b≠47∧b≠61:=by
  unfold pF at hb;constructor
  · rintro rfl;simp at hb
  · rintro rfl;simp at hb
 unfold aU;rw[if_neg,if_neg,if_neg,QH hr]
 · simp only;rw[if_neg,if_neg]
   · have:=h.many;simp only[List.length_append,List.length_singleton] at this;omega
   · intro hk;obtain⟨q,hq,e⟩:=(kT (fun q hq=>(h.ok q (by simp[hq])).ok) hr.ok).1 hk;exact(List.pairwise_append.1 h.apart).2.2 q hq r (by simp) e
 · rw[hd];intro e;injection e with e _;exact hb2.2 e
 · rw[hd];intro e;injection e with e _;exact hb2.2 e
 · rw[hd];rintro(e | e)
   · cases e
   · cases q with
     | nil=>simp at e
     | cons c q=>simp at e;exact hb2.1 e.1
theorem sY:∀ (x r cur:List UInt8),(10:UInt8) ∉ x→dH (x++10::r) cur=(cur++x)::bJ r
 | [],r,cur,_=>by simp[dH,bJ]
 | b::x,r,cur,h=>by
   have hb:b≠10:=fun e=>h (by simp[e]);have ih:=sY x r (cur++[b]) (fun e=>h (by simp[e]));rw[List.cons_append]
   conv=>lhs;unfold dH
   rw[if_neg hb,ih];simp
theorem RY {r:Rl}(h:mJ r):(10:UInt8) ∉ bG r:=by
 intro hm;unfold bG at hm;rcases List.mem_append.1 hm with hm | hm
 · repeat' split at hm
   all_goals simp at hm
 · rcases gG (fun x hx=>(h.1.2.2.2 x hx).2) 10 hm with q | q
   · unfold pF at q;simp at q
   · cases q
end Sx
namespace Go.Proofs.YtgohllfpceeboabGreatDoor
open Sx
end Go.Proofs.YtgohllfpceeboabGreatDoor
namespace Sx
end Sx
namespace Sx
theorem VV {s:List UInt8}(h:(aI s).2≠0):(aI s).1=[]:=by
 unfold aI at h ⊢;split
 · rfl
 · rename_i hc;rw[if_neg hc] at h;cases hl:aF s with
   | none=>rfl
   | some l =>
     rw[hl] at h;simp only at h ⊢;cases hg:bD l [] with
     | none=>rfl
     | some H =>
       rw[hg] at h;simp only at h ⊢;unfold iD at h ⊢;split
       · rfl
       · rename_i hc;rw[if_neg hc] at h;simp at h
theorem KO (s:List UInt8)(h:(dU s).2≠0):(dU s).1=[]∧(iN s).1=[]:=by
 have h0:=VV (s:=s) h;exact⟨by unfold dU;rw[h0];rfl,by unfold iN;rw[h0];rfl⟩
end Sx
namespace Sx
def rank (n:Nat)(r:Rl):Nat:=(if r.2.1=33 then 1000000 else 0)+2*n+(if r.2.1=36 then 1 else 0)
theorem tK {h:List (List UInt8)}{r:Rl}{n:Nat}(hf:jV h r=some n):dE h r.1=true∧n=r.1.length+(if r.2.1=42 then 1 else 0)∧n≤h.length:=by
 unfold jV at hf;split at hf
 · rename_i he;have he':=he;unfold dE at he';simp only[Bool.and_eq_true,decide_eq_true_eq] at he';split at hf
   · rename_i hk;split at hf
     · obtain rfl:=Option.some.inj hf;exact⟨he,by rw[if_pos hk],by omega⟩
     · cases hf
   · rename_i hk;obtain rfl:=Option.some.inj hf;exact⟨he,by rw[if_neg hk];rfl,he'.1⟩
 · cases hf
theorem A5 {h a b:List (List UInt8)}(ha:dE h a=true)(hb:dE h b=true)(hl:a.length=b.length):a=b:=by
 unfold dE at ha hb;simp only[Bool.and_eq_true,decide_eq_true_eq] at ha hb;rw[←ha.2,←hb.2,hl]
theorem YT {h:List (List UInt8)}{a b:Rl}{n m:Nat}(hh:h.length≤1000)(ka:lM a.2.1)(kb:lM b.2.1)(fa:jV h a=some n)(fb:jV h b=some m)(e:rank n a=rank m b):a.1=b.1∧a.2.1=b.2.1:=by
 obtain⟨a1,a2,a3⟩:=tK fa;obtain⟨b1,b2,b3⟩:=tK fb;unfold rank at e;rcases ka with k | k | k <;> rcases kb with l | l | l <;> simp[k,l] at e a2 b2 ⊢
 all_goals first | omega | exact A5 a1 b1 (by omega)
structure BestIs (h:List (List UInt8)) (rs:List Rl) (st:Option (Nat×Rl)):Prop where
 none:st=none→∀ r∈rs,jV h r=none
 some:∀ n r,st=some (n,r)→r∈rs∧jV h r=some n∧∀ q∈rs,∀ m,jV h q=some m→rank m q≤rank n r
theorem UR {h:List (List UInt8)}{rs:List Rl}{st:Option (Nat×Rl)}{r:Rl}(hh:h.length≤1000)(hk:lM r.2.1)(hks:∀ q∈rs,lM q.2.1)(hb:BestIs h rs st):BestIs h (rs++[r]) (eS h st r):=by
 unfold eS;cases hf:jV h r with
 | none =>
   refine⟨fun e q hq=>?_,fun n b e=>?_⟩
   · rcases List.mem_append.1 hq with hq | hq
     · exact hb.none e q hq
     · rw[List.mem_singleton.1 hq];exact hf
   · obtain⟨c1,c2,c3⟩:=hb.some n b e;refine⟨by simp[c1],c2,fun q hq m hm=>?_⟩;rcases List.mem_append.1 hq with hq | hq
     · exact c3 q hq m hm
     · rw[List.mem_singleton.1 hq,hf] at hm;cases hm
 | some n =>
   simp only;obtain⟨f1,f2,f3⟩:=tK hf;cases st with
   | none =>
     refine⟨fun e=>by simp at e,fun n' b e=>?_⟩;simp only[Option.some.injEq,Prod.mk.injEq] at e;obtain⟨rfl,rfl⟩:=e;refine⟨by simp,hf,fun q hq m hm=>?_⟩;rcases List.mem_append.1 hq with hq | hq
     · rw[hb.none rfl q hq] at hm;cases hm
     · rw[List.mem_singleton.1 hq,hf] at hm;rw[List.mem_singleton.1 hq,Option.some.inj hm];exact Nat.le_refl _
   | some x =>
     obtain⟨c,b⟩:=x;obtain⟨c1,c2,c3⟩:=hb.some c b rfl;obtain⟨g1,g2,g3⟩:=tK c2;have hkb:=hks b c1;simp only;have take:rank c b≤rank n r→BestIs h (rs++[r]) (some (n,r)):=fun hle=>by
      refine⟨fun e=>by simp at e,fun n' b' e=>?_⟩;simp only[Option.some.injEq,Prod.mk.injEq] at e;obtain⟨rfl,rfl⟩:=e;refine⟨by simp,hf,fun q hq m hm=>?_⟩;rcases List.mem_append.1 hq with hq | hq
      · exact Nat.le_trans (c3 q hq m hm) hle
      · rw[List.mem_singleton.1 hq,hf] at hm;rw[List.mem_singleton.1 hq,Option.some.inj hm];exact Nat.le_refl _
     have keep:rank n r≤rank c b→BestIs h (rs++[r]) (some (c,b)):=fun hle=>by
      refine⟨fun e=>by simp at e,fun n' b' e=>?_⟩;simp only[Option.some.injEq,Prod.mk.injEq] at e;obtain⟨rfl,rfl⟩:=e;refine⟨by simp[c1],c2,fun q hq m hm=>?_⟩;rcases List.mem_append.1 hq with hq | hq
      · exact c3 q hq m hm
      · rw[List.mem_singleton.1 hq,hf] at hm;rw[List.mem_singleton.1 hq,←Option.some.inj hm];exact hle
     split
     · rename_i hc;refine take ?_;unfold rank;rcases hk with k | k | k <;> rcases hkb with l | l | l <;> simp[k,l] at hc ⊢ <;> omega
     · rename_i hc;split
       · rename_i hd;refine take ?_;unfold rank;rcases hk with k | k | k <;> rcases hkb with l | l | l <;> simp[k,l] at hc hd ⊢ <;> omega
       · rename_i hd;refine keep ?_;unfold rank;rcases hk with k | k | k <;> rcases hkb with l | l | l <;> simp[k,l] at hc hd ⊢ <;> omega
theorem xW {h:List (List UInt8)}(hh:h.length≤1000):∀ (rest done:List Rl) (st:Option (Nat×Rl)),(∀ r∈done++rest,lM r.2.1)→BestIs h done st→BestIs h (done++rest) (rest.foldl (eS h) st)
 | [],done,st,_,hb=>by simpa using hb
 | r::rest,done,st,hk,hb=>by
   have:=xW hh rest (done++[r]) (eS h st r) (by simpa using hk) (UR hh (hk r (by simp)) (fun q hq=>hk q (by simp[hq])) hb)
   simpa using this
theorem OD {h:List (List UInt8)}(hh:h.length≤1000){rs:List Rl}(hk:∀ r∈rs,lM r.2.1):BestIs h rs (dB h rs):=by
 have:=xW hh rs [] none (by simpa using hk) ⟨fun _ r hr=>by simp at hr,fun _ _ e=>by simp at e⟩;unfold dB
 simpa using this
def Apart (rs:List Rl):Prop:=∀ a∈rs,∀ b∈rs,a.1=b.1→a.2.1=b.2.1→a=b
theorem XI {rs:List Rl}(h:rs.Pairwise fun a b=>¬ (a.1=b.1∧a.2.1=b.2.1)):Apart rs:=by
 induction rs with
 | nil=>intro a ha;simp at ha
 | cons r rs ih =>
   obtain⟨h1,h2⟩:=List.pairwise_cons.1 h;intro a ha b hb e1 e2;rcases List.mem_cons.1 ha with ea | ha' <;> rcases List.mem_cons.1 hb with eb | hb'
   · rw[ea,eb]
   · rw[ea] at e1 e2;exact absurd ⟨e1,e2⟩ (h1 b hb')
   · rw[eb] at e1 e2;exact absurd ⟨e1.symm,e2.symm⟩ (h1 a ha')
   · exact ih h2 a ha' b hb' e1 e2
theorem YG {h g:List (List UInt8)}{rs qs:List Rl}{st su:Option (Nat×Rl)}(hh:h.length≤1000)(hk:∀ r∈rs,lM r.2.1)(ha:Apart rs)(hb:BestIs h rs st)(hc:BestIs g qs su)(hsub:∀ r∈qs,∀ n,jV g r=some n→r∈rs∧jV h r=some n)(hin:∀ n r,st=some (n,r)→r∈qs∧jV g r=some n):st=su:=by
 cases st with
 | none =>
   cases su with
   | none=>rfl
   | some y =>
     obtain⟨m,q⟩:=y;obtain⟨d1,d2,_⟩:=hc.some m q rfl;obtain⟨e1,e2⟩:=hsub q d1 m d2;rw[hb.none rfl q e1] at e2;cases e2
 | some x =>
   obtain⟨n,r⟩:=x;obtain⟨i1,i2⟩:=hin n r rfl;obtain⟨c1,c2,c3⟩:=hb.some n r rfl;cases su with
   | none=>rw[hc.none rfl r i1] at i2;cases i2
   | some y =>
     obtain⟨m,q⟩:=y;obtain⟨d1,d2,d3⟩:=hc.some m q rfl;obtain⟨e1,e2⟩:=hsub q d1 m d2;have h1:=d3 r i1 n i2;have h2:=c3 q e1 m e2;obtain⟨g1,g2⟩:=YT hh (hk r c1) (hk q e1) c2 e2 (by omega);have:r=q:=ha r c1 q e1 g1 g2;subst this;rw[c2] at e2;rw[Option.some.inj e2]
theorem EQ {h:List (List UInt8)}(hh:h.length≤1000){rs qs:List Rl}(hk:∀ r∈rs,lM r.2.1)(ha:Apart rs)(hp:qs.Perm rs):dB h qs=dB h rs:=by
 have h1:=OD hh hk;have h2:=OD (rs:=qs) hh (fun r hr=>hk r (hp.mem_iff.1 hr));refine(YG hh hk ha h1 h2 (fun r hr n hn=>⟨hp.mem_iff.1 hr,hn⟩) (fun n r e=>?_)).symm;obtain⟨c1,c2,_⟩:=h1.some n r e;exact⟨hp.mem_iff.2 c1,c2⟩
theorem OQ {h:List (List UInt8)}(hh:h.length≤1000){rs qs:List Rl}(hk:∀ r∈rs,lM r.2.1)(ha:Apart rs)(hp:qs.Perm rs):cL h qs=cL h rs:=by
 unfold cL;rw[EQ hh hk ha hp]
end Sx
namespace Sx
end Sx
namespace Sx
theorem NI (M:Nat):∀ (q:List (List UInt8)),(∀ x∈q,x.length≤M)→(aA q).length≤q.length*(M+1)
 | [],_=>by simp[aA]
 | [x],h=>by have:=h x (by simp);simp[aA];omega
 | x::y::r,h=>by
   have h1:=h x (by simp);have h2:=NI M (y::r) (fun z hz=>h z (by simp[hz]));rw[cX,List.length_append,List.length_cons];simp only[List.length_cons] at h2 ⊢;rw[Nat.succ_mul];omega
end Sx
namespace Sx
theorem wI {x:List UInt8}{r:List (List UInt8)}{rs rs':List Rl}{sec sec':UInt8}{n:Int}(h:aU rs sec x=((rs',sec'),0)):bM (x::r) rs sec n=bM r rs' sec' (n+1):=by
 conv=>lhs;unfold bM
 rw[h];simp
theorem CY {x r:List UInt8}(h:(10:UInt8) ∉ x):bJ (x++10::r)=x::bJ r:=by
 show dH _ []=_;rw[sY x r [] h];simp
theorem EH {x:List UInt8}(h:(10:UInt8) ∉ x)(h0:x≠[]):bJ x=[x]:=by
 have:∀ (x cur:List UInt8),(10:UInt8) ∉ x→dH x cur=if cur++x=[] then [] else [cur++x]:=by
  intro x
  induction x with
  | nil=>intro cur _;simp[dH]
  | cons b x ih =>
    intro cur h;have hb:b≠10:=fun e=>h (by simp[e])
    conv=>lhs;unfold dH
    rw[if_neg hb,ih (cur++[b]) (fun e=>h (by simp[e]))];simp
 show dH x []=_;rw[this x [] h];simp[h0]
theorem RlsRt.cut {a b:List Rl}(h:RlsRt (a++b)):RlsRt a:=⟨fun r hr=>h.ok r (by simp[hr]),(List.pairwise_append.1 h.apart).1,by have:=h.many;rw[List.length_append] at this;omega⟩
end Sx
namespace Sx
open Go.Proofs.YtgohllfpceeboabGreatDoor (cR)
theorem wO (a b:List UInt8)(i:Nat):(a++b).getD (a.length+i) 0=b.getD i 0:=by
 rw[List.getD_eq_getElem?_getD,List.getD_eq_getElem?_getD,List.getElem?_append_right (by omega)];congr 2;omega
end Sx
namespace Go.Proofs.YtgohllfpceeboabGreatDoor
open Sx
def jX:Nat→List (List aT)→Nat→List UInt8→List Wd→List Wd
 | 0,_,_,_,ks=>ks
 | f+1,tab,s,ahead,ks=>if s=0 then ks++[ahead] else
   ((tab[s]?).getD []).foldl (fun acc e=>if acc.length≤30 then jX f tab e.2 (ahead++[e.1]) acc else acc) ks
theorem yL (f:Nat)(tab:List (List aT))(s:Nat)(ahead:List UInt8)(ks:List Wd)(es:List aT)(h0:s≠0)(h:tab[s]? = some es):jX (f+1) tab s ahead ks=es.foldl (fun acc e=>if acc.length≤30 then jX f tab e.2 (ahead++[e.1]) acc else acc) ks:=by
 have e:jX (f+1) tab s ahead ks=if s=0 then ks++[ahead] else ((tab[s]?).getD []).foldl (fun acc e=>if acc.length≤30 then jX f tab e.2 (ahead++[e.1]) acc else acc) ks:=rfl
 rw[e,if_neg h0,h];rfl
theorem uR {tab:List (List aT)}(ho:cO tab):∀ (n m s:Nat) (ahead:List UInt8) (ks:List Wd),s<tab.length→s<n→s<m→ks.length≤30→jX n tab s ahead ks=ks++((mB m tab s).map (ahead ++ ·)).take (31-ks.length)
 | 0,_,_,_,_,_,h,_,_=>absurd h (by omega)
 | n+1,0,_,_,_,_,_,h,_=>absurd h (by omega)
 | n+1,m+1,s,ahead,ks,hs,hn,hm,hk=>by
   obtain⟨es,hes⟩:∃ es,tab[s]? = some es:=⟨_,List.getElem?_eq_getElem hs⟩
   obtain⟨o1,o2⟩:=ho s es hes;by_cases h0:s=0
   · have e:jX (n+1) tab s ahead ks=if s=0 then ks++[ahead] else ((tab[s]?).getD []).foldl (fun acc e=>if acc.length≤30 then jX n tab e.2 (ahead++[e.1]) acc else acc) ks:=rfl
     rw[e,if_pos h0,FG (by rw[hes,o1.2 h0])];simp only[List.map_cons,List.map_nil,List.append_nil];rw[List.take_of_length_le (by simp;omega)]
   · rw[yL n tab s ahead ks es h0 hes,DO hes (fun e=>h0 (o1.1 e))];have:∀ (l:List aT) (acc:List Wd),(∀ e∈l,e.2<s)→acc.length≤31→l.foldl (fun acc e=>if acc.length≤30 then jX n tab e.2 (ahead++[e.1]) acc else acc) acc=acc++((l.flatMap fun e=>(mB m tab e.2).map (e.1 :: ·)).map (ahead ++ ·)).take (31-acc.length):=by
      intro l
      induction l with
      | nil=>intro acc _ _;simp
      | cons e l ih =>
        intro acc hl ha;have hes:=hl e (by simp);rw[List.foldl_cons,List.flatMap_cons,List.map_append,List.take_append];have hone:(if acc.length≤30 then jX n tab e.2 (ahead++[e.1]) acc else acc)=acc++(((mB m tab e.2).map (e.1 :: ·)).map (ahead ++ ·)).take (31-acc.length):=by
         by_cases h30:acc.length≤30
         · rw[if_pos h30,uR ho n m e.2 (ahead++[e.1]) acc (by omega) (by omega) (by omega) h30,List.map_map];congr 2;apply List.map_congr_left;intro w _;simp
         · rw[if_neg h30,show 31-acc.length=0 by omega];simp
        rw[hone,ih _ (fun x hx=>hl x (by simp[hx])) (by rw[List.length_append,List.length_take];omega)];rw[List.append_assoc];congr 2;rw[List.length_append,List.length_take];congr 1;omega
     exact this es ks o2 (by omega)
def iP (tab:List (List aT)):List Wd:=if tab=[] then [] else jX tab.length tab (tab.length-1) [] []
theorem XN {tab:List (List aT)}(ho:cO tab)(h0:tab≠[])(k:Nat)(hk:tab.length≤k):iP tab=(mB k tab (tab.length-1)).take 31:=by
 have hp:0<tab.length:=List.length_pos_iff.2 h0;unfold iP;rw[if_neg h0,uR ho tab.length k (tab.length-1) [] [] (by omega) (by omega) (by omega) (by simp)];simp
def cC (k:Wd):Rl:=((bS (k.take (k.length-2)) []).reverse,k.getD (k.length-2) 0,k.getD (k.length-1) 0)
def fG (r:Rl):List UInt8:=[61,61,61,r.2.2,10]++bG r
def nY (acc:Option (List Rl))(x:List UInt8):Option (List Rl):=match acc with
 | none=>none
 | some rs=>if 2000<x.length then none else match aQ [x] [] 0 with
   | ([r],m,_)=>if m=0 then (if known rs r then none else some (rs++[r])) else none
   | _=>none
def kE (b:List UInt8):List Rl×Int:=if 8000<b.length then ([],1) else match cH b with
 | none=>([],6)
 | some tab=>if 30<(iP tab).length then ([],6) else if (iP tab).any (fun k=>decide (k.length<3)) then ([],6)
   else match ((iP tab).map fun k=>fG (cC k)).foldl nY (some []) with
    | none=>([],6)
    | some ps=>if eH (aW ps)=b then ((iP tab).map cC,0) else ([],6)
theorem oV {r:Rl}(h:mJ r):cC (aL r)=r∧3≤(aL r).length:=by
 obtain⟨H,k,s⟩:=r;have hH:=h.1;dsimp only at hH;have hd:bS (aA H.reverse) []=H.reverse:=fQ H.reverse (by simpa using hH.1) (fun x hx b hb=>fJ ((hH.2.2.2 x (by simpa using hx)).2 b hb));have hpos:1≤(aA H.reverse).length:=by
  have hne:H.reverse≠[]:=by simpa using hH.1
  obtain⟨x,t,ht⟩:=List.exists_cons_of_ne_nil hne;have hx:=(hH.2.2.2 x (by rw[←List.mem_reverse,ht];simp)).1;have:=List.length_pos_iff.2 hx;rw[ht];simp only[aA,List.length_append];omega
 unfold cC Sx.aL Sx.keyOf;dsimp only;have e2:(aA H.reverse++[k,s]).length=(aA H.reverse).length+2:=by simp
 rw[e2];refine⟨?_,by omega⟩;rw[show(aA H.reverse).length+2-2=(aA H.reverse).length by omega,List.take_left,hd,List.reverse_reverse];have g1:=wO (aA H.reverse) [k,s] 0;have g2:=wO (aA H.reverse) [k,s] 1;rw[Nat.add_zero] at g1;rw[show(aA H.reverse).length+2-1=(aA H.reverse).length+1 by omega,g1,g2];rfl
theorem CV {rs:List Rl}{r:Rl}(h:RlsRt (rs++[r])):nY (some rs) (fG r)=some (rs++[r]):=by
 have hr:RlRt r:=h.ok r (by simp);have hn:=RY hr.ok;have hl:(bG r).length≤62:=by
  have h2:=pW hr.ok.1;unfold bG;rw[List.length_append]
  repeat' split
  all_goals simp
  all_goals omega
 have h1:RlsRt ([]++[r]):=⟨by simpa using hr,by simp,by simp⟩
 have hne:bG r≠[]:=by
  obtain⟨b,q,e,_⟩:=xZ hr.ok;rw[e];simp
 have hadd:aQ [fG r] [] 0=([r],0,0+1+1):=by
  unfold aQ;have e:fG r=[61,61,61,r.2.2]++10::bG r:=rfl;have hs:aU [] 105 [61,61,61,r.2.2]=(([],r.2.2),0):=by
   unfold aU;rcases hr.2.2.2 with e | e <;> rw[e] <;> simp
  have hl:bM (bJ (fG r)) [] 105 0=([r],0,0+1+1):=by
   rw[e,CY (by rcases hr.2.2.2 with e | e <;> rw[e] <;> simp),EH hn hne,wI hs,wI (LO h1)];rfl
  rw[hl];simp[aQ]
 unfold nY;simp only;rw[if_neg (by unfold fG;rw[List.length_append];simp;omega),hadd];simp only[if_true];rw[if_neg];intro hk;obtain⟨q,hq,e⟩:=(kT (fun q hq=>(h.ok q (by simp[hq])).ok) hr.ok).1 hk;exact(List.pairwise_append.1 h.apart).2.2 q hq r (by simp) e
theorem OA:∀ (l acc:List Rl),RlsRt (acc++l)→(l.map fG).foldl nY (some acc)=some (acc++l)
 | [],acc,_=>by simp
 | r::l,acc,h=>by
   rw[List.map_cons,List.foldl_cons,CV (RlsRt.cut (b:=l) (by simpa using h)),OA l (acc++[r]) (by simpa using h)];simp
theorem tX:∀ l:List (List UInt8),l.foldl nY none=none
 | []=>rfl
 | _::l=>tX l
theorem UJ {acc:List Rl}{x:List UInt8}{ps:List Rl}(h:RlsRt acc)(hl:acc.length<30)(e:nY (some acc) x=some ps):RlsRt ps∧ps.length=acc.length+1:=by
 have hrt:=rT [x] [] 0 fR;unfold nY at e;simp only at e;split at e
 · cases e
 · split at e
   · rename_i r m n hq;rw[hq] at hrt;split at e
     · split at e
       · cases e
       · rename_i hk;obtain rfl:=Option.some.inj e;have hr:RlRt r:=hrt.ok r (by simp);refine⟨⟨fun q hq=>?_,?_,?_⟩,by simp⟩
         · rcases List.mem_append.1 hq with hq | hq
           · exact h.ok q hq
           · rw[List.mem_singleton.1 hq];exact hr
         · rw[List.pairwise_append];refine⟨h.apart,by simp,fun a ha b hb=>?_⟩;rw[List.mem_singleton.1 hb];exact fun e=>hk ((kT (fun q hq=>(h.ok q hq).ok) hr.ok).2 ⟨a,ha,e⟩)
         · simp only[List.length_append,List.length_singleton];omega
     · cases e
   · cases e
theorem MF:∀ (l:List (List UInt8)) (acc ps:List Rl),RlsRt acc→acc.length+l.length≤30→l.foldl nY (some acc)=some ps→RlsRt ps
 | [],acc,ps,h,_,e=>by obtain rfl:=Option.some.inj e;exact h
 | x::l,acc,ps,h,hl,e=>by
   rw[List.foldl_cons] at e;cases ha:nY (some acc) x with
   | none=>rw[ha,tX] at e;cases e
   | some qs =>
     rw[ha] at e;rw[List.length_cons] at hl;obtain⟨h1,h2⟩:=UJ h (by omega) ha;exact MF l qs ps h1 (by omega) e
theorem o8 (b:List UInt8):kE b=eW b:=by
 have hyes:(eW b).2=0→kE b=eW b:=by
  intro h0;obtain⟨hl,hI⟩:=rZ h0;obtain⟨rs,hrs⟩:∃ rs,(eW b).1=rs:=⟨_,rfl⟩
  rw[hrs] at hI;have ho:eW b=(rs,0):=by rw[←hrs,←h0]
  obtain⟨hrt,hrise,his⟩:=hI;rw[ho];have hwys:∃ tab,cH b=some tab∧iP tab=rs.map aL:=by
   by_cases hn:rs=[]
   · refine⟨[],?_,?_⟩
     · rw[←his,hn];exact oN
     · rw[hn];rfl
   · obtain⟨r1,r2,_,_⟩:=zU hrt.rls hn;obtain⟨m1,m2,_⟩:=wJ (aW rs).length hrt.rls hn;refine⟨aW rs,by rw[←his];exact r1,?_⟩;rw[XN m2 r2 (64+(aW rs).length) (by omega),m1,hrise,List.take_of_length_le];rw[List.length_map];have:=hrt.many;omega
  obtain⟨tab,t1,t2⟩:=hwys;have hmany:=hrt.many;unfold kE;rw[if_neg (by omega),t1];simp only;rw[t2,if_neg (by rw[List.length_map];omega),if_neg]
  · have e1:(rs.map aL).map cC=rs:=by
     rw[List.map_map]
     conv=>rhs;rw[←List.map_id rs]
     exact List.map_congr_left fun r hr=>(oV (hrt.ok r hr).ok).1
    have e2:(rs.map aL).map (fun k=>fG (cC k))=rs.map fG:=by
     rw[List.map_map];refine List.map_congr_left fun r hr=>?_;simp only[Function.comp];rw[(oV (hrt.ok r hr).ok).1]
    rw[e2,OA rs [] (by simpa using hrt),List.nil_append];simp only;rw[if_pos his,e1]
  · rw[List.any_eq_true];rintro⟨k,hk,e⟩;obtain⟨r,hr,rfl⟩:=List.mem_map.1 hk;have:=(oV (hrt.ok r hr).ok).2;simp only[decide_eq_true_eq] at e;omega
 rcases NQ b with h | ⟨h1,h2⟩ | ⟨h1,h2⟩
 · exact hyes h
 · rw[h2];unfold kE;rw[if_pos h1]
 · rw[h2];have hno:(eW b).2≠0:=by rw[h2];simp
   unfold kE;rw[if_neg (by omega)];cases hr:cH b with
   | none=>rfl
   | some tab =>
     simp only;split
     · rfl
     · rename_i h30;split
       · rfl
       · cases hf:((iP tab).map fun k=>fG (cC k)).foldl nY (some []) with
         | none=>rfl
         | some ps =>
           simp only;split
           · rename_i hi;exfalso;have hps:=MF _ [] ps fR (by rw[List.length_map,List.length_nil];omega) hf;have hI:=AO hps;rw[hi] at hI;exact hno (by rw[YN h1 hI])
           · rfl
theorem F7 {rs:List Rl}(h:RlsRt rs):eW (eH (aW rs))=(K8 rs,0):=YN (u9 h.rls) (AO h)
theorem D4 {rs:List Rl}(h:RlsRt rs){s:List UInt8}(hs:(aI s).2=0):GH (eH (aW rs)) s=(aA ((aI s).1.drop ((aI s).1.length-(cL (aI s).1 rs).1)),(if (cL (aI s).1 rs).1+1≤(aI s).1.length then aA ((aI s).1.drop ((aI s).1.length-((cL (aI s).1 rs).1+1))) else []),[(cL (aI s).1 rs).2],0)∧1≤(cL (aI s).1 rs).1∧(cL (aI s).1 rs).1≤(aI s).1.length:=by
 have hh:=gX s hs;have hsr:=zK h;obtain⟨p1,p2,p3⟩:=kW hh hsr.ok;have hpm:cL (aI s).1 (K8 rs)=cL (aI s).1 rs:=OQ (by have:=hh.2.1;omega) (fun r hr=>(h.ok r hr).2.1) (XI h.apart) (vV h.ok);rw[hpm] at p1 p2 p3;have hle:=nG hh.1 rs;refine⟨?_,p3,hle⟩;unfold GH;rw[F7 h];simp only[if_true];rw[if_pos hs];unfold Z2;rw[p1,p2];have e:((cL (aI s).1 rs).1:Int)+1=(((cL (aI s).1 rs).1+1:Nat):Int):=by omega
 rw[e,mN hh _ p3,mN hh _ (by omega),if_pos hle]
end Go.Proofs.YtgohllfpceeboabGreatDoor
