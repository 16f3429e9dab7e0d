import Derived.Test.YtgohllfpceeboabGreatDoorAnan
import Derived.Lib.ValidLaws
namespace Sx
def bS:List UInt8→List UInt8→List (List UInt8)
 | [],cur=>[cur]
 | x::r,cur=>if x=46 then cur::bS r [] else bS r (cur++[x])
def mU:List Int→List Int→List (List Int)
 | [],cur=>[cur]
 | c::r,cur=>if c=46 then cur::mU r [] else mU r (cur++[c])
theorem qN:∀ (u r cur:List UInt8),(∀ x∈u,x≠46)→bS (u++r) cur=bS r (cur++u):=by
 intro u
 induction u with
 | nil=>intro r cur _;simp
 | cons x u ih =>
   intro r cur h;rw[List.cons_append,bS,if_neg (h x (List.mem_cons_self ..)),ih r _ (fun y hy=>h y (List.mem_cons_of_mem _ hy))];simp
theorem SL:∀ (x y cur:List UInt8),(∀ b∈y,b≠46)→bS (x++46::y) cur=bS x cur++[y]:=by
 intro x
 induction x with
 | nil =>
   intro y cur h;rw[List.nil_append];show(if (46:UInt8)=46 then cur::bS y [] else bS y (cur++[46]))=_;rw[if_pos rfl];have:=qN y [] [] h;rw[List.append_nil] at this;rw[this];simp[bS]
 | cons a x ih =>
   intro y cur h;rw[List.cons_append,bS];by_cases c:a=46
   · rw[if_pos c,ih y [] h];simp[bS,c]
   · rw[if_neg c,ih y _ h];simp[bS,c]
theorem A4 (c:Int)(h:Good c)(hc:c≠46):∀ x∈fV c,x≠46:=by
 obtain⟨h0,h1,h2⟩:=h;have key:∀ n:Int,0≤n→n<256→n≠46→UInt8.ofNat n.toNat≠46:=fun n a b d e=>by
  have:=congrArg UInt8.toNat e;rw[JW n a b] at this;have e2:(46:UInt8).toNat=46:=rfl;omega
 unfold fV;intro x hx;by_cases a1:c<128
 · rw[if_pos a1] at hx;rw[List.mem_singleton.1 hx];exact key c h0 (by omega) hc
 · rw[if_neg a1] at hx;by_cases a2:c<2048
   · rw[if_pos a2] at hx;simp only[List.mem_cons,List.not_mem_nil,or_false] at hx;rcases hx with rfl | rfl <;> exact key _ (by omega) (by omega) (by omega)
   · rw[if_neg a2] at hx;by_cases a3:c<65536
     · rw[if_pos a3] at hx;simp only[List.mem_cons,List.not_mem_nil,or_false] at hx;rcases hx with rfl | rfl | rfl <;> exact key _ (by omega) (by omega) (by omega)
     · rw[if_neg a3] at hx;simp only[List.mem_cons,List.not_mem_nil,or_false] at hx;rcases hx with rfl | rfl | rfl | rfl <;> exact key _ (by omega) (by omega) (by omega)
theorem OR:∀ (l cur:List Int),(∀ c∈l,Good c)→bS (text l) (text cur)=(mU l cur).map text:=by
 intro l
 induction l with
 | nil=>intro cur _;rfl
 | cons c l ih =>
   intro cur h;have e:text (c::l)=fV c++text l:=by simp[text]
   have hr:=fun x hx=>h x (List.mem_cons_of_mem c hx);rw[e,mU];by_cases hc:c=46
   · subst hc;have e2:fV 46=[46]:=by decide
     rw[e2,if_pos rfl,List.map_cons,List.cons_append,List.nil_append,bS,if_pos rfl];have:=ih [] hr;rw[show text []=[] from rfl] at this;rw[this]
   · rw[if_neg hc,qN _ _ _ (A4 c (h c (List.mem_cons_self ..)) hc)];have:=ih (cur++[c]) hr;rw[zD] at this;exact this
def nU:List (Option (List UInt8))→Option (List (List UInt8))
 | []=>some []
 | none::_=>none
 | some x::r=>(nU r).map (x :: ·)
theorem IQ:∀ (l cur:List Int),bD l cur=nU ((mU l cur).map cI):=by
 intro l
 induction l with
 | nil =>
   intro cur;simp only[bD,mU,List.map_cons,List.map_nil];cases cI cur <;> rfl
 | cons c l ih =>
   intro cur;simp only[bD,mU];by_cases hc:c=46
   · rw[if_pos hc,if_pos hc,List.map_cons];cases cI cur with
     | none=>rfl
     | some x=>simp only[nU];rw[ih]
   · rw[if_neg hc,if_neg hc,ih]
theorem XJ:∀ (l cur:List Int) (p:List Int),p∈mU l cur→∀ c∈p,c∈cur∨c∈l:=by
 intro l
 induction l with
 | nil=>intro cur p hp c hc;simp only[mU,List.mem_singleton] at hp;subst hp;exact .inl hc
 | cons x l ih =>
   intro cur p hp c hc;simp only[mU] at hp;split at hp
   · rcases List.mem_cons.1 hp with rfl | hp
     · exact .inl hc
     · rcases ih [] p hp c hc with h | h
       · cases h
       · exact .inr (List.mem_cons_of_mem _ h)
   · rcases ih _ p hp c hc with h | h
     · rcases List.mem_append.1 h with h | h
       · exact .inl h
       · exact .inr (by rw[List.mem_singleton.1 h];exact List.mem_cons_self ..)
     · exact .inr (List.mem_cons_of_mem _ h)
theorem FP:∀ (r cur p:List UInt8),p∈bS r cur→p.length≤cur.length+r.length:=by
 intro r
 induction r with
 | nil=>intro cur p hp;simp only[bS,List.mem_singleton] at hp;subst hp;simp
 | cons x r ih =>
   intro cur p hp;simp only[bS] at hp;split at hp
   · rcases List.mem_cons.1 hp with rfl | hp
     · simp
     · have:=ih [] p hp;simp at this ⊢;omega
   · have:=ih _ p hp;simp at this ⊢;omega
end Sx
namespace Go.Proofs.YtgohllfpceeboabGreatDoor
theorem DK (s:List UInt8)(c:UInt8):∀ k:Nat,(lastTo s c k = -1∧∀ j,j<k→s.getD j 0≠c)∨(∃ d:Nat,d<k∧lastTo s c k=d∧s.getD d 0=c∧∀ j,d<j→j<k→s.getD j 0≠c):=by
 intro k
 induction k with
 | zero=>exact .inl ⟨rfl,fun j h=>by omega⟩
 | succ k ih =>
   simp only[lastTo];by_cases h:s.getD k 0=c
   · rw[if_pos h];exact .inr ⟨k,by omega,rfl,h,fun j h1 h2=>by omega⟩
   · rw[if_neg h];rcases ih with ⟨h1,h2⟩ | ⟨d,h1,h2,h3,h4⟩
     · refine .inl ⟨h1,fun j hj=>?_⟩;by_cases e:j=k
       · rw[e];exact h
       · exact h2 j (by omega)
     · refine .inr ⟨d,by omega,h2,h3,fun j g1 g2=>?_⟩;by_cases e:j=k
       · rw[e];exact h
       · exact h4 j g1 (by omega)
theorem sS (s:List UInt8)(c:UInt8)(h:∀ j,j<s.length→s.getD j 0≠c):∀ x∈s,x≠c:=by
 intro x hx;obtain⟨j,hj,rfl⟩:=List.mem_iff_getElem.1 hx;have:=h j hj;rw[List.getD_eq_getElem?_getD,List.getElem?_eq_getElem hj,Option.getD_some] at this;exact this
theorem MN:∀ (n:Nat) (r:List UInt8),r.length≤n→(fK r).reverse=Sx.bS r []:=by
 intro n
 induction n with
 | zero =>
   intro r h;have:r=[]:=List.eq_nil_of_length_eq_zero (by omega);subst this;rfl
 | succ n ih =>
   intro r h;rcases DK r 46 r.length with ⟨h1,h2⟩ | ⟨d,h1,h2,h3,h4⟩
   · rw[wS r (by unfold eU;omega)];have:=Sx.qN r [] [] (sS r 46 h2);rw[List.append_nil] at this;rw[this];simp[Sx.bS]
   · have hd:eU r=d:=h2;rw[wL r (by omega),hd,List.reverse_cons,show((d:Int)+1).toNat=d+1 from by omega,Int.toNat_natCast,ih (r.take d) (by rw[List.length_take];omega)];have hr:r=r.take d++46::r.drop (d+1):=by
      have e1:=(List.take_append_drop d r).symm;rw[List.drop_eq_getElem_cons h1] at e1;have e2:r[d]=46:=by
       rw[List.getD_eq_getElem?_getD,List.getElem?_eq_getElem h1,Option.getD_some] at h3;exact h3
      rw[e2] at e1;exact e1
     conv=>rhs;rw[hr]
     rw[Sx.SL];refine sS _ _ (fun j hj=>?_);rw[List.length_drop] at hj;have:=h4 (d+1+j) (by omega) (by omega);rw[List.getD_eq_getElem?_getD] at this ⊢;rw[List.getElem?_drop];exact this
end Go.Proofs.YtgohllfpceeboabGreatDoor
/- Plain mathematics of codes: reading is writing's inverse. -/
namespace Sx
theorem JF:∀ v:Fin 36,(nL (v.val:Int)).toNat<128∧nL (v.val:Int)≠45:=by decide
theorem SD:∀ (f:Nat) (d k bias:Int),0≤d→d.toNat≤f→∀ x∈iH d k bias,x.toNat<128∧x≠45:=by
 intro f
 induction f with
 | zero =>
   intro d k bias h0 hf x hx;have h1:=eP k bias;rw[fD d k bias (by omega)] at hx;have:d=0:=by omega
   subst this;rw[List.mem_singleton.1 hx];exact JF ⟨0,by omega⟩
 | succ f ih =>
   intro d k bias h0 hf x hx;have h1:=eP k bias;have h2:=fP k bias;by_cases h:cE k bias≤d
   · rw[jA d k bias h0 h] at hx;have hs:=lP d _ h1 h2 h;rcases List.mem_cons.1 hx with rfl | hx
     · have hr:0≤(d-cE k bias) % (36-cE k bias)∧(d-cE k bias) % (36-cE k bias)<36-cE k bias:=⟨Int.emod_nonneg _ (by omega),Int.emod_lt_of_pos _ (by omega)⟩
       have:=JF ⟨(cE k bias+(d-cE k bias) % (36-cE k bias)).toNat,by omega⟩;rw[show(((cE k bias+(d-cE k bias) % (36-cE k bias)).toNat:Nat):Int)=cE k bias+(d-cE k bias) % (36-cE k bias) from by omega] at this;exact this
     · exact ih _ _ _ hs.1 (by omega) x hx
   · rw[fD d k bias h] at hx;rw[List.mem_singleton.1 hx];have:=JF ⟨d.toNat,by omega⟩;rw[show((d.toNat:Nat):Int)=d from by omega] at this;exact this
theorem q9 (d k bias:Int)(h0:0≤d):∀ x∈iH d k bias,x.toNat<128∧x≠45:=SD d.toNat d k bias h0 (Nat.le_refl _)
theorem KY (d t p:Int)(h1:1≤t)(h2:t≤26)(hp:d<26*(p*10))(hp1:1≤p):(d-t) / (36-t)<26*p:=by
 refine Int.ediv_lt_of_lt_mul (by omega) ?_;have h3:10≤36-t:=by omega
 have h4:26*p*10≤26*p*(36-t):=Int.mul_le_mul_of_nonneg_left h3 (by omega);omega
theorem vG:∀ (j:Nat) (d k bias:Int),0≤d→d<26*10 ^ j→(iH d k bias).length≤j+2:=by
 intro j
 induction j with
 | zero =>
   intro d k bias h0 h;have h1:=eP k bias;have h2:=fP k bias;by_cases ht:cE k bias≤d
   · rw[jA d k bias h0 ht];have e:(d-cE k bias) / (36-cE k bias)=0:=Int.ediv_eq_zero_of_lt (by omega) (by simp at h;omega);rw[e,fD 0 (k+1) bias (by have:=eP (k+1) bias;omega)];simp
   · rw[fD d k bias ht];simp
 | succ j ih =>
   intro d k bias h0 h;have h1:=eP k bias;have h2:=fP k bias;by_cases ht:cE k bias≤d
   · rw[jA d k bias h0 ht,List.length_cons];have hs:=lP d _ h1 h2 ht;rw[Int.pow_succ] at h;have:=ih ((d-cE k bias) / (36-cE k bias)) (k+1) bias hs.1 (KY d _ _ h1 h2 h (by have:=I0 j;omega));omega
   · rw[fD d k bias ht];simp
theorem VG (bias:Int)(r:List UInt8):∀ (f:Nat) (d D w:Int) (k:Nat),0≤d→d.toNat≤f→k+(iH d k bias).length≤8→cS bias D w k (iH d k bias++r)=some (D+d*w,r):=by
 intro f
 induction f with
 | zero =>
   intro d D w k h0 hf hk;have h1:=eP k bias;have hd:d=0:=by omega
   subst hd;rw[fD 0 k bias (by omega)] at hk ⊢;simp only[List.cons_append,List.nil_append,cS];rw[if_neg (by simp at hk;omega),show valOf (nL 0)=0 from nK 0 (by omega),if_neg (by omega),if_pos (by omega)]
 | succ f ih =>
   intro d D w k h0 hf hk;have h1:=eP k bias;have h2:=fP k bias;by_cases ht:cE k bias≤d
   · rw[jA d k bias h0 ht] at hk ⊢;have hs:=lP d _ h1 h2 ht;have hr:0≤(d-cE k bias) % (36-cE k bias)∧(d-cE k bias) % (36-cE k bias)<36-cE k bias:=⟨Int.emod_nonneg _ (by omega),Int.emod_lt_of_pos _ (by omega)⟩
     obtain⟨v,hv⟩:∃ v:Nat,cE k bias+(d-cE k bias) % (36-cE k bias)=(v:Int):=⟨(cE k bias+(d-cE k bias) % (36-cE k bias)).toNat,by omega⟩
     have hdm:=Int.emod_add_mul_ediv (d-cE k bias) (36-cE k bias);rw[hv] at hk ⊢;simp only[List.length_cons] at hk;simp only[List.cons_append,cS];rw[if_neg (by omega),nK v (by omega),if_neg (by omega),if_neg (by omega)];have:=ih ((d-cE k bias) / (36-cE k bias)) (D+v*w) (w*(36-cE k bias)) (k+1) hs.1 (by omega) (by rw[show((k+1:Nat):Int)=(k:Int)+1 from by omega];omega);rw[show((k+1:Nat):Int)=(k:Int)+1 from by omega] at this;rw[this];congr 2;have e1:d=(v:Int)+(36-cE k bias)*((d-cE k bias) / (36-cE k bias)):=by omega
     generalize (d-cE k bias) / (36-cE k bias)=q at e1 ⊢;generalize 36-cE k bias=u at e1 ⊢;rw[e1,Int.add_mul,Int.mul_comm u q,Int.mul_assoc,Int.mul_comm u w,Int.add_assoc]
   · rw[fD d k bias ht] at hk ⊢;obtain⟨v,hv⟩:∃ v:Nat,d=(v:Int):=⟨d.toNat,by omega⟩
     subst hv;simp only[List.cons_append,List.nil_append,cS];rw[if_neg (by simp at hk;omega),nK v (by omega),if_neg (by omega),if_pos (by omega)]
def CJ:List Int→List Bool→List Int
 | c::l,true::f=>c::CJ l f
 | _::l,false::f=>CJ l f
 | _,_=>[]
theorem ZL:∀ (l:List Int) (f:List Bool),l.length=f.length→(CJ l f).length=f.countP id:=by
 intro l
 induction l with
 | nil=>intro f h;cases f with
   | nil=>rfl
   | cons b f=>simp at h
 | cons c l ih =>
   intro f h;cases f with
   | nil=>simp at h
   | cons b f =>
     have:=ih f (by simpa using h);cases b with
     | true=>simp[CJ,this]
     | false=>simp[CJ,this]
theorem F5:∀ (l:List Int) (f:List Bool) (c:Nat),l.length=f.length→c<l.length→f.getD c false=false→CJ l (f.set c true)=dY (CJ l f) ((f.take c).countP id:Nat) (l.getD c 0):=by
 intro l
 induction l with
 | nil=>intro f c h hc;simp at hc
 | cons x l ih =>
   intro f c h hc hf;cases f with
   | nil=>simp at h
   | cons b f =>
     cases c with
     | zero =>
       have hb:b=false:=by simpa using hf
       subst hb;simp[CJ,dY]
     | succ c =>
       have:=ih f c (by simpa using h) (by simpa using hc) (by simpa using hf);cases b with
       | true =>
         simp only[List.set_cons_succ,CJ,this,List.take_succ_cons,List.countP_cons,id,if_true,List.getD_cons_succ];unfold dY;simp only[Int.toNat_natCast,List.take_succ_cons,List.drop_succ_cons,List.cons_append]
       | false =>
         simp only[List.set_cons_succ,CJ,this,List.take_succ_cons,List.countP_cons,id,Bool.false_eq_true,if_false,Nat.add_zero,List.getD_cons_succ]
theorem ZM:∀ (l:List Int) (f:List Bool),l.length=f.length→(∀ k,k<l.length→f.getD k false=true)→CJ l f=l:=by
 intro l
 induction l with
 | nil=>intro f h _;cases f <;> rfl
 | cons x l ih =>
   intro f h hf;cases f with
   | nil=>simp at h
   | cons b f =>
     have h0:=hf 0 (by simp);have hb:b=true:=by simpa using h0
     subst hb;simp only[CJ];rw[ih f (by simpa using h) (fun k hk=>by have:=hf (k+1) (by simp;omega);simpa using this)]
theorem TX (l:List Int)(hl:l.length≤20)(hg:∀ c∈l,Good c):∀ (todo done:List Nat),fF l=done++todo→∀ (n i bias:Int) (first:Bool),128≤n → -1≤i→i≤((aE l).length+done.length:Nat)→Later l todo n i →
 kQ (CJ l (flags l done)) bias n (i+1) first (bK (todo.map (bQ l)) bias n i (((aE l).length+done.length:Nat):Int) first)=some l:=by
 intro todo
 induction todo with
 | nil =>
   intro done ho n i bias first _ _ _ _
   simp only[List.map_nil,bK,FW];congr 1;refine ZM l _ (eK l done).symm (fun k hk=>?_);cases h:(flags l done).getD k false with
   | true=>rfl
   | false=>have:=DY l done [] ho k hk h;cases this
 | cons c0 todo ih =>
   intro done ho n i bias first hn hi hi2 hlat
   obtain⟨hcl,hcf,hfl⟩:=cQ l done (c0::todo) ho c0 (List.mem_cons_self ..);have hgd:=hg l[c0] (List.getElem_mem hcl);have hgd2:l.getD c0 0=l[c0]:=by simp[List.getElem?_eq_getElem hcl]
   rw[←hgd2] at hgd;have hst:=fB l done todo c0 ho;have hsf:=nC l done todo c0 ho;have hpo:=eX l;have hdl:=congrArg List.length ho;rw[List.length_append,List.length_cons] at hdl;have hsl:(CJ l (flags l done)).length=(aE l).length+done.length:=by
    rw[ZL l _ (eK l done).symm];exact sK l done (c0::todo) ho
   have hlat0:=hlat c0 (List.mem_cons_self ..);have hput:=F5 l (flags l done) c0 (eK l done).symm hcl hfl;rw[hsf,pJ l done todo c0 ho] at hput;have hlat2:=jJ l done todo c0 ho;have hih:=ih (done++[c0]) (by rw[ho];simp) (l.getD c0 0) (bZ l c0);obtain⟨lm,hlm⟩:∃ lm,l.getD c0 0=lm:=⟨_,rfl⟩
   obtain⟨st,hsd⟩:∃ st,bZ l c0=st:=⟨_,rfl⟩
   obtain⟨C,hC⟩:∃ C:Nat,(aE l).length+done.length=C:=⟨_,rfl⟩
   have hC2:(aE l).length+(done++[c0]).length=C+1:=by rw[List.length_append,List.length_cons,List.length_nil];omega
   rw[hC2] at hih;rw[hlm,hsd] at hih hlat2 hput;rw[hlm] at hgd hcf hlat0;rw[hsd] at hst hlat0;rw[hC] at hst hi2 hsl ⊢;simp only[List.map_cons,bQ,hlm,hsd,bK];have hnn:=kK lm n st i C hlat0 hi2 (by omega) (by omega);obtain⟨hg0,hg1,hg2⟩:=hgd;have hd2:(lm-n)*((C:Int)+1)+(st:Int)-(i+1)<26*10 ^ 6:=by
    have:(lm-n)*((C:Int)+1)≤1113983*((C:Int)+1):=Int.mul_le_mul_of_nonneg_right (by omega) (by omega);have e:(10:Int) ^ 6=1000000:=by decide
    rw[e];omega
   obtain⟨d,hd⟩:∃ d,(lm-n)*((C:Int)+1)+(st:Int)-(i+1)=d:=⟨_,rfl⟩
   rw[hd] at hnn hd2 ⊢;have hws:=vG 6 d 0 bias hnn hd2;have hnum:=VG bias (bK (todo.map (fun c=>(l.getD c 0,(bZ l c:Int)))) (after d ((C:Int)+1) first) lm st ((C:Int)+1) false) d.toNat d 0 1 0 hnn (Nat.le_refl _) (by simpa using hws);rw[Int.zero_add,Int.mul_one] at hnum;have hsum:i+1+d=(st:Int)+(lm-n)*((C:Int)+1):=by omega
   have hdiv:(i+1+d) / ((C:Int)+1)=lm-n:=by
    rw[hsum,Int.add_mul_ediv_right _ _ (by omega),Int.ediv_eq_zero_of_lt (by omega) (by omega)];omega
   have hmod:(i+1+d) % ((C:Int)+1)=st:=by
    rw[hsum,Int.add_mul_emod_self_right,Int.emod_eq_of_lt (by omega) (by omega)]
   have hm:=nM (CJ l (flags l done)) bias n (i+1) first _ d _ hnum (by rw[hsl,hdiv];omega)
   rw[hsl,hdiv,hmod,show n+(lm-n)=lm from by omega,←hput] at hm;refine hm.trans ?_;have:=hih (after d ((C:Int)+1) first) false (by omega) (by omega) (by omega) hlat2;rw[show((C+1:Nat):Int)=(C:Int)+1 from by omega] at this;exact this
theorem GT (s:List UInt8):∀ k,(∀ j,j<k→s.getD j 0≠45)→fH s k = -1:=by
 intro k
 induction k with
 | zero=>intro _;rfl
 | succ k ih=>intro h;simp only[fH];rw[if_neg (h k (by omega)),ih (fun j hj=>h j (by omega))]
theorem TL (s:List UInt8)(p:Nat)(hp:s.getD p 0=45):∀ k,p<k→(∀ j,p<j→j<k→s.getD j 0≠45)→fH s k=p:=by
 intro k
 induction k with
 | zero=>intro h;omega
 | succ k ih =>
   intro h hn;simp only[fH];by_cases e:p=k
   · subst e;rw[if_pos hp]
   · rw[if_neg (hn k (by omega) (by omega)),ih (by omega) (fun j h1 h2=>hn j h1 (by omega))]
theorem ZT (y:List UInt8)(h:∀ x∈y,x≠45):dash y = -1:=by
 refine GT y _ (fun j hj=>?_);rw[List.getD_eq_getElem?_getD,List.getElem?_eq_getElem hj,Option.getD_some];exact h _ (List.getElem_mem hj)
theorem UH (x y:List UInt8)(h:∀ b∈y,b≠45):dash (x++45::y)=x.length:=by
 refine TL _ x.length (by simp) _ (by simp) (fun j h1 h2=>?_);have h3:j-x.length-1<y.length:=by simp at h2;omega
 rw[List.getD_eq_getElem?_getD,List.getElem?_append_right (by omega),show j-x.length=(j-x.length-1)+1 from by omega,List.getElem?_cons_succ,List.getElem?_eq_getElem h3,Option.getD_some];exact h _ (List.getElem_mem h3)
theorem JM (l:List Int)(hl:l.length≤100)(hr:∀ c∈l,c≤1114111):∀ (todo done:List Nat),fF l=done++todo→∀ (n i bias:Int) (first:Bool),128≤n → -1≤i→i≤((aE l).length+done.length:Nat)→Later l todo n i →
 (∀ x∈bK (todo.map (bQ l)) bias n i (((aE l).length+done.length:Nat):Int) first,x.toNat<128∧x≠45)∧todo.length≤(bK (todo.map (bQ l)) bias n i (((aE l).length+done.length:Nat):Int) first).length∧(bK (todo.map (bQ l)) bias n i (((aE l).length+done.length:Nat):Int) first).length≤todo.length*11:=by
 intro todo
 induction todo with
 | nil=>intro done _ n i bias first _ _ _ _;simp[bK]
 | cons c0 todo ih =>
   intro done ho n i bias first hn hi hi2 hlat
   obtain⟨hcl,hcf,_⟩:=cQ l done (c0::todo) ho c0 (List.mem_cons_self ..);have hlm:l.getD c0 0≤1114111:=by
    have:=hr l[c0] (List.getElem_mem hcl)
    simpa[List.getElem?_eq_getElem hcl] using this
   have hst:=fB l done todo c0 ho;have hpo:=eX l;have hdl:=congrArg List.length ho;rw[List.length_append,List.length_cons] at hdl;have hlat0:=hlat c0 (List.mem_cons_self ..);have hnn:=kK (l.getD c0 0) n (bZ l c0) i (((aE l).length+done.length:Nat):Int) hlat0 hi2 (by omega) (by omega);have hle:=nI (l.getD c0 0) n (bZ l c0) i (((aE l).length+done.length:Nat):Int) hlm hn hi (by omega) (by omega) (by omega);have hw:=vG 9 ((l.getD c0 0-n)*((((aE l).length+done.length:Nat):Int)+1)+(bZ l c0:Int)-(i+1)) 0 bias hnn (by rw[show(10:Int) ^ 9=1000000000 from by decide];omega);have hwo:=q9 _ 0 bias hnn;have hw1:1≤(iH ((l.getD c0 0-n)*((((aE l).length+done.length:Nat):Int)+1)+(bZ l c0:Int)-(i+1)) 0 bias).length:=by
    unfold iH;cases ((l.getD c0 0-n)*((((aE l).length+done.length:Nat):Int)+1)+(bZ l c0:Int)-(i+1)).toNat with
    | zero=>simp[iG]
    | succ f=>simp only[iG];split <;> simp
   obtain⟨i1,i2,i3⟩:=ih (done++[c0]) (by rw[ho];simp) (l.getD c0 0) (bZ l c0) (after ((l.getD c0 0-n)*((((aE l).length+done.length:Nat):Int)+1)+(bZ l c0:Int)-(i+1)) ((((aE l).length+done.length:Nat):Int)+1) first) false (by omega) (by omega) (by rw[List.length_append,List.length_cons,List.length_nil];omega) (jJ l done todo c0 ho);rw[List.length_append,List.length_cons,List.length_nil,show(((aE l).length+(done.length+(0+1)):Nat):Int)=(((aE l).length+done.length:Nat):Int)+1 from by omega] at i1 i2 i3;simp only[List.map_cons,bQ,bK,List.length_append,List.length_cons] at i1 i2 i3 ⊢;refine⟨fun x hx=>?_,by omega,by omega⟩;rcases List.mem_append.1 hx with hx | hx
   · exact hwo x hx
   · exact i1 x hx
theorem uK (l:List Int)(hl:l.length≤100)(hr:∀ c∈l,c≤1114111) :
 (∀ x∈bK ((fF l).map (bQ l)) 72 128 (-1) (aE l).length true,x.toNat<128∧x≠45)∧(fF l).length≤(bK ((fF l).map (bQ l)) 72 128 (-1) (aE l).length true).length∧(bK ((fF l).map (bQ l)) 72 128 (-1) (aE l).length true).length≤(fF l).length*11:=by
 have:=JM l hl hr (fF l) [] rfl 128 (-1) 72 true (by omega) (by omega) (by omega) (iE l)
 simpa using this
theorem TV (l:List Int):∀ x∈aE l,x.toNat<128:=by
 intro x hx;obtain⟨c,hc,rfl⟩:=List.mem_map.1 hx;have:=(List.mem_filter.1 hc).2;simp at this;simp only[UInt8.toNat_ofNat'];omega
theorem OW (l:List Int)(hl:l.length≤100)(hr:∀ c∈l,c≤1114111):∀ x∈enc l,x.toNat<128:=by
 intro x hx;unfold enc dT at hx;rcases List.mem_append.1 hx with hx | hx
 · rcases List.mem_append.1 hx with hx | hx
   · exact TV l x hx
   · split at hx
     · rw[List.mem_singleton.1 hx];decide
     · cases hx
 · exact((uK l hl hr).1 x hx).1
theorem uW (l:List Int)(hl:l.length≤100)(hr:∀ c∈l,c≤1114111):l.length≤(enc l).length∧(enc l).length≤1201:=by
 have h1:=uK l hl hr;have h2:=eX l;have h3:(aE l).length≤(dT l).length∧(dT l).length≤(aE l).length+1:=by
  unfold dT;rw[List.length_append];split <;> simp
 unfold enc;rw[List.length_append];omega
theorem o0 (l:List Int)(hl:l.length≤20)(hg:∀ c∈l,Good c)(hf:(l.any fun c=>decide (128≤c))=true):dec (enc l)=some l:=by
 have hr:∀ c∈l,c≤1114111:=fun c hc=>(hg c hc).2.1;obtain⟨n1,n2,n3⟩:=uK l (by omega) hr;have hol:0<(fF l).length:=by
  rw[BL];obtain⟨c,hc,h2⟩:=List.any_eq_true.1 hf;exact List.length_pos_of_mem (List.mem_filter.2 ⟨hc,h2⟩)
 have hw:=TX l hl hg (fF l) [] rfl 128 (-1) 72 true (by omega) (by omega) (by omega) (iE l);rw[List.length_nil,Nat.add_zero] at hw;have hsel:∀ (l:List Int),(∀ c∈l,Good c)→CJ l (l.map fun c=>decide (c<128))=(aE l).map fun c=>(c.toNat:Int):=by
  intro l
  induction l with
  | nil=>intro _;rfl
  | cons c l ih =>
    intro hg;have ih2:=ih (fun x hx=>hg x (List.mem_cons_of_mem _ hx));have hc:=hg c (List.mem_cons_self ..);by_cases h:c<128
    · have e:aE (c::l)=UInt8.ofNat c.toNat::aE l:=by unfold aE;simp[h]
      rw[e,List.map_cons,List.map_cons,show decide (c<128)=true from by simpa using h];simp only[CJ];rw[ih2];congr 1;rw[JW c hc.1 (by omega)];have:=hc.1;omega
    · have e:aE (c::l)=aE l:=by unfold aE;simp[h]
      rw[e,List.map_cons,show decide (c<128)=false from by simpa using h];simp only[CJ];exact ih2
 rw[oW,hsel l hg] at hw;obtain⟨E,hE⟩:∃ E,bK ((fF l).map (bQ l)) 72 128 (-1) (aE l).length true=E:=⟨_,rfl⟩
 rw[hE] at n1 n2 hw;have henc:enc l=dT l++E:=by unfold enc;rw[hE]
 have hEne:0<E.length:=by omega
 by_cases hp:0<(aE l).length
 · have hh:enc l=aE l++45::E:=by
    rw[henc];unfold dT;rw[if_pos hp];simp
   have hd:dash (enc l)=(aE l).length:=by rw[hh];exact UH _ _ (fun b hb=>(n1 b hb).2)
   unfold dec;rw[hd,if_neg (by rw[hh];simp;omega),hh,Int.toNat_natCast,List.take_left,show(((aE l).length:Int)+1).toNat=(aE l).length+1 from by omega];have e:(aE l++45::E).drop ((aE l).length+1)=E:=by
    rw[List.drop_append];simp
   rw[e];exact hw
 · have hp0:aE l=[]:=List.eq_nil_of_length_eq_zero (by omega);have hh:enc l=E:=by rw[henc];unfold dT;rw[if_neg hp,hp0];simp
   have hd:dash (enc l) = -1:=by rw[hh];exact ZT _ (fun b hb=>(n1 b hb).2)
   unfold dec;rw[hd,if_neg (by rw[hh];omega),hh];rw[hp0] at hw;exact hw
theorem tY (l:List Int)(hl:l.length≤20)(hg:∀ c∈l,Good c)(hf:(l.any fun c=>decide (128≤c))=true):codeOk (enc l)=true:=by
 unfold codeOk;rw[o0 l hl hg hf];simp
end Sx
