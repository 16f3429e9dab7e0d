import Derived.Test.YtgohllfpceeboabGreatDoorAnac
import Derived.Laws.Cover4
namespace Sx
def pF (b:UInt8):Prop:=(97≤b.toNat∧b.toNat≤122)∨(48≤b.toNat∧b.toNat≤57)∨b.toNat=45
theorem AN (x:Int)(h0:0≤x)(h1:x<36):pF (nL x):=by
 unfold pF nL;split <;> simp only[UInt8.toNat_ofNat'] <;> omega
theorem zC:∀ (f:Nat) (d k bias:Int),0≤d→d.toNat≤f→∀ x∈iG f d k bias,pF x
 | 0,d,k,bias,h0,hf,x,hx=>by
   simp only[iG,List.mem_singleton] at hx;subst hx;exact AN d h0 (by omega)
 | f+1,d,k,bias,h0,hf,x,hx=>by
   have t1:=eP k bias;have t2:=fP k bias;simp only[iG] at hx;split at hx
   · rename_i h;rcases List.mem_cons.1 hx with hx | hx
     · subst hx;have m1:=Int.emod_nonneg (d-cE k bias) (show 36-cE k bias≠0 by omega);have m2:=Int.emod_lt_of_pos (d-cE k bias) (show 0<36-cE k bias by omega);exact AN _ (by omega) (by omega)
     · have d1:0≤(d-cE k bias) / (36-cE k bias):=Int.ediv_nonneg (by omega) (by omega);have d2:(d-cE k bias) / (36-cE k bias)≤d-cE k bias:=Int.ediv_le_self _ (by omega);exact zC f _ _ _ d1 (by omega) x hx
   · rename_i h;simp only[List.mem_singleton] at hx;subst hx;exact AN d h0 (by omega)
theorem FT (l:List Int):∀ (todo done:List Nat),fF l=done++todo→∀ (n i bias:Int) (first:Bool),128≤n → -1≤i→i≤((aE l).length+done.length:Nat)→Later l todo n i →
 ∀ x∈bK (todo.map (bQ l)) bias n i (((aE l).length+done.length:Nat):Int) first,pF x:=by
 intro todo
 induction todo with
 | nil=>intro done _ n i bias first _ _ _ _ x hx;simp[bK] at hx
 | cons c0 todo ih =>
   intro done ho n i bias first hn hi hi2 hlat
   obtain⟨hcl,hcf,_⟩:=cQ l done (c0::todo) ho c0 (List.mem_cons_self ..);have hst:=fB l done todo c0 ho;have hpo:=eX l;have hdl:=congrArg List.length ho;rw[List.length_append,List.length_cons] at hdl;have hlat0:=hlat c0 (List.mem_cons_self ..);have hnn:=kK (l.getD c0 0) n (bZ l c0) i (((aE l).length+done.length:Nat):Int) hlat0 hi2 (by omega) (by omega);have i1:=ih (done++[c0]) (by rw[ho];simp) (l.getD c0 0) (bZ l c0) (after ((l.getD c0 0-n)*((((aE l).length+done.length:Nat):Int)+1)+(bZ l c0:Int)-(i+1)) ((((aE l).length+done.length:Nat):Int)+1) first) false (by omega) (by omega) (by rw[List.length_append,List.length_cons,List.length_nil];omega) (jJ l done todo c0 ho);rw[List.length_append,List.length_cons,List.length_nil,show(((aE l).length+(done.length+(0+1)):Nat):Int)=(((aE l).length+done.length:Nat):Int)+1 from by omega] at i1;simp only[List.map_cons,bQ,bK] at i1 ⊢;intro x hx;rcases List.mem_append.1 hx with hx | hx
   · exact zC _ _ _ _ hnn (Nat.le_refl _) x hx
   · exact i1 x hx
theorem NK (c:Int)(h:tN c=true)(hc:c<128):pF (UInt8.ofNat c.toNat):=by
 unfold tN at h;unfold pF;simp only[Bool.or_eq_true,decide_eq_true_eq] at h;simp only[UInt8.toNat_ofNat'];omega
theorem JO (m:List Int)(ho:m.all tN=true):∀ x∈aJ m,pF x:=by
 rw[List.all_eq_true] at ho;unfold aJ;cases hf:(m.any fun c=>decide (128≤c)) with
 | true =>
   simp only[if_true];intro x hx;rcases List.mem_append.1 hx with hx | hx
   · unfold xn at hx;unfold pF;simp only[List.mem_cons,List.mem_nil_iff,or_false] at hx;rcases hx with rfl | rfl | rfl | rfl <;> decide
   · unfold enc dT at hx;rcases List.mem_append.1 hx with hx | hx
     · rcases List.mem_append.1 hx with hx | hx
       · unfold aE at hx;obtain⟨c,hc,rfl⟩:=List.mem_map.1 hx;obtain⟨hm,hd⟩:=List.mem_filter.1 hc;exact NK c (ho c hm) (by simpa using hd)
       · split at hx
         · rw[List.mem_singleton.1 hx];unfold pF;decide
         · cases hx
     · have:=FT m (fF m) [] rfl 128 (-1) 72 true (by omega) (by omega) (by omega) (iE m);simp only[List.length_nil,Nat.add_zero] at this;exact this x hx
 | false =>
   simp only[Bool.false_eq_true,if_false];intro x hx;unfold text at hx;obtain⟨c,hc,hx⟩:=List.mem_flatMap.1 hx;have h1:c<128:=by
    have:=List.any_eq_false.1 hf c hc
    simpa using this
   unfold fV at hx;rw[if_pos h1,List.mem_singleton] at hx;subst hx;exact NK c (ho c hc) h1
theorem xP {l:List Int}{x:List UInt8}(h:cI l=some x):x≠[]∧∀ b∈x,pF b:=by
 unfold cI at h;split at h
 · rename_i ho;split at h
   · rename_i hk;have hp:=JO (l.map lower) ho;have hn:aJ (l.map lower)≠[]:=by
      intro e;rw[e] at hk;simp[dM] at hk
     split at h
     · split at h
       · obtain rfl:=Option.some.inj h;exact⟨hn,hp⟩
       · cases h
     · obtain rfl:=Option.some.inj h;exact⟨hn,hp⟩
   · cases h
 · cases h
theorem oY:∀ (l cur:List Int) (h:List (List UInt8)),bD l cur=some h→h≠[]∧∀ x∈h,∃ p,cI p=some x
 | [],cur,h,e=>by
   unfold bD at e;cases hl:cI cur with
   | none=>rw[hl] at e;cases e
   | some x =>
     rw[hl] at e;obtain rfl:=Option.some.inj e;exact⟨by simp,fun y hy=>⟨cur,by rw[List.mem_singleton.1 hy];exact hl⟩⟩
 | c::r,cur,h,e=>by
   unfold bD at e;split at e
   · cases hl:cI cur with
     | none=>rw[hl] at e;cases e
     | some x =>
       rw[hl] at e;obtain⟨h',e1,rfl⟩:=Option.map_eq_some_iff.1 e;have ih:=oY r [] h' e1;refine⟨by simp,fun y hy=>?_⟩;rcases List.mem_cons.1 hy with rfl | hy
       · exact⟨cur,hl⟩
       · exact ih.2 y hy
   · exact oY r (cur++[c]) h e
def cD (h:List (List UInt8)):Prop:=h≠[]∧h.length≤6∧aM h≤61∧∀ x∈h,x≠[]∧∀ b∈x,pF b
theorem gX (s:List UInt8)(h:(aI s).2=0):cD (aI s).1:=by
 unfold aI at h ⊢;split
 · rename_i hc;rw[if_pos hc] at h;simp at h
 · rename_i hc;rw[if_neg hc] at h;cases hl:aF s with
   | none=>rw[hl] at h;simp at h
   | some l =>
     rw[hl] at h;simp only at h ⊢;cases hg:bD l [] with
     | none=>rw[hg] at h;simp at h
     | some H =>
       rw[hg] at h;simp only at h ⊢;have hm:=oY l [] H hg;unfold iD at h ⊢;split
       · rename_i hc;rw[if_pos hc] at h;simp at h
       · rename_i hc;simp only[Bool.or_eq_true,decide_eq_true_eq,not_or] at hc;refine⟨hm.1,(by omega:H.length≤6),(by omega:aM H≤61),fun x hx=>?_⟩;obtain⟨p,hp⟩:=hm.2 x hx;exact xP hp
def keyOf (h:List (List UInt8))(k s:UInt8):List UInt8:=aA h.reverse++[k,s]
def lM (b:UInt8):Prop:=b=36∨b=42∨b=33
theorem EU {b:UInt8}(h:lM b)(h':pF b∨b=46):False:=by
 unfold pF at h';rcases h with rfl | rfl | rfl <;> revert h' <;> decide
theorem gG {h:List (List UInt8)}(hp:∀ x∈h,∀ b∈x,pF b):∀ b∈aA h,pF b∨b=46:=by
 cases h with
 | nil=>intro b hb;simp[aA] at hb
 | cons x r =>
   intro b hb;simp only[aA,List.mem_append,List.mem_flatMap,List.mem_cons] at hb;rcases hb with hb | ⟨y,hy,rfl | hb⟩
   · exact Or.inl (hp x (by simp) b hb)
   · exact Or.inr rfl
   · exact Or.inl (hp y (by simp[hy]) b hb)
theorem vR:∀ (D D':List UInt8) (k s k' s':UInt8),(∀ b∈D,pF b∨b=46)→(∀ b∈D',pF b∨b=46)→lM k→lM k'→D++[k,s] <+: D'++[k',s']→D=D'∧k=k'
 | [],[],k,s,k',s',_,_,_,_,h=>by
   obtain⟨t,ht⟩:=h;simp at ht;exact⟨rfl,ht.1⟩
 | [],y::D',k,s,k',s',_,h2,hk,_,h=>by
   obtain⟨t,ht⟩:=h;simp at ht;exact absurd (h2 y (by simp)) (fun e=>EU hk (ht.1 ▸ e))
 | x::D,[],k,s,k',s',h1,_,_,hk',h=>by
   obtain⟨t,ht⟩:=h;simp at ht;exact absurd (h1 x (by simp)) (fun e=>EU hk' (ht.1 ▸ e))
 | x::D,y::D',k,s,k',s',h1,h2,hk,hk',h=>by
   obtain⟨t,ht⟩:=h;simp only[List.cons_append,List.cons.injEq] at ht;obtain⟨e1,e2⟩:=vR D D' k s k' s' (fun b hb=>h1 b (by simp[hb])) (fun b hb=>h2 b (by simp[hb])) hk hk' ⟨t,ht.2⟩;exact⟨by rw[ht.1,e1],e2⟩
theorem J6:∀ (x y u v:List UInt8),(∀ b∈x,b≠46)→(∀ b∈y,b≠46)→x++46::u=y++46::v→x=y∧u=v
 | [],[],u,v,_,_,h=>by simpa using h
 | [],b::y,u,v,_,h2,h=>by
   simp only[List.nil_append,List.cons_append,List.cons.injEq] at h;exact absurd h.1.symm (h2 b (by simp))
 | a::x,[],u,v,h1,_,h=>by
   simp only[List.nil_append,List.cons_append,List.cons.injEq] at h;exact absurd h.1 (h1 a (by simp))
 | a::x,b::y,u,v,h1,h2,h=>by
   simp only[List.cons_append,List.cons.injEq] at h;obtain⟨e1,e2⟩:=J6 x y u v (fun c hc=>h1 c (by simp[hc])) (fun c hc=>h2 c (by simp[hc])) h.2;exact⟨by rw[h.1,e1],e2⟩
theorem cX (x y:List UInt8)(r:List (List UInt8)):aA (x::y::r)=x++46::aA (y::r):=by simp[aA]
theorem jQ:∀ (h h':List (List UInt8)),h≠[]→h'≠[]→(∀ x∈h,∀ b∈x,b≠46)→(∀ x∈h',∀ b∈x,b≠46)→aA h=aA h'→h=h'
 | [],_,n,_,_,_,_=>absurd rfl n
 | _::_,[],_,n,_,_,_=>absurd rfl n
 | [x],[y],_,_,_,_,e=>by simpa[aA] using e
 | [x],y::z::r,_,_,h1,_,e=>by
   rw[cX] at e;simp only[aA,List.flatMap_nil,List.append_nil] at e;exact absurd rfl (h1 x (by simp) 46 (by rw[e];simp))
 | x::y::r,[z],_,_,_,h2,e=>by
   rw[cX] at e;simp only[aA,List.flatMap_nil,List.append_nil] at e;exact absurd rfl (h2 z (by simp) 46 (by rw[←e];simp))
 | x::y::r,x'::y'::r',_,_,h1,h2,e=>by
   rw[cX,cX] at e;obtain⟨e1,e2⟩:=J6 _ _ _ _ (h1 x (by simp)) (h2 x' (by simp)) e;rw[e1,jQ (y::r) (y'::r') (by simp) (by simp) (fun z hz=>h1 z (by simp[hz])) (fun z hz=>h2 z (by simp[hz])) e2]
theorem fJ {b:UInt8}(h:pF b):b≠46:=by
 rintro rfl;revert h;unfold pF;decide
abbrev Rl:=List (List UInt8)×UInt8×UInt8
def aL (r:Rl):List UInt8:=keyOf r.1 r.2.1 r.2.2
def mJ (r:Rl):Prop:=cD r.1∧lM r.2.1
theorem NA {a b:Rl}(ha:mJ a)(hb:mJ b)(h:aL a <+: aL b):a.1=b.1∧a.2.1=b.2.1:=by
 have pa:∀ x∈a.1.reverse,∀ c∈x,pF c:=fun x hx=>(ha.1.2.2.2 x (List.mem_reverse.1 hx)).2;have pb:∀ x∈b.1.reverse,∀ c∈x,pF c:=fun x hx=>(hb.1.2.2.2 x (List.mem_reverse.1 hx)).2;obtain⟨e1,e2⟩:=vR _ _ _ _ _ _ (gG pa) (gG pb) ha.2 hb.2 h;have:=jQ _ _ (by simpa using ha.1.1) (by simpa using hb.1.1) (fun x hx c hc=>fJ (pa x hx c hc)) (fun x hx c hc=>fJ (pb x hx c hc)) e1;exact⟨List.reverse_inj.1 this,e2⟩
theorem kU {l:List Rl}(ho:∀ r∈l,mJ r)(hp:l.Pairwise fun a b=>¬ (a.1=b.1∧a.2.1=b.2.1)):EX (l.map aL):=by
 unfold EX;rw[List.pairwise_map];refine List.Pairwise.imp_of_mem (fun {a b} ha hb hab=>⟨fun e=>hab (NA (ho a ha) (ho b hb) e),fun e=>hab ?_⟩) hp;have:=NA (ho b hb) (ho a ha) e;exact⟨this.1.symm,this.2.symm⟩
end Sx
namespace Sx
theorem AV (a:Wd):¬ a<a:=List.lt_irrefl a
theorem rE {a b c:Wd}(h:a<b)(h':b<c):a<c:=List.lt_trans h h'
theorem GM (a b:Wd)(h:a<b):¬ b<a:=fun h'=>AV a (rE h h')
theorem AT (a b:Wd)(h:¬ a<b):a=b∨b<a:=by
 by_cases h':b<a
 · exact Or.inr h'
 · exact Or.inl (List.le_antisymm (List.not_lt.1 h') (List.not_lt.1 h))
def iW (x:Wd)(m:List Wd):List Wd:=m.takeWhile (fun y=>decide (y<x))++x::m.dropWhile (fun y=>decide (y<x))
def aR (l:List Wd):List Wd:=l.foldl (fun m x=>iW x m) []
theorem qU (x y:Wd)(m:List Wd):y∈iW x m↔y=x∨y∈m:=by
 have h:m.takeWhile (fun y=>decide (y<x))++m.dropWhile (fun y=>decide (y<x))=m:=List.takeWhile_append_dropWhile;have hm:y∈m↔y∈m.takeWhile (fun y=>decide (y<x))∨y∈m.dropWhile (fun y=>decide (y<x)):=by rw[←List.mem_append,h]
 unfold iW;rw[List.mem_append,List.mem_cons,hm];constructor
 · rintro(h | h | h)
   · exact Or.inr (Or.inl h)
   · exact Or.inl h
   · exact Or.inr (Or.inr h)
 · rintro(h | h | h)
   · exact Or.inr (Or.inl h)
   · exact Or.inl h
   · exact Or.inr (Or.inr h)
theorem SH (x y:Wd)(m:List Wd):iW x (y::m)=if y<x then y::iW x m else x::y::m:=by
 unfold iW;by_cases h:y<x
 · simp[h]
 · simp[h]
theorem sN (x:Wd):∀ (m:List Wd),x ∉ m→m.Pairwise (· < ·)→(iW x m).Pairwise (· < ·)
 | [],_,_=>by simp[iW]
 | y::m,hx,hp=>by
   obtain⟨h1,h2⟩:=List.pairwise_cons.1 hp;simp only[List.mem_cons,not_or] at hx;rw[SH];split
   · rename_i h;refine List.pairwise_cons.2 ⟨fun z hz=>?_,sN x m hx.2 h2⟩;rcases(qU x z m).1 hz with rfl | hz
     · exact h
     · exact h1 z hz
   · rename_i h;have hxy:x<y:=by
      rcases AT y x h with e | e
      · exact absurd e.symm hx.1
      · exact e
     refine List.pairwise_cons.2 ⟨fun z hz=>?_,hp⟩;rcases List.mem_cons.1 hz with rfl | hz
     · exact hxy
     · exact rE hxy (h1 z hz)
theorem DD:∀ (l m:List Wd),l.Nodup→(∀ x∈l,x ∉ m)→m.Pairwise (· < ·) →
 (l.foldl (fun m x=>iW x m) m).Pairwise (· < ·)∧∀ y,y∈l.foldl (fun m x=>iW x m) m↔y∈l∨y∈m
 | [],m,_,_,hp=>⟨hp,by simp⟩
 | x::l,m,hn,hd,hp=>by
   obtain⟨n1,n2⟩:=List.nodup_cons.1 hn;obtain⟨e1,e2⟩:=DD l (iW x m) n2 (fun y hy hm=>by
    rcases(qU x y m).1 hm with rfl | hm
    · exact n1 hy
    · exact hd y (by simp[hy]) hm) (sN x m (hd x (by simp)) hp)
   refine⟨e1,fun y=>?_⟩;rw[List.foldl_cons,e2 y,qU,List.mem_cons];constructor
   · rintro(h | h | h)
     · exact Or.inl (Or.inr h)
     · exact Or.inl (Or.inl h)
     · exact Or.inr h
   · rintro((h | h) | h)
     · exact Or.inr (Or.inl h)
     · exact Or.inl h
     · exact Or.inr (Or.inr h)
theorem iJ (l:List Wd)(hn:l.Nodup):(aR l).Pairwise (· < ·)∧∀ y,y∈aR l↔y∈l:=by
 have:=DD l [] hn (by simp) (by simp)
 simpa[aR] using this
theorem yG (l r:List Wd)(hn:l.Nodup)(hp:r.Pairwise (· < ·))(hm:∀ y,y∈r↔y∈l):r=aR l :=
 uZ AV GM r (aR l) hp (iJ l hn).1 (fun x=>(hm x).trans ((iJ l hn).2 x).symm)
theorem eT {l:List Wd}(h:EX l):l.Nodup:=List.Pairwise.imp (fun {a b} (hab:¬ a <+: b∧¬ b <+: a) (e:a=b)=>hab.1 (e ▸ List.prefix_refl a)) h
theorem PW {l:List Wd}(h:EX l):EX (aR l):=by
 have hs:=iJ l (eT h);have key:∀ a∈l,∀ b∈l,a≠b→¬ a <+: b:=by
  intro a ha b hb hab e;obtain⟨i,hi,rfl⟩:=List.mem_iff_getElem.1 ha;obtain⟨j,hj,rfl⟩:=List.mem_iff_getElem.1 hb;rcases Nat.lt_trichotomy i j with h1 | h1 | h1
  · exact(List.pairwise_iff_getElem.1 h i j hi hj h1).1 e
  · subst h1;exact hab rfl
  · exact(List.pairwise_iff_getElem.1 h j i hj hi h1).2 e
 refine List.Pairwise.imp_of_mem (fun {a b} ha hb hab=>?_) hs.1;have hne:a≠b:=fun e=>AV a (e ▸ hab);exact⟨key a ((hs.2 a).1 ha) b ((hs.2 b).1 hb) hne,key b ((hs.2 b).1 hb) a ((hs.2 a).1 ha) (Ne.symm hne)⟩
end Sx
namespace Sx
def two (n:Nat):List UInt8:=[UInt8.ofNat (n / 256),UInt8.ofNat (n % 256)]
def bO (es:List aT):List UInt8:=UInt8.ofNat es.length::es.flatMap fun e=>e.1::two e.2
theorem D9 {a b:Nat}(ha:a<65536)(hb:b<65536)(h:two a=two b):a=b:=by
 simp only[two,List.cons.injEq,and_true] at h;have h1:=congrArg UInt8.toNat h.1;have h2:=congrArg UInt8.toNat h.2;simp only[UInt8.toNat_ofNat'] at h1 h2;omega
theorem yT:∀ (a b:List aT),(∀ e∈a,e.2<65536)→(∀ e∈b,e.2<65536)→(a.flatMap fun e=>e.1::two e.2)=(b.flatMap fun e=>e.1::two e.2)→a=b
 | [],[],_,_,_=>rfl
 | [],y::b,_,_,h=>by simp at h
 | x::a,[],_,_,h=>by simp at h
 | x::a,y::b,ha,hb,h=>by
   simp only[List.flatMap_cons,two,List.cons_append,List.nil_append,List.cons.injEq] at h;have e2:x.2=y.2:=D9 (ha x (by simp)) (hb y (by simp)) (by simp only[two,h.2.1,h.2.2.1]);rw[Prod.ext h.1 e2,yT a b (fun e he=>ha e (by simp[he])) (fun e he=>hb e (by simp[he])) h.2.2.2]
theorem RO {a b:List aT}(ha:∀ e∈a,e.2<65536)(hb:∀ e∈b,e.2<65536)(h:bO a=bO b):a=b :=
 yT a b ha hb (List.cons.inj h).2
theorem nW:∀ (l:List Wd),(∀ w∈l,w≠[])→((grp l).map fun g=>sl g.2+1).sum≤sl l
 | [],_=>by simp[grp]
 | []::r,h=>absurd rfl (h [] (by simp))
 | (c::t)::r,h=>by
   have ih:=nW r (fun w hw=>h w (by simp[hw]));unfold grp;cases hr:grp r with
   | nil=>simp[sl]
   | cons x g =>
     obtain⟨d,b⟩:=x;rw[hr] at ih;by_cases e:d=c
     · simp[e,sl] at ih ⊢;omega
     · simp[e,sl] at ih ⊢;omega
theorem gC:∀ (n:Nat) (tab:List (List aT)) (l:List Wd),kB n l→(∀ es∈tab,∀ e∈es,e.2<tab.length) →
 tab.length≤(bU n tab l).1.length∧(bU n tab l).1.length≤tab.length+sl l+1∧(bU n tab l).2<(bU n tab l).1.length∧∀ es∈(bU n tab l).1,∀ e∈es,e.2<(bU n tab l).1.length
 | 0,_,_,h,_=>absurd h (by simp[kB])
 | n+1,tab,l,ho,ht=>by
   have fold:∀ (gs:List (UInt8×List Wd)) (tab:List (List aT)) (es0:List aT),(∀ g∈gs,kB n g.2)→(∀ es∈tab,∀ e∈es,e.2<tab.length)→(∀ e∈es0,e.2<tab.length) →
    tab.length≤(gs.foldl (bN n) (tab,es0)).1.length∧(gs.foldl (bN n) (tab,es0)).1.length≤tab.length+(gs.map fun g=>sl g.2+1).sum ∧
    (∀ es∈(gs.foldl (bN n) (tab,es0)).1,∀ e∈es,e.2<(gs.foldl (bN n) (tab,es0)).1.length)∧(∀ e∈(gs.foldl (bN n) (tab,es0)).2,e.2<(gs.foldl (bN n) (tab,es0)).1.length):=by
    intro gs
    induction gs with
    | nil=>intro tab es0 _ h1 h2;exact⟨Nat.le_refl _,by simp,h1,h2⟩
    | cons g gs ih =>
      intro tab es0 hg h1 h2;obtain⟨a1,a2,a3,a4⟩:=gC n tab g.2 (hg g (by simp)) h1;obtain⟨b1,b2,b3,b4⟩:=ih (bU n tab g.2).1 (es0++[(g.1,(bU n tab g.2).2)]) (fun y hy=>hg y (by simp[hy])) a4 (fun e he=>by
       rcases List.mem_append.1 he with he | he
       · have:=h2 e he;omega
       · rw[List.mem_singleton.1 he];exact a3)
      rw[List.foldl_cons,show bN n (tab,es0) g=((bU n tab g.2).1,es0++[(g.1,(bU n tab g.2).2)]) from rfl];refine⟨by omega,?_,b3,b4⟩;simp only[List.map_cons,List.sum_cons];omega
   obtain⟨f1,f2,f3,f4⟩:=fold (grp l) tab [] ho.2 ht (by simp);have hs:((grp l).map fun g=>sl g.2+1).sum≤sl l:=by
    rcases ho.1 with rfl | ⟨_,h1⟩
    · simp[grp]
    · exact nW l h1
   rw[fA];generalize (grp l).foldl (bN n) (tab,[])=r at f1 f2 f3 f4;cases hp:bH r.2 r.1 with
   | some i =>
     have:=gU _ _ _ hp;have hi:i<r.1.length:=(List.getElem?_eq_some_iff.1 this).1;exact⟨f1,by simp only;omega,hi,f3⟩
   | none =>
     simp only[List.length_append,List.length_cons,List.length_nil];refine⟨by omega,by omega,by omega,fun es hes e he=>?_⟩;rcases List.mem_append.1 hes with hes | hes
     · have:=f3 es hes e he;omega
     · rw[List.mem_singleton.1 hes] at he;have:=f4 e he;omega
end Sx
namespace Sx
def dH:List UInt8→List UInt8→List (List UInt8)
 | [],cur=>if cur=[] then [] else [cur]
 | x::r,cur=>if x=10 then cur::dH r [] else dH r (cur++[x])
def bJ (s:List UInt8):List (List UInt8):=dH s []
def dV (line:List UInt8):UInt8×List UInt8 :=
 if line.take 2=[42,46] then (42,line.drop 2) else if line.take 1=[33] then (33,line.drop 1) else (36,line)
def cN (line:List UInt8)(sec:UInt8):Option Rl :=
 if (aI (dV line).2).2=0∧((dV line).1=33→1<(aI (dV line).2).1.length) then some ((aI (dV line).2).1,(dV line).1,sec) else none
def known (rs:List Rl)(r:Rl):Bool:=rs.any fun q=>decide (aA q.1=aA r.1) && decide (q.2.1=r.2.1)
def aU (rs:List Rl)(sec:UInt8)(line:List UInt8):(List Rl×UInt8)×Int :=
 if line=[]∨line.take 2=[47,47] then ((rs,sec),0)
 else if line=[61,61,61,105] then ((rs,105),0)
 else if line=[61,61,61,112] then ((rs,112),0)
 else match cN line sec with
  | none=>((rs,sec),3)
  | some r=>if known rs r then ((rs,sec),4) else if rs.length=30 then ((rs,sec),5) else ((rs++[r],sec),0)
def bM:List (List UInt8)→List Rl→UInt8→Int→List Rl×Int×Int
 | [],rs,_,n=>(rs,0,n)
 | x::r,rs,sec,n=>if (aU rs sec x).2=0 then bM r (aU rs sec x).1.1 (aU rs sec x).1.2 (n+1) else (rs,(aU rs sec x).2,n)
def aQ:List (List UInt8)→List Rl→Int→List Rl×Int×Int
 | [],rs,n=>(rs,0,n)
 | s::r,rs,n=>if (bM (bJ s) rs 105 n).2.1=0 then aQ r (bM (bJ s) rs 105 n).1 (bM (bJ s) rs 105 n).2.2 else bM (bJ s) rs 105 n
def eH (tab:List (List aT)):List UInt8:=two tab.length++tab.flatMap bO
def aW (rs:List Rl):List (List aT):=if rs=[] then [] else (bU 64 [] (aR (rs.map aL))).1
def fS (lists:List (List UInt8)):List UInt8×Int×Int :=
 if 2000<sl lists then ([],1,0)
 else if (aQ lists [] 0).2.1=0 then (eH (aW (aQ lists [] 0).1),0,0) else ([],(aQ lists [] 0).2.1,(aQ lists [] 0).2.2)
structure RlsOk (rs:List Rl):Prop where
 ok:∀ r∈rs,mJ r
 apart:rs.Pairwise fun a b=>¬ (a.1=b.1∧a.2.1=b.2.1)
 many:rs.length≤30
theorem GK (line:List UInt8):lM (dV line).1:=by
 unfold dV lM;split
 · exact Or.inr (Or.inl rfl)
 · split
   · exact Or.inr (Or.inr rfl)
   · exact Or.inl rfl
theorem SO {line:List UInt8}{sec:UInt8}{r:Rl}(h:cN line sec=some r):mJ r:=by
 unfold cN at h;split at h
 · rename_i hc;obtain rfl:=Option.some.inj h;exact⟨gX _ hc.1,GK line⟩
 · cases h
theorem vC {rs:List Rl}{sec:UInt8}{line:List UInt8}(h:RlsOk rs):RlsOk (aU rs sec line).1.1:=by
 unfold aU;split
 · exact h
 · split
   · exact h
   · split
     · exact h
     · cases hr:cN line sec with
       | none=>exact h
       | some r =>
         simp only;split
         · exact h
         · rename_i hk;split
           · exact h
           · rename_i hm;refine⟨fun q hq=>?_,?_,?_⟩
             · rcases List.mem_append.1 hq with hq | hq
               · exact h.ok q hq
               · rw[List.mem_singleton.1 hq];exact SO hr
             · rw[List.pairwise_append];refine⟨h.apart,by simp,fun a ha b hb hab=>hk ?_⟩;rw[List.mem_singleton.1 hb] at hab;unfold known;rw[List.any_eq_true];exact⟨a,ha,by simp[hab.1,hab.2]⟩
             · have:=h.many;rw[List.length_append];simp only[List.length_cons,List.length_nil];omega
theorem nP:∀ (l:List (List UInt8)) (rs:List Rl) (sec:UInt8) (n:Int),RlsOk rs→RlsOk (bM l rs sec n).1
 | [],_,_,_,h=>h
 | x::r,rs,sec,n,h=>by
   unfold bM;split
   · exact nP r _ _ _ (vC h)
   · exact h
theorem sJ:∀ (l:List (List UInt8)) (rs:List Rl) (n:Int),RlsOk rs→RlsOk (aQ l rs n).1
 | [],_,_,h=>h
 | s::r,rs,n,h=>by
   unfold aQ;split
   · exact sJ r _ _ (nP _ _ _ _ h)
   · exact nP _ _ _ _ h
theorem nN:RlsOk []:=⟨by simp,by simp,by simp⟩
theorem wC (h:List (List UInt8)):aM h.reverse=aM h:=by
 unfold aM;rw[List.map_reverse,List.sum_reverse]
theorem jC {r:Rl}(h:mJ r):(aL r).length<64:=by
 unfold aL keyOf;have h1:=h.1.2.2.1;rw[List.length_append];simp only[List.length_cons,List.length_nil];have hr:r.1.reverse≠[]:=by simpa using h.1.1
 obtain⟨x,t,ht⟩:=List.exists_cons_of_ne_nil hr;have key:(aA r.1.reverse).length+1=aM r.1.reverse:=by
  rw[ht];have:∀ q:List (List UInt8),(q.flatMap fun y=>46::y).length=aM q:=by
   intro q
   induction q with
   | nil=>rfl
   | cons a q ih=>simp only[List.flatMap_cons,List.length_append,ih,aM,List.map_cons,List.sum_cons,List.length_cons]
  simp only[aA,List.length_append,this,aM,List.map_cons,List.sum_cons];omega
 rw[wC] at key;omega
theorem nV {rs:List Rl}(h:RlsOk rs)(h0:rs≠[]):kB 64 (aR (rs.map aL))∧EX (aR (rs.map aL)):=by
 have hf:=kU h.ok h.apart;have hs:=PW hf;have hm:=(iJ _ (eT hf)).2;refine⟨OC 64 _ hs (fun e=>?_) (fun w hw=>?_),hs⟩
 · obtain⟨r,t,rfl⟩:=List.exists_cons_of_ne_nil h0;have:=(hm (aL r)).2 (by simp);rw[e] at this;cases this
 · obtain⟨r,hr,rfl⟩:=List.mem_map.1 ((hm w).1 hw);exact jC (h.ok r hr)
theorem ZB {rs:List Rl}(h:RlsOk rs)(h0:rs≠[]):((fU 64 [] (aR (rs.map aL))).1.map (·.2))=aW rs:=by
 have:=(tL 64 [] (aR (rs.map aL)) ⟨by simp,by simp,by simp⟩ (nV h h0).1).same;unfold aW;rw[if_neg h0,show([] : List (List aT))=(([] : Sts).map (·.2)) from rfl,this]
end Sx
namespace Sx
def aK (s:List UInt8):Nat:=(s.takeWhile fun x=>decide (x≠10)).length
theorem rB:∀ (s cur:List UInt8),s≠[]∨cur≠[]→dH s cur=(cur++s.take (aK s))::bJ (s.drop (aK s+1))
 | [],cur,h=>by
   have h:cur≠[]:=by rcases h with h | h;exact absurd rfl h;exact h
   simp[dH,h,aK,bJ]
 | x::r,cur,_=>by
   unfold dH;by_cases hx:x=10
   · simp[hx,aK,bJ]
   · rw[if_neg hx,rB r (cur++[x]) (Or.inr (by simp))];have:aK (x::r)=aK r+1:=by simp[aK,hx]
     rw[this];simp
theorem qI {s:List UInt8}(h:s≠[]):bJ s=s.take (aK s)::bJ (s.drop (aK s+1)):=by
 have:=rB s [] (Or.inl h);rw[List.nil_append] at this;exact this
theorem pB (s:List UInt8):aK s≤s.length:=by
 unfold aK;exact(List.takeWhile_sublist _).length_le
theorem wM:∀ {s:List UInt8} {j:Nat},j<aK s→∀ hs:j<s.length,s[j]≠10
 | [],j,h,hs=>by simp at hs
 | x::r,j,h,hs=>by
   by_cases hx:x=10
   · simp[aK,hx] at h
   · have e:aK (x::r)=aK r+1:=by simp[aK,hx]
     cases j with
     | zero=>exact hx
     | succ j =>
       rw[e] at h;exact wM (s:=r) (j:=j) (by omega) (by simpa using hs)
theorem KH {s:List UInt8}(h:aK s<s.length):s[aK s]=10:=by
 induction s with
 | nil=>simp at h
 | cons x r ih =>
   by_cases hx:x=10
   · simp[aK,hx]
   · have e:aK (x::r)=aK r+1:=by simp[aK,hx]
     have h2:aK r<r.length:=by rw[e] at h;simpa using h
     have:=ih h2;simp only[e,List.getElem_cons_succ];exact this
theorem rI (c:UInt8):∀ (b:List Wd) (rest:List Wd),b≠[]→(∀ w∈rest,w≠[])→(∀ d t r,rest=(d::t)::r→d≠c)→grp (b.map (c :: ·)++rest)=(c,b)::grp rest
 | [],_,h,_,_=>absurd rfl h
 | [t],rest,_,hne,hr=>by
   cases rest with
   | nil=>simp[grp]
   | cons x r =>
     cases x with
     | nil=>exact absurd rfl (hne [] (by simp))
     | cons d u =>
       have hd:=hr d u r rfl;have:∃ b g,grp ((d::u)::r)=(d,b)::g:=by
        unfold grp;cases hg:grp r with
        | nil=>exact⟨_,_,rfl⟩
        | cons y g =>
          obtain⟨e,b⟩:=y;by_cases he:e=d
          · subst he;exact⟨u::b,g,by simp⟩
          · exact⟨[u],(e,b)::g,by simp[he]⟩
       obtain⟨b,g,hg⟩:=this;rw[show List.map (c :: ·) [t]++(d::u)::r=(c::t)::(d::u)::r from rfl,grp,hg];simp[hd]
 | t::t2::b,rest,_,hne,hr=>by
   have ih:=rI c (t2::b) rest (by simp) hne hr;rw[show List.map (c :: ·) (t::t2::b)++rest=(c::t)::(List.map (c :: ·) (t2::b)++rest) from rfl,grp,ih];simp
def pD (l:List Wd):List UInt8:=l.flatMap (· ++ [10])
theorem wP:∀ (a b x y:List UInt8),(10:UInt8) ∉ a→(10:UInt8) ∉ b→a++10::x=b++10::y→a=b∧x=y
 | [],[],x,y,_,_,h=>by simpa using h
 | [],d::b,x,y,_,hb,h=>by
   simp only[List.nil_append,List.cons_append,List.cons.injEq] at h;exact absurd (by simp[←h.1]) hb
 | c::a,[],x,y,ha,_,h=>by
   simp only[List.nil_append,List.cons_append,List.cons.injEq] at h;exact absurd (by simp[h.1]) ha
 | c::a,d::b,x,y,ha,hb,h=>by
   simp only[List.cons_append,List.cons.injEq] at h;simp only[List.mem_cons,not_or] at ha hb;obtain⟨h1,h2⟩:=wP a b x y ha.2 hb.2 h.2;exact⟨by rw[h.1,h1],h2⟩
def vL (l:List Wd):Prop:=∀ w∈l,(10:UInt8) ∉ w
theorem FD:∀ (a b:List Wd),vL a→vL b→pD a=pD b→a=b
 | [],[],_,_,_=>rfl
 | [],y::b,_,_,h=>by simp[pD] at h
 | x::a,[],_,_,h=>by simp[pD] at h
 | x::a,y::b,ha,hb,h=>by
   simp only[pD,List.flatMap_cons,List.append_assoc,List.cons_append,List.nil_append] at h;obtain⟨h1,h2⟩:=wP x y _ _ (ha x (by simp)) (hb y (by simp)) h;rw[h1,FD a b (fun w hw=>ha w (by simp[hw])) (fun w hw=>hb w (by simp[hw])) h2]
theorem yZ {α β:Type} [DecidableEq α] [DecidableEq β] (f:α→β)(x:α):∀ (l:List α),(∀ y∈l,f y=f x→y=x)→bH (f x) (l.map f)=bH x l
 | [],_=>rfl
 | y::r,h=>by
   simp only[List.map_cons,bH];by_cases e:y=x
   · simp[e]
   · rw[if_neg e,if_neg (fun e2=>e (h y (by simp) e2)),yZ f x r (fun z hz=>h z (by simp[hz]))]
theorem uV:∀ (l:List Wd),vL l→∀ g∈grp l,vL g.2
 | [],_,g,hg=>by simp[grp] at hg
 | []::r,h,g,hg=>uV r (fun w hw=>h w (by simp[hw])) g (by simpa[grp] using hg)
 | (c::t)::r,h,g,hg=>by
   have ih:=uV r (fun w hw=>h w (by simp[hw]));have ht:(10:UInt8) ∉ t:=fun e=>h (c::t) (by simp) (by simp[e]);unfold grp at hg;cases hr:grp r with
   | nil =>
     rw[hr] at hg;simp only[List.mem_singleton] at hg;subst hg;intro w hw;simp only[List.mem_singleton] at hw;rw[hw];exact ht
   | cons x g' =>
     obtain⟨d,b⟩:=x;rw[hr] at hg ih;by_cases e:d=c
     · simp only[if_pos e,List.mem_cons] at hg;rcases hg with rfl | hg
       · intro w hw;rcases List.mem_cons.1 hw with rfl | hw
         · exact ht
         · exact ih (d,b) (by simp) w hw
       · exact ih g (by simp[hg])
     · simp only[if_neg e,List.mem_cons] at hg;rcases hg with rfl | rfl | hg
       · intro w hw;simp only[List.mem_singleton] at hw;rw[hw];exact ht
       · exact ih (d,b) (by simp)
       · exact ih g (by simp[hg])
end Sx
namespace Sx
theorem mS:∀ (L:List Wd),(∀ w∈L,w≠[])→L≠[]→∃ (c:UInt8) (b:List Wd) (rest:List Wd),L=b.map (c :: ·)++rest∧b≠[]∧∀ d t r,rest=(d::t)::r→d≠c
 | [],_,h=>absurd rfl h
 | []::r,h,_=>absurd rfl (h [] (by simp))
 | [c::t],_,_=>⟨c,[t],[],by simp,by simp,by simp⟩
 | (c::t)::y::r,h,_=>by
   obtain⟨d,b,rest,h1,h2,h3⟩:=mS (y::r) (fun w hw=>h w (List.mem_cons_of_mem _ hw)) (by simp);by_cases e:d=c
   · subst e;exact⟨d,t::b,rest,by rw[h1];simp,by simp,h3⟩
   · refine⟨c,[t],y::r,by simp,by simp,fun d' t' r' h'=>?_⟩;obtain⟨u,b',rfl⟩:=List.exists_cons_of_ne_nil h2;rw[h'] at h1;simp only[List.map_cons,List.cons_append,List.cons.injEq] at h1;rw[h1.1.1];exact e
theorem vM:∀ (n:Nat) (all:Sts) (l:List Wd),kB n l→(fU n all l).1.length≤all.length+sl l+1
 | 0,_,_,h=>absurd h (by simp[kB])
 | n+1,all,l,ho=>by
   have fold:∀ (gs:List (UInt8×List Wd)) (s:Sts×List aT),(∀ g∈gs,kB n g.2)→(gs.foldl (vB n) s).1.length≤s.1.length+(gs.map fun g=>sl g.2+1).sum:=by
    intro gs
    induction gs with
    | nil=>intro s _;simp
    | cons g gs ih =>
      intro s hg;have a1:=vM n s.1 g.2 (hg g (by simp));have a2:=ih (vB n s g) (fun y hy=>hg y (by simp[hy]));rw[List.foldl_cons];simp only[List.map_cons,List.sum_cons];simp only[vB] at a2 ⊢;omega
   have f:=fold (grp l) (all,[]) ho.2;have hs:((grp l).map fun g=>sl g.2+1).sum≤sl l:=by
    rcases ho.1 with rfl | ⟨_,h1⟩
    · simp[grp]
    · exact nW l h1
   rw[gR];split
   · simp only;omega
   · simp only[List.length_append,List.length_cons,List.length_nil] at f ⊢;omega
theorem vP {n:Nat}{l:List Wd}(ho:kB (n+1) l):((grp l).map fun g=>sl g.2+1).sum≤sl l:=by
 rcases ho.1 with rfl | ⟨_,h1⟩
 · simp[grp]
 · exact nW l h1
end Sx
namespace Sx
def mB:Nat→List (List aT)→Nat→List Wd
 | 0,_,_=>[]
 | f+1,tab,i=>match tab[i]? with
   | none=>[]
   | some []=>[[]]
   | some (e::es)=>(e::es).flatMap fun e=>(mB f tab e.2).map (e.1 :: ·)
def Closed (tab:List (List aT)):Prop:=∀ es∈tab,∀ e∈es,e.2<tab.length
theorem qE {tab:List (List aT)}(hc:Closed tab)(ext:List (List aT)):∀ (f i:Nat),i<tab.length→mB f (tab++ext) i=mB f tab i
 | 0,_,_=>rfl
 | f+1,i,hi=>by
   have h1:(tab++ext)[i]? = tab[i]?:=List.getElem?_append_left hi;unfold mB;rw[h1];cases ht:tab[i]? with
   | none=>rfl
   | some es =>
     cases es with
     | nil=>rfl
     | cons e es =>
       have hm:=List.mem_of_getElem? ht;simp only;rw[List.flatMap_def,List.flatMap_def];congr 1;apply List.map_congr_left;intro x hx;rw[qE hc ext f x.2 (hc _ hm x hx)]
theorem uB:∀ (n:Nat) (tab:List (List aT)) (l:List Wd),∃ ext,(bU n tab l).1=tab++ext
 | 0,tab,_=>⟨[],by simp[bU]⟩
 | n+1,tab,l=>by
   have fold:∀ (gs:List (UInt8×List Wd)) (s:List (List aT)×List aT),∃ ext,(gs.foldl (bN n) s).1=s.1++ext:=by
    intro gs
    induction gs with
    | nil=>intro s;exact⟨[],by simp⟩
    | cons g gs ih =>
      intro s;obtain⟨e1,h1⟩:=uB n s.1 g.2;obtain⟨e2,h2⟩:=ih (bN n s g);refine⟨e1++e2,?_⟩;rw[List.foldl_cons,h2];simp only[bN];rw[h1,List.append_assoc]
   obtain⟨ext,hx⟩:=fold (grp l) (tab,[]);rw[fA];split
   · exact⟨ext,hx⟩
   · exact⟨ext++[_],by rw[hx,List.append_assoc]⟩
theorem IG:∀ (n:Nat) (tab:List (List aT)) (l:List Wd),kB n l→Closed tab→mB n (bU n tab l).1 (bU n tab l).2=l
 | 0,_,_,h,_=>absurd h (by simp[kB])
 | n+1,tab,l,ho,hc=>by
   have fold:∀ (gs:List (UInt8×List Wd)) (tab:List (List aT)) (es:List aT) (done:List (UInt8×List Wd)),(∀ g∈gs,kB n g.2)→Closed tab→(∀ e∈es,e.2<tab.length)→es.map (fun e=>(e.1,mB n tab e.2))=done →
    Closed (gs.foldl (bN n) (tab,es)).1∧(∀ e∈(gs.foldl (bN n) (tab,es)).2,e.2<(gs.foldl (bN n) (tab,es)).1.length)∧(gs.foldl (bN n) (tab,es)).2.map (fun e=>(e.1,mB n (gs.foldl (bN n) (tab,es)).1 e.2))=done++gs:=by
    intro gs
    induction gs with
    | nil=>intro tab es done _ h1 h2 h3;exact⟨h1,h2,by simpa using h3⟩
    | cons g gs ih =>
      intro tab es done hg h1 h2 h3;obtain⟨a1,a2,a3,a4⟩:=gC n tab g.2 (hg g (by simp)) h1;have a5:=IG n tab g.2 (hg g (by simp)) h1;obtain⟨ext,hx⟩:=uB n tab g.2;have h4:(es++[(g.1,(bU n tab g.2).2)]).map (fun e=>(e.1,mB n (bU n tab g.2).1 e.2))=done++[g]:=by
       rw[List.map_append];congr 1
       · rw[←h3];apply List.map_congr_left;intro e he;rw[hx,qE h1 ext n e.2 (h2 e he)]
       · simp only[List.map_cons,List.map_nil,a5]
      have:=ih (bU n tab g.2).1 (es++[(g.1,(bU n tab g.2).2)]) (done++[g]) (fun y hy=>hg y (by simp[hy])) a4 (fun e he=>by
       rcases List.mem_append.1 he with he | he
       · have:=h2 e he;omega
       · rw[List.mem_singleton.1 he];exact a3) h4
      rw[List.foldl_cons,show bN n (tab,es) g=((bU n tab g.2).1,es++[(g.1,(bU n tab g.2).2)]) from rfl];refine⟨this.1,this.2.1,?_⟩;rw[this.2.2];simp
   obtain⟨f1,f2,f3⟩:=fold (grp l) tab [] [] ho.2 hc (by simp) rfl;rw[List.nil_append] at f3;have key:∀ (T:List (List aT)) (i:Nat),T[i]? = some ((grp l).foldl (bN n) (tab,[])).2→(∀ e∈((grp l).foldl (bN n) (tab,[])).2,mB n T e.2=mB n ((grp l).foldl (bN n) (tab,[])).1 e.2)→mB (n+1) T i=l:=by
    intro T i hT hw;unfold mB;rw[hT];rcases ho.1 with rfl | ⟨_,hne⟩
    · have:((grp [[]]).foldl (bN n) (tab,[])).2=[]:=rfl;rw[this]
    · have hu:=jG l hne;cases hE:((grp l).foldl (bN n) (tab,[])).2 with
      | nil =>
        rw[hE] at f3;simp only[List.map_nil] at f3;rw[←f3] at hu;exfalso;have h0:l=[]:=by rw[←hu];rfl
        rcases ho.1 with h | h
        · rw[h] at h0;cases h0
        · exact h.1 h0
      | cons e es =>
        simp only;rw[hE] at f3 hw
        conv=>rhs;rw[←hu,←f3]
        unfold uT;rw[List.flatMap_map,List.flatMap_def,List.flatMap_def];congr 1;apply List.map_congr_left;intro x hx;rw[hw x hx]
   rw[fA];cases hp:bH ((grp l).foldl (bN n) (tab,[])).2 ((grp l).foldl (bN n) (tab,[])).1 with
   | some i=>exact key _ _ (gU _ _ _ hp) (fun _ _=>rfl)
   | none =>
     refine key _ _ ?_ (fun e he=>qE f1 _ n e.2 (f2 e he));simp
end Sx
namespace Sx
def cU:Nat→List UInt8→Option (List aT×List UInt8)
 | 0,b=>some ([],b)
 | k+1,c::h::l::b=>(cU k b).map fun x=>((c,h.toNat*256+l.toNat)::x.1,x.2)
 | _+1,_=>none
def dN:Nat→Nat→List UInt8→Option (List (List aT))
 | 0,_,b=>if b=[] then some [] else none
 | _+1,_,[]=>none
 | m+1,n,k::r=>match cU k.toNat r with
   | none=>none
   | some (es,r')=>if (es=[]↔n=0)∧∀ e∈es,e.2<n then (dN m (n+1) r').map (es :: ·) else none
def cH:List UInt8→Option (List (List aT))
 | h::l::r=>dN (h.toNat*256+l.toNat) 0 r
 | _=>none
theorem DX (n:Nat)(h:n<65536):(UInt8.ofNat (n / 256)).toNat*256+(UInt8.ofNat (n % 256)).toNat=n:=by
 simp only[UInt8.toNat_ofNat'];omega
theorem pZ:∀ (es:List aT) (r:List UInt8),(∀ e∈es,e.2<65536)→cU es.length ((es.flatMap fun e=>e.1::two e.2)++r)=some (es,r)
 | [],r,_=>rfl
 | e::es,r,h=>by
   have ih:=pZ es r (fun x hx=>h x (by simp[hx]));simp only[List.flatMap_cons,two,List.cons_append,List.nil_append,List.length_cons,cU];simp only[two] at ih;rw[ih];simp only[Option.map_some,DX e.2 (h e (by simp))]
def cO (tab:List (List aT)):Prop:=∀ i es,tab[i]? = some es→(es=[]↔i=0)∧∀ e∈es,e.2<i
theorem uY:∀ (rest tab:List (List aT)),cO (tab++rest)→(∀ es∈rest,es.length<256∧∀ e∈es,e.2<65536)→dN rest.length tab.length (rest.flatMap bO)=some rest
 | [],tab,_,_=>rfl
 | es::rest,tab,ho,hb=>by
   obtain⟨h1,h2⟩:=hb es (by simp);have hk:(UInt8.ofNat es.length).toNat=es.length:=by simp only[UInt8.toNat_ofNat'];omega
   have hi:=ho tab.length es (by simp);have ih:=uY rest (tab++[es]) (by simpa using ho) (fun x hx=>hb x (by simp[hx]));rw[List.length_append,List.length_singleton] at ih;simp only[List.length_cons,List.flatMap_cons];rw[show bO es++rest.flatMap bO=UInt8.ofNat es.length::((es.flatMap fun e=>e.1::two e.2)++rest.flatMap bO) from rfl];simp only[dN];rw[hk,pZ es _ h2];simp only;rw[if_pos ⟨hi.1,hi.2⟩,ih];rfl
theorem IW {tab:List (List aT)}(ho:cO tab)(hl:tab.length<65536)(hb:∀ es∈tab,es.length<256):cH (eH tab)=some tab:=by
 have h2:∀ es∈tab,es.length<256∧∀ e∈es,e.2<65536:=by
  intro es hes;refine⟨hb es hes,fun e he=>?_⟩;obtain⟨i,hi,rfl⟩:=List.mem_iff_getElem.1 hes;have:=(ho i tab[i] (List.getElem?_eq_getElem hi)).2 e he;omega
 have:=uY tab [] (by simpa using ho) h2;unfold eH cH;simp only[two,List.cons_append,List.nil_append,DX tab.length hl];exact this
theorem BB:∀ l:List Wd,(grp l).length≤l.length
 | []=>by simp[grp]
 | []::r=>by have:=BB r;simp only[grp,List.length_cons];omega
 | (c::t)::r=>by
   have ih:=BB r;unfold grp;cases hr:grp r with
   | nil=>simp
   | cons x g =>
     obtain⟨d,b⟩:=x;rw[hr] at ih;by_cases e:d=c
     · simp only[e,if_true,List.length_cons] at ih ⊢;omega
     · simp only[e,if_false,List.length_cons] at ih ⊢;omega
theorem wF:∀ (l:List Wd),∀ g∈grp l,g.2.length≤l.length
 | [],g,hg=>by simp[grp] at hg
 | []::r,g,hg=>by have:=wF r g (by simpa[grp] using hg);simp only[List.length_cons];omega
 | (c::t)::r,g,hg=>by
   have ih:=wF r;unfold grp at hg;cases hr:grp r with
   | nil =>
     rw[hr] at hg;simp only[List.mem_singleton] at hg;subst hg;simp
   | cons x g' =>
     obtain⟨d,b⟩:=x;rw[hr] at hg ih;by_cases e:d=c
     · simp only[if_pos e,List.mem_cons] at hg;rcases hg with rfl | hg
       · have:=ih (d,b) (by simp);simp only[List.length_cons] at this ⊢;omega
       · have:=ih g (by simp[hg]);simp only[List.length_cons];omega
     · simp only[if_neg e,List.mem_cons] at hg;rcases hg with rfl | rfl | hg
       · simp
       · have:=ih (d,b) (by simp);simp only[List.length_cons] at this ⊢;omega
       · have:=ih g (by simp[hg]);simp only[List.length_cons];omega
theorem uC {tab:List (List aT)}(h:cO tab):Closed tab:=by
 intro es hes e he;obtain⟨i,hi,rfl⟩:=List.mem_iff_getElem.1 hes;have:=(h i tab[i] (List.getElem?_eq_getElem hi)).2 e he;omega
theorem EF (n:Nat):∀ (gs:List (UInt8×List Wd)) (s:List (List aT)×List aT),(gs.foldl (bN n) s).2.length=s.2.length+gs.length
 | [],s=>by simp
 | g::gs,s=>by
   rw[List.foldl_cons,EF n gs];simp only[bN,List.length_append,List.length_cons,List.length_nil];omega
theorem lJ:∀ (n:Nat) (tab:List (List aT)) (l:List Wd) (N:Nat),kB n l→l.length≤N→cO tab→(∀ es∈tab,es.length≤N)→cO (bU n tab l).1∧∀ es∈(bU n tab l).1,es.length≤N
 | 0,_,_,_,h,_,_,_=>absurd h (by simp[kB])
 | n+1,tab,l,N,ho,hN,hO,hE=>by
   have fold:∀ (gs:List (UInt8×List Wd)) (tab:List (List aT)) (es:List aT),(∀ g∈gs,kB n g.2∧g.2.length≤N)→cO tab→(∀ x∈tab,x.length≤N)→(∀ e∈es,e.2<tab.length) →
    cO (gs.foldl (bN n) (tab,es)).1∧(∀ x∈(gs.foldl (bN n) (tab,es)).1,x.length≤N)∧∀ e∈(gs.foldl (bN n) (tab,es)).2,e.2<(gs.foldl (bN n) (tab,es)).1.length:=by
    intro gs
    induction gs with
    | nil=>intro tab es _ h1 h2 h3;exact⟨h1,h2,h3⟩
    | cons g gs ih =>
      intro tab es hg h1 h2 h3;obtain⟨g1,g2⟩:=hg g (by simp);obtain⟨a1,a2⟩:=lJ n tab g.2 N g1 g2 h1 h2;obtain⟨b1,b2,b3,b4⟩:=gC n tab g.2 g1 (uC h1);rw[List.foldl_cons,show bN n (tab,es) g=((bU n tab g.2).1,es++[(g.1,(bU n tab g.2).2)]) from rfl];exact ih _ _ (fun y hy=>hg y (by simp[hy])) a1 a2 (fun e he=>by
       rcases List.mem_append.1 he with he | he
       · have:=h3 e he;omega
       · rw[List.mem_singleton.1 he];exact b3)
   obtain⟨f1,f2,f3⟩:=fold (grp l) tab [] (fun g hg=>⟨ho.2 g hg,Nat.le_trans (wF l g hg) hN⟩) hO hE (by simp);have fl:=EF n (grp l) (tab,[]);have gl:=BB l;rw[fA];cases hp:bH ((grp l).foldl (bN n) (tab,[])).2 ((grp l).foldl (bN n) (tab,[])).1 with
   | some i=>exact⟨f1,f2⟩
   | none =>
     have hno:=(eV _ _).1 hp;generalize (grp l).foldl (bN n) (tab,[])=r at f1 f2 f3 fl hno;simp only[List.length_nil,Nat.zero_add] at fl;refine⟨fun i es hi=>?_,fun x hx=>?_⟩
     · by_cases hlt:i<r.1.length
       · rw[List.getElem?_append_left hlt] at hi;exact f1 i es hi
       · rw[List.getElem?_append_right (by omega)] at hi;have h0:i-r.1.length=0:=by
          by_cases h:i-r.1.length=0
          · exact h
          · rw[List.getElem?_eq_none (by simp;omega)] at hi;cases hi
         rw[h0] at hi;simp only[List.getElem?_cons_zero,Option.some.injEq] at hi;subst hi;have hii:i=r.1.length:=by omega
         subst hii;refine⟨⟨fun e=>?_,fun e=>?_⟩,f3⟩
         · by_cases hz:r.1.length=0
           · exact hz
           · exfalso;have h1:0<r.1.length:=by omega
             have h2:=f1 0 r.1[0] (List.getElem?_eq_getElem h1);apply hno;rw[e,←h2.1.2 rfl];exact List.getElem_mem h1
         · cases hr:r.2 with
           | nil=>rfl
           | cons x xs=>have:=f3 x (by rw[hr];simp);omega
     · rcases List.mem_append.1 hx with hx | hx
       · exact f2 x hx
       · rw[List.mem_singleton.1 hx];omega
end Sx
namespace Sx
theorem XW (l:List Wd)(m:Nat)(h:∀ x∈l,x.length≤m):sl l≤l.length*m:=by
 induction l with
 | nil=>simp[sl]
 | cons x l ih =>
   have h1:=h x (by simp);have h2:=ih (fun y hy=>h y (by simp[hy]));simp only[sl,List.map_cons,List.sum_cons,List.length_cons] at h2 ⊢;rw[Nat.succ_mul];omega
theorem lU (l:List Wd):∀ m:List Wd,(l.foldl (fun m x=>iW x m) m).length=l.length+m.length:=by
 induction l with
 | nil=>simp
 | cons x l ih =>
   intro m;have h:(m.takeWhile (fun y=>decide (y<x))++m.dropWhile (fun y=>decide (y<x))).length=m.length:=by rw[List.takeWhile_append_dropWhile]
   have h2:(iW x m).length=m.length+1:=by
    unfold iW;simp only[List.length_append,List.length_cons] at h ⊢;omega
   rw[List.foldl_cons,ih,h2,List.length_cons];omega
theorem uU {n:Nat}{l:List Wd}(h:kB n l):(bU n [] l).2+1=(bU n [] l).1.length:=by
 have hs:=(tL n [] l ⟨by simp,by simp,by simp⟩ h).same;rw[List.map_nil] at hs;rw[hs];cases n with
 | zero=>exact absurd h (by simp[kB])
 | succ n =>
   rw[gR];simp only[List.map_nil,bH,List.length_map,List.length_append,List.length_cons,List.length_nil]
theorem zU {rs:List Rl}(h:RlsOk rs)(h0:rs≠[]):cH (eH (aW rs))=some (aW rs)∧aW rs≠[]∧mB 64 (aW rs) ((aW rs).length-1)=aR (rs.map aL)∧(aW rs).length≤2000:=by
 have hk:=(nV h h0).1;have hm:=(iJ _ (eT (kU h.ok h.apart))).2;have hlen:(aR (rs.map aL)).length=rs.length:=by
  have:=lU (rs.map aL) [];unfold aR;rw[this,List.length_map];rfl
 have hsl:=XW (aR (rs.map aL)) 63 (fun w hw=>by
  obtain⟨r,hr,rfl⟩:=List.mem_map.1 ((hm w).1 hw);have:=jC (h.ok r hr);omega)
 rw[hlen] at hsl;have hmany:=h.many;have htab:aW rs=(bU 64 [] (aR (rs.map aL))).1:=by unfold aW;rw[if_neg h0]
 obtain⟨l1,l2,l3,l4⟩:=gC 64 [] (aR (rs.map aL)) hk (by simp);obtain⟨o1,o2⟩:=lJ 64 [] (aR (rs.map aL)) 30 hk (by omega) (by intro i es hi;simp at hi) (by simp);have hf:=uU hk;have hw:=IG 64 [] (aR (rs.map aL)) hk (by intro es hes;simp at hes);rw[←htab] at l2 l3 o1 o2 hf hw;simp only[List.length_nil] at l2;refine⟨IW o1 (by omega) (fun es hes=>by have:=o2 es hes;omega),fun e=>by rw[e] at hf;simp at hf,?_,by omega⟩;rw[show(aW rs).length-1=(bU 64 [] (aR (rs.map aL))).2 by omega];exact hw
theorem oN:cH (eH (aW []))=some []:=by decide
end Sx
/- Plain mathematics of UTF-8: aF of a text,and back. -/
namespace Sx
def Good (c:Int):Prop:=0≤c∧c≤1114111∧¬ (55296≤c∧c≤57343)
theorem JW (n:Int)(h0:0≤n)(h:n<256):(UInt8.ofNat n.toNat).toNat=n.toNat:=by
 simp only[UInt8.toNat_ofNat'];omega
theorem MU (c:Int)(r:List UInt8)(h:Good c):one (fV c++r)=some (c,r):=by
 obtain⟨h0,h1,h2⟩:=h;unfold fV;by_cases a1:c<128
 · rw[if_pos a1];have e:=JW c h0 (by omega);simp only[List.cons_append,List.nil_append,one,lead];rw[e,if_pos (by omega)];simp only[rest,cB];rw[if_neg (by omega)];simp;omega
 · rw[if_neg a1];by_cases a2:c<2048
   · rw[if_pos a2];have e1:=JW (192+c / 64) (by omega) (by omega);have e2:=JW (128+c % 64) (by omega) (by omega);simp only[List.cons_append,List.nil_append,one,lead];rw[e1,if_neg (by omega),if_pos (by omega)];simp only[rest,cB];rw[e2,if_pos (by omega)];simp only;rw[if_neg (by omega)];congr 2;omega
   · rw[if_neg a2];by_cases a3:c<65536
     · rw[if_pos a3];have e1:=JW (224+c / 4096) (by omega) (by omega);have e2:=JW (128+c / 64 % 64) (by omega) (by omega);have e3:=JW (128+c % 64) (by omega) (by omega);simp only[List.cons_append,List.nil_append,one,lead];rw[e1,if_neg (by omega),if_neg (by omega),if_pos (by omega)];simp only[rest,cB];rw[e2,if_pos (by omega),e3,if_pos (by omega)];simp only;rw[if_neg (by omega)];congr 2;omega
     · rw[if_neg a3];have e1:=JW (240+c / 262144) (by omega) (by omega);have e2:=JW (128+c / 4096 % 64) (by omega) (by omega);have e3:=JW (128+c / 64 % 64) (by omega) (by omega);have e4:=JW (128+c % 64) (by omega) (by omega);simp only[List.cons_append,List.nil_append,one,lead];rw[e1,if_neg (by omega),if_neg (by omega),if_neg (by omega),if_pos (by omega)];simp only[rest,cB];rw[e2,if_pos (by omega),e3,if_pos (by omega),e4,if_pos (by omega)];simp only;rw[if_neg (by omega)];congr 2;omega
theorem eE:∀ (m:List Int),(∀ c∈m,Good c)→aF (text m)=some m:=by
 intro m
 induction m with
 | nil=>intro _;rfl
 | cons c m ih =>
   intro h;have e:text (c::m)=fV c++text m:=by simp[text]
   rw[e,iQ _ c (text m) (MU c _ (h c (List.mem_cons_self ..))),ih (fun x hx=>h x (List.mem_cons_of_mem _ hx))];rfl
theorem IX (c:Int)(h:Good c):Go.Utf8.encode c=⟨(fV c).toArray⟩:=by
 obtain⟨h0,h1,h2⟩:=h;have hv:Go.Utf8.valid c=true:=by unfold Go.Utf8.valid;simp;omega
 unfold Go.Utf8.encode fV;simp only[hv,if_true];by_cases a1:c<128
 · rw[if_pos (by omega),if_pos a1]
 · rw[if_neg (by omega),if_neg a1];by_cases a2:c<2048
   · rw[if_pos (by omega),if_pos a2,show(192+c / 64).toNat=192+c.toNat / 64 from by omega,show(128+c % 64).toNat=128+c.toNat % 64 from by omega]
   · rw[if_neg (by omega),if_neg a2];by_cases a3:c<65536
     · rw[if_pos (by omega),if_pos a3,show(224+c / 4096).toNat=224+c.toNat / 4096 from by omega,show(128+c / 64 % 64).toNat=128+c.toNat / 64 % 64 from by omega,show(128+c % 64).toNat=128+c.toNat % 64 from by omega]
     · rw[if_neg (by omega),if_neg a3,show(240+c / 262144).toNat=240+c.toNat / 262144 from by omega,show(128+c / 4096 % 64).toNat=128+c.toNat / 4096 % 64 from by omega,show(128+c / 64 % 64).toNat=128+c.toNat / 64 % 64 from by omega,show(128+c % 64).toNat=128+c.toNat % 64 from by omega]
theorem KU (m:List Int)(h:∀ c∈m,Good c):Go.runesBytes m=⟨(text m).toArray⟩:=by
 have key:∀ (m:List Int) (acc:List UInt8),(∀ c∈m,Good c)→m.foldl (fun r n=>r++Go.Utf8.encode n) (⟨acc.toArray⟩:ByteArray)=⟨(acc++text m).toArray⟩:=by
  intro m
  induction m with
  | nil=>intro acc _;simp[text]
  | cons c m ih =>
    intro acc hm;rw[List.foldl_cons,IX c (hm c (List.mem_cons_self ..))];have e:(⟨acc.toArray⟩:ByteArray)++⟨(fV c).toArray⟩=⟨(acc++fV c).toArray⟩:=by apply ByteArray.ext;simp
    rw[e,ih _ (fun x hx=>hm x (List.mem_cons_of_mem _ hx))];simp[text]
 have:=key m [] h;unfold Go.runesBytes;exact this
end Sx
