import Derived.Test.YtgohllfpceeboabGreatDoorAnbd
namespace Sx
theorem yC (k:Nat):∀ (n:Nat) (tab:List (List aT)) (l:List Wd),kB n l→Closed tab→mB (n+k) (bU n tab l).1 (bU n tab l).2=l
 | 0,_,_,h,_=>absurd h (by simp[kB])
 | n+1,tab,l,ho,hc=>by
   have fold:∀ (gs:List (UInt8×List Wd)) (tab:List (List aT)) (es:List aT) (done:List (UInt8×List Wd)),(∀ g∈gs,kB n g.2)→Closed tab→(∀ e∈es,e.2<tab.length)→es.map (fun e=>(e.1,mB (n+k) tab e.2))=done →
    Closed (gs.foldl (bN n) (tab,es)).1∧(∀ e∈(gs.foldl (bN n) (tab,es)).2,e.2<(gs.foldl (bN n) (tab,es)).1.length)∧(gs.foldl (bN n) (tab,es)).2.map (fun e=>(e.1,mB (n+k) (gs.foldl (bN n) (tab,es)).1 e.2))=done++gs:=by
    intro gs
    induction gs with
    | nil=>intro tab es done _ h1 h2 h3;exact⟨h1,h2,by simpa using h3⟩
    | cons g gs ih =>
      intro tab es done hg h1 h2 h3;obtain⟨a1,a2,a3,a4⟩:=gC n tab g.2 (hg g (by simp)) h1;have a5:=yC k n tab g.2 (hg g (by simp)) h1;obtain⟨ext,hx⟩:=uB n tab g.2;have h4:(es++[(g.1,(bU n tab g.2).2)]).map (fun e=>(e.1,mB (n+k) (bU n tab g.2).1 e.2))=done++[g]:=by
       rw[List.map_append];congr 1
       · rw[←h3];apply List.map_congr_left;intro e he;rw[hx,qE h1 ext (n+k) e.2 (h2 e he)]
       · simp only[List.map_cons,List.map_nil,a5]
      have:=ih (bU n tab g.2).1 (es++[(g.1,(bU n tab g.2).2)]) (done++[g]) (fun y hy=>hg y (by simp[hy])) a4 (fun e he=>by
       rcases List.mem_append.1 he with he | he
       · have:=h2 e he;omega
       · rw[List.mem_singleton.1 he];exact a3) h4
      rw[List.foldl_cons,show bN n (tab,es) g=((bU n tab g.2).1,es++[(g.1,(bU n tab g.2).2)]) from rfl];refine⟨this.1,this.2.1,?_⟩;rw[this.2.2];simp
   obtain⟨f1,f2,f3⟩:=fold (grp l) tab [] [] ho.2 hc (by simp) rfl;rw[List.nil_append] at f3;have key:∀ (T:List (List aT)) (i:Nat),T[i]? = some ((grp l).foldl (bN n) (tab,[])).2→(∀ e∈((grp l).foldl (bN n) (tab,[])).2,mB (n+k) T e.2=mB (n+k) ((grp l).foldl (bN n) (tab,[])).1 e.2)→mB (n+1+k) T i=l:=by
    intro T i hT hw;rw[show n+1+k=(n+k)+1 by omega];unfold mB;rw[hT];rcases ho.1 with rfl | ⟨_,hne⟩
    · have:((grp [[]]).foldl (bN n) (tab,[])).2=[]:=rfl;rw[this]
    · have hu:=jG l hne;cases hE:((grp l).foldl (bN n) (tab,[])).2 with
      | nil =>
        rw[hE] at f3;simp only[List.map_nil] at f3;rw[←f3] at hu;exfalso;have h0:l=[]:=by rw[←hu];rfl
        rcases ho.1 with h | h
        · rw[h] at h0;cases h0
        · exact h.1 h0
      | cons e es =>
        simp only;rw[hE] at f3 hw
        conv=>rhs;rw[←hu,←f3]
        unfold uT;rw[List.flatMap_map,List.flatMap_def,List.flatMap_def];congr 1;apply List.map_congr_left;intro x hx;rw[hw x hx]
   rw[fA];cases hp:bH ((grp l).foldl (bN n) (tab,[])).2 ((grp l).foldl (bN n) (tab,[])).1 with
   | some i=>exact key _ _ (gU _ _ _ hp) (fun _ _=>rfl)
   | none =>
     refine key _ _ ?_ (fun e he=>qE f1 _ (n+k) e.2 (f2 e he));simp
theorem DO {f:Nat}{tab:List (List aT)}{s:Nat}{es:List aT}(h:tab[s]? = some es)(h0:es≠[]):mB (f+1) tab s=es.flatMap fun e=>(mB f tab e.2).map (e.1 :: ·):=by
 cases es with
 | nil=>exact absurd rfl h0
 | cons e es =>
   conv=>lhs;unfold mB
   rw[h]
theorem FG {f:Nat}{tab:List (List aT)}{s:Nat}(h:tab[s]? = some []):mB (f+1) tab s=[[]]:=by
 unfold mB;rw[h]
theorem wJ (k:Nat){rs:List Rl}(h:RlsOk rs)(h0:rs≠[]):mB (64+k) (aW rs) ((aW rs).length-1)=aR (rs.map aL)∧cO (aW rs)∧∀ es∈aW rs,es.length≤30:=by
 have hk:=(nV h h0).1;have hlen:(aR (rs.map aL)).length=rs.length:=by
  have:=lU (rs.map aL) [];unfold aR;rw[this,List.length_map];rfl
 have hmany:=h.many;have htab:aW rs=(bU 64 [] (aR (rs.map aL))).1:=by unfold aW;rw[if_neg h0]
 obtain⟨o1,o2⟩:=lJ 64 [] (aR (rs.map aL)) 30 hk (by omega) (by intro i es hi;simp at hi) (by simp);have hf:=uU hk;have hw:=yC k 64 [] (aR (rs.map aL)) hk (by intro es hes;simp at hes);rw[←htab] at hf hw o1 o2;refine⟨?_,o1,o2⟩;rw[show(aW rs).length-1=(bU 64 [] (aR (rs.map aL))).2 by omega];exact hw
theorem fQ:∀ (h:List (List UInt8)),h≠[]→(∀ x∈h,∀ b∈x,b≠46)→bS (aA h) []=h
 | [],n,_=>absurd rfl n
 | [x],_,h=>by
   have:=qN x [] [] (h x (by simp));rw[List.append_nil] at this;rw[show aA [x]=x by simp[aA],this];simp[bS]
 | x::y::r,_,h=>by
   have ih:=fQ (y::r) (by simp) (fun z hz=>h z (by simp[hz]));rw[cX,qN x _ _ (h x (by simp))];simp only[List.nil_append];rw[bS,if_pos rfl,ih]
def RlRt (r:Rl):Prop:=aI (aA r.1)=(r.1,0)∧lM r.2.1∧(r.2.1=33→1<r.1.length)∧(r.2.2=105∨r.2.2=112)
theorem RlRt.ok {r:Rl}(h:RlRt r):mJ r:=by
 have:=gX (aA r.1) (by rw[h.1]);rw[h.1] at this;exact⟨this,h.2.1⟩
structure RlsRt (rs:List Rl):Prop where
 ok:∀ r∈rs,RlRt r
 apart:rs.Pairwise fun a b=>¬ (a.1=b.1∧a.2.1=b.2.1)
 many:rs.length≤30
theorem RlsRt.rls {rs:List Rl}(h:RlsRt rs):RlsOk rs:=⟨fun r hr=>(h.ok r hr).ok,h.apart,h.many⟩
theorem kT {rs:List Rl}{r:Rl}(h:∀ q∈rs,mJ q)(hr:mJ r):known rs r=true↔∃ q∈rs,q.1=r.1∧q.2.1=r.2.1:=by
 unfold known;rw[List.any_eq_true];constructor
 · rintro⟨q,hq,e⟩;simp only[Bool.and_eq_true,decide_eq_true_eq] at e;have a:=(h q hq).1;have b:=hr.1;exact⟨q,hq,jQ _ _ a.1 b.1 (fun x hx c hc=>fJ ((a.2.2.2 x hx).2 c hc)) (fun x hx c hc=>fJ ((b.2.2.2 x hx).2 c hc)) e.1,e.2⟩
 · rintro⟨q,hq,e1,e2⟩;exact⟨q,hq,by simp[e1,e2]⟩
end Sx
namespace Go.Proofs.YtgohllfpceeboabGreatDoor
theorem wQ (r:List UInt8):(fK r).reverse=Sx.bS r []:=MN r.length r (Nat.le_refl _)
open Sx
theorem A8 (h:List UInt8)(k sec:UInt8):pL (h++[k,sec])=kV (h++[k,sec]) h k sec:=by
 unfold pL;have:(h++[k,sec]).reverse=sec::k::h.reverse:=by simp
 rw[this];simp
theorem o6 {k:UInt8}{s:List UInt8}{sec:UInt8}{r:Rl}(hk:k=36∨k=42∨k=33)(hs:sec=105∨sec=112)(h:oK k s sec=some r):RlRt r:=by
 unfold oK at h;split at h
 · rename_i hc;obtain rfl:=Option.some.inj h;exact⟨tP hc.1,hk,hc.2,hs⟩
 · cases h
theorem QM {key:List UInt8}{r:Rl}(h:pL key=some r):RlRt r∧aL r=key:=by
 unfold pL at h;split at h
 · rename_i sec k q hq;unfold kV at h;split at h
   · rename_i hc;obtain⟨h1,h2⟩:=Option.filter_eq_some_iff.1 h;exact⟨o6 hc.1 hc.2 h1,by simpa using h2⟩
   · cases h
 · cases h
theorem wK {r:Rl}(h:RlRt r):pL (aL r)=some r:=by
 obtain⟨H,k,sec⟩:=r;have hok:=h.ok.1;obtain⟨h1,h2,h3,h4⟩:=h;dsimp only at h1 h2 h3 h4 hok;unfold Sx.aL Sx.keyOf;dsimp only;rw[A8];have hp:fK (aA H.reverse)=H:=by
  have:=wQ (aA H.reverse);rw[fQ H.reverse (by simpa using hok.1) (fun x hx b hb=>fJ ((hok.2.2.2 x (by simpa using hx)).2 b hb))] at this
  simpa using this
 unfold kV;rw[if_pos ⟨h2,h4⟩,hp];unfold oK;rw[h1];simp only;rw[if_pos ⟨trivial,h3⟩];exact Option.filter_eq_some_iff.2 ⟨rfl,by simp[Sx.aL,Sx.keyOf]⟩
theorem CZ {rs:List Rl}{r:Rl}(h:RlsRt rs)(hr:RlRt r):RlsRt (cG rs r).1:=by
 unfold cG;split
 · exact h
 · rename_i hk;split
   · exact h
   · rename_i hm;refine⟨fun q hq=>?_,?_,?_⟩
     · rcases List.mem_append.1 hq with hq | hq
       · exact h.ok q hq
       · rw[List.mem_singleton.1 hq];exact hr
     · rw[List.pairwise_append];refine⟨h.apart,by simp,fun a ha b hb=>?_⟩;rw[List.mem_singleton.1 hb];exact fun e=>hk ((kT (fun q hq=>(h.ok q hq).ok) hr.ok).2 ⟨a,ha,e⟩)
     · have:=h.many;simp only[List.length_append,List.length_singleton];omega
theorem Q8 {rs:List Rl}(key:List UInt8)(h:RlsRt rs):RlsRt (BQ rs key).1:=by
 unfold BQ;cases hk:pL key with
 | none=>exact h
 | some r=>exact CZ h (QM hk).1
def CN (rs:List Rl)(b:Bool)(ws:List Wd):List Rl×Bool:=ws.foldl (fun acc w=>if acc.2=true then BQ acc.1 w else acc) (rs,b)
theorem IR:∀ (ws:List Wd) (rs:List Rl) (b:Bool),RlsRt rs→RlsRt (CN rs b ws).1
 | [],_,_,h=>h
 | w::ws,rs,b,h=>by
   unfold CN;rw[List.foldl_cons];cases b with
   | false=>exact IR ws rs false h
   | true=>exact IR ws (BQ rs w).1 (BQ rs w).2 (Q8 w h)
theorem F6 (rs:List Rl)(b:Bool)(u v:List Wd):CN rs b (u++v)=CN (CN rs b u).1 (CN rs b u).2 v:=by unfold CN;rw[List.foldl_append]
theorem OJ {tab:List (List aT)}(ho:cO tab):∀ (n m s:Nat) (beg:List UInt8) (rs:List Rl),s<tab.length→s<n→s<m→pM n tab s beg rs=CN rs true ((mB m tab s).map (beg ++ ·))
 | 0,_,_,_,_,_,h,_=>absurd h (by omega)
 | n+1,0,_,_,_,_,_,h=>absurd h (by omega)
 | n+1,m+1,s,beg,rs,hs,hn,hm=>by
   obtain⟨es,hes⟩:∃ es,tab[s]? = some es:=⟨_,List.getElem?_eq_getElem hs⟩
   obtain⟨o1,o2⟩:=ho s es hes;by_cases h0:s=0
   · have e:pM (n+1) tab s beg rs=if s=0 then BQ rs beg else ((tab[s]?).getD []).foldl (fun acc e=>if acc.2=true then pM n tab e.2 (beg++[e.1]) acc.1 else acc) (rs,true):=rfl
     rw[e,if_pos h0,FG (by rw[hes,o1.2 h0])];simp[CN]
   · rw[DT n tab s beg rs es h0 hes,DO hes (fun e=>h0 (o1.1 e))];have:∀ (l:List aT) (acc:List Rl) (b:Bool),(∀ e∈l,e.2<s)→l.foldl (fun acc e=>if acc.2=true then pM n tab e.2 (beg++[e.1]) acc.1 else acc) (acc,b)=CN acc b ((l.flatMap fun e=>(mB m tab e.2).map (e.1 :: ·)).map (beg ++ ·)):=by
      intro l
      induction l with
      | nil=>intro acc b _;rfl
      | cons e l ih =>
        intro acc b hl;have hes:=hl e (by simp);rw[List.foldl_cons,List.flatMap_cons,List.map_append,F6];have hone:(if b=true then pM n tab e.2 (beg++[e.1]) acc else (acc,b))=CN acc b (((mB m tab e.2).map (e.1 :: ·)).map (beg ++ ·)):=by
         cases b with
         | false =>
           have:∀ ws:List Wd,CN acc false ws=(acc,false):=by
            intro ws;unfold CN;exact sH _ _ _
           rw[this];rfl
         | true =>
           rw[if_pos rfl,OJ ho n m e.2 (beg++[e.1]) acc (by omega) (by omega) (by omega),List.map_map];congr 1;apply List.map_congr_left;intro w _;simp
        dsimp only;rw[hone];obtain⟨a1,a2⟩:=CN acc b (((mB m tab e.2).map (e.1 :: ·)).map (beg ++ ·));exact ih a1 a2 (fun x hx=>hl x (by simp[hx]))
     exact this es rs true o2
theorem MX {tab:List (List aT)}(ho:cO tab)(h0:tab≠[])(k:Nat)(rs:List Rl)(hk:tab.length≤k):AB tab rs=(CN rs true (mB k tab (tab.length-1))).1:=by
 have hp:0<tab.length:=List.length_pos_iff.2 h0;unfold AB;rw[if_neg h0,OJ ho tab.length k (tab.length-1) [] rs (by omega) (by omega) (by omega)];simp
theorem DG:∀ (rs acc:List Rl),RlsRt (acc++rs)→CN acc true (rs.map aL)=(acc++rs,true)
 | [],acc,_=>by simp[CN]
 | r::rs,acc,h=>by
   have hr:RlRt r:=h.ok r (by simp);have h1:BQ acc (aL r)=(acc++[r],true):=by
    unfold BQ;rw[wK hr];show((cG acc r).1,decide ((cG acc r).2=0))=_;unfold cG;rw[if_neg,if_neg]
    · rfl
    · have:=h.many;simp only[List.length_append,List.length_cons] at this;omega
    · intro hk;obtain⟨q,hq,e⟩:=(kT (fun q hq=>(h.ok q (by simp[hq])).ok) hr.ok).1 hk;exact(List.pairwise_append.1 h.apart).2.2 q hq r (by simp) e
   have ih:=DG rs (acc++[r]) (by simpa using h);show CN (if true=true then BQ acc (aL r) else (acc,true)).1 (if true=true then BQ acc (aL r) else (acc,true)).2 (rs.map aL)=_;rw[if_pos rfl,h1,ih];simp
theorem SU (x:Wd)(m:List Wd):(iW x m).Perm (x::m):=by
 unfold iW;refine List.perm_middle.trans (List.Perm.cons x ?_);rw[List.takeWhile_append_dropWhile]
theorem sX:∀ (l m:List Wd),(l.foldl (fun m x=>iW x m) m).Perm (l++m)
 | [],m=>by simp
 | x::l,m=>by
   rw[List.foldl_cons];refine(sX l (iW x m)).trans ?_;refine((SU x m).append_left l).trans ?_;exact List.perm_middle
theorem oS (l:List Wd):(aR l).Perm l:=by
 have:=sX l []
 simpa[aR] using this
theorem _root_.Sx.RlsRt.perm {rs rs':List Rl}(h:RlsRt rs)(hp:rs'.Perm rs):RlsRt rs':=by
 refine⟨fun r hr=>h.ok r (hp.mem_iff.1 hr),?_,by rw[hp.length_eq];exact h.many⟩;exact hp.symm.pairwise h.apart (fun hab e=>hab ⟨e.1.symm,e.2.symm⟩)
def K8 (rs:List Rl):List Rl:=(aR (rs.map aL)).filterMap pL
theorem yP:∀ {rs:List Rl},(∀ r∈rs,RlRt r)→(rs.map aL).filterMap pL=rs
 | [],_=>rfl
 | r::rs,h=>by
   rw[List.map_cons,List.filterMap_cons,wK (h r (by simp))];simp only;rw[yP (fun q hq=>h q (by simp[hq]))]
theorem yM:∀ {ws:List Wd},(∀ w∈ws,∃ r,RlRt r∧aL r=w)→(ws.filterMap pL).map aL=ws
 | [],_=>rfl
 | w::ws,h=>by
   obtain⟨r,h1,h2⟩:=h w (by simp);rw[List.filterMap_cons,←h2,wK h1];simp only[List.map_cons];rw[yM (fun v hv=>h v (by simp[hv]))]
theorem vV {rs:List Rl}(h:∀ r∈rs,RlRt r):(K8 rs).Perm rs:=by
 have:=(oS (rs.map aL)).filterMap pL
 rwa [yP h] at this
theorem VS {rs:List Rl}(h:∀ r∈rs,RlRt r):(K8 rs).map aL=aR (rs.map aL) :=
 yM fun w hw=>by
  obtain⟨r,hr,rfl⟩:=List.mem_map.1 ((oS _).mem_iff.1 hw);exact⟨r,h r hr,rfl⟩
theorem zK {rs:List Rl}(h:RlsRt rs):RlsRt (K8 rs):=h.perm (vV h.ok)
theorem _root_.Sx.RlsRt.nodup {rs:List Rl}(h:RlsRt rs):(rs.map aL).Nodup:=eT (kU h.rls.ok h.apart)
theorem sL {l:List Wd}(h:l.Nodup):aR (aR l)=aR l:=by
 have h1:=iJ l h;have h2:(aR l).Nodup:=(oS l).nodup_iff.2 h;exact(yG (aR l) (aR l) h2 h1.1 (fun _=>Iff.rfl)).symm
structure Img (b:List UInt8) (rs:List Rl):Prop where
 rt:RlsRt rs
 rise:aR (rs.map aL)=rs.map aL
 is:eH (aW rs)=b
theorem NJ {rs:List Rl}(h:RlsRt rs):K8 rs=[]↔rs=[]:=by
 have:=(vV h.ok).length_eq;constructor
 · intro e;rw[e] at this;exact List.eq_nil_of_length_eq_zero this.symm
 · intro e;subst e;exact List.eq_nil_of_length_eq_zero this
theorem AO {rs:List Rl}(h:RlsRt rs):Img (eH (aW rs)) (K8 rs):=by
 have hk:=VS h.ok;refine⟨zK h,by rw[hk,sL h.nodup],?_⟩;unfold aW;rw[hk,sL h.nodup];by_cases h0:rs=[]
 · rw[if_pos h0,if_pos ((NJ h).2 h0)]
 · rw[if_neg h0,if_neg (fun e=>h0 ((NJ h).1 e))]
def eW (b:List UInt8):List Rl×Int:=if 8000<b.length then ([],1) else match cH b with
 | none=>([],6)
 | some tab=>if eH (aW (AB tab []))=b then (AB tab [],0) else ([],6)
theorem fR:RlsRt []:=⟨by simp,by simp,by simp⟩
theorem nO {b:List UInt8}{tab:List (List aT)}(h:cH b=some tab):cO tab:=by
 have key:∀ (m n:Nat) (b:List UInt8) (t:List (List aT)),dN m n b=some t→∀ i es,t[i]? = some es→(es=[]↔n+i=0)∧∀ e∈es,e.2<n+i:=by
  intro m
  induction m with
  | zero =>
    intro n b t ht i es hi;unfold dN at ht;split at ht
    · obtain rfl:=Option.some.inj ht;simp at hi
    · cases ht
  | succ m ih =>
    intro n b t ht i es hi;cases b with
    | nil=>simp[dN] at ht
    | cons k r =>
      simp only[dN] at ht;split at ht
      · cases ht
      · rename_i es' r' he;split at ht
        · rename_i hc;obtain⟨t',h1,rfl⟩:=Option.map_eq_some_iff.1 ht;cases i with
          | zero =>
            simp only[List.getElem?_cons_zero,Option.some.injEq] at hi;subst hi;exact hc
          | succ i =>
            rw[List.getElem?_cons_succ] at hi;have:=ih (n+1) r' t' h1 i es hi;rw[show n+1+i=n+(i+1) by omega] at this;exact this
        · cases ht
 unfold cH at h;split at h
 · intro i es hi;have:=key _ _ _ _ h i es hi
   rwa [Nat.zero_add] at this
 · cases h
theorem KE {tab:List (List aT)}(ho:cO tab):RlsRt (AB tab []):=by
 by_cases h0:tab=[]
 · unfold AB;rw[if_pos h0];exact fR
 · rw[MX ho h0 tab.length [] (Nat.le_refl _)];exact IR _ _ _ fR
theorem CW {b:List UInt8}{rs:List Rl}(h:Img b rs):∃ tab,cH b=some tab∧AB tab []=rs:=by
 obtain⟨h1,h2,rfl⟩:=h;by_cases h0:rs=[]
 · subst h0;exact⟨[],oN,rfl⟩
 · obtain⟨r1,r2,_,r4⟩:=zU h1.rls h0;obtain⟨m1,m2,_⟩:=wJ (aW rs).length h1.rls h0;refine⟨aW rs,r1,?_⟩;rw[MX m2 r2 (64+(aW rs).length) [] (by omega),m1,h2,DG rs [] (by simpa using h1)];rfl
theorem YN {b:List UInt8}{rs:List Rl}(hb:b.length≤8000)(h:Img b rs):eW b=(rs,0):=by
 obtain⟨tab,h1,h2⟩:=CW h;unfold eW;rw[if_neg (by omega),h1];simp only;rw[h2,if_pos h.is]
theorem rZ {b:List UInt8}(h:(eW b).2=0):b.length≤8000∧Img b (eW b).1:=by
 unfold eW at h ⊢;split
 · rename_i hc;rw[if_pos hc] at h;simp at h
 · rename_i hc;rw[if_neg hc] at h;refine⟨by omega,?_⟩;cases hr:cH b with
   | none=>rw[hr] at h;simp at h
   | some tab =>
     rw[hr] at h;simp only at h ⊢;have hrt:=KE (nO hr);obtain⟨rs,hrs⟩:∃ rs,AB tab []=rs:=⟨_,rfl⟩
     rw[hrs] at h hrt ⊢;split at h
     · rename_i hi;rw[if_pos hi];have hs:=AO hrt;rw[hi] at hs;obtain⟨tab',t1,t2⟩:=CW hs;rw[hr] at t1;obtain rfl:=Option.some.inj t1;rw[hrs] at t2;have:=hs.rise;rw[←t2] at this;exact⟨hrt,this,hi⟩
     · simp at h
theorem NQ (b:List UInt8):(eW b).2=0∨(8000<b.length∧eW b=([],1))∨(b.length≤8000∧eW b=([],6)):=by
 unfold eW;split
 · exact Or.inr (Or.inl ⟨by assumption,rfl⟩)
 · split
   · exact Or.inr (Or.inr ⟨by omega,rfl⟩)
   · split
     · exact Or.inl rfl
     · exact Or.inr (Or.inr ⟨by omega,rfl⟩)
end Go.Proofs.YtgohllfpceeboabGreatDoor
