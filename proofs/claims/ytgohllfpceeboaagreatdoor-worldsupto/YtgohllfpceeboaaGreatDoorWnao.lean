import Derived.Test.YtgohllfpceeboaaGreatDoorWnan
import Derived.Lib.ValidLaws
namespace Sx
def splB:List UInt8→List UInt8→List (List UInt8)
 | [],cur=>[cur]
 | x :: r,cur=>if x=46 then cur :: splB r [] else splB r (cur ++ [x])
def splL:List Int→List Int→List (List Int)
 | [],cur=>[cur]
 | c :: r,cur=>if c=46 then cur :: splL r [] else splL r (cur ++ [c])
theorem splB_no:∀ (u r cur:List UInt8),(∀ x∈u,x≠46)→splB (u ++ r) cur=splB r (cur ++ u):=by
 intro u
 induction u with
 | nil=>intro r cur _;simp
 | cons x u ih =>
   intro r cur h;rw [List.cons_append,splB,if_neg (h x (List.mem_cons_self ..)),ih r _ (fun y hy=>h y (List.mem_cons_of_mem _ hy))];simp
theorem splB_last:∀ (x y cur:List UInt8),(∀ b∈y,b≠46)→splB (x ++ 46 :: y) cur=splB x cur ++ [y]:=by
 intro x
 induction x with
 | nil =>
   intro y cur h;rw [List.nil_append];show (if (46:UInt8)=46 then cur :: splB y [] else splB y (cur ++ [46]))=_;rw [if_pos rfl];have:=splB_no y [] [] h;rw [List.append_nil] at this;rw [this];simp [splB]
 | cons a x ih =>
   intro y cur h;rw [List.cons_append,splB];by_cases c:a=46
   · rw [if_pos c,ih y [] h];simp [splB,c]
   · rw [if_neg c,ih y _ h];simp [splB,c]
theorem utf_dot (c:Int) (h:Good c) (hc:c≠46):∀ x∈utf c,x≠46:=by
 obtain ⟨h0,h1,h2⟩:=h;have key:∀ n:Int,0≤n→n<256→n≠46→UInt8.ofNat n.toNat≠46:=fun n a b d e=>by
  have:=congrArg UInt8.toNat e;rw [u8n n a b] at this;have e2:(46:UInt8).toNat=46:=rfl;omega
 unfold utf;intro x hx;by_cases a1:c<128
 · rw [if_pos a1] at hx;rw [List.mem_singleton.1 hx];exact key c h0 (by omega) hc
 · rw [if_neg a1] at hx;by_cases a2:c<2048
   · rw [if_pos a2] at hx;simp only [List.mem_cons,List.not_mem_nil,or_false] at hx;rcases hx with rfl | rfl <;> exact key _ (by omega) (by omega) (by omega)
   · rw [if_neg a2] at hx;by_cases a3:c<65536
     · rw [if_pos a3] at hx;simp only [List.mem_cons,List.not_mem_nil,or_false] at hx;rcases hx with rfl | rfl | rfl <;> exact key _ (by omega) (by omega) (by omega)
     · rw [if_neg a3] at hx;simp only [List.mem_cons,List.not_mem_nil,or_false] at hx;rcases hx with rfl | rfl | rfl | rfl <;> exact key _ (by omega) (by omega) (by omega)
theorem splB_text:∀ (l cur:List Int),(∀ c∈l,Good c)→splB (text l) (text cur)=(splL l cur).map text:=by
 intro l
 induction l with
 | nil=>intro cur _;rfl
 | cons c l ih =>
   intro cur h;have e:text (c :: l)=utf c ++ text l:=by simp [text]
   have hr:=fun x hx=>h x (List.mem_cons_of_mem c hx);rw [e,splL];by_cases hc:c=46
   · subst hc;have e2:utf 46=[46]:=by decide
     rw [e2,if_pos rfl,List.map_cons,List.cons_append,List.nil_append,splB,if_pos rfl];have:=ih [] hr;rw [show text []=[] from rfl] at this;rw [this]
   · rw [if_neg hc,splB_no _ _ _ (utf_dot c (h c (List.mem_cons_self ..)) hc)];have:=ih (cur ++ [c]) hr;rw [text_snoc] at this;exact this
def allSome:List (Option (List UInt8))→Option (List (List UInt8))
 | []=>some []
 | none :: _=>none
 | some x :: r=>(allSome r).map (x :: ·)
theorem hostGo_spl:∀ (l cur:List Int),hostGo l cur=allSome ((splL l cur).map label):=by
 intro l
 induction l with
 | nil =>
   intro cur;simp only [hostGo,splL,List.map_cons,List.map_nil];cases label cur <;> rfl
 | cons c l ih =>
   intro cur;simp only [hostGo,splL];by_cases hc:c=46
   · rw [if_pos hc,if_pos hc,List.map_cons];cases label cur with
     | none=>rfl
     | some x=>simp only [allSome];rw [ih]
   · rw [if_neg hc,if_neg hc,ih]
theorem splL_mem:∀ (l cur:List Int) (p:List Int),p∈splL l cur→∀ c∈p,c∈cur∨c∈l:=by
 intro l
 induction l with
 | nil=>intro cur p hp c hc;simp only [splL,List.mem_singleton] at hp;subst hp;exact .inl hc
 | cons x l ih =>
   intro cur p hp c hc;simp only [splL] at hp;split at hp
   · rcases List.mem_cons.1 hp with rfl | hp
     · exact .inl hc
     · rcases ih [] p hp c hc with h | h
       · cases h
       · exact .inr (List.mem_cons_of_mem _ h)
   · rcases ih _ p hp c hc with h | h
     · rcases List.mem_append.1 h with h | h
       · exact .inl h
       · exact .inr (by rw [List.mem_singleton.1 h];exact List.mem_cons_self ..)
     · exact .inr (List.mem_cons_of_mem _ h)
theorem splB_len:∀ (r cur p:List UInt8),p∈splB r cur→p.length≤cur.length+r.length:=by
 intro r
 induction r with
 | nil=>intro cur p hp;simp only [splB,List.mem_singleton] at hp;subst hp;simp
 | cons x r ih =>
   intro cur p hp;simp only [splB] at hp;split at hp
   · rcases List.mem_cons.1 hp with rfl | hp
     · simp
     · have:=ih [] p hp;simp at this ⊢;omega
   · have:=ih _ p hp;simp at this ⊢;omega
end Sx
namespace Go.Proofs.YtgohllfpceeboaaGreatDoor
theorem lastTo_spec (s:List UInt8) (c:UInt8):∀ k:Nat,(lastTo s c k = -1∧∀ j,j<k→s.getD j 0≠c)∨(∃ d:Nat,d<k∧lastTo s c k=d∧s.getD d 0=c∧∀ j,d<j→j<k→s.getD j 0≠c):=by
 intro k
 induction k with
 | zero=>exact .inl ⟨rfl,fun j h=>by omega⟩
 | succ k ih =>
   simp only [lastTo];by_cases h:s.getD k 0=c
   · rw [if_pos h];exact .inr ⟨k,by omega,rfl,h,fun j h1 h2=>by omega⟩
   · rw [if_neg h];rcases ih with ⟨h1,h2⟩ | ⟨d,h1,h2,h3,h4⟩
     · refine .inl ⟨h1,fun j hj=>?_⟩;by_cases e:j=k
       · rw [e];exact h
       · exact h2 j (by omega)
     · refine .inr ⟨d,by omega,h2,h3,fun j g1 g2=>?_⟩;by_cases e:j=k
       · rw [e];exact h
       · exact h4 j g1 (by omega)
theorem getD_mem_ne (s:List UInt8) (c:UInt8) (h:∀ j,j<s.length→s.getD j 0≠c):∀ x∈s,x≠c:=by
 intro x hx;obtain ⟨j,hj,rfl⟩:=List.mem_iff_getElem.1 hx;have:=h j hj;rw [List.getD_eq_getElem?_getD,List.getElem?_eq_getElem hj,Option.getD_some] at this;exact this
theorem pcs_rev:∀ (n:Nat) (r:List UInt8),r.length≤n→(pcs r).reverse=Sx.splB r []:=by
 intro n
 induction n with
 | zero =>
   intro r h;have:r=[]:=List.eq_nil_of_length_eq_zero (by omega);subst this;rfl
 | succ n ih =>
   intro r h;rcases lastTo_spec r 46 r.length with ⟨h1,h2⟩ | ⟨d,h1,h2,h3,h4⟩
   · rw [pcs_last r (by unfold dotAt;omega)];have:=Sx.splB_no r [] [] (getD_mem_ne r 46 h2);rw [List.append_nil] at this;rw [this];simp [Sx.splB]
   · have hd:dotAt r=d:=h2;rw [pcs_more r (by omega),hd,List.reverse_cons,show ((d:Int)+1).toNat=d+1 from by omega,Int.toNat_natCast,ih (r.take d) (by rw [List.length_take];omega)];have hr:r=r.take d ++ 46 :: r.drop (d+1):=by
      have e1:=(List.take_append_drop d r).symm;rw [List.drop_eq_getElem_cons h1] at e1;have e2:r[d]=46:=by
       rw [List.getD_eq_getElem?_getD,List.getElem?_eq_getElem h1,Option.getD_some] at h3;exact h3
      rw [e2] at e1;exact e1
     conv=>rhs;rw [hr]
     rw [Sx.splB_last];refine getD_mem_ne _ _ (fun j hj=>?_);rw [List.length_drop] at hj;have:=h4 (d+1+j) (by omega) (by omega);rw [List.getD_eq_getElem?_getD] at this ⊢;rw [List.getElem?_drop];exact this
end Go.Proofs.YtgohllfpceeboaaGreatDoor
/- Plain mathematics of codes: reading is writing's inverse. -/
namespace Sx
theorem dig_ok:∀ v:Fin 36,(dig (v.val:Int)).toNat<128∧dig (v.val:Int)≠45:=by decide
theorem writ_digs:∀ (f:Nat) (d k bias:Int),0≤d→d.toNat≤f→∀ x∈writ d k bias,x.toNat<128∧x≠45:=by
 intro f
 induction f with
 | zero =>
   intro d k bias h0 hf x hx;have h1:=thr_lo k bias;rw [writ_last d k bias (by omega)] at hx;have:d=0:=by omega
   subst this;rw [List.mem_singleton.1 hx];exact dig_ok ⟨0,by omega⟩
 | succ f ih =>
   intro d k bias h0 hf x hx;have h1:=thr_lo k bias;have h2:=thr_hi k bias;by_cases h:thr k bias≤d
   · rw [writ_more d k bias h0 h] at hx;have hs:=step_lt d _ h1 h2 h;rcases List.mem_cons.1 hx with rfl | hx
     · have hr:0≤(d-thr k bias) % (36-thr k bias)∧(d-thr k bias) % (36-thr k bias)<36-thr k bias:=⟨Int.emod_nonneg _ (by omega),Int.emod_lt_of_pos _ (by omega)⟩
       have:=dig_ok ⟨(thr k bias+(d-thr k bias) % (36-thr k bias)).toNat,by omega⟩;rw [show (((thr k bias+(d-thr k bias) % (36-thr k bias)).toNat:Nat):Int)=thr k bias+(d-thr k bias) % (36-thr k bias) from by omega] at this;exact this
     · exact ih _ _ _ hs.1 (by omega) x hx
   · rw [writ_last d k bias h] at hx;rw [List.mem_singleton.1 hx];have:=dig_ok ⟨d.toNat,by omega⟩;rw [show ((d.toNat:Nat):Int)=d from by omega] at this;exact this
theorem writ_ok (d k bias:Int) (h0:0≤d):∀ x∈writ d k bias,x.toNat<128∧x≠45:=writ_digs d.toNat d k bias h0 (Nat.le_refl _)
theorem step_tenth (d t p:Int) (h1:1≤t) (h2:t≤26) (hp:d<26*(p*10)) (hp1:1≤p):(d-t) / (36-t)<26*p:=by
 refine Int.ediv_lt_of_lt_mul (by omega) ?_;have h3:10≤36-t:=by omega
 have h4:26*p*10≤26*p*(36-t):=Int.mul_le_mul_of_nonneg_left h3 (by omega);omega
theorem writ_short:∀ (j:Nat) (d k bias:Int),0≤d→d<26*10 ^ j→(writ d k bias).length≤j+2:=by
 intro j
 induction j with
 | zero =>
   intro d k bias h0 h;have h1:=thr_lo k bias;have h2:=thr_hi k bias;by_cases ht:thr k bias≤d
   · rw [writ_more d k bias h0 ht];have e:(d-thr k bias) / (36-thr k bias)=0:=Int.ediv_eq_zero_of_lt (by omega) (by simp at h;omega);rw [e,writ_last 0 (k+1) bias (by have:=thr_lo (k+1) bias;omega)];simp
   · rw [writ_last d k bias ht];simp
 | succ j ih =>
   intro d k bias h0 h;have h1:=thr_lo k bias;have h2:=thr_hi k bias;by_cases ht:thr k bias≤d
   · rw [writ_more d k bias h0 ht,List.length_cons];have hs:=step_lt d _ h1 h2 ht;rw [Int.pow_succ] at h;have:=ih ((d-thr k bias) / (36-thr k bias)) (k+1) bias hs.1 (step_tenth d _ _ h1 h2 h (by have:=pow10 j;omega));omega
   · rw [writ_last d k bias ht];simp
theorem num_writ (bias:Int) (r:List UInt8):∀ (f:Nat) (d D w:Int) (k:Nat),0≤d→d.toNat≤f→k+(writ d k bias).length≤8→numF bias D w k (writ d k bias ++ r)=some (D+d*w,r):=by
 intro f
 induction f with
 | zero =>
   intro d D w k h0 hf hk;have h1:=thr_lo k bias;have hd:d=0:=by omega
   subst hd;rw [writ_last 0 k bias (by omega)] at hk ⊢;simp only [List.cons_append,List.nil_append,numF];rw [if_neg (by simp at hk;omega),show valOf (dig 0)=0 from valOf_dig 0 (by omega),if_neg (by omega),if_pos (by omega)]
 | succ f ih =>
   intro d D w k h0 hf hk;have h1:=thr_lo k bias;have h2:=thr_hi k bias;by_cases ht:thr k bias≤d
   · rw [writ_more d k bias h0 ht] at hk ⊢;have hs:=step_lt d _ h1 h2 ht;have hr:0≤(d-thr k bias) % (36-thr k bias)∧(d-thr k bias) % (36-thr k bias)<36-thr k bias:=⟨Int.emod_nonneg _ (by omega),Int.emod_lt_of_pos _ (by omega)⟩
     obtain ⟨v,hv⟩:∃ v:Nat,thr k bias+(d-thr k bias) % (36-thr k bias)=(v:Int):=⟨(thr k bias+(d-thr k bias) % (36-thr k bias)).toNat,by omega⟩
     have hdm:=Int.emod_add_mul_ediv (d-thr k bias) (36-thr k bias);rw [hv] at hk ⊢;simp only [List.length_cons] at hk;simp only [List.cons_append,numF];rw [if_neg (by omega),valOf_dig v (by omega),if_neg (by omega),if_neg (by omega)];have:=ih ((d-thr k bias) / (36-thr k bias)) (D+v*w) (w*(36-thr k bias)) (k+1) hs.1 (by omega) (by rw [show ((k+1:Nat):Int)=(k:Int)+1 from by omega];omega);rw [show ((k+1:Nat):Int)=(k:Int)+1 from by omega] at this;rw [this];congr 2;have e1:d=(v:Int)+(36-thr k bias)*((d-thr k bias) / (36-thr k bias)):=by omega
     generalize (d-thr k bias) / (36-thr k bias)=q at e1 ⊢;generalize 36-thr k bias=u at e1 ⊢;rw [e1,Int.add_mul,Int.mul_comm u q,Int.mul_assoc,Int.mul_comm u w,Int.add_assoc]
   · rw [writ_last d k bias ht] at hk ⊢;obtain ⟨v,hv⟩:∃ v:Nat,d=(v:Int):=⟨d.toNat,by omega⟩
     subst hv;simp only [List.cons_append,List.nil_append,numF];rw [if_neg (by simp at hk;omega),valOf_dig v (by omega),if_neg (by omega),if_pos (by omega)]
def sel:List Int→List Bool→List Int
 | c :: l,true :: f=>c :: sel l f
 | _ :: l,false :: f=>sel l f
 | _,_=>[]
theorem sel_len:∀ (l:List Int) (f:List Bool),l.length=f.length→(sel l f).length=f.countP id:=by
 intro l
 induction l with
 | nil=>intro f h;cases f with
   | nil=>rfl
   | cons b f=>simp at h
 | cons c l ih =>
   intro f h;cases f with
   | nil=>simp at h
   | cons b f =>
     have:=ih f (by simpa using h);cases b with
     | true=>simp [sel,this]
     | false=>simp [sel,this]
theorem sel_put:∀ (l:List Int) (f:List Bool) (c:Nat),l.length=f.length→c<l.length→f.getD c false=false→sel l (f.set c true)=putIn (sel l f) ((f.take c).countP id:Nat) (l.getD c 0):=by
 intro l
 induction l with
 | nil=>intro f c h hc;simp at hc
 | cons x l ih =>
   intro f c h hc hf;cases f with
   | nil=>simp at h
   | cons b f =>
     cases c with
     | zero =>
       have hb:b=false:=by simpa using hf
       subst hb;simp [sel,putIn]
     | succ c =>
       have:=ih f c (by simpa using h) (by simpa using hc) (by simpa using hf);cases b with
       | true =>
         simp only [List.set_cons_succ,sel,this,List.take_succ_cons,List.countP_cons,id,if_true,List.getD_cons_succ];unfold putIn;simp only [Int.toNat_natCast,List.take_succ_cons,List.drop_succ_cons,List.cons_append]
       | false =>
         simp only [List.set_cons_succ,sel,this,List.take_succ_cons,List.countP_cons,id,Bool.false_eq_true,if_false,Nat.add_zero,List.getD_cons_succ]
theorem sel_all:∀ (l:List Int) (f:List Bool),l.length=f.length→(∀ k,k<l.length→f.getD k false=true)→sel l f=l:=by
 intro l
 induction l with
 | nil=>intro f h _;cases f <;> rfl
 | cons x l ih =>
   intro f h hf;cases f with
   | nil=>simp at h
   | cons b f =>
     have h0:=hf 0 (by simp);have hb:b=true:=by simpa using h0
     subst hb;simp only [sel];rw [ih f (by simpa using h) (fun k hk=>by have:=hf (k+1) (by simp;omega);simpa using this)]
theorem dec_ways (l:List Int) (hl:l.length≤20) (hg:∀ c∈l,Good c):∀ (todo done:List Nat),ord l=done ++ todo→∀ (n i bias:Int) (first:Bool),128≤n → -1≤i→i≤((plainOf l).length+done.length:Nat)→Later l todo n i →
 decL (sel l (flags l done)) bias n (i+1) first (encWays (todo.map (wayAt l)) bias n i (((plainOf l).length+done.length:Nat):Int) first)=some l:=by
 intro todo
 induction todo with
 | nil =>
   intro done ho n i bias first _ _ _ _
   simp only [List.map_nil,encWays,decL_nil];congr 1;refine sel_all l _ (flags_len l done).symm (fun k hk=>?_);cases h:(flags l done).getD k false with
   | true=>rfl
   | false=>have:=flags_no l done [] ho k hk h;cases this
 | cons c0 todo ih =>
   intro done ho n i bias first hn hi hi2 hlat
   obtain ⟨hcl,hcf,hfl⟩:=flags_todo l done (c0 :: todo) ho c0 (List.mem_cons_self ..);have hgd:=hg l[c0] (List.getElem_mem hcl);have hgd2:l.getD c0 0=l[c0]:=by simp [List.getElem?_eq_getElem hcl]
   rw [←hgd2] at hgd;have hst:=stand_le_put l done todo c0 ho;have hsf:=stand_flags l done todo c0 ho;have hpo:=plain_ord l;have hdl:=congrArg List.length ho;rw [List.length_append,List.length_cons] at hdl;have hsl:(sel l (flags l done)).length=(plainOf l).length+done.length:=by
    rw [sel_len l _ (flags_len l done).symm];exact flags_count l done (c0 :: todo) ho
   have hlat0:=hlat c0 (List.mem_cons_self ..);have hput:=sel_put l (flags l done) c0 (flags_len l done).symm hcl hfl;rw [hsf,flags_step l done todo c0 ho] at hput;have hlat2:=later_step l done todo c0 ho;have hih:=ih (done ++ [c0]) (by rw [ho];simp) (l.getD c0 0) (stand l c0);obtain ⟨lm,hlm⟩:∃ lm,l.getD c0 0=lm:=⟨_,rfl⟩
   obtain ⟨st,hsd⟩:∃ st,stand l c0=st:=⟨_,rfl⟩
   obtain ⟨C,hC⟩:∃ C:Nat,(plainOf l).length+done.length=C:=⟨_,rfl⟩
   have hC2:(plainOf l).length+(done ++ [c0]).length=C+1:=by rw [List.length_append,List.length_cons,List.length_nil];omega
   rw [hC2] at hih;rw [hlm,hsd] at hih hlat2 hput;rw [hlm] at hgd hcf hlat0;rw [hsd] at hst hlat0;rw [hC] at hst hi2 hsl ⊢;simp only [List.map_cons,wayAt,hlm,hsd,encWays];have hnn:=passed_nn lm n st i C hlat0 hi2 (by omega) (by omega);obtain ⟨hg0,hg1,hg2⟩:=hgd;have hd2:(lm-n)*((C:Int)+1)+(st:Int)-(i+1)<26*10 ^ 6:=by
    have:(lm-n)*((C:Int)+1)≤1113983*((C:Int)+1):=Int.mul_le_mul_of_nonneg_right (by omega) (by omega);have e:(10:Int) ^ 6=1000000:=by decide
    rw [e];omega
   obtain ⟨d,hd⟩:∃ d,(lm-n)*((C:Int)+1)+(st:Int)-(i+1)=d:=⟨_,rfl⟩
   rw [hd] at hnn hd2 ⊢;have hws:=writ_short 6 d 0 bias hnn hd2;have hnum:=num_writ bias (encWays (todo.map (fun c=>(l.getD c 0,(stand l c:Int)))) (after d ((C:Int)+1) first) lm st ((C:Int)+1) false) d.toNat d 0 1 0 hnn (Nat.le_refl _) (by simpa using hws);rw [Int.zero_add,Int.mul_one] at hnum;have hsum:i+1+d=(st:Int)+(lm-n)*((C:Int)+1):=by omega
   have hdiv:(i+1+d) / ((C:Int)+1)=lm-n:=by
    rw [hsum,Int.add_mul_ediv_right _ _ (by omega),Int.ediv_eq_zero_of_lt (by omega) (by omega)];omega
   have hmod:(i+1+d) % ((C:Int)+1)=st:=by
    rw [hsum,Int.add_mul_emod_self_right,Int.emod_eq_of_lt (by omega) (by omega)]
   have hm:=decL_more (sel l (flags l done)) bias n (i+1) first _ d _ hnum (by rw [hsl,hdiv];omega)
   rw [hsl,hdiv,hmod,show n+(lm-n)=lm from by omega,←hput] at hm;refine hm.trans ?_;have:=hih (after d ((C:Int)+1) first) false (by omega) (by omega) (by omega) hlat2;rw [show ((C+1:Nat):Int)=(C:Int)+1 from by omega] at this;exact this
theorem dashTo_none (s:List UInt8):∀ k,(∀ j,j<k→s.getD j 0≠45)→dashTo s k = -1:=by
 intro k
 induction k with
 | zero=>intro _;rfl
 | succ k ih=>intro h;simp only [dashTo];rw [if_neg (h k (by omega)),ih (fun j hj=>h j (by omega))]
theorem dashTo_at (s:List UInt8) (p:Nat) (hp:s.getD p 0=45):∀ k,p<k→(∀ j,p<j→j<k→s.getD j 0≠45)→dashTo s k=p:=by
 intro k
 induction k with
 | zero=>intro h;omega
 | succ k ih =>
   intro h hn;simp only [dashTo];by_cases e:p=k
   · subst e;rw [if_pos hp]
   · rw [if_neg (hn k (by omega) (by omega)),ih (by omega) (fun j h1 h2=>hn j h1 (by omega))]
theorem dash_no (y:List UInt8) (h:∀ x∈y,x≠45):dash y = -1:=by
 refine dashTo_none y _ (fun j hj=>?_);rw [List.getD_eq_getElem?_getD,List.getElem?_eq_getElem hj,Option.getD_some];exact h _ (List.getElem_mem hj)
theorem dash_mid (x y:List UInt8) (h:∀ b∈y,b≠45):dash (x ++ 45 :: y)=x.length:=by
 refine dashTo_at _ x.length (by simp) _ (by simp) (fun j h1 h2=>?_);have h3:j-x.length-1<y.length:=by simp at h2;omega
 rw [List.getD_eq_getElem?_getD,List.getElem?_append_right (by omega),show j-x.length=(j-x.length-1)+1 from by omega,List.getElem?_cons_succ,List.getElem?_eq_getElem h3,Option.getD_some];exact h _ (List.getElem_mem h3)
theorem encWays_ok (l:List Int) (hl:l.length≤100) (hr:∀ c∈l,c≤1114111):∀ (todo done:List Nat),ord l=done ++ todo→∀ (n i bias:Int) (first:Bool),128≤n → -1≤i→i≤((plainOf l).length+done.length:Nat)→Later l todo n i →
 (∀ x∈encWays (todo.map (wayAt l)) bias n i (((plainOf l).length+done.length:Nat):Int) first,x.toNat<128∧x≠45)∧todo.length≤(encWays (todo.map (wayAt l)) bias n i (((plainOf l).length+done.length:Nat):Int) first).length∧(encWays (todo.map (wayAt l)) bias n i (((plainOf l).length+done.length:Nat):Int) first).length≤todo.length*11:=by
 intro todo
 induction todo with
 | nil=>intro done _ n i bias first _ _ _ _;simp [encWays]
 | cons c0 todo ih =>
   intro done ho n i bias first hn hi hi2 hlat
   obtain ⟨hcl,hcf,_⟩:=flags_todo l done (c0 :: todo) ho c0 (List.mem_cons_self ..);have hlm:l.getD c0 0≤1114111:=by
    have:=hr l[c0] (List.getElem_mem hcl)
    simpa [List.getElem?_eq_getElem hcl] using this
   have hst:=stand_le_put l done todo c0 ho;have hpo:=plain_ord l;have hdl:=congrArg List.length ho;rw [List.length_append,List.length_cons] at hdl;have hlat0:=hlat c0 (List.mem_cons_self ..);have hnn:=passed_nn (l.getD c0 0) n (stand l c0) i (((plainOf l).length+done.length:Nat):Int) hlat0 hi2 (by omega) (by omega);have hle:=passed_le (l.getD c0 0) n (stand l c0) i (((plainOf l).length+done.length:Nat):Int) hlm hn hi (by omega) (by omega) (by omega);have hw:=writ_short 9 ((l.getD c0 0-n)*((((plainOf l).length+done.length:Nat):Int)+1)+(stand l c0:Int)-(i+1)) 0 bias hnn (by rw [show (10:Int) ^ 9=1000000000 from by decide];omega);have hwo:=writ_ok _ 0 bias hnn;have hw1:1≤(writ ((l.getD c0 0-n)*((((plainOf l).length+done.length:Nat):Int)+1)+(stand l c0:Int)-(i+1)) 0 bias).length:=by
    unfold writ;cases ((l.getD c0 0-n)*((((plainOf l).length+done.length:Nat):Int)+1)+(stand l c0:Int)-(i+1)).toNat with
    | zero=>simp [writF]
    | succ f=>simp only [writF];split <;> simp
   obtain ⟨i1,i2,i3⟩:=ih (done ++ [c0]) (by rw [ho];simp) (l.getD c0 0) (stand l c0) (after ((l.getD c0 0-n)*((((plainOf l).length+done.length:Nat):Int)+1)+(stand l c0:Int)-(i+1)) ((((plainOf l).length+done.length:Nat):Int)+1) first) false (by omega) (by omega) (by rw [List.length_append,List.length_cons,List.length_nil];omega) (later_step l done todo c0 ho);rw [List.length_append,List.length_cons,List.length_nil,show (((plainOf l).length+(done.length+(0+1)):Nat):Int)=(((plainOf l).length+done.length:Nat):Int)+1 from by omega] at i1 i2 i3;simp only [List.map_cons,wayAt,encWays,List.length_append,List.length_cons] at i1 i2 i3 ⊢;refine ⟨fun x hx=>?_,by omega,by omega⟩;rcases List.mem_append.1 hx with hx | hx
   · exact hwo x hx
   · exact i1 x hx
theorem enc_nums (l:List Int) (hl:l.length≤100) (hr:∀ c∈l,c≤1114111) :
 (∀ x∈encWays ((ord l).map (wayAt l)) 72 128 (-1) (plainOf l).length true,x.toNat<128∧x≠45)∧(ord l).length≤(encWays ((ord l).map (wayAt l)) 72 128 (-1) (plainOf l).length true).length∧(encWays ((ord l).map (wayAt l)) 72 128 (-1) (plainOf l).length true).length≤(ord l).length*11:=by
 have:=encWays_ok l hl hr (ord l) [] rfl 128 (-1) 72 true (by omega) (by omega) (by omega) (later_start l)
 simpa using this
theorem plain_ok (l:List Int):∀ x∈plainOf l,x.toNat<128:=by
 intro x hx;obtain ⟨c,hc,rfl⟩:=List.mem_map.1 hx;have:=(List.mem_filter.1 hc).2;simp at this;simp only [UInt8.toNat_ofNat'];omega
theorem enc_ascii (l:List Int) (hl:l.length≤100) (hr:∀ c∈l,c≤1114111):∀ x∈enc l,x.toNat<128:=by
 intro x hx;unfold enc headOf at hx;rcases List.mem_append.1 hx with hx | hx
 · rcases List.mem_append.1 hx with hx | hx
   · exact plain_ok l x hx
   · split at hx
     · rw [List.mem_singleton.1 hx];decide
     · cases hx
 · exact ((enc_nums l hl hr).1 x hx).1
theorem enc_lens (l:List Int) (hl:l.length≤100) (hr:∀ c∈l,c≤1114111):l.length≤(enc l).length∧(enc l).length≤1201:=by
 have h1:=enc_nums l hl hr;have h2:=plain_ord l;have h3:(plainOf l).length≤(headOf l).length∧(headOf l).length≤(plainOf l).length+1:=by
  unfold headOf;rw [List.length_append];split <;> simp
 unfold enc;rw [List.length_append];omega
theorem dec_enc (l:List Int) (hl:l.length≤20) (hg:∀ c∈l,Good c) (hf:(l.any fun c=>decide (128≤c))=true):dec (enc l)=some l:=by
 have hr:∀ c∈l,c≤1114111:=fun c hc=>(hg c hc).2.1;obtain ⟨n1,n2,n3⟩:=enc_nums l (by omega) hr;have hol:0<(ord l).length:=by
  rw [ord_len];obtain ⟨c,hc,h2⟩:=List.any_eq_true.1 hf;exact List.length_pos_of_mem (List.mem_filter.2 ⟨hc,h2⟩)
 have hw:=dec_ways l hl hg (ord l) [] rfl 128 (-1) 72 true (by omega) (by omega) (by omega) (later_start l);rw [List.length_nil,Nat.add_zero] at hw;have hsel:∀ (l:List Int),(∀ c∈l,Good c)→sel l (l.map fun c=>decide (c<128))=(plainOf l).map fun c=>(c.toNat:Int):=by
  intro l
  induction l with
  | nil=>intro _;rfl
  | cons c l ih =>
    intro hg;have ih2:=ih (fun x hx=>hg x (List.mem_cons_of_mem _ hx));have hc:=hg c (List.mem_cons_self ..);by_cases h:c<128
    · have e:plainOf (c :: l)=UInt8.ofNat c.toNat :: plainOf l:=by unfold plainOf;simp [h]
      rw [e,List.map_cons,List.map_cons,show decide (c<128)=true from by simpa using h];simp only [sel];rw [ih2];congr 1;rw [u8n c hc.1 (by omega)];have:=hc.1;omega
    · have e:plainOf (c :: l)=plainOf l:=by unfold plainOf;simp [h]
      rw [e,List.map_cons,show decide (c<128)=false from by simpa using h];simp only [sel];exact ih2
 rw [flags_zero,hsel l hg] at hw;obtain ⟨E,hE⟩:∃ E,encWays ((ord l).map (wayAt l)) 72 128 (-1) (plainOf l).length true=E:=⟨_,rfl⟩
 rw [hE] at n1 n2 hw;have henc:enc l=headOf l ++ E:=by unfold enc;rw [hE]
 have hEne:0<E.length:=by omega
 by_cases hp:0<(plainOf l).length
 · have hh:enc l=plainOf l ++ 45 :: E:=by
    rw [henc];unfold headOf;rw [if_pos hp];simp
   have hd:dash (enc l)=(plainOf l).length:=by rw [hh];exact dash_mid _ _ (fun b hb=>(n1 b hb).2)
   unfold dec;rw [hd,if_neg (by rw [hh];simp;omega),hh,Int.toNat_natCast,List.take_left,show (((plainOf l).length:Int)+1).toNat=(plainOf l).length+1 from by omega];have e:(plainOf l ++ 45 :: E).drop ((plainOf l).length+1)=E:=by
    rw [List.drop_append];simp
   rw [e];exact hw
 · have hp0:plainOf l=[]:=List.eq_nil_of_length_eq_zero (by omega);have hh:enc l=E:=by rw [henc];unfold headOf;rw [if_neg hp,hp0];simp
   have hd:dash (enc l) = -1:=by rw [hh];exact dash_no _ (fun b hb=>(n1 b hb).2)
   unfold dec;rw [hd,if_neg (by rw [hh];omega),hh];rw [hp0] at hw;exact hw
theorem codeOk_enc (l:List Int) (hl:l.length≤20) (hg:∀ c∈l,Good c) (hf:(l.any fun c=>decide (128≤c))=true):codeOk (enc l)=true:=by
 unfold codeOk;rw [dec_enc l hl hg hf];simp
end Sx
