import Derived.Test.YtgohllfpceeboaaGreatDoorWnac
import Derived.Laws.Cover4
namespace Sx
def plB (b:UInt8):Prop:=(97≤b.toNat∧b.toNat≤122)∨(48≤b.toNat∧b.toNat≤57)∨b.toNat=45
theorem dig_plB (x:Int) (h0:0≤x) (h1:x<36):plB (dig x):=by
 unfold plB dig;split <;> simp only [UInt8.toNat_ofNat'] <;> omega
theorem writF_plB:∀ (f:Nat) (d k bias:Int),0≤d→d.toNat≤f→∀ x∈writF f d k bias,plB x
 | 0,d,k,bias,h0,hf,x,hx=>by
   simp only [writF,List.mem_singleton] at hx;subst hx;exact dig_plB d h0 (by omega)
 | f+1,d,k,bias,h0,hf,x,hx=>by
   have t1:=thr_lo k bias;have t2:=thr_hi k bias;simp only [writF] at hx;split at hx
   · rename_i h;rcases List.mem_cons.1 hx with hx | hx
     · subst hx;have m1:=Int.emod_nonneg (d-thr k bias) (show 36-thr k bias≠0 by omega);have m2:=Int.emod_lt_of_pos (d-thr k bias) (show 0<36-thr k bias by omega);exact dig_plB _ (by omega) (by omega)
     · have d1:0≤(d-thr k bias) / (36-thr k bias):=Int.ediv_nonneg (by omega) (by omega);have d2:(d-thr k bias) / (36-thr k bias)≤d-thr k bias:=Int.ediv_le_self _ (by omega);exact writF_plB f _ _ _ d1 (by omega) x hx
   · rename_i h;simp only [List.mem_singleton] at hx;subst hx;exact dig_plB d h0 (by omega)
theorem encWays_plB (l:List Int):∀ (todo done:List Nat),ord l=done ++ todo→∀ (n i bias:Int) (first:Bool),128≤n → -1≤i→i≤((plainOf l).length+done.length:Nat)→Later l todo n i →
 ∀ x∈encWays (todo.map (wayAt l)) bias n i (((plainOf l).length+done.length:Nat):Int) first,plB x:=by
 intro todo
 induction todo with
 | nil=>intro done _ n i bias first _ _ _ _ x hx;simp [encWays] at hx
 | cons c0 todo ih =>
   intro done ho n i bias first hn hi hi2 hlat
   obtain ⟨hcl,hcf,_⟩:=flags_todo l done (c0 :: todo) ho c0 (List.mem_cons_self ..);have hst:=stand_le_put l done todo c0 ho;have hpo:=plain_ord l;have hdl:=congrArg List.length ho;rw [List.length_append,List.length_cons] at hdl;have hlat0:=hlat c0 (List.mem_cons_self ..);have hnn:=passed_nn (l.getD c0 0) n (stand l c0) i (((plainOf l).length+done.length:Nat):Int) hlat0 hi2 (by omega) (by omega);have i1:=ih (done ++ [c0]) (by rw [ho];simp) (l.getD c0 0) (stand l c0) (after ((l.getD c0 0-n)*((((plainOf l).length+done.length:Nat):Int)+1)+(stand l c0:Int)-(i+1)) ((((plainOf l).length+done.length:Nat):Int)+1) first) false (by omega) (by omega) (by rw [List.length_append,List.length_cons,List.length_nil];omega) (later_step l done todo c0 ho);rw [List.length_append,List.length_cons,List.length_nil,show (((plainOf l).length+(done.length+(0+1)):Nat):Int)=(((plainOf l).length+done.length:Nat):Int)+1 from by omega] at i1;simp only [List.map_cons,wayAt,encWays] at i1 ⊢;intro x hx;rcases List.mem_append.1 hx with hx | hx
   · exact writF_plB _ _ _ _ hnn (Nat.le_refl _) x hx
   · exact i1 x hx
theorem okL_plB (c:Int) (h:okL c=true) (hc:c<128):plB (UInt8.ofNat c.toNat):=by
 unfold okL at h;unfold plB;simp only [Bool.or_eq_true,decide_eq_true_eq] at h;simp only [UInt8.toNat_ofNat'];omega
theorem formOf_plB (m:List Int) (ho:m.all okL=true):∀ x∈formOf m,plB x:=by
 rw [List.all_eq_true] at ho;unfold formOf;cases hf:(m.any fun c=>decide (128≤c)) with
 | true =>
   simp only [if_true];intro x hx;rcases List.mem_append.1 hx with hx | hx
   · unfold xn at hx;unfold plB;simp only [List.mem_cons,List.mem_nil_iff,or_false] at hx;rcases hx with rfl | rfl | rfl | rfl <;> decide
   · unfold enc headOf at hx;rcases List.mem_append.1 hx with hx | hx
     · rcases List.mem_append.1 hx with hx | hx
       · unfold plainOf at hx;obtain ⟨c,hc,rfl⟩:=List.mem_map.1 hx;obtain ⟨hm,hd⟩:=List.mem_filter.1 hc;exact okL_plB c (ho c hm) (by simpa using hd)
       · split at hx
         · rw [List.mem_singleton.1 hx];unfold plB;decide
         · cases hx
     · have:=encWays_plB m (ord m) [] rfl 128 (-1) 72 true (by omega) (by omega) (by omega) (later_start m);simp only [List.length_nil,Nat.add_zero] at this;exact this x hx
 | false =>
   simp only [Bool.false_eq_true,if_false];intro x hx;unfold text at hx;obtain ⟨c,hc,hx⟩:=List.mem_flatMap.1 hx;have h1:c<128:=by
    have:=List.any_eq_false.1 hf c hc
    simpa using this
   unfold utf at hx;rw [if_pos h1,List.mem_singleton] at hx;subst hx;exact okL_plB c (ho c hc) h1
theorem label_plB {l:List Int} {x:List UInt8} (h:label l=some x):x≠[]∧∀ b∈x,plB b:=by
 unfold label at h;split at h
 · rename_i ho;split at h
   · rename_i hk;have hp:=formOf_plB (l.map lower) ho;have hn:formOf (l.map lower)≠[]:=by
      intro e;rw [e] at hk;simp [formOk] at hk
     split at h
     · split at h
       · obtain rfl:=Option.some.inj h;exact ⟨hn,hp⟩
       · cases h
     · obtain rfl:=Option.some.inj h;exact ⟨hn,hp⟩
   · cases h
 · cases h
theorem hostGo_mem:∀ (l cur:List Int) (h:List (List UInt8)),hostGo l cur=some h→h≠[]∧∀ x∈h,∃ p,label p=some x
 | [],cur,h,e=>by
   unfold hostGo at e;cases hl:label cur with
   | none=>rw [hl] at e;cases e
   | some x =>
     rw [hl] at e;obtain rfl:=Option.some.inj e;exact ⟨by simp,fun y hy=>⟨cur,by rw [List.mem_singleton.1 hy];exact hl⟩⟩
 | c :: r,cur,h,e=>by
   unfold hostGo at e;split at e
   · cases hl:label cur with
     | none=>rw [hl] at e;cases e
     | some x =>
       rw [hl] at e;obtain ⟨h',e1,rfl⟩:=Option.map_eq_some_iff.1 e;have ih:=hostGo_mem r [] h' e1;refine ⟨by simp,fun y hy=>?_⟩;rcases List.mem_cons.1 hy with rfl | hy
       · exact ⟨cur,hl⟩
       · exact ih.2 y hy
   · exact hostGo_mem r (cur ++ [c]) h e
def HostOk (h:List (List UInt8)):Prop:=h≠[]∧h.length≤6∧allLen h≤61∧∀ x∈h,x≠[]∧∀ b∈x,plB b
theorem host_ok (s:List UInt8) (h:(host s).2=0):HostOk (host s).1:=by
 unfold host at h ⊢;split
 · rename_i hc;rw [if_pos hc] at h;simp at h
 · rename_i hc;rw [if_neg hc] at h;cases hl:letters s with
   | none=>rw [hl] at h;simp at h
   | some l =>
     rw [hl] at h;simp only at h ⊢;cases hg:hostGo l [] with
     | none=>rw [hg] at h;simp at h
     | some H =>
       rw [hg] at h;simp only at h ⊢;have hm:=hostGo_mem l [] H hg;unfold hostEnd at h ⊢;split
       · rename_i hc;rw [if_pos hc] at h;simp at h
       · rename_i hc;simp only [Bool.or_eq_true,decide_eq_true_eq,not_or] at hc;refine ⟨hm.1,(by omega:H.length≤6),(by omega:allLen H≤61),fun x hx=>?_⟩;obtain ⟨p,hp⟩:=hm.2 x hx;exact label_plB hp
def keyOf (h:List (List UInt8)) (k s:UInt8):List UInt8:=dotted h.reverse ++ [k,s]
def isKd (b:UInt8):Prop:=b=36∨b=42∨b=33
theorem isKd_not {b:UInt8} (h:isKd b) (h':plB b∨b=46):False:=by
 unfold plB at h';rcases h with rfl | rfl | rfl <;> revert h' <;> decide
theorem dotted_bytes {h:List (List UInt8)} (hp:∀ x∈h,∀ b∈x,plB b):∀ b∈dotted h,plB b∨b=46:=by
 cases h with
 | nil=>intro b hb;simp [dotted] at hb
 | cons x r =>
   intro b hb;simp only [dotted,List.mem_append,List.mem_flatMap,List.mem_cons] at hb;rcases hb with hb | ⟨y,hy,rfl | hb⟩
   · exact Or.inl (hp x (by simp) b hb)
   · exact Or.inr rfl
   · exact Or.inl (hp y (by simp [hy]) b hb)
theorem key_prefix:∀ (D D':List UInt8) (k s k' s':UInt8),(∀ b∈D,plB b∨b=46)→(∀ b∈D',plB b∨b=46)→isKd k→isKd k'→D ++ [k,s] <+: D' ++ [k',s']→D=D'∧k=k'
 | [],[],k,s,k',s',_,_,_,_,h=>by
   obtain ⟨t,ht⟩:=h;simp at ht;exact ⟨rfl,ht.1⟩
 | [],y :: D',k,s,k',s',_,h2,hk,_,h=>by
   obtain ⟨t,ht⟩:=h;simp at ht;exact absurd (h2 y (by simp)) (fun e=>isKd_not hk (ht.1 ▸ e))
 | x :: D,[],k,s,k',s',h1,_,_,hk',h=>by
   obtain ⟨t,ht⟩:=h;simp at ht;exact absurd (h1 x (by simp)) (fun e=>isKd_not hk' (ht.1 ▸ e))
 | x :: D,y :: D',k,s,k',s',h1,h2,hk,hk',h=>by
   obtain ⟨t,ht⟩:=h;simp only [List.cons_append,List.cons.injEq] at ht;obtain ⟨e1,e2⟩:=key_prefix D D' k s k' s' (fun b hb=>h1 b (by simp [hb])) (fun b hb=>h2 b (by simp [hb])) hk hk' ⟨t,ht.2⟩;exact ⟨by rw [ht.1,e1],e2⟩
theorem cut46:∀ (x y u v:List UInt8),(∀ b∈x,b≠46)→(∀ b∈y,b≠46)→x ++ 46 :: u=y ++ 46 :: v→x=y∧u=v
 | [],[],u,v,_,_,h=>by simpa using h
 | [],b :: y,u,v,_,h2,h=>by
   simp only [List.nil_append,List.cons_append,List.cons.injEq] at h;exact absurd h.1.symm (h2 b (by simp))
 | a :: x,[],u,v,h1,_,h=>by
   simp only [List.nil_append,List.cons_append,List.cons.injEq] at h;exact absurd h.1 (h1 a (by simp))
 | a :: x,b :: y,u,v,h1,h2,h=>by
   simp only [List.cons_append,List.cons.injEq] at h;obtain ⟨e1,e2⟩:=cut46 x y u v (fun c hc=>h1 c (by simp [hc])) (fun c hc=>h2 c (by simp [hc])) h.2;exact ⟨by rw [h.1,e1],e2⟩
theorem dotted_cons (x y:List UInt8) (r:List (List UInt8)):dotted (x :: y :: r)=x ++ 46 :: dotted (y :: r):=by simp [dotted]
theorem dotted_inj:∀ (h h':List (List UInt8)),h≠[]→h'≠[]→(∀ x∈h,∀ b∈x,b≠46)→(∀ x∈h',∀ b∈x,b≠46)→dotted h=dotted h'→h=h'
 | [],_,n,_,_,_,_=>absurd rfl n
 | _ :: _,[],_,n,_,_,_=>absurd rfl n
 | [x],[y],_,_,_,_,e=>by simpa [dotted] using e
 | [x],y :: z :: r,_,_,h1,_,e=>by
   rw [dotted_cons] at e;simp only [dotted,List.flatMap_nil,List.append_nil] at e;exact absurd rfl (h1 x (by simp) 46 (by rw [e];simp))
 | x :: y :: r,[z],_,_,_,h2,e=>by
   rw [dotted_cons] at e;simp only [dotted,List.flatMap_nil,List.append_nil] at e;exact absurd rfl (h2 z (by simp) 46 (by rw [←e];simp))
 | x :: y :: r,x' :: y' :: r',_,_,h1,h2,e=>by
   rw [dotted_cons,dotted_cons] at e;obtain ⟨e1,e2⟩:=cut46 _ _ _ _ (h1 x (by simp)) (h2 x' (by simp)) e;rw [e1,dotted_inj (y :: r) (y' :: r') (by simp) (by simp) (fun z hz=>h1 z (by simp [hz])) (fun z hz=>h2 z (by simp [hz])) e2]
theorem plB_no46 {b:UInt8} (h:plB b):b≠46:=by
 rintro rfl;revert h;unfold plB;decide
abbrev Rl:=List (List UInt8) × UInt8 × UInt8
def rlKey (r:Rl):List UInt8:=keyOf r.1 r.2.1 r.2.2
def RlOk (r:Rl):Prop:=HostOk r.1∧isKd r.2.1
theorem key_pre {a b:Rl} (ha:RlOk a) (hb:RlOk b) (h:rlKey a <+: rlKey b):a.1=b.1∧a.2.1=b.2.1:=by
 have pa:∀ x∈a.1.reverse,∀ c∈x,plB c:=fun x hx=>(ha.1.2.2.2 x (List.mem_reverse.1 hx)).2;have pb:∀ x∈b.1.reverse,∀ c∈x,plB c:=fun x hx=>(hb.1.2.2.2 x (List.mem_reverse.1 hx)).2;obtain ⟨e1,e2⟩:=key_prefix _ _ _ _ _ _ (dotted_bytes pa) (dotted_bytes pb) ha.2 hb.2 h;have:=dotted_inj _ _ (by simpa using ha.1.1) (by simpa using hb.1.1) (fun x hx c hc=>plB_no46 (pa x hx c hc)) (fun x hx c hc=>plB_no46 (pb x hx c hc)) e1;exact ⟨List.reverse_inj.1 this,e2⟩
theorem keys_free {l:List Rl} (ho:∀ r∈l,RlOk r) (hp:l.Pairwise fun a b=>¬ (a.1=b.1∧a.2.1=b.2.1)):Free (l.map rlKey):=by
 unfold Free;rw [List.pairwise_map];refine List.Pairwise.imp_of_mem (fun {a b} ha hb hab=>⟨fun e=>hab (key_pre (ho a ha) (ho b hb) e),fun e=>hab ?_⟩) hp;have:=key_pre (ho b hb) (ho a ha) e;exact ⟨this.1.symm,this.2.symm⟩
end Sx
namespace Sx
theorem wlt_irr (a:Wd):¬ a<a:=List.lt_irrefl a
theorem wlt_trans {a b c:Wd} (h:a<b) (h':b<c):a<c:=List.lt_trans h h'
theorem wlt_asym (a b:Wd) (h:a<b):¬ b<a:=fun h'=>wlt_irr a (wlt_trans h h')
theorem wlt_tri (a b:Wd) (h:¬ a<b):a=b∨b<a:=by
 by_cases h':b<a
 · exact Or.inr h'
 · exact Or.inl (List.le_antisymm (List.not_lt.1 h') (List.not_lt.1 h))
def insW (x:Wd) (m:List Wd):List Wd:=m.takeWhile (fun y=>decide (y<x)) ++ x :: m.dropWhile (fun y=>decide (y<x))
def sortW (l:List Wd):List Wd:=l.foldl (fun m x=>insW x m) []
theorem insW_mem (x y:Wd) (m:List Wd):y∈insW x m↔y=x∨y∈m:=by
 have h:m.takeWhile (fun y=>decide (y<x)) ++ m.dropWhile (fun y=>decide (y<x))=m:=List.takeWhile_append_dropWhile;have hm:y∈m↔y∈m.takeWhile (fun y=>decide (y<x))∨y∈m.dropWhile (fun y=>decide (y<x)):=by rw [←List.mem_append,h]
 unfold insW;rw [List.mem_append,List.mem_cons,hm];constructor
 · rintro (h | h | h)
   · exact Or.inr (Or.inl h)
   · exact Or.inl h
   · exact Or.inr (Or.inr h)
 · rintro (h | h | h)
   · exact Or.inr (Or.inl h)
   · exact Or.inl h
   · exact Or.inr (Or.inr h)
theorem insW_cons (x y:Wd) (m:List Wd):insW x (y :: m)=if y<x then y :: insW x m else x :: y :: m:=by
 unfold insW;by_cases h:y<x
 · simp [h]
 · simp [h]
theorem insW_rising (x:Wd):∀ (m:List Wd),x ∉ m→m.Pairwise (· < ·)→(insW x m).Pairwise (· < ·)
 | [],_,_=>by simp [insW]
 | y :: m,hx,hp=>by
   obtain ⟨h1,h2⟩:=List.pairwise_cons.1 hp;simp only [List.mem_cons,not_or] at hx;rw [insW_cons];split
   · rename_i h;refine List.pairwise_cons.2 ⟨fun z hz=>?_,insW_rising x m hx.2 h2⟩;rcases (insW_mem x z m).1 hz with rfl | hz
     · exact h
     · exact h1 z hz
   · rename_i h;have hxy:x<y:=by
      rcases wlt_tri y x h with e | e
      · exact absurd e.symm hx.1
      · exact e
     refine List.pairwise_cons.2 ⟨fun z hz=>?_,hp⟩;rcases List.mem_cons.1 hz with rfl | hz
     · exact hxy
     · exact wlt_trans hxy (h1 z hz)
theorem sortW_go:∀ (l m:List Wd),l.Nodup→(∀ x∈l,x ∉ m)→m.Pairwise (· < ·) →
 (l.foldl (fun m x=>insW x m) m).Pairwise (· < ·)∧∀ y,y∈l.foldl (fun m x=>insW x m) m↔y∈l∨y∈m
 | [],m,_,_,hp=>⟨hp,by simp⟩
 | x :: l,m,hn,hd,hp=>by
   obtain ⟨n1,n2⟩:=List.nodup_cons.1 hn;obtain ⟨e1,e2⟩:=sortW_go l (insW x m) n2 (fun y hy hm=>by
    rcases (insW_mem x y m).1 hm with rfl | hm
    · exact n1 hy
    · exact hd y (by simp [hy]) hm) (insW_rising x m (hd x (by simp)) hp)
   refine ⟨e1,fun y=>?_⟩;rw [List.foldl_cons,e2 y,insW_mem,List.mem_cons];constructor
   · rintro (h | h | h)
     · exact Or.inl (Or.inr h)
     · exact Or.inl (Or.inl h)
     · exact Or.inr h
   · rintro ((h | h) | h)
     · exact Or.inr (Or.inl h)
     · exact Or.inl h
     · exact Or.inr (Or.inr h)
theorem sortW_ok (l:List Wd) (hn:l.Nodup):(sortW l).Pairwise (· < ·)∧∀ y,y∈sortW l↔y∈l:=by
 have:=sortW_go l [] hn (by simp) (by simp)
 simpa [sortW] using this
theorem sortW_one (l r:List Wd) (hn:l.Nodup) (hp:r.Pairwise (· < ·)) (hm:∀ y,y∈r↔y∈l):r=sortW l :=
 rising_one wlt_irr wlt_asym r (sortW l) hp (sortW_ok l hn).1 (fun x=>(hm x).trans ((sortW_ok l hn).2 x).symm)
theorem free_nodup {l:List Wd} (h:Free l):l.Nodup:=List.Pairwise.imp (fun {a b} (hab:¬ a <+: b∧¬ b <+: a) (e:a=b)=>hab.1 (e ▸ List.prefix_refl a)) h
theorem free_sort {l:List Wd} (h:Free l):Free (sortW l):=by
 have hs:=sortW_ok l (free_nodup h);have key:∀ a∈l,∀ b∈l,a≠b→¬ a <+: b:=by
  intro a ha b hb hab e;obtain ⟨i,hi,rfl⟩:=List.mem_iff_getElem.1 ha;obtain ⟨j,hj,rfl⟩:=List.mem_iff_getElem.1 hb;rcases Nat.lt_trichotomy i j with h1 | h1 | h1
  · exact (List.pairwise_iff_getElem.1 h i j hi hj h1).1 e
  · subst h1;exact hab rfl
  · exact (List.pairwise_iff_getElem.1 h j i hj hi h1).2 e
 refine List.Pairwise.imp_of_mem (fun {a b} ha hb hab=>?_) hs.1;have hne:a≠b:=fun e=>wlt_irr a (e ▸ hab);exact ⟨key a ((hs.2 a).1 ha) b ((hs.2 b).1 hb) hne,key b ((hs.2 b).1 hb) a ((hs.2 a).1 ha) (Ne.symm hne)⟩
end Sx
namespace Sx
def two (n:Nat):List UInt8:=[UInt8.ofNat (n / 256),UInt8.ofNat (n % 256)]
def tellE (es:List Edg):List UInt8:=UInt8.ofNat es.length :: es.flatMap fun e=>e.1 :: two e.2
theorem two_inj {a b:Nat} (ha:a<65536) (hb:b<65536) (h:two a=two b):a=b:=by
 simp only [two,List.cons.injEq,and_true] at h;have h1:=congrArg UInt8.toNat h.1;have h2:=congrArg UInt8.toNat h.2;simp only [UInt8.toNat_ofNat'] at h1 h2;omega
theorem edges_inj:∀ (a b:List Edg),(∀ e∈a,e.2<65536)→(∀ e∈b,e.2<65536)→(a.flatMap fun e=>e.1 :: two e.2)=(b.flatMap fun e=>e.1 :: two e.2)→a=b
 | [],[],_,_,_=>rfl
 | [],y :: b,_,_,h=>by simp at h
 | x :: a,[],_,_,h=>by simp at h
 | x :: a,y :: b,ha,hb,h=>by
   simp only [List.flatMap_cons,two,List.cons_append,List.nil_append,List.cons.injEq] at h;have e2:x.2=y.2:=two_inj (ha x (by simp)) (hb y (by simp)) (by simp only [two,h.2.1,h.2.2.1]);rw [Prod.ext h.1 e2,edges_inj a b (fun e he=>ha e (by simp [he])) (fun e he=>hb e (by simp [he])) h.2.2.2]
theorem tellE_inj {a b:List Edg} (ha:∀ e∈a,e.2<65536) (hb:∀ e∈b,e.2<65536) (h:tellE a=tellE b):a=b :=
 edges_inj a b ha hb (List.cons.inj h).2
theorem grp_sum:∀ (l:List Wd),(∀ w∈l,w≠[])→((grp l).map fun g=>sl g.2+1).sum≤sl l
 | [],_=>by simp [grp]
 | [] :: r,h=>absurd rfl (h [] (by simp))
 | (c :: t) :: r,h=>by
   have ih:=grp_sum r (fun w hw=>h w (by simp [hw]));unfold grp;cases hr:grp r with
   | nil=>simp [sl]
   | cons x g =>
     obtain ⟨d,b⟩:=x;rw [hr] at ih;by_cases e:d=c
     · simp [e,sl] at ih ⊢;omega
     · simp [e,sl] at ih ⊢;omega
theorem edgF_len:∀ (n:Nat) (tab:List (List Edg)) (l:List Wd),OkF n l→(∀ es∈tab,∀ e∈es,e.2<tab.length) →
 tab.length≤(edgF n tab l).1.length∧(edgF n tab l).1.length≤tab.length+sl l+1∧(edgF n tab l).2<(edgF n tab l).1.length∧∀ es∈(edgF n tab l).1,∀ e∈es,e.2<(edgF n tab l).1.length
 | 0,_,_,h,_=>absurd h (by simp [OkF])
 | n+1,tab,l,ho,ht=>by
   have fold:∀ (gs:List (UInt8 × List Wd)) (tab:List (List Edg)) (es0:List Edg),(∀ g∈gs,OkF n g.2)→(∀ es∈tab,∀ e∈es,e.2<tab.length)→(∀ e∈es0,e.2<tab.length) →
    tab.length≤(gs.foldl (edgE n) (tab,es0)).1.length∧(gs.foldl (edgE n) (tab,es0)).1.length≤tab.length+(gs.map fun g=>sl g.2+1).sum ∧
    (∀ es∈(gs.foldl (edgE n) (tab,es0)).1,∀ e∈es,e.2<(gs.foldl (edgE n) (tab,es0)).1.length)∧(∀ e∈(gs.foldl (edgE n) (tab,es0)).2,e.2<(gs.foldl (edgE n) (tab,es0)).1.length):=by
    intro gs
    induction gs with
    | nil=>intro tab es0 _ h1 h2;exact ⟨Nat.le_refl _,by simp,h1,h2⟩
    | cons g gs ih =>
      intro tab es0 hg h1 h2;obtain ⟨a1,a2,a3,a4⟩:=edgF_len n tab g.2 (hg g (by simp)) h1;obtain ⟨b1,b2,b3,b4⟩:=ih (edgF n tab g.2).1 (es0 ++ [(g.1,(edgF n tab g.2).2)]) (fun y hy=>hg y (by simp [hy])) a4 (fun e he=>by
       rcases List.mem_append.1 he with he | he
       · have:=h2 e he;omega
       · rw [List.mem_singleton.1 he];exact a3)
      rw [List.foldl_cons,show edgE n (tab,es0) g=((edgF n tab g.2).1,es0 ++ [(g.1,(edgF n tab g.2).2)]) from rfl];refine ⟨by omega,?_,b3,b4⟩;simp only [List.map_cons,List.sum_cons];omega
   obtain ⟨f1,f2,f3,f4⟩:=fold (grp l) tab [] ho.2 ht (by simp);have hs:((grp l).map fun g=>sl g.2+1).sum≤sl l:=by
    rcases ho.1 with rfl | ⟨_,h1⟩
    · simp [grp]
    · exact grp_sum l h1
   rw [edgF_succ];generalize (grp l).foldl (edgE n) (tab,[])=r at f1 f2 f3 f4;cases hp:posOf r.2 r.1 with
   | some i =>
     have:=posOf_get _ _ _ hp;have hi:i<r.1.length:=(List.getElem?_eq_some_iff.1 this).1;exact ⟨f1,by simp only;omega,hi,f3⟩
   | none =>
     simp only [List.length_append,List.length_cons,List.length_nil];refine ⟨by omega,by omega,by omega,fun es hes e he=>?_⟩;rcases List.mem_append.1 hes with hes | hes
     · have:=f3 es hes e he;omega
     · rw [List.mem_singleton.1 hes] at he;have:=f4 e he;omega
end Sx
namespace Sx
def linesGo:List UInt8→List UInt8→List (List UInt8)
 | [],cur=>if cur=[] then [] else [cur]
 | x :: r,cur=>if x=10 then cur :: linesGo r [] else linesGo r (cur ++ [x])
def linesOf (s:List UInt8):List (List UInt8):=linesGo s []
def cutRl (line:List UInt8):UInt8 × List UInt8 :=
 if line.take 2=[42,46] then (42,line.drop 2) else if line.take 1=[33] then (33,line.drop 1) else (36,line)
def readRl (line:List UInt8) (sec:UInt8):Option Rl :=
 if (host (cutRl line).2).2=0∧((cutRl line).1=33→1<(host (cutRl line).2).1.length) then some ((host (cutRl line).2).1,(cutRl line).1,sec) else none
def known (rs:List Rl) (r:Rl):Bool:=rs.any fun q=>decide (dotted q.1=dotted r.1) && decide (q.2.1=r.2.1)
def addLn (rs:List Rl) (sec:UInt8) (line:List UInt8):(List Rl × UInt8) × Int :=
 if line=[]∨line.take 2=[47,47] then ((rs,sec),0)
 else if line=[61,61,61,105] then ((rs,105),0)
 else if line=[61,61,61,112] then ((rs,112),0)
 else match readRl line sec with
  | none=>((rs,sec),3)
  | some r=>if known rs r then ((rs,sec),4) else if rs.length=30 then ((rs,sec),5) else ((rs ++ [r],sec),0)
def addLns:List (List UInt8)→List Rl→UInt8→Int→List Rl × Int × Int
 | [],rs,_,n=>(rs,0,n)
 | x :: r,rs,sec,n=>if (addLn rs sec x).2=0 then addLns r (addLn rs sec x).1.1 (addLn rs sec x).1.2 (n+1) else (rs,(addLn rs sec x).2,n)
def addAll:List (List UInt8)→List Rl→Int→List Rl × Int × Int
 | [],rs,n=>(rs,0,n)
 | s :: r,rs,n=>if (addLns (linesOf s) rs 105 n).2.1=0 then addAll r (addLns (linesOf s) rs 105 n).1 (addLns (linesOf s) rs 105 n).2.2 else addLns (linesOf s) rs 105 n
def imgT (tab:List (List Edg)):List UInt8:=two tab.length ++ tab.flatMap tellE
def tabOf (rs:List Rl):List (List Edg):=if rs=[] then [] else (edgF 64 [] (sortW (rs.map rlKey))).1
def compR (lists:List (List UInt8)):List UInt8 × Int × Int :=
 if 2000<sl lists then ([],1,0)
 else if (addAll lists [] 0).2.1=0 then (imgT (tabOf (addAll lists [] 0).1),0,0) else ([],(addAll lists [] 0).2.1,(addAll lists [] 0).2.2)
structure RlsOk (rs:List Rl):Prop where
 ok:∀ r∈rs,RlOk r
 apart:rs.Pairwise fun a b=>¬ (a.1=b.1∧a.2.1=b.2.1)
 many:rs.length≤30
theorem cutRl_kd (line:List UInt8):isKd (cutRl line).1:=by
 unfold cutRl isKd;split
 · exact Or.inr (Or.inl rfl)
 · split
   · exact Or.inr (Or.inr rfl)
   · exact Or.inl rfl
theorem readRl_ok {line:List UInt8} {sec:UInt8} {r:Rl} (h:readRl line sec=some r):RlOk r:=by
 unfold readRl at h;split at h
 · rename_i hc;obtain rfl:=Option.some.inj h;exact ⟨host_ok _ hc.1,cutRl_kd line⟩
 · cases h
theorem addLn_ok {rs:List Rl} {sec:UInt8} {line:List UInt8} (h:RlsOk rs):RlsOk (addLn rs sec line).1.1:=by
 unfold addLn;split
 · exact h
 · split
   · exact h
   · split
     · exact h
     · cases hr:readRl line sec with
       | none=>exact h
       | some r =>
         simp only;split
         · exact h
         · rename_i hk;split
           · exact h
           · rename_i hm;refine ⟨fun q hq=>?_,?_,?_⟩
             · rcases List.mem_append.1 hq with hq | hq
               · exact h.ok q hq
               · rw [List.mem_singleton.1 hq];exact readRl_ok hr
             · rw [List.pairwise_append];refine ⟨h.apart,by simp,fun a ha b hb hab=>hk ?_⟩;rw [List.mem_singleton.1 hb] at hab;unfold known;rw [List.any_eq_true];exact ⟨a,ha,by simp [hab.1,hab.2]⟩
             · have:=h.many;rw [List.length_append];simp only [List.length_cons,List.length_nil];omega
theorem addLns_ok:∀ (l:List (List UInt8)) (rs:List Rl) (sec:UInt8) (n:Int),RlsOk rs→RlsOk (addLns l rs sec n).1
 | [],_,_,_,h=>h
 | x :: r,rs,sec,n,h=>by
   unfold addLns;split
   · exact addLns_ok r _ _ _ (addLn_ok h)
   · exact h
theorem addAll_ok:∀ (l:List (List UInt8)) (rs:List Rl) (n:Int),RlsOk rs→RlsOk (addAll l rs n).1
 | [],_,_,h=>h
 | s :: r,rs,n,h=>by
   unfold addAll;split
   · exact addAll_ok r _ _ (addLns_ok _ _ _ _ h)
   · exact addLns_ok _ _ _ _ h
theorem rlsOk_nil:RlsOk []:=⟨by simp,by simp,by simp⟩
theorem allLen_rev (h:List (List UInt8)):allLen h.reverse=allLen h:=by
 unfold allLen;rw [List.map_reverse,List.sum_reverse]
theorem rlKey_len {r:Rl} (h:RlOk r):(rlKey r).length<64:=by
 unfold rlKey keyOf;have h1:=h.1.2.2.1;rw [List.length_append];simp only [List.length_cons,List.length_nil];have hr:r.1.reverse≠[]:=by simpa using h.1.1
 obtain ⟨x,t,ht⟩:=List.exists_cons_of_ne_nil hr;have key:(dotted r.1.reverse).length+1=allLen r.1.reverse:=by
  rw [ht];have:∀ q:List (List UInt8),(q.flatMap fun y=>46 :: y).length=allLen q:=by
   intro q
   induction q with
   | nil=>rfl
   | cons a q ih=>simp only [List.flatMap_cons,List.length_append,ih,allLen,List.map_cons,List.sum_cons,List.length_cons]
  simp only [dotted,List.length_append,this,allLen,List.map_cons,List.sum_cons];omega
 rw [allLen_rev] at key;omega
theorem keys_ok {rs:List Rl} (h:RlsOk rs) (h0:rs≠[]):OkF 64 (sortW (rs.map rlKey))∧Free (sortW (rs.map rlKey)):=by
 have hf:=keys_free h.ok h.apart;have hs:=free_sort hf;have hm:=(sortW_ok _ (free_nodup hf)).2;refine ⟨free_ok 64 _ hs (fun e=>?_) (fun w hw=>?_),hs⟩
 · obtain ⟨r,t,rfl⟩:=List.exists_cons_of_ne_nil h0;have:=(hm (rlKey r)).2 (by simp);rw [e] at this;cases this
 · obtain ⟨r,hr,rfl⟩:=List.mem_map.1 ((hm w).1 hw);exact rlKey_len (h.ok r hr)
theorem img_same {rs:List Rl} (h:RlsOk rs) (h0:rs≠[]):((stsF 64 [] (sortW (rs.map rlKey))).1.map (·.2))=tabOf rs:=by
 have:=(sts_add 64 [] (sortW (rs.map rlKey)) ⟨by simp,by simp,by simp⟩ (keys_ok h h0).1).same;unfold tabOf;rw [if_neg h0,show ([] : List (List Edg))=(([] : Sts).map (·.2)) from rfl,this]
end Sx
namespace Sx
def lineLen (s:List UInt8):Nat:=(s.takeWhile fun x=>decide (x≠10)).length
theorem linesGo_more:∀ (s cur:List UInt8),s≠[]∨cur≠[]→linesGo s cur=(cur ++ s.take (lineLen s)) :: linesOf (s.drop (lineLen s+1))
 | [],cur,h=>by
   have h:cur≠[]:=by rcases h with h | h;exact absurd rfl h;exact h
   simp [linesGo,h,lineLen,linesOf]
 | x :: r,cur,_=>by
   unfold linesGo;by_cases hx:x=10
   · simp [hx,lineLen,linesOf]
   · rw [if_neg hx,linesGo_more r (cur ++ [x]) (Or.inr (by simp))];have:lineLen (x :: r)=lineLen r+1:=by simp [lineLen,hx]
     rw [this];simp
theorem linesOf_more {s:List UInt8} (h:s≠[]):linesOf s=s.take (lineLen s) :: linesOf (s.drop (lineLen s+1)):=by
 have:=linesGo_more s [] (Or.inl h);rw [List.nil_append] at this;exact this
theorem lineLen_le (s:List UInt8):lineLen s≤s.length:=by
 unfold lineLen;exact (List.takeWhile_sublist _).length_le
theorem lineLen_ne:∀ {s:List UInt8} {j:Nat},j<lineLen s→∀ hs:j<s.length,s[j]≠10
 | [],j,h,hs=>by simp at hs
 | x :: r,j,h,hs=>by
   by_cases hx:x=10
   · simp [lineLen,hx] at h
   · have e:lineLen (x :: r)=lineLen r+1:=by simp [lineLen,hx]
     cases j with
     | zero=>exact hx
     | succ j =>
       rw [e] at h;exact lineLen_ne (s:=r) (j:=j) (by omega) (by simpa using hs)
theorem lineLen_at {s:List UInt8} (h:lineLen s<s.length):s[lineLen s]=10:=by
 induction s with
 | nil=>simp at h
 | cons x r ih =>
   by_cases hx:x=10
   · simp [lineLen,hx]
   · have e:lineLen (x :: r)=lineLen r+1:=by simp [lineLen,hx]
     have h2:lineLen r<r.length:=by rw [e] at h;simpa using h
     have:=ih h2;simp only [e,List.getElem_cons_succ];exact this
theorem grp_block (c:UInt8):∀ (b:List Wd) (rest:List Wd),b≠[]→(∀ w∈rest,w≠[])→(∀ d t r,rest=(d :: t) :: r→d≠c)→grp (b.map (c :: ·) ++ rest)=(c,b) :: grp rest
 | [],_,h,_,_=>absurd rfl h
 | [t],rest,_,hne,hr=>by
   cases rest with
   | nil=>simp [grp]
   | cons x r =>
     cases x with
     | nil=>exact absurd rfl (hne [] (by simp))
     | cons d u =>
       have hd:=hr d u r rfl;have:∃ b g,grp ((d :: u) :: r)=(d,b) :: g:=by
        unfold grp;cases hg:grp r with
        | nil=>exact ⟨_,_,rfl⟩
        | cons y g =>
          obtain ⟨e,b⟩:=y;by_cases he:e=d
          · subst he;exact ⟨u :: b,g,by simp⟩
          · exact ⟨[u],(e,b) :: g,by simp [he]⟩
       obtain ⟨b,g,hg⟩:=this;rw [show List.map (c :: ·) [t] ++ (d :: u) :: r=(c :: t) :: (d :: u) :: r from rfl,grp,hg];simp [hd]
 | t :: t2 :: b,rest,_,hne,hr=>by
   have ih:=grp_block c (t2 :: b) rest (by simp) hne hr;rw [show List.map (c :: ·) (t :: t2 :: b) ++ rest=(c :: t) :: (List.map (c :: ·) (t2 :: b) ++ rest) from rfl,grp,ih];simp
def idOf (l:List Wd):List UInt8:=l.flatMap (· ++ [10])
theorem word_split:∀ (a b x y:List UInt8),(10:UInt8) ∉ a→(10:UInt8) ∉ b→a ++ 10 :: x=b ++ 10 :: y→a=b∧x=y
 | [],[],x,y,_,_,h=>by simpa using h
 | [],d :: b,x,y,_,hb,h=>by
   simp only [List.nil_append,List.cons_append,List.cons.injEq] at h;exact absurd (by simp [←h.1]) hb
 | c :: a,[],x,y,ha,_,h=>by
   simp only [List.nil_append,List.cons_append,List.cons.injEq] at h;exact absurd (by simp [h.1]) ha
 | c :: a,d :: b,x,y,ha,hb,h=>by
   simp only [List.cons_append,List.cons.injEq] at h;simp only [List.mem_cons,not_or] at ha hb;obtain ⟨h1,h2⟩:=word_split a b x y ha.2 hb.2 h.2;exact ⟨by rw [h.1,h1],h2⟩
def NoNl (l:List Wd):Prop:=∀ w∈l,(10:UInt8) ∉ w
theorem idOf_inj:∀ (a b:List Wd),NoNl a→NoNl b→idOf a=idOf b→a=b
 | [],[],_,_,_=>rfl
 | [],y :: b,_,_,h=>by simp [idOf] at h
 | x :: a,[],_,_,h=>by simp [idOf] at h
 | x :: a,y :: b,ha,hb,h=>by
   simp only [idOf,List.flatMap_cons,List.append_assoc,List.cons_append,List.nil_append] at h;obtain ⟨h1,h2⟩:=word_split x y _ _ (ha x (by simp)) (hb y (by simp)) h;rw [h1,idOf_inj a b (fun w hw=>ha w (by simp [hw])) (fun w hw=>hb w (by simp [hw])) h2]
theorem posOf_map {α β:Type} [DecidableEq α] [DecidableEq β] (f:α→β) (x:α):∀ (l:List α),(∀ y∈l,f y=f x→y=x)→posOf (f x) (l.map f)=posOf x l
 | [],_=>rfl
 | y :: r,h=>by
   simp only [List.map_cons,posOf];by_cases e:y=x
   · simp [e]
   · rw [if_neg e,if_neg (fun e2=>e (h y (by simp) e2)),posOf_map f x r (fun z hz=>h z (by simp [hz]))]
theorem nonl_grp:∀ (l:List Wd),NoNl l→∀ g∈grp l,NoNl g.2
 | [],_,g,hg=>by simp [grp] at hg
 | [] :: r,h,g,hg=>nonl_grp r (fun w hw=>h w (by simp [hw])) g (by simpa [grp] using hg)
 | (c :: t) :: r,h,g,hg=>by
   have ih:=nonl_grp r (fun w hw=>h w (by simp [hw]));have ht:(10:UInt8) ∉ t:=fun e=>h (c :: t) (by simp) (by simp [e]);unfold grp at hg;cases hr:grp r with
   | nil =>
     rw [hr] at hg;simp only [List.mem_singleton] at hg;subst hg;intro w hw;simp only [List.mem_singleton] at hw;rw [hw];exact ht
   | cons x g' =>
     obtain ⟨d,b⟩:=x;rw [hr] at hg ih;by_cases e:d=c
     · simp only [if_pos e,List.mem_cons] at hg;rcases hg with rfl | hg
       · intro w hw;rcases List.mem_cons.1 hw with rfl | hw
         · exact ht
         · exact ih (d,b) (by simp) w hw
       · exact ih g (by simp [hg])
     · simp only [if_neg e,List.mem_cons] at hg;rcases hg with rfl | rfl | hg
       · intro w hw;simp only [List.mem_singleton] at hw;rw [hw];exact ht
       · exact ih (d,b) (by simp)
       · exact ih g (by simp [hg])
end Sx
namespace Sx
theorem split_block:∀ (L:List Wd),(∀ w∈L,w≠[])→L≠[]→∃ (c:UInt8) (b:List Wd) (rest:List Wd),L=b.map (c :: ·) ++ rest∧b≠[]∧∀ d t r,rest=(d :: t) :: r→d≠c
 | [],_,h=>absurd rfl h
 | [] :: r,h,_=>absurd rfl (h [] (by simp))
 | [c :: t],_,_=>⟨c,[t],[],by simp,by simp,by simp⟩
 | (c :: t) :: y :: r,h,_=>by
   obtain ⟨d,b,rest,h1,h2,h3⟩:=split_block (y :: r) (fun w hw=>h w (List.mem_cons_of_mem _ hw)) (by simp);by_cases e:d=c
   · subst e;exact ⟨d,t :: b,rest,by rw [h1];simp,by simp,h3⟩
   · refine ⟨c,[t],y :: r,by simp,by simp,fun d' t' r' h'=>?_⟩;obtain ⟨u,b',rfl⟩:=List.exists_cons_of_ne_nil h2;rw [h'] at h1;simp only [List.map_cons,List.cons_append,List.cons.injEq] at h1;rw [h1.1.1];exact e
theorem stsF_len:∀ (n:Nat) (all:Sts) (l:List Wd),OkF n l→(stsF n all l).1.length≤all.length+sl l+1
 | 0,_,_,h=>absurd h (by simp [OkF])
 | n+1,all,l,ho=>by
   have fold:∀ (gs:List (UInt8 × List Wd)) (s:Sts × List Edg),(∀ g∈gs,OkF n g.2)→(gs.foldl (stsE n) s).1.length≤s.1.length+(gs.map fun g=>sl g.2+1).sum:=by
    intro gs
    induction gs with
    | nil=>intro s _;simp
    | cons g gs ih =>
      intro s hg;have a1:=stsF_len n s.1 g.2 (hg g (by simp));have a2:=ih (stsE n s g) (fun y hy=>hg y (by simp [hy]));rw [List.foldl_cons];simp only [List.map_cons,List.sum_cons];simp only [stsE] at a2 ⊢;omega
   have f:=fold (grp l) (all,[]) ho.2;have hs:((grp l).map fun g=>sl g.2+1).sum≤sl l:=by
    rcases ho.1 with rfl | ⟨_,h1⟩
    · simp [grp]
    · exact grp_sum l h1
   rw [stsF_succ];split
   · simp only;omega
   · simp only [List.length_append,List.length_cons,List.length_nil] at f ⊢;omega
theorem grp_sum_ok {n:Nat} {l:List Wd} (ho:OkF (n+1) l):((grp l).map fun g=>sl g.2+1).sum≤sl l:=by
 rcases ho.1 with rfl | ⟨_,h1⟩
 · simp [grp]
 · exact grp_sum l h1
end Sx
namespace Sx
def wds:Nat→List (List Edg)→Nat→List Wd
 | 0,_,_=>[]
 | f+1,tab,i=>match tab[i]? with
   | none=>[]
   | some []=>[[]]
   | some (e :: es)=>(e :: es).flatMap fun e=>(wds f tab e.2).map (e.1 :: ·)
def Closed (tab:List (List Edg)):Prop:=∀ es∈tab,∀ e∈es,e.2<tab.length
theorem wds_ext {tab:List (List Edg)} (hc:Closed tab) (ext:List (List Edg)):∀ (f i:Nat),i<tab.length→wds f (tab ++ ext) i=wds f tab i
 | 0,_,_=>rfl
 | f+1,i,hi=>by
   have h1:(tab ++ ext)[i]? = tab[i]?:=List.getElem?_append_left hi;unfold wds;rw [h1];cases ht:tab[i]? with
   | none=>rfl
   | some es =>
     cases es with
     | nil=>rfl
     | cons e es =>
       have hm:=List.mem_of_getElem? ht;simp only;rw [List.flatMap_def,List.flatMap_def];congr 1;apply List.map_congr_left;intro x hx;rw [wds_ext hc ext f x.2 (hc _ hm x hx)]
theorem edgF_ext:∀ (n:Nat) (tab:List (List Edg)) (l:List Wd),∃ ext,(edgF n tab l).1=tab ++ ext
 | 0,tab,_=>⟨[],by simp [edgF]⟩
 | n+1,tab,l=>by
   have fold:∀ (gs:List (UInt8 × List Wd)) (s:List (List Edg) × List Edg),∃ ext,(gs.foldl (edgE n) s).1=s.1 ++ ext:=by
    intro gs
    induction gs with
    | nil=>intro s;exact ⟨[],by simp⟩
    | cons g gs ih =>
      intro s;obtain ⟨e1,h1⟩:=edgF_ext n s.1 g.2;obtain ⟨e2,h2⟩:=ih (edgE n s g);refine ⟨e1 ++ e2,?_⟩;rw [List.foldl_cons,h2];simp only [edgE];rw [h1,List.append_assoc]
   obtain ⟨ext,hx⟩:=fold (grp l) (tab,[]);rw [edgF_succ];split
   · exact ⟨ext,hx⟩
   · exact ⟨ext ++ [_],by rw [hx,List.append_assoc]⟩
theorem edgF_wds:∀ (n:Nat) (tab:List (List Edg)) (l:List Wd),OkF n l→Closed tab→wds n (edgF n tab l).1 (edgF n tab l).2=l
 | 0,_,_,h,_=>absurd h (by simp [OkF])
 | n+1,tab,l,ho,hc=>by
   have fold:∀ (gs:List (UInt8 × List Wd)) (tab:List (List Edg)) (es:List Edg) (done:List (UInt8 × List Wd)),(∀ g∈gs,OkF n g.2)→Closed tab→(∀ e∈es,e.2<tab.length)→es.map (fun e=>(e.1,wds n tab e.2))=done →
    Closed (gs.foldl (edgE n) (tab,es)).1∧(∀ e∈(gs.foldl (edgE n) (tab,es)).2,e.2<(gs.foldl (edgE n) (tab,es)).1.length)∧(gs.foldl (edgE n) (tab,es)).2.map (fun e=>(e.1,wds n (gs.foldl (edgE n) (tab,es)).1 e.2))=done ++ gs:=by
    intro gs
    induction gs with
    | nil=>intro tab es done _ h1 h2 h3;exact ⟨h1,h2,by simpa using h3⟩
    | cons g gs ih =>
      intro tab es done hg h1 h2 h3;obtain ⟨a1,a2,a3,a4⟩:=edgF_len n tab g.2 (hg g (by simp)) h1;have a5:=edgF_wds n tab g.2 (hg g (by simp)) h1;obtain ⟨ext,hx⟩:=edgF_ext n tab g.2;have h4:(es ++ [(g.1,(edgF n tab g.2).2)]).map (fun e=>(e.1,wds n (edgF n tab g.2).1 e.2))=done ++ [g]:=by
       rw [List.map_append];congr 1
       · rw [←h3];apply List.map_congr_left;intro e he;rw [hx,wds_ext h1 ext n e.2 (h2 e he)]
       · simp only [List.map_cons,List.map_nil,a5]
      have:=ih (edgF n tab g.2).1 (es ++ [(g.1,(edgF n tab g.2).2)]) (done ++ [g]) (fun y hy=>hg y (by simp [hy])) a4 (fun e he=>by
       rcases List.mem_append.1 he with he | he
       · have:=h2 e he;omega
       · rw [List.mem_singleton.1 he];exact a3) h4
      rw [List.foldl_cons,show edgE n (tab,es) g=((edgF n tab g.2).1,es ++ [(g.1,(edgF n tab g.2).2)]) from rfl];refine ⟨this.1,this.2.1,?_⟩;rw [this.2.2];simp
   obtain ⟨f1,f2,f3⟩:=fold (grp l) tab [] [] ho.2 hc (by simp) rfl;rw [List.nil_append] at f3;have key:∀ (T:List (List Edg)) (i:Nat),T[i]? = some ((grp l).foldl (edgE n) (tab,[])).2→(∀ e∈((grp l).foldl (edgE n) (tab,[])).2,wds n T e.2=wds n ((grp l).foldl (edgE n) (tab,[])).1 e.2)→wds (n+1) T i=l:=by
    intro T i hT hw;unfold wds;rw [hT];rcases ho.1 with rfl | ⟨_,hne⟩
    · have:((grp [[]]).foldl (edgE n) (tab,[])).2=[]:=rfl;rw [this]
    · have hu:=ungrp_grp l hne;cases hE:((grp l).foldl (edgE n) (tab,[])).2 with
      | nil =>
        rw [hE] at f3;simp only [List.map_nil] at f3;rw [←f3] at hu;exfalso;have h0:l=[]:=by rw [←hu];rfl
        rcases ho.1 with h | h
        · rw [h] at h0;cases h0
        · exact h.1 h0
      | cons e es =>
        simp only;rw [hE] at f3 hw
        conv=>rhs;rw [←hu,←f3]
        unfold ungrp;rw [List.flatMap_map,List.flatMap_def,List.flatMap_def];congr 1;apply List.map_congr_left;intro x hx;rw [hw x hx]
   rw [edgF_succ];cases hp:posOf ((grp l).foldl (edgE n) (tab,[])).2 ((grp l).foldl (edgE n) (tab,[])).1 with
   | some i=>exact key _ _ (posOf_get _ _ _ hp) (fun _ _=>rfl)
   | none =>
     refine key _ _ ?_ (fun e he=>wds_ext f1 _ n e.2 (f2 e he));simp
end Sx
namespace Sx
def rdEdges:Nat→List UInt8→Option (List Edg × List UInt8)
 | 0,b=>some ([],b)
 | k+1,c :: h :: l :: b=>(rdEdges k b).map fun x=>((c,h.toNat*256+l.toNat) :: x.1,x.2)
 | _+1,_=>none
def rdTab:Nat→Nat→List UInt8→Option (List (List Edg))
 | 0,_,b=>if b=[] then some [] else none
 | _+1,_,[]=>none
 | m+1,n,k :: r=>match rdEdges k.toNat r with
   | none=>none
   | some (es,r')=>if (es=[]↔n=0)∧∀ e∈es,e.2<n then (rdTab m (n+1) r').map (es :: ·) else none
def rdImg:List UInt8→Option (List (List Edg))
 | h :: l :: r=>rdTab (h.toNat*256+l.toNat) 0 r
 | _=>none
theorem two_back (n:Nat) (h:n<65536):(UInt8.ofNat (n / 256)).toNat*256+(UInt8.ofNat (n % 256)).toNat=n:=by
 simp only [UInt8.toNat_ofNat'];omega
theorem rdEdges_tell:∀ (es:List Edg) (r:List UInt8),(∀ e∈es,e.2<65536)→rdEdges es.length ((es.flatMap fun e=>e.1 :: two e.2) ++ r)=some (es,r)
 | [],r,_=>rfl
 | e :: es,r,h=>by
   have ih:=rdEdges_tell es r (fun x hx=>h x (by simp [hx]));simp only [List.flatMap_cons,two,List.cons_append,List.nil_append,List.length_cons,rdEdges];simp only [two] at ih;rw [ih];simp only [Option.map_some,two_back e.2 (h e (by simp))]
def Ordered (tab:List (List Edg)):Prop:=∀ i es,tab[i]? = some es→(es=[]↔i=0)∧∀ e∈es,e.2<i
theorem rdTab_tell:∀ (rest tab:List (List Edg)),Ordered (tab ++ rest)→(∀ es∈rest,es.length<256∧∀ e∈es,e.2<65536)→rdTab rest.length tab.length (rest.flatMap tellE)=some rest
 | [],tab,_,_=>rfl
 | es :: rest,tab,ho,hb=>by
   obtain ⟨h1,h2⟩:=hb es (by simp);have hk:(UInt8.ofNat es.length).toNat=es.length:=by simp only [UInt8.toNat_ofNat'];omega
   have hi:=ho tab.length es (by simp);have ih:=rdTab_tell rest (tab ++ [es]) (by simpa using ho) (fun x hx=>hb x (by simp [hx]));rw [List.length_append,List.length_singleton] at ih;simp only [List.length_cons,List.flatMap_cons];rw [show tellE es ++ rest.flatMap tellE=UInt8.ofNat es.length :: ((es.flatMap fun e=>e.1 :: two e.2) ++ rest.flatMap tellE) from rfl];simp only [rdTab];rw [hk,rdEdges_tell es _ h2];simp only;rw [if_pos ⟨hi.1,hi.2⟩,ih];rfl
theorem rdImg_back {tab:List (List Edg)} (ho:Ordered tab) (hl:tab.length<65536) (hb:∀ es∈tab,es.length<256):rdImg (imgT tab)=some tab:=by
 have h2:∀ es∈tab,es.length<256∧∀ e∈es,e.2<65536:=by
  intro es hes;refine ⟨hb es hes,fun e he=>?_⟩;obtain ⟨i,hi,rfl⟩:=List.mem_iff_getElem.1 hes;have:=(ho i tab[i] (List.getElem?_eq_getElem hi)).2 e he;omega
 have:=rdTab_tell tab [] (by simpa using ho) h2;unfold imgT rdImg;simp only [two,List.cons_append,List.nil_append,two_back tab.length hl];exact this
theorem grp_len:∀ l:List Wd,(grp l).length≤l.length
 | []=>by simp [grp]
 | [] :: r=>by have:=grp_len r;simp only [grp,List.length_cons];omega
 | (c :: t) :: r=>by
   have ih:=grp_len r;unfold grp;cases hr:grp r with
   | nil=>simp
   | cons x g =>
     obtain ⟨d,b⟩:=x;rw [hr] at ih;by_cases e:d=c
     · simp only [e,if_true,List.length_cons] at ih ⊢;omega
     · simp only [e,if_false,List.length_cons] at ih ⊢;omega
theorem grp_each:∀ (l:List Wd),∀ g∈grp l,g.2.length≤l.length
 | [],g,hg=>by simp [grp] at hg
 | [] :: r,g,hg=>by have:=grp_each r g (by simpa [grp] using hg);simp only [List.length_cons];omega
 | (c :: t) :: r,g,hg=>by
   have ih:=grp_each r;unfold grp at hg;cases hr:grp r with
   | nil =>
     rw [hr] at hg;simp only [List.mem_singleton] at hg;subst hg;simp
   | cons x g' =>
     obtain ⟨d,b⟩:=x;rw [hr] at hg ih;by_cases e:d=c
     · simp only [if_pos e,List.mem_cons] at hg;rcases hg with rfl | hg
       · have:=ih (d,b) (by simp);simp only [List.length_cons] at this ⊢;omega
       · have:=ih g (by simp [hg]);simp only [List.length_cons];omega
     · simp only [if_neg e,List.mem_cons] at hg;rcases hg with rfl | rfl | hg
       · simp
       · have:=ih (d,b) (by simp);simp only [List.length_cons] at this ⊢;omega
       · have:=ih g (by simp [hg]);simp only [List.length_cons];omega
theorem ordered_closed {tab:List (List Edg)} (h:Ordered tab):Closed tab:=by
 intro es hes e he;obtain ⟨i,hi,rfl⟩:=List.mem_iff_getElem.1 hes;have:=(h i tab[i] (List.getElem?_eq_getElem hi)).2 e he;omega
theorem edgE_len (n:Nat):∀ (gs:List (UInt8 × List Wd)) (s:List (List Edg) × List Edg),(gs.foldl (edgE n) s).2.length=s.2.length+gs.length
 | [],s=>by simp
 | g :: gs,s=>by
   rw [List.foldl_cons,edgE_len n gs];simp only [edgE,List.length_append,List.length_cons,List.length_nil];omega
theorem edgF_ordered:∀ (n:Nat) (tab:List (List Edg)) (l:List Wd) (N:Nat),OkF n l→l.length≤N→Ordered tab→(∀ es∈tab,es.length≤N)→Ordered (edgF n tab l).1∧∀ es∈(edgF n tab l).1,es.length≤N
 | 0,_,_,_,h,_,_,_=>absurd h (by simp [OkF])
 | n+1,tab,l,N,ho,hN,hO,hE=>by
   have fold:∀ (gs:List (UInt8 × List Wd)) (tab:List (List Edg)) (es:List Edg),(∀ g∈gs,OkF n g.2∧g.2.length≤N)→Ordered tab→(∀ x∈tab,x.length≤N)→(∀ e∈es,e.2<tab.length) →
    Ordered (gs.foldl (edgE n) (tab,es)).1∧(∀ x∈(gs.foldl (edgE n) (tab,es)).1,x.length≤N)∧∀ e∈(gs.foldl (edgE n) (tab,es)).2,e.2<(gs.foldl (edgE n) (tab,es)).1.length:=by
    intro gs
    induction gs with
    | nil=>intro tab es _ h1 h2 h3;exact ⟨h1,h2,h3⟩
    | cons g gs ih =>
      intro tab es hg h1 h2 h3;obtain ⟨g1,g2⟩:=hg g (by simp);obtain ⟨a1,a2⟩:=edgF_ordered n tab g.2 N g1 g2 h1 h2;obtain ⟨b1,b2,b3,b4⟩:=edgF_len n tab g.2 g1 (ordered_closed h1);rw [List.foldl_cons,show edgE n (tab,es) g=((edgF n tab g.2).1,es ++ [(g.1,(edgF n tab g.2).2)]) from rfl];exact ih _ _ (fun y hy=>hg y (by simp [hy])) a1 a2 (fun e he=>by
       rcases List.mem_append.1 he with he | he
       · have:=h3 e he;omega
       · rw [List.mem_singleton.1 he];exact b3)
   obtain ⟨f1,f2,f3⟩:=fold (grp l) tab [] (fun g hg=>⟨ho.2 g hg,Nat.le_trans (grp_each l g hg) hN⟩) hO hE (by simp);have fl:=edgE_len n (grp l) (tab,[]);have gl:=grp_len l;rw [edgF_succ];cases hp:posOf ((grp l).foldl (edgE n) (tab,[])).2 ((grp l).foldl (edgE n) (tab,[])).1 with
   | some i=>exact ⟨f1,f2⟩
   | none =>
     have hno:=(posOf_none _ _).1 hp;generalize (grp l).foldl (edgE n) (tab,[])=r at f1 f2 f3 fl hno;simp only [List.length_nil,Nat.zero_add] at fl;refine ⟨fun i es hi=>?_,fun x hx=>?_⟩
     · by_cases hlt:i<r.1.length
       · rw [List.getElem?_append_left hlt] at hi;exact f1 i es hi
       · rw [List.getElem?_append_right (by omega)] at hi;have h0:i-r.1.length=0:=by
          by_cases h:i-r.1.length=0
          · exact h
          · rw [List.getElem?_eq_none (by simp;omega)] at hi;cases hi
         rw [h0] at hi;simp only [List.getElem?_cons_zero,Option.some.injEq] at hi;subst hi;have hii:i=r.1.length:=by omega
         subst hii;refine ⟨⟨fun e=>?_,fun e=>?_⟩,f3⟩
         · by_cases hz:r.1.length=0
           · exact hz
           · exfalso;have h1:0<r.1.length:=by omega
             have h2:=f1 0 r.1[0] (List.getElem?_eq_getElem h1);apply hno;rw [e,←h2.1.2 rfl];exact List.getElem_mem h1
         · cases hr:r.2 with
           | nil=>rfl
           | cons x xs=>have:=f3 x (by rw [hr];simp);omega
     · rcases List.mem_append.1 hx with hx | hx
       · exact f2 x hx
       · rw [List.mem_singleton.1 hx];omega
end Sx
namespace Sx
theorem sl_all (l:List Wd) (m:Nat) (h:∀ x∈l,x.length≤m):sl l≤l.length*m:=by
 induction l with
 | nil=>simp [sl]
 | cons x l ih =>
   have h1:=h x (by simp);have h2:=ih (fun y hy=>h y (by simp [hy]));simp only [sl,List.map_cons,List.sum_cons,List.length_cons] at h2 ⊢;rw [Nat.succ_mul];omega
theorem sortW_length (l:List Wd):∀ m:List Wd,(l.foldl (fun m x=>insW x m) m).length=l.length+m.length:=by
 induction l with
 | nil=>simp
 | cons x l ih =>
   intro m;have h:(m.takeWhile (fun y=>decide (y<x)) ++ m.dropWhile (fun y=>decide (y<x))).length=m.length:=by rw [List.takeWhile_append_dropWhile]
   have h2:(insW x m).length=m.length+1:=by
    unfold insW;simp only [List.length_append,List.length_cons] at h ⊢;omega
   rw [List.foldl_cons,ih,h2,List.length_cons];omega
theorem edgF_first {n:Nat} {l:List Wd} (h:OkF n l):(edgF n [] l).2+1=(edgF n [] l).1.length:=by
 have hs:=(sts_add n [] l ⟨by simp,by simp,by simp⟩ h).same;rw [List.map_nil] at hs;rw [hs];cases n with
 | zero=>exact absurd h (by simp [OkF])
 | succ n =>
   rw [stsF_succ];simp only [List.map_nil,posOf,List.length_map,List.length_append,List.length_cons,List.length_nil]
theorem img_reads {rs:List Rl} (h:RlsOk rs) (h0:rs≠[]):rdImg (imgT (tabOf rs))=some (tabOf rs)∧tabOf rs≠[]∧wds 64 (tabOf rs) ((tabOf rs).length-1)=sortW (rs.map rlKey)∧(tabOf rs).length≤2000:=by
 have hk:=(keys_ok h h0).1;have hm:=(sortW_ok _ (free_nodup (keys_free h.ok h.apart))).2;have hlen:(sortW (rs.map rlKey)).length=rs.length:=by
  have:=sortW_length (rs.map rlKey) [];unfold sortW;rw [this,List.length_map];rfl
 have hsl:=sl_all (sortW (rs.map rlKey)) 63 (fun w hw=>by
  obtain ⟨r,hr,rfl⟩:=List.mem_map.1 ((hm w).1 hw);have:=rlKey_len (h.ok r hr);omega)
 rw [hlen] at hsl;have hmany:=h.many;have htab:tabOf rs=(edgF 64 [] (sortW (rs.map rlKey))).1:=by unfold tabOf;rw [if_neg h0]
 obtain ⟨l1,l2,l3,l4⟩:=edgF_len 64 [] (sortW (rs.map rlKey)) hk (by simp);obtain ⟨o1,o2⟩:=edgF_ordered 64 [] (sortW (rs.map rlKey)) 30 hk (by omega) (by intro i es hi;simp at hi) (by simp);have hf:=edgF_first hk;have hw:=edgF_wds 64 [] (sortW (rs.map rlKey)) hk (by intro es hes;simp at hes);rw [←htab] at l2 l3 o1 o2 hf hw;simp only [List.length_nil] at l2;refine ⟨rdImg_back o1 (by omega) (fun es hes=>by have:=o2 es hes;omega),fun e=>by rw [e] at hf;simp at hf,?_,by omega⟩;rw [show (tabOf rs).length-1=(edgF 64 [] (sortW (rs.map rlKey))).2 by omega];exact hw
theorem img_reads_nil:rdImg (imgT (tabOf []))=some []:=by decide
end Sx
/- Plain mathematics of UTF-8: letters of a text,and back. -/
namespace Sx
def Good (c:Int):Prop:=0≤c∧c≤1114111∧¬ (55296≤c∧c≤57343)
theorem u8n (n:Int) (h0:0≤n) (h:n<256):(UInt8.ofNat n.toNat).toNat=n.toNat:=by
 simp only [UInt8.toNat_ofNat'];omega
theorem one_utf (c:Int) (r:List UInt8) (h:Good c):one (utf c ++ r)=some (c,r):=by
 obtain ⟨h0,h1,h2⟩:=h;unfold utf;by_cases a1:c<128
 · rw [if_pos a1];have e:=u8n c h0 (by omega);simp only [List.cons_append,List.nil_append,one,lead];rw [e,if_pos (by omega)];simp only [rest,contF];rw [if_neg (by omega)];simp;omega
 · rw [if_neg a1];by_cases a2:c<2048
   · rw [if_pos a2];have e1:=u8n (192+c / 64) (by omega) (by omega);have e2:=u8n (128+c % 64) (by omega) (by omega);simp only [List.cons_append,List.nil_append,one,lead];rw [e1,if_neg (by omega),if_pos (by omega)];simp only [rest,contF];rw [e2,if_pos (by omega)];simp only;rw [if_neg (by omega)];congr 2;omega
   · rw [if_neg a2];by_cases a3:c<65536
     · rw [if_pos a3];have e1:=u8n (224+c / 4096) (by omega) (by omega);have e2:=u8n (128+c / 64 % 64) (by omega) (by omega);have e3:=u8n (128+c % 64) (by omega) (by omega);simp only [List.cons_append,List.nil_append,one,lead];rw [e1,if_neg (by omega),if_neg (by omega),if_pos (by omega)];simp only [rest,contF];rw [e2,if_pos (by omega),e3,if_pos (by omega)];simp only;rw [if_neg (by omega)];congr 2;omega
     · rw [if_neg a3];have e1:=u8n (240+c / 262144) (by omega) (by omega);have e2:=u8n (128+c / 4096 % 64) (by omega) (by omega);have e3:=u8n (128+c / 64 % 64) (by omega) (by omega);have e4:=u8n (128+c % 64) (by omega) (by omega);simp only [List.cons_append,List.nil_append,one,lead];rw [e1,if_neg (by omega),if_neg (by omega),if_neg (by omega),if_pos (by omega)];simp only [rest,contF];rw [e2,if_pos (by omega),e3,if_pos (by omega),e4,if_pos (by omega)];simp only;rw [if_neg (by omega)];congr 2;omega
theorem letters_text:∀ (m:List Int),(∀ c∈m,Good c)→letters (text m)=some m:=by
 intro m
 induction m with
 | nil=>intro _;rfl
 | cons c m ih =>
   intro h;have e:text (c :: m)=utf c ++ text m:=by simp [text]
   rw [e,letters_some _ c (text m) (one_utf c _ (h c (List.mem_cons_self ..))),ih (fun x hx=>h x (List.mem_cons_of_mem _ hx))];rfl
theorem encode_utf (c:Int) (h:Good c):Go.Utf8.encode c=⟨(utf c).toArray⟩:=by
 obtain ⟨h0,h1,h2⟩:=h;have hv:Go.Utf8.valid c=true:=by unfold Go.Utf8.valid;simp;omega
 unfold Go.Utf8.encode utf;simp only [hv,if_true];by_cases a1:c<128
 · rw [if_pos (by omega),if_pos a1]
 · rw [if_neg (by omega),if_neg a1];by_cases a2:c<2048
   · rw [if_pos (by omega),if_pos a2,show (192+c / 64).toNat=192+c.toNat / 64 from by omega,show (128+c % 64).toNat=128+c.toNat % 64 from by omega]
   · rw [if_neg (by omega),if_neg a2];by_cases a3:c<65536
     · rw [if_pos (by omega),if_pos a3,show (224+c / 4096).toNat=224+c.toNat / 4096 from by omega,show (128+c / 64 % 64).toNat=128+c.toNat / 64 % 64 from by omega,show (128+c % 64).toNat=128+c.toNat % 64 from by omega]
     · rw [if_neg (by omega),if_neg a3,show (240+c / 262144).toNat=240+c.toNat / 262144 from by omega,show (128+c / 4096 % 64).toNat=128+c.toNat / 4096 % 64 from by omega,show (128+c / 64 % 64).toNat=128+c.toNat / 64 % 64 from by omega,show (128+c % 64).toNat=128+c.toNat % 64 from by omega]
theorem runes_text (m:List Int) (h:∀ c∈m,Good c):Go.runesBytes m=⟨(text m).toArray⟩:=by
 have key:∀ (m:List Int) (acc:List UInt8),(∀ c∈m,Good c)→m.foldl (fun r n=>r ++ Go.Utf8.encode n) (⟨acc.toArray⟩:ByteArray)=⟨(acc ++ text m).toArray⟩:=by
  intro m
  induction m with
  | nil=>intro acc _;simp [text]
  | cons c m ih =>
    intro acc hm;rw [List.foldl_cons,encode_utf c (hm c (List.mem_cons_self ..))];have e:(⟨acc.toArray⟩:ByteArray) ++ ⟨(utf c).toArray⟩=⟨(acc ++ utf c).toArray⟩:=by apply ByteArray.ext;simp
    rw [e,ih _ (fun x hx=>hm x (List.mem_cons_of_mem _ hx))];simp [text]
 have:=key m [] h;unfold Go.runesBytes;exact this
end Sx
