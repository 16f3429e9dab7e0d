import Derived.Test.YtgohllfpceeboabGreatDoorAnar
namespace Go.Proofs.YtgohllfpceeboabGreatDoor
theorem TZ (c:Int):jP c=Sx.tN c:=by
 unfold jP wE Sx.tN;cases decide (128≤c) <;> cases decide (97≤c∧c≤122) <;> cases decide (48≤c∧c≤57) <;> cases decide (c=45) <;> rfl
theorem Q4 (b:List UInt8)(h:b≠[]):bE b [45]=(b.getD 0 0 == 45):=by
 cases b with
 | nil=>exact absurd rfl h
 | cons x r =>
   unfold bE;simp only[List.length_cons,List.length_nil,Nat.zero_add,List.take_succ_cons,List.take_zero,List.getD_cons_zero];rw[show decide (1≤r.length+1)=true from by simp,Bool.true_and];by_cases e:x=45 <;> simp[e]
theorem S4 (b:List UInt8)(h:b≠[]):cR b [45]=(b.getD (b.length-1) 0 == 45):=by
 have hl:0<b.length:=List.length_pos_iff.2 h;unfold cR;simp only[List.length_cons,List.length_nil,Nat.zero_add];rw[show decide (1≤b.length)=true from by simp;omega,Bool.true_and,List.drop_eq_getElem_cons (by omega),List.drop_eq_nil_of_le (by omega),List.getD_eq_getElem?_getD,List.getElem?_eq_getElem (by omega),Option.getD_some];by_cases e:b[b.length-1]=45 <;> simp[e]
theorem yF (b:List UInt8)(h:b≠[]):Sx.dM b=(decide (b.length≤20) && (!bE b [45] && !cR b [45])):=by
 have hl:0<b.length:=List.length_pos_iff.2 h;unfold Sx.dM;rw[Q4 b h,S4 b h,show decide (1≤b.length)=true from by simp;omega,Bool.true_and,Bool.and_assoc]
theorem BU (b:List UInt8):bE b Sx.xn=(decide (4≤b.length) && (b.take 4 == Sx.xn)):=rfl
theorem XO (m:List Int):Sx.text m=[]↔m=[]:=by
 constructor
 · intro h;cases m with
   | nil=>rfl
   | cons c m =>
     have e:Sx.text (c::m)=Sx.fV c++Sx.text m:=by simp[Sx.text]
     rw[e] at h;have h2:Sx.fV c=[]:=(List.append_eq_nil_iff.1 h).1;unfold Sx.fV at h2;split at h2
     · cases h2
     · split at h2
       · cases h2
       · split at h2 <;> cases h2
 · rintro rfl;rfl
theorem ET (p:List UInt8)(l:List Int)(hl:Sx.aF p=some l)(hp:p.length≤60):Sx.cI l=if xG p then some (Sx.aJ (mP p)) else none:=by
 obtain⟨hm,hml,hmg,hmt⟩:=mF p l hl hp;unfold Sx.cI xG mR;rw[←hm];obtain⟨m,hmm⟩:∃ m,mP p=m:=⟨_,rfl⟩
 rw[hmm] at hml hmg ⊢;have hall:m.all jP=m.all Sx.tN:=by congr 1;funext c;exact TZ c
 rw[hall];by_cases hn:m=[]
 · subst hn;simp[Sx.aJ,Sx.text,Sx.dM]
 · have ht:Sx.text m≠[]:=fun h=>hn ((XO m).1 h);have hte:(Sx.text m).isEmpty=false:=by
    cases h:Sx.text m with
    | nil=>exact absurd h ht
    | cons=>rfl
   rw[hte];have hr:∀ c∈m,c≤1114111:=fun c hc=>(hmg c hc).2.1;cases hf:(m.any fun c=>decide (128≤c)) with
   | true =>
     have hb:Sx.aJ m=Sx.xn++Sx.enc m:=by unfold Sx.aJ;rw[hf,if_pos rfl]
     have hbn:Sx.aJ m≠[]:=by rw[hb];simp[Sx.xn]
     have hpx:bE (Sx.aJ m) Sx.xn=true:=by
      rw[hb,BU];have e:(Sx.xn++Sx.enc m).take 4=Sx.xn:=by rw[show 4=Sx.xn.length from rfl,List.take_left]
      rw[e];simp[Sx.xn]
     have hdr:(Sx.aJ m).drop 4=Sx.enc m:=by rw[hb,show 4=Sx.xn.length from rfl,List.drop_left]
     rw[yF _ hbn];unfold pP;rw[hpx,hdr];cases hA:m.all Sx.tN with
     | false=>simp
     | true =>
       cases hL:decide ((Sx.aJ m).length≤20) with
       | false=>simp
       | true =>
         have hlen:(Sx.aJ m).length≤20:=by simpa using hL
         rw[hb,List.length_append] at hlen;have h4:Sx.xn.length=4:=rfl;have hel:=Sx.uW m (by omega) hr;have hco:=Sx.tY m (by omega) hmg hf;rw[hco];simp
   | false =>
     have hb:Sx.aJ m=Sx.text m:=by unfold Sx.aJ;rw[hf];rfl
     have hbn:Sx.aJ m≠[]:=by rw[hb];exact ht
     rw[yF _ hbn];unfold pP;rw[BU];generalize decide (4≤(Sx.aJ m).length)=x1;generalize ((Sx.aJ m).take 4 == Sx.xn)=x2;generalize Sx.codeOk ((Sx.aJ m).drop 4)=x3;generalize decide ((Sx.aJ m).length≤20)=x4;generalize bE (Sx.aJ m) [45]=x5;generalize cR (Sx.aJ m) [45]=x6;generalize m.all Sx.tN=x7;cases x1 <;> cases x2 <;> cases x3 <;> cases x4 <;> cases x5 <;> cases x6 <;> cases x7 <;> rfl
theorem XD (p:List UInt8)(h:xG p=true):jR (Sx.aJ (mP p))=Sx.bW (Sx.aJ (mP p)):=by
 unfold xG mR at h;simp only[Bool.and_eq_true] at h;have hmk:=h.2;unfold pP at hmk;unfold jR Sx.bW;cases hp:bE (Sx.aJ (mP p)) Sx.xn with
 | false =>
   rw[if_neg (by simp)];rw[BU] at hp;rw[if_neg];intro hc;simp only[Bool.and_eq_true,decide_eq_true_eq] at hc;rw[hc.2,show decide (4≤(Sx.aJ (mP p)).length)=true from by simp;omega] at hp;cases hp
 | true =>
   rw[if_pos rfl];rw[hp] at hmk;have hco:Sx.codeOk ((Sx.aJ (mP p)).drop 4)=true:=by simpa using hmk
   rw[BU] at hp;simp only[Bool.and_eq_true,decide_eq_true_eq] at hp;have h5:4<(Sx.aJ (mP p)).length:=by
    by_cases e:(Sx.aJ (mP p)).length=4
    · rw[List.drop_eq_nil_of_le (by omega)] at hco;have:Sx.codeOk []=false:=by decide
      rw[this] at hco;cases hco
    · omega
   rw[if_pos (by simp only[Bool.and_eq_true,decide_eq_true_eq];exact⟨h5,hp.2⟩)];unfold Sx.kL;rw[hco,if_pos rfl]
theorem BF (n b0 b1 b2 b3:Nat)(h0:b0<256):Sx.Good ((Lib.decodeN n b0 b1 b2 b3).1:Int):=by
 unfold Lib.decodeN Sx.Good;split
 · simp only;omega
 · split
   · split <;> (simp only;omega)
   · split
     · split <;> (simp only;omega)
     · split
       · split <;> (simp only;omega)
       · simp only;omega
theorem VX (c:Int)(h:Sx.Good c):Lib.encodeRune c=Sx.fV c:=by
 obtain⟨h0,h1,h2⟩:=h;unfold Lib.encodeRune Lib.encodeRuneZ Sx.fV;by_cases a1:c<128
 · rw[if_pos (by omega),if_pos a1];rfl
 · rw[if_neg (by omega),if_neg a1];by_cases a2:c<2048
   · rw[if_pos (by omega),if_pos a2];rfl
   · rw[if_neg (by omega),if_neg a2];by_cases a3:c<65536
     · rw[if_pos (by omega),if_pos a3];rfl
     · rw[if_neg (by omega),if_pos (by omega),if_neg a3];rfl
theorem xB (l:List UInt8)(hne:l≠[])(hv:¬ ((Lib.decodeL l).1=65533∧(Lib.decodeL l).2=1)):∃ c r,Sx.one l=some (c,r):=by
 have he:=Lib.encode_decode l hne hv;have hg:Sx.Good ((Lib.decodeL l).1:Int):=by
  unfold Lib.decodeL;rw[Lib.decode_at];exact BF _ _ _ _ _ (UInt8.toNat_lt _)
 have hu:Lib.encodeRune ((Lib.decodeL l).1:Int)=Sx.fV ((Lib.decodeL l).1:Int):=VX _ hg;rw[hu] at he;have hl:l=Sx.fV ((Lib.decodeL l).1:Int)++l.drop (Lib.decodeL l).2:=by rw[he,List.take_append_drop]
 refine⟨((Lib.decodeL l).1:Int),l.drop (Lib.decodeL l).2,?_⟩;have:=Sx.MU ((Lib.decodeL l).1:Int) (l.drop (Lib.decodeL l).2) hg;rw[←hl] at this;exact this
theorem xJ:∀ (n:Nat) (l:List UInt8),l.length≤n→Lib.validD l=(Sx.aF l).isSome:=by
 intro n
 induction n with
 | zero =>
   intro l h;have:l=[]:=List.eq_nil_of_length_eq_zero (by omega);subst this;rfl
 | succ n ih =>
   intro l h;by_cases hne:l=[]
   · subst hne;rfl
   · rw[Lib.validD_step l hne];cases ho:Sx.one l with
     | none =>
       rw[Sx.lI l hne ho];by_cases hv:(Lib.decodeL l).1=65533∧(Lib.decodeL l).2=1
       · rw[if_pos hv];rfl
       · obtain⟨c,r,h2⟩:=xB l hne hv;rw[ho] at h2;cases h2
     | some p =>
       obtain⟨c,r⟩:=p;have e:(⟨l.toArray⟩:ByteArray).data.toList=l:=rfl;obtain⟨d1,d2,d3,d4,d5,d6,d7⟩:=Sx.decode_one ⟨l.toArray⟩ 0 c r (by rw[List.drop_zero,e];exact ho);rw[e] at d1 d2 d3 d7;have hdl:Lib.decodeL l=(c.toNat,l.length-0-r.length):=d1;rw[List.drop_zero] at d7;have hul:(Sx.fV c).length=l.length-0-r.length:=by rw[d7,List.length_take];omega
       rw[hdl];simp only;rw[if_neg (fun hb=>by
        have hc:c=65533:=by omega
        rw[hc] at hul;have:(Sx.fV 65533).length=3:=by decide
        omega)]
       have hdr:l.drop (l.length-0-r.length)=r:=by rw[Nat.sub_zero];exact d2.symm
       rw[hdr,ih r (by omega),Sx.iQ l c r ho];cases Sx.aF r <;> rfl
theorem dotted_all (h:List (List UInt8))(hn:h≠[]):(Sx.aA h).length+1=Sx.aM h:=by
 cases h with
 | nil=>exact absurd rfl hn
 | cons y r =>
   have:∀ r:List (List UInt8),(r.flatMap fun y=>46::y).length=Sx.aM r:=by
    intro r
    induction r with
    | nil=>rfl
    | cons z r ih=>simp only[List.flatMap_cons,List.length_append,List.length_cons,ih,Sx.aM,List.map_cons,List.sum_cons]
   simp only[Sx.aA,List.length_append,this,Sx.aM,List.map_cons,List.sum_cons];omega
theorem EC {α:Type}(f:α→Bool)(g:α→List UInt8):∀ (q:List α),Sx.nU (q.map fun x=>if f x then some (g x) else none)=if q.all f then some (q.map g) else none:=by
 intro q
 induction q with
 | nil=>rfl
 | cons x q ih =>
   rw[List.map_cons,List.all_cons];cases h:f x with
   | false=>simp[Sx.nU]
   | true =>
     simp only[if_true,Sx.nU];rw[ih];cases q.all f with
     | true=>simp
     | false=>simp
theorem vA (s:ByteArray)(l:List Int)(hl:Sx.aF s.data.toList=some l):(fK s.data.toList).reverse=(Sx.mU l []).map Sx.text∧(∀ q∈Sx.mU l [],∀ c∈q,Sx.Good c)∧∀ p∈fK s.data.toList,(∃ l,Sx.aF p=some l)∧p.length≤s.size:=by
 obtain⟨h1,h2⟩:=letters_is s l hl;have hr:=MN s.data.toList.length s.data.toList (Nat.le_refl _);have hs:=Sx.OR l [] h2;rw[h1,show Sx.text []=[] from rfl,←hr] at hs;have hg:∀ q∈Sx.mU l [],∀ c∈q,Sx.Good c:=fun q hq c hc=>by
  rcases Sx.XJ l [] q hq c hc with h | h
  · cases h
  · exact h2 c h
 refine⟨hs,hg,fun p hp=>?_⟩;have hp2:p∈(fK s.data.toList).reverse:=List.mem_reverse.2 hp;constructor
 · rw[hs] at hp2;obtain⟨q,hq,rfl⟩:=List.mem_map.1 hp2;exact⟨q,Sx.eE q (hg q hq)⟩
 · rw[hr] at hp2;have:=Sx.FP _ _ p hp2;rw[aC] at this
   simpa using this
theorem host_eq (s:ByteArray)(l:List Int)(hl:Sx.aF s.data.toList=some l)(hs:s.size≤60) :
 Sx.aI s.data.toList=if gP (fK s.data.toList) then ((fK s.data.toList).reverse.map (fun p=>Sx.aJ (mP p)),0) else ([],2):=by
 obtain⟨h1,h2,h3⟩:=vA s l hl;obtain⟨P,hP⟩:∃ P,fK s.data.toList=P:=⟨_,rfl⟩
 rw[hP] at h1 h3 ⊢;have hgo:Sx.bD l []=if P.all xG then some (P.reverse.map fun p=>Sx.aJ (mP p)) else none:=by
  rw[Sx.IQ];have e:(Sx.mU l []).map Sx.cI=(Sx.mU l []).map fun q=>if xG (Sx.text q) then some (Sx.aJ (mP (Sx.text q))) else none:=by
   refine List.map_congr_left (fun q hq=>?_);have hm:Sx.text q∈P:=by
    rw[←List.mem_reverse,h1];exact List.mem_map_of_mem hq
   exact ET (Sx.text q) q (Sx.eE q (h2 q hq)) (by have:=(h3 _ hm).2;omega)
  rw[e,EC (fun q=>xG (Sx.text q)) (fun q=>Sx.aJ (mP (Sx.text q)))];have e2:(Sx.mU l []).all (fun q=>xG (Sx.text q))=P.all xG:=by
   rw[←List.all_reverse (l:=P),h1,List.all_map];rfl
  have e3:(Sx.mU l []).map (fun q=>Sx.aJ (mP (Sx.text q)))=P.reverse.map fun p=>Sx.aJ (mP p):=by
   rw[h1,List.map_map];rfl
  rw[e2,e3]
 have hPn:0<P.length:=by
  rw[←hP];unfold fK;cases s.data.toList.length with
  | zero=>simp[iS]
  | succ m=>simp only[iS];split <;> simp
 unfold Sx.aI;rw[if_neg (by rw[aC];omega),hl];simp only;rw[hgo];have hH:(fL P).map (fun x=>x.2.data.toList)=P.reverse.map fun p=>Sx.aJ (mP p):=by
  unfold fL;rw[List.map_reverse,List.map_map,List.map_reverse];rfl
 unfold gP;rw[hH];cases ha:P.all xG with
 | false=>simp
 | true =>
   simp only[if_true,Bool.and_true];obtain⟨H,hHd⟩:∃ H,P.reverse.map (fun p=>Sx.aJ (mP p))=H:=⟨_,rfl⟩
   have hHl:H.length=P.length:=by rw[←hHd];simp
   have hHn:H≠[]:=fun e=>by rw[e] at hHl;simp at hHl;omega
   have hlast:H.getD (H.length-1) []=Sx.aJ (mP (P.getD 0 [])):=by
    rw[hHl,←hHd,List.getD_eq_getElem?_getD,List.getElem?_map,List.getElem?_reverse (by omega),show P.length-1-(P.length-1)=0 from by omega,List.getD_eq_getElem?_getD,List.getElem?_eq_getElem hPn];rfl
   rw[hHd];unfold Sx.iD;rw[hlast,hHl];have hda:=dotted_all H hHn;cases hd:Sx.lD (Sx.aJ (mP (P.getD 0 []))) with
   | true=>simp
   | false =>
     by_cases c1:P.length≤6
     · by_cases c2:(Sx.aA H).length≤60
       · rw[if_neg (by simp;omega),if_pos (by simp;omega)]
       · rw[if_pos (by simp;omega),if_neg (by simp;omega)]
     · rw[if_pos (by simp;omega),if_neg (by simp;omega)]
end Go.Proofs.YtgohllfpceeboabGreatDoor
namespace Sx
theorem xF (s:List UInt8)(l:List Int)(h:aF s=some l):∀ c∈l,Good c:=(Go.Proofs.YtgohllfpceeboabGreatDoor.letters_is ⟨s.toArray⟩ l (by simpa using h)).2
theorem AG (s:List UInt8)(l:List Int)(h:aF s=some l):text l=s:=by simpa using (Go.Proofs.YtgohllfpceeboabGreatDoor.letters_is ⟨s.toArray⟩ l (by simpa using h)).1
theorem cZ (h:List (List UInt8))(hn:h≠[]):(aA h).length+1=aM h:=Go.Proofs.YtgohllfpceeboabGreatDoor.dotted_all h hn
theorem ER (c:Int)(h:Good c):Good (lower c):=Go.Proofs.YtgohllfpceeboabGreatDoor.good_lower c h
def ints (x:List UInt8):List Int:=x.map fun b=>(b.toNat:Int)
theorem YK {b:UInt8}(h:pF b):b.toNat<128:=by unfold pF at h;omega
theorem WO (b:UInt8)(h:b.toNat<128):fV (b.toNat:Int)=[b]:=by
 unfold fV;rw[if_pos (by omega)];simp
theorem rJ:∀ (x:List UInt8),(∀ b∈x,b.toNat<128)→text (ints x)=x
 | [],_=>rfl
 | b::x,h=>by
   have:=rJ x (fun c hc=>h c (by simp[hc]));unfold text ints at this ⊢;rw[List.map_cons,List.flatMap_cons,this,WO b (h b (by simp))];rfl
theorem PT (x:List UInt8)(h:∀ b∈x,b.toNat<128):∀ c∈ints x,Good c:=by
 intro c hc;obtain⟨b,hb,rfl⟩:=List.mem_map.1 hc;have:=h b hb;exact⟨by omega,by omega,by omega⟩
theorem AK (x:List UInt8)(h:∀ b∈x,b.toNat<128):aF x=some (ints x):=by
 have:=eE (ints x) (PT x h)
 rwa [rJ x h] at this
theorem JZ {l:List Int}{x:List UInt8}(h:cI l=some x):(l.map lower).all tN=true∧x=aJ (l.map lower)∧dM x=true∧(((!(l.map lower).any (fun c=>decide (128≤c))) && decide (4≤x.length) && (x.take 4 == xn))=true→codeOk (x.drop 4)=true):=by
 unfold cI at h;split at h
 · rename_i h1;split at h
   · rename_i h2;split at h
     · rename_i h3;split at h
       · rename_i h4;obtain rfl:=Option.some.inj h;exact⟨h1,rfl,h2,fun _=>h4⟩
       · cases h
     · rename_i h3;obtain rfl:=Option.some.inj h;exact⟨h1,rfl,h2,fun h=>absurd h h3⟩
   · cases h
 · cases h
theorem FA {l:List Int}{x:List UInt8}(h:cI l=some x)(hg:∀ c∈l,Good c)(hll0:l.length≤60):cI (ints x)=some x:=by
 obtain⟨_,hp⟩:=xP h;obtain⟨h1,h2,h3,h4⟩:=JZ h;have hlt:∀ b∈x,b.toNat<128:=fun b hb=>YK (hp b hb);have e1:(ints x).map lower=ints x:=by
  unfold ints;rw[List.map_map];refine List.map_congr_left fun b hb=>?_;have:=hp b hb;unfold pF at this;simp only[Function.comp,lower];rw[if_neg (by omega)]
 have e2:(ints x).any (fun c=>decide (128≤c))=false:=by
  rw[List.any_eq_false];intro c hc;obtain⟨b,hb,rfl⟩:=List.mem_map.1 hc;have:=hlt b hb;simp only[decide_eq_true_eq];omega
 have e3:(ints x).all tN=true:=by
  rw[List.all_eq_true];intro c hc;obtain⟨b,hb,rfl⟩:=List.mem_map.1 hc;have:=hp b hb;unfold pF at this;simp only[tN,Bool.or_eq_true,decide_eq_true_eq];omega
 have e4:aJ (ints x)=x:=by
  unfold aJ;rw[e2];exact rJ x hlt
 unfold cI;rw[e1,if_pos e3,e4,if_pos h3,e2];split
 · rename_i hc;rw[if_pos];simp only[Bool.not_false,Bool.true_and,Bool.and_eq_true,decide_eq_true_eq] at hc;cases hf:(l.map lower).any (fun c=>decide (128≤c)) with
   | false=>exact h4 (by rw[hf];simp only[Bool.not_false,Bool.true_and,Bool.and_eq_true,decide_eq_true_eq];exact hc)
   | true =>
     have hx:x=xn++enc (l.map lower):=by rw[h2];unfold aJ;rw[hf];rfl
     have hx4:x.drop 4=enc (l.map lower):=by rw[hx];rfl
     have hgm:∀ c∈l.map lower,Good c:=by
      intro c hc;obtain⟨b,hb,rfl⟩:=List.mem_map.1 hc;exact ER b (hg b hb)
     have hxl:x.length≤20:=by
      unfold dM at h3;simp only[Bool.and_eq_true,decide_eq_true_eq] at h3;exact h3.1.1.2
     have hll:(l.map lower).length≤20:=by
      have:=(uW (l.map lower) (by rw[List.length_map];omega) (fun c hc=>(hgm c hc).2.1)).1;rw[hx,List.length_append] at hxl;omega
     rw[hx4];exact tY _ hll hgm hf
 · rfl
theorem ZR (c:Int):1≤(fV c).length:=by
 unfold fV
 repeat' split
 all_goals simp
theorem NN:∀ (l:List Int),l.length≤(text l).length
 | []=>Nat.le_refl _
 | c::l=>by
   have:=NN l;have h:=ZR c;unfold text at this ⊢;rw[List.flatMap_cons,List.length_append,List.length_cons];omega
theorem lR:∀ (l cur:List Int) (h:List (List UInt8)),bD l cur=some h→∀ x∈h,∃ p,cI p=some x∧p.length≤cur.length+l.length∧∀ c∈p,c∈cur∨c∈l
 | [],cur,h,e=>by
   unfold bD at e;cases hl:cI cur with
   | none=>rw[hl] at e;cases e
   | some x =>
     rw[hl] at e;obtain rfl:=Option.some.inj e;exact fun y hy=>⟨cur,by rw[List.mem_singleton.1 hy];exact hl,by omega,fun c hc=>Or.inl hc⟩
 | c::r,cur,h,e=>by
   unfold bD at e;split at e
   · cases hl:cI cur with
     | none=>rw[hl] at e;cases e
     | some x =>
       rw[hl] at e;obtain⟨h',e1,rfl⟩:=Option.map_eq_some_iff.1 e;intro y hy;rcases List.mem_cons.1 hy with rfl | hy
       · exact⟨cur,hl,by omega,fun c hc=>Or.inl hc⟩
       · obtain⟨p,q1,q2,q3⟩:=lR r [] h' e1 y hy;refine⟨p,q1,by simp at q2 ⊢;omega,fun c hc=>Or.inr ?_⟩;rcases q3 c hc with q | q
         · cases q
         · exact List.mem_cons_of_mem _ q
   · intro y hy;obtain⟨p,q1,q2,q3⟩:=lR r (cur++[c]) h e y hy;refine⟨p,q1,by simp at q2 ⊢;omega,fun d hd=>?_⟩;rcases q3 d hd with q | q
     · rcases List.mem_append.1 q with q | q
       · exact Or.inl q
       · exact Or.inr (by rw[List.mem_singleton.1 q];exact List.mem_cons_self ..)
     · exact Or.inr (List.mem_cons_of_mem _ q)
theorem E6 {s:List UInt8}(h:(aI s).2=0):(∀ x∈(aI s).1,cI (ints x)=some x)∧iD (aI s).1=((aI s).1,0):=by
 unfold aI at h ⊢;split
 · rename_i hc;rw[if_pos hc] at h;simp at h
 · rename_i hc;rw[if_neg hc] at h;cases hl:aF s with
   | none=>rw[hl] at h;simp at h
   | some l =>
     rw[hl] at h;simp only at h ⊢;cases hg:bD l [] with
     | none=>rw[hg] at h;simp at h
     | some H =>
       rw[hg] at h;simp only at h ⊢;have hm:=lR l [] H hg;have hgd:=xF s l hl;have hle:l.length≤s.length:=by have:=NN l;rwa [AG s l hl] at this
       have hE:iD H=(H,0):=by
        unfold iD at h ⊢;split
        · rename_i hc;rw[if_pos hc] at h;simp at h
        · rfl
       rw[hE];refine⟨fun x hx=>?_,hE⟩;obtain⟨p,p1,p2,p3⟩:=hm x hx;exact FA p1 (fun c hc=>by rcases p3 c hc with q | q;cases q;exact hgd c q) (by simp at p2;omega)
theorem pH:∀ (x:List UInt8) (r cur:List Int),(∀ b∈x,b≠46)→bD (ints x++r) cur=bD r (cur++ints x)
 | [],r,cur,_=>by simp[ints]
 | b::x,r,cur,h=>by
   have hb:(b.toNat:Int)≠46:=fun e=>h b (by simp) (UInt8.toNat_inj.1 (by simpa using (by omega:b.toNat=46)));have ih:=pH x r (cur++[(b.toNat:Int)]) (fun c hc=>h c (by simp[hc]));show bD ((b.toNat:Int)::(ints x++r)) cur=_;rw[bD,if_neg hb,ih];simp[ints]
theorem oQ:∀ (h:List (List UInt8)),h≠[]→(∀ x∈h,cI (ints x)=some x∧∀ b∈x,b≠46)→bD (ints (aA h)) []=some h
 | [],n,_=>absurd rfl n
 | [x],_,h=>by
   have:=pH x [] [] (h x (by simp)).2;rw[List.append_nil,List.nil_append] at this;have e:aA [x]=x:=by simp[aA]
   rw[e,this];unfold bD;rw[(h x (by simp)).1]
 | x::y::r,_,h=>by
   have ih:=oQ (y::r) (by simp) (fun z hz=>h z (by simp[hz]));have:=pH x (46::ints (aA (y::r))) [] (h x (by simp)).2;rw[List.nil_append] at this;have e:ints (aA (x::y::r))=ints x++46::ints (aA (y::r)):=by rw[cX];simp[ints]
   rw[e,this,bD,if_pos rfl,(h x (by simp)).1];simp only;rw[ih];rfl
theorem tP {s:List UInt8}(h:(aI s).2=0):aI (aA (aI s).1)=((aI s).1,0):=by
 obtain⟨q1,q2,q3,q4⟩:=gX s h;obtain⟨k1,k2⟩:=E6 h;obtain⟨H,hH⟩:∃ H,(aI s).1=H:=⟨_,rfl⟩
 rw[hH] at q1 q2 q3 q4 k1 k2 ⊢;have hlen:=cZ H q1;have hlt:∀ b∈aA H,b.toNat<128:=fun b hb=>by
  rcases gG (fun x hx=>(q4 x hx).2) b hb with q | rfl
  · exact YK q
  · decide
 unfold aI;rw[if_neg (by omega),AK _ hlt];simp only;rw[oQ H q1 (fun x hx=>⟨k1 x hx,fun b hb=>fJ ((q4 x hx).2 b hb)⟩)];exact k2
end Sx
