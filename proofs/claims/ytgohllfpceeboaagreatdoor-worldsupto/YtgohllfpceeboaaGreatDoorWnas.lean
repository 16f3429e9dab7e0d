import Derived.Test.YtgohllfpceeboaaGreatDoorWnar
namespace Go.Proofs.YtgohllfpceeboaaGreatDoor
theorem okL_rune (c:Int):okRune c=Sx.okL c:=by
 unfold okRune isPl Sx.okL;cases decide (128≤c) <;> cases decide (97≤c∧c≤122) <;> cases decide (48≤c∧c≤57) <;> cases decide (c=45) <;> rfl
theorem pre_hy (b:List UInt8) (h:b≠[]):prefixB b [45]=(b.getD 0 0 == 45):=by
 cases b with
 | nil=>exact absurd rfl h
 | cons x r =>
   unfold prefixB;simp only [List.length_cons,List.length_nil,Nat.zero_add,List.take_succ_cons,List.take_zero,List.getD_cons_zero];rw [show decide (1≤r.length+1)=true from by simp,Bool.true_and];by_cases e:x=45 <;> simp [e]
theorem suf_hy (b:List UInt8) (h:b≠[]):suffixB b [45]=(b.getD (b.length-1) 0 == 45):=by
 have hl:0<b.length:=List.length_pos_iff.2 h;unfold suffixB;simp only [List.length_cons,List.length_nil,Nat.zero_add];rw [show decide (1≤b.length)=true from by simp;omega,Bool.true_and,List.drop_eq_getElem_cons (by omega),List.drop_eq_nil_of_le (by omega),List.getD_eq_getElem?_getD,List.getElem?_eq_getElem (by omega),Option.getD_some];by_cases e:b[b.length-1]=45 <;> simp [e]
theorem formOk_eq (b:List UInt8) (h:b≠[]):Sx.formOk b=(decide (b.length≤20) && (!prefixB b [45] && !suffixB b [45])):=by
 have hl:0<b.length:=List.length_pos_iff.2 h;unfold Sx.formOk;rw [pre_hy b h,suf_hy b h,show decide (1≤b.length)=true from by simp;omega,Bool.true_and,Bool.and_assoc]
theorem pre_xn (b:List UInt8):prefixB b Sx.xn=(decide (4≤b.length) && (b.take 4 == Sx.xn)):=rfl
theorem text_nil (m:List Int):Sx.text m=[]↔m=[]:=by
 constructor
 · intro h;cases m with
   | nil=>rfl
   | cons c m =>
     have e:Sx.text (c :: m)=Sx.utf c ++ Sx.text m:=by simp [Sx.text]
     rw [e] at h;have h2:Sx.utf c=[]:=(List.append_eq_nil_iff.1 h).1;unfold Sx.utf at h2;split at h2
     · cases h2
     · split at h2
       · cases h2
       · split at h2 <;> cases h2
 · rintro rfl;rfl
theorem label_right (p:List UInt8) (l:List Int) (hl:Sx.letters p=some l) (hp:p.length≤60):Sx.label l=if okP p then some (Sx.formOf (mP p)) else none:=by
 obtain ⟨hm,hml,hmg,hmt⟩:=piece_facts p l hl hp;unfold Sx.label okP rightB;rw [←hm];obtain ⟨m,hmm⟩:∃ m,mP p=m:=⟨_,rfl⟩
 rw [hmm] at hml hmg ⊢;have hall:m.all okRune=m.all Sx.okL:=by congr 1;funext c;exact okL_rune c
 rw [hall];by_cases hn:m=[]
 · subst hn;simp [Sx.formOf,Sx.text,Sx.formOk]
 · have ht:Sx.text m≠[]:=fun h=>hn ((text_nil m).1 h);have hte:(Sx.text m).isEmpty=false:=by
    cases h:Sx.text m with
    | nil=>exact absurd h ht
    | cons=>rfl
   rw [hte];have hr:∀ c∈m,c≤1114111:=fun c hc=>(hmg c hc).2.1;cases hf:(m.any fun c=>decide (128≤c)) with
   | true =>
     have hb:Sx.formOf m=Sx.xn ++ Sx.enc m:=by unfold Sx.formOf;rw [hf,if_pos rfl]
     have hbn:Sx.formOf m≠[]:=by rw [hb];simp [Sx.xn]
     have hpx:prefixB (Sx.formOf m) Sx.xn=true:=by
      rw [hb,pre_xn];have e:(Sx.xn ++ Sx.enc m).take 4=Sx.xn:=by rw [show 4=Sx.xn.length from rfl,List.take_left]
      rw [e];simp [Sx.xn]
     have hdr:(Sx.formOf m).drop 4=Sx.enc m:=by rw [hb,show 4=Sx.xn.length from rfl,List.drop_left]
     rw [formOk_eq _ hbn];unfold markB;rw [hpx,hdr];cases hA:m.all Sx.okL with
     | false=>simp
     | true =>
       cases hL:decide ((Sx.formOf m).length≤20) with
       | false=>simp
       | true =>
         have hlen:(Sx.formOf m).length≤20:=by simpa using hL
         rw [hb,List.length_append] at hlen;have h4:Sx.xn.length=4:=rfl;have hel:=Sx.enc_lens m (by omega) hr;have hco:=Sx.codeOk_enc m (by omega) hmg hf;rw [hco];simp
   | false =>
     have hb:Sx.formOf m=Sx.text m:=by unfold Sx.formOf;rw [hf];rfl
     have hbn:Sx.formOf m≠[]:=by rw [hb];exact ht
     rw [formOk_eq _ hbn];unfold markB;rw [pre_xn];generalize decide (4≤(Sx.formOf m).length)=x1;generalize ((Sx.formOf m).take 4 == Sx.xn)=x2;generalize Sx.codeOk ((Sx.formOf m).drop 4)=x3;generalize decide ((Sx.formOf m).length≤20)=x4;generalize prefixB (Sx.formOf m) [45]=x5;generalize suffixB (Sx.formOf m) [45]=x6;generalize m.all Sx.okL=x7;cases x1 <;> cases x2 <;> cases x3 <;> cases x4 <;> cases x5 <;> cases x6 <;> cases x7 <;> rfl
theorem shown_eq (p:List UInt8) (h:okP p=true):shownB (Sx.formOf (mP p))=Sx.shownOf (Sx.formOf (mP p)):=by
 unfold okP rightB at h;simp only [Bool.and_eq_true] at h;have hmk:=h.2;unfold markB at hmk;unfold shownB Sx.shownOf;cases hp:prefixB (Sx.formOf (mP p)) Sx.xn with
 | false =>
   rw [if_neg (by simp)];rw [pre_xn] at hp;rw [if_neg];intro hc;simp only [Bool.and_eq_true,decide_eq_true_eq] at hc;rw [hc.2,show decide (4≤(Sx.formOf (mP p)).length)=true from by simp;omega] at hp;cases hp
 | true =>
   rw [if_pos rfl];rw [hp] at hmk;have hco:Sx.codeOk ((Sx.formOf (mP p)).drop 4)=true:=by simpa using hmk
   rw [pre_xn] at hp;simp only [Bool.and_eq_true,decide_eq_true_eq] at hp;have h5:4<(Sx.formOf (mP p)).length:=by
    by_cases e:(Sx.formOf (mP p)).length=4
    · rw [List.drop_eq_nil_of_le (by omega)] at hco;have:Sx.codeOk []=false:=by decide
      rw [this] at hco;cases hco
    · omega
   rw [if_pos (by simp only [Bool.and_eq_true,decide_eq_true_eq];exact ⟨h5,hp.2⟩)];unfold Sx.letOf;rw [hco,if_pos rfl]
theorem decodeN_good (n b0 b1 b2 b3:Nat) (h0:b0<256):Sx.Good ((Lib.decodeN n b0 b1 b2 b3).1:Int):=by
 unfold Lib.decodeN Sx.Good;split
 · simp only;omega
 · split
   · split <;> (simp only;omega)
   · split
     · split <;> (simp only;omega)
     · split
       · split <;> (simp only;omega)
       · simp only;omega
theorem enc_rune (c:Int) (h:Sx.Good c):Lib.encodeRune c=Sx.utf c:=by
 obtain ⟨h0,h1,h2⟩:=h;unfold Lib.encodeRune Lib.encodeRuneZ Sx.utf;by_cases a1:c<128
 · rw [if_pos (by omega),if_pos a1];rfl
 · rw [if_neg (by omega),if_neg a1];by_cases a2:c<2048
   · rw [if_pos (by omega),if_pos a2];rfl
   · rw [if_neg (by omega),if_neg a2];by_cases a3:c<65536
     · rw [if_pos (by omega),if_pos a3];rfl
     · rw [if_neg (by omega),if_pos (by omega),if_neg a3];rfl
theorem one_of_decode (l:List UInt8) (hne:l≠[]) (hv:¬ ((Lib.decodeL l).1=65533∧(Lib.decodeL l).2=1)):∃ c r,Sx.one l=some (c,r):=by
 have he:=Lib.encode_decode l hne hv;have hg:Sx.Good ((Lib.decodeL l).1:Int):=by
  unfold Lib.decodeL;rw [Lib.decode_at];exact decodeN_good _ _ _ _ _ (UInt8.toNat_lt _)
 have hu:Lib.encodeRune ((Lib.decodeL l).1:Int)=Sx.utf ((Lib.decodeL l).1:Int):=enc_rune _ hg;rw [hu] at he;have hl:l=Sx.utf ((Lib.decodeL l).1:Int) ++ l.drop (Lib.decodeL l).2:=by rw [he,List.take_append_drop]
 refine ⟨((Lib.decodeL l).1:Int),l.drop (Lib.decodeL l).2,?_⟩;have:=Sx.one_utf ((Lib.decodeL l).1:Int) (l.drop (Lib.decodeL l).2) hg;rw [←hl] at this;exact this
theorem valid_letters:∀ (n:Nat) (l:List UInt8),l.length≤n→Lib.validD l=(Sx.letters l).isSome:=by
 intro n
 induction n with
 | zero =>
   intro l h;have:l=[]:=List.eq_nil_of_length_eq_zero (by omega);subst this;rfl
 | succ n ih =>
   intro l h;by_cases hne:l=[]
   · subst hne;rfl
   · rw [Lib.validD_step l hne];cases ho:Sx.one l with
     | none =>
       rw [Sx.letters_none l hne ho];by_cases hv:(Lib.decodeL l).1=65533∧(Lib.decodeL l).2=1
       · rw [if_pos hv];rfl
       · obtain ⟨c,r,h2⟩:=one_of_decode l hne hv;rw [ho] at h2;cases h2
     | some p =>
       obtain ⟨c,r⟩:=p;have e:(⟨l.toArray⟩:ByteArray).data.toList=l:=rfl;obtain ⟨d1,d2,d3,d4,d5,d6,d7⟩:=Sx.decode_one ⟨l.toArray⟩ 0 c r (by rw [List.drop_zero,e];exact ho);rw [e] at d1 d2 d3 d7;have hdl:Lib.decodeL l=(c.toNat,l.length-0-r.length):=d1;rw [List.drop_zero] at d7;have hul:(Sx.utf c).length=l.length-0-r.length:=by rw [d7,List.length_take];omega
       rw [hdl];simp only;rw [if_neg (fun hb=>by
        have hc:c=65533:=by omega
        rw [hc] at hul;have:(Sx.utf 65533).length=3:=by decide
        omega)]
       have hdr:l.drop (l.length-0-r.length)=r:=by rw [Nat.sub_zero];exact d2.symm
       rw [hdr,ih r (by omega),Sx.letters_some l c r ho];cases Sx.letters r <;> rfl
theorem dotted_all (h:List (List UInt8)) (hn:h≠[]):(Sx.dotted h).length+1=Sx.allLen h:=by
 cases h with
 | nil=>exact absurd rfl hn
 | cons y r =>
   have:∀ r:List (List UInt8),(r.flatMap fun y=>46 :: y).length=Sx.allLen r:=by
    intro r
    induction r with
    | nil=>rfl
    | cons z r ih=>simp only [List.flatMap_cons,List.length_append,List.length_cons,ih,Sx.allLen,List.map_cons,List.sum_cons]
   simp only [Sx.dotted,List.length_append,this,Sx.allLen,List.map_cons,List.sum_cons];omega
theorem allSome_map {α:Type} (f:α→Bool) (g:α→List UInt8):∀ (q:List α),Sx.allSome (q.map fun x=>if f x then some (g x) else none)=if q.all f then some (q.map g) else none:=by
 intro q
 induction q with
 | nil=>rfl
 | cons x q ih =>
   rw [List.map_cons,List.all_cons];cases h:f x with
   | false=>simp [Sx.allSome]
   | true =>
     simp only [if_true,Sx.allSome];rw [ih];cases q.all f with
     | true=>simp
     | false=>simp
theorem pieces_are (s:ByteArray) (l:List Int) (hl:Sx.letters s.data.toList=some l):(pcs s.data.toList).reverse=(Sx.splL l []).map Sx.text∧(∀ q∈Sx.splL l [],∀ c∈q,Sx.Good c)∧∀ p∈pcs s.data.toList,(∃ l,Sx.letters p=some l)∧p.length≤s.size:=by
 obtain ⟨h1,h2⟩:=letters_is s l hl;have hr:=pcs_rev s.data.toList.length s.data.toList (Nat.le_refl _);have hs:=Sx.splB_text l [] h2;rw [h1,show Sx.text []=[] from rfl,←hr] at hs;have hg:∀ q∈Sx.splL l [],∀ c∈q,Sx.Good c:=fun q hq c hc=>by
  rcases Sx.splL_mem l [] q hq c hc with h | h
  · cases h
  · exact h2 c h
 refine ⟨hs,hg,fun p hp=>?_⟩;have hp2:p∈(pcs s.data.toList).reverse:=List.mem_reverse.2 hp;constructor
 · rw [hs] at hp2;obtain ⟨q,hq,rfl⟩:=List.mem_map.1 hp2;exact ⟨q,Sx.letters_text q (hg q hq)⟩
 · rw [hr] at hp2;have:=Sx.splB_len _ _ p hp2;rw [ba_len] at this
   simpa using this
theorem host_eq (s:ByteArray) (l:List Int) (hl:Sx.letters s.data.toList=some l) (hs:s.size≤60) :
 Sx.host s.data.toList=if hostOk (pcs s.data.toList) then ((pcs s.data.toList).reverse.map (fun p=>Sx.formOf (mP p)),0) else ([],2):=by
 obtain ⟨h1,h2,h3⟩:=pieces_are s l hl;obtain ⟨P,hP⟩:∃ P,pcs s.data.toList=P:=⟨_,rfl⟩
 rw [hP] at h1 h3 ⊢;have hgo:Sx.hostGo l []=if P.all okP then some (P.reverse.map fun p=>Sx.formOf (mP p)) else none:=by
  rw [Sx.hostGo_spl];have e:(Sx.splL l []).map Sx.label=(Sx.splL l []).map fun q=>if okP (Sx.text q) then some (Sx.formOf (mP (Sx.text q))) else none:=by
   refine List.map_congr_left (fun q hq=>?_);have hm:Sx.text q∈P:=by
    rw [←List.mem_reverse,h1];exact List.mem_map_of_mem hq
   exact label_right (Sx.text q) q (Sx.letters_text q (h2 q hq)) (by have:=(h3 _ hm).2;omega)
  rw [e,allSome_map (fun q=>okP (Sx.text q)) (fun q=>Sx.formOf (mP (Sx.text q)))];have e2:(Sx.splL l []).all (fun q=>okP (Sx.text q))=P.all okP:=by
   rw [←List.all_reverse (l:=P),h1,List.all_map];rfl
  have e3:(Sx.splL l []).map (fun q=>Sx.formOf (mP (Sx.text q)))=P.reverse.map fun p=>Sx.formOf (mP p):=by
   rw [h1,List.map_map];rfl
  rw [e2,e3]
 have hPn:0<P.length:=by
  rw [←hP];unfold pcs;cases s.data.toList.length with
  | zero=>simp [pcsF]
  | succ m=>simp only [pcsF];split <;> simp
 unfold Sx.host;rw [if_neg (by rw [ba_len];omega),hl];simp only;rw [hgo];have hH:(hostL P).map (fun x=>x.2.data.toList)=P.reverse.map fun p=>Sx.formOf (mP p):=by
  unfold hostL;rw [List.map_reverse,List.map_map,List.map_reverse];rfl
 unfold hostOk;rw [hH];cases ha:P.all okP with
 | false=>simp
 | true =>
   simp only [if_true,Bool.and_true];obtain ⟨H,hHd⟩:∃ H,P.reverse.map (fun p=>Sx.formOf (mP p))=H:=⟨_,rfl⟩
   have hHl:H.length=P.length:=by rw [←hHd];simp
   have hHn:H≠[]:=fun e=>by rw [e] at hHl;simp at hHl;omega
   have hlast:H.getD (H.length-1) []=Sx.formOf (mP (P.getD 0 [])):=by
    rw [hHl,←hHd,List.getD_eq_getElem?_getD,List.getElem?_map,List.getElem?_reverse (by omega),show P.length-1-(P.length-1)=0 from by omega,List.getD_eq_getElem?_getD,List.getElem?_eq_getElem hPn];rfl
   rw [hHd];unfold Sx.hostEnd;rw [hlast,hHl];have hda:=dotted_all H hHn;cases hd:Sx.digs (Sx.formOf (mP (P.getD 0 []))) with
   | true=>simp
   | false =>
     by_cases c1:P.length≤6
     · by_cases c2:(Sx.dotted H).length≤60
       · rw [if_neg (by simp;omega),if_pos (by simp;omega)]
       · rw [if_pos (by simp;omega),if_neg (by simp;omega)]
     · rw [if_pos (by simp;omega),if_neg (by simp;omega)]
end Go.Proofs.YtgohllfpceeboaaGreatDoor
namespace Sx
theorem letters_goodL (s:List UInt8) (l:List Int) (h:letters s=some l):∀ c∈l,Good c:=(Go.Proofs.YtgohllfpceeboaaGreatDoor.letters_is ⟨s.toArray⟩ l (by simpa using h)).2
theorem letters_lenL (s:List UInt8) (l:List Int) (h:letters s=some l):text l=s:=by simpa using (Go.Proofs.YtgohllfpceeboaaGreatDoor.letters_is ⟨s.toArray⟩ l (by simpa using h)).1
theorem dotted_allL (h:List (List UInt8)) (hn:h≠[]):(dotted h).length+1=allLen h:=Go.Proofs.YtgohllfpceeboaaGreatDoor.dotted_all h hn
theorem good_lowerL (c:Int) (h:Good c):Good (lower c):=Go.Proofs.YtgohllfpceeboaaGreatDoor.good_lower c h
def ints (x:List UInt8):List Int:=x.map fun b=>(b.toNat:Int)
theorem plB_lt {b:UInt8} (h:plB b):b.toNat<128:=by unfold plB at h;omega
theorem utf_byte (b:UInt8) (h:b.toNat<128):utf (b.toNat:Int)=[b]:=by
 unfold utf;rw [if_pos (by omega)];simp
theorem text_ints:∀ (x:List UInt8),(∀ b∈x,b.toNat<128)→text (ints x)=x
 | [],_=>rfl
 | b :: x,h=>by
   have:=text_ints x (fun c hc=>h c (by simp [hc]));unfold text ints at this ⊢;rw [List.map_cons,List.flatMap_cons,this,utf_byte b (h b (by simp))];rfl
theorem good_ints (x:List UInt8) (h:∀ b∈x,b.toNat<128):∀ c∈ints x,Good c:=by
 intro c hc;obtain ⟨b,hb,rfl⟩:=List.mem_map.1 hc;have:=h b hb;exact ⟨by omega,by omega,by omega⟩
theorem letters_ints (x:List UInt8) (h:∀ b∈x,b.toNat<128):letters x=some (ints x):=by
 have:=letters_text (ints x) (good_ints x h)
 rwa [text_ints x h] at this
theorem label_form {l:List Int} {x:List UInt8} (h:label l=some x):(l.map lower).all okL=true∧x=formOf (l.map lower)∧formOk x=true∧(((!(l.map lower).any (fun c=>decide (128≤c))) && decide (4≤x.length) && (x.take 4 == xn))=true→codeOk (x.drop 4)=true):=by
 unfold label at h;split at h
 · rename_i h1;split at h
   · rename_i h2;split at h
     · rename_i h3;split at h
       · rename_i h4;obtain rfl:=Option.some.inj h;exact ⟨h1,rfl,h2,fun _=>h4⟩
       · cases h
     · rename_i h3;obtain rfl:=Option.some.inj h;exact ⟨h1,rfl,h2,fun h=>absurd h h3⟩
   · cases h
 · cases h
theorem label_again {l:List Int} {x:List UInt8} (h:label l=some x) (hg:∀ c∈l,Good c) (hll0:l.length≤60):label (ints x)=some x:=by
 obtain ⟨_,hp⟩:=label_plB h;obtain ⟨h1,h2,h3,h4⟩:=label_form h;have hlt:∀ b∈x,b.toNat<128:=fun b hb=>plB_lt (hp b hb);have e1:(ints x).map lower=ints x:=by
  unfold ints;rw [List.map_map];refine List.map_congr_left fun b hb=>?_;have:=hp b hb;unfold plB at this;simp only [Function.comp,lower];rw [if_neg (by omega)]
 have e2:(ints x).any (fun c=>decide (128≤c))=false:=by
  rw [List.any_eq_false];intro c hc;obtain ⟨b,hb,rfl⟩:=List.mem_map.1 hc;have:=hlt b hb;simp only [decide_eq_true_eq];omega
 have e3:(ints x).all okL=true:=by
  rw [List.all_eq_true];intro c hc;obtain ⟨b,hb,rfl⟩:=List.mem_map.1 hc;have:=hp b hb;unfold plB at this;simp only [okL,Bool.or_eq_true,decide_eq_true_eq];omega
 have e4:formOf (ints x)=x:=by
  unfold formOf;rw [e2];exact text_ints x hlt
 unfold label;rw [e1,if_pos e3,e4,if_pos h3,e2];split
 · rename_i hc;rw [if_pos];simp only [Bool.not_false,Bool.true_and,Bool.and_eq_true,decide_eq_true_eq] at hc;cases hf:(l.map lower).any (fun c=>decide (128≤c)) with
   | false=>exact h4 (by rw [hf];simp only [Bool.not_false,Bool.true_and,Bool.and_eq_true,decide_eq_true_eq];exact hc)
   | true =>
     have hx:x=xn ++ enc (l.map lower):=by rw [h2];unfold formOf;rw [hf];rfl
     have hx4:x.drop 4=enc (l.map lower):=by rw [hx];rfl
     have hgm:∀ c∈l.map lower,Good c:=by
      intro c hc;obtain ⟨b,hb,rfl⟩:=List.mem_map.1 hc;exact good_lowerL b (hg b hb)
     have hxl:x.length≤20:=by
      unfold formOk at h3;simp only [Bool.and_eq_true,decide_eq_true_eq] at h3;exact h3.1.1.2
     have hll:(l.map lower).length≤20:=by
      have:=(enc_lens (l.map lower) (by rw [List.length_map];omega) (fun c hc=>(hgm c hc).2.1)).1;rw [hx,List.length_append] at hxl;omega
     rw [hx4];exact codeOk_enc _ hll hgm hf
 · rfl
theorem utf_pos (c:Int):1≤(utf c).length:=by
 unfold utf
 repeat' split
 all_goals simp
theorem text_ge:∀ (l:List Int),l.length≤(text l).length
 | []=>Nat.le_refl _
 | c :: l=>by
   have:=text_ge l;have h:=utf_pos c;unfold text at this ⊢;rw [List.flatMap_cons,List.length_append,List.length_cons];omega
theorem hostGo_parts:∀ (l cur:List Int) (h:List (List UInt8)),hostGo l cur=some h→∀ x∈h,∃ p,label p=some x∧p.length≤cur.length+l.length∧∀ c∈p,c∈cur∨c∈l
 | [],cur,h,e=>by
   unfold hostGo at e;cases hl:label cur with
   | none=>rw [hl] at e;cases e
   | some x =>
     rw [hl] at e;obtain rfl:=Option.some.inj e;exact fun y hy=>⟨cur,by rw [List.mem_singleton.1 hy];exact hl,by omega,fun c hc=>Or.inl hc⟩
 | c :: r,cur,h,e=>by
   unfold hostGo at e;split at e
   · cases hl:label cur with
     | none=>rw [hl] at e;cases e
     | some x =>
       rw [hl] at e;obtain ⟨h',e1,rfl⟩:=Option.map_eq_some_iff.1 e;intro y hy;rcases List.mem_cons.1 hy with rfl | hy
       · exact ⟨cur,hl,by omega,fun c hc=>Or.inl hc⟩
       · obtain ⟨p,q1,q2,q3⟩:=hostGo_parts r [] h' e1 y hy;refine ⟨p,q1,by simp at q2 ⊢;omega,fun c hc=>Or.inr ?_⟩;rcases q3 c hc with q | q
         · cases q
         · exact List.mem_cons_of_mem _ q
   · intro y hy;obtain ⟨p,q1,q2,q3⟩:=hostGo_parts r (cur ++ [c]) h e y hy;refine ⟨p,q1,by simp at q2 ⊢;omega,fun d hd=>?_⟩;rcases q3 d hd with q | q
     · rcases List.mem_append.1 q with q | q
       · exact Or.inl q
       · exact Or.inr (by rw [List.mem_singleton.1 q];exact List.mem_cons_self ..)
     · exact Or.inr (List.mem_cons_of_mem _ q)
theorem host_is {s:List UInt8} (h:(host s).2=0):(∀ x∈(host s).1,label (ints x)=some x)∧hostEnd (host s).1=((host s).1,0):=by
 unfold host at h ⊢;split
 · rename_i hc;rw [if_pos hc] at h;simp at h
 · rename_i hc;rw [if_neg hc] at h;cases hl:letters s with
   | none=>rw [hl] at h;simp at h
   | some l =>
     rw [hl] at h;simp only at h ⊢;cases hg:hostGo l [] with
     | none=>rw [hg] at h;simp at h
     | some H =>
       rw [hg] at h;simp only at h ⊢;have hm:=hostGo_parts l [] H hg;have hgd:=letters_goodL s l hl;have hle:l.length≤s.length:=by have:=text_ge l;rwa [letters_lenL s l hl] at this
       have hE:hostEnd H=(H,0):=by
        unfold hostEnd at h ⊢;split
        · rename_i hc;rw [if_pos hc] at h;simp at h
        · rfl
       rw [hE];refine ⟨fun x hx=>?_,hE⟩;obtain ⟨p,p1,p2,p3⟩:=hm x hx;exact label_again p1 (fun c hc=>by rcases p3 c hc with q | q;cases q;exact hgd c q) (by simp at p2;omega)
theorem hostGo_run:∀ (x:List UInt8) (r cur:List Int),(∀ b∈x,b≠46)→hostGo (ints x ++ r) cur=hostGo r (cur ++ ints x)
 | [],r,cur,_=>by simp [ints]
 | b :: x,r,cur,h=>by
   have hb:(b.toNat:Int)≠46:=fun e=>h b (by simp) (UInt8.toNat_inj.1 (by simpa using (by omega:b.toNat=46)));have ih:=hostGo_run x r (cur ++ [(b.toNat:Int)]) (fun c hc=>h c (by simp [hc]));show hostGo ((b.toNat:Int) :: (ints x ++ r)) cur=_;rw [hostGo,if_neg hb,ih];simp [ints]
theorem hostGo_dotted:∀ (h:List (List UInt8)),h≠[]→(∀ x∈h,label (ints x)=some x∧∀ b∈x,b≠46)→hostGo (ints (dotted h)) []=some h
 | [],n,_=>absurd rfl n
 | [x],_,h=>by
   have:=hostGo_run x [] [] (h x (by simp)).2;rw [List.append_nil,List.nil_append] at this;have e:dotted [x]=x:=by simp [dotted]
   rw [e,this];unfold hostGo;rw [(h x (by simp)).1]
 | x :: y :: r,_,h=>by
   have ih:=hostGo_dotted (y :: r) (by simp) (fun z hz=>h z (by simp [hz]));have:=hostGo_run x (46 :: ints (dotted (y :: r))) [] (h x (by simp)).2;rw [List.nil_append] at this;have e:ints (dotted (x :: y :: r))=ints x ++ 46 :: ints (dotted (y :: r)):=by rw [dotted_cons];simp [ints]
   rw [e,this,hostGo,if_pos rfl,(h x (by simp)).1];simp only;rw [ih];rfl
theorem host_again {s:List UInt8} (h:(host s).2=0):host (dotted (host s).1)=((host s).1,0):=by
 obtain ⟨q1,q2,q3,q4⟩:=host_ok s h;obtain ⟨k1,k2⟩:=host_is h;obtain ⟨H,hH⟩:∃ H,(host s).1=H:=⟨_,rfl⟩
 rw [hH] at q1 q2 q3 q4 k1 k2 ⊢;have hlen:=dotted_allL H q1;have hlt:∀ b∈dotted H,b.toNat<128:=fun b hb=>by
  rcases dotted_bytes (fun x hx=>(q4 x hx).2) b hb with q | rfl
  · exact plB_lt q
  · decide
 unfold host;rw [if_neg (by omega),letters_ints _ hlt];simp only;rw [hostGo_dotted H q1 (fun x hx=>⟨k1 x hx,fun b hb=>plB_no46 ((q4 x hx).2 b hb)⟩)];exact k2
end Sx
