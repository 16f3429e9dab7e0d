import Derived.Test.YtgohllfpceeboabGreatDoorAnbh
set_option maxRecDepth 100000
set_option maxHeartbeats 8000000
namespace Go.Proofs.YtgohllfpceeboabGreatDoor
open Go.RowKit
theorem rQ {w W1:World}{a b:Obj}(h:Below ((w.alloc a).alloc b).heap.size ((w.alloc a).alloc b) W1):W1.heap[w.heap.size]? = some a∧W1.heap[w.heap.size+1]? = some b:=by
 constructor
 · rw[h.block _ (by simp;omega),heap_alloc_old _ _ (by simp),heap_alloc_new]
 · have:=heap_alloc_new (w.alloc a) b;rw[World.size_alloc] at this;rw[h.block _ (by simp),this]
theorem X4 (r o:Sx.Rl)(w:World)(hr:r.1.length≤1000)(ho:o.1.length≤1000):Calls Tryz.prog 62 #[iL r,iL o] w fun e w'=>e=.returned (.bool (qF r o))∧Below w.heap.size w w':=by
 have HPR:=hide (fun W=>MS r W hr);have HPO:=hide (fun W=>MS o W ho);obtain⟨B,hBd⟩:∃ B,qF r o=B:=⟨_,rfl⟩
 rw[hBd];unfold qF at hBd;simp only[KV,ne_eq] at hBd;obtain⟨PR,hPR⟩:∃ PR,gJ r=PR:=⟨_,rfl⟩
 obtain⟨PO,hPO⟩:∃ PO,gJ o=PO:=⟨_,rfl⟩
 rw[hPR,hPO] at hBd;rw[hPR] at HPR;rw[hPO] at HPO;obtain⟨rh,rk,rs⟩:=r;obtain⟨oh,ok,os⟩:=o;clear hPR hPO;unfold iL at HPR HPO ⊢;dsimp only at HPR HPO hr ho hBd ⊢;obtain⟨X,hX⟩:∃ X:ByteArray,⟨(Sx.aA rh).toArray⟩=X:=⟨_,rfl⟩
 obtain⟨Y,hY⟩:∃ Y:ByteArray,⟨(Sx.aA oh).toArray⟩=Y:=⟨_,rfl⟩
 rw[hX] at HPR ⊢;rw[hY] at HPO ⊢;clear hX hY;obtain⟨K,hK⟩:∃ K:Int,(rk.toNat:Int)=K:=⟨_,rfl⟩
 obtain⟨L,hL⟩:∃ L:Int,(ok.toNat:Int)=L:=⟨_,rfl⟩
 rw[hK] at HPR hBd ⊢;rw[hL] at HPO hBd ⊢;clear hK hL;obtain⟨M,hM⟩:∃ M,rh.length=M:=⟨_,rfl⟩
 obtain⟨M2,hM2⟩:∃ M2,oh.length=M2:=⟨_,rfl⟩
 rw[hM] at HPR ⊢;rw[hM2] at HPO ⊢;obtain⟨S,hS⟩:∃ S:Int,(rs.toNat:Int)=S:=⟨_,rfl⟩
 obtain⟨S2,hS2⟩:∃ S2:Int,(os.toNat:Int)=S2:=⟨_,rfl⟩
 rw[hS] at HPR ⊢;rw[hS2] at HPO ⊢;clear hM hM2 hS hS2 hr ho;have HBD:Hid ((if ¬ K=L∧(K=33∨L=33) then decide (K=33) else if ¬ PR=PO then decide (PR > PO) else decide (K=36))=B):=hide hBd;clear hBd;have HNEW:Hid (∀ W1,Below ((w.alloc (.cells #[.int .u8 K,.string X,.int .i64 M,.int .u8 S] 82)).alloc (.cells #[.int .u8 L,.string Y,.int .i64 M2,.int .u8 S2] 82)).heap.size ((w.alloc (.cells #[.int .u8 K,.string X,.int .i64 M,.int .u8 S] 82)).alloc (.cells #[.int .u8 L,.string Y,.int .i64 M2,.int .u8 S2] 82)) W1 →
  (W1.cell? ⟨w.heap.size,0,none⟩=some (.int .u8 K)∧W1.cell? ⟨w.heap.size,1,none⟩=some (.string X)∧W1.cell? ⟨w.heap.size,2,none⟩=some (.int .i64 M)∧W1.cell? ⟨w.heap.size,3,none⟩=some (.int .u8 S))∧(W1.cell? ⟨w.heap.size+1,0,none⟩=some (.int .u8 L)∧W1.cell? ⟨w.heap.size+1,1,none⟩=some (.string Y)∧W1.cell? ⟨w.heap.size+1,2,none⟩=some (.int .i64 M2)∧W1.cell? ⟨w.heap.size+1,3,none⟩=some (.int .u8 S2))∧Below w.heap.size w W1):=hide (fun W1 h=>by
    obtain⟨h1,h2⟩:=rQ h;refine⟨(iM h1).1,(iM h2).1,?_⟩;exact(((Below.refl _ w).alloc (Nat.le_refl _) _).alloc (by simp) _).trans (h.mono (by simp;omega)))
 obtain⟨W0,hW0⟩:∃ W0,(w.alloc (.cells #[.int .u8 K,.string X,.int .i64 M,.int .u8 S] 82)).alloc (.cells #[.int .u8 L,.string Y,.int .i64 M2,.int .u8 S2] 82)=W0:=⟨_,rfl⟩
 rw[hW0] at HNEW;have hS0:_∧_:=⟨(HNEW.out W0 (Below.refl _ _)).1,(HNEW.out W0 (Below.refl _ _)).2.1⟩
 have HB0:Hid (Below w.heap.size w W0):=hide (HNEW.out W0 (Below.refl _ _)).2.2;go_enter Tryz.func62,Tryz.ntmps62;by_cases hKL:K=L
 · subst hKL;go_upto_region 3 with fail
   clear hW0;obtain⟨⟨a0,a1,a2,a3⟩,b0,b1,b2,b3⟩:=hS0;go_cut [27] (fun c wc=>(∃ b:Bool,c=.bool b∧(b=true↔¬ PR=PO))∧Below W0.heap.size W0 wc)
   case first =>
    go_region_with (first | (have hbX:=hbA;go_at_call 64;refine(HPO.out _).mono ?_;rintro e wB ⟨rfl,hBB⟩;have hbB:Below W0.heap.size W0 wB:=hbX.trans (hBB.mono hbX.size);obtain⟨⟨e0,e1,e2,e3⟩,⟨f0,f1,f2,f3⟩,-⟩:=HNEW.out wB hbB) | (go_at_call 64;refine(HPR.out _).mono ?_;rintro e wA ⟨rfl,hBA⟩;have hbA:Below W0.heap.size W0 wA:=(Below.refl _ W0).drew.trans hBA;obtain⟨⟨c0,c1,c2,c3⟩,⟨d0,d1,d2,d3⟩,-⟩:=HNEW.out wA hbA))
    all_goals
     go_wp2_with fail
     go_meet;exact⟨⟨_,rfl,by simp⟩,hbB⟩
   case rest =>
    obtain⟨⟨b,rfl,hb⟩,hbC⟩:=hcut;clear a0 a1 a2 a3 b0 b1 b2 b3;obtain⟨⟨a0,a1,a2,a3⟩,⟨b0,b1,b2,b3⟩,hfin⟩:=HNEW.out _ hbC;cases b with
    | false =>
      have hP:PR=PO:=Classical.byContradiction fun h=>by have:=hb.2 h;cases this
      have HF:=hide hfin;clear hb hbC hfin;go_wp2;go_ret;refine⟨?_,HF.out⟩;rw[←HBD.out,if_neg (by simp_all),if_neg (by simp[hP])];exact aP (by first | rfl | (rw[Bool.eq_iff_iff];simp))
    | true =>
      have hP:¬ PR=PO:=hb.1 rfl;clear hb hfin;go_wp2_with fail
      go_region_with (first | (have hbX:=hbA;go_at_call 64;refine(HPO.out _).mono ?_;rintro e wB ⟨rfl,hBB⟩;have hbB:Below W0.heap.size W0 wB:=hbX.trans (hBB.mono hbX.size);obtain⟨⟨e0,e1,e2,e3⟩,⟨f0,f1,f2,f3⟩,-⟩:=HNEW.out wB hbB) | (go_at_call 64;refine(HPR.out _).mono ?_;rintro e wA ⟨rfl,hBA⟩;have hbA:Below W0.heap.size W0 wA:=hbC.drew.trans (hBA.mono hbC.size);obtain⟨⟨c0,c1,c2,c3⟩,⟨d0,d1,d2,d3⟩,-⟩:=HNEW.out wA hbA))
      all_goals
       have HF:=hide (HNEW.out _ hbB).2.2;go_wp2;go_ret;refine⟨?_,HF.out⟩;rw[←HBD.out,if_neg (by simp_all),if_pos (by simp[hP])];exact aP (by first | rfl | (rw[Bool.eq_iff_iff];simp))
 · have k1:(K == L)=false:=by simpa using hKL
   have k2:(K != L)=true:=by simpa using hKL
   by_cases h33:K=33
   · subst h33;obtain⟨⟨a0,a1,a2,a3⟩,b0,b1,b2,b3⟩:=hS0;clear HNEW;go_wp2;go_ret;exact⟨by rw[←HBD.out,if_pos (by simp_all)];rfl,HB0.out⟩
   · have k3:(K == 33)=false:=by simpa using h33
     by_cases l33:L=33
     · subst l33;obtain⟨⟨a0,a1,a2,a3⟩,b0,b1,b2,b3⟩:=hS0;clear HNEW;go_wp2;go_ret;exact⟨by rw[←HBD.out,if_pos (by simp_all)];exact aP (by rw[Bool.eq_iff_iff];simp[h33]),HB0.out⟩
     · have k4:(L == 33)=false:=by simpa using l33
       go_upto_region 3 with fail
       clear hW0;obtain⟨⟨a0,a1,a2,a3⟩,b0,b1,b2,b3⟩:=hS0;go_cut [27] (fun c wc=>(∃ b:Bool,c=.bool b∧(b=true↔¬ PR=PO))∧Below W0.heap.size W0 wc)
       case first =>
        go_region_with (first | (have hbX:=hbA;go_at_call 64;refine(HPO.out _).mono ?_;rintro e wB ⟨rfl,hBB⟩;have hbB:Below W0.heap.size W0 wB:=hbX.trans (hBB.mono hbX.size);obtain⟨⟨e0,e1,e2,e3⟩,⟨f0,f1,f2,f3⟩,-⟩:=HNEW.out wB hbB) | (go_at_call 64;refine(HPR.out _).mono ?_;rintro e wA ⟨rfl,hBA⟩;have hbA:Below W0.heap.size W0 wA:=(Below.refl _ W0).drew.trans hBA;obtain⟨⟨c0,c1,c2,c3⟩,⟨d0,d1,d2,d3⟩,-⟩:=HNEW.out wA hbA))
        all_goals
         go_wp2_with fail
         go_meet;exact⟨⟨_,rfl,by simp⟩,hbB⟩
       case rest =>
        obtain⟨⟨b,rfl,hb⟩,hbC⟩:=hcut;clear a0 a1 a2 a3 b0 b1 b2 b3;obtain⟨⟨a0,a1,a2,a3⟩,⟨b0,b1,b2,b3⟩,hfin⟩:=HNEW.out _ hbC;cases b with
        | false =>
          have hP:PR=PO:=Classical.byContradiction fun h=>by have:=hb.2 h;cases this
          have HF:=hide hfin;clear hb hbC hfin;go_wp2;go_ret;refine⟨?_,HF.out⟩;rw[←HBD.out,if_neg (by simp_all),if_neg (by simp[hP])];exact aP (by first | rfl | (rw[Bool.eq_iff_iff];simp))
        | true =>
          have hP:¬ PR=PO:=hb.1 rfl;clear hb hfin;go_wp2_with fail
          go_region_with (first | (have hbX:=hbA;go_at_call 64;refine(HPO.out _).mono ?_;rintro e wB ⟨rfl,hBB⟩;have hbB:Below W0.heap.size W0 wB:=hbX.trans (hBB.mono hbX.size);obtain⟨⟨e0,e1,e2,e3⟩,⟨f0,f1,f2,f3⟩,-⟩:=HNEW.out wB hbB) | (go_at_call 64;refine(HPR.out _).mono ?_;rintro e wA ⟨rfl,hBA⟩;have hbA:Below W0.heap.size W0 wA:=hbC.drew.trans (hBA.mono hbC.size);obtain⟨⟨c0,c1,c2,c3⟩,⟨d0,d1,d2,d3⟩,-⟩:=HNEW.out wA hbA))
          all_goals
           have HF:=hide (HNEW.out _ hbB).2.2;go_wp2;go_ret;refine⟨?_,HF.out⟩;rw[←HBD.out,if_neg (by simp_all),if_pos (by simp[hP])];exact aP (by first | rfl | (rw[Bool.eq_iff_iff];simp))
theorem V2 (r:Sx.Rl)(p:List UInt8)(w:World)(hp:p.length≤100000)(hd:(Sx.aA r.1).length≤100000):Calls Tryz.prog 61 #[iL r,.string ⟨p.toArray⟩] w fun e w'=>e=.returned (.bool (FS r p))∧Below w.heap.size w w':=by
 obtain⟨h,k,sc⟩:=r;obtain⟨B,hBd⟩:∃ B,FS (h,k,sc) p=B:=⟨_,rfl⟩
 rw[hBd];unfold FS at hBd;dsimp only at hBd;simp only[ne_eq,KV] at hBd;unfold iL;dsimp only;obtain⟨D,hD⟩:∃ D,Sx.aA h=D:=⟨_,rfl⟩
 rw[hD] at hBd ⊢;dsimp only at hd;rw[hD] at hd;have HSF:=hide (fun W=>vJ ⟨p.toArray⟩ ⟨(46::D).toArray⟩ W (by show p.length≤_;omega));have happ:=bF [46] D;obtain⟨SB,hSB⟩:∃ SB,cR p (46::D)=SB:=⟨_,rfl⟩
 have hSB2:cR (⟨p.toArray⟩:ByteArray).data.toList (⟨(46::D).toArray⟩:ByteArray).data.toList=SB:=hSB;rw[hSB2] at HSF;rw[hSB] at hBd;obtain⟨M,hM⟩:∃ M,h.length=M:=⟨_,rfl⟩
 obtain⟨K,hK⟩:∃ K:Int,(k.toNat:Int)=K:=⟨_,rfl⟩
 rw[hM,hK];rw[hK] at hBd;have hpd:decide (p=D)=((⟨p.toArray⟩:ByteArray).toList == (⟨D.toArray⟩:ByteArray).toList):=by
  rw[ByteArray.toList_eq,ByteArray.toList_eq,Bool.eq_iff_iff];simp
 rw[hpd] at hBd;obtain⟨P,hP⟩:∃ P:ByteArray,⟨p.toArray⟩=P:=⟨_,rfl⟩
 obtain⟨X,hX⟩:∃ X:ByteArray,⟨D.toArray⟩=X:=⟨_,rfl⟩
 rw[hP] at HSF hBd ⊢;rw[hX] at hBd ⊢;obtain⟨Y,hY⟩:∃ Y:ByteArray,⟨(46::D).toArray⟩=Y:=⟨_,rfl⟩
 rw[hY] at HSF;have hXs:X.size≤100000:=by rw[←hX];exact hd
 have hY2:(⟨#[46]⟩:ByteArray)++X=Y:=by rw[←hX,←hY];exact happ
 clear hSB hSB2 hM hK hpd hP hD happ hX hY hd;have HBD:=hide hBd;have HB0:Hid (∀ o:Obj,Below w.heap.size w (w.alloc o)):=hide (fun o=>(Below.refl _ w).alloc (Nat.le_refl _) o);clear hBd;go_enter Tryz.func61,Tryz.ntmps61;go_wp2_with fail
 refine(HSF.out _).mono ?_;rintro e w1 ⟨rfl,rfl⟩;cases SB with
 | true =>
   go_wp2;go_ret;exact⟨by rw[←HBD.out];rfl,HB0.out _⟩
 | false =>
   cases hE:(P.toList == X.toList) with
   | false =>
     go_wp2;go_ret;exact⟨by rw[←HBD.out,hE];rfl,HB0.out _⟩
   | true =>
     by_cases hK:K=42
     · subst hK;go_wp2;go_ret;exact⟨by rw[←HBD.out,hE];rfl,HB0.out _⟩
     · have k1:(K == 42)=false:=by simpa using hK
       have k2:(K != 42)=true:=by simpa using hK
       go_wp2;go_ret;exact⟨by rw[←HBD.out,hE];exact aP (by simp[hK]),HB0.out _⟩
theorem TE (rs:List Sx.Rl)(p:List UInt8)(k:Nat)(h:k<rs.length):eR (rs.take (k+1)) p=CB p (eR (rs.take k) p) rs[k]:=by
 unfold eR;rw[List.take_succ_eq_append_getElem h,List.foldl_append];rfl
theorem qD (p:List UInt8)(Q:Sx.Rl→Prop)(h0:Q ([],42,45)):∀ (rs:List Sx.Rl),(∀ r∈rs,Q r)→Q (eR rs p):=by
 have key:∀ (rs:List Sx.Rl) (b:Sx.Rl),Q b→(∀ r∈rs,Q r)→Q (rs.foldl (CB p) b):=by
  intro rs
  induction rs with
  | nil=>intro b h _;exact h
  | cons r rs ih =>
    intro b h hr;rw[List.foldl_cons];refine ih _ ?_ (fun q hq=>hr q (by simp[hq]));unfold CB;split
    · exact hr r (by simp)
    · exact h
 exact fun rs hr=>key rs _ h0 hr
theorem xX {W:World}{b:Nat}{x0 y0 z0 u0:Value}{t:TypeId}(x y z u:Value)(h:W.heap[b]? = some (.cells #[x0,y0,z0,u0] t (0,0))) :
 ((((W.setCell ⟨b,0,none⟩ x).setCell ⟨b,1,none⟩ y).setCell ⟨b,2,none⟩ z).setCell ⟨b,3,none⟩ u).heap[b]? = some (.cells #[x,y,z,u] t (0,0)):=by
 simp[World.setCell,Array.getElem?_modify,h]
theorem IZ {W:World}{b k:Nat}(x y z u:Value)(h:k≠b) :
 ((((W.setCell ⟨b,0,none⟩ x).setCell ⟨b,1,none⟩ y).setCell ⟨b,2,none⟩ z).setCell ⟨b,3,none⟩ u).heap[k]? = W.heap[k]?:=by
 simp[World.setCell,Array.getElem?_modify,Ne.symm h]
theorem vO {w W:World}{n b:Nat}(x y z u:Value)(h:Below n w W)(hb:n≤b):Below n w ((((W.setCell ⟨b,0,none⟩ x).setCell ⟨b,1,none⟩ y).setCell ⟨b,2,none⟩ z).setCell ⟨b,3,none⟩ u) :=
 (((h.setCell (p:=⟨b,0,none⟩) hb _).setCell (p:=⟨b,1,none⟩) hb _).setCell (p:=⟨b,2,none⟩) hb _).setCell (p:=⟨b,3,none⟩) hb _
theorem K1 (rs:List Sx.Rl)(p:List UInt8)(v:Value)(w:World)(hv:PrAt w v rs)(hok:∀ r∈rs,r.1.length≤1000∧(Sx.aA r.1).length≤100000)(hp:p.length≤100000)(hn:rs.length≤1000) :
 Calls Tryz.prog 39 #[v,.string ⟨p.toArray⟩] w fun e w'=>e=.returned (iL (eR rs p))∧Below w.heap.size w w':=by
 obtain⟨q,cap,rfl,hrd⟩:=hv;have HRD:=hide hrd;have HOK:=hide hok;have HFT:=hide (fun r W hd=>V2 r p W hp hd);obtain⟨P,hP⟩:∃ P:ByteArray,⟨p.toArray⟩=P:=⟨_,rfl⟩
 rw[hP] at HFT ⊢;clear hP hrd hok;go_enter Tryz.func39,Tryz.ntmps39;go_wp2_with fail
 go_loopw [11] (fun i wr=>∃ (k:Nat) (b:Sx.Rl),i=.int .i64 k∧k≤rs.length∧eR (rs.take k) p=b∧wr.heap[w.heap.size+1]? = some (.cells (KZ b).toArray 82 (0,0))∧wr.heap[w.heap.size]? = some (.cells #[.int .u8 0,.string ⟨#[]⟩,.int .i64 0,.int .u8 0] 82 (0,0))∧Below w.heap.size w wr∧w.heap.size+2≤wr.heap.size) (fun i _=>(rs.length-intOf i).toNat)
 case atStart =>
  refine⟨0,([],42,45),rfl,by omega,rfl,?_,?_,?_,?_⟩
  · exact(rQ (Below.refl _ _)).2
  · exact(rQ (Below.refl _ _)).1
  · exact((Below.refl _ w).alloc (Nat.le_refl _) _).alloc (by simp) _
  · simp
 case round =>
  obtain⟨k,b,rfl,hk,hb,hbx,hrx,hB,hsz⟩:=hrel;have hb1000:b.1.length≤1000:=by
   rw[←hb];exact qD p (fun r=>r.1.length≤1000) (by simp) _ (fun r hr=>(HOK.out r (List.mem_of_mem_take hr)).1)
  by_cases hlt:k<rs.length
  · obtain⟨g,rfl,hg,c1,c2,c3,c4⟩:=HRD.out k hlt;have d1:=(hB.cell (p:=⟨g,k*4,none⟩) hg).trans c1;have d2:=(hB.cell (p:=⟨g,k*4+1,none⟩) hg).trans c2;have d3:=(hB.cell (p:=⟨g,k*4+2,none⟩) hg).trans c3;have d4:=(hB.cell (p:=⟨g,k*4+3,none⟩) hg).trans c4;have hrl:=HOK.out rs[k] (List.getElem_mem hlt);have hst:=TE rs p k hlt;rw[hb] at hst;have hft:=fun W=>HFT.out rs[k] W hrl.2;have hpv:=fun W=>X4 rs[k] b W hrl.1 hb1000;obtain⟨FB,hFB⟩:∃ FB,FS rs[k] p=FB:=⟨_,rfl⟩
    obtain⟨PB,hPB⟩:∃ PB,qF rs[k] b=PB:=⟨_,rfl⟩
    unfold CB at hst;rw[hFB,hPB] at hst;rw[hFB] at hft;rw[hPB] at hpv;obtain⟨⟨qh,qk,qs⟩,hq⟩:∃ q,rs[k]=q:=⟨_,rfl⟩
    rw[hq] at d1 d2 d3 d4 hst hft hpv;obtain⟨bh,bk,bs⟩:=b;unfold iL at hft hpv;unfold KZ at hbx;dsimp only at d1 d2 d3 d4 hft hpv hbx;obtain⟨D,hD⟩:∃ D:ByteArray,⟨(Sx.aA qh).toArray⟩=D:=⟨_,rfl⟩
    obtain⟨N,hN2⟩:∃ N,qh.length=N:=⟨_,rfl⟩
    rw[hD] at d2 hft hpv;rw[hN2] at d3 hft hpv;obtain⟨E,hE⟩:∃ E:ByteArray,⟨(Sx.aA bh).toArray⟩=E:=⟨_,rfl⟩
    obtain⟨N3,hN3⟩:∃ N,bh.length=N:=⟨_,rfl⟩
    rw[hE] at hbx hpv;rw[hN3] at hbx hpv;have HFC:=hide hft;have HPC:=hide hpv;have HST:=hide hst;have HQ:Hid ((KZ (qh,qk,qs)).toArray=#[.int .u8 qk.toNat,.string D,.int .i64 N,.int .u8 qs.toNat]):=hide (by unfold KZ;rw[hD,hN2]);have HQ2:Hid ((KZ (bh,bk,bs)).toArray=#[.int .u8 bk.toNat,.string E,.int .i64 N3,.int .u8 bs.toNat]):=hide (by unfold KZ;rw[hE,hN3]);obtain⟨⟨x0,x1,x2,x3⟩,xf0,xf1,xf2,xf3⟩:=iM hbx;have HKEEP:Hid (∀ W,Below (wr.alloc (.cells #[.int .u8 qk.toNat,.string D,.int .i64 N,.int .u8 qs.toNat] 82)).heap.size (wr.alloc (.cells #[.int .u8 qk.toNat,.string D,.int .i64 N,.int .u8 qs.toNat] 82)) W→W.heap[wr.heap.size]? = some (.cells #[.int .u8 qk.toNat,.string D,.int .i64 N,.int .u8 qs.toNat] 82 (0,0))∧W.heap[w.heap.size+1]? = some (.cells #[.int .u8 bk.toNat,.string E,.int .i64 N3,.int .u8 bs.toNat] 82 (0,0))∧W.heap[w.heap.size]? = some (.cells #[.int .u8 0,.string ⟨#[]⟩,.int .i64 0,.int .u8 0] 82 (0,0))∧Below w.heap.size w W∧w.heap.size+2≤W.heap.size):=hide (fun W h=>by
     have hs:=h.size;rw[World.size_alloc] at hs;refine⟨?_,?_,?_,?_,by omega⟩
     · rw[h.block _ (by simp),heap_alloc_new]
     · rw[h.block _ (by simp;omega),heap_alloc_old _ _ (by omega)];exact hbx
     · rw[h.block _ (by simp;omega),heap_alloc_old _ _ (by omega)];exact hrx
     · exact(hB.alloc hB.size _).trans (h.mono (by simp;omega)))
    clear c1 c2 c3 c4 hrl hst hft hpv hq hD hN2 hE hN3 hFB hPB hb hbx hrx hb1000;cases FB with
    | false =>
      go_wp2_with fail
      refine(HFC.out _).mono ?_;rintro e w1 ⟨rfl,hB1⟩;have HX:=hide (HKEEP.out w1 hB1);clear hB1 hB HKEEP;go_wp2;refine⟨⟨k+1,(bh,bk,bs),by go_num,by omega,by rw[HST.out];rfl,by rw[HQ2.out];exact HX.out.2.1,HX.out.2.2.1,HX.out.2.2.2⟩,by simp[intOf];omega⟩
    | true =>
      go_wp2_with fail
      refine(HFC.out _).mono ?_;rintro e w1 ⟨rfl,hB1⟩;obtain⟨y1,y2,_⟩:=HKEEP.out w1 hB1;obtain⟨⟨z0,z1,z2,z3⟩,-⟩:=iM y1;obtain⟨⟨v0,v1,v2,v3⟩,-⟩:=iM y2;have HB1:=hide hB1;clear hB1 y1 y2;go_wp2_with fail
      refine(HPC.out _).mono ?_;rintro e w2 ⟨rfl,hB2⟩;have hX2:=HKEEP.out w2 (HB1.out.trans (hB2.mono HB1.out.size));have HX:=hide hX2;obtain⟨y1,y2,-,-,hs2⟩:=hX2;obtain⟨⟨t0,t1,t2,t3⟩,-⟩:=iM y1;obtain⟨⟨r0,r1,r2,r3⟩,f0,f1,f2,f3⟩:=iM y2;clear hB2 hB HKEEP y1 y2 z0 z1 z2 z3 v0 v1 v2 v3;cases PB with
      | false =>
        go_wp2;refine⟨⟨k+1,(bh,bk,bs),by go_num,by omega,by rw[HST.out];rfl,by rw[HQ2.out];exact HX.out.2.1,HX.out.2.2.1,HX.out.2.2.2⟩,by simp[intOf];omega⟩
      | true =>
        go_wp2;refine⟨⟨k+1,(qh,qk,qs),by go_num,by omega,by rw[HST.out];rfl,by rw[HQ.out];exact xX _ _ _ _ HX.out.2.1,by rw[IZ _ _ _ _ (by omega)];exact HX.out.2.2.1,vO _ _ _ _ HX.out.2.2.2.1 (by omega),by simp;omega⟩,by simp[intOf];omega⟩
  · have hkl:k=rs.length:=by omega
    subst hkl;rw[List.take_length] at hb;have HB:=hide hB;have HQ:Hid (iL (eR rs p)=.agg (KZ b).toArray):=hide (by rw[hb];rfl);obtain⟨bh,bk,bs⟩:=b;unfold KZ at hbx HQ;dsimp only at hbx HQ;obtain⟨E,hE⟩:∃ E:ByteArray,⟨(Sx.aA bh).toArray⟩=E:=⟨_,rfl⟩
    obtain⟨N3,hN3⟩:∃ N,bh.length=N:=⟨_,rfl⟩
    rw[hE,hN3] at hbx HQ;obtain⟨⟨x0,x1,x2,x3⟩,-⟩:=iM hbx;obtain⟨⟨r0,r1,r2,r3⟩,f0,f1,f2,f3⟩:=iM hrx;have HRX:=hide hrx;clear hbx hE hN3 hb hB hrx;go_wp2_with fail
    refine bodyPost_ret (v:=iL (eR rs p)) ?_ rfl ⟨rfl,vO _ _ _ _ HB.out (Nat.le_refl _)⟩;rw[HQ.out];obtain⟨⟨z0,z1,z2,z3⟩,-⟩:=iM (xX (.int .u8 bk.toNat) (.string E) (.int .i64 N3) (.int .u8 bs.toNat) HRX.out);simp[results,Tryz.results39,go_sem,z0,z1,z2,z3]
open Go.RowKit Go.Shelf
attribute [local go_sem] Oper.semAt_some
theorem nB:∀ (r cur:List UInt8),Sx.aA (Sx.bS r cur)=cur++r
 | [],cur=>by simp[Sx.bS,Sx.aA]
 | a::r,cur=>by
   unfold Sx.bS;split
   · rename_i ha;have ih:=nB r [];obtain⟨y,t,hy⟩:=List.exists_cons_of_ne_nil (AP r []);rw[hy] at ih ⊢;rw[Sx.cX,ih,ha];simp
   · have ih:=nB r (cur++[a]);rw[ih];simp
theorem LY (l:List UInt8):Sx.aA (fK l).reverse=l:=by
 rw[wQ,nB];simp
theorem KQ (a b:List (List UInt8)):Sx.aM (a++b)=Sx.aM a+Sx.aM b:=by simp[Sx.aM]
theorem last_at (l:List UInt8)(n:Nat)(h1:1≤n)(h2:n≤(fK l).length):Sx.aM ((fK l).take n)≤l.length+1∧l.drop (l.length+1-Sx.aM ((fK l).take n))=cY l n:=by
 have hl:=LY l;have hT:((fK l).take n).reverse≠[]:=fun e=>by
  have:=congrArg List.length e;rw[List.length_reverse,List.length_take,List.length_nil] at this;omega
 have hTl:=Sx.cZ _ hT;rw[Sx.wC] at hTl;have hlp:cY l n=Sx.aA ((fK l).take n).reverse:=by
  unfold cY;rw[if_pos ⟨by omega,by omega⟩,Int.toNat_natCast]
 have hr:(fK l).reverse=((fK l).drop n).reverse++((fK l).take n).reverse:=by rw[←List.reverse_append,List.take_append_drop]
 rw[hr] at hl;rw[hlp];by_cases h0:((fK l).drop n).reverse=[]
 · rw[h0,List.nil_append] at hl;rw[hl] at hTl ⊢;refine⟨by omega,?_⟩;rw[show l.length+1-Sx.aM ((fK l).take n)=0 by omega];rfl
 · rw[pN _ _ h0 hT] at hl;have hlen:=congrArg List.length hl;rw[List.length_append,List.length_cons] at hlen;refine⟨by omega,?_⟩;obtain⟨A,hA⟩:∃ A,Sx.aA ((fK l).drop n).reverse=A:=⟨_,rfl⟩
   obtain⟨T,hT2⟩:∃ T,Sx.aA ((fK l).take n).reverse=T:=⟨_,rfl⟩
   rw[hA,hT2] at hl hlen;rw[hT2] at hTl ⊢;rw[show l.length+1-Sx.aM ((fK l).take n)=A.length+1 by omega];have e:l=(A++[46])++T:=by rw[←hl];simp
   have e2:A.length+1=(A++[46]).length:=by simp
   rw[e2];exact(congrArg (List.drop (A++[46]).length) e).trans (by rw[List.drop_left])
structure LsAt (s:ByteArray) (c:Nat) (P:List (List UInt8)) (w:World) (k:Nat) (W:World):Prop where
 kc:k<c
 kP:k≤P.length
 b0:Boxed W w.heap.size 115 (.string s)
 b1:Boxed W (w.heap.size+1) 3 (.int .i64 ((c:Int)-(k:Int)))
 b2:Boxed W (w.heap.size+2) 9 (.string ⟨#[]⟩)
 b3:∃ T:Nat,T+Sx.aM (P.take k)=s.size+1∧Boxed W (w.heap.size+3) 3 (.int .i64 T)
 bel:Below w.heap.size w W
structure LsNo (s:ByteArray) (c:Nat) (P:List (List UInt8)) (w:World) (W:World):Prop where
 cP:c≤P.length
 b2:Boxed W (w.heap.size+2) 9 (.string ⟨(cY s.data.toList c).toArray⟩)
 bel:Below w.heap.size w W
theorem LsAt.own {s:ByteArray}{c:Nat}{P:List (List UInt8)}{w:World}{C:Nat}(hC:w.heap.size≤C):OwnFrom C (LsAt s c P w):=by
 intro k W W' row h hg hr;obtain⟨a1,a2,a3,a4,a5,⟨T,a6,a7⟩,a8⟩:=h;have hne:∀ {b:Nat} {t:TypeId} {v:Value},Boxed W b t v→some b≠row:=fun hb e=>by
  obtain⟨_,o,ho,hc⟩:=hr _ e.symm;exact fN hb ho hc rfl
 exact⟨a1,a2,a3.kept hg (hne a3),a4.kept hg (hne a4),a5.kept hg (hne a5),⟨T,a6,a7.kept hg (hne a7)⟩,a8.grown hg a8.size (fun r e=>by have:=(hr r e).1;omega)⟩
theorem LsNo.own {s:ByteArray}{c:Nat}{P:List (List UInt8)}{w:World}{C:Nat}(hC:w.heap.size≤C):OwnFrom C (fun (_:Unit) W=>LsNo s c P w W):=by
 intro k W W' row h hg hr;obtain⟨a1,a6,a8⟩:=h;have hne:∀ {b:Nat} {t:TypeId} {v:Value},Boxed W b t v→some b≠row:=fun hb e=>by
  obtain⟨_,o,ho,hc⟩:=hr _ e.symm;exact fN hb ho hc rfl
 exact⟨a1,a6.kept hg (hne a6),a8.grown hg a8.size (fun r e=>by have:=(hr r e).1;omega)⟩
theorem J0 (s:ByteArray)(c:Nat)(w:World)(P:List (List UInt8))(hs:s.size≤1000)(hP:P=fK s.data.toList)(hc:1≤c)(hc2:c≤1000) :
 Calls Tryz.prog 63 #[.string s,.int .i64 c] w fun e w'=>e=.returned (.string ⟨(cY s.data.toList c).toArray⟩)∧Below w.heap.size w w':=by
 refine(callsIn_wide (n:=10)).1 ?_;refine callsIn_of_wp_marks Tryz.func63 rfl trivial ?_ rfl;simp only[Tryz.ntmps63,List.size_toArray,List.length_cons,List.length_nil,Nat.reduceAdd,Nat.reduceSub,Array.replicate_succ,Array.replicate_zero,List.push_toArray,List.append_toArray,List.nil_append,List.cons_append];have HP:=hide hP;clear hP;gi_wp2_with fail
 obtain⟨W0,hW0⟩:∃ W0,(((w.alloc (.cells #[.string s] 115)).alloc (.cells #[.int .i64 c] 3)).alloc (.cells #[.string ⟨#[]⟩] 9)).alloc (.cells #[.int .i64 ((s.size:Int)+1)] 3)=W0:=⟨_,rfl⟩
 have HI0:Hid (LsAt s c P w 0 W0):=hide (by
  rw[←hW0];refine⟨by omega,by omega,(((Boxed.new w _ _).alloc _).alloc _).alloc _,?_,?_,⟨s.size+1,by simp[Sx.aM],?_⟩,?_⟩
  · have:=((Boxed.new (w.alloc (.cells #[.string s] 115)) 3 (.int .i64 c)).alloc (.cells #[.string ⟨#[]⟩] 9)).alloc (.cells #[.int .i64 ((s.size:Int)+1)] 3);rw[World.size_alloc] at this
    simpa using this
  · have:=(Boxed.new ((w.alloc (.cells #[.string s] 115)).alloc (.cells #[.int .i64 c] 3)) 9 (.string ⟨#[]⟩)).alloc (.cells #[.int .i64 ((s.size:Int)+1)] 3);rw[World.size_alloc,World.size_alloc] at this;exact this
  · have:=Boxed.new (((w.alloc (.cells #[.string s] 115)).alloc (.cells #[.int .i64 c] 3)).alloc (.cells #[.string ⟨#[]⟩] 9)) 3 (.int .i64 ((s.size:Int)+1));rw[World.size_alloc,World.size_alloc,World.size_alloc] at this
    simpa using this
  · exact((((Below.refl _ w).alloc (Nat.le_refl _) _).alloc (by simp) _).alloc (by simp;omega) _).alloc (by simp;omega) _)
 have hw0:=HI0.out.bel.size;rw[hW0];clear hW0;refine vN 10 (by omega) (by omega) s hs (.tmp 11) rfl P HP.out rfl (LsAt s c P w) (LsNo s c P w) (LsAt.own hw0) (LsNo.own hw0) HI0.out
  (fun x=>{ tmps:=#[Value.string s,Value.int IntKind.i64 c,Value.pointer (some ⟨w.heap.size,0,none⟩),Value.pointer (some ⟨w.heap.size+1,0,none⟩),Value.pointer (some ⟨w.heap.size+1+1,0,none⟩),Value.pointer (some ⟨w.heap.size+1+1+1,0,none⟩),.string x,Value.string s,
        Value.int IntKind.i64 ↑s.size,Value.int IntKind.i64 (↑s.size+1),Value.string s,Value.func (Fn.func 84) #[Value.string s] #[],.string x,undef,undef,undef,undef,undef,undef,undef,undef,undef,undef,undef,undef],defers:=[] }) ?assign ?body ?done ?stop
 case assign =>
  intro l x W K hK;gi_wp2
  exact hK
 case body =>
  rintro l k hk W hrd;have HRD:=hide hrd;obtain⟨kc,kP,b0,b1,b2,⟨T,hT,b3⟩,bel⟩:=hrd;have hPk:Sx.aM (P.take (k+1))=Sx.aM (P.take k)+(P[k].length+1):=by
   rw[List.take_succ_eq_append_getElem hk,KQ];simp[Sx.aM]
  have hla:=last_at s.data.toList (k+1) (by omega) (by rw[←HP.out];exact hk);rw[←HP.out,hPk] at hla;have hsl:s.data.toList.length=s.size:=aC s;rw[hsl] at hla;obtain⟨X,hX⟩:∃ X:ByteArray,⟨P[k].toArray⟩=X:=⟨_,rfl⟩
  have hXs:X.size=P[k].length:=by rw[←hX];rfl
  rw[hX];obtain⟨n,hn⟩:∃ n,P[k].length=n:=⟨_,rfl⟩
  rw[hn] at hXs hla hPk;obtain⟨T2,hT2⟩:∃ T2:Nat,T=T2+(n+1):=⟨T-(n+1),by omega⟩
  have hTi:(T:Int)-((n:Int)+1)=(T2:Int):=by omega
  have hT2s:T2≤s.size:=by omega
  have hst:s.extract T2 s.size=⟨(cY s.data.toList ((k+1:Nat):Int)).toArray⟩:=by
   rw[←hla.2,show s.size+1-(Sx.aM (P.take k)+(n+1))=T2 by omega];exact qK s T2
  have HLA:=hide hla;have HST:=hide hst;have HT:=hide hT;have HPK:=hide hPk;have hT1:T≤2000:=by omega
  have hTn:T2+(n+1)=T:=hT2.symm;have hn1:n≤2000:=by omega
  have c0:=b0.cell;have c1:=b1.cell;have c2:=b2.cell;have c3:=b3.cell;have f1:=b1.frozen;have f2:=b2.frozen;have f3:=b3.frozen;have hkc:(c:Int)-(k:Int)≤1000:=by omega
  have hkc0:1≤(c:Int)-(k:Int):=by omega
  obtain⟨m,hm⟩:∃ m:Int,(c:Int)-(k:Int)=m:=⟨_,rfl⟩
  rw[hm] at c1 hkc hkc0;have HM:=hide hm;have HB1:=hide b1;have HB3:=hide b3;clear hla hst hT hPk hX hn hsl hT2 hm b0 b1 b3;have hk1:w.heap.size+1+1=w.heap.size+2:=rfl;have hk2:w.heap.size+1+1+1=w.heap.size+3:=rfl;by_cases hm1:m=1
  · subst hm1;gi_wp2_with fail
    refine⟨(((KeepsOthers.setCell _ _ _).trans (KeepsOthers.setCell _ _ _)).trans (KeepsOthers.setCell _ _ _)).from _,?_,?_,?_⟩
    · have:=HM.out;omega
    · rw[HST.out];have hck:((k+1:Nat):Int)=(c:Int):=by have:=HM.out;omega
      rw[hck];exact((b2.kept (grownBy_setCell' _ _ _) (fun e=>by have:=Option.some.inj e;omega)).kept (grownBy_setCell' _ _ _) (fun e=>by have:=Option.some.inj e;omega)).set _
    · exact((bel.setCell (p:=⟨w.heap.size+1+1+1,0,none⟩) (by show _≤w.heap.size+1+1+1;omega) _).setCell (p:=⟨w.heap.size+1,0,none⟩) (by show _≤w.heap.size+1;omega) _).setCell (p:=⟨w.heap.size+1+1,0,none⟩) (by show _≤w.heap.size+1+1;omega) _
  · have hmz:(m-1 == 0)=false:=by simp;omega
    have hmz2:¬ m-1=0:=by omega
    gi_wp2_with fail
    have hcm:=HM.out;refine⟨((KeepsOthers.setCell _ _ _).trans (KeepsOthers.setCell _ _ _)).from _,by omega,hk,?_,?_,?_,⟨T2,by rw[HPK.out];have:=HT.out;omega,?_⟩,?_⟩
    · exact(HRD.out.b0.kept (grownBy_setCell' _ _ _) (fun e=>by have:=Option.some.inj e;omega)).kept (grownBy_setCell' _ _ _) (fun e=>by have:=Option.some.inj e;omega)
    · have h1:=(HB1.out.kept (grownBy_setCell' W (w.heap.size+1+1+1) (.int .i64 T2)) (fun e=>by have:=Option.some.inj e;omega)).set (.int .i64 (m-1));rw[show(c:Int)-((k+1:Nat):Int)=m-1 by omega];exact h1
    · exact(b2.kept (grownBy_setCell' _ _ _) (fun e=>by have:=Option.some.inj e;omega)).kept (grownBy_setCell' _ _ _) (fun e=>by have:=Option.some.inj e;omega)
    · exact(HB3.out.set _).kept (grownBy_setCell' _ _ _) (fun e=>by have:=Option.some.inj e;omega)
    · exact(bel.setCell (p:=⟨w.heap.size+1+1+1,0,none⟩) (by show _≤w.heap.size+1+1+1;omega) _).setCell (p:=⟨w.heap.size+1,0,none⟩) (by show _≤w.heap.size+1;omega) _
 case done =>
  rintro D W hD hrd hK;obtain⟨kc,kP,b0,b1,b2,-,bel⟩:=hrd;have c2:=b2.cell;have f2:=b2.frozen;have hno:cY s.data.toList c=[]:=by
   unfold cY;rw[if_neg];rw[←HP.out];omega
  have hwD:=hw0;clear b0 b1;gi_wp2_with fail
  have hk2:=(KeepsOthers.setCell W ⟨w.heap.size+1+1,0,none⟩ (.string ⟨#[]⟩)).same D _ hK rfl;refine⟨by simp,.inl ⟨_,_,rfl,run_takeDeferred hk2,?_⟩⟩;have y2:Boxed (W.setCell ⟨w.heap.size+1+1,0,none⟩ (.string ⟨#[]⟩)) (w.heap.size+1+1) 9 (.string ⟨#[]⟩):=b2.set _;have v2:=(y2.kept (grownBy_putObj' (W.setCell ⟨w.heap.size+1+1,0,none⟩ (.string ⟨#[]⟩)) D (.deferred none)) (fun e=>fN y2 hk2 rfl (Option.some.inj e))).cell;refine⟨.string ⟨#[]⟩,by simp[results,Tryz.results63,go_sem,v2],?_⟩;refine⟨by rw[hno],?_⟩;exact(bel.setCell (p:=⟨w.heap.size+1+1,0,none⟩) (by show _≤w.heap.size+1+1;omega) _).grown (grownBy_putObj' (W.setCell ⟨w.heap.size+1+1,0,none⟩ (.string ⟨#[]⟩)) D (.deferred none)) (by rw[World.size_setCell];exact bel.size) (fun q e=>by cases e;omega)
 case stop =>
  rintro D W hD hrd hK;obtain⟨cP,b2,bel⟩:=hrd;obtain⟨R,hR⟩:∃ R:ByteArray,⟨(cY s.data.toList c).toArray⟩=R:=⟨_,rfl⟩
  rw[hR] at b2;gi_wp2
  refine⟨by simp,.inl ⟨_,_,rfl,run_takeDeferred hK,?_⟩⟩;have v2:(W.putObj D (.deferred none)).cell? ⟨w.heap.size+1+1,0,none⟩=some (.string R):=(b2.kept (grownBy_putObj' W D (.deferred none)) (fun e=>fN b2 hK rfl (Option.some.inj e))).cell;refine⟨.string R,by simp[results,Tryz.results63,go_sem,v2],?_⟩;exact⟨by rw[hR],bel.grown (grownBy_putObj' W D (.deferred none)) bel.size (fun q e=>by cases e;omega)⟩
theorem I8 (r:Sx.Rl)(n:Nat)(s:ByteArray)(w:World)(hr:r.1.length≤1000)(hn:gJ r=n)(h1:1≤n)(h2:n≤900)(hs:s.size≤1000) :
 Calls Tryz.prog 40 #[iL r,.string s] w fun e w'=>e=.returned (.string ⟨(cY s.data.toList n).toArray⟩)∧Below w.heap.size w w':=by
 have HP:=hide (fun W=>MS r W hr);rw[hn] at HP;have HL:=hide (fun W=>J0 s n W _ hs rfl h1 (by omega));have HB0:Hid (∀ o W,Below (w.alloc o).heap.size (w.alloc o) W→Below w.heap.size w W):=hide (fun o W h=>((Below.refl _ w).alloc (Nat.le_refl _) o).trans (h.mono (by simp)));obtain⟨rh,rk,rs⟩:=r;unfold iL at HP ⊢;dsimp only at HP ⊢;obtain⟨X,hX⟩:∃ X:ByteArray,⟨(Sx.aA rh).toArray⟩=X:=⟨_,rfl⟩
 obtain⟨M,hM⟩:∃ M,rh.length=M:=⟨_,rfl⟩
 obtain⟨R,hR⟩:∃ R:ByteArray,⟨(cY s.data.toList n).toArray⟩=R:=⟨_,rfl⟩
 rw[hX,hM] at HP ⊢;rw[hR] at HL ⊢;clear hX hM hR hn hr;go_enter Tryz.func40,Tryz.ntmps40;go_wp2_with fail
 refine(HP.out _).mono ?_;rintro e w1 ⟨rfl,hB1⟩;have HB1:=hide hB1;clear hB1;go_wp2_with fail
 refine(HL.out _).mono ?_;rintro e w2 ⟨rfl,hB2⟩;have HB2:=hide hB2;clear hB2;go_wp2;go_ret;exact⟨rfl,HB0.out _ _ (HB1.out.trans (HB2.out.mono HB1.out.size))⟩
theorem J4 (r:Sx.Rl)(n:Nat)(s:ByteArray)(w:World)(hr:r.1.length≤1000)(hn:gJ r=n)(h1:1≤n)(h2:n≤900)(hs:s.size≤1000) :
 Calls Tryz.prog 41 #[iL r,.string s] w fun e w'=>e=.returned (.string ⟨(cY s.data.toList ((n:Int)+1)).toArray⟩)∧Below w.heap.size w w':=by
 have HP:=hide (fun W=>MS r W hr);rw[hn] at HP;have HL:=hide (fun W=>J0 s (n+1) W _ hs rfl (by omega) (by omega));rw[show((n+1:Nat):Int)=(n:Int)+1 by omega] at HL;have HB0:Hid (∀ o W,Below (w.alloc o).heap.size (w.alloc o) W→Below w.heap.size w W):=hide (fun o W h=>((Below.refl _ w).alloc (Nat.le_refl _) o).trans (h.mono (by simp)));obtain⟨rh,rk,rs⟩:=r;unfold iL at HP ⊢;dsimp only at HP ⊢;obtain⟨X,hX⟩:∃ X:ByteArray,⟨(Sx.aA rh).toArray⟩=X:=⟨_,rfl⟩
 obtain⟨M,hM⟩:∃ M,rh.length=M:=⟨_,rfl⟩
 obtain⟨R,hR⟩:∃ R:ByteArray,⟨(cY s.data.toList ((n:Int)+1)).toArray⟩=R:=⟨_,rfl⟩
 rw[hX,hM] at HP ⊢;rw[hR] at HL ⊢;clear hX hM hR hn hr;go_enter Tryz.func41,Tryz.ntmps41;go_wp2_with fail
 refine(HP.out _).mono ?_;rintro e w1 ⟨rfl,hB1⟩;have HB1:=hide hB1;clear hB1;go_wp2_with fail
 refine(HL.out _).mono ?_;rintro e w2 ⟨rfl,hB2⟩;have HB2:=hide hB2;clear hB2;go_wp2;go_ret;exact⟨rfl,HB0.out _ _ (HB1.out.trans (HB2.out.mono HB1.out.size))⟩
theorem V3 (r:Sx.Rl)(w:World)(hk:Sx.lM r.2.1)(hd:(Sx.aA r.1).length≤100000) :
 Calls Tryz.prog 168 #[iL r] w fun e w'=>e=.returned (.string ⟨(Sx.bG r).toArray⟩)∧Below w.heap.size w w':=by
 obtain⟨h,k,sc⟩:=r;unfold iL Sx.bG;dsimp only at hk hd ⊢;have HB0:Hid (∀ o,Below w.heap.size w (w.alloc o)):=hide (fun o=>(Below.refl _ w).alloc (Nat.le_refl _) o);obtain⟨D,hD⟩:∃ D,Sx.aA h=D:=⟨_,rfl⟩
 rw[hD] at hd ⊢;obtain⟨M,hM⟩:∃ M,h.length=M:=⟨_,rfl⟩
 rw[hM];have hDs:(⟨D.toArray⟩:ByteArray).size≤100000:=hd;have e1:=bF [42,46] D;have e2:=bF [33] D;have e3:=bF [] D;obtain⟨X,hX⟩:∃ X:ByteArray,⟨D.toArray⟩=X:=⟨_,rfl⟩
 rw[hX] at hDs e1 e2 e3 ⊢;clear hD hM hd;rcases hk with rfl | rfl | rfl
 · have HR:=hide e3;have hap:=e3;clear e1 e2 e3;go_enter Tryz.func168,Tryz.ntmps168;go_wp2_with fail
   go_region_with (go_at_call 218;refine(TW _).mono ?_;rintro e w1 ⟨rfl,rfl⟩)
   all_goals
    go_wp2;go_ret;exact⟨by first | rfl | (rw[←HR.out];rfl),by first | exact HB0.out _ | exact(HB0.out _).drew⟩
 · have HR:=hide e1;have hap:=e1;clear e1 e2 e3;go_enter Tryz.func168,Tryz.ntmps168;go_wp2_with fail
   go_region_with (go_at_call 218;refine(wW _).mono ?_;rintro e w1 ⟨rfl,rfl⟩)
   all_goals
    go_wp2;go_ret;exact⟨by first | rfl | (rw[←HR.out];rfl),by first | exact HB0.out _ | exact(HB0.out _).drew⟩
 · have HR:=hide e2;have hap:=e2;clear e1 e2 e3;go_enter Tryz.func168,Tryz.ntmps168;go_wp2_with fail
   go_region_with (go_at_call 218;refine(wG _).mono ?_;rintro e w1 ⟨rfl,rfl⟩)
   all_goals
    go_wp2;go_ret;exact⟨by first | rfl | (rw[←HR.out];rfl),by first | exact HB0.out _ | exact(HB0.out _).drew⟩
end Go.Proofs.YtgohllfpceeboabGreatDoor
