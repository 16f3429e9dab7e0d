import Derived.Test.YtgohllfpceeboabGreatDoorAnah
import Derived.Test.YtgohllfpceeboabGreatDoorAnaf
import Derived.Deep.RegionHeld3
import Derived.Deep.DrawnRows
set_option maxRecDepth 100000
set_option maxHeartbeats 1000000
namespace Go.Proofs.YtgohllfpceeboabGreatDoor
open Go.RowKit
theorem qR (k bias:Int)(w:World)(h1:0≤k)(h2:k≤1000000000)(h3:0≤bias)(h4:bias≤1000000) :
 Calls Tryz.prog 214 #[.int .i64 k,.int .i64 bias] w fun e w'=>e=.returned (.int .i64 (Sx.cE k bias))∧w'=w:=by
 by_cases ha:36*(k+1)-bias<1
 · go_enter Tryz.func214,Tryz.ntmps214;go_wp2;all_goals (try (exfalso;omega))
   go_ret;exact⟨bY (by unfold Sx.cE;rw[if_pos (by omega)]),rfl⟩
 · by_cases hb:26<36*(k+1)-bias
   · go_enter Tryz.func214,Tryz.ntmps214;go_wp2;all_goals (try (exfalso;omega))
     go_ret;exact⟨bY (by unfold Sx.cE;rw[if_neg (by omega),if_pos (by omega)]),rfl⟩
   · go_enter Tryz.func214,Tryz.ntmps214;go_wp2;all_goals (try (exfalso;omega))
     go_ret;exact⟨bY (by unfold Sx.cE;rw[if_neg (by omega),if_neg (by omega)]),rfl⟩
theorem FC (x:Int)(w:World)(h0:0≤x)(h1:x<36) :
 Calls Tryz.prog 234 #[.int .i64 x] w fun e w'=>e=.returned (.int .u8 (Sx.nL x).toNat)∧w'=w:=by
 by_cases h:x<26
 · have hd:((Sx.nL x).toNat:Int)=97+x:=by unfold Sx.nL;rw[if_pos h];simp only[UInt8.toNat_ofNat'];omega
   have HD:=hide hd;clear hd;go_enter Tryz.func234,Tryz.ntmps234;go_wp2;go_ret;exact⟨bY HD.out.symm,rfl⟩
 · have hd:((Sx.nL x).toNat:Int)=48+x-26:=by unfold Sx.nL;rw[if_neg h];simp only[UInt8.toNat_ofNat'];omega
   have HD:=hide hd;clear hd;go_enter Tryz.func234,Tryz.ntmps234;go_wp2;go_ret;exact⟨bY HD.out.symm,rfl⟩
theorem qL (c:UInt8)(w:World) :
 Calls Tryz.prog 213 #[.int .u8 c.toNat] w fun e w'=>e=.returned (.int .i64 (Sx.valOf c))∧w'=w:=by
 have hc:=c.toNat_lt;by_cases h1:97≤c.toNat∧c.toNat≤122
 · have hd:Sx.valOf c=(c.toNat:Int)-97:=by unfold Sx.valOf;rw[if_pos h1]
   have HD:=hide hd;clear hd;obtain⟨h1,h2⟩:=h1;go_enter Tryz.func213,Tryz.ntmps213;go_wp2;all_goals go_ret
   all_goals exact⟨bY HD.out.symm,rfl⟩
 · by_cases h2:48≤c.toNat∧c.toNat≤57
   · have hd:Sx.valOf c=(c.toNat:Int)-48+26:=by unfold Sx.valOf;rw[if_neg h1,if_pos h2];omega
     have HD:=hide hd;clear hd;obtain⟨h2,h3⟩:=h2;have h4:¬ 97≤c.toNat:=by omega
     clear h1;go_enter Tryz.func213,Tryz.ntmps213;go_wp2;all_goals go_ret
     all_goals exact⟨bY HD.out.symm,rfl⟩
   · have hd:Sx.valOf c = -1:=by unfold Sx.valOf;rw[if_neg h1,if_neg h2]
     have HD:=hide hd;clear hd;have H1:=hide h1;have H2:=hide h2;clear h1 h2;by_cases a1:97≤c.toNat
     · have a2:¬ c.toNat≤122:=fun h=>H1.out ⟨a1,h⟩;have a3:¬ c.toNat≤57:=by omega
       go_enter Tryz.func213,Tryz.ntmps213;go_wp2;all_goals go_ret
       all_goals exact⟨bY HD.out.symm,rfl⟩
     · by_cases a2:48≤c.toNat
       · have a3:¬ c.toNat≤57:=fun h=>H2.out ⟨a2,h⟩;go_enter Tryz.func213,Tryz.ntmps213;go_wp2;all_goals go_ret
         all_goals exact⟨bY HD.out.symm,rfl⟩
       · go_enter Tryz.func213,Tryz.ntmps213;go_wp2;all_goals go_ret
         all_goals exact⟨bY HD.out.symm,rfl⟩
theorem QO (d dm l:Int)(w:World)(h1:0≤d)(h2:d≤1000000000000)(hd1:1≤dm)(hd2:dm≤1000)(h3:1≤l)(h4:l≤1000000) :
 Calls Tryz.prog 217 #[.int .i64 d,.int .i64 dm,.int .i64 l] w fun e w'=>e=.returned (.int .i64 (Sx.oP (d / dm) l))∧w'=w:=by
 have k0:0≤d / dm∧d / dm≤d:=⟨Int.ediv_nonneg h1 (by omega),Int.ediv_le_self _ h1⟩
 have k1:0≤d / dm / l∧d / dm / l≤d / dm:=⟨Int.ediv_nonneg k0.1 (by omega),Int.ediv_le_self _ k0.1⟩
 have hne:l≠0:=by omega
 have hne2:dm≠0:=by omega
 go_enter Tryz.func217,Tryz.ntmps217;go_wp2
 go_loop [0,7] (fun x n=>∃ dd nn:Int,x=.int .i64 dd∧n=.int .i64 nn∧0≤dd∧dd≤3000000000000∧0≤nn∧nn+dd≤3000000000000∧Sx.oM dd nn=Sx.oP (d / dm) l) (fun x _=>(intOf x).toNat)
 case atStart=>exact⟨_,_,rfl,rfl,by omega,by omega,by omega,by omega,rfl⟩
 case round =>
  obtain⟨dd,nn,rfl,rfl,g1,g2,g3,g4,g5⟩:=hrel;have G:=hide g5;clear g5;by_cases hlt:455<dd
  · go_wp2
    go_round
    case rel=>exact⟨dd / 35,nn+36,rfl,rfl,by omega,by omega,by omega,by omega,by rw[←Sx.oZ dd nn hlt];exact G.out⟩
    case measure=>simp[intOf];omega
  · have hp:0≤36*dd / (dd+38)∧36*dd / (dd+38)<37:=⟨Int.ediv_nonneg (by omega) (by omega),Int.ediv_lt_of_lt_mul (by omega) (by omega)⟩
    go_wp2;go_ret;exact⟨bY (by rw[←G.out,Sx.pG dd nn (by omega)]),rfl⟩
def Since (w:World)(r0:Option Nat)(v:Value):Prop:=v.ownBlock=r0∨∃ g,v.ownBlock=some g∧w.heap.size≤g
theorem lS (w:World)(r:Option Nat):w.grownBy w r:=⟨rfl,rfl,rfl,Nat.le_refl _,fun _ _ _=>rfl⟩
theorem yI {w wr w1:World}{r0:Option Nat}{v:Value}{o:Obj}(hg:w.grownBy wr r0)(hx:Since w r0 v)(h:(wr.alloc o).grownBy w1 v.ownBlock):w.grownBy w1 r0:=by
 have hs:wr.heap.size≤(wr.alloc o).heap.size:=by simp
 refine⟨h.os.trans hg.os,h.tape.trans hg.tape,h.output.trans hg.output,Nat.le_trans hg.size (Nat.le_trans hs h.size),fun k hk hne=>?_⟩;have hk2:k<wr.heap.size:=Nat.lt_of_lt_of_le hk hg.size;have e1:some k≠v.ownBlock:=by
  rcases hx with hx | ⟨g,hx,hg2⟩
  · rw[hx];exact hne
  · rw[hx];intro e;cases e;omega
 rw[h.block k (by simp;omega) e1,Below.heap_alloc _ _ _ hk2];exact hg.block k hk hne
theorem yO {w wr:World}{r0:Option Nat}{v:Value}{o:Obj}{g n cap:Nat}(hg:w.grownBy wr r0)(hx:Since w r0 v)(hat:v.ownBlock=some g∨g=(wr.alloc o).heap.size):Since w r0 (.slice (some ⟨g,0,none⟩) n cap):=by
 rcases hat with hat | hat
 · rcases hx with hx | ⟨g2,hx,hg2⟩
   · exact .inl (by rw[←hx,hat];rfl)
   · right;refine⟨g,rfl,?_⟩;rw[hat] at hx;cases hx;exact hg2
 · right;refine⟨g,rfl,?_⟩;have:=hg.size;simp at hat;omega
theorem UO (bs:List UInt8)(B:Nat)(v:Value)(d bias:Int)(w:World)(hB:B≤w.heap.size)(ho:w.ownsRow B 5 1 v bs.length (dO bs))(hbs:bs.length≤100000000000)(h1:0≤d)(h2:d≤113000000)(h3:0≤bias)(h4:bias≤1000000) :
 Calls Tryz.prog 189 #[v,.int .i64 d,.int .i64 bias] w fun e w'=>∃ v',e=.returned v'∧w'.ownsRow B 5 1 v' (bs++Sx.iH d 0 bias).length (dO (bs++Sx.iH d 0 bias))∧w.grownBy w' v.ownBlock∧Since w v.ownBlock v':=by
 obtain⟨i0,hi,hz0,hz1,hz2⟩:=info_parts Tryz.info5;go_enter Tryz.func189,Tryz.ntmps189;go_wp2
 go_loopw [0,1,7] (fun x n kk wr=>∃ (dd:Int) (k:Nat) (pre:List UInt8),n=.int .i64 dd∧kk=.int .i64 k∧0≤dd∧dd+k≤113000000∧pre.length≤100000000000+k∧pre++Sx.iH dd k bias=bs++Sx.iH d 0 bias∧wr.ownsRow B 5 1 x pre.length (dO pre)∧w.grownBy wr v.ownBlock∧Since w v.ownBlock x) (fun _ n _ _=>(intOf n).toNat)
 case atStart=>exact⟨d,0,bs,rfl,rfl,by omega,by omega,by omega,rfl,ho,lS _ _,.inl rfl⟩
 case round =>
  obtain⟨dd,k,pre,rfl,rfl,g1,g2,g3,g5,hown,hgr,hsi⟩:=hrel;have G:=hide g5;clear g5 ho;have hsz:=hgr.size;have t1:=Sx.eP k bias;have t2:=Sx.fP k bias;obtain⟨t,ht⟩:∃ t,Sx.cE k bias=t:=⟨_,rfl⟩
  have HT:=hide ht;by_cases hlt:Sx.cE k bias≤dd
  · have hs:=Sx.lP dd _ t1 t2 hlt;have hr:0≤(dd-Sx.cE k bias) % (36-Sx.cE k bias)∧(dd-Sx.cE k bias) % (36-Sx.cE k bias)<36-Sx.cE k bias:=⟨Int.emod_nonneg _ (by omega),Int.emod_lt_of_pos _ (by omega)⟩
    rw[ht] at t1 t2 hlt hs hr;clear ht;obtain⟨c,hc⟩:∃ c,Sx.nL (t+(dd-t) % (36-t))=c:=⟨_,rfl⟩
    have HC:=hide hc;clear hc;have hcl:=c.toNat_lt;go_wp2_with (first | (go_at_call 214;go_must (refine(qR _ _ _ (by omega) (by omega) (by omega) (by omega)).mono ?_;rintro e w' ⟨rfl,rfl⟩;rw[HT.out])) | (go_at_call 234;go_must (refine(FC _ _ (by omega) (by omega)).mono ?_;rintro e w' ⟨rfl,rfl⟩;rw[HC.out])) | (at_builtin;go_must (refine wpList_append_lies _ rfl _ _ _ rfl B 5 i0 (.int .u8 0) 1 1 Tryz.underlying90 hi hz0 hz1 hz2 rfl (by decide) _ _ _ rfl (hown.alloc _) ⟨_,0,none⟩ 1 1 [.int .u8 c.toNat] rfl rfl (cell_one_new _ _ _) (by simp[Value.oneCell']) (by omega) (by unfold maxLen;omega) (by omega) (by simp;omega) _ rfl ?_;intro g cap w1 hown1 hgrow hat hlt1)))
    refine⟨⟨(dd-t) / (36-t),k+1,pre++[c],rfl,by go_num,by omega,by omega,by simp;omega,?_,?_,yI hgr hsi hgrow,yO hgr hsi hat⟩,by simp[intOf];omega⟩
    · rw[←G.out,Sx.jA dd k bias g1 (by rw[HT.out];exact hlt),HT.out,HC.out];simp
    · rw[eQ,List.length_append];exact hown1
  · rw[ht] at t1 t2 hlt;clear ht;obtain⟨c,hc⟩:∃ c,Sx.nL dd=c:=⟨_,rfl⟩
    have HC:=hide hc;clear hc;have hcl:=c.toNat_lt;have hfin:bs++Sx.iH d 0 bias=pre++[c]:=by rw[←G.out,Sx.fD dd k bias (by rw[HT.out];exact hlt),HC.out]
    have HFIN:=hide hfin;clear hfin;go_wp2_with (first | (go_at_call 214;go_must (refine(qR _ _ _ (by omega) (by omega) (by omega) (by omega)).mono ?_;rintro e w' ⟨rfl,rfl⟩;rw[HT.out])) | (go_at_call 234;go_must (refine(FC _ _ (by omega) (by omega)).mono ?_;rintro e w' ⟨rfl,rfl⟩;rw[HC.out])) | (at_builtin;go_must (refine wpList_append_lies _ rfl _ _ _ rfl B 5 i0 (.int .u8 0) 1 1 Tryz.underlying90 hi hz0 hz1 hz2 rfl (by decide) _ _ _ rfl (hown.alloc _) ⟨_,0,none⟩ 1 1 [.int .u8 c.toNat] rfl rfl (cell_one_new _ _ _) (by simp[Value.oneCell']) (by omega) (by unfold maxLen;omega) (by omega) (by simp;omega) _ rfl ?_;intro g cap w1 hown1 hgrow hat hlt1)))
    go_ret;refine⟨.slice (some ⟨g,0,none⟩) (pre.length+1) cap,rfl,?_,yI hgr hsi hgrow,yO hgr hsi hat⟩;rw[HFIN.out,eQ,List.length_append];exact hown1
theorem PL (s:ByteArray)(bias most:Int)(w:World)(hs:s.size≤1000)(h3:0≤bias)(h4:bias≤1000000)(h5:0≤most)(h6:most≤1000000000) :
 Calls Tryz.prog 162 #[.string s,.int .i64 bias,.int .i64 most] w fun e w'=>e=.returned (.tuple #[.int .i64 (Sx.zZ bias most 0 1 0 s.data.toList).1,.int .i64 (Sx.zZ bias most 0 1 0 s.data.toList).2])∧w'=w:=by
 obtain⟨R,hR⟩:∃ R,Sx.zZ bias most 0 1 0 s.data.toList=R:=⟨_,rfl⟩
 rw[hR];have HR:=hide hR;clear hR;go_enter Tryz.func162,Tryz.ntmps162;go_wp2
 go_loop [6,8,14] (fun n ww kk=>∃ (k:Nat) (d wt:Int),n=.int .i64 d∧ww=.int .i64 wt∧kk=.int .i64 k∧k≤s.size∧0≤d∧d≤most∧1≤wt∧wt≤36*(most+1)∧Sx.zZ bias most d wt k (s.data.toList.drop k)=R) (fun _ _ kk=>(s.size-intOf kk).toNat)
 case atStart=>exact⟨0,0,1,rfl,rfl,rfl,by omega,by omega,by omega,by omega,by omega,by rw[List.drop_zero];exact HR.out⟩
 case round =>
  obtain⟨k,d,wt,rfl,rfl,rfl,hk,hd0,hd1,hw0,hw1,hq⟩:=hrel;have HQ:=hide hq;clear hq;by_cases hlt:k<s.size
  · have hlt2:k<s.data.toList.length:=by rw[aC];exact hlt
    have hby:=byte_at s k hlt hlt2;have HBY:=hide hby;have hvb:=Sx.wT s[k];obtain⟨v,hv⟩:∃ v,Sx.valOf s[k]=v:=⟨_,rfl⟩
    rw[hv] at hvb;have HV:=hide hv;have t1:=Sx.eP k bias;have t2:=Sx.fP k bias;obtain⟨t,ht⟩:∃ t,Sx.cE k bias=t:=⟨_,rfl⟩
    rw[ht] at t1 t2;have HT:=hide ht;have hq0:0≤(most-d) / wt∧(most-d) / wt≤most-d:=⟨Int.ediv_nonneg (by omega) (by omega),Int.ediv_le_self _ (by omega)⟩
    have hne:wt≠0:=by omega
    clear hv ht hby;by_cases hvn:v<0
    · have hfin:R=(0,0):=by rw[←HQ.out];exact Sx.VZ _ _ _ _ _ _ k hlt2 (.inl (by rw[HBY.out,HV.out];exact hvn))
      have HF:=hide hfin;clear hfin;go_wp2_with (go_at_call 213;go_must (refine(qL _ _).mono ?_;rintro e w' ⟨rfl,rfl⟩;rw[HV.out]))
      go_ret2;exact⟨by rw[HF.out];rfl,rfl⟩
    · by_cases hvq:(most-d) / wt<v
      · have hfin:R=(0,0):=by rw[←HQ.out];exact Sx.VZ _ _ _ _ _ _ k hlt2 (.inr (by rw[HBY.out,HV.out];exact hvq))
        have HF:=hide hfin;clear hfin;have hd:decide (v<0)=false:=by simpa using hvn
        go_wp2_with (go_at_call 213;go_must (refine(qL _ _).mono ?_;rintro e w' ⟨rfl,rfl⟩;rw[HV.out]))
        go_ret2;exact⟨by rw[HF.out];rfl,rfl⟩
      · have hprod:v*wt≤most-d:=(Int.le_ediv_iff_mul_le (by omega)).1 (by omega);have hprod0:0≤v*wt:=Int.mul_nonneg (by omega) (by omega);have hd:decide (v<0)=false:=by simpa using hvn
        by_cases hvt:v<t
        · have hfin:R=(d+v*wt,(k:Int)+1):=by rw[←HQ.out,Sx.UZ _ _ _ _ _ _ k hlt2 (by rw[HBY.out,HV.out];omega) (by rw[HBY.out,HV.out,HT.out];exact hvt),HBY.out,HV.out]
          have HF:=hide hfin;clear hfin;go_wp2_with (first | (go_at_call 213;go_must (refine(qL _ _).mono ?_;rintro e w' ⟨rfl,rfl⟩;rw[HV.out])) | (go_at_call 214;go_must (refine(qR _ _ _ (by omega) (by omega) (by omega) (by omega)).mono ?_;rintro e w' ⟨rfl,rfl⟩;rw[HT.out])))
          go_ret2;exact⟨by rw[HF.out];rfl,rfl⟩
        · have hw2:wt≤v*wt:=by
           have:1*wt≤v*wt:=Int.mul_le_mul_of_nonneg_right (by omega) (by omega);omega
          have hw3:wt*(36-t)≤wt*35:=Int.mul_le_mul_of_nonneg_left (by omega) (by omega);have hw4:wt*1≤wt*(36-t):=Int.mul_le_mul_of_nonneg_left (by omega) (by omega);have hfin:Sx.zZ bias most (d+v*wt) (wt*(36-t)) (k+1) (s.data.toList.drop (k+1))=R:=by
           rw[←HQ.out,Sx.VC _ _ _ _ _ _ k hlt2 (by rw[HBY.out,HV.out];omega) (by rw[HBY.out,HV.out,HT.out];exact hvt),HBY.out,HV.out,HT.out]
          have HF:=hide hfin;clear hfin;go_wp2_with (first | (go_at_call 213;go_must (refine(qL _ _).mono ?_;rintro e w' ⟨rfl,rfl⟩;rw[HV.out])) | (go_at_call 214;go_must (refine(qR _ _ _ (by omega) (by omega) (by omega) (by omega)).mono ?_;rintro e w' ⟨rfl,rfl⟩;rw[HT.out])))
          exact⟨⟨k+1,_,_,rfl,rfl,by go_num,by omega,by omega,by omega,by omega,by omega,HF.out⟩,by simp[intOf];omega⟩
  · have hfin:R=(0,0):=by rw[←HQ.out];exact Sx.E2 _ _ _ _ _ _ k (by rw[aC];omega)
    have HF:=hide hfin;clear hfin;go_wp2;go_ret2;exact⟨by rw[HF.out];rfl,rfl⟩
structure RowAt (w:World) (b:Nat) (n i L bias dm:Int):Prop where
 lt:b<w.heap.size
 c0:w.cell? ⟨b,0,none⟩=some (.int .i64 n)
 c1:w.cell? ⟨b,1,none⟩=some (.int .i64 i)
 c2:w.cell? ⟨b,2,none⟩=some (.int .i64 L)
 c3:w.cell? ⟨b,3,none⟩=some (.int .i64 bias)
 c4:w.cell? ⟨b,4,none⟩=some (.int .i64 dm)
 fz:∀ j,w.frozen? ⟨b,j,none⟩=false
theorem RowAt.below {w w':World}{b B:Nat}{n i L bias dm:Int}(h:RowAt w b n i L bias dm)(hb:Below B w w')(hlt:b<B):RowAt w' b n i L bias dm :=
 ⟨Nat.lt_of_lt_of_le h.lt hb.size,(hb.cell (p:=⟨b,0,none⟩) hlt).trans h.c0,(hb.cell (p:=⟨b,1,none⟩) hlt).trans h.c1,(hb.cell (p:=⟨b,2,none⟩) hlt).trans h.c2,(hb.cell (p:=⟨b,3,none⟩) hlt).trans h.c3,(hb.cell (p:=⟨b,4,none⟩) hlt).trans h.c4,fun j=>(hb.frozen (p:=⟨b,j,none⟩) hlt).trans (h.fz j)⟩
theorem RowAt.set0 {w:World}{b:Nat}{n i L bias dm:Int}(h:RowAt w b n i L bias dm)(x:Int):RowAt (w.setCell ⟨b,0,none⟩ (.int .i64 x)) b x i L bias dm :=
 ⟨by rw[World.size_setCell];exact h.lt,World.cell?_setCell_same _ _ _ h.c0,(World.cell?_setCell_other _ _ _ _ (by simp)).trans h.c1,(World.cell?_setCell_other _ _ _ _ (by simp)).trans h.c2,(World.cell?_setCell_other _ _ _ _ (by simp)).trans h.c3,(World.cell?_setCell_other _ _ _ _ (by simp)).trans h.c4,fun j=>(World.frozen?_setCell ..).trans (h.fz j)⟩
theorem RowAt.set1 {w:World}{b:Nat}{n i L bias dm:Int}(h:RowAt w b n i L bias dm)(x:Int):RowAt (w.setCell ⟨b,1,none⟩ (.int .i64 x)) b n x L bias dm :=
 ⟨by rw[World.size_setCell];exact h.lt,(World.cell?_setCell_other _ _ _ _ (by simp)).trans h.c0,World.cell?_setCell_same _ _ _ h.c1,(World.cell?_setCell_other _ _ _ _ (by simp)).trans h.c2,(World.cell?_setCell_other _ _ _ _ (by simp)).trans h.c3,(World.cell?_setCell_other _ _ _ _ (by simp)).trans h.c4,fun j=>(World.frozen?_setCell ..).trans (h.fz j)⟩
theorem RowAt.set2 {w:World}{b:Nat}{n i L bias dm:Int}(h:RowAt w b n i L bias dm)(x:Int):RowAt (w.setCell ⟨b,2,none⟩ (.int .i64 x)) b n i x bias dm :=
 ⟨by rw[World.size_setCell];exact h.lt,(World.cell?_setCell_other _ _ _ _ (by simp)).trans h.c0,(World.cell?_setCell_other _ _ _ _ (by simp)).trans h.c1,World.cell?_setCell_same _ _ _ h.c2,(World.cell?_setCell_other _ _ _ _ (by simp)).trans h.c3,(World.cell?_setCell_other _ _ _ _ (by simp)).trans h.c4,fun j=>(World.frozen?_setCell ..).trans (h.fz j)⟩
theorem RowAt.set3 {w:World}{b:Nat}{n i L bias dm:Int}(h:RowAt w b n i L bias dm)(x:Int):RowAt (w.setCell ⟨b,3,none⟩ (.int .i64 x)) b n i L x dm :=
 ⟨by rw[World.size_setCell];exact h.lt,(World.cell?_setCell_other _ _ _ _ (by simp)).trans h.c0,(World.cell?_setCell_other _ _ _ _ (by simp)).trans h.c1,(World.cell?_setCell_other _ _ _ _ (by simp)).trans h.c2,World.cell?_setCell_same _ _ _ h.c3,(World.cell?_setCell_other _ _ _ _ (by simp)).trans h.c4,fun j=>(World.frozen?_setCell ..).trans (h.fz j)⟩
theorem RowAt.set4 {w:World}{b:Nat}{n i L bias dm:Int}(h:RowAt w b n i L bias dm)(x:Int):RowAt (w.setCell ⟨b,4,none⟩ (.int .i64 x)) b n i L bias x :=
 ⟨by rw[World.size_setCell];exact h.lt,(World.cell?_setCell_other _ _ _ _ (by simp)).trans h.c0,(World.cell?_setCell_other _ _ _ _ (by simp)).trans h.c1,(World.cell?_setCell_other _ _ _ _ (by simp)).trans h.c2,(World.cell?_setCell_other _ _ _ _ (by simp)).trans h.c3,World.cell?_setCell_same _ _ _ h.c4,fun j=>(World.frozen?_setCell ..).trans (h.fz j)⟩
theorem aV {w w1:World}{b:Nat}(h:w.grownBy w1 (some b))(o:Nat)(v:Value):w.grownBy (w1.setCell ⟨b,o,none⟩ v) (some b) :=
 ⟨h.os,h.tape,h.output,by rw[World.size_setCell];exact h.size,fun k hk hne=>by
   rw[heap_setCell_other _ _ _ _ (fun e=>hne (by rw[e]))];exact h.block k hk hne⟩
theorem grown_below {w w1:World}{B:Nat}{r:Option Nat}(h:Below B w w1)(hB:w.heap.size≤B):w.grownBy w1 r:=⟨h.os,h.tape,h.output,h.size,fun k hk _=>h.block k (by omega)⟩
theorem grown_drew {w w1:World}{r:Option Nat}(h:w.grownBy w1 r):w.grownBy w1.drew r:=⟨h.os,h.tape,h.output,h.size,h.block⟩
theorem RowAt.drew {w:World}{b:Nat}{n i L bias dm:Int}(h:RowAt w b n i L bias dm):RowAt w.drew b n i L bias dm:=⟨h.lt,h.c0,h.c1,h.c2,h.c3,h.c4,h.fz⟩
theorem QC (b:Nat)(n i L bias dm:Int)(w:World)(hR:RowAt w b n i L bias dm)(h0:128≤n)(h1:n≤1114111)(h2:0≤L)(h3:L≤1000) :
 Calls Tryz.prog 163 #[.pointer (some ⟨b,0,none⟩)] w fun e w'=>e=.returned (.int .i64 ((1114112-n)*(L+1)))∧∃ q,w'=w.drewN q:=by
 have hp0:0≤(1114112-n)*(L+1):=Int.mul_nonneg (by omega) (by omega);have hp1:(1114112-n)*(L+1)≤1114112*(L+1):=Int.mul_le_mul_of_nonneg_right (by omega) (by omega);obtain⟨hlt,c0,c1,c2,c3,c4,fz⟩:=hR;go_enter Tryz.func163,Tryz.ntmps163;go_wp2;go_quiet ((fail))
 go_wp2;go_ret;exact⟨rfl,_,rfl⟩
theorem zX (b:Nat)(n i L bias dm m j:Int)(w:World)(hR:RowAt w b n i L bias dm)(h0:128≤n)(h1:n≤1114111)(h2:0≤L)(h3:L≤1000)(h4 : -1≤i)(h5:i≤1000)(h6:n≤m)(h7:m≤1114111)(h8:0≤j)(h9:j≤1000) :
 Calls Tryz.prog 190 #[.pointer (some ⟨b,0,none⟩),.agg #[.int .i64 m,.int .i64 j]] w fun e w'=>e=.returned (.int .i64 ((m-n)*(L+1)+j-(i+1)))∧Below w.heap.size w w':=by
 have hp0:0≤(m-n)*(L+1):=Int.mul_nonneg (by omega) (by omega);have hp1:(m-n)*(L+1)≤1114112*(L+1):=Int.mul_le_mul_of_nonneg_right (by omega) (by omega);obtain⟨hlt,c0,c1,c2,c3,c4,fz⟩:=hR;go_enter Tryz.func190,Tryz.ntmps190;go_wp2;go_quiet ((fail))
 go_wp2;go_ret;exact⟨rfl,Go.below_drewN ((Below.refl _ _).alloc (Nat.le_refl _) _) _⟩
theorem DF (L:Int)(w:World) :
 Calls Tryz.prog 161 #[.int .i64 L] w fun e w'=>e=.returned (.agg #[.int .i64 128,.int .i64 (-1),.int .i64 L,.int .i64 72,.int .i64 700])∧Below w.heap.size w w':=by
 go_enter Tryz.func161,Tryz.ntmps161;go_wp2;exact bodyPost_ret (v:=.agg #[.int .i64 128,.int .i64 (-1),.int .i64 L,.int .i64 72,.int .i64 700]) (by simp[results,Tryz.results161,go_sem]) rfl ⟨rfl,(Below.refl _ _).alloc (Nat.le_refl _) _⟩
theorem CQ (b:Nat)(n i L bias dm d:Int)(w:World)(hR:RowAt w b n i L bias dm)(h0:128≤n)(h1:n≤1114111)(h2:0≤L)(h3:L≤1000)(h4 : -1≤i)(h5:i≤1000)(h6:0≤d)(h7:d≤10000000000) :
 Calls Tryz.prog 164 #[.pointer (some ⟨b,0,none⟩),.int .i64 d] w fun e w'=>e=.returned (.agg #[.int .i64 (n+(i+1+d) / (L+1)),.int .i64 ((i+1+d) % (L+1))])∧Below w.heap.size w w':=by
 have hq0:0≤(i+1+d) / (L+1)∧(i+1+d) / (L+1)≤i+1+d:=⟨Int.ediv_nonneg (by omega) (by omega),Int.ediv_le_self _ (by omega)⟩
 have hne:L+1≠0:=by omega
 obtain⟨hlt,c0,c1,c2,c3,c4,fz⟩:=hR;have hn0:=World.new_ne w ⟨b,0,none⟩ c0;have hw1:IntKind.i64.wrap (L+1)=L+1:=by rw[IntWalk.i64_left];exact IntWalk.wrap64_in _ (by omega)
 have hwq:IntKind.i64.wrap ((i+1+d).tdiv (L+1))=(i+1+d) / (L+1):=IntWalk.i64_quo _ _ (by omega);have hws:IntKind.i64.wrap (n+(i+1+d) / (L+1))=n+(i+1+d) / (L+1):=by rw[IntWalk.i64_left];exact IntWalk.wrap64_in _ (by omega)
 have hwm:(i+1+d).tmod (L+1)=(i+1+d) % (L+1):=Int.tmod_eq_emod_of_nonneg (by omega);have hz:(L+1 == 0)=false:=by simpa using hne
 go_enter Tryz.func164,Tryz.ntmps164;go_wp2;go_region_held3 (fun w'=>w'.cell? ⟨b,0,none⟩=some (.int .i64 n)∧w'.cell? ⟨b,2,none⟩=some (.int .i64 L)) (go_keep) (fail)
 go_wp2;exact bodyPost_ret (v:=.agg #[.int .i64 (n+(i+1+d) / (L+1)),.int .i64 ((i+1+d) % (L+1))]) (by simp[results,Tryz.results164,go_sem]) rfl ⟨rfl,((Below.refl _ _).alloc (Nat.le_refl _) _).drew⟩
theorem U0 {W:World}{b:Nat}{x v4 v2:Value}(c4:W.cell? ⟨b,4,none⟩=some v4)(c2:W.cell? ⟨b,2,none⟩=some v2):(W.setCell ⟨b,3,none⟩ x).drew.cell? ⟨b,4,none⟩=some v4∧(W.setCell ⟨b,3,none⟩ x).drew.cell? ⟨b,2,none⟩=some v2:=by
 constructor
 · show(W.setCell ⟨b,3,none⟩ x).cell? ⟨b,4,none⟩=some v4;exact(World.cell?_setCell_other _ _ _ _ (by simp)).trans c4
 · show(W.setCell ⟨b,3,none⟩ x).cell? ⟨b,2,none⟩=some v2;exact(World.cell?_setCell_other _ _ _ _ (by simp)).trans c2
theorem EB (w w1:World)(c d:Value)(t:TypeId)(h:Below (w.heap.size+1) (w.alloc (.cells #[c,d] t)) w1):w1.cell? ⟨w.heap.size,0,none⟩=some c∧w1.cell? ⟨w.heap.size,1,none⟩=some d:=by
 constructor
 · rw[h.cell (p:=⟨w.heap.size,0,none⟩) (by simp),World.cell?_alloc_mark];rfl
 · rw[h.cell (p:=⟨w.heap.size,1,none⟩) (by simp),World.cell?_alloc_mark];rfl
theorem zB (b:Nat)(n i L bias dm m j:Int)(w:World)(hR:RowAt w b n i L bias dm)(h0:128≤n)(h1:n≤1114111)(h2:0≤L)(h3:L≤100)(h4 : -1≤i)(h5:i≤1000)(h6:n≤m)(h7:m≤1114111)(h8:0≤j)(h9:j≤1000)(hD:0≤(m-n)*(L+1)+j-(i+1))(hdm:1≤dm)(hdm2:dm≤1000) :
 Calls Tryz.prog 167 #[.pointer (some ⟨b,0,none⟩),.agg #[.int .i64 m,.int .i64 j]] w fun e w'=>(∃ v,e=.returned v)∧RowAt w' b m j (L+1) (Sx.oP (((m-n)*(L+1)+j-(i+1)) / dm) (L+1)) 2∧w.grownBy w' (some b):=by
 have hp1:(m-n)*(L+1)≤1114112*(L+1):=Int.mul_le_mul_of_nonneg_right (by omega) (by omega);have hR2:RowAt (w.alloc (.cells #[.int .i64 m,.int .i64 j] 234)) b n i L bias dm:=hR.below ((Below.refl _ _).alloc (Nat.le_refl _) _) hR.lt;have hlt:=hR.lt;have hpass:=zX b n i L bias dm m j _ hR2 h0 h1 h2 (by omega) h4 h5 h6 h7 h8 h9;have HPASS:=hide hpass;have HR2:=hide hR2;have HR:=hide hR;clear hpass hR2 hR;go_enter Tryz.func167,Tryz.ntmps167;go_wp2_with fail
 refine HPASS.out.mono ?_;rintro e w1 ⟨rfl,hB⟩;have hR3:=HR2.out.below hB (by simp;omega);rw[World.size_alloc] at hB;obtain⟨hn0,hn1⟩:=EB w w1 _ _ _ hB;have hszz:=hB.size;have hRW:=((hR3.set0 m).set1 j).set2 (L+1);have hgW:w.grownBy (((w1.setCell ⟨b,0,none⟩ (.int .i64 m)).setCell ⟨b,1,none⟩ (.int .i64 j)).setCell ⟨b,2,none⟩ (.int .i64 (L+1))) (some b):=aV (aV (aV (grown_below (((Below.refl _ _).alloc (Nat.le_refl _) _).trans (hB.mono (by omega))) (Nat.le_refl _)) _ _) _ _) _ _;have HRW:=hide hRW;have HGW:=hide hgW;clear hRW hgW;obtain⟨hlt1,c0,c1,c2,c3,c4,fz⟩:=hR3;obtain⟨D,hDD⟩:∃ D,(m-n)*(L+1)+j-(i+1)=D:=⟨_,rfl⟩
 rw[hDD] at hD;rw[hDD];have hD2:D≤1000000000:=by omega
 have hneb:w.heap.size≠b:=by omega
 have hneb2:b≠w.heap.size:=by omega
 have HDD:=hide hDD;clear hDD hp1;go_wp2;clear c0 c1 c2 c3 c4 fz hn0 hn1 hB hszz hlt1;generalize (((w1.setCell ⟨b,0,none⟩ (.int .i64 m)).setCell ⟨b,1,none⟩ (.int .i64 j)).setCell ⟨b,2,none⟩ (.int .i64 (L+1)))=W at HRW HGW ⊢;obtain⟨hltW,c0,c1,c2,c3,c4,fz⟩:=HRW.out;go_region_held3 (fun w'=>w'.cell? ⟨b,4,none⟩=some (.int .i64 dm)∧w'.cell? ⟨b,2,none⟩=some (.int .i64 (L+1))) (first | exact U0 c4 c2 | go_keep) ((go_at_call 217;refine(QO D dm (L+1) _ (by omega) (by omega) (by omega) (by omega) (by omega) (by omega)).mono ?_;rintro e w' ⟨rfl,rfl⟩))
 go_wp2;go_end0;exact⟨⟨_,rfl⟩,by rw[HDD.out];exact((HRW.out.set3 _).set4 2).drew,grown_drew (aV (aV HGW.out _ _) _ _)⟩
theorem uJ (x:Int)(w:World):Calls Tryz.prog 254 #[.int .i64 x] w fun e w'=>e=.returned (.bool false)∧w'=w:=by
 go_enter Tryz.func254,Tryz.ntmps254;go_wp2;go_ret;exact⟨rfl,rfl⟩
def jW (x y:Int):Int:=if x<y then -1 else if y<x then 1 else 0
theorem YL (x y:Int)(w:World):Calls Tryz.prog 247 #[.int .i64 x,.int .i64 y] w fun e w'=>e=.returned (.int .i64 (jW x y))∧w'=w:=by
 by_cases h1:x<y
 · have hf:jW x y = -1:=by unfold jW;rw[if_pos h1]
   have HF:=hide hf;clear hf;go_enter Tryz.func247,Tryz.ntmps247;go_wp2_with (go_at_call 254;go_must (refine(uJ _ _).mono ?_;rintro e w' ⟨rfl,rfl⟩))
   go_ret;exact⟨bY HF.out.symm,rfl⟩
 · by_cases h2:y<x
   · have hf:jW x y=1:=by unfold jW;rw[if_neg h1,if_pos h2]
     have HF:=hide hf;clear hf;go_enter Tryz.func247,Tryz.ntmps247;go_wp2_with (go_at_call 254;go_must (refine(uJ _ _).mono ?_;rintro e w' ⟨rfl,rfl⟩))
     go_ret;exact⟨bY HF.out.symm,rfl⟩
   · have hf:jW x y=0:=by unfold jW;rw[if_neg h1,if_neg h2]
     have HF:=hide hf;clear hf;go_enter Tryz.func247,Tryz.ntmps247;go_wp2_with (go_at_call 254;go_must (refine(uJ _ _).mono ?_;rintro e w' ⟨rfl,rfl⟩))
     go_ret;exact⟨bY HF.out.symm,rfl⟩
theorem pS (m j m2 j2:Int)(w:World):Calls Tryz.prog 233 #[.agg #[.int .i64 m,.int .i64 j],.agg #[.int .i64 m2,.int .i64 j2]] w fun e w'=>e=.returned (.int .i64 (jW m m2))∧Below w.heap.size w w':=by
 go_enter Tryz.func233,Tryz.ntmps233;go_wp2_with (go_at_call 247;go_must (refine(YL _ _ _).mono ?_;rintro e w' ⟨rfl,rfl⟩))
 go_ret;exact⟨rfl,((Below.refl _ _).alloc (Nat.le_refl _) _).alloc (by simp) _⟩
end Go.Proofs.YtgohllfpceeboabGreatDoor
