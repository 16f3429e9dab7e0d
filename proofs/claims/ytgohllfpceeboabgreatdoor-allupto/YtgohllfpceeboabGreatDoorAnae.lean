import Derived.Test.YtgohllfpceeboabGreatDoorAnac
set_option maxRecDepth 100000
set_option maxHeartbeats 2000000
namespace Go.Proofs.YtgohllfpceeboabGreatDoor
open Go.RowKit
theorem I7 (c:Int)(h:c<128):Sx.fV c=[UInt8.ofNat c.toNat]:=by unfold Sx.fV;rw[if_pos h]
theorem H9 (c:Int)(h:128≤c)(h2:c<2048):Sx.fV c=[UInt8.ofNat (192+c / 64).toNat,UInt8.ofNat (128+c % 64).toNat]:=by unfold Sx.fV;rw[if_neg (by omega),if_pos h2]
theorem I9 (c:Int)(h:2048≤c)(h2:c<65536):Sx.fV c=[UInt8.ofNat (224+c / 4096).toNat,UInt8.ofNat (128+c / 64 % 64).toNat,UInt8.ofNat (128+c % 64).toNat]:=by unfold Sx.fV;rw[if_neg (by omega),if_neg (by omega),if_pos h2]
theorem H8 (c:Int)(h:65536≤c):Sx.fV c=[UInt8.ofNat (240+c / 262144).toNat,UInt8.ofNat (128+c / 4096 % 64).toNat,UInt8.ofNat (128+c / 64 % 64).toNat,UInt8.ofNat (128+c % 64).toNat]:=by unfold Sx.fV;rw[if_neg (by omega),if_neg (by omega),if_neg (by omega)]
theorem lO {w1:World}{B:Nat}{v:Value}{l:List Int}{k m:Nat}{c:Int}{news:List Value}(hlt:k<l.length)(hc:l[k]=c)(hu:dO (Sx.fV c)=news)(hm:(Sx.fV c).length=m)
 (h:w1.ownsRow B 5 1 v ((Sx.text (l.take k)).length+m) (dO (Sx.text (l.take k))++news)):w1.ownsRow B 5 1 v (Sx.text (l.take (k+1))).length (dO (Sx.text (l.take (k+1)))):=by
 rw[Sx.take_snoc l k hlt,Sx.zD,hc,eQ,hu,List.length_append,hm];exact h
theorem vD (l:List Int)(b off cap:Nat)(w:World)(hl:l.length≤1000)(hb:b<w.heap.size)
 (hr:∀ j (h:j<l.length),w.cell? ⟨b,off+j,none⟩=some (.int .i64 l[j])) (hv:∀ c∈l,0≤c∧c≤1114111) :
 Calls Tryz.prog 150 #[.slice (some ⟨b,off,none⟩) l.length cap] w fun e w'=>e=.returned (.string ⟨(Sx.text l).toArray⟩)∧Below w.heap.size w w':=by
 obtain⟨i0,hi,hz0,hz1,hz2⟩:=info_parts Tryz.info5;go_enter Tryz.func150,Tryz.ntmps150;go_wp2
 go_loopw [3,4] (fun x n wr=>∃ (k:Nat),n=.int .i64 k∧k≤l.length∧wr.ownsRow w.heap.size 5 1 x (Sx.text (l.take k)).length (dO (Sx.text (l.take k)))∧Below w.heap.size w wr) (fun _ n _=>(l.length-intOf n).toNat)
 case atStart=>exact⟨0,rfl,by omega,by simpa[Sx.text,dO] using World.ownsRow_nil w _ 5 1,Below.refl _ _⟩
 case round =>
  obtain⟨k,rfl,hk,hown,hB⟩:=hrel;have hsz:=hB.size;by_cases hlt:k<l.length
  · have hcell:wr.cell? ⟨b,off+k,none⟩=some (.int .i64 l[k]):=(hB.cell (p:=⟨b,off+k,none⟩) hb).trans (hr k hlt);have hvk:=hv l[k] (List.getElem_mem hlt);have hlen:=Sx.lC (l.take k);have hlen2:(l.take k).length≤k:=List.length_take_le _ _;obtain⟨c,hcc⟩:∃ c,l[k]=c:=⟨_,rfl⟩
    rw[hcc] at hcell hvk;have HC:=hide hcc;clear hcc hr hv;by_cases c1:c<128
    · go_wp2_with (at_builtin;go_must (refine wpList_append_lies _ rfl _ _ _ rfl w.heap.size 5 i0 (.int .u8 0) 1 1 Tryz.underlying90 hi hz0 hz1 hz2 rfl (by decide) _ _ _ rfl (hown.alloc _) ⟨wr.heap.size,0,none⟩ 1 1 [.int .u8 c] rfl rfl (cell_one_new _ _ _) (by simp[Value.oneCell']) (by omega) (by unfold maxLen;omega) (by omega) (by simp;omega) _ rfl ?_;intro g cap w1 hown1 hgrow hat hlt1))
      exact⟨⟨k+1,by go_num,by omega,lO hlt HC.out (by rw[I7 c c1,dO,List.map_cons,List.map_nil,←gI c (by omega) (by omega)]) (by rw[I7 c c1];rfl) hown1,aH hB hsz hown hgrow⟩,by simp[intOf];omega⟩
    · by_cases c2:c<2048
      · go_wp2_with (at_builtin;go_must (refine wpList_append_lies _ rfl _ _ _ rfl w.heap.size 5 i0 (.int .u8 0) 1 1 Tryz.underlying90 hi hz0 hz1 hz2 rfl (by decide) _ _ _ rfl (hown.alloc _) ⟨wr.heap.size,0,none⟩ 2 2 [.int .u8 (192+c / 64),.int .u8 (128+c % 64)] rfl rfl (World.news_of_block (heap_alloc_new _ _)) (by simp[Value.oneCell']) (by omega) (by unfold maxLen;omega) (by omega) (by simp;omega) _ rfl ?_;intro g cap w1 hown1 hgrow hat hlt1))
        exact⟨⟨k+1,by go_num,by omega,lO hlt HC.out (by rw[H9 c (by omega) c2];simp only[dO,List.map_cons,List.map_nil];rw[←gI _ (by omega) (by omega),←gI _ (by omega) (by omega)]) (by rw[H9 c (by omega) c2];rfl) hown1,aH hB hsz hown hgrow⟩,by simp[intOf];omega⟩
      · by_cases c3:c<65536
        · go_wp2_with (at_builtin;go_must (refine wpList_append_lies _ rfl _ _ _ rfl w.heap.size 5 i0 (.int .u8 0) 1 1 Tryz.underlying90 hi hz0 hz1 hz2 rfl (by decide) _ _ _ rfl (hown.alloc _) ⟨wr.heap.size,0,none⟩ 3 3 [.int .u8 (224+c / 4096),.int .u8 (128+c / 64 % 64),.int .u8 (128+c % 64)] rfl rfl (World.news_of_block (heap_alloc_new _ _)) (by simp[Value.oneCell']) (by omega) (by unfold maxLen;omega) (by omega) (by simp;omega) _ rfl ?_;intro g cap w1 hown1 hgrow hat hlt1))
          exact⟨⟨k+1,by go_num,by omega,lO hlt HC.out (by rw[I9 c (by omega) c3];simp only[dO,List.map_cons,List.map_nil];rw[←gI _ (by omega) (by omega),←gI _ (by omega) (by omega),←gI _ (by omega) (by omega)]) (by rw[I9 c (by omega) c3];rfl) hown1,aH hB hsz hown hgrow⟩,by simp[intOf];omega⟩
        · go_wp2_with (at_builtin;go_must (refine wpList_append_lies _ rfl _ _ _ rfl w.heap.size 5 i0 (.int .u8 0) 1 1 Tryz.underlying90 hi hz0 hz1 hz2 rfl (by decide) _ _ _ rfl (hown.alloc _) ⟨wr.heap.size,0,none⟩ 4 4 [.int .u8 (240+c / 262144),.int .u8 (128+c / 4096 % 64),.int .u8 (128+c / 64 % 64),.int .u8 (128+c % 64)] rfl rfl (World.news_of_block (heap_alloc_new _ _)) (by simp[Value.oneCell']) (by omega) (by unfold maxLen;omega) (by omega) (by simp;omega) _ rfl ?_;intro g cap w1 hown1 hgrow hat hlt1))
          exact⟨⟨k+1,by go_num,by omega,lO hlt HC.out (by rw[H8 c (by omega)];simp only[dO,List.map_cons,List.map_nil];rw[←gI _ (by omega) (by omega),←gI _ (by omega) (by omega),←gI _ (by omega) (by omega),←gI _ (by omega) (by omega)]) (by rw[H8 c (by omega)];rfl) hown1,aH hB hsz hown hgrow⟩,by simp[intOf];omega⟩
  · have he:=dD hown;have hk2:l.take k=l:=List.take_of_length_le (by omega);have HK:=hide hk2;clear hk2 hr hv;go_wp2;go_ret;exact⟨gV (by rw[HK.out]),hB⟩
def G4 (s:List UInt8)(B:Nat)(w:World)(e:Ending)(w':World):Prop :=
 Below B w w'∧((Sx.dec s=none∧e=.returned (.tuple #[.slice none 0 0,.bool false]))∨∃ l v,Sx.dec s=some l∧0<l.length∧l.length≤100∧(∀ c∈l,0≤c∧c≤1114111)∧e=.returned (.tuple #[v,.bool (Sx.enc l == s)])∧w'.ownsRow B 3 1 v l.length (dW l))
theorem byte_at (s:ByteArray)(i:Nat)(_h:i<s.size)(h':i<s.data.toList.length):s.data.toList[i]=s[i]:=by
 simp;rfl
theorem aD {w w1:World}{B n sz:Nat}{e:TypeId}{v:Value}{xs:List Value}(h:w.ownsRow B e sz v n xs)(hb:Below w.heap.size w w1):w1.ownsRow B e sz v n xs:=by
 obtain⟨h1,h2⟩:=h;refine⟨h1,?_⟩;rcases h2 with h2 | ⟨g,cap,cur,hv,hg,hh,r⟩
 · exact .inl h2
 · refine .inr ⟨g,cap,cur,hv,hg,?_,r⟩;rw[hb.block g ?_];exact hh;rcases Nat.lt_or_ge g w.heap.size with hlt | hge
   · exact hlt
   · rw[Array.getElem?_eq_none hge] at hh;cases hh
theorem rO (l:List Int):∀ u∈dW l,u.oneCell'=true:=by
 intro u hu;obtain⟨_,_,rfl⟩:=List.mem_map.1 hu;rfl
theorem yA {w:World}{B g cap:Nat}{l:List Int}(h:w.ownsRow B 3 1 (.slice (some ⟨g,0,none⟩) l.length cap) l.length (dW l))(r:Nat):∀ j u,(dW (l.take r))[j]? = some u→w.cell? ((⟨g,0,none⟩:Addr).add j)=some u:=by
 intro j u hu;refine h.cells (g:=g) rfl j u ?_;have:dW (l.take r)=(dW l).take r:=by simp[dW]
 rw[this,List.getElem?_take] at hu;split at hu
 · exact hu
 · cases hu
theorem zG {w:World}{B g cap:Nat}{l:List Int}(h:w.ownsRow B 3 1 (.slice (some ⟨g,0,none⟩) l.length cap) l.length (dW l))(r:Nat):∀ j u,(dW (l.drop r))[j]? = some u→w.cell? ((⟨g,r,none⟩:Addr).add j)=some u:=by
 intro j u hu;have:dW (l.drop r)=(dW l).drop r:=by simp[dW]
 rw[this,List.getElem?_drop] at hu;have:=h.cells (g:=g) rfl (r+j) u hu;rw[Addr.add_lit] at this ⊢;rw[Nat.zero_add] at this;exact this
theorem BD {l:List Int}(h:∀ c∈l,0≤c∧c≤1114111)(r n:Int)(h0:0≤n)(h1:n≤1114111):∀ c∈Sx.dY l r n,0≤c∧c≤1114111:=by
 intro c hc;unfold Sx.dY at hc;rcases List.mem_append.1 hc with hc | hc
 · exact h c (List.mem_of_mem_take hc)
 · rcases List.mem_cons.1 hc with rfl | hc
   · exact⟨h0,h1⟩
   · exact h c (List.mem_of_mem_drop hc)
theorem IJ (s:ByteArray)(w:World)(hs:s.size≤60) :
 Calls Tryz.prog 149 #[.string s] w (G4 s.data.toList w.heap.size w):=by
 obtain⟨i0,hi,hz0,hz1,hz2⟩:=info_parts Tryz.info3;have hlen:s.data.toList.length=s.size:=by simp
 have HL:=hide hlen;clear hlen;go_enter Tryz.func149,Tryz.ntmps149;go_wp2
 go_loop [4,5] (fun a i=>∃ (k:Nat) (at':Int),a=.int .i64 at'∧i=.int .i64 k∧k≤s.size ∧ -1≤at'∧at'<k∧Sx.fH s.data.toList k=at') (fun _ i=>(s.size-intOf i).toNat)
 case atStart=>exact⟨0,-1,rfl,rfl,by omega,by omega,by omega,rfl⟩
 case round =>
  obtain⟨k,a,rfl,rfl,hk,ha0,ha1,hd⟩:=hrel;have HD:=hide hd;clear hd;by_cases hlt:k<s.size
  · have hb:=byte_at s k hlt (by rw[HL.out];exact hlt);have hst:=Sx.RL s.data.toList k (by rw[HL.out];exact hlt);rw[hb] at hst;have HST:=hide hst;clear hst hb;by_cases h45:s[k]=45
    · have h45':((s[k].toNat:Int) == 45)=true:=by rw[h45];rfl
      have H45:=hide h45;clear h45;go_wp2
      go_round
      case rel=>exact⟨k+1,k,rfl,by go_num,by omega,by omega,by omega,by rw[HST.out,if_pos H45.out]⟩
      case measure=>simp[intOf];omega
    · have h45':((s[k].toNat:Int) == 45)=false:=by
       simp only[beq_eq_false_iff_ne,ne_eq];intro h;apply h45;apply UInt8.toNat.inj;show s[k].toNat=45;omega
      have H45:=hide h45;clear h45;go_wp2
      go_round
      case rel=>exact⟨k+1,a,rfl,by go_num,by omega,by omega,by omega,by rw[HST.out,if_neg H45.out,HD.out]⟩
      case measure=>simp[intOf];omega
  · have hk1:k=s.size:=by omega
    subst hk1;have hda:Sx.dash s.data.toList=a:=by unfold Sx.dash;rw[HL.out];exact HD.out
    have HDA:=hide hda;clear hda HD;go_wp2
    go_loopw [6,7] (fun x i wr=>∃ (k:Nat),i=.int .i64 k∧(k:Int)≤a+1∧((k:Int)≤a∨k=0)∧wr.ownsRow w.heap.size 3 1 x k (dW ((s.data.toList.take k).map fun c=>(c.toNat:Int)))∧Below w.heap.size w wr) (fun _ i _=>(a-intOf i).toNat)
    case atStart=>exact⟨0,rfl,by omega,.inr rfl,World.ownsRow_nil w _ 3 1,Below.refl _ _⟩
    case round =>
     obtain⟨k,rfl,hk2,hk3,hown,hB⟩:=hrel;have hsz:=hB.size;by_cases hka:(k:Int)<a
     · have hkl:k<s.size:=by omega
       have hb:=byte_at s k hkl (by rw[HL.out];exact hkl);have hbl:=s[k].toNat_lt;have hnew:dW ((s.data.toList.take (k+1)).map fun c=>(c.toNat:Int))=dW ((s.data.toList.take k).map fun c=>(c.toNat:Int))++[.int .i64 s[k].toNat]:=by
        rw[List.take_succ_eq_append_getElem (by rw[HL.out];exact hkl),hb,List.map_append,gY];rfl
       have HN:=hide hnew;clear hnew hb;go_wp2_with (at_builtin;go_must (refine wpList_append_lies _ rfl _ _ _ rfl w.heap.size 3 i0 (.int .i64 0) 1 8 Tryz.underlying207 hi hz0 hz1 hz2 rfl (by decide) _ _ _ rfl (hown.alloc _) ⟨wr.heap.size,0,none⟩ 1 1 [.int .i64 s[k].toNat] rfl rfl (cell_one_new _ _ _) (by simp[Value.oneCell']) (by omega) (by unfold maxLen;omega) (by omega) (by simp;omega) _ rfl ?_;intro g cap w1 hown1 hgrow hat hlt1))
       exact⟨⟨k+1,by go_num,by omega,by omega,by rw[HN.out];exact hown1,aH hB hsz hown hgrow⟩,by simp[intOf];omega⟩
     · by_cases hend:(s.size:Int)≤a+1
       · go_wp2;go_ret2;exact⟨hB,.inl ⟨by unfold Sx.dec;rw[HDA.out,HL.out,if_pos hend],rfl⟩⟩
       · have hka2:k=a.toNat:=by omega
         obtain⟨p0,hp0⟩:∃ p0:Nat,a+1=(p0:Int):=⟨(a+1).toNat,by omega⟩
         have hdec:Sx.dec s.data.toList=Sx.kQ ((s.data.toList.take k).map fun c=>(c.toNat:Int)) 72 128 0 true (s.data.toList.drop p0):=by
          unfold Sx.dec;rw[HDA.out,HL.out,if_neg hend,hka2,hp0,Int.toNat_natCast]
         have HDEC:=hide hdec;have hlk:((s.data.toList.take k).map fun c=>(c.toNat:Int)).length=k:=by simp;omega
         have hlv:∀ c∈(s.data.toList.take k).map (fun c=>(c.toNat:Int)),(0:Int)≤c∧c≤1114111:=by
          intro c hc;obtain⟨x,_,rfl⟩:=List.mem_map.1 hc;have:=x.toNat_lt;omega
         obtain⟨l0,hl0⟩:∃ l0,(s.data.toList.take k).map (fun c=>(c.toNat:Int))=l0:=⟨_,rfl⟩
         rw[hl0] at hdec hlk hlv hown HDEC;have hown':wr.ownsRow w.heap.size 3 1 u6 l0.length (dW l0):=by rw[hlk];exact hown
         have HLV:=hide hlv;have hkp:k≤p0:=by omega
         have hpe:p0<s.size:=by omega
         have hkl0:l0.length≤p0:=by omega
         have hnka:decide ((k:Int)<a)=false:=by simpa using hka
         clear hdec hlk hlv hown hka2 hl0 hk3 hk2;go_wp2
         go_loopw [6,8,9,10,11,12] (fun x pp bi nn ii fi wr=>∃ (l:List Int) (p:Nat) (bias n i:Int) (first:Bool),pp=.int .i64 p∧bi=.int .i64 bias∧nn=.int .i64 n∧ii=.int .i64 i∧fi=.bool first∧p≤s.size∧l.length≤p∧(0<l.length∨p<s.size)∧0≤bias∧bias≤180∧128≤n∧n≤1114111∧0≤i∧i≤l.length∧(∀ c∈l,0≤c∧c≤1114111)∧Sx.kQ l bias n i first (s.data.toList.drop p)=Sx.dec s.data.toList∧wr.ownsRow w.heap.size 3 1 x l.length (dW l)∧Below w.heap.size w wr) (fun _ pp _ _ _ _ _=>(s.size-intOf pp).toNat)
         case atStart=>exact⟨l0,p0,72,128,0,true,rfl,rfl,rfl,rfl,rfl,by omega,hkl0,.inr hpe,by omega,by omega,by omega,by omega,by omega,by omega,HLV.out,HDEC.out.symm,hown',hB⟩
         case round =>
          obtain⟨l,p,bias,n,i,first,rfl,rfl,rfl,rfl,rfl,hps,hlp,hne,hb0,hb1,hn0,hn1,hi0,hi1,hlv,hq,hown2,hB2⟩:=hrel;have HLV2:=hide hlv;have HQ:=hide hq;clear hlv hq hown' hB hsz HLV HDEC hkl0;have hsz2:=hB2.size;by_cases hlt3:p<s.size
          · have hdne:s.data.toList.drop p≠[]:=by intro h;have:=congrArg List.length h;simp at this;omega
            have HDNE:=hide hdne;clear hdne;have fails:Sx.cS bias 0 1 0 (s.data.toList.drop p)=none→Sx.dec s.data.toList=none:=fun h=>by rw[←HQ.out];exact Sx.MR _ _ _ _ _ _ HDNE.out h
            have FAILS:=hide fails;clear fails;have hshape:=hown2.2;rcases hshape with ⟨rfl,hl00⟩ | ⟨g,cap,cur,rfl,hg1,hg2,hc1,hc2,hc3,hc4⟩
            · go_wp2
              go_loop [8,13,14,15] (fun pp dd ww kk=>∃ (q k:Nat) (d wt:Int),pp=.int .i64 q∧dd=.int .i64 d∧ww=.int .i64 wt∧kk=.int .i64 k∧p≤q∧q≤s.size∧k≤8∧k≤q-p∧0≤d∧d≤2821109907455∧1≤wt∧wt≤2821109907456∧Sx.Wt d wt k∧Sx.cS bias d wt k (s.data.toList.drop q)=Sx.cS bias 0 1 0 (s.data.toList.drop p)) (fun pp _ _ _=>(s.size-intOf pp).toNat)
              case atStart=>exact⟨p,0,0,1,rfl,rfl,rfl,rfl,by omega,by omega,by omega,by omega,by omega,by omega,by omega,by omega,Sx.Wt.zero,rfl⟩
              case round =>
               obtain⟨q,k2,d,wt,rfl,rfl,rfl,rfl,hq0,hq1,hk80,hk81,hd0,hd1,hw0,hw1,hwt,hnum⟩:=hrel;have HWT:=hide hwt;have HNUM:=hide hnum;clear hwt hnum;by_cases hqe:q<s.size
               · by_cases hk7:7<k2
                 · go_wp2;go_ret2;exact⟨hB2,.inl ⟨FAILS.out (by rw[←HNUM.out];exact Sx.yE _ _ _ _ _ q (by rw[HL.out];exact hqe) hk7),rfl⟩⟩
                 · have hby:=byte_at s q hqe (by rw[HL.out];exact hqe);have HBY:=hide hby;have hvb:=Sx.wT s[q];obtain⟨v,hv⟩:∃ v,Sx.valOf s[q]=v:=⟨_,rfl⟩
                   rw[hv] at hvb;have HVAL:=hide hv;have t1:=Sx.eP k2 bias;have t2:=Sx.fP k2 bias;obtain⟨t,ht⟩:∃ t,Sx.cE k2 bias=t:=⟨_,rfl⟩
                   rw[ht] at t1 t2;have HT:=hide ht;clear hv ht hby;by_cases hvn:v<0
                   · go_wp2_with (go_at_call 203;go_must (refine(eJ _ _).mono ?_;rintro e w' ⟨rfl,rfl⟩;rw[HVAL.out]))
                     go_ret2;exact⟨hB2,.inl ⟨FAILS.out (by rw[←HNUM.out];exact Sx.CS _ _ _ _ _ q (by rw[HL.out];exact hqe) (by rw[HBY.out,HVAL.out];exact hvn)),rfl⟩⟩
                   · have hput:=HWT.out.put v (by omega) (by omega);have hp8:=Sx.X0 k2 (by omega);have hD1:d+v*wt≤2821109907455:=by omega
                     have hD0:=hput.1;clear hput hp8;by_cases hvt:v<t
                     · have hnum2:Sx.cS bias 0 1 0 (s.data.toList.drop p)=some (d+v*wt,s.data.toList.drop (q+1)):=by
                        rw[←HNUM.out,Sx.yN _ _ _ _ _ q (by rw[HL.out];exact hqe) hk7 (by rw[HBY.out,HVAL.out];exact hvn) (by rw[HBY.out,HVAL.out,HT.out];exact hvt),HBY.out,HVAL.out]
                       have HNUM2:=hide hnum2;clear hnum2 HNUM HWT;obtain⟨D,hD⟩:∃ D,d+v*wt=D:=⟨_,rfl⟩
                       rw[hD] at HNUM2 hD1;have hDD0:0≤D:=by omega
                       obtain⟨Q,hQ⟩:∃ Q,(i+D) / ((l.length:Int)+1)=Q:=⟨_,rfl⟩
                       have hQ0:0≤Q:=by rw[←hQ];exact Int.ediv_nonneg (by omega) (by omega)
                       have hQ1:Q≤i+D:=by rw[←hQ];exact Int.ediv_le_self _ (by omega)
                       obtain⟨r,hr⟩:∃ r:Nat,(i+D) % ((l.length:Int)+1)=(r:Int):=⟨((i+D) % ((l.length:Int)+1)).toNat,by have:=Int.emod_nonneg (i+D) (show((l.length:Int)+1)≠0 by omega);omega⟩
                       have hr1:r≤l.length:=by have:=Int.emod_lt_of_pos (i+D) (show 0<((l.length:Int)+1) by omega);omega
                       have hne1:((l.length:Int)+1)≠0:=by omega
                       have BADS:Hid ((1114111<n+Q∨(55296≤n+Q∧n+Q≤57343))→Sx.dec s.data.toList=none):=hide (fun h=>by rw[←HQ.out];exact Sx.qV _ _ _ _ _ _ _ _ HNUM2.out (by rw[hQ];exact h));have MORE:Hid (¬ (1114111<n+Q∨(55296≤n+Q∧n+Q≤57343))→Sx.kQ (Sx.dY l r (n+Q)) (Sx.after D ((l.length:Int)+1) first) (n+Q) ((r:Int)+1) false (s.data.toList.drop (q+1))=Sx.dec s.data.toList):=hide (fun h=>by
                        have:=Sx.nM l bias n i first _ _ _ HNUM2.out (by rw[hQ];exact h)
                        rw[hQ,hr] at this;rw[←HQ.out,this])
                       have QB:Hid (Q≤1114111→D≤112525312):=hide (fun h=>by have:=Sx.LZ (i+D) ((l.length:Int)+1) (by omega) (by omega) (by rw[hQ];exact h);omega);have hl1:l=[]:=List.eq_nil_of_length_eq_zero hl00;have hQe:Q=i+D:=by rw[←hQ,hl00];simp
                       have hr0:r=0:=by omega
                       subst hQe;subst hr0;clear hQ hr;by_cases hbig:1114111<n+(i+D)
                       · go_wp2_with (first | (go_at_call 203;go_must (refine(eJ _ _).mono ?_;rintro e w' ⟨rfl,rfl⟩;rw[HVAL.out])) | (go_at_call 204;go_must (refine(eF _ _ _ (by omega) (by omega) (by omega) (by omega)).mono ?_;rintro e w' ⟨rfl,rfl⟩;rw[HT.out])))
                         go_ret2;exact⟨hB2,.inl ⟨BADS.out (by omega),rfl⟩⟩
                       · have hDb:=QB.out (by omega);have hab:=Sx.mL D ((l.length:Int)+1) first hDD0 (by omega) (by omega)
                         by_cases hs1:55296≤n+(i+D)
                         · by_cases hs2:n+(i+D)≤57343
                           · go_wp2_with (first | (go_at_call 203;go_must (refine(eJ _ _).mono ?_;rintro e w' ⟨rfl,rfl⟩;rw[HVAL.out])) | (go_at_call 204;go_must (refine(eF _ _ _ (by omega) (by omega) (by omega) (by omega)).mono ?_;rintro e w' ⟨rfl,rfl⟩;rw[HT.out])))
                             go_ret2;exact⟨hB2,.inl ⟨BADS.out (by omega),rfl⟩⟩
                           · have hmo:=MORE.out (by omega);have HMO:=hide hmo;clear hmo;go_wp2_with (first | (go_at_call 203;go_must (refine(eJ _ _).mono ?_;rintro e w' ⟨rfl,rfl⟩;rw[HVAL.out])) | (go_at_call 204;go_must (refine(eF _ _ _ (by omega) (by omega) (by omega) (by omega)).mono ?_;rintro e w' ⟨rfl,rfl⟩;rw[HT.out])) | (at_builtin;refine aX _ rfl _ _ _ rfl 3 i0 Tryz.underlying207 hi _ rfl rfl (.inl rfl) ?_) | (at_builtin;go_must (refine wpList_append_lies _ rfl _ _ _ rfl w.heap.size 3 i0 (.int .i64 0) 1 8 Tryz.underlying207 hi hz0 hz1 hz2 rfl (by decide) (.slice none 0 0) 0 [] rfl (World.ownsRow_nil _ _ 3 1) ⟨_,0,none⟩ 1 1 [.int .i64 (n+(i+D))] rfl rfl (cell_one_new _ _ _) (by simp[Value.oneCell']) (by omega) (by unfold maxLen;omega) (by omega) (by simp;omega) _ rfl ?_)))
                             intro g2 cap2 w2 hown4 hgrow4 hat4 hlt4;have hcap4:=(bR hown4).2.2.1;have hB4:Below w.heap.size w w2:=(hB2.alloc (by omega) _).grown hgrow4 (by simp;omega) (fun k e=>by cases e);clear hat4 hgrow4;go_wp2_with (first | (at_builtin;refine aX _ rfl _ _ _ rfl 3 i0 Tryz.underlying207 hi _ rfl rfl (.inr ⟨_,_,_,rfl,hcap4⟩) ?_) | (go_at_call 205;go_must (refine(fO _ _ _ _ (by omega) (by omega) (by omega) (by omega)).mono ?_;rintro e w' ⟨rfl,rfl⟩)))
                             refine⟨⟨[n+(i+D)],q+1,_,_,1,false,by go_num,rfl,rfl,rfl,rfl,by omega,by simp,.inl (by simp),?_,?_,by omega,by omega,by omega,by simp,?_,?_,hown4,hB4⟩,by simp[intOf];omega⟩
                             · have:=hab.1;rw[hl00] at this;simpa using this
                             · have:=hab.2;rw[hl00] at this;simpa using this
                             · intro c hc;rw[List.mem_singleton] at hc;omega
                             · have:=HMO.out;rw[hl00,hl1] at this;simpa[Sx.dY] using this
                         · have hmo:=MORE.out (by omega);have HMO:=hide hmo;clear hmo;go_wp2_with (first | (go_at_call 203;go_must (refine(eJ _ _).mono ?_;rintro e w' ⟨rfl,rfl⟩;rw[HVAL.out])) | (go_at_call 204;go_must (refine(eF _ _ _ (by omega) (by omega) (by omega) (by omega)).mono ?_;rintro e w' ⟨rfl,rfl⟩;rw[HT.out])) | (at_builtin;refine aX _ rfl _ _ _ rfl 3 i0 Tryz.underlying207 hi _ rfl rfl (.inl rfl) ?_) | (at_builtin;go_must (refine wpList_append_lies _ rfl _ _ _ rfl w.heap.size 3 i0 (.int .i64 0) 1 8 Tryz.underlying207 hi hz0 hz1 hz2 rfl (by decide) (.slice none 0 0) 0 [] rfl (World.ownsRow_nil _ _ 3 1) ⟨_,0,none⟩ 1 1 [.int .i64 (n+(i+D))] rfl rfl (cell_one_new _ _ _) (by simp[Value.oneCell']) (by omega) (by unfold maxLen;omega) (by omega) (by simp;omega) _ rfl ?_)))
                           intro g2 cap2 w2 hown4 hgrow4 hat4 hlt4;have hcap4:=(bR hown4).2.2.1;have hB4:Below w.heap.size w w2:=(hB2.alloc (by omega) _).grown hgrow4 (by simp;omega) (fun k e=>by cases e);clear hat4 hgrow4;go_wp2_with (first | (at_builtin;refine aX _ rfl _ _ _ rfl 3 i0 Tryz.underlying207 hi _ rfl rfl (.inr ⟨_,_,_,rfl,hcap4⟩) ?_) | (go_at_call 205;go_must (refine(fO _ _ _ _ (by omega) (by omega) (by omega) (by omega)).mono ?_;rintro e w' ⟨rfl,rfl⟩)))
                           refine⟨⟨[n+(i+D)],q+1,_,_,1,false,by go_num,rfl,rfl,rfl,rfl,by omega,by simp,.inl (by simp),?_,?_,by omega,by omega,by omega,by simp,?_,?_,hown4,hB4⟩,by simp[intOf];omega⟩
                           · have:=hab.1;rw[hl00] at this;simpa using this
                           · have:=hab.2;rw[hl00] at this;simpa using this
                           · intro c hc;rw[List.mem_singleton] at hc;omega
                           · have:=HMO.out;rw[hl00,hl1] at this;simpa[Sx.dY] using this
                     · have hst:=HWT.out.step v t (by omega) (by omega) t1 t2;have hbd:=hst.bd (by omega);have HST:=hide hst;have hwm:wt*(36-t)≤2821109907456:=by omega
                       have hwm1:1≤wt*(36-t):=by omega
                       clear hst hbd;go_wp2_with (first | (go_at_call 203;go_must (refine(eJ _ _).mono ?_;rintro e w' ⟨rfl,rfl⟩;rw[HVAL.out])) | (go_at_call 204;go_must (refine(eF _ _ _ (by omega) (by omega) (by omega) (by omega)).mono ?_;rintro e w' ⟨rfl,rfl⟩;rw[HT.out])))
                       refine⟨⟨q+1,k2+1,_,_,by go_num,rfl,rfl,by go_num,by omega,by omega,by omega,by omega,by omega,hD1,hwm1,hwm,HST.out,?_⟩,by simp[intOf];omega⟩;rw[←HNUM.out,Sx.yW _ _ _ _ _ q (by rw[HL.out];exact hqe) hk7 (by rw[HBY.out,HVAL.out];omega) (by rw[HBY.out,HVAL.out,HT.out];omega),HBY.out,HVAL.out,HT.out]
               · go_wp2;go_ret2;exact⟨hB2,.inl ⟨FAILS.out (by rw[←HNUM.out];exact Sx.II _ _ _ _ _ q (by rw[HL.out];omega)),rfl⟩⟩
            · go_wp2
              go_loop [8,13,14,15] (fun pp dd ww kk=>∃ (q k:Nat) (d wt:Int),pp=.int .i64 q∧dd=.int .i64 d∧ww=.int .i64 wt∧kk=.int .i64 k∧p≤q∧q≤s.size∧k≤8∧k≤q-p∧0≤d∧d≤2821109907455∧1≤wt∧wt≤2821109907456∧Sx.Wt d wt k∧Sx.cS bias d wt k (s.data.toList.drop q)=Sx.cS bias 0 1 0 (s.data.toList.drop p)) (fun pp _ _ _=>(s.size-intOf pp).toNat)
              case atStart=>exact⟨p,0,0,1,rfl,rfl,rfl,rfl,by omega,by omega,by omega,by omega,by omega,by omega,by omega,by omega,Sx.Wt.zero,rfl⟩
              case round =>
               obtain⟨q,k2,d,wt,rfl,rfl,rfl,rfl,hq0,hq1,hk80,hk81,hd0,hd1,hw0,hw1,hwt,hnum⟩:=hrel;have HWT:=hide hwt;have HNUM:=hide hnum;clear hwt hnum;by_cases hqe:q<s.size
               · by_cases hk7:7<k2
                 · go_wp2;go_ret2;exact⟨hB2,.inl ⟨FAILS.out (by rw[←HNUM.out];exact Sx.yE _ _ _ _ _ q (by rw[HL.out];exact hqe) hk7),rfl⟩⟩
                 · have hby:=byte_at s q hqe (by rw[HL.out];exact hqe);have HBY:=hide hby;have hvb:=Sx.wT s[q];obtain⟨v,hv⟩:∃ v,Sx.valOf s[q]=v:=⟨_,rfl⟩
                   rw[hv] at hvb;have HVAL:=hide hv;have t1:=Sx.eP k2 bias;have t2:=Sx.fP k2 bias;obtain⟨t,ht⟩:∃ t,Sx.cE k2 bias=t:=⟨_,rfl⟩
                   rw[ht] at t1 t2;have HT:=hide ht;clear hv ht hby;by_cases hvn:v<0
                   · go_wp2_with (go_at_call 203;go_must (refine(eJ _ _).mono ?_;rintro e w' ⟨rfl,rfl⟩;rw[HVAL.out]))
                     go_ret2;exact⟨hB2,.inl ⟨FAILS.out (by rw[←HNUM.out];exact Sx.CS _ _ _ _ _ q (by rw[HL.out];exact hqe) (by rw[HBY.out,HVAL.out];exact hvn)),rfl⟩⟩
                   · have hput:=HWT.out.put v (by omega) (by omega);have hp8:=Sx.X0 k2 (by omega);have hD1:d+v*wt≤2821109907455:=by omega
                     have hD0:=hput.1;clear hput hp8;by_cases hvt:v<t
                     · have hnum2:Sx.cS bias 0 1 0 (s.data.toList.drop p)=some (d+v*wt,s.data.toList.drop (q+1)):=by
                        rw[←HNUM.out,Sx.yN _ _ _ _ _ q (by rw[HL.out];exact hqe) hk7 (by rw[HBY.out,HVAL.out];exact hvn) (by rw[HBY.out,HVAL.out,HT.out];exact hvt),HBY.out,HVAL.out]
                       have HNUM2:=hide hnum2;clear hnum2 HNUM HWT;obtain⟨D,hD⟩:∃ D,d+v*wt=D:=⟨_,rfl⟩
                       rw[hD] at HNUM2 hD1;have hDD0:0≤D:=by omega
                       obtain⟨Q,hQ⟩:∃ Q,(i+D) / ((l.length:Int)+1)=Q:=⟨_,rfl⟩
                       have hQ0:0≤Q:=by rw[←hQ];exact Int.ediv_nonneg (by omega) (by omega)
                       have hQ1:Q≤i+D:=by rw[←hQ];exact Int.ediv_le_self _ (by omega)
                       obtain⟨r,hr⟩:∃ r:Nat,(i+D) % ((l.length:Int)+1)=(r:Int):=⟨((i+D) % ((l.length:Int)+1)).toNat,by have:=Int.emod_nonneg (i+D) (show((l.length:Int)+1)≠0 by omega);omega⟩
                       have hr1:r≤l.length:=by have:=Int.emod_lt_of_pos (i+D) (show 0<((l.length:Int)+1) by omega);omega
                       have hne1:((l.length:Int)+1)≠0:=by omega
                       have BADS:Hid ((1114111<n+Q∨(55296≤n+Q∧n+Q≤57343))→Sx.dec s.data.toList=none):=hide (fun h=>by rw[←HQ.out];exact Sx.qV _ _ _ _ _ _ _ _ HNUM2.out (by rw[hQ];exact h));have MORE:Hid (¬ (1114111<n+Q∨(55296≤n+Q∧n+Q≤57343))→Sx.kQ (Sx.dY l r (n+Q)) (Sx.after D ((l.length:Int)+1) first) (n+Q) ((r:Int)+1) false (s.data.toList.drop (q+1))=Sx.dec s.data.toList):=hide (fun h=>by
                        have:=Sx.nM l bias n i first _ _ _ HNUM2.out (by rw[hQ];exact h)
                        rw[hQ,hr] at this;rw[←HQ.out,this])
                       have QB:Hid (Q≤1114111→D≤112525312):=hide (fun h=>by have:=Sx.LZ (i+D) ((l.length:Int)+1) (by omega) (by omega) (by rw[hQ];exact h);omega);by_cases hbig:1114111<n+Q
                       · go_wp2_with (first | (go_at_call 203;go_must (refine(eJ _ _).mono ?_;rintro e w' ⟨rfl,rfl⟩;rw[HVAL.out])) | (go_at_call 204;go_must (refine(eF _ _ _ (by omega) (by omega) (by omega) (by omega)).mono ?_;rintro e w' ⟨rfl,rfl⟩;rw[HT.out])))
                         go_ret2;exact⟨hB2,.inl ⟨BADS.out (by omega),rfl⟩⟩
                       · have hDb:=QB.out (by omega);have hab:=Sx.mL D ((l.length:Int)+1) first hDD0 (by omega) (by omega)
                         by_cases hs1:55296≤n+Q
                         · by_cases hs2:n+Q≤57343
                           · go_wp2_with (first | (go_at_call 203;go_must (refine(eJ _ _).mono ?_;rintro e w' ⟨rfl,rfl⟩;rw[HVAL.out])) | (go_at_call 204;go_must (refine(eF _ _ _ (by omega) (by omega) (by omega) (by omega)).mono ?_;rintro e w' ⟨rfl,rfl⟩;rw[HT.out])))
                             go_ret2;exact⟨hB2,.inl ⟨BADS.out (by omega),rfl⟩⟩
                           · have hmo:=MORE.out (by omega);have HMO:=hide hmo;have hn1:=yA hown2 r;have HN1:=hide hn1;clear hmo hn1;have hgl:g<wr.heap.size:=(hown2.lt g rfl).2;go_wp2_with (first | (go_at_call 203;go_must (refine(eJ _ _).mono ?_;rintro e w' ⟨rfl,rfl⟩;rw[HVAL.out])) | (go_at_call 204;go_must (refine(eF _ _ _ (by omega) (by omega) (by omega) (by omega)).mono ?_;rintro e w' ⟨rfl,rfl⟩;rw[HT.out])) | (at_builtin;go_must (refine wpList_append_own_at _ rfl _ _ _ rfl w.heap.size 3 i0 (.int .i64 0) 1 8 Tryz.underlying207 hi hz0 hz1 hz2 rfl (by decide) (.slice none 0 0) 0 [] rfl (World.ownsRow_nil _ _ 3 1) ⟨g,0,none⟩ r _ (dW (l.take r)) rfl (by simp[dW];omega) HN1.out (rO _) (by unfold maxLen;omega) (by omega) (by omega) ?_)))
                             intro v1 w1 hown3 hgrow3 hnil3 hat3;have hB3:Below w.heap.size w w1:=hB2.grown hgrow3 (by omega) (fun k e=>by cases e);have hl3:w1.ownsRow w.heap.size 3 1 (.slice (some ⟨g,0,none⟩) l.length cap) l.length (dW l):=hown2.kept hgrow3 (.inr (by simp[Value.ownBlock]));have hsz3:=hB3.size;have hne3:(some g:Option Nat)≠v1.ownBlock:=by
                              rcases hat3 with h | h
                              · rw[h];simp[Value.ownBlock]
                              · rw[h];simp;omega
                             have HAT3:=hide hat3;clear hat3 hnil3 hgrow3;go_wp2_with (at_builtin;go_must (refine wpList_append_lies _ rfl _ _ _ rfl w.heap.size 3 i0 (.int .i64 0) 1 8 Tryz.underlying207 hi hz0 hz1 hz2 rfl (by decide) v1 r (dW (l.take r)) rfl (hown3.alloc _) ⟨w1.heap.size,0,none⟩ 1 1 [.int .i64 (n+Q)] rfl rfl (cell_one_new _ _ _) (by simp[Value.oneCell']) (by omega) (by unfold maxLen;omega) (by omega) (by simp;omega) _ rfl ?_))
                             intro g2 cap2 w2 hown4 hgrow4 hat4 hlt4;have hB4:Below w.heap.size w w2:=aH hB3 hsz3 hown3 hgrow4;have hl4:=(hl3.alloc (.cells #[.int .i64 (n+Q)] 3)).kept hgrow4 (.inr (by simpa[Value.ownBlock] using hne3));have hn5:=zG hl4 r;have HN5:=hide hn5;have hsz4:=hB4.size;clear hat4 hn5 hgrow4 hl3;by_cases hcr:cap=r
                             · go_wp2_with (at_builtin;go_must (refine wpList_append_own_at _ rfl _ _ _ rfl w.heap.size 3 i0 (.int .i64 0) 1 8 Tryz.underlying207 hi hz0 hz1 hz2 rfl (by decide) (.slice (some ⟨g2,0,none⟩) (r+1) cap2) (r+1) (dW (l.take r)++[.int .i64 (n+Q)]) rfl hown4 ⟨g,0,none⟩ (l.length-r) _ (dW (l.drop r)) rfl (by simp[dW]) (by rw[List.drop_eq_nil_of_le (by omega)];simp[dW]) (rO _) (by unfold maxLen;omega) (by omega) (by omega) ?_))
                               intro v3 w3 hown5 hgrow5 hnil5 hat5;have hB5:Below w.heap.size w w3:=hB4.grown hgrow5 (by omega) (fun k e=>(hown4.lt k e).1);have hown6:w3.ownsRow w.heap.size 3 1 v3 (l.length+1) (dW (Sx.dY l r (n+Q))):=by have h:=hown5;rw[show r+1+(l.length-r)=l.length+1 from by omega] at h;simpa[dW,Sx.dY] using h
                               obtain⟨g3,cap3,rfl,hg31,hg32⟩:=hown6.form (by omega);clear hat5 hnil5 hgrow5 hown5;go_wp2_with (go_at_call 205;go_must (refine(fO _ _ _ _ (by omega) (by omega) (by omega) (by omega)).mono ?_;rintro e w' ⟨rfl,rfl⟩))
                               refine⟨⟨Sx.dY l r (n+Q),q+1,_,_,r+1,false,by go_num,rfl,rfl,rfl,rfl,by omega,by rw[Sx.bV];omega,.inl (by rw[Sx.bV];omega),hab.1,hab.2,by omega,by omega,by omega,by rw[Sx.bV];omega,BD HLV2.out _ _ (by omega) (by omega),HMO.out,by rw[Sx.bV];exact hown6,hB5⟩,by simp[intOf];omega⟩
                             · go_wp2_with (at_builtin;go_must (refine wpList_append_own_at _ rfl _ _ _ rfl w.heap.size 3 i0 (.int .i64 0) 1 8 Tryz.underlying207 hi hz0 hz1 hz2 rfl (by decide) (.slice (some ⟨g2,0,none⟩) (r+1) cap2) (r+1) (dW (l.take r)++[.int .i64 (n+Q)]) rfl hown4 ⟨g,r,none⟩ (l.length-r) _ (dW (l.drop r)) rfl (by simp[dW]) HN5.out (rO _) (by unfold maxLen;omega) (by omega) (by omega) ?_))
                               intro v3 w3 hown5 hgrow5 hnil5 hat5;have hB5:Below w.heap.size w w3:=hB4.grown hgrow5 (by omega) (fun k e=>(hown4.lt k e).1);have hown6:w3.ownsRow w.heap.size 3 1 v3 (l.length+1) (dW (Sx.dY l r (n+Q))):=by have h:=hown5;rw[show r+1+(l.length-r)=l.length+1 from by omega] at h;simpa[dW,Sx.dY] using h
                               obtain⟨g3,cap3,rfl,hg31,hg32⟩:=hown6.form (by omega);clear hat5 hnil5 hgrow5 hown5;go_wp2_with (go_at_call 205;go_must (refine(fO _ _ _ _ (by omega) (by omega) (by omega) (by omega)).mono ?_;rintro e w' ⟨rfl,rfl⟩))
                               refine⟨⟨Sx.dY l r (n+Q),q+1,_,_,r+1,false,by go_num,rfl,rfl,rfl,rfl,by omega,by rw[Sx.bV];omega,.inl (by rw[Sx.bV];omega),hab.1,hab.2,by omega,by omega,by omega,by rw[Sx.bV];omega,BD HLV2.out _ _ (by omega) (by omega),HMO.out,by rw[Sx.bV];exact hown6,hB5⟩,by simp[intOf];omega⟩
                         · have hmo:=MORE.out (by omega);have HMO:=hide hmo;have hn1:=yA hown2 r;have HN1:=hide hn1;clear hmo hn1;have hgl:g<wr.heap.size:=(hown2.lt g rfl).2;go_wp2_with (first | (go_at_call 203;go_must (refine(eJ _ _).mono ?_;rintro e w' ⟨rfl,rfl⟩;rw[HVAL.out])) | (go_at_call 204;go_must (refine(eF _ _ _ (by omega) (by omega) (by omega) (by omega)).mono ?_;rintro e w' ⟨rfl,rfl⟩;rw[HT.out])) | (at_builtin;go_must (refine wpList_append_own_at _ rfl _ _ _ rfl w.heap.size 3 i0 (.int .i64 0) 1 8 Tryz.underlying207 hi hz0 hz1 hz2 rfl (by decide) (.slice none 0 0) 0 [] rfl (World.ownsRow_nil _ _ 3 1) ⟨g,0,none⟩ r _ (dW (l.take r)) rfl (by simp[dW];omega) HN1.out (rO _) (by unfold maxLen;omega) (by omega) (by omega) ?_)))
                           intro v1 w1 hown3 hgrow3 hnil3 hat3;have hB3:Below w.heap.size w w1:=hB2.grown hgrow3 (by omega) (fun k e=>by cases e);have hl3:w1.ownsRow w.heap.size 3 1 (.slice (some ⟨g,0,none⟩) l.length cap) l.length (dW l):=hown2.kept hgrow3 (.inr (by simp[Value.ownBlock]));have hsz3:=hB3.size;have hne3:(some g:Option Nat)≠v1.ownBlock:=by
                            rcases hat3 with h | h
                            · rw[h];simp[Value.ownBlock]
                            · rw[h];simp;omega
                           have HAT3:=hide hat3;clear hat3 hnil3 hgrow3;go_wp2_with (at_builtin;go_must (refine wpList_append_lies _ rfl _ _ _ rfl w.heap.size 3 i0 (.int .i64 0) 1 8 Tryz.underlying207 hi hz0 hz1 hz2 rfl (by decide) v1 r (dW (l.take r)) rfl (hown3.alloc _) ⟨w1.heap.size,0,none⟩ 1 1 [.int .i64 (n+Q)] rfl rfl (cell_one_new _ _ _) (by simp[Value.oneCell']) (by omega) (by unfold maxLen;omega) (by omega) (by simp;omega) _ rfl ?_))
                           intro g2 cap2 w2 hown4 hgrow4 hat4 hlt4;have hB4:Below w.heap.size w w2:=aH hB3 hsz3 hown3 hgrow4;have hl4:=(hl3.alloc (.cells #[.int .i64 (n+Q)] 3)).kept hgrow4 (.inr (by simpa[Value.ownBlock] using hne3));have hn5:=zG hl4 r;have HN5:=hide hn5;have hsz4:=hB4.size;clear hat4 hn5 hgrow4 hl3;by_cases hcr:cap=r
                           · go_wp2_with (at_builtin;go_must (refine wpList_append_own_at _ rfl _ _ _ rfl w.heap.size 3 i0 (.int .i64 0) 1 8 Tryz.underlying207 hi hz0 hz1 hz2 rfl (by decide) (.slice (some ⟨g2,0,none⟩) (r+1) cap2) (r+1) (dW (l.take r)++[.int .i64 (n+Q)]) rfl hown4 ⟨g,0,none⟩ (l.length-r) _ (dW (l.drop r)) rfl (by simp[dW]) (by rw[List.drop_eq_nil_of_le (by omega)];simp[dW]) (rO _) (by unfold maxLen;omega) (by omega) (by omega) ?_))
                             intro v3 w3 hown5 hgrow5 hnil5 hat5;have hB5:Below w.heap.size w w3:=hB4.grown hgrow5 (by omega) (fun k e=>(hown4.lt k e).1);have hown6:w3.ownsRow w.heap.size 3 1 v3 (l.length+1) (dW (Sx.dY l r (n+Q))):=by have h:=hown5;rw[show r+1+(l.length-r)=l.length+1 from by omega] at h;simpa[dW,Sx.dY] using h
                             obtain⟨g3,cap3,rfl,hg31,hg32⟩:=hown6.form (by omega);clear hat5 hnil5 hgrow5 hown5;go_wp2_with (go_at_call 205;go_must (refine(fO _ _ _ _ (by omega) (by omega) (by omega) (by omega)).mono ?_;rintro e w' ⟨rfl,rfl⟩))
                             refine⟨⟨Sx.dY l r (n+Q),q+1,_,_,r+1,false,by go_num,rfl,rfl,rfl,rfl,by omega,by rw[Sx.bV];omega,.inl (by rw[Sx.bV];omega),hab.1,hab.2,by omega,by omega,by omega,by rw[Sx.bV];omega,BD HLV2.out _ _ (by omega) (by omega),HMO.out,by rw[Sx.bV];exact hown6,hB5⟩,by simp[intOf];omega⟩
                           · go_wp2_with (at_builtin;go_must (refine wpList_append_own_at _ rfl _ _ _ rfl w.heap.size 3 i0 (.int .i64 0) 1 8 Tryz.underlying207 hi hz0 hz1 hz2 rfl (by decide) (.slice (some ⟨g2,0,none⟩) (r+1) cap2) (r+1) (dW (l.take r)++[.int .i64 (n+Q)]) rfl hown4 ⟨g,r,none⟩ (l.length-r) _ (dW (l.drop r)) rfl (by simp[dW]) HN5.out (rO _) (by unfold maxLen;omega) (by omega) (by omega) ?_))
                             intro v3 w3 hown5 hgrow5 hnil5 hat5;have hB5:Below w.heap.size w w3:=hB4.grown hgrow5 (by omega) (fun k e=>(hown4.lt k e).1);have hown6:w3.ownsRow w.heap.size 3 1 v3 (l.length+1) (dW (Sx.dY l r (n+Q))):=by have h:=hown5;rw[show r+1+(l.length-r)=l.length+1 from by omega] at h;simpa[dW,Sx.dY] using h
                             obtain⟨g3,cap3,rfl,hg31,hg32⟩:=hown6.form (by omega);clear hat5 hnil5 hgrow5 hown5;go_wp2_with (go_at_call 205;go_must (refine(fO _ _ _ _ (by omega) (by omega) (by omega) (by omega)).mono ?_;rintro e w' ⟨rfl,rfl⟩))
                             refine⟨⟨Sx.dY l r (n+Q),q+1,_,_,r+1,false,by go_num,rfl,rfl,rfl,rfl,by omega,by rw[Sx.bV];omega,.inl (by rw[Sx.bV];omega),hab.1,hab.2,by omega,by omega,by omega,by rw[Sx.bV];omega,BD HLV2.out _ _ (by omega) (by omega),HMO.out,by rw[Sx.bV];exact hown6,hB5⟩,by simp[intOf];omega⟩
                     · have hst:=HWT.out.step v t (by omega) (by omega) t1 t2;have hbd:=hst.bd (by omega);have HST:=hide hst;have hwm:wt*(36-t)≤2821109907456:=by omega
                       have hwm1:1≤wt*(36-t):=by omega
                       clear hst hbd;go_wp2_with (first | (go_at_call 203;go_must (refine(eJ _ _).mono ?_;rintro e w' ⟨rfl,rfl⟩;rw[HVAL.out])) | (go_at_call 204;go_must (refine(eF _ _ _ (by omega) (by omega) (by omega) (by omega)).mono ?_;rintro e w' ⟨rfl,rfl⟩;rw[HT.out])))
                       refine⟨⟨q+1,k2+1,_,_,by go_num,rfl,rfl,by go_num,by omega,by omega,by omega,by omega,by omega,hD1,hwm1,hwm,HST.out,?_⟩,by simp[intOf];omega⟩;rw[←HNUM.out,Sx.yW _ _ _ _ _ q (by rw[HL.out];exact hqe) hk7 (by rw[HBY.out,HVAL.out];omega) (by rw[HBY.out,HVAL.out,HT.out];omega),HBY.out,HVAL.out,HT.out]
               · go_wp2;go_ret2;exact⟨hB2,.inl ⟨FAILS.out (by rw[←HNUM.out];exact Sx.II _ _ _ _ _ q (by rw[HL.out];omega)),rfl⟩⟩
          · have hpe2:p=s.size:=by omega
            have hl0l:0<l.length:=by omega
            obtain⟨g,cap,rfl,hg1,hg2⟩:=hown2.form hl0l;obtain⟨_,_,hc1,hc2,_,hc4,hcl⟩:=bR hown2;have hrd:∀ j (h:j<l.length),wr.cell? ⟨g,0+j,none⟩=some (.int .i64 l[j]):=by
             intro j h;have:=hcl j (by simp[dW];exact h);rw[Nat.zero_add,this];simp[dW]
            have HRD:=hide hrd;have hdl:Sx.dec s.data.toList=some l:=by
             rw[←HQ.out,List.drop_eq_nil_of_le (by rw[HL.out];omega)];rfl
            have HDL:=hide hdl;clear hcl hrd hdl hne;go_wp2_with (go_at_call 206;go_must (refine(yJ l g 0 cap _ hl0l (by omega) hc4 HRD.out HLV2.out).mono ?_;rintro e w1 ⟨rfl,hB4,_⟩))
            go_ret2;refine⟨hB2.trans (hB4.mono hsz2),.inr ⟨l,_,HDL.out,hl0l,by omega,HLV2.out,?_,aD hown2 hB4⟩⟩;rw[ByteArray.toList_eq];rfl
end Go.Proofs.YtgohllfpceeboabGreatDoor
