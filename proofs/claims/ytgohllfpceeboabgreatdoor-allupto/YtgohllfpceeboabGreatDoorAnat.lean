import Derived.Test.YtgohllfpceeboabGreatDoorAnaf
import Derived.Test.YtgohllfpceeboabGreatDoorAnaq
import Derived.Deep.Onto
set_option maxRecDepth 100000
set_option maxHeartbeats 4000000
namespace Go.Proofs.YtgohllfpceeboabGreatDoor
open Go.RowKit
def D8 (s:List UInt8)(B:Nat)(w:World)(e:Ending)(w':World):Prop :=
 Below B w w'∧((Sx.aF s=none∧e=.returned (.tuple #[.slice none 0 0,.bool false]))∨∃ l v,Sx.aF s=some l∧e=.returned (.tuple #[v,.bool true])∧w'.ownsRow B 3 1 v l.length (dW l))
theorem dC {s:List UInt8}{i:Nat}{pre:List Int}(hq:(Sx.aF (s.drop i)).map (pre ++ ·)=Sx.aF s)(hlt:i<s.length)(ho:Sx.one (s.drop i)=none):Sx.aF s=none:=by
 rw[←hq,Sx.lI _ (by intro h;have:=congrArg List.length h;simp at this;omega) ho];rfl
theorem jM {s:List UInt8}{i p:Nat}{pre:List Int}{c:Int}(hq:(Sx.aF (s.drop i)).map (pre ++ ·)=Sx.aF s)(ho:Sx.one (s.drop i)=some (c,s.drop p)):(Sx.aF (s.drop p)).map ((pre++[c]) ++ ·)=Sx.aF s:=by
 rw[←hq,Sx.iQ _ _ _ ho,Option.map_map];congr 1;funext x;simp
theorem qJ (s:ByteArray)(i:Nat)(_h:i<s.size)(h':i<s.data.toList.length):s.data.toList[i]=s[i]:=by
 simp;rfl
theorem UF (s:ByteArray)(w:World)(hs:s.size≤1000) :
 Calls Tryz.prog 201 #[.string s] w (D8 s.data.toList w.heap.size w):=by
 obtain⟨i0,hi,hz0,hz1,hz2⟩:=info_parts Tryz.info3;have hlen:s.data.toList.length=s.size:=by simp
 have HL:=hide hlen;clear hlen;go_enter Tryz.func201,Tryz.ntmps201;go_wp2
 go_loopw [4,5] (fun x n wr=>∃ (i:Nat) (pre:List Int),n=.int .i64 i∧i≤s.size∧pre.length≤i∧wr.ownsRow w.heap.size 3 1 x pre.length (dW pre)∧Below w.heap.size w wr∧(Sx.aF (s.data.toList.drop i)).map (pre ++ ·)=Sx.aF s.data.toList) (fun _ n _=>(s.size-intOf n).toNat)
 case atStart=>exact⟨0,[],rfl,by omega,by simp,World.ownsRow_nil w _ 3 1,Below.refl _ _,by simp⟩
 case round =>
  obtain⟨i,pre,rfl,hk,hp,hown,hB,hq⟩:=hrel;have HQ:=hide hq;clear hq;have hsz:=hB.size;by_cases hlt:i<s.size
  · have hx:=s[i].toNat_lt;have hi2:i<s.data.toList.length:=by rw[HL.out];exact hlt
    have hb:=qJ s i hlt hi2;have HBY:=hide hb;clear hb;by_cases c1:s[i].toNat<128
    · skip
      have hlead:Hid (Sx.lead s.data.toList[i]=some (0,(s[i].toNat:Int),0)):=by
       refine hide ?_;rw[HBY.out];unfold Sx.lead;rw[if_pos c1]
      go_wp2
      go_loop [5,6,9] (fun n c k=>∃ (j p:Nat) (cc:Int),n=.int .i64 p∧c=.int .i64 cc∧k=.int .i64 j∧j≤0∧p≤s.size∧i+1+j≤p∧p≤i+1+j∧0≤cc∧cc≤67108863∧cc≤Sx.cb j∧Sx.cB (0-j) cc (s.data.toList.drop p)=Sx.cB 0 ((s[i].toNat:Int)) (s.data.toList.drop (i+1))) (fun _ _ k=>(0-intOf k).toNat)
      case atStart=>exact⟨0,i+1,_,by go_num,rfl,rfl,by omega,by omega,by omega,by omega,by omega,by omega,by simp[Sx.cb];omega,rfl⟩
      case round =>
       obtain⟨j,p,cc,rfl,rfl,rfl,hj,hps,hp1,hp2,hc0,hc1,hcb,hcq⟩:=hrel;have HCQ:=hide hcq;have HCB:=hide hcb;clear hcq hcb;by_cases hjm:j<0
       · omega
       · have hjM:0-j=0:=by omega
         have hcf:Sx.cB 0 ((s[i].toNat:Int)) (s.data.toList.drop (i+1))=some (cc,s.data.toList.drop p):=by rw[←HCQ.out,hjM];rfl
         have HCF:=hide hcf;clear hcf hjM;have bads:∀ hbad:cc<0∨1114111<cc∨(55296≤cc∧cc≤57343),Sx.aF s.data.toList=none:=fun hbad=>dC HQ.out hi2 (by rw[Sx.dQ _ i hi2 _ _ _ hlead.out];exact Sx.qM _ _ _ _ _ _ HCF.out hbad);have BADS:=hide bads;clear bads;by_cases d1:cc<0
         · omega
         · by_cases d2:1114111<cc
           · go_wp2;go_ret2;exact⟨hB,.inl ⟨BADS.out (by omega),rfl⟩⟩
           · by_cases d3:55296≤cc
             · by_cases d4:cc≤57343
               · go_wp2;go_ret2;exact⟨hB,.inl ⟨BADS.out (by omega),rfl⟩⟩
               · have ho:Sx.one (s.data.toList.drop i)=some (cc,s.data.toList.drop p):=by rw[Sx.dQ _ i hi2 _ _ _ hlead.out];exact Sx.lK _ _ _ _ _ _ HCF.out (by omega)
                 have HO:=hide ho;clear ho;go_wp2_with (at_builtin;go_must (refine wpList_append_lies _ rfl _ _ _ rfl w.heap.size 3 i0 (.int .i64 0) 1 8 Tryz.underlying207 hi hz0 hz1 hz2 rfl (by decide) _ _ _ rfl (hown.alloc _) ⟨wr.heap.size,0,none⟩ 1 1 [.int .i64 cc] rfl rfl (cell_one_new _ _ _) (by simp[Value.oneCell']) (by omega) (by unfold maxLen;omega) (by omega) (by simp;omega) _ rfl ?_;intro g cap w1 hown1 hgrow hat hlt1))
                 exact⟨⟨p,pre++[cc],rfl,hps,by simp;omega,by rw[gY,List.length_append];exact hown1,aH hB hsz hown hgrow,jM HQ.out HO.out⟩,by simp[intOf];omega⟩
             · have ho:Sx.one (s.data.toList.drop i)=some (cc,s.data.toList.drop p):=by rw[Sx.dQ _ i hi2 _ _ _ hlead.out];exact Sx.lK _ _ _ _ _ _ HCF.out (by omega)
               have HO:=hide ho;clear ho;go_wp2_with (at_builtin;go_must (refine wpList_append_lies _ rfl _ _ _ rfl w.heap.size 3 i0 (.int .i64 0) 1 8 Tryz.underlying207 hi hz0 hz1 hz2 rfl (by decide) _ _ _ rfl (hown.alloc _) ⟨wr.heap.size,0,none⟩ 1 1 [.int .i64 cc] rfl rfl (cell_one_new _ _ _) (by simp[Value.oneCell']) (by omega) (by unfold maxLen;omega) (by omega) (by simp;omega) _ rfl ?_;intro g cap w1 hown1 hgrow hat hlt1))
               exact⟨⟨p,pre++[cc],rfl,hps,by simp;omega,by rw[gY,List.length_append];exact hown1,aH hB hsz hown hgrow,jM HQ.out HO.out⟩,by simp[intOf];omega⟩
    · by_cases c2:192≤s[i].toNat
      · by_cases c3:s[i].toNat<224
        · skip
          have hlead:Hid (Sx.lead s.data.toList[i]=some (1,(s[i].toNat:Int)-192,128)):=by
           refine hide ?_;rw[HBY.out];unfold Sx.lead;rw[if_neg (by omega),if_pos (by omega)]
          go_wp2
          go_loop [5,6,9] (fun n c k=>∃ (j p:Nat) (cc:Int),n=.int .i64 p∧c=.int .i64 cc∧k=.int .i64 j∧j≤1∧p≤s.size∧i+1+j≤p∧p≤i+1+j∧0≤cc∧cc≤67108863∧cc≤Sx.cb j∧Sx.cB (1-j) cc (s.data.toList.drop p)=Sx.cB 1 ((s[i].toNat:Int)-192) (s.data.toList.drop (i+1))) (fun _ _ k=>(1-intOf k).toNat)
          case atStart=>exact⟨0,i+1,_,by go_num,rfl,rfl,by omega,by omega,by omega,by omega,by omega,by omega,by simp[Sx.cb];omega,rfl⟩
          case round =>
           obtain⟨j,p,cc,rfl,rfl,rfl,hj,hps,hp1,hp2,hc0,hc1,hcb,hcq⟩:=hrel;have HCQ:=hide hcq;have HCB:=hide hcb;clear hcq hcb;by_cases hjm:j<1
           · by_cases hpl:p<s.size
             · have hyp:=qJ s p hpl (by rw[HL.out];exact hpl);have HY:=hide hyp;clear hyp;have hyl:=s[p].toNat_lt;by_cases g1:128≤s[p].toNat
               · by_cases g2:s[p].toNat<192
                 · have hstep:=Sx.AS cc j s[p].toNat HCB.out (by omega);have hle:=Sx.WU (j+1) (by omega);have HST:=hide hstep;have hcc2:cc*64+(s[p].toNat:Int)-128≤67108863:=by omega
                   clear hstep hle;go_wp2;refine⟨⟨u2,u3,_,_,_,⟨j+1,p+1,by go_num,_,rfl,by go_num,by omega,by omega,by omega,by omega,by omega,hcc2,HST.out,?_⟩,rfl,rfl,rfl,rfl,rfl⟩,by simp[intOf];omega⟩;rw[←HCQ.out];have hm:1-j=(1-(j+1))+1:=by omega
                   rw[hm,Sx.nJ _ cc _ p (by rw[HL.out];exact hpl) (by rw[HY.out];exact g1) (by rw[HY.out];exact g2),HY.out]
                 · go_wp2;go_ret2;refine⟨hB,.inl ⟨dC HQ.out hi2 ?_,rfl⟩⟩;rw[Sx.dQ _ i hi2 _ _ _ hlead.out,Sx.rest_none];rw[←HCQ.out,show 1-j=(1-(j+1))+1 from by omega,Sx.jO _ cc _ p (by rw[HL.out];exact hpl) (by rw[HY.out];omega)]
               · go_wp2;go_ret2;refine⟨hB,.inl ⟨dC HQ.out hi2 ?_,rfl⟩⟩;rw[Sx.dQ _ i hi2 _ _ _ hlead.out,Sx.rest_none];rw[←HCQ.out,show 1-j=(1-(j+1))+1 from by omega,Sx.jO _ cc _ p (by rw[HL.out];exact hpl) (by rw[HY.out];omega)]
             · go_wp2;go_ret2;refine⟨hB,.inl ⟨dC HQ.out hi2 ?_,rfl⟩⟩;rw[Sx.dQ _ i hi2 _ _ _ hlead.out,Sx.rest_none];rw[←HCQ.out,show 1-j=(1-(j+1))+1 from by omega,Sx.nQ _ cc _ p (by rw[HL.out];omega)]
           · have hjM:1-j=0:=by omega
             have hcf:Sx.cB 1 ((s[i].toNat:Int)-192) (s.data.toList.drop (i+1))=some (cc,s.data.toList.drop p):=by rw[←HCQ.out,hjM];rfl
             have HCF:=hide hcf;clear hcf hjM;have bads:∀ hbad:cc<128∨1114111<cc∨(55296≤cc∧cc≤57343),Sx.aF s.data.toList=none:=fun hbad=>dC HQ.out hi2 (by rw[Sx.dQ _ i hi2 _ _ _ hlead.out];exact Sx.qM _ _ _ _ _ _ HCF.out hbad);have BADS:=hide bads;clear bads;by_cases d1:cc<128
             · go_wp2;go_ret2;exact⟨hB,.inl ⟨BADS.out (by omega),rfl⟩⟩
             · by_cases d2:1114111<cc
               · go_wp2;go_ret2;exact⟨hB,.inl ⟨BADS.out (by omega),rfl⟩⟩
               · by_cases d3:55296≤cc
                 · by_cases d4:cc≤57343
                   · go_wp2;go_ret2;exact⟨hB,.inl ⟨BADS.out (by omega),rfl⟩⟩
                   · have ho:Sx.one (s.data.toList.drop i)=some (cc,s.data.toList.drop p):=by rw[Sx.dQ _ i hi2 _ _ _ hlead.out];exact Sx.lK _ _ _ _ _ _ HCF.out (by omega)
                     have HO:=hide ho;clear ho;go_wp2_with (at_builtin;go_must (refine wpList_append_lies _ rfl _ _ _ rfl w.heap.size 3 i0 (.int .i64 0) 1 8 Tryz.underlying207 hi hz0 hz1 hz2 rfl (by decide) _ _ _ rfl (hown.alloc _) ⟨wr.heap.size,0,none⟩ 1 1 [.int .i64 cc] rfl rfl (cell_one_new _ _ _) (by simp[Value.oneCell']) (by omega) (by unfold maxLen;omega) (by omega) (by simp;omega) _ rfl ?_;intro g cap w1 hown1 hgrow hat hlt1))
                     exact⟨⟨p,pre++[cc],rfl,hps,by simp;omega,by rw[gY,List.length_append];exact hown1,aH hB hsz hown hgrow,jM HQ.out HO.out⟩,by simp[intOf];omega⟩
                 · have ho:Sx.one (s.data.toList.drop i)=some (cc,s.data.toList.drop p):=by rw[Sx.dQ _ i hi2 _ _ _ hlead.out];exact Sx.lK _ _ _ _ _ _ HCF.out (by omega)
                   have HO:=hide ho;clear ho;go_wp2_with (at_builtin;go_must (refine wpList_append_lies _ rfl _ _ _ rfl w.heap.size 3 i0 (.int .i64 0) 1 8 Tryz.underlying207 hi hz0 hz1 hz2 rfl (by decide) _ _ _ rfl (hown.alloc _) ⟨wr.heap.size,0,none⟩ 1 1 [.int .i64 cc] rfl rfl (cell_one_new _ _ _) (by simp[Value.oneCell']) (by omega) (by unfold maxLen;omega) (by omega) (by simp;omega) _ rfl ?_;intro g cap w1 hown1 hgrow hat hlt1))
                   exact⟨⟨p,pre++[cc],rfl,hps,by simp;omega,by rw[gY,List.length_append];exact hown1,aH hB hsz hown hgrow,jM HQ.out HO.out⟩,by simp[intOf];omega⟩
        · by_cases c4:s[i].toNat<240
          · skip
            have hlead:Hid (Sx.lead s.data.toList[i]=some (2,(s[i].toNat:Int)-224,2048)):=by
             refine hide ?_;rw[HBY.out];unfold Sx.lead;rw[if_neg (by omega),if_neg (by omega),if_pos (by omega)]
            go_wp2
            go_loop [5,6,9] (fun n c k=>∃ (j p:Nat) (cc:Int),n=.int .i64 p∧c=.int .i64 cc∧k=.int .i64 j∧j≤2∧p≤s.size∧i+1+j≤p∧p≤i+1+j∧0≤cc∧cc≤67108863∧cc≤Sx.cb j∧Sx.cB (2-j) cc (s.data.toList.drop p)=Sx.cB 2 ((s[i].toNat:Int)-224) (s.data.toList.drop (i+1))) (fun _ _ k=>(2-intOf k).toNat)
            case atStart=>exact⟨0,i+1,_,by go_num,rfl,rfl,by omega,by omega,by omega,by omega,by omega,by omega,by simp[Sx.cb];omega,rfl⟩
            case round =>
             obtain⟨j,p,cc,rfl,rfl,rfl,hj,hps,hp1,hp2,hc0,hc1,hcb,hcq⟩:=hrel;have HCQ:=hide hcq;have HCB:=hide hcb;clear hcq hcb;by_cases hjm:j<2
             · by_cases hpl:p<s.size
               · have hyp:=qJ s p hpl (by rw[HL.out];exact hpl);have HY:=hide hyp;clear hyp;have hyl:=s[p].toNat_lt;by_cases g1:128≤s[p].toNat
                 · by_cases g2:s[p].toNat<192
                   · have hstep:=Sx.AS cc j s[p].toNat HCB.out (by omega);have hle:=Sx.WU (j+1) (by omega);have HST:=hide hstep;have hcc2:cc*64+(s[p].toNat:Int)-128≤67108863:=by omega
                     clear hstep hle;go_wp2;refine⟨⟨u2,u3,_,_,_,⟨j+1,p+1,by go_num,_,rfl,by go_num,by omega,by omega,by omega,by omega,by omega,hcc2,HST.out,?_⟩,rfl,rfl,rfl,rfl,rfl⟩,by simp[intOf];omega⟩;rw[←HCQ.out];have hm:2-j=(2-(j+1))+1:=by omega
                     rw[hm,Sx.nJ _ cc _ p (by rw[HL.out];exact hpl) (by rw[HY.out];exact g1) (by rw[HY.out];exact g2),HY.out]
                   · go_wp2;go_ret2;refine⟨hB,.inl ⟨dC HQ.out hi2 ?_,rfl⟩⟩;rw[Sx.dQ _ i hi2 _ _ _ hlead.out,Sx.rest_none];rw[←HCQ.out,show 2-j=(2-(j+1))+1 from by omega,Sx.jO _ cc _ p (by rw[HL.out];exact hpl) (by rw[HY.out];omega)]
                 · go_wp2;go_ret2;refine⟨hB,.inl ⟨dC HQ.out hi2 ?_,rfl⟩⟩;rw[Sx.dQ _ i hi2 _ _ _ hlead.out,Sx.rest_none];rw[←HCQ.out,show 2-j=(2-(j+1))+1 from by omega,Sx.jO _ cc _ p (by rw[HL.out];exact hpl) (by rw[HY.out];omega)]
               · go_wp2;go_ret2;refine⟨hB,.inl ⟨dC HQ.out hi2 ?_,rfl⟩⟩;rw[Sx.dQ _ i hi2 _ _ _ hlead.out,Sx.rest_none];rw[←HCQ.out,show 2-j=(2-(j+1))+1 from by omega,Sx.nQ _ cc _ p (by rw[HL.out];omega)]
             · have hjM:2-j=0:=by omega
               have hcf:Sx.cB 2 ((s[i].toNat:Int)-224) (s.data.toList.drop (i+1))=some (cc,s.data.toList.drop p):=by rw[←HCQ.out,hjM];rfl
               have HCF:=hide hcf;clear hcf hjM;have bads:∀ hbad:cc<2048∨1114111<cc∨(55296≤cc∧cc≤57343),Sx.aF s.data.toList=none:=fun hbad=>dC HQ.out hi2 (by rw[Sx.dQ _ i hi2 _ _ _ hlead.out];exact Sx.qM _ _ _ _ _ _ HCF.out hbad);have BADS:=hide bads;clear bads;by_cases d1:cc<2048
               · go_wp2;go_ret2;exact⟨hB,.inl ⟨BADS.out (by omega),rfl⟩⟩
               · by_cases d2:1114111<cc
                 · go_wp2;go_ret2;exact⟨hB,.inl ⟨BADS.out (by omega),rfl⟩⟩
                 · by_cases d3:55296≤cc
                   · by_cases d4:cc≤57343
                     · go_wp2;go_ret2;exact⟨hB,.inl ⟨BADS.out (by omega),rfl⟩⟩
                     · have ho:Sx.one (s.data.toList.drop i)=some (cc,s.data.toList.drop p):=by rw[Sx.dQ _ i hi2 _ _ _ hlead.out];exact Sx.lK _ _ _ _ _ _ HCF.out (by omega)
                       have HO:=hide ho;clear ho;go_wp2_with (at_builtin;go_must (refine wpList_append_lies _ rfl _ _ _ rfl w.heap.size 3 i0 (.int .i64 0) 1 8 Tryz.underlying207 hi hz0 hz1 hz2 rfl (by decide) _ _ _ rfl (hown.alloc _) ⟨wr.heap.size,0,none⟩ 1 1 [.int .i64 cc] rfl rfl (cell_one_new _ _ _) (by simp[Value.oneCell']) (by omega) (by unfold maxLen;omega) (by omega) (by simp;omega) _ rfl ?_;intro g cap w1 hown1 hgrow hat hlt1))
                       exact⟨⟨p,pre++[cc],rfl,hps,by simp;omega,by rw[gY,List.length_append];exact hown1,aH hB hsz hown hgrow,jM HQ.out HO.out⟩,by simp[intOf];omega⟩
                   · have ho:Sx.one (s.data.toList.drop i)=some (cc,s.data.toList.drop p):=by rw[Sx.dQ _ i hi2 _ _ _ hlead.out];exact Sx.lK _ _ _ _ _ _ HCF.out (by omega)
                     have HO:=hide ho;clear ho;go_wp2_with (at_builtin;go_must (refine wpList_append_lies _ rfl _ _ _ rfl w.heap.size 3 i0 (.int .i64 0) 1 8 Tryz.underlying207 hi hz0 hz1 hz2 rfl (by decide) _ _ _ rfl (hown.alloc _) ⟨wr.heap.size,0,none⟩ 1 1 [.int .i64 cc] rfl rfl (cell_one_new _ _ _) (by simp[Value.oneCell']) (by omega) (by unfold maxLen;omega) (by omega) (by simp;omega) _ rfl ?_;intro g cap w1 hown1 hgrow hat hlt1))
                     exact⟨⟨p,pre++[cc],rfl,hps,by simp;omega,by rw[gY,List.length_append];exact hown1,aH hB hsz hown hgrow,jM HQ.out HO.out⟩,by simp[intOf];omega⟩
          · by_cases c5:s[i].toNat<248
            · skip
              have hlead:Hid (Sx.lead s.data.toList[i]=some (3,(s[i].toNat:Int)-240,65536)):=by
               refine hide ?_;rw[HBY.out];unfold Sx.lead;rw[if_neg (by omega),if_neg (by omega),if_neg (by omega),if_pos (by omega)]
              go_wp2
              go_loop [5,6,9] (fun n c k=>∃ (j p:Nat) (cc:Int),n=.int .i64 p∧c=.int .i64 cc∧k=.int .i64 j∧j≤3∧p≤s.size∧i+1+j≤p∧p≤i+1+j∧0≤cc∧cc≤67108863∧cc≤Sx.cb j∧Sx.cB (3-j) cc (s.data.toList.drop p)=Sx.cB 3 ((s[i].toNat:Int)-240) (s.data.toList.drop (i+1))) (fun _ _ k=>(3-intOf k).toNat)
              case atStart=>exact⟨0,i+1,_,by go_num,rfl,rfl,by omega,by omega,by omega,by omega,by omega,by omega,by simp[Sx.cb];omega,rfl⟩
              case round =>
               obtain⟨j,p,cc,rfl,rfl,rfl,hj,hps,hp1,hp2,hc0,hc1,hcb,hcq⟩:=hrel;have HCQ:=hide hcq;have HCB:=hide hcb;clear hcq hcb;by_cases hjm:j<3
               · by_cases hpl:p<s.size
                 · have hyp:=qJ s p hpl (by rw[HL.out];exact hpl);have HY:=hide hyp;clear hyp;have hyl:=s[p].toNat_lt;by_cases g1:128≤s[p].toNat
                   · by_cases g2:s[p].toNat<192
                     · have hstep:=Sx.AS cc j s[p].toNat HCB.out (by omega);have hle:=Sx.WU (j+1) (by omega);have HST:=hide hstep;have hcc2:cc*64+(s[p].toNat:Int)-128≤67108863:=by omega
                       clear hstep hle;go_wp2;refine⟨⟨u2,u3,_,_,_,⟨j+1,p+1,by go_num,_,rfl,by go_num,by omega,by omega,by omega,by omega,by omega,hcc2,HST.out,?_⟩,rfl,rfl,rfl,rfl,rfl⟩,by simp[intOf];omega⟩;rw[←HCQ.out];have hm:3-j=(3-(j+1))+1:=by omega
                       rw[hm,Sx.nJ _ cc _ p (by rw[HL.out];exact hpl) (by rw[HY.out];exact g1) (by rw[HY.out];exact g2),HY.out]
                     · go_wp2;go_ret2;refine⟨hB,.inl ⟨dC HQ.out hi2 ?_,rfl⟩⟩;rw[Sx.dQ _ i hi2 _ _ _ hlead.out,Sx.rest_none];rw[←HCQ.out,show 3-j=(3-(j+1))+1 from by omega,Sx.jO _ cc _ p (by rw[HL.out];exact hpl) (by rw[HY.out];omega)]
                   · go_wp2;go_ret2;refine⟨hB,.inl ⟨dC HQ.out hi2 ?_,rfl⟩⟩;rw[Sx.dQ _ i hi2 _ _ _ hlead.out,Sx.rest_none];rw[←HCQ.out,show 3-j=(3-(j+1))+1 from by omega,Sx.jO _ cc _ p (by rw[HL.out];exact hpl) (by rw[HY.out];omega)]
                 · go_wp2;go_ret2;refine⟨hB,.inl ⟨dC HQ.out hi2 ?_,rfl⟩⟩;rw[Sx.dQ _ i hi2 _ _ _ hlead.out,Sx.rest_none];rw[←HCQ.out,show 3-j=(3-(j+1))+1 from by omega,Sx.nQ _ cc _ p (by rw[HL.out];omega)]
               · have hjM:3-j=0:=by omega
                 have hcf:Sx.cB 3 ((s[i].toNat:Int)-240) (s.data.toList.drop (i+1))=some (cc,s.data.toList.drop p):=by rw[←HCQ.out,hjM];rfl
                 have HCF:=hide hcf;clear hcf hjM;have bads:∀ hbad:cc<65536∨1114111<cc∨(55296≤cc∧cc≤57343),Sx.aF s.data.toList=none:=fun hbad=>dC HQ.out hi2 (by rw[Sx.dQ _ i hi2 _ _ _ hlead.out];exact Sx.qM _ _ _ _ _ _ HCF.out hbad);have BADS:=hide bads;clear bads;by_cases d1:cc<65536
                 · go_wp2;go_ret2;exact⟨hB,.inl ⟨BADS.out (by omega),rfl⟩⟩
                 · by_cases d2:1114111<cc
                   · go_wp2;go_ret2;exact⟨hB,.inl ⟨BADS.out (by omega),rfl⟩⟩
                   · have ho:Sx.one (s.data.toList.drop i)=some (cc,s.data.toList.drop p):=by rw[Sx.dQ _ i hi2 _ _ _ hlead.out];exact Sx.lK _ _ _ _ _ _ HCF.out (by omega)
                     have HO:=hide ho;clear ho;go_wp2_with (at_builtin;go_must (refine wpList_append_lies _ rfl _ _ _ rfl w.heap.size 3 i0 (.int .i64 0) 1 8 Tryz.underlying207 hi hz0 hz1 hz2 rfl (by decide) _ _ _ rfl (hown.alloc _) ⟨wr.heap.size,0,none⟩ 1 1 [.int .i64 cc] rfl rfl (cell_one_new _ _ _) (by simp[Value.oneCell']) (by omega) (by unfold maxLen;omega) (by omega) (by simp;omega) _ rfl ?_;intro g cap w1 hown1 hgrow hat hlt1))
                     exact⟨⟨p,pre++[cc],rfl,hps,by simp;omega,by rw[gY,List.length_append];exact hown1,aH hB hsz hown hgrow,jM HQ.out HO.out⟩,by simp[intOf];omega⟩
            · skip
              have hlead:Hid (Sx.lead s.data.toList[i]=none):=by
               refine hide ?_;rw[HBY.out];unfold Sx.lead;rw[if_neg (by omega),if_neg (by omega),if_neg (by omega),if_neg (by omega)]
              go_wp2;go_ret2;exact⟨hB,.inl ⟨dC HQ.out hi2 (Sx.ME _ i hi2 hlead.out),rfl⟩⟩
      · skip
        have hlead:Hid (Sx.lead s.data.toList[i]=none):=by
         refine hide ?_;rw[HBY.out];unfold Sx.lead;rw[if_neg (by omega),if_neg (by omega),if_neg (by omega),if_neg (by omega)]
        go_wp2;go_ret2;exact⟨hB,.inl ⟨dC HQ.out hi2 (Sx.ME _ i hi2 hlead.out),rfl⟩⟩
  · go_wp2;go_ret2;refine⟨hB,.inr ⟨pre,_,?_,rfl,hown⟩⟩;rw[←HQ.out,List.drop_eq_nil_of_le (by rw[HL.out];omega)];simp[Sx.dA]
def nF (s:List UInt8)(B:Nat)(w:World)(e:Ending)(w':World):Prop :=
 Below B w w'∧∃ v,e=.returned (.tuple #[v,.int .i64 (Sx.aI s).2])∧w'.ownsRow B 9 1 v (Sx.aI s).1.length (bB (Sx.aI s).1)∧(Sx.aI s).1.length≤6∧(∀ x∈(Sx.aI s).1,x.length≤20)
theorem RP {s:List UInt8}(hs:¬ 60<s.length)(h:Sx.aF s=none):Sx.aI s=([],2):=by unfold Sx.aI;rw[if_neg hs,h]
theorem mO {s:List UInt8}{l:List Int}(hs:¬ 60<s.length)(h:Sx.aF s=some l)(hg:Sx.bD l []=none):Sx.aI s=([],2):=by unfold Sx.aI;rw[if_neg hs,h];simp only[hg]
theorem ZE {s:List UInt8}{l:List Int}{h:List (List UInt8)}(hs:¬ 60<s.length)(hl:Sx.aF s=some l)(hg:Sx.bD l []=some h):Sx.aI s=Sx.iD h:=by unfold Sx.aI;rw[if_neg hs,hl];simp only[hg]
theorem eN {s:List UInt8}{B:Nat}{w w':World}{n:Int}(h:Sx.aI s=([],n))(hb:Below B w w')(e:Ending)(he:e=.returned (.tuple #[.slice none 0 0,.int .i64 n])):nF s B w e w':=by
 refine⟨hb,.slice none 0 0,?_,?_,?_,?_⟩
 · rw[h,he]
 · rw[h];exact World.ownsRow_nil _ _ 9 1
 · rw[h];simp
 · rw[h];intro x hx;simp at hx
theorem E7:∀ (f:Nat) (s:List UInt8) (l:List Int),Sx.tJ f s=some l→l.length≤s.length∧∀ c∈l,0≤c∧c≤1114111:=by
 intro f
 induction f with
 | zero =>
   intro s l h;cases s with
   | nil=>simp only[Sx.tJ,Option.some.injEq] at h;subst h;simp
   | cons x s=>simp[Sx.tJ] at h
 | succ f ih =>
   intro s l h;cases s with
   | nil=>simp only[Sx.tJ,Option.some.injEq] at h;subst h;simp
   | cons x s =>
     simp only[Sx.tJ] at h;cases ho:Sx.one (x::s) with
     | none=>rw[ho] at h;simp at h
     | some p =>
       obtain⟨c,r⟩:=p;rw[ho] at h;simp only[Option.map_eq_some_iff] at h;obtain⟨l2,h2,rfl⟩:=h;have h3:=ih r l2 h2;have h4:=Sx.CH x s c r ho;refine⟨by simp only[List.length_cons];omega,?_⟩;intro y hy;rcases List.mem_cons.1 hy with rfl | hy
       · simp only[Sx.one] at ho;split at ho
         · cases ho
         · rename_i m c0 least hlead;unfold Sx.rest at ho;split at ho
           · cases ho
           · rename_i c' s' hcf;split at ho
             · cases ho
             · rename_i hb;simp only[Option.some.injEq,Prod.mk.injEq] at ho;have hlo:0≤least:=by
                unfold Sx.lead at hlead
                repeat' split at hlead
                all_goals (simp only[Option.some.injEq,Prod.mk.injEq,reduceCtorEq] at hlead;try omega)
               omega
       · exact h3.2 y hy
theorem RD:∀ (l cur:List Int) (h:List (List UInt8)),Sx.bD l cur=some h→0<h.length:=by
 intro l
 induction l with
 | nil =>
   intro cur h hh;simp only[Sx.bD] at hh;split at hh
   · cases hh
   · cases hh;simp
 | cons c r ih =>
   intro cur h hh;simp only[Sx.bD] at hh;split at hh
   · split at hh
     · cases hh
     · rw[Option.map_eq_some_iff] at hh;obtain⟨y,_,rfl⟩:=hh;simp
   · exact ih _ _ hh
theorem QS (l:List UInt8)(j:Nat)(h:j<l.length):Sx.lD (l.take (j+1))=(Sx.lD (l.take j) && (decide (48≤l[j].toNat) && decide (l[j].toNat≤57))):=by
 unfold Sx.lD;rw[List.take_succ_eq_append_getElem h,List.all_append];simp
theorem F9 {w:World}{B b cap:Nat}{h:List (List UInt8)}(ho:w.ownsRow B 9 1 (.slice (some ⟨b,0,none⟩) h.length cap) h.length (bB h))(k:Nat)(hk:k<h.length):w.cell? ⟨b,k,none⟩=some (.string ⟨(h.getD k []).toArray⟩):=by
 obtain⟨_,_,_,_,_,_,hc⟩:=bR ho;rw[hc k (by simp[bB];exact hk)];simp[bB,List.getElem?_eq_getElem hk]
theorem dR (s:ByteArray)(w:World):Calls Tryz.prog 147 #[.string s] w (nF s.data.toList w.heap.size w):=by
 obtain⟨i0,hi,hz0,hz1,hz2⟩:=info_parts Tryz.info9;by_cases hs:60<s.size
 · have hh:Sx.aI s.data.toList=([],1):=by unfold Sx.aI;rw[aC,if_pos hs]
   have HH:=hide hh;clear hh;go_enter Tryz.func147,Tryz.ntmps147;go_wp2;go_ret2;exact eN HH.out (Below.refl _ _) _ rfl
 · have hsl:¬ 60<s.data.toList.length:=by rw[aC];exact hs
   have HSL:=hide hsl;clear hsl;go_enter Tryz.func147,Tryz.ntmps147;go_wp2_with fail
   refine(UF s _ (by omega)).mono ?_;rintro e w1 ⟨hB1,(⟨hn,rfl⟩ | ⟨l,v,hn,rfl,hown⟩)⟩
   · have HN:=hide hn;clear hn;go_wp2;go_ret2;exact eN (RP HSL.out HN.out) hB1 _ rfl
   · have HN:=hide hn;have hll:=E7 _ _ _ hn;rw[aC] at hll;obtain⟨hll1,hll2⟩:=hll;have HLV:=hide hll2;have hsz1:=hB1.size;clear hn hll2;rcases hown.2 with ⟨rfl,hl0⟩ | ⟨g,cap,cur,rfl,hg1,hg2,hc1,hc2,hc3,hc4⟩
     · have hl1:l=[]:=List.eq_nil_of_length_eq_zero hl0;have HL1:=hide hl1;clear hl1 hl0 hown;go_wp2
       go_loopw [6,7,8,9] (fun x f a i wr=>x=.slice none 0 0∧f=.int .i64 0∧a=.int .i64 0∧i=.int .i64 0∧wr=w1) (fun _ _ _ _ _=>0)
       case atStart=>exact⟨rfl,rfl,rfl,rfl,rfl⟩
       case round =>
        obtain⟨rfl,rfl,rfl,rfl,rfl⟩:=hrel;go_wp2_with fail
        refine(vK _ _ _).mono ?_;rintro e w2 ⟨hB2,(⟨hn2,rfl⟩ | ⟨x,hn2,_,rfl⟩)⟩
        · clear hn2;go_wp2;go_ret2;exact eN (mO HSL.out HN.out (by rw[HL1.out];simp only[Sx.bD,Sx.gK])) (hB1.trans (hB2.mono hsz1)) _ rfl
        · rw[Sx.gK] at hn2;cases hn2
     · have hgl:g<w1.heap.size:=(hown.lt g rfl).2;have HOWN:=hide hown;clear hown hg2 hc3 hc4;go_wp2
       go_loopw [6,7,8,9] (fun hv fv av iv wr=>∃ (k f:Nat) (pre:List (List UInt8)),fv=.int .i64 f∧av=.int .i64 (Sx.aM pre)∧iv=.int .i64 k∧k≤l.length+1∧f≤k∧pre.length≤k∧Sx.aM pre≤21*k∧(∀ x∈pre,x.length≤20)∧Sx.HostAt l k f pre∧wr.ownsRow w1.heap.size 9 1 hv pre.length (bB pre)∧Below w1.heap.size w1 wr) (fun _ _ _ iv _=>(l.length+1-intOf iv).toNat)
       case atStart=>exact⟨0,0,[],rfl,rfl,rfl,by omega,by omega,by simp,by simp[Sx.aM],fun x hx=>by simp at hx,Sx.HostAt.zero l,World.ownsRow_nil _ _ 9 1,Below.refl _ _⟩
       case round =>
        obtain⟨k,f,pre,rfl,rfl,rfl,hk,hfk,hpk,hal,hxs,hat,hownh,hB⟩:=hrel;have HAT:=hide hat;have HXS:=hide hxs;have hszr:=hB.size;clear hat hxs;by_cases hke:k≤l.length
        · have hownl:=aD HOWN.out hB;by_cases hkl:k<l.length
          · have hcell:wr.cell? ⟨g,k,none⟩=some (.int .i64 l[k]):=by
             have:=(bR hownl).2.2.2.2.2.2 k (by simp[dW];exact hkl);rw[this];simp[dW]
            obtain⟨c,hc⟩:∃ c,l[k]=c:=⟨_,rfl⟩
            rw[hc] at hcell;have HC:=hide hc;clear hc;by_cases h46:c=46
            · subst h46;have hdot:Hid (∀ h:k<l.length,l[k]=46):=hide (fun _=>HC.out);have hbl:=Sx.sV l f k hfk hke;have HBL:=hide hbl;clear hbl;by_cases hfe:f<k
              · have hrd:∀ j (h:j<(Sx.cK l f k).length),wr.cell? ⟨g,f+j,none⟩=some (.int .i64 (Sx.cK l f k)[j]):=by
                 intro j h;have hb2:=HBL.out;rw[Sx.sR l f k j hke h];have:=(bR hownl).2.2.2.2.2.2 (f+j) (by simp[dW];omega);rw[this];simp[dW]
                have hlab:=yK (Sx.cK l f k) g f (cap-f) wr (by rw[HBL.out];omega) (by rw[HBL.out];omega) (by omega) hrd (fun c hc=>HLV.out c (List.mem_of_mem_take (List.mem_of_mem_drop hc)));rw[HBL.out] at hlab;have HLAB:=hide hlab;have hcf:¬ cap=f:=by omega
                clear hrd hlab hownl;go_wp2_with fail
                refine HLAB.out.mono ?_;rintro e w2 ⟨hB2,(⟨hn2,rfl⟩ | ⟨x,hn2,hx20,rfl⟩)⟩;all_goals
                 have HN2:=hide hn2;clear hn2
                · go_wp2;go_ret2;exact eN (mO HSL.out HN.out (HAT.out.bad hke hdot.out HN2.out)) (hB1.trans ((hB.trans (hB2.mono hszr)).mono hsz1)) _ rfl
                · have hown2:=aD hownh hB2;have hB3:=hB.trans (hB2.mono hszr);have hsz3:=hB3.size;go_wp2_with (at_builtin;go_must (refine wpList_append_lies _ rfl _ _ _ rfl w1.heap.size 9 i0 (.string ⟨#[]⟩) 1 16 Tryz.underlying51 hi hz0 hz1 hz2 rfl (by decide) _ _ _ rfl (hown2.alloc _) ⟨w2.heap.size,0,none⟩ 1 1 [.string ⟨x.toArray⟩] rfl rfl (cell_one_new _ _ _) (by simp[Value.oneCell']) (by omega) (by unfold maxLen;omega) (by omega) (by simp;omega) _ rfl ?_;intro g2 cap2 w3 hown3 hgrow hat hlt1))
                  refine⟨⟨k+1,k+1,pre++[x],by go_num,by rw[Sx.jY];go_num,by go_num,by omega,by omega,by simp;omega,by rw[Sx.jY];omega,?_,HAT.out.more hke hdot.out HN2.out,by rw[gB,List.length_append];exact hown3,aH hB3 hsz3 hown2 hgrow⟩,by simp[intOf];omega⟩;intro y hy;rcases List.mem_append.1 hy with hy | hy
                  · exact HXS.out y hy
                  · rw[List.mem_singleton] at hy;rw[hy];exact hx20
              · have hfe2:f=k:=by omega
                subst hfe2;clear hownl;by_cases hcf:cap=f;all_goals
                 go_wp2_with fail
                 refine(vK _ _ _).mono ?_;rintro e w2 ⟨hB2,(⟨hn2,rfl⟩ | ⟨x,hn2,_,rfl⟩)⟩
                 · clear hn2;go_wp2;go_ret2;exact eN (mO HSL.out HN.out (HAT.out.bad hke hdot.out (by rw[Sx.lT];exact Sx.gK))) (hB1.trans ((hB.trans (hB2.mono hszr)).mono hsz1)) _ rfl
                 · rw[Sx.gK] at hn2;cases hn2
            · have h46':(c != 46)=true:=by rw[bne_iff_ne];exact h46
              have H46:=hide h46;clear h46 hownl;go_wp2;exact⟨⟨k+1,f,pre,rfl,rfl,by go_num,by omega,by omega,by omega,by omega,HXS.out,HAT.out.skip hkl (by rw[HC.out];exact H46.out),hownh,hB⟩,by simp[intOf];omega⟩
          · have hdot:Hid (∀ h:k<l.length,l[k]=46):=hide (fun h=>absurd h hkl);have hbl:=Sx.sV l f k hfk hke;have HBL:=hide hbl;clear hbl;by_cases hfe:f<k
            · have hrd:∀ j (h:j<(Sx.cK l f k).length),wr.cell? ⟨g,f+j,none⟩=some (.int .i64 (Sx.cK l f k)[j]):=by
               intro j h;have hb2:=HBL.out;rw[Sx.sR l f k j hke h];have:=(bR hownl).2.2.2.2.2.2 (f+j) (by simp[dW];omega);rw[this];simp[dW]
              have hlab:=yK (Sx.cK l f k) g f (cap-f) wr (by rw[HBL.out];omega) (by rw[HBL.out];omega) (by omega) hrd (fun c hc=>HLV.out c (List.mem_of_mem_take (List.mem_of_mem_drop hc)));rw[HBL.out] at hlab;have HLAB:=hide hlab;have hcf:¬ cap=f:=by omega
              clear hrd hlab hownl;go_wp2_with fail
              refine HLAB.out.mono ?_;rintro e w2 ⟨hB2,(⟨hn2,rfl⟩ | ⟨x,hn2,hx20,rfl⟩)⟩;all_goals
               have HN2:=hide hn2;clear hn2
              · go_wp2;go_ret2;exact eN (mO HSL.out HN.out (HAT.out.bad hke hdot.out HN2.out)) (hB1.trans ((hB.trans (hB2.mono hszr)).mono hsz1)) _ rfl
              · have hown2:=aD hownh hB2;have hB3:=hB.trans (hB2.mono hszr);have hsz3:=hB3.size;go_wp2_with (at_builtin;go_must (refine wpList_append_lies _ rfl _ _ _ rfl w1.heap.size 9 i0 (.string ⟨#[]⟩) 1 16 Tryz.underlying51 hi hz0 hz1 hz2 rfl (by decide) _ _ _ rfl (hown2.alloc _) ⟨w2.heap.size,0,none⟩ 1 1 [.string ⟨x.toArray⟩] rfl rfl (cell_one_new _ _ _) (by simp[Value.oneCell']) (by omega) (by unfold maxLen;omega) (by omega) (by simp;omega) _ rfl ?_;intro g2 cap2 w3 hown3 hgrow hat hlt1))
                refine⟨⟨k+1,k+1,pre++[x],by go_num,by rw[Sx.jY];go_num,by go_num,by omega,by omega,by simp;omega,by rw[Sx.jY];omega,?_,HAT.out.more hke hdot.out HN2.out,by rw[gB,List.length_append];exact hown3,aH hB3 hsz3 hown2 hgrow⟩,by simp[intOf];omega⟩;intro y hy;rcases List.mem_append.1 hy with hy | hy
                · exact HXS.out y hy
                · rw[List.mem_singleton] at hy;rw[hy];exact hx20
            · have hfe2:f=k:=by omega
              subst hfe2;clear hownl;by_cases hcf:cap=f;all_goals
               go_wp2_with fail
               refine(vK _ _ _).mono ?_;rintro e w2 ⟨hB2,(⟨hn2,rfl⟩ | ⟨x,hn2,_,rfl⟩)⟩
               · clear hn2;go_wp2;go_ret2;exact eN (mO HSL.out HN.out (HAT.out.bad hke hdot.out (by rw[Sx.lT];exact Sx.gK))) (hB1.trans ((hB.trans (hB2.mono hszr)).mono hsz1)) _ rfl
               · rw[Sx.gK] at hn2;cases hn2
        · obtain⟨hgo,_⟩:=HAT.out.done (by omega);have hpos:=RD _ _ _ hgo;have hend:=ZE HSL.out HN.out hgo;have HEND:=hide hend;obtain⟨gh,caph,rfl,hgh1,hgh2⟩:=hownh.form hpos;have hcell:=F9 hownh (pre.length-1) (by omega);obtain⟨t,ht⟩:∃ t:ByteArray,(⟨(pre.getD (pre.length-1) []).toArray⟩:ByteArray)=t:=⟨_,rfl⟩
          have htl:pre.getD (pre.length-1) []=t.data.toList:=by rw[←ht]
          rw[ht] at hcell;have hdig:Sx.lD (pre.getD (pre.length-1) [])=Sx.lD t.data.toList:=by rw[htl]
          have HDIG:=hide hdig;have ht20:t.size≤20:=by
           rw[←aC,←htl];exact HXS.out _ (by rw[List.getD_eq_getElem?_getD,List.getElem?_eq_getElem (by omega),Option.getD_some];exact List.getElem_mem _)
          have hfin1:Hid (Sx.lD t.data.toList=true∨6<pre.length∨61<Sx.aM pre→Sx.aI s.data.toList=([],2)):=hide (fun h=>by
           rw[hend];unfold Sx.iD;rw[hdig,if_pos];rcases h with h | h | h <;> simp[h])
          have hfin2:Hid (Sx.lD t.data.toList=false→¬ 6<pre.length→¬ 61<Sx.aM pre→Sx.aI s.data.toList=(pre,0)):=hide (fun h1 h2 h3=>by
           rw[hend];unfold Sx.iD;rw[hdig,if_neg];simp[h1];omega)
          have hBB:=hB1.trans (hB.mono hsz1);clear hgo hend ht htl hdig;go_wp2
          go_loop [13,14] (fun o i=>∃ (j:Nat) (b:Bool),o=.bool b∧i=.int .i64 j∧j≤t.size∧Sx.lD (t.data.toList.take j)=b) (fun _ i=>(t.size-intOf i).toNat)
          case atStart=>exact⟨0,true,rfl,rfl,by omega,rfl⟩
          case round =>
           obtain⟨j,b,rfl,rfl,hj,hdj⟩:=hrel;have HDJ:=hide hdj;clear hdj;by_cases hjl:j<t.size
           · have hmo:=QS t.data.toList j (by rw[aC];exact hjl);rw[byte_at t j hjl,HDJ.out] at hmo;have HMO:=hide hmo;clear hmo;cases b with
             | false =>
               go_wp2;exact⟨⟨j+1,false,rfl,by go_num,by omega,by rw[HMO.out];rfl⟩,by simp[intOf];omega⟩
             | true =>
               have hub:=t[j].toNat_lt;by_cases q1:48≤t[j].toNat
               · by_cases q2:t[j].toNat≤57
                 · have d1:decide (48≤(t[j].toNat:Int))=true:=by simp;omega
                   have d2:decide ((t[j].toNat:Int)≤57)=true:=by simp;omega
                   go_wp2;exact⟨⟨j+1,true,rfl,by go_num,by omega,by rw[HMO.out];simp[q1,q2]⟩,by simp[intOf];omega⟩
                 · have d1:decide (48≤(t[j].toNat:Int))=true:=by simp;omega
                   have d2:decide ((t[j].toNat:Int)≤57)=false:=by simp;omega
                   go_wp2;exact⟨⟨j+1,false,rfl,by go_num,by omega,by rw[HMO.out];simp;omega⟩,by simp[intOf];omega⟩
               · have d1:decide (48≤(t[j].toNat:Int))=false:=by simp;omega
                 go_wp2;exact⟨⟨j+1,false,rfl,by go_num,by omega,by rw[HMO.out];simp;omega⟩,by simp[intOf];omega⟩
           · have hb:Sx.lD t.data.toList=b:=by rw[←HDJ.out,List.take_of_length_le (by rw[aC];omega)]
             have HB:=hide hb;clear hb;cases b with
             | true =>
               go_wp2;go_ret2;exact eN (hfin1.out (.inl HB.out)) hBB _ rfl
             | false =>
               by_cases r1:6<pre.length
               · have d1:decide (6<(pre.length:Int))=true:=by simp;omega
                 go_wp2;go_ret2;exact eN (hfin1.out (.inr (.inl r1))) hBB _ rfl
               · have d1:decide (6<(pre.length:Int))=false:=by simp;omega
                 by_cases r2:61<Sx.aM pre
                 · go_wp2;go_ret2;exact eN (hfin1.out (.inr (.inr r2))) hBB _ rfl
                 · go_wp2;go_ret2;have hh:=hfin2.out HB.out r1 r2;refine⟨hBB,.slice (some ⟨gh,0,none⟩) pre.length caph,?_,?_,?_,?_⟩
                   rotate_left
                   · rw[hh];exact hownh.mono hsz1
                   · rw[hh];simp;omega
                   · rw[hh];exact HXS.out
                   · rw[hh];rfl
def iV (r:List UInt8×Int)(B:Nat)(w:World)(e:Ending)(w':World):Prop :=
 Below B w w'∧e=.returned (.tuple #[.string ⟨r.1.toArray⟩,.int .i64 r.2])
theorem KT (s:ByteArray)(w:World):Calls Tryz.prog 101 #[.string s] w (iV (Sx.dU s.data.toList) w.heap.size w):=by
 go_enter Tryz.func101,Tryz.ntmps101;go_wp2_with fail
 refine(dR s _).mono ?_;rintro e w1 ⟨hB,v,rfl,ho,h6,hx⟩;have HD:=hide (jT _ _ v w1 (by omega) (fun x h=>by have:=hx x h;omega) ho);clear ho h6 hx;go_wp2_with (go_at_call 148;go_must (refine HD.out.mono ?_;rintro e w2 ⟨rfl,rfl⟩))
 go_ret2;exact⟨hB,rfl⟩
theorem JU (h:List (List UInt8))(k:Nat)(hk:k<h.length)(x:List UInt8)(hx:h[k]=x)(y:List UInt8)(hy:Sx.bW x=y):(h.take (k+1)).map Sx.bW=(h.take k).map Sx.bW++[y]:=by
 rw[List.take_succ_eq_append_getElem hk,List.map_append,hx];simp[hy]
theorem KJ (s:ByteArray)(w:World):Calls Tryz.prog 103 #[.string s] w (iV (Sx.iN s.data.toList) w.heap.size w):=by
 obtain⟨i0,hi,hz0,hz1,hz2⟩:=info_parts Tryz.info9;go_enter Tryz.func103,Tryz.ntmps103;go_wp2_with fail
 refine(dR s _).mono ?_;rintro e w1 ⟨hB1,v,rfl,ho,h6,hx⟩;have hres:Sx.iN s.data.toList=(Sx.aA ((Sx.aI s.data.toList).1.map Sx.bW),(Sx.aI s.data.toList).2):=rfl;obtain⟨h,hh⟩:∃ h,(Sx.aI s.data.toList).1=h:=⟨_,rfl⟩
 obtain⟨n,hn⟩:∃ n,(Sx.aI s.data.toList).2=n:=⟨_,rfl⟩
 rw[hh,hn] at hres;rw[hh] at ho h6 hx;rw[hn];have HRES:=hide hres;have HX:=hide hx;have hsz1:=hB1.size;clear hres hh hn hx;have fin:∀ (m:Value) (w2:World),w2.ownsRow w1.heap.size 9 1 m h.length (bB (h.map Sx.bW))→(∀ x∈h.map Sx.bW,x.length≤1000)→Calls Tryz.prog 148 #[m] w2 fun e w'=>e=.returned (.string ⟨(Sx.aA (h.map Sx.bW)).toArray⟩)∧w'=w2:=by
  intro m w2 hm hxx;exact jT (h.map Sx.bW) _ m w2 (by simp;omega) hxx (by rw[List.length_map];exact hm)
 have FIN:=hide fin;clear fin;rcases ho.2 with ⟨rfl,h0⟩ | ⟨g,cap,cur,rfl,hg1,hg2,hc1,hc2,hc3,hc4⟩
 · have he:h=[]:=List.eq_nil_of_length_eq_zero h0;have HF:=hide (FIN.out (.slice none 0 0) w1 (by rw[he];exact World.ownsRow_nil _ _ 9 1) (by rw[he];intro x hx;simp at hx));clear h0 he ho;go_wp2
   go_loop [6,7] (fun x i=>x=.slice none 0 0∧i=.int .i64 0) (fun _ _=>0)
   case atStart=>exact⟨rfl,rfl⟩
   case round =>
    obtain⟨rfl,rfl⟩:=hrel;go_wp2_with (go_at_call 148;go_must (refine HF.out.mono ?_;rintro e w2 ⟨rfl,rfl⟩))
    go_ret2;exact⟨hB1,by rw[HRES.out];rfl⟩
 · have HO:=hide ho;have hgl:g<w1.heap.size:=(ho.lt g rfl).2;clear ho hg2 hc3 hc4;go_wp2
   go_loopw [6,7] (fun x i wr=>∃ k:Nat,i=.int .i64 k∧k≤h.length∧wr.ownsRow w1.heap.size 9 1 x k (bB ((h.take k).map Sx.bW))∧(∀ y∈(h.take k).map Sx.bW,y.length≤1000)∧Below w1.heap.size w1 wr) (fun _ i _=>(h.length-intOf i).toNat)
   case atStart=>exact⟨0,rfl,by omega,World.ownsRow_nil _ _ 9 1,fun y hy=>by simp at hy,Below.refl _ _⟩
   case round =>
    obtain⟨k,rfl,hk,hown,hys,hB⟩:=hrel;have HYS:=hide hys;have hsz:=hB.size;clear hys;by_cases hlt:k<h.length
    · have hcell:wr.cell? ⟨g,k,none⟩=some (.string ⟨h[k].toArray⟩):=dJ (aD HO.out hB) k hlt;have hx20:=HX.out h[k] (List.getElem_mem hlt);obtain⟨x,hxe⟩:∃ x,h[k]=x:=⟨_,rfl⟩
      rw[hxe] at hcell hx20;have HXE:=hide hxe;obtain⟨t,ht⟩:∃ t:ByteArray,(⟨x.toArray⟩:ByteArray)=t:=⟨_,rfl⟩
      have htx:x=t.data.toList:=by rw[←ht]
      have ht20:t.size≤20:=by rw[←aC,←htx];exact hx20
      rw[ht] at hcell;have HTX:=hide htx;clear hxe ht htx;have next:∀ (y:List UInt8),Sx.bW x=y→y.length≤1000→(∀ z∈(h.take (k+1)).map Sx.bW,z.length≤1000)∧bB ((h.take (k+1)).map Sx.bW)=bB ((h.take k).map Sx.bW)++[.string ⟨y.toArray⟩]:=by
       intro y hy hyl;rw[JU h k hlt x HXE.out y hy,gB];refine⟨?_,rfl⟩;intro z hz;rcases List.mem_append.1 hz with hz | hz
       · exact HYS.out z hz
       · rw[List.mem_singleton] at hz;rw[hz];exact hyl
      have NEXT:=hide next
      clear next
      by_cases e4:4<t.size
      · cases e6:((t.extract 0 4).toList == [120,110,45,45]) with
        | true =>
          have hso:Sx.bW x=Sx.text ((Sx.dec (t.data.toList.drop 4)).getD []):=by
           unfold Sx.bW;have a1:decide (4<x.length)=true:=by rw[HTX.out,aC];simp;omega
           have a2:(x.take 4 == Sx.xn)=true:=by rw[HTX.out,←iO,←ByteArray.toList_eq];exact e6
           rw[a1,a2,HTX.out];rfl
          have HSO:=hide hso;clear hso;go_wp2_with fail
          refine(IJ (t.extract 4 t.size) _ (by rw[←aC,lV];simp;omega)).mono ?_;rw[lV];rintro e w2 ⟨hB5,(⟨hd,rfl⟩ | ⟨l2,v2,hd,hl20,hl2h,hl2v,rfl,hl2o⟩)⟩
          · obtain⟨hn1,hn2⟩:=NEXT.out [] (by rw[HSO.out,hd];rfl) (by simp);have HN2:=hide hn2;have HN1:=hide hn1;clear hd hn1 hn2;have hown2:=aD hown hB5;have hB3:=hB.trans (hB5.mono hsz);have hsz3:=hB3.size;go_wp2_with (first | (go_at_call 150;go_must (refine(zJ _).mono ?_;rintro e w3 ⟨rfl,rfl⟩)) | (at_builtin;go_must (refine wpList_append_lies _ rfl _ _ _ rfl w1.heap.size 9 i0 (.string ⟨#[]⟩) 1 16 Tryz.underlying51 hi hz0 hz1 hz2 rfl (by decide) _ _ _ rfl (hown2.alloc _) ⟨_,0,none⟩ 1 1 [.string ⟨#[]⟩] rfl rfl (cell_one_new _ _ _) (by simp[Value.oneCell']) (by omega) (by unfold maxLen;omega) (by omega) (by simp;omega) _ rfl ?_;intro g2 cap2 w4 hown3 hgrow hat hlt1)))
            exact⟨⟨k+1,by go_num,by omega,by rw[HN2.out];exact hown3,HN1.out,aH hB3 hsz3 hown2 hgrow⟩,by simp[intOf];omega⟩
          · have htl:=Sx.lC l2;obtain⟨hn1,hn2⟩:=NEXT.out (Sx.text l2) (by rw[HSO.out,hd];rfl) (by omega);have HN2:=hide hn2;have HN1:=hide hn1;obtain⟨gd,capd,rfl,hgd1,hgd2⟩:=hl2o.form hl20;obtain⟨_,_,_,_,_,hc4,hcl⟩:=bR hl2o;have htxt:=vD l2 gd 0 capd w2 (by omega) hc4 (fun j hj=>by
             have:=hcl j (by simp[dW];exact hj);rw[Nat.zero_add,this];simp[dW]) hl2v
            have HTXT:=hide htxt;have HL2:=hide hl2v;clear hd hn1 hn2 htxt hcl hl2v hl2o;have hown2:=aD hown hB5;have hB3:=hB.trans (hB5.mono hsz);have hsz3:=hB3.size;go_wp2_with fail
            refine HTXT.out.mono ?_;rintro e w3 ⟨rfl,hB6⟩;have hown4:=aD hown2 hB6;have hB7:=hB3.trans (hB6.mono hsz3);have hsz7:=hB7.size;go_wp2_with (at_builtin;go_must (refine wpList_append_lies _ rfl _ _ _ rfl w1.heap.size 9 i0 (.string ⟨#[]⟩) 1 16 Tryz.underlying51 hi hz0 hz1 hz2 rfl (by decide) _ _ _ rfl (hown4.alloc _) ⟨_,0,none⟩ 1 1 [.string ⟨(Sx.text l2).toArray⟩] rfl rfl (cell_one_new _ _ _) (by simp[Value.oneCell']) (by omega) (by unfold maxLen;omega) (by omega) (by simp;omega) _ rfl ?_;intro g2 cap2 w4 hown3 hgrow hat hlt1))
            exact⟨⟨k+1,by go_num,by omega,by rw[HN2.out];exact hown3,HN1.out,aH hB7 hsz7 hown4 hgrow⟩,by simp[intOf];omega⟩
        | false =>
          have hso:Sx.bW x=t.data.toList:=by
           unfold Sx.bW;have a2:(x.take 4 == Sx.xn)=false:=by rw[HTX.out,←iO,←ByteArray.toList_eq];exact e6
           rw[a2,HTX.out];simp
          obtain⟨hn1,hn2⟩:=NEXT.out _ hso (by rw[aC];omega);have HN2:=hide hn2;have HN1:=hide hn1;clear hso hn1 hn2;go_wp2_with (at_builtin;go_must (refine wpList_append_lies _ rfl _ _ _ rfl w1.heap.size 9 i0 (.string ⟨#[]⟩) 1 16 Tryz.underlying51 hi hz0 hz1 hz2 rfl (by decide) _ _ _ rfl (hown.alloc _) ⟨_,0,none⟩ 1 1 [.string t] rfl rfl (cell_one_new _ _ _) (by simp[Value.oneCell']) (by omega) (by unfold maxLen;omega) (by omega) (by simp;omega) _ rfl ?_;intro g2 cap2 w4 hown3 hgrow hat hlt1))
          exact⟨⟨k+1,by go_num,by omega,by rw[HN2.out];exact hown3,HN1.out,aH hB hsz hown hgrow⟩,by simp[intOf];omega⟩
      · have hso:Sx.bW x=t.data.toList:=by
         unfold Sx.bW;have a1:decide (4<x.length)=false:=by rw[HTX.out,aC];simp;omega
         rw[a1,HTX.out];simp
        obtain⟨hn1,hn2⟩:=NEXT.out _ hso (by rw[aC];omega);have HN2:=hide hn2;have HN1:=hide hn1;clear hso hn1 hn2;go_wp2_with (at_builtin;go_must (refine wpList_append_lies _ rfl _ _ _ rfl w1.heap.size 9 i0 (.string ⟨#[]⟩) 1 16 Tryz.underlying51 hi hz0 hz1 hz2 rfl (by decide) _ _ _ rfl (hown.alloc _) ⟨_,0,none⟩ 1 1 [.string t] rfl rfl (cell_one_new _ _ _) (by simp[Value.oneCell']) (by omega) (by unfold maxLen;omega) (by omega) (by simp;omega) _ rfl ?_;intro g2 cap2 w4 hown3 hgrow hat hlt1))
        exact⟨⟨k+1,by go_num,by omega,by rw[HN2.out];exact hown3,HN1.out,aH hB hsz hown hgrow⟩,by simp[intOf];omega⟩
    · have hkl:k=h.length:=by omega
      subst hkl;rw[List.take_length] at hown HYS;have HF:=hide (FIN.out _ wr hown HYS.out);clear hown HYS;go_wp2_with (go_at_call 148;go_must (refine HF.out.mono ?_;rintro e w2 ⟨rfl,rfl⟩))
      go_ret2;exact⟨hB1.trans (hB.mono hsz1),by rw[HRES.out];rfl⟩
end Go.Proofs.YtgohllfpceeboabGreatDoor
