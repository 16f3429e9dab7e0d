import Derived.Test.YtgohllfpceeboaaGreatDoorWnaf
import Derived.Deep.Onto
set_option maxRecDepth 100000
set_option maxHeartbeats 4000000
namespace Go.Proofs.YtgohllfpceeboaaGreatDoor
open Go.RowKit
def LetPost (s:List UInt8) (B:Nat) (w:World) (e:Ending) (w':World):Prop :=
 Below B w w'∧((Sx.letters s=none∧e=.returned (.tuple #[.slice none 0 0,.bool false]))∨∃ l v,Sx.letters s=some l∧e=.returned (.tuple #[v,.bool true])∧w'.ownsRow B 3 1 v l.length (inV l))
theorem let_fail {s:List UInt8} {i:Nat} {pre:List Int} (hq:(Sx.letters (s.drop i)).map (pre ++ ·)=Sx.letters s) (hlt:i<s.length) (ho:Sx.one (s.drop i)=none):Sx.letters s=none:=by
 rw [←hq,Sx.letters_none _ (by intro h;have:=congrArg List.length h;simp at this;omega) ho];rfl
theorem let_more {s:List UInt8} {i p:Nat} {pre:List Int} {c:Int} (hq:(Sx.letters (s.drop i)).map (pre ++ ·)=Sx.letters s) (ho:Sx.one (s.drop i)=some (c,s.drop p)):(Sx.letters (s.drop p)).map ((pre ++ [c]) ++ ·)=Sx.letters s:=by
 rw [←hq,Sx.letters_some _ _ _ ho,Option.map_map];congr 1;funext x;simp
theorem byte_atC (s:ByteArray) (i:Nat) (_h:i<s.size) (h':i<s.data.toList.length):s.data.toList[i]=s[i]:=by
 simp;rfl
theorem rlet_any (s:ByteArray) (w:World) (hs:s.size≤1000) :
 Calls Tryz.prog 198 #[.string s] w (LetPost s.data.toList w.heap.size w):=by
 obtain ⟨i0,hi,hz0,hz1,hz2⟩:=info_parts Tryz.info3;have hlen:s.data.toList.length=s.size:=by simp
 have HL:=hide hlen;clear hlen;go_enter Tryz.func198,Tryz.ntmps198;go_wp2
 go_loopw [4,5] (fun x n wr=>∃ (i:Nat) (pre:List Int),n=.int .i64 i∧i≤s.size∧pre.length≤i∧wr.ownsRow w.heap.size 3 1 x pre.length (inV pre)∧Below w.heap.size w wr∧(Sx.letters (s.data.toList.drop i)).map (pre ++ ·)=Sx.letters s.data.toList) (fun _ n _=>(s.size-intOf n).toNat)
 case atStart=>exact ⟨0,[],rfl,by omega,by simp,World.ownsRow_nil w _ 3 1,Below.refl _ _,by simp⟩
 case round =>
  obtain ⟨i,pre,rfl,hk,hp,hown,hB,hq⟩:=hrel;have HQ:=hide hq;clear hq;have hsz:=hB.size;by_cases hlt:i<s.size
  · have hx:=s[i].toNat_lt;have hi2:i<s.data.toList.length:=by rw [HL.out];exact hlt
    have hb:=byte_atC s i hlt hi2;have HBY:=hide hb;clear hb;by_cases c1:s[i].toNat<128
    · skip
      have hlead:Hid (Sx.lead s.data.toList[i]=some (0,(s[i].toNat:Int),0)):=by
       refine hide ?_;rw [HBY.out];unfold Sx.lead;rw [if_pos c1]
      go_wp2
      go_loop [5,6,9] (fun n c k=>∃ (j p:Nat) (cc:Int),n=.int .i64 p∧c=.int .i64 cc∧k=.int .i64 j∧j≤0∧p≤s.size∧i+1+j≤p∧p≤i+1+j∧0≤cc∧cc≤67108863∧cc≤Sx.cb j∧Sx.contF (0-j) cc (s.data.toList.drop p)=Sx.contF 0 ((s[i].toNat:Int)) (s.data.toList.drop (i+1))) (fun _ _ k=>(0-intOf k).toNat)
      case atStart=>exact ⟨0,i+1,_,by go_num,rfl,rfl,by omega,by omega,by omega,by omega,by omega,by omega,by simp [Sx.cb];omega,rfl⟩
      case round =>
       obtain ⟨j,p,cc,rfl,rfl,rfl,hj,hps,hp1,hp2,hc0,hc1,hcb,hcq⟩:=hrel;have HCQ:=hide hcq;have HCB:=hide hcb;clear hcq hcb;by_cases hjm:j<0
       · omega
       · have hjM:0-j=0:=by omega
         have hcf:Sx.contF 0 ((s[i].toNat:Int)) (s.data.toList.drop (i+1))=some (cc,s.data.toList.drop p):=by rw [←HCQ.out,hjM];rfl
         have HCF:=hide hcf;clear hcf hjM;have bads:∀ hbad:cc<0∨1114111<cc∨(55296≤cc∧cc≤57343),Sx.letters s.data.toList=none:=fun hbad=>let_fail HQ.out hi2 (by rw [Sx.one_at _ i hi2 _ _ _ hlead.out];exact Sx.rest_bad _ _ _ _ _ _ HCF.out hbad);have BADS:=hide bads;clear bads;by_cases d1:cc<0
         · omega
         · by_cases d2:1114111<cc
           · go_wp2;go_ret2;exact ⟨hB,.inl ⟨BADS.out (by omega),rfl⟩⟩
           · by_cases d3:55296≤cc
             · by_cases d4:cc≤57343
               · go_wp2;go_ret2;exact ⟨hB,.inl ⟨BADS.out (by omega),rfl⟩⟩
               · have ho:Sx.one (s.data.toList.drop i)=some (cc,s.data.toList.drop p):=by rw [Sx.one_at _ i hi2 _ _ _ hlead.out];exact Sx.rest_ok _ _ _ _ _ _ HCF.out (by omega)
                 have HO:=hide ho;clear ho;go_wp2_with (at_builtin;go_must (refine wpList_append_lies _ rfl _ _ _ rfl w.heap.size 3 i0 (.int .i64 0) 1 8 Tryz.underlying211 hi hz0 hz1 hz2 rfl (by decide) _ _ _ rfl (hown.alloc _) ⟨wr.heap.size,0,none⟩ 1 1 [.int .i64 cc] rfl rfl (cell_one_new _ _ _) (by simp [Value.oneCell']) (by omega) (by unfold maxLen;omega) (by omega) (by simp;omega) _ rfl ?_;intro g cap w1 hown1 hgrow hat hlt1))
                 exact ⟨⟨p,pre ++ [cc],rfl,hps,by simp;omega,by rw [inV_app,List.length_append];exact hown1,below_app hB hsz hown hgrow,let_more HQ.out HO.out⟩,by simp [intOf];omega⟩
             · have ho:Sx.one (s.data.toList.drop i)=some (cc,s.data.toList.drop p):=by rw [Sx.one_at _ i hi2 _ _ _ hlead.out];exact Sx.rest_ok _ _ _ _ _ _ HCF.out (by omega)
               have HO:=hide ho;clear ho;go_wp2_with (at_builtin;go_must (refine wpList_append_lies _ rfl _ _ _ rfl w.heap.size 3 i0 (.int .i64 0) 1 8 Tryz.underlying211 hi hz0 hz1 hz2 rfl (by decide) _ _ _ rfl (hown.alloc _) ⟨wr.heap.size,0,none⟩ 1 1 [.int .i64 cc] rfl rfl (cell_one_new _ _ _) (by simp [Value.oneCell']) (by omega) (by unfold maxLen;omega) (by omega) (by simp;omega) _ rfl ?_;intro g cap w1 hown1 hgrow hat hlt1))
               exact ⟨⟨p,pre ++ [cc],rfl,hps,by simp;omega,by rw [inV_app,List.length_append];exact hown1,below_app hB hsz hown hgrow,let_more HQ.out HO.out⟩,by simp [intOf];omega⟩
    · by_cases c2:192≤s[i].toNat
      · by_cases c3:s[i].toNat<224
        · skip
          have hlead:Hid (Sx.lead s.data.toList[i]=some (1,(s[i].toNat:Int)-192,128)):=by
           refine hide ?_;rw [HBY.out];unfold Sx.lead;rw [if_neg (by omega),if_pos (by omega)]
          go_wp2
          go_loop [5,6,9] (fun n c k=>∃ (j p:Nat) (cc:Int),n=.int .i64 p∧c=.int .i64 cc∧k=.int .i64 j∧j≤1∧p≤s.size∧i+1+j≤p∧p≤i+1+j∧0≤cc∧cc≤67108863∧cc≤Sx.cb j∧Sx.contF (1-j) cc (s.data.toList.drop p)=Sx.contF 1 ((s[i].toNat:Int)-192) (s.data.toList.drop (i+1))) (fun _ _ k=>(1-intOf k).toNat)
          case atStart=>exact ⟨0,i+1,_,by go_num,rfl,rfl,by omega,by omega,by omega,by omega,by omega,by omega,by simp [Sx.cb];omega,rfl⟩
          case round =>
           obtain ⟨j,p,cc,rfl,rfl,rfl,hj,hps,hp1,hp2,hc0,hc1,hcb,hcq⟩:=hrel;have HCQ:=hide hcq;have HCB:=hide hcb;clear hcq hcb;by_cases hjm:j<1
           · by_cases hpl:p<s.size
             · have hyp:=byte_atC s p hpl (by rw [HL.out];exact hpl);have HY:=hide hyp;clear hyp;have hyl:=s[p].toNat_lt;by_cases g1:128≤s[p].toNat
               · by_cases g2:s[p].toNat<192
                 · have hstep:=Sx.cb_step cc j s[p].toNat HCB.out (by omega);have hle:=Sx.cb_le (j+1) (by omega);have HST:=hide hstep;have hcc2:cc*64+(s[p].toNat:Int)-128≤67108863:=by omega
                   clear hstep hle;go_wp2;refine ⟨⟨u2,u3,_,_,_,⟨j+1,p+1,by go_num,_,rfl,by go_num,by omega,by omega,by omega,by omega,by omega,hcc2,HST.out,?_⟩,rfl,rfl,rfl,rfl,rfl⟩,by simp [intOf];omega⟩;rw [←HCQ.out];have hm:1-j=(1-(j+1))+1:=by omega
                   rw [hm,Sx.contF_yes _ cc _ p (by rw [HL.out];exact hpl) (by rw [HY.out];exact g1) (by rw [HY.out];exact g2),HY.out]
                 · go_wp2;go_ret2;refine ⟨hB,.inl ⟨let_fail HQ.out hi2 ?_,rfl⟩⟩;rw [Sx.one_at _ i hi2 _ _ _ hlead.out,Sx.rest_none];rw [←HCQ.out,show 1-j=(1-(j+1))+1 from by omega,Sx.contF_no _ cc _ p (by rw [HL.out];exact hpl) (by rw [HY.out];omega)]
               · go_wp2;go_ret2;refine ⟨hB,.inl ⟨let_fail HQ.out hi2 ?_,rfl⟩⟩;rw [Sx.one_at _ i hi2 _ _ _ hlead.out,Sx.rest_none];rw [←HCQ.out,show 1-j=(1-(j+1))+1 from by omega,Sx.contF_no _ cc _ p (by rw [HL.out];exact hpl) (by rw [HY.out];omega)]
             · go_wp2;go_ret2;refine ⟨hB,.inl ⟨let_fail HQ.out hi2 ?_,rfl⟩⟩;rw [Sx.one_at _ i hi2 _ _ _ hlead.out,Sx.rest_none];rw [←HCQ.out,show 1-j=(1-(j+1))+1 from by omega,Sx.contF_end _ cc _ p (by rw [HL.out];omega)]
           · have hjM:1-j=0:=by omega
             have hcf:Sx.contF 1 ((s[i].toNat:Int)-192) (s.data.toList.drop (i+1))=some (cc,s.data.toList.drop p):=by rw [←HCQ.out,hjM];rfl
             have HCF:=hide hcf;clear hcf hjM;have bads:∀ hbad:cc<128∨1114111<cc∨(55296≤cc∧cc≤57343),Sx.letters s.data.toList=none:=fun hbad=>let_fail HQ.out hi2 (by rw [Sx.one_at _ i hi2 _ _ _ hlead.out];exact Sx.rest_bad _ _ _ _ _ _ HCF.out hbad);have BADS:=hide bads;clear bads;by_cases d1:cc<128
             · go_wp2;go_ret2;exact ⟨hB,.inl ⟨BADS.out (by omega),rfl⟩⟩
             · by_cases d2:1114111<cc
               · go_wp2;go_ret2;exact ⟨hB,.inl ⟨BADS.out (by omega),rfl⟩⟩
               · by_cases d3:55296≤cc
                 · by_cases d4:cc≤57343
                   · go_wp2;go_ret2;exact ⟨hB,.inl ⟨BADS.out (by omega),rfl⟩⟩
                   · have ho:Sx.one (s.data.toList.drop i)=some (cc,s.data.toList.drop p):=by rw [Sx.one_at _ i hi2 _ _ _ hlead.out];exact Sx.rest_ok _ _ _ _ _ _ HCF.out (by omega)
                     have HO:=hide ho;clear ho;go_wp2_with (at_builtin;go_must (refine wpList_append_lies _ rfl _ _ _ rfl w.heap.size 3 i0 (.int .i64 0) 1 8 Tryz.underlying211 hi hz0 hz1 hz2 rfl (by decide) _ _ _ rfl (hown.alloc _) ⟨wr.heap.size,0,none⟩ 1 1 [.int .i64 cc] rfl rfl (cell_one_new _ _ _) (by simp [Value.oneCell']) (by omega) (by unfold maxLen;omega) (by omega) (by simp;omega) _ rfl ?_;intro g cap w1 hown1 hgrow hat hlt1))
                     exact ⟨⟨p,pre ++ [cc],rfl,hps,by simp;omega,by rw [inV_app,List.length_append];exact hown1,below_app hB hsz hown hgrow,let_more HQ.out HO.out⟩,by simp [intOf];omega⟩
                 · have ho:Sx.one (s.data.toList.drop i)=some (cc,s.data.toList.drop p):=by rw [Sx.one_at _ i hi2 _ _ _ hlead.out];exact Sx.rest_ok _ _ _ _ _ _ HCF.out (by omega)
                   have HO:=hide ho;clear ho;go_wp2_with (at_builtin;go_must (refine wpList_append_lies _ rfl _ _ _ rfl w.heap.size 3 i0 (.int .i64 0) 1 8 Tryz.underlying211 hi hz0 hz1 hz2 rfl (by decide) _ _ _ rfl (hown.alloc _) ⟨wr.heap.size,0,none⟩ 1 1 [.int .i64 cc] rfl rfl (cell_one_new _ _ _) (by simp [Value.oneCell']) (by omega) (by unfold maxLen;omega) (by omega) (by simp;omega) _ rfl ?_;intro g cap w1 hown1 hgrow hat hlt1))
                   exact ⟨⟨p,pre ++ [cc],rfl,hps,by simp;omega,by rw [inV_app,List.length_append];exact hown1,below_app hB hsz hown hgrow,let_more HQ.out HO.out⟩,by simp [intOf];omega⟩
        · by_cases c4:s[i].toNat<240
          · skip
            have hlead:Hid (Sx.lead s.data.toList[i]=some (2,(s[i].toNat:Int)-224,2048)):=by
             refine hide ?_;rw [HBY.out];unfold Sx.lead;rw [if_neg (by omega),if_neg (by omega),if_pos (by omega)]
            go_wp2
            go_loop [5,6,9] (fun n c k=>∃ (j p:Nat) (cc:Int),n=.int .i64 p∧c=.int .i64 cc∧k=.int .i64 j∧j≤2∧p≤s.size∧i+1+j≤p∧p≤i+1+j∧0≤cc∧cc≤67108863∧cc≤Sx.cb j∧Sx.contF (2-j) cc (s.data.toList.drop p)=Sx.contF 2 ((s[i].toNat:Int)-224) (s.data.toList.drop (i+1))) (fun _ _ k=>(2-intOf k).toNat)
            case atStart=>exact ⟨0,i+1,_,by go_num,rfl,rfl,by omega,by omega,by omega,by omega,by omega,by omega,by simp [Sx.cb];omega,rfl⟩
            case round =>
             obtain ⟨j,p,cc,rfl,rfl,rfl,hj,hps,hp1,hp2,hc0,hc1,hcb,hcq⟩:=hrel;have HCQ:=hide hcq;have HCB:=hide hcb;clear hcq hcb;by_cases hjm:j<2
             · by_cases hpl:p<s.size
               · have hyp:=byte_atC s p hpl (by rw [HL.out];exact hpl);have HY:=hide hyp;clear hyp;have hyl:=s[p].toNat_lt;by_cases g1:128≤s[p].toNat
                 · by_cases g2:s[p].toNat<192
                   · have hstep:=Sx.cb_step cc j s[p].toNat HCB.out (by omega);have hle:=Sx.cb_le (j+1) (by omega);have HST:=hide hstep;have hcc2:cc*64+(s[p].toNat:Int)-128≤67108863:=by omega
                     clear hstep hle;go_wp2;refine ⟨⟨u2,u3,_,_,_,⟨j+1,p+1,by go_num,_,rfl,by go_num,by omega,by omega,by omega,by omega,by omega,hcc2,HST.out,?_⟩,rfl,rfl,rfl,rfl,rfl⟩,by simp [intOf];omega⟩;rw [←HCQ.out];have hm:2-j=(2-(j+1))+1:=by omega
                     rw [hm,Sx.contF_yes _ cc _ p (by rw [HL.out];exact hpl) (by rw [HY.out];exact g1) (by rw [HY.out];exact g2),HY.out]
                   · go_wp2;go_ret2;refine ⟨hB,.inl ⟨let_fail HQ.out hi2 ?_,rfl⟩⟩;rw [Sx.one_at _ i hi2 _ _ _ hlead.out,Sx.rest_none];rw [←HCQ.out,show 2-j=(2-(j+1))+1 from by omega,Sx.contF_no _ cc _ p (by rw [HL.out];exact hpl) (by rw [HY.out];omega)]
                 · go_wp2;go_ret2;refine ⟨hB,.inl ⟨let_fail HQ.out hi2 ?_,rfl⟩⟩;rw [Sx.one_at _ i hi2 _ _ _ hlead.out,Sx.rest_none];rw [←HCQ.out,show 2-j=(2-(j+1))+1 from by omega,Sx.contF_no _ cc _ p (by rw [HL.out];exact hpl) (by rw [HY.out];omega)]
               · go_wp2;go_ret2;refine ⟨hB,.inl ⟨let_fail HQ.out hi2 ?_,rfl⟩⟩;rw [Sx.one_at _ i hi2 _ _ _ hlead.out,Sx.rest_none];rw [←HCQ.out,show 2-j=(2-(j+1))+1 from by omega,Sx.contF_end _ cc _ p (by rw [HL.out];omega)]
             · have hjM:2-j=0:=by omega
               have hcf:Sx.contF 2 ((s[i].toNat:Int)-224) (s.data.toList.drop (i+1))=some (cc,s.data.toList.drop p):=by rw [←HCQ.out,hjM];rfl
               have HCF:=hide hcf;clear hcf hjM;have bads:∀ hbad:cc<2048∨1114111<cc∨(55296≤cc∧cc≤57343),Sx.letters s.data.toList=none:=fun hbad=>let_fail HQ.out hi2 (by rw [Sx.one_at _ i hi2 _ _ _ hlead.out];exact Sx.rest_bad _ _ _ _ _ _ HCF.out hbad);have BADS:=hide bads;clear bads;by_cases d1:cc<2048
               · go_wp2;go_ret2;exact ⟨hB,.inl ⟨BADS.out (by omega),rfl⟩⟩
               · by_cases d2:1114111<cc
                 · go_wp2;go_ret2;exact ⟨hB,.inl ⟨BADS.out (by omega),rfl⟩⟩
                 · by_cases d3:55296≤cc
                   · by_cases d4:cc≤57343
                     · go_wp2;go_ret2;exact ⟨hB,.inl ⟨BADS.out (by omega),rfl⟩⟩
                     · have ho:Sx.one (s.data.toList.drop i)=some (cc,s.data.toList.drop p):=by rw [Sx.one_at _ i hi2 _ _ _ hlead.out];exact Sx.rest_ok _ _ _ _ _ _ HCF.out (by omega)
                       have HO:=hide ho;clear ho;go_wp2_with (at_builtin;go_must (refine wpList_append_lies _ rfl _ _ _ rfl w.heap.size 3 i0 (.int .i64 0) 1 8 Tryz.underlying211 hi hz0 hz1 hz2 rfl (by decide) _ _ _ rfl (hown.alloc _) ⟨wr.heap.size,0,none⟩ 1 1 [.int .i64 cc] rfl rfl (cell_one_new _ _ _) (by simp [Value.oneCell']) (by omega) (by unfold maxLen;omega) (by omega) (by simp;omega) _ rfl ?_;intro g cap w1 hown1 hgrow hat hlt1))
                       exact ⟨⟨p,pre ++ [cc],rfl,hps,by simp;omega,by rw [inV_app,List.length_append];exact hown1,below_app hB hsz hown hgrow,let_more HQ.out HO.out⟩,by simp [intOf];omega⟩
                   · have ho:Sx.one (s.data.toList.drop i)=some (cc,s.data.toList.drop p):=by rw [Sx.one_at _ i hi2 _ _ _ hlead.out];exact Sx.rest_ok _ _ _ _ _ _ HCF.out (by omega)
                     have HO:=hide ho;clear ho;go_wp2_with (at_builtin;go_must (refine wpList_append_lies _ rfl _ _ _ rfl w.heap.size 3 i0 (.int .i64 0) 1 8 Tryz.underlying211 hi hz0 hz1 hz2 rfl (by decide) _ _ _ rfl (hown.alloc _) ⟨wr.heap.size,0,none⟩ 1 1 [.int .i64 cc] rfl rfl (cell_one_new _ _ _) (by simp [Value.oneCell']) (by omega) (by unfold maxLen;omega) (by omega) (by simp;omega) _ rfl ?_;intro g cap w1 hown1 hgrow hat hlt1))
                     exact ⟨⟨p,pre ++ [cc],rfl,hps,by simp;omega,by rw [inV_app,List.length_append];exact hown1,below_app hB hsz hown hgrow,let_more HQ.out HO.out⟩,by simp [intOf];omega⟩
          · by_cases c5:s[i].toNat<248
            · skip
              have hlead:Hid (Sx.lead s.data.toList[i]=some (3,(s[i].toNat:Int)-240,65536)):=by
               refine hide ?_;rw [HBY.out];unfold Sx.lead;rw [if_neg (by omega),if_neg (by omega),if_neg (by omega),if_pos (by omega)]
              go_wp2
              go_loop [5,6,9] (fun n c k=>∃ (j p:Nat) (cc:Int),n=.int .i64 p∧c=.int .i64 cc∧k=.int .i64 j∧j≤3∧p≤s.size∧i+1+j≤p∧p≤i+1+j∧0≤cc∧cc≤67108863∧cc≤Sx.cb j∧Sx.contF (3-j) cc (s.data.toList.drop p)=Sx.contF 3 ((s[i].toNat:Int)-240) (s.data.toList.drop (i+1))) (fun _ _ k=>(3-intOf k).toNat)
              case atStart=>exact ⟨0,i+1,_,by go_num,rfl,rfl,by omega,by omega,by omega,by omega,by omega,by omega,by simp [Sx.cb];omega,rfl⟩
              case round =>
               obtain ⟨j,p,cc,rfl,rfl,rfl,hj,hps,hp1,hp2,hc0,hc1,hcb,hcq⟩:=hrel;have HCQ:=hide hcq;have HCB:=hide hcb;clear hcq hcb;by_cases hjm:j<3
               · by_cases hpl:p<s.size
                 · have hyp:=byte_atC s p hpl (by rw [HL.out];exact hpl);have HY:=hide hyp;clear hyp;have hyl:=s[p].toNat_lt;by_cases g1:128≤s[p].toNat
                   · by_cases g2:s[p].toNat<192
                     · have hstep:=Sx.cb_step cc j s[p].toNat HCB.out (by omega);have hle:=Sx.cb_le (j+1) (by omega);have HST:=hide hstep;have hcc2:cc*64+(s[p].toNat:Int)-128≤67108863:=by omega
                       clear hstep hle;go_wp2;refine ⟨⟨u2,u3,_,_,_,⟨j+1,p+1,by go_num,_,rfl,by go_num,by omega,by omega,by omega,by omega,by omega,hcc2,HST.out,?_⟩,rfl,rfl,rfl,rfl,rfl⟩,by simp [intOf];omega⟩;rw [←HCQ.out];have hm:3-j=(3-(j+1))+1:=by omega
                       rw [hm,Sx.contF_yes _ cc _ p (by rw [HL.out];exact hpl) (by rw [HY.out];exact g1) (by rw [HY.out];exact g2),HY.out]
                     · go_wp2;go_ret2;refine ⟨hB,.inl ⟨let_fail HQ.out hi2 ?_,rfl⟩⟩;rw [Sx.one_at _ i hi2 _ _ _ hlead.out,Sx.rest_none];rw [←HCQ.out,show 3-j=(3-(j+1))+1 from by omega,Sx.contF_no _ cc _ p (by rw [HL.out];exact hpl) (by rw [HY.out];omega)]
                   · go_wp2;go_ret2;refine ⟨hB,.inl ⟨let_fail HQ.out hi2 ?_,rfl⟩⟩;rw [Sx.one_at _ i hi2 _ _ _ hlead.out,Sx.rest_none];rw [←HCQ.out,show 3-j=(3-(j+1))+1 from by omega,Sx.contF_no _ cc _ p (by rw [HL.out];exact hpl) (by rw [HY.out];omega)]
                 · go_wp2;go_ret2;refine ⟨hB,.inl ⟨let_fail HQ.out hi2 ?_,rfl⟩⟩;rw [Sx.one_at _ i hi2 _ _ _ hlead.out,Sx.rest_none];rw [←HCQ.out,show 3-j=(3-(j+1))+1 from by omega,Sx.contF_end _ cc _ p (by rw [HL.out];omega)]
               · have hjM:3-j=0:=by omega
                 have hcf:Sx.contF 3 ((s[i].toNat:Int)-240) (s.data.toList.drop (i+1))=some (cc,s.data.toList.drop p):=by rw [←HCQ.out,hjM];rfl
                 have HCF:=hide hcf;clear hcf hjM;have bads:∀ hbad:cc<65536∨1114111<cc∨(55296≤cc∧cc≤57343),Sx.letters s.data.toList=none:=fun hbad=>let_fail HQ.out hi2 (by rw [Sx.one_at _ i hi2 _ _ _ hlead.out];exact Sx.rest_bad _ _ _ _ _ _ HCF.out hbad);have BADS:=hide bads;clear bads;by_cases d1:cc<65536
                 · go_wp2;go_ret2;exact ⟨hB,.inl ⟨BADS.out (by omega),rfl⟩⟩
                 · by_cases d2:1114111<cc
                   · go_wp2;go_ret2;exact ⟨hB,.inl ⟨BADS.out (by omega),rfl⟩⟩
                   · have ho:Sx.one (s.data.toList.drop i)=some (cc,s.data.toList.drop p):=by rw [Sx.one_at _ i hi2 _ _ _ hlead.out];exact Sx.rest_ok _ _ _ _ _ _ HCF.out (by omega)
                     have HO:=hide ho;clear ho;go_wp2_with (at_builtin;go_must (refine wpList_append_lies _ rfl _ _ _ rfl w.heap.size 3 i0 (.int .i64 0) 1 8 Tryz.underlying211 hi hz0 hz1 hz2 rfl (by decide) _ _ _ rfl (hown.alloc _) ⟨wr.heap.size,0,none⟩ 1 1 [.int .i64 cc] rfl rfl (cell_one_new _ _ _) (by simp [Value.oneCell']) (by omega) (by unfold maxLen;omega) (by omega) (by simp;omega) _ rfl ?_;intro g cap w1 hown1 hgrow hat hlt1))
                     exact ⟨⟨p,pre ++ [cc],rfl,hps,by simp;omega,by rw [inV_app,List.length_append];exact hown1,below_app hB hsz hown hgrow,let_more HQ.out HO.out⟩,by simp [intOf];omega⟩
            · skip
              have hlead:Hid (Sx.lead s.data.toList[i]=none):=by
               refine hide ?_;rw [HBY.out];unfold Sx.lead;rw [if_neg (by omega),if_neg (by omega),if_neg (by omega),if_neg (by omega)]
              go_wp2;go_ret2;exact ⟨hB,.inl ⟨let_fail HQ.out hi2 (Sx.one_bad _ i hi2 hlead.out),rfl⟩⟩
      · skip
        have hlead:Hid (Sx.lead s.data.toList[i]=none):=by
         refine hide ?_;rw [HBY.out];unfold Sx.lead;rw [if_neg (by omega),if_neg (by omega),if_neg (by omega),if_neg (by omega)]
        go_wp2;go_ret2;exact ⟨hB,.inl ⟨let_fail HQ.out hi2 (Sx.one_bad _ i hi2 hlead.out),rfl⟩⟩
  · go_wp2;go_ret2;refine ⟨hB,.inr ⟨pre,_,?_,rfl,hown⟩⟩;rw [←HQ.out,List.drop_eq_nil_of_le (by rw [HL.out];omega)];simp [Sx.letters_nil]
def HostPost (s:List UInt8) (B:Nat) (w:World) (e:Ending) (w':World):Prop :=
 Below B w w'∧∃ v,e=.returned (.tuple #[v,.int .i64 (Sx.host s).2])∧w'.ownsRow B 9 1 v (Sx.host s).1.length (stV (Sx.host s).1)∧(Sx.host s).1.length≤6∧(∀ x∈(Sx.host s).1,x.length≤20)
theorem host_none {s:List UInt8} (hs:¬ 60<s.length) (h:Sx.letters s=none):Sx.host s=([],2):=by unfold Sx.host;rw [if_neg hs,h]
theorem host_bad {s:List UInt8} {l:List Int} (hs:¬ 60<s.length) (h:Sx.letters s=some l) (hg:Sx.hostGo l []=none):Sx.host s=([],2):=by unfold Sx.host;rw [if_neg hs,h];simp only [hg]
theorem host_end {s:List UInt8} {l:List Int} {h:List (List UInt8)} (hs:¬ 60<s.length) (hl:Sx.letters s=some l) (hg:Sx.hostGo l []=some h):Sx.host s=Sx.hostEnd h:=by unfold Sx.host;rw [if_neg hs,hl];simp only [hg]
theorem post_fail {s:List UInt8} {B:Nat} {w w':World} {n:Int} (h:Sx.host s=([],n)) (hb:Below B w w') (e:Ending) (he:e=.returned (.tuple #[.slice none 0 0,.int .i64 n])):HostPost s B w e w':=by
 refine ⟨hb,.slice none 0 0,?_,?_,?_,?_⟩
 · rw [h,he]
 · rw [h];exact World.ownsRow_nil _ _ 9 1
 · rw [h];simp
 · rw [h];intro x hx;simp at hx
theorem let_len:∀ (f:Nat) (s:List UInt8) (l:List Int),Sx.letF f s=some l→l.length≤s.length∧∀ c∈l,0≤c∧c≤1114111:=by
 intro f
 induction f with
 | zero =>
   intro s l h;cases s with
   | nil=>simp only [Sx.letF,Option.some.injEq] at h;subst h;simp
   | cons x s=>simp [Sx.letF] at h
 | succ f ih =>
   intro s l h;cases s with
   | nil=>simp only [Sx.letF,Option.some.injEq] at h;subst h;simp
   | cons x s =>
     simp only [Sx.letF] at h;cases ho:Sx.one (x :: s) with
     | none=>rw [ho] at h;simp at h
     | some p =>
       obtain ⟨c,r⟩:=p;rw [ho] at h;simp only [Option.map_eq_some_iff] at h;obtain ⟨l2,h2,rfl⟩:=h;have h3:=ih r l2 h2;have h4:=Sx.one_len x s c r ho;refine ⟨by simp only [List.length_cons];omega,?_⟩;intro y hy;rcases List.mem_cons.1 hy with rfl | hy
       · simp only [Sx.one] at ho;split at ho
         · cases ho
         · rename_i m c0 least hlead;unfold Sx.rest at ho;split at ho
           · cases ho
           · rename_i c' s' hcf;split at ho
             · cases ho
             · rename_i hb;simp only [Option.some.injEq,Prod.mk.injEq] at ho;have hlo:0≤least:=by
                unfold Sx.lead at hlead
                repeat' split at hlead
                all_goals (simp only [Option.some.injEq,Prod.mk.injEq,reduceCtorEq] at hlead;try omega)
               omega
       · exact h3.2 y hy
theorem hostGo_ne:∀ (l cur:List Int) (h:List (List UInt8)),Sx.hostGo l cur=some h→0<h.length:=by
 intro l
 induction l with
 | nil =>
   intro cur h hh;simp only [Sx.hostGo] at hh;split at hh
   · cases hh
   · cases hh;simp
 | cons c r ih =>
   intro cur h hh;simp only [Sx.hostGo] at hh;split at hh
   · split at hh
     · cases hh
     · rw [Option.map_eq_some_iff] at hh;obtain ⟨y,_,rfl⟩:=hh;simp
   · exact ih _ _ hh
theorem digs_more (l:List UInt8) (j:Nat) (h:j<l.length):Sx.digs (l.take (j+1))=(Sx.digs (l.take j) && (decide (48≤l[j].toNat) && decide (l[j].toNat≤57))):=by
 unfold Sx.digs;rw [List.take_succ_eq_append_getElem h,List.all_append];simp
theorem own_str {w:World} {B b cap:Nat} {h:List (List UInt8)} (ho:w.ownsRow B 9 1 (.slice (some ⟨b,0,none⟩) h.length cap) h.length (stV h)) (k:Nat) (hk:k<h.length):w.cell? ⟨b,k,none⟩=some (.string ⟨(h.getD k []).toArray⟩):=by
 obtain ⟨_,_,_,_,_,_,hc⟩:=own_cells ho;rw [hc k (by simp [stV];exact hk)];simp [stV,List.getElem?_eq_getElem hk]
theorem rhost_any (s:ByteArray) (w:World):Calls Tryz.prog 147 #[.string s] w (HostPost s.data.toList w.heap.size w):=by
 obtain ⟨i0,hi,hz0,hz1,hz2⟩:=info_parts Tryz.info9;by_cases hs:60<s.size
 · have hh:Sx.host s.data.toList=([],1):=by unfold Sx.host;rw [ba_len,if_pos hs]
   have HH:=hide hh;clear hh;go_enter Tryz.func147,Tryz.ntmps147;go_wp2;go_ret2;exact post_fail HH.out (Below.refl _ _) _ rfl
 · have hsl:¬ 60<s.data.toList.length:=by rw [ba_len];exact hs
   have HSL:=hide hsl;clear hsl;go_enter Tryz.func147,Tryz.ntmps147;go_wp2_with fail
   refine (rlet_any s _ (by omega)).mono ?_;rintro e w1 ⟨hB1,(⟨hn,rfl⟩ | ⟨l,v,hn,rfl,hown⟩)⟩
   · have HN:=hide hn;clear hn;go_wp2;go_ret2;exact post_fail (host_none HSL.out HN.out) hB1 _ rfl
   · have HN:=hide hn;have hll:=let_len _ _ _ hn;rw [ba_len] at hll;obtain ⟨hll1,hll2⟩:=hll;have HLV:=hide hll2;have hsz1:=hB1.size;clear hn hll2;rcases hown.2 with ⟨rfl,hl0⟩ | ⟨g,cap,cur,rfl,hg1,hg2,hc1,hc2,hc3,hc4⟩
     · have hl1:l=[]:=List.eq_nil_of_length_eq_zero hl0;have HL1:=hide hl1;clear hl1 hl0 hown;go_wp2
       go_loopw [6,7,8,9] (fun x f a i wr=>x=.slice none 0 0∧f=.int .i64 0∧a=.int .i64 0∧i=.int .i64 0∧wr=w1) (fun _ _ _ _ _=>0)
       case atStart=>exact ⟨rfl,rfl,rfl,rfl,rfl⟩
       case round =>
        obtain ⟨rfl,rfl,rfl,rfl,rfl⟩:=hrel;go_wp2_with fail
        refine (rlab_nil _ _ _).mono ?_;rintro e w2 ⟨hB2,(⟨hn2,rfl⟩ | ⟨x,hn2,_,rfl⟩)⟩
        · clear hn2;go_wp2;go_ret2;exact post_fail (host_bad HSL.out HN.out (by rw [HL1.out];simp only [Sx.hostGo,Sx.label_nil])) (hB1.trans (hB2.mono hsz1)) _ rfl
        · rw [Sx.label_nil] at hn2;cases hn2
     · have hgl:g<w1.heap.size:=(hown.lt g rfl).2;have HOWN:=hide hown;clear hown hg2 hc3 hc4;go_wp2
       go_loopw [6,7,8,9] (fun hv fv av iv wr=>∃ (k f:Nat) (pre:List (List UInt8)),fv=.int .i64 f∧av=.int .i64 (Sx.allLen pre)∧iv=.int .i64 k∧k≤l.length+1∧f≤k∧pre.length≤k∧Sx.allLen pre≤21*k∧(∀ x∈pre,x.length≤20)∧Sx.HostAt l k f pre∧wr.ownsRow w1.heap.size 9 1 hv pre.length (stV pre)∧Below w1.heap.size w1 wr) (fun _ _ _ iv _=>(l.length+1-intOf iv).toNat)
       case atStart=>exact ⟨0,0,[],rfl,rfl,rfl,by omega,by omega,by simp,by simp [Sx.allLen],fun x hx=>by simp at hx,Sx.HostAt.zero l,World.ownsRow_nil _ _ 9 1,Below.refl _ _⟩
       case round =>
        obtain ⟨k,f,pre,rfl,rfl,rfl,hk,hfk,hpk,hal,hxs,hat,hownh,hB⟩:=hrel;have HAT:=hide hat;have HXS:=hide hxs;have hszr:=hB.size;clear hat hxs;by_cases hke:k≤l.length
        · have hownl:=own_later HOWN.out hB;by_cases hkl:k<l.length
          · have hcell:wr.cell? ⟨g,k,none⟩=some (.int .i64 l[k]):=by
             have:=(own_cells hownl).2.2.2.2.2.2 k (by simp [inV];exact hkl);rw [this];simp [inV]
            obtain ⟨c,hc⟩:∃ c,l[k]=c:=⟨_,rfl⟩
            rw [hc] at hcell;have HC:=hide hc;clear hc;by_cases h46:c=46
            · subst h46;have hdot:Hid (∀ h:k<l.length,l[k]=46):=hide (fun _=>HC.out);have hbl:=Sx.between_len l f k hfk hke;have HBL:=hide hbl;clear hbl;by_cases hfe:f<k
              · have hrd:∀ j (h:j<(Sx.between l f k).length),wr.cell? ⟨g,f+j,none⟩=some (.int .i64 (Sx.between l f k)[j]):=by
                 intro j h;have hb2:=HBL.out;rw [Sx.between_get l f k j hke h];have:=(own_cells hownl).2.2.2.2.2.2 (f+j) (by simp [inV];omega);rw [this];simp [inV]
                have hlab:=rlab_some (Sx.between l f k) g f (cap-f) wr (by rw [HBL.out];omega) (by rw [HBL.out];omega) (by omega) hrd (fun c hc=>HLV.out c (List.mem_of_mem_take (List.mem_of_mem_drop hc)));rw [HBL.out] at hlab;have HLAB:=hide hlab;have hcf:¬ cap=f:=by omega
                clear hrd hlab hownl;go_wp2_with fail
                refine HLAB.out.mono ?_;rintro e w2 ⟨hB2,(⟨hn2,rfl⟩ | ⟨x,hn2,hx20,rfl⟩)⟩;all_goals
                 have HN2:=hide hn2;clear hn2
                · go_wp2;go_ret2;exact post_fail (host_bad HSL.out HN.out (HAT.out.bad hke hdot.out HN2.out)) (hB1.trans ((hB.trans (hB2.mono hszr)).mono hsz1)) _ rfl
                · have hown2:=own_later hownh hB2;have hB3:=hB.trans (hB2.mono hszr);have hsz3:=hB3.size;go_wp2_with (at_builtin;go_must (refine wpList_append_lies _ rfl _ _ _ rfl w1.heap.size 9 i0 (.string ⟨#[]⟩) 1 16 Tryz.underlying34 hi hz0 hz1 hz2 rfl (by decide) _ _ _ rfl (hown2.alloc _) ⟨w2.heap.size,0,none⟩ 1 1 [.string ⟨x.toArray⟩] rfl rfl (cell_one_new _ _ _) (by simp [Value.oneCell']) (by omega) (by unfold maxLen;omega) (by omega) (by simp;omega) _ rfl ?_;intro g2 cap2 w3 hown3 hgrow hat hlt1))
                  refine ⟨⟨k+1,k+1,pre ++ [x],by go_num,by rw [Sx.allLen_snoc];go_num,by go_num,by omega,by omega,by simp;omega,by rw [Sx.allLen_snoc];omega,?_,HAT.out.more hke hdot.out HN2.out,by rw [stV_app,List.length_append];exact hown3,below_app hB3 hsz3 hown2 hgrow⟩,by simp [intOf];omega⟩;intro y hy;rcases List.mem_append.1 hy with hy | hy
                  · exact HXS.out y hy
                  · rw [List.mem_singleton] at hy;rw [hy];exact hx20
              · have hfe2:f=k:=by omega
                subst hfe2;clear hownl;by_cases hcf:cap=f;all_goals
                 go_wp2_with fail
                 refine (rlab_nil _ _ _).mono ?_;rintro e w2 ⟨hB2,(⟨hn2,rfl⟩ | ⟨x,hn2,_,rfl⟩)⟩
                 · clear hn2;go_wp2;go_ret2;exact post_fail (host_bad HSL.out HN.out (HAT.out.bad hke hdot.out (by rw [Sx.between_same];exact Sx.label_nil))) (hB1.trans ((hB.trans (hB2.mono hszr)).mono hsz1)) _ rfl
                 · rw [Sx.label_nil] at hn2;cases hn2
            · have h46':(c != 46)=true:=by rw [bne_iff_ne];exact h46
              have H46:=hide h46;clear h46 hownl;go_wp2;exact ⟨⟨k+1,f,pre,rfl,rfl,by go_num,by omega,by omega,by omega,by omega,HXS.out,HAT.out.skip hkl (by rw [HC.out];exact H46.out),hownh,hB⟩,by simp [intOf];omega⟩
          · have hdot:Hid (∀ h:k<l.length,l[k]=46):=hide (fun h=>absurd h hkl);have hbl:=Sx.between_len l f k hfk hke;have HBL:=hide hbl;clear hbl;by_cases hfe:f<k
            · have hrd:∀ j (h:j<(Sx.between l f k).length),wr.cell? ⟨g,f+j,none⟩=some (.int .i64 (Sx.between l f k)[j]):=by
               intro j h;have hb2:=HBL.out;rw [Sx.between_get l f k j hke h];have:=(own_cells hownl).2.2.2.2.2.2 (f+j) (by simp [inV];omega);rw [this];simp [inV]
              have hlab:=rlab_some (Sx.between l f k) g f (cap-f) wr (by rw [HBL.out];omega) (by rw [HBL.out];omega) (by omega) hrd (fun c hc=>HLV.out c (List.mem_of_mem_take (List.mem_of_mem_drop hc)));rw [HBL.out] at hlab;have HLAB:=hide hlab;have hcf:¬ cap=f:=by omega
              clear hrd hlab hownl;go_wp2_with fail
              refine HLAB.out.mono ?_;rintro e w2 ⟨hB2,(⟨hn2,rfl⟩ | ⟨x,hn2,hx20,rfl⟩)⟩;all_goals
               have HN2:=hide hn2;clear hn2
              · go_wp2;go_ret2;exact post_fail (host_bad HSL.out HN.out (HAT.out.bad hke hdot.out HN2.out)) (hB1.trans ((hB.trans (hB2.mono hszr)).mono hsz1)) _ rfl
              · have hown2:=own_later hownh hB2;have hB3:=hB.trans (hB2.mono hszr);have hsz3:=hB3.size;go_wp2_with (at_builtin;go_must (refine wpList_append_lies _ rfl _ _ _ rfl w1.heap.size 9 i0 (.string ⟨#[]⟩) 1 16 Tryz.underlying34 hi hz0 hz1 hz2 rfl (by decide) _ _ _ rfl (hown2.alloc _) ⟨w2.heap.size,0,none⟩ 1 1 [.string ⟨x.toArray⟩] rfl rfl (cell_one_new _ _ _) (by simp [Value.oneCell']) (by omega) (by unfold maxLen;omega) (by omega) (by simp;omega) _ rfl ?_;intro g2 cap2 w3 hown3 hgrow hat hlt1))
                refine ⟨⟨k+1,k+1,pre ++ [x],by go_num,by rw [Sx.allLen_snoc];go_num,by go_num,by omega,by omega,by simp;omega,by rw [Sx.allLen_snoc];omega,?_,HAT.out.more hke hdot.out HN2.out,by rw [stV_app,List.length_append];exact hown3,below_app hB3 hsz3 hown2 hgrow⟩,by simp [intOf];omega⟩;intro y hy;rcases List.mem_append.1 hy with hy | hy
                · exact HXS.out y hy
                · rw [List.mem_singleton] at hy;rw [hy];exact hx20
            · have hfe2:f=k:=by omega
              subst hfe2;clear hownl;by_cases hcf:cap=f;all_goals
               go_wp2_with fail
               refine (rlab_nil _ _ _).mono ?_;rintro e w2 ⟨hB2,(⟨hn2,rfl⟩ | ⟨x,hn2,_,rfl⟩)⟩
               · clear hn2;go_wp2;go_ret2;exact post_fail (host_bad HSL.out HN.out (HAT.out.bad hke hdot.out (by rw [Sx.between_same];exact Sx.label_nil))) (hB1.trans ((hB.trans (hB2.mono hszr)).mono hsz1)) _ rfl
               · rw [Sx.label_nil] at hn2;cases hn2
        · obtain ⟨hgo,_⟩:=HAT.out.done (by omega);have hpos:=hostGo_ne _ _ _ hgo;have hend:=host_end HSL.out HN.out hgo;have HEND:=hide hend;obtain ⟨gh,caph,rfl,hgh1,hgh2⟩:=hownh.form hpos;have hcell:=own_str hownh (pre.length-1) (by omega);obtain ⟨t,ht⟩:∃ t:ByteArray,(⟨(pre.getD (pre.length-1) []).toArray⟩:ByteArray)=t:=⟨_,rfl⟩
          have htl:pre.getD (pre.length-1) []=t.data.toList:=by rw [←ht]
          rw [ht] at hcell;have hdig:Sx.digs (pre.getD (pre.length-1) [])=Sx.digs t.data.toList:=by rw [htl]
          have HDIG:=hide hdig;have ht20:t.size≤20:=by
           rw [←ba_len,←htl];exact HXS.out _ (by rw [List.getD_eq_getElem?_getD,List.getElem?_eq_getElem (by omega),Option.getD_some];exact List.getElem_mem _)
          have hfin1:Hid (Sx.digs t.data.toList=true∨6<pre.length∨61<Sx.allLen pre→Sx.host s.data.toList=([],2)):=hide (fun h=>by
           rw [hend];unfold Sx.hostEnd;rw [hdig,if_pos];rcases h with h | h | h <;> simp [h])
          have hfin2:Hid (Sx.digs t.data.toList=false→¬ 6<pre.length→¬ 61<Sx.allLen pre→Sx.host s.data.toList=(pre,0)):=hide (fun h1 h2 h3=>by
           rw [hend];unfold Sx.hostEnd;rw [hdig,if_neg];simp [h1];omega)
          have hBB:=hB1.trans (hB.mono hsz1);clear hgo hend ht htl hdig;go_wp2
          go_loop [13,14] (fun o i=>∃ (j:Nat) (b:Bool),o=.bool b∧i=.int .i64 j∧j≤t.size∧Sx.digs (t.data.toList.take j)=b) (fun _ i=>(t.size-intOf i).toNat)
          case atStart=>exact ⟨0,true,rfl,rfl,by omega,rfl⟩
          case round =>
           obtain ⟨j,b,rfl,rfl,hj,hdj⟩:=hrel;have HDJ:=hide hdj;clear hdj;by_cases hjl:j<t.size
           · have hmo:=digs_more t.data.toList j (by rw [ba_len];exact hjl);rw [byte_at t j hjl,HDJ.out] at hmo;have HMO:=hide hmo;clear hmo;cases b with
             | false =>
               go_wp2;exact ⟨⟨j+1,false,rfl,by go_num,by omega,by rw [HMO.out];rfl⟩,by simp [intOf];omega⟩
             | true =>
               have hub:=t[j].toNat_lt;by_cases q1:48≤t[j].toNat
               · by_cases q2:t[j].toNat≤57
                 · have d1:decide (48≤(t[j].toNat:Int))=true:=by simp;omega
                   have d2:decide ((t[j].toNat:Int)≤57)=true:=by simp;omega
                   go_wp2;exact ⟨⟨j+1,true,rfl,by go_num,by omega,by rw [HMO.out];simp [q1,q2]⟩,by simp [intOf];omega⟩
                 · have d1:decide (48≤(t[j].toNat:Int))=true:=by simp;omega
                   have d2:decide ((t[j].toNat:Int)≤57)=false:=by simp;omega
                   go_wp2;exact ⟨⟨j+1,false,rfl,by go_num,by omega,by rw [HMO.out];simp;omega⟩,by simp [intOf];omega⟩
               · have d1:decide (48≤(t[j].toNat:Int))=false:=by simp;omega
                 go_wp2;exact ⟨⟨j+1,false,rfl,by go_num,by omega,by rw [HMO.out];simp;omega⟩,by simp [intOf];omega⟩
           · have hb:Sx.digs t.data.toList=b:=by rw [←HDJ.out,List.take_of_length_le (by rw [ba_len];omega)]
             have HB:=hide hb;clear hb;cases b with
             | true =>
               go_wp2;go_ret2;exact post_fail (hfin1.out (.inl HB.out)) hBB _ rfl
             | false =>
               by_cases r1:6<pre.length
               · have d1:decide (6<(pre.length:Int))=true:=by simp;omega
                 go_wp2;go_ret2;exact post_fail (hfin1.out (.inr (.inl r1))) hBB _ rfl
               · have d1:decide (6<(pre.length:Int))=false:=by simp;omega
                 by_cases r2:61<Sx.allLen pre
                 · go_wp2;go_ret2;exact post_fail (hfin1.out (.inr (.inr r2))) hBB _ rfl
                 · go_wp2;go_ret2;have hh:=hfin2.out HB.out r1 r2;refine ⟨hBB,.slice (some ⟨gh,0,none⟩) pre.length caph,?_,?_,?_,?_⟩
                   rotate_left
                   · rw [hh];exact hownh.mono hsz1
                   · rw [hh];simp;omega
                   · rw [hh];exact HXS.out
                   · rw [hh];rfl
end Go.Proofs.YtgohllfpceeboaaGreatDoor
