import Derived.Test.YtgohllfpceeboabGreatDoorAnbh
set_option maxRecDepth 100000
set_option maxHeartbeats 4000000
namespace Go.Proofs.YtgohllfpceeboabGreatDoor
theorem Tryz.info207 : (Tryz.prog.info? 207).map (fun i => (i.zero, i.size, i.bytes)) = some (some (.slice none 0 0), 1, 24) := by kernel_rfl
theorem Tryz.info90 : (Tryz.prog.info? 90).map (fun i => (i.zero, i.size, i.bytes)) = some (some (.slice none 0 0), 1, 24) := by kernel_rfl
open Go.RowKit
theorem RG (l:List Sx.Wd)(k:Nat)(h:k<l.length):Sx.pD (l.take (k+1))=Sx.pD (l.take k)++l[k]++[10]:=by
 unfold Sx.pD;rw[List.take_succ_eq_append_getElem h,List.flatMap_append];simp
theorem j9 {a b:List UInt8}:((⟨a.toArray⟩:ByteArray).toList == (⟨b.toArray⟩:ByteArray).toList)=decide (a=b):=by
 rw[ByteArray.toList_eq,ByteArray.toList_eq];by_cases h:a=b
 · simp[h]
 · simp[h]
theorem KR {α:Type} [DecidableEq α] (x:α)(L:List α)(j:Nat)(h:j<L.length)(hn:Sx.bH x (L.take j)=none)(hne:L[j]≠x):Sx.bH x (L.take (j+1))=none:=by
 rw[Sx.eV] at hn ⊢;rw[List.take_succ_eq_append_getElem h,List.mem_append,List.mem_singleton];rintro(h1 | h1)
 · exact hn h1
 · exact hne h1.symm
theorem wY {α:Type} [DecidableEq α] (x:α):∀ (L:List α) (j:Nat) (h:j<L.length),Sx.bH x (L.take j)=none→L[j]=x→Sx.bH x L=some j
 | [],j,h,_,_=>by simp at h
 | y::L,0,h,_,e=>by
   simp only[List.getElem_cons_zero] at e;simp[Sx.bH,e]
 | y::L,j+1,h,hn,e=>by
   simp only[List.take_succ_cons,Sx.bH] at hn;by_cases hy:y=x
   · rw[if_pos hy] at hn;cases hn
   · rw[if_neg hy,Option.map_eq_none_iff] at hn;have:=wY x L j (by simpa using h) hn (by simpa using e);simp[Sx.bH,hy,this]
theorem mH (w:World)(x y z:Value)(t:TypeId):∀ (j:Nat) (u:Value),[x,y,z][j]? = some u→(w.alloc (.cells #[x,y,z] t)).cell? ((⟨w.heap.size,0,none⟩:Addr).add j)=some u:=by
 intro j u hj;rw[Addr.add_lit,Nat.zero_add,World.cell?_alloc_mark]
 simpa using hj
structure NumIn (n:Nat) (l:List Sx.Wd) (q:List oC) (k:Nat) (done:List (UInt8×List Sx.Wd)) (q2:List oC) (es:List Sx.aT):Prop where
 le:k≤l.length
 grp:Sx.grp l=done++Sx.grp (l.drop k)
 fold:done.foldl (Sx.vB n) (q.map (·.2.2),[])=(q2.map (·.2.2),es)
 nonl:∀ x∈q2,Sx.vL x.2.2.1
 room:q2.length+((Sx.grp (l.drop k)).map fun g=>Sx.sl g.2+1).sum+1≤100000
 many:es.length≤k
theorem i8 {n:Nat}{l:List Sx.Wd}{q q2:List oC}{B:Nat}{av:Value}{w wo w5:World}{u:List UInt8}{p2:Option Addr}{c2 k g5 cap5:Nat}{es:List Sx.aT}{bv tv:Value}{done:List (UInt8×List Sx.Wd)}{o:Obj}{e:Ending}
 (hm:NumMem q B av w u (.slice p2 q2.length c2) wo q2 (BC es) (BW es) bv tv) (hin:NumIn n l q k done q2 es) (hnl:Sx.vL l) (hu:Sx.pD l=u) (hs:Sx.fU (n+1) (q.map (·.2.2)) l=(q2.map (·.2.2)++[(l,es)],(q2.map (·.2.2)).length))
 (hown:w5.ownsRow B 286 3 (.slice (some ⟨g5,0,none⟩) (q2.length+1) cap5) (q2.length+1) (SZ q2++[.string ⟨u.toArray⟩,bv,tv])) (hgrow:(wo.alloc o).grownBy w5 (Value.slice p2 q2.length c2).ownBlock) (hat:(Value.slice p2 q2.length c2).ownBlock=some g5∨g5=wo.heap.size+1) (he:e=.returned (.tuple #[.slice (some ⟨g5,0,none⟩) (q2.length+1) cap5,.int .i64 q2.length])):OH (n+1) l q B av w e w5:=by
 have hg2:wo.grownBy w5 (Value.slice p2 q2.length c2).ownBlock:=(World.grownBy_alloc wo o _).trans hgrow;refine⟨.slice (some ⟨g5,0,none⟩) (q2.length+1) cap5,q2++[(bv,tv,(l,es))],?_,?_,⟨?_,fun x hx=>?_,fun x hx=>?_⟩,?_,?_,fun x hx=>?_,fun x hx=>?_⟩
 · rw[he,hs];simp
 · rw[hs];simp
 · rw[List.length_append,List.length_singleton,y9];have:SZ [(bv,tv,(l,es))]=[.string ⟨u.toArray⟩,bv,tv]:=by simp[SZ,hu]
   rw[this];exact hown
 · rcases List.mem_append.1 hx with hx | hx
   · exact(hm.sts.bys x hx).kept hg2 (bI (hm.sts.bys x hx) hm.sts.row (by decide))
   · rw[List.mem_singleton.1 hx];have:=hm.bys.kept hg2 (bI hm.bys hm.sts.row (by decide))
     simpa[BC] using this
 · rcases List.mem_append.1 hx with hx | hx
   · exact(hm.sts.tos x hx).kept hg2 (bI (hm.sts.tos x hx) hm.sts.row (by decide))
   · rw[List.mem_singleton.1 hx];have:=hm.tos.kept hg2 (bI hm.tos hm.sts.row (by decide))
     simpa[BW] using this
 · refine eB hm.grown hg2 ?_;rcases hm.aAt with h | h
   · exact .inl h
   · exact .inr fun g hg=>Nat.le_of_lt (h g hg)
 · rcases hat with h | h
   · rw[show(Value.slice (some ⟨g5,0,none⟩) (q2.length+1) cap5).ownBlock=some g5 from rfl,←h];rcases hm.aAt with h2 | h2
     · exact .inl h2
     · exact .inr fun g hg=>Nat.le_of_lt (h2 g hg)
   · right;intro g hg;simp only[Value.ownBlock,Option.some.injEq] at hg;have:=hm.lt;omega
 · rcases List.mem_append.1 hx with hx | hx
   · exact hin.nonl x hx
   · rw[List.mem_singleton.1 hx];exact hnl
 · rcases List.mem_append.1 hx with hx | hx
   · exact hm.fresh x hx
   · rw[List.mem_singleton.1 hx];exact .inr ⟨fun g hg=>Nat.le_of_lt (hm.bAt g hg),fun g hg=>Nat.le_of_lt (hm.tAt g hg)⟩
theorem eD {w w1:World}{B n sz:Nat}{e:TypeId}{v:Value}{xs:List Value}{r:Option Nat}(h:w.ownsRow B e sz v n xs)(hg:w.grownBy w1 r)(hne:v.ownBlock=none∨v.ownBlock≠r):w1.ownsRow B e sz v n xs:=h.kept hg hne
theorem EG (w:World)(x:Value)(t:TypeId)(n:Nat)(hn:w.heap.size=n):∀ j u,[x][j]? = some u→(w.alloc (.cells #[x] t)).cell? ((⟨n,0,none⟩:Addr).add j)=some u:=by
 subst hn;exact cell_one_new w x t
theorem EW {l:List Sx.Wd}{k:Nat}{c:UInt8}{bh rest:List Sx.Wd}(hk:k<l.length)(hL:l.drop k=bh.map (c :: ·)++rest)(hne:∀ w∈l,w≠[])(hr:∀ d t r,rest=(d::t)::r→d≠c) :
 k+bh.length≤l.length∧l.drop (k+bh.length)=rest∧(∀ m (h:m<bh.length) (h2:k+m<l.length),l[k+m]=c::bh[m])∧∀ h:k+bh.length<l.length,∃ d t,l[k+bh.length]=d::t∧d≠c:=by
 have hlen:=congrArg List.length hL;rw[List.length_drop,List.length_append,List.length_map] at hlen;have hdrop:l.drop (k+bh.length)=rest:=by
  rw[←List.drop_drop,hL];have:=List.drop_left (l₁:=bh.map (c :: ·)) (l₂:=rest);rw[List.length_map] at this;exact this
 refine⟨by omega,hdrop,fun m h h2=>?_,fun h=>?_⟩
 · have h1:l[k+m]=(l.drop k)[m]'(by rw[List.length_drop];omega):=by rw[List.getElem_drop]
   rw[h1];have h3:(l.drop k)[m]? = (bh.map (c :: ·)++rest)[m]?:=by rw[hL]
   rw[List.getElem?_append_left (by rw[List.length_map];exact h),List.getElem?_map,List.getElem?_eq_getElem h,List.getElem?_eq_getElem (by rw[List.length_drop];omega)] at h3
   simpa using h3
 · have h1:l.drop (k+bh.length)=l[k+bh.length]::l.drop (k+bh.length+1):=List.drop_eq_getElem_cons h;rw[hdrop] at h1;have h2:=hne l[k+bh.length] (List.getElem_mem h);obtain⟨d,t,hd⟩:=List.exists_cons_of_ne_nil h2;refine⟨d,t,hd,hr d t (l.drop (k+bh.length+1)) ?_⟩;rw[←hd];exact h1
theorem Z7:∀ (n:Nat) (l:List Sx.Wd) (q:List oC) (B Br b cap:Nat) (av:Value) (w:World),Sx.kB n l→Sx.vL l→(∀ x∈q,Sx.vL x.2.2.1)→q.length+Sx.sl l+1≤100000→l.length≤1000→(∀ x∈l,x.length≤1000)→StsAt w B av q→B≤w.heap.size →
 w.ownsRow Br 9 1 (.slice (some ⟨b,0,none⟩) l.length cap) l.length (bB l)→Calls Tryz.prog 210 #[av,.slice (some ⟨b,0,none⟩) l.length cap] w (OH n l q B av w):=by
 intro n
 induction n with
 | zero =>
   intro l q B Br b cap av w h;exact absurd h (by simp[Sx.kB])
 | succ n ih =>
   intro l q B Br b cap av w hok hnl hqn hq hl hx hst hBw ho;have IH:=hide ih;clear ih;obtain⟨i0,hi,hz0,hz1,hz2⟩:=info_parts Tryz.info9;obtain⟨i2,hi2,hx0,hx1,hx2⟩:=info_parts Tryz.info5;obtain⟨i3,hi3,hv0,hv1,hv2⟩:=info_parts Tryz.info3;obtain⟨i1,hi1,hy0,hy1,hy2⟩:=info_parts Tryz.info286;have hbw:b<w.heap.size:=(ho.lt b rfl).2;obtain⟨p,c,rfl⟩:=aB hst.row;have HOK:=hide hok;have HNL:=hide hnl;have HQN:=hide hqn;have HX:=hide hx;have HST:=hide hst;have HO:=hide ho;have hql:q.length≤100000:=by omega
   have HQ:=hide hq;clear hok hnl hqn hx hst ho hq;go_enter Tryz.func210,Tryz.ntmps210;go_wp2
   go_loop [6,7] (fun s i=>∃ (k:Nat) (u:List UInt8),s=.string ⟨u.toArray⟩∧i=.int .i64 k∧k≤l.length∧u.length≤1001*k∧Sx.pD (l.take k)=u) (fun _ i=>(l.length-intOf i).toNat)
   case atStart=>exact⟨0,[],rfl,rfl,by omega,by simp,rfl⟩
   case round =>
    obtain⟨k,u,rfl,rfl,hk,hu,hd⟩:=hrel;have HD:=hide hd;clear hd;by_cases hlt:k<l.length
    · have hc:=dJ HO.out k hlt;have hxk:=HX.out l[k] (List.getElem_mem hlt);have hdt:=RG l k hlt;obtain⟨x,hxe⟩:∃ x,l[k]=x:=⟨_,rfl⟩
      rw[hxe] at hc hxk hdt;rw[HD.out] at hdt;have HDT:=hide hdt;clear hdt hxe;go_wp2;rw[show(#[10] : Array UInt8)=[10].toArray from rfl,bF,bF];exact⟨⟨k+1,_,rfl,by go_num,by omega,by simp;omega,HDT.out⟩,by simp[intOf];omega⟩
    · have hk2:l.take k=l:=List.take_of_length_le (by omega);rw[hk2] at HD;have hnl:¬ (k:Int)<(l.length:Int):=by omega
      clear hk2 hlt;go_wp2
      go_loop [8] (fun i=>∃ (j:Nat),i=.int .i64 j∧j≤q.length∧Sx.bH l ((q.take j).map (·.2.2.1))=none) (fun i=>(q.length-intOf i).toNat)
      case atStart=>exact⟨0,rfl,by omega,rfl⟩
      case round =>
       obtain⟨j,rfl,hj,hpo⟩:=hrel;have HPO:=hide hpo;clear hpo;by_cases hjl:j<q.length
       · obtain⟨g,c',hv,hg1,hg2⟩:=HST.out.row.form (by omega);simp only[Value.slice.injEq,true_and] at hv;obtain⟨rfl,rfl⟩:=hv;have hc:=HST.out.id j hjl;have hqj:((q.map (·.2.2.1))[j]'(by simpa using hjl))=q[j].2.2.1:=by simp
         have hnr:=HQN.out q[j] (List.getElem_mem hjl);obtain⟨r,hr⟩:∃ r,q[j].2.2.1=r:=⟨_,rfl⟩
         rw[hr] at hc hqj hnr;have HQJ:=hide hqj;have HNR:=hide hnr;clear hqj hnr hr;cases hb:(Sx.pD r == u) with
         | true =>
           have hre:r=l:=Sx.FD r l HNR.out HNL.out (by rw[HD.out];simpa using hb);have hsts:Sx.fU (n+1) (q.map (·.2.2)) l=(q.map (·.2.2),j):=by
            rw[Sx.gR,List.map_map,show((fun x:List Sx.Wd×List Sx.aT=>x.1)∘fun x:oC=>x.2.2)=fun x:oC=>x.2.2.1 from rfl,wY l (q.map (·.2.2.1)) j (by simpa using hjl) (by rw[←List.map_take];exact HPO.out) (by rw[HQJ.out];exact hre)]
           have HSTS:=hide hsts;clear hre hsts;go_wp2;go_ret2;exact⟨_,q,by rw[HSTS.out];rfl,by rw[HSTS.out],HST.out,⟨rfl,rfl,rfl,Nat.le_refl _,fun _ _ _=>rfl⟩,.inl rfl,HQN.out,fun x hx=>.inl hx⟩
         | false =>
           have hpo2:Sx.bH l ((q.take (j+1)).map (·.2.2.1))=none:=by
            rw[List.map_take];refine KR l _ j (by simpa using hjl) (by rw[←List.map_take];exact HPO.out) ?_;rw[HQJ.out];intro e;rw[e,HD.out] at hb;simp at hb
           have HPO2:=hide hpo2;clear hpo2;go_wp2;exact⟨⟨j+1,by go_num,by omega,HPO2.out⟩,by simp[intOf];omega⟩
       · have hjq:q.take j=q:=List.take_of_length_le (by omega);rw[hjq] at HPO;clear hjq;have hjn:¬ (j:Int)<(q.length:Int):=by omega
         clear hjl;have hst0:=HST.out;have hroom:q.length+((Sx.grp l).map fun g=>Sx.sl g.2+1).sum+1≤100000:=by
          have:=Sx.vP HOK.out;have:=HQ.out;omega
         have start:NumIn n l q 0 [] q []:=⟨by omega,by simp,rfl,HQN.out,by simpa using hroom,by simp⟩
         have mem:NumMem q B (.slice p q.length c) w u (.slice p q.length c) (w.alloc (.cells #[.string ⟨u.toArray⟩,.slice none 0 0,.slice none 0 0] 286)) q (BC []) (BW []) (.slice none 0 0) (.slice none 0 0) :=
          ⟨hst0.alloc _,by rw[World.cell?_alloc_mark];rfl,by rw[World.cell?_alloc_mark];rfl,by rw[World.cell?_alloc_mark];rfl,fun j=>by simp,World.ownsRow_nil _ _ _ _,World.ownsRow_nil _ _ _ _,by simp[Value.ownBlock],by simp[Value.ownBlock],World.grownBy_alloc _ _ _,.inl rfl,fun g e=>(hst0.row.lt g e).2,by simp,fun x _=>by cases x.1.ownBlock <;> simp[Value.ownBlock],fun x _=>by cases x.2.1.ownBlock <;> simp[Value.ownBlock],fun x hx=>.inl hx,⟨_,heap_alloc_new _ _⟩⟩
         have START:=hide start;have MEM:=hide mem;clear start mem hst0 hroom;go_wp2
         go_loopw [0,10] (fun a i wr=>∃ (k:Nat) (done:List (UInt8×List Sx.Wd)) (q2:List oC) (es:List Sx.aT) (bv tv:Value),i=.int .i64 k∧NumIn n l q k done q2 es∧NumMem q B (.slice p q.length c) w u a wr q2 (BC es) (BW es) bv tv) (fun _ i _=>(l.length-intOf i).toNat)
         case atStart=>exact⟨0,[],q,[],_,_,rfl,START.out,MEM.out⟩
         case round =>
          obtain⟨k,done,q2,es,bv,tv,rfl,hin,hm⟩:=hrel
          rename World=>wo
          by_cases hkl:k<l.length
          · have hck:=dJ (eD HO.out hm.grown (bI HO.out HST.out.row (by decide))) k hkl;rcases HOK.out.1 with hll | ⟨_,hne⟩
            · have hlk:l[k]=[]:=by
               have h1:=List.getElem_mem hkl;have h2:∀ x∈l,x=[]:=by rw[hll];simp
               exact h2 _ h1
              rw[hlk] at hck;have hk0:k=0:=by rw[hll] at hkl;simp at hkl;exact hkl
              have hin2:NumIn n l q (k+1) done q2 es:=by
               refine⟨by omega,?_,hin.fold,hin.nonl,?_,Nat.le_succ_of_le hin.many⟩
               · have:=hin.grp;rw[hk0,hll] at this ⊢
                 simpa[Sx.grp] using this
               · have:=hin.room;rw[hk0,hll] at this ⊢
                 simpa[Sx.grp] using this
              have HIN:=hide hin2;have HM:=hide hm;clear hlk hk0 hll hin hm hin2;go_wp2;exact⟨⟨k+1,done,q2,es,bv,tv,by go_num,HIN.out,HM.out⟩,by simp[intOf];omega⟩
            · obtain⟨c,bh,rest,hL,hb0,hr⟩:=Sx.mS (l.drop k) (fun w hw=>hne w (List.mem_of_mem_drop hw)) (by intro e;have:=congrArg List.length e;rw[List.length_drop,List.length_nil] at this;omega);obtain⟨f1,f2,f3,f4⟩:=EW hkl hL hne hr;have hgk:Sx.grp (l.drop k)=(c,bh)::Sx.grp rest:=by
               rw[hL];exact Sx.rI c bh rest hb0 (fun w hw=>hne w (by rw[←f2] at hw;exact List.mem_of_mem_drop hw)) hr
              have F3:=hide f3;have F4:=hide f4;have F2:=hide f2;have HGK:=hide hgk;have HIN:=hide hin;have HM:=hide hm;have hbh:0<bh.length:=List.length_pos_iff.2 hb0;have hlk:l[k]=c::bh[0]:=F3.out 0 hbh hkl;obtain⟨t0,ht0⟩:∃ t0,bh[0]=t0:=⟨_,rfl⟩
              rw[hlk,ht0] at hck;clear hlk ht0 hin hm f2 f3 f4 hgk hL hb0 hr hne;have hz0':∀ h:0<(⟨(c::t0).toArray⟩:ByteArray).size,(⟨(c::t0).toArray⟩:ByteArray)[0]'h=c:=fun _=>rfl
              go_upto_block 6 with fail
              clear hz0' hck;go_cut [10,12] (fun iv v wc=>iv=.int .i64 ((k:Int)+(bh.length:Int))∧wc.ownsRow wo.heap.size 9 1 v bh.length (bB bh)∧Below wo.heap.size wo wc)
              case first =>
               go_wp2
               go_loopw [10,12] (fun i v w4=>∃ m:Nat,i=.int .i64 (k+m:Nat)∧m≤bh.length∧w4.ownsRow wo.heap.size 9 1 v m (bB (bh.take m))∧Below wo.heap.size wo w4) (fun i _ _=>(k+bh.length-intOf i).toNat)
               case atStart=>exact⟨0,rfl,by omega,World.ownsRow_nil _ _ _ _,Below.refl _ _⟩
               case round =>
                obtain⟨m,rfl,hm,hown4,hB4⟩:=hrel;have hrow:=aD (eD HO.out HM.out.grown (bI HO.out HST.out.row (by decide))) hB4;by_cases hml:m<bh.length
                · have hkm:k+m<l.length:=by omega
                  have hc4:=dJ hrow (k+m) hkm;have hbt:=List.take_succ_eq_append_getElem hml;rw[F3.out m hml hkm] at hc4;obtain⟨t,ht⟩:∃ t,bh[m]=t:=⟨_,rfl⟩
                  rw[ht] at hc4 hbt;have HBT:=hide hbt;have hz0':∀ h:0<(⟨(c::t).toArray⟩:ByteArray).size,(⟨(c::t).toArray⟩:ByteArray)[0]'h=c:=fun _=>rfl;have hz1':(⟨(c::t).toArray⟩:ByteArray).extract 1 (List.length t+1)=⟨t.toArray⟩:=by
                   apply ByteArray.ext;simp
                  have hsz4:=hB4.size;clear ht hbt hrow;go_wp2_with (at_builtin;go_must (refine wpList_append_lies _ rfl _ _ _ rfl wo.heap.size 9 i0 (.string ⟨#[]⟩) 1 16 Tryz.underlying51 hi hz0 hz1 hz2 rfl (by decide) _ _ _ rfl (hown4.alloc _) ⟨_,0,none⟩ 1 1 [.string ⟨t.toArray⟩] rfl rfl (cell_one_new _ _ _) (by simp[Value.oneCell']) (by omega) (by unfold maxLen;omega) (by omega) (by simp;omega) _ rfl ?_;intro g5 cap5 w5 hown5 hgrow5 hat5 hlt5))
                  exact⟨⟨m+1,by go_num,by omega,by rw[HBT.out,gB];exact hown5,aH hB4 hsz4 hown4 hgrow5⟩,by simp[intOf];omega⟩
                · have hmb:m=bh.length:=by omega
                  subst hmb;clear hml hm;rw[List.take_length] at hown4;by_cases hkm:k+bh.length<l.length
                  · have hc4:=dJ hrow (k+bh.length) hkm;obtain⟨d,t,hdt,hdc⟩:=F4.out hkm;rw[hdt] at hc4;have hz0':∀ h:0<(⟨(d::t).toArray⟩:ByteArray).size,(⟨(d::t).toArray⟩:ByteArray)[0]'h=d:=fun _=>rfl;have hbq:((d.toNat:Int) == (c.toNat:Int))=false:=by
                     rw[beq_eq_false_iff_ne];intro e;exact hdc (UInt8.toNat_inj.1 (by omega))
                    clear hdt hdc hrow;go_wp2;go_meet
                    case rel=>exact⟨rfl,hown4,hB4⟩
                  · have hkn:¬ ((k:Int)+(bh.length:Int))<(l.length:Int):=by omega
                    clear hrow;go_wp2;go_meet
                    case rel=>exact⟨rfl,hown4,hB4⟩
              case rest =>
               obtain⟨rfl,hown4,hB4⟩:=hcut
               rename World=>wr
               obtain⟨gb,capb,hvb,hgb1,hgb2⟩:=hown4.form hbh;subst hvb;have hsz4:=hB4.size;have hmem:(c,bh)∈Sx.grp l:=by
                rw[HIN.out.grp,HGK.out];simp
               have hokb:Sx.kB n bh:=HOK.out.2 _ hmem;have hnlb:Sx.vL bh:=Sx.uV l HNL.out _ hmem;have hroom:q2.length+Sx.sl bh+1≤100000:=by
                have:=HIN.out.room;rw[HGK.out] at this;simp only[List.map_cons,List.sum_cons] at this;omega
               have hwb:∀ x∈bh,x.length≤1000:=by
                intro x hx;obtain⟨i,hi,rfl⟩:=List.mem_iff_getElem.1 hx;have h1:=HX.out l[k+i] (List.getElem_mem (by omega));rw[F3.out i hi (by omega)] at h1;simp only[List.length_cons] at h1;omega
               have hm4:=HM.out.below hB4;have hcall:=IH.out bh q2 B wo.heap.size gb capb u0 wr hokb hnlb HIN.out.nonl hroom (by omega) hwb hm4.sts (by have:=HM.out.lt;omega) hown4;have HCALL:=hide hcall;have HM4:=hide hm4;clear hmem hokb hnlb hwb hcall hm4 hown4;go_wp2_with fail
               refine HCALL.out.mono ?_;rintro e w6 ⟨v6,q6,rfl,hq6,hst6,hg6,hat6,hnl6,hfr6⟩;have F1:=hide f1;clear f1;have hm6:=HM4.out.deeper hst6 hg6 hat6 hfr6;obtain⟨idx,hidx⟩:∃ idx,(Sx.fU n (q2.map (·.2.2)) bh).2=idx:=⟨_,rfl⟩
               rw[hidx];have hin6:NumIn n l q (k+bh.length) (done++[(c,bh)]) q6 (es++[(c,idx)]):=by
                have h0:=HIN.out;refine⟨F1.out,?_,?_,hnl6,?_,?_⟩
                · rw[F2.out,h0.grp,HGK.out];simp
                · rw[List.foldl_append,h0.fold];simp only[List.foldl_cons,List.foldl_nil,Sx.vB];rw[hidx,hq6]
                · have h1:=h0.room;rw[HGK.out] at h1;simp only[List.map_cons,List.sum_cons] at h1;rw[F2.out];have h2:=Sx.vM n (q2.map (·.2.2)) bh (HOK.out.2 (c,bh) (by rw[h0.grp,HGK.out];simp));rw[←hq6,List.length_map,List.length_map] at h2;omega
                · have:=h0.many;rw[List.length_append,List.length_singleton];omega
               have HIN6:=hide hin6;have hes:=HIN.out.many;have b6:=hm6.bys;have hel:(BC es).length=es.length:=by simp[BC]
               have hel2:(BW es).length=es.length:=by simp[BW]
               rw[hel] at b6;have c16:=hm6.c1;have f6:=hm6.fz;have hlt6:=hm6.lt;obtain⟨pb,cb,rfl⟩:=aB b6;have HM6:=hide hm6;clear hin6 hq6 hst6 hg6 hat6 hnl6 hfr6 hm6 hidx;go_wp2_with (at_builtin;go_must (refine wpList_append_lies _ rfl _ _ _ rfl B 5 i2 (.int .u8 0) 1 1 Tryz.underlying90 hi2 hx0 hx1 hx2 rfl (by decide) _ _ _ rfl (b6.alloc _) ⟨_,0,none⟩ 1 1 [.int .u8 c.toNat] rfl rfl (cell_one_new _ _ _) (by simp[Value.oneCell']) (by omega) (by unfold maxLen;omega) (by omega) (by simp;omega) _ rfl ?_))
               intro g7 cap7 w7 hown7 hgrow7 hat7 hlt7;have f7:∀ j,w7.frozen? ⟨w.heap.size,j,none⟩=false:=fun j=>(hgrow7.frozen_far ⟨w.heap.size,j,none⟩ (by simp;omega) (fun e=>absurd (HM6.out.bAt _ e.symm) (Nat.lt_irrefl _))).trans ((World.frozen?_of_block (heap_alloc_old _ _ hlt6)).trans (f6 j));have c17:w7.cell? ⟨w.heap.size,1,none⟩=some (.slice pb es.length cb):=(hgrow7.cell_far ⟨w.heap.size,1,none⟩ (by simp;omega) (fun e=>absurd (HM6.out.bAt _ e.symm) (Nat.lt_irrefl _))).trans ((World.cell?_of_block (heap_alloc_old _ _ hlt6)).trans c16);have hm7:=HM6.out.pushB hown7 hgrow7 hat7 (by rw[hel]);have t7:=hm7.tos;rw[hel2] at t7;have c27:=hm7.c2;have hlt7':=hm7.lt;rw[World.size_setCell] at hlt7';obtain⟨pt,ct,rfl⟩:=aB t7;have HM7:=hide hm7;clear hm7 hown7 hgrow7 hat7 b6 c16 f6;go_wp2_with (at_builtin;go_must (refine wpList_append_lies _ rfl _ _ _ rfl B 3 i3 (.int .i64 0) 1 8 Tryz.underlying207 hi3 hv0 hv1 hv2 rfl (by decide) _ _ _ rfl (t7.alloc _) ⟨_,0,none⟩ 1 1 [.int .i64 idx] rfl rfl (EG _ _ _ _ (World.size_setCell _ _ _)) (by simp[Value.oneCell']) (by omega) (by unfold maxLen;omega) (by omega) (by simp;omega) _ rfl ?_))
               intro g8 cap8 w8 hown8 hgrow8 hat8 hlt8;have c28:w8.cell? ⟨w.heap.size,2,none⟩=some (.slice pt es.length ct):=(hgrow8.cell_far ⟨w.heap.size,2,none⟩ (by simp;omega) (fun e=>absurd (HM7.out.tAt _ e.symm) (Nat.lt_irrefl _))).trans ((World.cell?_of_block (heap_alloc_old _ _ HM7.out.lt)).trans c27);have f8:∀ j,w8.frozen? ⟨w.heap.size,j,none⟩=false:=fun j=>(hgrow8.frozen_far ⟨w.heap.size,j,none⟩ (by simp;omega) (fun e=>absurd (HM7.out.tAt _ e.symm) (Nat.lt_irrefl _))).trans ((World.frozen?_of_block (heap_alloc_old _ _ HM7.out.lt)).trans (HM7.out.fz j));have hm8:=HM7.out.pushN hown8 hgrow8 (by rw[World.size_setCell];exact hat8) (by rw[hel2]);have HM8:=hide hm8;clear hm8 hown8 hgrow8 hat8 t7 c27;go_wp2;refine⟨⟨k+bh.length,done++[(c,bh)],q6,es++[(c,idx)],.slice (some ⟨g7,0,none⟩) (es.length+1) cap7,.slice (some ⟨g8,0,none⟩) (es.length+1) cap8,by go_num,HIN6.out,?_⟩,by simp[intOf];omega⟩;have:=HM8.out
               simpa[BC,BW] using this
          · have hkk:k=l.length:=by have:=hin.le;omega
            subst hkk;clear hkl;have hg:Sx.grp l=done:=by have:=hin.grp;rw[List.drop_length] at this;simpa[Sx.grp] using this
            have hfold:=hin.fold;rw[←hg] at hfold;have hsts:Sx.fU (n+1) (q.map (·.2.2)) l=(q2.map (·.2.2)++[(l,es)],(q2.map (·.2.2)).length):=by
             rw[Sx.gR,List.map_map,show((fun x:List Sx.Wd×List Sx.aT=>x.1)∘fun x:oC=>x.2.2)=fun x:oC=>x.2.2.1 from rfl,HPO.out,hfold]
            have HSTS:=hide hsts;clear hsts hfold hg;have hrow:=hm.sts.row;have hq2:q2.length≤100000:=by have:=hin.room;omega
            have hbys:=hm.bys;have htos:=hm.tos;rw[show(BC es).length=es.length from by simp[BC]] at hbys;rw[show(BW es).length=es.length from by simp[BW]] at htos;obtain⟨p2,c2,rfl⟩:=aB hrow;obtain⟨p3,c3,rfl⟩:=aB hbys;obtain⟨p4,c4,rfl⟩:=aB htos;have hlt:=hm.lt;have k0:=hm.c0;have k1:=hm.c1;have k2:=hm.c2;have HIN:=hide hin;have HM:=hide hm;clear hin hm hbys htos;go_wp2_with (at_builtin;go_must (refine wpList_append_lies _ rfl _ _ _ rfl B 286 i1 (.agg #[.string ⟨#[]⟩,.slice none 0 0,.slice none 0 0]) 3 64 Tryz.underlying282 hi1 hy0 hy1 hy2 rfl (by decide) _ _ _ rfl (hrow.alloc _) ⟨_,0,none⟩ 1 1 [.string ⟨u.toArray⟩,.slice p3 es.length c3,.slice p4 es.length c4] rfl rfl (mH _ _ _ _ _) (by simp[Value.oneCell']) (by omega) (by unfold maxLen;omega) (by omega) (by simp;omega) _ rfl ?_))
            intro g5 cap5 w5 hown5 hgrow5 hat5 hlt5;go_wp2;go_ret2;refine i8 HM.out HIN.out HNL.out HD.out HSTS.out hown5 hgrow5 hat5 ?_;rfl
abbrev J7:=Value×Value×List Sx.aT
structure DtAt (w:World) (B:Nat) (bv tv:Value) (q:List J7):Prop where
 rb:w.ownsRow B 90 1 bv q.length (q.map (·.1))
 rt:w.ownsRow B 207 1 tv q.length (q.map (·.2.1))
 bys:∀ x∈q,w.ownsRow B 5 1 x.1 x.2.2.length (dO (BC x.2.2))
 tos:∀ x∈q,w.ownsRow B 3 1 x.2.1 x.2.2.length (dW (BW x.2.2))
theorem DtAt.below {w w':World}{B:Nat}{bv tv:Value}{q:List J7}(h:DtAt w B bv tv q)(hb:Below w.heap.size w w'):DtAt w' B bv tv q:=⟨aD h.rb hb,aD h.rt hb,fun x hx=>aD (h.bys x hx) hb,fun x hx=>aD (h.tos x hx) hb⟩
theorem DtAt.other {w w':World}{B B' n z:Nat}{e:TypeId}{bv tv v:Value}{q:List J7}{xs:List Value}(h:DtAt w B bv tv q)(ho:w.ownsRow B' e z v n xs)(hg:w.grownBy w' v.ownBlock)(h1:90≠e)(h2:207≠e)(h3:5≠e)(h4:3≠e):DtAt w' B bv tv q :=
 ⟨eD h.rb hg (bI h.rb ho h1),eD h.rt hg (bI h.rt ho h2),fun x hx=>eD (h.bys x hx) hg (bI (h.bys x hx) ho h3),fun x hx=>eD (h.tos x hx) hg (bI (h.tos x hx) ho h4)⟩
theorem DtAt.shape {w:World}{B:Nat}{bv tv:Value}{q:List J7}(h:DtAt w B bv tv q)(s:Nat)(hs:s<q.length)(hi:0<q[s].2.2.length) :
 ∃ gb cb gt ct rb kb rt kt,bv=.slice (some ⟨gb,0,none⟩) q.length cb∧tv=.slice (some ⟨gt,0,none⟩) q.length ct∧q[s].1=.slice (some ⟨rb,0,none⟩) q[s].2.2.length kb∧q[s].2.1=.slice (some ⟨rt,0,none⟩) q[s].2.2.length kt∧q[s].2.2.length≤kb:=by
 have hx:q[s]∈q:=List.getElem_mem hs;obtain⟨gb,cb,e1,-,-⟩:=h.rb.form (by omega);obtain⟨gt,ct,e2,-,-⟩:=h.rt.form (by omega);obtain⟨rb,kb,e3,-,-⟩:=(h.bys _ hx).form (by omega);obtain⟨rt,kt,e4,-,-⟩:=(h.tos _ hx).form (by omega);have hkb:q[s].2.2.length≤kb:=by
  rcases(h.bys _ hx).2 with ⟨e,_⟩ | ⟨g,cap,cur,e,_,_,_,hc,_⟩
  · rw[e3] at e;cases e
  · rw[e3] at e;injection e with _ _ e
    omega
 exact⟨gb,cb,gt,ct,rb,kb,rt,kt,e1,e2,e3,e4,hkb⟩
theorem DtAt.at {w:World}{B gb cb gt ct rb kb rt kt:Nat}{q:List J7}(h:DtAt w B (.slice (some ⟨gb,0,none⟩) q.length cb) (.slice (some ⟨gt,0,none⟩) q.length ct) q)(s:Nat)(hs:s<q.length)(i:Nat)(hi:i<q[s].2.2.length)(e3:q[s].1=.slice (some ⟨rb,0,none⟩) q[s].2.2.length kb)(e4:q[s].2.1=.slice (some ⟨rt,0,none⟩) q[s].2.2.length kt) :
 w.cell? ⟨gt,s,none⟩=some (.slice (some ⟨rt,0,none⟩) q[s].2.2.length kt)∧w.cell? ⟨rt,i,none⟩=some (.int .i64 (q[s].2.2[i].2))∧w.cell? ⟨gb,s,none⟩=some (.slice (some ⟨rb,0,none⟩) q[s].2.2.length kb)∧w.cell? ⟨rb,i,none⟩=some (.int .u8 (q[s].2.2[i].1.toNat)):=by
 have hx:q[s]∈q:=List.getElem_mem hs;have c1:=h.rb.cells (g:=gb) rfl s q[s].1 (by simp[hs]);have c2:=h.rt.cells (g:=gt) rfl s q[s].2.1 (by simp[hs]);have c3:=(h.bys _ hx).cells (g:=rb) (by rw[e3];rfl) i (.int .u8 (q[s].2.2[i].1.toNat)) (by simp[dO,BC,hi]);have c4:=(h.tos _ hx).cells (g:=rt) (by rw[e4];rfl) i (.int .i64 (q[s].2.2[i].2)) (by simp[dW,BW,hi]);rw[Addr.add_lit,Nat.zero_add] at c1 c2 c3 c4;rw[e3] at c1;rw[e4] at c2;exact⟨c2,c4,c1,c3⟩
def xO (f:Nat)(tab:List (List Sx.aT))(ahead:List UInt8)(acc:List Sx.Wd)(e:Sx.aT):List Sx.Wd:=if acc.length≤30 then jX f tab e.2 (ahead++[e.1]) acc else acc
theorem GZ {f:Nat}{tab:List (List Sx.aT)}{ahead:List UInt8}:∀ (es:List Sx.aT) (acc:List Sx.Wd),¬ acc.length≤30→es.foldl (xO f tab ahead) acc=acc
 | [],_,_=>rfl
 | e::es,acc,h=>by
   rw[List.foldl_cons,show xO f tab ahead acc e=acc from if_neg h];exact GZ es acc h
theorem VD {f:Nat}{tab:List (List Sx.aT)}{ahead:List UInt8}(es:List Sx.aT)(ks:List Sx.Wd)(i:Nat)(hi:i<es.length):(es.take (i+1)).foldl (xO f tab ahead) ks=xO f tab ahead ((es.take i).foldl (xO f tab ahead) ks) es[i]:=by
 rw[List.take_succ_eq_append_getElem hi,List.foldl_append];rfl
theorem P8 {tab:List (List Sx.aT)}(ho:Sx.cO tab)(f s:Nat)(ahead:List UInt8)(ks:List Sx.Wd)(hs:s<tab.length)(hf:s<f)(hk:ks.length≤30):(jX f tab s ahead ks).length≤31:=by
 rw[uR ho f (s+1) s ahead ks hs hf (by omega) hk,List.length_append,List.length_take];omega
def qQ (f:Nat)(tab:List (List Sx.aT))(s:Nat)(ahead:List UInt8)(ks:List Sx.Wd)(B:Nat)(kv:Value)(w:World)(e:Ending)(w':World):Prop :=
 ∃ v',e=.returned v'∧w'.ownsRow B 9 1 v' (jX f tab s ahead ks).length (bB (jX f tab s ahead ks))∧w.grownBy w' kv.ownBlock∧(v'.ownBlock=kv.ownBlock∨∀ g,v'.ownBlock=some g→w.heap.size≤g)
theorem pT {W:World}{b i cap:Nat}{c:UInt8}(h:W.cell? ⟨b,i,none⟩=some (.int .u8 c.toNat)):(convert 90 9 (.slice (some ⟨b,i,none⟩) 1 cap)).run Tryz.prog W=.ok (.string ⟨[c].toArray⟩) W:=by
 refine run_convert_bytes_back (P:=Tryz.prog) W 90 9 5 ⟨b,i,none⟩ cap [c] Tryz.underlying90 Tryz.underlying5 Tryz.underlying9 (fun j hj=>?_);obtain rfl:j=0:=by simpa using hj
 rw[Addr.add_lit];exact h
theorem DW (f:Nat)(tab:List (List Sx.aT))(s:Nat)(ahead:List UInt8)(ks:List Sx.Wd)(es:List Sx.aT)(h0:s≠0)(h:tab[s]? = some es):jX (f+1) tab s ahead ks=es.foldl (xO f tab ahead) ks:=yL f tab s ahead ks es h0 h
theorem MW {tab:List (List Sx.aT)}(ho:Sx.cO tab)(f s:Nat)(ahead:List UInt8)(hf:s≤f)(hs:s<tab.length):∀ (es:List Sx.aT) (ks:List Sx.Wd),(∀ e∈es,e.2<s)→ks.length≤31→(es.foldl (xO f tab ahead) ks).length≤31
 | [],_,_,h=>h
 | e::es,ks,he,h=>by
   rw[List.foldl_cons];refine MW ho f s ahead hf hs es _ (fun x hx=>he x (by simp[hx])) ?_;unfold xO;have:=he e (by simp);split
   · rename_i h30;exact P8 ho f e.2 _ ks (by omega) (by omega) h30
   · exact h
theorem X1 (q:List J7)(B:Nat)(bv tv:Value)(ho:Sx.cO (q.map (·.2.2)))(hq:q.length≤70000)(h255:∀ x∈q,x.2.2.length≤255):∀ (f s:Nat) (ahead:List UInt8) (ks:List Sx.Wd) (kv:Value) (w:World),DtAt w B bv tv q→s<f→s<q.length→ks.length≤30→w.ownsRow B 9 1 kv ks.length (bB ks)→B≤w.heap.size→ahead.length+s≤100000→Calls Tryz.prog 240 #[bv,tv,.int .i64 s,.string ⟨ahead.toArray⟩,kv] w (qQ f (q.map (·.2.2)) s ahead ks B kv w):=by
 intro f
 induction f with
 | zero=>intro s _ _ _ _ _ h;exact absurd h (Nat.not_lt_zero _)
 | succ f ih =>
   intro s ahead ks kv w hd hsf hs hk hown hB hah;have IH:=hide ih;clear ih;obtain⟨i0,hi,hz0,hz1,hz2⟩:=info_parts Tryz.info9;obtain⟨kp,kc,rfl⟩:=aB hown;have hAs:(⟨ahead.toArray⟩:ByteArray).size≤100000:=by rw[←aC];exact(by show ahead.length≤100000;omega)
   by_cases h0:s=0
   · subst h0;have hp:jX (f+1) (q.map (·.2.2)) 0 ahead ks=ks++[ahead]:=by
      show(if (0:Nat)=0 then ks++[ahead] else _)=_;rw[if_pos rfl]
     unfold qQ;rw[hp,gB,List.length_append,List.length_singleton];have HD:=hide hd;clear hd hp;go_enter Tryz.func240,Tryz.ntmps240;go_wp2_with (at_builtin;go_must (refine wpList_append_lies _ rfl _ _ _ rfl B 9 i0 (.string ⟨#[]⟩) 1 16 Tryz.underlying51 hi hz0 hz1 hz2 rfl (by decide) _ _ _ rfl (hown.alloc _) ⟨_,0,none⟩ 1 1 [.string ⟨ahead.toArray⟩] rfl rfl (cell_one_new _ _ _) (by simp[Value.oneCell']) (by omega) (by unfold maxLen;omega) (by omega) (by simp;omega) _ rfl ?_;intro g5 cap5 w5 hown5 hgrow5 hat5 hlt5))
     go_ret;refine⟨_,rfl,hown5,eB (World.grownBy_alloc _ _ _) hgrow5 (.inl rfl),?_⟩;rcases hat5 with h | h
     · exact .inl h.symm
     · refine .inr fun g e=>?_;rw[World.size_alloc] at h;have e':g5=g:=by simpa[Value.ownBlock] using e
       omega
   · obtain⟨es,hes⟩:∃ es,q[s].2.2=es:=⟨_,rfl⟩
     have hget:(q.map (·.2.2))[s]? = some es:=by rw[List.getElem?_map,List.getElem?_eq_getElem hs,←hes];rfl
     obtain⟨o1,o2⟩:=ho s es hget;have hpos:0<es.length:=List.length_pos_iff.2 (fun e=>h0 (o1.1 e));have hfw:=DW f (q.map (·.2.2)) s ahead ks es h0 hget;obtain⟨gb,cb,gt,ct,rb,kb,rt,kt,rfl,rfl,e3,e4,hkb⟩:=hd.shape s hs (by rw[hes];exact hpos);have hel:es.length≤255:=by rw[←hes];exact h255 _ (List.getElem_mem hs)
     have HAT:Hid (∀ W,DtAt W B (.slice (some ⟨gb,0,none⟩) q.length cb) (.slice (some ⟨gt,0,none⟩) q.length ct) q→∀ i (hi:i<es.length),W.cell? ⟨gt,s,none⟩=some (.slice (some ⟨rt,0,none⟩) es.length kt)∧W.cell? ⟨rt,i,none⟩=some (.int .i64 (es[i].2))∧W.cell? ⟨gb,s,none⟩=some (.slice (some ⟨rb,0,none⟩) es.length kb)∧W.cell? ⟨rb,i,none⟩=some (.int .u8 (es[i].1.toNat))):=hide (fun W hW i hi=>by
      subst hes;exact hW.at s hs i hi e3 e4)
     rw[hes] at hkb;have hle:∀ i,((es.take i).foldl (xO f (q.map (·.2.2)) ahead) ks).length≤31:=fun i=>MW ho f s ahead (by omega) (by rw[List.length_map];exact hs) _ ks (fun e he=>o2 e (List.mem_of_mem_take he)) (by omega);have HDO:Hid (∀ W,w.grownBy W (Value.slice kp ks.length kc).ownBlock→DtAt W B (.slice (some ⟨gb,0,none⟩) q.length cb) (.slice (some ⟨gt,0,none⟩) q.length ct) q):=hide (fun W hg=>hd.other hown hg (by decide) (by decide) (by decide) (by decide));obtain⟨tab,htab⟩:∃ t,q.map (·.2.2)=t:=⟨_,rfl⟩
     rw[htab] at hfw hle IH ⊢;have HLE:=hide hle;have HO2:=hide o2;unfold qQ;rw[hfw];have HOWN:=hide hown;obtain⟨A,hA⟩:∃ X:ByteArray,⟨ahead.toArray⟩=X:=⟨_,rfl⟩
     rw[hA] at hAs ⊢;clear hle hd o1 o2 hget e3 e4 hfw ho h255 hes htab hi hz0 hz1 hz2 hown;have hn0:((s:Int) == 0)=false:=by rw[beq_eq_false_iff_ne];omega
     have hsq:(s:Int)<q.length:=by omega
     go_enter Tryz.func240,Tryz.ntmps240;go_wp2
     go_loopw [4,11] (fun v iv wr=>∃ (i:Nat),iv=.int .i64 i∧i≤es.length∧wr.ownsRow B 9 1 v ((es.take i).foldl (xO f tab ahead) ks).length (bB ((es.take i).foldl (xO f tab ahead) ks))∧w.grownBy wr (Value.slice kp ks.length kc).ownBlock∧(v.ownBlock=(Value.slice kp ks.length kc).ownBlock∨∀ g,v.ownBlock=some g→w.heap.size≤g)) (fun _ i _=>(es.length-intOf i).toNat)
     case atStart=>exact⟨0,rfl,by omega,HOWN.out,⟨rfl,rfl,rfl,Nat.le_refl _,fun _ _ _=>rfl⟩,.inl rfl⟩
     case round =>
      obtain⟨i,rfl,hil,hown,hgr,hat⟩:=hrel
      rename World=>wr
      have h31:=HLE.out i;have hwt:∀ hi:i<es.length,(es.take (i+1)).foldl (xO f tab ahead) ks=xO f tab ahead ((es.take i).foldl (xO f tab ahead) ks) es[i]:=fun hi=>VD es ks i hi;have hfl:¬ ((es.take i).foldl (xO f tab ahead) ks).length≤30→es.foldl (xO f tab ahead) ks=(es.take i).foldl (xO f tab ahead) ks:=fun h=>by
       conv=>lhs;rw[←List.take_append_drop i es,List.foldl_append]
       exact GZ _ _ h
      obtain⟨acc,hacc⟩:∃ l,(es.take i).foldl (xO f tab ahead) ks=l:=⟨_,rfl⟩
      rw[hacc] at hown h31 hwt hfl;obtain⟨vp,vc,rfl⟩:=aB hown;by_cases hi:i<es.length
      · by_cases h30:acc.length≤30
        · obtain⟨c1,c2,c3,c4⟩:=HAT.out _ (HDO.out _ hgr) i hi;have HWT:=hide (hwt hi);have hlt:=HO2.out es[i] (List.getElem_mem hi);have hac:=fun W hW=>HAT.out W hW i hi;obtain⟨⟨c,t⟩,het⟩:∃ e,es[i]=e:=⟨_,rfl⟩
          rw[het] at HWT hlt;simp only[het] at hac;dsimp only at hlt;obtain⟨C1,hC1⟩:∃ X:ByteArray,⟨[c].toArray⟩=X:=⟨_,rfl⟩
          obtain⟨AC,hAC⟩:∃ X:ByteArray,⟨(ahead++[c]).toArray⟩=X:=⟨_,rfl⟩
          have hcat:A++C1=AC:=by rw[←hA,←hC1,←hAC];exact bF ahead [c]
          have hC1s:C1.size=1:=by rw[←hC1];rfl
          have hlim:(9223372036854775807<A.size+C1.size)=False:=by rw[hC1s];simp;omega
          have HSS:Hid (∀ W,DtAt W B (.slice (some ⟨gb,0,none⟩) q.length cb) (.slice (some ⟨gt,0,none⟩) q.length ct) q→W.cell? ⟨gt,s,none⟩=some (.slice (some ⟨rt,0,none⟩) es.length kt)∧W.cell? ⟨rt,i,none⟩=some (.int .i64 t)∧W.cell? ⟨gb,s,none⟩=some (.slice (some ⟨rb,0,none⟩) es.length kb)∧(convert 90 9 (.slice (some ⟨rb,i,none⟩) 1 (kb-i))).run Tryz.prog W=.ok (.string C1) W):=hide (fun W hW=>by
           obtain⟨k1,k2,k3,k4⟩:=hac W hW;exact⟨k1,k2,k3,by rw[←hC1];exact pT k4⟩)
          have hgz:w.heap.size≤wr.heap.size:=hgr.size;have hgd:w.grownBy wr.drew (Value.slice kp ks.length kc).ownBlock:=⟨hgr.os,hgr.tape,hgr.output,hgr.size,hgr.block⟩
          have HIH:Hid (Calls Tryz.prog 240 #[.slice (some ⟨gb,0,none⟩) q.length cb,.slice (some ⟨gt,0,none⟩) q.length ct,.int .i64 t,.string AC,.slice vp acc.length vc] wr.drew (qQ f tab t (ahead++[c]) acc B (.slice vp acc.length vc) wr.drew)):=hide (by
           rw[←hAC];exact IH.out t (ahead++[c]) acc _ wr.drew (HDO.out _ hgd) (by omega) (by omega) h30 hown (by show B≤wr.heap.size;omega) (by rw[List.length_append,List.length_singleton];omega))
          have hii:(i:Int)<(es.length:Int):=by omega
          have h30':(acc.length:Int)≤30:=by omega
          have hS0:=HSS.out _ (HDO.out _ hgd);have HGD:=hide hgd;have HAB:=hide hat;have hi1:i+1≤kb:=by omega
          clear hown hwt hfl hacc het hC1 hAC hac hgd hgr hat;go_wp2_with fail
          clear c1 c2 c3 c4;have hwI:IntKind.i64.wrap ((i:Int)+1)=(i:Int)+1:=by rw[IntKind.wrap_i64];omega
          have hw4:(i:Int)+1≤(kb:Int):=by omega
          have h01:(0:Int)≤(i:Int)+1:=by omega
          have htn:((i:Int)+1).toNat=i+1:=by omega
          have hne:(kb=i)=False:=by simp;omega
          go_region_held_law (fun w'=>w'.cell? ⟨gt,s,none⟩=some (.slice (some ⟨rt,0,none⟩) es.length kt)∧w'.cell? ⟨rt,i,none⟩=some (.int .i64 t)∧w'.cell? ⟨gb,s,none⟩=some (.slice (some ⟨rb,0,none⟩) es.length kb)∧(convert 90 9 (.slice (some ⟨rb,i,none⟩) 1 (kb-i))).run Tryz.prog w'=.ok (.string C1) w') (first | exact hS1 | exact hS0 | go_keep) (first | (go_at_call 240;refine HIH.out.mono ?_;rintro e y1 ⟨v',rfl,p1,p2,p3⟩;have hgy:=eB HGD.out p2 HAB.out;have hS1:=HSS.out _ (HDO.out _ hgy)))
          all_goals (
           go_wp2;refine⟨⟨i+1,by go_num,by omega,?_,hgy,?_⟩,by simp[intOf];omega⟩
           · rw[HWT.out,show xO f tab ahead acc (c,t)=jX f tab t (ahead++[c]) acc from if_pos h30];exact p1
           · rcases p3 with p3 | p3
             · rw[p3];exact HAB.out
             · exact .inr fun g e=>Nat.le_trans hgz (p3 g e))
        · have hfe:=hfl h30;obtain⟨c1,c2,c3,c4⟩:=HAT.out _ (HDO.out _ hgr) i hi;have HF:=hide (And.intro hown (And.intro hgr hat));have HFE:=hide hfe;have hii:(i:Int)<(es.length:Int):=by omega
          have h30':¬ (acc.length:Int)≤30:=by omega
          clear hown hgr hat hwt hfl hacc hfe;go_wp2;go_ret;obtain⟨f1,f2,f3⟩:=HF.out;exact⟨_,rfl,by rw[HFE.out];exact f1,f2,f3⟩
      · have hte:es.take i=es:=List.take_of_length_le (by omega);rw[hte] at hacc;have HFE:=hide hacc;have hii:¬ (i:Int)<(es.length:Int):=by omega
        obtain⟨c1,c2,c3,c4⟩:=HAT.out _ (HDO.out _ hgr) 0 hpos;have HF:=hide (And.intro hown (And.intro hgr hat));clear hown hgr hat hwt hfl hacc hte;go_wp2;go_ret;obtain⟨f1,f2,f3⟩:=HF.out;exact⟨_,rfl,by rw[HFE.out];exact f1,f2,f3⟩
def AY (l:List UInt8)(p:Nat):Sx.aT:=(l.getD p 0,(l.getD (p+1) 0).toNat*256+(l.getD (p+2) 0).toNat)
def rM (l:List UInt8)(p k:Nat):List Sx.aT:=(List.range k).map fun j=>AY l (p+3*j)
theorem tM (l:List UInt8)(p k:Nat):(rM l p k).length=k:=by simp[rM]
theorem UG (l:List UInt8)(p k:Nat):rM l p (k+1)=rM l p k++[AY l (p+3*k)]:=by
 unfold rM;rw[List.range_succ,List.map_append];rfl
theorem UW (l:List UInt8)(p k:Nat):rM l p (k+1)=AY l p::rM l (p+3) k:=by
 unfold rM;rw[List.range_succ_eq_map,List.map_cons,List.map_map,Nat.mul_zero,Nat.add_zero];congr 1;apply List.map_congr_left;intro j _;show AY l (p+3*(j+1))=AY l (p+3+3*j);congr 1;omega
theorem jE (l:List UInt8)(p:Nat)(h:p<l.length):l.drop p=l.getD p 0::l.drop (p+1):=by
 rw[List.drop_eq_getElem_cons h,List.getD_eq_getElem?_getD,List.getElem?_eq_getElem h];rfl
theorem jZ (l:List UInt8):∀ (k p:Nat),p+3*k≤l.length→Sx.cU k (l.drop p)=some (rM l p k,l.drop (p+3*k))
 | 0,p,_=>by
   show some ([],l.drop p)=some (rM l p 0,l.drop p);rfl
 | k+1,p,h=>by
   rw[jE l p (by omega),jE l (p+1) (by omega),jE l (p+1+1) (by omega)];show(Sx.cU k (l.drop (p+1+1+1))).map _=_;rw[show p+1+1+1=p+3 by omega,jZ l k (p+3) (by omega),UW,show p+3*(k+1)=p+3+3*k by omega];rfl
theorem oR:∀ (k:Nat) (r:List UInt8),r.length<3*k→Sx.cU k r=none
 | 0,_,h=>absurd h (by omega)
 | k+1,[],_=>rfl
 | k+1,[_],_=>rfl
 | k+1,[_,_],_=>rfl
 | k+1,c::x::y::b,h=>by
   show(Sx.cU k b).map _=none;rw[oR k b (by simp only[List.length_cons] at h;omega)];rfl
theorem B8 (m n p:Nat)(l:List UInt8)(h:l.length≤p):Sx.dN (m+1) n (l.drop p)=none:=by
 rw[List.drop_eq_nil_of_le h];rfl
theorem pU (m n p:Nat)(l:List UInt8)(h:p<l.length):Sx.dN (m+1) n (l.drop p)=match Sx.cU (l.getD p 0).toNat (l.drop (p+1)) with
 | none=>none
 | some (es,r')=>if (es=[]↔n=0)∧∀ e∈es,e.2<n then (Sx.dN m (n+1) r').map (es :: ·) else none:=by
 rw[jE l p h];rfl
theorem RB (m n p:Nat)(l:List UInt8)(h:p<l.length)(hk:l.length<p+1+3*(l.getD p 0).toNat):Sx.dN (m+1) n (l.drop p)=none:=by
 rw[pU m n p l h,oR _ _ (by rw[List.length_drop];omega)]
theorem MQ (l:List UInt8)(p k:Nat):rM l p k=[]↔k=0:=by
 rw[←List.length_eq_zero_iff,tM]
theorem UV (m n p:Nat)(l:List UInt8)(h:p<l.length)(hk:p+1+3*(l.getD p 0).toNat≤l.length)(hz:¬ ((l.getD p 0).toNat=0↔n=0)):Sx.dN (m+1) n (l.drop p)=none:=by
 rw[pU m n p l h,jZ l _ _ hk];show(if _ then _ else _)=_;rw[if_neg];rw[MQ];exact fun h=>hz h.1
theorem UM (m n p j:Nat)(l:List UInt8)(h:p<l.length)(hk:p+1+3*(l.getD p 0).toNat≤l.length)(hj:j<(l.getD p 0).toNat)(he:n≤(AY l (p+1+3*j)).2):Sx.dN (m+1) n (l.drop p)=none:=by
 rw[pU m n p l h,jZ l _ _ hk];show(if _ then _ else _)=_;rw[if_neg];intro hh;have:=hh.2 (AY l (p+1+3*j)) (List.mem_map.2 ⟨j,List.mem_range.2 hj,rfl⟩);omega
theorem UQ (m n p:Nat)(l:List UInt8)(h:p<l.length)(hk:p+1+3*(l.getD p 0).toNat≤l.length)(hz:(l.getD p 0).toNat=0↔n=0)(he:∀ e∈rM l (p+1) (l.getD p 0).toNat,e.2<n):Sx.dN (m+1) n (l.drop p)=(Sx.dN m (n+1) (l.drop (p+1+3*(l.getD p 0).toNat))).map (rM l (p+1) (l.getD p 0).toNat :: ·):=by
 rw[pU m n p l h,jZ l _ _ hk];show(if _ then _ else _)=_;rw[if_pos ⟨by rw[MQ];exact hz,he⟩]
theorem VI (l:List UInt8)(h:l.length<2):Sx.cH l=none:=by
 rcases l with _ | ⟨a,_ | ⟨b,r⟩⟩
 · rfl
 · rfl
 · simp at h;omega
theorem j4 (l:List UInt8)(h:2≤l.length):Sx.cH l=Sx.dN ((l.getD 0 0).toNat*256+(l.getD 1 0).toNat) 0 (l.drop 2):=by
 rcases l with _ | ⟨a,_ | ⟨b,r⟩⟩
 · simp at h
 · simp at h
 · rfl
theorem eI {w w1:World}{B B' n n' z z':Nat}{e e':TypeId}{v v':Value}{xs xs':List Value}{o:Obj}(h:w.ownsRow B e z v n xs)(h':w.ownsRow B' e' z' v' n' xs')(hne:e≠e')(hg:(w.alloc o).grownBy w1 v'.ownBlock):w1.ownsRow B e z v n xs:=eD (h.alloc o) hg (bI (h.alloc o) (h'.alloc o) hne)
theorem jU {w:World}{B C n z:Nat}{e:TypeId}{v:Value}{xs:List Value}(h:w.ownsRow C e z v n xs)(hB:B≤C):w.ownsRow B e z v n xs:=by
 obtain⟨h1,h2⟩:=h;refine⟨h1,?_⟩;rcases h2 with h | ⟨g,cap,cur,r1,r2,r3⟩
 · exact .inl h
 · exact .inr ⟨g,cap,cur,r1,Nat.le_trans hB r2,r3⟩
theorem DtAt.push {w w1 w2:World}{B C:Nat}{bv tv bv' tv':Value}{q:List J7}{rb rt:Value}{es:List Sx.aT}{o o':Obj}(h:DtAt w B bv tv q)(hBC:B≤C)(hb:w.ownsRow C 5 1 rb es.length (dO (BC es)))(ht:w.ownsRow C 3 1 rt es.length (dW (BW es)))(hg:(w.alloc o).grownBy w1 bv.ownBlock)(hg2:(w1.alloc o').grownBy w2 tv.ownBlock)
 (h1:w1.ownsRow B 90 1 bv' (q.length+1) (q.map (·.1)++[rb])) (h2:w2.ownsRow B 207 1 tv' (q.length+1) (q.map (·.2.1)++[rt])):DtAt w2 B bv' tv' (q++[(rb,rt,es)]):=by
 have t1:w1.ownsRow B 207 1 tv q.length (q.map (·.2.1)):=eI h.rt h.rb (by decide) hg;have k1:∀ {n:Nat} {v:Value} {xs:List Value},w.ownsRow B 5 1 v n xs→w2.ownsRow B 5 1 v n xs:=fun hv=>eI (eI hv h.rb (by decide) hg) t1 (by decide) hg2;have k2:∀ {n:Nat} {v:Value} {xs:List Value},w.ownsRow B 3 1 v n xs→w2.ownsRow B 3 1 v n xs:=fun hv=>eI (eI hv h.rb (by decide) hg) t1 (by decide) hg2;refine⟨?_,?_,fun x hx=>?_,fun x hx=>?_⟩
 · rw[List.length_append,List.length_singleton,List.map_append];exact eI h1 t1 (by decide) hg2
 · rw[List.length_append,List.length_singleton,List.map_append];exact h2
 · rcases List.mem_append.1 hx with hx | hx
   · exact k1 (h.bys x hx)
   · rw[List.mem_singleton.1 hx];exact k1 (jU hb hBC)
 · rcases List.mem_append.1 hx with hx | hx
   · exact k2 (h.tos x hx)
   · rw[List.mem_singleton.1 hx];exact k2 (jU ht hBC)
theorem zM {tab:List (List Sx.aT)}(ho:Sx.cO tab):∀ (f s:Nat) (ahead:List UInt8) (ks:List Sx.Wd),s<tab.length→s<f→∀ x∈jX f tab s ahead ks,x∈ks∨x.length≤ahead.length+s
 | 0,_,_,_,_,h,_,_=>absurd h (by omega)
 | f+1,s,ahead,ks,hs,hf,x,hx=>by
   by_cases h0:s=0
   · have e:jX (f+1) tab s ahead ks=if s=0 then ks++[ahead] else ((tab[s]?).getD []).foldl (fun acc e=>if acc.length≤30 then jX f tab e.2 (ahead++[e.1]) acc else acc) ks:=rfl
     rw[e,if_pos h0] at hx;rcases List.mem_append.1 hx with h | h
     · exact .inl h
     · rw[List.mem_singleton.1 h];exact .inr (by omega)
   · obtain⟨es,hes⟩:∃ es,tab[s]? = some es:=⟨_,List.getElem?_eq_getElem hs⟩
     obtain⟨-,o2⟩:=ho s es hes;rw[DW f tab s ahead ks es h0 hes] at hx;have:∀ (l:List Sx.aT) (acc:List Sx.Wd),(∀ e∈l,e.2<s)→∀ y∈l.foldl (xO f tab ahead) acc,y∈acc∨y.length≤ahead.length+s:=by
      intro l
      induction l with
      | nil=>intro acc _ y hy;exact .inl hy
      | cons e l ih =>
        intro acc hl y hy;rw[List.foldl_cons] at hy;rcases ih _ (fun z hz=>hl z (by simp[hz])) y hy with h | h
        · unfold xO at h;have hes:=hl e (by simp);split at h
          · rcases zM ho f e.2 (ahead++[e.1]) acc (by omega) (by omega) y h with h | h
            · exact .inl h
            · rw[List.length_append,List.length_singleton] at h;exact .inr (by omega)
          · exact .inl h
        · exact .inr h
     exact this es ks o2 x hx
def lB (l:List UInt8)(w:World)(e:Ending)(w':World):Prop:=Below w.heap.size w w'∧match Sx.cH l with
 | none=>e=.returned (.tuple #[.slice none 0 0,.bool false])
 | some tab=>∃ v,e=.returned (.tuple #[v,.bool true])∧w'.ownsRow w.heap.size 9 1 v (iP tab).length (bB (iP tab))∧∀ x∈iP tab,x.length≤70000
theorem lF {l:List UInt8}{w w':World}(h:Sx.cH l=none)(hB:Below w.heap.size w w'):lB l w (.returned (.tuple #[.slice none 0 0,.bool false])) w':=by
 unfold lB;rw[h];exact⟨hB,rfl⟩
theorem oI (l:List UInt8)(p:Nat):∀ h:p<(⟨l.toArray⟩:ByteArray).size,(⟨l.toArray⟩:ByteArray)[p]'h=l.getD p 0:=fun h=>by
 have h':p<l.length:=h;rw[List.getD_eq_getElem?_getD,List.getElem?_eq_getElem h'];rfl
theorem V4 (l:List UInt8)(w:World)(hl:l.length≤8000):Calls Tryz.prog 211 #[.string ⟨l.toArray⟩] w (lB l w):=by
 have hIs:(⟨l.toArray⟩:ByteArray).size=l.length:=rfl;by_cases h2:l.length<2
 · have HN:=hide (VI l h2);obtain⟨I,hI⟩:∃ X:ByteArray,⟨l.toArray⟩=X:=⟨_,rfl⟩
   rw[hI] at hIs ⊢;have hI2:I.size<2:=by omega
   clear hIs hI h2;go_enter Tryz.func211,Tryz.ntmps211;go_wp2;go_ret2;exact lF HN.out (Below.refl _ _)
 · have HTB:=hide (j4 l (by omega));obtain⟨i1,hi1,hx0,hx1,hx2⟩:=info_parts Tryz.info90;obtain⟨i2,hi2,hy0,hy1,hy2⟩:=info_parts Tryz.info207;obtain⟨i3,hi3,hu0,hu1,hu2⟩:=info_parts Tryz.info5;obtain⟨i4,hi4,hv0,hv1,hv2⟩:=info_parts Tryz.info3;have hg0:=oI l 0;have hg1:=oI l 1;have HAT:=hide (oI l);obtain⟨a,ha⟩:∃ x,l.getD 0 0=x:=⟨_,rfl⟩
   obtain⟨b,hb⟩:∃ x,l.getD 1 0=x:=⟨_,rfl⟩
   rw[ha] at hg0 HTB;rw[hb] at hg1 HTB;have ha2:a.toNat<256:=a.toNat_lt;have hb2:b.toNat<256:=b.toNat_lt;have h2i:¬ (l.length:Int)<2:=by omega
   obtain⟨I,hI⟩:∃ X:ByteArray,⟨l.toArray⟩=X:=⟨_,rfl⟩
   rw[hI] at hIs hg0 hg1 HAT ⊢;clear hI ha hb;go_enter Tryz.func211,Tryz.ntmps211;go_wp2;go_quiet ((fail))
   go_wp2;clear hg0 hg1;obtain⟨M,hM,hMn⟩:∃ M:Nat,256*(a.toNat:Int)+b.toNat=M∧a.toNat*256+b.toNat=M:=⟨256*a.toNat+b.toNat,by simp,by omega⟩
   rw[hMn] at HTB;rw[hM];have hM6:M<65536:=by omega
   clear ha2 hb2 hMn;have hB0:Below w.heap.size w (w.drewN nq):=(Below.refl _ w).trans ⟨rfl,rfl,rfl,Nat.le_refl _,fun _ _=>rfl⟩;obtain⟨W0,hW0⟩:∃ W,w.drewN nq=W:=⟨_,rfl⟩
   rw[hW0] at hB0 ⊢;clear hW0;have HB0:=hide hB0;clear hB0
   go_loopw [5,6,7,8] (fun av bv tv nv wr=>∃ (n p:Nat) (q:List J7),av=.int .i64 p∧nv=.int .i64 n∧n≤M∧p≤l.length∧q.length=n∧DtAt wr w.heap.size bv tv q∧Below w.heap.size w wr∧(∀ x∈q,x.2.2.length≤255)∧Sx.cH l=(Sx.dN (M-n) n (l.drop p)).map (q.map (·.2.2) ++ ·)) (fun _ _ _ n _=>(M-intOf n).toNat)
   case atStart=>exact⟨0,2,[],rfl,rfl,by omega,by omega,rfl,⟨World.ownsRow_nil _ _ _ _,World.ownsRow_nil _ _ _ _,by simp,by simp⟩,HB0.out,by simp,by rw[HTB.out];simp⟩
   case round =>
    obtain⟨n,p,q,rfl,rfl,hn,hp,hqn,hd,hB,h255,hrd⟩:=hrel
    rename World=>wr
    subst hqn;have HD:=hide hd;have HB:=hide hB;have H255:=hide h255;have HRD:=hide hrd;obtain⟨pb,cb,rfl⟩:=aB hd.rb;obtain⟨pt,ct,rfl⟩:=aB hd.rt;clear hd hB h255 hrd;by_cases hnm:q.length<M
    · have hnm':(q.length:Int)<(M:Int):=by omega
      obtain⟨m,hm⟩:∃ m,M-q.length=m+1:=⟨M-q.length-1,by omega⟩
      by_cases hpl:p<l.length
      · have hpl':¬ (l.length:Int)≤(p:Int):=by omega
        have hgp:=HAT.out p;obtain⟨kb,hkb⟩:∃ x,l.getD p 0=x:=⟨_,rfl⟩
        rw[hkb] at hgp;have hk2:kb.toNat<256:=kb.toNat_lt;by_cases hs:p+1+3*kb.toNat≤l.length
        · by_cases hz:(kb.toNat=0↔q.length=0)
          · obtain⟨N0,z3,z4⟩:∃ N0,((kb.toNat:Int) == 0)=N0∧((q.length:Int) == 0)=N0:=⟨_,rfl,by rw[Bool.eq_iff_iff];simp only[beq_iff_eq];omega⟩
            have HED:Hid (∀ j,j<kb.toNat→q.length≤(AY l (p+1+3*j)).2→Sx.cH l=none):=hide (fun j hj he=>by
             rw[HRD.out,hm,UM m _ p j l hpl (by rw[hkb];exact hs) (by rw[hkb];exact hj) he];rfl)
            have HSP:Hid ((∀ e∈rM l (p+1) kb.toNat,e.2<q.length)→Sx.cH l=(Sx.dN (M-(q.length+1)) (q.length+1) (l.drop (p+1+3*kb.toNat))).map (q.map (·.2.2)++[rM l (p+1) kb.toNat] ++ ·)):=hide (fun he=>by
             have h:=UQ m q.length p l hpl (by rw[hkb];exact hs) (by rw[hkb];exact hz) (by rw[hkb];exact he);rw[hkb] at h;rw[HRD.out,hm,h,show M-(q.length+1)=m by omega];cases Sx.dN m (q.length+1) (l.drop (p+1+3*kb.toNat)) with
             | none=>rfl
             | some t=>simp)
            have hs':¬ (l.length:Int)<(p:Int)+1+3*(kb.toNat:Int):=by omega
            clear hkb hz HRD;go_wp2;clear hgp z3 z4
            go_loopw [5,10,11,12] (fun av rv tv iv w4=>∃ (i:Nat),av=.int .i64 (p+1+3*i:Nat)∧iv=.int .i64 i∧i≤kb.toNat∧(∀ e∈rM l (p+1) i,e.2<q.length)∧w4.ownsRow wr.heap.size 5 1 rv i (dO (BC (rM l (p+1) i)))∧w4.ownsRow wr.heap.size 3 1 tv i (dW (BW (rM l (p+1) i)))∧Below wr.heap.size wr w4) (fun _ _ _ i _=>(kb.toNat-intOf i).toNat)
            case atStart=>exact⟨0,rfl,rfl,by omega,by simp[rM],World.ownsRow_nil _ _ _ _,World.ownsRow_nil _ _ _ _,Below.refl _ _⟩
            case round =>
             obtain⟨i,rfl,rfl,hik,hall,ho1,ho2,hB4⟩:=hrel
             rename World=>w4
             obtain⟨rp,rc,rfl⟩:=aB ho1;obtain⟨tp,tc,rfl⟩:=aB ho2;have HAL:=hide hall;clear hall;by_cases hi:i<kb.toNat
             · have hi':(i:Int)<(kb.toNat:Int):=by omega
               have he1:=UG l (p+1) i;have hed:=HED.out i hi;obtain⟨P,hP⟩:∃ P,p+1+3*i=P:=⟨_,rfl⟩
               rw[hP] at he1 hed;have hPl:P+2<l.length:=by omega
               have hgP:=HAT.out P;have hgQ:=HAT.out (P+1);have hgR:=HAT.out (P+2);unfold AY at he1 hed;obtain⟨c,hc⟩:∃ x,l.getD P 0=x:=⟨_,rfl⟩
               obtain⟨x,hx⟩:∃ x,l.getD (P+1) 0=x:=⟨_,rfl⟩
               obtain⟨y,hy⟩:∃ x,l.getD (P+2) 0=x:=⟨_,rfl⟩
               rw[hc] at hgP;rw[hx] at hgQ;rw[hy] at hgR;rw[hc,hx,hy] at he1;rw[hx,hy] at hed;dsimp only at hed;have hx2:x.toNat<256:=x.toNat_lt;have hy2:y.toNat<256:=y.toNat_lt;have HE1:=hide he1;have HEN:=hide hed;have hP3:p+1+3*(i+1)=P+3:=by omega
               have HP3:=hide hP3;rw[hP];clear hP hc hx hy he1 hed hP3;go_wp2;have b1:P+1<I.size:=by omega
               have b2:P+2<I.size:=by omega
               have t1:((P:Int)+1).toNat=P+1:=by omega
               have t2:((P:Int)+2).toNat=P+2:=by omega
               have u1:(P:Int)+1<(l.length:Int):=by omega
               have u2:(P:Int)+2<(l.length:Int):=by omega
               have v1:(0:Int)≤(P:Int)+1:=by omega
               have v2:(0:Int)≤(P:Int)+2:=by omega
               go_quiet ((fail))
               clear hgQ hgR b1 b2 t1 t2 u1 u2 v1 v2;obtain⟨E,hE,hEn⟩:∃ E:Nat,256*(x.toNat:Int)+y.toNat=E∧x.toNat*256+y.toNat=E:=⟨256*x.toNat+y.toNat,by simp,by omega⟩
               rw[hEn] at HEN HE1;rw[hE];replace ho1:(w4.drewN nq).ownsRow wr.heap.size 5 1 (.slice rp i rc) i (dO (BC (rM l (p+1) i))):=ho1;replace ho2:(w4.drewN nq).ownsRow wr.heap.size 3 1 (.slice tp i tc) i (dW (BW (rM l (p+1) i))):=ho2;replace hB4:Below wr.heap.size wr (w4.drewN nq):=hB4.trans ⟨rfl,rfl,rfl,Nat.le_refl _,fun _ _=>rfl⟩;obtain⟨W4,hW4⟩:∃ W,w4.drewN nq=W:=⟨_,rfl⟩
               rw[hW4] at ho1 ho2 hB4 ⊢;clear hW4 hx2 hy2 hE hEn;by_cases hx:q.length≤E
               · have HNO:=hide (HEN.out hx);have hx':(q.length:Int)≤(E:Int):=by omega
                 have HBB:=hide (HB.out.trans (hB4.mono HB.out.size));clear ho1 ho2 hB4;go_wp2;go_ret2;exact lF HNO.out HBB.out
               · have hx':¬ (q.length:Int)≤(E:Int):=by omega
                 have hsz4:=hB4.size;go_upto_region 25 with (at_builtin;go_must (refine wpList_append_lies _ rfl _ _ _ rfl wr.heap.size 5 i3 (.int .u8 0) 1 1 Tryz.underlying90 hi3 hu0 hu1 hu2 rfl (by decide) _ _ _ rfl (ho1.alloc _) ⟨_,0,none⟩ 1 1 [(.int .u8 c.toNat)] rfl rfl (cell_one_new _ _ _) (by simp[Value.oneCell']) (by omega) (by unfold maxLen;omega) (by omega) (by simp;omega) _ rfl ?_;intro g5 cap5 w5 hown5 hgrow5 hat5 hlt5))
                 have hsz5:wr.heap.size≤w5.heap.size:=(aH hB4 hsz4 ho1 hgrow5).size;have ho3:=eI ho2 ho1 (by decide) hgrow5;clear hgP;go_wp2_with (at_builtin;go_must (refine wpList_append_lies _ rfl _ _ _ rfl wr.heap.size 3 i4 (.int .i64 0) 1 8 Tryz.underlying207 hi4 hv0 hv1 hv2 rfl (by decide) _ _ _ rfl (ho3.alloc _) ⟨_,0,none⟩ 1 1 [(.int .i64 (E:Int))] rfl rfl (cell_one_new _ _ _) (by simp[Value.oneCell']) (by omega) (by unfold maxLen;omega) (by omega) (by simp;omega) _ rfl ?_;intro g6 cap6 w6 hown6 hgrow6 hat6 hlt6))
                 refine⟨⟨i+1,by rw[HP3.out];go_num,by go_num,by omega,?_,?_,?_,aH (aH hB4 hsz4 ho1 hgrow5) hsz5 ho3 hgrow6⟩,by simp[intOf];omega⟩
                 · rw[HE1.out];intro e he;rcases List.mem_append.1 he with he | he
                   · exact HAL.out e he
                   · rw[List.mem_singleton.1 he];show E<q.length;omega
                 · rw[HE1.out,show dO (BC (rM l (p+1) i++[(c,E)]))=dO (BC (rM l (p+1) i))++[.int .u8 c.toNat] by simp[dO,BC]];exact eI hown5 ho3 (by decide) hgrow6
                 · rw[HE1.out,show dW (BW (rM l (p+1) i++[(c,E)]))=dW (BW (rM l (p+1) i))++[.int .i64 (E:Int)] by simp[dW,BW]];exact hown6
             · obtain rfl:i=kb.toNat:=by omega
               have hni:¬ (kb.toNat:Int)<(kb.toNat:Int):=by omega
               have hd4:=HD.out.below hB4;have hsz4:=hB4.size;have hwz:w.heap.size≤wr.heap.size:=HB.out.size;have hqM:q.length<65536:=by omega
               have hB44:=HB.out.trans (hB4.mono HB.out.size);have HE2:=hide (HSP.out HAL.out);clear hi hik;go_upto_region 28 with (at_builtin;go_must (refine wpList_append_lies _ rfl _ _ _ rfl w.heap.size 90 i1 (.slice none 0 0) 1 24 Tryz.underlying313 hi1 hx0 hx1 hx2 rfl (by decide) _ _ _ rfl (hd4.rb.alloc _) ⟨_,0,none⟩ 1 1 [(.slice rp kb.toNat rc)] rfl rfl (cell_one_new _ _ _) (by simp[Value.oneCell']) (by omega) (by unfold maxLen;omega) (by omega) (by simp;omega) _ rfl ?_;intro g5 cap5 w5 hown5 hgrow5 hat5 hlt5))
               have hsz5:w.heap.size≤w5.heap.size:=(aH hB44 (by omega) hd4.rb hgrow5).size;have ht5:=eI hd4.rt hd4.rb (by decide) hgrow5;go_wp2_with (at_builtin;go_must (refine wpList_append_lies _ rfl _ _ _ rfl w.heap.size 207 i2 (.slice none 0 0) 1 24 Tryz.underlying314 hi2 hy0 hy1 hy2 rfl (by decide) _ _ _ rfl (ht5.alloc _) ⟨_,0,none⟩ 1 1 [(.slice tp kb.toNat tc)] rfl rfl (cell_one_new _ _ _) (by simp[Value.oneCell']) (by omega) (by unfold maxLen;omega) (by omega) (by simp;omega) _ rfl ?_;intro g6 cap6 w6 hown6 hgrow6 hat6 hlt6))
               have hpu:=hd4.push (es:=rM l (p+1) kb.toNat) hwz (by rw[tM];exact ho1) (by rw[tM];exact ho2) hgrow5 hgrow6 hown5 hown6;refine⟨⟨q.length+1,p+1+3*kb.toNat,_,by go_num,by go_num,by omega,by omega,by simp,hpu,aH (aH hB44 (by omega) hd4.rb hgrow5) hsz5 ht5 hgrow6,?_,?_⟩,by simp[intOf];omega⟩
               · intro x hx;rcases List.mem_append.1 hx with hx | hx
                 · exact H255.out x hx
                 · rw[List.mem_singleton.1 hx];show(rM l (p+1) kb.toNat).length≤255;rw[tM];omega
               · rw[HE2.out];simp
          · have hno:Sx.cH l=none:=by rw[HRD.out,hm,UV m _ p l hpl (by rw[hkb];exact hs) (by rw[hkb];exact hz)];rfl
            have HNO:=hide hno;have hs':¬ (l.length:Int)<(p:Int)+1+3*(kb.toNat:Int):=by omega
            clear hno hkb;rcases(show(kb.toNat=0∧¬ q.length=0)∨(¬ kb.toNat=0∧q.length=0) by omega) with ⟨z1,z2⟩ | ⟨z1,z2⟩
            · have z3:((kb.toNat:Int) == 0)=true:=by simp[z1]
              have z4:((q.length:Int) == 0)=false:=by rw[beq_eq_false_iff_ne];omega
              clear z1 z2 hz;go_wp2;go_ret2;exact lF HNO.out HB.out
            · have z3:((kb.toNat:Int) == 0)=false:=by rw[beq_eq_false_iff_ne];omega
              have z4:((q.length:Int) == 0)=true:=by simp[z2]
              clear z1 z2 hz;go_wp2;go_ret2;exact lF HNO.out HB.out
        · have hno:Sx.cH l=none:=by rw[HRD.out,hm,RB m _ p l hpl (by rw[hkb];omega)];rfl
          have HNO:=hide hno;have hs':(l.length:Int)<(p:Int)+1+3*(kb.toNat:Int):=by omega
          clear hno hkb;go_wp2;go_ret2;exact lF HNO.out HB.out
      · have hno:Sx.cH l=none:=by rw[HRD.out,hm,B8 m _ p l (by omega)];rfl
        have HNO:=hide hno;have hpl':(l.length:Int)≤(p:Int):=by omega
        clear hno;go_wp2;go_ret2;exact lF HNO.out HB.out
    · obtain rfl:M=q.length:=by omega
      have hnn:¬ (q.length:Int)<(q.length:Int):=by omega
      have hm0:q.length-q.length=0:=by omega
      by_cases hpe:p=l.length
      · have hs:Sx.cH l=some (q.map (·.2.2)):=by
         rw[HRD.out,hm0,hpe,List.drop_eq_nil_of_le (Nat.le_refl _)];show(if ([] : List UInt8)=[] then some [] else none).map _=_;rw[if_pos rfl];simp
        have hpe':(p:Int)=(l.length:Int):=by omega
        have hor:=nO hs;have HS:=hide hs;by_cases hq0:q.length=0
        · have hq0':((q.length:Int) == 0)=true:=by simp[hq0]
          have hqe:q.map (·.2.2)=[]:=by rw[List.length_eq_zero_iff.1 hq0];rfl
          have HQE:=hide hqe;have hbe:((p:Int) != (l.length:Int))=false:=by simp[hpe']
          clear hs hor hqe hpe hq0;go_wp2;go_ret2;unfold lB;rw[HS.out,HQE.out];exact⟨HB.out,_,rfl,World.ownsRow_nil _ _ _ _,by simp[iP]⟩
        · have hq0':((q.length:Int) == 0)=false:=by rw[beq_eq_false_iff_ne];omega
          have hbe:((p:Int) != (l.length:Int))=false:=by simp[hpe']
          have HWY:Hid (Calls Tryz.prog 240 #[.slice pb q.length cb,.slice pt q.length ct,.int .i64 ((q.length:Int)-1),.string ⟨#[]⟩,.slice none 0 0] wr (qQ q.length (q.map (·.2.2)) (q.length-1) [] [] w.heap.size (.slice none 0 0) wr)):=hide (by
           rw[show((q.length:Int)-1)=((q.length-1:Nat):Int) by omega];exact X1 q w.heap.size _ _ hor (by omega) H255.out q.length (q.length-1) [] [] (.slice none 0 0) wr HD.out (by omega) (by omega) (by simp) (World.ownsRow_nil _ _ _ _) HB.out.size (by simp;omega))
          have HWA:Hid (iP (q.map (·.2.2))=jX q.length (q.map (·.2.2)) (q.length-1) [] []):=hide (by
           unfold iP;rw[if_neg (by intro e;exact hq0 (by simpa using congrArg List.length e)),List.length_map])
          have HSH:Hid (∀ x∈iP (q.map (·.2.2)),x.length≤70000):=hide (fun x hx=>by
           rw[HWA.out] at hx;rcases zM hor q.length (q.length-1) [] [] (by rw[List.length_map];omega) (by omega) x hx with h | h
           · cases h
           · have:([] : List UInt8).length=0:=rfl;omega)
          clear hs hor hpe hq0;go_wp2_with fail
          refine HWY.out.mono ?_;rintro e w9 ⟨v',rfl,p1,p2,-⟩;have HP1:=hide p1;have HB9:Hid (Below w.heap.size w w9):=hide (HB.out.grown p2 HB.out.size (fun k e=>by cases e));clear p1 p2;go_wp2;go_ret2;unfold lB;rw[HS.out];exact⟨HB9.out,_,rfl,by rw[HWA.out];exact HP1.out,HSH.out⟩
      · have hno:Sx.cH l=none:=by
         rw[HRD.out,hm0];show(if l.drop p=[] then some [] else none).map _=none;rw[if_neg (by rw[List.drop_eq_nil_iff];omega)];rfl
        have HNO:=hide hno;have hpe':¬ (p:Int)=(l.length:Int):=by omega
        have hbe:((p:Int) != (l.length:Int))=true:=by simp[hpe']
        clear hno hpe;go_wp2;go_ret2;exact lF HNO.out HB.out
def zE (h:List (List UInt8))(k:Nat):List UInt8:=if k=h.length then [] else Sx.aA (h.drop k).reverse++if k=0 then [] else [46]
theorem KG (h:List (List UInt8))(k:Nat)(hk:k<h.length):zE h k=zE h (k+1)++h[k]++if k=0 then [] else [46]:=by
 unfold zE;rw[if_neg (by omega),List.drop_eq_getElem_cons hk,List.reverse_cons,Sx.mX];by_cases h1:k+1=h.length
 · simp[h1]
 · have:h.drop (k+1)≠[]:=by
    intro e;have:=congrArg List.length e;simp at this;omega
   simp[this,h1]
theorem QQ (h:List (List UInt8))(kd sc:UInt8)(B b cap:Nat)(w:World)(hl:h.length≤100)(hx:∀ x∈h,x.length≤1000)(ho:w.ownsRow B 9 1 (.slice (some ⟨b,0,none⟩) h.length cap) h.length (bB h)) :
 Calls Tryz.prog 208 #[.agg #[.slice (some ⟨b,0,none⟩) h.length cap,.int .u8 kd.toNat,.int .u8 sc.toNat]] w fun e w'=>e=.returned (.string ⟨(Sx.keyOf h kd sc).toArray⟩)∧Below w.heap.size w w':=by
 have HO:=hide ho;have HX:=hide hx;clear ho hx;go_enter Tryz.func208,Tryz.ntmps208;go_wp2
 go_loop [3,4] (fun s i=>∃ (k:Nat) (p:List UInt8) (j:Int),s=.string ⟨p.toArray⟩∧i=.int .i64 j∧j=(k:Int)-1∧k≤h.length∧p.length≤1001*(h.length-k)∧zE h k=p) (fun _ i=>(intOf i+1).toNat)
 case atStart=>exact⟨h.length,[],_,rfl,by first | rfl | go_num,by omega,by omega,by simp,by simp[zE]⟩
 case round =>
  obtain⟨k,p,j,rfl,rfl,hj,hk,hp,hd⟩:=hrel;have HD:=hide hd;clear hd;cases k with
  | succ k =>
    have hjk:j=(k:Int):=by omega
    subst hjk;clear hj;have hlt:k<h.length:=by omega
    have hc0:=dJ HO.out k hlt;have hb:b<w.heap.size:=by
     by_cases hlt:b<w.heap.size
     · exact hlt
     · have hn:w.heap[b]? = none:=Array.getElem?_eq_none (by omega);simp[World.cell?,hn] at hc0
    have hc:∀ v,(w.alloc v).cell? ⟨b,k,none⟩=some (.string ⟨h[k].toArray⟩):=fun v=>by exact(World.cell?_alloc_lt w v ⟨b,k,none⟩ hb).trans hc0
    have hxk:=HX.out h[k] (List.getElem_mem hlt);have hdt:=KG h k hlt;obtain⟨x,hxe⟩:∃ x,h[k]=x:=⟨_,rfl⟩
    rw[hxe] at hc hxk hdt;rw[HD.out] at hdt;have HDT:=hide hdt;clear hdt hxe hc0;have hge:(0:Int)≤(k:Int):=by omega
    by_cases h0:k=0
    · subst h0;go_wp2;rw[bF];exact⟨⟨0,p++x,-1,rfl,rfl,by omega,by omega,by simp;omega,by rw[HDT.out];simp⟩,by simp[intOf]⟩
    · have hgt:(0:Int)<(k:Int):=by omega
      go_wp2;rw[show(#[46] : Array UInt8)=[46].toArray from rfl,bF,bF];exact⟨⟨k,_,(k:Int)-1,rfl,rfl,rfl,by omega,by simp;omega,by rw[HDT.out,if_neg h0]⟩,by simp[intOf]⟩
  | zero =>
    have hjk:j = -1:=by omega
    subst hjk;clear hj;have he:(convert 90 9 (.slice (some ⟨w.heap.size+1,0,none⟩) 2 2)).run Tryz.prog ((w.alloc (.cells #[.slice (some ⟨b,0,none⟩) h.length cap,.int .u8 kd.toNat,.int .u8 sc.toNat] 218)).alloc (.cells #[.int .u8 kd.toNat,.int .u8 sc.toNat] 5))=.ok (.string ⟨[kd,sc].toArray⟩) ((w.alloc (.cells #[.slice (some ⟨b,0,none⟩) h.length cap,.int .u8 kd.toNat,.int .u8 sc.toNat] 218)).alloc (.cells #[.int .u8 kd.toNat,.int .u8 sc.toNat] 5)):=by
     refine run_convert_bytes_back (P:=Tryz.prog) _ 90 9 5 ⟨w.heap.size+1,0,none⟩ 2 [kd,sc] Tryz.underlying90 Tryz.underlying5 Tryz.underlying9 (fun j hj=>?_);have hz:(w.alloc (.cells #[.slice (some ⟨b,0,none⟩) h.length cap,.int .u8 kd.toNat,.int .u8 sc.toNat] 218)).heap.size=w.heap.size+1:=World.size_alloc _ _;rw[Addr.add_lit,Nat.zero_add,←hz,World.cell?_alloc_mark]
     match j,hj with
     | 0,_=>rfl
     | 1,_=>rfl
     | j+2,hj=>simp at hj;omega
    go_wp2;go_ret;rw[bF];refine⟨gV ?_,((Below.refl _ _).alloc (Nat.le_refl _) _).alloc (by simp) _⟩;rw[←HD.out];unfold zE Sx.keyOf;by_cases hz:h=[]
    · subst hz;rfl
    · have:0≠h.length:=fun e=>hz (List.eq_nil_of_length_eq_zero e.symm);simp[this]
end Go.Proofs.YtgohllfpceeboabGreatDoor
