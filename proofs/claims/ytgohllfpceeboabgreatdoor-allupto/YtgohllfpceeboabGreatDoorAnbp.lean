import Derived.Test.YtgohllfpceeboabGreatDoorAnbl
import Derived.Test.YtgohllfpceeboabGreatDoorAnbn
import Derived.Test.YtgohllfpceeboabGreatDoorAnbo
set_option maxRecDepth 100000
set_option maxHeartbeats 8000000
namespace Go.Proofs.YtgohllfpceeboabGreatDoor
open Go.RowKit
theorem Z6 (l:List UInt8)(w:World):Calls Tryz.prog 107 #[.string ⟨l.toArray⟩] w fun e w'=>Below w.heap.size w w'∧(((eW l).2≠0∧e=.returned (.tuple #[.pointer none,.int .i64 (eW l).2]))∨((eW l).2=0∧∃ g,e=.returned (.tuple #[.pointer (some ⟨g,0,none⟩),.int .i64 0])∧w.heap.size≤g∧DwAt w' g (.slice none 0 0) (eW l).1 [])):=by
 have HOP:=hide (JK l w);obtain⟨I,hI⟩:∃ X:ByteArray,⟨l.toArray⟩=X:=⟨_,rfl⟩
 rw[hI] at HOP ⊢;clear hI;obtain⟨⟨rs,n⟩,ho⟩:∃ x,eW l=x:=⟨_,rfl⟩
 rw[ho] at HOP ⊢;dsimp only at HOP ⊢;clear ho;by_cases h0:n=0
 · subst h0;go_enter Tryz.func107,Tryz.ntmps107;go_wp2_with fail
   refine HOP.out.mono ?_;rintro e w1 ⟨hB,hif⟩;rw[if_pos (by trivial)] at hif;obtain⟨v,q,rfl,hq,hat⟩:=hif;have HB:=hide hB;have HQ:=hide hq;have HAT:=hide (RlsAt.below hat ((Below.refl _ w1).alloc (Nat.le_refl _) (.cells #[v,.slice none 0 0] 225)));obtain⟨p,cap,rfl⟩:=aB hat.row;have hbz:=hB.size;clear hB hq hat HOP;go_wp2;go_ret2;exact⟨HB.out.alloc hbz _,.inr ⟨by trivial,_,rfl,hbz,_,q,[],HQ.out,rfl,heap_alloc_new _ _,⟨own_base HAT.out.row (Nat.zero_le _),fun x hx=>own_base (HAT.out.hosts x hx) (Nat.zero_le _)⟩,World.ownsRow_nil _ _ _ _,fun x hx=>absurd hx (by simp)⟩⟩
 · have k1:(n != 0)=true:=by simpa using h0
   have k2:(n == 0)=false:=by simpa using h0
   go_enter Tryz.func107,Tryz.ntmps107;go_wp2_with fail
   refine HOP.out.mono ?_;rintro e w1 ⟨hB,hif⟩;rw[if_neg h0] at hif;subst hif;have HB:=hide hB;clear hB;go_wp2;go_ret2;exact⟨HB.out,.inl ⟨h0,rfl⟩⟩
theorem M6 (g:Nat)(s h:ByteArray)(p:Int)(dv:Value)(rs:List Sx.Rl)(os:List cJ)(w:World)(hW:DwAt w g dv rs os)(hl:os.length≤20):Calls Tryz.prog 108 #[.pointer (some ⟨g,0,none⟩),.string s,.string h,.int .i64 p] w fun e w'=>e=.returned (.tuple #[.int .i64 (kY os s.data.toList h.data.toList p).2.1,.int .i64 (kY os s.data.toList h.data.toList p).2.2])∧DPost w g dv rs (kY os s.data.toList h.data.toList p).1 w':=by
 have hd:∀ b1 b2,(s.toList == [104,116,116,112])=b1→(s.toList == [104,116,116,112,115])=b2→decide (qO s.data.toList)=(b1 || b2):=by
  intro b1 b2 e1 e2;rw[←e1,←e2,Bool.eq_iff_iff,ByteArray.toList_eq];simp[qO,sW,mV];exact decide_eq_true_iff
 have HHO:=hide (dR h w);unfold nF at HHO;have HPS:=hide (fun W hB=>DPost.same (w':=W) hW hB);obtain⟨b1,k1⟩:∃ b1,(s.toList == [104,116,116,112])=b1:=⟨_,rfl⟩
 obtain⟨b2,k2⟩:∃ b1,(s.toList == [104,116,116,112,115])=b1:=⟨_,rfl⟩
 have hs:=hd b1 b2 k1 k2;clear hd;by_cases hp:0≤p∧p≤65535
 · have k3:(p<0)=False:=by simp;omega
   have k4:(65535<p)=False:=by simp;omega
   by_cases hso:qO s.data.toList
   · by_cases hh:(Sx.aI h.data.toList).2=0
     · have ht:kY os s.data.toList h.data.toList p=fZ os (some (s.data.toList,(Sx.aI h.data.toList).1,p),[]):=by unfold kY;rw[if_pos ⟨hso,hp⟩,if_pos hh]
       rw[ht];rw[hh] at HHO;have hA:∀ v,IK (v,some (s.data.toList,(Sx.aI h.data.toList).1,p),[])=.agg #[.bool false,.string s,v,.int .i64 p,.string ⟨#[]⟩]:=fun v=>by
        unfold IK bC bT;simp
       have hAd:=fun W v (hB:Below w.heap.size w W) hv=>I2 g (v,some (s.data.toList,(Sx.aI h.data.toList).1,p),[]) dv rs os W (hW.below hB) hv hl;have hHo:∀ (W:World) v,W.ownsRow w.heap.size 9 1 v (Sx.aI h.data.toList).1.length (bB (Sx.aI h.data.toList).1)→HoAt W (v,some (s.data.toList,(Sx.aI h.data.toList).1,p),[]):=fun W v ho=>own_base (w:=W) ho (Nat.zero_le _);simp only[hA] at hAd;obtain⟨HH,hHH⟩:∃ H,(Sx.aI h.data.toList).1=H:=⟨_,rfl⟩
       rw[hHH] at HHO hAd hHo ⊢;obtain⟨⟨os',a,b⟩,hJ⟩:∃ x,fZ os (some (s.data.toList,HH,p),[])=x:=⟨_,rfl⟩
       rw[hJ] at hAd ⊢;dsimp only at hAd ⊢;have HAD:=hide hAd;have HHW:=hide hHo;rw[decide_eq_true hso] at hs;clear hA hAd hHo hHH hJ ht hh hso hW;cases b1 <;> cases b2 <;> first | (simp at hs;done) | skip
       all_goals (
        clear hs;go_enter Tryz.func108,Tryz.ntmps108;go_wp2_with fail
        refine HHO.out.mono ?_;rintro e w1 ⟨hB,v,rfl,hv,-⟩;obtain⟨vp,vc,rfl⟩:=aB hv;have HB:=hide hB;have HV:=hide (HHW.out _ _ hv);clear hB hv;go_wp2_with fail
        refine(HAD.out _ _ HB.out HV.out).mono ?_;rintro e w4 ⟨rfl,hP4⟩;have HS:=hide (DPost.back HB.out hP4);clear hP4;go_wp2;go_ret2;exact⟨rfl,HS.out⟩)
     · have ht:kY os s.data.toList h.data.toList p=(os,0,(Sx.aI h.data.toList).2):=by unfold kY;rw[if_pos ⟨hso,hp⟩,if_neg hh]
       rw[ht];dsimp only;obtain⟨er,her⟩:∃ e,(Sx.aI h.data.toList).2=e:=⟨_,rfl⟩
       rw[her] at HHO hh ⊢;have j1:(er != 0)=true:=by simpa using hh
       have j2:(er == 0)=false:=by simpa using hh
       rw[decide_eq_true hso] at hs;clear ht her hh hso hW;cases b1 <;> cases b2 <;> first | (simp at hs;done) | skip
       all_goals (
        clear hs;go_enter Tryz.func108,Tryz.ntmps108;go_wp2_with fail
        refine HHO.out.mono ?_;rintro e w1 ⟨hB,v,rfl,hv,-⟩;obtain⟨vp,vc,rfl⟩:=aB hv;have HB:=hide hB;clear hB hv;go_wp2;go_ret2;exact⟨rfl,HPS.out _ HB.out⟩)
   · have ht:kY os s.data.toList h.data.toList p=(os,0,7):=by unfold kY;rw[if_neg (fun h=>hso h.1)]
     rw[ht];dsimp only;rw[decide_eq_false hso] at hs;clear ht hso hW HHO;cases b1 <;> cases b2 <;> first | (simp at hs;done) | skip
     clear hs;go_enter Tryz.func108,Tryz.ntmps108;go_wp2;go_ret2;exact⟨rfl,HPS.out _ (Below.refl _ _)⟩
 · have ht:kY os s.data.toList h.data.toList p=(os,0,7):=by unfold kY;rw[if_neg (fun h=>hp h.2)]
   rw[ht];dsimp only;clear ht hW HHO hs;by_cases h0:p<0
   · have k3:(p<0)=True:=by simpa using h0
     cases b1 <;> cases b2;all_goals (
      go_enter Tryz.func108,Tryz.ntmps108;go_wp2;go_ret2;exact⟨rfl,HPS.out _ (Below.refl _ _)⟩)
   · have k3:(p<0)=False:=by simpa using h0
     have k4:(65535<p)=True:=by simp;omega
     cases b1 <;> cases b2;all_goals (
      go_enter Tryz.func108,Tryz.ntmps108;go_wp2;go_ret2;exact⟨rfl,HPS.out _ (Below.refl _ _)⟩)
def D5 (W:World)(b k:Nat)(v:Value)(o:cJ):Prop:=W.cell? ⟨b,k,none⟩=some (.bool (decide (o.1=none)))∧W.cell? ⟨b,k+1,none⟩=some (.string ⟨(bC o).toArray⟩)∧W.cell? ⟨b,k+2,none⟩=some v∧W.cell? ⟨b,k+3,none⟩=some (.int .i64 (bT o))∧W.cell? ⟨b,k+4,none⟩=some (.string ⟨o.2.toArray⟩)
theorem DwAt.read {W:World}{g:Nat}{dv:Value}{rs:List Sx.Rl}{os:List cJ}(h:DwAt W g dv rs os):∃ rv q p cap,g<W.heap.size∧W.cell? ⟨g,0,none⟩=some rv∧W.cell? ⟨g,1,none⟩=some (.slice p os.length cap)∧q.map (·.2)=rs∧RlsAt W 0 rv q∧∀ j (hj:j<os.length),∃ b v,p=some ⟨b,0,none⟩∧b<W.heap.size∧D5 W b (j*5) v os[j]∧HoAt W (v,os[j]):=by
 obtain⟨rv,q,d,hq,rfl,h4,h2,h5,h6⟩:=h;have hg:=cF h4;obtain⟨p,cap,rfl⟩:=aB h5;refine⟨rv,q,p,cap,hg,by simp[World.cell?,h4],by rw[List.length_map];simp[World.cell?,h4],hq,h2,fun j hj=>?_⟩;rw[List.length_map] at hj;rcases h5.2 with ⟨e1,e2⟩ | ⟨b,cap',cur,e1,e2,e3,e4⟩
 · omega
 · have hp:p=some ⟨b,0,none⟩:=by injection e1
   obtain⟨a0,a1,a2,a3,a4⟩:=XM d j hj;have hlt:=h5.lt b (by rw[e1];rfl);have hadd:∀ n,(⟨b,0,none⟩:Addr).add n=⟨b,n,none⟩:=fun n=>by rw[Addr.add_lit,Nat.zero_add]
   have hc:∀ n u,(jN d)[n]? = some u→W.cell? ⟨b,n,none⟩=some u:=fun n u hu=>by
    rw[←hadd];exact h5.cells (g:=b) (by rw[e1];rfl) _ _ hu
   refine⟨b,d[j].1,hp,hlt.2,?_,?_⟩
   · rw[List.getElem_map];exact⟨hc _ _ a0,hc _ _ a1,hc _ _ a2,hc _ _ a3,hc _ _ a4⟩
   · rw[List.getElem_map];exact h6 d[j] (List.getElem_mem hj)
theorem XY {q:List wZ}{rs:List Sx.Rl}(hq:q.map (·.2)=rs)(hr:Sx.RlsRt rs):q.length≤30∧∀ x∈q,x.2.1≠[]∧x.2.1.length≤1000:=by
 refine⟨by have:=hr.many;rw[←hq,List.length_map] at this;exact this,fun x hx=>?_⟩;have h1:=(hr.ok x.2 (by rw[←hq];exact List.mem_map.2 ⟨x,hx,rfl⟩)).ok.1;exact⟨h1.1,by have:=h1.2.1;omega⟩
theorem oG (H:List (List UInt8))(m b1 B c1 c:Nat)(w:World)(hh:Sx.cD H)(ho:w.ownsRow B 9 1 (.slice (some ⟨b1,0,none⟩) H.length c1) H.length (bB H)):Calls Tryz.prog 148 #[.slice (some ⟨b1,m,none⟩) (H.length-m) c] w fun e w'=>e=.returned (.string ⟨(Sx.aA (H.drop m)).toArray⟩)∧w'=w:=by
 have hHl:H.length≤6:=hh.2.1;obtain⟨-,-,-,-,-,hb1,hcl⟩:=bR ho;rw[←List.length_drop];exact rV (H.drop m) b1 m c w (by rw[List.length_drop];omega) (fun x hx=>by have h1:=eZ H x (List.mem_of_mem_drop hx);have h2:=hh.2.2.1;omega) (fun j hj=>by
  rw[List.length_drop] at hj;have:=hcl (m+j) (by simpa[bB] using (show m+j<H.length by omega));rw[this,List.getElem_drop];simp[bB])
theorem qT:∀ (H:List (List UInt8)) (m:Nat),Sx.aM (H.drop m)≤Sx.aM H
 | [],m=>by simp
 | x::r,0=>by simp
 | x::r,m+1=>by
   have h:=qT r m;have e:Sx.aM (x::r)=x.length+1+Sx.aM r:=by simp[Sx.aM]
   rw[List.drop_succ_cons,e];omega
theorem VT (H:List (List UInt8))(m:Nat):(Sx.aA (H.drop m)).length≤Sx.aM H:=by
 have h:=qT H m;by_cases h0:H.drop m=[]
 · rw[h0];simp[Sx.aA]
 · have:=Sx.cZ _ h0;omega
theorem JA (g n:Nat)(dv:Value)(rs:List Sx.Rl)(os:List cJ)(w:World)(hW:DwAt w g dv rs os)(hn:n<os.length)(hok:∀ o∈os,dF o)(hrt:Sx.RlsRt rs):Calls Tryz.prog 112 #[.pointer (some ⟨g,0,none⟩),.int .i64 n] w fun e w'=>e=.returned (.tuple #[.string ⟨(lW rs os[n]).toArray⟩,.int .i64 0])∧Below w.heap.size w w':=by
 obtain⟨rv,q,p,cap,hg,c0,c1,hq,hrl,hrd⟩:=hW.read;obtain⟨b,v,rfl,hb,hd5,hho⟩:=hrd n hn;have hxo:=hok os[n] (List.getElem_mem hn);obtain⟨hq30,hne⟩:=XY hq hrt;obtain⟨x,hx⟩:∃ x,os[n]=x:=⟨_,rfl⟩
 rw[hx] at hd5 hho hxo ⊢;clear hx hrd hok hW;unfold D5 at hd5;obtain⟨d0,d1,d2,d3,d4⟩:=hd5;obtain⟨rp,rc,rfl⟩:=aB hrl.row;have k1:((n:Int)<0)=False:=eq_false (by omega);have k2:((os.length:Int)≤(n:Int))=False:=eq_false (by omega);obtain⟨ox,d⟩:=x;cases ox with
 | none =>
   have hs:lW rs (none,d)=LL:=rfl;have hv:v=.slice none 0 0:=hho;subst hv;rw[hs];rw[decide_eq_true rfl] at d0;dsimp only[bC,bT] at d1 d2 d3 d4;clear hho hxo hrl hne hq;go_enter Tryz.func112,Tryz.ntmps112;go_wp2;go_ret2;exact⟨rfl,(Below.refl _ w).alloc (Nat.le_refl _) _⟩
 | some t =>
   obtain⟨s,H,pt⟩:=t;obtain⟨hsc,hh,-⟩:=hxo;have hHl:H.length≤6:=hh.2.1;have hHp:0<H.length:=List.length_pos_iff.2 hh.1;have hho':w.ownsRow 0 9 1 v H.length (bB H):=hho;obtain⟨b1,c9,hv,-,-⟩:=hho'.form hHp;subst hv;rw[decide_eq_false (by simp)] at d0;dsimp only[bC,bT] at d1 d2 d3 d4;have hle:=nG hh.1 rs;have HDM:=hide (fun W (h:Below w.heap.size w W)=>Y4 q H 0 0 b1 c9 _ W (by omega) (by omega) (hrl.below h) hne (aD hho' h) (by rw[hq];omega));simp only[hq] at HDM;have HDT:=hide (fun m c W (h:Below w.heap.size w W)=>oG H m b1 0 c9 c W hh (aD hho' h));have hsD:lW rs (some (s,H,pt),d)=s++[58,47,47]++Sx.aA (H.drop (if H.length≤(Sx.cL H rs).1 then 0 else H.length-(Sx.cL H rs).1-1)):=by
    show s++[58,47,47]++_=_;congr 1;split
    · rw[List.drop_zero]
    · rfl
   rw[hsD];have hdl:∀ m,(Sx.aA (H.drop m)).length≤100:=fun m=>by have h1:=VT H m;have h2:=hh.2.2.1;omega
   have hsl:s.length≤5:=by rcases hsc with rfl | rfl <;> simp[sW,mV]
   obtain⟨u,hu⟩:∃ u,(Sx.cL H rs).1=u:=⟨_,rfl⟩
   rw[hu] at HDM hle ⊢;obtain⟨S,hS⟩:∃ X:ByteArray,⟨s.toArray⟩=X:=⟨_,rfl⟩
   obtain⟨D,hD⟩:∃ X:ByteArray,⟨d.toArray⟩=X:=⟨_,rfl⟩
   rw[hS] at d1;rw[hD] at d4;have a1:S++⟨#[58,47,47]⟩=⟨(s++[58,47,47]).toArray⟩:=by rw[←hS];exact bF s [58,47,47]
   obtain⟨T1,hT1⟩:∃ X:ByteArray,⟨(s++[58,47,47]).toArray⟩=X:=⟨_,rfl⟩
   have hT1s:T1.size≤8:=by rw[←hT1];show(s++[58,47,47]).length≤8;rw[List.length_append];simp;omega
   have hSs:S.size≤5:=by rw[←hS];exact hsl
   obtain⟨F,hF⟩:∃ X:ByteArray,⟨(s++[58,47,47]++Sx.aA (H.drop (if H.length≤u then 0 else H.length-u-1))).toArray⟩=X:=⟨_,rfl⟩
   rw[hF];have HA2:Hid (∀ m,(if H.length≤u then 0 else H.length-u-1)=m→T1++⟨(Sx.aA (H.drop m)).toArray⟩=F):=hide (fun m hm=>by rw[←hF,←hT1,hm];exact bF _ _);have HDL:Hid (∀ m,(⟨(Sx.aA (H.drop m)).toArray⟩:ByteArray).size≤100):=hide hdl;rw[hT1] at a1;obtain⟨W0,hW0⟩:∃ W0,w.alloc (.cells #[.bool false,.string S,.slice (some ⟨b1,0,none⟩) H.length c9,.int .i64 pt,.string D] 228)=W0:=⟨_,rfl⟩
   have HOF:Hid (∀ W,Below W0.heap.size W0 W→C5 W w.heap.size false S (some ⟨b1,0,none⟩) H.length c9 pt D):=hide (fun W h=>by
    rw[←hW0] at h;exact(JQ w false S (some ⟨b1,0,none⟩) H.length c9 pt D).below h (by rw[World.size_alloc];omega))
   have hB0:Below w.heap.size w W0:=by rw[←hW0];exact(Below.refl _ w).alloc (Nat.le_refl _) _
   have HW0:=hide hW0;have HB0:=hide hB0;clear hF hS hD hT1 hdl hsD hu hsc hh hrt hho hho' hne hrl hq hW0 hsl;have f0:=(hB0.cell (p:=⟨g,0,none⟩) hg).trans c0;have f1:=HOF.out W0 (Below.refl _ _);unfold C5 at f1 HOF;obtain⟨e0,e1,e2,e3,e4⟩:=f1;clear hB0;go_enter Tryz.func112,Tryz.ntmps112;have HDN:Hid (∀ W,Below w.heap.size w W→Calls Tryz.prog 156 #[.slice rp q.length rc,.slice (some ⟨b1,0,none⟩) H.length c9] W fun e w'=>Below W.heap.size W w'∧∃ sp sn sc,e=.returned (.slice sp sn sc)∧((sp=none∧sn=0∧sc=0∧H.length≤u)∨(sp=some ⟨b1,H.length-u-1,none⟩∧sn=u+1∧u<H.length))):=hide (fun W h=>by
    refine(HDM.out W h).mono ?_;rintro e w1 ⟨hB1,⟨h1,rfl⟩ | ⟨h1,c,rfl⟩⟩
    · exact⟨hB1,_,_,_,rfl,.inl ⟨rfl,rfl,rfl,h1⟩⟩
    · exact⟨hB1,_,_,_,rfl,.inr ⟨rfl,rfl,h1⟩⟩)
   clear HDM;go_upto_region 2 with fail
   rw[HW0.out];go_region_with (go_at_call 156;refine(HDN.out _ (by first | exact HB0.out | exact HB0.out.drew)).mono ?_;rintro e w1 ⟨hB1,sp,sn,sc,rfl,hsp⟩)
   all_goals (
    replace hB1:Below W0.heap.size W0 w1:=⟨hB1.os,hB1.tape,hB1.output,hB1.size,hB1.block⟩
    obtain⟨e0,e1,e2,e3,e4⟩:=HOF.out _ hB1;have HB1:=hide (aN HB0.out hB1);clear hB1;obtain⟨m,c,hm,HD,hsp'⟩:∃ m c,(if H.length≤u then 0 else H.length-u-1)=m∧Hid (∀ W,Below w.heap.size w W→Calls Tryz.prog 148 #[.slice (some ⟨b1,m,none⟩) (H.length-m) c] W fun e w'=>e=.returned (.string ⟨(Sx.aA (H.drop m)).toArray⟩)∧w'=W)∧((sp=none∧sn=0∧sc=0∧m=0∧c=c9)∨(sp=some ⟨b1,m,none⟩∧sn=H.length-m∧sc=c)):=by
     rcases hsp with ⟨rfl,rfl,rfl,h⟩ | ⟨rfl,rfl,h⟩
     · exact⟨0,c9,if_pos h,hide (fun W h=>HDT.out 0 c9 _ h),.inl ⟨rfl,rfl,rfl,rfl,rfl⟩⟩
     · exact⟨H.length-u-1,sc,if_neg (by omega),hide (fun W h=>HDT.out _ sc _ h),.inr ⟨rfl,by omega,rfl⟩⟩
    have ha:=HA2.out m hm;have hs:=HDL.out m;obtain⟨X,hX⟩:∃ X:ByteArray,⟨(Sx.aA (H.drop m)).toArray⟩=X:=⟨_,rfl⟩
    rw[hX] at HD ha hs;clear hX HA2 HDL HDT hm hsp f0 HOF HW0 HDN;rcases hsp' with ⟨rfl,rfl,rfl,rfl,rfl⟩ | ⟨rfl,rfl,h9⟩
    · rw[Nat.sub_zero] at HD;have hnil:∀ W:World,(binOp BinOp.eql 51 (.slice none 0 0) (.slice none 0 0)).run Tryz.prog W=.ok (.bool true) W:=fun W=>Lib.run_eql_slice_nil _ _ _ _ _ _ _ _ Tryz.underlying51;go_wp2_with fail
      go_region_with (go_at_call 148;refine(HD.out _ (by first | exact HB1.out | exact HB1.out.drew)).mono ?_;rintro e w2 ⟨rfl,rfl⟩)
      all_goals (
       go_wp2;go_ret2;exact⟨rfl,by first | exact HB1.out | exact HB1.out.drew⟩)
    · subst h9;have hnil:∀ W:World,(binOp BinOp.eql 51 (.slice (some ⟨b1,m,none⟩) (H.length-m) sc) (.slice none 0 0)).run Tryz.prog W=.ok (.bool false) W:=fun W=>Lib.run_eql_slice_nil _ _ _ _ _ _ _ _ Tryz.underlying51;go_wp2_with fail
      go_region_with (go_at_call 148;refine(HD.out _ (by first | exact HB1.out | exact HB1.out.drew)).mono ?_;rintro e w2 ⟨rfl,rfl⟩)
      all_goals (
       go_wp2;go_ret2;exact⟨rfl,by first | exact HB1.out | exact HB1.out.drew⟩))
theorem Q0 (g:Nat)(n:Int)(dv:Value)(rs:List Sx.Rl)(os:List cJ)(w:World)(hW:DwAt w g dv rs os)(hn:¬ (0≤n∧n<os.length)):Calls Tryz.prog 112 #[.pointer (some ⟨g,0,none⟩),.int .i64 n] w fun e w'=>e=.returned (.tuple #[.string ⟨#[]⟩,.int .i64 7])∧w'=w:=by
 obtain⟨rv,q,p,cap,hg,c0,c1,hq,hrl,hrd⟩:=hW.read;clear hrd hrl hq hW;by_cases h0:n<0
 · have k1:(n<0)=True:=eq_true h0;go_enter Tryz.func112,Tryz.ntmps112;go_wp2;go_ret2;exact⟨rfl,rfl⟩
 · have k1:(n<0)=False:=eq_false h0;have k2:((os.length:Int)≤n)=True:=eq_true (by omega);go_enter Tryz.func112,Tryz.ntmps112;go_wp2;go_ret2;exact⟨rfl,rfl⟩
theorem O3 (g:Nat)(a b:Int)(dv:Value)(rs:List Sx.Rl)(os:List cJ)(w:World)(hW:DwAt w g dv rs os)(hn:¬ (0≤a∧a<os.length)∨¬ (0≤b∧b<os.length)):Calls Tryz.prog 113 #[.pointer (some ⟨g,0,none⟩),.int .i64 a,.int .i64 b] w fun e w'=>e=.returned (.tuple #[.bool false,.bool false,.bool false,.int .i64 7])∧w'=w:=by
 obtain⟨rv,q,p,cap,hg,c0,c1,hq,hrl,hrd⟩:=hW.read;clear hrd hrl hq hW;by_cases h0:a<0
 · have k1:(a<0)=True:=eq_true h0;clear hn;go_enter Tryz.func113,Tryz.ntmps113;go_wp2;exact bodyPost_ret (v:=.tuple #[.bool false,.bool false,.bool false,.int .i64 7]) (by simp[results,Tryz.results113,go_sem]) rfl ⟨rfl,rfl⟩
 · have k1:(a<0)=False:=eq_false h0;by_cases h1:b<0
   · have k2:(b<0)=True:=eq_true h1;clear hn;go_enter Tryz.func113,Tryz.ntmps113;go_wp2;exact bodyPost_ret (v:=.tuple #[.bool false,.bool false,.bool false,.int .i64 7]) (by simp[results,Tryz.results113,go_sem]) rfl ⟨rfl,rfl⟩
   · have k2:(b<0)=False:=eq_false h1;by_cases h2:(os.length:Int)≤a
     · have k3:((os.length:Int)≤a)=True:=eq_true h2;clear hn;go_enter Tryz.func113,Tryz.ntmps113;go_wp2;exact bodyPost_ret (v:=.tuple #[.bool false,.bool false,.bool false,.int .i64 7]) (by simp[results,Tryz.results113,go_sem]) rfl ⟨rfl,rfl⟩
     · have k3:((os.length:Int)≤a)=False:=eq_false h2;have k4:((os.length:Int)≤b)=True:=eq_true (by omega);clear hn;go_enter Tryz.func113,Tryz.ntmps113;go_wp2;exact bodyPost_ret (v:=.tuple #[.bool false,.bool false,.bool false,.int .i64 7]) (by simp[results,Tryz.results113,go_sem]) rfl ⟨rfl,rfl⟩
theorem l5 {rs:List Sx.Rl}{a b:Nat}{x y:cJ}(h:x.1=none∨y.1=none):tI rs a b x y=(decide (a=b),decide (a=b),decide (a=b)):=by
 unfold tI;split
 · rename_i h1 h2;rcases h with h | h
   · rw[h] at h1;cases h1
   · rw[h] at h2;cases h2
 · rfl
theorem P4 (g a b:Nat)(dv:Value)(rs:List Sx.Rl)(os:List cJ)(w:World)(hW:DwAt w g dv rs os)(ha:a<os.length)(hb:b<os.length)(hok:∀ o∈os,dF o)(hrt:Sx.RlsRt rs):Calls Tryz.prog 113 #[.pointer (some ⟨g,0,none⟩),.int .i64 a,.int .i64 b] w fun e w'=>e=.returned (.tuple #[.bool (tI rs a b os[a] os[b]).1,.bool (tI rs a b os[a] os[b]).2.1,.bool (tI rs a b os[a] os[b]).2.2,.int .i64 0])∧Below w.heap.size w w':=by
 have HSA:=hide (fun W (h:Below w.heap.size w W)=>JA g a dv rs os W (hW.below h) ha hok hrt);have HSB:=hide (fun W (h:Below w.heap.size w W)=>JA g b dv rs os W (hW.below h) hb hok hrt);obtain⟨rv,q,p,cap,hg,c0,c1,hq,hrl,hrd⟩:=hW.read;obtain⟨bb,v,rfl,hbb,hd5,hho⟩:=hrd a ha;obtain⟨bb',v',hbe,-,hd5',hho'⟩:=hrd b hb;obtain rfl:bb=bb':=by injection hbe with h;injection h
 have hxo:=hok os[a] (List.getElem_mem ha);have hyo:=hok os[b] (List.getElem_mem hb);obtain⟨x,hx⟩:∃ x,os[a]=x:=⟨_,rfl⟩
 obtain⟨y,hy⟩:∃ x,os[b]=x:=⟨_,rfl⟩
 rw[hx] at hd5 hho hxo HSA ⊢;rw[hy] at hd5' hho' hyo HSB ⊢;have hvs:∃ hp hn hc,v=.slice hp hn hc:=hho.shape;have hvs':∃ hp hn hc,v'=.slice hp hn hc:=hho'.shape;obtain⟨hp1,hn1,hc1,rfl⟩:=hvs;obtain⟨hp2,hn2,hc2,rfl⟩:=hvs';unfold D5 at hd5 hd5';obtain⟨d0,d1,d2,d3,d4⟩:=hd5;obtain⟨f0,f1,f2,f3,f4⟩:=hd5';have k1:((a:Int)<0)=False:=eq_false (by omega);have k2:((b:Int)<0)=False:=eq_false (by omega);have k3:((os.length:Int)≤(a:Int))=False:=eq_false (by omega);have k4:((os.length:Int)≤(b:Int))=False:=eq_false (by omega);clear hx hy hrd hok hW hrl hq hbe hrt;by_cases hno:x.1=none∨y.1=none
 · rw[l5 hno];dsimp only;have hdd:decide (a=b)=((a:Int) == (b:Int)):=by rw[Bool.eq_iff_iff];simp;omega
   rw[hdd];obtain⟨R,hR⟩:∃ R,((a:Int) == (b:Int))=R:=⟨_,rfl⟩
   rw[hR];obtain⟨O1,hO1⟩:∃ R,decide (x.1=none)=R:=⟨_,rfl⟩
   obtain⟨O2,hO2⟩:∃ R,decide (y.1=none)=R:=⟨_,rfl⟩
   have hoo:O1=true∨O2=true:=by
    rcases hno with h | h
    · left;rw[←hO1];exact decide_eq_true h
    · right;rw[←hO2];exact decide_eq_true h
   rw[hO1] at d0;rw[hO2] at f0;obtain⟨S1,hS1⟩:∃ X:ByteArray,⟨(bC x).toArray⟩=X:=⟨_,rfl⟩
   obtain⟨D1,hD1⟩:∃ X:ByteArray,⟨x.2.toArray⟩=X:=⟨_,rfl⟩
   obtain⟨S2,hS2⟩:∃ X:ByteArray,⟨(bC y).toArray⟩=X:=⟨_,rfl⟩
   obtain⟨D2,hD2⟩:∃ X:ByteArray,⟨y.2.toArray⟩=X:=⟨_,rfl⟩
   rw[hS1] at d1;rw[hD1] at d4;rw[hS2] at f1;rw[hD2] at f4;clear hno hdd hO1 hO2 hS1 hD1 hS2 hD2 hho hho' hxo hyo HSA HSB;cases O1 with
   | true =>
     clear hoo;go_enter Tryz.func113,Tryz.ntmps113;go_wp2;exact bodyPost_ret (v:=.tuple #[.bool R,.bool R,.bool R,.int .i64 0]) (by simp[results,Tryz.results113,go_sem]) rfl ⟨rfl,((Below.refl _ w).alloc (Nat.le_refl _) _).alloc (by simp) _⟩
   | false =>
     obtain rfl:O2=true:=by rcases hoo with h | h;cases h;exact h
     clear hoo;go_enter Tryz.func113,Tryz.ntmps113;go_wp2;exact bodyPost_ret (v:=.tuple #[.bool R,.bool R,.bool R,.int .i64 0]) (by simp[results,Tryz.results113,go_sem]) rfl ⟨rfl,((Below.refl _ w).alloc (Nat.le_refl _) _).alloc (by simp) _⟩
 · obtain⟨ox,xd⟩:=x;obtain⟨oy,yd⟩:=y;cases ox with
   | none=>exact absurd (.inl rfl) hno
   | some tx =>
   cases oy with
   | none=>exact absurd (.inr rfl) hno
   | some ty =>
   obtain⟨sx,Hx,px⟩:=tx;obtain⟨sy,Hy,py⟩:=ty;obtain⟨-,hhx,-⟩:=hxo;obtain⟨-,hhy,-⟩:=hyo;have ho1:w.ownsRow 0 9 1 (.slice hp1 hn1 hc1) Hx.length (bB Hx):=hho;have ho2:w.ownsRow 0 9 1 (.slice hp2 hn2 hc2) Hy.length (bB Hy):=hho';obtain⟨b1,c8,hv1,-,-⟩:=ho1.form (List.length_pos_iff.2 hhx.1);obtain⟨b2,c9,hv2,-,-⟩:=ho2.form (List.length_pos_iff.2 hhy.1);rw[hv1] at ho1 d2;rw[hv2] at ho2 f2;have hDX:=fun W (h:Below w.heap.size w W)=>oG Hx 0 b1 0 c8 c8 W hhx (aD ho1 h);have hDY:=fun W (h:Below w.heap.size w W)=>oG Hy 0 b2 0 c9 c9 W hhy (aD ho2 h);simp only[Nat.sub_zero,List.drop_zero] at hDX hDY;rw[decide_eq_false (by simp)] at d0 f0;dsimp only[bC,bT] at d1 d3 d4 f1 f3 f4;obtain⟨S1,hS1⟩:∃ X:ByteArray,⟨sx.toArray⟩=X:=⟨_,rfl⟩
   obtain⟨D1,hD1⟩:∃ X:ByteArray,⟨xd.toArray⟩=X:=⟨_,rfl⟩
   obtain⟨S2,hS2⟩:∃ X:ByteArray,⟨sy.toArray⟩=X:=⟨_,rfl⟩
   obtain⟨D2,hD2⟩:∃ X:ByteArray,⟨yd.toArray⟩=X:=⟨_,rfl⟩
   obtain⟨P1,hP1⟩:∃ X:ByteArray,⟨(Sx.aA Hx).toArray⟩=X:=⟨_,rfl⟩
   obtain⟨P2,hP2⟩:∃ X:ByteArray,⟨(Sx.aA Hy).toArray⟩=X:=⟨_,rfl⟩
   obtain⟨T1,hT1⟩:∃ X:ByteArray,⟨(lW rs (some (sx,Hx,px),xd)).toArray⟩=X:=⟨_,rfl⟩
   obtain⟨T2,hT2⟩:∃ X:ByteArray,⟨(lW rs (some (sy,Hy,py),yd)).toArray⟩=X:=⟨_,rfl⟩
   have e1:(S1.toList=S2.toList)=(sx=sy):=by rw[←hS1,←hS2,ByteArray.toList_eq,ByteArray.toList_eq]
   have e2:(D1.toList=D2.toList)=(xd=yd):=by rw[←hD1,←hD2,ByteArray.toList_eq,ByteArray.toList_eq]
   have e3:(P1.toList=P2.toList)=(Sx.aA Hx=Sx.aA Hy):=by rw[←hP1,←hP2,ByteArray.toList_eq,ByteArray.toList_eq]
   have e4:(T1.toList == T2.toList)=decide (lW rs (some (sx,Hx,px),xd)=lW rs (some (sy,Hy,py),yd)):=by rw[ba_eq,←hT1,←hT2]
   have e5:(D1.toList=[])=(xd=[]):=by rw[←hD1,ByteArray.toList_eq]
   have e6:(D2.toList=[])=(yd=[]):=by rw[←hD2,ByteArray.toList_eq]
   obtain⟨⟨R1,R2,R3⟩,hR⟩:∃ R,tI rs a b (some (sx,Hx,px),xd) (some (sy,Hy,py),yd)=R:=⟨_,rfl⟩
   have hRR:=hR;unfold tI at hRR;dsimp only at hRR;rw[←e4] at hRR;simp only[Prod.mk.injEq,←e1,←e2,←e3,ne_eq,←e5,←e6] at hRR;obtain⟨hR1,hR2,hR3⟩:=hRR;rw[hR];dsimp only;rw[hT1] at HSA;rw[hT2] at HSB;rw[hP1] at hDX;rw[hP2] at hDY;rw[hS1] at d1;rw[hD1] at d4;rw[hS2] at f1;rw[hD2] at f4;have HDX:=hide hDX;have HDY:=hide hDY;have HR1:=hide hR1;have HR2:=hide hR2;have HR3:=hide hR3;cases hv1;cases hv2;clear hno hR hR1 hR2 hR3 e1 e2 e3 e4 e5 e6 hS1 hS2 hD1 hD2 hP1 hP2 hT1 hT2 hDX hDY ho1 ho2 hho hho' hhx hhy;go_enter Tryz.func113,Tryz.ntmps113;go_wp2_with fail
   refine(HDX.out _ (((Below.refl _ w).alloc (Nat.le_refl _) _).alloc (by simp) _)).mono ?_;rintro e w1 ⟨rfl,rfl⟩;go_wp2_with fail
   refine(HDY.out _ (((Below.refl _ w).alloc (Nat.le_refl _) _).alloc (by simp) _)).mono ?_;rintro e w1 ⟨rfl,rfl⟩;go_wp2_with fail
   all_goals (
    refine(HSA.out _ (((Below.refl _ w).alloc (Nat.le_refl _) _).alloc (by simp) _)).mono ?_;rintro e w2 ⟨rfl,hB2⟩;have HB2:=hide (aN (((Below.refl _ w).alloc (Nat.le_refl _) _).alloc (by simp) _) hB2);clear hB2;go_wp2_with fail
    refine(HSB.out _ HB2.out).mono ?_;rintro e w3 ⟨rfl,hB3⟩;have HB3:=hide (aN HB2.out hB3);clear hB3;go_wp2;refine bodyPost_ret (v:=.tuple #[.bool R1,.bool R2,.bool R3,.int .i64 0]) ?_ rfl ⟨rfl,HB3.out⟩;have q1:=HR1.out;have q2:=HR2.out;have q3:=HR3.out;clear HR1 HR2 HR3 HB3 HB2 HSA HSB HDX HDY;have hbd:∀ l l':List UInt8,(l == l')=decide (l=l'):=fun l l'=>by rw[Bool.eq_iff_iff];simp
    simp[results,Tryz.results113,go_sem];rw[hbd] at q3;simp only[hbd];simp_all)
end Go.Proofs.YtgohllfpceeboabGreatDoor
