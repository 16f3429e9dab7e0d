import Derived.Test.YtgohllfpceeboabGreatDoorAnbu
import Derived.Test.YtgohllfpceeboabGreatDoorAnbp
set_option maxRecDepth 100000
set_option maxHeartbeats 8000000
namespace Go.Proofs.YtgohllfpceeboabGreatDoor
open Go.RowKit
theorem HoAt.same {W:World}{v:Value}{o:Option (List UInt8×List (List UInt8)×Int)}{d d':List UInt8}(h:HoAt W (v,o,d)):HoAt W (v,o,d'):=by
 cases o with
 | none=>exact h
 | some t=>exact h
theorem O8 {w W:World}{g b m cap:Nat}{rs:List Sx.Rl}{os:List cJ}(h:DwAt w g (.slice (some ⟨b,0,none⟩) os.length cap) rs os)(hm:m<os.length)(V:List UInt8)(hB:Below w.heap.size w W):DPost w g (.slice (some ⟨b,0,none⟩) os.length cap) rs (os.set m (os[m].1,V)) (W.setCell ⟨b,m*5+4,none⟩ (.string ⟨V.toArray⟩)):=by
 have hg:=h.lt;have hty:=h.ety;obtain⟨rv,q,d,hq,rfl,h4,h2,h5,h6⟩:=h;rw[List.length_map] at hm h5;have hb:=h5.lt b rfl;have hx:Ex (PE g (.slice (some ⟨b,0,none⟩) (d.map (·.2)).length cap)) w (W.setCell ⟨b,m*5+4,none⟩ (.string ⟨V.toArray⟩)):=⟨(hB.mono (Nat.zero_le _)).setCell (p:=⟨b,m*5+4,none⟩) (Nat.zero_le _) _,fun k hk hn=>(heap_setCell_other _ _ _ _ (fun e=>hn (.inr (by rw[e];rfl)))).trans (hB.block k hk)⟩
 refine⟨_,⟨rv,q,d.set m (d[m].1,d[m].2.1,V),hq,?_,?_,⟨hty.own hx h2.row (by decide) (by decide),fun y hy=>hty.own hx (h2.hosts y hy) (by decide) (by decide)⟩,?_,fun y hy=>?_⟩,hx,fun _ h=>.inl h⟩
 · rw[List.map_set,List.getElem_map]
 · rw[heap_setCell_other _ _ _ _ (by show g≠b;omega)];exact(hB.block g hg).trans h4
 · rw[List.length_set,DZ d m hm,List.length_map];exact yB (aD h5 hB) _ _
 · have hy':HoAt w y:=by
    rcases List.mem_or_eq_of_mem_set hy with h | h
    · exact h6 y h
    · rw[h];exact HoAt.same (d:=d[m].2.2) (h6 d[m] (List.getElem_mem hm))
   exact hy'.own (fun _ _ _ ho=>hty.own hx ho (by decide) (by decide))
theorem o7 (g:Nat)(n:Int)(v:ByteArray)(dv:Value)(rs:List Sx.Rl)(os:List cJ)(w:World)(hW:DwAt w g dv rs os)(hok:∀ o∈os,dF o)(hrt:Sx.RlsRt rs):Calls Tryz.prog 110 #[.pointer (some ⟨g,0,none⟩),.int .i64 n,.string v] w fun e w'=>e=.returned (.int .i64 (mY rs os n v.data.toList).2)∧DPost w g dv rs (mY rs os n v.data.toList).1 w':=by
 have HPS:=hide (fun W hB=>DPost.same (w':=W) hW hB);by_cases hn:0≤n∧n<os.length
 · obtain⟨m,rfl⟩:∃ m:Nat,n=m:=⟨n.toNat,by omega⟩
   have hm:m<os.length:=by omega
   have hdv:∃ b cap,dv=.slice (some ⟨b,0,none⟩) os.length cap∧b<w.heap.size∧∀ k,w.frozen? ⟨b,k,none⟩=false:=by
    obtain⟨rv,q,d,-,rfl,-,-,h5,-⟩:=hW;rw[List.length_map] at hm ⊢;obtain⟨b,c,hv,-,-⟩:=h5.form (by omega);subst hv;exact⟨b,c,rfl,(h5.lt b rfl).2,fun k=>h5.frozenAt k⟩
   obtain⟨bb,cap,rfl,hbb,hfz⟩:=hdv;have hset:=fun V W hB=>O8 (W:=W) hW hm V hB;obtain⟨rv,q,p,cap',hg,c0,c1,hq,hrl,hrd⟩:=hW.read;obtain⟨b9,hv,hpe,-,hd5,hho⟩:=hrd m hm;have hce:p=some ⟨bb,0,none⟩∧cap'=cap:=by
    obtain⟨rv',q',d',-,rfl,h4,-⟩:=hW;have:w.cell? ⟨g,1,none⟩=some (.slice (some ⟨bb,0,none⟩) (d'.map (·.2)).length cap):=by simp[World.cell?,h4]
    rw[c1] at this;simp at this;exact⟨this.1,this.2⟩
   obtain⟨rfl,rfl⟩:=hce;obtain rfl:bb=b9:=by injection hpe with h;injection h
   have hxo:=hok os[m] (List.getElem_mem hm);obtain⟨hq30,hne⟩:=XY hq hrt;obtain⟨x,hx⟩:∃ x,os[m]=x:=⟨_,rfl⟩
   rw[hx] at hd5 hho hxo hset;have hos:=hx;clear hx hrd hok hW;have hvs:∃ hp hn hc,hv=.slice hp hn hc:=hho.shape;obtain⟨hp1,hn1,hc1,rfl⟩:=hvs;unfold D5 at hd5;obtain⟨d0,d1,d2,d3,d4⟩:=hd5;obtain⟨rp,rc,rfl⟩:=aB hrl.row;have k1:((m:Int)<0)=False:=eq_false (by omega);have k2:((os.length:Int)≤(m:Int))=False:=eq_false (by omega);have HHO:=hide (fun W=>dR v W);unfold nF at HHO;obtain⟨ox,d⟩:=x;cases ox with
   | none =>
     rw[EY hm hos];rw[decide_eq_true rfl] at d0;dsimp only[bC,bT] at d1 d3 d4;clear hho hxo hrl hne hq hset hos hrt HHO;go_enter Tryz.func110,Tryz.ntmps110;go_wp2;go_ret;exact⟨rfl,HPS.out _ ((Below.refl _ w).alloc (Nat.le_refl _) _)⟩
   | some t =>
     obtain⟨s,H,pt⟩:=t;rw[DN hm hos];obtain⟨-,hh,-⟩:=hxo;have ho1:w.ownsRow 0 9 1 (.slice hp1 hn1 hc1) H.length (bB H):=hho;obtain⟨b1,c8,hv1,-,-⟩:=ho1.form (List.length_pos_iff.2 hh.1);cases hv1;have hHl:H.length≤6:=hh.2.1;rw[decide_eq_false (by simp)] at d0;dsimp only[bC,bT] at d1 d3 d4;obtain⟨S,hS⟩:∃ X:ByteArray,⟨s.toArray⟩=X:=⟨_,rfl⟩
     obtain⟨D,hD⟩:∃ X:ByteArray,⟨d.toArray⟩=X:=⟨_,rfl⟩
     rw[hS] at d1;rw[hD] at d4;clear hS hD hos hho;by_cases he:(Sx.aI v.data.toList).2=0
     · rw[if_pos he];have hHo:=Sx.gX v.data.toList he;rw[he] at HHO;obtain⟨V,hV⟩:∃ H,(Sx.aI v.data.toList).1=H:=⟨_,rfl⟩
       rw[hV] at HHO hHo ⊢;have hVl:V.length≤6:=hHo.2.1;have hVp:0<V.length:=List.length_pos_iff.2 hHo.1;have hle:=nG hHo.1 rs;have HEN:=hide (fun W B2 b2 c2 (h:Below w.heap.size w W) ho=>J9 H V 0 B2 b1 hc1 b2 c2 W (by omega) (by omega) (aD ho1 h) ho);have HPB:=hide (fun W B2 b2 c2 (h:Below w.heap.size w W) ho=>O0 q V 0 B2 b2 c2 _ W (by omega) (by omega) (hrl.below h) hne ho);simp only[hq] at HPB;have HDT:=hide (fun W B2 b2 c2 ho=>oG V 0 b2 B2 c2 c2 W hHo ho);simp only[Nat.sub_zero,List.drop_zero] at HDT;have hmay:TJ rs V H=(Sx.dE H V && !(decide (V.length<H.length) && decide ((Sx.cL V rs).1=V.length))):=rfl;have hset:=hset (Sx.aA V);obtain⟨PV,hPV⟩:∃ X:ByteArray,⟨(Sx.aA V).toArray⟩=X:=⟨_,rfl⟩
       rw[hPV] at hset HDT;obtain⟨u,hu⟩:∃ u,(Sx.cL V rs).1=u:=⟨_,rfl⟩
       obtain⟨sc,hsc⟩:∃ u,(Sx.cL V rs).2=u:=⟨_,rfl⟩
       obtain⟨EN,hEN⟩:∃ b,Sx.dE H V=b:=⟨_,rfl⟩
       rw[hu,hEN] at hmay;simp only[hu,hsc] at HPB;rw[hu] at hle;simp only[hEN] at HEN;obtain⟨MB,hMB⟩:∃ b,TJ rs V H=b:=⟨_,rfl⟩
       rw[hMB] at hmay ⊢;have HSET:=hide hset;obtain⟨W0,hW0⟩:∃ W0,w.alloc (.cells #[.bool false,.string S,.slice (some ⟨b1,0,none⟩) H.length hc1,.int .i64 pt,.string D] 228)=W0:=⟨_,rfl⟩
       have HOF:Hid (∀ W,Below W0.heap.size W0 W→C5 W w.heap.size false S (some ⟨b1,0,none⟩) H.length hc1 pt D):=hide (fun W h=>by
        rw[←hW0] at h;exact(JQ w false S (some ⟨b1,0,none⟩) H.length hc1 pt D).below h (by rw[World.size_alloc];omega))
       unfold C5 at HOF;have hB0:Below w.heap.size w W0:=by rw[←hW0];exact(Below.refl _ w).alloc (Nat.le_refl _) _
       have HW0:=hide hW0;have HB0:=hide hB0;have HKP:Hid (∀ W,Below w.heap.size w W→W.cell? ⟨g,0,none⟩=some (.slice rp q.length rc)∧W.cell? ⟨g,1,none⟩=some (.slice (some ⟨bb,0,none⟩) os.length cap')∧W.cell? ⟨bb,m*5+4,none⟩=some (.string D)∧W.frozen? ⟨bb,m*5+4,none⟩=false):=hide (fun W h=>⟨(h.cell (p:=⟨g,0,none⟩) hg).trans c0,(h.cell (p:=⟨g,1,none⟩) hg).trans c1,(h.cell (p:=⟨bb,m*5+4,none⟩) hbb).trans d4,(h.frozen (p:=⟨bb,m*5+4,none⟩) hbb).trans (hfz _)⟩);clear hset hPV hu hsc hEN hMB hW0 hB0 hrl hne hq ho1 hh hHo hrt hV he hfz;go_enter Tryz.func110,Tryz.ntmps110;go_wp2_with fail
       rw[HW0.out];refine(HHO.out _).mono ?_;rintro e w1 ⟨hB1,v2,rfl,hv2,-⟩;obtain⟨b2,c2,hve,-,-⟩:=hv2.form hVp;subst hve;obtain⟨e0,e1,e2,e3,e4⟩:=HOF.out _ hB1;have HB01:=hide hB1;have HB1:=hide (aN HB0.out hB1);have HV2:=hide hv2;obtain⟨n0,n1,n2,n3⟩:=HKP.out _ HB1.out;clear hB1 hv2 HHO c0 c1 d0 d1 d2 d3 d4;go_wp2_with fail
       refine(HEN.out _ _ _ _ HB1.out HV2.out).mono ?_;rintro e w2 ⟨rfl,hB2⟩;obtain⟨e0,e1,e2,e3,e4⟩:=HOF.out _ (aN HB01.out hB2);have HB02:=hide (aN HB01.out hB2);have HB2:=hide (aN HB1.out hB2);have HV3:=hide (aD HV2.out hB2);clear n0 n1 n2 n3;obtain⟨n0,n1,n2,n3⟩:=HKP.out _ HB2.out;clear hB2 HV2 HEN;go_wp2_with fail
       refine(HPB.out _ _ _ _ HB2.out HV3.out).mono ?_;rintro e w3 ⟨rfl,hB3⟩;obtain⟨e0,e1,e2,e3,e4⟩:=HOF.out _ (aN HB02.out hB3);have HB3:=hide (aN HB2.out hB3);have HV4:=hide (aD HV3.out hB3);clear n0 n1 n2 n3;obtain⟨n0,n1,n2,n3⟩:=HKP.out _ HB3.out;clear hB3 HV3 HPB HOF HKP HB02 HB01;by_cases hmb:MB=true
       · subst hmb;have hen:EN=true:=by cases EN;simp at hmay;rfl
         subst hen;have HFIN:=hide (HSET.out _ HB3.out.drew);have HD1:=hide (HDT.out w3 _ b2 c2 HV4.out);have HD2:=hide (HDT.out w3.drew _ b2 c2 (aD HV4.out (Below.refl _ w3).drew));have hfin:(V.length<H.length∧u=V.length)→False:=fun h=>by simp[h.1,h.2] at hmay
         clear hmay HSET HDT;by_cases hlt:V.length<H.length
         · have j1:((V.length:Int)<(H.length:Int))=True:=eq_true (by omega);have j2:((u:Int) == (V.length:Int))=false:=by
            rw[beq_eq_false_iff_ne];intro h;exact hfin ⟨hlt,by omega⟩
           clear hfin;go_wp2_with fail
           go_region_with (first | (go_at_call 148;with_reducible refine HD1.out.mono ?_;rintro e w5 ⟨rfl,rfl⟩) | (go_at_call 148;with_reducible refine HD2.out.mono ?_;rintro e w5 ⟨rfl,rfl⟩))
           all_goals (
            go_wp2;go_ret;exact⟨rfl,HFIN.out⟩)
         · have j1:((V.length:Int)<(H.length:Int))=False:=eq_false (by omega);clear hfin;go_wp2_with fail
           go_region_with (first | (go_at_call 148;with_reducible refine HD1.out.mono ?_;rintro e w5 ⟨rfl,rfl⟩) | (go_at_call 148;with_reducible refine HD2.out.mono ?_;rintro e w5 ⟨rfl,rfl⟩))
           all_goals (
            go_wp2;go_ret;exact⟨rfl,HFIN.out⟩)
       · obtain rfl:MB=false:=by
          cases MB
          · rfl
          · exact absurd rfl hmb
         clear HSET HDT;cases EN with
         | false =>
           clear hmay;go_wp2;go_ret;exact⟨rfl,HPS.out _ HB3.out⟩
         | true =>
           have hboth:V.length<H.length∧u=V.length:=by simpa using hmay
           have j1:((V.length:Int)<(H.length:Int))=True:=eq_true (by omega);have j2:((u:Int) == (V.length:Int))=true:=by simp;omega
           clear hmay hboth;go_wp2;go_ret;exact⟨rfl,HPS.out _ HB3.out⟩
     · rw[if_neg he];dsimp only;obtain⟨er,her⟩:∃ e,(Sx.aI v.data.toList).2=e:=⟨_,rfl⟩
       rw[her] at HHO he ⊢;have j1:(er != 0)=true:=by simpa using he
       have j2:(er == 0)=false:=by simpa using he
       have HB0:=hide ((Below.refl _ w).alloc (Nat.le_refl _) (.cells #[.bool false,.string S,.slice (some ⟨b1,0,none⟩) H.length hc1,.int .i64 pt,.string D] 228));clear her he hset hrl hne hq ho1 hh hrt hfz;go_enter Tryz.func110,Tryz.ntmps110;go_wp2_with fail
       refine(HHO.out _).mono ?_;rintro e w1 ⟨hB,v2,rfl,hv2,-⟩;obtain⟨vp,vc,rfl⟩:=aB hv2;have HB:=hide (aN HB0.out hB);clear hB hv2;go_wp2;go_ret;exact⟨rfl,HPS.out _ HB.out⟩
 · have hd:mY rs os n v.data.toList=(os,7):=by unfold mY;rw[if_neg hn]
   rw[hd];dsimp only;obtain⟨rv,q,p,cap,hg,c0,c1,hq,hrl,hrd⟩:=hW.read;clear hrd hrl hq hW hd;by_cases h0:n<0
   · have k1:(n<0)=True:=eq_true h0;go_enter Tryz.func110,Tryz.ntmps110;go_wp2;go_ret;exact⟨rfl,HPS.out _ (Below.refl _ _)⟩
   · have k1:(n<0)=False:=eq_false h0;have k2:((os.length:Int)≤n)=True:=eq_true (by omega);go_enter Tryz.func110,Tryz.ntmps110;go_wp2;go_ret;exact⟨rfl,HPS.out _ (Below.refl _ _)⟩
end Go.Proofs.YtgohllfpceeboabGreatDoor
namespace Sx
def uE (rs:List Rl):Prop:=∀ r∈rs,r.2.2=105∨r.2.2=112
theorem xT {rs:List Rl}{sec:UInt8}{line:List UInt8}(h:uE rs)(hs:sec=105∨sec=112):uE (aU rs sec line).1.1∧((aU rs sec line).1.2=105∨(aU rs sec line).1.2=112):=by
 unfold aU;split
 · exact⟨h,hs⟩
 · split
   · exact⟨h,.inl rfl⟩
   · split
     · exact⟨h,.inr rfl⟩
     · cases hr:cN line sec with
       | none=>exact⟨h,hs⟩
       | some r =>
         simp only;split
         · exact⟨h,hs⟩
         · split
           · exact⟨h,hs⟩
           · refine⟨fun q hq=>?_,hs⟩;rcases List.mem_append.1 hq with hq | hq
             · exact h q hq
             · rw[List.mem_singleton.1 hq];unfold cN at hr;split at hr
               · obtain rfl:=Option.some.inj hr;exact hs
               · cases hr
theorem pA:∀ (l:List (List UInt8)) (rs:List Rl) (sec:UInt8) (n:Int),uE rs→(sec=105∨sec=112)→uE (bM l rs sec n).1
 | [],_,_,_,h,_=>h
 | x::r,rs,sec,n,h,hs=>by
   unfold bM;split
   · exact pA r _ _ _ (xT h hs).1 (xT h hs).2
   · exact h
theorem uF:∀ (l:List (List UInt8)) (rs:List Rl) (n:Int),uE rs→uE (aQ l rs n).1
 | [],_,_,h=>h
 | s::r,rs,n,h=>by
   unfold aQ;split
   · exact uF r _ _ (pA _ _ _ _ h (.inl rfl))
   · exact pA _ _ _ _ h (.inl rfl)
theorem YY {rs:List Rl}(h:uE rs):∀ r∈rs,r.2.2≠10:=by
 intro r hr;rcases h r hr with e | e <;> rw[e] <;> decide
end Sx
namespace Go.Proofs.YtgohllfpceeboabGreatDoor
open Go.RowKit
theorem K6 (L:List (List UInt8))(v:Value)(w:World)(hrd:RdS w v L)(hL:L.length≤1000000000000)(hsl:Sx.sl L≤1000000000000):Calls Tryz.prog 104 #[v] w fun e w'=>e=.returned (.tuple #[.string ⟨(Sx.fS L).1.toArray⟩,.int .i64 (Sx.fS L).2.1,.int .i64 (Sx.fS L).2.2])∧Below w.heap.size w w':=by
 have HP:=hide (YR L v w hrd hL hsl);clear hrd hL hsl;go_enter Tryz.func104,Tryz.ntmps104;go_wp2_with fail
 refine HP.out.mono ?_;rintro e w1 ⟨hB,hpost⟩;by_cases hbig:2000<Sx.sl L
 · rw[if_pos hbig] at hpost;subst hpost;have hc:Sx.fS L=([],1,0):=by unfold Sx.fS;rw[if_pos hbig]
   have HC:=hide hc;clear hc hbig;go_wp2
   go_ret3
   exact⟨by rw[HC.out];rfl,hB⟩
 · rw[if_neg hbig] at hpost;by_cases h0:(Sx.aQ L [] 0).2.1=0
   · rw[if_pos h0] at hpost;obtain⟨v2,q,rfl,hq,hat⟩:=hpost;have hc:Sx.fS L=(Sx.eH (Sx.aW (q.map (·.2))),0,0):=by unfold Sx.fS;rw[if_neg hbig,if_pos h0,hq]
     have hok:=Sx.sJ L [] 0 Sx.nN;have hsec:=Sx.YY (Sx.uF L [] 0 (by intro r hr;cases hr));rw[←hq] at hok hsec;have HI:=hide (V8 q w.heap.size v2 w1 hat hok hsec);have HC:=hide hc;have hsz:=hB.size;clear hc hbig h0 hq hok hsec hat;go_wp2_with fail
     refine HI.out.mono ?_;rintro e w2 ⟨rfl,hB2⟩;go_wp2
     go_ret3
     exact⟨by rw[HC.out];rfl,hB.trans (hB2.mono hsz)⟩
   · rw[if_neg h0] at hpost;subst hpost;have hc:Sx.fS L=([],(Sx.aQ L [] 0).2.1,(Sx.aQ L [] 0).2.2):=by unfold Sx.fS;rw[if_neg hbig,if_neg h0]
     have HC:=hide hc;generalize (Sx.aQ L [] 0).2.1=m at HC h0 ⊢;generalize (Sx.aQ L [] 0).2.2=n at HC ⊢;have hm:(m != 0)=true:=by simpa using h0
     clear hc hbig h0;go_wp2
     go_ret3
     exact⟨by rw[HC.out];rfl,hB⟩
end Go.Proofs.YtgohllfpceeboabGreatDoor
