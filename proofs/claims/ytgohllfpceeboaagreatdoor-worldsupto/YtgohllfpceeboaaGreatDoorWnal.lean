import Derived.Test.YtgohllfpceeboaaGreatDoorWnak
set_option maxRecDepth 100000
set_option maxHeartbeats 20000000
namespace Go.Proofs.YtgohllfpceeboaaGreatDoor
open Go.RowKit
attribute [local go_sem ↓] Go.wp_at_zero Go.wp_at_succ
theorem psm_left (l:List (Int × Int)) (g cap a b:Nat) (w:World) (hw:WaysAt w g l) (hl:l.length≤1000) (ha:a+1<b) (hb:b≤l.length) (hs:Stb l) (hr:Risen l (a+1) b) (am:Int) (ham:am=(a:Int)+1) :
 Calls Tryz.prog 267 #[.slice (some ⟨g,0,none⟩) l.length cap,.int .i64 a,.int .i64 am,.int .i64 b,.func (.func 224) #[] #[]] w fun e w'=>(∃ v,e=.returned v)∧(∃ r,Moved l r a b∧Risen r a b∧WaysAt w' g r)∧w.grownBy w' (some g):=by
 have HW:=hide hw;have HS:=hide hs;have HR:=hide hr;clear hw hs hr;have hd1:am-(a:Int)=1:=by omega
 have HAM:=hide ham;clear ham;go_enter Tryz.func267,Tryz.ntmps267;go_wp2
 go_loopw [10,11] (fun iv jv wr=>∃ I J:Nat,iv=.int .i64 I∧jv=.int .i64 J∧a+1≤I∧I≤J∧J≤b∧(a+1<I→(wy l (I-1)).1<(wy l a).1)∧(J<b→(wy l a).1≤(wy l J).1)∧WaysAt wr g l∧w.grownBy wr (some g)) (fun iv jv _=>(intOf jv-intOf iv).toNat)
 case atStart=>exact ⟨a+1,b,by rw [HAM.out];rfl,rfl,by omega,by omega,by omega,fun h=>absurd h (by omega),fun h=>absurd h (by omega),HW.out,⟨rfl,rfl,rfl,Nat.le_refl _,fun _ _ _=>rfl⟩⟩
 case round =>
  obtain ⟨I,J,rfl,rfl,hI,hIJ,hJ,hx,hy,hwr,hgr⟩:=hrel;have HX:=hide hx;have HY:=hide hy;have HWR:=hide hwr;have hglt:=hwr.1;clear hx hy;by_cases hlt:I<J
  · have hd2:decide ((I:Int)<(J:Int))=true:=by simp;omega
    obtain ⟨h,hh1,hh2⟩:∃ h:Nat,h*2≤I+J∧I+J≤h*2+1:=⟨(I+J) / 2,by omega,by omega⟩
    have hhl:h<l.length:=by omega
    have hal:a<l.length:=by omega
    go_wp2;have hq:((I:Int)+(J:Int)) / 2=(h:Int):=by omega
    rw [hq];have HQ:=hide hq;clear hq;obtain ⟨j1,j2⟩:=hwr.2.1 h hhl;obtain ⟨i1,i2⟩:=hwr.2.1 a hal;have q1:wy l h=l[h]'hhl:=by unfold wy;rw [List.getD_eq_getElem?_getD,List.getElem?_eq_getElem hhl,Option.getD_some]
    have q2:wy l a=l[a]'hal:=by unfold wy;rw [List.getD_eq_getElem?_getD,List.getElem?_eq_getElem hal,Option.getD_some]
    rw [←q1] at j1 j2;rw [←q2] at i1 i2;obtain ⟨x,hx⟩:∃ x,wy l h=x:=⟨_,rfl⟩
    obtain ⟨z,hz⟩:∃ z,wy l a=z:=⟨_,rfl⟩
    rw [hx] at j1 j2;rw [hz] at i1 i2;have HXX:=hide hx;have HZ:=hide hz;have hfz:=hwr.2.2;clear q1 q2 hx hz hwr;obtain ⟨x1,x2⟩:=x;obtain ⟨z1,z2⟩:=z;have e1:(0:Int)≤(h:Int):=by omega
    have e2:(h:Int)<(l.length:Int):=by omega
    have e3:(0:Int)≤(a:Int):=by omega
    have e4:(a:Int)<(l.length:Int):=by omega
    obtain ⟨v,hv⟩:∃ v,cmpI x1 z1=v:=⟨_,rfl⟩
    have HCM:=hide hv;clear hv;go_region_held3 (fun w'=>(w'.cell? ⟨g,h*2,none⟩=some (.int .i64 x1)∧w'.cell? ⟨g,h*2+1,none⟩=some (.int .i64 x2))∧(w'.cell? ⟨g,a*2,none⟩=some (.int .i64 z1)∧w'.cell? ⟨g,a*2+1,none⟩=some (.int .i64 z2))) (first | exact ⟨⟨(hB.cell (p:=⟨g,h*2,none⟩) hglt).trans j1,(hB.cell (p:=⟨g,h*2+1,none⟩) hglt).trans j2⟩,(hB.cell (p:=⟨g,a*2,none⟩) hglt).trans i1,(hB.cell (p:=⟨g,a*2+1,none⟩) hglt).trans i2⟩ | go_keep) ((go_at_call 224;refine (pcw_any x1 x2 z1 z2 _).mono ?_;rintro e w' ⟨rfl,hB⟩;rw [HCM.out]))
    have hB2:Below wr.heap.size wr w':=((Below.refl wr.heap.size wr).drew).trans hB;have hwm':=HWR.out.below hB2 hglt;have HWM':=hide hwm';have hgr3:=grown_trans hgr (grown_below (r:=some g) hB2 (Nat.le_refl _));clear hwm' hB hB2 j1 j2 i1 i2 hfz hgr HWR;by_cases hc:x1<z1
    · have hd3:decide (v<0)=true:=by rw [←HCM.out];unfold cmpI;rw [if_pos hc];rfl
      rw [hd3];go_wp2;exact ⟨⟨h+1,J,by go_num,rfl,by omega,by omega,by omega,fun _=>by rw [Nat.add_sub_cancel,HXX.out,HZ.out];exact hc,HY.out,HWM'.out,hgr3⟩,by simp [intOf];omega⟩
    · have hd3:decide (v<0)=false:=by rw [←HCM.out];unfold cmpI;rw [if_neg hc];split <;> simp
      rw [hd3];go_wp2;exact ⟨⟨I,h,rfl,rfl,by omega,by omega,by omega,HX.out,fun _=>by rw [HXX.out,HZ.out];exact Int.not_lt.mp hc,HWM'.out,hgr3⟩,by simp [intOf];omega⟩
  · have hd2:decide ((I:Int)<(J:Int))=false:=by simp;omega
    have hIJ':I=J:=by omega
    subst hIJ';have hm:=sym_one_left l a I b hI hJ hb HS.out HR.out HX.out HY.out;have HM:=hide hm;clear hm hwr;go_wp2
    go_loopw [13] (fun kv wr=>∃ K:Nat,kv=.int .i64 K∧a≤K∧K+1≤I∧WaysAt wr g (rotL l a (a+1) (K+1))∧w.grownBy wr (some g)) (fun kv _=>(I-intOf kv).toNat)
    case atStart=>exact ⟨a,rfl,by omega,by omega,by rw [rotL_none l a (a+1) (by omega)];exact HWR.out,hgr⟩
    case round =>
     obtain ⟨K,rfl,hK1,hK2,hwk,hgk⟩:=hrel;have HWK:=hide hwk;clear hgr HWR hglt;have hglt:=hwk.1;by_cases hlt2:K+1<I
     · have hd4:decide ((K:Int)<(I:Int)-1)=true:=by simp;omega
       have hst:=rotL_right l a K hK1 (by omega);have hml:=rotL_len l a (a+1) (K+1) (by omega) (by omega);obtain ⟨m,hmm⟩:∃ m,rotL l a (a+1) (K+1)=m:=⟨_,rfl⟩
       rw [hmm] at hwk hst hml;have HST:=hide hst;clear hst hmm;have hkl:K<m.length:=by omega
       have hkl2:K+1<m.length:=by omega
       obtain ⟨j1,j2⟩:=hwk.2.1 K hkl;obtain ⟨i1,i2⟩:=hwk.2.1 (K+1) hkl2;obtain ⟨x,hx⟩:∃ x,m[K]'hkl=x:=⟨_,rfl⟩
       obtain ⟨z,hz⟩:∃ z,m[K+1]'hkl2=z:=⟨_,rfl⟩
       rw [hx] at j1 j2;rw [hz] at i1 i2;obtain ⟨x1,x2⟩:=x;obtain ⟨z1,z2⟩:=z;have hfz:=hwk.2.2;have hset:=(hwk.set K hkl (z1,z2)).set (K+1) (by simp;omega) (x1,x2);have HSET:=hide hset;have hsw:(m.set K (z1,z2)).set (K+1) (x1,x2)=swapL m K (K+1):=by
        unfold swapL;rw [List.getD_eq_getElem?_getD,List.getElem?_eq_getElem hkl2,List.getD_eq_getElem?_getD,List.getElem?_eq_getElem hkl,Option.getD_some,Option.getD_some,hx,hz]
       have HSW:=hide hsw;clear hset hsw hx hz hwk;have hfo:Tryz.prog.follows Departure.mixedOrders=true:=by kernel_rfl
       obtain ⟨K',hk1,hk2⟩:∃ K':Nat,K'≤K+1∧K+1≤K':=⟨K+1,by omega,by omega⟩
       have hkk:K+1=K':=by omega
       rw [hkk] at i1 i2;have HKK:=hide hkk;clear hkk;have e1:(0:Int)≤(K:Int):=by omega
       have e2:(K:Int)<(l.length:Int):=by omega
       have e3:(0:Int)≤(K':Int):=by omega
       have e4:(K':Int)<(l.length:Int):=by omega
       have f3:(K:Int)+1=(K':Int):=by omega
       have f5:IntKind.i64.wrap (K':Int)=(K':Int):=by rw [IntWalk.i64_left];exact IntWalk.wrap64_in _ (by omega)
       go_wp2
       go_big_region_o
       all_goals go_wp2
       refine ⟨⟨K',rfl,by omega,by omega,?_,grown_drew (grown_set (grown_set (grown_set (grown_set hgk _ _) _ _) _ _) _ _)⟩,by simp [intOf];omega⟩;rw [←HKK.out,←HST.out,←HSW.out];have:=HSET.out;rw [HKK.out] at this ⊢;exact this
     · have hd4:decide ((K:Int)<(I:Int)-1)=false:=by simp;omega
       have hKI:K+1=I:=by omega
       rw [hKI] at HWK;clear hwk;have HKI:=hide hKI;clear hKI;go_wp2;refine bodyPost_ret (results_none rfl _ _ _) rfl ?_;exact ⟨⟨_,rfl⟩,⟨_,HM.out.1,HM.out.2,HWK.out⟩,hgk⟩
attribute [local go_sem ↓] Go.wp_at_zero Go.wp_at_succ
theorem psm_right (l:List (Int × Int)) (g cap a m:Nat) (w:World) (hw:WaysAt w g l) (hl:l.length≤1000) (ha:a+1<m) (hb:m<l.length) (hs:Stb l) (hr:Risen l a m) (am:Int) (ham:am=(m:Int)+1) :
 Calls Tryz.prog 267 #[.slice (some ⟨g,0,none⟩) l.length cap,.int .i64 a,.int .i64 m,.int .i64 am,.func (.func 224) #[] #[]] w fun e w'=>(∃ v,e=.returned v)∧(∃ r,Moved l r a (m+1)∧Risen r a (m+1)∧WaysAt w' g r)∧w.grownBy w' (some g):=by
 have HW:=hide hw;have HS:=hide hs;have HR:=hide hr;clear hw hs hr;have hd0:((m:Int)-(a:Int) == 1)=false:=by simp;omega
 have hd1:am-(m:Int)=1:=by omega
 have HAM:=hide ham;clear ham;go_enter Tryz.func267,Tryz.ntmps267;go_wp2
 go_loopw [14,15] (fun iv jv wr=>∃ I J:Nat,iv=.int .i64 I∧jv=.int .i64 J∧a≤I∧I≤J∧J≤m∧(J<m→(wy l m).1<(wy l J).1)∧(a<I→(wy l (I-1)).1≤(wy l m).1)∧WaysAt wr g l∧w.grownBy wr (some g)) (fun iv jv _=>(intOf jv-intOf iv).toNat)
 case atStart=>exact ⟨a,m,rfl,rfl,by omega,by omega,by omega,fun h=>absurd h (by omega),fun h=>absurd h (by omega),HW.out,⟨rfl,rfl,rfl,Nat.le_refl _,fun _ _ _=>rfl⟩⟩
 case round =>
  obtain ⟨I,J,rfl,rfl,hI,hIJ,hJ,hx,hy,hwr,hgr⟩:=hrel;have HX:=hide hx;have HY:=hide hy;have HWR:=hide hwr;have hglt:=hwr.1;clear hx hy;by_cases hlt:I<J
  · have hd2:decide ((I:Int)<(J:Int))=true:=by simp;omega
    obtain ⟨h,hh1,hh2⟩:∃ h:Nat,h*2≤I+J∧I+J≤h*2+1:=⟨(I+J) / 2,by omega,by omega⟩
    have hhl:h<l.length:=by omega
    go_wp2;have hq:((I:Int)+(J:Int)) / 2=(h:Int):=by omega
    rw [hq];have HQ:=hide hq;clear hq;obtain ⟨j1,j2⟩:=hwr.2.1 m hb;obtain ⟨i1,i2⟩:=hwr.2.1 h hhl;have q1:wy l m=l[m]'hb:=by unfold wy;rw [List.getD_eq_getElem?_getD,List.getElem?_eq_getElem hb,Option.getD_some]
    have q2:wy l h=l[h]'hhl:=by unfold wy;rw [List.getD_eq_getElem?_getD,List.getElem?_eq_getElem hhl,Option.getD_some]
    rw [←q1] at j1 j2;rw [←q2] at i1 i2;obtain ⟨x,hx⟩:∃ x,wy l m=x:=⟨_,rfl⟩
    obtain ⟨z,hz⟩:∃ z,wy l h=z:=⟨_,rfl⟩
    rw [hx] at j1 j2;rw [hz] at i1 i2;have HXX:=hide hx;have HZ:=hide hz;have hfz:=hwr.2.2;clear q1 q2 hx hz hwr;obtain ⟨x1,x2⟩:=x;obtain ⟨z1,z2⟩:=z;have e1:(0:Int)≤(h:Int):=by omega
    have e2:(h:Int)<(l.length:Int):=by omega
    have e3:(0:Int)≤(m:Int):=by omega
    have e4:(m:Int)<(l.length:Int):=by omega
    obtain ⟨v,hv⟩:∃ v,cmpI x1 z1=v:=⟨_,rfl⟩
    have HCM:=hide hv;clear hv;go_region_held3 (fun w'=>(w'.cell? ⟨g,m*2,none⟩=some (.int .i64 x1)∧w'.cell? ⟨g,m*2+1,none⟩=some (.int .i64 x2))∧(w'.cell? ⟨g,h*2,none⟩=some (.int .i64 z1)∧w'.cell? ⟨g,h*2+1,none⟩=some (.int .i64 z2))) (first | exact ⟨⟨(hB.cell (p:=⟨g,m*2,none⟩) hglt).trans j1,(hB.cell (p:=⟨g,m*2+1,none⟩) hglt).trans j2⟩,(hB.cell (p:=⟨g,h*2,none⟩) hglt).trans i1,(hB.cell (p:=⟨g,h*2+1,none⟩) hglt).trans i2⟩ | go_keep) ((go_at_call 224;refine (pcw_any x1 x2 z1 z2 _).mono ?_;rintro e w' ⟨rfl,hB⟩;rw [HCM.out]))
    have hB2:Below wr.heap.size wr w':=((Below.refl wr.heap.size wr).drew).trans hB;have hwm':=HWR.out.below hB2 hglt;have HWM':=hide hwm';have hgr3:=grown_trans hgr (grown_below (r:=some g) hB2 (Nat.le_refl _));clear hwm' hB hB2 j1 j2 i1 i2 hfz hgr HWR;by_cases hc:x1<z1
    · have hd3:decide (v<0)=true:=by rw [←HCM.out];unfold cmpI;rw [if_pos hc];rfl
      rw [hd3];go_wp2;exact ⟨⟨I,h,rfl,rfl,by omega,by omega,by omega,fun _=>by rw [HXX.out,HZ.out];exact hc,HY.out,HWM'.out,hgr3⟩,by simp [intOf];omega⟩
    · have hd3:decide (v<0)=false:=by rw [←HCM.out];unfold cmpI;rw [if_neg hc];split <;> simp
      rw [hd3];go_wp2;exact ⟨⟨h+1,J,by go_num,rfl,by omega,by omega,by omega,HX.out,fun _=>by rw [Nat.add_sub_cancel,HXX.out,HZ.out];exact Int.not_lt.mp hc,HWM'.out,hgr3⟩,by simp [intOf];omega⟩
  · have hd2:decide ((I:Int)<(J:Int))=false:=by simp;omega
    have hIJ':I=J:=by omega
    subst hIJ';have hm:=sym_one_right l a I m hI hJ hb HS.out HR.out HX.out HY.out;have HM:=hide hm;clear hm hwr;go_wp2
    go_loopw [17] (fun kv wr=>∃ K:Nat,kv=.int .i64 K∧I≤K∧K≤m∧WaysAt wr g (rotL l K m (m+1))∧w.grownBy wr (some g)) (fun kv _=>(intOf kv).toNat)
    case atStart=>exact ⟨m,rfl,by omega,by omega,by rw [rotL_none' l m (m+1) (by omega)];exact HWR.out,hgr⟩
    case round =>
     obtain ⟨K,rfl,hK1,hK2,hwk,hgk⟩:=hrel;have HWK:=hide hwk;clear hgr HWR hglt;have hglt:=hwk.1;by_cases hlt2:I<K
     · have hd4:decide ((I:Int)<(K:Int))=true:=by simp;omega
       obtain ⟨p,hp1,hp2⟩:∃ p,p+1≤K∧K≤p+1:=⟨K-1,by omega,by omega⟩
       have hst:=rotL_left l p m (by omega) hb;rw [show p+1=K from by omega] at hst;have hml:=rotL_len l K m (m+1) (by omega) (by omega);obtain ⟨q,hmm⟩:∃ q,rotL l K m (m+1)=q:=⟨_,rfl⟩
       rw [hmm] at hwk hst hml;have HST:=hide hst;clear hst hmm;have hkl:K<q.length:=by omega
       have hpl:p<q.length:=by omega
       obtain ⟨j1,j2⟩:=hwk.2.1 K hkl;obtain ⟨i1,i2⟩:=hwk.2.1 p hpl;obtain ⟨x,hx⟩:∃ x,q[K]'hkl=x:=⟨_,rfl⟩
       obtain ⟨z,hz⟩:∃ z,q[p]'hpl=z:=⟨_,rfl⟩
       rw [hx] at j1 j2;rw [hz] at i1 i2;obtain ⟨x1,x2⟩:=x;obtain ⟨z1,z2⟩:=z;have hfz:=hwk.2.2;have hset:=(hwk.set K hkl (z1,z2)).set p (by simp;omega) (x1,x2);have HSET:=hide hset;have hsw:(q.set K (z1,z2)).set p (x1,x2)=swapL q K p:=by
        unfold swapL;rw [List.getD_eq_getElem?_getD,List.getElem?_eq_getElem hpl,List.getD_eq_getElem?_getD,List.getElem?_eq_getElem hkl,Option.getD_some,Option.getD_some,hx,hz]
       have HSW:=hide hsw;clear hset hsw hx hz hwk;have hfo:Tryz.prog.follows Departure.mixedOrders=true:=by kernel_rfl
       have e1:(0:Int)≤(p:Int):=by omega
       have e2:(p:Int)<(l.length:Int):=by omega
       have e3:(0:Int)≤(K:Int):=by omega
       have e4:(K:Int)<(l.length:Int):=by omega
       have f3:(K:Int)-1=(p:Int):=by omega
       have f5:IntKind.i64.wrap (p:Int)=(p:Int):=by rw [IntWalk.i64_left];exact IntWalk.wrap64_in _ (by omega)
       go_wp2
       go_big_region_o
       all_goals go_wp2
       refine ⟨⟨p,rfl,by omega,by omega,?_,grown_drew (grown_set (grown_set (grown_set (grown_set hgk _ _) _ _) _ _) _ _)⟩,by simp [intOf];omega⟩;rw [←HST.out,←HSW.out];exact HSET.out
     · have hd4:decide ((I:Int)<(K:Int))=false:=by simp;omega
       have hKI:K=I:=by omega
       have hwi:WaysAt wr g (rotL l I m (m+1)):=by rw [←hKI];exact HWK.out
       have HWI:=hide hwi;clear hwk hKI hwi;go_wp2;refine bodyPost_ret (results_none rfl _ _ _) rfl ?_;exact ⟨⟨_,rfl⟩,⟨_,HM.out.1,HM.out.2,HWI.out⟩,hgk⟩
attribute [local go_sem ↓] Go.wp_at_zero Go.wp_at_succ
theorem prot_cut (l:List (Int × Int)) (g cap s m e:Nat) (fv:Value) (w:World) (hw:WaysAt w g l) (hl:l.length≤1000) (h1:s<m) (h2:m<e) (h3:e≤l.length) :
 Calls Tryz.prog 274 #[.slice (some ⟨g,0,none⟩) l.length cap,.int .i64 s,.int .i64 m,.int .i64 e,fv] w fun ex w'=>(∃ v,ex=.returned v)∧WaysAt w' g (rotL l s m e)∧w.grownBy w' (some g):=by
 have hc:=cutL l s m e (by omega) (by omega);have n1:(l.take s).length=s:=by simp;omega
 have n2:((l.drop s).take (m-s)).length=m-s:=by simp;omega
 have n3:((l.drop m).take (e-m)).length=e-m:=by simp;omega
 exact prot_any (l.take s) ((l.drop s).take (m-s)) ((l.drop m).take (e-m)) (l.drop e) l.length g cap fv w (by rw [←hc];exact hw) (by rw [←hc]) hl (by omega) (by omega) s m e (by omega) (by omega) (by omega)
def SymSaid (l:List (Int × Int)) (g cap a m b:Nat) (w:World):Prop :=
 Calls Tryz.prog 267 #[.slice (some ⟨g,0,none⟩) l.length cap,.int .i64 a,.int .i64 m,.int .i64 b,.func (.func 224) #[] #[]] w fun e w'=>(∃ v,e=.returned v)∧(∃ r,Moved l r a b∧Risen r a b∧WaysAt w' g r)∧w.grownBy w' (some g)
theorem wy_at (l:List (Int × Int)) (h:Nat) (hh:h<l.length):wy l h=l[h]'hh:=by unfold wy;rw [List.getD_eq_getElem?_getD,List.getElem?_eq_getElem hh,Option.getD_some]
theorem three (X Y:Prop):(X∧Y∧(X=True)∧(Y=True))∨(¬ X∧(X=False))∨(X∧¬ Y∧(X=True)∧(Y=False)):=by
 by_cases hx:X <;> by_cases hy:Y <;> simp [hx,hy]
theorem risen_join {r:List (Int × Int)} {a i b:Nat} (h:¬ (a<i∧i<b)) (h1:a≤i) (h2:i≤b) (hl:Risen r a i) (hr:Risen r i b):Risen r a b:=by
 by_cases c:a<i
 · have e:i=b:=by omega
   rw [←e];exact hl
 · have e:i=a:=by omega
   rw [←e];exact hr
theorem risen_kept {r t:List (Int × Int)} {a m x y:Nat} (h:Moved r t a m) (hx:m≤x) (hr:Risen r x y):Risen t x y:=by
 intro i k i1 ik k1;show (wy t i).1≤(wy t k).1;rw [h.2.2.1 i (by omega),h.2.2.1 k (by omega)];exact hr i k i1 ik k1
theorem psm_gen (l:List (Int × Int)) (g cap a m b mid s0 r0:Nat) (w:World) (hw:WaysAt w g l) (hl:l.length≤1000) (ha:a+1<m) (hmb:m+1<b) (hb:b≤l.length) (hs:Stb l) (hr:Risen l a m) (hr2:Risen l m b)
 (hm1:mid*2≤a+b) (hm2:a+b≤mid*2+1) (hcase:(mid<m∧s0+b=mid+m∧r0=mid)∨(m≤mid∧s0=a∧r0=m))
 (IH:∀ (l:List (Int × Int)) (a' m' b':Nat) (w:World),b'-a'<b-a→WaysAt w g l→l.length≤1000→a'<m'→m'<b'→b'≤l.length→Stb l→Risen l a' m'→Risen l m' b'→SymSaid l g cap a' m' b' w) :
 SymSaid l g cap a m b w:=by
 unfold SymSaid;have HW:=hide hw;have HS:=hide hs;have HR:=hide hr;have HR2:=hide hr2;have HIH:=hide IH;clear hw hs hr hr2 IH;have hd0:((m:Int)-(a:Int) == 1)=false:=by simp;omega
 have hd1:((b:Int)-(m:Int) == 1)=false:=by simp;omega
 have hdm:((a:Int)+(b:Int)) / 2=(mid:Int):=by omega
 go_enter Tryz.func267,Tryz.ntmps267;rcases hcase with ⟨c1,c2,c3⟩ | ⟨c1,c2,c3⟩
 all_goals first | (have hd3:decide ((mid:Int)<(m:Int))=true:=by simp;omega) | (have hd3:decide ((mid:Int)<(m:Int))=false:=by simp;omega)
 all_goals first | (have hd4:(mid<m)=True:=by simp;omega) | (have hd4:(mid<m)=False:=by simp;omega)
 all_goals have C2:=hide c2
 all_goals have C3:=hide c3
 all_goals clear c2 c3
 all_goals go_wp2
 all_goals (
  go_loopw [20,21] (fun iv jv wr=>∃ I J:Nat,iv=.int .i64 I∧jv=.int .i64 J∧s0≤I∧I≤J∧J≤r0∧(J<r0→(wy l (mid+m-1-J)).1<(wy l J).1)∧(s0<I→(wy l (I-1)).1≤(wy l (mid+m-I)).1)∧WaysAt wr g l∧w.grownBy wr (some g)) (fun iv jv _=>(intOf jv-intOf iv).toNat)
  case atStart=>exact ⟨s0,r0,by have:=C2.out;first | (rw [this];rfl) | (congr 1;omega),by rw [C3.out],by omega,by have:=C2.out;have:=C3.out;omega,by omega,fun h=>absurd h (by omega),fun h=>absurd h (by omega),HW.out,⟨rfl,rfl,rfl,Nat.le_refl _,fun _ _ _=>rfl⟩⟩
  case round =>
   obtain ⟨I,J,rfl,rfl,hI,hIJ,hJ,hx,hy,hwr,hgr⟩:=hrel;have HX:=hide hx;have HY:=hide hy;have HWR:=hide hwr;have hglt:=hwr.1;clear hx hy;by_cases hlt:I<J
   · have hd2:decide ((I:Int)<(J:Int))=true:=by simp;omega
     obtain ⟨h,hh1,hh2⟩:∃ h:Nat,h*2≤I+J∧I+J≤h*2+1:=⟨(I+J) / 2,by omega,by omega⟩
     obtain ⟨q,hq1,hq2⟩:∃ q:Nat,q+h+1≤mid+m∧mid+m≤q+h+1:=⟨mid+m-1-h,by have:=C3.out;omega,by have:=C3.out;omega⟩
     have hhl:h<l.length:=by have:=C3.out;omega
     have hql:q<l.length:=by have:=C2.out;have:=C3.out;omega
     go_wp2;have hq:((I:Int)+(J:Int)) / 2=(h:Int):=by omega
     rw [hq];have HQ:=hide hq;clear hq;have f3:(mid:Int)+(m:Int)-1-(h:Int)=(q:Int):=by omega
     have f5:IntKind.i64.wrap (q:Int)=(q:Int):=by rw [IntWalk.i64_left];exact IntWalk.wrap64_in _ (by omega)
     have f6:IntKind.i64.wrap ((mid:Int)+(m:Int)-1-(h:Int))=(q:Int):=by rw [f3];exact f5
     obtain ⟨j1,j2⟩:=hwr.2.1 q hql;obtain ⟨i1,i2⟩:=hwr.2.1 h hhl;rw [←wy_at l q hql] at j1 j2;rw [←wy_at l h hhl] at i1 i2;obtain ⟨x,hx⟩:∃ x,wy l q=x:=⟨_,rfl⟩
     obtain ⟨z,hz⟩:∃ z,wy l h=z:=⟨_,rfl⟩
     rw [hx] at j1 j2;rw [hz] at i1 i2;have HXX:=hide hx;have HZ:=hide hz;have hfz:=hwr.2.2;clear hx hz hwr;obtain ⟨x1,x2⟩:=x;obtain ⟨z1,z2⟩:=z;have e1:(0:Int)≤(q:Int):=by omega
     have e2:(q:Int)<(l.length:Int):=by omega
     have e3:(0:Int)≤(h:Int):=by omega
     have e4:(h:Int)<(l.length:Int):=by omega
     obtain ⟨v,hv⟩:∃ v,cmpI x1 z1=v:=⟨_,rfl⟩
     have HCM:=hide hv;clear hv;go_region_held3 (fun w'=>(w'.cell? ⟨g,q*2,none⟩=some (.int .i64 x1)∧w'.cell? ⟨g,q*2+1,none⟩=some (.int .i64 x2))∧(w'.cell? ⟨g,h*2,none⟩=some (.int .i64 z1)∧w'.cell? ⟨g,h*2+1,none⟩=some (.int .i64 z2))) (first | exact ⟨⟨(hB.cell (p:=⟨g,q*2,none⟩) hglt).trans j1,(hB.cell (p:=⟨g,q*2+1,none⟩) hglt).trans j2⟩,(hB.cell (p:=⟨g,h*2,none⟩) hglt).trans i1,(hB.cell (p:=⟨g,h*2+1,none⟩) hglt).trans i2⟩ | go_keep) ((go_at_call 224;refine (pcw_any x1 x2 z1 z2 _).mono ?_;rintro e w' ⟨rfl,hB⟩;rw [HCM.out]))
     have hB2:Below wr.heap.size wr w':=((Below.refl wr.heap.size wr).drew).trans hB;have hwm':=HWR.out.below hB2 hglt;have HWM':=hide hwm';have hgr3:=grown_trans hgr (grown_below (r:=some g) hB2 (Nat.le_refl _));clear hwm' hB hB2 j1 j2 i1 i2 hfz hgr HWR;have hqe:mid+m-1-h=q:=by omega
     by_cases hc:x1<z1
     · have hd3:decide (v<0)=true:=by rw [←HCM.out];unfold cmpI;rw [if_pos hc];rfl
       rw [hd3];go_wp2;exact ⟨⟨I,h,rfl,rfl,by omega,by omega,by omega,fun _=>by rw [hqe,HXX.out,HZ.out];exact hc,HY.out,HWM'.out,hgr3⟩,by simp [intOf];omega⟩
     · have hd3:decide (v<0)=false:=by rw [←HCM.out];unfold cmpI;rw [if_neg hc];split <;> simp
       rw [hd3];go_wp2;exact ⟨⟨h+1,J,by go_num,rfl,by omega,by omega,by omega,HX.out,fun _=>by rw [Nat.add_sub_cancel,show mid+m-(h+1)=q from by omega,HXX.out,HZ.out];exact Int.not_lt.mp hc,HWM'.out,hgr3⟩,by simp [intOf];omega⟩
   · have hd2:decide ((I:Int)<(J:Int))=false:=by simp;omega
     have hIJ':I=J:=by omega
     subst hIJ';obtain ⟨en,he1,he2⟩:∃ en:Nat,en+I≤mid+m∧mid+m≤en+I:=⟨mid+m-I,by have:=C3.out;omega,by have:=C3.out;omega⟩
     have b0:a≤I:=by have:=C2.out;omega
     have b1:I≤m:=by have:=C3.out;omega
     have b2:I≤mid:=by have:=C3.out;omega
     have b3:en≤b:=by have:=C2.out;omega
     obtain ⟨r,hr0,hmv,hq1,hq2,hq3,hq4,hcr⟩:=sym_mid l a m b mid I en (by omega) hb HS.out HR.out HR2.out (by omega) (by have:=C2.out;omega) b1 b2 b3
      (fun z1 z2=>by have:=HX.out (by have:=C3.out;omega);rw [show mid+m-1-I=en-1 from by omega] at this;exact this)
      (fun z1 z2=>by have:=HY.out (by have:=C2.out;omega);rw [show mid+m-I=en from by omega] at this;exact this)
     have hrl:r.length=l.length:=hmv.1.length_eq;have HMV:=hide hmv;have HCR:=hide hcr;have HQ1:=hide hq1;have HQ2:=hide hq2;have HQ3:=hide hq3;have HQ4:=hide hq4;have HR0:=hide hr0;have HRL:=hide hrl;clear hmv hcr hq1 hq2 hq3 hq4 hr0 hrl hwr HX HY;have f3:(mid:Int)+(m:Int)-(I:Int)=(en:Int):=by omega
     rcases three (I<m) (m<en) with ⟨n1,n2,n3,n4⟩ | ⟨n1,n3⟩ | ⟨n1,n2,n3,n4⟩
     · first
       | (exfalso;omega)
       | (have HC:=hide (prot_cut l g cap I m en (.func (.func 224) #[] #[]) wr HWR.out hl n1 n2 (by omega))
          go_wp2_with fail
          refine HC.out.mono ?_;rintro e w1 ⟨⟨v1,rfl⟩,hw1,hg0⟩;have HW1:Hid (WaysAt w1 g r):=hide (by rw [HR0.out,if_pos ⟨n1,n2⟩];exact hw1);have hg1:=grown_trans hgr hg0;clear hw1 hg0 hgr HC HWR hglt;rcases three (a<I) (I<mid) with ⟨o1,o2,o3,o4⟩ | ⟨o1,o3⟩ | ⟨o1,o2,o3,o4⟩
          · first
            | (exfalso;omega)
            | (have hc2:=HIH.out r a I mid w1 (by omega) HW1.out (by rw [HRL.out];exact hl) o1 o2 (by rw [HRL.out];omega) HMV.out.2.1 HQ1.out HQ2.out
               unfold SymSaid at hc2;rw [HRL.out] at hc2;have HC2:=hide hc2;clear hc2;go_wp2_with fail
               refine HC2.out.mono ?_;rintro e w2 ⟨⟨v2,rfl⟩,⟨t,ht1,ht2,ht3⟩,hg2⟩;have HT1:=hide ht1;have HT2:=hide ht2;have HT3:=hide ht3;have HTL:Hid (t.length=l.length):=hide (by rw [ht1.1.length_eq];exact HRL.out);have hgt:=grown_trans hg1 hg2;clear ht1 ht2 ht3 hg2 hg1 HC2 HW1;rcases three (mid<en) (en<b) with ⟨p1,p2,p3,p4⟩ | ⟨p1,p3⟩ | ⟨p1,p2,p3,p4⟩
               · first
                 | (exfalso;omega)
                 | (have hc3:=HIH.out t mid en b w2 (by omega) HT3.out (by rw [HTL.out];exact hl) p1 p2 (by rw [HTL.out];exact hb) HT1.out.2.1 (risen_kept HT1.out (by omega) HQ3.out) (risen_kept HT1.out (by omega) HQ4.out)
                    unfold SymSaid at hc3;rw [HTL.out] at hc3;have HC3:=hide hc3;clear hc3;go_wp2_with fail
                    refine HC3.out.mono ?_;rintro e w3 ⟨⟨v3,rfl⟩,⟨u,hu1,hu2,hu3⟩,hg3⟩;have hend:=sym_end HMV.out HCR.out (by omega) (by omega) HT1.out HT2.out hu1 hu2;have HEND:=hide hend;have HU3:=hide hu3;have hgl:=grown_trans hgt hg3;clear hend hu1 hu2 hu3 HC3;go_wp2;go_end0;exact ⟨⟨_,rfl⟩,⟨u,HEND.out.1,HEND.out.2,HU3.out⟩,hgl⟩)
               · first
                 | (exfalso;omega)
                 | (have hend:=sym_end HMV.out HCR.out (by omega) (by omega) HT1.out HT2.out (.refl HT1.out.2.1 mid b) (risen_join (by omega) (by omega) (by omega) (risen_kept HT1.out (by omega) HQ3.out) (risen_kept HT1.out (by omega) HQ4.out))
                    have HEND:=hide hend;clear hend;go_wp2;go_end0;exact ⟨⟨_,rfl⟩,⟨t,HEND.out.1,HEND.out.2,HT3.out⟩,hgt⟩)
               · first
                 | (exfalso;omega)
                 | (have hend:=sym_end HMV.out HCR.out (by omega) (by omega) HT1.out HT2.out (.refl HT1.out.2.1 mid b) (risen_join (by omega) (by omega) (by omega) (risen_kept HT1.out (by omega) HQ3.out) (risen_kept HT1.out (by omega) HQ4.out))
                    have HEND:=hide hend;clear hend;go_wp2;go_end0;exact ⟨⟨_,rfl⟩,⟨t,HEND.out.1,HEND.out.2,HT3.out⟩,hgt⟩))
          · first
            | (exfalso;omega)
            | (obtain ⟨t,htr⟩:∃ t,r=t:=⟨_,rfl⟩
               obtain ⟨w2,hww⟩:∃ w2,w1=w2:=⟨_,rfl⟩
               have HT1:Hid (Moved r t a mid):=hide (by rw [←htr];exact .refl HMV.out.2.1 a mid);have HT2:Hid (Risen t a mid):=hide (by rw [←htr];exact risen_join (by omega) (by omega) (by omega) HQ1.out HQ2.out);have HT3:Hid (WaysAt w2 g t):=hide (by rw [←htr,←hww];exact HW1.out);have HTL:Hid (t.length=l.length):=hide (by rw [←htr];exact HRL.out);have hgt:w.grownBy w2 (some g):=by rw [←hww];exact hg1
               rw [hww];clear htr hww hg1 HW1;rcases three (mid<en) (en<b) with ⟨p1,p2,p3,p4⟩ | ⟨p1,p3⟩ | ⟨p1,p2,p3,p4⟩
               · first
                 | (exfalso;omega)
                 | (have hc3:=HIH.out t mid en b w2 (by omega) HT3.out (by rw [HTL.out];exact hl) p1 p2 (by rw [HTL.out];exact hb) HT1.out.2.1 (risen_kept HT1.out (by omega) HQ3.out) (risen_kept HT1.out (by omega) HQ4.out)
                    unfold SymSaid at hc3;rw [HTL.out] at hc3;have HC3:=hide hc3;clear hc3;go_wp2_with fail
                    refine HC3.out.mono ?_;rintro e w3 ⟨⟨v3,rfl⟩,⟨u,hu1,hu2,hu3⟩,hg3⟩;have hend:=sym_end HMV.out HCR.out (by omega) (by omega) HT1.out HT2.out hu1 hu2;have HEND:=hide hend;have HU3:=hide hu3;have hgl:=grown_trans hgt hg3;clear hend hu1 hu2 hu3 HC3;go_wp2;go_end0;exact ⟨⟨_,rfl⟩,⟨u,HEND.out.1,HEND.out.2,HU3.out⟩,hgl⟩)
               · first
                 | (exfalso;omega)
                 | (have hend:=sym_end HMV.out HCR.out (by omega) (by omega) HT1.out HT2.out (.refl HT1.out.2.1 mid b) (risen_join (by omega) (by omega) (by omega) (risen_kept HT1.out (by omega) HQ3.out) (risen_kept HT1.out (by omega) HQ4.out))
                    have HEND:=hide hend;clear hend;go_wp2;go_end0;exact ⟨⟨_,rfl⟩,⟨t,HEND.out.1,HEND.out.2,HT3.out⟩,hgt⟩)
               · first
                 | (exfalso;omega)
                 | (have hend:=sym_end HMV.out HCR.out (by omega) (by omega) HT1.out HT2.out (.refl HT1.out.2.1 mid b) (risen_join (by omega) (by omega) (by omega) (risen_kept HT1.out (by omega) HQ3.out) (risen_kept HT1.out (by omega) HQ4.out))
                    have HEND:=hide hend;clear hend;go_wp2;go_end0;exact ⟨⟨_,rfl⟩,⟨t,HEND.out.1,HEND.out.2,HT3.out⟩,hgt⟩))
          · first
            | (exfalso;omega)
            | (obtain ⟨t,htr⟩:∃ t,r=t:=⟨_,rfl⟩
               obtain ⟨w2,hww⟩:∃ w2,w1=w2:=⟨_,rfl⟩
               have HT1:Hid (Moved r t a mid):=hide (by rw [←htr];exact .refl HMV.out.2.1 a mid);have HT2:Hid (Risen t a mid):=hide (by rw [←htr];exact risen_join (by omega) (by omega) (by omega) HQ1.out HQ2.out);have HT3:Hid (WaysAt w2 g t):=hide (by rw [←htr,←hww];exact HW1.out);have HTL:Hid (t.length=l.length):=hide (by rw [←htr];exact HRL.out);have hgt:w.grownBy w2 (some g):=by rw [←hww];exact hg1
               rw [hww];clear htr hww hg1 HW1;rcases three (mid<en) (en<b) with ⟨p1,p2,p3,p4⟩ | ⟨p1,p3⟩ | ⟨p1,p2,p3,p4⟩
               · first
                 | (exfalso;omega)
                 | (have hc3:=HIH.out t mid en b w2 (by omega) HT3.out (by rw [HTL.out];exact hl) p1 p2 (by rw [HTL.out];exact hb) HT1.out.2.1 (risen_kept HT1.out (by omega) HQ3.out) (risen_kept HT1.out (by omega) HQ4.out)
                    unfold SymSaid at hc3;rw [HTL.out] at hc3;have HC3:=hide hc3;clear hc3;go_wp2_with fail
                    refine HC3.out.mono ?_;rintro e w3 ⟨⟨v3,rfl⟩,⟨u,hu1,hu2,hu3⟩,hg3⟩;have hend:=sym_end HMV.out HCR.out (by omega) (by omega) HT1.out HT2.out hu1 hu2;have HEND:=hide hend;have HU3:=hide hu3;have hgl:=grown_trans hgt hg3;clear hend hu1 hu2 hu3 HC3;go_wp2;go_end0;exact ⟨⟨_,rfl⟩,⟨u,HEND.out.1,HEND.out.2,HU3.out⟩,hgl⟩)
               · first
                 | (exfalso;omega)
                 | (have hend:=sym_end HMV.out HCR.out (by omega) (by omega) HT1.out HT2.out (.refl HT1.out.2.1 mid b) (risen_join (by omega) (by omega) (by omega) (risen_kept HT1.out (by omega) HQ3.out) (risen_kept HT1.out (by omega) HQ4.out))
                    have HEND:=hide hend;clear hend;go_wp2;go_end0;exact ⟨⟨_,rfl⟩,⟨t,HEND.out.1,HEND.out.2,HT3.out⟩,hgt⟩)
               · first
                 | (exfalso;omega)
                 | (have hend:=sym_end HMV.out HCR.out (by omega) (by omega) HT1.out HT2.out (.refl HT1.out.2.1 mid b) (risen_join (by omega) (by omega) (by omega) (risen_kept HT1.out (by omega) HQ3.out) (risen_kept HT1.out (by omega) HQ4.out))
                    have HEND:=hide hend;clear hend;go_wp2;go_end0;exact ⟨⟨_,rfl⟩,⟨t,HEND.out.1,HEND.out.2,HT3.out⟩,hgt⟩)))
     · first
       | (exfalso;omega)
       | (have HW1:Hid (WaysAt wr g r):=hide (by rw [HR0.out,if_neg (by omega)];exact HWR.out)
          obtain ⟨w1,hww1⟩:∃ w1,wr=w1:=⟨_,rfl⟩
          rw [hww1] at HW1 hgr ⊢;have hg1:=hgr;clear hww1 hgr HWR hglt;rcases three (a<I) (I<mid) with ⟨o1,o2,o3,o4⟩ | ⟨o1,o3⟩ | ⟨o1,o2,o3,o4⟩
          · first
            | (exfalso;omega)
            | (have hc2:=HIH.out r a I mid w1 (by omega) HW1.out (by rw [HRL.out];exact hl) o1 o2 (by rw [HRL.out];omega) HMV.out.2.1 HQ1.out HQ2.out
               unfold SymSaid at hc2;rw [HRL.out] at hc2;have HC2:=hide hc2;clear hc2;go_wp2_with fail
               refine HC2.out.mono ?_;rintro e w2 ⟨⟨v2,rfl⟩,⟨t,ht1,ht2,ht3⟩,hg2⟩;have HT1:=hide ht1;have HT2:=hide ht2;have HT3:=hide ht3;have HTL:Hid (t.length=l.length):=hide (by rw [ht1.1.length_eq];exact HRL.out);have hgt:=grown_trans hg1 hg2;clear ht1 ht2 ht3 hg2 hg1 HC2 HW1;rcases three (mid<en) (en<b) with ⟨p1,p2,p3,p4⟩ | ⟨p1,p3⟩ | ⟨p1,p2,p3,p4⟩
               · first
                 | (exfalso;omega)
                 | (have hc3:=HIH.out t mid en b w2 (by omega) HT3.out (by rw [HTL.out];exact hl) p1 p2 (by rw [HTL.out];exact hb) HT1.out.2.1 (risen_kept HT1.out (by omega) HQ3.out) (risen_kept HT1.out (by omega) HQ4.out)
                    unfold SymSaid at hc3;rw [HTL.out] at hc3;have HC3:=hide hc3;clear hc3;go_wp2_with fail
                    refine HC3.out.mono ?_;rintro e w3 ⟨⟨v3,rfl⟩,⟨u,hu1,hu2,hu3⟩,hg3⟩;have hend:=sym_end HMV.out HCR.out (by omega) (by omega) HT1.out HT2.out hu1 hu2;have HEND:=hide hend;have HU3:=hide hu3;have hgl:=grown_trans hgt hg3;clear hend hu1 hu2 hu3 HC3;go_wp2;go_end0;exact ⟨⟨_,rfl⟩,⟨u,HEND.out.1,HEND.out.2,HU3.out⟩,hgl⟩)
               · first
                 | (exfalso;omega)
                 | (have hend:=sym_end HMV.out HCR.out (by omega) (by omega) HT1.out HT2.out (.refl HT1.out.2.1 mid b) (risen_join (by omega) (by omega) (by omega) (risen_kept HT1.out (by omega) HQ3.out) (risen_kept HT1.out (by omega) HQ4.out))
                    have HEND:=hide hend;clear hend;go_wp2;go_end0;exact ⟨⟨_,rfl⟩,⟨t,HEND.out.1,HEND.out.2,HT3.out⟩,hgt⟩)
               · first
                 | (exfalso;omega)
                 | (have hend:=sym_end HMV.out HCR.out (by omega) (by omega) HT1.out HT2.out (.refl HT1.out.2.1 mid b) (risen_join (by omega) (by omega) (by omega) (risen_kept HT1.out (by omega) HQ3.out) (risen_kept HT1.out (by omega) HQ4.out))
                    have HEND:=hide hend;clear hend;go_wp2;go_end0;exact ⟨⟨_,rfl⟩,⟨t,HEND.out.1,HEND.out.2,HT3.out⟩,hgt⟩))
          · first
            | (exfalso;omega)
            | (obtain ⟨t,htr⟩:∃ t,r=t:=⟨_,rfl⟩
               obtain ⟨w2,hww⟩:∃ w2,w1=w2:=⟨_,rfl⟩
               have HT1:Hid (Moved r t a mid):=hide (by rw [←htr];exact .refl HMV.out.2.1 a mid);have HT2:Hid (Risen t a mid):=hide (by rw [←htr];exact risen_join (by omega) (by omega) (by omega) HQ1.out HQ2.out);have HT3:Hid (WaysAt w2 g t):=hide (by rw [←htr,←hww];exact HW1.out);have HTL:Hid (t.length=l.length):=hide (by rw [←htr];exact HRL.out);have hgt:w.grownBy w2 (some g):=by rw [←hww];exact hg1
               rw [hww];clear htr hww hg1 HW1;rcases three (mid<en) (en<b) with ⟨p1,p2,p3,p4⟩ | ⟨p1,p3⟩ | ⟨p1,p2,p3,p4⟩
               · first
                 | (exfalso;omega)
                 | (have hc3:=HIH.out t mid en b w2 (by omega) HT3.out (by rw [HTL.out];exact hl) p1 p2 (by rw [HTL.out];exact hb) HT1.out.2.1 (risen_kept HT1.out (by omega) HQ3.out) (risen_kept HT1.out (by omega) HQ4.out)
                    unfold SymSaid at hc3;rw [HTL.out] at hc3;have HC3:=hide hc3;clear hc3;go_wp2_with fail
                    refine HC3.out.mono ?_;rintro e w3 ⟨⟨v3,rfl⟩,⟨u,hu1,hu2,hu3⟩,hg3⟩;have hend:=sym_end HMV.out HCR.out (by omega) (by omega) HT1.out HT2.out hu1 hu2;have HEND:=hide hend;have HU3:=hide hu3;have hgl:=grown_trans hgt hg3;clear hend hu1 hu2 hu3 HC3;go_wp2;go_end0;exact ⟨⟨_,rfl⟩,⟨u,HEND.out.1,HEND.out.2,HU3.out⟩,hgl⟩)
               · first
                 | (exfalso;omega)
                 | (have hend:=sym_end HMV.out HCR.out (by omega) (by omega) HT1.out HT2.out (.refl HT1.out.2.1 mid b) (risen_join (by omega) (by omega) (by omega) (risen_kept HT1.out (by omega) HQ3.out) (risen_kept HT1.out (by omega) HQ4.out))
                    have HEND:=hide hend;clear hend;go_wp2;go_end0;exact ⟨⟨_,rfl⟩,⟨t,HEND.out.1,HEND.out.2,HT3.out⟩,hgt⟩)
               · first
                 | (exfalso;omega)
                 | (have hend:=sym_end HMV.out HCR.out (by omega) (by omega) HT1.out HT2.out (.refl HT1.out.2.1 mid b) (risen_join (by omega) (by omega) (by omega) (risen_kept HT1.out (by omega) HQ3.out) (risen_kept HT1.out (by omega) HQ4.out))
                    have HEND:=hide hend;clear hend;go_wp2;go_end0;exact ⟨⟨_,rfl⟩,⟨t,HEND.out.1,HEND.out.2,HT3.out⟩,hgt⟩))
          · first
            | (exfalso;omega)
            | (obtain ⟨t,htr⟩:∃ t,r=t:=⟨_,rfl⟩
               obtain ⟨w2,hww⟩:∃ w2,w1=w2:=⟨_,rfl⟩
               have HT1:Hid (Moved r t a mid):=hide (by rw [←htr];exact .refl HMV.out.2.1 a mid);have HT2:Hid (Risen t a mid):=hide (by rw [←htr];exact risen_join (by omega) (by omega) (by omega) HQ1.out HQ2.out);have HT3:Hid (WaysAt w2 g t):=hide (by rw [←htr,←hww];exact HW1.out);have HTL:Hid (t.length=l.length):=hide (by rw [←htr];exact HRL.out);have hgt:w.grownBy w2 (some g):=by rw [←hww];exact hg1
               rw [hww];clear htr hww hg1 HW1;rcases three (mid<en) (en<b) with ⟨p1,p2,p3,p4⟩ | ⟨p1,p3⟩ | ⟨p1,p2,p3,p4⟩
               · first
                 | (exfalso;omega)
                 | (have hc3:=HIH.out t mid en b w2 (by omega) HT3.out (by rw [HTL.out];exact hl) p1 p2 (by rw [HTL.out];exact hb) HT1.out.2.1 (risen_kept HT1.out (by omega) HQ3.out) (risen_kept HT1.out (by omega) HQ4.out)
                    unfold SymSaid at hc3;rw [HTL.out] at hc3;have HC3:=hide hc3;clear hc3;go_wp2_with fail
                    refine HC3.out.mono ?_;rintro e w3 ⟨⟨v3,rfl⟩,⟨u,hu1,hu2,hu3⟩,hg3⟩;have hend:=sym_end HMV.out HCR.out (by omega) (by omega) HT1.out HT2.out hu1 hu2;have HEND:=hide hend;have HU3:=hide hu3;have hgl:=grown_trans hgt hg3;clear hend hu1 hu2 hu3 HC3;go_wp2;go_end0;exact ⟨⟨_,rfl⟩,⟨u,HEND.out.1,HEND.out.2,HU3.out⟩,hgl⟩)
               · first
                 | (exfalso;omega)
                 | (have hend:=sym_end HMV.out HCR.out (by omega) (by omega) HT1.out HT2.out (.refl HT1.out.2.1 mid b) (risen_join (by omega) (by omega) (by omega) (risen_kept HT1.out (by omega) HQ3.out) (risen_kept HT1.out (by omega) HQ4.out))
                    have HEND:=hide hend;clear hend;go_wp2;go_end0;exact ⟨⟨_,rfl⟩,⟨t,HEND.out.1,HEND.out.2,HT3.out⟩,hgt⟩)
               · first
                 | (exfalso;omega)
                 | (have hend:=sym_end HMV.out HCR.out (by omega) (by omega) HT1.out HT2.out (.refl HT1.out.2.1 mid b) (risen_join (by omega) (by omega) (by omega) (risen_kept HT1.out (by omega) HQ3.out) (risen_kept HT1.out (by omega) HQ4.out))
                    have HEND:=hide hend;clear hend;go_wp2;go_end0;exact ⟨⟨_,rfl⟩,⟨t,HEND.out.1,HEND.out.2,HT3.out⟩,hgt⟩)))
     · first
       | (exfalso;omega)
       | (have HW1:Hid (WaysAt wr g r):=hide (by rw [HR0.out,if_neg (by omega)];exact HWR.out)
          obtain ⟨w1,hww1⟩:∃ w1,wr=w1:=⟨_,rfl⟩
          rw [hww1] at HW1 hgr ⊢;have hg1:=hgr;clear hww1 hgr HWR hglt;rcases three (a<I) (I<mid) with ⟨o1,o2,o3,o4⟩ | ⟨o1,o3⟩ | ⟨o1,o2,o3,o4⟩
          · first
            | (exfalso;omega)
            | (have hc2:=HIH.out r a I mid w1 (by omega) HW1.out (by rw [HRL.out];exact hl) o1 o2 (by rw [HRL.out];omega) HMV.out.2.1 HQ1.out HQ2.out
               unfold SymSaid at hc2;rw [HRL.out] at hc2;have HC2:=hide hc2;clear hc2;go_wp2_with fail
               refine HC2.out.mono ?_;rintro e w2 ⟨⟨v2,rfl⟩,⟨t,ht1,ht2,ht3⟩,hg2⟩;have HT1:=hide ht1;have HT2:=hide ht2;have HT3:=hide ht3;have HTL:Hid (t.length=l.length):=hide (by rw [ht1.1.length_eq];exact HRL.out);have hgt:=grown_trans hg1 hg2;clear ht1 ht2 ht3 hg2 hg1 HC2 HW1;rcases three (mid<en) (en<b) with ⟨p1,p2,p3,p4⟩ | ⟨p1,p3⟩ | ⟨p1,p2,p3,p4⟩
               · first
                 | (exfalso;omega)
                 | (have hc3:=HIH.out t mid en b w2 (by omega) HT3.out (by rw [HTL.out];exact hl) p1 p2 (by rw [HTL.out];exact hb) HT1.out.2.1 (risen_kept HT1.out (by omega) HQ3.out) (risen_kept HT1.out (by omega) HQ4.out)
                    unfold SymSaid at hc3;rw [HTL.out] at hc3;have HC3:=hide hc3;clear hc3;go_wp2_with fail
                    refine HC3.out.mono ?_;rintro e w3 ⟨⟨v3,rfl⟩,⟨u,hu1,hu2,hu3⟩,hg3⟩;have hend:=sym_end HMV.out HCR.out (by omega) (by omega) HT1.out HT2.out hu1 hu2;have HEND:=hide hend;have HU3:=hide hu3;have hgl:=grown_trans hgt hg3;clear hend hu1 hu2 hu3 HC3;go_wp2;go_end0;exact ⟨⟨_,rfl⟩,⟨u,HEND.out.1,HEND.out.2,HU3.out⟩,hgl⟩)
               · first
                 | (exfalso;omega)
                 | (have hend:=sym_end HMV.out HCR.out (by omega) (by omega) HT1.out HT2.out (.refl HT1.out.2.1 mid b) (risen_join (by omega) (by omega) (by omega) (risen_kept HT1.out (by omega) HQ3.out) (risen_kept HT1.out (by omega) HQ4.out))
                    have HEND:=hide hend;clear hend;go_wp2;go_end0;exact ⟨⟨_,rfl⟩,⟨t,HEND.out.1,HEND.out.2,HT3.out⟩,hgt⟩)
               · first
                 | (exfalso;omega)
                 | (have hend:=sym_end HMV.out HCR.out (by omega) (by omega) HT1.out HT2.out (.refl HT1.out.2.1 mid b) (risen_join (by omega) (by omega) (by omega) (risen_kept HT1.out (by omega) HQ3.out) (risen_kept HT1.out (by omega) HQ4.out))
                    have HEND:=hide hend;clear hend;go_wp2;go_end0;exact ⟨⟨_,rfl⟩,⟨t,HEND.out.1,HEND.out.2,HT3.out⟩,hgt⟩))
          · first
            | (exfalso;omega)
            | (obtain ⟨t,htr⟩:∃ t,r=t:=⟨_,rfl⟩
               obtain ⟨w2,hww⟩:∃ w2,w1=w2:=⟨_,rfl⟩
               have HT1:Hid (Moved r t a mid):=hide (by rw [←htr];exact .refl HMV.out.2.1 a mid);have HT2:Hid (Risen t a mid):=hide (by rw [←htr];exact risen_join (by omega) (by omega) (by omega) HQ1.out HQ2.out);have HT3:Hid (WaysAt w2 g t):=hide (by rw [←htr,←hww];exact HW1.out);have HTL:Hid (t.length=l.length):=hide (by rw [←htr];exact HRL.out);have hgt:w.grownBy w2 (some g):=by rw [←hww];exact hg1
               rw [hww];clear htr hww hg1 HW1;rcases three (mid<en) (en<b) with ⟨p1,p2,p3,p4⟩ | ⟨p1,p3⟩ | ⟨p1,p2,p3,p4⟩
               · first
                 | (exfalso;omega)
                 | (have hc3:=HIH.out t mid en b w2 (by omega) HT3.out (by rw [HTL.out];exact hl) p1 p2 (by rw [HTL.out];exact hb) HT1.out.2.1 (risen_kept HT1.out (by omega) HQ3.out) (risen_kept HT1.out (by omega) HQ4.out)
                    unfold SymSaid at hc3;rw [HTL.out] at hc3;have HC3:=hide hc3;clear hc3;go_wp2_with fail
                    refine HC3.out.mono ?_;rintro e w3 ⟨⟨v3,rfl⟩,⟨u,hu1,hu2,hu3⟩,hg3⟩;have hend:=sym_end HMV.out HCR.out (by omega) (by omega) HT1.out HT2.out hu1 hu2;have HEND:=hide hend;have HU3:=hide hu3;have hgl:=grown_trans hgt hg3;clear hend hu1 hu2 hu3 HC3;go_wp2;go_end0;exact ⟨⟨_,rfl⟩,⟨u,HEND.out.1,HEND.out.2,HU3.out⟩,hgl⟩)
               · first
                 | (exfalso;omega)
                 | (have hend:=sym_end HMV.out HCR.out (by omega) (by omega) HT1.out HT2.out (.refl HT1.out.2.1 mid b) (risen_join (by omega) (by omega) (by omega) (risen_kept HT1.out (by omega) HQ3.out) (risen_kept HT1.out (by omega) HQ4.out))
                    have HEND:=hide hend;clear hend;go_wp2;go_end0;exact ⟨⟨_,rfl⟩,⟨t,HEND.out.1,HEND.out.2,HT3.out⟩,hgt⟩)
               · first
                 | (exfalso;omega)
                 | (have hend:=sym_end HMV.out HCR.out (by omega) (by omega) HT1.out HT2.out (.refl HT1.out.2.1 mid b) (risen_join (by omega) (by omega) (by omega) (risen_kept HT1.out (by omega) HQ3.out) (risen_kept HT1.out (by omega) HQ4.out))
                    have HEND:=hide hend;clear hend;go_wp2;go_end0;exact ⟨⟨_,rfl⟩,⟨t,HEND.out.1,HEND.out.2,HT3.out⟩,hgt⟩))
          · first
            | (exfalso;omega)
            | (obtain ⟨t,htr⟩:∃ t,r=t:=⟨_,rfl⟩
               obtain ⟨w2,hww⟩:∃ w2,w1=w2:=⟨_,rfl⟩
               have HT1:Hid (Moved r t a mid):=hide (by rw [←htr];exact .refl HMV.out.2.1 a mid);have HT2:Hid (Risen t a mid):=hide (by rw [←htr];exact risen_join (by omega) (by omega) (by omega) HQ1.out HQ2.out);have HT3:Hid (WaysAt w2 g t):=hide (by rw [←htr,←hww];exact HW1.out);have HTL:Hid (t.length=l.length):=hide (by rw [←htr];exact HRL.out);have hgt:w.grownBy w2 (some g):=by rw [←hww];exact hg1
               rw [hww];clear htr hww hg1 HW1;rcases three (mid<en) (en<b) with ⟨p1,p2,p3,p4⟩ | ⟨p1,p3⟩ | ⟨p1,p2,p3,p4⟩
               · first
                 | (exfalso;omega)
                 | (have hc3:=HIH.out t mid en b w2 (by omega) HT3.out (by rw [HTL.out];exact hl) p1 p2 (by rw [HTL.out];exact hb) HT1.out.2.1 (risen_kept HT1.out (by omega) HQ3.out) (risen_kept HT1.out (by omega) HQ4.out)
                    unfold SymSaid at hc3;rw [HTL.out] at hc3;have HC3:=hide hc3;clear hc3;go_wp2_with fail
                    refine HC3.out.mono ?_;rintro e w3 ⟨⟨v3,rfl⟩,⟨u,hu1,hu2,hu3⟩,hg3⟩;have hend:=sym_end HMV.out HCR.out (by omega) (by omega) HT1.out HT2.out hu1 hu2;have HEND:=hide hend;have HU3:=hide hu3;have hgl:=grown_trans hgt hg3;clear hend hu1 hu2 hu3 HC3;go_wp2;go_end0;exact ⟨⟨_,rfl⟩,⟨u,HEND.out.1,HEND.out.2,HU3.out⟩,hgl⟩)
               · first
                 | (exfalso;omega)
                 | (have hend:=sym_end HMV.out HCR.out (by omega) (by omega) HT1.out HT2.out (.refl HT1.out.2.1 mid b) (risen_join (by omega) (by omega) (by omega) (risen_kept HT1.out (by omega) HQ3.out) (risen_kept HT1.out (by omega) HQ4.out))
                    have HEND:=hide hend;clear hend;go_wp2;go_end0;exact ⟨⟨_,rfl⟩,⟨t,HEND.out.1,HEND.out.2,HT3.out⟩,hgt⟩)
               · first
                 | (exfalso;omega)
                 | (have hend:=sym_end HMV.out HCR.out (by omega) (by omega) HT1.out HT2.out (.refl HT1.out.2.1 mid b) (risen_join (by omega) (by omega) (by omega) (risen_kept HT1.out (by omega) HQ3.out) (risen_kept HT1.out (by omega) HQ4.out))
                    have HEND:=hide hend;clear hend;go_wp2;go_end0;exact ⟨⟨_,rfl⟩,⟨t,HEND.out.1,HEND.out.2,HT3.out⟩,hgt⟩))))
theorem psm_any:∀ (K:Nat) (l:List (Int × Int)) (g cap a m b:Nat) (w:World),b-a≤K→WaysAt w g l→l.length≤1000→a<m→m<b→b≤l.length→Stb l→Risen l a m→Risen l m b→SymSaid l g cap a m b w:=by
 intro K
 induction K with
 | zero=>intro l g cap a m b w h;omega
 | succ K ih =>
   intro l g cap a m b w hK hw hl h1 h2 h3 hs hr1 hr2;by_cases c1:m=a+1
   · subst c1;exact psm_left l g cap a b w hw hl h2 h3 hs hr2 _ (by omega)
   · by_cases c2:b=m+1
     · subst c2;exact psm_right l g cap a m w hw hl (by omega) (by omega) hs hr1 _ (by omega)
     · by_cases c3:(a+b) / 2<m
       · exact psm_gen l g cap a m b ((a+b) / 2) ((a+b) / 2+m-b) ((a+b) / 2) w hw hl (by omega) (by omega) h3 hs hr1 hr2 (by omega) (by omega) (.inl ⟨c3,by omega,rfl⟩) (fun l' a' m' b' w' hlt=>ih l' g cap a' m' b' w' (by omega))
       · exact psm_gen l g cap a m b ((a+b) / 2) a m w hw hl (by omega) (by omega) h3 hs hr1 hr2 (by omega) (by omega) (.inr ⟨by omega,rfl,rfl⟩) (fun l' a' m' b' w' hlt=>ih l' g cap a' m' b' w' (by omega))
attribute [local go_sem ↓] Go.wp_at_zero Go.wp_at_succ
theorem pins_none (n g cap a:Nat) (fv:Value) (w:World) (ha:a≤1000) :
 Calls Tryz.prog 266 #[.slice (some ⟨g,0,none⟩) n cap,.int .i64 a,.int .i64 a,fv] w fun e w'=>(∃ v,e=.returned v)∧w'=w:=by
 go_enter Tryz.func266,Tryz.ntmps266;go_wp2
 go_loopw [8] (fun i wr=>i=.int .i64 ((a:Int)+1)∧wr=w) (fun i _=>(a-intOf i).toNat)
 case atStart=>exact ⟨rfl,rfl⟩
 case round =>
  obtain ⟨rfl,rfl⟩:=hrel;go_wp2;go_end0;exact ⟨⟨_,rfl⟩,rfl⟩
theorem pst_few (l:List (Int × Int)) (g cap:Nat) (w:World) (hw:WaysAt w g l) (h0:0<l.length) (hl:l.length<20) (hs:Stb l) :
 Calls Tryz.prog 250 #[.slice (some ⟨g,0,none⟩) l.length cap,.int .i64 l.length,.func (.func 224) #[] #[]] w fun e w'=>(∃ v,e=.returned v)∧(∃ r,r.Perm l∧Stb r∧Risen r 0 l.length∧WaysAt w' g r)∧w.grownBy w' (some g):=by
 have hc:=pins_any l g cap 0 l.length w hw (by omega) h0 (Nat.le_refl _);obtain ⟨g1,g2,g3,g4⟩:=insAll_good l 0 hs (l.length-0-1) (by omega);rw [show 0+(l.length-0-1)+1=l.length from by omega] at g1;obtain ⟨r,hr⟩:∃ r,insAll l 0 (l.length-0-1)=r:=⟨_,rfl⟩
 rw [hr] at hc g1 g2 g3;have HC:=hide hc;have G1:=hide g1;have G2:=hide g2;have G3:=hide g3;clear hc g1 g2 g3 g4 hr hw hs;have k1:(20≤l.length)=False:=by simp;omega
 have k2:(20<l.length)=False:=by simp;omega
 have k3:decide ((20:Int)≤(l.length:Int))=false:=by simp;omega
 have k4:decide ((20:Int)<(l.length:Int))=false:=by simp;omega
 go_enter Tryz.func250,Tryz.ntmps250;go_wp2
 go_loopw [7,8] (fun av bv wr=>av=.int .i64 0∧bv=.int .i64 20∧wr=w) (fun _ bv _=>(100-intOf bv).toNat)
 case atStart=>exact ⟨rfl,rfl,rfl⟩
 case round =>
  obtain ⟨rfl,rfl,rfl⟩:=hrel;go_wp2_with fail
  refine HC.out.mono ?_;rintro e w1 ⟨⟨v,rfl⟩,hw1,hg1⟩;have HW1:=hide hw1;clear hw1 HC;go_wp2
  go_loopw [6,7,8] (fun kv av bv wr=>kv=.int .i64 20∧av=.int .i64 0∧bv=.int .i64 20∧wr=w1) (fun _ bv _ _=>(100-intOf bv).toNat)
  case atStart=>exact ⟨rfl,rfl,rfl,rfl⟩
  case round =>
   obtain ⟨rfl,rfl,rfl,rfl⟩:=hrel;go_wp2;go_end0;exact ⟨⟨_,rfl⟩,⟨r,G3.out,G2.out,G1.out,HW1.out⟩,hg1⟩
theorem pst_more (l:List (Int × Int)) (g cap:Nat) (w:World) (hw:WaysAt w g l) (h0:20≤l.length) (hl:l.length<40) (hs:Stb l) :
 Calls Tryz.prog 250 #[.slice (some ⟨g,0,none⟩) l.length cap,.int .i64 l.length,.func (.func 224) #[] #[]] w fun e w'=>(∃ v,e=.returned v)∧(∃ r,r.Perm l∧Stb r∧Risen r 0 l.length∧WaysAt w' g r)∧w.grownBy w' (some g):=by
 have hc:=pins_any l g cap 0 20 w hw (by omega) (by omega) h0;obtain ⟨g1,g2,g3,g4⟩:=insAll_good l 0 hs (20-0-1) (by omega);obtain ⟨r,hr⟩:∃ r,insAll l 0 (20-0-1)=r:=⟨_,rfl⟩
 rw [hr] at hc g1 g2 g3;have hrl:=g3.length_eq;have HC:=hide hc;have G1:Hid (Risen r 0 20):=hide g1;have G2:=hide g2;have G3:=hide g3;have HRL:=hide hrl;clear hc g1 g2 g3 g4 hr hw hs hrl;have k1:(20≤l.length)=True:=by simp;omega
 have k3:decide ((20:Int)≤(l.length:Int))=true:=by simp;omega
 have k5:(40≤l.length)=False:=by simp;omega
 have k6:decide ((40:Int)≤(l.length:Int))=false:=by simp;omega
 have k7:(40<l.length)=False:=by simp;omega
 have k8:decide ((40:Int)<(l.length:Int))=false:=by simp;omega
 go_enter Tryz.func250,Tryz.ntmps250;go_wp2
 go_loopw [7,8] (fun av bv wr=>(av=.int .i64 0∧bv=.int .i64 20∧wr=w)∨(av=.int .i64 20∧bv=.int .i64 40∧WaysAt wr g r∧w.grownBy wr (some g))) (fun _ bv _=>(100-intOf bv).toNat)
 case atStart=>exact .inl ⟨rfl,rfl,rfl⟩
 case round =>
  rcases hrel with ⟨rfl,rfl,rfl⟩ | ⟨rfl,rfl,hwr,hgr⟩
  · go_wp2_with fail
    refine HC.out.mono ?_;rintro e w1 ⟨⟨v,rfl⟩,hw1,hg1⟩;have HW1:=hide hw1;clear hw1 HC;go_wp2;exact ⟨.inr ⟨rfl,rfl,HW1.out,hg1⟩,by decide⟩
  · have HWR:=hide hwr;clear hwr;by_cases c20:l.length=20
    · have hc2:=pins_none l.length g cap 20 (.func (.func 224) #[] #[]) wr (by omega);have hc3:Calls Tryz.prog 266 #[.slice (some ⟨g,0,none⟩) l.length cap,.int .i64 20,.int .i64 l.length,.func (.func 224) #[] #[]] wr fun e w'=>(∃ v,e=.returned v)∧w'=wr:=by
       rw [c20] at hc2 ⊢;exact hc2
      have HC3:=hide hc3;have C20:=hide c20;have k9:(20<l.length)=False:=by simp;omega
      have k10:decide ((20:Int)<(l.length:Int))=false:=by simp;omega
      clear hc2 hc3 c20;go_wp2_with fail
      refine HC3.out.mono ?_;rintro e w1 ⟨⟨v,rfl⟩,rfl⟩;clear HC HC3;go_wp2
      go_loopw [6,7,8] (fun kv av bv wr=>kv=.int .i64 20∧av=.int .i64 20∧bv=.int .i64 40∧wr=w1) (fun _ bv _ _=>(100-intOf bv).toNat)
      case atStart=>exact ⟨rfl,rfl,rfl,rfl⟩
      case round =>
       obtain ⟨rfl,rfl,rfl,rfl⟩:=hrel;go_wp2;go_end0;exact ⟨⟨_,rfl⟩,⟨r,G3.out,G2.out,by rw [C20.out];exact G1.out,HWR.out⟩,hgr⟩
    · have h20:20<l.length:=by omega
      have hc2:=pins_any r g cap 20 l.length wr HWR.out (by rw [HRL.out];omega) h20 (by rw [HRL.out];exact Nat.le_refl _);obtain ⟨q1,q2,q3,q4⟩:=insAll_good r 20 G2.out (l.length-20-1) (by rw [HRL.out];omega);rw [show 20+(l.length-20-1)+1=l.length from by omega] at q1;obtain ⟨t,ht⟩:∃ t,insAll r 20 (l.length-20-1)=t:=⟨_,rfl⟩
      rw [ht] at hc2 q1 q2 q3 q4;have q5:Risen t 0 20:=by
       intro i k i1 ik k1;rw [q4 i (by omega),q4 k (by omega)];exact G1.out i k i1 ik k1
      have q6:=q3.length_eq;rw [HRL.out] at q6 hc2;have HC2:=hide hc2;have Q1:=hide q1;have Q2:=hide q2;have Q3:=hide q3;have Q5:=hide q5;have Q6:=hide q6;clear hc2 q1 q2 q3 q4 q5 q6 ht c20;have k9:(20<l.length)=True:=by simp;omega
      have k10:decide ((20:Int)<(l.length:Int))=true:=by simp;omega
      go_wp2_with fail
      refine HC2.out.mono ?_;rintro e w1 ⟨⟨v,rfl⟩,hw1,hg1⟩;have HW1:=hide hw1;have hgr1:=grown_trans hgr hg1;clear hw1 HC2 hgr hg1 HC HWR;go_wp2
      go_loopw [6,7,8] (fun kv av bv wr=>(kv=.int .i64 20∧av=.int .i64 20∧bv=.int .i64 40∧wr=w1)∨(kv=.int .i64 40∧av=.int .i64 0∧bv=.int .i64 40∧(∃ u,u.Perm l∧Stb u∧Risen u 0 l.length∧WaysAt wr g u)∧w.grownBy wr (some g))) (fun kv _ _ _=>(100-intOf kv).toNat)
      case atStart=>exact .inl ⟨rfl,rfl,rfl,rfl⟩
      case round =>
       rcases hrel with ⟨rfl,rfl,rfl,rfl⟩ | ⟨rfl,rfl,rfl,hu,hgu⟩
       · go_wp2
         go_loopw [7,8] (fun av bv wr2=>av=.int .i64 0∧bv=.int .i64 40∧wr2=wr) (fun _ bv _=>(100-intOf bv).toNat)
         case atStart=>exact ⟨rfl,rfl,rfl⟩
         case round =>
          obtain ⟨rfl,rfl,rfl⟩:=hrel;have hc4:=psm_any l.length t g cap 0 20 l.length wr (by omega) HW1.out (by rw [Q6.out];omega) (by omega) h20 (by rw [Q6.out];exact Nat.le_refl _) Q2.out Q5.out Q1.out;unfold SymSaid at hc4;rw [Q6.out] at hc4;have HC4:=hide hc4;clear hc4;go_wp2_with fail
          refine HC4.out.mono ?_;rintro e w3 ⟨⟨v3,rfl⟩,⟨u,hu1,hu2,hu3⟩,hg3⟩;have HU:Hid (∃ u,u.Perm l∧Stb u∧Risen u 0 l.length∧WaysAt w3 g u):=hide ⟨u,(hu1.1.trans Q3.out).trans G3.out,hu1.2.1,hu2,hu3⟩;have hgu:=grown_trans hgr1 hg3;clear hu1 hu2 hu3 hg3 HC4;go_wp2;exact ⟨.inr ⟨rfl,rfl,rfl,HU.out,hgu⟩,by decide⟩
       · have HU:=hide hu;clear hu;go_wp2;go_end0;exact ⟨⟨_,rfl⟩,HU.out,hgu⟩
theorem pst_any (l:List (Int × Int)) (g cap:Nat) (w:World) (hw:WaysAt w g l) (h0:0<l.length) (hl:l.length<40) (hs:Stb l) :
 Calls Tryz.prog 250 #[.slice (some ⟨g,0,none⟩) l.length cap,.int .i64 l.length,.func (.func 224) #[] #[]] w fun e w'=>(∃ v,e=.returned v)∧(∃ r,r.Perm l∧Stb r∧Risen r 0 l.length∧WaysAt w' g r)∧w.grownBy w' (some g):=by
 by_cases h:l.length<20
 · exact pst_few l g cap w hw h0 h hs
 · exact pst_more l g cap w hw (by omega) hl hs
theorem psort_any (l:List (Int × Int)) (g cap:Nat) (w:World) (hw:WaysAt w g l) (h0:0<l.length) (hl:l.length<40) (hs:Stb l) :
 Calls Tryz.prog 223 #[.slice (some ⟨g,0,none⟩) l.length cap,.func (.func 224) #[] #[]] w fun e w'=>(∃ v,e=.returned v)∧(∃ r,r.Perm l∧Stb r∧Risen r 0 l.length∧WaysAt w' g r)∧w.grownBy w' (some g):=by
 have HC:=hide (pst_any l g cap w hw h0 hl hs);clear hw hs;go_enter Tryz.func223,Tryz.ntmps223;go_wp2_with fail
 refine HC.out.mono ?_;rintro e w1 ⟨⟨v,rfl⟩,hu,hg⟩;have HU:=hide hu;clear hu;go_wp2;go_end0;exact ⟨⟨_,rfl⟩,HU.out,hg⟩
end Go.Proofs.YtgohllfpceeboaaGreatDoor
