import Derived.Test.YtgohllfpceeboabGreatDoorAnak
set_option maxRecDepth 100000
set_option maxHeartbeats 20000000
namespace Go.Proofs.YtgohllfpceeboabGreatDoor
theorem Tryz.info234 : (Tryz.prog.info? 234).map (fun i => (i.zero, i.size, i.bytes)) = some (some (.agg #[.int .i64 0, .int .i64 0]), 2, 16) := by kernel_rfl
open Go.RowKit
attribute [local go_sem ↓] Go.wp_at_zero Go.wp_at_succ
theorem ZC (l:List (Int×Int))(g cap s m e:Nat)(fv:Value)(w:World)(hw:WaysAt w g l)(hl:l.length≤1000)(h1:s<m)(h2:m<e)(h3:e≤l.length) :
 Calls Tryz.prog 256 #[.slice (some ⟨g,0,none⟩) l.length cap,.int .i64 s,.int .i64 m,.int .i64 e,fv] w fun ex w'=>(∃ v,ex=.returned v)∧WaysAt w' g (dL l s m e)∧w.grownBy w' (some g):=by
 have hc:=A1 l s m e (by omega) (by omega);have n1:(l.take s).length=s:=by simp;omega
 have n2:((l.drop s).take (m-s)).length=m-s:=by simp;omega
 have n3:((l.drop m).take (e-m)).length=e-m:=by simp;omega
 exact WQ (l.take s) ((l.drop s).take (m-s)) ((l.drop m).take (e-m)) (l.drop e) l.length g cap fv w (by rw[←hc];exact hw) (by rw[←hc]) hl (by omega) (by omega) s m e (by omega) (by omega) (by omega)
def dI (l:List (Int×Int))(g cap a m b:Nat)(w:World):Prop :=
 Calls Tryz.prog 253 #[.slice (some ⟨g,0,none⟩) l.length cap,.int .i64 a,.int .i64 m,.int .i64 b,.func (.func 233) #[] #[]] w fun e w'=>(∃ v,e=.returned v)∧(∃ r,Moved l r a b∧Risen r a b∧WaysAt w' g r)∧w.grownBy w' (some g)
theorem I6 (l:List (Int×Int))(h:Nat)(hh:h<l.length):wy l h=l[h]'hh:=by unfold wy;rw[List.getD_eq_getElem?_getD,List.getElem?_eq_getElem hh,Option.getD_some]
theorem three (X Y:Prop):(X∧Y∧(X=True)∧(Y=True))∨(¬ X∧(X=False))∨(X∧¬ Y∧(X=True)∧(Y=False)):=by
 by_cases hx:X <;> by_cases hy:Y <;> simp[hx,hy]
theorem aS {r:List (Int×Int)}{a i b:Nat}(h:¬ (a<i∧i<b))(h1:a≤i)(h2:i≤b)(hl:Risen r a i)(hr:Risen r i b):Risen r a b:=by
 by_cases c:a<i
 · have e:i=b:=by omega
   rw[←e];exact hl
 · have e:i=a:=by omega
   rw[←e];exact hr
theorem aG {r t:List (Int×Int)}{a m x y:Nat}(h:Moved r t a m)(hx:m≤x)(hr:Risen r x y):Risen t x y:=by
 intro i k i1 ik k1;show(wy t i).1≤(wy t k).1;rw[h.2.2.1 i (by omega),h.2.2.1 k (by omega)];exact hr i k i1 ik k1
theorem OL (l:List (Int×Int))(g cap a m b mid s0 r0:Nat)(w:World)(hw:WaysAt w g l)(hl:l.length≤1000)(ha:a+1<m)(hmb:m+1<b)(hb:b≤l.length)(hs:oJ l)(hr:Risen l a m)(hr2:Risen l m b)
 (hm1:mid*2≤a+b) (hm2:a+b≤mid*2+1) (hcase:(mid<m∧s0+b=mid+m∧r0=mid)∨(m≤mid∧s0=a∧r0=m))
 (IH:∀ (l:List (Int×Int)) (a' m' b':Nat) (w:World),b'-a'<b-a→WaysAt w g l→l.length≤1000→a'<m'→m'<b'→b'≤l.length→oJ l→Risen l a' m'→Risen l m' b'→dI l g cap a' m' b' w) :
 dI l g cap a m b w:=by
 unfold dI;have HW:=hide hw;have HS:=hide hs;have HR:=hide hr;have HR2:=hide hr2;have HIH:=hide IH;clear hw hs hr hr2 IH;have hd0:((m:Int)-(a:Int) == 1)=false:=by simp;omega
 have hd1:((b:Int)-(m:Int) == 1)=false:=by simp;omega
 have hdm:((a:Int)+(b:Int)) / 2=(mid:Int):=by omega
 go_enter Tryz.func253,Tryz.ntmps253;rcases hcase with ⟨c1,c2,c3⟩ | ⟨c1,c2,c3⟩
 all_goals first | (have hd3:decide ((mid:Int)<(m:Int))=true:=by simp;omega) | (have hd3:decide ((mid:Int)<(m:Int))=false:=by simp;omega)
 all_goals first | (have hd4:(mid<m)=True:=by simp;omega) | (have hd4:(mid<m)=False:=by simp;omega)
 all_goals have C2:=hide c2
 all_goals have C3:=hide c3
 all_goals clear c2 c3
 all_goals go_wp2
 all_goals (
  go_loopw [20,21] (fun iv jv wr=>∃ I J:Nat,iv=.int .i64 I∧jv=.int .i64 J∧s0≤I∧I≤J∧J≤r0∧(J<r0→(wy l (mid+m-1-J)).1<(wy l J).1)∧(s0<I→(wy l (I-1)).1≤(wy l (mid+m-I)).1)∧WaysAt wr g l∧w.grownBy wr (some g)) (fun iv jv _=>(intOf jv-intOf iv).toNat)
  case atStart=>exact⟨s0,r0,by have:=C2.out;first | (rw[this];rfl) | (congr 1;omega),by rw[C3.out],by omega,by have:=C2.out;have:=C3.out;omega,by omega,fun h=>absurd h (by omega),fun h=>absurd h (by omega),HW.out,⟨rfl,rfl,rfl,Nat.le_refl _,fun _ _ _=>rfl⟩⟩
  case round =>
   obtain⟨I,J,rfl,rfl,hI,hIJ,hJ,hx,hy,hwr,hgr⟩:=hrel;have HX:=hide hx;have HY:=hide hy;have HWR:=hide hwr;have hglt:=hwr.1;clear hx hy;by_cases hlt:I<J
   · have hd2:decide ((I:Int)<(J:Int))=true:=by simp;omega
     obtain⟨h,hh1,hh2⟩:∃ h:Nat,h*2≤I+J∧I+J≤h*2+1:=⟨(I+J) / 2,by omega,by omega⟩
     obtain⟨q,hq1,hq2⟩:∃ q:Nat,q+h+1≤mid+m∧mid+m≤q+h+1:=⟨mid+m-1-h,by have:=C3.out;omega,by have:=C3.out;omega⟩
     have hhl:h<l.length:=by have:=C3.out;omega
     have hql:q<l.length:=by have:=C2.out;have:=C3.out;omega
     go_wp2;have hq:((I:Int)+(J:Int)) / 2=(h:Int):=by omega
     rw[hq];have HQ:=hide hq;clear hq;have f3:(mid:Int)+(m:Int)-1-(h:Int)=(q:Int):=by omega
     have f5:IntKind.i64.wrap (q:Int)=(q:Int):=by rw[IntWalk.i64_left];exact IntWalk.wrap64_in _ (by omega)
     have f6:IntKind.i64.wrap ((mid:Int)+(m:Int)-1-(h:Int))=(q:Int):=by rw[f3];exact f5
     obtain⟨j1,j2⟩:=hwr.2.1 q hql;obtain⟨i1,i2⟩:=hwr.2.1 h hhl;rw[←I6 l q hql] at j1 j2;rw[←I6 l h hhl] at i1 i2;obtain⟨x,hx⟩:∃ x,wy l q=x:=⟨_,rfl⟩
     obtain⟨z,hz⟩:∃ z,wy l h=z:=⟨_,rfl⟩
     rw[hx] at j1 j2;rw[hz] at i1 i2;have HXX:=hide hx;have HZ:=hide hz;have hfz:=hwr.2.2;clear hx hz hwr;obtain⟨x1,x2⟩:=x;obtain⟨z1,z2⟩:=z;have e1:(0:Int)≤(q:Int):=by omega
     have e2:(q:Int)<(l.length:Int):=by omega
     have e3:(0:Int)≤(h:Int):=by omega
     have e4:(h:Int)<(l.length:Int):=by omega
     obtain⟨v,hv⟩:∃ v,jW x1 z1=v:=⟨_,rfl⟩
     have HCM:=hide hv;clear hv;go_region_held3 (fun w'=>(w'.cell? ⟨g,q*2,none⟩=some (.int .i64 x1)∧w'.cell? ⟨g,q*2+1,none⟩=some (.int .i64 x2))∧(w'.cell? ⟨g,h*2,none⟩=some (.int .i64 z1)∧w'.cell? ⟨g,h*2+1,none⟩=some (.int .i64 z2))) (first | exact⟨⟨(hB.cell (p:=⟨g,q*2,none⟩) hglt).trans j1,(hB.cell (p:=⟨g,q*2+1,none⟩) hglt).trans j2⟩,(hB.cell (p:=⟨g,h*2,none⟩) hglt).trans i1,(hB.cell (p:=⟨g,h*2+1,none⟩) hglt).trans i2⟩ | go_keep) ((go_at_call 233;refine(pS x1 x2 z1 z2 _).mono ?_;rintro e w' ⟨rfl,hB⟩;rw[HCM.out]))
     have hB2:Below wr.heap.size wr w':=((Below.refl wr.heap.size wr).drew).trans hB;have hwm':=HWR.out.below hB2 hglt;have HWM':=hide hwm';have hgr3:=aO hgr (grown_below (r:=some g) hB2 (Nat.le_refl _));clear hwm' hB hB2 j1 j2 i1 i2 hfz hgr HWR;have hqe:mid+m-1-h=q:=by omega
     by_cases hc:x1<z1
     · have hd3:decide (v<0)=true:=by rw[←HCM.out];unfold jW;rw[if_pos hc];rfl
       rw[hd3];go_wp2;exact⟨⟨I,h,rfl,rfl,by omega,by omega,by omega,fun _=>by rw[hqe,HXX.out,HZ.out];exact hc,HY.out,HWM'.out,hgr3⟩,by simp[intOf];omega⟩
     · have hd3:decide (v<0)=false:=by rw[←HCM.out];unfold jW;rw[if_neg hc];split <;> simp
       rw[hd3];go_wp2;exact⟨⟨h+1,J,by go_num,rfl,by omega,by omega,by omega,HX.out,fun _=>by rw[Nat.add_sub_cancel,show mid+m-(h+1)=q from by omega,HXX.out,HZ.out];exact Int.not_lt.mp hc,HWM'.out,hgr3⟩,by simp[intOf];omega⟩
   · have hd2:decide ((I:Int)<(J:Int))=false:=by simp;omega
     have hIJ':I=J:=by omega
     subst hIJ';obtain⟨en,he1,he2⟩:∃ en:Nat,en+I≤mid+m∧mid+m≤en+I:=⟨mid+m-I,by have:=C3.out;omega,by have:=C3.out;omega⟩
     have b0:a≤I:=by have:=C2.out;omega
     have b1:I≤m:=by have:=C3.out;omega
     have b2:I≤mid:=by have:=C3.out;omega
     have b3:en≤b:=by have:=C2.out;omega
     obtain⟨r,hr0,hmv,hq1,hq2,hq3,hq4,hcr⟩:=m9 l a m b mid I en (by omega) hb HS.out HR.out HR2.out (by omega) (by have:=C2.out;omega) b1 b2 b3
      (fun z1 z2=>by have:=HX.out (by have:=C3.out;omega);rw[show mid+m-1-I=en-1 from by omega] at this;exact this)
      (fun z1 z2=>by have:=HY.out (by have:=C2.out;omega);rw[show mid+m-I=en from by omega] at this;exact this)
     have hrl:r.length=l.length:=hmv.1.length_eq;have HMV:=hide hmv;have HCR:=hide hcr;have HQ1:=hide hq1;have HQ2:=hide hq2;have HQ3:=hide hq3;have HQ4:=hide hq4;have HR0:=hide hr0;have HRL:=hide hrl;clear hmv hcr hq1 hq2 hq3 hq4 hr0 hrl hwr HX HY;have f3:(mid:Int)+(m:Int)-(I:Int)=(en:Int):=by omega
     rcases three (I<m) (m<en) with ⟨n1,n2,n3,n4⟩ | ⟨n1,n3⟩ | ⟨n1,n2,n3,n4⟩
     · first
       | (exfalso;omega)
       | (have HC:=hide (ZC l g cap I m en (.func (.func 233) #[] #[]) wr HWR.out hl n1 n2 (by omega))
          go_wp2_with fail
          refine HC.out.mono ?_;rintro e w1 ⟨⟨v1,rfl⟩,hw1,hg0⟩;have HW1:Hid (WaysAt w1 g r):=hide (by rw[HR0.out,if_pos ⟨n1,n2⟩];exact hw1);have hg1:=aO hgr hg0;clear hw1 hg0 hgr HC HWR hglt;rcases three (a<I) (I<mid) with ⟨o1,o2,o3,o4⟩ | ⟨o1,o3⟩ | ⟨o1,o2,o3,o4⟩
          · first
            | (exfalso;omega)
            | (have hc2:=HIH.out r a I mid w1 (by omega) HW1.out (by rw[HRL.out];exact hl) o1 o2 (by rw[HRL.out];omega) HMV.out.2.1 HQ1.out HQ2.out
               unfold dI at hc2;rw[HRL.out] at hc2;have HC2:=hide hc2;clear hc2;go_wp2_with fail
               refine HC2.out.mono ?_;rintro e w2 ⟨⟨v2,rfl⟩,⟨t,ht1,ht2,ht3⟩,hg2⟩;have HT1:=hide ht1;have HT2:=hide ht2;have HT3:=hide ht3;have HTL:Hid (t.length=l.length):=hide (by rw[ht1.1.length_eq];exact HRL.out);have hgt:=aO hg1 hg2;clear ht1 ht2 ht3 hg2 hg1 HC2 HW1;rcases three (mid<en) (en<b) with ⟨p1,p2,p3,p4⟩ | ⟨p1,p3⟩ | ⟨p1,p2,p3,p4⟩
               · first
                 | (exfalso;omega)
                 | (have hc3:=HIH.out t mid en b w2 (by omega) HT3.out (by rw[HTL.out];exact hl) p1 p2 (by rw[HTL.out];exact hb) HT1.out.2.1 (aG HT1.out (by omega) HQ3.out) (aG HT1.out (by omega) HQ4.out)
                    unfold dI at hc3;rw[HTL.out] at hc3;have HC3:=hide hc3;clear hc3;go_wp2_with fail
                    refine HC3.out.mono ?_;rintro e w3 ⟨⟨v3,rfl⟩,⟨u,hu1,hu2,hu3⟩,hg3⟩;have hend:=bL HMV.out HCR.out (by omega) (by omega) HT1.out HT2.out hu1 hu2;have HEND:=hide hend;have HU3:=hide hu3;have hgl:=aO hgt hg3;clear hend hu1 hu2 hu3 HC3;go_wp2;go_end0;exact⟨⟨_,rfl⟩,⟨u,HEND.out.1,HEND.out.2,HU3.out⟩,hgl⟩)
               · first
                 | (exfalso;omega)
                 | (have hend:=bL HMV.out HCR.out (by omega) (by omega) HT1.out HT2.out (.refl HT1.out.2.1 mid b) (aS (by omega) (by omega) (by omega) (aG HT1.out (by omega) HQ3.out) (aG HT1.out (by omega) HQ4.out))
                    have HEND:=hide hend;clear hend;go_wp2;go_end0;exact⟨⟨_,rfl⟩,⟨t,HEND.out.1,HEND.out.2,HT3.out⟩,hgt⟩)
               · first
                 | (exfalso;omega)
                 | (have hend:=bL HMV.out HCR.out (by omega) (by omega) HT1.out HT2.out (.refl HT1.out.2.1 mid b) (aS (by omega) (by omega) (by omega) (aG HT1.out (by omega) HQ3.out) (aG HT1.out (by omega) HQ4.out))
                    have HEND:=hide hend;clear hend;go_wp2;go_end0;exact⟨⟨_,rfl⟩,⟨t,HEND.out.1,HEND.out.2,HT3.out⟩,hgt⟩))
          · first
            | (exfalso;omega)
            | (obtain⟨t,htr⟩:∃ t,r=t:=⟨_,rfl⟩
               obtain⟨w2,hww⟩:∃ w2,w1=w2:=⟨_,rfl⟩
               have HT1:Hid (Moved r t a mid):=hide (by rw[←htr];exact .refl HMV.out.2.1 a mid);have HT2:Hid (Risen t a mid):=hide (by rw[←htr];exact aS (by omega) (by omega) (by omega) HQ1.out HQ2.out);have HT3:Hid (WaysAt w2 g t):=hide (by rw[←htr,←hww];exact HW1.out);have HTL:Hid (t.length=l.length):=hide (by rw[←htr];exact HRL.out);have hgt:w.grownBy w2 (some g):=by rw[←hww];exact hg1
               rw[hww];clear htr hww hg1 HW1;rcases three (mid<en) (en<b) with ⟨p1,p2,p3,p4⟩ | ⟨p1,p3⟩ | ⟨p1,p2,p3,p4⟩
               · first
                 | (exfalso;omega)
                 | (have hc3:=HIH.out t mid en b w2 (by omega) HT3.out (by rw[HTL.out];exact hl) p1 p2 (by rw[HTL.out];exact hb) HT1.out.2.1 (aG HT1.out (by omega) HQ3.out) (aG HT1.out (by omega) HQ4.out)
                    unfold dI at hc3;rw[HTL.out] at hc3;have HC3:=hide hc3;clear hc3;go_wp2_with fail
                    refine HC3.out.mono ?_;rintro e w3 ⟨⟨v3,rfl⟩,⟨u,hu1,hu2,hu3⟩,hg3⟩;have hend:=bL HMV.out HCR.out (by omega) (by omega) HT1.out HT2.out hu1 hu2;have HEND:=hide hend;have HU3:=hide hu3;have hgl:=aO hgt hg3;clear hend hu1 hu2 hu3 HC3;go_wp2;go_end0;exact⟨⟨_,rfl⟩,⟨u,HEND.out.1,HEND.out.2,HU3.out⟩,hgl⟩)
               · first
                 | (exfalso;omega)
                 | (have hend:=bL HMV.out HCR.out (by omega) (by omega) HT1.out HT2.out (.refl HT1.out.2.1 mid b) (aS (by omega) (by omega) (by omega) (aG HT1.out (by omega) HQ3.out) (aG HT1.out (by omega) HQ4.out))
                    have HEND:=hide hend;clear hend;go_wp2;go_end0;exact⟨⟨_,rfl⟩,⟨t,HEND.out.1,HEND.out.2,HT3.out⟩,hgt⟩)
               · first
                 | (exfalso;omega)
                 | (have hend:=bL HMV.out HCR.out (by omega) (by omega) HT1.out HT2.out (.refl HT1.out.2.1 mid b) (aS (by omega) (by omega) (by omega) (aG HT1.out (by omega) HQ3.out) (aG HT1.out (by omega) HQ4.out))
                    have HEND:=hide hend;clear hend;go_wp2;go_end0;exact⟨⟨_,rfl⟩,⟨t,HEND.out.1,HEND.out.2,HT3.out⟩,hgt⟩))
          · first
            | (exfalso;omega)
            | (obtain⟨t,htr⟩:∃ t,r=t:=⟨_,rfl⟩
               obtain⟨w2,hww⟩:∃ w2,w1=w2:=⟨_,rfl⟩
               have HT1:Hid (Moved r t a mid):=hide (by rw[←htr];exact .refl HMV.out.2.1 a mid);have HT2:Hid (Risen t a mid):=hide (by rw[←htr];exact aS (by omega) (by omega) (by omega) HQ1.out HQ2.out);have HT3:Hid (WaysAt w2 g t):=hide (by rw[←htr,←hww];exact HW1.out);have HTL:Hid (t.length=l.length):=hide (by rw[←htr];exact HRL.out);have hgt:w.grownBy w2 (some g):=by rw[←hww];exact hg1
               rw[hww];clear htr hww hg1 HW1;rcases three (mid<en) (en<b) with ⟨p1,p2,p3,p4⟩ | ⟨p1,p3⟩ | ⟨p1,p2,p3,p4⟩
               · first
                 | (exfalso;omega)
                 | (have hc3:=HIH.out t mid en b w2 (by omega) HT3.out (by rw[HTL.out];exact hl) p1 p2 (by rw[HTL.out];exact hb) HT1.out.2.1 (aG HT1.out (by omega) HQ3.out) (aG HT1.out (by omega) HQ4.out)
                    unfold dI at hc3;rw[HTL.out] at hc3;have HC3:=hide hc3;clear hc3;go_wp2_with fail
                    refine HC3.out.mono ?_;rintro e w3 ⟨⟨v3,rfl⟩,⟨u,hu1,hu2,hu3⟩,hg3⟩;have hend:=bL HMV.out HCR.out (by omega) (by omega) HT1.out HT2.out hu1 hu2;have HEND:=hide hend;have HU3:=hide hu3;have hgl:=aO hgt hg3;clear hend hu1 hu2 hu3 HC3;go_wp2;go_end0;exact⟨⟨_,rfl⟩,⟨u,HEND.out.1,HEND.out.2,HU3.out⟩,hgl⟩)
               · first
                 | (exfalso;omega)
                 | (have hend:=bL HMV.out HCR.out (by omega) (by omega) HT1.out HT2.out (.refl HT1.out.2.1 mid b) (aS (by omega) (by omega) (by omega) (aG HT1.out (by omega) HQ3.out) (aG HT1.out (by omega) HQ4.out))
                    have HEND:=hide hend;clear hend;go_wp2;go_end0;exact⟨⟨_,rfl⟩,⟨t,HEND.out.1,HEND.out.2,HT3.out⟩,hgt⟩)
               · first
                 | (exfalso;omega)
                 | (have hend:=bL HMV.out HCR.out (by omega) (by omega) HT1.out HT2.out (.refl HT1.out.2.1 mid b) (aS (by omega) (by omega) (by omega) (aG HT1.out (by omega) HQ3.out) (aG HT1.out (by omega) HQ4.out))
                    have HEND:=hide hend;clear hend;go_wp2;go_end0;exact⟨⟨_,rfl⟩,⟨t,HEND.out.1,HEND.out.2,HT3.out⟩,hgt⟩)))
     · first
       | (exfalso;omega)
       | (have HW1:Hid (WaysAt wr g r):=hide (by rw[HR0.out,if_neg (by omega)];exact HWR.out)
          obtain⟨w1,hww1⟩:∃ w1,wr=w1:=⟨_,rfl⟩
          rw[hww1] at HW1 hgr ⊢;have hg1:=hgr;clear hww1 hgr HWR hglt;rcases three (a<I) (I<mid) with ⟨o1,o2,o3,o4⟩ | ⟨o1,o3⟩ | ⟨o1,o2,o3,o4⟩
          · first
            | (exfalso;omega)
            | (have hc2:=HIH.out r a I mid w1 (by omega) HW1.out (by rw[HRL.out];exact hl) o1 o2 (by rw[HRL.out];omega) HMV.out.2.1 HQ1.out HQ2.out
               unfold dI at hc2;rw[HRL.out] at hc2;have HC2:=hide hc2;clear hc2;go_wp2_with fail
               refine HC2.out.mono ?_;rintro e w2 ⟨⟨v2,rfl⟩,⟨t,ht1,ht2,ht3⟩,hg2⟩;have HT1:=hide ht1;have HT2:=hide ht2;have HT3:=hide ht3;have HTL:Hid (t.length=l.length):=hide (by rw[ht1.1.length_eq];exact HRL.out);have hgt:=aO hg1 hg2;clear ht1 ht2 ht3 hg2 hg1 HC2 HW1;rcases three (mid<en) (en<b) with ⟨p1,p2,p3,p4⟩ | ⟨p1,p3⟩ | ⟨p1,p2,p3,p4⟩
               · first
                 | (exfalso;omega)
                 | (have hc3:=HIH.out t mid en b w2 (by omega) HT3.out (by rw[HTL.out];exact hl) p1 p2 (by rw[HTL.out];exact hb) HT1.out.2.1 (aG HT1.out (by omega) HQ3.out) (aG HT1.out (by omega) HQ4.out)
                    unfold dI at hc3;rw[HTL.out] at hc3;have HC3:=hide hc3;clear hc3;go_wp2_with fail
                    refine HC3.out.mono ?_;rintro e w3 ⟨⟨v3,rfl⟩,⟨u,hu1,hu2,hu3⟩,hg3⟩;have hend:=bL HMV.out HCR.out (by omega) (by omega) HT1.out HT2.out hu1 hu2;have HEND:=hide hend;have HU3:=hide hu3;have hgl:=aO hgt hg3;clear hend hu1 hu2 hu3 HC3;go_wp2;go_end0;exact⟨⟨_,rfl⟩,⟨u,HEND.out.1,HEND.out.2,HU3.out⟩,hgl⟩)
               · first
                 | (exfalso;omega)
                 | (have hend:=bL HMV.out HCR.out (by omega) (by omega) HT1.out HT2.out (.refl HT1.out.2.1 mid b) (aS (by omega) (by omega) (by omega) (aG HT1.out (by omega) HQ3.out) (aG HT1.out (by omega) HQ4.out))
                    have HEND:=hide hend;clear hend;go_wp2;go_end0;exact⟨⟨_,rfl⟩,⟨t,HEND.out.1,HEND.out.2,HT3.out⟩,hgt⟩)
               · first
                 | (exfalso;omega)
                 | (have hend:=bL HMV.out HCR.out (by omega) (by omega) HT1.out HT2.out (.refl HT1.out.2.1 mid b) (aS (by omega) (by omega) (by omega) (aG HT1.out (by omega) HQ3.out) (aG HT1.out (by omega) HQ4.out))
                    have HEND:=hide hend;clear hend;go_wp2;go_end0;exact⟨⟨_,rfl⟩,⟨t,HEND.out.1,HEND.out.2,HT3.out⟩,hgt⟩))
          · first
            | (exfalso;omega)
            | (obtain⟨t,htr⟩:∃ t,r=t:=⟨_,rfl⟩
               obtain⟨w2,hww⟩:∃ w2,w1=w2:=⟨_,rfl⟩
               have HT1:Hid (Moved r t a mid):=hide (by rw[←htr];exact .refl HMV.out.2.1 a mid);have HT2:Hid (Risen t a mid):=hide (by rw[←htr];exact aS (by omega) (by omega) (by omega) HQ1.out HQ2.out);have HT3:Hid (WaysAt w2 g t):=hide (by rw[←htr,←hww];exact HW1.out);have HTL:Hid (t.length=l.length):=hide (by rw[←htr];exact HRL.out);have hgt:w.grownBy w2 (some g):=by rw[←hww];exact hg1
               rw[hww];clear htr hww hg1 HW1;rcases three (mid<en) (en<b) with ⟨p1,p2,p3,p4⟩ | ⟨p1,p3⟩ | ⟨p1,p2,p3,p4⟩
               · first
                 | (exfalso;omega)
                 | (have hc3:=HIH.out t mid en b w2 (by omega) HT3.out (by rw[HTL.out];exact hl) p1 p2 (by rw[HTL.out];exact hb) HT1.out.2.1 (aG HT1.out (by omega) HQ3.out) (aG HT1.out (by omega) HQ4.out)
                    unfold dI at hc3;rw[HTL.out] at hc3;have HC3:=hide hc3;clear hc3;go_wp2_with fail
                    refine HC3.out.mono ?_;rintro e w3 ⟨⟨v3,rfl⟩,⟨u,hu1,hu2,hu3⟩,hg3⟩;have hend:=bL HMV.out HCR.out (by omega) (by omega) HT1.out HT2.out hu1 hu2;have HEND:=hide hend;have HU3:=hide hu3;have hgl:=aO hgt hg3;clear hend hu1 hu2 hu3 HC3;go_wp2;go_end0;exact⟨⟨_,rfl⟩,⟨u,HEND.out.1,HEND.out.2,HU3.out⟩,hgl⟩)
               · first
                 | (exfalso;omega)
                 | (have hend:=bL HMV.out HCR.out (by omega) (by omega) HT1.out HT2.out (.refl HT1.out.2.1 mid b) (aS (by omega) (by omega) (by omega) (aG HT1.out (by omega) HQ3.out) (aG HT1.out (by omega) HQ4.out))
                    have HEND:=hide hend;clear hend;go_wp2;go_end0;exact⟨⟨_,rfl⟩,⟨t,HEND.out.1,HEND.out.2,HT3.out⟩,hgt⟩)
               · first
                 | (exfalso;omega)
                 | (have hend:=bL HMV.out HCR.out (by omega) (by omega) HT1.out HT2.out (.refl HT1.out.2.1 mid b) (aS (by omega) (by omega) (by omega) (aG HT1.out (by omega) HQ3.out) (aG HT1.out (by omega) HQ4.out))
                    have HEND:=hide hend;clear hend;go_wp2;go_end0;exact⟨⟨_,rfl⟩,⟨t,HEND.out.1,HEND.out.2,HT3.out⟩,hgt⟩))
          · first
            | (exfalso;omega)
            | (obtain⟨t,htr⟩:∃ t,r=t:=⟨_,rfl⟩
               obtain⟨w2,hww⟩:∃ w2,w1=w2:=⟨_,rfl⟩
               have HT1:Hid (Moved r t a mid):=hide (by rw[←htr];exact .refl HMV.out.2.1 a mid);have HT2:Hid (Risen t a mid):=hide (by rw[←htr];exact aS (by omega) (by omega) (by omega) HQ1.out HQ2.out);have HT3:Hid (WaysAt w2 g t):=hide (by rw[←htr,←hww];exact HW1.out);have HTL:Hid (t.length=l.length):=hide (by rw[←htr];exact HRL.out);have hgt:w.grownBy w2 (some g):=by rw[←hww];exact hg1
               rw[hww];clear htr hww hg1 HW1;rcases three (mid<en) (en<b) with ⟨p1,p2,p3,p4⟩ | ⟨p1,p3⟩ | ⟨p1,p2,p3,p4⟩
               · first
                 | (exfalso;omega)
                 | (have hc3:=HIH.out t mid en b w2 (by omega) HT3.out (by rw[HTL.out];exact hl) p1 p2 (by rw[HTL.out];exact hb) HT1.out.2.1 (aG HT1.out (by omega) HQ3.out) (aG HT1.out (by omega) HQ4.out)
                    unfold dI at hc3;rw[HTL.out] at hc3;have HC3:=hide hc3;clear hc3;go_wp2_with fail
                    refine HC3.out.mono ?_;rintro e w3 ⟨⟨v3,rfl⟩,⟨u,hu1,hu2,hu3⟩,hg3⟩;have hend:=bL HMV.out HCR.out (by omega) (by omega) HT1.out HT2.out hu1 hu2;have HEND:=hide hend;have HU3:=hide hu3;have hgl:=aO hgt hg3;clear hend hu1 hu2 hu3 HC3;go_wp2;go_end0;exact⟨⟨_,rfl⟩,⟨u,HEND.out.1,HEND.out.2,HU3.out⟩,hgl⟩)
               · first
                 | (exfalso;omega)
                 | (have hend:=bL HMV.out HCR.out (by omega) (by omega) HT1.out HT2.out (.refl HT1.out.2.1 mid b) (aS (by omega) (by omega) (by omega) (aG HT1.out (by omega) HQ3.out) (aG HT1.out (by omega) HQ4.out))
                    have HEND:=hide hend;clear hend;go_wp2;go_end0;exact⟨⟨_,rfl⟩,⟨t,HEND.out.1,HEND.out.2,HT3.out⟩,hgt⟩)
               · first
                 | (exfalso;omega)
                 | (have hend:=bL HMV.out HCR.out (by omega) (by omega) HT1.out HT2.out (.refl HT1.out.2.1 mid b) (aS (by omega) (by omega) (by omega) (aG HT1.out (by omega) HQ3.out) (aG HT1.out (by omega) HQ4.out))
                    have HEND:=hide hend;clear hend;go_wp2;go_end0;exact⟨⟨_,rfl⟩,⟨t,HEND.out.1,HEND.out.2,HT3.out⟩,hgt⟩)))
     · first
       | (exfalso;omega)
       | (have HW1:Hid (WaysAt wr g r):=hide (by rw[HR0.out,if_neg (by omega)];exact HWR.out)
          obtain⟨w1,hww1⟩:∃ w1,wr=w1:=⟨_,rfl⟩
          rw[hww1] at HW1 hgr ⊢;have hg1:=hgr;clear hww1 hgr HWR hglt;rcases three (a<I) (I<mid) with ⟨o1,o2,o3,o4⟩ | ⟨o1,o3⟩ | ⟨o1,o2,o3,o4⟩
          · first
            | (exfalso;omega)
            | (have hc2:=HIH.out r a I mid w1 (by omega) HW1.out (by rw[HRL.out];exact hl) o1 o2 (by rw[HRL.out];omega) HMV.out.2.1 HQ1.out HQ2.out
               unfold dI at hc2;rw[HRL.out] at hc2;have HC2:=hide hc2;clear hc2;go_wp2_with fail
               refine HC2.out.mono ?_;rintro e w2 ⟨⟨v2,rfl⟩,⟨t,ht1,ht2,ht3⟩,hg2⟩;have HT1:=hide ht1;have HT2:=hide ht2;have HT3:=hide ht3;have HTL:Hid (t.length=l.length):=hide (by rw[ht1.1.length_eq];exact HRL.out);have hgt:=aO hg1 hg2;clear ht1 ht2 ht3 hg2 hg1 HC2 HW1;rcases three (mid<en) (en<b) with ⟨p1,p2,p3,p4⟩ | ⟨p1,p3⟩ | ⟨p1,p2,p3,p4⟩
               · first
                 | (exfalso;omega)
                 | (have hc3:=HIH.out t mid en b w2 (by omega) HT3.out (by rw[HTL.out];exact hl) p1 p2 (by rw[HTL.out];exact hb) HT1.out.2.1 (aG HT1.out (by omega) HQ3.out) (aG HT1.out (by omega) HQ4.out)
                    unfold dI at hc3;rw[HTL.out] at hc3;have HC3:=hide hc3;clear hc3;go_wp2_with fail
                    refine HC3.out.mono ?_;rintro e w3 ⟨⟨v3,rfl⟩,⟨u,hu1,hu2,hu3⟩,hg3⟩;have hend:=bL HMV.out HCR.out (by omega) (by omega) HT1.out HT2.out hu1 hu2;have HEND:=hide hend;have HU3:=hide hu3;have hgl:=aO hgt hg3;clear hend hu1 hu2 hu3 HC3;go_wp2;go_end0;exact⟨⟨_,rfl⟩,⟨u,HEND.out.1,HEND.out.2,HU3.out⟩,hgl⟩)
               · first
                 | (exfalso;omega)
                 | (have hend:=bL HMV.out HCR.out (by omega) (by omega) HT1.out HT2.out (.refl HT1.out.2.1 mid b) (aS (by omega) (by omega) (by omega) (aG HT1.out (by omega) HQ3.out) (aG HT1.out (by omega) HQ4.out))
                    have HEND:=hide hend;clear hend;go_wp2;go_end0;exact⟨⟨_,rfl⟩,⟨t,HEND.out.1,HEND.out.2,HT3.out⟩,hgt⟩)
               · first
                 | (exfalso;omega)
                 | (have hend:=bL HMV.out HCR.out (by omega) (by omega) HT1.out HT2.out (.refl HT1.out.2.1 mid b) (aS (by omega) (by omega) (by omega) (aG HT1.out (by omega) HQ3.out) (aG HT1.out (by omega) HQ4.out))
                    have HEND:=hide hend;clear hend;go_wp2;go_end0;exact⟨⟨_,rfl⟩,⟨t,HEND.out.1,HEND.out.2,HT3.out⟩,hgt⟩))
          · first
            | (exfalso;omega)
            | (obtain⟨t,htr⟩:∃ t,r=t:=⟨_,rfl⟩
               obtain⟨w2,hww⟩:∃ w2,w1=w2:=⟨_,rfl⟩
               have HT1:Hid (Moved r t a mid):=hide (by rw[←htr];exact .refl HMV.out.2.1 a mid);have HT2:Hid (Risen t a mid):=hide (by rw[←htr];exact aS (by omega) (by omega) (by omega) HQ1.out HQ2.out);have HT3:Hid (WaysAt w2 g t):=hide (by rw[←htr,←hww];exact HW1.out);have HTL:Hid (t.length=l.length):=hide (by rw[←htr];exact HRL.out);have hgt:w.grownBy w2 (some g):=by rw[←hww];exact hg1
               rw[hww];clear htr hww hg1 HW1;rcases three (mid<en) (en<b) with ⟨p1,p2,p3,p4⟩ | ⟨p1,p3⟩ | ⟨p1,p2,p3,p4⟩
               · first
                 | (exfalso;omega)
                 | (have hc3:=HIH.out t mid en b w2 (by omega) HT3.out (by rw[HTL.out];exact hl) p1 p2 (by rw[HTL.out];exact hb) HT1.out.2.1 (aG HT1.out (by omega) HQ3.out) (aG HT1.out (by omega) HQ4.out)
                    unfold dI at hc3;rw[HTL.out] at hc3;have HC3:=hide hc3;clear hc3;go_wp2_with fail
                    refine HC3.out.mono ?_;rintro e w3 ⟨⟨v3,rfl⟩,⟨u,hu1,hu2,hu3⟩,hg3⟩;have hend:=bL HMV.out HCR.out (by omega) (by omega) HT1.out HT2.out hu1 hu2;have HEND:=hide hend;have HU3:=hide hu3;have hgl:=aO hgt hg3;clear hend hu1 hu2 hu3 HC3;go_wp2;go_end0;exact⟨⟨_,rfl⟩,⟨u,HEND.out.1,HEND.out.2,HU3.out⟩,hgl⟩)
               · first
                 | (exfalso;omega)
                 | (have hend:=bL HMV.out HCR.out (by omega) (by omega) HT1.out HT2.out (.refl HT1.out.2.1 mid b) (aS (by omega) (by omega) (by omega) (aG HT1.out (by omega) HQ3.out) (aG HT1.out (by omega) HQ4.out))
                    have HEND:=hide hend;clear hend;go_wp2;go_end0;exact⟨⟨_,rfl⟩,⟨t,HEND.out.1,HEND.out.2,HT3.out⟩,hgt⟩)
               · first
                 | (exfalso;omega)
                 | (have hend:=bL HMV.out HCR.out (by omega) (by omega) HT1.out HT2.out (.refl HT1.out.2.1 mid b) (aS (by omega) (by omega) (by omega) (aG HT1.out (by omega) HQ3.out) (aG HT1.out (by omega) HQ4.out))
                    have HEND:=hide hend;clear hend;go_wp2;go_end0;exact⟨⟨_,rfl⟩,⟨t,HEND.out.1,HEND.out.2,HT3.out⟩,hgt⟩))
          · first
            | (exfalso;omega)
            | (obtain⟨t,htr⟩:∃ t,r=t:=⟨_,rfl⟩
               obtain⟨w2,hww⟩:∃ w2,w1=w2:=⟨_,rfl⟩
               have HT1:Hid (Moved r t a mid):=hide (by rw[←htr];exact .refl HMV.out.2.1 a mid);have HT2:Hid (Risen t a mid):=hide (by rw[←htr];exact aS (by omega) (by omega) (by omega) HQ1.out HQ2.out);have HT3:Hid (WaysAt w2 g t):=hide (by rw[←htr,←hww];exact HW1.out);have HTL:Hid (t.length=l.length):=hide (by rw[←htr];exact HRL.out);have hgt:w.grownBy w2 (some g):=by rw[←hww];exact hg1
               rw[hww];clear htr hww hg1 HW1;rcases three (mid<en) (en<b) with ⟨p1,p2,p3,p4⟩ | ⟨p1,p3⟩ | ⟨p1,p2,p3,p4⟩
               · first
                 | (exfalso;omega)
                 | (have hc3:=HIH.out t mid en b w2 (by omega) HT3.out (by rw[HTL.out];exact hl) p1 p2 (by rw[HTL.out];exact hb) HT1.out.2.1 (aG HT1.out (by omega) HQ3.out) (aG HT1.out (by omega) HQ4.out)
                    unfold dI at hc3;rw[HTL.out] at hc3;have HC3:=hide hc3;clear hc3;go_wp2_with fail
                    refine HC3.out.mono ?_;rintro e w3 ⟨⟨v3,rfl⟩,⟨u,hu1,hu2,hu3⟩,hg3⟩;have hend:=bL HMV.out HCR.out (by omega) (by omega) HT1.out HT2.out hu1 hu2;have HEND:=hide hend;have HU3:=hide hu3;have hgl:=aO hgt hg3;clear hend hu1 hu2 hu3 HC3;go_wp2;go_end0;exact⟨⟨_,rfl⟩,⟨u,HEND.out.1,HEND.out.2,HU3.out⟩,hgl⟩)
               · first
                 | (exfalso;omega)
                 | (have hend:=bL HMV.out HCR.out (by omega) (by omega) HT1.out HT2.out (.refl HT1.out.2.1 mid b) (aS (by omega) (by omega) (by omega) (aG HT1.out (by omega) HQ3.out) (aG HT1.out (by omega) HQ4.out))
                    have HEND:=hide hend;clear hend;go_wp2;go_end0;exact⟨⟨_,rfl⟩,⟨t,HEND.out.1,HEND.out.2,HT3.out⟩,hgt⟩)
               · first
                 | (exfalso;omega)
                 | (have hend:=bL HMV.out HCR.out (by omega) (by omega) HT1.out HT2.out (.refl HT1.out.2.1 mid b) (aS (by omega) (by omega) (by omega) (aG HT1.out (by omega) HQ3.out) (aG HT1.out (by omega) HQ4.out))
                    have HEND:=hide hend;clear hend;go_wp2;go_end0;exact⟨⟨_,rfl⟩,⟨t,HEND.out.1,HEND.out.2,HT3.out⟩,hgt⟩))))
theorem ZW:∀ (K:Nat) (l:List (Int×Int)) (g cap a m b:Nat) (w:World),b-a≤K→WaysAt w g l→l.length≤1000→a<m→m<b→b≤l.length→oJ l→Risen l a m→Risen l m b→dI l g cap a m b w:=by
 intro K
 induction K with
 | zero=>intro l g cap a m b w h;omega
 | succ K ih =>
   intro l g cap a m b w hK hw hl h1 h2 h3 hs hr1 hr2;by_cases c1:m=a+1
   · subst c1;exact YD l g cap a b w hw hl h2 h3 hs hr2 _ (by omega)
   · by_cases c2:b=m+1
     · subst c2;exact RN l g cap a m w hw hl (by omega) (by omega) hs hr1 _ (by omega)
     · by_cases c3:(a+b) / 2<m
       · exact OL l g cap a m b ((a+b) / 2) ((a+b) / 2+m-b) ((a+b) / 2) w hw hl (by omega) (by omega) h3 hs hr1 hr2 (by omega) (by omega) (.inl ⟨c3,by omega,rfl⟩) (fun l' a' m' b' w' hlt=>ih l' g cap a' m' b' w' (by omega))
       · exact OL l g cap a m b ((a+b) / 2) a m w hw hl (by omega) (by omega) h3 hs hr1 hr2 (by omega) (by omega) (.inr ⟨by omega,rfl,rfl⟩) (fun l' a' m' b' w' hlt=>ih l' g cap a' m' b' w' (by omega))
attribute [local go_sem ↓] Go.wp_at_zero Go.wp_at_succ
theorem SE (n g cap a:Nat)(fv:Value)(w:World)(ha:a≤1000) :
 Calls Tryz.prog 252 #[.slice (some ⟨g,0,none⟩) n cap,.int .i64 a,.int .i64 a,fv] w fun e w'=>(∃ v,e=.returned v)∧w'=w:=by
 go_enter Tryz.func252,Tryz.ntmps252;go_wp2
 go_loopw [8] (fun i wr=>i=.int .i64 ((a:Int)+1)∧wr=w) (fun i _=>(a-intOf i).toNat)
 case atStart=>exact⟨rfl,rfl⟩
 case round =>
  obtain⟨rfl,rfl⟩:=hrel;go_wp2;go_end0;exact⟨⟨_,rfl⟩,rfl⟩
theorem ZN (l:List (Int×Int))(g cap:Nat)(w:World)(hw:WaysAt w g l)(h0:0<l.length)(hl:l.length<20)(hs:oJ l) :
 Calls Tryz.prog 246 #[.slice (some ⟨g,0,none⟩) l.length cap,.int .i64 l.length,.func (.func 233) #[] #[]] w fun e w'=>(∃ v,e=.returned v)∧(∃ r,r.Perm l∧oJ r∧Risen r 0 l.length∧WaysAt w' g r)∧w.grownBy w' (some g):=by
 have hc:=tW l g cap 0 l.length w hw (by omega) h0 (Nat.le_refl _);obtain⟨g1,g2,g3,g4⟩:=mW l 0 hs (l.length-0-1) (by omega);rw[show 0+(l.length-0-1)+1=l.length from by omega] at g1;obtain⟨r,hr⟩:∃ r,eO l 0 (l.length-0-1)=r:=⟨_,rfl⟩
 rw[hr] at hc g1 g2 g3;have HC:=hide hc;have G1:=hide g1;have G2:=hide g2;have G3:=hide g3;clear hc g1 g2 g3 g4 hr hw hs;have k1:(20≤l.length)=False:=by simp;omega
 have k2:(20<l.length)=False:=by simp;omega
 have k3:decide ((20:Int)≤(l.length:Int))=false:=by simp;omega
 have k4:decide ((20:Int)<(l.length:Int))=false:=by simp;omega
 go_enter Tryz.func246,Tryz.ntmps246;go_wp2
 go_loopw [7,8] (fun av bv wr=>av=.int .i64 0∧bv=.int .i64 20∧wr=w) (fun _ bv _=>(100-intOf bv).toNat)
 case atStart=>exact⟨rfl,rfl,rfl⟩
 case round =>
  obtain⟨rfl,rfl,rfl⟩:=hrel;go_wp2_with fail
  refine HC.out.mono ?_;rintro e w1 ⟨⟨v,rfl⟩,hw1,hg1⟩;have HW1:=hide hw1;clear hw1 HC;go_wp2
  go_loopw [6,7,8] (fun kv av bv wr=>kv=.int .i64 20∧av=.int .i64 0∧bv=.int .i64 20∧wr=w1) (fun _ bv _ _=>(100-intOf bv).toNat)
  case atStart=>exact⟨rfl,rfl,rfl,rfl⟩
  case round =>
   obtain⟨rfl,rfl,rfl,rfl⟩:=hrel;go_wp2;go_end0;exact⟨⟨_,rfl⟩,⟨r,G3.out,G2.out,G1.out,HW1.out⟩,hg1⟩
theorem WB (l:List (Int×Int))(g cap:Nat)(w:World)(hw:WaysAt w g l)(h0:20≤l.length)(hl:l.length<40)(hs:oJ l) :
 Calls Tryz.prog 246 #[.slice (some ⟨g,0,none⟩) l.length cap,.int .i64 l.length,.func (.func 233) #[] #[]] w fun e w'=>(∃ v,e=.returned v)∧(∃ r,r.Perm l∧oJ r∧Risen r 0 l.length∧WaysAt w' g r)∧w.grownBy w' (some g):=by
 have hc:=tW l g cap 0 20 w hw (by omega) (by omega) h0;obtain⟨g1,g2,g3,g4⟩:=mW l 0 hs (20-0-1) (by omega);obtain⟨r,hr⟩:∃ r,eO l 0 (20-0-1)=r:=⟨_,rfl⟩
 rw[hr] at hc g1 g2 g3;have hrl:=g3.length_eq;have HC:=hide hc;have G1:Hid (Risen r 0 20):=hide g1;have G2:=hide g2;have G3:=hide g3;have HRL:=hide hrl;clear hc g1 g2 g3 g4 hr hw hs hrl;have k1:(20≤l.length)=True:=by simp;omega
 have k3:decide ((20:Int)≤(l.length:Int))=true:=by simp;omega
 have k5:(40≤l.length)=False:=by simp;omega
 have k6:decide ((40:Int)≤(l.length:Int))=false:=by simp;omega
 have k7:(40<l.length)=False:=by simp;omega
 have k8:decide ((40:Int)<(l.length:Int))=false:=by simp;omega
 go_enter Tryz.func246,Tryz.ntmps246;go_wp2
 go_loopw [7,8] (fun av bv wr=>(av=.int .i64 0∧bv=.int .i64 20∧wr=w)∨(av=.int .i64 20∧bv=.int .i64 40∧WaysAt wr g r∧w.grownBy wr (some g))) (fun _ bv _=>(100-intOf bv).toNat)
 case atStart=>exact .inl ⟨rfl,rfl,rfl⟩
 case round =>
  rcases hrel with ⟨rfl,rfl,rfl⟩ | ⟨rfl,rfl,hwr,hgr⟩
  · go_wp2_with fail
    refine HC.out.mono ?_;rintro e w1 ⟨⟨v,rfl⟩,hw1,hg1⟩;have HW1:=hide hw1;clear hw1 HC;go_wp2;exact⟨.inr ⟨rfl,rfl,HW1.out,hg1⟩,by decide⟩
  · have HWR:=hide hwr;clear hwr;by_cases c20:l.length=20
    · have hc2:=SE l.length g cap 20 (.func (.func 233) #[] #[]) wr (by omega);have hc3:Calls Tryz.prog 252 #[.slice (some ⟨g,0,none⟩) l.length cap,.int .i64 20,.int .i64 l.length,.func (.func 233) #[] #[]] wr fun e w'=>(∃ v,e=.returned v)∧w'=wr:=by
       rw[c20] at hc2 ⊢;exact hc2
      have HC3:=hide hc3;have C20:=hide c20;have k9:(20<l.length)=False:=by simp;omega
      have k10:decide ((20:Int)<(l.length:Int))=false:=by simp;omega
      clear hc2 hc3 c20;go_wp2_with fail
      refine HC3.out.mono ?_;rintro e w1 ⟨⟨v,rfl⟩,rfl⟩;clear HC HC3;go_wp2
      go_loopw [6,7,8] (fun kv av bv wr=>kv=.int .i64 20∧av=.int .i64 20∧bv=.int .i64 40∧wr=w1) (fun _ bv _ _=>(100-intOf bv).toNat)
      case atStart=>exact⟨rfl,rfl,rfl,rfl⟩
      case round =>
       obtain⟨rfl,rfl,rfl,rfl⟩:=hrel;go_wp2;go_end0;exact⟨⟨_,rfl⟩,⟨r,G3.out,G2.out,by rw[C20.out];exact G1.out,HWR.out⟩,hgr⟩
    · have h20:20<l.length:=by omega
      have hc2:=tW r g cap 20 l.length wr HWR.out (by rw[HRL.out];omega) h20 (by rw[HRL.out];exact Nat.le_refl _);obtain⟨q1,q2,q3,q4⟩:=mW r 20 G2.out (l.length-20-1) (by rw[HRL.out];omega);rw[show 20+(l.length-20-1)+1=l.length from by omega] at q1;obtain⟨t,ht⟩:∃ t,eO r 20 (l.length-20-1)=t:=⟨_,rfl⟩
      rw[ht] at hc2 q1 q2 q3 q4;have q5:Risen t 0 20:=by
       intro i k i1 ik k1;rw[q4 i (by omega),q4 k (by omega)];exact G1.out i k i1 ik k1
      have q6:=q3.length_eq;rw[HRL.out] at q6 hc2;have HC2:=hide hc2;have Q1:=hide q1;have Q2:=hide q2;have Q3:=hide q3;have Q5:=hide q5;have Q6:=hide q6;clear hc2 q1 q2 q3 q4 q5 q6 ht c20;have k9:(20<l.length)=True:=by simp;omega
      have k10:decide ((20:Int)<(l.length:Int))=true:=by simp;omega
      go_wp2_with fail
      refine HC2.out.mono ?_;rintro e w1 ⟨⟨v,rfl⟩,hw1,hg1⟩;have HW1:=hide hw1;have hgr1:=aO hgr hg1;clear hw1 HC2 hgr hg1 HC HWR;go_wp2
      go_loopw [6,7,8] (fun kv av bv wr=>(kv=.int .i64 20∧av=.int .i64 20∧bv=.int .i64 40∧wr=w1)∨(kv=.int .i64 40∧av=.int .i64 0∧bv=.int .i64 40∧(∃ u,u.Perm l∧oJ u∧Risen u 0 l.length∧WaysAt wr g u)∧w.grownBy wr (some g))) (fun kv _ _ _=>(100-intOf kv).toNat)
      case atStart=>exact .inl ⟨rfl,rfl,rfl,rfl⟩
      case round =>
       rcases hrel with ⟨rfl,rfl,rfl,rfl⟩ | ⟨rfl,rfl,rfl,hu,hgu⟩
       · go_wp2
         go_loopw [7,8] (fun av bv wr2=>av=.int .i64 0∧bv=.int .i64 40∧wr2=wr) (fun _ bv _=>(100-intOf bv).toNat)
         case atStart=>exact⟨rfl,rfl,rfl⟩
         case round =>
          obtain⟨rfl,rfl,rfl⟩:=hrel;have hc4:=ZW l.length t g cap 0 20 l.length wr (by omega) HW1.out (by rw[Q6.out];omega) (by omega) h20 (by rw[Q6.out];exact Nat.le_refl _) Q2.out Q5.out Q1.out;unfold dI at hc4;rw[Q6.out] at hc4;have HC4:=hide hc4;clear hc4;go_wp2_with fail
          refine HC4.out.mono ?_;rintro e w3 ⟨⟨v3,rfl⟩,⟨u,hu1,hu2,hu3⟩,hg3⟩;have HU:Hid (∃ u,u.Perm l∧oJ u∧Risen u 0 l.length∧WaysAt w3 g u):=hide ⟨u,(hu1.1.trans Q3.out).trans G3.out,hu1.2.1,hu2,hu3⟩;have hgu:=aO hgr1 hg3;clear hu1 hu2 hu3 hg3 HC4;go_wp2;exact⟨.inr ⟨rfl,rfl,rfl,HU.out,hgu⟩,by decide⟩
       · have HU:=hide hu;clear hu;go_wp2;go_end0;exact⟨⟨_,rfl⟩,HU.out,hgu⟩
theorem x9 (l:List (Int×Int))(g cap:Nat)(w:World)(hw:WaysAt w g l)(h0:0<l.length)(hl:l.length<40)(hs:oJ l) :
 Calls Tryz.prog 246 #[.slice (some ⟨g,0,none⟩) l.length cap,.int .i64 l.length,.func (.func 233) #[] #[]] w fun e w'=>(∃ v,e=.returned v)∧(∃ r,r.Perm l∧oJ r∧Risen r 0 l.length∧WaysAt w' g r)∧w.grownBy w' (some g):=by
 by_cases h:l.length<20
 · exact ZN l g cap w hw h0 h hs
 · exact WB l g cap w hw (by omega) hl hs
theorem RJ (l:List (Int×Int))(g cap:Nat)(w:World)(hw:WaysAt w g l)(h0:0<l.length)(hl:l.length<40)(hs:oJ l) :
 Calls Tryz.prog 232 #[.slice (some ⟨g,0,none⟩) l.length cap,.func (.func 233) #[] #[]] w fun e w'=>(∃ v,e=.returned v)∧(∃ r,r.Perm l∧oJ r∧Risen r 0 l.length∧WaysAt w' g r)∧w.grownBy w' (some g):=by
 have HC:=hide (x9 l g cap w hw h0 hl hs);clear hw hs;go_enter Tryz.func232,Tryz.ntmps232;go_wp2_with fail
 refine HC.out.mono ?_;rintro e w1 ⟨⟨v,rfl⟩,hu,hg⟩;have HU:=hide hu;clear hu;go_wp2;go_end0;exact⟨⟨_,rfl⟩,HU.out,hg⟩
end Go.Proofs.YtgohllfpceeboabGreatDoor
namespace Sx
theorem UK {α:Type}(lt:α→α→Bool)(x:α)(l:List α):(ins lt x l).Perm (x::l):=by
 induction l with
 | nil=>exact .refl _
 | cons y r ih =>
   simp only[ins];split
   · exact .refl _
   · exact(List.Perm.cons y ih).trans (List.Perm.swap x y r)
theorem LI {α:Type}(lt:α→α→Bool)(l:List α):∀ acc,(lY lt acc l).Perm (acc++l):=by
 induction l with
 | nil=>intro acc;simp only[lY,List.append_nil];exact .refl _
 | cons x r ih =>
   intro acc;simp only[lY];refine(ih _).trans ?_;refine((UK lt x acc).append_right r).trans ?_;rw[List.cons_append];exact List.perm_middle.symm
theorem DR (l:List Int):(fF l).Perm (mD l):=LI _ _ _
end Sx
namespace Go.Proofs.YtgohllfpceeboabGreatDoor
open Go.RowKit
theorem NY (l:List Int)(xs:List Nat)(h:xs.Pairwise (fun a b=>l.getD a 0=l.getD b 0→Sx.bZ l a<Sx.bZ l b)):oJ (xs.map (Sx.bQ l)):=by
 intro i k hik hk;rw[List.length_map] at hk;have h1:=List.pairwise_iff_getElem.1 h i k (by omega) hk hik;rw[List.getD_eq_getElem?_getD,List.getD_eq_getElem?_getD,List.getElem?_map,List.getElem?_map,List.getElem?_eq_getElem hk,List.getElem?_eq_getElem (show i<xs.length by omega)];simp only[Option.map_some,Option.getD_some,Sx.bQ];intro he;have:=h1 he;omega
theorem SQ (l:List Int)(xs:List Nat)(h:xs.Pairwise (fun a b=>l.getD a 0≤l.getD b 0)):Risen (xs.map (Sx.bQ l)) 0 (xs.map (Sx.bQ l)).length:=by
 intro i k _ hik hk;rw[List.length_map] at hk;have h1:=List.pairwise_iff_getElem.1 h i k (by omega) hk hik;rw[List.getD_eq_getElem?_getD,List.getD_eq_getElem?_getD,List.getElem?_map,List.getElem?_map,List.getElem?_eq_getElem hk,List.getElem?_eq_getElem (show i<xs.length by omega)];simp only[Option.map_some,Option.getD_some,Sx.bQ];exact h1
theorem IP (l:List Int):oJ ((Sx.mD l).map (Sx.bQ l)):=by
 refine NY l _ ?_;unfold Sx.mD;have h1:((List.range l.length).filter fun k=>decide (128≤l.getD k 0)).Pairwise (fun a b=>a<b):=List.Pairwise.filter _ List.pairwise_lt_range;refine List.Pairwise.imp_of_mem ?_ h1;intro a b ha hb hlt he;have:=(List.mem_filter.1 hb).1;rw[List.mem_range] at this;have:=Sx.pE l a b hlt this he;omega
theorem E5 (l:List Int):oJ ((Sx.fF l).map (Sx.bQ l)):=by
 refine NY l _ (List.Pairwise.imp_of_mem ?_ (Sx.jF l));intro a b ha hb h he;rcases h with h | ⟨_,h⟩
 · omega
 · have:=Sx.pE l a b h ((Sx.pY l b).1 hb).1 he;omega
theorem RS (l:List Int):Risen ((Sx.fF l).map (Sx.bQ l)) 0 ((Sx.fF l).map (Sx.bQ l)).length:=by
 refine SQ l _ (List.Pairwise.imp ?_ (Sx.jF l));intro a b h;rcases h with h | ⟨h,_⟩ <;> omega
def dG (l:List Int)(k:Nat):List (Int×Int):=((List.range k).filter fun j=>decide (128≤l.getD j 0)).map (Sx.bQ l)
theorem oU (l:List Int):dG l l.length=(Sx.mD l).map (Sx.bQ l):=rfl
theorem zY (l:List Int)(k:Nat)(h:128≤l.getD k 0):dG l (k+1)=dG l k++[Sx.bQ l k]:=by
 unfold dG;rw[List.range_succ,List.filter_append,List.map_append];congr 1;simp only[List.filter_cons,h,decide_true,if_true,List.filter_nil,List.map_cons,List.map_nil]
theorem tU (l:List Int)(k:Nat)(h:¬ 128≤l.getD k 0):dG l (k+1)=dG l k:=by
 unfold dG;rw[List.range_succ,List.filter_append,List.map_append];simp only[List.filter_cons,h,decide_false,List.filter_nil,List.map_nil,List.append_nil,Bool.false_eq_true,if_false]
theorem yD (l:List Int)(k:Nat):(dG l k).length≤k:=by
 unfold dG;rw[List.length_map];have:=List.length_filter_le (fun j=>decide (128≤l.getD j 0)) (List.range k);rw[List.length_range] at this;exact this
theorem IV (l:List Int)(r:List (Int×Int))(h1:r.Perm (dG l l.length))(h2:oJ r)(h3:Risen r 0 (dG l l.length).length):r=(Sx.fF l).map (Sx.bQ l):=by
 refine PP r _ ?_ h2 (E5 l) ?_ (RS l)
 · rw[oU] at h1;exact h1.trans ((Sx.DR l).map _).symm
 · rw[h1.length_eq];exact h3
def TR (l:List (Int×Int)):List Value:=l.flatMap fun x=>[Value.int .i64 x.1,Value.int .i64 x.2]
theorem o5 (a b:List (Int×Int)):TR (a++b)=TR a++TR b:=by simp[TR]
theorem y7:∀ (l:List (Int×Int)) (j:Nat) (h:j<l.length),(TR l)[j*2]? = some (.int .i64 l[j].1)∧(TR l)[j*2+1]? = some (.int .i64 l[j].2):=by
 intro l
 induction l with
 | nil=>intro j h;exact absurd h (Nat.not_lt_zero _)
 | cons x r ih =>
   intro j h;have e:TR (x::r)=Value.int .i64 x.1::Value.int .i64 x.2::TR r:=rfl;cases j with
   | zero=>rw[e];exact⟨rfl,rfl⟩
   | succ j =>
     have:=ih j (by simpa using h);rw[e,show(j+1)*2=j*2+1+1 from by omega]
     simpa using this
theorem FX {w:World}{B g n cap:Nat}{l:List (Int×Int)}(h:w.ownsRow B 234 2 (.slice (some ⟨g,0,none⟩) n cap) n (TR l))(hg:g<w.heap.size):WaysAt w g l:=by
 refine⟨hg,fun j hj=>?_,fun o=>h.frozenAt o⟩;obtain⟨a1,a2⟩:=y7 l j hj;have c1:=h.cells (g:=g) rfl _ _ a1;have c2:=h.cells (g:=g) rfl _ _ a2;rw[Addr.add_lit,Nat.zero_add] at c1 c2;exact⟨c1,c2⟩
theorem cell_two_new (w:World)(x y:Value)(t:TypeId):∀ (j:Nat) (u:Value),[x,y][j]? = some u→(w.alloc (.cells #[x,y] t)).cell? ((⟨w.heap.size,0,none⟩:Addr).add j)=some u:=by
 intro j u hj;rw[Addr.add_lit,Nat.zero_add,World.cell?_alloc_mark]
 simpa using hj
theorem RuAt.below {W W':World}{b B:Nat}{l:List Int}(h:RuAt W b l)(hb:Below B W W')(hg:b<B):RuAt W' b l :=
 ⟨Nat.lt_of_lt_of_le h.1 hb.size,fun j hj=>(hb.cell (p:=⟨b,j,none⟩) hg).trans (h.2 j hj)⟩
theorem XR {W:World}{B:Nat}{e:TypeId}{size:Nat}{v:Value}{k:Nat}{xs:List Value}(h:W.ownsRow B e size v (k+1) xs):∃ g cap,v=.slice (some ⟨g,0,none⟩) (k+1) cap:=by
 rcases h.2 with ⟨_,h⟩ | ⟨g,cap,_,h,_⟩
 · omega
 · exact⟨g,cap,h⟩
theorem QK (l:List Int)(b cap:Nat)(w:World)(hr:RuAt w b l)(hl:l.length≤100)(hcap:l.length≤cap)(hrange:∀ c∈l,0≤c∧c≤1114111)(h0:0<(dG l l.length).length)(h40:(dG l l.length).length<40) :
 Calls Tryz.prog 188 #[.slice (some ⟨b,0,none⟩) l.length cap] w fun e w'=>∃ g cap',e=.returned (.slice (some ⟨g,0,none⟩) ((Sx.fF l).map (Sx.bQ l)).length cap')∧WaysAt w' g ((Sx.fF l).map (Sx.bQ l))∧w.heap.size≤g∧Below w.heap.size w w':=by
 obtain⟨i0,hi,hz0,hz1,hz2⟩:=info_parts Tryz.info234;have HR:=hide hr;have HRG:=hide hrange;have H0:=hide h0;have H40:=hide h40;have hbw:=hr.1;clear hr hrange h0 h40;go_enter Tryz.func188,Tryz.ntmps188;go_wp2
 go_loopw [3,8] (fun v i wr=>∃ k n:Nat,i=.int .i64 k∧k≤l.length∧(dG l k).length=n∧wr.ownsRow w.heap.size 234 2 v n (TR (dG l k))∧Below w.heap.size w wr) (fun _ i _=>(l.length-intOf i).toNat)
 case atStart=>exact⟨0,0,rfl,by omega,rfl,World.ownsRow_nil _ _ _ _,Below.refl _ _⟩
 case round =>
  obtain⟨k,n,rfl,hk,hn,hown,hB⟩:=hrel;have hnk:n≤100:=by have:=yD l k;omega
  have HN:=hide hn;have hsz:=hB.size;clear hn;by_cases hlt:k<l.length
  · have hru:=HR.out.below hB hbw;have hc:=hru.2 k hlt;obtain⟨x,hx⟩:∃ x,l[k]=x:=⟨_,rfl⟩
    have hxr:=HRG.out l[k] (List.getElem_mem hlt);have hxd:l.getD k 0=x:=by rw[List.getD_eq_getElem?_getD,List.getElem?_eq_getElem hlt,Option.getD_some,hx]
    rw[hx] at hc hxr;obtain⟨hx0,hx1⟩:=hxr;have HRU:=hide hru;have HXD:=hide hxd;clear hru hx hxd;by_cases hf:128≤x
    · have hst:(Sx.bZ l k:Nat)=(l.take k).countP fun y=>decide (y≤x):=by unfold Sx.bZ;rw[HXD.out]
      obtain⟨q,hq⟩:∃ q,(l.take k).countP (fun y=>decide (y≤x))=q:=⟨_,rfl⟩
      rw[hq] at hst;have HST:=hide hst;have HQ:=hide hq;have hd:decide (128≤x)=true:=by simp;omega
      clear hst hq;go_wp2_with (first | (go_at_call 132;go_must (refine(fX _ _).mono ?_;rintro e w' ⟨rfl,rfl⟩;rw[hd])) | (go_at_call 231;go_must (refine(i9 l _ _ _ _ _ HRU.out (by omega) (by omega)).mono ?_;rintro e w' ⟨rfl,rfl⟩;rw[HQ.out])) | (at_builtin;go_must (refine wpList_append_lies _ rfl _ _ _ rfl w.heap.size 234 i0 (.agg #[.int .i64 0,.int .i64 0]) 2 16 Tryz.underlying263 hi hz0 hz1 hz2 rfl (by decide) _ _ _ rfl (hown.alloc _) ⟨_,0,none⟩ 1 1 [.int .i64 x,.int .i64 q] rfl rfl (cell_two_new _ _ _ _) (by simp[Value.oneCell']) (by omega) (by unfold maxLen;omega) (by omega) (by simp;omega) _ rfl ?_;intro g cap1 w1 hown1 hgrow hat hlt1)))
      refine⟨⟨k+1,n+1,by go_num,by omega,?_,?_,aH hB hsz hown hgrow⟩,by simp[intOf];omega⟩
      · rw[zY l k (by rw[HXD.out];exact hf),List.length_append,HN.out];rfl
      · rw[zY l k (by rw[HXD.out];exact hf),o5];have e:TR [Sx.bQ l k]=[.int .i64 x,.int .i64 q]:=by unfold TR Sx.bQ;rw[HXD.out,HST.out];rfl
        rw[e];exact hown1
    · have hd:decide (128≤x)=false:=by simp;omega
      go_wp2_with (go_at_call 132;go_must (refine(fX _ _).mono ?_;rintro e w' ⟨rfl,rfl⟩;rw[hd]))
      refine⟨⟨k+1,n,by go_num,by omega,?_,?_,hB⟩,by simp[intOf];omega⟩
      · rw[tU l k (by rw[HXD.out];omega)];exact HN.out
      · rw[tU l k (by rw[HXD.out];omega)];exact hown
  · have hkl:k=l.length:=by omega
    subst hkl;have hn0:0<n:=by rw[←HN.out];exact H0.out
    obtain⟨n',hn'⟩:∃ n',n=n'+1:=⟨n-1,by omega⟩
    rw[hn'] at hown;obtain⟨g,cap',rfl⟩:=XR hown;have hgl:=hown.lt g rfl;have hwa:=FX hown hgl.2;have hlen:(dG l l.length).length=n'+1:=by rw[HN.out,hn']
    have hc:=RJ (dG l l.length) g cap' wr hwa H0.out H40.out (by rw[oU];exact IP l);rw[hlen] at hc;have HC:=hide hc;have HL:=hide hlen;clear hc hlen hwa hn' hn0 hown;go_wp2_with fail
    refine HC.out.mono ?_;rintro e w1 ⟨⟨v,rfl⟩,⟨r,hr1,hr2,hr3,hr4⟩,hg1⟩;have hre:=IV l r hr1 hr2 (by rw[HL.out];exact hr3);have hrn:r.length=n'+1:=by rw[hr1.length_eq];exact HL.out
    rw[hre] at hr4 hrn;have HR4:=hide hr4;have HRN:=hide hrn;have hB1:=hB.grown hg1 hB.size (fun k e=>by cases e;exact hgl.1);clear hr1 hr2 hr3 hr4 hre hrn HC;go_wp2;go_ret;exact⟨g,cap',by rw[HRN.out];rfl,HR4.out,hgl.1,hB1⟩
end Go.Proofs.YtgohllfpceeboabGreatDoor
