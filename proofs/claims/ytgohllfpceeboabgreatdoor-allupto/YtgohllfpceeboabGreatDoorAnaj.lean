import Derived.Test.YtgohllfpceeboabGreatDoorAnaa
import GoSem.Core.Utf8
/- Plain mathematics: the model's runes against the document's aF. -/
namespace Sx
open Go
theorem get_at (s:ByteArray)(i:Nat)(h:i<s.data.toList.length):s.get! i=s.data.toList[i]:=by
 have h2:i<s.data.size:=by simpa using h
 show s.data[i]! = _;rw[getElem!_pos s.data i h2];simp
theorem iZ (m:Nat)(c:Int)(l:List UInt8)(j:Nat)(p:Int×List UInt8)(h:cB (m+1) c (l.drop j)=some p):∃ hj:j<l.length,128≤l[j].toNat∧l[j].toNat<192∧cB m (c*64+l[j].toNat-128) (l.drop (j+1))=some p:=by
 by_cases hj:j<l.length
 · by_cases h1:128≤l[j].toNat∧l[j].toNat<192
   · exact⟨hj,h1.1,h1.2,by rw[←nJ m c l j hj h1.1 h1.2];exact h⟩
   · rw[jO m c l j hj h1] at h;cases h
 · rw[nQ m c l j (by omega)] at h;cases h
theorem WL (m:Nat)(c least:Int)(s:List UInt8)(c':Int)(r:List UInt8)(h:rest m c least s=some (c',r)):cB m c s=some (c',r)∧least≤c'∧c'≤1114111∧¬ (55296≤c'∧c'≤57343):=by
 unfold rest at h;split at h
 · cases h
 · rename_i c2 s2 hc;split at h
   · cases h
   · rename_i hb;simp only[Option.some.injEq,Prod.mk.injEq] at h;obtain⟨rfl,rfl⟩:=h;exact⟨hc,by omega,by omega,by omega⟩
theorem UN (l:List UInt8)(i:Nat)(h:i+1<l.length):(l.drop i).take 2=[l[i],l[i+1]]:=by
 rw[bP l i (by omega),bP l (i+1) h];rfl
theorem LD (l:List UInt8)(i:Nat)(h:i+2<l.length):(l.drop i).take 3=[l[i],l[i+1],l[i+2]]:=by
 rw[bP l i (by omega),bP l (i+1) (by omega),bP l (i+2) h];rfl
theorem QA (l:List UInt8)(i:Nat)(h:i+3<l.length):(l.drop i).take 4=[l[i],l[i+1],l[i+2],l[i+3]]:=by
 rw[bP l i (by omega),bP l (i+1) (by omega),bP l (i+2) (by omega),bP l (i+3) h];rfl
theorem iR (x:UInt8)(n:Int)(h:n=x.toNat):UInt8.ofNat n.toNat=x:=by
 subst h;simp
theorem decode_one (s:ByteArray)(i:Nat)(c:Int)(r:List UInt8)(h:one (s.data.toList.drop i)=some (c,r)) :
 Utf8.decode s i=(c.toNat,s.data.toList.length-i-r.length)∧r=s.data.toList.drop (s.data.toList.length-r.length)∧i+r.length<s.data.toList.length∧0≤c∧c≤1114111∧¬ (55296≤c∧c≤57343)∧fV c=(s.data.toList.drop i).take (s.data.toList.length-i-r.length):=by
 obtain⟨l,hl⟩:∃ l,s.data.toList=l:=⟨_,rfl⟩
 have hsz:s.size=l.length:=by rw[←hl];simp
 by_cases hi:i<l.length
 · have hg:∀ k (hk:i+k<l.length),s.get! (i+k)=l[i+k]:=by
    intro k hk;have:=get_at s (i+k) (by rw[hl];exact hk);rw[this];simp[hl]
   rw[hl] at h ⊢;rw[bP l i hi] at h;simp only[one] at h;have h0:=hg 0 (by omega);simp only[Nat.add_zero] at h0;obtain⟨x,hx⟩:∃ x,l[i]=x:=⟨_,rfl⟩
   rw[hx] at h h0;have hxl:=x.toNat_lt;cases hlead:lead x with
   | none=>rw[hlead] at h;cases h
   | some q =>
     obtain⟨m,c0,least⟩:=q;rw[hlead] at h;obtain⟨hcf,hle,hhi,hsur⟩:=WL _ _ _ _ _ _ h;unfold lead at hlead;by_cases b1:x.toNat<128
     · rw[if_pos b1] at hlead;simp only[Option.some.injEq,Prod.mk.injEq] at hlead;obtain⟨rfl,rfl,rfl⟩:=hlead;simp only[cB,Option.some.injEq,Prod.mk.injEq] at hcf;obtain⟨rfl,rfl⟩:=hcf;have hrl:(l.drop (i+1)).length=l.length-(i+1):=by simp
       rw[hrl,show l.length-i-(l.length-(i+1))=1 from by omega,show l.length-(l.length-(i+1))=i+1 from by omega];refine⟨?_,rfl,by omega,by omega,by omega,hsur,?_⟩
       · unfold Utf8.decode;simp only[Nat.add_zero,h0,b1,if_true,Int.toNat_natCast]
       · rw[bP l i hi,hx];unfold fV;rw[if_pos (by omega)];simp
     · rw[if_neg b1] at hlead;by_cases b2:192≤x.toNat∧x.toNat<224
       · rw[if_pos b2] at hlead;simp only[Option.some.injEq,Prod.mk.injEq] at hlead;obtain⟨rfl,rfl,rfl⟩:=hlead;obtain⟨hj1,y1,y2,hcf⟩:=iZ _ _ _ _ _ hcf;have h1:=hg 1 hj1;obtain⟨y,hy⟩:∃ y,l[i+1]=y:=⟨_,rfl⟩
         rw[hy] at y1 y2 hcf h1;simp only[cB,Option.some.injEq,Prod.mk.injEq] at hcf;obtain⟨hc,rfl⟩:=hcf;have hrl:(l.drop (i+1+1)).length=l.length-(i+2):=by simp
         rw[hrl,show l.length-i-(l.length-(i+2))=2 from by omega,show l.length-(l.length-(i+2))=i+1+1 from by omega];refine⟨?_,rfl,by omega,by omega,by omega,hsur,?_⟩
         · unfold Utf8.decode;have a1:¬ x.toNat<128:=b1;have a2:(x.toNat / 32 == 6)=true:=by rw[beq_iff_eq];omega
           have a3:decide (i+1<s.size)=true:=by simp;omega
           have a4:(y.toNat / 64 == 2)=true:=by rw[beq_iff_eq];omega
           simp only[Nat.add_zero,h0,h1,a1,a2,a3,a4,if_false,Bool.and_self,if_true];rw[if_pos (by omega)];congr 1;omega
         · rw[UN l i hj1,hx,hy];unfold fV;rw[if_neg (by omega),if_pos (by omega),iR x _ (by omega),iR y _ (by omega)]
       · rw[if_neg b2] at hlead;by_cases b3:224≤x.toNat∧x.toNat<240
         · rw[if_pos b3] at hlead;simp only[Option.some.injEq,Prod.mk.injEq] at hlead;obtain⟨rfl,rfl,rfl⟩:=hlead;obtain⟨hj1,y1,y2,hcf⟩:=iZ _ _ _ _ _ hcf;obtain⟨hj2,z1,z2,hcf⟩:=iZ _ _ _ _ _ hcf;have h1:=hg 1 hj1;have h2:=hg 2 hj2;obtain⟨y,hy⟩:∃ y,l[i+1]=y:=⟨_,rfl⟩
           obtain⟨z,hz⟩:∃ z,l[i+1+1]=z:=⟨_,rfl⟩
           rw[hy] at y1 y2 hcf h1;rw[hz] at z1 z2 hcf;have h2':s.get! (i+2)=z:=by rw[h2,←hz]
           simp only[cB,Option.some.injEq,Prod.mk.injEq] at hcf;obtain⟨hc,rfl⟩:=hcf;have hrl:(l.drop (i+1+1+1)).length=l.length-(i+3):=by simp
           rw[hrl,show l.length-i-(l.length-(i+3))=3 from by omega,show l.length-(l.length-(i+3))=i+1+1+1 from by omega];refine⟨?_,rfl,by omega,by omega,by omega,hsur,?_⟩
           · unfold Utf8.decode;have a1:¬ x.toNat<128:=b1;have a2:(x.toNat / 32 == 6)=false:=by simp only[beq_eq_false_iff_ne,ne_eq];omega
             have a2':(x.toNat / 16 == 14)=true:=by rw[beq_iff_eq];omega
             have a3:decide (i+1<s.size)=true:=by simp;omega
             have a3':decide (i+2<s.size)=true:=by simp;omega
             have a4:(y.toNat / 64 == 2)=true:=by rw[beq_iff_eq];omega
             have a5:(z.toNat / 64 == 2)=true:=by rw[beq_iff_eq];omega
             simp only[Nat.add_zero,h0,h1,h2',a1,a2,a2',a3,a3',a4,a5,if_false,Bool.and_self,Bool.false_and,Bool.false_eq_true,if_true];have e:((x.toNat % 16)*4096+(y.toNat % 64)*64+z.toNat % 64:Nat)=c.toNat:=by omega
             rw[e];have v:Utf8.valid (c.toNat:Int)=true:=by
              unfold Utf8.valid;rw[show((c.toNat:Nat):Int)=c from by omega];simp;omega
             rw[v,if_pos (by simp;omega)]
           · rw[LD l i (by omega),hx,hy,show l[i+2]=z from hz];unfold fV;rw[if_neg (by omega),if_neg (by omega),if_pos (by omega),iR x _ (by omega),iR y _ (by omega),iR z _ (by omega)]
         · rw[if_neg b3] at hlead;by_cases b4:240≤x.toNat∧x.toNat<248
           · rw[if_pos b4] at hlead;simp only[Option.some.injEq,Prod.mk.injEq] at hlead;obtain⟨rfl,rfl,rfl⟩:=hlead;obtain⟨hj1,y1,y2,hcf⟩:=iZ _ _ _ _ _ hcf;obtain⟨hj2,z1,z2,hcf⟩:=iZ _ _ _ _ _ hcf;obtain⟨hj3,v1,v2,hcf⟩:=iZ _ _ _ _ _ hcf;have h1:=hg 1 hj1;have h2:=hg 2 hj2;have h3:=hg 3 hj3;obtain⟨y,hy⟩:∃ y,l[i+1]=y:=⟨_,rfl⟩
             obtain⟨z,hz⟩:∃ z,l[i+1+1]=z:=⟨_,rfl⟩
             obtain⟨v,hv⟩:∃ v,l[i+1+1+1]=v:=⟨_,rfl⟩
             rw[hy] at y1 y2 hcf h1;rw[hz] at z1 z2 hcf;rw[hv] at v1 v2 hcf;have h2':s.get! (i+2)=z:=by rw[h2,←hz]
             have h3':s.get! (i+3)=v:=by rw[h3,←hv]
             simp only[cB,Option.some.injEq,Prod.mk.injEq] at hcf;obtain⟨hc,rfl⟩:=hcf;have hrl:(l.drop (i+1+1+1+1)).length=l.length-(i+4):=by simp
             rw[hrl,show l.length-i-(l.length-(i+4))=4 from by omega,show l.length-(l.length-(i+4))=i+1+1+1+1 from by omega];refine⟨?_,rfl,by omega,by omega,by omega,hsur,?_⟩
             · unfold Utf8.decode;have a1:¬ x.toNat<128:=b1;have a2:(x.toNat / 32 == 6)=false:=by simp only[beq_eq_false_iff_ne,ne_eq];omega
               have a2':(x.toNat / 16 == 14)=false:=by simp only[beq_eq_false_iff_ne,ne_eq];omega
               have a2'':(x.toNat / 8 == 30)=true:=by rw[beq_iff_eq];omega
               have a3:decide (i+1<s.size)=true:=by simp;omega
               have a3':decide (i+2<s.size)=true:=by simp;omega
               have a3'':decide (i+3<s.size)=true:=by simp;omega
               have a4:(y.toNat / 64 == 2)=true:=by rw[beq_iff_eq];omega
               have a5:(z.toNat / 64 == 2)=true:=by rw[beq_iff_eq];omega
               have a6:(v.toNat / 64 == 2)=true:=by rw[beq_iff_eq];omega
               simp only[Nat.add_zero,h0,h1,h2',h3',a1,a2,a2',a2'',a3,a3',a3'',a4,a5,a6,if_false,Bool.and_self,Bool.false_and,Bool.false_eq_true,if_true];have e:((x.toNat % 8)*262144+(y.toNat % 64)*4096+(z.toNat % 64)*64+v.toNat % 64:Nat)=c.toNat:=by omega
               rw[e];have vv:Utf8.valid (c.toNat:Int)=true:=by
                unfold Utf8.valid;rw[show((c.toNat:Nat):Int)=c from by omega];simp;omega
               rw[vv,if_pos (by simp;omega)]
             · rw[QA l i (by omega),hx,hy,show l[i+2]=z from hz,show l[i+3]=v from hv];unfold fV;rw[if_neg (by omega),if_neg (by omega),if_neg (by omega),iR x _ (by omega),iR y _ (by omega),iR z _ (by omega),iR v _ (by omega)]
           · rw[if_neg b4] at hlead;cases hlead
 · rw[hl,List.drop_eq_nil_of_le (by omega)] at h;simp[one] at h
end Sx
namespace Sx
theorem BR (s:List UInt8)(pos:Nat)(l:List Int)(h:aF (s.drop pos)=some l)(hp:pos<s.length):∃ c r l',one (s.drop pos)=some (c,r)∧l=c::l'∧aF r=some l':=by
 cases ho:one (s.drop pos) with
 | none=>rw[lI _ (by intro e;have:=congrArg List.length e;simp at this;omega) ho] at h;cases h
 | some p =>
   obtain⟨c,r⟩:=p;rw[iQ _ _ _ ho] at h;rw[Option.map_eq_some_iff] at h;obtain⟨l',h1,h2⟩:=h;exact⟨c,r,l',rfl,h2.symm,h1⟩
theorem jD (s:ByteArray)(pos:Nat)(l:List Int)(h:aF (s.data.toList.drop pos)=some l)(hp:pos<s.size):∃ (c:Int) (n:Nat) (l':List Int),Go.Utf8.decode s pos=(c.toNat,n)∧l=c::l'∧0≤c∧c≤1114111∧¬ (55296≤c∧c≤57343)∧1≤n∧pos+n≤s.size∧aF (s.data.toList.drop (pos+n))=some l'∧fV c=(s.data.toList.drop pos).take n:=by
 have hl:s.data.toList.length=s.size:=by simp
 obtain⟨c,r,l',h1,h2,h3⟩:=BR _ _ _ h (by omega);obtain⟨d1,d2,d3,d4,d5,d6,d7⟩:=decode_one s pos c r h1;refine⟨c,_,l',d1,h2,d4,d5,d6,by omega,by omega,?_,d7⟩;rw[show pos+(s.data.toList.length-pos-r.length)=s.data.toList.length-r.length from by omega,←d2];exact h3
end Sx
