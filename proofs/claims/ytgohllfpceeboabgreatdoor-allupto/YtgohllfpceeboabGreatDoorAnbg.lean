import Derived.Test.YtgohllfpceeboabGreatDoorAnax
import Derived.Test.YtgohllfpceeboabGreatDoorAnaz
import Derived.Deep.CutBlock
import Derived.Deep.DeepCutAuto
set_option maxRecDepth 100000
set_option maxHeartbeats 4000000
namespace Sx
def dE (h t:List (List UInt8)):Bool:=decide (t.length≤h.length) && decide (h.drop (h.length-t.length)=t)
theorem YW {h t:List (List UInt8)}(hl:t.length≤h.length)(he:∀ j (h1:j<t.length) (h2:h.length-t.length+j<h.length),h[h.length-t.length+j]=t[j]):dE h t=true:=by
 unfold dE;rw[Bool.and_eq_true,decide_eq_true_eq,decide_eq_true_eq];refine⟨hl,List.ext_getElem (by rw[List.length_drop];omega) fun j h1 h2=>?_⟩;rw[List.getElem_drop];exact he j h2 (by omega)
theorem E8 {h t:List (List UInt8)}(j:Nat)(h1:j<t.length)(h2:h.length-t.length+j<h.length)(hne:h[h.length-t.length+j]≠t[j]):dE h t=false:=by
 unfold dE;rw[Bool.and_eq_false_iff];right;rw[decide_eq_false_iff_not];intro e;apply hne;have h3:(h.drop (h.length-t.length))[j]? = t[j]?:=by rw[e]
 rw[List.getElem?_drop,List.getElem?_eq_getElem h2,List.getElem?_eq_getElem h1] at h3;exact Option.some.inj h3
end Sx
namespace Go.Proofs.YtgohllfpceeboabGreatDoor
open Go.RowKit
theorem J9 (h t:List (List UInt8))(B1 B2 b1 c1 b2 c2:Nat)(w:World)(hl:h.length≤1000)(hl2:t.length≤1000)(ho1:w.ownsRow B1 9 1 (.slice (some ⟨b1,0,none⟩) h.length c1) h.length (bB h))(ho2:w.ownsRow B2 9 1 (.slice (some ⟨b2,0,none⟩) t.length c2) t.length (bB t)) :
 Calls Tryz.prog 158 #[.slice (some ⟨b1,0,none⟩) h.length c1,.slice (some ⟨b2,0,none⟩) t.length c2] w fun e w'=>e=.returned (.bool (Sx.dE h t))∧Below w.heap.size w w':=by
 have HO1:=hide ho1;have HO2:=hide ho2;clear ho1 ho2;by_cases hlt:h.length<t.length
 · have hr:Sx.dE h t=false:=by unfold Sx.dE;rw[Bool.and_eq_false_iff];left;rw[decide_eq_false_iff_not];omega
   have HR:=hide hr;clear hr;go_enter Tryz.func158,Tryz.ntmps158;go_wp2;go_ret;exact⟨by rw[HR.out];rfl,Below.refl _ _⟩
 · have hge:t.length≤h.length:=by omega
   go_enter Tryz.func158,Tryz.ntmps158;go_wp2
   go_loopw [5] (fun iv wr=>∃ i:Nat,iv=.int .i64 (i+1:Nat)∧i≤t.length∧(∀ j (h1:t.length-i≤j) (h2:j<t.length) (h3:h.length-t.length+j<h.length),h[h.length-t.length+j]=t[j])∧Below w.heap.size w wr) (fun iv _=>(t.length+1-intOf iv).toNat)
   case atStart=>exact⟨0,rfl,by omega,fun j h1 h2 _=>by omega,Below.refl _ _⟩
   case round =>
    obtain⟨i,rfl,hi,hall,hB⟩:=hrel;have HALL:=hide hall;clear hall;by_cases hil:i<t.length
    · have hA:h.length-(i+1)<h.length:=by omega
      have hT:t.length-(i+1)<t.length:=by omega
      have cA:=dJ (aD HO1.out hB) _ hA;have cT:=dJ (aD HO2.out hB) _ hT;have hidx:h.length-t.length+(t.length-(i+1))=h.length-(i+1):=by omega
      have hea:h[h.length-t.length+(t.length-(i+1))]'(by omega)=h[h.length-(i+1)]:=by congr 1
      obtain⟨x,hx⟩:∃ x,h[h.length-(i+1)]=x:=⟨_,rfl⟩
      obtain⟨y,hy⟩:∃ y,t[t.length-(i+1)]=y:=⟨_,rfl⟩
      rw[hx] at cA hea;rw[hy] at cT;obtain⟨nA,hnA⟩:∃ nA,h.length-(i+1)=nA:=⟨_,rfl⟩
      obtain⟨nT,hnT⟩:∃ nT,t.length-(i+1)=nT:=⟨_,rfl⟩
      rw[hnA] at cA;rw[hnT] at cT;have iA:(h.length:Int)-((i:Int)+1)=nA:=by omega
      have iT:(t.length:Int)-((i:Int)+1)=nT:=by omega
      cases hxy:(x == y) with
      | false =>
        have hr:Sx.dE h t=false:=Sx.E8 (t.length-(i+1)) hT (by omega) (by rw[hea,hy];simpa using hxy);have HR:=hide hr;clear hr hx hy hea hidx hnA hnT;go_wp2;go_quiet ((fail))
        go_wp2;go_ret;exact⟨by rw[HR.out];rfl,Go.below_drewN hB _⟩
      | true =>
        have hnext:∀ j (h1:t.length-(i+1)≤j) (h2:j<t.length) (h3:h.length-t.length+j<h.length),h[h.length-t.length+j]=t[j]:=by
         intro j h1 h2 h3;by_cases hj:j=t.length-(i+1)
         · subst hj;rw[hea,hy]
           simpa using hxy
         · exact HALL.out j (by omega) h2 h3
        have HNX:=hide hnext;clear hnext hx hy hea hidx hnA hnT;go_wp2;go_quiet ((fail))
        go_wp2;exact⟨⟨i+1,by go_num,by omega,HNX.out,Go.below_drewN hB _⟩,by simp[intOf];omega⟩
    · have hie:i=t.length:=by omega
      subst hie;have hr:Sx.dE h t=true:=Sx.YW hge (fun j h1 h2=>HALL.out j (by omega) h1 h2);have HR:=hide hr;have hgt:¬ ((t.length:Int)+1)≤(t.length:Int):=by omega
      clear hr hil hi;go_wp2;go_ret;exact⟨by rw[HR.out];rfl,hB⟩
end Go.Proofs.YtgohllfpceeboabGreatDoor
namespace Sx
def bG (r:Rl):List UInt8:=(if r.2.1=42 then [42,46] else if r.2.1=33 then [33] else [])++aA r.1
theorem GF (M:Nat):∀ (q:List (List UInt8)),(∀ x∈q,x.length≤M)→(q.flatMap fun y=>46::y).length≤q.length*(M+1)
 | [],_=>by simp
 | x::q,h=>by
   have h1:=h x (by simp);have h2:=GF M q (fun y hy=>h y (by simp[hy]));rw[List.flatMap_cons,List.length_append,List.length_cons,List.length_cons,Nat.succ_mul];omega
theorem y6 (h:List (List UInt8))(M:Nat)(hx:∀ x∈h,x.length≤M):(aA h).length≤h.length*(M+1):=by
 cases h with
 | nil=>simp[aA]
 | cons x q =>
   have h1:=hx x (by simp);have h2:=GF M q (fun y hy=>hx y (by simp[hy]));simp only[aA,List.length_append,List.length_cons,Nat.succ_mul];omega
end Sx
namespace Go.Proofs.YtgohllfpceeboabGreatDoor
open Go.RowKit
theorem JC (h:List (List UInt8))(B b cap:Nat)(w:World)(hl:h.length≤100000)(hx:∀ x∈h,x.length≤100000)(ho:w.ownsRow B 9 1 (.slice (some ⟨b,0,none⟩) h.length cap) h.length (bB h)) :
 Calls Tryz.prog 148 #[.slice (some ⟨b,0,none⟩) h.length cap] w fun e w'=>e=.returned (.string ⟨(Sx.aA h).toArray⟩)∧w'=w:=by
 have HO:=hide ho;have HX:=hide hx;clear ho hx;go_enter Tryz.func148,Tryz.ntmps148;go_wp2
 go_loop [3,4] (fun s i=>∃ (k:Nat) (p:List UInt8),s=.string ⟨p.toArray⟩∧i=.int .i64 k∧k≤h.length∧p.length≤100001*k∧Sx.aA (h.take k)=p) (fun _ i=>(h.length-intOf i).toNat)
 case atStart=>exact⟨0,[],rfl,rfl,by omega,by simp,rfl⟩
 case round =>
  obtain⟨k,p,rfl,rfl,hk,hp,hd⟩:=hrel;have HD:=hide hd;clear hd;by_cases hlt:k<h.length
  · have hc:=dJ HO.out k hlt;have hxk:=HX.out h[k] (List.getElem_mem hlt);have hdt:=jS h k hlt;obtain⟨x,hxe⟩:∃ x,h[k]=x:=⟨_,rfl⟩
    rw[hxe] at hc hxk hdt;rw[HD.out] at hdt;have HDT:=hide hdt;clear hdt hxe;by_cases h0:k=0
    · subst h0;have hp0:p=[]:=List.eq_nil_of_length_eq_zero (by omega);subst hp0;go_wp2;rw[show(#[] : Array UInt8)=([] : List UInt8).toArray from rfl,bF];exact⟨⟨1,x,by simp,rfl,by omega,by omega,by rw[HDT.out];simp⟩,by simp[intOf];omega⟩
    · have hgt:(0:Int)<(k:Int):=by omega
      go_wp2;rw[show(#[46] : Array UInt8)=[46].toArray from rfl,bF,bF];exact⟨⟨k+1,_,rfl,by go_num,by omega,by simp;omega,by rw[HDT.out,if_neg h0]⟩,by simp[intOf];omega⟩
  · have hk2:h.take k=h:=List.take_of_length_le (by omega);have HK:=hide hk2;clear hk2;go_wp2;go_ret;exact⟨gV (by rw[←HD.out,HK.out]),rfl⟩
theorem SI (w:World):Calls Tryz.prog 148 #[.slice none 0 0] w fun e w'=>e=.returned (.string ⟨#[]⟩)∧w'=w:=by
 go_enter Tryz.func148,Tryz.ntmps148;go_wp2
 go_loop [3,4] (fun s i=>s=.string ⟨#[]⟩∧i=.int .i64 0) (fun _ _=>0)
 case atStart=>exact⟨rfl,rfl⟩
 case round =>
  obtain⟨rfl,rfl⟩:=hrel;go_wp2;go_ret;exact⟨rfl,rfl⟩
theorem QV (h:List (List UInt8))(B:Nat)(v:Value)(w:World)(hl:h.length≤100000)(hx:∀ x∈h,x.length≤100000)(ho:w.ownsRow B 9 1 v h.length (bB h)) :
 Calls Tryz.prog 148 #[v] w fun e w'=>e=.returned (.string ⟨(Sx.aA h).toArray⟩)∧w'=w:=by
 rcases ho.2 with ⟨rfl,h0⟩ | ⟨g,cap,cur,rfl,_⟩
 · have:h=[]:=List.eq_nil_of_length_eq_zero h0;subst this;exact SI w
 · exact JC h B g cap w hl hx ho
theorem sM {a:UInt8}{n:Nat}(h:a≠UInt8.ofNat n)(hn:n<256):((a.toNat:Int) == (n:Int))=false:=by
 rw[beq_eq_false_iff_ne];intro e;apply h;apply UInt8.toNat_inj.1;rw[UInt8.toNat_ofNat'];omega
theorem yQ (r:Sx.Rl)(B:Nat)(v:Value)(w:World)(hl:r.1.length≤100000)(hx:∀ x∈r.1,x.length≤100000)(ho:w.ownsRow B 9 1 v r.1.length (bB r.1)) :
 Calls Tryz.prog 154 #[.agg #[v,.int .u8 r.2.1.toNat,.int .u8 r.2.2.toNat]] w fun e w'=>e=.returned (.string ⟨(Sx.bG r).toArray⟩)∧Below w.heap.size w w':=by
 obtain⟨h,kd,sc⟩:=r;dsimp only at hl hx ho ⊢;obtain⟨p,c,rfl⟩:=aB ho;have hd:=QV h B _ (w.alloc (.cells #[.slice p h.length c,.int .u8 kd.toNat,.int .u8 sc.toNat] 218)) hl hx (ho.alloc _);have HD:=hide hd;have hdl:(Sx.aA h).length≤20000000000:=by
  have h1:=Sx.y6 h 100000 hx;omega
 clear hd hx ho;by_cases h42:kd=42
 · subst h42;have hr:Sx.bG (h,42,sc)=[42,46]++Sx.aA h:=by simp[Sx.bG]
   have HR:=hide hr;clear hr;go_enter Tryz.func154,Tryz.ntmps154;go_wp2_with fail
   refine HD.out.mono ?_;rintro e w1 ⟨rfl,rfl⟩;go_wp2;go_ret;rw[show(#[42,46] : Array UInt8)=[42,46].toArray from rfl,bF];exact⟨by rw[HR.out];rfl,(Below.refl _ _).alloc (Nat.le_refl _) _⟩
 · have b42:((kd.toNat:Int) == 42)=false:=sM (n:=42) h42 (by decide);by_cases h33:kd=33
   · subst h33;have hr:Sx.bG (h,33,sc)=[33]++Sx.aA h:=by simp[Sx.bG]
     have HR:=hide hr;clear hr;go_enter Tryz.func154,Tryz.ntmps154;go_wp2_with fail
     refine HD.out.mono ?_;rintro e w1 ⟨rfl,rfl⟩;go_wp2;go_ret;rw[show(#[33] : Array UInt8)=[33].toArray from rfl,bF];exact⟨by rw[HR.out];rfl,(Below.refl _ _).alloc (Nat.le_refl _) _⟩
   · have b33:((kd.toNat:Int) == 33)=false:=sM (n:=33) h33 (by decide);have hr:Sx.bG (h,kd,sc)=Sx.aA h:=by simp[Sx.bG,h42,h33]
     have HR:=hide hr;clear hr h42 h33;go_enter Tryz.func154,Tryz.ntmps154;go_wp2_with fail
     refine HD.out.mono ?_;rintro e w1 ⟨rfl,rfl⟩;go_wp2;go_ret;exact⟨by rw[HR.out];rfl,(Below.refl _ _).alloc (Nat.le_refl _) _⟩
end Go.Proofs.YtgohllfpceeboabGreatDoor
namespace Sx
def jV (h:List (List UInt8))(r:Rl):Option Nat :=
 if dE h r.1=true then (if r.2.1=42 then (if r.1.length<h.length then some (r.1.length+1) else none) else some r.1.length) else none
def eS (h:List (List UInt8))(st:Option (Nat×Rl))(r:Rl):Option (Nat×Rl) :=
 match jV h r with
 | none=>st
 | some n=>match st with
   | none=>some (n,r)
   | some (cnt,b) =>
     if r.2.1=33∧(b.2.1≠33∨cnt<n) then some (n,r)
     else if r.2.1≠33∧b.2.1≠33∧(cnt<n∨(n=cnt∧r.2.1=36)) then some (n,r) else some (cnt,b)
def dB (h:List (List UInt8))(rs:List Rl):Option (Nat×Rl):=rs.foldl (eS h) none
def cL (h:List (List UInt8))(rs:List Rl):Nat×UInt8 :=
 match dB h rs with
 | none=>(1,45)
 | some (n,r)=>(if r.2.1=33 then n-1 else n,r.2.2)
theorem cV (h:List (List UInt8))(rs:List Rl)(r:Rl):dB h (rs++[r])=eS h (dB h rs) r:=by
 unfold dB;rw[List.foldl_append];rfl
end Sx
namespace Go.Proofs.YtgohllfpceeboabGreatDoor
open Go.RowKit
theorem O0 (q:List wZ)(h:List (List UInt8))(B B1 b1 c1:Nat)(v:Value)(w:World)(hl:h.length≤1000)(hq:q.length≤1000)(hat:RlsAt w B v q)(hne:∀ x∈q,x.2.1≠[]∧x.2.1.length≤1000)(ho:w.ownsRow B1 9 1 (.slice (some ⟨b1,0,none⟩) h.length c1) h.length (bB h)) :
 Calls Tryz.prog 155 #[v,.slice (some ⟨b1,0,none⟩) h.length c1] w fun e w'=>e=.returned (.tuple #[.int .i64 ((Sx.cL h (q.map (·.2))).1:Nat),.int .u8 (Sx.cL h (q.map (·.2))).2.toNat])∧Below w.heap.size w w':=by
 obtain⟨p,c,rfl⟩:=aB hat.row;have HAT:=hide hat;have HNE:=hide hne;have HO:=hide ho;clear hat hne ho;go_enter Tryz.func155,Tryz.ntmps155;go_wp2
 go_loopw [6,7,8] (fun bv cv iv wr=>∃ j:Nat,iv=.int .i64 j∧j≤q.length∧((bv=.int .i64 (-1)∧cv=.int .i64 0∧Sx.dB h ((q.take j).map (·.2))=none)∨∃ (k cnt:Nat) (x:wZ),bv=.int .i64 k∧cv=.int .i64 cnt∧k<q.length∧q[k]? = some x∧(1≤cnt∧cnt≤2000)∧Sx.dB h ((q.take j).map (·.2))=some (cnt,x.2))∧Below w.heap.size w wr) (fun _ _ iv _=>(q.length-intOf iv).toNat)
 case atStart=>exact⟨0,rfl,by omega,.inl ⟨rfl,rfl,rfl⟩,Below.refl _ _⟩
 case round =>
  obtain⟨j,rfl,hj,hbest,hB⟩:=hrel
  rename World=>wo
  have hsz:=hB.size;by_cases hjl:j<q.length
  · have hat2:=HAT.out.below hB;obtain⟨g,c',hv,hg1,hg2⟩:=hat2.row.form (by omega);simp only[Value.slice.injEq,true_and] at hv;obtain⟨rfl,rfl⟩:=hv;obtain⟨k1,k2,k3⟩:=hat2.cells j hjl;have hn:=HNE.out q[j] (List.getElem_mem hjl);have hh:=hat2.hosts q[j] (List.getElem_mem hjl);have hmore:(q.take (j+1)).map (·.2)=(q.take j).map (·.2)++[q[j].2]:=by rw[List.take_succ_eq_append_getElem hjl,List.map_append];rfl
    have hself:q[j]? = some q[j]:=List.getElem?_eq_getElem hjl;obtain⟨⟨rv,rh,rk,rs⟩,he⟩:∃ x,q[j]=x:=⟨_,rfl⟩
    rw[he] at k1 k2 k3 hn hh hmore hself;dsimp only at k1 k2 k3 hn hh hmore;obtain⟨gr,cr,rfl,_,_⟩:=hh.form (List.length_pos_iff.2 hn.1);have hn2:=hn.2;have hn1:1≤rh.length:=List.length_pos_iff.2 hn.1;have HH:=hide hh;have HMORE:=hide hmore;have HSELF:=hide hself;clear he hn hh hmore hself;go_wp2_with fail
    refine(J9 h rh B1 B b1 c1 gr cr _ hl hn2 ((aD HO.out hB).alloc _) (HH.out.alloc _)).mono ?_;rintro e w2 ⟨rfl,hB2⟩;have hz1:(wo.alloc (.cells #[.slice (some ⟨gr,0,none⟩) rh.length cr,.int .u8 rk.toNat,.int .u8 rs.toNat] 218)).heap.size=wo.heap.size+1:=World.size_alloc _ _;rw[hz1] at hB2;have r0:=(hB2.cell (p:=⟨wo.heap.size,0,none⟩) (by simp)).trans (World.cell?_alloc_mark _ _ _ _ _);have r1:=(hB2.cell (p:=⟨wo.heap.size,1,none⟩) (by simp)).trans (World.cell?_alloc_mark _ _ _ _ _);have r2:=(hB2.cell (p:=⟨wo.heap.size,2,none⟩) (by simp)).trans (World.cell?_alloc_mark _ _ _ _ _);simp only[List.getElem?_toArray,List.getElem?_cons_zero,List.getElem?_cons_succ] at r0 r1 r2;have hB3:Below wo.heap.size wo w2:=((Below.refl _ wo).alloc (Nat.le_refl _) _).trans (hB2.mono (by omega));have hB4:=hB.trans (hB3.mono hsz);have hat4:=HAT.out.below hB4;have HB4:=hide hB4;have HAT4:=hide hat4;clear hat2 hB2 hB3 hB4 hat4 hz1 k1 k2 k3 hB
    go_upto_if 31 with fail
    go_cut [10,11] (fun f n wc=>∃ (bb:Bool) (m:Nat),f=.bool bb∧n=.int .i64 m∧(1≤m∧m≤1001)∧Sx.jV h (rh,rk,rs)=(if bb then some m else none)∧wc=w2)
    case first =>
     by_cases h42:rk=42
     · subst h42;cases hE:Sx.dE h rh with
       | false =>
         go_wp2;go_meet
         case rel=>exact⟨false,rh.length+1,rfl,by go_num,by omega,by simp[Sx.jV,hE],rfl⟩
       | true =>
         by_cases hlen:rh.length<h.length
         · have hli:(rh.length:Int)<(h.length:Int):=by omega
           go_wp2;go_meet
           case rel=>exact⟨true,rh.length+1,rfl,by go_num,by omega,by simp[Sx.jV,hE,hlen],rfl⟩
         · have hli:¬ (rh.length:Int)<(h.length:Int):=by omega
           go_wp2;go_meet
           case rel=>exact⟨false,rh.length+1,rfl,by go_num,by omega,by simp[Sx.jV,hE,hlen],rfl⟩
     · have b42:((rk.toNat:Int) == 42)=false:=sM (n:=42) h42 (by decide);go_wp2;go_meet
       case rel=>exact⟨Sx.dE h rh,rh.length,rfl,rfl,by omega,by cases hE:Sx.dE h rh <;> simp[Sx.jV,hE,h42],rfl⟩
    case rest =>
     obtain⟨bb,m,rfl,rfl,⟨hm1,hm⟩,hfit,rfl⟩:=hcut;have HFIT:=hide hfit;clear hfit
     rename World=>wi
     cases bb with
     | false =>
       have hs:Sx.dB h ((q.take (j+1)).map (·.2))=Sx.dB h ((q.take j).map (·.2)):=by
        rw[HMORE.out,Sx.cV];unfold Sx.eS;rw[HFIT.out];rfl
       have HS:=hide hs;clear hs;go_wp2;refine⟨⟨j+1,by go_num,by omega,?_,HB4.out⟩,by simp[intOf];omega⟩;rw[HS.out];exact hbest
     | true =>
       rcases hbest with ⟨rfl,rfl,hb⟩ | ⟨k,cnt,x,rfl,rfl,hk,hxk,hcnt,hb⟩
       · have hs:Sx.dB h ((q.take (j+1)).map (·.2))=some (m,(rh,rk,rs)):=by
          rw[HMORE.out,Sx.cV,hb];unfold Sx.eS;rw[HFIT.out];rfl
         have HS:=hide hs;clear hs hb;go_wp2;exact⟨⟨j+1,by go_num,by omega,.inr ⟨j,m,_,rfl,rfl,hjl,HSELF.out,⟨by omega,by omega⟩,HS.out⟩,HB4.out⟩,by simp[intOf];omega⟩
       · obtain⟨y1,y2,y3⟩:=HAT4.out.cells k hk;obtain⟨⟨xv,xh,xk,xs⟩,hx2⟩:∃ y,q[k]=y:=⟨_,rfl⟩
         have hxx:x=(xv,xh,xk,xs):=by
          rw[List.getElem?_eq_getElem hk,hx2] at hxk;exact(Option.some.inj hxk).symm
         subst hxx;rw[hx2] at y1 y2 y3;dsimp only at y1 y2 y3 hb;have HXK:=hide hxk;have HBEST:=hide hb;have hk0:¬ (k:Int)<0:=by omega
         clear hxk hb hx2 y1 y3;by_cases e33:rk=33
         · have br:((rk.toNat:Int) == 33)=true:=by rw[e33];rfl
           have br2:(rk.toNat:Int)=33:=by rw[e33];rfl
           by_cases x33:xk=33
           · have bx:((xk.toNat:Int) == 33)=true:=by rw[x33];rfl
             have bx2:(xk.toNat:Int)=33:=by rw[x33];rfl
             by_cases hg:cnt<m
             · have hgi:(cnt:Int)<(m:Int):=by omega
               have hs:Sx.dB h ((q.take (j+1)).map (·.2))=some (m,(rh,rk,rs)):=by
                rw[HMORE.out,Sx.cV,HBEST.out];unfold Sx.eS;rw[HFIT.out];simp[e33,x33,hg]
               have HS:=hide hs;clear hs e33 x33;go_wp2;exact⟨⟨j+1,by go_num,by omega,.inr ⟨j,m,_,rfl,rfl,hjl,HSELF.out,⟨by omega,by omega⟩,HS.out⟩,HB4.out⟩,by simp[intOf];omega⟩
             · have hgi:¬ (cnt:Int)<(m:Int):=by omega
               have hs:Sx.dB h ((q.take (j+1)).map (·.2))=some (cnt,(xh,xk,xs)):=by
                rw[HMORE.out,Sx.cV,HBEST.out];unfold Sx.eS;rw[HFIT.out];simp[e33,x33,hg]
               have HS:=hide hs;clear hs e33 x33;go_wp2;exact⟨⟨j+1,by go_num,by omega,.inr ⟨k,cnt,_,rfl,rfl,hk,HXK.out,hcnt,HS.out⟩,HB4.out⟩,by simp[intOf];omega⟩
           · have bx:((xk.toNat:Int) == 33)=false:=sM (n:=33) x33 (by decide);have bx2:¬ (xk.toNat:Int)=33:=by simpa using bx
             have bx3:((xk.toNat:Int) != 33)=true:=by rw[bne_iff_ne];exact bx2
             have hs:Sx.dB h ((q.take (j+1)).map (·.2))=some (m,(rh,rk,rs)):=by
              rw[HMORE.out,Sx.cV,HBEST.out];unfold Sx.eS;rw[HFIT.out];simp[e33,x33]
             have HS:=hide hs;clear hs e33;go_wp2;exact⟨⟨j+1,by go_num,by omega,.inr ⟨j,m,_,rfl,rfl,hjl,HSELF.out,⟨by omega,by omega⟩,HS.out⟩,HB4.out⟩,by simp[intOf];omega⟩
         · have br:((rk.toNat:Int) == 33)=false:=sM (n:=33) e33 (by decide);have br2:¬ (rk.toNat:Int)=33:=by simpa using br
           have br3:((rk.toNat:Int) != 33)=true:=by rw[bne_iff_ne];exact br2
           by_cases x33:xk=33
           · have bx:((xk.toNat:Int) == 33)=true:=by rw[x33];rfl
             have bx2:(xk.toNat:Int)=33:=by rw[x33];rfl
             have hs:Sx.dB h ((q.take (j+1)).map (·.2))=some (cnt,(xh,xk,xs)):=by
              rw[HMORE.out,Sx.cV,HBEST.out];unfold Sx.eS;rw[HFIT.out];simp[e33,x33]
             have HS:=hide hs;clear hs x33;go_wp2;exact⟨⟨j+1,by go_num,by omega,.inr ⟨k,cnt,_,rfl,rfl,hk,HXK.out,hcnt,HS.out⟩,HB4.out⟩,by simp[intOf];omega⟩
           · have bx:((xk.toNat:Int) == 33)=false:=sM (n:=33) x33 (by decide);have bx2:¬ (xk.toNat:Int)=33:=by simpa using bx
             have bx3:((xk.toNat:Int) != 33)=true:=by rw[bne_iff_ne];exact bx2
             by_cases hg:cnt<m
             · have hgi:(cnt:Int)<(m:Int):=by omega
               have hs:Sx.dB h ((q.take (j+1)).map (·.2))=some (m,(rh,rk,rs)):=by
                rw[HMORE.out,Sx.cV,HBEST.out];unfold Sx.eS;rw[HFIT.out];simp[e33,x33,hg]
               have HS:=hide hs;clear hs;go_wp2;exact⟨⟨j+1,by go_num,by omega,.inr ⟨j,m,_,rfl,rfl,hjl,HSELF.out,⟨by omega,by omega⟩,HS.out⟩,HB4.out⟩,by simp[intOf];omega⟩
             · have hgi:¬ (cnt:Int)<(m:Int):=by omega
               by_cases hq2:m=cnt
               · have hqi:((m:Int) == (cnt:Int))=true:=by rw[hq2];simp
                 by_cases e36:rk=36
                 · have b36:((rk.toNat:Int) == 36)=true:=by rw[e36];rfl
                   have hs:Sx.dB h ((q.take (j+1)).map (·.2))=some (m,(rh,rk,rs)):=by
                    rw[HMORE.out,Sx.cV,HBEST.out];unfold Sx.eS;rw[HFIT.out];simp[x33,e36,hq2]
                   have HS:=hide hs;clear hs hq2 e36;go_wp2;exact⟨⟨j+1,by go_num,by omega,.inr ⟨j,m,_,rfl,rfl,hjl,HSELF.out,⟨by omega,by omega⟩,HS.out⟩,HB4.out⟩,by simp[intOf];omega⟩
                 · have b36:((rk.toNat:Int) == 36)=false:=sM (n:=36) e36 (by decide);have hs:Sx.dB h ((q.take (j+1)).map (·.2))=some (cnt,(xh,xk,xs)):=by
                    rw[HMORE.out,Sx.cV,HBEST.out];unfold Sx.eS;rw[HFIT.out];simp[e33,x33,e36,hq2]
                   have HS:=hide hs;clear hs hq2;go_wp2;exact⟨⟨j+1,by go_num,by omega,.inr ⟨k,cnt,_,rfl,rfl,hk,HXK.out,hcnt,HS.out⟩,HB4.out⟩,by simp[intOf];omega⟩
               · have hqi:((m:Int) == (cnt:Int))=false:=by rw[beq_eq_false_iff_ne];omega
                 have hs:Sx.dB h ((q.take (j+1)).map (·.2))=some (cnt,(xh,xk,xs)):=by
                  rw[HMORE.out,Sx.cV,HBEST.out];unfold Sx.eS;rw[HFIT.out];simp[e33,x33,hg,hq2]
                 have HS:=hide hs;clear hs;go_wp2;exact⟨⟨j+1,by go_num,by omega,.inr ⟨k,cnt,_,rfl,rfl,hk,HXK.out,hcnt,HS.out⟩,HB4.out⟩,by simp[intOf];omega⟩
  · have hje:j=q.length:=by omega
    subst hje;rw[List.take_length] at hbest;have hjn:¬ (q.length:Int)<(q.length:Int):=by omega
    clear hjl hj;rcases hbest with ⟨rfl,rfl,hb⟩ | ⟨k,cnt,x,rfl,rfl,hk,hxk,hcnt,hb⟩
    · have hr:Sx.cL h (q.map (·.2))=(1,45):=by unfold Sx.cL;rw[hb]
      have HR:=hide hr;clear hr hb;go_wp2;go_ret2;exact⟨by rw[HR.out];rfl,hB⟩
    · have hat2:=HAT.out.below hB;obtain⟨g,c',hv,hg1,hg2⟩:=hat2.row.form (by omega);simp only[Value.slice.injEq,true_and] at hv;obtain⟨rfl,rfl⟩:=hv;obtain⟨y1,y2,y3⟩:=hat2.cells k hk;obtain⟨⟨xv,xh,xk,xs⟩,hx2⟩:∃ y,q[k]=y:=⟨_,rfl⟩
      have hxx:x=(xv,xh,xk,xs):=by
       rw[List.getElem?_eq_getElem hk,hx2] at hxk;exact(Option.some.inj hxk).symm
      subst hxx;rw[hx2] at y1 y2 y3;dsimp only at y1 y2 y3 hb;have hk0:¬ (k:Int)<0:=by omega
      by_cases x33:xk=33
      · subst x33;have hr:Sx.cL h (q.map (·.2))=(cnt-1,xs):=by unfold Sx.cL;rw[hb];rfl
        have HR:=hide hr;obtain⟨hcn1,hcn2⟩:=hcnt;obtain⟨ct,rfl⟩:∃ ct,cnt=ct+1:=⟨cnt-1,by omega⟩
        clear hr hb hxk hx2 hat2;go_wp2;go_quiet ((fail))
        go_wp2;go_ret2;refine⟨?_,Go.below_drewN hB _⟩;rw[HR.out];rfl
      · have bx:((xk.toNat:Int) == 33)=false:=sM (n:=33) x33 (by decide);have bx2:¬ (xk.toNat:Int)=33:=by simpa using bx
        have bx3:((xk.toNat:Int) != 33)=true:=by rw[bne_iff_ne];exact bx2
        have hr:Sx.cL h (q.map (·.2))=(cnt,xs):=by unfold Sx.cL;rw[hb];simp[x33]
        have HR:=hide hr;clear hr hb hxk hx2 hat2;go_wp2;go_quiet ((fail))
        go_wp2;go_ret2;exact⟨by rw[HR.out];rfl,Go.below_drewN hB _⟩
end Go.Proofs.YtgohllfpceeboabGreatDoor
