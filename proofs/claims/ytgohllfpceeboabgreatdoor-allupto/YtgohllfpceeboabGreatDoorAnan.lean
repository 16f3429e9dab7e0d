import Derived.Test.YtgohllfpceeboabGreatDoorAnad
import Derived.Test.YtgohllfpceeboabGreatDoorAnam
import Derived.RangeFuncNested
import Derived.RangeFuncBound
import Derived.RangeFuncCalls
import Derived.RangeFuncLeaves
import Derived.Shelf.Abstract
import Derived.Shelf.RegionOpen
import Derived.OwnWalkIn
import Derived.TacticsInMore
import Derived.LoopNIn
import Derived.LoopIn
set_option maxRecDepth 100000
set_option maxHeartbeats 4000000
namespace Sx
def fC (s:List UInt8):List Int:=(s.take (dash s).toNat).map fun c=>(c.toNat:Int)
def fM (s:List UInt8):List UInt8:=s.drop (dash s+1).toNat
def kL (s:List UInt8):List UInt8:=if codeOk s then text ((dec s).getD []) else []
theorem nR (s:List UInt8):dec s=if fM s=[] then none else kQ (fC s) 72 128 0 true (fM s):=by
 have h:=oH s s.length;unfold dec fM fC;by_cases c:(s.length:Int)≤dash s+1
 · rw[if_pos c,if_pos (List.drop_eq_nil_of_le (by unfold dash at *;omega))]
 · rw[if_neg c,if_neg];intro e;have:=congrArg List.length e;rw[List.length_drop] at this;simp at this;unfold dash at *;omega
end Sx
namespace Go.Proofs.YtgohllfpceeboabGreatDoor
open Go.RowKit
attribute [local go_sem ↓] Go.wp_at_zero Go.wp_at_succ
theorem xN (n i L d:Int):(n+(i+d) / (L+1)-n)*(L+1)+(i+d) % (L+1)-i=d:=by
 have:=Int.emod_add_mul_ediv (i+d) (L+1);have h2:(n+(i+d) / (L+1)-n)=(i+d) / (L+1):=by omega
 rw[h2,Int.mul_comm];omega
theorem KD (n i L d:Int)(hL:0≤L)(hi:0≤i)(h:(1114112-n)*(L+1)<d):1114111<n+(i+d) / (L+1):=by
 have:1114112-n≤(i+d) / (L+1):=(Int.le_ediv_iff_mul_le (by omega)).2 (by omega);omega
theorem o9 (n L:Int)(h0:128≤n)(h1:n≤1114111)(hL:0≤L)(hL2:L≤100):0≤(1114112-n)*(L+1)∧(1114112-n)*(L+1)≤112512384:=by
 have a:(1114112-n)*(L+1)≤1113984*(L+1):=Int.mul_le_mul_of_nonneg_right (by omega) (by omega);exact⟨Int.mul_nonneg (by omega) (by omega),by omega⟩
theorem TS (n i L d:Int)(hL:0≤L)(hi:0≤i)(hi2:i≤L+1)(hd:0≤d)(h:d≤(1114112-n)*(L+1)):n≤n+(i+d) / (L+1)∧n+(i+d) / (L+1)≤1114113:=by
 have a:0≤(i+d) / (L+1):=Int.ediv_nonneg (by omega) (by omega);have b:(i+d) / (L+1)≤1114112-n+1:=by
  have:(i+d) / (L+1)<1114112-n+2:=Int.ediv_lt_of_lt_mul (by omega) (by
   have:(1114112-n+2)*(L+1)=(1114112-n)*(L+1)+2*(L+1):=by rw[Int.add_mul]
   omega)
  omega
 omega
theorem XC {w:World}{B g n c:Nat}{l:List Int}(h:w.ownsRow B 21 1 (.slice (some ⟨g,0,none⟩) n c) n (gQ l))(hz:n=l.length):(convert 232 9 (.slice (some ⟨g,0,none⟩) n c)).run Tryz.prog w=.ok (.string (runesBytes l)) w:=by
 have:=run_convert_runes (P:=Tryz.prog) w 232 9 21 ⟨g,0,none⟩ n c l (by omega) Tryz.underlying232 Tryz.underlying21 Tryz.underlying9 (fun j hj=>by
  have:=h.cells (g:=g) rfl j (.int .i32 (l.getD j 0)) (by unfold gQ;rw[List.getElem?_map,List.getElem?_eq_getElem hj];simp[List.getElem?_eq_getElem hj]);exact this)
 rw[hz,List.take_length] at this;rw[hz];exact this
theorem kD (s:ByteArray)(a b:Nat):(s.extract a b).data.toList=(s.data.toList.take b).drop a:=by
 rw[ByteArray.data_extract,Array.toList_extract];simp[List.extract_eq_take_drop,List.drop_take]
theorem JD:∀ (l:List UInt8),(∀ b∈l,b.toNat<128)→Sx.text (l.map fun c=>(c.toNat:Int))=l:=by
 intro l
 induction l with
 | nil=>intro _;rfl
 | cons x l ih =>
   intro h;have hx:=h x (List.mem_cons_self ..);have e:Sx.fV (x.toNat:Int)=[x]:=by
    unfold Sx.fV;rw[if_pos (by omega)];congr 1;simp
   have:=ih (fun y hy=>h y (List.mem_cons_of_mem _ hy));unfold Sx.text at this ⊢;rw[List.map_cons,List.flatMap_cons,this,e];rfl
theorem wV (l:List UInt8)(h:∀ b∈l,b.toNat<128):∀ c∈l.map (fun c=>(c.toNat:Int)),Sx.Good c∧c<128:=by
 intro c hc;obtain⟨x,hx,rfl⟩:=List.mem_map.1 hc;have:=h x hx;unfold Sx.Good;omega
theorem xK (l:List UInt8)(h:∀ b∈l,b.toNat<128):Sx.aF l=some (l.map fun c=>(c.toNat:Int)):=by
 have:=Sx.eE (l.map fun c=>(c.toNat:Int)) (fun c hc=>(wV l h c hc).1);rw[JD l h] at this;exact this
structure LetAt (s:List UInt8) (l:List Int) (q:List UInt8) (n i bias dm:Int) (first:Bool):Prop where
 good:∀ c∈l,Sx.Good c
 len:l.length+q.length≤16
 dec:Sx.kQ l bias n (i+1) first q=Sx.kQ (Sx.fC s) 72 128 0 true (Sx.fM s)
 dm:dm=if first then 700 else 2
 n0:128≤n
 n1:n≤1114111
 i0 : -1≤i
 i1:i≤l.length
 b0:0≤bias
 b1:bias≤180
 some:(first=true∧l=Sx.fC s∧q=Sx.fM s)∨(first=false∧l.any (fun c=>decide (128≤c))=true∧Sx.fM s≠[])
theorem GY (b:Nat)(n i L bias dm:Int)(w:World)(hR:RowAt w b n i L bias dm)(h0:128≤n)(h1:n≤1114111)(h2:0≤L)(h3:L≤1000) :
 Calls Tryz.prog 163 #[.pointer (some ⟨b,0,none⟩)] w fun e w'=>e=.returned (.int .i64 ((1114112-n)*(L+1)))∧Below w.heap.size w w'∧w'.heap.size=w.heap.size:=by
 refine(QC b n i L bias dm w hR h0 h1 h2 h3).mono ?_;rintro e w' ⟨rfl,q,rfl⟩;exact⟨rfl,Go.below_drewN (Below.refl _ w) q,rfl⟩
theorem VY (bias:Int):∀ (s:List UInt8) (d w:Int) (k:Nat) (d':Int) (s':List UInt8),Sx.cS bias d w k s=some (d',s')→s'=s.drop (s.length-s'.length):=by
 intro s
 induction s with
 | nil=>intro d w k d' s' h;simp[Sx.cS] at h
 | cons x s ih =>
   intro d w k d' s' h;have hl:=Sx.mT _ _ _ _ _ _ _ h;simp only[List.length_cons] at hl ⊢;rw[show s.length+1-s'.length=(s.length-s'.length)+1 from by omega,List.drop_succ_cons];simp only[Sx.cS] at h;split at h
   · simp at h
   · split at h
     · simp at h
     · split at h
       · simp only[Option.some.injEq,Prod.mk.injEq] at h;rw[←h.2,Nat.sub_self];rfl
       · exact ih _ _ _ _ _ h
theorem wrap_i32 (m:Int)(h0:0≤m)(h1:m≤2000000):IntKind.i32.wrap m=m:=by
 have e:IntKind.i32.wrap m=if (m % 4294967296) ≥ 2147483648 then m % 4294967296-4294967296 else m % 4294967296:=by
  simp[IntKind.wrap,IntKind.signed,IntKind.bits]
 rw[e,if_neg (by omega)];omega
theorem vS (l:List Int):(dG l l.length).length=(l.filter fun c=>decide (128≤c)).length:=by
 rw[oU,List.length_map,←(Sx.DR l).length_eq,Sx.BL]
theorem zI (l:List Int)(h:(l.any fun c=>decide (128≤c))=true):0<(dG l l.length).length:=by
 rw[vS];obtain⟨c,hc,h2⟩:=List.any_eq_true.1 h;exact List.length_pos_of_mem (List.mem_filter.2 ⟨hc,h2⟩)
theorem VF (l:List Int):(dG l l.length).length≤l.length:=yD l l.length
def strLen:Value→Nat
 | .string b=>b.size
 | _=>0
theorem NR (s:List UInt8)(h:Sx.kQ (Sx.fC s) 72 128 0 true (Sx.fM s)=none):Sx.codeOk s=false∧Sx.kL s=[]:=by
 have e:Sx.dec s=none:=by
  rw[Sx.nR];split
  · rfl
  · exact h
 have e2:Sx.codeOk s=false:=by unfold Sx.codeOk;rw[e]
 exact⟨e2,by unfold Sx.kL;rw[e2];rfl⟩
theorem FQ (s:ByteArray)(w:World)(hs:s.size≤16)(hp:∀ b∈s.data.toList,b.toNat<128) :
 Calls Tryz.prog 115 #[.string s] w fun e w'=>e=.returned (.tuple #[.string ⟨(Sx.kL s.data.toList).toArray⟩,.bool (Sx.codeOk s.data.toList)])∧Below w.heap.size w w':=by
 have HP:=hide hp;clear hp;have hln:s.data.toList.length=s.size:=aC s;have hdb:=Sx.oH s.data.toList s.data.toList.length;obtain⟨P,hP⟩:∃ P,s.extract 0 (Sx.dash s.data.toList).toNat=P:=⟨_,rfl⟩
 obtain⟨N,hN⟩:∃ N,s.extract (Sx.dash s.data.toList+1).toNat s.size=N:=⟨_,rfl⟩
 have hPl:P.data.toList=s.data.toList.take (Sx.dash s.data.toList).toNat:=by rw[←hP,kD,List.drop_zero]
 have hNl:N.data.toList=Sx.fM s.data.toList:=by
  rw[←hN,kD];unfold Sx.fM;rw[←hln,List.take_length]
 have hasc:∀ b∈P.data.toList,b.toNat<128:=fun b hb=>HP.out b (by rw[hPl] at hb;exact List.mem_of_mem_take hb);have hlet:=xK _ hasc;have hgood:=wV _ hasc;have hpp:Sx.fC s.data.toList=P.data.toList.map fun c=>(c.toNat:Int):=by rw[hPl];rfl
 rw[←hpp] at hlet hgood;have hps:(Sx.fC s.data.toList).length+N.size≤16:=by
  rw[hpp,List.length_map,hPl,List.length_take,←aC N,hNl];unfold Sx.fM;rw[List.length_drop];unfold Sx.dash at *;omega
 have hpz:P.size≤16:=by rw[←aC P,hPl,List.length_take];omega
 have HSP:=hide (JH s w (by omega));have HC:Hid (Calls Tryz.prog 160 #[.string s] w fun e w'=>e=.returned (.tuple #[.string P,.string N])∧∃ q,w'=w.drewN q):=hide (by have:=HSP.out;rw[hP,hN] at this;exact this);have HLET:=hide hlet;have HGOOD:=hide hgood;have HNL:=hide hNl;clear HSP hP hN hPl hNl hasc hlet hgood hpp hdb hln;go_enter Tryz.func115,Tryz.ntmps115;go_wp2_with fail
 refine HC.out.mono ?_;rintro e w1 ⟨rfl,q0,hw1⟩;have hBw1:Below w.heap.size w w1:=by rw[hw1];exact Go.below_drewN (Below.refl _ w) _
 clear hw1 HC;obtain⟨l0,hl0⟩:∃ l0,Sx.fC s.data.toList=l0:=⟨_,rfl⟩
 rw[hl0] at HLET HGOOD hps;have hrunes:=GN P P.size 0 l0 #[] (by rw[List.drop_zero];exact HLET.out) (by omega) (by omega);rw[Array.empty_append] at hrunes;have hcv:=run_runes_of_string (P:=Tryz.prog) w1 9 232 21 P Tryz.underlying9 Tryz.underlying232 Tryz.underlying21 (by rw[hrunes];simp;omega);rw[hrunes] at hcv;have hrs:(l0.map fun c=>Value.int .i32 c).toArray.size=l0.length:=by simp
 rw[hrs] at hcv;have hcg:=grownCap_ge w1 l0.length 0 21;have hcm:=grownCap_le_maxLen w1 l0.length 0 21 (by unfold maxLen;omega);obtain⟨cap,hcap⟩:∃ cap,grownCap w1 l0.length 0 21=cap:=⟨_,rfl⟩
 rw[hcap] at hcv hcg hcm;obtain⟨cs,hcs⟩:∃ cs,(l0.map fun c=>Value.int .i32 c).toArray++Array.replicate (cap-l0.length) (.int .i32 0)=cs:=⟨_,rfl⟩
 rw[hcs] at hcv;have hown:(w1.drew.alloc (.cells cs 21)).ownsRow w.heap.size 21 1 (.slice (some ⟨w1.heap.size,0,none⟩) l0.length cap) l0.length (gQ l0):=by
  refine⟨by rw[qC];omega,.inr ⟨w1.heap.size,cap,cs,rfl,hBw1.size,?_,hcg,hcm,?_,?_⟩⟩
  · show(w1.drew.heap.push _)[w1.heap.size]? = _;exact Array.getElem?_push_size
  · rw[←hcs];simp;omega
  · rw[←hcs,Nat.mul_one,Array.toList_append,List.take_append_of_le_length (by simp),List.take_of_length_le (by simp)];rfl
 have hB2:Below w.heap.size w (w1.drew.alloc (.cells cs 21)):=(hBw1.drew).alloc hBw1.size _;have hsz2:(w1.drew.alloc (.cells cs 21)).heap.size=w1.heap.size+1:=World.size_alloc _ _;obtain⟨W2,hW2⟩:∃ W2,w1.drew.alloc (.cells cs 21)=W2:=⟨_,rfl⟩
 rw[hW2] at hcv hown hB2 hsz2;have HOWN:=hide hown;have HB2:=hide hB2;have HSZ2:=hide hsz2;have HL0:=hide hl0;clear hrs hrunes hcs hW2 hcap hown hB2 hsz2 hl0;go_wp2_with (go_at_call 161;go_must (refine(DF _ _).mono ?_;rintro e w3 ⟨rfl,hBr⟩))
 have hw3:=hBr.size;have hR4:=NV w3 236 128 (-1) l0.length 72 700;have hB4:Below w.heap.size w (w3.alloc (.cells #[.int .i64 128,.int .i64 (-1),.int .i64 l0.length,.int .i64 72,.int .i64 700] 236)):=(HB2.out.trans (hBr.mono HB2.out.size)).alloc (Nat.le_trans HB2.out.size hw3) _;have how4:=(own_below HOWN.out hBr (Nat.le_refl _)).alloc (.cells #[.int .i64 128,.int .i64 (-1),.int .i64 l0.length,.int .i64 72,.int .i64 700] 236);have hnb:w1.heap.size≠w3.heap.size:=by have:=HSZ2.out;omega
 obtain⟨rb,hrb⟩:∃ rb,w3.heap.size=rb:=⟨_,rfl⟩
 obtain⟨g0,hg0⟩:∃ g0,w1.heap.size=g0:=⟨_,rfl⟩
 obtain⟨W4,hW4⟩:∃ W4,(w3.alloc (.cells #[.int .i64 128,.int .i64 (-1),.int .i64 l0.length,.int .i64 72,.int .i64 700] 236))=W4:=⟨_,rfl⟩
 have hrw:w.heap.size≤rb:=by rw[←hrb];exact Nat.le_trans HB2.out.size hw3
 rw[hW4] at hR4 hB4 how4 ⊢;rw[hrb] at hR4 hnb ⊢;rw[hg0] at how4 hnb ⊢;have HR4:=hide hR4;have HOW4:=hide how4;have HB4:=hide hB4;clear hR4 how4 hB4 hW4 hrb hg0 hBr HOWN HB2 HSZ2 hw3 hcv hBw1;have hlet0:LetAt s.data.toList l0 N.data.toList 128 (-1) 72 700 true:=by
  refine⟨fun c hc=>(HGOOD.out c hc).1,by rw[aC];exact hps,by rw[HNL.out,←HL0.out];rfl,rfl,by omega,by omega,by omega,by omega,by omega,by omega,.inl ⟨rfl,HL0.out.symm,HNL.out⟩⟩
 have HLET0:=hide hlet0;clear hlet0
 go_loopw [5,6] (fun qv lv wr=>∃ (l:List Int) (Q:ByteArray) (g c z:Nat) (n i bias dm:Int) (first:Bool),qv=.string Q∧lv=.slice (some ⟨g,0,none⟩) z c∧l.length=z∧LetAt s.data.toList l Q.data.toList n i bias dm first∧RowAt wr rb n i z bias dm∧wr.ownsRow w.heap.size 21 1 (.slice (some ⟨g,0,none⟩) z c) z (gQ l)∧g≠rb∧Below w.heap.size w wr) (fun qv _ _=>strLen qv)
 case atStart=>exact⟨l0,N,g0,cap,l0.length,128,-1,72,700,true,rfl,rfl,rfl,HLET0.out,HR4.out,HOW4.out,hnb,HB4.out⟩
 case round =>
  obtain⟨l,Q,g,c,z,n,i,bias,dm,first,rfl,rfl,hlz,hLA,hR,hown,hgr,hB⟩:=hrel;have HLA:=hide hLA;have HR:=hide hR;have HOWN:=hide hown;have HB:=hide hB;have HLZ:=hide hlz;obtain⟨_,hlen,_,hdm,hn0,hn1,hi0,hi1,hb0,hb1,_⟩:=hLA;rw[hlz] at hlen hi1;rw[aC] at hlen;have HDM:=hide hdm;have hc3:=hR.c3;have hrbl:=hR.lt;have hgl:=hown.lt g rfl;clear hlz hown hB hR hdm HLET0 HR4 HOW4 HB4;by_cases hQ:0<Q.size
  · have hml:=o9 n z hn0 hn1 (by omega) (by omega);obtain⟨mo,hmo⟩:∃ mo,(1114112-n)*((z:Int)+1)=mo:=⟨_,rfl⟩
    rw[hmo] at hml;have hrd:=Sx.l9 bias mo (by omega) hml.1 (by omega) Q.data.toList;obtain⟨nf,hnf⟩:∃ nf,Sx.cS bias 0 1 0 Q.data.toList=nf:=⟨_,rfl⟩
    rw[hnf] at hrd;have HMO:=hide hmo;have HNF:=hide hnf;clear hmo hnf;obtain⟨D0,hD0⟩:∃ D0,(Sx.zZ bias mo 0 1 0 Q.data.toList).1=D0:=⟨_,rfl⟩
    obtain⟨Z0,hZ0⟩:∃ Z0,(Sx.zZ bias mo 0 1 0 Q.data.toList).2=Z0:=⟨_,rfl⟩
    have HRD:Hid ((D0,Z0)=Sx.BG mo 0 Q.data.toList.length nf):=hide (by rw[←hrd,←hD0,←hZ0]);have HD0:=hide hD0;have HZ0:=hide hZ0;clear hrd hD0 hZ0;have hqe:Q.toList.isEmpty=false:=by
     rw[ByteArray.toList_eq];cases h:Q.data.toList with
     | nil=>rw[←aC,h] at hQ;exact absurd hQ (by decide)
     | cons=>rfl
    have HQE:=hide hqe;go_wp2;go_region_held3 (fun w'=>w'.cell? ⟨rb,3,none⟩=some (.int .i64 bias)) (first | exact hc5 | exact hc3 | go_keep) (first | (go_at_call 163;refine(GY rb n i z bias dm _ HR.out.drew hn0 hn1 (by omega) (by omega)).mono ?_;rintro e w5 ⟨rfl,hB5,hsz5⟩;rw[HMO.out];have hc5:=(hB5.cell (p:=⟨rb,3,none⟩) hrbl).trans hc3) | (go_at_call 162;refine(PL Q bias mo _ (by omega) hb0 (by omega) hml.1 (by omega)).mono ?_;rintro e w6 ⟨rfl,rfl⟩;rw[HD0.out,HZ0.out]))
    clear hqe;have hB5:Below wr.heap.size wr w6:=(Below.refl _ wr).drew.trans hB5;have hsz5:w6.heap.size=wr.heap.size:=hsz5;have hR5:RowAt w6 rb n i z bias dm:=HR.out.below hB5 hrbl;have hO5:=own_below HOWN.out hB5 (Nat.le_refl _);have hB5':=HB.out.trans (hB5.mono HB.out.size);have HR5:=hide hR5;have HO5:=hide hO5;have HB5:=hide hB5';have hrbl5:=hR5.lt;clear hB5 hR5 hO5 hB5' HR HOWN HB hc5;have hqne:Q.data.toList≠[]:=by intro h;rw[←aC,h] at hQ;exact absurd hQ (by decide)
    have HQN:=hide hqne;clear hqne;by_cases hok:∃ d s',nf=some (d,s')∧d≤mo
    · obtain⟨d,s',hnf,hdm⟩:=hok;have hsl:=Sx.mT _ _ _ _ _ _ _ (by rw[HNF.out,hnf] : Sx.cS bias 0 1 0 Q.data.toList=some (d,s'));have hmono:=Sx.xR _ _ _ _ _ _ _ (by omega) (by rw[HNF.out,hnf] : Sx.cS bias 0 1 0 Q.data.toList=some (d,s'));have hres:=VY _ _ _ _ _ _ _ (by rw[HNF.out,hnf] : Sx.cS bias 0 1 0 Q.data.toList=some (d,s'));have hDZ:D0=d∧Z0=((Q.size-s'.length:Nat):Int):=by
       have h:=HRD.out;rw[hnf] at h;unfold Sx.BG at h;simp only at h;rw[if_pos hdm,aC] at h;rw[aC] at hsl;exact⟨congrArg Prod.fst h,by have:=congrArg Prod.snd h;simp only at this;omega⟩
      obtain⟨hD,hZ⟩:=hDZ;clear HRD HD0 HZ0;subst D0;rw[aC] at hsl hres;obtain⟨Zn,hZn⟩:∃ Zn,Q.size-s'.length=Zn:=⟨_,rfl⟩
      rw[hZn] at hZ hres;subst Z0;have hz1:1≤Zn:=by omega
      have hz2:Zn≤Q.size:=by omega
      have hbp:=xN n (i+1) z d;have hpl:=TS n (i+1) z d (by omega) (by omega) (by omega) hmono (by rw[HMO.out];exact hdm);have hj0:0≤(i+1+d) % ((z:Int)+1):=Int.emod_nonneg _ (by omega);have hj1:(i+1+d) % ((z:Int)+1)<(z:Int)+1:=Int.emod_lt_of_pos _ (by omega);obtain⟨m,hm⟩:∃ m,n+(i+1+d) / ((z:Int)+1)=m:=⟨_,rfl⟩
      obtain⟨j,hj⟩:∃ j:Nat,(i+1+d) % ((z:Int)+1)=(j:Int):=⟨((i+1+d) % ((z:Int)+1)).toNat,by omega⟩
      rw[hm,hj] at hbp;rw[hm] at hpl;rw[hj] at hj0 hj1;have HM:=hide hm;have HJ:=hide hj;have HBP:=hide hbp;have HRES:=hide hres;have HZN:=hide hZn;have HNF2:Hid (Sx.cS bias 0 1 0 Q.data.toList=some (d,s')):=hide (by rw[HNF.out,hnf]);clear hm hj hbp hres hZn hnf HNF;obtain⟨hpl1,hpl2⟩:=hpl;have hwm:=wrap_i32 m (by omega) (by omega);go_wp2_with (go_at_call 164;go_must (refine(CQ rb n i z bias dm d _ HR5.out hn0 hn1 (by omega) (by omega) hi0 (by omega) hmono (by omega)).mono ?_;rintro e w7 ⟨rfl,hB7⟩;rw[HM.out,HJ.out]))
      have t1:(w7.alloc (.cells #[.int .i64 m,.int .i64 j] 234)).cell? ⟨w7.heap.size,0,none⟩=some (.int .i64 m):=by rw[World.cell?_alloc_mark];rfl
      have t2:(w7.alloc (.cells #[.int .i64 m,.int .i64 j] 234)).cell? ⟨w7.heap.size,1,none⟩=some (.int .i64 j):=by rw[World.cell?_alloc_mark];rfl
      have hB8:Below w6.heap.size w6 (w7.alloc (.cells #[.int .i64 m,.int .i64 j] 234)):=hB7.alloc hB7.size _;have hs8:(w7.alloc (.cells #[.int .i64 m,.int .i64 j] 234)).heap.size=w7.heap.size+1:=World.size_alloc _ _;have hg6:g<w6.heap.size:=(HO5.out.lt g rfl).2;have hw7:=hB7.size;obtain⟨tb,htb⟩:∃ tb,w7.heap.size=tb:=⟨_,rfl⟩
      obtain⟨W8,hW8⟩:∃ W8,w7.alloc (.cells #[.int .i64 m,.int .i64 j] 234)=W8:=⟨_,rfl⟩
      rw[hW8] at t1 t2 hB8 hs8 ⊢;rw[htb] at t1 t2 hs8 hw7 ⊢;have HR8:=hide (HR5.out.below hB8 hrbl5);have HO8:=hide (own_below HO5.out hB8 (Nat.le_refl _));have HB8:=hide (HB5.out.trans (hB8.mono HB5.out.size));have HS8:=hide hs8;have htl:tb<W8.heap.size:=by omega
      clear hB8 hs8 htb hW8 hB7;refine(s9 m W8).mono ?_;rintro e w' ⟨rfl,rfl⟩;obtain⟨rk,hrk⟩:∃ rk,kF m=rk:=⟨_,rfl⟩
      rw[hrk];have HRK:=hide hrk;clear hrk;cases rk with
      | false =>
        have hdn:Sx.kQ l bias n (i+1) first Q.data.toList=none:=by
         refine Sx.qV _ _ _ _ _ _ d s' HNF2.out ?_;rw[HLZ.out,HM.out];have:=HRK.out;unfold kF at this;simp at this;omega
        have hnc:=NR s.data.toList (by rw[←HLA.out.dec];exact hdn);have HNC:=hide hnc;clear hnc hdn;go_wp2;go_ret2;exact⟨by rw[HNC.out.1,HNC.out.2];rfl,HB8.out⟩
      | true =>
        have hmg:Sx.Good m:=by
         have:=HRK.out;unfold kF at this;simp at this;unfold Sx.Good;omega
        have hm1:m≤1114111:=hmg.2.1;have HMG:=hide hmg;clear hmg;have hv9:(w'.alloc (.cells #[.int .i32 m] 21)).heap[w'.heap.size]? = some (.cells #[.int .i32 m] 21):=by show(w'.heap.push _)[w'.heap.size]? = _;exact Array.getElem?_push_size
        have hO9:=HO8.out.alloc (.cells #[.int .i32 m] 21);have hB9:Below w'.heap.size w' (w'.alloc (.cells #[.int .i32 m] 21)):=(Below.refl _ w').alloc (Nat.le_refl _) _;have hg8:g<w'.heap.size:=(HO8.out.lt g rfl).2;have hins:=DI l m j w.heap.size g c w'.heap.size (w'.alloc (.cells #[.int .i32 m] 21)) (by rw[HLZ.out];exact hO9) (by rw[HLZ.out];omega) (by rw[HLZ.out];omega) hv9 (by omega) (Nat.le_trans HB8.out.size hB9.size);rw[HLZ.out] at hins;have HINS:=hide hins;have t3:=(hB9.cell (p:=⟨tb,0,none⟩) htl).trans t1;have t4:=(hB9.cell (p:=⟨tb,1,none⟩) htl).trans t2;have HR9:=hide (HR8.out.below hB9 HR8.out.lt);have HB9:=hide (HB8.out.trans (hB9.mono HB8.out.size));have hs9:w'.heap.size<(w'.alloc (.cells #[.int .i32 m] 21)).heap.size:=by rw[World.size_alloc];exact Nat.lt_succ_self _
        have HT3:=hide t3;have HT4:=hide t4;clear hins hv9 hO9 hB9 t3 t4;go_wp2_with fail
        refine HINS.out.mono ?_;rintro e w10 ⟨g',c',rfl,hO10,hg10,hat⟩;have hrb8:rb<w'.heap.size:=HR8.out.lt;have htg:tb≠g:=by omega
        have u1:=(hg10.cell_far ⟨tb,0,none⟩ (Nat.lt_trans htl hs9) (fun h=>htg (Option.some.inj h))).trans HT3.out;have u2:=(hg10.cell_far ⟨tb,1,none⟩ (Nat.lt_trans htl hs9) (fun h=>htg (Option.some.inj h))).trans HT4.out;have hR10:=HR9.out.kept hg10 (fun h=>hgr (Option.some.inj h).symm);have hB10:=HB9.out.grown hg10 HB9.out.size (fun q e=>by cases e;exact(HO8.out.lt g rfl).1);have hgr2:g'≠rb:=by
         rcases hat with h | h
         · rw[h];exact hgr
         · rw[h,World.size_alloc];omega
        have hsz10:=hg10.size;have HR10:=hide hR10;have HO10:=hide hO10;have HB10:=hide hB10;have hab:Sx.oP (d / dm) ((z:Int)+1)=Sx.after d ((z:Int)+1) first:=by
         rw[HDM.out];unfold Sx.after;cases first <;> rfl
        have hdmb:1≤dm∧dm≤1000:=by rw[HDM.out];cases first <;> simp
        have habd:=Sx.mL d ((z:Int)+1) first hmono (by omega) (by omega)
        have HAB:=hide hab;have HABD:=hide habd;clear hR10 hO10 hB10 hab habd t1 t2 HT3 HT4 hg10 hat HINS HR9 HB9 hs9 hsz10;have hzq:(Zn:Int)≤(Q.size:Int):=by omega
        go_wp2_with (go_at_call 167;go_must (refine(zB rb n i z bias dm m j _ HR10.out hn0 hn1 (by omega) (by omega) hi0 (by omega) hpl1 hm1 (by omega) (by omega) (by rw[HBP.out];exact hmono) hdmb.1 hdmb.2).mono ?_;rintro e w11 ⟨⟨v3,rfl⟩,hR11,hg11⟩;rw[HBP.out,HAB.out] at hR11))
        have hql:(Q.extract Zn Q.size).data.toList=s':=by
         rw[kD,←aC,List.take_length];exact HRES.out.symm
        have hqz:(Q.extract Zn Q.size).size=Q.size-Zn:=by rw[←aC,hql];have:=HZN.out;omega
        have hLen:(l.take j++m::l.drop j).length=z+1:=by
         rw[List.length_append,List.length_take,List.length_cons,List.length_drop,HLZ.out];omega
        have hLA2:LetAt s.data.toList (l.take j++m::l.drop j) s' m j (Sx.after d ((z:Int)+1) first) 2 false:=by
         have hold:=HLA.out;refine⟨fun x hx=>?_,?_,?_,rfl,by omega,hm1,by omega,by rw[hLen];omega,HABD.out.1,HABD.out.2,.inr ⟨rfl,?_,?_⟩⟩
         · rcases List.mem_append.1 hx with hx | hx
           · exact hold.good x (List.mem_of_mem_take hx)
           · rcases List.mem_cons.1 hx with rfl | hx
             · exact HMG.out
             · exact hold.good x (List.mem_of_mem_drop hx)
         · rw[hLen];have:=HZN.out;omega
         · rw[←hold.dec,Sx.nM l bias n (i+1) first _ d s' HNF2.out (by rw[HLZ.out,HM.out];have:=HMG.out;unfold Sx.Good at this;omega),HLZ.out,HM.out,HJ.out];unfold Sx.dY;rw[Int.toNat_natCast]
         · rw[List.any_append,List.any_cons,show decide (128≤m)=true from by simp;omega];simp
         · rcases hold.some with ⟨_,_,h⟩ | ⟨_,_,h⟩
           · rw[←h];exact HQN.out
           · exact h
        refine⟨⟨_,_,g',c',z+1,m,j,_,2,false,rfl,rfl,hLen,by rw[hql];exact hLA2,?_,HO10.out.kept hg11 (.inr (fun h=>hgr2 (Option.some.inj h))),hgr2,HB10.out.grown hg11 HB10.out.size (fun q e=>by cases e;exact hrw)⟩,by show(Q.extract Zn Q.size).size<Q.size;rw[hqz];omega⟩;rw[show((z+1:Nat):Int)=(z:Int)+1 from by omega];exact hR11
    · have hDZ:D0=0∧Z0=0:=by
       have h:=HRD.out;cases hn:nf with
       | none=>rw[hn] at h;exact⟨congrArg Prod.fst h,congrArg Prod.snd h⟩
       | some p =>
         obtain⟨d,s'⟩:=p;rw[hn] at h;unfold Sx.BG at h;simp only at h;rw[if_neg (fun hle=>hok ⟨d,s',hn,hle⟩)] at h;exact⟨congrArg Prod.fst h,congrArg Prod.snd h⟩
      have hdn:Sx.kQ l bias n (i+1) first Q.data.toList=none:=by
       cases hn:nf with
       | none=>exact Sx.MR _ _ _ _ _ _ HQN.out (by rw[HNF.out,hn])
       | some p =>
         obtain⟨d,s'⟩:=p;refine Sx.qV _ _ _ _ _ _ d s' (by rw[HNF.out,hn]) (.inl ?_);have hlt:mo<d:=by
          by_cases h:d≤mo
          · exact absurd ⟨d,s',hn,h⟩ hok
          · omega
         rw[HLZ.out];exact KD n (i+1) z d (by omega) (by omega) (by rw[HMO.out];exact hlt)
      have hnc:=NR s.data.toList (by rw[←HLA.out.dec];exact hdn);obtain⟨rfl,rfl⟩:=hDZ;have HNC:=hide hnc;clear hnc hdn hok;go_wp2;go_ret2;exact⟨by rw[HNC.out.1,HNC.out.2];rfl,HB5.out⟩
  · have hq0:Q.data.toList=[]:=List.eq_nil_of_length_eq_zero (by rw[aC];omega);have hqe:Q.toList.isEmpty=true:=by rw[ByteArray.toList_eq,hq0];rfl
    have hd:=HLA.out.dec;rw[hq0,Sx.FW] at hd;have hcv2:=XC HOWN.out HLZ.out.symm;rw[Sx.KU l HLA.out.good] at hcv2;have hlt2:=Sx.eE l HLA.out.good;have htl:=Sx.lC l;obtain⟨T,hT⟩:∃ T:ByteArray,⟨(Sx.text l).toArray⟩=T:=⟨_,rfl⟩
    have hTl:T.data.toList=Sx.text l:=by rw[←hT]
    have hTz:T.size≤64:=by rw[←aC,hTl];rw[HLZ.out] at htl;omega
    rw[hT] at hcv2;obtain⟨f,hf⟩:∃ f,(l.any fun c=>decide (128≤c))=f:=⟨_,rfl⟩
    have HD:=hide hd;have HTL:=hide hTl;have HLT:=hide hlt2;have HF:=hide hf;have HT:=hide hT;clear hd hTl hlt2 hf hT hq0 htl;cases f with
    | false =>
      have hcm:=HLA.out.some;have hnc:Sx.codeOk s.data.toList=false∧Sx.kL s.data.toList=[]:=by
       have e:Sx.dec s.data.toList=none:=by
        rw[Sx.nR];rcases HLA.out.some with ⟨_,_,h⟩ | ⟨_,h,_⟩
        · rw[if_pos];rw[←h];exact List.eq_nil_of_length_eq_zero (by rw[aC];omega)
        · rw[HF.out] at h;exact absurd h (by decide)
       have e2:Sx.codeOk s.data.toList=false:=by unfold Sx.codeOk;rw[e]
       exact⟨e2,by unfold Sx.kL;rw[e2];rfl⟩
      have HNC:=hide hnc;clear hnc hcm;go_wp2_with (go_at_call 131;go_must (refine(pO T l _ (by rw[HTL.out];exact HLT.out) (by omega)).mono ?_;rintro e w7 ⟨rfl,hB7⟩;rw[HF.out]))
      go_ret2;exact⟨by rw[HNC.out.1,HNC.out.2];rfl,HB.out.trans (hB7.mono HB.out.size)⟩
    | true =>
      have hnn:Sx.fM s.data.toList≠[]:=by
       rcases HLA.out.some with ⟨_,h,_⟩ | ⟨_,_,h⟩
       · have h2:=HF.out;rw[h,HL0.out] at h2;obtain⟨x,hx,h3⟩:=List.any_eq_true.1 h2;have:=(HGOOD.out x hx).2;simp at h3;omega
       · exact h
      have hdec:Sx.dec s.data.toList=some l:=by rw[Sx.nR,if_neg hnn,←HD.out]
      obtain⟨E,hE⟩:∃ E:ByteArray,⟨(Sx.enc l).toArray⟩=E:=⟨_,rfl⟩
      have hEl:E.data.toList=Sx.enc l:=by rw[←hE]
      have HOF:=hide (fun (w:World)=>by have:=NM T l w (by rw[HTL.out];exact HLT.out) (by omega) (zI l HF.out) (by have h1:=VF l;have h2:=HLZ.out;omega);rw[hE] at this;exact this);obtain⟨k,hk⟩:∃ k,Sx.codeOk s.data.toList=k:=⟨_,rfl⟩
      have hk2:(Sx.enc l == s.data.toList)=k:=by rw[←hk];unfold Sx.codeOk;rw[hdec]
      have hlo:Sx.kL s.data.toList=if k then Sx.text l else []:=by unfold Sx.kL;rw[hk,hdec];rfl
      have hes:(E.toList == s.toList)=k:=by rw[ByteArray.toList_eq,ByteArray.toList_eq,hEl];exact hk2
      have HK:=hide hk;have HLO:=hide hlo;clear hk hk2 hlo hE hEl hdec hnn;cases k with
      | false =>
        go_wp2_with (first | (go_at_call 131;go_must (refine(pO T l _ (by rw[HTL.out];exact HLT.out) (by omega)).mono ?_;rintro e w7 ⟨rfl,hB7⟩;rw[HF.out])) | (go_at_call 133;go_must (refine(HOF.out _).mono ?_;rintro e w8 ⟨rfl,hB8⟩)))
        go_ret2;exact⟨by rw[HK.out,HLO.out];rfl,(HB.out.trans (hB7.mono HB.out.size)).trans (hB8.mono (Nat.le_trans HB.out.size hB7.size))⟩
      | true =>
        go_wp2_with (first | (go_at_call 131;go_must (refine(pO T l _ (by rw[HTL.out];exact HLT.out) (by omega)).mono ?_;rintro e w7 ⟨rfl,hB7⟩;rw[HF.out])) | (go_at_call 133;go_must (refine(HOF.out _).mono ?_;rintro e w8 ⟨rfl,hB8⟩)))
        go_ret2;exact⟨by rw[HK.out,show Sx.kL s.data.toList=Sx.text l from HLO.out,HT.out];rfl,(HB.out.trans (hB7.mono HB.out.size)).trans (hB8.mono (Nat.le_trans HB.out.size hB7.size))⟩
open Go.RowKit Go.Shelf
attribute [local go_sem] Oper.semAt_some
def eU (r:List UInt8):Int:=lastTo r 46 r.length
theorem rN (s:List UInt8)(c:UInt8):∀ k:Nat,-1≤lastTo s c k∧lastTo s c k<k:=by
 intro k
 induction k with
 | zero=>simp[lastTo]
 | succ k ih=>simp only[lastTo];split <;> omega
def iS:Nat→List UInt8→List (List UInt8)
 | 0,r=>[r]
 | f+1,r=>if eU r<0 then [r] else r.drop (eU r+1).toNat::iS f (r.take (eU r).toNat)
def fK (r:List UInt8):List (List UInt8):=iS r.length r
theorem TM:∀ (f g:Nat) (r:List UInt8),r.length≤f→r.length≤g→iS f r=iS g r:=by
 intro f
 induction f with
 | zero =>
   intro g r hf hg;have:r=[]:=List.eq_nil_of_length_eq_zero (by omega);subst this;cases g with
   | zero=>rfl
   | succ g=>simp[iS,eU,lastTo]
 | succ f ih =>
   intro g r hf hg;have hb:=rN r 46 r.length;cases g with
   | zero =>
     have:r=[]:=List.eq_nil_of_length_eq_zero (by omega);subst this;simp[iS,eU,lastTo]
   | succ g =>
     simp only[iS];by_cases h:eU r<0
     · rw[if_pos h,if_pos h]
     · rw[if_neg h,if_neg h,ih g _ (by rw[List.length_take];unfold eU at *;omega) (by rw[List.length_take];unfold eU at *;omega)]
theorem wS (r:List UInt8)(h:eU r<0):fK r=[r]:=by
 unfold fK;cases hl:r.length with
 | zero=>rfl
 | succ n=>simp only[iS];rw[if_pos h]
theorem wL (r:List UInt8)(h:¬ eU r<0):fK r=r.drop (eU r+1).toNat::fK (r.take (eU r).toNat):=by
 have hb:=rN r 46 r.length;unfold fK;cases hl:r.length with
 | zero=>unfold eU at h;rw[hl] at hb h;omega
 | succ n =>
   simp only[iS];rw[if_neg h,TM n (r.take (eU r).toNat).length _ (by rw[List.length_take];unfold eU at *;omega) (Nat.le_refl _)]
def J2:Value→Nat
 | .string b=>b.size
 | _=>0
theorem tQ (n:Nat)(hn:1≤n)(l:Nat)(s:ByteArray)(hs:s.size≤10000)(P:List (List UInt8))(hP:P=fK s.data.toList)(J:Nat→World→Prop)(Jx:World→Prop)
 (hY:∀ k (h:k<P.length) W,J k W→YieldAt Fence.wide (n-1) Tryz.prog l #[.string ⟨P[k].toArray⟩] W fun e W'=>(e=.returned (.bool true)∧J (k+1) W')∨(e=.returned (.bool false)∧Jx W'))
 (W:World) (h0:J 0 W) :
 CallsIn Fence.wide n Tryz.prog 84 #[.string s,.func (.yield l) #[] #[]] W fun e W'=>(∃ v,e=.returned v)∧(J P.length W'∨Jx W'):=by
 refine callsIn_of_wp Tryz.func84 rfl trivial ?_ rfl;simp only[Tryz.ntmps84,List.size_toArray,List.length_cons,List.length_nil,Nat.reduceAdd,Nat.reduceSub,Array.replicate_succ,Array.replicate_zero,List.push_toArray,List.append_toArray,List.nil_append,List.cons_append];have HP:=hide hP;have HY:=hide hY;clear hP hY;gi_wp2
 gi_loopw [4] (fun rv wr=>∃ (R:ByteArray) (k:Nat),rv=.string R∧R.size≤10000∧k<P.length∧P.drop k=fK R.data.toList∧J k wr) (fun rv _=>J2 rv)
 case atStart=>exact⟨s,0,rfl,hs,by rw[HP.out];unfold fK;cases s.data.toList.length <;> simp[iS];split <;> simp,by rw[List.drop_zero];exact HP.out,h0⟩
 case round =>
  obtain⟨R,k,rfl,hRz,hk,hd,hJ⟩:=hrel;have hla:=rD R 46 wr (by omega);have hbd:=rN R.data.toList 46 R.size;have hde:eU R.data.toList=lastTo R.data.toList 46 R.size:=by unfold eU;rw[aC]
  obtain⟨dv,hdv⟩:∃ dv,lastTo R.data.toList 46 R.size=dv:=⟨_,rfl⟩
  rw[hdv] at hla hbd hde;have hla2:Calls Tryz.prog 129 #[.string R,.int .u8 46] wr fun e w'=>e=.returned (.int .i64 dv)∧w'=wr:=hla;have HLA:=hide hla2;have HDE:=hide hde;have HD:=hide hd;clear hla hla2 hdv hde hd;by_cases hneg:dv<0
  · have hdm:dv = -1:=by omega
    subst hdm;have hpl:fK R.data.toList=[R.data.toList]:=wS _ (by rw[HDE.out];omega);have hpk:P[k]=R.data.toList:=by
     have:=HD.out;rw[hpl,List.drop_eq_getElem_cons hk] at this;exact(List.cons.inj this).1
    have hkl:k+1=P.length:=by
     have:=congrArg List.length HD.out;rw[hpl,List.length_drop] at this;simp at this;omega
    obtain⟨fn,tmps,assign,body,hy,hR⟩:=HY.out k hk wr hJ;have hRR:(⟨P[k].toArray⟩:ByteArray)=R:=by rw[hpk]
    rw[hRR] at hy;have HR:=hide hR;have HKL:=hide hkl;clear hR hRR hpk hpl hkl;gi_wp2_with (refine⟨trivial,?_⟩;gi_at_call 129;refine(callsIn_wide.2 HLA.out).mono ?_;rintro e w' ⟨rfl,rfl⟩)
    refine HR.out.mono ?_;rintro e W3 (⟨rfl,hJ3⟩ | ⟨rfl,hJx3⟩)
    · gi_wp2
      refine bodyPost_ret (results_none rfl _ _ _) rfl ?_;exact⟨⟨_,rfl⟩,.inl (by rw[←HKL.out];exact hJ3)⟩
    · gi_wp2
      refine bodyPost_ret (results_none rfl _ _ _) rfl ?_;exact⟨⟨_,rfl⟩,.inr hJx3⟩
  · obtain⟨d,hd1⟩:∃ d:Nat,dv=(d:Int):=⟨dv.toNat,by omega⟩
    subst hd1;have hdz:d<R.size:=by omega
    have hpm:=wL R.data.toList (by rw[HDE.out];exact hneg);rw[HDE.out] at hpm;have hpk:P[k]=R.data.toList.drop (d+1):=by
     have:=HD.out;rw[hpm,List.drop_eq_getElem_cons hk] at this;exact(List.cons.inj this).1
    have hpr:P.drop (k+1)=fK (R.data.toList.take d):=by
     have:=HD.out;rw[hpm,List.drop_eq_getElem_cons hk] at this;exact(List.cons.inj this).2
    have hkl:k+1<P.length:=by
     have h1:=congrArg List.length hpr;rw[List.length_drop] at h1;have h2:0<(fK (R.data.toList.take d)).length:=by
      unfold fK;cases (R.data.toList.take d).length with
      | zero=>simp[iS]
      | succ m=>simp only[iS];split <;> simp
     omega
    obtain⟨fn,tmps,assign,body,hy,hR⟩:=HY.out k hk wr hJ;have hRR:(⟨P[k].toArray⟩:ByteArray)=R.extract (d+1) R.size:=by
     rw[hpk];apply ByteArray.ext;apply Array.toList_inj.1;rw[kD,←aC,List.take_length]
    rw[hRR] at hy;have hrl:(R.extract 0 d).data.toList=R.data.toList.take d:=by rw[kD,List.drop_zero]
    have hrz:(R.extract 0 d).size=d:=by rw[←aC,hrl,List.length_take,aC];omega
    have HR:=hide hR;have HPR:=hide hpr;have HRL:=hide hrl;have HRZ:=hide hrz;clear hR hRR hpk hpr hrl hrz hpm;have e1:(0:Int)≤(d:Int)+1:=by omega
    have e2:(d:Int)+1≤(R.size:Int):=by omega
    have e3:((d:Int)+1).toNat=d+1:=by omega
    gi_wp2_with (refine⟨trivial,?_⟩;gi_at_call 129;refine(callsIn_wide.2 HLA.out).mono ?_;rintro e w' ⟨rfl,rfl⟩)
    refine HR.out.mono ?_;rintro e W3 (⟨rfl,hJ3⟩ | ⟨rfl,hJx3⟩)
    · gi_wp2
      exact⟨⟨_,k+1,rfl,by rw[HRZ.out];omega,hkl,by rw[HRL.out];exact HPR.out,hJ3⟩,by show(R.extract 0 d).size<R.size;rw[HRZ.out];exact hdz⟩
    · gi_wp2
      refine bodyPost_ret (results_none rfl _ _ _) rfl ?_;exact⟨⟨_,rfl⟩,.inr hJx3⟩
theorem PN (n:Nat)(hn:1≤n)(l:Nat)(s:ByteArray)(hs:s.size≤1000)(P:List (List UInt8))(hP:P=fK s.data.toList)(J:Nat→World→Prop)(Jx:World→Prop)
 (hY:∀ k (h:k<P.length) W,J k W→YieldAt Fence.wide (n-1) Tryz.prog l #[.string ⟨P[k].toArray⟩] W fun e W'=>(e=.returned (.bool true)∧J (k+1) W')∨(e=.returned (.bool false)∧Jx W'))
 (W:World) (h0:J 0 W) :
 CallsIn Fence.wide n Tryz.prog 84 #[.string s,.func (.yield l) #[] #[]] W fun e W'=>(∃ v,e=.returned v)∧(J P.length W'∨Jx W'):=tQ n hn l s (by omega) P hP J Jx hY W h0
end Go.Proofs.YtgohllfpceeboabGreatDoor
