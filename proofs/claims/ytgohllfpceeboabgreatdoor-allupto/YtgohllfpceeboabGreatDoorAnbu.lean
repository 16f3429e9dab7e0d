import Derived.Test.YtgohllfpceeboabGreatDoorAnbt
import Derived.Test.YtgohllfpceeboabGreatDoorAnbq
set_option maxRecDepth 100000
set_option maxHeartbeats 4000000
namespace Go.Proofs.YtgohllfpceeboabGreatDoor
open Go.RowKit
theorem K3 {rs:List Sx.Rl}{H:List (List UInt8)}(hrt:Sx.RlsRt rs)(hh:Sx.cD H)(P:ByteArray)(hPl:P.data.toList=Sx.aA H) :
 (∀ v W,PrAt W v rs→Calls Tryz.prog 39 #[v,.string P] W fun e w'=>e=.returned (iL (eR rs (Sx.aA H)))∧Below W.heap.size W w') ∧
 (∀ W,Calls Tryz.prog 41 #[iL (eR rs (Sx.aA H)),.string P] W fun e w'=>e=.returned (.string ⟨(cY (Sx.aA H) (gJ (eR rs (Sx.aA H))+1)).toArray⟩)∧Below W.heap.size W w') ∧
 (∀ W,Calls Tryz.prog 40 #[iL (eR rs (Sx.aA H)),.string P] W fun e w'=>e=.returned (.string ⟨(cY (Sx.aA H) (gJ (eR rs (Sx.aA H)))).toArray⟩)∧Below W.heap.size W w'):=by
 obtain⟨p1,p2,p3⟩:=kW hh hrt.ok;have hle:=nG hh.1 rs;have h6:=hh.2.1;have hdl:(Sx.aA H).length≤60:=by have:=Sx.cZ H hh.1;have:=hh.2.2.1;omega
 have hPs:P.size≤1000:=by rw[←aC,hPl];omega
 have hbest:(eR rs (Sx.aA H)).1.length≤1000:=qD _ (fun r=>r.1.length≤1000) (by simp) rs (fun r hr=>by have:=(jK (hrt.ok r hr)).1;omega);have hPe:P=⟨(Sx.aA H).toArray⟩:=by rw[←hPl]
 refine⟨fun v W hv=>?_,fun W=>?_,fun W=>?_⟩
 · have:=K1 rs (Sx.aA H) v W hv (fun r hr=>⟨by have:=(jK (hrt.ok r hr)).1;omega,by have:=(jK (hrt.ok r hr)).2;omega⟩) (by omega) (by have:=hrt.many;omega);rw[←hPe] at this;exact this
 · have:=J4 (eR rs (Sx.aA H)) _ P W hbest p1 p3 (by omega) hPs;rw[hPl] at this;rw[p1];exact this
 · have:=I8 (eR rs (Sx.aA H)) _ P W hbest p1 p3 (by omega) hPs;rw[hPl] at this;rw[p1];exact this
theorem EO (h:List (List UInt8))(k:Nat):Sx.aM (h.drop k)≤Sx.aM h:=by
 unfold Sx.aM
 conv=>rhs;rw[←List.take_append_drop k h]
 rw[List.map_append,List.sum_append];omega
theorem RE {H:List (List UInt8)}(hh:Sx.cD H)(n:Nat)(hn:1≤n):(cY (Sx.aA H) n).length≤60:=by
 rw[mN hh n hn];split
 · by_cases he:H.drop (H.length-n)=[]
   · rw[he];simp[Sx.aA]
   · have h1:=Sx.cZ _ he;have h2:=EO H (H.length-n);have h3:=hh.2.2.1;omega
 · simp
theorem QP {rs:List Sx.Rl}{H:List (List UInt8)}(hrt:Sx.RlsRt rs)(hh:Sx.cD H):(cY (Sx.aA H) (gJ (eR rs (Sx.aA H))+1)).length≤60:=by
 obtain⟨p1,p2,p3⟩:=kW hh hrt.ok;have e:((Sx.cL H rs).1:Int)+1=(((Sx.cL H rs).1+1:Nat):Int):=by omega
 rw[p1,e];exact RE hh _ (by omega)
theorem Q7 (w:World)(s h:ByteArray)(p:Int):∀ W,Below (w.alloc (.cells #[.string s,.string h,.int .i64 p] 72)).heap.size (w.alloc (.cells #[.string s,.string h,.int .i64 p] 72)) W→W.cell? ⟨w.heap.size,0,none⟩=some (.string s)∧W.cell? ⟨w.heap.size,1,none⟩=some (.string h)∧W.cell? ⟨w.heap.size,2,none⟩=some (.int .i64 p):=fun W hB=>by
 have hm:=World.cell?_alloc_mark w #[.string s,.string h,.int .i64 p] 72 (0,0);have hz:w.heap.size<(w.alloc (.cells #[.string s,.string h,.int .i64 p] 72)).heap.size:=by rw[World.size_alloc];omega
 exact⟨(hB.cell (p:=⟨w.heap.size,0,none⟩) hz).trans ((hm 0).trans rfl),(hB.cell (p:=⟨w.heap.size,1,none⟩) hz).trans ((hm 1).trans rfl),(hB.cell (p:=⟨w.heap.size,2,none⟩) hz).trans ((hm 2).trans rfl)⟩
theorem XP (g n:Nat)(rs:List Sx.Rl)(os:List cJ)(w:World)(hr:RdW w g rs os)(hn:n<os.length)(hok:∀ o∈os,dF o)(hrt:Sx.RlsRt rs):Calls Tryz.prog 93 #[.pointer (some ⟨g,0,none⟩),.int .i64 n] w fun e w'=>e=.returned (.string ⟨(fW rs os[n]).toArray⟩)∧Below w.heap.size w w':=by
 have HRD:=hide hr;obtain⟨rv,p,cap,h1,h2,h3,h4,h5⟩:=hr;obtain⟨rb,rfl,hrb,o1⟩:=h5 n hn;have hxo:=hok os[n] (List.getElem_mem hn);have HOP:=hide (fun W=>ML os[n] W hxo);obtain⟨x,hx⟩:∃ x,os[n]=x:=⟨_,rfl⟩
 rw[hx] at o1 HOP hxo ⊢;clear hx h5 hok;unfold O4 at o1;unfold rH at HOP;obtain⟨c1,c2,c3,c4⟩:=o1;obtain⟨ox,d⟩:=x;cases ox with
 | none =>
   rw[decide_eq_true rfl] at HOP;have hs:fW rs (none,d)=LL:=rfl;rw[hs];dsimp only[bC,dZ,bT] at c1 c2 c3 c4 HOP;go_enter Tryz.func93,Tryz.ntmps93;go_wp2_with fail
   refine(HOP.out _).mono ?_;rintro e v1 ⟨rfl,hB⟩;have HB:=hide (aN ((Below.refl _ w).alloc (Nat.le_refl _) _) hB);clear hB;go_wp2;go_ret;exact⟨rfl,HB.out⟩
 | some t =>
   obtain⟨s,H,q⟩:=t;rw[decide_eq_false (by simp)] at HOP;obtain⟨hsc,hh,-⟩:=hxo;have hsP:fW rs (some (s,H,q),d)=s++[58,47,47]++(if cY (Sx.aA H) (gJ (eR rs (Sx.aA H))+1)=[] then Sx.aA H else cY (Sx.aA H) (gJ (eR rs (Sx.aA H))+1)):=rfl;rw[hsP];dsimp only[bC,dZ,bT] at c1 c2 c3 c4 HOP;have hsl:s.length≤5:=by rcases hsc with rfl | rfl <;> simp[sW,mV]
   have hdl:(Sx.aA H).length≤60:=by have:=Sx.cZ H hh.1;have:=hh.2.2.1;omega
   obtain⟨P,hP⟩:∃ X:ByteArray,⟨(Sx.aA H).toArray⟩=X:=⟨_,rfl⟩
   have hPl:P.data.toList=Sx.aA H:=by rw[←hP]
   obtain⟨v1,v2,-⟩:=K3 hrt hh P hPl;have HPV:=hide (fun W (h:Below w.heap.size w W)=>v1 rv W (h4.below h));have HDO:=hide v2;have hol:=QP hrt hh;obtain⟨ow,how⟩:∃ o,cY (Sx.aA H) (gJ (eR rs (Sx.aA H))+1)=o:=⟨_,rfl⟩
   rw[how] at HDO hol ⊢;obtain⟨⟨bh,bk,bs⟩,hb⟩:∃ b,eR rs (Sx.aA H)=b:=⟨_,rfl⟩
   rw[hb] at HPV HDO;unfold iL at HPV HDO;dsimp only at HPV HDO;rw[hP] at c2 HOP;obtain⟨S,hS⟩:∃ X:ByteArray,⟨s.toArray⟩=X:=⟨_,rfl⟩
   obtain⟨D,hD⟩:∃ X:ByteArray,⟨d.toArray⟩=X:=⟨_,rfl⟩
   obtain⟨O,hO⟩:∃ X:ByteArray,⟨ow.toArray⟩=X:=⟨_,rfl⟩
   obtain⟨E,hE⟩:∃ X:ByteArray,⟨(Sx.aA bh).toArray⟩=X:=⟨_,rfl⟩
   obtain⟨M,hM⟩:∃ M,bh.length=M:=⟨_,rfl⟩
   rw[hE,hM] at HPV HDO;rw[hO] at HDO;rw[hS] at c1 HOP;rw[hD] at c4 HOP;obtain⟨rp,rc,rfl,-⟩:=h4;have hOl:O.data.toList=ow:=by rw[←hO]
   have hOs:O.size≤60:=by rw[←aC,hOl];exact hol
   have hPs:P.size≤60:=by rw[←aC,hPl];exact hdl
   have hSs:S.size≤5:=by rw[←hS];exact hsl
   have a1:S++⟨#[58,47,47]⟩=⟨(s++[58,47,47]).toArray⟩:=by rw[←hS];exact bF s [58,47,47]
   have a2:=bF (s++[58,47,47]) ow;have a3:=bF (s++[58,47,47]) (Sx.aA H);obtain⟨T1,hT1⟩:∃ X:ByteArray,⟨(s++[58,47,47]).toArray⟩=X:=⟨_,rfl⟩
   have hT1s:T1.size≤8:=by rw[←hT1];show(s++[58,47,47]).length≤8;rw[List.length_append];simp;omega
   rw[hT1] at a1 a2 a3;rw[hO] at a2;rw[hP] at a3;have HOF:Hid (∀ W,Below (w.alloc (.cells #[.string S,.string P,.int .i64 q,.string D] 75)).heap.size (w.alloc (.cells #[.string S,.string P,.int .i64 q,.string D] 75)) W→C4 W w.heap.size S P q D):=hide (fun W h=>(AW w S P D q).below h (by rw[World.size_alloc];omega));have hcase:ow=[]∨ow≠[]:=Decidable.em _;obtain⟨FN,hFN⟩:∃ X:ByteArray,⟨(s++[58,47,47]++(if ow=[] then Sx.aA H else ow)).toArray⟩=X:=⟨_,rfl⟩
   rw[hFN];have HF1:Hid (ow=[]→T1++P=FN):=hide (fun h=>by rw[a3,←hFN,if_pos h]);have HF2:Hid (ow≠[]→T1++O=FN):=hide (fun h=>by rw[a2,←hFN,if_neg h]);clear a2 a3 hFN;clear how hb hE hM v1 v2 hsP hsc hh hrt hPl hP hS hD hO hT1 hsl hdl hol;go_enter Tryz.func93,Tryz.ntmps93;go_wp2_with fail
   refine(HOP.out _).mono ?_;rintro e y1 ⟨rfl,hB⟩;have HB1:=hide (aN ((Below.refl _ w).alloc (Nat.le_refl _) _) hB);obtain⟨f1,f2,f3,f4⟩:=HOF.out _ hB;have g0:=(HB1.out.cell (p:=⟨g,0,none⟩) h1).trans h2;clear hB c1 c2 c3 c4 h3 h2;have HFR:=hide (Q7 y1 S P q);obtain⟨t1,t2,t3⟩:=HFR.out _ (Below.refl _ _);have HB2:=hide (HB1.out.alloc HB1.out.size (.cells #[.string S,.string P,.int .i64 q] 72));go_wp2_with fail
   obtain⟨VA,hVA⟩:∃ V,y1.alloc (.cells #[.string S,.string P,.int .i64 q] 72)=V:=⟨_,rfl⟩
   have gA:=(HB2.out.cell (p:=⟨g,0,none⟩) h1).trans ((HB1.out.cell (p:=⟨g,0,none⟩) h1).symm.trans g0);rw[hVA] at HFR t1 t2 t3 HB2 gA ⊢;have HG0:Hid (∀ W,Below VA.heap.size VA W→W.cell? ⟨g,0,none⟩=some (.slice rp rs.length rc)∧W.cell? ⟨y1.heap.size,1,none⟩=some (.string P)):=hide (fun W h=>⟨(h.cell (p:=⟨g,0,none⟩) (Nat.lt_of_lt_of_le h1 HB2.out.size)).trans gA,(HFR.out W h).2.1⟩);have hS0:=HG0.out VA (Below.refl _ _);have hbA:Below VA.heap.size VA VA:=Below.refl _ _;have hbz:=HB1.out.size;clear hVA f1 f2 f3 f4 g0 gA t1 t2 t3 HOF HOP;go_region_held_law (fun w'=>w'.cell? ⟨g,0,none⟩=some (.slice rp rs.length rc)∧w'.cell? ⟨y1.heap.size,1,none⟩=some (.string P)) (first | exact hS2 | exact hS1 | exact hS0 | go_keep) (first | (go_at_call 39;refine(HPV.out _ (aN HB2.out (by first | exact hbA | exact hbA.drew))).mono ?_;rintro e v1 ⟨rfl,hB1⟩;have hb1:Below VA.heap.size VA v1:=aN (by first | exact hbA | exact hbA.drew) hB1;have hS1:=HG0.out v1 hb1) | (go_at_call 41;refine(HDO.out _).mono ?_;rintro e v2 ⟨rfl,hB2⟩;have hb2:Below VA.heap.size VA v2:=aN (by first | exact hb1 | exact hb1.drew) hB2;have hS2:=HG0.out v2 hb2))
   all_goals (
    obtain⟨t1,t2,t3⟩:=HFR.out _ hb2;have HBF:=hide (aN HB2.out hb2);clear hb1 hb2 hB1 hB2 hS0 hS1 hS2;rcases hcase with hc | hc
    · have hO0:=C7 (X:=O) (by rw[hOl,hc]);have hF:=HF1.out hc;clear hc hOl;go_wp2;go_ret;exact⟨rfl,HBF.out⟩
    · have hO0:=B9 (X:=O) (by rw[←aC,hOl];exact List.length_pos_iff.2 hc);have hF:=HF2.out hc;clear hc hOl;go_wp2;go_ret;exact⟨rfl,HBF.out⟩)
theorem ab (g:Nat)(V H:List (List UInt8))(A B:ByteArray)(rs:List Sx.Rl)(os:List cJ)(w:World)(hr:RdW w g rs os)(hrt:Sx.RlsRt rs)(hv:Sx.cD V)(hh:Sx.cD H)(hA:A.data.toList=Sx.aA V)(hB:B.data.toList=Sx.aA H):Calls Tryz.prog 43 #[.pointer (some ⟨g,0,none⟩),.string A,.string B] w fun e w'=>e=.returned (.bool (JS rs V H))∧Below w.heap.size w w':=by
 obtain⟨rv,p,cap,h1,h2,h3,h4,h5⟩:=hr;have hlA:A.size≤60:=by have:=Sx.cZ V hv.1;have:=hv.2.2.1;rw[←aC,hA];omega
 have hlB:B.size≤60:=by have:=Sx.cZ H hh.1;have:=hh.2.2.1;rw[←aC,hB];omega
 obtain⟨v1,-,v3⟩:=K3 hrt hv A hA;have hm:JS rs V H=((A.toList == B.toList) || (cR B.data.toList (46::A.data.toList) && !(A.toList == (⟨(cY (Sx.aA V) (gJ (eR rs (Sx.aA V)))).toArray⟩:ByteArray).toList))):=by
  unfold JS;rw[ba_eq,ba_eq,hA,hB]
 have e46:(⟨#[46]⟩:ByteArray)++A=⟨(46::A.data.toList).toArray⟩:=by
  have:A=⟨A.data.toList.toArray⟩:=by simp
  rw[this];exact bF [46] _
 have HSF:=hide (fun W=>vJ B ⟨(46::A.data.toList).toArray⟩ W (by omega));rw[show(⟨(46::A.data.toList).toArray⟩:ByteArray).data.toList=46::A.data.toList from rfl] at HSF;have HPV:=hide (fun W (h:Below w.heap.size w W)=>v1 rv W (h4.below h));have HSU:=hide v3;obtain⟨⟨bh,bk,bs⟩,hb⟩:∃ b,eR rs (Sx.aA V)=b:=⟨_,rfl⟩
 obtain⟨O,hO⟩:∃ X:ByteArray,⟨(cY (Sx.aA V) (gJ (eR rs (Sx.aA V)))).toArray⟩=X:=⟨_,rfl⟩
 rw[hO] at HSU hm;rw[hb] at HPV HSU;unfold iL at HPV HSU;dsimp only at HPV HSU;obtain⟨E,hE⟩:∃ X:ByteArray,⟨(Sx.aA bh).toArray⟩=X:=⟨_,rfl⟩
 obtain⟨M,hM⟩:∃ M,bh.length=M:=⟨_,rfl⟩
 rw[hE,hM] at HPV HSU;obtain⟨Z,hZ⟩:∃ X:ByteArray,⟨(46::A.data.toList).toArray⟩=X:=⟨_,rfl⟩
 rw[hZ] at HSF e46;obtain⟨SB,hSB⟩:∃ b,cR B.data.toList (46::A.data.toList)=b:=⟨_,rfl⟩
 rw[hSB] at HSF hm;obtain⟨R,hR⟩:∃ R,JS rs V H=R:=⟨_,rfl⟩
 rw[hR] at hm ⊢;have HM:=hide hm;obtain⟨rp,rc,rfl,-⟩:=h4;clear hm hR hSB hZ hE hM hb hO v1 v3 hA hB hv hh hrt h3 h5;cases hE:(A.toList == B.toList) with
 | true =>
   go_enter Tryz.func43,Tryz.ntmps43;go_wp2;go_ret;exact⟨by rw[HM.out,hE];rfl,Below.refl _ _⟩
 | false =>
   go_enter Tryz.func43,Tryz.ntmps43;go_wp2_with fail
   refine(HSF.out _).mono ?_;rintro e y1 ⟨rfl,rfl⟩;cases SB with
   | false =>
     go_wp2;go_ret;exact⟨by rw[HM.out,hE];rfl,Below.refl _ _⟩
   | true =>
     go_wp2_with fail
     refine(HPV.out _ (Below.refl _ _)).mono ?_;rintro e y2 ⟨rfl,hB2⟩;have HB2:=hide hB2;clear hB2;go_wp2_with fail
     refine(HSU.out _).mono ?_;rintro e y3 ⟨rfl,hB3⟩;have HB3:=hide (aN HB2.out hB3);clear hB3;go_wp2;go_ret;exact⟨by rw[HM.out,hE];first | rfl | (cases (A.toList == O.toList) <;> rfl),HB3.out⟩
theorem EY {rs:List Sx.Rl}{os:List cJ}{m:Nat}{v d:List UInt8}(hm:m<os.length)(h:os[m]=(none,d)):mY rs os m v=(os,8):=by
 unfold mY;rw[if_pos (by omega)];have hg:os.getD (m:Int).toNat (none,[])=(none,d):=by
  rw[Int.toNat_natCast,List.getD_eq_getElem?_getD,List.getElem?_eq_getElem hm,h];rfl
 rw[hg]
theorem DN {rs:List Sx.Rl}{os:List cJ}{m:Nat}{v d s:List UInt8}{H:List (List UInt8)}{p:Int}(hm:m<os.length)(h:os[m]=(some (s,H,p),d)):mY rs os m v=(if (Sx.aI v).2=0 then (if TJ rs (Sx.aI v).1 H=true then (os.set m (some (s,H,p),Sx.aA (Sx.aI v).1),0) else (os,9)) else (os,(Sx.aI v).2)):=by
 unfold mY;rw[if_pos (by omega)];have hg:os.getD (m:Int).toNat (none,[])=(some (s,H,p),d):=by
  rw[Int.toNat_natCast,List.getD_eq_getElem?_getD,List.getElem?_eq_getElem hm,h];rfl
 rw[hg,Int.toNat_natCast]
theorem WY (g:Nat)(n:Int)(v:ByteArray)(ov:Value)(rs:List Sx.Rl)(os:List cJ)(w:World)(hw:gW w)(hW:PwAt w g ov rs os)(hok:∀ o∈os,dF o)(hrt:Sx.RlsRt rs):Calls Tryz.prog 17 #[.pointer (some ⟨g,0,none⟩),.int .i64 n,.string v] w fun e w'=>e=.returned (.int .i64 (mY rs os n v.data.toList).2)∧PPost w g ov rs (mY rs os n v.data.toList).1 w':=by
 have hr:=hW.read;have hg:g<w.heap.size:=hW.lt;have HH:=hide (IU g n rs os w hr);by_cases hn:0≤n∧n<os.length
 · rw[decide_eq_true hn] at HH;obtain⟨m,rfl⟩:∃ m:Nat,n=m:=⟨n.toNat,by omega⟩
   have hm:m<os.length:=by omega
   have HHI:=hide (fun W hW=>rA v W hW);unfold iV at HHI;have hxo:=hok os[m] (List.getElem_mem hm);have HOP:=hide (fun W=>ML os[m] W hxo);have HPS:=hide (fun W hB=>PPost.same (w':=W) hW hB);have HWL:=hide (fun W (h:Below w.heap.size w W)=>hW.below h);obtain⟨rv,t4,t2,t5⟩:=hW;have hty:=wU t4 t5;obtain⟨p,cap,rfl⟩:=aB t5;obtain⟨rb,rfl⟩:∃ rb,p=some ⟨rb,0,none⟩:=by
    rcases t5.2 with ⟨e1,e2⟩ | ⟨b,cap',cur,e1,e2,e3,e4⟩
    · omega
    · exact⟨b,by injection e1⟩
   have hrb:=t5.lt rb rfl;have c1:w.cell? ⟨g,1,none⟩=some (.slice (some ⟨rb,0,none⟩) os.length cap):=by simp[World.cell?,t4]
   obtain⟨a1,a2,a3,a4⟩:=zN os m hm;have hadd:∀ k,(⟨rb,0,none⟩:Addr).add k=⟨rb,k,none⟩:=fun k=>by rw[Addr.add_lit,Nat.zero_add]
   have hcc:∀ k u,(fE os)[k]? = some u→w.cell? ⟨rb,k,none⟩=some u:=fun k u hu=>by
    rw[←hadd];exact t5.cells (g:=rb) rfl _ _ hu
   have d1:=hcc _ _ a1;have d2:=hcc _ _ a2;have d3:=hcc _ _ a3;have d4:=hcc _ _ a4;obtain⟨ox,hox⟩:∃ x,os[m]=x:=⟨_,rfl⟩
   rw[hox] at d1 d2 d3 d4 HOP hxo;unfold rH at HOP;have HLW:Hid (∀ W,Below w.heap.size w W→gW W):=hide (fun W h=>bA _ _ hw h);have HT5:=hide t5;obtain⟨o1,d⟩:=ox;cases o1 with
   | none =>
     rw[EY hm hox];rw[decide_eq_true rfl] at HOP;dsimp only[bC,dZ,bT] at d1 d2 d3 d4 HOP;clear a1 a2 a3 a4 hadd hcc hr t2 hw hok hrt t4 t5 hty HWL;go_enter Tryz.func17,Tryz.ntmps17;go_wp2_with fail
     refine HH.out.mono ?_;rintro e w1 ⟨rfl,rfl⟩;go_wp2_with fail
     refine(HOP.out _).mono ?_;rintro e w2 ⟨rfl,hB⟩;have HB:=hide hB;clear hB;go_wp2;go_ret;exact⟨rfl,HPS.out _ HB.out⟩
   | some t =>
     obtain⟨s,H,q⟩:=t;rw[DN hm hox];rw[decide_eq_false (by simp)] at HOP;obtain⟨-,hHH,-⟩:=hxo;dsimp only[bC,dZ,bT] at d1 d2 d3 d4 HOP;have hset:=fun V=>zT os m hm V;rw[hox] at hset;clear a1 a2 a3 a4 hadd hcc hr hw;obtain⟨PH,hPH⟩:∃ X:ByteArray,⟨(Sx.aA H).toArray⟩=X:=⟨_,rfl⟩
     obtain⟨S,hS⟩:∃ X:ByteArray,⟨s.toArray⟩=X:=⟨_,rfl⟩
     obtain⟨D,hD⟩:∃ X:ByteArray,⟨d.toArray⟩=X:=⟨_,rfl⟩
     rw[hPH] at d2 HOP;rw[hS] at d1 HOP;rw[hD] at d4 HOP;by_cases hh:(Sx.aI v.data.toList).2=0
     · rw[if_pos hh];have hpl:Sx.dU v.data.toList=(Sx.aA (Sx.aI v.data.toList).1,0):=by
        unfold Sx.dU;rw[←hh]
       rw[hpl] at HHI;have hHo:=Sx.gX v.data.toList hh;obtain⟨V,hV⟩:∃ H,(Sx.aI v.data.toList).1=H:=⟨_,rfl⟩
       rw[hV] at HHI hHo ⊢;rw[←O7 hrt.ok hHo hHH];obtain⟨PV,hPV⟩:∃ X:ByteArray,⟨(Sx.aA V).toArray⟩=X:=⟨_,rfl⟩
       have HMY:=hide (fun W (h:Below w.heap.size w W)=>ab g V H PV PH rs os W (HWL.out W h).read hrt hHo hHH (by rw[←hPV]) (by rw[←hPH]));obtain⟨MB,hMB⟩:∃ b,JS rs V H=b:=⟨_,rfl⟩
       rw[hMB] at HMY ⊢;dsimp only at HHI;have hset:=hset (Sx.aA V);rw[hPV] at HHI hset;have HSET:=hide hset;have HC:Hid (∀ W,Below w.heap.size w W→W.cell? ⟨rb,m*4+1,none⟩=some (.string PH)∧W.cell? ⟨rb,m*4+3,none⟩=some (.string D)∧W.frozen? ⟨rb,m*4+3,none⟩=false):=hide (fun W h=>by
        exact⟨(h.cell (p:=⟨rb,m*4+1,none⟩) hrb.2).trans d2,(h.cell (p:=⟨rb,m*4+3,none⟩) hrb.2).trans d4,(h.frozen (p:=⟨rb,m*4+3,none⟩) hrb.2).trans (HT5.out.frozenAt _)⟩)
       have HFIN:Hid (∀ W,Below w.heap.size w W→PPost w g (.slice (some ⟨rb,0,none⟩) os.length cap) rs (os.set m (some (s,H,q),Sx.aA V)) (W.setCell ⟨rb,m*4+3,none⟩ (.string PV))):=hide (fun W h=>by
        have hx:Ex (PE g (.slice (some ⟨rb,0,none⟩) os.length cap)) w (W.setCell ⟨rb,m*4+3,none⟩ (.string PV)):=⟨(h.mono (Nat.zero_le _)).setCell (p:=⟨rb,m*4+3,none⟩) (Nat.zero_le _) _,fun k hk hn=>(heap_setCell_other _ _ _ _ (fun e=>hn (.inr (by rw[e];rfl)))).trans (h.block k hk)⟩
        refine⟨_,⟨rv,?_,hty.own hx t2 (by decide) (by decide),?_⟩,hx,fun _ h=>.inl h⟩
        · rw[heap_setCell_other _ _ _ _ (by show g≠rb;omega)];exact(h.block g hg).trans t4
        · rw[List.length_set,HSET.out];exact yB (aD HT5.out h) _ _)
       clear hset hPV hPH hS hD hMB hHo hHH hrt t2 t4 t5 hok hV hpl hh hty;go_enter Tryz.func17,Tryz.ntmps17;go_wp2_with fail
       refine HH.out.mono ?_;rintro e w1 ⟨rfl,rfl⟩;go_wp2_with fail
       refine(HOP.out _).mono ?_;rintro e w2 ⟨rfl,hB⟩;have HB2:=hide hB;clear hB;go_wp2_with fail
       refine(HHI.out _ (HLW.out _ HB2.out)).mono ?_;rintro e w3 ⟨hB,rfl⟩;have HB3:=hide (aN HB2.out hB);clear hB d1 d2 d3 d4;obtain⟨e1,e2,e3⟩:=HC.out _ HB3.out;go_wp2_with fail
       refine(HMY.out _ HB3.out).mono ?_;rintro e w4 ⟨rfl,hB⟩;have HB4:=hide (aN HB3.out hB);clear hB e1 e2 e3;obtain⟨e1,e2,e3⟩:=HC.out _ HB4.out;cases MB with
       | false =>
         go_wp2;go_ret;exact⟨rfl,HPS.out _ HB4.out⟩
       | true =>
         go_wp2;go_ret;exact⟨rfl,HFIN.out _ HB4.out⟩
     · rw[if_neg hh];have hpl:Sx.dU v.data.toList=([],(Sx.aI v.data.toList).2):=yR hh;rw[hpl] at HHI;dsimp only at HHI ⊢;obtain⟨er,her⟩:∃ e,(Sx.aI v.data.toList).2=e:=⟨_,rfl⟩
       rw[her] at HHI hh ⊢;have k1:(er != 0)=true:=by simpa using hh
       have k2:(er == 0)=false:=by simpa using hh
       clear hpl her hh hset hPH hS hD hHH hrt t2 t4 t5 hok hty HWL;go_enter Tryz.func17,Tryz.ntmps17;go_wp2_with fail
       refine HH.out.mono ?_;rintro e w1 ⟨rfl,rfl⟩;go_wp2_with fail
       refine(HOP.out _).mono ?_;rintro e w2 ⟨rfl,hB⟩;have HB2:=hide hB;clear hB;go_wp2_with fail
       refine(HHI.out _ (HLW.out _ HB2.out)).mono ?_;rintro e w3 ⟨hB,rfl⟩;have HB3:=hide (aN HB2.out hB);clear hB;go_wp2;go_ret;exact⟨rfl,HPS.out _ HB3.out⟩
 · have hd:mY rs os n v.data.toList=(os,7):=by unfold mY;rw[if_neg hn]
   rw[hd];rw[decide_eq_false hn] at HH;have HPS:=hide (PPost.same hW (Below.refl _ _));clear hr hn hW hd;go_enter Tryz.func17,Tryz.ntmps17;go_wp2_with fail
   refine HH.out.mono ?_;rintro e w1 ⟨rfl,rfl⟩;go_wp2;go_ret;exact⟨rfl,HPS.out⟩
end Go.Proofs.YtgohllfpceeboabGreatDoor
