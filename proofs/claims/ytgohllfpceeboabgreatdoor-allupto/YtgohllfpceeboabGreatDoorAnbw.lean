import Derived.Test.YtgohllfpceeboabGreatDoorRows
import Derived.Test.YtgohllfpceeboabGreatDoorAnbv
import Derived.ProofKit
import Derived.Deep.Slices
import Derived.Lib.LaidU8T
import Derived.Lay
import Derived.MakeChecks
import Derived.Stop.Joined
import Derived.SevenTiedAt
import Derived.Laws.CopyOwn
set_option maxRecDepth 100000
set_option maxHeartbeats 8000000
namespace Go.Proofs.YtgohllfpceeboabGreatDoor
theorem Tryz.cells51 : Tryz.prog.cellsOf 51 = 1 := by kernel_rfl
theorem Tryz.cells96 : Tryz.prog.cellsOf 96 = 8 := by kernel_rfl
open Go.ChangeShapes Go.WideShapes Go.ChangeAt Go.RowKit Go.Deep
theorem Tryz.own:ownKnob Tryz.prog.godebug=none:=by kernel_rfl
theorem Tryz.laidOut:laidOutB Tryz.prog=true:=by kernel_rfl
theorem Tryz.cells3:Tryz.prog.cellsOf 3=1:=by kernel_rfl
theorem Tryz.cells9:Tryz.prog.cellsOf 9=1:=by kernel_rfl
theorem Tryz.cells4:Tryz.prog.cellsOf 4=1:=by kernel_rfl
theorem dX {cs:List Value}{i:Nat}{v:Value}(h:(cs.drop i).take 1=[v]):cs[i]? = some v:=by
 have h0:((cs.drop i).take 1)[0]? = some v:=by rw[h];rfl
 simpa using h0
theorem m8 {H:Type}{enc:TypeId×Value→H}{w:World}{base:Nat}{spare:Nat→Bool}{held:Bool}{fuel:Nat}{cs:List Value}{x:DataW H×List MemPlace}(h:DataW.trod enc Tryz.prog w base spare held fuel 96 cs=some x) :
 ∃ o:OpC,cs=o.cells:=by
 obtain⟨xs,n,rfl,-,hl,hx,hf⟩:=DataW.trod_struct Tryz.underlying96 h;rw[Tryz.cells96] at hl;have hx8:xs.length=8:=hx;have f0:DataW.trod enc Tryz.prog w base spare held n 3 ((cs.drop 0).take (Tryz.prog.cellsOf 3))=xs[0]?:=hf 0 _ rfl;have f1:DataW.trod enc Tryz.prog w base spare held n 3 ((cs.drop 1).take (Tryz.prog.cellsOf 3))=xs[1]?:=hf 1 _ rfl;have f2:DataW.trod enc Tryz.prog w base spare held n 3 ((cs.drop 2).take (Tryz.prog.cellsOf 3))=xs[2]?:=hf 2 _ rfl;have f3:DataW.trod enc Tryz.prog w base spare held n 3 ((cs.drop 3).take (Tryz.prog.cellsOf 3))=xs[3]?:=hf 3 _ rfl;have f4:DataW.trod enc Tryz.prog w base spare held n 9 ((cs.drop 4).take (Tryz.prog.cellsOf 9))=xs[4]?:=hf 4 _ rfl;have f5:DataW.trod enc Tryz.prog w base spare held n 9 ((cs.drop 5).take (Tryz.prog.cellsOf 9))=xs[5]?:=hf 5 _ rfl;have f6:DataW.trod enc Tryz.prog w base spare held n 51 ((cs.drop 6).take (Tryz.prog.cellsOf 51))=xs[6]?:=hf 6 _ rfl;have f7:DataW.trod enc Tryz.prog w base spare held n 4 ((cs.drop 7).take (Tryz.prog.cellsOf 4))=xs[7]?:=hf 7 _ rfl;rw[List.getElem?_eq_getElem (by omega)] at f0 f1 f2 f3 f4 f5 f6 f7;obtain⟨a0,e0,-,-⟩:=DataW.trod_int Tryz.underlying3 f0;obtain⟨a1,e1,-,-⟩:=DataW.trod_int Tryz.underlying3 f1;obtain⟨a2,e2,-,-⟩:=DataW.trod_int Tryz.underlying3 f2;obtain⟨a3,e3,-,-⟩:=DataW.trod_int Tryz.underlying3 f3;obtain⟨a4,e4,-,-⟩:=DataW.trod_string Tryz.underlying9 f4;obtain⟨a5,e5,-,-⟩:=DataW.trod_string Tryz.underlying9 f5
 obtain⟨a7,e7,-⟩:=DataW.trod_bool Tryz.underlying4 f7;obtain⟨la,ln,lc,e6⟩:∃ la ln lc,(cs.drop 6).take 1=[Value.slice la ln lc]:=by
  rcases DataW.trod_slice Tryz.underlying51 f6 with ⟨h0,-⟩ | ⟨a,len,cap,-,-,-,-,h0,-⟩
  · exact⟨none,0,0,by rw[←Tryz.cells51];exact h0⟩
  · exact⟨some a,len,cap,by rw[←Tryz.cells51];exact h0⟩
 rw[Tryz.cells3] at e0 e1 e2 e3;rw[Tryz.cells9] at e4 e5;rw[Tryz.cells4] at e7;have g0:=dX e0;have g1:=dX e1;have g2:=dX e2;have g3:=dX e3;have g4:=dX e4;have g5:=dX e5;have g6:=dX e6;have g7:=dX e7;refine⟨⟨a0,a1,a2,a3,a4,a5,la,ln,lc,a7⟩,?_⟩
 match cs,hl with
 | [c0,c1,c2,c3,c4,c5,c6,c7],_ =>
   simp only[List.getElem?_cons_zero,List.getElem?_cons_succ,Option.some.injEq] at g0 g1 g2 g3 g4 g5 g6 g7;subst g0 g1 g2 g3 g4 g5 g6 g7;rfl
theorem UX:Rows.laid_unicode_utf8_first=Lib.firstData:=by kernel_rfl
theorem RQ:(Rows.laid_unicode_utf8_acceptRanges:DataW Unit)=Lib.acceptData:=by kernel_rfl
theorem ax:U8Extra Tryz.prog Tryz.layValid_ren:=⟨by kernel_rfl,by kernel_rfl,by kernel_rfl,by kernel_rfl,by kernel_rfl,by kernel_rfl,by kernel_rfl⟩
open Go.RowKit
theorem N7 (g a b:Nat)(rs:List Sx.Rl)(os:List cJ)(w:World)(hr:RdW w g rs os)(ha:a<os.length)(hb:b<os.length)(hok:∀ o∈os,dF o):Calls Tryz.prog 56 #[.pointer (some ⟨g,0,none⟩),.int .i64 a,.int .i64 b] w fun e w'=>e=.returned (.bool (tC a b os[a] os[b]))∧Below w.heap.size w w':=by
 have hr0:=hr;obtain⟨rv,p,cap,h1,h2,h3,h4,h5⟩:=hr0;obtain⟨rb,rfl,hrb,o1⟩:=h5 a ha;obtain⟨rb',hrb',-,o2⟩:=h5 b hb;obtain rfl:rb=rb':=by injection hrb' with h;injection h
 have hxo:=hok os[a] (List.getElem_mem ha);have hyo:=hok os[b] (List.getElem_mem hb);have HSA:=hide (fun W (h:Below w.heap.size w W)=>H7 g a b rs os W (hr.below h) ha hb hok);obtain⟨x,hx⟩:∃ x,os[a]=x:=⟨_,rfl⟩
 obtain⟨y,hy⟩:∃ x,os[b]=x:=⟨_,rfl⟩
 simp only[hx,hy] at HSA;rw[hx] at o1 ⊢;rw[hy] at o2 ⊢;unfold O4 at o1 o2;have hrel:¬ (x.2=[]∧y.2=[])→tC a b x y=(decide (bC x=bC y) && decide (x.2=y.2)):=fun h=>by
  unfold tC;rw[if_neg h]
 have hrt:x.2=[]∧y.2=[]→tC a b x y=pK a b x y:=fun h=>by unfold tC;rw[if_pos h]
 obtain⟨S1,hS1⟩:∃ X:ByteArray,⟨(bC x).toArray⟩=X:=⟨_,rfl⟩
 obtain⟨H1,hH1⟩:∃ X:ByteArray,⟨(dZ x).toArray⟩=X:=⟨_,rfl⟩
 obtain⟨D1,hD1⟩:∃ X:ByteArray,⟨x.2.toArray⟩=X:=⟨_,rfl⟩
 obtain⟨S2,hS2⟩:∃ X:ByteArray,⟨(bC y).toArray⟩=X:=⟨_,rfl⟩
 obtain⟨H2,hH2⟩:∃ X:ByteArray,⟨(dZ y).toArray⟩=X:=⟨_,rfl⟩
 obtain⟨D2,hD2⟩:∃ X:ByteArray,⟨y.2.toArray⟩=X:=⟨_,rfl⟩
 have e1:(x.2=[]↔D1.toList=[]):=by rw[←hD1,ByteArray.toList_eq]
 have e2:(y.2=[]↔D2.toList=[]):=by rw[←hD2,ByteArray.toList_eq]
 have e3:decide (bC x=bC y)=decide (S1.toList=S2.toList):=by rw[←hS1,←hS2];simp only[ByteArray.toList_eq]
 have e4:decide (x.2=y.2)=decide (D1.toList=D2.toList):=by rw[←hD1,←hD2];simp only[ByteArray.toList_eq]
 rw[e1,e2] at hrt hrel;rw[e3,e4] at hrel;rw[hS1,hH1,hD1] at o1;rw[hS2,hH2,hD2] at o2;obtain⟨P1,hP1⟩:∃ n,bT x=n:=⟨_,rfl⟩
 obtain⟨P2,hP2⟩:∃ n,bT y=n:=⟨_,rfl⟩
 rw[hP1] at o1;rw[hP2] at o2;obtain⟨c1,c2,c3,c4⟩:=o1;obtain⟨d1,d2,d3,d4⟩:=o2;obtain⟨R,hR⟩:∃ R,tC a b x y=R:=⟨_,rfl⟩
 rw[hR] at hrel hrt ⊢;obtain⟨RA,hRA⟩:∃ R,pK a b x y=R:=⟨_,rfl⟩
 rw[hRA] at hrt HSA;have HREL:=hide hrel;have HRT:=hide hrt;clear hrel hrt hS1 hH1 hD1 hS2 hH2 hD2 e1 e2 e3 e4 hP1 hP2 hx hy hR hRA h4 h5 hrb' hok hxo hyo h2 hr;go_enter Tryz.func56,Tryz.ntmps56;go_upto_region 1 with fail
 go_cut [7,8] (fun f s wc=>∃ b1 b2,f=.pointer (some ⟨b1,0,none⟩)∧s=.pointer (some ⟨b2,0,none⟩)∧b1<wc.heap.size∧b2<wc.heap.size∧C4 wc b1 S1 H1 P1 D1∧C4 wc b2 S2 H2 P2 D2∧Below w.heap.size w wc)
 case first =>
  go_region
  all_goals (
   go_wp2_with fail
   go_meet;first
    | (obtain⟨q1,q2,q3,q4,q5⟩:=BP w S1 H1 D1 S2 H2 D2 P1 P2 _ rfl
       exact⟨_,_,rfl,rfl,q1,q2,q3,q4,q5⟩)
    | (obtain⟨q1,q2,q3,q4,q5⟩:=BP w S2 H2 D2 S1 H1 D1 P2 P1 _ rfl
       exact⟨_,_,rfl,rfl,q2,q1,q4,q3,q5⟩))
 case rest =>
  obtain⟨b1,b2,rfl,rfl,hb1,hb2,q1,q2,hBc⟩:=hcut;have HBC:=hide hBc;have HX:Hid (∀ W,Below wc.heap.size wc W→C4 W b1 S1 H1 P1 D1∧C4 W b2 S2 H2 P2 D2):=hide (fun W h=>⟨q1.below h hb1,q2.below h hb2⟩);have hS0:=HX.out wc (Below.refl _ _);unfold C4 at hS0 HX;clear q1 q2 hBc c1 c2 c3 c4 d1 d2 d3 d4 h3;obtain⟨⟨c1,c2,c3,c4⟩,d1,d2,d3,d4⟩:=hS0;by_cases hdd:D1.toList=[]∧D2.toList=[]
  · have HRE:=hide (HRT.out hdd);obtain⟨h6,h7⟩:=hdd;have k1:D1.toList.isEmpty=true:=by rw[h6];rfl
    have k2:D2.toList.isEmpty=true:=by rw[h7];rfl
    go_wp2_with fail
    refine(HSA.out _ HBC.out).mono ?_;rintro e y1 ⟨rfl,hB1⟩;have HBE:=hide (aN HBC.out hB1);clear hB1;go_wp2;go_ret;exact⟨by rw[HRE.out];rfl,HBE.out⟩
  · have HRE:=hide (HREL.out hdd);by_cases h6:D1.toList=[]
    · have h7:¬ D2.toList=[]:=fun h=>hdd ⟨h6,h⟩;have k1:D1.toList.isEmpty=true:=by rw[h6];rfl
      have k2:D2.toList.isEmpty=false:=by simpa using h7
      clear hdd;go_wp2;all_goals (
       go_ret;refine⟨?_,HBC.out⟩;rw[HRE.out];simp_all <;> (rw[Bool.eq_iff_iff];simp))
    · have k1:D1.toList.isEmpty=false:=by simpa using h6
      clear hdd;go_wp2;all_goals (
       go_ret;refine⟨?_,HBC.out⟩;rw[HRE.out];simp_all <;> (rw[Bool.eq_iff_iff];simp))
theorem Z1 (g a b:Nat)(rs:List Sx.Rl)(os:List cJ)(w:World)(hr:RdW w g rs os)(ha:a<os.length)(hb:b<os.length)(hok:∀ o∈os,dF o)(hrt:Sx.RlsRt rs):Calls Tryz.prog 57 #[.pointer (some ⟨g,0,none⟩),.int .i64 a,.int .i64 b] w fun e w'=>e=.returned (.bool (tH rs a b os[a] os[b]))∧Below w.heap.size w w':=by
 have hr0:=hr;obtain⟨rv,p,cap,h1,h2,h3,h4,h5⟩:=hr0;obtain⟨rb,rfl,hrb,o1⟩:=h5 a ha;have hxo:=hok os[a] (List.getElem_mem ha);have HOP:=hide (fun W=>ML os[a] W hxo);have HSA:=hide (fun W (h:Below w.heap.size w W)=>XP g a rs os W (hr.below h) ha hok hrt);have HSB:=hide (fun W (h:Below w.heap.size w W)=>XP g b rs os W (hr.below h) hb hok hrt);obtain⟨x,hx⟩:∃ x,os[a]=x:=⟨_,rfl⟩
 obtain⟨y,hy⟩:∃ x,os[b]=x:=⟨_,rfl⟩
 rw[hx] at o1 HOP HSA ⊢;rw[hy] at HSB ⊢;have hrel:¬ a=b→tH rs a b x y=(!decide (x.1=none) && decide (fW rs x=fW rs y)):=fun h=>by
  unfold tH;rw[decide_eq_false h,Bool.false_or];congr 1;simp
 have hrtt:a=b→tH rs a b x y=true:=fun h=>by unfold tH;rw[decide_eq_true h];rfl
 unfold O4 at o1;unfold rH at HOP;obtain⟨S1,hS1⟩:∃ X:ByteArray,⟨(bC x).toArray⟩=X:=⟨_,rfl⟩
 obtain⟨H1,hH1⟩:∃ X:ByteArray,⟨(dZ x).toArray⟩=X:=⟨_,rfl⟩
 obtain⟨D1,hD1⟩:∃ X:ByteArray,⟨x.2.toArray⟩=X:=⟨_,rfl⟩
 obtain⟨TA,hTA⟩:∃ X:ByteArray,⟨(fW rs x).toArray⟩=X:=⟨_,rfl⟩
 obtain⟨TB,hTB⟩:∃ X:ByteArray,⟨(fW rs y).toArray⟩=X:=⟨_,rfl⟩
 have e3:decide (fW rs x=fW rs y)=(TA.toList == TB.toList):=by rw[ba_eq,←hTA,←hTB]
 rw[e3] at hrel;rw[hTA] at HSA;rw[hTB] at HSB;rw[hS1,hH1,hD1] at o1 HOP;obtain⟨P1,hP1⟩:∃ n,bT x=n:=⟨_,rfl⟩
 rw[hP1] at o1 HOP;obtain⟨c1,c2,c3,c4⟩:=o1;obtain⟨R,hR⟩:∃ R,tH rs a b x y=R:=⟨_,rfl⟩
 rw[hR] at hrel hrtt ⊢;obtain⟨OP,hOP⟩:∃ R,decide (x.1=none)=R:=⟨_,rfl⟩
 rw[hOP] at hrel HOP;have HREL:=hide hrel;have HRT:=hide hrtt;clear hrel hrtt hS1 hH1 hD1 hTA hTB e3 hP1 hx hy hR hOP h4 h5 hok hxo h2 hr hrt;by_cases hab:a=b
 · have hRt:=HRT.out hab;have k1:((a:Int) == b)=true:=by simp;omega
   go_enter Tryz.func57,Tryz.ntmps57;go_wp2;go_ret;exact⟨by rw[hRt];rfl,Below.refl _ _⟩
 · have HRE:=hide (HREL.out hab);have k1:((a:Int) == b)=false:=by simp;omega
   go_enter Tryz.func57,Tryz.ntmps57;go_wp2_with fail
   refine(HOP.out _).mono ?_;rintro e y1 ⟨rfl,hB1⟩;have HB1:=hide hB1;clear hB1;cases OP with
   | true =>
     go_wp2;go_ret;exact⟨by rw[HRE.out];rfl,HB1.out⟩
   | false =>
     go_wp2_with fail
     refine(HSA.out _ HB1.out).mono ?_;rintro e y2 ⟨rfl,hB2⟩;have HB2:=hide (aN HB1.out hB2);clear hB2;go_wp2_with fail
     refine(HSB.out _ HB2.out).mono ?_;rintro e y3 ⟨rfl,hB3⟩;have HB3:=hide (aN HB2.out hB3);clear hB3;go_wp2;go_ret;exact⟨by rw[HRE.out];rfl,HB3.out⟩
def B3 (W:World)(b:Nat)(x y z:Bool):Prop:=b<W.heap.size∧(W.cell? ⟨b,0,none⟩=some (.bool x)∧W.cell? ⟨b,1,none⟩=some (.bool y)∧W.cell? ⟨b,2,none⟩=some (.bool z))∧W.frozen? ⟨b,0,none⟩=false∧W.frozen? ⟨b,1,none⟩=false∧W.frozen? ⟨b,2,none⟩=false
theorem B3.below {W W':World}{b:Nat}{x y z:Bool}(h:B3 W b x y z)(hb:Below W.heap.size W W'):B3 W' b x y z:=by
 obtain⟨h0,⟨h1,h2,h3⟩,h4,h5,h6⟩:=h;exact⟨Nat.lt_of_lt_of_le h0 hb.size,⟨(hb.cell (p:=⟨b,0,none⟩) h0).trans h1,(hb.cell (p:=⟨b,1,none⟩) h0).trans h2,(hb.cell (p:=⟨b,2,none⟩) h0).trans h3⟩,(hb.frozen (p:=⟨b,0,none⟩) h0).trans h4,(hb.frozen (p:=⟨b,1,none⟩) h0).trans h5,(hb.frozen (p:=⟨b,2,none⟩) h0).trans h6⟩
theorem B3.other {W:World}{b c k:Nat}{x y z:Bool}(h:B3 W b x y z)(hc:c≠b)(v:Value):B3 (W.setCell ⟨c,k,none⟩ v) b x y z:=by
 obtain⟨h0,⟨h1,h2,h3⟩,h4,h5,h6⟩:=h;refine⟨by rw[World.size_setCell];exact h0,⟨?_,?_,?_⟩,(World.frozen?_setCell ..).trans h4,(World.frozen?_setCell ..).trans h5,(World.frozen?_setCell ..).trans h6⟩
 · rw[World.cell?_setCell_other _ _ _ _ (fun e=>hc (congrArg Addr.block e)),h1]
 · rw[World.cell?_setCell_other _ _ _ _ (fun e=>hc (congrArg Addr.block e)),h2]
 · rw[World.cell?_setCell_other _ _ _ _ (fun e=>hc (congrArg Addr.block e)),h3]
theorem B3.set0 {W:World}{b:Nat}{x y z:Bool}(h:B3 W b x y z)(v:Bool):B3 (W.setCell ⟨b,0,none⟩ (.bool v)) b v y z:=by
 obtain⟨h0,⟨h1,h2,h3⟩,h4,h5,h6⟩:=h;refine⟨by rw[World.size_setCell];exact h0,⟨?_,?_,?_⟩,(World.frozen?_setCell ..).trans h4,(World.frozen?_setCell ..).trans h5,(World.frozen?_setCell ..).trans h6⟩
 · rw[World.cell?_setCell_same _ _ _ h1]
 · rw[World.cell?_setCell_other _ _ _ _ (by simp),h2]
 · rw[World.cell?_setCell_other _ _ _ _ (by simp),h3]
theorem B3.set1 {W:World}{b:Nat}{x y z:Bool}(h:B3 W b x y z)(v:Bool):B3 (W.setCell ⟨b,1,none⟩ (.bool v)) b x v z:=by
 obtain⟨h0,⟨h1,h2,h3⟩,h4,h5,h6⟩:=h;refine⟨by rw[World.size_setCell];exact h0,⟨?_,?_,?_⟩,(World.frozen?_setCell ..).trans h4,(World.frozen?_setCell ..).trans h5,(World.frozen?_setCell ..).trans h6⟩
 · rw[World.cell?_setCell_other _ _ _ _ (by simp),h1]
 · rw[World.cell?_setCell_same _ _ _ h2]
 · rw[World.cell?_setCell_other _ _ _ _ (by simp),h3]
theorem B3.set2 {W:World}{b:Nat}{x y z:Bool}(h:B3 W b x y z)(v:Bool):B3 (W.setCell ⟨b,2,none⟩ (.bool v)) b x y v:=by
 obtain⟨h0,⟨h1,h2,h3⟩,h4,h5,h6⟩:=h;refine⟨by rw[World.size_setCell];exact h0,⟨?_,?_,?_⟩,(World.frozen?_setCell ..).trans h4,(World.frozen?_setCell ..).trans h5,(World.frozen?_setCell ..).trans h6⟩
 · rw[World.cell?_setCell_other _ _ _ _ (by simp),h1]
 · rw[World.cell?_setCell_other _ _ _ _ (by simp),h2]
 · rw[World.cell?_setCell_same _ _ _ h3]
theorem WA (w:World)(t:TypeId):B3 (w.alloc (.cells #[.bool false,.bool false,.bool false] t)) w.heap.size false false false:=by
 have h:=heap_alloc_new w (.cells #[.bool false,.bool false,.bool false] t);obtain⟨W,hW⟩:∃ W,w.alloc (.cells #[.bool false,.bool false,.bool false] t)=W:=⟨_,rfl⟩
 have hz:w.heap.size<W.heap.size:=by rw[←hW,World.size_alloc];omega
 rw[hW] at h ⊢;refine⟨hz,?_,?_⟩ <;> simp[World.cell?,World.frozen?,h]
theorem X3 (f1 f2 f3:Value)(W:World):(Instr.index 108 (.agg #[f1,f2,f3]) (.int .i64 0)).run Tryz.prog W=.ok f1 W:=by
 simp[Instr.index,run_underlying Tryz.underlying108,asIntOf,go_sem]
theorem Y3 (f1 f2 f3:Value)(W:World):(Instr.index 108 (.agg #[f1,f2,f3]) (.int .i64 1)).run Tryz.prog W=.ok f2 W:=by
 simp[Instr.index,run_underlying Tryz.underlying108,asIntOf,go_sem]
theorem U8 (f1 f2 f3:Value)(W:World):(Instr.index 108 (.agg #[f1,f2,f3]) (.int .i64 2)).run Tryz.prog W=.ok f3 W:=by
 simp[Instr.index,run_underlying Tryz.underlying108,asIntOf,go_sem]
theorem R9 (g a b:Nat)(rs:List Sx.Rl)(os:List cJ)(w:World)(hr:RdW w g rs os)(ha:a<os.length)(hb:b<os.length)(hok:∀ o∈os,dF o)(hrt:Sx.RlsRt rs):Calls Tryz.prog 37 #[.pointer (some ⟨g,0,none⟩),.int .i64 a,.int .i64 b] w fun e w'=>e=.returned (.agg #[.bool (pK a b os[a] os[b]),.bool (tC a b os[a] os[b]),.bool (tH rs a b os[a] os[b])])∧Below w.heap.size w w':=by
 have HA:=hide (fun W (h:Below w.heap.size w W)=>H7 g a b rs os W (hr.below h) ha hb hok);have HD:=hide (fun W (h:Below w.heap.size w W)=>N7 g a b rs os W (hr.below h) ha hb hok);have HC:=hide (fun W (h:Below w.heap.size w W)=>Z1 g a b rs os W (hr.below h) ha hb hok hrt);obtain⟨R1,hR1⟩:∃ R,pK a b os[a] os[b]=R:=⟨_,rfl⟩
 obtain⟨R2,hR2⟩:∃ R,tC a b os[a] os[b]=R:=⟨_,rfl⟩
 obtain⟨R3,hR3⟩:∃ R,tH rs a b os[a] os[b]=R:=⟨_,rfl⟩
 rw[hR1] at HA ⊢;rw[hR2] at HD ⊢;rw[hR3] at HC ⊢;clear hR1 hR2 hR3 hr;have hb1:=WA w 76;have hB1:Below w.heap.size w (w.alloc (.cells #[.bool false,.bool false,.bool false] 76)):=(Below.refl _ w).alloc (Nat.le_refl _) _;have hz1:(w.alloc (.cells #[.bool false,.bool false,.bool false] 76)).heap.size=w.heap.size+1:=by rw[World.size_alloc]
 obtain⟨w1,hw1⟩:∃ w1,w.alloc (.cells #[.bool false,.bool false,.bool false] 76)=w1:=⟨_,rfl⟩
 rw[hw1] at hb1 hB1 hz1;have hb2:=WA w1 76;have hBw:Below w1.heap.size w1 (w1.alloc (.cells #[.bool false,.bool false,.bool false] 76)):=(Below.refl _ w1).alloc (Nat.le_refl _) _;have hb1':=hb1.below hBw;have hB2:=aN hB1 hBw;rw[hz1] at hb2;rw[←hw1] at hb2 hb1' hB2;have HS:=hide hb2;have HT:=hide hb1';have HU:=hide hB2;clear hb1 hB1 hz1 hw1 hb2 hBw hb1' hB2;go_enter Tryz.func37,Tryz.ntmps37;go_wp2_with fail
 go_loopw [17] (fun iv wr=>∃ k:Nat,iv=.int .i64 k∧k≤3∧B3 wr (w.heap.size+1) (decide (0<k) && R1) (decide (1<k) && R2) (decide (2<k) && R3)∧B3 wr w.heap.size false false false∧Below w.heap.size w wr) (fun iv _=>(3-intOf iv).toNat)
 case atStart=>exact⟨0,rfl,by omega,HS.out,HT.out,HU.out⟩
 case round =>
  obtain⟨k,rfl,hk,hA,hR,hB⟩:=hrel;clear HS HT HU;have HB:=hide hB;have HAA:=hide hA;have HRR:=hide hR
  match k,hk with
  | 0,_ =>
    have hix:=fun f1 f2 f3=>X3 f1 f2 f3 wr;clear hB hA hR;go_wp2_with fail
    refine(HA.out _ HB.out).mono ?_;rintro e y1 ⟨rfl,hB1⟩;have HB2:=hide (aN HB.out hB1);have HA2:=hide (HAA.out.below hB1);have HR2:=hide (HRR.out.below hB1);obtain⟨a0,⟨a1,a2,a3⟩,a4,a5,a6⟩:=HA2.out;clear hB1 hix;go_wp2;exact⟨⟨1,rfl,by omega,HA2.out.set0 _,HR2.out.other (by omega) _,HB2.out.setCell (p:=⟨w.heap.size+1,0,none⟩) (Nat.le_succ _) _⟩,by simp[intOf]⟩
  | 1,_ =>
    have hix:=fun f1 f2 f3=>Y3 f1 f2 f3 wr;clear hB hA hR;go_wp2_with fail
    refine(HD.out _ HB.out).mono ?_;rintro e y1 ⟨rfl,hB1⟩;have HB2:=hide (aN HB.out hB1);have HA2:=hide (HAA.out.below hB1);have HR2:=hide (HRR.out.below hB1);obtain⟨a0,⟨a1,a2,a3⟩,a4,a5,a6⟩:=HA2.out;clear hB1 hix;go_wp2;exact⟨⟨2,rfl,by omega,HA2.out.set1 _,HR2.out.other (by omega) _,HB2.out.setCell (p:=⟨w.heap.size+1,1,none⟩) (Nat.le_succ _) _⟩,by simp[intOf]⟩
  | 2,_ =>
    have hix:=fun f1 f2 f3=>U8 f1 f2 f3 wr;clear hB hA hR;go_wp2_with fail
    refine(HC.out _ HB.out).mono ?_;rintro e y1 ⟨rfl,hB1⟩;have HB2:=hide (aN HB.out hB1);have HA2:=hide (HAA.out.below hB1);have HR2:=hide (HRR.out.below hB1);obtain⟨a0,⟨a1,a2,a3⟩,a4,a5,a6⟩:=HA2.out;clear hB1 hix;go_wp2;exact⟨⟨3,rfl,by omega,HA2.out.set2 _,HR2.out.other (by omega) _,HB2.out.setCell (p:=⟨w.heap.size+1,2,none⟩) (Nat.le_succ _) _⟩,by simp[intOf]⟩
  | 3,_ =>
    obtain⟨a0,⟨a1,a2,a3⟩,a4,a5,a6⟩:=HAA.out;obtain⟨r0,⟨r1,r2,r3⟩,r4,r5,r6⟩:=HRR.out;clear hB hA hR;go_wp2;refine bodyPost_ret (v:=.agg #[.bool R1,.bool R2,.bool R3]) ?_ rfl ?_
    · have c0:=HRR.out.set0 R1;have c1:=c0.set1 R2;have c2:=c1.set2 R3;obtain⟨q0,⟨q1,q2,q3⟩,-⟩:=c2;simp[results,Tryz.results37,go_sem,q1,q2,q3]
    · exact⟨rfl,((HB.out.setCell (p:=⟨w.heap.size,0,none⟩) (Nat.le_refl _) _).setCell (p:=⟨w.heap.size,1,none⟩) (Nat.le_refl _) _).setCell (p:=⟨w.heap.size,2,none⟩) (Nat.le_refl _) _⟩
theorem O9 (g n:Nat)(rs:List Sx.Rl)(os:List cJ)(w:World)(hr:RdW w g rs os)(hn:n<os.length)(hok:∀ o∈os,dF o)(hrt:Sx.RlsRt rs):Calls Tryz.prog 111 #[.pointer (some ⟨g,0,none⟩),.int .i64 n] w fun e w'=>e=.returned (.tuple #[.string ⟨(fW rs os[n]).toArray⟩,.int .i64 0])∧Below w.heap.size w w':=by
 have HH:=hide (IU g n rs os w hr);have HS:=hide (XP g n rs os w hr hn hok hrt);rw[decide_eq_true (show(0:Int)≤n∧(n:Int)<os.length by omega)] at HH;obtain⟨T,hT⟩:∃ X:ByteArray,⟨(fW rs os[n]).toArray⟩=X:=⟨_,rfl⟩
 rw[hT] at HS ⊢;clear hT hr hok hrt;go_enter Tryz.func111,Tryz.ntmps111;go_wp2_with fail
 refine HH.out.mono ?_;rintro e w1 ⟨rfl,rfl⟩;go_wp2_with fail
 refine HS.out.mono ?_;rintro e w2 ⟨rfl,hB⟩;have HB:=hide hB;clear hB;go_wp2;go_ret2;exact⟨rfl,HB.out⟩
theorem L2 (g:Nat)(n:Int)(rs:List Sx.Rl)(os:List cJ)(w:World)(hr:RdW w g rs os)(hn:¬ (0≤n∧n<os.length)):Calls Tryz.prog 111 #[.pointer (some ⟨g,0,none⟩),.int .i64 n] w fun e w'=>e=.returned (.tuple #[.string ⟨#[]⟩,.int .i64 7])∧w'=w:=by
 have HH:=hide (IU g n rs os w hr);rw[decide_eq_false hn] at HH;clear hr hn;go_enter Tryz.func111,Tryz.ntmps111;go_wp2_with fail
 refine HH.out.mono ?_;rintro e w1 ⟨rfl,rfl⟩;go_wp2;go_ret2;exact⟨rfl,rfl⟩
theorem Q9 (g a b:Nat)(rs:List Sx.Rl)(os:List cJ)(w:World)(hr:RdW w g rs os)(ha:a<os.length)(hb:b<os.length)(hok:∀ o∈os,dF o)(hrt:Sx.RlsRt rs):Calls Tryz.prog 13 #[.pointer (some ⟨g,0,none⟩),.int .i64 a,.int .i64 b] w fun e w'=>e=.returned (.tuple #[.bool (pK a b os[a] os[b]),.bool (tC a b os[a] os[b]),.bool (tH rs a b os[a] os[b]),.int .i64 0])∧Below w.heap.size w w':=by
 have HA:=hide (IU g a rs os w hr);have HH:=hide (IU g b rs os w hr);have HS:=hide (R9 g a b rs os w hr ha hb hok hrt);rw[decide_eq_true (show(0:Int)≤a∧(a:Int)<os.length by omega)] at HA;rw[decide_eq_true (show(0:Int)≤b∧(b:Int)<os.length by omega)] at HH;obtain⟨R1,hR1⟩:∃ R,pK a b os[a] os[b]=R:=⟨_,rfl⟩
 obtain⟨R2,hR2⟩:∃ R,tC a b os[a] os[b]=R:=⟨_,rfl⟩
 obtain⟨R3,hR3⟩:∃ R,tH rs a b os[a] os[b]=R:=⟨_,rfl⟩
 rw[hR1,hR2,hR3] at HS ⊢;clear hR1 hR2 hR3 hr hok hrt;go_enter Tryz.func13,Tryz.ntmps13;go_wp2_with fail
 refine HA.out.mono ?_;rintro e w1 ⟨rfl,rfl⟩;go_wp2_with fail
 refine HH.out.mono ?_;rintro e w1 ⟨rfl,rfl⟩;go_wp2_with fail
 refine HS.out.mono ?_;rintro e w2 ⟨rfl,hB⟩;have HB:=hide hB;have hbz:=hB.size;clear hB;go_wp2_with fail
 go_region
 all_goals (
  go_wp2;exact bodyPost_ret (v:=.tuple #[.bool R1,.bool R2,.bool R3,.int .i64 0]) (by simp[results,Tryz.results13,go_sem]) rfl ⟨rfl,by first | exact HB.out.alloc hbz _ | exact(HB.out.alloc hbz _).drew⟩)
theorem P0 (g:Nat)(a b:Int)(rs:List Sx.Rl)(os:List cJ)(w:World)(hr:RdW w g rs os)(hn:¬ (0≤a∧a<os.length)∨¬ (0≤b∧b<os.length)):Calls Tryz.prog 13 #[.pointer (some ⟨g,0,none⟩),.int .i64 a,.int .i64 b] w fun e w'=>e=.returned (.tuple #[.bool false,.bool false,.bool false,.int .i64 7])∧w'=w:=by
 have HA:=hide (IU g a rs os w hr);have HH:=hide (IU g b rs os w hr);by_cases h1:0≤a∧a<os.length
 · have h2:¬ (0≤b∧b<os.length):=by
    rcases hn with h | h
    · exact absurd h1 h
    · exact h
   rw[decide_eq_true h1] at HA;rw[decide_eq_false h2] at HH;clear hr hn h1 h2;go_enter Tryz.func13,Tryz.ntmps13;go_wp2_with fail
   refine HA.out.mono ?_;rintro e w1 ⟨rfl,rfl⟩;go_wp2_with fail
   refine HH.out.mono ?_;rintro e w1 ⟨rfl,rfl⟩;go_wp2;exact bodyPost_ret (v:=.tuple #[.bool false,.bool false,.bool false,.int .i64 7]) (by simp[results,Tryz.results13,go_sem]) rfl ⟨rfl,rfl⟩
 · rw[decide_eq_false h1] at HA;clear hr hn h1 HH;go_enter Tryz.func13,Tryz.ntmps13;go_wp2_with fail
   refine HA.out.mono ?_;rintro e w1 ⟨rfl,rfl⟩;go_wp2;exact bodyPost_ret (v:=.tuple #[.bool false,.bool false,.bool false,.int .i64 7]) (by simp[results,Tryz.results13,go_sem]) rfl ⟨rfl,rfl⟩
def TxAt (W:World)(g:Nat)(X:List (List UInt8)):Prop:=W.heap[g]? = some (.cells (bB X).toArray 9 (0,0))
theorem TxAt.below {W W':World}{g B:Nat}{X:List (List UInt8)}(h:TxAt W g X)(hb:Below B W W')(hg:g<B):TxAt W' g X:=(hb.block g hg).trans h
theorem TxAt.lt {W:World}{g:Nat}{X:List (List UInt8)}(h:TxAt W g X):g<W.heap.size:=(Array.getElem?_eq_some_iff.1 h).1
theorem TxAt.cell {W:World}{g:Nat}{X:List (List UInt8)}(h:TxAt W g X)(j:Nat)(hj:j<X.length):W.cell? ⟨g,j,none⟩=some (.string ⟨X[j].toArray⟩)∧W.frozen? ⟨g,j,none⟩=false:=by
 unfold TxAt at h;constructor
 · simp only[World.cell?,h,Option.isSome_none,Bool.false_eq_true,if_false];unfold bB;rw[List.getElem?_toArray,List.getElem?_map,List.getElem?_eq_getElem hj];rfl
 · simp[World.frozen?,h]
theorem TxAt.set {W:World}{g:Nat}{X:List (List UInt8)}(h:TxAt W g X)(j:Nat)(x:List UInt8):TxAt (W.setCell ⟨g,j,none⟩ (.string ⟨x.toArray⟩)) g (X.set j x):=by
 unfold TxAt at h ⊢;have e:(bB (X.set j x)).toArray=(bB X).toArray.setIfInBounds j (.string ⟨x.toArray⟩):=by
  unfold bB;rw[List.setIfInBounds_toArray,List.map_set]
 rw[e];simp[World.setCell,Array.getElem?_modify,h]
theorem TxAt.rds {W:World}{g:Nat}{X L:List (List UInt8)}(h:TxAt W g X)(cap:Nat)(hX:∀ j (hj:j<L.length),X[j]? = some L[j]):RdS W (.slice (some ⟨g,0,none⟩) L.length cap) L:=by
 refine⟨_,_,rfl,fun j hj=>⟨g,0,rfl,h.lt,?_⟩⟩;obtain⟨h1,h2⟩:=List.getElem?_eq_some_iff.1 (hX j hj);have:=(h.cell j h1).1;rw[h2] at this;rw[Nat.zero_add];exact this
theorem RdS.below {W W':World}{v:Value}{L:List (List UInt8)}(h:RdS W v L)(hb:Below W.heap.size W W'):RdS W' v L:=by
 obtain⟨p,cap,h1,h2⟩:=h;refine⟨p,cap,h1,fun j hj=>?_⟩;obtain⟨b,off,e1,e2,e3⟩:=h2 j hj;exact⟨b,off,e1,Nat.lt_of_lt_of_le e2 hb.size,(hb.cell (p:=⟨b,off+j,none⟩) e2).trans e3⟩
def L6:List UInt8:=[98,101,121,111,110,100]
def mI (L:List (List UInt8))(k:Nat):List (List UInt8):=L++(List.replicate k L6++List.replicate (8-k) [])
theorem qS (L:List (List UInt8))(k:Nat)(h:k≤8):(mI L k).length=L.length+8:=by simp[mI];omega
theorem YP (L:List (List UInt8))(k:Nat)(h:k<8):(mI L k).set (L.length+k) L6=mI L (k+1):=by
 unfold mI;rw[List.set_append_right _ _ (by omega),Nat.add_sub_cancel_left,List.set_append_right _ _ (by simp),List.length_replicate,Nat.sub_self,List.replicate_succ'];have:8-k=(8-(k+1))+1:=by omega
 rw[this,List.replicate_succ,List.set_cons_zero,List.append_assoc];rfl
theorem DV (L:List (List UInt8))(k j:Nat)(h:j<L.length):(mI L k)[j]? = some L[j]:=by
 unfold mI;rw[List.getElem?_append_left h,List.getElem?_eq_getElem h]
theorem RH (L:List (List UInt8))(j:Nat)(h:L.length≤j)(h2:j<L.length+8):(mI L 8)[j]? = some L6:=by
 unfold mI;rw[List.getElem?_append_right h];have e:List.replicate 8 L6++List.replicate (8-8) []=List.replicate 8 L6:=by simp
 rw[e,List.getElem?_replicate,if_pos (by omega)]
theorem KI (n:Nat):(madeCells #[Value.string ⟨#[]⟩] n).toList=bB (List.replicate n []):=by
 unfold madeCells bB;apply List.ext_getElem
 · simp
 · intro i h1 h2;simp[Nat.mod_one]
theorem QW {w:World}{B g n:Nat}{e:TypeId}{xs:List Value}(h:w.ownsRow B e 1 (.slice (some ⟨g,0,none⟩) n n) n xs):w.heap[g]? = some (.cells xs.toArray e (0,0)):=by
 rcases h.2 with ⟨e0,_⟩ | ⟨g',cap',cur,e0,hb,hg,hn,hm,hs,ht⟩
 · cases e0
 · cases e0;rw[Nat.mul_one] at hs ht;rw[←Array.length_toList] at hs;rw[←hs,List.take_length] at ht;rw[←ht];exact hg
theorem IN (L:List (List UInt8)):splice (bB (List.replicate (L.length+8) [])) 0 (bB L)=bB (mI L 0):=by
 unfold splice mI;rw[List.take_zero,List.nil_append,Nat.zero_add,gB];congr 1;unfold bB;rw[List.length_map,←List.map_drop,List.drop_replicate];simp
theorem AM (L:List (List UInt8))(a0 a1 a2 a3 a4 a5 a7:Value)(la:Option Addr)(lc:Nat)(w:World)(hw:gW w)(hrd:RdS w (.slice la L.length lc) L)(hL:L.length≤1048576)(hsl:Sx.sl L≤1048576) :
 Calls Tryz.prog 67 #[.agg #[a0,a1,a2,a3,a4,a5,.slice la L.length lc,a7]] w fun e w'=>e=.returned (.bool true)∧Below w.heap.size w w':=by
 obtain⟨i0,hi,hz0,hz1,hz2⟩:=info_parts Tryz.info9;have HRD:=hide hrd;have HW:=hide hw;have HSL:=hide hsl;clear hrd hw hsl;have hsz1:(Tryz.prog.info? 9).map (·.size)=some 1:=by rw[hi];simp[hz1]
 have hbytes:i0.bytes*(L.length+8)≤281474976710656:=by rw[hz2];omega
 obtain⟨W0,hW0⟩:∃ W0,w.alloc (.cells #[a0,a1,a2,a3,a4,a5,.slice la L.length lc,a7] 96)=W0:=⟨_,rfl⟩
 have hBW:Below w.heap.size w W0:=by rw[←hW0];exact(Below.refl _ _).alloc (Nat.le_refl _) _
 have hbx:W0.heap[w.heap.size]? = some (.cells #[a0,a1,a2,a3,a4,a5,.slice la L.length lc,a7] 96 (0,0)):=by rw[←hW0];exact heap_alloc_new _ _
 have hW0s:W0.heap.size=w.heap.size+1:=by rw[←hW0,World.size_alloc]
 have hc6:∀ W,Below (w.heap.size+1) W0 W→W.cell? ⟨w.heap.size,6,none⟩=some (.slice la L.length lc):=fun W hb=>by
  have:=(hb.block w.heap.size (Nat.lt_succ_self _)).trans hbx;simp[World.cell?,this]
 have hRD2:∀ W,Below (w.heap.size+1) W0 W→RdS W (.slice la L.length lc) L:=fun W hb=>RdS.below HRD.out (hBW.trans (hb.mono (by omega)));have hLW2:∀ W,Below (w.heap.size+1) W0 W→gW W:=fun W hb=>bA _ _ HW.out (hBW.trans (hb.mono (by omega)));have HC6:=hide hc6;have HRD2:=hide hRD2;have HLW2:=hide hLW2;have HBW:=hide hBW;have HW0S:=hide hW0s;have HW0:=hide hW0;have hsplice:=hide (IN L);have hmade:=hide (KI (L.length+8));have hstl:(bB L).length=L.length:=by unfold bB;simp
 have h1c:∀ u∈bB L,u.oneCell'=true:=by
  intro u hu;unfold bB at hu;obtain⟨x,_,rfl⟩:=List.mem_map.1 hu;rfl
 have HSTL:=hide hstl;have HMIN:Hid ((bB L).length=Nat.min L.length (L.length+8)):=hide (by rw[hstl];simp only[Nat.min_def];split <;> omega);have HFIT:Hid (0+(bB L).length≤(bB (List.replicate (L.length+8) [])).length):=hide (by rw[hstl];unfold bB;simp);have H1C:=hide h1c;clear hc6 hRD2 hLW2 hBW hbx hW0s hW0 hstl h1c;go_enter Tryz.func67,Tryz.ntmps67;go_wp2_with (at_make;go_must (refine wpList_make_full _ rfl _ _ 51 rfl (w.heap.size+1) 9 i0 (.string ⟨#[]⟩) 1 Tryz.underlying51 hi hz0 hz1 .i64 .i64 _ _ (L.length+8) rfl rfl (by omega) (by omega) hbytes (by unfold maxLen;omega) (by rw[World.size_alloc];exact Nat.le_refl _) ?_))
 intro w1 hown1 hgrow1;rw[hmade.out] at hown1;have htx:=QW hown1;rw[HW0.out] at hgrow1;have hB1:Below (w.heap.size+1) W0 w1:=(Below.refl _ _).grown hgrow1 (by rw[HW0S.out];exact Nat.le_refl _) (fun r e=>by cases e);have hc1:=HC6.out w1 hB1;have hr1:=HRD2.out w1 hB1;have hsrc:0<(bB L).length→(some ⟨w.heap.size+1,0,none⟩:Option Addr)=some ⟨w.heap.size+1,0,none⟩∧∃ ad,la=some ad∧∀ j v,(bB L)[j]? = some v→w1.cell? (ad.add j)=some v:=fun h0=>by
  rw[HSTL.out] at h0;obtain⟨p',c',e1,e2⟩:=hr1;obtain⟨b,off,f1,f2,f3⟩:=e2 0 h0;have hla:la=p':=by injection e1
  refine⟨rfl,⟨b,off,none⟩,by rw[hla,f1],fun j v hj=>?_⟩;have hjl:j<L.length:=by
   have:=(List.getElem?_eq_some_iff.1 hj).1;rw[HSTL.out] at this;exact this
  obtain⟨b2,off2,g1,g2,g3⟩:=e2 j hjl;obtain⟨rfl,rfl⟩:b=b2∧off=off2:=by rw[f1] at g1;injection g1 with g1;injection g1 with g1 g3;exact⟨g1,g3⟩
  unfold bB at hj;rw[List.getElem?_map,List.getElem?_eq_getElem hjl] at hj;simp only[Option.map_some,Option.some.injEq] at hj;rw[Addr.add_lit,←hj];exact g3
 have HSRC:=hide hsrc;have HB1:=hide hB1;clear hsrc hr1 hown1 hgrow1 hB1;go_wp2_with (refine wpList_copy_splice rfl _ _ 51 51 rfl 9 Tryz.underlying51 hsz1 _ _ _ _ _ _ rfl rfl (w.heap.size+1) 0 (bB (List.replicate (L.length+8) [])) 9 htx (bB L) HMIN.out HSRC.out HFIT.out H1C.out (w.heap.size+1) W0 HB1.out (Nat.le_refl _) ?_)
 intro w2 htx2 hB2;have htx3:TxAt w2 (w.heap.size+1) (mI L 0):=by
  unfold TxAt;rw[←hsplice.out];exact htx2.out
 have HTX:=hide htx3;have HB2:=hide hB2;clear htx2 htx3 hB2 htx hc1 HSRC HB1;go_wp2
 go_loopw [4] (fun i wr=>∃ k:Nat,i=.int .i64 k∧k≤8∧TxAt wr (w.heap.size+1) (mI L k)∧Below (w.heap.size+1) W0 wr) (fun i _=>(8-intOf i).toNat)
 case atStart=>exact⟨0,rfl,by omega,HTX.out,HB2.out⟩
 case round =>
  clear HTX HB2;obtain⟨k,rfl,hk,htx,hB⟩:=hrel;have hc6:=HC6.out _ hB;by_cases hlt:k<8
  · have hxs:=YP L k hlt;have hcl:=htx.cell (L.length+k) (by rw[qS L k hk];omega);have hst:=htx.set (L.length+k) L6;rw[hxs] at hst;obtain⟨x,hx⟩:∃ x:Value,Value.string ⟨((mI L k)[L.length+k]'(by rw[qS L k hk];omega)).toArray⟩=x:=⟨_,rfl⟩
    rw[hx] at hcl;obtain⟨hcl1,hcl2⟩:=hcl;have HST:=hide hst;have HB:=hide hB;clear hxs hst hx htx hB;go_wp2;exact⟨⟨k+1,by go_num,by omega,HST.out,HB.out.setCell (p:=⟨w.heap.size+1,L.length+k,none⟩) (Nat.le_refl _) _⟩,by simp[intOf];omega⟩
  · have hk8:k=8:=by omega
    subst hk8;clear hlt hk;have HPC:=hide (G9 L (.slice (some ⟨w.heap.size+1,0,none⟩) L.length (L.length+8)) _ (HLW2.out _ hB) (htx.rds _ (fun j hj=>DV L 8 j hj)) (by omega));have htl:=htx.lt;obtain⟨⟨Sb,m,nn⟩,hCR⟩:∃ C,Sx.fS L=C:=⟨_,rfl⟩
    rw[hCR] at HPC;dsimp only at HPC;have HCR:=hide hCR;have hws:w.heap.size+1≤wr.heap.size:=by omega
    have HTX:=hide htx;have HB:=hide hB;clear hCR htx hB;go_wp2_with fail
    refine HPC.out.mono ?_;rintro e w3 ⟨rfl,hB3⟩;have hBb:=HB.out.trans (hB3.mono hws);have htx3:=HTX.out.below hB3 htl;have hc63:=HC6.out _ hBb;have HRC:=hide (K6 L (.slice la L.length lc) w3 (HRD2.out _ hBb) (by omega) (by have:=HSL.out;omega));have hrc:=HRC.out;rw[HCR.out] at hrc;dsimp only at hrc;have HRC2:=hide hrc;have hs3:=hB3.size;have HBB:=hide hBb;have HTX3:=hide htx3;clear hrc HRC hB3 hBb htx3 HPC HB HTX hc6;go_wp2_with fail
    refine HRC2.out.mono ?_;rintro e w4 ⟨rfl,hB4⟩;have hs4:=hB4.size;have hBc:=HBB.out.trans (hB4.mono (by omega));have htx4:=HTX3.out.below hB4 (by omega);have HBC:=hide hBc;have HTX4:=hide htx4;clear hB4 hBc htx4 HRC2 HBB HTX3 hc63;obtain⟨SB,hSB⟩:∃ SB:ByteArray,⟨Sb.toArray⟩=SB:=⟨_,rfl⟩
    rw[hSB];have HSB:=hide hSB;clear hSB;go_wp2_with fail
    go_loopw [11] (fun i wv=>∃ j:Nat,i=.int .i64 j∧j≤L.length+8∧Below w4.heap.size w4 wv) (fun i _=>(L.length+8-intOf i).toNat)
    case atStart=>exact⟨0,rfl,by omega,Below.refl _ _⟩
    case round =>
     obtain⟨j,rfl,hj,hB⟩:=hrel
     rename World=>wv
     have hBd:=HBC.out.trans (hB.mono (by omega));have hc6:=HC6.out _ hBd;have htx:=HTX4.out.below hB (by omega);have hs5:=hB.size;by_cases hlt:j<L.length+8
     · have hgj:=htx.cell j (by rw[qS L 8 (Nat.le_refl _)];exact hlt);have hj8:j<(mI L 8).length:=by rw[qS L 8 (Nat.le_refl _)];exact hlt
       by_cases hjl:j<L.length
       · obtain⟨p',c',e1,e2⟩:=HRD2.out _ hBd;obtain⟨b,off,f1,f2,f3⟩:=e2 j hjl;obtain⟨rfl,rfl⟩:la=p'∧lc=c':=by injection e1 with e1 _ e3;exact⟨e1,e3⟩
         subst f1;have hx:(mI L 8)[j]=L[j]:=by
          have:=DV L 8 j hjl;rw[List.getElem?_eq_getElem hj8] at this;exact Option.some.inj this
         rw[hx] at hgj;obtain⟨X,hX⟩:∃ X:ByteArray,⟨L[j].toArray⟩=X:=⟨_,rfl⟩
         rw[hX] at hgj f3;have hxx:(X.toList != X.toList)=false:=by simp
         obtain⟨hg1,hg2⟩:=hgj;have HB:=hide hB;clear hx hX e1 e2 htx hBd hB;go_wp2;exact⟨⟨j+1,by go_num,by omega,HB.out⟩,by simp[intOf];omega⟩
       · have hx:(mI L 8)[j]=L6:=by
          have:=RH L j (by omega) hlt;rw[List.getElem?_eq_getElem hj8] at this;exact Option.some.inj this
         rw[hx] at hgj;have hg3:wv.cell? ⟨w.heap.size+1,j,none⟩=some (.string ⟨#[98,101,121,111,110,100]⟩):=hgj.1;have HB:=hide hB;clear hx htx hBd hB hgj;go_wp2;exact⟨⟨j+1,by go_num,by omega,HB.out⟩,by simp[intOf];omega⟩
     · have hje:j=L.length+8:=by omega
       subst hje;clear hlt hj;by_cases hL0:L=[]
       · subst hL0;have HPC:=hide (G9 [] (.slice none 0 0) wv (HLW2.out _ hBd) ⟨none,0,rfl,fun j hj=>absurd hj (Nat.not_lt_zero _)⟩ (by simp));have hpc:=HPC.out;rw[HCR.out] at hpc;dsimp only at hpc;rw[HSB.out] at hpc;have HPC2:=hide hpc;have HBd:=hide hBd;clear hpc HPC hBd htx;simp only[List.length_nil] at hc6 ⊢;go_wp2_with fail
         refine HPC2.out.mono ?_;rintro e w6 ⟨rfl,hB6⟩;have hBe:=hB.trans (hB6.mono hs5);have hss:(SB.toList != SB.toList)=false:=by simp
         have hse:(SB.toList == SB.toList)=true:=by simp
         have hm1:(m != m)=false:=by simp
         have hm2:(m == m)=true:=by simp
         have hn1:(nn != nn)=false:=by simp
         have hn2:(nn == nn)=true:=by simp
         clear hB6 HPC2 HBd hB hc6;go_wp2_with (go_at_call 102;go_must (refine(eY _ _).mono ?_;rintro e w' ⟨rfl,rfl⟩))
         go_ret;exact⟨rfl,(HBW.out.trans (HBC.out.mono (by omega))).trans (hBe.mono (by omega))⟩
       · have hne:¬ L.length=0:=fun h=>hL0 (List.eq_nil_of_length_eq_zero h);have hnb:((L.length:Int) == 0)=false:=by simp;omega
         have hnb2:¬ (L.length:Int)=0:=by omega
         have hse:(SB.toList == SB.toList)=true:=by simp
         have hm2:(m == m)=true:=by simp
         have hn2:(nn == nn)=true:=by simp
         clear hBd htx hL0;go_wp2_with (go_at_call 102;go_must (refine(eY _ _).mono ?_;rintro e w' ⟨rfl,rfl⟩))
         go_ret;exact⟨rfl,(HBW.out.trans (HBC.out.mono (by omega))).trans (hB.mono (by omega))⟩
def OpLs (w:World)(o:OpC):Prop:=∃ L:List (List UInt8),L.length=o.ln∧L.length≤1048576∧Sx.sl L≤1048576∧RdS w (.slice o.la o.ln o.lc) L
theorem OZ (wp:Value)(o:OpC)(hk:o.k=3)(w:World)(hw:gW w)(hl:OpLs w o) :
 Calls Tryz.prog 44 #[wp,.agg o.cells.toArray] w fun e w'=>e=.returned (.bool true)∧Below w.heap.size w w':=by
 obtain⟨k,n1,n2,n3,s,t,la,ln,lc,md⟩:=o;obtain⟨L,h1,h2,h3,h4⟩:=hl;dsimp only at h1 h4 hk;subst h1;subst hk;have hcs:(OpC.cells ⟨3,n1,n2,n3,s,t,la,L.length,lc,md⟩).toArray=#[.int .i64 3,.int .i64 n1,.int .i64 n2,.int .i64 n3,.string s,.string t,.slice la L.length lc,.bool md]:=rfl;rw[hcs];have hB0:Below w.heap.size w (w.alloc (.cells #[.int .i64 3,.int .i64 n1,.int .i64 n2,.int .i64 n3,.string s,.string t,.slice la L.length lc,.bool md] 96)):=(Below.refl _ _).alloc (Nat.le_refl _) _;have HC:=hide (AM L (.int .i64 3) (.int .i64 n1) (.int .i64 n2) (.int .i64 n3) (.string s) (.string t) (.bool md) la lc _ (bA _ _ hw hB0) (RdS.below h4 hB0) h2 h3);clear hcs hw h4;go_enter Tryz.func44,Tryz.ntmps44;go_wp2_with fail
 refine HC.out.mono ?_;rintro e w1 ⟨rfl,hB1⟩;have hBB:=hB0.trans (hB1.mono (by simp));clear HC hB0 hB1;go_wp2;go_ret;exact⟨rfl,hBB⟩
theorem OpLs.below {w w':World}{o:OpC}(h:OpLs w o)(hb:Below w.heap.size w w'):OpLs w' o:=by
 obtain⟨L,h1,h2,h3,h4⟩:=h;exact⟨L,h1,h2,h3,RdS.below h4 hb⟩
theorem AZ (i:ByteArray):(⟨i.data.toList.toArray⟩:ByteArray)=i:=by simp
theorem IT (w W0:World)(a0 a1 a2 a3 a4 a5 a6 a7:Value)(hW:w.alloc (.cells #[a0,a1,a2,a3,a4,a5,a6,a7] 96)=W0):W0.heap.size=w.heap.size+1∧Below w.heap.size w W0∧∀ W,Below W0.heap.size W0 W→Below w.heap.size w W∧W.cell? ⟨w.heap.size,0,none⟩=some a0∧W.cell? ⟨w.heap.size,1,none⟩=some a1∧W.cell? ⟨w.heap.size,2,none⟩=some a2∧W.cell? ⟨w.heap.size,3,none⟩=some a3∧W.cell? ⟨w.heap.size,4,none⟩=some a4∧W.cell? ⟨w.heap.size,5,none⟩=some a5∧W.cell? ⟨w.heap.size,6,none⟩=some a6∧W.cell? ⟨w.heap.size,7,none⟩=some a7:=by
 have hs:W0.heap.size=w.heap.size+1:=by rw[←hW,World.size_alloc]
 have hB:Below w.heap.size w W0:=by rw[←hW];exact(Below.refl _ _).alloc (Nat.le_refl _) _
 have hb:W0.heap[w.heap.size]? = some (.cells #[a0,a1,a2,a3,a4,a5,a6,a7] 96 (0,0)):=by rw[←hW];exact heap_alloc_new _ _
 refine⟨hs,hB,fun W h=>?_⟩;have h1:=(h.block w.heap.size (by omega)).trans hb;refine⟨hB.trans (h.mono (by omega)),?_⟩;simp[World.cell?,h1]
theorem zR (L:List (List UInt8))(a0 a1 a2 a3 a5:Value)(s:ByteArray)(md:Bool)(la:Option Addr)(lc:Nat)(w:World)(hrd:RdS w (.slice la L.length lc) L)(hL:L.length≤1048576)(hsl:Sx.sl L≤1048576):Calls Tryz.prog 70 #[.agg #[a0,a1,a2,a3,.string s,a5,.slice la L.length lc,.bool md]] w fun e w'=>∃ I:ByteArray,e=.returned (.string I)∧Below w.heap.size w w':=by
 obtain⟨W0,hW0⟩:∃ W0,w.alloc (.cells #[a0,a1,a2,a3,.string s,a5,.slice la L.length lc,.bool md] 96)=W0:=⟨_,rfl⟩
 obtain⟨-,hB0,hbx⟩:=IT w W0 _ _ _ _ _ _ _ _ hW0;obtain⟨-,c0,c1,c2,c3,c4,c5,c6,c7⟩:=hbx W0 (Below.refl _ _);have HCO:=hide (K6 L _ W0 (RdS.below hrd hB0) (by omega) (by omega));have HB0:=hide hB0;have HW0:=hide hW0;clear hrd hbx hB0 hW0;obtain⟨X,hX⟩:∃ X:ByteArray,⟨(Sx.fS L).1.toArray⟩=X:=⟨_,rfl⟩
 obtain⟨x1,hx1⟩:∃ x,(Sx.fS L).2.1=x:=⟨_,rfl⟩
 obtain⟨x2,hx2⟩:∃ x,(Sx.fS L).2.2=x:=⟨_,rfl⟩
 rw[hX,hx1,hx2] at HCO;clear hX hx1 hx2;cases md with
 | true =>
   go_enter Tryz.func70,Tryz.ntmps70;go_upto_region 1 with fail
   rw[HW0.out];go_wp2_with fail
   refine HCO.out.mono ?_;rintro e w1 ⟨rfl,hB1⟩;have HB1:=hide (HB0.out.trans (hB1.mono HB0.out.size));clear hB1;go_wp2;go_ret;exact⟨_,rfl,HB1.out⟩
 | false =>
   go_enter Tryz.func70,Tryz.ntmps70;go_upto_region 1 with fail
   rw[HW0.out];go_wp2;go_ret;exact⟨_,rfl,HB0.out⟩
theorem KP (L:List (List UInt8))(k:Int)(hk:k=4∨k=5)(a1 a2 a3:Value)(s t:ByteArray)(md:Bool)(la:Option Addr)(lc:Nat)(w:World)(hw:gW w)(hrd:RdS w (.slice la L.length lc) L)(hL:L.length≤1048576)(hsl:Sx.sl L≤1048576):Calls Tryz.prog 68 #[.agg #[.int .i64 k,a1,a2,a3,.string s,.string t,.slice la L.length lc,.bool md]] w fun e w'=>e=.returned (.bool true)∧Below w.heap.size w w':=by
 obtain⟨W0,hW0⟩:∃ W0,w.alloc (.cells #[.int .i64 k,a1,a2,a3,.string s,.string t,.slice la L.length lc,.bool md] 96)=W0:=⟨_,rfl⟩
 obtain⟨-,hB0,hbx⟩:=IT w W0 _ _ _ _ _ _ _ _ hW0;obtain⟨-,c0,c1,c2,c3,c4,c5,c6,c7⟩:=hbx W0 (Below.refl _ _);have HIM:=hide (zR L (.int .i64 k) a1 a2 a3 (.string t) s md la lc W0 (RdS.below hrd hB0) hL hsl);have HBX:=hide hbx;have HLW:Hid (∀ W,Below w.heap.size w W→gW W):=hide (fun W h=>bA _ _ hw h);have HW0:=hide hW0;clear hrd hbx hB0 hW0 hw;rcases hk with rfl | rfl
 · go_enter Tryz.func68,Tryz.ntmps68;go_upto_region 1 with fail
   rw[HW0.out];go_wp2_with fail
   refine HIM.out.mono ?_;rintro e w1 ⟨I,rfl,hB1⟩;obtain⟨hb1,d0,d1,d2,d3,d4,d5,d6,d7⟩:=HBX.out _ hB1;have HP:=hide (fun W h=>S5 I W h);have HR:=hide (fun W=>P7 I.data.toList W);rw[AZ] at HR;obtain⟨X,hX⟩:∃ X:ByteArray,⟨(I3 I.data.toList).1.toArray⟩=X:=⟨_,rfl⟩
   obtain⟨n,hn⟩:∃ x,(I3 I.data.toList).2=x:=⟨_,rfl⟩
   rw[hX,hn] at HP HR;have xx:(X.toList == X.toList)=true:=by simp
   have nn:(n == n)=true:=by simp
   have HB1:=hide hb1;clear hX hn c0 c1 c2 c3 c4 c5 c6 c7 hB1 hb1;go_wp2_with fail
   refine(HP.out _ (HLW.out _ HB1.out)).mono ?_;rintro e w2 ⟨rfl,hB2⟩;have HB2:=hide (HB1.out.trans (hB2.mono HB1.out.size));clear hB2 d0 d1 d2 d3 d4 d5 d6 d7;go_wp2_with fail
   refine(HR.out _).mono ?_;rintro e w3 ⟨rfl,hB3⟩;have HB3:=hide (HB2.out.trans (hB3.mono HB2.out.size));clear hB3;go_wp2_with (go_at_call 102;go_must (refine(eY _ _).mono ?_;rintro e w' ⟨rfl,rfl⟩))
   go_ret;exact⟨rfl,HB3.out⟩
 · go_enter Tryz.func68,Tryz.ntmps68;go_upto_region 1 with fail
   rw[HW0.out];go_wp2_with fail
   refine HIM.out.mono ?_;rintro e w1 ⟨I,rfl,hB1⟩;obtain⟨hb1,d0,d1,d2,d3,d4,d5,d6,d7⟩:=HBX.out _ hB1;have HC5:Hid (∀ W,Below w1.heap.size w1 W→W.cell? ⟨w.heap.size,5,none⟩=some (.string t)):=hide (fun W h=>(h.cell (p:=⟨w.heap.size,5,none⟩) (World.block_lt_of_cell? w1 ⟨w.heap.size,5,none⟩ d5)).trans d5);have HP:=hide (fun W h=>U5 I t W h);have HR:=hide (fun W=>U2 I.data.toList t W);rw[AZ] at HR;obtain⟨⟨q1,q2,q3,n⟩,hq⟩:∃ x,GH I.data.toList t.data.toList=x:=⟨_,rfl⟩
   rw[hq] at HP HR;dsimp only at HP HR;obtain⟨X,hX⟩:∃ X:ByteArray,⟨q1.toArray⟩=X:=⟨_,rfl⟩
   obtain⟨Y,hY⟩:∃ X:ByteArray,⟨q2.toArray⟩=X:=⟨_,rfl⟩
   obtain⟨Z,hZ⟩:∃ X:ByteArray,⟨q3.toArray⟩=X:=⟨_,rfl⟩
   rw[hX,hY,hZ] at HP HR;have xx:(X.toList == X.toList)=true:=by simp
   have yy:(Y.toList == Y.toList)=true:=by simp
   have zz:(Z.toList == Z.toList)=true:=by simp
   have nn:(n == n)=true:=by simp
   have HB1:=hide hb1;clear hX hY hZ hq c0 c1 c2 c3 c4 c5 c6 c7 hB1 hb1;go_wp2_with fail
   refine(HP.out _ (HLW.out _ HB1.out)).mono ?_;rintro e w2 ⟨rfl,hB2⟩;have e5:=HC5.out _ hB2;have HB2:=hide (HB1.out.trans (hB2.mono HB1.out.size));clear hB2 d0 d1 d2 d3 d4 d5 d6 d7;go_wp2_with fail
   refine(HR.out _).mono ?_;rintro e w3 ⟨rfl,hB3⟩;have HB3:=hide (HB2.out.trans (hB3.mono HB2.out.size));clear hB3;go_wp2_with (go_at_call 102;go_must (refine(eY _ _).mono ?_;rintro e w' ⟨rfl,rfl⟩))
   go_ret;exact⟨rfl,HB3.out⟩
theorem WF (wp:Value)(o:OpC)(hk:o.k=4∨o.k=5)(w:World)(hw:gW w)(hl:OpLs w o) :
 Calls Tryz.prog 44 #[wp,.agg o.cells.toArray] w fun e w'=>e=.returned (.bool true)∧Below w.heap.size w w':=by
 obtain⟨k,n1,n2,n3,s,t,la,ln,lc,md⟩:=o;obtain⟨L,h1,h2,h3,h4⟩:=hl;dsimp only at h1 h4 hk;subst h1;have hcs:(OpC.cells ⟨k,n1,n2,n3,s,t,la,L.length,lc,md⟩).toArray=#[.int .i64 k,.int .i64 n1,.int .i64 n2,.int .i64 n3,.string s,.string t,.slice la L.length lc,.bool md]:=rfl;rw[hcs];have hB0:Below w.heap.size w (w.alloc (.cells #[.int .i64 k,.int .i64 n1,.int .i64 n2,.int .i64 n3,.string s,.string t,.slice la L.length lc,.bool md] 96)):=(Below.refl _ _).alloc (Nat.le_refl _) _;have HC:=hide (KP L k hk (.int .i64 n1) (.int .i64 n2) (.int .i64 n3) s t md la lc _ (bA _ _ hw hB0) (RdS.below h4 hB0) h2 h3);clear hcs hw h4;rcases hk with rfl | rfl
 all_goals (
  go_enter Tryz.func44,Tryz.ntmps44;go_wp2_with fail
  refine HC.out.mono ?_;rintro e w1 ⟨rfl,hB1⟩;have hBB:=hB0.trans (hB1.mono (by simp));clear HC hB0 hB1;go_wp2;go_ret;exact⟨rfl,hBB⟩)
theorem m6 (l:List UInt8)(w:World)(hw:gW w):Calls Tryz.prog 38 #[.string ⟨l.toArray⟩] w fun e w'=>Below w.heap.size w w'∧∃ v,e=.returned (.tuple #[v,.int .i64 (eW l).2])∧w'.ownsRow w.heap.size 82 4 v (eW l).1.length (tR (eW l).1):=by
 have HRD:=hide (VP l w);obtain⟨D,hD⟩:∃ D:ByteArray,⟨l.toArray⟩=D:=⟨_,rfl⟩
 have hDl:D.data.toList=l:=by rw[←hD]
 have hDs:D.size=l.length:=by rw[←aC,hDl]
 rw[hD] at HRD ⊢;by_cases hlong:8000<l.length
 · have ho:eW l=([],1):=by unfold eW;rw[if_pos hlong]
   have HO:=hide ho;have hs:8000<D.size:=by omega
   clear HRD hD hDl hDs hlong ho hw;go_enter Tryz.func38,Tryz.ntmps38;go_wp2;go_ret2;rw[HO.out];exact⟨Below.refl _ _,_,rfl,World.ownsRow_nil _ _ _ _⟩
 · have hs:D.size≤8000:=by omega
   have HDL:=hide hDl;cases hr:Sx.cH l with
   | none =>
     have ho:eW l=([],6):=by unfold eW;rw[if_neg hlong,hr]
     have HO:=hide ho;have HRD2:=HRD.out;rw[hr,Option.isSome_none] at HRD2;have HR:=hide HRD2;clear HRD HRD2 hD hDl hDs hlong ho hw hr;go_enter Tryz.func38,Tryz.ntmps38;go_wp2_with fail
     refine HR.out.mono ?_;rintro e w1 ⟨hB1,sv,rfl,⟨sp,sn,sc,rfl⟩,-⟩;have HB1:=hide (fun o=>qZ hB1 o);clear hB1 HR;go_wp2;go_ret2;rw[HO.out];exact⟨HB1.out _,_,rfl,World.ownsRow_nil _ _ _ _⟩
   | some tab =>
     have hord:=nO hr;obtain⟨hlen,hedg⟩:=yH hr (by omega);have hrt:=KE hord;have ho:eW l=if Sx.eH (Sx.aW (AB tab []))=l then (AB tab [],0) else ([],6):=by unfold eW;rw[if_neg hlong,hr]
     have HRD2:=HRD.out;rw[hr,Option.isSome_some] at HRD2;have HR:=hide HRD2;have HKEYS:=hide (fun b hb sv W hB hn hT hr=>J3 w hw b hb sv tab hord hedg hlen [] W hB hn hT hr (by simp));obtain⟨rs,hrs⟩:∃ rs,AB tab []=rs:=⟨_,rfl⟩
     rw[hrs] at hrt ho HKEYS;have HIMG:=hide (fun v W hv=>JX rs v W hv hrt.rls);obtain⟨I,hI⟩:∃ I:ByteArray,⟨(Sx.eH (Sx.aW rs)).toArray⟩=I:=⟨_,rfl⟩
     rw[hI] at HIMG;have hIl:I.data.toList=Sx.eH (Sx.aW rs):=by rw[←hI]
     rw[←hIl,←hDl] at ho;have HO:=hide ho;have HT:Hid (∀ tab',some tab=some tab'→tab'=tab):=hide (fun t e=>(Option.some.inj e).symm);clear HRD HRD2 hD hDl hDs hlong ho hr hord hlen hedg hrs hI hIl hrt;go_enter Tryz.func38,Tryz.ntmps38;go_wp2_with fail
     refine HR.out.mono ?_;rintro e w1 ⟨hB1,sv,rfl,-,hsv⟩;obtain⟨vs,hta⟩:=hsv tab rfl;have HTA:=hide hta;have HB1:=hide hB1;obtain⟨ap,ac,rfl⟩:=aB hta.row;clear hsv hta hB1 HR;go_wp2_with fail
     have hA0:Below w1.heap.size w1 ((w1.alloc (.cells #[.slice ap tab.length ac] 111)).alloc (.cells #[.slice none 0 0] 54)):=((Below.refl _ _).alloc (Nat.le_refl _) _).alloc (by simp) _;have hz1:=HB1.out.size;have hrs0:RsAt ((w1.alloc (.cells #[.slice ap tab.length ac] 111)).alloc (.cells #[.slice none 0 0] 54)) (w1.heap.size+1) []:=by
      refine⟨.slice none 0 0,?_,World.ownsRow_nil _ _ _ _⟩;have:=heap_alloc_new (w1.alloc (.cells #[.slice ap tab.length ac] 111)) (.cells #[.slice none 0 0] 54);rw[World.size_alloc] at this;exact this
     refine(HKEYS.out (w1.heap.size+1) (by omega) _ _ (HB1.out.trans (hA0.mono hz1)) (fun h=>⟨ap,ac,by rw[h];rfl⟩) (fun h0=>?_) hrs0).mono ?_
     · exact TabR.below' (NS HTA.out (Nat.le_refl _) h0) hA0 (Nat.le_refl _) (by omega)
     rintro e w2 ⟨⟨u,rfl⟩,hB2,rv,hbx,hrow⟩;have hB2':Below w.heap.size w w2:=(HB1.out.trans (hA0.mono hz1)).trans (hB2.mono (by omega));have hcell:w2.cell? ⟨w1.heap.size+1,0,none⟩=some rv:=by rw[Lib.cell_of_heap hbx];rfl
     have HPR:=hide (lA hrow);have HOW:=hide (own_base hrow (show w.heap.size≤w1.heap.size+1+1 by omega));have HB2:=hide hB2';obtain⟨rp,rc,rfl⟩:=aB hrow;clear hbx hrow hB2 hB2' hA0 hrs0 HTA HKEYS;go_wp2_with fail
     refine(HIMG.out _ _ HPR.out).mono ?_;rintro e w3 ⟨rfl,hB3⟩;have HPR3:=hide (aD HOW.out hB3);have HB3:Hid (Below w.heap.size w w3):=hide (HB2.out.trans (hB3.mono HB2.out.size));have hcell3:w3.cell? ⟨w1.heap.size+1,0,none⟩=some (.slice rp rs.length rc):=(hB3.cell (p:=⟨w1.heap.size+1,0,none⟩) (EK hcell)).trans hcell;clear hB3 hcell HPR HOW HB2 HIMG;cases hcmp:(I.toList == D.toList) with
     | true =>
       have hq:I.data.toList=D.data.toList:=by
        rw[ByteArray.toList_eq,ByteArray.toList_eq] at hcmp
        simpa using hcmp
       have HQ:=hide hq;clear hq;go_wp2;go_ret2;rw[←HDL.out,HO.out,if_pos HQ.out];exact⟨HB3.out,_,rfl,HPR3.out⟩
     | false =>
       have hq:¬ I.data.toList=D.data.toList:=by
        rw[ByteArray.toList_eq,ByteArray.toList_eq] at hcmp
        simpa using hcmp
       have HQ:=hide hq;clear hq;go_wp2;go_ret2;rw[←HDL.out,HO.out,if_neg HQ.out];exact⟨HB3.out,_,rfl,World.ownsRow_nil _ _ _ _⟩
theorem V7 (l:List UInt8)(w:World)(hw:gW w):Calls Tryz.prog 21 #[.string ⟨l.toArray⟩] w fun e w'=>Below w.heap.size w w'∧(((eW l).2≠0∧e=.returned (.tuple #[.pointer none,.int .i64 (eW l).2]))∨((eW l).2=0∧∃ g,e=.returned (.tuple #[.pointer (some ⟨g,0,none⟩),.int .i64 0])∧w.heap.size≤g∧PwAt w' g (.slice none 0 0) (eW l).1 [])):=by
 have HRI:=hide (m6 l w hw);obtain⟨D,hD⟩:∃ D:ByteArray,⟨l.toArray⟩=D:=⟨_,rfl⟩
 rw[hD] at HRI ⊢;obtain⟨⟨rs,e⟩,ho⟩:∃ q,eW l=q:=⟨_,rfl⟩
 rw[ho] at HRI ⊢;dsimp only at HRI ⊢;clear ho hD;by_cases he:e=0
 · subst he;go_enter Tryz.func21,Tryz.ntmps21;go_wp2_with fail
   refine HRI.out.mono ?_;rintro e w1 ⟨hB,v,rfl,hv⟩;have HB:=hide hB;have HV:=hide hv;obtain⟨p,cap,rfl⟩:=aB hv;have hbz:=hB.size;clear hB hv;go_wp2;go_ret2;exact⟨HB.out.alloc hbz _,.inr ⟨by trivial,_,rfl,hbz,_,heap_alloc_new _ _,own_base (aD HV.out ((Below.refl _ w1).alloc (Nat.le_refl _) _)) (Nat.zero_le _),World.ownsRow_nil _ _ _ _⟩⟩
 · have k1:(e != 0)=true:=by simpa using he
   have k2:(e == 0)=false:=by simpa using he
   go_enter Tryz.func21,Tryz.ntmps21;go_wp2_with fail
   refine HRI.out.mono ?_;rintro e' w1 ⟨hB,v,rfl,hv⟩;have HB:=hide hB;obtain⟨p,cap,rfl⟩:=aB hv;clear hB hv;go_wp2;go_ret2;exact⟨HB.out,.inl ⟨he,rfl⟩⟩
theorem P6 (g:Nat)(o:cJ)(ov:Value)(rs:List Sx.Rl)(os:List cJ)(w:World)(hW:PwAt w g ov rs os)(hl:os.length<20):Calls Tryz.prog 34 #[.pointer (some ⟨g,0,none⟩),rH o] w fun e w'=>e=.returned (.tuple #[.int .i64 os.length,.int .i64 0])∧PPost w g ov rs (os++[o]) w':=by
 obtain⟨rv,h4,h2,h5⟩:=hW;obtain⟨i0,hi,hz0,hz1,hz2⟩:=info_parts Tryz.info75;have hg:g<w.heap.size:=by
  by_cases hlt:g<w.heap.size
  · exact hlt
  · rw[Array.getElem?_eq_none (by omega)] at h4;cases h4
 obtain⟨p,cap,rfl⟩:=aB h5;have c0:w.cell? ⟨g,0,none⟩=some rv:=by simp[World.cell?,h4]
 have c1:w.cell? ⟨g,1,none⟩=some (.slice p os.length cap):=by simp[World.cell?,h4]
 have f1:w.frozen? ⟨g,1,none⟩=false:=by simp[World.frozen?,h4]
 have k1:((os.length:Int) == 20)=false:=by simp;omega
 have happ:fE (os++[o])=fE os++PY o:=by rw[SR];simp[fE]
 have HAP:=hide happ;have HW5:=hide h5;have HP:=hide h2;have HTY:=hide (wU h4 h5);have H4:=hide h4;unfold PY at HAP;unfold rH;obtain⟨S,hS⟩:∃ X:ByteArray,⟨(bC o).toArray⟩=X:=⟨_,rfl⟩
 obtain⟨H,hH⟩:∃ X:ByteArray,⟨(dZ o).toArray⟩=X:=⟨_,rfl⟩
 obtain⟨D,hD⟩:∃ X:ByteArray,⟨o.2.toArray⟩=X:=⟨_,rfl⟩
 obtain⟨P,hP⟩:∃ n,bT o=n:=⟨_,rfl⟩
 rw[hS,hH,hD,hP] at HAP ⊢;clear happ h5 h2 h4 hS hH hD hP;go_enter Tryz.func34,Tryz.ntmps34;go_wp2_with fail
 have hA4:=AW w S H D P;have hfA:(w.alloc (.cells #[.string S,.string H,.int .i64 P,.string D] 75)).cell? ⟨g,1,none⟩=some (.slice p os.length cap):=by rw[((Below.refl _ w).alloc (Nat.le_refl _) _).cell (p:=⟨g,1,none⟩) hg];exact c1
 have hfF:(w.alloc (.cells #[.string S,.string H,.int .i64 P,.string D] 75)).frozen? ⟨g,1,none⟩=false:=by rw[((Below.refl _ w).alloc (Nat.le_refl _) _).frozen (p:=⟨g,1,none⟩) hg];exact f1
 have hownA:=HW5.out.alloc (.cells #[.string S,.string H,.int .i64 P,.string D] 75);have hBA:Below w.heap.size w (w.alloc (.cells #[.string S,.string H,.int .i64 P,.string D] 75)):=(Below.refl _ w).alloc (Nat.le_refl _) _;have hzA:w.heap.size<(w.alloc (.cells #[.string S,.string H,.int .i64 P,.string D] 75)).heap.size:=by rw[World.size_alloc];omega
 obtain⟨VA,hVA⟩:∃ V,w.alloc (.cells #[.string S,.string H,.int .i64 P,.string D] 75)=V:=⟨_,rfl⟩
 rw[hVA] at hA4 hfA hfF hownA hBA hzA ⊢;unfold C4 at hA4;have hnb:some g≠(Value.slice p os.length cap).ownBlock:=fun e=>by have:=(HW5.out.lt _ e.symm).1;omega
 have hnw:some w.heap.size≠(Value.slice p os.length cap).ownBlock:=fun e=>by have:=(HW5.out.lt _ e.symm).2;omega
 have hS0:=And.intro hA4 (And.intro hfA hfF);have HOWN:=hide hownA;have HBA:=hide hBA;have HSG:Hid (∀ W6,(VA.alloc (.cells #[.string S,.string H,.int .i64 P,.string D] 75)).drew.grownBy W6 (Value.slice p os.length cap).ownBlock→((W6.cell? ⟨w.heap.size,0,none⟩=some (.string S)∧W6.cell? ⟨w.heap.size,1,none⟩=some (.string H)∧W6.cell? ⟨w.heap.size,2,none⟩=some (.int .i64 P)∧W6.cell? ⟨w.heap.size,3,none⟩=some (.string D))∧W6.cell? ⟨g,1,none⟩=some (.slice p os.length cap)∧W6.frozen? ⟨g,1,none⟩=false)∧W6.heap[g]? = some (.cells #[rv,.slice p os.length cap] 87)∧Ex (PE g (Value.slice p os.length cap)) w W6):=hide (fun W6 hgr=>by
  have hB2:Below VA.heap.size VA (VA.alloc (.cells #[.string S,.string H,.int .i64 P,.string D] 75)).drew:=((Below.refl _ VA).alloc (Nat.le_refl _) _).drew;have hz2:VA.heap.size<(VA.alloc (.cells #[.string S,.string H,.int .i64 P,.string D] 75)).drew.heap.size:=by show VA.heap.size<(VA.alloc _).heap.size;rw[World.size_alloc];omega
  obtain⟨⟨q1,q2,q3,q4⟩,q5,q6⟩:=hS0;have far:∀ (b k:Nat) (v:Value),b<VA.heap.size→some b≠(Value.slice p os.length cap).ownBlock→VA.cell? ⟨b,k,none⟩=some v→W6.cell? ⟨b,k,none⟩=some v:=fun b k v h1 h2 h3=>(hgr.cell_far ⟨b,k,none⟩ (by show b<_;omega) h2).trans ((hB2.cell (p:=⟨b,k,none⟩) h1).trans h3);have hgA:g<VA.heap.size:=by omega
  refine⟨⟨⟨far _ _ _ hzA hnw q1,far _ _ _ hzA hnw q2,far _ _ _ hzA hnw q3,far _ _ _ hzA hnw q4⟩,far _ _ _ hgA hnb q5,(hgr.frozen_far ⟨g,1,none⟩ (by show g<_;omega) hnb).trans ((hB2.frozen (p:=⟨g,1,none⟩) hgA).trans q6)⟩,?_,?_⟩
  · rw[hgr.block g (by omega) hnb,hB2.block g hgA,HBA.out.block g hg];exact H4.out
  · exact⟨((HBA.out.mono (Nat.zero_le _)).trans (hB2.mono (Nat.zero_le _))).grown hgr (Nat.zero_le _) (fun _ _=>Nat.zero_le _),fun k hk hn=>by rw[hgr.block k (by omega) (fun e=>hn (.inr e.symm)),hB2.block k (by omega),HBA.out.block k hk]⟩)
 have hown2:(VA.alloc (.cells #[.string S,.string H,.int .i64 P,.string D] 75)).drew.ownsRow (g+1) 75 4 (.slice p os.length cap) os.length (fE os):=HOWN.out.alloc (.cells #[.string S,.string H,.int .i64 P,.string D] 75);have hc2:∀ (j:Nat) (q:Value),[.string S,.string H,.int .i64 P,.string D][j]? = some q→(VA.alloc (.cells #[.string S,.string H,.int .i64 P,.string D] 75)).drew.cell? ((⟨VA.heap.size,0,none⟩:Addr).add j)=some q:=JB VA _ _ _ _ _;have hz9:g+1≤(VA.alloc (.cells #[.string S,.string H,.int .i64 P,.string D] 75)).drew.heap.size:=by show g+1≤(VA.alloc _).heap.size;rw[World.size_alloc];omega
 have hS1:((VA.alloc (.cells #[.string S,.string H,.int .i64 P,.string D] 75)).drew.cell? ⟨w.heap.size,0,none⟩=some (.string S)∧(VA.alloc (.cells #[.string S,.string H,.int .i64 P,.string D] 75)).drew.cell? ⟨w.heap.size,1,none⟩=some (.string H)∧(VA.alloc (.cells #[.string S,.string H,.int .i64 P,.string D] 75)).drew.cell? ⟨w.heap.size,2,none⟩=some (.int .i64 P)∧(VA.alloc (.cells #[.string S,.string H,.int .i64 P,.string D] 75)).drew.cell? ⟨w.heap.size,3,none⟩=some (.string D))∧(VA.alloc (.cells #[.string S,.string H,.int .i64 P,.string D] 75)).drew.cell? ⟨g,1,none⟩=some (.slice p os.length cap)∧(VA.alloc (.cells #[.string S,.string H,.int .i64 P,.string D] 75)).drew.frozen? ⟨g,1,none⟩=false:=by
  have hB2:Below VA.heap.size VA (VA.alloc (.cells #[.string S,.string H,.int .i64 P,.string D] 75)).drew:=((Below.refl _ VA).alloc (Nat.le_refl _) _).drew;obtain⟨⟨q1,q2,q3,q4⟩,q5,q6⟩:=hS0;have hgA:g<VA.heap.size:=by omega
  exact⟨⟨(hB2.cell (p:=⟨w.heap.size,0,none⟩) hzA).trans q1,(hB2.cell (p:=⟨w.heap.size,1,none⟩) hzA).trans q2,(hB2.cell (p:=⟨w.heap.size,2,none⟩) hzA).trans q3,(hB2.cell (p:=⟨w.heap.size,3,none⟩) hzA).trans q4⟩,(hB2.cell (p:=⟨g,1,none⟩) hgA).trans q5,(hB2.frozen (p:=⟨g,1,none⟩) hgA).trans q6⟩
 have HO2:=hide hown2;have HC2:=hide hc2;have HS1:=hide hS1;clear hVA hA4 hfA hfF hownA hBA c0 c1 f1 hown2 hc2 hS1;obtain⟨⟨q1,q2,q3,q4⟩,q5,q6⟩:=hS0;obtain⟨⟨r1,r2,r3,r4⟩,r5,r6⟩:=HS1.out;go_region_law ((refine step_append_lies _ rfl _ _ _ rfl (g+1) 75 i0 (.agg #[.string ⟨#[]⟩,.string ⟨#[]⟩,.int .i64 0,.string ⟨#[]⟩]) 4 56 Tryz.underlying85 hi hz0 hz1 hz2 rfl (by decide) (.slice p os.length cap) os.length (fE os) rfl HO2.out ⟨VA.heap.size,0,none⟩ 1 1 [.string S,.string H,.int .i64 P,.string D] rfl rfl HC2.out (by simp[Value.oneCell']) (by omega) (by unfold maxLen;omega) (by omega) hz9 _ rfl ?_;intro g6 cap6 w6 hown6 hgrow6 hat6 hlt6;obtain⟨⟨-,s5,s6⟩,s7,s8⟩:=HSG.out _ hgrow6))
 all_goals (
  have hsm:=heap_setCell_same w6 g 1 _ 87 (.slice (some ⟨g6,0,none⟩) (os.length+1) cap6) s7;have hcl:(w6.setCell ⟨g,1,none⟩ (.slice (some ⟨g6,0,none⟩) (os.length+1) cap6)).cell? ⟨g,1,none⟩=some (.slice (some ⟨g6,0,none⟩) (os.length+1) cap6):=World.cell?_setCell_same _ _ _ s5;have hxx:Ex (PE g (Value.slice p os.length cap)) w (w6.setCell ⟨g,1,none⟩ (.slice (some ⟨g6,0,none⟩) (os.length+1) cap6)):=⟨s8.base.setCell (p:=⟨g,1,none⟩) (Nat.zero_le _) _,fun k hk hn=>(heap_setCell_other _ _ _ _ (fun e=>hn (.inl e))).trans (s8.block k hk hn)⟩
  have hpp:PPost w g (Value.slice p os.length cap) rs (os++[o]) (w6.setCell ⟨g,1,none⟩ (.slice (some ⟨g6,0,none⟩) (os.length+1) cap6)):=by
   refine⟨.slice (some ⟨g6,0,none⟩) (os.length+1) cap6,⟨rv,hsm,HTY.out.own hxx HP.out (by decide) (by decide),?_⟩,hxx,fun k hk=>?_⟩
   · have hx:=ownsRow_setCell_below hown6 (a:=⟨g,1,none⟩) (Nat.lt_succ_self g) (.slice (some ⟨g6,0,none⟩) (os.length+1) cap6);rw[HAP.out,List.length_append,List.length_singleton];exact hx
   · have hk':g6=k:=by simpa[Value.ownBlock] using hk
     subst hk';rcases hat6 with h | h
     · exact .inl h
     · right;rw[h];show w.heap.size≤(VA.alloc _).heap.size;rw[World.size_alloc];omega
  obtain⟨W7,hW7⟩:∃ W,w6.setCell ⟨g,1,none⟩ (.slice (some ⟨g6,0,none⟩) (os.length+1) cap6)=W:=⟨_,rfl⟩
  rw[hW7] at hcl hpp ⊢;have HPP:=hide hpp;clear hsm hpp hxx hW7 s5 s6 s7 s8 hown6 hgrow6 hat6 hlt6 q1 q2 q3 q4 q5 q6 r1 r2 r3 r4 r5 r6 HSG HO2 HC2 HS1 HOWN HBA hz9 hzA;go_wp2;go_ret2;exact⟨rfl,HPP.out⟩)
theorem I1 (g:Nat)(o:cJ)(ov:Value)(rs:List Sx.Rl)(os:List cJ)(w:World)(hW:PwAt w g ov rs os)(hl:os.length≤20):Calls Tryz.prog 34 #[.pointer (some ⟨g,0,none⟩),rH o] w fun e w'=>e=.returned (.tuple #[.int .i64 (fZ os o).2.1,.int .i64 (fZ os o).2.2])∧PPost w g ov rs (fZ os o).1 w':=by
 unfold fZ;by_cases h:os.length=20
 · rw[if_pos h];refine(X9 g o rs os w hW.read h).mono ?_;rintro e w' ⟨rfl,h1⟩;exact⟨rfl,PPost.same hW h1⟩
 · rw[if_neg h];exact P6 g o ov rs os w hW (by omega)
theorem UD (g:Nat)(ov:Value)(rs:List Sx.Rl)(os:List cJ)(w:World)(hW:PwAt w g ov rs os)(hl:os.length≤20):Calls Tryz.prog 12 #[.pointer (some ⟨g,0,none⟩)] w fun e w'=>e=.returned (.tuple #[.int .i64 (tG os).2.1,.int .i64 (tG os).2.2])∧PPost w g ov rs (tG os).1 w':=by
 unfold tG;have HA:=hide (I1 g (none,[]) ov rs os w hW hl);have hA:rH (none,[])=.agg #[.string ⟨#[]⟩,.string ⟨#[]⟩,.int .i64 0,.string ⟨#[]⟩]:=rfl;rw[hA] at HA;obtain⟨⟨os',a,b⟩,hJ⟩:∃ x,fZ os (none,[])=x:=⟨_,rfl⟩
 rw[hJ] at HA ⊢;dsimp only at HA ⊢;clear hW hA hJ;go_enter Tryz.func12,Tryz.ntmps12;go_wp2_with fail
 refine HA.out.mono ?_;rintro e w1 ⟨rfl,hS⟩;have HS:=hide hS;clear hS;go_wp2;go_ret2;exact⟨rfl,HS.out⟩
theorem E9 (g:Nat)(s h:ByteArray)(p:Int)(ov:Value)(rs:List Sx.Rl)(os:List cJ)(w:World)(hw:gW w)(hW:PwAt w g ov rs os)(hl:os.length≤20):Calls Tryz.prog 10 #[.pointer (some ⟨g,0,none⟩),.string s,.string h,.int .i64 p] w fun e w'=>e=.returned (.tuple #[.int .i64 (kY os s.data.toList h.data.toList p).2.1,.int .i64 (kY os s.data.toList h.data.toList p).2.2])∧PPost w g ov rs (kY os s.data.toList h.data.toList p).1 w':=by
 have HSC:=hide (Y0 s w);have HPT:=hide (X5 p w);unfold kY;by_cases hs:qO s.data.toList
 · rw[decide_eq_true hs] at HSC;by_cases hp:0≤p∧p≤65535
   · rw[decide_eq_true hp] at HPT;rw[if_pos ⟨hs,hp⟩];have HHI:=hide (rA h w hw);unfold iV at HHI;by_cases hh:(Sx.aI h.data.toList).2=0
     · rw[if_pos hh];have hpl:Sx.dU h.data.toList=(Sx.aA (Sx.aI h.data.toList).1,0):=by
        unfold Sx.dU;rw[←hh]
       rw[hpl] at HHI;obtain⟨HH,hHH⟩:∃ H,(Sx.aI h.data.toList).1=H:=⟨_,rfl⟩
       rw[hHH] at HHI ⊢;have hss:0<s.size∧s.size≤5:=by
        rw[←aC];rcases hs with e | e <;> rw[e] <;> simp[sW,mV]
       have hAd:=fun W (hB:Below w.heap.size w W)=>I1 g (some (s.data.toList,HH,p),[]) ov rs os W (hW.below hB) hl;have hA:rH (some (s.data.toList,HH,p),[])=.agg #[.string s,.string ⟨(Sx.aA HH).toArray⟩,.int .i64 p,.string ⟨#[]⟩]:=by
        unfold rH bC dZ bT;simp
       rw[hA] at hAd;obtain⟨⟨os',a,b⟩,hJ⟩:∃ x,fZ os (some (s.data.toList,HH,p),[])=x:=⟨_,rfl⟩
       rw[hJ] at hAd ⊢;dsimp only at hAd ⊢;have HAD:=hide hAd;obtain⟨P,hP⟩:∃ X:ByteArray,⟨(Sx.aA HH).toArray⟩=X:=⟨_,rfl⟩
       dsimp only at HHI;rw[hP] at HHI HAD;have HNT:=hide (fun W=>X8 s P p W hss.1 (by omega));clear hpl hHH hAd hA hP hW hs hh hw hJ;go_enter Tryz.func10,Tryz.ntmps10;go_wp2_with fail
       refine HSC.out.mono ?_;rintro e w1 ⟨rfl,rfl⟩;go_wp2_with fail
       refine HPT.out.mono ?_;rintro e w1 ⟨rfl,rfl⟩;go_wp2_with fail
       refine HHI.out.mono ?_;rintro e w2 ⟨hB,rfl⟩;have HB2:=hide hB;clear hB;go_wp2_with fail
       refine(HNT.out _).mono ?_;rintro e w3 ⟨rfl,hB⟩;have HB3:=hide (aN HB2.out hB);clear hB;go_wp2_with fail
       refine(HAD.out _ HB3.out).mono ?_;rintro e w4 ⟨rfl,hP4⟩;have HS:=hide (PPost.back HB3.out hP4);clear hP4;go_wp2;go_ret2;exact⟨rfl,HS.out⟩
     · rw[if_neg hh];have hpl:Sx.dU h.data.toList=([],(Sx.aI h.data.toList).2):=yR hh;rw[hpl] at HHI;dsimp only at HHI ⊢;obtain⟨er,her⟩:∃ e,(Sx.aI h.data.toList).2=e:=⟨_,rfl⟩
       rw[her] at HHI hh ⊢;have k1:(er != 0)=true:=by simpa using hh
       have k2:(er == 0)=false:=by simpa using hh
       have HPS:=hide (fun W hB=>PPost.same (w':=W) hW hB);clear hpl her hh hs hW hw;go_enter Tryz.func10,Tryz.ntmps10;go_wp2_with fail
       refine HSC.out.mono ?_;rintro e w1 ⟨rfl,rfl⟩;go_wp2_with fail
       refine HPT.out.mono ?_;rintro e w1 ⟨rfl,rfl⟩;go_wp2_with fail
       refine HHI.out.mono ?_;rintro e w2 ⟨hB,rfl⟩;have HB2:=hide hB;clear hB;go_wp2;go_ret2;exact⟨rfl,HPS.out _ HB2.out⟩
   · rw[if_neg (fun h=>hp h.2)];rw[decide_eq_false hp] at HPT;have HPS:=hide (PPost.same hW (Below.refl _ _));clear hs hp hW hw;go_enter Tryz.func10,Tryz.ntmps10;go_wp2_with fail
     refine HSC.out.mono ?_;rintro e w1 ⟨rfl,rfl⟩;go_wp2_with fail
     refine HPT.out.mono ?_;rintro e w1 ⟨rfl,rfl⟩;go_wp2;go_ret2;exact⟨rfl,HPS.out⟩
 · rw[if_neg (fun h=>hs h.1)];rw[decide_eq_false hs] at HSC;have HPS:=hide (PPost.same hW (Below.refl _ _));clear hs hW hw;go_enter Tryz.func10,Tryz.ntmps10;go_wp2_with fail
   refine HSC.out.mono ?_;rintro e w1 ⟨rfl,rfl⟩;go_wp2;go_ret2;exact⟨rfl,HPS.out⟩
theorem Ex.cell {E:Nat→Prop}{w w':World}(h:Ex E w w'){b k:Nat}(hb:b<w.heap.size)(hn:¬ E b):w'.cell? ⟨b,k,none⟩=w.cell? ⟨b,k,none⟩:=World.cell?_of_block (w:=w) (a:=⟨b,k,none⟩) (h.block b hb hn)
theorem YZ {w:World}{g B z n:Nat}{v:Value}{xs:List Value}{cs:Array Value}{t1 t2:TypeId}{fr:Nat×Nat}(hb:w.heap[g]? = some (.cells cs t1 fr))(ho:w.ownsRow B t2 z v n xs){k:Nat}(hk:PE g v k):∃ cs t fr,w.heap[k]? = some (.cells cs t fr)∧(t=t1∨t=t2):=by
 rcases hk with rfl | hk
 · exact⟨_,_,_,hb,.inl rfl⟩
 · obtain⟨cs2,h2⟩:=lG ho hk;exact⟨_,_,_,h2,.inr rfl⟩
theorem PwAt.has {W:World}{g:Nat}{ov:Value}{rs:List Sx.Rl}{os:List cJ}(h:PwAt W g ov rs os){k:Nat}(hk:PE g ov k):∃ cs t fr,W.heap[k]? = some (.cells cs t fr)∧(t=87∨t=75):=by
 obtain⟨rv,h1,-,h3⟩:=h;exact YZ h1 h3 hk
theorem DwAt.has {W:World}{g:Nat}{dv:Value}{rs:List Sx.Rl}{os:List cJ}(h:DwAt W g dv rs os){k:Nat}(hk:PE g dv k):∃ cs t fr,W.heap[k]? = some (.cells cs t fr)∧(t=225∨t=228):=by
 obtain⟨rv,q,d,-,-,h1,-,h3,-⟩:=h;exact YZ h1 h3 hk
theorem PwAt.peLt {W:World}{g:Nat}{ov:Value}{rs:List Sx.Rl}{os:List cJ}(h:PwAt W g ov rs os){k:Nat}(hk:PE g ov k):g≤k∧k<W.heap.size:=by
 obtain⟨cs,t,fr,h1,-⟩:=h.has hk;refine⟨?_,cF h1⟩;obtain⟨rv,-,-,h3⟩:=h;rcases hk with rfl | hk
 · exact Nat.le_refl _
 · have:=(h3.lt k hk).1;omega
theorem DwAt.peLt {W:World}{g:Nat}{dv:Value}{rs:List Sx.Rl}{os:List cJ}(h:DwAt W g dv rs os){k:Nat}(hk:PE g dv k):g≤k∧k<W.heap.size:=by
 obtain⟨cs,t,fr,h1,-⟩:=h.has hk;refine⟨?_,cF h1⟩;obtain⟨rv,q,d,-,-,-,-,h3,-⟩:=h;rcases hk with rfl | hk
 · exact Nat.le_refl _
 · have:=(h3.lt k hk).1;omega
theorem FV {W:World}{g g':Nat}{ov dv:Value}{rs rs':List Sx.Rl}{os os':List cJ}(h:PwAt W g ov rs os)(h':DwAt W g' dv rs' os'){k:Nat}(hk:PE g ov k):¬ PE g' dv k:=fun hk'=>by
 obtain⟨cs,t,fr,h1,h2⟩:=h.has hk;obtain⟨cs',t',fr',h3,h4⟩:=h'.has hk';rw[h1] at h3;simp at h3;obtain⟨-,h5,-⟩:=h3;subst h5;rcases h2 with rfl | rfl <;> rcases h4 with h | h <;> exact absurd h (by decide)
theorem PwAt.past {W W':World}{g g':Nat}{ov dv:Value}{rs rs':List Sx.Rl}{os os':List cJ}(h:PwAt W g ov rs os)(h':DwAt W g' dv rs' os')(hx:Ex (PE g' dv) W W'):PwAt W' g ov rs os:=h.ex hx (fun _ hk=>FV h h' hk) h'.ety (by decide) (by decide)
theorem DwAt.past {W W':World}{g g':Nat}{ov dv:Value}{rs rs':List Sx.Rl}{os os':List cJ}(h':DwAt W g' dv rs' os')(h:PwAt W g ov rs os)(hx:Ex (PE g ov) W W'):DwAt W' g' dv rs' os':=h'.ex hx (fun _ hk' hk=>FV h h' hk hk') h.ety (by decide) (by decide) (by decide) (by decide)
structure PD where
 g:Nat
 ov:Value
 h:Nat
 dv:Value
 rs:List Sx.Rl
 os:List cJ
structure PrOk (W:World) (p:PD):Prop where
 pw:PwAt W p.g p.ov p.rs p.os
 dw:DwAt W p.h p.dv p.rs p.os
 ok:∀ o∈p.os,dF o
 few:p.os.length≤20
 rt:Sx.RlsRt p.rs
theorem PrOk.below {W W':World}{p:PD}(h:PrOk W p)(hb:Below W.heap.size W W'):PrOk W' p:=⟨h.pw.below hb,h.dw.below hb,h.ok,h.few,h.rt⟩
def PQ (p:PD)(k:Nat):Prop:=PE p.g p.ov k∨PE p.h p.dv k
def PairPost (w:World)(p:PD)(w':World):Prop:=∃ p':PD,p'.g=p.g∧p'.h=p.h∧PrOk w' p'∧Ex (PQ p) w w'∧ZI w p.ov p'.ov∧ZI w p.dv p'.dv
theorem PairPost.back {w w1 w':World}{p:PD}(hb:Below w.heap.size w w1)(h:PairPost w1 p w'):PairPost w p w':=by
 obtain⟨p',h1,h2,h3,h4,h5,h6⟩:=h;exact⟨p',h1,h2,h3,(lE hb).trans h4 (fun _ _ h=>h),fun k hk=>(h5 k hk).imp id (fun h=>Nat.le_trans hb.size h),fun k hk=>(h6 k hk).imp id (fun h=>Nat.le_trans hb.size h)⟩
theorem PairPost.same {w w':World}{p:PD}(h:PrOk w p)(hb:Below w.heap.size w w'):PairPost w p w':=⟨p,rfl,rfl,h.below hb,lE hb,fun _ h=>.inl h,fun _ h=>.inl h⟩
theorem PrOk.after {w w1:World}{p:PD}{os':List cJ}(h:PrOk w p)(hp:PPost w p.g p.ov p.rs os' w1):DwAt w1 p.h p.dv p.rs p.os:=by
 obtain⟨ov',-,h2,-⟩:=hp;exact h.dw.past h.pw h2
theorem rC {w w1 w2:World}{p:PD}{os':List cJ}(h:PrOk w p)(hp:PPost w p.g p.ov p.rs os' w1)(hd:DPost w1 p.h p.dv p.rs os' w2)(hok:∀ o∈os',dF o)(hl:os'.length≤20):PairPost w p w2:=by
 have hda:=h.after hp;obtain⟨ov',p1,p2,p3⟩:=hp;obtain⟨dv',d1,d2,d3⟩:=hd;refine⟨⟨p.g,ov',p.h,dv',p.rs,os'⟩,rfl,rfl,⟨p1.past hda d2,d1,hok,hl,h.rt⟩,(p2.mono (fun _ h=>.inl h)).trans d2 (fun _ _ h=>.inr h),p3,fun k hk=>(d3 k hk).imp id (fun h=>Nat.le_trans p2.base.size h)⟩
theorem YV {os:List cJ}(s h:List UInt8)(p:Int)(hl:os.length≤20):(kY os s h p).1.length≤20:=by
 unfold kY fZ;split
 · split
   · split
     · exact hl
     · rw[List.length_append,List.length_singleton];omega
   · exact hl
 · exact hl
theorem TT {os:List cJ}(hl:os.length≤20):(tG os).1.length≤20:=by
 unfold tG fZ;split
 · exact hl
 · rw[List.length_append,List.length_singleton];omega
theorem YM {rs:List Sx.Rl}{os:List cJ}(n:Int)(v:List UInt8)(hl:os.length≤20):(mY rs os n v).1.length≤20:=by
 unfold mY;split
 · split
   · exact hl
   · split
     · split
       · rw[List.length_set];exact hl
       · exact hl
     · exact hl
 · exact hl
theorem qP (w W0:World)(x y a0 a1 a2 a3 a4 a5 a6 a7:Value)(hW:(w.alloc (.cells #[x,y] 121)).alloc (.cells #[a0,a1,a2,a3,a4,a5,a6,a7] 96)=W0):Below w.heap.size w W0∧W0.heap.size=w.heap.size+2∧∀ W:World,(∀ b,w.heap.size≤b→b<w.heap.size+2→W.heap[b]? = W0.heap[b]?)→W.cell? ⟨w.heap.size,0,none⟩=some x∧W.cell? ⟨w.heap.size,1,none⟩=some y∧W.cell? ⟨w.heap.size+1,0,none⟩=some a0∧W.cell? ⟨w.heap.size+1,1,none⟩=some a1∧W.cell? ⟨w.heap.size+1,2,none⟩=some a2∧W.cell? ⟨w.heap.size+1,3,none⟩=some a3∧W.cell? ⟨w.heap.size+1,4,none⟩=some a4∧W.cell? ⟨w.heap.size+1,5,none⟩=some a5∧W.cell? ⟨w.heap.size+1,6,none⟩=some a6∧W.cell? ⟨w.heap.size+1,7,none⟩=some a7:=by
 have hs1:(w.alloc (.cells #[x,y] 121)).heap.size=w.heap.size+1:=by rw[World.size_alloc]
 have h1:W0.heap[w.heap.size+1]? = some (.cells #[a0,a1,a2,a3,a4,a5,a6,a7] 96 (0,0)):=by rw[←hW,←hs1];exact heap_alloc_new _ _
 have h0:W0.heap[w.heap.size]? = some (.cells #[x,y] 121 (0,0)):=by
  rw[←hW,Below.heap_alloc _ _ _ (by omega)];exact heap_alloc_new _ _
 refine⟨by rw[←hW];exact((Below.refl _ _).alloc (Nat.le_refl _) _).alloc (by simp) _,by rw[←hW,World.size_alloc,hs1],fun W h=>?_⟩;have g0:=(h _ (Nat.le_refl _) (by omega)).trans h0;have g1:=(h (w.heap.size+1) (by omega) (by omega)).trans h1;simp[World.cell?,g0,g1]
theorem QI (p:PD)(n1 n2 n3:Int)(s t:ByteArray)(la:Option Addr)(ln lc:Nat)(md:Bool)(w:World)(hw:gW w)(hp:PrOk w p):Calls Tryz.prog 71 #[.agg #[.pointer (some ⟨p.g,0,none⟩),.pointer (some ⟨p.h,0,none⟩)],.agg #[.int .i64 7,.int .i64 n1,.int .i64 n2,.int .i64 n3,.string s,.string t,.slice la ln lc,.bool md]] w fun e w'=>e=.returned (.bool true)∧PairPost w p w':=by
 obtain⟨W0,hW0⟩:∃ W0,(w.alloc (.cells #[.pointer (some ⟨p.g,0,none⟩),.pointer (some ⟨p.h,0,none⟩)] 121)).alloc (.cells #[.int .i64 7,.int .i64 n1,.int .i64 n2,.int .i64 n3,.string s,.string t,.slice la ln lc,.bool md] 96)=W0:=⟨_,rfl⟩
 obtain⟨hB0,hz0,hbx⟩:=qP _ _ _ _ _ _ _ _ _ _ _ _ hW0;have hp0:=hp.below hB0;have HPT:=hide (E9 p.g s t n2 p.ov p.rs p.os W0 (bA _ _ hw hB0) hp0.pw hp0.few);have HDT:=hide (fun W hd=>M6 p.h s t n2 p.dv p.rs p.os W hd hp0.few);have hok:=ZY s.data.toList t.data.toList n2 hp0.ok;have hfw:=YV s.data.toList t.data.toList n2 hp0.few;have hkp:∀ W os',PPost W0 p.g p.ov p.rs os' W→∀ b,w.heap.size≤b→b<w.heap.size+2→W.heap[b]? = W0.heap[b]?:=fun W os' hP b h1 h2=>by
  obtain⟨ov',-,hx,-⟩:=hP;exact hx.block b (by omega) (fun e=>by have:=(hp.pw.peLt e).2;omega)
 obtain⟨⟨os',a,b⟩,hT⟩:∃ x,kY p.os s.data.toList t.data.toList n2=x:=⟨_,rfl⟩
 rw[hT] at HPT hok hfw;simp only[hT] at HDT;dsimp only at HPT HDT hok hfw;have HAF:=hide (fun W (h:PPost W0 p.g p.ov p.rs os' W)=>hp0.after h);have HPP:=hide (fun W1 W2 (h:PPost W0 p.g p.ov p.rs os' W1) h2=>(rC (w2:=W2) hp0 h h2 hok hfw).back hB0);have HBX:=hide (fun W (h:PPost W0 p.g p.ov p.rs os' W)=>hbx W (hkp W os' h));obtain⟨c0,c1,d0,d1,d2,d3,d4,d5,d6,d7⟩:=hbx W0 (fun _ _ _=>rfl);have aa:(a == a)=true:=by simp
 have bb:(b == b)=true:=by simp
 have HW0:=hide hW0;obtain⟨g,ov,h,dv,rs,os⟩:=p;dsimp only at *;clear hp hp0 hw hok hfw hkp hT hbx hB0 hW0;go_enter Tryz.func71,Tryz.ntmps71;go_upto_region 1 with fail
 rw[HW0.out];go_wp2_with fail
 refine HPT.out.mono ?_;rintro e w1 ⟨rfl,hP1⟩;obtain⟨c0,c1,d0,d1,d2,d3,d4,d5,d6,d7⟩:=HBX.out _ hP1;have HD:=hide (HDT.out _ (HAF.out _ hP1));have HP1:=hide hP1;clear hP1 HDT HAF HPT;go_wp2_with fail
 refine HD.out.mono ?_;rintro e w2 ⟨rfl,hD2⟩;have HF:=hide (HPP.out _ _ HP1.out hD2);clear hD2 HPP;go_wp2_with (go_at_call 102;go_must (refine(eY _ _).mono ?_;rintro e w' ⟨rfl,rfl⟩))
 go_ret;exact⟨rfl,HF.out⟩
end Go.Proofs.YtgohllfpceeboabGreatDoor
