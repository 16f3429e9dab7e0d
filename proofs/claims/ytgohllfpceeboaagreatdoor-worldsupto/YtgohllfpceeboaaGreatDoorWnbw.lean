import Derived.Test.YtgohllfpceeboaaGreatDoorRows
import Derived.Test.YtgohllfpceeboaaGreatDoorWnbu
import Derived.ProofKit
import Derived.Deep.Slices
import Derived.Lib.LaidU8T
import Derived.Lay
import Derived.MakeChecks
import Derived.Stop.Joined
import Derived.SevenTiedAt
import Derived.Laws.CopyOwn
set_option maxRecDepth 100000
set_option maxHeartbeats 8000000
namespace Go.Proofs.YtgohllfpceeboaaGreatDoor
open Go.ChangeShapes Go.WideShapes Go.ChangeAt Go.RowKit Go.Deep
theorem Tryz.own:ownKnob Tryz.prog.godebug=none:=by kernel_rfl
theorem Tryz.laidOut:laidOutB Tryz.prog=true:=by kernel_rfl
theorem Tryz.cells78:Tryz.prog.cellsOf 78=8:=by kernel_rfl
theorem Tryz.cells3:Tryz.prog.cellsOf 3=1:=by kernel_rfl
theorem Tryz.cells9:Tryz.prog.cellsOf 9=1:=by kernel_rfl
theorem Tryz.cells34:Tryz.prog.cellsOf 34=1:=by kernel_rfl
theorem Tryz.cells4:Tryz.prog.cellsOf 4=1:=by kernel_rfl
theorem one_of_part {cs:List Value} {i:Nat} {v:Value} (h:(cs.drop i).take 1=[v]):cs[i]? = some v:=by
 have h0:((cs.drop i).take 1)[0]? = some v:=by rw [h];rfl
 simpa using h0
theorem op_open {H:Type} {enc:TypeId × Value→H} {w:World} {base:Nat} {spare:Nat→Bool} {held:Bool} {fuel:Nat} {cs:List Value} {x:DataW H × List MemPlace} (h:DataW.trod enc Tryz.prog w base spare held fuel 78 cs=some x) :
 ∃ o:OpC,cs=o.cells:=by
 obtain ⟨xs,n,rfl,-,hl,hx,hf⟩:=DataW.trod_struct Tryz.underlying78 h;rw [Tryz.cells78] at hl;have hx8:xs.length=8:=hx;have f0:DataW.trod enc Tryz.prog w base spare held n 3 ((cs.drop 0).take (Tryz.prog.cellsOf 3))=xs[0]?:=hf 0 _ rfl;have f1:DataW.trod enc Tryz.prog w base spare held n 3 ((cs.drop 1).take (Tryz.prog.cellsOf 3))=xs[1]?:=hf 1 _ rfl;have f2:DataW.trod enc Tryz.prog w base spare held n 3 ((cs.drop 2).take (Tryz.prog.cellsOf 3))=xs[2]?:=hf 2 _ rfl;have f3:DataW.trod enc Tryz.prog w base spare held n 3 ((cs.drop 3).take (Tryz.prog.cellsOf 3))=xs[3]?:=hf 3 _ rfl;have f4:DataW.trod enc Tryz.prog w base spare held n 9 ((cs.drop 4).take (Tryz.prog.cellsOf 9))=xs[4]?:=hf 4 _ rfl;have f5:DataW.trod enc Tryz.prog w base spare held n 9 ((cs.drop 5).take (Tryz.prog.cellsOf 9))=xs[5]?:=hf 5 _ rfl;have f6:DataW.trod enc Tryz.prog w base spare held n 34 ((cs.drop 6).take (Tryz.prog.cellsOf 34))=xs[6]?:=hf 6 _ rfl;have f7:DataW.trod enc Tryz.prog w base spare held n 4 ((cs.drop 7).take (Tryz.prog.cellsOf 4))=xs[7]?:=hf 7 _ rfl;rw [List.getElem?_eq_getElem (by omega)] at f0 f1 f2 f3 f4 f5 f6 f7;obtain ⟨a0,e0,-,-⟩:=DataW.trod_int Tryz.underlying3 f0;obtain ⟨a1,e1,-,-⟩:=DataW.trod_int Tryz.underlying3 f1;obtain ⟨a2,e2,-,-⟩:=DataW.trod_int Tryz.underlying3 f2;obtain ⟨a3,e3,-,-⟩:=DataW.trod_int Tryz.underlying3 f3;obtain ⟨a4,e4,-,-⟩:=DataW.trod_string Tryz.underlying9 f4;obtain ⟨a5,e5,-,-⟩:=DataW.trod_string Tryz.underlying9 f5
 obtain ⟨a7,e7,-⟩:=DataW.trod_bool Tryz.underlying4 f7;obtain ⟨la,ln,lc,e6⟩:∃ la ln lc,(cs.drop 6).take 1=[Value.slice la ln lc]:=by
  rcases DataW.trod_slice Tryz.underlying34 f6 with ⟨h0,-⟩ | ⟨a,len,cap,-,-,-,-,h0,-⟩
  · exact ⟨none,0,0,by rw [←Tryz.cells34];exact h0⟩
  · exact ⟨some a,len,cap,by rw [←Tryz.cells34];exact h0⟩
 rw [Tryz.cells3] at e0 e1 e2 e3;rw [Tryz.cells9] at e4 e5;rw [Tryz.cells4] at e7;have g0:=one_of_part e0;have g1:=one_of_part e1;have g2:=one_of_part e2;have g3:=one_of_part e3;have g4:=one_of_part e4;have g5:=one_of_part e5;have g6:=one_of_part e6;have g7:=one_of_part e7;refine ⟨⟨a0,a1,a2,a3,a4,a5,la,ln,lc,a7⟩,?_⟩
 match cs,hl with
 | [c0,c1,c2,c3,c4,c5,c6,c7],_ =>
   simp only [List.getElem?_cons_zero,List.getElem?_cons_succ,Option.some.injEq] at g0 g1 g2 g3 g4 g5 g6 g7;subst g0 g1 g2 g3 g4 g5 g6 g7;rfl
theorem first_eq:Rows.laid_unicode_utf8_first=Lib.firstData:=by kernel_rfl
theorem accept_eq:(Rows.laid_unicode_utf8_acceptRanges:DataW Unit)=Lib.acceptData:=by kernel_rfl
theorem u8x:U8Extra Tryz.prog Tryz.layValid_ren:=⟨by kernel_rfl,by kernel_rfl,by kernel_rfl,by kernel_rfl,by kernel_rfl,by kernel_rfl,by kernel_rfl⟩
open Go.RowKit
theorem paddXY (g:Nat) (o:Org) (ov:Value) (rs:List Sx.Rl) (os:List Org) (w:World) (hW:PwAt w g ov rs os) (hl:os.length<20):Calls Tryz.prog 89 #[.pointer (some ⟨g,0,none⟩),orgA o] w fun e w'=>e=.returned (.tuple #[.int .i64 os.length,.int .i64 0])∧PPost w g ov rs (os ++ [o]) w':=by
 obtain ⟨rv,h4,h2,h5⟩:=hW;obtain ⟨i0,hi,hz0,hz1,hz2⟩:=info_parts Tryz.info144;have hg:g<w.heap.size:=by
  by_cases hlt:g<w.heap.size
  · exact hlt
  · rw [Array.getElem?_eq_none (by omega)] at h4;cases h4
 obtain ⟨p,cap,rfl⟩:=own_shapeK h5;have c0:w.cell? ⟨g,0,none⟩=some rv:=by simp [World.cell?,h4]
 have c1:w.cell? ⟨g,1,none⟩=some (.slice p os.length cap):=by simp [World.cell?,h4]
 have f1:w.frozen? ⟨g,1,none⟩=false:=by simp [World.frozen?,h4]
 have k1:((os.length:Int) == 20)=false:=by simp;omega
 have happ:orgCs (os ++ [o])=orgCs os ++ orgC o:=by rw [orgCs_app];simp [orgCs]
 have HAP:=hide happ;have HW5:=hide h5;have HP:=hide h2;have HTY:=hide (pe_ety h4 h5);have H4:=hide h4;unfold orgC at HAP;unfold orgA;obtain ⟨S,hS⟩:∃ X:ByteArray,⟨(schOf o).toArray⟩=X:=⟨_,rfl⟩
 obtain ⟨H,hH⟩:∃ X:ByteArray,⟨(hstOf o).toArray⟩=X:=⟨_,rfl⟩
 obtain ⟨D,hD⟩:∃ X:ByteArray,⟨o.2.toArray⟩=X:=⟨_,rfl⟩
 obtain ⟨P,hP⟩:∃ n,prtOf o=n:=⟨_,rfl⟩
 rw [hS,hH,hD,hP] at HAP ⊢;clear happ h5 h2 h4 hS hH hD hP;go_enter Tryz.func89,Tryz.ntmps89;go_wp2_with fail
 have hA4:=c4_new w S H D P;have hfA:(w.alloc (.cells #[.string S,.string H,.int .i64 P,.string D] 144)).cell? ⟨g,1,none⟩=some (.slice p os.length cap):=by rw [((Below.refl _ w).alloc (Nat.le_refl _) _).cell (p:=⟨g,1,none⟩) hg];exact c1
 have hfF:(w.alloc (.cells #[.string S,.string H,.int .i64 P,.string D] 144)).frozen? ⟨g,1,none⟩=false:=by rw [((Below.refl _ w).alloc (Nat.le_refl _) _).frozen (p:=⟨g,1,none⟩) hg];exact f1
 have hownA:=HW5.out.alloc (.cells #[.string S,.string H,.int .i64 P,.string D] 144);have hBA:Below w.heap.size w (w.alloc (.cells #[.string S,.string H,.int .i64 P,.string D] 144)):=(Below.refl _ w).alloc (Nat.le_refl _) _;have hzA:w.heap.size<(w.alloc (.cells #[.string S,.string H,.int .i64 P,.string D] 144)).heap.size:=by rw [World.size_alloc];omega
 obtain ⟨VA,hVA⟩:∃ V,w.alloc (.cells #[.string S,.string H,.int .i64 P,.string D] 144)=V:=⟨_,rfl⟩
 rw [hVA] at hA4 hfA hfF hownA hBA hzA ⊢;unfold C4 at hA4;have hnb:some g≠(Value.slice p os.length cap).ownBlock:=fun e=>by have:=(HW5.out.lt _ e.symm).1;omega
 have hnw:some w.heap.size≠(Value.slice p os.length cap).ownBlock:=fun e=>by have:=(HW5.out.lt _ e.symm).2;omega
 have hS0:=And.intro hA4 (And.intro hfA hfF);have HOWN:=hide hownA;have HBA:=hide hBA;have HSG:Hid (∀ W6,(VA.alloc (.cells #[.string S,.string H,.int .i64 P,.string D] 144)).drew.grownBy W6 (Value.slice p os.length cap).ownBlock→((W6.cell? ⟨w.heap.size,0,none⟩=some (.string S)∧W6.cell? ⟨w.heap.size,1,none⟩=some (.string H)∧W6.cell? ⟨w.heap.size,2,none⟩=some (.int .i64 P)∧W6.cell? ⟨w.heap.size,3,none⟩=some (.string D))∧W6.cell? ⟨g,1,none⟩=some (.slice p os.length cap)∧W6.frozen? ⟨g,1,none⟩=false)∧W6.heap[g]? = some (.cells #[rv,.slice p os.length cap] 102)∧Ex (PE g (Value.slice p os.length cap)) w W6):=hide (fun W6 hgr=>by
  have hB2:Below VA.heap.size VA (VA.alloc (.cells #[.string S,.string H,.int .i64 P,.string D] 144)).drew:=((Below.refl _ VA).alloc (Nat.le_refl _) _).drew;have hz2:VA.heap.size<(VA.alloc (.cells #[.string S,.string H,.int .i64 P,.string D] 144)).drew.heap.size:=by show VA.heap.size<(VA.alloc _).heap.size;rw [World.size_alloc];omega
  obtain ⟨⟨q1,q2,q3,q4⟩,q5,q6⟩:=hS0;have far:∀ (b k:Nat) (v:Value),b<VA.heap.size→some b≠(Value.slice p os.length cap).ownBlock→VA.cell? ⟨b,k,none⟩=some v→W6.cell? ⟨b,k,none⟩=some v:=fun b k v h1 h2 h3=>(hgr.cell_far ⟨b,k,none⟩ (by show b<_;omega) h2).trans ((hB2.cell (p:=⟨b,k,none⟩) h1).trans h3);have hgA:g<VA.heap.size:=by omega
  refine ⟨⟨⟨far _ _ _ hzA hnw q1,far _ _ _ hzA hnw q2,far _ _ _ hzA hnw q3,far _ _ _ hzA hnw q4⟩,far _ _ _ hgA hnb q5,(hgr.frozen_far ⟨g,1,none⟩ (by show g<_;omega) hnb).trans ((hB2.frozen (p:=⟨g,1,none⟩) hgA).trans q6)⟩,?_,?_⟩
  · rw [hgr.block g (by omega) hnb,hB2.block g hgA,HBA.out.block g hg];exact H4.out
  · exact ⟨((HBA.out.mono (Nat.zero_le _)).trans (hB2.mono (Nat.zero_le _))).grown hgr (Nat.zero_le _) (fun _ _=>Nat.zero_le _),fun k hk hn=>by rw [hgr.block k (by omega) (fun e=>hn (.inr e.symm)),hB2.block k (by omega),HBA.out.block k hk]⟩)
 have hown2:(VA.alloc (.cells #[.string S,.string H,.int .i64 P,.string D] 144)).drew.ownsRow (g+1) 144 4 (.slice p os.length cap) os.length (orgCs os):=HOWN.out.alloc (.cells #[.string S,.string H,.int .i64 P,.string D] 144);have hc2:∀ (j:Nat) (q:Value),[.string S,.string H,.int .i64 P,.string D][j]? = some q→(VA.alloc (.cells #[.string S,.string H,.int .i64 P,.string D] 144)).drew.cell? ((⟨VA.heap.size,0,none⟩:Addr).add j)=some q:=cell4_newO VA _ _ _ _ _;have hz9:g+1≤(VA.alloc (.cells #[.string S,.string H,.int .i64 P,.string D] 144)).drew.heap.size:=by show g+1≤(VA.alloc _).heap.size;rw [World.size_alloc];omega
 have hS1:((VA.alloc (.cells #[.string S,.string H,.int .i64 P,.string D] 144)).drew.cell? ⟨w.heap.size,0,none⟩=some (.string S)∧(VA.alloc (.cells #[.string S,.string H,.int .i64 P,.string D] 144)).drew.cell? ⟨w.heap.size,1,none⟩=some (.string H)∧(VA.alloc (.cells #[.string S,.string H,.int .i64 P,.string D] 144)).drew.cell? ⟨w.heap.size,2,none⟩=some (.int .i64 P)∧(VA.alloc (.cells #[.string S,.string H,.int .i64 P,.string D] 144)).drew.cell? ⟨w.heap.size,3,none⟩=some (.string D))∧(VA.alloc (.cells #[.string S,.string H,.int .i64 P,.string D] 144)).drew.cell? ⟨g,1,none⟩=some (.slice p os.length cap)∧(VA.alloc (.cells #[.string S,.string H,.int .i64 P,.string D] 144)).drew.frozen? ⟨g,1,none⟩=false:=by
  have hB2:Below VA.heap.size VA (VA.alloc (.cells #[.string S,.string H,.int .i64 P,.string D] 144)).drew:=((Below.refl _ VA).alloc (Nat.le_refl _) _).drew;obtain ⟨⟨q1,q2,q3,q4⟩,q5,q6⟩:=hS0;have hgA:g<VA.heap.size:=by omega
  exact ⟨⟨(hB2.cell (p:=⟨w.heap.size,0,none⟩) hzA).trans q1,(hB2.cell (p:=⟨w.heap.size,1,none⟩) hzA).trans q2,(hB2.cell (p:=⟨w.heap.size,2,none⟩) hzA).trans q3,(hB2.cell (p:=⟨w.heap.size,3,none⟩) hzA).trans q4⟩,(hB2.cell (p:=⟨g,1,none⟩) hgA).trans q5,(hB2.frozen (p:=⟨g,1,none⟩) hgA).trans q6⟩
 have HO2:=hide hown2;have HC2:=hide hc2;have HS1:=hide hS1;clear hVA hA4 hfA hfF hownA hBA c0 c1 f1 hown2 hc2 hS1;obtain ⟨⟨q1,q2,q3,q4⟩,q5,q6⟩:=hS0;obtain ⟨⟨r1,r2,r3,r4⟩,r5,r6⟩:=HS1.out;go_region_law ((refine step_append_lies _ rfl _ _ _ rfl (g+1) 144 i0 (.agg #[.string ⟨#[]⟩,.string ⟨#[]⟩,.int .i64 0,.string ⟨#[]⟩]) 4 56 Tryz.underlying100 hi hz0 hz1 hz2 rfl (by decide) (.slice p os.length cap) os.length (orgCs os) rfl HO2.out ⟨VA.heap.size,0,none⟩ 1 1 [.string S,.string H,.int .i64 P,.string D] rfl rfl HC2.out (by simp [Value.oneCell']) (by omega) (by unfold maxLen;omega) (by omega) hz9 _ rfl ?_;intro g6 cap6 w6 hown6 hgrow6 hat6 hlt6;obtain ⟨⟨-,s5,s6⟩,s7,s8⟩:=HSG.out _ hgrow6))
 all_goals (
  have hsm:=heap_setCell_same w6 g 1 _ 102 (.slice (some ⟨g6,0,none⟩) (os.length+1) cap6) s7;have hcl:(w6.setCell ⟨g,1,none⟩ (.slice (some ⟨g6,0,none⟩) (os.length+1) cap6)).cell? ⟨g,1,none⟩=some (.slice (some ⟨g6,0,none⟩) (os.length+1) cap6):=World.cell?_setCell_same _ _ _ s5;have hxx:Ex (PE g (Value.slice p os.length cap)) w (w6.setCell ⟨g,1,none⟩ (.slice (some ⟨g6,0,none⟩) (os.length+1) cap6)):=⟨s8.base.setCell (p:=⟨g,1,none⟩) (Nat.zero_le _) _,fun k hk hn=>(heap_setCell_other _ _ _ _ (fun e=>hn (.inl e))).trans (s8.block k hk hn)⟩
  have hpp:PPost w g (Value.slice p os.length cap) rs (os ++ [o]) (w6.setCell ⟨g,1,none⟩ (.slice (some ⟨g6,0,none⟩) (os.length+1) cap6)):=by
   refine ⟨.slice (some ⟨g6,0,none⟩) (os.length+1) cap6,⟨rv,hsm,HTY.out.own hxx HP.out (by decide) (by decide),?_⟩,hxx,fun k hk=>?_⟩
   · have hx:=ownsRow_setCell_below hown6 (a:=⟨g,1,none⟩) (Nat.lt_succ_self g) (.slice (some ⟨g6,0,none⟩) (os.length+1) cap6);rw [HAP.out,List.length_append,List.length_singleton];exact hx
   · have hk':g6=k:=by simpa [Value.ownBlock] using hk
     subst hk';rcases hat6 with h | h
     · exact .inl h
     · right;rw [h];show w.heap.size≤(VA.alloc _).heap.size;rw [World.size_alloc];omega
  obtain ⟨W7,hW7⟩:∃ W,w6.setCell ⟨g,1,none⟩ (.slice (some ⟨g6,0,none⟩) (os.length+1) cap6)=W:=⟨_,rfl⟩
  rw [hW7] at hcl hpp ⊢;have HPP:=hide hpp;clear hsm hpp hxx hW7 s5 s6 s7 s8 hown6 hgrow6 hat6 hlt6 q1 q2 q3 q4 q5 q6 r1 r2 r3 r4 r5 r6 HSG HO2 HC2 HS1 HOWN HBA hz9 hzA;go_wp2;go_ret2;exact ⟨rfl,HPP.out⟩)
theorem paddX (g:Nat) (o:Org) (ov:Value) (rs:List Sx.Rl) (os:List Org) (w:World) (hW:PwAt w g ov rs os) (hl:os.length≤20):Calls Tryz.prog 89 #[.pointer (some ⟨g,0,none⟩),orgA o] w fun e w'=>e=.returned (.tuple #[.int .i64 (joinO os o).2.1,.int .i64 (joinO os o).2.2])∧PPost w g ov rs (joinO os o).1 w':=by
 unfold joinO;by_cases h:os.length=20
 · rw [if_pos h];refine (paddF g o rs os w hW.read h).mono ?_;rintro e w' ⟨rfl,h1⟩;exact ⟨rfl,PPost.same hW h1⟩
 · rw [if_neg h];exact paddXY g o ov rs os w hW (by omega)
theorem pOpaqueX (g:Nat) (ov:Value) (rs:List Sx.Rl) (os:List Org) (w:World) (hW:PwAt w g ov rs os) (hl:os.length≤20):Calls Tryz.prog 58 #[.pointer (some ⟨g,0,none⟩)] w fun e w'=>e=.returned (.tuple #[.int .i64 (opqO os).2.1,.int .i64 (opqO os).2.2])∧PPost w g ov rs (opqO os).1 w':=by
 unfold opqO;have HA:=hide (paddX g (none,[]) ov rs os w hW hl);have hA:orgA (none,[])=.agg #[.string ⟨#[]⟩,.string ⟨#[]⟩,.int .i64 0,.string ⟨#[]⟩]:=rfl;rw [hA] at HA;obtain ⟨⟨os',a,b⟩,hJ⟩:∃ x,joinO os (none,[])=x:=⟨_,rfl⟩
 rw [hJ] at HA ⊢;dsimp only at HA ⊢;clear hW hA hJ;go_enter Tryz.func58,Tryz.ntmps58;go_wp2_with fail
 refine HA.out.mono ?_;rintro e w1 ⟨rfl,hS⟩;have HS:=hide hS;clear hS;go_wp2;go_ret2;exact ⟨rfl,HS.out⟩
theorem pTupleX (g:Nat) (s h:ByteArray) (p:Int) (ov:Value) (rs:List Sx.Rl) (os:List Org) (w:World) (hw:LWt w) (hW:PwAt w g ov rs os) (hl:os.length≤20):Calls Tryz.prog 59 #[.pointer (some ⟨g,0,none⟩),.string s,.string h,.int .i64 p] w fun e w'=>e=.returned (.tuple #[.int .i64 (tupO os s.data.toList h.data.toList p).2.1,.int .i64 (tupO os s.data.toList h.data.toList p).2.2])∧PPost w g ov rs (tupO os s.data.toList h.data.toList p).1 w':=by
 have HSC:=hide (pschm s w);have HPT:=hide (pport p w);unfold tupO;by_cases hs:schOk s.data.toList
 · rw [decide_eq_true hs] at HSC;by_cases hp:0≤p∧p≤65535
   · rw [decide_eq_true hp] at HPT;rw [if_pos ⟨hs,hp⟩];have HHI:=hide (phip_any h w hw);unfold PlnPost at HHI;by_cases hh:(Sx.host h.data.toList).2=0
     · rw [if_pos hh];have hpl:Sx.plainR h.data.toList=(Sx.dotted (Sx.host h.data.toList).1,0):=by
        unfold Sx.plainR;rw [←hh]
       rw [hpl] at HHI;obtain ⟨HH,hHH⟩:∃ H,(Sx.host h.data.toList).1=H:=⟨_,rfl⟩
       rw [hHH] at HHI ⊢;have hss:0<s.size∧s.size≤5:=by
        rw [←ba_len];rcases hs with e | e <;> rw [e] <;> simp [httpB,httpsB]
       have hAd:=fun W (hB:Below w.heap.size w W)=>paddX g (some (s.data.toList,HH,p),[]) ov rs os W (hW.below hB) hl;have hA:orgA (some (s.data.toList,HH,p),[])=.agg #[.string s,.string ⟨(Sx.dotted HH).toArray⟩,.int .i64 p,.string ⟨#[]⟩]:=by
        unfold orgA schOf hstOf prtOf;simp
       rw [hA] at hAd;obtain ⟨⟨os',a,b⟩,hJ⟩:∃ x,joinO os (some (s.data.toList,HH,p),[])=x:=⟨_,rfl⟩
       rw [hJ] at hAd ⊢;dsimp only at hAd ⊢;have HAD:=hide hAd;obtain ⟨P,hP⟩:∃ X:ByteArray,⟨(Sx.dotted HH).toArray⟩=X:=⟨_,rfl⟩
       dsimp only at HHI;rw [hP] at HHI HAD;have HNT:=hide (fun W=>pntup s P p W hss.1 (by omega));clear hpl hHH hAd hA hP hW hs hh hw hJ;go_enter Tryz.func59,Tryz.ntmps59;go_wp2_with fail
       refine HSC.out.mono ?_;rintro e w1 ⟨rfl,rfl⟩;go_wp2_with fail
       refine HPT.out.mono ?_;rintro e w1 ⟨rfl,rfl⟩;go_wp2_with fail
       refine HHI.out.mono ?_;rintro e w2 ⟨hB,rfl⟩;have HB2:=hide hB;clear hB;go_wp2_with fail
       refine (HNT.out _).mono ?_;rintro e w3 ⟨rfl,hB⟩;have HB3:=hide (below_to HB2.out hB);clear hB;go_wp2_with fail
       refine (HAD.out _ HB3.out).mono ?_;rintro e w4 ⟨rfl,hP4⟩;have HS:=hide (PPost.back HB3.out hP4);clear hP4;go_wp2;go_ret2;exact ⟨rfl,HS.out⟩
     · rw [if_neg hh];have hpl:Sx.plainR h.data.toList=([],(Sx.host h.data.toList).2):=plain_bad hh;rw [hpl] at HHI;dsimp only at HHI ⊢;obtain ⟨er,her⟩:∃ e,(Sx.host h.data.toList).2=e:=⟨_,rfl⟩
       rw [her] at HHI hh ⊢;have k1:(er != 0)=true:=by simpa using hh
       have k2:(er == 0)=false:=by simpa using hh
       have HPS:=hide (fun W hB=>PPost.same (w':=W) hW hB);clear hpl her hh hs hW hw;go_enter Tryz.func59,Tryz.ntmps59;go_wp2_with fail
       refine HSC.out.mono ?_;rintro e w1 ⟨rfl,rfl⟩;go_wp2_with fail
       refine HPT.out.mono ?_;rintro e w1 ⟨rfl,rfl⟩;go_wp2_with fail
       refine HHI.out.mono ?_;rintro e w2 ⟨hB,rfl⟩;have HB2:=hide hB;clear hB;go_wp2;go_ret2;exact ⟨rfl,HPS.out _ HB2.out⟩
   · rw [if_neg (fun h=>hp h.2)];rw [decide_eq_false hp] at HPT;have HPS:=hide (PPost.same hW (Below.refl _ _));clear hs hp hW hw;go_enter Tryz.func59,Tryz.ntmps59;go_wp2_with fail
     refine HSC.out.mono ?_;rintro e w1 ⟨rfl,rfl⟩;go_wp2_with fail
     refine HPT.out.mono ?_;rintro e w1 ⟨rfl,rfl⟩;go_wp2;go_ret2;exact ⟨rfl,HPS.out⟩
 · rw [if_neg (fun h=>hs h.1)];rw [decide_eq_false hs] at HSC;have HPS:=hide (PPost.same hW (Below.refl _ _));clear hs hW hw;go_enter Tryz.func59,Tryz.ntmps59;go_wp2_with fail
   refine HSC.out.mono ?_;rintro e w1 ⟨rfl,rfl⟩;go_wp2;go_ret2;exact ⟨rfl,HPS.out⟩
theorem Ex.cell {E:Nat→Prop} {w w':World} (h:Ex E w w') {b k:Nat} (hb:b<w.heap.size) (hn:¬ E b):w'.cell? ⟨b,k,none⟩=w.cell? ⟨b,k,none⟩:=World.cell?_of_block (w:=w) (a:=⟨b,k,none⟩) (h.block b hb hn)
theorem pe_has {w:World} {g B z n:Nat} {v:Value} {xs:List Value} {cs:Array Value} {t1 t2:TypeId} {fr:Nat × Nat} (hb:w.heap[g]? = some (.cells cs t1 fr)) (ho:w.ownsRow B t2 z v n xs) {k:Nat} (hk:PE g v k):∃ cs t fr,w.heap[k]? = some (.cells cs t fr)∧(t=t1∨t=t2):=by
 rcases hk with rfl | hk
 · exact ⟨_,_,_,hb,.inl rfl⟩
 · obtain ⟨cs2,h2⟩:=own_ty ho hk;exact ⟨_,_,_,h2,.inr rfl⟩
theorem PwAt.has {W:World} {g:Nat} {ov:Value} {rs:List Sx.Rl} {os:List Org} (h:PwAt W g ov rs os) {k:Nat} (hk:PE g ov k):∃ cs t fr,W.heap[k]? = some (.cells cs t fr)∧(t=102∨t=144):=by
 obtain ⟨rv,h1,-,h3⟩:=h;exact pe_has h1 h3 hk
theorem DwAt.has {W:World} {g:Nat} {dv:Value} {rs:List Sx.Rl} {os:List Org} (h:DwAt W g dv rs os) {k:Nat} (hk:PE g dv k):∃ cs t fr,W.heap[k]? = some (.cells cs t fr)∧(t=229∨t=232):=by
 obtain ⟨rv,q,d,-,-,h1,-,h3,-⟩:=h;exact pe_has h1 h3 hk
theorem PwAt.peLt {W:World} {g:Nat} {ov:Value} {rs:List Sx.Rl} {os:List Org} (h:PwAt W g ov rs os) {k:Nat} (hk:PE g ov k):g≤k∧k<W.heap.size:=by
 obtain ⟨cs,t,fr,h1,-⟩:=h.has hk;refine ⟨?_,heap_lt h1⟩;obtain ⟨rv,-,-,h3⟩:=h;rcases hk with rfl | hk
 · exact Nat.le_refl _
 · have:=(h3.lt k hk).1;omega
theorem DwAt.peLt {W:World} {g:Nat} {dv:Value} {rs:List Sx.Rl} {os:List Org} (h:DwAt W g dv rs os) {k:Nat} (hk:PE g dv k):g≤k∧k<W.heap.size:=by
 obtain ⟨cs,t,fr,h1,-⟩:=h.has hk;refine ⟨?_,heap_lt h1⟩;obtain ⟨rv,q,d,-,-,-,-,h3,-⟩:=h;rcases hk with rfl | hk
 · exact Nat.le_refl _
 · have:=(h3.lt k hk).1;omega
theorem apart_pd {W:World} {g g':Nat} {ov dv:Value} {rs rs':List Sx.Rl} {os os':List Org} (h:PwAt W g ov rs os) (h':DwAt W g' dv rs' os') {k:Nat} (hk:PE g ov k):¬ PE g' dv k:=fun hk'=>by
 obtain ⟨cs,t,fr,h1,h2⟩:=h.has hk;obtain ⟨cs',t',fr',h3,h4⟩:=h'.has hk';rw [h1] at h3;simp at h3;obtain ⟨-,h5,-⟩:=h3;subst h5;rcases h2 with rfl | rfl <;> rcases h4 with h | h <;> exact absurd h (by decide)
theorem PwAt.past {W W':World} {g g':Nat} {ov dv:Value} {rs rs':List Sx.Rl} {os os':List Org} (h:PwAt W g ov rs os) (h':DwAt W g' dv rs' os') (hx:Ex (PE g' dv) W W'):PwAt W' g ov rs os:=h.ex hx (fun _ hk=>apart_pd h h' hk) h'.ety (by decide) (by decide)
theorem DwAt.past {W W':World} {g g':Nat} {ov dv:Value} {rs rs':List Sx.Rl} {os os':List Org} (h':DwAt W g' dv rs' os') (h:PwAt W g ov rs os) (hx:Ex (PE g ov) W W'):DwAt W' g' dv rs' os':=h'.ex hx (fun _ hk' hk=>apart_pd h h' hk hk') h.ety (by decide) (by decide) (by decide) (by decide)
structure PD where
 g:Nat
 ov:Value
 h:Nat
 dv:Value
 rs:List Sx.Rl
 os:List Org
structure PrOk (W:World) (p:PD):Prop where
 pw:PwAt W p.g p.ov p.rs p.os
 dw:DwAt W p.h p.dv p.rs p.os
 ok:∀ o∈p.os,OrgOk o
 few:p.os.length≤20
 rt:Sx.RlsRt p.rs
theorem PrOk.below {W W':World} {p:PD} (h:PrOk W p) (hb:Below W.heap.size W W'):PrOk W' p:=⟨h.pw.below hb,h.dw.below hb,h.ok,h.few,h.rt⟩
def PQ (p:PD) (k:Nat):Prop:=PE p.g p.ov k∨PE p.h p.dv k
def PairPost (w:World) (p:PD) (w':World):Prop:=∃ p':PD,p'.g=p.g∧p'.h=p.h∧PrOk w' p'∧Ex (PQ p) w w'∧NewB w p.ov p'.ov∧NewB w p.dv p'.dv
theorem PairPost.back {w w1 w':World} {p:PD} (hb:Below w.heap.size w w1) (h:PairPost w1 p w'):PairPost w p w':=by
 obtain ⟨p',h1,h2,h3,h4,h5,h6⟩:=h;exact ⟨p',h1,h2,h3,(ex_below hb).trans h4 (fun _ _ h=>h),fun k hk=>(h5 k hk).imp id (fun h=>Nat.le_trans hb.size h),fun k hk=>(h6 k hk).imp id (fun h=>Nat.le_trans hb.size h)⟩
theorem PairPost.same {w w':World} {p:PD} (h:PrOk w p) (hb:Below w.heap.size w w'):PairPost w p w':=⟨p,rfl,rfl,h.below hb,ex_below hb,fun _ h=>.inl h,fun _ h=>.inl h⟩
theorem PrOk.after {w w1:World} {p:PD} {os':List Org} (h:PrOk w p) (hp:PPost w p.g p.ov p.rs os' w1):DwAt w1 p.h p.dv p.rs p.os:=by
 obtain ⟨ov',-,h2,-⟩:=hp;exact h.dw.past h.pw h2
theorem pair_post {w w1 w2:World} {p:PD} {os':List Org} (h:PrOk w p) (hp:PPost w p.g p.ov p.rs os' w1) (hd:DPost w1 p.h p.dv p.rs os' w2) (hok:∀ o∈os',OrgOk o) (hl:os'.length≤20):PairPost w p w2:=by
 have hda:=h.after hp;obtain ⟨ov',p1,p2,p3⟩:=hp;obtain ⟨dv',d1,d2,d3⟩:=hd;refine ⟨⟨p.g,ov',p.h,dv',p.rs,os'⟩,rfl,rfl,⟨p1.past hda d2,d1,hok,hl,h.rt⟩,(p2.mono (fun _ h=>.inl h)).trans d2 (fun _ _ h=>.inr h),p3,fun k hk=>(d3 k hk).imp id (fun h=>Nat.le_trans p2.base.size h)⟩
theorem tupO_few {os:List Org} (s h:List UInt8) (p:Int) (hl:os.length≤20):(tupO os s h p).1.length≤20:=by
 unfold tupO joinO;split
 · split
   · split
     · exact hl
     · rw [List.length_append,List.length_singleton];omega
   · exact hl
 · exact hl
theorem opqO_few {os:List Org} (hl:os.length≤20):(opqO os).1.length≤20:=by
 unfold opqO joinO;split
 · exact hl
 · rw [List.length_append,List.length_singleton];omega
theorem domO_few {rs:List Sx.Rl} {os:List Org} (n:Int) (v:List UInt8) (hl:os.length≤20):(domO rs os n v).1.length≤20:=by
 unfold domO;split
 · split
   · exact hl
   · split
     · split
       · rw [List.length_set];exact hl
       · exact hl
     · exact hl
 · exact hl
theorem op_box2 (w W0:World) (x y a0 a1 a2 a3 a4 a5 a6 a7:Value) (hW:(w.alloc (.cells #[x,y] 114)).alloc (.cells #[a0,a1,a2,a3,a4,a5,a6,a7] 78)=W0):Below w.heap.size w W0∧W0.heap.size=w.heap.size+2∧∀ W:World,(∀ b,w.heap.size≤b→b<w.heap.size+2→W.heap[b]? = W0.heap[b]?)→W.cell? ⟨w.heap.size,0,none⟩=some x∧W.cell? ⟨w.heap.size,1,none⟩=some y∧W.cell? ⟨w.heap.size+1,0,none⟩=some a0∧W.cell? ⟨w.heap.size+1,1,none⟩=some a1∧W.cell? ⟨w.heap.size+1,2,none⟩=some a2∧W.cell? ⟨w.heap.size+1,3,none⟩=some a3∧W.cell? ⟨w.heap.size+1,4,none⟩=some a4∧W.cell? ⟨w.heap.size+1,5,none⟩=some a5∧W.cell? ⟨w.heap.size+1,6,none⟩=some a6∧W.cell? ⟨w.heap.size+1,7,none⟩=some a7:=by
 have hs1:(w.alloc (.cells #[x,y] 114)).heap.size=w.heap.size+1:=by rw [World.size_alloc]
 have h1:W0.heap[w.heap.size+1]? = some (.cells #[a0,a1,a2,a3,a4,a5,a6,a7] 78 (0,0)):=by rw [←hW,←hs1];exact heap_alloc_new _ _
 have h0:W0.heap[w.heap.size]? = some (.cells #[x,y] 114 (0,0)):=by
  rw [←hW,Below.heap_alloc _ _ _ (by omega)];exact heap_alloc_new _ _
 refine ⟨by rw [←hW];exact ((Below.refl _ _).alloc (Nat.le_refl _) _).alloc (by simp) _,by rw [←hW,World.size_alloc,hs1],fun W h=>?_⟩;have g0:=(h _ (Nat.le_refl _) (by omega)).trans h0;have g1:=(h (w.heap.size+1) (by omega) (by omega)).trans h1;simp [World.cell?,g0,g1]
theorem law_tuple (p:PD) (n1 n2 n3:Int) (s t:ByteArray) (la:Option Addr) (ln lc:Nat) (md:Bool) (w:World) (hw:LWt w) (hp:PrOk w p):Calls Tryz.prog 69 #[.agg #[.pointer (some ⟨p.g,0,none⟩),.pointer (some ⟨p.h,0,none⟩)],.agg #[.int .i64 7,.int .i64 n1,.int .i64 n2,.int .i64 n3,.string s,.string t,.slice la ln lc,.bool md]] w fun e w'=>e=.returned (.bool true)∧PairPost w p w':=by
 obtain ⟨W0,hW0⟩:∃ W0,(w.alloc (.cells #[.pointer (some ⟨p.g,0,none⟩),.pointer (some ⟨p.h,0,none⟩)] 114)).alloc (.cells #[.int .i64 7,.int .i64 n1,.int .i64 n2,.int .i64 n3,.string s,.string t,.slice la ln lc,.bool md] 78)=W0:=⟨_,rfl⟩
 obtain ⟨hB0,hz0,hbx⟩:=op_box2 _ _ _ _ _ _ _ _ _ _ _ _ hW0;have hp0:=hp.below hB0;have HPT:=hide (pTupleX p.g s t n2 p.ov p.rs p.os W0 (lwt_stays _ _ hw hB0) hp0.pw hp0.few);have HDT:=hide (fun W hd=>rTuple p.h s t n2 p.dv p.rs p.os W hd hp0.few);have hok:=tupO_ok s.data.toList t.data.toList n2 hp0.ok;have hfw:=tupO_few s.data.toList t.data.toList n2 hp0.few;have hkp:∀ W os',PPost W0 p.g p.ov p.rs os' W→∀ b,w.heap.size≤b→b<w.heap.size+2→W.heap[b]? = W0.heap[b]?:=fun W os' hP b h1 h2=>by
  obtain ⟨ov',-,hx,-⟩:=hP;exact hx.block b (by omega) (fun e=>by have:=(hp.pw.peLt e).2;omega)
 obtain ⟨⟨os',a,b⟩,hT⟩:∃ x,tupO p.os s.data.toList t.data.toList n2=x:=⟨_,rfl⟩
 rw [hT] at HPT hok hfw;simp only [hT] at HDT;dsimp only at HPT HDT hok hfw;have HAF:=hide (fun W (h:PPost W0 p.g p.ov p.rs os' W)=>hp0.after h);have HPP:=hide (fun W1 W2 (h:PPost W0 p.g p.ov p.rs os' W1) h2=>(pair_post (w2:=W2) hp0 h h2 hok hfw).back hB0);have HBX:=hide (fun W (h:PPost W0 p.g p.ov p.rs os' W)=>hbx W (hkp W os' h));obtain ⟨c0,c1,d0,d1,d2,d3,d4,d5,d6,d7⟩:=hbx W0 (fun _ _ _=>rfl);have aa:(a == a)=true:=by simp
 have bb:(b == b)=true:=by simp
 have HW0:=hide hW0;obtain ⟨g,ov,h,dv,rs,os⟩:=p;dsimp only at *;clear hp hp0 hw hok hfw hkp hT hbx hB0 hW0;go_enter Tryz.func69,Tryz.ntmps69;go_upto_region 1 with fail
 rw [HW0.out];go_wp2_with fail
 refine HPT.out.mono ?_;rintro e w1 ⟨rfl,hP1⟩;obtain ⟨c0,c1,d0,d1,d2,d3,d4,d5,d6,d7⟩:=HBX.out _ hP1;have HD:=hide (HDT.out _ (HAF.out _ hP1));have HP1:=hide hP1;clear hP1 HDT HAF HPT;go_wp2_with fail
 refine HD.out.mono ?_;rintro e w2 ⟨rfl,hD2⟩;have HF:=hide (HPP.out _ _ HP1.out hD2);clear hD2 HPP;go_wp2_with (go_at_call 99;go_must (refine (num_any _ _).mono ?_;rintro e w' ⟨rfl,rfl⟩))
 go_ret;exact ⟨rfl,HF.out⟩
theorem PwAt.exK {W W':World} {g:Nat} {ov:Value} {rs:List Sx.Rl} {os:List Org} {E:Nat→Prop} (h:PwAt W g ov rs os) (hx:Ex E W W') (hn:∀ k,PE g ov k→¬ E k) (hr:∀ k cs fr,W.heap[k]? = some (.cells cs 98 fr)→¬ E k):PwAt W' g ov rs os:=by
 obtain ⟨rv,a1,a2,a3⟩:=h;refine ⟨rv,(hx.block g (heap_lt a1) (hn g (.inl rfl))).trans a1,hx.own a2 (fun k hk=>?_),hx.own a3 (fun k hk=>hn k (.inr hk))⟩;obtain ⟨cs,hc⟩:=own_ty a2 hk;exact hr k _ _ hc
theorem DwAt.exK {W W':World} {g:Nat} {dv:Value} {rs:List Sx.Rl} {os:List Org} {E:Nat→Prop} (h:DwAt W g dv rs os) (hx:Ex E W W') (hn:∀ k,PE g dv k→¬ E k) (hr:∀ k cs fr,W.heap[k]? = some (.cells cs 222 fr)→¬ E k) (hs:∀ k cs fr,W.heap[k]? = some (.cells cs 9 fr)→¬ E k):DwAt W' g dv rs os:=by
 obtain ⟨rv,q,d,a1,a2,a3,a4,a5,a6⟩:=h;have hst:∀ B v n xs,W.ownsRow B 9 1 v n xs→W'.ownsRow B 9 1 v n xs:=fun B v n xs ho=>hx.own ho (fun k hk=>by
  obtain ⟨cs,hc⟩:=own_ty ho hk;exact hs k _ _ hc)
 refine ⟨rv,q,d,a1,a2,(hx.block g (heap_lt a3) (hn g (.inl rfl))).trans a3,⟨hx.own a4.row (fun k hk=>?_),fun x hx'=>hst _ _ _ _ (a4.hosts x hx')⟩,hx.own a5 (fun k hk=>hn k (.inr hk)),fun x hx'=>(a6 x hx').own (fun _ _ _ ho=>hst _ _ _ _ ho)⟩;obtain ⟨cs,hc⟩:=own_ty a4.row hk;exact hr k _ _ hc
def T4 (t:TypeId):Prop:=t=102∨t=144∨t=229∨t=232
theorem PrOk.has {W:World} {p:PD} (h:PrOk W p) {k:Nat} (hk:PQ p k):∃ cs t fr,W.heap[k]? = some (.cells cs t fr)∧T4 t:=by
 rcases hk with hk | hk
 · obtain ⟨cs,t,fr,h1,h2⟩:=h.pw.has hk;exact ⟨cs,t,fr,h1,h2.elim .inl (fun h=>.inr (.inl h))⟩
 · obtain ⟨cs,t,fr,h1,h2⟩:=h.dw.has hk;exact ⟨cs,t,fr,h1,.inr (.inr h2)⟩
theorem PrOk.not {W:World} {p:PD} (h:PrOk W p) {k:Nat} {cs:Array Value} {t:TypeId} {fr:Nat × Nat} (hc:W.heap[k]? = some (.cells cs t fr)) (ht:¬ T4 t):¬ PQ p k:=fun hk=>by
 obtain ⟨cs',t',fr',h1,h2⟩:=h.has hk;rw [hc] at h1;simp at h1;exact ht (h1.2.1 ▸ h2)
theorem PrOk.lt {W:World} {p:PD} (h:PrOk W p) {k:Nat} (hk:PQ p k):k<W.heap.size:=by
 obtain ⟨cs,t,fr,h1,-⟩:=h.has hk;exact heap_lt h1
theorem PrOk.ge {W:World} {p:PD} (h:PrOk W p) {n:Nat} (h1:n≤p.g) (h2:n≤p.h) {k:Nat} (hk:PQ p k):n≤k:=by
 rcases hk with hk | hk
 · have:=(h.pw.peLt hk).1;omega
 · have:=(h.dw.peLt hk).1;omega
def pqC (L:List PD):List Value:=L.flatMap fun p=>[.pointer (some ⟨p.g,0,none⟩),.pointer (some ⟨p.h,0,none⟩)]
theorem pqC_app (a b:List PD):pqC (a ++ b)=pqC a ++ pqC b:=by simp [pqC]
theorem pqC_get:∀ (l:List PD) (j:Nat) (h:j<l.length),(pqC l)[j*2]? = some (.pointer (some ⟨l[j].g,0,none⟩))∧(pqC l)[j*2+1]? = some (.pointer (some ⟨l[j].h,0,none⟩)):=by
 intro l
 induction l with
 | nil=>intro j h;exact absurd h (Nat.not_lt_zero _)
 | cons x r ih =>
   intro j h;have e:pqC (x :: r)=.pointer (some ⟨x.g,0,none⟩) :: .pointer (some ⟨x.h,0,none⟩) :: pqC r:=rfl;cases j with
   | zero=>rw [e];exact ⟨rfl,rfl⟩
   | succ j =>
     have:=ih j (by simpa using h);rw [e,show (j+1)*2=j*2+2 by omega];exact this
theorem pqC_set:∀ (l:List PD) (n:Nat) (h:n<l.length) (p:PD),p.g=l[n].g→p.h=l[n].h→pqC (l.set n p)=pqC l
 | x :: r,0,_,p,h1,h2=>by
   have e:∀ y,pqC (y :: r)=[.pointer (some ⟨y.g,0,none⟩),.pointer (some ⟨y.h,0,none⟩)] ++ pqC r:=fun _=>rfl;rw [List.set_cons_zero,e,e];rw [List.getElem_cons_zero] at h1 h2;rw [h1,h2]
 | x :: r,n+1,h,p,h1,h2=>by
   have ih:=pqC_set r n (by simpa using h) p (by simpa using h1) (by simpa using h2);have e:∀ y l,pqC (y :: l)=[.pointer (some ⟨y.g,0,none⟩),.pointer (some ⟨y.h,0,none⟩)] ++ pqC l:=fun _ _=>rfl;rw [List.set_cons_succ,e,e,ih]
structure LvAt (w0 W:World) (z:Nat) (L:List PD):Prop where
 low:Below w0.heap.size w0 W
 zlt:w0.heap.size≤z
 box:∃ av,W.heap[z]? = some (.cells #[av] 76 (0,0))∧W.ownsRow (z+1) 114 2 av L.length (pqC L)
 each:∀ j (hj:j<L.length),PrOk W L[j]∧w0.heap.size≤L[j].g∧w0.heap.size≤L[j].h
 apart:∀ i j (hi:i<L.length) (hj:j<L.length),i≠j→∀ k,PQ L[i] k→¬ PQ L[j] k
theorem LvAt.below {w0 W W':World} {z:Nat} {L:List PD} (h:LvAt w0 W z L) (hb:Below W.heap.size W W'):LvAt w0 W' z L:=by
 refine ⟨h.low.trans (hb.mono h.low.size),h.zlt,?_,fun j hj=>⟨(h.each j hj).1.below hb,(h.each j hj).2⟩,h.apart⟩;obtain ⟨av,h1,h2⟩:=h.box;exact ⟨av,(hb.block z (heap_lt h1)).trans h1,own_later h2 hb⟩
theorem LvAt.step {w0 W W':World} {z i:Nat} {L:List PD} (h:LvAt w0 W z L) (hi:i<L.length) (hp:PairPost W L[i] W'):∃ L',L'.length=L.length∧LvAt w0 W' z L':=by
 obtain ⟨p',e1,e2,hok,hx,n1,n2⟩:=hp;obtain ⟨oki,gi,hhi⟩:=h.each i hi;have hpq:∀ j (hj:j<(L.set i p').length) k,PQ (L.set i p')[j] k→PQ (L[j]'(by simpa using hj)) k∨(W.heap.size≤k∧j=i):=fun j hj k hk=>by
  rw [List.getElem_set] at hk;by_cases hij:i=j
  · subst hij;rw [if_pos rfl] at hk;rcases hk with hk | hk
    · rcases hk with hk | hk
      · exact .inl (.inl (.inl (hk.trans e1)))
      · exact (n1 k hk).imp (fun h=>.inl (.inr h)) (fun h=>⟨h,rfl⟩)
    · rcases hk with hk | hk
      · exact .inl (.inr (.inl (hk.trans e2)))
      · exact (n2 k hk).imp (fun h=>.inr (.inr h)) (fun h=>⟨h,rfl⟩)
  · rw [if_neg hij] at hk;exact .inl hk
 refine ⟨L.set i p',List.length_set,h.low.trans (hx.below h.low.size (fun k hk=>oki.ge gi hhi hk)),h.zlt,?_,fun j hj=>?_,fun a b ha hb hab k hka hkb=>?_⟩
 · obtain ⟨av,h1,h2⟩:=h.box;refine ⟨av,(hx.block z (heap_lt h1) (oki.not h1 (by unfold T4;decide))).trans h1,?_⟩;rw [List.length_set,pqC_set L i hi p' e1 e2];exact hx.own h2 (fun k hk=>by
    obtain ⟨cs,hc⟩:=own_ty h2 hk;exact oki.not hc (by unfold T4;decide))
 · have hj':j<L.length:=by simpa using hj
   by_cases hij:i=j
   · subst hij;simp only [List.getElem_set_self];exact ⟨hok,by rw [e1];exact gi,by rw [e2];exact hhi⟩
   · simp only [List.getElem_set_ne hij];obtain ⟨okj,gj,hhj⟩:=h.each j hj';have hno:∀ k,PQ L[j] k→¬ PQ L[i] k:=fun k hk=>h.apart j i hj' hi (fun e=>hij e.symm) k hk;exact ⟨⟨okj.pw.exK hx (fun k hk=>hno k (.inl hk)) (fun k cs fr hc=>oki.not hc (by unfold T4;decide)),okj.dw.exK hx (fun k hk=>hno k (.inr hk)) (fun k cs fr hc=>oki.not hc (by unfold T4;decide)) (fun k cs fr hc=>oki.not hc (by unfold T4;decide)),okj.ok,okj.few,okj.rt⟩,gj,hhj⟩
 · have ha':a<L.length:=by simpa using ha
   have hb':b<L.length:=by simpa using hb
   rcases hpq a ha k hka with h1 | ⟨h1,rfl⟩
   · rcases hpq b hb k hkb with h2 | ⟨h2,rfl⟩
     · exact h.apart a b ha' hb' hab k h1 h2
     · have:=(h.each a ha').1.lt h1;omega
   · rcases hpq b hb k hkb with h2 | ⟨h2,h3⟩
     · have:=(h.each b hb').1.lt h2;omega
     · exact hab h3.symm
theorem LvAt.more {w0 W W':World} {z:Nat} {L:List PD} {p:PD} (h:LvAt w0 W z L) (hx:Ex (fun k=>k=z∨∃ cs,W.heap[k]? = some (.cells cs 114 (0,0))∧z≤k) W W') (hb:∃ av,W'.heap[z]? = some (.cells #[av] 76 (0,0))∧W'.ownsRow (z+1) 114 2 av (L.length+1) (pqC (L ++ [p]))) (hp:PrOk W' p) (hg:w0.heap.size≤p.g) (hh:w0.heap.size≤p.h) (hnew:∀ j (hj:j<L.length) k,PQ p k→¬ PQ L[j] k):LvAt w0 W' z (L ++ [p]):=by
 obtain ⟨av0,hz0,hr0⟩:=h.box;have hty:∀ k cs t fr,W.heap[k]? = some (.cells cs t fr)→t≠76→t≠114→¬ (k=z∨∃ cs,W.heap[k]? = some (.cells cs 114 (0,0))∧z≤k):=fun k cs t fr hc h1 h2 hk=>by
  rcases hk with rfl | ⟨cs',hc',-⟩
  · rw [hz0] at hc;simp at hc;exact h1 hc.2.1.symm
  · rw [hc'] at hc;simp at hc;exact h2 hc.2.1.symm
 have h4:∀ t,T4 t→t≠76∧t≠114:=fun t ht=>by
  unfold T4 at ht;rcases ht with rfl | rfl | rfl | rfl <;> decide
 refine ⟨h.low.trans (hx.below h.low.size (fun k hk=>by have:=h.zlt;rcases hk with rfl | ⟨_,_,hk⟩ <;> omega)),h.zlt,?_,fun j hj=>?_,fun i j hi hj hij k hki hkj=>?_⟩
 · rw [List.length_append,List.length_singleton];exact hb
 · rw [List.getElem_append];split
   · rename_i hj';obtain ⟨okj,gj,hhj⟩:=h.each j hj';have hno:∀ k,PQ L[j] k→¬ (k=z∨∃ cs,W.heap[k]? = some (.cells cs 114 (0,0))∧z≤k):=fun k hk=>by
      obtain ⟨cs,t,fr,hc,ht⟩:=okj.has hk;exact hty k cs t fr hc (h4 t ht).1 (h4 t ht).2
     exact ⟨⟨okj.pw.exK hx (fun k hk=>hno k (.inl hk)) (fun k cs fr hc=>hty k cs _ fr hc (by decide) (by decide)),okj.dw.exK hx (fun k hk=>hno k (.inr hk)) (fun k cs fr hc=>hty k cs _ fr hc (by decide) (by decide)) (fun k cs fr hc=>hty k cs _ fr hc (by decide) (by decide)),okj.ok,okj.few,okj.rt⟩,gj,hhj⟩
   · simp only [List.getElem_singleton];exact ⟨hp,hg,hh⟩
 · rw [List.length_append,List.length_singleton] at hi hj;rw [List.getElem_append] at hki hkj;split at hki
   · rename_i hi';split at hkj
     · rename_i hj';exact h.apart i j hi' hj' hij k hki hkj
     · simp only [List.getElem_singleton] at hkj;exact hnew i hi' k hkj hki
   · split at hkj
     · rename_i hj';simp only [List.getElem_singleton] at hki;exact hnew j hj' k hki hkj
     · omega
theorem RdS.below {W W':World} {v:Value} {L:List (List UInt8)} (h:RdS W v L) (hb:Below W.heap.size W W'):RdS W' v L:=by
 obtain ⟨p,cap,h1,h2⟩:=h;refine ⟨p,cap,h1,fun j hj=>?_⟩;obtain ⟨b,off,e1,e2,e3⟩:=h2 j hj;exact ⟨b,off,e1,Nat.lt_of_lt_of_le e2 hb.size,(hb.cell (p:=⟨b,off+j,none⟩) e2).trans e3⟩
theorem ba_back (i:ByteArray):(⟨i.data.toList.toArray⟩:ByteArray)=i:=by simp
theorem op_box (w W0:World) (a0 a1 a2 a3 a4 a5 a6 a7:Value) (hW:w.alloc (.cells #[a0,a1,a2,a3,a4,a5,a6,a7] 78)=W0):W0.heap.size=w.heap.size+1∧Below w.heap.size w W0∧∀ W,Below W0.heap.size W0 W→Below w.heap.size w W∧W.cell? ⟨w.heap.size,0,none⟩=some a0∧W.cell? ⟨w.heap.size,1,none⟩=some a1∧W.cell? ⟨w.heap.size,2,none⟩=some a2∧W.cell? ⟨w.heap.size,3,none⟩=some a3∧W.cell? ⟨w.heap.size,4,none⟩=some a4∧W.cell? ⟨w.heap.size,5,none⟩=some a5∧W.cell? ⟨w.heap.size,6,none⟩=some a6∧W.cell? ⟨w.heap.size,7,none⟩=some a7:=by
 have hs:W0.heap.size=w.heap.size+1:=by rw [←hW,World.size_alloc]
 have hB:Below w.heap.size w W0:=by rw [←hW];exact (Below.refl _ _).alloc (Nat.le_refl _) _
 have hb:W0.heap[w.heap.size]? = some (.cells #[a0,a1,a2,a3,a4,a5,a6,a7] 78 (0,0)):=by rw [←hW];exact heap_alloc_new _ _
 refine ⟨hs,hB,fun W h=>?_⟩;have h1:=(h.block w.heap.size (by omega)).trans hb;refine ⟨hB.trans (h.mono (by omega)),?_⟩;simp [World.cell?,h1]
theorem law_image (L:List (List UInt8)) (a0 a1 a2 a3 a5:Value) (s:ByteArray) (md:Bool) (la:Option Addr) (lc:Nat) (w:World) (hrd:RdS w (.slice la L.length lc) L) (hL:L.length≤1048576) (hsl:Sx.sl L≤1048576):Calls Tryz.prog 68 #[.agg #[a0,a1,a2,a3,.string s,a5,.slice la L.length lc,.bool md]] w fun e w'=>∃ I:ByteArray,e=.returned (.string I)∧Below w.heap.size w w':=by
 obtain ⟨W0,hW0⟩:∃ W0,w.alloc (.cells #[a0,a1,a2,a3,.string s,a5,.slice la L.length lc,.bool md] 78)=W0:=⟨_,rfl⟩
 obtain ⟨-,hB0,hbx⟩:=op_box w W0 _ _ _ _ _ _ _ _ hW0;obtain ⟨-,c0,c1,c2,c3,c4,c5,c6,c7⟩:=hbx W0 (Below.refl _ _);have HCO:=hide (rcomp L _ W0 (RdS.below hrd hB0) (by omega) (by omega));have HB0:=hide hB0;have HW0:=hide hW0;clear hrd hbx hB0 hW0;obtain ⟨X,hX⟩:∃ X:ByteArray,⟨(Sx.compR L).1.toArray⟩=X:=⟨_,rfl⟩
 obtain ⟨x1,hx1⟩:∃ x,(Sx.compR L).2.1=x:=⟨_,rfl⟩
 obtain ⟨x2,hx2⟩:∃ x,(Sx.compR L).2.2=x:=⟨_,rfl⟩
 rw [hX,hx1,hx2] at HCO;clear hX hx1 hx2;cases md with
 | true =>
   go_enter Tryz.func68,Tryz.ntmps68;go_upto_region 1 with fail
   rw [HW0.out];go_wp2_with fail
   refine HCO.out.mono ?_;rintro e w1 ⟨rfl,hB1⟩;have HB1:=hide (HB0.out.trans (hB1.mono HB0.out.size));clear hB1;go_wp2;go_ret;exact ⟨_,rfl,HB1.out⟩
 | false =>
   go_enter Tryz.func68,Tryz.ntmps68;go_upto_region 1 with fail
   rw [HW0.out];go_wp2;go_ret;exact ⟨_,rfl,HB0.out⟩
theorem psameD (g a b:Nat) (rs:List Sx.Rl) (os:List Org) (w:World) (hr:RdW w g rs os) (ha:a<os.length) (hb:b<os.length) (hok:∀ o∈os,OrgOk o):Calls Tryz.prog 96 #[.pointer (some ⟨g,0,none⟩),.int .i64 a,.int .i64 b] w fun e w'=>e=.returned (.bool (relB a b os[a] os[b]))∧Below w.heap.size w w':=by
 have hr0:=hr;obtain ⟨rv,p,cap,h1,h2,h3,h4,h5⟩:=hr0;obtain ⟨rb,rfl,hrb,o1⟩:=h5 a ha;obtain ⟨rb',hrb',-,o2⟩:=h5 b hb;obtain rfl:rb=rb':=by injection hrb' with h;injection h
 have hxo:=hok os[a] (List.getElem_mem ha);have hyo:=hok os[b] (List.getElem_mem hb);have HSA:=hide (fun W (h:Below w.heap.size w W)=>psame g a b rs os W (hr.below h) ha hb hok);obtain ⟨x,hx⟩:∃ x,os[a]=x:=⟨_,rfl⟩
 obtain ⟨y,hy⟩:∃ x,os[b]=x:=⟨_,rfl⟩
 simp only [hx,hy] at HSA;rw [hx] at o1 ⊢;rw [hy] at o2 ⊢;unfold O4 at o1 o2;have hrel:¬ (x.2=[]∧y.2=[])→relB a b x y=(decide (schOf x=schOf y) && decide (x.2=y.2)):=fun h=>by
  unfold relB;rw [if_neg h]
 have hrt:x.2=[]∧y.2=[]→relB a b x y=relA a b x y:=fun h=>by unfold relB;rw [if_pos h]
 obtain ⟨S1,hS1⟩:∃ X:ByteArray,⟨(schOf x).toArray⟩=X:=⟨_,rfl⟩
 obtain ⟨H1,hH1⟩:∃ X:ByteArray,⟨(hstOf x).toArray⟩=X:=⟨_,rfl⟩
 obtain ⟨D1,hD1⟩:∃ X:ByteArray,⟨x.2.toArray⟩=X:=⟨_,rfl⟩
 obtain ⟨S2,hS2⟩:∃ X:ByteArray,⟨(schOf y).toArray⟩=X:=⟨_,rfl⟩
 obtain ⟨H2,hH2⟩:∃ X:ByteArray,⟨(hstOf y).toArray⟩=X:=⟨_,rfl⟩
 obtain ⟨D2,hD2⟩:∃ X:ByteArray,⟨y.2.toArray⟩=X:=⟨_,rfl⟩
 have e1:(x.2=[]↔D1.toList=[]):=by rw [←hD1,ByteArray.toList_eq]
 have e2:(y.2=[]↔D2.toList=[]):=by rw [←hD2,ByteArray.toList_eq]
 have e3:decide (schOf x=schOf y)=decide (S1.toList=S2.toList):=by rw [←hS1,←hS2];simp only [ByteArray.toList_eq]
 have e4:decide (x.2=y.2)=decide (D1.toList=D2.toList):=by rw [←hD1,←hD2];simp only [ByteArray.toList_eq]
 rw [e1,e2] at hrt hrel;rw [e3,e4] at hrel;rw [hS1,hH1,hD1] at o1;rw [hS2,hH2,hD2] at o2;obtain ⟨P1,hP1⟩:∃ n,prtOf x=n:=⟨_,rfl⟩
 obtain ⟨P2,hP2⟩:∃ n,prtOf y=n:=⟨_,rfl⟩
 rw [hP1] at o1;rw [hP2] at o2;obtain ⟨c1,c2,c3,c4⟩:=o1;obtain ⟨d1,d2,d3,d4⟩:=o2;obtain ⟨R,hR⟩:∃ R,relB a b x y=R:=⟨_,rfl⟩
 rw [hR] at hrel hrt ⊢;obtain ⟨RA,hRA⟩:∃ R,relA a b x y=R:=⟨_,rfl⟩
 rw [hRA] at hrt HSA;have HREL:=hide hrel;have HRT:=hide hrt;clear hrel hrt hS1 hH1 hD1 hS2 hH2 hD2 e1 e2 e3 e4 hP1 hP2 hx hy hR hRA h4 h5 hrb' hok hxo hyo h2 hr;go_enter Tryz.func96,Tryz.ntmps96;go_upto_region 1 with fail
 go_cut [7,8] (fun f s wc=>∃ b1 b2,f=.pointer (some ⟨b1,0,none⟩)∧s=.pointer (some ⟨b2,0,none⟩)∧b1<wc.heap.size∧b2<wc.heap.size∧C4 wc b1 S1 H1 P1 D1∧C4 wc b2 S2 H2 P2 D2∧Below w.heap.size w wc)
 case first =>
  go_region
  all_goals (
   go_wp2_with fail
   go_meet;first
    | (obtain ⟨q1,q2,q3,q4,q5⟩:=c4_two w S1 H1 D1 S2 H2 D2 P1 P2 _ rfl
       exact ⟨_,_,rfl,rfl,q1,q2,q3,q4,q5⟩)
    | (obtain ⟨q1,q2,q3,q4,q5⟩:=c4_two w S2 H2 D2 S1 H1 D1 P2 P1 _ rfl
       exact ⟨_,_,rfl,rfl,q2,q1,q4,q3,q5⟩))
 case rest =>
  obtain ⟨b1,b2,rfl,rfl,hb1,hb2,q1,q2,hBc⟩:=hcut;have HBC:=hide hBc;have HX:Hid (∀ W,Below wc.heap.size wc W→C4 W b1 S1 H1 P1 D1∧C4 W b2 S2 H2 P2 D2):=hide (fun W h=>⟨q1.below h hb1,q2.below h hb2⟩);have hS0:=HX.out wc (Below.refl _ _);unfold C4 at hS0 HX;clear q1 q2 hBc c1 c2 c3 c4 d1 d2 d3 d4 h3;obtain ⟨⟨c1,c2,c3,c4⟩,d1,d2,d3,d4⟩:=hS0;by_cases hdd:D1.toList=[]∧D2.toList=[]
  · have HRE:=hide (HRT.out hdd);obtain ⟨h6,h7⟩:=hdd;have k1:D1.toList.isEmpty=true:=by rw [h6];rfl
    have k2:D2.toList.isEmpty=true:=by rw [h7];rfl
    go_wp2_with fail
    refine (HSA.out _ HBC.out).mono ?_;rintro e y1 ⟨rfl,hB1⟩;have HBE:=hide (below_to HBC.out hB1);clear hB1;go_wp2;go_ret;exact ⟨by rw [HRE.out];rfl,HBE.out⟩
  · have HRE:=hide (HREL.out hdd);by_cases h6:D1.toList=[]
    · have h7:¬ D2.toList=[]:=fun h=>hdd ⟨h6,h⟩;have k1:D1.toList.isEmpty=true:=by rw [h6];rfl
      have k2:D2.toList.isEmpty=false:=by simpa using h7
      clear hdd;go_wp2;all_goals (
       go_ret;refine ⟨?_,HBC.out⟩;rw [HRE.out];simp_all <;> (rw [Bool.eq_iff_iff];simp))
    · have k1:D1.toList.isEmpty=false:=by simpa using h6
      clear hdd;go_wp2;all_goals (
       go_ret;refine ⟨?_,HBC.out⟩;rw [HRE.out];simp_all <;> (rw [Bool.eq_iff_iff];simp))
theorem pone (g a b:Nat) (rs:List Sx.Rl) (os:List Org) (w:World) (hr:RdW w g rs os) (ha:a<os.length) (hb:b<os.length) (hok:∀ o∈os,OrgOk o) (hrt:Sx.RlsRt rs):Calls Tryz.prog 97 #[.pointer (some ⟨g,0,none⟩),.int .i64 a,.int .i64 b] w fun e w'=>e=.returned (.bool (relC rs a b os[a] os[b]))∧Below w.heap.size w w':=by
 have hr0:=hr;obtain ⟨rv,p,cap,h1,h2,h3,h4,h5⟩:=hr0;obtain ⟨rb,rfl,hrb,o1⟩:=h5 a ha;have hxo:=hok os[a] (List.getElem_mem ha);have HOP:=hide (fun W=>popqO os[a] W hxo);have HSA:=hide (fun W (h:Below w.heap.size w W)=>psite g a rs os W (hr.below h) ha hok hrt);have HSB:=hide (fun W (h:Below w.heap.size w W)=>psite g b rs os W (hr.below h) hb hok hrt);obtain ⟨x,hx⟩:∃ x,os[a]=x:=⟨_,rfl⟩
 obtain ⟨y,hy⟩:∃ x,os[b]=x:=⟨_,rfl⟩
 rw [hx] at o1 HOP HSA ⊢;rw [hy] at HSB ⊢;have hrel:¬ a=b→relC rs a b x y=(!decide (x.1=none) && decide (siteP rs x=siteP rs y)):=fun h=>by
  unfold relC;rw [decide_eq_false h,Bool.false_or];congr 1;simp
 have hrtt:a=b→relC rs a b x y=true:=fun h=>by unfold relC;rw [decide_eq_true h];rfl
 unfold O4 at o1;unfold orgA at HOP;obtain ⟨S1,hS1⟩:∃ X:ByteArray,⟨(schOf x).toArray⟩=X:=⟨_,rfl⟩
 obtain ⟨H1,hH1⟩:∃ X:ByteArray,⟨(hstOf x).toArray⟩=X:=⟨_,rfl⟩
 obtain ⟨D1,hD1⟩:∃ X:ByteArray,⟨x.2.toArray⟩=X:=⟨_,rfl⟩
 obtain ⟨TA,hTA⟩:∃ X:ByteArray,⟨(siteP rs x).toArray⟩=X:=⟨_,rfl⟩
 obtain ⟨TB,hTB⟩:∃ X:ByteArray,⟨(siteP rs y).toArray⟩=X:=⟨_,rfl⟩
 have e3:decide (siteP rs x=siteP rs y)=(TA.toList == TB.toList):=by rw [ba_eq,←hTA,←hTB]
 rw [e3] at hrel;rw [hTA] at HSA;rw [hTB] at HSB;rw [hS1,hH1,hD1] at o1 HOP;obtain ⟨P1,hP1⟩:∃ n,prtOf x=n:=⟨_,rfl⟩
 rw [hP1] at o1 HOP;obtain ⟨c1,c2,c3,c4⟩:=o1;obtain ⟨R,hR⟩:∃ R,relC rs a b x y=R:=⟨_,rfl⟩
 rw [hR] at hrel hrtt ⊢;obtain ⟨OP,hOP⟩:∃ R,decide (x.1=none)=R:=⟨_,rfl⟩
 rw [hOP] at hrel HOP;have HREL:=hide hrel;have HRT:=hide hrtt;clear hrel hrtt hS1 hH1 hD1 hTA hTB e3 hP1 hx hy hR hOP h4 h5 hok hxo h2 hr hrt;by_cases hab:a=b
 · have hRt:=HRT.out hab;have k1:((a:Int) == b)=true:=by simp;omega
   go_enter Tryz.func97,Tryz.ntmps97;go_wp2;go_ret;exact ⟨by rw [hRt];rfl,Below.refl _ _⟩
 · have HRE:=hide (HREL.out hab);have k1:((a:Int) == b)=false:=by simp;omega
   go_enter Tryz.func97,Tryz.ntmps97;go_wp2_with fail
   refine (HOP.out _).mono ?_;rintro e y1 ⟨rfl,hB1⟩;have HB1:=hide hB1;clear hB1;cases OP with
   | true =>
     go_wp2;go_ret;exact ⟨by rw [HRE.out];rfl,HB1.out⟩
   | false =>
     go_wp2_with fail
     refine (HSA.out _ HB1.out).mono ?_;rintro e y2 ⟨rfl,hB2⟩;have HB2:=hide (below_to HB1.out hB2);clear hB2;go_wp2_with fail
     refine (HSB.out _ HB2.out).mono ?_;rintro e y3 ⟨rfl,hB3⟩;have HB3:=hide (below_to HB2.out hB3);clear hB3;go_wp2;go_ret;exact ⟨by rw [HRE.out];rfl,HB3.out⟩
def B3 (W:World) (b:Nat) (x y z:Bool):Prop:=b<W.heap.size∧(W.cell? ⟨b,0,none⟩=some (.bool x)∧W.cell? ⟨b,1,none⟩=some (.bool y)∧W.cell? ⟨b,2,none⟩=some (.bool z))∧W.frozen? ⟨b,0,none⟩=false∧W.frozen? ⟨b,1,none⟩=false∧W.frozen? ⟨b,2,none⟩=false
theorem B3.below {W W':World} {b:Nat} {x y z:Bool} (h:B3 W b x y z) (hb:Below W.heap.size W W'):B3 W' b x y z:=by
 obtain ⟨h0,⟨h1,h2,h3⟩,h4,h5,h6⟩:=h;exact ⟨Nat.lt_of_lt_of_le h0 hb.size,⟨(hb.cell (p:=⟨b,0,none⟩) h0).trans h1,(hb.cell (p:=⟨b,1,none⟩) h0).trans h2,(hb.cell (p:=⟨b,2,none⟩) h0).trans h3⟩,(hb.frozen (p:=⟨b,0,none⟩) h0).trans h4,(hb.frozen (p:=⟨b,1,none⟩) h0).trans h5,(hb.frozen (p:=⟨b,2,none⟩) h0).trans h6⟩
theorem B3.other {W:World} {b c k:Nat} {x y z:Bool} (h:B3 W b x y z) (hc:c≠b) (v:Value):B3 (W.setCell ⟨c,k,none⟩ v) b x y z:=by
 obtain ⟨h0,⟨h1,h2,h3⟩,h4,h5,h6⟩:=h;refine ⟨by rw [World.size_setCell];exact h0,⟨?_,?_,?_⟩,(World.frozen?_setCell ..).trans h4,(World.frozen?_setCell ..).trans h5,(World.frozen?_setCell ..).trans h6⟩
 · rw [World.cell?_setCell_other _ _ _ _ (fun e=>hc (congrArg Addr.block e)),h1]
 · rw [World.cell?_setCell_other _ _ _ _ (fun e=>hc (congrArg Addr.block e)),h2]
 · rw [World.cell?_setCell_other _ _ _ _ (fun e=>hc (congrArg Addr.block e)),h3]
theorem B3.set0 {W:World} {b:Nat} {x y z:Bool} (h:B3 W b x y z) (v:Bool):B3 (W.setCell ⟨b,0,none⟩ (.bool v)) b v y z:=by
 obtain ⟨h0,⟨h1,h2,h3⟩,h4,h5,h6⟩:=h;refine ⟨by rw [World.size_setCell];exact h0,⟨?_,?_,?_⟩,(World.frozen?_setCell ..).trans h4,(World.frozen?_setCell ..).trans h5,(World.frozen?_setCell ..).trans h6⟩
 · rw [World.cell?_setCell_same _ _ _ h1]
 · rw [World.cell?_setCell_other _ _ _ _ (by simp),h2]
 · rw [World.cell?_setCell_other _ _ _ _ (by simp),h3]
theorem B3.set1 {W:World} {b:Nat} {x y z:Bool} (h:B3 W b x y z) (v:Bool):B3 (W.setCell ⟨b,1,none⟩ (.bool v)) b x v z:=by
 obtain ⟨h0,⟨h1,h2,h3⟩,h4,h5,h6⟩:=h;refine ⟨by rw [World.size_setCell];exact h0,⟨?_,?_,?_⟩,(World.frozen?_setCell ..).trans h4,(World.frozen?_setCell ..).trans h5,(World.frozen?_setCell ..).trans h6⟩
 · rw [World.cell?_setCell_other _ _ _ _ (by simp),h1]
 · rw [World.cell?_setCell_same _ _ _ h2]
 · rw [World.cell?_setCell_other _ _ _ _ (by simp),h3]
theorem B3.set2 {W:World} {b:Nat} {x y z:Bool} (h:B3 W b x y z) (v:Bool):B3 (W.setCell ⟨b,2,none⟩ (.bool v)) b x y v:=by
 obtain ⟨h0,⟨h1,h2,h3⟩,h4,h5,h6⟩:=h;refine ⟨by rw [World.size_setCell];exact h0,⟨?_,?_,?_⟩,(World.frozen?_setCell ..).trans h4,(World.frozen?_setCell ..).trans h5,(World.frozen?_setCell ..).trans h6⟩
 · rw [World.cell?_setCell_other _ _ _ _ (by simp),h1]
 · rw [World.cell?_setCell_other _ _ _ _ (by simp),h2]
 · rw [World.cell?_setCell_same _ _ _ h3]
theorem b3_new (w:World) (t:TypeId):B3 (w.alloc (.cells #[.bool false,.bool false,.bool false] t)) w.heap.size false false false:=by
 have h:=heap_alloc_new w (.cells #[.bool false,.bool false,.bool false] t);obtain ⟨W,hW⟩:∃ W,w.alloc (.cells #[.bool false,.bool false,.bool false] t)=W:=⟨_,rfl⟩
 have hz:w.heap.size<W.heap.size:=by rw [←hW,World.size_alloc];omega
 rw [hW] at h ⊢;refine ⟨hz,?_,?_⟩ <;> simp [World.cell?,World.frozen?,h]
theorem idxF0 (f1 f2 f3:Value) (W:World):(Instr.index 150 (.agg #[f1,f2,f3]) (.int .i64 0)).run Tryz.prog W=.ok f1 W:=by
 simp [Instr.index,run_underlying Tryz.underlying150,asIntOf,go_sem]
theorem idxF1 (f1 f2 f3:Value) (W:World):(Instr.index 150 (.agg #[f1,f2,f3]) (.int .i64 1)).run Tryz.prog W=.ok f2 W:=by
 simp [Instr.index,run_underlying Tryz.underlying150,asIntOf,go_sem]
theorem idxF2 (f1 f2 f3:Value) (W:World):(Instr.index 150 (.agg #[f1,f2,f3]) (.int .i64 2)).run Tryz.prog W=.ok f3 W:=by
 simp [Instr.index,run_underlying Tryz.underlying150,asIntOf,go_sem]
theorem prelat (g a b:Nat) (rs:List Sx.Rl) (os:List Org) (w:World) (hr:RdW w g rs os) (ha:a<os.length) (hb:b<os.length) (hok:∀ o∈os,OrgOk o) (hrt:Sx.RlsRt rs):Calls Tryz.prog 62 #[.pointer (some ⟨g,0,none⟩),.int .i64 a,.int .i64 b] w fun e w'=>e=.returned (.agg #[.bool (relA a b os[a] os[b]),.bool (relB a b os[a] os[b]),.bool (relC rs a b os[a] os[b])])∧Below w.heap.size w w':=by
 have HA:=hide (fun W (h:Below w.heap.size w W)=>psame g a b rs os W (hr.below h) ha hb hok);have HD:=hide (fun W (h:Below w.heap.size w W)=>psameD g a b rs os W (hr.below h) ha hb hok);have HC:=hide (fun W (h:Below w.heap.size w W)=>pone g a b rs os W (hr.below h) ha hb hok hrt);obtain ⟨R1,hR1⟩:∃ R,relA a b os[a] os[b]=R:=⟨_,rfl⟩
 obtain ⟨R2,hR2⟩:∃ R,relB a b os[a] os[b]=R:=⟨_,rfl⟩
 obtain ⟨R3,hR3⟩:∃ R,relC rs a b os[a] os[b]=R:=⟨_,rfl⟩
 rw [hR1] at HA ⊢;rw [hR2] at HD ⊢;rw [hR3] at HC ⊢;clear hR1 hR2 hR3 hr;have hb1:=b3_new w 108;have hB1:Below w.heap.size w (w.alloc (.cells #[.bool false,.bool false,.bool false] 108)):=(Below.refl _ w).alloc (Nat.le_refl _) _;have hz1:(w.alloc (.cells #[.bool false,.bool false,.bool false] 108)).heap.size=w.heap.size+1:=by rw [World.size_alloc]
 obtain ⟨w1,hw1⟩:∃ w1,w.alloc (.cells #[.bool false,.bool false,.bool false] 108)=w1:=⟨_,rfl⟩
 rw [hw1] at hb1 hB1 hz1;have hb2:=b3_new w1 108;have hBw:Below w1.heap.size w1 (w1.alloc (.cells #[.bool false,.bool false,.bool false] 108)):=(Below.refl _ w1).alloc (Nat.le_refl _) _;have hb1':=hb1.below hBw;have hB2:=below_to hB1 hBw;rw [hz1] at hb2;rw [←hw1] at hb2 hb1' hB2;have HS:=hide hb2;have HT:=hide hb1';have HU:=hide hB2;clear hb1 hB1 hz1 hw1 hb2 hBw hb1' hB2;go_enter Tryz.func62,Tryz.ntmps62;go_wp2_with fail
 go_loopw [17] (fun iv wr=>∃ k:Nat,iv=.int .i64 k∧k≤3∧B3 wr (w.heap.size+1) (decide (0<k) && R1) (decide (1<k) && R2) (decide (2<k) && R3)∧B3 wr w.heap.size false false false∧Below w.heap.size w wr) (fun iv _=>(3-intOf iv).toNat)
 case atStart=>exact ⟨0,rfl,by omega,HS.out,HT.out,HU.out⟩
 case round =>
  obtain ⟨k,rfl,hk,hA,hR,hB⟩:=hrel;clear HS HT HU;have HB:=hide hB;have HAA:=hide hA;have HRR:=hide hR
  match k,hk with
  | 0,_ =>
    have hix:=fun f1 f2 f3=>idxF0 f1 f2 f3 wr;clear hB hA hR;go_wp2_with fail
    refine (HA.out _ HB.out).mono ?_;rintro e y1 ⟨rfl,hB1⟩;have HB2:=hide (below_to HB.out hB1);have HA2:=hide (HAA.out.below hB1);have HR2:=hide (HRR.out.below hB1);obtain ⟨a0,⟨a1,a2,a3⟩,a4,a5,a6⟩:=HA2.out;clear hB1 hix;go_wp2;exact ⟨⟨1,rfl,by omega,HA2.out.set0 _,HR2.out.other (by omega) _,HB2.out.setCell (p:=⟨w.heap.size+1,0,none⟩) (Nat.le_succ _) _⟩,by simp [intOf]⟩
  | 1,_ =>
    have hix:=fun f1 f2 f3=>idxF1 f1 f2 f3 wr;clear hB hA hR;go_wp2_with fail
    refine (HD.out _ HB.out).mono ?_;rintro e y1 ⟨rfl,hB1⟩;have HB2:=hide (below_to HB.out hB1);have HA2:=hide (HAA.out.below hB1);have HR2:=hide (HRR.out.below hB1);obtain ⟨a0,⟨a1,a2,a3⟩,a4,a5,a6⟩:=HA2.out;clear hB1 hix;go_wp2;exact ⟨⟨2,rfl,by omega,HA2.out.set1 _,HR2.out.other (by omega) _,HB2.out.setCell (p:=⟨w.heap.size+1,1,none⟩) (Nat.le_succ _) _⟩,by simp [intOf]⟩
  | 2,_ =>
    have hix:=fun f1 f2 f3=>idxF2 f1 f2 f3 wr;clear hB hA hR;go_wp2_with fail
    refine (HC.out _ HB.out).mono ?_;rintro e y1 ⟨rfl,hB1⟩;have HB2:=hide (below_to HB.out hB1);have HA2:=hide (HAA.out.below hB1);have HR2:=hide (HRR.out.below hB1);obtain ⟨a0,⟨a1,a2,a3⟩,a4,a5,a6⟩:=HA2.out;clear hB1 hix;go_wp2;exact ⟨⟨3,rfl,by omega,HA2.out.set2 _,HR2.out.other (by omega) _,HB2.out.setCell (p:=⟨w.heap.size+1,2,none⟩) (Nat.le_succ _) _⟩,by simp [intOf]⟩
  | 3,_ =>
    obtain ⟨a0,⟨a1,a2,a3⟩,a4,a5,a6⟩:=HAA.out;obtain ⟨r0,⟨r1,r2,r3⟩,r4,r5,r6⟩:=HRR.out;clear hB hA hR;go_wp2;refine bodyPost_ret (v:=.agg #[.bool R1,.bool R2,.bool R3]) ?_ rfl ?_
    · have c0:=HRR.out.set0 R1;have c1:=c0.set1 R2;have c2:=c1.set2 R3;obtain ⟨q0,⟨q1,q2,q3⟩,-⟩:=c2;simp [results,Tryz.results62,go_sem,q1,q2,q3]
    · exact ⟨rfl,((HB.out.setCell (p:=⟨w.heap.size,0,none⟩) (Nat.le_refl _) _).setCell (p:=⟨w.heap.size,1,none⟩) (Nat.le_refl _) _).setCell (p:=⟨w.heap.size,2,none⟩) (Nat.le_refl _) _⟩
theorem pSiteY (g n:Nat) (rs:List Sx.Rl) (os:List Org) (w:World) (hr:RdW w g rs os) (hn:n<os.length) (hok:∀ o∈os,OrgOk o) (hrt:Sx.RlsRt rs):Calls Tryz.prog 44 #[.pointer (some ⟨g,0,none⟩),.int .i64 n] w fun e w'=>e=.returned (.tuple #[.string ⟨(siteP rs os[n]).toArray⟩,.int .i64 0])∧Below w.heap.size w w':=by
 have HH:=hide (phas g n rs os w hr);have HS:=hide (psite g n rs os w hr hn hok hrt);rw [decide_eq_true (show (0:Int)≤n∧(n:Int)<os.length by omega)] at HH;obtain ⟨T,hT⟩:∃ X:ByteArray,⟨(siteP rs os[n]).toArray⟩=X:=⟨_,rfl⟩
 rw [hT] at HS ⊢;clear hT hr hok hrt;go_enter Tryz.func44,Tryz.ntmps44;go_wp2_with fail
 refine HH.out.mono ?_;rintro e w1 ⟨rfl,rfl⟩;go_wp2_with fail
 refine HS.out.mono ?_;rintro e w2 ⟨rfl,hB⟩;have HB:=hide hB;clear hB;go_wp2;go_ret2;exact ⟨rfl,HB.out⟩
theorem pSiteN (g:Nat) (n:Int) (rs:List Sx.Rl) (os:List Org) (w:World) (hr:RdW w g rs os) (hn:¬ (0≤n∧n<os.length)):Calls Tryz.prog 44 #[.pointer (some ⟨g,0,none⟩),.int .i64 n] w fun e w'=>e=.returned (.tuple #[.string ⟨#[]⟩,.int .i64 7])∧w'=w:=by
 have HH:=hide (phas g n rs os w hr);rw [decide_eq_false hn] at HH;clear hr hn;go_enter Tryz.func44,Tryz.ntmps44;go_wp2_with fail
 refine HH.out.mono ?_;rintro e w1 ⟨rfl,rfl⟩;go_wp2;go_ret2;exact ⟨rfl,rfl⟩
theorem pSameY (g a b:Nat) (rs:List Sx.Rl) (os:List Org) (w:World) (hr:RdW w g rs os) (ha:a<os.length) (hb:b<os.length) (hok:∀ o∈os,OrgOk o) (hrt:Sx.RlsRt rs):Calls Tryz.prog 43 #[.pointer (some ⟨g,0,none⟩),.int .i64 a,.int .i64 b] w fun e w'=>e=.returned (.tuple #[.bool (relA a b os[a] os[b]),.bool (relB a b os[a] os[b]),.bool (relC rs a b os[a] os[b]),.int .i64 0])∧Below w.heap.size w w':=by
 have HA:=hide (phas g a rs os w hr);have HH:=hide (phas g b rs os w hr);have HS:=hide (prelat g a b rs os w hr ha hb hok hrt);rw [decide_eq_true (show (0:Int)≤a∧(a:Int)<os.length by omega)] at HA;rw [decide_eq_true (show (0:Int)≤b∧(b:Int)<os.length by omega)] at HH;obtain ⟨R1,hR1⟩:∃ R,relA a b os[a] os[b]=R:=⟨_,rfl⟩
 obtain ⟨R2,hR2⟩:∃ R,relB a b os[a] os[b]=R:=⟨_,rfl⟩
 obtain ⟨R3,hR3⟩:∃ R,relC rs a b os[a] os[b]=R:=⟨_,rfl⟩
 rw [hR1,hR2,hR3] at HS ⊢;clear hR1 hR2 hR3 hr hok hrt;go_enter Tryz.func43,Tryz.ntmps43;go_wp2_with fail
 refine HA.out.mono ?_;rintro e w1 ⟨rfl,rfl⟩;go_wp2_with fail
 refine HH.out.mono ?_;rintro e w1 ⟨rfl,rfl⟩;go_wp2_with fail
 refine HS.out.mono ?_;rintro e w2 ⟨rfl,hB⟩;have HB:=hide hB;have hbz:=hB.size;clear hB;go_wp2_with fail
 go_region
 all_goals (
  go_wp2;exact bodyPost_ret (v:=.tuple #[.bool R1,.bool R2,.bool R3,.int .i64 0]) (by simp [results,Tryz.results43,go_sem]) rfl ⟨rfl,by first | exact HB.out.alloc hbz _ | exact (HB.out.alloc hbz _).drew⟩)
theorem pSameN (g:Nat) (a b:Int) (rs:List Sx.Rl) (os:List Org) (w:World) (hr:RdW w g rs os) (hn:¬ (0≤a∧a<os.length)∨¬ (0≤b∧b<os.length)):Calls Tryz.prog 43 #[.pointer (some ⟨g,0,none⟩),.int .i64 a,.int .i64 b] w fun e w'=>e=.returned (.tuple #[.bool false,.bool false,.bool false,.int .i64 7])∧w'=w:=by
 have HA:=hide (phas g a rs os w hr);have HH:=hide (phas g b rs os w hr);by_cases h1:0≤a∧a<os.length
 · have h2:¬ (0≤b∧b<os.length):=by
    rcases hn with h | h
    · exact absurd h1 h
    · exact h
   rw [decide_eq_true h1] at HA;rw [decide_eq_false h2] at HH;clear hr hn h1 h2;go_enter Tryz.func43,Tryz.ntmps43;go_wp2_with fail
   refine HA.out.mono ?_;rintro e w1 ⟨rfl,rfl⟩;go_wp2_with fail
   refine HH.out.mono ?_;rintro e w1 ⟨rfl,rfl⟩;go_wp2;exact bodyPost_ret (v:=.tuple #[.bool false,.bool false,.bool false,.int .i64 7]) (by simp [results,Tryz.results43,go_sem]) rfl ⟨rfl,rfl⟩
 · rw [decide_eq_false h1] at HA;clear hr hn h1 HH;go_enter Tryz.func43,Tryz.ntmps43;go_wp2_with fail
   refine HA.out.mono ?_;rintro e w1 ⟨rfl,rfl⟩;go_wp2;exact bodyPost_ret (v:=.tuple #[.bool false,.bool false,.bool false,.int .i64 7]) (by simp [results,Tryz.results43,go_sem]) rfl ⟨rfl,rfl⟩
end Go.Proofs.YtgohllfpceeboaaGreatDoor
