import Derived.Test.YtgohllfpceeboabGreatDoorAnav
set_option maxRecDepth 100000
set_option maxHeartbeats 1000000
namespace Go.Proofs.YtgohllfpceeboabGreatDoor
open Go.RowKit
theorem wW (w:World):Calls Tryz.prog 218 #[.int .u8 42] w fun e w'=>e=.returned (.string ⟨[42,46].toArray⟩)∧w'=w:=by
 go_enter Tryz.func218,Tryz.ntmps218;go_wp2;go_ret;exact⟨rfl,rfl⟩
theorem wG (w:World):Calls Tryz.prog 218 #[.int .u8 33] w fun e w'=>e=.returned (.string ⟨[33].toArray⟩)∧w'=w:=by
 go_enter Tryz.func218,Tryz.ntmps218;go_wp2;go_ret;exact⟨rfl,rfl⟩
theorem TW (w:World):Calls Tryz.prog 218 #[.int .u8 36] w fun e w'=>e=.returned (.string ⟨#[]⟩)∧w'=w:=by
 go_enter Tryz.func218,Tryz.ntmps218;go_wp2;go_ret;exact⟨rfl,rfl⟩
theorem lQ (s p:List UInt8):bE s p=decide (s.take p.length=p):=by
 unfold bE;by_cases h:s.take p.length=p
 · have:p.length≤s.length:=by have:=congrArg List.length h;rw[List.length_take] at this;omega
   simp[h,this]
 · simp[h]
theorem qK (s:ByteArray)(n:Nat):s.extract n s.size=⟨(s.data.toList.drop n).toArray⟩:=by
 apply ByteArray.ext;apply Array.toList_inj.1;rw[kD,←aC,List.take_length]
theorem Y8 (s:ByteArray)(w:World):Calls Tryz.prog 171 #[.string s] w fun e w'=>e=.returned (.tuple #[.int .u8 (Sx.dV s.data.toList).1.toNat,.string ⟨(Sx.dV s.data.toList).2.toArray⟩])∧Below w.heap.size w w':=by
 have c1:=fun w=>qX s ⟨[42,46].toArray⟩ w;have c2:=fun w=>qX s ⟨[33].toArray⟩ w;have p1:=lQ s.data.toList [42,46];have p2:=lQ s.data.toList [33];simp only[List.length_cons,List.length_nil,Nat.reduceAdd] at p1 p2;have hidx1:∀ w:World,(Instr.index 295 (.agg #[.int .u8 42,.int .u8 33]) (.int .i64 0)).run Tryz.prog w=.ok (.int .u8 42) w:=by intro w;kernel_rfl
 have hidx2:∀ w:World,(Instr.index 295 (.agg #[.int .u8 42,.int .u8 33]) (.int .i64 1)).run Tryz.prog w=.ok (.int .u8 33) w:=by intro w;kernel_rfl
 obtain⟨b1,hb1⟩:∃ b1,bE s.data.toList [42,46]=b1:=⟨_,rfl⟩
 obtain⟨b2,hb2⟩:∃ b2,bE s.data.toList [33]=b2:=⟨_,rfl⟩
 have e1:(⟨[42,46].toArray⟩:ByteArray).data.toList=[42,46]:=rfl;have e2:(⟨[33].toArray⟩:ByteArray).data.toList=[33]:=rfl;rw[e1,hb1] at c1;rw[e2,hb2] at c2;rw[hb1] at p1;rw[hb2] at p2;obtain⟨R,hR⟩:∃ R,Sx.dV s.data.toList=R:=⟨_,rfl⟩
 rw[hR];have f1:b1=true→R=(42,s.data.toList.drop 2):=fun h=>by
  rw[h] at p1;rw[←hR];unfold Sx.dV;rw[if_pos (of_decide_eq_true p1.symm)]
 have f2:b1=false→b2=true→R=(33,s.data.toList.drop 1):=fun h h2=>by
  rw[h] at p1;rw[h2] at p2;rw[←hR];unfold Sx.dV;rw[if_neg (of_decide_eq_false p1.symm),if_pos (of_decide_eq_true p2.symm)]
 have f3:b1=false→b2=false→R=(36,s.data.toList):=fun h h2=>by
  rw[h] at p1;rw[h2] at p2;rw[←hR];unfold Sx.dV;rw[if_neg (of_decide_eq_false p1.symm),if_neg (of_decide_eq_false p2.symm)]
 have F1:=hide f1;have F2:=hide f2;have F3:=hide f3;have C1:=hide c1;have C2:=hide c2;clear f1 f2 f3 hR hb1 hb2 e1 e2 p1 p2 c1 c2;go_enter Tryz.func171,Tryz.ntmps171;go_wp2
 go_loopw [9] (fun i wr=>(i=.int .i64 0∨(i=.int .i64 1∧b1=false)∨(i=.int .i64 2∧b1=false∧b2=false))∧Below w.heap.size w wr) (fun i _=>(3-intOf i).toNat)
 case atStart=>exact⟨.inl rfl,Below.refl _ _⟩
 case round =>
  obtain⟨hcs,hB⟩:=hrel;rcases hcs with rfl | ⟨rfl,g1⟩ | ⟨rfl,g1,g2⟩
  · have hv:b1=true∨b1=false:=by cases b1 <;> simp
    rcases hv with hv | hv
    · subst hv;go_wp2_with (first | (go_at_call 218;go_must (refine(wW _).mono ?_;rintro e w1 ⟨rfl,rfl⟩)) | (go_at_call 114;go_must (refine(C1.out _).mono ?_;rintro e w1 ⟨rfl,rfl⟩)))
      go_ret2;rw[F1.out trivial];exact⟨by rw[←qK s 2];rfl,hB⟩
    · subst hv;go_wp2_with (first | (go_at_call 218;go_must (refine(wW _).mono ?_;rintro e w1 ⟨rfl,rfl⟩)) | (go_at_call 114;go_must (refine(C1.out _).mono ?_;rintro e w1 ⟨rfl,rfl⟩)))
      exact⟨⟨.inr (.inl ⟨rfl,trivial⟩),hB⟩,by decide⟩
  · have hv:b2=true∨b2=false:=by cases b2 <;> simp
    rcases hv with hv | hv
    · subst hv;go_wp2_with (first | (go_at_call 218;go_must (refine(wG _).mono ?_;rintro e w1 ⟨rfl,rfl⟩)) | (go_at_call 114;go_must (refine(C2.out _).mono ?_;rintro e w1 ⟨rfl,rfl⟩)))
      go_ret2;rw[F2.out g1 trivial];exact⟨by rw[←qK s 1];rfl,hB⟩
    · subst hv;go_wp2_with (first | (go_at_call 218;go_must (refine(wG _).mono ?_;rintro e w1 ⟨rfl,rfl⟩)) | (go_at_call 114;go_must (refine(C2.out _).mono ?_;rintro e w1 ⟨rfl,rfl⟩)))
      exact⟨⟨.inr (.inr ⟨rfl,g1,trivial⟩),hB⟩,by decide⟩
  · go_wp2;go_ret2;rw[F3.out g1 g2];exact⟨rfl,hB⟩
theorem eG {w w':World}{b:Nat}{cs:Array Value}{t:TypeId}{fr:Nat×Nat}(hb:Below w.heap.size w w')(h:w.heap[b]? = some (.cells cs t fr)):w'.heap[b]? = some (.cells cs t fr):=(hb.block b (Array.getElem?_eq_some_iff.1 h).1).trans h
def iL (r:Sx.Rl):Value:=.agg #[.int .u8 r.2.1.toNat,.string ⟨(Sx.aA r.1).toArray⟩,.int .i64 r.1.length,.int .u8 r.2.2.toNat]
def WG:Value:=.agg #[.int .u8 0,.string ⟨#[]⟩,.int .i64 0,.int .u8 0]
def oK (k:UInt8)(s:List UInt8)(sec:UInt8):Option Sx.Rl:=if (Sx.aI s).2=0∧(k=33→1<(Sx.aI s).1.length) then some ((Sx.aI s).1,k,sec) else none
def LE (o:Option Sx.Rl)(w:World)(e:Ending)(w':World):Prop:=Below w.heap.size w w'∧match o with
 | some r=>e=.returned (.tuple #[iL r,.bool true])
 | none=>e=.returned (.tuple #[WG,.bool false])
theorem iM {W:World}{b:Nat}{x y z u:Value}{t:TypeId}(h:W.heap[b]? = some (.cells #[x,y,z,u] t (0,0))):(W.cell? ⟨b,0,none⟩=some x∧W.cell? ⟨b,1,none⟩=some y∧W.cell? ⟨b,2,none⟩=some z∧W.cell? ⟨b,3,none⟩=some u)∧W.frozen? ⟨b,0,none⟩=false∧W.frozen? ⟨b,1,none⟩=false∧W.frozen? ⟨b,2,none⟩=false∧W.frozen? ⟨b,3,none⟩=false:=by
 simp[World.cell?,World.frozen?,h]
theorem set4 {w W:World}(h:Below w.heap.size w W){x y z u:Value}:Below w.heap.size w ((((W.setCell ⟨w.heap.size,0,none⟩ x).setCell ⟨w.heap.size,1,none⟩ y).setCell ⟨w.heap.size,2,none⟩ z).setCell ⟨w.heap.size,3,none⟩ u) :=
 (((h.setCell (p:=⟨w.heap.size,0,none⟩) (Nat.le_refl _) _).setCell (p:=⟨w.heap.size,1,none⟩) (Nat.le_refl _) _).setCell (p:=⟨w.heap.size,2,none⟩) (Nat.le_refl _) _).setCell (p:=⟨w.heap.size,3,none⟩) (Nat.le_refl _) _
theorem ak (k:UInt8)(s:ByteArray)(sec:UInt8)(w:World)(hw:gW w):Calls Tryz.prog 144 #[.int .u8 k.toNat,.string s,.int .u8 sec.toNat] w (LE (oK k s.data.toList sec) w):=by
 obtain⟨o,ho⟩:∃ o,Obj.cells #[.int .u8 0,.string ⟨#[]⟩,.int .i64 0,.int .u8 0] 82=o:=⟨_,rfl⟩
 have hB0:Below w.heap.size w (w.alloc o):=(Below.refl _ _).alloc (Nat.le_refl _) _;have hbx0:(w.alloc o).heap[w.heap.size]? = some o:=heap_alloc_new _ _;have HRH:=hide (AA s (w.alloc o) (bA w _ hw hB0));subst ho;clear hw;go_enter Tryz.func144,Tryz.ntmps144;go_wp2_with fail
 refine HRH.out.mono ?_;rintro e w2 ⟨hB2,(⟨err,he0,hh,rfl⟩ | ⟨L,g,cap,hh,rfl,hlb,hl6,hx⟩)⟩
 · have hd:(err != 0)=true:=by simpa using he0
   have HN:Hid (oK k s.data.toList sec=none):=hide (by unfold oK;rw[hh];simp[he0]);have hbx:=eG hB2 hbx0;obtain⟨⟨q0,q1,q2,q3⟩,f0,f1,f2,f3⟩:=iM hbx;have hBw:Below w.heap.size w w2:=hB0.trans (hB2.mono hB0.size);clear hh HRH hbx hbx0;go_wp2
   (try simp only[Exit.inBlock,Exit.then])
   refine bodyPost_ret (v:=.tuple #[.agg #[.int .u8 0,.string ⟨#[]⟩,.int .i64 0,.int .u8 0],.bool false]) ?_ rfl ?_
   · rw[results_cell_tmp rfl];go_simp
   · rw[HN.out];exact⟨set4 hBw,rfl⟩
 · have hbx:=eG hB2 hbx0;obtain⟨⟨q0,q1,q2,q3⟩,f0,f1,f2,f3⟩:=iM hbx;have hBw:Below w.heap.size w w2:=hB0.trans (hB2.mono hB0.size);have hNl:(L.map (fun x=>x.2.data.toList)).length=L.length:=List.length_map _;by_cases hbad:k=33∧L.length<2
   · have HN:Hid (oK k s.data.toList sec=none):=hide (by
      unfold oK;rw[hh,if_neg];rintro⟨_,h2⟩;have:=h2 hbad.1;rw[hNl] at this;omega)
     obtain⟨rfl,hlt⟩:=hbad;clear hh HRH hbx hbx0 hlb hx hNl;generalize L.length=N at *;have hlt2:(N:Int)<2:=by omega
     go_wp2
     (try simp only[Exit.inBlock,Exit.then])
     refine bodyPost_ret (v:=.tuple #[.agg #[.int .u8 0,.string ⟨#[]⟩,.int .i64 0,.int .u8 0],.bool false]) ?_ rfl ?_
     · rw[results_cell_tmp rfl];go_simp
     · rw[HN.out];exact⟨set4 hBw,rfl⟩
   · have HN:Hid (oK k s.data.toList sec=some (L.map (fun x=>x.2.data.toList),k,sec)):=hide (by
      unfold oK;rw[hh,if_pos];refine⟨rfl,fun h=>?_⟩;rw[hNl];by_cases h2:L.length<2
      · exact absurd ⟨h,h2⟩ hbad
      · omega)
     have hj:=BE L id g cap w2 hlb (by omega) (fun x hm=>by
      obtain⟨p,h1,h2,h3,h4⟩:=hx x hm;have hf:=iY x p h1 h2 h3 h4;show x.2.data.toList.length≤1000;rw[aC];omega) (fun x hm w=>AI x.1 x.2 w)
     obtain⟨T,hT⟩:∃ T:ByteArray,⟨(Sx.aA (L.map fun x=>id x.2.data.toList)).toArray⟩=T:=⟨_,rfl⟩
     rw[hT] at hj;have HJ:=hide hj;have HT:=hide hT;have HNL:=hide hNl;have HBX:=hide hbx;have hkk:k=33∨k≠33:=by by_cases h:k=33 <;> simp[h]
     clear hh HRH hbx0 hlb hx hNl hT hj hbx;obtain⟨N,hN⟩:∃ N,L.length=N:=⟨_,rfl⟩
     rw[hN] at HJ HNL hbad hl6 ⊢;clear hN;rcases hkk with rfl | hkn
     · have hN2:¬ (N:Int)<2:=by have:¬ N<2:=fun h=>hbad ⟨rfl,h⟩;omega
       clear hbad;go_wp2_with fail
       refine HJ.out.mono ?_;rintro e w3 ⟨rfl,hB3⟩;obtain⟨⟨q0,q1,q2,q3⟩,f0,f1,f2,f3⟩:=iM (eG hB3 HBX.out);have hBe:=hBw.trans (hB3.mono hBw.size);clear hB3;go_wp2
       (try simp only[Exit.inBlock,Exit.then])
       refine bodyPost_ret (v:=.tuple #[.agg #[.int .u8 33,.string T,.int .i64 N,.int .u8 sec.toNat],.bool true]) ?_ rfl ?_
       · rw[results_cell_tmp rfl];go_simp
       · rw[HN.out];refine⟨set4 hBe,?_⟩;show _=Ending.returned (.tuple #[iL _,_]);unfold iL;rw[HNL.out,←HT.out];rfl
     · have hk1:((k.toNat:Int) == 33)=false:=by
        rw[beq_eq_false_iff_ne];intro e;exact hkn (UInt8.toNat_inj.1 (by have:(33:UInt8).toNat=33:=rfl;omega))
       have hk2:¬ (k.toNat:Int)=33:=by simpa using hk1
       clear hbad;go_wp2_with fail
       refine HJ.out.mono ?_;rintro e w3 ⟨rfl,hB3⟩;obtain⟨⟨q0,q1,q2,q3⟩,f0,f1,f2,f3⟩:=iM (eG hB3 HBX.out);have hBe:=hBw.trans (hB3.mono hBw.size);clear hB3;go_wp2
       (try simp only[Exit.inBlock,Exit.then])
       refine bodyPost_ret (v:=.tuple #[.agg #[.int .u8 k.toNat,.string T,.int .i64 N,.int .u8 sec.toNat],.bool true]) ?_ rfl ?_
       · rw[results_cell_tmp rfl];go_simp
       · rw[HN.out];refine⟨set4 hBe,?_⟩;show _=Ending.returned (.tuple #[iL _,_]);unfold iL;rw[HNL.out,←HT.out];rfl
theorem TN (line:List UInt8)(sec:UInt8):Sx.cN line sec=oK (Sx.dV line).1 (Sx.dV line).2 sec:=rfl
theorem aw (s:ByteArray)(sec:UInt8)(w:World)(hw:gW w):Calls Tryz.prog 120 #[.string s,.int .u8 sec.toNat] w (LE (Sx.cN s.data.toList sec) w):=by
 obtain⟨o,ho⟩:∃ o,Obj.cells #[.int .u8 0,.string ⟨#[]⟩,.int .i64 0,.int .u8 0] 82=o:=⟨_,rfl⟩
 have hB0:Below w.heap.size w (w.alloc o):=(Below.refl _ _).alloc (Nat.le_refl _) _;have hbx0:(w.alloc o).heap[w.heap.size]? = some o:=heap_alloc_new _ _;have hsp:=Y8 s (w.alloc o);rw[TN];obtain⟨kk,hkk⟩:∃ kk,(Sx.dV s.data.toList).1=kk:=⟨_,rfl⟩
 obtain⟨X,hX⟩:∃ X:ByteArray,⟨(Sx.dV s.data.toList).2.toArray⟩=X:=⟨_,rfl⟩
 have hXl:(Sx.dV s.data.toList).2=X.data.toList:=by rw[←hX]
 rw[hkk,hX] at hsp;rw[hkk,hXl];have HSP:=hide hsp;have HLW:=hide (bA w _ hw hB0);subst ho;clear hw hsp hkk hX hXl;obtain⟨R,hR⟩:∃ R,oK kk X.data.toList sec=R:=⟨_,rfl⟩
 have HNR:Hid (∀ w,gW w→Calls Tryz.prog 144 #[.int .u8 kk.toNat,.string X,.int .u8 sec.toNat] w (LE R w)):=hide (fun w hw=>by rw[←hR];exact ak kk X sec w hw);rw[hR];clear hR;go_enter Tryz.func120,Tryz.ntmps120;go_wp2_with fail
 refine HSP.out.mono ?_;rintro e w2 ⟨rfl,hB2⟩;have hbx:=eG hB2 hbx0;have hlw2:=bA _ _ HLW.out hB2;have hBw:Below w.heap.size w w2:=hB0.trans (hB2.mono hB0.size);clear hB2 hbx0 hB0;go_wp2_with fail
 refine(HNR.out w2 hlw2).mono ?_;rintro e w3 ⟨hB3,hr⟩;obtain⟨⟨q0,q1,q2,q3⟩,f0,f1,f2,f3⟩:=iM (eG hB3 hbx);have hBe:=hBw.trans (hB3.mono hBw.size);clear hB3 hbx;cases R with
 | none =>
   replace hr:e=.returned (.tuple #[WG,.bool false]):=hr;unfold WG at hr;subst hr;go_wp2
   (try simp only[Exit.inBlock,Exit.then])
   refine bodyPost_ret (v:=.tuple #[.agg #[.int .u8 0,.string ⟨#[]⟩,.int .i64 0,.int .u8 0],.bool false]) ?_ rfl ?_
   · rw[results_cell_tmp rfl];go_simp
   · exact⟨set4 hBe,rfl⟩
 | some r =>
   obtain⟨h,k,sc⟩:=r;replace hr:e=.returned (.tuple #[.agg #[.int .u8 k.toNat,.string ⟨(Sx.aA h).toArray⟩,.int .i64 h.length,.int .u8 sc.toNat],.bool true]):=hr;subst hr;obtain⟨D,hD⟩:∃ D:ByteArray,⟨(Sx.aA h).toArray⟩=D:=⟨_,rfl⟩
   obtain⟨N,hN⟩:∃ N,h.length=N:=⟨_,rfl⟩
   have HF:Hid (iL (h,k,sc)=.agg #[.int .u8 k.toNat,.string D,.int .i64 N,.int .u8 sc.toNat]):=hide (by unfold iL;simp only;rw[hD,hN]);rw[hD,hN];clear hD hN;go_wp2
   (try simp only[Exit.inBlock,Exit.then])
   refine bodyPost_ret (v:=.tuple #[.agg #[.int .u8 k.toNat,.string D,.int .i64 N,.int .u8 sc.toNat],.bool true]) ?_ rfl ?_
   · rw[results_cell_tmp rfl];go_simp
   · refine⟨set4 hBe,?_⟩;show _=Ending.returned (.tuple #[iL _,_]);rw[HF.out]
end Go.Proofs.YtgohllfpceeboabGreatDoor
