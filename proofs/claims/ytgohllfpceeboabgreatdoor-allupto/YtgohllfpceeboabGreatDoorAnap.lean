import Derived.Test.YtgohllfpceeboabGreatDoorAnan
import Derived.Laws.EntriesVeiled
import Derived.Ground.NamesProg
import Derived.Shelf.Strings.SlTrimAscii
import Derived.Shelf.Strings.Builder1
import Derived.Shelf.Unicode.ValidAny
set_option maxRecDepth 100000
set_option maxHeartbeats 4000000
namespace Go.Proofs.YtgohllfpceeboabGreatDoor
open Go.RowKit
attribute [local go_sem ↓] Go.wp_at_zero Go.wp_at_succ
def pP (b:List UInt8):Bool:=!bE b Sx.xn || Sx.codeOk (b.drop 4)
def jR (b:List UInt8):List UInt8:=if bE b Sx.xn then Sx.kL (b.drop 4) else b
theorem WR (a b:ByteArray)(w:World)(hb:b.size≤20)(hp:∀ x∈b.data.toList,x.toNat<128) :
 Calls Tryz.prog 138 #[.agg #[.string a,.string b]] w fun e w'=>e=.returned (.bool (pP b.data.toList))∧Below w.heap.size w w':=by
 obtain⟨f,hf⟩:∃ f,bE b.data.toList [120,110,45,45]=f:=⟨_,rfl⟩
 have hc:∀ w:World,Calls Tryz.prog 114 #[.string b,.string ⟨#[120,110,45,45]⟩] w fun e w'=>e=.returned (.tuple #[.string (if f then b.extract 4 b.size else b),.bool f])∧w'=w:=fun w=>by
  have:=qX b ⟨#[120,110,45,45]⟩ w;have e:bE b.data.toList (⟨#[120,110,45,45]⟩:ByteArray).data.toList=f:=hf;rw[e] at this;exact this
 have hmk:pP b.data.toList=(!f || Sx.codeOk (b.data.toList.drop 4)):=by unfold pP;rw[show Sx.xn=[120,110,45,45] from rfl,hf]
 have HMK:=hide hmk;have HC:=hide hc;have HF:=hide hf;have HP:=hide hp;clear hmk hc hf hp;have hB0:Below w.heap.size w (w.alloc (.cells #[.string a,.string b] 69)):=(Below.refl _ _).alloc (Nat.le_refl _) _;cases f with
 | false =>
   go_enter Tryz.func138,Tryz.ntmps138;go_wp2_with (go_at_call 114;go_must (refine(HC.out _).mono ?_;rintro e w' ⟨rfl,rfl⟩))
   go_ret;exact⟨aP (by rw[HMK.out];rfl),hB0⟩
 | true =>
   have hb4:4≤b.size:=by
    have:=HF.out;unfold bE at this;simp at this;omega
   obtain⟨T,hT⟩:∃ T,b.extract 4 b.size=T:=⟨_,rfl⟩
   have hTl:T.data.toList=b.data.toList.drop 4:=by rw[←hT,kD,←aC,List.take_length]
   have hTz:T.size≤16:=by rw[←aC,hTl,List.length_drop,aC];omega
   have hl:=fun w=>FQ T w hTz (fun x hx=>HP.out x (by rw[hTl] at hx;exact List.mem_of_mem_drop hx));have hc2:∀ w:World,Calls Tryz.prog 114 #[.string b,.string ⟨#[120,110,45,45]⟩] w fun e w'=>e=.returned (.tuple #[.string T,.bool true])∧w'=w:=fun w=>by
    have:=HC.out w;rw[if_pos rfl,hT] at this;exact this
   rw[hTl] at hl;have HL:=hide hl;have HC2:=hide hc2;clear hl hc2 hT hTl;obtain⟨k,hk⟩:∃ k,Sx.codeOk (b.data.toList.drop 4)=k:=⟨_,rfl⟩
   rw[hk] at HL HMK;clear hk;go_enter Tryz.func138,Tryz.ntmps138;go_wp2_with (first | (go_at_call 114;go_must (refine(HC2.out _).mono ?_;rintro e w' ⟨rfl,rfl⟩)) | (go_at_call 115;go_must (refine(HL.out _).mono ?_;rintro e w2 ⟨rfl,hB2⟩)))
   go_ret;exact⟨aP (by rw[HMK.out];cases k <;> rfl),hB0.trans (hB2.mono hB0.size)⟩
theorem ZA (a b:ByteArray)(w:World)(hb:b.size≤20)(hp:∀ x∈b.data.toList,x.toNat<128) :
 Calls Tryz.prog 73 #[.agg #[.string a,.string b]] w fun e w'=>e=.returned (.string ⟨(jR b.data.toList).toArray⟩)∧Below w.heap.size w w':=by
 obtain⟨f,hf⟩:∃ f,bE b.data.toList [120,110,45,45]=f:=⟨_,rfl⟩
 have hc:∀ w:World,Calls Tryz.prog 114 #[.string b,.string ⟨#[120,110,45,45]⟩] w fun e w'=>e=.returned (.tuple #[.string (if f then b.extract 4 b.size else b),.bool f])∧w'=w:=fun w=>by
  have:=qX b ⟨#[120,110,45,45]⟩ w;have e:bE b.data.toList (⟨#[120,110,45,45]⟩:ByteArray).data.toList=f:=hf;rw[e] at this;exact this
 have hmk:jR b.data.toList=if f then Sx.kL (b.data.toList.drop 4) else b.data.toList:=by unfold jR;rw[show Sx.xn=[120,110,45,45] from rfl,hf]
 have HMK:=hide hmk;have HC:=hide hc;have HF:=hide hf;have HP:=hide hp;clear hmk hc hf hp;have hB0:Below w.heap.size w (w.alloc (.cells #[.string a,.string b] 69)):=(Below.refl _ _).alloc (Nat.le_refl _) _;cases f with
 | false =>
   go_enter Tryz.func73,Tryz.ntmps73;go_wp2_with (go_at_call 114;go_must (refine(HC.out _).mono ?_;rintro e w' ⟨rfl,rfl⟩))
   go_ret;exact⟨gV (by rw[HMK.out,if_neg (by decide)]),hB0⟩
 | true =>
   have hb4:4≤b.size:=by
    have:=HF.out;unfold bE at this;simp at this;omega
   obtain⟨T,hT⟩:∃ T,b.extract 4 b.size=T:=⟨_,rfl⟩
   have hTl:T.data.toList=b.data.toList.drop 4:=by rw[←hT,kD,←aC,List.take_length]
   have hTz:T.size≤16:=by rw[←aC,hTl,List.length_drop,aC];omega
   have hl:=fun w=>FQ T w hTz (fun x hx=>HP.out x (by rw[hTl] at hx;exact List.mem_of_mem_drop hx));have hc2:∀ w:World,Calls Tryz.prog 114 #[.string b,.string ⟨#[120,110,45,45]⟩] w fun e w'=>e=.returned (.tuple #[.string T,.bool true])∧w'=w:=fun w=>by
    have:=HC.out w;rw[if_pos rfl,hT] at this;exact this
   rw[hTl] at hl;obtain⟨L,hL⟩:∃ L:ByteArray,⟨(Sx.kL (b.data.toList.drop 4)).toArray⟩=L:=⟨_,rfl⟩
   rw[hL] at hl;have HL:=hide hl;have HC2:=hide hc2;have HLL:=hide hL;clear hl hc2 hT hTl hL;go_enter Tryz.func73,Tryz.ntmps73;go_wp2_with (first | (go_at_call 114;go_must (refine(HC2.out _).mono ?_;rintro e w' ⟨rfl,rfl⟩)) | (go_at_call 115;go_must (refine(HL.out _).mono ?_;rintro e w2 ⟨rfl,hB2⟩)))
   go_ret;exact⟨gV (by rw[HMK.out,if_pos trivial,HLL.out]),hB0.trans (hB2.mono hB0.size)⟩
def mR (a b:List UInt8)(l:List Int):Bool:=!a.isEmpty && l.all jP && decide (b.length≤20) && (!bE b [45] && !cR b [45]) && pP b
theorem ZP (a b:ByteArray)(l:List Int)(w:World)(hl:Sx.aF a.data.toList=some l)(ha:a.size≤1000)(hb:b.size≤100000)(hp:∀ x∈b.data.toList,x.toNat<128) :
 Calls Tryz.prog 86 #[.agg #[.string a,.string b]] w fun e w'=>e=.returned (.bool (mR a.data.toList b.data.toList l))∧Below w.heap.size w w':=by
 have hRB:mR a.data.toList b.data.toList l=(!a.data.toList.isEmpty && l.all jP && decide (b.size≤20) && (!bE b.data.toList [45] && !cR b.data.toList [45]) && pP b.data.toList):=by unfold mR;rw[aC]
 have h1:=fun w=>G0 a b w;have h2:=fun w=>B6 a b l w hl (by omega);have h3:=fun w=>D6 a b w;have h4:=fun w=>E3 a b w (by omega);have h5:=fun (h:b.size≤20) w=>WR a b w h hp;have hd3:decide (b.size≤20)=true→b.size≤20:=fun h=>by simpa using h
 obtain⟨c1,e1⟩:∃ c,(!a.data.toList.isEmpty)=c:=⟨_,rfl⟩
 obtain⟨c2,e2⟩:∃ c,l.all jP=c:=⟨_,rfl⟩
 obtain⟨c3,e3⟩:∃ c,decide (b.size≤20)=c:=⟨_,rfl⟩
 obtain⟨c4,e4⟩:∃ c,(!bE b.data.toList [45] && !cR b.data.toList [45])=c:=⟨_,rfl⟩
 obtain⟨c5,e5⟩:∃ c,pP b.data.toList=c:=⟨_,rfl⟩
 rw[e1,e2,e3,e4,e5] at hRB;rw[e1] at h1;rw[e2] at h2;rw[e3] at h3 hd3;rw[e4] at h4;rw[e5] at h5;have H1:=hide h1;have H2:=hide h2;have H3:=hide h3;have H4:=hide h4;have H5:=hide h5;have HD3:=hide hd3;have HRB:=hide hRB;clear h1 h2 h3 h4 h5 hd3 hRB e1 e2 e3 e4 e5 hp hl;have hidx1:∀ w:World,(Instr.index 196 (.agg #[.func (.func 134) #[] #[],.func (.func 135) #[] #[],.func (.func 136) #[] #[],.func (.func 137) #[] #[],.func (.func 138) #[] #[]]) (.int .i64 0)).run Tryz.prog w=.ok (.func (.func 134) #[] #[]) w:=fun w=>by kernel_rfl
 have hidx2:∀ w:World,(Instr.index 196 (.agg #[.func (.func 134) #[] #[],.func (.func 135) #[] #[],.func (.func 136) #[] #[],.func (.func 137) #[] #[],.func (.func 138) #[] #[]]) (.int .i64 1)).run Tryz.prog w=.ok (.func (.func 135) #[] #[]) w:=fun w=>by kernel_rfl
 have hidx3:∀ w:World,(Instr.index 196 (.agg #[.func (.func 134) #[] #[],.func (.func 135) #[] #[],.func (.func 136) #[] #[],.func (.func 137) #[] #[],.func (.func 138) #[] #[]]) (.int .i64 2)).run Tryz.prog w=.ok (.func (.func 136) #[] #[]) w:=fun w=>by kernel_rfl
 have hidx4:∀ w:World,(Instr.index 196 (.agg #[.func (.func 134) #[] #[],.func (.func 135) #[] #[],.func (.func 136) #[] #[],.func (.func 137) #[] #[],.func (.func 138) #[] #[]]) (.int .i64 3)).run Tryz.prog w=.ok (.func (.func 137) #[] #[]) w:=fun w=>by kernel_rfl
 have hidx5:∀ w:World,(Instr.index 196 (.agg #[.func (.func 134) #[] #[],.func (.func 135) #[] #[],.func (.func 136) #[] #[],.func (.func 137) #[] #[],.func (.func 138) #[] #[]]) (.int .i64 4)).run Tryz.prog w=.ok (.func (.func 138) #[] #[]) w:=fun w=>by kernel_rfl
 go_enter Tryz.func86,Tryz.ntmps86;go_wp2;have hBW:Below w.heap.size w ((w.alloc (.cells #[.string a,.string b] 69)).alloc (.cells #[.func (.func 134) #[] #[],.func (.func 135) #[] #[],.func (.func 136) #[] #[],.func (.func 137) #[] #[],.func (.func 138) #[] #[]] 196)):=((Below.refl _ w).alloc (Nat.le_refl _) _).alloc (by rw[World.size_alloc];exact Nat.le_succ _) _;have a1:(w.alloc (.cells #[.string a,.string b] 69)).cell? ⟨w.heap.size,0,none⟩=some (.string a):=by rw[World.cell?_alloc_mark];rfl
 have a2:(w.alloc (.cells #[.string a,.string b] 69)).cell? ⟨w.heap.size,1,none⟩=some (.string b):=by rw[World.cell?_alloc_mark];rfl
 have hBX:Below (w.heap.size+1) (w.alloc (.cells #[.string a,.string b] 69)) ((w.alloc (.cells #[.string a,.string b] 69)).alloc (.cells #[.func (.func 134) #[] #[],.func (.func 135) #[] #[],.func (.func 136) #[] #[],.func (.func 137) #[] #[],.func (.func 138) #[] #[]] 196)):=(Below.refl _ _).alloc (by rw[World.size_alloc];exact Nat.le_refl _) _;have b1:=(hBX.cell (p:=⟨w.heap.size,0,none⟩) (Nat.lt_succ_self _)).trans a1;have b2:=(hBX.cell (p:=⟨w.heap.size,1,none⟩) (Nat.lt_succ_self _)).trans a2;have hsx:w.heap.size+1≤((w.alloc (.cells #[.string a,.string b] 69)).alloc (.cells #[.func (.func 134) #[] #[],.func (.func 135) #[] #[],.func (.func 136) #[] #[],.func (.func 137) #[] #[],.func (.func 138) #[] #[]] 196)).heap.size:=by rw[World.size_alloc,World.size_alloc];exact Nat.le_succ _
 obtain⟨W0,hW0⟩:∃ W0,((w.alloc (.cells #[.string a,.string b] 69)).alloc (.cells #[.func (.func 134) #[] #[],.func (.func 135) #[] #[],.func (.func 136) #[] #[],.func (.func 137) #[] #[],.func (.func 138) #[] #[]] 196))=W0:=⟨_,rfl⟩
 rw[hW0] at hBW b1 b2 hsx ⊢;clear hW0 hBX a1 a2
 go_loopw [8] (fun i wr=>(i=.int .i64 0∨(i=.int .i64 1∧c1=true)∨(i=.int .i64 2∧c1=true∧c2=true)∨(i=.int .i64 3∧c1=true∧c2=true∧c3=true)∨(i=.int .i64 4∧c1=true∧c2=true∧c3=true∧c4=true)∨(i=.int .i64 5∧c1=true∧c2=true∧c3=true∧c4=true∧c5=true))∧Below (w.heap.size+1) W0 wr) (fun i _=>(100-intOf i).toNat)
 case atStart=>exact⟨.inl rfl,Below.refl _ _⟩
 case round =>
  obtain⟨hcs,hB⟩:=hrel;have d1:=(hB.cell (p:=⟨w.heap.size,0,none⟩) (Nat.lt_succ_self _)).trans b1;have d2:=(hB.cell (p:=⟨w.heap.size,1,none⟩) (Nat.lt_succ_self _)).trans b2;have hsz:w.heap.size+1≤wr.heap.size:=Nat.le_trans hsx hB.size;clear b1 b2;rcases hcs with rfl | ⟨rfl,g1⟩ | ⟨rfl,g1,g2⟩ | ⟨rfl,g1,g2,g3⟩ | ⟨rfl,g1,g2,g3,g4⟩ | ⟨rfl,g1,g2,g3,g4,g5⟩
  · have hv:c1=true∨c1=false:=by cases c1 <;> simp
    rcases hv with hv | hv
    · rw[hv] at H1;go_wp2_with (go_at_call 134;go_must (refine(H1.out _).mono ?_;rintro e w2 ⟨rfl,hB2⟩))
      exact⟨⟨.inr (.inl ⟨rfl,hv⟩),hB.trans (hB2.mono hsz)⟩,by decide⟩
    · rw[hv] at H1;go_wp2_with (go_at_call 134;go_must (refine(H1.out _).mono ?_;rintro e w2 ⟨rfl,hB2⟩))
      go_ret;exact⟨aP (by rw[HRB.out,hv];simp),hBW.trans ((hB.trans (hB2.mono hsz)).mono (Nat.le_succ _))⟩
  · have hv:c2=true∨c2=false:=by cases c2 <;> simp
    rcases hv with hv | hv
    · rw[hv] at H2;go_wp2_with (go_at_call 135;go_must (refine(H2.out _).mono ?_;rintro e w2 ⟨rfl,hB2⟩))
      exact⟨⟨.inr (.inr (.inl ⟨rfl,g1,hv⟩)),hB.trans (hB2.mono hsz)⟩,by decide⟩
    · rw[hv] at H2;go_wp2_with (go_at_call 135;go_must (refine(H2.out _).mono ?_;rintro e w2 ⟨rfl,hB2⟩))
      go_ret;exact⟨aP (by rw[HRB.out,g1,hv];simp),hBW.trans ((hB.trans (hB2.mono hsz)).mono (Nat.le_succ _))⟩
  · have hv:c3=true∨c3=false:=by cases c3 <;> simp
    rcases hv with hv | hv
    · rw[hv] at H3;go_wp2_with (go_at_call 136;go_must (refine(H3.out _).mono ?_;rintro e w2 ⟨rfl,hB2⟩))
      exact⟨⟨.inr (.inr (.inr (.inl ⟨rfl,g1,g2,hv⟩))),hB.trans (hB2.mono hsz)⟩,by decide⟩
    · rw[hv] at H3;go_wp2_with (go_at_call 136;go_must (refine(H3.out _).mono ?_;rintro e w2 ⟨rfl,hB2⟩))
      go_ret;exact⟨aP (by rw[HRB.out,g1,g2,hv];simp),hBW.trans ((hB.trans (hB2.mono hsz)).mono (Nat.le_succ _))⟩
  · have hv:c4=true∨c4=false:=by cases c4 <;> simp
    rcases hv with hv | hv
    · rw[hv] at H4;go_wp2_with (go_at_call 137;go_must (refine(H4.out _).mono ?_;rintro e w2 ⟨rfl,hB2⟩))
      exact⟨⟨.inr (.inr (.inr (.inr (.inl ⟨rfl,g1,g2,g3,hv⟩)))),hB.trans (hB2.mono hsz)⟩,by decide⟩
    · rw[hv] at H4;go_wp2_with (go_at_call 137;go_must (refine(H4.out _).mono ?_;rintro e w2 ⟨rfl,hB2⟩))
      go_ret;exact⟨aP (by rw[HRB.out,g1,g2,g3,hv];simp),hBW.trans ((hB.trans (hB2.mono hsz)).mono (Nat.le_succ _))⟩
  · have hv:c5=true∨c5=false:=by cases c5 <;> simp
    rcases hv with hv | hv
    · rw[hv] at H5;go_wp2_with (go_at_call 138;go_must (refine(H5.out (HD3.out g3) _).mono ?_;rintro e w2 ⟨rfl,hB2⟩))
      exact⟨⟨.inr (.inr (.inr (.inr (.inr ⟨rfl,g1,g2,g3,g4,hv⟩)))),hB.trans (hB2.mono hsz)⟩,by decide⟩
    · rw[hv] at H5;go_wp2_with (go_at_call 138;go_must (refine(H5.out (HD3.out g3) _).mono ?_;rintro e w2 ⟨rfl,hB2⟩))
      go_ret;exact⟨aP (by rw[HRB.out,g1,g2,g3,g4,hv];simp),hBW.trans ((hB.trans (hB2.mono hsz)).mono (Nat.le_succ _))⟩
  · go_wp2;go_ret;exact⟨aP (by rw[HRB.out,g1,g2,g3,g4,g5];rfl),hBW.trans (hB.mono (Nat.le_succ _))⟩
end Go.Proofs.YtgohllfpceeboabGreatDoor
namespace Go.Proofs
open Go.Shelf
def Tryz.layTrim_ren:Ren where
 f:=fun | 160=>139 | 232=>193 | 231=>192 | 227=>194 | 234=>196 | 233=>195 | 236=>198 | 235=>197 | 228=>235 | 271=>238 | 151=>237 | 197=>236 | 120=>250 | 152=>249 | 260=>248 | 137=>255 | 119=>165 | 224=>221 | 225=>220 | 217=>219 | 266=>242 | n=>n
 t:=fun | 9=>9 | 4=>4 | 3=>3 | 5=>5 | 117=>270 | 116=>269 | 0=>0 | 124=>273 | 21=>21 | 105=>308 | 46=>178 | 119=>188 | 139=>191 | 138=>190 | n=>n
 g:=fun | 3=>0 | 4=>1 | n=>n
theorem Tryz.layTrim:Lays.n160 Tryz.prog Tryz.layTrim_ren :=
 {
  mixed:=by kernel_rfl,f119:=Tryz.func165.trans (congrArg some (by kernel_rfl)),f120:=Tryz.func250.trans (congrArg some (by kernel_rfl)),f137:=Tryz.func255.trans (congrArg some (by kernel_rfl)),f151:=Tryz.func237.trans (congrArg some (by kernel_rfl)),f152:=Tryz.func249.trans (congrArg some (by kernel_rfl)),
  f160:=Tryz.func139.trans (congrArg some (by kernel_rfl)),f197:=Tryz.func236.trans (congrArg some (by kernel_rfl)),f217:=Tryz.func219.trans (congrArg some (by kernel_rfl)),f224:=Tryz.func221.trans (congrArg some (by kernel_rfl)),f225:=Tryz.func220.trans (congrArg some (by kernel_rfl)),f227:=Tryz.func194.trans (congrArg some (by kernel_rfl)),
  f228:=Tryz.func235.trans (congrArg some (by kernel_rfl)),f231:=Tryz.func192.trans (congrArg some (by kernel_rfl)),f232:=Tryz.func193.trans (congrArg some (by kernel_rfl)),f233:=Tryz.func195.trans (congrArg some (by kernel_rfl)),f234:=Tryz.func196.trans (congrArg some (by kernel_rfl)),f235:=Tryz.func197.trans (congrArg some (by kernel_rfl)),
  f236:=Tryz.func198.trans (congrArg some (by kernel_rfl)),f260:=Tryz.func248.trans (congrArg some (by kernel_rfl)),f266:=Tryz.func242.trans (congrArg some (by kernel_rfl)),f271:=Tryz.func238.trans (congrArg some (by kernel_rfl)),t0:=Tryz.underlying0,a0:=Tryz.isAgg0,
  z0:=Tryz.sizeOf0,v0:=Tryz.zeroValue0,t3:=Tryz.underlying3,a3:=Tryz.isAgg3,z3:=Tryz.sizeOf3,v3:=Tryz.zeroValue3,
  t4:=Tryz.underlying4,a4:=Tryz.isAgg4,z4:=Tryz.sizeOf4,v4:=Tryz.zeroValue4,t5:=Tryz.underlying5,a5:=Tryz.isAgg5,
  z5:=Tryz.sizeOf5,v5:=Tryz.zeroValue5,t9:=Tryz.underlying9,a9:=Tryz.isAgg9,z9:=Tryz.sizeOf9,v9:=Tryz.zeroValue9,
  t21:=Tryz.underlying21,a21:=Tryz.isAgg21,z21:=Tryz.sizeOf21,v21:=Tryz.zeroValue21,t46:=Tryz.underlying178,a46:=Tryz.isAgg178,
  z46:=Tryz.sizeOf178,v46:=Tryz.zeroValue178,t105:=Tryz.underlying308,a105:=Tryz.isAgg308,z105:=Tryz.sizeOf308,v105:=Tryz.zeroValue308,
  t116:=Tryz.underlying269,a116:=Tryz.isAgg269,z116:=Tryz.sizeOf269,t117:=Tryz.underlying270,a117:=Tryz.isAgg270,z117:=Tryz.sizeOf270,
  v117:=Tryz.zeroValue270,t119:=Tryz.underlying188,a119:=Tryz.isAgg188,z119:=Tryz.sizeOf188,t124:=Tryz.underlying273,a124:=Tryz.isAgg273,
  z124:=Tryz.sizeOf273,v124:=Tryz.zeroValue273,t138:=Tryz.underlying190,a138:=Tryz.isAgg190,z138:=Tryz.sizeOf190,v138:=Tryz.zeroValue190,
  t139:=Tryz.underlying191,a139:=Tryz.isAgg191,z139:=Tryz.sizeOf191,v139:=Tryz.zeroValue191,g3:=by kernel_rfl,g4:=by kernel_rfl }
def Tryz.layValid_ren:Ren where
 f:=fun | 196=>83 | 259=>128 | n=>n
 t:=fun | 9=>9 | 4=>4 | 3=>3 | 5=>5 | 12=>12 | 119=>188 | 0=>0 | 46=>178 | 139=>191 | 138=>190 | 53=>260 | n=>n
 g:=fun | 3=>0 | 4=>1 | n=>n
theorem Tryz.layValid:Lays.n196 Tryz.prog Tryz.layValid_ren :=
 {
  mixed:=by kernel_rfl,f196:=Tryz.func83.trans (congrArg some (by kernel_rfl)),f259:=Tryz.func128.trans (congrArg some (by kernel_rfl)),t0:=Tryz.underlying0,a0:=Tryz.isAgg0,z0:=Tryz.sizeOf0,
  v0:=Tryz.zeroValue0,t3:=Tryz.underlying3,a3:=Tryz.isAgg3,z3:=Tryz.sizeOf3,v3:=Tryz.zeroValue3,t4:=Tryz.underlying4,
  a4:=Tryz.isAgg4,z4:=Tryz.sizeOf4,v4:=Tryz.zeroValue4,t5:=Tryz.underlying5,a5:=Tryz.isAgg5,z5:=Tryz.sizeOf5,
  v5:=Tryz.zeroValue5,t9:=Tryz.underlying9,a9:=Tryz.isAgg9,z9:=Tryz.sizeOf9,v9:=Tryz.zeroValue9,t12:=Tryz.underlying12,
  a12:=Tryz.isAgg12,z12:=Tryz.sizeOf12,v12:=Tryz.zeroValue12,t46:=Tryz.underlying178,a46:=Tryz.isAgg178,z46:=Tryz.sizeOf178,
  v46:=Tryz.zeroValue178,t53:=Tryz.underlying260,a53:=Tryz.isAgg260,z53:=Tryz.sizeOf260,v53:=Tryz.zeroValue260,t119:=Tryz.underlying188,
  a119:=Tryz.isAgg188,z119:=Tryz.sizeOf188,t138:=Tryz.underlying190,a138:=Tryz.isAgg190,z138:=Tryz.sizeOf190,v138:=Tryz.zeroValue190,
  t139:=Tryz.underlying191,a139:=Tryz.isAgg191,z139:=Tryz.sizeOf191,v139:=Tryz.zeroValue191,g3:=by kernel_rfl,g4:=by kernel_rfl }
def Tryz.bren:Ren where
 f:=fun | 240=>140 | 276=>199 | 166=>90 | 167=>89 | 169=>91 | n=>n
 t:=fun | 70=>132 | 72=>134 | 37=>90 | 127=>198 | 75=>136 | 80=>48 | 164=>274 | n=>n
 g:=fun n=>n
theorem Tryz.layWS:Lays.n166 Tryz.prog Tryz.bren :=
 { mixed:=by kernel_rfl,f166:=Tryz.func90.trans (congrArg some (by kernel_rfl)),f240:=Tryz.func140.trans (congrArg some (by kernel_rfl)),f276:=Tryz.func199.trans (congrArg some (by kernel_rfl)),
   t0:=Tryz.underlying0,a0:=Tryz.isAgg0,z0:=Tryz.sizeOf0,v0:=Tryz.zeroValue0,t3:=Tryz.underlying3,a3:=Tryz.isAgg3,z3:=Tryz.sizeOf3,v3:=Tryz.zeroValue3,t4:=Tryz.underlying4,a4:=Tryz.isAgg4,z4:=Tryz.sizeOf4,v4:=Tryz.zeroValue4,t9:=Tryz.underlying9,a9:=Tryz.isAgg9,z9:=Tryz.sizeOf9,v9:=Tryz.zeroValue9,
   t20:=Tryz.underlying20,a20:=Tryz.isAgg20,z20:=Tryz.sizeOf20,v20:=Tryz.zeroValue20,t37:=Tryz.underlying90,a37:=Tryz.isAgg90,z37:=Tryz.sizeOf90,v37:=Tryz.zeroValue90,t70:=Tryz.underlying132,a70:=Tryz.isAgg132,z70:=Tryz.sizeOf132,v70:=Tryz.zeroValue132,t72:=Tryz.underlying134,a72:=Tryz.isAgg134,z72:=Tryz.sizeOf134,v72:=Tryz.zeroValue134,
   t75:=Tryz.underlying136,a75:=Tryz.isAgg136,z75:=Tryz.sizeOf136,v75:=Tryz.zeroValue136,t164:=Tryz.underlying274,a164:=Tryz.isAgg274,z164:=Tryz.sizeOf274,v164:=Tryz.zeroValue274 }
theorem Tryz.layWB:Lays.n167 Tryz.prog Tryz.bren :=
 { mixed:=by kernel_rfl,f167:=Tryz.func89.trans (congrArg some (by kernel_rfl)),f240:=Tryz.func140.trans (congrArg some (by kernel_rfl)),f276:=Tryz.func199.trans (congrArg some (by kernel_rfl)),
   t0:=Tryz.underlying0,a0:=Tryz.isAgg0,z0:=Tryz.sizeOf0,v0:=Tryz.zeroValue0,t4:=Tryz.underlying4,a4:=Tryz.isAgg4,z4:=Tryz.sizeOf4,v4:=Tryz.zeroValue4,t5:=Tryz.underlying5,a5:=Tryz.isAgg5,z5:=Tryz.sizeOf5,v5:=Tryz.zeroValue5,t9:=Tryz.underlying9,a9:=Tryz.isAgg9,z9:=Tryz.sizeOf9,v9:=Tryz.zeroValue9,
   t20:=Tryz.underlying20,a20:=Tryz.isAgg20,z20:=Tryz.sizeOf20,v20:=Tryz.zeroValue20,t37:=Tryz.underlying90,a37:=Tryz.isAgg90,z37:=Tryz.sizeOf90,v37:=Tryz.zeroValue90,t70:=Tryz.underlying132,a70:=Tryz.isAgg132,z70:=Tryz.sizeOf132,v70:=Tryz.zeroValue132,t72:=Tryz.underlying134,a72:=Tryz.isAgg134,z72:=Tryz.sizeOf134,v72:=Tryz.zeroValue134,
   t75:=Tryz.underlying136,a75:=Tryz.isAgg136,z75:=Tryz.sizeOf136,v75:=Tryz.zeroValue136,t164:=Tryz.underlying274,a164:=Tryz.isAgg274,z164:=Tryz.sizeOf274,v164:=Tryz.zeroValue274 }
theorem Tryz.layST:Lays.n169 Tryz.prog Tryz.bren :=
 { mixed:=by kernel_rfl,f169:=Tryz.func91.trans (congrArg some (by kernel_rfl)),
   t0:=Tryz.underlying0,a0:=Tryz.isAgg0,z0:=Tryz.sizeOf0,v0:=Tryz.zeroValue0,t3:=Tryz.underlying3,a3:=Tryz.isAgg3,z3:=Tryz.sizeOf3,v3:=Tryz.zeroValue3,t9:=Tryz.underlying9,a9:=Tryz.isAgg9,z9:=Tryz.sizeOf9,v9:=Tryz.zeroValue9,t37:=Tryz.underlying90,a37:=Tryz.isAgg90,z37:=Tryz.sizeOf90,v37:=Tryz.zeroValue90,t70:=Tryz.underlying132,a70:=Tryz.isAgg132,z70:=Tryz.sizeOf132,v70:=Tryz.zeroValue132,t72:=Tryz.underlying134,a72:=Tryz.isAgg134,z72:=Tryz.sizeOf134,v72:=Tryz.zeroValue134,t127:=Tryz.underlying198,a127:=Tryz.isAgg198,z127:=Tryz.sizeOf198,v127:=Tryz.zeroValue198 }
theorem Tryz.bX:Builder.Extra Tryz.prog Tryz.bren :=
 { sizeBuilder:=by kernel_rfl,liesBuilder:=by kernel_rfl,t5:=Tryz.underlying5,a5:=Tryz.isAgg5,z5:=Tryz.sizeOf5,v5:=Tryz.zeroValue5,infoByte:=by kernel_rfl,cellsByte:=by kernel_rfl,sizeByte:=by kernel_rfl,neB5:=by decide }
end Go.Proofs
namespace Go.Proofs.YtgohllfpceeboabGreatDoor
open Go.RowKit
attribute [local go_sem ↓] Go.wp_at_zero Go.wp_at_succ
theorem AL (s:ByteArray):∀ (n pos:Nat) (l:List Int),Sx.aF (s.data.toList.drop pos)=some l→s.size-pos≤n→pos≤s.size→Sx.text l=s.data.toList.drop pos∧∀ c∈l,Sx.Good c:=by
 intro n
 induction n with
 | zero =>
   intro pos l h hb hp;rw[List.drop_eq_nil_of_le (by rw[aC];omega)] at h ⊢;rw[Sx.dA] at h;cases h;exact⟨rfl,fun c hc=>by cases hc⟩
 | succ n ih =>
   intro pos l h hb hp;by_cases hlt:pos<s.size
   · obtain⟨c,m,l2,hd,rfl,hc0,hc1,hsur,hn1,hn2,hq2,hu⟩:=Sx.jD s pos l h hlt;obtain⟨i1,i2⟩:=ih (pos+m) l2 hq2 (by omega) hn2;refine⟨?_,fun x hx=>?_⟩
     · have e:Sx.text (c::l2)=Sx.fV c++Sx.text l2:=by simp[Sx.text]
       rw[e,hu,i1,←List.drop_drop,List.take_append_drop]
     · rcases List.mem_cons.1 hx with rfl | hx
       · exact⟨hc0,hc1,hsur⟩
       · exact i2 x hx
   · rw[List.drop_eq_nil_of_le (by rw[aC];omega)] at h ⊢;rw[Sx.dA] at h;cases h;exact⟨rfl,fun c hc=>by cases hc⟩
theorem letters_is (s:ByteArray)(l:List Int)(h:Sx.aF s.data.toList=some l):Sx.text l=s.data.toList∧∀ c∈l,Sx.Good c:=by
 have:=AL s s.size 0 l (by rw[List.drop_zero];exact h) (by omega) (by omega);rw[List.drop_zero] at this;exact this
theorem lL (x:Int)(h0:128≤x)(h1:x<256):lZ (UInt8.ofNat x.toNat)=UInt8.ofNat x.toNat:=by
 unfold lZ;rw[Sx.JW x (by omega) h1,if_neg (by omega)]
theorem ZH (c:Int)(h:Sx.Good c):(Sx.fV c).map lZ=Sx.fV (Sx.lower c):=by
 obtain⟨h0,h1,h2⟩:=h;by_cases a1:c<128
 · have e1:Sx.fV c=[UInt8.ofNat c.toNat]:=by unfold Sx.fV;rw[if_pos a1]
   have e2:Sx.fV (Sx.lower c)=[UInt8.ofNat (Sx.lower c).toNat]:=by unfold Sx.fV;rw[if_pos (by unfold Sx.lower;split <;> omega)]
   rw[e1,e2,List.map_cons,List.map_nil];unfold lZ Sx.lower;rw[Sx.JW c h0 (by omega)];by_cases a2:65≤c∧c≤90
   · rw[if_pos (by omega),if_pos a2,show(c+32).toNat=c.toNat+32 from by omega]
   · rw[if_neg (by omega),if_neg a2]
 · have e:Sx.lower c=c:=by unfold Sx.lower;rw[if_neg (by omega)]
   rw[e];unfold Sx.fV;rw[if_neg a1];by_cases a2:c<2048
   · rw[if_pos a2];simp only[List.map_cons,List.map_nil];rw[lL _ (by omega) (by omega),lL _ (by omega) (by omega)]
   · rw[if_neg a2];by_cases a3:c<65536
     · rw[if_pos a3];simp only[List.map_cons,List.map_nil];rw[lL _ (by omega) (by omega),lL _ (by omega) (by omega),lL _ (by omega) (by omega)]
     · rw[if_neg a3];simp only[List.map_cons,List.map_nil];rw[lL _ (by omega) (by omega),lL _ (by omega) (by omega),lL _ (by omega) (by omega),lL _ (by omega) (by omega)]
theorem IA:∀ (l:List Int),(∀ c∈l,Sx.Good c)→(Sx.text l).map lZ=Sx.text (l.map Sx.lower):=by
 intro l
 induction l with
 | nil=>intro _;rfl
 | cons c l ih =>
   intro h;have e:∀ x (r:List Int),Sx.text (x::r)=Sx.fV x++Sx.text r:=fun x r=>by simp[Sx.text]
   rw[List.map_cons,e,e,List.map_append,ZH c (h c (List.mem_cons_self ..)),ih (fun x hx=>h x (List.mem_cons_of_mem _ hx))]
theorem good_lower (c:Int)(h:Sx.Good c):Sx.Good (Sx.lower c):=by
 unfold Sx.Good Sx.lower at *;split <;> omega
theorem CP (l:List Int)(hl:l.length≤100)(hr:∀ c∈l,c≤1114111):∀ (todo done:List Nat),Sx.fF l=done++todo→∀ (n i bias:Int) (first:Bool),128≤n → -1≤i→(Sx.bK (todo.map (Sx.bQ l)) bias n i (((Sx.aE l).length+done.length:Nat):Int) first).length≤todo.length*113000001:=by
 intro todo
 induction todo with
 | nil=>intro done _ n i bias first _ _;simp[Sx.bK]
 | cons c0 todo ih =>
   intro done ho n i bias first hn hi
   obtain⟨hcl,hcf,_⟩:=Sx.cQ l done (c0::todo) ho c0 (List.mem_cons_self ..);have hlm:l.getD c0 0≤1114111:=by
    have:=hr l[c0] (List.getElem_mem hcl)
    simpa[List.getElem?_eq_getElem hcl] using this
   have hst:=Sx.fB l done todo c0 ho;have hpo:=Sx.eX l;have hdl:=congrArg List.length ho;rw[List.length_append,List.length_cons] at hdl;have hle:=Sx.nI (l.getD c0 0) n (Sx.bZ l c0) i (((Sx.aE l).length+done.length:Nat):Int) hlm hn hi (by omega) (by omega) (by omega);have hw:=Sx.vU _ 0 bias hle.2;have h2:=ih (done++[c0]) (by rw[ho];simp) (l.getD c0 0) (Sx.bZ l c0) (Sx.after ((l.getD c0 0-n)*((((Sx.aE l).length+done.length:Nat):Int)+1)+(Sx.bZ l c0:Int)-(i+1)) ((((Sx.aE l).length+done.length:Nat):Int)+1) first) false (by omega) (by omega);rw[List.length_append,List.length_cons,List.length_nil,show(((Sx.aE l).length+(done.length+(0+1)):Nat):Int)=(((Sx.aE l).length+done.length:Nat):Int)+1 from by omega] at h2;simp only[List.map_cons,Sx.bQ,Sx.bK,List.length_append,List.length_cons] at h2 ⊢;omega
theorem ZO (l:List Int)(hl:l.length≤100)(hr:∀ c∈l,c≤1114111):(Sx.enc l).length≤20000000000:=by
 have h1:=CP l hl hr (Sx.fF l) [] rfl 128 (-1) 72 true (by omega) (by omega);have h2:=Sx.IE l hl;have h3:=Sx.eX l;unfold Sx.enc;rw[List.length_append];simp only[List.length_nil,Nat.add_zero] at h1;have h4:(Sx.fF l).length*113000001≤100*113000001:=Nat.mul_le_mul_right _ (by omega);omega
def Box2 (w:World)(b:Nat)(x y:Value):Prop:=b<w.heap.size∧w.cell? ⟨b,0,none⟩=some x∧w.cell? ⟨b,1,none⟩=some y∧w.frozen? ⟨b,0,none⟩=false∧w.frozen? ⟨b,1,none⟩=false
theorem Box2.below {w w':World}{b:Nat}{x y:Value}(h:Box2 w b x y)(hb:Below w.heap.size w w'):Box2 w' b x y :=
 ⟨Nat.lt_of_lt_of_le h.1 hb.size,(hb.cell (p:=⟨b,0,none⟩) h.1).trans h.2.1,(hb.cell (p:=⟨b,1,none⟩) h.1).trans h.2.2.1,(hb.frozen (p:=⟨b,0,none⟩) h.1).trans h.2.2.2.1,(hb.frozen (p:=⟨b,1,none⟩) h.1).trans h.2.2.2.2⟩
theorem EE (w:World)(x y:Value)(t:TypeId):Box2 (w.alloc (.cells #[x,y] t)) w.heap.size x y :=
 ⟨by rw[World.size_alloc];exact Nat.lt_succ_self _,by rw[World.cell?_alloc_mark];rfl,by rw[World.cell?_alloc_mark];rfl,pC w _ t 0,pC w _ t 1⟩
theorem v7 (s:ByteArray)(l:List Int)(w:World)(hl:Sx.aF s.data.toList=some l)(hs:s.size≤60) :
 Calls Tryz.prog 85 #[.string s] w fun e w'=>e=.returned (.agg #[.string ⟨(Sx.text (l.map Sx.lower)).toArray⟩,.string ⟨(Sx.aJ (l.map Sx.lower)).toArray⟩])∧Below w.heap.size w w':=by
 obtain⟨ht,hg⟩:=letters_is s l hl;have hlow:=IA l hg;have hgm:∀ c∈l.map Sx.lower,Sx.Good c:=fun c hc=>by
  obtain⟨x,hx,rfl⟩:=List.mem_map.1 hc;exact good_lower x (hg x hx)
 have hlt:=Sx.eE _ hgm;have hws:=fun w=>ZS s w (by omega);rw[←ht,hlow] at hws;have hlen:(Sx.text (l.map Sx.lower)).length=s.size:=by rw[←hlow,List.length_map,ht,aC]
 obtain⟨m,hm⟩:∃ m,l.map Sx.lower=m:=⟨_,rfl⟩
 rw[hm] at hgm hlt hws hlen ⊢;obtain⟨A,hA⟩:∃ A:ByteArray,⟨(Sx.text m).toArray⟩=A:=⟨_,rfl⟩
 have hAl:A.data.toList=Sx.text m:=by rw[←hA]
 have hAz:A.size≤60:=by rw[←aC,hAl];omega
 rw[hA] at hws ⊢;have hAm:Sx.aF A.data.toList=some m:=by rw[hAl];exact hlt
 obtain⟨hrg,hcnt⟩:=kG A.size A 0 m (by rw[List.drop_zero];exact hAm) (by omega) (by omega);obtain⟨f,hf⟩:∃ f,(m.any fun c=>decide (128≤c))=f:=⟨_,rfl⟩
 have hform:Sx.aJ m=if f then Sx.xn++Sx.enc m else Sx.text m:=by unfold Sx.aJ;rw[hf]
 have hB0:Below w.heap.size w (w.alloc (.cells #[.string ⟨#[]⟩,.string ⟨#[]⟩] 69)):=(Below.refl _ _).alloc (Nat.le_refl _) _;have HWS:=hide hws;have HAM:=hide hAm;have HF:=hide hf;have HFO:=hide hform;have HA:=hide hA;have HCN:=hide hcnt;have HRG:=hide hrg;clear hws hAm hf hform hA hcnt hrg hAl hlen hlt hgm hm hlow hg ht hl;have hx0:=EE w (.string ⟨#[]⟩) (.string ⟨#[]⟩) 69;go_enter Tryz.func85,Tryz.ntmps85;cases f with
 | false =>
   go_wp2_with (first | (go_at_call 130;go_must (refine(HWS.out _).mono ?_;rintro e w2 ⟨rfl,hB2⟩;have hx2:=hx0.below hB2;clear hx0)) | (go_at_call 131;go_must (refine(pO A m _ HAM.out (by omega)).mono ?_;rintro e w3 ⟨rfl,hB3⟩;rw[HF.out];have hx3:=hx2.below hB3;obtain⟨y0,y1,y2,y3,y4⟩:=hx3)))
   have z0:((w3.setCell ⟨w.heap.size,0,none⟩ (.string A)).setCell ⟨w.heap.size,1,none⟩ (.string A)).cell? ⟨w.heap.size,0,none⟩=some (.string A):=by rw[World.cell?_setCell_other _ _ _ _ (by simp),World.cell?_setCell_same _ _ _ y1]
   have z1:((w3.setCell ⟨w.heap.size,0,none⟩ (.string A)).setCell ⟨w.heap.size,1,none⟩ (.string A)).cell? ⟨w.heap.size,1,none⟩=some (.string A):=by rw[World.cell?_setCell_same _ _ _ ((World.cell?_setCell_other _ _ _ _ (by simp)).trans y2)]
   have hBf:Below w.heap.size w ((w3.setCell ⟨w.heap.size,0,none⟩ (.string A)).setCell ⟨w.heap.size,1,none⟩ (.string A)):=(((hB0.trans (hB2.mono hB0.size)).trans (hB3.mono (Nat.le_trans hB0.size hB2.size))).setCell (p:=⟨w.heap.size,0,none⟩) (Nat.le_refl _) _).setCell (p:=⟨w.heap.size,1,none⟩) (Nat.le_refl _) _;exact bodyPost_ret (v:=.agg #[.string A,.string A]) (by simp[results,Tryz.results85,go_sem,z0,z1]) rfl ⟨by rw[HFO.out,if_neg (by decide),HA.out],hBf⟩
 | true =>
   have hof:=fun w=>NM A m w HAM.out (by omega) (zI m HF.out) (by rw[vS];have h1:=HCN.out;have h2:=List.length_filter_le (fun c=>decide (128≤c)) m;omega);obtain⟨E,hE⟩:∃ E:ByteArray,⟨(Sx.enc m).toArray⟩=E:=⟨_,rfl⟩
   have hez:E.size≤20000000000:=by rw[←aC,←hE];exact ZO m (by have:=HCN.out;omega) (fun c hc=>(HRG.out c hc).2)
   rw[hE] at hof;have HOF:=hide hof;have HE:=hide hE;clear hof hE;go_wp2_with (first | (go_at_call 130;go_must (refine(HWS.out _).mono ?_;rintro e w2 ⟨rfl,hB2⟩;have hx2:=hx0.below hB2;clear hx0)) | (go_at_call 131;go_must (refine(pO A m _ HAM.out (by omega)).mono ?_;rintro e w3 ⟨rfl,hB3⟩;rw[HF.out];have hx3:=hx2.below hB3;clear hx2)) | (go_at_call 133;go_must (refine(HOF.out _).mono ?_;rintro e w4 ⟨rfl,hB4⟩;have hx4:=hx3.below hB4;obtain⟨y0,y1,y2,y3,y4⟩:=hx4)))
   have z0:((w4.setCell ⟨w.heap.size,0,none⟩ (.string A)).setCell ⟨w.heap.size,1,none⟩ (.string (⟨#[120,110,45,45]⟩++E))).cell? ⟨w.heap.size,0,none⟩=some (.string A):=by rw[World.cell?_setCell_other _ _ _ _ (by simp),World.cell?_setCell_same _ _ _ y1]
   have z1:((w4.setCell ⟨w.heap.size,0,none⟩ (.string A)).setCell ⟨w.heap.size,1,none⟩ (.string (⟨#[120,110,45,45]⟩++E))).cell? ⟨w.heap.size,1,none⟩=some (.string (⟨#[120,110,45,45]⟩++E)):=by rw[World.cell?_setCell_same _ _ _ ((World.cell?_setCell_other _ _ _ _ (by simp)).trans y2)]
   have hBf:Below w.heap.size w ((w4.setCell ⟨w.heap.size,0,none⟩ (.string A)).setCell ⟨w.heap.size,1,none⟩ (.string (⟨#[120,110,45,45]⟩++E))):=((((hB0.trans (hB2.mono hB0.size)).trans (hB3.mono (Nat.le_trans hB0.size hB2.size))).trans (hB4.mono (Nat.le_trans hB0.size (Nat.le_trans hB2.size hB3.size)))).setCell (p:=⟨w.heap.size,0,none⟩) (Nat.le_refl _) _).setCell (p:=⟨w.heap.size,1,none⟩) (Nat.le_refl _) _;exact bodyPost_ret (v:=.agg #[.string A,.string (⟨#[120,110,45,45]⟩++E)]) (by simp[results,Tryz.results85,go_sem,z0,z1]) rfl ⟨by rw[HFO.out,if_pos trivial,←HE.out,show(#[120,110,45,45] : Array UInt8)=Sx.xn.toArray from rfl,bF],hBf⟩
def iC:List UInt8:=[48,49,50,51,52,53,54,55,56,57]
theorem TG (c:UInt8):iC.contains c=(decide (48≤c.toNat) && decide (c.toNat≤57)):=by
 revert c;have h:∀ n:Fin 256,iC.contains (UInt8.ofNat n.val)=(decide (48≤(UInt8.ofNat n.val).toNat) && decide ((UInt8.ofNat n.val).toNat≤57)):=by decide
 intro c;have:=h ⟨c.toNat,c.toNat_lt⟩
 simpa using this
theorem kH {α:Type}(p:α→Bool):∀ (l:List α),(l.dropWhile p=[]↔l.all p=true):=by
 intro l
 induction l with
 | nil=>simp
 | cons x l ih =>
   rw[List.dropWhile_cons,List.all_cons];cases h:p x with
   | true=>simpa using ih
   | false=>simp
theorem tV {α:Type}(p:α→Bool):∀ (l:List α) (x:α) (r:List α),l.dropWhile p=x::r→p x=false:=by
 intro l
 induction l with
 | nil=>intro x r h;simp at h
 | cons y l ih =>
   intro x r h;rw[List.dropWhile_cons] at h;cases hp:p y with
   | true=>rw[hp,if_pos rfl] at h;exact ih x r h
   | false =>
     rw[hp,if_neg (by simp)] at h;cases h;exact hp
theorem ID (l:List UInt8):(Lib.trimS l iC=[]↔Sx.lD l=true):=by
 have e:Sx.lD l=l.all (iC.contains ·):=by
  unfold Sx.lD;congr 1;funext c;rw[TG]
 rw[e];unfold Lib.trimS Lib.trimRightS Lib.trimLeftS;have e2:l.all (iC.contains ·)=l.reverse.all (iC.contains ·):=List.all_reverse.symm;rw[e2,kH,List.all_reverse];constructor
 · intro h2;cases h3:List.dropWhile (iC.contains ·) l.reverse with
   | nil=>exact(kH _ _).1 h3
   | cons x r =>
     rw[h3,List.all_cons,tV _ _ _ _ h3] at h2;exact absurd h2 (by simp)
 · intro h;rw[(kH _ _).2 h];rfl
theorem NZ (a b:ByteArray)(w:World)(hb:b.size≤1000000) :
 Calls Tryz.prog 87 #[.agg #[.string a,.string b]] w fun e w'=>e=.returned (.bool (Sx.lD b.data.toList))∧Below w.heap.size w w':=by
 have hcon:=fun w=>Any.strings_Trim_laid Tryz.layTrim (by kernel_rfl) b ⟨#[48,49,50,51,52,53,54,55,56,57]⟩ w (by omega) (by decide) (ascii_of_all (by decide));obtain⟨r,hr⟩:∃ r:ByteArray,⟨(Lib.trimS b.data.toList iC).toArray⟩=r:=⟨_,rfl⟩
 have hc2:∀ w,Calls Tryz.prog 139 #[.string b,.string ⟨#[48,49,50,51,52,53,54,55,56,57]⟩] w fun e w'=>e=.returned (.string r)∧Below w.heap.size w w':=fun w=>by
  have:=hcon w;rw[←hr];exact this
 have hre:r.toList.isEmpty=Sx.lD b.data.toList:=by
  rw[ByteArray.toList_eq,←hr];show(Lib.trimS b.data.toList iC).isEmpty=_;have:=ID b.data.toList;cases hd:Sx.lD b.data.toList with
  | true=>rw[this.2 hd];rfl
  | false =>
    cases ht:Lib.trimS b.data.toList iC with
    | nil=>rw[this.1 ht] at hd;cases hd
    | cons=>rfl
 have HC2:=hide hc2;have HRE:=hide hre;clear hcon hr hc2 hre;have hB0:Below w.heap.size w (w.alloc (.cells #[.string a,.string b] 69)):=(Below.refl _ _).alloc (Nat.le_refl _) _;go_enter Tryz.func87,Tryz.ntmps87;go_wp2_with (go_at_call 139;go_must (refine(HC2.out _).mono ?_;rintro e w2 ⟨rfl,hB2⟩))
 go_ret;exact⟨aP (by rw[←HRE.out]),hB0.trans (hB2.mono hB0.size)⟩
end Go.Proofs.YtgohllfpceeboabGreatDoor
