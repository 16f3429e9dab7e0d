import Derived.Test.YtgohllfpceeboabGreatDoorAnaf
set_option maxHeartbeats 1000000
namespace Go.Proofs.YtgohllfpceeboabGreatDoor
open Go.RowKit
theorem fX (c:Int)(w:World):Calls Tryz.prog 132 #[.int .i32 c] w fun e w'=>e=.returned (.bool (decide (128≤c)))∧w'=w:=by
 go_enter Tryz.func132,Tryz.ntmps132;go_wp2;go_ret;exact⟨rfl,rfl⟩
def wE (c:Int):Bool:=decide (97≤c∧c≤122) || decide (48≤c∧c≤57) || decide (c=45)
theorem aP {a b:Bool}(h:a=b):Ending.returned (.bool a)=.returned (.bool b):=by rw[h]
theorem BI (c:Int)(w:World):Calls Tryz.prog 191 #[.int .i32 c] w fun e w'=>e=.returned (.bool (wE c))∧w'=w:=by
 obtain⟨r,hr⟩:∃ r,wE c=r:=⟨_,rfl⟩
 rw[hr];have HR:=hide hr;clear hr;by_cases h1:97≤c
 · by_cases h2:c≤122
   · have d1:decide (97≤c)=true:=by simpa using h1
     have d2:decide (c≤122)=true:=by simpa using h2
     go_enter Tryz.func191,Tryz.ntmps191;go_wp2;go_ret;exact⟨aP (by rw[←HR.out];simp[wE,h1,h2]),rfl⟩
   · have d1:decide (97≤c)=true:=by simpa using h1
     have d2:decide (c≤122)=false:=by simpa using h2
     have d3:decide (48≤c)=true:=by simp;omega
     have d4:decide (c≤57)=false:=by simp;omega
     have d5:(c == 45)=false:=by simp;omega
     go_enter Tryz.func191,Tryz.ntmps191;go_wp2;go_ret;exact⟨aP (by rw[←HR.out];simp[wE];omega),rfl⟩
 · have d1:decide (97≤c)=false:=by simpa using h1
   by_cases h3:48≤c
   · have d3:decide (48≤c)=true:=by simpa using h3
     by_cases h4:c≤57
     · have d4:decide (c≤57)=true:=by simpa using h4
       go_enter Tryz.func191,Tryz.ntmps191;go_wp2;go_ret;exact⟨aP (by rw[←HR.out];simp[wE,h3,h4]),rfl⟩
     · have d4:decide (c≤57)=false:=by simpa using h4
       have d5:(c == 45)=false:=by simp;omega
       go_enter Tryz.func191,Tryz.ntmps191;go_wp2;go_ret;exact⟨aP (by rw[←HR.out];simp[wE];omega),rfl⟩
   · have d3:decide (48≤c)=false:=by simpa using h3
     by_cases h5:c=45
     · have d5:(c == 45)=true:=by simpa using h5
       have H5:=hide h5;clear h5;go_enter Tryz.func191,Tryz.ntmps191;go_wp2;go_ret;exact⟨aP (by rw[←HR.out];simp[wE,H5.out]),rfl⟩
     · have d5:(c == 45)=false:=by simpa using h5
       go_enter Tryz.func191,Tryz.ntmps191;go_wp2;go_ret;exact⟨aP (by rw[←HR.out];simp[wE];omega),rfl⟩
def kF (c:Int):Bool:=decide (0≤c∧c<55296) || decide (57343<c∧c≤1114111)
theorem s9 (c:Int)(w:World):Calls Tryz.prog 165 #[.int .i32 c] w fun e w'=>e=.returned (.bool (kF c))∧w'=w:=by
 obtain⟨r,hr⟩:∃ r,kF c=r:=⟨_,rfl⟩
 rw[hr];have HR:=hide hr;clear hr;by_cases h1:0≤c∧c<55296
 · obtain⟨h1,h2⟩:=h1;go_enter Tryz.func165,Tryz.ntmps165;go_wp2;go_ret;exact⟨aP (by rw[←HR.out];simp[kF];omega),rfl⟩
 · by_cases h3:57343<c
   · have h2:¬ c<55296:=by omega
     have h0:0≤c:=by omega
     clear h1;by_cases h4:c≤1114111
     · go_enter Tryz.func165,Tryz.ntmps165;go_wp2;go_ret;exact⟨aP (by rw[←HR.out];simp[kF];omega),rfl⟩
     · go_enter Tryz.func165,Tryz.ntmps165;go_wp2;go_ret;exact⟨aP (by rw[←HR.out];simp[kF];omega),rfl⟩
   · by_cases h0:0≤c
     · have h2:¬ c<55296:=by omega
       clear h1;go_enter Tryz.func165,Tryz.ntmps165;go_wp2;go_ret;exact⟨aP (by rw[←HR.out];simp[kF];omega),rfl⟩
     · clear h1;go_enter Tryz.func165,Tryz.ntmps165;go_wp2;go_ret;exact⟨aP (by rw[←HR.out];simp[kF];omega),rfl⟩
def lastTo (s:List UInt8)(c:UInt8):Nat→Int
 | 0=>-1
 | k+1=>if s.getD k 0=c then (k:Int) else lastTo s c k
theorem FU (s:List UInt8)(k:Nat):lastTo s 45 k=Sx.fH s k:=by
 induction k with
 | zero=>rfl
 | succ k ih=>simp only[lastTo,Sx.fH,ih]
theorem JJ (s:ByteArray)(c:UInt8)(w:World)(hs:s.size≤1000000):Calls Tryz.prog 186 #[.string s,.int .u8 c.toNat] w fun e w'=>e=.returned (.int .i64 (lastTo s.data.toList c s.size))∧w'=w:=by
 obtain⟨r,hr⟩:∃ r,lastTo s.data.toList c s.size=r:=⟨_,rfl⟩
 rw[hr];have HR:=hide hr;clear hr;go_enter Tryz.func186,Tryz.ntmps186;go_wp2
 go_loop [5] (fun i=>∃ k:Nat,i=.int .i64 ((k:Int)-1)∧k≤s.size∧lastTo s.data.toList c k=r) (fun i=>(intOf i+1).toNat)
 case atStart=>exact⟨s.size,by go_num,by omega,HR.out⟩
 case round =>
  obtain⟨k,rfl,hk,hq⟩:=hrel;have HQ:=hide hq;clear hq;cases k with
  | zero =>
    go_wp2;go_ret;exact⟨bY (by rw[←HQ.out];rfl),rfl⟩
  | succ k =>
    have hlt:k<s.size:=by omega
    have hst:lastTo s.data.toList c (k+1)=if s[k]=c then (k:Int) else lastTo s.data.toList c k:=by
     simp only[lastTo];rw[JI s k hlt]
    rw[show(((k+1:Nat):Int)-1)=(k:Int) from by omega];by_cases hc:s[k]=c
    · have hb:((s[k].toNat:Int) == (c.toNat:Int))=true:=by rw[hc];simp
      have hv:r=(k:Int):=by rw[←HQ.out,hst,if_pos hc]
      have HV:=hide hv;clear hst hc hv;go_wp2;go_ret;exact⟨bY HV.out.symm,rfl⟩
    · have hb:((s[k].toNat:Int) == (c.toNat:Int))=false:=by
       simp only[beq_eq_false_iff_ne,ne_eq];intro h;apply hc;apply UInt8.toNat.inj;omega
      have hv:lastTo s.data.toList c k=r:=by rw[←HQ.out,hst,if_neg hc]
      have HV:=hide hv;clear hst hc hv;go_wp2
      go_round
      case rel=>exact⟨k,by go_num,by omega,HV.out⟩
      case measure=>simp[intOf]
theorem rD (s:ByteArray)(c:UInt8)(w:World)(hs:s.size≤1000000):Calls Tryz.prog 129 #[.string s,.int .u8 c.toNat] w fun e w'=>e=.returned (.int .i64 (lastTo s.data.toList c s.size))∧w'=w:=by
 go_enter Tryz.func129,Tryz.ntmps129;go_wp2_with (go_at_call 186;go_must (refine(JJ _ _ _ hs).mono ?_;rintro e w' ⟨rfl,rfl⟩))
 go_ret;exact⟨rfl,rfl⟩
theorem j6 (s:ByteArray):s.extract 0 0=⟨#[]⟩:=by apply ByteArray.ext;simp
theorem O6 (s:ByteArray):s.extract 0 s.size=s:=by apply ByteArray.ext;rw[ByteArray.data_extract];simp
theorem JH (s:ByteArray)(w:World)(hs:s.size≤1000000):Calls Tryz.prog 160 #[.string s] w fun e w'=>e=.returned (.tuple #[.string (s.extract 0 (Sx.dash s.data.toList).toNat),.string (s.extract (Sx.dash s.data.toList+1).toNat s.size)])∧∃ q,w'=w.drewN q:=by
 have hd:lastTo s.data.toList 45 s.size=Sx.dash s.data.toList:=by rw[FU];unfold Sx.dash;rw[aC]
 have hbd:=Sx.oH s.data.toList s.size;have hbd2 : -1≤Sx.dash s.data.toList∧Sx.dash s.data.toList<s.size:=by unfold Sx.dash;rw[aC];exact hbd
 obtain⟨a,ha⟩:∃ a,Sx.dash s.data.toList=a:=⟨_,rfl⟩
 rw[ha] at hd hbd2 ⊢;have HD:=hide hd;clear hd hbd ha;obtain⟨ha0,ha1⟩:=hbd2;by_cases hn:a<0
 · have hm:a = -1:=by omega
   go_enter Tryz.func160,Tryz.ntmps160;go_wp2_with (go_at_call 129;go_must (refine(rD s 45 _ hs).mono ?_;rintro e w' ⟨rfl,rfl⟩;rw[HD.out]))
   go_ret2;refine⟨?_,0,rfl⟩;rw[show a.toNat=0 from by omega,show(a+1).toNat=0 from by omega,j6,O6];rfl
 · go_enter Tryz.func160,Tryz.ntmps160;go_wp2_with (go_at_call 129;go_must (refine(rD s 45 _ hs).mono ?_;rintro e w' ⟨rfl,rfl⟩;rw[HD.out]))
   go_quiet ((fail))
   go_wp2;go_ret2;exact⟨rfl,_,rfl⟩
def bE (s p:List UInt8):Bool:=decide (p.length≤s.length) && (s.take p.length == p)
def cR (s p:List UInt8):Bool:=decide (p.length≤s.length) && (s.drop (s.length-p.length) == p)
theorem rP (s p:ByteArray)(w:World):Calls Tryz.prog 170 #[.string s,.string p] w fun e w'=>e=.returned (.bool (bE s.data.toList p.data.toList))∧w'=w:=by
 by_cases h:p.size≤s.size
 · have hd:decide ((p.size:Int)≤(s.size:Int))=true:=by simp;omega
   have hf:bE s.data.toList p.data.toList=((s.extract 0 p.size).toList == p.toList):=by
    unfold bE;have a1:decide (p.size≤s.size)=true:=by simpa using h
    rw[aC,aC,a1,ByteArray.toList_eq,ByteArray.toList_eq,iO];rfl
   have HF:=hide hf;clear hf;go_enter Tryz.func170,Tryz.ntmps170;go_wp2;go_ret;exact⟨aP (by rw[HF.out]),rfl⟩
 · have hd:decide ((p.size:Int)≤(s.size:Int))=false:=by simp;omega
   have hf:bE s.data.toList p.data.toList=false:=by
    unfold bE;have a1:decide (p.size≤s.size)=false:=by simpa using h
    rw[aC,aC,a1];rfl
   have HF:=hide hf;clear hf;go_enter Tryz.func170,Tryz.ntmps170;go_wp2;go_ret;exact⟨aP (by rw[HF.out]),rfl⟩
theorem vT (s p:ByteArray)(w:World):Calls Tryz.prog 119 #[.string s,.string p] w fun e w'=>e=.returned (.bool (bE s.data.toList p.data.toList))∧w'=w:=by
 go_enter Tryz.func119,Tryz.ntmps119;go_wp2_with (go_at_call 170;go_must (refine(rP _ _ _).mono ?_;rintro e w' ⟨rfl,rfl⟩))
 go_ret;exact⟨rfl,rfl⟩
theorem QZ (s p:ByteArray)(w:World)(hs:s.size≤1000000):Calls Tryz.prog 100 #[.string s,.string p] w fun e w'=>e=.returned (.bool (cR s.data.toList p.data.toList))∧w'=w:=by
 by_cases h:p.size≤s.size
 · have hd:decide ((p.size:Int)≤(s.size:Int))=true:=by simp;omega
   have hf:cR s.data.toList p.data.toList=((s.extract (s.size-p.size) s.size).toList == p.toList):=by
    unfold cR;have a1:decide (p.size≤s.size)=true:=by simpa using h
    rw[aC,aC,a1,ByteArray.toList_eq,ByteArray.toList_eq,lV];rfl
   have HF:=hide hf;have hc:((s.size:Int)-(p.size:Int)).toNat=s.size-p.size:=by omega
   clear hf;go_enter Tryz.func100,Tryz.ntmps100;go_wp2;go_ret;exact⟨aP (by rw[HF.out]),rfl⟩
 · have hd:decide ((p.size:Int)≤(s.size:Int))=false:=by simp;omega
   have hf:cR s.data.toList p.data.toList=false:=by
    unfold cR;have a1:decide (p.size≤s.size)=false:=by simpa using h
    rw[aC,aC,a1];rfl
   have HF:=hide hf;clear hf;go_enter Tryz.func100,Tryz.ntmps100;go_wp2;go_ret;exact⟨aP (by rw[HF.out]),rfl⟩
theorem vJ (s p:ByteArray)(w:World)(hs:s.size≤1000000):Calls Tryz.prog 65 #[.string s,.string p] w fun e w'=>e=.returned (.bool (cR s.data.toList p.data.toList))∧w'=w:=by
 go_enter Tryz.func65,Tryz.ntmps65;go_wp2_with (go_at_call 100;go_must (refine(QZ _ _ _ hs).mono ?_;rintro e w' ⟨rfl,rfl⟩))
 go_ret;exact⟨rfl,rfl⟩
theorem ON (s p:ByteArray)(w:World):Calls Tryz.prog 159 #[.string s,.string p] w fun e w'=>e=.returned (.tuple #[.string (if bE s.data.toList p.data.toList then s.extract p.size s.size else s),.bool (bE s.data.toList p.data.toList)])∧w'=w:=by
 have hpl:bE s.data.toList p.data.toList=true→p.size≤s.size:=by
  intro h;unfold bE at h;rw[aC,aC] at h;simp at h;exact h.1
 obtain⟨r,hr⟩:∃ r,bE s.data.toList p.data.toList=r:=⟨_,rfl⟩
 rw[hr] at hpl ⊢;have HR:=hide hr;clear hr;cases r with
 | true =>
   have hple:=hpl rfl;clear hpl;go_enter Tryz.func159,Tryz.ntmps159;go_wp2_with (go_at_call 170;go_must (refine(rP _ _ _).mono ?_;rintro e w' ⟨rfl,rfl⟩;rw[HR.out]))
   go_ret2;exact⟨rfl,rfl⟩
 | false =>
   clear hpl;go_enter Tryz.func159,Tryz.ntmps159;go_wp2_with (go_at_call 170;go_must (refine(rP _ _ _).mono ?_;rintro e w' ⟨rfl,rfl⟩;rw[HR.out]))
   go_ret2;exact⟨rfl,rfl⟩
theorem qX (s p:ByteArray)(w:World):Calls Tryz.prog 114 #[.string s,.string p] w fun e w'=>e=.returned (.tuple #[.string (if bE s.data.toList p.data.toList then s.extract p.size s.size else s),.bool (bE s.data.toList p.data.toList)])∧w'=w:=by
 go_enter Tryz.func114,Tryz.ntmps114;go_wp2_with (go_at_call 159;go_must (refine(ON _ _ _).mono ?_;rintro e w' ⟨rfl,rfl⟩))
 all_goals
  go_ret2;exact⟨rfl,rfl⟩
theorem G0 (a b:ByteArray)(w:World):Calls Tryz.prog 134 #[.agg #[.string a,.string b]] w fun e w'=>e=.returned (.bool (!a.data.toList.isEmpty))∧Below w.heap.size w w':=by
 have hf:(!a.toList.isEmpty)=(!a.data.toList.isEmpty):=by rw[ByteArray.toList_eq]
 have HF:=hide hf;clear hf;go_enter Tryz.func134,Tryz.ntmps134;go_wp2;go_ret;exact⟨aP (by rw[←HF.out]),(Below.refl _ _).alloc (Nat.le_refl _) _⟩
theorem D6 (a b:ByteArray)(w:World):Calls Tryz.prog 136 #[.agg #[.string a,.string b]] w fun e w'=>e=.returned (.bool (decide (b.size≤20)))∧Below w.heap.size w w':=by
 have hf:decide ((b.size:Int)≤20)=decide (b.size≤20):=by rw[Bool.eq_iff_iff];simp;omega
 have HF:=hide hf;clear hf;go_enter Tryz.func136,Tryz.ntmps136;go_wp2;go_ret;exact⟨aP HF.out,(Below.refl _ _).alloc (Nat.le_refl _) _⟩
theorem AI (a b:ByteArray)(w:World):Calls Tryz.prog 33 #[.agg #[.string a,.string b]] w fun e w'=>e=.returned (.string b)∧Below w.heap.size w w':=by
 go_enter Tryz.func33,Tryz.ntmps33;go_wp2;go_ret;exact⟨rfl,(Below.refl _ _).alloc (Nat.le_refl _) _⟩
theorem E3 (a b:ByteArray)(w:World)(hs:b.size≤1000000):Calls Tryz.prog 137 #[.agg #[.string a,.string b]] w fun e w'=>e=.returned (.bool (!bE b.data.toList [45] && !cR b.data.toList [45]))∧Below w.heap.size w w':=by
 obtain⟨p,hp⟩:∃ p,bE b.data.toList [45]=p:=⟨_,rfl⟩
 obtain⟨q,hq⟩:∃ q,cR b.data.toList [45]=q:=⟨_,rfl⟩
 rw[hp,hq];have HP:=hide hp;have HQ:=hide hq;clear hp hq;cases p with
 | true =>
   go_enter Tryz.func137,Tryz.ntmps137;go_wp2_with (go_at_call 119;go_must (refine(vT _ _ _).mono ?_;rintro e w' ⟨rfl,rfl⟩;rw[HP.out]))
   go_ret;exact⟨rfl,(Below.refl _ _).alloc (Nat.le_refl _) _⟩
 | false =>
   go_enter Tryz.func137,Tryz.ntmps137;go_wp2_with (first | (go_at_call 119;go_must (refine(vT _ _ _).mono ?_;rintro e w' ⟨rfl,rfl⟩;rw[HP.out])) | (go_at_call 65;go_must (refine(vJ _ _ _ hs).mono ?_;rintro e w' ⟨rfl,rfl⟩;rw[HQ.out])))
   go_ret;exact⟨aP (by simp),(Below.refl _ _).alloc (Nat.le_refl _) _⟩
end Go.Proofs.YtgohllfpceeboabGreatDoor
