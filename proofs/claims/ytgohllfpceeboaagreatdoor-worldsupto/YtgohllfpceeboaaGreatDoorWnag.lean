import Derived.Test.YtgohllfpceeboaaGreatDoorWnaf
set_option maxHeartbeats 1000000
namespace Go.Proofs.YtgohllfpceeboaaGreatDoor
open Go.RowKit
theorem pfor_any (c:Int) (w:World):Calls Tryz.prog 128 #[.int .i32 c] w fun e w'=>e=.returned (.bool (decide (128≤c)))∧w'=w:=by
 go_enter Tryz.func128,Tryz.ntmps128;go_wp2;go_ret;exact ⟨rfl,rfl⟩
def isPl (c:Int):Bool:=decide (97≤c∧c≤122) || decide (48≤c∧c≤57) || decide (c=45)
theorem ret_bool {a b:Bool} (h:a=b):Ending.returned (.bool a)=.returned (.bool b):=by rw [h]
theorem pip_any (c:Int) (w:World):Calls Tryz.prog 211 #[.int .i32 c] w fun e w'=>e=.returned (.bool (isPl c))∧w'=w:=by
 obtain ⟨r,hr⟩:∃ r,isPl c=r:=⟨_,rfl⟩
 rw [hr];have HR:=hide hr;clear hr;by_cases h1:97≤c
 · by_cases h2:c≤122
   · have d1:decide (97≤c)=true:=by simpa using h1
     have d2:decide (c≤122)=true:=by simpa using h2
     go_enter Tryz.func211,Tryz.ntmps211;go_wp2;go_ret;exact ⟨ret_bool (by rw [←HR.out];simp [isPl,h1,h2]),rfl⟩
   · have d1:decide (97≤c)=true:=by simpa using h1
     have d2:decide (c≤122)=false:=by simpa using h2
     have d3:decide (48≤c)=true:=by simp;omega
     have d4:decide (c≤57)=false:=by simp;omega
     have d5:(c == 45)=false:=by simp;omega
     go_enter Tryz.func211,Tryz.ntmps211;go_wp2;go_ret;exact ⟨ret_bool (by rw [←HR.out];simp [isPl];omega),rfl⟩
 · have d1:decide (97≤c)=false:=by simpa using h1
   by_cases h3:48≤c
   · have d3:decide (48≤c)=true:=by simpa using h3
     by_cases h4:c≤57
     · have d4:decide (c≤57)=true:=by simpa using h4
       go_enter Tryz.func211,Tryz.ntmps211;go_wp2;go_ret;exact ⟨ret_bool (by rw [←HR.out];simp [isPl,h3,h4]),rfl⟩
     · have d4:decide (c≤57)=false:=by simpa using h4
       have d5:(c == 45)=false:=by simp;omega
       go_enter Tryz.func211,Tryz.ntmps211;go_wp2;go_ret;exact ⟨ret_bool (by rw [←HR.out];simp [isPl];omega),rfl⟩
   · have d3:decide (48≤c)=false:=by simpa using h3
     by_cases h5:c=45
     · have d5:(c == 45)=true:=by simpa using h5
       have H5:=hide h5;clear h5;go_enter Tryz.func211,Tryz.ntmps211;go_wp2;go_ret;exact ⟨ret_bool (by rw [←HR.out];simp [isPl,H5.out]),rfl⟩
     · have d5:(c == 45)=false:=by simpa using h5
       go_enter Tryz.func211,Tryz.ntmps211;go_wp2;go_ret;exact ⟨ret_bool (by rw [←HR.out];simp [isPl];omega),rfl⟩
def runeOk (c:Int):Bool:=decide (0≤c∧c<55296) || decide (57343<c∧c≤1114111)
theorem pvr_any (c:Int) (w:World):Calls Tryz.prog 124 #[.int .i32 c] w fun e w'=>e=.returned (.bool (runeOk c))∧w'=w:=by
 obtain ⟨r,hr⟩:∃ r,runeOk c=r:=⟨_,rfl⟩
 rw [hr];have HR:=hide hr;clear hr;by_cases h1:0≤c∧c<55296
 · obtain ⟨h1,h2⟩:=h1;go_enter Tryz.func124,Tryz.ntmps124;go_wp2;go_ret;exact ⟨ret_bool (by rw [←HR.out];simp [runeOk];omega),rfl⟩
 · by_cases h3:57343<c
   · have h2:¬ c<55296:=by omega
     have h0:0≤c:=by omega
     clear h1;by_cases h4:c≤1114111
     · go_enter Tryz.func124,Tryz.ntmps124;go_wp2;go_ret;exact ⟨ret_bool (by rw [←HR.out];simp [runeOk];omega),rfl⟩
     · go_enter Tryz.func124,Tryz.ntmps124;go_wp2;go_ret;exact ⟨ret_bool (by rw [←HR.out];simp [runeOk];omega),rfl⟩
   · by_cases h0:0≤c
     · have h2:¬ c<55296:=by omega
       clear h1;go_enter Tryz.func124,Tryz.ntmps124;go_wp2;go_ret;exact ⟨ret_bool (by rw [←HR.out];simp [runeOk];omega),rfl⟩
     · clear h1;go_enter Tryz.func124,Tryz.ntmps124;go_wp2;go_ret;exact ⟨ret_bool (by rw [←HR.out];simp [runeOk];omega),rfl⟩
def lastTo (s:List UInt8) (c:UInt8):Nat→Int
 | 0=>-1
 | k+1=>if s.getD k 0=c then (k:Int) else lastTo s c k
theorem lastTo_dash (s:List UInt8) (k:Nat):lastTo s 45 k=Sx.dashTo s k:=by
 induction k with
 | zero=>rfl
 | succ k ih=>simp only [lastTo,Sx.dashTo,ih]
theorem plast0_any (s:ByteArray) (c:UInt8) (w:World) (hs:s.size≤1000000):Calls Tryz.prog 210 #[.string s,.int .u8 c.toNat] w fun e w'=>e=.returned (.int .i64 (lastTo s.data.toList c s.size))∧w'=w:=by
 obtain ⟨r,hr⟩:∃ r,lastTo s.data.toList c s.size=r:=⟨_,rfl⟩
 rw [hr];have HR:=hide hr;clear hr;go_enter Tryz.func210,Tryz.ntmps210;go_wp2
 go_loop [5] (fun i=>∃ k:Nat,i=.int .i64 ((k:Int)-1)∧k≤s.size∧lastTo s.data.toList c k=r) (fun i=>(intOf i+1).toNat)
 case atStart=>exact ⟨s.size,by go_num,by omega,HR.out⟩
 case round =>
  obtain ⟨k,rfl,hk,hq⟩:=hrel;have HQ:=hide hq;clear hq;cases k with
  | zero =>
    go_wp2;go_ret;exact ⟨ret_int (by rw [←HQ.out];rfl),rfl⟩
  | succ k =>
    have hlt:k<s.size:=by omega
    have hst:lastTo s.data.toList c (k+1)=if s[k]=c then (k:Int) else lastTo s.data.toList c k:=by
     simp only [lastTo];rw [ba_get s k hlt]
    rw [show (((k+1:Nat):Int)-1)=(k:Int) from by omega];by_cases hc:s[k]=c
    · have hb:((s[k].toNat:Int) == (c.toNat:Int))=true:=by rw [hc];simp
      have hv:r=(k:Int):=by rw [←HQ.out,hst,if_pos hc]
      have HV:=hide hv;clear hst hc hv;go_wp2;go_ret;exact ⟨ret_int HV.out.symm,rfl⟩
    · have hb:((s[k].toNat:Int) == (c.toNat:Int))=false:=by
       simp only [beq_eq_false_iff_ne,ne_eq];intro h;apply hc;apply UInt8.toNat.inj;omega
      have hv:lastTo s.data.toList c k=r:=by rw [←HQ.out,hst,if_neg hc]
      have HV:=hide hv;clear hst hc hv;go_wp2
      go_round
      case rel=>exact ⟨k,by go_num,by omega,HV.out⟩
      case measure=>simp [intOf]
theorem plast_any (s:ByteArray) (c:UInt8) (w:World) (hs:s.size≤1000000):Calls Tryz.prog 160 #[.string s,.int .u8 c.toNat] w fun e w'=>e=.returned (.int .i64 (lastTo s.data.toList c s.size))∧w'=w:=by
 go_enter Tryz.func160,Tryz.ntmps160;go_wp2_with (go_at_call 210;go_must (refine (plast0_any _ _ _ hs).mono ?_;rintro e w' ⟨rfl,rfl⟩))
 go_ret;exact ⟨rfl,rfl⟩
theorem ba_none (s:ByteArray):s.extract 0 0=⟨#[]⟩:=by apply ByteArray.ext;simp
theorem ba_all (s:ByteArray):s.extract 0 s.size=s:=by apply ByteArray.ext;rw [ByteArray.data_extract];simp
theorem psplit_any (s:ByteArray) (w:World) (hs:s.size≤1000000):Calls Tryz.prog 119 #[.string s] w fun e w'=>e=.returned (.tuple #[.string (s.extract 0 (Sx.dash s.data.toList).toNat),.string (s.extract (Sx.dash s.data.toList+1).toNat s.size)])∧∃ q,w'=w.drewN q:=by
 have hd:lastTo s.data.toList 45 s.size=Sx.dash s.data.toList:=by rw [lastTo_dash];unfold Sx.dash;rw [ba_len]
 have hbd:=Sx.dashTo_bd s.data.toList s.size;have hbd2 : -1≤Sx.dash s.data.toList∧Sx.dash s.data.toList<s.size:=by unfold Sx.dash;rw [ba_len];exact hbd
 obtain ⟨a,ha⟩:∃ a,Sx.dash s.data.toList=a:=⟨_,rfl⟩
 rw [ha] at hd hbd2 ⊢;have HD:=hide hd;clear hd hbd ha;obtain ⟨ha0,ha1⟩:=hbd2;by_cases hn:a<0
 · have hm:a = -1:=by omega
   go_enter Tryz.func119,Tryz.ntmps119;go_wp2_with (go_at_call 160;go_must (refine (plast_any s 45 _ hs).mono ?_;rintro e w' ⟨rfl,rfl⟩;rw [HD.out]))
   go_ret2;refine ⟨?_,0,rfl⟩;rw [show a.toNat=0 from by omega,show (a+1).toNat=0 from by omega,ba_none,ba_all];rfl
 · go_enter Tryz.func119,Tryz.ntmps119;go_wp2_with (go_at_call 160;go_must (refine (plast_any s 45 _ hs).mono ?_;rintro e w' ⟨rfl,rfl⟩;rw [HD.out]))
   go_quiet ((fail))
   go_wp2;go_ret2;exact ⟨rfl,_,rfl⟩
def prefixB (s p:List UInt8):Bool:=decide (p.length≤s.length) && (s.take p.length == p)
def suffixB (s p:List UInt8):Bool:=decide (p.length≤s.length) && (s.drop (s.length-p.length) == p)
theorem phas0_any (s p:ByteArray) (w:World):Calls Tryz.prog 169 #[.string s,.string p] w fun e w'=>e=.returned (.bool (prefixB s.data.toList p.data.toList))∧w'=w:=by
 by_cases h:p.size≤s.size
 · have hd:decide ((p.size:Int)≤(s.size:Int))=true:=by simp;omega
   have hf:prefixB s.data.toList p.data.toList=((s.extract 0 p.size).toList == p.toList):=by
    unfold prefixB;have a1:decide (p.size≤s.size)=true:=by simpa using h
    rw [ba_len,ba_len,a1,ByteArray.toList_eq,ByteArray.toList_eq,ba_take];rfl
   have HF:=hide hf;clear hf;go_enter Tryz.func169,Tryz.ntmps169;go_wp2;go_ret;exact ⟨ret_bool (by rw [HF.out]),rfl⟩
 · have hd:decide ((p.size:Int)≤(s.size:Int))=false:=by simp;omega
   have hf:prefixB s.data.toList p.data.toList=false:=by
    unfold prefixB;have a1:decide (p.size≤s.size)=false:=by simpa using h
    rw [ba_len,ba_len,a1];rfl
   have HF:=hide hf;clear hf;go_enter Tryz.func169,Tryz.ntmps169;go_wp2;go_ret;exact ⟨ret_bool (by rw [HF.out]),rfl⟩
theorem phas_any (s p:ByteArray) (w:World):Calls Tryz.prog 180 #[.string s,.string p] w fun e w'=>e=.returned (.bool (prefixB s.data.toList p.data.toList))∧w'=w:=by
 go_enter Tryz.func180,Tryz.ntmps180;go_wp2_with (go_at_call 169;go_must (refine (phas0_any _ _ _).mono ?_;rintro e w' ⟨rfl,rfl⟩))
 go_ret;exact ⟨rfl,rfl⟩
theorem psuf0_any (s p:ByteArray) (w:World) (hs:s.size≤1000000):Calls Tryz.prog 196 #[.string s,.string p] w fun e w'=>e=.returned (.bool (suffixB s.data.toList p.data.toList))∧w'=w:=by
 by_cases h:p.size≤s.size
 · have hd:decide ((p.size:Int)≤(s.size:Int))=true:=by simp;omega
   have hf:suffixB s.data.toList p.data.toList=((s.extract (s.size-p.size) s.size).toList == p.toList):=by
    unfold suffixB;have a1:decide (p.size≤s.size)=true:=by simpa using h
    rw [ba_len,ba_len,a1,ByteArray.toList_eq,ByteArray.toList_eq,ba_drop];rfl
   have HF:=hide hf;have hc:((s.size:Int)-(p.size:Int)).toNat=s.size-p.size:=by omega
   clear hf;go_enter Tryz.func196,Tryz.ntmps196;go_wp2;go_ret;exact ⟨ret_bool (by rw [HF.out]),rfl⟩
 · have hd:decide ((p.size:Int)≤(s.size:Int))=false:=by simp;omega
   have hf:suffixB s.data.toList p.data.toList=false:=by
    unfold suffixB;have a1:decide (p.size≤s.size)=false:=by simpa using h
    rw [ba_len,ba_len,a1];rfl
   have HF:=hide hf;clear hf;go_enter Tryz.func196,Tryz.ntmps196;go_wp2;go_ret;exact ⟨ret_bool (by rw [HF.out]),rfl⟩
theorem psuf_any (s p:ByteArray) (w:World) (hs:s.size≤1000000):Calls Tryz.prog 145 #[.string s,.string p] w fun e w'=>e=.returned (.bool (suffixB s.data.toList p.data.toList))∧w'=w:=by
 go_enter Tryz.func145,Tryz.ntmps145;go_wp2_with (go_at_call 196;go_must (refine (psuf0_any _ _ _ hs).mono ?_;rintro e w' ⟨rfl,rfl⟩))
 go_ret;exact ⟨rfl,rfl⟩
theorem pcut0_any (s p:ByteArray) (w:World):Calls Tryz.prog 118 #[.string s,.string p] w fun e w'=>e=.returned (.tuple #[.string (if prefixB s.data.toList p.data.toList then s.extract p.size s.size else s),.bool (prefixB s.data.toList p.data.toList)])∧w'=w:=by
 have hpl:prefixB s.data.toList p.data.toList=true→p.size≤s.size:=by
  intro h;unfold prefixB at h;rw [ba_len,ba_len] at h;simp at h;exact h.1
 obtain ⟨r,hr⟩:∃ r,prefixB s.data.toList p.data.toList=r:=⟨_,rfl⟩
 rw [hr] at hpl ⊢;have HR:=hide hr;clear hr;cases r with
 | true =>
   have hple:=hpl rfl;clear hpl;go_enter Tryz.func118,Tryz.ntmps118;go_wp2_with (go_at_call 169;go_must (refine (phas0_any _ _ _).mono ?_;rintro e w' ⟨rfl,rfl⟩;rw [HR.out]))
   go_ret2;exact ⟨rfl,rfl⟩
 | false =>
   clear hpl;go_enter Tryz.func118,Tryz.ntmps118;go_wp2_with (go_at_call 169;go_must (refine (phas0_any _ _ _).mono ?_;rintro e w' ⟨rfl,rfl⟩;rw [HR.out]))
   go_ret2;exact ⟨rfl,rfl⟩
theorem pcut_any (s p:ByteArray) (w:World):Calls Tryz.prog 73 #[.string s,.string p] w fun e w'=>e=.returned (.tuple #[.string (if prefixB s.data.toList p.data.toList then s.extract p.size s.size else s),.bool (prefixB s.data.toList p.data.toList)])∧w'=w:=by
 go_enter Tryz.func73,Tryz.ntmps73;go_wp2_with (go_at_call 118;go_must (refine (pcut0_any _ _ _).mono ?_;rintro e w' ⟨rfl,rfl⟩))
 all_goals
  go_ret2;exact ⟨rfl,rfl⟩
theorem phl_any (a b:ByteArray) (w:World):Calls Tryz.prog 162 #[.agg #[.string a,.string b]] w fun e w'=>e=.returned (.bool (!a.data.toList.isEmpty))∧Below w.heap.size w w':=by
 have hf:(!a.toList.isEmpty)=(!a.data.toList.isEmpty):=by rw [ByteArray.toList_eq]
 have HF:=hide hf;clear hf;go_enter Tryz.func162,Tryz.ntmps162;go_wp2;go_ret;exact ⟨ret_bool (by rw [←HF.out]),(Below.refl _ _).alloc (Nat.le_refl _) _⟩
theorem psh_any (a b:ByteArray) (w:World):Calls Tryz.prog 164 #[.agg #[.string a,.string b]] w fun e w'=>e=.returned (.bool (decide (b.size≤20)))∧Below w.heap.size w w':=by
 have hf:decide ((b.size:Int)≤20)=decide (b.size≤20):=by rw [Bool.eq_iff_iff];simp;omega
 have HF:=hide hf;clear hf;go_enter Tryz.func164,Tryz.ntmps164;go_wp2;go_ret;exact ⟨ret_bool HF.out,(Below.refl _ _).alloc (Nat.le_refl _) _⟩
theorem ppf_any (a b:ByteArray) (w:World):Calls Tryz.prog 48 #[.agg #[.string a,.string b]] w fun e w'=>e=.returned (.string b)∧Below w.heap.size w w':=by
 go_enter Tryz.func48,Tryz.ntmps48;go_wp2;go_ret;exact ⟨rfl,(Below.refl _ _).alloc (Nat.le_refl _) _⟩
theorem phy_any (a b:ByteArray) (w:World) (hs:b.size≤1000000):Calls Tryz.prog 165 #[.agg #[.string a,.string b]] w fun e w'=>e=.returned (.bool (!prefixB b.data.toList [45] && !suffixB b.data.toList [45]))∧Below w.heap.size w w':=by
 obtain ⟨p,hp⟩:∃ p,prefixB b.data.toList [45]=p:=⟨_,rfl⟩
 obtain ⟨q,hq⟩:∃ q,suffixB b.data.toList [45]=q:=⟨_,rfl⟩
 rw [hp,hq];have HP:=hide hp;have HQ:=hide hq;clear hp hq;cases p with
 | true =>
   go_enter Tryz.func165,Tryz.ntmps165;go_wp2_with (go_at_call 180;go_must (refine (phas_any _ _ _).mono ?_;rintro e w' ⟨rfl,rfl⟩;rw [HP.out]))
   go_ret;exact ⟨rfl,(Below.refl _ _).alloc (Nat.le_refl _) _⟩
 | false =>
   go_enter Tryz.func165,Tryz.ntmps165;go_wp2_with (first | (go_at_call 180;go_must (refine (phas_any _ _ _).mono ?_;rintro e w' ⟨rfl,rfl⟩;rw [HP.out])) | (go_at_call 145;go_must (refine (psuf_any _ _ _ hs).mono ?_;rintro e w' ⟨rfl,rfl⟩;rw [HQ.out])))
   go_ret;exact ⟨ret_bool (by simp),(Below.refl _ _).alloc (Nat.le_refl _) _⟩
end Go.Proofs.YtgohllfpceeboaaGreatDoor
