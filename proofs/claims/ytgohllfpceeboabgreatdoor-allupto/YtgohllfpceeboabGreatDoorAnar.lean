import Derived.Test.YtgohllfpceeboabGreatDoorAnap
import Derived.Test.YtgohllfpceeboabGreatDoorAnaq
import Derived.Test.YtgohllfpceeboabGreatDoorAnao
import Derived.Shelf.Strings.BuilderK
import Derived.RangeFuncBox
set_option maxRecDepth 100000
set_option maxHeartbeats 8000000
namespace Go.Proofs.YtgohllfpceeboabGreatDoor
theorem Tryz.info69 : (Tryz.prog.info? 69).map (fun i => (i.zero, i.size, i.bytes)) = some (some (.agg #[.string ⟨#[]⟩, .string ⟨#[]⟩]), 2, 32) := by kernel_rfl
open Go.RowKit
attribute [local go_sem ↓] Go.wp_at_zero Go.wp_at_succ
def LabsAt (W:World)(g:Nat)(l:List (ByteArray×ByteArray)):Prop :=
 g<W.heap.size∧(∀ j (h:j<l.length),W.cell? ⟨g,j*2,none⟩=some (.string l[j].1)∧W.cell? ⟨g,j*2+1,none⟩=some (.string l[j].2))∧∀ o,W.frozen? ⟨g,o,none⟩=false
theorem LabsAt.below {W W':World}{g B:Nat}{l:List (ByteArray×ByteArray)}(h:LabsAt W g l)(hb:Below B W W')(hg:g<B):LabsAt W' g l :=
 ⟨Nat.lt_of_lt_of_le h.1 hb.size,fun j hj=>⟨(hb.cell (p:=⟨g,j*2,none⟩) hg).trans (h.2.1 j hj).1,(hb.cell (p:=⟨g,j*2+1,none⟩) hg).trans (h.2.1 j hj).2⟩,fun o=>(hb.frozen (p:=⟨g,o,none⟩) hg).trans (h.2.2 o)⟩
theorem LR {w w':World}{B C n:Nat}{e:TypeId}{z:Nat}{v:Value}{xs:List Value}(h:w.ownsRowF B e z v n xs)(hb:Below C w w')(hC:w.heap.size≤C):w'.ownsRowF B e z v n xs:=by
 refine⟨h.1,?_⟩;rcases h.2 with h2 | ⟨g,cap,cur,fz,h1,h2,h3,h4⟩
 · exact .inl h2
 · exact .inr ⟨g,cap,cur,fz,h1,h2,by rw[hb.block g (by have:=(Array.getElem?_eq_some_iff.1 h3).1;omega)];exact h3,h4⟩
theorem dK {w w':World}{T e:TypeId}{B b:Nat}{bs:List Value}(h:Lib.IsBuilderF T e B b bs w)(hb:Below w.heap.size w w'):Lib.IsBuilderF T e B b bs w':=by
 have key:∀ p,Lib.BuilderAtF T e B b p bs w→Lib.BuilderAtF T e B b p bs w':=by
  rintro p ⟨h1,v,h2,h3,h4⟩;exact⟨h1,v,by rw[hb.block b (Array.getElem?_eq_some_iff.1 h2).1];exact h2,LR h3 hb (Nat.le_refl _),h4⟩
 exact h.imp (key _) (key _)
theorem pV {w:World}{T e:TypeId}{B b:Nat}{bs:List Value}(h:Lib.IsBuilderF T e B b bs w):b<w.heap.size:=by
 rcases h with ⟨_,v,h2,_⟩ | ⟨_,v,h2,_⟩ <;> exact(Array.getElem?_eq_some_iff.1 h2).1
theorem FY {w w':World}{b k:Nat}{x y:Value}(h:w.heap[k]? = some (.cells #[x,y] 69))(hk:k≠b)(ho:Lib.OthersKept 5 (some b) w w'):w'.heap[k]? = some (.cells #[x,y] 69) :=
 ho k _ h (fun e=>hk (Option.some.inj e)) (fun c fz e=>by cases e)
theorem nS {w:World}{k:Nat}{x y:Value}(h:w.heap[k]? = some (.cells #[x,y] 69)):w.cell? ⟨k,0,none⟩=some x∧w.cell? ⟨k,1,none⟩=some y:=by
 constructor <;> rw[Lib.cell_of_heap h] <;> rfl
theorem hU (a b:List UInt8):Lib.byteCells (a++b)=Lib.byteCells a++Lib.byteCells b:=by simp[Lib.byteCells]
theorem MJ (B b:Nat)(bs:List UInt8)(w:World)(h:Lib.IsBuilderF 134 5 B b (Lib.byteCells bs) w)(hl:bs.length≤1000000)(hB:B≤w.heap.size) :
 Calls Tryz.prog 89 #[.pointer (some ⟨b,0,none⟩),.int .u8 46] w fun e w'=>(∃ v,e=.returned v)∧Lib.IsBuilderF 134 5 B b (Lib.byteCells (bs++[46])) w'∧Below B w w'∧Lib.OthersKept 5 (some b) w w':=by
 have:=Any.Builder_WriteByte_k Tryz.layWB Tryz.bX B b (Lib.byteCells bs) 46 w h (by simp[Lib.byteCells];omega) hB;refine Calls.mono this ?_;rintro e w' ⟨rfl,h1,h2,h3⟩;exact⟨⟨_,rfl⟩,.inr (by rw[hU];exact h1),h2,h3⟩
theorem qG (B b:Nat)(bs:List UInt8)(s:ByteArray)(w:World)(h:Lib.IsBuilderF 134 5 B b (Lib.byteCells bs) w)(hl:bs.length≤1000000)(hs:s.size≤1000000)(hB:B≤w.heap.size) :
 Calls Tryz.prog 90 #[.pointer (some ⟨b,0,none⟩),.string s] w fun e w'=>(∃ v,e=.returned v)∧Lib.IsBuilderF 134 5 B b (Lib.byteCells (bs++s.data.toList)) w'∧Below B w w'∧Lib.OthersKept 5 (some b) w w':=by
 have:=Any.Builder_WriteString_k Tryz.layWS Tryz.bX B b (Lib.byteCells bs) s w h (by simp[Lib.byteCells];omega) hB;refine Calls.mono this ?_;rintro e w' ⟨rfl,h1,h2,h3⟩;exact⟨⟨_,rfl⟩,.inr (by rw[hU];exact h1),h2,h3⟩
theorem IF (B b:Nat)(bs:List UInt8)(w:World)(h:Lib.IsBuilderF 134 5 B b (Lib.byteCells bs) w)(hB:B≤w.heap.size) :
 Calls Tryz.prog 91 #[.pointer (some ⟨b,0,none⟩)] w fun e w'=>e=.returned (.string ⟨bs.toArray⟩)∧Below B w w':=by
 have:=Any.Builder_String_any_k Tryz.layST Tryz.bX B b bs w h hB;refine Calls.mono this ?_;rintro e w' ⟨rfl,_,h2,_⟩;exact⟨rfl,h2⟩
theorem BE (L:List (ByteArray×ByteArray))(sh:List UInt8→List UInt8)(g cap:Nat)(w:World)(hL:LabsAt w g L)(hn:L.length≤100)(hsh:∀ x∈L,(sh x.2.data.toList).length≤1000)
 (hf:∀ x∈L,∀ w,Calls Tryz.prog 33 #[.agg #[.string x.1,.string x.2]] w fun e w'=>e=.returned (.string ⟨(sh x.2.data.toList).toArray⟩)∧Below w.heap.size w w') :
 Calls Tryz.prog 53 #[.slice (some ⟨g,0,none⟩) L.length cap,.func (.func 33) #[] #[]] w fun e w'=>e=.returned (.string ⟨(Sx.aA (L.map fun x=>sh x.2.data.toList)).toArray⟩)∧Below w.heap.size w w':=by
 obtain⟨H,hH⟩:∃ H,L.map (fun x=>sh x.2.data.toList)=H:=⟨_,rfl⟩
 have hHl:H.length=L.length:=by rw[←hH,List.length_map]
 have hHk:∀ k (h:k<L.length) (h2:k<H.length),H[k]=sh L[k].2.data.toList:=fun k h h2=>by simp[←hH]
 rw[hH];have hlen:∀ k,k≤L.length→(Sx.aA (H.take k)).length≤k*1001:=by
  intro k
  induction k with
  | zero=>intro _;simp[Sx.aA]
  | succ k ih =>
    intro hk;rw[jS H k (by omega),List.length_append,hHk k (by omega) (by omega)];have h1:=ih (by omega);have h2:=hsh L[k] (List.getElem_mem (by omega));split
    · simp;omega
    · rw[List.length_append];simp;omega
 have HL:=hide hL;have HF:=hide hf;have HHK:=hide hHk;have HLEN:=hide hlen;have HSH:=hide hsh;have HHL:=hide hHl;have hgl:=hL.1;clear hL hf hHk hlen hsh hH;have hb0:Lib.IsBuilderF 134 5 w.heap.size w.heap.size (Lib.byteCells (Sx.aA (H.take 0))) (w.alloc (.cells #[.pointer none,.slice none 0 0] 134)) :=
  .inl ⟨Nat.le_refl _,.slice none 0 0,by show(w.heap.push _)[w.heap.size]? = _;exact Array.getElem?_push_size,World.ownsRowF_nil _ _ _ _,by simp[Value.ownBlock]⟩
 have hB0:Below w.heap.size w (w.alloc (.cells #[.pointer none,.slice none 0 0] 134)):=(Below.refl _ _).alloc (Nat.le_refl _) _;obtain⟨n,hnn⟩:∃ n,L.length=n:=⟨_,rfl⟩
 rw[hnn] at hn HHL HLEN hHl ⊢;have HNN:=hide hnn;clear hnn hHl;go_enter Tryz.func53,Tryz.ntmps53;go_wp2
 go_loopw [10] (fun i wr=>∃ k:Nat,i=.int .i64 k∧k≤n∧Lib.IsBuilderF 134 5 w.heap.size w.heap.size (Lib.byteCells (Sx.aA (H.take k))) wr∧Below w.heap.size w wr) (fun i _=>(n-intOf i).toNat)
 case atStart=>exact⟨0,rfl,by omega,hb0,hB0⟩
 case round =>
  obtain⟨k,rfl,hk,hbu,hB⟩:=hrel;clear hb0 hB0;by_cases hlt:k<n
  · have hkl:k<L.length:=by rw[HNN.out];exact hlt
    have hLw:=HL.out.below hB hgl;obtain⟨j1,j2⟩:=hLw.2.1 k hkl;have hfx:=HF.out L[k] (List.getElem_mem hkl);have hst:=jS H k (by rw[HHL.out];exact hlt);rw[HHK.out k hkl (by rw[HHL.out];exact hlt)] at hst;have hsz:=HSH.out L[k] (List.getElem_mem hkl);have hln:=HLEN.out k hk;obtain⟨x,hx⟩:∃ x,L[k]=x:=⟨_,rfl⟩
    rw[hx] at j1 j2 hfx hst hsz;obtain⟨xa,xb⟩:=x;simp only at j1 j2 hfx hst hsz;obtain⟨T,hT⟩:∃ T:ByteArray,⟨(sh xb.data.toList).toArray⟩=T:=⟨_,rfl⟩
    have hTl:T.data.toList=sh xb.data.toList:=by rw[←hT]
    have hTz:T.size≤1000:=by rw[←aC,hTl];exact hsz
    rw[hT] at hfx;rw[←hTl] at hst;obtain⟨out,ho⟩:∃ out,Sx.aA (H.take k)=out:=⟨_,rfl⟩
    have HOU:Hid (k=0→out=[]):=hide (fun h=>by rw[←ho,h];rfl);rw[ho] at hst hbu hln;have HFX:=hide hfx;have HST:=hide hst;have hle:k*1001≤100100:=by omega
    have e1:(0:Int)≤(k:Int):=by omega
    have e2:(k:Int)<(n:Int):=by omega
    have hsw:=hB.size;have HBU:=hide hbu;have hbl:=pV hbu;clear hfx hst ho hT hTl hx hsz hLw hbu;have hx0:(wr.alloc (.cells #[.string xa,.string xb] 69)).heap[wr.heap.size]? = some (.cells #[.string xa,.string xb] 69):=by show(wr.heap.push _)[wr.heap.size]? = _;exact Array.getElem?_push_size
    have hBa:Below wr.heap.size wr (wr.alloc (.cells #[.string xa,.string xb] 69)):=(Below.refl _ wr).alloc (Nat.le_refl _) _;have HBU2:=hide (dK HBU.out hBa);have hBB:=hB.trans (hBa.mono hsw);have hsa:w.heap.size≤(wr.alloc (.cells #[.string xa,.string xb] 69)).heap.size:=Nat.le_trans hsw hBa.size;have hbb:wr.heap.size≠w.heap.size:=by omega
    obtain⟨tb,htb⟩:∃ tb,wr.heap.size=tb:=⟨_,rfl⟩
    rw[htb] at hx0 hbb;by_cases hk0:k=0
    · have hk1:(0<k)=False:=by simp;omega
      obtain⟨z1,z2⟩:=nS hx0;rw[if_pos hk0] at HST;have HO0:=hide (HOU.out hk0);clear hk0;go_wp2_with (first | (go_at_call 33;go_must (refine(HFX.out _).mono ?_;rintro e w3 ⟨rfl,hB3⟩;have HBU3:=hide (dK HBU2.out hB3);have hs3:=Nat.le_trans hsa hB3.size)) | (go_at_call 90;go_must (refine(qG _ _ _ _ _ HBU3.out (by omega) (by omega) hs3).mono ?_;rintro e w4 ⟨⟨v4,rfl⟩,hBU4,hB4,ho4⟩)))
      refine⟨⟨k+1,by go_num,by omega,?_,(hBB.trans (hB3.mono hsa)).trans hB4⟩,by simp[intOf];omega⟩;rw[HST.out];rw[HO0.out] at hBU4;exact hBU4
    · have hk1:(0<k)=True:=by simp;omega
      rw[if_neg hk0] at HST;clear hk0;go_wp2_with (first | (go_at_call 89;go_must (refine(MJ _ _ _ _ HBU2.out (by omega) hsa).mono ?_;rintro e w2 ⟨⟨v2,rfl⟩,hBU2,hB2,ho2⟩;have hx2:=FY hx0 hbb ho2;have hz:=nS hx2;have z1:=hz.1;have z2:=hz.2;have HBU22:=hide hBU2;have hs2:=Nat.le_trans hsa hB2.size;clear hz hBU2)) | (go_at_call 33;go_must (refine(HFX.out _).mono ?_;rintro e w3 ⟨rfl,hB3⟩;have HBU3:=hide (dK HBU22.out hB3);have hs3:=Nat.le_trans hs2 hB3.size)) | (go_at_call 90;go_must (refine(qG _ _ _ _ _ HBU3.out (by simp;omega) (by omega) hs3).mono ?_;rintro e w4 ⟨⟨v4,rfl⟩,hBU4,hB4,ho4⟩)))
      refine⟨⟨k+1,by go_num,by omega,?_,((hBB.trans hB2).trans (hB3.mono hs2)).trans hB4⟩,by simp[intOf];omega⟩;rw[HST.out];exact hBU4
  · have hkn:k=n:=by omega
    have htk:H.take k=H:=List.take_of_length_le (by rw[HHL.out];omega);rw[htk] at hbu;have HBU:=hide hbu;have hsw:=hB.size;clear hbu htk;go_wp2_with (go_at_call 91;go_must (refine(IF _ _ _ _ HBU.out hsw).mono ?_;rintro e w2 ⟨rfl,hB2⟩))
    go_ret;exact⟨rfl,hB.trans hB2⟩
theorem y8 (L:List (ByteArray×ByteArray))(sh:List UInt8→List UInt8)(g cap:Nat)(w:World)(hL:LabsAt w g L)(hn:L.length≤100)(hsh:∀ x∈L,(sh x.2.data.toList).length≤1000)
 (hf:∀ x∈L,∀ w,Calls Tryz.prog 73 #[.agg #[.string x.1,.string x.2]] w fun e w'=>e=.returned (.string ⟨(sh x.2.data.toList).toArray⟩)∧Below w.heap.size w w') :
 Calls Tryz.prog 53 #[.slice (some ⟨g,0,none⟩) L.length cap,.func (.func 73) #[] #[]] w fun e w'=>e=.returned (.string ⟨(Sx.aA (L.map fun x=>sh x.2.data.toList)).toArray⟩)∧Below w.heap.size w w':=by
 obtain⟨H,hH⟩:∃ H,L.map (fun x=>sh x.2.data.toList)=H:=⟨_,rfl⟩
 have hHl:H.length=L.length:=by rw[←hH,List.length_map]
 have hHk:∀ k (h:k<L.length) (h2:k<H.length),H[k]=sh L[k].2.data.toList:=fun k h h2=>by simp[←hH]
 rw[hH];have hlen:∀ k,k≤L.length→(Sx.aA (H.take k)).length≤k*1001:=by
  intro k
  induction k with
  | zero=>intro _;simp[Sx.aA]
  | succ k ih =>
    intro hk;rw[jS H k (by omega),List.length_append,hHk k (by omega) (by omega)];have h1:=ih (by omega);have h2:=hsh L[k] (List.getElem_mem (by omega));split
    · simp;omega
    · rw[List.length_append];simp;omega
 have HL:=hide hL;have HF:=hide hf;have HHK:=hide hHk;have HLEN:=hide hlen;have HSH:=hide hsh;have HHL:=hide hHl;have hgl:=hL.1;clear hL hf hHk hlen hsh hH;have hb0:Lib.IsBuilderF 134 5 w.heap.size w.heap.size (Lib.byteCells (Sx.aA (H.take 0))) (w.alloc (.cells #[.pointer none,.slice none 0 0] 134)) :=
  .inl ⟨Nat.le_refl _,.slice none 0 0,by show(w.heap.push _)[w.heap.size]? = _;exact Array.getElem?_push_size,World.ownsRowF_nil _ _ _ _,by simp[Value.ownBlock]⟩
 have hB0:Below w.heap.size w (w.alloc (.cells #[.pointer none,.slice none 0 0] 134)):=(Below.refl _ _).alloc (Nat.le_refl _) _;obtain⟨n,hnn⟩:∃ n,L.length=n:=⟨_,rfl⟩
 rw[hnn] at hn HHL HLEN hHl ⊢;have HNN:=hide hnn;clear hnn hHl;go_enter Tryz.func53,Tryz.ntmps53;go_wp2
 go_loopw [10] (fun i wr=>∃ k:Nat,i=.int .i64 k∧k≤n∧Lib.IsBuilderF 134 5 w.heap.size w.heap.size (Lib.byteCells (Sx.aA (H.take k))) wr∧Below w.heap.size w wr) (fun i _=>(n-intOf i).toNat)
 case atStart=>exact⟨0,rfl,by omega,hb0,hB0⟩
 case round =>
  obtain⟨k,rfl,hk,hbu,hB⟩:=hrel;clear hb0 hB0;by_cases hlt:k<n
  · have hkl:k<L.length:=by rw[HNN.out];exact hlt
    have hLw:=HL.out.below hB hgl;obtain⟨j1,j2⟩:=hLw.2.1 k hkl;have hfx:=HF.out L[k] (List.getElem_mem hkl);have hst:=jS H k (by rw[HHL.out];exact hlt);rw[HHK.out k hkl (by rw[HHL.out];exact hlt)] at hst;have hsz:=HSH.out L[k] (List.getElem_mem hkl);have hln:=HLEN.out k hk;obtain⟨x,hx⟩:∃ x,L[k]=x:=⟨_,rfl⟩
    rw[hx] at j1 j2 hfx hst hsz;obtain⟨xa,xb⟩:=x;simp only at j1 j2 hfx hst hsz;obtain⟨T,hT⟩:∃ T:ByteArray,⟨(sh xb.data.toList).toArray⟩=T:=⟨_,rfl⟩
    have hTl:T.data.toList=sh xb.data.toList:=by rw[←hT]
    have hTz:T.size≤1000:=by rw[←aC,hTl];exact hsz
    rw[hT] at hfx;rw[←hTl] at hst;obtain⟨out,ho⟩:∃ out,Sx.aA (H.take k)=out:=⟨_,rfl⟩
    have HOU:Hid (k=0→out=[]):=hide (fun h=>by rw[←ho,h];rfl);rw[ho] at hst hbu hln;have HFX:=hide hfx;have HST:=hide hst;have hle:k*1001≤100100:=by omega
    have e1:(0:Int)≤(k:Int):=by omega
    have e2:(k:Int)<(n:Int):=by omega
    have hsw:=hB.size;have HBU:=hide hbu;have hbl:=pV hbu;clear hfx hst ho hT hTl hx hsz hLw hbu;have hx0:(wr.alloc (.cells #[.string xa,.string xb] 69)).heap[wr.heap.size]? = some (.cells #[.string xa,.string xb] 69):=by show(wr.heap.push _)[wr.heap.size]? = _;exact Array.getElem?_push_size
    have hBa:Below wr.heap.size wr (wr.alloc (.cells #[.string xa,.string xb] 69)):=(Below.refl _ wr).alloc (Nat.le_refl _) _;have HBU2:=hide (dK HBU.out hBa);have hBB:=hB.trans (hBa.mono hsw);have hsa:w.heap.size≤(wr.alloc (.cells #[.string xa,.string xb] 69)).heap.size:=Nat.le_trans hsw hBa.size;have hbb:wr.heap.size≠w.heap.size:=by omega
    obtain⟨tb,htb⟩:∃ tb,wr.heap.size=tb:=⟨_,rfl⟩
    rw[htb] at hx0 hbb;by_cases hk0:k=0
    · have hk1:(0<k)=False:=by simp;omega
      obtain⟨z1,z2⟩:=nS hx0;rw[if_pos hk0] at HST;have HO0:=hide (HOU.out hk0);clear hk0;go_wp2_with (first | (go_at_call 73;go_must (refine(HFX.out _).mono ?_;rintro e w3 ⟨rfl,hB3⟩;have HBU3:=hide (dK HBU2.out hB3);have hs3:=Nat.le_trans hsa hB3.size)) | (go_at_call 90;go_must (refine(qG _ _ _ _ _ HBU3.out (by omega) (by omega) hs3).mono ?_;rintro e w4 ⟨⟨v4,rfl⟩,hBU4,hB4,ho4⟩)))
      refine⟨⟨k+1,by go_num,by omega,?_,(hBB.trans (hB3.mono hsa)).trans hB4⟩,by simp[intOf];omega⟩;rw[HST.out];rw[HO0.out] at hBU4;exact hBU4
    · have hk1:(0<k)=True:=by simp;omega
      rw[if_neg hk0] at HST;clear hk0;go_wp2_with (first | (go_at_call 89;go_must (refine(MJ _ _ _ _ HBU2.out (by omega) hsa).mono ?_;rintro e w2 ⟨⟨v2,rfl⟩,hBU2,hB2,ho2⟩;have hx2:=FY hx0 hbb ho2;have hz:=nS hx2;have z1:=hz.1;have z2:=hz.2;have HBU22:=hide hBU2;have hs2:=Nat.le_trans hsa hB2.size;clear hz hBU2)) | (go_at_call 73;go_must (refine(HFX.out _).mono ?_;rintro e w3 ⟨rfl,hB3⟩;have HBU3:=hide (dK HBU22.out hB3);have hs3:=Nat.le_trans hs2 hB3.size)) | (go_at_call 90;go_must (refine(qG _ _ _ _ _ HBU3.out (by simp;omega) (by omega) hs3).mono ?_;rintro e w4 ⟨⟨v4,rfl⟩,hBU4,hB4,ho4⟩)))
      refine⟨⟨k+1,by go_num,by omega,?_,((hBB.trans hB2).trans (hB3.mono hs2)).trans hB4⟩,by simp[intOf];omega⟩;rw[HST.out];exact hBU4
  · have hkn:k=n:=by omega
    have htk:H.take k=H:=List.take_of_length_le (by rw[HHL.out];omega);rw[htk] at hbu;have HBU:=hide hbu;have hsw:=hB.size;clear hbu htk;go_wp2_with (go_at_call 91;go_must (refine(IF _ _ _ _ HBU.out hsw).mono ?_;rintro e w2 ⟨rfl,hB2⟩))
    go_ret;exact⟨rfl,hB.trans hB2⟩
attribute [local go_sem ↓] Go.wp_at_zero Go.wp_at_succ
abbrev tO:=ByteArray×ByteArray
def K7:tO:=(⟨#[]⟩,⟨#[]⟩)
def LbAt (W:World)(g:Nat)(l:List tO):Prop :=
 g<W.heap.size∧(∀ j (h:j<l.length),W.cell? ⟨g,j*2,none⟩=some (.string l[j].1)∧W.cell? ⟨g,j*2+1,none⟩=some (.string l[j].2))∧∀ o,W.frozen? ⟨g,o,none⟩=false
theorem LbAt.set {W:World}{g:Nat}{l:List tO}(h:LbAt W g l)(k:Nat)(hk:k<l.length)(x:tO):LbAt ((W.setCell ⟨g,k*2,none⟩ (.string x.1)).setCell ⟨g,k*2+1,none⟩ (.string x.2)) g (l.set k x):=by
 obtain⟨h1,h2,h3⟩:=h;refine⟨by rw[World.size_setCell,World.size_setCell];exact h1,fun j hj=>?_,fun o=>by rw[World.frozen?_setCell,World.frozen?_setCell];exact h3 o⟩;have hj2:j<l.length:=by simpa using hj
 obtain⟨k1,k2⟩:=h2 k hk;obtain⟨j1,j2⟩:=h2 j hj2;have ne1:(⟨g,k*2,none⟩:Addr)≠⟨g,k*2+1,none⟩:=by simp
 by_cases e:k=j
 · subst e;constructor
   · rw[World.cell?_setCell_other _ _ _ _ (Ne.symm ne1),World.cell?_setCell_same _ _ _ k1];simp
   · rw[World.cell?_setCell_same _ _ _ ((World.cell?_setCell_other _ _ _ _ ne1).trans k2)];simp
 · constructor
   · rw[World.cell?_setCell_other _ _ _ _ (by(simp;try omega)),World.cell?_setCell_other _ _ _ _ (by(simp;try omega)),j1];simp[e]
   · rw[World.cell?_setCell_other _ _ _ _ (by(simp;try omega)),World.cell?_setCell_other _ _ _ _ (by(simp;try omega)),j2];simp[e]
def vX (l:List tO)(i j:Nat):List tO:=(l.set i (l.getD j K7)).set j (l.getD i K7)
def mM (l:List tO):Nat→List tO
 | 0=>l
 | k+1=>vX (mM l k) k (l.length-1-k)
theorem zA (l:List tO):∀ k,(mM l k).length=l.length:=by
 intro k
 induction k with
 | zero=>rfl
 | succ k ih=>simp[mM,vX,ih]
theorem RF (l:List tO)(i j x:Nat)(hi:i<l.length)(hj:j<l.length):(vX l i j)[x]? = if x=j then l[i]? else if x=i then l[j]? else l[x]?:=by
 unfold vX;rw[List.getElem?_set,List.getElem?_set];simp only[List.length_set,List.getD_eq_getElem?_getD,List.getElem?_eq_getElem hi,List.getElem?_eq_getElem hj,Option.getD_some];by_cases c1:x=j
 · subst c1;rw[if_pos rfl,if_pos hj,if_pos rfl]
 · rw[if_neg (Ne.symm c1),if_neg c1];by_cases c2:x=i
   · subst c2;rw[if_pos rfl,if_pos hi,if_pos rfl]
   · rw[if_neg (Ne.symm c2),if_neg c2]
theorem PU (l:List tO):∀ k,k*2≤l.length→∀ x,(mM l k)[x]? = if x<l.length∧(x<k∨l.length-k≤x) then l[l.length-1-x]? else l[x]?:=by
 intro k
 induction k with
 | zero =>
   intro _ x;by_cases h:x<l.length∧(x<0∨l.length-0≤x)
   · omega
   · rw[if_neg h];rfl
 | succ k ih =>
   intro hk x;have hl:=zA l k;rw[mM,RF _ _ _ _ (by omega) (by omega)];have ih':=ih (by omega);by_cases c1:x=l.length-1-k
   · rw[if_pos c1,ih' k,if_neg (by omega),if_pos (by omega),c1,show l.length-1-(l.length-1-k)=k from by omega]
   · rw[if_neg c1];by_cases c2:x=k
     · rw[if_pos c2,ih' (l.length-1-k),if_neg (by omega),if_pos (by omega),c2]
     · rw[if_neg c2,ih' x];by_cases c3:x<l.length∧(x<k∨l.length-k≤x)
       · rw[if_pos c3,if_pos (by omega)]
       · rw[if_neg c3,if_neg (by omega)]
theorem QU (l:List tO)(k:Nat)(h1:k*2≤l.length)(h2:l.length≤k*2+1):mM l k=l.reverse:=by
 apply List.ext_getElem?;intro x;rw[PU l k h1 x];by_cases c:x<l.length
 · rw[List.getElem?_reverse c];by_cases c2:x<k∨l.length-k≤x
   · rw[if_pos ⟨c,c2⟩]
   · rw[if_neg (fun h=>c2 h.2),show l.length-1-x=x from by omega]
 · rw[if_neg (fun h=>c h.1),List.getElem?_eq_none (by omega),List.getElem?_eq_none (by simp;omega)]
theorem VJ (l:List tO)(g cap:Nat)(w:World)(hL:LbAt w g l)(hl:l.length≤100) :
 Calls Tryz.prog 88 #[.slice (some ⟨g,0,none⟩) l.length cap] w fun e w'=>(∃ v,e=.returned v)∧LbAt w' g l.reverse∧w.grownBy w' (some g):=by
 have HL:=hide hL;clear hL;obtain⟨n,hn⟩:∃ n,l.length=n:=⟨_,rfl⟩
 rw[hn] at hl ⊢;have HN:=hide hn;clear hn;go_enter Tryz.func88,Tryz.ntmps88;go_wp2
 go_loopw [2,3] (fun iv jv wr=>∃ (k:Nat) (J:Int),iv=.int .i64 k∧jv=.int .i64 J∧J+k+1=n∧k*2≤n∧LbAt wr g (mM l k)∧w.grownBy wr (some g)) (fun iv _ _=>(1000-intOf iv).toNat)
 case atStart=>exact⟨0,(n:Int)-1,rfl,rfl,by omega,by omega,HL.out,lS _ _⟩
 case round =>
  obtain⟨k,J,rfl,rfl,hJ,hk,hLw,hgr⟩:=hrel;have HJ:=hide hJ;have hrl:(mM l k).length=n:=by rw[zA];exact HN.out
  have HRL:=hide hrl;have HLW:=hide hLw;by_cases hlt:(k:Int)<J
  · obtain⟨j,hj1,hj2⟩:∃ j:Nat,J=(j:Int)∧j+k+1=n:=⟨J.toNat,by omega,by omega⟩
    subst hj1;have hd:(k<j)=True:=by simp;omega
    obtain⟨m,hm⟩:∃ m,mM l k=m:=⟨_,rfl⟩
    have hst:mM l (k+1)=vX m k j:=by rw[mM,hm,show l.length-1-k=j from by rw[HN.out];omega]
    rw[hm] at hLw hrl;have hkl:k<m.length:=by omega
    have hjl:j<m.length:=by omega
    obtain⟨a1,a2⟩:=hLw.2.1 k hkl;obtain⟨b1,b2⟩:=hLw.2.1 j hjl;obtain⟨x,hx⟩:∃ x,m[k]'hkl=x:=⟨_,rfl⟩
    obtain⟨y,hy⟩:∃ y,m[j]'hjl=y:=⟨_,rfl⟩
    rw[hx] at a1 a2;rw[hy] at b1 b2;obtain⟨x1,x2⟩:=x;obtain⟨y1,y2⟩:=y;have hfz:=hLw.2.2;have hset:=(hLw.set k hkl (y1,y2)).set j (by simp;omega) (x1,x2);have hsw:(m.set k (y1,y2)).set j (x1,x2)=vX m k j:=by
     unfold vX;rw[List.getD_eq_getElem?_getD,List.getElem?_eq_getElem hjl,List.getD_eq_getElem?_getD,List.getElem?_eq_getElem hkl,Option.getD_some,Option.getD_some,hx,hy]
    rw[hsw,←hst] at hset;have HSET:=hide hset;clear hset hsw hx hy hLw hst hm HLW HRL;have hfo:Tryz.prog.follows Departure.mixedOrders=true:=by kernel_rfl
    have e1:(0:Int)≤(k:Int):=by omega
    have e2:(k:Int)<(n:Int):=by omega
    have e3:(0:Int)≤(j:Int):=by omega
    have e4:(j:Int)<(n:Int):=by omega
    simp only at a1 a2 b1 b2;go_wp2
    go_big_region_o
    all_goals go_wp2
    exact⟨⟨k+1,(j:Int)-1,by go_num,rfl,by omega,by omega,HSET.out,grown_drew (aV (aV (aV (aV hgr _ _) _ _) _ _) _ _)⟩,by simp[intOf];omega⟩
  · have hkn:k*2≤l.length:=by rw[HN.out];exact hk
    have hrv:=QU l k hkn (by rw[HN.out];omega);have hd:decide ((k:Int)<J)=false:=by simp;omega
    rw[hrv] at HLW;clear hLw hrv HRL hrl;go_wp2;go_end0;exact⟨⟨_,rfl⟩,HLW.out,hgr⟩
open Go.RowKit Go.Shelf
def NC (B k:Nat)(I:Nat→World→Prop)(Ix:World→Prop)(W:World):Exit→Act→World→Prop
 | .normal,_,W'=>KeepsFrom B W W'∧I (k+1) W'
 | .ret,_,W'=>KeepsFrom B W W'∧Ix W'
 | _,_,_=>False
theorem vN {ps:Array Tmp}{assign body:Code}{Q:Exit→Act→World→Prop}{a:Act}{w:World}(n:Nat)(h1:1≤n)(h2:1≤n-1)(s:ByteArray)(hs:s.size≤1000)(g:Operand)(hg:a.eval g=.func (.func 84) #[.string s] #[])
 (P:List (List UInt8)) (hP:P=fK s.data.toList) (hps:ps.size=1) (I:Nat→World→Prop) (Ix:World→Prop) (hI:OwnFrom w.heap.size I) (hIx:OwnFrom w.heap.size (fun (_:Unit) W=>Ix W)) (h0:I 0 w) (a₁:ByteArray→Act)
 (hassign:∀ (l:Nat) (x:ByteArray) (W:World) (K:Act→World→Prop),K (a₁ x) W →
   assign.wpIn (Fence.wide.inRound l) (n-1-1) Tryz.prog (Exit.then K (fun _ _ _=>False)) { tmps:=(ps.zip #[.string x]).foldl (fun t (p,v)=>t.setIfInBounds p v) a.tmps,defers:=[] } W)
 (hbody:∀ (l k:Nat) (h:k<P.length) (W:World),I k W→body.wpIn (Fence.wide.inRound l) (n-1-1) Tryz.prog (NC w.heap.size k I Ix W) (a₁ ⟨P[k].toArray⟩) W)
 (hdone:∀ (D:Nat) (W:World),w.heap.size≤D→I P.length W→W.heap[D]? = some (.deferred (some []))→Q .normal { a with defers:={ target:=.collected D,args:=#[] }::a.defers } W)
 (hstop:∀ (D:Nat) (W:World),w.heap.size≤D→Ix W→W.heap[D]? = some (.deferred (some []))→Code.ret.wpIn Fence.wide n Tryz.prog Q { a with defers:={ target:=.collected D,args:=#[] }::a.defers } W) :
 (Code.rangeFunc g ps assign body).wpIn Fence.wide n Tryz.prog Q a w:=by
 refine wpIn_rangeFunc ?_;intro fn hfn;obtain⟨rec,hrec⟩:∃ rec:LoopState→Option Code→Loop,rec=fun st pe=>{ state:=st,pending:=pe,fn:=fn,tmps:=a.tmps,params:=ps,assign:=assign,body:=body,defers:=w.heap.size }:=⟨_,rfl⟩
 obtain⟨W1,hW1⟩:∃ W1,(w.alloc (.deferred (some []))).alloc (.loop (rec .ready none))=W1:=⟨_,rfl⟩
 have hl1:W1.heap[w.heap.size+1]? = some (.loop (rec .ready none)):=by
  have:=World.alloc_heap_new (w.alloc (.deferred (some []))) (.loop (rec .ready none));rw[World.size_alloc,hW1] at this;exact this
 have hd1:W1.heap[w.heap.size]? = some (.deferred (some [])):=by
  rw[←hW1];exact(Below.heap_alloc _ _ _ (by rw[World.size_alloc];exact Nat.lt_succ_self _)).trans (World.alloc_heap_new w _)
 have hI1:I 0 W1:=by rw[←hW1];exact hI.alloc _ (hI.alloc _ h0)
 have hIx':∀ {W:World} {l:Nat} {o:Obj} (o':Obj),Ix W→w.heap.size≤l→W.heap[l]? = some o→o.isCells=false→Ix (W.putObj l o'):=fun o' h hl ho hc=>OwnFrom.putObj (s:=()) hIx o' h hl ho hc;refine⟨w.heap.size+1,[{ target:=.collected w.heap.size,args:=#[] }],W1,{ target:=.fn (.func 84) #[],args:=#[.string s,.func (.yield (w.heap.size+1)) #[] #[]] },W1,84,
  #[.string s,.func (.yield (w.heap.size+1)) #[] #[]],W1,?_,?_,fun _ _=>trivial,?_,fun _=>h1,?_⟩
 · rw[←hW1,hrec];exact run_enterLoop_outer _ _ _ _ _
 · simp only[resolve,hg];simp[go_sem]
 · have eg:∀ args w,(callFunc 84 args).run Tryz.prog w=.ok (.enter 84 args) w:=enters_of Tryz.func84 (by kernel_rfl) rfl;simp[invoke,go_sem,eg]
 · refine(PN (n-1) h2 (w.heap.size+1) s hs P hP
    (fun k W=>I k W∧W.heap[w.heap.size+1]? = some (.loop (rec .ready none))∧W.heap[w.heap.size]? = some (.deferred (some [])))
    (fun W=>Ix W∧W.heap[w.heap.size+1]? = some (.loop (rec .done (some .ret)))∧W.heap[w.heap.size]? = some (.deferred (some []))) ?_ W1 ⟨hI1,hl1,hd1⟩).mono ?_
   · rintro k hk W ⟨hi,hl,hd⟩;have hlt:w.heap.size+1<W.heap.size:=(Array.getElem?_eq_some_iff.1 hl).1;have hy:=run_yield (P:=Tryz.prog) (args:=#[.string ⟨P[k].toArray⟩]) hl (by rw[hrec];exact hps.symm);rw[hrec] at hy;refine⟨fn,_,assign,body,hy,roundIn_of_wpIn hfn (hassign _ ⟨P[k].toArray⟩ W _ ⟨_,run_beginRound hl (by rw[hrec]),?_⟩)⟩;obtain⟨V,hV⟩:∃ V,W.putObj (w.heap.size+1) (.loop { rec .ready none with state:=.busy })=V:=⟨_,rfl⟩
     have hl2:V.heap[w.heap.size+1]? = some (.loop { rec .ready none with state:=.busy }):=by rw[←hV];exact World.putObj_heap_same hlt
     have hd2:V.heap[w.heap.size]? = some (.deferred (some [])):=by rw[←hV];exact(World.putObj_heap_other (by omega)).trans hd
     have hi2:I k V:=by rw[←hV];exact hI.putObj _ hi (by omega) hl rfl
     have fin:∀ (jump:Option Code) (W3:World),KeepsFrom w.heap.size V W3 →
      (Instr.endRound (w.heap.size+1) jump).run Tryz.prog W3=.ok (.bool jump.isNone) (W3.putObj (w.heap.size+1) (.loop (rec (if jump.isNone then .ready else .done) jump))) ∧
      W3.heap[w.heap.size+1]? = some (.loop { rec .ready none with state:=.busy }) ∧
      (W3.putObj (w.heap.size+1) (.loop (rec (if jump.isNone then .ready else .done) jump))).heap[w.heap.size+1]? = some (.loop (rec (if jump.isNone then .ready else .done) jump)) ∧
      (W3.putObj (w.heap.size+1) (.loop (rec (if jump.isNone then .ready else .done) jump))).heap[w.heap.size]? = some (.deferred (some [])):=by
      intro jump W3 hk3;have hl3:=hk3.same _ _ (by omega) hl2 rfl;have hr3:=run_endRound (P:=Tryz.prog) jump hl3;rw[hrec] at hr3 ⊢;rw[hrec] at hl3;exact⟨hr3,hl3,World.putObj_heap_same (Array.getElem?_eq_some_iff.1 hl3).1,(World.putObj_heap_other (by omega)).trans (hk3.same _ _ (Nat.le_refl _) hd2 rfl)⟩
     have hb:=hbody (w.heap.size+1) k hk V hi2;rw[←hV] at hb;refine wpIn_mono hb ?_;rw[hV];rintro e a3 W3 hp;cases e with
     | normal =>
       obtain⟨hk3,hi3⟩:=hp;obtain⟨hr,hl3,hl4,hd4⟩:=fin none W3 hk3;exact⟨_,_,hr,.inl ⟨rfl,hI.putObj _ hi3 (by omega) hl3 rfl,hl4,hd4⟩⟩
     | ret =>
       obtain⟨hk3,hi3⟩:=hp;obtain⟨hr,hl3,hl4,hd4⟩:=fin (some .ret) W3 hk3;exact⟨_,_,hr,.inr ⟨rfl,hIx' _ hi3 (by omega) hl3 rfl,hl4,hd4⟩⟩
     | exit id=>exact hp.elim
     | goto t=>exact hp.elim
     | panic ch=>exact hp.elim
     | outgrown=>exact hp.elim
   · rintro e W2 ⟨⟨v,rfl⟩,(⟨hi,hl,hd⟩ | ⟨hi,hl,hd⟩)⟩
     · refine⟨none,_,by have:=run_endLoop (P:=Tryz.prog) hl (by rw[hrec];simp);rw[hrec] at this;exact this,hdone _ _ (Nat.le_refl _) (hI.putObj _ hi (by omega) hl rfl) ((World.putObj_heap_other (by omega)).trans hd)⟩
     · refine⟨some .ret,_,by have:=run_endLoop (P:=Tryz.prog) hl (by rw[hrec];simp);rw[hrec] at this;exact this,hstop _ _ (Nat.le_refl _) (hIx' _ hi (by omega) hl rfl) ((World.putObj_heap_other (by omega)).trans hd)⟩
attribute [local go_sem] Oper.semAt_some
def mP (p:List UInt8):List Int:=((Sx.aF p).getD []).map Sx.lower
def mQ (p:List UInt8):tO:=(⟨(Sx.text (mP p)).toArray⟩,⟨(Sx.aJ (mP p)).toArray⟩)
def xG (p:List UInt8):Bool:=mR (Sx.text (mP p)) (Sx.aJ (mP p)) (mP p)
def WM (l:List tO):List Value:=l.flatMap fun x=>[Value.string x.1,Value.string x.2]
theorem G7 (a b:List tO):WM (a++b)=WM a++WM b:=by simp[WM]
theorem B5:∀ (l:List tO) (j:Nat) (h:j<l.length),(WM l)[j*2]? = some (.string l[j].1)∧(WM l)[j*2+1]? = some (.string l[j].2):=by
 intro l
 induction l with
 | nil=>intro j h;exact absurd h (Nat.not_lt_zero _)
 | cons x r ih =>
   intro j h;have e:WM (x::r)=Value.string x.1::Value.string x.2::WM r:=rfl;cases j with
   | zero=>rw[e];exact⟨rfl,rfl⟩
   | succ j =>
     have:=ih j (by simpa using h);rw[e,show(j+1)*2=j*2+1+1 from by omega]
     simpa using this
theorem FK {w:World}{B g n cap:Nat}{l:List tO}(h:w.ownsRow B 69 2 (.slice (some ⟨g,0,none⟩) n cap) n (WM l)):LbAt w g l:=by
 refine⟨(h.lt g rfl).2,fun j hj=>?_,fun o=>h.frozenAt o⟩;obtain⟨a1,a2⟩:=B5 l j hj;have c1:=h.cells (g:=g) rfl _ _ a1;have c2:=h.cells (g:=g) rfl _ _ a2;rw[Addr.add_lit,Nat.zero_add] at c1 c2;exact⟨c1,c2⟩
def fL (P:List (List UInt8)):List tO:=(P.map mQ).reverse
def gP (P:List (List UInt8)):Bool:=decide (P.length≤6) && P.all xG && !(Sx.lD (Sx.aJ (mP (P.getD 0 [])))) && decide ((Sx.aA ((fL P).map fun x=>x.2.data.toList)).length≤60)
structure RdAt (P:List (List UInt8)) (w:World) (b2 b3 b4 B:Nat) (k:Nat) (W:World):Prop where
 k6:k≤6
 kP:k≤P.length
 all:(P.take k).all xG=true
 row:∃ v,Boxed W b4 103 v∧W.ownsRow B 69 2 v k (WM ((P.take k).map mQ))
 r2:Boxed W b2 103 (.slice none 0 0)
 r3:Boxed W b3 25 (.int .i64 0)
 bel:Below w.heap.size w W
 siz:B≤W.heap.size
structure RdNo (P:List (List UInt8)) (w:World) (b2 b3:Nat) (W:World):Prop where
 no:gP P=false
 r2:Boxed W b2 103 (.slice none 0 0)
 r3:Boxed W b3 25 (.int .i64 2)
 bel:Below w.heap.size w W
theorem fN {W:World}{b r:Nat}{t:TypeId}{v:Value}{o:Obj}(h:Boxed W b t v)(ho:W.heap[r]? = some o)(hc:o.isCells=false):b≠r:=by
 intro e;subst e;have:W.heap[b]? = some (.cells #[v] t (0,0)):=h;rw[this] at ho;cases ho;cases hc
theorem pX {W W':World}{row:Option Nat}{B n z:Nat}{e:TypeId}{v:Value}{xs:List Value}(h:W.ownsRow B e z v n xs)(hg:W.grownBy W' row)(hr:∀ r,row=some r→∃ o:Obj,W.heap[r]? = some o∧o.isCells=false):W'.ownsRow B e z v n xs:=by
 refine⟨h.1,?_⟩;rcases h.2 with h2 | ⟨g,cap,cur,h1,h2,h3,h4⟩
 · exact .inl h2
 · refine .inr ⟨g,cap,cur,h1,h2,?_,h4⟩;rw[hg.block g (Array.getElem?_eq_some_iff.1 h3).1 (fun e=>by
    obtain⟨o,ho,hc⟩:=hr g e.symm;rw[h3] at ho;cases ho;cases hc)]
   exact h3
theorem RdAt.own {P:List (List UInt8)}{w:World}{b2 b3 b4 B C:Nat}(hC:w.heap.size≤C):OwnFrom C (RdAt P w b2 b3 b4 B):=by
 intro k W W' row h hg hr;obtain⟨a1,a2,a3,⟨v,a4,a5⟩,a6,a7,a8,a9⟩:=h;have hne:∀ {b:Nat} {t:TypeId} {v:Value},Boxed W b t v→some b≠row:=fun hb e=>by
  obtain⟨_,o,ho,hc⟩:=hr _ e.symm;exact fN hb ho hc rfl
 exact⟨a1,a2,a3,⟨v,a4.kept hg (hne a4),pX a5 hg (fun r e=>(hr r e).2)⟩,a6.kept hg (hne a6),a7.kept hg (hne a7),a8.grown hg a8.size (fun r e=>by have:=(hr r e).1;omega),Nat.le_trans a9 hg.size⟩
theorem RdNo.own {P:List (List UInt8)}{w:World}{b2 b3 C:Nat}(hC:w.heap.size≤C):OwnFrom C (fun (_:Unit) W=>RdNo P w b2 b3 W):=by
 intro k W W' row h hg hr;obtain⟨a1,a6,a7,a8⟩:=h;have hne:∀ {b:Nat} {t:TypeId} {v:Value},Boxed W b t v→some b≠row:=fun hb e=>by
  obtain⟨_,o,ho,hc⟩:=hr _ e.symm;exact fN hb ho hc rfl
 exact⟨a1,a6.kept hg (hne a6),a7.kept hg (hne a7),a8.grown hg a8.size (fun r e=>by have:=(hr r e).1;omega)⟩
theorem iK {W W':World}(h:Below W.heap.size W W'):KeepsOthers W W' :=
 ⟨h.size,fun k _ ho _=>(h.block k (Array.getElem?_eq_some_iff.1 ho).1).trans ho⟩
theorem zW (P:List (List UInt8))(h:6<P.length∨P.all xG=false):gP P=false:=by
 unfold gP;rcases h with h | h
 · rw[show decide (P.length≤6)=false from by simp;omega];simp
 · rw[h];simp
theorem sP {P:List (List UInt8)}{w W V:World}(C:Nat)(hno:gP P=false)(q2:Boxed V w.heap.size 103 (.slice none 0 0))(q3:Boxed V (w.heap.size+1) 25 (.int .i64 0))(hk:KeepsOthers W V)(hB:Below w.heap.size w V) :
 KeepsFrom C W ((V.setCell ⟨w.heap.size,0,none⟩ (.slice none 0 0)).setCell ⟨w.heap.size+1,0,none⟩ (.int .i64 2))∧RdNo P w w.heap.size (w.heap.size+1) ((V.setCell ⟨w.heap.size,0,none⟩ (.slice none 0 0)).setCell ⟨w.heap.size+1,0,none⟩ (.int .i64 2)):=by
 refine⟨((hk.trans (KeepsOthers.setCell _ _ _)).trans (KeepsOthers.setCell _ _ _)).from C,hno,?_,?_,?_⟩
 · exact(q2.set _).kept (grownBy_setCell' _ _ _) (fun e=>by have:=Option.some.inj e;omega)
 · exact(q3.kept (grownBy_setCell' _ _ _) (fun e=>by have:=Option.some.inj e;omega)).set _
 · exact(hB.setCell (p:=⟨w.heap.size,0,none⟩) (Nat.le_refl _) _).setCell (p:=⟨w.heap.size+1,0,none⟩) (Nat.le_succ _) _
theorem BV {w w':World}{g:Nat}{l:List tO}{r:Option Nat}(h:LbAt w g l)(hg:w.grownBy w' r)(hne:some g≠r):LbAt w' g l :=
 ⟨Nat.lt_of_lt_of_le h.1 hg.size,fun j hj=>⟨(hg.cell_far ⟨g,j*2,none⟩ h.1 hne).trans (h.2.1 j hj).1,(hg.cell_far ⟨g,j*2+1,none⟩ h.1 hne).trans (h.2.1 j hj).2⟩,fun o=>(hg.frozen_far ⟨g,o,none⟩ h.1 hne).trans (h.2.2 o)⟩
theorem wN (p:List UInt8)(h:xG p=true):(Sx.aJ (mP p)).length≤20:=by
 unfold xG mR at h;simp only[Bool.and_eq_true,decide_eq_true_eq] at h;exact h.1.1.2
theorem vE (m:List Int)(hl:m.length≤60)(hg:∀ c∈m,Sx.Good c):(Sx.aJ m).length≤2000∧∀ x∈Sx.aJ m,x.toNat<128:=by
 have hr:∀ c∈m,c≤1114111:=fun c hc=>(hg c hc).2.1;unfold Sx.aJ;cases hf:(m.any fun c=>decide (128≤c)) with
 | true =>
   rw[if_pos rfl,List.length_append];have:=Sx.uW m (by omega) hr;refine⟨by show 4+_≤_;omega,fun x hx=>?_⟩;rcases List.mem_append.1 hx with hx | hx
   · exact(by decide:∀ x∈Sx.xn,x.toNat<128) x hx
   · exact Sx.OW m (by omega) hr x hx
 | false =>
   rw[if_neg (by simp)];have:=Sx.lC m;refine⟨by omega,fun x hx=>?_⟩;obtain⟨c,hc,hx⟩:=List.mem_flatMap.1 hx;have h128:c<128:=by
    by_cases h:128≤c
    · have:(m.any fun c=>decide (128≤c))=true:=List.any_eq_true.2 ⟨c,hc,by simpa using h⟩;rw[hf] at this;cases this
    · omega
   unfold Sx.fV at hx;rw[if_pos h128] at hx;rw[List.mem_singleton.1 hx,Sx.JW c (hg c hc).1 (by omega)];have:=(hg c hc).1;omega
theorem mF (p:List UInt8)(l:List Int)(hl:Sx.aF p=some l)(hp:p.length≤60):mP p=l.map Sx.lower∧(mP p).length≤60∧(∀ c∈mP p,Sx.Good c)∧(Sx.text (mP p)).length=p.length:=by
 have e:(⟨p.toArray⟩:ByteArray).data.toList=p:=rfl;obtain⟨h1,h2⟩:=letters_is ⟨p.toArray⟩ l (by rw[e];exact hl);rw[e] at h1;have hm:mP p=l.map Sx.lower:=by unfold mP;rw[hl];rfl
 have h3:=IA l h2;have h4:(Sx.text (l.map Sx.lower)).length=p.length:=by rw[←h3,List.length_map,h1]
 have hsz:(⟨p.toArray⟩:ByteArray).size=p.length:=by rw[←aC,e]
 have h5:=kG p.length ⟨p.toArray⟩ 0 l (by rw[List.drop_zero,e];exact hl) (by omega) (by omega);refine⟨hm,?_,?_,by rw[hm];exact h4⟩
 · rw[hm,List.length_map];omega
 · rw[hm];intro c hc;obtain⟨x,hx,rfl⟩:=List.mem_map.1 hc;exact good_lower x (h2 x hx)
theorem QJ (s:ByteArray)(w:World)(P:List (List UInt8))(hs:s.size≤60)(hP:P=fK s.data.toList)(hv:∀ w',Below w.heap.size w w'→Calls Tryz.prog 83 #[.string s] w' fun e w2=>e=.returned (.bool true)∧Below w'.heap.size w' w2)
 (hpl:∀ p∈P,(∃ l,Sx.aF p=some l)∧p.length≤60) :
 Calls Tryz.prog 52 #[.string s] w fun e w'=>Below w.heap.size w w'∧((gP P=false∧e=.returned (.tuple #[.slice none 0 0,.int .i64 2]))∨(gP P=true∧∃ g cap,e=.returned (.tuple #[.slice (some ⟨g,0,none⟩) (fL P).length cap,.int .i64 0])∧LbAt w' g (fL P))):=by
 refine(callsIn_wide (n:=10)).1 ?_;refine callsIn_of_wp_marks Tryz.func52 rfl trivial ?_ rfl;simp only[Tryz.ntmps52,List.size_toArray,List.length_cons,List.length_nil,Nat.reduceAdd,Nat.reduceSub,Array.replicate_succ,Array.replicate_zero,List.push_toArray,List.append_toArray,List.nil_append,List.cons_append];obtain⟨i0,hi,hz0,hz1,hz2⟩:=info_parts Tryz.info69;have HV:=hide hv;have HPL:=hide hpl;have HP:=hide hP;have hB0:Below w.heap.size w ((w.alloc (.cells #[.slice none 0 0] 103)).alloc (.cells #[.int .i64 0] 25)):=((Below.refl _ w).alloc (Nat.le_refl _) _).alloc (by rw[World.size_alloc];exact Nat.le_succ _) _;have hx2:Boxed ((w.alloc (.cells #[.slice none 0 0] 103)).alloc (.cells #[.int .i64 0] 25)) w.heap.size 103 (.slice none 0 0):=(Boxed.new w 103 _).alloc _;have hx3:Boxed ((w.alloc (.cells #[.slice none 0 0] 103)).alloc (.cells #[.int .i64 0] 25)) (w.heap.size+1) 25 (.int .i64 0):=by
  have:=Boxed.new (w.alloc (.cells #[.slice none 0 0] 103)) 25 (.int .i64 0);rw[World.size_alloc] at this;exact this
 have hd:(60<s.size)=False:=by simp;omega
 clear hv hpl hP;gi_wp2_with (refine⟨trivial,?_⟩;gi_at_call 83;refine(callsIn_wide.2 (HV.out _ hB0)).mono ?_;rintro e w2 ⟨rfl,hB2⟩)
 have hB3:Below w.heap.size w (w2.alloc (.cells #[.slice none 0 0] 103)):=(hB0.trans (hB2.mono hB0.size)).alloc (Nat.le_trans hB0.size hB2.size) _;have hy2:Boxed (w2.alloc (.cells #[.slice none 0 0] 103)) w.heap.size 103 (.slice none 0 0):=Boxed.alloc ((hB2.block _ hx2.lt).trans hx2) _;have hy3:Boxed (w2.alloc (.cells #[.slice none 0 0] 103)) (w.heap.size+1) 25 (.int .i64 0):=Boxed.alloc ((hB2.block _ hx3.lt).trans hx3) _;have hy4:=Boxed.new w2 103 (.slice none 0 0);have hsz3:w2.heap.size+1≤(w2.alloc (.cells #[.slice none 0 0] 103)).heap.size:=by rw[World.size_alloc];exact Nat.le_refl _
 have hws:w.heap.size+2≤w2.heap.size:=by have:=hB2.size;rw[World.size_alloc,World.size_alloc] at this;omega
 obtain⟨b4,hb4⟩:∃ b4,w2.heap.size=b4:=⟨_,rfl⟩
 obtain⟨W3,hW3⟩:∃ W3,w2.alloc (.cells #[.slice none 0 0] 103)=W3:=⟨_,rfl⟩
 rw[hW3] at hB3 hy2 hy3 hy4 hsz3 ⊢;rw[hb4] at hy4 hsz3 hws ⊢;have HI0:Hid (RdAt P w w.heap.size (w.heap.size+1) b4 (b4+1) 0 W3):=hide ⟨by omega,by omega,by simp,⟨.slice none 0 0,hy4,World.ownsRow_nil _ _ _ _⟩,hy2,hy3,hB3,hsz3⟩;have hw3:=hB3.size;clear hy2 hy3 hy4 hB3 hW3 hb4 hx2 hx3 hB0 hB2 hsz3 HV;refine vN 10 (by omega) (by omega) s (by omega) (.tmp 14) rfl P HP.out rfl (RdAt P w w.heap.size (w.heap.size+1) b4 (b4+1)) (RdNo P w w.heap.size (w.heap.size+1)) (RdAt.own hw3) (RdNo.own hw3) HI0.out
  (fun x=>{ tmps:=#[Value.string s,undef,Value.pointer (some ⟨w.heap.size,0,none⟩),Value.pointer (some ⟨w.heap.size+1,0,none⟩),Value.pointer (some ⟨b4,0,none⟩),.string x,undef,Value.string s,
        Value.int IntKind.i64 ↑s.size,Value.bool (decide (60<(s.size:Int))),Value.string s,Value.bool true,
        Value.bool false,Value.string s,Value.func (Fn.func 84) #[Value.string s] #[],.string x,undef,undef,undef,
        undef,undef,undef,undef,undef,undef,undef,undef,undef,undef,undef,undef,undef,undef,undef,
        undef,undef,undef,undef,undef,undef,undef],defers:=[] }) ?assign ?body ?done ?stop
 case assign =>
  intro l x W K hK;gi_wp2
  exact hK
 case body =>
  rintro l k hk W hrd;have HRD:=hide hrd;obtain⟨k6,kP,hall,⟨v,bv,hown⟩,r2,r3,bel,siz⟩:=hrd;obtain⟨⟨ll,hll⟩,hpz⟩:=HPL.out P[k] (List.getElem_mem hk);obtain⟨hm,hml,hmg,hmt⟩:=mF P[k] ll hll hpz;have hxl:(⟨P[k].toArray⟩:ByteArray).data.toList=P[k]:=rfl;have hnl:=fun w=>v7 ⟨P[k].toArray⟩ ll w (by rw[hxl];exact hll) (by rw[←aC,hxl];exact hpz);rw[←hm] at hnl;obtain⟨A,hA⟩:∃ A:ByteArray,⟨(Sx.text (mP P[k])).toArray⟩=A:=⟨_,rfl⟩
  obtain⟨E,hE⟩:∃ E:ByteArray,⟨(Sx.aJ (mP P[k])).toArray⟩=E:=⟨_,rfl⟩
  have hAl:A.data.toList=Sx.text (mP P[k]):=by rw[←hA]
  have hEl:E.data.toList=Sx.aJ (mP P[k]):=by rw[←hE]
  have hlab:mQ P[k]=(A,E):=by unfold mQ;rw[hA,hE]
  obtain⟨hf1,hf2⟩:=vE (mP P[k]) hml hmg;have hir:=fun w=>ZP A E (mP P[k]) w (by rw[hAl];exact Sx.eE _ hmg) (by rw[←aC,hAl];omega) (by rw[←aC,hEl];omega) (by rw[hEl];exact hf2);rw[hA,hE] at hnl;rw[hAl,hEl] at hir;obtain⟨X,hX⟩:∃ X:ByteArray,⟨P[k].toArray⟩=X:=⟨_,rfl⟩
  rw[hX] at hnl ⊢;obtain⟨rk,hrk⟩:∃ rk,xG P[k]=rk:=⟨_,rfl⟩
  have hrk2:mR (Sx.text (mP P[k])) (Sx.aJ (mP P[k])) (mP P[k])=rk:=hrk;rw[hrk2] at hir;have HNL:=hide hnl;have HIR:=hide hir;have HLAB:=hide hlab;have HRK:=hide hrk;have HALL:=hide hall;have hwW:=bel.size;have hgr:∀ {W':World},Below W.heap.size W W'→Below w.heap.size w W':=fun h=>bel.trans (h.mono bel.size);clear hnl hir hlab hrk hrk2 hall hA hE hAl hEl hX hxl hm hml hmg hmt hf1 hf2 hll hpz;obtain⟨vp,vc,rfl⟩:=kZ hown;by_cases hk6:k=6
  · have hno:gP P=false:=zW P (.inl (by omega));subst hk6;gi_wp2_with (refine⟨trivial,?_⟩;gi_at_call 85;refine(CallsIn.inRound l (callsIn_wide.2 (HNL.out _))).mono ?_;rintro e w5 ⟨rfl,hB5⟩;have c4:=(Boxed.alloc ((hB5.block _ bv.lt).trans bv) (.cells #[.string A,.string E] 69)).cell;have q2:Boxed w5 w.heap.size 103 (.slice none 0 0):=(hB5.block _ r2.lt).trans r2;have q3:Boxed w5 (w.heap.size+1) 25 (.int .i64 0):=(hB5.block _ r3.lt).trans r3;have u2:=(q2.alloc (.cells #[.string A,.string E] 69)).cell;have u3:=(q3.alloc (.cells #[.string A,.string E] 69)).cell;have u4:=(q2.alloc (.cells #[.string A,.string E] 69)).frozen;have u5:=(q3.alloc (.cells #[.string A,.string E] 69)).frozen)
    refine⟨trivial,?_⟩;gi_wp2
    exact sP _ hno (q2.alloc _) (q3.alloc _) ((iK hB5).trans (KeepsOthers.alloc _ _)) ((hgr hB5).alloc (Nat.le_trans hwW hB5.size) _)
  · cases rk with
    | false =>
      have hno:gP P=false:=zW P (.inr (by
       cases h:P.all xG with
       | false=>rfl
       | true=>have:=List.all_eq_true.1 h P[k] (List.getElem_mem hk);rw[HRK.out] at this;cases this))
      gi_wp2_with (first | (refine⟨trivial,?_⟩;gi_at_call 85;refine(CallsIn.inRound l (callsIn_wide.2 (HNL.out _))).mono ?_;rintro e w5 ⟨rfl,hB5⟩;have c4:=(Boxed.alloc ((hB5.block _ bv.lt).trans bv) (.cells #[.string A,.string E] 69)).cell;have q2:Boxed w5 w.heap.size 103 (.slice none 0 0):=(hB5.block _ r2.lt).trans r2;have q3:Boxed w5 (w.heap.size+1) 25 (.int .i64 0):=(hB5.block _ r3.lt).trans r3) | (refine⟨trivial,?_⟩;gi_at_call 86;refine(CallsIn.inRound l (callsIn_wide.2 (HIR.out _))).mono ?_;rintro e w7 ⟨rfl,hB7⟩;have p2:Boxed w7 w.heap.size 103 (.slice none 0 0):=(hB7.block _ (q2.alloc _).lt).trans (q2.alloc _);have p3:Boxed w7 (w.heap.size+1) 25 (.int .i64 0):=(hB7.block _ (q3.alloc _).lt).trans (q3.alloc _);have u2:=p2.cell;have u3:=p3.cell;have u4:=p2.frozen;have u5:=p3.frozen))
      exact sP _ hno p2 p3 (((iK hB5).trans (KeepsOthers.alloc _ _)).trans (iK hB7)) (((hgr hB5).alloc (Nat.le_trans hwW hB5.size) _).trans (hB7.mono (by rw[World.size_alloc];exact Nat.le_succ_of_le (Nat.le_trans hwW hB5.size))))
    | true =>
      gi_wp2_with (first | (refine⟨trivial,?_⟩;gi_at_call 85;refine(CallsIn.inRound l (callsIn_wide.2 (HNL.out _))).mono ?_;rintro e w5 ⟨rfl,hB5⟩;have q4:Boxed w5 b4 103 (.slice vp k vc):=(hB5.block _ bv.lt).trans bv;have c4:=(q4.alloc (.cells #[.string A,.string E] 69)).cell;have q2:Boxed w5 w.heap.size 103 (.slice none 0 0):=(hB5.block _ r2.lt).trans r2;have q3:Boxed w5 (w.heap.size+1) 25 (.int .i64 0):=(hB5.block _ r3.lt).trans r3;have hown5:=own_below hown hB5 (Nat.le_refl _)) | (refine⟨trivial,?_⟩;gi_at_call 86;refine(CallsIn.inRound l (callsIn_wide.2 (HIR.out _))).mono ?_;rintro e w7 ⟨rfl,hB7⟩;have p2:Boxed w7 w.heap.size 103 (.slice none 0 0):=(hB7.block _ (q2.alloc _).lt).trans (q2.alloc _);have p3:Boxed w7 (w.heap.size+1) 25 (.int .i64 0):=(hB7.block _ (q3.alloc _).lt).trans (q3.alloc _);have p4:Boxed w7 b4 103 (.slice vp k vc):=(hB7.block _ (q4.alloc _).lt).trans (q4.alloc _);have hown7:=own_below (hown5.alloc (.cells #[.string A,.string E] 69)) hB7 (Nat.le_refl _);have d4:=p4.cell;have bx:=(EE w5 (.string A) (.string E) 69).below hB7;have e1:=bx.2.1;have e2:=bx.2.2.1;have hs7:b4+1≤w7.heap.size:=Nat.le_trans siz (Nat.le_trans hB5.size (Nat.le_trans (by rw[World.size_alloc];exact Nat.le_succ _) hB7.size));clear c4) | (gi_at_builtin;have hs77:=hs7;refine wpListIn_append_own _ rfl _ _ _ rfl (b4+1) 69 i0 (.agg #[.string ⟨#[]⟩,.string ⟨#[]⟩]) 2 32 Tryz.underlying103 hi hz0 hz1 hz2 rfl (by decide) _ _ _ rfl (hown7.alloc _) ⟨_,0,none⟩ 1 1 [.string A,.string E] rfl rfl ?_ ?_ ?_ ?_ ?_ ?_))
      · exact cell_two_new _ _ _ _
      · intro u hu;rcases List.mem_cons.1 hu with rfl | hu
        · rfl
        · rw[List.mem_singleton.1 hu];rfl
      · unfold maxLen;omega
      · omega
      · rw[World.size_alloc];omega
      · intro v' w8 hown8 hgrow8 _;obtain⟨g',cap',rfl⟩:=ownsRow_succ hown8;have s4:Boxed w8 b4 103 (.slice vp k vc):=(p4.alloc _).kept hgrow8 (Boxed.not_row p4 (by decide) hown7);have s2:Boxed w8 w.heap.size 103 (.slice none 0 0):=(p2.alloc _).kept hgrow8 (Boxed.not_row p2 (by decide) hown7);have s3:Boxed w8 (w.heap.size+1) 25 (.int .i64 0):=(p3.alloc _).kept hgrow8 (Boxed.not_row p3 (by decide) hown7);have f4:=s4.cell;have f5:=s4.frozen;gi_wp2
        have hKO:KeepsOthers W w7:=((iK hB5).trans (KeepsOthers.alloc _ _)).trans (iK hB7);have hBe:Below w.heap.size w w7:=((hgr hB5).alloc (Nat.le_trans hwW hB5.size) _).trans (hB7.mono (by rw[World.size_alloc];exact Nat.le_succ_of_le (Nat.le_trans hwW hB5.size)));have hKO8:KeepsOthers W w8:=(hKO.trans (KeepsOthers.alloc _ _)).trans (KeepsOthers.of_grownBy hgrow8 (fun j o e ho=>by
         rcases(hown7.alloc (.cells #[.string A,.string E] 69)).2 with ⟨h1,_⟩ | ⟨g,cap,cur,h1,h2,h3,h4⟩
         · rw[h1] at e;cases e
         · rw[h1] at e;cases e;rw[h3] at ho;cases ho;rfl))
        have hBe8:Below w.heap.size w w8:=(hBe.alloc hBe.size _).grown hgrow8 (by rw[World.size_alloc];exact Nat.le_succ_of_le hBe.size) (fun q e=>by have:=(hown7.lt q e).1;omega);have htk:P.take (k+1)=P.take k++[P[k]]:=List.take_succ_eq_append_getElem hk;refine⟨(hKO8.trans (KeepsOthers.setCell _ _ _)).from _,⟨by omega,hk,?_,⟨_,s4.set _,?_⟩,s2.kept (grownBy_setCell' _ _ _) (fun e=>by have:=Option.some.inj e;omega),s3.kept (grownBy_setCell' _ _ _) (fun e=>by have:=Option.some.inj e;omega),hBe8.setCell (p:=⟨b4,0,none⟩) (show w.heap.size≤b4 by omega) _,?_⟩⟩
        · rw[htk,List.all_append,HALL.out,List.all_cons,HRK.out];rfl
        · rw[htk,List.map_append,G7];have e:WM ([P[k]].map mQ)=[.string A,.string E]:=by rw[List.map_cons,List.map_nil,HLAB.out];rfl
          rw[e];have h9:=hown8.kept (grownBy_setCell' w8 b4 (.slice (some ⟨g',0,none⟩) (k+1) cap')) (.inr (fun e=>by have:=(hown8.lt b4 e).1;omega));rw[List.map_take];exact h9
        · have h1:=hgrow8.size;rw[World.size_alloc] at h1;rw[World.size_setCell];omega
 case done =>
  rintro D W hD hrd hK;obtain⟨k6,_,hall,⟨v,bv,hown⟩,r2,r3,bel,siz⟩:=hrd;rw[List.take_length] at hall hown;have hPn:0<P.length:=by
   rw[HP.out];unfold fK;cases s.data.toList.length with
   | zero=>simp[iS]
   | succ m=>simp only[iS];split <;> simp
  obtain⟨n,hn⟩:∃ n,P.length=n+1:=⟨P.length-1,by omega⟩
  rw[hn] at hown;obtain⟨g,cap,rfl⟩:=ownsRow_succ hown;have hlb:=FK hown;have hgb:b4+1≤g:=(hown.lt g rfl).1;have hmapl:(P.map mQ).length=n+1:=by rw[List.length_map];exact hn
  obtain⟨e1,e2⟩:=hlb.2.1 0 (by omega);rw[Nat.zero_mul,Nat.zero_add] at e2;rw[Nat.zero_mul] at e1;obtain⟨L0,hL0⟩:∃ L0,(P.map mQ)[0]'(by omega)=L0:=⟨_,rfl⟩
  rw[hL0] at e1 e2;obtain⟨A0,E0⟩:=L0;have hE0:E0.data.toList=Sx.aJ (mP (P.getD 0 [])):=by
   have h1:(P.map mQ)[0]'(by omega)=mQ (P.getD 0 []):=by
    rw[List.getElem_map];congr 1;rw[List.getD_eq_getElem?_getD,List.getElem?_eq_getElem hPn];rfl
   rw[h1] at hL0;have:=congrArg Prod.snd hL0;rw[←show _=E0 from this];rfl
  simp only at e1 e2;have b1:=bv.cell;have hall2:=List.all_eq_true.1 hall;have hdp:=vE (mP (P.getD 0 []));have hE0z:E0.size≤20:=by
   rw[←aC,hE0];refine wN _ (hall2 _ ?_);rw[List.getD_eq_getElem?_getD,List.getElem?_eq_getElem hPn,Option.getD_some];exact List.getElem_mem hPn
  obtain⟨dg,hdg⟩:∃ dg,Sx.lD (Sx.aJ (mP (P.getD 0 [])))=dg:=⟨_,rfl⟩
  have hdg2:Sx.lD E0.data.toList=dg:=by rw[hE0];exact hdg
  have hOK:gP P=(!dg && decide ((Sx.aA ((fL P).map fun x=>x.2.data.toList)).length≤60)):=by
   unfold gP;rw[hall,hdg,show decide (P.length≤6)=true from by simpa using k6];simp
  have HOK:=hide hOK;have HDG:=hide hdg2;have HALL:=hide hall2;have hDg:D≠g:=fun e=>by
   rcases hown.2 with ⟨h1,_⟩ | ⟨g2,cap2,cur,h1,h2,h3,h4⟩
   · cases h1
   · cases h1;rw[e] at hK;rw[h3] at hK;cases hK
  have hDl:D<W.heap.size:=(Array.getElem?_eq_some_iff.1 hK).1;have hgW:=hlb.1;have HLB:=hide hlb;have hwW:=bel.size;clear hOK hdg hdg2 hall hall2 hL0 hE0 hdp hown hlb;cases dg with
  | true =>
    gi_wp2_with (refine⟨trivial,?_⟩;gi_at_call 87;refine(callsIn_wide.2 (NZ A0 E0 _ (by omega))).mono ?_;rintro e w5 ⟨rfl,hB5⟩;rw[HDG.out];have q2:Boxed w5 w.heap.size 103 (.slice none 0 0):=(hB5.block _ r2.lt).trans r2;have q3:Boxed w5 (w.heap.size+1) 25 (.int .i64 0):=(hB5.block _ r3.lt).trans r3;have u2:=q2.cell;have u3:=q3.cell;have u4:=q2.frozen;have u5:=q3.frozen)
    have hk5:w5.heap[D]? = some (.deferred (some [])):=(hB5.block D hDl).trans hK;have hk2:=(KeepsOthers.setCell (w5.setCell ⟨w.heap.size,0,none⟩ (.slice none 0 0)) ⟨w.heap.size+1,0,none⟩ (.int .i64 2)).same D _ ((KeepsOthers.setCell w5 ⟨w.heap.size,0,none⟩ (.slice none 0 0)).same D _ hk5 rfl) rfl;have hBe:=bel.trans (hB5.mono bel.size);refine⟨by simp,.inl ⟨_,_,rfl,run_takeDeferred hk2,?_⟩⟩;have y2:Boxed ((w5.setCell ⟨w.heap.size,0,none⟩ (.slice none 0 0)).setCell ⟨w.heap.size+1,0,none⟩ (.int .i64 2)) w.heap.size 103 (.slice none 0 0):=(q2.set _).kept (grownBy_setCell' _ _ _) (fun e=>by have:=Option.some.inj e;omega);have y3:Boxed ((w5.setCell ⟨w.heap.size,0,none⟩ (.slice none 0 0)).setCell ⟨w.heap.size+1,0,none⟩ (.int .i64 2)) (w.heap.size+1) 25 (.int .i64 2):=(q3.kept (grownBy_setCell' _ _ _) (fun e=>by have:=Option.some.inj e;omega)).set _;have v2:=(y2.kept (grownBy_putObj' ((w5.setCell ⟨w.heap.size,0,none⟩ (.slice none 0 0)).setCell ⟨w.heap.size+1,0,none⟩ (.int .i64 2)) D (.deferred none)) (fun e=>fN y2 hk2 rfl (Option.some.inj e))).cell;have v3:=(y3.kept (grownBy_putObj' ((w5.setCell ⟨w.heap.size,0,none⟩ (.slice none 0 0)).setCell ⟨w.heap.size+1,0,none⟩ (.int .i64 2)) D (.deferred none)) (fun e=>fN y3 hk2 rfl (Option.some.inj e))).cell;refine⟨.tuple #[.slice none 0 0,.int .i64 2],by simp[results,Tryz.results52,go_sem,v2,v3],?_⟩;exact⟨((hBe.setCell (p:=⟨w.heap.size,0,none⟩) (Nat.le_refl _) _).setCell (p:=⟨w.heap.size+1,0,none⟩) (Nat.le_succ _) _).grown (grownBy_putObj' ((w5.setCell ⟨w.heap.size,0,none⟩ (.slice none 0 0)).setCell ⟨w.heap.size+1,0,none⟩ (.int .i64 2)) D (.deferred none)) (by rw[World.size_setCell,World.size_setCell];exact hBe.size) (fun q e=>by cases e;omega),.inl ⟨by rw[HOK.out];rfl,rfl⟩⟩
  | false =>
    have hrev:=fun (w5:World) (h:LbAt w5 g (P.map mQ))=>VJ (P.map mQ) g cap w5 h (by omega);rw[hmapl] at hrev;have hHLl:(fL P).length=n+1:=by unfold fL;rw[List.length_reverse];exact hmapl
    have hHmem:∀ x∈fL P,∃ p∈P,mQ p=x:=fun x hx=>by
     unfold fL at hx;rw[List.mem_reverse] at hx;obtain⟨p,hp,rfl⟩:=List.mem_map.1 hx;exact⟨p,hp,rfl⟩
    have hjoin:=fun (w6:World) (h:LbAt w6 g (fL P))=>BE (fL P) id g cap w6 h (by omega) (fun x hx=>by
     obtain⟨p,hp,rfl⟩:=hHmem x hx;have:=wN p (HALL.out p hp);show(Sx.aJ (mP p)).length≤1000;omega) (fun x hx w=>AI x.1 x.2 w)
    rw[hHLl] at hjoin;obtain⟨T,hT⟩:∃ T:ByteArray,⟨(Sx.aA ((fL P).map fun x=>id x.2.data.toList)).toArray⟩=T:=⟨_,rfl⟩
    have hTz:T.size=(Sx.aA ((fL P).map fun x=>x.2.data.toList)).length:=by rw[←aC,←hT];rfl
    rw[hT] at hjoin;rw[←hTz] at HOK;have HREV:=hide hrev;have HJN:=hide hjoin;have HHL:=hide hHLl;clear hrev hjoin hHLl hHmem hT hTz;gi_wp2_with (first | (refine⟨trivial,?_⟩;gi_at_call 87;refine(callsIn_wide.2 (NZ A0 E0 _ (by omega))).mono ?_;rintro e w5 ⟨rfl,hB5⟩;rw[HDG.out];have q2:Boxed w5 w.heap.size 103 (.slice none 0 0):=(hB5.block _ r2.lt).trans r2;have q3:Boxed w5 (w.heap.size+1) 25 (.int .i64 0):=(hB5.block _ r3.lt).trans r3;have q4:Boxed w5 b4 103 (.slice (some ⟨g,0,none⟩) (n+1) cap):=(hB5.block _ bv.lt).trans bv;have c4:=q4.cell;have HLB5:Hid (LbAt w5 g (P.map mQ)):=hide (LabsAt.below HLB.out hB5 hgW);have hk5:w5.heap[D]? = some (.deferred (some [])):=(hB5.block D hDl).trans hK) | (refine⟨trivial,?_⟩;gi_at_call 88;refine(callsIn_wide.2 (HREV.out _ HLB5.out)).mono ?_;rintro e w6 ⟨⟨v6,rfl⟩,hlb6,hg6⟩;have p2:Boxed w6 w.heap.size 103 (.slice none 0 0):=q2.kept hg6 (fun e=>by have:=Option.some.inj e;omega);have p3:Boxed w6 (w.heap.size+1) 25 (.int .i64 0):=q3.kept hg6 (fun e=>by have:=Option.some.inj e;omega);have p4:Boxed w6 b4 103 (.slice (some ⟨g,0,none⟩) (n+1) cap):=q4.kept hg6 (fun e=>by have:=Option.some.inj e;omega);have d4:=p4.cell;have HLB6:Hid (LbAt w6 g (fL P)):=hide hlb6;have hk6:w6.heap[D]? = some (.deferred (some [])):=(hg6.block D (Array.getElem?_eq_some_iff.1 hk5).1 (fun e=>hDg (Option.some.inj e))).trans hk5;clear hlb6 c4) | (refine⟨trivial,?_⟩;gi_at_call 53;refine(callsIn_wide.2 (HJN.out _ HLB6.out)).mono ?_;rintro e w7 ⟨rfl,hB7⟩;have o2:Boxed w7 w.heap.size 103 (.slice none 0 0):=(hB7.block _ p2.lt).trans p2;have o3:Boxed w7 (w.heap.size+1) 25 (.int .i64 0):=(hB7.block _ p3.lt).trans p3;have o4:Boxed w7 b4 103 (.slice (some ⟨g,0,none⟩) (n+1) cap):=(hB7.block _ p4.lt).trans p4;have f4:=o4.cell;have u2:=o2.cell;have u3:=o3.cell;have u4:=o2.frozen;have u5:=o3.frozen;have HLB7:Hid (LbAt w7 g (fL P)):=hide (LabsAt.below HLB6.out hB7 HLB6.out.1)))
    · have h60:60<(T.size:Int):=by assumption
      have hk7:w7.heap[D]? = some (.deferred (some [])):=(hB7.block D (Array.getElem?_eq_some_iff.1 hk6).1).trans hk6;have hBe5:=bel.trans (hB5.mono bel.size);have hBe6:=hBe5.grown hg6 hBe5.size (fun q e=>by cases e;omega);have hBe:=hBe6.trans (hB7.mono hBe6.size);have hk2:=(KeepsOthers.setCell (w7.setCell ⟨w.heap.size,0,none⟩ (.slice none 0 0)) ⟨w.heap.size+1,0,none⟩ (.int .i64 2)).same D _ ((KeepsOthers.setCell w7 ⟨w.heap.size,0,none⟩ (.slice none 0 0)).same D _ hk7 rfl) rfl;refine⟨by simp,.inl ⟨_,_,rfl,run_takeDeferred hk2,?_⟩⟩;have y2:Boxed ((w7.setCell ⟨w.heap.size,0,none⟩ (.slice none 0 0)).setCell ⟨w.heap.size+1,0,none⟩ (.int .i64 2)) w.heap.size 103 (.slice none 0 0):=(o2.set _).kept (grownBy_setCell' _ _ _) (fun e=>by have:=Option.some.inj e;omega);have y3:Boxed ((w7.setCell ⟨w.heap.size,0,none⟩ (.slice none 0 0)).setCell ⟨w.heap.size+1,0,none⟩ (.int .i64 2)) (w.heap.size+1) 25 (.int .i64 2):=(o3.kept (grownBy_setCell' _ _ _) (fun e=>by have:=Option.some.inj e;omega)).set _;have v2:=(y2.kept (grownBy_putObj' ((w7.setCell ⟨w.heap.size,0,none⟩ (.slice none 0 0)).setCell ⟨w.heap.size+1,0,none⟩ (.int .i64 2)) D (.deferred none)) (fun e=>fN y2 hk2 rfl (Option.some.inj e))).cell;have v3:=(y3.kept (grownBy_putObj' ((w7.setCell ⟨w.heap.size,0,none⟩ (.slice none 0 0)).setCell ⟨w.heap.size+1,0,none⟩ (.int .i64 2)) D (.deferred none)) (fun e=>fN y3 hk2 rfl (Option.some.inj e))).cell;refine⟨.tuple #[.slice none 0 0,.int .i64 2],by simp[results,Tryz.results52,go_sem,v2,v3],?_⟩
      exact⟨((hBe.setCell (p:=⟨w.heap.size,0,none⟩) (Nat.le_refl _) _).setCell (p:=⟨w.heap.size+1,0,none⟩) (Nat.le_succ _) _).grown (grownBy_putObj' ((w7.setCell ⟨w.heap.size,0,none⟩ (.slice none 0 0)).setCell ⟨w.heap.size+1,0,none⟩ (.int .i64 2)) D (.deferred none)) (by rw[World.size_setCell,World.size_setCell];exact hBe.size) (fun q e=>by cases e;omega),.inl ⟨by rw[HOK.out];simp;omega,rfl⟩⟩
    · have h60:(T.size:Int)≤60:=by assumption
      have hk7:w7.heap[D]? = some (.deferred (some [])):=(hB7.block D (Array.getElem?_eq_some_iff.1 hk6).1).trans hk6;have hBe5:=bel.trans (hB5.mono bel.size);have hBe6:=hBe5.grown hg6 hBe5.size (fun q e=>by cases e;omega);have hBe:=hBe6.trans (hB7.mono hBe6.size);have hk2:=(KeepsOthers.setCell (w7.setCell ⟨w.heap.size,0,none⟩ (.slice (some ⟨g,0,none⟩) (n+1) cap)) ⟨w.heap.size+1,0,none⟩ (.int .i64 0)).same D _ ((KeepsOthers.setCell w7 ⟨w.heap.size,0,none⟩ (.slice (some ⟨g,0,none⟩) (n+1) cap)).same D _ hk7 rfl) rfl;refine⟨by simp,.inl ⟨_,_,rfl,run_takeDeferred hk2,?_⟩⟩;have y2:Boxed ((w7.setCell ⟨w.heap.size,0,none⟩ (.slice (some ⟨g,0,none⟩) (n+1) cap)).setCell ⟨w.heap.size+1,0,none⟩ (.int .i64 0)) w.heap.size 103 (.slice (some ⟨g,0,none⟩) (n+1) cap):=(o2.set _).kept (grownBy_setCell' _ _ _) (fun e=>by have:=Option.some.inj e;omega);have y3:Boxed ((w7.setCell ⟨w.heap.size,0,none⟩ (.slice (some ⟨g,0,none⟩) (n+1) cap)).setCell ⟨w.heap.size+1,0,none⟩ (.int .i64 0)) (w.heap.size+1) 25 (.int .i64 0):=(o3.kept (grownBy_setCell' _ _ _) (fun e=>by have:=Option.some.inj e;omega)).set _;have v2:=(y2.kept (grownBy_putObj' ((w7.setCell ⟨w.heap.size,0,none⟩ (.slice (some ⟨g,0,none⟩) (n+1) cap)).setCell ⟨w.heap.size+1,0,none⟩ (.int .i64 0)) D (.deferred none)) (fun e=>fN y2 hk2 rfl (Option.some.inj e))).cell;have v3:=(y3.kept (grownBy_putObj' ((w7.setCell ⟨w.heap.size,0,none⟩ (.slice (some ⟨g,0,none⟩) (n+1) cap)).setCell ⟨w.heap.size+1,0,none⟩ (.int .i64 0)) D (.deferred none)) (fun e=>fN y3 hk2 rfl (Option.some.inj e))).cell
      refine⟨.tuple #[.slice (some ⟨g,0,none⟩) (n+1) cap,.int .i64 0],by simp[results,Tryz.results52,go_sem,v2,v3],?_⟩;refine⟨((hBe.setCell (p:=⟨w.heap.size,0,none⟩) (Nat.le_refl _) _).setCell (p:=⟨w.heap.size+1,0,none⟩) (Nat.le_succ _) _).grown (grownBy_putObj' ((w7.setCell ⟨w.heap.size,0,none⟩ (.slice (some ⟨g,0,none⟩) (n+1) cap)).setCell ⟨w.heap.size+1,0,none⟩ (.int .i64 0)) D (.deferred none)) (by rw[World.size_setCell,World.size_setCell];exact hBe.size) (fun q e=>by cases e;omega),.inr ⟨by rw[HOK.out];simp;omega,g,cap,by rw[HHL.out],?_⟩⟩;exact BV (BV (BV HLB7.out (grownBy_setCell' _ _ _) (fun e=>by have:=Option.some.inj e;omega)) (grownBy_setCell' _ _ _) (fun e=>by have:=Option.some.inj e;omega)) (grownBy_putObj' ((w7.setCell ⟨w.heap.size,0,none⟩ (.slice (some ⟨g,0,none⟩) (n+1) cap)).setCell ⟨w.heap.size+1,0,none⟩ (.int .i64 0)) D (.deferred none)) (fun e=>hDg (Option.some.inj e).symm)
 case stop =>
  rintro D W hD hno hK;obtain⟨hno1,r2,r3,bel⟩:=hno;gi_wp2
  refine⟨by simp,.inl ⟨_,_,rfl,run_takeDeferred hK,?_⟩⟩;have v2:(W.putObj D (.deferred none)).cell? ⟨w.heap.size,0,none⟩=some (.slice none 0 0):=(r2.kept (grownBy_putObj' W D (.deferred none)) (fun e=>fN r2 hK rfl (Option.some.inj e))).cell;have v3:(W.putObj D (.deferred none)).cell? ⟨w.heap.size+1,0,none⟩=some (.int .i64 2):=(r3.kept (grownBy_putObj' W D (.deferred none)) (fun e=>fN r3 hK rfl (Option.some.inj e))).cell;refine⟨.tuple #[.slice none 0 0,.int .i64 2],by simp[results,Tryz.results52,go_sem,v2,v3],?_⟩;exact⟨bel.grown (grownBy_putObj' W D (.deferred none)) bel.size (fun q e=>by cases e;omega),.inl ⟨hno1,rfl⟩⟩
end Go.Proofs.YtgohllfpceeboabGreatDoor
