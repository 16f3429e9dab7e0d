import Derived.Test.YtgohllfpceeboabGreatDoorAnas
import Derived.Test.YtgohllfpceeboabGreatDoorAnau
set_option maxRecDepth 100000
set_option maxHeartbeats 2000000
namespace Go.Proofs.YtgohllfpceeboabGreatDoor
open Go.RowKit
attribute [local go_sem ↓] Go.wp_at_zero Go.wp_at_succ
def gW (w:World):Prop:=Lib.Utf8Tabs (Tryz.layValid_ren.g 3) (Tryz.layValid_ren.g 4) w
theorem bA:NH gW:=by
 intro w w' h hb;have lt:∀ {b o:Nat} {v:Value},w.cell? ⟨b,o,none⟩=some v→b<w.heap.size:=fun {b o v} hc=>by
  by_cases hlt:b<w.heap.size
  · exact hlt
  · have:w.heap[b]? = none:=Array.getElem?_eq_none (by omega);simp[World.cell?,this] at hc
 refine⟨fun c hc=>?_,fun i hi=>⟨?_,?_⟩⟩
 · have:=h.1 c hc;exact(hb.cell (p:=⟨_,c,none⟩) (lt this)).trans this
 · have:=(h.2 i hi).1;exact(hb.cell (p:=⟨_,2*i,none⟩) (lt this)).trans this
 · have:=(h.2 i hi).2;exact(hb.cell (p:=⟨_,2*i+1,none⟩) (lt this)).trans this
theorem OF (s:ByteArray)(w:World)(hw:gW w)(hs:s.size≤60):Calls Tryz.prog 83 #[.string s] w fun e w'=>e=.returned (.bool (Sx.aF s.data.toList).isSome)∧Below w.heap.size w w':=by
 have:=Any.utf8_ValidString Tryz.layValid s w (by omega) hw;rw[xJ _ _ (Nat.le_refl _)] at this;exact this
theorem WI (s:ByteArray)(w:World)(hs:60<s.size):Calls Tryz.prog 52 #[.string s] w fun e w'=>Below w.heap.size w w'∧e=.returned (.tuple #[.slice none 0 0,.int .i64 1]):=by
 have hd:decide ((60:Int)<(s.size:Int))=true:=by simp;omega
 go_enter Tryz.func52,Tryz.ntmps52;go_wp2;have hB0:Below w.heap.size w ((w.alloc (.cells #[.slice none 0 0] 103)).alloc (.cells #[.int .i64 1] 25)):=((Below.refl _ w).alloc (Nat.le_refl _) _).alloc (by rw[World.size_alloc];exact Nat.le_succ _) _;have z2:((w.alloc (.cells #[.slice none 0 0] 103)).alloc (.cells #[.int .i64 1] 25)).cell? ⟨w.heap.size,0,none⟩=some (.slice none 0 0):=((Boxed.new w 103 _).alloc _).cell;have z3:((w.alloc (.cells #[.slice none 0 0] 103)).alloc (.cells #[.int .i64 1] 25)).cell? ⟨w.heap.size+1,0,none⟩=some (.int .i64 1):=by
  have:=(Boxed.new (w.alloc (.cells #[.slice none 0 0] 103)) 25 (.int .i64 1)).cell;rw[World.size_alloc] at this;exact this
 exact bodyPost_ret (v:=.tuple #[.slice none 0 0,.int .i64 1]) (by simp[results,Tryz.results52,go_sem,z2,z3]) rfl ⟨hB0,rfl⟩
theorem A2 (s:ByteArray)(w:World)(hw:gW w)(hs:s.size≤60)(hl:Sx.aF s.data.toList=none):Calls Tryz.prog 52 #[.string s] w fun e w'=>Below w.heap.size w w'∧e=.returned (.tuple #[.slice none 0 0,.int .i64 2]):=by
 have hd:(60<s.size)=False:=by simp;omega
 have hB0:Below w.heap.size w ((w.alloc (.cells #[.slice none 0 0] 103)).alloc (.cells #[.int .i64 0] 25)):=((Below.refl _ w).alloc (Nat.le_refl _) _).alloc (by rw[World.size_alloc];exact Nat.le_succ _) _;have hx2:Boxed ((w.alloc (.cells #[.slice none 0 0] 103)).alloc (.cells #[.int .i64 0] 25)) w.heap.size 103 (.slice none 0 0):=(Boxed.new w 103 _).alloc _;have hx3:Boxed ((w.alloc (.cells #[.slice none 0 0] 103)).alloc (.cells #[.int .i64 0] 25)) (w.heap.size+1) 25 (.int .i64 0):=by
  have:=Boxed.new (w.alloc (.cells #[.slice none 0 0] 103)) 25 (.int .i64 0);rw[World.size_alloc] at this;exact this
 have hv:=OF s _ (bA w _ hw hB0) hs;rw[hl] at hv;have HV:=hide hv;clear hv hl hw;go_enter Tryz.func52,Tryz.ntmps52;go_wp2_with (go_at_call 83;go_must (refine HV.out.mono ?_;rintro e w2 ⟨rfl,hB2⟩;have q2:Boxed w2 w.heap.size 103 (.slice none 0 0):=(hB2.block _ hx2.lt).trans hx2;have q3:Boxed w2 (w.heap.size+1) 25 (.int .i64 0):=(hB2.block _ hx3.lt).trans hx3;have u2:=q2.cell;have u3:=q3.cell;have u4:=q2.frozen;have u5:=q3.frozen))
 have y2:Boxed ((w2.setCell ⟨w.heap.size,0,none⟩ (.slice none 0 0)).setCell ⟨w.heap.size+1,0,none⟩ (.int .i64 2)) w.heap.size 103 (.slice none 0 0):=(q2.set _).kept (grownBy_setCell' _ _ _) (fun e=>by have:=Option.some.inj e;omega);have y3:Boxed ((w2.setCell ⟨w.heap.size,0,none⟩ (.slice none 0 0)).setCell ⟨w.heap.size+1,0,none⟩ (.int .i64 2)) (w.heap.size+1) 25 (.int .i64 2):=(q3.kept (grownBy_setCell' _ _ _) (fun e=>by have:=Option.some.inj e;omega)).set _;have v2:=y2.cell;have v3:=y3.cell;have hBe:=hB0.trans (hB2.mono hB0.size);exact bodyPost_ret (v:=.tuple #[.slice none 0 0,.int .i64 2]) (by simp[results,Tryz.results52,go_sem,v2,v3]) rfl ⟨(hBe.setCell (p:=⟨w.heap.size,0,none⟩) (Nat.le_refl _) _).setCell (p:=⟨w.heap.size+1,0,none⟩) (Nat.le_succ _) _,rfl⟩
def P9 (s:ByteArray)(w:World)(e:Ending)(w':World):Prop :=
 Below w.heap.size w w'∧((∃ err:Int,err≠0∧Sx.aI s.data.toList=([],err)∧e=.returned (.tuple #[.slice none 0 0,.int .i64 err])) ∨
  (∃ (L:List tO) (g cap:Nat),Sx.aI s.data.toList=(L.map (fun x=>x.2.data.toList),0)∧e=.returned (.tuple #[.slice (some ⟨g,0,none⟩) L.length cap,.int .i64 0])∧LbAt w' g L∧L.length≤6∧∀ x∈L,∃ p,mQ p=x∧xG p=true∧(∃ l,Sx.aF p=some l)∧p.length≤60))
theorem AA (s:ByteArray)(w:World)(hw:gW w):Calls Tryz.prog 52 #[.string s] w (P9 s w):=by
 by_cases hs:s.size≤60
 · cases hl:Sx.aF s.data.toList with
   | none =>
     refine(A2 s w hw hs hl).mono ?_;rintro e w' ⟨h1,rfl⟩;exact⟨h1,.inl ⟨2,by omega,by unfold Sx.aI;rw[if_neg (by rw[aC];omega),hl],rfl⟩⟩
   | some l =>
     obtain⟨h1,h2,h3⟩:=vA s l hl;have hh:=host_eq s l hl hs;refine(QJ s w (fK s.data.toList) hs rfl (fun w' hb=>by
      have:=OF s w' (bA w w' hw hb) hs;rw[hl] at this;exact this) (fun p hp=>⟨(h3 p hp).1,by have:=(h3 p hp).2;omega⟩)).mono ?_
     rintro e w' ⟨g1,(⟨g2,rfl⟩ | ⟨g2,g,cap,rfl,g3⟩)⟩
     · rw[g2] at hh;exact⟨g1,.inl ⟨2,by omega,hh,rfl⟩⟩
     · rw[g2,if_pos rfl] at hh;have hH:(fL (fK s.data.toList)).map (fun x=>x.2.data.toList)=(fK s.data.toList).reverse.map fun p=>Sx.aJ (mP p):=by
        unfold fL;rw[List.map_reverse,List.map_map,List.map_reverse];rfl
       unfold gP at g2;simp only[Bool.and_eq_true,decide_eq_true_eq] at g2;refine⟨g1,.inr ⟨fL (fK s.data.toList),g,cap,by rw[hH];exact hh,rfl,g3,by unfold fL;rw[List.length_reverse,List.length_map];exact g2.1.1.1,fun x hx=>?_⟩⟩;unfold fL at hx;rw[List.mem_reverse] at hx;obtain⟨p,hp,rfl⟩:=List.mem_map.1 hx;exact⟨p,rfl,List.all_eq_true.1 g2.1.1.2 p hp,(h3 p hp).1,by have:=(h3 p hp).2;omega⟩
 · refine(WI s w (by omega)).mono ?_;rintro e w' ⟨h1,rfl⟩;exact⟨h1,.inl ⟨1,by omega,by unfold Sx.aI;rw[if_pos (by rw[aC];omega)],rfl⟩⟩
theorem XE:∀ (f:Nat) (l:List Int) (bias n i:Int) (first:Bool) (s:List UInt8) (m:List Int),Sx.rR f l bias n i first s=some m→m.length≤l.length+s.length:=by
 intro f
 induction f with
 | zero =>
   intro l bias n i first s m h
   cases s with
   | nil=>simp only[Sx.rR,Option.some.injEq] at h;rw[←h];simp
   | cons x s=>simp[Sx.rR] at h
 | succ f ih =>
   intro l bias n i first s m h
   cases s with
   | nil=>simp only[Sx.rR,Option.some.injEq] at h;rw[←h];simp
   | cons x s =>
     simp only[Sx.rR] at h;cases hn:Sx.cS bias 0 1 0 (x::s) with
     | none=>rw[hn] at h;cases h
     | some p =>
       obtain⟨d,s2⟩:=p;rw[hn] at h;simp only at h;have hl:=Sx.mT _ _ _ _ _ _ _ hn;split at h
       · cases h
       · have:=ih _ _ _ _ _ _ _ h;rw[Sx.bV] at this;omega
theorem y5 (s:List UInt8)(m:List Int)(h:Sx.dec s=some m):m.length≤s.length:=by
 rw[Sx.nR] at h;split at h
 · cases h
 · have h1:=XE _ _ _ _ _ _ _ _ h;have h2:=Sx.oH s s.length;unfold Sx.fC Sx.fM at h1;rw[List.length_map,List.length_take,List.length_drop] at h1;unfold Sx.dash at h1;omega
theorem iY (x:tO)(p:List UInt8)(h:mQ p=x)(ho:xG p=true)(hl:∃ l,Sx.aF p=some l)(hp:p.length≤60):x.2.size≤20∧(∀ b∈x.2.data.toList,b.toNat<128)∧jR x.2.data.toList=Sx.bW x.2.data.toList∧(jR x.2.data.toList).length≤1000:=by
 obtain⟨l,hl⟩:=hl;obtain⟨hm,hml,hmg,hmt⟩:=mF p l hl hp;have hx:x.2.data.toList=Sx.aJ (mP p):=by rw[←h];rfl
 have h1:=wN p ho;have h2:=(vE (mP p) hml hmg).2;refine⟨by rw[←aC,hx];exact h1,by rw[hx];exact h2,by rw[hx];exact XD p ho,?_⟩;rw[hx];unfold jR;split
 · unfold Sx.kL;split
   · have h3:=Sx.lC ((Sx.dec ((Sx.aJ (mP p)).drop 4)).getD []);cases hd:Sx.dec ((Sx.aJ (mP p)).drop 4) with
     | none=>simp[Sx.text]
     | some m =>
       have h4:=y5 _ _ hd;rw[hd] at h3;rw[List.length_drop] at h4;simp only[Option.getD_some] at h3 ⊢;omega
   · simp
 · omega
theorem rA (s:ByteArray)(w:World)(hw:gW w):Calls Tryz.prog 32 #[.string s,.func (.func 33) #[] #[]] w (iV (Sx.dU s.data.toList) w.heap.size w):=by
 have HRH:=hide (AA s w hw);have HR:Hid (∀ (L:List tO),Sx.aI s.data.toList=(L.map (fun x=>x.2.data.toList),0)→(∀ x∈L,∃ p,mQ p=x∧xG p=true∧(∃ l,Sx.aF p=some l)∧p.length≤60)→Sx.dU s.data.toList=(Sx.aA (L.map fun x=>id x.2.data.toList),0)):=hide (fun L h hx=>by
  unfold Sx.dU;rw[h];simp only[id])
 have HN:Hid (∀ err:Int,Sx.aI s.data.toList=([],err)→Sx.dU s.data.toList=([],err)):=hide (fun err h=>by unfold Sx.dU;rw[h];rfl);go_enter Tryz.func32,Tryz.ntmps32;go_wp2_with fail
 refine HRH.out.mono ?_;rintro e w2 ⟨hB2,(⟨err,he0,hh,rfl⟩ | ⟨L,g,cap,hh,rfl,hlb,hl6,hx⟩)⟩
 · have HHH:=hide (HN.out err hh);have hd:(err != 0)=true:=by simpa using he0
   clear hh;go_wp2;go_ret2;exact⟨hB2,by rw[HHH.out];rfl⟩
 · have HHH:=hide (HR.out L hh hx);have hj:=BE L id g cap w2 hlb (by omega) (fun x hm=>by
    obtain⟨p,h1,h2,h3,h4⟩:=hx x hm;have hf:=iY x p h1 h2 h3 h4;show x.2.data.toList.length≤1000;rw[aC];omega) (fun x hm w=>by
    obtain⟨p,h1,h2,h3,h4⟩:=hx x hm;have hf:=iY x p h1 h2 h3 h4;exact AI x.1 x.2 w)
   obtain⟨T,hT⟩:∃ T:ByteArray,⟨(Sx.aA (L.map fun x=>id x.2.data.toList)).toArray⟩=T:=⟨_,rfl⟩
   rw[hT] at hj;have HJ:=hide hj;have HT:=hide hT;clear hj hh hx hT hlb;go_wp2_with (go_at_call 53;go_must (refine HJ.out.mono ?_;rintro e w3 ⟨rfl,hB3⟩))
   go_ret2;exact⟨hB2.trans (hB3.mono hB2.size),by rw[HHH.out,←HT.out];rfl⟩
theorem UC (s:ByteArray)(w:World)(hw:gW w):Calls Tryz.prog 32 #[.string s,.func (.func 73) #[] #[]] w (iV (Sx.iN s.data.toList) w.heap.size w):=by
 have HRH:=hide (AA s w hw);have HR:Hid (∀ (L:List tO),Sx.aI s.data.toList=(L.map (fun x=>x.2.data.toList),0)→(∀ x∈L,∃ p,mQ p=x∧xG p=true∧(∃ l,Sx.aF p=some l)∧p.length≤60)→Sx.iN s.data.toList=(Sx.aA (L.map fun x=>jR x.2.data.toList),0)):=hide (fun L h hx=>by
  unfold Sx.iN;rw[h];simp only[List.map_map];congr 2;refine List.map_congr_left (fun x hm=>?_);obtain⟨p,h1,h2,h3,h4⟩:=hx x hm;exact(iY x p h1 h2 h3 h4).2.2.1.symm)
 have HN:Hid (∀ err:Int,Sx.aI s.data.toList=([],err)→Sx.iN s.data.toList=([],err)):=hide (fun err h=>by unfold Sx.iN;rw[h];rfl);go_enter Tryz.func32,Tryz.ntmps32;go_wp2_with fail
 refine HRH.out.mono ?_;rintro e w2 ⟨hB2,(⟨err,he0,hh,rfl⟩ | ⟨L,g,cap,hh,rfl,hlb,hl6,hx⟩)⟩
 · have HHH:=hide (HN.out err hh);have hd:(err != 0)=true:=by simpa using he0
   clear hh;go_wp2;go_ret2;exact⟨hB2,by rw[HHH.out];rfl⟩
 · have HHH:=hide (HR.out L hh hx);have hj:=y8 L jR g cap w2 hlb (by omega) (fun x hm=>by
    obtain⟨p,h1,h2,h3,h4⟩:=hx x hm;have hf:=iY x p h1 h2 h3 h4;exact hf.2.2.2) (fun x hm w=>by
    obtain⟨p,h1,h2,h3,h4⟩:=hx x hm;have hf:=iY x p h1 h2 h3 h4;exact ZA x.1 x.2 w hf.1 hf.2.1)
   obtain⟨T,hT⟩:∃ T:ByteArray,⟨(Sx.aA (L.map fun x=>jR x.2.data.toList)).toArray⟩=T:=⟨_,rfl⟩
   rw[hT] at hj;have HJ:=hide hj;have HT:=hide hT;clear hj hh hx hT hlb;go_wp2_with (go_at_call 53;go_must (refine HJ.out.mono ?_;rintro e w3 ⟨rfl,hB3⟩))
   go_ret2;exact⟨hB2.trans (hB3.mono hB2.size),by rw[HHH.out,←HT.out];rfl⟩
theorem xI:rF gW:=by
 intro s w hw;have HC:=hide (rA s w hw);clear hw;go_enter Tryz.func14,Tryz.ntmps14;go_wp2_with fail
 refine HC.out.mono ?_;rintro e w2 ⟨hB,rfl⟩;go_wp2;go_ret2;exact⟨hB,rfl⟩
theorem xE:rK gW:=by
 intro s w hw;have HC:=hide (UC s w hw);clear hw;go_enter Tryz.func45,Tryz.ntmps45;go_wp2_with fail
 refine HC.out.mono ?_;rintro e w2 ⟨hB,rfl⟩;go_wp2;go_ret2;exact⟨hB,rfl⟩
end Go.Proofs.YtgohllfpceeboabGreatDoor
