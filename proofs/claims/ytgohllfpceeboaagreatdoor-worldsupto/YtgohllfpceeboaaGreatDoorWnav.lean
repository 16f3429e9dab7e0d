import Derived.Test.YtgohllfpceeboaaGreatDoorWnas
import Derived.Test.YtgohllfpceeboaaGreatDoorWnat
import Derived.Test.YtgohllfpceeboaaGreatDoorWnau
set_option maxRecDepth 100000
set_option maxHeartbeats 2000000
namespace Go.Proofs.YtgohllfpceeboaaGreatDoor
open Go.RowKit
attribute [local go_sem ↓] Go.wp_at_zero Go.wp_at_succ
def LWt (w:World):Prop:=Lib.Utf8Tabs (Tryz.layValid_ren.g 3) (Tryz.layValid_ren.g 4) w
theorem lwt_stays:Stays LWt:=by
 intro w w' h hb;have lt:∀ {b o:Nat} {v:Value},w.cell? ⟨b,o,none⟩=some v→b<w.heap.size:=fun {b o v} hc=>by
  by_cases hlt:b<w.heap.size
  · exact hlt
  · have:w.heap[b]? = none:=Array.getElem?_eq_none (by omega);simp [World.cell?,this] at hc
 refine ⟨fun c hc=>?_,fun i hi=>⟨?_,?_⟩⟩
 · have:=h.1 c hc;exact (hb.cell (p:=⟨_,c,none⟩) (lt this)).trans this
 · have:=(h.2 i hi).1;exact (hb.cell (p:=⟨_,2*i,none⟩) (lt this)).trans this
 · have:=(h.2 i hi).2;exact (hb.cell (p:=⟨_,2*i+1,none⟩) (lt this)).trans this
theorem pvs_any (s:ByteArray) (w:World) (hw:LWt w) (hs:s.size≤60):Calls Tryz.prog 110 #[.string s] w fun e w'=>e=.returned (.bool (Sx.letters s.data.toList).isSome)∧Below w.heap.size w w':=by
 have:=Any.utf8_ValidString Tryz.layValid s w (by omega) hw;rw [valid_letters _ _ (Nat.le_refl _)] at this;exact this
theorem prh_long (s:ByteArray) (w:World) (hs:60<s.size):Calls Tryz.prog 71 #[.string s] w fun e w'=>Below w.heap.size w w'∧e=.returned (.tuple #[.slice none 0 0,.int .i64 1]):=by
 have hd:decide ((60:Int)<(s.size:Int))=true:=by simp;omega
 go_enter Tryz.func71,Tryz.ntmps71;go_wp2;have hB0:Below w.heap.size w ((w.alloc (.cells #[.slice none 0 0] 115)).alloc (.cells #[.int .i64 1] 28)):=((Below.refl _ w).alloc (Nat.le_refl _) _).alloc (by rw [World.size_alloc];exact Nat.le_succ _) _;have z2:((w.alloc (.cells #[.slice none 0 0] 115)).alloc (.cells #[.int .i64 1] 28)).cell? ⟨w.heap.size,0,none⟩=some (.slice none 0 0):=((Boxed.new w 115 _).alloc _).cell;have z3:((w.alloc (.cells #[.slice none 0 0] 115)).alloc (.cells #[.int .i64 1] 28)).cell? ⟨w.heap.size+1,0,none⟩=some (.int .i64 1):=by
  have:=(Boxed.new (w.alloc (.cells #[.slice none 0 0] 115)) 28 (.int .i64 1)).cell;rw [World.size_alloc] at this;exact this
 exact bodyPost_ret (v:=.tuple #[.slice none 0 0,.int .i64 1]) (by simp [results,Tryz.results71,go_sem,z2,z3]) rfl ⟨hB0,rfl⟩
theorem prh_bad (s:ByteArray) (w:World) (hw:LWt w) (hs:s.size≤60) (hl:Sx.letters s.data.toList=none):Calls Tryz.prog 71 #[.string s] w fun e w'=>Below w.heap.size w w'∧e=.returned (.tuple #[.slice none 0 0,.int .i64 2]):=by
 have hd:(60<s.size)=False:=by simp;omega
 have hB0:Below w.heap.size w ((w.alloc (.cells #[.slice none 0 0] 115)).alloc (.cells #[.int .i64 0] 28)):=((Below.refl _ w).alloc (Nat.le_refl _) _).alloc (by rw [World.size_alloc];exact Nat.le_succ _) _;have hx2:Boxed ((w.alloc (.cells #[.slice none 0 0] 115)).alloc (.cells #[.int .i64 0] 28)) w.heap.size 115 (.slice none 0 0):=(Boxed.new w 115 _).alloc _;have hx3:Boxed ((w.alloc (.cells #[.slice none 0 0] 115)).alloc (.cells #[.int .i64 0] 28)) (w.heap.size+1) 28 (.int .i64 0):=by
  have:=Boxed.new (w.alloc (.cells #[.slice none 0 0] 115)) 28 (.int .i64 0);rw [World.size_alloc] at this;exact this
 have hv:=pvs_any s _ (lwt_stays w _ hw hB0) hs;rw [hl] at hv;have HV:=hide hv;clear hv hl hw;go_enter Tryz.func71,Tryz.ntmps71;go_wp2_with (go_at_call 110;go_must (refine HV.out.mono ?_;rintro e w2 ⟨rfl,hB2⟩;have q2:Boxed w2 w.heap.size 115 (.slice none 0 0):=(hB2.block _ hx2.lt).trans hx2;have q3:Boxed w2 (w.heap.size+1) 28 (.int .i64 0):=(hB2.block _ hx3.lt).trans hx3;have u2:=q2.cell;have u3:=q3.cell;have u4:=q2.frozen;have u5:=q3.frozen))
 have y2:Boxed ((w2.setCell ⟨w.heap.size,0,none⟩ (.slice none 0 0)).setCell ⟨w.heap.size+1,0,none⟩ (.int .i64 2)) w.heap.size 115 (.slice none 0 0):=(q2.set _).kept (grownBy_setCell' _ _ _) (fun e=>by have:=Option.some.inj e;omega);have y3:Boxed ((w2.setCell ⟨w.heap.size,0,none⟩ (.slice none 0 0)).setCell ⟨w.heap.size+1,0,none⟩ (.int .i64 2)) (w.heap.size+1) 28 (.int .i64 2):=(q3.kept (grownBy_setCell' _ _ _) (fun e=>by have:=Option.some.inj e;omega)).set _;have v2:=y2.cell;have v3:=y3.cell;have hBe:=hB0.trans (hB2.mono hB0.size);exact bodyPost_ret (v:=.tuple #[.slice none 0 0,.int .i64 2]) (by simp [results,Tryz.results71,go_sem,v2,v3]) rfl ⟨(hBe.setCell (p:=⟨w.heap.size,0,none⟩) (Nat.le_refl _) _).setCell (p:=⟨w.heap.size+1,0,none⟩) (Nat.le_succ _) _,rfl⟩
def RhPost (s:ByteArray) (w:World) (e:Ending) (w':World):Prop :=
 Below w.heap.size w w'∧((∃ err:Int,err≠0∧Sx.host s.data.toList=([],err)∧e=.returned (.tuple #[.slice none 0 0,.int .i64 err])) ∨
  (∃ (L:List Lab) (g cap:Nat),Sx.host s.data.toList=(L.map (fun x=>x.2.data.toList),0)∧e=.returned (.tuple #[.slice (some ⟨g,0,none⟩) L.length cap,.int .i64 0])∧LbAt w' g L∧L.length≤6∧∀ x∈L,∃ p,labP p=x∧okP p=true∧(∃ l,Sx.letters p=some l)∧p.length≤60))
theorem prh_any (s:ByteArray) (w:World) (hw:LWt w):Calls Tryz.prog 71 #[.string s] w (RhPost s w):=by
 by_cases hs:s.size≤60
 · cases hl:Sx.letters s.data.toList with
   | none =>
     refine (prh_bad s w hw hs hl).mono ?_;rintro e w' ⟨h1,rfl⟩;exact ⟨h1,.inl ⟨2,by omega,by unfold Sx.host;rw [if_neg (by rw [ba_len];omega),hl],rfl⟩⟩
   | some l =>
     obtain ⟨h1,h2,h3⟩:=pieces_are s l hl;have hh:=host_eq s l hl hs;refine (prh_valid s w (pcs s.data.toList) hs rfl (fun w' hb=>by
      have:=pvs_any s w' (lwt_stays w w' hw hb) hs;rw [hl] at this;exact this) (fun p hp=>⟨(h3 p hp).1,by have:=(h3 p hp).2;omega⟩)).mono ?_
     rintro e w' ⟨g1,(⟨g2,rfl⟩ | ⟨g2,g,cap,rfl,g3⟩)⟩
     · rw [g2] at hh;exact ⟨g1,.inl ⟨2,by omega,hh,rfl⟩⟩
     · rw [g2,if_pos rfl] at hh;have hH:(hostL (pcs s.data.toList)).map (fun x=>x.2.data.toList)=(pcs s.data.toList).reverse.map fun p=>Sx.formOf (mP p):=by
        unfold hostL;rw [List.map_reverse,List.map_map,List.map_reverse];rfl
       unfold hostOk at g2;simp only [Bool.and_eq_true,decide_eq_true_eq] at g2;refine ⟨g1,.inr ⟨hostL (pcs s.data.toList),g,cap,by rw [hH];exact hh,rfl,g3,by unfold hostL;rw [List.length_reverse,List.length_map];exact g2.1.1.1,fun x hx=>?_⟩⟩;unfold hostL at hx;rw [List.mem_reverse] at hx;obtain ⟨p,hp,rfl⟩:=List.mem_map.1 hx;exact ⟨p,rfl,List.all_eq_true.1 g2.1.1.2 p hp,(h3 p hp).1,by have:=(h3 p hp).2;omega⟩
 · refine (prh_long s w (by omega)).mono ?_;rintro e w' ⟨h1,rfl⟩;exact ⟨h1,.inl ⟨1,by omega,by unfold Sx.host;rw [if_pos (by rw [ba_len];omega)],rfl⟩⟩
theorem decF_len:∀ (f:Nat) (l:List Int) (bias n i:Int) (first:Bool) (s:List UInt8) (m:List Int),Sx.decF f l bias n i first s=some m→m.length≤l.length+s.length:=by
 intro f
 induction f with
 | zero =>
   intro l bias n i first s m h
   cases s with
   | nil=>simp only [Sx.decF,Option.some.injEq] at h;rw [←h];simp
   | cons x s=>simp [Sx.decF] at h
 | succ f ih =>
   intro l bias n i first s m h
   cases s with
   | nil=>simp only [Sx.decF,Option.some.injEq] at h;rw [←h];simp
   | cons x s =>
     simp only [Sx.decF] at h;cases hn:Sx.numF bias 0 1 0 (x :: s) with
     | none=>rw [hn] at h;cases h
     | some p =>
       obtain ⟨d,s2⟩:=p;rw [hn] at h;simp only at h;have hl:=Sx.numF_len _ _ _ _ _ _ _ hn;split at h
       · cases h
       · have:=ih _ _ _ _ _ _ _ h;rw [Sx.putIn_len] at this;omega
theorem dec_len (s:List UInt8) (m:List Int) (h:Sx.dec s=some m):m.length≤s.length:=by
 rw [Sx.dec_parts] at h;split at h
 · cases h
 · have h1:=decF_len _ _ _ _ _ _ _ _ h;have h2:=Sx.dashTo_bd s s.length;unfold Sx.plainPart Sx.numPart at h1;rw [List.length_map,List.length_take,List.length_drop] at h1;unfold Sx.dash at h1;omega
theorem lab_facts (x:Lab) (p:List UInt8) (h:labP p=x) (ho:okP p=true) (hl:∃ l,Sx.letters p=some l) (hp:p.length≤60):x.2.size≤20∧(∀ b∈x.2.data.toList,b.toNat<128)∧shownB x.2.data.toList=Sx.shownOf x.2.data.toList∧(shownB x.2.data.toList).length≤1000:=by
 obtain ⟨l,hl⟩:=hl;obtain ⟨hm,hml,hmg,hmt⟩:=piece_facts p l hl hp;have hx:x.2.data.toList=Sx.formOf (mP p):=by rw [←h];rfl
 have h1:=ok_short p ho;have h2:=(form_len (mP p) hml hmg).2;refine ⟨by rw [←ba_len,hx];exact h1,by rw [hx];exact h2,by rw [hx];exact shown_eq p ho,?_⟩;rw [hx];unfold shownB;split
 · unfold Sx.letOf;split
   · have h3:=Sx.text_len ((Sx.dec ((Sx.formOf (mP p)).drop 4)).getD []);cases hd:Sx.dec ((Sx.formOf (mP p)).drop 4) with
     | none=>simp [Sx.text]
     | some m =>
       have h4:=dec_len _ _ hd;rw [hd] at h3;rw [List.length_drop] at h4;simp only [Option.getD_some] at h3 ⊢;omega
   · simp
 · omega
theorem phip_any (s:ByteArray) (w:World) (hw:LWt w):Calls Tryz.prog 47 #[.string s,.func (.func 48) #[] #[]] w (PlnPost (Sx.plainR s.data.toList) w.heap.size w):=by
 have HRH:=hide (prh_any s w hw);have HR:Hid (∀ (L:List Lab),Sx.host s.data.toList=(L.map (fun x=>x.2.data.toList),0)→(∀ x∈L,∃ p,labP p=x∧okP p=true∧(∃ l,Sx.letters p=some l)∧p.length≤60)→Sx.plainR s.data.toList=(Sx.dotted (L.map fun x=>id x.2.data.toList),0)):=hide (fun L h hx=>by
  unfold Sx.plainR;rw [h];simp only [id])
 have HN:Hid (∀ err:Int,Sx.host s.data.toList=([],err)→Sx.plainR s.data.toList=([],err)):=hide (fun err h=>by unfold Sx.plainR;rw [h];rfl);go_enter Tryz.func47,Tryz.ntmps47;go_wp2_with fail
 refine HRH.out.mono ?_;rintro e w2 ⟨hB2,(⟨err,he0,hh,rfl⟩ | ⟨L,g,cap,hh,rfl,hlb,hl6,hx⟩)⟩
 · have HHH:=hide (HN.out err hh);have hd:(err != 0)=true:=by simpa using he0
   clear hh;go_wp2;go_ret2;exact ⟨hB2,by rw [HHH.out];rfl⟩
 · have HHH:=hide (HR.out L hh hx);have hj:=pjp_any L id g cap w2 hlb (by omega) (fun x hm=>by
    obtain ⟨p,h1,h2,h3,h4⟩:=hx x hm;have hf:=lab_facts x p h1 h2 h3 h4;show x.2.data.toList.length≤1000;rw [ba_len];omega) (fun x hm w=>by
    obtain ⟨p,h1,h2,h3,h4⟩:=hx x hm;have hf:=lab_facts x p h1 h2 h3 h4;exact ppf_any x.1 x.2 w)
   obtain ⟨T,hT⟩:∃ T:ByteArray,⟨(Sx.dotted (L.map fun x=>id x.2.data.toList)).toArray⟩=T:=⟨_,rfl⟩
   rw [hT] at hj;have HJ:=hide hj;have HT:=hide hT;clear hj hh hx hT hlb;go_wp2_with (go_at_call 72;go_must (refine HJ.out.mono ?_;rintro e w3 ⟨rfl,hB3⟩))
   go_ret2;exact ⟨hB2.trans (hB3.mono hB2.size),by rw [HHH.out,←HT.out];rfl⟩
end Go.Proofs.YtgohllfpceeboaaGreatDoor
