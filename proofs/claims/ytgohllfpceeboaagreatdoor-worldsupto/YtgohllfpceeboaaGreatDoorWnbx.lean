import Derived.Test.YtgohllfpceeboaaGreatDoorWnbw
import Derived.Test.YtgohllfpceeboaaGreatDoorWnbv
import Derived.Test.YtgohllfpceeboaaGreatDoorCards
import Derived.Test.YtgohllfpceeboaaGreatDoorFcW
import Derived.Test.YtgohllfpceeboaaGreatDoorTie
import Derived.Deep.DeepHandedRow
import Derived.Carry
set_option maxRecDepth 100000
set_option maxHeartbeats 8000000
namespace Go.Proofs.YtgohllfpceeboaaGreatDoor
open Go.RowKit
theorem law_opaque (p:PD) (n1 n2 n3:Int) (s t:ByteArray) (la:Option Addr) (ln lc:Nat) (md:Bool) (w:World) (_:LWt w) (hp:PrOk w p):Calls Tryz.prog 69 #[.agg #[.pointer (some ⟨p.g,0,none⟩),.pointer (some ⟨p.h,0,none⟩)],.agg #[.int .i64 8,.int .i64 n1,.int .i64 n2,.int .i64 n3,.string s,.string t,.slice la ln lc,.bool md]] w fun e w'=>e=.returned (.bool true)∧PairPost w p w':=by
 obtain ⟨W0,hW0⟩:∃ W0,(w.alloc (.cells #[.pointer (some ⟨p.g,0,none⟩),.pointer (some ⟨p.h,0,none⟩)] 114)).alloc (.cells #[.int .i64 8,.int .i64 n1,.int .i64 n2,.int .i64 n3,.string s,.string t,.slice la ln lc,.bool md] 78)=W0:=⟨_,rfl⟩
 obtain ⟨hB0,hz0,hbx⟩:=op_box2 _ _ _ _ _ _ _ _ _ _ _ _ hW0;have hp0:=hp.below hB0;have HPT:=hide (pOpaqueX p.g p.ov p.rs p.os W0 hp0.pw hp0.few);have HDT:=hide (fun W hd=>rOpaque p.h p.dv p.rs p.os W hd hp0.few);have hok:∀ x∈(opqO p.os).1,OrgOk x:=joinO_ok (o:=(none,[])) hp0.ok rfl;have hfw:=opqO_few hp0.few;have hkp:∀ W os',PPost W0 p.g p.ov p.rs os' W→∀ b,w.heap.size≤b→b<w.heap.size+2→W.heap[b]? = W0.heap[b]?:=fun W os' hP b h1 h2=>by
  obtain ⟨ov',-,hx,-⟩:=hP;exact hx.block b (by omega) (fun e=>by have:=(hp.pw.peLt e).2;omega)
 obtain ⟨⟨os',a,b⟩,hT⟩:∃ x,opqO p.os=x:=⟨_,rfl⟩
 rw [hT] at HPT hok hfw;simp only [hT] at HDT;dsimp only at HPT HDT hok hfw;have HAF:=hide (fun W (h:PPost W0 p.g p.ov p.rs os' W)=>hp0.after h);have HPP:=hide (fun W1 W2 (h:PPost W0 p.g p.ov p.rs os' W1) h2=>(pair_post (w2:=W2) hp0 h h2 hok hfw).back hB0);have HBX:=hide (fun W (h:PPost W0 p.g p.ov p.rs os' W)=>hbx W (hkp W os' h));obtain ⟨c0,c1,d0,d1,d2,d3,d4,d5,d6,d7⟩:=hbx W0 (fun _ _ _=>rfl);have aa:(a == a)=true:=by simp
 have bb:(b == b)=true:=by simp
 have HW0:=hide hW0;obtain ⟨g,ov,h,dv,rs,os⟩:=p;dsimp only at *;clear hp hp0 hok hfw hkp hT hbx hB0 hW0;go_enter Tryz.func69,Tryz.ntmps69;go_upto_region 1 with fail
 rw [HW0.out];go_wp2_with fail
 refine HPT.out.mono ?_;rintro e w1 ⟨rfl,hP1⟩;obtain ⟨c0,c1,d0,d1,d2,d3,d4,d5,d6,d7⟩:=HBX.out _ hP1;have HD:=hide (HDT.out _ (HAF.out _ hP1));have HP1:=hide hP1;clear hP1 HDT HAF HPT;go_wp2_with fail
 refine HD.out.mono ?_;rintro e w2 ⟨rfl,hD2⟩;have HF:=hide (HPP.out _ _ HP1.out hD2);clear hD2 HPP;go_wp2_with (go_at_call 99;go_must (refine (num_any _ _).mono ?_;rintro e w' ⟨rfl,rfl⟩))
 go_ret;exact ⟨rfl,HF.out⟩
theorem law_domain (p:PD) (n1 n2 n3:Int) (s t:ByteArray) (la:Option Addr) (ln lc:Nat) (md:Bool) (w:World) (hw:LWt w) (hp:PrOk w p):Calls Tryz.prog 69 #[.agg #[.pointer (some ⟨p.g,0,none⟩),.pointer (some ⟨p.h,0,none⟩)],.agg #[.int .i64 9,.int .i64 n1,.int .i64 n2,.int .i64 n3,.string s,.string t,.slice la ln lc,.bool md]] w fun e w'=>e=.returned (.bool true)∧PairPost w p w':=by
 obtain ⟨W0,hW0⟩:∃ W0,(w.alloc (.cells #[.pointer (some ⟨p.g,0,none⟩),.pointer (some ⟨p.h,0,none⟩)] 114)).alloc (.cells #[.int .i64 9,.int .i64 n1,.int .i64 n2,.int .i64 n3,.string s,.string t,.slice la ln lc,.bool md] 78)=W0:=⟨_,rfl⟩
 obtain ⟨hB0,hz0,hbx⟩:=op_box2 _ _ _ _ _ _ _ _ _ _ _ _ hW0;have hp0:=hp.below hB0;have HPT:=hide (pDomainX p.g n2 s p.ov p.rs p.os W0 (lwt_stays _ _ hw hB0) hp0.pw hp0.ok hp0.rt);have HDT:=hide (fun W hd=>rDomain p.h n2 s p.dv p.rs p.os W hd hp0.ok hp0.rt);have hok:=domO_ok (rs:=p.rs) n2 s.data.toList hp0.ok;have hfw:=domO_few (rs:=p.rs) n2 s.data.toList hp0.few;have hkp:∀ W os',PPost W0 p.g p.ov p.rs os' W→∀ b,w.heap.size≤b→b<w.heap.size+2→W.heap[b]? = W0.heap[b]?:=fun W os' hP b h1 h2=>by
  obtain ⟨ov',-,hx,-⟩:=hP;exact hx.block b (by omega) (fun e=>by have:=(hp.pw.peLt e).2;omega)
 obtain ⟨⟨os',b⟩,hT⟩:∃ x,domO p.rs p.os n2 s.data.toList=x:=⟨_,rfl⟩
 rw [hT] at HPT hok hfw;simp only [hT] at HDT;dsimp only at HPT HDT hok hfw;have HAF:=hide (fun W (h:PPost W0 p.g p.ov p.rs os' W)=>hp0.after h);have HPP:=hide (fun W1 W2 (h:PPost W0 p.g p.ov p.rs os' W1) h2=>(pair_post (w2:=W2) hp0 h h2 hok hfw).back hB0);have HBX:=hide (fun W (h:PPost W0 p.g p.ov p.rs os' W)=>hbx W (hkp W os' h));obtain ⟨c0,c1,d0,d1,d2,d3,d4,d5,d6,d7⟩:=hbx W0 (fun _ _ _=>rfl);have bb:(b == b)=true:=by simp
 have HW0:=hide hW0;obtain ⟨g,ov,h,dv,rs,os⟩:=p;dsimp only at *;clear hp hp0 hw hok hfw hkp hT hbx hB0 hW0;go_enter Tryz.func69,Tryz.ntmps69;go_upto_region 1 with fail
 rw [HW0.out];go_wp2_with fail
 refine HPT.out.mono ?_;rintro e w1 ⟨rfl,hP1⟩;obtain ⟨c0,c1,d0,d1,d2,d3,d4,d5,d6,d7⟩:=HBX.out _ hP1;have HD:=hide (HDT.out _ (HAF.out _ hP1));have HP1:=hide hP1;clear hP1 HDT HAF HPT;go_wp2_with fail
 refine HD.out.mono ?_;rintro e w2 ⟨rfl,hD2⟩;have HF:=hide (HPP.out _ _ HP1.out hD2);clear hD2 HPP;go_wp2_with (go_at_call 99;go_must (refine (num_any _ _).mono ?_;rintro e w' ⟨rfl,rfl⟩))
 go_ret;exact ⟨rfl,HF.out⟩
theorem law_site (p:PD) (n1 n2 n3:Int) (s t:ByteArray) (la:Option Addr) (ln lc:Nat) (md:Bool) (w:World) (_:LWt w) (hp:PrOk w p):Calls Tryz.prog 69 #[.agg #[.pointer (some ⟨p.g,0,none⟩),.pointer (some ⟨p.h,0,none⟩)],.agg #[.int .i64 10,.int .i64 n1,.int .i64 n2,.int .i64 n3,.string s,.string t,.slice la ln lc,.bool md]] w fun e w'=>e=.returned (.bool true)∧PairPost w p w':=by
 obtain ⟨W0,hW0⟩:∃ W0,(w.alloc (.cells #[.pointer (some ⟨p.g,0,none⟩),.pointer (some ⟨p.h,0,none⟩)] 114)).alloc (.cells #[.int .i64 10,.int .i64 n1,.int .i64 n2,.int .i64 n3,.string s,.string t,.slice la ln lc,.bool md] 78)=W0:=⟨_,rfl⟩
 obtain ⟨hB0,hz0,hbx⟩:=op_box2 _ _ _ _ _ _ _ _ _ _ _ _ hW0;have hp0:=hp.below hB0;obtain ⟨X,er,HPT,HDT⟩:∃ (X:ByteArray) (er:Int),Hid (∀ W,Below W0.heap.size W0 W→Calls Tryz.prog 44 #[.pointer (some ⟨p.g,0,none⟩),.int .i64 n2] W fun e w'=>e=.returned (.tuple #[.string X,.int .i64 er])∧Below W.heap.size W w')∧Hid (∀ W,Below W0.heap.size W0 W→Calls Tryz.prog 108 #[.pointer (some ⟨p.h,0,none⟩),.int .i64 n2] W fun e w'=>e=.returned (.tuple #[.string X,.int .i64 er])∧Below W.heap.size W w'):=by
  by_cases hn:0≤n2∧n2<p.os.length
  · obtain ⟨m,rfl⟩:∃ m:Nat,n2=m:=⟨n2.toNat,by omega⟩
    have hm:m<p.os.length:=by omega
    refine ⟨⟨(siteD p.rs p.os[m]).toArray⟩,0,hide (fun W h=>?_),hide (fun W h=>?_)⟩
    · have h1:=pSiteY p.g m p.rs p.os W (hp0.below h).pw.read hm hp0.ok hp0.rt;rw [site_is hp0.rt.ok (hp0.ok _ (List.getElem_mem hm))] at h1;exact h1
    · exact rSiteY p.h m p.dv p.rs p.os W (hp0.below h).dw hm hp0.ok hp0.rt
  · refine ⟨⟨#[]⟩,7,hide (fun W h=>?_),hide (fun W h=>?_)⟩
    · refine (pSiteN p.g n2 p.rs p.os W (hp0.below h).pw.read hn).mono ?_;rintro e w' ⟨rfl,rfl⟩;exact ⟨rfl,Below.refl _ _⟩
    · refine (rSiteN p.h n2 p.dv p.rs p.os W (hp0.below h).dw hn).mono ?_;rintro e w' ⟨rfl,rfl⟩;exact ⟨rfl,Below.refl _ _⟩
 have HPP:=hide (fun W2 (h:Below W0.heap.size W0 W2)=>(PairPost.same hp0 h).back hB0);have HBX:=hide (fun W (h:Below W0.heap.size W0 W)=>hbx W (fun b _ hb=>h.block b (by omega)));obtain ⟨c0,c1,d0,d1,d2,d3,d4,d5,d6,d7⟩:=hbx W0 (fun _ _ _=>rfl);have aa:(X.toList == X.toList)=true:=by simp
 have bb:(er == er)=true:=by simp
 have HW0:=hide hW0;obtain ⟨g,ov,h,dv,rs,os⟩:=p;dsimp only at *;clear hp hp0 hbx hB0 hW0;go_enter Tryz.func69,Tryz.ntmps69;go_upto_region 1 with fail
 rw [HW0.out];go_wp2_with fail
 refine (HPT.out _ (Below.refl _ _)).mono ?_;rintro e w1 ⟨rfl,hB1⟩;obtain ⟨c0,c1,d0,d1,d2,d3,d4,d5,d6,d7⟩:=HBX.out _ hB1;have HB1:=hide hB1;clear hB1 HPT;go_wp2_with fail
 refine (HDT.out _ HB1.out).mono ?_;rintro e w2 ⟨rfl,hB2⟩;have HF:=hide (HPP.out _ (below_to HB1.out hB2));clear hB2 HPP;go_wp2_with (go_at_call 99;go_must (refine (num_any _ _).mono ?_;rintro e w' ⟨rfl,rfl⟩))
 go_ret;exact ⟨rfl,HF.out⟩
theorem law_same (p:PD) (n1 n2 n3:Int) (s t:ByteArray) (la:Option Addr) (ln lc:Nat) (md:Bool) (w:World) (_:LWt w) (hp:PrOk w p):Calls Tryz.prog 69 #[.agg #[.pointer (some ⟨p.g,0,none⟩),.pointer (some ⟨p.h,0,none⟩)],.agg #[.int .i64 11,.int .i64 n1,.int .i64 n2,.int .i64 n3,.string s,.string t,.slice la ln lc,.bool md]] w fun e w'=>e=.returned (.bool true)∧PairPost w p w':=by
 obtain ⟨W0,hW0⟩:∃ W0,(w.alloc (.cells #[.pointer (some ⟨p.g,0,none⟩),.pointer (some ⟨p.h,0,none⟩)] 114)).alloc (.cells #[.int .i64 11,.int .i64 n1,.int .i64 n2,.int .i64 n3,.string s,.string t,.slice la ln lc,.bool md] 78)=W0:=⟨_,rfl⟩
 obtain ⟨hB0,hz0,hbx⟩:=op_box2 _ _ _ _ _ _ _ _ _ _ _ _ hW0;have hp0:=hp.below hB0;obtain ⟨R1,R2,R3,er,HPT,HDT⟩:∃ (R1 R2 R3:Bool) (er:Int),Hid (∀ W,Below W0.heap.size W0 W→Calls Tryz.prog 43 #[.pointer (some ⟨p.g,0,none⟩),.int .i64 n2,.int .i64 n3] W fun e w'=>e=.returned (.tuple #[.bool R1,.bool R2,.bool R3,.int .i64 er])∧Below W.heap.size W w')∧Hid (∀ W,Below W0.heap.size W0 W→Calls Tryz.prog 109 #[.pointer (some ⟨p.h,0,none⟩),.int .i64 n2,.int .i64 n3] W fun e w'=>e=.returned (.tuple #[.bool R1,.bool R2,.bool R3,.int .i64 er])∧Below W.heap.size W w'):=by
  by_cases hn:(0≤n2∧n2<p.os.length)∧(0≤n3∧n3<p.os.length)
  · obtain ⟨m,rfl⟩:∃ m:Nat,n2=m:=⟨n2.toNat,by omega⟩
    obtain ⟨k,rfl⟩:∃ m:Nat,n3=m:=⟨n3.toNat,by omega⟩
    have hm:m<p.os.length:=by omega
    have hk:k<p.os.length:=by omega
    have hrel:=rel_is hp0.rt.ok (a:=m) (b:=k) (hp0.ok _ (List.getElem_mem hm)) (hp0.ok _ (List.getElem_mem hk)) (fun e=>by subst e;rfl);refine ⟨(relD p.rs m k p.os[m] p.os[k]).1,(relD p.rs m k p.os[m] p.os[k]).2.1,(relD p.rs m k p.os[m] p.os[k]).2.2,0,hide (fun W h=>?_),hide (fun W h=>?_)⟩
    · rw [←hrel];exact pSameY p.g m k p.rs p.os W (hp0.below h).pw.read hm hk hp0.ok hp0.rt
    · exact rSameY p.h m k p.dv p.rs p.os W (hp0.below h).dw hm hk hp0.ok hp0.rt
  · have hn':¬ (0≤n2∧n2<p.os.length)∨¬ (0≤n3∧n3<p.os.length):=by
     by_cases h:0≤n2∧n2<p.os.length
     · exact .inr (fun h'=>hn ⟨h,h'⟩)
     · exact .inl h
    refine ⟨false,false,false,7,hide (fun W h=>?_),hide (fun W h=>?_)⟩
    · refine (pSameN p.g n2 n3 p.rs p.os W (hp0.below h).pw.read hn').mono ?_;rintro e w' ⟨rfl,rfl⟩;exact ⟨rfl,Below.refl _ _⟩
    · refine (rSameN p.h n2 n3 p.dv p.rs p.os W (hp0.below h).dw hn').mono ?_;rintro e w' ⟨rfl,rfl⟩;exact ⟨rfl,Below.refl _ _⟩
 have HPP:=hide (fun W2 (h:Below W0.heap.size W0 W2)=>(PairPost.same hp0 h).back hB0);have HBX:=hide (fun W (h:Below W0.heap.size W0 W)=>hbx W (fun b _ hb=>h.block b (by omega)));obtain ⟨c0,c1,d0,d1,d2,d3,d4,d5,d6,d7⟩:=hbx W0 (fun _ _ _=>rfl);have r1:(R1 == R1)=true:=by simp
 have r2:(R2 == R2)=true:=by simp
 have r3:(R3 == R3)=true:=by simp
 have bb:(er == er)=true:=by simp
 have HW0:=hide hW0;obtain ⟨g,ov,h,dv,rs,os⟩:=p;dsimp only at *;clear hp hp0 hbx hB0 hW0;go_enter Tryz.func69,Tryz.ntmps69;go_upto_region 1 with fail
 rw [HW0.out];go_wp2_with fail
 refine (HPT.out _ (Below.refl _ _)).mono ?_;rintro e w1 ⟨rfl,hB1⟩;obtain ⟨c0,c1,d0,d1,d2,d3,d4,d5,d6,d7⟩:=HBX.out _ hB1;have HB1:=hide hB1;clear hB1 HPT;go_wp2_with fail
 refine (HDT.out _ HB1.out).mono ?_;rintro e w2 ⟨rfl,hB2⟩;have HF:=hide (HPP.out _ (below_to HB1.out hB2));clear hB2 HPP;go_wp2_with (go_at_call 99;go_must (refine (num_any _ _).mono ?_;rintro e w' ⟨rfl,rfl⟩))
 go_ret;exact ⟨rfl,HF.out⟩
theorem law_origins (p:PD) (k n1 n2 n3:Int) (hk:7≤k∧k≤11) (s t:ByteArray) (la:Option Addr) (ln lc:Nat) (md:Bool) (w:World) (hw:LWt w) (hp:PrOk w p):Calls Tryz.prog 69 #[.agg #[.pointer (some ⟨p.g,0,none⟩),.pointer (some ⟨p.h,0,none⟩)],.agg #[.int .i64 k,.int .i64 n1,.int .i64 n2,.int .i64 n3,.string s,.string t,.slice la ln lc,.bool md]] w fun e w'=>e=.returned (.bool true)∧PairPost w p w':=by
 have h5:k=7∨k=8∨k=9∨k=10∨k=11:=by omega
 rcases h5 with rfl | rfl | rfl | rfl | rfl
 · exact law_tuple p n1 n2 n3 s t la ln lc md w hw hp
 · exact law_opaque p n1 n2 n3 s t la ln lc md w hw hp
 · exact law_domain p n1 n2 n3 s t la ln lc md w hw hp
 · exact law_site p n1 n2 n3 s t la ln lc md w hw hp
 · exact law_same p n1 n2 n3 s t la ln lc md w hw hp
theorem prdimgO (l:List UInt8) (w:World) (hw:LWt w):Calls Tryz.prog 53 #[.string ⟨l.toArray⟩] w fun e w'=>Below w.heap.size w w'∧∃ v,e=.returned (.tuple #[v,.int .i64 (opn l).2])∧w'.ownsRow w.heap.size 98 4 v (opn l).1.length (prV (opn l).1):=by
 have HRD:=hide (preadS l w);obtain ⟨D,hD⟩:∃ D:ByteArray,⟨l.toArray⟩=D:=⟨_,rfl⟩
 have hDl:D.data.toList=l:=by rw [←hD]
 have hDs:D.size=l.length:=by rw [←ba_len,hDl]
 rw [hD] at HRD ⊢;by_cases hlong:8000<l.length
 · have ho:opn l=([],1):=by unfold opn;rw [if_pos hlong]
   have HO:=hide ho;have hs:8000<D.size:=by omega
   clear HRD hD hDl hDs hlong ho hw;go_enter Tryz.func53,Tryz.ntmps53;go_wp2;go_ret2;rw [HO.out];exact ⟨Below.refl _ _,_,rfl,World.ownsRow_nil _ _ _ _⟩
 · have hs:D.size≤8000:=by omega
   have HDL:=hide hDl;cases hr:Sx.rdImg l with
   | none =>
     have ho:opn l=([],6):=by unfold opn;rw [if_neg hlong,hr]
     have HO:=hide ho;have HRD2:=HRD.out;rw [hr,Option.isSome_none] at HRD2;have HR:=hide HRD2;clear HRD HRD2 hD hDl hDs hlong ho hw hr;go_enter Tryz.func53,Tryz.ntmps53;go_wp2_with fail
     refine HR.out.mono ?_;rintro e w1 ⟨hB1,sv,rfl,⟨sp,sn,sc,rfl⟩,-⟩;have HB1:=hide (fun o=>below_alloc' hB1 o);clear hB1 HR;go_wp2;go_ret2;rw [HO.out];exact ⟨HB1.out _,_,rfl,World.ownsRow_nil _ _ _ _⟩
   | some tab =>
     have hord:=rdImg_ord hr;obtain ⟨hlen,hedg⟩:=rdImg_len hr (by omega);have hrt:=kfA_rt hord;have ho:opn l=if Sx.imgT (Sx.tabOf (kfA tab []))=l then (kfA tab [],0) else ([],6):=by unfold opn;rw [if_neg hlong,hr]
     have HRD2:=HRD.out;rw [hr,Option.isSome_some] at HRD2;have HR:=hide HRD2;have HKEYS:=hide (fun b hb sv W hB hn hT hr=>pkeys w hw b hb sv tab hord hedg hlen [] W hB hn hT hr (by simp));obtain ⟨rs,hrs⟩:∃ rs,kfA tab []=rs:=⟨_,rfl⟩
     rw [hrs] at hrt ho HKEYS;have HIMG:=hide (fun v W hv=>prsimg rs v W hv hrt.rls);obtain ⟨I,hI⟩:∃ I:ByteArray,⟨(Sx.imgT (Sx.tabOf rs)).toArray⟩=I:=⟨_,rfl⟩
     rw [hI] at HIMG;have hIl:I.data.toList=Sx.imgT (Sx.tabOf rs):=by rw [←hI]
     rw [←hIl,←hDl] at ho;have HO:=hide ho;have HT:Hid (∀ tab',some tab=some tab'→tab'=tab):=hide (fun t e=>(Option.some.inj e).symm);clear HRD HRD2 hD hDl hDs hlong ho hr hord hlen hedg hrs hI hIl hrt;go_enter Tryz.func53,Tryz.ntmps53;go_wp2_with fail
     refine HR.out.mono ?_;rintro e w1 ⟨hB1,sv,rfl,-,hsv⟩;obtain ⟨vs,hta⟩:=hsv tab rfl;have HTA:=hide hta;have HB1:=hide hB1;obtain ⟨ap,ac,rfl⟩:=own_shapeK hta.row;clear hsv hta hB1 HR;go_wp2_with fail
     have hA0:Below w1.heap.size w1 ((w1.alloc (.cells #[.slice ap tab.length ac] 128)).alloc (.cells #[.slice none 0 0] 89)):=((Below.refl _ _).alloc (Nat.le_refl _) _).alloc (by simp) _;have hz1:=HB1.out.size;have hrs0:RsAt ((w1.alloc (.cells #[.slice ap tab.length ac] 128)).alloc (.cells #[.slice none 0 0] 89)) (w1.heap.size+1) []:=by
      refine ⟨.slice none 0 0,?_,World.ownsRow_nil _ _ _ _⟩;have:=heap_alloc_new (w1.alloc (.cells #[.slice ap tab.length ac] 128)) (.cells #[.slice none 0 0] 89);rw [World.size_alloc] at this;exact this
     refine (HKEYS.out (w1.heap.size+1) (by omega) _ _ (HB1.out.trans (hA0.mono hz1)) (fun h=>⟨ap,ac,by rw [h];rfl⟩) (fun h0=>?_) hrs0).mono ?_
     · exact TabR.below' (tabR_at HTA.out (Nat.le_refl _) h0) hA0 (Nat.le_refl _) (by omega)
     rintro e w2 ⟨⟨u,rfl⟩,hB2,rv,hbx,hrow⟩;have hB2':Below w.heap.size w w2:=(HB1.out.trans (hA0.mono hz1)).trans (hB2.mono (by omega));have hcell:w2.cell? ⟨w1.heap.size+1,0,none⟩=some rv:=by rw [Lib.cell_of_heap hbx];rfl
     have HPR:=hide (prAt_own hrow);have HOW:=hide (own_base hrow (show w.heap.size≤w1.heap.size+1+1 by omega));have HB2:=hide hB2';obtain ⟨rp,rc,rfl⟩:=own_shapeK hrow;clear hbx hrow hB2 hB2' hA0 hrs0 HTA HKEYS;go_wp2_with fail
     refine (HIMG.out _ _ HPR.out).mono ?_;rintro e w3 ⟨rfl,hB3⟩;have HPR3:=hide (own_later HOW.out hB3);have HB3:Hid (Below w.heap.size w w3):=hide (HB2.out.trans (hB3.mono HB2.out.size));have hcell3:w3.cell? ⟨w1.heap.size+1,0,none⟩=some (.slice rp rs.length rc):=(hB3.cell (p:=⟨w1.heap.size+1,0,none⟩) (cell_has hcell)).trans hcell;clear hB3 hcell HPR HOW HB2 HIMG;cases hcmp:(I.toList == D.toList) with
     | true =>
       have hq:I.data.toList=D.data.toList:=by
        rw [ByteArray.toList_eq,ByteArray.toList_eq] at hcmp
        simpa using hcmp
       have HQ:=hide hq;clear hq;go_wp2;go_ret2;rw [←HDL.out,HO.out,if_pos HQ.out];exact ⟨HB3.out,_,rfl,HPR3.out⟩
     | false =>
       have hq:¬ I.data.toList=D.data.toList:=by
        rw [ByteArray.toList_eq,ByteArray.toList_eq] at hcmp
        simpa using hcmp
       have HQ:=hide hq;clear hq;go_wp2;go_ret2;rw [←HDL.out,HO.out,if_neg HQ.out];exact ⟨HB3.out,_,rfl,World.ownsRow_nil _ _ _ _⟩
theorem pnewX (l:List UInt8) (w:World) (hw:LWt w):Calls Tryz.prog 39 #[.string ⟨l.toArray⟩] w fun e w'=>Below w.heap.size w w'∧(((opn l).2≠0∧e=.returned (.tuple #[.pointer none,.int .i64 (opn l).2]))∨((opn l).2=0∧∃ g,e=.returned (.tuple #[.pointer (some ⟨g,0,none⟩),.int .i64 0])∧w.heap.size≤g∧PwAt w' g (.slice none 0 0) (opn l).1 [])):=by
 have HRI:=hide (prdimgO l w hw);obtain ⟨D,hD⟩:∃ D:ByteArray,⟨l.toArray⟩=D:=⟨_,rfl⟩
 rw [hD] at HRI ⊢;obtain ⟨⟨rs,e⟩,ho⟩:∃ q,opn l=q:=⟨_,rfl⟩
 rw [ho] at HRI ⊢;dsimp only at HRI ⊢;clear ho hD;by_cases he:e=0
 · subst he;go_enter Tryz.func39,Tryz.ntmps39;go_wp2_with fail
   refine HRI.out.mono ?_;rintro e w1 ⟨hB,v,rfl,hv⟩;have HB:=hide hB;have HV:=hide hv;obtain ⟨p,cap,rfl⟩:=own_shapeK hv;have hbz:=hB.size;clear hB hv;go_wp2;go_ret2;exact ⟨HB.out.alloc hbz _,.inr ⟨by trivial,_,rfl,hbz,_,heap_alloc_new _ _,own_base (own_later HV.out ((Below.refl _ w1).alloc (Nat.le_refl _) _)) (Nat.zero_le _),World.ownsRow_nil _ _ _ _⟩⟩
 · have k1:(e != 0)=true:=by simpa using he
   have k2:(e == 0)=false:=by simpa using he
   go_enter Tryz.func39,Tryz.ntmps39;go_wp2_with fail
   refine HRI.out.mono ?_;rintro e' w1 ⟨hB,v,rfl,hv⟩;have HB:=hide hB;obtain ⟨p,cap,rfl⟩:=own_shapeK hv;clear hB hv;go_wp2;go_ret2;exact ⟨HB.out,.inl ⟨he,rfl⟩⟩
theorem Tryz.info114:(Tryz.prog.info? 114).map (fun i=>(i.zero,i.size,i.bytes))=some (some (.agg #[.pointer none,.pointer none]),2,16):=by kernel_rfl
theorem cell2_newO (w:World) (x y:Value) (t:TypeId):∀ (j:Nat) (q:Value),[x,y][j]? = some q→(w.alloc (.cells #[x,y] t)).cell? ((⟨w.heap.size,0,none⟩:Addr).add j)=some q:=by
 intro j q hj;rw [Addr.add_lit,Nat.zero_add,World.cell?_alloc_mark]
 simpa using hj
theorem law_made (I:ByteArray) (w0 w:World) (z:Nat) (L:List PD) (hw:LWt w) (hL:LvAt w0 w z L) (hl:L.length≤2000000):Calls Tryz.prog 67 #[.pointer (some ⟨z,0,none⟩),.string I] w fun e w'=>e=.returned (.bool true)∧∃ L',L'.length≤L.length+1∧LvAt w0 w' z L':=by
 have HP:=hide (pnewX I.data.toList w hw);have HR:=hide (fun W=>rNew I.data.toList W);rw [ba_back] at HP HR;have hrt:(opn I.data.toList).2=0→Sx.RlsRt (opn I.data.toList).1:=fun h=>(opn_is h).2.rt;obtain ⟨⟨rs,er⟩,ho⟩:∃ x,opn I.data.toList=x:=⟨_,rfl⟩
 rw [ho] at HP HR hrt;dsimp only at HP HR hrt;have HRT:=hide hrt;have HLV:=hide hL;have ee:(er != er)=false:=by simp
 clear ho hw hrt;by_cases he:er=0
 · subst he;obtain ⟨av,hz,hrow⟩:=hL.box;clear hL;go_enter Tryz.func67,Tryz.ntmps67;go_wp2_with fail
   refine HP.out.mono ?_;rintro e w1 ⟨hB1,h | ⟨-,g,rfl,hg,hpw⟩⟩
   · exact absurd rfl h.1
   have HB1:=hide hB1;have HPW:=hide hpw;clear hB1 hpw HP;go_wp2_with fail
   refine (HR.out _).mono ?_;rintro e w2 ⟨hB2,h | ⟨-,h,rfl,hh,hdw⟩⟩
   · exact absurd rfl h.1
   have HB2:=hide hB2;have HDW:=hide hdw;have hB12:=below_to HB1.out hB2;have hzl:=heap_lt hz;obtain ⟨p,cap,rfl⟩:=own_shapeK hrow;have hz2:=(hB12.block z hzl).trans hz;have c0:w2.cell? ⟨z,0,none⟩=some (.slice p L.length cap):=by simp [World.cell?,hz2]
   have f0:w2.frozen? ⟨z,0,none⟩=false:=by simp [World.frozen?,hz2]
   have hown2:=own_later hrow hB12;have HOW:=hide hown2;have hL2:=HLV.out.below hB12;have hpw2:=HPW.out.below hB2;have hrt:=HRT.out (by trivial);have HNW:Hid (∀ j (hj:j<L.length) k,PQ ⟨g,.slice none 0 0,h,.slice none 0 0,rs,[]⟩ k→¬ PQ L[j] k):=hide (fun j hj k hk hk'=>by
    have h1:=(HLV.out.each j hj).1.lt hk';have h2:=HB1.out.size;rcases hk with (e | e) | (e | e)
    · dsimp only at e;omega
    · cases e
    · dsimp only at e;omega
    · cases e)
   have hlow:=HLV.out.low.size;have hg0:w0.heap.size≤g:=by omega
   have hh0:w0.heap.size≤h:=by have:=HB1.out.size;omega
   have hzl2:=heap_lt hz2;have HSG:Hid (∀ W6,(w2.alloc (.cells #[.pointer (some ⟨g,0,none⟩),.pointer (some ⟨h,0,none⟩)] 114)).grownBy W6 (Value.slice p L.length cap).ownBlock→W6.cell? ⟨z,0,none⟩=some (.slice p L.length cap)∧W6.frozen? ⟨z,0,none⟩=false∧W6.heap[z]? = some (.cells #[.slice p L.length cap] 76 (0,0))∧Ex (fun k=>k=z∨∃ cs,w2.heap[k]? = some (.cells cs 114 (0,0))∧z≤k) w2 W6):=hide (fun W6 hgr=>by
    have hBA:Below w2.heap.size w2 (w2.alloc (.cells #[.pointer (some ⟨g,0,none⟩),.pointer (some ⟨h,0,none⟩)] 114)):=(Below.refl _ w2).alloc (Nat.le_refl _) _;have hsz:=hBA.size;have hnz:some z≠(Value.slice p L.length cap).ownBlock:=fun e=>by have:=(HOW.out.lt _ e.symm).1;omega
    have hzz:W6.heap[z]? = some (.cells #[.slice p L.length cap] 76 (0,0)):=by
     rw [hgr.block z (by omega) hnz,hBA.block z hzl2];exact hz2
    refine ⟨by simp [World.cell?,hzz],by simp [World.frozen?,hzz],hzz,(hBA.mono (Nat.zero_le _)).grown hgr (Nat.zero_le _) (fun _ _=>Nat.zero_le _),fun k hk hn=>?_⟩;rw [hgr.block k (by omega) (fun e=>?_),hBA.block k hk];obtain ⟨cs,hc⟩:=own_ty HOW.out e.symm;exact hn (.inr ⟨cs,hc,by have:=(HOW.out.lt _ e.symm).1;omega⟩))
   have HFI:Hid (∀ W6 g6 cap6,W6.heap[z]? = some (.cells #[.slice p L.length cap] 76 (0,0))→Ex (fun k=>k=z∨∃ cs,w2.heap[k]? = some (.cells cs 114 (0,0))∧z≤k) w2 W6→W6.ownsRow (z+1) 114 2 (.slice (some ⟨g6,0,none⟩) (L.length+1) cap6) (L.length+1) (pqC L ++ [.pointer (some ⟨g,0,none⟩),.pointer (some ⟨h,0,none⟩)])→LvAt w0 (W6.setCell ⟨z,0,none⟩ (.slice (some ⟨g6,0,none⟩) (L.length+1) cap6)) z (L ++ [⟨g,.slice none 0 0,h,.slice none 0 0,rs,[]⟩])):=hide (fun W6 g6 cap6 hzz hx6 hown6=>by
    have hx:Ex (fun k=>k=z∨∃ cs,w2.heap[k]? = some (.cells cs 114 (0,0))∧z≤k) w2 (W6.setCell ⟨z,0,none⟩ (.slice (some ⟨g6,0,none⟩) (L.length+1) cap6)):=⟨hx6.base.setCell (p:=⟨z,0,none⟩) (Nat.zero_le _) _,fun k hk hn=>(heap_setCell_other _ _ _ _ (fun e=>hn (.inl e))).trans (hx6.block k hk hn)⟩
    have hty:∀ k cs t fr,w2.heap[k]? = some (.cells cs t fr)→t≠76→t≠114→¬ (k=z∨∃ cs,w2.heap[k]? = some (.cells cs 114 (0,0))∧z≤k):=fun k cs t fr hc h1 h2 hk=>by
     rcases hk with rfl | ⟨cs',hc',-⟩
     · rw [hz2] at hc;simp at hc;exact h1 hc.2.1.symm
     · rw [hc'] at hc;simp at hc;exact h2 hc.2.1.symm
    refine hL2.more hx ⟨_,heap_setCell_same W6 z 0 _ 76 _ hzz,?_⟩ ⟨?_,?_,fun o ho=>absurd ho (by simp),by simp,hrt⟩ hg0 hh0 HNW.out
    · rw [pqC_app];exact ownsRow_setCell_below hown6 (a:=⟨z,0,none⟩) (Nat.lt_succ_self z) _
    · refine hpw2.exK hx (fun k hk=>?_) (fun k cs fr hc=>hty k cs _ fr hc (by decide) (by decide));obtain ⟨cs,t,fr,hc,ht⟩:=hpw2.has hk;rcases ht with rfl | rfl <;> exact hty k cs _ fr hc (by decide) (by decide)
    · refine hdw.exK hx (fun k hk=>?_) (fun k cs fr hc=>hty k cs _ fr hc (by decide) (by decide)) (fun k cs fr hc=>hty k cs _ fr hc (by decide) (by decide));obtain ⟨cs,t,fr,hc,ht⟩:=hdw.has hk;rcases ht with rfl | rfl <;> exact hty k cs _ fr hc (by decide) (by decide))
   obtain ⟨i0,hi,hz0,hz1,hz3⟩:=info_parts Tryz.info114;have hzle:z+1≤w2.heap.size:=hzl2;clear hB2 hdw HR hz hrow hz2 hB12 hown2 hL2 hpw2 hrt HNW hlow hg0 hh0 HLV HPW HDW;go_wp2_with (first | (go_at_call 99;go_must (refine (num_any _ _).mono ?_;rintro e w' ⟨rfl,rfl⟩)) | (at_builtin;go_must (refine wpList_append_lies _ rfl _ _ _ rfl (z+1) 114 i0 (.agg #[.pointer none,.pointer none]) 2 16 Tryz.underlying74 hi hz0 hz1 hz3 rfl (by decide) (.slice p L.length cap) L.length (pqC L) rfl (HOW.out.alloc _) ⟨_,0,none⟩ 1 1 [.pointer (some ⟨g,0,none⟩),.pointer (some ⟨h,0,none⟩)] rfl rfl (cell2_newO _ _ _ _) (by simp [Value.oneCell']) (by omega) (by unfold maxLen;omega) (by omega) (by simp;omega) _ rfl ?_;intro g6 cap6 w6 hown6 hgrow6 hat6 hlt6;obtain ⟨s5,s6,s7,s8⟩:=HSG.out _ hgrow6;have HFN:=hide (HFI.out _ _ _ s7 s8 hown6);clear hgrow6 hown6 s7 s8 hat6)))
   go_ret;exact ⟨rfl,_,by simp,HFN.out⟩
 · have k1:(er == 0)=false:=by simpa using he
   clear hL;go_enter Tryz.func67,Tryz.ntmps67;go_wp2_with fail
   refine HP.out.mono ?_;rintro e w1 ⟨hB1,hor⟩;obtain rfl:=(hor.resolve_right (fun h=>he h.1)).2;have HB1:=hide hB1;clear hB1 HP;go_wp2_with fail
   refine (HR.out _).mono ?_;rintro e w2 ⟨hB2,hor⟩;obtain rfl:=(hor.resolve_right (fun h=>he h.1)).2;have HB2:=hide (below_to HB1.out hB2);clear hB2 HR;go_wp2_with (go_at_call 99;go_must (refine (num_any _ _).mono ?_;rintro e w' ⟨rfl,rfl⟩))
   go_ret;exact ⟨rfl,L,by omega,HLV.out.below HB2.out⟩
theorem law_pick (c:Int) (n:Nat) (h1 : -9223372036854775808≤c) (h2:c≤9223372036854775807) (hn:0<n) (hn2:n≤2000000):∃ m,m<n∧∀ w:World,Calls Tryz.prog 70 #[.int .i64 c,.int .i64 n] w fun e w'=>e=.returned (.int .i64 (m:Nat))∧w'=w:=by
 have hn0:¬ (n:Int)=0:=by omega
 have hn1:((n:Int) == 0)=false:=by simpa using hn0
 by_cases hc:c<0
 · have e1:(-(c+1)).tmod (n:Int)=(-(c+1)) % (n:Int):=Int.tmod_eq_emod_of_nonneg (by omega);have h3:=Int.emod_nonneg (-(c+1)) hn0;have h4:=Int.emod_lt_of_pos (-(c+1)) (show (0:Int)<n by omega);obtain ⟨m,hm⟩:∃ m:Nat,(-(c+1)) % (n:Int)=m:=⟨_,(Int.toNat_of_nonneg h3).symm⟩
   rw [hm] at e1 h4;refine ⟨m,by omega,fun w=>?_⟩;clear hm h3;go_enter Tryz.func70,Tryz.ntmps70;go_wp2;go_ret;exact ⟨by first | rfl | (rw [←e1];rfl),rfl⟩
 · have e1:c.tmod (n:Int)=c % (n:Int):=Int.tmod_eq_emod_of_nonneg (by omega);have h3:=Int.emod_nonneg c hn0;have h4:=Int.emod_lt_of_pos c (show (0:Int)<n by omega);obtain ⟨m,hm⟩:∃ m:Nat,c % (n:Int)=m:=⟨_,(Int.toNat_of_nonneg h3).symm⟩
   rw [hm] at e1 h4;refine ⟨m,by omega,fun w=>?_⟩;clear hm h3;go_enter Tryz.func70,Tryz.ntmps70;go_wp2;go_ret;exact ⟨by first | rfl | (rw [←e1];rfl),rfl⟩
theorem step_new (n1 n2 n3:Int) (s t:ByteArray) (la:Option Addr) (lc:Nat) (md:Bool) (S:List (List UInt8)) (w0 w:World) (z:Nat) (L:List PD) (hw:LWt w) (hS:S.length≤1048576) (hsl:Sx.sl S≤1048576) (hrd:RdS w (.slice la S.length lc) S) (hL:LvAt w0 w z L) (hn:L.length≤2000000) :
 Calls Tryz.prog 45 #[.pointer (some ⟨z,0,none⟩),.agg #[.int .i64 6,.int .i64 n1,.int .i64 n2,.int .i64 n3,.string s,.string t,.slice la S.length lc,.bool md]] w fun e w'=>e=.returned (.bool true)∧∃ L',L'.length≤L.length+1∧LvAt w0 w' z L':=by
 have hB0:Below w.heap.size w (w.alloc (.cells #[.int .i64 6,.int .i64 n1,.int .i64 n2,.int .i64 n3,.string s,.string t,.slice la S.length lc,.bool md] 78)):=(Below.refl _ _).alloc (Nat.le_refl _) _;have HIM:=hide (law_image S (.int .i64 6) (.int .i64 n1) (.int .i64 n2) (.int .i64 n3) (.string t) s md la lc _ (RdS.below hrd hB0) hS hsl);have HMD:=hide (fun I W (h:Below w.heap.size w W)=>law_made I w0 W z L (lwt_stays _ _ hw h) (hL.below h) hn);clear hw hrd hL;go_enter Tryz.func45,Tryz.ntmps45;go_wp2_with fail
 refine HIM.out.mono ?_;rintro e w1 ⟨I,rfl,hB1⟩;have HM:=hide (HMD.out I _ (below_to hB0 hB1));clear hB1 HIM HMD hB0;go_wp2_with fail
 refine HM.out.mono ?_;rintro e w2 ⟨rfl,hF⟩;have HF:=hide hF;clear hF;go_wp2;go_ret;exact ⟨rfl,HF.out⟩
theorem step_org (k n1 n2 n3:Int) (hk:7≤k∧k≤11) (h1 : -9223372036854775808≤n1) (h2:n1≤9223372036854775807) (s t:ByteArray) (la:Option Addr) (ln lc:Nat) (md:Bool) (w0 w:World) (z:Nat) (L:List PD) (hw:LWt w) (hL:LvAt w0 w z L) (hn:L.length≤2000000) :
 Calls Tryz.prog 45 #[.pointer (some ⟨z,0,none⟩),.agg #[.int .i64 k,.int .i64 n1,.int .i64 n2,.int .i64 n3,.string s,.string t,.slice la ln lc,.bool md]] w fun e w'=>e=.returned (.bool true)∧∃ L',L'.length≤L.length+1∧LvAt w0 w' z L':=by
 obtain ⟨W0,hW0⟩:∃ W0,w.alloc (.cells #[.int .i64 k,.int .i64 n1,.int .i64 n2,.int .i64 n3,.string s,.string t,.slice la ln lc,.bool md] 78)=W0:=⟨_,rfl⟩
 obtain ⟨-,hB0,hbx⟩:=op_box w W0 _ _ _ _ _ _ _ _ hW0;obtain ⟨-,c0,c1,c2,c3,c4,c5,c6,c7⟩:=hbx W0 (Below.refl _ _);have hL0:=hL.below hB0;have hlw:=lwt_stays _ _ hw hB0;obtain ⟨av,hz,hrow⟩:=hL0.box;have hzc:W0.cell? ⟨z,0,none⟩=some av:=by simp [World.cell?,hz]
 have e1:(k == 1)=false:=by simp;omega
 have e2:(k == 2)=false:=by simp;omega
 have e3:(k == 3)=false:=by simp;omega
 have e4:(k == 4)=false:=by simp;omega
 have e5:(k == 5)=false:=by simp;omega
 have e6:(k == 6)=false:=by simp;omega
 have e7:(k<7)=False:=eq_false (by omega);have e8:(11<k)=False:=eq_false (by omega);have HW0:=hide hW0;have hop:W0.heap[w.heap.size]? = some (.cells #[.int .i64 k,.int .i64 n1,.int .i64 n2,.int .i64 n3,.string s,.string t,.slice la ln lc,.bool md] 78 (0,0)):=by rw [←hW0];exact heap_alloc_new _ _
 by_cases h0:L.length=0
 · obtain ⟨p,cap,rfl⟩:=own_shapeK hrow;have HF:Hid (∃ L',L'.length≤L.length+1∧LvAt w0 W0 z L'):=hide ⟨L,by omega,hL0⟩;rw [h0] at hzc;clear hrow hz hL0 hL hW0 hbx;go_enter Tryz.func45,Tryz.ntmps45;go_upto_region 1 with fail
   rw [HW0.out];go_wp2;go_ret;exact ⟨rfl,HF.out⟩
 · obtain ⟨b,cap,hav,-,-⟩:=hrow.form (by omega);subst hav;obtain ⟨m,hm,hpk⟩:=law_pick n1 L.length h1 h2 (by omega) hn;have HPK:=hide hpk;obtain ⟨g1,g2⟩:=pqC_get L m hm;have hadd:∀ n,(⟨b,0,none⟩:Addr).add n=⟨b,n,none⟩:=fun n=>by rw [Addr.add_lit,Nat.zero_add]
   have p1:=hrow.cells (g:=b) rfl _ _ g1;have p2:=hrow.cells (g:=b) rfl _ _ g2;rw [hadd] at p1 p2;have HOR:Hid (∀ W,Below W0.heap.size W0 W→Calls Tryz.prog 69 #[.agg #[.pointer (some ⟨L[m].g,0,none⟩),.pointer (some ⟨L[m].h,0,none⟩)],.agg #[.int .i64 k,.int .i64 n1,.int .i64 n2,.int .i64 n3,.string s,.string t,.slice la ln lc,.bool md]] W fun e w'=>e=.returned (.bool true)∧(∃ L',L'.length≤L.length+1∧LvAt w0 w' z L')∧∀ b' k' v',(b'=z∨b'=b∨b'=w.heap.size)→W0.cell? ⟨b',k',none⟩=some v'→w'.cell? ⟨b',k',none⟩=some v'):=hide (fun W hB=>by
    have hLW:=hL0.below hB;refine (law_origins L[m] k n1 n2 n3 hk s t la ln lc md W (lwt_stays _ _ hlw hB) (hLW.each m hm).1).mono ?_;rintro e w' ⟨rfl,hP⟩;obtain ⟨L',q1,q2⟩:=hLW.step hm hP;refine ⟨rfl,⟨L',by omega,q2⟩,fun b' k' v' hb' hv'=>?_⟩;obtain ⟨p',-,-,-,hx,-⟩:=hP;have hok:=(hLW.each m hm).1;have hlt:=World.block_lt_of_cell? W0 ⟨b',k',none⟩ hv';have hv1:=(hB.cell (p:=⟨b',k',none⟩) hlt).trans hv';refine (hx.cell (World.block_lt_of_cell? W ⟨b',k',none⟩ hv1) ?_).trans hv1;rcases hb' with rfl | rfl | rfl
    · exact hok.not ((hB.block _ (heap_lt hz)).trans hz) (by unfold T4;decide)
    · obtain ⟨cs,hc⟩:=own_ty hrow rfl;exact hok.not ((hB.block _ (heap_lt hc)).trans hc) (by unfold T4;decide)
    · exact hok.not ((hB.block _ (heap_lt hop)).trans hop) (by unfold T4;decide))
   obtain ⟨gg,hgg⟩:∃ g,L[m].g=g:=⟨_,rfl⟩
   obtain ⟨hh,hhh⟩:∃ g,L[m].h=g:=⟨_,rfl⟩
   rw [hgg] at p1 HOR;rw [hhh] at p2 HOR;have j0:((L.length:Int) == 0)=false:=by rw [beq_eq_false_iff_ne];omega
   clear hgg hhh g1 g2 hadd hpk hrow hz hL0 hL hW0 hbx hlw hw;go_enter Tryz.func45,Tryz.ntmps45;go_upto_region 1 with fail
   rw [HW0.out];go_wp2_with fail
   have hS0:=And.intro hzc (And.intro p1 (And.intro p2 (And.intro c0 (And.intro c1 (And.intro c2 (And.intro c3 (And.intro c4 (And.intro c5 (And.intro c6 c7)))))))));have HS:Hid (∀ w':World,(∀ b' k' v',(b'=z∨b'=b∨b'=w.heap.size)→W0.cell? ⟨b',k',none⟩=some v'→w'.cell? ⟨b',k',none⟩=some v')→w'.cell? ⟨z,0,none⟩=some (.slice (some ⟨b,0,none⟩) L.length cap)∧w'.cell? ⟨b,m*2,none⟩=some (.pointer (some ⟨gg,0,none⟩))∧w'.cell? ⟨b,m*2+1,none⟩=some (.pointer (some ⟨hh,0,none⟩))∧w'.cell? ⟨w.heap.size,0,none⟩=some (.int .i64 k)∧w'.cell? ⟨w.heap.size,1,none⟩=some (.int .i64 n1)∧w'.cell? ⟨w.heap.size,2,none⟩=some (.int .i64 n2)∧w'.cell? ⟨w.heap.size,3,none⟩=some (.int .i64 n3)∧w'.cell? ⟨w.heap.size,4,none⟩=some (.string s)∧w'.cell? ⟨w.heap.size,5,none⟩=some (.string t)∧w'.cell? ⟨w.heap.size,6,none⟩=some (.slice la ln lc)∧w'.cell? ⟨w.heap.size,7,none⟩=some (.bool md)):=hide (fun w' h=>⟨h _ _ _ (.inl rfl) hzc,h _ _ _ (.inr (.inl rfl)) p1,h _ _ _ (.inr (.inl rfl)) p2,h _ _ _ (.inr (.inr rfl)) c0,h _ _ _ (.inr (.inr rfl)) c1,h _ _ _ (.inr (.inr rfl)) c2,h _ _ _ (.inr (.inr rfl)) c3,h _ _ _ (.inr (.inr rfl)) c4,h _ _ _ (.inr (.inr rfl)) c5,h _ _ _ (.inr (.inr rfl)) c6,h _ _ _ (.inr (.inr rfl)) c7⟩);clear hzc p1 p2 c0 c1 c2 c3 c4 c5 c6 c7 hop e1 e2 e3 e4 e5 e6 e7 e8 j0 HW0;go_region_held_law (fun w'=>w'.cell? ⟨z,0,none⟩=some (.slice (some ⟨b,0,none⟩) L.length cap)∧w'.cell? ⟨b,m*2,none⟩=some (.pointer (some ⟨gg,0,none⟩))∧w'.cell? ⟨b,m*2+1,none⟩=some (.pointer (some ⟨hh,0,none⟩))∧w'.cell? ⟨w.heap.size,0,none⟩=some (.int .i64 k)∧w'.cell? ⟨w.heap.size,1,none⟩=some (.int .i64 n1)∧w'.cell? ⟨w.heap.size,2,none⟩=some (.int .i64 n2)∧w'.cell? ⟨w.heap.size,3,none⟩=some (.int .i64 n3)∧w'.cell? ⟨w.heap.size,4,none⟩=some (.string s)∧w'.cell? ⟨w.heap.size,5,none⟩=some (.string t)∧w'.cell? ⟨w.heap.size,6,none⟩=some (.slice la ln lc)∧w'.cell? ⟨w.heap.size,7,none⟩=some (.bool md)) (first | exact hS1 | exact hS0 | go_keep) (first | (go_at_call 70;refine (HPK.out _).mono ?_;rintro e v1 ⟨rfl,rfl⟩) | (go_at_call 69;refine (HOR.out _ (by first | exact Below.refl _ _ | exact (Below.refl _ _).drew)).mono ?_;rintro e v2 ⟨rfl,hF,hkk⟩;have hS1:=HS.out _ hkk;have HF:=hide hF;clear hF hkk))
   all_goals (
    go_wp2;go_ret;exact ⟨rfl,HF.out⟩)
def OpLs (w:World) (o:OpC):Prop:=∃ L:List (List UInt8),L.length=o.ln∧L.length≤1048576∧Sx.sl L≤1048576∧RdS w (.slice o.la o.ln o.lc) L
theorem OpLs.below {w w':World} {o:OpC} (h:OpLs w o) (hb:Below w.heap.size w w'):OpLs w' o:=by
 obtain ⟨L,h1,h2,h3,h4⟩:=h;exact ⟨L,h1,h2,h3,RdS.below h4 hb⟩
def N64 (o:OpC):Prop:=-9223372036854775808≤o.n1∧o.n1≤9223372036854775807
theorem step_w (o:OpC) (hk:6≤o.k∧o.k≤11) (h64:N64 o) (w0 w:World) (z:Nat) (L:List PD) (hw:LWt w) (hl:OpLs w o) (hL:LvAt w0 w z L) (hn:L.length≤2000000) :
 Calls Tryz.prog 45 #[.pointer (some ⟨z,0,none⟩),.agg o.cells.toArray] w fun e w'=>e=.returned (.bool true)∧∃ L',L'.length≤L.length+1∧LvAt w0 w' z L':=by
 obtain ⟨k,n1,n2,n3,s,t,la,ln,lc,md⟩:=o;obtain ⟨S,h1,h2,h3,h4⟩:=hl;dsimp only at h1 h4 hk;have hcs:(OpC.cells ⟨k,n1,n2,n3,s,t,la,ln,lc,md⟩).toArray=#[.int .i64 k,.int .i64 n1,.int .i64 n2,.int .i64 n3,.string s,.string t,.slice la ln lc,.bool md]:=rfl;rw [hcs];by_cases h6:k=6
 · subst h6;subst h1;exact step_new n1 n2 n3 s t la lc md S w0 w z L hw h2 h3 h4 hL hn
 · exact step_org k n1 n2 n3 (by omega) h64.1 h64.2 s t la ln lc md w0 w z L hw hL hn
theorem lv_start (w:World):LvAt w (w.alloc (.cells #[.slice none 0 0] 76)) w.heap.size [] :=
 ⟨(Below.refl _ _).alloc (Nat.le_refl _) _,Nat.le_refl _,⟨_,heap_alloc_new _ _,World.ownsRow_nil _ _ _ _⟩,fun _ hj=>absurd hj (Nat.not_lt_zero _),fun _ _ hi=>absurd hi (Nat.not_lt_zero _)⟩
theorem plays_w (l:List OpC) (b off cap:Nat) (w:World) (hw:LWt w) (ho:OpsAt w b off l) (hls:∀ o∈l,OpLs w o∧N64 o) (hl:l.length≤1100000) :
 Calls Tryz.prog 15 #[.slice (some ⟨b,off,none⟩) l.length cap,.int .i64 6,.int .i64 11] w fun e w'=>e=.returned (.bool true)∧Below w.heap.size w w':=by
 have HO:=hide ho;have HW:=hide hw;have HLS:=hide hls;have hbw:=ho.1;have HST:=hide (lv_start w);clear ho hw hls;go_enter Tryz.func15,Tryz.ntmps15;go_wp2
 go_loopw [8] (fun i wr=>∃ (j:Nat) (L:List PD),i=.int .i64 j∧j≤l.length∧L.length≤j∧LvAt w wr w.heap.size L) (fun i _=>(l.length-intOf i).toNat)
 case atStart=>exact ⟨0,[],rfl,by omega,Nat.le_refl _,HST.out⟩
 case round =>
  obtain ⟨j,L,rfl,hj,hLl,hL⟩:=hrel;have hB:=hL.low;have HL:=hide hL;clear HST hL;by_cases hlt:j<l.length
  · have hcs:∀ i v,(l[j].cells)[i]? = some v→wr.cell? ⟨b,off+j*8+i,none⟩=some v:=fun i v h=>(hB.cell (p:=⟨b,off+j*8+i,none⟩) hbw).trans (HO.out.2 j hlt i v h);obtain ⟨hol,h64⟩:=HLS.out l[j] (List.getElem_mem hlt);obtain ⟨o,hoo⟩:∃ o,l[j]=o:=⟨_,rfl⟩
    rw [hoo] at hcs hol h64;clear hoo;have hst:=fun (w':World) (hk:6≤o.k∧o.k≤11) (hb:Below wr.heap.size wr w')=>step_w o hk h64 w w' w.heap.size L (lwt_stays _ _ HW.out (below_to hB hb)) (hol.below (below_to hB hb)) (HL.out.below hb) (by omega);have HST:=hide hst;have HKP:=hide (fun w' (hb:Below wr.heap.size wr w')=>HL.out.below hb);clear hst hol h64 HL;obtain ⟨k,n1,n2,n3,s,t,la,ln,lc,md⟩:=o;have c0:=hcs 0 _ rfl;have c1:=hcs 1 _ rfl;have c2:=hcs 2 _ rfl;have c3:=hcs 3 _ rfl;have c4:=hcs 4 _ rfl;have c5:=hcs 5 _ rfl;have c6:=hcs 6 _ rfl;have c7:=hcs 7 _ rfl;rw [Nat.add_zero] at c0;clear hcs;have hB2:Below wr.heap.size wr (wr.alloc (.cells #[.int .i64 k,.int .i64 n1,.int .i64 n2,.int .i64 n3,.string s,.string t,.slice la ln lc,.bool md] 78)):=(Below.refl _ _).alloc (Nat.le_refl _) _;by_cases h1:6≤k
    · by_cases h2:k≤11
      · have HC:=hide (HST.out _ ⟨h1,h2⟩ hB2);have hc:(OpC.cells ⟨k,n1,n2,n3,s,t,la,ln,lc,md⟩).toArray=#[.int .i64 k,.int .i64 n1,.int .i64 n2,.int .i64 n3,.string s,.string t,.slice la ln lc,.bool md]:=rfl;rw [hc] at HC;clear hc HST HKP hB2 hB;go_wp2_with fail
        refine HC.out.mono ?_;rintro e w2 ⟨rfl,L',hl',hL'⟩;have HL':=hide hL';clear HC hL';go_wp2;exact ⟨⟨j+1,L',by go_num,by omega,by omega,HL'.out⟩,by simp [intOf];omega⟩
      · have HN:=hide (HKP.out _ hB2);clear HST HKP hB2 hB;go_wp2;exact ⟨⟨j+1,L,by go_num,by omega,by omega,HN.out⟩,by simp [intOf];omega⟩
    · have HN:=hide (HKP.out _ hB2);clear HST HKP hB2 hB;go_wp2;exact ⟨⟨j+1,L,by go_num,by omega,by omega,HN.out⟩,by simp [intOf];omega⟩
  · go_wp2;go_ret;exact ⟨rfl,hB⟩
theorem plays_zeroW (a:Option Addr) (cap:Nat) (w:World):Calls Tryz.prog 15 #[.slice a 0 cap,.int .i64 6,.int .i64 11] w fun e w'=>e=.returned (.bool true)∧Below w.heap.size w w':=by
 go_enter Tryz.func15,Tryz.ntmps15;go_wp2
 go_loopw [8] (fun i wr=>i=.int .i64 0∧Below w.heap.size w wr) (fun _ _=>0)
 case atStart=>exact ⟨rfl,(Below.refl _ _).alloc (Nat.le_refl _) _⟩
 case round =>
  obtain ⟨rfl,hB⟩:=hrel;go_wp2;go_ret;exact ⟨rfl,hB⟩
theorem wld_law (l:List OpC) (b off cap:Nat) (w:World) (hw:LWt w) (ho:OpsAt w b off l) (hls:∀ o∈l,OpLs w o∧N64 o) (hl:l.length≤1100000) :
 Calls Tryz.prog 12 #[.slice (some ⟨b,off,none⟩) l.length cap] w fun e w'=>e=.returned (.bool true)∧Below w.heap.size w w':=by
 have HC:=hide (plays_w l b off cap w hw ho hls hl);clear hw ho hls;go_enter Tryz.func12,Tryz.ntmps12;go_wp2_with (go_at_call 15;go_must (refine HC.out.mono ?_;rintro e w' ⟨rfl,hB⟩))
 go_ret;exact ⟨rfl,hB⟩
theorem wld_law_zero (a:Option Addr) (cap:Nat) (w:World):Calls Tryz.prog 12 #[.slice a 0 cap] w fun e w'=>e=.returned (.bool true)∧Below w.heap.size w w':=by
 have HC:=hide (plays_zeroW a cap w);go_enter Tryz.func12,Tryz.ntmps12;go_wp2_with (go_at_call 15;go_must (refine HC.out.mono ?_;rintro e w' ⟨rfl,hB⟩))
 go_ret;exact ⟨rfl,hB⟩
open Go.ChangeShapes Go.WideShapes Go.ChangeAt Go.RowKit Go.Deep
theorem bulk_mem {H:Type} {d:DataW H}:∀ {l:List (DataW H)},d∈l→Rows.uptoBulk d≤Rows.uptoBulkAll l
 | [],h=>by cases h
 | x :: r,h=>by
   unfold Rows.uptoBulkAll;rcases List.mem_cons.1 h with rfl | h
   · exact Nat.le_add_right _ _
   · exact Nat.le_trans (bulk_mem h) (Nat.le_add_left _ _)
theorem bulk_texts {H:Type}:∀ (L:List (List UInt8)),Rows.uptoBulkAll (L.map fun s=>(DataW.lit (H:=H) (.string s)))=L.length+Sx.sl L
 | []=>by simp [Rows.uptoBulkAll,Sx.sl]
 | s :: r=>by
   have ih:=bulk_texts (H:=H) r;have e:Sx.sl (s :: r)=s.length+Sx.sl r:=by simp [Sx.sl]
   simp only [List.map_cons,Rows.uptoBulkAll,Rows.uptoBulk,ih,List.length_cons,e];omega
theorem op_lists {H:Type} {enc:TypeId × Value→H} {w:World} {fuel:Nat} {o:OpC} {x:DataW H × List MemPlace} (h:DataW.trod enc Tryz.prog w 0 (fun _=>true) true fuel 78 o.cells=some x) :
 ∃ L:List (List UInt8),L.length=o.ln∧L.length+Sx.sl L≤Rows.uptoBulk x.1∧RdS w (.slice o.la o.ln o.lc) L:=by
 obtain ⟨xs,n,rfl,rfl,hl,hx,hf⟩:=DataW.trod_struct Tryz.underlying78 h;have hx8:xs.length=8:=hx;have f6:DataW.trod enc Tryz.prog w 0 (fun _=>true) true n 34 ((o.cells.drop 6).take (Tryz.prog.cellsOf 34))=xs[6]?:=hf 6 _ rfl;rw [List.getElem?_eq_getElem (by omega),Tryz.cells34] at f6;have hcs6:(o.cells.drop 6).take 1=[.slice o.la o.ln o.lc]:=rfl;rw [hcs6] at f6;have hb6:Rows.uptoBulk (xs[6]'(by omega)).1≤Rows.uptoBulk (DataW.agg (xs.map (·.1))):=by
  have:=bulk_mem (l:=xs.map (·.1)) (d:=(xs[6]'(by omega)).1) (List.mem_map.2 ⟨_,List.getElem_mem (by omega),rfl⟩);simp only [Rows.uptoBulk];omega
 rcases open_slice Tryz.underlying34 f6 with ⟨hcs,-⟩ | ⟨a,len,cap,m,n2,D,Pl,hcs,-,hl2,hm,hmm,hx6,hel⟩
 · simp only [List.cons.injEq,and_true,Value.slice.injEq] at hcs;obtain ⟨h1,h2,h3⟩:=hcs;exact ⟨[],by rw [h2];rfl,by simp [Sx.sl],⟨none,0,by rw [h1,h2,h3];rfl,fun j hj=>absurd hj (Nat.not_lt_zero _)⟩⟩
 · simp only [List.cons.injEq,and_true,Value.slice.injEq] at hcs;obtain ⟨h1,h2,h3⟩:=hcs;simp only [if_true] at hmm;subst hmm;rw [Tryz.cells9] at hel;obtain ⟨S,hS⟩:=choose_lt (α:=ByteArray) (p:=fun i s=>w.cells? 0 (a.add (i*1)) 1=some [.string s]∧D i=.lit (.string s.data.toList)) (fun i (hi:i<len)=>by
    obtain ⟨cs',g1,g2⟩:=hel i (by omega);obtain ⟨s,rfl,g3,-⟩:=DataW.trod_string Tryz.underlying9 g2;exact ⟨s,g1,by injection g3⟩)
   have hLl:((List.range len).map fun i=>(S i).data.toList).length=len:=by simp
   refine ⟨(List.range len).map fun i=>(S i).data.toList,by rw [hLl,h2],?_,?_⟩
   · have e1:((List.range len).map D)=((List.range len).map fun i=>(S i).data.toList).map fun s=>(DataW.lit (H:=H) (.string s)):=by
      rw [List.map_map];refine List.map_congr_left fun i hi=>?_;exact (hS i (List.mem_range.1 hi)).2
     have e2:=bulk_texts (H:=H) ((List.range len).map fun i=>(S i).data.toList);rw [←e1] at e2;have e3:Rows.uptoBulkAll ((List.range len).map D)≤Rows.uptoBulk (xs[6]'(by omega)).1:=by
      rw [hx6];simp only [Rows.uptoBulk];omega
     show _≤Rows.uptoBulk (DataW.agg (xs.map (·.1)));omega
   · refine ⟨o.la,o.lc,by rw [hLl,h2],fun j hj=>?_⟩;rw [hLl] at hj;obtain ⟨b,off,spot⟩:=a;have hc:∀ j,j<len→w.cell? ((⟨b,off,spot⟩:Addr).add (j*1))=some (.string (S j)):=fun j hj=>by
      obtain ⟨-,hlen,hcell⟩:=World.cells?_some (hS j hj).1;have:=hcell 0 (by omega);rw [show ∀ a:Addr,a.add 0=a from fun a=>by unfold Addr.add;simp] at this;exact this
     have hspot:spot=none:=by
      have:=hc 0 (by omega)
      simpa [Addr.add] using World.cell?_spot this
     subst hspot;have hadd:∀ j,(⟨b,off,none⟩:Addr).add (j*1)=⟨b,off+j,none⟩:=fun j=>by
      rw [Nat.mul_one,Addr.add_lit]
     have hcj:=hc j hj;rw [hadd] at hcj;have hb:b<w.heap.size:=by
      by_cases hlt:b<w.heap.size
      · exact hlt
      · have hn:w.heap[b]? = none:=Array.getElem?_eq_none (by omega);simp [World.cell?,hn] at hcj
     refine ⟨b,off,h1,hb,?_⟩;simp only [List.getElem_map,List.getElem_range];exact hcj
theorem bulk_pos {H:Type} (d:DataW H):1≤Rows.uptoBulk d:=by
 cases d with
 | lit l=>cases l <;> simp [Rows.uptoBulk]
 | _=>simp [Rows.uptoBulk]
theorem bulk_len {H:Type}:∀ l:List (DataW H),l.length≤Rows.uptoBulkAll l
 | []=>Nat.zero_le _
 | d :: r=>by
   have h1:=bulk_pos d;have h2:=bulk_len r;simp only [Rows.uptoBulkAll,List.length_cons];omega
theorem wf_rng {n:Int} (h:(Lit.int .i64 n).wf=true) : -9223372036854775808≤n∧n≤9223372036854775807:=by
 simp [Lit.wf,IntKind.min,IntKind.max,IntKind.signed,IntKind.bits] at h;omega
theorem op_rng {H:Type} {enc:TypeId × Value→H} {w:World} {fuel:Nat} {o:OpC} {x:DataW H × List MemPlace} (h:DataW.trod enc Tryz.prog w 0 (fun _=>true) true fuel 78 o.cells=some x):N64 o:=by
 obtain ⟨xs,n,rfl,rfl,hl,hx,hf⟩:=DataW.trod_struct Tryz.underlying78 h;have hx8:xs.length=8:=hx;have f1:DataW.trod enc Tryz.prog w 0 (fun _=>true) true n 3 ((o.cells.drop 1).take (Tryz.prog.cellsOf 3))=xs[1]?:=hf 1 _ rfl;rw [List.getElem?_eq_getElem (by omega)] at f1;obtain ⟨a1,e1,-,w1⟩:=DataW.trod_int Tryz.underlying3 f1;rw [Tryz.cells3] at e1;have hcs:(o.cells.drop 1).take 1=[.int .i64 o.n1]:=rfl;rw [hcs] at e1;simp only [List.cons.injEq,and_true,Value.int.injEq,true_and] at e1;subst e1;exact wf_rng w1
theorem wld_in {H:Type} {enc:TypeId × Value→H} {W:World} {v:Value} {x:DataW H × List MemPlace} {fuel:Nat} (h:DataW.trod enc Tryz.prog W 0 (fun _=>true) true fuel 22 [v]=some x) (hL:LWt W) (hbk:Rows.uptoBulk x.1≤1048576) :
 Calls Tryz.prog 12 #[v] W fun e w'=>e=.returned (.bool true)∧Below W.heap.size W w':=by
 rcases open_slice Tryz.underlying22 h with ⟨hcs,-⟩ | ⟨a,len,cap,m,n,D,Pl,hcs,-,hl,hm,hmm,hxx,hel⟩
 · simp only [List.cons.injEq,and_true] at hcs;subst hcs;exact wld_law_zero none 0 W
 · simp only [List.cons.injEq,and_true] at hcs;subst hcs;simp only [if_true] at hmm;subst hmm;rw [Tryz.cells78] at hel;have inh:Inhabited OpC:=⟨⟨0,0,0,0,⟨#[]⟩,⟨#[]⟩,none,0,0,false⟩⟩
   have hbe:∀ i,i<len→Rows.uptoBulk (D i)≤1048576:=fun i hi=>by
    have h1:Rows.uptoBulk (D i)≤Rows.uptoBulkAll ((List.range len).map D):=bulk_mem (List.mem_map.2 ⟨i,List.mem_range.2 hi,rfl⟩);rw [hxx] at hbk;simp only [Rows.uptoBulk] at hbk;omega
   have hlen:len≤1048576:=by
    have h1:=bulk_len ((List.range len).map D);rw [List.length_map,List.length_range] at h1;rw [hxx] at hbk;simp only [Rows.uptoBulk] at hbk;omega
   obtain ⟨V,hV⟩:=choose_lt (α:=OpC) (p:=fun i o=>W.cells? 0 (a.add (i*8)) 8=some o.cells∧OpLs W o∧N64 o) (fun i (hi:i<len)=>by
    obtain ⟨cs',h1,h2⟩:=hel i (by omega);obtain ⟨o,rfl⟩:=op_open h2;obtain ⟨L,g1,g2,g3⟩:=op_lists h2;have hb:=hbe i hi;dsimp only at g2;exact ⟨o,h1,⟨L,g1,by omega,by omega,g3⟩,op_rng h2⟩)
   obtain ⟨b,off,spot⟩:=a;by_cases h0:len=0
   · subst h0;exact wld_law_zero _ _ W
   · have hc:∀ j,j<len→∀ i v,((V j).cells)[i]? = some v→W.cell? ((⟨b,off,spot⟩:Addr).add (j*8) |>.add i)=some v:=fun j hj i v hv=>by
      obtain ⟨-,hlen,hcell⟩:=World.cells?_some (hV j hj).1;have hi:i<8:=by rw [←hlen];exact (List.getElem?_eq_some_iff.1 hv).1
      rw [hcell i hi];exact hv
     have hspot:spot=none:=by
      have:=hc 0 (by omega) 0 _ rfl
      simpa [Addr.add] using World.cell?_spot this
     subst hspot;have hadd:∀ j i,((⟨b,off,none⟩:Addr).add (j*8)).add i=⟨b,off+j*8+i,none⟩:=fun j i=>by
      rw [Addr.add_lit,Addr.add_lit]
     have hb:b<W.heap.size:=by
      have:=hc 0 (by omega) 0 _ rfl;rw [hadd] at this;by_cases hlt:b<W.heap.size
      · exact hlt
      · have hn:W.heap[b]? = none:=Array.getElem?_eq_none (by omega);simp [World.cell?,hn] at this
     have hll:((List.range len).map V).length=len:=by simp
     have:=wld_law ((List.range len).map V) b off m W hL ⟨hb,fun j hj i v hv=>by
      have hj':j<len:=by rw [←hll];exact hj
      have hg:((List.range len).map V)[j]=V j:=by simp
      rw [hg] at hv;have:=hc j hj' i v hv;rw [hadd] at this;exact this⟩ (fun o ho=>by
      obtain ⟨i,hi,rfl⟩:=List.mem_map.1 ho;exact (hV i (List.mem_range.1 hi)).2) (by rw [hll];omega)
     rw [hll] at this;exact this
theorem wld_contract (H:Type) (enc:TypeId × Value→H) (W:World) (base:Nat) (args:Array Value) (ds gs:List (DataW H)) (before:List MemPlace)
 (hval:∀ (j:Nat) t v,Tryz.f12.params[j]? = some t→args[j]? = some v→Value.okWide Tryz.prog W .any base t v)
 (hW:DataW.Whole enc Tryz.prog Tryz.f12.params.toList Rows.worldsSpec.vars false W args.toList ds gs before) (hk:Rows.uptoSmall H (ds ++ gs)=true) (hL:laidMetH Tryz.prog Rows.worldsUptoRow.laid W) :
 Calls Tryz.prog 12 args W fun e W'=>∃ v,e=.returned v∧Rows.worldsSpec.post enc Tryz.prog Tryz.f12 false true false false W args v W':=by
 have hW':=hW;obtain ⟨p,q,hA0,hV,rfl,_,_⟩:=hW;have hA:DataW.TrodAll enc Tryz.prog W 0 (fun _=>true) true Tryz.f12.params.toList args.toList ds p:=hA0;rw [Tryz.params12] at hA hval;obtain ⟨v0,d0,rfl,rfl,h0⟩:=trodAll_one hA;obtain ⟨rfl,rfl⟩:=trodVars_none hV;have h0k:=h0;obtain ⟨fuel,hf⟩:=h0;clear hA0;simp only [List.append_nil] at hW' hk;have hbk:Rows.uptoBulk d0≤1048576:=by
  have h:=of_decide_eq_true hk;simp only [Rows.uptoBulkAll] at h;omega
 have hlt:∀ x∈p,x.block<W.heap.size:=fun x hx=>by simpa using hW'.lt x hx
 rw [MakeChecks.laidMetH_plain _ _ _ (by kernel_rfl)] at hL;have hT:LWt W:=utf8Tabs_of_readsT (U8Types.of196 Tryz.layValid) u8x (first_eq ▸ Lib.laidMet.reads hL (.tail _ (.head _))) (accept_eq ▸ Lib.laidMet.reads hL (.head _));obtain ⟨a0,len,cap,rfl⟩:=okWide_slice Tryz.underlying22 (hval 0 22 v0 rfl rfl);have hf':DataW.trod enc Tryz.prog W 0 (fun _=>true) true fuel 22 [.slice a0 len cap]=some (d0,p):=hf;refine (wld_in hf' hT hbk).mono fun e W' ⟨he,hb⟩=>?_;subst he;exact ⟨_,rfl,⟨_,_,_,[],_,[],hW',trodAll_mk1 (shut_bool Tryz.underlying4 true),trodAll_mk1 (Below.trod Tryz.laidOut (by kernel_rfl) (of_decide_eq_true (by kernel_rfl)) h0k hb hlt),rfl,hb.frame _,fun h=>by cases h⟩⟩
theorem wld_lifted (os:Os) (started:os.Started) (H:Type) (enc:TypeId × Value→H) (F:Stop.Interp) :
 ReturnsInHanded {} Tryz.checked os 12 .any ((Rows.OpenSpec.upto Rows.worldsSpec).preRow enc Tryz.prog Tryz.f12 Rows.worldsUptoRow.domain false Rows.worldsUptoRow.laid) (((Rows.OpenSpec.upto Rows.worldsSpec).at F).post enc Tryz.prog Tryz.f12 false true false false):=by
 have hok:Input.okWideB Tryz.checked.prog ((World.laidAll Tryz.prog os Rows.worldsUptoRow.laid).forCall (fun _ _=>0) ⟨#[],#[.slice none 0 0],[]⟩) 12 ⟨#[],#[.slice none 0 0],[]⟩=true:=by kernel_rfl
 have hx:∃ places,DataW.whole enc Tryz.prog ((World.laidAll Tryz.prog os Rows.worldsUptoRow.laid).forCall (fun _ _=>0) ⟨#[],#[.slice none 0 0],[]⟩).memory Tryz.f12.params.toList Rows.worldsSpec.vars false #[Value.slice none 0 0].toList 8=some ([.nil],[],places):=⟨[],by kernel_rfl⟩
 obtain ⟨places,hx⟩:=hx;refine returnsInHanded_of_row (C:=Tryz.checked) (s:=Rows.OpenSpec.upto Rows.worldsSpec) Tryz.own started (by kernel_rfl) Tryz.func12
  ⟨World.laidAll Tryz.prog os Rows.worldsUptoRow.laid,fun _ _=>0,⟨#[],#[.slice none 0 0],[]⟩,World.laidAll_os _ _ _,World.shaped_of_ZipB (by kernel_rfl) (by kernel_rfl),(Input.okWide_of_okWideB (base:=0) hok).1,(Input.okWide_of_okWideB hok).2,
    OpenSpec.preRow_of_cond 8 hx (by kernel_rfl) (fun k hk=>by cases hk;kernel_rfl) (by kernel_rfl) (by rw [MakeChecks.laidMetH_plain _ _ _ (by kernel_rfl)];exact laidMet_laidAll _ (by kernel_rfl) (by kernel_rfl)),
    by simp only [Assume.holds];exact ⟨by simp,by simp,fun _=>Modest.zero,by simp,by simp⟩⟩ ?_
 intro W base args ds gs before hval hW _ hcond _ hL _ _;exact wld_contract H enc W base args ds gs before hval hW (hcond _ rfl) hL
theorem wld_row_holds:Rows.WorldsUptoSaid :=
 OpenClaim.holds_of_cond 12 Tryz.f12 rfl rfl rfl rfl rfl rfl rfl ⟨rfl,rfl,rfl,rfl,rfl⟩ rfl rfl rfl rfl rfl (by kernel_rfl) Tryz.func12 wld_facts
  (of_decide_eq_true (by kernel_rfl)) (by unfold Func.isWrapper;first | (rw [if_pos (by decide +kernel)];kernel_rfl) | (rw [if_neg (by decide +kernel)];exact ⟨rfl,rfl⟩))
  (fun os started H enc _ F=>by rw [OpenClaim.pre_eq_preRow];exact wld_lifted os started H enc F)
theorem wld_card_holds:Rows.WorldsUptoCardSaid :=
 Claim7.holds_tied_plain_at .later [] _ _ _ _ wld_row_holds (fun _ h=>by cases h) (by kernel_rfl) (fun _ h=>by cases h) worldsUpto_row_tie rfl ⟨rfl,rfl⟩ (by kernel_rfl) rfl
  (fun f fn hf hfn=>by
    obtain rfl:f=12:=Option.some.inj ((show Tryz.prog.funcNamed "suffix/suffixlaw.Worlds" = some 12 by kernel_rfl).symm.trans hf) |>.symm;obtain rfl:fn=Tryz.f12:=(Option.some.inj (Tryz.func12.symm.trans hfn)).symm;exact ⟨by kernel_rfl,fun j t ht=>by
     rw [Tryz.params12] at ht;have hm:t∈[22]:=by simpa using Array.mem_of_getElem? ht
     have hall:([22].all fun u=>!Tryz.prog.wantsStandIn u)=true:=by kernel_rfl
     exact (show Tryz.prog.wantsStandIn t=false by simpa using List.all_eq_true.1 hall t hm)⟩)
  (by kernel_rfl)
end Go.Proofs.YtgohllfpceeboaaGreatDoor
