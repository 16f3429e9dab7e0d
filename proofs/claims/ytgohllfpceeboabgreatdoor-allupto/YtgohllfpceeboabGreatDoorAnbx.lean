import Derived.Test.YtgohllfpceeboabGreatDoorAnbw
set_option maxRecDepth 100000
set_option maxHeartbeats 8000000
namespace Go.Proofs.YtgohllfpceeboabGreatDoor
theorem Tryz.info121 : (Tryz.prog.info? 121).map (fun i => (i.zero, i.size, i.bytes)) = some (some (.agg #[.pointer none, .pointer none]), 2, 16) := by kernel_rfl
open Go.RowKit
theorem LP (p:PD)(n1 n2 n3:Int)(s t:ByteArray)(la:Option Addr)(ln lc:Nat)(md:Bool)(w:World)(_:gW w)(hp:PrOk w p):Calls Tryz.prog 71 #[.agg #[.pointer (some ⟨p.g,0,none⟩),.pointer (some ⟨p.h,0,none⟩)],.agg #[.int .i64 8,.int .i64 n1,.int .i64 n2,.int .i64 n3,.string s,.string t,.slice la ln lc,.bool md]] w fun e w'=>e=.returned (.bool true)∧PairPost w p w':=by
 obtain⟨W0,hW0⟩:∃ W0,(w.alloc (.cells #[.pointer (some ⟨p.g,0,none⟩),.pointer (some ⟨p.h,0,none⟩)] 121)).alloc (.cells #[.int .i64 8,.int .i64 n1,.int .i64 n2,.int .i64 n3,.string s,.string t,.slice la ln lc,.bool md] 96)=W0:=⟨_,rfl⟩
 obtain⟨hB0,hz0,hbx⟩:=qP _ _ _ _ _ _ _ _ _ _ _ _ hW0;have hp0:=hp.below hB0;have HPT:=hide (UD p.g p.ov p.rs p.os W0 hp0.pw hp0.few);have HDT:=hide (fun W hd=>j7 p.h p.dv p.rs p.os W hd hp0.few);have hok:∀ x∈(tG p.os).1,dF x:=FI (o:=(none,[])) hp0.ok rfl;have hfw:=TT hp0.few;have hkp:∀ W os',PPost W0 p.g p.ov p.rs os' W→∀ b,w.heap.size≤b→b<w.heap.size+2→W.heap[b]? = W0.heap[b]?:=fun W os' hP b h1 h2=>by
  obtain⟨ov',-,hx,-⟩:=hP;exact hx.block b (by omega) (fun e=>by have:=(hp.pw.peLt e).2;omega)
 obtain⟨⟨os',a,b⟩,hT⟩:∃ x,tG p.os=x:=⟨_,rfl⟩
 rw[hT] at HPT hok hfw;simp only[hT] at HDT;dsimp only at HPT HDT hok hfw;have HAF:=hide (fun W (h:PPost W0 p.g p.ov p.rs os' W)=>hp0.after h);have HPP:=hide (fun W1 W2 (h:PPost W0 p.g p.ov p.rs os' W1) h2=>(rC (w2:=W2) hp0 h h2 hok hfw).back hB0);have HBX:=hide (fun W (h:PPost W0 p.g p.ov p.rs os' W)=>hbx W (hkp W os' h));obtain⟨c0,c1,d0,d1,d2,d3,d4,d5,d6,d7⟩:=hbx W0 (fun _ _ _=>rfl);have aa:(a == a)=true:=by simp
 have bb:(b == b)=true:=by simp
 have HW0:=hide hW0;obtain⟨g,ov,h,dv,rs,os⟩:=p;dsimp only at *;clear hp hp0 hok hfw hkp hT hbx hB0 hW0;go_enter Tryz.func71,Tryz.ntmps71;go_upto_region 1 with fail
 rw[HW0.out];go_wp2_with fail
 refine HPT.out.mono ?_;rintro e w1 ⟨rfl,hP1⟩;obtain⟨c0,c1,d0,d1,d2,d3,d4,d5,d6,d7⟩:=HBX.out _ hP1;have HD:=hide (HDT.out _ (HAF.out _ hP1));have HP1:=hide hP1;clear hP1 HDT HAF HPT;go_wp2_with fail
 refine HD.out.mono ?_;rintro e w2 ⟨rfl,hD2⟩;have HF:=hide (HPP.out _ _ HP1.out hD2);clear hD2 HPP;go_wp2_with (go_at_call 102;go_must (refine(eY _ _).mono ?_;rintro e w' ⟨rfl,rfl⟩))
 go_ret;exact⟨rfl,HF.out⟩
theorem LV (p:PD)(n1 n2 n3:Int)(s t:ByteArray)(la:Option Addr)(ln lc:Nat)(md:Bool)(w:World)(hw:gW w)(hp:PrOk w p):Calls Tryz.prog 71 #[.agg #[.pointer (some ⟨p.g,0,none⟩),.pointer (some ⟨p.h,0,none⟩)],.agg #[.int .i64 9,.int .i64 n1,.int .i64 n2,.int .i64 n3,.string s,.string t,.slice la ln lc,.bool md]] w fun e w'=>e=.returned (.bool true)∧PairPost w p w':=by
 obtain⟨W0,hW0⟩:∃ W0,(w.alloc (.cells #[.pointer (some ⟨p.g,0,none⟩),.pointer (some ⟨p.h,0,none⟩)] 121)).alloc (.cells #[.int .i64 9,.int .i64 n1,.int .i64 n2,.int .i64 n3,.string s,.string t,.slice la ln lc,.bool md] 96)=W0:=⟨_,rfl⟩
 obtain⟨hB0,hz0,hbx⟩:=qP _ _ _ _ _ _ _ _ _ _ _ _ hW0;have hp0:=hp.below hB0;have HPT:=hide (WY p.g n2 s p.ov p.rs p.os W0 (bA _ _ hw hB0) hp0.pw hp0.ok hp0.rt);have HDT:=hide (fun W hd=>o7 p.h n2 s p.dv p.rs p.os W hd hp0.ok hp0.rt);have hok:=r7 (rs:=p.rs) n2 s.data.toList hp0.ok;have hfw:=YM (rs:=p.rs) n2 s.data.toList hp0.few;have hkp:∀ W os',PPost W0 p.g p.ov p.rs os' W→∀ b,w.heap.size≤b→b<w.heap.size+2→W.heap[b]? = W0.heap[b]?:=fun W os' hP b h1 h2=>by
  obtain⟨ov',-,hx,-⟩:=hP;exact hx.block b (by omega) (fun e=>by have:=(hp.pw.peLt e).2;omega)
 obtain⟨⟨os',b⟩,hT⟩:∃ x,mY p.rs p.os n2 s.data.toList=x:=⟨_,rfl⟩
 rw[hT] at HPT hok hfw;simp only[hT] at HDT;dsimp only at HPT HDT hok hfw;have HAF:=hide (fun W (h:PPost W0 p.g p.ov p.rs os' W)=>hp0.after h);have HPP:=hide (fun W1 W2 (h:PPost W0 p.g p.ov p.rs os' W1) h2=>(rC (w2:=W2) hp0 h h2 hok hfw).back hB0);have HBX:=hide (fun W (h:PPost W0 p.g p.ov p.rs os' W)=>hbx W (hkp W os' h));obtain⟨c0,c1,d0,d1,d2,d3,d4,d5,d6,d7⟩:=hbx W0 (fun _ _ _=>rfl);have bb:(b == b)=true:=by simp
 have HW0:=hide hW0;obtain⟨g,ov,h,dv,rs,os⟩:=p;dsimp only at *;clear hp hp0 hw hok hfw hkp hT hbx hB0 hW0;go_enter Tryz.func71,Tryz.ntmps71;go_upto_region 1 with fail
 rw[HW0.out];go_wp2_with fail
 refine HPT.out.mono ?_;rintro e w1 ⟨rfl,hP1⟩;obtain⟨c0,c1,d0,d1,d2,d3,d4,d5,d6,d7⟩:=HBX.out _ hP1;have HD:=hide (HDT.out _ (HAF.out _ hP1));have HP1:=hide hP1;clear hP1 HDT HAF HPT;go_wp2_with fail
 refine HD.out.mono ?_;rintro e w2 ⟨rfl,hD2⟩;have HF:=hide (HPP.out _ _ HP1.out hD2);clear hD2 HPP;go_wp2_with (go_at_call 102;go_must (refine(eY _ _).mono ?_;rintro e w' ⟨rfl,rfl⟩))
 go_ret;exact⟨rfl,HF.out⟩
theorem XQ (p:PD)(n1 n2 n3:Int)(s t:ByteArray)(la:Option Addr)(ln lc:Nat)(md:Bool)(w:World)(_:gW w)(hp:PrOk w p):Calls Tryz.prog 71 #[.agg #[.pointer (some ⟨p.g,0,none⟩),.pointer (some ⟨p.h,0,none⟩)],.agg #[.int .i64 10,.int .i64 n1,.int .i64 n2,.int .i64 n3,.string s,.string t,.slice la ln lc,.bool md]] w fun e w'=>e=.returned (.bool true)∧PairPost w p w':=by
 obtain⟨W0,hW0⟩:∃ W0,(w.alloc (.cells #[.pointer (some ⟨p.g,0,none⟩),.pointer (some ⟨p.h,0,none⟩)] 121)).alloc (.cells #[.int .i64 10,.int .i64 n1,.int .i64 n2,.int .i64 n3,.string s,.string t,.slice la ln lc,.bool md] 96)=W0:=⟨_,rfl⟩
 obtain⟨hB0,hz0,hbx⟩:=qP _ _ _ _ _ _ _ _ _ _ _ _ hW0;have hp0:=hp.below hB0;obtain⟨X,er,HPT,HDT⟩:∃ (X:ByteArray) (er:Int),Hid (∀ W,Below W0.heap.size W0 W→Calls Tryz.prog 111 #[.pointer (some ⟨p.g,0,none⟩),.int .i64 n2] W fun e w'=>e=.returned (.tuple #[.string X,.int .i64 er])∧Below W.heap.size W w')∧Hid (∀ W,Below W0.heap.size W0 W→Calls Tryz.prog 112 #[.pointer (some ⟨p.h,0,none⟩),.int .i64 n2] W fun e w'=>e=.returned (.tuple #[.string X,.int .i64 er])∧Below W.heap.size W w'):=by
  by_cases hn:0≤n2∧n2<p.os.length
  · obtain⟨m,rfl⟩:∃ m:Nat,n2=m:=⟨n2.toNat,by omega⟩
    have hm:m<p.os.length:=by omega
    refine⟨⟨(lW p.rs p.os[m]).toArray⟩,0,hide (fun W h=>?_),hide (fun W h=>?_)⟩
    · have h1:=O9 p.g m p.rs p.os W (hp0.below h).pw.read hm hp0.ok hp0.rt;rw[BS hp0.rt.ok (hp0.ok _ (List.getElem_mem hm))] at h1;exact h1
    · exact JA p.h m p.dv p.rs p.os W (hp0.below h).dw hm hp0.ok hp0.rt
  · refine⟨⟨#[]⟩,7,hide (fun W h=>?_),hide (fun W h=>?_)⟩
    · refine(L2 p.g n2 p.rs p.os W (hp0.below h).pw.read hn).mono ?_;rintro e w' ⟨rfl,rfl⟩;exact⟨rfl,Below.refl _ _⟩
    · refine(Q0 p.h n2 p.dv p.rs p.os W (hp0.below h).dw hn).mono ?_;rintro e w' ⟨rfl,rfl⟩;exact⟨rfl,Below.refl _ _⟩
 have HPP:=hide (fun W2 (h:Below W0.heap.size W0 W2)=>(PairPost.same hp0 h).back hB0);have HBX:=hide (fun W (h:Below W0.heap.size W0 W)=>hbx W (fun b _ hb=>h.block b (by omega)));obtain⟨c0,c1,d0,d1,d2,d3,d4,d5,d6,d7⟩:=hbx W0 (fun _ _ _=>rfl);have aa:(X.toList == X.toList)=true:=by simp
 have bb:(er == er)=true:=by simp
 have HW0:=hide hW0;obtain⟨g,ov,h,dv,rs,os⟩:=p;dsimp only at *;clear hp hp0 hbx hB0 hW0;go_enter Tryz.func71,Tryz.ntmps71;go_upto_region 1 with fail
 rw[HW0.out];go_wp2_with fail
 refine(HPT.out _ (Below.refl _ _)).mono ?_;rintro e w1 ⟨rfl,hB1⟩;obtain⟨c0,c1,d0,d1,d2,d3,d4,d5,d6,d7⟩:=HBX.out _ hB1;have HB1:=hide hB1;clear hB1 HPT;go_wp2_with fail
 refine(HDT.out _ HB1.out).mono ?_;rintro e w2 ⟨rfl,hB2⟩;have HF:=hide (HPP.out _ (aN HB1.out hB2));clear hB2 HPP;go_wp2_with (go_at_call 102;go_must (refine(eY _ _).mono ?_;rintro e w' ⟨rfl,rfl⟩))
 go_ret;exact⟨rfl,HF.out⟩
theorem ZF (p:PD)(n1 n2 n3:Int)(s t:ByteArray)(la:Option Addr)(ln lc:Nat)(md:Bool)(w:World)(_:gW w)(hp:PrOk w p):Calls Tryz.prog 71 #[.agg #[.pointer (some ⟨p.g,0,none⟩),.pointer (some ⟨p.h,0,none⟩)],.agg #[.int .i64 11,.int .i64 n1,.int .i64 n2,.int .i64 n3,.string s,.string t,.slice la ln lc,.bool md]] w fun e w'=>e=.returned (.bool true)∧PairPost w p w':=by
 obtain⟨W0,hW0⟩:∃ W0,(w.alloc (.cells #[.pointer (some ⟨p.g,0,none⟩),.pointer (some ⟨p.h,0,none⟩)] 121)).alloc (.cells #[.int .i64 11,.int .i64 n1,.int .i64 n2,.int .i64 n3,.string s,.string t,.slice la ln lc,.bool md] 96)=W0:=⟨_,rfl⟩
 obtain⟨hB0,hz0,hbx⟩:=qP _ _ _ _ _ _ _ _ _ _ _ _ hW0;have hp0:=hp.below hB0;obtain⟨R1,R2,R3,er,HPT,HDT⟩:∃ (R1 R2 R3:Bool) (er:Int),Hid (∀ W,Below W0.heap.size W0 W→Calls Tryz.prog 13 #[.pointer (some ⟨p.g,0,none⟩),.int .i64 n2,.int .i64 n3] W fun e w'=>e=.returned (.tuple #[.bool R1,.bool R2,.bool R3,.int .i64 er])∧Below W.heap.size W w')∧Hid (∀ W,Below W0.heap.size W0 W→Calls Tryz.prog 113 #[.pointer (some ⟨p.h,0,none⟩),.int .i64 n2,.int .i64 n3] W fun e w'=>e=.returned (.tuple #[.bool R1,.bool R2,.bool R3,.int .i64 er])∧Below W.heap.size W w'):=by
  by_cases hn:(0≤n2∧n2<p.os.length)∧(0≤n3∧n3<p.os.length)
  · obtain⟨m,rfl⟩:∃ m:Nat,n2=m:=⟨n2.toNat,by omega⟩
    obtain⟨k,rfl⟩:∃ m:Nat,n3=m:=⟨n3.toNat,by omega⟩
    have hm:m<p.os.length:=by omega
    have hk:k<p.os.length:=by omega
    have hrel:=S0 hp0.rt.ok (a:=m) (b:=k) (hp0.ok _ (List.getElem_mem hm)) (hp0.ok _ (List.getElem_mem hk)) (fun e=>by subst e;rfl);refine⟨(tI p.rs m k p.os[m] p.os[k]).1,(tI p.rs m k p.os[m] p.os[k]).2.1,(tI p.rs m k p.os[m] p.os[k]).2.2,0,hide (fun W h=>?_),hide (fun W h=>?_)⟩
    · rw[←hrel];exact Q9 p.g m k p.rs p.os W (hp0.below h).pw.read hm hk hp0.ok hp0.rt
    · exact P4 p.h m k p.dv p.rs p.os W (hp0.below h).dw hm hk hp0.ok hp0.rt
  · have hn':¬ (0≤n2∧n2<p.os.length)∨¬ (0≤n3∧n3<p.os.length):=by
     by_cases h:0≤n2∧n2<p.os.length
     · exact .inr (fun h'=>hn ⟨h,h'⟩)
     · exact .inl h
    refine⟨false,false,false,7,hide (fun W h=>?_),hide (fun W h=>?_)⟩
    · refine(P0 p.g n2 n3 p.rs p.os W (hp0.below h).pw.read hn').mono ?_;rintro e w' ⟨rfl,rfl⟩;exact⟨rfl,Below.refl _ _⟩
    · refine(O3 p.h n2 n3 p.dv p.rs p.os W (hp0.below h).dw hn').mono ?_;rintro e w' ⟨rfl,rfl⟩;exact⟨rfl,Below.refl _ _⟩
 have HPP:=hide (fun W2 (h:Below W0.heap.size W0 W2)=>(PairPost.same hp0 h).back hB0);have HBX:=hide (fun W (h:Below W0.heap.size W0 W)=>hbx W (fun b _ hb=>h.block b (by omega)));obtain⟨c0,c1,d0,d1,d2,d3,d4,d5,d6,d7⟩:=hbx W0 (fun _ _ _=>rfl);have r1:(R1 == R1)=true:=by simp
 have r2:(R2 == R2)=true:=by simp
 have r3:(R3 == R3)=true:=by simp
 have bb:(er == er)=true:=by simp
 have HW0:=hide hW0;obtain⟨g,ov,h,dv,rs,os⟩:=p;dsimp only at *;clear hp hp0 hbx hB0 hW0;go_enter Tryz.func71,Tryz.ntmps71;go_upto_region 1 with fail
 rw[HW0.out];go_wp2_with fail
 refine(HPT.out _ (Below.refl _ _)).mono ?_;rintro e w1 ⟨rfl,hB1⟩;obtain⟨c0,c1,d0,d1,d2,d3,d4,d5,d6,d7⟩:=HBX.out _ hB1;have HB1:=hide hB1;clear hB1 HPT;go_wp2_with fail
 refine(HDT.out _ HB1.out).mono ?_;rintro e w2 ⟨rfl,hB2⟩;have HF:=hide (HPP.out _ (aN HB1.out hB2));clear hB2 HPP;go_wp2_with (go_at_call 102;go_must (refine(eY _ _).mono ?_;rintro e w' ⟨rfl,rfl⟩))
 go_ret;exact⟨rfl,HF.out⟩
theorem EA (p:PD)(k n1 n2 n3:Int)(hk:7≤k∧k≤11)(s t:ByteArray)(la:Option Addr)(ln lc:Nat)(md:Bool)(w:World)(hw:gW w)(hp:PrOk w p):Calls Tryz.prog 71 #[.agg #[.pointer (some ⟨p.g,0,none⟩),.pointer (some ⟨p.h,0,none⟩)],.agg #[.int .i64 k,.int .i64 n1,.int .i64 n2,.int .i64 n3,.string s,.string t,.slice la ln lc,.bool md]] w fun e w'=>e=.returned (.bool true)∧PairPost w p w':=by
 have h5:k=7∨k=8∨k=9∨k=10∨k=11:=by omega
 rcases h5 with rfl | rfl | rfl | rfl | rfl
 · exact QI p n1 n2 n3 s t la ln lc md w hw hp
 · exact LP p n1 n2 n3 s t la ln lc md w hw hp
 · exact LV p n1 n2 n3 s t la ln lc md w hw hp
 · exact XQ p n1 n2 n3 s t la ln lc md w hw hp
 · exact ZF p n1 n2 n3 s t la ln lc md w hw hp
theorem PwAt.exK {W W':World}{g:Nat}{ov:Value}{rs:List Sx.Rl}{os:List cJ}{E:Nat→Prop}(h:PwAt W g ov rs os)(hx:Ex E W W')(hn:∀ k,PE g ov k→¬ E k)(hr:∀ k cs fr,W.heap[k]? = some (.cells cs 82 fr)→¬ E k):PwAt W' g ov rs os:=by
 obtain⟨rv,a1,a2,a3⟩:=h;refine⟨rv,(hx.block g (cF a1) (hn g (.inl rfl))).trans a1,hx.own a2 (fun k hk=>?_),hx.own a3 (fun k hk=>hn k (.inr hk))⟩;obtain⟨cs,hc⟩:=lG a2 hk;exact hr k _ _ hc
theorem DwAt.exK {W W':World}{g:Nat}{dv:Value}{rs:List Sx.Rl}{os:List cJ}{E:Nat→Prop}(h:DwAt W g dv rs os)(hx:Ex E W W')(hn:∀ k,PE g dv k→¬ E k)(hr:∀ k cs fr,W.heap[k]? = some (.cells cs 218 fr)→¬ E k)(hs:∀ k cs fr,W.heap[k]? = some (.cells cs 9 fr)→¬ E k):DwAt W' g dv rs os:=by
 obtain⟨rv,q,d,a1,a2,a3,a4,a5,a6⟩:=h;have hst:∀ B v n xs,W.ownsRow B 9 1 v n xs→W'.ownsRow B 9 1 v n xs:=fun B v n xs ho=>hx.own ho (fun k hk=>by
  obtain⟨cs,hc⟩:=lG ho hk;exact hs k _ _ hc)
 refine⟨rv,q,d,a1,a2,(hx.block g (cF a3) (hn g (.inl rfl))).trans a3,⟨hx.own a4.row (fun k hk=>?_),fun x hx'=>hst _ _ _ _ (a4.hosts x hx')⟩,hx.own a5 (fun k hk=>hn k (.inr hk)),fun x hx'=>(a6 x hx').own (fun _ _ _ ho=>hst _ _ _ _ ho)⟩;obtain⟨cs,hc⟩:=lG a4.row hk;exact hr k _ _ hc
def T4 (t:TypeId):Prop:=t=87∨t=75∨t=225∨t=228
theorem PrOk.has {W:World}{p:PD}(h:PrOk W p){k:Nat}(hk:PQ p k):∃ cs t fr,W.heap[k]? = some (.cells cs t fr)∧T4 t:=by
 rcases hk with hk | hk
 · obtain⟨cs,t,fr,h1,h2⟩:=h.pw.has hk;exact⟨cs,t,fr,h1,h2.elim .inl (fun h=>.inr (.inl h))⟩
 · obtain⟨cs,t,fr,h1,h2⟩:=h.dw.has hk;exact⟨cs,t,fr,h1,.inr (.inr h2)⟩
theorem PrOk.not {W:World}{p:PD}(h:PrOk W p){k:Nat}{cs:Array Value}{t:TypeId}{fr:Nat×Nat}(hc:W.heap[k]? = some (.cells cs t fr))(ht:¬ T4 t):¬ PQ p k:=fun hk=>by
 obtain⟨cs',t',fr',h1,h2⟩:=h.has hk;rw[hc] at h1;simp at h1;exact ht (h1.2.1 ▸ h2)
theorem PrOk.lt {W:World}{p:PD}(h:PrOk W p){k:Nat}(hk:PQ p k):k<W.heap.size:=by
 obtain⟨cs,t,fr,h1,-⟩:=h.has hk;exact cF h1
theorem PrOk.ge {W:World}{p:PD}(h:PrOk W p){n:Nat}(h1:n≤p.g)(h2:n≤p.h){k:Nat}(hk:PQ p k):n≤k:=by
 rcases hk with hk | hk
 · have:=(h.pw.peLt hk).1;omega
 · have:=(h.dw.peLt hk).1;omega
def CL (L:List PD):List Value:=L.flatMap fun p=>[.pointer (some ⟨p.g,0,none⟩),.pointer (some ⟨p.h,0,none⟩)]
theorem v8 (a b:List PD):CL (a++b)=CL a++CL b:=by simp[CL]
theorem ZK:∀ (l:List PD) (j:Nat) (h:j<l.length),(CL l)[j*2]? = some (.pointer (some ⟨l[j].g,0,none⟩))∧(CL l)[j*2+1]? = some (.pointer (some ⟨l[j].h,0,none⟩)):=by
 intro l
 induction l with
 | nil=>intro j h;exact absurd h (Nat.not_lt_zero _)
 | cons x r ih =>
   intro j h;have e:CL (x::r)=.pointer (some ⟨x.g,0,none⟩) :: .pointer (some ⟨x.h,0,none⟩)::CL r:=rfl;cases j with
   | zero=>rw[e];exact⟨rfl,rfl⟩
   | succ j =>
     have:=ih j (by simpa using h);rw[e,show(j+1)*2=j*2+2 by omega];exact this
theorem OE:∀ (l:List PD) (n:Nat) (h:n<l.length) (p:PD),p.g=l[n].g→p.h=l[n].h→CL (l.set n p)=CL l
 | x::r,0,_,p,h1,h2=>by
   have e:∀ y,CL (y::r)=[.pointer (some ⟨y.g,0,none⟩),.pointer (some ⟨y.h,0,none⟩)]++CL r:=fun _=>rfl;rw[List.set_cons_zero,e,e];rw[List.getElem_cons_zero] at h1 h2;rw[h1,h2]
 | x::r,n+1,h,p,h1,h2=>by
   have ih:=OE r n (by simpa using h) p (by simpa using h1) (by simpa using h2);have e:∀ y l,CL (y::l)=[.pointer (some ⟨y.g,0,none⟩),.pointer (some ⟨y.h,0,none⟩)]++CL l:=fun _ _=>rfl;rw[List.set_cons_succ,e,e,ih]
structure LvAt (w0 W:World) (z:Nat) (L:List PD):Prop where
 low:Below w0.heap.size w0 W
 zlt:w0.heap.size≤z
 box:∃ av,W.heap[z]? = some (.cells #[av] 94 (0,0))∧W.ownsRow (z+1) 121 2 av L.length (CL L)
 each:∀ j (hj:j<L.length),PrOk W L[j]∧w0.heap.size≤L[j].g∧w0.heap.size≤L[j].h
 apart:∀ i j (hi:i<L.length) (hj:j<L.length),i≠j→∀ k,PQ L[i] k→¬ PQ L[j] k
theorem LvAt.below {w0 W W':World}{z:Nat}{L:List PD}(h:LvAt w0 W z L)(hb:Below W.heap.size W W'):LvAt w0 W' z L:=by
 refine⟨h.low.trans (hb.mono h.low.size),h.zlt,?_,fun j hj=>⟨(h.each j hj).1.below hb,(h.each j hj).2⟩,h.apart⟩;obtain⟨av,h1,h2⟩:=h.box;exact⟨av,(hb.block z (cF h1)).trans h1,aD h2 hb⟩
theorem LvAt.step {w0 W W':World}{z i:Nat}{L:List PD}(h:LvAt w0 W z L)(hi:i<L.length)(hp:PairPost W L[i] W'):∃ L',L'.length=L.length∧LvAt w0 W' z L':=by
 obtain⟨p',e1,e2,hok,hx,n1,n2⟩:=hp;obtain⟨oki,gi,hhi⟩:=h.each i hi;have hpq:∀ j (hj:j<(L.set i p').length) k,PQ (L.set i p')[j] k→PQ (L[j]'(by simpa using hj)) k∨(W.heap.size≤k∧j=i):=fun j hj k hk=>by
  rw[List.getElem_set] at hk;by_cases hij:i=j
  · subst hij;rw[if_pos rfl] at hk;rcases hk with hk | hk
    · rcases hk with hk | hk
      · exact .inl (.inl (.inl (hk.trans e1)))
      · exact(n1 k hk).imp (fun h=>.inl (.inr h)) (fun h=>⟨h,rfl⟩)
    · rcases hk with hk | hk
      · exact .inl (.inr (.inl (hk.trans e2)))
      · exact(n2 k hk).imp (fun h=>.inr (.inr h)) (fun h=>⟨h,rfl⟩)
  · rw[if_neg hij] at hk;exact .inl hk
 refine⟨L.set i p',List.length_set,h.low.trans (hx.below h.low.size (fun k hk=>oki.ge gi hhi hk)),h.zlt,?_,fun j hj=>?_,fun a b ha hb hab k hka hkb=>?_⟩
 · obtain⟨av,h1,h2⟩:=h.box;refine⟨av,(hx.block z (cF h1) (oki.not h1 (by unfold T4;decide))).trans h1,?_⟩;rw[List.length_set,OE L i hi p' e1 e2];exact hx.own h2 (fun k hk=>by
    obtain⟨cs,hc⟩:=lG h2 hk;exact oki.not hc (by unfold T4;decide))
 · have hj':j<L.length:=by simpa using hj
   by_cases hij:i=j
   · subst hij;simp only[List.getElem_set_self];exact⟨hok,by rw[e1];exact gi,by rw[e2];exact hhi⟩
   · simp only[List.getElem_set_ne hij];obtain⟨okj,gj,hhj⟩:=h.each j hj';have hno:∀ k,PQ L[j] k→¬ PQ L[i] k:=fun k hk=>h.apart j i hj' hi (fun e=>hij e.symm) k hk;exact⟨⟨okj.pw.exK hx (fun k hk=>hno k (.inl hk)) (fun k cs fr hc=>oki.not hc (by unfold T4;decide)),okj.dw.exK hx (fun k hk=>hno k (.inr hk)) (fun k cs fr hc=>oki.not hc (by unfold T4;decide)) (fun k cs fr hc=>oki.not hc (by unfold T4;decide)),okj.ok,okj.few,okj.rt⟩,gj,hhj⟩
 · have ha':a<L.length:=by simpa using ha
   have hb':b<L.length:=by simpa using hb
   rcases hpq a ha k hka with h1 | ⟨h1,rfl⟩
   · rcases hpq b hb k hkb with h2 | ⟨h2,rfl⟩
     · exact h.apart a b ha' hb' hab k h1 h2
     · have:=(h.each a ha').1.lt h1;omega
   · rcases hpq b hb k hkb with h2 | ⟨h2,h3⟩
     · have:=(h.each b hb').1.lt h2;omega
     · exact hab h3.symm
theorem LvAt.more {w0 W W':World}{z:Nat}{L:List PD}{p:PD}(h:LvAt w0 W z L)(hx:Ex (fun k=>k=z∨∃ cs,W.heap[k]? = some (.cells cs 121 (0,0))∧z≤k) W W')(hb:∃ av,W'.heap[z]? = some (.cells #[av] 94 (0,0))∧W'.ownsRow (z+1) 121 2 av (L.length+1) (CL (L++[p])))(hp:PrOk W' p)(hg:w0.heap.size≤p.g)(hh:w0.heap.size≤p.h)(hnew:∀ j (hj:j<L.length) k,PQ p k→¬ PQ L[j] k):LvAt w0 W' z (L++[p]):=by
 obtain⟨av0,hz0,hr0⟩:=h.box;have hty:∀ k cs t fr,W.heap[k]? = some (.cells cs t fr)→t≠94→t≠121→¬ (k=z∨∃ cs,W.heap[k]? = some (.cells cs 121 (0,0))∧z≤k):=fun k cs t fr hc h1 h2 hk=>by
  rcases hk with rfl | ⟨cs',hc',-⟩
  · rw[hz0] at hc;simp at hc;exact h1 hc.2.1.symm
  · rw[hc'] at hc;simp at hc;exact h2 hc.2.1.symm
 have h4:∀ t,T4 t→t≠94∧t≠121:=fun t ht=>by
  unfold T4 at ht;rcases ht with rfl | rfl | rfl | rfl <;> decide
 refine⟨h.low.trans (hx.below h.low.size (fun k hk=>by have:=h.zlt;rcases hk with rfl | ⟨_,_,hk⟩ <;> omega)),h.zlt,?_,fun j hj=>?_,fun i j hi hj hij k hki hkj=>?_⟩
 · rw[List.length_append,List.length_singleton];exact hb
 · rw[List.getElem_append];split
   · rename_i hj';obtain⟨okj,gj,hhj⟩:=h.each j hj';have hno:∀ k,PQ L[j] k→¬ (k=z∨∃ cs,W.heap[k]? = some (.cells cs 121 (0,0))∧z≤k):=fun k hk=>by
      obtain⟨cs,t,fr,hc,ht⟩:=okj.has hk;exact hty k cs t fr hc (h4 t ht).1 (h4 t ht).2
     exact⟨⟨okj.pw.exK hx (fun k hk=>hno k (.inl hk)) (fun k cs fr hc=>hty k cs _ fr hc (by decide) (by decide)),okj.dw.exK hx (fun k hk=>hno k (.inr hk)) (fun k cs fr hc=>hty k cs _ fr hc (by decide) (by decide)) (fun k cs fr hc=>hty k cs _ fr hc (by decide) (by decide)),okj.ok,okj.few,okj.rt⟩,gj,hhj⟩
   · simp only[List.getElem_singleton];exact⟨hp,hg,hh⟩
 · rw[List.length_append,List.length_singleton] at hi hj;rw[List.getElem_append] at hki hkj;split at hki
   · rename_i hi';split at hkj
     · rename_i hj';exact h.apart i j hi' hj' hij k hki hkj
     · simp only[List.getElem_singleton] at hkj;exact hnew i hi' k hkj hki
   · split at hkj
     · rename_i hj';simp only[List.getElem_singleton] at hki;exact hnew j hj' k hki hkj
     · omega
theorem LA (w:World)(x y:Value)(t:TypeId):∀ (j:Nat) (q:Value),[x,y][j]? = some q→(w.alloc (.cells #[x,y] t)).cell? ((⟨w.heap.size,0,none⟩:Addr).add j)=some q:=by
 intro j q hj;rw[Addr.add_lit,Nat.zero_add,World.cell?_alloc_mark]
 simpa using hj
theorem XU (I:ByteArray)(w0 w:World)(z:Nat)(L:List PD)(hw:gW w)(hL:LvAt w0 w z L)(hl:L.length≤2000000):Calls Tryz.prog 69 #[.pointer (some ⟨z,0,none⟩),.string I] w fun e w'=>e=.returned (.bool true)∧∃ L',L'.length≤L.length+1∧LvAt w0 w' z L':=by
 have HP:=hide (V7 I.data.toList w hw);have HR:=hide (fun W=>Z6 I.data.toList W);rw[AZ] at HP HR;have hrt:(eW I.data.toList).2=0→Sx.RlsRt (eW I.data.toList).1:=fun h=>(rZ h).2.rt;obtain⟨⟨rs,er⟩,ho⟩:∃ x,eW I.data.toList=x:=⟨_,rfl⟩
 rw[ho] at HP HR hrt;dsimp only at HP HR hrt;have HRT:=hide hrt;have HLV:=hide hL;have ee:(er != er)=false:=by simp
 clear ho hw hrt;by_cases he:er=0
 · subst he;obtain⟨av,hz,hrow⟩:=hL.box;clear hL;go_enter Tryz.func69,Tryz.ntmps69;go_wp2_with fail
   refine HP.out.mono ?_;rintro e w1 ⟨hB1,h | ⟨-,g,rfl,hg,hpw⟩⟩
   · exact absurd rfl h.1
   have HB1:=hide hB1;have HPW:=hide hpw;clear hB1 hpw HP;go_wp2_with fail
   refine(HR.out _).mono ?_;rintro e w2 ⟨hB2,h | ⟨-,h,rfl,hh,hdw⟩⟩
   · exact absurd rfl h.1
   have HB2:=hide hB2;have HDW:=hide hdw;have hB12:=aN HB1.out hB2;have hzl:=cF hz;obtain⟨p,cap,rfl⟩:=aB hrow;have hz2:=(hB12.block z hzl).trans hz;have c0:w2.cell? ⟨z,0,none⟩=some (.slice p L.length cap):=by simp[World.cell?,hz2]
   have f0:w2.frozen? ⟨z,0,none⟩=false:=by simp[World.frozen?,hz2]
   have hown2:=aD hrow hB12;have HOW:=hide hown2;have hL2:=HLV.out.below hB12;have hpw2:=HPW.out.below hB2;have hrt:=HRT.out (by trivial);have HNW:Hid (∀ j (hj:j<L.length) k,PQ ⟨g,.slice none 0 0,h,.slice none 0 0,rs,[]⟩ k→¬ PQ L[j] k):=hide (fun j hj k hk hk'=>by
    have h1:=(HLV.out.each j hj).1.lt hk';have h2:=HB1.out.size;rcases hk with (e | e) | (e | e)
    · dsimp only at e;omega
    · cases e
    · dsimp only at e;omega
    · cases e)
   have hlow:=HLV.out.low.size;have hg0:w0.heap.size≤g:=by omega
   have hh0:w0.heap.size≤h:=by have:=HB1.out.size;omega
   have hzl2:=cF hz2;have HSG:Hid (∀ W6,(w2.alloc (.cells #[.pointer (some ⟨g,0,none⟩),.pointer (some ⟨h,0,none⟩)] 121)).grownBy W6 (Value.slice p L.length cap).ownBlock→W6.cell? ⟨z,0,none⟩=some (.slice p L.length cap)∧W6.frozen? ⟨z,0,none⟩=false∧W6.heap[z]? = some (.cells #[.slice p L.length cap] 94 (0,0))∧Ex (fun k=>k=z∨∃ cs,w2.heap[k]? = some (.cells cs 121 (0,0))∧z≤k) w2 W6):=hide (fun W6 hgr=>by
    have hBA:Below w2.heap.size w2 (w2.alloc (.cells #[.pointer (some ⟨g,0,none⟩),.pointer (some ⟨h,0,none⟩)] 121)):=(Below.refl _ w2).alloc (Nat.le_refl _) _;have hsz:=hBA.size;have hnz:some z≠(Value.slice p L.length cap).ownBlock:=fun e=>by have:=(HOW.out.lt _ e.symm).1;omega
    have hzz:W6.heap[z]? = some (.cells #[.slice p L.length cap] 94 (0,0)):=by
     rw[hgr.block z (by omega) hnz,hBA.block z hzl2];exact hz2
    refine⟨by simp[World.cell?,hzz],by simp[World.frozen?,hzz],hzz,(hBA.mono (Nat.zero_le _)).grown hgr (Nat.zero_le _) (fun _ _=>Nat.zero_le _),fun k hk hn=>?_⟩;rw[hgr.block k (by omega) (fun e=>?_),hBA.block k hk];obtain⟨cs,hc⟩:=lG HOW.out e.symm;exact hn (.inr ⟨cs,hc,by have:=(HOW.out.lt _ e.symm).1;omega⟩))
   have HFI:Hid (∀ W6 g6 cap6,W6.heap[z]? = some (.cells #[.slice p L.length cap] 94 (0,0))→Ex (fun k=>k=z∨∃ cs,w2.heap[k]? = some (.cells cs 121 (0,0))∧z≤k) w2 W6→W6.ownsRow (z+1) 121 2 (.slice (some ⟨g6,0,none⟩) (L.length+1) cap6) (L.length+1) (CL L++[.pointer (some ⟨g,0,none⟩),.pointer (some ⟨h,0,none⟩)])→LvAt w0 (W6.setCell ⟨z,0,none⟩ (.slice (some ⟨g6,0,none⟩) (L.length+1) cap6)) z (L++[⟨g,.slice none 0 0,h,.slice none 0 0,rs,[]⟩])):=hide (fun W6 g6 cap6 hzz hx6 hown6=>by
    have hx:Ex (fun k=>k=z∨∃ cs,w2.heap[k]? = some (.cells cs 121 (0,0))∧z≤k) w2 (W6.setCell ⟨z,0,none⟩ (.slice (some ⟨g6,0,none⟩) (L.length+1) cap6)):=⟨hx6.base.setCell (p:=⟨z,0,none⟩) (Nat.zero_le _) _,fun k hk hn=>(heap_setCell_other _ _ _ _ (fun e=>hn (.inl e))).trans (hx6.block k hk hn)⟩
    have hty:∀ k cs t fr,w2.heap[k]? = some (.cells cs t fr)→t≠94→t≠121→¬ (k=z∨∃ cs,w2.heap[k]? = some (.cells cs 121 (0,0))∧z≤k):=fun k cs t fr hc h1 h2 hk=>by
     rcases hk with rfl | ⟨cs',hc',-⟩
     · rw[hz2] at hc;simp at hc;exact h1 hc.2.1.symm
     · rw[hc'] at hc;simp at hc;exact h2 hc.2.1.symm
    refine hL2.more hx ⟨_,heap_setCell_same W6 z 0 _ 94 _ hzz,?_⟩ ⟨?_,?_,fun o ho=>absurd ho (by simp),by simp,hrt⟩ hg0 hh0 HNW.out
    · rw[v8];exact ownsRow_setCell_below hown6 (a:=⟨z,0,none⟩) (Nat.lt_succ_self z) _
    · refine hpw2.exK hx (fun k hk=>?_) (fun k cs fr hc=>hty k cs _ fr hc (by decide) (by decide));obtain⟨cs,t,fr,hc,ht⟩:=hpw2.has hk;rcases ht with rfl | rfl <;> exact hty k cs _ fr hc (by decide) (by decide)
    · refine hdw.exK hx (fun k hk=>?_) (fun k cs fr hc=>hty k cs _ fr hc (by decide) (by decide)) (fun k cs fr hc=>hty k cs _ fr hc (by decide) (by decide));obtain⟨cs,t,fr,hc,ht⟩:=hdw.has hk;rcases ht with rfl | rfl <;> exact hty k cs _ fr hc (by decide) (by decide))
   obtain⟨i0,hi,hz0,hz1,hz3⟩:=info_parts Tryz.info121;have hzle:z+1≤w2.heap.size:=hzl2;clear hB2 hdw HR hz hrow hz2 hB12 hown2 hL2 hpw2 hrt HNW hlow hg0 hh0 HLV HPW HDW;go_wp2_with (first | (go_at_call 102;go_must (refine(eY _ _).mono ?_;rintro e w' ⟨rfl,rfl⟩)) | (at_builtin;go_must (refine wpList_append_lies _ rfl _ _ _ rfl (z+1) 121 i0 (.agg #[.pointer none,.pointer none]) 2 16 Tryz.underlying92 hi hz0 hz1 hz3 rfl (by decide) (.slice p L.length cap) L.length (CL L) rfl (HOW.out.alloc _) ⟨_,0,none⟩ 1 1 [.pointer (some ⟨g,0,none⟩),.pointer (some ⟨h,0,none⟩)] rfl rfl (LA _ _ _ _) (by simp[Value.oneCell']) (by omega) (by unfold maxLen;omega) (by omega) (by simp;omega) _ rfl ?_;intro g6 cap6 w6 hown6 hgrow6 hat6 hlt6;obtain⟨s5,s6,s7,s8⟩:=HSG.out _ hgrow6;have HFN:=hide (HFI.out _ _ _ s7 s8 hown6);clear hgrow6 hown6 s7 s8 hat6)))
   go_ret;exact⟨rfl,_,by simp,HFN.out⟩
 · have k1:(er == 0)=false:=by simpa using he
   clear hL;go_enter Tryz.func69,Tryz.ntmps69;go_wp2_with fail
   refine HP.out.mono ?_;rintro e w1 ⟨hB1,hor⟩;obtain rfl:=(hor.resolve_right (fun h=>he h.1)).2;have HB1:=hide hB1;clear hB1 HP;go_wp2_with fail
   refine(HR.out _).mono ?_;rintro e w2 ⟨hB2,hor⟩;obtain rfl:=(hor.resolve_right (fun h=>he h.1)).2;have HB2:=hide (aN HB1.out hB2);clear hB2 HR;go_wp2_with (go_at_call 102;go_must (refine(eY _ _).mono ?_;rintro e w' ⟨rfl,rfl⟩))
   go_ret;exact⟨rfl,L,by omega,HLV.out.below HB2.out⟩
theorem WH (c:Int)(n:Nat)(h1 : -9223372036854775808≤c)(h2:c≤9223372036854775807)(hn:0<n)(hn2:n≤2000000):∃ m,m<n∧∀ w:World,Calls Tryz.prog 72 #[.int .i64 c,.int .i64 n] w fun e w'=>e=.returned (.int .i64 (m:Nat))∧w'=w:=by
 have hn0:¬ (n:Int)=0:=by omega
 have hn1:((n:Int) == 0)=false:=by simpa using hn0
 by_cases hc:c<0
 · have e1:(-(c+1)).tmod (n:Int)=(-(c+1)) % (n:Int):=Int.tmod_eq_emod_of_nonneg (by omega);have h3:=Int.emod_nonneg (-(c+1)) hn0;have h4:=Int.emod_lt_of_pos (-(c+1)) (show(0:Int)<n by omega);obtain⟨m,hm⟩:∃ m:Nat,(-(c+1)) % (n:Int)=m:=⟨_,(Int.toNat_of_nonneg h3).symm⟩
   rw[hm] at e1 h4;refine⟨m,by omega,fun w=>?_⟩;clear hm h3;go_enter Tryz.func72,Tryz.ntmps72;go_wp2;go_ret;exact⟨by first | rfl | (rw[←e1];rfl),rfl⟩
 · have e1:c.tmod (n:Int)=c % (n:Int):=Int.tmod_eq_emod_of_nonneg (by omega);have h3:=Int.emod_nonneg c hn0;have h4:=Int.emod_lt_of_pos c (show(0:Int)<n by omega);obtain⟨m,hm⟩:∃ m:Nat,c % (n:Int)=m:=⟨_,(Int.toNat_of_nonneg h3).symm⟩
   rw[hm] at e1 h4;refine⟨m,by omega,fun w=>?_⟩;clear hm h3;go_enter Tryz.func72,Tryz.ntmps72;go_wp2;go_ret;exact⟨by first | rfl | (rw[←e1];rfl),rfl⟩
theorem XA (n1 n2 n3:Int)(s t:ByteArray)(la:Option Addr)(lc:Nat)(md:Bool)(S:List (List UInt8))(w0 w:World)(z:Nat)(L:List PD)(hw:gW w)(hS:S.length≤1048576)(hsl:Sx.sl S≤1048576)(hrd:RdS w (.slice la S.length lc) S)(hL:LvAt w0 w z L)(hn:L.length≤2000000) :
 Calls Tryz.prog 44 #[.pointer (some ⟨z,0,none⟩),.agg #[.int .i64 6,.int .i64 n1,.int .i64 n2,.int .i64 n3,.string s,.string t,.slice la S.length lc,.bool md]] w fun e w'=>e=.returned (.bool true)∧∃ L',L'.length≤L.length+1∧LvAt w0 w' z L':=by
 have hB0:Below w.heap.size w (w.alloc (.cells #[.int .i64 6,.int .i64 n1,.int .i64 n2,.int .i64 n3,.string s,.string t,.slice la S.length lc,.bool md] 96)):=(Below.refl _ _).alloc (Nat.le_refl _) _;have HIM:=hide (zR S (.int .i64 6) (.int .i64 n1) (.int .i64 n2) (.int .i64 n3) (.string t) s md la lc _ (RdS.below hrd hB0) hS hsl);have HMD:=hide (fun I W (h:Below w.heap.size w W)=>XU I w0 W z L (bA _ _ hw h) (hL.below h) hn);clear hw hrd hL;go_enter Tryz.func44,Tryz.ntmps44;go_wp2_with fail
 refine HIM.out.mono ?_;rintro e w1 ⟨I,rfl,hB1⟩;have HM:=hide (HMD.out I _ (aN hB0 hB1));clear hB1 HIM HMD hB0;go_wp2_with fail
 refine HM.out.mono ?_;rintro e w2 ⟨rfl,hF⟩;have HF:=hide hF;clear hF;go_wp2;go_ret;exact⟨rfl,HF.out⟩
theorem VW (k n1 n2 n3:Int)(hk:7≤k∧k≤11)(h1 : -9223372036854775808≤n1)(h2:n1≤9223372036854775807)(s t:ByteArray)(la:Option Addr)(ln lc:Nat)(md:Bool)(w0 w:World)(z:Nat)(L:List PD)(hw:gW w)(hL:LvAt w0 w z L)(hn:L.length≤2000000) :
 Calls Tryz.prog 44 #[.pointer (some ⟨z,0,none⟩),.agg #[.int .i64 k,.int .i64 n1,.int .i64 n2,.int .i64 n3,.string s,.string t,.slice la ln lc,.bool md]] w fun e w'=>e=.returned (.bool true)∧∃ L',L'.length≤L.length+1∧LvAt w0 w' z L':=by
 obtain⟨W0,hW0⟩:∃ W0,w.alloc (.cells #[.int .i64 k,.int .i64 n1,.int .i64 n2,.int .i64 n3,.string s,.string t,.slice la ln lc,.bool md] 96)=W0:=⟨_,rfl⟩
 obtain⟨-,hB0,hbx⟩:=IT w W0 _ _ _ _ _ _ _ _ hW0;obtain⟨-,c0,c1,c2,c3,c4,c5,c6,c7⟩:=hbx W0 (Below.refl _ _);have hL0:=hL.below hB0;have hlw:=bA _ _ hw hB0;obtain⟨av,hz,hrow⟩:=hL0.box;have hzc:W0.cell? ⟨z,0,none⟩=some av:=by simp[World.cell?,hz]
 have e1:(k == 1)=false:=by simp;omega
 have e2:(k == 2)=false:=by simp;omega
 have e3:(k == 3)=false:=by simp;omega
 have e4:(k == 4)=false:=by simp;omega
 have e5:(k == 5)=false:=by simp;omega
 have e6:(k == 6)=false:=by simp;omega
 have e7:(k<7)=False:=eq_false (by omega);have e8:(11<k)=False:=eq_false (by omega);have HW0:=hide hW0;have hop:W0.heap[w.heap.size]? = some (.cells #[.int .i64 k,.int .i64 n1,.int .i64 n2,.int .i64 n3,.string s,.string t,.slice la ln lc,.bool md] 96 (0,0)):=by rw[←hW0];exact heap_alloc_new _ _
 by_cases h0:L.length=0
 · obtain⟨p,cap,rfl⟩:=aB hrow;have HF:Hid (∃ L',L'.length≤L.length+1∧LvAt w0 W0 z L'):=hide ⟨L,by omega,hL0⟩;rw[h0] at hzc;clear hrow hz hL0 hL hW0 hbx;go_enter Tryz.func44,Tryz.ntmps44;go_upto_region 1 with fail
   rw[HW0.out];go_wp2;go_ret;exact⟨rfl,HF.out⟩
 · obtain⟨b,cap,hav,-,-⟩:=hrow.form (by omega);subst hav;obtain⟨m,hm,hpk⟩:=WH n1 L.length h1 h2 (by omega) hn;have HPK:=hide hpk;obtain⟨g1,g2⟩:=ZK L m hm;have hadd:∀ n,(⟨b,0,none⟩:Addr).add n=⟨b,n,none⟩:=fun n=>by rw[Addr.add_lit,Nat.zero_add]
   have p1:=hrow.cells (g:=b) rfl _ _ g1;have p2:=hrow.cells (g:=b) rfl _ _ g2;rw[hadd] at p1 p2;have HOR:Hid (∀ W,Below W0.heap.size W0 W→Calls Tryz.prog 71 #[.agg #[.pointer (some ⟨L[m].g,0,none⟩),.pointer (some ⟨L[m].h,0,none⟩)],.agg #[.int .i64 k,.int .i64 n1,.int .i64 n2,.int .i64 n3,.string s,.string t,.slice la ln lc,.bool md]] W fun e w'=>e=.returned (.bool true)∧(∃ L',L'.length≤L.length+1∧LvAt w0 w' z L')∧∀ b' k' v',(b'=z∨b'=b∨b'=w.heap.size)→W0.cell? ⟨b',k',none⟩=some v'→w'.cell? ⟨b',k',none⟩=some v'):=hide (fun W hB=>by
    have hLW:=hL0.below hB;refine(EA L[m] k n1 n2 n3 hk s t la ln lc md W (bA _ _ hlw hB) (hLW.each m hm).1).mono ?_;rintro e w' ⟨rfl,hP⟩;obtain⟨L',q1,q2⟩:=hLW.step hm hP;refine⟨rfl,⟨L',by omega,q2⟩,fun b' k' v' hb' hv'=>?_⟩;obtain⟨p',-,-,-,hx,-⟩:=hP;have hok:=(hLW.each m hm).1;have hlt:=World.block_lt_of_cell? W0 ⟨b',k',none⟩ hv';have hv1:=(hB.cell (p:=⟨b',k',none⟩) hlt).trans hv';refine(hx.cell (World.block_lt_of_cell? W ⟨b',k',none⟩ hv1) ?_).trans hv1;rcases hb' with rfl | rfl | rfl
    · exact hok.not ((hB.block _ (cF hz)).trans hz) (by unfold T4;decide)
    · obtain⟨cs,hc⟩:=lG hrow rfl;exact hok.not ((hB.block _ (cF hc)).trans hc) (by unfold T4;decide)
    · exact hok.not ((hB.block _ (cF hop)).trans hop) (by unfold T4;decide))
   obtain⟨gg,hgg⟩:∃ g,L[m].g=g:=⟨_,rfl⟩
   obtain⟨hh,hhh⟩:∃ g,L[m].h=g:=⟨_,rfl⟩
   rw[hgg] at p1 HOR;rw[hhh] at p2 HOR;have j0:((L.length:Int) == 0)=false:=by rw[beq_eq_false_iff_ne];omega
   clear hgg hhh g1 g2 hadd hpk hrow hz hL0 hL hW0 hbx hlw hw;go_enter Tryz.func44,Tryz.ntmps44;go_upto_region 1 with fail
   rw[HW0.out];go_wp2_with fail
   have hS0:=And.intro hzc (And.intro p1 (And.intro p2 (And.intro c0 (And.intro c1 (And.intro c2 (And.intro c3 (And.intro c4 (And.intro c5 (And.intro c6 c7)))))))));have HS:Hid (∀ w':World,(∀ b' k' v',(b'=z∨b'=b∨b'=w.heap.size)→W0.cell? ⟨b',k',none⟩=some v'→w'.cell? ⟨b',k',none⟩=some v')→w'.cell? ⟨z,0,none⟩=some (.slice (some ⟨b,0,none⟩) L.length cap)∧w'.cell? ⟨b,m*2,none⟩=some (.pointer (some ⟨gg,0,none⟩))∧w'.cell? ⟨b,m*2+1,none⟩=some (.pointer (some ⟨hh,0,none⟩))∧w'.cell? ⟨w.heap.size,0,none⟩=some (.int .i64 k)∧w'.cell? ⟨w.heap.size,1,none⟩=some (.int .i64 n1)∧w'.cell? ⟨w.heap.size,2,none⟩=some (.int .i64 n2)∧w'.cell? ⟨w.heap.size,3,none⟩=some (.int .i64 n3)∧w'.cell? ⟨w.heap.size,4,none⟩=some (.string s)∧w'.cell? ⟨w.heap.size,5,none⟩=some (.string t)∧w'.cell? ⟨w.heap.size,6,none⟩=some (.slice la ln lc)∧w'.cell? ⟨w.heap.size,7,none⟩=some (.bool md)):=hide (fun w' h=>⟨h _ _ _ (.inl rfl) hzc,h _ _ _ (.inr (.inl rfl)) p1,h _ _ _ (.inr (.inl rfl)) p2,h _ _ _ (.inr (.inr rfl)) c0,h _ _ _ (.inr (.inr rfl)) c1,h _ _ _ (.inr (.inr rfl)) c2,h _ _ _ (.inr (.inr rfl)) c3,h _ _ _ (.inr (.inr rfl)) c4,h _ _ _ (.inr (.inr rfl)) c5,h _ _ _ (.inr (.inr rfl)) c6,h _ _ _ (.inr (.inr rfl)) c7⟩);clear hzc p1 p2 c0 c1 c2 c3 c4 c5 c6 c7 hop e1 e2 e3 e4 e5 e6 e7 e8 j0 HW0;go_region_held_law (fun w'=>w'.cell? ⟨z,0,none⟩=some (.slice (some ⟨b,0,none⟩) L.length cap)∧w'.cell? ⟨b,m*2,none⟩=some (.pointer (some ⟨gg,0,none⟩))∧w'.cell? ⟨b,m*2+1,none⟩=some (.pointer (some ⟨hh,0,none⟩))∧w'.cell? ⟨w.heap.size,0,none⟩=some (.int .i64 k)∧w'.cell? ⟨w.heap.size,1,none⟩=some (.int .i64 n1)∧w'.cell? ⟨w.heap.size,2,none⟩=some (.int .i64 n2)∧w'.cell? ⟨w.heap.size,3,none⟩=some (.int .i64 n3)∧w'.cell? ⟨w.heap.size,4,none⟩=some (.string s)∧w'.cell? ⟨w.heap.size,5,none⟩=some (.string t)∧w'.cell? ⟨w.heap.size,6,none⟩=some (.slice la ln lc)∧w'.cell? ⟨w.heap.size,7,none⟩=some (.bool md)) (first | exact hS1 | exact hS0 | go_keep) (first | (go_at_call 72;refine(HPK.out _).mono ?_;rintro e v1 ⟨rfl,rfl⟩) | (go_at_call 71;refine(HOR.out _ (by first | exact Below.refl _ _ | exact(Below.refl _ _).drew)).mono ?_;rintro e v2 ⟨rfl,hF,hkk⟩;have hS1:=HS.out _ hkk;have HF:=hide hF;clear hF hkk))
   all_goals (
    go_wp2;go_ret;exact⟨rfl,HF.out⟩)
def S8 (o:OpC):Prop:=-9223372036854775808≤o.n1∧o.n1≤9223372036854775807
theorem XH (o:OpC)(hk:6≤o.k∧o.k≤11)(h64:S8 o)(w0 w:World)(z:Nat)(L:List PD)(hw:gW w)(hl:OpLs w o)(hL:LvAt w0 w z L)(hn:L.length≤2000000) :
 Calls Tryz.prog 44 #[.pointer (some ⟨z,0,none⟩),.agg o.cells.toArray] w fun e w'=>e=.returned (.bool true)∧∃ L',L'.length≤L.length+1∧LvAt w0 w' z L':=by
 obtain⟨k,n1,n2,n3,s,t,la,ln,lc,md⟩:=o;obtain⟨S,h1,h2,h3,h4⟩:=hl;dsimp only at h1 h4 hk;have hcs:(OpC.cells ⟨k,n1,n2,n3,s,t,la,ln,lc,md⟩).toArray=#[.int .i64 k,.int .i64 n1,.int .i64 n2,.int .i64 n3,.string s,.string t,.slice la ln lc,.bool md]:=rfl;rw[hcs];by_cases h6:k=6
 · subst h6;subst h1;exact XA n1 n2 n3 s t la lc md S w0 w z L hw h2 h3 h4 hL hn
 · exact VW k n1 n2 n3 (by omega) h64.1 h64.2 s t la ln lc md w0 w z L hw hL hn
theorem FH (w:World):LvAt w (w.alloc (.cells #[.slice none 0 0] 94)) w.heap.size [] :=
 ⟨(Below.refl _ _).alloc (Nat.le_refl _) _,Nat.le_refl _,⟨_,heap_alloc_new _ _,World.ownsRow_nil _ _ _ _⟩,fun _ hj=>absurd hj (Nat.not_lt_zero _),fun _ _ hi=>absurd hi (Nat.not_lt_zero _)⟩
theorem Y7 (l:List OpC)(b off cap:Nat)(w:World)(hw:gW w)(ho:WS w b off l)(hls:∀ o∈l,OpLs w o∧S8 o)(hl:l.length≤1100000) :
 Calls Tryz.prog 19 #[.slice (some ⟨b,off,none⟩) l.length cap,.int .i64 6,.int .i64 11] w fun e w'=>e=.returned (.bool true)∧Below w.heap.size w w':=by
 have HO:=hide ho;have HW:=hide hw;have HLS:=hide hls;have hbw:=ho.1;have HST:=hide (FH w);clear ho hw hls;go_enter Tryz.func19,Tryz.ntmps19;go_wp2
 go_loopw [8] (fun i wr=>∃ (j:Nat) (L:List PD),i=.int .i64 j∧j≤l.length∧L.length≤j∧LvAt w wr w.heap.size L) (fun i _=>(l.length-intOf i).toNat)
 case atStart=>exact⟨0,[],rfl,by omega,Nat.le_refl _,HST.out⟩
 case round =>
  obtain⟨j,L,rfl,hj,hLl,hL⟩:=hrel;have hB:=hL.low;have HL:=hide hL;clear HST hL;by_cases hlt:j<l.length
  · have hcs:∀ i v,(l[j].cells)[i]? = some v→wr.cell? ⟨b,off+j*8+i,none⟩=some v:=fun i v h=>(hB.cell (p:=⟨b,off+j*8+i,none⟩) hbw).trans (HO.out.2 j hlt i v h);obtain⟨hol,h64⟩:=HLS.out l[j] (List.getElem_mem hlt);obtain⟨o,hoo⟩:∃ o,l[j]=o:=⟨_,rfl⟩
    rw[hoo] at hcs hol h64;clear hoo;have hst:=fun (w':World) (hk:6≤o.k∧o.k≤11) (hb:Below wr.heap.size wr w')=>XH o hk h64 w w' w.heap.size L (bA _ _ HW.out (aN hB hb)) (hol.below (aN hB hb)) (HL.out.below hb) (by omega);have HST:=hide hst;have HKP:=hide (fun w' (hb:Below wr.heap.size wr w')=>HL.out.below hb);clear hst hol h64 HL;obtain⟨k,n1,n2,n3,s,t,la,ln,lc,md⟩:=o;have c0:=hcs 0 _ rfl;have c1:=hcs 1 _ rfl;have c2:=hcs 2 _ rfl;have c3:=hcs 3 _ rfl;have c4:=hcs 4 _ rfl;have c5:=hcs 5 _ rfl;have c6:=hcs 6 _ rfl;have c7:=hcs 7 _ rfl;rw[Nat.add_zero] at c0;clear hcs;have hB2:Below wr.heap.size wr (wr.alloc (.cells #[.int .i64 k,.int .i64 n1,.int .i64 n2,.int .i64 n3,.string s,.string t,.slice la ln lc,.bool md] 96)):=(Below.refl _ _).alloc (Nat.le_refl _) _;by_cases h1:6≤k
    · by_cases h2:k≤11
      · have HC:=hide (HST.out _ ⟨h1,h2⟩ hB2);have hc:(OpC.cells ⟨k,n1,n2,n3,s,t,la,ln,lc,md⟩).toArray=#[.int .i64 k,.int .i64 n1,.int .i64 n2,.int .i64 n3,.string s,.string t,.slice la ln lc,.bool md]:=rfl;rw[hc] at HC;clear hc HST HKP hB2 hB;go_wp2_with fail
        refine HC.out.mono ?_;rintro e w2 ⟨rfl,L',hl',hL'⟩;have HL':=hide hL';clear HC hL';go_wp2;exact⟨⟨j+1,L',by go_num,by omega,by omega,HL'.out⟩,by simp[intOf];omega⟩
      · have HN:=hide (HKP.out _ hB2);clear HST HKP hB2 hB;go_wp2;exact⟨⟨j+1,L,by go_num,by omega,by omega,HN.out⟩,by simp[intOf];omega⟩
    · have HN:=hide (HKP.out _ hB2);clear HST HKP hB2 hB;go_wp2;exact⟨⟨j+1,L,by go_num,by omega,by omega,HN.out⟩,by simp[intOf];omega⟩
  · go_wp2;go_ret;exact⟨rfl,hB⟩
theorem UE (o:OpC)(hk:1≤o.k∧o.k≤11)(h64:S8 o)(w0 w:World)(z:Nat)(L:List PD)(hw:gW w)(hl:OpLs w o)(hL:LvAt w0 w z L)(hn:L.length≤2000000) :
 Calls Tryz.prog 44 #[.pointer (some ⟨z,0,none⟩),.agg o.cells.toArray] w fun e w'=>e=.returned (.bool true)∧∃ L',L'.length≤L.length+1∧LvAt w0 w' z L':=by
 have hbk:∀ (e:Ending) (w':World),(e=.returned (.bool true)∧Below w.heap.size w w')→(e=.returned (.bool true)∧∃ L',L'.length≤L.length+1∧LvAt w0 w' z L'):=fun e w' h=>⟨h.1,L,by omega,hL.below h.2⟩;by_cases h6:6≤o.k
 · exact XH o ⟨h6,hk.2⟩ h64 w0 w z L hw hl hL hn
 by_cases h4:4≤o.k
 · exact(WF (.pointer (some ⟨z,0,none⟩)) o (by omega) w hw hl).mono hbk
 by_cases h3:o.k=3
 · exact(OZ (.pointer (some ⟨z,0,none⟩)) o h3 w hw hl).mono hbk
 obtain⟨k,n1,n2,n3,s,t,la,ln,lc,md⟩:=o;dsimp only at hk h6 h4 h3;exact(ZD xI xE bA k (by omega) (.pointer (some ⟨z,0,none⟩)) (.int .i64 n1) (.int .i64 n2) (.int .i64 n3) (.slice la ln lc) (.bool md) s t w hw).mono hbk
theorem SS (l:List OpC)(b off cap:Nat)(w:World)(hw:gW w)(ho:WS w b off l)(hls:∀ o∈l,OpLs w o∧S8 o)(hl:l.length≤1100000) :
 Calls Tryz.prog 19 #[.slice (some ⟨b,off,none⟩) l.length cap,.int .i64 1,.int .i64 11] w fun e w'=>e=.returned (.bool true)∧Below w.heap.size w w':=by
 have HO:=hide ho;have HW:=hide hw;have HLS:=hide hls;have hbw:=ho.1;have HST:=hide (FH w);clear ho hw hls;go_enter Tryz.func19,Tryz.ntmps19;go_wp2
 go_loopw [8] (fun i wr=>∃ (j:Nat) (L:List PD),i=.int .i64 j∧j≤l.length∧L.length≤j∧LvAt w wr w.heap.size L) (fun i _=>(l.length-intOf i).toNat)
 case atStart=>exact⟨0,[],rfl,by omega,Nat.le_refl _,HST.out⟩
 case round =>
  obtain⟨j,L,rfl,hj,hLl,hL⟩:=hrel;have hB:=hL.low;have HL:=hide hL;clear HST hL;by_cases hlt:j<l.length
  · have hcs:∀ i v,(l[j].cells)[i]? = some v→wr.cell? ⟨b,off+j*8+i,none⟩=some v:=fun i v h=>(hB.cell (p:=⟨b,off+j*8+i,none⟩) hbw).trans (HO.out.2 j hlt i v h);obtain⟨hol,h64⟩:=HLS.out l[j] (List.getElem_mem hlt);obtain⟨o,hoo⟩:∃ o,l[j]=o:=⟨_,rfl⟩
    rw[hoo] at hcs hol h64;clear hoo;have hst:=fun (w':World) (hk:1≤o.k∧o.k≤11) (hb:Below wr.heap.size wr w')=>UE o hk h64 w w' w.heap.size L (bA _ _ HW.out (aN hB hb)) (hol.below (aN hB hb)) (HL.out.below hb) (by omega);have HST:=hide hst;have HKP:=hide (fun w' (hb:Below wr.heap.size wr w')=>HL.out.below hb);clear hst hol h64 HL;obtain⟨k,n1,n2,n3,s,t,la,ln,lc,md⟩:=o;have c0:=hcs 0 _ rfl;have c1:=hcs 1 _ rfl;have c2:=hcs 2 _ rfl;have c3:=hcs 3 _ rfl;have c4:=hcs 4 _ rfl;have c5:=hcs 5 _ rfl;have c6:=hcs 6 _ rfl;have c7:=hcs 7 _ rfl;rw[Nat.add_zero] at c0;clear hcs;have hB2:Below wr.heap.size wr (wr.alloc (.cells #[.int .i64 k,.int .i64 n1,.int .i64 n2,.int .i64 n3,.string s,.string t,.slice la ln lc,.bool md] 96)):=(Below.refl _ _).alloc (Nat.le_refl _) _;by_cases h1:1≤k
    · by_cases h2:k≤11
      · have HC:=hide (HST.out _ ⟨h1,h2⟩ hB2);have hc:(OpC.cells ⟨k,n1,n2,n3,s,t,la,ln,lc,md⟩).toArray=#[.int .i64 k,.int .i64 n1,.int .i64 n2,.int .i64 n3,.string s,.string t,.slice la ln lc,.bool md]:=rfl;rw[hc] at HC;clear hc HST HKP hB2 hB;go_wp2_with fail
        refine HC.out.mono ?_;rintro e w2 ⟨rfl,L',hl',hL'⟩;have HL':=hide hL';clear HC hL';go_wp2;exact⟨⟨j+1,L',by go_num,by omega,by omega,HL'.out⟩,by simp[intOf];omega⟩
      · have HN:=hide (HKP.out _ hB2);clear HST HKP hB2 hB;go_wp2;exact⟨⟨j+1,L,by go_num,by omega,by omega,HN.out⟩,by simp[intOf];omega⟩
    · have HN:=hide (HKP.out _ hB2);clear HST HKP hB2 hB;go_wp2;exact⟨⟨j+1,L,by go_num,by omega,by omega,HN.out⟩,by simp[intOf];omega⟩
  · go_wp2;go_ret;exact⟨rfl,hB⟩
theorem GU (a:Option Addr)(cap:Nat)(w:World):Calls Tryz.prog 19 #[.slice a 0 cap,.int .i64 1,.int .i64 11] w fun e w'=>e=.returned (.bool true)∧Below w.heap.size w w':=by
 go_enter Tryz.func19,Tryz.ntmps19;go_wp2
 go_loopw [8] (fun i wr=>i=.int .i64 0∧Below w.heap.size w wr) (fun _ _=>0)
 case atStart=>exact⟨rfl,(Below.refl _ _).alloc (Nat.le_refl _) _⟩
 case round =>
  obtain⟨rfl,hB⟩:=hrel;go_wp2;go_ret;exact⟨rfl,hB⟩
end Go.Proofs.YtgohllfpceeboabGreatDoor
