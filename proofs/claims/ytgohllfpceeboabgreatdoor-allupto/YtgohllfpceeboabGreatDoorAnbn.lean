import Derived.Test.YtgohllfpceeboabGreatDoorAnbm
set_option maxRecDepth 100000
set_option maxHeartbeats 4000000
namespace Go.Proofs.YtgohllfpceeboabGreatDoor
theorem Tryz.info228 : (Tryz.prog.info? 228).map (fun i => (i.zero, i.size, i.bytes)) = some (some (.agg #[.bool false, .string ⟨#[]⟩, .slice none 0 0, .int .i64 0, .string ⟨#[]⟩]), 5, 72) := by kernel_rfl
open Go.RowKit
def IK (x:PK):Value:=.agg #[.bool (decide (x.2.1=none)),.string ⟨(bC x.2).toArray⟩,x.1,.int .i64 (bT x.2),.string ⟨x.2.2.toArray⟩]
theorem HoAt.shape {W:World}{x:PK}(h:HoAt W x):∃ p n c,x.1=.slice p n c:=by
 obtain⟨v,o,d⟩:=x;cases o with
 | none=>exact⟨_,_,_,h⟩
 | some t =>
   obtain⟨p,c,e⟩:=aB h;exact⟨p,_,c,e⟩
def C5 (W:World)(b:Nat)(o:Bool)(s:ByteArray)(hp:Option Addr)(hn hc:Nat)(p:Int)(d:ByteArray):Prop:=W.cell? ⟨b,0,none⟩=some (.bool o)∧W.cell? ⟨b,1,none⟩=some (.string s)∧W.cell? ⟨b,2,none⟩=some (.slice hp hn hc)∧W.cell? ⟨b,3,none⟩=some (.int .i64 p)∧W.cell? ⟨b,4,none⟩=some (.string d)
theorem JQ (w:World)(o:Bool)(s:ByteArray)(hp:Option Addr)(hn hc:Nat)(p:Int)(d:ByteArray):C5 (w.alloc (.cells #[.bool o,.string s,.slice hp hn hc,.int .i64 p,.string d] 228)) w.heap.size o s hp hn hc p d:=by
 have hm:=World.cell?_alloc_mark w #[.bool o,.string s,.slice hp hn hc,.int .i64 p,.string d] 228 (0,0);exact⟨(hm 0).trans rfl,(hm 1).trans rfl,(hm 2).trans rfl,(hm 3).trans rfl,(hm 4).trans rfl⟩
theorem C5.below {W W':World}{b N:Nat}{o:Bool}{s d:ByteArray}{hp:Option Addr}{hn hc:Nat}{p:Int}(h:C5 W b o s hp hn hc p d)(hb:Below N W W')(hN:b<N):C5 W' b o s hp hn hc p d:=by
 obtain⟨h0,h1,h2,h3,h4⟩:=h;exact⟨(hb.cell (p:=⟨b,0,none⟩) hN).trans h0,(hb.cell (p:=⟨b,1,none⟩) hN).trans h1,(hb.cell (p:=⟨b,2,none⟩) hN).trans h2,(hb.cell (p:=⟨b,3,none⟩) hN).trans h3,(hb.cell (p:=⟨b,4,none⟩) hN).trans h4⟩
theorem JG (w:World)(a x y z u:Value)(t:TypeId):∀ (j:Nat) (q:Value),[a,x,y,z,u][j]? = some q→(w.alloc (.cells #[a,x,y,z,u] t)).cell? ((⟨w.heap.size,0,none⟩:Addr).add j)=some q:=by
 intro j q hj;rw[Addr.add_lit,Nat.zero_add,World.cell?_alloc_mark]
 simpa using hj
theorem b8 (g:Nat)(x:PK)(dv:Value)(rs:List Sx.Rl)(os:List cJ)(w:World)(hW:DwAt w g dv rs os)(hx:HoAt w x)(hl:os.length<20):Calls Tryz.prog 157 #[.pointer (some ⟨g,0,none⟩),IK x] w fun e w'=>e=.returned (.tuple #[.int .i64 os.length,.int .i64 0])∧DPost w g dv rs (os++[x.2]) w':=by
 obtain⟨rv,q,d,hq,rfl,h4,h2,h5,h6⟩:=hW;obtain⟨hp,hn,hc,hv⟩:=hx.shape;rw[List.length_map] at hl ⊢;obtain⟨i0,hi,hz0,hz1,hz2⟩:=info_parts Tryz.info228;have hg:g<w.heap.size:=by
  by_cases hlt:g<w.heap.size
  · exact hlt
  · rw[Array.getElem?_eq_none (by omega)] at h4;cases h4
 obtain⟨p,cap,rfl⟩:=aB h5;have c0:w.cell? ⟨g,0,none⟩=some rv:=by simp[World.cell?,h4]
 have c1:w.cell? ⟨g,1,none⟩=some (.slice p d.length cap):=by simp[World.cell?,h4]
 have f1:w.frozen? ⟨g,1,none⟩=false:=by simp[World.frozen?,h4]
 have k1:((d.length:Int) == 20)=false:=by simp;omega
 have happ:jN (d++[x])=jN d++LX x:=by rw[WC];simp[jN]
 have HAP:=hide happ;have HW5:=hide h5;have HP:=hide h2;have HTY:=hide (wU h4 h5);have H4:=hide h4;have H6:=hide (And.intro h6 hx);have HQ:=hide hq;unfold LX at HAP;unfold IK;obtain⟨S,hS⟩:∃ X:ByteArray,⟨(bC x.2).toArray⟩=X:=⟨_,rfl⟩
 obtain⟨D,hD⟩:∃ X:ByteArray,⟨x.2.2.toArray⟩=X:=⟨_,rfl⟩
 obtain⟨P,hP⟩:∃ n,bT x.2=n:=⟨_,rfl⟩
 obtain⟨O,hO⟩:∃ n,decide (x.2.1=none)=n:=⟨_,rfl⟩
 rw[hS,hD,hP,hv,hO] at HAP ⊢;clear happ h5 h2 h4 hS hD hP hv hO hx h6 hq;go_enter Tryz.func157,Tryz.ntmps157;go_wp2_with fail
 have hA4:=JQ w O S hp hn hc P D;have hfA:(w.alloc (.cells #[.bool O,.string S,.slice hp hn hc,.int .i64 P,.string D] 228)).cell? ⟨g,1,none⟩=some (.slice p d.length cap):=by rw[((Below.refl _ w).alloc (Nat.le_refl _) _).cell (p:=⟨g,1,none⟩) hg];exact c1
 have hfF:(w.alloc (.cells #[.bool O,.string S,.slice hp hn hc,.int .i64 P,.string D] 228)).frozen? ⟨g,1,none⟩=false:=by rw[((Below.refl _ w).alloc (Nat.le_refl _) _).frozen (p:=⟨g,1,none⟩) hg];exact f1
 have hownA:=HW5.out.alloc (.cells #[.bool O,.string S,.slice hp hn hc,.int .i64 P,.string D] 228);have hBA:Below w.heap.size w (w.alloc (.cells #[.bool O,.string S,.slice hp hn hc,.int .i64 P,.string D] 228)):=(Below.refl _ w).alloc (Nat.le_refl _) _;have hzA:w.heap.size<(w.alloc (.cells #[.bool O,.string S,.slice hp hn hc,.int .i64 P,.string D] 228)).heap.size:=by rw[World.size_alloc];omega
 obtain⟨VA,hVA⟩:∃ V,w.alloc (.cells #[.bool O,.string S,.slice hp hn hc,.int .i64 P,.string D] 228)=V:=⟨_,rfl⟩
 rw[hVA] at hA4 hfA hfF hownA hBA hzA ⊢;unfold C5 at hA4;have hnb:some g≠(Value.slice p d.length cap).ownBlock:=fun e=>by have:=(HW5.out.lt _ e.symm).1;omega
 have hnw:some w.heap.size≠(Value.slice p d.length cap).ownBlock:=fun e=>by have:=(HW5.out.lt _ e.symm).2;omega
 have hS0:=And.intro hA4 (And.intro hfA hfF);have HOWN:=hide hownA;have HBA:=hide hBA;have HSG:Hid (∀ W6,(VA.alloc (.cells #[.bool O,.string S,.slice hp hn hc,.int .i64 P,.string D] 228)).drew.grownBy W6 (Value.slice p d.length cap).ownBlock→(C5 W6 w.heap.size O S hp hn hc P D∧W6.cell? ⟨g,1,none⟩=some (.slice p d.length cap)∧W6.frozen? ⟨g,1,none⟩=false)∧W6.heap[g]? = some (.cells #[rv,.slice p d.length cap] 225)∧Ex (PE g (Value.slice p d.length cap)) w W6):=hide (fun W6 hgr=>by
  have hB2:Below VA.heap.size VA (VA.alloc (.cells #[.bool O,.string S,.slice hp hn hc,.int .i64 P,.string D] 228)).drew:=((Below.refl _ VA).alloc (Nat.le_refl _) _).drew;have hz2:VA.heap.size<(VA.alloc (.cells #[.bool O,.string S,.slice hp hn hc,.int .i64 P,.string D] 228)).drew.heap.size:=by show VA.heap.size<(VA.alloc _).heap.size;rw[World.size_alloc];omega
  obtain⟨⟨q0,q1,q2,q3,q4⟩,q5,q6⟩:=hS0;have far:∀ (b k:Nat) (v:Value),b<VA.heap.size→some b≠(Value.slice p d.length cap).ownBlock→VA.cell? ⟨b,k,none⟩=some v→W6.cell? ⟨b,k,none⟩=some v:=fun b k v h1 h2 h3=>(hgr.cell_far ⟨b,k,none⟩ (by show b<_;omega) h2).trans ((hB2.cell (p:=⟨b,k,none⟩) h1).trans h3);have hgA:g<VA.heap.size:=by omega
  refine⟨⟨⟨far _ _ _ hzA hnw q0,far _ _ _ hzA hnw q1,far _ _ _ hzA hnw q2,far _ _ _ hzA hnw q3,far _ _ _ hzA hnw q4⟩,far _ _ _ hgA hnb q5,(hgr.frozen_far ⟨g,1,none⟩ (by show g<_;omega) hnb).trans ((hB2.frozen (p:=⟨g,1,none⟩) hgA).trans q6)⟩,?_,?_⟩
  · rw[hgr.block g (by omega) hnb,hB2.block g hgA,HBA.out.block g hg];exact H4.out
  · exact⟨((HBA.out.mono (Nat.zero_le _)).trans (hB2.mono (Nat.zero_le _))).grown hgr (Nat.zero_le _) (fun _ _=>Nat.zero_le _),fun k hk hn=>by rw[hgr.block k (by omega) (fun e=>hn (.inr e.symm)),hB2.block k (by omega),HBA.out.block k hk]⟩)
 have hown2:(VA.alloc (.cells #[.bool O,.string S,.slice hp hn hc,.int .i64 P,.string D] 228)).drew.ownsRow (g+1) 228 5 (.slice p d.length cap) d.length (jN d):=HOWN.out.alloc (.cells #[.bool O,.string S,.slice hp hn hc,.int .i64 P,.string D] 228);have hc2:∀ (j:Nat) (q:Value),[.bool O,.string S,.slice hp hn hc,.int .i64 P,.string D][j]? = some q→(VA.alloc (.cells #[.bool O,.string S,.slice hp hn hc,.int .i64 P,.string D] 228)).drew.cell? ((⟨VA.heap.size,0,none⟩:Addr).add j)=some q:=JG VA _ _ _ _ _ _;have hz9:g+1≤(VA.alloc (.cells #[.bool O,.string S,.slice hp hn hc,.int .i64 P,.string D] 228)).drew.heap.size:=by show g+1≤(VA.alloc _).heap.size;rw[World.size_alloc];omega
 have hS1:C5 (VA.alloc (.cells #[.bool O,.string S,.slice hp hn hc,.int .i64 P,.string D] 228)).drew w.heap.size O S hp hn hc P D∧(VA.alloc (.cells #[.bool O,.string S,.slice hp hn hc,.int .i64 P,.string D] 228)).drew.cell? ⟨g,1,none⟩=some (.slice p d.length cap)∧(VA.alloc (.cells #[.bool O,.string S,.slice hp hn hc,.int .i64 P,.string D] 228)).drew.frozen? ⟨g,1,none⟩=false:=by
  have hB2:Below VA.heap.size VA (VA.alloc (.cells #[.bool O,.string S,.slice hp hn hc,.int .i64 P,.string D] 228)).drew:=((Below.refl _ VA).alloc (Nat.le_refl _) _).drew;obtain⟨⟨q0,q1,q2,q3,q4⟩,q5,q6⟩:=hS0;have hgA:g<VA.heap.size:=by omega
  exact⟨⟨(hB2.cell (p:=⟨w.heap.size,0,none⟩) hzA).trans q0,(hB2.cell (p:=⟨w.heap.size,1,none⟩) hzA).trans q1,(hB2.cell (p:=⟨w.heap.size,2,none⟩) hzA).trans q2,(hB2.cell (p:=⟨w.heap.size,3,none⟩) hzA).trans q3,(hB2.cell (p:=⟨w.heap.size,4,none⟩) hzA).trans q4⟩,(hB2.cell (p:=⟨g,1,none⟩) hgA).trans q5,(hB2.frozen (p:=⟨g,1,none⟩) hgA).trans q6⟩
 have HO2:=hide hown2;have HC2:=hide hc2;have HS1:=hide hS1;clear hVA hA4 hfA hfF hownA hBA c0 c1 f1 hown2 hc2 hS1;obtain⟨⟨q0,q1,q2,q3,q4⟩,q5,q6⟩:=hS0;obtain⟨⟨r0,r1,r2,r3,r4⟩,r5,r6⟩:=HS1.out;go_region_law ((refine step_append_lies _ rfl _ _ _ rfl (g+1) 228 i0 (.agg #[.bool false,.string ⟨#[]⟩,.slice none 0 0,.int .i64 0,.string ⟨#[]⟩]) 5 72 Tryz.underlying223 hi hz0 hz1 hz2 rfl (by decide) (.slice p d.length cap) d.length (jN d) rfl HO2.out ⟨VA.heap.size,0,none⟩ 1 1 [.bool O,.string S,.slice hp hn hc,.int .i64 P,.string D] rfl rfl HC2.out (by simp[Value.oneCell']) (by omega) (by unfold maxLen;omega) (by omega) hz9 _ rfl ?_;intro g6 cap6 w6 hown6 hgrow6 hat6 hlt6;obtain⟨⟨-,s5,s6⟩,s7,s8⟩:=HSG.out _ hgrow6))
 all_goals (
  have hsm:=heap_setCell_same w6 g 1 _ 225 (.slice (some ⟨g6,0,none⟩) (d.length+1) cap6) s7;have hcl:(w6.setCell ⟨g,1,none⟩ (.slice (some ⟨g6,0,none⟩) (d.length+1) cap6)).cell? ⟨g,1,none⟩=some (.slice (some ⟨g6,0,none⟩) (d.length+1) cap6):=World.cell?_setCell_same _ _ _ s5;have hxx:Ex (PE g (Value.slice p d.length cap)) w (w6.setCell ⟨g,1,none⟩ (.slice (some ⟨g6,0,none⟩) (d.length+1) cap6)):=⟨s8.base.setCell (p:=⟨g,1,none⟩) (Nat.zero_le _) _,fun k hk hn=>(heap_setCell_other _ _ _ _ (fun e=>hn (.inl e))).trans (s8.block k hk hn)⟩
  have hpp:DPost w g (Value.slice p d.length cap) rs (d.map (·.2)++[x.2]) (w6.setCell ⟨g,1,none⟩ (.slice (some ⟨g6,0,none⟩) (d.length+1) cap6)):=by
   refine⟨.slice (some ⟨g6,0,none⟩) (d.length+1) cap6,⟨rv,q,d++[x],HQ.out,by simp,hsm,⟨HTY.out.own hxx HP.out.row (by decide) (by decide),fun y hy=>HTY.out.own hxx (HP.out.hosts y hy) (by decide) (by decide)⟩,?_,fun y hy=>?_⟩,hxx,fun k hk=>?_⟩
   · have hx:=ownsRow_setCell_below hown6 (a:=⟨g,1,none⟩) (Nat.lt_succ_self g) (.slice (some ⟨g6,0,none⟩) (d.length+1) cap6);rw[HAP.out,List.length_append,List.length_singleton];exact hx
   · have hy':HoAt w y:=by
      rcases List.mem_append.1 hy with h | h
      · exact H6.out.1 y h
      · rw[List.mem_singleton.1 h];exact H6.out.2
     exact hy'.own (fun _ _ _ ho=>HTY.out.own hxx ho (by decide) (by decide))
   · have hk':g6=k:=by simpa[Value.ownBlock] using hk
     subst hk';rcases hat6 with h | h
     · exact .inl h
     · right;rw[h];show w.heap.size≤(VA.alloc _).heap.size;rw[World.size_alloc];omega
  obtain⟨W7,hW7⟩:∃ W,w6.setCell ⟨g,1,none⟩ (.slice (some ⟨g6,0,none⟩) (d.length+1) cap6)=W:=⟨_,rfl⟩
  rw[hW7] at hcl hpp ⊢;have HPP:=hide hpp;clear hsm hpp hxx hW7 s5 s6 s7 s8 hown6 hgrow6 hat6 hlt6 q0 q1 q2 q3 q4 q5 q6 r0 r1 r2 r3 r4 r5 r6 HSG HO2 HC2 HS1 HOWN HBA hz9 hzA;go_wp2;go_ret2;exact⟨rfl,HPP.out⟩)
theorem R7 (g:Nat)(x:PK)(dv:Value)(rs:List Sx.Rl)(os:List cJ)(w:World)(hW:DwAt w g dv rs os)(hx:HoAt w x)(hl:os.length=20):Calls Tryz.prog 157 #[.pointer (some ⟨g,0,none⟩),IK x] w fun e w'=>e=.returned (.tuple #[.int .i64 0,.int .i64 5])∧Below w.heap.size w w':=by
 obtain⟨rv,q,d,hq,rfl,h4,h2,h5,h6⟩:=hW;obtain⟨hp,hn,hc,hv⟩:=hx.shape;rw[List.length_map] at hl;have hg:=cF h4;obtain⟨p,cap,rfl⟩:=aB h5;have c1:w.cell? ⟨g,1,none⟩=some (.slice p d.length cap):=by simp[World.cell?,h4]
 rw[hl] at c1;unfold IK;rw[hv];obtain⟨S,hS⟩:∃ X:ByteArray,⟨(bC x.2).toArray⟩=X:=⟨_,rfl⟩
 obtain⟨D,hD⟩:∃ X:ByteArray,⟨x.2.2.toArray⟩=X:=⟨_,rfl⟩
 obtain⟨P,hP⟩:∃ n,bT x.2=n:=⟨_,rfl⟩
 obtain⟨O,hO⟩:∃ n,decide (x.2.1=none)=n:=⟨_,rfl⟩
 rw[hS,hD,hP,hO];clear h4 h5 hS hD hP hO hv hx h6 h2 hq;go_enter Tryz.func157,Tryz.ntmps157;go_wp2;go_ret2;exact⟨rfl,(Below.refl _ w).alloc (Nat.le_refl _) _⟩
theorem I2 (g:Nat)(x:PK)(dv:Value)(rs:List Sx.Rl)(os:List cJ)(w:World)(hW:DwAt w g dv rs os)(hx:HoAt w x)(hl:os.length≤20):Calls Tryz.prog 157 #[.pointer (some ⟨g,0,none⟩),IK x] w fun e w'=>e=.returned (.tuple #[.int .i64 (fZ os x.2).2.1,.int .i64 (fZ os x.2).2.2])∧DPost w g dv rs (fZ os x.2).1 w':=by
 unfold fZ;by_cases h:os.length=20
 · rw[if_pos h];refine(R7 g x dv rs os w hW hx h).mono ?_;rintro e w' ⟨rfl,h1⟩;exact⟨rfl,DPost.same hW h1⟩
 · rw[if_neg h];exact b8 g x dv rs os w hW hx (by omega)
theorem j7 (g:Nat)(dv:Value)(rs:List Sx.Rl)(os:List cJ)(w:World)(hW:DwAt w g dv rs os)(hl:os.length≤20):Calls Tryz.prog 109 #[.pointer (some ⟨g,0,none⟩)] w fun e w'=>e=.returned (.tuple #[.int .i64 (tG os).2.1,.int .i64 (tG os).2.2])∧DPost w g dv rs (tG os).1 w':=by
 unfold tG;have HA:=hide (fun W (hB:Below w.heap.size w W)=>I2 g (.slice none 0 0,none,[]) dv rs os W (hW.below hB) rfl hl);have hA:IK (.slice none 0 0,none,[])=.agg #[.bool true,.string ⟨#[]⟩,.slice none 0 0,.int .i64 0,.string ⟨#[]⟩]:=rfl;rw[hA] at HA;dsimp only at HA;obtain⟨⟨os',a,b⟩,hJ⟩:∃ x,fZ os (none,[])=x:=⟨_,rfl⟩
 rw[hJ] at HA ⊢;dsimp only at HA ⊢;have HBK:=hide (fun W W' (hB:Below w.heap.size w W) (h:DPost W g dv rs os' W')=>DPost.back hB h);clear hW hA hJ;go_enter Tryz.func109,Tryz.ntmps109;go_wp2_with fail
 refine(HA.out _ (by first | exact Below.refl _ _ | exact(((Below.refl _ w).alloc (Nat.le_refl _) _)) | exact(((Below.refl _ w).alloc (Nat.le_refl _) _).setCell (p:=⟨w.heap.size,0,none⟩) (Nat.le_refl _) _))).mono ?_;rintro e w1 ⟨rfl,hS⟩;have HS:=hide (HBK.out _ _ (by first | exact Below.refl _ _ | exact(((Below.refl _ w).alloc (Nat.le_refl _) _)) | exact(((Below.refl _ w).alloc (Nat.le_refl _) _).setCell (p:=⟨w.heap.size,0,none⟩) (Nat.le_refl _) _)) hS);clear hS;go_wp2;go_ret2;exact⟨rfl,HS.out⟩
end Go.Proofs.YtgohllfpceeboabGreatDoor
