import Derived.Test.YtgohllfpceeboabGreatDoorAnbr
import Derived.Test.YtgohllfpceeboabGreatDoorAnbk
import Derived.Sort.OwnSorted
set_option maxRecDepth 100000
set_option maxHeartbeats 2000000
namespace Go.Proofs.YtgohllfpceeboabGreatDoor
open Go.RowKit
theorem PI (rs:List Sx.Rl)(s:UInt8)(k:Nat)(h:k<rs.length):dP (rs.take (k+1)) s=dP (rs.take k) s++if rs[k].2.2=s then [Sx.bG rs[k]] else []:=by
 unfold dP;rw[List.take_succ_eq_append_getElem h,List.filter_append,List.map_append];congr 1;by_cases e:rs[k].2.2=s
 · rw[if_pos e];simp[e]
 · rw[if_neg e];simp[e]
theorem u7 (rs:List Sx.Rl)(s:UInt8):(dP rs s).length≤rs.length:=by
 unfold dP;rw[List.length_map];exact List.length_filter_le _ _
theorem ZU (rs:List Sx.Rl)(sec:UInt8)(v:Value)(w:World)(hv:PrAt w v rs)(hok:∀ r∈rs,Sx.lM r.2.1∧(Sx.aA r.1).length≤1000)(hN:rs.length≤1000) :
 Calls Tryz.prog 117 #[v,.int .u8 sec.toNat] w fun e w'=>∃ lv,e=.returned lv∧w'.ownsRow w.heap.size 9 1 lv (dP rs sec).length (bB (dP rs sec))∧Below w.heap.size w w':=by
 obtain⟨i0,hi,hz0,hz1,hz2⟩:=info_parts Tryz.info9;obtain⟨p,cap,rfl,hrd⟩:=hv;have HRD:=hide hrd;have HOK:=hide hok;clear hrd hok;go_enter Tryz.func117,Tryz.ntmps117;go_wp2_with fail
 go_loopw [5,10] (fun kv iv wr=>∃ (k:Nat) (L:List (List UInt8)),iv=.int .i64 k∧k≤rs.length∧dP (rs.take k) sec=L∧L.length≤k∧wr.ownsRow w.heap.size 9 1 kv L.length (bB L)∧Below w.heap.size w wr) (fun _ iv _=>(rs.length-intOf iv).toNat)
 case atStart=>exact⟨0,[],rfl,by omega,rfl,by simp,World.ownsRow_nil _ _ _ _,Below.refl _ _⟩
 case round =>
  obtain⟨k,L,rfl,hk,hL,hLk,hown,hB⟩:=hrel;have hsz:=hB.size;obtain⟨kp,kc,rfl⟩:=aB hown;by_cases hlt:k<rs.length
  · obtain⟨b,rfl,hb,c1,c2,c3,c4⟩:=HRD.out k hlt;have d1:=(hB.cell (p:=⟨b,k*4,none⟩) hb).trans c1;have d2:=(hB.cell (p:=⟨b,k*4+1,none⟩) hb).trans c2;have d3:=(hB.cell (p:=⟨b,k*4+2,none⟩) hb).trans c3;have d4:=(hB.cell (p:=⟨b,k*4+3,none⟩) hb).trans c4;have hrl:=HOK.out rs[k] (List.getElem_mem hlt);have hst:=PI rs sec k hlt;rw[hL] at hst;have hky:=fun w=>V3 rs[k] w hrl.1 (by omega);obtain⟨⟨qh,qk,qs⟩,hq⟩:∃ q,rs[k]=q:=⟨_,rfl⟩
    rw[hq] at d1 d2 d3 d4 hst hky;unfold iL at hky;dsimp only at d1 d2 d3 d4 hst hky;obtain⟨D,hD⟩:∃ D:ByteArray,⟨(Sx.aA qh).toArray⟩=D:=⟨_,rfl⟩
    obtain⟨N,hN2⟩:∃ N,qh.length=N:=⟨_,rfl⟩
    rw[hD] at d2 hky;rw[hN2] at d3 hky;obtain⟨LN,hLN⟩:∃ LN,Sx.bG (qh,qk,qs)=LN:=⟨_,rfl⟩
    rw[hLN] at hst hky;obtain⟨X,hX⟩:∃ X:ByteArray,⟨LN.toArray⟩=X:=⟨_,rfl⟩
    rw[hX] at hky;have HST:=hide hst;have HKY:=hide hky;have HX:Hid (bB (L++[LN])=bB L++[.string X]):=hide (by rw[gB];simp[bB,hX]);have HA:Hid (∀ o,Below w.heap.size w (wr.alloc o)):=hide (fun o=>hB.alloc hsz o);clear c1 c2 c3 c4 hky hD hN2 hX hLN hq hrl hst hL;by_cases hs:qs=sec
    · subst hs;go_wp2_with fail
      refine(HKY.out _).mono ?_;rintro e w2 ⟨rfl,hB2⟩;have hBa:Below wr.heap.size wr w2:=((Below.refl _ wr).alloc (Nat.le_refl _) _).trans (hB2.mono (by rw[World.size_alloc];exact Nat.le_succ _));have hown2:=aD hown hBa;have hB3:=hB.trans (hBa.mono hsz);have hsz3:=hB3.size;clear hB2 hBa hown hB;go_wp2_with (at_builtin;go_must (refine wpList_append_lies _ rfl _ _ _ rfl w.heap.size 9 i0 (.string ⟨#[]⟩) 1 16 Tryz.underlying51 hi hz0 hz1 hz2 rfl (by decide) _ _ _ rfl (hown2.alloc _) ⟨_,0,none⟩ 1 1 [.string X] rfl rfl (cell_one_new _ _ _) (by simp[Value.oneCell']) (by omega) (by unfold maxLen;omega) (by omega) (by simp;omega) _ rfl ?_;intro g6 cap6 w6 hown6 hgrow6 hat6 hlt6))
      exact⟨⟨k+1,L++[LN],by go_num,by omega,by rw[HST.out];simp,by simp;omega,by rw[HX.out,List.length_append,List.length_singleton];exact hown6,aH hB3 hsz3 hown2 hgrow6⟩,by simp[intOf];omega⟩
    · have hs1:((qs.toNat:Int) == (sec.toNat:Int))=false:=by
       rw[beq_eq_false_iff_ne];intro e;exact hs (UInt8.toNat_inj.1 (by omega))
      have hs2:¬ (qs.toNat:Int)=(sec.toNat:Int):=by simpa using hs1
      have hown2:=fun o=>aD hown ((Below.refl _ wr).alloc (Nat.le_refl _) o);have HOW:=hide hown2;clear hown hown2;go_wp2;exact⟨⟨k+1,L,by go_num,by omega,by rw[HST.out,if_neg hs,List.append_nil],by omega,HOW.out _,HA.out _⟩,by simp[intOf];omega⟩
  · have hkl:k=rs.length:=by omega
    subst hkl;rw[List.take_length] at hL;have HL:=hide hL;have HO:=hide hown;have HB:=hide hB;clear hL hown hB;go_wp2;go_ret;rw[HL.out];exact⟨_,rfl,HO.out,HB.out⟩
open Go.RowKit Go.Shelf
theorem i5:liesAt Tryz.prog Tryz.prog.depth 171 (2 / Tryz.prog.cellsOf 171) 0 134 1=true:=by kernel_rfl
theorem B7:(Tryz.prog.info? 134).map (·.size)=some 2:=by kernel_rfl
theorem MP:(Tryz.prog.info? 5).map (fun i=>(i.zero,i.size,i.bytes))=some (some (.int .u8 0),1,1):=by kernel_rfl
def IS (W:World)(B b:Nat)(bs:List UInt8):Prop:=Lib.IsBuilderF 171 5 B b (Lib.byteCells bs) W
theorem ah (b:Nat)(w:World)(h0:w.cell? ⟨b,0,none⟩=some (.pointer none))(hsh:w.shape? b=some (171,2))(hfz:w.frozen? ⟨b,0,none⟩=false) :
 Calls Tryz.prog 140 #[.pointer (some ⟨b,0,none⟩)] w fun e w'=>e=.returned (.tuple #[])∧w'=w.setCell ⟨b,0,none⟩ (.pointer (some ⟨b,0,none⟩)):=by
 obtain⟨j,hj,hjs⟩:=Option.map_eq_some_iff.1 B7;have q1:=Lib.run_to_unsafe (P:=Tryz.prog) (w:=w) ⟨b,0,none⟩ Tryz.underlying132 Tryz.underlying274 hj (by rw[hjs];decide) hsh (Nat.zero_lt_succ 1);have q2:=Lib.run_from_unsafe (P:=Tryz.prog) (w:=w) ⟨b,0,none⟩ Tryz.underlying274 Tryz.underlying132 hj hsh i5;go_enter Tryz.func140,Tryz.ntmps140;go_wp2;rw[run_callFunc_extern Tryz.func199 (by kernel_rfl) (by kernel_rfl) (by kernel_rfl) (e:=Extern.AbiNoEscape.same) (by kernel_rfl),Lib.run_noEscape];simp only[Result.andThen];rw[Oper.upon_value];go_wp2;go_end0;exact⟨rfl,rfl⟩
theorem al (B b:Nat)(bs:List UInt8)(w:World)(h:IS w B b bs) :
 Calls Tryz.prog 140 #[.pointer (some ⟨b,0,none⟩)] w fun e w'=>e=.returned (.tuple #[])∧Lib.BuilderAtF 171 5 B b (.pointer (some ⟨b,0,none⟩)) (Lib.byteCells bs) w'∧Below B w w'∧Lib.OthersKept 5 (some b) w w':=by
 rcases h with h | h
 · refine(ah b w h.cell0 h.shape h.frozen0).mono ?_;rintro e w' ⟨rfl,rfl⟩;exact⟨rfl,h.used _,(Below.refl B w).setCell (p:=⟨b,0,none⟩) h.1 _,(Lib.OthersKept.refl _ _ w).setCell ⟨b,0,none⟩ rfl _⟩
 · refine(Any.Builder_copyCheck_used (P:=Tryz.prog) (ρ:=Tryz.bren) { Tryz.layWS with } Tryz.bX.toX72 b w h.cell0).mono ?_;rintro e w' ⟨rfl,rfl⟩;exact⟨rfl,h,Below.refl B _,Lib.OthersKept.refl _ _ _⟩
theorem ag (B b:Nat)(bs:List UInt8)(s:ByteArray)(w:World)(h:IS w B b bs)(hlen:bs.length+s.size≤1000000)(hBw:B≤w.heap.size) :
 Calls Tryz.prog 90 #[.pointer (some ⟨b,0,none⟩),.string s] w fun e w'=>(∃ v,e=.returned v)∧IS w' B b (bs++s.data.toList)∧Below B w w'∧Lib.OthersKept 5 (some b) w w':=by
 obtain⟨i0,hi,hz0,hz1,hz2⟩:=info_parts MP;have hbl:(Lib.byteCells bs).length=bs.length:=Lib.byteCells_length bs;go_enter Tryz.func90,Tryz.ntmps90;go_wp2_with fail
 refine(al B b bs _ h).mono ?_;rintro e w1 ⟨rfl,h1,hb1,hk1⟩;obtain⟨hB,v,hbk,hown,hne⟩:=h1;have c0:w1.cell? ⟨b,0,none⟩=some (.pointer (some ⟨b,0,none⟩)):=by rw[Lib.cell_of_heap hbk];rfl
 have c1:w1.cell? ⟨b,1,none⟩=some v:=by rw[Lib.cell_of_heap hbk];rfl
 go_wp2_with (at_builtin;refine Lib.wpList_append_own_stringF _ rfl _ _ 90 9 rfl B 5 i0 Tryz.underlying90 Tryz.underlying9 hi hz0 hz1 hz2 _ _ _ rfl hown s rfl ?c3 ?c4 ?c5 ?_)
 case c3=>unfold maxLen;omega
 case c4=>omega
 case c5=>have:=hb1.size;omega
 intro v' w2 hown' hgrow _;have hlt:b<w1.heap.size:=(Array.getElem?_eq_some_iff.1 hbk).1;have hb2:w2.heap[b]? = some (.cells #[.pointer (some ⟨b,0,none⟩),v] 171 (0,0)):=by
  rw[hgrow.block b hlt (fun e=>hne e.symm)];exact hbk
 have d0:w2.cell? ⟨b,0,none⟩=some (.pointer (some ⟨b,0,none⟩)):=by rw[Lib.cell_of_heap hb2];rfl
 have d1:w2.cell? ⟨b,1,none⟩=some v:=by rw[Lib.cell_of_heap hb2];rfl
 have f1:w2.frozen? ⟨b,1,none⟩=false:=Lib.frozen_of_heap hb2 1;obtain⟨ao,n',cap,rfl⟩:∃ ao n' cap,v'=.slice ao n' cap:=by
  rcases hown'.2 with ⟨hv,_⟩ | ⟨g,cap,cur,fz,hv,_⟩
  · exact⟨_,_,_,hv⟩
  · exact⟨_,_,_,hv⟩
 go_wp2;go_ret2;refine⟨⟨_,rfl⟩,?_,?_,(hk1.grown hgrow (Lib.ownsRowF_kind hown)).setCell ⟨b,1,none⟩ rfl _⟩
 · refine .inr ?_;rw[hU];exact Lib.BuilderAtF.put hB hb2 (bs':=Lib.byteCells bs++Lib.byteCells s.data.toList) (by rw[List.length_append,Lib.byteCells_length,Lib.byteCells_length,aC];exact hown') (by decide)
 · exact(hb1.grown hgrow (by have:=hb1.size;omega) (fun k hk=>(hown.lt k hk).1)).setCell (p:=⟨b,1,none⟩) hB _
theorem Z5 (B b:Nat)(bs:List UInt8)(w:World)(h:IS w B b bs)(hlen:bs.length≤1000000)(hBw:B≤w.heap.size) :
 Calls Tryz.prog 89 #[.pointer (some ⟨b,0,none⟩),.int .u8 10] w fun e w'=>(∃ v,e=.returned v)∧IS w' B b (bs++[10])∧Below B w w'∧Lib.OthersKept 5 (some b) w w':=by
 obtain⟨i0,hi,hz0,hz1,hz2⟩:=info_parts MP;have hbl:(Lib.byteCells bs).length=bs.length:=Lib.byteCells_length bs;go_enter Tryz.func89,Tryz.ntmps89;go_wp2_with fail
 refine(al B b bs _ h).mono ?_;rintro e w1 ⟨rfl,h1,hb1,hk1⟩;obtain⟨hB,v,hbk,hown,hne⟩:=h1;have c0:w1.cell? ⟨b,0,none⟩=some (.pointer (some ⟨b,0,none⟩)):=by rw[Lib.cell_of_heap hbk];rfl
 have c1:w1.cell? ⟨b,1,none⟩=some v:=by rw[Lib.cell_of_heap hbk];rfl
 go_wp2_with (at_builtin;refine wpList_append_ownF _ rfl _ _ 90 rfl B 5 i0 (.int .u8 0) 1 1 Tryz.underlying90 hi hz0 hz1 hz2 rfl (by decide) _ _ _ rfl (hown.alloc _) ⟨w1.heap.size,0,none⟩ 1 1 [.int .u8 10] rfl rfl (cell_one_new _ _ _) (by simp[Value.oneCell']) ?c3 ?c4 ?c5 ?_)
 case c3=>unfold maxLen;omega
 case c4=>omega
 case c5=>have:=hb1.size;simp;omega
 intro v' w2 hown' hgrow _;have hlt:b<w1.heap.size:=(Array.getElem?_eq_some_iff.1 hbk).1;have hb2:w2.heap[b]? = some (.cells #[.pointer (some ⟨b,0,none⟩),v] 171 (0,0)):=by
  rw[hgrow.block b (by simp;omega) (fun e=>hne e.symm),heap_alloc_old _ _ hlt];exact hbk
 have d0:w2.cell? ⟨b,0,none⟩=some (.pointer (some ⟨b,0,none⟩)):=by rw[Lib.cell_of_heap hb2];rfl
 have d1:w2.cell? ⟨b,1,none⟩=some v:=by rw[Lib.cell_of_heap hb2];rfl
 have f1:w2.frozen? ⟨b,1,none⟩=false:=Lib.frozen_of_heap hb2 1;obtain⟨ao,n',cap,rfl⟩:∃ ao n' cap,v'=.slice ao n' cap:=by
  rcases hown'.2 with ⟨hv,_⟩ | ⟨g,cap,cur,fz,hv,_⟩
  · exact⟨_,_,_,hv⟩
  · exact⟨_,_,_,hv⟩
 go_wp2;go_ret;refine⟨⟨_,rfl⟩,?_,?_,((hk1.alloc _).grown hgrow (Lib.ownsRowF_kind (hown.alloc _))).setCell ⟨b,1,none⟩ rfl _⟩
 · refine .inr ?_;rw[hU];exact Lib.BuilderAtF.put hB hb2 (bs':=Lib.byteCells bs++Lib.byteCells [10]) (by simpa[Lib.byteCells] using hown') (by decide)
 · exact((hb1.alloc (by have:=hb1.size;omega) _).grown hgrow (by have:=hb1.size;simp;omega) (fun k hk=>(hown.lt k hk).1)).setCell (p:=⟨b,1,none⟩) hB _
theorem U7 (B b:Nat)(l:List UInt8)(w:World)(h:IS w B b l)(h0:l≠[]) :
 Calls Tryz.prog 91 #[.pointer (some ⟨b,0,none⟩)] w fun e w'=>e=.returned (.string ⟨l.toArray⟩)∧Below B w w':=by
 obtain⟨p,hAt⟩:∃ p,Lib.BuilderAtF 171 5 B b p (Lib.byteCells l) w:=by
  rcases h with h | h
  · exact⟨_,h⟩
  · exact⟨_,h⟩
 obtain⟨hB,v,hbk,hown,hne⟩:=hAt;have hl0:l.length≠0:=by simpa using h0
 rw[Lib.byteCells_length] at hown;obtain⟨g,cap,cur,fz,rfl,hbg,hg,hfz,hnc,hcm,hcs,htake⟩:∃ g cap cur fz,v=.slice (some ⟨g,0,none⟩) l.length cap∧B≤g∧w.heap[g]? = some (.cells cur 5 fz)∧fz.2≤l.length*1∧l.length≤cap∧cap≤maxLen∧cur.size=cap*1∧cur.toList.take (l.length*1)=Lib.byteCells l:=by
  rcases hown.2 with ⟨_,hz⟩ | ⟨g,cap,cur,fz,hv,r⟩
  · exact absurd hz hl0
  · exact⟨g,cap,cur,fz,hv,r⟩
 have hbk1:w.drew.heap[b]? = some (.cells #[p,.slice (some ⟨g,0,none⟩) l.length cap] 171 (0,0)):=hbk;have hg1:w.drew.heap[g]? = some (.cells cur 5 fz):=hg;have c1:w.drew.cell? ⟨b,1,none⟩=some (.slice (some ⟨g,0,none⟩) l.length cap):=by rw[Lib.cell_of_heap hbk1];rfl
 have hSD:(Builtin.unsafeSliceData_ #[90] 198 #[.slice (some ⟨g,0,none⟩) l.length cap]).run Tryz.prog w.drew=.ok (.pointer (some ⟨g,0,none⟩)) w.drew:=Lib.run_unsafeSliceData_row _ _ _ _ _ _ (by omega);have hUS:(Builtin.unsafeString_ #[198,3] 9 #[.pointer (some ⟨g,0,none⟩),.int .i64 l.length]).run Tryz.prog w.drew=.ok (.string ⟨l.toArray⟩) (w.drew.freeze ⟨g,0,none⟩ l.length):=by
  refine Lib.run_unsafeString_row w.drew 198 3 9 5 Tryz.underlying198 Tryz.bX.cellsByte g cur.size (by simp[World.shape?,hg1]) l h0 (by omega) (by unfold maxLen at hcm;omega) ?_;intro j x hx;exact hown.cells (g:=g) rfl j (.int .u8 x.toNat) (by simp[Lib.byteCells,hx])
 have HB:Hid (Below B w (w.drew.freeze ⟨g,0,none⟩ l.length)):=hide (Lib.below_freeze (Below.drew (Below.refl B w)) (p:=⟨g,0,none⟩) hbg _);have mixed:=Tryz.layST.mixed;clear hown hbk hbk1 hg hg1 htake hcs hcm hnc hfz h;go_enter Tryz.func91,Tryz.ntmps91;go_wp2
 go_region_o
 all_goals (go_wp2;go_ret;exact⟨rfl,HB.out⟩)
theorem T0 (B b:Nat)(w:World)(p:Value)(hbk:w.heap[b]? = some (.cells #[p,.slice none 0 0] 171 (0,0))) :
 Calls Tryz.prog 91 #[.pointer (some ⟨b,0,none⟩)] w fun e w'=>e=.returned (.string ⟨#[]⟩)∧Below B w w':=by
 have mixed:=Tryz.layST.mixed;have hbk1:w.drew.heap[b]? = some (.cells #[p,.slice none 0 0] 171 (0,0)):=hbk;have c1:w.drew.cell? ⟨b,1,none⟩=some (.slice none 0 0):=by rw[Lib.cell_of_heap hbk1];rfl
 have hSD:(Builtin.unsafeSliceData_ #[90] 198 #[.slice none 0 0]).run Tryz.prog w.drew=.ok (.pointer none) w.drew:=rfl;have hUS:=fun (w:World)=>Lib.run_unsafeString_none (P:=Tryz.prog) (w:=w) 198 3 9 none;have HB:Hid (Below B w w.drew):=hide (Below.drew (Below.refl B w));clear hbk hbk1;go_enter Tryz.func91,Tryz.ntmps91;go_wp2
 go_region_o
 all_goals (go_wp2;go_ret;exact⟨rfl,HB.out⟩)
def LwNew (W:World)(B b:Nat)(bs:List UInt8):Prop:=IS W B b bs∧(bs=[]→W.heap[b]? = some (.cells #[.pointer none,.slice none 0 0] 171 (0,0)))
theorem T8 (B b:Nat)(l:List UInt8)(w:World)(h:LwNew w B b l) :
 Calls Tryz.prog 91 #[.pointer (some ⟨b,0,none⟩)] w fun e w'=>e=.returned (.string ⟨l.toArray⟩)∧Below B w w':=by
 by_cases h0:l=[]
 · subst h0;exact T0 B b w _ (h.2 rfl)
 · exact U7 B b l w h.1 h0
theorem sB (M:Nat):∀ L:List (List UInt8),(∀ x∈L,x.length≤M)→(joinL L).length≤L.length*(M+1)
 | [],_=>by simp[joinL]
 | x::L,h=>by
   have h1:=h x (by simp);have h2:=sB M L (fun y hy=>h y (by simp[hy]));have e:joinL (x::L)=x++10::joinL L:=by simp[joinL]
   rw[e,List.length_append,List.length_cons,List.length_cons,Nat.succ_mul];omega
theorem TO (a b:List (List UInt8)):joinL (a++b)=joinL a++joinL b:=by simp[joinL]
theorem YE (L:List (List UInt8))(v:Value)(B b:Nat)(bs:List UInt8)(w:World)(h:LwNew w B b bs)(hB:B≤w.heap.size)(hr:w.ownsRow 0 9 1 v L.length (bB L))(hL:L.length≤100)(hx:∀ x∈L,x.length≤1000)(hbs:bs.length≤200000) :
 Calls Tryz.prog 116 #[.pointer (some ⟨b,0,none⟩),v] w fun e w'=>(∃ u,e=.returned u)∧LwNew w' B b (bs++joinL L)∧Below B w w'∧Lib.OthersKept 5 (some b) w w':=by
 have HROW:Hid (∀ W,Lib.OthersKept 5 (some b) w W→∀ j (hj:j<L.length),∃ g c,v=.slice (some ⟨g,0,none⟩) L.length c∧W.cell? ⟨g,j,none⟩=some (.string ⟨L[j].toArray⟩)):=hide (fun W hW j hj=>by
  rcases hr.2 with ⟨_,h0⟩ | ⟨g,cap,cur,hv,_,hg,h1,h2,h3,h4⟩
  · omega
  · refine⟨g,cap,hv,?_⟩;have hgb:g≠b:=fun e=>by
     subst e;have hh:∃ p u,w.heap[g]? = some (.cells #[p,u] 171 (0,0)):=by
      rcases h.1 with q | q
      · obtain⟨_,u,q,_⟩:=q;exact⟨_,u,q⟩
      · obtain⟨_,u,q,_⟩:=q;exact⟨_,u,q⟩
     obtain⟨p,u,hh⟩:=hh;rw[hg] at hh;cases hh
    have hk:=hW g _ hg (fun e=>hgb (Option.some.inj e)) (fun c fz e=>by cases e);rw[Lib.cell_of_heap hk];rw[Nat.mul_one] at h4;have h5:(cur.toList.take L.length)[j]? = (bB L)[j]?:=by rw[h4]
    rw[List.getElem?_take_of_lt hj] at h5;rw[←Array.getElem?_toList,h5];unfold bB;rw[List.getElem?_map,List.getElem?_eq_getElem hj];rfl)
 obtain⟨p,cap,rfl⟩:=aB hr;have HH:=hide h;have HXX:=hide hx;have hJ:Hid (∀ k,k≤L.length→(joinL (L.take k)).length≤200000):=hide (fun k hk=>by
  have h1:=sB 1000 (L.take k) (fun x hx'=>hx x (List.mem_of_mem_take hx'));rw[List.length_take] at h1;have h2:min k L.length*(1000+1)≤100*1001:=Nat.mul_le_mul_right _ (by omega);omega)
 clear h hr hx;go_enter Tryz.func116,Tryz.ntmps116;go_wp2_with fail
 go_loopw [8] (fun i wr=>∃ k:Nat,i=.int .i64 k∧k≤L.length∧LwNew wr B b (bs++joinL (L.take k))∧Below B w wr∧Lib.OthersKept 5 (some b) w wr) (fun i _=>(L.length-intOf i).toNat)
 case atStart=>exact⟨0,rfl,by omega,by simpa[joinL] using HH.out,Below.refl _ _,Lib.OthersKept.refl _ _ _⟩
 case round =>
  obtain⟨k,rfl,hk,hlw,hBw,hok⟩:=hrel;have HOK:=hide hok;have HBW:=hide hBw;have hsz:=hBw.size;have HLW:=hide hlw;have hjl:=hJ.out k hk;clear hok hBw hlw;by_cases hlt:k<L.length
  · obtain⟨g,c,hg,hc⟩:=HROW.out wr HOK.out k hlt;obtain rfl:p=some ⟨g,0,none⟩:=by injection hg
    clear hg;have hlx:=HXX.out L[k] (List.getElem_mem hlt);have htk:joinL (L.take (k+1))=joinL (L.take k)++(L[k]++[10]):=by rw[List.take_succ_eq_append_getElem hlt,TO];simp[joinL]
    obtain⟨X,hX⟩:∃ X:ByteArray,⟨L[k].toArray⟩=X:=⟨_,rfl⟩
    have hXl:X.data.toList=L[k]:=by rw[←hX]
    have hXs:X.size≤1000:=by rw[←aC,hXl];exact hlx
    rw[hX] at hc;have HTK:=hide htk;have HXL:=hide hXl;clear hX hXl htk hlx;go_wp2_with fail
    refine(ag B b (bs++joinL (L.take k)) X _ HLW.out.1 (by rw[List.length_append];omega) (by omega)).mono ?_;rintro e w1 ⟨⟨u1,rfl⟩,hl1,hB1,hk1⟩;have HL1:=hide hl1;have HB1:=hide hB1;have HK1:=hide hk1;have hs1:=hB1.size;clear hl1 hB1 hk1;go_wp2_with fail
    refine(Z5 B b _ _ HL1.out (by rw[List.length_append,List.length_append,aC];omega) (by omega)).mono ?_;rintro e w2 ⟨⟨u2,rfl⟩,hl2,hB2,hk2⟩;have HL2:=hide hl2;have HB2:=hide hB2;have HK2:=hide hk2;clear hl2 hB2 hk2;go_wp2;refine⟨⟨k+1,by go_num,by omega,⟨?_,?_⟩,HBW.out.trans (HB1.out.trans HB2.out),HOK.out.trans (HK1.out.trans HK2.out)⟩,by simp[intOf];omega⟩
    · have:=HL2.out;rw[HTK.out,←HXL.out,←List.append_assoc,←List.append_assoc];exact this
    · intro e;rw[HTK.out] at e;simp at e
  · have hke:k=L.length:=by omega
    subst hke;rw[List.take_length] at HLW;go_wp2;go_end0;exact⟨⟨_,rfl⟩,HLW.out,HBW.out,HOK.out⟩
theorem LwNew.below {W W':World}{B b:Nat}{bs:List UInt8}(h:LwNew W B b bs)(hb:Below W.heap.size W W'):LwNew W' B b bs :=
 ⟨dK h.1 hb,fun e=>(hb.block b (Array.getElem?_eq_some_iff.1 (h.2 e)).1).trans (h.2 e)⟩
theorem LF {W W':World}{B b n:Nat}{v:Value}{xs:List Value}(h:W.ownsRow B 9 1 v n xs)(hb:b<B)(ho:Lib.OthersKept 5 (some b) W W'):W'.ownsRow B 9 1 v n xs:=by
 refine⟨h.1,?_⟩;rcases h.2 with h2 | ⟨g,cap,cur,h1,h2,h3,h4⟩
 · exact .inl h2
 · exact .inr ⟨g,cap,cur,h1,h2,ho g _ h3 (fun e=>by have:=Option.some.inj e;omega) (fun c fz e=>by cases e),h4⟩
theorem XK (w:World)(x:List UInt8):(w.alloc (.cells #[.string ⟨x.toArray⟩] 9)).ownsRow 0 9 1 (.slice (some ⟨w.heap.size,0,none⟩) 1 1) [x].length (bB [x]):=by
 refine⟨by simp[bB],.inr ⟨w.heap.size,1,_,rfl,Nat.zero_le _,heap_alloc_new _ _,by simp,by unfold maxLen;omega,rfl,rfl⟩⟩
theorem U6 (rs:List Sx.Rl)(v:Value)(w:World)(hv:PrAt w v rs)(hok:∀ r∈rs,Sx.lM r.2.1∧(Sx.aA r.1).length≤500)(hN:rs.length≤50) :
 Calls Tryz.prog 74 #[v] w fun e w'=>e=.returned (.string ⟨(BK rs).toArray⟩)∧Below w.heap.size w w':=by
 have HLN:=hide (fun s W (h:Below w.heap.size w W)=>ZU rs s v W (hv.below h) (fun r hr=>⟨(hok r hr).1,by have:=(hok r hr).2;omega⟩) (by omega));obtain⟨p,cap,rfl,_⟩:=hv;have hx:∀ s,∀ x∈dP rs s,x.length≤1000:=fun s x hx=>by
  unfold dP at hx;obtain⟨r,hr,rfl⟩:=List.mem_map.1 hx;have:=(hok r (List.mem_filter.1 hr).1).2;unfold Sx.bG;rw[List.length_append]
  repeat' split
  all_goals simp
  all_goals omega
 have hl:∀ s,(dP rs s).length≤50:=fun s=>by have:=u7 rs s;omega
 have HADD:=hide (fun s v B b bs W h hB hr hbs=>YE (dP rs s) v B b bs W h hB hr (by have:=hl s;omega) (hx s) hbs);have HJL:Hid (∀ s,(joinL (dP rs s)).length≤100000):=hide (fun s=>by
  have h1:=sB 1000 (dP rs s) (hx s);have h2:(dP rs s).length*(1000+1)≤50*1001:=Nat.mul_le_mul_right _ (hl s);omega)
 have HL:=hide hl;clear hok hx hl;have hNew:LwNew (w.alloc (.cells #[.pointer none,.slice none 0 0] 171)) w.heap.size w.heap.size []:=by
  refine⟨.inl ⟨Nat.le_refl _,.slice none 0 0,heap_alloc_new _ _,?_,by simp[Value.ownBlock]⟩,fun _=>heap_alloc_new _ _⟩;exact World.ownsRowF_of (World.ownsRow_nil _ _ _ _)
 have HNEW:=hide hNew;have HB0:Hid (∀ o,Below w.heap.size w (w.alloc o)):=hide (fun o=>(Below.refl _ w).alloc (Nat.le_refl _) o);clear hNew;go_enter Tryz.func74,Tryz.ntmps74;go_wp2_with fail
 refine(HLN.out 105 _ (HB0.out _)).mono ?_;rintro e w1 ⟨l1,rfl,ho1,hB1⟩;have hz1:=hB1.size;rw[World.size_alloc] at hz1;have HN1:=hide (HNEW.out.below hB1);have HO1:=hide (jL ho1 (Nat.zero_le _));have HB1:Hid (Below w.heap.size w w1):=hide ((HB0.out _).trans (hB1.mono (by simp)));obtain⟨p1,c1,rfl⟩:=aB ho1;clear ho1 hB1 HNEW;go_wp2_with fail
 refine(HADD.out 105 _ w.heap.size w.heap.size [] w1 HN1.out (by omega) HO1.out (by simp)).mono ?_;rintro e w2 ⟨⟨u2,rfl⟩,hn2,hB2,-⟩;rw[List.nil_append] at hn2;have HN2:=hide hn2;have HB2:Hid (Below w.heap.size w w2):=hide (HB1.out.trans hB2);have hz2:=hB2.size;clear hn2 hB2 HN1 HO1 HB1;go_wp2_with fail
 refine(HLN.out 112 _ HB2.out).mono ?_;rintro e w3 ⟨l3,rfl,ho3,hB3⟩;have hz3:=hB3.size;have HN3:=hide (HN2.out.below hB3);have HB3:Hid (Below w.heap.size w w3):=hide (HB2.out.trans (hB3.mono (by omega)));have HO3:=hide ho3;obtain⟨p3,c3,rfl⟩:=aB ho3;have HOUT:Hid (BK rs=joinL (dP rs 105)++if dP rs 112=[] then [] else joinL ([61,61,61,112]::dP rs 112)):=hide rfl;have hl2:=HL.out 112;have HJ1:=HJL.out 105;clear ho3 hB3 HN2 HLN;by_cases h0:dP rs 112=[]
 · have hlen:(dP rs 112).length=0:=by rw[h0];rfl
   rw[hlen];have HH0:=hide h0;clear h0 hlen;go_wp2_with fail
   refine(T8 _ _ _ _ HN3.out).mono ?_;rintro e w4 ⟨rfl,hB4⟩;have HB4:=hide (HB3.out.trans hB4);clear hB4;go_wp2;go_ret;refine⟨?_,HB4.out⟩;rw[HOUT.out,if_pos HH0.out,List.append_nil];rfl
 · have hpos:0<(dP rs 112).length:=List.length_pos_iff.2 h0;have HH0:=hide h0;obtain⟨M,hM⟩:∃ M,(dP rs 112).length=M+1:=⟨(dP rs 112).length-1,by omega⟩
   have HM:=hide hM;rw[hM] at hl2 ⊢;clear h0 hpos hM;go_wp2_with fail
   have hA:Below w3.heap.size w3 (w3.alloc (.cells #[.string ⟨#[61,61,61,112]⟩] 9)):=(Below.refl _ _).alloc (Nat.le_refl _) _;refine(YE [[61,61,61,112]] _ w.heap.size w.heap.size (joinL (dP rs 105)) _ (HN3.out.below hA) (by have:=hA.size;omega) (XK w3 _) (by simp) (by simp) (by omega)).mono ?_;rintro e w4 ⟨⟨u4,rfl⟩,hn4,hB4,hk4⟩;have HN4:=hide hn4;have HO4:=hide (jL (LF (aD HO3.out hA) (by omega) hk4) (Nat.zero_le _));have HB4:Hid (Below w.heap.size w w4):=hide (HB3.out.trans ((hA.mono (by omega)).trans hB4));have hz4:=HB4.out.size;rw[HM.out] at HO4;have HAD2:=HADD.out 112;rw[HM.out] at HAD2;have HAD3:=hide HAD2;clear hn4 hB4 hk4 HN3 HO3 HB3 hA HADD HAD2;go_wp2_with fail
   refine(HAD3.out _ w.heap.size w.heap.size _ w4 HN4.out (by omega) HO4.out (by rw[List.length_append];simp[joinL] at HJ1 ⊢;omega)).mono ?_;rintro e w5 ⟨⟨u5,rfl⟩,hn5,hB5,-⟩;have HN5:=hide hn5;have HB5:Hid (Below w.heap.size w w5):=hide (HB4.out.trans hB5);clear hn5 hB5;go_wp2_with fail
   refine(T8 _ _ _ _ HN5.out).mono ?_;rintro e w6 ⟨rfl,hB6⟩;have HB6:=hide (HB5.out.trans hB6);clear hB6;go_wp2;go_ret;refine⟨?_,HB6.out⟩;rw[HOUT.out,if_neg HH0.out];have e:joinL ([61,61,61,112]::dP rs 112)=joinL [[61,61,61,112]]++joinL (dP rs 112):=by simp[joinL]
   rw[e];rfl
theorem Y2 (L:List (List UInt8))(v:Value)(w:World)(hrd:RdS w v L)(hL:L.length≤1000000000000):Calls Tryz.prog 22 #[v] w fun e w'=>e=.returned (.bool (decide (2000<Sx.sl L)))∧w'=w:=by
 obtain⟨p,cap,rfl,hrd⟩:=hrd;have HRD:=hide hrd;clear hrd;go_enter Tryz.func22,Tryz.ntmps22;go_wp2
 go_loop [3,8] (fun a i=>∃ (k m:Nat),a=.int .i64 m∧i=.int .i64 k∧k≤L.length∧Sx.sl (L.take k)+m=2000) (fun _ i=>(L.length-intOf i).toNat)
 case atStart=>exact⟨0,2000,rfl,rfl,by omega,rfl⟩
 case round =>
  obtain⟨k,m,rfl,rfl,hk,hm⟩:=hrel;by_cases hlt:k<L.length
  · obtain⟨b,off,rfl,hb,hc⟩:=HRD.out k hlt;have ht:=NT L k hlt;have hsp:=GO L (k+1);obtain⟨x,hx⟩:∃ x,L[k]=x:=⟨_,rfl⟩
    rw[hx] at hc ht;by_cases hbig:m<x.length
    · have hlong:2000<Sx.sl L:=by omega
      have HL:=hide hlong;clear ht hsp hm hx hlong;have hbi:(m:Int)<(x.length:Int):=by omega
      go_wp2;go_ret;exact⟨aP (by rw[decide_eq_true HL.out]),rfl⟩
    · have hm2:Sx.sl (L.take (k+1))+(m-x.length)=2000:=by omega
      have hbi:¬ (m:Int)<(x.length:Int):=by omega
      have hml:m≤2000:=by omega
      have HM:=hide hm2;clear ht hsp hm hx hm2;go_wp2;exact⟨⟨k+1,m-x.length,by go_num,by go_num,by omega,HM.out⟩,by simp[intOf];omega⟩
  · have hkl:k=L.length:=by omega
    subst hkl;rw[List.take_length] at hm;have hsh:¬ 2000<Sx.sl L:=by omega
    have HL:=hide hsh;clear hlt hk hm hsh;go_wp2;go_ret;exact⟨aP (by rw[decide_eq_false HL.out]),rfl⟩
def RdrAt (W:World)(b:Nat)(rs:List Sx.Rl)(sec:UInt8)(n err:Int):Prop:=∃ rv,W.heap[b]? = some (.cells #[rv,.int .u8 sec.toNat,.int .i64 n,.int .i64 err] 57 (0,0))∧W.ownsRow (b+1) 82 4 rv rs.length (tR rs)
theorem RdrAt.below {W W':World}{b:Nat}{rs:List Sx.Rl}{sec:UInt8}{n err:Int}(h:RdrAt W b rs sec n err)(hb:Below W.heap.size W W'):RdrAt W' b rs sec n err:=by
 obtain⟨rv,h1,h2⟩:=h;exact⟨rv,eG hb h1,aD h2 hb⟩
theorem RdrAt.lt {W:World}{b:Nat}{rs:List Sx.Rl}{sec:UInt8}{n err:Int}(h:RdrAt W b rs sec n err):b<W.heap.size:=by
 obtain⟨rv,h1,h2⟩:=h;exact(Array.getElem?_eq_some_iff.1 h1).1
theorem RdrAt.sets {W:World}{b:Nat}{rs:List Sx.Rl}{sec:UInt8}{n err:Int}(h:RdrAt W b rs sec n err)(sec':UInt8):RdrAt (W.setCell ⟨b,1,none⟩ (.int .u8 sec'.toNat)) b rs sec' n err:=by
 obtain⟨rv,h1,h2⟩:=h;exact⟨rv,by simp[World.setCell,Array.getElem?_modify,h1],h2.kept (grown_setCell W b 1 _) (.inr (fun e=>by have:=(h2.lt b e).1;omega))⟩
theorem RdrAt.setn {W:World}{b:Nat}{rs:List Sx.Rl}{sec:UInt8}{n err:Int}(h:RdrAt W b rs sec n err)(n':Int):RdrAt (W.setCell ⟨b,2,none⟩ (.int .i64 n')) b rs sec n' err:=by
 obtain⟨rv,h1,h2⟩:=h;exact⟨rv,by simp[World.setCell,Array.getElem?_modify,h1],h2.kept (grown_setCell W b 2 _) (.inr (fun e=>by have:=(h2.lt b e).1;omega))⟩
theorem RdrAt.sete {W:World}{b:Nat}{rs:List Sx.Rl}{sec:UInt8}{n err:Int}(h:RdrAt W b rs sec n err)(err':Int):RdrAt (W.setCell ⟨b,3,none⟩ (.int .i64 err')) b rs sec n err':=by
 obtain⟨rv,h1,h2⟩:=h;exact⟨rv,by simp[World.setCell,Array.getElem?_modify,h1],h2.kept (grown_setCell W b 3 _) (.inr (fun e=>by have:=(h2.lt b e).1;omega))⟩
theorem RdrAt.cells {W:World}{b:Nat}{rs:List Sx.Rl}{sec:UInt8}{n err:Int}(h:RdrAt W b rs sec n err):W.cell? ⟨b,1,none⟩=some (.int .u8 sec.toNat)∧W.cell? ⟨b,2,none⟩=some (.int .i64 n)∧W.cell? ⟨b,3,none⟩=some (.int .i64 err)∧W.frozen? ⟨b,1,none⟩=false∧W.frozen? ⟨b,2,none⟩=false∧W.frozen? ⟨b,3,none⟩=false:=by
 obtain⟨rv,h1,h2⟩:=h;obtain⟨⟨q0,q1,q2,q3⟩,f0,f1,f2,f3⟩:=iM h1;exact⟨q1,q2,q3,f1,f2,f3⟩
theorem Z8 (b:Nat)(rs:List Sx.Rl)(sec:UInt8)(n err:Int)(s:ByteArray)(w:World)(hw:gW w)(hr:RdrAt w b rs sec n err)(hn:rs.length≤30) :
 Calls Tryz.prog 76 #[.pointer (some ⟨b,0,none⟩),.string s] w fun e w'=>e=.returned (.int .i64 (Sx.aU rs sec s.data.toList).2)∧Below b w w'∧RdrAt w' b (Sx.aU rs sec s.data.toList).1.1 (Sx.aU rs sec s.data.toList).1.2 n err:=by
 obtain⟨q1,q2,q3,f1,f2,f3⟩:=hr.cells;have hlt:=hr.lt;have HR:=hide hr;have hpx:=vT s ⟨#[47,47]⟩ w;rw[show(⟨#[47,47]⟩:ByteArray).data.toList=[47,47] from rfl,lQ] at hpx;simp only[List.length_cons,List.length_nil,Nat.reduceAdd] at hpx;clear hr;have HPX:=hide hpx;obtain⟨X,hX⟩:∃ X,s.data.toList=X:=⟨_,rfl⟩
 have hsx:s.toList=X:=by rw[ByteArray.toList_eq,hX]
 have HRL:=hide (fun w hw=>aw s sec w hw);rw[hX] at HPX HRL ⊢;have HX:=hide hX;clear hX hpx;by_cases h1:X=[]
 · have hd:(Sx.aU rs sec X)=((rs,sec),0):=by unfold Sx.aU;rw[if_pos (Or.inl h1)]
   have HD:=hide hd;have he:s.toList.isEmpty=true:=by rw[hsx,h1];rfl
   clear hsx hd h1;go_enter Tryz.func76,Tryz.ntmps76;go_wp2_with fail
   go_ret;rw[HD.out];exact⟨rfl,Below.refl _ _,HR.out⟩
 · have he:s.toList.isEmpty=false:=by
    rw[hsx];cases X with
    | nil=>exact absurd rfl h1
    | cons _ _=>rfl
   by_cases h2:X.take 2=[47,47]
   · have hd:(Sx.aU rs sec X)=((rs,sec),0):=by unfold Sx.aU;rw[if_pos (Or.inr h2)]
     have HD:=hide hd;have hpx:=HPX.out;rw[decide_eq_true h2] at hpx;have HP:=hide hpx;clear hsx hd h1 h2 hpx;go_enter Tryz.func76,Tryz.ntmps76;go_wp2_with fail
     refine HP.out.mono ?_;rintro e w1 ⟨rfl,rfl⟩;go_wp2;go_ret;rw[HD.out];exact⟨rfl,Below.refl _ _,HR.out⟩
   · have hpx:=HPX.out;rw[decide_eq_false h2] at hpx;have HP:=hide hpx;have hno:¬ (X=[]∨X.take 2=[47,47]):=fun h=>h.elim h1 h2;clear hpx HPX;by_cases h3:X=[61,61,61,105]
     · have hd:(Sx.aU rs sec X)=((rs,105),0):=by unfold Sx.aU;rw[if_neg hno,if_pos h3]
       have HD:=hide hd;have hb1:(s.toList == [61,61,61,105])=true:=by rw[hsx,h3];rfl
       clear hsx hd h1 h2 hno h3;go_enter Tryz.func76,Tryz.ntmps76;go_wp2_with fail
       refine HP.out.mono ?_;rintro e w1 ⟨rfl,rfl⟩;go_wp2;go_ret;rw[HD.out];exact⟨rfl,(Below.refl _ _).setCell (p:=⟨b,1,none⟩) (Nat.le_refl _) _,HR.out.sets 105⟩
     · have hb1:(s.toList == [61,61,61,105])=false:=by rw[hsx,beq_eq_false_iff_ne];exact h3
       by_cases h4:X=[61,61,61,112]
       · have hd:(Sx.aU rs sec X)=((rs,112),0):=by unfold Sx.aU;rw[if_neg hno,if_neg h3,if_pos h4]
         have HD:=hide hd;have hb2:(s.toList == [61,61,61,112])=true:=by rw[hsx,h4];rfl
         clear hsx hd h1 h2 hno h3 h4;go_enter Tryz.func76,Tryz.ntmps76;go_wp2_with fail
         refine HP.out.mono ?_;rintro e w1 ⟨rfl,rfl⟩;go_wp2;go_ret;rw[HD.out];exact⟨rfl,(Below.refl _ _).setCell (p:=⟨b,1,none⟩) (Nat.le_refl _) _,HR.out.sets 112⟩
       · have hb2:(s.toList == [61,61,61,112])=false:=by rw[hsx,beq_eq_false_iff_ne];exact h4
         have hd:(Sx.aU rs sec X)=(match Sx.cN X sec with
          | none=>((rs,sec),3)
          | some r=>(((cG rs r).1,sec),(cG rs r).2)):=by
          unfold Sx.aU;rw[if_neg hno,if_neg h3,if_neg h4];cases Sx.cN X sec with
          | none=>rfl
          | some r =>
            simp only;unfold cG;split
            · rfl
            · split <;> rfl
         have HD:=hide hd;clear hsx hd h1 h2 hno h3 h4;obtain⟨R,hR⟩:∃ R,Sx.cN X sec=R:=⟨_,rfl⟩
         rw[hR] at HD HRL;clear hR;go_enter Tryz.func76,Tryz.ntmps76;go_wp2_with fail
         refine HP.out.mono ?_;rintro e w1 ⟨rfl,rfl⟩;go_wp2_with fail
         refine(HRL.out _ hw).mono ?_;rintro e w2 ⟨hB2,hr⟩;have hs2:=hB2.size;cases R with
         | none =>
           replace hr:e=.returned (.tuple #[.agg #[.int .u8 0,.string ⟨#[]⟩,.int .i64 0,.int .u8 0],.bool false]):=hr;subst hr;go_wp2;go_ret;rw[HD.out];have hB3:∀ o,Below w1.heap.size w1 (w2.alloc o):=fun o=>hB2.alloc hs2 o;exact⟨rfl,(hB3 _).mono (by omega),HR.out.below (hB3 _)⟩
         | some r =>
           obtain⟨h,k,sc⟩:=r;replace hr:e=.returned (.tuple #[.agg #[.int .u8 k.toNat,.string ⟨(Sx.aA h).toArray⟩,.int .i64 h.length,.int .u8 sc.toNat],.bool true]):=hr;subst hr;have hB3:∀ o,Below w1.heap.size w1 (w2.alloc o).drew:=fun o=>(hB2.alloc hs2 o).drew;have HAD:Hid (∀ o,Calls Tryz.prog 99 #[.pointer (some ⟨b,0,none⟩),.agg #[.int .u8 k.toNat,.string ⟨(Sx.aA h).toArray⟩,.int .i64 h.length,.int .u8 sc.toNat]] (w2.alloc o).drew fun e w'=>e=.returned (.int .i64 (cG rs (h,k,sc)).2)∧Below b w1 w'∧RdrAt w' b (cG rs (h,k,sc)).1 sec n err):=hide (fun o=>by
            obtain⟨rv,g1,g2⟩:=HR.out.below (hB3 o);refine(P3 b _ _ rs (h,k,sc) rv (w2.alloc o).drew g1 rfl g2 hn).mono ?_;rintro e w' ⟨a1,a2,rv',a3,a4⟩;exact⟨a1,((hB3 o).mono (by omega)).trans a2,rv',a3,a4⟩)
           obtain⟨D,hD⟩:∃ D:ByteArray,⟨(Sx.aA h).toArray⟩=D:=⟨_,rfl⟩
           obtain⟨N,hN⟩:∃ N,h.length=N:=⟨_,rfl⟩
           rw[hD,hN] at HAD ⊢;clear hD hN hB3 hB2 HRL;obtain⟨A,hA⟩:∃ A,cG rs (h,k,sc)=A:=⟨_,rfl⟩
           have HD2:Hid (Sx.aU rs sec X=((A.1,sec),A.2)):=hide (by rw[HD.out,←hA]);rw[hA] at HAD;clear hA HD;go_wp2_with fail
           go_region_with (go_at_call 99;refine(HAD.out _).mono ?_;rintro e w3 ⟨rfl,hB3,hr3⟩)
           all_goals
            go_wp2;go_ret;rw[HD2.out];exact⟨rfl,hB3,hr3⟩
def MI (rs:List Sx.Rl)(sec:UInt8)(n:Int)(X:List UInt8)(W:World)(b:Nat):Prop :=
 if (Sx.aU rs sec X).2=0 then RdrAt W b (Sx.aU rs sec X).1.1 (Sx.aU rs sec X).1.2 (n+1) 0 else ∃ sec',RdrAt W b (Sx.aU rs sec X).1.1 sec' n (Sx.aU rs sec X).2
theorem X6 (b:Nat)(rs:List Sx.Rl)(sec:UInt8)(n err:Int)(s:ByteArray)(w:World)(hw:gW w)(hr:RdrAt w b rs sec n err)(hn:rs.length≤30)(hn0:0≤n)(hn1:n≤1000000000) :
 Calls Tryz.prog 49 #[.pointer (some ⟨b,0,none⟩),.string s] w fun e w'=>e=.returned (.bool (decide ((Sx.aU rs sec s.data.toList).2=0)))∧Below b w w'∧MI rs sec n s.data.toList w' b:=by
 have HA:=hide (Z8 b rs sec n err s w hw hr hn);unfold MI;obtain⟨A,hA⟩:∃ A,Sx.aU rs sec s.data.toList=A:=⟨_,rfl⟩
 rw[hA] at HA ⊢;clear hA hr hw;obtain⟨⟨rs',sec'⟩,err'⟩:=A;dsimp only at HA ⊢;go_enter Tryz.func49,Tryz.ntmps49;go_wp2_with fail
 refine HA.out.mono ?_;rintro e w1 ⟨rfl,hB1,hr1⟩;obtain⟨q1,q2,q3,f1,f2,f3⟩:=hr1.cells;have hr2:=hr1.sete err';obtain⟨p1,p2,p3,g1,g2,g3⟩:=hr2.cells;have HB1:=hide hB1;have HR2:=hide hr2;clear hB1 hr1 hr2;by_cases h0:err'=0
 · subst h0;go_wp2;go_ret;exact⟨rfl,(HB1.out.setCell (p:=⟨b,3,none⟩) (Nat.le_refl _) _).setCell (p:=⟨b,2,none⟩) (Nat.le_refl _) _,HR2.out.setn (n+1)⟩
 · have hb0:(err' != 0)=true:=by simpa using h0
   go_wp2;go_ret;exact⟨rfl,HB1.out.setCell (p:=⟨b,3,none⟩) (Nat.le_refl _) _,sec',HR2.out⟩
open Go.RowKit Go.Maps
theorem UB (w:World)(n:Nat)(h:n<65536):(w.alloc (.cells #[.int .u8 ((n:Int) / 256),.int .u8 ((n:Int) % 256)] 5)).ownsRow w.heap.size 5 1 (.slice (some ⟨w.heap.size,0,none⟩) 2 2) 2 (dO (Sx.two n)):=by
 refine⟨by simp[dO,Sx.two],.inr ⟨w.heap.size,2,#[.int .u8 ((n:Int) / 256),.int .u8 ((n:Int) % 256)],rfl,Nat.le_refl _,heap_alloc_new _ _,by omega,by unfold maxLen;omega,rfl,?_⟩⟩;rw[OI n h];rfl
theorem V0 (n:Nat)(w:World)(hn:n<65536):Calls Tryz.prog 127 #[.int .i64 n] w fun e w'=>e=.returned (.slice (some ⟨w.heap.size,0,none⟩) 2 2)∧w'.ownsRow w.heap.size 5 1 (.slice (some ⟨w.heap.size,0,none⟩) 2 2) 2 (dO (Sx.two n))∧Below w.heap.size w w':=by
 refine(T9 n w hn).mono ?_;rintro e w' ⟨rfl,rfl⟩;exact⟨rfl,UB w n hn,(Below.refl _ _).alloc (Nat.le_refl _) _⟩
theorem GI {H:Type}{P:Program}{w:World}{ops:Array Oper}{o:Oper}{a:Act}{K:Act→World→Prop}{Q:Exit→Act→World→Prop}{E:Prop}(hgd:o.guard=none)(m:Operand)(t:TypeId)(hop:o.op=Op.call { callee:=Callee.builtin Builtin.len,args:=#[m],argTypes:=#[t] })
 (k e:TypeId) (ht:P.underlying t=some (.map k e)) (R:Value→Option (DataW H×List MemPlace)) (b n:Nat) (D:DataW H) (hm:a.eval m=.map (some b)) (hown:w.ownsMap P k R b n D) (N:Nat) (hN:Maps.size D=N)
 (hK:K (a.put o.dst (.int .i64 N)) w) :
 if Region.wanted o (yielded ops a.tmps)=true then Oper.wp P o a w K Q else E:=by
 have hw:Region.wanted o (yielded ops a.tmps)=true:=by simp[Region.wanted,hgd]
 rw[if_pos hw];subst hN;unfold Oper.wp;simp[execOp,hop,resolve,invoke,builtin,hm,hown.len ht o.type,Result.andThen];exact hK
theorem oL {P:Program}{w:World}{ops:Array Oper}{o:Oper}{a:Act}{K:Act→World→Prop}{Q:Exit→Act→World→Prop}{E:Prop}(hgd:o.guard=none)(s x:Operand)(t:TypeId)
 (ho:o.op=.call { callee:=.builtin .append,args:=#[s,x],argTypes:=#[t,t] })
 (e:TypeId) (i:TypeInfo) (ht:P.underlying t=some (.slice e)) (hi:P.info? e=some i)
 (v:Value) (hs:a.eval s=v) (hx:a.eval x=.slice none 0 0) (hv:v=.slice none 0 0∨∃ g n cap,v=.slice (some ⟨g,0,none⟩) n cap∧n≤cap)
 (h:K (a.put o.dst v) w):if Region.wanted o (yielded ops a.tmps)=true then Oper.wp P o a w K Q else E:=by
 have hw:Region.wanted o (yielded ops a.tmps)=true:=by simp[Region.wanted,hgd]
 rw[if_pos hw];have hr:=run_append_nothing (P:=P) w t o.type e i ht hi v hv;unfold Oper.wp execOp;simp only[ho,resolve,invoke,builtin,Sem.run_bind,Sem.run_pure,Result.andThen_ok,List.map_toArray,List.map_cons,List.map_nil,hs,hx,hr];exact h
theorem m7 {w w':World}{b:Nat}{cs:Array Value}{t:TypeId}{fr:Nat×Nat}(hb:Below w.heap.size w w')(h:w.heap[b]? = some (.cells cs t fr)):w'.heap[b]? = some (.cells cs t fr):=(hb.block b (Array.getElem?_eq_some_iff.1 h).1).trans h
theorem J1 (B:Nat)(tab:List (List Sx.aT))(w:World)(hst:StA w B tab)(hn:tab.length≤60000):Calls Tryz.prog 82 #[.pointer (some ⟨B+1,0,none⟩)] w fun e w'=>e=.returned (.string ⟨(Sx.eH tab).toArray⟩)∧Below w.heap.size w w':=by
 obtain⟨i2,hi2,hx0,hx1,hx2⟩:=info_parts Tryz.info5;have hsb:=hst.siz;obtain⟨⟨D,hown,hD⟩,⟨tv,hbox,hrow,hnil⟩,hlen,_⟩:=hst;have hsiz:=hD.size;have c0:w.cell? ⟨B+1,0,none⟩=some (.map (some B)):=by simp[World.cell?,hbox]
 have c1:w.cell? ⟨B+1,1,none⟩=some tv:=by simp[World.cell?,hbox]
 have hcc:∀ w',Below w.heap.size w w'→w'.cell? ⟨B+1,0,none⟩=some (.map (some B))∧w'.cell? ⟨B+1,1,none⟩=some tv:=fun w' hb=>by
  have hbx:=m7 hb hbox;exact⟨by simp[World.cell?,hbx],by simp[World.cell?,hbx]⟩
 have hFb:=vI tab hn hlen;have htw:=fun w=>V0 tab.length w (by omega);obtain⟨F,hF⟩:∃ F,tab.flatMap Sx.bO=F:=⟨_,rfl⟩
 rw[hF] at hrow hFb;have HI:Hid (Sx.eH tab=Sx.two tab.length++F):=hide (by unfold Sx.eH;rw[hF]);obtain⟨N,hN⟩:∃ N,tab.length=N:=⟨_,rfl⟩
 rw[hN] at hn hown hsiz htw HI;obtain⟨T2,hT2⟩:∃ T2,Sx.two N=T2:=⟨_,rfl⟩
 rw[hT2] at htw HI;have HTW:=hide htw;have HCC:=hide hcc;by_cases ht:tab=[]
 · have htv:=hnil ht;subst htv;have hF0:F=[]:=by rw[←hF,ht];rfl
   subst hF0;clear hF hlen hnil hrow hbox hN hD ht htw hT2 hcc;go_enter Tryz.func82,Tryz.ntmps82;go_wp2;go_region_held_law (fun w'=>w'.cell? ⟨B+1,0,none⟩=some (.map (some B))∧w'.cell? ⟨B+1,1,none⟩=some (.slice none 0 0)) (first | exact hS1 | go_keep) (first | (refine GI rfl _ 179 rfl 9 3 Tryz.underlying179 _ B _ D rfl hown N hsiz ?_) | (go_at_call 127;refine(HTW.out _).mono ?_;rintro e w1 ⟨rfl,ho1,hB1⟩;have hBw:Below w.heap.size w w1:=((Below.refl _ w).drew).trans hB1;have hS1:=HCC.out w1 hBw;have hcv:(convert 90 9 (.slice (some ⟨w.heap.size,0,none⟩) 2 2)).run Tryz.prog w1=.ok (.string ⟨T2.toArray⟩) w1:=dD ho1) | (refine oL rfl _ _ _ rfl 5 i2 Tryz.underlying90 hi2 _ rfl rfl (.inr ⟨_,_,_,rfl,by omega⟩) ?_))
   all_goals (go_wp2;go_ret;rw[HI.out,List.append_nil];exact⟨rfl,hBw⟩)
 · have hF0:0<F.length:=by
    rw[←hF];obtain⟨x,r,rfl⟩:=List.exists_cons_of_ne_nil ht;simp[Sx.bO]
   have htv:∃ g cap,tv=.slice (some ⟨g,0,none⟩) F.length cap:=by
    rcases hrow.2 with ⟨_,h2⟩ | ⟨g,cap,cur,h1,_⟩
    · omega
    · exact⟨g,cap,h1⟩
   obtain⟨g,cap,rfl⟩:=htv;have hcs:∀ w',Below w.heap.size w w'→∀ j u,(dO F)[j]? = some u→w'.cell? ((⟨g,0,none⟩:Addr).add j)=some u:=fun w' hb=>(aD hrow hb).cells (g:=g) rfl;have hbl:(dO F).length=F.length*1:=by unfold dO;simp
   have h1c:∀ u∈dO F,u.oneCell'=true:=by
    intro u hu;unfold dO at hu;obtain⟨x,_,rfl⟩:=List.mem_map.1 hu;rfl
   obtain⟨Z,hZ⟩:∃ Z,F.length=Z:=⟨_,rfl⟩
   rw[hZ] at hF0 hFb c1 hbl hrow HCC;have HFN:Hid (dO T2++dO F=dO (T2++F)):=hide (eQ _ _).symm;have HCS:=hide hcs;have hlt:B+1<w.heap.size:=by omega
   clear hF hlen hnil hrow hbox hN hD ht htw hT2 hcc hcs hZ;go_enter Tryz.func82,Tryz.ntmps82;go_wp2;go_region_held_law (fun w'=>w'.cell? ⟨B+1,0,none⟩=some (.map (some B))∧w'.cell? ⟨B+1,1,none⟩=some (.slice (some ⟨g,0,none⟩) Z cap)) (first | exact hS6 | exact hS1 | go_keep) (first | (refine GI rfl _ 179 rfl 9 3 Tryz.underlying179 _ B _ D rfl hown N hsiz ?_) | (go_at_call 127;refine(HTW.out _).mono ?_;rintro e w1 ⟨rfl,ho1,hB1⟩;have hBw:Below w.heap.size w w1:=((Below.refl _ w).drew).trans hB1;have hS1:=HCC.out w1 hBw;have hsw:w.heap.size≤w1.heap.size:=hBw.size) | (refine step_append_lies _ rfl _ _ _ rfl w.heap.size 5 i2 (.int .u8 0) 1 1 Tryz.underlying90 hi2 hx0 hx1 hx2 rfl (by decide) _ 2 (dO T2) rfl ho1 ⟨g,0,none⟩ Z cap (dO F) rfl hbl (HCS.out _ hBw) h1c hF0 (by unfold maxLen;omega) (by omega) hsw _ rfl ?_;intro g6 cap6 w6 hown6 hgrow6 hat6 hlt6;rw[HFN.out] at hown6;have hcv:(convert 90 9 (.slice (some ⟨g6,0,none⟩) (2+Z) cap6)).run Tryz.prog w6=.ok (.string ⟨(T2++F).toArray⟩) w6:=dD hown6;have hB6:Below w.heap.size w w6:=hBw.grown hgrow6 hsw (fun r e=>(ho1.lt r e).1);have hS6:=HCC.out w6 hB6))
   all_goals (go_wp2;go_ret;rw[HI.out];exact⟨rfl,hB6⟩)
end Go.Proofs.YtgohllfpceeboabGreatDoor
namespace Sx
theorem mC (l:List Wd)(hn:l.Nodup):l.mergeSort (fun x y=>decide (x≤y))=aR l:=by
 have hle:∀ a b:Wd,a≤b↔¬ b<a:=fun a b=>Iff.rfl;have hp:(l.mergeSort (fun x y=>decide (x≤y))).Perm l:=List.mergeSort_perm l _;have hs:(l.mergeSort (fun x y=>decide (x≤y))).Pairwise (fun a b=>decide (a≤b)=true):=by
  apply List.pairwise_mergeSort
  · intro a b c h1 h2;simp only[decide_eq_true_eq,hle] at h1 h2 ⊢;intro h3;rcases AT b a h1 with e | e
    · subst e;exact h2 h3
    · exact h2 (rE h3 e)
  · intro a b;simp only[Bool.or_eq_true,decide_eq_true_eq,hle];by_cases h:b<a
    · exact .inr (GM _ _ h)
    · exact .inl h
 refine yG l _ hn ?_ (fun y=>hp.mem_iff);have hn2:(l.mergeSort (fun x y=>decide (x≤y))).Nodup:=hp.nodup_iff.2 hn;refine(hs.and hn2).imp ?_;rintro a b ⟨h1,h2⟩;simp only[decide_eq_true_eq,hle] at h1;rcases AT b a h1 with e | e
 · exact absurd e.symm h2
 · exact e
end Sx
namespace Go.Proofs.YtgohllfpceeboabGreatDoor
open Go.RowKit Go.Maps
theorem V5 (w:World):Calls Tryz.prog 80 #[] w fun e w'=>e=.returned (.pointer (some ⟨w.heap.size+1,0,none⟩))∧StA w' w.heap.size []∧Below w.heap.size w w':=by
 have hmm:=@run_makeMap Tryz.prog;go_enter Tryz.func80,Tryz.ntmps80;go_wp2;go_ret;refine⟨rfl,⟨⟨.map [],(World.ownsMap_made _ _ _ _).alloc _,QL⟩,⟨.slice none 0 0,?_,World.ownsRow_nil _ _ _ _,fun _=>rfl⟩,by simp,by simp⟩,((Below.refl _ _).alloc (Nat.le_refl _) _).alloc (by rw[World.size_alloc];exact Nat.le_succ _) _⟩;have:=heap_alloc_new (w.alloc (.map #[] 0)) (.cells #[.map (some w.heap.size),.slice none 0 0] 181);rw[World.size_alloc] at this;exact this
theorem ZZ (g n cap:Nat)(w:World):(binOp BinOp.eql 51 (.slice (some ⟨g,0,none⟩) n cap) (.slice none 0 0)).run Tryz.prog w=.ok (.bool false) w:=by
 exact Lib.run_eql_slice_nil _ _ _ _ _ _ _ _ Tryz.underlying51
theorem M4 (K:List (List UInt8))(B:Nat)(v:Value)(w:World)(hv:w.ownsRow B 9 1 v K.length (bB K))(hK:0<K.length)(hl:K.length≤1000):Calls Tryz.prog 78 #[v] w fun e w'=>(∃ g cap,e=.returned (.slice (some ⟨g,0,none⟩) K.length cap)∧w'.ownsRow w.heap.size 9 1 (.slice (some ⟨g,0,none⟩) K.length cap) K.length (bB K))∧Below w.heap.size w w':=by
 obtain⟨i0,hi,hz0,hz1,hz2⟩:=info_parts Tryz.info9;obtain⟨g,cap,rfl,hgl⟩:∃ g cap,v=.slice (some ⟨g,0,none⟩) K.length cap∧g<w.heap.size:=by
  rcases hv.2 with ⟨_,h2⟩ | ⟨g,cap,cur,h1,h2,h3,h4⟩
  · omega
  · exact⟨g,cap,h1,(Array.getElem?_eq_some_iff.1 h3).1⟩
 have hcs:∀ w',Below w.heap.size w w'→∀ j u,(bB K)[j]? = some u→w'.cell? ((⟨g,0,none⟩:Addr).add j)=some u:=fun w' hb=>(aD hv hb).cells (g:=g) rfl;have hbl:(bB K).length=K.length*1:=by unfold bB;simp
 have h1c:∀ u∈bB K,u.oneCell'=true:=by
  intro u hu;unfold bB at hu;obtain⟨x,_,rfl⟩:=List.mem_map.1 hu;rfl
 have HCS:=hide hcs;obtain⟨N,hN⟩:∃ N,K.length=N:=⟨_,rfl⟩
 rw[hN] at hbl hK hl ⊢;have hneq:=ZZ g N cap;have how:(w.alloc (.cells #[] 9)).ownsRow w.heap.size 9 1 (.slice (some ⟨w.heap.size,0,none⟩) 0 0) 0 []:=⟨rfl,.inr ⟨w.heap.size,0,#[],rfl,Nat.le_refl _,heap_alloc_new _ _,Nat.le_refl _,Nat.zero_le _,rfl,rfl⟩⟩
 have hB0:Below w.heap.size w (w.alloc (.cells #[] 9)):=(Below.refl _ _).alloc (Nat.le_refl _) _;clear hcs hv hN;go_enter Tryz.func78,Tryz.ntmps78;go_wp2_with (at_builtin;go_must (refine wpList_append_lies _ rfl _ _ _ rfl w.heap.size 9 i0 (.string ⟨#[]⟩) 1 16 Tryz.underlying51 hi hz0 hz1 hz2 rfl (by decide) _ _ _ rfl how ⟨g,0,none⟩ _ _ (bB K) rfl hbl (HCS.out _ hB0) h1c (by omega) (by unfold maxLen;omega) (by omega) (by rw[World.size_alloc];omega) _ rfl ?_))
 intro g6 cap6 w6 hown6 hgrow6 hat6 hlt6;have hB6:Below w.heap.size w w6:=hB0.grown hgrow6 (by rw[World.size_alloc];omega) (fun r e=>(how.lt r e).1);clear hgrow6 hat6;go_wp2;go_ret;exact⟨⟨g6,cap6,rfl,hown6⟩,hB6⟩
theorem M9 {w:World}{B H:Nat}{g cap:Nat}{K:List (List UInt8)}(h:w.ownsRow B 9 1 (.slice (some ⟨g,0,none⟩) K.length cap) K.length (bB K))(hH:g<H):KyAt w H (.slice (some ⟨g,0,none⟩) K.length cap) K:=by
 rcases h.2 with ⟨e0,_⟩ | ⟨g',cap',cur,e0,hb,hg,hn,hm,_⟩
 · cases e0
 · cases e0;refine⟨_,_,rfl,hn,hm,fun j hj=>⟨g,0,rfl,hH,?_⟩⟩;have:=h.cells (g:=g) rfl j (.string ⟨K[j].toArray⟩) (by unfold bB;rw[List.getElem?_map,List.getElem?_eq_getElem hj];rfl);rw[Addr.add_lit] at this;exact this
theorem sorted_world {w:World}{g cap:Nat}{K Z:List (List UInt8)}{B nn:Nat}{os:Array Obj}(hv:w.ownsRow B 9 1 (.slice (some ⟨g,0,none⟩) K.length cap) K.length (bB K))(hB:B≤w.heap.size)(hZ:Z.length=K.length) :
 Below B w (Go.Sort.grow (Go.Sort.putRow encStr (Go.Sort.ahead w nn) g 0 Z.toArray) os)∧KyAt (Go.Sort.grow (Go.Sort.putRow encStr (Go.Sort.ahead w nn) g 0 Z.toArray) os) w.heap.size (.slice (some ⟨g,0,none⟩) K.length cap) Z:=by
 have hgl:g<w.heap.size:=(hv.lt g rfl).2;refine⟨(Below.refl B w).grown (grownBy_sorted _) hB (fun r e=>by cases e;exact(hv.lt g rfl).1),?_⟩;rcases hv.2 with ⟨e0,_⟩ | ⟨g',cap',cur,e0,hb,hg,hn,hm,hs,ht⟩
 · cases e0
 · cases e0;have h2:=ownsRow_sorted (n:=nn) (os:=os) hZ hb hg hn hm hs;rw[←hZ] at h2 ⊢;exact M9 h2 hgl
theorem RR {w:World}{g cap:Nat}{K:List (List UInt8)}{B:Nat}(hv:w.ownsRow B 9 1 (.slice (some ⟨g,0,none⟩) K.length cap) K.length (bB K)):Go.Sort.Holds encStr w g 0 K.toArray:=by
 rcases hv.2 with ⟨e0,_⟩ | ⟨g',cap',cur,e0,hb,hg,hn,hm,hs,ht⟩
 · cases e0
 · cases e0;exact holds_of_block hg (by rw[Nat.mul_one] at ht;exact ht)
theorem M3 (K:List (List UInt8))(B:Nat)(v:Value)(w:World)(hv:w.ownsRow B 9 1 v K.length (bB K))(hK:0<K.length)(hl:K.length≤100)(hnd:K.Nodup)(hok:Sx.kB 64 (Sx.aR K))(hsl:Sx.sl (Sx.aR K)≤10000) :
 Calls Tryz.prog 51 #[v] w fun e w'=>e=.returned (.string ⟨(Sx.eH (Sx.bU 64 [] (Sx.aR K)).1).toArray⟩)∧Below w.heap.size w w':=by
 have HC:=hide (M4 K B v w hv hK (by omega));obtain⟨p,cap,rfl⟩:=aB hv;clear hv;go_enter Tryz.func51,Tryz.ntmps51;go_wp2_with fail
 refine HC.out.mono ?_;rintro e w1 ⟨⟨g,c1,rfl,hown⟩,hB1⟩;have hs1:=hB1.size;have hH:Go.Sort.Holds encStr w1 g 0 K.toArray:=RR hown;have hgl:g<w1.heap.size:=(hown.lt g rfl).2;have hso:=Tryz.slices_Sort_string g 0 c1 K w1 hH hgl (by omega);rw[Sx.mC K hnd] at hso;have hZl:(Sx.aR K).length=K.length:=by rw[←Sx.mC K hnd];exact List.length_mergeSort _
 have hsw:∀ nn os,Below w.heap.size w1 (Go.Sort.grow (Go.Sort.putRow encStr (Go.Sort.ahead w1 nn) g 0 (Sx.aR K).toArray) os)∧KyAt (Go.Sort.grow (Go.Sort.putRow encStr (Go.Sort.ahead w1 nn) g 0 (Sx.aR K).toArray) os) w1.heap.size (.slice (some ⟨g,0,none⟩) K.length c1) (Sx.aR K):=fun nn os=>by
  exact sorted_world (nn:=nn) (os:=os) hown hs1 hZl
 have HSO:=hide hso;have HSW:=hide hsw;obtain⟨Z,hZ⟩:∃ Z,Sx.aR K=Z:=⟨_,rfl⟩
 have HZ:=hide hZ;rw[hZ] at HSO HSW hok hsl hZl;clear hso hsw hZ hH hown;go_wp2_with fail
 refine HSO.out.mono ?_;rintro e w2 ⟨rfl,nn,os,hw2⟩;obtain⟨hB2,hky⟩:=HSW.out nn os;rw[←hw2] at hB2 hky;clear hw2 HSO HSW;have hs2:=hB2.size;have hBx:=hB1.trans hB2;have HKY:=hide hky;clear hky hB1 hB2;go_wp2_with fail
 refine(V5 w2).mono ?_;rintro e w3 ⟨rfl,hst,hB3⟩;have hky3:KyAt w3 w2.heap.size (.slice (some ⟨g,0,none⟩) K.length c1) Z:=(KyAt.below (by
  obtain⟨p',c',e1,e2,e3,e4⟩:=HKY.out;refine⟨p',c',e1,e2,e3,fun j hj=>?_⟩;obtain⟨b,off,f1,f2,f3⟩:=e4 j hj;exact⟨b,off,f1,Nat.lt_of_lt_of_le f2 hs2,f3⟩) hB3)
 have hmap:Z.map (fun x=>List.drop 0 x)=Z:=by simp
 have hak:=au w2.heap.size 64 Z 0 _ [] w3 hky3 (fun k _=>Nat.zero_le _) (by omega) (by rw[hmap];exact hok) hst (by rw[hmap];simp only[List.length_nil];omega) (by omega);rw[hmap] at hak;have hel:=Sx.gC 64 [] Z hok (by intro es hes;cases hes);obtain⟨q,hq⟩:∃ q,Sx.bU 64 [] Z=q:=⟨_,rfl⟩
 rw[hq] at hak hel;have HQ:Hid (Sx.bU 64 [] (Sx.aR K)=q):=hide (by rw[HZ.out];exact hq);have HAK:=hide hak;have hB13:=hBx.trans (hB3.mono (by have:=hBx.size;omega));have hs3:=hB3.size;simp only[List.length_nil,Nat.zero_add] at hel;have hql:q.1.length≤60000:=by omega
 clear hak hq hmap hky3 hst hel HKY hB3 hBx;obtain⟨N,hN⟩:∃ N,K.length=N:=⟨_,rfl⟩
 rw[hN] at hK HAK ⊢;go_wp2_with fail
 refine HAK.out.mono ?_;rintro e w4 ⟨hB4,_,rfl,hst4⟩;have hBy:=hB13.trans (hB4.mono (by omega));have hs4:=hBy.size;clear hB4 HAK hB13;go_wp2_with fail
 refine(J1 _ q.1 w4 hst4 hql).mono ?_;rintro e w5 ⟨rfl,hB5⟩;have hBz:=hBy.trans (hB5.mono hs4);clear hB5 hst4 hBy;go_wp2;go_ret;rw[HQ.out];exact⟨rfl,hBz⟩
theorem j8 (w:World):Calls Tryz.prog 51 #[.slice none 0 0] w fun e w'=>e=.returned (.string ⟨(Sx.eH []).toArray⟩)∧Below w.heap.size w w':=by
 have hcl:∀ w,Calls Tryz.prog 78 #[.slice none 0 0] w fun e w'=>e=.returned (.slice none 0 0)∧w'=w:=by
  intro w;have hneq:∀ w:World,(binOp BinOp.eql 51 (.slice none 0 0) (.slice none 0 0)).run Tryz.prog w=.ok (.bool true) w:=fun w=>Lib.run_eql_slice_nil _ _ _ _ _ _ _ _ Tryz.underlying51;go_enter Tryz.func78,Tryz.ntmps78;go_wp2;go_ret;exact⟨rfl,rfl⟩
 have HCL:=hide (hcl w);clear hcl;go_enter Tryz.func51,Tryz.ntmps51;go_wp2_with fail
 refine HCL.out.mono ?_;rintro e w1 ⟨rfl,rfl⟩;go_wp2_with fail
 refine(Tryz.slices_Sort_string_none none 0 _).mono ?_;rintro e w2 ⟨rfl,rfl⟩;go_wp2_with fail
 refine(V5 _).mono ?_;rintro e w3 ⟨rfl,hst,hB3⟩;go_wp2_with fail
 refine(J1 _ [] w3 hst (by simp)).mono ?_;rintro e w5 ⟨rfl,hB5⟩;have hBz:=hB3.trans (hB5.mono hB3.size);clear hB5 hst hB3;go_wp2;go_ret;exact⟨rfl,hBz⟩
open Go.RowKit
theorem M1 (X:List UInt8):Lib.indexByte X 10=if Sx.aK X<X.length then (Sx.aK X:Int) else -1:=by
 induction X with
 | nil=>rfl
 | cons x r ih =>
   unfold Lib.indexByte;by_cases hx:x=10
   · subst hx;have e:Sx.aK (10::r)=0:=by simp[Sx.aK]
     rw[e];simp
   · have e:Sx.aK (x::r)=Sx.aK r+1:=by simp[Sx.aK,hx]
     rw[if_neg (by simpa using hx),ih,e,List.length_cons];by_cases h:Sx.aK r<r.length
     · have hne:((Sx.aK r:Int) == -1)=false:=by rw[beq_eq_false_iff_ne];omega
       rw[if_pos h,hne,if_pos (show Sx.aK r+1<r.length+1 by omega)];simp
     · rw[if_neg h,if_neg (show ¬ Sx.aK r+1<r.length+1 by omega)];simp
theorem b7 (s:ByteArray)(w:World)(hs:s.size≤1000000):Calls Tryz.prog 118 #[.string s,.string ⟨#[10]⟩] w fun e w'=>(∃ f,e=.returned (.tuple #[.string ⟨(s.data.toList.take (Sx.aK s.data.toList)).toArray⟩,.string ⟨(s.data.toList.drop (Sx.aK s.data.toList+1)).toArray⟩,.bool f]))∧Below w.heap.size w w':=by
 have hi:=Tryz.stringslite_Index_one s 10 w;rw[M1,aC] at hi;have hle:=Sx.pB s.data.toList;rw[aC] at hle;have hall:Sx.aK s.data.toList=s.size→s.data.toList.take (Sx.aK s.data.toList)=s.data.toList∧s.data.toList.drop (Sx.aK s.data.toList+1)=[]:=fun h=>by
  rw[h];exact⟨by rw[←aC,List.take_length],by rw[List.drop_eq_nil_iff,aC];omega⟩
 obtain⟨L,hL⟩:∃ L,Sx.aK s.data.toList=L:=⟨_,rfl⟩
 rw[hL] at hi hle hall ⊢;have htk:(⟨(s.data.toList.take L).toArray⟩:ByteArray)=s.extract 0 L:=by
  apply ByteArray.ext;apply Array.toList_inj.1;rw[kD,List.drop_zero]
 have hdr:=qK s (L+1);by_cases hlt:L<s.size
 · rw[if_pos hlt] at hi;have HI:=hide hi;have HTK:=hide htk;have HDR:=hide hdr;clear hi hall htk hdr hL;go_enter Tryz.func118,Tryz.ntmps118;go_wp2_with fail
   refine HI.out.mono ?_;rintro e w1 ⟨rfl,rfl⟩;go_wp2;go_quiet ((fail))
   go_wp2
   go_ret3
   exact⟨⟨true,by rw[HTK.out,←HDR.out];rfl⟩,Go.below_drewN (Below.refl _ _) _⟩
 · rw[if_neg hlt] at hi;have HI:=hide hi;obtain⟨h1,h2⟩:=hall (by omega);rw[h1,h2];clear hi hall htk hdr hL h1 h2;go_enter Tryz.func118,Tryz.ntmps118;go_wp2_with fail
   refine HI.out.mono ?_;rintro e w1 ⟨rfl,rfl⟩;go_wp2
   go_ret3
   exact⟨⟨_,rfl⟩,Below.refl _ _⟩
theorem N5 (s:ByteArray)(w:World)(hs:s.size≤1000000):Calls Tryz.prog 75 #[.string s,.string ⟨#[10]⟩] w fun e w'=>(∃ f,e=.returned (.tuple #[.string ⟨(s.data.toList.take (Sx.aK s.data.toList)).toArray⟩,.string ⟨(s.data.toList.drop (Sx.aK s.data.toList+1)).toArray⟩,.bool f]))∧Below w.heap.size w w':=by
 have HC:=hide (b7 s w hs);obtain⟨A,hA⟩:∃ A:ByteArray,⟨(s.data.toList.take (Sx.aK s.data.toList)).toArray⟩=A:=⟨_,rfl⟩
 obtain⟨Z,hZ⟩:∃ Z:ByteArray,⟨(s.data.toList.drop (Sx.aK s.data.toList+1)).toArray⟩=Z:=⟨_,rfl⟩
 rw[hA,hZ] at HC ⊢;clear hA hZ;go_enter Tryz.func75,Tryz.ntmps75;go_wp2_with fail
 refine HC.out.mono ?_;rintro e w1 ⟨⟨f,rfl⟩,hB⟩;go_wp2
 go_ret3
 exact⟨⟨f,rfl⟩,hB⟩
def I5 (W:World)(b:Nat)(R:List Sx.Rl×Int×Int):Prop:=∃ sec,RdrAt W b R.1 sec R.2.2 R.2.1
theorem ZG (rs:List Sx.Rl)(sec:UInt8)(x:List UInt8)(h:(Sx.aU rs sec x).2≠0):(Sx.aU rs sec x).1.1=rs:=by
 unfold Sx.aU at h ⊢;split
 · rfl
 · split
   · rfl
   · split
     · rfl
     · cases hr:Sx.cN x sec with
       | none=>rfl
       | some r =>
         simp only;split
         · rfl
         · split
           · rfl
           · rename_i h1 h2 h3 h4 h5;rw[if_neg h1,if_neg h2,if_neg h3,hr] at h;simp only[h5,if_false,h4] at h;exact absurd rfl h
theorem N9 (w0:World)(hw:gW w0)(b:Nat)(hb0:w0.heap.size≤b)(s:ByteArray)(rs:List Sx.Rl)(sec:UInt8)(n:Int)(w:World)(hB0:Below w0.heap.size w0 w)(hr:RdrAt w b rs sec n 0)(hok:Sx.RlsOk rs)(hs:s.size≤1000000)(hn0:0≤n)(hn1:n+s.size≤100000000) :
 Calls Tryz.prog 48 #[.string s,.func (.func 49) #[.pointer (some ⟨b,0,none⟩)] #[]] w fun e w'=>(∃ v,e=.returned v)∧Below w0.heap.size w0 w'∧I5 w' b (Sx.bM (Sx.bJ s.data.toList) rs sec n):=by
 obtain⟨R,hR⟩:∃ R,Sx.bM (Sx.bJ s.data.toList) rs sec n=R:=⟨_,rfl⟩
 rw[hR];have HR:=hide hR;have HRD:=hide hr;have HOK:=hide hok;have HW:=hide hw;have HB0:=hide hB0;clear hR hr hok hw hB0;go_enter Tryz.func48,Tryz.ntmps48;go_wp2
 go_loopw [4] (fun v wr=>∃ (Q:ByteArray) (rs':List Sx.Rl) (sec':UInt8) (n':Int),v=.string Q∧RdrAt wr b rs' sec' n' 0∧Sx.RlsOk rs'∧Sx.bM (Sx.bJ Q.data.toList) rs' sec' n'=R∧Q.size≤1000000∧0≤n'∧n'+Q.size≤100000000∧Below w0.heap.size w0 wr) (fun v _=>J2 v)
 case atStart=>exact⟨s,rs,sec,n,rfl,HRD.out,HOK.out,HR.out,hs,hn0,hn1,HB0.out⟩
 case round =>
  clear HRD HOK HR HB0 hn0 hn1;obtain⟨Q,rs',sec',n',rfl,hrd,hok,hadd,hQ,hn0,hn1,hB⟩:=hrel;by_cases hne:Q.data.toList=[]
  · have he:(Q.toList == [])=true:=by rw[ByteArray.toList_eq,hne];rfl
    have he2:Q.toList.isEmpty=true:=by rw[ByteArray.toList_eq,hne];rfl
    rw[hne] at hadd;have HA:=hide hadd;clear hne hadd;go_wp2;go_end0;exact⟨⟨_,rfl⟩,hB,sec',by rw[←HA.out];exact hrd⟩
  · have he2:Q.toList.isEmpty=false:=by
     rw[ByteArray.toList_eq];cases h:Q.data.toList with
     | nil=>exact absurd h hne
     | cons _ _=>rfl
    have hlm:=Sx.qI hne;have hll:=Sx.pB Q.data.toList;have HCUT:=hide (N5 Q wr hQ);have hzl:(Q.data.toList.drop (Sx.aK Q.data.toList+1)).length+1≤Q.size:=by
     have h1:=List.length_pos_iff.2 hne;rw[List.length_drop,aC] at *;omega
    obtain⟨A,hA⟩:∃ A:ByteArray,⟨(Q.data.toList.take (Sx.aK Q.data.toList)).toArray⟩=A:=⟨_,rfl⟩
    obtain⟨Z,hZ⟩:∃ Z:ByteArray,⟨(Q.data.toList.drop (Sx.aK Q.data.toList+1)).toArray⟩=Z:=⟨_,rfl⟩
    have hAl:Q.data.toList.take (Sx.aK Q.data.toList)=A.data.toList:=by rw[←hA]
    have hZl:Q.data.toList.drop (Sx.aK Q.data.toList+1)=Z.data.toList:=by rw[←hZ]
    rw[hA,hZ] at HCUT;rw[hAl,hZl] at hlm;rw[hZl,aC] at hzl;rw[hlm] at hadd;have HADD:=hide hadd;have HRD:=hide hrd;have HOK:=hide hok;have hsz:=hB.size;have hbl:=hrd.lt;have HB:=hide hB;clear hlm hadd hA hZ hAl hZl hll hne hrd hok hB;go_wp2_with fail
    refine HCUT.out.mono ?_;rintro e w1 ⟨⟨f,rfl⟩,hB1⟩;have hBa:=HB.out.trans (hB1.mono hsz);have HT:=hide (X6 b rs' sec' n' 0 A w1 (bA _ _ HW.out hBa) (HRD.out.below hB1) HOK.out.many hn0 (by omega));have HBA:=hide hBa;have hsa:=hBa.size;clear hB1 hBa HCUT HB;by_cases h0:(Sx.aU rs' sec' A.data.toList).2=0
    · have ht:=HT.out;rw[decide_eq_true h0] at ht;have HT2:=hide ht;clear ht HT;go_wp2_with fail
      refine HT2.out.mono ?_;rintro e w2 ⟨rfl,hB2,ht2⟩;unfold MI at ht2;rw[if_pos h0] at ht2;have hok2:Sx.RlsOk (Sx.aU rs' sec' A.data.toList).1.1:=Sx.vC HOK.out;have hadd2:Sx.bM (Sx.bJ Z.data.toList) (Sx.aU rs' sec' A.data.toList).1.1 (Sx.aU rs' sec' A.data.toList).1.2 (n'+1)=R:=by
       rw[←HADD.out,Sx.bM,if_pos h0]
      have HT3:=hide ht2;have HOK2:=hide hok2;have HADD2:=hide hadd2;have HB2:Hid (Below w0.heap.size w0 w2):=hide (HBA.out.trans (hB2.mono hb0));clear ht2 hok2 hadd2 hB2 h0 HADD;go_wp2;exact⟨⟨Z,_,_,n'+1,rfl,HT3.out,HOK2.out,HADD2.out,by omega,by omega,by omega,HB2.out⟩,by show Z.size<Q.size;omega⟩
    · have ht:=HT.out;rw[decide_eq_false h0] at ht;have HT2:=hide ht;clear ht HT;go_wp2_with fail
      refine HT2.out.mono ?_;rintro e w2 ⟨rfl,hB2,ht2⟩;unfold MI at ht2;rw[if_neg h0,ZG _ _ _ h0] at ht2;have hadd2:R=(rs',(Sx.aU rs' sec' A.data.toList).2,n'):=by
       rw[←HADD.out,Sx.bM,if_neg h0]
      have HT3:=hide ht2;have HADD2:=hide hadd2;have HB2:Hid (Below w0.heap.size w0 w2):=hide (HBA.out.trans (hB2.mono hb0));clear ht2 hadd2 hB2 h0 HADD;go_wp2;refine bodyPost_ret (results_none rfl _ _ _) rfl ?_;obtain⟨sc,hx⟩:=HT3.out;exact⟨⟨_,rfl⟩,HB2.out,sc,by rw[HADD2.out];exact hx⟩
theorem EJ:∀ (l:List (List UInt8)) (rs:List Sx.Rl) (sec:UInt8) (n:Int),n≤(Sx.bM l rs sec n).2.2∧(Sx.bM l rs sec n).2.2≤n+l.length
 | [],_,_,n=>⟨Int.le_refl _,by simp[Sx.bM]⟩
 | x::r,rs,sec,n=>by
   unfold Sx.bM;split
   · have:=EJ r (Sx.aU rs sec x).1.1 (Sx.aU rs sec x).1.2 (n+1);rw[List.length_cons];omega
   · simp only[List.length_cons];omega
theorem mK:∀ (s cur:List UInt8),(Sx.dH s cur).length≤s.length+(if cur=[] then 0 else 1)
 | [],cur=>by unfold Sx.dH;split <;> simp
 | x::r,cur=>by
   unfold Sx.dH;split
   · have:=mK r [];rw[if_pos rfl] at this;simp only[List.length_cons];omega
   · have:=mK r (cur++[x]);rw[if_neg (by simp)] at this;simp only[List.length_cons];omega
theorem GG (s:List UInt8):(Sx.bJ s).length≤s.length:=by
 have:=mK s [];rw[if_pos rfl] at this;exact this
theorem L8 (w0:World)(hw:gW w0)(b:Nat)(hb0:w0.heap.size≤b)(L:List (List UInt8))(v:Value)(w:World)(hB0:Below w0.heap.size w0 w)(hrd:RdS w0 v L)(hr:RdrAt w b [] 0 0 0)(hsl:Sx.sl L≤2000)(hL:L.length≤1000000000000) :
 Calls Tryz.prog 23 #[.pointer (some ⟨b,0,none⟩),v] w fun e w'=>(∃ v,e=.returned v)∧Below w0.heap.size w0 w'∧I5 w' b (Sx.aQ L [] 0):=by
 obtain⟨p,cap,rfl,hrd⟩:=hrd;have HRD:=hide hrd;have HR:=hide hr;have HW:=hide hw;have HB0:=hide hB0;clear hrd hr hw hB0;go_enter Tryz.func23,Tryz.ntmps23;go_wp2
 go_loopw [8] (fun i wr=>∃ (k:Nat) (rs':List Sx.Rl) (sec':UInt8) (n':Int),i=.int .i64 k∧k≤L.length∧RdrAt wr b rs' sec' n' 0∧Sx.RlsOk rs'∧Sx.aQ (L.drop k) rs' n'=Sx.aQ L [] 0∧0≤n'∧n'+Sx.sl (L.drop k)≤2000∧Below w0.heap.size w0 wr) (fun i _=>(L.length-intOf i).toNat)
 case atStart=>exact⟨0,[],0,0,rfl,by omega,HR.out,Sx.nN,rfl,by omega,by rw[List.drop_zero];omega,HB0.out⟩
 case round =>
  clear HR HB0;obtain⟨k,rs',sec',n',rfl,hk,hrd,hok,hadd,hn0,hn1,hB⟩:=hrel;by_cases hlt:k<L.length
  · obtain⟨bb,off,rfl,hbb,hc⟩:=HRD.out k hlt;have hc2:=(hB.cell (p:=⟨bb,off+k,none⟩) hbb).trans hc;have hdr:=List.drop_eq_getElem_cons hlt;have hsd:=NE L k hlt;obtain⟨s,hs⟩:∃ s,L[k]=s:=⟨_,rfl⟩
    rw[hs] at hc2 hdr hsd;rw[hdr,sT] at hadd;obtain⟨S,hS⟩:∃ S:ByteArray,⟨s.toArray⟩=S:=⟨_,rfl⟩
    have hSl:S.data.toList=s:=by rw[←hS]
    have hSz:S.size=s.length:=by rw[←hS];rfl
    rw[hS] at hc2;have hr2:=hrd.sets 105;have hB2:=hB.setCell (p:=⟨b,1,none⟩) hb0 (.int .u8 105);have HLN:=hide (N9 w0 HW.out b hb0 S rs' 105 n' _ hB2 hr2 hok (by omega) hn0 (by omega));rw[hSl] at HLN;have hnn:=EJ (Sx.bJ s) rs' 105 n';have hll:=GG s;have hok2:=Sx.nP (Sx.bJ s) rs' 105 n' hok;obtain⟨q1,q2,q3,f1,f2,f3⟩:=hrd.cells;obtain⟨⟨rs2,m2,n2⟩,hX⟩:∃ X,Sx.bM (Sx.bJ s) rs' 105 n'=X:=⟨_,rfl⟩
    rw[hX] at HLN hnn hok2 hadd;dsimp only at hnn hok2;have hn3:0≤n2:=by omega
    have hn4:n2+Sx.sl (L.drop (k+1))≤2000:=by omega
    have HADD:=hide hadd;have HOK2:=hide hok2;clear hdr hsd hs hS hSl hSz hc hX hnn hll hadd hr2 hok hok2 hB2 hrd hB;go_wp2_with fail
    refine HLN.out.mono ?_;rintro e w2 ⟨⟨ev,rfl⟩,hB3,sc3,hr3⟩;dsimp only at hr3;obtain⟨p1,p2,p3,g1,g2,g3⟩:=hr3.cells;by_cases hm:m2=0
    · subst hm;have HR3:=hide hr3;have HB3:=hide hB3;clear hr3 hB3;go_wp2;exact⟨⟨k+1,rs2,sc3,n2,by go_num,by omega,HR3.out,HOK2.out,by rw[←HADD.out];rfl,hn3,hn4,HB3.out⟩,by simp[intOf];omega⟩
    · have hmb:(m2 != 0)=true:=by simpa using hm
      have HF:Hid ((rs2,m2,n2)=Sx.aQ L [] 0):=hide (by rw[←HADD.out];unfold zQ;rw[if_neg hm]);have HR3:=hide hr3;have HB3:=hide hB3;clear hr3 hB3;go_wp2;refine bodyPost_ret (results_none rfl _ _ _) rfl ?_;exact⟨⟨_,rfl⟩,HB3.out,sc3,by rw[←HF.out];exact HR3.out⟩
  · have hkl:k=L.length:=by omega
    subst hkl;rw[List.drop_length] at hadd;have HADD:=hide hadd;clear hadd hlt hk hn1;go_wp2;go_end0;exact⟨⟨_,rfl⟩,hB,sec',by rw[←HADD.out];exact hrd⟩
theorem X2 (l:List Sx.Wd)(M:Nat)(h:∀ w∈l,w.length≤M):Sx.sl l≤l.length*M:=by
 induction l with
 | nil=>simp[Sx.sl]
 | cons x r ih =>
   have h1:=ih (fun w hw=>h w (by simp[hw]));have h2:=h x (by simp);have e:Sx.sl (x::r)=x.length+Sx.sl r:=by simp[Sx.sl]
   rw[e,List.length_cons,Nat.succ_mul];omega
theorem JX (rs:List Sx.Rl)(v:Value)(w:World)(hv:PrAt w v rs)(hok:Sx.RlsOk rs):Calls Tryz.prog 24 #[v] w fun e w'=>e=.returned (.string ⟨(Sx.eH (Sx.aW rs)).toArray⟩)∧Below w.heap.size w w':=by
 obtain⟨i0,hi,hz0,hz1,hz2⟩:=info_parts Tryz.info9;obtain⟨p,cap,rfl,hrd⟩:=hv;have HRD:=hide hrd;have HOK:=hide hok;have hN:=hok.many;clear hrd hok;go_enter Tryz.func24,Tryz.ntmps24;go_wp2
 go_loopw [3,8] (fun kv iv wr=>∃ k:Nat,iv=.int .i64 k∧k≤rs.length∧wr.ownsRow w.heap.size 9 1 kv k (bB ((rs.take k).map Sx.aL))∧(k=0→kv=.slice none 0 0)∧Below w.heap.size w wr) (fun _ iv _=>(rs.length-intOf iv).toNat)
 case atStart=>exact⟨0,rfl,by omega,World.ownsRow_nil _ _ _ _,fun _=>rfl,Below.refl _ _⟩
 case round =>
  obtain⟨k,rfl,hk,hown,hnil,hB⟩:=hrel;have hsz:=hB.size;by_cases hlt:k<rs.length
  · obtain⟨b,rfl,hb,c1,c2,c3,c4⟩:=HRD.out k hlt;have d1:=(hB.cell (p:=⟨b,k*4,none⟩) hb).trans c1;have d2:=(hB.cell (p:=⟨b,k*4+1,none⟩) hb).trans c2;have d3:=(hB.cell (p:=⟨b,k*4+2,none⟩) hb).trans c3;have d4:=(hB.cell (p:=⟨b,k*4+3,none⟩) hb).trans c4;have hrl:=HOK.out.ok rs[k] (List.getElem_mem hlt);have hkt:(rs.take (k+1)).map Sx.aL=(rs.take k).map Sx.aL++[Sx.aL rs[k]]:=by rw[List.take_succ_eq_append_getElem hlt,List.map_append];rfl
    have hky:=fun w=>V9 rs[k] w hrl;obtain⟨⟨qh,qk,qs⟩,hq⟩:∃ q,rs[k]=q:=⟨_,rfl⟩
    rw[hq] at d1 d2 d3 d4 hkt hky;have hra:iL (qh,qk,qs)=.agg #[.int .u8 qk.toNat,.string ⟨(Sx.aA qh).toArray⟩,.int .i64 qh.length,.int .u8 qs.toNat]:=rfl;rw[hra] at hky;dsimp only at d1 d2 d3 d4;obtain⟨D,hD⟩:∃ D:ByteArray,⟨(Sx.aA qh).toArray⟩=D:=⟨_,rfl⟩
    obtain⟨N,hN2⟩:∃ N,qh.length=N:=⟨_,rfl⟩
    rw[hD] at d2 hky;rw[hN2] at d3 hky;obtain⟨X,hX⟩:∃ X:ByteArray,⟨(Sx.aL (qh,qk,qs)).toArray⟩=X:=⟨_,rfl⟩
    rw[hX] at hky;have hst:bB ((rs.take (k+1)).map Sx.aL)=bB ((rs.take k).map Sx.aL)++[.string X]:=by
     rw[hkt,gB];unfold bB;rw[List.map_cons,List.map_nil,hX]
    have HST:=hide hst;have HKY:=hide hky;obtain⟨kp,kc,rfl⟩:=aB hown;clear c1 c2 c3 c4 hkt hky hra hD hN2 hX hq hrl hst hnil;go_wp2_with fail
    refine(HKY.out _).mono ?_;rintro e w2 ⟨rfl,hB2⟩;have hBa:Below wr.heap.size wr w2:=((Below.refl _ wr).alloc (Nat.le_refl _) _).trans (hB2.mono (by rw[World.size_alloc];exact Nat.le_succ _));have hown2:=aD hown hBa;have hB3:=hB.trans (hBa.mono hsz);have hsz3:=hB3.size;clear hB2 hBa hown hB;go_wp2_with (at_builtin;go_must (refine wpList_append_lies _ rfl _ _ _ rfl w.heap.size 9 i0 (.string ⟨#[]⟩) 1 16 Tryz.underlying51 hi hz0 hz1 hz2 rfl (by decide) _ _ _ rfl (hown2.alloc _) ⟨_,0,none⟩ 1 1 [.string X] rfl rfl (cell_one_new _ _ _) (by simp[Value.oneCell']) (by omega) (by unfold maxLen;omega) (by omega) (by simp;omega) _ rfl ?_;intro g6 cap6 w6 hown6 hgrow6 hat6 hlt6))
    exact⟨⟨k+1,by go_num,by omega,by rw[HST.out];exact hown6,fun h=>by omega,aH hB3 hsz3 hown2 hgrow6⟩,by simp[intOf];omega⟩
  · have hkl:k=rs.length:=by omega
    subst hkl;rw[List.take_length] at hown;clear hlt hk;by_cases h0:rs=[]
    · subst h0;have hkv:=hnil rfl;subst hkv;clear hnil hown;go_wp2_with fail
      refine(j8 wr).mono ?_;rintro e w2 ⟨rfl,hB2⟩;have hBe:=hB.trans (hB2.mono hsz);clear hB2;go_wp2;go_ret;exact⟨rfl,hBe⟩
    · have hfree:=Sx.kU HOK.out.ok HOK.out.apart;have hko:=Sx.nV HOK.out h0;have hso:=Sx.iJ _ (Sx.eT hfree);have hlen:(Sx.aR (rs.map Sx.aL)).length=rs.length:=by
       rw[←Sx.mC _ (Sx.eT hfree),List.length_mergeSort,List.length_map]
      have hslb:Sx.sl (Sx.aR (rs.map Sx.aL))≤10000:=by
       have h1:=X2 (Sx.aR (rs.map Sx.aL)) 64 (fun x hx=>by
        obtain⟨r,hr,rfl⟩:=List.mem_map.1 ((hso.2 x).1 hx);exact Nat.le_of_lt (Sx.jC (HOK.out.ok r hr)))
       rw[hlen] at h1;have h2:rs.length*64≤30*64:=Nat.mul_le_mul_right _ hN;omega
      have hpos:0<rs.length:=List.length_pos_iff.2 h0;have hml:(rs.map Sx.aL).length=rs.length:=List.length_map _;have hpi:=M3 (rs.map Sx.aL) w.heap.size _ wr (by rw[hml];exact hown) (by rw[hml];exact hpos) (by rw[hml];omega) (Sx.eT hfree) hko.1 hslb;have htab:(Sx.bU 64 [] (Sx.aR (rs.map Sx.aL))).1=Sx.aW rs:=by unfold Sx.aW;rw[if_neg h0]
      rw[htab] at hpi;have HPI:=hide hpi;obtain⟨kp,kc,rfl⟩:=aB hown;clear hfree hko hso hlen hslb hpos hml hpi htab hown hnil;go_wp2_with fail
      refine HPI.out.mono ?_;rintro e w2 ⟨rfl,hB2⟩;have hBe:=hB.trans (hB2.mono hsz);clear hB2;go_wp2;go_ret;exact⟨rfl,hBe⟩
theorem G9 (L:List (List UInt8))(v:Value)(w:World)(hw:gW w)(hrd:RdS w v L)(hL:L.length≤1000000000000):Calls Tryz.prog 6 #[v] w fun e w'=>e=.returned (.tuple #[.string ⟨(Sx.fS L).1.toArray⟩,.int .i64 (Sx.fS L).2.1,.int .i64 (Sx.fS L).2.2])∧Below w.heap.size w w':=by
 have HLG:=hide (Y2 L v w hrd hL);obtain⟨p,cap,hv,hrd2⟩:=hrd;by_cases hbig:2000<Sx.sl L
 · have hc:Sx.fS L=([],1,0):=by unfold Sx.fS;rw[if_pos hbig]
   have hlg:=HLG.out;rw[decide_eq_true hbig] at hlg;have HL2:=hide hlg;have HC:=hide hc;subst hv;clear hc hbig hlg HLG hrd2;go_enter Tryz.func6,Tryz.ntmps6;go_wp2_with fail
   refine HL2.out.mono ?_;rintro e w1 ⟨rfl,rfl⟩;go_wp2
   go_ret3
   exact⟨by rw[HC.out];rfl,Below.refl _ _⟩
 · have hlg:=HLG.out;rw[decide_eq_false hbig] at hlg;have HL2:=hide hlg;have hB0:Below w.heap.size w (w.alloc (.cells #[.slice none 0 0,.int .u8 0,.int .i64 0,.int .i64 0] 57)):=(Below.refl _ _).alloc (Nat.le_refl _) _;have hr0:RdrAt (w.alloc (.cells #[.slice none 0 0,.int .u8 0,.int .i64 0,.int .i64 0] 57)) w.heap.size [] 0 0 0:=⟨.slice none 0 0,heap_alloc_new _ _,World.ownsRow_nil _ _ _ _⟩
   have HRA:=hide (L8 w hw w.heap.size (Nat.le_refl _) L v _ hB0 ⟨p,cap,hv,hrd2⟩ hr0 (by omega) hL);have hok:=Sx.sJ L [] 0 Sx.nN;have hc:Sx.fS L=if (Sx.aQ L [] 0).2.1=0 then (Sx.eH (Sx.aW (Sx.aQ L [] 0).1),0,0) else ([],(Sx.aQ L [] 0).2.1,(Sx.aQ L [] 0).2.2):=by
    unfold Sx.fS;rw[if_neg hbig]
   obtain⟨⟨rs,m,n⟩,hA⟩:∃ A,Sx.aQ L [] 0=A:=⟨_,rfl⟩
   rw[hA] at HRA hok hc;dsimp only at hok hc;have HC:=hide hc;have HOK:=hide hok;subst hv;clear hc hbig hlg HLG hrd2 hA hok hw hB0 hr0;go_enter Tryz.func6,Tryz.ntmps6;go_wp2_with fail
   refine HL2.out.mono ?_;rintro e w1 ⟨rfl,rfl⟩;go_wp2_with fail
   refine HRA.out.mono ?_;rintro e w2 ⟨⟨ev,rfl⟩,hB2,sc,rv,hbx,hrow⟩;dsimp only at hbx hrow;obtain⟨⟨q0,q1,q2,q3⟩,f0,f1,f2,f3⟩:=iM hbx;by_cases hm:m=0
   · subst hm;have HI:=hide (fun w (h:Below w2.heap.size w2 w)=>JX rs rv w ((lA hrow).below h) HOK.out);obtain⟨vp,vc,rfl⟩:=aB hrow;have hs2:=hB2.size;clear hbx hrow;go_wp2_with fail
     refine(HI.out w2 (Below.refl _ _)).mono ?_;rintro e w3 ⟨rfl,hB3⟩;have hBe:=hB2.trans (hB3.mono hs2);clear hB3 hB2 HI;go_wp2
     go_ret3
     exact⟨by rw[HC.out];rfl,hBe⟩
   · have hmb:(m != 0)=true:=by simpa using hm
     have HM:=hide hm;clear hbx hrow hm;go_wp2;go_quiet ((fail))
     go_wp2
     go_ret3
     exact⟨by rw[HC.out,if_neg HM.out];rfl,Go.below_drewN hB2 _⟩
end Go.Proofs.YtgohllfpceeboabGreatDoor
