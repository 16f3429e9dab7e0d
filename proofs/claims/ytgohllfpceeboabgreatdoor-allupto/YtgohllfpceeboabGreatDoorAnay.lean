import Derived.Deep.RegionHeldLaw
import Derived.Test.YtgohllfpceeboabGreatDoorAnaw
import Derived.Test.YtgohllfpceeboabGreatDoorAnax
import Derived.Deep.RegionLaw
import Derived.Shelf.Strings.OnBuilder
import Derived.Shelf.Strings.Search1
import Derived.Shelf.Strings.Search2
import Derived.Shelf.Sort.Plain
import Derived.Shelf.Slices.In.SortNone
set_option maxRecDepth 100000
set_option maxHeartbeats 1000000
namespace Go.Proofs.YtgohllfpceeboabGreatDoor
theorem Tryz.info82 : (Tryz.prog.info? 82).map (fun i => (i.zero, i.size, i.bytes)) = some (some (.agg #[.int .u8 0, .string ⟨#[]⟩, .int .i64 0, .int .u8 0]), 4, 40) := by kernel_rfl
open Go.RowKit
def KZ (r:Sx.Rl):List Value:=[.int .u8 r.2.1.toNat,.string ⟨(Sx.aA r.1).toArray⟩,.int .i64 r.1.length,.int .u8 r.2.2.toNat]
def tR (rs:List Sx.Rl):List Value:=rs.flatMap KZ
theorem MY (a b:List Sx.Rl):tR (a++b)=tR a++tR b:=by simp[tR]
theorem ZX:∀ (l:List Sx.Rl) (j:Nat) (h:j<l.length),(tR l)[j*4]? = some (.int .u8 l[j].2.1.toNat)∧(tR l)[j*4+1]? = some (.string ⟨(Sx.aA l[j].1).toArray⟩)∧(tR l)[j*4+2]? = some (.int .i64 l[j].1.length)∧(tR l)[j*4+3]? = some (.int .u8 l[j].2.2.toNat):=by
 intro l
 induction l with
 | nil=>intro j h;exact absurd h (Nat.not_lt_zero _)
 | cons x r ih =>
   intro j h;have e:tR (x::r)=Value.int .u8 x.2.1.toNat::Value.string ⟨(Sx.aA x.1).toArray⟩::Value.int .i64 x.1.length::Value.int .u8 x.2.2.toNat::tR r:=rfl;cases j with
   | zero=>rw[e];exact⟨rfl,rfl,rfl,rfl⟩
   | succ j =>
     have:=ih j (by simpa using h);rw[e,show(j+1)*4=j*4+1+1+1+1 from by omega]
     simpa using this
def PrAt (W:World)(v:Value)(rs:List Sx.Rl):Prop:=∃ p cap,v=.slice p rs.length cap∧∀ j (h:j<rs.length),∃ b,p=some ⟨b,0,none⟩∧b<W.heap.size∧W.cell? ⟨b,j*4,none⟩=some (.int .u8 rs[j].2.1.toNat)∧W.cell? ⟨b,j*4+1,none⟩=some (.string ⟨(Sx.aA rs[j].1).toArray⟩)∧W.cell? ⟨b,j*4+2,none⟩=some (.int .i64 rs[j].1.length)∧W.cell? ⟨b,j*4+3,none⟩=some (.int .u8 rs[j].2.2.toNat)
theorem lA {W:World}{B:Nat}{v:Value}{rs:List Sx.Rl}(h:W.ownsRow B 82 4 v rs.length (tR rs)):PrAt W v rs:=by
 obtain⟨p,cap,hv⟩:=aB h;refine⟨p,cap,hv,fun j hj=>?_⟩;rcases h.2 with ⟨e1,e2⟩ | ⟨g,cap,cur,e1,e2,e3,e4⟩
 · omega
 · have hp:p=some ⟨g,0,none⟩:=by rw[hv] at e1;injection e1
   obtain⟨a1,a2,a3,a4⟩:=ZX rs j hj;have c1:=h.cells (g:=g) (by rw[e1];rfl) _ _ a1;have c2:=h.cells (g:=g) (by rw[e1];rfl) _ _ a2;have c3:=h.cells (g:=g) (by rw[e1];rfl) _ _ a3;have c4:=h.cells (g:=g) (by rw[e1];rfl) _ _ a4;rw[Addr.add_lit,Nat.zero_add] at c1 c2 c3 c4;exact⟨g,hp,(Array.getElem?_eq_some_iff.1 e3).1,c1,c2,c3,c4⟩
theorem PrAt.below {W W':World}{v:Value}{rs:List Sx.Rl}(h:PrAt W v rs)(hb:Below W.heap.size W W'):PrAt W' v rs:=by
 obtain⟨p,cap,h1,h2⟩:=h;refine⟨p,cap,h1,fun j hj=>?_⟩;obtain⟨b,e1,e2,c1,c2,c3,c4⟩:=h2 j hj;exact⟨b,e1,Nat.lt_of_lt_of_le e2 hb.size,(hb.cell (p:=⟨b,j*4,none⟩) e2).trans c1,(hb.cell (p:=⟨b,j*4+1,none⟩) e2).trans c2,(hb.cell (p:=⟨b,j*4+2,none⟩) e2).trans c3,(hb.cell (p:=⟨b,j*4+3,none⟩) e2).trans c4⟩
def M8 (r q:Sx.Rl):Bool:=decide (Sx.aA q.1=Sx.aA r.1) && decide (q.2.1=r.2.1)
theorem Z3 (r q:Sx.Rl)(w:World):Calls Tryz.prog 146 #[iL r,iL q] w fun e w'=>e=.returned (.bool (M8 r q))∧Below w.heap.size w w':=by
 obtain⟨h,k,sc⟩:=r;obtain⟨h2,k2,sc2⟩:=q;unfold iL M8;dsimp only;generalize h.length=N1;generalize h2.length=N2;generalize Sx.aA h=D1;generalize Sx.aA h2=D2;have hB:∀ o o2:Obj,Below w.heap.size w ((w.alloc o).alloc o2):=fun o o2=>((Below.refl _ _).alloc (Nat.le_refl _) _).alloc (by rw[World.size_alloc];exact Nat.le_succ _) _;have HB:=hide hB;clear hB;by_cases hk:k=k2
 · subst hk;have hd:(decide (D2=D1) && decide (k=k))=((⟨D1.toArray⟩:ByteArray).toList == (⟨D2.toArray⟩:ByteArray).toList):=by
    rw[ByteArray.toList_eq,ByteArray.toList_eq];by_cases h:D2=D1
    · simp[h]
    · simp[h,Ne.symm h]
   rw[hd];clear hd;go_enter Tryz.func146,Tryz.ntmps146;go_wp2_with fail
   go_ret;exact⟨by first | rfl | simp,HB.out _ _⟩
 · have hkb:((k.toNat:Int) == (k2.toNat:Int))=false:=by
    rw[beq_eq_false_iff_ne];intro e;exact hk (UInt8.toNat_inj.1 (by omega))
   have hkn:¬ (k.toNat:Int)=(k2.toNat:Int):=by simpa using hkb
   have hd:(decide (D2=D1) && decide (k2=k))=false:=by simp[Ne.symm hk]
   rw[hd];clear hd;go_enter Tryz.func146,Tryz.ntmps146;go_wp2_with fail
   go_ret;exact⟨rfl,HB.out _ _⟩
theorem ae (rs:List Sx.Rl)(r:Sx.Rl)(v:Value)(w:World)(hv:PrAt w v rs)(hn:rs.length≤1000):Calls Tryz.prog 200 #[v,.func (.func 146) #[iL r] #[]] w fun e w'=>Below w.heap.size w w'∧∃ i:Int,e=.returned (.int .i64 i)∧decide (0≤i)=Sx.known rs r:=by
 obtain⟨p,cap,rfl,hrd⟩:=hv;have HRD:=hide hrd;have hK:∀ q:Sx.Rl,∀ w,Calls Tryz.prog 146 #[iL r,.agg #[.int .u8 q.2.1.toNat,.string ⟨(Sx.aA q.1).toArray⟩,.int .i64 q.1.length,.int .u8 q.2.2.toNat]] w fun e w'=>e=.returned (.bool (M8 r q))∧Below w.heap.size w w':=fun q w=>Z3 r q w;have HK:=hide hK;clear hrd hK;obtain⟨A,hA⟩:∃ A,iL r=A:=⟨_,rfl⟩
 rw[hA] at HK ⊢;clear hA;go_enter Tryz.func200,Tryz.ntmps200;go_wp2
 go_loopw [8] (fun i wr=>∃ k:Nat,i=.int .i64 k∧k≤rs.length∧Sx.known (rs.take k) r=false∧Below w.heap.size w wr) (fun i _=>(rs.length-intOf i).toNat)
 case atStart=>exact⟨0,rfl,by omega,rfl,Below.refl _ _⟩
 case round =>
  obtain⟨k,rfl,hk,hkn,hB⟩:=hrel;have hsz:=hB.size;by_cases hlt:k<rs.length
  · obtain⟨b,rfl,hb,c1,c2,c3,c4⟩:=HRD.out k hlt;have d1:=(hB.cell (p:=⟨b,k*4,none⟩) hb).trans c1;have d2:=(hB.cell (p:=⟨b,k*4+1,none⟩) hb).trans c2;have d3:=(hB.cell (p:=⟨b,k*4+2,none⟩) hb).trans c3;have d4:=(hB.cell (p:=⟨b,k*4+3,none⟩) hb).trans c4;have hst:Sx.known (rs.take (k+1)) r=M8 r rs[k]:=by
     unfold Sx.known at hkn ⊢;rw[List.take_succ_eq_append_getElem hlt,List.any_append,hkn];simp[M8]
    have hin:M8 r rs[k]=true→Sx.known rs r=true:=fun h=>by
     unfold Sx.known;rw[List.any_eq_true];exact⟨rs[k],List.getElem_mem hlt,h⟩
    have hc:=HK.out rs[k];obtain⟨⟨qh,qk,qs⟩,hq⟩:∃ q,rs[k]=q:=⟨_,rfl⟩
    rw[hq] at d1 d2 d3 d4 hst hin hc;dsimp only at d1 d2 d3 d4 hc;obtain⟨D,hD⟩:∃ D:ByteArray,⟨(Sx.aA qh).toArray⟩=D:=⟨_,rfl⟩
    obtain⟨N,hN⟩:∃ N,qh.length=N:=⟨_,rfl⟩
    rw[hD] at d2 hc;rw[hN] at d3 hc;obtain⟨B,hB0⟩:∃ B,M8 r (qh,qk,qs)=B:=⟨_,rfl⟩
    rw[hB0] at hst hin hc;have HST:=hide hst;have HIN:=hide hin;have HC:=hide hc;clear c1 c2 c3 c4 hst hin hc hD hN hB0 hq hkn;have hBv:B=true∨B=false:=by cases B <;> simp
    rcases hBv with rfl | rfl
    · go_wp2_with fail
      refine(HC.out _).mono ?_;rintro e w2 ⟨rfl,hB2⟩;have hBe:=hB.trans (hB2.mono hsz);clear hB2;go_wp2;go_ret;exact⟨hBe,k,rfl,by rw[HIN.out trivial];simp⟩
    · go_wp2_with fail
      refine(HC.out _).mono ?_;rintro e w2 ⟨rfl,hB2⟩;have hBe:=hB.trans (hB2.mono hsz);clear hB2;go_wp2;exact⟨⟨k+1,by go_num,by omega,HST.out,hBe⟩,by simp[intOf];omega⟩
  · have hkl:k=rs.length:=by omega
    subst hkl;rw[List.take_length] at hkn;have HKN:=hide hkn;clear hkn hlt hk;go_wp2;go_ret;exact⟨hB,-1,rfl,by rw[HKN.out];rfl⟩
theorem K5 (rs:List Sx.Rl)(r:Sx.Rl)(v:Value)(w:World)(hv:PrAt w v rs)(hn:rs.length≤1000):Calls Tryz.prog 145 #[v,.func (.func 146) #[iL r] #[]] w fun e w'=>e=.returned (.bool (Sx.known rs r))∧Below w.heap.size w w':=by
 have HI:=hide (ae rs r v w hv hn);obtain⟨p,cap,rfl,_⟩:=hv;obtain⟨A,hA⟩:∃ A,iL r=A:=⟨_,rfl⟩
 rw[hA] at HI ⊢;clear hA;obtain⟨KN,hKN⟩:∃ KN,Sx.known rs r=KN:=⟨_,rfl⟩
 rw[hKN] at HI ⊢;clear hKN;go_enter Tryz.func145,Tryz.ntmps145;go_wp2_with fail
 refine HI.out.mono ?_;rintro e w1 ⟨hB,i,rfl,hi⟩;go_wp2;go_ret;exact⟨aP (by rw[←hi]),hB⟩
def cG (rs:List Sx.Rl)(r:Sx.Rl):List Sx.Rl×Int:=if Sx.known rs r then (rs,4) else if rs.length=30 then (rs,5) else (rs++[r],0)
theorem FR {w w1:World}{b:Nat}{v x y z u:Value}{t:TypeId}(hc:(w.alloc (.cells #[x,y,z,u] t)).cell? ⟨b,0,none⟩=some v)(hb:b<w.heap.size)(hB:Below (w.alloc (.cells #[x,y,z,u] t)).drew.heap.size (w.alloc (.cells #[x,y,z,u] t)).drew w1) :
 w1.cell? ⟨b,0,none⟩=some v∧(w1.cell? ⟨w.heap.size,0,none⟩=some x∧w1.cell? ⟨w.heap.size,1,none⟩=some y)∧(w1.cell? ⟨w.heap.size,2,none⟩=some z∧w1.cell? ⟨w.heap.size,3,none⟩=some u):=by
 have hlt:w.heap.size<(w.alloc (.cells #[x,y,z,u] t)).drew.heap.size:=by show _<(w.alloc _).heap.size;rw[World.size_alloc];omega
 have h1:=(hB.block w.heap.size hlt).trans (heap_alloc_new w (.cells #[x,y,z,u] t));obtain⟨⟨q0,q1,q2,q3⟩,_⟩:=iM h1;exact⟨(hB.cell (p:=⟨b,0,none⟩) (Nat.lt_trans hb hlt)).trans hc,⟨q0,q1⟩,q2,q3⟩
theorem YU (w:World)(x y z u:Value)(t:TypeId)(n:Nat)(hn:w.heap.size=n):∀ (j:Nat) (v:Value),[x,y,z,u][j]? = some v→(w.alloc (.cells #[x,y,z,u] t)).cell? ((⟨n,0,none⟩:Addr).add j)=some v:=by
 subst hn;intro j v hj;rw[Addr.add_lit,Nat.zero_add,World.cell?_alloc_mark]
 simpa using hj
theorem rX {w:World}{B n sz:Nat}{e:TypeId}{v:Value}{xs:List Value}(h:w.ownsRow B e sz v n xs):w.drew.ownsRow B e sz v n xs:=h
theorem vZ (w:World)(x y z u:Value)(t:TypeId):∀ (j:Nat) (v:Value),[x,y,z,u][j]? = some v→(w.alloc (.cells #[x,y,z,u] t)).drew.cell? ((⟨w.heap.size,0,none⟩:Addr).add j)=some v:=YU w x y z u t _ rfl
theorem P3 (b:Nat)(cs:Array Value)(T:TypeId)(rs:List Sx.Rl)(r:Sx.Rl)(rv:Value)(w:World)(hbox:w.heap[b]? = some (.cells cs T (0,0)))(hc0:cs[0]? = some rv)(hrow:w.ownsRow (b+1) 82 4 rv rs.length (tR rs))(hn:rs.length≤30) :
 Calls Tryz.prog 99 #[.pointer (some ⟨b,0,none⟩),iL r] w fun e w'=>e=.returned (.int .i64 (cG rs r).2)∧Below b w w'∧∃ rv',w'.heap[b]? = some (.cells (cs.setIfInBounds 0 rv') T (0,0))∧w'.ownsRow (b+1) 82 4 rv' (cG rs r).1.length (tR (cG rs r).1):=by
 have hset:cs.setIfInBounds 0 rv=cs:=by
  obtain⟨h0,h1⟩:=Array.getElem?_eq_some_iff.1 hc0;apply Array.ext
  · simp
  · intro i h2 h3;rw[Array.getElem_setIfInBounds];split
    · rename_i e;subst e;exact h1.symm
    · rfl
 have hbl:b<w.heap.size:=(Array.getElem?_eq_some_iff.1 hbox).1;have hB0:Below w.heap.size w (w.alloc (.cells (KZ r).toArray 82)).drew:=((Below.refl _ _).alloc (Nat.le_refl _) _).drew;have HC:=hide (K5 rs r rv (w.alloc (.cells (KZ r).toArray 82)).drew ((lA hrow).below hB0) (by omega));have hcb:w.cell? ⟨b,0,none⟩=some rv:=by simp[World.cell?,hbox,hc0]
 obtain⟨vp,vc,rfl⟩:=aB hrow;obtain⟨rh,rk,rsc⟩:=r;have hra:iL (rh,rk,rsc)=.agg #[.int .u8 rk.toNat,.string ⟨(Sx.aA rh).toArray⟩,.int .i64 rh.length,.int .u8 rsc.toNat]:=rfl;have hrc:(KZ (rh,rk,rsc)).toArray=#[.int .u8 rk.toNat,.string ⟨(Sx.aA rh).toArray⟩,.int .i64 rh.length,.int .u8 rsc.toNat]:=rfl;have hpv:tR [(rh,rk,rsc)]=[.int .u8 rk.toNat,.string ⟨(Sx.aA rh).toArray⟩,.int .i64 rh.length,.int .u8 rsc.toNat]:=rfl;rw[hrc] at HC hB0;rw[hra] at HC ⊢;obtain⟨KN,hKN⟩:∃ KN,Sx.known rs (rh,rk,rsc)=KN:=⟨_,rfl⟩
 rw[hKN] at HC;obtain⟨R,hR⟩:∃ R,(rh,rk,rsc)=R:=⟨_,rfl⟩
 have hA1:KN=true→cG rs R=(rs,4):=fun h=>by unfold cG;rw[←hR,hKN,h];rfl
 have hA2:KN=false→rs.length=30→cG rs R=(rs,5):=fun h h2=>by unfold cG;rw[←hR,hKN,h,if_neg (by simp),if_pos h2]
 have hA3:KN=false→rs.length≠30→cG rs R=(rs++[R],0):=fun h h2=>by unfold cG;rw[←hR,hKN,h,if_neg (by simp),if_neg h2]
 rw[hR] at hpv ⊢;obtain⟨D,hD⟩:∃ D:ByteArray,⟨(Sx.aA rh).toArray⟩=D:=⟨_,rfl⟩
 obtain⟨N,hN⟩:∃ N,rh.length=N:=⟨_,rfl⟩
 rw[hD,hN] at HC hB0 hpv ⊢;have HA1:=hide hA1;have HA2:=hide hA2;have HA3:=hide hA3;have HPV:=hide hpv;have HBX:=hide hbox;have HSET:=hide hset;have HROW:=hide hrow;have hcb1:(w.alloc (.cells #[.int .u8 rk.toNat,.string D,.int .i64 N,.int .u8 rsc.toNat] 82)).cell? ⟨b,0,none⟩=some (.slice vp rs.length vc):=(World.cell?_of_block (heap_alloc_old _ _ hbl)).trans hcb;clear hra hrc hpv hKN hR hA1 hA2 hA3 hD hN hset hbox hc0 hrow;obtain⟨M,hM⟩:∃ M,rs.length=M:=⟨_,rfl⟩
 rw[hM] at hcb hcb1 HC hn HROW HA2 HA3;have HM:=hide hM;clear hM;have HSET2:Hid (cs.setIfInBounds 0 (.slice vp M vc)=cs):=hide (by rw[←HM.out];exact HSET.out);clear HSET;go_enter Tryz.func99,Tryz.ntmps99;go_wp2_with fail
 go_region_held_law (fun w'=>w'.cell? ⟨b,0,none⟩=some (.slice vp M vc)∧(w'.cell? ⟨w.heap.size,0,none⟩=some (.int .u8 rk.toNat)∧w'.cell? ⟨w.heap.size,1,none⟩=some (.string D))∧(w'.cell? ⟨w.heap.size,2,none⟩=some (.int .i64 N)∧w'.cell? ⟨w.heap.size,3,none⟩=some (.int .u8 rsc.toNat))) (first | exact hS1 | go_keep) ((go_at_call 145;refine HC.out.mono ?_;rintro e w1 ⟨rfl,hB1⟩;have hS1:=FR hcb1 hbl hB1))
 have hBw:Below w.heap.size w w1:=hB0.trans (hB1.mono hB0.size);have hbx1:w1.heap[b]? = some (.cells cs T (0,0)):=(hBw.block b hbl).trans HBX.out;have hrow1:=aD HROW.out hBw;have hs1:=hBw.size;have hfb1:w1.frozen? ⟨b,0,none⟩=false:=by simp[World.frozen?,hbx1]
 obtain⟨e0,⟨e1,e2⟩,e3,e4⟩:=hS1;have HBW:=hide hBw;clear hB1 hB0 hBw HC hcb hcb1;have hKv:KN=true∨KN=false:=by cases KN <;> simp
 rcases hKv with rfl | rfl
 · go_wp2;go_ret;rw[HA1.out trivial];exact⟨rfl,HBW.out.mono (by omega),_,by rw[HSET2.out];exact hbx1,by rw[HM.out];exact hrow1⟩
 · by_cases hM30:M=30
   · subst hM30;go_wp2;go_ret;rw[HA2.out trivial trivial];exact⟨rfl,HBW.out.mono (by omega),_,by rw[HSET2.out];exact hbx1,by rw[HM.out];exact hrow1⟩
   · have hne1:((M:Int) == 30)=false:=by simp;omega
     have hne2:¬ (M:Int)=30:=by omega
     obtain⟨i0,hi,hz0,hz1,hz2⟩:=info_parts Tryz.info82;have hlow:∀ g,(Value.slice vp M vc).ownBlock=some g→g<w.heap.size:=fun g e=>(HROW.out.lt g e).2;have hlt1:w.heap.size<w1.heap.size:=by
      have:=e1;simp only[World.cell?] at this;by_cases h:w.heap.size<w1.heap.size
      · exact h
      · rw[Array.getElem?_eq_none (by omega)] at this;cases this
     have hbne:w.heap.size≠b:=by omega
     have hnb:some b≠(Value.slice vp M vc).ownBlock:=fun e=>by have:=(HROW.out.lt b e.symm).1;omega
     have HFZ:Hid (∀ (o:Obj) (w8:World),(w1.alloc o).drew.grownBy w8 (Value.slice vp M vc).ownBlock→w8.frozen? ⟨b,0,none⟩=false):=hide (fun o w8 hg=>(hg.frozen_far ⟨b,0,none⟩ (by show b<(w1.alloc o).heap.size;rw[World.size_alloc];omega) hnb).trans ((World.frozen?_of_block (heap_alloc_old _ _ (show b<w1.heap.size by omega))).trans hfb1));have HCB:Hid (∀ (o:Obj) (w8:World),(w1.alloc o).drew.grownBy w8 (Value.slice vp M vc).ownBlock→w8.cell? ⟨b,0,none⟩=some (.slice vp M vc)):=hide (fun o w8 hg=>(hg.cell_far ⟨b,0,none⟩ (by show b<(w1.alloc o).heap.size;rw[World.size_alloc];omega) hnb).trans ((World.cell?_of_block (heap_alloc_old _ _ (show b<w1.heap.size by omega))).trans e0));go_wp2;have hcA:∀ o,(w1.alloc o).cell? ⟨b,0,none⟩=some (.slice vp M vc):=fun o=>(World.cell?_of_block (heap_alloc_old _ _ (show b<w1.heap.size by omega))).trans e0;go_region_law (refine step_append_lies _ rfl _ _ _ rfl (b+1) 82 i0 (.agg #[.int .u8 0,.string ⟨#[]⟩,.int .i64 0,.int .u8 0]) 4 40 Tryz.underlying54 hi hz0 hz1 hz2 rfl (by decide) _ M (tR rs) rfl (rX (hrow1.alloc _)) ⟨w1.heap.size,0,none⟩ 1 1 [.int .u8 rk.toNat,.string D,.int .i64 N,.int .u8 rsc.toNat] rfl rfl (vZ _ _ _ _ _ _) (by simp[Value.oneCell']) (by omega) (by unfold maxLen;omega) (by omega) (by simp;omega) _ rfl ?_;intro g8 cap8 w8 hown8 hgrow8 hat8 hlt8;have hfz8:w8.frozen? ⟨b,0,none⟩=false:=HFZ.out _ _ hgrow8;have hcb8:w8.cell? ⟨b,0,none⟩=some (.slice vp M vc):=HCB.out _ _ hgrow8)
     all_goals
      go_wp2;go_ret;rw[HA3.out trivial hM30];have hlb:b<w1.heap.size:=by omega
      have hBx:Below b w w8:=(((HBW.out.mono (by omega)).alloc (by omega) _).drew).grown hgrow8 (by show b≤(w1.alloc _).heap.size;rw[World.size_alloc];omega) (fun r e=>by have:=(HROW.out.lt r e).1;omega);have hb8:w8.heap[b]? = some (.cells cs T (0,0)):=((hgrow8.block b (by show b<(w1.alloc _).heap.size;rw[World.size_alloc];omega) hnb).trans (heap_alloc_old _ _ hlb)).trans hbx1;refine⟨rfl,hBx.setCell (p:=⟨b,0,none⟩) (Nat.le_refl _) _,.slice (some ⟨g8,0,none⟩) (M+1) cap8,?_,?_⟩
      · simp[World.setCell,Array.getElem?_modify,hb8]
      · have h9:=hown8.kept (grownBy_setCell' w8 b (.slice (some ⟨g8,0,none⟩) (M+1) cap8)) (.inr (fun e=>by have:=(hown8.lt b e).1;omega));rw[MY,HPV.out,List.length_append,List.length_singleton,HM.out];exact h9
end Go.Proofs.YtgohllfpceeboabGreatDoor
namespace Go.Proofs
open Go.Shelf
def Tryz.lays156_ren:Go.Shelf.Ren:=⟨fun | 156=>121 | 165=>172 | 166=>90 | 169=>91 | 240=>140 | 241=>223 | 276=>199 | 277=>244 | n=>n,fun | 31=>51 | 9=>9 | 3=>3 | 4=>4 | 0=>0 | 20=>20 | 72=>134 | 76=>138 | 70=>132 | 37=>90 | 75=>136 | 127=>198 | 164=>274 | 5=>5 | 80=>48 | n=>n,fun | n=>n⟩
theorem Tryz.lays156:Go.Proofs.Lays.n156 Tryz.prog Tryz.lays156_ren:={
 mixed:=by kernel_rfl
 f156:=Tryz.func121.trans (congrArg some (by kernel_rfl))
 f165:=Tryz.func172.trans (congrArg some (by kernel_rfl))
 f166:=Tryz.func90.trans (congrArg some (by kernel_rfl))
 f169:=Tryz.func91.trans (congrArg some (by kernel_rfl))
 f240:=Tryz.func140.trans (congrArg some (by kernel_rfl))
 f241:=Tryz.func223.trans (congrArg some (by kernel_rfl))
 f276:=Tryz.func199.trans (congrArg some (by kernel_rfl))
 f277:=Tryz.func244.trans (congrArg some (by kernel_rfl))
 t0:=Tryz.underlying0
 a0:=Tryz.isAgg0
 z0:=Tryz.sizeOf0
 v0:=Tryz.zeroValue0
 t3:=Tryz.underlying3
 a3:=Tryz.isAgg3
 z3:=Tryz.sizeOf3
 v3:=Tryz.zeroValue3
 t4:=Tryz.underlying4
 a4:=Tryz.isAgg4
 z4:=Tryz.sizeOf4
 v4:=Tryz.zeroValue4
 t9:=Tryz.underlying9
 a9:=Tryz.isAgg9
 z9:=Tryz.sizeOf9
 v9:=Tryz.zeroValue9
 t20:=Tryz.underlying20
 a20:=Tryz.isAgg20
 z20:=Tryz.sizeOf20
 v20:=Tryz.zeroValue20
 t31:=Tryz.underlying51
 a31:=Tryz.isAgg51
 z31:=Tryz.sizeOf51
 v31:=Tryz.zeroValue51
 t37:=Tryz.underlying90
 a37:=Tryz.isAgg90
 z37:=Tryz.sizeOf90
 v37:=Tryz.zeroValue90
 t70:=Tryz.underlying132
 a70:=Tryz.isAgg132
 z70:=Tryz.sizeOf132
 v70:=Tryz.zeroValue132
 t72:=Tryz.underlying134
 a72:=Tryz.isAgg134
 z72:=Tryz.sizeOf134
 v72:=Tryz.zeroValue134
 t75:=Tryz.underlying136
 a75:=Tryz.isAgg136
 z75:=Tryz.sizeOf136
 v75:=Tryz.zeroValue136
 t76:=Tryz.underlying138
 a76:=Tryz.isAgg138
 z76:=Tryz.sizeOf138
 v76:=Tryz.zeroValue138
 t127:=Tryz.underlying198
 a127:=Tryz.isAgg198
 z127:=Tryz.sizeOf198
 v127:=Tryz.zeroValue198
 t164:=Tryz.underlying274
 a164:=Tryz.isAgg274
 z164:=Tryz.sizeOf274
 v164:=Tryz.zeroValue274 }
theorem Tryz.Builder_Extra_156:Builder.Extra Tryz.prog Tryz.lays156_ren:={
 sizeBuilder:=by kernel_rfl
 liesBuilder:=by kernel_rfl
 t5:=Tryz.underlying5
 a5:=Tryz.isAgg5
 z5:=Tryz.sizeOf5
 v5:=Tryz.zeroValue5
 infoByte:=by kernel_rfl
 cellsByte:=by kernel_rfl
 sizeByte:=by kernel_rfl
 neB5:=by decide }
open Go.RowKit in
theorem Tryz.strings_Join (bk o c:Nat)(xs:List ByteArray)(sep:ByteArray)(w:World)(hcells:∀ (j:Nat) x,xs[j]? = some x→w.cell? ⟨bk,o+j,none⟩=some (.string x))(hbk:bk<w.heap.size)(hN:xs.length≤140737488355328)(hcap:xs.length≤c)(hlen:(Lib.join (xs.map (·.data.toList)) sep.data.toList).length≤140737488355328) :
 Calls Tryz.prog 121 #[.slice (some ⟨bk,o,none⟩) xs.length c,.string sep] w fun e w'=>e=.returned (.string ⟨(Lib.join (xs.map (·.data.toList)) sep.data.toList).toArray⟩)∧Below w.heap.size w w':=Any.strings_Join Tryz.lays156 Tryz.Builder_Extra_156 bk o c xs sep w hcells hbk hN hcap hlen
def Tryz.lays219_ren:Go.Shelf.Ren:=⟨fun | 219=>169 | 217=>219 | 225=>220 | 224=>221 | 267=>222 | 266=>242 | 314=>243 | n=>n,fun | 9=>9 | 3=>3 | 4=>4 | 5=>5 | 46=>178 | 146=>316 | 51=>258 | n=>n,fun | 1=>2 | n=>n⟩
theorem Tryz.lays219:Go.Proofs.Lays.n219 Tryz.prog Tryz.lays219_ren:={
 mixed:=by kernel_rfl
 f217:=Tryz.func219.trans (congrArg some (by kernel_rfl))
 f219:=Tryz.func169.trans (congrArg some (by kernel_rfl))
 f224:=Tryz.func221.trans (congrArg some (by kernel_rfl))
 f225:=Tryz.func220.trans (congrArg some (by kernel_rfl))
 f266:=Tryz.func242.trans (congrArg some (by kernel_rfl))
 f267:=Tryz.func222.trans (congrArg some (by kernel_rfl))
 f314:=Tryz.func243.trans (congrArg some (by kernel_rfl))
 t3:=Tryz.underlying3
 a3:=Tryz.isAgg3
 z3:=Tryz.sizeOf3
 v3:=Tryz.zeroValue3
 t4:=Tryz.underlying4
 a4:=Tryz.isAgg4
 z4:=Tryz.sizeOf4
 v4:=Tryz.zeroValue4
 t5:=Tryz.underlying5
 a5:=Tryz.isAgg5
 z5:=Tryz.sizeOf5
 v5:=Tryz.zeroValue5
 t9:=Tryz.underlying9
 a9:=Tryz.isAgg9
 z9:=Tryz.sizeOf9
 v9:=Tryz.zeroValue9
 t46:=Tryz.underlying178
 a46:=Tryz.isAgg178
 z46:=Tryz.sizeOf178
 v46:=Tryz.zeroValue178
 t51:=Tryz.underlying258
 a51:=Tryz.isAgg258
 z51:=Tryz.sizeOf258
 v51:=Tryz.zeroValue258
 t146:=Tryz.underlying316
 a146:=Tryz.isAgg316
 z146:=Tryz.sizeOf316
 v146:=Tryz.zeroValue316
 g1:=by kernel_rfl }
open Go.RowKit Go.Lib in
theorem Tryz.stringslite_Index_one (s:ByteArray)(c:UInt8)(w:World) :
 Calls Tryz.prog 169 #[.string s,.string ⟨#[c]⟩] w fun e w'=>e=.returned (.int .i64 (Lib.indexByte s.data.toList c))∧w'=w:=Any.stringslite_Index_one Tryz.lays219 s c w
def Tryz.lays190_ren:Go.Shelf.Ren:=⟨fun | 190=>79 | 125=>124 | 258=>123 | 128=>183 | 129=>184 | 302=>174 | 303=>175 | 304=>176 | 305=>177 | 306=>178 | 307=>179 | 308=>180 | 309=>181 | 310=>182 | 333=>224 | 329=>225 | 330=>226 | 334=>227 | 335=>228 | 336=>229 | 344=>245 | n=>n,fun | 31=>51 | 9=>9 | 3=>3 | 46=>178 | 0=>0 | 51=>258 | 53=>260 | 4=>4 | 183=>251 | 182=>250 | 131=>255 | 5=>5 | 218=>296 | 222=>300 | 228=>318 | 229=>159 | n=>n,fun | n=>n⟩
theorem Tryz.lays190:Go.Proofs.Lays.n190 Tryz.prog Tryz.lays190_ren:={
 mixed:=by kernel_rfl
 f125:=Tryz.func124.trans (congrArg some (by kernel_rfl))
 f128:=Tryz.func183.trans (congrArg some (by kernel_rfl))
 f129:=Tryz.func184.trans (congrArg some (by kernel_rfl))
 f190:=Tryz.func79.trans (congrArg some (by kernel_rfl))
 f258:=Tryz.func123.trans (congrArg some (by kernel_rfl))
 f302:=Tryz.func174.trans (congrArg some (by kernel_rfl))
 f303:=Tryz.func175.trans (congrArg some (by kernel_rfl))
 f304:=Tryz.func176.trans (congrArg some (by kernel_rfl))
 f305:=Tryz.func177.trans (congrArg some (by kernel_rfl))
 f306:=Tryz.func178.trans (congrArg some (by kernel_rfl))
 f307:=Tryz.func179.trans (congrArg some (by kernel_rfl))
 f308:=Tryz.func180.trans (congrArg some (by kernel_rfl))
 f309:=Tryz.func181.trans (congrArg some (by kernel_rfl))
 f310:=Tryz.func182.trans (congrArg some (by kernel_rfl))
 f329:=Tryz.func225.trans (congrArg some (by kernel_rfl))
 f330:=Tryz.func226.trans (congrArg some (by kernel_rfl))
 f333:=Tryz.func224.trans (congrArg some (by kernel_rfl))
 f334:=Tryz.func227.trans (congrArg some (by kernel_rfl))
 f335:=Tryz.func228.trans (congrArg some (by kernel_rfl))
 f336:=Tryz.func229.trans (congrArg some (by kernel_rfl))
 f344:=Tryz.func245.trans (congrArg some (by kernel_rfl))
 t0:=Tryz.underlying0
 a0:=Tryz.isAgg0
 z0:=Tryz.sizeOf0
 v0:=Tryz.zeroValue0
 t3:=Tryz.underlying3
 a3:=Tryz.isAgg3
 z3:=Tryz.sizeOf3
 v3:=Tryz.zeroValue3
 t4:=Tryz.underlying4
 a4:=Tryz.isAgg4
 z4:=Tryz.sizeOf4
 v4:=Tryz.zeroValue4
 t5:=Tryz.underlying5
 a5:=Tryz.isAgg5
 z5:=Tryz.sizeOf5
 v5:=Tryz.zeroValue5
 t9:=Tryz.underlying9
 a9:=Tryz.isAgg9
 z9:=Tryz.sizeOf9
 v9:=Tryz.zeroValue9
 t31:=Tryz.underlying51
 a31:=Tryz.isAgg51
 z31:=Tryz.sizeOf51
 v31:=Tryz.zeroValue51
 t46:=Tryz.underlying178
 a46:=Tryz.isAgg178
 z46:=Tryz.sizeOf178
 v46:=Tryz.zeroValue178
 t51:=Tryz.underlying258
 a51:=Tryz.isAgg258
 z51:=Tryz.sizeOf258
 v51:=Tryz.zeroValue258
 t53:=Tryz.underlying260
 a53:=Tryz.isAgg260
 z53:=Tryz.sizeOf260
 v53:=Tryz.zeroValue260
 t131:=Tryz.underlying255
 a131:=Tryz.isAgg255
 z131:=Tryz.sizeOf255
 v131:=Tryz.zeroValue255
 t182:=Tryz.underlying250
 a182:=Tryz.isAgg250
 z182:=Tryz.sizeOf250
 v182:=Tryz.zeroValue250
 t183:=Tryz.underlying251
 a183:=Tryz.isAgg251
 z183:=Tryz.sizeOf251
 v183:=Tryz.zeroValue251
 t218:=Tryz.underlying296
 a218:=Tryz.isAgg296
 z218:=Tryz.sizeOf296
 v218:=Tryz.zeroValue296
 t222:=Tryz.underlying300
 a222:=Tryz.isAgg300
 z222:=Tryz.sizeOf300
 v222:=Tryz.zeroValue300
 t228:=Tryz.underlying318
 a228:=Tryz.isAgg318
 z228:=Tryz.sizeOf318
 v228:=Tryz.zeroValue318
 t229:=Tryz.underlying159
 a229:=Tryz.isAgg159
 z229:=Tryz.sizeOf159
 v229:=Tryz.zeroValue159 }
open Go.Sort Go.RowKit in
theorem Tryz.slices_Sort_string (blk off cap:Nat)(ss:List (List UInt8))(w:World)(hH:Holds encStr w blk off ss.toArray)(hblk:blk<w.heap.size)(hsz:ss.length<4611686018427387904) :
 Calls Tryz.prog 79 #[.slice (some ⟨blk,off,none⟩) ss.length cap] w fun e w' =>
  e=.returned (.tuple #[])∧∃ n os,w'=grow (putRow encStr (Sort.ahead w n) blk off (ss.mergeSort fun x y=>decide (x≤y)).toArray) os:=Any.slices_Sort_string Tryz.lays190 blk off cap ss w hH hblk hsz
open Go.RowKit Go.Sort in
theorem Tryz.slices_Sort_string_none (p:Option Addr)(cap:Nat)(w:World) :
 Calls Tryz.prog 79 #[.slice p 0 cap] w fun e w'=>e=.returned (.tuple #[])∧w'=w:=Any.slices_Sort_string_none Tryz.lays190 p cap w
end Go.Proofs
