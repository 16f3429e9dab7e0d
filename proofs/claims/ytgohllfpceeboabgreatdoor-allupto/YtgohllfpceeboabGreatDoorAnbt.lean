import Derived.Test.YtgohllfpceeboabGreatDoorAnbo
import Derived.Test.YtgohllfpceeboabGreatDoorAnbs
set_option maxRecDepth 100000
set_option maxHeartbeats 2000000
namespace Go.Proofs.YtgohllfpceeboabGreatDoor
open Go.RowKit
def BA:Nat→List (List Sx.aT)→List UInt8×Bool→Option (List (List Sx.aT)×(List UInt8×Bool))
 | 0,tab,x=>some (tab,x)
 | m+1,tab,x=>if mA tab (nX (nx x).1.toNat (nx x).2).1=true then BA m (tab++[(nX (nx x).1.toNat (nx x).2).1]) (nX (nx x).1.toNat (nx x).2).2 else none
def yU:Option (List (List Sx.aT)×(List UInt8×Bool))→Option (List (List Sx.aT))
 | some (t,([],false))=>some t
 | _=>none
theorem qY (l:List UInt8):(nx (l,true)).2.2=true:=by cases l <;> rfl
theorem WE (l:List UInt8):(nu (l,true)).2.2=true:=by
 unfold nu;obtain⟨⟨c,r,sh⟩,h⟩:∃ q,nx (l,true)=q:=⟨_,rfl⟩
 have h1:=qY l;rw[h] at h1 ⊢;dsimp only at h1 ⊢;subst h1;exact qY r
theorem kX:∀ (k:Nat) (l:List UInt8),(nX k (l,true)).2.2=true
 | 0,_=>rfl
 | k+1,l=>by
   unfold nX;dsimp only;obtain⟨⟨c,r,sh⟩,h⟩:∃ q,nx (l,true)=q:=⟨_,rfl⟩
   have h1:=qY l;rw[h] at h1 ⊢;dsimp only at h1 ⊢;subst h1;obtain⟨⟨t,r2,sh2⟩,h2⟩:∃ q,nu (r,true)=q:=⟨_,rfl⟩
   have h3:=WE r;rw[h2] at h3 ⊢;dsimp only at h3 ⊢;subst h3;exact kX k r2
theorem kS:∀ (m:Nat) (tab:List (List Sx.aT)) (l:List UInt8),yU (BA m tab (l,true))=none
 | 0,_,l=>by cases l <;> rfl
 | m+1,tab,l=>by
   unfold BA;split
   · obtain⟨⟨c,r,sh⟩,h⟩:∃ q,nx (l,true)=q:=⟨_,rfl⟩
     have h1:=qY l;rw[h] at h1 ⊢;dsimp only at h1 ⊢;subst h1;obtain⟨⟨es,r2,sh2⟩,h2⟩:∃ q,nX c.toNat (r,true)=q:=⟨_,rfl⟩
     have h3:=kX c.toNat r;rw[h2] at h3 ⊢;dsimp only at h3 ⊢;subst h3;exact kS m _ r2
   · rfl
theorem WP:∀ (k:Nat) (l:List UInt8),(∃ es r,Sx.cU k l=some (es,r)∧nX k (l,false)=(es,(r,false)))∨(Sx.cU k l=none∧(nX k (l,false)).2.2=true)
 | 0,l=>.inl ⟨[],l,rfl,rfl⟩
 | k+1,[]=>.inr ⟨rfl,by unfold nX;exact kX k _⟩
 | k+1,[_]=>.inr ⟨rfl,by unfold nX;exact kX k _⟩
 | k+1,[_,_]=>.inr ⟨rfl,by unfold nX;exact kX k _⟩
 | k+1,c::h::t::b=>by
   have e1:nX (k+1) (c::h::t::b,false)=((c,h.toNat*256+t.toNat)::(nX k (b,false)).1,(nX k (b,false)).2):=rfl;have e2:Sx.cU (k+1) (c::h::t::b)=(Sx.cU k b).map fun x=>((c,h.toNat*256+t.toNat)::x.1,x.2):=rfl;rw[e1,e2];rcases WP k b with ⟨es,r,h1,h2⟩ | ⟨h1,h2⟩
   · exact .inl ⟨_,r,by rw[h1];rfl,by rw[h2]⟩
   · exact .inr ⟨by rw[h1];rfl,h2⟩
theorem EZ (tab:List (List Sx.aT))(es:List Sx.aT):mA tab es=true↔(es=[]↔tab.length=0)∧∀ e∈es,e.2<tab.length:=by
 unfold mA;rw[Bool.and_eq_true,List.all_eq_true];constructor
 · rintro⟨h1,h2⟩;have h3:∀ e∈es,e.2<tab.length:=fun e he=>of_decide_eq_true (h1 e he);refine⟨?_,h3⟩;cases tab with
   | nil =>
     cases es with
     | nil=>simp
     | cons e es=>exact absurd (h3 e (by simp)) (Nat.not_lt_zero _)
   | cons x tab =>
     cases es with
     | nil=>simp at h2
     | cons e es=>simp
 · rintro⟨h1,h2⟩;refine⟨fun e he=>decide_eq_true (h2 e he),?_⟩;cases tab with
   | nil=>rfl
   | cons x tab =>
     cases es with
     | nil=>simp at h1
     | cons e es=>rfl
theorem YC:∀ (m:Nat) (tab:List (List Sx.aT)) (l:List UInt8),yU (BA m tab (l,false))=(Sx.dN m tab.length l).map (tab ++ ·)
 | 0,tab,[]=>by simp[BA,yU,Sx.dN]
 | 0,tab,_::_=>by simp[BA,yU,Sx.dN]
 | m+1,tab,[]=>by
   unfold BA;split
   · exact kS m _ _
   · rfl
 | m+1,tab,k::r=>by
   have e1:BA (m+1) tab (k::r,false)=if mA tab (nX k.toNat (r,false)).1=true then BA m (tab++[(nX k.toNat (r,false)).1]) (nX k.toNat (r,false)).2 else none:=rfl
   rw[e1];unfold Sx.dN;rcases WP k.toNat r with ⟨es,r2,h1,h2⟩ | ⟨h1,h2⟩
   · rw[h1,h2];dsimp only;by_cases hc:(es=[]↔tab.length=0)∧∀ e∈es,e.2<tab.length
     · rw[if_pos ((EZ tab es).2 hc),if_pos hc,YC m (tab++[es]) r2,List.length_append,List.length_singleton,Option.map_map];congr 1;funext x;simp
     · rw[if_neg (fun h=>hc ((EZ tab es).1 h)),if_neg hc];rfl
   · rw[h1];dsimp only;obtain⟨⟨es,r2,sh2⟩,h3⟩:∃ q,nX k.toNat (r,false)=q:=⟨_,rfl⟩
     rw[h3] at h2 ⊢;dsimp only at h2 ⊢;subst h2;split
     · exact kS m _ _
     · rfl
theorem j5 (l:List UInt8):yU (BA (nu (l,false)).1 [] (nu (l,false)).2)=Sx.cH l:=by
 match l with
 | []=>exact kS _ _ _
 | [_]=>exact kS _ _ _
 | h::t::r =>
   have e:nu (h::t::r,false)=(h.toNat*256+t.toNat,(r,false)):=rfl;rw[e,YC];unfold Sx.cH;simp
theorem VP (l:List UInt8)(w:World) :
 Calls Tryz.prog 58 #[.string ⟨l.toArray⟩] w fun e w'=>Below w.heap.size w w'∧∃ sv,e=.returned (.tuple #[.agg #[sv],.bool (Sx.cH l).isSome])∧(∃ p n c,sv=.slice p n c)∧∀ tab,Sx.cH l=some tab→∃ vs,TabAt w' w.heap.size sv tab vs:=by
 rw[←j5 l];obtain⟨⟨n,x⟩,hx⟩:∃ q,nu (l,false)=q:=⟨_,rfl⟩
 rw[hx];dsimp only;have hn:=K2 (l,false);rw[hx] at hn;dsimp only at hn;have HX:=hide hx;clear hx;go_enter Tryz.func58,Tryz.ntmps58;obtain⟨w0,hw0⟩:∃ w0,((w.alloc (.cells #[.slice none 0 0] 111)).alloc (.cells #[.string ⟨l.toArray⟩,.bool false] 141)).alloc (.cells #[.slice none 0 0] 111)=w0:=⟨_,rfl⟩
 have hz0:w0.heap.size=w.heap.size+3:=by rw[←hw0];simp
 have hS0:SrcAt w0 (w.heap.size+1) l false:=by
  rw[←hw0];unfold SrcAt;rw[heap_alloc_old _ _ (by simp)];have:=heap_alloc_new (w.alloc (.cells #[.slice none 0 0] 111)) (.cells #[.string ⟨l.toArray⟩,.bool false] 141);rw[World.size_alloc] at this;exact this
 have hA0:AutAt w0 (w.heap.size+2) (w.heap.size+3) []:=by
  refine⟨.slice none 0 0,[],?_,TabAt.nil _ _⟩;rw[←hw0];have:=heap_alloc_new ((w.alloc (.cells #[.slice none 0 0] 111)).alloc (.cells #[.string ⟨l.toArray⟩,.bool false] 141)) (.cells #[.slice none 0 0] 111);rw[World.size_alloc,World.size_alloc] at this;exact this
 have hR0:w0.heap[w.heap.size]? = some (.cells #[.slice none 0 0] 111 (0,0)):=by
  rw[←hw0,heap_alloc_old _ _ (by simp;omega),heap_alloc_old _ _ (by simp)];exact heap_alloc_new _ _
 have hB0:Below w.heap.size w w0:=by
  rw[←hw0];exact(((Below.refl _ _).alloc (Nat.le_refl _) _).alloc (by simp) _).alloc (by simp;omega) _
 have h1:=MH (w.heap.size+1) l false w0 hS0;rw[HX.out] at h1;dsimp only at h1;go_wp2_with fail
 refine h1.mono ?_;rintro e w1 ⟨rfl,hg1,hs1⟩;have hA1:=hA0.grown hg1 (by omega) (by omega);have hR1:w1.heap[w.heap.size]? = some (.cells #[.slice none 0 0] 111 (0,0)):=(hg1.block _ (by omega) (fun e=>by injection e;omega)).trans hR0;have hB1:Below w.heap.size w w1:=hB0.grown hg1 (by omega) (fun r e=>by cases e;omega);have hz1:w.heap.size+3≤w1.heap.size:=by have:=hg1.size;omega
 have HST:=hide (And.intro hs1 (And.intro hA1 (And.intro hR1 hB1)));clear h1 hg1 hs1 hA1 hR1 hB1 hA0 hR0 hB0 hS0 hw0 hz0;go_wp2_with fail
 go_loopw [9] (fun i wr=>∃ (k:Nat) (tab:List (List Sx.aT)) (y:List UInt8×Bool),i=.int .i64 k∧k≤n∧tab.length=k∧BA n [] x=BA (n-k) tab y∧w.heap.size+3≤wr.heap.size∧SrcAt wr (w.heap.size+1) y.1 y.2∧AutAt wr (w.heap.size+2) (w.heap.size+3) tab∧wr.heap[w.heap.size]? = some (.cells #[.slice none 0 0] 111 (0,0))∧Below w.heap.size w wr) (fun i _=>(n-intOf i).toNat)
 case atStart=>exact⟨0,[],x,rfl,by omega,rfl,rfl,hz1,HST.out⟩
 case round =>
  obtain⟨k,tab,y,rfl,hk,hlen,hrd,hzr,hs,hA,hR,hB⟩:=hrel;have HRD:=hide hrd;have HR:=hide hR;have HB:=hide hB;have HA:=hide hA;have HL:=hide hlen;clear hrd hR hB hA hlen HST hz1;obtain⟨y1,y2⟩:=y;by_cases hlt:k<n
  · have hE:=M7 (w.heap.size+1) y1 y2 wr hs;clear hs;go_wp2_with fail
    refine hE.mono ?_;rintro e w2 ⟨v,es,z,hes,rfl,hg2,hs2,hown2⟩;have hz2:=hg2.size;have hel:es.length≤1000:=by
     have h1:=NG (nx (y1,y2)).1.toNat (nx (y1,y2)).2;rw[hes] at h1;have h2:=(nx (y1,y2)).1.toNat_lt;dsimp only at h1;omega
    have hst:BA (n-k) tab (y1,y2)=if mA tab es=true then BA (n-(k+1)) (tab++[es]) z else none:=by
     rw[show n-k=(n-(k+1))+1 by omega];show(if mA tab (nX (nx (y1,y2)).1.toNat (nx (y1,y2)).2).1=true then BA (n-(k+1)) (tab++[(nX (nx (y1,y2)).1.toNat (nx (y1,y2)).2).1]) (nX (nx (y1,y2)).1.toNat (nx (y1,y2)).2).2 else none)=_;rw[hes]
    have HRD2:=hide (HRD.out.trans hst);have hA2:=HA.out.grown hg2 (by omega) (by omega);have hR2:=(hg2.block w.heap.size (by omega) (fun e=>by injection e;omega)).trans HR.out;have hB2:Below w.heap.size w w2:=HB.out.grown hg2 (by omega) (fun r e=>by cases e;omega);have hadd:=U3 (w.heap.size+2) (w.heap.size+3) tab es v w2 hA2 (own_base hown2 hzr) (by omega) (by omega) (by have:=HL.out;omega) hel;have HX2:=hide (And.intro hs2 (And.intro hR2 hB2));clear hE hes hg2 hs2 hown2 hA2 hR2 hB2 hst HRD HA HR HB;go_wp2_with fail
    refine hadd.mono ?_;rintro e w3 ⟨rfl,hB3,hK3,hA3⟩;have hz3:=hB3.size;have hs3:=hK3.src HX2.out.1;have hR3:=(hB3.block w.heap.size (by omega)).trans HX2.out.2.1;have hB4:=HX2.out.2.2.trans (hB3.mono (by omega));clear hadd hB3 hK3;have hv2:mA tab es=true∨mA tab es=false:=by cases mA tab es <;> simp
    rcases hv2 with hv2 | hv2
    · have HY:=hide (And.intro hs3 (And.intro (hA3 hv2) (And.intro hR3 hB4)));have HRD3:Hid (BA n [] x=BA (n-(k+1)) (tab++[es]) z):=hide (by rw[HRD2.out,if_pos hv2]);rw[hv2];clear hs3 hA3 hR3 hB4 HX2 HRD2 hv2;go_wp2;exact⟨⟨k+1,tab++[es],z,by go_num,by omega,by rw[List.length_append,HL.out];rfl,HRD3.out,by omega,HY.out⟩,by simp[intOf];omega⟩
    · have HRD3:Hid (BA n [] x=none):=hide (by rw[HRD2.out,if_neg (by rw[hv2];simp)]);have hq0:w3.cell? ⟨w.heap.size,0,none⟩=some (.slice none 0 0):=by simp[World.cell?,hR3]
      have hf0:w3.frozen? ⟨w.heap.size,0,none⟩=false:=by simp[World.frozen?,hR3]
      have HR3:=hide hR3;have HB4:=hide hB4;rw[hv2];clear hs3 hA3 hR3 hB4 HX2 HRD2 hv2;go_wp2
      (try simp only[Exit.inBlock,Exit.then])
      refine bodyPost_ret (v:=.tuple #[.agg #[.slice none 0 0],.bool false]) ?_ rfl ?_
      · rw[results_cell_tmp rfl];go_simp
      · rw[HRD3.out];exact⟨HB4.out.setCell (p:=⟨w.heap.size,0,none⟩) (Nat.le_refl _) _,_,rfl,⟨_,_,_,rfl⟩,fun t h=>by cases h⟩
  · have hkn:k=n:=by omega
    subst hkn;rw[Nat.sub_self] at HRD;obtain⟨sv,vs,hbox,htab⟩:=HA.out;obtain⟨q0,q1,f0,f1⟩:=hs.cells;have hc0:wr.cell? ⟨w.heap.size+2,0,none⟩=some sv:=by simp[World.cell?,hbox]
    have hq0:wr.cell? ⟨w.heap.size,0,none⟩=some (.slice none 0 0):=by simp[World.cell?,HR.out]
    have hf0:wr.frozen? ⟨w.heap.size,0,none⟩=false:=by simp[World.frozen?,HR.out]
    have hRR:BA k [] x=some (tab,(y1,y2)):=HRD.out;have HFIN:Hid (∀ W:World,W=wr.setCell ⟨w.heap.size,0,none⟩ sv∨W=(wr.setCell ⟨w.heap.size,0,none⟩ sv).drew→Below w.heap.size w W∧TabAt W w.heap.size sv tab vs):=hide (by
     have h0:Below w.heap.size w (wr.setCell ⟨w.heap.size,0,none⟩ sv):=HB.out.setCell (p:=⟨w.heap.size,0,none⟩) (Nat.le_refl _) _;have hk:∀ {t:TypeId} {z n:Nat} {v:Value} {xs:List Value},wr.ownsRow (w.heap.size+3) t z v n xs→(wr.setCell ⟨w.heap.size,0,none⟩ sv).ownsRow w.heap.size t z v n xs:=fun ho=>own_base (ho.kept (grown_setCell wr w.heap.size 0 sv) (.inr (fun e=>by have:=(ho.lt _ e).1;omega))) (by omega);have h1:TabAt (wr.setCell ⟨w.heap.size,0,none⟩ sv) w.heap.size sv tab vs:=⟨hk htab.row,htab.len,fun i hi h3=>hk (htab.each i hi h3)⟩
     rintro W (rfl | rfl)
     · exact⟨h0,h1⟩
     · exact⟨h0.drew,h1.row,h1.len,h1.each⟩)
    have HRR:=hide hRR;obtain⟨sp,sc,rfl⟩:=aB htab.row;clear hbox htab hs hRR HRD HA HB HR;rcases y2 with _ | _
    · rcases y1 with _ | ⟨c,r⟩
      · go_wp2_with fail
        go_region_held (fun w'=>w'.cell? ⟨w.heap.size+1,0,none⟩=some (.string ⟨#[]⟩)∧w'.cell? ⟨w.heap.size+1,1,none⟩=some (.bool false)∧w'.cell? ⟨w.heap.size+2,0,none⟩=some (.slice sp tab.length sc)) (go_keep) ((fail))
        go_wp2
        (try simp only[Exit.inBlock,Exit.then])
        refine bodyPost_ret (v:=.tuple #[.agg #[.slice sp tab.length sc],.bool true]) ?_ rfl ?_
        · rw[results_cell_tmp rfl];go_simp
        · rw[HRR.out];exact⟨(HFIN.out _ (.inr rfl)).1,_,rfl,⟨_,_,_,rfl⟩,fun t h=>by cases h;exact⟨vs,(HFIN.out _ (.inr rfl)).2⟩⟩
      · go_wp2_with fail
        go_region_held (fun w'=>w'.cell? ⟨w.heap.size+1,0,none⟩=some (.string ⟨(c::r).toArray⟩)∧w'.cell? ⟨w.heap.size+1,1,none⟩=some (.bool false)∧w'.cell? ⟨w.heap.size+2,0,none⟩=some (.slice sp tab.length sc)) (go_keep) ((fail))
        go_wp2
        (try simp only[Exit.inBlock,Exit.then])
        refine bodyPost_ret (v:=.tuple #[.agg #[.slice sp tab.length sc],.bool false]) ?_ rfl ?_
        · rw[results_cell_tmp rfl];go_simp
        · rw[HRR.out];exact⟨(HFIN.out _ (.inr rfl)).1,_,rfl,⟨_,_,_,rfl⟩,fun t h=>by cases h⟩
    · have hnone:yU (some (tab,(y1,true)))=none:=by cases y1 <;> rfl
      have d0:=(World.cell?_setCell_far wr ⟨w.heap.size,0,none⟩ ⟨w.heap.size+1,0,none⟩ (.slice sp tab.length sc) (by simp)).trans q0;have d1:=(World.cell?_setCell_far wr ⟨w.heap.size,0,none⟩ ⟨w.heap.size+1,1,none⟩ (.slice sp tab.length sc) (by simp)).trans q1;have d2:=(World.cell?_setCell_far wr ⟨w.heap.size,0,none⟩ ⟨w.heap.size+2,0,none⟩ (.slice sp tab.length sc) (by simp)).trans hc0;go_wp2_with fail
      go_region
      go_wp2
      (try simp only[Exit.inBlock,Exit.then])
      refine bodyPost_ret (v:=.tuple #[.agg #[.slice sp tab.length sc],.bool false]) ?_ rfl ?_
      · rw[results_cell_tmp rfl];go_simp
      · rw[HRR.out,hnone];exact⟨(HFIN.out _ (.inr rfl)).1,_,rfl,⟨_,_,_,rfl⟩,fun t h=>by cases h⟩
theorem NS {W:World}{B b:Nat}{sv:Value}{tab:List (List Sx.aT)}{vs:List Value}(h:TabAt W B sv tab vs)(hb:W.heap.size≤b)(h0:tab≠[]):TabR W b sv tab:=by
 have hp:0<tab.length:=List.length_pos_iff.2 h0;rcases h.row.2 with ⟨_,e⟩ | ⟨g,cap,cur,hv,_,hg,h1,h2,h3,h4⟩
 · omega
 · refine⟨g,cap,hv,Nat.lt_of_lt_of_le (Array.getElem?_eq_some_iff.1 hg).1 hb,fun i hi=>?_⟩;rw[Nat.mul_one] at h4;have hi2:i<vs.length:=by rw[h.len];exact hi
   have hci:W.cell? ⟨g,i,none⟩=some vs[i]:=by
    rw[Lib.cell_of_heap hg,←Array.getElem?_toList];have h5:(cur.toList.take tab.length)[i]? = vs[i]?:=by rw[h4]
    rw[List.getElem?_take_of_lt hi,List.getElem?_eq_getElem hi2] at h5;exact h5
   have he:=h.each i hi hi2;obtain⟨p,c,hpc⟩:=aB he;refine⟨p,c,by rw[hci,hpc],fun j hj=>?_⟩;rcases he.2 with ⟨_,e⟩ | ⟨e,cap2,cur2,hv2,_,he2,k1,k2,k3,k4⟩
   · omega
   · rw[hpc] at hv2;obtain rfl:p=some ⟨e,0,none⟩:=by injection hv2
     have hg2:=MC tab[i] j hj;have hk:∀ m,m<tab[i].length*2→cur2[m]? = (CM tab[i])[m]?:=fun m hm=>by
      have h5:(cur2.toList.take (tab[i].length*2))[m]? = (CM tab[i])[m]?:=by rw[k4]
      rw[List.getElem?_take_of_lt hm] at h5;rw[←Array.getElem?_toList,h5]
     refine⟨e,rfl,Nat.lt_of_lt_of_le (Array.getElem?_eq_some_iff.1 he2).1 hb,?_,?_⟩
     · rw[Lib.cell_of_heap he2,hk _ (by omega)];exact hg2.1
     · rw[Lib.cell_of_heap he2,hk _ (by omega)];exact hg2.2
theorem TabR.below' {w w':World}{b b' B:Nat}{sv:Value}{tab:List (List Sx.aT)}(h:TabR w b sv tab)(hb:Below B w w')(hB:b≤B)(hb':b≤b'):TabR w' b' sv tab:=by
 obtain⟨g,cap,h1,h2,h3⟩:=h;refine⟨g,cap,h1,by omega,fun i hi=>?_⟩;obtain⟨p,c,h4,h5⟩:=h3 i hi;refine⟨p,c,(hb.cell (p:=⟨g,i,none⟩) (Nat.lt_of_lt_of_le h2 hB)).trans h4,fun j hj=>?_⟩;obtain⟨e,h6,h7,h8,h9⟩:=h5 j hj;exact⟨e,h6,by omega,(hb.cell (p:=⟨e,j*2,none⟩) (Nat.lt_of_lt_of_le h7 hB)).trans h8,(hb.cell (p:=⟨e,j*2+1,none⟩) (Nat.lt_of_lt_of_le h7 hB)).trans h9⟩
theorem EK {W:World}{b i:Nat}{v:Value}(h:W.cell? ⟨b,i,none⟩=some v):b<W.heap.size:=by
 by_cases hlt:b<W.heap.size
 · exact hlt
 · have hn:W.heap[b]? = none:=Array.getElem?_eq_none (by omega);simp[World.cell?,hn] at h
theorem sO:∀ (k:Nat) (b:List UInt8) (es:List Sx.aT) (r:List UInt8),Sx.cU k b=some (es,r)→es.length=k∧b.length=3*k+r.length
 | 0,b,es,r,h=>by
   simp only[Sx.cU,Option.some.injEq,Prod.mk.injEq] at h;rw[←h.1,←h.2];simp
 | k+1,b,es,r,h=>by
   match b,h with
   | [],h=>simp[Sx.cU] at h
   | [_],h=>simp[Sx.cU] at h
   | [_,_],h=>simp[Sx.cU] at h
   | c::x::z::t,h =>
     simp only[Sx.cU] at h;obtain⟨⟨es',r'⟩,h1,h2⟩:=Option.map_eq_some_iff.1 h;obtain⟨i1,i2⟩:=sO k t es' r' h1;simp only[Prod.mk.injEq] at h2;rw[←h2.1,←h2.2];simp only[List.length_cons];omega
theorem zH:∀ (m n:Nat) (b:List UInt8) (t:List (List Sx.aT)),Sx.dN m n b=some t→t.length=m∧(∀ es∈t,es.length≤255)∧b.length+(if n=0 then 3 else 0) ≥ 4*t.length
 | 0,n,b,t,h=>by
   unfold Sx.dN at h;split at h
   · obtain rfl:=Option.some.inj h;simp
   · cases h
 | m+1,n,b,t,h=>by
   cases b with
   | nil=>simp[Sx.dN] at h
   | cons k r =>
     simp only[Sx.dN] at h;split at h
     · cases h
     · rename_i es' r' he;split at h
       · rename_i hc;obtain⟨t',h1,rfl⟩:=Option.map_eq_some_iff.1 h;obtain⟨i1,i2,i3⟩:=zH m (n+1) r' t' h1;obtain⟨j1,j2⟩:=sO _ _ _ _ he;have hk:k.toNat<256:=k.toNat_lt;rw[if_neg (by omega)] at i3;refine⟨by rw[List.length_cons,i1],fun es hes=>?_,?_⟩
         · rcases List.mem_cons.1 hes with rfl | hes
           · omega
           · exact i2 es hes
         · simp only[List.length_cons];by_cases h0:n=0
           · rw[if_pos h0];omega
           · rw[if_neg h0];have:es'≠[]:=fun e=>h0 (hc.1.1 e);have:=List.length_pos_iff.2 this;omega
       · cases h
theorem yH {b:List UInt8}{t:List (List Sx.aT)}(h:Sx.cH b=some t)(hb:b.length≤8000):t.length≤3000∧∀ es∈t,es.length≤1000:=by
 unfold Sx.cH at h;split at h
 · obtain⟨_,h2,h3⟩:=zH _ _ _ _ h;simp only[List.length_cons,if_true] at hb h3;exact⟨by omega,fun es hes=>by have:=h2 es hes;omega⟩
 · cases h
theorem qZ {w W:World}(h:Below w.heap.size w W)(o:Obj):Below w.heap.size w (W.alloc o):=h.alloc h.size o
theorem uQ (W:World):PrAt W (.slice none 0 0) []:=⟨none,0,rfl,fun _ h=>absurd h (Nat.not_lt_zero _)⟩
theorem WN (l:List UInt8)(w:World)(hw:gW w):Calls Tryz.prog 38 #[.string ⟨l.toArray⟩] w fun e w'=>Below w.heap.size w w'∧∃ v,e=.returned (.tuple #[v,.int .i64 (eW l).2])∧PrAt w' v (eW l).1:=by
 have HRD:=hide (VP l w);obtain⟨D,hD⟩:∃ D:ByteArray,⟨l.toArray⟩=D:=⟨_,rfl⟩
 have hDl:D.data.toList=l:=by rw[←hD]
 have hDs:D.size=l.length:=by rw[←aC,hDl]
 rw[hD] at HRD ⊢;by_cases hlong:8000<l.length
 · have ho:eW l=([],1):=by unfold eW;rw[if_pos hlong]
   have HO:=hide ho;have hs:8000<D.size:=by omega
   clear HRD hD hDl hDs hlong ho hw;go_enter Tryz.func38,Tryz.ntmps38;go_wp2;go_ret2;rw[HO.out];exact⟨Below.refl _ _,_,rfl,uQ _⟩
 · have hs:D.size≤8000:=by omega
   have HDL:=hide hDl;cases hr:Sx.cH l with
   | none =>
     have ho:eW l=([],6):=by unfold eW;rw[if_neg hlong,hr]
     have HO:=hide ho;have HRD2:=HRD.out;rw[hr,Option.isSome_none] at HRD2;have HR:=hide HRD2;clear HRD HRD2 hD hDl hDs hlong ho hw hr;go_enter Tryz.func38,Tryz.ntmps38;go_wp2_with fail
     refine HR.out.mono ?_;rintro e w1 ⟨hB1,sv,rfl,⟨sp,sn,sc,rfl⟩,-⟩;have HB1:=hide (fun o=>qZ hB1 o);clear hB1 HR;go_wp2;go_ret2;rw[HO.out];exact⟨HB1.out _,_,rfl,uQ _⟩
   | some tab =>
     have hord:=nO hr;obtain⟨hlen,hedg⟩:=yH hr (by omega);have hrt:=KE hord;have ho:eW l=if Sx.eH (Sx.aW (AB tab []))=l then (AB tab [],0) else ([],6):=by unfold eW;rw[if_neg hlong,hr]
     have HRD2:=HRD.out;rw[hr,Option.isSome_some] at HRD2;have HR:=hide HRD2;have HKEYS:=hide (fun b hb sv W hB hn hT hr=>J3 w hw b hb sv tab hord hedg hlen [] W hB hn hT hr (by simp));obtain⟨rs,hrs⟩:∃ rs,AB tab []=rs:=⟨_,rfl⟩
     rw[hrs] at hrt ho HKEYS;have HIMG:=hide (fun v W hv=>JX rs v W hv hrt.rls);obtain⟨I,hI⟩:∃ I:ByteArray,⟨(Sx.eH (Sx.aW rs)).toArray⟩=I:=⟨_,rfl⟩
     rw[hI] at HIMG;have hIl:I.data.toList=Sx.eH (Sx.aW rs):=by rw[←hI]
     rw[←hIl,←hDl] at ho;have HO:=hide ho;have HT:Hid (∀ tab',some tab=some tab'→tab'=tab):=hide (fun t e=>(Option.some.inj e).symm);clear HRD HRD2 hD hDl hDs hlong ho hr hord hlen hedg hrs hI hIl hrt;go_enter Tryz.func38,Tryz.ntmps38;go_wp2_with fail
     refine HR.out.mono ?_;rintro e w1 ⟨hB1,sv,rfl,-,hsv⟩;obtain⟨vs,hta⟩:=hsv tab rfl;have HTA:=hide hta;have HB1:=hide hB1;obtain⟨ap,ac,rfl⟩:=aB hta.row;clear hsv hta hB1 HR;go_wp2_with fail
     have hA0:Below w1.heap.size w1 ((w1.alloc (.cells #[.slice ap tab.length ac] 111)).alloc (.cells #[.slice none 0 0] 54)):=((Below.refl _ _).alloc (Nat.le_refl _) _).alloc (by simp) _;have hz1:=HB1.out.size;have hrs0:RsAt ((w1.alloc (.cells #[.slice ap tab.length ac] 111)).alloc (.cells #[.slice none 0 0] 54)) (w1.heap.size+1) []:=by
      refine⟨.slice none 0 0,?_,World.ownsRow_nil _ _ _ _⟩;have:=heap_alloc_new (w1.alloc (.cells #[.slice ap tab.length ac] 111)) (.cells #[.slice none 0 0] 54);rw[World.size_alloc] at this;exact this
     refine(HKEYS.out (w1.heap.size+1) (by omega) _ _ (HB1.out.trans (hA0.mono hz1)) (fun h=>⟨ap,ac,by rw[h];rfl⟩) (fun h0=>?_) hrs0).mono ?_
     · exact TabR.below' (NS HTA.out (Nat.le_refl _) h0) hA0 (Nat.le_refl _) (by omega)
     rintro e w2 ⟨⟨u,rfl⟩,hB2,rv,hbx,hrow⟩;have hB2':Below w.heap.size w w2:=(HB1.out.trans (hA0.mono hz1)).trans (hB2.mono (by omega));have hcell:w2.cell? ⟨w1.heap.size+1,0,none⟩=some rv:=by rw[Lib.cell_of_heap hbx];rfl
     have HPR:=hide (lA hrow);have HB2:=hide hB2';obtain⟨rp,rc,rfl⟩:=aB hrow;clear hbx hrow hB2 hB2' hA0 hrs0 HTA HKEYS;go_wp2_with fail
     refine(HIMG.out _ _ HPR.out).mono ?_;rintro e w3 ⟨rfl,hB3⟩;have HPR3:=hide (HPR.out.below hB3);have HB3:Hid (Below w.heap.size w w3):=hide (HB2.out.trans (hB3.mono HB2.out.size));have hcell3:w3.cell? ⟨w1.heap.size+1,0,none⟩=some (.slice rp rs.length rc):=(hB3.cell (p:=⟨w1.heap.size+1,0,none⟩) (EK hcell)).trans hcell;clear hB3 hcell HPR HB2 HIMG;cases hcmp:(I.toList == D.toList) with
     | true =>
       have hq:I.data.toList=D.data.toList:=by
        rw[ByteArray.toList_eq,ByteArray.toList_eq] at hcmp
        simpa using hcmp
       have HQ:=hide hq;clear hq;go_wp2;go_ret2;rw[←HDL.out,HO.out,if_pos HQ.out];exact⟨HB3.out,_,rfl,HPR3.out⟩
     | false =>
       have hq:¬ I.data.toList=D.data.toList:=by
        rw[ByteArray.toList_eq,ByteArray.toList_eq] at hcmp
        simpa using hcmp
       have HQ:=hide hq;clear hq;go_wp2;go_ret2;rw[←HDL.out,HO.out,if_neg HQ.out];exact⟨HB3.out,_,rfl,uQ _⟩
theorem UY (b:List UInt8):Sx.RlsRt (eW b).1:=by
 rcases NQ b with h | ⟨_,h⟩ | ⟨_,h⟩
 · exact(rZ h).2.rt
 · rw[h];exact fR
 · rw[h];exact fR
theorem jK {r:Sx.Rl}(h:Sx.RlRt r):r.1.length≤6∧(Sx.aA r.1).length≤60:=by
 have h1:=h.ok.1;have h2:=Sx.cZ r.1 h1.1;have h3:=h1.2.2.1;exact⟨h1.2.1,by omega⟩
theorem S5 (i:ByteArray)(w:World)(hw:gW w):Calls Tryz.prog 46 #[.string i] w fun e w'=>e=.returned (.tuple #[.string ⟨(I3 i.data.toList).1.toArray⟩,.int .i64 (I3 i.data.toList).2])∧Below w.heap.size w w':=by
 have HRI:=hide (WN i.data.toList w hw);have hrt:=UY i.data.toList;have hls:I3 i.data.toList=if (eW i.data.toList).2=0 then (BK (eW i.data.toList).1,0) else ([],(eW i.data.toList).2):=rfl
 rw[hls];obtain⟨⟨rs,e⟩,ho⟩:∃ q,eW i.data.toList=q:=⟨_,rfl⟩
 rw[ho] at HRI hrt ⊢;dsimp only at HRI hrt ⊢;have HLS:=hide (fun v W hv=>U6 rs v W hv (fun r hr=>⟨(hrt.ok r hr).2.1,by have:=(jK (hrt.ok r hr)).2;omega⟩) (by have:=hrt.many;omega));have hia:(⟨i.data.toList.toArray⟩:ByteArray)=i:=by simp
 rw[hia] at HRI;clear hls ho hrt hw hia;go_enter Tryz.func46,Tryz.ntmps46;go_wp2_with fail
 refine HRI.out.mono ?_;rintro e w1 ⟨hB1,v,rfl,hv⟩;have HB1:=hide hB1;have HLV:=hide (HLS.out v w1 hv);obtain⟨p,cap,rfl,_⟩:=hv;clear hB1 HRI HLS;by_cases he:e=0
 · subst he;go_wp2_with fail
   refine HLV.out.mono ?_;rintro e w2 ⟨rfl,hB2⟩;have HB2:=hide (HB1.out.trans (hB2.mono HB1.out.size));clear hB2;go_wp2;go_ret2;exact⟨rfl,HB2.out⟩
 · have k1:(e != 0)=true:=by simpa using he
   go_wp2;go_ret2;exact⟨rfl,HB1.out⟩
theorem U5 (i h:ByteArray)(w:World)(hw:gW w):Calls Tryz.prog 15 #[.string i,.string h] w fun e w'=>e=.returned (.tuple #[.string ⟨(GH i.data.toList h.data.toList).1.toArray⟩,.string ⟨(GH i.data.toList h.data.toList).2.1.toArray⟩,.string ⟨(GH i.data.toList h.data.toList).2.2.1.toArray⟩,.int .i64 (GH i.data.toList h.data.toList).2.2.2])∧Below w.heap.size w w':=by
 have HRI:=hide (WN i.data.toList w hw);have hrt:=UY i.data.toList;obtain⟨LK,hLK⟩:∃ LK,GH i.data.toList h.data.toList=LK:=⟨_,rfl⟩
 rw[hLK];unfold GH at hLK;obtain⟨⟨rs,e⟩,ho⟩:∃ q,eW i.data.toList=q:=⟨_,rfl⟩
 rw[ho] at HRI hrt hLK;dsimp only at HRI hrt hLK;have HPL:=hide (fun W hW=>rA h W hW);unfold iV at HPL;have HLW:Hid (∀ W,Below w.heap.size w W→gW W):=hide (fun W h=>bA _ _ hw h);have hia:(⟨i.data.toList.toArray⟩:ByteArray)=i:=by simp
 rw[hia] at HRI;clear ho hw hia;by_cases he:e=0
 · subst he;rw[if_pos rfl] at hLK;have hpl:Sx.dU h.data.toList=(Sx.aA (Sx.aI h.data.toList).1,(Sx.aI h.data.toList).2):=rfl;rw[hpl] at HPL;have hhost:=Sx.gX h.data.toList;obtain⟨⟨H,f⟩,hH⟩:∃ q,Sx.aI h.data.toList=q:=⟨_,rfl⟩
   rw[hH] at HPL hLK hhost;dsimp only at HPL hLK hhost;clear hpl hH;by_cases hf:f=0
   · subst hf;rw[if_pos rfl] at hLK;have hh:=hhost rfl;obtain⟨p1,p2,p3⟩:=kW hh hrt.ok;have hle:=nG hh.1 rs;have h6:=hh.2.1;have hdl:(Sx.aA H).length≤60:=by have:=Sx.cZ H hh.1;have:=hh.2.2.1;omega
     obtain⟨P,hP⟩:∃ P:ByteArray,⟨(Sx.aA H).toArray⟩=P:=⟨_,rfl⟩
     have hPl:P.data.toList=Sx.aA H:=by rw[←hP]
     have hPs:P.size≤1000:=by rw[←aC,hPl];omega
     have HPV:=hide (fun v W hv=>K1 rs (Sx.aA H) v W hv (fun r hr=>⟨by have:=(jK (hrt.ok r hr)).1;omega,by have:=(jK (hrt.ok r hr)).2;omega⟩) (by omega) (by have:=hrt.many;omega));have hbest:(eR rs (Sx.aA H)).1.length≤1000:=qD _ (fun r=>r.1.length≤1000) (by simp) rs (fun r hr=>by have:=(jK (hrt.ok r hr)).1;omega);unfold Z2 at hLK;obtain⟨b,hb⟩:∃ b,eR rs (Sx.aA H)=b:=⟨_,rfl⟩
     rw[hb] at p1 p2 hLK HPV hbest;obtain⟨n,hn⟩:∃ n,(Sx.cL H rs).1=n:=⟨_,rfl⟩
     rw[hn] at p1 p3 hle;have HSU:=hide (fun W=>I8 b n P W hbest p1 p3 (by omega) hPs);have HDO:=hide (fun W=>J4 b n P W hbest p1 p3 (by omega) hPs);rw[p1] at hLK;rw[hPl] at HSU HDO;rw[hP] at HPL HPV;subst hLK;dsimp only;obtain⟨A,hA⟩:∃ A:ByteArray,⟨(cY (Sx.aA H) (n:Int)).toArray⟩=A:=⟨_,rfl⟩
     obtain⟨C,hC⟩:∃ C:ByteArray,⟨(cY (Sx.aA H) ((n:Int)+1)).toArray⟩=C:=⟨_,rfl⟩
     rw[hA] at HSU ⊢;rw[hC] at HDO ⊢;have hsec:b.2.2=105∨b.2.2=112∨b.2.2=45:=by
      rw[←hb];exact qD _ (fun r=>r.2.2=105∨r.2.2=112∨r.2.2=45) (Or.inr (Or.inr rfl)) rs (fun r hr=>by rcases(hrt.ok r hr).2.2.2 with h | h;exact Or.inl h;exact Or.inr (Or.inl h))
     obtain⟨bh,bk,bs⟩:=b;unfold iL at HPV HSU HDO;dsimp only at HPV HSU HDO hsec ⊢;have HENC:Hid (Utf8.encode (bs.toNat:Int)=⟨[bs].toArray⟩):=hide (by rcases hsec with rfl | rfl | rfl <;> decide);obtain⟨E,hE⟩:∃ E:ByteArray,⟨(Sx.aA bh).toArray⟩=E:=⟨_,rfl⟩
     obtain⟨M,hM⟩:∃ M,bh.length=M:=⟨_,rfl⟩
     rw[hE,hM] at HPV HSU HDO;clear p1 p2 p3 hle h6 hdl hP hPl hb hn hA hC hE hM hh hhost hrt hbest hsec;go_enter Tryz.func15,Tryz.ntmps15;go_wp2_with fail
     refine HRI.out.mono ?_;rintro e w1 ⟨hB1,v,rfl,hv⟩;have HB1:=hide hB1;have HV:=hide hv;obtain⟨q,cap,rfl,_⟩:=hv;clear hB1 HRI;go_wp2_with fail
     refine(HPL.out _ (HLW.out _ HB1.out)).mono ?_;rintro e w2 ⟨hB2,rfl⟩;have HB2:=hide (HB1.out.trans (hB2.mono HB1.out.size));have HPV2:=hide (HPV.out _ w2 (HV.out.below hB2));clear hB2 HPV HV HPL;go_wp2_with fail
     refine HPV2.out.mono ?_;rintro e w3 ⟨rfl,hB3⟩;have HB3:=hide (HB2.out.trans (hB3.mono HB2.out.size));clear hB3 HPV2;obtain⟨W0,hW0⟩:∃ W0,w3.alloc (.cells #[.int .u8 bk.toNat,.string E,.int .i64 M,.int .u8 bs.toNat] 82)=W0:=⟨_,rfl⟩
     have HNEW:Hid (∀ W,Below W0.heap.size W0 W→(W.cell? ⟨w3.heap.size,0,none⟩=some (.int .u8 bk.toNat)∧W.cell? ⟨w3.heap.size,1,none⟩=some (.string E)∧W.cell? ⟨w3.heap.size,2,none⟩=some (.int .i64 M)∧W.cell? ⟨w3.heap.size,3,none⟩=some (.int .u8 bs.toNat))∧Below w.heap.size w W):=hide (fun W hb=>by
      rw[←hW0] at hb;have h1:=(hb.block w3.heap.size (by simp)).trans (heap_alloc_new _ _);exact⟨(iM h1).1,(HB3.out.alloc HB3.out.size _).trans (hb.mono (by have:=HB3.out.size;simp;omega))⟩)
     have hS0:=(HNEW.out W0.drew ((Below.refl _ W0).drew)).1;go_wp2_with fail
     clear hW0;go_region_held_law (fun W=>W.cell? ⟨w3.heap.size,0,none⟩=some (.int .u8 bk.toNat)∧W.cell? ⟨w3.heap.size,1,none⟩=some (.string E)∧W.cell? ⟨w3.heap.size,2,none⟩=some (.int .i64 M)∧W.cell? ⟨w3.heap.size,3,none⟩=some (.int .u8 bs.toNat)) (first | exact hS0 | exact hS1 | exact hS2 | go_keep) (first | (go_at_call 40;refine(HSU.out _).mono ?_;rintro e wA ⟨rfl,hBA⟩;have hbA:Below W0.heap.size W0 wA:=(Below.refl _ W0).drew.trans hBA;have hS1:=(HNEW.out wA hbA).1) | (go_at_call 41;refine(HDO.out _).mono ?_;rintro e wB ⟨rfl,hBB⟩;have hbB:Below W0.heap.size W0 wB:=hbA.trans (hBB.mono hbA.size);have hS2:=(HNEW.out wB hbB).1))
     have HFB:=hide (HNEW.out wB hbB).2;rw[HENC.out];clear hS0 hS1 hS2 hBA hbA hBB hbB HNEW;go_wp2;exact bodyPost_ret (v:=.tuple #[.string A,.string C,.string ⟨[bs].toArray⟩,.int .i64 0]) (by simp[results,Tryz.results15,go_sem]) rfl ⟨rfl,HFB.out⟩
   · have k1:(f != 0)=true:=by simpa using hf
     rw[if_neg hf] at hLK;subst hLK;dsimp only;obtain⟨P,hP⟩:∃ P:ByteArray,⟨(Sx.aA H).toArray⟩=P:=⟨_,rfl⟩
     rw[hP] at HPL;clear hP hhost hrt;go_enter Tryz.func15,Tryz.ntmps15;go_wp2_with fail
     refine HRI.out.mono ?_;rintro e w1 ⟨hB1,v,rfl,hv⟩;have HB1:=hide hB1;obtain⟨q,cap,rfl,_⟩:=hv;clear hB1 HRI;go_wp2_with fail
     refine(HPL.out _ (HLW.out _ HB1.out)).mono ?_;rintro e w2 ⟨hB2,rfl⟩;have HB2:=hide (HB1.out.trans (hB2.mono HB1.out.size));clear hB2 HPL;go_wp2;exact bodyPost_ret (v:=.tuple #[.string ⟨#[]⟩,.string ⟨#[]⟩,.string ⟨#[]⟩,.int .i64 f]) (by simp[results,Tryz.results15,go_sem]) rfl ⟨rfl,HB2.out⟩
 · have k1:(e != 0)=true:=by simpa using he
   rw[if_neg he] at hLK;subst hLK;dsimp only;clear hrt HPL;go_enter Tryz.func15,Tryz.ntmps15;go_wp2_with fail
   refine HRI.out.mono ?_;rintro e w1 ⟨hB1,v,rfl,hv⟩;have HB1:=hide hB1;obtain⟨q,cap,rfl,_⟩:=hv;clear hB1 HRI;go_wp2;exact bodyPost_ret (v:=.tuple #[.string ⟨#[]⟩,.string ⟨#[]⟩,.string ⟨#[]⟩,.int .i64 e]) (by simp[results,Tryz.results15,go_sem]) rfl ⟨rfl,HB1.out⟩
end Go.Proofs.YtgohllfpceeboabGreatDoor
