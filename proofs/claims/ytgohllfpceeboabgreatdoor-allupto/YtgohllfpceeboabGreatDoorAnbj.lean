import Derived.Test.YtgohllfpceeboabGreatDoorAnbi
import Derived.Maps.AppendAt
import Derived.Laws.BitsLemmas
set_option maxRecDepth 100000
set_option maxHeartbeats 4000000
namespace Go.Proofs.YtgohllfpceeboabGreatDoor
open Go.RowKit
theorem wH (l:List Sx.Wd)(k:Nat)(h:k<l.length):Sx.aR (l.take (k+1))=Sx.iW l[k] (Sx.aR (l.take k)):=by
 unfold Sx.aR;rw[List.take_succ_eq_append_getElem h,List.foldl_append];rfl
theorem WV (x:Sx.Wd)(m:List Sx.Wd):(Sx.iW x m).length=m.length+1:=by
 have h:m.takeWhile (fun y=>decide (y<x))++m.dropWhile (fun y=>decide (y<x))=m:=List.takeWhile_append_dropWhile;have:=congrArg List.length h;unfold Sx.iW;simp only[List.length_append,List.length_cons] at this ⊢;omega
theorem rW:∀ (k:Nat) (l:List Sx.Wd),k≤l.length→(Sx.aR (l.take k)).length=k
 | 0,l,_=>rfl
 | k+1,l,h=>by rw[wH l k (by omega),WV,rW k l (by omega)]
theorem uN {w:World}{B g cap:Nat}{l:List (List UInt8)}(h:w.ownsRow B 9 1 (.slice (some ⟨g,0,none⟩) l.length cap) l.length (bB l))(r:Nat):∀ j u,(bB (l.take r))[j]? = some u→w.cell? ((⟨g,0,none⟩:Addr).add j)=some u:=by
 intro j u hu;refine h.cells (g:=g) rfl j u ?_;have:bB (l.take r)=(bB l).take r:=by simp[bB]
 rw[this,List.getElem?_take] at hu;split at hu
 · exact hu
 · cases hu
theorem uO {w:World}{B g cap:Nat}{l:List (List UInt8)}(h:w.ownsRow B 9 1 (.slice (some ⟨g,0,none⟩) l.length cap) l.length (bB l))(r:Nat):∀ j u,(bB (l.drop r))[j]? = some u→w.cell? ((⟨g,r,none⟩:Addr).add j)=some u:=by
 intro j u hu;have:bB (l.drop r)=(bB l).drop r:=by simp[bB]
 rw[this,List.getElem?_drop] at hu;have:=h.cells (g:=g) rfl (r+j) u hu;rw[Addr.add_lit] at this ⊢;rw[Nat.zero_add] at this;exact this
theorem sG (l:List (List UInt8)):∀ u∈bB l,u.oneCell'=true:=by
 intro u hu;obtain⟨_,_,rfl⟩:=List.mem_map.1 hu;rfl
def BM (x:Sx.Wd)(m:List Sx.Wd):Nat:=(m.takeWhile fun y=>decide (y<x)).length
theorem L9 (x:Sx.Wd)(m:List Sx.Wd):BM x m≤m.length:=(List.takeWhile_sublist _).length_le
theorem VH (x:Sx.Wd):∀ (m:List Sx.Wd) (j:Nat) (h:j<m.length),j<BM x m→m[j]<x
 | [],j,h,_=>by simp at h
 | y::m,j,h,hj=>by
   by_cases hy:y<x
   · have e:BM x (y::m)=BM x m+1:=by simp[BM,hy]
     cases j with
     | zero=>exact hy
     | succ j=>exact VH x m j (by simpa using h) (by omega)
   · have e:BM x (y::m)=0:=by simp[BM,hy]
     omega
theorem MK (x:Sx.Wd):∀ (m:List Sx.Wd) (h:BM x m<m.length),¬ m[BM x m]<x
 | [],h=>by simp at h
 | y::m,h=>by
   by_cases hy:y<x
   · have e:BM x (y::m)=BM x m+1:=by simp[BM,hy]
     have:=MK x m (by rw[e] at h;simpa using h)
     simpa[e] using this
   · have e:BM x (y::m)=0:=by simp[BM,hy]
     simpa[e] using hy
theorem E1 (x:Sx.Wd)(m:List Sx.Wd):Sx.iW x m=m.take (BM x m)++x::m.drop (BM x m):=by
 have h:m.takeWhile (fun y=>decide (y<x))++m.dropWhile (fun y=>decide (y<x))=m:=List.takeWhile_append_dropWhile;have h1:m.take (BM x m)=m.takeWhile (fun y=>decide (y<x)):=by
  have:=List.take_left (l₁:=m.takeWhile (fun y=>decide (y<x))) (l₂:=m.dropWhile (fun y=>decide (y<x)));rw[h] at this;exact this
 have h2:m.drop (BM x m)=m.dropWhile (fun y=>decide (y<x)):=by
  have:=List.drop_left (l₁:=m.takeWhile (fun y=>decide (y<x))) (l₂:=m.dropWhile (fun y=>decide (y<x)));rw[h] at this;exact this
 rw[h1,h2];rfl
theorem VO:∀ (x y:List UInt8),Op.bytesLess x y=decide (x<y)
 | [],[]=>by simp[Op.bytesLess]
 | [],d::y=>by simp[Op.bytesLess]
 | c::x,[]=>by simp[Op.bytesLess]
 | c::x,d::y=>by
   have ih:=VO x y;unfold Op.bytesLess;rw[ih];by_cases h:c<d
   · simp[List.cons_lt_cons_iff,h]
   · by_cases e:c=d
     · simp[e]
     · simp[List.cons_lt_cons_iff,h,e]
theorem vW (l:List Sx.Wd)(B b cap:Nat)(w:World)(hl:l.length≤1000)(hx:∀ x∈l,x.length≤1000)(ho:w.ownsRow B 9 1 (.slice (some ⟨b,0,none⟩) l.length cap) l.length (bB l)) :
 Calls Tryz.prog 209 #[.slice (some ⟨b,0,none⟩) l.length cap] w fun e w'=>∃ v,e=.returned v∧w'.ownsRow w.heap.size 9 1 v l.length (bB (Sx.aR l))∧Below w.heap.size w w':=by
 obtain⟨i0,hi,hz0,hz1,hz2⟩:=info_parts Tryz.info9;have hbw:b<w.heap.size:=(ho.lt b rfl).2;have HO:=hide ho;have HX:=hide hx;clear ho hx;go_enter Tryz.func209,Tryz.ntmps209;go_wp2
 go_loopw [3,4] (fun m i wr=>∃ k:Nat,i=.int .i64 k∧k≤l.length∧wr.ownsRow w.heap.size 9 1 m k (bB (Sx.aR (l.take k)))∧Below w.heap.size w wr) (fun _ i _=>(l.length-intOf i).toNat)
 case atStart=>exact⟨0,rfl,by omega,World.ownsRow_nil _ _ _ _,Below.refl _ _⟩
 case round =>
  obtain⟨k,rfl,hk,hown,hB⟩:=hrel;have hsz:=hB.size
  rename World=>wo
  by_cases hlt:k<l.length
  · have hown0:=aD HO.out hB;have hcell:=dJ hown0 k hlt;obtain⟨x,hxe⟩:∃ x,l[k]=x:=⟨_,rfl⟩
    rw[hxe] at hcell;have hM:=wH l k hlt;rw[hxe] at hM;have hMl:=rW k l hk;obtain⟨M,hMe⟩:∃ M,Sx.aR (l.take k)=M:=⟨_,rfl⟩
    rw[hMe] at hM hown hMl;subst hMl;have HM:=hide hM;clear hM hMe hxe hown0;rcases hown.2 with ⟨rfl,h0⟩ | ⟨g,cap2,cur,rfl,hg1,hg2,hc1,hc2,hc3,hc4⟩
    · have hM0:M=[]:=List.eq_nil_of_length_eq_zero h0;subst hM0;clear hown h0;go_wp2
      go_loopw [5] (fun a w2=>a=.int .i64 0∧Below wo.heap.size wo w2) (fun _ _=>0)
      case atStart=>exact⟨rfl,Below.refl _ _⟩
      case round =>
       obtain⟨rfl,hB2⟩:=hrel;have hsz2:=hB2.size;have hcell2:=(hB2.cell (p:=⟨b,0,none⟩) (by simp;omega)).trans hcell;go_wp2;go_quiet ((fail))
       go_wp2_with (first | (at_builtin;refine aX _ rfl _ _ _ rfl 9 i0 Tryz.underlying51 hi _ rfl rfl (.inl rfl) ?_) | (at_builtin;go_must (refine wpList_append_lies _ rfl _ _ _ rfl w.heap.size 9 i0 (.string ⟨#[]⟩) 1 16 Tryz.underlying51 hi hz0 hz1 hz2 rfl (by decide) (.slice none 0 0) 0 [] rfl (World.ownsRow_nil _ _ _ _) ⟨_,0,none⟩ 1 1 [.string ⟨x.toArray⟩] rfl rfl (cell_one_new _ _ _) (by simp[Value.oneCell']) (by omega) (by unfold maxLen;omega) (by omega) (by simp;omega) _ rfl ?_)))
       intro g2 cap2 w2 hown2 hgrow hat hlt1;have hcap2:0+1≤cap2:=(bR hown2).2.2.1;go_wp2_with (at_builtin;refine aX _ rfl _ _ _ rfl 9 i0 Tryz.underlying51 hi _ rfl rfl (.inr ⟨_,_,_,rfl,hcap2⟩) ?_)
       refine⟨⟨1,rfl,by omega,?_,aH (Go.below_drewN (hB.trans (hB2.mono hsz)) nq) (by simp;omega) (World.ownsRow_nil _ _ 9 1) hgrow⟩,by simp[intOf];omega⟩;have:=HM.out;rw[List.length_nil,Nat.zero_add] at this;rw[this];exact hown2
    · have hMa:=L9 x M;have hgl:=(hown.lt g rfl).2;have HOWN:=hide hown;have hxl:=hide (fun (j:Nat) (h:j<M.length)=>VH x M j h);clear hown hg2 hc3 hc4;obtain⟨a,ha⟩:∃ a,BM x M=a:=⟨_,rfl⟩
      rw[ha] at hMa;have HA:=hide ha;clear ha;go_wp2
      go_loopw [5] (fun t w2=>∃ j:Nat,t=.int .i64 j∧j≤a∧Below wo.heap.size wo w2) (fun t _=>(a-intOf t).toNat)
      case atStart=>exact⟨0,rfl,by omega,Below.refl _ _⟩
      case round =>
       obtain⟨j,rfl,hj,hB2⟩:=hrel;have hsz2:=hB2.size;have hcell2:=(hB2.cell (p:=⟨b,M.length,none⟩) (by simp;omega)).trans hcell;have hown2:=aD HOWN.out hB2;by_cases hja:j<a
       · have hjM:j<M.length:=by omega
         have hc:=dJ hown2 j hjM;have hlts:M[j]<x:=hxl.out j hjM (by rw[HA.out];exact hja);obtain⟨y,hy⟩:∃ y,M[j]=y:=⟨_,rfl⟩
         rw[hy] at hc hlts;clear hy;have hbl:Op.bytesLess y x=true:=by rw[VO];simpa using hlts
         clear hlts;go_wp2;go_quiet ((fail))
         go_wp2;exact⟨⟨j+1,by go_num,by omega,Go.below_drewN hB2 _⟩,by simp[intOf];omega⟩
       · have hja2:j=a:=by omega
         subst hja2;clear hj hja;have hB3:=hB.trans (hB2.mono hsz);have hsz3:=hB3.size;have fin:∀ (w2:World) (v2:Value) (n2:Nat) (xs:List Value),w2.ownsRow w.heap.size 9 1 v2 n2 xs→n2=M.length+1→xs=bB (M.take j) ++ .string ⟨x.toArray⟩::bB (M.drop j)→w2.ownsRow w.heap.size 9 1 v2 (M.length+1) (bB (Sx.aR (l.take (M.length+1)))):=by
          intro w2 v2 n2 xs h hn2 hxs;subst hn2 hxs;rw[HM.out,E1,HA.out]
          simpa[bB] using h
         have FIN:=hide fin;clear fin;by_cases hjM:j<M.length
         · have hc:=dJ hown2 j hjM;have hnl:¬ M[j]<x:=by
            have:=MK x M (by rw[HA.out];exact hjM)
            simpa[HA.out] using this
           obtain⟨y,hy⟩:∃ y,M[j]=y:=⟨_,rfl⟩
           rw[hy] at hc hnl;clear hy;have hbl:Op.bytesLess y x=false:=by rw[VO];simpa using hnl
           clear hnl;go_wp2;go_quiet ((fail))
           have hown3:(wr.drewN nq).ownsRow w.heap.size 9 1 (.slice (some ⟨g,0,none⟩) M.length cap2) M.length (bB M):=hown2;have hn1:=uN hown3 j;have HN1:=hide hn1;clear hn1;go_wp2_with (at_builtin;go_must (refine wpList_append_own_at _ rfl _ _ _ rfl w.heap.size 9 i0 (.string ⟨#[]⟩) 1 16 Tryz.underlying51 hi hz0 hz1 hz2 rfl (by decide) (.slice none 0 0) 0 [] rfl (World.ownsRow_nil _ _ 9 1) ⟨g,0,none⟩ j _ (bB (M.take j)) rfl (by simp[bB];omega) HN1.out (sG _) (by unfold maxLen;omega) (by omega) (by simp;omega) ?_))
           intro v1 w1 hown4 hgrow4 hnil4 hat4;have hB4:Below w.heap.size w w1:=(Go.below_drewN hB3 nq).grown hgrow4 (by simp;omega) (fun k e=>by cases e);have hl4:=hown3.kept hgrow4 (.inr (by simp[Value.ownBlock]));have hsz4:=hB4.size;have hcell4:w1.cell? ⟨b,M.length,none⟩=some (.string ⟨x.toArray⟩):=(hgrow4.cell_far ⟨b,M.length,none⟩ (by simp;omega) (by simp[Value.ownBlock])).trans hcell2;have hne4:(some g:Option Nat)≠v1.ownBlock:=by
            rcases hat4 with h | h
            · rw[h];simp[Value.ownBlock]
            · rw[h];simp;omega
           try rw[Nat.zero_add] at hown4
           try rw[List.nil_append] at hown4
           clear hat4 hnil4 hgrow4 hown3 hown2;go_wp2_with (at_builtin;go_must (refine wpList_append_lies _ rfl _ _ _ rfl w.heap.size 9 i0 (.string ⟨#[]⟩) 1 16 Tryz.underlying51 hi hz0 hz1 hz2 rfl (by decide) v1 j (bB (M.take j)) rfl (hown4.alloc _) ⟨_,0,none⟩ 1 1 [.string ⟨x.toArray⟩] rfl rfl (cell_one_new _ _ _) (by simp[Value.oneCell']) (by omega) (by unfold maxLen;omega) (by omega) (by simp;omega) _ rfl ?_))
           intro g5 cap5 w5 hown5 hgrow5 hat5 hlt5;have hB5:Below w.heap.size w w5:=aH hB4 hsz4 hown4 hgrow5;have hl5:=(hl4.alloc (.cells #[.string ⟨x.toArray⟩] 9)).kept hgrow5 (.inr (by simpa[Value.ownBlock] using hne4));have hsz5:=hB5.size;have hn5:=uO hl5 j;have HN5:=hide hn5;clear hn5 hat5 hgrow5 hl4;by_cases hcr:cap2=j
           · go_wp2_with (at_builtin;go_must (refine wpList_append_own_at _ rfl _ _ _ rfl w.heap.size 9 i0 (.string ⟨#[]⟩) 1 16 Tryz.underlying51 hi hz0 hz1 hz2 rfl (by decide) (.slice (some ⟨g5,0,none⟩) (j+1) cap5) (j+1) (bB (M.take j)++[.string ⟨x.toArray⟩]) rfl hown5 ⟨g,0,none⟩ (M.length-j) _ (bB (M.drop j)) rfl (by simp[bB]) (by rw[List.drop_eq_nil_of_le (by omega)];simp[bB]) (sG _) (by unfold maxLen;omega) (by omega) (by omega) ?_))
             intro v6 w6 hown6 hgrow6 hnil6 hat6;have hB6:Below w.heap.size w w6:=hB5.grown hgrow6 (by omega) (fun k e=>(hown5.lt k e).1);have hfin:=FIN.out _ _ _ _ hown6 (by omega) (by simp);clear hat6 hnil6 hgrow6 hown6;go_wp2;exact⟨⟨M.length+1,by go_num,by omega,hfin,hB6⟩,by simp[intOf];omega⟩
           · go_wp2_with (at_builtin;go_must (refine wpList_append_own_at _ rfl _ _ _ rfl w.heap.size 9 i0 (.string ⟨#[]⟩) 1 16 Tryz.underlying51 hi hz0 hz1 hz2 rfl (by decide) (.slice (some ⟨g5,0,none⟩) (j+1) cap5) (j+1) (bB (M.take j)++[.string ⟨x.toArray⟩]) rfl hown5 ⟨g,j,none⟩ (M.length-j) _ (bB (M.drop j)) rfl (by simp[bB]) HN5.out (sG _) (by unfold maxLen;omega) (by omega) (by omega) ?_))
             intro v6 w6 hown6 hgrow6 hnil6 hat6;have hB6:Below w.heap.size w w6:=hB5.grown hgrow6 (by omega) (fun k e=>(hown5.lt k e).1);have hfin:=FIN.out _ _ _ _ hown6 (by omega) (by simp);clear hat6 hnil6 hgrow6 hown6;go_wp2;exact⟨⟨M.length+1,by go_num,by omega,hfin,hB6⟩,by simp[intOf];omega⟩
         · have hjM2:¬ (j:Int)<(M.length:Int):=by omega
           go_wp2;go_quiet ((fail))
           have hown3:(wr.drewN nq).ownsRow w.heap.size 9 1 (.slice (some ⟨g,0,none⟩) M.length cap2) M.length (bB M):=hown2;have hn1:=uN hown3 j;have HN1:=hide hn1;clear hn1;go_wp2_with (at_builtin;go_must (refine wpList_append_own_at _ rfl _ _ _ rfl w.heap.size 9 i0 (.string ⟨#[]⟩) 1 16 Tryz.underlying51 hi hz0 hz1 hz2 rfl (by decide) (.slice none 0 0) 0 [] rfl (World.ownsRow_nil _ _ 9 1) ⟨g,0,none⟩ j _ (bB (M.take j)) rfl (by simp[bB];omega) HN1.out (sG _) (by unfold maxLen;omega) (by omega) (by simp;omega) ?_))
           intro v1 w1 hown4 hgrow4 hnil4 hat4;have hB4:Below w.heap.size w w1:=(Go.below_drewN hB3 nq).grown hgrow4 (by simp;omega) (fun k e=>by cases e);have hl4:=hown3.kept hgrow4 (.inr (by simp[Value.ownBlock]));have hsz4:=hB4.size;have hcell4:w1.cell? ⟨b,M.length,none⟩=some (.string ⟨x.toArray⟩):=(hgrow4.cell_far ⟨b,M.length,none⟩ (by simp;omega) (by simp[Value.ownBlock])).trans hcell2;have hne4:(some g:Option Nat)≠v1.ownBlock:=by
            rcases hat4 with h | h
            · rw[h];simp[Value.ownBlock]
            · rw[h];simp;omega
           try rw[Nat.zero_add] at hown4
           try rw[List.nil_append] at hown4
           clear hat4 hnil4 hgrow4 hown3 hown2;go_wp2_with (at_builtin;go_must (refine wpList_append_lies _ rfl _ _ _ rfl w.heap.size 9 i0 (.string ⟨#[]⟩) 1 16 Tryz.underlying51 hi hz0 hz1 hz2 rfl (by decide) v1 j (bB (M.take j)) rfl (hown4.alloc _) ⟨_,0,none⟩ 1 1 [.string ⟨x.toArray⟩] rfl rfl (cell_one_new _ _ _) (by simp[Value.oneCell']) (by omega) (by unfold maxLen;omega) (by omega) (by simp;omega) _ rfl ?_))
           intro g5 cap5 w5 hown5 hgrow5 hat5 hlt5;have hB5:Below w.heap.size w w5:=aH hB4 hsz4 hown4 hgrow5;have hl5:=(hl4.alloc (.cells #[.string ⟨x.toArray⟩] 9)).kept hgrow5 (.inr (by simpa[Value.ownBlock] using hne4));have hsz5:=hB5.size;have hn5:=uO hl5 j;have HN5:=hide hn5;clear hn5 hat5 hgrow5 hl4;by_cases hcr:cap2=j
           · go_wp2_with (at_builtin;go_must (refine wpList_append_own_at _ rfl _ _ _ rfl w.heap.size 9 i0 (.string ⟨#[]⟩) 1 16 Tryz.underlying51 hi hz0 hz1 hz2 rfl (by decide) (.slice (some ⟨g5,0,none⟩) (j+1) cap5) (j+1) (bB (M.take j)++[.string ⟨x.toArray⟩]) rfl hown5 ⟨g,0,none⟩ (M.length-j) _ (bB (M.drop j)) rfl (by simp[bB]) (by rw[List.drop_eq_nil_of_le (by omega)];simp[bB]) (sG _) (by unfold maxLen;omega) (by omega) (by omega) ?_))
             intro v6 w6 hown6 hgrow6 hnil6 hat6;have hB6:Below w.heap.size w w6:=hB5.grown hgrow6 (by omega) (fun k e=>(hown5.lt k e).1);have hfin:=FIN.out _ _ _ _ hown6 (by omega) (by simp);clear hat6 hnil6 hgrow6 hown6;go_wp2;exact⟨⟨M.length+1,by go_num,by omega,hfin,hB6⟩,by simp[intOf];omega⟩
           · go_wp2_with (at_builtin;go_must (refine wpList_append_own_at _ rfl _ _ _ rfl w.heap.size 9 i0 (.string ⟨#[]⟩) 1 16 Tryz.underlying51 hi hz0 hz1 hz2 rfl (by decide) (.slice (some ⟨g5,0,none⟩) (j+1) cap5) (j+1) (bB (M.take j)++[.string ⟨x.toArray⟩]) rfl hown5 ⟨g,j,none⟩ (M.length-j) _ (bB (M.drop j)) rfl (by simp[bB]) HN5.out (sG _) (by unfold maxLen;omega) (by omega) (by omega) ?_))
             intro v6 w6 hown6 hgrow6 hnil6 hat6;have hB6:Below w.heap.size w w6:=hB5.grown hgrow6 (by omega) (fun k e=>(hown5.lt k e).1);have hfin:=FIN.out _ _ _ _ hown6 (by omega) (by simp);clear hat6 hnil6 hgrow6 hown6;go_wp2;exact⟨⟨M.length+1,by go_num,by omega,hfin,hB6⟩,by simp[intOf];omega⟩
  · have hkl:k=l.length:=by omega
    subst hkl;rw[List.take_length] at hown;go_wp2;go_ret;exact⟨_,rfl,hown,hB⟩
theorem PM (w:World):Calls Tryz.prog 209 #[.slice none 0 0] w fun e w'=>e=.returned (.slice none 0 0)∧w'=w:=by
 go_enter Tryz.func209,Tryz.ntmps209;go_wp2
 go_loopw [3,4] (fun m i wr=>m=.slice none 0 0∧i=.int .i64 0∧wr=w) (fun _ _ _=>0)
 case atStart=>exact⟨rfl,rfl,rfl⟩
 case round =>
  obtain⟨rfl,rfl,rfl⟩:=hrel;go_wp2;go_ret;exact⟨rfl,rfl⟩
theorem zV:∀ (l m:List Sx.Wd) (y:Sx.Wd),y∈l.foldl (fun m x=>Sx.iW x m) m→y∈l∨y∈m
 | [],m,y,h=>.inr h
 | x::l,m,y,h=>by
   rcases zV l (Sx.iW x m) y h with h | h
   · exact .inl (List.mem_cons_of_mem _ h)
   · rcases(Sx.qU x y m).1 h with rfl | h
     · exact .inl (List.mem_cons_self ..)
     · exact .inr h
theorem xY {l:List Sx.Wd}{y:Sx.Wd}(h:y∈Sx.aR l):y∈l:=by
 rcases zV l [] y h with h | h
 · exact h
 · cases h
theorem XG (l:List Sx.Wd)(m:Nat)(h:∀ x∈l,x.length≤m):Sx.sl l≤l.length*m:=by
 induction l with
 | nil=>simp[Sx.sl]
 | cons x l ih =>
   have h1:=h x (by simp);have h2:=ih (fun y hy=>h y (by simp[hy]));simp only[Sx.sl,List.map_cons,List.sum_cons,List.length_cons] at h2 ⊢;rw[Nat.succ_mul];omega
theorem UU {r:Sx.Rl}(h:Sx.mJ r)(hs:r.2.2≠10):(10:UInt8) ∉ Sx.aL r:=by
 unfold Sx.aL Sx.keyOf;intro hm;rcases List.mem_append.1 hm with hm | hm
 · have:=Sx.gG (h:=r.1.reverse) (fun x hx=>(h.1.2.2.2 x (List.mem_reverse.1 hx)).2) 10 hm;revert this;unfold Sx.pF;decide
 · simp only[List.mem_cons,List.not_mem_nil,or_false] at hm;rcases hm with hm | hm
   · rcases h.2 with e | e | e <;> rw[←hm] at e <;> revert e <;> decide
   · exact hs hm.symm
theorem IY {l:List Sx.Wd}(h:Sx.SK l):(Sx.grp l).length≤Sx.sl l:=by
 rcases h with rfl | ⟨_,h1⟩
 · simp[Sx.grp]
 · have h2:=Sx.nW l h1;have h3:∀ g:List (UInt8×List Sx.Wd),g.length≤(g.map fun g=>Sx.sl g.2+1).sum:=by
    intro g
    induction g with
    | nil=>simp
    | cons x g ih=>simp only[List.map_cons,List.sum_cons,List.length_cons];omega
   have:=h3 (Sx.grp l);omega
theorem TC {n:Nat}{l:List Sx.Wd}(h:Sx.kB n l):∀ x∈(Sx.fU n [] l).1,x.2.length≤Sx.sl l:=by
 intro x hx;have N:=Sx.tL n [] l ⟨by simp,by simp,by simp⟩ h;obtain⟨ext,he,hb⟩:=N.ext;have h1:=hb x (by rw[he] at hx;simpa using hx);have h2:=congrArg List.length (N.inv.edges x hx);rw[List.length_map,List.length_map] at h2;have h3:=IY (N.inv.fine x hx);omega
def preB (qa:List oC)(j:Nat):List UInt8:=Sx.two qa.length++(qa.take j).flatMap fun x=>Sx.bO x.2.2.2
def kJ (es:List Sx.aT)(m:Nat):List UInt8:=UInt8.ofNat es.length::(es.take m).flatMap fun e=>e.1::Sx.two e.2
theorem OM (qa:List oC)(j:Nat)(h:j<qa.length):preB qa (j+1)=preB qa j++Sx.bO qa[j].2.2.2:=by
 unfold preB;rw[List.take_succ_eq_append_getElem h,List.flatMap_append];simp
theorem KX (es:List Sx.aT)(m:Nat)(h:m<es.length):kJ es (m+1)=kJ es m++[es[m].1,UInt8.ofNat (es[m].2 / 256),UInt8.ofNat (es[m].2 % 256)]:=by
 unfold kJ;rw[List.take_succ_eq_append_getElem h,List.flatMap_append];simp[Sx.two]
theorem TD (es:List Sx.aT):kJ es es.length=Sx.bO es:=by
 unfold kJ Sx.bO;rw[List.take_length]
theorem SV (es:List Sx.aT)(m:Nat)(h:m≤es.length):(kJ es m).length=1+3*m:=by
 unfold kJ;have:∀ l:List Sx.aT,(l.flatMap fun e=>e.1::Sx.two e.2).length=3*l.length:=by
  intro l
  induction l with
  | nil=>rfl
  | cons x l ih =>
    rw[List.flatMap_cons,List.length_append,ih];simp only[Sx.two,List.length_cons,List.length_nil];omega
 rw[List.length_cons,this,List.length_take];omega
theorem an (k:Nat):Value.int .u8 ((UInt8.ofNat k).toNat:Int)=Value.int .u8 ((k:Int) % 256):=by
 simp[UInt8.toNat_ofNat']
theorem qH {wr w8:World}{o:Obj}{r:Option Nat}{B k i:Nat}{v:Value}(hg:(wr.alloc o).drew.grownBy w8 r)(hr:∀ g,r=some g→B≤g)(hk:k<B)(hB:B≤wr.heap.size)(hc:wr.cell? ⟨k,i,none⟩=some v):w8.cell? ⟨k,i,none⟩=some v:=by
 have h1:k<wr.heap.size:=by omega
 refine(hg.cell_far ⟨k,i,none⟩ (by simp;omega) (fun e=>by have:=hr _ e.symm;simp at this;omega)).trans ?_;show(wr.alloc o).cell? ⟨k,i,none⟩=some v;rw[World.cell?_alloc_lt _ _ _ h1];exact hc
theorem JV (w:World)(x y z:Value)(t:TypeId):∀ (j:Nat) (u:Value),[x,y,z][j]? = some u→(w.alloc (.cells #[x,y,z] t)).drew.cell? ((⟨w.heap.size,0,none⟩:Addr).add j)=some u:=mH w x y z t
theorem YB {w:World}{B n z:Nat}{e:TypeId}{v:Value}{xs:List Value}(h:w.ownsRow B e z v n xs):w.drew.ownsRow B e z v n xs:=h
theorem J5 (x:Int):IntKind.u8.wrap x=x % 256:=by simp[IntKind.wrap,IntKind.bits,IntKind.signed]
theorem x8 (t:Nat)(h:t≤100000):IntKind.u8.wrap (IntKind.i64.wrap ((t:Int) / 256))=((UInt8.ofNat (t / 256)).toNat:Int):=by
 have h1:IntKind.i64.wrap ((t:Int) / 256)=(t:Int) / 256:=by
  rw[IntKind.wrap_i64];omega
 rw[h1,UInt8.toNat_ofNat',J5];omega
theorem f9 (t:Nat)(h:t≤100000):IntKind.u8.wrap ((t:Int).tmod 256)=((UInt8.ofNat (t % 256)).toNat:Int):=by
 rw[Int.tmod_eq_emod_of_nonneg (by omega),UInt8.toNat_ofNat',J5];omega
theorem OB {w:World}{n:Nat}{x y:Value}(hx:dO (Sx.two n)=[x,y]):(w.alloc (.cells #[x,y] 5)).ownsRow w.heap.size 5 1 (.slice (some ⟨w.heap.size,0,none⟩) 2 2) 2 (dO (Sx.two n)):=by
 refine⟨by simp[dO,Sx.two],.inr ⟨w.heap.size,2,#[x,y],rfl,Nat.le_refl _,heap_alloc_new _ _,by omega,by unfold maxLen;omega,rfl,?_⟩⟩;rw[hx];rfl
theorem V8 (q:List wZ)(B:Nat)(v:Value)(w:World)(hat:RlsAt w B v q)(hok:Sx.RlsOk (q.map (·.2)))(hsec:∀ r∈q.map (·.2),r.2.2≠10) :
 Calls Tryz.prog 152 #[v] w fun e w'=>e=.returned (.string ⟨(Sx.eH (Sx.aW (q.map (·.2)))).toArray⟩)∧Below w.heap.size w w':=by
 obtain⟨i0,hi,hz0,hz1,hz2⟩:=info_parts Tryz.info9;obtain⟨i2,hi2,hx0,hx1,hx2⟩:=info_parts Tryz.info5;obtain⟨p,c,rfl⟩:=aB hat.row;have hq:q.length≤30:=by have:=hok.many;simpa using this
 have HAT:=hide hat;have HOK:=hide hok;have HSEC:=hide hsec;clear hat hok hsec;go_enter Tryz.func152,Tryz.ntmps152;go_wp2
 go_loopw [3,4] (fun v i wr=>∃ k:Nat,i=.int .i64 k∧k≤q.length∧wr.ownsRow w.heap.size 9 1 v k (bB ((q.take k).map fun x=>Sx.aL x.2))∧Below w.heap.size w wr) (fun _ i _=>(q.length-intOf i).toNat)
 case atStart=>exact⟨0,rfl,by omega,World.ownsRow_nil _ _ _ _,Below.refl _ _⟩
 case round =>
  obtain⟨k,rfl,hk,hown,hB⟩:=hrel;have hsz:=hB.size;by_cases hlt:k<q.length
  · have hat2:=HAT.out.below hB;obtain⟨g,c',hv,hg1,hg2⟩:=hat2.row.form (by omega);simp only[Value.slice.injEq,true_and] at hv;obtain⟨rfl,rfl⟩:=hv;obtain⟨c1,c2,c3⟩:=hat2.cells k hlt;have hrl:=HOK.out.ok q[k].2 (List.mem_map.2 ⟨q[k],List.getElem_mem hlt,rfl⟩);have hh:=hat2.hosts q[k] (List.getElem_mem hlt);have hkt:=PX q k hlt;obtain⟨⟨hv,h,kd,sc⟩,he⟩:∃ x,q[k]=x:=⟨_,rfl⟩
    rw[he] at c1 c2 c3 hrl hh hkt;dsimp only at c1 c2 c3 hh hkt;have hr1:h.length≤6:=hrl.1.2.1;have hr2:Sx.aM h≤61:=hrl.1.2.2.1;obtain⟨gh,ch,hhv,_,_⟩:=hh.form (List.length_pos_iff.2 hrl.1.1);subst hhv;have hkey:=QQ h kd sc B gh ch wr (by omega) (fun x hx=>by have h1:=eZ h x hx;omega) hh;have HKEY:=hide hkey;have HKT:=hide hkt;clear hkey hkt he hrl hh hat2 hr1 hr2;go_wp2_with fail
    refine HKEY.out.mono ?_;rintro e w2 ⟨rfl,hB2⟩;have hown2:=aD hown hB2;have hB3:=hB.trans (hB2.mono hsz);have hsz3:=hB3.size;go_wp2_with (at_builtin;go_must (refine wpList_append_lies _ rfl _ _ _ rfl w.heap.size 9 i0 (.string ⟨#[]⟩) 1 16 Tryz.underlying51 hi hz0 hz1 hz2 rfl (by decide) _ _ _ rfl (hown2.alloc _) ⟨_,0,none⟩ 1 1 [.string ⟨(Sx.keyOf h kd sc).toArray⟩] rfl rfl (cell_one_new _ _ _) (by simp[Value.oneCell']) (by omega) (by unfold maxLen;omega) (by omega) (by simp;omega) _ rfl ?_;intro g2 cap2 w3 hown3 hgrow hat hlt1))
    exact⟨⟨k+1,by go_num,by omega,by rw[HKT.out,gB];exact hown3,aH hB3 hsz3 hown2 hgrow⟩,by simp[intOf];omega⟩
  · have hkl:k=q.length:=by omega
    subst hkl;rw[List.take_length] at hown;clear hlt;obtain⟨K,hK⟩:∃ K,q.map (fun x=>Sx.aL x.2)=K:=⟨_,rfl⟩
    rw[hK] at hown;have hKl:K.length=q.length:=by rw[←hK,List.length_map]
    rw[←hKl] at hown;have hKm:(q.map (·.2)).map Sx.aL=K:=by rw[List.map_map,←hK];rfl
    have HKM:=hide hKm;by_cases h0:q=[]
    · subst h0;have hK0:K=[]:=List.eq_nil_of_length_eq_zero (by rw[hKl];rfl);subst hK0;have hbo:∀ (W:World),w.heap.size≤W.heap.size→(W.alloc (.cells #[.int .u8 0,.int .u8 0] 5)).ownsRow w.heap.size 5 1 (.slice (some ⟨W.heap.size,0,none⟩) 2 2) 2 (dO [0,0]):=by
       intro W hW;exact jL (OB (n:=0) rfl) hW
      have HBO:=hide hbo;clear hK hKl hKm HKM hbo;rcases hown.2 with ⟨rfl,_⟩ | ⟨g,cap2,cur,rfl,hg1,hg2,hc1,hc2,hc3,hc4⟩
      · clear hown;go_wp2_with fail
        refine(PM _).mono ?_;rintro e w2 ⟨rfl,rfl⟩;have hbi:=HBO.out w2 hsz;have HBI:=hide hbi;clear hbi;go_wp2
        go_loopw [6,7] (fun bv iv wr=>iv=.int .i64 0∧bv=.slice (some ⟨w2.heap.size,0,none⟩) 2 2∧wr.ownsRow w.heap.size 5 1 bv 2 (dO [0,0])∧Below w.heap.size w wr) (fun _ _ _=>0)
        case atStart=>exact⟨rfl,rfl,HBI.out,hB.alloc hsz _⟩
        case round =>
         obtain⟨rfl,rfl,hown9,hB9⟩:=hrel;have hcv:=dD hown9;go_wp2;go_ret;exact⟨rfl,hB9⟩
      · have hs:=vW [] w.heap.size g cap2 wr (by simp) (by simp) hown;have HSO:=hide hs;clear hown hg2 hc3 hc4 hs;go_wp2_with fail
        refine HSO.out.mono ?_;rintro e w2 ⟨v2,rfl,ho2,hB2⟩;obtain⟨p2,c2,rfl⟩:=aB ho2;have hB3:=hB.trans (hB2.mono hsz);have hsz3:=hB3.size;have hbi:=HBO.out w2 hsz3;have HBI:=hide hbi;clear hbi ho2;go_wp2
        go_loopw [6,7] (fun bv iv wr=>iv=.int .i64 0∧bv=.slice (some ⟨w2.heap.size,0,none⟩) 2 2∧wr.ownsRow w.heap.size 5 1 bv 2 (dO [0,0])∧Below w.heap.size w wr) (fun _ _ _=>0)
        case atStart=>exact⟨rfl,rfl,HBI.out,hB3.alloc hsz3 _⟩
        case round =>
         obtain⟨rfl,rfl,hown9,hB9⟩:=hrel;have hcv:=dD hown9;go_wp2;go_ret;exact⟨rfl,hB9⟩
    · have hk0:0<K.length:=by rw[hKl];exact List.length_pos_iff.2 h0
      obtain⟨gk,ck,rfl,_,_⟩:=hown.form hk0;have hmne:q.map (·.2)≠[]:=by simpa using h0
      obtain⟨hokf,hfree⟩:=Sx.nV HOK.out hmne;rw[hKm] at hokf hfree;have hKw:∀ x∈K,x.length≤1000:=by
       intro x hx;rw[←hKm] at hx;obtain⟨r,hr,rfl⟩:=List.mem_map.1 hx;have:=Sx.jC (HOK.out.ok r hr);omega
      have hsort:=vW K w.heap.size gk ck wr (by omega) hKw hown;have HSORT:=hide hsort;have hnl:Sx.vL (Sx.aR K):=by
       intro x hx;have hx:=xY hx;rw[←hKm] at hx;obtain⟨r,hr,rfl⟩:=List.mem_map.1 hx;exact UU (HOK.out.ok r hr) (HSEC.out r hr)
      have hSl:(Sx.aR K).length=K.length:=by have:=rW K.length K (Nat.le_refl _);rw[List.take_length] at this;exact this
      have hSw:∀ x∈Sx.aR K,x.length≤64:=by
       intro x hx;have hx:=xY hx;rw[←hKm] at hx;obtain⟨r,hr,rfl⟩:=List.mem_map.1 hx;have:=Sx.jC (HOK.out.ok r hr);omega
      have hsb:=XG _ 64 hSw;rw[hSl] at hsb;have himg:=Sx.ZB HOK.out hmne;rw[hKm] at himg;have hK30:K.length≤30:=by omega
      obtain⟨S,hS⟩:∃ S,Sx.aR K=S:=⟨_,rfl⟩
      rw[hS] at hnl hSl hSw hsb himg hokf HSORT;have HS:=hide hS;have HOKF:=hide hokf;have HNL:=hide hnl;have HSL:=hide hSl;have HSW:=hide hSw;have HIMG:=hide himg;have HKL:=hide hKl;clear hsort hokf hfree hKw hmne hK hKm hnl hSl hSw himg hKl hS;have hk0i:(0:Int)<(K.length:Int):=by omega
      go_wp2_with fail
      refine HSORT.out.mono ?_;rintro e w2 ⟨vs,rfl,hownS,hB2⟩;obtain⟨gs,cs,rfl,_,_⟩:=hownS.form hk0;have hB3:=hB.trans (hB2.mono hsz);have hsz3:=hB3.size;have hcall:=Z7 64 S [] w.heap.size wr.heap.size gs cs (.slice none 0 0) w2 HOKF.out HNL.out (by simp) (by simp;omega) (by rw[HSL.out];omega) (fun x hx=>by have:=HSW.out x hx;omega) ⟨World.ownsRow_nil _ _ _ _,by simp,by simp⟩ hsz3 (by rw[HSL.out];exact hownS);rw[HSL.out] at hcall;have HCALL:=hide hcall;clear hcall hownS;go_wp2_with fail
      refine HCALL.out.mono ?_;rintro e w4 ⟨va,qa,rfl,hqa,hsta,hga,_,_,_⟩;have hB4:Below w.heap.size w w4:=hB3.grown hga hsz3 (fun k e=>by cases e);have hsz4:=hB4.size;have htab:qa.map (·.2.2.2)=Sx.aW (q.map (·.2)):=by
       rw[←HIMG.out];have:=congrArg (List.map (fun x:List Sx.Wd×List Sx.aT=>x.2)) hqa;rw[List.map_map] at this;exact this
      have HTAB:=hide htab;have hqn:qa.length≤100000:=by
       have h1:=Sx.vM 64 [] S HOKF.out;have h2:=congrArg List.length hqa;rw[List.length_map] at h2;simp only[List.map_nil,List.length_nil] at h1 h2;omega
      have hed:∀ x∈qa,x.2.2.2.length≤2000:=by
       intro x hx;have h1:=TC HOKF.out x.2.2 (by rw[show([] : Sx.Sts)=(([] : List oC).map (·.2.2)) from rfl,←hqa];exact List.mem_map.2 ⟨x,hx,rfl⟩);omega
      have HED:=hide hed;have hto:∀ x∈qa,∀ e∈x.2.2.2,e.2≤100000:=by
       intro x hx e he;have h1:=(Sx.gC 64 [] S HOKF.out (by simp)).2.2.2;have h2:qa.map (·.2.2.2)=(Sx.bU 64 [] S).1:=by
        rw[HTAB.out];unfold Sx.aW;rw[if_neg (by simpa using h0),HKM.out,HS.out]
       have h3:=h1 x.2.2.2 (by rw[←h2];exact List.mem_map.2 ⟨x,hx,rfl⟩) e he;have h4:=congrArg List.length h2;rw[List.length_map] at h4;omega
      have HTO:=hide hto;have hfin:Sx.eH (Sx.aW (q.map (·.2)))=preB qa qa.length:=by
       rw[←HTAB.out];unfold Sx.eH preB;rw[List.length_map,List.take_length,List.flatMap_map]
      have HFIN:=hide hfin;obtain⟨pa,ca,rfl⟩:=aB hsta.row;have HSTA:=hide hsta;have htwo:dO (Sx.two qa.length)=[.int .u8 ((qa.length:Int) / 256 % 256),.int .u8 ((qa.length:Int) % 256)]:=by
       simp only[Sx.two,dO,List.map_cons,List.map_nil,an];simp
      have hinit:=OB (w:=w4) htwo;have HINIT:=hide hinit;clear hqa hga hsta htab hB2 HSORT HCALL hed hfin htwo hinit hto;go_wp2
      go_loopw [6,7] (fun bv iv wr=>∃ (j N:Nat),iv=.int .i64 j∧j≤qa.length∧(preB qa j).length=N∧N≤2+7000*j∧wr.ownsRow w4.heap.size 5 1 bv N (dO (preB qa j))∧Below w4.heap.size w4 wr) (fun _ iv _=>(qa.length-intOf iv).toNat)
      case atStart=>exact⟨0,2,rfl,by omega,by simp[preB,Sx.two],by omega,by simpa[preB] using HINIT.out,(Below.refl _ _).alloc (Nat.le_refl _) _⟩
      case round =>
       obtain⟨j,N,rfl,hj,hN,hNb,hown,hB5⟩:=hrel;have HN:=hide hN;have hsz5:=hB5.size;clear hN
       rename World=>wo
       by_cases hjl:j<qa.length
       · have hst5:=HSTA.out.below hB5;obtain⟨ga,ca',hva,hga1,hga2⟩:=hst5.row.form (by omega);simp only[Value.slice.injEq,true_and] at hva;obtain⟨rfl,rfl⟩:=hva;have hgw4:ga<w4.heap.size:=(HSTA.out.row.lt ga rfl).2;have hel:=HED.out qa[j] (List.getElem_mem hjl);have hte:=HTO.out qa[j] (List.getElem_mem hjl);have hpm:=OM qa j hjl;have hbr:=HSTA.out.bys qa[j] (List.getElem_mem hjl);have htr:=HSTA.out.tos qa[j] (List.getElem_mem hjl);have hcl:=NF qa j hjl;obtain⟨⟨xb,xt,xr,es⟩,he⟩:∃ x,qa[j]=x:=⟨_,rfl⟩
         rw[he] at hel hpm hbr htr hcl hte;dsimp only at hel hpm hbr htr hcl hte;have HTE:=hide hte;obtain⟨pb,cb,rfl⟩:=aB hbr;obtain⟨pt,ct,rfl⟩:=aB htr;have c1:=HSTA.out.row.cells (g:=ga) rfl _ _ hcl.2.1;have c2:=HSTA.out.row.cells (g:=ga) rfl _ _ hcl.2.2;rw[Addr.add_lit,Nat.zero_add] at c1 c2;have d1:=(hB5.cell (p:=⟨ga,j*3+1,none⟩) hgw4).trans c1;have HPM:=hide hpm;have HBR:=hide hbr;have HTR:=hide htr;have C1:=hide c1;have C2:=hide c2;clear hcl he hst5 hpm hbr htr c1 c2 hte;go_wp2_with (at_builtin;go_must (refine wpList_append_lies _ rfl _ _ _ rfl w4.heap.size 5 i2 (.int .u8 0) 1 1 Tryz.underlying90 hi2 hx0 hx1 hx2 rfl (by decide) _ _ _ rfl (hown.alloc _) ⟨_,0,none⟩ 1 1 [.int .u8 ((es.length:Int) % 256)] rfl rfl (cell_one_new _ _ _) (by simp[Value.oneCell']) (by omega) (by unfold maxLen;omega) (by omega) (by simp;omega) _ rfl ?_;intro g6 cap6 w6 hown6 hgrow6 hat6 hlt6))
         have hB6:=aH hB5 hsz5 hown hgrow6;have hB6':Below w4.heap.size w4 w6:=hB6;have hsz6:=hB6.size;have hpre:dO (preB qa j++kJ es 0)=dO (preB qa j)++[.int .u8 ((es.length:Int) % 256)]:=by
          rw[eQ];simp only[kJ,List.take_zero,List.flatMap_nil,dO,List.map_cons,List.map_nil,an]
         have HPRE:=hide hpre;clear hpre hgrow6 hat6 hB6 hown
         go_loopw [6,8] (fun bv kv wr=>∃ (m M:Nat),kv=.int .i64 m∧m≤es.length∧M=N+1+3*m∧wr.ownsRow w4.heap.size 5 1 bv M (dO (preB qa j++kJ es m))∧Below w4.heap.size w4 wr) (fun _ kv _=>(es.length-intOf kv).toNat)
         case atStart=>exact⟨0,N+1,rfl,by omega,by omega,by rw[HPRE.out];exact hown6,hB6'⟩
         case round =>
          obtain⟨m,M,rfl,hm,hM,hown7,hB7⟩:=hrel;have hMb:M≤100000000000:=by omega
          have HMM:=hide hM;clear hM;have hsz7:=hB7.size;have d1:=(hB7.cell (p:=⟨ga,j*3+1,none⟩) hgw4).trans C1.out;have d2:=(hB7.cell (p:=⟨ga,j*3+2,none⟩) hgw4).trans C2.out;by_cases hml:m<es.length
          · obtain⟨gb,cb',hvb,_,hgb⟩:=HBR.out.form (by omega);simp only[Value.slice.injEq,true_and] at hvb;obtain⟨rfl,rfl⟩:=hvb;obtain⟨gt,ct',hvt,_,hgt⟩:=HTR.out.form (by omega);simp only[Value.slice.injEq,true_and] at hvt;obtain⟨rfl,rfl⟩:=hvt;have e1:=HBR.out.cells (g:=gb) rfl m (.int .u8 es[m].1.toNat) (by simp[dO,BC,hml]);have e2:=HTR.out.cells (g:=gt) rfl m (.int .i64 es[m].2) (by simp[dW,BW,hml]);rw[Addr.add_lit,Nat.zero_add] at e1 e2;have d3:=(hB7.cell (p:=⟨gb,m,none⟩) hgb).trans e1;have d4:=(hB7.cell (p:=⟨gt,m,none⟩) hgt).trans e2;have htk:=KX es m hml;have htb:=HTE.out es[m] (List.getElem_mem hml);obtain⟨⟨y,t⟩,hyt⟩:∃ e,es[m]=e:=⟨_,rfl⟩
            rw[hyt] at d3 d4 htk htb;dsimp only at d3 d4 htk htb;have HTK:=hide htk;have hr7:∀ (v:Value) (n:Nat) (xs:List Value),wr.ownsRow w4.heap.size 5 1 v n xs→∀ g,v.ownBlock=some g→w4.heap.size≤g:=fun v n xs h g e=>(h.lt g e).1;have HR7:=hide hr7;clear htk hyt e1 e2 hr7;go_wp2;go_region_held_law (fun w'=>(w'.cell? ⟨ga,j*3+1,none⟩=some (.slice (some ⟨gb,0,none⟩) es.length cb)∧w'.cell? ⟨ga,j*3+2,none⟩=some (.slice (some ⟨gt,0,none⟩) es.length ct))∧(w'.cell? ⟨gb,m,none⟩=some (.int .u8 y.toNat)∧w'.cell? ⟨gt,m,none⟩=some (.int .i64 t))) (first | exact hS8 | go_keep) ((refine step_append_lies _ rfl _ _ _ rfl w4.heap.size 5 i2 (.int .u8 0) 1 1 Tryz.underlying90 hi2 hx0 hx1 hx2 rfl (by decide) _ M (dO (preB qa j++kJ es m)) rfl (YB (hown7.alloc _)) ⟨wr.heap.size,0,none⟩ 3 3 [.int .u8 y.toNat,.int .u8 (IntKind.u8.wrap (IntKind.i64.wrap ((t:Int) / 256))),.int .u8 (IntKind.u8.wrap ((t:Int).tmod 256))] rfl rfl (JV _ _ _ _ _) (by simp[Value.oneCell']) (by omega) (by unfold maxLen;omega) (by omega) (by simp;omega) _ rfl ?_;intro g8 cap8 w8 hown8 hgrow8 hat8 hlt8;have hS8:=And.intro (And.intro (qH hgrow8 (HR7.out _ _ _ hown7) hgw4 hsz7 d1) (qH hgrow8 (HR7.out _ _ _ hown7) hgw4 hsz7 d2)) (And.intro (qH hgrow8 (HR7.out _ _ _ hown7) hgb hsz7 d3) (qH hgrow8 (HR7.out _ _ _ hown7) hgt hsz7 d4))))
            have hB8:Below w4.heap.size w4 w8:=((hB7.alloc hsz7 _).drew).grown hgrow8 (by simp;omega) (fun k e=>(hown7.lt k e).1);have hrow8:w8.ownsRow w4.heap.size 5 1 (.slice (some ⟨g8,0,none⟩) (M+3) cap8) (M+3) (dO (preB qa j++kJ es (m+1))):=by
             rw[HTK.out,←List.append_assoc,eQ];have e:dO [y,UInt8.ofNat (t / 256),UInt8.ofNat (t % 256)]=[.int .u8 y.toNat,.int .u8 (IntKind.u8.wrap (IntKind.i64.wrap ((t:Int) / 256))),.int .u8 (IntKind.u8.wrap ((t:Int).tmod 256))]:=by
              rw[x8 t htb,f9 t htb];rfl
             rw[e];exact hown8
            have HR8:=hide hrow8;have HB8:=hide hB8;clear hrow8 hB8 hgrow8 hown8 hat8 hS8;go_wp2;exact⟨⟨m+1,M+3,by go_num,by omega,by have:=HMM.out;omega,HR8.out,HB8.out⟩,by simp[intOf];omega⟩
          · have hme:m=es.length:=by omega
            subst hme;have hnx:preB qa (j+1)=preB qa j++kJ es es.length:=by rw[HPM.out,TD]
            have hnl:(preB qa (j+1)).length=M:=by
             rw[hnx,List.length_append,HN.out,SV _ _ (Nat.le_refl _)];have:=HMM.out;omega
            have HNL2:=hide hnl;have HNX:=hide hnx;have hmn:¬ (es.length:Int)<(es.length:Int):=by omega
            clear hnx hnl hml hm;go_wp2;exact⟨⟨j+1,M,by go_num,by omega,HNL2.out,by have:=HMM.out;omega,by rw[HNX.out];exact hown7,hB7⟩,by simp[intOf];omega⟩
       · have hjq:j=qa.length:=by omega
         subst hjq;have hcv:=dD hown;have hjn:¬ (qa.length:Int)<(qa.length:Int):=by omega
         have HB5:=hide hB5;clear hB5 hjl hj;go_wp2;go_ret;exact⟨by rw[HFIN.out];rfl,hB4.trans (HB5.out.mono hsz4)⟩
end Go.Proofs.YtgohllfpceeboabGreatDoor
