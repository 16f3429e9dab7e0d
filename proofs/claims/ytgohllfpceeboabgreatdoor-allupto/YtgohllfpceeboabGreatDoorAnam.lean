import Derived.Test.YtgohllfpceeboabGreatDoorAnal
import Derived.Shelf.Spec.SlicesInsertGrow
set_option maxRecDepth 100000
set_option maxHeartbeats 4000000
namespace Go.Proofs.YtgohllfpceeboabGreatDoor
open Go.RowKit
attribute [local go_sem ↓] Go.wp_at_zero Go.wp_at_succ
theorem tA (c:Int)(l:List Int)(h:c<128):Sx.aE (c::l)=UInt8.ofNat c.toNat::Sx.aE l:=by
 unfold Sx.aE;simp[h]
theorem tB (c:Int)(l:List Int)(h:¬ c<128):Sx.aE (c::l)=Sx.aE l:=by
 unfold Sx.aE;simp[h]
theorem GN (s:ByteArray):∀ (bound pos:Nat) (l:List Int) (acc:Array Value),Sx.aF (s.data.toList.drop pos)=some l→s.size-pos≤bound→pos≤s.size→Conv.runesFrom s bound pos acc=acc++(l.map fun c=>Value.int .i32 c).toArray:=by
 intro bound
 induction bound with
 | zero =>
   intro pos l acc h hb hp;rw[List.drop_eq_nil_of_le (by rw[aC];omega),Sx.dA] at h;cases h;simp[Conv.runesFrom]
 | succ bound ih =>
   intro pos l acc h hb hp;unfold Conv.runesFrom;by_cases hlt:pos<s.size
   · obtain⟨c,n,l2,hd,rfl,hc0,hc1,_,hn1,hn2,hq2,_⟩:=Sx.jD s pos l h hlt;rw[if_pos hlt,hd];simp only;rw[ih (pos+n) l2 _ hq2 (by omega) hn2,show Int.ofNat c.toNat=c from by simp;omega];simp
   · rw[if_neg hlt];rw[List.drop_eq_nil_of_le (by rw[aC];omega),Sx.dA] at h;cases h;simp
theorem kG:∀ (n:Nat) (s:ByteArray) (pos:Nat) (l:List Int),Sx.aF (s.data.toList.drop pos)=some l→s.size-pos≤n→pos≤s.size→(∀ c∈l,0≤c∧c≤1114111)∧l.length+(l.filter fun c=>decide (128≤c)).length≤s.size-pos:=by
 intro n
 induction n with
 | zero =>
   intro s pos l h hb hp;rw[List.drop_eq_nil_of_le (by rw[aC];omega),Sx.dA] at h;cases h;simp
 | succ n ih =>
   intro s pos l h hb hp;by_cases hlt:pos<s.size
   · obtain⟨c,m,l2,hd,rfl,hc0,hc1,_,hn1,hn2,hq2,hu⟩:=Sx.jD s pos l h hlt;obtain⟨i1,i2⟩:=ih s (pos+m) l2 hq2 (by omega) hn2;have hm:(Sx.fV c).length=m:=by rw[hu,List.length_take,List.length_drop,aC];omega
     refine⟨fun x hx=>?_,?_⟩
     · rcases List.mem_cons.1 hx with rfl | hx
       · exact⟨hc0,hc1⟩
       · exact i1 x hx
     · rw[List.filter_cons];by_cases h128:128≤c
       · have:2≤(Sx.fV c).length:=by
          unfold Sx.fV;rw[if_neg (by omega)];split
          · simp
          · split <;> simp
         rw[if_pos (by simpa using h128)];simp only[List.length_cons];omega
       · rw[if_neg (by simpa using h128)];simp only[List.length_cons];omega
   · rw[List.drop_eq_nil_of_le (by rw[aC];omega),Sx.dA] at h;cases h;simp
theorem wrap_u8 (u:UInt8):IntKind.u8.wrap (u.toNat:Int)=(u.toNat:Int):=by
 have h:=u.toNat_lt;have e:IntKind.u8.wrap (u.toNat:Int)=(u.toNat:Int) % 256:=by simp[IntKind.wrap,IntKind.signed,IntKind.bits]
 omega
theorem zO {w:World}{B B' n:Nat}{e:TypeId}{z:Nat}{v:Value}{xs:List Value}(h:w.ownsRow B e z v n xs)(hk:B'≤B):w.ownsRow B' e z v n xs:=by
 refine⟨h.1,?_⟩;rcases h.2 with h2 | ⟨g,cap,cur,h1,h2,h3⟩
 · exact .inl h2
 · exact .inr ⟨g,cap,cur,h1,by omega,h3⟩
theorem kZ {w:World}{B n:Nat}{e:TypeId}{z:Nat}{v:Value}{xs:List Value}(h:w.ownsRow B e z v n xs):∃ p cap,v=.slice p n cap:=by
 rcases h.2 with ⟨h1,h2⟩ | ⟨g,cap,cur,h1,_⟩
 · exact⟨none,0,by rw[h1,h2]⟩
 · exact⟨_,_,h1⟩
theorem own_below {w w':World}{B C n:Nat}{e:TypeId}{z:Nat}{v:Value}{xs:List Value}(h:w.ownsRow B e z v n xs)(hb:Below C w w')(hC:w.heap.size≤C):w'.ownsRow B e z v n xs:=by
 refine⟨h.1,?_⟩;rcases h.2 with h2 | ⟨g,cap,cur,h1,h2,h3,h4⟩
 · exact .inl h2
 · exact .inr ⟨g,cap,cur,h1,h2,by rw[hb.block g (by have:=(Array.getElem?_eq_some_iff.1 h3).1;omega)];exact h3,h4⟩
theorem pC (w:World)(cs:Array Value)(t:TypeId)(j:Nat):(w.alloc (.cells cs t)).frozen? ⟨w.heap.size,j,none⟩=false:=by
 have e:(w.alloc (.cells cs t)).heap[w.heap.size]? = some (.cells cs t):=by show(w.heap.push _)[w.heap.size]? = _;exact Array.getElem?_push_size
 unfold World.frozen?;rw[e];simp
theorem NV (w:World)(t:TypeId)(n i L bias dm:Int):RowAt (w.alloc (.cells #[.int .i64 n,.int .i64 i,.int .i64 L,.int .i64 bias,.int .i64 dm] t)) w.heap.size n i L bias dm:=by
 refine⟨by rw[World.size_alloc];exact Nat.lt_succ_self _,?_,?_,?_,?_,?_,fun j=>?_⟩
 · rw[World.cell?_alloc_mark];rfl
 · rw[World.cell?_alloc_mark];rfl
 · rw[World.cell?_alloc_mark];rfl
 · rw[World.cell?_alloc_mark];rfl
 · rw[World.cell?_alloc_mark];rfl
 · exact pC w _ t j
theorem RowAt.kept {w w':World}{b:Nat}{n i L bias dm:Int}{r:Option Nat}(h:RowAt w b n i L bias dm)(hg:w.grownBy w' r)(hne:some b≠r):RowAt w' b n i L bias dm :=
 ⟨Nat.lt_of_lt_of_le h.lt hg.size,(hg.cell_far ⟨b,0,none⟩ h.lt hne).trans h.c0,(hg.cell_far ⟨b,1,none⟩ h.lt hne).trans h.c1,(hg.cell_far ⟨b,2,none⟩ h.lt hne).trans h.c2,(hg.cell_far ⟨b,3,none⟩ h.lt hne).trans h.c3,(hg.cell_far ⟨b,4,none⟩ h.lt hne).trans h.c4,fun j=>(hg.frozen_far ⟨b,j,none⟩ h.lt hne).trans (h.fz j)⟩
theorem WaysAt.kept {w w':World}{g:Nat}{l:List (Int×Int)}{r:Option Nat}(h:WaysAt w g l)(hg:w.grownBy w' r)(hne:some g≠r):WaysAt w' g l :=
 ⟨Nat.lt_of_lt_of_le h.1 hg.size,fun j hj=>⟨(hg.cell_far ⟨g,j*2,none⟩ h.1 hne).trans (h.2.1 j hj).1,(hg.cell_far ⟨g,j*2+1,none⟩ h.1 hne).trans (h.2.1 j hj).2⟩,fun o=>(hg.frozen_far ⟨g,o,none⟩ h.1 hne).trans (h.2.2 o)⟩
theorem own_iterAt {w:World}{B n k:Nat}{e:TypeId}{z:Nat}{v:Value}{xs:List Value}(h:w.ownsRow B e z v n xs)(hk:k<B)(s:ByteArray)(pos:Nat):(w.iterAt k s pos).ownsRow B e z v n xs:=by
 refine⟨h.1,?_⟩;rcases h.2 with h2 | ⟨g,cap,cur,h1,h2,h3,h4⟩
 · exact .inl h2
 · exact .inr ⟨g,cap,cur,h1,h2,by rw[Lib.iterAt_other w k g s pos (by omega)];exact h3,h4⟩
theorem YS {w1 wr:World}{o:Obj}{v:Value}{k B:Nat}{e:TypeId}{n:Nat}{xs:List Value}{x:Obj}(hk:wr.heap[k]? = some x)(hown:wr.ownsRow B e 1 v n xs)(hB:k<B)(hg:(wr.alloc o).grownBy w1 v.ownBlock):w1.heap[k]? = some x:=by
 have hlt:k<wr.heap.size:=(Array.getElem?_eq_some_iff.1 hk).1;rw[hg.block k (by rw[World.size_alloc];omega) (fun h=>by have:=(hown.lt k h.symm).1;omega),Below.heap_alloc _ _ _ hlt];exact hk
theorem NM (s:ByteArray)(l:List Int)(w:World)(hl:Sx.aF s.data.toList=some l)(hs:s.size≤100)(h0:0<(dG l l.length).length)(h40:(dG l l.length).length<40) :
 Calls Tryz.prog 133 #[.string s] w fun e w'=>e=.returned (.string ⟨(Sx.enc l).toArray⟩)∧Below w.heap.size w w':=by
 obtain⟨i0,hi,hz0,hz1,hz2⟩:=info_parts Tryz.info5;have HL:=hide hl;have H0:=hide h0;have H40:=hide h40;clear hl h0 h40;go_enter Tryz.func133,Tryz.ntmps133;have hB0:Below w.heap.size w (w.iter s 0):=(Below.refl _ _).alloc (Nat.le_refl _) _;have hk0:=World.iter_heap w s 0;have hz:w.heap.size+1≤(w.iter s 0).heap.size:=by show _≤(w.alloc _).heap.size;rw[World.size_alloc];exact Nat.le_refl _
 go_wp2
 go_loopw [3] (fun v wr=>∃ (pos n:Nat) (l':List Int) (pre:List UInt8),wr.heap[w.heap.size]? = some (.stringIter s pos)∧pos≤s.size∧Sx.aF (s.data.toList.drop pos)=some l'∧pre++Sx.aE l'=Sx.aE l∧pre.length=n∧n≤pos∧wr.ownsRow (w.heap.size+1) 5 1 v n (dO pre)∧Below w.heap.size w wr∧w.heap.size+1≤wr.heap.size) (fun _ wr=>s.size-FO wr w.heap.size)
 case atStart=>exact⟨0,0,l,[],hk0,by omega,by rw[List.drop_zero];exact HL.out,rfl,rfl,by omega,World.ownsRow_nil _ _ _ _,hB0,hz⟩
 case round =>
  obtain⟨pos,n,l',pre,hk,hps,hq,hpl,hn,hnp,hown,hB,hz1'⟩:=hrel;have HQ:=hide hq;have HPL:=hide hpl;have HN:=hide hn;have HK:=hide hk;clear hq hpl hn hB0 hk0 hz;by_cases hp:pos<s.size
  · obtain⟨c,m,l2,hd,hl2,hc0,hc1,hsur,hn1,hn2,hq2,_⟩:=Sx.jD s pos l' HQ.out hp;have hnx:=rG wr w.heap.size s pos m c hk hp hd hc0;subst hl2;have HQ2:=hide hq2;clear hd hq2 hk;have hown2:=own_iterAt hown (Nat.lt_succ_self _) s (pos+m);have hk2:=Lib.iterAt_heap wr _ s pos (pos+m) HK.out;have hB2:=Lib.below_iterAt hB (Nat.le_refl _) s (pos+m);have hz2':w.heap.size+1≤(wr.iterAt w.heap.size s (pos+m)).heap.size:=by rw[Lib.iterAt_size];exact hz1'
    have hm1:=fY hk2;have hm0:=fY HK.out;by_cases hlo:c<128
    · have hd:decide (128≤c)=false:=by simp;omega
      obtain⟨u,hu⟩:∃ u,UInt8.ofNat c.toNat=u:=⟨_,rfl⟩
      have hcu:c=(u.toNat:Int):=by rw[←hu];simp only[UInt8.toNat_ofNat'];omega
      have HU:=hide hu;have HCU:=hide hcu;have hul:=u.toNat_lt;have hpp:=HPL.out;rw[tA c l2 hlo,hu] at hpp;have HPP:=hide hpp;clear hpp hu hcu HPL;have HK2:=hide hk2;have HOW2:=hide hown2;have HB2:=hide hB2;have HM1:=hide hm1;have HM0:=hide hm0;clear hk2 hB2 hm1 hm0 hown;obtain⟨W1,hW1⟩:∃ W1,wr.iterAt w.heap.size s (pos+m)=W1:=⟨_,rfl⟩
      rw[hW1] at hnx hown2 hz2' HK2 HOW2 HB2;have hcv:IntKind.u8.wrap c=(u.toNat:Int):=by rw[HCU.out];exact wrap_u8 u
      clear hW1;go_wp2_with (first | (go_at_call 132;go_must (refine(fX _ _).mono ?_;rintro e w' ⟨rfl,rfl⟩;rw[hd])) | (at_builtin;go_must (refine wpList_append_lies _ rfl _ _ _ rfl (w.heap.size+1) 5 i0 (.int .u8 0) 1 1 Tryz.underlying90 hi hz0 hz1 hz2 rfl (by decide) _ _ _ rfl (hown2.alloc _) ⟨_,0,none⟩ 1 1 [.int .u8 u.toNat] rfl rfl (cell_one_new _ _ _) (by simp[Value.oneCell']) (by omega) (by unfold maxLen;omega) (by omega) (by simp;omega) _ rfl ?_;intro g cap w1 hown1 hgrow hat hlt1)))
      have hkk:=YS HK2.out HOW2.out (Nat.lt_succ_self _) hgrow;refine⟨⟨pos+m,n+1,l2,pre++[u],hkk,hn2,HQ2.out,by rw[←HPP.out];simp,by rw[List.length_append,HN.out];rfl,by omega,?_,aH HB2.out (by omega) (zO HOW2.out (Nat.le_succ _)) hgrow,?_⟩,by rw[fY hkk,HM0.out];omega⟩
      · rw[eQ];exact hown1
      · have:=hgrow.size;rw[World.size_alloc] at this;omega
    · have hd:decide (128≤c)=true:=by simp;omega
      have hpp:=HPL.out;rw[tB c l2 hlo] at hpp;have HPP:=hide hpp;clear hpp HPL hown;go_wp2_with (go_at_call 132;go_must (refine(fX _ _).mono ?_;rintro e w' ⟨rfl,rfl⟩;rw[hd]))
      exact⟨⟨pos+m,n,l2,pre,hk2,hn2,HQ2.out,HPP.out,HN.out,by omega,hown2,hB2,hz2'⟩,by rw[hm1,hm0];omega⟩
  · have hnx:=fun ty=>Lib.run_next_end_at (P:=Tryz.prog) wr w.heap.size s pos ty hk hp;have hl':l'=[]:=by
     have:=HQ.out;rw[List.drop_eq_nil_of_le (by rw[aC];omega),Sx.dA] at this;cases this;rfl
    have hpo:Sx.aE l=pre:=by rw[←HPL.out,hl'];exact List.append_nil _
    have HPO:=hide hpo;clear hl' hk HQ HPL hpo;obtain⟨vp,vc,rfl⟩:=kZ hown;have HOWN:=hide hown;clear hown
    go_upto_if 27 with (go_at_call 161;go_must (refine(DF _ _).mono ?_;rintro e w2 ⟨rfl,hBr⟩))
    have hw2:=hBr.size;have hR3:=NV w2 236 128 (-1) n 72 700;have hB3:Below w.heap.size w (w2.alloc (.cells #[.int .i64 128,.int .i64 (-1),.int .i64 n,.int .i64 72,.int .i64 700] 236)):=(hB.trans (hBr.mono hB.size)).alloc (by omega) _;have how3:=(own_below HOWN.out hBr (Nat.le_refl _)).alloc (.cells #[.int .i64 128,.int .i64 (-1),.int .i64 n,.int .i64 72,.int .i64 700] 236);have hnb:(Value.slice vp n vc).ownBlock≠some w2.heap.size:=fun h=>by have:=(HOWN.out.lt _ h).2;omega
    obtain⟨rb,hrb⟩:∃ rb,w2.heap.size=rb:=⟨_,rfl⟩
    have hsz3:(w2.alloc (.cells #[.int .i64 128,.int .i64 (-1),.int .i64 n,.int .i64 72,.int .i64 700] 236)).heap.size=rb+1:=by rw[World.size_alloc,hrb]
    have hrb2:w.heap.size+1≤rb:=by omega
    obtain⟨W3,hW3⟩:∃ W3,(w2.alloc (.cells #[.int .i64 128,.int .i64 (-1),.int .i64 n,.int .i64 72,.int .i64 700] 236))=W3:=⟨_,rfl⟩
    rw[hW3] at hR3 hB3 how3 hsz3 ⊢;rw[hrb] at hR3 hnb ⊢;have HSZ3:=hide hsz3;have hsz4:rb<W3.heap.size:=by omega
    clear hsz3;have HR3:=hide hR3;have HOW3:=hide how3;have HB3:=hide hB3;clear hR3 how3 hB3 hW3 hrb hBr hB HOWN hz1' hw2;have hhl:n=0∧Sx.dT l=pre∨0<n∧Sx.dT l=pre++[45]:=by
     have hp:=HPO.out;have hn:=HN.out;unfold Sx.dT;rw[hp,hn];by_cases h:0<n
     · right;exact⟨h,by rw[if_pos h]⟩
     · left;exact⟨by omega,by rw[if_neg h,List.append_nil]⟩
    have HHL:=hide hhl;clear hhl;go_cut [3] from 9 (fun v wc=>∃ k:Nat,(Sx.dT l).length=k∧k≤n+1∧wc.ownsRow (w.heap.size+1) 5 1 v k (dO (Sx.dT l))∧RowAt wc rb 128 (-1) n 72 700∧Below w.heap.size w wc∧v.ownBlock≠some rb)
    case first =>
     rcases HHL.out with ⟨h0,hh⟩ | ⟨h0,hh⟩
     · have h0':(0<n)=False:=by simp;omega
       have HH:=hide hh;clear hh;go_wp2;go_meet
       case rel=>exact⟨n,by rw[HH.out];exact HN.out,by omega,by rw[HH.out];exact HOW3.out,HR3.out,HB3.out,hnb⟩
     · have h0':(0<n)=True:=by simp;omega
       have HH:=hide hh;clear hh;go_wp2_with (at_builtin;go_must (refine wpList_append_lies _ rfl _ _ _ rfl (w.heap.size+1) 5 i0 (.int .u8 0) 1 1 Tryz.underlying90 hi hz0 hz1 hz2 rfl (by decide) _ _ _ rfl (HOW3.out.alloc _) ⟨_,0,none⟩ 1 1 [.int .u8 45] rfl rfl (cell_one_new _ _ _) (by simp[Value.oneCell']) (by omega) (by unfold maxLen;omega) (by omega) (by simp;omega) _ rfl ?_;intro g cap w1 hown1 hgrow hat hlt1))
       go_meet
       case rel =>
        refine⟨n+1,by rw[HH.out,List.length_append,HN.out];rfl,by omega,by rw[HH.out,eQ];exact hown1,(HR3.out.below (B:=W3.heap.size) ((Below.refl _ W3).alloc (Nat.le_refl _) _) HR3.out.lt).kept hgrow (Ne.symm hnb),aH HB3.out (by omega) (zO HOW3.out (Nat.le_succ _)) hgrow,?_⟩;show some g≠some rb;rcases hat with hat | hat
        · rw[←hat];exact hnb
        · intro h;cases h;rw[World.size_alloc] at hat;have:=HSZ3.out;omega
    case rest =>
     obtain⟨k0,hk0,hk1,hown4,hR4,hB4,hnb4⟩:=hcut;clear HOW3 HR3 HB3 hnb HHL HSZ3 hsz4;obtain⟨hrg,hfl⟩:=kG s.size s 0 l (by rw[List.drop_zero];exact HL.out) (by omega) (by omega);have hrunes:=GN s s.size 0 l #[] (by rw[List.drop_zero];exact HL.out) (by omega) (by omega);rw[Array.empty_append] at hrunes;have hcv:=run_runes_of_string (P:=Tryz.prog) wc 9 232 21 s Tryz.underlying9 Tryz.underlying232 Tryz.underlying21 (by rw[hrunes];simp;omega);rw[hrunes] at hcv;have hrs:(l.map fun c=>Value.int .i32 c).toArray.size=l.length:=by simp
     rw[hrs] at hcv;have hcg:=grownCap_ge wc l.length 0 21;obtain⟨cap,hcap⟩:∃ cap,grownCap wc l.length 0 21=cap:=⟨_,rfl⟩
     rw[hcap] at hcv hcg;obtain⟨cs,hcs⟩:∃ cs,(l.map fun c=>Value.int .i32 c).toArray++Array.replicate (cap-l.length) (.int .i32 0)=cs:=⟨_,rfl⟩
     rw[hcs] at hcv;have hru:RuAt (wc.drew.alloc (.cells cs 21)) wc.heap.size l:=by
      refine⟨by rw[World.size_alloc];exact Nat.lt_succ_self _,fun j hj=>?_⟩;have:(wc.drew.alloc (.cells cs 21)).cell? ⟨wc.drew.heap.size,j,none⟩=cs[j]?:=World.cell?_alloc_mark _ _ _ _ _;rw[show wc.drew.heap.size=wc.heap.size from rfl] at this;rw[this,←hcs,Array.getElem?_append_left (by simpa using hj)];simp[List.getElem?_eq_getElem hj]
     have hB5:Below wc.heap.size wc (wc.drew.alloc (.cells cs 21)):=((Below.refl _ wc).drew).alloc (Nat.le_refl _) _;obtain⟨W4,hW4⟩:∃ W4,wc.drew.alloc (.cells cs 21)=W4:=⟨_,rfl⟩
     rw[hW4] at hcv hru hB5;have hll:l.length≤100:=by omega
     have hpw:=QK l wc.heap.size cap W4 hru hll hcg hrg H0.out H40.out;have HPW:=hide hpw;have HRG:=hide hrg;have HK0:=hide hk0;have HOW4:=hide hown4;have HR4:=hide hR4;have HB4:=hide hB4;have HB5:=hide hB5;clear hrs hrunes hcs hW4 hcap hru hpw hrg hk0 hown4 hR4 hB4 hB5 hfl;go_wp2_with fail
     refine HPW.out.mono ?_;rintro e W5 ⟨gw,capw,rfl,hwa,hgw,hB6⟩;have HWA:=hide hwa;have HB7:Hid (Below wc.heap.size wc W5):=hide (HB5.out.trans (hB6.mono HB5.out.size));have hgw2:wc.heap.size≤gw:=Nat.le_trans HB5.out.size hgw;have hgwl:gw<W5.heap.size:=hwa.1;have hrbl:rb<wc.heap.size:=HR4.out.lt;clear hwa hB6 HPW hgw;go_wp2;obtain⟨N,hN⟩:∃ N,(Sx.fF l).length=N:=⟨_,rfl⟩
     have hpo:=Sx.eX l;rw[HPO.out,HN.out,hN] at hpo;rw[hN];have HNN:=hide hN;clear hN
     go_loopw [3,35] (fun v i wr=>∃ (done todo:List Nat) (k m z:Nat) (n' i' bias dm:Int) (out:List UInt8),i=.int .i64 k∧done.length=k∧Sx.fF l=done++todo∧m=n+k∧k≤N∧out.length=z∧z≤200+k*200000000∧out++Sx.bK (todo.map (Sx.bQ l)) bias n' i' m done.isEmpty=Sx.enc l∧(dm=if done.isEmpty then 700 else 2)∧0≤bias∧bias≤180∧128≤n'∧n'≤1114111 ∧ -1≤i'∧i'≤m∧Sx.Later l todo n' i'∧RowAt wr rb n' i' m bias dm∧WaysAt wr gw ((Sx.fF l).map (Sx.bQ l))∧wr.ownsRow (w.heap.size+1) 5 1 v z (dO out)∧v.ownBlock≠some rb∧v.ownBlock≠some gw∧Below w.heap.size w wr∧w.heap.size+1≤wr.heap.size) (fun _ i _=>(N-intOf i).toNat)
     case atStart =>
      refine⟨[],Sx.fF l,0,n,k0,128,-1,72,700,Sx.dT l,rfl,rfl,rfl,by omega,by omega,HK0.out,by omega,?_,rfl,by omega,by omega,by omega,by omega,by omega,by omega,Sx.iE l,HR4.out.below HB7.out hrbl,HWA.out,own_below HOW4.out HB7.out (Nat.le_refl _),hnb4,?_,HB4.out.trans (HB7.out.mono HB4.out.size),by omega⟩
      · unfold Sx.enc;rw[HPO.out,HN.out];rfl
      · intro h;have:=(HOW4.out.lt _ h).2;omega
     case round =>
      obtain⟨done,todo,k,m,z,n',i',bias,dm,out,rfl,hdk,ho,hmk,hkN,hz3,hz4,hq,hdm,hb0,hb1,hn0,hn1',hi0,hi1,hlat,hR,hW,hown,hnb1,hnb2,hB,hsz⟩:=hrel;have HO:=hide ho;have HQ:=hide hq;have HLAT:=hide hlat;have HDK:=hide hdk;have HZ3:=hide hz3;have HDM:=hide hdm;clear ho hq hlat hdk hz3 hdm HOW4 HR4 HB4 HB5 HB7 HWA;by_cases hlt:k<N
      · obtain⟨c0,todo',htd⟩:∃ c0 t,todo=c0::t:=by
         cases todo with
         | nil =>
           have h1:=congrArg List.length HO.out;rw[List.length_append,HDK.out,HNN.out] at h1;simp at h1;omega
         | cons c t=>exact⟨c,t,rfl⟩
        subst htd;obtain⟨hcl,hcf,_⟩:=Sx.cQ l done (c0::todo') HO.out c0 (List.mem_cons_self ..);have hlm1:l.getD c0 0≤1114111:=by
         have:=(HRG.out l[c0] (List.getElem_mem hcl)).2
         simpa[List.getElem?_eq_getElem hcl] using this
        have hlat0:=HLAT.out c0 (List.mem_cons_self ..);have hst0:=Sx.fB l done todo' c0 HO.out;rw[HPO.out,HN.out,HDK.out] at hst0;have hnn:=Sx.kK (l.getD c0 0) n' (Sx.bZ l c0) i' m hlat0 hi1 (by omega) (by omega);have hle:=Sx.nI (l.getD c0 0) n' (Sx.bZ l c0) i' m hlm1 hn0 hi0 (by omega) (by omega) (by omega);have hmore:=DJ l c0 todo' out bias n' i' m done.isEmpty HQ.out;have hlat2:=Sx.jJ l done todo' c0 HO.out;have hway:((Sx.fF l).map (Sx.bQ l)).length=N:=by rw[List.length_map];exact HNN.out
        obtain⟨a1,a2⟩:=hW.2.1 k (by rw[hway];exact hlt);have hwk:((Sx.fF l).map (Sx.bQ l))[k]'(by rw[hway];exact hlt)=Sx.bQ l c0:=by
         have e:((Sx.fF l).map (Sx.bQ l))[k]? = some (Sx.bQ l c0):=by
          rw[HO.out,List.getElem?_map,List.getElem?_append_right (by rw[HDK.out];exact Nat.le_refl _),HDK.out,Nat.sub_self];rfl
         rw[List.getElem?_eq_getElem (by rw[hway];exact hlt)] at e;exact Option.some.inj e
        rw[hwk] at a1 a2;unfold Sx.bQ at a1 a2;obtain⟨lm,hlmd⟩:∃ lm,l.getD c0 0=lm:=⟨_,rfl⟩
        obtain⟨st,hstd⟩:∃ st,Sx.bZ l c0=st:=⟨_,rfl⟩
        rw[hlmd] at hlm1 hnn hle hmore hlat2 hlat0 a1 a2 hcf;rw[hstd] at hnn hle hmore hlat2 hst0 hlat0 a1 a2;have hnlm:n'≤lm:=by omega
        have hab:Sx.oP (((lm-n')*((m:Int)+1)+(st:Int)-(i'+1)) / dm) ((m:Int)+1)=Sx.after ((lm-n')*((m:Int)+1)+(st:Int)-(i'+1)) ((m:Int)+1) done.isEmpty:=by
         rw[HDM.out];unfold Sx.after;cases done.isEmpty <;> rfl
        have hdmb:1≤dm∧dm≤1000:=by rw[HDM.out];cases done.isEmpty <;> simp
        have hwl:=Sx.vU ((lm-n')*((m:Int)+1)+(st:Int)-(i'+1)) 0 bias hle.2;have habd:=Sx.mL ((lm-n')*((m:Int)+1)+(st:Int)-(i'+1)) ((m:Int)+1) done.isEmpty hnn (by omega) (by omega);have HMORE:=hide hmore;have HLAT2:=hide hlat2;have HAB:=hide hab;have HABD:=hide habd;have HWW:=hide hW;have HRR:=hide hR;have HOWN:=hide hown;have hgl2:=hW.1;have hrl2:=hR.lt;have hc3:=hR.c3;clear hmore hlat2 hlmd hstd hlat0 HLAT HQ hcf hab habd hwk hW hR;obtain⟨hle1,hle2⟩:=hle;obtain⟨d,hd⟩:∃ d,(lm-n')*((m:Int)+1)+(st:Int)-(i'+1)=d:=⟨_,rfl⟩
        have HD:=hide hd;rw[hd] at hnn hle2 hwl HMORE HAB HABD;clear hd;have e1:(0:Int)≤(k:Int):=by omega
        have e2:(k:Int)<(N:Int):=by omega
        have htb:wr.heap.size+1≤(wr.alloc (.cells #[.int .i64 lm,.int .i64 st] 234)).heap.size:=by rw[World.size_alloc];exact Nat.le_refl _
        go_wp2;have hB6:Below wr.heap.size wr (wr.alloc (.cells #[.int .i64 lm,.int .i64 st] 234)):=(Below.refl _ wr).alloc (Nat.le_refl _) _;have t1:(wr.alloc (.cells #[.int .i64 lm,.int .i64 st] 234)).cell? ⟨wr.heap.size,0,none⟩=some (.int .i64 lm):=by rw[World.cell?_alloc_mark];rfl
        have t2:(wr.alloc (.cells #[.int .i64 lm,.int .i64 st] 234)).cell? ⟨wr.heap.size,1,none⟩=some (.int .i64 st):=by rw[World.cell?_alloc_mark];rfl
        have hsz6:wr.heap.size<(wr.alloc (.cells #[.int .i64 lm,.int .i64 st] 234)).heap.size:=by rw[World.size_alloc];exact Nat.lt_succ_self _
        have hR6:=HRR.out.below hB6 hrl2;have hW6:=HWW.out.below hB6 hgl2;have hO6:=own_below HOWN.out hB6 (Nat.le_refl _);have hntb:Value.ownBlock _≠some wr.heap.size:=fun h=>Nat.lt_irrefl _ (HOWN.out.lt _ h).2;have hB66:=hB.trans (hB6.mono hB.size);obtain⟨tb,htb2⟩:∃ tb,wr.heap.size=tb:=⟨_,rfl⟩
        obtain⟨W6,hW6e⟩:∃ W6,wr.alloc (.cells #[.int .i64 lm,.int .i64 st] 234)=W6:=⟨_,rfl⟩
        rw[hW6e] at t1 t2 hsz6 hR6 hW6 hO6 hB66 ⊢;rw[htb2] at t1 t2 hsz6 hntb hsz hrl2 hgl2 ⊢;have c3:=hR6.c3;have HR6:=hide hR6;have HW6:=hide hW6;have HO6:=hide hO6;have HB66:=hide hB66;have hrl3:=hR6.lt;clear hR6 hW6 hO6 hB66 hW6e htb2 hB6 htb hc3 a1 a2 HRR HWW HOWN hown hB;go_region_held3 (fun w'=>(w'.cell? ⟨tb,0,none⟩=some (.int .i64 lm)∧w'.cell? ⟨tb,1,none⟩=some (.int .i64 st))∧w'.cell? ⟨rb,3,none⟩=some (.int .i64 bias)) (first | exact⟨⟨(hg2.cell_far ⟨tb,0,none⟩ hsz7 (Ne.symm hntb)).trans y1,(hg2.cell_far ⟨tb,1,none⟩ hsz7 (Ne.symm hntb)).trans y2⟩,(hg2.cell_far ⟨rb,3,none⟩ hrl7 (Ne.symm hnb1)).trans y3⟩ | exact⟨⟨y1,y2⟩,y3⟩ | go_keep) (first | (go_at_call 190;refine(zX rb n' i' m bias dm lm st _ HR6.out.drew hn0 hn1' (by omega) (by omega) hi0 (by omega) hnlm hlm1 (by omega) (by omega)).mono ?_;rintro e w1 ⟨rfl,hB7⟩;rw[HD.out];have y1:=(hB7.cell (p:=⟨tb,0,none⟩) hsz6).trans t1;have y2:=(hB7.cell (p:=⟨tb,1,none⟩) hsz6).trans t2;have y3:=(hB7.cell (p:=⟨rb,3,none⟩) hrl3).trans c3;have hsz7:=Nat.lt_of_lt_of_le hsz6 hB7.size;have hrl7:=Nat.lt_of_lt_of_le hrl3 hB7.size) | (go_at_call 189;refine(UO out (w.heap.size+1) _ d bias w1 (by omega) (by rw[HZ3.out];exact own_below HO6.out.drew hB7 (Nat.le_refl _)) (by rw[HZ3.out];omega) hnn hle2 hb0 (by omega)).mono ?_;rintro e w2 ⟨v',rfl,hown2,hg2,hsi⟩))
        have z1:=(hg2.cell_far ⟨tb,0,none⟩ hsz7 (Ne.symm hntb)).trans y1;have z2:=(hg2.cell_far ⟨tb,1,none⟩ hsz7 (Ne.symm hntb)).trans y2;have hR7:=(HR6.out.drew.below hB7 hrl3).kept hg2 (Ne.symm hnb1);have hW6l:=HW6.out.1;have hW7:=(WaysAt.below (W:=W6.drew) HW6.out hB7 hW6l).kept hg2 (Ne.symm hnb2);have hO7:=own_below (w:=W6.drew) HO6.out hB7 (Nat.le_refl _);have hB8:Below w.heap.size w w2:=((HB66.out.drew).trans (hB7.mono HB66.out.size)).grown hg2 (Nat.le_trans HB66.out.size hB7.size) (fun q e=>Nat.le_of_succ_le (hO7.lt q e).1);have hnv1:v'.ownBlock≠some rb:=by
         rcases hsi with h | ⟨q,h,hq⟩
         · rw[h];exact hnb1
         · rw[h];intro e;cases e;omega
        have hnv2:v'.ownBlock≠some gw:=by
         rcases hsi with h | ⟨q,h,hq⟩
         · rw[h];exact hnb2
         · rw[h];intro e;cases e;have:=hB7.size;have:W6.drew.heap.size=W6.heap.size:=rfl;omega
        have hsz8:=Nat.le_trans hsz7 hg2.size;have HR7:=hide hR7;have HW7:=hide hW7;have HO8:=hide hown2;have HB8:=hide hB8;clear hR7 hW7 hown2 hB8 hO7 hsi y1 y2 y3 t1 t2 c3 HR6 HW6 HO6 HB66 hB7;go_wp2_with (go_at_call 167;go_must (refine(zB rb n' i' m bias dm lm st _ HR7.out hn0 hn1' (by omega) (by omega) hi0 (by omega) hnlm hlm1 (by omega) (by omega) (by rw[HD.out];exact hnn) hdmb.1 hdmb.2).mono ?_;rintro e w3 ⟨⟨v3,rfl⟩,hR8,hg3⟩;rw[HD.out,HAB.out] at hR8))
        have hmore:=HMORE.out;refine⟨⟨done++[c0],todo',k+1,m+1,(out++Sx.iH d 0 bias).length,lm,st,_,2,out++Sx.iH d 0 bias,by go_num,by rw[List.length_append,HDK.out];rfl,by rw[HO.out];simp,by omega,by omega,rfl,by rw[List.length_append,HZ3.out];omega,?_,by simp,HABD.out.1,HABD.out.2,by omega,hlm1,by omega,by omega,HLAT2.out,hR8,HW7.out.kept hg3 (fun h=>by cases h;omega),HO8.out.kept hg3 (.inr hnv1),hnv1,hnv2,HB8.out.grown hg3 HB8.out.size (fun q e=>by cases e;omega),by have:=hg3.size;omega⟩,by simp[intOf];omega⟩;rw[show((m+1:Nat):Int)=(m:Int)+1 from by omega,show(done++[c0]).isEmpty=false from by simp];exact hmore
      · have hkN':k=N:=by omega
        have htd:todo=[]:=by
         have h1:=congrArg List.length HO.out;rw[List.length_append,HDK.out,HNN.out] at h1;exact List.eq_nil_of_length_eq_zero (by omega)
        have hout:out=Sx.enc l:=by rw[←HQ.out,htd];simp[Sx.bK]
        have hcv2:=dD (v:=_) (by rw[HZ3.out];exact hown:wr.ownsRow (w.heap.size+1) 5 1 _ out.length (dO out));have HOUT:=hide hout;clear htd hout;go_wp2;go_ret;exact⟨gV (by rw[HOUT.out]),hB⟩
attribute [local go_sem ↓] Go.wp_at_zero Go.wp_at_succ
def gQ (l:List Int):List Value:=l.map fun c=>Value.int .i32 c
theorem qC (l:List Int):(gQ l).length=l.length:=by simp[gQ]
theorem Tryz.info21:(Tryz.prog.info? 21).map (fun i=>(i.zero,i.size,i.bytes))=some (some (.int .i32 0),1,4):=by kernel_rfl
def rY:List Value→Nat→List Value→List Value
 | xs,_,[]=>xs
 | xs,o,v::vs=>rY (xs.set o v) (o+1) vs
theorem pQ:∀ (vs xs:List Value) (o k:Nat),o+vs.length≤xs.length→(rY xs o vs)[k]? = if o≤k∧k<o+vs.length then vs[k-o]? else xs[k]?:=by
 intro vs
 induction vs with
 | nil=>intro xs o k _;rw[if_neg (by simp only[List.length_nil];omega)];rfl
 | cons v vs ih =>
   intro xs o k h;simp only[List.length_cons] at h ⊢;rw[rY,ih _ _ _ (by rw[List.length_set];omega)];by_cases c1:o+1≤k∧k<o+1+vs.length
   · rw[if_pos c1,if_pos (by omega),show k-o=(k-(o+1))+1 from by omega,List.getElem?_cons_succ]
   · rw[if_neg c1,List.getElem?_set];by_cases c2:o=k
     · subst c2;rw[if_pos rfl,if_pos (by omega),if_pos (by omega),Nat.sub_self];rfl
     · rw[if_neg c2,if_neg (by omega)]
theorem iU {B:Nat}{e:TypeId}{g n c:Nat}:∀ (vs xs:List Value) (w:World) (o:Nat),w.ownsRow B e 1 (.slice (some ⟨g,0,none⟩) n c) n xs →
 (w.setCells g o vs).ownsRow B e 1 (.slice (some ⟨g,0,none⟩) n c) n (rY xs o vs)∧w.grownBy (w.setCells g o vs) (some g):=by
 intro vs
 induction vs with
 | nil=>intro xs w o h;exact⟨h,lS _ _⟩
 | cons v vs ih =>
   intro xs w o h;obtain⟨h1,h2⟩:=h.stored o v;obtain⟨h3,h4⟩:=ih _ _ (o+1) h1;exact⟨h3,aO h2 h4⟩
theorem QR {w:World}{B:Nat}{e:TypeId}{g n c:Nat}{xs:List Value}(h:w.ownsRow B e 1 (.slice (some ⟨g,0,none⟩) n c) n xs)(hc:n+1≤c):∃ y,w.ownsRow B e 1 (.slice (some ⟨g,0,none⟩) (n+1) c) (n+1) (xs++[y]):=by
 have hl:xs.length=n:=by have:=h.1;omega
 rcases h.2 with ⟨h1,_⟩ | ⟨g',c',cur,h1,h2,h3,h4,h5,h6,h7⟩
 · cases h1
 · cases h1;have hn:n<cur.toList.length:=by rw[Array.length_toList];omega
   refine⟨cur.toList[n]'hn,by simp;omega,.inr ⟨g,c,cur,rfl,h2,h3,hc,h5,h6,?_⟩⟩;rw[Nat.mul_one] at h7 ⊢;rw[List.take_succ_eq_append_getElem hn,h7]
theorem B0 (l:List Int)(x:Int)(i:Nat)(y:Value)(hi:i≤l.length):rY (rY (gQ l++[y]) (i+1) ((gQ l).drop i)) i [.int .i32 x]=gQ (l.take i++x::l.drop i):=by
 have n1:=qC l;have hd:((gQ l).drop i).length=l.length-i:=by rw[List.length_drop,n1]
 have hl:(rY (gQ l++[y]) (i+1) ((gQ l).drop i)).length=l.length+1:=by
  have:∀ (vs xs:List Value) (o:Nat),(rY xs o vs).length=xs.length:=by
   intro vs
   induction vs with
   | nil=>intro xs o;rfl
   | cons v vs ih=>intro xs o;rw[rY,ih,List.length_set]
  rw[this,List.length_append,n1];rfl
 apply List.ext_getElem?;intro k;rw[pQ _ _ _ _ (by rw[hl];simp;omega),pQ _ _ _ _ (by rw[List.length_append,n1,hd];simp;omega),hd];unfold gQ;rw[List.map_append,List.map_cons,List.getElem?_append,List.length_map,List.getElem?_append,List.length_map,List.length_take,Nat.min_eq_left hi];by_cases c1:k<i
 · rw[if_neg (by omega),if_neg (by omega),if_pos (by omega),if_pos c1,List.getElem?_map,List.getElem?_map,List.getElem?_take,if_pos c1]
 · rw[if_neg c1];by_cases c2:k=i
   · subst c2;rw[if_pos (by simp),Nat.sub_self];rfl
   · rw[if_neg (by simp;omega),show k-i=(k-i-1)+1 from by omega,List.getElem?_cons_succ];by_cases c3:k<i+1+(l.length-i)
     · rw[if_pos (by omega),List.getElem?_drop,List.getElem?_map,List.getElem?_map,List.getElem?_drop,show i+(k-(i+1))=i+(k-i-1) from by omega]
     · rw[if_neg (by omega),if_neg (by omega),List.getElem?_eq_none (by simp;omega),List.getElem?_eq_none (by simp;omega)]
theorem mG {w:World}{B:Nat}{e:TypeId}{g n c:Nat}{xs:List Value}(h:w.ownsRow B e 1 (.slice (some ⟨g,0,none⟩) n c) n xs):∃ cur:Array Value,w.heap[g]? = some (.cells cur e)∧n≤c∧c≤maxLen∧cur.size=c∧B≤g:=by
 rcases h.2 with ⟨h1,_⟩ | ⟨g',c',cur,h1,h2,h3,h4,h5,h6,h7⟩
 · cases h1
 · cases h1;exact⟨cur,h3,h4,h5,by omega,h2⟩
theorem GV (l:List Int)(x:Int)(B g c vb:Nat)(w:World)(ho:w.ownsRow B 21 1 (.slice (some ⟨g,0,none⟩) l.length c) l.length (gQ l))(hl:l.length≤1000)(hB:B≤w.heap.size)(hv:w.cell? ⟨vb,0,none⟩=some (.int .i32 x)) :
 Calls Tryz.prog 166 #[.slice (some ⟨g,0,none⟩) l.length c,.int .i64 l.length,.slice (some ⟨vb,0,none⟩) 1 1] w fun e w'=>∃ g' c',e=.returned (.slice (some ⟨g',0,none⟩) (l.length+1) c')∧w'.ownsRow B 21 1 (.slice (some ⟨g',0,none⟩) (l.length+1) c') (l.length+1) (gQ (l++[x]))∧w.grownBy w' (some g)∧(g'=g∨g'=w.heap.size):=by
 obtain⟨i0,hi,hz0,hz1,hz2⟩:=info_parts Tryz.info21;obtain⟨cur,_,hnc,hcm,_,_⟩:=mG ho;unfold maxLen at hcm;obtain⟨n,hn⟩:∃ n,l.length=n:=⟨_,rfl⟩
 rw[hn] at ho hl hnc ⊢;have HO:=hide ho;clear ho hn;have hnews:∀ (j:Nat) (u:Value),[Value.int .i32 x][j]? = some u→w.cell? ((⟨vb,0,none⟩:Addr).add j)=some u:=by
  intro j u hj;cases j with
  | zero=>rw[Addr.add_lit];cases hj;exact hv
  | succ j=>simp at hj
 go_enter Tryz.func166,Tryz.ntmps166;go_wp2_with (at_builtin;refine wpList_append_lies _ rfl _ _ _ rfl B 21 i0 (.int .i32 0) 1 4 Tryz.underlying232 hi hz0 hz1 hz2 rfl (by decide) _ _ _ rfl HO.out ⟨vb,0,none⟩ 1 1 [.int .i32 x] rfl rfl hnews (by simp[Value.oneCell']) (by omega) (by unfold maxLen;omega) (by omega) hB _ rfl ?_;intro g1 cap1 w1 hown1 hgrow hat hlt1)
 all_goals go_ret
 all_goals refine⟨g1,cap1,rfl,by unfold gQ at hown1 ⊢;rw[List.map_append];exact hown1,hgrow,?_⟩
 all_goals rcases hat with hat | hat
 all_goals first | exact .inl (Option.some.inj hat.symm) | exact .inr hat
theorem xA (l:List Int)(x:Int)(i B g c vb:Nat)(w:World)(ho:w.ownsRow B 21 1 (.slice (some ⟨g,0,none⟩) l.length c) l.length (gQ l))(hl:l.length≤1000)(hi:i<l.length)(hc:l.length+1≤c)(hv:w.heap[vb]? = some (.cells #[.int .i32 x] 21))(hne:vb≠g) :
 Calls Tryz.prog 166 #[.slice (some ⟨g,0,none⟩) l.length c,.int .i64 i,.slice (some ⟨vb,0,none⟩) 1 1] w fun e w'=>e=.returned (.slice (some ⟨g,0,none⟩) (l.length+1) c)∧w'.ownsRow B 21 1 (.slice (some ⟨g,0,none⟩) (l.length+1) c) (l.length+1) (gQ (l.take i++x::l.drop i))∧w.grownBy w' (some g):=by
 obtain⟨i0,hi0,hz0,hz1,hz2⟩:=info_parts Tryz.info21;obtain⟨cur,hcur,hnc,hcm,hcs,_⟩:=mG ho;unfold maxLen at hcm;obtain⟨y,hwide⟩:=QR ho hc;have how1:w.drew.ownsRow B 21 1 (.slice (some ⟨g,0,none⟩) (l.length+1) c) (l.length+1) (gQ l++[y]):=hwide;obtain⟨hA,gA⟩:=iU ((gQ l).drop i) _ _ (i+1) how1;obtain⟨hZ,gZ⟩:=iU [.int .i32 x] _ _ i hA;rw[B0 l x i y (by omega)] at hZ;have hgr:w.grownBy ((w.drew.setCells g (i+1) ((gQ l).drop i)).setCells g i [.int .i32 x]) (some g):=aO (grown_drew (lS w (some g))) (aO gA gZ);have hn1:=qC l;have hcell:∀ j,j<l.length+1→(w.cell? ⟨g,j,none⟩).isSome=true:=fun j hj=>by
  rw[Lib.cell_of_heap hcur,Array.getElem?_eq_getElem (by omega)];rfl
 have hcl:∀ j v,(gQ l)[j]? = some v→w.cell? ⟨g,j,none⟩=some v:=fun j v hj=>by
  have:=ho.cells (g:=g) rfl j v hj;rw[Addr.add_lit,Nat.zero_add] at this;exact this
 have hfz:∀ j,w.frozen? ⟨g,j,none⟩=false:=fun j=>ho.frozenAt j;have hvc:w.cell? ⟨vb,0,none⟩=some (.int .i32 x):=by rw[Lib.cell_of_heap hv];rfl
 have hvf:∀ j,w.frozen? ⟨vb,j,none⟩=false:=fun j=>by unfold World.frozen?;rw[hv];simp
 have hsz:(Tryz.prog.info? 21).map (·.size)=some 1:=by rw[hi0];simp[hz1]
 have h1c:∀ v∈gQ l,v.oneCell'=true:=fun v hv=>by
  obtain⟨q,_,rfl⟩:=List.mem_map.1 hv;rfl
 have hdl:((gQ l).drop i).length=l.length-i:=by rw[List.length_drop,hn1]
 obtain⟨n,hn⟩:∃ n,l.length=n:=⟨_,rfl⟩
 rw[hn] at ho hl hi hc hnc hwide how1 hZ hcell hdl hn1 ⊢;have hov:∀ lb cb,(callFunc 215 #[.slice (some ⟨vb,0,none⟩) 1 1,.slice (some ⟨g,i+1,none⟩) lb cb]).run Tryz.prog w=.ok (.value (.bool false)) w:=fun lb cb=>by
  rw[run_callFunc_extern Tryz.func215 (by kernel_rfl) (by kernel_rfl) (by kernel_rfl) (e:=Extern.SlicesOverlaps.overlaps #[232,232] #[4]) (by kernel_rfl),
   Lib.run_overlaps_apart w 232 4 21 Tryz.underlying232 1 Tryz.sizeOf21 ⟨vb,0,none⟩ ⟨g,i+1,none⟩ 1 1 lb cb hne 21 21 1 c (by unfold World.shape?;rw[hv];rfl) (by unfold World.shape?;rw[hcur];simp[hcs]) (by omega) (hvf _) (hvf _)]
  rfl
 have hcp1:∀ ty dc sc,(Builtin.copy_ #[232,232] ty #[.slice (some ⟨g,i+1,none⟩) (n-i) dc,.slice (some ⟨g,i,none⟩) (n+1-i) sc]).run Tryz.prog w.drew=.ok (goInt ((gQ l).drop i).length) (w.drew.setCells g (i+1) ((gQ l).drop i)):=fun ty dc sc =>
  run_copy_cells w.drew _ _ ty 21 g (i+1) (n-i) dc ⟨g,i,none⟩ (n+1-i) sc ((gQ l).drop i) Tryz.underlying232 hsz (by rw[hdl];simp only[Nat.min_def];split <;> omega)
   (fun j v hj=>by rw[Addr.add_lit];exact hcl (i+j) v (by rwa [List.getElem?_drop] at hj))
   (fun j hj=>hcell _ (by omega)) (fun j hj=>hfz _) (fun v hv=>h1c v (List.mem_of_mem_drop hv))
 obtain⟨W1,hW1⟩:∃ W1,W1=w.drew.setCells g (i+1) ((gQ l).drop i):=⟨_,rfl⟩
 have hsp1:∀ k,k<n+1→(W1.cell? ⟨g,k,none⟩).isSome=true:=fun k hk=>by
  obtain⟨cur2,hcur2,_,_,hcs2,_⟩:=mG hA;rw[hW1,Lib.cell_of_heap hcur2,Array.getElem?_eq_getElem (by omega)];rfl
 have hvc1:W1.cell? ⟨vb,0,none⟩=some (.int .i32 x):=by
  rw[hW1];exact gA.cell (a:=⟨vb,0,none⟩) hvc (fun h=>hne (Option.some.inj h))
 have hfz1:∀ j,W1.frozen? ⟨g,j,none⟩=false:=fun j=>by rw[hW1];exact hA.frozenAt j
 have hcp2:∀ (W:World),(∀ x,W.cell? x=W1.cell? x)→(∀ x,W.frozen? x=W1.frozen? x)→∀ ty dc,(Builtin.copy_ #[232,232] ty #[.slice (some ⟨g,i,none⟩) (n+1-i) dc,.slice (some ⟨vb,0,none⟩) 1 1]).run Tryz.prog W=.ok (goInt [Value.int .i32 x].length) (W.setCells g i [.int .i32 x]):=fun W hWc hWf ty dc =>
  run_copy_cells W _ _ ty 21 g i (n+1-i) dc ⟨vb,0,none⟩ 1 1 [.int .i32 x] Tryz.underlying232 hsz (by simp only[List.length_cons,List.length_nil,Nat.min_def];split <;> omega)
   (fun j v hj=>by
     cases j with
     | zero=>rw[Addr.add_lit,hWc];cases hj;exact hvc1
     | succ j=>simp at hj)
   (fun j hj=>by rw[hWc];simp at hj;exact hsp1 _ (by omega)) (fun j hj=>by rw[hWf];exact hfz1 _) (by simp[Value.oneCell'])
 rw[←hW1] at hcp1 hZ hgr;have HZ:=hide hZ;have hz2':¬ ((i:Int)=(n:Int)):=by omega
 have hw1:IntKind.i64.wrap ((i:Int)+1)=(i:Int)+1:=by rw[IntKind.wrap_i64];omega
 have hb1:(0:Int)≤(i:Int)+1:=by omega
 have hin:i≤n:=by omega
 have htn:((i:Int)+1).toNat=i+1:=by omega
 have hb2:¬ (c=i+1):=by omega
 have hb3:(i:Int)≤(n:Int)+1:=by omega
 have hb4:¬ (c=i):=by omega
 have mixed:Tryz.prog.follows Departure.mixedOrders=true:=by kernel_rfl
 clear ho hwide how1 hA gA hZ gZ hcell hcl hfz hvc hvf h1c hdl hcur hsp1 hvc1 hfz1 hv hW1 hn1 hcs;go_enter Tryz.func166,Tryz.ntmps166;go_wp2_with (simp only[hov])
 go_region_law_o (refine step_copy_runI rfl _ _ 232 232 rfl _ _ (by simp[Act.eval,Act.put]) (by simp[Act.eval,Act.put]) (hcp1 _ _ _) ?_)
 go_wp2_with (at_builtin;refine wpList_copy_runI _ rfl _ _ 232 232 rfl _ _ rfl rfl (hcp2 _ (fun _=>rfl) (fun _=>rfl) _ _) ?_)
 go_ret;exact⟨rfl,HZ.out,hgr⟩
theorem UI:∀ (vs xs:List Value) (o:Nat),(rY xs o vs).length=xs.length:=by
 intro vs
 induction vs with
 | nil=>intro xs o;rfl
 | cons v vs ih=>intro xs o;rw[rY,ih,List.length_set]
theorem XL (l:List Int)(x:Int)(i:Nat)(z:List Value)(hi:i≤l.length)(hz:z.length=l.length+1-i):rY (rY ((gQ l).take i++z) i [.int .i32 x]) (i+1) ((gQ l).drop i)=gQ (l.take i++x::l.drop i):=by
 have n1:=qC l;have hd:((gQ l).drop i).length=l.length-i:=by rw[List.length_drop,n1]
 have ht:((gQ l).take i++z).length=l.length+1:=by rw[List.length_append,List.length_take,n1,hz];omega
 apply List.ext_getElem?;intro k;rw[pQ _ _ _ _ (by rw[UI,ht,hd];omega),pQ _ _ _ _ (by rw[ht];simp;omega),hd];unfold gQ at ht ⊢;rw[List.map_append,List.map_cons,List.getElem?_append (l₁:=List.map (fun c=>Value.int .i32 c) (l.take i)),List.length_map,List.length_take,Nat.min_eq_left hi];by_cases c1:k<i
 · rw[if_neg (by omega),if_neg (by omega),if_pos c1,List.getElem?_append_left (by simp;omega),List.getElem?_take,if_pos c1,List.getElem?_map,List.getElem?_map,List.getElem?_take,if_pos c1]
 · rw[if_neg c1];by_cases c2:k=i
   · subst c2;rw[if_neg (by omega),if_pos (by simp),Nat.sub_self];rfl
   · by_cases c3:k<i+1+(l.length-i)
     · rw[if_pos (by omega),show k-i=(k-i-1)+1 from by omega,List.getElem?_cons_succ,List.getElem?_drop,List.getElem?_map,List.getElem?_map,List.getElem?_drop,show i+(k-(i+1))=i+(k-i-1) from by omega]
     · rw[if_neg (by omega),if_neg (by simp;omega),List.getElem?_eq_none (by rw[ht];omega),show k-i=(k-i-1)+1 from by omega,List.getElem?_cons_succ,List.getElem?_eq_none (by simp;omega)]
theorem CC (l:List Int)(x:Int)(i B g c vb:Nat)(w:World)(ho:w.ownsRow B 21 1 (.slice (some ⟨g,0,none⟩) l.length c) l.length (gQ l))(hl:l.length≤1000)(hi:i<l.length)(hc:c<l.length+1)(hv:w.heap[vb]? = some (.cells #[.int .i32 x] 21))(hB:B≤w.heap.size) :
 Calls Tryz.prog 166 #[.slice (some ⟨g,0,none⟩) l.length c,.int .i64 i,.slice (some ⟨vb,0,none⟩) 1 1] w fun e w'=>∃ c',e=.returned (.slice (some ⟨w.heap.size,0,none⟩) (l.length+1) c')∧w'.ownsRow B 21 1 (.slice (some ⟨w.heap.size,0,none⟩) (l.length+1) c') (l.length+1) (gQ (l.take i++x::l.drop i))∧w.grownBy w' none:=by
 obtain⟨i0,hi0,hz0,hz1,hz2⟩:=info_parts Tryz.info21;obtain⟨cur,hcur,hnc,hcm,hcs,_⟩:=mG ho;unfold maxLen at hcm;have hn1:=qC l;have hgl:g<w.heap.size:=(ho.lt g rfl).2;have hvl:vb<w.heap.size:=(Array.getElem?_eq_some_iff.1 hv).1;have hcl:∀ j v,(gQ l)[j]? = some v→w.cell? ⟨g,j,none⟩=some v:=fun j v hj=>by
  have:=ho.cells (g:=g) rfl j v hj;rw[Addr.add_lit,Nat.zero_add] at this;exact this
 have hvc:w.cell? ⟨vb,0,none⟩=some (.int .i32 x):=by rw[Lib.cell_of_heap hv];rfl
 have hsz:(Tryz.prog.info? 21).map (·.size)=some 1:=by rw[hi0];simp[hz1]
 have h1c:∀ v∈gQ l,v.oneCell'=true:=fun v hv=>by
  obtain⟨q,_,rfl⟩:=List.mem_map.1 hv;rfl
 have hdl:((gQ l).drop i).length=l.length-i:=by rw[List.length_drop,hn1]
 have hold:(Builtin.firstCells i0.size i (.slice (some ⟨g,0,none⟩) i c)).run Tryz.prog w.drew=.ok ((gQ l).take i).toArray w.drew:=by
  rw[hz1];exact run_firstCells_some w.drew 1 i ⟨g,0,none⟩ i c ((gQ l).take i) (by rw[List.length_take,hn1];omega) (fun j v hj=>by
   rw[Addr.add_lit,Nat.zero_add];rw[List.getElem?_take] at hj;split at hj
   · exact hcl j v hj
   · cases hj)
 obtain⟨G,hG⟩:∃ G,grownCap w (l.length+1) c 21=G:=⟨_,rfl⟩
 have hGn:l.length+1≤G:=by rw[←hG];exact grownCap_ge w _ _ _
 have hG63:G≤maxLen:=by rw[←hG];exact grownCap_le_maxLen w (l.length+1) c 21 (by unfold maxLen;omega)
 obtain⟨ROW,hROW⟩:∃ ROW:Array Value,((gQ l).take i).toArray++Builtin.zeroCells (Value.int .i32 0).cells (l.length+1-i)++Builtin.zeroCells (Value.int .i32 0).cells (G-(l.length+1))=ROW:=⟨_,rfl⟩
 have hik:i+(l.length+1-i)=l.length+1:=by omega
 have hrz:∀ ty,(Builtin.append_ #[232,3] ty #[.slice (some ⟨g,0,none⟩) i c,.int .i64 ((l.length:Int)+1-(i:Int))]).run Tryz.prog w =
  .ok (.slice (some ⟨w.heap.size,0,none⟩) (l.length+1) G) (w.drew.alloc (.cells ROW 21)):=fun ty=>by
  have h:=Lib.run_append_grow_zeros (P:=Tryz.prog) w 232 3 ty 21 i0 _ .i64 .i64 Tryz.underlying232 Tryz.underlying3 hi0 hz0 (some ⟨g,0,none⟩) i c ((gQ l).take i) hold (l.length+1-i) (by omega) (by omega) (by omega) (by omega) (by rw[hz2];omega) (by rw[hz2,hik];exact growslice_fits hc (by omega));rw[hik,hG,hROW] at h;rw[show(l.length:Int)+1-(i:Int)=((l.length+1-i:Nat):Int) from by omega];exact h
 obtain⟨W1,hW1⟩:∃ W1,w.drew.alloc (.cells ROW 21)=W1:=⟨_,rfl⟩
 obtain⟨z,hz⟩:∃ z:List Value,(Builtin.zeroCells (Value.int .i32 0).cells (l.length+1-i)).toList=z:=⟨_,rfl⟩
 have hzl:z.length=l.length+1-i:=by rw[←hz];simp[Builtin.zeroCells,Value.cells]
 have hRs:ROW.size=G:=by
  rw[←hROW];simp[Builtin.zeroCells,Value.cells];omega
 have hRt:ROW.toList.take ((l.length+1)*1)=(gQ l).take i++z:=by
  have e:ROW.toList=((gQ l).take i++z)++(Builtin.zeroCells (Value.int .i32 0).cells (G-(l.length+1))).toList:=by
   rw[←hROW,←hz];simp
  rw[e,List.take_append_of_le_length (by rw[List.length_append,List.length_take,hn1,hzl];omega),List.take_of_length_le (by rw[List.length_append,List.length_take,hn1,hzl];omega)]
 have hWn:W1.heap[w.heap.size]? = some (.cells ROW 21):=by rw[←hW1];show(w.drew.heap.push _)[w.heap.size]? = _;exact Array.getElem?_push_size
 have hown1:W1.ownsRow B 21 1 (.slice (some ⟨w.heap.size,0,none⟩) (l.length+1) G) (l.length+1) ((gQ l).take i++z) :=
  ⟨by rw[List.length_append,List.length_take,hn1,hzl];omega,.inr ⟨w.heap.size,G,ROW,rfl,hB,hWn,hGn,hG63,by omega,hRt⟩⟩
 obtain⟨hA,gA⟩:=iU [.int .i32 x] _ _ i hown1;obtain⟨hZ,gZ⟩:=iU ((gQ l).drop i) _ _ (i+1) hA;rw[XL l x i z (by omega) hzl] at hZ;have hgW:w.grownBy W1 none:=by rw[←hW1];exact⟨rfl,rfl,rfl,by rw[World.size_alloc];exact Nat.le_succ _,fun k hk _=>Below.heap_alloc w.drew _ k hk⟩
 have hgF:w.grownBy ((W1.setCells w.heap.size i [.int .i32 x]).setCells w.heap.size (i+1) ((gQ l).drop i)) none :=
  ⟨gZ.os.trans (gA.os.trans hgW.os),gZ.tape.trans (gA.tape.trans hgW.tape),gZ.output.trans (gA.output.trans hgW.output),Nat.le_trans hgW.size (Nat.le_trans gA.size gZ.size),fun k hk hn=>by
    have hne:some k≠some w.heap.size:=fun h=>by cases h;omega
    rw[gZ.block k (Nat.lt_of_lt_of_le hk (Nat.le_trans hgW.size gA.size)) hne,gA.block k (Nat.lt_of_lt_of_le hk hgW.size) hne];exact hgW.block k hk hn⟩
 have hN:∀ j,j<l.length+1→(W1.cell? ⟨w.heap.size,j,none⟩).isSome=true:=fun j hj=>by
  rw[Lib.cell_of_heap hWn,Array.getElem?_eq_getElem (by omega)];rfl
 have hNf:∀ j,W1.frozen? ⟨w.heap.size,j,none⟩=false:=fun j=>hown1.frozenAt j;have hOb:∀ j v,w.cell? ⟨g,j,none⟩=some v→W1.cell? ⟨g,j,none⟩=some v:=fun j v h=>(hgW.cell_far ⟨g,j,none⟩ hgl (by simp)).trans h;have hOv:W1.cell? ⟨vb,0,none⟩=some (.int .i32 x):=(hgW.cell_far ⟨vb,0,none⟩ hvl (by simp)).trans hvc;have hcpA:∀ (W:World),(∀ x,W.cell? x=W1.cell? x)→(∀ x,W.frozen? x=W1.frozen? x)→∀ ty dc,(Builtin.copy_ #[232,232] ty #[.slice (some ⟨w.heap.size,i,none⟩) (l.length+1-i) dc,.slice (some ⟨vb,0,none⟩) 1 1]).run Tryz.prog W=.ok (goInt [Value.int .i32 x].length) (W.setCells w.heap.size i [.int .i32 x]):=fun W hWc hWf ty dc =>
  run_copy_cells W _ _ ty 21 w.heap.size i (l.length+1-i) dc ⟨vb,0,none⟩ 1 1 [.int .i32 x] Tryz.underlying232 hsz (by simp only[List.length_cons,List.length_nil,Nat.min_def];split <;> omega)
   (fun j v hj=>by
     cases j with
     | zero=>rw[Addr.add_lit,hWc];cases hj;exact hOv
     | succ j=>simp at hj)
   (fun j hj=>by rw[hWc];simp at hj;exact hN _ (by omega)) (fun j hj=>by rw[hWf];exact hNf _) (by simp[Value.oneCell'])
 obtain⟨W2,hW2⟩:∃ W2,W1.setCells w.heap.size i [.int .i32 x]=W2:=⟨_,rfl⟩
 rw[hW2] at hA gA hZ gZ hgF;have hN2:∀ j,j<l.length+1→(W2.cell? ⟨w.heap.size,j,none⟩).isSome=true:=fun j hj=>by
  obtain⟨cur2,hcur2,_,_,hcs2,_⟩:=mG hA;rw[Lib.cell_of_heap hcur2,Array.getElem?_eq_getElem (by omega)];rfl
 have hcpB:∀ (W:World),(∀ x,W.cell? x=W2.cell? x)→(∀ x,W.frozen? x=W2.frozen? x)→∀ ty dc sc,(Builtin.copy_ #[232,232] ty #[.slice (some ⟨w.heap.size,i+1,none⟩) (l.length-i) dc,.slice (some ⟨g,i,none⟩) (l.length-i) sc]).run Tryz.prog W=.ok (goInt ((gQ l).drop i).length) (W.setCells w.heap.size (i+1) ((gQ l).drop i)):=fun W hWc hWf ty dc sc =>
  run_copy_cells W _ _ ty 21 w.heap.size (i+1) (l.length-i) dc ⟨g,i,none⟩ (l.length-i) sc ((gQ l).drop i) Tryz.underlying232 hsz (by rw[hdl];simp only[Nat.min_def];split <;> omega)
   (fun j v hj=>by
     rw[Addr.add_lit,hWc];exact gA.cell (a:=⟨g,i+j,none⟩) (hOb _ v (hcl (i+j) v (by rwa [List.getElem?_drop] at hj))) (fun h=>by have:=Option.some.inj h;simp only at this;omega))
   (fun j hj=>by rw[hWc];exact hN2 _ (by omega)) (fun j hj=>by rw[hWf];exact hA.frozenAt _) (fun v hv=>h1c v (List.mem_of_mem_drop hv))
 have HZ:=hide hZ;have HGF:=hide hgF;have HW1:=hide hW1;have HW2:=hide hW2;obtain⟨n,hn⟩:∃ n,l.length=n:=⟨_,rfl⟩
 rw[hn] at hl hi hc hnc hcpA hcpB hrz hGn HZ ⊢;have hz2':¬ ((i:Int)=(n:Int)):=by omega
 have hz3:(c:Int)<(n:Int)+1:=by omega
 have hw1:IntKind.i64.wrap ((i:Int)+1)=(i:Int)+1:=by rw[IntKind.wrap_i64];omega
 have hb1:(0:Int)≤(i:Int)+1:=by omega
 have hin:i≤n:=by omega
 have htn:((i:Int)+1).toNat=i+1:=by omega
 have hb3:(i:Int)≤(n:Int):=by omega
 have hGi:¬ (G=i):=by omega
 have hGim:¬ (G=i+1):=by omega
 have hci:¬ (c=i):=by omega
 have mixed:Tryz.prog.follows Departure.mixedOrders=true:=by kernel_rfl
 have hG64:G≤9223372036854775807:=by unfold maxLen at hG63;omega
 rw[hW1] at hrz;clear ho hA gA hZ gZ hgF hcl hvc h1c hdl hcur hold hG hROW hik hz hzl hRs hRt hWn hown1 hgW hN hNf hOb hOv hN2 hn hv hn1 hcs hW1 hW2 hG63;go_enter Tryz.func166,Tryz.ntmps166;go_wp2_with (first | (at_builtin;refine Lib.wpList_append_run _ rfl _ _ _ _ rfl _ _ rfl rfl _ _ (hrz _) ?_) | (at_builtin;refine wpList_copy_runI _ rfl _ _ 232 232 rfl _ _ rfl rfl (hcpA _ (fun _=>rfl) (fun _=>rfl) _ _) ?_))
 have hcpB2:(Builtin.copy_ #[232,232] 3 #[.slice (some ⟨w.heap.size,i+1,none⟩) (n-i) (G-(i+1)),.slice (some ⟨g,i,none⟩) (n-i) (c-i)]).run Tryz.prog (W1.setCells w.heap.size i [.int .i32 x]).drew=.ok (goInt ((gQ l).drop i).length) ((W1.setCells w.heap.size i [.int .i32 x]).drew.setCells w.heap.size (i+1) ((gQ l).drop i)):=hcpB _ (fun _=>by rw[←HW2.out];rfl) (fun _=>by rw[←HW2.out];rfl) _ _ _
 go_region_law_o (refine step_copy_runI rfl _ _ 232 232 rfl (.slice (some ⟨w.heap.size,i+1,none⟩) (n-i) (G-(i+1))) (.slice (some ⟨g,i,none⟩) (n-i) (c-i)) (by simp[Act.eval,Act.put]) (by simp[Act.eval,Act.put]) hcpB2 ?_)
 go_wp2;go_ret;refine⟨G,rfl,?_,?_⟩
 · have:=HZ.out;rw[←HW2.out] at this;rw[←drew_setCells];exact this
 · have:=HGF.out;rw[←HW2.out] at this;rw[←drew_setCells];exact⟨this.os,this.tape,this.output,this.size,this.block⟩
theorem DI (l:List Int)(x:Int)(i B g c vb:Nat)(w:World)(ho:w.ownsRow B 21 1 (.slice (some ⟨g,0,none⟩) l.length c) l.length (gQ l))(hl:l.length≤1000)(hi:i≤l.length)(hv:w.heap[vb]? = some (.cells #[.int .i32 x] 21))(hne:vb≠g)(hB:B≤w.heap.size) :
 Calls Tryz.prog 166 #[.slice (some ⟨g,0,none⟩) l.length c,.int .i64 i,.slice (some ⟨vb,0,none⟩) 1 1] w fun e w'=>∃ g' c',e=.returned (.slice (some ⟨g',0,none⟩) (l.length+1) c')∧w'.ownsRow B 21 1 (.slice (some ⟨g',0,none⟩) (l.length+1) c') (l.length+1) (gQ (l.take i++x::l.drop i))∧w.grownBy w' (some g)∧(g'=g∨g'=w.heap.size):=by
 by_cases h1:i=l.length
 · subst h1;have:=GV l x B g c vb w ho hl hB (by rw[Lib.cell_of_heap hv];rfl);rw[List.take_length,List.drop_length];exact this
 · by_cases h2:l.length+1≤c
   · refine(xA l x i B g c vb w ho hl (by omega) h2 hv hne).mono ?_;rintro e w' ⟨rfl,h3,h4⟩;exact⟨g,c,rfl,h3,h4,.inl rfl⟩
   · refine(CC l x i B g c vb w ho hl (by omega) (by omega) hv hB).mono ?_;rintro e w' ⟨c',rfl,h3,h4⟩;exact⟨w.heap.size,c',rfl,h3,⟨h4.os,h4.tape,h4.output,h4.size,fun k hk _=>h4.block k hk (by simp)⟩,.inr rfl⟩
end Go.Proofs.YtgohllfpceeboabGreatDoor
