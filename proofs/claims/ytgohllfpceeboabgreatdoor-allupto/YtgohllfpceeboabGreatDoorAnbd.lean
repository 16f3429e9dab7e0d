import Derived.Test.YtgohllfpceeboabGreatDoorAnbc
set_option maxRecDepth 100000
set_option maxHeartbeats 1000000
namespace Go.Proofs.YtgohllfpceeboabGreatDoor
open Go.RowKit
def TabR (w:World)(b:Nat)(sv:Value)(tab:List (List Sx.aT)):Prop:=∃ g cap,sv=.slice (some ⟨g,0,none⟩) tab.length cap∧g<b∧∀ i (h:i<tab.length),∃ p c,w.cell? ⟨g,i,none⟩=some (.slice p tab[i].length c)∧∀ j (h2:j<tab[i].length),∃ e,p=some ⟨e,0,none⟩∧e<b∧w.cell? ⟨e,j*2,none⟩=some (.int .u8 tab[i][j].1.toNat)∧w.cell? ⟨e,j*2+1,none⟩=some (.int .i64 tab[i][j].2)
theorem TabR.below {w w':World}{b:Nat}{sv:Value}{tab:List (List Sx.aT)}(h:TabR w b sv tab)(hb:Below b w w'):TabR w' b sv tab:=by
 obtain⟨g,cap,h1,h2,h3⟩:=h;refine⟨g,cap,h1,h2,fun i hi=>?_⟩;obtain⟨p,c,h4,h5⟩:=h3 i hi;refine⟨p,c,(hb.cell (p:=⟨g,i,none⟩) h2).trans h4,fun j hj=>?_⟩;obtain⟨e,h6,h7,h8,h9⟩:=h5 j hj;exact⟨e,h6,h7,(hb.cell (p:=⟨e,j*2,none⟩) h7).trans h8,(hb.cell (p:=⟨e,j*2+1,none⟩) h7).trans h9⟩
def pM:Nat→List (List Sx.aT)→Nat→List UInt8→List Sx.Rl→List Sx.Rl×Bool
 | 0,_,_,_,rs=>(rs,true)
 | f+1,tab,s,beg,rs=>if s=0 then BQ rs beg else
   ((tab[s]?).getD []).foldl (fun acc e=>if acc.2=true then pM f tab e.2 (beg++[e.1]) acc.1 else acc) (rs,true)
theorem DT (f:Nat)(tab:List (List Sx.aT))(s:Nat)(beg:List UInt8)(rs:List Sx.Rl)(es:List Sx.aT)(h0:s≠0)(h:tab[s]? = some es):pM (f+1) tab s beg rs=es.foldl (fun acc e=>if acc.2=true then pM f tab e.2 (beg++[e.1]) acc.1 else acc) (rs,true):=by
 have e:pM (f+1) tab s beg rs=if s=0 then BQ rs beg else ((tab[s]?).getD []).foldl (fun acc e=>if acc.2=true then pM f tab e.2 (beg++[e.1]) acc.1 else acc) (rs,true):=rfl
 rw[e,if_neg h0,h];rfl
theorem MA (tab:List (List Sx.aT)):∀ (n s:Nat) (beg:List UInt8) (rs:List Sx.Rl),rs.length≤30→(pM n tab s beg rs).1.length≤30
 | 0,_,_,_,h=>h
 | n+1,s,beg,rs,h=>by
   have e:pM (n+1) tab s beg rs=if s=0 then BQ rs beg else ((tab[s]?).getD []).foldl (fun acc e=>if acc.2=true then pM n tab e.2 (beg++[e.1]) acc.1 else acc) (rs,true):=rfl
   rw[e];split
   · exact ZQ rs beg h
   · have hf:∀ (es:List Sx.aT) (acc:List Sx.Rl×Bool),acc.1.length≤30→(es.foldl (fun acc e=>if acc.2=true then pM n tab e.2 (beg++[e.1]) acc.1 else acc) acc).1.length≤30:=by
      intro es
      induction es with
      | nil=>intro acc h;exact h
      | cons x es ih =>
        intro acc h;rw[List.foldl_cons];apply ih;split
        · exact MA tab n _ _ _ h
        · exact h
     exact hf _ _ h
theorem sH {α:Type}(f:List Sx.Rl→α→List Sx.Rl×Bool)(rs:List Sx.Rl):∀ es:List α,es.foldl (fun acc e=>if acc.2=true then f acc.1 e else acc) (rs,false)=(rs,false)
 | []=>rfl
 | _::es=>by rw[List.foldl_cons,if_neg (by simp)];exact sH f rs es
def ND (row:Option Nat)(W W':World):Prop:=∀ (k:Nat) (cs:Array Value) (fr:Nat×Nat),W.heap[k]? = some (.cells cs 5 fr)→some k≠row→W'.heap[k]? = some (.cells cs 5 fr)
theorem ba (w0:World)(hw:gW w0)(b:Nat)(hb0:w0.heap.size≤b)(sv:Value)(tab:List (List Sx.aT))(hO:Sx.cO tab)(hE:∀ es∈tab,es.length≤1000):∀ (n s:Nat) (beg:List UInt8) (v:Value) (rs:List Sx.Rl) (w:World),s<n→s<tab.length→beg.length+s≤8000→Below w0.heap.size w0 w→TabR w b sv tab→w.ownsRow (b+1) 5 1 v beg.length (dO beg)→RsAt w b rs→rs.length≤30 →
 Calls Tryz.prog 97 #[.agg #[sv],.int .i64 s,v,.func (.func 60) #[.pointer (some ⟨b,0,none⟩)] #[]] w fun e w'=>e=.returned (.bool (pM n tab s beg rs).2)∧Below b w w'∧RsAt w' b (pM n tab s beg rs).1∧w'.ownsRow (b+1) 5 1 v beg.length (dO beg)∧ND v.ownBlock w w'∧∀ t,t≠5→t≠82→t≠54→KeepT t w w':=by
 intro n
 induction n with
 | zero=>intro s beg v rs w h;omega
 | succ n ih =>
   intro s beg v rs w hs hst hbl hB0 hT hown hr hn;have IH:=hide ih;clear ih;obtain⟨p,cap,rfl⟩:=aB hown;have hbA:∀ o,Below w.heap.size w (w.alloc o):=fun o=>(Below.refl _ _).alloc (Nat.le_refl _) o;have hrl:=hr.lt;have hwA:∀ o,gW (w.alloc o):=fun o=>bA _ _ hw (hB0.trans ((hbA o).mono hB0.size));by_cases h0:s=0
   · subst h0;have hcv:=fun o=>dD (hown.alloc o);have HTK:=hide (fun o=>az b rs beg (w.alloc o) (hwA o) (by omega) (hr.below (hbA o)) hn);have HE:Hid (pM (n+1) tab 0 beg rs=BQ rs beg):=hide (by unfold pM;rw[if_pos rfl]);have HO:=hide hown;have HBA:=hide hbA;clear hT hown hr hB0 hbA hwA IH;go_enter Tryz.func97,Tryz.ntmps97;go_wp2_with fail
     refine(HTK.out _).mono ?_;rintro e w1 ⟨rfl,hB1,hr1,hk1⟩;have HX:=hide (And.intro hB1 (And.intro hr1 hk1));clear hB1 hr1 hk1 HTK;go_wp2;go_ret;rw[HE.out];refine⟨rfl,((HBA.out _).mono (by omega)).trans HX.out.1,HX.out.2.1,(HX.out.2.2 _ (by decide) (by decide)).own (HO.out.alloc _),fun k cs fr hk _=>HX.out.2.2 _ (by decide) (by decide) k cs fr (KeepT.alloc _ _ _ k cs fr hk),fun t _ h2 h3=>(KeepT.alloc t w _).trans (HX.out.2.2 t h2 h3)⟩
   · obtain⟨i2,hi2,hx0,hx1,hx2⟩:=info_parts Tryz.info5;have HT:=hide hT;obtain⟨g,tc,rfl,hgb,hrow⟩:=hT;obtain⟨ep,ec,hcell,hedge⟩:=hrow s hst;obtain⟨es,hes⟩:∃ es,tab[s]=es:=⟨_,rfl⟩
     have hcA:∀ o,(w.alloc o).cell? ⟨g,s,none⟩=some (.slice ep tab[s].length ec):=fun o=>((hbA o).cell (p:=⟨g,s,none⟩) (by show g<w.heap.size;omega)).trans hcell;have HE:Hid (pM (n+1) tab s beg rs=es.foldl (fun acc e=>if acc.2=true then pM n tab e.2 (beg++[e.1]) acc.1 else acc) (rs,true)):=hide (DT n tab s beg rs es h0 (by rw[←hes];exact List.getElem?_eq_getElem hst));have HED:=hide hedge;have hne1:((s:Int) == 0)=false:=by simp;omega
     have hne2:¬ (s:Int)=0:=by omega
     rw[hes] at hcA HED;have HOR:Hid (∀ e∈es,e.2<s):=hide (fun e he=>(hO s es (by rw[←hes];exact List.getElem?_eq_getElem hst)).2 e he);have hel:es.length≤1000:=hE es (by rw[←hes];exact List.getElem_mem hst);have HO:=hide hown;have HR:=hide hr;have HB0:=hide hB0;have HBA:=hide hbA;clear hedge hcell hrow hown hr hB0 hbA hwA hes;obtain⟨N,hN⟩:∃ N,tab.length=N:=⟨_,rfl⟩
     rw[hN] at hst HT IH ⊢;have HN:=hide hN;clear hN;go_enter Tryz.func97,Tryz.ntmps97;go_wp2_with fail
     obtain⟨BX,hBX⟩:∃ BX,Obj.cells #[.slice (some ⟨g,0,none⟩) N tc] 111=BX:=⟨_,rfl⟩
     rw[hBX];obtain⟨R,hR⟩:∃ R,es.foldl (fun acc e=>if acc.2=true then pM n tab e.2 (beg++[e.1]) acc.1 else acc) (rs,true)=R:=⟨_,rfl⟩
     rw[hR] at HE;have HRR:=hide hR;clear hR;have HBX:=hide hBX;clear hBX hcA
     go_loopw [23] (fun i wr=>∃ (k:Nat) (rs':List Sx.Rl),i=.int .i64 k∧k≤es.length∧rs'.length≤30∧(es.drop k).foldl (fun acc e=>if acc.2=true then pM n tab e.2 (beg++[e.1]) acc.1 else acc) (rs',true)=R∧w.heap.size+1≤wr.heap.size∧Below b w wr∧RsAt wr b rs'∧wr.ownsRow (b+1) 5 1 (.slice p beg.length cap) beg.length (dO beg)∧ND (Value.slice p beg.length cap).ownBlock w wr∧∀ t,t≠5→t≠82→t≠54→KeepT t (w.alloc BX) wr) (fun i _=>(es.length-intOf i).toNat)
     case atStart=>exact⟨0,rs,rfl,by omega,hn,HRR.out,by simp,(HBA.out BX).mono (by omega),HR.out.below (HBA.out BX),HO.out.alloc BX,fun k cs fr hk _=>KeepT.alloc _ _ _ k cs fr hk,fun t _ _ _=>KeepT.refl _ _⟩
     case round =>
      obtain⟨k,rs',rfl,hk,hn',hfold,hsz,hB,hrs,hown,hX,hK⟩:=hrel;have HB:=hide hB;have HRS:=hide hrs;have HX:=hide hX;have HK:=hide hK;have HF:=hide hfold;clear hrs hX hK hfold HRR;by_cases hlt:k<es.length
      · obtain⟨e,rfl,heb,c1,c2⟩:=HED.out k hlt;have d1:=(hB.cell (p:=⟨e,k*2,none⟩) heb).trans c1;have d2:=(hB.cell (p:=⟨e,k*2+1,none⟩) heb).trans c2;have hor:=HOR.out es[k] (List.getElem_mem hlt);have hdr:es.drop k=es[k]::es.drop (k+1):=List.drop_eq_getElem_cons hlt;obtain⟨⟨c,t⟩,hx⟩:∃ x,es[k]=x:=⟨_,rfl⟩
        rw[hx] at d1 d2 hor hdr;dsimp only at d1 d2 hor;have HF2:Hid ((es.drop (k+1)).foldl (fun acc e=>if acc.2=true then pM n tab e.2 (beg++[e.1]) acc.1 else acc) (pM n tab t (beg++[c]) rs')=R):=hide (by
         have:=HF.out;rw[hdr,List.foldl_cons,if_pos rfl] at this;exact this)
        have HLT:=hide hlt;clear c1 c2 hx hdr HF hB;obtain⟨W1,hW1⟩:∃ W1,wr.alloc (.cells #[.int .u8 c.toNat,.int .i64 t] 185)=W1:=⟨_,rfl⟩
        obtain⟨W2,hW2⟩:∃ W2,W1.drew.alloc (.cells #[.int .u8 c.toNat] 5)=W2:=⟨_,rfl⟩
        have hbxA:wr.heap[w.heap.size]? = some (.cells #[.slice (some ⟨g,0,none⟩) N tc] 111 (0,0)):=HK.out 111 (by decide) (by decide) (by decide) _ _ _ (by rw[←HBX.out];exact heap_alloc_new _ _);have hk12:∀ ty,KeepT ty wr W2:=fun ty=>by
         rw[←hW2,←hW1];exact(KeepT.alloc ty wr _).trans (fun k cs fr hk=>KeepT.alloc ty _ _ k cs fr hk)
        have hbxE:W2.heap[wr.heap.size]? = some (.cells #[.int .u8 c.toNat,.int .i64 t] 185 (0,0)):=by
         rw[←hW2,←hW1];exact(heap_alloc_old _ _ (by show wr.heap.size<(wr.alloc _).heap.size;simp)).trans (heap_alloc_new _ _)
        have hB2:Below b wr W2:=by
         rw[←hW2,←hW1];exact(((Below.refl b wr).alloc (by omega) _).drew).alloc (by show b≤(wr.alloc _).heap.size;simp;omega) _
        have hz2:wr.heap.size≤W2.heap.size:=hB2.size;have hown2:W2.ownsRow (b+1) 5 1 (.slice p beg.length cap) beg.length (dO beg):=(hk12 _).own hown;have HS:Hid (∀ W',KeepT 111 wr W'→KeepT 185 W2 W'→W'.cell? ⟨w.heap.size,0,none⟩=some (.slice (some ⟨g,0,none⟩) N tc)∧W'.cell? ⟨wr.heap.size,0,none⟩=some (.int .u8 c.toNat)∧W'.cell? ⟨wr.heap.size,1,none⟩=some (.int .i64 t)):=hide (fun W' h1 h2=>by
         have g1:=h1 _ _ _ hbxA;have g2:=h2 _ _ _ hbxE;simp[World.cell?,g1,g2])
        have HG:Hid (∀ w6,W2.grownBy w6 (Value.slice p beg.length cap).ownBlock→(∀ ty,ty≠5→KeepT ty W2 w6)∧Below b wr w6):=hide (fun w6 hg=>⟨fun ty hty=>KeepT.grown hg (nH hown2) hty,hB2.grown hg (by omega) (fun r e=>by have:=(hown2.lt r e).1;omega)⟩);have HC:Hid (∀ v' w6,w6.ownsRow (b+1) 5 1 v' (beg.length+1) (dO beg++[.int .u8 c.toNat])→W2.grownBy w6 (Value.slice p beg.length cap).ownBlock→Calls Tryz.prog 97 #[.agg #[.slice (some ⟨g,0,none⟩) N tc],.int .i64 t,v',.func (.func 60) #[.pointer (some ⟨b,0,none⟩)] #[]] w6 fun e w'=>e=.returned (.bool (pM n tab t (beg++[c]) rs').2)∧Below b w6 w'∧RsAt w' b (pM n tab t (beg++[c]) rs').1∧w'.ownsRow (b+1) 5 1 v' (beg++[c]).length (dO (beg++[c]))∧ND v'.ownBlock w6 w'∧∀ t,t≠5→t≠82→t≠54→KeepT t w6 w'):=hide (fun v' w6 ho hg=>by
         have hb6:=(HG.out w6 hg).2;have hk6:=(HG.out w6 hg).1;obtain⟨rv,g1,g2⟩:=HRS.out;have hr6:RsAt w6 b rs':=⟨rv,hk6 _ (by decide) _ _ _ (hk12 _ _ _ _ g1),(hk6 _ (by decide)).own ((hk12 _).own g2)⟩
         refine IH.out t (beg++[c]) v' rs' w6 (by omega) (by omega) (by rw[List.length_append,List.length_singleton];omega) ?_ (HT.out.below (HB.out.trans hb6)) ?_ hr6 hn'
         · exact HB0.out.trans ((HB.out.trans hb6).mono (by have:=HB0.out.size;omega))
         · rw[List.length_append,List.length_singleton,eQ];exact ho)
        have hS2:=HS.out W2 (hk12 _) (KeepT.refl _ _);have hS0:W1.drew.cell? ⟨w.heap.size,0,none⟩=some (.slice (some ⟨g,0,none⟩) N tc)∧W1.drew.cell? ⟨wr.heap.size,0,none⟩=some (.int .u8 c.toNat)∧W1.drew.cell? ⟨wr.heap.size,1,none⟩=some (.int .i64 t):=by
         have g1:W1.drew.heap[w.heap.size]? = some (.cells #[.slice (some ⟨g,0,none⟩) N tc] 111 (0,0)):=by
          rw[←hW1];exact KeepT.alloc _ wr _ _ _ _ hbxA
         have g2:W1.drew.heap[wr.heap.size]? = some (.cells #[.int .u8 c.toNat,.int .i64 t] 185 (0,0)):=by
          rw[←hW1];exact heap_alloc_new _ _
         simp[World.cell?,g1,g2]
        have hcN:W2.cell? ⟨W1.heap.size,0,none⟩=some (.int .u8 c.toNat):=by
         have g1:W2.heap[W1.heap.size]? = some (.cells #[.int .u8 c.toNat] 5 (0,0)):=by
          rw[←hW2];exact heap_alloc_new _ _
         simp[World.cell?,g1]
        have HS1:Hid (∀ w6,W2.grownBy w6 (Value.slice p beg.length cap).ownBlock→w6.cell? ⟨w.heap.size,0,none⟩=some (.slice (some ⟨g,0,none⟩) N tc)∧w6.cell? ⟨wr.heap.size,0,none⟩=some (.int .u8 c.toNat)∧w6.cell? ⟨wr.heap.size,1,none⟩=some (.int .i64 t)):=hide (fun w6 hg=>HS.out w6 ((hk12 _).trans ((HG.out w6 hg).1 _ (by decide))) ((HG.out w6 hg).1 _ (by decide)));have HS7:Hid (∀ w6 w7,W2.grownBy w6 (Value.slice p beg.length cap).ownBlock→(∀ t,t≠5→t≠82→t≠54→KeepT t w6 w7)→w7.cell? ⟨w.heap.size,0,none⟩=some (.slice (some ⟨g,0,none⟩) N tc)∧w7.cell? ⟨wr.heap.size,0,none⟩=some (.int .u8 c.toNat)∧w7.cell? ⟨wr.heap.size,1,none⟩=some (.int .i64 t)):=hide (fun w6 w7 hg hk=>HS.out w7 (((hk12 _).trans ((HG.out w6 hg).1 _ (by decide))).trans (hk _ (by decide) (by decide) (by decide))) (((HG.out w6 hg).1 _ (by decide)).trans (hk _ (by decide) (by decide) (by decide))));have HK12:=hide hk12;clear hk12 hbxA hbxE hB2;go_wp2_with fail
        go_region_held_law (fun w'=>w'.cell? ⟨w.heap.size,0,none⟩=some (.slice (some ⟨g,0,none⟩) N tc)∧w'.cell? ⟨wr.heap.size,0,none⟩=some (.int .u8 c.toNat)∧w'.cell? ⟨wr.heap.size,1,none⟩=some (.int .i64 t)) (first | exact hS0 | exact hS2 | exact hS1 | exact hS7 | go_keep) (first | (refine rS rfl _ _ _ rfl (b+1) 5 i2 (.int .u8 0) 1 Tryz.underlying90 hi2 hx0 hx1 hx2 rfl _ beg.length (dO beg) rfl hown2 ⟨W1.heap.size,0,none⟩ 1 (.int .u8 c.toNat) rfl hcN rfl (by unfold maxLen;omega) (by omega) (by omega) ?_;intro v' w6 hown6 hold6 hgrow6 hle6 hnew6;have hS1:=HS1.out w6 hgrow6) | (go_at_call 97;refine(HC.out _ _ hown6 hgrow6).mono ?_;rintro e w7 ⟨rfl,hB7,hr7,hown7,hX7,hK7⟩;have hS7:=HS7.out w6 w7 hgrow6 hK7))
        have hown8:w7.ownsRow (b+1) 5 1 (.slice p beg.length cap) beg.length (dO beg):=by
         rw[List.length_append,List.length_singleton,eQ] at hown7;exact hle6.back hold6 hown7 hX7
        have hlk:=MA tab n t (beg++[c]) rs' hn';have HFIN:Hid (w.heap.size+1≤w7.heap.size∧Below b w w7∧RsAt w7 b (pM n tab t (beg++[c]) rs').1∧w7.ownsRow (b+1) 5 1 (.slice p beg.length cap) beg.length (dO beg)∧ND (Value.slice p beg.length cap).ownBlock w w7∧∀ t,t≠5→t≠82→t≠54→KeepT t (w.alloc BX) w7):=hide (by
         have hb6:=(HG.out w6 hgrow6).2;have hs6:=hb6.size;have hs7:=hB7.size;refine⟨by omega,HB.out.trans (hb6.trans hB7),hr7,hown8,fun k cs fr hk hne=>?_,fun ty h1 h2 h3=>?_⟩
         · have a2:=HK12.out _ _ _ _ (HX.out k cs fr hk hne);have hkl2:k<W2.heap.size:=(Array.getElem?_eq_some_iff.1 a2).1;have a3:=(hgrow6.block k hkl2 hne).trans a2;refine hX7 k cs fr a3 (fun e=>?_);rcases hnew6 k e.symm with h | h
           · exact hne h.symm
           · omega
         · exact(HK.out ty h1 h2 h3).trans ((HK12.out ty).trans (((HG.out w6 hgrow6).1 ty h1).trans (hK7 ty h1 h2 h3))))
        clear hown8 hS0 hS1 hS2 hS7 hB7 hr7 hown7 hX7 hK7 hown6 hold6 hgrow6 hle6 hnew6 hown2 hcN HS1 HS7 HC HG HS hown HB HRS HX HK HK12 hW1 hW2;obtain⟨⟨rs2,ok⟩,hq⟩:∃ q,pM n tab t (beg++[c]) rs'=q:=⟨_,rfl⟩
        rw[hq] at HF2 HFIN hlk ⊢;dsimp only at HFIN hlk ⊢;clear hq;rcases ok with _ | _
        · have HR2:Hid (R=(rs2,false)):=hide (by rw[←HF2.out];exact sH (fun r (e:Sx.aT)=>pM n tab e.2 (beg++[e.1]) r) rs2 _);clear HF2;go_wp2;go_ret;rw[HE.out,HR2.out];exact⟨rfl,HFIN.out.2.1,HFIN.out.2.2.1,HFIN.out.2.2.2.1,HFIN.out.2.2.2.2.1,fun t h1 h2 h3=>(KeepT.alloc t w BX).trans (HFIN.out.2.2.2.2.2 t h1 h2 h3)⟩
        · go_wp2;exact⟨⟨k+1,rs2,by go_num,by have:=HLT.out;omega,hlk,HF2.out,HFIN.out⟩,by have:=HLT.out;simp[intOf];omega⟩
      · have hke:k=es.length:=by omega
        subst hke;rw[List.drop_length] at HF;have HF2:Hid ((rs',true)=R):=hide HF.out;have HO2:=hide hown;clear hown hB;go_wp2;go_ret;rw[HE.out,←HF2.out];exact⟨rfl,HB.out,HRS.out,HO2.out,HX.out,fun t h1 h2 h3=>(KeepT.alloc t w BX).trans (HK.out t h1 h2 h3)⟩
def AB (tab:List (List Sx.aT))(rs:List Sx.Rl):List Sx.Rl:=if tab=[] then rs else (pM tab.length tab (tab.length-1) [] rs).1
theorem J3 (w0:World)(hw:gW w0)(b:Nat)(hb0:w0.heap.size≤b)(sv:Value)(tab:List (List Sx.aT))(hO:Sx.cO tab)(hE:∀ es∈tab,es.length≤1000)(hl:tab.length≤3000)(rs:List Sx.Rl)(w:World)(hB0:Below w0.heap.size w0 w)(hnil:tab=[]→∃ p c,sv=.slice p 0 c)(hT:tab≠[]→TabR w b sv tab)(hr:RsAt w b rs)(hn:rs.length≤30) :
 Calls Tryz.prog 59 #[.agg #[sv],.func (.func 60) #[.pointer (some ⟨b,0,none⟩)] #[]] w fun e w'=>(∃ v,e=.returned v)∧Below b w w'∧RsAt w' b (AB tab rs):=by
 have hrl:=hr.lt;have hbA:∀ o,Below w.heap.size w (w.alloc o):=fun o=>(Below.refl _ _).alloc (Nat.le_refl _) o;by_cases h0:tab=[]
 · obtain⟨p,c,rfl⟩:=hnil h0;have HE:Hid (AB tab rs=rs):=hide (by unfold AB;rw[if_pos h0]);have HR:=hide hr;have HBA:=hide hbA;clear hT hr hbA hnil h0;go_enter Tryz.func59,Tryz.ntmps59;go_wp2;go_end0;rw[HE.out];exact⟨⟨_,rfl⟩,(HBA.out _).mono (by omega),HR.out.below (HBA.out _)⟩
 · have hp:0<tab.length:=List.length_pos_iff.2 h0;have hT1:=hT h0;have HE:Hid (AB tab rs=(pM tab.length tab (tab.length-1) [] rs).1):=hide (by unfold AB;rw[if_neg h0]);have HK:=hide (fun o=>ba w0 hw b hb0 sv tab hO hE tab.length (tab.length-1) [] (.slice none 0 0) rs (w.alloc o) (by omega) (by omega) (by simp;omega) (hB0.trans ((hbA o).mono hB0.size)) (hT1.below ((hbA o).mono (by omega))) (World.ownsRow_nil _ _ _ _) (hr.below (hbA o)) hn);obtain⟨g,c,hsv,_,_⟩:=hT1;subst hsv;have HBA:=hide hbA;clear hT hr hbA hnil h0;obtain⟨M,hM⟩:∃ M,tab.length=M+1:=⟨tab.length-1,by omega⟩
   rw[hM] at HK HE ⊢;rw[Nat.add_sub_cancel] at HK HE;have hM3:M≤3000:=by omega
   clear hM hp hl;go_enter Tryz.func59,Tryz.ntmps59;go_wp2_with fail
   refine(HK.out _).mono ?_;rintro e w1 ⟨rfl,hB1,hr1,_,_,_⟩;have HX:=hide (And.intro hB1 hr1);clear hB1 hr1 HK;go_wp2;go_end0;rw[HE.out];exact⟨⟨_,rfl⟩,((HBA.out _).mono (by omega)).trans HX.out.1,HX.out.2⟩
end Go.Proofs.YtgohllfpceeboabGreatDoor
