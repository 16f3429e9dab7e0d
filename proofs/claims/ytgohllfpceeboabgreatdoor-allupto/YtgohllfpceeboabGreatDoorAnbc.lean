import Derived.Test.YtgohllfpceeboabGreatDoorAnba
import Derived.Test.YtgohllfpceeboabGreatDoorAnbb
import Derived.Lib.AppendStr
import Derived.ArgAppend
set_option maxRecDepth 100000
set_option maxHeartbeats 4000000
namespace Go.Proofs.YtgohllfpceeboabGreatDoor
theorem Tryz.info143 : (Tryz.prog.info? 143).map (fun i => (i.zero, i.size, i.bytes)) = some (some (.slice none 0 0), 1, 24) := by kernel_rfl
theorem Tryz.info185 : (Tryz.prog.info? 185).map (fun i => (i.zero, i.size, i.bytes)) = some (some (.agg #[.int .u8 0, .int .i64 0]), 2, 16) := by kernel_rfl
open Go.RowKit Go.Maps
structure MapIs (D:DataW Unit) (tab:List (List Sx.aT)):Prop where
 has:∀ t:List UInt8,Maps.has D (.string t)=decide (t∈tab.map Sx.bO)
 at':∀ (t:List UInt8) (i:Nat),Sx.bH t (tab.map Sx.bO)=some i→D.atKey (.string t) (.lit (.int .i64 0))=.lit (.int .i64 i)
 size:Maps.size D=tab.length
theorem vF {α:Type} [DecidableEq α] (x y:α):∀ (l:List α),x ∉ l→Sx.bH y (l++[x])=if y=x then (match Sx.bH y l with | some i=>some i | none=>some l.length) else Sx.bH y l
 | [],_=>by
   by_cases h:y=x
   · subst h;simp[Sx.bH]
   · rw[if_neg h];simp[Sx.bH,Ne.symm h]
 | z::r,hx=>by
   simp only[List.mem_cons,not_or] at hx;rw[List.cons_append];unfold Sx.bH;by_cases hz:z=y
   · rw[if_pos hz];subst hz;rw[if_neg (Ne.symm hx.1)];simp
   · rw[if_neg hz,vF x y r hx.2];by_cases h:y=x
     · rw[if_pos h,if_pos h];cases hp:Sx.bH y r with
       | some i=>simp[hz]
       | none=>simp[hz]
     · rw[if_neg h,if_neg h];simp[hz]
theorem QL:MapIs (.map []) []:=⟨fun t=>by simp[Maps.has_eq],fun t i h=>by simp[Sx.bH] at h,by simp[Maps.size_eq]⟩
theorem MapIs.put {D:DataW Unit}{tab:List (List Sx.aT)}(h:MapIs D tab)(ht:Maps.Tidy D)(es:List Sx.aT)(hn:Sx.bO es ∉ tab.map Sx.bO):MapIs (D.put (.string (Sx.bO es)) (.lit (.int .i64 tab.length))) (tab++[es]):=by
 have hk:WideAt.IsKeyLit (.string (Sx.bO es)):=by trivial
 have h0:Maps.has D (.string (Sx.bO es))=false:=by rw[h.has];simpa using hn
 refine⟨fun t=>?_,fun t i hp=>?_,?_⟩
 · by_cases e:t=Sx.bO es
   · subst e;rw[Maps.has_put_same ht.isMap hk];simp
   · rw[Maps.has_put_other (by simpa using e),h.has,List.map_append];simp[e]
 · rw[List.map_append,List.map_cons,List.map_nil,vF _ _ _ hn] at hp;by_cases e:t=Sx.bO es
   · subst e;rw[Maps.atKey_put_same ht.isMap hk];rw[if_pos rfl,(Sx.eV _ _).2 hn] at hp;simp only[List.length_map,Option.some.injEq] at hp;rw[hp]
   · rw[if_neg e] at hp;rw[Maps.atKey_put_other (by simpa using e)];exact h.at' t i hp
 · rw[Maps.size_put ht,h0,h.size];simp
def KeepE (W W':World):Prop:=W.heap.size≤W'.heap.size∧∀ (k:Nat) (cs:Array Value) (fr:Nat×Nat),W.heap[k]? = some (.cells cs 185 fr)→W'.heap[k]? = some (.cells cs 185 fr)
theorem KeepE.refl (W:World):KeepE W W:=⟨Nat.le_refl _,fun _ _ _ h=>h⟩
theorem KeepE.trans {A B C:World}(h:KeepE A B)(h2:KeepE B C):KeepE A C:=⟨Nat.le_trans h.1 h2.1,fun k cs fr hk=>h2.2 k cs fr (h.2 k cs fr hk)⟩
theorem KeepE.below {W W':World}(h:Below W.heap.size W W'):KeepE W W':=⟨h.size,fun k _ _ hk=>(h.block k (Array.getElem?_eq_some_iff.1 hk).1).trans hk⟩
theorem KeepE.grown {W W':World}{row:Option Nat}(h:W.grownBy W' row)(hr:∀ r,row=some r→W.heap.size≤r∨∃ o,W.heap[r]? = some o∧∀ cs fr,o≠.cells cs 185 fr):KeepE W W' :=
 ⟨h.size,fun k cs fr hk=>(h.block k (Array.getElem?_eq_some_iff.1 hk).1 (fun e=>by
   rcases hr k e.symm with h1 | ⟨o,ho,hne⟩
   · have:=(Array.getElem?_eq_some_iff.1 hk).1;omega
   · rw[hk] at ho;exact hne cs fr (Option.some.inj ho).symm)).trans hk⟩
theorem KeepE.own {W W':World}(h:KeepE W W'){B n z:Nat}{v:Value}{xs:List Value}(ho:W.ownsRow B 185 z v n xs):W'.ownsRow B 185 z v n xs:=by
 obtain⟨h1,h2⟩:=ho;refine⟨h1,?_⟩;rcases h2 with h2 | ⟨g,cap,cur,hv,hg,hh,r⟩
 · exact .inl h2
 · exact .inr ⟨g,cap,cur,hv,hg,h.2 _ _ _ hh,r⟩
structure StA (W:World) (B:Nat) (tab:List (List Sx.aT)):Prop where
 map:∃ D,W.ownsMap Tryz.prog 9 (plainElem Tryz.prog 3) B tab.length D∧MapIs D tab
 row:∃ v,W.heap[B+1]? = some (.cells #[.map (some B),v] 181 (0,0))∧W.ownsRow (B+2) 5 1 v (tab.flatMap Sx.bO).length (dO (tab.flatMap Sx.bO))∧(tab=[]→v=.slice none 0 0)
 len:∀ x∈tab,x.length≤1000
 ok:∀ x∈tab,∀ e∈x,e.2<tab.length
theorem StA.below {W W':World}{B:Nat}{tab:List (List Sx.aT)}(h:StA W B tab)(hb:Below W.heap.size W W'):StA W' B tab:=by
 obtain⟨⟨D,h1,h2⟩,⟨v,h3,h4,h7⟩,h5,h6⟩:=h;refine⟨⟨D,?_,h2⟩,⟨v,(hb.block _ (Array.getElem?_eq_some_iff.1 h3).1).trans h3,aD h4 hb,h7⟩,h5,h6⟩;have hlt:=h1.lt;obtain⟨es,clock,hb1,F,hs,hD⟩:=h1;exact⟨es,clock,(hb.block _ hlt).trans hb1,F,hs,hD⟩
theorem StA.siz {W:World}{B:Nat}{tab:List (List Sx.aT)}(h:StA W B tab):B+2≤W.heap.size:=by
 obtain⟨_,⟨v,h3,_⟩,_,_⟩:=h;have:=(Array.getElem?_eq_some_iff.1 h3).1;omega
def CE (tab:List (List Sx.aT))(es:List Sx.aT):List (List Sx.aT)×Nat:=match Sx.bH es tab with
 | some i=>(tab,i)
 | none=>(tab++[es],tab.length)
theorem TP {tab:List (List Sx.aT)}{es:List Sx.aT}{i:Nat}(h:Sx.bH es tab=some i):CE tab es=(tab,i):=by unfold CE;rw[h]
theorem PG {tab:List (List Sx.aT)}{es:List Sx.aT}(h:Sx.bH es tab=none):CE tab es=(tab++[es],tab.length):=by unfold CE;rw[h]
theorem xU (n:Nat)(tab:List (List Sx.aT))(l:List Sx.Wd):Sx.bU (n+1) tab l=CE ((Sx.grp l).foldl (Sx.bN n) (tab,[])).1 ((Sx.grp l).foldl (Sx.bN n) (tab,[])).2:=by rw[Sx.fA];rfl
theorem AQ:Keyed Tryz.prog 9:=string_keyed Tryz.underlying9
theorem NW (w:World):(zeroValue 3).run Tryz.prog w=.ok (.int .i64 0) w:=by kernel_rfl
theorem vI (tab:List (List Sx.aT))(hn:tab.length≤60000)(hlen:∀ x∈tab,x.length≤1000):(tab.flatMap Sx.bO).length≤240000000:=by
 have:∀ l:List (List Sx.aT),(∀ x∈l,x.length≤1000)→(l.flatMap Sx.bO).length≤l.length*4000:=by
  intro l
  induction l with
  | nil=>intro _;simp
  | cons x l ih =>
    intro h;have h1:=ih (fun y hy=>h y (by simp[hy]));have h2:=h x (by simp);have h3:(Sx.bO x).length=1+x.length*3:=by rw[←sA,yX _ _ (Nat.le_refl _)]
    rw[List.flatMap_cons,List.length_append,List.length_cons];omega
 have:=this tab hlen;omega
theorem Y1 (es:List Sx.aT)(v:Value)(B:Nat)(tab:List (List Sx.aT))(w:World)(hv:M5 w v es)(hst:StA w B tab)(hl:es.length≤1000)(hto:∀ e∈es,e.2<tab.length)(hn:tab.length≤60000) :
 Calls Tryz.prog 125 #[.pointer (some ⟨B+1,0,none⟩),v] w fun e w'=>Below B w w'∧KeepE w w' ∧
  e=.returned (.int .i64 ((CE tab es).2:Nat))∧StA w' B (CE tab es).1:=by
 obtain⟨i2,hi2,hx0,hx1,hx2⟩:=info_parts Tryz.info5;have hlen:=hst.len;have htab:∀ x∈tab,∀ e∈x,e.2<65536:=fun x hx e he=>by have:=hst.ok x hx e he;omega
 have ht:∀ e∈es,e.2<65536:=fun e he=>by have:=hto e he;omega
 have HTE:=hide (W9 es v w hv hl ht);have HLEN:=hide hlen;have HTO:=hide hto;have HOK:=hide hst.ok;have hpm:Sx.bH (Sx.bO es) (tab.map Sx.bO)=Sx.bH es tab:=Sx.yZ Sx.bO es tab (fun y hy e=>Sx.RO (htab y hy) ht e);have HPM:=hide hpm;have HST:=hide hst;have hsz:=hst.siz;clear hpm hst htab hlen hto;go_enter Tryz.func125,Tryz.ntmps125;go_wp2_with fail
 refine HTE.out.mono ?_;rintro e w1 ⟨rfl,hB1⟩;obtain⟨⟨D,hown,hD⟩,⟨tv,hbox,hrow,hnilt⟩,_,_⟩:=HST.out.below hB1;have HNT:=hide hnilt;clear hnilt;have c0:w1.cell? ⟨B+1,0,none⟩=some (.map (some B)):=by simp[World.cell?,hbox]
 have hs1:=hB1.size;have hzl:(Sx.bO es).length=1+es.length*3:=by rw[←sA,yX _ _ (Nat.le_refl _)]
 have hkey:keyOf Tryz.prog 9 (.string ⟨(Sx.bO es).toArray⟩)=some (.string (Sx.bO es)):=WideMaps.keyOf_string_mk Tryz.underlying9 (by show(Sx.bO es).length≤maxLen;rw[hzl];unfold maxLen;omega);obtain⟨T,hT⟩:∃ T,Sx.bO es=T:=⟨_,rfl⟩
 have HHAS:=hide (hD.has T);have HAT:=hide (hD.at' T);have hsiz:=hD.size;rw[hT] at hkey hzl HPM ⊢;have HTT:=hide hT;have HD:=hide hD;have HBB:=hide hB1;have HBX:=hide hbox;clear hT hD HST hv HTE ht hB1;cases hp:Sx.bH es tab with
 | some i =>
   have hpT:Sx.bH T (tab.map Sx.bO)=some i:=HPM.out.trans hp;have hmem:T∈tab.map Sx.bO:=List.mem_of_getElem? (Sx.gU _ _ _ hpT);have hh:Maps.has D (.string T)=true:=by rw[HHAS.out];simpa using hmem
   have hav:=HAT.out i hpT;have HP:=hide (TP hp);clear hmem hpT hp;go_wp2_with (at_lookup;go_must (refine wpList_lookup_own_ok_int _ rfl _ _ 179 rfl 9 3 .i64 AQ Tryz.underlying179 Tryz.underlying3 (NW _) B _ D rfl hown _ _ rfl hkey ?_;intro c hat hwc;rw[hav] at hat;obtain rfl:(i:Int)=c:=(by simpa using hat);clear hat hwc;rw[hh]))
   go_ret;rw[HP.out];exact⟨HBB.out.mono (by omega),KeepE.below HBB.out,rfl,⟨⟨D,hown,HD.out⟩,⟨tv,HBX.out,hrow,HNT.out⟩,HLEN.out,HOK.out⟩⟩
 | none =>
   have hpT:Sx.bH T (tab.map Sx.bO)=none:=HPM.out.trans hp;have hnm:=(Sx.eV _ _).1 hpT;have hh:Maps.has D (.string T)=false:=by rw[HHAS.out];simpa using hnm
   have HNM:=hide hnm;have hav:=Maps.atKey_of_not_has hh (.lit (.int .i64 0));have HP:=hide (PG hp);clear hnm hpT hp;go_wp2_with (first | (at_lookup;go_must (refine wpList_lookup_own_ok_int _ rfl _ _ 179 rfl 9 3 .i64 AQ Tryz.underlying179 Tryz.underlying3 (NW _) B _ D rfl hown _ _ rfl hkey ?_;intro c hat hwc;rw[hav] at hat;obtain rfl:(0:Int)=c:=(by simpa using hat);clear hat hwc;rw[hh])) | (at_len;go_must (refine wpList_len_own _ rfl _ 179 rfl 9 3 Tryz.underlying179 _ B _ D rfl hown ?_;rw[hsiz])) | (at_mapUpdate;go_must (refine wpList_mapUpdate_own _ rfl _ _ _ 179 rfl 9 3 AQ Tryz.underlying179 _ B _ D rfl hown (by unfold maxLen;omega) _ _ _ rfl rfl hkey _ [] (plainElem_int Tryz.underlying3 (WalkArith.wf_i64 (by omega))) ?_)))
   intro w2 hown2 hgrow2;have hbox2:=(hgrow2.block (B+1) (Array.getElem?_eq_some_iff.1 hbox).1 (by simp)).trans hbox;have hrow2:=hrow.kept hgrow2 (.inr (fun e=>by have:=(hrow.lt B e).1;omega));have c1:w2.cell? ⟨B+1,1,none⟩=some tv:=by simp[World.cell?,hbox2]
   have hs2:=hgrow2.size;have hNZ:(tab.flatMap Sx.bO).length≤240000000:=vI tab hn HLEN.out;have hTl:T.length≤4000:=by omega
   obtain⟨F,hF⟩:∃ F,tab.flatMap Sx.bO=F:=⟨_,rfl⟩
   rw[hF] at hNZ hrow2;have HF:=hide hF;clear hF hzl;have HOWN2:=hide hown2;have HMP:=hide hown;have HG2:=hide hgrow2;clear hgrow2 hown2 hown hrow c0 hav hh hkey;go_wp2_with (at_builtin;go_must (refine Lib.wpList_append_own_string _ rfl _ _ _ _ rfl (B+2) 5 i2 Tryz.underlying90 Tryz.underlying9 hi2 hx0 hx1 hx2 _ _ _ rfl hrow2 _ rfl (by show _+T.length≤_;unfold maxLen;omega) (by show _+T.length≤_;omega) (by omega) ?_))
   intro v3 w3 hown3 hgrow3 hnil3;have hne3:some (B+1)≠tv.ownBlock:=fun e=>by have:=(hrow2.lt (B+1) e.symm).1;omega
   have hbox3:=(hgrow3.block (B+1) (Array.getElem?_eq_some_iff.1 hbox2).1 hne3).trans hbox2;have c3:w3.cell? ⟨B+1,1,none⟩=some tv:=by simp[World.cell?,hbox3]
   have f3:w3.frozen? ⟨B+1,1,none⟩=false:=by simp[World.frozen?,hbox3]
   have hs3:=hgrow3.size;obtain⟨L3,hL3⟩:∃ L3,F.length+T.length=L3:=⟨_,rfl⟩
   rw[hL3] at hown3;have HL3:=hide hL3;obtain⟨p3,cp3,hv3⟩:=aB hown3;rw[hv3] at hown3 ⊢;clear hnil3 hv3 hL3;go_wp2;go_ret;obtain⟨v3,hv3⟩:∃ v3,Value.slice p3 L3 cp3=v3:=⟨_,rfl⟩
   rw[hv3] at hown3 ⊢;have hg4:=grown_setCell w3 (B+1) 1 v3;have hbox4:(w3.setCell ⟨B+1,1,none⟩ v3).heap[B+1]? = some (.cells #[.map (some B),v3] 181 (0,0)):=by
    simp[World.setCell,Array.getElem?_modify,hbox3]
   have hnb:∀ r,tv.ownBlock=some r→B+2≤r:=fun r e=>(hrow2.lt r e).1;have hBe:Below B w (w3.setCell ⟨B+1,1,none⟩ v3):=(((HBB.out.mono (by omega)).grown HG2.out (by omega) (fun r e=>by cases e;exact Nat.le_refl _)).grown hgrow3 (by omega) (fun r e=>by have:=hnb r e;omega)).grown hg4 (by omega) (fun r e=>by cases e;omega);have hKe:KeepE w (w3.setCell ⟨B+1,1,none⟩ v3):=by
    refine(((KeepE.below HBB.out).trans (KeepE.grown HG2.out ?_)).trans (KeepE.grown hgrow3 ?_)).trans (KeepE.grown hg4 ?_)
    · rintro r e;cases e;obtain⟨q,cl,hm,_⟩:=HMP.out;exact .inr ⟨_,hm,fun cs fr e=>by cases e⟩
    · rintro r e;rcases hrow2.2 with ⟨h1,_⟩ | ⟨g,cap,cur,h1,h2,h3,h4⟩
      · rw[h1] at e;cases e
      · rw[h1] at e;cases e;exact .inr ⟨_,h3,fun cs fr e=>by injection e with _ e2;exact absurd e2 (by decide)⟩
    · rintro r e;cases e;exact .inr ⟨_,hbox3,fun cs fr e=>by injection e with _ e2;exact absurd e2 (by decide)⟩
   rw[HP.out];have hlen2:(tab++[es],tab.length).1.length=tab.length+1:=by simp
   refine⟨hBe,hKe,rfl,⟨_,by rw[hlen2];exact(HOWN2.out.kept hgrow3 (fun e=>by have:=hnb B e.symm;omega)).kept hg4 (fun e=>by cases e),?_⟩,⟨v3,hbox4,?_,fun e=>by simp at e⟩,?_,?_⟩
   · have:=HD.out.put (HMP.out.tidy AQ) es (by rw[HTT.out];exact HNM.out);rw[HTT.out] at this;exact this
   · have h9:=hown3.kept hg4 (.inr (fun e=>by have:=(hown3.lt (B+1) e).1;omega));rw[List.flatMap_append,List.flatMap_cons,List.flatMap_nil,List.append_nil,HTT.out,HF.out,eQ,List.length_append,show F.length+T.length=L3 from HL3.out];exact h9
   · intro x hx;rcases List.mem_append.1 hx with hx | hx
     · exact HLEN.out x hx
     · rw[List.mem_singleton.1 hx];exact hl
   · intro x hx e he;rw[hlen2];rcases List.mem_append.1 hx with hx | hx
     · have:=HOK.out x hx e he;omega
     · rw[List.mem_singleton.1 hx] at he;have:=HTO.out e he;omega
theorem KyAt.below {w w':World}{B:Nat}{v:Value}{K:List (List UInt8)}(h:KyAt w B v K)(hb:Below B w w'):KyAt w' B v K:=by
 obtain⟨p,cap,h1,h2,h3,h4⟩:=h;refine⟨p,cap,h1,h2,h3,fun j hj=>?_⟩;obtain⟨b,off,e1,e2,e3⟩:=h4 j hj;exact⟨b,off,e1,e2,(hb.cell (p:=⟨b,off+j,none⟩) e2).trans e3⟩
theorem KeepE.later {A W W':World}{row:Option Nat}(h:KeepE A W)(hg:W.grownBy W' row)(hr:∀ r,row=some r→A.heap.size≤r):KeepE A W' :=
 ⟨Nat.le_trans h.1 hg.size,fun k cs fr hk=>(hg.block k (Array.getElem?_eq_some_iff.1 (h.2 k cs fr hk)).1 (fun e=>by
   have:=hr k e.symm;have:=(Array.getElem?_eq_some_iff.1 hk).1;omega)).trans (h.2 k cs fr hk)⟩
theorem StA.grownE {W W':World}{B:Nat}{tab:List (List Sx.aT)}{row:Option Nat}(h:StA W B tab)(hg:W.grownBy W' row)(hr:∀ r,row=some r→∃ cs fr,W.heap[r]? = some (.cells cs 185 fr)):StA W' B tab:=by
 obtain⟨⟨D,h1,h2⟩,⟨v,h3,h4,h7⟩,h5,h6⟩:=h;refine⟨⟨D,h1.kept hg (fun e=>?_),h2⟩,⟨v,(hg.block _ (Array.getElem?_eq_some_iff.1 h3).1 (fun e=>?_)).trans h3,h4.kept hg ?_,h7⟩,h5,h6⟩
 · obtain⟨cs,fr,hc⟩:=hr B e.symm;obtain⟨es,cl,hm,_⟩:=h1;rw[hm] at hc;cases hc
 · obtain⟨cs,fr,hc⟩:=hr _ e.symm;rw[h3] at hc;injection hc with hc
   injection hc with _ e2
   exact absurd e2 (by decide)
 · rcases h4.2 with ⟨e1,_⟩ | ⟨g,cap,cur,e1,e2,e3,e4⟩
   · exact .inl (by rw[e1];rfl)
   · refine .inr (fun e=>?_);rw[e1] at e;obtain⟨cs,fr,hc⟩:=hr g e.symm;rw[e3] at hc;injection hc with hc
     injection hc with _ e2
     exact absurd e2 (by decide)
theorem nH {W:World}{B n z:Nat}{e:TypeId}{v:Value}{xs:List Value}(h:W.ownsRow B e z v n xs):∀ r,v.ownBlock=some r→∃ cs fr,W.heap[r]? = some (.cells cs e fr):=by
 intro r hr;rcases h.2 with ⟨e1,_⟩ | ⟨g,cap,cur,e1,e2,e3,e4⟩
 · rw[e1] at hr;cases hr
 · rw[e1] at hr;cases hr;exact⟨_,_,e3⟩
def CM (es:List Sx.aT):List Value:=es.flatMap fun e=>[Value.int .u8 e.1.toNat,Value.int .i64 e.2]
theorem NB (a b:List Sx.aT):CM (a++b)=CM a++CM b:=by simp[CM]
theorem MC:∀ (l:List Sx.aT) (j:Nat) (h:j<l.length),(CM l)[j*2]? = some (.int .u8 l[j].1.toNat)∧(CM l)[j*2+1]? = some (.int .i64 l[j].2):=by
 intro l
 induction l with
 | nil=>intro j h;exact absurd h (Nat.not_lt_zero _)
 | cons x r ih =>
   intro j h;have e:CM (x::r)=Value.int .u8 x.1.toNat::Value.int .i64 x.2::CM r:=rfl;cases j with
   | zero=>rw[e];exact⟨rfl,rfl⟩
   | succ j =>
     have:=ih j (by simpa using h);rw[e,show(j+1)*2=j*2+1+1 from by omega]
     simpa using this
theorem EI {W:World}{B:Nat}{v:Value}{es:List Sx.aT}(h:W.ownsRow B 185 2 v es.length (CM es)):M5 W v es:=by
 obtain⟨p,cap,hv⟩:=aB h;refine⟨p,cap,hv,fun j hj=>?_⟩;rcases h.2 with ⟨e1,e2⟩ | ⟨g,cap,cur,e1,e2,e3,e4⟩
 · omega
 · have hp:p=some ⟨g,0,none⟩:=by rw[hv] at e1;injection e1
   obtain⟨a1,a2⟩:=MC es j hj;have c1:=h.cells (g:=g) (by rw[e1];rfl) _ _ a1;have c2:=h.cells (g:=g) (by rw[e1];rfl) _ _ a2;rw[Addr.add_lit,Nat.zero_add] at c1 c2;exact⟨g,hp,(Array.getElem?_eq_some_iff.1 e3).1,c1,c2⟩
def UL:Value→Nat
 | .slice _ n _=>n
 | _=>0
theorem KA (R:List (List UInt8))(d:Nat)(hd:∀ k∈R,d<k.length)(hR:0<R.length):∃ (c:UInt8) (m:Nat),0<m∧m≤R.length∧(∀ j (h:j<R.length) (h2:d<R[j].length),j<m→R[j][d]=c)∧(∀ (h:m<R.length) (h2:d<R[m].length),R[m][d]≠c) ∧
 Sx.grp (R.map (·.drop d))=(c,(R.take m).map (·.drop (d+1)))::Sx.grp ((R.drop m).map (·.drop d)):=by
 have hne:∀ w∈R.map (·.drop d),w≠[]:=by
  intro w hw e;obtain⟨k,hk,rfl⟩:=List.mem_map.1 hw;have h1:=congrArg List.length e;have h2:=hd k hk;rw[List.length_drop,List.length_nil] at h1;omega
 obtain⟨c,bl,rest,h1,h2,h3⟩:=Sx.mS (R.map (·.drop d)) hne (by intro e;have:=congrArg List.length e;rw[List.length_map,List.length_nil] at this;omega);have hlen:=congrArg List.length h1;simp only[List.length_map,List.length_append] at hlen;have hdr:∀ j (h:j<R.length) (h2:d<R[j].length),R[j].drop d=R[j][d]::R[j].drop (d+1):=fun j h h2=>List.drop_eq_getElem_cons h2;have hat:∀ j (h:j<R.length),(R.map (·.drop d))[j]? = some (R[j].drop d):=fun j h=>by rw[List.getElem?_map,List.getElem?_eq_getElem h];rfl
 have hblt:(R.take bl.length).map (·.drop (d+1))=bl:=by
  apply List.ext_getElem
  · simp;omega
  · intro j a1 a2;have hj:j<R.length:=by omega
    have hdl:=hd R[j] (List.getElem_mem hj);have e1:=hat j hj;rw[h1,List.getElem?_append_left (by simpa using a2),List.getElem?_map,List.getElem?_eq_getElem a2,hdr j hj hdl] at e1;simp only[Option.map_some,Option.some.injEq,List.cons.injEq] at e1;simp only[List.getElem_map,List.getElem_take];exact e1.2.symm
 have hrest:(R.drop bl.length).map (·.drop d)=rest:=by
  rw[List.map_drop,h1,List.drop_left' (by simp)]
 refine⟨c,bl.length,List.length_pos_iff.2 h2,by omega,?_,?_,?_⟩
 · intro j h hdl hj;have e1:=hat j h;rw[h1,List.getElem?_append_left (by simpa using hj),List.getElem?_map,List.getElem?_eq_getElem hj,hdr j h hdl] at e1;simp only[Option.map_some,Option.some.injEq,List.cons.injEq] at e1;exact e1.1.symm
 · intro h hdl;have e1:=hat bl.length h;rw[h1,List.getElem?_append_right (by simp),List.length_map,Nat.sub_self,hdr _ h hdl] at e1;obtain⟨r0,hr0⟩:∃ r0,rest=(R[bl.length][d]::R[bl.length].drop (d+1))::r0:=by
    cases rest with
    | nil=>simp at e1
    | cons y r=>simp only[List.getElem?_cons_zero,Option.some.injEq] at e1;exact⟨r,by rw[e1]⟩
   exact h3 _ _ _ hr0
 · rw[h1,hrest,hblt];exact Sx.rI c bl rest h2 (fun w hw=>hne w (by rw[h1];exact List.mem_append_right _ hw)) h3
theorem au (B:Nat):∀ (n:Nat) (K:List (List UInt8)) (d:Nat) (v:Value) (tab:List (List Sx.aT)) (w:World),KyAt w B v K→(∀ k∈K,d≤k.length)→d+n≤1000→Sx.kB n (K.map (·.drop d))→StA w B tab→tab.length+Sx.sl (K.map (·.drop d))≤50000→K.length≤1000 →
 Calls Tryz.prog 81 #[.pointer (some ⟨B+1,0,none⟩),.int .i64 d,v] w fun e w'=>Below B w w'∧KeepE w w'∧e=.returned (.int .i64 ((Sx.bU n tab (K.map (·.drop d))).2:Nat))∧StA w' B (Sx.bU n tab (K.map (·.drop d))).1:=by
 intro n
 induction n with
 | zero=>intro K d v tab w _ _ _ h;exact absurd h (by simp[Sx.kB])
 | succ n ih =>
   intro K d v tab w hv hd hd1 hok hst hbd hKl;obtain⟨i0,hi,hz0,hz1,hz2⟩:=info_parts Tryz.info185;have HV:=hide hv;have HST:=hide hst;have hsb0:=hst.siz;have IH:=hide ih;have hfine:=hok.1;have HG:=hide hok.2;obtain⟨p,cap,rfl,hcap,hcm,hrd⟩:=hv;have hK0:0<K.length:=by
    rcases hfine with h | h
    · have:=congrArg List.length h;simp at this;omega
    · have:=List.length_pos_iff.2 h.1;simpa using this
   obtain⟨b,off,rfl,hb,hc⟩:=hrd 0 hK0;clear ih hst hrd;rcases hfine with hend | ⟨_,hmore⟩
   · have hk0:K[0].length=d:=by
      have h1:=hd K[0] (List.getElem_mem hK0);have h2:K[0].drop d=[]:=by
       have:(K.map (·.drop d))[0]? = some []:=by rw[hend];rfl
       rw[List.getElem?_map,List.getElem?_eq_getElem hK0] at this
       simpa using this
      have:=congrArg List.length h2;rw[List.length_drop,List.length_nil] at this;omega
     obtain⟨x,hx⟩:∃ x,K[0]=x:=⟨_,rfl⟩
     rw[hx] at hc hk0;have hc2:w.cell? ⟨b,off,none⟩=some (.string ⟨x.toArray⟩):=hc;have HA:=hide (Y1 [] (.slice none 0 0) B tab w ⟨none,0,rfl,fun j h=>absurd h (Nat.not_lt_zero _)⟩ HST.out (by simp) (by simp) (by omega));have HE:Hid (Sx.bU (n+1) tab (K.map (·.drop d))=CE tab []):=hide (by rw[xU,hend];rfl);have hxl:(⟨x.toArray⟩:ByteArray).size=d:=hk0;clear hx hend hd hbd hok hc;go_enter Tryz.func81,Tryz.ntmps81;go_wp2_with fail
     refine HA.out.mono ?_;rintro e w1 ⟨hB1,hE1,rfl,hst1⟩;go_wp2;go_ret;rw[HE.out];exact⟨hB1,hE1,rfl,hst1⟩
   · have hdd:∀ k∈K,d<k.length:=by
      intro k hk;have h1:=hmore (k.drop d) (List.mem_map.2 ⟨k,hk,rfl⟩);have h2:=List.length_pos_iff.2 h1;rw[List.length_drop] at h2;omega
     have hk0:d<K[0].length:=hdd _ (List.getElem_mem hK0);have hsum:tab.length+((Sx.grp (K.map (·.drop d))).map fun g=>Sx.sl g.2+1).sum≤50000:=by
      have:=Sx.nW _ hmore;omega
     obtain⟨x,hx⟩:∃ x,K[0]=x:=⟨_,rfl⟩
     rw[hx] at hc hk0;have hc2:w.cell? ⟨b,off,none⟩=some (.string ⟨x.toArray⟩):=hc;have hxl:(⟨x.toArray⟩:ByteArray).size=x.length:=rfl;have hne0:¬ (x.length:Int)=(d:Int):=by omega
     have hne1:((x.length:Int) == (d:Int))=false:=by simp;omega
     obtain⟨GR,hGR⟩:∃ GR,(Sx.grp (K.map (·.drop d))).foldl (Sx.bN n) (tab,[])=GR:=⟨_,rfl⟩
     have HE:Hid (Sx.bU (n+1) tab (K.map (·.drop d))=CE GR.1 GR.2):=hide (by rw[xU,hGR]);have HGR:=hide hGR;have HDD:=hide hdd;have HSUM:=hide hsum;clear hx hd hbd hok hc hmore hdd hsum hGR;go_enter Tryz.func81,Tryz.ntmps81;go_wp2_with fail
     go_loopw [2,7] (fun kv ev wr=>∃ (R:List (List UInt8)) (tabi:List (List Sx.aT)) (es:List Sx.aT),KyAt wr B kv R∧wr.ownsRow w.heap.size 185 2 ev es.length (CM es)∧(Sx.grp (R.map (·.drop d))).foldl (Sx.bN n) (tabi,es)=GR∧(∀ g∈Sx.grp (R.map (·.drop d)),Sx.kB n g.2)∧(∀ k∈R,d<k.length)∧StA wr B tabi∧tabi.length+((Sx.grp (R.map (·.drop d))).map fun g=>Sx.sl g.2+1).sum≤50000∧es.length+R.length≤1000∧(∀ e∈es,e.2<tabi.length)∧Below B w wr∧KeepE w wr) (fun kv _ _=>UL kv)
     case atStart=>exact⟨K,tab,[],HV.out,World.ownsRow_nil _ _ _ _,HGR.out,HG.out,HDD.out,HST.out,HSUM.out,by simpa using hKl,by simp,Below.refl _ _,KeepE.refl _⟩
     case round =>
      obtain⟨R,tabi,es,hky,hown,hfold,hg,hdd,hst,hsum,hlen,hto,hB,hE⟩:=hrel;have HKY:=hide hky;have HST:=hide hst;have HB:=hide hB;have HE2:=hide hE;have HTO:=hide hto;have hsz:=hB.size;have hsb:=hst.siz;obtain⟨p,cp,rfl,hcp,hcpm,hrd⟩:=hky;clear hst hB hE hto hc2 hne0 hne1 hk0 hxl;by_cases hR:0<R.length
      · obtain⟨c,m,hm0,hm,h1,h2,hgrp⟩:=KA R d hdd hR;obtain⟨b2,off2,rfl,hb2,hcc⟩:=hrd 0 hR;have hd0:=hdd R[0] (List.getElem_mem hR);have hx0:=h1 0 hR hd0 hm0;obtain⟨y,hy⟩:∃ y,R[0]=y:=⟨_,rfl⟩
        simp only[hy] at hcc hd0 hx0;have hc3:wr.cell? ⟨b2,off2,none⟩=some (.string ⟨y.toArray⟩):=hcc;have hgt:∀ h:d<(⟨y.toArray⟩:ByteArray).size,(⟨y.toArray⟩:ByteArray)[d]'h=c:=fun h=>hx0;have hyl:(⟨y.toArray⟩:ByteArray).size=y.length:=rfl;have HCW:=hide (ay c d m R B (.slice (some ⟨b2,off2,none⟩) R.length cp) wr HKY.out hdd hm h1 h2 (by omega));have hkyt:KyAt wr B (.slice (some ⟨b2,off2,none⟩) m cp) (R.take m):=by
         refine⟨some ⟨b2,off2,none⟩,cp,by rw[List.length_take,Nat.min_eq_left hm],by rw[List.length_take];omega,hcpm,fun j hj=>?_⟩;rw[List.length_take] at hj;obtain⟨b3,o3,e1,e2,e3⟩:=hrd j (by omega);exact⟨b3,o3,e1,e2,by rw[List.getElem_take];exact e3⟩
        have hokb:Sx.kB n ((R.take m).map (·.drop (d+1))):=hg (c,(R.take m).map (·.drop (d+1))) (by rw[hgrp];simp);have hsum2:=hsum;rw[hgrp,List.map_cons,List.sum_cons] at hsum2;dsimp only at hsum2;have hfold2:=hfold;rw[hgrp,List.foldl_cons] at hfold2;have hg2:∀ g∈Sx.grp ((R.drop m).map (·.drop d)),Sx.kB n g.2:=fun g hgm=>hg g (by rw[hgrp];exact List.mem_cons_of_mem _ hgm);have hrec:=IH.out (R.take m) (d+1) (.slice (some ⟨b2,off2,none⟩) m cp) tabi wr hkyt (fun k hk=>hdd k (List.mem_of_mem_take hk)) (by omega) hokb HST.out (by omega) (by rw[List.length_take];omega);have hel:=Sx.gC n tabi ((R.take m).map (·.drop (d+1))) hokb HST.out.ok;obtain⟨q,hq⟩:∃ q,Sx.bU n tabi ((R.take m).map (·.drop (d+1)))=q:=⟨_,rfl⟩
        rw[hq] at hrec hel;have hfold3:(Sx.grp ((R.drop m).map (·.drop d))).foldl (Sx.bN n) (q.1,es++[(c,q.2)])=GR:=by
         rw[←hfold2];unfold Sx.bN;rw[hq]
        obtain⟨S2,hS2⟩:∃ S2,((Sx.grp ((R.drop m).map (·.drop d))).map fun g=>Sx.sl g.2+1).sum=S2:=⟨_,rfl⟩
        rw[hS2] at hsum2;obtain⟨S1,hS1⟩:∃ S1,Sx.sl ((R.take m).map (·.drop (d+1)))=S1:=⟨_,rfl⟩
        rw[hS1] at hsum2 hel;have hq1:q.1.length+S2≤50000:=by omega
        have hq2:=hel.2.2.1;have hq0:=hel.1;have hdr2:(R.drop m).length=R.length-m:=List.length_drop;rw[show((d+1:Nat):Int)=(d:Int)+1 from by omega] at hrec;have HREC:=hide hrec;have HF3:=hide hfold3;have HG2:=hide hg2;have HS2:=hide hS2;have HDR:Hid (∀ k∈R.drop m,d<k.length):=hide (fun k hk=>hdd k (List.mem_of_mem_drop hk));have HRD:=hide hrd;have HLEN:=hide hlen;clear hrec hfold3 hg2 hS2 hS1 hfold2 hfold hq hel hsum hsum2 hgrp hkyt hokb hcc hx0 hy h1 h2 hg hdd hrd HG HGR HDD HSUM HV hdr2 hlen;obtain⟨N,hN⟩:∃ N,R.length=N:=⟨_,rfl⟩
        rw[hN] at HCW hcp hm hR ⊢;have HN:=hide hN;clear hN;have hNl:N≤1000:=by have:=HLEN.out;have:=HN.out;omega
        obtain⟨ep,ec,hev⟩:=aB hown;subst hev;go_wp2_with fail
        refine HCW.out.mono ?_;rintro e w1 ⟨rfl,rfl⟩;go_wp2_with fail
        refine HREC.out.mono ?_;rintro e w2 ⟨hB2,hE2,rfl,hst2⟩;have hown2:=hE2.own hown;have hs2:=hE2.1;have hesl:es.length≤1000:=by have:=HLEN.out;omega
        obtain⟨ix,hix⟩:∃ ix,q.2=ix:=⟨_,rfl⟩
        rw[hix] at hq2 HF3 ⊢;have HB2:=hide hB2;have HST2:=hide hst2;have HEE:=hide hE2;clear hB2 hst2 hE2 hown hix HREC HCW;go_wp2_with (at_builtin;go_must (refine wpList_append_lies _ rfl _ _ _ rfl w.heap.size 185 i0 (.agg #[.int .u8 0,.int .i64 0]) 2 16 Tryz.underlying143 hi hz0 hz1 hz2 rfl (by decide) _ _ _ rfl (hown2.alloc _) ⟨_,0,none⟩ 1 1 [.int .u8 c.toNat,.int .i64 ix] rfl rfl (uA _ _ _ _ _ rfl) (by simp[Value.oneCell']) (by omega) (by unfold maxLen;omega) (by omega) (by simp;omega) _ rfl ?_))
        intro g6 cap6 w6 hown6 hgrow6 hat6 hlt6;have hgr:∀ r,(Value.slice ep es.length ec).ownBlock=some r→w.heap.size≤r:=fun r e=>(hown2.lt r e).1;have hBx:Below B w w6:=((HB.out.trans HB2.out).alloc (by omega) _).grown hgrow6 (by rw[World.size_alloc];omega) (fun r e=>by have:=hgr r e;omega);have hKx:KeepE w w6:=((HE2.out.trans HEE.out).trans (KeepE.below ((Below.refl _ _).alloc (Nat.le_refl _) _))).later hgrow6 hgr;have hSx:StA w6 B q.1:=(HST2.out.below ((Below.refl _ _).alloc (Nat.le_refl _) _)).grownE hgrow6 (fun r e=>nH (hown2.alloc _) r e);have hown7:w6.ownsRow w.heap.size 185 2 (.slice (some ⟨g6,0,none⟩) (es.length+1) cap6) (es++[(c,ix)]).length (CM (es++[(c,ix)])):=by
         rw[NB,List.length_append];exact hown6
        have hto7:∀ e∈es++[(c,ix)],e.2<q.1.length:=fun e he=>by
         rcases List.mem_append.1 he with he | he
         · have:=HTO.out e he;omega
         · rw[List.mem_singleton.1 he];exact hq2
        have hky7:∀ o2,(m<N→o2=off2+m)→KyAt w6 B (.slice (some ⟨b2,o2,none⟩) (N-m) (cp-m)) (R.drop m):=by
         intro o2 ho2;refine⟨some ⟨b2,o2,none⟩,cp-m,by rw[List.length_drop,HN.out],by rw[List.length_drop,HN.out];omega,by omega,fun j hj=>?_⟩;rw[List.length_drop,HN.out] at hj;obtain⟨b3,o3,e1,e2,e3⟩:=HRD.out (m+j) (by rw[HN.out];omega);obtain⟨rfl,rfl⟩:b2=b3∧off2=o3:=by injection e1 with e1;injection e1 with e1 e2;exact⟨e1,e2⟩
         refine⟨b2,o2,rfl,e2,?_⟩;rw[ho2 (by omega),List.getElem_drop,Nat.add_assoc];have:=(((HB2.out.alloc (by omega) _).grown hgrow6 (by rw[World.size_alloc];omega) (fun r e=>by have:=hgr r e;omega)).cell (p:=⟨b2,off2+(m+j),none⟩) e2).trans e3;exact this
        have HKY7:=hide hky7;have HBX:=hide hBx;have HKX:=hide hKx;have HSX:=hide hSx;have HOWN7:=hide hown7;have HTO7:=hide hto7;have HCNT:Hid ((es++[(c,ix)]).length+(R.drop m).length≤1000):=hide (by have:=HLEN.out;rw[List.length_append,List.length_singleton,List.length_drop];omega);clear hgrow6 hown6 hat6 hown7 hto7 hky7 hSx hKx hBx hgr hown2 HKY HRD;by_cases hcm2:m=cp
        · have hmN:N=m:=by omega
          subst hcm2;subst hmN;go_wp2;exact⟨⟨R.drop N,q.1,es++[(c,ix)],by have:=HKY7.out off2 (fun h=>absurd h (Nat.lt_irrefl _));rw[Nat.sub_self] at this;exact this,HOWN7.out,HF3.out,HG2.out,HDR.out,HSX.out,by rw[HS2.out];exact hq1,HCNT.out,HTO7.out,HBX.out,HKX.out⟩,by simp[UL];omega⟩
        · have hlt2:m<cp:=by omega
          go_wp2;exact⟨⟨R.drop m,q.1,es++[(c,ix)],HKY7.out _ (fun _=>rfl),HOWN7.out,HF3.out,HG2.out,HDR.out,HSX.out,by rw[HS2.out];exact hq1,HCNT.out,HTO7.out,HBX.out,HKX.out⟩,by simp[UL];omega⟩
      · have hR0:R=[]:=List.eq_nil_of_length_eq_zero (by omega);subst hR0;have hfold2:(tabi,es)=GR:=hfold;have HA:=hide (Y1 es _ B tabi wr (EI hown) HST.out (by omega) HTO.out (by omega));have HF:=hide hfold2;obtain⟨ep,ec,hev⟩:=aB hown;subst hev;clear hfold hfold2 hrd hown hg hdd hsum HKY HDD HSUM HV HG HGR;simp only[List.length_nil] at hcp hR ⊢;go_wp2_with fail
        refine HA.out.mono ?_;rintro e w1 ⟨hB1,hE1,rfl,hst1⟩;go_wp2;go_ret;rw[HE.out,←HF.out];exact⟨HB.out.trans hB1,HE2.out.trans hE1,rfl,hst1⟩
open Go.RowKit
def SrcAt (W:World)(b:Nat)(s:List UInt8)(sh:Bool):Prop:=W.heap[b]? = some (.cells #[.string ⟨s.toArray⟩,.bool sh] 141 (0,0))
theorem SrcAt.lt {W:World}{b:Nat}{s:List UInt8}{sh:Bool}(h:SrcAt W b s sh):b<W.heap.size:=(Array.getElem?_eq_some_iff.1 h).1
theorem SrcAt.cells {W:World}{b:Nat}{s:List UInt8}{sh:Bool}(h:SrcAt W b s sh):W.cell? ⟨b,0,none⟩=some (.string ⟨s.toArray⟩)∧W.cell? ⟨b,1,none⟩=some (.bool sh)∧W.frozen? ⟨b,0,none⟩=false∧W.frozen? ⟨b,1,none⟩=false:=by
 unfold SrcAt at h;simp[World.cell?,World.frozen?,h]
theorem SrcAt.setr {W:World}{b:Nat}{s:List UInt8}{sh:Bool}(h:SrcAt W b s sh)(r:List UInt8):SrcAt (W.setCell ⟨b,0,none⟩ (.string ⟨r.toArray⟩)) b r sh:=by
 unfold SrcAt at h ⊢;simp[World.setCell,Array.getElem?_modify,h]
theorem SrcAt.sets {W:World}{b:Nat}{s:List UInt8}{sh:Bool}(h:SrcAt W b s sh)(x:Bool):SrcAt (W.setCell ⟨b,1,none⟩ (.bool x)) b s x:=by
 unfold SrcAt at h ⊢;simp[World.setCell,Array.getElem?_modify,h]
def nx:List UInt8×Bool→UInt8×(List UInt8×Bool)
 | ([],_)=>(0,([],true))
 | (c::r,sh)=>(c,(r,sh))
theorem XF (c:UInt8)(r:List UInt8):(⟨(c::r).toArray⟩:ByteArray).extract 1 (r.length+1)=⟨r.toArray⟩:=by
 apply ByteArray.ext;simp[ByteArray.data_extract]
theorem OG (b:Nat)(s:List UInt8)(sh:Bool)(w:World)(h:SrcAt w b s sh) :
 Calls Tryz.prog 141 #[.pointer (some ⟨b,0,none⟩)] w fun e w'=>e=.returned (.int .u8 (nx (s,sh)).1.toNat)∧w.grownBy w' (some b)∧SrcAt w' b (nx (s,sh)).2.1 (nx (s,sh)).2.2:=by
 obtain⟨q0,q1,f0,f1⟩:=h.cells;have hlt:=h.lt;have H:=hide h;clear h;cases s with
 | nil =>
   go_enter Tryz.func141,Tryz.ntmps141;go_wp2;go_ret;exact⟨rfl,grown_setCell _ _ _ _,H.out.sets true⟩
 | cons c r =>
   go_enter Tryz.func141,Tryz.ntmps141;go_wp2;go_ret;rw[XF];exact⟨rfl,grown_setCell _ _ _ _,H.out.setr r⟩
theorem YF (c d:Nat)(hc:c<256)(hd:d<256):bits .or .i64 ((c:Int)*256) (d:Int)=((c*256+d:Nat):Int):=by
 have hx:c*256 ||| d=c*256+d:=by
  have:=Nat.shiftLeft_add_eq_or_of_lt (b:=d) (i:=8) (by omega) c;rw[Nat.shiftLeft_eq] at this;exact this.symm
 have h1:(BitVec.ofInt 64 ((c*256:Nat):Int)).toNat=c*256:=by
  rw[BitVec.ofInt_natCast,BitVec.toNat_ofNat];exact Nat.mod_eq_of_lt (by omega)
 have h2:(BitVec.ofInt 64 (d:Int)).toNat=d:=by
  rw[BitVec.ofInt_natCast,BitVec.toNat_ofNat];exact Nat.mod_eq_of_lt (by omega)
 rw[show(c:Int)*256=((c*256:Nat):Int) by omega];show IntKind.i64.wrap ((BitVec.ofInt 64 ((c*256:Nat):Int) ||| BitVec.ofInt 64 (d:Int)).toNat:Int)=_;rw[BitVec.toNat_or,h1,h2,hx];rw[IntKind.wrap_i64];omega
def nu (x:List UInt8×Bool):Nat×(List UInt8×Bool):=((nx x).1.toNat*256+(nx (nx x).2).1.toNat,(nx (nx x).2).2)
theorem MH (b:Nat)(s:List UInt8)(sh:Bool)(w:World)(h:SrcAt w b s sh) :
 Calls Tryz.prog 94 #[.pointer (some ⟨b,0,none⟩)] w fun e w'=>e=.returned (.int .i64 (nu (s,sh)).1)∧w.grownBy w' (some b)∧SrcAt w' b (nu (s,sh)).2.1 (nu (s,sh)).2.2:=by
 have H:=hide h;clear h;unfold nu;obtain⟨⟨c,s1,sh1⟩,hx⟩:∃ x,nx (s,sh)=x:=⟨_,rfl⟩
 obtain⟨⟨d,s2,sh2⟩,hy⟩:∃ x,nx (s1,sh1)=x:=⟨_,rfl⟩
 have h1:=OG b s sh w H.out;rw[hx] at h1 ⊢;dsimp only at h1 ⊢;rw[hy];dsimp only;have HY:=hide hy;clear hx hy;have hc:=c.toNat_lt;have hd:=d.toNat_lt;go_enter Tryz.func94,Tryz.ntmps94;go_wp2_with fail
 refine h1.mono ?_;rintro e w1 ⟨rfl,hg1,hs1⟩;have h2:=OG b s1 sh1 w1 hs1;rw[HY.out] at h2;dsimp only at h2;clear h1;go_wp2_with fail
 refine h2.mono ?_;rintro e w2 ⟨rfl,hg2,hs2⟩;clear h2;go_wp2;go_ret;exact⟨by rw[YF _ _ hc hd];rfl,hg1.trans hg2,hs2⟩
def nX:Nat→List UInt8×Bool→List Sx.aT×(List UInt8×Bool)
 | 0,x=>([],x)
 | k+1,x=>(((nx x).1,(nu (nx x).2).1)::(nX k (nu (nx x).2).2).1,(nX k (nu (nx x).2).2).2)
theorem K2 (x:List UInt8×Bool):(nu x).1<65536:=by
 unfold nu;have h1:=(nx x).1.toNat_lt;have h2:=(nx (nx x).2).1.toNat_lt;dsimp only;omega
theorem M7 (b:Nat)(s:List UInt8)(sh:Bool)(w:World)(h:SrcAt w b s sh) :
 Calls Tryz.prog 96 #[.pointer (some ⟨b,0,none⟩)] w fun e w'=>∃ v es x,(nX (nx (s,sh)).1.toNat (nx (s,sh)).2)=(es,x)∧e=.returned v∧w.grownBy w' (some b)∧SrcAt w' b x.1 x.2∧w'.ownsRow w.heap.size 185 2 v es.length (CM es):=by
 obtain⟨i0,hi,hz0,hz1,hz2⟩:=info_parts Tryz.info185;have hb:=h.lt;have h1:=OG b s sh w h;obtain⟨⟨c,s1,sh1⟩,hx⟩:∃ x,nx (s,sh)=x:=⟨_,rfl⟩
 rw[hx] at h1 ⊢;dsimp only at h1 ⊢;have hc:=c.toNat_lt;obtain⟨n,hn⟩:∃ n,c.toNat=n:=⟨_,rfl⟩
 rw[hn] at h1 hc ⊢;clear hx h hn;go_enter Tryz.func96,Tryz.ntmps96;go_wp2_with fail
 refine h1.mono ?_;rintro e w1 ⟨rfl,hg1,hs1⟩;have HG1:=hide hg1;have HS1:=hide hs1;clear h1 hg1 hs1;go_wp2_with fail
 go_loopw [3,7] (fun ev iv wr=>∃ (k:Nat) (es:List Sx.aT) (x:List UInt8×Bool),iv=.int .u8 k∧k≤n∧es.length=k∧wr.ownsRow w.heap.size 185 2 ev es.length (CM es)∧nX n (s1,sh1)=(es++(nX (n-k) x).1,(nX (n-k) x).2)∧w.grownBy wr (some b)∧SrcAt wr b x.1 x.2) (fun _ iv _=>(n-intOf iv).toNat)
 case atStart=>exact⟨0,[],(s1,sh1),rfl,by omega,rfl,World.ownsRow_nil _ _ _ _,by simp,HG1.out,HS1.out⟩
 case round =>
  obtain⟨k,es,x,rfl,hk,hlen,hown,he,hg,hs⟩:=hrel;have HE:=hide he;have HG:=hide hg;have HL:=hide hlen;have hesl:es.length≤1000:=by omega
  have hsz:=hg.size;clear he hg hlen HG1 HS1;by_cases hlt:k<n
  · obtain⟨x1,x2⟩:=x;have h2:=OG b x1 x2 wr hs;obtain⟨⟨c,y1,y2⟩,hx⟩:∃ q,nx (x1,x2)=q:=⟨_,rfl⟩
    rw[hx] at h2;dsimp only at h2;obtain⟨⟨t,z⟩,hz⟩:∃ q,nu (y1,y2)=q:=⟨_,rfl⟩
    have ht:=K2 (y1,y2);rw[hz] at ht;dsimp only at ht;have HE2:Hid (nX n (s1,sh1)=((es++[(c,t)])++(nX (n-(k+1)) z).1,(nX (n-(k+1)) z).2)):=hide (by
     rw[HE.out,show n-k=(n-(k+1))+1 by omega];simp only[nX,hx,hz,List.append_assoc,List.singleton_append])
    have HZ:=hide hz;obtain⟨ep,ec,hev⟩:=aB hown;subst hev;clear hx hz HE hs;go_wp2_with fail
    refine h2.mono ?_;rintro e w2 ⟨rfl,hg2,hs2⟩;have h3:=MH b y1 y2 w2 hs2;rw[HZ.out] at h3;dsimp only at h3;clear h2 hs2;go_wp2_with fail
    refine h3.mono ?_;rintro e w3 ⟨rfl,hg3,hs3⟩;clear h3;have hb0:∀ r,(Value.slice ep es.length ec).ownBlock=some r→w.heap.size≤r:=fun r e=>(hown.lt r e).1;have hown3:=(hown.kept hg2 (.inr (fun e=>by have:=hb0 b e;omega))).kept hg3 (.inr (fun e=>by have:=hb0 b e;omega));have hs3z:=hg3.size;have hs2z:=hg2.size;have HG3:=hide ((HG.out.trans hg2).trans hg3);have HS3:=hide hs3;clear hg2 hg3 hown HG HZ hs3;go_wp2_with (at_builtin;go_must (refine wpList_append_lies _ rfl _ _ _ rfl w.heap.size 185 i0 (.agg #[.int .u8 0,.int .i64 0]) 2 16 Tryz.underlying143 hi hz0 hz1 hz2 rfl (by decide) _ _ _ rfl (hown3.alloc _) ⟨_,0,none⟩ 1 1 [.int .u8 c.toNat,.int .i64 t] rfl rfl (uA _ _ _ _ _ rfl) (by simp[Value.oneCell']) (by omega) (by unfold maxLen;omega) (by omega) (by simp;omega) _ rfl ?_))
    intro g6 cap6 w6 hown6 hgrow6 hat6 hlt6;have hg7:w.grownBy w6 (some b):=(HG3.out.trans (World.grownBy_alloc _ _ (some b))).andThen hgrow6 (fun j e=>.inl (hb0 j e));have hs7:SrcAt w6 b z.1 z.2:=by
     unfold SrcAt;rw[hgrow6.block b (by rw[World.size_alloc];omega) (fun e=>by have:=hb0 b e.symm;omega)];exact(((Below.refl w3.heap.size w3).alloc (Nat.le_refl _) _).block b (by omega)).trans HS3.out
    have hown7:w6.ownsRow w.heap.size 185 2 (.slice (some ⟨g6,0,none⟩) (es.length+1) cap6) (es++[(c,t)]).length (CM (es++[(c,t)])):=by
     rw[NB,List.length_append];exact hown6
    have HX:=hide (And.intro hg7 (And.intro hs7 hown7));clear hg7 hs7 hown7 hgrow6 hown6 hat6 hlt6 hown3 HG3 HS3 hb0;go_wp2;exact⟨⟨k+1,es++[(c,t)],z,by go_num,by omega,by rw[List.length_append,HL.out];rfl,HX.out.2.2,HE2.out,HX.out.1,HX.out.2.1⟩,by simp[intOf];omega⟩
  · have hkn:k=n:=by omega
    subst hkn;have HO:=hide hown;have HS:=hide hs;clear hown hs;go_wp2;go_ret;exact⟨_,es,x,by rw[HE.out,Nat.sub_self];simp[nX],rfl,HG.out,HS.out,HO.out⟩
structure TabAt (W:World) (B:Nat) (sv:Value) (tab:List (List Sx.aT)) (vs:List Value):Prop where
 row:W.ownsRow B 143 1 sv tab.length vs
 len:vs.length=tab.length
 each:∀ i (h:i<tab.length) (h2:i<vs.length),W.ownsRow B 185 2 vs[i] tab[i].length (CM tab[i])
def AutAt (W:World)(b B:Nat)(tab:List (List Sx.aT)):Prop:=∃ sv vs,W.heap[b]? = some (.cells #[sv] 111 (0,0))∧TabAt W B sv tab vs
theorem TabAt.nil (W:World)(B:Nat):TabAt W B (.slice none 0 0) [] []:=⟨World.ownsRow_nil _ _ _ _,rfl,fun _ h=>absurd h (Nat.not_lt_zero _)⟩
def KeepT (t:TypeId)(W W':World):Prop:=∀ (k:Nat) (cs:Array Value) (fr:Nat×Nat),W.heap[k]? = some (.cells cs t fr)→W'.heap[k]? = some (.cells cs t fr)
theorem KeepT.own {t:TypeId}{W W':World}(h:KeepT t W W'){B n z:Nat}{v:Value}{xs:List Value}(ho:W.ownsRow B t z v n xs):W'.ownsRow B t z v n xs:=by
 obtain⟨h1,h2⟩:=ho;refine⟨h1,?_⟩;rcases h2 with h2 | ⟨g,cap,cur,hv,hg,hh,r⟩
 · exact .inl h2
 · exact .inr ⟨g,cap,cur,hv,hg,h _ _ _ hh,r⟩
theorem KeepT.grown {t t2:TypeId}{W W':World}{row:Option Nat}(h:W.grownBy W' row)(hr:∀ r,row=some r→∃ cs fr,W.heap[r]? = some (.cells cs t2 fr))(hne:t≠t2):KeepT t W W':=fun k cs fr hk =>
 (h.block k (Array.getElem?_eq_some_iff.1 hk).1 (fun e=>by
   obtain⟨c2,f2,h2⟩:=hr k e.symm;rw[hk] at h2;injection h2 with h2
   injection h2 with _ h2
   exact hne h2)).trans hk
theorem KeepT.refl (t:TypeId)(W:World):KeepT t W W:=fun _ _ _ h=>h
theorem KeepT.trans {t:TypeId}{A B C:World}(h:KeepT t A B)(h2:KeepT t B C):KeepT t A C:=fun k cs fr hk=>h2 k cs fr (h k cs fr hk)
theorem KeepT.alloc (t:TypeId)(W:World)(o:Obj):KeepT t W (W.alloc o):=fun k _ _ hk =>
 (((Below.refl W.heap.size W).alloc (Nat.le_refl _) o).block k (Array.getElem?_eq_some_iff.1 hk).1).trans hk
theorem eA {t:TypeId}{W W':World}(h:Below W.heap.size W W'):KeepT t W W':=fun k _ _ hk=>(h.block k (Array.getElem?_eq_some_iff.1 hk).1).trans hk
theorem KeepT.src {W W':World}(h:KeepT 141 W W'){b:Nat}{s:List UInt8}{sh:Bool}(hs:SrcAt W b s sh):SrcAt W' b s sh:=h _ _ _ hs
def mA (tab:List (List Sx.aT))(es:List Sx.aT):Bool:=es.all (fun e=>decide (e.2<tab.length)) && (tab.isEmpty || !es.isEmpty)
theorem US {tab:List (List Sx.aT)}{es:List Sx.aT}(k:Nat)(h:k<es.length)(h2:¬ es[k].2<tab.length):mA tab es=false:=by
 unfold mA;rw[Bool.and_eq_false_iff];left;rw[List.all_eq_false];exact⟨es[k],List.getElem_mem h,by simpa using h2⟩
theorem SN {tab:List (List Sx.aT)}{es:List Sx.aT}(h:∀ j (h:j<es.length),es[j].2<tab.length):mA tab es=(decide ((tab.length:Int)=0) || decide ((0:Int)<es.length)):=by
 unfold mA;have h1:es.all (fun e=>decide (e.2<tab.length))=true:=by
  rw[List.all_eq_true];intro e he;obtain⟨j,hj,rfl⟩:=List.mem_iff_getElem.1 he;exact decide_eq_true (h j hj)
 rw[h1];cases tab <;> cases es <;> simp <;> omega
theorem U3 (b B:Nat)(tab:List (List Sx.aT))(es:List Sx.aT)(v:Value)(w:World)(h:AutAt w b B tab)(hv:w.ownsRow B 185 2 v es.length (CM es))(hbB:b<B)(hB:B≤w.heap.size)(hl:tab.length≤100000)(hel:es.length≤1000) :
 Calls Tryz.prog 95 #[.pointer (some ⟨b,0,none⟩),v] w fun e w'=>e=.returned (.bool (mA tab es))∧Below b w w'∧KeepT 141 w w'∧(mA tab es=true→AutAt w' b B (tab++[es])):=by
 obtain⟨i0,hi,hz0,hz1,hz2⟩:=info_parts Tryz.info143;obtain⟨sv,vs,hbox,htab⟩:=h;have hq0:w.cell? ⟨b,0,none⟩=some sv:=by simp[World.cell?,hbox]
 have hf0:w.frozen? ⟨b,0,none⟩=false:=by simp[World.frozen?,hbox]
 obtain⟨sp,sc,rfl⟩:=aB htab.row;have hed:=EI hv;obtain⟨p,cap,rfl,hrd⟩:=hed;have HRD:=hide hrd;have HT:=hide htab;have HV:=hide hv;have HBOX:=hide hbox;clear hrd htab hv hbox;go_enter Tryz.func95,Tryz.ntmps95;go_wp2_with fail
 go_loopw [15] (fun i wr=>∃ k:Nat,i=.int .i64 k∧k≤es.length∧(∀ j (h:j<es.length),j<k→es[j].2<tab.length)∧Below w.heap.size w wr) (fun i _=>(es.length-intOf i).toNat)
 case atStart=>exact⟨0,rfl,by omega,fun _ _ h=>absurd h (Nat.not_lt_zero _),Below.refl _ _⟩
 case round =>
  obtain⟨k,rfl,hk,hall,hB1⟩:=hrel;have hsz:=hB1.size;by_cases hlt:k<es.length
  · obtain⟨b2,rfl,hb2,d1,d2⟩:=HRD.out k hlt;have c1:=(hB1.cell (p:=⟨b2,k*2,none⟩) hb2).trans d1;have c2:=(hB1.cell (p:=⟨b2,k*2+1,none⟩) hb2).trans d2;clear d1 d2;by_cases hin:es[k].2<tab.length
    · have HALL:Hid (∀ j (h:j<es.length),j<k+1→es[j].2<tab.length):=hide (fun j h h2=>by
       rcases Nat.lt_succ_iff_lt_or_eq.1 h2 with h3 | rfl
       · exact hall j h h3
       · exact hin)
      obtain⟨⟨x,t⟩,he⟩:∃ x,es[k]=x:=⟨_,rfl⟩
      rw[he] at c1 c2 hin;dsimp only at c1 c2 hin;have HB1:=hide hB1;clear hall he hB1;go_wp2;exact⟨⟨k+1,by go_num,by omega,HALL.out,HB1.out.alloc hsz _⟩,by simp[intOf];omega⟩
    · have HF:=hide (US k hlt hin);obtain⟨⟨x,t⟩,he⟩:∃ x,es[k]=x:=⟨_,rfl⟩
      rw[he] at c1 c2 hin;dsimp only at c1 c2 hin;have HB1:=hide hB1;clear hall he hB1;go_wp2;go_ret;rw[HF.out];exact⟨rfl,(HB1.out.alloc hsz _).mono (by omega),eA (HB1.out.alloc hsz _),fun h=>by cases h⟩
  · have HN:=hide (SN (tab:=tab) (es:=es) fun j h=>hall j h (by omega));have hrow1:=aD HT.out.row hB1;have hbl:b<w.heap.size:=by omega
    have hbx1:wr.heap[b]? = some (.cells #[.slice sp tab.length sc] 111 (0,0)):=(hB1.block b hbl).trans HBOX.out;have e0:wr.cell? ⟨b,0,none⟩=some (.slice sp tab.length sc):=by simp[World.cell?,hbx1]
    have hfb1:wr.frozen? ⟨b,0,none⟩=false:=by simp[World.frozen?,hbx1]
    have HB1:=hide hB1;have HBX:=hide hbx1;have hnb:some b≠(Value.slice sp tab.length sc).ownBlock:=fun e=>by have:=(hrow1.lt b e.symm).1;omega
    clear hall hB1 hbx1 hq0 hf0;obtain⟨M,hM⟩:∃ M,tab.length=M:=⟨_,rfl⟩
    rw[hM] at HN HT HBOX HBX hrow1 e0 hnb hl ⊢;have HM:=hide hM;clear hM;go_wp2_with (at_builtin;go_must (refine wpList_append_lies _ rfl _ _ _ rfl B 143 i0 (.slice none 0 0) 1 24 Tryz.underlying109 hi hz0 hz1 hz2 rfl (by decide) _ M vs rfl (hrow1.alloc _) ⟨_,0,none⟩ 1 1 [.slice p es.length cap] rfl rfl (GQ _ _ _ _ rfl) (by simp[Value.oneCell']) (by omega) (by unfold maxLen;omega) (by omega) (by simp;omega) _ rfl ?_))
    intro g8 cap8 w8 hown8 hgrow8 hat8 hlt8;have hlb:b<wr.heap.size:=by omega
    have hbx8:w8.heap[b]? = some (.cells #[.slice sp M sc] 111 (0,0)):=((hgrow8.block b (by rw[World.size_alloc];omega) hnb).trans (heap_alloc_old _ _ hlb)).trans HBX.out;have hfz8:w8.frozen? ⟨b,0,none⟩=false:=by simp[World.frozen?,hbx8]
    have hcb8:w8.cell? ⟨b,0,none⟩=some (.slice sp M sc):=by simp[World.cell?,hbx8]
    have hr0:∀ r,(Value.slice sp M sc).ownBlock=some r→∃ cs fr,(wr.alloc (.cells #[.slice p es.length cap] 143)).heap[r]? = some (.cells cs 143 fr):=nH (hrow1.alloc _);have hBx:Below b w w8:=((HB1.out.mono (by omega)).alloc (by omega) _).grown hgrow8 (by rw[World.size_alloc];omega) (fun r e=>by have:=(hrow1.lt r e).1;omega);have hKs:KeepT 141 w w8:=((eA HB1.out).trans (KeepT.alloc _ _ _)).trans (KeepT.grown hgrow8 hr0 (by decide));have hKe:KeepT 185 w w8:=((eA HB1.out).trans (KeepT.alloc _ _ _)).trans (KeepT.grown hgrow8 hr0 (by decide));have hend:∃ vs',TabAt (w8.setCell ⟨b,0,none⟩ (.slice (some ⟨g8,0,none⟩) (M+1) cap8)) B (.slice (some ⟨g8,0,none⟩) (M+1) cap8) (tab++[es]) vs':=by
     refine⟨vs++[.slice p es.length cap],?_,by simp[HT.out.len],fun i h h2=>?_⟩
     · have h9:=hown8.kept (grown_setCell w8 b 0 (.slice (some ⟨g8,0,none⟩) (M+1) cap8)) (.inr (fun e=>by have:=(hown8.lt b e).1;omega));rw[List.length_append,List.length_singleton,HM.out];exact h9
     · have hk:∀ {n:Nat} {v:Value} {xs:List Value},w.ownsRow B 185 2 v n xs→(w8.setCell ⟨b,0,none⟩ (.slice (some ⟨g8,0,none⟩) (M+1) cap8)).ownsRow B 185 2 v n xs:=fun ho =>
        (hKe.own ho).kept (grown_setCell w8 b 0 _) (.inr (fun e=>by have:=(ho.lt b e).1;omega))
       have hl1:=HT.out.len;by_cases hi2:i<tab.length
       · simp only[List.getElem_append_left hi2,List.getElem_append_left (show i<vs.length by omega)];exact hk (HT.out.each i hi2 (by omega))
       · have hie:i=tab.length:=by simp at h;omega
         subst hie;have h3:(vs++[Value.slice p es.length cap])[tab.length]=.slice p es.length cap:=by simp[←hl1]
         have h4:(tab++[es])[tab.length]=es:=by simp
         rw[h3,h4];exact hk HV.out
    have HEND:=hide hend;have HBX8:=hide (And.intro hbx8 (And.intro hBx hKs));clear hend hBx hKs hKe hr0 hgrow8 hown8 hat8 hlt8 hbx8;have fin:∀ x:Bool,mA tab es=x→(Ending.returned (.bool x)=.returned (.bool (mA tab es))∧Below b w (w8.setCell ⟨b,0,none⟩ (.slice (some ⟨g8,0,none⟩) (M+1) cap8))∧KeepT 141 w (w8.setCell ⟨b,0,none⟩ (.slice (some ⟨g8,0,none⟩) (M+1) cap8))∧(mA tab es=true→AutAt (w8.setCell ⟨b,0,none⟩ (.slice (some ⟨g8,0,none⟩) (M+1) cap8)) b B (tab++[es]))):=by
     intro x hx;refine⟨by rw[hx],HBX8.out.2.1.setCell (p:=⟨b,0,none⟩) (Nat.le_refl _) _,HBX8.out.2.2.trans (KeepT.grown (grown_setCell _ _ _ _) (fun r e=>by cases e;exact⟨_,_,HBX8.out.1⟩) (by decide)),fun _=>?_⟩;obtain⟨vs',h'⟩:=HEND.out;exact⟨_,vs',by simp[World.setCell,Array.getElem?_modify,HBX8.out.1],h'⟩
    have FIN:=hide fin;clear fin;by_cases hM0:M=0
    · subst hM0;go_wp2;go_ret;exact FIN.out true (by rw[HN.out];simp)
    · have hne1:((M:Int) == 0)=false:=by simp;omega
      by_cases hE0:0<es.length
      · go_wp2;go_ret;exact FIN.out true (by rw[HN.out,decide_eq_true (show(0:Int)<es.length by omega),Bool.or_true])
      · have hE1:es.length=0:=by omega
        go_wp2;go_ret;exact FIN.out false (by rw[HN.out,decide_eq_false (show ¬ (M:Int)=0 by omega),decide_eq_false (show ¬ (0:Int)<es.length by omega)];rfl)
theorem D7 (b:Nat)(cs:Array Value)(T:TypeId)(rs:List Sx.Rl)(r:Sx.Rl)(rv:Value)(w:World)(hbox:w.heap[b]? = some (.cells cs T (0,0)))(hc0:cs[0]? = some rv)(hrow:w.ownsRow (b+1) 82 4 rv rs.length (tR rs))(hn:rs.length≤30) :
 Calls Tryz.prog 99 #[.pointer (some ⟨b,0,none⟩),iL r] w fun e w'=>(e=.returned (.int .i64 (cG rs r).2)∧Below b w w'∧∃ rv',w'.heap[b]? = some (.cells (cs.setIfInBounds 0 rv') T (0,0))∧w'.ownsRow (b+1) 82 4 rv' (cG rs r).1.length (tR (cG rs r).1))∧∀ t,t≠82→t≠T→KeepT t w w':=by
 have hset:cs.setIfInBounds 0 rv=cs:=by
  obtain⟨h0,h1⟩:=Array.getElem?_eq_some_iff.1 hc0;apply Array.ext
  · simp
  · intro i h2 h3;rw[Array.getElem_setIfInBounds];split
    · rename_i e;subst e;exact h1.symm
    · rfl
 have hbl:b<w.heap.size:=(Array.getElem?_eq_some_iff.1 hbox).1;have hB0:Below w.heap.size w (w.alloc (.cells (KZ r).toArray 82)).drew:=((Below.refl _ _).alloc (Nat.le_refl _) _).drew;have HC:=hide (K5 rs r rv (w.alloc (.cells (KZ r).toArray 82)).drew ((lA hrow).below hB0) (by omega));have hcb:w.cell? ⟨b,0,none⟩=some rv:=by simp[World.cell?,hbox,hc0]
 obtain⟨vp,vc,rfl⟩:=aB hrow;obtain⟨rh,rk,rsc⟩:=r;have hra:iL (rh,rk,rsc)=.agg #[.int .u8 rk.toNat,.string ⟨(Sx.aA rh).toArray⟩,.int .i64 rh.length,.int .u8 rsc.toNat]:=rfl;have hrc:(KZ (rh,rk,rsc)).toArray=#[.int .u8 rk.toNat,.string ⟨(Sx.aA rh).toArray⟩,.int .i64 rh.length,.int .u8 rsc.toNat]:=rfl;have hpv:tR [(rh,rk,rsc)]=[.int .u8 rk.toNat,.string ⟨(Sx.aA rh).toArray⟩,.int .i64 rh.length,.int .u8 rsc.toNat]:=rfl;rw[hrc] at HC hB0;rw[hra] at HC ⊢;obtain⟨KN,hKN⟩:∃ KN,Sx.known rs (rh,rk,rsc)=KN:=⟨_,rfl⟩
 rw[hKN] at HC;obtain⟨R,hR⟩:∃ R,(rh,rk,rsc)=R:=⟨_,rfl⟩
 have hA1:KN=true→cG rs R=(rs,4):=fun h=>by unfold cG;rw[←hR,hKN,h];rfl
 have hA2:KN=false→rs.length=30→cG rs R=(rs,5):=fun h h2=>by unfold cG;rw[←hR,hKN,h,if_neg (by simp),if_pos h2]
 have hA3:KN=false→rs.length≠30→cG rs R=(rs++[R],0):=fun h h2=>by unfold cG;rw[←hR,hKN,h,if_neg (by simp),if_neg h2]
 rw[hR] at hpv ⊢;obtain⟨D,hD⟩:∃ D:ByteArray,⟨(Sx.aA rh).toArray⟩=D:=⟨_,rfl⟩
 obtain⟨N,hN⟩:∃ N,rh.length=N:=⟨_,rfl⟩
 rw[hD,hN] at HC hB0 hpv ⊢;have HA1:=hide hA1;have HA2:=hide hA2;have HA3:=hide hA3;have HPV:=hide hpv;have HBX:=hide hbox;have HSET:=hide hset;have HROW:=hide hrow;have hcb1:(w.alloc (.cells #[.int .u8 rk.toNat,.string D,.int .i64 N,.int .u8 rsc.toNat] 82)).cell? ⟨b,0,none⟩=some (.slice vp rs.length vc):=(World.cell?_of_block (heap_alloc_old _ _ hbl)).trans hcb;clear hra hrc hpv hKN hR hA1 hA2 hA3 hD hN hset hbox hc0 hrow;obtain⟨M,hM⟩:∃ M,rs.length=M:=⟨_,rfl⟩
 rw[hM] at hcb hcb1 HC hn HROW HA2 HA3;have HM:=hide hM;clear hM;have HSET2:Hid (cs.setIfInBounds 0 (.slice vp M vc)=cs):=hide (by rw[←HM.out];exact HSET.out);clear HSET;go_enter Tryz.func99,Tryz.ntmps99;go_wp2_with fail
 go_region_held_law (fun w'=>w'.cell? ⟨b,0,none⟩=some (.slice vp M vc)∧(w'.cell? ⟨w.heap.size,0,none⟩=some (.int .u8 rk.toNat)∧w'.cell? ⟨w.heap.size,1,none⟩=some (.string D))∧(w'.cell? ⟨w.heap.size,2,none⟩=some (.int .i64 N)∧w'.cell? ⟨w.heap.size,3,none⟩=some (.int .u8 rsc.toNat))) (first | exact hS1 | go_keep) ((go_at_call 145;refine HC.out.mono ?_;rintro e w1 ⟨rfl,hB1⟩;have hS1:=FR hcb1 hbl hB1))
 have hBw:Below w.heap.size w w1:=hB0.trans (hB1.mono hB0.size);have hbx1:w1.heap[b]? = some (.cells cs T (0,0)):=(hBw.block b hbl).trans HBX.out;have hrow1:=aD HROW.out hBw;have hs1:=hBw.size;have hfb1:w1.frozen? ⟨b,0,none⟩=false:=by simp[World.frozen?,hbx1]
 obtain⟨e0,⟨e1,e2⟩,e3,e4⟩:=hS1;have HBW:=hide hBw;clear hB1 hB0 hBw HC hcb hcb1;have hKv:KN=true∨KN=false:=by cases KN <;> simp
 rcases hKv with rfl | rfl
 · go_wp2;go_ret;rw[HA1.out trivial];exact⟨⟨rfl,HBW.out.mono (by omega),_,by rw[HSET2.out];exact hbx1,by rw[HM.out];exact hrow1⟩,fun t _ _=>eA HBW.out⟩
 · by_cases hM30:M=30
   · subst hM30;go_wp2;go_ret;rw[HA2.out trivial trivial];exact⟨⟨rfl,HBW.out.mono (by omega),_,by rw[HSET2.out];exact hbx1,by rw[HM.out];exact hrow1⟩,fun t _ _=>eA HBW.out⟩
   · have hne1:((M:Int) == 30)=false:=by simp;omega
     have hne2:¬ (M:Int)=30:=by omega
     obtain⟨i0,hi,hz0,hz1,hz2⟩:=info_parts Tryz.info82;have hlow:∀ g,(Value.slice vp M vc).ownBlock=some g→g<w.heap.size:=fun g e=>(HROW.out.lt g e).2;have hlt1:w.heap.size<w1.heap.size:=by
      have:=e1;simp only[World.cell?] at this;by_cases h:w.heap.size<w1.heap.size
      · exact h
      · rw[Array.getElem?_eq_none (by omega)] at this;cases this
     have hbne:w.heap.size≠b:=by omega
     have hnb:some b≠(Value.slice vp M vc).ownBlock:=fun e=>by have:=(HROW.out.lt b e.symm).1;omega
     have HFZ:Hid (∀ (o:Obj) (w8:World),(w1.alloc o).drew.grownBy w8 (Value.slice vp M vc).ownBlock→w8.frozen? ⟨b,0,none⟩=false):=hide (fun o w8 hg=>(hg.frozen_far ⟨b,0,none⟩ (by show b<(w1.alloc o).heap.size;rw[World.size_alloc];omega) hnb).trans ((World.frozen?_of_block (heap_alloc_old _ _ (show b<w1.heap.size by omega))).trans hfb1));have HCB:Hid (∀ (o:Obj) (w8:World),(w1.alloc o).drew.grownBy w8 (Value.slice vp M vc).ownBlock→w8.cell? ⟨b,0,none⟩=some (.slice vp M vc)):=hide (fun o w8 hg=>(hg.cell_far ⟨b,0,none⟩ (by show b<(w1.alloc o).heap.size;rw[World.size_alloc];omega) hnb).trans ((World.cell?_of_block (heap_alloc_old _ _ (show b<w1.heap.size by omega))).trans e0));go_wp2;have hcA:∀ o,(w1.alloc o).cell? ⟨b,0,none⟩=some (.slice vp M vc):=fun o=>(World.cell?_of_block (heap_alloc_old _ _ (show b<w1.heap.size by omega))).trans e0;go_region_law (refine step_append_lies _ rfl _ _ _ rfl (b+1) 82 i0 (.agg #[.int .u8 0,.string ⟨#[]⟩,.int .i64 0,.int .u8 0]) 4 40 Tryz.underlying54 hi hz0 hz1 hz2 rfl (by decide) _ M (tR rs) rfl (rX (hrow1.alloc _)) ⟨w1.heap.size,0,none⟩ 1 1 [.int .u8 rk.toNat,.string D,.int .i64 N,.int .u8 rsc.toNat] rfl rfl (vZ _ _ _ _ _ _) (by simp[Value.oneCell']) (by omega) (by unfold maxLen;omega) (by omega) (by simp;omega) _ rfl ?_;intro g8 cap8 w8 hown8 hgrow8 hat8 hlt8;have hfz8:w8.frozen? ⟨b,0,none⟩=false:=HFZ.out _ _ hgrow8;have hcb8:w8.cell? ⟨b,0,none⟩=some (.slice vp M vc):=HCB.out _ _ hgrow8)
     all_goals
      go_wp2;go_ret;rw[HA3.out trivial hM30];have hlb:b<w1.heap.size:=by omega
      have hBx:Below b w w8:=(((HBW.out.mono (by omega)).alloc (by omega) _).drew).grown hgrow8 (by show b≤(w1.alloc _).heap.size;rw[World.size_alloc];omega) (fun r e=>by have:=(HROW.out.lt r e).1;omega);have hb8:w8.heap[b]? = some (.cells cs T (0,0)):=((hgrow8.block b (by show b<(w1.alloc _).heap.size;rw[World.size_alloc];omega) hnb).trans (heap_alloc_old _ _ hlb)).trans hbx1;refine⟨⟨rfl,hBx.setCell (p:=⟨b,0,none⟩) (Nat.le_refl _) _,.slice (some ⟨g8,0,none⟩) (M+1) cap8,?_,?_⟩,fun t h1 h2=>?_⟩
      · simp[World.setCell,Array.getElem?_modify,hb8]
      · have h9:=hown8.kept (grownBy_setCell' w8 b (.slice (some ⟨g8,0,none⟩) (M+1) cap8)) (.inr (fun e=>by have:=(hown8.lt b e).1;omega));rw[MY,HPV.out,List.length_append,List.length_singleton,HM.out];exact h9
      · have k1:KeepT t w w1:=eA HBW.out;have k2:KeepT t w1 (w1.alloc (.cells #[.int .u8 rk.toNat,.string D,.int .i64 N,.int .u8 rsc.toNat] 82)).drew:=fun k cs fr hk=>KeepT.alloc t w1 _ k cs fr hk;have k3:=KeepT.grown (t:=t) hgrow8 (nH (rX (hrow1.alloc _))) h1;have k4:=KeepT.grown (t:=t) (grown_setCell w8 b 0 (.slice (some ⟨g8,0,none⟩) (M+1) cap8)) (fun r e=>by cases e;exact⟨_,_,hb8⟩) h2;exact((k1.trans k2).trans k3).trans k4
def pL (key:List UInt8):Option Sx.Rl:=match key.reverse with
 | sec::k::r=>kV key r.reverse k sec
 | _=>none
theorem YO (key:List UInt8)(w:World)(hw:gW w)(hl:key.length≤9000):Calls Tryz.prog 98 #[.string ⟨key.toArray⟩] w (BN (pL key) w):=by
 unfold pL;rcases hr:key.reverse with _ | ⟨sec,_ | ⟨k,r⟩⟩
 · exact uH key w (by have:=congrArg List.length hr;simp at this;simp[this])
 · exact uH key w (by have:=congrArg List.length hr;simp at this;omega)
 · exact Y9 key r.reverse k sec w hw (by have:=congrArg List.reverse hr;simpa using this) hl
def aj (rs:List Sx.Rl):Option Sx.Rl→List Sx.Rl×Bool
 | none=>(rs,false)
 | some r=>((cG rs r).1,decide ((cG rs r).2=0))
def BQ (rs:List Sx.Rl)(key:List UInt8):List Sx.Rl×Bool:=aj rs (pL key)
def RsAt (W:World)(b:Nat)(rs:List Sx.Rl):Prop:=∃ rv,W.heap[b]? = some (.cells #[rv] 54 (0,0))∧W.ownsRow (b+1) 82 4 rv rs.length (tR rs)
theorem RsAt.below {W W':World}{b:Nat}{rs:List Sx.Rl}(h:RsAt W b rs)(hb:Below W.heap.size W W'):RsAt W' b rs:=by
 obtain⟨rv,h1,h2⟩:=h;exact⟨rv,eG hb h1,aD h2 hb⟩
theorem RsAt.lt {W:World}{b:Nat}{rs:List Sx.Rl}(h:RsAt W b rs):b<W.heap.size:=by
 obtain⟨rv,h1,h2⟩:=h;exact(Array.getElem?_eq_some_iff.1 h1).1
theorem RU (rs:List Sx.Rl)(r:Sx.Rl)(h:rs.length≤30):(cG rs r).1.length≤30:=by
 unfold cG;split
 · exact h
 · split
   · exact h
   · rw[List.length_append,List.length_singleton];omega
theorem ZQ (rs:List Sx.Rl)(key:List UInt8)(h:rs.length≤30):(BQ rs key).1.length≤30:=by
 unfold BQ;cases pL key with
 | none=>exact h
 | some r=>exact RU rs r h
theorem az (b:Nat)(rs:List Sx.Rl)(key:List UInt8)(w:World)(hw:gW w)(hl:key.length≤9000)(hr:RsAt w b rs)(hn:rs.length≤30) :
 Calls Tryz.prog 60 #[.pointer (some ⟨b,0,none⟩),.string ⟨key.toArray⟩] w fun e w'=>e=.returned (.bool (BQ rs key).2)∧Below b w w'∧RsAt w' b (BQ rs key).1∧∀ t,t≠82→t≠54→KeepT t w w':=by
 have HRK:=hide (YO key w hw hl);have hlt:=hr.lt;have HR:=hide hr;obtain⟨D,hD⟩:∃ D:ByteArray,⟨key.toArray⟩=D:=⟨_,rfl⟩
 rw[hD] at HRK ⊢;clear hD hr;unfold BQ;obtain⟨o,ho⟩:∃ o,pL key=o:=⟨_,rfl⟩
 rw[ho] at HRK ⊢;clear ho;obtain⟨R,hR⟩:∃ R:List Sx.Rl×Bool,aj rs o=R:=⟨_,rfl⟩
 rw[hR];have HQ:=hide hR;clear hR;go_enter Tryz.func60,Tryz.ntmps60;go_wp2_with fail
 refine HRK.out.mono ?_;rintro e w1 ⟨hB1,x,rfl,hx,hxo⟩;have hs1:=hB1.size;cases o with
 | none =>
   obtain⟨x0,x1,x2,x3,rfl⟩:∃ (x0:Int) (x1:ByteArray) (x2 x3:Int),x=.agg #[.int .u8 x0,.string x1,.int .i64 x2,.int .u8 x3]:=by
    rcases hx with rfl | ⟨r,rfl⟩
    · exact⟨_,_,_,_,rfl⟩
    · exact⟨_,_,_,_,rfl⟩
   have HB1:Hid (∀ o,Below w.heap.size w (w1.alloc o)):=hide (fun o=>hB1.alloc hs1 o);have HQ0:Hid ((rs,false)=R):=hide HQ.out;clear hx hxo HRK hB1 HQ;go_wp2;go_ret;rw[←HQ0.out];exact⟨rfl,(HB1.out _).mono (by omega),HR.out.below (HB1.out _),fun t _ _=>eA (HB1.out _)⟩
 | some r =>
   obtain rfl:=hxo r rfl;obtain⟨rh,rk,rsc⟩:=r;have HAD:Hid (∀ o,Calls Tryz.prog 99 #[.pointer (some ⟨b,0,none⟩),iL (rh,rk,rsc)] (w1.alloc o) fun e w'=>e=.returned (.int .i64 (cG rs (rh,rk,rsc)).2)∧Below b w w'∧RsAt w' b (cG rs (rh,rk,rsc)).1∧∀ t,t≠82→t≠54→KeepT t w w'):=hide (fun o=>by
    have hb:Below w.heap.size w (w1.alloc o):=hB1.alloc hs1 o;obtain⟨rv,g1,g2⟩:=HR.out.below hb;refine(D7 b #[rv] _ rs (rh,rk,rsc) rv (w1.alloc o) g1 rfl g2 hn).mono ?_;rintro e w' ⟨⟨a1,a2,rv',a3,a4⟩,a5⟩;exact⟨a1,(hb.mono (by omega)).trans a2,⟨rv',a3,a4⟩,fun t h1 h2=>(eA hb).trans (a5 t h1 h2)⟩)
   have hra:iL (rh,rk,rsc)=.agg #[.int .u8 rk.toNat,.string ⟨(Sx.aA rh).toArray⟩,.int .i64 rh.length,.int .u8 rsc.toNat]:=rfl;rw[hra] at HAD ⊢;obtain⟨X,hX⟩:∃ X:ByteArray,⟨(Sx.aA rh).toArray⟩=X:=⟨_,rfl⟩
   obtain⟨M,hM⟩:∃ M,rh.length=M:=⟨_,rfl⟩
   rw[hX,hM] at HAD ⊢;obtain⟨A,hA⟩:∃ A,cG rs (rh,rk,rsc)=A:=⟨_,rfl⟩
   have HQ0:Hid ((A.1,decide (A.2=0))=R):=hide (by rw[←hA];exact HQ.out);rw[hA] at HAD;obtain⟨rs2,er⟩:=A;dsimp only at HAD HQ0;clear hx hxo HRK hB1 hra hX hM hA HQ;go_wp2_with fail
   refine(HAD.out _).mono ?_;rintro e w3 ⟨rfl,hB3,hr3⟩;have HX:=hide (And.intro hB3 hr3);clear hB3 hr3 HAD;go_wp2;go_ret;rw[←HQ0.out];exact⟨rfl,HX.out⟩
def Lengthens (v v':Value)(n:Nat):Prop:=(∃ g cap,v=.slice (some ⟨g,0,none⟩) n cap∧v'=.slice (some ⟨g,0,none⟩) (n+1) cap)∨(∀ k,v.ownBlock=some k→v'.ownBlock≠some k)
theorem sQ {w:World}{B g n cap:Nat}{e:TypeId}{xs:List Value}{u:Value}(h:w.ownsRow B e 1 (.slice (some ⟨g,0,none⟩) (n+1) cap) (n+1) (xs++[u]))(hl:xs.length=n):w.ownsRow B e 1 (.slice (some ⟨g,0,none⟩) n cap) n xs:=by
 obtain⟨h1,h2⟩:=h;rcases h2 with ⟨h2,_⟩ | ⟨g2,cap2,cur,hv,hg,hh,hc,hm,hs,ht⟩
 · cases h2
 · injection hv with e1 _ e2
   injection e1 with e1
   injection e1 with e1
   subst e1 e2;refine⟨by rw[hl];simp,.inr ⟨g,cap,cur,rfl,hg,hh,by omega,hm,hs,?_⟩⟩;have:=congrArg (List.take n) ht;rw[List.take_take,Nat.mul_one,Nat.min_eq_left (by omega),List.take_left' hl] at this;rw[Nat.mul_one];exact this
theorem Lengthens.back {w w':World}{B n:Nat}{e:TypeId}{v v':Value}{xs:List Value}{u:Value}(h:Lengthens v v' n)(ho:w.ownsRow B e 1 v n xs)(ho':w'.ownsRow B e 1 v' (n+1) (xs++[u]))
 (hk:∀ (k:Nat) (cs:Array Value) (fr:Nat×Nat),w.heap[k]? = some (.cells cs e fr)→some k≠v'.ownBlock→w'.heap[k]? = some (.cells cs e fr)):w'.ownsRow B e 1 v n xs:=by
 rcases h with ⟨g,cap,rfl,rfl⟩ | h
 · exact sQ ho' (by have:=ho.1;omega)
 · obtain⟨h1,h2⟩:=ho;refine⟨h1,?_⟩;rcases h2 with h2 | ⟨g,cap,cur,hv,hg,hh,r⟩
   · exact .inl h2
   · exact .inr ⟨g,cap,cur,hv,hg,hk _ _ _ hh (fun e=>h g (by rw[hv];rfl) e.symm),r⟩
theorem tD {P:Program}(w:World)(t ty:TypeId)(base:Nat)(e:TypeId)(i:TypeInfo)(z:Value)(bytes:Nat)(ht:P.underlying t=some (.slice e))(hi:P.info? e=some i)(hz:i.zero=some z)
 (hsize:i.size=1) (hby:i.bytes=bytes) (hzs:z.cells.size=1) (v:Value) (n:Nat) (xs:List Value) (hown:w.ownsRow base e 1 v n xs)
 (ad:Addr) (c:Nat) (u:Value) (hnews:w.cell? ad=some u) (h1:u.oneCell'=true) (h63:n+1≤maxLen) (hbytes:(n+1)*bytes≤140737488355328) (hbase:base≤w.heap.size) :
 ∃ v' w',(Builtin.append_ #[t,t] ty #[v,.slice (some ad) 1 c]).run P w=.ok v' w'∧w'.ownsRow base e 1 v' (n+1) (xs++[u])∧w'.ownsRow base e 1 v n xs∧w.grownBy w' v.ownBlock∧Lengthens v v' n∧∀ k,v'.ownBlock=some k→v.ownBlock=some k∨w.heap.size≤k:=by
 have hn:∀ (j:Nat) (y:Value),[u][j]? = some y→w.cell? (ad.add j)=some y:=fun j y hj=>by
  cases j with
  | zero=>simp at hj;subst hj;simpa[Addr.add] using hnews
  | succ j=>simp at hj
 have h1c:∀ y∈[u],y.oneCell'=true:=fun y hy=>by rw[List.mem_singleton.1 hy];exact h1
 obtain⟨v',w',hr,ho,hg,_⟩:=run_append_own (P:=P) w base t ty e i z 1 bytes ht hi hz hsize hby hzs (by decide) v n xs hown ad 1 c [u] (by simp) hn h1c h63 hbytes hbase;have hxl:xs.length=n:=by have:=hown.1;omega
 rcases hown.2 with ⟨rfl,rfl⟩ | ⟨g,cap,cur,rfl,hb,hh,hc,hm,hs,htk⟩
 · obtain rfl:xs=[]:=List.eq_nil_of_length_eq_zero hxl;obtain⟨v2,w2,hr2,ho2,_,_⟩:=run_append_own (P:=P) w w.heap.size t ty e i z 1 bytes ht hi hz hsize hby hzs (by decide) (.slice none 0 0) 0 [] (World.ownsRow_nil _ _ _ _) ad 1 c [u] (by simp) hn h1c h63 hbytes (Nat.le_refl _);rw[hr] at hr2;injection hr2 with e1 e2
   subst e1 e2;exact⟨v',w',hr,ho,World.ownsRow_nil _ _ _ _,hg,.inr (fun k h=>by simp[Value.ownBlock] at h),fun k h=>.inr (ho2.lt k h).1⟩
 · have hgl:g<w.heap.size:=(Array.getElem?_eq_some_iff.1 hh).1;by_cases hroom:n+1≤cap
   · have hcell:∀ j,j < [u].length→(w.cell? ⟨g,0+n*i.size+j,none⟩).isSome=true∧w.frozen? ⟨g,0+n*i.size+j,none⟩=false:=fun j hj=>by
      have hj0:j=0:=by simp at hj;omega
      subst hj0;rw[hsize];have hlt:n<cur.size:=by omega
      constructor
      · simp[World.cell?,hh,hlt]
      · simp[World.frozen?,hh]
     have hr2:=run_append_room_cells (P:=P) w t ty e i ht hi g 0 n cap ad 1 c [u] (by rw[hsize];rfl) hn h1c hroom (fun j hj=>(hcell j hj).1) (fun j hj=>(hcell j hj).2);rw[hr] at hr2;injection hr2 with e1 e2
     subst e1;exact⟨_,w',hr,ho,sQ ho hxl,hg,.inl ⟨g,cap,rfl,rfl⟩,fun k h=>.inl h⟩
   · have holds:∀ (j:Nat) (y:Value),xs[j]? = some y→w.cell? ((⟨g,0,none⟩:Addr).add j)=some y:=fun j y hj=>by
      have hjl:j<n:=by rw[←hxl];exact(List.getElem?_eq_some_iff.1 hj).1
      rw[←htk,List.getElem?_take_of_lt (by omega),Array.getElem?_toList] at hj;rw[Addr.add_lit,Nat.zero_add];simp[World.cell?,hh,hj]
     obtain⟨v2,w2,hr2,ho2,hg2⟩:=run_append_arg_grows (P:=P) w t ty e i z 1 bytes ht hi hz hsize hby hzs (by decide) ⟨g,0,none⟩ n cap xs (by omega) holds ad 1 c [u] (by simp) hn (by omega) h63 hbytes;rw[hr] at hr2;injection hr2 with e1 e2
     subst e1 e2;exact⟨v',w',hr,ho,hown.kept hg2 (.inr (fun e=>by cases e)),hg,.inr (fun k h e=>by
      have h2:=(ho2.lt k e).1;simp[Value.ownBlock] at h;omega),fun k h=>.inr (ho2.lt k h).1⟩
theorem rS {P:Program}{w:World}{ops:Array Oper}{o:Oper}{a:Act}{K:Act→World→Prop}{Q:Exit→Act→World→Prop}{E:Prop}(hgd:o.guard=none)(s x:Operand)(t:TypeId)
 (ho:o.op=.call { callee:=.builtin .append,args:=#[s,x],argTypes:=#[t,t] })
 (base:Nat) (e:TypeId) (i:TypeInfo) (z:Value) (bytes:Nat) (ht:P.underlying t=some (.slice e)) (hi:P.info? e=some i) (hz:i.zero=some z)
 (hsize:i.size=1) (hby:i.bytes=bytes) (hzs:z.cells.size=1) (v:Value) (n:Nat) (xs:List Value) (hs:a.eval s=v) (hown:w.ownsRow base e 1 v n xs)
 (ad:Addr) (c:Nat) (u:Value) (hx:a.eval x=.slice (some ad) 1 c) (hnews:w.cell? ad=some u) (h1:u.oneCell'=true) (h63:n+1≤maxLen) (hbytes:(n+1)*bytes≤140737488355328) (hbase:base≤w.heap.size)
 (h:∀ v' w',w'.ownsRow base e 1 v' (n+1) (xs++[u])→w'.ownsRow base e 1 v n xs→w.grownBy w' v.ownBlock→Lengthens v v' n→(∀ k,v'.ownBlock=some k→v.ownBlock=some k∨w.heap.size≤k)→K (a.put o.dst v') w') :
 if Region.wanted o (yielded ops a.tmps)=true then Oper.wp P o a w K Q else E:=by
 have hw:Region.wanted o (yielded ops a.tmps)=true:=by simp[Region.wanted,hgd]
 rw[if_pos hw];obtain⟨v',w',hr,h2,h3,h4,h5,h6⟩:=tD (P:=P) w t o.type base e i z bytes ht hi hz hsize hby hzs v n xs hown ad c u hnews h1 h63 hbytes hbase;unfold Oper.wp execOp;simp only[ho,resolve,invoke,builtin,Sem.run_bind,Sem.run_pure,Result.andThen_ok,List.map_toArray,List.map_cons,List.map_nil,hs,hx,hr];exact h v' w' h2 h3 h4 h5 h6
end Go.Proofs.YtgohllfpceeboabGreatDoor
