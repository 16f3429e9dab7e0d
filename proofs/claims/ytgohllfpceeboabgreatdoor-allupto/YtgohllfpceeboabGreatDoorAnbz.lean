import Derived.Test.YtgohllfpceeboabGreatDoorCards
import Derived.Test.YtgohllfpceeboabGreatDoorFcA2
import Derived.Test.YtgohllfpceeboabGreatDoorAnby
import Derived.Test.YtgohllfpceeboabGreatDoorTie
import Derived.Deep.DeepHandedRow
import Derived.Carry
set_option maxRecDepth 100000
namespace Go.Proofs.YtgohllfpceeboabGreatDoor
open Go.ChangeShapes Go.WideShapes Go.ChangeAt Go.RowKit Go.Deep
theorem vH {H:Type}{d:DataW H}:∀ {l:List (DataW H)},d∈l→Rows.uptoBulk d≤Rows.uptoBulkAll l
 | [],h=>by cases h
 | x::r,h=>by
   unfold Rows.uptoBulkAll;rcases List.mem_cons.1 h with rfl | h
   · exact Nat.le_add_right _ _
   · exact Nat.le_trans (vH h) (Nat.le_add_left _ _)
theorem wX {H:Type}:∀ (L:List (List UInt8)),Rows.uptoBulkAll (L.map fun s=>(DataW.lit (H:=H) (.string s)))=L.length+Sx.sl L
 | []=>by simp[Rows.uptoBulkAll,Sx.sl]
 | s::r=>by
   have ih:=wX (H:=H) r;have e:Sx.sl (s::r)=s.length+Sx.sl r:=by simp[Sx.sl]
   simp only[List.map_cons,Rows.uptoBulkAll,Rows.uptoBulk,ih,List.length_cons,e];omega
theorem VE {H:Type}{enc:TypeId×Value→H}{w:World}{fuel:Nat}{o:OpC}{x:DataW H×List MemPlace}(h:DataW.trod enc Tryz.prog w 0 (fun _=>true) true fuel 96 o.cells=some x) :
 ∃ L:List (List UInt8),L.length=o.ln∧L.length+Sx.sl L≤Rows.uptoBulk x.1∧RdS w (.slice o.la o.ln o.lc) L:=by
 obtain⟨xs,n,rfl,rfl,hl,hx,hf⟩:=DataW.trod_struct Tryz.underlying96 h;have hx8:xs.length=8:=hx;have f6:DataW.trod enc Tryz.prog w 0 (fun _=>true) true n 51 ((o.cells.drop 6).take (Tryz.prog.cellsOf 51))=xs[6]?:=hf 6 _ rfl;rw[List.getElem?_eq_getElem (by omega),Tryz.cells51] at f6;have hcs6:(o.cells.drop 6).take 1=[.slice o.la o.ln o.lc]:=rfl;rw[hcs6] at f6;have hb6:Rows.uptoBulk (xs[6]'(by omega)).1≤Rows.uptoBulk (DataW.agg (xs.map (·.1))):=by
  have:=vH (l:=xs.map (·.1)) (d:=(xs[6]'(by omega)).1) (List.mem_map.2 ⟨_,List.getElem_mem (by omega),rfl⟩);simp only[Rows.uptoBulk];omega
 rcases open_slice Tryz.underlying51 f6 with ⟨hcs,-⟩ | ⟨a,len,cap,m,n2,D,Pl,hcs,-,hl2,hm,hmm,hx6,hel⟩
 · simp only[List.cons.injEq,and_true,Value.slice.injEq] at hcs;obtain⟨h1,h2,h3⟩:=hcs;exact⟨[],by rw[h2];rfl,by simp[Sx.sl],⟨none,0,by rw[h1,h2,h3];rfl,fun j hj=>absurd hj (Nat.not_lt_zero _)⟩⟩
 · simp only[List.cons.injEq,and_true,Value.slice.injEq] at hcs;obtain⟨h1,h2,h3⟩:=hcs;simp only[if_true] at hmm;subst hmm;rw[Tryz.cells9] at hel;obtain⟨S,hS⟩:=choose_lt (α:=ByteArray) (p:=fun i s=>w.cells? 0 (a.add (i*1)) 1=some [.string s]∧D i=.lit (.string s.data.toList)) (fun i (hi:i<len)=>by
    obtain⟨cs',g1,g2⟩:=hel i (by omega);obtain⟨s,rfl,g3,-⟩:=DataW.trod_string Tryz.underlying9 g2;exact⟨s,g1,by injection g3⟩)
   have hLl:((List.range len).map fun i=>(S i).data.toList).length=len:=by simp
   refine⟨(List.range len).map fun i=>(S i).data.toList,by rw[hLl,h2],?_,?_⟩
   · have e1:((List.range len).map D)=((List.range len).map fun i=>(S i).data.toList).map fun s=>(DataW.lit (H:=H) (.string s)):=by
      rw[List.map_map];refine List.map_congr_left fun i hi=>?_;exact(hS i (List.mem_range.1 hi)).2
     have e2:=wX (H:=H) ((List.range len).map fun i=>(S i).data.toList);rw[←e1] at e2;have e3:Rows.uptoBulkAll ((List.range len).map D)≤Rows.uptoBulk (xs[6]'(by omega)).1:=by
      rw[hx6];simp only[Rows.uptoBulk];omega
     show _≤Rows.uptoBulk (DataW.agg (xs.map (·.1)));omega
   · refine⟨o.la,o.lc,by rw[hLl,h2],fun j hj=>?_⟩;rw[hLl] at hj;obtain⟨b,off,spot⟩:=a;have hc:∀ j,j<len→w.cell? ((⟨b,off,spot⟩:Addr).add (j*1))=some (.string (S j)):=fun j hj=>by
      obtain⟨-,hlen,hcell⟩:=World.cells?_some (hS j hj).1;have:=hcell 0 (by omega);rw[show ∀ a:Addr,a.add 0=a from fun a=>by unfold Addr.add;simp] at this;exact this
     have hspot:spot=none:=by
      have:=hc 0 (by omega)
      simpa[Addr.add] using World.cell?_spot this
     subst hspot;have hadd:∀ j,(⟨b,off,none⟩:Addr).add (j*1)=⟨b,off+j,none⟩:=fun j=>by
      rw[Nat.mul_one,Addr.add_lit]
     have hcj:=hc j hj;rw[hadd] at hcj;have hb:b<w.heap.size:=by
      by_cases hlt:b<w.heap.size
      · exact hlt
      · have hn:w.heap[b]? = none:=Array.getElem?_eq_none (by omega);simp[World.cell?,hn] at hcj
     refine⟨b,off,h1,hb,?_⟩;simp only[List.getElem_map,List.getElem_range];exact hcj
theorem UP {H:Type}(d:DataW H):1≤Rows.uptoBulk d:=by
 cases d with
 | lit l=>cases l <;> simp[Rows.uptoBulk]
 | _=>simp[Rows.uptoBulk]
theorem EV {H:Type}:∀ l:List (DataW H),l.length≤Rows.uptoBulkAll l
 | []=>Nat.zero_le _
 | d::r=>by
   have h1:=UP d;have h2:=EV r;simp only[Rows.uptoBulkAll,List.length_cons];omega
theorem O5 {n:Int}(h:(Lit.int .i64 n).wf=true) : -9223372036854775808≤n∧n≤9223372036854775807:=by
 simp[Lit.wf,IntKind.min,IntKind.max,IntKind.signed,IntKind.bits] at h;omega
theorem S3 {H:Type}{enc:TypeId×Value→H}{w:World}{fuel:Nat}{o:OpC}{x:DataW H×List MemPlace}(h:DataW.trod enc Tryz.prog w 0 (fun _=>true) true fuel 96 o.cells=some x):S8 o:=by
 obtain⟨xs,n,rfl,rfl,hl,hx,hf⟩:=DataW.trod_struct Tryz.underlying96 h;have hx8:xs.length=8:=hx;have f1:DataW.trod enc Tryz.prog w 0 (fun _=>true) true n 3 ((o.cells.drop 1).take (Tryz.prog.cellsOf 3))=xs[1]?:=hf 1 _ rfl;rw[List.getElem?_eq_getElem (by omega)] at f1;obtain⟨a1,e1,-,w1⟩:=DataW.trod_int Tryz.underlying3 f1;rw[Tryz.cells3] at e1;have hcs:(o.cells.drop 1).take 1=[.int .i64 o.n1]:=rfl;rw[hcs] at e1;simp only[List.cons.injEq,and_true,Value.int.injEq,true_and] at e1;subst e1;exact O5 w1
theorem all_in {H:Type}{enc:TypeId×Value→H}{W:World}{v:Value}{x:DataW H×List MemPlace}{fuel:Nat}(h:DataW.trod enc Tryz.prog W 0 (fun _=>true) true fuel 45 [v]=some x)(hL:gW W)(hbk:Rows.uptoBulk x.1≤1048576) :
 Calls Tryz.prog 4 #[v] W fun e w'=>e=.returned (.bool true)∧Below W.heap.size W w':=by
 rcases open_slice Tryz.underlying45 h with ⟨hcs,-⟩ | ⟨a,len,cap,m,n,D,Pl,hcs,-,hl,hm,hmm,hxx,hel⟩
 · simp only[List.cons.injEq,and_true] at hcs;subst hcs;exact qB none 0 W
 · simp only[List.cons.injEq,and_true] at hcs;subst hcs;simp only[if_true] at hmm;subst hmm;rw[Tryz.cells96] at hel;have inh:Inhabited OpC:=⟨⟨0,0,0,0,⟨#[]⟩,⟨#[]⟩,none,0,0,false⟩⟩
   have hbe:∀ i,i<len→Rows.uptoBulk (D i)≤1048576:=fun i hi=>by
    have h1:Rows.uptoBulk (D i)≤Rows.uptoBulkAll ((List.range len).map D):=vH (List.mem_map.2 ⟨i,List.mem_range.2 hi,rfl⟩);rw[hxx] at hbk;simp only[Rows.uptoBulk] at hbk;omega
   have hlen:len≤1048576:=by
    have h1:=EV ((List.range len).map D);rw[List.length_map,List.length_range] at h1;rw[hxx] at hbk;simp only[Rows.uptoBulk] at hbk;omega
   obtain⟨V,hV⟩:=choose_lt (α:=OpC) (p:=fun i o=>W.cells? 0 (a.add (i*8)) 8=some o.cells∧OpLs W o∧S8 o) (fun i (hi:i<len)=>by
    obtain⟨cs',h1,h2⟩:=hel i (by omega);obtain⟨o,rfl⟩:=m8 h2;obtain⟨L,g1,g2,g3⟩:=VE h2;have hb:=hbe i hi;dsimp only at g2;exact⟨o,h1,⟨L,g1,by omega,by omega,g3⟩,S3 h2⟩)
   obtain⟨b,off,spot⟩:=a;by_cases h0:len=0
   · subst h0;exact qB _ _ W
   · have hc:∀ j,j<len→∀ i v,((V j).cells)[i]? = some v→W.cell? ((⟨b,off,spot⟩:Addr).add (j*8) |>.add i)=some v:=fun j hj i v hv=>by
      obtain⟨-,hlen,hcell⟩:=World.cells?_some (hV j hj).1;have hi:i<8:=by rw[←hlen];exact(List.getElem?_eq_some_iff.1 hv).1
      rw[hcell i hi];exact hv
     have hspot:spot=none:=by
      have:=hc 0 (by omega) 0 _ rfl
      simpa[Addr.add] using World.cell?_spot this
     subst hspot;have hadd:∀ j i,((⟨b,off,none⟩:Addr).add (j*8)).add i=⟨b,off+j*8+i,none⟩:=fun j i=>by
      rw[Addr.add_lit,Addr.add_lit]
     have hb:b<W.heap.size:=by
      have:=hc 0 (by omega) 0 _ rfl;rw[hadd] at this;by_cases hlt:b<W.heap.size
      · exact hlt
      · have hn:W.heap[b]? = none:=Array.getElem?_eq_none (by omega);simp[World.cell?,hn] at this
     have hll:((List.range len).map V).length=len:=by simp
     have:=t8 ((List.range len).map V) b off m W hL ⟨hb,fun j hj i v hv=>by
      have hj':j<len:=by rw[←hll];exact hj
      have hg:((List.range len).map V)[j]=V j:=by simp
      rw[hg] at hv;have:=hc j hj' i v hv;rw[hadd] at this;exact this⟩ (fun o ho=>by
      obtain⟨i,hi,rfl⟩:=List.mem_map.1 ho;exact(hV i (List.mem_range.1 hi)).2) (by rw[hll];omega)
     rw[hll] at this;exact this
theorem BZ (H:Type)(enc:TypeId×Value→H)(W:World)(base:Nat)(args:Array Value)(ds gs:List (DataW H))(before:List MemPlace)
 (hval:∀ (j:Nat) t v,Tryz.f4.params[j]? = some t→args[j]? = some v→Value.okWide Tryz.prog W .any base t v)
 (hW:DataW.Whole enc Tryz.prog Tryz.f4.params.toList Rows.allSpec.vars false W args.toList ds gs before) (hk:Rows.uptoSmall H (ds++gs)=true) (hL:laidMetH Tryz.prog Rows.allUptoRow.laid W) :
 Calls Tryz.prog 4 args W fun e W'=>∃ v,e=.returned v∧Rows.allSpec.post enc Tryz.prog Tryz.f4 false true false false W args v W':=by
 have hW':=hW;obtain⟨p,q,hA0,hV,rfl,_,_⟩:=hW;have hA:DataW.TrodAll enc Tryz.prog W 0 (fun _=>true) true Tryz.f4.params.toList args.toList ds p:=hA0;rw[Tryz.params4] at hA hval;obtain⟨v0,d0,rfl,rfl,h0⟩:=trodAll_one hA;obtain⟨rfl,rfl⟩:=trodVars_none hV;have h0k:=h0;obtain⟨fuel,hf⟩:=h0;clear hA0;simp only[List.append_nil] at hW' hk;have hbk:Rows.uptoBulk d0≤1048576:=by
  have h:=of_decide_eq_true hk;simp only[Rows.uptoBulkAll] at h;omega
 have hlt:∀ x∈p,x.block<W.heap.size:=fun x hx=>by simpa using hW'.lt x hx
 rw[MakeChecks.laidMetH_plain _ _ _ (by kernel_rfl)] at hL;have hT:gW W:=utf8Tabs_of_readsT (U8Types.of196 Tryz.layValid) ax (UX ▸ Lib.laidMet.reads hL (.tail _ (.head _))) (RQ ▸ Lib.laidMet.reads hL (.head _));obtain⟨a0,len,cap,rfl⟩:=okWide_slice Tryz.underlying45 (hval 0 45 v0 rfl rfl);have hf':DataW.trod enc Tryz.prog W 0 (fun _=>true) true fuel 45 [.slice a0 len cap]=some (d0,p):=hf;refine(all_in hf' hT hbk).mono fun e W' ⟨he,hb⟩=>?_;subst he;exact⟨_,rfl,⟨_,_,_,[],_,[],hW',trodAll_mk1 (shut_bool Tryz.underlying4 true),trodAll_mk1 (Below.trod Tryz.laidOut (by kernel_rfl) (of_decide_eq_true (by kernel_rfl)) h0k hb hlt),rfl,hb.frame _,fun h=>by cases h⟩⟩
theorem all_lifted (os:Os)(started:os.Started)(H:Type)(enc:TypeId×Value→H)(F:Stop.Interp) :
 ReturnsInHanded {} Tryz.checked os 4 .any ((Rows.OpenSpec.upto Rows.allSpec).preRow enc Tryz.prog Tryz.f4 Rows.allUptoRow.domain false Rows.allUptoRow.laid) (((Rows.OpenSpec.upto Rows.allSpec).at F).post enc Tryz.prog Tryz.f4 false true false false):=by
 have hok:Input.okWideB Tryz.checked.prog ((World.laidAll Tryz.prog os Rows.allUptoRow.laid).forCall (fun _ _=>0) ⟨#[],#[.slice none 0 0],[]⟩) 4 ⟨#[],#[.slice none 0 0],[]⟩=true:=by kernel_rfl
 have hx:∃ places,DataW.whole enc Tryz.prog ((World.laidAll Tryz.prog os Rows.allUptoRow.laid).forCall (fun _ _=>0) ⟨#[],#[.slice none 0 0],[]⟩).memory Tryz.f4.params.toList Rows.allSpec.vars false #[Value.slice none 0 0].toList 8=some ([.nil],[],places):=⟨[],by kernel_rfl⟩
 obtain⟨places,hx⟩:=hx;refine returnsInHanded_of_row (C:=Tryz.checked) (s:=Rows.OpenSpec.upto Rows.allSpec) Tryz.own started (by kernel_rfl) Tryz.func4
  ⟨World.laidAll Tryz.prog os Rows.allUptoRow.laid,fun _ _=>0,⟨#[],#[.slice none 0 0],[]⟩,World.laidAll_os _ _ _,World.shaped_of_ZipB (by kernel_rfl) (by kernel_rfl),(Input.okWide_of_okWideB (base:=0) hok).1,(Input.okWide_of_okWideB hok).2,
    OpenSpec.preRow_of_cond 8 hx (by kernel_rfl) (fun k hk=>by cases hk;kernel_rfl) (by kernel_rfl) (by rw[MakeChecks.laidMetH_plain _ _ _ (by kernel_rfl)];exact laidMet_laidAll _ (by kernel_rfl) (by kernel_rfl)),
    by simp only[Assume.holds];exact⟨by simp,by simp,fun _=>Modest.zero,by simp,by simp⟩⟩ ?_
 intro W base args ds gs before hval hW _ hcond _ hL _ _;exact BZ H enc W base args ds gs before hval hW (hcond _ rfl) hL
theorem xC:Rows.AllUptoSaid :=
 OpenClaim.holds_of_cond 4 Tryz.f4 rfl rfl rfl rfl rfl rfl rfl ⟨rfl,rfl,rfl,rfl,rfl⟩ rfl rfl rfl rfl rfl (by kernel_rfl) Tryz.func4 SX
  (of_decide_eq_true (by kernel_rfl)) (by unfold Func.isWrapper;first | (rw[if_pos (by decide +kernel)];kernel_rfl) | (rw[if_neg (by decide +kernel)];exact⟨rfl,rfl⟩))
  (fun os started H enc _ F=>by rw[OpenClaim.pre_eq_preRow];exact all_lifted os started H enc F)
theorem all_card_holds:Rows.AllUptoCardSaid :=
 Claim7.holds_tied_plain_at .later [] _ _ _ _ xC (fun _ h=>by cases h) (by kernel_rfl) (fun _ h=>by cases h) allUpto_row_tie rfl ⟨rfl,rfl⟩ (by kernel_rfl) rfl
  (fun f fn hf hfn=>by
    obtain rfl:f=4:=Option.some.inj ((show Tryz.prog.funcNamed "suffix/suffixlaw.All" = some 4 by kernel_rfl).symm.trans hf) |>.symm;obtain rfl:fn=Tryz.f4:=(Option.some.inj (Tryz.func4.symm.trans hfn)).symm;exact⟨by kernel_rfl,fun j t ht=>by
     rw[Tryz.params4] at ht;have hm:t∈[45]:=by simpa using Array.mem_of_getElem? ht
     have hall:([45].all fun u=>!Tryz.prog.wantsStandIn u)=true:=by kernel_rfl
     exact(show Tryz.prog.wantsStandIn t=false by simpa using List.all_eq_true.1 hall t hm)⟩)
  (by kernel_rfl)
end Go.Proofs.YtgohllfpceeboabGreatDoor
