import Derived.Test.YtgohllfpceeboabGreatDoorAnay
import Derived.Test.YtgohllfpceeboabGreatDoorAnaz
import Derived.Deep.RegionHeldLaw
import Derived.Maps.OwnSet
set_option maxRecDepth 100000
set_option maxHeartbeats 4000000
namespace Go.Proofs.YtgohllfpceeboabGreatDoor
open Go.RowKit Go.Shelf
attribute [local go_sem] Oper.semAt_some
theorem QG (x:List UInt8)(c:UInt8)(h:∀ b∈x,b≠c):∀ k,k≤x.length→lastTo x c k = -1:=by
 intro k
 induction k with
 | zero=>intro _;rfl
 | succ k ih =>
   intro hk;have hg:x.getD k 0=x[k]'(by omega):=by simp[List.getD_eq_getElem?_getD,List.getElem?_eq_getElem (show k<x.length by omega)]
   simp only[lastTo];rw[if_neg (by rw[hg];exact h _ (List.getElem_mem _)),ih (by omega)]
theorem TQ (d x:List UInt8)(c:UInt8)(h:∀ b∈x,b≠c):∀ j,j≤x.length→lastTo (d++c::x) c (d.length+1+j)=d.length:=by
 intro j
 induction j with
 | zero =>
   intro _;simp only[lastTo];rw[if_pos (by simp)]
 | succ j ih =>
   intro hj;have hg:(d++c::x).getD (d.length+1+j) 0=x[j]'(by omega):=by
    rw[List.getD_eq_getElem?_getD,List.getElem?_append_right (by omega),show d.length+1+j-d.length=j+1 from by omega,List.getElem?_cons_succ,List.getElem?_eq_getElem (by omega)];rfl
   rw[show d.length+1+(j+1)=(d.length+1+j)+1 from by omega];simp only[lastTo];rw[if_neg (by rw[hg];exact h _ (List.getElem_mem _)),ih (by omega)]
theorem YI:∀ (r:List (List UInt8)),r≠[]→(∀ x∈r,∀ b∈x,b≠46)→fK (Sx.aA r.reverse)=r:=by
 intro r
 induction r with
 | nil=>intro hn;exact absurd rfl hn
 | cons x r ih =>
   intro hn hx;rw[List.reverse_cons,Sx.mX];have hx0:=hx x (by simp);by_cases hr:r=[]
   · subst hr;rw[if_pos (by simp)];exact wS x (by unfold eU;rw[QG x 46 hx0 _ (Nat.le_refl _)];omega)
   · rw[if_neg (by simpa using hr)];have hd:eU (Sx.aA r.reverse++46::x)=(Sx.aA r.reverse).length:=by
      unfold eU;rw[List.length_append,List.length_cons,show(Sx.aA r.reverse).length+(x.length+1)=(Sx.aA r.reverse).length+1+x.length from by omega];exact TQ _ x 46 hx0 _ (Nat.le_refl _)
     rw[wL _ (by rw[hd];omega),hd];rw[show(((Sx.aA r.reverse).length:Int)+1).toNat=(Sx.aA r.reverse).length+1 from by omega,Int.toNat_natCast,List.take_left' rfl,ih hr (fun y hy=>hx y (by simp[hy]))];rw[show Sx.aA r.reverse++46::x=(Sx.aA r.reverse++[46])++x from by simp,List.drop_left' (by simp)]
theorem LC (h:List (List UInt8))(hn:h≠[])(hx:∀ x∈h,∀ b∈x,b≠46):fK (Sx.aA h)=h.reverse:=by
 have:=YI h.reverse (by simpa using hn) (fun x hm=>hx x (List.mem_reverse.1 hm));rw[List.reverse_reverse] at this;exact this
theorem MD (r:List UInt8):(fK r).length≤r.length+1:=by
 have:∀ f r,(iS f r).length≤f+1:=by
  intro f
  induction f with
  | zero=>intro r;simp[iS]
  | succ f ih =>
    intro r;simp only[iS];split
    · simp
    · have:=ih (r.take (eU r).toNat);simp only[List.length_cons];omega
 exact this _ _
theorem l6 {w:World}{B B' n sz:Nat}{e:TypeId}{v:Value}{xs:List Value}(h:w.ownsRow B e sz v n xs)(hB:B'≤B):w.ownsRow B' e sz v n xs:=by
 refine⟨h.1,?_⟩;rcases h.2 with h2 | ⟨g,cap,cur,h1,h2,h3⟩
 · exact .inl h2
 · exact .inr ⟨g,cap,cur,h1,Nat.le_trans hB h2,h3⟩
structure ColAt (P:List (List UInt8)) (w:World) (b:Nat) (k:Nat) (W:World):Prop where
 kP:k≤P.length
 row:∃ v,Boxed W b 51 v∧W.ownsRow (b+1) 9 1 v k (bB (P.take k))
 bel:Below w.heap.size w W
 siz:b+1≤W.heap.size
theorem ColAt.own {P:List (List UInt8)}{w:World}{b C:Nat}(hC:w.heap.size≤C):OwnFrom C (ColAt P w b):=by
 intro k W W' row h hg hr;obtain⟨a1,⟨v,a4,a5⟩,a8,a9⟩:=h;have hne:∀ {b:Nat} {t:TypeId} {v:Value},Boxed W b t v→some b≠row:=fun hb e=>by
  obtain⟨_,o,ho,hc⟩:=hr _ e.symm;exact fN hb ho hc rfl
 exact⟨a1,⟨v,a4.kept hg (hne a4),pX a5 hg (fun r e=>(hr r e).2)⟩,a8.grown hg a8.size (fun r e=>by have:=(hr r e).1;omega),Nat.le_trans a9 hg.size⟩
theorem DL {ps:Array Tmp}{assign body:Code}{Q:Exit→Act→World→Prop}{a:Act}{w:World}(n:Nat)(h1:1≤n)(h2:1≤n-1)(s:ByteArray)(hs:s.size≤10000)(g:Operand)(hg:a.eval g=.func (.func 84) #[.string s] #[])
 (P:List (List UInt8)) (hP:P=fK s.data.toList) (hps:ps.size=1) (I:Nat→World→Prop) (Ix:World→Prop) (hI:OwnFrom w.heap.size I) (hIx:OwnFrom w.heap.size (fun (_:Unit) W=>Ix W)) (h0:I 0 w) (a₁:ByteArray→Act)
 (hassign:∀ (l:Nat) (x:ByteArray) (W:World) (K:Act→World→Prop),K (a₁ x) W →
   assign.wpIn (Fence.wide.inRound l) (n-1-1) Tryz.prog (Exit.then K (fun _ _ _=>False)) { tmps:=(ps.zip #[.string x]).foldl (fun t (p,v)=>t.setIfInBounds p v) a.tmps,defers:=[] } W)
 (hbody:∀ (l k:Nat) (h:k<P.length) (W:World),I k W→body.wpIn (Fence.wide.inRound l) (n-1-1) Tryz.prog (NC w.heap.size k I Ix W) (a₁ ⟨P[k].toArray⟩) W)
 (hdone:∀ (D:Nat) (W:World),w.heap.size≤D→I P.length W→W.heap[D]? = some (.deferred (some []))→Q .normal { a with defers:={ target:=.collected D,args:=#[] }::a.defers } W)
 (hstop:∀ (D:Nat) (W:World),w.heap.size≤D→Ix W→W.heap[D]? = some (.deferred (some []))→Code.ret.wpIn Fence.wide n Tryz.prog Q { a with defers:={ target:=.collected D,args:=#[] }::a.defers } W) :
 (Code.rangeFunc g ps assign body).wpIn Fence.wide n Tryz.prog Q a w:=by
 refine wpIn_rangeFunc ?_;intro fn hfn;obtain⟨rec,hrec⟩:∃ rec:LoopState→Option Code→Loop,rec=fun st pe=>{ state:=st,pending:=pe,fn:=fn,tmps:=a.tmps,params:=ps,assign:=assign,body:=body,defers:=w.heap.size }:=⟨_,rfl⟩
 obtain⟨W1,hW1⟩:∃ W1,(w.alloc (.deferred (some []))).alloc (.loop (rec .ready none))=W1:=⟨_,rfl⟩
 have hl1:W1.heap[w.heap.size+1]? = some (.loop (rec .ready none)):=by
  have:=World.alloc_heap_new (w.alloc (.deferred (some []))) (.loop (rec .ready none));rw[World.size_alloc,hW1] at this;exact this
 have hd1:W1.heap[w.heap.size]? = some (.deferred (some [])):=by
  rw[←hW1];exact(Below.heap_alloc _ _ _ (by rw[World.size_alloc];exact Nat.lt_succ_self _)).trans (World.alloc_heap_new w _)
 have hI1:I 0 W1:=by rw[←hW1];exact hI.alloc _ (hI.alloc _ h0)
 have hIx':∀ {W:World} {l:Nat} {o:Obj} (o':Obj),Ix W→w.heap.size≤l→W.heap[l]? = some o→o.isCells=false→Ix (W.putObj l o'):=fun o' h hl ho hc=>OwnFrom.putObj (s:=()) hIx o' h hl ho hc;refine⟨w.heap.size+1,[{ target:=.collected w.heap.size,args:=#[] }],W1,{ target:=.fn (.func 84) #[],args:=#[.string s,.func (.yield (w.heap.size+1)) #[] #[]] },W1,84,
  #[.string s,.func (.yield (w.heap.size+1)) #[] #[]],W1,?_,?_,fun _ _=>trivial,?_,fun _=>h1,?_⟩
 · rw[←hW1,hrec];exact run_enterLoop_outer _ _ _ _ _
 · simp only[resolve,hg];simp[go_sem]
 · have eg:∀ args w,(callFunc 84 args).run Tryz.prog w=.ok (.enter 84 args) w:=enters_of Tryz.func84 (by kernel_rfl) rfl;simp[invoke,go_sem,eg]
 · refine(tQ (n-1) h2 (w.heap.size+1) s hs P hP
    (fun k W=>I k W∧W.heap[w.heap.size+1]? = some (.loop (rec .ready none))∧W.heap[w.heap.size]? = some (.deferred (some [])))
    (fun W=>Ix W∧W.heap[w.heap.size+1]? = some (.loop (rec .done (some .ret)))∧W.heap[w.heap.size]? = some (.deferred (some []))) ?_ W1 ⟨hI1,hl1,hd1⟩).mono ?_
   · rintro k hk W ⟨hi,hl,hd⟩;have hlt:w.heap.size+1<W.heap.size:=(Array.getElem?_eq_some_iff.1 hl).1;have hy:=run_yield (P:=Tryz.prog) (args:=#[.string ⟨P[k].toArray⟩]) hl (by rw[hrec];exact hps.symm);rw[hrec] at hy;refine⟨fn,_,assign,body,hy,roundIn_of_wpIn hfn (hassign _ ⟨P[k].toArray⟩ W _ ⟨_,run_beginRound hl (by rw[hrec]),?_⟩)⟩;obtain⟨V,hV⟩:∃ V,W.putObj (w.heap.size+1) (.loop { rec .ready none with state:=.busy })=V:=⟨_,rfl⟩
     have hl2:V.heap[w.heap.size+1]? = some (.loop { rec .ready none with state:=.busy }):=by rw[←hV];exact World.putObj_heap_same hlt
     have hd2:V.heap[w.heap.size]? = some (.deferred (some [])):=by rw[←hV];exact(World.putObj_heap_other (by omega)).trans hd
     have hi2:I k V:=by rw[←hV];exact hI.putObj _ hi (by omega) hl rfl
     have fin:∀ (jump:Option Code) (W3:World),KeepsFrom w.heap.size V W3 →
      (Instr.endRound (w.heap.size+1) jump).run Tryz.prog W3=.ok (.bool jump.isNone) (W3.putObj (w.heap.size+1) (.loop (rec (if jump.isNone then .ready else .done) jump))) ∧
      W3.heap[w.heap.size+1]? = some (.loop { rec .ready none with state:=.busy }) ∧
      (W3.putObj (w.heap.size+1) (.loop (rec (if jump.isNone then .ready else .done) jump))).heap[w.heap.size+1]? = some (.loop (rec (if jump.isNone then .ready else .done) jump)) ∧
      (W3.putObj (w.heap.size+1) (.loop (rec (if jump.isNone then .ready else .done) jump))).heap[w.heap.size]? = some (.deferred (some [])):=by
      intro jump W3 hk3;have hl3:=hk3.same _ _ (by omega) hl2 rfl;have hr3:=run_endRound (P:=Tryz.prog) jump hl3;rw[hrec] at hr3 ⊢;rw[hrec] at hl3;exact⟨hr3,hl3,World.putObj_heap_same (Array.getElem?_eq_some_iff.1 hl3).1,(World.putObj_heap_other (by omega)).trans (hk3.same _ _ (Nat.le_refl _) hd2 rfl)⟩
     have hb:=hbody (w.heap.size+1) k hk V hi2;rw[←hV] at hb;refine wpIn_mono hb ?_;rw[hV];rintro e a3 W3 hp;cases e with
     | normal =>
       obtain⟨hk3,hi3⟩:=hp;obtain⟨hr,hl3,hl4,hd4⟩:=fin none W3 hk3;exact⟨_,_,hr,.inl ⟨rfl,hI.putObj _ hi3 (by omega) hl3 rfl,hl4,hd4⟩⟩
     | ret =>
       obtain⟨hk3,hi3⟩:=hp;obtain⟨hr,hl3,hl4,hd4⟩:=fin (some .ret) W3 hk3;exact⟨_,_,hr,.inr ⟨rfl,hIx' _ hi3 (by omega) hl3 rfl,hl4,hd4⟩⟩
     | exit id=>exact hp.elim
     | goto t=>exact hp.elim
     | panic ch=>exact hp.elim
     | outgrown=>exact hp.elim
   · rintro e W2 ⟨⟨v,rfl⟩,(⟨hi,hl,hd⟩ | ⟨hi,hl,hd⟩)⟩
     · refine⟨none,_,by have:=run_endLoop (P:=Tryz.prog) hl (by rw[hrec];simp);rw[hrec] at this;exact this,hdone _ _ (Nat.le_refl _) (hI.putObj _ hi (by omega) hl rfl) ((World.putObj_heap_other (by omega)).trans hd)⟩
     · refine⟨some .ret,_,by have:=run_endLoop (P:=Tryz.prog) hl (by rw[hrec];simp);rw[hrec] at this;exact this,hstop _ _ (Nat.le_refl _) (hIx' _ hi (by omega) hl rfl) ((World.putObj_heap_other (by omega)).trans hd)⟩
theorem K0 (s:ByteArray)(w:World)(P:List (List UInt8))(hs:s.size≤10000)(hP:P=fK s.data.toList) :
 Calls Tryz.prog 173 #[.slice none 0 0,.func (.func 84) #[.string s] #[]] w fun e w'=>∃ v,e=.returned v∧w'.ownsRow w.heap.size 9 1 v P.length (bB P)∧Below w.heap.size w w':=by
 refine(callsIn_wide (n:=10)).1 ?_;refine callsIn_of_wp_marks Tryz.func173 rfl trivial ?_ rfl;simp only[Tryz.ntmps173,List.size_toArray,List.length_cons,List.length_nil,Nat.reduceAdd,Nat.reduceSub,Array.replicate_succ,Array.replicate_zero,List.push_toArray,List.append_toArray,List.nil_append,List.cons_append];obtain⟨i0,hi,hz0,hz1,hz2⟩:=info_parts Tryz.info9;have HP:=hide hP;have hB3:Below w.heap.size w (w.alloc (.cells #[.slice none 0 0] 51)):=(Below.refl _ _).alloc (Nat.le_refl _) _;have hy4:=Boxed.new w 51 (.slice none 0 0);have hsz3:w.heap.size+1≤(w.alloc (.cells #[.slice none 0 0] 51)).heap.size:=by rw[World.size_alloc];exact Nat.le_refl _
 obtain⟨b,hb⟩:∃ b,w.heap.size=b:=⟨_,rfl⟩
 obtain⟨W3,hW3⟩:∃ W3,w.alloc (.cells #[.slice none 0 0] 51)=W3:=⟨_,rfl⟩
 have HI0:Hid (ColAt P w b 0 W3):=hide ⟨by omega,⟨.slice none 0 0,by rw[←hW3,←hb];exact hy4,World.ownsRow_nil _ _ _ _⟩,by rw[←hW3];exact hB3,by rw[←hW3,←hb];exact hsz3⟩;have hw3:w.heap.size≤W3.heap.size:=by rw[←hW3];exact hB3.size
 have HB:=hide hb;have HW3:=hide hW3;clear hP hB3 hy4 hsz3 hb hW3;gi_wp2
 rw[HW3.out,HB.out];refine DL 10 (by omega) (by omega) s hs (.tmp 6) rfl P HP.out rfl (ColAt P w b) (fun _=>False) (ColAt.own hw3) (fun _ _ _ _ h=>h.elim) HI0.out
  (fun x=>{ tmps:=#[Value.slice none 0 0,Value.func (Fn.func 84) #[Value.string s] #[],Value.pointer (some ⟨b,0,none⟩),undef,Value.slice none 0 0,.string x,Value.func (Fn.func 84) #[Value.string s] #[],.string x,undef,undef,undef,undef,undef],defers:=[] }) ?assign ?body ?done ?stop
 case assign =>
  intro l x W K hK;gi_wp2
  exact hK
 case body =>
  rintro l k hk W ⟨kP,⟨v,bv,hown⟩,bel,siz⟩;obtain⟨vp,vc,rfl⟩:=kZ hown;have c4:=(Boxed.alloc bv (.cells #[.string ⟨P[k].toArray⟩] 9)).cell;have hkl:k≤1000000:=by have:=MD s.data.toList;rw[←HP.out,aC] at this;omega
  obtain⟨X,hX⟩:∃ X:ByteArray,⟨P[k].toArray⟩=X:=⟨_,rfl⟩
  rw[hX] at c4 ⊢;have d4:=bv.cell;have hbw:w.heap.size≤b:=by rw[HB.out];exact Nat.le_refl _
  gi_wp2_with (gi_at_builtin;refine wpListIn_append_own _ rfl _ _ _ rfl (b+1) 9 i0 (.string ⟨#[]⟩) 1 16 Tryz.underlying51 hi hz0 hz1 hz2 rfl (by decide) _ _ _ rfl (hown.alloc _) ⟨_,0,none⟩ 1 1 [.string X] rfl rfl ?_ ?_ ?_ ?_ ?_ ?_)
  · exact cell_one_new _ _ _
  · simp[Value.oneCell']
  · unfold maxLen;omega
  · omega
  · rw[World.size_alloc];omega
  · intro v' w8 hown8 hgrow8 _;obtain⟨g',cap',rfl⟩:=ownsRow_succ hown8;have s4:Boxed w8 b 51 (.slice vp k vc):=(bv.alloc _).kept hgrow8 (Boxed.not_row bv (by decide) hown);have f4:=s4.cell;have f5:=s4.frozen;gi_wp2
    have hKO8:KeepsOthers W w8:=(KeepsOthers.alloc _ _).trans (KeepsOthers.of_grownBy hgrow8 (fun j o e ho=>by
     rcases(hown.alloc (.cells #[.string X] 9)).2 with ⟨h1,_⟩ | ⟨g,cap,cur,h1,h2,h3,h4⟩
     · rw[h1] at e;cases e
     · rw[h1] at e;cases e;rw[h3] at ho;cases ho;rfl))
    have hBe8:Below w.heap.size w w8:=(bel.alloc bel.size _).grown hgrow8 (by rw[World.size_alloc];exact Nat.le_succ_of_le bel.size) (fun q e=>by have:=(hown.lt q e).1;omega);have htk:P.take (k+1)=P.take k++[P[k]]:=List.take_succ_eq_append_getElem hk;refine⟨(hKO8.trans (KeepsOthers.setCell _ _ _)).from _,⟨hk,⟨_,s4.set _,?_⟩,hBe8.setCell (p:=⟨b,0,none⟩) hbw _,?_⟩⟩
    · rw[htk,gB];have e:bB [P[k]]=[.string X]:=by unfold bB;rw[List.map_cons,List.map_nil,hX]
      rw[e];exact hown8.kept (grownBy_setCell' w8 b _) (.inr (fun e=>by have:=(hown8.lt b e).1;omega))
    · have h1:=hgrow8.size;rw[World.size_alloc] at h1;rw[World.size_setCell];omega
 case done =>
  rintro D W hD ⟨_,⟨v,bv,hown⟩,bel,siz⟩ hK;rw[List.take_length] at hown;obtain⟨vp,vc,rfl⟩:=kZ hown;have d4:=bv.cell;gi_wp2
  refine⟨by simp,.inl ⟨_,_,rfl,run_takeDeferred hK,?_⟩⟩;have hbw:w.heap.size≤b:=by rw[HB.out];exact Nat.le_refl _
  refine⟨.slice vp P.length vc,by simp[results,Tryz.results173,go_sem],_,rfl,?_,?_⟩
  · refine l6 (hown.kept (grownBy_putObj' W D (.deferred none)) ?_) (by omega);rcases hown.2 with ⟨h1,_⟩ | ⟨g,cap,cur,h1,h2,h3,h4⟩
    · exact .inl (by rw[h1];rfl)
    · refine .inr (fun e=>?_);rw[h1] at e;cases e;rw[h3] at hK;cases hK
  · exact bel.grown (grownBy_putObj' W D (.deferred none)) bel.size (fun q e=>by cases e;omega)
 case stop =>
  rintro D W hD h;exact h.elim
theorem ar (s:ByteArray)(w:World)(P:List (List UInt8))(hs:s.size≤1000)(hP:P=fK s.data.toList) :
 Calls Tryz.prog 173 #[.slice none 0 0,.func (.func 84) #[.string s] #[]] w fun e w'=>∃ v,e=.returned v∧w'.ownsRow w.heap.size 9 1 v P.length (bB P)∧Below w.heap.size w w':=K0 s w P (by omega) hP
theorem I4 (s:ByteArray)(w:World)(P:List (List UInt8))(hs:s.size≤10000)(hP:P=fK s.data.toList) :
 Calls Tryz.prog 122 #[.func (.func 84) #[.string s] #[]] w fun e w'=>∃ v,e=.returned v∧w'.ownsRow w.heap.size 9 1 v P.length (bB P)∧Below w.heap.size w w':=by
 have HS:=hide (K0 s w P hs hP);clear hs hP;go_enter Tryz.func122,Tryz.ntmps122;go_wp2_with fail
 refine HS.out.mono ?_;rintro e w1 ⟨v,rfl,hown,hB⟩;obtain⟨vp,vc,rfl⟩:=kZ hown;go_wp2;go_ret;exact⟨_,rfl,hown,hB⟩
theorem bc (s:ByteArray)(w:World)(P:List (List UInt8))(hs:s.size≤1000)(hP:P=fK s.data.toList) :
 Calls Tryz.prog 122 #[.func (.func 84) #[.string s] #[]] w fun e w'=>∃ v,e=.returned v∧w'.ownsRow w.heap.size 9 1 v P.length (bB P)∧Below w.heap.size w w':=I4 s w P (by omega) hP
theorem DC (P:List (List UInt8)):Lib.join P [46]=Sx.aA P:=by
 cases P with
 | nil=>rfl
 | cons x r =>
   rw[Lib.join_cons];show x++(r.map ([46] ++ ·)).flatten=x++r.flatMap fun y=>46::y;rw[List.flatMap_def];rfl
theorem G5:∀ (f:Nat) (r:List UInt8),∀ x∈iS f r,x.length≤r.length:=by
 intro f
 induction f with
 | zero=>intro r x hx;simp only[iS,List.mem_singleton] at hx;rw[hx];exact Nat.le_refl _
 | succ f ih =>
   intro r x hx;simp only[iS] at hx;split at hx
   · rw[List.mem_singleton.1 hx];exact Nat.le_refl _
   · rcases List.mem_cons.1 hx with rfl | hx
     · rw[List.length_drop];omega
     · have:=ih _ x hx;rw[List.length_take] at this;omega
theorem xQ (M:Nat):∀ (q:List (List UInt8)),(∀ x∈q,x.length≤M)→(q.flatMap fun y=>46::y).length≤q.length*(M+1)
 | [],_=>by simp
 | x::q,h=>by
   have h1:=h x (by simp);have h2:=xQ M q (fun y hy=>h y (by simp[hy]));rw[List.flatMap_cons,List.length_append,List.length_cons,List.length_cons,Nat.succ_mul];omega
theorem uP (h:List (List UInt8))(M:Nat)(hx:∀ x∈h,x.length≤M):(Sx.aA h).length≤h.length*(M+1):=by
 cases h with
 | nil=>simp[Sx.aA]
 | cons x q =>
   have h1:=hx x (by simp);have h2:=xQ M q (fun y hy=>hx y (by simp[hy]));simp only[Sx.aA,List.length_append,List.length_cons,Nat.succ_mul];omega
theorem N8 (P:List (List UInt8))(j:Nat)(x:ByteArray)(h:(P.map fun p=>(⟨p.toArray⟩:ByteArray))[j]? = some x):(bB P)[j]? = some (.string x):=by
 unfold bB;rw[List.getElem?_map] at h ⊢;cases hp:P[j]? with
 | none=>rw[hp] at h;cases h
 | some p=>rw[hp] at h;simp only[Option.map_some,Option.some.injEq] at h ⊢;rw[h]
theorem TY (s:ByteArray)(w:World)(P:List (List UInt8))(hs:s.size≤10000)(hP:P=fK s.data.toList) :
 Calls Tryz.prog 77 #[.string s] w fun e w'=>e=.returned (.string ⟨(Sx.aA P).toArray⟩)∧Below w.heap.size w w':=by
 have HS:=hide (I4 s w P hs hP);have hPl:P.length≤10001:=by have:=MD s.data.toList;rw[←hP,aC] at this;omega
 have hP0:0<P.length:=by
  rw[hP];unfold fK;cases s.data.toList.length with
  | zero=>simp[iS]
  | succ m=>simp only[iS];split <;> simp
 have hdl:(Sx.aA P).length≤1000000000:=by
  have h1:=uP P 10000 (fun x hx=>by rw[hP] at hx;have:=G5 _ _ x hx;rw[aC] at this;omega);have h2:P.length*(10000+1)≤10001*10001:=Nat.mul_le_mul_right _ hPl;omega
 clear hP hs;go_enter Tryz.func77,Tryz.ntmps77;go_wp2_with fail
 refine HS.out.mono ?_;rintro e w1 ⟨v,rfl,hown,hB⟩;obtain⟨g,cap,hv,hgB,hgl⟩:∃ g cap,v=.slice (some ⟨g,0,none⟩) P.length cap∧P.length≤cap∧g<w1.heap.size:=by
  rcases hown.2 with ⟨_,h2⟩ | ⟨g,cap,cur,h1,h2,h3,h4,_⟩
  · omega
  · exact⟨g,cap,h1,h4,(Array.getElem?_eq_some_iff.1 h3).1⟩
 subst hv;have hmm:(P.map fun p=>(⟨p.toArray⟩:ByteArray)).map (·.data.toList)=P:=by rw[List.map_map];exact List.map_id _
 have hj:=Tryz.strings_Join g 0 cap (P.map fun p=>(⟨p.toArray⟩:ByteArray)) ⟨#[46]⟩ w1 (fun j x hx=>by
  have:=hown.cells (g:=g) rfl _ _ (N8 P j x hx);rw[Addr.add_lit] at this;exact this) hgl (by rw[List.length_map];omega) (by rw[List.length_map];exact hgB) (by rw[hmm];show(Lib.join P [46]).length≤_;rw[DC];omega)
 rw[hmm,show(⟨#[46]⟩:ByteArray).data.toList=[46] from rfl,DC,List.length_map] at hj;have HJ:=hide hj;clear hj;go_wp2_with fail
 refine HJ.out.mono ?_;rintro e w2 ⟨rfl,hB2⟩;have hBe:=hB.trans (hB2.mono hB.size);clear hB hB2 hown HJ;go_wp2;go_ret;exact⟨rfl,hBe⟩
theorem S9 (s:ByteArray)(w:World)(P:List (List UInt8))(hs:s.size≤1000)(hP:P=fK s.data.toList) :
 Calls Tryz.prog 77 #[.string s] w fun e w'=>e=.returned (.string ⟨(Sx.aA P).toArray⟩)∧Below w.heap.size w w':=TY s w P (by omega) hP
theorem XB {W:World}{b:Nat}{x y:UInt8}(h:W.heap[b]? = some (.cells #[.int .u8 x.toNat,.int .u8 y.toNat] 5 (0,0))):(convert 90 9 (.slice (some ⟨b,0,none⟩) 2 2)).run Tryz.prog W=.ok (.string ⟨[x,y].toArray⟩) W:=by
 refine dD (B:=0) (n:=2) (bs:=[x,y]) ⟨by simp[dO],.inr ⟨b,2,_,rfl,Nat.zero_le _,h,by omega,by unfold maxLen;omega,rfl,rfl⟩⟩
theorem WW {w w' w1:World}{o:Obj}(hB:Below w'.heap.size w' w1)(h:Below (w.heap.size+1) (w.alloc o) w'):Below (w.heap.size+1) (w.alloc o) w1:=h.trans (hB.mono (by have:=h.size;rw[World.size_alloc] at this;exact this))
theorem CG {w w1:World}{o:Obj}(h:Below (w.heap.size+1) (w.alloc o) w1):Below w.heap.size w w1:=((Below.refl _ w).alloc (Nat.le_refl _) o).trans (h.mono (Nat.le_succ _))
theorem Y5 (w:World)(o o2:Obj):((w.alloc o).alloc o2).drew.heap[w.heap.size+1]? = some o2:=by
 have:=heap_alloc_new (w.alloc o) o2;rw[World.size_alloc] at this;exact this
theorem JR {w w1:World}{o:Obj}{x y:UInt8}(hB:Below ((w.alloc o).alloc (.cells #[.int .u8 x.toNat,.int .u8 y.toNat] 5)).drew.heap.size ((w.alloc o).alloc (.cells #[.int .u8 x.toNat,.int .u8 y.toNat] 5)).drew w1):(convert 90 9 (.slice (some ⟨w.heap.size+1,0,none⟩) 2 2)).run Tryz.prog w1=.ok (.string ⟨[x,y].toArray⟩) w1 :=
 XB ((hB.block _ (by show _<((w.alloc o).alloc _).heap.size;rw[World.size_alloc,World.size_alloc];omega)).trans (Y5 w o _))
theorem V9 (r:Sx.Rl)(w:World)(hr:Sx.mJ r):Calls Tryz.prog 50 #[iL r] w fun e w'=>e=.returned (.string ⟨(Sx.aL r).toArray⟩)∧Below w.heap.size w w':=by
 obtain⟨h,k,sc⟩:=r;have hpd:=LC h hr.1.1 (fun x hx b hb=>Sx.fJ ((hr.1.2.2.2 x hx).2 b hb));have hdl:(Sx.aA h).length≤1000:=by
  have h1:=uP h 100 (fun x hx=>by have:=eZ h x hx;have h9:Sx.aM h≤61:=hr.1.2.2.1;omega);have h2:h.length≤6:=hr.1.2.1;have h3:h.length*(100+1)≤6*101:=Nat.mul_le_mul_right _ h2;omega
 unfold iL Sx.aL Sx.keyOf;dsimp only;obtain⟨D,hD⟩:∃ D:ByteArray,⟨(Sx.aA h).toArray⟩=D:=⟨_,rfl⟩
 have hDl:D.data.toList=Sx.aA h:=by rw[←hD]
 have hDz:D.size≤1000:=by rw[←aC,hDl];exact hdl
 have ht:=fun w=>S9 D w h.reverse hDz (by rw[hDl,hpd]);rw[hD];obtain⟨T,hT⟩:∃ T,Sx.aA h.reverse=T:=⟨_,rfl⟩
 rw[hT] at ht ⊢;have hTl:T.length≤1000:=by
  rw[←hT];have h1:=uP h.reverse 100 (fun x hx=>by have:=eZ h x (List.mem_reverse.1 hx);have h9:Sx.aM h≤61:=hr.1.2.2.1;omega);have h2:h.length≤6:=hr.1.2.1;rw[List.length_reverse] at h1;have h3:h.length*(100+1)≤6*101:=Nat.mul_le_mul_right _ h2;omega
 have hsum:T.length+2≤9223372036854775807:=by omega
 have hts:(⟨T.toArray⟩:ByteArray).size=T.length:=rfl;have hks:(⟨[k,sc].toArray⟩:ByteArray).size=2:=rfl;have happ:=bF T [k,sc];obtain⟨N,hN⟩:∃ N,h.length=N:=⟨_,rfl⟩
 rw[hN];have HTU:=hide ht;clear ht hT hN hD hDl hDz hdl hpd hr;go_enter Tryz.func50,Tryz.ntmps50;go_wp2_with fail
 have hbx0:∀ (x y z u:Value) (W:World),Below (w.heap.size+1) (w.alloc (.cells #[x,y,z,u] 82)) W→W.cell? ⟨w.heap.size,0,none⟩=some x∧W.cell? ⟨w.heap.size,1,none⟩=some y∧W.cell? ⟨w.heap.size,3,none⟩=some u:=fun x y z u W hb=>by
  have:=(hb.block w.heap.size (Nat.lt_succ_self _)).trans (heap_alloc_new _ _);obtain⟨⟨q0,q1,q2,q3⟩,_⟩:=iM this;exact⟨q0,q1,q3⟩
 have HBX:=hide hbx0;clear hbx0;have hcn:∀ W:World,(convert 90 9 (.slice (some ⟨W.heap.size,0,none⟩) 2 2)).run Tryz.prog (W.alloc (.cells #[.int .u8 k.toNat,.int .u8 sc.toNat] 5))=.ok (.string ⟨[k,sc].toArray⟩) (W.alloc (.cells #[.int .u8 k.toNat,.int .u8 sc.toNat] 5)):=fun W=>XB (heap_alloc_new W _);have hcm:∀ (W:World) (o:Obj),(convert 90 9 (.slice (some ⟨W.heap.size+1,0,none⟩) 2 2)).run Tryz.prog ((W.alloc o).alloc (.cells #[.int .u8 k.toNat,.int .u8 sc.toNat] 5)).drew=.ok (.string ⟨[k,sc].toArray⟩) ((W.alloc o).alloc (.cells #[.int .u8 k.toNat,.int .u8 sc.toNat] 5)).drew:=fun W o=>XB (Y5 W o _);go_region_held_law (fun w'=>w'.cell? ⟨w.heap.size,0,none⟩=some (.int .u8 k.toNat)∧w'.cell? ⟨w.heap.size,1,none⟩=some (.string D)∧w'.cell? ⟨w.heap.size,3,none⟩=some (.int .u8 sc.toNat)) (first | exact hS1 | go_keep) ((go_at_call 77;refine(HTU.out _).mono ?_;rintro e w1 ⟨rfl,hB1⟩;have hb1:Below (w.heap.size+1) (w.alloc (.cells #[.int .u8 k.toNat,.string D,.int .i64 N,.int .u8 sc.toNat] 82)) w1:=WW hB1 (by first | exact(Below.refl _ _).drew | exact((Below.refl _ _).alloc (by rw[World.size_alloc];exact Nat.le_refl _) _).drew);have hS1:=HBX.out _ _ _ _ w1 hb1;(try have hcv:=JR hB1)))
 all_goals (go_wp2;go_ret;refine⟨rfl,?_⟩;first | exact CG hb1 | exact(CG hb1).alloc (CG hb1).size _)
attribute [local go_sem] Oper.semAt_some
open Go.RowKit
theorem U9 (k:UInt8)(w:World):Calls Tryz.prog 142 #[.int .u8 k.toNat] w fun e w'=>e=.returned (.bool (decide (k=36∨k=42∨k=33)))∧w'=w:=by
 have hu:∀ n:UInt8,(k=n)=((k.toNat:Int)=(n.toNat:Int)):=fun n=>propext ⟨fun h=>by rw[h],fun h=>UInt8.toNat_inj.1 (by omega)⟩;rw[show decide (k=36∨k=42∨k=33)=decide ((k.toNat:Int)=36∨(k.toNat:Int)=42∨(k.toNat:Int)=33) by simp only[hu];rfl];obtain⟨n,hn⟩:∃ n:Int,(k.toNat:Int)=n:=⟨_,rfl⟩
 rw[hn];clear hn hu;go_enter Tryz.func142,Tryz.ntmps142;by_cases h1:n=36
 · subst h1;go_wp2;go_ret;exact⟨rfl,rfl⟩
 · by_cases h2:n=42
   · subst h2;go_wp2;go_ret;exact⟨rfl,rfl⟩
   · have e1:(n == 36)=false:=by simpa using h1
     have e2:(n == 42)=false:=by simpa using h2
     by_cases h3:n=33
     · subst h3;go_wp2;go_ret;exact⟨rfl,rfl⟩
     · have e3:(n == 33)=false:=by simpa using h3
       go_wp2;go_ret;exact⟨by simp[h1,h2,h3],rfl⟩
theorem U1 (k:UInt8)(w:World):Calls Tryz.prog 143 #[.int .u8 k.toNat] w fun e w'=>e=.returned (.bool (decide (k=105∨k=112)))∧w'=w:=by
 have hu:∀ n:UInt8,(k=n)=((k.toNat:Int)=(n.toNat:Int)):=fun n=>propext ⟨fun h=>by rw[h],fun h=>UInt8.toNat_inj.1 (by omega)⟩;rw[show decide (k=105∨k=112)=decide ((k.toNat:Int)=105∨(k.toNat:Int)=112) by simp only[hu];rfl];obtain⟨n,hn⟩:∃ n:Int,(k.toNat:Int)=n:=⟨_,rfl⟩
 rw[hn];clear hn hu;go_enter Tryz.func143,Tryz.ntmps143;by_cases h1:n=105
 · subst h1;go_wp2;go_ret;exact⟨rfl,rfl⟩
 · have e1:(n == 105)=false:=by simpa using h1
   by_cases h2:n=112
   · subst h2;go_wp2;go_ret;exact⟨rfl,rfl⟩
   · have e2:(n == 112)=false:=by simpa using h2
     go_wp2;go_ret;exact⟨by simp[h1,h2],rfl⟩
def kV (key h:List UInt8)(k sec:UInt8):Option Sx.Rl:=if (k=36∨k=42∨k=33)∧(sec=105∨sec=112) then (oK k (Sx.aA (fK h)) sec).filter (fun r=>Sx.aL r == key) else none
def BN (o:Option Sx.Rl)(w:World)(e:Ending)(w':World):Prop:=Below w.heap.size w w'∧∃ x,e=.returned (.tuple #[x,.bool o.isSome])∧(x=WG∨∃ r,x=iL r)∧∀ r,o=some r→x=iL r
theorem uH (key:List UInt8)(w:World)(h:key.length<2):Calls Tryz.prog 98 #[.string ⟨key.toArray⟩] w (BN none w):=by
 have hsz:(⟨key.toArray⟩:ByteArray).size=key.length:=rfl;go_enter Tryz.func98,Tryz.ntmps98;go_wp2
 (try simp only[Exit.inBlock,Exit.then])
 refine bodyPost_ret (v:=.tuple #[.agg #[.int .u8 0,.string ⟨#[]⟩,.int .i64 0,.int .u8 0],.bool false]) ?_ rfl ?_
 · rw[results_cell_tmp rfl];go_simp
 · exact⟨(Below.refl _ _).alloc (Nat.le_refl _) _,_,rfl,.inl rfl,fun r h=>by cases h⟩
theorem Y9 (key h:List UInt8)(k sec:UInt8)(w:World)(hw:gW w)(hk:key=h++[k,sec])(hl:key.length≤9000):Calls Tryz.prog 98 #[.string ⟨key.toArray⟩] w (BN (kV key h k sec) w):=by
 have hlen:key.length=h.length+2:=by rw[hk];simp
 obtain⟨D,hD⟩:∃ D:ByteArray,⟨key.toArray⟩=D:=⟨_,rfl⟩
 obtain⟨n,hn⟩:∃ n,h.length=n:=⟨_,rfl⟩
 have hsz:D.size=n+2:=by rw[←hD,←hn];exact hlen
 have g0:∀ x:n<D.size,D[n]'x=k:=by
  subst hD hn;intro x;show key.toArray[h.length]'x=k;simp[hk]
 have g1:∀ x:n+1<D.size,D[n+1]'x=sec:=by
  subst hD hn;intro x;show key.toArray[h.length+1]'x=sec;simp[hk]
 have hcut:D.extract 0 n=⟨h.toArray⟩:=by
  subst hD hn;apply ByteArray.ext;simp[hk,ByteArray.data_extract]
 rw[hD];have hn9:n≤9000:=by omega
 have i0:n<D.size:=by omega
 have i1:n+1<D.size:=by omega
 have HCUT:=hide hcut;have HD:=hide hD;have HK:=hide hk;have HN:=hide hn;clear hD hcut hk hn hlen hl;have HKO:=hide (fun w=>U9 k w);have HSO:=hide (fun w=>U1 sec w);obtain⟨o,ho⟩:∃ o,Obj.cells #[.int .u8 0,.string ⟨#[]⟩,.int .i64 0,.int .u8 0] 82=o:=⟨_,rfl⟩
 have hB0:Below w.heap.size w (w.alloc o):=(Below.refl _ _).alloc (Nat.le_refl _) _;have hbx0:(w.alloc o).heap[w.heap.size]? = some o:=heap_alloc_new _ _;rw[←ho] at hB0 hbx0;go_enter Tryz.func98,Tryz.ntmps98;go_wp2_with fail
 go_quiet ((fail))
 go_wp2_with fail
 have hb2:Below w.heap.size w ((w.alloc o).drewN nq):=Go.below_drewN (by rw[←ho];exact hB0) nq;have hx2:((w.alloc o).drewN nq).heap[w.heap.size]? = some o:=by rw[←ho];exact hbx0
 obtain⟨w2,hw2⟩:∃ w2,(w.alloc o).drewN nq=w2:=⟨_,rfl⟩
 rw[hw2] at hb2 hx2 ⊢;rw[←ho] at hx2;clear hw2 hB0 hbx0 g0 g1 i0 i1;clear ho;obtain⟨⟨q0,q1,q2,q3⟩,f0,f1,f2,f3⟩:=iM hx2;have HX2:=hide hx2;have HB2:=hide hb2;clear hx2 hb2;have HBAD:Hid (∀ W:World,Below w.heap.size w W→BN none w (.returned (.tuple #[.agg #[.int .u8 0,.string ⟨#[]⟩,.int .i64 0,.int .u8 0],.bool false])) W):=hide (fun W hW=>⟨hW,_,rfl,.inl rfl,fun r h=>by cases h⟩);refine(HKO.out _).mono ?_;rintro e w3 ⟨rfl,rfl⟩;by_cases hk1:k=36∨k=42∨k=33
 · rw[decide_eq_true hk1];go_wp2_with fail
   refine(HSO.out _).mono ?_;rintro e w3 ⟨rfl,rfl⟩;by_cases hs1:sec=105∨sec=112
   · rw[decide_eq_true hs1];have HE:Hid (kV key h k sec=(oK k (Sx.aA (fK h)) sec).filter (fun r=>Sx.aL r == key)):=hide (by unfold kV;rw[if_pos ⟨hk1,hs1⟩]);clear HBAD HKO HSO;obtain⟨T,hT⟩:∃ T:ByteArray,⟨(Sx.aA (fK h)).toArray⟩=T:=⟨_,rfl⟩
     have hTl:T.data.toList=Sx.aA (fK h):=by rw[←hT]
     have htu:=TY (D.extract 0 n) w3 (fK h) (by rw[HCUT.out];show h.length≤10000;rw[HN.out];omega) (by rw[HCUT.out]);rw[hT] at htu;have hnr:=fun W hW=>ak k T sec W hW;rw[hTl] at hnr;clear hT hTl;go_wp2_with fail
     refine htu.mono ?_;rintro e w4 ⟨rfl,hB4⟩;clear htu;have hw4:gW w4:=bA _ _ (bA _ _ hw HB2.out) hB4;go_wp2_with fail
     refine(hnr w4 hw4).mono ?_;rintro e w5 ⟨hB5,he5⟩;have hx5:=eG hB5 (eG hB4 HX2.out);obtain⟨⟨r0,r1,r2,r3⟩,k0,k1,k2,k3⟩:=iM hx5;have hs4:=hB4.size;have hb5:Below w.heap.size w w5:=(HB2.out.trans (hB4.mono HB2.out.size)).trans (hB5.mono (Nat.le_trans HB2.out.size hs4));have HB5:=hide hb5;have HX5:=hide hx5;clear hnr hB4 hB5 hw4 hx5 hb5 q0 q1 q2 q3 f0 f1 f2 f3;cases hnw:oK k (Sx.aA (fK h)) sec with
     | none =>
       rw[hnw] at he5;dsimp only at he5;subst he5;have HE2:Hid (kV key h k sec=none):=hide (by rw[HE.out,hnw];rfl);have hne:w.heap.size≠w5.heap.size:=fun e=>by have:=(Array.getElem?_eq_some_iff.1 HX5.out).1;omega
       have hlt5:=(Array.getElem?_eq_some_iff.1 HX5.out).1;have hz:(w5.alloc (.cells #[.int .u8 0,.string ⟨#[]⟩,.int .i64 0,.int .u8 0] 82)).drew.heap[w.heap.size]? = some (.cells #[.int .u8 0,.string ⟨#[]⟩,.int .i64 0,.int .u8 0] 82 (0,0)):=(heap_alloc_old _ _ hlt5).trans HX5.out;obtain⟨⟨a0,a1,a2,a3⟩,b0,b1,b2,b3⟩:=iM hz;clear hnw hz;unfold WG;go_wp2_with fail
       go_region
       all_goals
        go_wp2
        (try simp only[Exit.inBlock,Exit.then])
        refine bodyPost_ret (v:=.tuple #[.agg #[.int .u8 0,.string ⟨#[]⟩,.int .i64 0,.int .u8 0],.bool false]) ?_ rfl ?_
        · rw[results_cell_tmp rfl];go_simp
        · rw[HE2.out];exact⟨((set4 HB5.out).alloc (set4 HB5.out).size _).drew,_,rfl,.inl rfl,fun r h=>by cases h⟩
     | some r =>
       rw[hnw] at he5;dsimp only at he5;subst he5;have hok:Sx.mJ r:=by
        unfold oK at hnw;split at hnw
        · rename_i hc;cases hnw;exact⟨Sx.gX _ hc.1,hk1⟩
        · cases hnw
       have HE2:Hid (kV key h k sec=if Sx.aL r=key then some r else none):=hide (by rw[HE.out,hnw];simp[Option.filter]);have HPK:=hide (fun W=>V9 r W hok);obtain⟨rh,rk,rsc⟩:=r;have hra:iL (rh,rk,rsc)=.agg #[.int .u8 rk.toNat,.string ⟨(Sx.aA rh).toArray⟩,.int .i64 rh.length,.int .u8 rsc.toNat]:=rfl;rw[hra] at HPK ⊢;obtain⟨X,hX⟩:∃ X:ByteArray,⟨(Sx.aA rh).toArray⟩=X:=⟨_,rfl⟩
       obtain⟨M,hM⟩:∃ M,rh.length=M:=⟨_,rfl⟩
       rw[hX,hM] at HPK hra ⊢;have HRA:=hide hra;have hlt5:=(Array.getElem?_eq_some_iff.1 HX5.out).1;have hne:w.heap.size≠w5.heap.size:=by omega
       obtain⟨C,hC⟩:∃ C,Obj.cells #[.int .u8 rk.toNat,.string X,.int .i64 M,.int .u8 rsc.toNat] 82=C:=⟨_,rfl⟩
       have HST:Hid (∀ w6,Below (w5.alloc C).drew.heap.size (w5.alloc C).drew w6→((w6.cell? ⟨w5.heap.size,0,none⟩=some (.int .u8 rk.toNat)∧w6.cell? ⟨w5.heap.size,1,none⟩=some (.string X))∧(w6.cell? ⟨w5.heap.size,2,none⟩=some (.int .i64 M)∧w6.cell? ⟨w5.heap.size,3,none⟩=some (.int .u8 rsc.toNat)))∧w6.heap[w.heap.size]? = some (.cells #[.int .u8 0,.string ⟨#[]⟩,.int .i64 0,.int .u8 0] 82 (0,0))∧Below w.heap.size w w6):=hide (by
        intro w6 hB6;subst hC;have h1:(w5.alloc (.cells #[.int .u8 rk.toNat,.string X,.int .i64 M,.int .u8 rsc.toNat] 82)).drew.heap[w5.heap.size]? = some (.cells #[.int .u8 rk.toNat,.string X,.int .i64 M,.int .u8 rsc.toNat] 82):=heap_alloc_new _ _;obtain⟨⟨a0,a1,a2,a3⟩,_⟩:=iM (eG hB6 h1);have h2:(w5.alloc (.cells #[.int .u8 rk.toNat,.string X,.int .i64 M,.int .u8 rsc.toNat] 82)).drew.heap[w.heap.size]? = some (.cells #[.int .u8 0,.string ⟨#[]⟩,.int .i64 0,.int .u8 0] 82 (0,0)):=(heap_alloc_old _ _ hlt5).trans HX5.out;have h3:Below w.heap.size w (w5.alloc (.cells #[.int .u8 rk.toNat,.string X,.int .i64 M,.int .u8 rsc.toNat] 82)).drew:=(HB5.out.alloc HB5.out.size _).drew;exact⟨⟨⟨a0,a1⟩,a2,a3⟩,eG hB6 h2,h3.trans (hB6.mono h3.size)⟩)
       rw[←hC] at HST;obtain⟨KB,hKB⟩:∃ KB:ByteArray,⟨(Sx.aL (rh,rk,rsc)).toArray⟩=KB:=⟨_,rfl⟩
       rw[hKB] at HPK;have hEQ:(KB=D)=(Sx.aL (rh,rk,rsc)=key):=by
        rw[←hKB,←HD.out];exact propext ⟨fun h=>by injection h with h;exact Array.toList_inj.2 h |> fun x=>by simpa using x,fun h=>by rw[h]⟩
       clear hnw hok hX hM hra hC hKB;go_wp2_with fail
       go_region_held_law (fun w'=>(w'.cell? ⟨w5.heap.size,0,none⟩=some (.int .u8 rk.toNat)∧w'.cell? ⟨w5.heap.size,1,none⟩=some (.string X))∧(w'.cell? ⟨w5.heap.size,2,none⟩=some (.int .i64 M)∧w'.cell? ⟨w5.heap.size,3,none⟩=some (.int .u8 rsc.toNat))) (first | exact hS1 | go_keep) ((go_at_call 50;refine(HPK.out _).mono ?_;rintro e w6 ⟨rfl,hB6⟩;obtain⟨hS1,hx6,hb6⟩:=HST.out w6 hB6;obtain⟨⟨a0,a1,a2,a3⟩,b0,b1,b2,b3⟩:=iM hx6))
       have HB6:=hide hb6;have hcmp:(KB.toList == D.toList)=decide (KB=D):=by
        by_cases h:KB=D
        · subst h;simp
        · rw[decide_eq_false h,beq_eq_false_iff_ne];intro h2;rw[ByteArray.toList_eq,ByteArray.toList_eq] at h2;exact h (ByteArray.ext (Array.toList_inj.1 h2))
       have HCMP:=hide hcmp;have HEQ:=hide hEQ;clear hcmp hEQ hb6 hS1 hx6 hB6;go_wp2
       (try simp only[Exit.inBlock,Exit.then])
       refine bodyPost_ret (v:=.tuple #[.agg #[.int .u8 rk.toNat,.string X,.int .i64 M,.int .u8 rsc.toNat],.bool (KB.toList == D.toList)]) ?_ rfl ?_
       · rw[results_cell_tmp rfl];go_simp
       · rw[HE2.out];have hdk:decide (KB=D)=(if Sx.aL (rh,rk,rsc)=key then some (rh,rk,rsc) else none:Option Sx.Rl).isSome:=by
          by_cases h:Sx.aL (rh,rk,rsc)=key
          · rw[if_pos h,decide_eq_true (by rw[HEQ.out];exact h)];rfl
          · rw[if_neg h,decide_eq_false (by rw[HEQ.out];exact h)];rfl
         refine⟨set4 HB6.out,_,by rw[HCMP.out,hdk],.inr ⟨(rh,rk,rsc),HRA.out.symm⟩,fun r h=>?_⟩;split at h
         · cases h;exact HRA.out.symm
         · cases h
   · rw[decide_eq_false hs1];have HE:Hid (kV key h k sec=none):=hide (by unfold kV;rw[if_neg (fun h=>hs1 h.2)]);go_wp2
     (try simp only[Exit.inBlock,Exit.then])
     refine bodyPost_ret (v:=.tuple #[.agg #[.int .u8 0,.string ⟨#[]⟩,.int .i64 0,.int .u8 0],.bool false]) ?_ rfl ?_
     · rw[results_cell_tmp rfl];go_simp
     · rw[HE.out];exact HBAD.out _ (set4 HB2.out)
 · rw[decide_eq_false hk1];have HE:Hid (kV key h k sec=none):=hide (by unfold kV;rw[if_neg (fun h=>hk1 h.1)]);go_wp2
   (try simp only[Exit.inBlock,Exit.then])
   refine bodyPost_ret (v:=.tuple #[.agg #[.int .u8 0,.string ⟨#[]⟩,.int .i64 0,.int .u8 0],.bool false]) ?_ rfl ?_
   · rw[results_cell_tmp rfl];go_simp
   · rw[HE.out];exact HBAD.out _ (set4 HB2.out)
theorem T9 (n:Nat)(w:World)(hn:n<65536):Calls Tryz.prog 127 #[.int .i64 n] w fun e w'=>e=.returned (.slice (some ⟨w.heap.size,0,none⟩) 2 2)∧w'=w.alloc (.cells #[.int .u8 ((n:Int) / 256),.int .u8 ((n:Int) % 256)] 5):=by
 go_enter Tryz.func127,Tryz.ntmps127;go_wp2;go_ret;exact⟨rfl,rfl⟩
def M5 (w:World)(v:Value)(es:List Sx.aT):Prop:=∃ p cap,v=.slice p es.length cap∧∀ j (h:j<es.length),∃ b,p=some ⟨b,0,none⟩∧b<w.heap.size∧w.cell? ⟨b,j*2,none⟩=some (.int .u8 es[j].1.toNat)∧w.cell? ⟨b,j*2+1,none⟩=some (.int .i64 es[j].2)
def lX (es:List Sx.aT)(k:Nat):List UInt8:=UInt8.ofNat es.length::(es.take k).flatMap fun e=>e.1::Sx.two e.2
theorem sA (es:List Sx.aT):lX es es.length=Sx.bO es:=by unfold lX Sx.bO;rw[List.take_length]
theorem uM (es:List Sx.aT)(k:Nat)(h:k<es.length):lX es (k+1)=lX es k++[es[k].1]++Sx.two es[k].2:=by
 unfold lX;rw[List.take_succ_eq_append_getElem h,List.flatMap_append];simp
theorem yX (es:List Sx.aT)(k:Nat)(h:k≤es.length):(lX es k).length=1+k*3:=by
 induction k with
 | zero=>simp[lX]
 | succ k ih =>
   rw[uM es k (by omega),List.length_append,List.length_append,ih (by omega)];simp[Sx.two];omega
theorem OI (n:Nat)(h:n<65536):dO (Sx.two n)=[.int .u8 ((n:Int) / 256),.int .u8 ((n:Int) % 256)]:=by
 unfold dO Sx.two;simp only[List.map_cons,List.map_nil,UInt8.toNat_ofNat'];rw[show((n / 256 % 2 ^ 8:Nat):Int)=(n:Int) / 256 from by omega,show((n % 256 % 2 ^ 8:Nat):Int)=(n:Int) % 256 from by omega]
theorem GQ (w:World)(x:Value)(t:TypeId)(n:Nat)(hn:w.heap.size=n):∀ j u,[x][j]? = some u→(w.alloc (.cells #[x] t)).cell? ((⟨n,0,none⟩:Addr).add j)=some u:=by
 subst hn;exact cell_one_new w x t
theorem uA (w:World)(x y:Value)(t:TypeId)(n:Nat)(hn:w.heap.size=n):∀ (j:Nat) (u:Value),[x,y][j]? = some u→(w.alloc (.cells #[x,y] t)).cell? ((⟨n,0,none⟩:Addr).add j)=some u:=by
 subst hn;intro j u hj;rw[Addr.add_lit,Nat.zero_add,World.cell?_alloc_mark]
 simpa using hj
theorem A6 {wr w6:World}{x y z:Value}{t t2:TypeId}{row:Option Nat}(hg:((wr.alloc (.cells #[x,y] t)).alloc (.cells #[z] t2)).grownBy w6 row)(hne:some wr.heap.size≠row):w6.cell? ⟨wr.heap.size,1,none⟩=some y:=by
 have h1:(wr.alloc (.cells #[x,y] t)).cell? ⟨wr.heap.size,1,none⟩=some y:=by rw[World.cell?_alloc_mark];rfl
 have h2:=((Below.refl (wr.heap.size+1) (wr.alloc (.cells #[x,y] t))).alloc (by rw[World.size_alloc];exact Nat.le_refl _) (.cells #[z] t2)).cell (p:=⟨wr.heap.size,1,none⟩) (Nat.lt_succ_self _);exact(hg.cell_far ⟨wr.heap.size,1,none⟩ (by simp;omega) hne).trans (h2.trans h1)
theorem W9 (es:List Sx.aT)(v:Value)(w:World)(hv:M5 w v es)(hl:es.length≤1000)(ht:∀ e∈es,e.2<65536):Calls Tryz.prog 185 #[v] w fun e w'=>e=.returned (.string ⟨(Sx.bO es).toArray⟩)∧Below w.heap.size w w':=by
 obtain⟨i2,hi2,hx0,hx1,hx2⟩:=info_parts Tryz.info5;obtain⟨p,cap,rfl,hrd⟩:=hv;have HRD:=hide hrd;have HT:=hide ht;clear hrd ht;have hown0:(w.alloc (.cells #[.int .u8 ((es.length:Int) % 256)] 5)).ownsRow w.heap.size 5 1 (.slice (some ⟨w.heap.size,0,none⟩) 1 1) 1 (dO (lX es 0)):=by
  refine⟨by simp[dO,lX],.inr ⟨w.heap.size,1,#[.int .u8 ((es.length:Int) % 256)],rfl,Nat.le_refl _,heap_alloc_new _ _,by omega,by unfold maxLen;omega,rfl,?_⟩⟩;simp[dO,lX,UInt8.toNat_ofNat']
 have HOWN:=hide hown0;clear hown0;go_enter Tryz.func185,Tryz.ntmps185;go_wp2
 go_loopw [3,12] (fun tv iv wr=>∃ (k g c:Nat),iv=.int .i64 k∧k≤es.length∧tv=.slice (some ⟨g,0,none⟩) (1+k*3) c∧wr.ownsRow w.heap.size 5 1 tv (1+k*3) (dO (lX es k))∧Below w.heap.size w wr) (fun _ iv _=>(es.length-intOf iv).toNat)
 case atStart=>exact⟨0,w.heap.size,1,rfl,by omega,rfl,HOWN.out,(Below.refl _ _).alloc (Nat.le_refl _) _⟩
 case round =>
  obtain⟨k,g,c,rfl,hk,rfl,hown,hB⟩:=hrel;have hsz:=hB.size;by_cases hlt:k<es.length
  · obtain⟨b,rfl,hb,c1,c2⟩:=HRD.out k hlt;have d1:=(hB.cell (p:=⟨b,k*2,none⟩) hb).trans c1;have d2:=(hB.cell (p:=⟨b,k*2+1,none⟩) hb).trans c2;have htm:=uM es k hlt;have hto:=HT.out es[k] (List.getElem_mem hlt);obtain⟨⟨x,t⟩,he⟩:∃ x,es[k]=x:=⟨_,rfl⟩
    rw[he] at d1 d2 htm hto;dsimp only at d1 d2 htm hto;have hb2:=OI t hto;have HTM:=hide htm;have HB2:=hide hb2;clear c1 c2 he htm hb2;go_wp2_with (at_builtin;go_must (refine wpList_append_lies _ rfl _ _ _ rfl w.heap.size 5 i2 (.int .u8 0) 1 1 Tryz.underlying90 hi2 hx0 hx1 hx2 rfl (by decide) _ _ _ rfl ((hown.alloc _).alloc _) ⟨_,0,none⟩ 1 1 [.int .u8 x.toNat] rfl rfl (GQ _ _ _ _ (by simp)) (by simp[Value.oneCell']) (by omega) (by unfold maxLen;omega) (by omega) (by simp;omega) _ rfl ?_))
    intro g6 cap6 w6 hown6 hgrow6 hat6 hlt6;have d3:=A6 hgrow6 (show some wr.heap.size≠some g from fun e=>by have:=(hown.lt g rfl).2;cases e;omega);have hB6:Below w.heap.size w w6:=aH (hB.alloc hsz _) (by rw[World.size_alloc];omega) (hown.alloc _) hgrow6;have hs6:=hB6.size;clear hgrow6 hat6 hlt6 hown d1 d2;go_wp2_with fail
    refine(T9 t w6 hto).mono ?_;rintro e w7 ⟨rfl,rfl⟩;go_wp2_with (at_builtin;go_must (refine wpList_append_lies _ rfl _ _ _ rfl w.heap.size 5 i2 (.int .u8 0) 1 1 Tryz.underlying90 hi2 hx0 hx1 hx2 rfl (by decide) _ _ _ rfl (hown6.alloc _) ⟨_,0,none⟩ 2 2 [.int .u8 ((t:Int) / 256),.int .u8 ((t:Int) % 256)] rfl rfl (uA _ _ _ _ _ rfl) (by simp[Value.oneCell']) (by omega) (by unfold maxLen;omega) (by omega) (by simp;omega) _ rfl ?_))
    intro g8 cap8 w8 hown8 hgrow8 hat8 hlt8;have hB8:=aH hB6 hs6 hown6 hgrow8;have hown9:w8.ownsRow w.heap.size 5 1 (.slice (some ⟨g8,0,none⟩) (1+k*3+1+2) cap8) (1+k*3+1+2) (dO (lX es (k+1))):=by
     rw[HTM.out,eQ,eQ,HB2.out,List.append_assoc];exact hown8
    clear hown8 hgrow8 hat8 hlt8 hown6 hB6 d3;go_wp2;have e3:1+k*3+1+2=1+(k+1)*3:=by omega
    rw[e3] at hown9 ⊢;exact⟨⟨k+1,g8,cap8,by go_num,by omega,rfl,hown9,hB8⟩,by simp[intOf];omega⟩
  · have hkl:k=es.length:=by omega
    subst hkl;rw[sA] at hown;have hcv:=dD hown;have HB:=hide hB;clear hown hk hlt hB;go_wp2;go_ret;exact⟨rfl,HB.out⟩
def KyAt (w:World)(B:Nat)(v:Value)(K:List (List UInt8)):Prop:=∃ p cap,v=.slice p K.length cap∧K.length≤cap∧cap≤maxLen∧∀ j (h:j<K.length),∃ b off,p=some ⟨b,off,none⟩∧b<B∧w.cell? ⟨b,off+j,none⟩=some (.string ⟨K[j].toArray⟩)
theorem ay (c:UInt8)(d m:Nat)(K:List (List UInt8))(B:Nat)(v:Value)(w:World)(hv:KyAt w B v K)(hd:∀ k∈K,d<k.length)(hm:m≤K.length)(h1:∀ j (h:j<K.length) (h2:d<K[j].length),j<m→K[j][d]=c)(h2:∀ (h:m<K.length) (h2:d<K[m].length),K[m][d]≠c)(hl:K.length≤1000) :
 Calls Tryz.prog 126 #[.int .u8 c.toNat,.int .i64 d,v] w fun e w'=>e=.returned (.int .i64 m)∧w'=w:=by
 obtain⟨p,cap,rfl,_,_,hrd⟩:=hv;have HRD:=hide hrd;have H1:=hide h1;have H2:=hide h2;have HD:=hide hd;clear hrd h1 h2 hd;go_enter Tryz.func126,Tryz.ntmps126;go_wp2
 go_loop [7] (fun i=>∃ k:Nat,i=.int .i64 k∧k≤m) (fun i=>(m-intOf i).toNat)
 case atStart=>exact⟨0,rfl,by omega⟩
 case round =>
  obtain⟨k,rfl,hk⟩:=hrel;by_cases hlt:k<K.length
  · obtain⟨b,off,rfl,hb,hc⟩:=HRD.out k hlt;have hdl:=HD.out K[k] (List.getElem_mem hlt);have g1:=H1.out k hlt hdl;have g2:∀ h:k=m,K[k][d]≠c:=fun h=>by subst h;exact H2.out hlt hdl
    obtain⟨x,hx⟩:∃ x,K[k]=x:=⟨_,rfl⟩
    simp only[hx] at hc hdl g1 g2;obtain⟨y,hy⟩:∃ y,x[d]=y:=⟨_,rfl⟩
    have hg:∀ h:d<(⟨x.toArray⟩:ByteArray).size,(⟨x.toArray⟩:ByteArray)[d]'h=y:=fun h=>hy;rw[hy] at g1 g2;have hxs:(⟨x.toArray⟩:ByteArray).size=x.length:=rfl;clear hx hy;by_cases hkm:k<m
    · have hyc:=g1 hkm;subst hyc;clear g1 g2;go_wp2;exact⟨⟨k+1,by go_num,by omega⟩,by simp[intOf];omega⟩
    · have hyc:=g2 (by omega);have hn:((y.toNat:Int) == (c.toNat:Int))=false:=by
       rw[beq_eq_false_iff_ne];intro e;exact hyc (UInt8.toNat_inj.1 (by omega))
      have hn2:¬ (y.toNat:Int)=(c.toNat:Int):=by simpa using hn
      have hkm2:k=m:=by omega
      subst hkm2;clear g1 g2 hyc hkm hk;go_wp2;go_ret;exact⟨rfl,rfl⟩
  · have hkm:k=m:=by omega
    subst hkm;clear hk;go_wp2;go_ret;exact⟨rfl,rfl⟩
end Go.Proofs.YtgohllfpceeboabGreatDoor
