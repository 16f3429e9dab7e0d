import Derived.Test.YtgohllfpceeboaaGreatDoorWnbp
import Derived.Test.YtgohllfpceeboaaGreatDoorWnbe
import Derived.Sort.OwnSorted
set_option maxRecDepth 100000
set_option maxHeartbeats 1000000
namespace Go.Proofs.YtgohllfpceeboaaGreatDoor
open Go.RowKit
def rdL:Nat→List (List Sx.Edg)→List UInt8 × Bool→Option (List (List Sx.Edg) × (List UInt8 × Bool))
 | 0,tab,x=>some (tab,x)
 | m+1,tab,x=>if addA tab (eds (nx x).1.toNat (nx x).2).1=true then rdL m (tab ++ [(eds (nx x).1.toNat (nx x).2).1]) (eds (nx x).1.toNat (nx x).2).2 else none
def rdEnd:Option (List (List Sx.Edg) × (List UInt8 × Bool))→Option (List (List Sx.Edg))
 | some (t,([],false))=>some t
 | _=>none
theorem nx_short (l:List UInt8):(nx (l,true)).2.2=true:=by cases l <;> rfl
theorem nu_short (l:List UInt8):(nu (l,true)).2.2=true:=by
 unfold nu;obtain ⟨⟨c,r,sh⟩,h⟩:∃ q,nx (l,true)=q:=⟨_,rfl⟩
 have h1:=nx_short l;rw [h] at h1 ⊢;dsimp only at h1 ⊢;subst h1;exact nx_short r
theorem eds_short:∀ (k:Nat) (l:List UInt8),(eds k (l,true)).2.2=true
 | 0,_=>rfl
 | k+1,l=>by
   unfold eds;dsimp only;obtain ⟨⟨c,r,sh⟩,h⟩:∃ q,nx (l,true)=q:=⟨_,rfl⟩
   have h1:=nx_short l;rw [h] at h1 ⊢;dsimp only at h1 ⊢;subst h1;obtain ⟨⟨t,r2,sh2⟩,h2⟩:∃ q,nu (r,true)=q:=⟨_,rfl⟩
   have h3:=nu_short r;rw [h2] at h3 ⊢;dsimp only at h3 ⊢;subst h3;exact eds_short k r2
theorem rdL_short:∀ (m:Nat) (tab:List (List Sx.Edg)) (l:List UInt8),rdEnd (rdL m tab (l,true))=none
 | 0,_,l=>by cases l <;> rfl
 | m+1,tab,l=>by
   unfold rdL;split
   · obtain ⟨⟨c,r,sh⟩,h⟩:∃ q,nx (l,true)=q:=⟨_,rfl⟩
     have h1:=nx_short l;rw [h] at h1 ⊢;dsimp only at h1 ⊢;subst h1;obtain ⟨⟨es,r2,sh2⟩,h2⟩:∃ q,eds c.toNat (r,true)=q:=⟨_,rfl⟩
     have h3:=eds_short c.toNat r;rw [h2] at h3 ⊢;dsimp only at h3 ⊢;subst h3;exact rdL_short m _ r2
   · rfl
theorem eds_rd:∀ (k:Nat) (l:List UInt8),(∃ es r,Sx.rdEdges k l=some (es,r)∧eds k (l,false)=(es,(r,false)))∨(Sx.rdEdges k l=none∧(eds k (l,false)).2.2=true)
 | 0,l=>.inl ⟨[],l,rfl,rfl⟩
 | k+1,[]=>.inr ⟨rfl,by unfold eds;exact eds_short k _⟩
 | k+1,[_]=>.inr ⟨rfl,by unfold eds;exact eds_short k _⟩
 | k+1,[_,_]=>.inr ⟨rfl,by unfold eds;exact eds_short k _⟩
 | k+1,c :: h :: t :: b=>by
   have e1:eds (k+1) (c :: h :: t :: b,false)=((c,h.toNat*256+t.toNat) :: (eds k (b,false)).1,(eds k (b,false)).2):=rfl;have e2:Sx.rdEdges (k+1) (c :: h :: t :: b)=(Sx.rdEdges k b).map fun x=>((c,h.toNat*256+t.toNat) :: x.1,x.2):=rfl;rw [e1,e2];rcases eds_rd k b with ⟨es,r,h1,h2⟩ | ⟨h1,h2⟩
   · exact .inl ⟨_,r,by rw [h1];rfl,by rw [h2]⟩
   · exact .inr ⟨by rw [h1];rfl,h2⟩
theorem addA_iff (tab:List (List Sx.Edg)) (es:List Sx.Edg):addA tab es=true↔(es=[]↔tab.length=0)∧∀ e∈es,e.2<tab.length:=by
 unfold addA;rw [Bool.and_eq_true,List.all_eq_true];constructor
 · rintro ⟨h1,h2⟩;have h3:∀ e∈es,e.2<tab.length:=fun e he=>of_decide_eq_true (h1 e he);refine ⟨?_,h3⟩;cases tab with
   | nil =>
     cases es with
     | nil=>simp
     | cons e es=>exact absurd (h3 e (by simp)) (Nat.not_lt_zero _)
   | cons x tab =>
     cases es with
     | nil=>simp at h2
     | cons e es=>simp
 · rintro ⟨h1,h2⟩;refine ⟨fun e he=>decide_eq_true (h2 e he),?_⟩;cases tab with
   | nil=>rfl
   | cons x tab =>
     cases es with
     | nil=>simp at h1
     | cons e es=>rfl
theorem rdL_rd:∀ (m:Nat) (tab:List (List Sx.Edg)) (l:List UInt8),rdEnd (rdL m tab (l,false))=(Sx.rdTab m tab.length l).map (tab ++ ·)
 | 0,tab,[]=>by simp [rdL,rdEnd,Sx.rdTab]
 | 0,tab,_ :: _=>by simp [rdL,rdEnd,Sx.rdTab]
 | m+1,tab,[]=>by
   unfold rdL;split
   · exact rdL_short m _ _
   · rfl
 | m+1,tab,k :: r=>by
   have e1:rdL (m+1) tab (k :: r,false)=if addA tab (eds k.toNat (r,false)).1=true then rdL m (tab ++ [(eds k.toNat (r,false)).1]) (eds k.toNat (r,false)).2 else none:=rfl
   rw [e1];unfold Sx.rdTab;rcases eds_rd k.toNat r with ⟨es,r2,h1,h2⟩ | ⟨h1,h2⟩
   · rw [h1,h2];dsimp only;by_cases hc:(es=[]↔tab.length=0)∧∀ e∈es,e.2<tab.length
     · rw [if_pos ((addA_iff tab es).2 hc),if_pos hc,rdL_rd m (tab ++ [es]) r2,List.length_append,List.length_singleton,Option.map_map];congr 1;funext x;simp
     · rw [if_neg (fun h=>hc ((addA_iff tab es).1 h)),if_neg hc];rfl
   · rw [h1];dsimp only;obtain ⟨⟨es,r2,sh2⟩,h3⟩:∃ q,eds k.toNat (r,false)=q:=⟨_,rfl⟩
     rw [h3] at h2 ⊢;dsimp only at h2 ⊢;subst h2;split
     · exact rdL_short m _ _
     · rfl
theorem rdL_img (l:List UInt8):rdEnd (rdL (nu (l,false)).1 [] (nu (l,false)).2)=Sx.rdImg l:=by
 match l with
 | []=>exact rdL_short _ _ _
 | [_]=>exact rdL_short _ _ _
 | h :: t :: r =>
   have e:nu (h :: t :: r,false)=(h.toNat*256+t.toNat,(r,false)):=rfl;rw [e,rdL_rd];unfold Sx.rdImg;simp
open Go.RowKit Go.Maps
theorem two_ownP (w:World) (n:Nat) (h:n<65536):(w.alloc (.cells #[.int .u8 ((n:Int) / 256),.int .u8 ((n:Int) % 256)] 5)).ownsRow w.heap.size 5 1 (.slice (some ⟨w.heap.size,0,none⟩) 2 2) 2 (byV (Sx.two n)):=by
 refine ⟨by simp [byV,Sx.two],.inr ⟨w.heap.size,2,#[.int .u8 ((n:Int) / 256),.int .u8 ((n:Int) % 256)],rfl,Nat.le_refl _,heap_alloc_new _ _,by omega,by unfold maxLen;omega,rfl,?_⟩⟩;rw [byV_two n h];rfl
theorem ptwoB (n:Nat) (w:World) (hn:n<65536):Calls Tryz.prog 188 #[.int .i64 n] w fun e w'=>e=.returned (.slice (some ⟨w.heap.size,0,none⟩) 2 2)∧w'.ownsRow w.heap.size 5 1 (.slice (some ⟨w.heap.size,0,none⟩) 2 2) 2 (byV (Sx.two n))∧Below w.heap.size w w':=by
 refine (ptwo n w hn).mono ?_;rintro e w' ⟨rfl,rfl⟩;exact ⟨rfl,two_ownP w n hn,(Below.refl _ _).alloc (Nat.le_refl _) _⟩
theorem step_len {H:Type} {P:Program} {w:World} {ops:Array Oper} {o:Oper} {a:Act} {K:Act→World→Prop} {Q:Exit→Act→World→Prop} {E:Prop} (hgd:o.guard=none) (m:Operand) (t:TypeId) (hop:o.op=Op.call { callee:=Callee.builtin Builtin.len,args:=#[m],argTypes:=#[t] })
 (k e:TypeId) (ht:P.underlying t=some (.map k e)) (R:Value→Option (DataW H × List MemPlace)) (b n:Nat) (D:DataW H) (hm:a.eval m=.map (some b)) (hown:w.ownsMap P k R b n D) (N:Nat) (hN:Maps.size D=N)
 (hK:K (a.put o.dst (.int .i64 N)) w) :
 if Region.wanted o (yielded ops a.tmps)=true then Oper.wp P o a w K Q else E:=by
 have hw:Region.wanted o (yielded ops a.tmps)=true:=by simp [Region.wanted,hgd]
 rw [if_pos hw];subst hN;unfold Oper.wp;simp [execOp,hop,resolve,invoke,builtin,hm,hown.len ht o.type,Result.andThen];exact hK
theorem step_append_nothing {P:Program} {w:World} {ops:Array Oper} {o:Oper} {a:Act} {K:Act→World→Prop} {Q:Exit→Act→World→Prop} {E:Prop} (hgd:o.guard=none) (s x:Operand) (t:TypeId)
 (ho:o.op=.call { callee:=.builtin .append,args:=#[s,x],argTypes:=#[t,t] })
 (e:TypeId) (i:TypeInfo) (ht:P.underlying t=some (.slice e)) (hi:P.info? e=some i)
 (v:Value) (hs:a.eval s=v) (hx:a.eval x=.slice none 0 0) (hv:v=.slice none 0 0∨∃ g n cap,v=.slice (some ⟨g,0,none⟩) n cap∧n≤cap)
 (h:K (a.put o.dst v) w):if Region.wanted o (yielded ops a.tmps)=true then Oper.wp P o a w K Q else E:=by
 have hw:Region.wanted o (yielded ops a.tmps)=true:=by simp [Region.wanted,hgd]
 rw [if_pos hw];have hr:=run_append_nothing (P:=P) w t o.type e i ht hi v hv;unfold Oper.wp execOp;simp only [ho,resolve,invoke,builtin,Sem.run_bind,Sem.run_pure,Result.andThen_ok,List.map_toArray,List.map_cons,List.map_nil,hs,hx,hr];exact h
theorem far_box {w w':World} {b:Nat} {cs:Array Value} {t:TypeId} {fr:Nat × Nat} (hb:Below w.heap.size w w') (h:w.heap[b]? = some (.cells cs t fr)):w'.heap[b]? = some (.cells cs t fr):=(hb.block b (Array.getElem?_eq_some_iff.1 h).1).trans h
theorem psimg (B:Nat) (tab:List (List Sx.Edg)) (w:World) (hst:StA w B tab) (hn:tab.length≤60000):Calls Tryz.prog 137 #[.pointer (some ⟨B+1,0,none⟩)] w fun e w'=>e=.returned (.string ⟨(Sx.imgT tab).toArray⟩)∧Below w.heap.size w w':=by
 obtain ⟨i2,hi2,hx0,hx1,hx2⟩:=info_parts Tryz.info5;have hsb:=hst.siz;obtain ⟨⟨D,hown,hD⟩,⟨tv,hbox,hrow,hnil⟩,hlen,_⟩:=hst;have hsiz:=hD.size;have c0:w.cell? ⟨B+1,0,none⟩=some (.map (some B)):=by simp [World.cell?,hbox]
 have c1:w.cell? ⟨B+1,1,none⟩=some tv:=by simp [World.cell?,hbox]
 have hcc:∀ w',Below w.heap.size w w'→w'.cell? ⟨B+1,0,none⟩=some (.map (some B))∧w'.cell? ⟨B+1,1,none⟩=some tv:=fun w' hb=>by
  have hbx:=far_box hb hbox;exact ⟨by simp [World.cell?,hbx],by simp [World.cell?,hbx]⟩
 have hFb:=tell_bound tab hn hlen;have htw:=fun w=>ptwoB tab.length w (by omega);obtain ⟨F,hF⟩:∃ F,tab.flatMap Sx.tellE=F:=⟨_,rfl⟩
 rw [hF] at hrow hFb;have HI:Hid (Sx.imgT tab=Sx.two tab.length ++ F):=hide (by unfold Sx.imgT;rw [hF]);obtain ⟨N,hN⟩:∃ N,tab.length=N:=⟨_,rfl⟩
 rw [hN] at hn hown hsiz htw HI;obtain ⟨T2,hT2⟩:∃ T2,Sx.two N=T2:=⟨_,rfl⟩
 rw [hT2] at htw HI;have HTW:=hide htw;have HCC:=hide hcc;by_cases ht:tab=[]
 · have htv:=hnil ht;subst htv;have hF0:F=[]:=by rw [←hF,ht];rfl
   subst hF0;clear hF hlen hnil hrow hbox hN hD ht htw hT2 hcc;go_enter Tryz.func137,Tryz.ntmps137;go_wp2;go_region_held_law (fun w'=>w'.cell? ⟨B+1,0,none⟩=some (.map (some B))∧w'.cell? ⟨B+1,1,none⟩=some (.slice none 0 0)) (first | exact hS1 | go_keep) (first | (refine step_len rfl _ 259 rfl 9 3 Tryz.underlying259 _ B _ D rfl hown N hsiz ?_) | (go_at_call 188;refine (HTW.out _).mono ?_;rintro e w1 ⟨rfl,ho1,hB1⟩;have hBw:Below w.heap.size w w1:=((Below.refl _ w).drew).trans hB1;have hS1:=HCC.out w1 hBw;have hcv:(convert 58 9 (.slice (some ⟨w.heap.size,0,none⟩) 2 2)).run Tryz.prog w1=.ok (.string ⟨T2.toArray⟩) w1:=own_string ho1) | (refine step_append_nothing rfl _ _ _ rfl 5 i2 Tryz.underlying58 hi2 _ rfl rfl (.inr ⟨_,_,_,rfl,by omega⟩) ?_))
   all_goals (go_wp2;go_ret;rw [HI.out,List.append_nil];exact ⟨rfl,hBw⟩)
 · have hF0:0<F.length:=by
    rw [←hF];obtain ⟨x,r,rfl⟩:=List.exists_cons_of_ne_nil ht;simp [Sx.tellE]
   have htv:∃ g cap,tv=.slice (some ⟨g,0,none⟩) F.length cap:=by
    rcases hrow.2 with ⟨_,h2⟩ | ⟨g,cap,cur,h1,_⟩
    · omega
    · exact ⟨g,cap,h1⟩
   obtain ⟨g,cap,rfl⟩:=htv;have hcs:∀ w',Below w.heap.size w w'→∀ j u,(byV F)[j]? = some u→w'.cell? ((⟨g,0,none⟩:Addr).add j)=some u:=fun w' hb=>(own_later hrow hb).cells (g:=g) rfl;have hbl:(byV F).length=F.length*1:=by unfold byV;simp
   have h1c:∀ u∈byV F,u.oneCell'=true:=by
    intro u hu;unfold byV at hu;obtain ⟨x,_,rfl⟩:=List.mem_map.1 hu;rfl
   obtain ⟨Z,hZ⟩:∃ Z,F.length=Z:=⟨_,rfl⟩
   rw [hZ] at hF0 hFb c1 hbl hrow HCC;have HFN:Hid (byV T2 ++ byV F=byV (T2 ++ F)):=hide (byV_app _ _).symm;have HCS:=hide hcs;have hlt:B+1<w.heap.size:=by omega
   clear hF hlen hnil hrow hbox hN hD ht htw hT2 hcc hcs hZ;go_enter Tryz.func137,Tryz.ntmps137;go_wp2;go_region_held_law (fun w'=>w'.cell? ⟨B+1,0,none⟩=some (.map (some B))∧w'.cell? ⟨B+1,1,none⟩=some (.slice (some ⟨g,0,none⟩) Z cap)) (first | exact hS6 | exact hS1 | go_keep) (first | (refine step_len rfl _ 259 rfl 9 3 Tryz.underlying259 _ B _ D rfl hown N hsiz ?_) | (go_at_call 188;refine (HTW.out _).mono ?_;rintro e w1 ⟨rfl,ho1,hB1⟩;have hBw:Below w.heap.size w w1:=((Below.refl _ w).drew).trans hB1;have hS1:=HCC.out w1 hBw;have hsw:w.heap.size≤w1.heap.size:=hBw.size) | (refine step_append_lies _ rfl _ _ _ rfl w.heap.size 5 i2 (.int .u8 0) 1 1 Tryz.underlying58 hi2 hx0 hx1 hx2 rfl (by decide) _ 2 (byV T2) rfl ho1 ⟨g,0,none⟩ Z cap (byV F) rfl hbl (HCS.out _ hBw) h1c hF0 (by unfold maxLen;omega) (by omega) hsw _ rfl ?_;intro g6 cap6 w6 hown6 hgrow6 hat6 hlt6;rw [HFN.out] at hown6;have hcv:(convert 58 9 (.slice (some ⟨g6,0,none⟩) (2+Z) cap6)).run Tryz.prog w6=.ok (.string ⟨(T2 ++ F).toArray⟩) w6:=own_string hown6;have hB6:Below w.heap.size w w6:=hBw.grown hgrow6 hsw (fun r e=>(ho1.lt r e).1);have hS6:=HCC.out w6 hB6))
   all_goals (go_wp2;go_ret;rw [HI.out];exact ⟨rfl,hB6⟩)
end Go.Proofs.YtgohllfpceeboaaGreatDoor
namespace Sx
theorem merge_sortW (l:List Wd) (hn:l.Nodup):l.mergeSort (fun x y=>decide (x≤y))=sortW l:=by
 have hle:∀ a b:Wd,a≤b↔¬ b<a:=fun a b=>Iff.rfl;have hp:(l.mergeSort (fun x y=>decide (x≤y))).Perm l:=List.mergeSort_perm l _;have hs:(l.mergeSort (fun x y=>decide (x≤y))).Pairwise (fun a b=>decide (a≤b)=true):=by
  apply List.pairwise_mergeSort
  · intro a b c h1 h2;simp only [decide_eq_true_eq,hle] at h1 h2 ⊢;intro h3;rcases wlt_tri b a h1 with e | e
    · subst e;exact h2 h3
    · exact h2 (wlt_trans h3 e)
  · intro a b;simp only [Bool.or_eq_true,decide_eq_true_eq,hle];by_cases h:b<a
    · exact .inr (wlt_asym _ _ h)
    · exact .inl h
 refine sortW_one l _ hn ?_ (fun y=>hp.mem_iff);have hn2:(l.mergeSort (fun x y=>decide (x≤y))).Nodup:=hp.nodup_iff.2 hn;refine (hs.and hn2).imp ?_;rintro a b ⟨h1,h2⟩;simp only [decide_eq_true_eq,hle] at h1;rcases wlt_tri b a h1 with e | e
 · exact absurd e.symm h2
 · exact e
end Sx
namespace Go.Proofs.YtgohllfpceeboaaGreatDoor
open Go.RowKit Go.Maps
theorem pnst (w:World):Calls Tryz.prog 135 #[] w fun e w'=>e=.returned (.pointer (some ⟨w.heap.size+1,0,none⟩))∧StA w' w.heap.size []∧Below w.heap.size w w':=by
 have hmm:=@run_makeMap Tryz.prog;go_enter Tryz.func135,Tryz.ntmps135;go_wp2;go_ret;refine ⟨rfl,⟨⟨.map [],(World.ownsMap_made _ _ _ _).alloc _,mapIs_nil⟩,⟨.slice none 0 0,?_,World.ownsRow_nil _ _ _ _,fun _=>rfl⟩,by simp,by simp⟩,((Below.refl _ _).alloc (Nat.le_refl _) _).alloc (by rw [World.size_alloc];exact Nat.le_succ _) _⟩;have:=heap_alloc_new (w.alloc (.map #[] 0)) (.cells #[.map (some w.heap.size),.slice none 0 0] 261);rw [World.size_alloc] at this;exact this
theorem nil_neq (g n cap:Nat) (w:World):(binOp BinOp.eql 34 (.slice (some ⟨g,0,none⟩) n cap) (.slice none 0 0)).run Tryz.prog w=.ok (.bool false) w:=by
 exact Lib.run_eql_slice_nil _ _ _ _ _ _ _ _ Tryz.underlying34
theorem pclone (K:List (List UInt8)) (B:Nat) (v:Value) (w:World) (hv:w.ownsRow B 9 1 v K.length (stV K)) (hK:0<K.length) (hl:K.length≤1000):Calls Tryz.prog 133 #[v] w fun e w'=>(∃ g cap,e=.returned (.slice (some ⟨g,0,none⟩) K.length cap)∧w'.ownsRow w.heap.size 9 1 (.slice (some ⟨g,0,none⟩) K.length cap) K.length (stV K))∧Below w.heap.size w w':=by
 obtain ⟨i0,hi,hz0,hz1,hz2⟩:=info_parts Tryz.info9;obtain ⟨g,cap,rfl,hgl⟩:∃ g cap,v=.slice (some ⟨g,0,none⟩) K.length cap∧g<w.heap.size:=by
  rcases hv.2 with ⟨_,h2⟩ | ⟨g,cap,cur,h1,h2,h3,h4⟩
  · omega
  · exact ⟨g,cap,h1,(Array.getElem?_eq_some_iff.1 h3).1⟩
 have hcs:∀ w',Below w.heap.size w w'→∀ j u,(stV K)[j]? = some u→w'.cell? ((⟨g,0,none⟩:Addr).add j)=some u:=fun w' hb=>(own_later hv hb).cells (g:=g) rfl;have hbl:(stV K).length=K.length*1:=by unfold stV;simp
 have h1c:∀ u∈stV K,u.oneCell'=true:=by
  intro u hu;unfold stV at hu;obtain ⟨x,_,rfl⟩:=List.mem_map.1 hu;rfl
 have HCS:=hide hcs;obtain ⟨N,hN⟩:∃ N,K.length=N:=⟨_,rfl⟩
 rw [hN] at hbl hK hl ⊢;have hneq:=nil_neq g N cap;have how:(w.alloc (.cells #[] 9)).ownsRow w.heap.size 9 1 (.slice (some ⟨w.heap.size,0,none⟩) 0 0) 0 []:=⟨rfl,.inr ⟨w.heap.size,0,#[],rfl,Nat.le_refl _,heap_alloc_new _ _,Nat.le_refl _,Nat.zero_le _,rfl,rfl⟩⟩
 have hB0:Below w.heap.size w (w.alloc (.cells #[] 9)):=(Below.refl _ _).alloc (Nat.le_refl _) _;clear hcs hv hN;go_enter Tryz.func133,Tryz.ntmps133;go_wp2_with (at_builtin;go_must (refine wpList_append_lies _ rfl _ _ _ rfl w.heap.size 9 i0 (.string ⟨#[]⟩) 1 16 Tryz.underlying34 hi hz0 hz1 hz2 rfl (by decide) _ _ _ rfl how ⟨g,0,none⟩ _ _ (stV K) rfl hbl (HCS.out _ hB0) h1c (by omega) (by unfold maxLen;omega) (by omega) (by rw [World.size_alloc];omega) _ rfl ?_))
 intro g6 cap6 w6 hown6 hgrow6 hat6 hlt6;have hB6:Below w.heap.size w w6:=hB0.grown hgrow6 (by rw [World.size_alloc];omega) (fun r e=>(how.lt r e).1);clear hgrow6 hat6;go_wp2;go_ret;exact ⟨⟨g6,cap6,rfl,hown6⟩,hB6⟩
theorem ky_own {w:World} {B H:Nat} {g cap:Nat} {K:List (List UInt8)} (h:w.ownsRow B 9 1 (.slice (some ⟨g,0,none⟩) K.length cap) K.length (stV K)) (hH:g<H):KyAt w H (.slice (some ⟨g,0,none⟩) K.length cap) K:=by
 rcases h.2 with ⟨e0,_⟩ | ⟨g',cap',cur,e0,hb,hg,hn,hm,_⟩
 · cases e0
 · cases e0;refine ⟨_,_,rfl,hn,hm,fun j hj=>⟨g,0,rfl,hH,?_⟩⟩;have:=h.cells (g:=g) rfl j (.string ⟨K[j].toArray⟩) (by unfold stV;rw [List.getElem?_map,List.getElem?_eq_getElem hj];rfl);rw [Addr.add_lit] at this;exact this
theorem sorted_world {w:World} {g cap:Nat} {K Z:List (List UInt8)} {B nn:Nat} {os:Array Obj} (hv:w.ownsRow B 9 1 (.slice (some ⟨g,0,none⟩) K.length cap) K.length (stV K)) (hB:B≤w.heap.size) (hZ:Z.length=K.length) :
 Below B w (Go.Sort.grow (Go.Sort.putRow encStr (Go.Sort.ahead w nn) g 0 Z.toArray) os)∧KyAt (Go.Sort.grow (Go.Sort.putRow encStr (Go.Sort.ahead w nn) g 0 Z.toArray) os) w.heap.size (.slice (some ⟨g,0,none⟩) K.length cap) Z:=by
 have hgl:g<w.heap.size:=(hv.lt g rfl).2;refine ⟨(Below.refl B w).grown (grownBy_sorted _) hB (fun r e=>by cases e;exact (hv.lt g rfl).1),?_⟩;rcases hv.2 with ⟨e0,_⟩ | ⟨g',cap',cur,e0,hb,hg,hn,hm,hs,ht⟩
 · cases e0
 · cases e0;have h2:=ownsRow_sorted (n:=nn) (os:=os) hZ hb hg hn hm hs;rw [←hZ] at h2 ⊢;exact ky_own h2 hgl
theorem holds_own {w:World} {g cap:Nat} {K:List (List UInt8)} {B:Nat} (hv:w.ownsRow B 9 1 (.slice (some ⟨g,0,none⟩) K.length cap) K.length (stV K)):Go.Sort.Holds encStr w g 0 K.toArray:=by
 rcases hv.2 with ⟨e0,_⟩ | ⟨g',cap',cur,e0,hb,hg,hn,hm,hs,ht⟩
 · cases e0
 · cases e0;exact holds_of_block hg (by rw [Nat.mul_one] at ht;exact ht)
theorem pimage (K:List (List UInt8)) (B:Nat) (v:Value) (w:World) (hv:w.ownsRow B 9 1 v K.length (stV K)) (hK:0<K.length) (hl:K.length≤100) (hnd:K.Nodup) (hok:Sx.OkF 64 (Sx.sortW K)) (hsl:Sx.sl (Sx.sortW K)≤10000) :
 Calls Tryz.prog 78 #[v] w fun e w'=>e=.returned (.string ⟨(Sx.imgT (Sx.edgF 64 [] (Sx.sortW K)).1).toArray⟩)∧Below w.heap.size w w':=by
 have HC:=hide (pclone K B v w hv hK (by omega));obtain ⟨p,cap,rfl⟩:=own_shapeK hv;clear hv;go_enter Tryz.func78,Tryz.ntmps78;go_wp2_with fail
 refine HC.out.mono ?_;rintro e w1 ⟨⟨g,c1,rfl,hown⟩,hB1⟩;have hs1:=hB1.size;have hH:Go.Sort.Holds encStr w1 g 0 K.toArray:=holds_own hown;have hgl:g<w1.heap.size:=(hown.lt g rfl).2;have hso:=Tryz.slices_Sort_string g 0 c1 K w1 hH hgl (by omega);rw [Sx.merge_sortW K hnd] at hso;have hZl:(Sx.sortW K).length=K.length:=by rw [←Sx.merge_sortW K hnd];exact List.length_mergeSort _
 have hsw:∀ nn os,Below w.heap.size w1 (Go.Sort.grow (Go.Sort.putRow encStr (Go.Sort.ahead w1 nn) g 0 (Sx.sortW K).toArray) os)∧KyAt (Go.Sort.grow (Go.Sort.putRow encStr (Go.Sort.ahead w1 nn) g 0 (Sx.sortW K).toArray) os) w1.heap.size (.slice (some ⟨g,0,none⟩) K.length c1) (Sx.sortW K):=fun nn os=>by
  exact sorted_world (nn:=nn) (os:=os) hown hs1 hZl
 have HSO:=hide hso;have HSW:=hide hsw;obtain ⟨Z,hZ⟩:∃ Z,Sx.sortW K=Z:=⟨_,rfl⟩
 have HZ:=hide hZ;rw [hZ] at HSO HSW hok hsl hZl;clear hso hsw hZ hH hown;go_wp2_with fail
 refine HSO.out.mono ?_;rintro e w2 ⟨rfl,nn,os,hw2⟩;obtain ⟨hB2,hky⟩:=HSW.out nn os;rw [←hw2] at hB2 hky;clear hw2 HSO HSW;have hs2:=hB2.size;have hBx:=hB1.trans hB2;have HKY:=hide hky;clear hky hB1 hB2;go_wp2_with fail
 refine (pnst w2).mono ?_;rintro e w3 ⟨rfl,hst,hB3⟩;have hky3:KyAt w3 w2.heap.size (.slice (some ⟨g,0,none⟩) K.length c1) Z:=(KyAt.below (by
  obtain ⟨p',c',e1,e2,e3,e4⟩:=HKY.out;refine ⟨p',c',e1,e2,e3,fun j hj=>?_⟩;obtain ⟨b,off,f1,f2,f3⟩:=e4 j hj;exact ⟨b,off,f1,Nat.lt_of_lt_of_le f2 hs2,f3⟩) hB3)
 have hmap:Z.map (fun x=>List.drop 0 x)=Z:=by simp
 have hak:=pak w2.heap.size 64 Z 0 _ [] w3 hky3 (fun k _=>Nat.zero_le _) (by omega) (by rw [hmap];exact hok) hst (by rw [hmap];simp only [List.length_nil];omega) (by omega);rw [hmap] at hak;have hel:=Sx.edgF_len 64 [] Z hok (by intro es hes;cases hes);obtain ⟨q,hq⟩:∃ q,Sx.edgF 64 [] Z=q:=⟨_,rfl⟩
 rw [hq] at hak hel;have HQ:Hid (Sx.edgF 64 [] (Sx.sortW K)=q):=hide (by rw [HZ.out];exact hq);have HAK:=hide hak;have hB13:=hBx.trans (hB3.mono (by have:=hBx.size;omega));have hs3:=hB3.size;simp only [List.length_nil,Nat.zero_add] at hel;have hql:q.1.length≤60000:=by omega
 clear hak hq hmap hky3 hst hel HKY hB3 hBx;obtain ⟨N,hN⟩:∃ N,K.length=N:=⟨_,rfl⟩
 rw [hN] at hK HAK ⊢;go_wp2_with fail
 refine HAK.out.mono ?_;rintro e w4 ⟨hB4,_,rfl,hst4⟩;have hBy:=hB13.trans (hB4.mono (by omega));have hs4:=hBy.size;clear hB4 HAK hB13;go_wp2_with fail
 refine (psimg _ q.1 w4 hst4 hql).mono ?_;rintro e w5 ⟨rfl,hB5⟩;have hBz:=hBy.trans (hB5.mono hs4);clear hB5 hst4 hBy;go_wp2;go_ret;rw [HQ.out];exact ⟨rfl,hBz⟩
theorem pimage0 (w:World):Calls Tryz.prog 78 #[.slice none 0 0] w fun e w'=>e=.returned (.string ⟨(Sx.imgT []).toArray⟩)∧Below w.heap.size w w':=by
 have hcl:∀ w,Calls Tryz.prog 133 #[.slice none 0 0] w fun e w'=>e=.returned (.slice none 0 0)∧w'=w:=by
  intro w;have hneq:∀ w:World,(binOp BinOp.eql 34 (.slice none 0 0) (.slice none 0 0)).run Tryz.prog w=.ok (.bool true) w:=fun w=>Lib.run_eql_slice_nil _ _ _ _ _ _ _ _ Tryz.underlying34;go_enter Tryz.func133,Tryz.ntmps133;go_wp2;go_ret;exact ⟨rfl,rfl⟩
 have HCL:=hide (hcl w);clear hcl;go_enter Tryz.func78,Tryz.ntmps78;go_wp2_with fail
 refine HCL.out.mono ?_;rintro e w1 ⟨rfl,rfl⟩;go_wp2_with fail
 refine (Tryz.slices_Sort_string_none none 0 _).mono ?_;rintro e w2 ⟨rfl,rfl⟩;go_wp2_with fail
 refine (pnst _).mono ?_;rintro e w3 ⟨rfl,hst,hB3⟩;go_wp2_with fail
 refine (psimg _ [] w3 hst (by simp)).mono ?_;rintro e w5 ⟨rfl,hB5⟩;have hBz:=hB3.trans (hB5.mono hB3.size);clear hB5 hst hB3;go_wp2;go_ret;exact ⟨rfl,hBz⟩
open Go.RowKit
theorem sl_le (l:List Sx.Wd) (M:Nat) (h:∀ w∈l,w.length≤M):Sx.sl l≤l.length*M:=by
 induction l with
 | nil=>simp [Sx.sl]
 | cons x r ih =>
   have h1:=ih (fun w hw=>h w (by simp [hw]));have h2:=h x (by simp);have e:Sx.sl (x :: r)=x.length+Sx.sl r:=by simp [Sx.sl]
   rw [e,List.length_cons,Nat.succ_mul];omega
theorem prsimg (rs:List Sx.Rl) (v:Value) (w:World) (hv:PrAt w v rs) (hok:Sx.RlsOk rs):Calls Tryz.prog 52 #[v] w fun e w'=>e=.returned (.string ⟨(Sx.imgT (Sx.tabOf rs)).toArray⟩)∧Below w.heap.size w w':=by
 obtain ⟨i0,hi,hz0,hz1,hz2⟩:=info_parts Tryz.info9;obtain ⟨p,cap,rfl,hrd⟩:=hv;have HRD:=hide hrd;have HOK:=hide hok;have hN:=hok.many;clear hrd hok;go_enter Tryz.func52,Tryz.ntmps52;go_wp2
 go_loopw [3,8] (fun kv iv wr=>∃ k:Nat,iv=.int .i64 k∧k≤rs.length∧wr.ownsRow w.heap.size 9 1 kv k (stV ((rs.take k).map Sx.rlKey))∧(k=0→kv=.slice none 0 0)∧Below w.heap.size w wr) (fun _ iv _=>(rs.length-intOf iv).toNat)
 case atStart=>exact ⟨0,rfl,by omega,World.ownsRow_nil _ _ _ _,fun _=>rfl,Below.refl _ _⟩
 case round =>
  obtain ⟨k,rfl,hk,hown,hnil,hB⟩:=hrel;have hsz:=hB.size;by_cases hlt:k<rs.length
  · obtain ⟨b,rfl,hb,c1,c2,c3,c4⟩:=HRD.out k hlt;have d1:=(hB.cell (p:=⟨b,k*4,none⟩) hb).trans c1;have d2:=(hB.cell (p:=⟨b,k*4+1,none⟩) hb).trans c2;have d3:=(hB.cell (p:=⟨b,k*4+2,none⟩) hb).trans c3;have d4:=(hB.cell (p:=⟨b,k*4+3,none⟩) hb).trans c4;have hrl:=HOK.out.ok rs[k] (List.getElem_mem hlt);have hkt:(rs.take (k+1)).map Sx.rlKey=(rs.take k).map Sx.rlKey ++ [Sx.rlKey rs[k]]:=by rw [List.take_succ_eq_append_getElem hlt,List.map_append];rfl
    have hky:=fun w=>pkey rs[k] w hrl;obtain ⟨⟨qh,qk,qs⟩,hq⟩:∃ q,rs[k]=q:=⟨_,rfl⟩
    rw [hq] at d1 d2 d3 d4 hkt hky;have hra:ruA (qh,qk,qs)=.agg #[.int .u8 qk.toNat,.string ⟨(Sx.dotted qh).toArray⟩,.int .i64 qh.length,.int .u8 qs.toNat]:=rfl;rw [hra] at hky;dsimp only at d1 d2 d3 d4;obtain ⟨D,hD⟩:∃ D:ByteArray,⟨(Sx.dotted qh).toArray⟩=D:=⟨_,rfl⟩
    obtain ⟨N,hN2⟩:∃ N,qh.length=N:=⟨_,rfl⟩
    rw [hD] at d2 hky;rw [hN2] at d3 hky;obtain ⟨X,hX⟩:∃ X:ByteArray,⟨(Sx.rlKey (qh,qk,qs)).toArray⟩=X:=⟨_,rfl⟩
    rw [hX] at hky;have hst:stV ((rs.take (k+1)).map Sx.rlKey)=stV ((rs.take k).map Sx.rlKey) ++ [.string X]:=by
     rw [hkt,stV_app];unfold stV;rw [List.map_cons,List.map_nil,hX]
    have HST:=hide hst;have HKY:=hide hky;obtain ⟨kp,kc,rfl⟩:=own_shapeK hown;clear c1 c2 c3 c4 hkt hky hra hD hN2 hX hq hrl hst hnil;go_wp2_with fail
    refine (HKY.out _).mono ?_;rintro e w2 ⟨rfl,hB2⟩;have hBa:Below wr.heap.size wr w2:=((Below.refl _ wr).alloc (Nat.le_refl _) _).trans (hB2.mono (by rw [World.size_alloc];exact Nat.le_succ _));have hown2:=own_later hown hBa;have hB3:=hB.trans (hBa.mono hsz);have hsz3:=hB3.size;clear hB2 hBa hown hB;go_wp2_with (at_builtin;go_must (refine wpList_append_lies _ rfl _ _ _ rfl w.heap.size 9 i0 (.string ⟨#[]⟩) 1 16 Tryz.underlying34 hi hz0 hz1 hz2 rfl (by decide) _ _ _ rfl (hown2.alloc _) ⟨_,0,none⟩ 1 1 [.string X] rfl rfl (cell_one_new _ _ _) (by simp [Value.oneCell']) (by omega) (by unfold maxLen;omega) (by omega) (by simp;omega) _ rfl ?_;intro g6 cap6 w6 hown6 hgrow6 hat6 hlt6))
    exact ⟨⟨k+1,by go_num,by omega,by rw [HST.out];exact hown6,fun h=>by omega,below_app hB3 hsz3 hown2 hgrow6⟩,by simp [intOf];omega⟩
  · have hkl:k=rs.length:=by omega
    subst hkl;rw [List.take_length] at hown;clear hlt hk;by_cases h0:rs=[]
    · subst h0;have hkv:=hnil rfl;subst hkv;clear hnil hown;go_wp2_with fail
      refine (pimage0 wr).mono ?_;rintro e w2 ⟨rfl,hB2⟩;have hBe:=hB.trans (hB2.mono hsz);clear hB2;go_wp2;go_ret;exact ⟨rfl,hBe⟩
    · have hfree:=Sx.keys_free HOK.out.ok HOK.out.apart;have hko:=Sx.keys_ok HOK.out h0;have hso:=Sx.sortW_ok _ (Sx.free_nodup hfree);have hlen:(Sx.sortW (rs.map Sx.rlKey)).length=rs.length:=by
       rw [←Sx.merge_sortW _ (Sx.free_nodup hfree),List.length_mergeSort,List.length_map]
      have hslb:Sx.sl (Sx.sortW (rs.map Sx.rlKey))≤10000:=by
       have h1:=sl_le (Sx.sortW (rs.map Sx.rlKey)) 64 (fun x hx=>by
        obtain ⟨r,hr,rfl⟩:=List.mem_map.1 ((hso.2 x).1 hx);exact Nat.le_of_lt (Sx.rlKey_len (HOK.out.ok r hr)))
       rw [hlen] at h1;have h2:rs.length*64≤30*64:=Nat.mul_le_mul_right _ hN;omega
      have hpos:0<rs.length:=List.length_pos_iff.2 h0;have hml:(rs.map Sx.rlKey).length=rs.length:=List.length_map _;have hpi:=pimage (rs.map Sx.rlKey) w.heap.size _ wr (by rw [hml];exact hown) (by rw [hml];exact hpos) (by rw [hml];omega) (Sx.free_nodup hfree) hko.1 hslb;have htab:(Sx.edgF 64 [] (Sx.sortW (rs.map Sx.rlKey))).1=Sx.tabOf rs:=by unfold Sx.tabOf;rw [if_neg h0]
      rw [htab] at hpi;have HPI:=hide hpi;obtain ⟨kp,kc,rfl⟩:=own_shapeK hown;clear hfree hko hso hlen hslb hpos hml hpi htab hown hnil;go_wp2_with fail
      refine HPI.out.mono ?_;rintro e w2 ⟨rfl,hB2⟩;have hBe:=hB.trans (hB2.mono hsz);clear hB2;go_wp2;go_ret;exact ⟨rfl,hBe⟩
theorem preadS (l:List UInt8) (w:World) :
 Calls Tryz.prog 79 #[.string ⟨l.toArray⟩] w fun e w'=>Below w.heap.size w w'∧∃ sv,e=.returned (.tuple #[.agg #[sv],.bool (Sx.rdImg l).isSome])∧(∃ p n c,sv=.slice p n c)∧∀ tab,Sx.rdImg l=some tab→∃ vs,TabAt w' w.heap.size sv tab vs:=by
 rw [←rdL_img l];obtain ⟨⟨n,x⟩,hx⟩:∃ q,nu (l,false)=q:=⟨_,rfl⟩
 rw [hx];dsimp only;have hn:=nu_lt (l,false);rw [hx] at hn;dsimp only at hn;have HX:=hide hx;clear hx;go_enter Tryz.func79,Tryz.ntmps79;obtain ⟨w0,hw0⟩:∃ w0,((w.alloc (.cells #[.slice none 0 0] 128)).alloc (.cells #[.string ⟨l.toArray⟩,.bool false] 197)).alloc (.cells #[.slice none 0 0] 128)=w0:=⟨_,rfl⟩
 have hz0:w0.heap.size=w.heap.size+3:=by rw [←hw0];simp
 have hS0:SrcAt w0 (w.heap.size+1) l false:=by
  rw [←hw0];unfold SrcAt;rw [heap_alloc_old _ _ (by simp)];have:=heap_alloc_new (w.alloc (.cells #[.slice none 0 0] 128)) (.cells #[.string ⟨l.toArray⟩,.bool false] 197);rw [World.size_alloc] at this;exact this
 have hA0:AutAt w0 (w.heap.size+2) (w.heap.size+3) []:=by
  refine ⟨.slice none 0 0,[],?_,TabAt.nil _ _⟩;rw [←hw0];have:=heap_alloc_new ((w.alloc (.cells #[.slice none 0 0] 128)).alloc (.cells #[.string ⟨l.toArray⟩,.bool false] 197)) (.cells #[.slice none 0 0] 128);rw [World.size_alloc,World.size_alloc] at this;exact this
 have hR0:w0.heap[w.heap.size]? = some (.cells #[.slice none 0 0] 128 (0,0)):=by
  rw [←hw0,heap_alloc_old _ _ (by simp;omega),heap_alloc_old _ _ (by simp)];exact heap_alloc_new _ _
 have hB0:Below w.heap.size w w0:=by
  rw [←hw0];exact (((Below.refl _ _).alloc (Nat.le_refl _) _).alloc (by simp) _).alloc (by simp;omega) _
 have h1:=pnumber (w.heap.size+1) l false w0 hS0;rw [HX.out] at h1;dsimp only at h1;go_wp2_with fail
 refine h1.mono ?_;rintro e w1 ⟨rfl,hg1,hs1⟩;have hA1:=hA0.grown hg1 (by omega) (by omega);have hR1:w1.heap[w.heap.size]? = some (.cells #[.slice none 0 0] 128 (0,0)):=(hg1.block _ (by omega) (fun e=>by injection e;omega)).trans hR0;have hB1:Below w.heap.size w w1:=hB0.grown hg1 (by omega) (fun r e=>by cases e;omega);have hz1:w.heap.size+3≤w1.heap.size:=by have:=hg1.size;omega
 have HST:=hide (And.intro hs1 (And.intro hA1 (And.intro hR1 hB1)));clear h1 hg1 hs1 hA1 hR1 hB1 hA0 hR0 hB0 hS0 hw0 hz0;go_wp2_with fail
 go_loopw [9] (fun i wr=>∃ (k:Nat) (tab:List (List Sx.Edg)) (y:List UInt8 × Bool),i=.int .i64 k∧k≤n∧tab.length=k∧rdL n [] x=rdL (n-k) tab y∧w.heap.size+3≤wr.heap.size∧SrcAt wr (w.heap.size+1) y.1 y.2∧AutAt wr (w.heap.size+2) (w.heap.size+3) tab∧wr.heap[w.heap.size]? = some (.cells #[.slice none 0 0] 128 (0,0))∧Below w.heap.size w wr) (fun i _=>(n-intOf i).toNat)
 case atStart=>exact ⟨0,[],x,rfl,by omega,rfl,rfl,hz1,HST.out⟩
 case round =>
  obtain ⟨k,tab,y,rfl,hk,hlen,hrd,hzr,hs,hA,hR,hB⟩:=hrel;have HRD:=hide hrd;have HR:=hide hR;have HB:=hide hB;have HA:=hide hA;have HL:=hide hlen;clear hrd hR hB hA hlen HST hz1;obtain ⟨y1,y2⟩:=y;by_cases hlt:k<n
  · have hE:=pedges (w.heap.size+1) y1 y2 wr hs;clear hs;go_wp2_with fail
    refine hE.mono ?_;rintro e w2 ⟨v,es,z,hes,rfl,hg2,hs2,hown2⟩;have hz2:=hg2.size;have hel:es.length≤1000:=by
     have h1:=eds_len (nx (y1,y2)).1.toNat (nx (y1,y2)).2;rw [hes] at h1;have h2:=(nx (y1,y2)).1.toNat_lt;dsimp only at h1;omega
    have hst:rdL (n-k) tab (y1,y2)=if addA tab es=true then rdL (n-(k+1)) (tab ++ [es]) z else none:=by
     rw [show n-k=(n-(k+1))+1 by omega];show (if addA tab (eds (nx (y1,y2)).1.toNat (nx (y1,y2)).2).1=true then rdL (n-(k+1)) (tab ++ [(eds (nx (y1,y2)).1.toNat (nx (y1,y2)).2).1]) (eds (nx (y1,y2)).1.toNat (nx (y1,y2)).2).2 else none)=_;rw [hes]
    have HRD2:=hide (HRD.out.trans hst);have hA2:=HA.out.grown hg2 (by omega) (by omega);have hR2:=(hg2.block w.heap.size (by omega) (fun e=>by injection e;omega)).trans HR.out;have hB2:Below w.heap.size w w2:=HB.out.grown hg2 (by omega) (fun r e=>by cases e;omega);have hadd:=paadd (w.heap.size+2) (w.heap.size+3) tab es v w2 hA2 (own_base hown2 hzr) (by omega) (by omega) (by have:=HL.out;omega) hel;have HX2:=hide (And.intro hs2 (And.intro hR2 hB2));clear hE hes hg2 hs2 hown2 hA2 hR2 hB2 hst HRD HA HR HB;go_wp2_with fail
    refine hadd.mono ?_;rintro e w3 ⟨rfl,hB3,hK3,hA3⟩;have hz3:=hB3.size;have hs3:=hK3.src HX2.out.1;have hR3:=(hB3.block w.heap.size (by omega)).trans HX2.out.2.1;have hB4:=HX2.out.2.2.trans (hB3.mono (by omega));clear hadd hB3 hK3;have hv2:addA tab es=true∨addA tab es=false:=by cases addA tab es <;> simp
    rcases hv2 with hv2 | hv2
    · have HY:=hide (And.intro hs3 (And.intro (hA3 hv2) (And.intro hR3 hB4)));have HRD3:Hid (rdL n [] x=rdL (n-(k+1)) (tab ++ [es]) z):=hide (by rw [HRD2.out,if_pos hv2]);rw [hv2];clear hs3 hA3 hR3 hB4 HX2 HRD2 hv2;go_wp2;exact ⟨⟨k+1,tab ++ [es],z,by go_num,by omega,by rw [List.length_append,HL.out];rfl,HRD3.out,by omega,HY.out⟩,by simp [intOf];omega⟩
    · have HRD3:Hid (rdL n [] x=none):=hide (by rw [HRD2.out,if_neg (by rw [hv2];simp)]);have hq0:w3.cell? ⟨w.heap.size,0,none⟩=some (.slice none 0 0):=by simp [World.cell?,hR3]
      have hf0:w3.frozen? ⟨w.heap.size,0,none⟩=false:=by simp [World.frozen?,hR3]
      have HR3:=hide hR3;have HB4:=hide hB4;rw [hv2];clear hs3 hA3 hR3 hB4 HX2 HRD2 hv2;go_wp2
      (try simp only [Exit.inBlock,Exit.then])
      refine bodyPost_ret (v:=.tuple #[.agg #[.slice none 0 0],.bool false]) ?_ rfl ?_
      · rw [results_cell_tmp rfl];go_simp
      · rw [HRD3.out];exact ⟨HB4.out.setCell (p:=⟨w.heap.size,0,none⟩) (Nat.le_refl _) _,_,rfl,⟨_,_,_,rfl⟩,fun t h=>by cases h⟩
  · have hkn:k=n:=by omega
    subst hkn;rw [Nat.sub_self] at HRD;obtain ⟨sv,vs,hbox,htab⟩:=HA.out;obtain ⟨q0,q1,f0,f1⟩:=hs.cells;have hc0:wr.cell? ⟨w.heap.size+2,0,none⟩=some sv:=by simp [World.cell?,hbox]
    have hq0:wr.cell? ⟨w.heap.size,0,none⟩=some (.slice none 0 0):=by simp [World.cell?,HR.out]
    have hf0:wr.frozen? ⟨w.heap.size,0,none⟩=false:=by simp [World.frozen?,HR.out]
    have hRR:rdL k [] x=some (tab,(y1,y2)):=HRD.out;have HFIN:Hid (∀ W:World,W=wr.setCell ⟨w.heap.size,0,none⟩ sv∨W=(wr.setCell ⟨w.heap.size,0,none⟩ sv).drew→Below w.heap.size w W∧TabAt W w.heap.size sv tab vs):=hide (by
     have h0:Below w.heap.size w (wr.setCell ⟨w.heap.size,0,none⟩ sv):=HB.out.setCell (p:=⟨w.heap.size,0,none⟩) (Nat.le_refl _) _;have hk:∀ {t:TypeId} {z n:Nat} {v:Value} {xs:List Value},wr.ownsRow (w.heap.size+3) t z v n xs→(wr.setCell ⟨w.heap.size,0,none⟩ sv).ownsRow w.heap.size t z v n xs:=fun ho=>own_base (ho.kept (grown_setCell wr w.heap.size 0 sv) (.inr (fun e=>by have:=(ho.lt _ e).1;omega))) (by omega);have h1:TabAt (wr.setCell ⟨w.heap.size,0,none⟩ sv) w.heap.size sv tab vs:=⟨hk htab.row,htab.len,fun i hi h3=>hk (htab.each i hi h3)⟩
     rintro W (rfl | rfl)
     · exact ⟨h0,h1⟩
     · exact ⟨h0.drew,h1.row,h1.len,h1.each⟩)
    have HRR:=hide hRR;obtain ⟨sp,sc,rfl⟩:=own_shapeK htab.row;clear hbox htab hs hRR HRD HA HB HR;rcases y2 with _ | _
    · rcases y1 with _ | ⟨c,r⟩
      · go_wp2_with fail
        go_region_held (fun w'=>w'.cell? ⟨w.heap.size+1,0,none⟩=some (.string ⟨#[]⟩)∧w'.cell? ⟨w.heap.size+1,1,none⟩=some (.bool false)∧w'.cell? ⟨w.heap.size+2,0,none⟩=some (.slice sp tab.length sc)) (go_keep) ((fail))
        go_wp2
        (try simp only [Exit.inBlock,Exit.then])
        refine bodyPost_ret (v:=.tuple #[.agg #[.slice sp tab.length sc],.bool true]) ?_ rfl ?_
        · rw [results_cell_tmp rfl];go_simp
        · rw [HRR.out];exact ⟨(HFIN.out _ (.inr rfl)).1,_,rfl,⟨_,_,_,rfl⟩,fun t h=>by cases h;exact ⟨vs,(HFIN.out _ (.inr rfl)).2⟩⟩
      · go_wp2_with fail
        go_region_held (fun w'=>w'.cell? ⟨w.heap.size+1,0,none⟩=some (.string ⟨(c :: r).toArray⟩)∧w'.cell? ⟨w.heap.size+1,1,none⟩=some (.bool false)∧w'.cell? ⟨w.heap.size+2,0,none⟩=some (.slice sp tab.length sc)) (go_keep) ((fail))
        go_wp2
        (try simp only [Exit.inBlock,Exit.then])
        refine bodyPost_ret (v:=.tuple #[.agg #[.slice sp tab.length sc],.bool false]) ?_ rfl ?_
        · rw [results_cell_tmp rfl];go_simp
        · rw [HRR.out];exact ⟨(HFIN.out _ (.inr rfl)).1,_,rfl,⟨_,_,_,rfl⟩,fun t h=>by cases h⟩
    · have hnone:rdEnd (some (tab,(y1,true)))=none:=by cases y1 <;> rfl
      have d0:=(World.cell?_setCell_far wr ⟨w.heap.size,0,none⟩ ⟨w.heap.size+1,0,none⟩ (.slice sp tab.length sc) (by simp)).trans q0;have d1:=(World.cell?_setCell_far wr ⟨w.heap.size,0,none⟩ ⟨w.heap.size+1,1,none⟩ (.slice sp tab.length sc) (by simp)).trans q1;have d2:=(World.cell?_setCell_far wr ⟨w.heap.size,0,none⟩ ⟨w.heap.size+2,0,none⟩ (.slice sp tab.length sc) (by simp)).trans hc0;go_wp2_with fail
      go_region
      go_wp2
      (try simp only [Exit.inBlock,Exit.then])
      refine bodyPost_ret (v:=.tuple #[.agg #[.slice sp tab.length sc],.bool false]) ?_ rfl ?_
      · rw [results_cell_tmp rfl];go_simp
      · rw [HRR.out,hnone];exact ⟨(HFIN.out _ (.inr rfl)).1,_,rfl,⟨_,_,_,rfl⟩,fun t h=>by cases h⟩
theorem tabR_at {W:World} {B b:Nat} {sv:Value} {tab:List (List Sx.Edg)} {vs:List Value} (h:TabAt W B sv tab vs) (hb:W.heap.size≤b) (h0:tab≠[]):TabR W b sv tab:=by
 have hp:0<tab.length:=List.length_pos_iff.2 h0;rcases h.row.2 with ⟨_,e⟩ | ⟨g,cap,cur,hv,_,hg,h1,h2,h3,h4⟩
 · omega
 · refine ⟨g,cap,hv,Nat.lt_of_lt_of_le (Array.getElem?_eq_some_iff.1 hg).1 hb,fun i hi=>?_⟩;rw [Nat.mul_one] at h4;have hi2:i<vs.length:=by rw [h.len];exact hi
   have hci:W.cell? ⟨g,i,none⟩=some vs[i]:=by
    rw [Lib.cell_of_heap hg,←Array.getElem?_toList];have h5:(cur.toList.take tab.length)[i]? = vs[i]?:=by rw [h4]
    rw [List.getElem?_take_of_lt hi,List.getElem?_eq_getElem hi2] at h5;exact h5
   have he:=h.each i hi hi2;obtain ⟨p,c,hpc⟩:=own_shapeK he;refine ⟨p,c,by rw [hci,hpc],fun j hj=>?_⟩;rcases he.2 with ⟨_,e⟩ | ⟨e,cap2,cur2,hv2,_,he2,k1,k2,k3,k4⟩
   · omega
   · rw [hpc] at hv2;obtain rfl:p=some ⟨e,0,none⟩:=by injection hv2
     have hg2:=edV_get tab[i] j hj;have hk:∀ m,m<tab[i].length*2→cur2[m]? = (edV tab[i])[m]?:=fun m hm=>by
      have h5:(cur2.toList.take (tab[i].length*2))[m]? = (edV tab[i])[m]?:=by rw [k4]
      rw [List.getElem?_take_of_lt hm] at h5;rw [←Array.getElem?_toList,h5]
     refine ⟨e,rfl,Nat.lt_of_lt_of_le (Array.getElem?_eq_some_iff.1 he2).1 hb,?_,?_⟩
     · rw [Lib.cell_of_heap he2,hk _ (by omega)];exact hg2.1
     · rw [Lib.cell_of_heap he2,hk _ (by omega)];exact hg2.2
theorem TabR.below' {w w':World} {b b' B:Nat} {sv:Value} {tab:List (List Sx.Edg)} (h:TabR w b sv tab) (hb:Below B w w') (hB:b≤B) (hb':b≤b'):TabR w' b' sv tab:=by
 obtain ⟨g,cap,h1,h2,h3⟩:=h;refine ⟨g,cap,h1,by omega,fun i hi=>?_⟩;obtain ⟨p,c,h4,h5⟩:=h3 i hi;refine ⟨p,c,(hb.cell (p:=⟨g,i,none⟩) (Nat.lt_of_lt_of_le h2 hB)).trans h4,fun j hj=>?_⟩;obtain ⟨e,h6,h7,h8,h9⟩:=h5 j hj;exact ⟨e,h6,by omega,(hb.cell (p:=⟨e,j*2,none⟩) (Nat.lt_of_lt_of_le h7 hB)).trans h8,(hb.cell (p:=⟨e,j*2+1,none⟩) (Nat.lt_of_lt_of_le h7 hB)).trans h9⟩
theorem cell_has {W:World} {b i:Nat} {v:Value} (h:W.cell? ⟨b,i,none⟩=some v):b<W.heap.size:=by
 by_cases hlt:b<W.heap.size
 · exact hlt
 · have hn:W.heap[b]? = none:=Array.getElem?_eq_none (by omega);simp [World.cell?,hn] at h
theorem rdEdges_len:∀ (k:Nat) (b:List UInt8) (es:List Sx.Edg) (r:List UInt8),Sx.rdEdges k b=some (es,r)→es.length=k∧b.length=3*k+r.length
 | 0,b,es,r,h=>by
   simp only [Sx.rdEdges,Option.some.injEq,Prod.mk.injEq] at h;rw [←h.1,←h.2];simp
 | k+1,b,es,r,h=>by
   match b,h with
   | [],h=>simp [Sx.rdEdges] at h
   | [_],h=>simp [Sx.rdEdges] at h
   | [_,_],h=>simp [Sx.rdEdges] at h
   | c :: x :: z :: t,h =>
     simp only [Sx.rdEdges] at h;obtain ⟨⟨es',r'⟩,h1,h2⟩:=Option.map_eq_some_iff.1 h;obtain ⟨i1,i2⟩:=rdEdges_len k t es' r' h1;simp only [Prod.mk.injEq] at h2;rw [←h2.1,←h2.2];simp only [List.length_cons];omega
theorem rdTab_len:∀ (m n:Nat) (b:List UInt8) (t:List (List Sx.Edg)),Sx.rdTab m n b=some t→t.length=m∧(∀ es∈t,es.length≤255)∧b.length+(if n=0 then 3 else 0) ≥ 4*t.length
 | 0,n,b,t,h=>by
   unfold Sx.rdTab at h;split at h
   · obtain rfl:=Option.some.inj h;simp
   · cases h
 | m+1,n,b,t,h=>by
   cases b with
   | nil=>simp [Sx.rdTab] at h
   | cons k r =>
     simp only [Sx.rdTab] at h;split at h
     · cases h
     · rename_i es' r' he;split at h
       · rename_i hc;obtain ⟨t',h1,rfl⟩:=Option.map_eq_some_iff.1 h;obtain ⟨i1,i2,i3⟩:=rdTab_len m (n+1) r' t' h1;obtain ⟨j1,j2⟩:=rdEdges_len _ _ _ _ he;have hk:k.toNat<256:=k.toNat_lt;rw [if_neg (by omega)] at i3;refine ⟨by rw [List.length_cons,i1],fun es hes=>?_,?_⟩
         · rcases List.mem_cons.1 hes with rfl | hes
           · omega
           · exact i2 es hes
         · simp only [List.length_cons];by_cases h0:n=0
           · rw [if_pos h0];omega
           · rw [if_neg h0];have:es'≠[]:=fun e=>h0 (hc.1.1 e);have:=List.length_pos_iff.2 this;omega
       · cases h
theorem rdImg_len {b:List UInt8} {t:List (List Sx.Edg)} (h:Sx.rdImg b=some t) (hb:b.length≤8000):t.length≤3000∧∀ es∈t,es.length≤1000:=by
 unfold Sx.rdImg at h;split at h
 · obtain ⟨_,h2,h3⟩:=rdTab_len _ _ _ _ h;simp only [List.length_cons,if_true] at hb h3;exact ⟨by omega,fun es hes=>by have:=h2 es hes;omega⟩
 · cases h
theorem below_alloc' {w W:World} (h:Below w.heap.size w W) (o:Obj):Below w.heap.size w (W.alloc o):=h.alloc h.size o
end Go.Proofs.YtgohllfpceeboaaGreatDoor
