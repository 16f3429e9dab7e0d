import Derived.Test.YtgohllfpceeboaaGreatDoorWnbd
import Derived.ArgAppend
set_option maxRecDepth 100000
set_option maxHeartbeats 1000000
namespace Go.Proofs.YtgohllfpceeboaaGreatDoor
open Go.RowKit
def Lengthens (v v':Value) (n:Nat):Prop:=(∃ g cap,v=.slice (some ⟨g,0,none⟩) n cap∧v'=.slice (some ⟨g,0,none⟩) (n+1) cap)∨(∀ k,v.ownBlock=some k→v'.ownBlock≠some k)
theorem own_shorter {w:World} {B g n cap:Nat} {e:TypeId} {xs:List Value} {u:Value} (h:w.ownsRow B e 1 (.slice (some ⟨g,0,none⟩) (n+1) cap) (n+1) (xs ++ [u])) (hl:xs.length=n):w.ownsRow B e 1 (.slice (some ⟨g,0,none⟩) n cap) n xs:=by
 obtain ⟨h1,h2⟩:=h;rcases h2 with ⟨h2,_⟩ | ⟨g2,cap2,cur,hv,hg,hh,hc,hm,hs,ht⟩
 · cases h2
 · injection hv with e1 _ e2
   injection e1 with e1
   injection e1 with e1
   subst e1 e2;refine ⟨by rw [hl];simp,.inr ⟨g,cap,cur,rfl,hg,hh,by omega,hm,hs,?_⟩⟩;have:=congrArg (List.take n) ht;rw [List.take_take,Nat.mul_one,Nat.min_eq_left (by omega),List.take_left' hl] at this;rw [Nat.mul_one];exact this
theorem Lengthens.back {w w':World} {B n:Nat} {e:TypeId} {v v':Value} {xs:List Value} {u:Value} (h:Lengthens v v' n) (ho:w.ownsRow B e 1 v n xs) (ho':w'.ownsRow B e 1 v' (n+1) (xs ++ [u]))
 (hk:∀ (k:Nat) (cs:Array Value) (fr:Nat × Nat),w.heap[k]? = some (.cells cs e fr)→some k≠v'.ownBlock→w'.heap[k]? = some (.cells cs e fr)):w'.ownsRow B e 1 v n xs:=by
 rcases h with ⟨g,cap,rfl,rfl⟩ | h
 · exact own_shorter ho' (by have:=ho.1;omega)
 · obtain ⟨h1,h2⟩:=ho;refine ⟨h1,?_⟩;rcases h2 with h2 | ⟨g,cap,cur,hv,hg,hh,r⟩
   · exact .inl h2
   · exact .inr ⟨g,cap,cur,hv,hg,hk _ _ _ hh (fun e=>h g (by rw [hv];rfl) e.symm),r⟩
theorem run_append_keep {P:Program} (w:World) (t ty:TypeId) (base:Nat) (e:TypeId) (i:TypeInfo) (z:Value) (bytes:Nat) (ht:P.underlying t=some (.slice e)) (hi:P.info? e=some i) (hz:i.zero=some z)
 (hsize:i.size=1) (hby:i.bytes=bytes) (hzs:z.cells.size=1) (v:Value) (n:Nat) (xs:List Value) (hown:w.ownsRow base e 1 v n xs)
 (ad:Addr) (c:Nat) (u:Value) (hnews:w.cell? ad=some u) (h1:u.oneCell'=true) (h63:n+1≤maxLen) (hbytes:(n+1)*bytes≤140737488355328) (hbase:base≤w.heap.size) :
 ∃ v' w',(Builtin.append_ #[t,t] ty #[v,.slice (some ad) 1 c]).run P w=.ok v' w'∧w'.ownsRow base e 1 v' (n+1) (xs ++ [u])∧w'.ownsRow base e 1 v n xs∧w.grownBy w' v.ownBlock∧Lengthens v v' n∧∀ k,v'.ownBlock=some k→v.ownBlock=some k∨w.heap.size≤k:=by
 have hn:∀ (j:Nat) (y:Value),[u][j]? = some y→w.cell? (ad.add j)=some y:=fun j y hj=>by
  cases j with
  | zero=>simp at hj;subst hj;simpa [Addr.add] using hnews
  | succ j=>simp at hj
 have h1c:∀ y∈[u],y.oneCell'=true:=fun y hy=>by rw [List.mem_singleton.1 hy];exact h1
 obtain ⟨v',w',hr,ho,hg,_⟩:=run_append_own (P:=P) w base t ty e i z 1 bytes ht hi hz hsize hby hzs (by decide) v n xs hown ad 1 c [u] (by simp) hn h1c h63 hbytes hbase;have hxl:xs.length=n:=by have:=hown.1;omega
 rcases hown.2 with ⟨rfl,rfl⟩ | ⟨g,cap,cur,rfl,hb,hh,hc,hm,hs,htk⟩
 · obtain rfl:xs=[]:=List.eq_nil_of_length_eq_zero hxl;obtain ⟨v2,w2,hr2,ho2,_,_⟩:=run_append_own (P:=P) w w.heap.size t ty e i z 1 bytes ht hi hz hsize hby hzs (by decide) (.slice none 0 0) 0 [] (World.ownsRow_nil _ _ _ _) ad 1 c [u] (by simp) hn h1c h63 hbytes (Nat.le_refl _);rw [hr] at hr2;injection hr2 with e1 e2
   subst e1 e2;exact ⟨v',w',hr,ho,World.ownsRow_nil _ _ _ _,hg,.inr (fun k h=>by simp [Value.ownBlock] at h),fun k h=>.inr (ho2.lt k h).1⟩
 · have hgl:g<w.heap.size:=(Array.getElem?_eq_some_iff.1 hh).1;by_cases hroom:n+1≤cap
   · have hcell:∀ j,j < [u].length→(w.cell? ⟨g,0+n*i.size+j,none⟩).isSome=true∧w.frozen? ⟨g,0+n*i.size+j,none⟩=false:=fun j hj=>by
      have hj0:j=0:=by simp at hj;omega
      subst hj0;rw [hsize];have hlt:n<cur.size:=by omega
      constructor
      · simp [World.cell?,hh,hlt]
      · simp [World.frozen?,hh]
     have hr2:=run_append_room_cells (P:=P) w t ty e i ht hi g 0 n cap ad 1 c [u] (by rw [hsize];rfl) hn h1c hroom (fun j hj=>(hcell j hj).1) (fun j hj=>(hcell j hj).2);rw [hr] at hr2;injection hr2 with e1 e2
     subst e1;exact ⟨_,w',hr,ho,own_shorter ho hxl,hg,.inl ⟨g,cap,rfl,rfl⟩,fun k h=>.inl h⟩
   · have holds:∀ (j:Nat) (y:Value),xs[j]? = some y→w.cell? ((⟨g,0,none⟩:Addr).add j)=some y:=fun j y hj=>by
      have hjl:j<n:=by rw [←hxl];exact (List.getElem?_eq_some_iff.1 hj).1
      rw [←htk,List.getElem?_take_of_lt (by omega),Array.getElem?_toList] at hj;rw [Addr.add_lit,Nat.zero_add];simp [World.cell?,hh,hj]
     obtain ⟨v2,w2,hr2,ho2,hg2⟩:=run_append_arg_grows (P:=P) w t ty e i z 1 bytes ht hi hz hsize hby hzs (by decide) ⟨g,0,none⟩ n cap xs (by omega) holds ad 1 c [u] (by simp) hn (by omega) h63 hbytes;rw [hr] at hr2;injection hr2 with e1 e2
     subst e1 e2;exact ⟨v',w',hr,ho,hown.kept hg2 (.inr (fun e=>by cases e)),hg,.inr (fun k h e=>by
      have h2:=(ho2.lt k e).1;simp [Value.ownBlock] at h;omega),fun k h=>.inr (ho2.lt k h).1⟩
theorem step_append_keep {P:Program} {w:World} {ops:Array Oper} {o:Oper} {a:Act} {K:Act→World→Prop} {Q:Exit→Act→World→Prop} {E:Prop} (hgd:o.guard=none) (s x:Operand) (t:TypeId)
 (ho:o.op=.call { callee:=.builtin .append,args:=#[s,x],argTypes:=#[t,t] })
 (base:Nat) (e:TypeId) (i:TypeInfo) (z:Value) (bytes:Nat) (ht:P.underlying t=some (.slice e)) (hi:P.info? e=some i) (hz:i.zero=some z)
 (hsize:i.size=1) (hby:i.bytes=bytes) (hzs:z.cells.size=1) (v:Value) (n:Nat) (xs:List Value) (hs:a.eval s=v) (hown:w.ownsRow base e 1 v n xs)
 (ad:Addr) (c:Nat) (u:Value) (hx:a.eval x=.slice (some ad) 1 c) (hnews:w.cell? ad=some u) (h1:u.oneCell'=true) (h63:n+1≤maxLen) (hbytes:(n+1)*bytes≤140737488355328) (hbase:base≤w.heap.size)
 (h:∀ v' w',w'.ownsRow base e 1 v' (n+1) (xs ++ [u])→w'.ownsRow base e 1 v n xs→w.grownBy w' v.ownBlock→Lengthens v v' n→(∀ k,v'.ownBlock=some k→v.ownBlock=some k∨w.heap.size≤k)→K (a.put o.dst v') w') :
 if Region.wanted o (yielded ops a.tmps)=true then Oper.wp P o a w K Q else E:=by
 have hw:Region.wanted o (yielded ops a.tmps)=true:=by simp [Region.wanted,hgd]
 rw [if_pos hw];obtain ⟨v',w',hr,h2,h3,h4,h5,h6⟩:=run_append_keep (P:=P) w t o.type base e i z bytes ht hi hz hsize hby hzs v n xs hown ad c u hnews h1 h63 hbytes hbase;unfold Oper.wp execOp;simp only [ho,resolve,invoke,builtin,Sem.run_bind,Sem.run_pure,Result.andThen_ok,List.map_toArray,List.map_cons,List.map_nil,hs,hx,hr];exact h v' w' h2 h3 h4 h5 h6
def TabR (w:World) (b:Nat) (sv:Value) (tab:List (List Sx.Edg)):Prop:=∃ g cap,sv=.slice (some ⟨g,0,none⟩) tab.length cap∧g<b∧∀ i (h:i<tab.length),∃ p c,w.cell? ⟨g,i,none⟩=some (.slice p tab[i].length c)∧∀ j (h2:j<tab[i].length),∃ e,p=some ⟨e,0,none⟩∧e<b∧w.cell? ⟨e,j*2,none⟩=some (.int .u8 tab[i][j].1.toNat)∧w.cell? ⟨e,j*2+1,none⟩=some (.int .i64 tab[i][j].2)
theorem TabR.below {w w':World} {b:Nat} {sv:Value} {tab:List (List Sx.Edg)} (h:TabR w b sv tab) (hb:Below b w w'):TabR w' b sv tab:=by
 obtain ⟨g,cap,h1,h2,h3⟩:=h;refine ⟨g,cap,h1,h2,fun i hi=>?_⟩;obtain ⟨p,c,h4,h5⟩:=h3 i hi;refine ⟨p,c,(hb.cell (p:=⟨g,i,none⟩) h2).trans h4,fun j hj=>?_⟩;obtain ⟨e,h6,h7,h8,h9⟩:=h5 j hj;exact ⟨e,h6,h7,(hb.cell (p:=⟨e,j*2,none⟩) h7).trans h8,(hb.cell (p:=⟨e,j*2+1,none⟩) h7).trans h9⟩
def kfF:Nat→List (List Sx.Edg)→Nat→List UInt8→List Sx.Rl→List Sx.Rl × Bool
 | 0,_,_,_,rs=>(rs,true)
 | f+1,tab,s,beg,rs=>if s=0 then tkR rs beg else
   ((tab[s]?).getD []).foldl (fun acc e=>if acc.2=true then kfF f tab e.2 (beg ++ [e.1]) acc.1 else acc) (rs,true)
theorem kfF_more (f:Nat) (tab:List (List Sx.Edg)) (s:Nat) (beg:List UInt8) (rs:List Sx.Rl) (es:List Sx.Edg) (h0:s≠0) (h:tab[s]? = some es):kfF (f+1) tab s beg rs=es.foldl (fun acc e=>if acc.2=true then kfF f tab e.2 (beg ++ [e.1]) acc.1 else acc) (rs,true):=by
 have e:kfF (f+1) tab s beg rs=if s=0 then tkR rs beg else ((tab[s]?).getD []).foldl (fun acc e=>if acc.2=true then kfF f tab e.2 (beg ++ [e.1]) acc.1 else acc) (rs,true):=rfl
 rw [e,if_neg h0,h];rfl
theorem kfF_len (tab:List (List Sx.Edg)):∀ (n s:Nat) (beg:List UInt8) (rs:List Sx.Rl),rs.length≤30→(kfF n tab s beg rs).1.length≤30
 | 0,_,_,_,h=>h
 | n+1,s,beg,rs,h=>by
   have e:kfF (n+1) tab s beg rs=if s=0 then tkR rs beg else ((tab[s]?).getD []).foldl (fun acc e=>if acc.2=true then kfF n tab e.2 (beg ++ [e.1]) acc.1 else acc) (rs,true):=rfl
   rw [e];split
   · exact tkR_len rs beg h
   · have hf:∀ (es:List Sx.Edg) (acc:List Sx.Rl × Bool),acc.1.length≤30→(es.foldl (fun acc e=>if acc.2=true then kfF n tab e.2 (beg ++ [e.1]) acc.1 else acc) acc).1.length≤30:=by
      intro es
      induction es with
      | nil=>intro acc h;exact h
      | cons x es ih =>
        intro acc h;rw [List.foldl_cons];apply ih;split
        · exact kfF_len tab n _ _ _ h
        · exact h
     exact hf _ _ h
theorem fold_stop {α:Type} (f:List Sx.Rl→α→List Sx.Rl × Bool) (rs:List Sx.Rl):∀ es:List α,es.foldl (fun acc e=>if acc.2=true then f acc.1 e else acc) (rs,false)=(rs,false)
 | []=>rfl
 | _ :: es=>by rw [List.foldl_cons,if_neg (by simp)];exact fold_stop f rs es
def KeepX (row:Option Nat) (W W':World):Prop:=∀ (k:Nat) (cs:Array Value) (fr:Nat × Nat),W.heap[k]? = some (.cells cs 5 fr)→some k≠row→W'.heap[k]? = some (.cells cs 5 fr)
theorem pkf (w0:World) (hw:LWt w0) (b:Nat) (hb0:w0.heap.size≤b) (sv:Value) (tab:List (List Sx.Edg)) (hO:Sx.Ordered tab) (hE:∀ es∈tab,es.length≤1000):∀ (n s:Nat) (beg:List UInt8) (v:Value) (rs:List Sx.Rl) (w:World),s<n→s<tab.length→beg.length+s≤8000→Below w0.heap.size w0 w→TabR w b sv tab→w.ownsRow (b+1) 5 1 v beg.length (byV beg)→RsAt w b rs→rs.length≤30 →
 Calls Tryz.prog 141 #[.agg #[sv],.int .i64 s,v,.func (.func 81) #[.pointer (some ⟨b,0,none⟩)] #[]] w fun e w'=>e=.returned (.bool (kfF n tab s beg rs).2)∧Below b w w'∧RsAt w' b (kfF n tab s beg rs).1∧w'.ownsRow (b+1) 5 1 v beg.length (byV beg)∧KeepX v.ownBlock w w'∧∀ t,t≠5→t≠98→t≠89→KeepT t w w':=by
 intro n
 induction n with
 | zero=>intro s beg v rs w h;omega
 | succ n ih =>
   intro s beg v rs w hs hst hbl hB0 hT hown hr hn;have IH:=hide ih;clear ih;obtain ⟨p,cap,rfl⟩:=own_shapeK hown;have hbA:∀ o,Below w.heap.size w (w.alloc o):=fun o=>(Below.refl _ _).alloc (Nat.le_refl _) o;have hrl:=hr.lt;have hwA:∀ o,LWt (w.alloc o):=fun o=>lwt_stays _ _ hw (hB0.trans ((hbA o).mono hB0.size));by_cases h0:s=0
   · subst h0;have hcv:=fun o=>own_string (hown.alloc o);have HTK:=hide (fun o=>ptk b rs beg (w.alloc o) (hwA o) (by omega) (hr.below (hbA o)) hn);have HE:Hid (kfF (n+1) tab 0 beg rs=tkR rs beg):=hide (by unfold kfF;rw [if_pos rfl]);have HO:=hide hown;have HBA:=hide hbA;clear hT hown hr hB0 hbA hwA IH;go_enter Tryz.func141,Tryz.ntmps141;go_wp2_with fail
     refine (HTK.out _).mono ?_;rintro e w1 ⟨rfl,hB1,hr1,hk1⟩;have HX:=hide (And.intro hB1 (And.intro hr1 hk1));clear hB1 hr1 hk1 HTK;go_wp2;go_ret;rw [HE.out];refine ⟨rfl,((HBA.out _).mono (by omega)).trans HX.out.1,HX.out.2.1,(HX.out.2.2 _ (by decide) (by decide)).own (HO.out.alloc _),fun k cs fr hk _=>HX.out.2.2 _ (by decide) (by decide) k cs fr (KeepT.alloc _ _ _ k cs fr hk),fun t _ h2 h3=>(KeepT.alloc t w _).trans (HX.out.2.2 t h2 h3)⟩
   · obtain ⟨i2,hi2,hx0,hx1,hx2⟩:=info_parts Tryz.info5;have HT:=hide hT;obtain ⟨g,tc,rfl,hgb,hrow⟩:=hT;obtain ⟨ep,ec,hcell,hedge⟩:=hrow s hst;obtain ⟨es,hes⟩:∃ es,tab[s]=es:=⟨_,rfl⟩
     have hcA:∀ o,(w.alloc o).cell? ⟨g,s,none⟩=some (.slice ep tab[s].length ec):=fun o=>((hbA o).cell (p:=⟨g,s,none⟩) (by show g<w.heap.size;omega)).trans hcell;have HE:Hid (kfF (n+1) tab s beg rs=es.foldl (fun acc e=>if acc.2=true then kfF n tab e.2 (beg ++ [e.1]) acc.1 else acc) (rs,true)):=hide (kfF_more n tab s beg rs es h0 (by rw [←hes];exact List.getElem?_eq_getElem hst));have HED:=hide hedge;have hne1:((s:Int) == 0)=false:=by simp;omega
     have hne2:¬ (s:Int)=0:=by omega
     rw [hes] at hcA HED;have HOR:Hid (∀ e∈es,e.2<s):=hide (fun e he=>(hO s es (by rw [←hes];exact List.getElem?_eq_getElem hst)).2 e he);have hel:es.length≤1000:=hE es (by rw [←hes];exact List.getElem_mem hst);have HO:=hide hown;have HR:=hide hr;have HB0:=hide hB0;have HBA:=hide hbA;clear hedge hcell hrow hown hr hB0 hbA hwA hes;obtain ⟨N,hN⟩:∃ N,tab.length=N:=⟨_,rfl⟩
     rw [hN] at hst HT IH ⊢;have HN:=hide hN;clear hN;go_enter Tryz.func141,Tryz.ntmps141;go_wp2_with fail
     obtain ⟨BX,hBX⟩:∃ BX,Obj.cells #[.slice (some ⟨g,0,none⟩) N tc] 128=BX:=⟨_,rfl⟩
     rw [hBX];obtain ⟨R,hR⟩:∃ R,es.foldl (fun acc e=>if acc.2=true then kfF n tab e.2 (beg ++ [e.1]) acc.1 else acc) (rs,true)=R:=⟨_,rfl⟩
     rw [hR] at HE;have HRR:=hide hR;clear hR;have HBX:=hide hBX;clear hBX hcA
     go_loopw [23] (fun i wr=>∃ (k:Nat) (rs':List Sx.Rl),i=.int .i64 k∧k≤es.length∧rs'.length≤30∧(es.drop k).foldl (fun acc e=>if acc.2=true then kfF n tab e.2 (beg ++ [e.1]) acc.1 else acc) (rs',true)=R∧w.heap.size+1≤wr.heap.size∧Below b w wr∧RsAt wr b rs'∧wr.ownsRow (b+1) 5 1 (.slice p beg.length cap) beg.length (byV beg)∧KeepX (Value.slice p beg.length cap).ownBlock w wr∧∀ t,t≠5→t≠98→t≠89→KeepT t (w.alloc BX) wr) (fun i _=>(es.length-intOf i).toNat)
     case atStart=>exact ⟨0,rs,rfl,by omega,hn,HRR.out,by simp,(HBA.out BX).mono (by omega),HR.out.below (HBA.out BX),HO.out.alloc BX,fun k cs fr hk _=>KeepT.alloc _ _ _ k cs fr hk,fun t _ _ _=>KeepT.refl _ _⟩
     case round =>
      obtain ⟨k,rs',rfl,hk,hn',hfold,hsz,hB,hrs,hown,hX,hK⟩:=hrel;have HB:=hide hB;have HRS:=hide hrs;have HX:=hide hX;have HK:=hide hK;have HF:=hide hfold;clear hrs hX hK hfold HRR;by_cases hlt:k<es.length
      · obtain ⟨e,rfl,heb,c1,c2⟩:=HED.out k hlt;have d1:=(hB.cell (p:=⟨e,k*2,none⟩) heb).trans c1;have d2:=(hB.cell (p:=⟨e,k*2+1,none⟩) heb).trans c2;have hor:=HOR.out es[k] (List.getElem_mem hlt);have hdr:es.drop k=es[k] :: es.drop (k+1):=List.drop_eq_getElem_cons hlt;obtain ⟨⟨c,t⟩,hx⟩:∃ x,es[k]=x:=⟨_,rfl⟩
        rw [hx] at d1 d2 hor hdr;dsimp only at d1 d2 hor;have HF2:Hid ((es.drop (k+1)).foldl (fun acc e=>if acc.2=true then kfF n tab e.2 (beg ++ [e.1]) acc.1 else acc) (kfF n tab t (beg ++ [c]) rs')=R):=hide (by
         have:=HF.out;rw [hdr,List.foldl_cons,if_pos rfl] at this;exact this)
        have HLT:=hide hlt;clear c1 c2 hx hdr HF hB;obtain ⟨W1,hW1⟩:∃ W1,wr.alloc (.cells #[.int .u8 c.toNat,.int .i64 t] 265)=W1:=⟨_,rfl⟩
        obtain ⟨W2,hW2⟩:∃ W2,W1.drew.alloc (.cells #[.int .u8 c.toNat] 5)=W2:=⟨_,rfl⟩
        have hbxA:wr.heap[w.heap.size]? = some (.cells #[.slice (some ⟨g,0,none⟩) N tc] 128 (0,0)):=HK.out 128 (by decide) (by decide) (by decide) _ _ _ (by rw [←HBX.out];exact heap_alloc_new _ _);have hk12:∀ ty,KeepT ty wr W2:=fun ty=>by
         rw [←hW2,←hW1];exact (KeepT.alloc ty wr _).trans (fun k cs fr hk=>KeepT.alloc ty _ _ k cs fr hk)
        have hbxE:W2.heap[wr.heap.size]? = some (.cells #[.int .u8 c.toNat,.int .i64 t] 265 (0,0)):=by
         rw [←hW2,←hW1];exact (heap_alloc_old _ _ (by show wr.heap.size<(wr.alloc _).heap.size;simp)).trans (heap_alloc_new _ _)
        have hB2:Below b wr W2:=by
         rw [←hW2,←hW1];exact (((Below.refl b wr).alloc (by omega) _).drew).alloc (by show b≤(wr.alloc _).heap.size;simp;omega) _
        have hz2:wr.heap.size≤W2.heap.size:=hB2.size;have hown2:W2.ownsRow (b+1) 5 1 (.slice p beg.length cap) beg.length (byV beg):=(hk12 _).own hown;have HS:Hid (∀ W',KeepT 128 wr W'→KeepT 265 W2 W'→W'.cell? ⟨w.heap.size,0,none⟩=some (.slice (some ⟨g,0,none⟩) N tc)∧W'.cell? ⟨wr.heap.size,0,none⟩=some (.int .u8 c.toNat)∧W'.cell? ⟨wr.heap.size,1,none⟩=some (.int .i64 t)):=hide (fun W' h1 h2=>by
         have g1:=h1 _ _ _ hbxA;have g2:=h2 _ _ _ hbxE;simp [World.cell?,g1,g2])
        have HG:Hid (∀ w6,W2.grownBy w6 (Value.slice p beg.length cap).ownBlock→(∀ ty,ty≠5→KeepT ty W2 w6)∧Below b wr w6):=hide (fun w6 hg=>⟨fun ty hty=>KeepT.grown hg (own_block hown2) hty,hB2.grown hg (by omega) (fun r e=>by have:=(hown2.lt r e).1;omega)⟩);have HC:Hid (∀ v' w6,w6.ownsRow (b+1) 5 1 v' (beg.length+1) (byV beg ++ [.int .u8 c.toNat])→W2.grownBy w6 (Value.slice p beg.length cap).ownBlock→Calls Tryz.prog 141 #[.agg #[.slice (some ⟨g,0,none⟩) N tc],.int .i64 t,v',.func (.func 81) #[.pointer (some ⟨b,0,none⟩)] #[]] w6 fun e w'=>e=.returned (.bool (kfF n tab t (beg ++ [c]) rs').2)∧Below b w6 w'∧RsAt w' b (kfF n tab t (beg ++ [c]) rs').1∧w'.ownsRow (b+1) 5 1 v' (beg ++ [c]).length (byV (beg ++ [c]))∧KeepX v'.ownBlock w6 w'∧∀ t,t≠5→t≠98→t≠89→KeepT t w6 w'):=hide (fun v' w6 ho hg=>by
         have hb6:=(HG.out w6 hg).2;have hk6:=(HG.out w6 hg).1;obtain ⟨rv,g1,g2⟩:=HRS.out;have hr6:RsAt w6 b rs':=⟨rv,hk6 _ (by decide) _ _ _ (hk12 _ _ _ _ g1),(hk6 _ (by decide)).own ((hk12 _).own g2)⟩
         refine IH.out t (beg ++ [c]) v' rs' w6 (by omega) (by omega) (by rw [List.length_append,List.length_singleton];omega) ?_ (HT.out.below (HB.out.trans hb6)) ?_ hr6 hn'
         · exact HB0.out.trans ((HB.out.trans hb6).mono (by have:=HB0.out.size;omega))
         · rw [List.length_append,List.length_singleton,byV_app];exact ho)
        have hS2:=HS.out W2 (hk12 _) (KeepT.refl _ _);have hS0:W1.drew.cell? ⟨w.heap.size,0,none⟩=some (.slice (some ⟨g,0,none⟩) N tc)∧W1.drew.cell? ⟨wr.heap.size,0,none⟩=some (.int .u8 c.toNat)∧W1.drew.cell? ⟨wr.heap.size,1,none⟩=some (.int .i64 t):=by
         have g1:W1.drew.heap[w.heap.size]? = some (.cells #[.slice (some ⟨g,0,none⟩) N tc] 128 (0,0)):=by
          rw [←hW1];exact KeepT.alloc _ wr _ _ _ _ hbxA
         have g2:W1.drew.heap[wr.heap.size]? = some (.cells #[.int .u8 c.toNat,.int .i64 t] 265 (0,0)):=by
          rw [←hW1];exact heap_alloc_new _ _
         simp [World.cell?,g1,g2]
        have hcN:W2.cell? ⟨W1.heap.size,0,none⟩=some (.int .u8 c.toNat):=by
         have g1:W2.heap[W1.heap.size]? = some (.cells #[.int .u8 c.toNat] 5 (0,0)):=by
          rw [←hW2];exact heap_alloc_new _ _
         simp [World.cell?,g1]
        have HS1:Hid (∀ w6,W2.grownBy w6 (Value.slice p beg.length cap).ownBlock→w6.cell? ⟨w.heap.size,0,none⟩=some (.slice (some ⟨g,0,none⟩) N tc)∧w6.cell? ⟨wr.heap.size,0,none⟩=some (.int .u8 c.toNat)∧w6.cell? ⟨wr.heap.size,1,none⟩=some (.int .i64 t)):=hide (fun w6 hg=>HS.out w6 ((hk12 _).trans ((HG.out w6 hg).1 _ (by decide))) ((HG.out w6 hg).1 _ (by decide)));have HS7:Hid (∀ w6 w7,W2.grownBy w6 (Value.slice p beg.length cap).ownBlock→(∀ t,t≠5→t≠98→t≠89→KeepT t w6 w7)→w7.cell? ⟨w.heap.size,0,none⟩=some (.slice (some ⟨g,0,none⟩) N tc)∧w7.cell? ⟨wr.heap.size,0,none⟩=some (.int .u8 c.toNat)∧w7.cell? ⟨wr.heap.size,1,none⟩=some (.int .i64 t)):=hide (fun w6 w7 hg hk=>HS.out w7 (((hk12 _).trans ((HG.out w6 hg).1 _ (by decide))).trans (hk _ (by decide) (by decide) (by decide))) (((HG.out w6 hg).1 _ (by decide)).trans (hk _ (by decide) (by decide) (by decide))));have HK12:=hide hk12;clear hk12 hbxA hbxE hB2;go_wp2_with fail
        go_region_held_law (fun w'=>w'.cell? ⟨w.heap.size,0,none⟩=some (.slice (some ⟨g,0,none⟩) N tc)∧w'.cell? ⟨wr.heap.size,0,none⟩=some (.int .u8 c.toNat)∧w'.cell? ⟨wr.heap.size,1,none⟩=some (.int .i64 t)) (first | exact hS0 | exact hS2 | exact hS1 | exact hS7 | go_keep) (first | (refine step_append_keep rfl _ _ _ rfl (b+1) 5 i2 (.int .u8 0) 1 Tryz.underlying58 hi2 hx0 hx1 hx2 rfl _ beg.length (byV beg) rfl hown2 ⟨W1.heap.size,0,none⟩ 1 (.int .u8 c.toNat) rfl hcN rfl (by unfold maxLen;omega) (by omega) (by omega) ?_;intro v' w6 hown6 hold6 hgrow6 hle6 hnew6;have hS1:=HS1.out w6 hgrow6) | (go_at_call 141;refine (HC.out _ _ hown6 hgrow6).mono ?_;rintro e w7 ⟨rfl,hB7,hr7,hown7,hX7,hK7⟩;have hS7:=HS7.out w6 w7 hgrow6 hK7))
        have hown8:w7.ownsRow (b+1) 5 1 (.slice p beg.length cap) beg.length (byV beg):=by
         rw [List.length_append,List.length_singleton,byV_app] at hown7;exact hle6.back hold6 hown7 hX7
        have hlk:=kfF_len tab n t (beg ++ [c]) rs' hn';have HFIN:Hid (w.heap.size+1≤w7.heap.size∧Below b w w7∧RsAt w7 b (kfF n tab t (beg ++ [c]) rs').1∧w7.ownsRow (b+1) 5 1 (.slice p beg.length cap) beg.length (byV beg)∧KeepX (Value.slice p beg.length cap).ownBlock w w7∧∀ t,t≠5→t≠98→t≠89→KeepT t (w.alloc BX) w7):=hide (by
         have hb6:=(HG.out w6 hgrow6).2;have hs6:=hb6.size;have hs7:=hB7.size;refine ⟨by omega,HB.out.trans (hb6.trans hB7),hr7,hown8,fun k cs fr hk hne=>?_,fun ty h1 h2 h3=>?_⟩
         · have a2:=HK12.out _ _ _ _ (HX.out k cs fr hk hne);have hkl2:k<W2.heap.size:=(Array.getElem?_eq_some_iff.1 a2).1;have a3:=(hgrow6.block k hkl2 hne).trans a2;refine hX7 k cs fr a3 (fun e=>?_);rcases hnew6 k e.symm with h | h
           · exact hne h.symm
           · omega
         · exact (HK.out ty h1 h2 h3).trans ((HK12.out ty).trans (((HG.out w6 hgrow6).1 ty h1).trans (hK7 ty h1 h2 h3))))
        clear hown8 hS0 hS1 hS2 hS7 hB7 hr7 hown7 hX7 hK7 hown6 hold6 hgrow6 hle6 hnew6 hown2 hcN HS1 HS7 HC HG HS hown HB HRS HX HK HK12 hW1 hW2;obtain ⟨⟨rs2,ok⟩,hq⟩:∃ q,kfF n tab t (beg ++ [c]) rs'=q:=⟨_,rfl⟩
        rw [hq] at HF2 HFIN hlk ⊢;dsimp only at HFIN hlk ⊢;clear hq;rcases ok with _ | _
        · have HR2:Hid (R=(rs2,false)):=hide (by rw [←HF2.out];exact fold_stop (fun r (e:Sx.Edg)=>kfF n tab e.2 (beg ++ [e.1]) r) rs2 _);clear HF2;go_wp2;go_ret;rw [HE.out,HR2.out];exact ⟨rfl,HFIN.out.2.1,HFIN.out.2.2.1,HFIN.out.2.2.2.1,HFIN.out.2.2.2.2.1,fun t h1 h2 h3=>(KeepT.alloc t w BX).trans (HFIN.out.2.2.2.2.2 t h1 h2 h3)⟩
        · go_wp2;exact ⟨⟨k+1,rs2,by go_num,by have:=HLT.out;omega,hlk,HF2.out,HFIN.out⟩,by have:=HLT.out;simp [intOf];omega⟩
      · have hke:k=es.length:=by omega
        subst hke;rw [List.drop_length] at HF;have HF2:Hid ((rs',true)=R):=hide HF.out;have HO2:=hide hown;clear hown hB;go_wp2;go_ret;rw [HE.out,←HF2.out];exact ⟨rfl,HB.out,HRS.out,HO2.out,HX.out,fun t h1 h2 h3=>(KeepT.alloc t w BX).trans (HK.out t h1 h2 h3)⟩
def kfA (tab:List (List Sx.Edg)) (rs:List Sx.Rl):List Sx.Rl:=if tab=[] then rs else (kfF tab.length tab (tab.length-1) [] rs).1
theorem pkeys (w0:World) (hw:LWt w0) (b:Nat) (hb0:w0.heap.size≤b) (sv:Value) (tab:List (List Sx.Edg)) (hO:Sx.Ordered tab) (hE:∀ es∈tab,es.length≤1000) (hl:tab.length≤3000) (rs:List Sx.Rl) (w:World) (hB0:Below w0.heap.size w0 w) (hnil:tab=[]→∃ p c,sv=.slice p 0 c) (hT:tab≠[]→TabR w b sv tab) (hr:RsAt w b rs) (hn:rs.length≤30) :
 Calls Tryz.prog 80 #[.agg #[sv],.func (.func 81) #[.pointer (some ⟨b,0,none⟩)] #[]] w fun e w'=>(∃ v,e=.returned v)∧Below b w w'∧RsAt w' b (kfA tab rs):=by
 have hrl:=hr.lt;have hbA:∀ o,Below w.heap.size w (w.alloc o):=fun o=>(Below.refl _ _).alloc (Nat.le_refl _) o;by_cases h0:tab=[]
 · obtain ⟨p,c,rfl⟩:=hnil h0;have HE:Hid (kfA tab rs=rs):=hide (by unfold kfA;rw [if_pos h0]);have HR:=hide hr;have HBA:=hide hbA;clear hT hr hbA hnil h0;go_enter Tryz.func80,Tryz.ntmps80;go_wp2;go_end0;rw [HE.out];exact ⟨⟨_,rfl⟩,(HBA.out _).mono (by omega),HR.out.below (HBA.out _)⟩
 · have hp:0<tab.length:=List.length_pos_iff.2 h0;have hT1:=hT h0;have HE:Hid (kfA tab rs=(kfF tab.length tab (tab.length-1) [] rs).1):=hide (by unfold kfA;rw [if_neg h0]);have HK:=hide (fun o=>pkf w0 hw b hb0 sv tab hO hE tab.length (tab.length-1) [] (.slice none 0 0) rs (w.alloc o) (by omega) (by omega) (by simp;omega) (hB0.trans ((hbA o).mono hB0.size)) (hT1.below ((hbA o).mono (by omega))) (World.ownsRow_nil _ _ _ _) (hr.below (hbA o)) hn);obtain ⟨g,c,hsv,_,_⟩:=hT1;subst hsv;have HBA:=hide hbA;clear hT hr hbA hnil h0;obtain ⟨M,hM⟩:∃ M,tab.length=M+1:=⟨tab.length-1,by omega⟩
   rw [hM] at HK HE ⊢;rw [Nat.add_sub_cancel] at HK HE;have hM3:M≤3000:=by omega
   clear hM hp hl;go_enter Tryz.func80,Tryz.ntmps80;go_wp2_with fail
   refine (HK.out _).mono ?_;rintro e w1 ⟨rfl,hB1,hr1,_,_,_⟩;have HX:=hide (And.intro hB1 hr1);clear hB1 hr1 HK;go_wp2;go_end0;rw [HE.out];exact ⟨⟨_,rfl⟩,((HBA.out _).mono (by omega)).trans HX.out.1,HX.out.2⟩
end Go.Proofs.YtgohllfpceeboaaGreatDoor
