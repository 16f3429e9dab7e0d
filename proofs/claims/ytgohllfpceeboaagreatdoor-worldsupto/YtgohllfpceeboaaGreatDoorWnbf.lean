import Derived.Test.YtgohllfpceeboaaGreatDoorWnbe
namespace Sx
theorem edgF_wdsM (k:Nat):∀ (n:Nat) (tab:List (List Edg)) (l:List Wd),OkF n l→Closed tab→wds (n+k) (edgF n tab l).1 (edgF n tab l).2=l
 | 0,_,_,h,_=>absurd h (by simp [OkF])
 | n+1,tab,l,ho,hc=>by
   have fold:∀ (gs:List (UInt8 × List Wd)) (tab:List (List Edg)) (es:List Edg) (done:List (UInt8 × List Wd)),(∀ g∈gs,OkF n g.2)→Closed tab→(∀ e∈es,e.2<tab.length)→es.map (fun e=>(e.1,wds (n+k) tab e.2))=done →
    Closed (gs.foldl (edgE n) (tab,es)).1∧(∀ e∈(gs.foldl (edgE n) (tab,es)).2,e.2<(gs.foldl (edgE n) (tab,es)).1.length)∧(gs.foldl (edgE n) (tab,es)).2.map (fun e=>(e.1,wds (n+k) (gs.foldl (edgE n) (tab,es)).1 e.2))=done ++ gs:=by
    intro gs
    induction gs with
    | nil=>intro tab es done _ h1 h2 h3;exact ⟨h1,h2,by simpa using h3⟩
    | cons g gs ih =>
      intro tab es done hg h1 h2 h3;obtain ⟨a1,a2,a3,a4⟩:=edgF_len n tab g.2 (hg g (by simp)) h1;have a5:=edgF_wdsM k n tab g.2 (hg g (by simp)) h1;obtain ⟨ext,hx⟩:=edgF_ext n tab g.2;have h4:(es ++ [(g.1,(edgF n tab g.2).2)]).map (fun e=>(e.1,wds (n+k) (edgF n tab g.2).1 e.2))=done ++ [g]:=by
       rw [List.map_append];congr 1
       · rw [←h3];apply List.map_congr_left;intro e he;rw [hx,wds_ext h1 ext (n+k) e.2 (h2 e he)]
       · simp only [List.map_cons,List.map_nil,a5]
      have:=ih (edgF n tab g.2).1 (es ++ [(g.1,(edgF n tab g.2).2)]) (done ++ [g]) (fun y hy=>hg y (by simp [hy])) a4 (fun e he=>by
       rcases List.mem_append.1 he with he | he
       · have:=h2 e he;omega
       · rw [List.mem_singleton.1 he];exact a3) h4
      rw [List.foldl_cons,show edgE n (tab,es) g=((edgF n tab g.2).1,es ++ [(g.1,(edgF n tab g.2).2)]) from rfl];refine ⟨this.1,this.2.1,?_⟩;rw [this.2.2];simp
   obtain ⟨f1,f2,f3⟩:=fold (grp l) tab [] [] ho.2 hc (by simp) rfl;rw [List.nil_append] at f3;have key:∀ (T:List (List Edg)) (i:Nat),T[i]? = some ((grp l).foldl (edgE n) (tab,[])).2→(∀ e∈((grp l).foldl (edgE n) (tab,[])).2,wds (n+k) T e.2=wds (n+k) ((grp l).foldl (edgE n) (tab,[])).1 e.2)→wds (n+1+k) T i=l:=by
    intro T i hT hw;rw [show n+1+k=(n+k)+1 by omega];unfold wds;rw [hT];rcases ho.1 with rfl | ⟨_,hne⟩
    · have:((grp [[]]).foldl (edgE n) (tab,[])).2=[]:=rfl;rw [this]
    · have hu:=ungrp_grp l hne;cases hE:((grp l).foldl (edgE n) (tab,[])).2 with
      | nil =>
        rw [hE] at f3;simp only [List.map_nil] at f3;rw [←f3] at hu;exfalso;have h0:l=[]:=by rw [←hu];rfl
        rcases ho.1 with h | h
        · rw [h] at h0;cases h0
        · exact h.1 h0
      | cons e es =>
        simp only;rw [hE] at f3 hw
        conv=>rhs;rw [←hu,←f3]
        unfold ungrp;rw [List.flatMap_map,List.flatMap_def,List.flatMap_def];congr 1;apply List.map_congr_left;intro x hx;rw [hw x hx]
   rw [edgF_succ];cases hp:posOf ((grp l).foldl (edgE n) (tab,[])).2 ((grp l).foldl (edgE n) (tab,[])).1 with
   | some i=>exact key _ _ (posOf_get _ _ _ hp) (fun _ _=>rfl)
   | none =>
     refine key _ _ ?_ (fun e he=>wds_ext f1 _ (n+k) e.2 (f2 e he));simp
theorem wds_more {f:Nat} {tab:List (List Edg)} {s:Nat} {es:List Edg} (h:tab[s]? = some es) (h0:es≠[]):wds (f+1) tab s=es.flatMap fun e=>(wds f tab e.2).map (e.1 :: ·):=by
 cases es with
 | nil=>exact absurd rfl h0
 | cons e es =>
   conv=>lhs;unfold wds
   rw [h]
theorem wds_last {f:Nat} {tab:List (List Edg)} {s:Nat} (h:tab[s]? = some []):wds (f+1) tab s=[[]]:=by
 unfold wds;rw [h]
theorem img_readsM (k:Nat) {rs:List Rl} (h:RlsOk rs) (h0:rs≠[]):wds (64+k) (tabOf rs) ((tabOf rs).length-1)=sortW (rs.map rlKey)∧Ordered (tabOf rs)∧∀ es∈tabOf rs,es.length≤30:=by
 have hk:=(keys_ok h h0).1;have hlen:(sortW (rs.map rlKey)).length=rs.length:=by
  have:=sortW_length (rs.map rlKey) [];unfold sortW;rw [this,List.length_map];rfl
 have hmany:=h.many;have htab:tabOf rs=(edgF 64 [] (sortW (rs.map rlKey))).1:=by unfold tabOf;rw [if_neg h0]
 obtain ⟨o1,o2⟩:=edgF_ordered 64 [] (sortW (rs.map rlKey)) 30 hk (by omega) (by intro i es hi;simp at hi) (by simp);have hf:=edgF_first hk;have hw:=edgF_wdsM k 64 [] (sortW (rs.map rlKey)) hk (by intro es hes;simp at hes);rw [←htab] at hf hw o1 o2;refine ⟨?_,o1,o2⟩;rw [show (tabOf rs).length-1=(edgF 64 [] (sortW (rs.map rlKey))).2 by omega];exact hw
theorem splB_dotted:∀ (h:List (List UInt8)),h≠[]→(∀ x∈h,∀ b∈x,b≠46)→splB (dotted h) []=h
 | [],n,_=>absurd rfl n
 | [x],_,h=>by
   have:=splB_no x [] [] (h x (by simp));rw [List.append_nil] at this;rw [show dotted [x]=x by simp [dotted],this];simp [splB]
 | x :: y :: r,_,h=>by
   have ih:=splB_dotted (y :: r) (by simp) (fun z hz=>h z (by simp [hz]));rw [dotted_cons,splB_no x _ _ (h x (by simp))];simp only [List.nil_append];rw [splB,if_pos rfl,ih]
def RlRt (r:Rl):Prop:=host (dotted r.1)=(r.1,0)∧isKd r.2.1∧(r.2.1=33→1<r.1.length)∧(r.2.2=105∨r.2.2=112)
theorem RlRt.ok {r:Rl} (h:RlRt r):RlOk r:=by
 have:=host_ok (dotted r.1) (by rw [h.1]);rw [h.1] at this;exact ⟨this,h.2.1⟩
structure RlsRt (rs:List Rl):Prop where
 ok:∀ r∈rs,RlRt r
 apart:rs.Pairwise fun a b=>¬ (a.1=b.1∧a.2.1=b.2.1)
 many:rs.length≤30
theorem RlsRt.rls {rs:List Rl} (h:RlsRt rs):RlsOk rs:=⟨fun r hr=>(h.ok r hr).ok,h.apart,h.many⟩
theorem known_iff {rs:List Rl} {r:Rl} (h:∀ q∈rs,RlOk q) (hr:RlOk r):known rs r=true↔∃ q∈rs,q.1=r.1∧q.2.1=r.2.1:=by
 unfold known;rw [List.any_eq_true];constructor
 · rintro ⟨q,hq,e⟩;simp only [Bool.and_eq_true,decide_eq_true_eq] at e;have a:=(h q hq).1;have b:=hr.1;exact ⟨q,hq,dotted_inj _ _ a.1 b.1 (fun x hx c hc=>plB_no46 ((a.2.2.2 x hx).2 c hc)) (fun x hx c hc=>plB_no46 ((b.2.2.2 x hx).2 c hc)) e.1,e.2⟩
 · rintro ⟨q,hq,e1,e2⟩;exact ⟨q,hq,by simp [e1,e2]⟩
end Sx
namespace Go.Proofs.YtgohllfpceeboaaGreatDoor
theorem pcs_revL (r:List UInt8):(pcs r).reverse=Sx.splB r []:=pcs_rev r.length r (Nat.le_refl _)
open Sx
theorem rkOf_is (h:List UInt8) (k sec:UInt8):rkOf (h ++ [k,sec])=keyRl (h ++ [k,sec]) h k sec:=by
 unfold rkOf;have:(h ++ [k,sec]).reverse=sec :: k :: h.reverse:=by simp
 rw [this];simp
theorem nwRl_rt {k:UInt8} {s:List UInt8} {sec:UInt8} {r:Rl} (hk:k=36∨k=42∨k=33) (hs:sec=105∨sec=112) (h:nwRl k s sec=some r):RlRt r:=by
 unfold nwRl at h;split at h
 · rename_i hc;obtain rfl:=Option.some.inj h;exact ⟨host_again hc.1,hk,hc.2,hs⟩
 · cases h
theorem rkOf_some {key:List UInt8} {r:Rl} (h:rkOf key=some r):RlRt r∧rlKey r=key:=by
 unfold rkOf at h;split at h
 · rename_i sec k q hq;unfold keyRl at h;split at h
   · rename_i hc;obtain ⟨h1,h2⟩:=Option.filter_eq_some_iff.1 h;exact ⟨nwRl_rt hc.1 hc.2 h1,by simpa using h2⟩
   · cases h
 · cases h
theorem rkOf_key {r:Rl} (h:RlRt r):rkOf (rlKey r)=some r:=by
 obtain ⟨H,k,sec⟩:=r;have hok:=h.ok.1;obtain ⟨h1,h2,h3,h4⟩:=h;dsimp only at h1 h2 h3 h4 hok;unfold Sx.rlKey Sx.keyOf;dsimp only;rw [rkOf_is];have hp:pcs (dotted H.reverse)=H:=by
  have:=pcs_revL (dotted H.reverse);rw [splB_dotted H.reverse (by simpa using hok.1) (fun x hx b hb=>plB_no46 ((hok.2.2.2 x (by simpa using hx)).2 b hb))] at this
  simpa using this
 unfold keyRl;rw [if_pos ⟨h2,h4⟩,hp];unfold nwRl;rw [h1];simp only;rw [if_pos ⟨trivial,h3⟩];exact Option.filter_eq_some_iff.2 ⟨rfl,by simp [Sx.rlKey,Sx.keyOf]⟩
theorem addRl_rt {rs:List Rl} {r:Rl} (h:RlsRt rs) (hr:RlRt r):RlsRt (addRl rs r).1:=by
 unfold addRl;split
 · exact h
 · rename_i hk;split
   · exact h
   · rename_i hm;refine ⟨fun q hq=>?_,?_,?_⟩
     · rcases List.mem_append.1 hq with hq | hq
       · exact h.ok q hq
       · rw [List.mem_singleton.1 hq];exact hr
     · rw [List.pairwise_append];refine ⟨h.apart,by simp,fun a ha b hb=>?_⟩;rw [List.mem_singleton.1 hb];exact fun e=>hk ((known_iff (fun q hq=>(h.ok q hq).ok) hr.ok).2 ⟨a,ha,e⟩)
     · have:=h.many;simp only [List.length_append,List.length_singleton];omega
theorem tkR_rt {rs:List Rl} (key:List UInt8) (h:RlsRt rs):RlsRt (tkR rs key).1:=by
 unfold tkR;cases hk:rkOf key with
 | none=>exact h
 | some r=>exact addRl_rt h (rkOf_some hk).1
def tks (rs:List Rl) (b:Bool) (ws:List Wd):List Rl × Bool:=ws.foldl (fun acc w=>if acc.2=true then tkR acc.1 w else acc) (rs,b)
theorem tks_rt:∀ (ws:List Wd) (rs:List Rl) (b:Bool),RlsRt rs→RlsRt (tks rs b ws).1
 | [],_,_,h=>h
 | w :: ws,rs,b,h=>by
   unfold tks;rw [List.foldl_cons];cases b with
   | false=>exact tks_rt ws rs false h
   | true=>exact tks_rt ws (tkR rs w).1 (tkR rs w).2 (tkR_rt w h)
theorem tks_app (rs:List Rl) (b:Bool) (u v:List Wd):tks rs b (u ++ v)=tks (tks rs b u).1 (tks rs b u).2 v:=by unfold tks;rw [List.foldl_append]
theorem kfF_wds {tab:List (List Edg)} (ho:Ordered tab):∀ (n m s:Nat) (beg:List UInt8) (rs:List Rl),s<tab.length→s<n→s<m→kfF n tab s beg rs=tks rs true ((wds m tab s).map (beg ++ ·))
 | 0,_,_,_,_,_,h,_=>absurd h (by omega)
 | n+1,0,_,_,_,_,_,h=>absurd h (by omega)
 | n+1,m+1,s,beg,rs,hs,hn,hm=>by
   obtain ⟨es,hes⟩:∃ es,tab[s]? = some es:=⟨_,List.getElem?_eq_getElem hs⟩
   obtain ⟨o1,o2⟩:=ho s es hes;by_cases h0:s=0
   · have e:kfF (n+1) tab s beg rs=if s=0 then tkR rs beg else ((tab[s]?).getD []).foldl (fun acc e=>if acc.2=true then kfF n tab e.2 (beg ++ [e.1]) acc.1 else acc) (rs,true):=rfl
     rw [e,if_pos h0,wds_last (by rw [hes,o1.2 h0])];simp [tks]
   · rw [kfF_more n tab s beg rs es h0 hes,wds_more hes (fun e=>h0 (o1.1 e))];have:∀ (l:List Edg) (acc:List Rl) (b:Bool),(∀ e∈l,e.2<s)→l.foldl (fun acc e=>if acc.2=true then kfF n tab e.2 (beg ++ [e.1]) acc.1 else acc) (acc,b)=tks acc b ((l.flatMap fun e=>(wds m tab e.2).map (e.1 :: ·)).map (beg ++ ·)):=by
      intro l
      induction l with
      | nil=>intro acc b _;rfl
      | cons e l ih =>
        intro acc b hl;have hes:=hl e (by simp);rw [List.foldl_cons,List.flatMap_cons,List.map_append,tks_app];have hone:(if b=true then kfF n tab e.2 (beg ++ [e.1]) acc else (acc,b))=tks acc b (((wds m tab e.2).map (e.1 :: ·)).map (beg ++ ·)):=by
         cases b with
         | false =>
           have:∀ ws:List Wd,tks acc false ws=(acc,false):=by
            intro ws;unfold tks;exact fold_stop _ _ _
           rw [this];rfl
         | true =>
           rw [if_pos rfl,kfF_wds ho n m e.2 (beg ++ [e.1]) acc (by omega) (by omega) (by omega),List.map_map];congr 1;apply List.map_congr_left;intro w _;simp
        dsimp only;rw [hone];obtain ⟨a1,a2⟩:=tks acc b (((wds m tab e.2).map (e.1 :: ·)).map (beg ++ ·));exact ih a1 a2 (fun x hx=>hl x (by simp [hx]))
     exact this es rs true o2
theorem kfA_wds {tab:List (List Edg)} (ho:Ordered tab) (h0:tab≠[]) (k:Nat) (rs:List Rl) (hk:tab.length≤k):kfA tab rs=(tks rs true (wds k tab (tab.length-1))).1:=by
 have hp:0<tab.length:=List.length_pos_iff.2 h0;unfold kfA;rw [if_neg h0,kfF_wds ho tab.length k (tab.length-1) [] rs (by omega) (by omega) (by omega)];simp
theorem tks_keys:∀ (rs acc:List Rl),RlsRt (acc ++ rs)→tks acc true (rs.map rlKey)=(acc ++ rs,true)
 | [],acc,_=>by simp [tks]
 | r :: rs,acc,h=>by
   have hr:RlRt r:=h.ok r (by simp);have h1:tkR acc (rlKey r)=(acc ++ [r],true):=by
    unfold tkR;rw [rkOf_key hr];show ((addRl acc r).1,decide ((addRl acc r).2=0))=_;unfold addRl;rw [if_neg,if_neg]
    · rfl
    · have:=h.many;simp only [List.length_append,List.length_cons] at this;omega
    · intro hk;obtain ⟨q,hq,e⟩:=(known_iff (fun q hq=>(h.ok q (by simp [hq])).ok) hr.ok).1 hk;exact (List.pairwise_append.1 h.apart).2.2 q hq r (by simp) e
   have ih:=tks_keys rs (acc ++ [r]) (by simpa using h);show tks (if true=true then tkR acc (rlKey r) else (acc,true)).1 (if true=true then tkR acc (rlKey r) else (acc,true)).2 (rs.map rlKey)=_;rw [if_pos rfl,h1,ih];simp
theorem insW_perm (x:Wd) (m:List Wd):(insW x m).Perm (x :: m):=by
 unfold insW;refine List.perm_middle.trans (List.Perm.cons x ?_);rw [List.takeWhile_append_dropWhile]
theorem sortW_permG:∀ (l m:List Wd),(l.foldl (fun m x=>insW x m) m).Perm (l ++ m)
 | [],m=>by simp
 | x :: l,m=>by
   rw [List.foldl_cons];refine (sortW_permG l (insW x m)).trans ?_;refine ((insW_perm x m).append_left l).trans ?_;exact List.perm_middle
theorem sortW_perm (l:List Wd):(sortW l).Perm l:=by
 have:=sortW_permG l []
 simpa [sortW] using this
theorem _root_.Sx.RlsRt.perm {rs rs':List Rl} (h:RlsRt rs) (hp:rs'.Perm rs):RlsRt rs':=by
 refine ⟨fun r hr=>h.ok r (hp.mem_iff.1 hr),?_,by rw [hp.length_eq];exact h.many⟩;exact hp.symm.pairwise h.apart (fun hab e=>hab ⟨e.1.symm,e.2.symm⟩)
def srt (rs:List Rl):List Rl:=(sortW (rs.map rlKey)).filterMap rkOf
theorem back_keys:∀ {rs:List Rl},(∀ r∈rs,RlRt r)→(rs.map rlKey).filterMap rkOf=rs
 | [],_=>rfl
 | r :: rs,h=>by
   rw [List.map_cons,List.filterMap_cons,rkOf_key (h r (by simp))];simp only;rw [back_keys (fun q hq=>h q (by simp [hq]))]
theorem keys_back:∀ {ws:List Wd},(∀ w∈ws,∃ r,RlRt r∧rlKey r=w)→(ws.filterMap rkOf).map rlKey=ws
 | [],_=>rfl
 | w :: ws,h=>by
   obtain ⟨r,h1,h2⟩:=h w (by simp);rw [List.filterMap_cons,←h2,rkOf_key h1];simp only [List.map_cons];rw [keys_back (fun v hv=>h v (by simp [hv]))]
theorem srt_perm {rs:List Rl} (h:∀ r∈rs,RlRt r):(srt rs).Perm rs:=by
 have:=(sortW_perm (rs.map rlKey)).filterMap rkOf
 rwa [back_keys h] at this
theorem srt_keys {rs:List Rl} (h:∀ r∈rs,RlRt r):(srt rs).map rlKey=sortW (rs.map rlKey) :=
 keys_back fun w hw=>by
  obtain ⟨r,hr,rfl⟩:=List.mem_map.1 ((sortW_perm _).mem_iff.1 hw);exact ⟨r,h r hr,rfl⟩
theorem rlsRt_srt {rs:List Rl} (h:RlsRt rs):RlsRt (srt rs):=h.perm (srt_perm h.ok)
theorem _root_.Sx.RlsRt.nodup {rs:List Rl} (h:RlsRt rs):(rs.map rlKey).Nodup:=free_nodup (keys_free h.rls.ok h.apart)
theorem sortW_again {l:List Wd} (h:l.Nodup):sortW (sortW l)=sortW l:=by
 have h1:=sortW_ok l h;have h2:(sortW l).Nodup:=(sortW_perm l).nodup_iff.2 h;exact (sortW_one (sortW l) (sortW l) h2 h1.1 (fun _=>Iff.rfl)).symm
structure Img (b:List UInt8) (rs:List Rl):Prop where
 rt:RlsRt rs
 rise:sortW (rs.map rlKey)=rs.map rlKey
 is:imgT (tabOf rs)=b
theorem srt_nil {rs:List Rl} (h:RlsRt rs):srt rs=[]↔rs=[]:=by
 have:=(srt_perm h.ok).length_eq;constructor
 · intro e;rw [e] at this;exact List.eq_nil_of_length_eq_zero this.symm
 · intro e;subst e;exact List.eq_nil_of_length_eq_zero this
theorem img_srt {rs:List Rl} (h:RlsRt rs):Img (imgT (tabOf rs)) (srt rs):=by
 have hk:=srt_keys h.ok;refine ⟨rlsRt_srt h,by rw [hk,sortW_again h.nodup],?_⟩;unfold tabOf;rw [hk,sortW_again h.nodup];by_cases h0:rs=[]
 · rw [if_pos h0,if_pos ((srt_nil h).2 h0)]
 · rw [if_neg h0,if_neg (fun e=>h0 ((srt_nil h).1 e))]
def opn (b:List UInt8):List Rl × Int:=if 8000<b.length then ([],1) else match rdImg b with
 | none=>([],6)
 | some tab=>if imgT (tabOf (kfA tab []))=b then (kfA tab [],0) else ([],6)
theorem rlsRt_nil:RlsRt []:=⟨by simp,by simp,by simp⟩
theorem rdImg_ord {b:List UInt8} {tab:List (List Edg)} (h:rdImg b=some tab):Ordered tab:=by
 have key:∀ (m n:Nat) (b:List UInt8) (t:List (List Edg)),rdTab m n b=some t→∀ i es,t[i]? = some es→(es=[]↔n+i=0)∧∀ e∈es,e.2<n+i:=by
  intro m
  induction m with
  | zero =>
    intro n b t ht i es hi;unfold rdTab at ht;split at ht
    · obtain rfl:=Option.some.inj ht;simp at hi
    · cases ht
  | succ m ih =>
    intro n b t ht i es hi;cases b with
    | nil=>simp [rdTab] at ht
    | cons k r =>
      simp only [rdTab] at ht;split at ht
      · cases ht
      · rename_i es' r' he;split at ht
        · rename_i hc;obtain ⟨t',h1,rfl⟩:=Option.map_eq_some_iff.1 ht;cases i with
          | zero =>
            simp only [List.getElem?_cons_zero,Option.some.injEq] at hi;subst hi;exact hc
          | succ i =>
            rw [List.getElem?_cons_succ] at hi;have:=ih (n+1) r' t' h1 i es hi;rw [show n+1+i=n+(i+1) by omega] at this;exact this
        · cases ht
 unfold rdImg at h;split at h
 · intro i es hi;have:=key _ _ _ _ h i es hi
   rwa [Nat.zero_add] at this
 · cases h
theorem kfA_rt {tab:List (List Edg)} (ho:Ordered tab):RlsRt (kfA tab []):=by
 by_cases h0:tab=[]
 · unfold kfA;rw [if_pos h0];exact rlsRt_nil
 · rw [kfA_wds ho h0 tab.length [] (Nat.le_refl _)];exact tks_rt _ _ _ rlsRt_nil
theorem img_read {b:List UInt8} {rs:List Rl} (h:Img b rs):∃ tab,rdImg b=some tab∧kfA tab []=rs:=by
 obtain ⟨h1,h2,rfl⟩:=h;by_cases h0:rs=[]
 · subst h0;exact ⟨[],img_reads_nil,rfl⟩
 · obtain ⟨r1,r2,_,r4⟩:=img_reads h1.rls h0;obtain ⟨m1,m2,_⟩:=img_readsM (tabOf rs).length h1.rls h0;refine ⟨tabOf rs,r1,?_⟩;rw [kfA_wds m2 r2 (64+(tabOf rs).length) [] (by omega),m1,h2,tks_keys rs [] (by simpa using h1)];rfl
theorem opn_of {b:List UInt8} {rs:List Rl} (hb:b.length≤8000) (h:Img b rs):opn b=(rs,0):=by
 obtain ⟨tab,h1,h2⟩:=img_read h;unfold opn;rw [if_neg (by omega),h1];simp only;rw [h2,if_pos h.is]
theorem opn_is {b:List UInt8} (h:(opn b).2=0):b.length≤8000∧Img b (opn b).1:=by
 unfold opn at h ⊢;split
 · rename_i hc;rw [if_pos hc] at h;simp at h
 · rename_i hc;rw [if_neg hc] at h;refine ⟨by omega,?_⟩;cases hr:rdImg b with
   | none=>rw [hr] at h;simp at h
   | some tab =>
     rw [hr] at h;simp only at h ⊢;have hrt:=kfA_rt (rdImg_ord hr);obtain ⟨rs,hrs⟩:∃ rs,kfA tab []=rs:=⟨_,rfl⟩
     rw [hrs] at h hrt ⊢;split at h
     · rename_i hi;rw [if_pos hi];have hs:=img_srt hrt;rw [hi] at hs;obtain ⟨tab',t1,t2⟩:=img_read hs;rw [hr] at t1;obtain rfl:=Option.some.inj t1;rw [hrs] at t2;have:=hs.rise;rw [←t2] at this;exact ⟨hrt,this,hi⟩
     · simp at h
theorem opn_err (b:List UInt8):(opn b).2=0∨(8000<b.length∧opn b=([],1))∨(b.length≤8000∧opn b=([],6)):=by
 unfold opn;split
 · exact Or.inr (Or.inl ⟨by assumption,rfl⟩)
 · split
   · exact Or.inr (Or.inr ⟨by omega,rfl⟩)
   · split
     · exact Or.inl rfl
     · exact Or.inr (Or.inr ⟨by omega,rfl⟩)
end Go.Proofs.YtgohllfpceeboaaGreatDoor
