import Derived.Test.YtgohllfpceeboaaGreatDoorWnbf
import Derived.Test.YtgohllfpceeboaaGreatDoorWnbg
import Derived.Test.YtgohllfpceeboaaGreatDoorWnbh
namespace Go.Proofs.YtgohllfpceeboaaGreatDoor
open Sx
theorem splB_cons (a:UInt8) (r cur:List UInt8):splB (a :: r) cur=if a=46 then cur :: splB r [] else splB r (cur ++ [a]):=by conv=>lhs;unfold splB
theorem splB_app:∀ (x y cur:List UInt8),splB (x ++ 46 :: y) cur=splB x cur ++ splB y []
 | [],y,cur=>by simp [splB]
 | a :: x,y,cur=>by
   rw [List.cons_append,splB_cons,splB_cons];split
   · rw [splB_app x y []];rfl
   · exact splB_app x y _
theorem dotted_app:∀ (a t:List (List UInt8)),a≠[]→t≠[]→dotted (a ++ t)=dotted a ++ 46 :: dotted t
 | [],_,h,_=>absurd rfl h
 | [x],t,_,ht=>by
   cases t with
   | nil=>exact absurd rfl ht
   | cons y r=>simp [dotted]
 | x :: y :: r,t,_,ht=>by
   have:=dotted_app (y :: r) t (by simp) ht;rw [List.cons_append,List.cons_append,dotted_cons,←List.cons_append,this,dotted_cons];simp
theorem ho46 {h:List (List UInt8)} (hh:HostOk h):∀ x∈h,∀ b∈x,b≠46:=fun x hx b hb=>plB_no46 ((hh.2.2.2 x hx).2 b hb)
theorem dotted_eq {h t:List (List UInt8)} (hh:HostOk h) (ht:HostOk t):(dotted h=dotted t)↔h=t :=
 ⟨fun e=>dotted_inj h t hh.1 ht.1 (ho46 hh) (ho46 ht) e,fun e=>by rw [e]⟩
theorem splB_ne:∀ (x cur:List UInt8),splB x cur≠[]
 | [],cur=>by simp [splB]
 | a :: x,cur=>by
   unfold splB;split
   · simp
   · exact splB_ne x _
theorem suf_iff {h t:List (List UInt8)} (hh:HostOk h) (ht:HostOk t):suffixB (dotted h) (46 :: dotted t)=true↔endsL h t=true∧t.length<h.length:=by
 unfold suffixB endsL;simp only [Bool.and_eq_true,decide_eq_true_eq,beq_iff_eq];constructor
 · rintro ⟨h1,h2⟩;have e:dotted h=(dotted h).take ((dotted h).length-(46 :: dotted t).length) ++ 46 :: dotted t:=by
    conv=>lhs;rw [←List.take_append_drop ((dotted h).length-(46 :: dotted t).length) (dotted h),h2]
   have e2:=splB_dotted h hh.1 (ho46 hh);rw [e,splB_app,splB_dotted t ht.1 (ho46 ht)] at e2;obtain ⟨a,ha⟩:∃ a,splB ((dotted h).take ((dotted h).length-(46 :: dotted t).length)) []=a:=⟨_,rfl⟩
   have hne:=splB_ne ((dotted h).take ((dotted h).length-(46 :: dotted t).length)) [];rw [ha] at e2 hne;have hp:0<a.length:=List.length_pos_iff.2 hne;rw [←e2];simp only [List.length_append];refine ⟨⟨by omega,?_⟩,by omega⟩;rw [show a.length+t.length-t.length=a.length by omega,List.drop_left]
 · rintro ⟨⟨h1,h2⟩,h3⟩;have e:h=h.take (h.length-t.length) ++ t:=by
    conv=>lhs;rw [←List.take_append_drop (h.length-t.length) h,h2]
   have hne:h.take (h.length-t.length)≠[]:=by
    intro e0;have:=congrArg List.length e0;simp only [List.length_take,List.length_nil] at this;omega
   rw [e,dotted_app _ t hne ht.1];simp only [List.length_append,List.length_cons];refine ⟨by omega,?_⟩;rw [show (dotted (h.take (h.length-t.length))).length+((dotted t).length+1)-((dotted t).length+1)=(dotted (h.take (h.length-t.length))).length by omega,List.drop_left]
def fitB (r:Rl) (p:List UInt8):Bool:=suffixB p (46 :: dotted r.1) || (decide (p=dotted r.1) && decide (r.2.1≠42))
def prevB (r o:Rl):Bool:=if r.2.1≠o.2.1∧(r.2.1=33∨o.2.1=33) then decide (r.2.1=33) else if pubI r≠pubI o then decide (pubI r > pubI o) else decide (r.2.1=36)
def prvS (p:List UInt8) (best r:Rl):Rl:=if (fitB r p && prevB r best)=true then r else best
def prvl (rs:List Rl) (p:List UInt8):Rl:=rs.foldl (prvS p) ([],42,45)
theorem fit_is {h:List (List UInt8)} {r:Rl} (hh:HostOk h) (hr:RlOk r):fitN h r=if fitB r (dotted h)=true then some (r.1.length+if r.2.1=42 then 1 else 0) else none:=by
 have h1:=suf_iff hh hr.1;have h2:=dotted_eq hh hr.1;have hend:endsL h r.1=true→(r.1.length<h.length∨h=r.1):=by
  unfold endsL;simp only [Bool.and_eq_true,decide_eq_true_eq];rintro ⟨a,b⟩;by_cases hl:r.1.length<h.length
  · exact Or.inl hl
  · right;rw [show h.length-r.1.length=0 by omega,List.drop_zero] at b;exact b
 have hself:h=r.1→endsL h r.1=true:=by
  rintro rfl;simp [endsL]
 unfold fitN fitB;simp only [Bool.or_eq_true,Bool.and_eq_true,decide_eq_true_eq];by_cases he:endsL h r.1=true
 · rw [if_pos he];by_cases hk:r.2.1=42
   · rw [if_pos hk,if_pos hk];by_cases hl:r.1.length<h.length
     · rw [if_pos hl,if_pos (Or.inl (h1.2 ⟨he,hl⟩))]
     · rw [if_neg hl,if_neg];rintro (q | q)
       · exact hl (h1.1 q).2
       · exact q.2 hk
   · rw [if_neg hk,if_neg hk,if_pos]
     · rfl
     · rcases hend he with q | q
       · exact Or.inl (h1.2 ⟨he,q⟩)
       · exact Or.inr ⟨h2.2 q,hk⟩
 · rw [if_neg he,if_neg];rintro (q | q)
   · exact he (h1.1 q).1
   · exact he (hself (h2.1 q.1))
def Same (st:Option (Nat × Rl)) (best:Rl):Prop:=match st with
 | none=>best=([],42,45)
 | some (n,r)=>best=r∧RlRt r∧n=r.1.length+if r.2.1=42 then 1 else 0
theorem same_step {h:List (List UInt8)} (hh:HostOk h) {st:Option (Nat × Rl)} {best r:Rl} (hr:RlRt r) (hs:Same st best):Same (bestS h st r) (prvS (dotted h) best r):=by
 have hlen:0<r.1.length:=List.length_pos_iff.2 hr.ok.1.1;have hk:=hr.2.1;have hx:=hr.2.2.1;unfold bestS prvS;rw [fit_is hh hr.ok];cases hf:fitB r (dotted h) with
 | false=>simpa using hs
 | true =>
   simp only [if_true,Bool.true_and];cases st with
   | none =>
     obtain rfl:best=([],42,45):=hs;have:prevB r ([],42,45)=true:=by
      unfold prevB pubI;rcases hk with e | e | e
      · simp only [e];by_cases h1:r.1.length=1
        · simp [h1]
        · simp;omega
      · simp only [e];simp;omega
      · simp [e]
     rw [if_pos this];exact ⟨rfl,hr,rfl⟩
   | some x =>
     obtain ⟨cnt,b⟩:=x;obtain ⟨rfl,hb,rfl⟩:=hs;have hlb:0<best.1.length:=List.length_pos_iff.2 hb.ok.1.1;have hkb:=hb.2.1;simp only;have yes:prevB r best=(decide (r.2.1=33∧(best.2.1≠33∨(best.1.length+if best.2.1=42 then 1 else 0)<(r.1.length+if r.2.1=42 then 1 else 0))) || decide (r.2.1≠33∧best.2.1≠33∧((best.1.length+if best.2.1=42 then 1 else 0)<(r.1.length+if r.2.1=42 then 1 else 0)∨((r.1.length+if r.2.1=42 then 1 else 0)=(best.1.length+if best.2.1=42 then 1 else 0)∧r.2.1=36)))):=by
      rw [Bool.eq_iff_iff];unfold prevB pubI;rcases hk with e | e | e <;> rcases hkb with e' | e' | e' <;> simp only [e,e'] <;> simp <;> (try split) <;> (try simp) <;> (try omega)
     rw [yes];by_cases c1:r.2.1=33∧(best.2.1≠33∨(best.1.length+if best.2.1=42 then 1 else 0)<(r.1.length+if r.2.1=42 then 1 else 0))
     · rw [if_pos c1,decide_eq_true c1,Bool.true_or,if_pos rfl];exact ⟨rfl,hr,rfl⟩
     · rw [if_neg c1,decide_eq_false c1,Bool.false_or];by_cases c2:r.2.1≠33∧best.2.1≠33∧((best.1.length+if best.2.1=42 then 1 else 0)<(r.1.length+if r.2.1=42 then 1 else 0)∨((r.1.length+if r.2.1=42 then 1 else 0)=(best.1.length+if best.2.1=42 then 1 else 0)∧r.2.1=36))
       · rw [if_pos c2,if_pos (decide_eq_true c2)];exact ⟨rfl,hr,rfl⟩
       · rw [if_neg c2,decide_eq_false c2];exact ⟨rfl,hb,rfl⟩
theorem same_all {h:List (List UInt8)} (hh:HostOk h):∀ (rs:List Rl) (st:Option (Nat × Rl)) (best:Rl),(∀ r∈rs,RlRt r)→Same st best→Same (rs.foldl (bestS h) st) (rs.foldl (prvS (dotted h)) best)
 | [],_,_,_,hs=>hs
 | r :: rs,st,best,hr,hs=>same_all hh rs _ _ (fun q hq=>hr q (by simp [hq])) (same_step hh (hr r (by simp)) hs)
theorem prvl_pub {h:List (List UInt8)} (hh:HostOk h) {rs:List Rl} (hr:∀ r∈rs,RlRt r):pubI (prvl rs (dotted h))=((pubL h rs).1:Int)∧(prvl rs (dotted h)).2.2=(pubL h rs).2∧1≤(pubL h rs).1:=by
 have:=same_all hh rs none ([],42,45) hr rfl;unfold prvl pubL bestOf;cases hb:rs.foldl (bestS h) none with
 | none =>
   rw [hb] at this;have e:rs.foldl (prvS (dotted h)) ([],42,45)=([],42,45):=this;rw [e];exact ⟨rfl,rfl,Nat.le_refl _⟩
 | some x =>
   obtain ⟨n,r⟩:=x;rw [hb] at this;obtain ⟨e,hr,rfl⟩:=this;have hlen:0<r.1.length:=List.length_pos_iff.2 hr.ok.1.1;rw [e];unfold pubI;simp only;refine ⟨?_,trivial,?_⟩
   · rcases hr.2.1 with k | k | k
     · simp [k]
     · simp [k]
     · have:=hr.2.2.1 k;simp [k];omega
   · rcases hr.2.1 with k | k | k
     · simp [k];omega
     · simp [k]
     · have:=hr.2.2.1 k;simp [k];omega
theorem bestS_le (h:List (List UInt8)):∀ (rs:List Rl) (st:Option (Nat × Rl)),(∀ x,st=some x→x.1≤h.length)→∀ x,rs.foldl (bestS h) st=some x→x.1≤h.length
 | [],_,hs=>hs
 | r :: rs,st,hs=>bestS_le h rs _ (by
   intro x hx;have hfit:∀ n,fitN h r=some n→n≤h.length:=by
    intro n hn;unfold fitN endsL at hn;split at hn
    · rename_i he;simp only [Bool.and_eq_true,decide_eq_true_eq] at he;split at hn
      · split at hn
        · obtain rfl:=Option.some.inj hn;omega
        · cases hn
      · obtain rfl:=Option.some.inj hn;exact he.1
    · cases hn
   unfold bestS at hx;cases hf:fitN h r with
   | none=>rw [hf] at hx;exact hs x hx
   | some n =>
     rw [hf] at hx;have hn:=hfit n hf;cases st with
     | none=>simp only [Option.some.injEq] at hx;subst hx;exact hn
     | some y =>
       obtain ⟨c,b⟩:=y;simp only at hx;have hc:=hs (c,b) rfl;split at hx
       · obtain rfl:=Option.some.inj hx;exact hn
       · split at hx
         · obtain rfl:=Option.some.inj hx;exact hn
         · obtain rfl:=Option.some.inj hx;exact hc)
theorem pubL_le {h:List (List UInt8)} (hn:h≠[]) (rs:List Rl):(pubL h rs).1≤h.length:=by
 have hp:0<h.length:=List.length_pos_iff.2 hn;unfold pubL;have:=bestS_le h rs none (by simp);unfold bestOf;cases hb:rs.foldl (bestS h) none with
 | none=>simp only;omega
 | some x =>
   obtain ⟨n,r⟩:=x;have:=this _ hb;simp only at this ⊢;split <;> omega
def lastP (p:List UInt8) (n:Int):List UInt8:=if 1≤n∧n≤(pcs p).length then dotted ((pcs p).take n.toNat).reverse else []
theorem pcs_dottedH {h:List (List UInt8)} (hh:HostOk h):pcs (dotted h)=h.reverse:=by
 have:=pcs_revL (dotted h);rw [splB_dotted h hh.1 (ho46 hh)] at this;have h2:=congrArg List.reverse this
 rwa [List.reverse_reverse] at h2
theorem lastP_is {h:List (List UInt8)} (hh:HostOk h) (n:Nat) (hn:1≤n):lastP (dotted h) n=if n≤h.length then dotted (h.drop (h.length-n)) else []:=by
 unfold lastP;rw [pcs_dottedH hh,List.length_reverse];by_cases h1:n≤h.length
 · rw [if_pos h1,if_pos (by omega)];congr 1;rw [Int.toNat_natCast,List.take_reverse,List.reverse_reverse]
 · rw [if_neg h1,if_neg (by omega)]
theorem readRl_rt {line:List UInt8} {sec:UInt8} {r:Rl} (hs:sec=105∨sec=112) (h:readRl line sec=some r):RlRt r:=by
 unfold readRl at h;split at h
 · rename_i hc;obtain rfl:=Option.some.inj h;exact ⟨host_again hc.1,cutRl_kd line,hc.2,hs⟩
 · cases h
theorem addLn_rt {rs:List Rl} {sec:UInt8} {line:List UInt8} (hs:sec=105∨sec=112) (h:RlsRt rs):RlsRt (addLn rs sec line).1.1∧((addLn rs sec line).1.2=105∨(addLn rs sec line).1.2=112):=by
 unfold addLn;split
 · exact ⟨h,hs⟩
 · split
   · exact ⟨h,Or.inl rfl⟩
   · split
     · exact ⟨h,Or.inr rfl⟩
     · cases hr:readRl line sec with
       | none=>exact ⟨h,hs⟩
       | some r =>
         have:=addRl_rt h (readRl_rt hs hr);unfold addRl at this;simp only;split
         · exact ⟨h,hs⟩
         · rename_i h1;rw [if_neg h1] at this;split
           · exact ⟨h,hs⟩
           · rename_i h2;rw [if_neg h2] at this;exact ⟨this,hs⟩
theorem addLns_rt:∀ (l:List (List UInt8)) (rs:List Rl) (sec:UInt8) (n:Int),(sec=105∨sec=112)→RlsRt rs→RlsRt (addLns l rs sec n).1
 | [],_,_,_,_,h=>h
 | x :: r,rs,sec,n,hs,h=>by
   unfold addLns;obtain ⟨a,b⟩:=addLn_rt (line:=x) hs h;split
   · exact addLns_rt r _ _ _ b a
   · exact h
theorem addAll_rt:∀ (l:List (List UInt8)) (rs:List Rl) (n:Int),RlsRt rs→RlsRt (addAll l rs n).1
 | [],_,_,h=>h
 | s :: r,rs,n,h=>by
   unfold addAll;split
   · exact addAll_rt r _ _ (addLns_rt _ _ _ _ (Or.inl rfl) h)
   · exact addLns_rt _ _ _ _ (Or.inl rfl) h
end Go.Proofs.YtgohllfpceeboaaGreatDoor
namespace Sx
theorem dotted_len61 {h:List (List UInt8)} (hh:HostOk h):(dotted h).length≤60:=by
 have h1:=hh.2.2.1;obtain ⟨x,t,rfl⟩:=List.exists_cons_of_ne_nil hh.1;have:∀ q:List (List UInt8),(q.flatMap fun y=>46 :: y).length=allLen q:=by
  intro q
  induction q with
  | nil=>rfl
  | cons a q ih=>simp only [List.flatMap_cons,List.length_append,ih,allLen,List.map_cons,List.sum_cons,List.length_cons]
 simp only [dotted,List.length_append,this];simp only [allLen,List.map_cons,List.sum_cons] at h1;simp only [allLen];omega
theorem dotted_head {h:List (List UInt8)} (hh:HostOk h):∃ b r,dotted h=b :: r∧plB b:=by
 obtain ⟨x,t,rfl⟩:=List.exists_cons_of_ne_nil hh.1;obtain ⟨hx,hb⟩:=hh.2.2.2 x (by simp);obtain ⟨b,r,rfl⟩:=List.exists_cons_of_ne_nil hx;exact ⟨b,r ++ t.flatMap fun y=>46 :: y,rfl,hb b (by simp)⟩
theorem cut_line {r:Rl} (h:RlOk r):cutRl (rlLine r)=(r.2.1,dotted r.1):=by
 obtain ⟨H,k,s⟩:=r;obtain ⟨b,q,hd,hb⟩:=dotted_head h.1;dsimp only at hd;unfold cutRl rlLine;rcases h.2 with e | e | e
 · dsimp only at e;subst e;simp only [hd];unfold plB at hb;rw [if_neg,if_neg]
   · rfl
   · rintro e;simp at e;subst e;simp at hb
   · rintro e;simp at e;rw [e.1] at hb;simp at hb
 · dsimp only at e;subst e;simp
 · dsimp only at e;subst e;simp
theorem read_line {r:Rl} (h:RlRt r):readRl (rlLine r) r.2.2=some r:=by
 unfold readRl;rw [cut_line h.ok,h.1];simp only;rw [if_pos ⟨trivial,h.2.2.1⟩]
theorem line_head {r:Rl} (h:RlOk r):∃ b q,rlLine r=b :: q∧(plB b∨b=42∨b=33):=by
 obtain ⟨H,k,s⟩:=r;obtain ⟨b,q,hd,hb⟩:=dotted_head h.1;dsimp only at hd;unfold rlLine;rcases h.2 with e | e | e
 · dsimp only at e;subst e;exact ⟨b,q,by simp [hd],Or.inl hb⟩
 · dsimp only at e;subst e;exact ⟨42,_,by simp;rfl,Or.inr (Or.inl rfl)⟩
 · dsimp only at e;subst e;exact ⟨33,_,by simp;rfl,Or.inr (Or.inr rfl)⟩
theorem addLn_line {rs:List Rl} {r:Rl} (h:RlsRt (rs ++ [r])):addLn rs r.2.2 (rlLine r)=((rs ++ [r],r.2.2),0):=by
 have hr:RlRt r:=h.ok r (by simp);obtain ⟨b,q,hd,hb⟩:=line_head hr.ok;have hb2:b≠47∧b≠61:=by
  unfold plB at hb;constructor
  · rintro rfl;simp at hb
  · rintro rfl;simp at hb
 unfold addLn;rw [if_neg,if_neg,if_neg,read_line hr]
 · simp only;rw [if_neg,if_neg]
   · have:=h.many;simp only [List.length_append,List.length_singleton] at this;omega
   · intro hk;obtain ⟨q,hq,e⟩:=(known_iff (fun q hq=>(h.ok q (by simp [hq])).ok) hr.ok).1 hk;exact (List.pairwise_append.1 h.apart).2.2 q hq r (by simp) e
 · rw [hd];intro e;injection e with e _;exact hb2.2 e
 · rw [hd];intro e;injection e with e _;exact hb2.2 e
 · rw [hd];rintro (e | e)
   · cases e
   · cases q with
     | nil=>simp at e
     | cons c q=>simp at e;exact hb2.1 e.1
theorem linesGo_run:∀ (x r cur:List UInt8),(10:UInt8) ∉ x→linesGo (x ++ 10 :: r) cur=(cur ++ x) :: linesOf r
 | [],r,cur,_=>by simp [linesGo,linesOf]
 | b :: x,r,cur,h=>by
   have hb:b≠10:=fun e=>h (by simp [e]);have ih:=linesGo_run x r (cur ++ [b]) (fun e=>h (by simp [e]));rw [List.cons_append]
   conv=>lhs;unfold linesGo
   rw [if_neg hb,ih];simp
theorem line_no10 {r:Rl} (h:RlOk r):(10:UInt8) ∉ rlLine r:=by
 intro hm;unfold rlLine at hm;rcases List.mem_append.1 hm with hm | hm
 · repeat' split at hm
   all_goals simp at hm
 · rcases dotted_bytes (fun x hx=>(h.1.2.2.2 x hx).2) 10 hm with q | q
   · unfold plB at q;simp at q
   · cases q
end Sx
namespace Go.Proofs.YtgohllfpceeboaaGreatDoor
open Sx
end Go.Proofs.YtgohllfpceeboaaGreatDoor
namespace Sx
end Sx
namespace Sx
theorem host_err {s:List UInt8} (h:(host s).2≠0):(host s).1=[]:=by
 unfold host at h ⊢;split
 · rfl
 · rename_i hc;rw [if_neg hc] at h;cases hl:letters s with
   | none=>rfl
   | some l =>
     rw [hl] at h;simp only at h ⊢;cases hg:hostGo l [] with
     | none=>rfl
     | some H =>
       rw [hg] at h;simp only at h ⊢;unfold hostEnd at h ⊢;split
       · rfl
       · rename_i hc;rw [if_neg hc] at h;simp at h
theorem steady_err (s:List UInt8) (h:(plainR s).2≠0):(plainR s).1=[]∧(shownR s).1=[]:=by
 have h0:=host_err (s:=s) h;exact ⟨by unfold plainR;rw [h0];rfl,by unfold shownR;rw [h0];rfl⟩
end Sx
namespace Sx
theorem dots_le (M:Nat):∀ (q:List (List UInt8)),(∀ x∈q,x.length≤M)→(dotted q).length≤q.length*(M+1)
 | [],_=>by simp [dotted]
 | [x],h=>by have:=h x (by simp);simp [dotted];omega
 | x :: y :: r,h=>by
   have h1:=h x (by simp);have h2:=dots_le M (y :: r) (fun z hz=>h z (by simp [hz]));rw [dotted_cons,List.length_append,List.length_cons];simp only [List.length_cons] at h2 ⊢;rw [Nat.succ_mul];omega
end Sx
namespace Sx
theorem addLns_ok1 {x:List UInt8} {r:List (List UInt8)} {rs rs':List Rl} {sec sec':UInt8} {n:Int} (h:addLn rs sec x=((rs',sec'),0)):addLns (x :: r) rs sec n=addLns r rs' sec' (n+1):=by
 conv=>lhs;unfold addLns
 rw [h];simp
theorem linesOf_cut {x r:List UInt8} (h:(10:UInt8) ∉ x):linesOf (x ++ 10 :: r)=x :: linesOf r:=by
 show linesGo _ []=_;rw [linesGo_run x r [] h];simp
theorem linesOf_one {x:List UInt8} (h:(10:UInt8) ∉ x) (h0:x≠[]):linesOf x=[x]:=by
 have:∀ (x cur:List UInt8),(10:UInt8) ∉ x→linesGo x cur=if cur ++ x=[] then [] else [cur ++ x]:=by
  intro x
  induction x with
  | nil=>intro cur _;simp [linesGo]
  | cons b x ih =>
    intro cur h;have hb:b≠10:=fun e=>h (by simp [e])
    conv=>lhs;unfold linesGo
    rw [if_neg hb,ih (cur ++ [b]) (fun e=>h (by simp [e]))];simp
 show linesGo x []=_;rw [this x [] h];simp [h0]
theorem RlsRt.cut {a b:List Rl} (h:RlsRt (a ++ b)):RlsRt a:=⟨fun r hr=>h.ok r (by simp [hr]),(List.pairwise_append.1 h.apart).1,by have:=h.many;rw [List.length_append] at this;omega⟩
end Sx
namespace Sx
open Go.Proofs.YtgohllfpceeboaaGreatDoor (suffixB)
theorem getD_app_r (a b:List UInt8) (i:Nat):(a ++ b).getD (a.length+i) 0=b.getD i 0:=by
 rw [List.getD_eq_getElem?_getD,List.getD_eq_getElem?_getD,List.getElem?_append_right (by omega)];congr 2;omega
end Sx
namespace Go.Proofs.YtgohllfpceeboaaGreatDoor
open Sx
def wysF:Nat→List (List Edg)→Nat→List UInt8→List Wd→List Wd
 | 0,_,_,_,ks=>ks
 | f+1,tab,s,ahead,ks=>if s=0 then ks ++ [ahead] else
   ((tab[s]?).getD []).foldl (fun acc e=>if acc.length≤30 then wysF f tab e.2 (ahead ++ [e.1]) acc else acc) ks
theorem wysF_more (f:Nat) (tab:List (List Edg)) (s:Nat) (ahead:List UInt8) (ks:List Wd) (es:List Edg) (h0:s≠0) (h:tab[s]? = some es):wysF (f+1) tab s ahead ks=es.foldl (fun acc e=>if acc.length≤30 then wysF f tab e.2 (ahead ++ [e.1]) acc else acc) ks:=by
 have e:wysF (f+1) tab s ahead ks=if s=0 then ks ++ [ahead] else ((tab[s]?).getD []).foldl (fun acc e=>if acc.length≤30 then wysF f tab e.2 (ahead ++ [e.1]) acc else acc) ks:=rfl
 rw [e,if_neg h0,h];rfl
theorem wysF_wds {tab:List (List Edg)} (ho:Ordered tab):∀ (n m s:Nat) (ahead:List UInt8) (ks:List Wd),s<tab.length→s<n→s<m→ks.length≤30→wysF n tab s ahead ks=ks ++ ((wds m tab s).map (ahead ++ ·)).take (31-ks.length)
 | 0,_,_,_,_,_,h,_,_=>absurd h (by omega)
 | n+1,0,_,_,_,_,_,h,_=>absurd h (by omega)
 | n+1,m+1,s,ahead,ks,hs,hn,hm,hk=>by
   obtain ⟨es,hes⟩:∃ es,tab[s]? = some es:=⟨_,List.getElem?_eq_getElem hs⟩
   obtain ⟨o1,o2⟩:=ho s es hes;by_cases h0:s=0
   · have e:wysF (n+1) tab s ahead ks=if s=0 then ks ++ [ahead] else ((tab[s]?).getD []).foldl (fun acc e=>if acc.length≤30 then wysF n tab e.2 (ahead ++ [e.1]) acc else acc) ks:=rfl
     rw [e,if_pos h0,wds_last (by rw [hes,o1.2 h0])];simp only [List.map_cons,List.map_nil,List.append_nil];rw [List.take_of_length_le (by simp;omega)]
   · rw [wysF_more n tab s ahead ks es h0 hes,wds_more hes (fun e=>h0 (o1.1 e))];have:∀ (l:List Edg) (acc:List Wd),(∀ e∈l,e.2<s)→acc.length≤31→l.foldl (fun acc e=>if acc.length≤30 then wysF n tab e.2 (ahead ++ [e.1]) acc else acc) acc=acc ++ ((l.flatMap fun e=>(wds m tab e.2).map (e.1 :: ·)).map (ahead ++ ·)).take (31-acc.length):=by
      intro l
      induction l with
      | nil=>intro acc _ _;simp
      | cons e l ih =>
        intro acc hl ha;have hes:=hl e (by simp);rw [List.foldl_cons,List.flatMap_cons,List.map_append,List.take_append];have hone:(if acc.length≤30 then wysF n tab e.2 (ahead ++ [e.1]) acc else acc)=acc ++ (((wds m tab e.2).map (e.1 :: ·)).map (ahead ++ ·)).take (31-acc.length):=by
         by_cases h30:acc.length≤30
         · rw [if_pos h30,wysF_wds ho n m e.2 (ahead ++ [e.1]) acc (by omega) (by omega) (by omega) h30,List.map_map];congr 2;apply List.map_congr_left;intro w _;simp
         · rw [if_neg h30,show 31-acc.length=0 by omega];simp
        rw [hone,ih _ (fun x hx=>hl x (by simp [hx])) (by rw [List.length_append,List.length_take];omega)];rw [List.append_assoc];congr 2;rw [List.length_append,List.length_take];congr 1;omega
     exact this es ks o2 (by omega)
def wysA (tab:List (List Edg)):List Wd:=if tab=[] then [] else wysF tab.length tab (tab.length-1) [] []
theorem wysA_wds {tab:List (List Edg)} (ho:Ordered tab) (h0:tab≠[]) (k:Nat) (hk:tab.length≤k):wysA tab=(wds k tab (tab.length-1)).take 31:=by
 have hp:0<tab.length:=List.length_pos_iff.2 h0;unfold wysA;rw [if_neg h0,wysF_wds ho tab.length k (tab.length-1) [] [] (by omega) (by omega) (by omega) (by simp)];simp
def rawKey (k:Wd):Rl:=((splB (k.take (k.length-2)) []).reverse,k.getD (k.length-2) 0,k.getD (k.length-1) 0)
def listK (r:Rl):List UInt8:=[61,61,61,r.2.2,10] ++ rlLine r
def agS (acc:Option (List Rl)) (x:List UInt8):Option (List Rl):=match acc with
 | none=>none
 | some rs=>if 2000<x.length then none else match addAll [x] [] 0 with
   | ([r],m,_)=>if m=0 then (if known rs r then none else some (rs ++ [r])) else none
   | _=>none
def opnD (b:List UInt8):List Rl × Int:=if 8000<b.length then ([],1) else match rdImg b with
 | none=>([],6)
 | some tab=>if 30<(wysA tab).length then ([],6) else if (wysA tab).any (fun k=>decide (k.length<3)) then ([],6)
   else match ((wysA tab).map fun k=>listK (rawKey k)).foldl agS (some []) with
    | none=>([],6)
    | some ps=>if imgT (tabOf ps)=b then ((wysA tab).map rawKey,0) else ([],6)
theorem rawKey_key {r:Rl} (h:RlOk r):rawKey (rlKey r)=r∧3≤(rlKey r).length:=by
 obtain ⟨H,k,s⟩:=r;have hH:=h.1;dsimp only at hH;have hd:splB (dotted H.reverse) []=H.reverse:=splB_dotted H.reverse (by simpa using hH.1) (fun x hx b hb=>plB_no46 ((hH.2.2.2 x (by simpa using hx)).2 b hb));have hpos:1≤(dotted H.reverse).length:=by
  have hne:H.reverse≠[]:=by simpa using hH.1
  obtain ⟨x,t,ht⟩:=List.exists_cons_of_ne_nil hne;have hx:=(hH.2.2.2 x (by rw [←List.mem_reverse,ht];simp)).1;have:=List.length_pos_iff.2 hx;rw [ht];simp only [dotted,List.length_append];omega
 unfold rawKey Sx.rlKey Sx.keyOf;dsimp only;have e2:(dotted H.reverse ++ [k,s]).length=(dotted H.reverse).length+2:=by simp
 rw [e2];refine ⟨?_,by omega⟩;rw [show (dotted H.reverse).length+2-2=(dotted H.reverse).length by omega,List.take_left,hd,List.reverse_reverse];have g1:=getD_app_r (dotted H.reverse) [k,s] 0;have g2:=getD_app_r (dotted H.reverse) [k,s] 1;rw [Nat.add_zero] at g1;rw [show (dotted H.reverse).length+2-1=(dotted H.reverse).length+1 by omega,g1,g2];rfl
theorem listK_reads {rs:List Rl} {r:Rl} (h:RlsRt (rs ++ [r])):agS (some rs) (listK r)=some (rs ++ [r]):=by
 have hr:RlRt r:=h.ok r (by simp);have hn:=line_no10 hr.ok;have hl:(rlLine r).length≤62:=by
  have h2:=dotted_len61 hr.ok.1;unfold rlLine;rw [List.length_append]
  repeat' split
  all_goals simp
  all_goals omega
 have h1:RlsRt ([] ++ [r]):=⟨by simpa using hr,by simp,by simp⟩
 have hne:rlLine r≠[]:=by
  obtain ⟨b,q,e,_⟩:=line_head hr.ok;rw [e];simp
 have hadd:addAll [listK r] [] 0=([r],0,0+1+1):=by
  unfold addAll;have e:listK r=[61,61,61,r.2.2] ++ 10 :: rlLine r:=rfl;have hs:addLn [] 105 [61,61,61,r.2.2]=(([],r.2.2),0):=by
   unfold addLn;rcases hr.2.2.2 with e | e <;> rw [e] <;> simp
  have hl:addLns (linesOf (listK r)) [] 105 0=([r],0,0+1+1):=by
   rw [e,linesOf_cut (by rcases hr.2.2.2 with e | e <;> rw [e] <;> simp),linesOf_one hn hne,addLns_ok1 hs,addLns_ok1 (addLn_line h1)];rfl
  rw [hl];simp [addAll]
 unfold agS;simp only;rw [if_neg (by unfold listK;rw [List.length_append];simp;omega),hadd];simp only [if_true];rw [if_neg];intro hk;obtain ⟨q,hq,e⟩:=(known_iff (fun q hq=>(h.ok q (by simp [hq])).ok) hr.ok).1 hk;exact (List.pairwise_append.1 h.apart).2.2 q hq r (by simp) e
theorem agS_all:∀ (l acc:List Rl),RlsRt (acc ++ l)→(l.map listK).foldl agS (some acc)=some (acc ++ l)
 | [],acc,_=>by simp
 | r :: l,acc,h=>by
   rw [List.map_cons,List.foldl_cons,listK_reads (RlsRt.cut (b:=l) (by simpa using h)),agS_all l (acc ++ [r]) (by simpa using h)];simp
theorem agS_none:∀ l:List (List UInt8),l.foldl agS none=none
 | []=>rfl
 | _ :: l=>agS_none l
theorem agS_rt {acc:List Rl} {x:List UInt8} {ps:List Rl} (h:RlsRt acc) (hl:acc.length<30) (e:agS (some acc) x=some ps):RlsRt ps∧ps.length=acc.length+1:=by
 have hrt:=addAll_rt [x] [] 0 rlsRt_nil;unfold agS at e;simp only at e;split at e
 · cases e
 · split at e
   · rename_i r m n hq;rw [hq] at hrt;split at e
     · split at e
       · cases e
       · rename_i hk;obtain rfl:=Option.some.inj e;have hr:RlRt r:=hrt.ok r (by simp);refine ⟨⟨fun q hq=>?_,?_,?_⟩,by simp⟩
         · rcases List.mem_append.1 hq with hq | hq
           · exact h.ok q hq
           · rw [List.mem_singleton.1 hq];exact hr
         · rw [List.pairwise_append];refine ⟨h.apart,by simp,fun a ha b hb=>?_⟩;rw [List.mem_singleton.1 hb];exact fun e=>hk ((known_iff (fun q hq=>(h.ok q hq).ok) hr.ok).2 ⟨a,ha,e⟩)
         · simp only [List.length_append,List.length_singleton];omega
     · cases e
   · cases e
theorem agS_rts:∀ (l:List (List UInt8)) (acc ps:List Rl),RlsRt acc→acc.length+l.length≤30→l.foldl agS (some acc)=some ps→RlsRt ps
 | [],acc,ps,h,_,e=>by obtain rfl:=Option.some.inj e;exact h
 | x :: l,acc,ps,h,hl,e=>by
   rw [List.foldl_cons] at e;cases ha:agS (some acc) x with
   | none=>rw [ha,agS_none] at e;cases e
   | some qs =>
     rw [ha] at e;rw [List.length_cons] at hl;obtain ⟨h1,h2⟩:=agS_rt h (by omega) ha;exact agS_rts l qs ps h1 (by omega) e
theorem opnD_eq (b:List UInt8):opnD b=opn b:=by
 have hyes:(opn b).2=0→opnD b=opn b:=by
  intro h0;obtain ⟨hl,hI⟩:=opn_is h0;obtain ⟨rs,hrs⟩:∃ rs,(opn b).1=rs:=⟨_,rfl⟩
  rw [hrs] at hI;have ho:opn b=(rs,0):=by rw [←hrs,←h0]
  obtain ⟨hrt,hrise,his⟩:=hI;rw [ho];have hwys:∃ tab,rdImg b=some tab∧wysA tab=rs.map rlKey:=by
   by_cases hn:rs=[]
   · refine ⟨[],?_,?_⟩
     · rw [←his,hn];exact img_reads_nil
     · rw [hn];rfl
   · obtain ⟨r1,r2,_,_⟩:=img_reads hrt.rls hn;obtain ⟨m1,m2,_⟩:=img_readsM (tabOf rs).length hrt.rls hn;refine ⟨tabOf rs,by rw [←his];exact r1,?_⟩;rw [wysA_wds m2 r2 (64+(tabOf rs).length) (by omega),m1,hrise,List.take_of_length_le];rw [List.length_map];have:=hrt.many;omega
  obtain ⟨tab,t1,t2⟩:=hwys;have hmany:=hrt.many;unfold opnD;rw [if_neg (by omega),t1];simp only;rw [t2,if_neg (by rw [List.length_map];omega),if_neg]
  · have e1:(rs.map rlKey).map rawKey=rs:=by
     rw [List.map_map]
     conv=>rhs;rw [←List.map_id rs]
     exact List.map_congr_left fun r hr=>(rawKey_key (hrt.ok r hr).ok).1
    have e2:(rs.map rlKey).map (fun k=>listK (rawKey k))=rs.map listK:=by
     rw [List.map_map];refine List.map_congr_left fun r hr=>?_;simp only [Function.comp];rw [(rawKey_key (hrt.ok r hr).ok).1]
    rw [e2,agS_all rs [] (by simpa using hrt),List.nil_append];simp only;rw [if_pos his,e1]
  · rw [List.any_eq_true];rintro ⟨k,hk,e⟩;obtain ⟨r,hr,rfl⟩:=List.mem_map.1 hk;have:=(rawKey_key (hrt.ok r hr).ok).2;simp only [decide_eq_true_eq] at e;omega
 rcases opn_err b with h | ⟨h1,h2⟩ | ⟨h1,h2⟩
 · exact hyes h
 · rw [h2];unfold opnD;rw [if_pos h1]
 · rw [h2];have hno:(opn b).2≠0:=by rw [h2];simp
   unfold opnD;rw [if_neg (by omega)];cases hr:rdImg b with
   | none=>rfl
   | some tab =>
     simp only;split
     · rfl
     · rename_i h30;split
       · rfl
       · cases hf:((wysA tab).map fun k=>listK (rawKey k)).foldl agS (some []) with
         | none=>rfl
         | some ps =>
           simp only;split
           · rename_i hi;exfalso;have hps:=agS_rts _ [] ps rlsRt_nil (by rw [List.length_map,List.length_nil];omega) hf;have hI:=img_srt hps;rw [hi] at hI;exact hno (by rw [opn_of h1 hI])
           · rfl
end Go.Proofs.YtgohllfpceeboaaGreatDoor
