import Derived.Test.YtgohllfpceeboabGreatDoorAnad
import Derived.Test.YtgohllfpceeboabGreatDoorAnat
import Derived.Laws.ResultCell
set_option maxRecDepth 100000
set_option maxHeartbeats 2000000
namespace Go.Proofs.YtgohllfpceeboabGreatDoor
open Go.RowKit
theorem jL {w:World}{B B' n:Nat}{e:TypeId}{z:Nat}{v:Value}{xs:List Value}(h:w.ownsRow B e z v n xs)(hk:B'≤B):w.ownsRow B' e z v n xs:=by
 refine⟨h.1,?_⟩;rcases h.2 with h2 | ⟨g,cap,cur,hv,hg,r⟩
 · exact .inl h2
 · exact .inr ⟨g,cap,cur,hv,Nat.le_trans hk hg,r⟩
theorem aB {w:World}{B n:Nat}{e:TypeId}{z:Nat}{v:Value}{xs:List Value}(h:w.ownsRow B e z v n xs):∃ p cap,v=.slice p n cap:=by
 rcases h.2 with ⟨rfl,rfl⟩ | ⟨g,cap,cur,hv,_⟩
 · exact⟨none,0,rfl⟩
 · exact⟨_,cap,hv⟩
def DU (s:List UInt8)(sec:UInt8)(B:Nat)(w:World)(e:Ending)(w':World):Prop :=
 Below B w w'∧∃ (v:Value) (kd:UInt8),(∃ p m c,v=.slice p m c)∧e=.returned (.tuple #[.agg #[v,.int .u8 kd.toNat,.int .u8 sec.toNat],.bool (Sx.cN s sec).isSome])∧∀ r,Sx.cN s sec=some r→r.2.1=kd∧r.2.2=sec∧w'.ownsRow B 9 1 v r.1.length (bB r.1)∧r.1.length≤6∧∀ x∈r.1,x.length≤20
theorem kA {s:List UInt8}{sec kd:UInt8}{t:List UInt8}(hc:Sx.dV s=(kd,t)):(Sx.cN s sec).isSome=(decide ((Sx.aI t).2=0) && (decide (kd≠33) || decide (1<(Sx.aI t).1.length)))∧∀ r,Sx.cN s sec=some r→r=((Sx.aI t).1,kd,sec):=by
 unfold Sx.cN;rw[hc];constructor
 · by_cases h:(Sx.aI t).2=0∧(kd=33→1<(Sx.aI t).1.length)
   · rw[if_pos h];obtain⟨h1,h2⟩:=h;by_cases h3:kd=33
     · simp[h1,h2 h3]
     · simp[h1,h3]
   · rw[if_neg h];by_cases h1:(Sx.aI t).2=0
     · by_cases h3:kd=33
       · have:¬ 1<(Sx.aI t).1.length:=fun h4=>h ⟨h1,fun _=>h4⟩;simp[h3,this]
       · exact absurd ⟨h1,fun e=>absurd e h3⟩ h
     · simp[h1]
 · intro r hr;split at hr
   · exact(Option.some.inj hr).symm
   · cases hr
theorem aY (w:World)(A:Obj)(cs:Array Value)(t:TypeId)(j:Nat):((w.alloc A).alloc (.cells cs t)).cell? ⟨w.heap.size+1,j,none⟩=cs[j]?:=by
 have hz:(w.alloc A).heap.size=w.heap.size+1:=World.size_alloc _ _;rw[←hz,World.cell?_alloc_mark]
theorem eM (w:World)(A:Obj)(cs:Array Value)(t:TypeId)(j:Nat):((w.alloc A).alloc (.cells cs t)).frozen? ⟨w.heap.size+1,j,none⟩=false:=by
 have hz:(w.alloc A).heap.size=w.heap.size+1:=World.size_alloc _ _;rw[←hz];simp
theorem jH {s:List UInt8}{sec kd:UInt8}{t:List UInt8}{w w1:World}{A:Obj}{cs:Array Value}{ty:TypeId}{v:Value}(b:Bool)(a0 a1 a2:Value)(HC:Hid ((Sx.cN s sec).isSome=(decide ((Sx.aI t).2=0) && (decide (kd≠33) || decide (1<(Sx.aI t).1.length)))∧∀ r,Sx.cN s sec=some r→r=((Sx.aI t).1,kd,sec)))
 (hB:Below ((w.alloc A).alloc (.cells cs ty)).heap.size ((w.alloc A).alloc (.cells cs ty)) w1) (ho:w1.ownsRow ((w.alloc A).alloc (.cells cs ty)).heap.size 9 1 v (Sx.aI t).1.length (bB (Sx.aI t).1)) (h6:(Sx.aI t).1.length≤6) (hx:∀ x∈(Sx.aI t).1,x.length≤20) (hb:(decide ((Sx.aI t).2=0) && (decide (kd≠33) || decide (1<(Sx.aI t).1.length)))=b) :
 DU s sec w.heap.size w (.returned (.tuple #[.agg #[v,.int .u8 kd.toNat,.int .u8 sec.toNat],.bool b])) ((((w1.setCell ⟨w.heap.size+1,0,none⟩ v).setCell ⟨w.heap.size,0,none⟩ a0).setCell ⟨w.heap.size,1,none⟩ a1).setCell ⟨w.heap.size,2,none⟩ a2):=by
 obtain⟨h1,h2⟩:=HC.out;have hz1:((w.alloc A).alloc (.cells cs ty)).heap.size=w.heap.size+2:=by rw[World.size_alloc,World.size_alloc]
 have hB0:Below w.heap.size w w1:=(((Below.refl _ w).alloc (Nat.le_refl _) A).alloc (by simp) (.cells cs ty)).trans (hB.mono (by omega));have hs1:∀ (k o:Nat) (x:Value) (W:World),Below w.heap.size w W→w.heap.size≤k→Below w.heap.size w (W.setCell ⟨k,o,none⟩ x):=fun k o x W h hk=>h.setCell (show w.heap.size≤(⟨k,o,none⟩:Addr).block from hk) _;refine⟨hs1 _ _ _ _ (hs1 _ _ _ _ (hs1 _ _ _ _ (hs1 _ _ _ _ hB0 (by omega)) (Nat.le_refl _)) (Nat.le_refl _)) (Nat.le_refl _),v,kd,(by obtain⟨p,c,hv⟩:=aB ho;exact⟨p,_,c,hv⟩),by rw[h1,hb],fun r hr=>?_⟩;have:=h2 r hr;subst this;refine⟨rfl,rfl,?_,h6,hx⟩;rw[hz1] at ho;have hst:∀ (k o:Nat) (x:Value) (W:World),k<w.heap.size+2→W.ownsRow (w.heap.size+2) 9 1 v (Sx.aI t).1.length (bB (Sx.aI t).1)→(W.setCell ⟨k,o,none⟩ x).ownsRow (w.heap.size+2) 9 1 v (Sx.aI t).1.length (bB (Sx.aI t).1):=by
  intro k o x W hk h;have hg:W.grownBy (W.setCell ⟨k,o,none⟩ x) (some k):=⟨rfl,rfl,rfl,by rw[World.size_setCell];exact Nat.le_refl _,fun j hj hne=>heap_setCell_other _ _ _ _ (fun e=>hne (by rw[e]))⟩
  refine h.kept hg (.inr ?_);intro e;have:=(h.lt _ e).1;omega
 exact jL (hst _ _ _ _ (by omega) (hst _ _ _ _ (by omega) (hst _ _ _ _ (by omega) (hst _ _ _ _ (by omega) ho)))) (by omega)
theorem aZ (w:World)(cs:Array Value)(t:TypeId)(A:Obj)(j:Nat):((w.alloc (.cells cs t)).alloc A).cell? ⟨w.heap.size,j,none⟩=cs[j]?:=by
 rw[World.cell?_alloc_lt _ _ _ (by simp),World.cell?_alloc_mark]
theorem eL (w:World)(cs:Array Value)(t:TypeId)(A:Obj)(j:Nat):((w.alloc (.cells cs t)).alloc A).frozen? ⟨w.heap.size,j,none⟩=false:=by
 simp
theorem TU {s:ByteArray}(e:((s.extract 0 2).toList == [42,46])=true):Sx.dV s.data.toList=(42,(s.extract 2 s.size).data.toList):=by
 unfold Sx.dV;rw[←iO,←ByteArray.toList_eq,if_pos (by simpa using e),lV]
theorem take1 {s:ByteArray}(h:0<s.size):s.data.toList.take 1=[s.data.toList[0]'(by rw[aC];exact h)]:=by
 have:0<s.data.toList.length:=by rw[aC];exact h
 obtain⟨x,r,hx⟩:=List.exists_cons_of_ne_nil (List.ne_nil_of_length_pos this);simp[hx]
theorem MV {s:ByteArray}(e:s.size<2∨((s.extract 0 2).toList == [42,46])=false):s.data.toList.take 2≠[42,46]:=by
 intro h;rcases e with e | e
 · have:=congrArg List.length h;rw[List.length_take,aC] at this;simp at this;omega
 · rw[←iO,←ByteArray.toList_eq] at h;simp[h] at e
theorem ZV {s:ByteArray}(h:0<s.size)(e:s.size<2∨((s.extract 0 2).toList == [42,46])=false)(h0:s.data.toList[0]'(by rw[aC];exact h)=33):Sx.dV s.data.toList=(33,(s.extract 1 s.size).data.toList):=by
 unfold Sx.dV;rw[if_neg (MV e),take1 h,h0,if_pos rfl,lV]
theorem zP {s:ByteArray}(e:s.size<2∨((s.extract 0 2).toList == [42,46])=false)(h0:∀ h:0<s.size,s.data.toList[0]'(by rw[aC];exact h)≠33):Sx.dV s.data.toList=(36,s.data.toList):=by
 unfold Sx.dV;rw[if_neg (MV e),if_neg];intro h;by_cases hz:0<s.size
 · rw[take1 hz] at h;exact h0 hz (by simpa using h)
 · have:=congrArg List.length h;rw[List.length_take,aC] at this;simp at this;omega
theorem SJ (s:ByteArray)(sec:UInt8)(w:World):Calls Tryz.prog 207 #[.string s,.int .u8 sec.toNat] w (DU s.data.toList sec w.heap.size w):=by
 by_cases hstar:2≤s.size∧((s.extract 0 2).toList == [42,46])=true
 · obtain⟨h2,e2⟩:=hstar;have HC:=hide (kA (sec:=sec) (TU e2));go_enter Tryz.func207,Tryz.ntmps207;go_wp2_with fail
   generalize s.extract 2 s.size=T at HC ⊢;refine(dR _ _).mono ?_;rintro e w1 ⟨hB,v,rfl,ho,h6,hx⟩;have k0:=(hB.cell (p:=⟨w.heap.size+1,0,none⟩) (by simp)).trans (aY _ _ _ _ _);have k1:=(hB.cell (p:=⟨w.heap.size+1,1,none⟩) (by simp)).trans (aY _ _ _ _ _);have k2:=(hB.cell (p:=⟨w.heap.size+1,2,none⟩) (by simp)).trans (aY _ _ _ _ _);have kf:=(hB.frozen (p:=⟨w.heap.size+1,0,none⟩) (by simp)).trans (eM _ _ _ _ _);have q0:=(hB.cell (p:=⟨w.heap.size,0,none⟩) (by simp;omega)).trans (aZ _ _ _ _ _);have q1:=(hB.cell (p:=⟨w.heap.size,1,none⟩) (by simp;omega)).trans (aZ _ _ _ _ _);have q2:=(hB.cell (p:=⟨w.heap.size,2,none⟩) (by simp;omega)).trans (aZ _ _ _ _ _);have qf:∀ j,w1.frozen? ⟨w.heap.size,j,none⟩=false:=fun j=>(hB.frozen (p:=⟨w.heap.size,j,none⟩) (by simp;omega)).trans (eL _ _ _ _ _);have FIN:=hide (fun b a0 a1 a2=>jH b a0 a1 a2 HC hB ho h6 hx);simp only[List.getElem?_toArray,List.getElem?_cons_zero,List.getElem?_cons_succ] at k0 k1 k2 q0 q1 q2;obtain⟨p,cap,rfl⟩:=aB ho;generalize (Sx.aI T.data.toList).2=n at FIN ⊢;generalize (Sx.aI T.data.toList).1.length=L at FIN h6 ⊢;clear ho hx HC;by_cases hn:n=0
   · subst hn;go_wp2
     (try simp only[Exit.inBlock,Exit.then])
     refine bodyPost_ret (v:=.tuple #[.agg #[.slice p L cap,.int .u8 42,.int .u8 sec.toNat],.bool true]) ?_ rfl (FIN.out _ _ _ _ (by simp));rw[results_cell_tmp rfl];go_simp
   · have hn':(n == 0)=false:=by simpa using hn
     go_wp2
     (try simp only[Exit.inBlock,Exit.then])
     refine bodyPost_ret (v:=.tuple #[.agg #[.slice p L cap,.int .u8 42,.int .u8 sec.toNat],.bool false]) ?_ rfl (FIN.out _ _ _ _ (by simp[hn]));rw[results_cell_tmp rfl];go_simp
 · have e2:s.size<2∨((s.extract 0 2).toList == [42,46])=false:=by
    by_cases h2:2≤s.size
    · right;cases h:((s.extract 0 2).toList == [42,46]) with
      | true=>exact absurd ⟨h2,h⟩ hstar
      | false=>rfl
    · left;omega
   clear hstar;by_cases h1:0<s.size
   · have hg:s[0]=s.data.toList[0]'(by rw[aC];exact h1):=rfl;by_cases h33:s.data.toList[0]'(by rw[aC];exact h1)=33
     · have HC:=hide (kA (sec:=sec) (ZV h1 e2 h33));have hb:((s[0].toNat:Int) == 33)=true:=by rw[hg,h33];rfl
       clear hg h33;go_enter Tryz.func207,Tryz.ntmps207;by_cases h2:2≤s.size
       · have e2':((s.extract 0 2).toList == [42,46])=false:=by
          rcases e2 with e2 | e2
          · omega
          · exact e2
         clear e2;go_wp2_with fail
         generalize s.extract 1 s.size=T at HC ⊢;refine(dR _ _).mono ?_;rintro e w1 ⟨hB,v,rfl,ho,h6,hx⟩;have k0:=(hB.cell (p:=⟨w.heap.size+1,0,none⟩) (by simp)).trans (aY _ _ _ _ _);have k1:=(hB.cell (p:=⟨w.heap.size+1,1,none⟩) (by simp)).trans (aY _ _ _ _ _);have k2:=(hB.cell (p:=⟨w.heap.size+1,2,none⟩) (by simp)).trans (aY _ _ _ _ _);have kf:=(hB.frozen (p:=⟨w.heap.size+1,0,none⟩) (by simp)).trans (eM _ _ _ _ _);have q0:=(hB.cell (p:=⟨w.heap.size,0,none⟩) (by simp;omega)).trans (aZ _ _ _ _ _);have q1:=(hB.cell (p:=⟨w.heap.size,1,none⟩) (by simp;omega)).trans (aZ _ _ _ _ _);have q2:=(hB.cell (p:=⟨w.heap.size,2,none⟩) (by simp;omega)).trans (aZ _ _ _ _ _);have qf:∀ j,w1.frozen? ⟨w.heap.size,j,none⟩=false:=fun j=>(hB.frozen (p:=⟨w.heap.size,j,none⟩) (by simp;omega)).trans (eL _ _ _ _ _);have FIN:=hide (fun b a0 a1 a2=>jH b a0 a1 a2 HC hB ho h6 hx);simp only[List.getElem?_toArray,List.getElem?_cons_zero,List.getElem?_cons_succ] at k0 k1 k2 q0 q1 q2;obtain⟨p,cap,rfl⟩:=aB ho;generalize (Sx.aI T.data.toList).2=n at FIN ⊢;generalize (Sx.aI T.data.toList).1.length=L at FIN h6 ⊢;clear ho hx HC;by_cases hn:n=0
         · subst hn;by_cases h1L:1<L
           · have h1i:(1:Int)<(L:Int):=by omega
             go_wp2
             (try simp only[Exit.inBlock,Exit.then])
             refine bodyPost_ret (v:=.tuple #[.agg #[.slice p L cap,.int .u8 33,.int .u8 sec.toNat],.bool true]) ?_ rfl (FIN.out _ _ _ _ (by simp[h1L]));rw[results_cell_tmp rfl];go_simp
           · have h1i:¬ (1:Int)<(L:Int):=by omega
             go_wp2
             (try simp only[Exit.inBlock,Exit.then])
             refine bodyPost_ret (v:=.tuple #[.agg #[.slice p L cap,.int .u8 33,.int .u8 sec.toNat],.bool false]) ?_ rfl (FIN.out _ _ _ _ (by simp[h1L]));rw[results_cell_tmp rfl];go_simp
         · have hn':(n == 0)=false:=by simpa using hn
           go_wp2
           (try simp only[Exit.inBlock,Exit.then])
           refine bodyPost_ret (v:=.tuple #[.agg #[.slice p L cap,.int .u8 33,.int .u8 sec.toNat],.bool false]) ?_ rfl (FIN.out _ _ _ _ (by simp[hn]));rw[results_cell_tmp rfl];go_simp
       · clear e2;go_wp2_with fail
         generalize s.extract 1 s.size=T at HC ⊢;refine(dR _ _).mono ?_;rintro e w1 ⟨hB,v,rfl,ho,h6,hx⟩;have k0:=(hB.cell (p:=⟨w.heap.size+1,0,none⟩) (by simp)).trans (aY _ _ _ _ _);have k1:=(hB.cell (p:=⟨w.heap.size+1,1,none⟩) (by simp)).trans (aY _ _ _ _ _);have k2:=(hB.cell (p:=⟨w.heap.size+1,2,none⟩) (by simp)).trans (aY _ _ _ _ _);have kf:=(hB.frozen (p:=⟨w.heap.size+1,0,none⟩) (by simp)).trans (eM _ _ _ _ _);have q0:=(hB.cell (p:=⟨w.heap.size,0,none⟩) (by simp;omega)).trans (aZ _ _ _ _ _);have q1:=(hB.cell (p:=⟨w.heap.size,1,none⟩) (by simp;omega)).trans (aZ _ _ _ _ _);have q2:=(hB.cell (p:=⟨w.heap.size,2,none⟩) (by simp;omega)).trans (aZ _ _ _ _ _);have qf:∀ j,w1.frozen? ⟨w.heap.size,j,none⟩=false:=fun j=>(hB.frozen (p:=⟨w.heap.size,j,none⟩) (by simp;omega)).trans (eL _ _ _ _ _);have FIN:=hide (fun b a0 a1 a2=>jH b a0 a1 a2 HC hB ho h6 hx);simp only[List.getElem?_toArray,List.getElem?_cons_zero,List.getElem?_cons_succ] at k0 k1 k2 q0 q1 q2;obtain⟨p,cap,rfl⟩:=aB ho;generalize (Sx.aI T.data.toList).2=n at FIN ⊢;generalize (Sx.aI T.data.toList).1.length=L at FIN h6 ⊢;clear ho hx HC;by_cases hn:n=0
         · subst hn;by_cases h1L:1<L
           · have h1i:(1:Int)<(L:Int):=by omega
             go_wp2
             (try simp only[Exit.inBlock,Exit.then])
             refine bodyPost_ret (v:=.tuple #[.agg #[.slice p L cap,.int .u8 33,.int .u8 sec.toNat],.bool true]) ?_ rfl (FIN.out _ _ _ _ (by simp[h1L]));rw[results_cell_tmp rfl];go_simp
           · have h1i:¬ (1:Int)<(L:Int):=by omega
             go_wp2
             (try simp only[Exit.inBlock,Exit.then])
             refine bodyPost_ret (v:=.tuple #[.agg #[.slice p L cap,.int .u8 33,.int .u8 sec.toNat],.bool false]) ?_ rfl (FIN.out _ _ _ _ (by simp[h1L]));rw[results_cell_tmp rfl];go_simp
         · have hn':(n == 0)=false:=by simpa using hn
           go_wp2
           (try simp only[Exit.inBlock,Exit.then])
           refine bodyPost_ret (v:=.tuple #[.agg #[.slice p L cap,.int .u8 33,.int .u8 sec.toNat],.bool false]) ?_ rfl (FIN.out _ _ _ _ (by simp[hn]));rw[results_cell_tmp rfl];go_simp
     · have HC:=hide (kA (sec:=sec) (zP e2 (fun _=>h33)));have hb:((s[0].toNat:Int) == 33)=false:=by
        rw[hg,beq_eq_false_iff_ne];intro e;apply h33;apply UInt8.toNat_inj.1;have:(s.data.toList[0]'(by rw[aC];exact h1)).toNat=33:=by omega
        rw[this];rfl
       clear hg h33;go_enter Tryz.func207,Tryz.ntmps207;by_cases h2:2≤s.size
       · have e2':((s.extract 0 2).toList == [42,46])=false:=by
          rcases e2 with e2 | e2
          · omega
          · exact e2
         clear e2;go_wp2_with fail
         refine(dR _ _).mono ?_;rintro e w1 ⟨hB,v,rfl,ho,h6,hx⟩;have k0:=(hB.cell (p:=⟨w.heap.size+1,0,none⟩) (by simp)).trans (aY _ _ _ _ _);have k1:=(hB.cell (p:=⟨w.heap.size+1,1,none⟩) (by simp)).trans (aY _ _ _ _ _);have k2:=(hB.cell (p:=⟨w.heap.size+1,2,none⟩) (by simp)).trans (aY _ _ _ _ _);have kf:=(hB.frozen (p:=⟨w.heap.size+1,0,none⟩) (by simp)).trans (eM _ _ _ _ _);have q0:=(hB.cell (p:=⟨w.heap.size,0,none⟩) (by simp;omega)).trans (aZ _ _ _ _ _);have q1:=(hB.cell (p:=⟨w.heap.size,1,none⟩) (by simp;omega)).trans (aZ _ _ _ _ _);have q2:=(hB.cell (p:=⟨w.heap.size,2,none⟩) (by simp;omega)).trans (aZ _ _ _ _ _);have qf:∀ j,w1.frozen? ⟨w.heap.size,j,none⟩=false:=fun j=>(hB.frozen (p:=⟨w.heap.size,j,none⟩) (by simp;omega)).trans (eL _ _ _ _ _);have FIN:=hide (fun b a0 a1 a2=>jH b a0 a1 a2 HC hB ho h6 hx);simp only[List.getElem?_toArray,List.getElem?_cons_zero,List.getElem?_cons_succ] at k0 k1 k2 q0 q1 q2;obtain⟨p,cap,rfl⟩:=aB ho;generalize (Sx.aI s.data.toList).2=n at FIN ⊢;generalize (Sx.aI s.data.toList).1.length=L at FIN h6 ⊢;clear ho hx HC;by_cases hn:n=0
         · subst hn;go_wp2
           (try simp only[Exit.inBlock,Exit.then])
           refine bodyPost_ret (v:=.tuple #[.agg #[.slice p L cap,.int .u8 36,.int .u8 sec.toNat],.bool true]) ?_ rfl (FIN.out _ _ _ _ (by simp));rw[results_cell_tmp rfl];go_simp
         · have hn':(n == 0)=false:=by simpa using hn
           go_wp2
           (try simp only[Exit.inBlock,Exit.then])
           refine bodyPost_ret (v:=.tuple #[.agg #[.slice p L cap,.int .u8 36,.int .u8 sec.toNat],.bool false]) ?_ rfl (FIN.out _ _ _ _ (by simp[hn]));rw[results_cell_tmp rfl];go_simp
       · clear e2;go_wp2_with fail
         refine(dR _ _).mono ?_;rintro e w1 ⟨hB,v,rfl,ho,h6,hx⟩;have k0:=(hB.cell (p:=⟨w.heap.size+1,0,none⟩) (by simp)).trans (aY _ _ _ _ _);have k1:=(hB.cell (p:=⟨w.heap.size+1,1,none⟩) (by simp)).trans (aY _ _ _ _ _);have k2:=(hB.cell (p:=⟨w.heap.size+1,2,none⟩) (by simp)).trans (aY _ _ _ _ _);have kf:=(hB.frozen (p:=⟨w.heap.size+1,0,none⟩) (by simp)).trans (eM _ _ _ _ _);have q0:=(hB.cell (p:=⟨w.heap.size,0,none⟩) (by simp;omega)).trans (aZ _ _ _ _ _);have q1:=(hB.cell (p:=⟨w.heap.size,1,none⟩) (by simp;omega)).trans (aZ _ _ _ _ _);have q2:=(hB.cell (p:=⟨w.heap.size,2,none⟩) (by simp;omega)).trans (aZ _ _ _ _ _);have qf:∀ j,w1.frozen? ⟨w.heap.size,j,none⟩=false:=fun j=>(hB.frozen (p:=⟨w.heap.size,j,none⟩) (by simp;omega)).trans (eL _ _ _ _ _);have FIN:=hide (fun b a0 a1 a2=>jH b a0 a1 a2 HC hB ho h6 hx);simp only[List.getElem?_toArray,List.getElem?_cons_zero,List.getElem?_cons_succ] at k0 k1 k2 q0 q1 q2;obtain⟨p,cap,rfl⟩:=aB ho;generalize (Sx.aI s.data.toList).2=n at FIN ⊢;generalize (Sx.aI s.data.toList).1.length=L at FIN h6 ⊢;clear ho hx HC;by_cases hn:n=0
         · subst hn;go_wp2
           (try simp only[Exit.inBlock,Exit.then])
           refine bodyPost_ret (v:=.tuple #[.agg #[.slice p L cap,.int .u8 36,.int .u8 sec.toNat],.bool true]) ?_ rfl (FIN.out _ _ _ _ (by simp));rw[results_cell_tmp rfl];go_simp
         · have hn':(n == 0)=false:=by simpa using hn
           go_wp2
           (try simp only[Exit.inBlock,Exit.then])
           refine bodyPost_ret (v:=.tuple #[.agg #[.slice p L cap,.int .u8 36,.int .u8 sec.toNat],.bool false]) ?_ rfl (FIN.out _ _ _ _ (by simp[hn]));rw[results_cell_tmp rfl];go_simp
   · have HC:=hide (kA (sec:=sec) (zP e2 (fun h=>absurd h h1)));clear e2;have h0:s.size=0:=by omega
     have h0a:¬ (2:Int)≤(s.size:Int):=by omega
     have h0b:¬ (1:Int)≤(s.size:Int):=by omega
     clear h0;go_enter Tryz.func207,Tryz.ntmps207;go_wp2_with fail
     refine(dR _ _).mono ?_;rintro e w1 ⟨hB,v,rfl,ho,h6,hx⟩;have k0:=(hB.cell (p:=⟨w.heap.size+1,0,none⟩) (by simp)).trans (aY _ _ _ _ _);have k1:=(hB.cell (p:=⟨w.heap.size+1,1,none⟩) (by simp)).trans (aY _ _ _ _ _);have k2:=(hB.cell (p:=⟨w.heap.size+1,2,none⟩) (by simp)).trans (aY _ _ _ _ _);have kf:=(hB.frozen (p:=⟨w.heap.size+1,0,none⟩) (by simp)).trans (eM _ _ _ _ _);have q0:=(hB.cell (p:=⟨w.heap.size,0,none⟩) (by simp;omega)).trans (aZ _ _ _ _ _);have q1:=(hB.cell (p:=⟨w.heap.size,1,none⟩) (by simp;omega)).trans (aZ _ _ _ _ _);have q2:=(hB.cell (p:=⟨w.heap.size,2,none⟩) (by simp;omega)).trans (aZ _ _ _ _ _);have qf:∀ j,w1.frozen? ⟨w.heap.size,j,none⟩=false:=fun j=>(hB.frozen (p:=⟨w.heap.size,j,none⟩) (by simp;omega)).trans (eL _ _ _ _ _);have FIN:=hide (fun b a0 a1 a2=>jH b a0 a1 a2 HC hB ho h6 hx);simp only[List.getElem?_toArray,List.getElem?_cons_zero,List.getElem?_cons_succ] at k0 k1 k2 q0 q1 q2;obtain⟨p,cap,rfl⟩:=aB ho;generalize (Sx.aI s.data.toList).2=n at FIN ⊢;generalize (Sx.aI s.data.toList).1.length=L at FIN h6 ⊢;clear ho hx HC;by_cases hn:n=0
     · subst hn;go_wp2
       (try simp only[Exit.inBlock,Exit.then])
       refine bodyPost_ret (v:=.tuple #[.agg #[.slice p L cap,.int .u8 36,.int .u8 sec.toNat],.bool true]) ?_ rfl (FIN.out _ _ _ _ (by simp));rw[results_cell_tmp rfl];go_simp
     · have hn':(n == 0)=false:=by simpa using hn
       go_wp2
       (try simp only[Exit.inBlock,Exit.then])
       refine bodyPost_ret (v:=.tuple #[.agg #[.slice p L cap,.int .u8 36,.int .u8 sec.toNat],.bool false]) ?_ rfl (FIN.out _ _ _ _ (by simp[hn]));rw[results_cell_tmp rfl];go_simp
end Go.Proofs.YtgohllfpceeboabGreatDoor
