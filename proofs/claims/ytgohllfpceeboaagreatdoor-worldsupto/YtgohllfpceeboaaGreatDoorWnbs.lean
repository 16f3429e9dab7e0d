import Derived.Test.YtgohllfpceeboaaGreatDoorWnbi
set_option maxRecDepth 100000
set_option maxHeartbeats 8000000
namespace Go.Proofs.YtgohllfpceeboaaGreatDoor
open Go.RowKit
theorem two_boxes {w W1:World} {a b:Obj} (h:Below ((w.alloc a).alloc b).heap.size ((w.alloc a).alloc b) W1):W1.heap[w.heap.size]? = some a∧W1.heap[w.heap.size+1]? = some b:=by
 constructor
 · rw [h.block _ (by simp;omega),heap_alloc_old _ _ (by simp),heap_alloc_new]
 · have:=heap_alloc_new (w.alloc a) b;rw [World.size_alloc] at this;rw [h.block _ (by simp),this]
theorem pprev (r o:Sx.Rl) (w:World) (hr:r.1.length≤1000) (ho:o.1.length≤1000):Calls Tryz.prog 86 #[ruA r,ruA o] w fun e w'=>e=.returned (.bool (prevB r o))∧Below w.heap.size w w':=by
 have HPR:=hide (fun W=>ppubl r W hr);have HPO:=hide (fun W=>ppubl o W ho);obtain ⟨B,hBd⟩:∃ B,prevB r o=B:=⟨_,rfl⟩
 rw [hBd];unfold prevB at hBd;simp only [kd_int,ne_eq] at hBd;obtain ⟨PR,hPR⟩:∃ PR,pubI r=PR:=⟨_,rfl⟩
 obtain ⟨PO,hPO⟩:∃ PO,pubI o=PO:=⟨_,rfl⟩
 rw [hPR,hPO] at hBd;rw [hPR] at HPR;rw [hPO] at HPO;obtain ⟨rh,rk,rs⟩:=r;obtain ⟨oh,ok,os⟩:=o;clear hPR hPO;unfold ruA at HPR HPO ⊢;dsimp only at HPR HPO hr ho hBd ⊢;obtain ⟨X,hX⟩:∃ X:ByteArray,⟨(Sx.dotted rh).toArray⟩=X:=⟨_,rfl⟩
 obtain ⟨Y,hY⟩:∃ Y:ByteArray,⟨(Sx.dotted oh).toArray⟩=Y:=⟨_,rfl⟩
 rw [hX] at HPR ⊢;rw [hY] at HPO ⊢;clear hX hY;obtain ⟨K,hK⟩:∃ K:Int,(rk.toNat:Int)=K:=⟨_,rfl⟩
 obtain ⟨L,hL⟩:∃ L:Int,(ok.toNat:Int)=L:=⟨_,rfl⟩
 rw [hK] at HPR hBd ⊢;rw [hL] at HPO hBd ⊢;clear hK hL;obtain ⟨M,hM⟩:∃ M,rh.length=M:=⟨_,rfl⟩
 obtain ⟨M2,hM2⟩:∃ M2,oh.length=M2:=⟨_,rfl⟩
 rw [hM] at HPR ⊢;rw [hM2] at HPO ⊢;obtain ⟨S,hS⟩:∃ S:Int,(rs.toNat:Int)=S:=⟨_,rfl⟩
 obtain ⟨S2,hS2⟩:∃ S2:Int,(os.toNat:Int)=S2:=⟨_,rfl⟩
 rw [hS] at HPR ⊢;rw [hS2] at HPO ⊢;clear hM hM2 hS hS2 hr ho;have HBD:Hid ((if ¬ K=L∧(K=33∨L=33) then decide (K=33) else if ¬ PR=PO then decide (PR > PO) else decide (K=36))=B):=hide hBd;clear hBd;have HNEW:Hid (∀ W1,Below ((w.alloc (.cells #[.int .u8 K,.string X,.int .i64 M,.int .u8 S] 98)).alloc (.cells #[.int .u8 L,.string Y,.int .i64 M2,.int .u8 S2] 98)).heap.size ((w.alloc (.cells #[.int .u8 K,.string X,.int .i64 M,.int .u8 S] 98)).alloc (.cells #[.int .u8 L,.string Y,.int .i64 M2,.int .u8 S2] 98)) W1 →
  (W1.cell? ⟨w.heap.size,0,none⟩=some (.int .u8 K)∧W1.cell? ⟨w.heap.size,1,none⟩=some (.string X)∧W1.cell? ⟨w.heap.size,2,none⟩=some (.int .i64 M)∧W1.cell? ⟨w.heap.size,3,none⟩=some (.int .u8 S))∧(W1.cell? ⟨w.heap.size+1,0,none⟩=some (.int .u8 L)∧W1.cell? ⟨w.heap.size+1,1,none⟩=some (.string Y)∧W1.cell? ⟨w.heap.size+1,2,none⟩=some (.int .i64 M2)∧W1.cell? ⟨w.heap.size+1,3,none⟩=some (.int .u8 S2))∧Below w.heap.size w W1):=hide (fun W1 h=>by
    obtain ⟨h1,h2⟩:=two_boxes h;refine ⟨(box4 h1).1,(box4 h2).1,?_⟩;exact (((Below.refl _ w).alloc (Nat.le_refl _) _).alloc (by simp) _).trans (h.mono (by simp;omega)))
 obtain ⟨W0,hW0⟩:∃ W0,(w.alloc (.cells #[.int .u8 K,.string X,.int .i64 M,.int .u8 S] 98)).alloc (.cells #[.int .u8 L,.string Y,.int .i64 M2,.int .u8 S2] 98)=W0:=⟨_,rfl⟩
 rw [hW0] at HNEW;have hS0:_∧_:=⟨(HNEW.out W0 (Below.refl _ _)).1,(HNEW.out W0 (Below.refl _ _)).2.1⟩
 have HB0:Hid (Below w.heap.size w W0):=hide (HNEW.out W0 (Below.refl _ _)).2.2;go_enter Tryz.func86,Tryz.ntmps86;by_cases hKL:K=L
 · subst hKL;go_upto_region 3 with fail
   clear hW0;obtain ⟨⟨a0,a1,a2,a3⟩,b0,b1,b2,b3⟩:=hS0;go_cut [27] (fun c wc=>(∃ b:Bool,c=.bool b∧(b=true↔¬ PR=PO))∧Below W0.heap.size W0 wc)
   case first =>
    go_region_with (first | (have hbX:=hbA;go_at_call 88;refine (HPO.out _).mono ?_;rintro e wB ⟨rfl,hBB⟩;have hbB:Below W0.heap.size W0 wB:=hbX.trans (hBB.mono hbX.size);obtain ⟨⟨e0,e1,e2,e3⟩,⟨f0,f1,f2,f3⟩,-⟩:=HNEW.out wB hbB) | (go_at_call 88;refine (HPR.out _).mono ?_;rintro e wA ⟨rfl,hBA⟩;have hbA:Below W0.heap.size W0 wA:=(Below.refl _ W0).drew.trans hBA;obtain ⟨⟨c0,c1,c2,c3⟩,⟨d0,d1,d2,d3⟩,-⟩:=HNEW.out wA hbA))
    all_goals
     go_wp2_with fail
     go_meet;exact ⟨⟨_,rfl,by simp⟩,hbB⟩
   case rest =>
    obtain ⟨⟨b,rfl,hb⟩,hbC⟩:=hcut;clear a0 a1 a2 a3 b0 b1 b2 b3;obtain ⟨⟨a0,a1,a2,a3⟩,⟨b0,b1,b2,b3⟩,hfin⟩:=HNEW.out _ hbC;cases b with
    | false =>
      have hP:PR=PO:=Classical.byContradiction fun h=>by have:=hb.2 h;cases this
      have HF:=hide hfin;clear hb hbC hfin;go_wp2;go_ret;refine ⟨?_,HF.out⟩;rw [←HBD.out,if_neg (by simp_all),if_neg (by simp [hP])];exact ret_bool (by first | rfl | (rw [Bool.eq_iff_iff];simp))
    | true =>
      have hP:¬ PR=PO:=hb.1 rfl;clear hb hfin;go_wp2_with fail
      go_region_with (first | (have hbX:=hbA;go_at_call 88;refine (HPO.out _).mono ?_;rintro e wB ⟨rfl,hBB⟩;have hbB:Below W0.heap.size W0 wB:=hbX.trans (hBB.mono hbX.size);obtain ⟨⟨e0,e1,e2,e3⟩,⟨f0,f1,f2,f3⟩,-⟩:=HNEW.out wB hbB) | (go_at_call 88;refine (HPR.out _).mono ?_;rintro e wA ⟨rfl,hBA⟩;have hbA:Below W0.heap.size W0 wA:=hbC.drew.trans (hBA.mono hbC.size);obtain ⟨⟨c0,c1,c2,c3⟩,⟨d0,d1,d2,d3⟩,-⟩:=HNEW.out wA hbA))
      all_goals
       have HF:=hide (HNEW.out _ hbB).2.2;go_wp2;go_ret;refine ⟨?_,HF.out⟩;rw [←HBD.out,if_neg (by simp_all),if_pos (by simp [hP])];exact ret_bool (by first | rfl | (rw [Bool.eq_iff_iff];simp))
 · have k1:(K == L)=false:=by simpa using hKL
   have k2:(K != L)=true:=by simpa using hKL
   by_cases h33:K=33
   · subst h33;obtain ⟨⟨a0,a1,a2,a3⟩,b0,b1,b2,b3⟩:=hS0;clear HNEW;go_wp2;go_ret;exact ⟨by rw [←HBD.out,if_pos (by simp_all)];rfl,HB0.out⟩
   · have k3:(K == 33)=false:=by simpa using h33
     by_cases l33:L=33
     · subst l33;obtain ⟨⟨a0,a1,a2,a3⟩,b0,b1,b2,b3⟩:=hS0;clear HNEW;go_wp2;go_ret;exact ⟨by rw [←HBD.out,if_pos (by simp_all)];exact ret_bool (by rw [Bool.eq_iff_iff];simp [h33]),HB0.out⟩
     · have k4:(L == 33)=false:=by simpa using l33
       go_upto_region 3 with fail
       clear hW0;obtain ⟨⟨a0,a1,a2,a3⟩,b0,b1,b2,b3⟩:=hS0;go_cut [27] (fun c wc=>(∃ b:Bool,c=.bool b∧(b=true↔¬ PR=PO))∧Below W0.heap.size W0 wc)
       case first =>
        go_region_with (first | (have hbX:=hbA;go_at_call 88;refine (HPO.out _).mono ?_;rintro e wB ⟨rfl,hBB⟩;have hbB:Below W0.heap.size W0 wB:=hbX.trans (hBB.mono hbX.size);obtain ⟨⟨e0,e1,e2,e3⟩,⟨f0,f1,f2,f3⟩,-⟩:=HNEW.out wB hbB) | (go_at_call 88;refine (HPR.out _).mono ?_;rintro e wA ⟨rfl,hBA⟩;have hbA:Below W0.heap.size W0 wA:=(Below.refl _ W0).drew.trans hBA;obtain ⟨⟨c0,c1,c2,c3⟩,⟨d0,d1,d2,d3⟩,-⟩:=HNEW.out wA hbA))
        all_goals
         go_wp2_with fail
         go_meet;exact ⟨⟨_,rfl,by simp⟩,hbB⟩
       case rest =>
        obtain ⟨⟨b,rfl,hb⟩,hbC⟩:=hcut;clear a0 a1 a2 a3 b0 b1 b2 b3;obtain ⟨⟨a0,a1,a2,a3⟩,⟨b0,b1,b2,b3⟩,hfin⟩:=HNEW.out _ hbC;cases b with
        | false =>
          have hP:PR=PO:=Classical.byContradiction fun h=>by have:=hb.2 h;cases this
          have HF:=hide hfin;clear hb hbC hfin;go_wp2;go_ret;refine ⟨?_,HF.out⟩;rw [←HBD.out,if_neg (by simp_all),if_neg (by simp [hP])];exact ret_bool (by first | rfl | (rw [Bool.eq_iff_iff];simp))
        | true =>
          have hP:¬ PR=PO:=hb.1 rfl;clear hb hfin;go_wp2_with fail
          go_region_with (first | (have hbX:=hbA;go_at_call 88;refine (HPO.out _).mono ?_;rintro e wB ⟨rfl,hBB⟩;have hbB:Below W0.heap.size W0 wB:=hbX.trans (hBB.mono hbX.size);obtain ⟨⟨e0,e1,e2,e3⟩,⟨f0,f1,f2,f3⟩,-⟩:=HNEW.out wB hbB) | (go_at_call 88;refine (HPR.out _).mono ?_;rintro e wA ⟨rfl,hBA⟩;have hbA:Below W0.heap.size W0 wA:=hbC.drew.trans (hBA.mono hbC.size);obtain ⟨⟨c0,c1,c2,c3⟩,⟨d0,d1,d2,d3⟩,-⟩:=HNEW.out wA hbA))
          all_goals
           have HF:=hide (HNEW.out _ hbB).2.2;go_wp2;go_ret;refine ⟨?_,HF.out⟩;rw [←HBD.out,if_neg (by simp_all),if_pos (by simp [hP])];exact ret_bool (by first | rfl | (rw [Bool.eq_iff_iff];simp))
theorem pfits (r:Sx.Rl) (p:List UInt8) (w:World) (hp:p.length≤100000) (hd:(Sx.dotted r.1).length≤100000):Calls Tryz.prog 85 #[ruA r,.string ⟨p.toArray⟩] w fun e w'=>e=.returned (.bool (fitB r p))∧Below w.heap.size w w':=by
 obtain ⟨h,k,sc⟩:=r;obtain ⟨B,hBd⟩:∃ B,fitB (h,k,sc) p=B:=⟨_,rfl⟩
 rw [hBd];unfold fitB at hBd;dsimp only at hBd;simp only [ne_eq,kd_int] at hBd;unfold ruA;dsimp only;obtain ⟨D,hD⟩:∃ D,Sx.dotted h=D:=⟨_,rfl⟩
 rw [hD] at hBd ⊢;dsimp only at hd;rw [hD] at hd;have HSF:=hide (fun W=>psuf_any ⟨p.toArray⟩ ⟨(46 :: D).toArray⟩ W (by show p.length≤_;omega));have happ:=ba_app [46] D;obtain ⟨SB,hSB⟩:∃ SB,suffixB p (46 :: D)=SB:=⟨_,rfl⟩
 have hSB2:suffixB (⟨p.toArray⟩:ByteArray).data.toList (⟨(46 :: D).toArray⟩:ByteArray).data.toList=SB:=hSB;rw [hSB2] at HSF;rw [hSB] at hBd;obtain ⟨M,hM⟩:∃ M,h.length=M:=⟨_,rfl⟩
 obtain ⟨K,hK⟩:∃ K:Int,(k.toNat:Int)=K:=⟨_,rfl⟩
 rw [hM,hK];rw [hK] at hBd;have hpd:decide (p=D)=((⟨p.toArray⟩:ByteArray).toList == (⟨D.toArray⟩:ByteArray).toList):=by
  rw [ByteArray.toList_eq,ByteArray.toList_eq,Bool.eq_iff_iff];simp
 rw [hpd] at hBd;obtain ⟨P,hP⟩:∃ P:ByteArray,⟨p.toArray⟩=P:=⟨_,rfl⟩
 obtain ⟨X,hX⟩:∃ X:ByteArray,⟨D.toArray⟩=X:=⟨_,rfl⟩
 rw [hP] at HSF hBd ⊢;rw [hX] at hBd ⊢;obtain ⟨Y,hY⟩:∃ Y:ByteArray,⟨(46 :: D).toArray⟩=Y:=⟨_,rfl⟩
 rw [hY] at HSF;have hXs:X.size≤100000:=by rw [←hX];exact hd
 have hY2:(⟨#[46]⟩:ByteArray) ++ X=Y:=by rw [←hX,←hY];exact happ
 clear hSB hSB2 hM hK hpd hP hD happ hX hY hd;have HBD:=hide hBd;have HB0:Hid (∀ o:Obj,Below w.heap.size w (w.alloc o)):=hide (fun o=>(Below.refl _ w).alloc (Nat.le_refl _) o);clear hBd;go_enter Tryz.func85,Tryz.ntmps85;go_wp2_with fail
 refine (HSF.out _).mono ?_;rintro e w1 ⟨rfl,rfl⟩;cases SB with
 | true =>
   go_wp2;go_ret;exact ⟨by rw [←HBD.out];rfl,HB0.out _⟩
 | false =>
   cases hE:(P.toList == X.toList) with
   | false =>
     go_wp2;go_ret;exact ⟨by rw [←HBD.out,hE];rfl,HB0.out _⟩
   | true =>
     by_cases hK:K=42
     · subst hK;go_wp2;go_ret;exact ⟨by rw [←HBD.out,hE];rfl,HB0.out _⟩
     · have k1:(K == 42)=false:=by simpa using hK
       have k2:(K != 42)=true:=by simpa using hK
       go_wp2;go_ret;exact ⟨by rw [←HBD.out,hE];exact ret_bool (by simp [hK]),HB0.out _⟩
theorem prvl_more (rs:List Sx.Rl) (p:List UInt8) (k:Nat) (h:k<rs.length):prvl (rs.take (k+1)) p=prvS p (prvl (rs.take k) p) rs[k]:=by
 unfold prvl;rw [List.take_succ_eq_append_getElem h,List.foldl_append];rfl
theorem prvl_mem (p:List UInt8) (Q:Sx.Rl→Prop) (h0:Q ([],42,45)):∀ (rs:List Sx.Rl),(∀ r∈rs,Q r)→Q (prvl rs p):=by
 have key:∀ (rs:List Sx.Rl) (b:Sx.Rl),Q b→(∀ r∈rs,Q r)→Q (rs.foldl (prvS p) b):=by
  intro rs
  induction rs with
  | nil=>intro b h _;exact h
  | cons r rs ih =>
    intro b h hr;rw [List.foldl_cons];refine ih _ ?_ (fun q hq=>hr q (by simp [hq]));unfold prvS;split
    · exact hr r (by simp)
    · exact h
 exact fun rs hr=>key rs _ h0 hr
theorem set4_heap {W:World} {b:Nat} {x0 y0 z0 u0:Value} {t:TypeId} (x y z u:Value) (h:W.heap[b]? = some (.cells #[x0,y0,z0,u0] t (0,0))) :
 ((((W.setCell ⟨b,0,none⟩ x).setCell ⟨b,1,none⟩ y).setCell ⟨b,2,none⟩ z).setCell ⟨b,3,none⟩ u).heap[b]? = some (.cells #[x,y,z,u] t (0,0)):=by
 simp [World.setCell,Array.getElem?_modify,h]
theorem set4_other {W:World} {b k:Nat} (x y z u:Value) (h:k≠b) :
 ((((W.setCell ⟨b,0,none⟩ x).setCell ⟨b,1,none⟩ y).setCell ⟨b,2,none⟩ z).setCell ⟨b,3,none⟩ u).heap[k]? = W.heap[k]?:=by
 simp [World.setCell,Array.getElem?_modify,Ne.symm h]
theorem set4_below {w W:World} {n b:Nat} (x y z u:Value) (h:Below n w W) (hb:n≤b):Below n w ((((W.setCell ⟨b,0,none⟩ x).setCell ⟨b,1,none⟩ y).setCell ⟨b,2,none⟩ z).setCell ⟨b,3,none⟩ u) :=
 (((h.setCell (p:=⟨b,0,none⟩) hb _).setCell (p:=⟨b,1,none⟩) hb _).setCell (p:=⟨b,2,none⟩) hb _).setCell (p:=⟨b,3,none⟩) hb _
theorem pprvl (rs:List Sx.Rl) (p:List UInt8) (v:Value) (w:World) (hv:PrAt w v rs) (hok:∀ r∈rs,r.1.length≤1000∧(Sx.dotted r.1).length≤100000) (hp:p.length≤100000) (hn:rs.length≤1000) :
 Calls Tryz.prog 55 #[v,.string ⟨p.toArray⟩] w fun e w'=>e=.returned (ruA (prvl rs p))∧Below w.heap.size w w':=by
 obtain ⟨q,cap,rfl,hrd⟩:=hv;have HRD:=hide hrd;have HOK:=hide hok;have HFT:=hide (fun r W hd=>pfits r p W hp hd);obtain ⟨P,hP⟩:∃ P:ByteArray,⟨p.toArray⟩=P:=⟨_,rfl⟩
 rw [hP] at HFT ⊢;clear hP hrd hok;go_enter Tryz.func55,Tryz.ntmps55;go_wp2_with fail
 go_loopw [11] (fun i wr=>∃ (k:Nat) (b:Sx.Rl),i=.int .i64 k∧k≤rs.length∧prvl (rs.take k) p=b∧wr.heap[w.heap.size+1]? = some (.cells (prC b).toArray 98 (0,0))∧wr.heap[w.heap.size]? = some (.cells #[.int .u8 0,.string ⟨#[]⟩,.int .i64 0,.int .u8 0] 98 (0,0))∧Below w.heap.size w wr∧w.heap.size+2≤wr.heap.size) (fun i _=>(rs.length-intOf i).toNat)
 case atStart =>
  refine ⟨0,([],42,45),rfl,by omega,rfl,?_,?_,?_,?_⟩
  · exact (two_boxes (Below.refl _ _)).2
  · exact (two_boxes (Below.refl _ _)).1
  · exact ((Below.refl _ w).alloc (Nat.le_refl _) _).alloc (by simp) _
  · simp
 case round =>
  obtain ⟨k,b,rfl,hk,hb,hbx,hrx,hB,hsz⟩:=hrel;have hb1000:b.1.length≤1000:=by
   rw [←hb];exact prvl_mem p (fun r=>r.1.length≤1000) (by simp) _ (fun r hr=>(HOK.out r (List.mem_of_mem_take hr)).1)
  by_cases hlt:k<rs.length
  · obtain ⟨g,rfl,hg,c1,c2,c3,c4⟩:=HRD.out k hlt;have d1:=(hB.cell (p:=⟨g,k*4,none⟩) hg).trans c1;have d2:=(hB.cell (p:=⟨g,k*4+1,none⟩) hg).trans c2;have d3:=(hB.cell (p:=⟨g,k*4+2,none⟩) hg).trans c3;have d4:=(hB.cell (p:=⟨g,k*4+3,none⟩) hg).trans c4;have hrl:=HOK.out rs[k] (List.getElem_mem hlt);have hst:=prvl_more rs p k hlt;rw [hb] at hst;have hft:=fun W=>HFT.out rs[k] W hrl.2;have hpv:=fun W=>pprev rs[k] b W hrl.1 hb1000;obtain ⟨FB,hFB⟩:∃ FB,fitB rs[k] p=FB:=⟨_,rfl⟩
    obtain ⟨PB,hPB⟩:∃ PB,prevB rs[k] b=PB:=⟨_,rfl⟩
    unfold prvS at hst;rw [hFB,hPB] at hst;rw [hFB] at hft;rw [hPB] at hpv;obtain ⟨⟨qh,qk,qs⟩,hq⟩:∃ q,rs[k]=q:=⟨_,rfl⟩
    rw [hq] at d1 d2 d3 d4 hst hft hpv;obtain ⟨bh,bk,bs⟩:=b;unfold ruA at hft hpv;unfold prC at hbx;dsimp only at d1 d2 d3 d4 hft hpv hbx;obtain ⟨D,hD⟩:∃ D:ByteArray,⟨(Sx.dotted qh).toArray⟩=D:=⟨_,rfl⟩
    obtain ⟨N,hN2⟩:∃ N,qh.length=N:=⟨_,rfl⟩
    rw [hD] at d2 hft hpv;rw [hN2] at d3 hft hpv;obtain ⟨E,hE⟩:∃ E:ByteArray,⟨(Sx.dotted bh).toArray⟩=E:=⟨_,rfl⟩
    obtain ⟨N3,hN3⟩:∃ N,bh.length=N:=⟨_,rfl⟩
    rw [hE] at hbx hpv;rw [hN3] at hbx hpv;have HFC:=hide hft;have HPC:=hide hpv;have HST:=hide hst;have HQ:Hid ((prC (qh,qk,qs)).toArray=#[.int .u8 qk.toNat,.string D,.int .i64 N,.int .u8 qs.toNat]):=hide (by unfold prC;rw [hD,hN2]);have HQ2:Hid ((prC (bh,bk,bs)).toArray=#[.int .u8 bk.toNat,.string E,.int .i64 N3,.int .u8 bs.toNat]):=hide (by unfold prC;rw [hE,hN3]);obtain ⟨⟨x0,x1,x2,x3⟩,xf0,xf1,xf2,xf3⟩:=box4 hbx;have HKEEP:Hid (∀ W,Below (wr.alloc (.cells #[.int .u8 qk.toNat,.string D,.int .i64 N,.int .u8 qs.toNat] 98)).heap.size (wr.alloc (.cells #[.int .u8 qk.toNat,.string D,.int .i64 N,.int .u8 qs.toNat] 98)) W→W.heap[wr.heap.size]? = some (.cells #[.int .u8 qk.toNat,.string D,.int .i64 N,.int .u8 qs.toNat] 98 (0,0))∧W.heap[w.heap.size+1]? = some (.cells #[.int .u8 bk.toNat,.string E,.int .i64 N3,.int .u8 bs.toNat] 98 (0,0))∧W.heap[w.heap.size]? = some (.cells #[.int .u8 0,.string ⟨#[]⟩,.int .i64 0,.int .u8 0] 98 (0,0))∧Below w.heap.size w W∧w.heap.size+2≤W.heap.size):=hide (fun W h=>by
     have hs:=h.size;rw [World.size_alloc] at hs;refine ⟨?_,?_,?_,?_,by omega⟩
     · rw [h.block _ (by simp),heap_alloc_new]
     · rw [h.block _ (by simp;omega),heap_alloc_old _ _ (by omega)];exact hbx
     · rw [h.block _ (by simp;omega),heap_alloc_old _ _ (by omega)];exact hrx
     · exact (hB.alloc hB.size _).trans (h.mono (by simp;omega)))
    clear c1 c2 c3 c4 hrl hst hft hpv hq hD hN2 hE hN3 hFB hPB hb hbx hrx hb1000;cases FB with
    | false =>
      go_wp2_with fail
      refine (HFC.out _).mono ?_;rintro e w1 ⟨rfl,hB1⟩;have HX:=hide (HKEEP.out w1 hB1);clear hB1 hB HKEEP;go_wp2;refine ⟨⟨k+1,(bh,bk,bs),by go_num,by omega,by rw [HST.out];rfl,by rw [HQ2.out];exact HX.out.2.1,HX.out.2.2.1,HX.out.2.2.2⟩,by simp [intOf];omega⟩
    | true =>
      go_wp2_with fail
      refine (HFC.out _).mono ?_;rintro e w1 ⟨rfl,hB1⟩;obtain ⟨y1,y2,_⟩:=HKEEP.out w1 hB1;obtain ⟨⟨z0,z1,z2,z3⟩,-⟩:=box4 y1;obtain ⟨⟨v0,v1,v2,v3⟩,-⟩:=box4 y2;have HB1:=hide hB1;clear hB1 y1 y2;go_wp2_with fail
      refine (HPC.out _).mono ?_;rintro e w2 ⟨rfl,hB2⟩;have hX2:=HKEEP.out w2 (HB1.out.trans (hB2.mono HB1.out.size));have HX:=hide hX2;obtain ⟨y1,y2,-,-,hs2⟩:=hX2;obtain ⟨⟨t0,t1,t2,t3⟩,-⟩:=box4 y1;obtain ⟨⟨r0,r1,r2,r3⟩,f0,f1,f2,f3⟩:=box4 y2;clear hB2 hB HKEEP y1 y2 z0 z1 z2 z3 v0 v1 v2 v3;cases PB with
      | false =>
        go_wp2;refine ⟨⟨k+1,(bh,bk,bs),by go_num,by omega,by rw [HST.out];rfl,by rw [HQ2.out];exact HX.out.2.1,HX.out.2.2.1,HX.out.2.2.2⟩,by simp [intOf];omega⟩
      | true =>
        go_wp2;refine ⟨⟨k+1,(qh,qk,qs),by go_num,by omega,by rw [HST.out];rfl,by rw [HQ.out];exact set4_heap _ _ _ _ HX.out.2.1,by rw [set4_other _ _ _ _ (by omega)];exact HX.out.2.2.1,set4_below _ _ _ _ HX.out.2.2.2.1 (by omega),by simp;omega⟩,by simp [intOf];omega⟩
  · have hkl:k=rs.length:=by omega
    subst hkl;rw [List.take_length] at hb;have HB:=hide hB;have HQ:Hid (ruA (prvl rs p)=.agg (prC b).toArray):=hide (by rw [hb];rfl);obtain ⟨bh,bk,bs⟩:=b;unfold prC at hbx HQ;dsimp only at hbx HQ;obtain ⟨E,hE⟩:∃ E:ByteArray,⟨(Sx.dotted bh).toArray⟩=E:=⟨_,rfl⟩
    obtain ⟨N3,hN3⟩:∃ N,bh.length=N:=⟨_,rfl⟩
    rw [hE,hN3] at hbx HQ;obtain ⟨⟨x0,x1,x2,x3⟩,-⟩:=box4 hbx;obtain ⟨⟨r0,r1,r2,r3⟩,f0,f1,f2,f3⟩:=box4 hrx;have HRX:=hide hrx;clear hbx hE hN3 hb hB hrx;go_wp2_with fail
    refine bodyPost_ret (v:=ruA (prvl rs p)) ?_ rfl ⟨rfl,set4_below _ _ _ _ HB.out (Nat.le_refl _)⟩;rw [HQ.out];obtain ⟨⟨z0,z1,z2,z3⟩,-⟩:=box4 (set4_heap (.int .u8 bk.toNat) (.string E) (.int .i64 N3) (.int .u8 bs.toNat) HRX.out);simp [results,Tryz.results55,go_sem,z0,z1,z2,z3]
open Go.RowKit Go.Shelf
attribute [local go_sem] Oper.semAt_some
theorem dotted_splB:∀ (r cur:List UInt8),Sx.dotted (Sx.splB r cur)=cur ++ r
 | [],cur=>by simp [Sx.splB,Sx.dotted]
 | a :: r,cur=>by
   unfold Sx.splB;split
   · rename_i ha;have ih:=dotted_splB r [];obtain ⟨y,t,hy⟩:=List.exists_cons_of_ne_nil (splB_ne r []);rw [hy] at ih ⊢;rw [Sx.dotted_cons,ih,ha];simp
   · have ih:=dotted_splB r (cur ++ [a]);rw [ih];simp
theorem dotted_pcs (l:List UInt8):Sx.dotted (pcs l).reverse=l:=by
 rw [pcs_revL,dotted_splB];simp
theorem allLen_app (a b:List (List UInt8)):Sx.allLen (a ++ b)=Sx.allLen a+Sx.allLen b:=by simp [Sx.allLen]
theorem last_at (l:List UInt8) (n:Nat) (h1:1≤n) (h2:n≤(pcs l).length):Sx.allLen ((pcs l).take n)≤l.length+1∧l.drop (l.length+1-Sx.allLen ((pcs l).take n))=lastP l n:=by
 have hl:=dotted_pcs l;have hT:((pcs l).take n).reverse≠[]:=fun e=>by
  have:=congrArg List.length e;rw [List.length_reverse,List.length_take,List.length_nil] at this;omega
 have hTl:=Sx.dotted_allL _ hT;rw [Sx.allLen_rev] at hTl;have hlp:lastP l n=Sx.dotted ((pcs l).take n).reverse:=by
  unfold lastP;rw [if_pos ⟨by omega,by omega⟩,Int.toNat_natCast]
 have hr:(pcs l).reverse=((pcs l).drop n).reverse ++ ((pcs l).take n).reverse:=by rw [←List.reverse_append,List.take_append_drop]
 rw [hr] at hl;rw [hlp];by_cases h0:((pcs l).drop n).reverse=[]
 · rw [h0,List.nil_append] at hl;rw [hl] at hTl ⊢;refine ⟨by omega,?_⟩;rw [show l.length+1-Sx.allLen ((pcs l).take n)=0 by omega];rfl
 · rw [dotted_app _ _ h0 hT] at hl;have hlen:=congrArg List.length hl;rw [List.length_append,List.length_cons] at hlen;refine ⟨by omega,?_⟩;obtain ⟨A,hA⟩:∃ A,Sx.dotted ((pcs l).drop n).reverse=A:=⟨_,rfl⟩
   obtain ⟨T,hT2⟩:∃ T,Sx.dotted ((pcs l).take n).reverse=T:=⟨_,rfl⟩
   rw [hA,hT2] at hl hlen;rw [hT2] at hTl ⊢;rw [show l.length+1-Sx.allLen ((pcs l).take n)=A.length+1 by omega];have e:l=(A ++ [46]) ++ T:=by rw [←hl];simp
   have e2:A.length+1=(A ++ [46]).length:=by simp
   rw [e2];exact (congrArg (List.drop (A ++ [46]).length) e).trans (by rw [List.drop_left])
structure LsAt (s:ByteArray) (c:Nat) (P:List (List UInt8)) (w:World) (k:Nat) (W:World):Prop where
 kc:k<c
 kP:k≤P.length
 b0:Boxed W w.heap.size 138 (.string s)
 b1:Boxed W (w.heap.size+1) 3 (.int .i64 ((c:Int)-(k:Int)))
 b2:Boxed W (w.heap.size+2) 9 (.string ⟨#[]⟩)
 b3:∃ T:Nat,T+Sx.allLen (P.take k)=s.size+1∧Boxed W (w.heap.size+3) 3 (.int .i64 T)
 bel:Below w.heap.size w W
structure LsNo (s:ByteArray) (c:Nat) (P:List (List UInt8)) (w:World) (W:World):Prop where
 cP:c≤P.length
 b2:Boxed W (w.heap.size+2) 9 (.string ⟨(lastP s.data.toList c).toArray⟩)
 bel:Below w.heap.size w W
theorem LsAt.own {s:ByteArray} {c:Nat} {P:List (List UInt8)} {w:World} {C:Nat} (hC:w.heap.size≤C):OwnFrom C (LsAt s c P w):=by
 intro k W W' row h hg hr;obtain ⟨a1,a2,a3,a4,a5,⟨T,a6,a7⟩,a8⟩:=h;have hne:∀ {b:Nat} {t:TypeId} {v:Value},Boxed W b t v→some b≠row:=fun hb e=>by
  obtain ⟨_,o,ho,hc⟩:=hr _ e.symm;exact box_ne hb ho hc rfl
 exact ⟨a1,a2,a3.kept hg (hne a3),a4.kept hg (hne a4),a5.kept hg (hne a5),⟨T,a6,a7.kept hg (hne a7)⟩,a8.grown hg a8.size (fun r e=>by have:=(hr r e).1;omega)⟩
theorem LsNo.own {s:ByteArray} {c:Nat} {P:List (List UInt8)} {w:World} {C:Nat} (hC:w.heap.size≤C):OwnFrom C (fun (_:Unit) W=>LsNo s c P w W):=by
 intro k W W' row h hg hr;obtain ⟨a1,a6,a8⟩:=h;have hne:∀ {b:Nat} {t:TypeId} {v:Value},Boxed W b t v→some b≠row:=fun hb e=>by
  obtain ⟨_,o,ho,hc⟩:=hr _ e.symm;exact box_ne hb ho hc rfl
 exact ⟨a1,a6.kept hg (hne a6),a8.grown hg a8.size (fun r e=>by have:=(hr r e).1;omega)⟩
theorem plast (s:ByteArray) (c:Nat) (w:World) (P:List (List UInt8)) (hs:s.size≤1000) (hP:P=pcs s.data.toList) (hc:1≤c) (hc2:c≤1000) :
 Calls Tryz.prog 87 #[.string s,.int .i64 c] w fun e w'=>e=.returned (.string ⟨(lastP s.data.toList c).toArray⟩)∧Below w.heap.size w w':=by
 refine (callsIn_wide (n:=10)).1 ?_;refine callsIn_of_wp_marks Tryz.func87 rfl trivial ?_ rfl;simp only [Tryz.ntmps87,List.size_toArray,List.length_cons,List.length_nil,Nat.reduceAdd,Nat.reduceSub,Array.replicate_succ,Array.replicate_zero,List.push_toArray,List.append_toArray,List.nil_append,List.cons_append];have HP:=hide hP;clear hP;gi_wp2_with fail
 obtain ⟨W0,hW0⟩:∃ W0,(((w.alloc (.cells #[.string s] 138)).alloc (.cells #[.int .i64 c] 3)).alloc (.cells #[.string ⟨#[]⟩] 9)).alloc (.cells #[.int .i64 ((s.size:Int)+1)] 3)=W0:=⟨_,rfl⟩
 have HI0:Hid (LsAt s c P w 0 W0):=hide (by
  rw [←hW0];refine ⟨by omega,by omega,(((Boxed.new w _ _).alloc _).alloc _).alloc _,?_,?_,⟨s.size+1,by simp [Sx.allLen],?_⟩,?_⟩
  · have:=((Boxed.new (w.alloc (.cells #[.string s] 138)) 3 (.int .i64 c)).alloc (.cells #[.string ⟨#[]⟩] 9)).alloc (.cells #[.int .i64 ((s.size:Int)+1)] 3);rw [World.size_alloc] at this
    simpa using this
  · have:=(Boxed.new ((w.alloc (.cells #[.string s] 138)).alloc (.cells #[.int .i64 c] 3)) 9 (.string ⟨#[]⟩)).alloc (.cells #[.int .i64 ((s.size:Int)+1)] 3);rw [World.size_alloc,World.size_alloc] at this;exact this
  · have:=Boxed.new (((w.alloc (.cells #[.string s] 138)).alloc (.cells #[.int .i64 c] 3)).alloc (.cells #[.string ⟨#[]⟩] 9)) 3 (.int .i64 ((s.size:Int)+1));rw [World.size_alloc,World.size_alloc,World.size_alloc] at this
    simpa using this
  · exact ((((Below.refl _ w).alloc (Nat.le_refl _) _).alloc (by simp) _).alloc (by simp;omega) _).alloc (by simp;omega) _)
 have hw0:=HI0.out.bel.size;rw [hW0];clear hW0;refine range_labs 10 (by omega) (by omega) s hs (.tmp 11) rfl P HP.out rfl (LsAt s c P w) (LsNo s c P w) (LsAt.own hw0) (LsNo.own hw0) HI0.out
  (fun x=>{ tmps:=#[Value.string s,Value.int IntKind.i64 c,Value.pointer (some ⟨w.heap.size,0,none⟩),Value.pointer (some ⟨w.heap.size+1,0,none⟩),Value.pointer (some ⟨w.heap.size+1+1,0,none⟩),Value.pointer (some ⟨w.heap.size+1+1+1,0,none⟩),.string x,Value.string s,
        Value.int IntKind.i64 ↑s.size,Value.int IntKind.i64 (↑s.size+1),Value.string s,Value.func (Fn.func 111) #[Value.string s] #[],.string x,undef,undef,undef,undef,undef,undef,undef,undef,undef,undef,undef,undef],defers:=[] }) ?assign ?body ?done ?stop
 case assign =>
  intro l x W K hK;gi_wp2
  exact hK
 case body =>
  rintro l k hk W hrd;have HRD:=hide hrd;obtain ⟨kc,kP,b0,b1,b2,⟨T,hT,b3⟩,bel⟩:=hrd;have hPk:Sx.allLen (P.take (k+1))=Sx.allLen (P.take k)+(P[k].length+1):=by
   rw [List.take_succ_eq_append_getElem hk,allLen_app];simp [Sx.allLen]
  have hla:=last_at s.data.toList (k+1) (by omega) (by rw [←HP.out];exact hk);rw [←HP.out,hPk] at hla;have hsl:s.data.toList.length=s.size:=ba_len s;rw [hsl] at hla;obtain ⟨X,hX⟩:∃ X:ByteArray,⟨P[k].toArray⟩=X:=⟨_,rfl⟩
  have hXs:X.size=P[k].length:=by rw [←hX];rfl
  rw [hX];obtain ⟨n,hn⟩:∃ n,P[k].length=n:=⟨_,rfl⟩
  rw [hn] at hXs hla hPk;obtain ⟨T2,hT2⟩:∃ T2:Nat,T=T2+(n+1):=⟨T-(n+1),by omega⟩
  have hTi:(T:Int)-((n:Int)+1)=(T2:Int):=by omega
  have hT2s:T2≤s.size:=by omega
  have hst:s.extract T2 s.size=⟨(lastP s.data.toList ((k+1:Nat):Int)).toArray⟩:=by
   rw [←hla.2,show s.size+1-(Sx.allLen (P.take k)+(n+1))=T2 by omega];exact drop_ext s T2
  have HLA:=hide hla;have HST:=hide hst;have HT:=hide hT;have HPK:=hide hPk;have hT1:T≤2000:=by omega
  have hTn:T2+(n+1)=T:=hT2.symm;have hn1:n≤2000:=by omega
  have c0:=b0.cell;have c1:=b1.cell;have c2:=b2.cell;have c3:=b3.cell;have f1:=b1.frozen;have f2:=b2.frozen;have f3:=b3.frozen;have hkc:(c:Int)-(k:Int)≤1000:=by omega
  have hkc0:1≤(c:Int)-(k:Int):=by omega
  obtain ⟨m,hm⟩:∃ m:Int,(c:Int)-(k:Int)=m:=⟨_,rfl⟩
  rw [hm] at c1 hkc hkc0;have HM:=hide hm;have HB1:=hide b1;have HB3:=hide b3;clear hla hst hT hPk hX hn hsl hT2 hm b0 b1 b3;have hk1:w.heap.size+1+1=w.heap.size+2:=rfl;have hk2:w.heap.size+1+1+1=w.heap.size+3:=rfl;by_cases hm1:m=1
  · subst hm1;gi_wp2_with fail
    refine ⟨(((KeepsOthers.setCell _ _ _).trans (KeepsOthers.setCell _ _ _)).trans (KeepsOthers.setCell _ _ _)).from _,?_,?_,?_⟩
    · have:=HM.out;omega
    · rw [HST.out];have hck:((k+1:Nat):Int)=(c:Int):=by have:=HM.out;omega
      rw [hck];exact ((b2.kept (grownBy_setCell' _ _ _) (fun e=>by have:=Option.some.inj e;omega)).kept (grownBy_setCell' _ _ _) (fun e=>by have:=Option.some.inj e;omega)).set _
    · exact ((bel.setCell (p:=⟨w.heap.size+1+1+1,0,none⟩) (by show _≤w.heap.size+1+1+1;omega) _).setCell (p:=⟨w.heap.size+1,0,none⟩) (by show _≤w.heap.size+1;omega) _).setCell (p:=⟨w.heap.size+1+1,0,none⟩) (by show _≤w.heap.size+1+1;omega) _
  · have hmz:(m-1 == 0)=false:=by simp;omega
    have hmz2:¬ m-1=0:=by omega
    gi_wp2_with fail
    have hcm:=HM.out;refine ⟨((KeepsOthers.setCell _ _ _).trans (KeepsOthers.setCell _ _ _)).from _,by omega,hk,?_,?_,?_,⟨T2,by rw [HPK.out];have:=HT.out;omega,?_⟩,?_⟩
    · exact (HRD.out.b0.kept (grownBy_setCell' _ _ _) (fun e=>by have:=Option.some.inj e;omega)).kept (grownBy_setCell' _ _ _) (fun e=>by have:=Option.some.inj e;omega)
    · have h1:=(HB1.out.kept (grownBy_setCell' W (w.heap.size+1+1+1) (.int .i64 T2)) (fun e=>by have:=Option.some.inj e;omega)).set (.int .i64 (m-1));rw [show (c:Int)-((k+1:Nat):Int)=m-1 by omega];exact h1
    · exact (b2.kept (grownBy_setCell' _ _ _) (fun e=>by have:=Option.some.inj e;omega)).kept (grownBy_setCell' _ _ _) (fun e=>by have:=Option.some.inj e;omega)
    · exact (HB3.out.set _).kept (grownBy_setCell' _ _ _) (fun e=>by have:=Option.some.inj e;omega)
    · exact (bel.setCell (p:=⟨w.heap.size+1+1+1,0,none⟩) (by show _≤w.heap.size+1+1+1;omega) _).setCell (p:=⟨w.heap.size+1,0,none⟩) (by show _≤w.heap.size+1;omega) _
 case done =>
  rintro D W hD hrd hK;obtain ⟨kc,kP,b0,b1,b2,-,bel⟩:=hrd;have c2:=b2.cell;have f2:=b2.frozen;have hno:lastP s.data.toList c=[]:=by
   unfold lastP;rw [if_neg];rw [←HP.out];omega
  have hwD:=hw0;clear b0 b1;gi_wp2_with fail
  have hk2:=(KeepsOthers.setCell W ⟨w.heap.size+1+1,0,none⟩ (.string ⟨#[]⟩)).same D _ hK rfl;refine ⟨by simp,.inl ⟨_,_,rfl,run_takeDeferred hk2,?_⟩⟩;have y2:Boxed (W.setCell ⟨w.heap.size+1+1,0,none⟩ (.string ⟨#[]⟩)) (w.heap.size+1+1) 9 (.string ⟨#[]⟩):=b2.set _;have v2:=(y2.kept (grownBy_putObj' (W.setCell ⟨w.heap.size+1+1,0,none⟩ (.string ⟨#[]⟩)) D (.deferred none)) (fun e=>box_ne y2 hk2 rfl (Option.some.inj e))).cell;refine ⟨.string ⟨#[]⟩,by simp [results,Tryz.results87,go_sem,v2],?_⟩;refine ⟨by rw [hno],?_⟩;exact (bel.setCell (p:=⟨w.heap.size+1+1,0,none⟩) (by show _≤w.heap.size+1+1;omega) _).grown (grownBy_putObj' (W.setCell ⟨w.heap.size+1+1,0,none⟩ (.string ⟨#[]⟩)) D (.deferred none)) (by rw [World.size_setCell];exact bel.size) (fun q e=>by cases e;omega)
 case stop =>
  rintro D W hD hrd hK;obtain ⟨cP,b2,bel⟩:=hrd;obtain ⟨R,hR⟩:∃ R:ByteArray,⟨(lastP s.data.toList c).toArray⟩=R:=⟨_,rfl⟩
  rw [hR] at b2;gi_wp2
  refine ⟨by simp,.inl ⟨_,_,rfl,run_takeDeferred hK,?_⟩⟩;have v2:(W.putObj D (.deferred none)).cell? ⟨w.heap.size+1+1,0,none⟩=some (.string R):=(b2.kept (grownBy_putObj' W D (.deferred none)) (fun e=>box_ne b2 hK rfl (Option.some.inj e))).cell;refine ⟨.string R,by simp [results,Tryz.results87,go_sem,v2],?_⟩;exact ⟨by rw [hR],bel.grown (grownBy_putObj' W D (.deferred none)) bel.size (fun q e=>by cases e;omega)⟩
theorem psufO (r:Sx.Rl) (n:Nat) (s:ByteArray) (w:World) (hr:r.1.length≤1000) (hn:pubI r=n) (h1:1≤n) (h2:n≤900) (hs:s.size≤1000) :
 Calls Tryz.prog 56 #[ruA r,.string s] w fun e w'=>e=.returned (.string ⟨(lastP s.data.toList n).toArray⟩)∧Below w.heap.size w w':=by
 have HP:=hide (fun W=>ppubl r W hr);rw [hn] at HP;have HL:=hide (fun W=>plast s n W _ hs rfl h1 (by omega));have HB0:Hid (∀ o W,Below (w.alloc o).heap.size (w.alloc o) W→Below w.heap.size w W):=hide (fun o W h=>((Below.refl _ w).alloc (Nat.le_refl _) o).trans (h.mono (by simp)));obtain ⟨rh,rk,rs⟩:=r;unfold ruA at HP ⊢;dsimp only at HP ⊢;obtain ⟨X,hX⟩:∃ X:ByteArray,⟨(Sx.dotted rh).toArray⟩=X:=⟨_,rfl⟩
 obtain ⟨M,hM⟩:∃ M,rh.length=M:=⟨_,rfl⟩
 obtain ⟨R,hR⟩:∃ R:ByteArray,⟨(lastP s.data.toList n).toArray⟩=R:=⟨_,rfl⟩
 rw [hX,hM] at HP ⊢;rw [hR] at HL ⊢;clear hX hM hR hn hr;go_enter Tryz.func56,Tryz.ntmps56;go_wp2_with fail
 refine (HP.out _).mono ?_;rintro e w1 ⟨rfl,hB1⟩;have HB1:=hide hB1;clear hB1;go_wp2_with fail
 refine (HL.out _).mono ?_;rintro e w2 ⟨rfl,hB2⟩;have HB2:=hide hB2;clear hB2;go_wp2;go_ret;exact ⟨rfl,HB0.out _ _ (HB1.out.trans (HB2.out.mono HB1.out.size))⟩
theorem pdomO (r:Sx.Rl) (n:Nat) (s:ByteArray) (w:World) (hr:r.1.length≤1000) (hn:pubI r=n) (h1:1≤n) (h2:n≤900) (hs:s.size≤1000) :
 Calls Tryz.prog 57 #[ruA r,.string s] w fun e w'=>e=.returned (.string ⟨(lastP s.data.toList ((n:Int)+1)).toArray⟩)∧Below w.heap.size w w':=by
 have HP:=hide (fun W=>ppubl r W hr);rw [hn] at HP;have HL:=hide (fun W=>plast s (n+1) W _ hs rfl (by omega) (by omega));rw [show ((n+1:Nat):Int)=(n:Int)+1 by omega] at HL;have HB0:Hid (∀ o W,Below (w.alloc o).heap.size (w.alloc o) W→Below w.heap.size w W):=hide (fun o W h=>((Below.refl _ w).alloc (Nat.le_refl _) o).trans (h.mono (by simp)));obtain ⟨rh,rk,rs⟩:=r;unfold ruA at HP ⊢;dsimp only at HP ⊢;obtain ⟨X,hX⟩:∃ X:ByteArray,⟨(Sx.dotted rh).toArray⟩=X:=⟨_,rfl⟩
 obtain ⟨M,hM⟩:∃ M,rh.length=M:=⟨_,rfl⟩
 obtain ⟨R,hR⟩:∃ R:ByteArray,⟨(lastP s.data.toList ((n:Int)+1)).toArray⟩=R:=⟨_,rfl⟩
 rw [hX,hM] at HP ⊢;rw [hR] at HL ⊢;clear hX hM hR hn hr;go_enter Tryz.func57,Tryz.ntmps57;go_wp2_with fail
 refine (HP.out _).mono ?_;rintro e w1 ⟨rfl,hB1⟩;have HB1:=hide hB1;clear hB1;go_wp2_with fail
 refine (HL.out _).mono ?_;rintro e w2 ⟨rfl,hB2⟩;have HB2:=hide hB2;clear hB2;go_wp2;go_ret;exact ⟨rfl,HB0.out _ _ (HB1.out.trans (HB2.out.mono HB1.out.size))⟩
theorem rt_small {r:Sx.Rl} (h:Sx.RlRt r):r.1.length≤6∧(Sx.dotted r.1).length≤60:=by
 have h1:=h.ok.1;have h2:=Sx.dotted_allL r.1 h1.1;have h3:=h1.2.2.1;exact ⟨h1.2.1,by omega⟩
end Go.Proofs.YtgohllfpceeboaaGreatDoor
