import Derived.Test.YtgohllfpceeboabGreatDoorAnaj
import Derived.Test.YtgohllfpceeboabGreatDoorAnag
import Derived.Test.YtgohllfpceeboabGreatDoorAnai
import Derived.Lib.OthersKept
import Derived.Shelf.RegionOpenPlain
set_option maxRecDepth 100000
set_option maxHeartbeats 1000000
namespace Go.Proofs.YtgohllfpceeboabGreatDoor
open Go.RowKit
def FO (w:World)(k:Nat):Nat:=match w.heap[k]? with
 | some (.stringIter _ p)=>p
 | _=>0
theorem fY {w:World}{k:Nat}{s:ByteArray}{p:Nat}(h:w.heap[k]? = some (.stringIter s p)):FO w k=p:=by unfold FO;rw[h]
theorem rG (W:World)(K:Nat)(s:ByteArray)(pos n:Nat)(c:Int)(hk:W.heap[K]? = some (.stringIter s pos))(hp:pos<s.size)(hd:Go.Utf8.decode s pos=(c.toNat,n))(h0:0≤c):∀ ty,(Instr.next (.pointer (some ⟨K,0,none⟩)) true ty).run Tryz.prog W=.ok (.tuple #[.bool true,.int .i64 pos,.int .i32 c]) (W.iterAt K s (pos+n)):=by
 intro ty;have:=Lib.run_next_any_at (P:=Tryz.prog) W K s pos ty hk hp;rw[hd] at this;rw[this];show Result.ok (Value.tuple #[.bool true,.int .i64 pos,.int .i32 ((c.toNat:Nat):Int)]) (W.iterAt K s (pos+n))=_;rw[Int.toNat_of_nonneg h0]
theorem VQ (s:ByteArray)(l:List Int)(w:World)(hl:Sx.aF s.data.toList=some l)(hs:s.size≤1000000) :
 Calls Tryz.prog 230 #[.string s,.func (.func 132) #[] #[],.bool true] w fun e w'=>(∃ n:Int,e=.returned (.int .i64 n)∧(0≤n↔l.any (fun c=>decide (128≤c))=true) ∧ -1≤n)∧Below w.heap.size w w':=by
 have HL:=hide hl;clear hl;go_enter Tryz.func230,Tryz.ntmps230;go_wp2
 go_loopw [] (fun wr=>∃ (pos:Nat) (l':List Int),wr.heap[w.heap.size]? = some (.stringIter s pos)∧pos≤s.size∧Sx.aF (s.data.toList.drop pos)=some l'∧l.any (fun c=>decide (128≤c))=l'.any (fun c=>decide (128≤c))∧Below w.heap.size w wr) (fun wr=>s.size-FO wr w.heap.size)
 case atStart=>exact⟨0,l,World.iter_heap w s 0,by omega,by rw[List.drop_zero];exact HL.out,rfl,(Below.refl _ _).alloc (Nat.le_refl _) _⟩
 case round =>
  obtain⟨pos,l',hk,hps,hq,hany,hB⟩:=hrel;have HQ:=hide hq;have HANY:=hide hany;have HK:=hide hk;clear hq hany;by_cases hp:pos<s.size
  · obtain⟨c,n,l2,hd,hl2,hc0,hc1,hsur,hn1,hn2,hq2,_⟩:=Sx.jD s pos l' HQ.out hp;have hnx:=rG wr w.heap.size s pos n c hk hp hd hc0;subst hl2;have HQ2:=hide hq2;clear hd hq2 hk;by_cases h128:128≤c
    · have hb:decide (128≤c)=true:=by simpa using h128
      go_wp2_with (go_at_call 132;go_must (refine(fX _ _).mono ?_;rintro e w' ⟨rfl,rfl⟩;rw[hb]))
      go_ret;exact⟨⟨pos,rfl,by rw[HANY.out];simp[h128],by omega⟩,Lib.below_iterAt hB (Nat.le_refl _) _ _⟩
    · have hb:decide (128≤c)=false:=by simpa using h128
      have HST:=hide (show((c::l2).any fun c=>decide (128≤c))=l2.any (fun c=>decide (128≤c)) by rw[List.any_cons,hb];rfl);go_wp2_with (go_at_call 132;go_must (refine(fX _ _).mono ?_;rintro e w' ⟨rfl,rfl⟩;rw[hb]))
      exact⟨⟨pos+n,l2,Lib.iterAt_heap wr _ s pos (pos+n) HK.out,by omega,HQ2.out,by rw[HANY.out,HST.out],Lib.below_iterAt hB (Nat.le_refl _) _ _⟩,by rw[fY (Lib.iterAt_heap wr _ s pos (pos+n) HK.out),fY HK.out];omega⟩
  · have hnx:=fun ty=>Lib.run_next_end_at (P:=Tryz.prog) wr w.heap.size s pos ty hk hp;have hl':l'=[]:=by
     have:=HQ.out;rw[List.drop_eq_nil_of_le (by rw[aC];omega),Sx.dA] at this;cases this;rfl
    have HL':=hide hl';clear hl' hk;go_wp2;go_ret;exact⟨⟨-1,rfl,by rw[HANY.out,HL'.out];simp,by omega⟩,hB⟩
theorem E4 (s:ByteArray)(l:List Int)(w:World)(hl:Sx.aF s.data.toList=some l)(hs:s.size≤1000000) :
 Calls Tryz.prog 187 #[.string s,.func (.func 132) #[] #[]] w fun e w'=>(∃ n:Int,e=.returned (.int .i64 n)∧(0≤n↔l.any (fun c=>decide (128≤c))=true) ∧ -1≤n)∧Below w.heap.size w w':=by
 have HP:=hide (VQ s l w hl hs);clear hl;go_enter Tryz.func187,Tryz.ntmps187;go_wp2_with (go_at_call 230;go_must (refine HP.out.mono ?_;rintro e w' ⟨⟨n,rfl,hn,hn1⟩,hB⟩;have HN:=hide hn;clear hn))
 go_ret;exact⟨⟨n,rfl,HN.out,hn1⟩,hB⟩
theorem pO (s:ByteArray)(l:List Int)(w:World)(hl:Sx.aF s.data.toList=some l)(hs:s.size≤1000000) :
 Calls Tryz.prog 131 #[.string s,.func (.func 132) #[] #[]] w fun e w'=>e=.returned (.bool (l.any fun c=>decide (128≤c)))∧Below w.heap.size w w':=by
 have HP:=hide (E4 s l w hl hs);clear hl;go_enter Tryz.func131,Tryz.ntmps131;go_wp2_with (go_at_call 187;go_must (refine HP.out.mono ?_;rintro e w' ⟨⟨n,rfl,hn,hn1⟩,hB⟩;have HN:=hide hn;clear hn))
 go_ret;exact⟨aP (by rw[Bool.eq_iff_iff,←HN.out];simp),hB⟩
def lZ (c:UInt8):UInt8:=if 65≤c.toNat∧c.toNat≤90 then UInt8.ofNat (c.toNat+32) else c
def ByAt (W:World)(b:Nat)(l:List UInt8):Prop:=b<W.heap.size∧∀ j (h:j<l.length),W.cell? ⟨b,j,none⟩=some (.int .u8 l[j].toNat)∧W.frozen? ⟨b,j,none⟩=false
theorem ByAt.set {W:World}{b:Nat}{l:List UInt8}(h:ByAt W b l)(k:Nat)(hk:k<l.length)(x:UInt8):ByAt (W.setCell ⟨b,k,none⟩ (.int .u8 x.toNat)) b (l.set k x):=by
 refine⟨by rw[World.size_setCell];exact h.1,fun j hj=>?_⟩;have hj2:j<l.length:=by simpa using hj
 refine⟨?_,(World.frozen?_setCell ..).trans (h.2 j hj2).2⟩;by_cases e:k=j
 · subst e;rw[World.cell?_setCell_same _ _ _ (h.2 k hk).1];simp
 · rw[World.cell?_setCell_other _ _ _ _ (by simp),(h.2 j hj2).1];simp[e]
theorem QN (w:World)(s:ByteArray)(cap:Nat)(n:Nat)(hn:s.size≤n):ByAt (w.drew.alloc (.cells (bytesRow s cap) 5 (n,n+1))) w.heap.size s.data.toList:=by
 refine⟨by simp,fun j hj=>⟨?_,?_⟩⟩
 · have hj2:j<s.data.size:=by simpa using hj
   have:=World.cell?_alloc_mark w.drew (bytesRow s cap) 5 (n,n+1) j;rw[show w.drew.heap.size=w.heap.size from rfl] at this;rw[this,bytesRow_at s cap j hj2];simp
 · have:=World.frozen?_alloc_mark w.drew (bytesRow s cap) 5 n (n+1) j;rw[show w.drew.heap.size=w.heap.size from rfl] at this;rw[this];have:j<s.size:=by simpa using hj
   simp;omega
theorem PZ {W:World}{b cap:Nat}{l:List UInt8}(h:ByAt W b l):(convert 90 9 (.slice (some ⟨b,0,none⟩) l.length cap)).run Tryz.prog W=.ok (.string ⟨l.toArray⟩) W :=
 run_convert_bytes_back (P:=Tryz.prog) W 90 9 5 ⟨b,0,none⟩ cap l Tryz.underlying90 Tryz.underlying5 Tryz.underlying9 (fun j hj=>by
  rw[Addr.add_lit,Nat.zero_add];exact(h.2 j hj).1)
def iI (s:List UInt8)(k:Nat):List UInt8:=(s.take k).map lZ++s.drop k
theorem QT (s:List UInt8)(k:Nat)(h:k≤s.length):(iI s k).length=s.length:=by simp[iI];omega
theorem OS (s:List UInt8)(k:Nat)(h:k<s.length)(h2:k<(iI s k).length):(iI s k)[k]=s[k]:=by
 simp only[iI];rw[List.getElem_append_right (by simp;omega)];simp[show min k s.length=k from by omega]
theorem uX (s:List UInt8)(k:Nat)(h:k<s.length)(hl:lZ s[k]=s[k]):iI s (k+1)=iI s k:=by
 simp only[iI];rw[List.take_succ_eq_append_getElem h,List.map_append,List.append_assoc,List.drop_eq_getElem_cons h];simp[hl]
theorem OX (s:List UInt8)(k:Nat)(h:k<s.length):iI s (k+1)=(iI s k).set k (lZ s[k]):=by
 simp only[iI];rw[List.take_succ_eq_append_getElem h,List.map_append,List.append_assoc,List.set_append];simp[show min k s.length=k from by omega];rw[List.drop_eq_getElem_cons h];rfl
theorem ZS (s:ByteArray)(w:World)(hs:s.size≤1000000):Calls Tryz.prog 130 #[.string s] w fun e w'=>e=.returned (.string ⟨(s.data.toList.map lZ).toArray⟩)∧Below w.heap.size w w':=by
 have hcv:=run_bytes_of_string (P:=Tryz.prog) w 9 90 5 s Tryz.underlying9 Tryz.underlying90 Tryz.underlying5;obtain⟨cap,hcap⟩:∃ cap,grownCap w s.size 0 5=cap:=⟨_,rfl⟩
 rw[hcap] at hcv;have hnew:=QN w s cap (bytesRow s cap).size (by simp[bytesRow]);have hBel:Below w.heap.size w (w.drew.alloc (.cells (bytesRow s cap) 5 ((bytesRow s cap).size,(bytesRow s cap).size+1))):=((Below.refl w.heap.size w).drew).alloc (Nat.le_refl _) _;obtain⟨W0,hW0⟩:∃ W0,(w.drew.alloc (.cells (bytesRow s cap) 5 ((bytesRow s cap).size,(bytesRow s cap).size+1)))=W0:=⟨_,rfl⟩
 rw[hW0] at hcv hnew hBel;have HNEW:=hide hnew;clear hW0 hcap hnew;go_enter Tryz.func130,Tryz.ntmps130;go_wp2
 go_loopw [10] (fun i wr=>∃ k:Nat,i=.int .i64 k∧k≤s.size∧ByAt wr w.heap.size (iI s.data.toList k)∧Below w.heap.size w wr) (fun i _=>(s.size-intOf i).toNat)
 case atStart=>exact⟨0,rfl,by omega,by simpa[iI] using HNEW.out,hBel⟩
 case round =>
  obtain⟨k,rfl,hk,hby,hB⟩:=hrel;have hll:(iI s.data.toList k).length=s.size:=by rw[QT _ _ (by rw[aC];exact hk),aC]
  have HBY:=hide hby;have HLL:=hide hll;clear hby hll hcv;by_cases hlt:k<s.size
  · have hlt2:k<s.data.toList.length:=by rw[aC];exact hlt
    have hk3:k<(iI s.data.toList k).length:=by rw[HLL.out];exact hlt
    obtain⟨hc,hf⟩:=HBY.out.2 k hk3;rw[OS _ _ hlt2,byte_at s k hlt hlt2] at hc;obtain⟨x,hx⟩:∃ x,s[k]=x:=⟨_,rfl⟩
    rw[hx] at hc;have hxx:s.data.toList[k]=x:=by rw[byte_at s k hlt hlt2,hx]
    have HXX:=hide hxx;have hxl:=x.toNat_lt;clear hx hxx;by_cases a1:65≤x.toNat
    · by_cases a2:x.toNat≤90
      · have hlow:lZ x=UInt8.ofNat (x.toNat+32):=by unfold lZ;rw[if_pos ⟨a1,a2⟩]
        have hlw:((lZ x).toNat:Int)=(x.toNat:Int)-65+97:=by rw[hlow];simp only[UInt8.toNat_ofNat'];omega
        have HLW:=hide hlw;clear hlow hlw;go_wp2;rw[←HLW.out];exact⟨⟨k+1,by go_num,by omega,by rw[OX _ _ hlt2,HXX.out];exact HBY.out.set k hk3 (lZ x),hB.setCell (p:=⟨w.heap.size,k,none⟩) (Nat.le_refl _) _⟩,by simp[intOf];omega⟩
      · have hlow:lZ s.data.toList[k]=s.data.toList[k]:=by rw[HXX.out];unfold lZ;rw[if_neg (by omega)]
        have HLOW:=hide hlow;clear hlow;go_wp2;exact⟨⟨k+1,by go_num,by omega,by rw[uX _ _ hlt2 HLOW.out];exact HBY.out,hB⟩,by simp[intOf];omega⟩
    · have hlow:lZ s.data.toList[k]=s.data.toList[k]:=by rw[HXX.out];unfold lZ;rw[if_neg (by omega)]
      have HLOW:=hide hlow;clear hlow;go_wp2;exact⟨⟨k+1,by go_num,by omega,by rw[uX _ _ hlt2 HLOW.out];exact HBY.out,hB⟩,by simp[intOf];omega⟩
  · have hks:k=s.size:=by omega
    have hfin:iI s.data.toList k=s.data.toList.map lZ:=by
     unfold iI;rw[List.take_of_length_le (by rw[aC];omega),List.drop_eq_nil_of_le (by rw[aC];omega)];simp
    have hcs:=PZ (cap:=cap) HBY.out;rw[HLL.out] at hcs;rw[hfin] at hcs;clear hks hfin;go_wp2;go_ret;exact⟨rfl,hB⟩
def RuAt (W:World)(b:Nat)(l:List Int):Prop:=b<W.heap.size∧∀ j (_:j<l.length),W.cell? ⟨b,j,none⟩=some (.int .i32 l[j])
theorem i9 (l:List Int)(b k cap:Nat)(c:Int)(w:World)(hr:RuAt w b l)(hk:k≤l.length)(hl:l.length≤1000) :
 Calls Tryz.prog 231 #[.slice (some ⟨b,0,none⟩) k cap,.int .i32 c] w fun e w'=>e=.returned (.int .i64 ((l.take k).countP fun x=>decide (x≤c)))∧w'=w:=by
 have HR:=hide hr;clear hr;go_enter Tryz.func231,Tryz.ntmps231;go_wp2
 go_loop [5,10] (fun n i=>∃ (j m:Nat),n=.int .i64 m∧i=.int .i64 j∧j≤k∧m≤j∧(l.take j).countP (fun x=>decide (x≤c))=m) (fun _ i=>(k-intOf i).toNat)
 case atStart=>exact⟨0,0,rfl,rfl,by omega,by omega,by simp⟩
 case round =>
  obtain⟨j,m,rfl,rfl,hj,hm,hq⟩:=hrel;have HQ:=hide hq;clear hq;by_cases hlt:j<k
  · have hlt2:j<l.length:=by omega
    have hc:=HR.out.2 j hlt2;have hst:(l.take (j+1)).countP (fun x=>decide (x≤c))=m+if l[j]≤c then 1 else 0:=by
     rw[List.take_succ_eq_append_getElem hlt2,List.countP_append,HQ.out,List.countP_cons,List.countP_nil];simp
    obtain⟨x,hx⟩:∃ x,l[j]=x:=⟨_,rfl⟩
    rw[hx] at hc hst;have HST:=hide hst;clear hst hx;by_cases hxc:x≤c
    · go_wp2
      go_round
      case rel=>exact⟨j+1,m+1,by go_num,by go_num,by omega,by omega,by rw[HST.out];simp;omega⟩
      case measure=>simp[intOf];omega
    · go_wp2
      go_round
      case rel=>exact⟨j+1,m,rfl,by go_num,by omega,by omega,by rw[HST.out];simp;omega⟩
      case measure=>simp[intOf];omega
  · have hjk:j=k:=by omega
    subst hjk;go_wp2;go_ret;exact⟨bY (by rw[HQ.out]),rfl⟩
def jP (c:Int):Bool:=wE c || decide (128≤c)
theorem B6 (s t:ByteArray)(l:List Int)(w:World)(hl:Sx.aF s.data.toList=some l)(hs:s.size≤1000000) :
 Calls Tryz.prog 135 #[.agg #[.string s,.string t]] w fun e w'=>e=.returned (.bool (l.all jP))∧Below w.heap.size w w':=by
 have HL:=hide hl;clear hl;go_enter Tryz.func135,Tryz.ntmps135;have hB0:Below w.heap.size w ((w.alloc (.cells #[.string s,.string t] 69)).iter s 0):=((Below.refl _ _).alloc (Nat.le_refl _) _).alloc (by simp) _;have hk0:=World.iter_heap (w.alloc (.cells #[.string s,.string t] 69)) s 0;rw[World.size_alloc] at hk0;go_wp2
 go_loopw [] (fun wr=>∃ (pos:Nat) (l':List Int),wr.heap[w.heap.size+1]? = some (.stringIter s pos)∧pos≤s.size∧Sx.aF (s.data.toList.drop pos)=some l'∧l.all jP=l'.all jP∧Below w.heap.size w wr) (fun wr=>s.size-FO wr (w.heap.size+1))
 case atStart=>exact⟨0,l,hk0,by omega,by rw[List.drop_zero];exact HL.out,rfl,hB0⟩
 case round =>
  obtain⟨pos,l',hk,hps,hq,hany,hB⟩:=hrel;have HQ:=hide hq;have HANY:=hide hany;have HK:=hide hk;clear hq hany hB0 hk0;by_cases hp:pos<s.size
  · obtain⟨c,n,l2,hd,hl2,hc0,hc1,hsur,hn1,hn2,hq2,_⟩:=Sx.jD s pos l' HQ.out hp;have hnx:=rG wr (w.heap.size+1) s pos n c hk hp hd hc0;subst hl2;have HQ2:=hide hq2;clear hd hq2 hk;obtain⟨p1,hp1⟩:∃ p1,wE c=p1:=⟨_,rfl⟩
    obtain⟨p2,hp2⟩:∃ p2,decide (128≤c)=p2:=⟨_,rfl⟩
    have hok:jP c=(p1 || p2):=by unfold jP;rw[hp1,hp2]
    have HP1:=hide hp1;have HP2:=hide hp2;have HOK:=hide hok;clear hp1 hp2 hok;cases p1 with
    | true =>
      go_wp2_with (first | (go_at_call 191;go_must (refine(BI _ _).mono ?_;rintro e w' ⟨rfl,rfl⟩;rw[HP1.out])) | (go_at_call 132;go_must (refine(fX _ _).mono ?_;rintro e w' ⟨rfl,rfl⟩;rw[HP2.out])))
      exact⟨⟨pos+n,l2,Lib.iterAt_heap wr _ s pos (pos+n) HK.out,by omega,HQ2.out,by rw[HANY.out,List.all_cons,HOK.out];rfl,Lib.below_iterAt hB (by omega) _ _⟩,by rw[fY (Lib.iterAt_heap wr _ s pos (pos+n) HK.out),fY HK.out];omega⟩
    | false =>
      cases p2 with
      | true =>
        go_wp2_with (first | (go_at_call 191;go_must (refine(BI _ _).mono ?_;rintro e w' ⟨rfl,rfl⟩;rw[HP1.out])) | (go_at_call 132;go_must (refine(fX _ _).mono ?_;rintro e w' ⟨rfl,rfl⟩;rw[HP2.out])))
        exact⟨⟨pos+n,l2,Lib.iterAt_heap wr _ s pos (pos+n) HK.out,by omega,HQ2.out,by rw[HANY.out,List.all_cons,HOK.out];rfl,Lib.below_iterAt hB (by omega) _ _⟩,by rw[fY (Lib.iterAt_heap wr _ s pos (pos+n) HK.out),fY HK.out];omega⟩
      | false =>
        go_wp2_with (first | (go_at_call 191;go_must (refine(BI _ _).mono ?_;rintro e w' ⟨rfl,rfl⟩;rw[HP1.out])) | (go_at_call 132;go_must (refine(fX _ _).mono ?_;rintro e w' ⟨rfl,rfl⟩;rw[HP2.out])))
        go_ret;exact⟨aP (by rw[HANY.out,List.all_cons,HOK.out];rfl),Lib.below_iterAt hB (by omega) _ _⟩
  · have hnx:=fun ty=>Lib.run_next_end_at (P:=Tryz.prog) wr (w.heap.size+1) s pos ty hk hp;have hl':l'=[]:=by
     have:=HQ.out;rw[List.drop_eq_nil_of_le (by rw[aC];omega),Sx.dA] at this;cases this;rfl
    have HL':=hide hl';clear hl' hk;go_wp2;go_ret;exact⟨aP (by rw[HANY.out,HL'.out];rfl),hB⟩
attribute [local go_sem ↓] Go.wp_at_zero Go.wp_at_succ
def WaysAt (W:World)(g:Nat)(l:List (Int×Int)):Prop :=
 g<W.heap.size∧(∀ j (h:j<l.length),W.cell? ⟨g,j*2,none⟩=some (.int .i64 l[j].1)∧W.cell? ⟨g,j*2+1,none⟩=some (.int .i64 l[j].2))∧∀ o,W.frozen? ⟨g,o,none⟩=false
theorem WaysAt.set {W:World}{g:Nat}{l:List (Int×Int)}(h:WaysAt W g l)(k:Nat)(hk:k<l.length)(x:Int×Int):WaysAt ((W.setCell ⟨g,k*2,none⟩ (.int .i64 x.1)).setCell ⟨g,k*2+1,none⟩ (.int .i64 x.2)) g (l.set k x):=by
 obtain⟨h1,h2,h3⟩:=h;refine⟨by rw[World.size_setCell,World.size_setCell];exact h1,fun j hj=>?_,fun o=>by rw[World.frozen?_setCell,World.frozen?_setCell];exact h3 o⟩;have hj2:j<l.length:=by simpa using hj
 obtain⟨k1,k2⟩:=h2 k hk;obtain⟨j1,j2⟩:=h2 j hj2;have ne1:(⟨g,k*2,none⟩:Addr)≠⟨g,k*2+1,none⟩:=by simp
 by_cases e:k=j
 · subst e;constructor
   · rw[World.cell?_setCell_other _ _ _ _ (Ne.symm ne1),World.cell?_setCell_same _ _ _ k1];simp
   · rw[World.cell?_setCell_same _ _ _ ((World.cell?_setCell_other _ _ _ _ ne1).trans k2)];simp
 · constructor
   · rw[World.cell?_setCell_other _ _ _ _ (by(simp;try omega)),World.cell?_setCell_other _ _ _ _ (by(simp;try omega)),j1];simp[e]
   · rw[World.cell?_setCell_other _ _ _ _ (by(simp;try omega)),World.cell?_setCell_other _ _ _ _ (by(simp;try omega)),j2];simp[e]
def dS (l:List (Int×Int))(i j:Nat):List (Int×Int):=(l.set i (l.getD j (0,0))).set j (l.getD i (0,0))
def nD (l:List (Int×Int))(a b:Nat):Nat→List (Int×Int)
 | 0=>l
 | n+1=>dS (nD l a b n) (a+n) (b+n)
theorem jB (l:List (Int×Int))(i j:Nat):(dS l i j).length=l.length:=by simp[dS]
theorem rU (l:List (Int×Int))(a b n:Nat):(nD l a b n).length=l.length:=by
 induction n with
 | zero=>rfl
 | succ n ih=>simp only[nD,jB,ih]
theorem yY (l:List (Int×Int))(i j x:Nat)(hi:i<l.length)(hj:j<l.length):(dS l i j)[x]? = if x=j then l[i]? else if x=i then l[j]? else l[x]?:=by
 unfold dS;rw[List.getElem?_set,List.length_set,List.getElem?_set];by_cases h1:j=x
 · subst h1;simp[hi,hj]
 · by_cases h2:i=x
   · subst h2;simp[h1,hi,hj,Ne.symm h1]
   · simp[h1,h2,Ne.symm h1,Ne.symm h2]
theorem SY (l:List (Int×Int))(a b:Nat):∀ n,a+n≤b→b+n≤l.length→∀ x,(nD l a b n)[x]? = if a≤x∧x<a+n then l[b+(x-a)]? else if b≤x∧x<b+n then l[a+(x-b)]? else l[x]?:=by
 intro n
 induction n with
 | zero=>intro ha hb x;simp only[nD];rw[if_neg (by omega),if_neg (by omega)]
 | succ n ih =>
   intro ha hb x;have ih:=ih (by omega) (by omega);simp only[nD];rw[yY _ _ _ _ (by rw[rU];omega) (by rw[rU];omega),ih (a+n),ih (b+n),ih x];rw[if_neg (show ¬ (a≤a+n∧a+n<a+n) by omega),if_neg (show ¬ (b≤a+n∧a+n<b+n) by omega),if_neg (show ¬ (a≤b+n∧b+n<a+n) by omega),if_neg (show ¬ (b≤b+n∧b+n<b+n) by omega)];by_cases h1:x=b+n
   · rw[if_pos h1,if_neg (show ¬ (a≤x∧x<a+(n+1)) by omega),if_pos (show b≤x∧x<b+(n+1) by omega),show a+(x-b)=a+n from by omega]
   · rw[if_neg h1];by_cases h2:x=a+n
     · rw[if_pos h2,if_pos (show a≤x∧x<a+(n+1) by omega),show b+(x-a)=b+n from by omega]
     · rw[if_neg h2];by_cases h3:a≤x∧x<a+n
       · rw[if_pos h3,if_pos (show a≤x∧x<a+(n+1) by omega)]
       · rw[if_neg h3,if_neg (show ¬ (a≤x∧x<a+(n+1)) by omega)];by_cases h4:b≤x∧x<b+n
         · rw[if_pos h4,if_pos (show b≤x∧x<b+(n+1) by omega)]
         · rw[if_neg h4,if_neg (show ¬ (b≤x∧x<b+(n+1)) by omega)]
theorem GX (P U M V S:List (Int×Int))(h:U.length=V.length):nD (P++U++M++V++S) P.length (P.length+U.length+M.length) U.length=P++V++M++U++S:=by
 apply List.ext_getElem?;intro x;rw[SY _ _ _ _ (by omega) (by simp;omega)];simp only[List.getElem?_append,List.length_append];by_cases h1:x<P.length
 · rw[if_neg (by omega),if_neg (by omega)];simp[h1,show x<P.length+U.length from by omega,show x<P.length+U.length+M.length from by omega,show x<P.length+U.length+M.length+V.length from by omega,show x<P.length+V.length from by omega,show x<P.length+V.length+M.length from by omega,show x<P.length+V.length+M.length+U.length from by omega]
 · obtain⟨y,hy⟩:∃ y,x=P.length+y:=⟨x-P.length,by omega⟩
   subst hy
   repeat' split
   all_goals first
    | rfl
    | (exfalso;omega)
    | (congr 1;omega)
theorem C6 (l:List (Int×Int))(g cap a b n:Nat)(fv:Value)(w:World)(hw:WaysAt w g l)(hl:l.length≤1000)(ha:a+n≤b)(hb:b+n≤l.length) :
 Calls Tryz.prog 257 #[.slice (some ⟨g,0,none⟩) l.length cap,.int .i64 a,.int .i64 b,.int .i64 n,fv] w fun e w'=>(∃ v,e=.returned v)∧WaysAt w' g (nD l a b n)∧w.grownBy w' (some g):=by
 have HW:=hide hw;clear hw;go_enter Tryz.func257,Tryz.ntmps257;go_wp2
 go_loopw [10] (fun i wr=>∃ k:Nat,i=.int .i64 k∧k≤n∧WaysAt wr g (nD l a b k)∧w.grownBy wr (some g)) (fun i _=>(n-intOf i).toNat)
 case atStart=>exact⟨0,rfl,by omega,HW.out,⟨rfl,rfl,rfl,Nat.le_refl _,fun _ _ _=>rfl⟩⟩
 case round =>
  obtain⟨k,rfl,hk,hwk,hg⟩:=hrel;by_cases hlt:k<n
  · have hlen:=rU l a b k;obtain⟨m,hm⟩:∃ m,nD l a b k=m:=⟨_,rfl⟩
    have hnext:nD l a b (k+1)=dS m (a+k) (b+k):=by rw[←hm];rfl
    rw[hm] at hwk hlen;have HNEXT:=hide hnext;have ha2:a+k<m.length:=by omega
    have hb2:b+k<m.length:=by omega
    obtain⟨x,hx⟩:∃ x,m[a+k]=x:=⟨_,rfl⟩
    obtain⟨y,hy⟩:∃ y,m[b+k]=y:=⟨_,rfl⟩
    have hsw:dS m (a+k) (b+k)=(m.set (a+k) y).set (b+k) x:=by
     unfold dS;rw[List.getD_eq_getElem?_getD,List.getElem?_eq_getElem hb2,List.getD_eq_getElem?_getD,List.getElem?_eq_getElem ha2,Option.getD_some,Option.getD_some,hx,hy]
    obtain⟨ca0,ca1⟩:=hwk.2.1 (a+k) ha2;obtain⟨cb0,cb1⟩:=hwk.2.1 (b+k) hb2;rw[hx] at ca0 ca1;rw[hy] at cb0 cb1;have hset:=(hwk.set (a+k) ha2 y).set (b+k) (by simpa using hb2) x;have HSET:=hide hset;have HSW:=hide hsw;have hfz:=hwk.2.2;obtain⟨x1,x2⟩:=x;obtain⟨y1,y2⟩:=y;clear hm hnext hx hy hset hsw hwk;have e1:(0:Int)≤(a:Int)+(k:Int):=by omega
    have e2:(a:Int)+(k:Int)<(l.length:Int):=by omega
    have e3:(0:Int)≤(b:Int)+(k:Int):=by omega
    have e4:(b:Int)+(k:Int)<(l.length:Int):=by omega
    go_wp2;have hfo:Tryz.prog.follows Departure.mixedOrders=true:=by kernel_rfl
    go_big_region_o
    all_goals go_wp2
    refine⟨⟨k+1,by go_num,by omega,?_,grown_drew (aV (aV (aV (aV hg _ _) _ _) _ _) _ _)⟩,by simp[intOf];omega⟩;rw[HNEXT.out,HSW.out];exact HSET.out
  · have hkn:k=n:=by omega
    subst hkn;go_wp2;go_end0;exact⟨⟨_,rfl⟩,hwk,hg⟩
theorem aO {a b c:World}{r:Option Nat}(h:a.grownBy b r)(k:b.grownBy c r):a.grownBy c r :=
 ⟨k.os.trans h.os,k.tape.trans h.tape,k.output.trans h.output,Nat.le_trans h.size k.size,fun i hi hn=>(k.block i (Nat.lt_of_lt_of_le hi h.size) hn).trans (h.block i hi hn)⟩
theorem sF (P U M V S:List (Int×Int))(N g cap:Nat)(ai bi ni:Int)(fv:Value)(w:World)(hw:WaysAt w g (P++U++M++V++S))(hN:(P++U++M++V++S).length=N)(hl:N≤1000)(h:U.length=V.length)(ha:ai=P.length)(hb:bi=P.length+U.length+M.length)(hn:ni=U.length) :
 Calls Tryz.prog 257 #[.slice (some ⟨g,0,none⟩) N cap,.int .i64 ai,.int .i64 bi,.int .i64 ni,fv] w fun e w'=>(∃ v,e=.returned v)∧WaysAt w' g (P++V++M++U++S)∧w.grownBy w' (some g):=by
 have:=C6 (P++U++M++V++S) g cap P.length (P.length+U.length+M.length) U.length fv w hw (by omega) (by omega) (by simp;omega);rw[GX P U M V S h,hN] at this;subst ha;subst hn;rw[show bi=((P.length+U.length+M.length:Nat):Int) from by omega];exact this
theorem WQ (P X Y S:List (Int×Int))(N g cap:Nat)(fv:Value)(w:World)(hw:WaysAt w g (P++X++Y++S))(hN:(P++X++Y++S).length=N)(hl:N≤1000)(hX:0<X.length)(hY:0<Y.length)(ai mi bi:Int)(ha:ai=P.length)(hm:mi=P.length+X.length)(hb:bi=P.length+X.length+Y.length) :
 Calls Tryz.prog 256 #[.slice (some ⟨g,0,none⟩) N cap,.int .i64 ai,.int .i64 mi,.int .i64 bi,fv] w fun e w'=>(∃ v,e=.returned v)∧WaysAt w' g (P++Y++X++S)∧w.grownBy w' (some g):=by
 obtain⟨T,hT⟩:∃ T,P++Y++X++S=T:=⟨_,rfl⟩
 rw[hT];have HT:=hide hT;have HW:=hide hw;have HN:=hide hN;have hxn:P.length+X.length+Y.length≤N:=by rw[←hN];simp;omega
 have e0:mi-ai=(X.length:Int):=by omega
 have e1:bi-mi=(Y.length:Int):=by omega
 have hb0:0≤ai∧ai≤1000∧0≤mi∧mi≤1000∧0≤bi∧bi≤1000:=by omega
 have HM:=hide hm;clear hT hw hN ha hm hb;obtain⟨q1,q2,q3,q4,q5,q6⟩:=hb0;go_enter Tryz.func256,Tryz.ntmps256;go_wp2
 go_loopw [10,11] (fun iv jv wr=>∃ (P' U V S':List (Int×Int)),iv=.int .i64 U.length∧jv=.int .i64 V.length∧0<U.length∧0<V.length∧U.length≤1000∧V.length≤1000∧mi=(P'.length:Int)+(U.length:Int)∧WaysAt wr g (P'++U++V++S')∧(P'++U++V++S').length=N∧P'++V++U++S'=T∧w.grownBy wr (some g)) (fun iv jv _=>(intOf iv+intOf jv).toNat)
 case atStart=>exact⟨P,X,Y,S,rfl,rfl,hX,hY,by omega,by omega,HM.out,HW.out,HN.out,HT.out,⟨rfl,rfl,rfl,Nat.le_refl _,fun _ _ _=>rfl⟩⟩
 case round =>
  obtain⟨P',U,V,S',rfl,rfl,hu,hv,hu2,hv2,hmi,hwa,hlen,htg,hgr⟩:=hrel;have HMI:=hide hmi;have HWA:=hide hwa;have HLEN:=hide hlen;have HTG:=hide htg;have hmle:(P'.length:Int)+(U.length:Int)=mi:=hmi.symm;clear hwa hlen htg e0 e1 HW HN HT HM hmi;have hmb:(U.length:Int)≤mi:=by omega
  have hPl:(P'.length:Int)=mi-(U.length:Int):=by omega
  have HPL:=hide hPl;have hVb:mi+(V.length:Int)≤2000:=by omega
  clear hmle hPl;by_cases heq:U.length=V.length
  · have hne:((U.length:Int) != (V.length:Int))=false:=by rw[heq];simp
    have HC:=hide (sF P' U [] V S' N g cap (mi-U.length) mi U.length fv wr (by simpa using HWA.out) (by simpa using HLEN.out) (by omega) heq (by rw[HPL.out]) (by have:=HPL.out;simp;omega) rfl);clear heq;go_wp2_with fail
    refine HC.out.mono ?_;rintro e w1 ⟨⟨v,rfl⟩,hw1,hg1⟩;have HW1:=hide hw1;clear hw1;go_wp2;go_end0;exact⟨⟨_,rfl⟩,by rw[←HTG.out];simpa using HW1.out,aO hgr hg1⟩
  · have hne:((U.length:Int) != (V.length:Int))=true:=by rw[bne_iff_ne];omega
    by_cases hgt:V.length<U.length
    · have hsplit:U=U.take V.length++U.drop V.length:=(List.take_append_drop _ _).symm;have hl1:(U.take V.length).length=V.length:=by simp;omega
      have hl2:(U.drop V.length).length=U.length-V.length:=by simp
      have HC:=hide (sF P' (U.take V.length) (U.drop V.length) V S' N g cap (mi-U.length) mi V.length fv wr (by have:=HWA.out;rw[hsplit] at this;simpa[List.append_assoc] using this) (by have:=HLEN.out;rw[hsplit] at this;simpa using this) (by omega) hl1 (by rw[HPL.out]) (by have:=HPL.out;rw[hl1,hl2];omega) (by rw[hl1]));have HSP:=hide hsplit;have HL1:=hide hl1;have HL2:=hide hl2;clear hsplit hl1 hl2;go_wp2_with fail
      refine HC.out.mono ?_;rintro e w1 ⟨⟨v,rfl⟩,hw1,hg1⟩;have HW1:=hide hw1;clear hw1 HC;go_wp2;refine⟨⟨P'++V,U.drop V.length,U.take V.length,S',?_,?_,?_,?_,?_,?_,?_,HW1.out,?_,?_,aO hgr hg1⟩,by simp[intOf];omega⟩
      · rw[HL2.out,show((U.length-V.length:Nat):Int)=(U.length:Int)-(V.length:Int) from by omega]
      · rw[HL1.out]
      · rw[HL2.out];omega
      · rw[HL1.out];exact hv
      · rw[HL2.out];omega
      · rw[HL1.out];omega
      · have:=HPL.out;rw[HL2.out,List.length_append];omega
      · have:=HLEN.out;simp only[List.length_append] at this ⊢;rw[HL1.out,HL2.out];omega
      · rw[←HTG.out];simp only[List.append_assoc];rw[←List.append_assoc (U.take V.length),List.take_append_drop]
    · have hlt:U.length<V.length:=by omega
      have hsplit:V=V.take (V.length-U.length)++V.drop (V.length-U.length):=(List.take_append_drop _ _).symm;have hl1:(V.take (V.length-U.length)).length=V.length-U.length:=by simp
      have hl2:(V.drop (V.length-U.length)).length=U.length:=by simp;omega
      have HC:=hide (sF P' U (V.take (V.length-U.length)) (V.drop (V.length-U.length)) S' N g cap (mi-U.length) (mi+V.length-U.length) U.length fv wr (by have:=HWA.out;rw[hsplit] at this;simpa[List.append_assoc] using this) (by have:=HLEN.out;rw[hsplit] at this;simpa using this) (by omega) hl2.symm (by rw[HPL.out]) (by have:=HPL.out;rw[hl1];omega) rfl);have HL1:=hide hl1;have HL2:=hide hl2;clear hsplit hl1 hl2 hgt;go_wp2_with fail
      refine HC.out.mono ?_;rintro e w1 ⟨⟨v,rfl⟩,hw1,hg1⟩;have HW1:=hide hw1;clear hw1 HC;go_wp2;refine⟨⟨P',V.drop (V.length-U.length),V.take (V.length-U.length),U++S',?_,?_,?_,?_,?_,?_,?_,?_,?_,?_,aO hgr hg1⟩,by simp[intOf];omega⟩
      · rw[HL2.out]
      · rw[HL1.out,show((V.length-U.length:Nat):Int)=(V.length:Int)-(U.length:Int) from by omega]
      · rw[HL2.out];exact hu
      · rw[HL1.out];omega
      · rw[HL2.out];omega
      · rw[HL1.out];omega
      · have:=HPL.out;rw[HL2.out];omega
      · have:=HW1.out;simpa[List.append_assoc] using this
      · have:=HLEN.out;simp only[List.length_append] at this ⊢;rw[HL1.out,HL2.out];omega
      · rw[←HTG.out];simp only[List.append_assoc];rw[←List.append_assoc (V.take (V.length-U.length)),List.take_append_drop]
attribute [local go_sem ↓] Go.wp_at_zero Go.wp_at_succ
theorem WaysAt.below {W W':World}{g B:Nat}{l:List (Int×Int)}(h:WaysAt W g l)(hb:Below B W W')(hg:g<B):WaysAt W' g l :=
 ⟨Nat.lt_of_lt_of_le h.1 hb.size,fun j hj=>⟨(hb.cell (p:=⟨g,j*2,none⟩) hg).trans (h.2.1 j hj).1,(hb.cell (p:=⟨g,j*2+1,none⟩) hg).trans (h.2.1 j hj).2⟩,fun o=>(hb.frozen (p:=⟨g,o,none⟩) hg).trans (h.2.2 o)⟩
def kM (l:List (Int×Int))(a:Nat):Nat→Nat→List (Int×Int)
 | 0,_=>l
 | f+1,j=>if a<j∧(l.getD j (0,0)).1<(l.getD (j-1) (0,0)).1 then kM (dS l j (j-1)) a f (j-1) else l
def eO (l:List (Int×Int))(a:Nat):Nat→List (Int×Int)
 | 0=>l
 | n+1=>kM (eO l a n) a (a+n+1) (a+n+1)
theorem tW (l:List (Int×Int))(g cap a b:Nat)(w:World)(hw:WaysAt w g l)(hl:l.length≤1000)(ha:a<b)(hb:b≤l.length) :
 Calls Tryz.prog 252 #[.slice (some ⟨g,0,none⟩) l.length cap,.int .i64 a,.int .i64 b,.func (.func 233) #[] #[]] w fun e w'=>(∃ v,e=.returned v)∧WaysAt w' g (eO l a (b-a-1))∧w.grownBy w' (some g):=by
 have HW:=hide hw;clear hw;go_enter Tryz.func252,Tryz.ntmps252;go_wp2
 go_loopw [8] (fun i wr=>∃ n N:Nat,i=.int .i64 N∧N≤a+n+1∧a+n+1≤N∧n≤b-a-1∧WaysAt wr g (eO l a n)∧(eO l a n).length=l.length∧w.grownBy wr (some g)) (fun i _=>(b-intOf i).toNat)
 case atStart=>exact⟨0,a+1,by go_num,by omega,by omega,by omega,HW.out,rfl,⟨rfl,rfl,rfl,Nat.le_refl _,fun _ _ _=>rfl⟩⟩
 case round =>
  obtain⟨n,N,rfl,hN1,hN2,hn,hwa,hlen,hgr⟩:=hrel;have HWA:=hide hwa;have HLEN:=hide hlen;clear hwa hlen;by_cases hlt:N<b
  · go_wp2
    go_loopw [9] (fun jv wr=>∃ (j f:Nat) (m:List (Int×Int)),jv=.int .i64 j∧a≤j∧j≤N∧j≤f∧WaysAt wr g m∧m.length=l.length∧kM m a f j=eO l a (n+1)∧w.grownBy wr (some g)) (fun jv _=>(intOf jv).toNat)
    case atStart=>exact⟨N,N,eO l a n,rfl,by omega,by omega,by omega,HWA.out,HLEN.out,(by rw[show N=a+n+1 from by omega];rfl),hgr⟩
    case round =>
     obtain⟨j,f,m,rfl,hj1,hj2,hjf,hwm,hml,hins,hgr2⟩:=hrel;have HINS:=hide hins;have HWM:=hide hwm;have hglt:=hwm.1;clear hins HWA HLEN hgr;by_cases hja:a<j
     · obtain⟨p,hp1,hp2⟩:∃ p,p+1≤j∧j≤p+1:=⟨j-1,by omega,by omega⟩
       have hjl:j<m.length:=by omega
       have hpl:p<m.length:=by omega
       obtain⟨j1,j2⟩:=hwm.2.1 j (by omega);obtain⟨i1,i2⟩:=hwm.2.1 p (by omega);obtain⟨x,hx⟩:∃ x,m[j]'hjl=x:=⟨_,rfl⟩
       obtain⟨z,hz⟩:∃ z,m[p]'hpl=z:=⟨_,rfl⟩
       rw[hx] at j1 j2;rw[hz] at i1 i2;have HX:=hide hx;have HZ:=hide hz;have hfz:=hwm.2.2;clear hwm hx hz;obtain⟨x1,x2⟩:=x;obtain⟨z1,z2⟩:=z;have hd:decide ((a:Int)<(j:Int))=true:=by simp;omega
       have e1:(0:Int)≤(p:Int):=by omega
       have e2:(p:Int)<(l.length:Int):=by omega
       have e3:(j:Int)<(l.length:Int):=by omega
       have f1:(0:Int)≤(j:Int):=by omega
       have f3:(j:Int)-1=(p:Int):=by omega
       have f5:IntKind.i64.wrap (p:Int)=(p:Int):=by rw[IntWalk.i64_left];exact IntWalk.wrap64_in _ (by omega)
       by_cases hc:x1<z1
       · have hcm:jW x1 z1 = -1:=by unfold jW;rw[if_pos hc]
         have HCM:=hide hcm;clear hcm;go_wp2;go_region_held3 (fun w'=>(w'.cell? ⟨g,j*2,none⟩=some (.int .i64 x1)∧w'.cell? ⟨g,j*2+1,none⟩=some (.int .i64 x2))∧(w'.cell? ⟨g,p*2,none⟩=some (.int .i64 z1)∧w'.cell? ⟨g,p*2+1,none⟩=some (.int .i64 z2))) (first | exact⟨⟨(hB.cell (p:=⟨g,j*2,none⟩) hglt).trans j1,(hB.cell (p:=⟨g,j*2+1,none⟩) hglt).trans j2⟩,(hB.cell (p:=⟨g,p*2,none⟩) hglt).trans i1,(hB.cell (p:=⟨g,p*2+1,none⟩) hglt).trans i2⟩ | go_keep) ((go_at_call 233;refine(pS x1 x2 z1 z2 _).mono ?_;rintro e w' ⟨rfl,hB⟩;rw[HCM.out]))
         have hB2:Below wr.heap.size wr w':=((Below.refl wr.heap.size wr).drew).trans hB;have hwm':=HWM.out.below hB2 hglt;obtain⟨j1',j2'⟩:=hwm'.2.1 j (by omega);obtain⟨i1',i2'⟩:=hwm'.2.1 p (by omega);rw[HX.out] at j1' j2';rw[HZ.out] at i1' i2';have hset:=(hwm'.set j (by omega) (z1,z2)).set p (by simp;omega) (x1,x2);have HSET:=hide hset;have hfz':=hwm'.2.2;have hgr3:=aO hgr2 (grown_below (r:=some g) hB2 (Nat.le_refl _));have hsw:(m.set j (z1,z2)).set p (x1,x2)=dS m j p:=by
          unfold dS;rw[List.getD_eq_getElem?_getD,List.getElem?_eq_getElem (show p<m.length by omega),List.getD_eq_getElem?_getD,List.getElem?_eq_getElem (show j<m.length by omega),Option.getD_some,Option.getD_some,HX.out,HZ.out]
         have HSW:=hide hsw;obtain⟨f',rfl⟩:∃ f',f=f'+1:=⟨f-1,by omega⟩
         have hstep:kM (dS m j p) a f' p=eO l a (n+1):=by
          rw[←HINS.out]
          conv=>rhs;simp only[kM]
          rw[show j-1=p from by omega,if_pos]
          · rw[List.getD_eq_getElem?_getD,List.getElem?_eq_getElem (show j<m.length by omega),List.getD_eq_getElem?_getD,List.getElem?_eq_getElem (show p<m.length by omega),Option.getD_some,Option.getD_some,HX.out,HZ.out];exact⟨hja,hc⟩
         have HSTEP:=hide hstep;have hmls:(dS m j p).length=l.length:=by rw[jB];exact hml
         have HMLS:=hide hmls;have hfo:Tryz.prog.follows Departure.mixedOrders=true:=by kernel_rfl
         clear hwm' hset hsw hstep hmls j1 j2 i1 i2 hfz hB hB2 hgr2;go_wp2
         go_big_region_o
         all_goals go_wp2
         refine⟨⟨p,f',dS m j p,rfl,by omega,by omega,by omega,?_,HMLS.out,HSTEP.out,grown_drew (aV (aV (aV (aV hgr3 _ _) _ _) _ _) _ _)⟩,by simp[intOf];omega⟩;rw[←HSW.out];exact HSET.out
       · have hcm:¬ jW x1 z1<0:=by unfold jW;rw[if_neg hc];split <;> omega
         obtain⟨v,hv⟩:∃ v,jW x1 z1=v:=⟨_,rfl⟩
         rw[hv] at hcm;have HCM:=hide hv;have hd0:decide (v<0)=false:=by simpa using hcm
         have hstop:m=eO l a (n+1):=by
          obtain⟨f',rfl⟩:∃ f',f=f'+1:=⟨f-1,by omega⟩
          rw[←HINS.out];simp only[kM];rw[if_neg];rw[show j-1=p from by omega,List.getD_eq_getElem?_getD,List.getElem?_eq_getElem hjl,List.getD_eq_getElem?_getD,List.getElem?_eq_getElem hpl,Option.getD_some,Option.getD_some,HX.out,HZ.out];exact fun h=>hc h.2
         have HSTOP:=hide hstop;clear hv hstop;go_wp2;go_region_held3 (fun w'=>(w'.cell? ⟨g,j*2,none⟩=some (.int .i64 x1)∧w'.cell? ⟨g,j*2+1,none⟩=some (.int .i64 x2))∧(w'.cell? ⟨g,p*2,none⟩=some (.int .i64 z1)∧w'.cell? ⟨g,p*2+1,none⟩=some (.int .i64 z2))) (first | exact⟨⟨(hB.cell (p:=⟨g,j*2,none⟩) hglt).trans j1,(hB.cell (p:=⟨g,j*2+1,none⟩) hglt).trans j2⟩,(hB.cell (p:=⟨g,p*2,none⟩) hglt).trans i1,(hB.cell (p:=⟨g,p*2+1,none⟩) hglt).trans i2⟩ | go_keep) ((go_at_call 233;refine(pS x1 x2 z1 z2 _).mono ?_;rintro e w' ⟨rfl,hB⟩;rw[HCM.out]))
         have hB2:Below wr.heap.size wr w':=((Below.refl wr.heap.size wr).drew).trans hB;have hwm':=HWM.out.below hB2 hglt;have HWM':=hide hwm';have hgr3:=aO hgr2 (grown_below (r:=some g) hB2 (Nat.le_refl _));clear hwm' hB hB2 j1 j2 i1 i2 hfz hgr2;go_wp2;exact⟨⟨n+1,N+1,by go_num,by omega,by omega,by omega,by rw[←HSTOP.out];exact HWM'.out,by rw[←HSTOP.out];exact hml,hgr3⟩,by simp[intOf];omega⟩
     · have hd:decide ((a:Int)<(j:Int))=false:=by simp;omega
       have hstop:m=eO l a (n+1):=by
        rw[←HINS.out];cases f with
        | zero=>rfl
        | succ f'=>simp only[kM];rw[if_neg (fun h=>hja h.1)]
       have HSTOP:=hide hstop;have hfo:Tryz.prog.follows Departure.mixedOrders=true:=by kernel_rfl
       clear hstop hwm;go_wp2
       go_big_region_o
       all_goals go_wp2
       exact⟨⟨n+1,N+1,by go_num,by omega,by omega,by omega,by rw[←HSTOP.out];exact HWM.out,by rw[←HSTOP.out];exact hml,grown_drew hgr2⟩,by simp[intOf];omega⟩
  · have hnn:n=b-a-1:=by omega
    have HNN:=hide hnn;clear hnn;go_wp2;go_end0;exact⟨⟨_,rfl⟩,by rw[←HNN.out];exact HWA.out,hgr⟩
def oJ (m:List (Int×Int)):Prop:=∀ i k,i<k→k<m.length→(m.getD i (0,0)).1=(m.getD k (0,0)).1→(m.getD i (0,0)).2<(m.getD k (0,0)).2
theorem eC (m:List (Int×Int))(j p i:Nat)(hj:j<m.length)(hp:p<m.length):(dS m j p).getD i (0,0)=if i=p then m.getD j (0,0) else if i=j then m.getD p (0,0) else m.getD i (0,0):=by
 simp only[List.getD_eq_getElem?_getD];rw[yY m j p i hj hp];split
 · rfl
 · split <;> rfl
theorem OT (m:List (Int×Int))(p:Nat)(hj:p+1<m.length)(hlt:(m.getD (p+1) (0,0)).1<(m.getD p (0,0)).1)(h:oJ m):oJ (dS m (p+1) p):=by
 intro i k hik hk;rw[jB] at hk;rw[eC m _ _ _ hj (by omega),eC m _ _ _ hj (by omega)];by_cases h1:i=p
 · subst h1;rw[if_pos rfl];by_cases h2:k=i+1
   · subst h2;rw[if_neg (by omega),if_pos rfl];intro he;omega
   · rw[if_neg (by omega),if_neg h2];exact h (i+1) k (by omega) hk
 · rw[if_neg h1];by_cases h2:i=p+1
   · subst h2;rw[if_pos rfl,if_neg (by omega),if_neg (by omega)];exact h p k (by omega) hk
   · rw[if_neg h2];by_cases h3:k=p
     · subst h3;rw[if_pos rfl];exact h i (k+1) (by omega) hj
     · rw[if_neg h3];by_cases h4:k=p+1
       · subst h4;rw[if_pos rfl];exact h i p (by omega) (by omega)
       · rw[if_neg h4];exact h i k hik hk
theorem TF (m:List (Int×Int))(j p:Nat)(hj:j<m.length)(hp:p<m.length):(dS m j p).Perm m:=by
 unfold dS;rw[List.getD_eq_getElem?_getD,List.getElem?_eq_getElem hp,List.getD_eq_getElem?_getD,List.getElem?_eq_getElem hj,Option.getD_some,Option.getD_some];exact List.set_set_perm hj hp
def Risen (m:List (Int×Int))(a b:Nat):Prop:=∀ i k,a≤i→i<k→k<b→(m.getD i (0,0)).1≤(m.getD k (0,0)).1
theorem JL (a N:Nat):∀ (f:Nat) (m:List (Int×Int)) (j:Nat),j≤f→a≤j→j≤N→N<m.length→oJ m →
 (∀ i k,a≤i→i<k→k≤N→i≠j→k≠j→(m.getD i (0,0)).1≤(m.getD k (0,0)).1) →
 (∀ k,j<k→k≤N→(m.getD j (0,0)).1≤(m.getD k (0,0)).1) →
 Risen (kM m a f j) a (N+1)∧oJ (kM m a f j)∧(kM m a f j).Perm m∧∀ i,(i<a∨N<i)→(kM m a f j).getD i (0,0)=m.getD i (0,0):=by
 intro f
 induction f with
 | zero =>
   intro m j h0 h1 h2 h3 h4 h5 h6;refine⟨?_,h4,.refl _,fun _ _=>rfl⟩;intro i k hi hik hk;simp only[kM];by_cases e1:i=j
   · subst e1;exact h6 k hik (by omega)
   · exact h5 i k hi hik (by omega) e1 (by omega)
 | succ f ih =>
   intro m j h0 h1 h2 h3 h4 h5 h6;simp only[kM];by_cases hc:a<j∧(m.getD j (0,0)).1<(m.getD (j-1) (0,0)).1
   · rw[if_pos hc];obtain⟨hc1,hc2⟩:=hc;obtain⟨p,rfl⟩:∃ p,j=p+1:=⟨j-1,by omega⟩
     rw[Nat.add_sub_cancel] at hc2 ⊢;have hj:p+1<m.length:=by omega
     have hp:p<m.length:=by omega
     obtain⟨g1,g2,g3,g4⟩:=ih (dS m (p+1) p) p (by omega) (by omega) (by omega) (by rw[jB];exact h3) (OT m p hj hc2 h4)
      (by
        intro i k hi hik hk ei ek;rw[eC m _ _ _ hj hp,eC m _ _ _ hj hp,if_neg ei,if_neg ek];by_cases e1:i=p+1
        · rw[if_pos e1,if_neg (by omega)];exact h5 p k (by omega) (by omega) hk (by omega) (by omega)
        · rw[if_neg e1];by_cases e2:k=p+1
          · rw[if_pos e2];exact h5 i p hi (by omega) (by omega) (by omega) (by omega)
          · rw[if_neg e2];exact h5 i k hi hik hk e1 e2)
      (by
        intro k hk1 hk2;rw[eC m _ _ _ hj hp,eC m _ _ _ hj hp,if_pos rfl,if_neg (by omega)];by_cases e2:k=p+1
        · rw[if_pos e2];omega
        · rw[if_neg e2];exact h6 k (by omega) hk2)
     refine⟨g1,g2,g3.trans (TF m _ _ hj hp),?_⟩;intro i hi;rw[g4 i hi,eC m _ _ _ hj hp,if_neg (by omega),if_neg (by omega)]
   · rw[if_neg hc];refine⟨?_,h4,.refl _,fun _ _=>rfl⟩;intro i k hi hik hk;by_cases e1:i=j
     · subst e1;exact h6 k hik (by omega)
     · by_cases e2:k=j
       · subst e2;have h7:¬ (m.getD k (0,0)).1<(m.getD (k-1) (0,0)).1:=fun h=>hc ⟨by omega,h⟩;by_cases e3:i=k-1
         · subst e3;omega
         · have:=h5 i (k-1) hi (by omega) (by omega) e1 (by omega);omega
       · exact h5 i k hi hik (by omega) e1 e2
theorem mW (l:List (Int×Int))(a:Nat)(hs:oJ l):∀ n,a+n<l.length →
 Risen (eO l a n) a (a+n+1)∧oJ (eO l a n)∧(eO l a n).Perm l∧∀ i,(i<a∨a+n<i)→(eO l a n).getD i (0,0)=l.getD i (0,0):=by
 intro n
 induction n with
 | zero=>intro _;exact⟨fun i k _ _ _=>by omega,hs,.refl _,fun _ _=>rfl⟩
 | succ n ih =>
   intro hn;obtain⟨g1,g2,g3,g4⟩:=ih (by omega);obtain⟨k1,k2,k3,k4⟩:=JL a (a+n+1) (a+n+1) (eO l a n) (a+n+1) (Nat.le_refl _) (by omega) (Nat.le_refl _) (by rw[g3.length_eq];omega) g2
    (fun i k hi hik hk ei ek=>g1 i k hi hik (by omega)) (fun k hk1 hk2=>by omega)
   refine⟨k1,k2,k3.trans g3,fun i hi=>?_⟩;simp only[eO];rw[k4 i (by omega),g4 i (by omega)]
theorem PP:∀ (l m:List (Int×Int)),l.Perm m→oJ l→oJ m→Risen l 0 l.length→Risen m 0 m.length→l=m:=by
 intro l m hp hs1 hs2 hr1 hr2;have key:∀ (q:List (Int×Int)),oJ q→Risen q 0 q.length→q.Pairwise (fun x y=>x.1<y.1∨(x.1=y.1∧x.2<y.2)):=by
  intro q h1 h2;rw[List.pairwise_iff_getElem];intro i k hi hk hik;have a1:=h1 i k hik hk;have a2:=h2 i k (by omega) hik hk;rw[List.getD_eq_getElem?_getD,List.getElem?_eq_getElem hi,List.getD_eq_getElem?_getD,List.getElem?_eq_getElem hk,Option.getD_some,Option.getD_some] at a1 a2;by_cases e:q[i].1=q[k].1
  · exact .inr ⟨e,a1 e⟩
  · exact .inl (by omega)
 refine hp.eq_of_pairwise ?_ (key l hs1 hr1) (key m hs2 hr2);intro x y _ _ hxy hyx;rcases hxy with h | ⟨h,h'⟩ <;> rcases hyx with k | ⟨k,k'⟩ <;> omega
abbrev wy (l:List (Int×Int))(i:Nat):Int×Int:=l.getD i (0,0)
def dL (l:List (Int×Int))(s m e:Nat):List (Int×Int):=l.take s++(l.drop m).take (e-m)++(l.drop s).take (m-s)++l.drop e
theorem A1 (l:List (Int×Int))(s m e:Nat)(h1:s≤m)(h2:m≤e):l=l.take s++(l.drop s).take (m-s)++(l.drop m).take (e-m)++l.drop e:=by
 have a1:l=l.take s++l.drop s:=(List.take_append_drop s l).symm;have a2:l.drop s=(l.drop s).take (m-s)++l.drop m:=by
  conv=>lhs;rw[←List.take_append_drop (m-s) (l.drop s)]
  rw[List.drop_drop,show s+(m-s)=m from by omega]
 have a3:l.drop m=(l.drop m).take (e-m)++l.drop e:=by
  conv=>lhs;rw[←List.take_append_drop (e-m) (l.drop m)]
  rw[List.drop_drop,show m+(e-m)=e from by omega]
 rw[List.append_assoc,List.append_assoc,←a3,←a2];exact a1
theorem sE (l:List (Int×Int))(s m e:Nat)(h1:s≤m)(h2:m≤e):(dL l s m e).Perm l:=by
 conv=>rhs;rw[A1 l s m e h1 h2]
 unfold dL;refine List.Perm.append_right _ ?_;rw[List.append_assoc,List.append_assoc];exact List.Perm.append_left _ List.perm_append_comm
theorem cM (l:List (Int×Int))(s m e i:Nat)(h1:s≤m)(h2:m≤e)(h3:e≤l.length):wy (dL l s m e) i=if i<s then wy l i else if i<s+(e-m) then wy l (i+(m-s)) else if i<e then wy l (i-(e-m)) else wy l i:=by
 unfold dL wy;simp only[List.getD_eq_getElem?_getD,List.getElem?_append,List.length_append,List.length_take,List.length_drop,List.getElem?_take,List.getElem?_drop];have n1:min s l.length=s:=by omega
 have n2:min (e-m) (l.length-m)=e-m:=by omega
 have n3:min (m-s) (l.length-s)=m-s:=by omega
 rw[n1,n2,n3];by_cases c1:i<s
 · rw[if_pos (by omega),if_pos (by omega),if_pos c1,if_pos c1,if_pos c1]
 · by_cases c2:i<s+(e-m)
   · rw[if_pos (by omega),if_pos c2,if_neg c1,if_pos (by omega),if_neg c1,if_pos c2,show m+(i-s)=i+(m-s) from by omega]
   · by_cases c3:i<e
     · rw[if_pos (by omega),if_neg c2,if_pos (by omega),if_neg c1,if_neg c2,if_pos c3,show s+(i-(s+(e-m)))=i-(e-m) from by omega]
     · rw[if_neg (by omega),if_neg c1,if_neg c2,if_neg c3,show e+(i-(s+(e-m)+(m-s)))=i from by omega]
def Moved (l r:List (Int×Int))(a b:Nat):Prop:=r.Perm l∧oJ r∧(∀ i,(i<a∨b≤i)→wy r i=wy l i)∧(∀ i,a≤i→i<b→∃ k,a≤k∧k<b∧wy r i=wy l k)
theorem Moved.refl {l:List (Int×Int)}(h:oJ l)(a b:Nat):Moved l l a b:=⟨.refl _,h,fun _ _=>rfl,fun i h1 h2=>⟨i,h1,h2,rfl⟩⟩
theorem Moved.wide {l r:List (Int×Int)}{a b a' b':Nat}(h:Moved l r a b)(h1:a'≤a)(h2:b≤b'):Moved l r a' b':=by
 obtain⟨g1,g2,g3,g4⟩:=h;refine⟨g1,g2,fun i hi=>g3 i (by omega),fun i hi1 hi2=>?_⟩;by_cases c:a≤i∧i<b
 · obtain⟨k,k1,k2,k3⟩:=g4 i c.1 c.2;exact⟨k,by omega,by omega,k3⟩
 · exact⟨i,hi1,hi2,g3 i (by omega)⟩
theorem Moved.trans {l r t:List (Int×Int)}{a b:Nat}(h:Moved l r a b)(k:Moved r t a b):Moved l t a b:=by
 obtain⟨g1,g2,g3,g4⟩:=h;obtain⟨k1,k2,k3,k4⟩:=k;refine⟨k1.trans g1,k2,fun i hi=>(k3 i hi).trans (g3 i hi),fun i hi1 hi2=>?_⟩;obtain⟨j,j1,j2,j3⟩:=k4 i hi1 hi2;obtain⟨q,q1,q2,q3⟩:=g4 j j1 j2;exact⟨q,q1,q2,j3.trans q3⟩
theorem pI (l:List (Int×Int))(s m e:Nat)(h1:s≤m)(h2:m≤e)(h3:e≤l.length)(hs:oJ l)(hx:∀ i k,s≤i→i<m→m≤k→k<e→(wy l k).1<(wy l i).1):Moved l (dL l s m e) s e:=by
 refine⟨sE l s m e h1 h2,?_,?_,?_⟩
 · intro i k hik hk;have hk:k<l.length:=by rw[(sE l s m e h1 h2).length_eq] at hk;exact hk
   show(wy (dL l s m e) i).1=(wy (dL l s m e) k).1→(wy (dL l s m e) i).2<(wy (dL l s m e) k).2;rw[cM l s m e i h1 h2 h3,cM l s m e k h1 h2 h3];by_cases a1:i<s
   · rw[if_pos a1];by_cases b1:k<s
     · rw[if_pos b1];exact hs _ _ hik hk
     · rw[if_neg b1];by_cases b2:k<s+(e-m)
       · rw[if_pos b2];exact hs _ _ (by omega) (by omega)
       · rw[if_neg b2];by_cases b3:k<e
         · rw[if_pos b3];exact hs _ _ (by omega) (by omega)
         · rw[if_neg b3];exact hs _ _ hik hk
   · rw[if_neg a1,if_neg (show ¬ k<s by omega)];by_cases a2:i<s+(e-m)
     · rw[if_pos a2];by_cases b2:k<s+(e-m)
       · rw[if_pos b2];exact hs _ _ (by omega) (by omega)
       · rw[if_neg b2];by_cases b3:k<e
         · rw[if_pos b3];intro he;have:=hx (k-(e-m)) (i+(m-s)) (by omega) (by omega) (by omega) (by omega);omega
         · rw[if_neg b3];exact hs _ _ (by omega) hk
     · rw[if_neg a2,if_neg (show ¬ k<s+(e-m) by omega)];by_cases a3:i<e
       · rw[if_pos a3];by_cases b3:k<e
         · rw[if_pos b3];exact hs _ _ (by omega) (by omega)
         · rw[if_neg b3];exact hs _ _ (by omega) hk
       · rw[if_neg a3,if_neg (show ¬ k<e by omega)];exact hs _ _ hik hk
 · intro i hi;rw[cM l s m e i h1 h2 h3];by_cases a1:i<s
   · rw[if_pos a1]
   · rw[if_neg a1,if_neg (by omega),if_neg (by omega)]
 · intro i hi1 hi2;rw[cM l s m e i h1 h2 h3,if_neg (by omega)];by_cases a2:i<s+(e-m)
   · rw[if_pos a2];exact⟨_,by omega,by omega,rfl⟩
   · rw[if_neg a2,if_pos hi2];exact⟨_,by omega,by omega,rfl⟩
theorem Risen.le {l:List (Int×Int)}{a b:Nat}(h:Risen l a b)(i k:Nat)(h1:a≤i)(h2:i≤k)(h3:k<b):(wy l i).1≤(wy l k).1:=by
 by_cases e:i=k
 · rw[e];exact Int.le_refl _
 · exact h i k h1 (by omega) h3
theorem Risen.part {l:List (Int×Int)}{a b a' b':Nat}(h:Risen l a b)(h1:a≤a')(h2:b'≤b):Risen l a' b':=fun i k hi hik hk=>h i k (by omega) hik (by omega)
theorem m9 (l:List (Int×Int))(a m b mid s e:Nat)(ham:a<m)(hb:b≤l.length)(hs:oJ l)(h1:Risen l a m)(h2:Risen l m b)(he:e+s=mid+m)(hsa:a≤s)(hsm:s≤m)(hsd:s≤mid)(heb:e≤b)
 (hx:s<m→m<e→(wy l (e-1)).1<(wy l s).1) (hy:a<s→e<b→(wy l (s-1)).1≤(wy l e).1) :
 ∃ r,r=(if s<m∧m<e then dL l s m e else l)∧Moved l r a b∧Risen r a s∧Risen r s mid∧Risen r mid e∧Risen r e b∧∀ i k,a≤i→i<mid→mid≤k→k<b→(wy r i).1≤(wy r k).1:=by
 refine⟨_,rfl,?_⟩;by_cases hc:s<m∧m<e
 · rw[if_pos hc];obtain⟨c1,c2⟩:=hc;have hx':=hx c1 c2;have hlow:∀ i k,s≤i→i<m→m≤k→k<e→(wy l k).1<(wy l i).1:=by
    intro i k i1 i2 k1 k2;have z1:=h1.le s i hsa i1 i2;have z2:=h2.le k (e-1) k1 (by omega) (by omega);omega
   have hg:=fun i=>cM l s m e i hsm (by omega) (by omega);have hside:∀ i k,a≤i→i<s→e≤k→k<b→(wy l i).1≤(wy l k).1:=by
    intro i k i1 i2 k1 k2;have z1:=h1.le i (s-1) i1 (by omega) (by omega);have z2:=h2.le e k (by omega) k1 k2;have z3:=hy (by omega) (by omega);omega
   refine⟨(pI l s m e hsm (by omega) (by omega) hs hlow).wide hsa heb,?_,?_,?_,?_,?_⟩
   · intro i k i1 ik k1;show(wy (dL l s m e) i).1≤(wy (dL l s m e) k).1;rw[hg i,hg k,if_pos (by omega),if_pos (by omega)];exact h1.le _ _ i1 (by omega) (by omega)
   · intro i k i1 ik k1;show(wy (dL l s m e) i).1≤(wy (dL l s m e) k).1;rw[hg i,hg k,if_neg (by omega),if_pos (by omega),if_neg (by omega),if_pos (by omega)];exact h2.le _ _ (by omega) (by omega) (by omega)
   · intro i k i1 ik k1;show(wy (dL l s m e) i).1≤(wy (dL l s m e) k).1;rw[hg i,hg k,if_neg (by omega),if_neg (by omega),if_pos (by omega),if_neg (by omega),if_neg (by omega),if_pos (by omega)];exact h1.le _ _ (by omega) (by omega) (by omega)
   · intro i k i1 ik k1;show(wy (dL l s m e) i).1≤(wy (dL l s m e) k).1;rw[hg i,hg k,if_neg (by omega),if_neg (by omega),if_neg (by omega),if_neg (by omega),if_neg (by omega),if_neg (by omega)];exact h2.le _ _ (by omega) (by omega) (by omega)
   · intro i k i1 i2 k1 k2;rw[hg i,hg k,if_neg (show ¬ k<s by omega),if_neg (show ¬ k<s+(e-m) by omega)];by_cases a1:i<s
     · rw[if_pos a1];by_cases b3:k<e
       · rw[if_pos b3];exact h1.le _ _ i1 (by omega) (by omega)
       · rw[if_neg b3];exact hside _ _ i1 a1 (by omega) k2
     · rw[if_neg a1,if_pos (by omega)];by_cases b3:k<e
       · rw[if_pos b3];have:=hlow (k-(e-m)) (i+(m-s)) (by omega) (by omega) (by omega) (by omega);omega
       · rw[if_neg b3];exact h2.le _ _ (by omega) (by omega) k2
 · rw[if_neg hc];refine⟨.refl hs a b,h1.part (by omega) hsm,?_,?_,h2.part (by omega) (by omega),?_⟩
   · intro i k i1 ik k1;exact h2.le i k (by omega) (by omega) (by omega)
   · intro i k i1 ik k1;exact h1.le i k (by omega) (by omega) (by omega)
   · intro i k i1 i2 k1 k2;by_cases c:s<m
     · have e1:e=m:=by omega
       by_cases b1:k<m
       · exact h1.le i k i1 (by omega) b1
       · have z1:=h1.le i (s-1) i1 (by omega) (by omega);have z2:=h2.le e k (by omega) (by omega) k2;have z3:=hy (by omega) (by omega);omega
     · by_cases b1:i<m
       · have z1:=h1.le i (s-1) i1 (by omega) (by omega);have z2:=h2.le e k (by omega) (by omega) k2;have z3:=hy (by omega) (by omega);omega
       · exact h2.le i k (by omega) (by omega) k2
theorem bL {l r t u:List (Int×Int)}{a b mid:Nat}(hm:Moved l r a b)(hc:∀ i k,a≤i→i<mid→mid≤k→k<b→(wy r i).1≤(wy r k).1)(ha:a≤mid)(hb:mid≤b)(ht:Moved r t a mid)(ht2:Risen t a mid)(hu:Moved t u mid b)(hu2:Risen u mid b):Moved l u a b∧Risen u a b:=by
 refine⟨(hm.trans (ht.wide (Nat.le_refl _) hb)).trans (hu.wide ha (Nat.le_refl _)),?_⟩;intro i k i1 ik k1;by_cases c1:k<mid
 · show(wy u i).1≤(wy u k).1;rw[hu.2.2.1 i (by omega),hu.2.2.1 k (by omega)];exact ht2 i k i1 ik c1
 · by_cases c2:mid≤i
   · exact hu2 i k c2 ik k1
   · obtain⟨q,q1,q2,q3⟩:=ht.2.2.2 i i1 (by omega);obtain⟨v,v1,v2,v3⟩:=hu.2.2.2 k (by omega) k1;show(wy u i).1≤(wy u k).1;rw[hu.2.2.1 i (by omega),q3,v3,ht.2.2.1 v (by omega)];exact hc q v q1 q2 v1 v2
theorem XX {l r:List (Int×Int)}(h:l.length=r.length)(k:∀ i,wy l i=wy r i):l=r:=by
 refine List.ext_getElem h fun i h1 h2=>?_;have:=k i;unfold wy at this;rw[List.getD_eq_getElem?_getD,List.getElem?_eq_getElem h1,List.getD_eq_getElem?_getD,List.getElem?_eq_getElem h2,Option.getD_some,Option.getD_some] at this;exact this
theorem kR (l:List (Int×Int))(s m e:Nat)(h1:s≤m)(h2:m≤e):(dL l s m e).length=l.length:=(sE l s m e h1 h2).length_eq
theorem RV (l:List (Int×Int))(s m:Nat)(h:s≤m):dL l s m m=l:=by
 have:=A1 l s m m h (Nat.le_refl _);rw[Nat.sub_self,List.take_zero,List.append_nil] at this;unfold dL;rw[Nat.sub_self,List.take_zero,List.append_nil];exact this.symm
theorem LJ (l:List (Int×Int))(m e:Nat)(h:m≤e):dL l m m e=l:=by
 have:=A1 l m m e (Nat.le_refl _) h;rw[Nat.sub_self,List.take_zero,List.append_nil] at this;unfold dL;rw[Nat.sub_self,List.take_zero,List.append_nil];exact this.symm
theorem LQ (l:List (Int×Int))(a k:Nat)(h1:a≤k)(h2:k+1<l.length):dS (dL l a (a+1) (k+1)) k (k+1)=dL l a (a+1) (k+2):=by
 have n1:=kR l a (a+1) (k+1) (by omega) (by omega);refine XX (by rw[jB,n1,kR _ _ _ _ (by omega) (by omega)]) fun i=>?_;show(dS _ _ _).getD i (0,0)=_;rw[eC _ _ _ _ (by omega) (by omega),cM l a (a+1) (k+2) i (by omega) (by omega) (by omega)];show(if i=k+1 then wy (dL l a (a+1) (k+1)) k else if i=k then wy (dL l a (a+1) (k+1)) (k+1) else wy (dL l a (a+1) (k+1)) i)=_;rw[cM l a (a+1) (k+1) k (by omega) (by omega) (by omega),cM l a (a+1) (k+1) (k+1) (by omega) (by omega) (by omega),cM l a (a+1) (k+1) i (by omega) (by omega) (by omega)];by_cases c1:i=k+1
 · subst c1;rw[if_pos rfl,if_neg (by omega),if_neg (by omega),if_pos (by omega),if_neg (by omega),if_neg (by omega),if_pos (by omega),show k-(k+1-(a+1))=k+1-(k+2-(a+1)) from by omega]
 · rw[if_neg c1];by_cases c2:i=k
   · subst c2;rw[if_pos rfl,if_neg (by omega),if_neg (by omega),if_neg (by omega),if_neg (by omega),if_pos (by omega),show i+(a+1-a)=i+1 from by omega]
   · rw[if_neg c2];by_cases c3:i<a
     · rw[if_pos c3,if_pos c3]
     · rw[if_neg c3,if_neg c3];by_cases c4:i<k
       · rw[if_pos (by omega),if_pos (by omega)]
       · rw[if_neg (by omega),if_neg (by omega),if_neg (by omega),if_neg (by omega)]
theorem OY (l:List (Int×Int))(k m:Nat)(h1:k+1≤m)(h2:m<l.length):dS (dL l (k+1) m (m+1)) (k+1) k=dL l k m (m+1):=by
 have n1:=kR l (k+1) m (m+1) (by omega) (by omega);refine XX (by rw[jB,n1,kR _ _ _ _ (by omega) (by omega)]) fun i=>?_;show(dS _ _ _).getD i (0,0)=_;rw[eC _ _ _ _ (by omega) (by omega),cM l k m (m+1) i (by omega) (by omega) (by omega)];show(if i=k then wy (dL l (k+1) m (m+1)) (k+1) else if i=k+1 then wy (dL l (k+1) m (m+1)) k else wy (dL l (k+1) m (m+1)) i)=_;rw[cM l (k+1) m (m+1) k (by omega) (by omega) (by omega),cM l (k+1) m (m+1) (k+1) (by omega) (by omega) (by omega),cM l (k+1) m (m+1) i (by omega) (by omega) (by omega)];by_cases c1:i=k
 · subst c1;rw[if_pos rfl,if_neg (by omega),if_pos (by omega),if_neg (by omega),if_pos (by omega),show i+1+(m-(i+1))=i+(m-i) from by omega]
 · rw[if_neg c1];by_cases c2:i=k+1
   · subst c2;rw[if_pos rfl,if_pos (by omega),if_neg (by omega),if_neg (by omega),if_pos (by omega),show k+1-(m+1-m)=k from by omega]
   · rw[if_neg c2];by_cases c3:i<k
     · rw[if_pos (by omega),if_pos c3]
     · rw[if_neg (show ¬ i<k+1 by omega),if_neg c3,if_neg (show ¬ i<k+1+(m+1-m) by omega),if_neg (show ¬ i<k+(m+1-m) by omega)]
theorem AX (l:List (Int×Int))(a i b:Nat)(h1:a+1≤i)(h2:i≤b)(hb:b≤l.length)(hs:oJ l)(hr:Risen l (a+1) b)(hx:a+1<i→(wy l (i-1)).1<(wy l a).1)(hy:i<b→(wy l a).1≤(wy l i).1) :
 Moved l (dL l a (a+1) i) a b∧Risen (dL l a (a+1) i) a b:=by
 have hlow:∀ p k,a≤p→p<a+1→a+1≤k→k<i→(wy l k).1<(wy l p).1:=by
  intro p k p1 p2 k1 k2;have z1:=hx (by omega);have z2:=hr.le k (i-1) k1 (by omega) (by omega);rw[show p=a from by omega];omega
 refine⟨(pI l a (a+1) i (by omega) h1 (by omega) hs hlow).wide (Nat.le_refl _) h2,?_⟩;intro p k p1 pk k1;show(wy _ p).1≤(wy _ k).1;rw[cM l a (a+1) i p (by omega) h1 (by omega),cM l a (a+1) i k (by omega) h1 (by omega),if_neg (by omega),if_neg (show ¬ k<a by omega)];by_cases c1:k<a+(i-(a+1))
 · rw[if_pos (by omega),if_pos c1];exact hr.le _ _ (by omega) (by omega) (by omega)
 · rw[if_neg c1];by_cases c2:k<i
   · rw[if_pos c2,if_pos (by omega)];exact Int.le_of_lt (hlow _ _ (by omega) (by omega) (by omega) (by omega))
   · rw[if_neg c2];by_cases c3:p<a+(i-(a+1))
     · rw[if_pos c3];exact hr.le _ _ (by omega) (by omega) (by omega)
     · rw[if_neg c3];by_cases c4:p<i
       · rw[if_pos c4,show p-(i-(a+1))=a from by omega];have z1:=hy (by omega);have z2:=hr.le i k (by omega) (by omega) (by omega);omega
       · rw[if_neg c4];exact hr.le _ _ (by omega) (by omega) (by omega)
theorem xM (l:List (Int×Int))(a i m:Nat)(h1:a≤i)(h2:i≤m)(hb:m<l.length)(hs:oJ l)(hr:Risen l a m)(hx:i<m→(wy l m).1<(wy l i).1)(hy:a<i→(wy l (i-1)).1≤(wy l m).1) :
 Moved l (dL l i m (m+1)) a (m+1)∧Risen (dL l i m (m+1)) a (m+1):=by
 have hlow:∀ p k,i≤p→p<m→m≤k→k<m+1→(wy l k).1<(wy l p).1:=by
  intro p k p1 p2 k1 k2;have z1:=hx (by omega);have z2:=hr.le i p h1 p1 p2;rw[show k=m from by omega];omega
 refine⟨(pI l i m (m+1) h2 (by omega) (by omega) hs hlow).wide h1 (Nat.le_refl _),?_⟩;intro p k p1 pk k1;show(wy _ p).1≤(wy _ k).1;rw[cM l i m (m+1) p h2 (by omega) (by omega),cM l i m (m+1) k h2 (by omega) (by omega)];by_cases c1:k<i
 · rw[if_pos (by omega),if_pos c1];exact hr.le _ _ p1 (by omega) (by omega)
 · rw[if_neg c1];by_cases c2:k<i+(m+1-m)
   · rw[if_pos c2,if_pos (by omega),show k+(m-i)=m from by omega];have z1:=hy (by omega);have z2:=hr.le p (i-1) p1 (by omega) (by omega);omega
   · rw[if_neg c2,if_pos k1];by_cases c3:p<i
     · rw[if_pos c3];exact hr.le _ _ p1 (by omega) (by omega)
     · rw[if_neg c3];by_cases c4:p<i+(m+1-m)
       · rw[if_pos c4];exact Int.le_of_lt (hlow _ _ (by omega) (by omega) (by omega) (by omega))
       · rw[if_neg c4,if_pos (by omega)];exact hr.le _ _ (by omega) (by omega) (by omega)
attribute [local go_sem ↓] Go.wp_at_zero Go.wp_at_succ
theorem YD (l:List (Int×Int))(g cap a b:Nat)(w:World)(hw:WaysAt w g l)(hl:l.length≤1000)(ha:a+1<b)(hb:b≤l.length)(hs:oJ l)(hr:Risen l (a+1) b)(am:Int)(ham:am=(a:Int)+1) :
 Calls Tryz.prog 253 #[.slice (some ⟨g,0,none⟩) l.length cap,.int .i64 a,.int .i64 am,.int .i64 b,.func (.func 233) #[] #[]] w fun e w'=>(∃ v,e=.returned v)∧(∃ r,Moved l r a b∧Risen r a b∧WaysAt w' g r)∧w.grownBy w' (some g):=by
 have HW:=hide hw;have HS:=hide hs;have HR:=hide hr;clear hw hs hr;have hd1:am-(a:Int)=1:=by omega
 have HAM:=hide ham;clear ham;go_enter Tryz.func253,Tryz.ntmps253;go_wp2
 go_loopw [10,11] (fun iv jv wr=>∃ I J:Nat,iv=.int .i64 I∧jv=.int .i64 J∧a+1≤I∧I≤J∧J≤b∧(a+1<I→(wy l (I-1)).1<(wy l a).1)∧(J<b→(wy l a).1≤(wy l J).1)∧WaysAt wr g l∧w.grownBy wr (some g)) (fun iv jv _=>(intOf jv-intOf iv).toNat)
 case atStart=>exact⟨a+1,b,by rw[HAM.out];rfl,rfl,by omega,by omega,by omega,fun h=>absurd h (by omega),fun h=>absurd h (by omega),HW.out,⟨rfl,rfl,rfl,Nat.le_refl _,fun _ _ _=>rfl⟩⟩
 case round =>
  obtain⟨I,J,rfl,rfl,hI,hIJ,hJ,hx,hy,hwr,hgr⟩:=hrel;have HX:=hide hx;have HY:=hide hy;have HWR:=hide hwr;have hglt:=hwr.1;clear hx hy;by_cases hlt:I<J
  · have hd2:decide ((I:Int)<(J:Int))=true:=by simp;omega
    obtain⟨h,hh1,hh2⟩:∃ h:Nat,h*2≤I+J∧I+J≤h*2+1:=⟨(I+J) / 2,by omega,by omega⟩
    have hhl:h<l.length:=by omega
    have hal:a<l.length:=by omega
    go_wp2;have hq:((I:Int)+(J:Int)) / 2=(h:Int):=by omega
    rw[hq];have HQ:=hide hq;clear hq;obtain⟨j1,j2⟩:=hwr.2.1 h hhl;obtain⟨i1,i2⟩:=hwr.2.1 a hal;have q1:wy l h=l[h]'hhl:=by unfold wy;rw[List.getD_eq_getElem?_getD,List.getElem?_eq_getElem hhl,Option.getD_some]
    have q2:wy l a=l[a]'hal:=by unfold wy;rw[List.getD_eq_getElem?_getD,List.getElem?_eq_getElem hal,Option.getD_some]
    rw[←q1] at j1 j2;rw[←q2] at i1 i2;obtain⟨x,hx⟩:∃ x,wy l h=x:=⟨_,rfl⟩
    obtain⟨z,hz⟩:∃ z,wy l a=z:=⟨_,rfl⟩
    rw[hx] at j1 j2;rw[hz] at i1 i2;have HXX:=hide hx;have HZ:=hide hz;have hfz:=hwr.2.2;clear q1 q2 hx hz hwr;obtain⟨x1,x2⟩:=x;obtain⟨z1,z2⟩:=z;have e1:(0:Int)≤(h:Int):=by omega
    have e2:(h:Int)<(l.length:Int):=by omega
    have e3:(0:Int)≤(a:Int):=by omega
    have e4:(a:Int)<(l.length:Int):=by omega
    obtain⟨v,hv⟩:∃ v,jW x1 z1=v:=⟨_,rfl⟩
    have HCM:=hide hv;clear hv;go_region_held3 (fun w'=>(w'.cell? ⟨g,h*2,none⟩=some (.int .i64 x1)∧w'.cell? ⟨g,h*2+1,none⟩=some (.int .i64 x2))∧(w'.cell? ⟨g,a*2,none⟩=some (.int .i64 z1)∧w'.cell? ⟨g,a*2+1,none⟩=some (.int .i64 z2))) (first | exact⟨⟨(hB.cell (p:=⟨g,h*2,none⟩) hglt).trans j1,(hB.cell (p:=⟨g,h*2+1,none⟩) hglt).trans j2⟩,(hB.cell (p:=⟨g,a*2,none⟩) hglt).trans i1,(hB.cell (p:=⟨g,a*2+1,none⟩) hglt).trans i2⟩ | go_keep) ((go_at_call 233;refine(pS x1 x2 z1 z2 _).mono ?_;rintro e w' ⟨rfl,hB⟩;rw[HCM.out]))
    have hB2:Below wr.heap.size wr w':=((Below.refl wr.heap.size wr).drew).trans hB;have hwm':=HWR.out.below hB2 hglt;have HWM':=hide hwm';have hgr3:=aO hgr (grown_below (r:=some g) hB2 (Nat.le_refl _));clear hwm' hB hB2 j1 j2 i1 i2 hfz hgr HWR;by_cases hc:x1<z1
    · have hd3:decide (v<0)=true:=by rw[←HCM.out];unfold jW;rw[if_pos hc];rfl
      rw[hd3];go_wp2;exact⟨⟨h+1,J,by go_num,rfl,by omega,by omega,by omega,fun _=>by rw[Nat.add_sub_cancel,HXX.out,HZ.out];exact hc,HY.out,HWM'.out,hgr3⟩,by simp[intOf];omega⟩
    · have hd3:decide (v<0)=false:=by rw[←HCM.out];unfold jW;rw[if_neg hc];split <;> simp
      rw[hd3];go_wp2;exact⟨⟨I,h,rfl,rfl,by omega,by omega,by omega,HX.out,fun _=>by rw[HXX.out,HZ.out];exact Int.not_lt.mp hc,HWM'.out,hgr3⟩,by simp[intOf];omega⟩
  · have hd2:decide ((I:Int)<(J:Int))=false:=by simp;omega
    have hIJ':I=J:=by omega
    subst hIJ';have hm:=AX l a I b hI hJ hb HS.out HR.out HX.out HY.out;have HM:=hide hm;clear hm hwr;go_wp2
    go_loopw [13] (fun kv wr=>∃ K:Nat,kv=.int .i64 K∧a≤K∧K+1≤I∧WaysAt wr g (dL l a (a+1) (K+1))∧w.grownBy wr (some g)) (fun kv _=>(I-intOf kv).toNat)
    case atStart=>exact⟨a,rfl,by omega,by omega,by rw[RV l a (a+1) (by omega)];exact HWR.out,hgr⟩
    case round =>
     obtain⟨K,rfl,hK1,hK2,hwk,hgk⟩:=hrel;have HWK:=hide hwk;clear hgr HWR hglt;have hglt:=hwk.1;by_cases hlt2:K+1<I
     · have hd4:decide ((K:Int)<(I:Int)-1)=true:=by simp;omega
       have hst:=LQ l a K hK1 (by omega);have hml:=kR l a (a+1) (K+1) (by omega) (by omega);obtain⟨m,hmm⟩:∃ m,dL l a (a+1) (K+1)=m:=⟨_,rfl⟩
       rw[hmm] at hwk hst hml;have HST:=hide hst;clear hst hmm;have hkl:K<m.length:=by omega
       have hkl2:K+1<m.length:=by omega
       obtain⟨j1,j2⟩:=hwk.2.1 K hkl;obtain⟨i1,i2⟩:=hwk.2.1 (K+1) hkl2;obtain⟨x,hx⟩:∃ x,m[K]'hkl=x:=⟨_,rfl⟩
       obtain⟨z,hz⟩:∃ z,m[K+1]'hkl2=z:=⟨_,rfl⟩
       rw[hx] at j1 j2;rw[hz] at i1 i2;obtain⟨x1,x2⟩:=x;obtain⟨z1,z2⟩:=z;have hfz:=hwk.2.2;have hset:=(hwk.set K hkl (z1,z2)).set (K+1) (by simp;omega) (x1,x2);have HSET:=hide hset;have hsw:(m.set K (z1,z2)).set (K+1) (x1,x2)=dS m K (K+1):=by
        unfold dS;rw[List.getD_eq_getElem?_getD,List.getElem?_eq_getElem hkl2,List.getD_eq_getElem?_getD,List.getElem?_eq_getElem hkl,Option.getD_some,Option.getD_some,hx,hz]
       have HSW:=hide hsw;clear hset hsw hx hz hwk;have hfo:Tryz.prog.follows Departure.mixedOrders=true:=by kernel_rfl
       obtain⟨K',hk1,hk2⟩:∃ K':Nat,K'≤K+1∧K+1≤K':=⟨K+1,by omega,by omega⟩
       have hkk:K+1=K':=by omega
       rw[hkk] at i1 i2;have HKK:=hide hkk;clear hkk;have e1:(0:Int)≤(K:Int):=by omega
       have e2:(K:Int)<(l.length:Int):=by omega
       have e3:(0:Int)≤(K':Int):=by omega
       have e4:(K':Int)<(l.length:Int):=by omega
       have f3:(K:Int)+1=(K':Int):=by omega
       have f5:IntKind.i64.wrap (K':Int)=(K':Int):=by rw[IntWalk.i64_left];exact IntWalk.wrap64_in _ (by omega)
       go_wp2
       go_big_region_o
       all_goals go_wp2
       refine⟨⟨K',rfl,by omega,by omega,?_,grown_drew (aV (aV (aV (aV hgk _ _) _ _) _ _) _ _)⟩,by simp[intOf];omega⟩;rw[←HKK.out,←HST.out,←HSW.out];have:=HSET.out;rw[HKK.out] at this ⊢;exact this
     · have hd4:decide ((K:Int)<(I:Int)-1)=false:=by simp;omega
       have hKI:K+1=I:=by omega
       rw[hKI] at HWK;clear hwk;have HKI:=hide hKI;clear hKI;go_wp2;refine bodyPost_ret (results_none rfl _ _ _) rfl ?_;exact⟨⟨_,rfl⟩,⟨_,HM.out.1,HM.out.2,HWK.out⟩,hgk⟩
attribute [local go_sem ↓] Go.wp_at_zero Go.wp_at_succ
theorem RN (l:List (Int×Int))(g cap a m:Nat)(w:World)(hw:WaysAt w g l)(hl:l.length≤1000)(ha:a+1<m)(hb:m<l.length)(hs:oJ l)(hr:Risen l a m)(am:Int)(ham:am=(m:Int)+1) :
 Calls Tryz.prog 253 #[.slice (some ⟨g,0,none⟩) l.length cap,.int .i64 a,.int .i64 m,.int .i64 am,.func (.func 233) #[] #[]] w fun e w'=>(∃ v,e=.returned v)∧(∃ r,Moved l r a (m+1)∧Risen r a (m+1)∧WaysAt w' g r)∧w.grownBy w' (some g):=by
 have HW:=hide hw;have HS:=hide hs;have HR:=hide hr;clear hw hs hr;have hd0:((m:Int)-(a:Int) == 1)=false:=by simp;omega
 have hd1:am-(m:Int)=1:=by omega
 have HAM:=hide ham;clear ham;go_enter Tryz.func253,Tryz.ntmps253;go_wp2
 go_loopw [14,15] (fun iv jv wr=>∃ I J:Nat,iv=.int .i64 I∧jv=.int .i64 J∧a≤I∧I≤J∧J≤m∧(J<m→(wy l m).1<(wy l J).1)∧(a<I→(wy l (I-1)).1≤(wy l m).1)∧WaysAt wr g l∧w.grownBy wr (some g)) (fun iv jv _=>(intOf jv-intOf iv).toNat)
 case atStart=>exact⟨a,m,rfl,rfl,by omega,by omega,by omega,fun h=>absurd h (by omega),fun h=>absurd h (by omega),HW.out,⟨rfl,rfl,rfl,Nat.le_refl _,fun _ _ _=>rfl⟩⟩
 case round =>
  obtain⟨I,J,rfl,rfl,hI,hIJ,hJ,hx,hy,hwr,hgr⟩:=hrel;have HX:=hide hx;have HY:=hide hy;have HWR:=hide hwr;have hglt:=hwr.1;clear hx hy;by_cases hlt:I<J
  · have hd2:decide ((I:Int)<(J:Int))=true:=by simp;omega
    obtain⟨h,hh1,hh2⟩:∃ h:Nat,h*2≤I+J∧I+J≤h*2+1:=⟨(I+J) / 2,by omega,by omega⟩
    have hhl:h<l.length:=by omega
    go_wp2;have hq:((I:Int)+(J:Int)) / 2=(h:Int):=by omega
    rw[hq];have HQ:=hide hq;clear hq;obtain⟨j1,j2⟩:=hwr.2.1 m hb;obtain⟨i1,i2⟩:=hwr.2.1 h hhl;have q1:wy l m=l[m]'hb:=by unfold wy;rw[List.getD_eq_getElem?_getD,List.getElem?_eq_getElem hb,Option.getD_some]
    have q2:wy l h=l[h]'hhl:=by unfold wy;rw[List.getD_eq_getElem?_getD,List.getElem?_eq_getElem hhl,Option.getD_some]
    rw[←q1] at j1 j2;rw[←q2] at i1 i2;obtain⟨x,hx⟩:∃ x,wy l m=x:=⟨_,rfl⟩
    obtain⟨z,hz⟩:∃ z,wy l h=z:=⟨_,rfl⟩
    rw[hx] at j1 j2;rw[hz] at i1 i2;have HXX:=hide hx;have HZ:=hide hz;have hfz:=hwr.2.2;clear q1 q2 hx hz hwr;obtain⟨x1,x2⟩:=x;obtain⟨z1,z2⟩:=z;have e1:(0:Int)≤(h:Int):=by omega
    have e2:(h:Int)<(l.length:Int):=by omega
    have e3:(0:Int)≤(m:Int):=by omega
    have e4:(m:Int)<(l.length:Int):=by omega
    obtain⟨v,hv⟩:∃ v,jW x1 z1=v:=⟨_,rfl⟩
    have HCM:=hide hv;clear hv;go_region_held3 (fun w'=>(w'.cell? ⟨g,m*2,none⟩=some (.int .i64 x1)∧w'.cell? ⟨g,m*2+1,none⟩=some (.int .i64 x2))∧(w'.cell? ⟨g,h*2,none⟩=some (.int .i64 z1)∧w'.cell? ⟨g,h*2+1,none⟩=some (.int .i64 z2))) (first | exact⟨⟨(hB.cell (p:=⟨g,m*2,none⟩) hglt).trans j1,(hB.cell (p:=⟨g,m*2+1,none⟩) hglt).trans j2⟩,(hB.cell (p:=⟨g,h*2,none⟩) hglt).trans i1,(hB.cell (p:=⟨g,h*2+1,none⟩) hglt).trans i2⟩ | go_keep) ((go_at_call 233;refine(pS x1 x2 z1 z2 _).mono ?_;rintro e w' ⟨rfl,hB⟩;rw[HCM.out]))
    have hB2:Below wr.heap.size wr w':=((Below.refl wr.heap.size wr).drew).trans hB;have hwm':=HWR.out.below hB2 hglt;have HWM':=hide hwm';have hgr3:=aO hgr (grown_below (r:=some g) hB2 (Nat.le_refl _));clear hwm' hB hB2 j1 j2 i1 i2 hfz hgr HWR;by_cases hc:x1<z1
    · have hd3:decide (v<0)=true:=by rw[←HCM.out];unfold jW;rw[if_pos hc];rfl
      rw[hd3];go_wp2;exact⟨⟨I,h,rfl,rfl,by omega,by omega,by omega,fun _=>by rw[HXX.out,HZ.out];exact hc,HY.out,HWM'.out,hgr3⟩,by simp[intOf];omega⟩
    · have hd3:decide (v<0)=false:=by rw[←HCM.out];unfold jW;rw[if_neg hc];split <;> simp
      rw[hd3];go_wp2;exact⟨⟨h+1,J,by go_num,rfl,by omega,by omega,by omega,HX.out,fun _=>by rw[Nat.add_sub_cancel,HXX.out,HZ.out];exact Int.not_lt.mp hc,HWM'.out,hgr3⟩,by simp[intOf];omega⟩
  · have hd2:decide ((I:Int)<(J:Int))=false:=by simp;omega
    have hIJ':I=J:=by omega
    subst hIJ';have hm:=xM l a I m hI hJ hb HS.out HR.out HX.out HY.out;have HM:=hide hm;clear hm hwr;go_wp2
    go_loopw [17] (fun kv wr=>∃ K:Nat,kv=.int .i64 K∧I≤K∧K≤m∧WaysAt wr g (dL l K m (m+1))∧w.grownBy wr (some g)) (fun kv _=>(intOf kv).toNat)
    case atStart=>exact⟨m,rfl,by omega,by omega,by rw[LJ l m (m+1) (by omega)];exact HWR.out,hgr⟩
    case round =>
     obtain⟨K,rfl,hK1,hK2,hwk,hgk⟩:=hrel;have HWK:=hide hwk;clear hgr HWR hglt;have hglt:=hwk.1;by_cases hlt2:I<K
     · have hd4:decide ((I:Int)<(K:Int))=true:=by simp;omega
       obtain⟨p,hp1,hp2⟩:∃ p,p+1≤K∧K≤p+1:=⟨K-1,by omega,by omega⟩
       have hst:=OY l p m (by omega) hb;rw[show p+1=K from by omega] at hst;have hml:=kR l K m (m+1) (by omega) (by omega);obtain⟨q,hmm⟩:∃ q,dL l K m (m+1)=q:=⟨_,rfl⟩
       rw[hmm] at hwk hst hml;have HST:=hide hst;clear hst hmm;have hkl:K<q.length:=by omega
       have hpl:p<q.length:=by omega
       obtain⟨j1,j2⟩:=hwk.2.1 K hkl;obtain⟨i1,i2⟩:=hwk.2.1 p hpl;obtain⟨x,hx⟩:∃ x,q[K]'hkl=x:=⟨_,rfl⟩
       obtain⟨z,hz⟩:∃ z,q[p]'hpl=z:=⟨_,rfl⟩
       rw[hx] at j1 j2;rw[hz] at i1 i2;obtain⟨x1,x2⟩:=x;obtain⟨z1,z2⟩:=z;have hfz:=hwk.2.2;have hset:=(hwk.set K hkl (z1,z2)).set p (by simp;omega) (x1,x2);have HSET:=hide hset;have hsw:(q.set K (z1,z2)).set p (x1,x2)=dS q K p:=by
        unfold dS;rw[List.getD_eq_getElem?_getD,List.getElem?_eq_getElem hpl,List.getD_eq_getElem?_getD,List.getElem?_eq_getElem hkl,Option.getD_some,Option.getD_some,hx,hz]
       have HSW:=hide hsw;clear hset hsw hx hz hwk;have hfo:Tryz.prog.follows Departure.mixedOrders=true:=by kernel_rfl
       have e1:(0:Int)≤(p:Int):=by omega
       have e2:(p:Int)<(l.length:Int):=by omega
       have e3:(0:Int)≤(K:Int):=by omega
       have e4:(K:Int)<(l.length:Int):=by omega
       have f3:(K:Int)-1=(p:Int):=by omega
       have f5:IntKind.i64.wrap (p:Int)=(p:Int):=by rw[IntWalk.i64_left];exact IntWalk.wrap64_in _ (by omega)
       go_wp2
       go_big_region_o
       all_goals go_wp2
       refine⟨⟨p,rfl,by omega,by omega,?_,grown_drew (aV (aV (aV (aV hgk _ _) _ _) _ _) _ _)⟩,by simp[intOf];omega⟩;rw[←HST.out,←HSW.out];exact HSET.out
     · have hd4:decide ((I:Int)<(K:Int))=false:=by simp;omega
       have hKI:K=I:=by omega
       have hwi:WaysAt wr g (dL l I m (m+1)):=by rw[←hKI];exact HWK.out
       have HWI:=hide hwi;clear hwk hKI hwi;go_wp2;refine bodyPost_ret (results_none rfl _ _ _) rfl ?_;exact⟨⟨_,rfl⟩,⟨_,HM.out.1,HM.out.2,HWI.out⟩,hgk⟩
end Go.Proofs.YtgohllfpceeboabGreatDoor
