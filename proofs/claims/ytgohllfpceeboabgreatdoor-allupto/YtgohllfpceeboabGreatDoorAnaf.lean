import Derived.Test.YtgohllfpceeboabGreatDoorAnae
import Derived.Deep.Cut
set_option maxRecDepth 100000
set_option maxHeartbeats 2000000
namespace Go.Proofs.YtgohllfpceeboabGreatDoor
open Go.RowKit
theorem MM (l:List UInt8):(⟨l.toArray⟩:ByteArray).size=l.length:=by simp[ByteArray.size]
theorem aC (t:ByteArray):t.data.toList.length=t.size:=by simp
theorem JI (t:ByteArray)(k:Nat)(h:k<t.size):t.data.toList.getD k 0=t[k]:=by
 have:k<t.data.toList.length:=by simpa using h
 rw[List.getD_eq_getElem?_getD,List.getElem?_eq_getElem this,Option.getD_some];exact Array.getElem_toList ..
theorem lV (t:ByteArray)(k:Nat):(t.extract k t.size).data.toList=t.data.toList.drop k:=by
 rw[ByteArray.data_extract,Array.toList_extract];simp only[List.extract_eq_take_drop];rw[List.take_of_length_le];simp
theorem iO (t:ByteArray)(k:Nat):(t.extract 0 k).data.toList=t.data.toList.take k:=by
 rw[ByteArray.data_extract,Array.toList_extract];simp[List.extract_eq_take_drop]
theorem pR {l:List Int}{k:Nat}{c x:Int}(hlt:k<l.length)(hc:l[k]=c)(hx:Sx.lower c=x):(l.take (k+1)).map Sx.lower=(l.take k).map Sx.lower++[x]:=by
 rw[Sx.take_snoc l k hlt,hc,List.map_append];simp[hx]
theorem kO {w1:World}{B:Nat}{v:Value}{l:List Int}{k:Nat}{c x:Int}(hlt:k<l.length)(hc:l[k]=c)(hx:Sx.lower c=x)
 (h:w1.ownsRow B 3 1 v (k+1) (dW ((l.take k).map Sx.lower)++[.int .i64 x])):w1.ownsRow B 3 1 v (k+1) (dW ((l.take (k+1)).map Sx.lower)):=by
 rw[pR hlt hc hx,gY];exact h
theorem wR {l:List Int}{k:Nat}{c x:Int}(hlt:k<l.length)(hc:l[k]=c)(h:Sx.Y6 (l.take k)=true)(hx:Sx.lower c=x)(ho:Sx.tN x=true):Sx.Y6 (l.take (k+1))=true:=by
 unfold Sx.Y6 at *;rw[pR hlt hc hx,List.all_append,h];simp[ho]
theorem lN {l:List Int}{k:Nat}{c x:Int}(hlt:k<l.length)(hc:l[k]=c)(hx:Sx.lower c=x)(h:x<128):Sx.BO (l.take (k+1))=Sx.BO (l.take k):=by
 unfold Sx.BO;rw[pR hlt hc hx,List.any_append];simp;intro h2;omega
theorem GE {l:List Int}{k:Nat}{c x:Int}(hlt:k<l.length)(hc:l[k]=c)(hx:Sx.lower c=x)(h:128≤x):Sx.BO (l.take (k+1))=true:=by
 unfold Sx.BO;rw[pR hlt hc hx,List.any_append];simp[h]
theorem qA {l:List Int}{k:Nat}{c x:Int}(hlt:k<l.length)(hc:l[k]=c)(hx:Sx.lower c=x)(ho:Sx.tN x=false):Sx.cI l=none:=by
 unfold Sx.cI;rw[if_neg];intro h;rw[List.all_eq_true] at h;have:=h x (List.mem_map.2 ⟨l[k],List.getElem_mem hlt,by rw[hc,hx]⟩);rw[ho] at this;cases this
theorem NP (x:UInt8):(x == 45)=((x.toNat:Int) == 45):=by
 rw[Bool.eq_iff_iff];simp only[beq_iff_eq];constructor
 · rintro rfl;rfl
 · intro h;apply UInt8.toNat.inj;show x.toNat=45;omega
theorem zJ (w:World):Calls Tryz.prog 150 #[.slice none 0 0] w fun e w'=>e=.returned (.string ⟨#[]⟩)∧w'=w:=by
 have he:=dD (World.ownsRow_nil w 0 5 1) (bs:=[]);go_enter Tryz.func150,Tryz.ntmps150;go_wp2
 go_loop [3,4] (fun x n=>x=.slice none 0 0∧n=.int .i64 0) (fun _ _=>0)
 case atStart=>exact⟨rfl,rfl⟩
 case round =>
  obtain⟨rfl,rfl⟩:=hrel;go_wp2;go_ret;exact⟨rfl,rfl⟩
def AD (l:List Int)(B:Nat)(w:World)(e:Ending)(w':World):Prop :=
 Below B w w'∧((Sx.cI l=none∧e=.returned (.tuple #[.string ⟨#[]⟩,.bool false]))∨∃ s,Sx.cI l=some s∧s.length≤20∧e=.returned (.tuple #[.string ⟨s.toArray⟩,.bool true]))
theorem yK (l:List Int)(b off cap:Nat)(w:World)(hl0:0<l.length)(hl:l.length≤100)(hb:b<w.heap.size)
 (hr:∀ j (h:j<l.length),w.cell? ⟨b,off+j,none⟩=some (.int .i64 l[j])) (hv:∀ c∈l,0≤c∧c≤1114111) :
 Calls Tryz.prog 202 #[.slice (some ⟨b,off,none⟩) l.length cap] w (AD l w.heap.size w):=by
 obtain⟨i0,hi,hz0,hz1,hz2⟩:=info_parts Tryz.info3;go_enter Tryz.func202,Tryz.ntmps202;go_wp2
 go_loopw [4,5,6] (fun f x n wr=>∃ (k:Nat),n=.int .i64 k∧k≤l.length∧f=.bool (Sx.BO (l.take k))∧wr.ownsRow w.heap.size 3 1 x k (dW ((l.take k).map Sx.lower))∧Sx.Y6 (l.take k)=true∧Below w.heap.size w wr) (fun _ _ n _=>(l.length-intOf n).toNat)
 case atStart=>exact⟨0,rfl,by omega,rfl,World.ownsRow_nil w _ 3 1,rfl,Below.refl _ _⟩
 case round =>
  obtain⟨k,rfl,hk,rfl,hown,hok,hB⟩:=hrel;have hsz:=hB.size;have HOK:=hide hok;clear hok;by_cases hlt:k<l.length
  · have hcell:wr.cell? ⟨b,off+k,none⟩=some (.int .i64 l[k]):=(hB.cell (p:=⟨b,off+k,none⟩) hb).trans (hr k hlt);have hvk:=hv l[k] (List.getElem_mem hlt);obtain⟨c,hcc⟩:∃ c,l[k]=c:=⟨_,rfl⟩
    rw[hcc] at hcell hvk;have HC:=hide hcc;clear hcc hr hv;by_cases c1:65≤c
    · by_cases c2:c≤90
      · go_wp2_with (at_builtin;go_must (refine wpList_append_lies _ rfl _ _ _ rfl w.heap.size 3 i0 (.int .i64 0) 1 8 Tryz.underlying207 hi hz0 hz1 hz2 rfl (by decide) _ _ _ rfl (hown.alloc _) ⟨wr.heap.size,0,none⟩ 1 1 [.int .i64 (c+32)] rfl rfl (cell_one_new _ _ _) (by simp[Value.oneCell']) (by omega) (by unfold maxLen;omega) (by omega) (by(simp;try omega)) _ rfl ?_;intro g2 cap2 w1 hown1 hgrow hat hlt1))
        exact⟨⟨k+1,by go_num,by omega,by rw[lN hlt HC.out (by unfold Sx.lower;rw[if_pos ⟨c1,c2⟩]) (by omega)],kO hlt HC.out (by unfold Sx.lower;rw[if_pos ⟨c1,c2⟩]) hown1,wR hlt HC.out HOK.out (by unfold Sx.lower;rw[if_pos ⟨c1,c2⟩]) (by(simp[Sx.tN];try omega)),aH hB hsz hown hgrow⟩,by(simp[intOf];try omega)⟩
      · by_cases c3:128≤c
        · go_wp2_with (at_builtin;go_must (refine wpList_append_lies _ rfl _ _ _ rfl w.heap.size 3 i0 (.int .i64 0) 1 8 Tryz.underlying207 hi hz0 hz1 hz2 rfl (by decide) _ _ _ rfl (hown.alloc _) ⟨wr.heap.size,0,none⟩ 1 1 [.int .i64 c] rfl rfl (cell_one_new _ _ _) (by simp[Value.oneCell']) (by omega) (by unfold maxLen;omega) (by omega) (by(simp;try omega)) _ rfl ?_;intro g2 cap2 w1 hown1 hgrow hat hlt1))
          exact⟨⟨k+1,by go_num,by omega,by rw[GE hlt HC.out (by unfold Sx.lower;rw[if_neg (by omega)]) c3],kO hlt HC.out (by unfold Sx.lower;rw[if_neg (by omega)]) hown1,wR hlt HC.out HOK.out (by unfold Sx.lower;rw[if_neg (by omega)]) (by(simp[Sx.tN];try omega)),aH hB hsz hown hgrow⟩,by(simp[intOf];try omega)⟩
        · by_cases c4:97≤c
          · by_cases c5:c≤122
            · go_wp2_with (at_builtin;go_must (refine wpList_append_lies _ rfl _ _ _ rfl w.heap.size 3 i0 (.int .i64 0) 1 8 Tryz.underlying207 hi hz0 hz1 hz2 rfl (by decide) _ _ _ rfl (hown.alloc _) ⟨wr.heap.size,0,none⟩ 1 1 [.int .i64 c] rfl rfl (cell_one_new _ _ _) (by simp[Value.oneCell']) (by omega) (by unfold maxLen;omega) (by omega) (by(simp;try omega)) _ rfl ?_;intro g2 cap2 w1 hown1 hgrow hat hlt1))
              exact⟨⟨k+1,by go_num,by omega,by rw[lN hlt HC.out (by unfold Sx.lower;rw[if_neg (by omega)]) (by omega)],kO hlt HC.out (by unfold Sx.lower;rw[if_neg (by omega)]) hown1,wR hlt HC.out HOK.out (by unfold Sx.lower;rw[if_neg (by omega)]) (by(simp[Sx.tN];try omega)),aH hB hsz hown hgrow⟩,by(simp[intOf];try omega)⟩
            · have c8:decide (c≤57)=false:=by simp;omega
              have c6:(c != 45)=true:=by rw[bne_iff_ne];omega
              go_wp2;go_ret2;exact⟨hB,.inl ⟨qA hlt HC.out (x:=c) (by unfold Sx.lower;rw[if_neg (by omega)]) (by simp[Sx.tN];omega),rfl⟩⟩
          · have c8:decide (c≤57)=false:=by simp;omega
            have c6:(c != 45)=true:=by rw[bne_iff_ne];omega
            go_wp2;go_ret2;exact⟨hB,.inl ⟨qA hlt HC.out (x:=c) (by unfold Sx.lower;rw[if_neg (by omega)]) (by simp[Sx.tN];omega),rfl⟩⟩
    · by_cases c4:48≤c
      · by_cases c5:c≤57
        · go_wp2_with (at_builtin;go_must (refine wpList_append_lies _ rfl _ _ _ rfl w.heap.size 3 i0 (.int .i64 0) 1 8 Tryz.underlying207 hi hz0 hz1 hz2 rfl (by decide) _ _ _ rfl (hown.alloc _) ⟨wr.heap.size,0,none⟩ 1 1 [.int .i64 c] rfl rfl (cell_one_new _ _ _) (by simp[Value.oneCell']) (by omega) (by unfold maxLen;omega) (by omega) (by(simp;try omega)) _ rfl ?_;intro g2 cap2 w1 hown1 hgrow hat hlt1))
          exact⟨⟨k+1,by go_num,by omega,by rw[lN hlt HC.out (by unfold Sx.lower;rw[if_neg (by omega)]) (by omega)],kO hlt HC.out (by unfold Sx.lower;rw[if_neg (by omega)]) hown1,wR hlt HC.out HOK.out (by unfold Sx.lower;rw[if_neg (by omega)]) (by(simp[Sx.tN];try omega)),aH hB hsz hown hgrow⟩,by(simp[intOf];try omega)⟩
        · have c6:(c != 45)=true:=by rw[bne_iff_ne];omega
          go_wp2;go_ret2;exact⟨hB,.inl ⟨qA hlt HC.out (x:=c) (by unfold Sx.lower;rw[if_neg (by omega)]) (by simp[Sx.tN];omega),rfl⟩⟩
      · by_cases c7:c=45
        · subst c7;go_wp2_with (at_builtin;go_must (refine wpList_append_lies _ rfl _ _ _ rfl w.heap.size 3 i0 (.int .i64 0) 1 8 Tryz.underlying207 hi hz0 hz1 hz2 rfl (by decide) _ _ _ rfl (hown.alloc _) ⟨wr.heap.size,0,none⟩ 1 1 [.int .i64 45] rfl rfl (cell_one_new _ _ _) (by simp[Value.oneCell']) (by omega) (by unfold maxLen;omega) (by omega) (by(simp;try omega)) _ rfl ?_;intro g2 cap2 w1 hown1 hgrow hat hlt1))
          exact⟨⟨k+1,by go_num,by omega,by rw[lN hlt HC.out (by unfold Sx.lower;rw[if_neg (by omega)]) (by omega)],kO hlt HC.out (by unfold Sx.lower;rw[if_neg (by omega)]) hown1,wR hlt HC.out HOK.out (by unfold Sx.lower;rw[if_neg (by omega)]) (by(simp[Sx.tN];try omega)),aH hB hsz hown hgrow⟩,by(simp[intOf];try omega)⟩
        · have c6:(c != 45)=true:=by rw[bne_iff_ne];omega
          go_wp2;go_ret2;exact⟨hB,.inl ⟨qA hlt HC.out (x:=c) (by unfold Sx.lower;rw[if_neg (by omega)]) (by simp[Sx.tN];omega),rfl⟩⟩
  · have hk1:k=l.length:=by omega
    subst hk1;rw[List.take_length] at HOK hown;rw[List.take_length];obtain⟨g,cap2,rfl,hg1,hg2⟩:=hown.form hl0;obtain⟨_,_,hc1,hc2,_,hc4,hcl⟩:=bR hown;have hml:(l.map Sx.lower).length=l.length:=by simp
    have hrd:∀ j (h:j<(l.map Sx.lower).length),wr.cell? ⟨g,0+j,none⟩=some (.int .i64 (l.map Sx.lower)[j]):=by
     intro j h;have:=hcl j (by simpa[dW] using h);rw[Nat.zero_add,this];simp[dW]
    have hmv:∀ c∈l.map Sx.lower,0≤c∧c≤1114111:=by
     intro c hc;obtain⟨x,hx,rfl⟩:=List.mem_map.1 hc;exact Sx.VN x (hv x hx).1 (hv x hx).2
    obtain⟨m,hm⟩:∃ m,l.map Sx.lower=m:=⟨_,rfl⟩
    rw[hm] at hrd hmv hml hown;have HM:=hide hm;have HRD:=hide hrd;have HMV:=hide hmv;have HML:=hide hml;have henc:=yJ m g 0 cap2 wr (by omega) (by omega) hc4 hrd hmv;have htxt:=vD m g 0 cap2 wr (by omega) hc4 hrd hmv;rw[hml] at henc htxt;have HENC:=hide henc;have HTXT:=hide htxt;clear hcl hrd hmv hm hr hv henc htxt hml hown;obtain⟨f,hf⟩:∃ f,Sx.BO l=f:=⟨_,rfl⟩
    rw[hf];have HF:=hide hf;clear hf;have key:∀ (s:ByteArray),Sx.aJ m=s.data.toList→Sx.cI l=if Sx.dM s.data.toList then (if (!f && decide (4≤s.data.toList.length) && (s.data.toList.take 4 == Sx.xn)) then (if Sx.codeOk (s.data.toList.drop 4) then some s.data.toList else none) else some s.data.toList) else none:=by
     intro s hs;unfold Sx.cI;rw[HM.out,if_pos (by have:=HOK.out;unfold Sx.Y6 at this;rw[HM.out] at this;exact this),hs];have:(m.any fun c=>decide (128≤c))=f:=by have:=HF.out;unfold Sx.BO at this;rw[HM.out] at this;exact this
     rw[this]
    have KEY:=hide key;clear key
    go_upto_if 55 with fail
    go_cut [8] from 55 (fun s wc=>∃ t:ByteArray,s=.string t∧t.size≤40000000000∧Sx.aJ m=t.data.toList∧Below w.heap.size w wc)
    case first =>
     have hff:(m.any fun c=>decide (128≤c))=f:=by have:=HF.out;unfold Sx.BO at this;rw[HM.out] at this;exact this
     have HFF:=hide hff;clear hff;cases f with
     | true =>
       go_wp2_with fail
       refine HENC.out.mono ?_;rintro e w1 ⟨rfl,hB4,hlen4⟩;go_wp2;go_meet
       case rel=>exact⟨_,rfl,by rw[show(#[120,110,45,45] : Array UInt8)=[120,110,45,45].toArray from rfl,bF,MM];simp;omega,by unfold Sx.aJ;rw[HFF.out];simp[Sx.xn],hB.trans (hB4.mono hsz)⟩
     | false =>
       have hlen4:=Sx.lC m;rw[HML.out] at hlen4;go_wp2_with fail
       refine HTXT.out.mono ?_;rintro e w1 ⟨rfl,hB4⟩;go_wp2;go_meet
       case rel=>exact⟨_,rfl,by rw[MM];omega,by unfold Sx.aJ;rw[HFF.out];simp,hB.trans (hB4.mono hsz)⟩
    case rest =>
     obtain⟨t,rfl,hts,htf,hBc⟩:=hcut;have hkey:=KEY.out t htf;have FAIL:Hid (Sx.dM t.data.toList=false→Sx.cI l=none):=hide (fun h=>by rw[hkey,h];rfl);have PASS:Hid (Sx.dM t.data.toList=true→Sx.cI l=if (!f && decide (4≤t.size) && (t.data.toList.take 4 == Sx.xn)) then (if Sx.codeOk (t.data.toList.drop 4) then some t.data.toList else none) else some t.data.toList):=hide (fun h=>by rw[hkey,h,aC];rfl);clear hkey htf KEY HENC HTXT HML HMV HRD HM HOK hB hsz;have hout:∀ (e:Ending) (w':World),Below w.heap.size w w'→Sx.dM t.data.toList=true→(!f && decide (4≤t.size) && (t.data.toList.take 4 == Sx.xn))=false→t.size≤20→e=.returned (.tuple #[.string t,.bool true])→AD l w.heap.size w e w':=fun e w' hb hf hc ht he=>⟨hb,.inr ⟨t.data.toList,by rw[PASS.out hf,hc];rfl,by rw[aC];exact ht,he⟩⟩;have HOUT:=hide hout;clear hout;by_cases e1:t.size<1
     · have hff:Sx.dM t.data.toList=false:=by unfold Sx.dM;rw[aC];simp;omega
       have HFF:=hide hff;clear hff;go_wp2;go_ret2;exact⟨hBc,.inl ⟨FAIL.out HFF.out,rfl⟩⟩
     · by_cases e2:20<t.size
       · have hff:Sx.dM t.data.toList=false:=by unfold Sx.dM;rw[aC];simp;omega
         have HFF:=hide hff;clear hff;go_wp2;go_ret2;exact⟨hBc,.inl ⟨FAIL.out HFF.out,rfl⟩⟩
       · have hz:0<t.size:=by omega
         have hz1:t.size-1<t.size:=by omega
         have g0:=JI t 0 hz;have g1:=JI t (t.size-1) hz1;have hform:Sx.dM t.data.toList=(!((t[0].toNat:Int) == 45) && !((t[t.size-1].toNat:Int) == 45)):=by
          unfold Sx.dM;have a1:decide (1≤t.size)=true:=by simp;omega
          have a2:decide (t.size≤20)=true:=by simp;omega
          rw[aC,g0,g1,NP,NP,a1,a2];simp
         have HFORM:=hide hform;clear g0 g1 hform;cases e3:((t[0].toNat:Int) == 45) with
         | true =>
           have HFF:=hide (show Sx.dM t.data.toList=false by rw[HFORM.out,e3];rfl);go_wp2;go_ret2;exact⟨hBc,.inl ⟨FAIL.out HFF.out,rfl⟩⟩
         | false =>
           cases e4:((t[t.size-1].toNat:Int) == 45) with
           | true =>
             have HFF:=hide (show Sx.dM t.data.toList=false by rw[HFORM.out,e3,e4];rfl);go_wp2;go_ret2;exact⟨hBc,.inl ⟨FAIL.out HFF.out,rfl⟩⟩
           | false =>
             have HFF:=hide (show Sx.dM t.data.toList=true by rw[HFORM.out,e3,e4];rfl);by_cases e5:4≤t.size
             · cases e6:((t.extract 0 4).toList == [120,110,45,45]) with
               | true =>
                 have hx6:(t.data.toList.take 4 == Sx.xn)=true:=by rw[←iO,←ByteArray.toList_eq];exact e6
                 have HX6:=hide hx6;clear hx6;cases f with
                 | true =>
                   go_wp2;go_ret2;exact HOUT.out _ _ hBc HFF.out (by simp) (by omega) rfl
                 | false =>
                   have hx7:Sx.cI l=if Sx.codeOk (t.data.toList.drop 4) then some t.data.toList else none:=by rw[PASS.out HFF.out,HX6.out];simp[e5]
                   have HX7:=hide hx7;clear hx7;have hscr:=hBc.size;go_wp2_with fail
                   refine(IJ (t.extract 4 t.size) _ (by rw[←aC,lV];simp;omega)).mono ?_;rw[lV];rintro e w1 ⟨hB5,(⟨hd,rfl⟩ | ⟨l2,v2,hd,_,_,_,rfl,_⟩)⟩
                   · have HD:=hide hd;clear hd;go_wp2;go_ret2;exact⟨hBc.trans (hB5.mono hscr),.inl ⟨by rw[HX7.out];unfold Sx.codeOk;rw[HD.out];rfl,rfl⟩⟩
                   · have HD:=hide hd;clear hd;cases e8:(Sx.enc l2 == t.data.toList.drop 4) with
                     | true =>
                       go_wp2;go_ret2;exact⟨hBc.trans (hB5.mono hscr),.inr ⟨t.data.toList,by rw[HX7.out];unfold Sx.codeOk;rw[HD.out];simp only[e8];rfl,by rw[aC];omega,rfl⟩⟩
                     | false =>
                       go_wp2;go_ret2;exact⟨hBc.trans (hB5.mono hscr),.inl ⟨by rw[HX7.out];unfold Sx.codeOk;rw[HD.out];simp only[e8];rfl,rfl⟩⟩
               | false =>
                 have hx6:(t.data.toList.take 4 == Sx.xn)=false:=by rw[←iO,←ByteArray.toList_eq];exact e6
                 have HX6:=hide hx6;clear hx6;go_wp2;go_ret2;exact HOUT.out _ _ hBc HFF.out (by rw[HX6.out];simp) (by omega) rfl
             · go_wp2;go_ret2;exact HOUT.out _ _ hBc HFF.out (by simp[e5]) (by omega) rfl
theorem vK (a:Option Addr)(c:Nat)(w:World):Calls Tryz.prog 202 #[.slice a 0 c] w (AD [] w.heap.size w):=by
 go_enter Tryz.func202,Tryz.ntmps202;go_wp2
 go_loop [4,5,6] (fun f x n=>f=.bool false∧x=.slice none 0 0∧n=.int .i64 0) (fun _ _ _=>0)
 case atStart=>exact⟨rfl,rfl,rfl⟩
 case round =>
  obtain⟨rfl,rfl,rfl⟩:=hrel;go_wp2_with (go_at_call 150;go_must (refine(zJ _).mono ?_;rintro e w1 ⟨rfl,rfl⟩))
  go_ret2;exact⟨Below.refl _ _,.inl ⟨Sx.gK,rfl⟩⟩
end Go.Proofs.YtgohllfpceeboabGreatDoor
