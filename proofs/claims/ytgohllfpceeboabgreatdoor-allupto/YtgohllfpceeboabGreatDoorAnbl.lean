import Derived.Test.YtgohllfpceeboabGreatDoorAnbk
import Derived.Laws.MakeOwn
set_option maxRecDepth 100000
set_option maxHeartbeats 4000000
namespace Go.Proofs.YtgohllfpceeboabGreatDoor
open Go.RowKit
open Sx (bS)
theorem F8 {m:List UInt8}{P:List (List UInt8)}{f j:Nat}(hj:j<m.length)(hd:m.getD j 0=46)(h:bS m []=P++bS (m.drop j) ((m.take j).drop f)):bS m []=(P++[(m.take j).drop f])++bS (m.drop (j+1)) ((m.take (j+1)).drop (j+1)):=by
 rw[h,jE m j hj,hd,kN,if_pos rfl,List.drop_eq_nil_of_le (by rw[List.length_take];omega:(m.take (j+1)).length≤j+1)];simp
theorem P5 {m:List UInt8}{P:List (List UInt8)}{f j:Nat}(hj:j<m.length)(hf:f≤j)(hd:m.getD j 0≠46)(h:bS m []=P++bS (m.drop j) ((m.take j).drop f)):bS m []=P++bS (m.drop (j+1)) ((m.take (j+1)).drop f):=by
 have e:(m.take (j+1)).drop f=(m.take j).drop f++[m.getD j 0]:=by
  rw[List.take_succ_eq_append_getElem hj,List.drop_append_of_le_length (by rw[List.length_take];omega),List.getD_eq_getElem?_getD,List.getElem?_eq_getElem hj];rfl
 rw[h,jE m j hj,kN,if_neg hd,e]
theorem G6 {m:List UInt8}{P:List (List UInt8)}{f:Nat}(h:bS m []=P++bS (m.drop m.length) ((m.take m.length).drop f)):bS m []=P++[(m.take m.length).drop f]:=by
 rw[h,List.drop_length];rfl
def nE (l:List UInt8)(w:World)(e:Ending)(w':World):Prop:=Below w.heap.size w w'∧if (kE l).2=0 then ∃ (v:Value) (q:List wZ),e=.returned (.tuple #[v,.int .i64 0])∧q.map (·.2)=(kE l).1∧RlsAt w' w.heap.size v q else e=.returned (.tuple #[.slice none 0 0,.int .i64 (kE l).2])
theorem nZ {l:List UInt8}{w w':World}{n:Int}(h:(kE l).2=n)(hn:n≠0)(hB:Below w.heap.size w w'):nE l w (.returned (.tuple #[.slice none 0 0,.int .i64 n])) w':=by
 unfold nE;rw[h,if_neg hn];exact⟨hB,rfl⟩
structure RrAt (W:World) (R:Nat) (hv:Value) (kd sc:UInt8) (P:List (List UInt8)):Prop where
 blk:W.heap[R]? = some (.cells #[hv,.int .u8 kd.toNat,.int .u8 sc.toNat] 218 (0,0))
 row:W.ownsRow (R+1) 9 1 hv P.length (bB P.reverse)
 nil:P=[]→hv=.slice none 0 0
theorem jI {W:World}{R:Nat}{hv:Value}{kd sc:UInt8}(hb:W.heap[R]? = some (.cells #[hv,.int .u8 kd.toNat,.int .u8 sc.toNat] 218 (0,0))):W.cell? ⟨R,0,none⟩=some hv∧W.cell? ⟨R,1,none⟩=some (.int .u8 kd.toNat)∧W.cell? ⟨R,2,none⟩=some (.int .u8 sc.toNat)∧W.frozen? ⟨R,0,none⟩=false:=by
 refine⟨?_,?_,?_,?_⟩
 · simp[World.cell?,hb]
 · simp[World.cell?,hb]
 · simp[World.cell?,hb]
 · simp[World.frozen?,hb]
theorem RrAt.cells {W:World}{R:Nat}{hv:Value}{kd sc:UInt8}{P:List (List UInt8)}(h:RrAt W R hv kd sc P):W.cell? ⟨R,0,none⟩=some hv∧W.cell? ⟨R,1,none⟩=some (.int .u8 kd.toNat)∧W.cell? ⟨R,2,none⟩=some (.int .u8 sc.toNat)∧W.frozen? ⟨R,0,none⟩=false:=jI h.blk
theorem RrAt.lt {W:World}{R:Nat}{hv:Value}{kd sc:UInt8}{P:List (List UInt8)}(h:RrAt W R hv kd sc P):R<W.heap.size:=(Array.getElem?_eq_some_iff.1 h.blk).1
theorem RrAt.more {W w5:World}{R:Nat}{hv:Value}{kd sc:UInt8}{P:List (List UInt8)}{o:Obj}(h:RrAt W R hv kd sc P)(hg:(W.alloc o).grownBy w5 none):RrAt w5 R hv kd sc P:=by
 refine⟨?_,eD (h.row.alloc o) hg ?_,h.nil⟩
 · have hlt:=h.lt;rw[hg.block R (by rw[World.size_alloc];omega) (by simp),((Below.refl _ W).alloc (Nat.le_refl _) o).block R hlt];exact h.blk
 · cases (hv.ownBlock) <;> simp
theorem RrAt.set {w6:World}{R:Nat}{hv hn:Value}{kd sc:UInt8}{P:List (List UInt8)}{n:Nat}{xs:List (List UInt8)}(hb:w6.heap[R]? = some (.cells #[hv,.int .u8 kd.toNat,.int .u8 sc.toNat] 218 (0,0)))(ho:w6.ownsRow (R+1) 9 1 hn n (bB xs))(hn':n=P.length)(hx:xs=P.reverse)(h0:P≠[]):RrAt (w6.setCell ⟨R,0,none⟩ hn) R hn kd sc P:=by
 subst hn' hx;refine⟨?_,ownsRow_setCell_below ho (a:=⟨R,0,none⟩) (Nat.lt_succ_self R) hn,fun h=>absurd h h0⟩;exact heap_setCell_same w6 R 0 _ _ hn hb
theorem YX {B g n c k:Nat}(h:B+1≤g)(e:(Value.slice (some ⟨g,0,none⟩) n c).ownBlock=some k):B≤k:=by
 have e':g=k:=by simpa[Value.ownBlock] using e
 omega
theorem YJ {B g n c:Nat}(h:B+1≤g):some B≠(Value.slice (some ⟨g,0,none⟩) n c).ownBlock:=fun e=>by
 have e':g=B:=by simpa[Value.ownBlock] using e.symm
 omega
theorem UA {l:List UInt8}(h:8000<l.length):(kE l).2=1:=by
 unfold kE;rw[if_pos h]
theorem OV {l:List UInt8}(h:¬ 8000<l.length)(hr:Sx.cH l=none):(kE l).2=6:=by
 unfold kE;rw[if_neg h,hr]
theorem QF {l:List UInt8}{tab:List (List Sx.aT)}(h:¬ 8000<l.length)(hr:Sx.cH l=some tab)(h30:30<(iP tab).length):(kE l).2=6:=by
 unfold kE;rw[if_neg h,hr];simp only;rw[if_pos h30]
theorem LH {l:List UInt8}{tab:List (List Sx.aT)}{k:List UInt8}(h:¬ 8000<l.length)(hr:Sx.cH l=some tab)(h30:¬ 30<(iP tab).length)(hk:k∈iP tab)(h3:k.length<3):(kE l).2=6:=by
 unfold kE;rw[if_neg h,hr];simp only;rw[if_neg h30,if_pos (List.any_eq_true.2 ⟨k,hk,by simpa using h3⟩)]
theorem LG {l:List UInt8}{tab:List (List Sx.aT)}(h:¬ 8000<l.length)(hr:Sx.cH l=some tab)(h30:¬ 30<(iP tab).length)(h3:∀ k∈iP tab,¬ k.length<3):kE l=match ((iP tab).map fun k=>fG (cC k)).foldl nY (some []) with
      | none=>([],6)
      | some ps=>if Sx.eH (Sx.aW ps)=l then ((iP tab).map cC,0) else ([],6):=by
 unfold kE;rw[if_neg h,hr];simp only;rw[if_neg h30,if_neg (by rw[List.any_eq_true];rintro⟨k,hk,h⟩;exact h3 k hk (by simpa using h))];cases ((iP tab).map fun k=>fG (cC k)).foldl nY (some []) <;> rfl
theorem RlsAt.keepL {w w':World}{B B' n g:Nat}{v lv:Value}{q:List wZ}{xs:List Value}{o:Obj}(h:RlsAt w B v q)(hl:w.ownsRow B' 9 1 lv n xs)(hlv:lv.ownBlock=some g)(hg:(w.alloc o).grownBy w' (some g))(hap:∀ x∈q,x.1.ownBlock≠some g):RlsAt w' B v q :=
 ⟨eI h.row hl (by decide) (by rw[hlv];exact hg),fun x hx=>eD ((h.hosts x hx).alloc o) hg (.inr (hap x hx))⟩
theorem N4 {k m:List UInt8}{P:List (List UInt8)}{kd sc:UInt8}(hm:k.take (k.length-2)=m)(hP:bS m []=P)(h1:k.getD (k.length-2) 0=kd)(h2:k.getD (k.length-1) 0=sc):cC k=(P.reverse,kd,sc):=by
 unfold cC;rw[hm,hP,h1,h2]
theorem AE:∀ (l cur:List UInt8),(bS l cur).length≤l.length+1
 | [],_=>by simp[bS]
 | x::r,cur=>by
   rw[kN];split
   · have:=AE r [];simp only[List.length_cons];omega
   · have:=AE r (cur++[x]);simp only[List.length_cons];omega
theorem zL (k:List UInt8)(hk:k.length≤70000):(cC k).1.length≤70001∧(∀ x∈(cC k).1,x.length≤70000)∧(Sx.bG (cC k)).length≤10000000000∧(fG (cC k)).length≤100000000000:=by
 have h1:(cC k).1.length≤70001:=by
  show((bS (k.take (k.length-2)) []).reverse).length≤70001;have:=AE (k.take (k.length-2)) [];rw[List.length_take] at this;rw[List.length_reverse];omega
 have h2:∀ x∈(cC k).1,x.length≤70000:=fun x hx=>by
  have hx':x∈bS (k.take (k.length-2)) []:=List.mem_reverse.1 hx;have:=Sx.FP _ _ _ hx';rw[List.length_take,List.length_nil] at this;omega
 have h3:=Sx.NI 70000 (cC k).1 h2;have h4:(Sx.bG (cC k)).length≤10000000000:=by
  unfold Sx.bG;rw[List.length_append];have:(cC k).1.length*(70000+1)≤70001*70001:=Nat.mul_le_mul h1 (Nat.le_refl _)
  repeat' split
  all_goals simp
  all_goals omega
 refine⟨h1,h2,h4,?_⟩;unfold fG;rw[List.length_append];simp only[List.length_cons,List.length_nil];omega
theorem X7 (l:List UInt8)(w:World):Calls Tryz.prog 153 #[.string ⟨l.toArray⟩] w (nE l w):=by
 have hIs:(⟨l.toArray⟩:ByteArray).size=l.length:=rfl;by_cases hbig:8000<l.length
 · have HN:=hide (UA hbig);have hb':(8000:Int)<(l.length:Int):=by omega
   obtain⟨I,hI⟩:∃ X:ByteArray,⟨l.toArray⟩=X:=⟨_,rfl⟩
   rw[hI] at hIs ⊢;clear hI;go_enter Tryz.func153,Tryz.ntmps153;go_wp2;go_ret2;exact nZ HN.out (by decide) (Below.refl _ _)
 · have hb':¬ (8000:Int)<(l.length:Int):=by omega
   obtain⟨i0,hi0,hz0,hz1,hz2⟩:=info_parts Tryz.info9;obtain⟨i1,hi1,hy0,hy1,hy2⟩:=info_parts Tryz.info218;have HKY:=hide (V4 l w (by omega));have HNO:=hide (fun h=>OV hbig h);have HMA:=hide (fun tab h h'=>QF (tab:=tab) hbig h h');have HSH:=hide (fun tab k h h' h2 h3=>LH (tab:=tab) (k:=k) hbig h h' h2 h3);have HAG:=hide (fun tab h h' h3=>LG (tab:=tab) hbig h h' h3);unfold lB at HKY;obtain⟨I,hI⟩:∃ X:ByteArray,⟨l.toArray⟩=X:=⟨_,rfl⟩
   rw[hI] at hIs HKY ⊢;have HI:=hide hI;clear hI hbig;go_enter Tryz.func153,Tryz.ntmps153;go_wp2_with fail
   refine HKY.out.mono ?_;rintro e w1 ⟨hB1,he⟩;have HB1:=hide hB1;clear HKY;obtain⟨o,ho⟩:∃ o,Sx.cH l=o:=⟨_,rfl⟩
   rw[ho] at he;cases o with
   | none =>
     dsimp only at he;subst he;have HN:=hide (HNO.out ho);clear hB1 ho;go_wp2;go_ret2;exact nZ HN.out (by decide) HB1.out
   | some tab =>
     obtain⟨kv,rfl,hown,hsh⟩:=he;have HM:=hide (HMA.out tab ho);have HS:=hide (fun k=>HSH.out tab k ho);have HA:=hide (HAG.out tab ho);obtain⟨ks,hks⟩:∃ q,iP tab=q:=⟨_,rfl⟩
     rw[hks] at hown hsh HM HS HA;obtain⟨kp,kc,rfl⟩:=aB hown;clear HNO HMA HSH HAG ho hks;by_cases h30:30<ks.length
     · have h30':(30:Int)<(ks.length:Int):=by omega
       have HN:=hide (HM.out h30);clear hown hsh hB1;go_wp2;go_ret2;exact nZ HN.out (by decide) HB1.out
     · have h30':¬ (30:Int)<(ks.length:Int):=by omega
       have HOWN:=hide hown;have HSHT:=hide hsh;have hsz1:=hB1.size;have HS3:=hide (fun k h h'=>HS.out k h30 h h');have HA3:=hide (HA.out h30);clear hown hsh hB1 HM HS HA;obtain⟨w2,hmk,hown2,hg2⟩:=run_make_own (P:=Tryz.prog) w1 w1.heap.size 51 9 i0 (.string ⟨#[]⟩) 1 Tryz.underlying51 hi0 hz0 hz1 .i64 .i64 0 (by omega) (by unfold maxLen;omega) (Nat.le_refl _);have hmk':(Instr.makeSlice 51 (.int .i64 0) (.int .i64 0)).run Tryz.prog w1=.ok (.slice (some ⟨w1.heap.size,0,none⟩) 0 0) w2:=by simpa using hmk
       have hB2:Below w1.heap.size w1 w2:=(Below.refl _ w1).grown hg2 (Nat.le_refl _) (fun k e=>by cases e);have HOWN2:=hide hown2;have HB2:=hide hB2;have h30d:decide ((30:Int)<(ks.length:Int))=false:=by simp;omega
       clear hmk hown2 hg2 hB2;go_wp2
       go_loopw [6,7,8] (fun rv lv iv wr=>∃ (i:Nat) (q:List wZ) (g c:Nat),iv=.int .i64 i∧lv=.slice (some ⟨g,0,none⟩) i c∧i≤ks.length∧q.map (·.2)=(ks.take i).map cC∧RlsAt wr w1.heap.size rv q∧wr.ownsRow w1.heap.size 9 1 lv i (bB ((ks.take i).map fun k=>fG (cC k)))∧(∀ x∈q,x.1.ownBlock≠some g)∧Below w1.heap.size w1 wr∧∀ k∈ks.take i,¬ k.length<3) (fun _ _ i _=>(ks.length-intOf i).toNat)
       case atStart=>exact⟨0,[],_,_,rfl,rfl,by omega,rfl,⟨World.ownsRow_nil _ _ _ _,by simp⟩,HOWN2.out,by simp,HB2.out,by simp⟩
       case round =>
        obtain⟨i,q,g,cg,rfl,rfl,hil,hqk,hat,hol,hap,hB,h3⟩:=hrel
        rename World=>wr
        have HAT:=hide hat;have HOL:=hide hol;have HAP:=hide hap;have HB:=hide hB;have H3:=hide h3;have HQK:=hide hqk;obtain⟨pr,cr,rfl⟩:=aB hat.row;have hql:q.length=i:=by have:=congrArg List.length hqk;rw[List.length_map,List.length_map,List.length_take] at this;omega
        have hszr:=hB.size;clear hat hol hap hB h3 hqk hmk' HOWN2 HB2;by_cases hi:i<ks.length
        · have hi':(i:Int)<(ks.length:Int):=by omega
          have hown:=aD HOWN.out HB.out;obtain⟨kb,kc',hkv,-,-⟩:=hown.form (by omega);simp only[Value.slice.injEq,true_and] at hkv;obtain⟨rfl,rfl⟩:=hkv;have hck:=dJ hown i hi;have hmem:=List.getElem_mem hi;have hkl:=HSHT.out ks[i] hmem;have HS4:=hide (HS3.out ks[i]);have htk:=List.take_succ_eq_append_getElem hi;obtain⟨k,hk⟩:∃ k,ks[i]=k:=⟨_,rfl⟩
          rw[hk] at hck hkl HS4 htk hmem;have HTK:=hide htk;have HMEM:=hide hmem;clear hown hk htk hmem;by_cases h3k:k.length<3
          · have h3k':(k.length:Int)<3:=by omega
            have HN:=hide (HS4.out HMEM.out h3k);have hKs:(⟨k.toArray⟩:ByteArray).size=k.length:=rfl;have HBB:=hide (HB1.out.trans (HB.out.mono hsz1));obtain⟨K,hK⟩:∃ X:ByteArray,⟨k.toArray⟩=X:=⟨_,rfl⟩
            rw[hK] at hck hKs;clear hK;go_wp2;go_ret2;exact nZ HN.out (by decide) HBB.out
          · have h3k':¬ (k.length:Int)<3:=by omega
            have hKs:(⟨k.toArray⟩:ByteArray).size=k.length:=rfl;have hgA:=oI k (k.length-2);have hgB:=oI k (k.length-1);have HGK:=hide (oI k);obtain⟨kd,hkd⟩:∃ x,k.getD (k.length-2) 0=x:=⟨_,rfl⟩
            obtain⟨sc,hsc⟩:∃ x,k.getD (k.length-1) 0=x:=⟨_,rfl⟩
            rw[hkd] at hgA;rw[hsc] at hgB;obtain⟨K,hK⟩:∃ X:ByteArray,⟨k.toArray⟩=X:=⟨_,rfl⟩
            rw[hK] at hck hKs hgA hgB HGK;have HKL:Hid (K.data.toList=k):=hide (by rw[←hK]);clear hK;have t1:((k.length:Int)-2).toNat=k.length-2:=by omega
            have t2:((k.length:Int)-1).toNat=k.length-1:=by omega
            have u1:(k.length:Int)-2<(k.length:Int):=by omega
            have u2:(k.length:Int)-1<(k.length:Int):=by omega
            have v1:(0:Int)≤(k.length:Int)-2:=by omega
            have v2:(0:Int)≤(k.length:Int)-1:=by omega
            have b1:k.length-2<K.size:=by omega
            have b2:k.length-1<K.size:=by omega
            go_wp2_with fail
            go_region
            have hru0:RrAt (wr.alloc (.cells #[.slice none 0 0,.int .u8 kd.toNat,.int .u8 sc.toNat] 218)).drew wr.heap.size (.slice none 0 0) kd sc []:=⟨heap_alloc_new _ _,World.ownsRow_nil _ _ _ _,fun _=>rfl⟩
            have hBv:Below wr.heap.size wr (wr.alloc (.cells #[.slice none 0 0,.int .u8 kd.toNat,.int .u8 sc.toNat] 218)).drew:=((Below.refl _ wr).alloc (Nat.le_refl _) _).drew;obtain⟨VR,hVR⟩:∃ V,(wr.alloc (.cells #[.slice none 0 0,.int .u8 kd.toNat,.int .u8 sc.toNat] 218)).drew=V:=⟨_,rfl⟩
            rw[hVR] at hru0 hBv ⊢;obtain⟨m,hm⟩:∃ m,k.take (k.length-2)=m:=⟨_,rfl⟩
            have hml:m.length=k.length-2:=by rw[←hm,List.length_take];omega
            have hmg:∀ j,j<k.length-2→k.getD j 0=m.getD j 0:=fun j hj=>by
             rw[←hm,List.getD_eq_getElem?_getD,List.getD_eq_getElem?_getD,List.getElem?_take_of_lt hj]
            have hmt:∀ j,j≤k.length-2→k.take j=m.take j:=fun j hj=>by
             rw[←hm,List.take_take,Nat.min_eq_left hj]
            have HMG:=hide hmg;have HMT:=hide hmt;have HML:=hide hml;have HM:=hide hm;have HRU0:=hide hru0;have HBV:=hide hBv;have HKD:=hide hkd;have HSC:=hide hsc;clear hVR hmg hmt hml hm hru0 hBv hgA hgB t1 t2 u1 u2 v1 v2 b1 b2 hkd hsc hck;go_wp2
            go_loopw [11,12] (fun fv jv W=>∃ (f j:Nat) (P:List (List UInt8)) (hv:Value),fv=.int .i64 f∧jv=.int .i64 j∧f≤j∧j≤k.length-2+1∧P.length≤j∧RrAt W wr.heap.size hv kd sc P∧Below wr.heap.size wr W∧(j≤k.length-2→bS m []=P++bS (m.drop j) ((m.take j).drop f))∧(j=k.length-2+1→bS m []=P)) (fun _ j _=>(k.length-1-intOf j).toNat)
            case atStart=>exact⟨0,0,[],_,rfl,rfl,by omega,by omega,by simp,HRU0.out,HBV.out,fun _=>rfl,fun h=>by omega⟩
            case round =>
             obtain⟨f,j,P,hv,rfl,rfl,hfj,hjn,hPj,hru,hBw,s1,s2⟩:=hrel
             rename World=>W
             have HRU:=hide hru;have HBW:=hide hBw;obtain⟨hp,hc,rfl⟩:=aB hru.row;obtain⟨d0,d1,d2,d3⟩:=hru.cells;have hRW:=hru.lt;clear hru hBw;by_cases hj:j≤k.length-2
             · have hj':(j:Int)≤(k.length:Int)-2:=by omega
               have hpc:(K.extract f j).data.toList=(m.take j).drop f:=by rw[kD,HKL.out,HMT.out j hj]
               have hs1:=s1 hj;have hcase:(j=k.length-2∨(j<k.length-2∧m.getD j 0=46))∨(j<k.length-2∧m.getD j 0≠46):=by
                by_cases h1:j=k.length-2
                · exact .inl (.inl h1)
                · by_cases h2:m.getD j 0=46
                  · exact .inl (.inr ⟨by omega,h2⟩)
                  · exact .inr ⟨by omega,h2⟩
               rcases hcase with hcase | ⟨hlt,hno⟩
               · have hnew:(j+1≤k.length-2→bS m []=(P++[(m.take j).drop f])++bS (m.drop (j+1)) ((m.take (j+1)).drop (j+1)))∧(j+1=k.length-2+1→bS m []=P++[(m.take j).drop f]):=by
                  rcases hcase with h | ⟨h,h46⟩
                  · refine⟨fun h'=>by omega,fun _=>?_⟩;have hje:j=m.length:=by rw[HML.out];exact h
                    subst hje;exact G6 hs1
                  · exact⟨fun _=>F8 (by rw[HML.out];exact h) h46 hs1,fun h'=>by omega⟩
                 have HNEW:=hide hnew;obtain⟨PC,hPC⟩:∃ X:ByteArray,K.extract f j=X:=⟨_,rfl⟩
                 obtain⟨pc,hpce⟩:∃ x,(m.take j).drop f=x:=⟨_,rfl⟩
                 rw[hPC,hpce] at hpc;rw[hpce] at HNEW;have hPCe:PC=⟨pc.toArray⟩:=by rw[←hpc]
                 subst hPCe;have hjK:j≤K.size:=by omega
                 have hfi:(f:Int)≤(j:Int):=by omega
                 have hjl:(j:Int)≤(k.length:Int):=by omega
                 have hkj:=HGK.out j;have hPl:P.length≤100000:=by omega
                 clear s1 s2 hs1 hpc hpce hnew;rcases hcase with hcase | ⟨hlt,h46⟩
                 · have hje:((j:Int) == (k.length:Int)-2)=true:=by rw[beq_iff_eq];omega
                   replace hcase:=hide hcase;go_upto_region 20 with fail
                   clear hkj hje hcase;go_upto_region 22 with (at_builtin;go_must (refine wpList_append_lies _ rfl _ _ _ rfl (wr.heap.size+1) 9 i0 (.string ⟨#[]⟩) 1 16 Tryz.underlying51 hi0 hz0 hz1 hz2 rfl (by decide) _ _ _ rfl (World.ownsRow_nil _ _ 9 1) ⟨_,0,none⟩ 1 1 [.string ⟨pc.toArray⟩] rfl rfl (cell_one_new _ _ _) (by simp[Value.oneCell']) (by omega) (by unfold maxLen;omega) (by omega) (by simp;omega) _ rfl ?_;intro g5 cap5 w5 hown5 hgrow5 hat5 hlt5))
                   have hB5:Below wr.heap.size wr w5:=(HBW.out.alloc HBW.out.size _).grown hgrow5 (by rw[World.size_alloc];omega) (fun k e=>by cases e);have hru5:RrAt w5 wr.heap.size (.slice hp P.length hc) kd sc P:=HRU.out.more hgrow5;obtain⟨d0',d1',d2',d3'⟩:=hru5.cells;have hR5:=hru5.lt;have hg5:=hown5.lt g5 rfl;have hcap5:=(bR hown5).2.2.1;have HRU5:=hide hru5;have HB5:=hide hB5;have HOWN5:=hide hown5;clear d0 d1 d2 d3 hru5 hB5 hgrow5 hat5;by_cases hP0:P=[]
                   · have hvn:Value.slice hp P.length hc=.slice none 0 0:=HRU.out.nil hP0;rw[hvn] at d0';clear hown5;go_wp2_with (at_builtin;refine aX _ rfl _ _ _ rfl 9 i0 Tryz.underlying51 hi0 _ rfl rfl (.inr ⟨_,_,_,rfl,hcap5⟩) ?_)
                     exact⟨⟨j+1,j+1,P++[pc],_,by go_num,by go_num,Nat.le_refl _,by omega,by simp;omega,RrAt.set (xs:=[pc]) HRU5.out.blk HOWN5.out (by simp[hP0]) (by simp[hP0]) (by simp),HB5.out.setCell (p:=⟨wr.heap.size,0,none⟩) (Nat.le_refl _) _,HNEW.out.1,HNEW.out.2⟩,by simp[intOf];omega⟩
                   · have hPp:0<P.length:=List.length_pos_iff.2 hP0;obtain⟨gh,ch,hvv,-,-⟩:=HRU5.out.row.form hPp;simp only[Value.slice.injEq,true_and] at hvv;obtain⟨rfl,rfl⟩:=hvv;have hnews:=HRU5.out.row.cells (g:=gh) rfl;go_wp2_with (at_builtin;go_must (refine wpList_append_lies _ rfl _ _ _ rfl (wr.heap.size+1) 9 i0 (.string ⟨#[]⟩) 1 16 Tryz.underlying51 hi0 hz0 hz1 hz2 rfl (by decide) _ _ _ rfl hown5 ⟨gh,0,none⟩ P.length hc (bB P.reverse) rfl (by simp[bB]) hnews (by simp[bB,Value.oneCell']) hPp (by unfold maxLen;omega) (by omega) (by omega) _ rfl ?_;intro g6 cap6 w6 hown6 hgrow6 hat6 hlt6;have hb6:=(hgrow6.block wr.heap.size hR5 (YJ hg5.1)).trans HRU5.out.blk;obtain⟨x0,x1,x2,x3⟩:=jI hb6))
                     exact⟨⟨j+1,j+1,P++[pc],_,by go_num,by go_num,Nat.le_refl _,by omega,by simp;omega,RrAt.set (xs:=pc::P.reverse) hb6 hown6 (by simp;omega) (by simp) (by simp),(HB5.out.grown hgrow6 (by omega) (fun k e=>YX hg5.1 e)).setCell (p:=⟨wr.heap.size,0,none⟩) (Nat.le_refl _) _,HNEW.out.1,HNEW.out.2⟩,by simp[intOf];omega⟩
                 · have hje:((j:Int) == (k.length:Int)-2)=false:=by rw[beq_eq_false_iff_ne];omega
                   rw[HMG.out j hlt,h46] at hkj;have hjK':j<K.size:=by omega
                   have hcase:=hlt;clear h46;go_upto_region 20 with fail
                   clear hkj hje hcase;go_upto_region 22 with (at_builtin;go_must (refine wpList_append_lies _ rfl _ _ _ rfl (wr.heap.size+1) 9 i0 (.string ⟨#[]⟩) 1 16 Tryz.underlying51 hi0 hz0 hz1 hz2 rfl (by decide) _ _ _ rfl (World.ownsRow_nil _ _ 9 1) ⟨_,0,none⟩ 1 1 [.string ⟨pc.toArray⟩] rfl rfl (cell_one_new _ _ _) (by simp[Value.oneCell']) (by omega) (by unfold maxLen;omega) (by omega) (by simp;omega) _ rfl ?_;intro g5 cap5 w5 hown5 hgrow5 hat5 hlt5))
                   have hB5:Below wr.heap.size wr w5:=(HBW.out.alloc HBW.out.size _).grown hgrow5 (by rw[World.size_alloc];omega) (fun k e=>by cases e);have hru5:RrAt w5 wr.heap.size (.slice hp P.length hc) kd sc P:=HRU.out.more hgrow5;obtain⟨d0',d1',d2',d3'⟩:=hru5.cells;have hR5:=hru5.lt;have hg5:=hown5.lt g5 rfl;have hcap5:=(bR hown5).2.2.1;have HRU5:=hide hru5;have HB5:=hide hB5;have HOWN5:=hide hown5;clear d0 d1 d2 d3 hru5 hB5 hgrow5 hat5;by_cases hP0:P=[]
                   · have hvn:Value.slice hp P.length hc=.slice none 0 0:=HRU.out.nil hP0;rw[hvn] at d0';clear hown5;go_wp2_with (at_builtin;refine aX _ rfl _ _ _ rfl 9 i0 Tryz.underlying51 hi0 _ rfl rfl (.inr ⟨_,_,_,rfl,hcap5⟩) ?_)
                     exact⟨⟨j+1,j+1,P++[pc],_,by go_num,by go_num,Nat.le_refl _,by omega,by simp;omega,RrAt.set (xs:=[pc]) HRU5.out.blk HOWN5.out (by simp[hP0]) (by simp[hP0]) (by simp),HB5.out.setCell (p:=⟨wr.heap.size,0,none⟩) (Nat.le_refl _) _,HNEW.out.1,HNEW.out.2⟩,by simp[intOf];omega⟩
                   · have hPp:0<P.length:=List.length_pos_iff.2 hP0;obtain⟨gh,ch,hvv,-,-⟩:=HRU5.out.row.form hPp;simp only[Value.slice.injEq,true_and] at hvv;obtain⟨rfl,rfl⟩:=hvv;have hnews:=HRU5.out.row.cells (g:=gh) rfl;go_wp2_with (at_builtin;go_must (refine wpList_append_lies _ rfl _ _ _ rfl (wr.heap.size+1) 9 i0 (.string ⟨#[]⟩) 1 16 Tryz.underlying51 hi0 hz0 hz1 hz2 rfl (by decide) _ _ _ rfl hown5 ⟨gh,0,none⟩ P.length hc (bB P.reverse) rfl (by simp[bB]) hnews (by simp[bB,Value.oneCell']) hPp (by unfold maxLen;omega) (by omega) (by omega) _ rfl ?_;intro g6 cap6 w6 hown6 hgrow6 hat6 hlt6;have hb6:=(hgrow6.block wr.heap.size hR5 (YJ hg5.1)).trans HRU5.out.blk;obtain⟨x0,x1,x2,x3⟩:=jI hb6))
                     exact⟨⟨j+1,j+1,P++[pc],_,by go_num,by go_num,Nat.le_refl _,by omega,by simp;omega,RrAt.set (xs:=pc::P.reverse) hb6 hown6 (by simp;omega) (by simp) (by simp),(HB5.out.grown hgrow6 (by omega) (fun k e=>YX hg5.1 e)).setCell (p:=⟨wr.heap.size,0,none⟩) (Nat.le_refl _) _,HNEW.out.1,HNEW.out.2⟩,by simp[intOf];omega⟩
               · have hkj:=(HGK.out j)
                 rw[HMG.out j hlt] at hkj;obtain⟨y,hy⟩:∃ y,m.getD j 0=y:=⟨_,rfl⟩
                 have HS1:=hide (P5 (by rw[HML.out];exact hlt) hfj hno hs1);rw[hy] at hkj hno;have hy46:((y.toNat:Int) == 46)=false:=by
                  rw[beq_eq_false_iff_ne];intro e;exact hno (UInt8.toNat_inj.1 (by show y.toNat=46;omega))
                 have hje:((j:Int) == (k.length:Int)-2)=false:=by rw[beq_eq_false_iff_ne];omega
                 have hjK:j<K.size:=by omega
                 clear s1 s2 hs1 hy hpc hno d0 d1 d2 d3;go_wp2;exact⟨⟨f,j+1,P,_,rfl,by go_num,by omega,by omega,by omega,HRU.out,HBW.out,fun _=>HS1.out,fun h=>by omega⟩,by simp[intOf];omega⟩
             · have hje:j=k.length-2+1:=by omega
               have hnj:¬ (j:Int)≤(k.length:Int)-2:=by omega
               have hrk:=N4 HM.out (s2 hje) HKD.out HSC.out;obtain⟨m1,m2,m3,-⟩:=zL k hkl;rw[hrk] at m1 m2 m3;dsimp only at m1 m2;have hatW:RlsAt W w1.heap.size (.slice pr i cr) q:=by have:=HAT.out.below HBW.out;rw[hql] at this;exact this
               have hrowW:=hatW.row;rw[hql] at hrowW;have holW:=aD HOL.out HBW.out;have hgl:=HOL.out.lt g rfl;have hprl:∀ x,(Value.slice pr i cr).ownBlock=some x→x<wr.heap.size:=fun x e=>(by have h:=HAT.out.row;rw[hql] at h;exact(h.lt x e).2);have hru:=HRU.out;have hhW:W.ownsRow w1.heap.size 9 1 (.slice hp P.length hc) (P.reverse).length (bB P.reverse):=by rw[List.length_reverse];exact jU hru.row (by omega)
               have hhlt:∀ x,(Value.slice hp P.length hc).ownBlock=some x→wr.heap.size+1≤x∧x<W.heap.size:=fun x e=>hru.row.lt x e;have hBW:=HBW.out;have hcv:∀ V:World,(convert 90 9 (.slice (some ⟨V.heap.size,0,none⟩) 1 1)).run Tryz.prog (V.alloc (.cells #[.int .u8 sc.toNat] 5))=.ok (.string ⟨[sc].toArray⟩) (V.alloc (.cells #[.int .u8 sc.toNat] 5)):=fun V=>pT (by rw[World.cell?_alloc_mark];rfl);have hs1:(⟨#[61,61,61]⟩:ByteArray)++⟨[sc].toArray⟩=⟨([61,61,61]++[sc]).toArray⟩:=bF [61,61,61] [sc];have hs2:(⟨([61,61,61]++[sc]).toArray⟩:ByteArray)++⟨#[10]⟩=⟨([61,61,61]++[sc]++[10]).toArray⟩:=bF ([61,61,61]++[sc]) [10];have hs3:(⟨([61,61,61]++[sc]++[10]).toArray⟩:ByteArray)++⟨(Sx.bG (P.reverse,kd,sc)).toArray⟩=⟨(fG (P.reverse,kd,sc)).toArray⟩:=bF _ _;have HLN:Hid (∀ V,V.ownsRow w1.heap.size 9 1 (.slice hp P.length hc) (P.reverse).length (bB P.reverse)→Calls Tryz.prog 154 #[.agg #[.slice hp P.length hc,.int .u8 kd.toNat,.int .u8 sc.toNat]] V fun e w'=>e=.returned (.string ⟨(Sx.bG (P.reverse,kd,sc)).toArray⟩)∧Below V.heap.size V w'):=hide (fun V hV=>yQ (P.reverse,kd,sc) w1.heap.size _ V (by show P.reverse.length≤100000;omega) (fun x hx=>by have:=m2 x hx;omega) hV);have hq1:(⟨[sc].toArray⟩:ByteArray).size≤10:=by show 1≤10;omega
               have hq2:(⟨([61,61,61]++[sc]).toArray⟩:ByteArray).size≤10:=by show 4≤10;omega
               have hq3:(⟨([61,61,61]++[sc]++[10]).toArray⟩:ByteArray).size≤10:=by show 5≤10;omega
               have hq4:(⟨(Sx.bG (P.reverse,kd,sc)).toArray⟩:ByteArray).size≤10000000000:=m3;have hlk:bB ((ks.take (i+1)).map fun k=>fG (cC k))=bB ((ks.take i).map fun k=>fG (cC k))++[.string ⟨(fG (P.reverse,kd,sc)).toArray⟩]:=by
                rw[HTK.out,List.map_append,gB,List.map_singleton,hrk];rfl
               have HLK:=hide hlk;have hqk2:(q++[((.slice hp P.length hc:Value),(P.reverse,kd,sc))]).map (·.2)=(ks.take (i+1)).map cC:=by
                rw[HTK.out,List.map_append,List.map_append,HQK.out,List.map_singleton,List.map_singleton,hrk]
               have HQK2:=hide hqk2;have h3k2:∀ k'∈ks.take (i+1),¬ k'.length<3:=fun k' hk'=>by
                rw[HTK.out] at hk';rcases List.mem_append.1 hk' with h | h
                · exact H3.out k' h
                · rw[List.mem_singleton.1 h];exact h3k
               have HH3:=hide h3k2;obtain⟨SC,hSC⟩:∃ X:ByteArray,⟨[sc].toArray⟩=X:=⟨_,rfl⟩
               obtain⟨S1,hS1⟩:∃ X:ByteArray,⟨([61,61,61]++[sc]).toArray⟩=X:=⟨_,rfl⟩
               obtain⟨S2,hS2⟩:∃ X:ByteArray,⟨([61,61,61]++[sc]++[10]).toArray⟩=X:=⟨_,rfl⟩
               obtain⟨LN,hLN⟩:∃ X:ByteArray,⟨(Sx.bG (P.reverse,kd,sc)).toArray⟩=X:=⟨_,rfl⟩
               obtain⟨LS,hLS⟩:∃ X:ByteArray,⟨(fG (P.reverse,kd,sc)).toArray⟩=X:=⟨_,rfl⟩
               rw[hSC] at hcv hs1 hq1;rw[hS1] at hs1 hs2 hq2;rw[hS2] at hs2 hs3 hq3;rw[hLN] at hs3 HLN hq4;rw[hLS] at hs3 HLK;have hRW':=hru.lt;have HRB:=hide hru.blk;clear hSC hS1 hS2 hLN hLS hlk hqk2 h3k2 m1 m2 m3 s1 s2 hrk hje hru hfj hjn hPj hj;have hqi:q.length+1=i+1:=by omega
               have HQL:=hide hql;clear hql hqi;go_upto_region 26 with (at_builtin;go_must (refine wpList_append_lies _ rfl _ _ _ rfl w1.heap.size 218 i1 (.agg #[.slice none 0 0,.int .u8 0,.int .u8 0]) 3 32 Tryz.underlying211 hi1 hy0 hy1 hy2 rfl (by decide) _ _ _ rfl (hrowW.alloc _) ⟨_,0,none⟩ 1 1 [.slice hp P.length hc,.int .u8 kd.toNat,.int .u8 sc.toNat] rfl rfl (sC _ _ _ _ _) (by simp[Value.oneCell']) (by omega) (by unfold maxLen;omega) (by omega) (by simp;omega) _ rfl ?_;intro g5 cap5 w5 hown5 hgrow5 hat5 hlt5))
               have hat5:=uG (r:=(P.reverse,kd,sc)) hatW hhW hgrow5 (by have:=HQL.out;omega) hown5;have hol5:=eI holW hrowW (by decide) hgrow5;have hh5:=eI hhW hrowW (by decide) hgrow5;have hb5:=(hgrow5.block wr.heap.size (by rw[World.size_alloc];omega) (fun e=>by have:=hprl _ e.symm;omega)).trans ((((Below.refl _ W).alloc (Nat.le_refl _) _).block wr.heap.size hRW').trans HRB.out);obtain⟨x0,x1,x2,-⟩:=jI hb5;have hB5:Below w1.heap.size w1 w5:=aH (HB.out.trans (hBW.mono hszr)) (by omega) hrowW hgrow5;have hs55:=hgrow5.size;rw[World.size_alloc] at hs55;have HAT5:=hide hat5;have HOL5:=hide hol5;have HH5:=hide hh5;have HB5:=hide hB5;have HBK5:=hide hb5;clear hatW hrowW holW hhW hgrow5 hown5 d0 d1 d2 d3 hat5 hol5 hh5 hB5 hb5;go_upto_region 27 with fail
               have hBz:Below w5.heap.size w5 (w5.alloc (.cells #[.int .u8 sc.toNat] 5)):=(Below.refl _ w5).alloc (Nat.le_refl _) _;obtain⟨V6,hV6⟩:∃ V,w5.alloc (.cells #[.int .u8 sc.toNat] 5)=V:=⟨_,rfl⟩
               rw[hV6] at hBz ⊢;obtain⟨y0,y1,y2,-⟩:=jI ((hBz.block wr.heap.size (by omega)).trans HBK5.out);have HLC:=hide (HLN.out V6 (aD HH5.out hBz));have HBZ:=hide hBz;clear hV6 hBz x0 x1 x2 hcv hs1 hs2 HLN;go_wp2_with fail
               refine HLC.out.mono ?_;rintro e w7 ⟨rfl,hB7⟩;have hB57:Below w5.heap.size w5 w7:=HBZ.out.trans (hB7.mono HBZ.out.size);have hs57:=hB57.size;have hat7:=HAT5.out.below hB57;have hol7:=aD HOL5.out hB57;have hB17:Below w1.heap.size w1 w7:=HB5.out.trans (hB57.mono HB5.out.size);have HAT7:=hide hat7;have HB17:=hide hB17;clear hB7 hB57 hat7 hB17 HLC y0 y1 y2 HAT5 HOL5 HH5 HB5 HBK5 HBZ;go_wp2_with (at_builtin;go_must (refine wpList_append_lies _ rfl _ _ _ rfl w1.heap.size 9 i0 (.string ⟨#[]⟩) 1 16 Tryz.underlying51 hi0 hz0 hz1 hz2 rfl (by decide) _ _ _ rfl (hol7.alloc _) ⟨_,0,none⟩ 1 1 [.string LS] rfl rfl (cell_one_new _ _ _) (by simp[Value.oneCell']) (by omega) (by unfold maxLen;omega) (by omega) (by simp;omega) _ rfl ?_;intro g9 cap9 w9 hown9 hgrow9 hat9 hlt9))
               have hapq:∀ x∈q++[((.slice hp P.length hc:Value),(P.reverse,kd,sc))],x.1.ownBlock≠some g:=fun x hx=>by
                rcases List.mem_append.1 hx with h | h
                · exact HAP.out x h
                · rw[List.mem_singleton.1 h];intro e;have:=hhlt g e;omega
               have hat9':=HAT7.out.keepL hol7 rfl hgrow9 hapq;refine⟨⟨i+1,_,g9,cap9,by go_num,rfl,by omega,HQK2.out,hat9',by rw[HLK.out];exact hown9,?_,aH HB17.out (by omega) hol7 hgrow9,HH3.out⟩,by simp[intOf];omega⟩;rcases hat9 with h | h
               · have h':(Value.slice (some ⟨g,0,none⟩) i cg).ownBlock=some g9:=h;have hgg:g=g9:=by simpa[Value.ownBlock] using h'
                 subst hgg;exact hapq
               · intro x hx e;have:=((HAT7.out.hosts x hx).lt g9 e).2;rw[World.size_alloc] at h;omega
        · obtain rfl:i=ks.length:=by omega
          have hni:¬ (ks.length:Int)<(ks.length:Int):=by omega
          have htk:ks.take ks.length=ks:=List.take_length;have hqk:=HQK.out;have hol:=HOL.out;have h3:=H3.out;rw[htk] at hqk hol h3;have hA:=HA3.out h3;obtain⟨-,-,hcg,-,-,hgw,hcl⟩:=bR hol;have HAGN:=hide (N6 (ks.map fun k=>fG (cC k)) g cg wr hgw (by rw[List.length_map];exact hcg) (fun j hj=>by
           have:=hcl j (by simpa[bB] using hj)
           simpa[bB] using this) (by rw[List.length_map];omega) (fun x hx=>by
           obtain⟨k,hk,rfl⟩:=List.mem_map.1 hx;exact(zL k (HSHT.out k hk)).2.2.2))
          rw[List.length_map] at HAGN;unfold vQ at HAGN;have HBB:=hide (HB1.out.trans (HB.out.mono hsz1));have HQF:=hide hqk;obtain⟨o,ho⟩:∃ o,(ks.map fun k=>fG (cC k)).foldl nY (some [])=o:=⟨_,rfl⟩
          rw[ho] at HAGN hA;have HA4:=hide hA;clear htk hqk hol h3 hA hcl hcg hgw ho hql;go_wp2_with fail
          refine HAGN.out.mono ?_;rintro e w7 ⟨hB7,he⟩;have HB7:=hide (HBB.out.trans (hB7.mono HBB.out.size));cases o with
          | none =>
            obtain⟨mm,hmm,rfl⟩:=he;have hm0:(mm != 0)=true:=by simp[hmm]
            have hN:(kE l).2=6:=by rw[HA4.out]
            have HN:=hide hN;clear hmm hN hB7;go_wp2;go_ret2;exact nZ HN.out (by decide) HB7.out
          | some ps =>
            dsimp only at he;subst he;have hA5:=HA4.out;dsimp only at hA5;have hcmp:((⟨(Sx.eH (Sx.aW ps)).toArray⟩:ByteArray).toList == I.toList)=decide (Sx.eH (Sx.aW ps)=l):=by rw[←HI.out];exact j9
            obtain⟨IM,hIM⟩:∃ X:ByteArray,⟨(Sx.eH (Sx.aW ps)).toArray⟩=X:=⟨_,rfl⟩
            rw[hIM] at hcmp ⊢;by_cases hE:Sx.eH (Sx.aW ps)=l
            · rw[if_pos hE] at hA5;rw[decide_eq_true hE] at hcmp;have HA6:=hide hA5;have HAT7:=hide (HAT.out.below hB7);clear hA5 hE hIM hB7;go_wp2;go_ret2;unfold nE;rw[HA6.out,if_pos rfl];refine⟨HB7.out,_,q,rfl,HQF.out,?_⟩;have h9:=HAT7.out;exact⟨jU h9.row hsz1,fun x hx=>jU (h9.hosts x hx) hsz1⟩
            · rw[if_neg hE] at hA5;rw[decide_eq_false hE] at hcmp;have hN:(kE l).2=6:=by rw[hA5]
              have HN:=hide hN;clear hA5 hE hIM hB7 hN;go_wp2;go_ret2;exact nZ HN.out (by decide) HB7.out
theorem Y4 (q:List wZ)(h:List (List UInt8))(B B1 b1 c1:Nat)(v:Value)(w:World)(hl:h.length≤1000)(hq:q.length≤1000)(hat:RlsAt w B v q)(hne:∀ x∈q,x.2.1≠[]∧x.2.1.length≤1000)(ho:w.ownsRow B1 9 1 (.slice (some ⟨b1,0,none⟩) h.length c1) h.length (bB h))(hn:(Sx.cL h (q.map (·.2))).1≤2000) :
 Calls Tryz.prog 156 #[v,.slice (some ⟨b1,0,none⟩) h.length c1] w fun e w'=>Below w.heap.size w w'∧((h.length≤(Sx.cL h (q.map (·.2))).1∧e=.returned (.slice none 0 0))∨((Sx.cL h (q.map (·.2))).1<h.length∧∃ c,e=.returned (.slice (some ⟨b1,h.length-(Sx.cL h (q.map (·.2))).1-1,none⟩) ((Sx.cL h (q.map (·.2))).1+1) c))):=by
 have hcap:h.length≤c1:=(bR ho).2.2.1;have hp:=O0 q h B B1 b1 c1 v w hl hq hat hne ho;obtain⟨n,hnn⟩:∃ n,(Sx.cL h (q.map (·.2))).1=n:=⟨_,rfl⟩
 rw[hnn] at hp hn ⊢;have HP:=hide hp;clear hat hne ho hp hnn;go_enter Tryz.func156,Tryz.ntmps156;go_wp2_with fail
 refine HP.out.mono ?_;rintro e w1 ⟨rfl,hB⟩;by_cases hle:h.length≤n
 · have hli:(h.length:Int)≤(n:Int):=by omega
   go_wp2;go_ret;exact⟨hB,.inl ⟨hle,rfl⟩⟩
 · have hli:¬ (h.length:Int)≤(n:Int):=by omega
   obtain⟨o,ho⟩:∃ o,h.length-n-1=o:=⟨_,rfl⟩
   have hoi:(h.length:Int)-(n:Int)-1=(o:Int):=by omega
   have HO:=hide ho;have hoc:¬ c1=o:=by omega
   have hol:h.length-o=n+1:=by omega
   clear ho;go_wp2;go_ret;exact⟨hB,.inr ⟨by omega,c1-o,by rw[HO.out];rfl⟩⟩
theorem rV (h:List (List UInt8))(b off cap:Nat)(w:World)(hl:h.length≤100000)(hx:∀ x∈h,x.length≤100000)(ho:∀ j (hj:j<h.length),w.cell? ⟨b,off+j,none⟩=some (.string ⟨h[j].toArray⟩)) :
 Calls Tryz.prog 148 #[.slice (some ⟨b,off,none⟩) h.length cap] w fun e w'=>e=.returned (.string ⟨(Sx.aA h).toArray⟩)∧w'=w:=by
 have HO:=hide ho;have HX:=hide hx;clear ho hx;go_enter Tryz.func148,Tryz.ntmps148;go_wp2
 go_loop [3,4] (fun s i=>∃ (k:Nat) (p:List UInt8),s=.string ⟨p.toArray⟩∧i=.int .i64 k∧k≤h.length∧p.length≤100001*k∧Sx.aA (h.take k)=p) (fun _ i=>(h.length-intOf i).toNat)
 case atStart=>exact⟨0,[],rfl,rfl,by omega,by simp,rfl⟩
 case round =>
  obtain⟨k,p,rfl,rfl,hk,hp,hd⟩:=hrel;have HD:=hide hd;clear hd;by_cases hlt:k<h.length
  · have hc:=HO.out k hlt;have hxk:=HX.out h[k] (List.getElem_mem hlt);have hdt:=jS h k hlt;obtain⟨x,hxe⟩:∃ x,h[k]=x:=⟨_,rfl⟩
    rw[hxe] at hc hxk hdt;rw[HD.out] at hdt;have HDT:=hide hdt;clear hdt hxe;by_cases h0:k=0
    · subst h0;rw[Nat.add_zero] at hc;have hp0:p=[]:=List.eq_nil_of_length_eq_zero (by omega);subst hp0;go_wp2;rw[show(#[] : Array UInt8)=([] : List UInt8).toArray from rfl,bF];exact⟨⟨1,x,by simp,rfl,by omega,by omega,by rw[HDT.out];simp⟩,by simp[intOf];omega⟩
    · have hgt:(0:Int)<(k:Int):=by omega
      go_wp2;rw[show(#[46] : Array UInt8)=[46].toArray from rfl,bF,bF];exact⟨⟨k+1,_,rfl,by go_num,by omega,by simp;omega,by rw[HDT.out,if_neg h0]⟩,by simp[intOf];omega⟩
  · have hk2:h.take k=h:=List.take_of_length_le (by omega);have HK:=hide hk2;clear hk2;go_wp2;go_ret;exact⟨gV (by rw[←HD.out,HK.out]),rfl⟩
theorem yS (rs:List Sx.Rl)(s:UInt8)(k:Nat)(h:k<rs.length):joinL (dP (rs.take (k+1)) s)=joinL (dP (rs.take k) s)++if rs[k].2.2=s then Sx.bG rs[k]++[10] else []:=by
 unfold dP joinL;rw[List.take_succ_eq_append_getElem h,List.filter_append,List.map_append,List.flatMap_append];congr 1;by_cases e:rs[k].2.2=s
 · rw[if_pos e];simp[e]
 · rw[if_neg e];simp[e]
theorem WJ {r:Sx.Rl}(h:Sx.RlRt r):(Sx.bG r).length≤62:=by
 have h2:=Sx.pW h.ok.1;unfold Sx.bG;rw[List.length_append]
 repeat' split
 all_goals simp
 all_goals omega
theorem A7 (rs:List Sx.Rl):BK rs=joinL (dP rs 105)++(if joinL (dP rs 112)=[] then joinL (dP rs 112) else [61,61,61,112,10]++joinL (dP rs 112)):=by
 unfold BK;congr 1;cases h:dP rs 112 with
 | nil=>simp[joinL]
 | cons x l =>
   rw[if_neg (by simp),if_neg (by simp[joinL])];simp[joinL]
theorem JK (l:List UInt8)(w:World):Calls Tryz.prog 153 #[.string ⟨l.toArray⟩] w fun e w'=>Below w.heap.size w w'∧if (eW l).2=0 then ∃ (v:Value) (q:List wZ),e=.returned (.tuple #[v,.int .i64 0])∧q.map (·.2)=(eW l).1∧RlsAt w' w.heap.size v q else e=.returned (.tuple #[.slice none 0 0,.int .i64 (eW l).2]):=by
 have h:=X7 l w;unfold nE at h;rw[o8] at h;exact h
theorem P7 (l:List UInt8)(w:World):Calls Tryz.prog 105 #[.string ⟨l.toArray⟩] w fun e w'=>e=.returned (.tuple #[.string ⟨(I3 l).1.toArray⟩,.int .i64 (I3 l).2])∧Below w.heap.size w w':=by
 have HOP:=hide (JK l w);have hrt:(eW l).2=0→Sx.RlsRt (eW l).1:=fun h=>(rZ h).2.rt;obtain⟨I,hI⟩:∃ X:ByteArray,⟨l.toArray⟩=X:=⟨_,rfl⟩
 rw[hI] at HOP ⊢;clear hI;unfold I3;obtain⟨⟨rs,n⟩,ho⟩:∃ x,eW l=x:=⟨_,rfl⟩
 rw[ho] at HOP hrt ⊢;dsimp only at HOP hrt ⊢;clear ho;by_cases h0:n=0
 · subst h0;rw[if_pos rfl];dsimp only;have hout:=A7 rs;have HRT:=hide (hrt rfl);clear hrt;go_enter Tryz.func105,Tryz.ntmps105;go_wp2_with fail
   refine HOP.out.mono ?_;rintro e w1 ⟨hB1,he⟩;simp only[if_true] at he;obtain⟨v,q,rfl,hq,hat⟩:=he;obtain⟨pr,cr,rfl⟩:=aB hat.row;have HAT:=hide hat;have HB1:=hide hB1;have HQ:=hide hq;have hql:q.length=rs.length:=by rw[←hq,List.length_map]
   have hq30:q.length≤30:=by have:=HRT.out.many;omega
   have HQL:=hide hql;have HOUT:=hide hout;have hsz:=hB1.size;clear hat hB1 hq hql hout HOP;go_wp2
   go_loopw [6,7,8] (fun av bv iv wr=>∃ (i:Nat) (A B:ByteArray),av=.string A∧bv=.string B∧iv=.int .i64 i∧i≤q.length∧A.data.toList=joinL (dP (rs.take i) 105)∧B.data.toList=joinL (dP (rs.take i) 112)∧A.size≤63*i∧B.size≤63*i∧Below w1.heap.size w1 wr) (fun _ _ i _=>(q.length-intOf i).toNat)
   case atStart=>exact⟨0,⟨#[]⟩,⟨#[]⟩,rfl,rfl,rfl,by omega,by simp[joinL,dP],by simp[joinL,dP],by show 0≤0;omega,by show 0≤0;omega,Below.refl _ _⟩
   case round =>
    obtain⟨i,A,B,rfl,rfl,rfl,hi,hA,hB,hAs,hBs,hBw⟩:=hrel
    rename World=>wr
    have HA:=hide hA;have HB:=hide hB;have HBW:=hide hBw;have hat:=HAT.out.below hBw;clear hA hB hBw;by_cases hlt:i<q.length
    · have hlt':(i:Int)<(q.length:Int):=by omega
      have hir:i<rs.length:=by have:=HQL.out;omega
      obtain⟨g,c',hv,-,-⟩:=hat.row.form (by omega);simp only[Value.slice.injEq,true_and] at hv;obtain⟨rfl,rfl⟩:=hv;obtain⟨k1,k2,k3⟩:=hat.cells i hlt;have hqi:q[i].2=rs[i]:=by
       have h1:(q.map (·.2))[i]'(by rw[List.length_map];exact hlt)=rs[i]:=by simp only[HQ.out]
       rw[List.getElem_map] at h1;exact h1
      have hrr:=HRT.out.ok rs[i] (List.getElem_mem hir);have hll:=WJ hrr;have hh:=hat.hosts q[i] (List.getElem_mem hlt);have n1:=yS rs 105 i hir;have n2:=yS rs 112 i hir;rw[←HA.out] at n1;rw[←HB.out] at n2;obtain⟨r,hr⟩:∃ r,rs[i]=r:=⟨_,rfl⟩
      rw[hr] at hqi hrr hll n1 n2;obtain⟨⟨hv,r'⟩,hqe⟩:∃ x,q[i]=x:=⟨_,rfl⟩
      rw[hqe] at k1 k2 k3 hh hqi;dsimp only at k1 k2 k3 hh hqi;subst hqi;have hl1:r'.1.length≤6:=hrr.ok.1.2.1;have hl2:Sx.aM r'.1≤61:=hrr.ok.1.2.2.1;have HLN:=hide (yQ r' _ hv wr (by omega) (fun x hx=>by have:=eZ r'.1 x hx;omega) hh);obtain⟨ph,ch,hph⟩:=aB hh;subst hph;have hsec:=hrr.2.2.2;obtain⟨LN,hLN⟩:∃ X:ByteArray,⟨(Sx.bG r').toArray⟩=X:=⟨_,rfl⟩
      have hLl:LN.data.toList=Sx.bG r':=by rw[←hLN]
      have hLs:LN.size≤62:=by rw[←aC,hLl];exact hll
      rw[hLN] at HLN;have HN1:=hide n1;have HN2:=hide n2;have HLL:=hide hLl;obtain⟨rh,rk,rsec⟩:=r';dsimp only at k1 k2 k3 hsec HLN;clear n1 n2 hr hqe hrr hll hl1 hl2 hLN hLl hh hat;rcases hsec with rfl | rfl
      · go_wp2_with fail
        refine HLN.out.mono ?_;rintro e w2 ⟨rfl,hB2⟩;have HB2:=hide (HBW.out.trans (hB2.mono HBW.out.size));clear hB2 k1 k2 k3;go_wp2;refine⟨⟨i+1,_,_,rfl,rfl,by go_num,by omega,?_,?_,?_,by omega,HB2.out⟩,by simp[intOf];omega⟩
        · rw[HN1.out];simp[ByteArray.data_append,HLL.out]
        · rw[HN2.out,if_neg (by decide)];simp
        · simp only[ByteArray.size_append];show A.size+LN.size+1≤_;omega
      · go_wp2_with fail
        refine HLN.out.mono ?_;rintro e w2 ⟨rfl,hB2⟩;have HB2:=hide (HBW.out.trans (hB2.mono HBW.out.size));clear hB2 k1 k2 k3;go_wp2;refine⟨⟨i+1,_,_,rfl,rfl,by go_num,by omega,?_,?_,by omega,?_,HB2.out⟩,by simp[intOf];omega⟩
        · rw[HN1.out,if_neg (by decide)];simp
        · rw[HN2.out];simp[ByteArray.data_append,HLL.out]
        · simp only[ByteArray.size_append];show B.size+LN.size+1≤_;omega
    · have hni:¬ (i:Int)<(q.length:Int):=by omega
      have hir:rs.take i=rs:=List.take_of_length_le (by have:=HQL.out;omega);have hA:=HA.out;have hB:=HB.out;rw[hir] at hA hB;have hfin:BK rs=A.data.toList++(if B.data.toList=[] then B.data.toList else [61,61,61,112,10]++B.data.toList):=by rw[HOUT.out,hA,hB]
      have HFIN:=hide hfin;have HBB:=hide (HB1.out.trans (HBW.out.mono hsz));clear hA hB hfin hir hlt;by_cases hBe:B.data.toList=[]
      · have hbe:B.toList.isEmpty=true:=by rw[ByteArray.toList_eq,hBe];rfl
        have hfn:=HFIN.out;rw[if_pos hBe] at hfn;have HF2:Hid (BK rs=(A++B).data.toList):=hide (by rw[hfn];simp[ByteArray.data_append]);clear hBe hfn;go_wp2;go_ret2;have e9:=HF2.out;exact⟨by rw[e9,Array.toArray_toList];rfl,HBB.out⟩
      · have hbe:B.toList.isEmpty=false:=by rw[ByteArray.toList_eq,List.isEmpty_eq_false_iff];exact hBe
        have hfn:=HFIN.out;rw[if_neg hBe] at hfn;have HF2:Hid (BK rs=(A++((⟨#[61,61,61,112,10]⟩:ByteArray)++B)).data.toList):=hide (by rw[hfn];simp[ByteArray.data_append]);clear hBe hfn;go_wp2;go_ret2;have e9:=HF2.out;exact⟨by rw[e9,Array.toArray_toList];rfl,HBB.out⟩
 · rw[if_neg h0];have hn0:(n != 0)=true:=by simp[h0]
   have H0:=hide h0;clear hrt h0;go_enter Tryz.func105,Tryz.ntmps105;go_wp2_with fail
   refine HOP.out.mono ?_;rintro e w1 ⟨hB1,he⟩;rw[if_neg H0.out] at he;subst he;have HB1:=hide hB1;clear hB1;go_wp2;go_ret2;exact⟨rfl,HB1.out⟩
theorem U2 (l:List UInt8)(t:ByteArray)(w:World):Calls Tryz.prog 106 #[.string ⟨l.toArray⟩,.string t] w fun e w'=>e=.returned (.tuple #[.string ⟨(GH l t.data.toList).1.toArray⟩,.string ⟨(GH l t.data.toList).2.1.toArray⟩,.string ⟨(GH l t.data.toList).2.2.1.toArray⟩,.int .i64 (GH l t.data.toList).2.2.2])∧Below w.heap.size w w':=by
 have HOP:=hide (JK l w);have hrt:(eW l).2=0→Sx.RlsRt (eW l).1∧Sx.eH (Sx.aW (eW l).1)=l:=fun h=>⟨(rZ h).2.rt,(rZ h).2.is⟩;have HHO:=hide (fun W=>dR t W);unfold nF at HHO;obtain⟨I,hI⟩:∃ X:ByteArray,⟨l.toArray⟩=X:=⟨_,rfl⟩
 rw[hI] at HOP ⊢;clear hI;by_cases h0:(eW l).2=0
 · obtain⟨hr1,hr2⟩:=hrt h0;by_cases hh:(Sx.aI t.data.toList).2=0
   · obtain⟨e1,e2,e3⟩:=D4 hr1 hh;rw[hr2] at e1;rw[e1];dsimp only;have hok:=Sx.gX t.data.toList hh;rw[hh] at HHO;obtain⟨H,hH⟩:∃ x,(Sx.aI t.data.toList).1=x:=⟨_,rfl⟩
     rw[hH] at hok e2 e3 HHO ⊢;obtain⟨rs,hrs⟩:∃ x,(eW l).1=x:=⟨_,rfl⟩
     rw[hrs] at hr1 e2 e3 HOP ⊢;have HPB:=hide (fun q b1 c1 v W hl hq hat hne ho=>O0 q H w.heap.size w.heap.size b1 c1 v W hl hq hat hne ho);have HDO:=hide (fun q b1 c1 v W hl hq hat hne ho hn=>Y4 q H w.heap.size w.heap.size b1 c1 v W hl hq hat hne ho hn);have H0:=hide h0;have HR1:=hide hr1;have hHl:H.length≤6:=hok.2.1;have hHp:0<H.length:=List.length_pos_iff.2 hok.1;have hHx:∀ x∈H,x.length≤100000:=fun x hx=>by have h1:=eZ H x hx;have h2:=hok.2.2.1;omega
     have HHX:=hide hHx;clear e1 hr2 hrt h0 hh hok hH hrs hr1 hHx;obtain⟨sec,hsec⟩:∃ x,(Sx.cL H rs).2=x:=⟨_,rfl⟩
     obtain⟨n,hn⟩:∃ x,(Sx.cL H rs).1=x:=⟨_,rfl⟩
     rw[hn] at e2 e3;rw[hn,hsec];have HSEC:=hide hsec;have HN:=hide hn;clear hsec hn;obtain⟨m,hm⟩:∃ m,H.length-n=m:=⟨_,rfl⟩
     rw[hm];obtain⟨A,hA⟩:∃ X:ByteArray,⟨(Sx.aA (H.drop m)).toArray⟩=X:=⟨_,rfl⟩
     obtain⟨D,hD⟩:∃ X:ByteArray,(⟨(if n+1≤H.length then Sx.aA (H.drop (H.length-(n+1))) else []).toArray⟩:ByteArray)=X:=⟨_,rfl⟩
     obtain⟨SC,hSC⟩:∃ X:ByteArray,⟨[sec].toArray⟩=X:=⟨_,rfl⟩
     rw[hA,hD,hSC];have hcv:∀ V:World,(convert 90 9 (.slice (some ⟨V.heap.size,0,none⟩) 1 1)).run Tryz.prog (V.alloc (.cells #[.int .u8 sec.toNat] 5))=.ok (.string SC) (V.alloc (.cells #[.int .u8 sec.toNat] 5)):=fun V=>by rw[←hSC];exact pT (by rw[World.cell?_alloc_mark];rfl)
     have hcv2:∀ V:World,(convert 90 9 (.slice (some ⟨V.heap.size,0,none⟩) 1 1)).run Tryz.prog (V.alloc (.cells #[.int .u8 sec.toNat] 5)).drew=.ok (.string SC) (V.alloc (.cells #[.int .u8 sec.toNat] 5)).drew:=fun V=>by
      rw[←hSC];refine pT ?_;show(V.alloc (.cells #[.int .u8 sec.toNat] 5)).cell? ⟨V.heap.size,0,none⟩=_;rw[World.cell?_alloc_mark];rfl
     have HCV:=hide (And.intro hcv hcv2);have HAD:=hide hA;have HDD:=hide hD;clear hA hD hSC hcv hcv2;go_enter Tryz.func106,Tryz.ntmps106;go_wp2_with fail
     refine HOP.out.mono ?_;rintro e w1 ⟨hB1,he⟩;rw[if_pos H0.out] at he;obtain⟨v,q,rfl,hq,hat⟩:=he;obtain⟨pr,cr,rfl⟩:=aB hat.row;have hq30:q.length≤30:=by have:=HR1.out.many;rw[←hq,List.length_map] at this;exact this
     have hne:∀ x∈q,x.2.1≠[]∧x.2.1.length≤1000:=fun x hx=>by
      have h1:=(HR1.out.ok x.2 (by rw[←hq];exact List.mem_map.2 ⟨x,hx,rfl⟩)).ok.1;exact⟨h1.1,by have:=h1.2.1;omega⟩
     have HAT:=hide hat;have HNE:=hide hne;have HQ:=hide hq;have HB1:=hide hB1;have hsz1:=hB1.size;clear hat hne hq hB1 HOP;go_wp2_with fail
     refine(HHO.out _).mono ?_;rintro e w2 ⟨hB2,v2,rfl,hown,-,-⟩;obtain⟨b1,c1,hv2,-,-⟩:=hown.form hHp;subst hv2;obtain⟨-,-,hc1,-,-,hb1,hcl⟩:=bR hown;have hat2:=HAT.out.below hB2;have hown2:=jU hown hsz1;have hpb:=HPB.out q b1 c1 _ w2 (by omega) (by omega) hat2 HNE.out hown2;rw[HQ.out,HN.out,HSEC.out] at hpb;have hdo:=fun W (h:Below w2.heap.size w2 W)=>HDO.out q b1 c1 _ W (by omega) (by omega) (hat2.below h) HNE.out (aD hown2 h) (by rw[HQ.out,HN.out];omega);simp only[HQ.out,HN.out] at hdo;have HP:=hide hpb;have HDM:=hide hdo;have HB2:=hide (HB1.out.trans (hB2.mono HB1.out.size));have HCL:Hid (∀ W,Below w2.heap.size w2 W→∀ j (hj:j<H.length),W.cell? ⟨b1,j,none⟩=some (.string ⟨H[j].toArray⟩)):=hide (fun W h j hj=>(h.cell (p:=⟨b1,j,none⟩) hb1).trans (by
      have:=hcl j (by simpa[bB] using hj)
      simpa[bB] using this))
     clear hB2 hown hown2 hat2 hpb hdo hcl HPB HDO HHO HAT;go_wp2_with fail
     refine HP.out.mono ?_;rintro e w3 ⟨rfl,hB3⟩;have HB3:=hide hB3;clear hB3;go_wp2_with fail
     refine(HDM.out _ HB3.out).mono ?_;rintro e w4 ⟨hB4,he⟩;have hb4:Below w2.heap.size w2 w4:=HB3.out.trans (hB4.mono HB3.out.size);have HBF:=hide (HB2.out.trans (hb4.mono HB2.out.size));have hd1:∀ W,Below w2.heap.size w2 W→Calls Tryz.prog 148 #[.slice (some ⟨b1,m,none⟩) (H.length-m) (c1-m)] W fun e w'=>e=.returned (.string A)∧w'=W:=fun W h=>by
      rw[←HAD.out,←List.length_drop];exact rV (H.drop m) b1 m _ W (by rw[List.length_drop];omega) (fun x hx=>HHX.out x (List.mem_of_mem_drop hx)) (fun j hj=>by
       rw[List.length_drop] at hj;rw[HCL.out W h (m+j) (by omega),List.getElem_drop])
     have HD1:=hide hd1;have hmH:m<H.length:=by omega
     have hwI:IntKind.i64.wrap ((H.length:Int)-(n:Int))=(m:Int):=by rw[IntKind.wrap_i64];omega
     have hcm:(c1=m)=False:=by simp;omega
     have hml:(m:Int)≤(H.length:Int):=by omega
     clear hd1 hB4 hm;obtain⟨hcv,hcv2⟩:=HCV.out;obtain⟨dv,rfl,HD2⟩:∃ dv,e=.returned dv∧Hid (∀ W,Below w2.heap.size w2 W→Calls Tryz.prog 148 #[dv] W fun e w'=>e=.returned (.string D)∧w'=W):=by
      rcases he with ⟨h1,rfl⟩ | ⟨h1,c,rfl⟩
      · refine⟨_,rfl,hide (fun W _=>?_)⟩;rw[←HDD.out,if_neg (by omega)];exact jT [] 0 (.slice none 0 0) W (by simp) (by simp) (World.ownsRow_nil _ _ _ _)
      · refine⟨_,rfl,hide (fun W h=>?_)⟩;rw[←HDD.out,if_pos (by omega),show H.length-n-1=H.length-(n+1) by omega];have hl9:(H.drop (H.length-(n+1))).length=n+1:=by rw[List.length_drop];omega
        have h9:=rV (H.drop (H.length-(n+1))) b1 (H.length-(n+1)) c W (by rw[hl9];omega) (fun x hx=>HHX.out x (List.mem_of_mem_drop hx)) (fun j hj=>by
         rw[hl9] at hj;rw[HCL.out W h (H.length-(n+1)+j) (by omega),List.getElem_drop])
        rw[hl9] at h9;exact h9
     have HE1:=hide (HD1.out _ hb4.drew);have HE2:=hide (HD1.out _ (hb4.alloc hb4.size (.cells #[.int .u8 sec.toNat] 5)).drew);have HE3:=hide (HD2.out _ hb4.drew);have HE4:=hide (HD2.out _ (hb4.alloc hb4.size (.cells #[.int .u8 sec.toNat] 5)).drew);clear he HD1 HD2 HDM HCL HP HB2 HB3;go_wp2_with fail
     go_region_held_law (fun _=>True) (trivial) (first | (go_at_call 148;with_reducible refine HE1.out.mono ?_;rintro e y1 ⟨rfl,rfl⟩) | (go_at_call 148;with_reducible refine HE2.out.mono ?_;rintro e y2 ⟨rfl,rfl⟩) | (go_at_call 148;with_reducible refine HE3.out.mono ?_;rintro e y3 ⟨rfl,rfl⟩) | (go_at_call 148;with_reducible refine HE4.out.mono ?_;rintro e y4 ⟨rfl,rfl⟩))
     all_goals (
      have HBE:=hide (HBF.out.alloc HBF.out.size (.cells #[.int .u8 sec.toNat] 5)).drew;go_wp2;exact bodyPost_ret (v:=.tuple #[.string A,.string D,.string SC,.int .i64 0]) (by simp[results,Tryz.results106,go_sem]) rfl ⟨rfl,HBE.out⟩)
   · have hno:GH l t.data.toList=([],[],[],(Sx.aI t.data.toList).2):=by unfold GH;rw[if_pos h0,if_neg hh]
     rw[hno];obtain⟨nh,hnh⟩:∃ z,(Sx.aI t.data.toList).2=z:=⟨_,rfl⟩
     rw[hnh] at HHO hh ⊢;have hn0:(nh != 0)=true:=by simp[hh]
     have H0:=hide h0;clear hno hrt hr1 hr2 h0 hh hnh;go_enter Tryz.func106,Tryz.ntmps106;go_wp2_with fail
     refine HOP.out.mono ?_;rintro e w1 ⟨hB1,he⟩;rw[if_pos H0.out] at he;obtain⟨v,q,rfl,-,-⟩:=he;have HB1:=hide hB1;clear hB1;go_wp2_with fail
     refine(HHO.out _).mono ?_;rintro e w2 ⟨hB2,v2,rfl,-,-⟩;have HB2:=hide (HB1.out.trans (hB2.mono HB1.out.size));clear hB2;go_wp2;exact bodyPost_ret (v:=.tuple #[.string ⟨#[]⟩,.string ⟨#[]⟩,.string ⟨#[]⟩,.int .i64 nh]) (by simp[results,Tryz.results106,go_sem]) rfl ⟨rfl,HB2.out⟩
 · have hno:GH l t.data.toList=([],[],[],(eW l).2):=by unfold GH;rw[if_neg h0]
   rw[hno];have H0:=hide h0;obtain⟨n,hn⟩:∃ n,(eW l).2=n:=⟨_,rfl⟩
   have hn0:(n != 0)=true:=by rw[←hn];simp[h0]
   have HE:=hide hn;rw[hn];clear hno hrt h0 hn HHO;go_enter Tryz.func106,Tryz.ntmps106;go_wp2_with fail
   refine HOP.out.mono ?_;rintro e w1 ⟨hB1,he⟩;rw[if_neg H0.out,HE.out] at he;subst he;have HB1:=hide hB1;clear hB1;go_wp2;exact bodyPost_ret (v:=.tuple #[.string ⟨#[]⟩,.string ⟨#[]⟩,.string ⟨#[]⟩,.int .i64 n]) (by simp[results,Tryz.results106,go_sem]) rfl ⟨rfl,HB1.out⟩
end Go.Proofs.YtgohllfpceeboabGreatDoor
