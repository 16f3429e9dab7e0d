import Derived.Test.YtgohllfpceeboaaGreatDoorWnbl
import Derived.Laws.MakeOwn
set_option maxRecDepth 100000
set_option maxHeartbeats 4000000
namespace Go.Proofs.YtgohllfpceeboaaGreatDoor
open Go.RowKit
open Sx (splB)
theorem spl_dot {m:List UInt8} {P:List (List UInt8)} {f j:Nat} (hj:j<m.length) (hd:m.getD j 0=46) (h:splB m []=P ++ splB (m.drop j) ((m.take j).drop f)):splB m []=(P ++ [(m.take j).drop f]) ++ splB (m.drop (j+1)) ((m.take (j+1)).drop (j+1)):=by
 rw [h,drop_getD m j hj,hd,splB_cons,if_pos rfl,List.drop_eq_nil_of_le (by rw [List.length_take];omega:(m.take (j+1)).length≤j+1)];simp
theorem spl_no {m:List UInt8} {P:List (List UInt8)} {f j:Nat} (hj:j<m.length) (hf:f≤j) (hd:m.getD j 0≠46) (h:splB m []=P ++ splB (m.drop j) ((m.take j).drop f)):splB m []=P ++ splB (m.drop (j+1)) ((m.take (j+1)).drop f):=by
 have e:(m.take (j+1)).drop f=(m.take j).drop f ++ [m.getD j 0]:=by
  rw [List.take_succ_eq_append_getElem hj,List.drop_append_of_le_length (by rw [List.length_take];omega),List.getD_eq_getElem?_getD,List.getElem?_eq_getElem hj];rfl
 rw [h,drop_getD m j hj,splB_cons,if_neg hd,e]
theorem spl_end {m:List UInt8} {P:List (List UInt8)} {f:Nat} (h:splB m []=P ++ splB (m.drop m.length) ((m.take m.length).drop f)):splB m []=P ++ [(m.take m.length).drop f]:=by
 rw [h,List.drop_length];rfl
def OpenPost (l:List UInt8) (w:World) (e:Ending) (w':World):Prop:=Below w.heap.size w w'∧if (opnD l).2=0 then ∃ (v:Value) (q:List RlE),e=.returned (.tuple #[v,.int .i64 0])∧q.map (·.2)=(opnD l).1∧RlsAt w' w.heap.size v q else e=.returned (.tuple #[.slice none 0 0,.int .i64 (opnD l).2])
theorem open_no {l:List UInt8} {w w':World} {n:Int} (h:(opnD l).2=n) (hn:n≠0) (hB:Below w.heap.size w w'):OpenPost l w (.returned (.tuple #[.slice none 0 0,.int .i64 n])) w':=by
 unfold OpenPost;rw [h,if_neg hn];exact ⟨hB,rfl⟩
structure RrAt (W:World) (R:Nat) (hv:Value) (kd sc:UInt8) (P:List (List UInt8)):Prop where
 blk:W.heap[R]? = some (.cells #[hv,.int .u8 kd.toNat,.int .u8 sc.toNat] 222 (0,0))
 row:W.ownsRow (R+1) 9 1 hv P.length (stV P.reverse)
 nil:P=[]→hv=.slice none 0 0
theorem blkR_cells {W:World} {R:Nat} {hv:Value} {kd sc:UInt8} (hb:W.heap[R]? = some (.cells #[hv,.int .u8 kd.toNat,.int .u8 sc.toNat] 222 (0,0))):W.cell? ⟨R,0,none⟩=some hv∧W.cell? ⟨R,1,none⟩=some (.int .u8 kd.toNat)∧W.cell? ⟨R,2,none⟩=some (.int .u8 sc.toNat)∧W.frozen? ⟨R,0,none⟩=false:=by
 refine ⟨?_,?_,?_,?_⟩
 · simp [World.cell?,hb]
 · simp [World.cell?,hb]
 · simp [World.cell?,hb]
 · simp [World.frozen?,hb]
theorem RrAt.cells {W:World} {R:Nat} {hv:Value} {kd sc:UInt8} {P:List (List UInt8)} (h:RrAt W R hv kd sc P):W.cell? ⟨R,0,none⟩=some hv∧W.cell? ⟨R,1,none⟩=some (.int .u8 kd.toNat)∧W.cell? ⟨R,2,none⟩=some (.int .u8 sc.toNat)∧W.frozen? ⟨R,0,none⟩=false:=blkR_cells h.blk
theorem RrAt.lt {W:World} {R:Nat} {hv:Value} {kd sc:UInt8} {P:List (List UInt8)} (h:RrAt W R hv kd sc P):R<W.heap.size:=(Array.getElem?_eq_some_iff.1 h.blk).1
theorem RrAt.more {W w5:World} {R:Nat} {hv:Value} {kd sc:UInt8} {P:List (List UInt8)} {o:Obj} (h:RrAt W R hv kd sc P) (hg:(W.alloc o).grownBy w5 none):RrAt w5 R hv kd sc P:=by
 refine ⟨?_,own_later' (h.row.alloc o) hg ?_,h.nil⟩
 · have hlt:=h.lt;rw [hg.block R (by rw [World.size_alloc];omega) (by simp),((Below.refl _ W).alloc (Nat.le_refl _) o).block R hlt];exact h.blk
 · cases (hv.ownBlock) <;> simp
theorem RrAt.set {w6:World} {R:Nat} {hv hn:Value} {kd sc:UInt8} {P:List (List UInt8)} {n:Nat} {xs:List (List UInt8)} (hb:w6.heap[R]? = some (.cells #[hv,.int .u8 kd.toNat,.int .u8 sc.toNat] 222 (0,0))) (ho:w6.ownsRow (R+1) 9 1 hn n (stV xs)) (hn':n=P.length) (hx:xs=P.reverse) (h0:P≠[]):RrAt (w6.setCell ⟨R,0,none⟩ hn) R hn kd sc P:=by
 subst hn' hx;refine ⟨?_,ownsRow_setCell_below ho (a:=⟨R,0,none⟩) (Nat.lt_succ_self R) hn,fun h=>absurd h h0⟩;exact heap_setCell_same w6 R 0 _ _ hn hb
theorem le_own {B g n c k:Nat} (h:B+1≤g) (e:(Value.slice (some ⟨g,0,none⟩) n c).ownBlock=some k):B≤k:=by
 have e':g=k:=by simpa [Value.ownBlock] using e
 omega
theorem ne_own {B g n c:Nat} (h:B+1≤g):some B≠(Value.slice (some ⟨g,0,none⟩) n c).ownBlock:=fun e=>by
 have e':g=B:=by simpa [Value.ownBlock] using e.symm
 omega
theorem opnD_big {l:List UInt8} (h:8000<l.length):(opnD l).2=1:=by
 unfold opnD;rw [if_pos h]
theorem opnD_none {l:List UInt8} (h:¬ 8000<l.length) (hr:Sx.rdImg l=none):(opnD l).2=6:=by
 unfold opnD;rw [if_neg h,hr]
theorem opnD_many {l:List UInt8} {tab:List (List Sx.Edg)} (h:¬ 8000<l.length) (hr:Sx.rdImg l=some tab) (h30:30<(wysA tab).length):(opnD l).2=6:=by
 unfold opnD;rw [if_neg h,hr];simp only;rw [if_pos h30]
theorem opnD_short {l:List UInt8} {tab:List (List Sx.Edg)} {k:List UInt8} (h:¬ 8000<l.length) (hr:Sx.rdImg l=some tab) (h30:¬ 30<(wysA tab).length) (hk:k∈wysA tab) (h3:k.length<3):(opnD l).2=6:=by
 unfold opnD;rw [if_neg h,hr];simp only;rw [if_neg h30,if_pos (List.any_eq_true.2 ⟨k,hk,by simpa using h3⟩)]
theorem opnD_again {l:List UInt8} {tab:List (List Sx.Edg)} (h:¬ 8000<l.length) (hr:Sx.rdImg l=some tab) (h30:¬ 30<(wysA tab).length) (h3:∀ k∈wysA tab,¬ k.length<3):opnD l=match ((wysA tab).map fun k=>listK (rawKey k)).foldl agS (some []) with
      | none=>([],6)
      | some ps=>if Sx.imgT (Sx.tabOf ps)=l then ((wysA tab).map rawKey,0) else ([],6):=by
 unfold opnD;rw [if_neg h,hr];simp only;rw [if_neg h30,if_neg (by rw [List.any_eq_true];rintro ⟨k,hk,h⟩;exact h3 k hk (by simpa using h))];cases ((wysA tab).map fun k=>listK (rawKey k)).foldl agS (some []) <;> rfl
theorem RlsAt.keepL {w w':World} {B B' n g:Nat} {v lv:Value} {q:List RlE} {xs:List Value} {o:Obj} (h:RlsAt w B v q) (hl:w.ownsRow B' 9 1 lv n xs) (hlv:lv.ownBlock=some g) (hg:(w.alloc o).grownBy w' (some g)) (hap:∀ x∈q,x.1.ownBlock≠some g):RlsAt w' B v q :=
 ⟨row_keep h.row hl (by decide) (by rw [hlv];exact hg),fun x hx=>own_later' ((h.hosts x hx).alloc o) hg (.inr (hap x hx))⟩
theorem raw_is {k m:List UInt8} {P:List (List UInt8)} {kd sc:UInt8} (hm:k.take (k.length-2)=m) (hP:splB m []=P) (h1:k.getD (k.length-2) 0=kd) (h2:k.getD (k.length-1) 0=sc):rawKey k=(P.reverse,kd,sc):=by
 unfold rawKey;rw [hm,hP,h1,h2]
theorem spl_few:∀ (l cur:List UInt8),(splB l cur).length≤l.length+1
 | [],_=>by simp [splB]
 | x :: r,cur=>by
   rw [splB_cons];split
   · have:=spl_few r [];simp only [List.length_cons];omega
   · have:=spl_few r (cur ++ [x]);simp only [List.length_cons];omega
theorem raw_small (k:List UInt8) (hk:k.length≤70000):(rawKey k).1.length≤70001∧(∀ x∈(rawKey k).1,x.length≤70000)∧(Sx.rlLine (rawKey k)).length≤10000000000∧(listK (rawKey k)).length≤100000000000:=by
 have h1:(rawKey k).1.length≤70001:=by
  show ((splB (k.take (k.length-2)) []).reverse).length≤70001;have:=spl_few (k.take (k.length-2)) [];rw [List.length_take] at this;rw [List.length_reverse];omega
 have h2:∀ x∈(rawKey k).1,x.length≤70000:=fun x hx=>by
  have hx':x∈splB (k.take (k.length-2)) []:=List.mem_reverse.1 hx;have:=Sx.splB_len _ _ _ hx';rw [List.length_take,List.length_nil] at this;omega
 have h3:=Sx.dots_le 70000 (rawKey k).1 h2;have h4:(Sx.rlLine (rawKey k)).length≤10000000000:=by
  unfold Sx.rlLine;rw [List.length_append];have:(rawKey k).1.length*(70000+1)≤70001*70001:=Nat.mul_le_mul h1 (Nat.le_refl _)
  repeat' split
  all_goals simp
  all_goals omega
 refine ⟨h1,h2,h4,?_⟩;unfold listK;rw [List.length_append];simp only [List.length_cons,List.length_nil];omega
theorem ropen (l:List UInt8) (w:World):Calls Tryz.prog 153 #[.string ⟨l.toArray⟩] w (OpenPost l w):=by
 have hIs:(⟨l.toArray⟩:ByteArray).size=l.length:=rfl;by_cases hbig:8000<l.length
 · have HN:=hide (opnD_big hbig);have hb':(8000:Int)<(l.length:Int):=by omega
   obtain ⟨I,hI⟩:∃ X:ByteArray,⟨l.toArray⟩=X:=⟨_,rfl⟩
   rw [hI] at hIs ⊢;clear hI;go_enter Tryz.func153,Tryz.ntmps153;go_wp2;go_ret2;exact open_no HN.out (by decide) (Below.refl _ _)
 · have hb':¬ (8000:Int)<(l.length:Int):=by omega
   obtain ⟨i0,hi0,hz0,hz1,hz2⟩:=info_parts Tryz.info9;obtain ⟨i1,hi1,hy0,hy1,hy2⟩:=info_parts Tryz.info222;have HKY:=hide (rkeys l w (by omega));have HNO:=hide (fun h=>opnD_none hbig h);have HMA:=hide (fun tab h h'=>opnD_many (tab:=tab) hbig h h');have HSH:=hide (fun tab k h h' h2 h3=>opnD_short (tab:=tab) (k:=k) hbig h h' h2 h3);have HAG:=hide (fun tab h h' h3=>opnD_again (tab:=tab) hbig h h' h3);unfold KeysPost at HKY;obtain ⟨I,hI⟩:∃ X:ByteArray,⟨l.toArray⟩=X:=⟨_,rfl⟩
   rw [hI] at hIs HKY ⊢;have HI:=hide hI;clear hI hbig;go_enter Tryz.func153,Tryz.ntmps153;go_wp2_with fail
   refine HKY.out.mono ?_;rintro e w1 ⟨hB1,he⟩;have HB1:=hide hB1;clear HKY;obtain ⟨o,ho⟩:∃ o,Sx.rdImg l=o:=⟨_,rfl⟩
   rw [ho] at he;cases o with
   | none =>
     dsimp only at he;subst he;have HN:=hide (HNO.out ho);clear hB1 ho;go_wp2;go_ret2;exact open_no HN.out (by decide) HB1.out
   | some tab =>
     obtain ⟨kv,rfl,hown,hsh⟩:=he;have HM:=hide (HMA.out tab ho);have HS:=hide (fun k=>HSH.out tab k ho);have HA:=hide (HAG.out tab ho);obtain ⟨ks,hks⟩:∃ q,wysA tab=q:=⟨_,rfl⟩
     rw [hks] at hown hsh HM HS HA;obtain ⟨kp,kc,rfl⟩:=own_shapeK hown;clear HNO HMA HSH HAG ho hks;by_cases h30:30<ks.length
     · have h30':(30:Int)<(ks.length:Int):=by omega
       have HN:=hide (HM.out h30);clear hown hsh hB1;go_wp2;go_ret2;exact open_no HN.out (by decide) HB1.out
     · have h30':¬ (30:Int)<(ks.length:Int):=by omega
       have HOWN:=hide hown;have HSHT:=hide hsh;have hsz1:=hB1.size;have HS3:=hide (fun k h h'=>HS.out k h30 h h');have HA3:=hide (HA.out h30);clear hown hsh hB1 HM HS HA;obtain ⟨w2,hmk,hown2,hg2⟩:=run_make_own (P:=Tryz.prog) w1 w1.heap.size 34 9 i0 (.string ⟨#[]⟩) 1 Tryz.underlying34 hi0 hz0 hz1 .i64 .i64 0 (by omega) (by unfold maxLen;omega) (Nat.le_refl _);have hmk':(Instr.makeSlice 34 (.int .i64 0) (.int .i64 0)).run Tryz.prog w1=.ok (.slice (some ⟨w1.heap.size,0,none⟩) 0 0) w2:=by simpa using hmk
       have hB2:Below w1.heap.size w1 w2:=(Below.refl _ w1).grown hg2 (Nat.le_refl _) (fun k e=>by cases e);have HOWN2:=hide hown2;have HB2:=hide hB2;have h30d:decide ((30:Int)<(ks.length:Int))=false:=by simp;omega
       clear hmk hown2 hg2 hB2;go_wp2
       go_loopw [6,7,8] (fun rv lv iv wr=>∃ (i:Nat) (q:List RlE) (g c:Nat),iv=.int .i64 i∧lv=.slice (some ⟨g,0,none⟩) i c∧i≤ks.length∧q.map (·.2)=(ks.take i).map rawKey∧RlsAt wr w1.heap.size rv q∧wr.ownsRow w1.heap.size 9 1 lv i (stV ((ks.take i).map fun k=>listK (rawKey k)))∧(∀ x∈q,x.1.ownBlock≠some g)∧Below w1.heap.size w1 wr∧∀ k∈ks.take i,¬ k.length<3) (fun _ _ i _=>(ks.length-intOf i).toNat)
       case atStart=>exact ⟨0,[],_,_,rfl,rfl,by omega,rfl,⟨World.ownsRow_nil _ _ _ _,by simp⟩,HOWN2.out,by simp,HB2.out,by simp⟩
       case round =>
        obtain ⟨i,q,g,cg,rfl,rfl,hil,hqk,hat,hol,hap,hB,h3⟩:=hrel
        rename World=>wr
        have HAT:=hide hat;have HOL:=hide hol;have HAP:=hide hap;have HB:=hide hB;have H3:=hide h3;have HQK:=hide hqk;obtain ⟨pr,cr,rfl⟩:=own_shapeK hat.row;have hql:q.length=i:=by have:=congrArg List.length hqk;rw [List.length_map,List.length_map,List.length_take] at this;omega
        have hszr:=hB.size;clear hat hol hap hB h3 hqk hmk' HOWN2 HB2;by_cases hi:i<ks.length
        · have hi':(i:Int)<(ks.length:Int):=by omega
          have hown:=own_later HOWN.out HB.out;obtain ⟨kb,kc',hkv,-,-⟩:=hown.form (by omega);simp only [Value.slice.injEq,true_and] at hkv;obtain ⟨rfl,rfl⟩:=hkv;have hck:=own_strG hown i hi;have hmem:=List.getElem_mem hi;have hkl:=HSHT.out ks[i] hmem;have HS4:=hide (HS3.out ks[i]);have htk:=List.take_succ_eq_append_getElem hi;obtain ⟨k,hk⟩:∃ k,ks[i]=k:=⟨_,rfl⟩
          rw [hk] at hck hkl HS4 htk hmem;have HTK:=hide htk;have HMEM:=hide hmem;clear hown hk htk hmem;by_cases h3k:k.length<3
          · have h3k':(k.length:Int)<3:=by omega
            have HN:=hide (HS4.out HMEM.out h3k);have hKs:(⟨k.toArray⟩:ByteArray).size=k.length:=rfl;have HBB:=hide (HB1.out.trans (HB.out.mono hsz1));obtain ⟨K,hK⟩:∃ X:ByteArray,⟨k.toArray⟩=X:=⟨_,rfl⟩
            rw [hK] at hck hKs;clear hK;go_wp2;go_ret2;exact open_no HN.out (by decide) HBB.out
          · have h3k':¬ (k.length:Int)<3:=by omega
            have hKs:(⟨k.toArray⟩:ByteArray).size=k.length:=rfl;have hgA:=at_getD k (k.length-2);have hgB:=at_getD k (k.length-1);have HGK:=hide (at_getD k);obtain ⟨kd,hkd⟩:∃ x,k.getD (k.length-2) 0=x:=⟨_,rfl⟩
            obtain ⟨sc,hsc⟩:∃ x,k.getD (k.length-1) 0=x:=⟨_,rfl⟩
            rw [hkd] at hgA;rw [hsc] at hgB;obtain ⟨K,hK⟩:∃ X:ByteArray,⟨k.toArray⟩=X:=⟨_,rfl⟩
            rw [hK] at hck hKs hgA hgB HGK;have HKL:Hid (K.data.toList=k):=hide (by rw [←hK]);clear hK;have t1:((k.length:Int)-2).toNat=k.length-2:=by omega
            have t2:((k.length:Int)-1).toNat=k.length-1:=by omega
            have u1:(k.length:Int)-2<(k.length:Int):=by omega
            have u2:(k.length:Int)-1<(k.length:Int):=by omega
            have v1:(0:Int)≤(k.length:Int)-2:=by omega
            have v2:(0:Int)≤(k.length:Int)-1:=by omega
            have b1:k.length-2<K.size:=by omega
            have b2:k.length-1<K.size:=by omega
            go_wp2_with fail
            go_region
            have hru0:RrAt (wr.alloc (.cells #[.slice none 0 0,.int .u8 kd.toNat,.int .u8 sc.toNat] 222)).drew wr.heap.size (.slice none 0 0) kd sc []:=⟨heap_alloc_new _ _,World.ownsRow_nil _ _ _ _,fun _=>rfl⟩
            have hBv:Below wr.heap.size wr (wr.alloc (.cells #[.slice none 0 0,.int .u8 kd.toNat,.int .u8 sc.toNat] 222)).drew:=((Below.refl _ wr).alloc (Nat.le_refl _) _).drew;obtain ⟨VR,hVR⟩:∃ V,(wr.alloc (.cells #[.slice none 0 0,.int .u8 kd.toNat,.int .u8 sc.toNat] 222)).drew=V:=⟨_,rfl⟩
            rw [hVR] at hru0 hBv ⊢;obtain ⟨m,hm⟩:∃ m,k.take (k.length-2)=m:=⟨_,rfl⟩
            have hml:m.length=k.length-2:=by rw [←hm,List.length_take];omega
            have hmg:∀ j,j<k.length-2→k.getD j 0=m.getD j 0:=fun j hj=>by
             rw [←hm,List.getD_eq_getElem?_getD,List.getD_eq_getElem?_getD,List.getElem?_take_of_lt hj]
            have hmt:∀ j,j≤k.length-2→k.take j=m.take j:=fun j hj=>by
             rw [←hm,List.take_take,Nat.min_eq_left hj]
            have HMG:=hide hmg;have HMT:=hide hmt;have HML:=hide hml;have HM:=hide hm;have HRU0:=hide hru0;have HBV:=hide hBv;have HKD:=hide hkd;have HSC:=hide hsc;clear hVR hmg hmt hml hm hru0 hBv hgA hgB t1 t2 u1 u2 v1 v2 b1 b2 hkd hsc hck;go_wp2
            go_loopw [11,12] (fun fv jv W=>∃ (f j:Nat) (P:List (List UInt8)) (hv:Value),fv=.int .i64 f∧jv=.int .i64 j∧f≤j∧j≤k.length-2+1∧P.length≤j∧RrAt W wr.heap.size hv kd sc P∧Below wr.heap.size wr W∧(j≤k.length-2→splB m []=P ++ splB (m.drop j) ((m.take j).drop f))∧(j=k.length-2+1→splB m []=P)) (fun _ j _=>(k.length-1-intOf j).toNat)
            case atStart=>exact ⟨0,0,[],_,rfl,rfl,by omega,by omega,by simp,HRU0.out,HBV.out,fun _=>rfl,fun h=>by omega⟩
            case round =>
             obtain ⟨f,j,P,hv,rfl,rfl,hfj,hjn,hPj,hru,hBw,s1,s2⟩:=hrel
             rename World=>W
             have HRU:=hide hru;have HBW:=hide hBw;obtain ⟨hp,hc,rfl⟩:=own_shapeK hru.row;obtain ⟨d0,d1,d2,d3⟩:=hru.cells;have hRW:=hru.lt;clear hru hBw;by_cases hj:j≤k.length-2
             · have hj':(j:Int)≤(k.length:Int)-2:=by omega
               have hpc:(K.extract f j).data.toList=(m.take j).drop f:=by rw [ba_ext,HKL.out,HMT.out j hj]
               have hs1:=s1 hj;have hcase:(j=k.length-2∨(j<k.length-2∧m.getD j 0=46))∨(j<k.length-2∧m.getD j 0≠46):=by
                by_cases h1:j=k.length-2
                · exact .inl (.inl h1)
                · by_cases h2:m.getD j 0=46
                  · exact .inl (.inr ⟨by omega,h2⟩)
                  · exact .inr ⟨by omega,h2⟩
               rcases hcase with hcase | ⟨hlt,hno⟩
               · have hnew:(j+1≤k.length-2→splB m []=(P ++ [(m.take j).drop f]) ++ splB (m.drop (j+1)) ((m.take (j+1)).drop (j+1)))∧(j+1=k.length-2+1→splB m []=P ++ [(m.take j).drop f]):=by
                  rcases hcase with h | ⟨h,h46⟩
                  · refine ⟨fun h'=>by omega,fun _=>?_⟩;have hje:j=m.length:=by rw [HML.out];exact h
                    subst hje;exact spl_end hs1
                  · exact ⟨fun _=>spl_dot (by rw [HML.out];exact h) h46 hs1,fun h'=>by omega⟩
                 have HNEW:=hide hnew;obtain ⟨PC,hPC⟩:∃ X:ByteArray,K.extract f j=X:=⟨_,rfl⟩
                 obtain ⟨pc,hpce⟩:∃ x,(m.take j).drop f=x:=⟨_,rfl⟩
                 rw [hPC,hpce] at hpc;rw [hpce] at HNEW;have hPCe:PC=⟨pc.toArray⟩:=by rw [←hpc]
                 subst hPCe;have hjK:j≤K.size:=by omega
                 have hfi:(f:Int)≤(j:Int):=by omega
                 have hjl:(j:Int)≤(k.length:Int):=by omega
                 have hkj:=HGK.out j;have hPl:P.length≤100000:=by omega
                 clear s1 s2 hs1 hpc hpce hnew;rcases hcase with hcase | ⟨hlt,h46⟩
                 · have hje:((j:Int) == (k.length:Int)-2)=true:=by rw [beq_iff_eq];omega
                   replace hcase:=hide hcase;go_upto_region 20 with fail
                   clear hkj hje hcase;go_upto_region 22 with (at_builtin;go_must (refine wpList_append_lies _ rfl _ _ _ rfl (wr.heap.size+1) 9 i0 (.string ⟨#[]⟩) 1 16 Tryz.underlying34 hi0 hz0 hz1 hz2 rfl (by decide) _ _ _ rfl (World.ownsRow_nil _ _ 9 1) ⟨_,0,none⟩ 1 1 [.string ⟨pc.toArray⟩] rfl rfl (cell_one_new _ _ _) (by simp [Value.oneCell']) (by omega) (by unfold maxLen;omega) (by omega) (by simp;omega) _ rfl ?_;intro g5 cap5 w5 hown5 hgrow5 hat5 hlt5))
                   have hB5:Below wr.heap.size wr w5:=(HBW.out.alloc HBW.out.size _).grown hgrow5 (by rw [World.size_alloc];omega) (fun k e=>by cases e);have hru5:RrAt w5 wr.heap.size (.slice hp P.length hc) kd sc P:=HRU.out.more hgrow5;obtain ⟨d0',d1',d2',d3'⟩:=hru5.cells;have hR5:=hru5.lt;have hg5:=hown5.lt g5 rfl;have hcap5:=(own_cells hown5).2.2.1;have HRU5:=hide hru5;have HB5:=hide hB5;have HOWN5:=hide hown5;clear d0 d1 d2 d3 hru5 hB5 hgrow5 hat5;by_cases hP0:P=[]
                   · have hvn:Value.slice hp P.length hc=.slice none 0 0:=HRU.out.nil hP0;rw [hvn] at d0';clear hown5;go_wp2_with (at_builtin;refine wpList_append_nothing _ rfl _ _ _ rfl 9 i0 Tryz.underlying34 hi0 _ rfl rfl (.inr ⟨_,_,_,rfl,hcap5⟩) ?_)
                     exact ⟨⟨j+1,j+1,P ++ [pc],_,by go_num,by go_num,Nat.le_refl _,by omega,by simp;omega,RrAt.set (xs:=[pc]) HRU5.out.blk HOWN5.out (by simp [hP0]) (by simp [hP0]) (by simp),HB5.out.setCell (p:=⟨wr.heap.size,0,none⟩) (Nat.le_refl _) _,HNEW.out.1,HNEW.out.2⟩,by simp [intOf];omega⟩
                   · have hPp:0<P.length:=List.length_pos_iff.2 hP0;obtain ⟨gh,ch,hvv,-,-⟩:=HRU5.out.row.form hPp;simp only [Value.slice.injEq,true_and] at hvv;obtain ⟨rfl,rfl⟩:=hvv;have hnews:=HRU5.out.row.cells (g:=gh) rfl;go_wp2_with (at_builtin;go_must (refine wpList_append_lies _ rfl _ _ _ rfl (wr.heap.size+1) 9 i0 (.string ⟨#[]⟩) 1 16 Tryz.underlying34 hi0 hz0 hz1 hz2 rfl (by decide) _ _ _ rfl hown5 ⟨gh,0,none⟩ P.length hc (stV P.reverse) rfl (by simp [stV]) hnews (by simp [stV,Value.oneCell']) hPp (by unfold maxLen;omega) (by omega) (by omega) _ rfl ?_;intro g6 cap6 w6 hown6 hgrow6 hat6 hlt6;have hb6:=(hgrow6.block wr.heap.size hR5 (ne_own hg5.1)).trans HRU5.out.blk;obtain ⟨x0,x1,x2,x3⟩:=blkR_cells hb6))
                     exact ⟨⟨j+1,j+1,P ++ [pc],_,by go_num,by go_num,Nat.le_refl _,by omega,by simp;omega,RrAt.set (xs:=pc :: P.reverse) hb6 hown6 (by simp;omega) (by simp) (by simp),(HB5.out.grown hgrow6 (by omega) (fun k e=>le_own hg5.1 e)).setCell (p:=⟨wr.heap.size,0,none⟩) (Nat.le_refl _) _,HNEW.out.1,HNEW.out.2⟩,by simp [intOf];omega⟩
                 · have hje:((j:Int) == (k.length:Int)-2)=false:=by rw [beq_eq_false_iff_ne];omega
                   rw [HMG.out j hlt,h46] at hkj;have hjK':j<K.size:=by omega
                   have hcase:=hlt;clear h46;go_upto_region 20 with fail
                   clear hkj hje hcase;go_upto_region 22 with (at_builtin;go_must (refine wpList_append_lies _ rfl _ _ _ rfl (wr.heap.size+1) 9 i0 (.string ⟨#[]⟩) 1 16 Tryz.underlying34 hi0 hz0 hz1 hz2 rfl (by decide) _ _ _ rfl (World.ownsRow_nil _ _ 9 1) ⟨_,0,none⟩ 1 1 [.string ⟨pc.toArray⟩] rfl rfl (cell_one_new _ _ _) (by simp [Value.oneCell']) (by omega) (by unfold maxLen;omega) (by omega) (by simp;omega) _ rfl ?_;intro g5 cap5 w5 hown5 hgrow5 hat5 hlt5))
                   have hB5:Below wr.heap.size wr w5:=(HBW.out.alloc HBW.out.size _).grown hgrow5 (by rw [World.size_alloc];omega) (fun k e=>by cases e);have hru5:RrAt w5 wr.heap.size (.slice hp P.length hc) kd sc P:=HRU.out.more hgrow5;obtain ⟨d0',d1',d2',d3'⟩:=hru5.cells;have hR5:=hru5.lt;have hg5:=hown5.lt g5 rfl;have hcap5:=(own_cells hown5).2.2.1;have HRU5:=hide hru5;have HB5:=hide hB5;have HOWN5:=hide hown5;clear d0 d1 d2 d3 hru5 hB5 hgrow5 hat5;by_cases hP0:P=[]
                   · have hvn:Value.slice hp P.length hc=.slice none 0 0:=HRU.out.nil hP0;rw [hvn] at d0';clear hown5;go_wp2_with (at_builtin;refine wpList_append_nothing _ rfl _ _ _ rfl 9 i0 Tryz.underlying34 hi0 _ rfl rfl (.inr ⟨_,_,_,rfl,hcap5⟩) ?_)
                     exact ⟨⟨j+1,j+1,P ++ [pc],_,by go_num,by go_num,Nat.le_refl _,by omega,by simp;omega,RrAt.set (xs:=[pc]) HRU5.out.blk HOWN5.out (by simp [hP0]) (by simp [hP0]) (by simp),HB5.out.setCell (p:=⟨wr.heap.size,0,none⟩) (Nat.le_refl _) _,HNEW.out.1,HNEW.out.2⟩,by simp [intOf];omega⟩
                   · have hPp:0<P.length:=List.length_pos_iff.2 hP0;obtain ⟨gh,ch,hvv,-,-⟩:=HRU5.out.row.form hPp;simp only [Value.slice.injEq,true_and] at hvv;obtain ⟨rfl,rfl⟩:=hvv;have hnews:=HRU5.out.row.cells (g:=gh) rfl;go_wp2_with (at_builtin;go_must (refine wpList_append_lies _ rfl _ _ _ rfl (wr.heap.size+1) 9 i0 (.string ⟨#[]⟩) 1 16 Tryz.underlying34 hi0 hz0 hz1 hz2 rfl (by decide) _ _ _ rfl hown5 ⟨gh,0,none⟩ P.length hc (stV P.reverse) rfl (by simp [stV]) hnews (by simp [stV,Value.oneCell']) hPp (by unfold maxLen;omega) (by omega) (by omega) _ rfl ?_;intro g6 cap6 w6 hown6 hgrow6 hat6 hlt6;have hb6:=(hgrow6.block wr.heap.size hR5 (ne_own hg5.1)).trans HRU5.out.blk;obtain ⟨x0,x1,x2,x3⟩:=blkR_cells hb6))
                     exact ⟨⟨j+1,j+1,P ++ [pc],_,by go_num,by go_num,Nat.le_refl _,by omega,by simp;omega,RrAt.set (xs:=pc :: P.reverse) hb6 hown6 (by simp;omega) (by simp) (by simp),(HB5.out.grown hgrow6 (by omega) (fun k e=>le_own hg5.1 e)).setCell (p:=⟨wr.heap.size,0,none⟩) (Nat.le_refl _) _,HNEW.out.1,HNEW.out.2⟩,by simp [intOf];omega⟩
               · have hkj:=(HGK.out j)
                 rw [HMG.out j hlt] at hkj;obtain ⟨y,hy⟩:∃ y,m.getD j 0=y:=⟨_,rfl⟩
                 have HS1:=hide (spl_no (by rw [HML.out];exact hlt) hfj hno hs1);rw [hy] at hkj hno;have hy46:((y.toNat:Int) == 46)=false:=by
                  rw [beq_eq_false_iff_ne];intro e;exact hno (UInt8.toNat_inj.1 (by show y.toNat=46;omega))
                 have hje:((j:Int) == (k.length:Int)-2)=false:=by rw [beq_eq_false_iff_ne];omega
                 have hjK:j<K.size:=by omega
                 clear s1 s2 hs1 hy hpc hno d0 d1 d2 d3;go_wp2;exact ⟨⟨f,j+1,P,_,rfl,by go_num,by omega,by omega,by omega,HRU.out,HBW.out,fun _=>HS1.out,fun h=>by omega⟩,by simp [intOf];omega⟩
             · have hje:j=k.length-2+1:=by omega
               have hnj:¬ (j:Int)≤(k.length:Int)-2:=by omega
               have hrk:=raw_is HM.out (s2 hje) HKD.out HSC.out;obtain ⟨m1,m2,m3,-⟩:=raw_small k hkl;rw [hrk] at m1 m2 m3;dsimp only at m1 m2;have hatW:RlsAt W w1.heap.size (.slice pr i cr) q:=by have:=HAT.out.below HBW.out;rw [hql] at this;exact this
               have hrowW:=hatW.row;rw [hql] at hrowW;have holW:=own_later HOL.out HBW.out;have hgl:=HOL.out.lt g rfl;have hprl:∀ x,(Value.slice pr i cr).ownBlock=some x→x<wr.heap.size:=fun x e=>(by have h:=HAT.out.row;rw [hql] at h;exact (h.lt x e).2);have hru:=HRU.out;have hhW:W.ownsRow w1.heap.size 9 1 (.slice hp P.length hc) (P.reverse).length (stV P.reverse):=by rw [List.length_reverse];exact row_base hru.row (by omega)
               have hhlt:∀ x,(Value.slice hp P.length hc).ownBlock=some x→wr.heap.size+1≤x∧x<W.heap.size:=fun x e=>hru.row.lt x e;have hBW:=HBW.out;have hcv:∀ V:World,(convert 58 9 (.slice (some ⟨V.heap.size,0,none⟩) 1 1)).run Tryz.prog (V.alloc (.cells #[.int .u8 sc.toNat] 5))=.ok (.string ⟨[sc].toArray⟩) (V.alloc (.cells #[.int .u8 sc.toNat] 5)):=fun V=>one_conv (by rw [World.cell?_alloc_mark];rfl);have hs1:(⟨#[61,61,61]⟩:ByteArray) ++ ⟨[sc].toArray⟩=⟨([61,61,61] ++ [sc]).toArray⟩:=ba_app [61,61,61] [sc];have hs2:(⟨([61,61,61] ++ [sc]).toArray⟩:ByteArray) ++ ⟨#[10]⟩=⟨([61,61,61] ++ [sc] ++ [10]).toArray⟩:=ba_app ([61,61,61] ++ [sc]) [10];have hs3:(⟨([61,61,61] ++ [sc] ++ [10]).toArray⟩:ByteArray) ++ ⟨(Sx.rlLine (P.reverse,kd,sc)).toArray⟩=⟨(listK (P.reverse,kd,sc)).toArray⟩:=ba_app _ _;have HLN:Hid (∀ V,V.ownsRow w1.heap.size 9 1 (.slice hp P.length hc) (P.reverse).length (stV P.reverse)→Calls Tryz.prog 154 #[.agg #[.slice hp P.length hc,.int .u8 kd.toNat,.int .u8 sc.toNat]] V fun e w'=>e=.returned (.string ⟨(Sx.rlLine (P.reverse,kd,sc)).toArray⟩)∧Below V.heap.size V w'):=hide (fun V hV=>rline_any (P.reverse,kd,sc) w1.heap.size _ V (by show P.reverse.length≤100000;omega) (fun x hx=>by have:=m2 x hx;omega) hV);have hq1:(⟨[sc].toArray⟩:ByteArray).size≤10:=by show 1≤10;omega
               have hq2:(⟨([61,61,61] ++ [sc]).toArray⟩:ByteArray).size≤10:=by show 4≤10;omega
               have hq3:(⟨([61,61,61] ++ [sc] ++ [10]).toArray⟩:ByteArray).size≤10:=by show 5≤10;omega
               have hq4:(⟨(Sx.rlLine (P.reverse,kd,sc)).toArray⟩:ByteArray).size≤10000000000:=m3;have hlk:stV ((ks.take (i+1)).map fun k=>listK (rawKey k))=stV ((ks.take i).map fun k=>listK (rawKey k)) ++ [.string ⟨(listK (P.reverse,kd,sc)).toArray⟩]:=by
                rw [HTK.out,List.map_append,stV_app,List.map_singleton,hrk];rfl
               have HLK:=hide hlk;have hqk2:(q ++ [((.slice hp P.length hc:Value),(P.reverse,kd,sc))]).map (·.2)=(ks.take (i+1)).map rawKey:=by
                rw [HTK.out,List.map_append,List.map_append,HQK.out,List.map_singleton,List.map_singleton,hrk]
               have HQK2:=hide hqk2;have h3k2:∀ k'∈ks.take (i+1),¬ k'.length<3:=fun k' hk'=>by
                rw [HTK.out] at hk';rcases List.mem_append.1 hk' with h | h
                · exact H3.out k' h
                · rw [List.mem_singleton.1 h];exact h3k
               have HH3:=hide h3k2;obtain ⟨SC,hSC⟩:∃ X:ByteArray,⟨[sc].toArray⟩=X:=⟨_,rfl⟩
               obtain ⟨S1,hS1⟩:∃ X:ByteArray,⟨([61,61,61] ++ [sc]).toArray⟩=X:=⟨_,rfl⟩
               obtain ⟨S2,hS2⟩:∃ X:ByteArray,⟨([61,61,61] ++ [sc] ++ [10]).toArray⟩=X:=⟨_,rfl⟩
               obtain ⟨LN,hLN⟩:∃ X:ByteArray,⟨(Sx.rlLine (P.reverse,kd,sc)).toArray⟩=X:=⟨_,rfl⟩
               obtain ⟨LS,hLS⟩:∃ X:ByteArray,⟨(listK (P.reverse,kd,sc)).toArray⟩=X:=⟨_,rfl⟩
               rw [hSC] at hcv hs1 hq1;rw [hS1] at hs1 hs2 hq2;rw [hS2] at hs2 hs3 hq3;rw [hLN] at hs3 HLN hq4;rw [hLS] at hs3 HLK;have hRW':=hru.lt;have HRB:=hide hru.blk;clear hSC hS1 hS2 hLN hLS hlk hqk2 h3k2 m1 m2 m3 s1 s2 hrk hje hru hfj hjn hPj hj;have hqi:q.length+1=i+1:=by omega
               have HQL:=hide hql;clear hql hqi;go_upto_region 26 with (at_builtin;go_must (refine wpList_append_lies _ rfl _ _ _ rfl w1.heap.size 222 i1 (.agg #[.slice none 0 0,.int .u8 0,.int .u8 0]) 3 32 Tryz.underlying215 hi1 hy0 hy1 hy2 rfl (by decide) _ _ _ rfl (hrowW.alloc _) ⟨_,0,none⟩ 1 1 [.slice hp P.length hc,.int .u8 kd.toNat,.int .u8 sc.toNat] rfl rfl (cell3_new _ _ _ _ _) (by simp [Value.oneCell']) (by omega) (by unfold maxLen;omega) (by omega) (by simp;omega) _ rfl ?_;intro g5 cap5 w5 hown5 hgrow5 hat5 hlt5))
               have hat5:=rls_more (r:=(P.reverse,kd,sc)) hatW hhW hgrow5 (by have:=HQL.out;omega) hown5;have hol5:=row_keep holW hrowW (by decide) hgrow5;have hh5:=row_keep hhW hrowW (by decide) hgrow5;have hb5:=(hgrow5.block wr.heap.size (by rw [World.size_alloc];omega) (fun e=>by have:=hprl _ e.symm;omega)).trans ((((Below.refl _ W).alloc (Nat.le_refl _) _).block wr.heap.size hRW').trans HRB.out);obtain ⟨x0,x1,x2,-⟩:=blkR_cells hb5;have hB5:Below w1.heap.size w1 w5:=below_app (HB.out.trans (hBW.mono hszr)) (by omega) hrowW hgrow5;have hs55:=hgrow5.size;rw [World.size_alloc] at hs55;have HAT5:=hide hat5;have HOL5:=hide hol5;have HH5:=hide hh5;have HB5:=hide hB5;have HBK5:=hide hb5;clear hatW hrowW holW hhW hgrow5 hown5 d0 d1 d2 d3 hat5 hol5 hh5 hB5 hb5;go_upto_region 27 with fail
               have hBz:Below w5.heap.size w5 (w5.alloc (.cells #[.int .u8 sc.toNat] 5)):=(Below.refl _ w5).alloc (Nat.le_refl _) _;obtain ⟨V6,hV6⟩:∃ V,w5.alloc (.cells #[.int .u8 sc.toNat] 5)=V:=⟨_,rfl⟩
               rw [hV6] at hBz ⊢;obtain ⟨y0,y1,y2,-⟩:=blkR_cells ((hBz.block wr.heap.size (by omega)).trans HBK5.out);have HLC:=hide (HLN.out V6 (own_later HH5.out hBz));have HBZ:=hide hBz;clear hV6 hBz x0 x1 x2 hcv hs1 hs2 HLN;go_wp2_with fail
               refine HLC.out.mono ?_;rintro e w7 ⟨rfl,hB7⟩;have hB57:Below w5.heap.size w5 w7:=HBZ.out.trans (hB7.mono HBZ.out.size);have hs57:=hB57.size;have hat7:=HAT5.out.below hB57;have hol7:=own_later HOL5.out hB57;have hB17:Below w1.heap.size w1 w7:=HB5.out.trans (hB57.mono HB5.out.size);have HAT7:=hide hat7;have HB17:=hide hB17;clear hB7 hB57 hat7 hB17 HLC y0 y1 y2 HAT5 HOL5 HH5 HB5 HBK5 HBZ;go_wp2_with (at_builtin;go_must (refine wpList_append_lies _ rfl _ _ _ rfl w1.heap.size 9 i0 (.string ⟨#[]⟩) 1 16 Tryz.underlying34 hi0 hz0 hz1 hz2 rfl (by decide) _ _ _ rfl (hol7.alloc _) ⟨_,0,none⟩ 1 1 [.string LS] rfl rfl (cell_one_new _ _ _) (by simp [Value.oneCell']) (by omega) (by unfold maxLen;omega) (by omega) (by simp;omega) _ rfl ?_;intro g9 cap9 w9 hown9 hgrow9 hat9 hlt9))
               have hapq:∀ x∈q ++ [((.slice hp P.length hc:Value),(P.reverse,kd,sc))],x.1.ownBlock≠some g:=fun x hx=>by
                rcases List.mem_append.1 hx with h | h
                · exact HAP.out x h
                · rw [List.mem_singleton.1 h];intro e;have:=hhlt g e;omega
               have hat9':=HAT7.out.keepL hol7 rfl hgrow9 hapq;refine ⟨⟨i+1,_,g9,cap9,by go_num,rfl,by omega,HQK2.out,hat9',by rw [HLK.out];exact hown9,?_,below_app HB17.out (by omega) hol7 hgrow9,HH3.out⟩,by simp [intOf];omega⟩;rcases hat9 with h | h
               · have h':(Value.slice (some ⟨g,0,none⟩) i cg).ownBlock=some g9:=h;have hgg:g=g9:=by simpa [Value.ownBlock] using h'
                 subst hgg;exact hapq
               · intro x hx e;have:=((HAT7.out.hosts x hx).lt g9 e).2;rw [World.size_alloc] at h;omega
        · obtain rfl:i=ks.length:=by omega
          have hni:¬ (ks.length:Int)<(ks.length:Int):=by omega
          have htk:ks.take ks.length=ks:=List.take_length;have hqk:=HQK.out;have hol:=HOL.out;have h3:=H3.out;rw [htk] at hqk hol h3;have hA:=HA3.out h3;obtain ⟨-,-,hcg,-,-,hgw,hcl⟩:=own_cells hol;have HAGN:=hide (ragain (ks.map fun k=>listK (rawKey k)) g cg wr hgw (by rw [List.length_map];exact hcg) (fun j hj=>by
           have:=hcl j (by simpa [stV] using hj)
           simpa [stV] using this) (by rw [List.length_map];omega) (fun x hx=>by
           obtain ⟨k,hk,rfl⟩:=List.mem_map.1 hx;exact (raw_small k (HSHT.out k hk)).2.2.2))
          rw [List.length_map] at HAGN;unfold AgPost at HAGN;have HBB:=hide (HB1.out.trans (HB.out.mono hsz1));have HQF:=hide hqk;obtain ⟨o,ho⟩:∃ o,(ks.map fun k=>listK (rawKey k)).foldl agS (some [])=o:=⟨_,rfl⟩
          rw [ho] at HAGN hA;have HA4:=hide hA;clear htk hqk hol h3 hA hcl hcg hgw ho hql;go_wp2_with fail
          refine HAGN.out.mono ?_;rintro e w7 ⟨hB7,he⟩;have HB7:=hide (HBB.out.trans (hB7.mono HBB.out.size));cases o with
          | none =>
            obtain ⟨mm,hmm,rfl⟩:=he;have hm0:(mm != 0)=true:=by simp [hmm]
            have hN:(opnD l).2=6:=by rw [HA4.out]
            have HN:=hide hN;clear hmm hN hB7;go_wp2;go_ret2;exact open_no HN.out (by decide) HB7.out
          | some ps =>
            dsimp only at he;subst he;have hA5:=HA4.out;dsimp only at hA5;have hcmp:((⟨(Sx.imgT (Sx.tabOf ps)).toArray⟩:ByteArray).toList == I.toList)=decide (Sx.imgT (Sx.tabOf ps)=l):=by rw [←HI.out];exact ba_extM
            obtain ⟨IM,hIM⟩:∃ X:ByteArray,⟨(Sx.imgT (Sx.tabOf ps)).toArray⟩=X:=⟨_,rfl⟩
            rw [hIM] at hcmp ⊢;by_cases hE:Sx.imgT (Sx.tabOf ps)=l
            · rw [if_pos hE] at hA5;rw [decide_eq_true hE] at hcmp;have HA6:=hide hA5;have HAT7:=hide (HAT.out.below hB7);clear hA5 hE hIM hB7;go_wp2;go_ret2;unfold OpenPost;rw [HA6.out,if_pos rfl];refine ⟨HB7.out,_,q,rfl,HQF.out,?_⟩;have h9:=HAT7.out;exact ⟨row_base h9.row hsz1,fun x hx=>row_base (h9.hosts x hx) hsz1⟩
            · rw [if_neg hE] at hA5;rw [decide_eq_false hE] at hcmp;have hN:(opnD l).2=6:=by rw [hA5]
              have HN:=hide hN;clear hA5 hE hIM hB7 hN;go_wp2;go_ret2;exact open_no HN.out (by decide) HB7.out
theorem ropenE (l:List UInt8) (w:World):Calls Tryz.prog 153 #[.string ⟨l.toArray⟩] w fun e w'=>Below w.heap.size w w'∧if (opn l).2=0 then ∃ (v:Value) (q:List RlE),e=.returned (.tuple #[v,.int .i64 0])∧q.map (·.2)=(opn l).1∧RlsAt w' w.heap.size v q else e=.returned (.tuple #[.slice none 0 0,.int .i64 (opn l).2]):=by
 have h:=ropen l w;unfold OpenPost at h;rw [opnD_eq] at h;exact h
end Go.Proofs.YtgohllfpceeboaaGreatDoor
