import Derived.Test.YtgohllfpceeboabGreatDoorAnab
import Derived.Test.YtgohllfpceeboabGreatDoorAnaa
import Derived.Deep.QuietTactic
import Derived.BigQuiet
import Derived.WalkSmall
set_option maxRecDepth 100000
set_option maxHeartbeats 2000000
namespace Go.Proofs.YtgohllfpceeboabGreatDoor
open Go.RowKit
theorem eF (k bias:Int)(w:World)(h1:0≤k)(h2:k≤1000000000)(h3:0≤bias)(h4:bias≤1000000) :
 Calls Tryz.prog 204 #[.int .i64 k,.int .i64 bias] w fun e w'=>e=.returned (.int .i64 (Sx.cE k bias))∧w'=w:=by
 by_cases ha:36*(k+1)-bias<1
 · go_enter Tryz.func204,Tryz.ntmps204;go_wp2;go_ret;exact⟨bY (by unfold Sx.cE;rw[if_pos (by omega)]),rfl⟩
 · by_cases hb:26<36*(k+1)-bias
   · go_enter Tryz.func204,Tryz.ntmps204;go_wp2;go_ret;exact⟨bY (by unfold Sx.cE;rw[if_neg (by omega),if_pos (by omega)]),rfl⟩
   · go_enter Tryz.func204,Tryz.ntmps204;go_wp2;go_ret;exact⟨bY (by unfold Sx.cE;rw[if_neg (by omega),if_neg (by omega)]),rfl⟩
theorem fO (d l:Int)(b:Bool)(w:World)(h1:0≤d)(h2:d≤1000000000000)(h3:1≤l)(h4:l≤1000000) :
 Calls Tryz.prog 205 #[.int .i64 d,.int .i64 l,.bool b] w fun e w'=>e=.returned (.int .i64 (Sx.after d l b))∧w'=w:=by
 have key:∀ x:Int,0≤x→0≤x / l∧x / l≤x:=fun x h0=>⟨Int.ediv_nonneg h0 (by omega),Int.ediv_le_self _ h0⟩;have k1:=key (d / 2) (by omega);have k2:=key (d / 700) (by omega);clear key;have hne:l≠0:=by omega
 cases b;all_goals
  go_enter Tryz.func205,Tryz.ntmps205;go_wp2
 · go_loop [0,7] (fun x n=>∃ dd nn:Int,x=.int .i64 dd∧n=.int .i64 nn∧0≤dd∧dd≤3000000000000∧0≤nn∧nn+dd≤3000000000000∧Sx.oM dd nn=Sx.after d l false) (fun x _=>(intOf x).toNat)
   case atStart=>exact⟨_,_,rfl,rfl,by omega,by omega,by omega,by omega,rfl⟩
   case round =>
    obtain⟨dd,nn,rfl,rfl,g1,g2,g3,g4,g5⟩:=hrel;have G:=hide g5;clear g5;by_cases hlt:455<dd
    · go_wp2
      go_round
      case rel=>exact⟨dd / 35,nn+36,rfl,rfl,by omega,by omega,by omega,by omega,by rw[←Sx.oZ dd nn hlt];exact G.out⟩
      case measure=>simp[intOf];omega
    · have hp:0≤36*dd / (dd+38)∧36*dd / (dd+38)<37:=⟨Int.ediv_nonneg (by omega) (by omega),Int.ediv_lt_of_lt_mul (by omega) (by omega)⟩
      go_wp2;go_ret;exact⟨bY (by rw[←G.out,Sx.pG dd nn (by omega)]),rfl⟩
 · go_loop [0,7] (fun x n=>∃ dd nn:Int,x=.int .i64 dd∧n=.int .i64 nn∧0≤dd∧dd≤3000000000000∧0≤nn∧nn+dd≤3000000000000∧Sx.oM dd nn=Sx.after d l true) (fun x _=>(intOf x).toNat)
   case atStart=>exact⟨_,_,rfl,rfl,by omega,by omega,by omega,by omega,rfl⟩
   case round =>
    obtain⟨dd,nn,rfl,rfl,g1,g2,g3,g4,g5⟩:=hrel;have G:=hide g5;clear g5;by_cases hlt:455<dd
    · go_wp2
      go_round
      case rel=>exact⟨dd / 35,nn+36,rfl,rfl,by omega,by omega,by omega,by omega,by rw[←Sx.oZ dd nn hlt];exact G.out⟩
      case measure=>simp[intOf];omega
    · have hp:0≤36*dd / (dd+38)∧36*dd / (dd+38)<37:=⟨Int.ediv_nonneg (by omega) (by omega),Int.ediv_lt_of_lt_mul (by omega) (by omega)⟩
      go_wp2;go_ret;exact⟨bY (by rw[←G.out,Sx.pG dd nn (by omega)]),rfl⟩
theorem CX (x:Int)(h0:0≤x)(h:x<36):ByteArray.extract ⟨#[97,98,99,100,101,102,103,104,105,106,107,108,109,110,111,112,113,114,115,116,117,118,119,120,121,122,48,49,50,51,52,53,54,55,56,57]⟩ x.toNat (x+1).toNat=⟨[Sx.nL x].toArray⟩:=by
 have k:∀ x:Fin 36,ByteArray.extract ⟨#[97,98,99,100,101,102,103,104,105,106,107,108,109,110,111,112,113,114,115,116,117,118,119,120,121,122,48,49,50,51,52,53,54,55,56,57]⟩ x.val (x.val+1)=⟨[Sx.nL (x.val:Int)].toArray⟩:=by decide +kernel
 obtain⟨n,rfl⟩:=Int.eq_ofNat_of_zero_le h0;have:=k ⟨n,by omega⟩;rw[show((n:Int)+1).toNat=n+1 from by omega,Int.toNat_natCast];exact this
theorem i7 (x:Nat)(h:x<36):([97,98,99,100,101,102,103,104,105,106,107,108,109,110,111,112,113,114,115,116,117,118,119,120,121,122,48,49,50,51,52,53,54,55,56,57] : List UInt8)[x]? = some (Sx.nL x):=by
 have:∀ x:Fin 36,([97,98,99,100,101,102,103,104,105,106,107,108,109,110,111,112,113,114,115,116,117,118,119,120,121,122,48,49,50,51,52,53,54,55,56,57] : List UInt8)[x.val]? = some (Sx.nL x.val):=by decide
 exact this ⟨x,h⟩
theorem TI (d bias:Int)(w:World)(h1:0≤d)(h2:d≤1000000000)(h3:0≤bias)(h4:bias≤1000000) :
 Calls Tryz.prog 239 #[.int .i64 d,.int .i64 bias] w fun e w'=>e=.returned (.string ⟨(Sx.iH d 0 bias).toArray⟩)∧w'=w:=by
 go_enter Tryz.func239,Tryz.ntmps239;go_wp2
 go_loop [0,5,6] (fun x s n=>∃ (dd:Int) (k:Nat) (pre:List UInt8),x=.int .i64 dd∧s=.string ⟨pre.toArray⟩∧n=.int .i64 k∧0≤dd∧dd+k≤1000000000∧pre.length=k∧pre++Sx.iH dd k bias=Sx.iH d 0 bias) (fun x _ _=>(intOf x).toNat)
 case atStart=>exact⟨d,0,[],rfl,rfl,rfl,by omega,by omega,rfl,rfl⟩
 case round =>
  obtain⟨dd,k,pre,rfl,rfl,rfl,g1,g2,g3,g5⟩:=hrel;have G:=hide g5;clear g5;have t1:=Sx.eP k bias;have t2:=Sx.fP k bias;have hk:(0:Int)≤k∧(k:Int)≤1000000000:=by omega
  obtain⟨t,ht⟩:∃ t,Sx.cE k bias=t:=⟨_,rfl⟩
  have HT:=hide ht;by_cases hlt:Sx.cE k bias≤dd
  · have hs:=Sx.lP dd _ t1 t2 hlt;have hr:0≤(dd-Sx.cE k bias) % (36-Sx.cE k bias)∧(dd-Sx.cE k bias) % (36-Sx.cE k bias)<36-Sx.cE k bias:=⟨Int.emod_nonneg _ (by omega),Int.emod_lt_of_pos _ (by omega)⟩
    rw[ht] at t1 t2 hlt hs hr;clear ht;go_wp2_with (go_at_call 204;refine(eF _ _ _ (by omega) (by omega) (by omega) (by omega)).mono ?_;rintro e w' ⟨rfl,rfl⟩;rw[HT.out])
    rw[CX _ (by omega) (by omega),bF]
    go_round
    case rel =>
     refine⟨(dd-t) / (36-t),k+1,pre++[Sx.nL (t+(dd-t) % (36-t))],rfl,rfl,by go_num,hs.1,by omega,by simp[g3],?_⟩;rw[←G.out,Sx.jA dd k bias g1 (by rw[HT.out];exact hlt),HT.out];simp
    case measure=>simp[intOf];omega
  · rw[ht] at t1 t2 hlt;clear ht;go_wp2_with (go_at_call 204;refine(eF _ _ _ (by omega) (by omega) (by omega) (by omega)).mono ?_;rintro e w' ⟨rfl,rfl⟩;rw[HT.out])
    go_ret;rw[CX _ (by omega) (by omega),bF];exact⟨gV (a:=⟨(pre++[Sx.nL dd]).toArray⟩) (by rw[←G.out,Sx.fD dd k bias (by rw[HT.out];omega)]),rfl⟩
theorem IL (k:Nat)(hk:k<36)(hb:k<(⟨#[97,98,99,100,101,102,103,104,105,106,107,108,109,110,111,112,113,114,115,116,117,118,119,120,121,122,48,49,50,51,52,53,54,55,56,57]⟩:ByteArray).size):(⟨#[97,98,99,100,101,102,103,104,105,106,107,108,109,110,111,112,113,114,115,116,117,118,119,120,121,122,48,49,50,51,52,53,54,55,56,57]⟩:ByteArray)[k]'hb=Sx.nL k:=by
 have:=i7 k hk;show(#[97,98,99,100,101,102,103,104,105,106,107,108,109,110,111,112,113,114,115,116,117,118,119,120,121,122,48,49,50,51,52,53,54,55,56,57] : Array UInt8)[k]'hb=Sx.nL k;rw[Array.getElem_eq_iff]
 simpa using this
theorem VL (k:Nat)(hk:k<36)(hb:k<(⟨#[97,98,99,100,101,102,103,104,105,106,107,108,109,110,111,112,113,114,115,116,117,118,119,120,121,122,48,49,50,51,52,53,54,55,56,57]⟩:ByteArray).size)(c:UInt8)(h:((((⟨#[97,98,99,100,101,102,103,104,105,106,107,108,109,110,111,112,113,114,115,116,117,118,119,120,121,122,48,49,50,51,52,53,54,55,56,57]⟩:ByteArray)[k]'hb).toNat:Int) == (c.toNat:Int))=true):Sx.nL k=c:=by
 rw[IL k hk hb] at h;have h7:((Sx.nL k).toNat:Int)=(c.toNat:Int):=by simpa using h
 have:(Sx.nL k).toNat=c.toNat:=by omega
 exact UInt8.toNat.inj this
theorem q8 (k:Nat)(hk:k<36)(hb:k<(⟨#[97,98,99,100,101,102,103,104,105,106,107,108,109,110,111,112,113,114,115,116,117,118,119,120,121,122,48,49,50,51,52,53,54,55,56,57]⟩:ByteArray).size)(c:UInt8)(h:((((⟨#[97,98,99,100,101,102,103,104,105,106,107,108,109,110,111,112,113,114,115,116,117,118,119,120,121,122,48,49,50,51,52,53,54,55,56,57]⟩:ByteArray)[k]'hb).toNat:Int) == (c.toNat:Int))=false):Sx.nL k≠c:=by
 rw[IL k hk hb] at h;rintro rfl;simp at h
theorem eJ (c:UInt8)(w:World) :
 Calls Tryz.prog 203 #[.int .u8 c.toNat] w fun e w'=>e=.returned (.int .i64 (Sx.valOf c))∧w'=w:=by
 have hc:(0:Int)≤c.toNat∧(c.toNat:Int)<256:=by have:=c.toNat_lt;omega
 go_enter Tryz.func203,Tryz.ntmps203;go_wp2
 go_loop [3] (fun i=>∃ (k:Nat),i=.int .i64 k∧k≤36∧∀ j,j<k→Sx.nL (j:Nat)≠c) (fun i=>(36-intOf i).toNat)
 case atStart=>exact⟨0,rfl,by omega,fun j h=>by omega⟩
 case round =>
  obtain⟨k,rfl,g1,g2⟩:=hrel;have G2:=hide g2;clear g2;by_cases hlt:k<36
  · go_wp2
    · go_ret;have h5:=VL k hlt _ c ‹_›;exact⟨bY (by rw[←h5,Sx.nK k hlt]),rfl⟩
    · have h5:=q8 k hlt _ c ‹_›
      go_round
      case rel =>
       refine⟨k+1,by go_num,by omega,fun j hj=>?_⟩;rcases Nat.lt_or_ge j k with h6 | h6
       · exact G2.out j h6
       · rw[show j=k from by omega];exact h5
      case measure=>simp[intOf];omega
  · have h36:k=36:=by omega
    go_wp2;go_ret;exact⟨bY (by rw[Sx.JY c (fun j hj=>G2.out j (by omega))]),rfl⟩
theorem sZ (W:World)(c:Int)(h0:0≤c)(h1:c<256):(convert 90 9 (.slice (some ⟨W.heap.size,0,none⟩) 1 1)).run Tryz.prog (W.alloc (.cells #[.int .u8 c] 5))=.ok (.string ⟨[UInt8.ofNat c.toNat].toArray⟩) (W.alloc (.cells #[.int .u8 c] 5)):=by
 refine run_convert_bytes_back (P:=Tryz.prog) _ 90 9 5 ⟨W.heap.size,0,none⟩ 1 [UInt8.ofNat c.toNat] Tryz.underlying90 Tryz.underlying5 Tryz.underlying9 (fun j hj=>?_);have hj0:j=0:=by simpa using hj
 subst hj0;have:=cell_one_new W (.int .u8 c) 5 0 (.int .u8 c) rfl;rw[this,gI c h0 h1];rfl
theorem zS (l:List Int)(k:Nat)(hlt:k<l.length)(c:Int)(hc:l[k]=c)(h:c<128):Sx.aE (l.take (k+1))=Sx.aE (l.take k)++[UInt8.ofNat c.toNat]:=by
 rw[Sx.take_snoc l k hlt,hc];unfold Sx.aE;rw[List.filter_append];simp[h]
theorem EP (l:List Int)(k:Nat)(hlt:k<l.length)(c:Int)(hc:l[k]=c)(h:¬ c<128):Sx.aE (l.take (k+1))=Sx.aE (l.take k):=by
 rw[Sx.take_snoc l k hlt,hc];unfold Sx.aE;rw[List.filter_append];simp[h]
theorem zF (l:List Int)(k:Nat)(hlt:k<l.length)(c:Int)(hc:l[k]=c)(b:Bool)(h:decide (c<128)=b):AH ((l.take (k+1)).map fun c=>decide (c<128))=AH ((l.take k).map fun c=>decide (c<128))++[.bool b]:=by
 rw[Sx.take_snoc l k hlt,hc,List.map_append,D3];simp[AH,h]
theorem vY {w:World}{B b cap:Nat}{fl:List Bool}{n:Nat}(h:w.ownsRow B 4 1 (.slice (some ⟨b,0,none⟩) n cap) n (AH fl))(k:Nat)(hk:k<n):w.cell? ⟨b,k,none⟩=some (.bool (fl.getD k false)):=by
 obtain⟨_,hl,_,_,_,_,hc⟩:=bR h;have hl2:fl.length=n:=by simpa[AH] using hl
 have:=hc k (by simp[AH];omega);rw[this];have hk2:k<fl.length:=by omega
 simp[AH,List.getElem?_eq_getElem hk2]
theorem JE {w:World}{b off:Nat}{l:List Int}(hr:∀ j (h:j<l.length),w.cell? ⟨b,off+j,none⟩=some (.int .i64 l[j]))(k:Nat)(hk:k<l.length):w.cell? ⟨b,off+k,none⟩=some (.int .i64 (l.getD k 0)):=by
 rw[hr k hk];simp[List.getElem?_eq_getElem hk]
theorem C0 (fl:List Bool)(k:Nat)(b:Bool):(AH fl).set k (.bool b)=AH (fl.set k b):=by simp[AH,List.map_set]
theorem KF (fl:List Bool)(k:Nat)(hk:k<fl.length):(fl.take (k+1)).countP id=(fl.take k).countP id+if fl.getD k false then 1 else 0:=by
 rw[List.take_succ_eq_append_getElem hk,List.countP_append];simp[List.getElem?_eq_getElem hk,List.countP_cons]
theorem DJ (l:List Int)(c0:Nat)(todo:List Nat)(pre:List UInt8)(bias n i m:Int)(first:Bool)(h:pre++Sx.bK ((c0::todo).map (Sx.bQ l)) bias n i m first=Sx.enc l) :
 (pre++Sx.iH ((l.getD c0 0-n)*(m+1)+(Sx.bZ l c0:Int)-(i+1)) 0 bias)++Sx.bK (todo.map (Sx.bQ l)) (Sx.after ((l.getD c0 0-n)*(m+1)+(Sx.bZ l c0:Int)-(i+1)) (m+1) first) (l.getD c0 0) (Sx.bZ l c0) (m+1) false=Sx.enc l:=by
 rw[←h];simp only[List.map_cons,Sx.bQ,Sx.bK,List.append_assoc]
theorem yJ (l:List Int)(b off cap:Nat)(w:World)(hl0:0<l.length)(hl:l.length≤100)(hb:b<w.heap.size)
 (hr:∀ j (h:j<l.length),w.cell? ⟨b,off+j,none⟩=some (.int .i64 l[j])) (hv:∀ c∈l,0≤c∧c≤1114111) :
 Calls Tryz.prog 206 #[.slice (some ⟨b,off,none⟩) l.length cap] w fun e w'=>e=.returned (.string ⟨(Sx.enc l).toArray⟩)∧Below w.heap.size w w'∧(Sx.enc l).length≤30000000000:=by
 obtain⟨i0,hi,hz0,hz1,hz2⟩:=info_parts Tryz.info4;go_enter Tryz.func206,Tryz.ntmps206;go_wp2
 go_loopw [3,4,5,6] (fun s x n i wr=>∃ (k:Nat),i=.int .i64 k∧k≤l.length∧s=.string ⟨(Sx.aE (l.take k)).toArray⟩∧n=.int .i64 (Sx.aE (l.take k)).length∧wr.ownsRow w.heap.size 4 1 x k (AH ((l.take k).map fun c=>decide (c<128)))∧Below w.heap.size w wr) (fun _ _ _ i _=>(l.length-intOf i).toNat)
 case atStart=>exact⟨0,rfl,by omega,rfl,rfl,by simpa[AH] using World.ownsRow_nil w _ 4 1,Below.refl _ _⟩
 case round =>
  obtain⟨k,rfl,hk,rfl,rfl,hown,hB⟩:=hrel;have hsz:=hB.size;by_cases hlt:k<l.length
  · have hcell0:w.cell? ⟨b,off+k,none⟩=some (.int .i64 l[k]):=hr k hlt;have hvk:=hv l[k] (List.getElem_mem hlt);obtain⟨c,hcc⟩:∃ c,l[k]=c:=⟨_,rfl⟩
    rw[hcc] at hcell0 hvk;have hcell:wr.cell? ⟨b,off+k,none⟩=some (.int .i64 c):=(hB.cell (p:=⟨b,off+k,none⟩) hb).trans hcell0;have HC:=hide hcc;have HC0:=hide hcell0;clear hcc hr hv hcell0;have hpl:(Sx.aE (l.take k)).length≤k:=by unfold Sx.aE;have:=List.length_filter_le (fun c:Int=>decide (c<128)) (l.take k);have:=List.length_take_le k l;simp;omega
    by_cases c1:c<128
    · have hcv:=fun W=>sZ W c (by omega) (by omega);go_wp2_with (at_builtin;go_must (refine wpList_append_lies _ rfl _ _ _ rfl w.heap.size 4 i0 (.bool false) 1 1 Tryz.underlying311 hi hz0 hz1 hz2 rfl (by decide) _ _ _ rfl (hown.alloc _) ⟨wr.heap.size,0,none⟩ 1 1 [.bool true] rfl rfl (cell_one_new _ _ _) (by simp[Value.oneCell']) (by omega) (by unfold maxLen;omega) (by omega) (by simp;omega) _ rfl ?_;intro g cap w1 hown1 hgrow hat hlt1;have hB1:=aH hB hsz hown hgrow;have hcell1:w1.cell? ⟨b,off+k,none⟩=some (.int .i64 c):=(hB1.cell (p:=⟨b,off+k,none⟩) hb).trans HC0.out))
      rw[show(#[UInt8.ofNat c.toNat] : Array UInt8)=[UInt8.ofNat c.toNat].toArray from rfl,bF];exact⟨⟨k+1,by go_num,by omega,by rw[zS l k hlt c HC.out c1],by rw[zS l k hlt c HC.out c1];simp,by rw[zF l k hlt c HC.out true (by simpa using c1)];exact hown1.alloc _,hB1.alloc (by have:=hB1.size;omega) _⟩,by simp[intOf];omega⟩
    · go_wp2_with (at_builtin;go_must (refine wpList_append_lies _ rfl _ _ _ rfl w.heap.size 4 i0 (.bool false) 1 1 Tryz.underlying311 hi hz0 hz1 hz2 rfl (by decide) _ _ _ rfl (hown.alloc _) ⟨wr.heap.size,0,none⟩ 1 1 [.bool false] rfl rfl (cell_one_new _ _ _) (by simp[Value.oneCell']) (by omega) (by unfold maxLen;omega) (by omega) (by simp;omega) _ rfl ?_;intro g cap w1 hown1 hgrow hat hlt1;have hB1:=aH hB hsz hown hgrow;have hcell1:w1.cell? ⟨b,off+k,none⟩=some (.int .i64 c):=(hB1.cell (p:=⟨b,off+k,none⟩) hb).trans HC0.out))
      exact⟨⟨k+1,by go_num,by omega,by rw[EP l k hlt c HC.out c1],by rw[EP l k hlt c HC.out c1],by rw[zF l k hlt c HC.out false (by simpa using c1)];exact hown1,hB1⟩,by simp[intOf];omega⟩
  · have hk1:k=l.length:=by omega
    subst hk1;obtain⟨g,cap2,rfl,hg1,hg2⟩:=hown.form hl0;have hown0:wr.ownsRow w.heap.size 4 1 (.slice (some ⟨g,0,none⟩) l.length cap2) l.length (AH (Sx.flags l [])):=by rw[Sx.oW];simpa using hown
    have hpo:=Sx.eX l;clear hown;rw[List.take_length];have HV:=hide hv;have HR:=hide hr;clear hv hr;have hst:∃ h0,Sx.dT l=h0∧(0<(Sx.aE l).length→h0=Sx.aE l++[45])∧(¬ 0<(Sx.aE l).length→h0=Sx.aE l):=⟨_,rfl,fun h=>by unfold Sx.dT;rw[if_pos h],fun h=>by unfold Sx.dT;rw[if_neg h,List.append_nil]⟩
    obtain⟨h0,hh0,hh1,hh2⟩:=hst;have HH0:=hide hh0;have HH1:=hide hh1;have HH2:=hide hh2;clear hh0 hh1 hh2;by_cases hpz:0<(Sx.aE l).length;all_goals
     go_wp2
     go_loopw [3,5,7,8,9,10] (fun s cnt bi nn ii fi wr=>∃ (done todo:List Nat) (pre:List UInt8) (bias n i:Int) (m:Nat),s=.string ⟨pre.toArray⟩∧cnt=.int .i64 m∧bi=.int .i64 bias∧nn=.int .i64 n∧ii=.int .i64 i∧fi=.bool done.isEmpty∧m=(Sx.aE l).length+done.length∧Sx.fF l=done++todo∧0≤bias∧bias≤180∧128≤n∧n≤1114111 ∧ -1≤i∧i≤m∧pre.length≤1000+200000000*done.length∧Sx.Later l todo n i∧pre++Sx.bK (todo.map (Sx.bQ l)) bias n i m done.isEmpty=Sx.enc l∧wr.ownsRow w.heap.size 4 1 (.slice (some ⟨g,0,none⟩) l.length cap2) l.length (AH (Sx.flags l done))∧Below w.heap.size w wr) (fun _ cnt _ _ _ _ _=>(l.length-intOf cnt).toNat)
     case atStart =>
      refine⟨[],Sx.fF l,h0,72,128,-1,(Sx.aE l).length,?_,rfl,rfl,rfl,rfl,rfl,rfl,rfl,by omega,by omega,by omega,by omega,by omega,by omega,by have:=Sx.IE l hl;rw[HH0.out] at this;omega,Sx.iE l,by rw[←HH0.out];rfl,hown0,hB⟩;first
       | rw[show(#[45] : Array UInt8)=[45].toArray from rfl,bF,←HH1.out hpz]
       | rw[HH2.out hpz]
     case round =>
      obtain⟨done,todo,pre,bias,n,i,m,rfl,rfl,rfl,rfl,rfl,rfl,hm,ho,hbi0,hbi1,hn0,hn1,hi0,hi1,hpl,hlat,hq,hown,hB2⟩:=hrel;have HM:=hide hm;have HO:=hide ho;have HLAT:=hide hlat;have HQ:=hide hq;have hlen2:(Sx.aE l).length+done.length+todo.length=l.length:=by rw[←hpo,ho];simp;omega
      have hplb:pre.length≤30000000000:=by omega
      have HPL:=hide hpl;clear hpl;have hml:m+todo.length=l.length:=by omega
      clear hm ho hlat hq hlen2 hown0 hB;have hsz2:=hB2.size;cases todo with
      | nil =>
        have hml0:¬ m<l.length:=by simp at hml;omega
        clear hml;go_wp2;go_ret;exact⟨gV (by rw[←HQ.out];simp[Sx.bK]),hB2,by rw[←HQ.out];simpa[Sx.bK] using hplb⟩
      | cons c0 todo =>
        have hml0:m<l.length:=by simp at hml;omega
        clear hml;go_wp2
        go_loopw [11,12] (fun x kk wr2=>∃ (k:Nat) (c:Int),x=.int .i64 c∧kk=.int .i64 k∧k≤l.length ∧ -1≤c∧c≤100∧Sx.MinAt l (Sx.flags l done) k c∧wr2.ownsRow w.heap.size 4 1 (.slice (some ⟨g,0,none⟩) l.length cap2) l.length (AH (Sx.flags l done))∧Below w.heap.size w wr2) (fun _ kk _=>(l.length-intOf kk).toNat)
        case atStart=>exact⟨0,-1,rfl,rfl,by omega,by omega,by omega,Sx.MinAt.zero _ _,hown,hB2⟩
        case round =>
         obtain⟨k,c,rfl,rfl,hk,hc0,hc1,hmin,hown3,hB3⟩:=hrel;have HMIN:=hide hmin;clear hmin hown hB2 hsz2;by_cases hlt:k<l.length
         · have hfk:=vY hown3 k hlt;have hlk:wr.cell? ⟨b,off+k,none⟩=some (.int .i64 (l.getD k 0)):=(hB3.cell (p:=⟨b,off+k,none⟩) hb).trans (JE HR.out k hlt);obtain⟨f,hf⟩:∃ f,(Sx.flags l done).getD k false=f:=⟨_,rfl⟩
           obtain⟨lk,hlk2⟩:∃ lk,l.getD k 0=lk:=⟨_,rfl⟩
           rw[hf] at hfk;rw[hlk2] at hlk;have HF:=hide hf;have HLK:=hide hlk2;clear hf hlk2;cases f with
           | true =>
             go_wp2;go_quiet ((fail))
             go_wp2;exact⟨⟨k+1,c,rfl,by go_num,by omega,by omega,by omega,HMIN.out.skip HF.out,hown3,Go.below_drewN hB3 _⟩,by simp[intOf];omega⟩
           | false =>
             by_cases hcn:c<0
             · go_wp2;go_quiet ((fail))
               go_wp2;exact⟨⟨k+1,k,rfl,by go_num,by omega,by omega,by omega,HMIN.out.first hcn HF.out,hown3,Go.below_drewN hB3 _⟩,by simp[intOf];omega⟩
             · obtain⟨cn,rfl,hcnk⟩:=HMIN.out.nat hcn;have hlc:wr.cell? ⟨b,off+cn,none⟩=some (.int .i64 (l.getD cn 0)):=(hB3.cell (p:=⟨b,off+cn,none⟩) hb).trans (JE HR.out cn (by omega));obtain⟨lc,hlc2⟩:∃ lc,l.getD cn 0=lc:=⟨_,rfl⟩
               rw[hlc2] at hlc;have HLC:=hide hlc2;clear hlc2;have hd:decide ((cn:Int)<0)=false:=by simp
               have hcl1:(0:Int)≤(cn:Int):=by omega
               have hcl2:(cn:Int)<(l.length:Int):=by omega
               by_cases hless:lk<lc
               · have hd2:decide (lk<lc)=true:=by simpa using hless
                 go_wp2;go_quiet ((fail))
                 go_wp2;exact⟨⟨k+1,k,rfl,by go_num,by omega,by omega,by omega,HMIN.out.less HF.out (by rw[HLK.out,HLC.out];exact hless),hown3,Go.below_drewN hB3 _⟩,by simp[intOf];omega⟩
               · have hd2:decide (lk<lc)=false:=by simpa using hless
                 go_wp2;go_quiet ((fail))
                 go_wp2;exact⟨⟨k+1,cn,rfl,by go_num,by omega,by omega,by omega,HMIN.out.keep (by rw[HLK.out,HLC.out];omega),hown3,Go.below_drewN hB3 _⟩,by simp[intOf];omega⟩
         · have hkl:k=l.length:=by omega
           subst hkl;have hcc0:=HMIN.out.done HO.out;subst hcc0;clear HMIN;have hc0l:=(Sx.cQ l done (c0::todo) HO.out c0 (List.mem_cons_self ..))
           obtain⟨hcl,hcf,hcfl⟩:=hc0l;have HCFL:=hide hcfl;clear hcfl;have hlm:wr.cell? ⟨b,off+c0,none⟩=some (.int .i64 (l.getD c0 0)):=(hB3.cell (p:=⟨b,off+c0,none⟩) hb).trans (JE HR.out c0 hcl);have hlm1:l.getD c0 0≤1114111:=by
            have:=(HV.out l[c0] (List.getElem_mem hcl)).2
            simpa[List.getElem?_eq_getElem hcl] using this
           have hlat0:=HLAT.out c0 (List.mem_cons_self ..);have hst0:=Sx.fB l done todo c0 HO.out;have hst1:=Sx.nC l done todo c0 HO.out;have hmeq:=HM.out;have hnn:=Sx.kK (l.getD c0 0) n (Sx.bZ l c0) i m hlat0 hi1 (by omega) (by omega);have hle:=Sx.nI (l.getD c0 0) n (Sx.bZ l c0) i m hlm1 hn0 hi0 (by omega) (by omega) (by omega);have hge0:0≤(l.getD c0 0-n)*((m:Int)+1):=Int.mul_nonneg (by omega) (by omega);have hmore:=DJ l c0 todo pre bias n i m done.isEmpty HQ.out;have hlat2:=Sx.jJ l done todo c0 HO.out;obtain⟨lm,hlmd⟩:∃ lm,l.getD c0 0=lm:=⟨_,rfl⟩
           obtain⟨st,hstd⟩:∃ st,Sx.bZ l c0=st:=⟨_,rfl⟩
           rw[hlmd] at hlm hlm1 hnn hle hge0 hmore hlat2 hlat0;rw[hstd] at hnn hle hmore hlat2 hst0 hst1 hlat0;have hnlm:n≤lm:=by omega
           have HMORE:=hide hmore;have HLAT2:=hide hlat2;have HST1:=hide hst1;have hst0':st≤m:=by omega
           clear hmore hlat2 hst1 hlmd hstd hlat0 hmeq HLAT HQ hst0 hcf;obtain⟨hle1,hle2⟩:=hle;go_wp2
           go_loop [13,14] (fun jj kk=>∃ (k j:Nat),jj=.int .i64 j∧kk=.int .i64 k∧k≤c0∧j≤k∧((Sx.flags l done).take k).countP id=j) (fun _ kk=>(c0-intOf kk).toNat)
           case atStart=>exact⟨0,0,rfl,rfl,by omega,by omega,by simp⟩
           case round =>
            obtain⟨k,j,rfl,rfl,hk2,hj2,hcnt⟩:=hrel;have HCNT:=hide hcnt;clear hcnt;by_cases hlt2:k<c0
            · have hfk:=vY hown3 k (by omega);have hmo:=KF (Sx.flags l done) k (by rw[Sx.eK];omega);rw[HCNT.out] at hmo;obtain⟨f,hf⟩:∃ f,(Sx.flags l done).getD k false=f:=⟨_,rfl⟩
              rw[hf] at hfk hmo;clear hf;cases f with
              | true =>
                have HMO:=hide hmo;clear hmo;go_wp2
                go_round
                case rel=>exact⟨k+1,j+1,by go_num,by go_num,by omega,by omega,by rw[HMO.out];rfl⟩
                case measure=>simp[intOf];omega
              | false =>
                have HMO:=hide hmo;clear hmo;go_wp2
                go_round
                case rel=>exact⟨k+1,j,rfl,by go_num,by omega,by omega,by rw[HMO.out];rfl⟩
                case measure=>simp[intOf];omega
            · have hkc:k=c0:=by omega
              subst hkc;have hjs:j=st:=by rw[←HCNT.out,HST1.out]
              subst hjs;have hab:=Sx.mL ((lm-n)*((m:Int)+1)+(j:Int)-(i+1)) (m+1) done.isEmpty hnn (by omega) (by omega);have hwl:=Sx.vU ((lm-n)*((m:Int)+1)+(j:Int)-(i+1)) 0 bias hle2;have hfz:=hown3.frozenAt k;have hcx:=vY hown3 k hcl;go_wp2_with (first | (go_at_call 239;go_must (refine(TI _ _ _ (by omega) (by omega) (by omega) (by omega)).mono ?_;rintro e w' ⟨rfl,rfl⟩)) | (go_at_call 205;go_must (refine(fO _ _ _ _ (by omega) (by omega) (by omega) (by omega)).mono ?_;rintro e w' ⟨rfl,rfl⟩)))
              rw[bF];refine⟨⟨done++[k],todo,_,_,_,_,m+1,rfl,by go_num,rfl,rfl,rfl,by simp,?_,?_,hab.1,hab.2,by omega,hlm1,by omega,by omega,?_,HLAT2.out,?_,?_,hB3.setCell (p:=⟨g,k,none⟩) hg1 _⟩,by simp[intOf];omega⟩
              · rw[HM.out];simp;omega
              · rw[HO.out];simp
              · have:=HPL.out;simp;omega
              · have:=HMORE.out;rw[show((m+1:Nat):Int)=(m:Int)+1 from by omega,show(done++[k]).isEmpty=false from by simp];exact this
              · have:=hown3.stored k (.bool true);rw[C0,Sx.pJ l done todo k HO.out] at this;exact this.1
end Go.Proofs.YtgohllfpceeboabGreatDoor
