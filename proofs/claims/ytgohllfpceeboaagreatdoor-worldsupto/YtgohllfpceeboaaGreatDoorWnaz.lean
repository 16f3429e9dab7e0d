import Derived.Test.YtgohllfpceeboaaGreatDoorWnaw
import Derived.Test.YtgohllfpceeboaaGreatDoorWnay
import Derived.Deep.RegionLaw
import Derived.Shelf.Strings.OnBuilder
import Derived.Shelf.Strings.Search1
import Derived.Shelf.Strings.Search2
import Derived.Shelf.Sort.Plain
import Derived.Shelf.Slices.In.SortNone
set_option maxRecDepth 100000
set_option maxHeartbeats 1000000
namespace Go.Proofs.YtgohllfpceeboaaGreatDoor
open Go.RowKit
theorem Tryz.info98:(Tryz.prog.info? 98).map (fun i=>(i.zero,i.size,i.bytes))=some (some (.agg #[.int .u8 0,.string ⟨#[]⟩,.int .i64 0,.int .u8 0]),4,40):=by kernel_rfl
def prC (r:Sx.Rl):List Value:=[.int .u8 r.2.1.toNat,.string ⟨(Sx.dotted r.1).toArray⟩,.int .i64 r.1.length,.int .u8 r.2.2.toNat]
def prV (rs:List Sx.Rl):List Value:=rs.flatMap prC
theorem prV_app (a b:List Sx.Rl):prV (a ++ b)=prV a ++ prV b:=by simp [prV]
theorem prV_get:∀ (l:List Sx.Rl) (j:Nat) (h:j<l.length),(prV l)[j*4]? = some (.int .u8 l[j].2.1.toNat)∧(prV l)[j*4+1]? = some (.string ⟨(Sx.dotted l[j].1).toArray⟩)∧(prV l)[j*4+2]? = some (.int .i64 l[j].1.length)∧(prV l)[j*4+3]? = some (.int .u8 l[j].2.2.toNat):=by
 intro l
 induction l with
 | nil=>intro j h;exact absurd h (Nat.not_lt_zero _)
 | cons x r ih =>
   intro j h;have e:prV (x :: r)=Value.int .u8 x.2.1.toNat :: Value.string ⟨(Sx.dotted x.1).toArray⟩ :: Value.int .i64 x.1.length :: Value.int .u8 x.2.2.toNat :: prV r:=rfl;cases j with
   | zero=>rw [e];exact ⟨rfl,rfl,rfl,rfl⟩
   | succ j =>
     have:=ih j (by simpa using h);rw [e,show (j+1)*4=j*4+1+1+1+1 from by omega]
     simpa using this
def PrAt (W:World) (v:Value) (rs:List Sx.Rl):Prop:=∃ p cap,v=.slice p rs.length cap∧∀ j (h:j<rs.length),∃ b,p=some ⟨b,0,none⟩∧b<W.heap.size∧W.cell? ⟨b,j*4,none⟩=some (.int .u8 rs[j].2.1.toNat)∧W.cell? ⟨b,j*4+1,none⟩=some (.string ⟨(Sx.dotted rs[j].1).toArray⟩)∧W.cell? ⟨b,j*4+2,none⟩=some (.int .i64 rs[j].1.length)∧W.cell? ⟨b,j*4+3,none⟩=some (.int .u8 rs[j].2.2.toNat)
theorem prAt_own {W:World} {B:Nat} {v:Value} {rs:List Sx.Rl} (h:W.ownsRow B 98 4 v rs.length (prV rs)):PrAt W v rs:=by
 obtain ⟨p,cap,hv⟩:=own_shapeK h;refine ⟨p,cap,hv,fun j hj=>?_⟩;rcases h.2 with ⟨e1,e2⟩ | ⟨g,cap,cur,e1,e2,e3,e4⟩
 · omega
 · have hp:p=some ⟨g,0,none⟩:=by rw [hv] at e1;injection e1
   obtain ⟨a1,a2,a3,a4⟩:=prV_get rs j hj;have c1:=h.cells (g:=g) (by rw [e1];rfl) _ _ a1;have c2:=h.cells (g:=g) (by rw [e1];rfl) _ _ a2;have c3:=h.cells (g:=g) (by rw [e1];rfl) _ _ a3;have c4:=h.cells (g:=g) (by rw [e1];rfl) _ _ a4;rw [Addr.add_lit,Nat.zero_add] at c1 c2 c3 c4;exact ⟨g,hp,(Array.getElem?_eq_some_iff.1 e3).1,c1,c2,c3,c4⟩
theorem PrAt.below {W W':World} {v:Value} {rs:List Sx.Rl} (h:PrAt W v rs) (hb:Below W.heap.size W W'):PrAt W' v rs:=by
 obtain ⟨p,cap,h1,h2⟩:=h;refine ⟨p,cap,h1,fun j hj=>?_⟩;obtain ⟨b,e1,e2,c1,c2,c3,c4⟩:=h2 j hj;exact ⟨b,e1,Nat.lt_of_lt_of_le e2 hb.size,(hb.cell (p:=⟨b,j*4,none⟩) e2).trans c1,(hb.cell (p:=⟨b,j*4+1,none⟩) e2).trans c2,(hb.cell (p:=⟨b,j*4+2,none⟩) e2).trans c3,(hb.cell (p:=⟨b,j*4+3,none⟩) e2).trans c4⟩
def knB (r q:Sx.Rl):Bool:=decide (Sx.dotted q.1=Sx.dotted r.1) && decide (q.2.1=r.2.1)
theorem pknw (r q:Sx.Rl) (w:World):Calls Tryz.prog 194 #[ruA r,ruA q] w fun e w'=>e=.returned (.bool (knB r q))∧Below w.heap.size w w':=by
 obtain ⟨h,k,sc⟩:=r;obtain ⟨h2,k2,sc2⟩:=q;unfold ruA knB;dsimp only;generalize h.length=N1;generalize h2.length=N2;generalize Sx.dotted h=D1;generalize Sx.dotted h2=D2;have hB:∀ o o2:Obj,Below w.heap.size w ((w.alloc o).alloc o2):=fun o o2=>((Below.refl _ _).alloc (Nat.le_refl _) _).alloc (by rw [World.size_alloc];exact Nat.le_succ _) _;have HB:=hide hB;clear hB;by_cases hk:k=k2
 · subst hk;have hd:(decide (D2=D1) && decide (k=k))=((⟨D1.toArray⟩:ByteArray).toList == (⟨D2.toArray⟩:ByteArray).toList):=by
    rw [ByteArray.toList_eq,ByteArray.toList_eq];by_cases h:D2=D1
    · simp [h]
    · simp [h,Ne.symm h]
   rw [hd];clear hd;go_enter Tryz.func194,Tryz.ntmps194;go_wp2_with fail
   go_ret;exact ⟨by first | rfl | simp,HB.out _ _⟩
 · have hkb:((k.toNat:Int) == (k2.toNat:Int))=false:=by
    rw [beq_eq_false_iff_ne];intro e;exact hk (UInt8.toNat_inj.1 (by omega))
   have hkn:¬ (k.toNat:Int)=(k2.toNat:Int):=by simpa using hkb
   have hd:(decide (D2=D1) && decide (k2=k))=false:=by simp [Ne.symm hk]
   rw [hd];clear hd;go_enter Tryz.func194,Tryz.ntmps194;go_wp2_with fail
   go_ret;exact ⟨rfl,HB.out _ _⟩
theorem pidx (rs:List Sx.Rl) (r:Sx.Rl) (v:Value) (w:World) (hv:PrAt w v rs) (hn:rs.length≤1000):Calls Tryz.prog 242 #[v,.func (.func 194) #[ruA r] #[]] w fun e w'=>Below w.heap.size w w'∧∃ i:Int,e=.returned (.int .i64 i)∧decide (0≤i)=Sx.known rs r:=by
 obtain ⟨p,cap,rfl,hrd⟩:=hv;have HRD:=hide hrd;have hK:∀ q:Sx.Rl,∀ w,Calls Tryz.prog 194 #[ruA r,.agg #[.int .u8 q.2.1.toNat,.string ⟨(Sx.dotted q.1).toArray⟩,.int .i64 q.1.length,.int .u8 q.2.2.toNat]] w fun e w'=>e=.returned (.bool (knB r q))∧Below w.heap.size w w':=fun q w=>pknw r q w;have HK:=hide hK;clear hrd hK;obtain ⟨A,hA⟩:∃ A,ruA r=A:=⟨_,rfl⟩
 rw [hA] at HK ⊢;clear hA;go_enter Tryz.func242,Tryz.ntmps242;go_wp2
 go_loopw [8] (fun i wr=>∃ k:Nat,i=.int .i64 k∧k≤rs.length∧Sx.known (rs.take k) r=false∧Below w.heap.size w wr) (fun i _=>(rs.length-intOf i).toNat)
 case atStart=>exact ⟨0,rfl,by omega,rfl,Below.refl _ _⟩
 case round =>
  obtain ⟨k,rfl,hk,hkn,hB⟩:=hrel;have hsz:=hB.size;by_cases hlt:k<rs.length
  · obtain ⟨b,rfl,hb,c1,c2,c3,c4⟩:=HRD.out k hlt;have d1:=(hB.cell (p:=⟨b,k*4,none⟩) hb).trans c1;have d2:=(hB.cell (p:=⟨b,k*4+1,none⟩) hb).trans c2;have d3:=(hB.cell (p:=⟨b,k*4+2,none⟩) hb).trans c3;have d4:=(hB.cell (p:=⟨b,k*4+3,none⟩) hb).trans c4;have hst:Sx.known (rs.take (k+1)) r=knB r rs[k]:=by
     unfold Sx.known at hkn ⊢;rw [List.take_succ_eq_append_getElem hlt,List.any_append,hkn];simp [knB]
    have hin:knB r rs[k]=true→Sx.known rs r=true:=fun h=>by
     unfold Sx.known;rw [List.any_eq_true];exact ⟨rs[k],List.getElem_mem hlt,h⟩
    have hc:=HK.out rs[k];obtain ⟨⟨qh,qk,qs⟩,hq⟩:∃ q,rs[k]=q:=⟨_,rfl⟩
    rw [hq] at d1 d2 d3 d4 hst hin hc;dsimp only at d1 d2 d3 d4 hc;obtain ⟨D,hD⟩:∃ D:ByteArray,⟨(Sx.dotted qh).toArray⟩=D:=⟨_,rfl⟩
    obtain ⟨N,hN⟩:∃ N,qh.length=N:=⟨_,rfl⟩
    rw [hD] at d2 hc;rw [hN] at d3 hc;obtain ⟨B,hB0⟩:∃ B,knB r (qh,qk,qs)=B:=⟨_,rfl⟩
    rw [hB0] at hst hin hc;have HST:=hide hst;have HIN:=hide hin;have HC:=hide hc;clear c1 c2 c3 c4 hst hin hc hD hN hB0 hq hkn;have hBv:B=true∨B=false:=by cases B <;> simp
    rcases hBv with rfl | rfl
    · go_wp2_with fail
      refine (HC.out _).mono ?_;rintro e w2 ⟨rfl,hB2⟩;have hBe:=hB.trans (hB2.mono hsz);clear hB2;go_wp2;go_ret;exact ⟨hBe,k,rfl,by rw [HIN.out trivial];simp⟩
    · go_wp2_with fail
      refine (HC.out _).mono ?_;rintro e w2 ⟨rfl,hB2⟩;have hBe:=hB.trans (hB2.mono hsz);clear hB2;go_wp2;exact ⟨⟨k+1,by go_num,by omega,HST.out,hBe⟩,by simp [intOf];omega⟩
  · have hkl:k=rs.length:=by omega
    subst hkl;rw [List.take_length] at hkn;have HKN:=hide hkn;clear hkn hlt hk;go_wp2;go_ret;exact ⟨hB,-1,rfl,by rw [HKN.out];rfl⟩
theorem pcont (rs:List Sx.Rl) (r:Sx.Rl) (v:Value) (w:World) (hv:PrAt w v rs) (hn:rs.length≤1000):Calls Tryz.prog 193 #[v,.func (.func 194) #[ruA r] #[]] w fun e w'=>e=.returned (.bool (Sx.known rs r))∧Below w.heap.size w w':=by
 have HI:=hide (pidx rs r v w hv hn);obtain ⟨p,cap,rfl,_⟩:=hv;obtain ⟨A,hA⟩:∃ A,ruA r=A:=⟨_,rfl⟩
 rw [hA] at HI ⊢;clear hA;obtain ⟨KN,hKN⟩:∃ KN,Sx.known rs r=KN:=⟨_,rfl⟩
 rw [hKN] at HI ⊢;clear hKN;go_enter Tryz.func193,Tryz.ntmps193;go_wp2_with fail
 refine HI.out.mono ?_;rintro e w1 ⟨hB,i,rfl,hi⟩;go_wp2;go_ret;exact ⟨ret_bool (by rw [←hi]),hB⟩
def addRl (rs:List Sx.Rl) (r:Sx.Rl):List Sx.Rl × Int:=if Sx.known rs r then (rs,4) else if rs.length=30 then (rs,5) else (rs ++ [r],0)
theorem add_held {w w1:World} {b:Nat} {v x y z u:Value} {t:TypeId} (hc:(w.alloc (.cells #[x,y,z,u] t)).cell? ⟨b,0,none⟩=some v) (hb:b<w.heap.size) (hB:Below (w.alloc (.cells #[x,y,z,u] t)).drew.heap.size (w.alloc (.cells #[x,y,z,u] t)).drew w1) :
 w1.cell? ⟨b,0,none⟩=some v∧(w1.cell? ⟨w.heap.size,0,none⟩=some x∧w1.cell? ⟨w.heap.size,1,none⟩=some y)∧(w1.cell? ⟨w.heap.size,2,none⟩=some z∧w1.cell? ⟨w.heap.size,3,none⟩=some u):=by
 have hlt:w.heap.size<(w.alloc (.cells #[x,y,z,u] t)).drew.heap.size:=by show _<(w.alloc _).heap.size;rw [World.size_alloc];omega
 have h1:=(hB.block w.heap.size hlt).trans (heap_alloc_new w (.cells #[x,y,z,u] t));obtain ⟨⟨q0,q1,q2,q3⟩,_⟩:=box4 h1;exact ⟨(hB.cell (p:=⟨b,0,none⟩) (Nat.lt_trans hb hlt)).trans hc,⟨q0,q1⟩,q2,q3⟩
theorem cell4_at (w:World) (x y z u:Value) (t:TypeId) (n:Nat) (hn:w.heap.size=n):∀ (j:Nat) (v:Value),[x,y,z,u][j]? = some v→(w.alloc (.cells #[x,y,z,u] t)).cell? ((⟨n,0,none⟩:Addr).add j)=some v:=by
 subst hn;intro j v hj;rw [Addr.add_lit,Nat.zero_add,World.cell?_alloc_mark]
 simpa using hj
theorem own_drewP {w:World} {B n sz:Nat} {e:TypeId} {v:Value} {xs:List Value} (h:w.ownsRow B e sz v n xs):w.drew.ownsRow B e sz v n xs:=h
theorem cell4_drew (w:World) (x y z u:Value) (t:TypeId):∀ (j:Nat) (v:Value),[x,y,z,u][j]? = some v→(w.alloc (.cells #[x,y,z,u] t)).drew.cell? ((⟨w.heap.size,0,none⟩:Addr).add j)=some v:=cell4_at w x y z u t _ rfl
end Go.Proofs.YtgohllfpceeboaaGreatDoor
namespace Go.Proofs
open Go.Shelf
def Tryz.lays156_ren:Go.Shelf.Ren:=⟨fun | 156=>182 | 165=>228 | 166=>117 | 169=>84 | 240=>168 | 241=>256 | 276=>219 | 277=>271 | n=>n,fun | 31=>34 | 9=>9 | 3=>3 | 4=>4 | 0=>0 | 20=>20 | 72=>133 | 76=>172 | 70=>131 | 37=>58 | 75=>170 | 127=>207 | 164=>292 | 5=>5 | 80=>26 | n=>n,fun | n=>n⟩
theorem Tryz.lays156:Go.Proofs.Lays.n156 Tryz.prog Tryz.lays156_ren:={
 mixed:=by kernel_rfl
 f156:=Tryz.func182.trans (congrArg some (by kernel_rfl))
 f165:=Tryz.func228.trans (congrArg some (by kernel_rfl))
 f166:=Tryz.func117.trans (congrArg some (by kernel_rfl))
 f169:=Tryz.func84.trans (congrArg some (by kernel_rfl))
 f240:=Tryz.func168.trans (congrArg some (by kernel_rfl))
 f241:=Tryz.func256.trans (congrArg some (by kernel_rfl))
 f276:=Tryz.func219.trans (congrArg some (by kernel_rfl))
 f277:=Tryz.func271.trans (congrArg some (by kernel_rfl))
 t0:=Tryz.underlying0
 a0:=Tryz.isAgg0
 z0:=Tryz.sizeOf0
 v0:=Tryz.zeroValue0
 t3:=Tryz.underlying3
 a3:=Tryz.isAgg3
 z3:=Tryz.sizeOf3
 v3:=Tryz.zeroValue3
 t4:=Tryz.underlying4
 a4:=Tryz.isAgg4
 z4:=Tryz.sizeOf4
 v4:=Tryz.zeroValue4
 t9:=Tryz.underlying9
 a9:=Tryz.isAgg9
 z9:=Tryz.sizeOf9
 v9:=Tryz.zeroValue9
 t20:=Tryz.underlying20
 a20:=Tryz.isAgg20
 z20:=Tryz.sizeOf20
 v20:=Tryz.zeroValue20
 t31:=Tryz.underlying34
 a31:=Tryz.isAgg34
 z31:=Tryz.sizeOf34
 v31:=Tryz.zeroValue34
 t37:=Tryz.underlying58
 a37:=Tryz.isAgg58
 z37:=Tryz.sizeOf58
 v37:=Tryz.zeroValue58
 t70:=Tryz.underlying131
 a70:=Tryz.isAgg131
 z70:=Tryz.sizeOf131
 v70:=Tryz.zeroValue131
 t72:=Tryz.underlying133
 a72:=Tryz.isAgg133
 z72:=Tryz.sizeOf133
 v72:=Tryz.zeroValue133
 t75:=Tryz.underlying170
 a75:=Tryz.isAgg170
 z75:=Tryz.sizeOf170
 v75:=Tryz.zeroValue170
 t76:=Tryz.underlying172
 a76:=Tryz.isAgg172
 z76:=Tryz.sizeOf172
 v76:=Tryz.zeroValue172
 t127:=Tryz.underlying207
 a127:=Tryz.isAgg207
 z127:=Tryz.sizeOf207
 v127:=Tryz.zeroValue207
 t164:=Tryz.underlying292
 a164:=Tryz.isAgg292
 z164:=Tryz.sizeOf292
 v164:=Tryz.zeroValue292 }
theorem Tryz.Builder_Extra_156:Builder.Extra Tryz.prog Tryz.lays156_ren:={
 sizeBuilder:=by kernel_rfl
 liesBuilder:=by kernel_rfl
 t5:=Tryz.underlying5
 a5:=Tryz.isAgg5
 z5:=Tryz.sizeOf5
 v5:=Tryz.zeroValue5
 infoByte:=by kernel_rfl
 cellsByte:=by kernel_rfl
 sizeByte:=by kernel_rfl
 neB5:=by decide }
open Go.RowKit in
theorem Tryz.strings_Join (bk o c:Nat) (xs:List ByteArray) (sep:ByteArray) (w:World) (hcells:∀ (j:Nat) x,xs[j]? = some x→w.cell? ⟨bk,o+j,none⟩=some (.string x)) (hbk:bk<w.heap.size) (hN:xs.length≤140737488355328) (hcap:xs.length≤c) (hlen:(Lib.join (xs.map (·.data.toList)) sep.data.toList).length≤140737488355328) :
 Calls Tryz.prog 182 #[.slice (some ⟨bk,o,none⟩) xs.length c,.string sep] w fun e w'=>e=.returned (.string ⟨(Lib.join (xs.map (·.data.toList)) sep.data.toList).toArray⟩)∧Below w.heap.size w w':=Any.strings_Join Tryz.lays156 Tryz.Builder_Extra_156 bk o c xs sep w hcells hbk hN hcap hlen
open Go.RowKit Go.Lib in
def Tryz.lays190_ren:Go.Shelf.Ren:=⟨fun | 190=>134 | 125=>185 | 258=>184 | 128=>239 | 129=>240 | 302=>230 | 303=>231 | 304=>232 | 305=>233 | 306=>234 | 307=>235 | 308=>236 | 309=>237 | 310=>238 | 333=>257 | 329=>258 | 330=>259 | 334=>260 | 335=>261 | 336=>262 | 344=>272 | n=>n,fun | 31=>34 | 9=>9 | 3=>3 | 46=>239 | 0=>0 | 51=>314 | 53=>284 | 4=>4 | 183=>307 | 182=>306 | 131=>311 | 5=>5 | 218=>331 | 222=>335 | 228=>342 | 229=>160 | n=>n,fun | n=>n⟩
theorem Tryz.lays190:Go.Proofs.Lays.n190 Tryz.prog Tryz.lays190_ren:={
 mixed:=by kernel_rfl
 f125:=Tryz.func185.trans (congrArg some (by kernel_rfl))
 f128:=Tryz.func239.trans (congrArg some (by kernel_rfl))
 f129:=Tryz.func240.trans (congrArg some (by kernel_rfl))
 f190:=Tryz.func134.trans (congrArg some (by kernel_rfl))
 f258:=Tryz.func184.trans (congrArg some (by kernel_rfl))
 f302:=Tryz.func230.trans (congrArg some (by kernel_rfl))
 f303:=Tryz.func231.trans (congrArg some (by kernel_rfl))
 f304:=Tryz.func232.trans (congrArg some (by kernel_rfl))
 f305:=Tryz.func233.trans (congrArg some (by kernel_rfl))
 f306:=Tryz.func234.trans (congrArg some (by kernel_rfl))
 f307:=Tryz.func235.trans (congrArg some (by kernel_rfl))
 f308:=Tryz.func236.trans (congrArg some (by kernel_rfl))
 f309:=Tryz.func237.trans (congrArg some (by kernel_rfl))
 f310:=Tryz.func238.trans (congrArg some (by kernel_rfl))
 f329:=Tryz.func258.trans (congrArg some (by kernel_rfl))
 f330:=Tryz.func259.trans (congrArg some (by kernel_rfl))
 f333:=Tryz.func257.trans (congrArg some (by kernel_rfl))
 f334:=Tryz.func260.trans (congrArg some (by kernel_rfl))
 f335:=Tryz.func261.trans (congrArg some (by kernel_rfl))
 f336:=Tryz.func262.trans (congrArg some (by kernel_rfl))
 f344:=Tryz.func272.trans (congrArg some (by kernel_rfl))
 t0:=Tryz.underlying0
 a0:=Tryz.isAgg0
 z0:=Tryz.sizeOf0
 v0:=Tryz.zeroValue0
 t3:=Tryz.underlying3
 a3:=Tryz.isAgg3
 z3:=Tryz.sizeOf3
 v3:=Tryz.zeroValue3
 t4:=Tryz.underlying4
 a4:=Tryz.isAgg4
 z4:=Tryz.sizeOf4
 v4:=Tryz.zeroValue4
 t5:=Tryz.underlying5
 a5:=Tryz.isAgg5
 z5:=Tryz.sizeOf5
 v5:=Tryz.zeroValue5
 t9:=Tryz.underlying9
 a9:=Tryz.isAgg9
 z9:=Tryz.sizeOf9
 v9:=Tryz.zeroValue9
 t31:=Tryz.underlying34
 a31:=Tryz.isAgg34
 z31:=Tryz.sizeOf34
 v31:=Tryz.zeroValue34
 t46:=Tryz.underlying239
 a46:=Tryz.isAgg239
 z46:=Tryz.sizeOf239
 v46:=Tryz.zeroValue239
 t51:=Tryz.underlying314
 a51:=Tryz.isAgg314
 z51:=Tryz.sizeOf314
 v51:=Tryz.zeroValue314
 t53:=Tryz.underlying284
 a53:=Tryz.isAgg284
 z53:=Tryz.sizeOf284
 v53:=Tryz.zeroValue284
 t131:=Tryz.underlying311
 a131:=Tryz.isAgg311
 z131:=Tryz.sizeOf311
 v131:=Tryz.zeroValue311
 t182:=Tryz.underlying306
 a182:=Tryz.isAgg306
 z182:=Tryz.sizeOf306
 v182:=Tryz.zeroValue306
 t183:=Tryz.underlying307
 a183:=Tryz.isAgg307
 z183:=Tryz.sizeOf307
 v183:=Tryz.zeroValue307
 t218:=Tryz.underlying331
 a218:=Tryz.isAgg331
 z218:=Tryz.sizeOf331
 v218:=Tryz.zeroValue331
 t222:=Tryz.underlying335
 a222:=Tryz.isAgg335
 z222:=Tryz.sizeOf335
 v222:=Tryz.zeroValue335
 t228:=Tryz.underlying342
 a228:=Tryz.isAgg342
 z228:=Tryz.sizeOf342
 v228:=Tryz.zeroValue342
 t229:=Tryz.underlying160
 a229:=Tryz.isAgg160
 z229:=Tryz.sizeOf160
 v229:=Tryz.zeroValue160 }
open Go.Sort Go.RowKit in
theorem Tryz.slices_Sort_string (blk off cap:Nat) (ss:List (List UInt8)) (w:World) (hH:Holds encStr w blk off ss.toArray) (hblk:blk<w.heap.size) (hsz:ss.length<4611686018427387904) :
 Calls Tryz.prog 134 #[.slice (some ⟨blk,off,none⟩) ss.length cap] w fun e w' =>
  e=.returned (.tuple #[])∧∃ n os,w'=grow (putRow encStr (Sort.ahead w n) blk off (ss.mergeSort fun x y=>decide (x≤y)).toArray) os:=Any.slices_Sort_string Tryz.lays190 blk off cap ss w hH hblk hsz
open Go.RowKit Go.Sort in
theorem Tryz.slices_Sort_string_none (p:Option Addr) (cap:Nat) (w:World) :
 Calls Tryz.prog 134 #[.slice p 0 cap] w fun e w'=>e=.returned (.tuple #[])∧w'=w:=Any.slices_Sort_string_none Tryz.lays190 p cap w
end Go.Proofs
