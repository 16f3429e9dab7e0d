import Derived.Test.YtgohllfpceeboabGreatDoorAnbj
set_option maxRecDepth 100000
set_option maxHeartbeats 4000000
namespace Go.Proofs.YtgohllfpceeboabGreatDoor
open Go.RowKit
def RdS (w:World)(v:Value)(L:List (List UInt8)):Prop:=∃ p cap,v=.slice p L.length cap∧∀ j (h:j<L.length),∃ b off,p=some ⟨b,off,none⟩∧b<w.heap.size∧w.cell? ⟨b,off+j,none⟩=some (.string ⟨L[j].toArray⟩)
theorem NT (L:List (List UInt8))(k:Nat)(h:k<L.length):Sx.sl (L.take (k+1))=Sx.sl (L.take k)+L[k].length:=by
 unfold Sx.sl;rw[List.take_succ_eq_append_getElem h,List.map_append,List.sum_append];simp
theorem GO (L:List (List UInt8))(k:Nat):Sx.sl L=Sx.sl (L.take k)+Sx.sl (L.drop k):=by
 unfold Sx.sl;rw[←List.sum_append,←List.map_append,List.take_append_drop]
theorem NE (L:List (List UInt8))(k:Nat)(h:k<L.length):Sx.sl (L.drop k)=L[k].length+Sx.sl (L.drop (k+1)):=by
 rw[List.drop_eq_getElem_cons h];unfold Sx.sl;rw[List.map_cons,List.sum_cons]
def rL (L:List (List UInt8))(B:Nat)(w:World)(e:Ending)(w':World):Prop :=
 Below B w w'∧if 2000<Sx.sl L then e=.returned (.tuple #[.slice none 0 0,.int .i64 1,.int .i64 0])
  else if (Sx.aQ L [] 0).2.1=0 then ∃ (v:Value) (q:List wZ),e=.returned (.tuple #[v,.int .i64 0,.int .i64 0])∧q.map (·.2)=(Sx.aQ L [] 0).1∧RlsAt w' B v q
  else e=.returned (.tuple #[.slice none 0 0,.int .i64 (Sx.aQ L [] 0).2.1,.int .i64 (Sx.aQ L [] 0).2.2])
def zQ (r:List (List UInt8))(x:List Sx.Rl×Int×Int):List Sx.Rl×Int×Int:=if x.2.1=0 then Sx.aQ r x.1 x.2.2 else x
theorem sT (s:List UInt8)(r:List (List UInt8))(rs:List Sx.Rl)(n:Int):Sx.aQ (s::r) rs n=zQ r (Sx.bM (Sx.bJ s) rs 105 n):=by
 rw[Sx.aQ];rfl
theorem BY {L:List (List UInt8)}{r:List (List UInt8)}{rs:List Sx.Rl}{m n:Int}{B:Nat}{w w':World}(hs:¬ 2000<Sx.sl L)(h:zQ r (rs,m,n)=Sx.aQ L [] 0)(hm:m≠0)(hB:Below B w w'):rL L B w (.returned (.tuple #[.slice none 0 0,.int .i64 m,.int .i64 n])) w':=by
 have h2:Sx.aQ L [] 0=(rs,m,n):=by rw[←h];unfold zQ;rw[if_neg hm]
 refine⟨hB,?_⟩;rw[if_neg hs,h2,if_neg hm]
theorem kC (x:List UInt8)(r:List (List UInt8))(rs:List Sx.Rl)(sec:UInt8)(n:Int){rs2:List Sx.Rl}{sec2:UInt8}(h:Sx.aU rs sec x=((rs2,sec2),0)):Sx.bM (x::r) rs sec n=Sx.bM r rs2 sec2 (n+1):=by
 rw[Sx.bM,h];rfl
theorem mE (x:List UInt8)(r:List (List UInt8))(rs:List Sx.Rl)(sec:UInt8)(n:Int){y:List Sx.Rl×UInt8}{m:Int}(h:Sx.aU rs sec x=(y,m))(hm:m≠0):Sx.bM (x::r) rs sec n=(rs,m,n):=by
 rw[Sx.bM,h,if_neg (by simpa using hm)]
theorem L1 {X:List UInt8}{y:List UInt8}(e:(((⟨X.toArray⟩:ByteArray).extract 0 2).toList == y)=true):X.take 2=y:=by
 rw[beq_iff_eq,ByteArray.toList_eq,iO] at e;exact e
theorem G8 {X:List UInt8}{y:List UInt8}(e:(((⟨X.toArray⟩:ByteArray).extract 0 2).toList == y)=false):X.take 2≠y:=by
 rw[beq_eq_false_iff_ne,ByteArray.toList_eq,iO] at e;exact e
theorem sC (w:World)(x y z:Value)(t:TypeId):∀ (j:Nat) (u:Value),[x,y,z][j]? = some u→(w.alloc (.cells #[x,y,z] t)).cell? ((⟨w.heap.size,0,none⟩:Addr).add j)=some u:=by
 intro j u hj;rw[Addr.add_lit,Nat.zero_add,World.cell?_alloc_mark]
 simpa using hj
theorem lH (rs:List Sx.Rl)(x r:Sx.Rl)(h:Sx.known rs r=false)(hx:¬ (Sx.aA x.1=Sx.aA r.1∧x.2.1=r.2.1)):Sx.known (rs++[x]) r=false:=by
 unfold Sx.known at h ⊢;rw[List.any_append,h];simp only[List.any_cons,List.any_nil,Bool.or_false,Bool.false_or,Bool.and_eq_false_iff,decide_eq_false_iff_not];by_cases h1:Sx.aA x.1=Sx.aA r.1
 · exact .inr fun h2=>hx ⟨h1,h2⟩
 · exact .inl h1
theorem uG {w1 w':World}{B:Nat}{v v':Value}{q:List wZ}{hv:Value}{r:Sx.Rl}{o:Obj}(h:RlsAt w1 B v q)(hh:w1.ownsRow B 9 1 hv r.1.length (bB r.1))(hg:(w1.alloc o).grownBy w' v.ownBlock){n:Nat}(hn:n=q.length+1)(hown:w'.ownsRow B 218 3 v' n (XZ q++[hv,.int .u8 r.2.1.toNat,.int .u8 r.2.2.toNat])):RlsAt w' B v' (q++[(hv,r)]):=by
 have hg2:w1.grownBy w' v.ownBlock:=(World.grownBy_alloc w1 o _).trans hg;subst hn;refine⟨?_,fun x hx=>?_⟩
 · rw[List.length_append,List.length_singleton,m4];exact hown
 · rcases List.mem_append.1 hx with hx | hx
   · exact(h.hosts x hx).kept hg2 (bI (h.hosts x hx) h.row (by decide))
   · rw[List.mem_singleton.1 hx];exact hh.kept hg2 (bI hh h.row (by decide))
theorem YR (L:List (List UInt8))(v:Value)(w:World)(hrd:RdS w v L)(hL:L.length≤1000000000000)(hsl:Sx.sl L≤1000000000000):Calls Tryz.prog 151 #[v] w (rL L w.heap.size w):=by
 obtain⟨i0,hi,hz0,hz1,hz2⟩:=info_parts Tryz.info218;obtain⟨p,cap,rfl,hrd⟩:=hrd;have HRD:=hide hrd;clear hrd;go_enter Tryz.func151,Tryz.ntmps151;go_wp2
 go_loop [5,6] (fun a i=>∃ (k m:Nat),a=.int .i64 m∧i=.int .i64 k∧k≤L.length∧Sx.sl (L.take k)=m) (fun _ i=>(L.length-intOf i).toNat)
 case atStart=>exact⟨0,0,rfl,rfl,by omega,rfl⟩
 case round =>
  obtain⟨k,m,rfl,rfl,hk,hm⟩:=hrel;by_cases hlt:k<L.length
  · obtain⟨b,off,rfl,hb,hc⟩:=HRD.out k hlt;have ht:=NT L k hlt;have hsp:=GO L (k+1);obtain⟨x,hx⟩:∃ x,L[k]=x:=⟨_,rfl⟩
    rw[hx] at hc ht;rw[hm] at ht;have hbd:m+x.length≤1000000000000:=by omega
    have HT:=hide ht;clear ht hsp hm hx hsl;go_wp2;exact⟨⟨k+1,m+x.length,by go_num,by go_num,by omega,HT.out⟩,by simp[intOf];omega⟩
  · have hkl:k=L.length:=by omega
    subst hkl;rw[List.take_length] at hm;subst hm;clear hlt hk;by_cases hbig:2000<Sx.sl L
    · have hbi:(2000:Int)<(Sx.sl L:Nat):=by omega
      go_wp2
      go_ret3
      exact⟨Below.refl _ _,by rw[if_pos hbig];rfl⟩
    · have hbi:¬ (2000:Int)<(Sx.sl L:Nat):=by omega
      have HBIG:=hide hbig;clear hbig;go_wp2
      go_loopw [7,8,9] (fun rv nv iv wr=>∃ (k n:Nat) (q:List wZ),nv=.int .i64 n∧iv=.int .i64 k∧k≤L.length∧Sx.aQ (L.drop k) (q.map (·.2)) n=Sx.aQ L [] 0∧n+Sx.sl (L.drop k)≤2000∧Sx.RlsOk (q.map (·.2))∧RlsAt wr w.heap.size rv q∧Below w.heap.size w wr) (fun _ _ iv _=>(L.length-intOf iv).toNat)
      case atStart=>exact⟨0,0,[],rfl,rfl,by omega,rfl,by rw[List.drop_zero];have:=HBIG.out;omega,Sx.nN,⟨World.ownsRow_nil _ _ _ _,by simp⟩,Below.refl _ _⟩
      case round =>
       obtain⟨k,n,q,rfl,rfl,hk,hadd,hn,hrok,hat,hB⟩:=hrel;have HADD:=hide hadd;have HROK:=hide hrok;have HN:=hide hn;clear hadd hrok hn
       rename World=>wo
       by_cases hlt:k<L.length
       · obtain⟨b,off,rfl,hb,hc⟩:=HRD.out k hlt;have hc2:=(hB.cell (p:=⟨b,off+k,none⟩) hb).trans hc;have hdr:=List.drop_eq_getElem_cons hlt;have hsd:=NE L k hlt;obtain⟨s,hs⟩:∃ s,L[k]=s:=⟨_,rfl⟩
         rw[hs] at hc2 hdr hsd;have hcont:zQ (L.drop (k+1)) (Sx.bM (Sx.bJ s) (q.map (·.2)) 105 n)=Sx.aQ L [] 0:=by
          rw[←sT,←hdr];exact HADD.out
         have HCONT:=hide hcont;have hnn:n+s.length+Sx.sl (L.drop (k+1))≤2000:=by have:=HN.out;omega
         have hsz:=hB.size;have HB:=hide hB;have HAT:=hide hat;clear hc hdr hsd hs hcont hat hB HN HADD;obtain⟨Z,hZ⟩:∃ Z,Sx.sl (L.drop (k+1))=Z:=⟨_,rfl⟩
         rw[hZ] at hnn;have hs2:s.length≤2000:=by omega
         have HZ:=hide hZ;clear hZ;go_wp2
         go_loopw [7,8,10,12] (fun rv nv sv av wr=>∃ (a n:Nat) (sec:UInt8) (q:List wZ),nv=.int .i64 n∧sv=.int .u8 sec.toNat∧av=.int .i64 a∧a≤s.length+1∧zQ (L.drop (k+1)) (Sx.bM (Sx.bJ (s.drop a)) (q.map (·.2)) sec n)=Sx.aQ L [] 0∧n+(s.length-a)+Z≤2000∧Sx.RlsOk (q.map (·.2))∧RlsAt wr w.heap.size rv q∧Below w.heap.size w wr) (fun _ _ _ av _=>(s.length+1-intOf av).toNat)
         case atStart=>exact⟨0,n,105,q,rfl,rfl,rfl,by omega,HCONT.out,by omega,HROK.out,HAT.out,HB.out⟩
         case round =>
          clear HCONT HROK HAT HB hnn;obtain⟨a,n,sec,q,rfl,rfl,rfl,ha,hcont,hn,hrok,hat,hB⟩:=hrel;have HCONT:=hide hcont;have HROK:=hide hrok;have HB:=hide hB;have HAT:=hide hat;have hsz:=hB.size;clear hcont hrok hat hB
          rename World=>wi
          by_cases hal:a<s.length
          · have hne:s.drop a≠[]:=by
             intro e;have:=congrArg List.length e;rw[List.length_drop,List.length_nil] at this;omega
            have hlm:=Sx.qI hne;have hll:=Sx.pB (s.drop a);rw[List.length_drop] at hll;have hl1:∀ t (h:a+t<s.length),t<Sx.aK (s.drop a)→s[a+t]≠10:=by
             intro t h ht;have:=Sx.wM ht (by rw[List.length_drop];omega);rw[List.getElem_drop] at this;exact this
            have hl2:∀ (h:a+Sx.aK (s.drop a)<s.length),s[a+Sx.aK (s.drop a)]=10:=by
             intro h;have:=Sx.KH (s:=s.drop a) (by rw[List.length_drop];omega);rw[List.getElem_drop] at this;exact this
            rw[List.drop_drop] at hlm;obtain⟨ll,hle⟩:∃ ll,Sx.aK (s.drop a)=ll:=⟨_,rfl⟩
            rw[hle] at hlm hll hl1 hl2;have HL1:=hide hl1;have HL2:=hide hl2;have hcont:=HCONT.out;rw[hlm] at hcont;have HC:=hide hcont;clear hne hlm hl1 hl2 hle hcont HCONT
            go_upto_block 6 with fail
            go_cut [13] (fun x wc=>x=.int .i64 ((a:Int)+(ll:Int))∧wc=wi)
            case first =>
             go_wp2
             go_loop [13] (fun x=>∃ t:Nat,x=.int .i64 (a+t:Nat)∧t≤ll) (fun x=>(a+ll-intOf x).toNat)
             case atStart=>exact⟨0,rfl,by omega⟩
             case round =>
              obtain⟨t,rfl,ht⟩:=hrel;by_cases htl:t<ll
              · have hat:a+t<s.length:=by omega
                have hne:=HL1.out t hat htl;obtain⟨y,hy⟩:∃ y,s[a+t]=y:=⟨_,rfl⟩
                rw[hy] at hne;have hg:∀ h:a+t<(⟨s.toArray⟩:ByteArray).size,(⟨s.toArray⟩:ByteArray)[a+t]'h=y:=fun h=>hy;have hyn:((y.toNat:Int) != 10)=true:=by
                 rw[bne_iff_ne];intro e;exact hne (UInt8.toNat_inj.1 (by have:(10:UInt8).toNat=10:=rfl;omega))
                clear hne hy;go_wp2;exact⟨⟨t+1,by go_num,by omega⟩,by simp[intOf];omega⟩
              · have htl2:t=ll:=by omega
                subst htl2;clear htl ht;by_cases hat:a+t<s.length
                · have hy:=HL2.out hat;have hg:∀ h:a+t<(⟨s.toArray⟩:ByteArray).size,(⟨s.toArray⟩:ByteArray)[a+t]'h=10:=fun h=>hy;clear hy;go_wp2;go_meet
                  case rel=>exact⟨rfl,rfl⟩
                · have hat2:¬ ((a:Int)+(t:Int))<(s.length:Int):=by omega
                  go_wp2;go_meet
                  case rel=>exact⟨rfl,rfl⟩
            case rest =>
             obtain⟨rfl,rfl⟩:=hcut;have hxl:(⟨s.toArray⟩:ByteArray).extract a (a+ll)=⟨((s.drop a).take ll).toArray⟩:=by
              apply ByteArray.ext;simp[List.extract_toArray]
             obtain⟨X,hX⟩:∃ X,(s.drop a).take ll=X:=⟨_,rfl⟩
             rw[hX] at hxl HC;have hXl:X.length≤2000:=by
              rw[←hX,List.length_take,List.length_drop];omega
             clear hX HL1 HL2
             rename World=>wi
             go_upto_region 35 with fail
             rw[hxl];clear hxl;go_cut [114] (fun c wc=>∃ bb:Bool,c=.bool bb∧(bb=true↔(X=[]∨X.take 2=[47,47]))∧wc=wi)
             case first =>
              by_cases h0:X=[]
              · subst h0;go_wp2;go_meet
                case rel=>exact⟨true,rfl,by simp,rfl⟩
              · by_cases h2:2≤X.length
                · cases e2:(((⟨X.toArray⟩:ByteArray).extract 0 2).toList == [47,47]) with
                  | true =>
                    have e3:=L1 e2;have h0e:X.isEmpty=false:=by simpa using h0
                    go_wp2;go_meet
                    case rel=>exact⟨true,rfl,by simp[e3],rfl⟩
                  | false =>
                    have e3:=G8 e2;have h0e:X.isEmpty=false:=by simpa using h0
                    go_wp2;go_meet
                    case rel=>exact⟨false,rfl,by simp[e3,h0],rfl⟩
                · have e3:X.take 2≠[47,47]:=by
                   intro e;have:=congrArg List.length e;rw[List.length_take] at this;simp at this;omega
                  have h0e:X.isEmpty=false:=by simpa using h0
                  have h2i:¬ (2:Int)≤(X.length:Int):=by omega
                  go_wp2;go_meet
                  case rel=>exact⟨false,rfl,by simp[e3,h0],rfl⟩
             case rest =>
              obtain⟨bb,rfl,hbb,rfl⟩:=hcut;have HBB:=hide hbb;clear hbb
              rename World=>wi
              cases bb with
              | true =>
                have hln:Sx.aU (q.map (·.2)) sec X=((q.map (·.2),sec),0):=by
                 unfold Sx.aU;rw[if_pos (HBB.out.1 rfl)]
                have hc4:=HC.out;rw[kC _ _ _ _ _ hln] at hc4;have HC4:=hide hc4;clear hln hc4;go_wp2;exact⟨⟨a+ll+1,n+1,sec,q,by go_num,rfl,by go_num,by omega,by rw[show a+ll+1=a+(ll+1) from by omega];exact_mod_cast HC4.out,by omega,HROK.out,HAT.out,HB.out⟩,by simp[intOf];omega⟩
              | false =>
                cases ei:(X == [61,61,61,105]) with
                | true =>
                  have hi2:X=[61,61,61,105]:=by simpa using ei
                  have hln:Sx.aU (q.map (·.2)) sec X=((q.map (·.2),105),0):=by
                   unfold Sx.aU;rw[if_neg (fun h=>absurd (HBB.out.2 h) (by simp)),if_pos hi2]
                  have hc4:=HC.out;rw[kC _ _ _ _ _ hln] at hc4;have HC4:=hide hc4;clear hln hc4;go_wp2;exact⟨⟨a+ll+1,n+1,105,q,by go_num,rfl,by go_num,by omega,by rw[show a+ll+1=a+(ll+1) from by omega];exact_mod_cast HC4.out,by omega,HROK.out,HAT.out,HB.out⟩,by simp[intOf];omega⟩
                | false =>
                  have hi2:¬ X=[61,61,61,105]:=by simpa using ei
                  cases ep:(X == [61,61,61,112]) with
                  | true =>
                    have hp2:X=[61,61,61,112]:=by simpa using ep
                    have hln:Sx.aU (q.map (·.2)) sec X=((q.map (·.2),112),0):=by
                     unfold Sx.aU;rw[if_neg (fun h=>absurd (HBB.out.2 h) (by simp)),if_neg hi2,if_pos hp2]
                    have hc4:=HC.out;rw[kC _ _ _ _ _ hln] at hc4;have HC4:=hide hc4;clear hln hc4;go_wp2;exact⟨⟨a+ll+1,n+1,112,q,by go_num,rfl,by go_num,by omega,by rw[show a+ll+1=a+(ll+1) from by omega];exact_mod_cast HC4.out,by omega,HROK.out,HAT.out,HB.out⟩,by simp[intOf];omega⟩
                  | false =>
                    have hp2:¬ X=[61,61,61,112]:=by simpa using ep
                    have hln:∀ o,Sx.cN X sec=o→Sx.aU (q.map (·.2)) sec X=match o with
                     | none=>((q.map (·.2),sec),3)
                     | some r=>if Sx.known (q.map (·.2)) r then ((q.map (·.2),sec),4) else if (q.map (·.2)).length=30 then ((q.map (·.2),sec),5) else ((q.map (·.2)++[r],sec),0):=by
                     intro o ho;unfold Sx.aU;rw[if_neg (fun h=>absurd (HBB.out.2 h) (by simp)),if_neg hi2,if_neg hp2,ho];cases o <;> rfl
                    have HLN:=hide hln;clear hln hi2 hp2;go_wp2_with fail
                    refine(SJ _ _ _).mono ?_;rintro e w2 ⟨hB2,v2,kd,⟨p2,m2,c2,rfl⟩,rfl,hr2⟩;rw[show(⟨X.toArray⟩:ByteArray).data.toList=X from by simp] at hr2 ⊢;have hat2:=HAT.out.below hB2;have hB3:=HB.out.trans (hB2.mono hsz);cases ho:Sx.cN X sec with
                    | none =>
                      have hst:=mE X (Sx.bJ (s.drop (a+(ll+1)))) (q.map (·.2)) sec n (HLN.out _ ho) (by decide);have hc4:=HC.out;rw[hst] at hc4;have HC4:=hide hc4;clear hst hc4 hr2 ho;go_wp2
                      go_ret3
                      exact BY HBIG.out HC4.out (by decide) (hB3.alloc (by have:=hB3.size;omega) _)
                    | some r =>
                      obtain⟨h1,h2,h3,h4,h5⟩:=hr2 r ho;obtain⟨rh,rk,rsec⟩:=r;simp only at h1 h2 h3 h4 h5;subst h1 h2;have hm2:m2=rh.length:=by
                       obtain⟨p',c',hv'⟩:=aB h3;simp only[Value.slice.injEq] at hv';exact hv'.2.1
                      subst hm2;have hdot:∀ W:World,Below w2.heap.size w2 W→Calls Tryz.prog 148 #[.slice p2 rh.length c2] W fun e w'=>e=.returned (.string ⟨(Sx.aA rh).toArray⟩)∧w'=W:=fun W hW=>jT rh _ _ W (by omega) (fun x hx=>by have:=h5 x hx;omega) (aD h3 hW);have HDOT:=hide hdot;have hlno:=HLN.out _ ho;have HLNO:=hide hlno;have HH3:=hide h3;have HH5:=hide h5;have hql:q.length≤30:=by have:=HROK.out.many;simpa using this
                      have hrow:=hat2.row;obtain⟨p7,c7,rfl⟩:=aB hrow;have HAT2:=hide hat2;clear hr2 ho hdot hlno h3 h5 hrow hat2 HAT;go_wp2
                      go_loopw [17] (fun kv wr=>∃ j:Nat,kv=.int .i64 j∧j≤q.length∧Sx.known ((q.take j).map (·.2)) (rh,rk,rsec)=false∧Below (w2.heap.size+1) (w2.alloc (.cells #[.slice p2 rh.length c2,.int .u8 rk.toNat,.int .u8 rsec.toNat] 218)) wr) (fun kv _=>(q.length-intOf kv).toNat)
                      case atStart=>exact⟨0,rfl,by omega,rfl,Below.refl _ _⟩
                      case round =>
                       obtain⟨j,rfl,hj,hkn,hB5⟩:=hrel;have r0:=(hB5.cell (p:=⟨w2.heap.size,0,none⟩) (by simp)).trans (World.cell?_alloc_mark _ _ _ _ _);have r1:=(hB5.cell (p:=⟨w2.heap.size,1,none⟩) (by simp)).trans (World.cell?_alloc_mark _ _ _ _ _);have r2:=(hB5.cell (p:=⟨w2.heap.size,2,none⟩) (by simp)).trans (World.cell?_alloc_mark _ _ _ _ _);simp only[List.getElem?_toArray,List.getElem?_cons_zero,List.getElem?_cons_succ] at r0 r1 r2;have hB6:Below w2.heap.size w2 wr:=((Below.refl _ w2).alloc (Nat.le_refl _) _).trans (hB5.mono (by omega));have hat5:=HAT2.out.below hB6;have HKN:=hide hkn;have HB5:=hide hB5;have hsz5:=hB5.size;rw[World.size_alloc] at hsz5;clear hkn hB5;by_cases hjl:j<q.length
                       · obtain⟨g7,c7',hv7,_,_⟩:=hat5.row.form (by omega);simp only[Value.slice.injEq,true_and] at hv7;obtain⟨rfl,rfl⟩:=hv7;obtain⟨k1,k2,k3⟩:=hat5.cells j hjl;have hrl:=HROK.out.ok q[j].2 (List.mem_map.2 ⟨q[j],List.getElem_mem hjl,rfl⟩);have hh:=hat5.hosts q[j] (List.getElem_mem hjl);have hkt:(q.take (j+1)).map (·.2)=(q.take j).map (·.2)++[q[j].2]:=by rw[List.take_succ_eq_append_getElem hjl,List.map_append];rfl
                         have hqm:q[j].2∈q.map (·.2):=List.mem_map.2 ⟨q[j],List.getElem_mem hjl,rfl⟩;obtain⟨⟨jv,jh,jk,js⟩,he⟩:∃ x,q[j]=x:=⟨_,rfl⟩
                         rw[he] at k1 k2 k3 hrl hh hkt hqm;dsimp only at k1 k2 k3 hh hkt hqm;have hr1:jh.length≤6:=hrl.1.2.1;have hr2:Sx.aM jh≤61:=hrl.1.2.2.1;have hd1:=jT jh _ jv wr (by omega) (fun x hx=>by have h1:=eZ jh x hx;omega) hh;have HD1:=hide hd1;have HD2:=hide (HDOT.out wr hB6);have HKT:=hide hkt;have HQM:=hide hqm;obtain⟨pj,cj,hpj⟩:=aB hh;subst hpj;clear hd1 hkt he hrl hh hat5 hqm hr1 hr2;go_wp2_with fail
                         refine HD1.out.mono ?_;rintro e w8 ⟨rfl,rfl⟩;go_wp2_with fail
                         refine HD2.out.mono ?_;rintro e w9 ⟨rfl,rfl⟩;cases e1:(Sx.aA jh == Sx.aA rh) with
                         | true =>
                           cases e2:((jk.toNat:Int) == (rk.toNat:Int)) with
                           | true =>
                             have hkw:Sx.known (q.map (·.2)) (rh,rk,rsec)=true:=by
                              unfold Sx.known;rw[List.any_eq_true];refine⟨_,HQM.out,?_⟩;have h1:Sx.aA jh=Sx.aA rh:=by simpa using e1
                              have h2:jk=rk:=UInt8.toNat_inj.1 (by have:=beq_iff_eq.1 e2;omega);simp[h1,h2]
                             have hln:=HLNO.out;simp only[hkw,if_true] at hln;have hst:=mE X (Sx.bJ (s.drop (a+(ll+1)))) (q.map (·.2)) rsec n hln (by decide);have hc4:=HC.out;rw[hst] at hc4;have HC4:=hide hc4;have hB7:Below w.heap.size w w9:=hB3.trans (hB6.mono (by have:=hB3.size;omega));have HB7:=hide hB7;clear hst hc4 hln hkw hB7 hB6 hB3;go_wp2;go_quiet ((fail))
                             go_wp2
                             go_ret3
                             exact BY HBIG.out HC4.out (by decide) (Go.below_drewN HB7.out _)
                           | false =>
                             have hkw:Sx.known ((q.take (j+1)).map (·.2)) (rh,rk,rsec)=false:=by
                              rw[HKT.out];have h2:¬ jk=rk:=fun e=>by rw[e] at e2;simp at e2
                              exact lH _ _ _ HKN.out (fun h=>h2 h.2)
                             have HKW:=hide hkw;clear hkw hB6 hB3;go_wp2;go_quiet ((fail))
                             go_wp2;exact⟨⟨j+1,by go_num,by omega,HKW.out,Go.below_drewN HB5.out _⟩,by simp[intOf];omega⟩
                         | false =>
                           have hkw:Sx.known ((q.take (j+1)).map (·.2)) (rh,rk,rsec)=false:=by
                            rw[HKT.out];have h2:¬ Sx.aA jh=Sx.aA rh:=by simpa using e1
                            exact lH _ _ _ HKN.out (fun h=>h2 h.1)
                           have HKW:=hide hkw;clear hkw hB6 hB3;go_wp2;go_quiet ((fail))
                           go_wp2;exact⟨⟨j+1,by go_num,by omega,HKW.out,Go.below_drewN HB5.out _⟩,by simp[intOf];omega⟩
                       · have hjq:j=q.length:=by omega
                         subst hjq;have hkw:=HKN.out;rw[List.take_length] at hkw;have hln:=HLNO.out;simp only[hkw,Bool.false_eq_true,if_false,List.length_map] at hln;have hB7:Below w.heap.size w wr:=hB3.trans (hB6.mono (by have:=hB3.size;omega));have hsz7:=hB7.size;have hjn:¬ (q.length:Int)<(q.length:Int):=by omega
                         by_cases h30:q.length=30
                         · rw[if_pos h30] at hln;have hst:=mE X (Sx.bJ (s.drop (a+(ll+1)))) (q.map (·.2)) rsec n hln (by decide);have hc4:=HC.out;rw[hst] at hc4;have HC4:=hide hc4;have h30i:((q.length:Int) == 30)=true:=by rw[beq_iff_eq];omega
                           have HB7:=hide hB7;clear hst hc4 hln hkw hB7 hB6 hB3 hjl hj h30;go_wp2
                           go_ret3
                           exact BY HBIG.out HC4.out (by decide) HB7.out
                         · rw[if_neg h30] at hln;have hc4:=HC.out;rw[kC _ _ _ _ _ hln] at hc4;have HC4:=hide hc4;have h30i:((q.length:Int) == 30)=false:=by rw[beq_eq_false_iff_ne];omega
                           have hrok2:Sx.RlsOk ((q++[(Value.slice p2 rh.length c2,(rh,rk,rsec))]).map (·.2)):=by
                            have:=Sx.vC (sec:=rsec) (line:=X) HROK.out;rw[hln] at this;rw[List.map_append];exact this
                           have HROK2:=hide hrok2;have hh5:=jL (aD HH3.out hB6) hsz;have HH:=hide hh5;have HB7:=hide hB7;have hrow5:=hat5.row;have HAT5:=hide hat5;clear hc4 hln hkw hB7 hB6 hB3 hjl hj h30 hrok2 hh5 hat5;go_wp2_with (at_builtin;go_must (refine wpList_append_lies _ rfl _ _ _ rfl w.heap.size 218 i0 (.agg #[.slice none 0 0,.int .u8 0,.int .u8 0]) 3 32 Tryz.underlying211 hi hz0 hz1 hz2 rfl (by decide) _ _ _ rfl (hrow5.alloc _) ⟨_,0,none⟩ 1 1 [.slice p2 rh.length c2,.int .u8 rk.toNat,.int .u8 rsec.toNat] rfl rfl (sC _ _ _ _ _) (by simp[Value.oneCell']) (by omega) (by unfold maxLen;omega) (by omega) (by simp;omega) _ rfl ?_))
                           intro g9 cap9 w9 hown9 hgrow9 hat9 hlt9;have hat10:=uG (r:=(rh,rk,rsec)) HAT5.out HH.out hgrow9 rfl hown9;have hB10:Below w.heap.size w w9:=aH HB7.out hsz7 hrow5 hgrow9;have HAT10:=hide hat10;have HB10:=hide hB10;clear hat10 hB10 hown9 hgrow9 hat9 hrow5;go_wp2;exact⟨⟨a+ll+1,n+1,rsec,q++[(Value.slice p2 rh.length c2,(rh,rk,rsec))],by go_num,rfl,by go_num,by omega,by rw[show a+ll+1=a+(ll+1) from by omega,List.map_append];exact_mod_cast HC4.out,by omega,HROK2.out,HAT10.out,HB10.out⟩,by simp[intOf];omega⟩
          · have hd:s.drop a=[]:=List.drop_eq_nil_of_le (by omega);have hc3:Sx.aQ (L.drop (k+1)) (q.map (·.2)) n=Sx.aQ L [] 0:=by
             have:=HCONT.out;rw[hd] at this;exact this
            have HC3:=hide hc3;have hal2:¬ (a:Int)<(s.length:Int):=by omega
            clear hd hc3 hal;go_wp2;exact⟨⟨k+1,n,q,rfl,by go_num,by omega,HC3.out,by rw[HZ.out];omega,HROK.out,HAT.out,HB.out⟩,by simp[intOf];omega⟩
       · have hkl:k=L.length:=by omega
         subst hkl;have hfin:Sx.aQ L [] 0=(q.map (·.2),0,(n:Int)):=by
          have:=HADD.out;rw[List.drop_length] at this;rw[←this];rfl
         have HFIN:=hide hfin;clear hfin;go_wp2
         go_ret3
         refine⟨hB,?_⟩;rw[if_neg HBIG.out,HFIN.out,if_pos rfl];exact⟨_,q,rfl,rfl,hat⟩
def vQ (L:List (List UInt8))(w:World)(e:Ending)(w':World):Prop:=Below w.heap.size w w'∧match L.foldl nY (some []) with
 | none=>∃ m:Int,m≠0∧e=.returned (.tuple #[.string ⟨#[]⟩,.int .i64 m])
 | some ps=>e=.returned (.tuple #[.string ⟨(Sx.eH (Sx.aW ps)).toArray⟩,.int .i64 0])
theorem NL {L:List (List UInt8)}{w w':World}{m:Int}(hm:m≠0)(h:L.foldl nY (some [])=none)(hB:Below w.heap.size w w'):vQ L w (.returned (.tuple #[.string ⟨#[]⟩,.int .i64 m])) w':=by
 unfold vQ;rw[h];exact⟨hB,m,hm,rfl⟩
theorem i6 {L:List (List UInt8)}{rs:List Sx.Rl}{i:Nat}(hi:i<L.length)(hf:L.foldl nY (some [])=(L.drop i).foldl nY (some rs))(h:nY (some rs) L[i]=none):L.foldl nY (some [])=none:=by
 rw[hf,List.drop_eq_getElem_cons hi,List.foldl_cons,h,tX]
theorem V1 {L:List (List UInt8)}{rs ps:List Sx.Rl}{i:Nat}(hi:i<L.length)(hf:L.foldl nY (some [])=(L.drop i).foldl nY (some rs))(h:nY (some rs) L[i]=some ps):L.foldl nY (some [])=(L.drop (i+1)).foldl nY (some ps):=by
 rw[hf,List.drop_eq_getElem_cons hi,List.foldl_cons,h]
theorem A3 {rs:List Sx.Rl}{x:List UInt8}(h:2000<x.length):nY (some rs) x=none:=by
 unfold nY;simp only;rw[if_pos h]
theorem MG {rs:List Sx.Rl}{x:List UInt8}(h:(Sx.aQ [x] [] 0).2.1≠0∨(Sx.aQ [x] [] 0).1.length≠1):nY (some rs) x=none:=by
 unfold nY;simp only;split
 · rfl
 · split
   · rename_i r m n hq;rw[hq] at h;simp only[List.length_singleton,ne_eq,not_true,or_false] at h;rw[if_neg h]
   · rfl
theorem m0 {rs:List Sx.Rl}{x:List UInt8}{r:Sx.Rl}(hx:¬ 2000<x.length)(h0:(Sx.aQ [x] [] 0).2.1=0)(h1:(Sx.aQ [x] [] 0).1=[r]):nY (some rs) x=if Sx.known rs r=true then none else some (rs++[r]):=by
 unfold nY;simp only;rw[if_neg hx];obtain⟨q,m,n,hq⟩:∃ q m n,Sx.aQ [x] [] 0=(q,m,n):=⟨_,_,_,rfl⟩
 rw[hq] at h0 h1 ⊢;dsimp only at h0 h1;subst h0 h1;simp
theorem l7 {w:World}{b off cap:Nat}{x:List UInt8}(hb:b<w.heap.size)(h:w.cell? ⟨b,off,none⟩=some (.string ⟨x.toArray⟩)):RdS w (.slice (some ⟨b,off,none⟩) 1 cap) [x] :=
 ⟨_,_,rfl,fun j hj=>⟨b,off,rfl,hb,by
   obtain rfl:j=0:=by simpa using hj
   exact h⟩⟩
theorem N6 (L:List (List UInt8))(b cap:Nat)(w:World)(hb:b<w.heap.size)(hc:L.length≤cap)(hcl:∀ j (h:j<L.length),w.cell? ⟨b,j,none⟩=some (.string ⟨L[j].toArray⟩))(hL:L.length≤30)(hx:∀ x∈L,x.length≤100000000000):Calls Tryz.prog 212 #[.slice (some ⟨b,0,none⟩) L.length cap] w (vQ L w):=by
 obtain⟨i0,hi0,hz0,hz1,hz2⟩:=info_parts Tryz.info218;have HCL:=hide hcl;have HX:=hide hx;clear hcl hx;go_enter Tryz.func212,Tryz.ntmps212;go_wp2
 go_loopw [4,5] (fun v iv wr=>∃ (i:Nat) (q:List wZ),iv=.int .i64 i∧i≤L.length∧q.length=i∧RlsAt wr w.heap.size v q∧Below w.heap.size w wr∧Sx.RlsRt (q.map (·.2))∧L.foldl nY (some [])=(L.drop i).foldl nY (some (q.map (·.2)))) (fun _ i _=>(L.length-intOf i).toNat)
 case atStart=>exact⟨0,[],rfl,by omega,rfl,⟨World.ownsRow_nil _ _ _ _,by simp⟩,Below.refl _ _,fR,rfl⟩
 case round =>
  obtain⟨i,q,rfl,hil,hqi,hat,hB,hrt,hf⟩:=hrel
  rename World=>wr
  subst hqi;have HAT:=hide hat;have HB:=hide hB;have HRT:=hide hrt;have HF:=hide hf;have hrow:=hat.row;obtain⟨pr,cr,rfl⟩:=aB hrow;have hsz:=hB.size;clear hat hrt hf hrow;by_cases hi:q.length<L.length
  · have hi':(q.length:Int)<(L.length:Int):=by omega
    have hcx:=(hB.cell (p:=⟨b,q.length,none⟩) hb).trans (HCL.out q.length hi);have hxl:=HX.out L[q.length] (List.getElem_mem hi);have HSTOP:=hide (fun h=>i6 hi HF.out h);have HGO:=hide (fun ps h=>V1 (ps:=ps) hi HF.out h);obtain⟨x,hxe⟩:∃ x,L[q.length]=x:=⟨_,rfl⟩
    rw[hxe] at hcx hxl HSTOP HGO;have hsl:Sx.sl [x]=x.length:=by simp[Sx.sl]
    have HPA:=hide (YR [x] (.slice (some ⟨b,q.length,none⟩) 1 (cap-q.length)) wr (l7 (by omega) hcx) (by simp) (by rw[hsl];omega));unfold rL at HPA;rw[hsl] at HPA;have k1:q.length+1≤cap:=by omega
    have k2:(q.length:Int)+1≤(cap:Int):=by omega
    clear hB hxe hsl hcx hxl HF;go_wp2_with fail
    refine HPA.out.mono ?_;rintro e w1 ⟨hB1,he⟩;have HB1:=hide hB1;clear HPA;by_cases hbig:2000<x.length
    · rw[if_pos hbig] at he;subst he;have HNO:=hide (HSTOP.out (A3 hbig));have HBB:=hide (HB.out.trans (hB1.mono hsz));clear hB1 hbig HSTOP HGO;go_wp2;go_ret2;exact NL (by decide) HNO.out HBB.out
    · rw[if_neg hbig] at he;by_cases h0:(Sx.aQ [x] [] 0).2.1=0
      · rw[if_pos h0] at he;obtain⟨lv,q1,rfl,hq1,hat1⟩:=he;obtain⟨pl,cl,rfl⟩:=aB hat1.row;by_cases h1:q1.length=1
        · obtain⟨⟨hv,rh,rk,rsec⟩,rfl⟩:∃ y,q1=[y]:=by
           rcases q1 with _ | ⟨y,_ | ⟨z,t⟩⟩
           · simp at h1
           · exact⟨y,rfl⟩
           · simp at h1
          have hone:=m0 (rs:=q.map (·.2)) hbig h0 hq1.symm;have hrt1:=rT [x] [] 0 fR;rw[←hq1] at hrt1;have hr1:Sx.RlRt (rh,rk,rsec):=hrt1.ok _ (by simp);obtain⟨g1,c1',hv1,-,-⟩:=hat1.row.form (by simp);simp only[List.length_singleton,Value.slice.injEq,true_and] at hv1;obtain⟨rfl,rfl⟩:=hv1;have hg1:=(hat1.row.lt g1 rfl).2;have hg1b:=(hat1.row.lt g1 rfl).1;have HC1:Hid (∀ W,Below w1.heap.size w1 W→W.cell? ⟨g1,0,none⟩=some hv∧W.cell? ⟨g1,1,none⟩=some (.int .u8 rk.toNat)∧W.cell? ⟨g1,2,none⟩=some (.int .u8 rsec.toNat)):=hide (fun W h=>(hat1.below h).cells 0 (by simp));have hho:=hat1.hosts (hv,rh,rk,rsec) (by simp);dsimp only at hho;have hl1:rh.length≤6:=hr1.ok.1.2.1;have hl2:Sx.aM rh≤61:=hr1.ok.1.2.2.1;have HDOT:Hid (∀ W,Below w1.heap.size w1 W→Calls Tryz.prog 148 #[hv] W fun e w'=>e=.returned (.string ⟨(Sx.aA rh).toArray⟩)∧w'=W):=hide (fun W hW=>jT rh _ _ W (by omega) (fun y hy=>by have:=eZ rh y hy;omega) (aD hho hW));obtain⟨ph,ch,rfl⟩:=aB hho;have HHO:=hide hho;have HAT2:=hide (HAT.out.below hB1);have HONE:=hide hone;have hql:q.length≤30:=by have:=HRT.out.many;simpa using this
          have HBB:=hide (HB.out.trans (hB1.mono hsz));have hsz1:=hB1.size;clear hone hrt1 hr1 hho hB1 hbig h0 hq1 h1 hl1 hl2 hat1;go_wp2
          go_loopw [9] (fun kv wk=>∃ j:Nat,kv=.int .i64 j∧j≤q.length∧Sx.known ((q.take j).map (·.2)) (rh,rk,rsec)=false∧Below w1.heap.size w1 wk) (fun kv _=>(q.length-intOf kv).toNat)
          case atStart=>exact⟨0,rfl,by omega,rfl,Below.refl _ _⟩
          case round =>
           obtain⟨j,rfl,hj,hkn,hB5⟩:=hrel
           rename World=>wk
           have hat5:=HAT2.out.below hB5;obtain⟨r0,r1,r2⟩:=HC1.out _ hB5;have HKN:=hide hkn;have HB5:=hide hB5;clear hkn;by_cases hjl:j<q.length
           · have hjl':(j:Int)<(q.length:Int):=by omega
             obtain⟨g7,c7',hv7,_,_⟩:=hat5.row.form (by omega);simp only[Value.slice.injEq,true_and] at hv7;obtain⟨rfl,rfl⟩:=hv7;obtain⟨k1',k2',k3'⟩:=hat5.cells j hjl;have hrl:=(HRT.out.ok q[j].2 (List.mem_map.2 ⟨q[j],List.getElem_mem hjl,rfl⟩)).ok;have hh:=hat5.hosts q[j] (List.getElem_mem hjl);have hkt:(q.take (j+1)).map (·.2)=(q.take j).map (·.2)++[q[j].2]:=by rw[List.take_succ_eq_append_getElem hjl,List.map_append];rfl
             have hqm:q[j].2∈q.map (·.2):=List.mem_map.2 ⟨q[j],List.getElem_mem hjl,rfl⟩;obtain⟨⟨jv,jh,jk,js⟩,he⟩:∃ x,q[j]=x:=⟨_,rfl⟩
             rw[he] at k1' k2' k3' hrl hh hkt hqm;dsimp only at k1' k2' k3' hh hkt hqm;have hr1:jh.length≤6:=hrl.1.2.1;have hr2:Sx.aM jh≤61:=hrl.1.2.2.1;have hd1:=jT jh _ jv wk (by omega) (fun x hx=>by have h1:=eZ jh x hx;omega) hh;have HD1:=hide hd1;have HD2:=hide (HDOT.out wk hB5);have HKT:=hide hkt;have HQM:=hide hqm;obtain⟨pj,cj,hpj⟩:=aB hh;subst hpj;clear hd1 hkt he hrl hh hat5 hqm hr1 hr2 hB5;go_wp2_with fail
             refine HD1.out.mono ?_;rintro e w8 ⟨rfl,rfl⟩;go_wp2_with fail
             refine HD2.out.mono ?_;rintro e w9 ⟨rfl,rfl⟩;cases e1:(Sx.aA jh == Sx.aA rh) with
             | true =>
               cases e2:((jk.toNat:Int) == (rk.toNat:Int)) with
               | true =>
                 have hkw:Sx.known (q.map (·.2)) (rh,rk,rsec)=true:=by
                  unfold Sx.known;rw[List.any_eq_true];refine⟨_,HQM.out,?_⟩;have h1:Sx.aA jh=Sx.aA rh:=by simpa using e1
                  have h2:jk=rk:=UInt8.toNat_inj.1 (by have:=beq_iff_eq.1 e2;omega);simp[h1,h2]
                 have HNO:=hide (HSTOP.out (by rw[HONE.out,if_pos hkw]));have HB7:=hide (HBB.out.trans (HB5.out.mono (by omega)));clear hkw;go_wp2;go_quiet ((fail))
                 go_wp2;go_ret2;exact NL (by decide) HNO.out (HB7.out.trans ⟨rfl,rfl,rfl,Nat.le_refl _,fun _ _=>rfl⟩)
               | false =>
                 have hkw:Sx.known ((q.take (j+1)).map (·.2)) (rh,rk,rsec)=false:=by
                  rw[HKT.out];have h2:¬ jk=rk:=fun e=>by rw[e] at e2;simp at e2
                  exact lH _ _ _ HKN.out (fun h=>h2 h.2)
                 have HKW:=hide hkw;clear hkw;go_wp2;go_quiet ((fail))
                 go_wp2;exact⟨⟨j+1,by go_num,by omega,HKW.out,HB5.out.trans ⟨rfl,rfl,rfl,Nat.le_refl _,fun _ _=>rfl⟩⟩,by simp[intOf];omega⟩
             | false =>
               have hkw:Sx.known ((q.take (j+1)).map (·.2)) (rh,rk,rsec)=false:=by
                rw[HKT.out];have h2:¬ Sx.aA jh=Sx.aA rh:=by simpa using e1
                exact lH _ _ _ HKN.out (fun h=>h2 h.1)
               have HKW:=hide hkw;clear hkw;go_wp2;go_quiet ((fail))
               go_wp2;exact⟨⟨j+1,by go_num,by omega,HKW.out,HB5.out.trans ⟨rfl,rfl,rfl,Nat.le_refl _,fun _ _=>rfl⟩⟩,by simp[intOf];omega⟩
           · have hjq:j=q.length:=by omega
             subst hjq;have hjn:¬ (q.length:Int)<(q.length:Int):=by omega
             have hkw:=HKN.out;rw[List.take_length] at hkw;have hago:nY (some (q.map (·.2))) x=some ((q++[((.slice ph rh.length ch:Value),(rh,rk,rsec))]).map (·.2)):=by
              rw[HONE.out,hkw,List.map_append];rfl
             have hrt2:=(UJ HRT.out (by rw[List.length_map];omega) hago).1;have HRT2:=hide hrt2;have HG2:=hide (HGO.out _ hago);have hrow5:=hat5.row;have HAT5:=hide hat5;have hB7:=HBB.out.trans (hB5.mono (by omega));have hsz7:=hB7.size;have hh5:=jU (aD HHO.out hB5) (B:=w.heap.size) (by omega);have HH:=hide hh5;have HB7:=hide hB7;clear hkw hago hrt2 hjl hj hat5 hh5 hB7 hB5;go_wp2_with (at_builtin;go_must (refine wpList_append_lies _ rfl _ _ _ rfl w.heap.size 218 i0 (.agg #[.slice none 0 0,.int .u8 0,.int .u8 0]) 3 32 Tryz.underlying211 hi0 hz0 hz1 hz2 rfl (by decide) _ _ _ rfl (hrow5.alloc _) ⟨_,0,none⟩ 1 1 [.slice ph rh.length ch,.int .u8 rk.toNat,.int .u8 rsec.toNat] rfl rfl (sC _ _ _ _ _) (by simp[Value.oneCell']) (by omega) (by unfold maxLen;omega) (by omega) (by simp;omega) _ rfl ?_;intro g9 cap9 w9 hown9 hgrow9 hat9 hlt9))
             have hat10:=uG (r:=(rh,rk,rsec)) HAT5.out HH.out hgrow9 rfl hown9;exact⟨⟨q.length+1,_,by go_num,by omega,by simp,hat10,aH HB7.out hsz7 hrow5 hgrow9,HRT2.out,HG2.out⟩,by simp[intOf];omega⟩
        · have h1':((q1.length:Int) != 1)=true:=by simp;omega
          have HNO:=hide (HSTOP.out (MG (.inr (by rw[←hq1,List.length_map];exact h1))));have HBB:=hide (HB.out.trans (hB1.mono hsz));clear hB1 hbig h0 hq1 hat1 h1 HSTOP HGO;go_wp2;go_ret2;exact NL (by decide) HNO.out HBB.out
      · rw[if_neg h0] at he;subst he;have HNO:=hide (HSTOP.out (MG (.inl h0)));have HBB:=hide (HB.out.trans (hB1.mono hsz));obtain⟨mm,hmm⟩:∃ z,(Sx.aQ [x] [] 0).2.1=z:=⟨_,rfl⟩
        obtain⟨nn,hnn⟩:∃ z,(Sx.aQ [x] [] 0).2.2=z:=⟨_,rfl⟩
        rw[hmm] at h0 ⊢;rw[hnn];have h0':(mm != 0)=true:=by simp[h0]
        clear hB1 hbig h0 hmm hnn HSTOP HGO;go_wp2;go_ret2;exact NL (by decide) HNO.out HBB.out
  · have hie:q.length=L.length:=by omega
    have hfin:L.foldl nY (some [])=some (q.map (·.2)):=by rw[HF.out,hie,List.drop_length];rfl
    have HFIN:=hide hfin;have hni:¬ (q.length:Int)<(L.length:Int):=by omega
    have HIM:=hide (V8 q w.heap.size _ wr HAT.out HRT.out.rls (fun r hr=>by
     rcases(HRT.out.ok r hr).2.2.2 with e | e <;> rw[e] <;> decide))
    clear hfin hie hB;go_wp2_with fail
    refine HIM.out.mono ?_;rintro e w1 ⟨rfl,hB1⟩;have HBB:=hide (HB.out.trans (hB1.mono hsz));clear hB1;go_wp2;go_ret2;unfold vQ;rw[HFIN.out];exact⟨HBB.out,rfl⟩
end Go.Proofs.YtgohllfpceeboabGreatDoor
