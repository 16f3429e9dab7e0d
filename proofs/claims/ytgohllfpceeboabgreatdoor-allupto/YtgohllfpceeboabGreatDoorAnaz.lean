import Derived.Test.YtgohllfpceeboabGreatDoorAnad
import Derived.Test.YtgohllfpceeboabGreatDoorAnae
namespace Go.Proofs.YtgohllfpceeboabGreatDoor
theorem Tryz.info218 : (Tryz.prog.info? 218).map (fun i => (i.zero, i.size, i.bytes)) = some (some (.agg #[.slice none 0 0, .int .u8 0, .int .u8 0]), 3, 32) := by kernel_rfl
open Go.RowKit
abbrev wZ:=Value×Sx.Rl
def XZ (q:List wZ):List Value:=q.flatMap fun x=>[x.1,Value.int .u8 x.2.2.1.toNat,Value.int .u8 x.2.2.2.toNat]
structure RlsAt (w:World) (B:Nat) (v:Value) (q:List wZ):Prop where
 row:w.ownsRow B 218 3 v q.length (XZ q)
 hosts:∀ x∈q,w.ownsRow B 9 1 x.1 x.2.1.length (bB x.2.1)
theorem RlsAt.below {w w':World}{B:Nat}{v:Value}{q:List wZ}(h:RlsAt w B v q)(hb:Below w.heap.size w w'):RlsAt w' B v q:=⟨aD h.row hb,fun x hx=>aD (h.hosts x hx) hb⟩
theorem m4 (a b:List wZ):XZ (a++b)=XZ a++XZ b:=by simp[XZ]
theorem t6:∀ (q:List wZ) (j:Nat) (h:j<q.length),(XZ q)[j*3]? = some q[j].1∧(XZ q)[j*3+1]? = some (.int .u8 q[j].2.2.1.toNat)∧(XZ q)[j*3+2]? = some (.int .u8 q[j].2.2.2.toNat):=by
 intro q
 induction q with
 | nil=>intro j h;exact absurd h (Nat.not_lt_zero _)
 | cons x r ih =>
   intro j h;have e:XZ (x::r)=x.1::Value.int .u8 x.2.2.1.toNat::Value.int .u8 x.2.2.2.toNat::XZ r:=rfl;cases j with
   | zero=>rw[e];exact⟨rfl,rfl,rfl⟩
   | succ j =>
     have:=ih j (by simpa using h);rw[e,show(j+1)*3=j*3+1+1+1 from by omega]
     simpa using this
theorem RlsAt.cells {w:World}{B g cap:Nat}{q:List wZ}(h:RlsAt w B (.slice (some ⟨g,0,none⟩) q.length cap) q)(j:Nat)(hj:j<q.length):w.cell? ⟨g,j*3,none⟩=some q[j].1∧w.cell? ⟨g,j*3+1,none⟩=some (.int .u8 q[j].2.2.1.toNat)∧w.cell? ⟨g,j*3+2,none⟩=some (.int .u8 q[j].2.2.2.toNat):=by
 obtain⟨a1,a2,a3⟩:=t6 q j hj;have c1:=h.row.cells (g:=g) rfl _ _ a1;have c2:=h.row.cells (g:=g) rfl _ _ a2;have c3:=h.row.cells (g:=g) rfl _ _ a3;rw[Addr.add_lit,Nat.zero_add] at c1 c2 c3;exact⟨c1,c2,c3⟩
theorem PX (q:List wZ)(k:Nat)(h:k<q.length):(q.take (k+1)).map (fun x=>Sx.aL x.2)=(q.take k).map (fun x=>Sx.aL x.2)++[Sx.aL q[k].2]:=by
 rw[List.take_succ_eq_append_getElem h,List.map_append];rfl
theorem eZ (h:List (List UInt8))(x:List UInt8)(hx:x∈h):x.length≤Sx.aM h:=by
 induction h with
 | nil=>cases hx
 | cons y r ih =>
   have e:Sx.aM (y::r)=y.length+1+Sx.aM r:=by simp[Sx.aM]
   rcases List.mem_cons.1 hx with rfl | hx
   · omega
   · have:=ih hx;omega
end Go.Proofs.YtgohllfpceeboabGreatDoor
