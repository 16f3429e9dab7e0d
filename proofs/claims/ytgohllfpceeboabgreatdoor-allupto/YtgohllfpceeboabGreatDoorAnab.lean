import Derived.Test.YtgohllfpceeboabGreatDoorProg
import Derived.WalkKit
import Derived.WalkSpells
import Derived.Deep.AppendLies
import Derived.Deep.AppendSrc
namespace Go.Proofs.YtgohllfpceeboabGreatDoor
open Go.RowKit
theorem hide {p:Prop}(h:p):Hid p:=h
theorem bY {k:IntKind}{a b:Int}(h:a=b):Ending.returned (.int k a)=.returned (.int k b):=by rw[h]
theorem gV {a b:ByteArray}(h:a=b):Ending.returned (.string a)=.returned (.string b):=by rw[h]
theorem bF (a b:List UInt8):(⟨a.toArray⟩:ByteArray)++⟨b.toArray⟩=⟨(a++b).toArray⟩:=by
 apply ByteArray.ext;simp
theorem Tryz.info3:(Tryz.prog.info? 3).map (fun i=>(i.zero,i.size,i.bytes))=some (some (.int .i64 0),1,8):=by kernel_rfl
theorem Tryz.info4:(Tryz.prog.info? 4).map (fun i=>(i.zero,i.size,i.bytes))=some (some (.bool false),1,1):=by kernel_rfl
theorem Tryz.info5:(Tryz.prog.info? 5).map (fun i=>(i.zero,i.size,i.bytes))=some (some (.int .u8 0),1,1):=by kernel_rfl
theorem Tryz.info9:(Tryz.prog.info? 9).map (fun i=>(i.zero,i.size,i.bytes))=some (some (.string ⟨#[]⟩),1,16):=by kernel_rfl
def dO (bs:List UInt8):List Value:=bs.map fun c=>Value.int .u8 c.toNat
def dW (l:List Int):List Value:=l.map fun c=>Value.int .i64 c
def AH (l:List Bool):List Value:=l.map fun c=>Value.bool c
def bB (l:List (List UInt8)):List Value:=l.map fun c=>Value.string ⟨c.toArray⟩
theorem eQ (a b:List UInt8):dO (a++b)=dO a++dO b:=by simp[dO]
theorem gY (a b:List Int):dW (a++b)=dW a++dW b:=by simp[dW]
theorem D3 (a b:List Bool):AH (a++b)=AH a++AH b:=by simp[AH]
theorem gB (a b:List (List UInt8)):bB (a++b)=bB a++bB b:=by simp[bB]
theorem gI (c:Int)(h0:0≤c)(h:c<256):Value.int .u8 c=Value.int .u8 (UInt8.ofNat c.toNat).toNat:=by
 congr 1;simp only[UInt8.toNat_ofNat'];omega
theorem aH {B:Nat}{w wr w1:World}{e:TypeId}{s n:Nat}{v:Value}{xs:List Value}{o:Obj}(hB:Below B w wr)(hle:B≤wr.heap.size)(hown:wr.ownsRow B e s v n xs)(hg:(wr.alloc o).grownBy w1 v.ownBlock):Below B w w1 :=
 (hB.alloc hle o).grown hg (by simp;omega) (fun k e=>(hown.lt k e).1)
theorem bR {w:World}{B:Nat}{e:TypeId}{b off n cap:Nat}{xs:List Value}(h:w.ownsRow B e 1 (.slice (some ⟨b,off,none⟩) n cap) n xs):off=0∧xs.length=n∧n≤cap∧cap≤maxLen∧B≤b∧b<w.heap.size∧∀ j (hj:j<xs.length),w.cell? ⟨b,j,none⟩=some xs[j]:=by
 have hl:xs.length=n:=by have:=h.1;omega
 rcases h.2 with ⟨h1,_⟩ | ⟨g,cap',cur,hv,hb,hg,hc1,hc2,hc3,hc4⟩
 · cases h1
 · cases hv;have hlt:b<w.heap.size:=(h.lt b rfl).2;refine⟨rfl,hl,hc1,hc2,hb,hlt,fun j hj=>?_⟩;have:=h.cells (g:=b) rfl j xs[j] (List.getElem?_eq_getElem hj);rw[Addr.add_lit,Nat.zero_add] at this;exact this
theorem dD {w:World}{B n:Nat}{v:Value}{bs:List UInt8}(h:w.ownsRow B 5 1 v n (dO bs)):(convert 90 9 v).run Tryz.prog w=.ok (.string ⟨bs.toArray⟩) w:=by
 have hl:bs.length=n:=by have:=h.1;simp[dO] at this;omega
 rcases h.2 with ⟨rfl,h0⟩ | ⟨g,cap,cur,rfl,hb,hg,_⟩
 · have:bs=[]:=List.eq_nil_of_length_eq_zero (by omega);subst this;rw[run_convert_bytes_string w 90 9 5 none 0 0 Tryz.underlying90 Tryz.underlying5 Tryz.underlying9];rfl
 · have:=run_convert_bytes_back (P:=Tryz.prog) w 90 9 5 ⟨g,0,none⟩ cap bs Tryz.underlying90 Tryz.underlying5 Tryz.underlying9 (fun j hj=>by
    have:=h.cells (g:=g) rfl j (.int .u8 (bs[j].toNat:Int)) (by simp[dO,List.getElem?_eq_getElem hj]);exact this)
   rw[hl] at this;exact this
section
variable {P:Program} (w:World)
theorem run_append_nothing (t ty e:TypeId)(i:TypeInfo)(ht:P.underlying t=some (.slice e))(hi:P.info? e=some i)(v:Value)(hv:v=.slice none 0 0∨∃ g n cap,v=.slice (some ⟨g,0,none⟩) n cap∧n≤cap) :
 (Builtin.append_ #[t,t] ty #[v,.slice none 0 0]).run P w=.ok v w:=by
 rcases hv with rfl | ⟨g,n,cap,rfl,hc⟩
 · simp[Builtin.append_,run_underlying ht,sizeOf,typeInfo,hi,Builtin.lenOf,Builtin.firstCells]
 · have:=run_append_room_src (P:=P) w t t ty e i ht hi g 0 n cap (.slice none 0 0) 0 [] (Src.ofNil w ht 0) (by omega) (by simp) (by simp)
   simpa[World.setCells] using this
theorem aX {ops:Array Oper}{rest:List Oper}{o:Oper}{a:Act}{Q:Exit→Act→World→Prop}(hgd:o.guard=none)(s x:Operand)(t:TypeId)
 (ho:o.op=.call { callee:=.builtin .append,args:=#[s,x],argTypes:=#[t,t] })
 (e:TypeId) (i:TypeInfo) (ht:P.underlying t=some (.slice e)) (hi:P.info? e=some i)
 (v:Value) (hs:a.eval s=v) (hx:a.eval x=.slice none 0 0) (hv:v=.slice none 0 0∨∃ g n cap,v=.slice (some ⟨g,0,none⟩) n cap∧n≤cap)
 (h:wpList P ops Q rest (a.put o.dst v) w):wpList P ops Q (o::rest) a w:=by
 refine wpList_plain hgd fun K hK=>?_;have hr:=run_append_nothing (P:=P) w t o.type e i ht hi v hv;unfold Oper.wp execOp;simp only[ho,resolve,invoke,builtin,Sem.run_bind,Sem.run_pure,Result.andThen_ok,List.map_toArray,List.map_cons,List.map_nil,hs,hx,hr];exact hK _ _ h
end
end Go.Proofs.YtgohllfpceeboabGreatDoor
