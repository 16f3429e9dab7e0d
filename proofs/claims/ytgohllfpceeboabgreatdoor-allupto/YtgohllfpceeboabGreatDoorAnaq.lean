import Derived.Test.YtgohllfpceeboabGreatDoorAnab
import Derived.Test.YtgohllfpceeboabGreatDoorAnaa
set_option maxRecDepth 100000
set_option maxHeartbeats 1000000
namespace Go.Proofs.YtgohllfpceeboabGreatDoor
open Go.RowKit
theorem jS (h:List (List UInt8))(k:Nat)(hk:k<h.length):Sx.aA (h.take (k+1))=(if k=0 then [] else Sx.aA (h.take k)++[46])++h[k]:=by
 rw[List.take_succ_eq_append_getElem hk,Sx.mX];by_cases h0:k=0
 · subst h0;simp
 · rw[if_neg,if_neg h0]
   · simp
   · intro e;have:=congrArg List.length e;rw[List.length_take,List.length_nil] at this;omega
theorem dJ {w:World}{B b cap:Nat}{h:List (List UInt8)}(ho:w.ownsRow B 9 1 (.slice (some ⟨b,0,none⟩) h.length cap) h.length (bB h))(k:Nat)(hk:k<h.length):w.cell? ⟨b,k,none⟩=some (.string ⟨h[k].toArray⟩):=by
 obtain⟨_,_,_,_,_,_,hc⟩:=bR ho;rw[hc k (by simp[bB];exact hk)];simp[bB]
theorem QY (h:List (List UInt8))(B b cap:Nat)(w:World)(hl:h.length≤100)(hx:∀ x∈h,x.length≤1000)(ho:w.ownsRow B 9 1 (.slice (some ⟨b,0,none⟩) h.length cap) h.length (bB h)) :
 Calls Tryz.prog 148 #[.slice (some ⟨b,0,none⟩) h.length cap] w fun e w'=>e=.returned (.string ⟨(Sx.aA h).toArray⟩)∧w'=w:=by
 have HO:=hide ho;have HX:=hide hx;clear ho hx;go_enter Tryz.func148,Tryz.ntmps148;go_wp2
 go_loop [3,4] (fun s i=>∃ (k:Nat) (p:List UInt8),s=.string ⟨p.toArray⟩∧i=.int .i64 k∧k≤h.length∧p.length≤1001*k∧Sx.aA (h.take k)=p) (fun _ i=>(h.length-intOf i).toNat)
 case atStart=>exact⟨0,[],rfl,rfl,by omega,by simp,rfl⟩
 case round =>
  obtain⟨k,p,rfl,rfl,hk,hp,hd⟩:=hrel;have HD:=hide hd;clear hd;by_cases hlt:k<h.length
  · have hc:=dJ HO.out k hlt;have hxk:=HX.out h[k] (List.getElem_mem hlt);have hdt:=jS h k hlt;obtain⟨x,hxe⟩:∃ x,h[k]=x:=⟨_,rfl⟩
    rw[hxe] at hc hxk hdt;rw[HD.out] at hdt;have HDT:=hide hdt;clear hdt hxe;by_cases h0:k=0
    · subst h0;have hp0:p=[]:=List.eq_nil_of_length_eq_zero (by omega);subst hp0;go_wp2;rw[show(#[] : Array UInt8)=([] : List UInt8).toArray from rfl,bF];exact⟨⟨1,x,by simp,rfl,by omega,by omega,by rw[HDT.out];simp⟩,by simp[intOf];omega⟩
    · have hgt:(0:Int)<(k:Int):=by omega
      go_wp2;rw[show(#[46] : Array UInt8)=[46].toArray from rfl,bF,bF];exact⟨⟨k+1,_,rfl,by go_num,by omega,by simp;omega,by rw[HDT.out,if_neg h0]⟩,by simp[intOf];omega⟩
  · have hk2:h.take k=h:=List.take_of_length_le (by omega);have HK:=hide hk2;clear hk2;go_wp2;go_ret;exact⟨gV (by rw[←HD.out,HK.out]),rfl⟩
theorem XS (w:World):Calls Tryz.prog 148 #[.slice none 0 0] w fun e w'=>e=.returned (.string ⟨#[]⟩)∧w'=w:=by
 go_enter Tryz.func148,Tryz.ntmps148;go_wp2
 go_loop [3,4] (fun s i=>s=.string ⟨#[]⟩∧i=.int .i64 0) (fun _ _=>0)
 case atStart=>exact⟨rfl,rfl⟩
 case round =>
  obtain⟨rfl,rfl⟩:=hrel;go_wp2;go_ret;exact⟨rfl,rfl⟩
theorem jT (h:List (List UInt8))(B:Nat)(v:Value)(w:World)(hl:h.length≤100)(hx:∀ x∈h,x.length≤1000)(ho:w.ownsRow B 9 1 v h.length (bB h)) :
 Calls Tryz.prog 148 #[v] w fun e w'=>e=.returned (.string ⟨(Sx.aA h).toArray⟩)∧w'=w:=by
 rcases ho.2 with ⟨rfl,h0⟩ | ⟨g,cap,cur,rfl,_⟩
 · have:h=[]:=List.eq_nil_of_length_eq_zero h0;subst this;exact XS w
 · exact QY h B g cap w hl hx ho
end Go.Proofs.YtgohllfpceeboabGreatDoor
