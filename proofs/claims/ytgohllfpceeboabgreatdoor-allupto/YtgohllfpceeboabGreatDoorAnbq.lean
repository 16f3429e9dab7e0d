import Derived.Test.YtgohllfpceeboabGreatDoorAnbm
namespace Go.Proofs.YtgohllfpceeboabGreatDoor
open Go.RowKit
theorem yB {w:World}{base:Nat}{e:TypeId}{size n g cap:Nat}{xs:List Value}(h:w.ownsRow base e size (.slice (some ⟨g,0,none⟩) n cap) n xs)(k:Nat)(u:Value):(w.setCell ⟨g,k,none⟩ u).ownsRow base e size (.slice (some ⟨g,0,none⟩) n cap) n (xs.set k u):=by
 obtain⟨h1,h2⟩:=h;refine⟨by rw[List.length_set];exact h1,?_⟩;rcases h2 with ⟨h,_⟩ | ⟨g',cap',cur,hv,hb,hg,r1,r2,r3,r4⟩
 · cases h
 · injection hv with ha hb' hc
   injection ha with ha
   injection ha with ha
   subst ha;refine .inr ⟨g,cap',cur.setIfInBounds k u,by rw[hc],hb,heap_setCell_same w g k cur e u hg,r1,r2,by rw[Array.size_setIfInBounds];exact r3,?_⟩;rw[Array.toList_setIfInBounds,List.take_set,r4]
theorem zT:∀ (os:List cJ) (n:Nat) (h:n<os.length) (d:List UInt8),fE (os.set n (os[n].1,d))=(fE os).set (n*4+3) (.string ⟨d.toArray⟩)
 | x::r,0,_,d=>rfl
 | x::r,n+1,h,d=>by
   have ih:=zT r n (by simpa using h) d;have e:∀ y l,fE (y::l)=PY y++fE l:=fun _ _=>rfl;rw[List.set_cons_succ,List.getElem_cons_succ,e,e,ih];have hl:(PY x).length=4:=rfl;rw[show(n+1)*4+3=(PY x).length+(n*4+3) by rw[hl];omega,List.set_append_right _ _ (by omega)];congr 2;omega
end Go.Proofs.YtgohllfpceeboabGreatDoor
