import Derived.Test.YtgohllfpceeboabGreatDoorAnbc
namespace Go.Proofs.YtgohllfpceeboabGreatDoor
open Go.RowKit
theorem own_base {w:World}{B B' n z:Nat}{e:TypeId}{v:Value}{xs:List Value}(h:w.ownsRow B' e z v n xs)(hb:B≤B'):w.ownsRow B e z v n xs:=by
 obtain⟨h1,h2⟩:=h;refine⟨h1,?_⟩;rcases h2 with h2 | ⟨g,cap,cur,hv,hg,r⟩
 · exact .inl h2
 · exact .inr ⟨g,cap,cur,hv,Nat.le_trans hb hg,r⟩
theorem NG:∀ (k:Nat) (x:List UInt8×Bool),(nX k x).1.length=k
 | 0,_=>rfl
 | k+1,x=>by unfold nX;simp[NG k]
theorem AutAt.grown {W W':World}{b B c:Nat}{tab:List (List Sx.aT)}(h:AutAt W b B tab)(hg:W.grownBy W' (some c))(hc:c<B)(hbc:b≠c):AutAt W' b B tab:=by
 obtain⟨sv,vs,h1,h2⟩:=h;have hk:∀ {t:TypeId} {z n:Nat} {v:Value} {xs:List Value},W.ownsRow B t z v n xs→W'.ownsRow B t z v n xs:=fun ho=>ho.kept hg (.inr (fun e=>by have:=(ho.lt c e).1;omega));exact⟨sv,vs,(hg.block b (Array.getElem?_eq_some_iff.1 h1).1 (fun e=>hbc (by injection e))).trans h1,hk h2.row,h2.len,fun i hi h3=>hk (h2.each i hi h3)⟩
end Go.Proofs.YtgohllfpceeboabGreatDoor
