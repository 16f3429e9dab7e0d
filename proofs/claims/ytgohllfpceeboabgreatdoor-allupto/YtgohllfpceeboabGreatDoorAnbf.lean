import Derived.Test.YtgohllfpceeboabGreatDoorAnaw
set_option maxRecDepth 100000
namespace Go.Proofs.YtgohllfpceeboabGreatDoor
open Go.RowKit
def gJ (r:Sx.Rl):Int:=if r.2.1=42 then (r.1.length:Int)+1 else if r.2.1=33 then (r.1.length:Int)-1 else r.1.length
theorem KV (k n:UInt8):(k=n)=((k.toNat:Int)=(n.toNat:Int)):=propext ⟨fun h=>by rw[h],fun h=>UInt8.toNat_inj.1 (by omega)⟩
theorem MS (r:Sx.Rl)(w:World)(hl:r.1.length≤1000):Calls Tryz.prog 64 #[iL r] w fun e w'=>e=.returned (.int .i64 (gJ r))∧Below w.heap.size w w':=by
 obtain⟨h,k,sc⟩:=r;unfold iL gJ;dsimp only at hl ⊢;simp only[KV];obtain⟨X,hX⟩:∃ X:ByteArray,⟨(Sx.aA h).toArray⟩=X:=⟨_,rfl⟩
 obtain⟨M,hM⟩:∃ M,h.length=M:=⟨_,rfl⟩
 obtain⟨K,hK⟩:∃ K:Int,(k.toNat:Int)=K:=⟨_,rfl⟩
 rw[hX,hM,hK];rw[hM] at hl;clear hX hM hK;have HB:Hid (∀ o,Below w.heap.size w (w.alloc o)):=hide (fun o=>(Below.refl _ _).alloc (Nat.le_refl _) o);show Calls _ _ _ _ fun e w'=>e=.returned (.int .i64 (if K=42 then (M:Int)+1 else if K=33 then (M:Int)-1 else M))∧_;go_enter Tryz.func64,Tryz.ntmps64;by_cases h1:K=42
 · subst h1;go_wp2;go_ret;exact⟨rfl,HB.out _⟩
 · have e1:(K == 42)=false:=by simpa using h1
   by_cases h2:K=33
   · subst h2;go_wp2;go_ret;exact⟨rfl,HB.out _⟩
   · have e2:(K == 33)=false:=by simpa using h2
     rw[if_neg h1,if_neg h2];go_wp2;go_ret;exact⟨rfl,HB.out _⟩
end Go.Proofs.YtgohllfpceeboabGreatDoor
