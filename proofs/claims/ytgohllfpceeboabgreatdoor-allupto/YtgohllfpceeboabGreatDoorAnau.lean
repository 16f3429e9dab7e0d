import Derived.Test.YtgohllfpceeboabGreatDoorAnab
import Derived.Test.YtgohllfpceeboabGreatDoorAnat
set_option maxRecDepth 100000
set_option maxHeartbeats 1000000
namespace Go.Proofs.YtgohllfpceeboabGreatDoor
open Go.RowKit
theorem eY (n:Int)(w:World):Calls Tryz.prog 102 #[.int .i64 n] w fun e w'=>e=.returned (.int .i64 n)∧w'=w:=by
 go_enter Tryz.func102,Tryz.ntmps102;go_wp2;go_ret;exact⟨rfl,rfl⟩
def rF (LW:World→Prop):Prop:=∀ (s:ByteArray) (w:World),LW w→Calls Tryz.prog 14 #[.string s] w (iV (Sx.dU s.data.toList) w.heap.size w)
def rK (LW:World→Prop):Prop:=∀ (s:ByteArray) (w:World),LW w→Calls Tryz.prog 45 #[.string s] w (iV (Sx.iN s.data.toList) w.heap.size w)
def NH (LW:World→Prop):Prop:=∀ w w',LW w→Below w.heap.size w w'→LW w'
theorem ES (w w1:World)(cs:Array Value)(t:TypeId)(h:Below (w.heap.size+1) (w.alloc (.cells cs t)) w1)(j:Nat)(v:Value)(hv:cs[j]? = some v):w1.cell? ⟨w.heap.size,j,none⟩=some v:=by
 rw[h.cell (p:=⟨w.heap.size,j,none⟩) (by simp),World.cell?_alloc_mark];exact hv
theorem FM {LW:World→Prop}(hP:rF LW)(hS:NH LW)(a1 a2 a3 a6 a7:Value)(s t:ByteArray)(w:World)(hw:LW w) :
 Calls Tryz.prog 66 #[.agg #[.int .i64 1,a1,a2,a3,.string s,.string t,a6,a7]] w fun e w'=>e=.returned (.bool true)∧Below w.heap.size w w':=by
 have hB0:Below w.heap.size w (w.alloc (.cells #[.int .i64 1,a1,a2,a3,.string s,.string t,a6,a7] 96)):=(Below.refl _ _).alloc (Nat.le_refl _) _;have HC:=hide (hP s _ (hS _ _ hw hB0));clear hP;go_enter Tryz.func66,Tryz.ntmps66;go_wp2_with fail
 refine HC.out.mono ?_;rintro e w1 ⟨hB1,rfl⟩;rw[World.size_alloc] at hB1;have hc4:=ES w w1 _ _ hB1 4 _ rfl;have hsz1:=hB1.size;rw[World.size_alloc] at hsz1;have hBa:=hB0.trans (hB1.mono (Nat.le_succ _));go_wp2_with fail
 refine(KT s _).mono ?_;rintro e w2 ⟨hB2,rfl⟩;have hBB:=hBa.trans (hB2.mono (by omega));clear hBa hB0 hB1 hB2;obtain⟨p,hp⟩:∃ p,(Sx.dU s.data.toList).1=p:=⟨_,rfl⟩
 obtain⟨n,hn⟩:∃ n,(Sx.dU s.data.toList).2=n:=⟨_,rfl⟩
 rw[hp,hn];clear hp hn HC;have he:((⟨p.toArray⟩:ByteArray).toList == (⟨p.toArray⟩:ByteArray).toList)=true:=by simp
 have hn2:(n == n)=true:=by simp
 go_wp2_with (go_at_call 102;go_must (refine(eY _ _).mono ?_;rintro e w' ⟨rfl,rfl⟩))
 go_ret;exact⟨rfl,hBB⟩
theorem CU {LW:World→Prop}(hP:rK LW)(hS:NH LW)(a1 a2 a3 a6 a7:Value)(s t:ByteArray)(w:World)(hw:LW w) :
 Calls Tryz.prog 66 #[.agg #[.int .i64 2,a1,a2,a3,.string s,.string t,a6,a7]] w fun e w'=>e=.returned (.bool true)∧Below w.heap.size w w':=by
 have hB0:Below w.heap.size w (w.alloc (.cells #[.int .i64 2,a1,a2,a3,.string s,.string t,a6,a7] 96)):=(Below.refl _ _).alloc (Nat.le_refl _) _;have HC:=hide (hP s _ (hS _ _ hw hB0));clear hP;go_enter Tryz.func66,Tryz.ntmps66;go_wp2_with fail
 refine HC.out.mono ?_;rintro e w1 ⟨hB1,rfl⟩;rw[World.size_alloc] at hB1;have hc4:=ES w w1 _ _ hB1 4 _ rfl;have hsz1:=hB1.size;rw[World.size_alloc] at hsz1;have hBa:=hB0.trans (hB1.mono (Nat.le_succ _));go_wp2_with fail
 refine(KJ s _).mono ?_;rintro e w2 ⟨hB2,rfl⟩;have hBB:=hBa.trans (hB2.mono (by omega));clear hBa hB0 hB1 hB2;obtain⟨p,hp⟩:∃ p,(Sx.iN s.data.toList).1=p:=⟨_,rfl⟩
 obtain⟨n,hn⟩:∃ n,(Sx.iN s.data.toList).2=n:=⟨_,rfl⟩
 rw[hp,hn];clear hp hn HC;have he:((⟨p.toArray⟩:ByteArray).toList == (⟨p.toArray⟩:ByteArray).toList)=true:=by simp
 have hn2:(n == n)=true:=by simp
 go_wp2_with (go_at_call 102;go_must (refine(eY _ _).mono ?_;rintro e w' ⟨rfl,rfl⟩))
 go_ret;exact⟨rfl,hBB⟩
theorem ZD {LW:World→Prop}(hP:rF LW)(hQ:rK LW)(hS:NH LW)(k:Int)(hk:k=1∨k=2)(wp a1 a2 a3 a6 a7:Value)(s t:ByteArray)(w:World)(hw:LW w) :
 Calls Tryz.prog 44 #[wp,.agg #[.int .i64 k,a1,a2,a3,.string s,.string t,a6,a7]] w fun e w'=>e=.returned (.bool true)∧Below w.heap.size w w':=by
 have hB0:Below w.heap.size w (w.alloc (.cells #[.int .i64 k,a1,a2,a3,.string s,.string t,a6,a7] 96)):=(Below.refl _ _).alloc (Nat.le_refl _) _;have hw0:=hS _ _ hw hB0;rcases hk with rfl | rfl
 · have HC:=hide (FM hP hS a1 a2 a3 a6 a7 s t _ hw0);clear hP hQ hw0 hw;go_enter Tryz.func44,Tryz.ntmps44;go_wp2_with fail
   refine HC.out.mono ?_;rintro e w1 ⟨rfl,hB1⟩;have hBB:=hB0.trans (hB1.mono (by simp));clear HC hB0 hB1;go_wp2;go_ret;exact⟨rfl,hBB⟩
 · have HC:=hide (CU hQ hS a1 a2 a3 a6 a7 s t _ hw0);clear hP hQ hw0 hw;go_enter Tryz.func44,Tryz.ntmps44;go_wp2_with fail
   refine HC.out.mono ?_;rintro e w1 ⟨rfl,hB1⟩;have hBB:=hB0.trans (hB1.mono (by simp));clear HC hB0 hB1;go_wp2;go_ret;exact⟨rfl,hBB⟩
structure OpC where
 k:Int
 n1:Int
 n2:Int
 n3:Int
 s:ByteArray
 t:ByteArray
 la:Option Addr
 ln:Nat
 lc:Nat
 md:Bool
def OpC.cells (o:OpC):List Value:=[.int .i64 o.k,.int .i64 o.n1,.int .i64 o.n2,.int .i64 o.n3,.string o.s,.string o.t,.slice o.la o.ln o.lc,.bool o.md]
def WS (w:World)(b off:Nat)(l:List OpC):Prop:=b<w.heap.size∧∀ j (h:j<l.length),∀ i v,(l[j].cells)[i]? = some v→w.cell? ⟨b,off+j*8+i,none⟩=some v
end Go.Proofs.YtgohllfpceeboabGreatDoor
