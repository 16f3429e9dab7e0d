import Derived.Test.YtgohllfpceeboabGreatDoorAnaa
/- Plain mathematics of codes: reading a number with a bound,as the program does. -/
namespace Sx
def zZ (bias most:Int):Int→Int→Nat→List UInt8→Int×Int
 | _,_,_,[]=>(0,0)
 | d,w,k,x::s =>
   if valOf x<0∨(most-d) / w<valOf x then (0,0)
   else if valOf x<cE k bias then (d+valOf x*w,(k:Int)+1)
   else zZ bias most (d+valOf x*w) (w*(36-cE k bias)) (k+1) s
theorem xR (bias:Int):∀ (s:List UInt8) (d w:Int) (k:Nat) (d':Int) (s':List UInt8),0<w→cS bias d w k s=some (d',s')→d≤d':=by
 intro s
 induction s with
 | nil=>intro d w k d' s' hw h;simp[cS] at h
 | cons x s ih =>
   intro d w k d' s' hw h;simp only[cS] at h;split at h
   · simp at h
   · split at h
     · simp at h
     · rename_i hv;have hm:0≤valOf x*w:=Int.mul_nonneg (by omega) (by omega);have t1:=eP k bias;have t2:=fP k bias;split at h
       · simp only[Option.some.injEq,Prod.mk.injEq] at h;omega
       · have:=ih _ _ _ _ _ (Int.mul_pos hw (by omega)) h;omega
def BG (most:Int)(k n:Nat):Option (Int×List UInt8)→Int×Int
 | none=>(0,0)
 | some (d,s')=>if d≤most then (d,(k:Int)+(n:Int)-(s'.length:Int)) else (0,0)
theorem I0 (k:Nat):(1:Int)≤10 ^ k:=by
 have:=Int.pow_pos (n:=10) (m:=k) (by omega);omega
theorem K9 (bias most:Int)(hb:bias≤262)(hm0:0≤most)(hm:most<260000000):∀ (s:List UInt8) (d w:Int) (k:Nat),0≤d→d≤most→10 ^ k≤w→(8≤k→260000000≤d) →
 zZ bias most d w k s=BG most k s.length (cS bias d w k s):=by
 intro s
 induction s with
 | nil=>intro d w k h0 h1 hw hk;rfl
 | cons x s ih =>
   intro d w k h0 h1 hw hk;have hp:=I0 k;have hwp:0<w:=by omega
   have hk7:¬ 7<k:=by
    intro h;have:=hk (by omega);omega
   simp only[zZ,cS];rw[if_neg hk7];by_cases hv:valOf x<0
   · rw[if_pos (.inl hv),if_pos hv];rfl
   · by_cases hq:(most-d) / w<valOf x
     · rw[if_pos (.inr hq),if_neg hv];have hbig:most<d+valOf x*w:=by
        have:=Int.lt_mul_of_ediv_lt hwp hq;omega
       split
       · unfold BG;simp only;rw[if_neg (by omega)]
       · cases hn:cS bias (d+valOf x*w) (w*(36-cE k bias)) (k+1) s with
         | none=>rfl
         | some p =>
           obtain⟨d',s'⟩:=p;have t2:=fP k bias;have:=xR bias s _ _ _ _ _ (Int.mul_pos hwp (by omega)) hn;unfold BG;simp only;rw[if_neg (by omega)]
     · rw[if_neg (by omega),if_neg hv];have hle:d+valOf x*w≤most:=by
        have h5:valOf x≤(most-d) / w:=by omega
        have:=(Int.le_ediv_iff_mul_le hwp).1 h5;omega
       have hm2:0≤valOf x*w:=Int.mul_nonneg (by omega) (by omega);by_cases ht:valOf x<cE k bias
       · rw[if_pos ht,if_pos ht];unfold BG;simp only[List.length_cons];rw[if_pos hle];congr 1;omega
       · rw[if_neg ht,if_neg ht];have t1:=eP k bias;have t2:=fP k bias;have hw2:10 ^ (k+1)≤w*(36-cE k bias):=by
          rw[Int.pow_succ];have a1:(10:Int) ^ k*10≤w*10:=Int.mul_le_mul_of_nonneg_right hw (by omega);have a2:w*10≤w*(36-cE k bias):=Int.mul_le_mul_of_nonneg_left (by omega) (by omega);omega
         have hk2:8≤k+1→260000000≤d+valOf x*w:=by
          intro h8;have hk77:k=7:=by omega
          subst hk77;have e7:(10:Int) ^ 7=10000000:=by decide
          rw[e7] at hw;have t7:cE (7:Nat) bias=26:=by unfold cE;rw[if_neg (by omega)];split <;> omega
          have:26*w≤valOf x*w:=Int.mul_le_mul_of_nonneg_right (by omega) (by omega);omega
         rw[ih _ _ _ (by omega) hle hw2 hk2];unfold BG;cases cS bias (d+valOf x*w) (w*(36-cE k bias)) (k+1) s with
         | none=>rfl
         | some p =>
           obtain⟨d',s'⟩:=p;simp only[List.length_cons];split
           · congr 1;omega
           · rfl
theorem l9 (bias most:Int)(hb:bias≤262)(hm0:0≤most)(hm:most<260000000)(s:List UInt8):zZ bias most 0 1 0 s=BG most 0 s.length (cS bias 0 1 0 s) :=
 K9 bias most hb hm0 hm s 0 1 0 (by omega) hm0 (by simp) (by omega)
theorem E2 (bias most d w:Int)(k:Nat)(s:List UInt8)(p:Nat)(h:s.length≤p):zZ bias most d w k (s.drop p)=(0,0):=by
 rw[List.drop_eq_nil_of_le h];rfl
theorem VZ (bias most d w:Int)(k:Nat)(s:List UInt8)(p:Nat)(h:p<s.length)(hv:valOf s[p]<0∨(most-d) / w<valOf s[p]):zZ bias most d w k (s.drop p)=(0,0):=by
 rw[bP s p h];simp only[zZ];rw[if_pos hv]
theorem UZ (bias most d w:Int)(k:Nat)(s:List UInt8)(p:Nat)(h:p<s.length)(hv:¬ (valOf s[p]<0∨(most-d) / w<valOf s[p]))(ht:valOf s[p]<cE k bias):zZ bias most d w k (s.drop p)=(d+valOf s[p]*w,(k:Int)+1):=by
 rw[bP s p h];simp only[zZ];rw[if_neg hv,if_pos ht]
theorem VC (bias most d w:Int)(k:Nat)(s:List UInt8)(p:Nat)(h:p<s.length)(hv:¬ (valOf s[p]<0∨(most-d) / w<valOf s[p]))(ht:¬ valOf s[p]<cE k bias):zZ bias most d w k (s.drop p)=zZ bias most (d+valOf s[p]*w) (w*(36-cE k bias)) (k+1) (s.drop (p+1)):=by
 rw[bP s p h];conv=>lhs;simp only[zZ]
 rw[if_neg hv,if_neg ht]
end Sx
