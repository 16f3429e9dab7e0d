/- Plain mathematics of hosts: labels, hosts, their plain forms, by the document's answer. -/
import Derived.Test.YtgohllfpceeboaaGreatDoorMc
namespace Sx

def lower (c : Int) : Int := if 65 ≤ c ∧ c ≤ 90 then c + 32 else c
def okL (c : Int) : Bool := decide (128 ≤ c) || decide (97 ≤ c ∧ c ≤ 122) || decide (48 ≤ c ∧ c ≤ 57) || decide (c = 45)
def xn : List UInt8 := [120, 110, 45, 45]
/-- What a label's plain form must be, and whether it is one's own code. -/
def codeOk (s : List UInt8) : Bool := match dec s with
  | none => false
  | some l => enc l == s
def formOk (s : List UInt8) : Bool := decide (1 ≤ s.length) && decide (s.length ≤ 20) && !(s.getD 0 0 == 45) && !(s.getD (s.length - 1) 0 == 45)
def formOf (m : List Int) : List UInt8 := if m.any (fun c => decide (128 ≤ c)) then xn ++ enc m else text m
def label (l : List Int) : Option (List UInt8) :=
  if (l.map lower).all okL then
    if formOk (formOf (l.map lower)) then
      if (!(l.map lower).any (fun c => decide (128 ≤ c))) && decide (4 ≤ (formOf (l.map lower)).length) && ((formOf (l.map lower)).take 4 == xn) then
        if codeOk ((formOf (l.map lower)).drop 4) then some (formOf (l.map lower)) else none
      else some (formOf (l.map lower))
    else none
  else none

/-- Is one of them foreign? -/
def forE (l : List Int) : Bool := (l.map lower).any fun c => decide (128 ≤ c)
def okE (l : List Int) : Bool := (l.map lower).all okL
theorem lower_bd (c : Int) (h : 0 ≤ c) (h2 : c ≤ 1114111) : 0 ≤ lower c ∧ lower c ≤ 1114111 := by unfold lower; split <;> omega
theorem label_nil : label [] = none := by
  unfold label; simp [formOf, text, formOk]
end Sx
