/- Numbers in words, as functions: decimal numerals and back. -/
import Derived.Lib.ItoaNum
import Derived.Lib.ParseIntB
import Derived.Lib.Strings
set_option linter.unusedSimpArgs false
set_option linter.unusedVariables false
set_option linter.unnecessarySimpa false
namespace Go.Proofs.YtidjnnnigcmdpaaGreatDoor
open Go.Lib
def dig (c:UInt8):Bool:=decide (48≤c.toNat)&&decide (c.toNat≤57)
def dval (l:List UInt8):Nat:=l.foldl (fun a c=>a*10+(c.toNat-48)) 0
theorem zb0 (l:List UInt8) (c:UInt8):dval (l++[c])=dval l*10+(c.toNat-48):=by simp [dval]
def minus (l:List UInt8):Bool:=decide (l.head?=some 45)
def body (l:List UInt8):List UInt8:=if minus l then l.tail else l
def nval (l:List UInt8):Int:=if minus l then -(dval (body l):Int) else (dval (body l):Int)
theorem u8_of (n:Nat) (h:n<10):(UInt8.ofNat (48+n)).toNat=48+n:=by simp [UInt8.toNat_ofNat'];omega
theorem zb1 (n:Nat) (h:n<10):dig (UInt8.ofNat (48+n))=true:=by unfold dig;rw [u8_of n h];simp;omega
theorem qq (u:Nat):dval (decDigits u)=u:=by
 induction u using Nat.strongRecOn with
 | _ u ih =>
  by_cases h:u<10
  ·rw [decDigits,dif_pos h]
   simp only [dval,List.foldl_cons,List.foldl_nil]
   rw [u8_of u h];omega
  ·rw [decDigits,dif_neg h,zb0,ih (u / 10) (by omega),u8_of _ (by omega)];omega
theorem zfb (u:Nat):(decDigits u).all dig=true:=by
 induction u using Nat.strongRecOn with
 | _ u ih =>
  by_cases h:u<10
  ·rw [decDigits,dif_pos h]
   rw [List.all_cons,List.all_nil,zb1 u h];rfl
  ·rw [decDigits,dif_neg h,List.all_append,ih (u / 10) (by omega),List.all_cons,List.all_nil,zb1 (u%10) (by omega)];rfl
theorem dec_ne (u:Nat):decDigits u≠[]:=by
 rw [decDigits];split<;>simp
theorem zaw (u:Nat):(decDigits u).head?≠some 45:=by
 intro h
 cases hd:decDigits u with
 | nil=>exact absurd hd (dec_ne _)
 | cons a l =>
  have:=zfb u
  rw [hd]at this h
  simp at h this
  rw [h]at this
  exact absurd this.1 (by decide)
theorem jL (u:Nat):minus (decDigits u)=false:=by unfold minus;exact decide_eq_false (zaw u)
theorem zdp (u:Nat):body (decDigits u)=decDigits u:=by unfold body;rw [jL];rfl
theorem zax (t:List UInt8):minus (45::t)=true:=rfl
theorem zb2 (t:List UInt8):body (45::t)=t:=rfl
theorem jM (n:Int):nval (itoa n)=n:=by
 unfold nval itoa
 split
 ·rename_i h
  rw [zax,zb2,qq];simp;omega
 ·rw [jL,zdp,qq];simp;omega
theorem qr {a b:Int} (h:itoa a=itoa b):a=b:=by
 have:=congrArg nval h
 rwa [jM,jM]at this
/-! strconv.ParseInt at what has the form -/
theorem zay (k u:Nat) (hk:1≤k) (h:u<10^k):nDigits u≤k:=by
 induction k generalizing u with
 | zero=>omega
 | succ k ih =>
  by_cases h10:u<10
  ·rw [nDigits_small h10];omega
  ·rw [nDigits_big h10]
   have hk1:1≤k:=by
    rcases Nat.eq_zero_or_pos k with rfl | h'
    ·simp at h;omega
    ·exact h'
   rw [Nat.pow_succ]at h
   have:=ih (u / 10) hk1 (by omega)
   omega
theorem zaf (u:Nat) (h:u≤9223372036854775808):(decDigits u).length≤19:=by
 rw [decDigits_length]
 exact zay 19 u (by omega) (by omega)
theorem yh {n:Int} (h0:-9223372036854775808≤n) (h1:n≤9223372036854775807):(itoa n).length≤20:=by
 unfold itoa
 split
 ·have:=zaf n.natAbs (by omega)
  simp only [List.length_cons];omega
 ·have:=zaf n.toNat (by omega)
  omega
/-! between commas -/
def joinC:List (List UInt8)→List UInt8
 | []=>[]
 | [x]=>x
 | x::y::l=>x++44::joinC (y::l)
end Go.Proofs.YtidjnnnigcmdpaaGreatDoor
