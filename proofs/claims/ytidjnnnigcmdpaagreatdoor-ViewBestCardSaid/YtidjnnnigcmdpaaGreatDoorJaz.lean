/- Numbers in words, as functions: decimal numerals and back. -/
import Derived.Lib.ItoaNum
import Derived.Lib.ParseIntB
import Derived.Lib.Strings
import Derived.Test.YtidjnnnigcmdpaaGreatDoorJaw
import Derived.Test.YtidjnnnigcmdpaaGreatDoorJai
import Derived.Outline
set_option linter.unusedSimpArgs false
set_option linter.unusedVariables false
set_option linter.unnecessarySimpa false
namespace Go.Proofs.YtidjnnnigcmdpaaGreatDoor
open Go.Lib
/-! strconv.ParseInt at what has the form -/
theorem zcf (k u:Nat) (hk:1≤k) (h:u<10^k):nDigits u≤k:=by
 induction k generalizing u with
 | zero=>omega
 | succ k ih =>
  by_cases h10:u<10
  ·rw [nDigits_small h10];omega
  ·rw [nDigits_big h10]
   have hk1:1≤k:=by
    rcases Nat.eq_zero_or_pos k with rfl | h'
    ·simp at h;omega
    ·exact h'
   rw [Nat.pow_succ]at h
   have:=ih (u / 10) hk1 (by omega)
   omega
theorem zbb (u:Nat) (h:u≤9223372036854775808):(decDigits u).length≤19:=by
 rw [decDigits_length]
 exact zcf 19 u (by omega) (by omega)
theorem yg {n:Int} (h0:-9223372036854775808≤n) (h1:n≤9223372036854775807):(itoa n).length≤20:=by
 unfold itoa
 split
 ·have:=zbb n.natAbs (by omega)
  simp only [List.length_cons];omega
 ·have:=zbb n.toNat (by omega)
  omega
/-! between commas -/
def joinC:List (List UInt8)→List UInt8
 | []=>[]
 | [x]=>x
 | x::y::l=>x++44::joinC (y::l)
end Go.Proofs.YtidjnnnigcmdpaaGreatDoor
namespace Go.Proofs.YtidjnnnigcmdpaaGreatDoor
open Go.RowKit
end Go.Proofs.YtidjnnnigcmdpaaGreatDoor
