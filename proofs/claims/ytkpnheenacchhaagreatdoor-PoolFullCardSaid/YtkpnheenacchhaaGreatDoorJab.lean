/- Facts on the first of each: whatever they are, whoever they are of. -/
import Derived.Maps.OwnSet
import Derived.Lib.SlKeysI
set_option linter.unusedSimpArgs false
set_option linter.unusedVariables false
namespace Go.Proofs.YtkpnheenacchhaaGreatDoor
open Go.Maps
section
variable {α : Type} (who : α → Int) (val : α → Value)
end
end Go.Proofs.YtkpnheenacchhaaGreatDoor
namespace Go.Proofs.YtkpnheenacchhaaGreatDoor
section
variable {α : Type} (who : α → Int)
end
def sortZ (l:List Int):List Int:=l.mergeSort fun x y=>decide (x≤y)
theorem yj (l:List Int):(sortZ l).length=l.length:=by simp [sortZ]
theorem kc (l:List Int):(sortZ l).Perm l:=List.mergeSort_perm l _
theorem ku (l:List Int) (x:Int):x∈sortZ l↔x∈l:=(kc l).mem_iff
def midZ (l:List Int) (n:Nat):Int:=(sortZ l).getD n 0
theorem k9 {l:List Int} {n:Nat} (h:n<l.length):midZ l n∈l:=by
 rw [←ku]
 unfold midZ
 have h':n<(sortZ l).length:=by rw [yj];exact h
 simp [List.getD,h']
end Go.Proofs.YtkpnheenacchhaaGreatDoor
