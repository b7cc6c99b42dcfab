/- What is called for each stamp: median.who, Make's fits, Valid's check, At's time. -/
import Derived.Test.YtidjnnnigcmdpaaGreatDoorJab
import Derived.Test.YtidjnnnigcmdpaaGreatDoorJbe
import Derived.Test.YtidjnnnigcmdpaaGreatDoorJbh
import Derived.Test.YtidjnnnigcmdpaaGreatDoorJbb
import Derived.WalkArith
import Derived.IntWalk
import Derived.Test.YtidjnnnigcmdpaaGreatDoorJav
import Derived.Shelf.SortM.Plain
import Derived.Shelf.SortM.SortNone
import Derived.Ground.SlgmProg
import Derived.Shelf.SlGeneric
import Derived.Test.YtidjnnnigcmdpaaGreatDoorProg
import Derived.Sort.OwnSorted
import Derived.Lib.SlKeysI
import Derived.Test.YtidjnnnigcmdpaaGreatDoorJaw
import Derived.Laws.MakeOwn
import Derived.Test.YtidjnnnigcmdpaaGreatDoorJbd
import Derived.Test.YtidjnnnigcmdpaaGreatDoorJax
import Derived.Test.YtidjnnnigcmdpaaGreatDoorJao
set_option linter.unusedSimpArgs false
set_option linter.unusedVariables false
set_option linter.unnecessarySimpa false
namespace Go.Proofs.YtidjnnnigcmdpaaGreatDoor
open Go.RowKit
structure KP where
 f:Int
 R:List Nat
 RA:Option Addr
 Rc:Nat
 h:Int
def KP.C (K:KP):Array Value:=kyS K.f K.RA K.R.length K.Rc K.h
structure KP.ok (K:KP):Prop where
 f:1≤K.f∧K.f≤3
 len:K.R.length≤1000
 b:∀ x∈K.R,x<18446744073709551616
def KP.at (K:KP) (w:World):Prop:=Rd w w.heap.size K.RA (u64L K.R)
theorem KP.at.gr {K:KP} {w w':World} (h:K.at w) (g:Grew w w'):K.at w':=Rd.gr h g
noncomputable def vaS (K:KP) (S:SP):Int:=vaE K.f K.R K.h S.cm S.who S.at_ S.sw S.lf S.s S.l
noncomputable def fitB (K:KP) (d:Nat) (S:SP):Bool:=decide (S.cm=d)&&decide (vaS K S=0)
open Go.Maps
theorem yJ:Keyed Tryz.prog 3:=int_keyed Tryz.underlying3
theorem yk {H:Type} {P:Program} {k:TypeId} {R:Value→Option (DataW H × List MemPlace)} {w w':World} {b n:Nat} {D:DataW H} (h:w.ownsMap P k R b n D) (g:Grew w w'):w'.ownsMap P k R b n D:=by
 have hb:=h.lt
 obtain⟨es,clock,h1,Ft,hs,hD⟩:=h
 exact⟨es,clock,(g.block b hb).trans h1,Ft,hs,hD⟩
theorem add0 (q n:Nat):(⟨q,0,none⟩:Addr).add n=⟨q,n,none⟩:=by unfold Addr.add;split<;>simp_all
end Go.Proofs.YtidjnnnigcmdpaaGreatDoor
namespace Go.Proofs.YtidjnnnigcmdpaaGreatDoor
open Go.RowKit
theorem pow5 (h:Nat) (hh:h≤5):2^h≤32∧leavesOk (2^h)=true:=by
 have:h=0∨h=1∨h=2∨h=3∨h=4∨h=5:=by omega
 rcases this with rfl | rfl | rfl | rfl | rfl | rfl<;>decide
open Go.Shelf Go.Lib Go.Sort
end Go.Proofs.YtidjnnnigcmdpaaGreatDoor
namespace Go.Proofs.YtidjnnnigcmdpaaGreatDoor
open Go.RowKit
theorem zkx {w:World} {b:Nat} {f:Int} (h:Ag w b (#[.int .i64 f]:Array Value).toList):w.rangeAt b 0 [.int .i64 f]:=h.cell
end Go.Proofs.YtidjnnnigcmdpaaGreatDoor
