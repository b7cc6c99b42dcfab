/- What is called for each stamp: median.who, Make's fits, Valid's check, At's time. -/
import Derived.Test.YtkpnheenacchhaaGreatDoorJzz
import Derived.Test.YtkpnheenacchhaaGreatDoorJab
import Derived.Test.YtkpnheenacchhaaGreatDoorJbk
import Derived.Test.YtkpnheenacchhaaGreatDoorJbq
import Derived.Test.YtkpnheenacchhaaGreatDoorJbd
import Derived.WalkArith
import Derived.IntWalk
import Derived.Test.YtkpnheenacchhaaGreatDoorJbl
set_option linter.unusedSimpArgs false
set_option linter.unusedVariables false
namespace Go.Proofs.YtkpnheenacchhaaGreatDoor
open Go.RowKit
structure KP where
 f:Int
 R:List Nat
 RA:Option Addr
 Rc:Nat
 h:Int
def KP.C (K:KP):Array Value:=kyS K.f K.RA K.R.length K.Rc K.h
structure KP.ok (K:KP):Prop where
 f:1≤K.f∧K.f≤3
 len:K.R.length≤1000
 b:∀ x∈K.R,x<18446744073709551616
def KP.at (K:KP) (w:World):Prop:=Rd w w.heap.size K.RA (u64L K.R)
theorem KP.at.gr {K:KP} {w w':World} (h:K.at w) (g:Grew w w'):K.at w':=Rd.gr h g
open Go.Maps
theorem xC (W:World) (cs:Array Value) (h:cs.size=24):∃ W',(W.alloc (.cells (zS24) 157)).setCells W.heap.size 0 cs.toList=W'∧(W.alloc (.cells (zS24) 157)).there W.heap.size 0 cs.size∧Grew W W'∧Ag W' W.heap.size cs.toList :=
 qC W 157 (zS24) cs h
theorem add0 (q n:Nat):(⟨q,0,none⟩:Addr).add n=⟨q,n,none⟩:=by unfold Addr.add;split<;>simp_all
theorem RdC.at24 {w w':World} {A:Option Addr} {L:List SP} (h:RdC w A 24 (spL L)) (g:Grew w w') (k:Nat) (hk:k<L.length):∃ q,A=some ⟨q,0,none⟩∧q<w'.heap.size∧w'.rangeAt q (k*24) L[k].C.toList:=by
 obtain⟨q,e,hq,hr⟩:=(h.gr g) k (by rw [y6];exact hk)
 exact⟨q,e,hq,by simpa [spL]using hr⟩
end Go.Proofs.YtkpnheenacchhaaGreatDoor
namespace Go.Proofs.YtkpnheenacchhaaGreatDoor
open Go.RowKit
end Go.Proofs.YtkpnheenacchhaaGreatDoor
