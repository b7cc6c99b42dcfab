/- Maps whose elements are kept as they are. -/
import Derived.Maps.OwnSet
import Derived.Maps.OwnOps
import Derived.Maps.Views
import Derived.Test.YtidjnnnigcmdpaaGreatDoorProg
import Derived.RangeFuncBox
import Derived.RangeFuncLeaves
import Derived.RangeFuncKeeps
import Derived.Shelf.Abstract
import Derived.WalkKit
import Derived.OwnWalkIn
import Derived.TacticsInMore
import Derived.LoopNIn
import Derived.LoopIn
import Derived.Test.YtidjnnnigcmdpaaGreatDoorJai
set_option linter.unusedSimpArgs false
set_option linter.unusedVariables false
set_option linter.unnecessarySimpa false
namespace Go.Proofs.YtidjnnnigcmdpaaGreatDoor
open Go.RowKit Go.Maps
def heldR (v:Value):Option (DataW Value × List MemPlace):=some (.held v,[])
section
variable {P : Program}
theorem yn (w:World) {ops:Array Oper} {rest:List Oper} {o:Oper} {a:Act} {Q:Exit→Act→World→Prop} (hg:o.guard=none) (m x:Operand) (t:TypeId) (hop:o.op=Op.lookup t m x true)
 (k e:TypeId) (K:Keyed P k) (ht:P.underlying t=some (.map k e)) {z:Value} (hz:(zeroValue e).run P w=.ok z w) (b n:Nat) (D:DataW Value)
 (hm:a.eval m=.map (some b)) (hown:w.ownsMap P k heldR b n D) (key:Value) (kl:Lit) (hx:a.eval x=key) (hkey:keyOf P k key=some kl)
 (u:Value) (hu:D.atKey kl (.held z)=.held u) (hb:Bool) (hh:Maps.has D kl=hb)
 (hK:wpList P ops Q rest (a.put o.dst (.tuple #[u,.bool hb])) w):wpList P ops Q (o::rest) a w :=
 wpList_lookup_own_ok w hg m x t hop k e K ht heldR hz (.held z) [] rfl b n D hm hown key kl hx hkey (fun v ps hv=>by
  have h1:DataW.held v=D.atKey kl (.held z):=by
   unfold heldR at hv;injection hv with hv;exact(Prod.mk.inj hv).1
  rw [hu]at h1;injection h1 with h1;subst h1;rw [hh];exact hK)
theorem xz (w:World) {ops:Array Oper} {rest:List Oper} {o:Oper} {a:Act} {Q:Exit→Act→World→Prop} (hg:o.guard=none) (m x:Operand) (t:TypeId) (hop:o.op=Op.lookup t m x false)
 (k e:TypeId) (K:Keyed P k) (ht:P.underlying t=some (.map k e)) {z:Value} (hz:(zeroValue e).run P w=.ok z w) (b n:Nat) (D:DataW Value)
 (hm:a.eval m=.map (some b)) (hown:w.ownsMap P k heldR b n D) (key:Value) (kl:Lit) (hx:a.eval x=key) (hkey:keyOf P k key=some kl)
 (u:Value) (hu:D.atKey kl (.held z)=.held u)
 (hK:wpList P ops Q rest (a.put o.dst u) w):wpList P ops Q (o::rest) a w:=by
 refine wpList_plain hg fun K' hK'=>?_
 obtain⟨v,ps,hrun,hv⟩:=hown.lookup K ht hz (zd:=.held z) (zp:=[]) rfl hkey
 have h1:DataW.held v=D.atKey kl (.held z):=by
  unfold heldR at hv;injection hv with hv;exact(Prod.mk.inj hv).1
 rw [hu]at h1;injection h1 with h1;subst h1
 unfold Oper.wp
 simp [execOp,hop,hm,hx,hrun,Result.andThen]
 exact hK' _ _ hK
end
end Go.Proofs.YtidjnnnigcmdpaaGreatDoor
namespace Go.Proofs.YtidjnnnigcmdpaaGreatDoor
open Go.RowKit Go.Shelf
attribute [local go_sem] Oper.semAt_some
end Go.Proofs.YtidjnnnigcmdpaaGreatDoor
