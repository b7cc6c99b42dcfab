/- cmd.Digest, the reference's CmdText, CmdDigest. -/
import Derived.Test.YtkpnheenacchhaaGreatDoorZzz
import Derived.Test.YtkpnheenacchhaaGreatDoorZbe
import Derived.Test.YtkpnheenacchhaaGreatDoorZbj
import Derived.Test.YtkpnheenacchhaaGreatDoorZag
import Derived.LoopN
import Derived.Test.YtkpnheenacchhaaGreatDoorZan
set_option maxRecDepth 100000
set_option linter.unusedSimpArgs false
set_option linter.unusedVariables false
namespace Go.Proofs.YtkpnheenacchhaaGreatDoor
open Go.RowKit
theorem zd3 {c:Cm} (hc:c.in):(txC c).length≤105:=zb0 c.l hc
def tagCmd:List UInt8:=[99,109,100]
noncomputable def dgC (c:Cm):Nat:=sumL tagCmd (txC c)
theorem k8 (c:Cm) (hc:c.in) (w:World) (hs:Std w):Calls Tryz.prog 123 #[c.v] w fun e w'=>e=.returned (.int .u64 (dgC c:Nat))∧Grew w w':=by
 have hl:=zd3 hc
 have HS:=hQ9 hs
 have HT:=hQ9 (fun(w:World) (h:Std w)=>zdv c hc w h)
 have HD:=hQ9 (fun(w:World)=>kV ⟨#[99,109,100]⟩ ⟨(txC c).toArray⟩ (by decide) (by show(txC c).toArray.size≤_;simp;omega) w)
 have HE:Hid (sumL (⟨#[99,109,100]⟩:ByteArray).data.toList (⟨(txC c).toArray⟩:ByteArray).data.toList=dgC c):=hQ9 rfl
 clear hs hc hl
 obtain⟨cl,no,fr,tt,am⟩:=c
 unfold Cm.v at HT ⊢
 go_enter Tryz.func123,Tryz.ntmps123
 go_wp2_with(go_at_call 181;refine(HT.out _ (HS.out.grew (ze (za w) _))).mono ?_;rintro e w1 ⟨rfl,g1⟩)
 have g1':Grew w w1:=zb (ze (za w) _) g1
 unfold txtV
 go_wp2_with(go_at_call 76;refine(HD.out _).mono ?_;rintro e w2 ⟨rfl,hw⟩;subst hw)
 go_ret
 exact⟨rfl,g1'⟩
end Go.Proofs.YtkpnheenacchhaaGreatDoor
