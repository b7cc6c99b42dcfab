/- cmd.Digest, the reference's CmdText, CmdDigest. -/
import Derived.Test.YtkpnheenacchhaaGreatDoorPba
import Derived.Test.YtkpnheenacchhaaGreatDoorPbb
import Derived.Test.YtkpnheenacchhaaGreatDoorPag
import Derived.LoopN
import Derived.Test.YtkpnheenacchhaaGreatDoorPan
namespace Go.Proofs.YtkpnheenacchhaaGreatDoor
set_option linter.unusedSimpArgs false
set_option linter.unusedVariables false
open Go.RowKit
set_option linter.unusedVariables false
theorem txC_len {c : Cm} (hc : c.in) : (txC c).length ≤ 105 := nums_len c.l hc
def tagCmd : List UInt8 := [99, 109, 100]
noncomputable def dgC (c : Cm) : Nat := sumL tagCmd (txC c)
set_option maxRecDepth 100000 in
theorem digest_ok (c : Cm) (hc : c.in) (w : World) (hs : Std w) : Calls Tryz.prog 123 #[c.v] w fun e w' => e = .returned (.int .u64 (dgC c : Nat)) ∧ Grew w w' := by
 have hl := txC_len hc
 have HS := Lib.hid hs
 have HT := Lib.hid (fun (w : World) (h : Std w) => text_ok c hc w h)
 have HD := Lib.hid (fun (w : World) => of_any ⟨#[99, 109, 100]⟩ ⟨(txC c).toArray⟩ (by decide) (by show (txC c).toArray.size ≤ _; simp; omega) w)
 have HE : Hid (sumL (⟨#[99, 109, 100]⟩ : ByteArray).data.toList (⟨(txC c).toArray⟩ : ByteArray).data.toList = dgC c) := Lib.hid rfl
 clear hs hc hl
 obtain ⟨cl, no, fr, tt, am⟩ := c
 unfold Cm.v at HT ⊢
 go_enter Tryz.func123, Tryz.ntmps123
 go_wp2_with (go_at_call 181; refine (HT.out _ (HS.out.grew (grew_alloc (grew_refl w) _))).mono ?_; rintro e w1 ⟨rfl, g1⟩)
 have g1' : Grew w w1 := grew_trans (grew_alloc (grew_refl w) _) g1
 unfold txtV
 go_wp2_with (go_at_call 76; refine (HD.out _).mono ?_; rintro e w2 ⟨rfl, hw⟩; subst hw)
 go_ret
 exact ⟨rfl, g1'⟩
end Go.Proofs.YtkpnheenacchhaaGreatDoor

namespace Go.Proofs.YtkpnheenacchhaaGreatDoor
set_option linter.unusedSimpArgs false
set_option linter.unusedVariables false
open Go.RowKit
set_option linter.unusedVariables false
end Go.Proofs.YtkpnheenacchhaaGreatDoor

namespace Go.Proofs.YtkpnheenacchhaaGreatDoor
set_option linter.unusedSimpArgs false
set_option linter.unusedVariables false
open Go.RowKit
set_option linter.unusedVariables false
end Go.Proofs.YtkpnheenacchhaaGreatDoor

namespace Go.Proofs.YtkpnheenacchhaaGreatDoor
set_option linter.unusedSimpArgs false
set_option linter.unusedVariables false
open Go.RowKit
set_option linter.unusedVariables false
end Go.Proofs.YtkpnheenacchhaaGreatDoor
