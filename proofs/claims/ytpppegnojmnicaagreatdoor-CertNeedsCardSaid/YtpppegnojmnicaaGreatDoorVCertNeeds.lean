/- The rows of laws: for every input the call returns true, and what came in reads as it did. The card: the row's listed variables are tied to the program's text. -/
import Derived.Test.YtpppegnojmnicaaGreatDoorCards
import Derived.Test.YtpppegnojmnicaaGreatDoorTie
import Derived.Test.YtpppegnojmnicaaGreatDoorVbc
import Derived.Test.YtpppegnojmnicaaGreatDoorVbx
import Derived.Test.YtpppegnojmnicaaGreatDoorVbv
namespace Go.Proofs.YtpppegnojmnicaaGreatDoor
set_option linter.unusedSimpArgs false
set_option linter.unusedVariables false
open Go.ChangeShapes Go.WideShapes Go.ChangeAt Go.RowKit Go.ChangeMaps
set_option linter.unusedVariables false
theorem certNeeds_plain (f : FuncId) (fn : Func) (hf : Tryz.pinned.checked.prog.funcNamed "folkmoot/folkmootlaw12.CertNeeds" = some f) (hfn : Tryz.pinned.checked.prog.funcs[f]? = some fn) :
 true = Tryz.pinned.checked.prog.looks [] ∧ ∀ (j : Nat) t, fn.params[j]? = some t → Tryz.pinned.checked.prog.wantsStandIn t = false := by
 obtain rfl : f = 10 := Option.some.inj ((show Tryz.prog.funcNamed "folkmoot/folkmootlaw12.CertNeeds" = some 10 by kernel_rfl).symm.trans hf) |>.symm
 obtain rfl : fn = Tryz.f10 := (Option.some.inj (Tryz.func10.symm.trans hfn)).symm
 refine ⟨by kernel_rfl, fun j t ht => ?_⟩
 have hall : (Tryz.f10.params.toList.all fun t => !Tryz.prog.wantsStandIn t) = true := by kernel_rfl
 have := List.all_eq_true.1 hall t (Array.mem_toList_iff.2 (Array.mem_of_getElem? ht))
 exact Bool.not_eq_true' _ ▸ this
theorem certNeeds_holds : Rows.CertNeedsCardSaid :=
 Claim7.holds_tied_plain_at .later [] _ _ _ _ certNeeds_said (fun _ h => by cases h) (by kernel_rfl) (fun _ h => by cases h) certNeeds_row_tie rfl ⟨rfl, rfl⟩ (by kernel_rfl) rfl certNeeds_plain certNeeds_pg
end Go.Proofs.YtpppegnojmnicaaGreatDoor
