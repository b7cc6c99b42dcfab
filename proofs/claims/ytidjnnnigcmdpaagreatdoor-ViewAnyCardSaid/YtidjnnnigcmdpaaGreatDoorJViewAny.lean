/- The rows of laws: for every input the call returns true, and what came in reads as it did. The card: the row's listed variables are tied to the program's text. -/
import Derived.Test.YtidjnnnigcmdpaaGreatDoorCards
import Derived.Test.YtidjnnnigcmdpaaGreatDoorTie
import Derived.Test.YtidjnnnigcmdpaaGreatDoorJbc
import Derived.Test.YtidjnnnigcmdpaaGreatDoorJbu
import Derived.Test.YtidjnnnigcmdpaaGreatDoorJbt
import Derived.Test.YtidjnnnigcmdpaaGreatDoorJbx
import Derived.Test.YtidjnnnigcmdpaaGreatDoorJbv
set_option linter.unusedSimpArgs false
set_option linter.unusedVariables false
set_option linter.unnecessarySimpa false
namespace Go.Proofs.YtidjnnnigcmdpaaGreatDoor
open Go.ChangeShapes Go.WideShapes Go.ChangeAt Go.RowKit Go.ChangeMaps
theorem zba (f:FuncId) (fn:Func) (hf:Tryz.pinned.checked.prog.funcNamed "folkmoot/folkmootlaw19.ViewAny" = some f) (hfn:Tryz.pinned.checked.prog.funcs[f]?=some fn) :
 false=Tryz.pinned.checked.prog.looks []∧∀(j:Nat) t,fn.params[j]?=some t→Tryz.pinned.checked.prog.wantsStandIn t=false:=by
 obtain rfl:f=8:=Option.some.inj ((show Tryz.prog.funcNamed "folkmoot/folkmootlaw19.ViewAny" = some 8 by kernel_rfl).symm.trans hf) |>.symm
 obtain rfl:fn=Tryz.f8:=(Option.some.inj (Tryz.func8.symm.trans hfn)).symm
 refine⟨by kernel_rfl,fun j t ht=>?_⟩
 have hall:(Tryz.f8.params.toList.all fun t=>!Tryz.prog.wantsStandIn t)=true:=by kernel_rfl
 have:=List.all_eq_true.1 hall t (Array.mem_toList_iff.2 (Array.mem_of_getElem? ht))
 exact Bool.not_eq_true' _▸this
theorem viewAny_holds:Rows.ViewAnyCardSaid :=
 Claim7.holds_tied_plain_at .later [] _ _ _ _ zco (fun _ h=>by cases h) (by kernel_rfl) (fun _ h=>by cases h) viewAny_row_tie rfl ⟨rfl,rfl⟩ (by kernel_rfl) rfl zba zfm
end Go.Proofs.YtidjnnnigcmdpaaGreatDoor
