/- The rows of laws: for every input the call returns true, and what came in reads as it did. The card: the row's listed variables are tied to the program's text. -/
import Derived.Test.YtkpnheenacchhaaGreatDoorCards
import Derived.Test.YtkpnheenacchhaaGreatDoorTie
import Derived.Test.YtkpnheenacchhaaGreatDoorJbe
import Derived.Test.YtkpnheenacchhaaGreatDoorJbx
set_option linter.unusedSimpArgs false
set_option linter.unusedVariables false
namespace Go.Proofs.YtkpnheenacchhaaGreatDoor
open Go.ChangeShapes Go.WideShapes Go.ChangeAt Go.RowKit Go.ChangeMaps
theorem yR (f:FuncId) (fn:Func) (hf:Tryz.pinned.checked.prog.funcNamed "folkmoot/folkmootlaw13.PoolFull" = some f) (hfn:Tryz.pinned.checked.prog.funcs[f]?=some fn) :
 true=Tryz.pinned.checked.prog.looks []∧∀(j:Nat) t,fn.params[j]?=some t→Tryz.pinned.checked.prog.wantsStandIn t=false:=by
 obtain rfl:f=4:=Option.some.inj ((show Tryz.prog.funcNamed "folkmoot/folkmootlaw13.PoolFull" = some 4 by kernel_rfl).symm.trans hf) |>.symm
 obtain rfl:fn=Tryz.f4:=(Option.some.inj (Tryz.func4.symm.trans hfn)).symm
 refine⟨by kernel_rfl,fun j t ht=>?_⟩
 have hall:(Tryz.f4.params.toList.all fun t=>!Tryz.prog.wantsStandIn t)=true:=by kernel_rfl
 have:=List.all_eq_true.1 hall t (Array.mem_toList_iff.2 (Array.mem_of_getElem? ht))
 exact Bool.not_eq_true' _▸this
theorem poolFull_holds:Rows.PoolFullCardSaid :=
 Claim7.holds_tied_plain_at .later [] _ _ _ _ xl (fun _ h=>by cases h) (by kernel_rfl) (fun _ h=>by cases h) poolFull_row_tie rfl ⟨rfl,rfl⟩ (by kernel_rfl) rfl yR (by kernel_rfl)
end Go.Proofs.YtkpnheenacchhaaGreatDoor
