/- A world in which the library's variables hold what their initialisers lay; the rows' frame. -/
import Derived.Test.YtidjnnnigcmdpaaGreatDoorRows
import Derived.PinnedBridge
import Derived.LaidSub
import Derived.Stop.LaidErr
import Derived.Shelf.Vars
import Derived.SevenTiedAt
import Derived.Lib.LaidIn
import Derived.Deep.DeepHandedRow
import Derived.Deep.DeepWitnessRowRef
import Derived.Test.YtidjnnnigcmdpaaGreatDoorJay
import Derived.Test.YtidjnnnigcmdpaaGreatDoorJax
set_option maxRecDepth 1000000
set_option linter.unusedSimpArgs false
set_option linter.unusedVariables false
set_option linter.unnecessarySimpa false
namespace Go.Proofs.YtidjnnnigcmdpaaGreatDoor
open Go.ChangeShapes Go.WideShapes Go.ChangeAt Go.RowKit Go.ChangeMaps
def putG (h:Array Obj) (g:Nat) (cs:Array Value):Array Obj:=h.modify g fun
 | .cells _ t frozen=>.cells cs t frozen
 | o=>o
def litsOf (d:DataW Unit):Array Value:=match d with
 | .agg l=>(l.flatMap fun x=>match x with
  | .lit (.int k n)=>[Value.int k n]
  | .agg m=>m.filterMap fun y=>match y with
   | .lit (.int k n)=>some (Value.int k n)
   | _=>none
  | _=>[]).toArray
 | _=>#[]
noncomputable def laidWorld (os:Os):World :=
 let w0:=World.holding Tryz.prog os ⟨#[],#[],[]⟩
 let h1:=putG w0.heap 1 (litsOf Rows.laid_math_bits_deBruijn32tab)
 let h2:=putG h1 2 (litsOf Rows.laid_math_bits_deBruijn64tab)
 let h3:=putG h2 0 (litsOf Rows.laid_internal_strconv_uint64pow10)
 { w0 with heap:=h3 }
def laidL:List (String × DataW Unit):=[("math/bits.deBruijn32tab",Rows.laid_math_bits_deBruijn32tab),("math/bits.deBruijn64tab",Rows.laid_math_bits_deBruijn64tab),("internal/strconv.uint64pow10",Rows.laid_internal_strconv_uint64pow10)]
theorem zif (os:Os) (args:Array Value):laidMet Tryz.prog laidL ((laidWorld os).forCall (fun _ _=>0) ⟨#[],args,[]⟩).memory :=
 (LaidIn.of_run [1,2,0] 8 (by kernel_rfl) (by kernel_rfl) (by kernel_rfl) (by kernel_rfl)).met
theorem zgf {w:World} (h:laidMetH Tryz.prog laidL w) (keep:String × DataW Unit→Bool) (hk:((laidL.filter keep).all fun x=>x.2.handleName?.isNone)=true):laidMet Tryz.prog (laidL.filter keep) w:=by
 rw [←MakeChecks.laidMetH_plain _ _ _ hk]
 exact h.filter keep
theorem std_of {w:World} (h:laidMetH Tryz.prog laidL w) (hsh:w.ShapedOpen Tryz.prog):Std w:=by
 refine⟨?_,?_⟩
 ·have h1:=zgf h (fun x=>x.1 == "internal/strconv.uint64pow10") (by kernel_rfl)
  exact Lib.tabIs_of_head (rest:=[]) gPow (by kernel_rfl) Tryz.underlying380 Tryz.underlying25 (by kernel_rfl) (by kernel_rfl) (show laidMet Tryz.prog [("internal/strconv.uint64pow10",Lib.tabData .u64 Lib.pow10Tab)] w from by
   have e:laidL.filter (fun x=>x.1 == "internal/strconv.uint64pow10")=[("internal/strconv.uint64pow10",Lib.tabData .u64 Lib.pow10Tab)]:=by kernel_rfl
   rw [e]at h1
   exact h1)
 ·exact cell_of_shapedOpen_int (P:=Tryz.prog) (g:=3) (t:=3) (zero:=#[.int .i64 0]) hsh (of_decide_eq_true (by kernel_rfl)) (by kernel_rfl) rfl (by kernel_rfl) (by kernel_rfl) Tryz.underlying3
section
variable {H : Type} {enc : TypeId × Value → H}
theorem zig {os:Os} {f:FuncId} {fn:Func} {s:ChangeSpec} {tb:TypeId} {F:Stop.Interp} (wargs:Array Value) (ws:List (DataW H)) (wp:List MemPlace)
 (started:os.Started) (noInit:Tryz.checked.prog.inits.idxOf? f=none) (hfn:Tryz.checked.prog.funcs[f]?=some fn)
 (hv:((laidWorld os).forCall (fun _ _=>0) ⟨#[],wargs,[]⟩).variablesRefB Tryz.checked.prog=true)
 (hrw:(((laidWorld os).forCall (fun _ _=>0) ⟨#[],wargs,[]⟩).heap.toList.drop Tryz.checked.prog.globals.size).take ((begin Tryz.checked.prog (fun _ _=>0) default).world.heap.size-Tryz.checked.prog.globals.size) =
   (begin Tryz.checked.prog (fun _ _=>0) default).world.heap.toList.drop Tryz.checked.prog.globals.size)
 (hok:Input.okWideB Tryz.checked.prog ((laidWorld os).forCall (fun _ _=>0) ⟨#[],wargs,[]⟩) f ⟨#[],wargs,[]⟩=true)
 (hrow:(OpenSpec.ofChange s).preRow enc Tryz.checked.prog fn [] false laidL ((laidWorld os).forCall (fun _ _=>0) ⟨#[],wargs,[]⟩).memory wargs)
 (hp:fn.params.toList.all (fun t=>Tryz.checked.prog.readableRec t&&decide (t<Tryz.checked.prog.types.size))=true)
 (hr:fn.resultTypes=#[tb]) (htb:Tryz.checked.prog.underlying tb=some .bool) (hvars:s.vars=[])
 (hs:∀ ds:List (DataW H),ds.length=fn.params.size→s.fn H ds={ results:=[.lit (.bool true)],args:=ds })
 (law:∀(W:World) (base:Nat) (args:Array Value) (ds:List (DataW H)) (p:List MemPlace),
   (∀(j:Nat) t v,fn.params[j]?=some t→args[j]?=some v→Value.okWide Tryz.checked.prog W .any base t v) →
   DataW.TrodAll enc Tryz.checked.prog W 0 (fun _=>true) true fn.params.toList args.toList ds p→Std W →
   Calls Tryz.checked.prog f args W fun e W'=>e=.returned (.bool true)∧Below W.heap.size W W') :
 ReturnsInHanded {} Tryz.checked os f .any ((OpenSpec.ofChange s).preRow enc Tryz.checked.prog fn [] false laidL) (((OpenSpec.ofChange s).at F).post enc Tryz.checked.prog fn false true false false):=by
 refine returnsInHanded_of_row (C:=Tryz.checked) (s:=OpenSpec.ofChange s) zh3 started noInit hfn (witness_row_atRef (enc:=enc) (C:=Tryz.checked) false (laidWorld os) wargs rfl hv hrw hok hrow) ?_
 intro W base args ds gs before hval hW _ _ _ hL hsh _
 have hA:=hW
 obtain⟨pa,pv,hA,_,_,_,_⟩:=hA
 refine(law W base args ds pa hval hA (std_of hL hsh)).mono fun e W' ⟨he,hb⟩=>?_
 subst he
 refine⟨_,rfl,zh2 (s:=s) (gs:=gs) (before:=before) (ds:=ds) zh4 ?_ hr htb hvars hs hW hb⟩
 intro t ht
 have:=List.all_eq_true.1 hp t ht
 simpa using this
end
end Go.Proofs.YtidjnnnigcmdpaaGreatDoor
