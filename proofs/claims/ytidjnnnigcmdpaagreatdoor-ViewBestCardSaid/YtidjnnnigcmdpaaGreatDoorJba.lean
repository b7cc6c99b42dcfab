/- field.Num, field.ParseNum. -/
import Derived.Test.YtidjnnnigcmdpaaGreatDoorJzz
import Derived.Lib.ConvBytes
import Derived.Lib.Index
import Derived.Test.YtidjnnnigcmdpaaGreatDoorJat
import Derived.Test.YtidjnnnigcmdpaaGreatDoorJaz
import Derived.WalkKit
import Derived.Test.YtidjnnnigcmdpaaGreatDoorProg
import Derived.Test.YtidjnnnigcmdpaaGreatDoorJac
import Derived.Laws.MakeOwn
set_option maxRecDepth 100000
set_option linter.unusedSimpArgs false
set_option linter.unusedVariables false
set_option linter.unnecessarySimpa false
namespace Go.Proofs.YtidjnnnigcmdpaaGreatDoor
open Go.RowKit
theorem yR (n:Int) (h0:-9223372036854775808≤n) (h1:n≤9223372036854775807) (w:World) (hs:Std w) :
 Calls Tryz.prog 84 #[.int .i64 n] w fun e w'=>e=.returned (.string ⟨(Lib.itoa n).toArray⟩)∧Grew w w':=by
 have CF:=hQ9 (Tryz.strconv_FormatInt_10 n h0 h1 w hs.tab)
 clear hs
 go_enter Tryz.func84,Tryz.ntmps84
 go_wp2_with(first | (go_at_call 139;refine(CF.out).mono ?_;rintro e w' ⟨rfl,k,os,hw⟩))
 go_ret
 exact⟨rfl,Lib.below_grow _ _ (Nat.le_refl _) _ _⟩
def in64 (n:Int):Prop:=-9223372036854775808≤n∧n≤9223372036854775807
structure Cm where
 cl:Int
 no:Int
 fr:Int
 tt:Int
 am:Int
 deriving DecidableEq
def Cm.l (c:Cm):List Int:=[c.cl,c.no,c.fr,c.tt,c.am]
def Cm.in (c:Cm):Prop:=∀ x∈c.l,in64 x
def Cm.v (c:Cm):Value:=.agg #[.int .i64 c.cl,.int .i64 c.no,.int .i64 c.fr,.int .i64 c.tt,.int .i64 c.am]
def Cm.zero:Cm:=⟨0,0,0,0,0⟩
def okC (c:Cm):Prop:=0≤c.cl∧c.cl<16∧0≤c.no∧c.no≤1048576∧0≤c.fr∧c.fr<16∧0≤c.tt∧c.tt<16∧c.fr≠c.tt∧1≤c.am∧c.am≤1099511627776
instance (c:Cm):Decidable (okC c):=by unfold okC;infer_instance
def smallC (n:Int):Prop:=-2147483648≤n∧n<2147483648
instance (n:Int):Decidable (smallC n):=by unfold smallC;infer_instance
end Go.Proofs.YtidjnnnigcmdpaaGreatDoor
