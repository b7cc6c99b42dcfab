/- What the library's variables hold, carried along. -/
import Derived.Test.YtidjnnnigcmdpaaGreatDoorJzz
import Derived.WalkSmall
import Derived.Lib.AppendIntMem
import Derived.Lib.ItoaNum
import Derived.Lib.LaidTab
import Derived.Test.YtidjnnnigcmdpaaGreatDoorProg
import Derived.Test.YtidjnnnigcmdpaaGreatDoorJad
import Derived.Test.YtidjnnnigcmdpaaGreatDoorJat
import Derived.Test.YtidjnnnigcmdpaaGreatDoorJaj
import Derived.Test.YtidjnnnigcmdpaaGreatDoorJaq
import Derived.Lib.ConvBytes
import Derived.Lib.Index
import Derived.WalkKit
import Derived.Laws.MakeOwn
set_option maxRecDepth 100000
set_option linter.unusedSimpArgs false
set_option linter.unusedVariables false
set_option linter.unnecessarySimpa false
namespace Go.Proofs.YtidjnnnigcmdpaaGreatDoor
open Go.RowKit
structure Std (w:World):Prop where
 tab:Lib.TabIs Tryz.prog w "internal/strconv.uint64pow10" .u64 Lib.pow10Tab
 mx:∃ m,w.cell? ⟨3,0,none⟩=some (.int .i64 m)
theorem gPow:Tryz.prog.globalNamed "internal/strconv.uint64pow10" = some 0:=by kernel_rfl
theorem zkd {w:World} {a:Addr} {v:Value} (h:w.cell? a=some v):a.block<w.heap.size:=by
 rcases Nat.lt_or_ge a.block w.heap.size with h' | h'
 ·exact h'
 ·simp [World.cell?,Array.getElem?_eq_none h']at h
theorem var_lt {w:World} {n:String} {g:Nat} {cs:Array Value} (hg:Tryz.prog.globalNamed n=some g) (h:w.var? Tryz.prog n=some cs):g<w.heap.size:=by
 rcases Nat.lt_or_ge g w.heap.size with h' | h'
 ·exact h'
 ·simp [World.var?,hg,Array.getElem?_eq_none h']at h
theorem Std.below {w w':World} {B:Nat} (h:Std w) (hb:Below B w w') (hB:w.heap.size≤B):Std w':=by
 obtain⟨h1,⟨m,h4⟩⟩:=h
 exact⟨var?_below hb gPow (Nat.lt_of_lt_of_le (var_lt gPow h1) hB) h1,⟨m,(hb.cell (p:=⟨3,0,none⟩) (Nat.lt_of_lt_of_le (zkd h4) hB)).trans h4⟩⟩
theorem Std.grew {w w':World} (h:Std w) (hb:Grew w w'):Std w':=h.below hb (Nat.le_refl _)
theorem Std.drewN {w:World} (h:Std w) (n:Nat):Std (w.drewN n):=h.grew (yr (zc w) n)
theorem Std.drew {w:World} (h:Std w):Std w.drew:=h.drewN 1
theorem Std.alloc {w:World} (h:Std w) (o:Obj):Std (w.alloc o):=h.grew (zg (zc w) o)
theorem xk (n:Int) (h0:-9223372036854775808≤n) (h1:n≤9223372036854775807) (w:World) (hs:Std w) :
 Calls Tryz.prog 84 #[.int .i64 n] w fun e w'=>e=.returned (.string ⟨(Lib.itoa n).toArray⟩)∧Grew w w':=by
 have CF:=hQ9 (Tryz.strconv_FormatInt_10 n h0 h1 w hs.tab)
 clear hs
 go_enter Tryz.func84,Tryz.ntmps84
 go_wp2_with(first | (go_at_call 139;refine(CF.out).mono ?_;rintro e w' ⟨rfl,k,os,hw⟩))
 go_ret
 exact⟨rfl,Lib.below_grow _ _ (Nat.le_refl _) _ _⟩
def in64 (n:Int):Prop:=-9223372036854775808≤n∧n≤9223372036854775807
structure Cm where
 cl:Int
 no:Int
 fr:Int
 tt:Int
 am:Int
 deriving DecidableEq
def Cm.l (c:Cm):List Int:=[c.cl,c.no,c.fr,c.tt,c.am]
def Cm.in (c:Cm):Prop:=∀ x∈c.l,in64 x
def Cm.v (c:Cm):Value:=.agg #[.int .i64 c.cl,.int .i64 c.no,.int .i64 c.fr,.int .i64 c.tt,.int .i64 c.am]
def Cm.zero:Cm:=⟨0,0,0,0,0⟩
def okC (c:Cm):Prop:=0≤c.cl∧c.cl<16∧0≤c.no∧c.no≤1048576∧0≤c.fr∧c.fr<16∧0≤c.tt∧c.tt<16∧c.fr≠c.tt∧1≤c.am∧c.am≤1099511627776
instance (c:Cm):Decidable (okC c):=by unfold okC;infer_instance
def smallC (n:Int):Prop:=-2147483648≤n∧n<2147483648
instance (n:Int):Decidable (smallC n):=by unfold smallC;infer_instance
end Go.Proofs.YtidjnnnigcmdpaaGreatDoor
