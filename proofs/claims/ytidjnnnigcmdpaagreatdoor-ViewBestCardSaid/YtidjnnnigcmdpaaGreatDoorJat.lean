/- What the library's variables hold, carried along. -/
import Derived.WalkSmall
import Derived.Lib.AppendIntMem
import Derived.Lib.ItoaNum
import Derived.Lib.LaidTab
import Derived.Test.YtidjnnnigcmdpaaGreatDoorProg
import Derived.Test.YtidjnnnigcmdpaaGreatDoorJac
set_option linter.unusedSimpArgs false
set_option linter.unusedVariables false
set_option linter.unnecessarySimpa false
namespace Go.Proofs.YtidjnnnigcmdpaaGreatDoor
open Go.RowKit
structure Std (w:World):Prop where
 tab:Lib.TabIs Tryz.prog w "internal/strconv.uint64pow10" .u64 Lib.pow10Tab
 mx:∃ m,w.cell? ⟨3,0,none⟩=some (.int .i64 m)
theorem gPow:Tryz.prog.globalNamed "internal/strconv.uint64pow10" = some 0:=by kernel_rfl
theorem zg0 {w:World} {a:Addr} {v:Value} (h:w.cell? a=some v):a.block<w.heap.size:=by
 rcases Nat.lt_or_ge a.block w.heap.size with h' | h'
 ·exact h'
 ·simp [World.cell?,Array.getElem?_eq_none h']at h
theorem var_lt {w:World} {n:String} {g:Nat} {cs:Array Value} (hg:Tryz.prog.globalNamed n=some g) (h:w.var? Tryz.prog n=some cs):g<w.heap.size:=by
 rcases Nat.lt_or_ge g w.heap.size with h' | h'
 ·exact h'
 ·simp [World.var?,hg,Array.getElem?_eq_none h']at h
theorem Std.below {w w':World} {B:Nat} (h:Std w) (hb:Below B w w') (hB:w.heap.size≤B):Std w':=by
 obtain⟨h1,⟨m,h4⟩⟩:=h
 exact⟨var?_below hb gPow (Nat.lt_of_lt_of_le (var_lt gPow h1) hB) h1,⟨m,(hb.cell (p:=⟨3,0,none⟩) (Nat.lt_of_lt_of_le (zg0 h4) hB)).trans h4⟩⟩
theorem Std.grew {w w':World} (h:Std w) (hb:Grew w w'):Std w':=h.below hb (Nat.le_refl _)
theorem Std.drewN {w:World} (h:Std w) (n:Nat):Std (w.drewN n):=h.grew (yh (zc w) n)
theorem Std.drew {w:World} (h:Std w):Std w.drew:=h.drewN 1
theorem Std.alloc {w:World} (h:Std w) (o:Obj):Std (w.alloc o):=h.grew (zf (zc w) o)
end Go.Proofs.YtidjnnnigcmdpaaGreatDoor
