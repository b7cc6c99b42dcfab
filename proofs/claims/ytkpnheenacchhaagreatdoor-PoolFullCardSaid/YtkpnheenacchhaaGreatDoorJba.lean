/- slices.Sorted of slices.Values at []int64. -/
import Derived.Sort.OwnSorted
import Derived.Lib.SlKeysI
import Derived.Test.YtkpnheenacchhaaGreatDoorJay
import Derived.Test.YtkpnheenacchhaaGreatDoorJaw
set_option maxRecDepth 100000
set_option linter.unusedSimpArgs false
set_option linter.unusedVariables false
namespace Go.Proofs.YtkpnheenacchhaaGreatDoor
open Go.RowKit Go.Shelf Go.Lib Go.Sort
def sortI (l:List Int):List Int:=l.mergeSort fun x y=>decide (x≤y)
theorem xw (l:List Int):(sortI l).length=l.length:=by simp [sortI]
theorem xk (Bs n₀:Nat) (A:Option Addr) (cap:Nat) (zs:List Int) (hz:zs.length≤1048576) (w:World) (hBs:Bs<w.heap.size) (hn₀:n₀≤w.heap.size)
 (hc:w.cell? ⟨Bs,0,none⟩=some (.slice A zs.length cap)) (hr:Rd w n₀ A (i64L zs)) :
 Calls Tryz.prog 274 #[.slice none 0 0,.func (.func 239) #[] #[.pointer (some ⟨Bs,0,none⟩)]] w fun e W'=>∃ v,e=.returned v∧W'.ownsRow w.heap.size 2 1 v zs.length (zs.map (Value.int .i64))∧(v=.slice none 0 0↔zs=[])∧Below w.heap.size w W' :=
 callsIn_wide.1 (xj Fence.wide 6 trivial trivial rfl (by omega) Bs n₀ A cap zs hz w hBs hn₀ hc hr)
theorem ki (A:Option Addr) (len cap:Nat) (w:World) :
 Calls Tryz.prog 193 #[.slice A len cap] w fun e w'=>e=.returned (.func (.func 239) #[] #[.pointer (some ⟨w.heap.size,0,none⟩)])∧w'=w.alloc (.cells #[.slice A len cap] 234) :=
 callsIn_wide.1 (kh Fence.wide 6 trivial rfl A len cap w)
theorem xO (Bs n₀:Nat) (A:Option Addr) (cap:Nat) (zs:List Int) (hz:zs.length≤1048576) (w:World) (hBs:Bs<w.heap.size) (hn₀:n₀≤w.heap.size)
 (hc:w.cell? ⟨Bs,0,none⟩=some (.slice A zs.length cap)) (hr:Rd w n₀ A (i64L zs)) :
 Calls Tryz.prog 237 #[.func (.func 239) #[] #[.pointer (some ⟨Bs,0,none⟩)]] w fun e W'=>∃ v,e=.returned v∧W'.ownsRow w.heap.size 2 1 v zs.length (zs.map (Value.int .i64))∧(v=.slice none 0 0↔zs=[])∧Below w.heap.size w W':=by
 go_enter Tryz.func237,Tryz.ntmps237
 go_wp2_with(go_at_call 274;refine(xk Bs n₀ A cap zs hz _ hBs hn₀ hc hr).mono ?_;rintro e W ⟨v,rfl,hrow,hnil,hb⟩)
 go_ret
 exact⟨v,rfl,hrow,hnil,hb⟩
theorem kj (Bs n₀:Nat) (A:Option Addr) (cap:Nat) (zs:List Int) (hz:zs.length≤1048576) (w:World) (hBs:Bs<w.heap.size) (hn₀:n₀≤w.heap.size)
 (hc:w.cell? ⟨Bs,0,none⟩=some (.slice A zs.length cap)) (hr:Rd w n₀ A (i64L zs)) :
 Calls Tryz.prog 192 #[.func (.func 239) #[] #[.pointer (some ⟨Bs,0,none⟩)]] w fun e W'=>∃ v,e=.returned v∧W'.ownsRow w.heap.size 2 1 v zs.length ((sortI zs).map (Value.int .i64))∧(v=.slice none 0 0↔zs=[])∧Below w.heap.size w W':=by
 go_enter Tryz.func192,Tryz.ntmps192
 go_wp2_with(go_at_call 237;refine(xO Bs n₀ A cap zs hz _ hBs hn₀ hc hr).mono ?_;rintro e W ⟨v,rfl,hrow,hnil,hb⟩)
 rcases hrow.2 with ⟨rfl,hz0⟩ | ⟨gb,cap,cur,rfl,hbase,hgb,r1,r2,r3,r4⟩
 ·have hss:zs=[]:=List.eq_nil_of_length_eq_zero hz0
  subst hss
  go_wp2_with(go_at_call 238;refine(y5 none 0 W).mono ?_;rintro e w' ⟨rfl,rfl⟩)
  go_ret
  exact⟨.slice none 0 0,rfl,by simpa [sortI]using hrow,by simp,hb⟩
 ·have hH:Holds (Value.int .i64) W gb 0 zs.toArray:=holds_of_block_i hgb (by simpa using r4)
  have hgl:gb<W.heap.size:=(Array.getElem?_eq_some_iff.1 hgb).1
  have cS:=kL gb 0 cap zs W hH hgl (by omega)
  go_wp2_with(go_at_call 238;refine cS.mono ?_;rintro e w' ⟨rfl,nn,os,rfl⟩)
  go_ret
  exact⟨_,rfl,ownsRow_sorted_i (by simp) hbase hgb r1 r2 r3,hnil,hb.grown (grownBy_sorted_i _) hb.size (fun j hj=>by cases hj;exact hbase)⟩
theorem xP {w:World} {base base':Nat} {e:TypeId} {size:Nat} {v:Value} {n:Nat} {xs:List Value} (h:w.ownsRow base e size v n xs) (hb:base'≤base):w.ownsRow base' e size v n xs:=by
 refine⟨h.1,?_⟩
 rcases h.2 with hn | ⟨g,cap,cur,hv,hbg,rest⟩
 ·exact .inl hn
 ·exact .inr ⟨g,cap,cur,hv,Nat.le_trans hb hbg,rest⟩
end Go.Proofs.YtkpnheenacchhaaGreatDoor
