/- Rows of cells that a loop fills; whole rows loaded and stored. -/
import Derived.Deep.WholeRow
import Derived.Test.YtkpnheenacchhaaGreatDoorJad
set_option linter.unusedSimpArgs false
set_option linter.unusedVariables false
namespace Go.Proofs.YtkpnheenacchhaaGreatDoor
open Go.RowKit
section
variable {P : Program}
end
def Bk (w:World) (g:Nat) (t:TypeId) (cs:Array Value):Prop:=w.heap[g]?=some (.cells cs t (0,0))
theorem Bk.lt {w:World} {g:Nat} {t:TypeId} {cs:Array Value} (h:Bk w g t cs):g<w.heap.size:=by
 rcases Nat.lt_or_ge g w.heap.size with hlt | hge
 ·exact hlt
 ·unfold Bk at h;rw [Array.getElem?_eq_none hge]at h;cases h
theorem Bk.cell {w:World} {g:Nat} {t:TypeId} {cs:Array Value} (h:Bk w g t cs) (i:Nat):w.cell? ⟨g,i,none⟩=cs[i]?:=cell_of_row w g i cs t (0,0) h
theorem Bk.frozen {w:World} {g:Nat} {t:TypeId} {cs:Array Value} (h:Bk w g t cs) (i:Nat):w.frozen? ⟨g,i,none⟩=false:=frozen_of_row w g i cs t h
theorem Bk.new (w:World) (t:TypeId) (cs:Array Value):Bk (w.alloc (.cells cs t)) w.heap.size t cs:=heap_alloc_new w _
theorem Bk.alloc {w:World} {g:Nat} {t:TypeId} {cs:Array Value} (h:Bk w g t cs) (o:Obj):Bk (w.alloc o) g t cs:=(Below.heap_alloc w o g h.lt).trans h
theorem Bk.drew {w:World} {g:Nat} {t:TypeId} {cs:Array Value} (h:Bk w g t cs):Bk w.drew g t cs:=h
theorem Bk.far {w:World} {g:Nat} {t:TypeId} {cs:Array Value} (h:Bk w g t cs) {p:Addr} (hp:g≠p.block) (u:Value):Bk (w.setCell p u) g t cs:=(heap_setCell_other w p g u hp).trans h
theorem Bk.below {w w':World} {g B:Nat} {t:TypeId} {cs:Array Value} (h:Bk w g t cs) (hb:Below B w w') (hg:g<B):Bk w' g t cs:=(hb.block g hg).trans h
theorem Bk.grew {w w':World} {g:Nat} {t:TypeId} {cs:Array Value} (h:Bk w g t cs) (hb:Grew w w'):Bk w' g t cs:=h.below hb h.lt
theorem Bk.row {w:World} {g:Nat} {t:TypeId} {cs:Array Value} (h:Bk w g t cs) (cs':Array Value):Bk (w.setRow g cs') g t cs':=setRow_heap _ _ _ _ _ _ h
def arrU (s:Nat→Nat):Array Value:=((List.range 18).map fun k=>u64V (s k)).toArray
theorem kD (s:Nat→Nat):(arrU s).size=18:=by simp [arrU]
theorem jg (s:Nat→Nat) (k:Nat) (h:k<18):(arrU s)[k]?=some (.int .u64 (s k:Nat)):=by
 rw [Array.getElem?_eq_getElem (by rw [kD];exact h)]
 simp [arrU,u64V]
theorem Bk.drewN {w:World} {g:Nat} {t:TypeId} {cs:Array Value} (h:Bk w g t cs) (n:Nat):Bk (w.drewN n) g t cs:=h
end Go.Proofs.YtkpnheenacchhaaGreatDoor
