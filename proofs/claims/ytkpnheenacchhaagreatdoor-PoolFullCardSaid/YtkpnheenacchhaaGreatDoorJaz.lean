/- strings.SplitSeq at ",": its iterator's contract. -/
import Derived.Test.YtkpnheenacchhaaGreatDoorJav
import Derived.Test.YtkpnheenacchhaaGreatDoorJat
import Derived.Test.YtkpnheenacchhaaGreatDoorJax
import Derived.Test.YtkpnheenacchhaaGreatDoorJaa
set_option linter.unusedSimpArgs false
set_option linter.unusedVariables false
namespace Go.Proofs.YtkpnheenacchhaaGreatDoor
open Go.RowKit Go.Shelf
attribute [local go_sem] Oper.semAt_some
structure SpSt (b:Nat) (W:World) (r:ByteArray):Prop where
 cs:W.heap[b]?=some (.cells #[.string r] 9 (0,0))
 sep:W.cell? ⟨b+1,0,none⟩=some (.string ⟨#[44]⟩)
 sav:W.cell? ⟨b+2,0,none⟩=some (.int .i64 0)
 mx:∃ m,W.cell? ⟨5,0,none⟩=some (.int .i64 m)
def spK (b:Nat) (A B:World):Prop:=∀ j,j=5∨j=b∨j=b+1∨j=b+2→B.heap[j]?=A.heap[j]?
theorem SpSt.keep {b:Nat} {A B:World} {r:ByteArray} (h:SpSt b A r) (k:spK b A B):SpSt b B r:=by
 obtain⟨h1,h2,h3,⟨m,h4⟩⟩:=h
 exact⟨(k b (.inr (.inl rfl))).trans h1,(World.cell?_of_block (k (b+1) (.inr (.inr (.inl rfl))))).trans h2,(World.cell?_of_block (k (b+2) (.inr (.inr (.inr rfl))))).trans h3,⟨m,(World.cell?_of_block (k _ (.inl rfl))).trans h4⟩⟩
theorem SpSt.set {b:Nat} {A:World} {r:ByteArray} (h:SpSt b A r) (hb:5<b) (q:ByteArray):SpSt b (A.setCell ⟨b,0,none⟩ (.string q)) q:=by
 obtain⟨h1,h2,h3,⟨m,h4⟩⟩:=h
 have o:∀ j,j≠b→(A.setCell ⟨b,0,none⟩ (.string q)).heap[j]?=A.heap[j]?:=fun j hj=>Below.heap_setCell A ⟨b,0,none⟩ _ j hj
 refine⟨?_,(World.cell?_of_block (o (b+1) (by omega))).trans h2,(World.cell?_of_block (o (b+2) (by omega))).trans h3,⟨m,(World.cell?_of_block (o 5 (by omega))).trans h4⟩⟩
 simp [World.setCell,Array.getElem?_modify,h1]
theorem SpSt.cell {b:Nat} {W:World} {r:ByteArray} (h:SpSt b W r):W.cell? ⟨b,0,none⟩=some (.string r):=by simp [World.cell?,h.cs]
end Go.Proofs.YtkpnheenacchhaaGreatDoor
