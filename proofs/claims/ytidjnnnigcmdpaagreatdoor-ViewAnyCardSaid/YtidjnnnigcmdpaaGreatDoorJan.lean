/- Steps of drawn regions that make memory: append of whatever source; worlds that grow. -/
import Derived.Deep.RegionHeld3
import Derived.Test.YtidjnnnigcmdpaaGreatDoorJai
import Derived.Test.YtidjnnnigcmdpaaGreatDoorJaf
import Derived.Deep.MidRow
set_option linter.unusedSimpArgs false
set_option linter.unusedVariables false
set_option linter.unnecessarySimpa false
namespace Go.Proofs.YtidjnnnigcmdpaaGreatDoor
open Go.RowKit
theorem Rd.up {w w':World} {B:Nat} {A:Option Addr} {xs:List Value} (h:Rd w B A xs) (hb:Grew w w') (hB:B≤w.heap.size):Rd w' B A xs:=h.keep fun p hp=>hb.cell (Nat.lt_of_lt_of_le hp hB)
theorem Rd.gr {w w':World} {A:Option Addr} {xs:List Value} (h:Rd w w.heap.size A xs) (hb:Grew w w'):Rd w' w'.heap.size A xs:=(h.below hb).more hb.size
theorem yZ {w w':World} {base:Nat} {e:TypeId} {size n:Nat} {v:Value} {xs:List Value} (h:w.ownsRow base e size v n xs) (hg:Grew w w'):w'.ownsRow base e size v n xs:=zx (S:=fun _=>False) h (zj hg) (fun _ _ h=>h)
theorem ji (w:World) (t:TypeId) (cs:Array Value):Rd (w.alloc (.cells cs t)) (w.alloc (.cells cs t)).heap.size (some ⟨w.heap.size,0,none⟩) cs.toList:=(yq w t cs (0,0)).more (by simp)
theorem zl (w:World) (o:Obj):(w.alloc o).heap.size=w.heap.size+1:=by simp
structure Ag (w:World) (b:Nat) (cs:List Value):Prop where
 cell:w.rangeAt b 0 cs
 there:w.there b 0 cs.length
 lt:b<w.heap.size
theorem Ag.of_heap {w:World} {b:Nat} {t:TypeId} {cs:Array Value} (h:w.heap[b]?=some (.cells cs t (0,0))):Ag w b cs.toList:=by
 refine⟨fun j v hj=>?_,fun j hj=>⟨?_,?_⟩,(Array.getElem?_eq_some_iff.1 h).1⟩
 ·have hj':cs[j]?=some v:=by simpa using hj
  simp [World.cell?,h,hj']
 ·have hj':j<cs.size:=by simpa using hj
  simp [World.cell?,h,hj']
 ·simp [World.frozen?,h]
theorem Ag.thereN {w:World} {b:Nat} {cs:List Value} (h:Ag w b cs) (n:Nat) (hn:cs.length=n):w.there b 0 n:=hn▸h.there
theorem Ag.new (w:World) (t:TypeId) (cs:Array Value):Ag (w.alloc (.cells cs t)) w.heap.size cs.toList:=Ag.of_heap (t:=t) (heap_alloc_new w _)
theorem Ag.kp {S:Nat→Prop} {w w':World} {b:Nat} {cs:List Value} (h:Ag w b cs) (k:Kp S w w') (hb:¬S b):Ag w' b cs:=by
 have e:=k.block b h.lt hb
 refine⟨fun j v hj=>?_,fun j hj=>?_,Nat.lt_of_lt_of_le h.lt k.size⟩
 ·have:=h.cell j v hj
  unfold World.cell? at this ⊢
  rw [e];exact this
 ·have:=h.there j hj
  unfold World.cell? World.frozen? at this ⊢
  rw [e];exact this
theorem Ag.grew {w w':World} {b:Nat} {cs:List Value} (h:Ag w b cs) (k:Grew w w'):Ag w' b cs:=h.kp (S:=fun _=>False) (zj k) (fun h=>h)
theorem zn:∀(vs:List Value) (b o:Nat) (w:World),Kp (fun j=>j=b) w (w.setCells b o vs)
 | [],b,o,w=>zJ _ w
 | v::r,b,o,w=>zB (yP (S:=fun j=>j=b) (zJ _ w) (p:=⟨b,o,none⟩) (.inl rfl) v) (zn r b (o+1) _)
theorem Ag.set {w:World} {b:Nat} {cs vs:List Value} (h:Ag w b cs) (hl:vs.length=cs.length):Ag (w.setCells b 0 vs) b vs:=by
 have ht:w.there b 0 vs.length:=by rw [hl];exact h.there
 refine⟨World.rangeAt_setCells_same w b 0 vs ht,fun j hj=>?_,Nat.lt_of_lt_of_le h.lt (zn vs b 0 w).size⟩
 refine⟨?_,?_⟩
 ·rw [World.rangeAt_setCells_same w b 0 vs ht j vs[j] (by simp [hj])];rfl
 ·rw [World.frozen?_setCells];exact(ht j hj).2
theorem Ag.other {w:World} {b b' o:Nat} {cs vs:List Value} (h:Ag w b cs) (hb:b≠b'):Ag (w.setCells b' o vs) b cs:=h.kp (zn vs b' o w) hb
theorem zi {a w:World} {b o:Nat} (vs:List Value) (h:Grew a w) (hb:a.heap.size≤b):Grew a (w.setCells b o vs) :=
 zO h (zn vs b o w) h.size (fun i hi=>by have e:i=b:=hi;omega)
theorem zbe (w:World) (b o:Nat) (vs:List Value):w.heap.size≤(w.setCells b o vs).heap.size:=(zn vs b o w).size
end Go.Proofs.YtidjnnnigcmdpaaGreatDoor
