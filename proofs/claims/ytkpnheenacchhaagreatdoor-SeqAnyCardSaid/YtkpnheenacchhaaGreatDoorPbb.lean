/- Steps of drawn regions that make memory: append of whatever source; worlds that grow. -/
import Derived.Test.YtkpnheenacchhaaGreatDoorPzz
import Derived.Deep.RegionHeld3
import Derived.Test.YtkpnheenacchhaaGreatDoorPai
import Derived.Test.YtkpnheenacchhaaGreatDoorPaf
import Derived.Deep.MidRow
import Derived.IntWalk
import Derived.Lib.Hide
import Derived.Test.YtkpnheenacchhaaGreatDoorProg
set_option maxRecDepth 100000
set_option linter.unusedSimpArgs false
set_option linter.unusedVariables false
namespace Go.Proofs.YtkpnheenacchhaaGreatDoor
open Go.RowKit
theorem zov {a b c:World} {r:Option Nat} (h:Grew a b) (k:b.grownBy c r) (hr:∀ i,r=some i→a.heap.size≤i):Grew a c:=h.grown k h.size hr
theorem Rd.gr {w w':World} {A:Option Addr} {xs:List Value} (h:Rd w w.heap.size A xs) (hb:Grew w w'):Rd w' w'.heap.size A xs:=(h.below hb).more hb.size
theorem xg {w w':World} {base:Nat} {e:TypeId} {size n:Nat} {v:Value} {xs:List Value} (h:w.ownsRow base e size v n xs) (hg:Grew w w'):w'.ownsRow base e size v n xs:=zo (S:=fun _=>False) h (zF hg) (fun _ _ h=>h)
theorem yD (w:World) (t:TypeId) (cs:Array Value):Rd (w.alloc (.cells cs t)) (w.alloc (.cells cs t)).heap.size (some ⟨w.heap.size,0,none⟩) cs.toList:=(yb w t cs (0,0)).more (by simp)
theorem zl (w:World) (o:Obj):(w.alloc o).heap.size=w.heap.size+1:=by simp
theorem zm6 (w:World) (o:Obj) (t:TypeId) (cs:Array Value):Rd ((w.alloc o).alloc (.cells cs t)) ((w.alloc o).alloc (.cells cs t)).heap.size (some ⟨w.heap.size+1,0,none⟩) cs.toList:=by
 have h:=yD (w.alloc o) t cs
 rwa [show(⟨(w.alloc o).heap.size,0,none⟩:Addr)=⟨w.heap.size+1,0,none⟩ from by rw [zl]]at h
structure Ag (w:World) (b:Nat) (cs:List Value):Prop where
 cell:w.rangeAt b 0 cs
 there:w.there b 0 cs.length
 lt:b<w.heap.size
theorem Ag.of_heap {w:World} {b:Nat} {t:TypeId} {cs:Array Value} (h:w.heap[b]?=some (.cells cs t (0,0))):Ag w b cs.toList:=by
 refine⟨fun j v hj=>?_,fun j hj=>⟨?_,?_⟩,(Array.getElem?_eq_some_iff.1 h).1⟩
 ·have hj':cs[j]?=some v:=by simpa using hj
  simp [World.cell?,h,hj']
 ·have hj':j<cs.size:=by simpa using hj
  simp [World.cell?,h,hj']
 ·simp [World.frozen?,h]
theorem Ag.thereN {w:World} {b:Nat} {cs:List Value} (h:Ag w b cs) (n:Nat) (hn:cs.length=n):w.there b 0 n:=hn▸h.there
theorem Ag.new (w:World) (t:TypeId) (cs:Array Value):Ag (w.alloc (.cells cs t)) w.heap.size cs.toList:=Ag.of_heap (t:=t) (heap_alloc_new w _)
theorem Ag.kp {S:Nat→Prop} {w w':World} {b:Nat} {cs:List Value} (h:Ag w b cs) (k:Kp S w w') (hb:¬S b):Ag w' b cs:=by
 have e:=k.block b h.lt hb
 refine⟨fun j v hj=>?_,fun j hj=>?_,Nat.lt_of_lt_of_le h.lt k.size⟩
 ·have:=h.cell j v hj
  unfold World.cell? at this ⊢
  rw [e];exact this
 ·have:=h.there j hj
  unfold World.cell? World.frozen? at this ⊢
  rw [e];exact this
theorem Ag.grew {w w':World} {b:Nat} {cs:List Value} (h:Ag w b cs) (k:Grew w w'):Ag w' b cs:=h.kp (S:=fun _=>False) (zF k) (fun h=>h)
theorem zn:∀(vs:List Value) (b o:Nat) (w:World),Kp (fun j=>j=b) w (w.setCells b o vs)
 | [],b,o,w=>zQ _ w
 | v::r,b,o,w=>yo (yH (S:=fun j=>j=b) (zQ _ w) (p:=⟨b,o,none⟩) (.inl rfl) v) (zn r b (o+1) _)
theorem Ag.set {w:World} {b:Nat} {cs vs:List Value} (h:Ag w b cs) (hl:vs.length=cs.length):Ag (w.setCells b 0 vs) b vs:=by
 have ht:w.there b 0 vs.length:=by rw [hl];exact h.there
 refine⟨World.rangeAt_setCells_same w b 0 vs ht,fun j hj=>?_,Nat.lt_of_lt_of_le h.lt (zn vs b 0 w).size⟩
 refine⟨?_,?_⟩
 ·rw [World.rangeAt_setCells_same w b 0 vs ht j vs[j] (by simp [hj])];rfl
 ·rw [World.frozen?_setCells];exact(ht j hj).2
theorem Ag.other {w:World} {b b' o:Nat} {cs vs:List Value} (h:Ag w b cs) (hb:b≠b'):Ag (w.setCells b' o vs) b cs:=h.kp (zn vs b' o w) hb
theorem zh {a w:World} {b o:Nat} (vs:List Value) (h:Grew a w) (hb:a.heap.size≤b):Grew a (w.setCells b o vs) :=
 zV h (zn vs b o w) h.size (fun i hi=>by have e:i=b:=hi;omega)
theorem jE (w:World) (b o:Nat) (vs:List Value):w.heap.size≤(w.setCells b o vs).heap.size:=(zn vs b o w).size
theorem qn_ok (f:Int) (hf:1≤f∧f≤3) (w:World):Calls Tryz.prog 97 #[.agg #[.int .i64 f]] w fun e w'=>e=.returned (.int .i64 (3*f+1))∧Grew w w':=by
 have e1:IntKind.i64.wrap (3*f)=3*f:=IntWalk.i64_in _ (by omega)
 have e2:IntKind.i64.wrap (3*f+1)=3*f+1:=IntWalk.i64_in _ (by omega)
 go_enter Tryz.func97,Tryz.ntmps97
 go_wp2_with fail
 go_ret
 exact⟨rfl,(Below.refl _ w).alloc (zN9 _) _⟩
theorem qq_ok (f:Int) (hf:1≤f∧f≤3) (w:World):Calls Tryz.prog 170 #[.agg #[.int .i64 f]] w fun e w'=>e=.returned (.int .i64 (2*f+1))∧Grew w w':=by
 have e1:IntKind.i64.wrap (2*f)=2*f:=IntWalk.i64_in _ (by omega)
 have e2:IntKind.i64.wrap (2*f+1)=2*f+1:=IntWalk.i64_in _ (by omega)
 go_enter Tryz.func170,Tryz.ntmps170
 go_wp2_with fail
 go_ret
 exact⟨rfl,(Below.refl _ w).alloc (zN9 _) _⟩
theorem rn_ok (f:Int) (hf:1≤f∧f≤3) (w:World):Calls Tryz.prog 78 #[.int .i64 f] w fun e w'=>e=.returned (.int .i64 (3*f+1))∧w'=w:=by
 have e1:IntKind.i64.wrap (3*f)=3*f:=IntWalk.i64_in _ (by omega)
 have e2:IntKind.i64.wrap (3*f+1)=3*f+1:=IntWalk.i64_in _ (by omega)
 go_enter Tryz.func78,Tryz.ntmps78
 go_wp2_with fail
 go_ret
 exact⟨rfl,rfl⟩
theorem rq_ok (f:Int) (hf:1≤f∧f≤3) (w:World):Calls Tryz.prog 114 #[.int .i64 f] w fun e w'=>e=.returned (.int .i64 (2*f+1))∧w'=w:=by
 have e1:IntKind.i64.wrap (2*f)=2*f:=IntWalk.i64_in _ (by omega)
 have e2:IntKind.i64.wrap (2*f+1)=2*f+1:=IntWalk.i64_in _ (by omega)
 go_enter Tryz.func114,Tryz.ntmps114
 go_wp2_with fail
 go_ret
 exact⟨rfl,rfl⟩
theorem zj8 (f:Int) (w:World):Calls Tryz.prog 77 #[.int .i64 f] w fun e w'=>e=.returned (.int .i64 (if f<1∨3<f then 1 else 0))∧w'=w:=by
 by_cases h1:f<1
 ·rw [if_pos (.inl h1)]
  go_enter Tryz.func77,Tryz.ntmps77
  go_wp2_with fail
  go_ret
  exact⟨rfl,rfl⟩
 ·by_cases h2:3<f
  ·rw [if_pos (.inr h2)]
   go_enter Tryz.func77,Tryz.ntmps77
   go_wp2_with fail
   go_ret
   exact⟨rfl,rfl⟩
  ·rw [if_neg (by omega)]
   go_enter Tryz.func77,Tryz.ntmps77
   go_wp2_with fail
   go_ret
   exact⟨rfl,rfl⟩
end Go.Proofs.YtkpnheenacchhaaGreatDoor
