/- Laws of the walk, for seats without keys (copies of my own, under names of their own). -/
import Derived.Deep.Cut
import Derived.Deep.MidRow
import Derived.Deep.QuietTactic
import Derived.BigQuiet
import Derived.WalkArith
import Derived.IntWalk
import Derived.RegionTactic
import Derived.Test.YtidjnnnigcmdpaaGreatDoorJaf
import Derived.Test.YtidjnnnigcmdpaaGreatDoorJan
import Derived.Laws.MakeOwn
set_option linter.unusedSimpArgs false
set_option linter.unusedVariables false
set_option linter.unnecessarySimpa false
namespace Go.Proofs.YtidjnnnigcmdpaaGreatDoor
open Go.RowKit
theorem qH {z:Nat}:∀(L:List (List Value)),(∀ l∈L,l.length=z)→∀ k j (hk:k<L.length),j<z→L.flatten[k*z+j]?=L[k][j]?
 | [],_,k,_,hk,_=>absurd hk (by simp)
 | l::r,h,0,j,_,hj=>by
  have hl:=h l (by simp)
  simp only [List.flatten_cons,Nat.zero_mul,Nat.zero_add,List.getElem_cons_zero]
  exact List.getElem?_append_left (by omega)
 | l::r,h,k+1,j,hk,hj=>by
  have hl:=h l (by simp)
  have e:(k+1)*z+j=l.length+(k*z+j):=by rw [hl,Nat.add_mul];omega
  rw [List.flatten_cons,e,List.getElem?_append_right (by omega),Nat.add_sub_cancel_left]
  simpa using qH r (fun x hx=>h x (by simp [hx])) k j (by simpa using hk) hj
def ltRdC (w:World) (A:Option Addr) (z:Nat) (L:List (List Value)):Prop:=∀ k (h:k<L.length),∃ q,A=some ⟨q,0,none⟩∧q<w.heap.size∧w.rangeAt q (k*z) L[k]
theorem ltRdC.nil (w:World) (A:Option Addr) (z:Nat):ltRdC w A z []:=fun k h=>absurd h (by simp)
theorem ltRdC.kp {S:Nat→Prop} {w w':World} {A:Option Addr} {z:Nat} {L:List (List Value)} (h:ltRdC w A z L) (k:Kp S w w') (hs:∀ q,A=some ⟨q,0,none⟩→¬S q):ltRdC w' A z L:=fun i hi=>by
 obtain⟨q,e,hq,hr⟩:=h i hi
 exact⟨q,e,Nat.lt_of_lt_of_le hq k.size,fun j v hj=>by
  rw [←hr j v hj]
  exact World.cell?_of_block (k.block q hq (hs q e))⟩
theorem ltRdC.gr {w w':World} {A:Option Addr} {z:Nat} {L:List (List Value)} (h:ltRdC w A z L) (k:Grew w w'):ltRdC w' A z L:=h.kp (S:=fun _=>False) (zj k) (fun _ _ h=>h)
theorem ltRdC.take {w:World} {A:Option Addr} {z:Nat} {L:List (List Value)} (h:ltRdC w A z L) (n:Nat):ltRdC w A z (L.take n):=fun i hi=>by
 have hi':i<L.length:=by rw [List.length_take]at hi;omega
 obtain⟨q,e,hq,hr⟩:=h i hi'
 exact⟨q,e,hq,by rw [List.getElem_take];exact hr⟩
theorem zf4 {w:World} {base n z:Nat} {e:TypeId} {v:Value} {L:List (List Value)} (h:w.ownsRow base e z v n L.flatten) (hz:∀ l∈L,l.length=z) (hz0:0<z) (hn:L.length=n) :
 ∃ A c,v=.slice A n c∧ltRdC w A z L∧n≤c∧c≤maxLen∧∀ ad,A=some ad→base≤ad.block∧ad.block<w.heap.size:=by
 rcases h.2 with ⟨rfl,h0⟩ | ⟨g,cap,cur,rfl,hb,hh,h1,h2,h3,h4⟩
 ·subst h0
  obtain rfl:=List.eq_nil_of_length_eq_zero hn
  exact⟨none,0,rfl,ltRdC.nil _ _ _,Nat.le_refl _,Nat.zero_le _,fun ad h=>by cases h⟩
 ·have hlt:g<w.heap.size:=(Array.getElem?_eq_some_iff.1 hh).1
  refine⟨some ⟨g,0,none⟩,cap,rfl,fun k hk=>⟨g,rfl,hlt,fun j u hj=>?_⟩,h1,h2,fun ad h=>by cases h;exact⟨hb,hlt⟩⟩
  have hjz:j<z:=by have:=(List.getElem?_eq_some_iff.1 hj).1;rw [hz L[k] (List.getElem_mem hk)]at this;exact this
  have hf:=qH L hz k j hk hjz
  rw [hj]at hf
  have:=h.cells (g:=g) rfl (k*z+j) u hf
  rwa [show(⟨g,0,none⟩:Addr).add (k*z+j)=⟨g,k*z+j,none⟩ from by unfold Addr.add;split<;>simp_all]at this
theorem ltadd0 (q n:Nat):(⟨q,0,none⟩:Addr).add n=⟨q,n,none⟩:=by unfold Addr.add;split<;>simp_all
end Go.Proofs.YtidjnnnigcmdpaaGreatDoor
