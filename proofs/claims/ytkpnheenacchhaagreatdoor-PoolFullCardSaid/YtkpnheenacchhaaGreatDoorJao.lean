/- Laws of the walk, for seats without keys (copies of my own, under names of their own). -/
import Derived.Deep.Cut
import Derived.Deep.MidRow
import Derived.Deep.QuietTactic
import Derived.BigQuiet
import Derived.WalkArith
import Derived.IntWalk
import Derived.RegionTactic
import Derived.Test.YtkpnheenacchhaaGreatDoorJaf
import Derived.Test.YtkpnheenacchhaaGreatDoorJan
import Derived.Laws.MakeOwn
set_option linter.unusedSimpArgs false
set_option linter.unusedVariables false
namespace Go.Proofs.YtkpnheenacchhaaGreatDoor
open Go.RowKit
set_option linter.unnecessarySimpa false
theorem yE {P:Program} {ops:Array Oper} {rest:List Oper} {o:Oper} {a:Act} {w:World} {Q:Exit→Act→World→Prop} (hw:Region.wanted o (yielded ops a.tmps)=true) (ty:TypeId) (x:Operand) (ho:o.op=.load ty x)
 (b m:Nat) (hx:a.eval x=.pointer (some ⟨b,m,none⟩)) (cs:List Value) (d:TypeDesc) (hc:w.rangeAt b m cs)
 (hu:P.underlying ty=some d) (hd:d.isRow=true) (hi:(P.info? ty).map (·.size)=some cs.length)
 (h:wpList P ops Q rest (a.put o.dst (.agg cs.toArray)) w):wpList P ops Q (o::rest) a w :=
 BigFrame.wpList_want hw fun _ hK=>wp_load_mid ty x ho b m hx cs d hc hu hd hi (hK _ _ h)
theorem z6 (W:World) (t:TypeId) (z cs:Array Value) (h:cs.size=z.size):∃ W',(W.alloc (.cells z t)).setCells W.heap.size 0 cs.toList=W'∧(W.alloc (.cells z t)).there W.heap.size 0 cs.size∧Grew W W'∧Ag W' W.heap.size cs.toList :=
 ⟨_,rfl,by rw [h];exact(Ag.new W t z).thereN z.size (by simp),zn (o:=0) (b:=W.heap.size) cs.toList (zc (za W) _) (Nat.le_refl _),Ag.set (vs:=cs.toList) (Ag.new W t z) (by simp [h])⟩
theorem yf {P:Program} {ops:Array Oper} {rest:List Oper} {o:Oper} {a:Act} {w:World} {Q:Exit→Act→World→Prop} (hg:o.guard=none) (t:TypeId) (parts:Array (Nat × Operand)) (ho:o.op=.build t parts) (cells:Array Value)
 (hc:P.built t (parts.map fun(i,x)=>(i,a.eval x)).toList=some cells) (h:wpList P ops Q rest (a.put o.dst (.agg cells)) w):wpList P ops Q (o::rest) a w :=
 wpList_build hg t parts ho (by rw [hc];rfl) (by rw [hc];exact h)
theorem zh {w w':World} {b o:Nat} {v:Value} (h:w.cell? ⟨b,o,none⟩=some v) (g:Grew w w'):w'.cell? ⟨b,o,none⟩=some v:=by
 rw [←h]
 refine World.cell?_of_block (g.block _ ?_)
 rcases Nat.lt_or_ge b w.heap.size with h' | h'
 ·exact h'
 ·have:w.heap[b]?=none:=Array.getElem?_eq_none h'
  simp only [World.cell?,this]at h
  cases h
end Go.Proofs.YtkpnheenacchhaaGreatDoor
namespace Go.Proofs.YtkpnheenacchhaaGreatDoor
open Go.RowKit
set_option linter.unnecessarySimpa false
theorem yO {z:Nat}:∀(L:List (List Value)),(∀ l∈L,l.length=z)→∀ k j (hk:k<L.length),j<z→L.flatten[k*z+j]?=L[k][j]?
 | [],_,k,_,hk,_=>absurd hk (by simp)
 | l::r,h,0,j,_,hj=>by
  have hl:=h l (by simp)
  simp only [List.flatten_cons,Nat.zero_mul,Nat.zero_add,List.getElem_cons_zero]
  exact List.getElem?_append_left (by omega)
 | l::r,h,k+1,j,hk,hj=>by
  have hl:=h l (by simp)
  have e:(k+1)*z+j=l.length+(k*z+j):=by rw [hl,Nat.add_mul];omega
  rw [List.flatten_cons,e,List.getElem?_append_right (by omega),Nat.add_sub_cancel_left]
  simpa using yO r (fun x hx=>h x (by simp [hx])) k j (by simpa using hk) hj
theorem zQ {z:Nat}:∀(L:List (List Value)),(∀ l∈L,l.length=z)→L.flatten.length=L.length*z
 | [],_=>by simp
 | l::r,h=>by
  have hl:=h l (by simp)
  rw [List.flatten_cons,List.length_append,hl,zQ r (fun x hx=>h x (by simp [hx])),List.length_cons,Nat.add_mul];omega
def ltRdC (w:World) (A:Option Addr) (z:Nat) (L:List (List Value)):Prop:=∀ k (h:k<L.length),∃ q,A=some ⟨q,0,none⟩∧q<w.heap.size∧w.rangeAt q (k*z) L[k]
theorem ltRdC.nil (w:World) (A:Option Addr) (z:Nat):ltRdC w A z []:=fun k h=>absurd h (by simp)
theorem ltRdC.kp {S:Nat→Prop} {w w':World} {A:Option Addr} {z:Nat} {L:List (List Value)} (h:ltRdC w A z L) (k:Kp S w w') (hs:∀ q,A=some ⟨q,0,none⟩→¬S q):ltRdC w' A z L:=fun i hi=>by
 obtain⟨q,e,hq,hr⟩:=h i hi
 exact⟨q,e,Nat.lt_of_lt_of_le hq k.size,fun j v hj=>by
  rw [←hr j v hj]
  exact World.cell?_of_block (k.block q hq (hs q e))⟩
theorem ltRdC.gr {w w':World} {A:Option Addr} {z:Nat} {L:List (List Value)} (h:ltRdC w A z L) (k:Grew w w'):ltRdC w' A z L:=h.kp (S:=fun _=>False) (zi k) (fun _ _ h=>h)
theorem ltRdC.take {w:World} {A:Option Addr} {z:Nat} {L:List (List Value)} (h:ltRdC w A z L) (n:Nat):ltRdC w A z (L.take n):=fun i hi=>by
 have hi':i<L.length:=by rw [List.length_take]at hi;omega
 obtain⟨q,e,hq,hr⟩:=h i hi'
 exact⟨q,e,hq,by rw [List.getElem_take];exact hr⟩
theorem z7 {w:World} {base n z:Nat} {e:TypeId} {v:Value} {L:List (List Value)} (h:w.ownsRow base e z v n L.flatten) (hz:∀ l∈L,l.length=z) (hz0:0<z) (hn:L.length=n) :
 ∃ A c,v=.slice A n c∧ltRdC w A z L∧n≤c∧c≤maxLen∧∀ ad,A=some ad→base≤ad.block∧ad.block<w.heap.size:=by
 rcases h.2 with ⟨rfl,h0⟩ | ⟨g,cap,cur,rfl,hb,hh,h1,h2,h3,h4⟩
 ·subst h0
  obtain rfl:=List.eq_nil_of_length_eq_zero hn
  exact⟨none,0,rfl,ltRdC.nil _ _ _,Nat.le_refl _,Nat.zero_le _,fun ad h=>by cases h⟩
 ·have hlt:g<w.heap.size:=(Array.getElem?_eq_some_iff.1 hh).1
  refine⟨some ⟨g,0,none⟩,cap,rfl,fun k hk=>⟨g,rfl,hlt,fun j u hj=>?_⟩,h1,h2,fun ad h=>by cases h;exact⟨hb,hlt⟩⟩
  have hjz:j<z:=by have:=(List.getElem?_eq_some_iff.1 hj).1;rw [hz L[k] (List.getElem_mem hk)]at this;exact this
  have hf:=yO L hz k j hk hjz
  rw [hj]at hf
  have:=h.cells (g:=g) rfl (k*z+j) u hf
  rwa [show(⟨g,0,none⟩:Addr).add (k*z+j)=⟨g,k*z+j,none⟩ from by unfold Addr.add;split<;>simp_all]at this
theorem jo {w:World} {base n z:Nat} {e:TypeId} {v:Value} {xs:List Value} (h:w.ownsRow base e z v n xs) (hn:0<n):∃ g c,v=.slice (some ⟨g,0,none⟩) n c∧base≤g∧g<w.heap.size∧n≤c∧c≤maxLen:=by
 rcases h.2 with ⟨rfl,h0⟩ | ⟨g,cap,cur,rfl,hb,hh,h1,h2,h3,h4⟩
 ·omega
 ·exact⟨g,cap,rfl,hb,(Array.getElem?_eq_some_iff.1 hh).1,h1,h2⟩
theorem yP (q n:Nat):(⟨q,0,none⟩:Addr).add n=⟨q,n,none⟩:=by unfold Addr.add;split<;>simp_all
theorem zX (w:World) (cs:Array Value) (t:TypeId) (j:Nat) (u:Value) (h:cs.toList[j]?=some u):(w.alloc (.cells cs t)).cell? ((⟨w.heap.size,0,none⟩:Addr).add j)=some u:=by
 rw [yP]
 simpa using (Ag.new w t cs).cell j u h
theorem zo {P:Program} (w:World) {ops:Array Oper} {rest:List Oper} {o:Oper} {a:Act} {Q:Exit→Act→World→Prop} (hgd:o.guard=none) (s x:Operand) (t:TypeId)
 (ho:o.op=.call { callee:=.builtin .append,args:=#[s,x],argTypes:=#[t,t] })
 (base:Nat) (e:TypeId) (i:TypeInfo) (z:Value) (size bytes:Nat) (ht:P.underlying t=some (.slice e)) (hi:P.info? e=some i) (hz:i.zero=some z)
 (hsize:i.size=size) (hby:i.bytes=bytes) (hzs:z.cells.size=size) (hsz:0<size)
 (v:Value) (n:Nat) (xs:List Value) (hs:a.eval s=v) (hown:w.ownsRow base e size v n xs)
 (ad:Addr) (m c:Nat) (news:List Value) (hx:a.eval x=.slice (some ad) m c) (hl:news.length=m*size) (hnews:∀ j u,news[j]?=some u→w.cell? (ad.add j)=some u) (h1:∀ u∈news,u.oneCell'=true)
 (h63:n+m≤maxLen) (hbytes:(n+m)*bytes≤140737488355328) (hbase:base≤w.heap.size)
 (h:∀ v' w',w'.ownsRow base e size v' (n+m) (xs++news)→w.grownBy w' v.ownBlock→(v'.ownBlock=v.ownBlock∨v'.ownBlock=some w.heap.size)→wpList P ops Q rest (a.put o.dst v') w'):wpList P ops Q (o::rest) a w :=
 wpList_plain hgd fun _ hK=>by
  obtain⟨v',w',hrun,h2,h3,_,h4⟩:=run_append_own_at (P:=P) w base t o.type e i z size bytes ht hi hz hsize hby hzs hsz v n xs hown ad m c news hl hnews h1 h63 hbytes hbase
  unfold Oper.wp execOp
  simp only [ho,resolve,invoke,builtin,Sem.run_bind,Sem.run_pure,Result.andThen_ok,List.map_toArray,List.map_cons,List.map_nil,hs,hx,hrun]
  exact hK _ _ (h v' w' h2 h3 h4)
end Go.Proofs.YtkpnheenacchhaaGreatDoor
