/- Rows whose elements are several cells: copy; a row with one put in. -/
import Derived.Lib.AppendZerosOnto
import Derived.Lib.Overlaps
import Derived.Laws.CopyRow
import Derived.Test.YtkpnheenacchhaaGreatDoorJao
set_option linter.unusedSimpArgs false
set_option linter.unusedVariables false
namespace Go.Proofs.YtkpnheenacchhaaGreatDoor
open Go.RowKit
set_option linter.unnecessarySimpa false
theorem zB {P:Program} (w:World) (dT sT ty elem:TypeId) (g o dLen dCap:Nat) (a:Addr) (sLen sCap z:Nat) (cur:Array Value) (t:TypeId) (cs:List Value)
 (hu:P.underlying dT=some (.slice elem)) (hs:(P.info? elem).map (·.size)=some z)
 (hg:w.heap[g]?=some (.cells cur t (0,0))) (m:Nat) (hm:m=Nat.min sLen dLen) (hn:cs.length=m*z)
 (hsrc:∀ j v,cs[j]?=some v→w.cell? (a.add j)=some v) (hfit:o+cs.length≤cur.size) (h1:∀ v∈cs,v.oneCell'=true) :
 (Builtin.copy_ #[dT,sT] ty #[.slice (some ⟨g,o,none⟩) dLen dCap,.slice (some a) sLen sCap]).run P w =
  .ok (goInt m) (w.setRow g (cur.toList.take o++cs++cur.toList.drop (o+cs.length)).toArray):=by
 have hl:=run_loadCells_list (P:=P) w a cs hsrc
 have hst:=run_storeCells_at P g o t cs 0 cur w hg (by simpa using hfit) h1
 cases hq:P.info? elem with
 | none=>simp [hq]at hs
 | some i =>
  have hi:i.size=z:=by simpa [hq]using hs
  simp [Builtin.copy_,run_underlying hu,Builtin.lenOf,Builtin.firstCells,sizeOf,typeInfo,hq,hi,←hm,←hn,hl,hst]
theorem xM (w:World) (g:Nat) (cs:Array Value):(w.setRow g cs).heap.size=w.heap.size:=by simp [World.setRow]
theorem z8 (w:World) (g:Nat) (cs:Array Value):Kp (fun b=>b=g) w (w.setRow g cs):=by
 refine⟨rfl,rfl,rfl,by rw [xM];exact Nat.le_refl _,fun i hi hn=>?_⟩
 have hne:g≠i:=fun e=>hn e.symm
 simp [World.setRow,Array.getElem?_modify,hne]
theorem zI {P:Program} (w:World) {ops:Array Oper} {rest:List Oper} {o:Oper} {a:Act} {Q:Exit→Act→World→Prop} (hgd:o.guard=none) (d s:Operand) (t t':TypeId)
 (ho:o.op=.call { callee:=.builtin .copy,args:=#[d,s],argTypes:=#[t,t'] }) (v u:Value) (hd:a.eval d=v) (hs:a.eval s=u) {v':Value} {w':World}
 (hr:(Builtin.copy_ #[t,t'] o.type #[v,u]).run P w=.ok v' w') (h:wpList P ops Q rest (a.put o.dst v') w'):wpList P ops Q (o::rest) a w :=
 wpList_plain hgd fun _ hK=>by
  unfold Oper.wp execOp
  simp only [ho,resolve,invoke,builtin,Sem.run_bind,Sem.run_pure,Result.andThen_ok,List.map_toArray,List.map_cons,List.map_nil,hd,hs,hr]
  exact hK _ _ h
def insL (L:List (List Value)) (i:Nat) (x:List Value):List (List Value):=L.take i++x::L.drop i
theorem xb (L:List (List Value)) (i:Nat) (x:List Value):(insL L i x).flatten=(L.take i).flatten++x++(L.drop i).flatten:=by simp [insL]
theorem jp (L:List (List Value)) (x:List Value):insL L L.length x=L++[x]:=by simp [insL]
theorem ym {z:Nat}:∀(L:List (List Value)) (i:Nat),(∀ l∈L,l.length=z)→i≤L.length→L.flatten.take (i*z)=(L.take i).flatten
 | L,0,_,_=>by simp
 | [],i+1,_,h=>by simp at h
 | l::r,i+1,hz,h=>by
  have hl:=hz l (by simp)
  have e:(i+1)*z=l.length+i*z:=by rw [hl,Nat.add_mul];omega
  rw [List.flatten_cons,e,List.take_length_add_append,List.take_succ_cons,List.flatten_cons,ym r i (fun x hx=>hz x (by simp [hx])) (by simpa using h)]
theorem yn {z:Nat}:∀(L:List (List Value)) (i:Nat),(∀ l∈L,l.length=z)→i≤L.length→L.flatten.drop (i*z)=(L.drop i).flatten
 | L,0,_,_=>by simp
 | [],i+1,_,h=>by simp at h
 | l::r,i+1,hz,h=>by
  have hl:=hz l (by simp)
  have e:(i+1)*z=l.length+i*z:=by rw [hl,Nat.add_mul];omega
  rw [List.flatten_cons,e,List.drop_length_add_append,List.drop_succ_cons,yn r i (fun x hx=>hz x (by simp [hx])) (by simpa using h)]
theorem zP {z:Nat} (L:List (List Value)) (i:Nat) (hz:∀ l∈L,l.length=z) (h:i≤L.length):(L.take i).flatten.length=i*z:=by
 rw [zQ _ (fun l hl=>hz l (List.mem_of_mem_take hl)),List.length_take,Nat.min_eq_left h]
theorem zC {z:Nat} (L:List (List Value)) (i:Nat) (hz:∀ l∈L,l.length=z):(L.drop i).flatten.length=(L.length-i)*z:=by
 rw [zQ _ (fun l hl=>hz l (List.mem_of_mem_drop hl)),List.length_drop]
theorem jq {z:Nat} (L:List (List Value)) (i n:Nat) (x cur:List Value) (hz:∀ l∈L,l.length=z) (hx:x.length=z) (hn:L.length=n) (hi:i≤n) (hc:(n+1)*z≤cur.length) (ht:cur.take (n*z)=L.flatten) :
 let c1:=cur.take ((i+1)*z)++(L.drop i).flatten++cur.drop ((i+1)*z+(L.drop i).flatten.length)
 (c1.take (i*z)++x++c1.drop (i*z+x.length)).take ((n+1)*z)=(insL L i x).flatten∧c1.length=cur.length∧(c1.take (i*z)++x++c1.drop (i*z+x.length)).length=cur.length:=by
 have hdl:=zC L i hz
 rw [hn]at hdl
 have e1:(i+1)*z=i*z+z:=by rw [Nat.add_mul];omega
 have e2:(n+1)*z=n*z+z:=by rw [Nat.add_mul];omega
 have e3:(n-i)*z+i*z=n*z:=by rw [←Nat.add_mul];congr 1;omega
 intro c1
 have hl1:c1.length=cur.length:=by
  simp only [c1,List.length_append,List.length_take,List.length_drop,hdl]
  omega
 have ht1:c1.take (i*z)=(L.take i).flatten:=by
  simp only [c1]
  rw [List.append_assoc,List.take_append_of_le_length (by rw [List.length_take];omega),List.take_take,Nat.min_eq_left (by omega)]
  rw [←ym L i hz (by omega),←ht,List.take_take,Nat.min_eq_left (by omega)]
 have hd1:(c1.drop (i*z+x.length)).take ((n-i)*z)=(L.drop i).flatten:=by
  simp only [c1]
  rw [List.append_assoc,List.drop_append,List.drop_eq_nil_of_le (by rw [List.length_take];omega),List.nil_append,List.length_take,show i*z+x.length-min ((i+1)*z) cur.length=0 by omega,List.drop_zero,List.take_append_of_le_length (by omega),←hdl,List.take_length]
 refine⟨?_,hl1,?_⟩
 ·rw [xb,ht1]
  have htl:=zP L i hz (by omega)
  rw [show(n+1)*z=((L.take i).flatten++x).length+(n-i)*z by rw [List.length_append,htl,hx];omega,List.take_length_add_append,hd1]
 ·simp only [List.length_append,List.length_take,List.length_drop,hl1,hx]
  omega
theorem jr {z:Nat} (L:List (List Value)) (i n:Nat) (x Z:List Value) (hz:∀ l∈L,l.length=z) (hx:x.length=z) (hn:L.length=n) (hi:i≤n) (hZ:(n+1-i)*z≤Z.length) :
 let c0:=(L.take i).flatten++Z
 let c1:=c0.take (i*z)++x++c0.drop (i*z+x.length)
 (c1.take ((i+1)*z)++(L.drop i).flatten++c1.drop ((i+1)*z+(L.drop i).flatten.length)).take ((n+1)*z)=(insL L i x).flatten∧c1.length=c0.length∧(c1.take ((i+1)*z)++(L.drop i).flatten++c1.drop ((i+1)*z+(L.drop i).flatten.length)).length=c0.length:=by
 have hdl:=zC L i hz
 rw [hn]at hdl
 have htl:=zP L i hz (by omega)
 have e1:(i+1)*z=i*z+z:=by rw [Nat.add_mul];omega
 have e2:(n+1)*z=n*z+z:=by rw [Nat.add_mul];omega
 have e3:(n-i)*z+i*z=n*z:=by rw [←Nat.add_mul];congr 1;omega
 have e4:(n+1-i)*z=(n-i)*z+z:=by rw [show n+1-i=(n-i)+1 by omega,Nat.add_mul];omega
 intro c0 c1
 have hl0:c0.length=i*z+Z.length:=by simp only [c0,List.length_append,htl]
 have ht0:c0.take (i*z)=(L.take i).flatten:=by simp only [c0];rw [←htl,List.take_left]
 have hl1:c1.length=c0.length:=by
  simp only [c1,List.length_append,List.length_take,List.length_drop,hl0,hx]
  omega
 have ht1:c1.take ((i+1)*z)=(L.take i).flatten++x:=by
  simp only [c1]
  rw [ht0,show(i+1)*z=((L.take i).flatten++x).length by rw [List.length_append,htl,hx];omega,List.take_left]
 refine⟨?_,hl1,?_⟩
 ·rw [xb,ht1,show(n+1)*z=((L.take i).flatten++x++(L.drop i).flatten).length by rw [List.length_append,List.length_append,htl,hx,hdl];omega,List.take_left]
 ·simp only [List.length_append,List.length_take,List.length_drop,hl1,hdl]
  omega
end Go.Proofs.YtkpnheenacchhaaGreatDoor
