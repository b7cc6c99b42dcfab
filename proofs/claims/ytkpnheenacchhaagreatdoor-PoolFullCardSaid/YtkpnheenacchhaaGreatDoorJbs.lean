/- gather.Each at stamps: of those that fit the first of each, ascending. -/
import Derived.Test.YtkpnheenacchhaaGreatDoorJzz
import Derived.Laws.MakeOwn
import Derived.Test.YtkpnheenacchhaaGreatDoorJbr
import Derived.Test.YtkpnheenacchhaaGreatDoorJbp
import Derived.Test.YtkpnheenacchhaaGreatDoorJbb
set_option linter.unusedSimpArgs false
set_option linter.unusedVariables false
namespace Go.Proofs.YtkpnheenacchhaaGreatDoor
open Go.RowKit Go.Maps
theorem qG (S:SP):Array.foldl (fun(cs:Array Value) (x:Value × Nat)=>cs.setIfInBounds x.snd x.fst) (zS24) S.C.zipIdx 0 24=S.C:=qE _ _ _ _ _ _ _ _ _
theorem st_inf:(Tryz.prog.info? 157).map (fun i=>(i.zero,i.size,i.bytes))=some (some (.agg (#[.int .u64 0,.int .i64 0,.int .i64 0,.int .i64 0,.int .i64 0,.int .u64 0,.int .u64 0,.int .u64 0,.int .u64 0,.int .u64 0,.int .u64 0,.int .u64 0,.int .u64 0,.int .u64 0,.int .u64 0,.int .u64 0,.int .u64 0,.int .u64 0,.int .u64 0,.int .u64 0,.int .u64 0,.int .u64 0,.int .u64 0,.slice none 0 0]:Array Value)),24,208):=by kernel_rfl
theorem km (w:World) (cs:Array Value) (t:TypeId) (j:Nat) (u:Value) (h:cs.toList[j]?=some u):(w.alloc (.cells cs t)).cell? ((⟨w.heap.size,0,none⟩:Addr).add j)=some u:=by
 rw [add0]
 simpa using (Ag.new w t cs).cell j u h
theorem jL (L:List SP) (S:SP):(spL (L++[S])).flatten=(spL L).flatten++S.C.toList:=by rw [kl,List.flatten_append];simp [spL]
theorem qH {w:World} {base n:Nat} {e:TypeId} {v:Value} {L:List SP} (h:w.ownsRow base e 24 v n (spL L).flatten) (hn:L.length=n) :
 ∃ A c,v=.slice A n c∧RdC w A 24 (spL L)∧n≤c∧c≤maxLen∧∀ ad,A=some ad→base≤ad.block∧ad.block<w.heap.size:=qB h (spL_z L) (by decide) (by rw [y6];exact hn)
theorem yJ {P:Program} (w:World) {ops:Array Oper} {rest:List Oper} {o:Oper} {a:Act} {Q:Exit→Act→World→Prop} (hgd:o.guard=none) (s x:Operand) (t:TypeId)
 (ho:o.op=.call { callee:=.builtin .append,args:=#[s,x],argTypes:=#[t,t] })
 (base:Nat) (e:TypeId) (i:TypeInfo) (z:Value) (size bytes:Nat) (ht:P.underlying t=some (.slice e)) (hi:P.info? e=some i) (hz:i.zero=some z)
 (hsize:i.size=size) (hby:i.bytes=bytes) (hzs:z.cells.size=size) (hsz:0<size)
 (v:Value) (n:Nat) (xs:List Value) (hs:a.eval s=v) (hown:w.ownsRow base e size v n xs)
 (ad:Addr) (m c:Nat) (news:List Value) (hx:a.eval x=.slice (some ad) m c) (hl:news.length=m*size) (hnews:∀ j u,news[j]?=some u→w.cell? (ad.add j)=some u) (h1:∀ u∈news,u.oneCell'=true)
 (h63:n+m≤maxLen) (hbytes:(n+m)*bytes≤140737488355328) (hbase:base≤w.heap.size)
 (h:∀ v' w',w'.ownsRow base e size v' (n+m) (xs++news)→w.grownBy w' v.ownBlock→(v'.ownBlock=v.ownBlock∨v'.ownBlock=some w.heap.size)→wpList P ops Q rest (a.put o.dst v') w'):wpList P ops Q (o::rest) a w :=
 wpList_plain hgd fun _ hK=>by
  obtain⟨v',w',hrun,h2,h3,_,h4⟩:=run_append_own_at (P:=P) w base t o.type e i z size bytes ht hi hz hsize hby hzs hsz v n xs hown ad m c news hl hnews h1 h63 hbytes hbase
  unfold Oper.wp execOp
  simp only [ho,resolve,invoke,builtin,Sem.run_bind,Sem.run_pure,Result.andThen_ok,List.map_toArray,List.map_cons,List.map_nil,hs,hx,hrun]
  exact hK _ _ (h v' w' h2 h3 h4)
theorem qI {w:World} {base n:Nat} {e:TypeId} {v:Value} {xs:List Value} (h:w.ownsRow base e 1 v n xs) :
 ∃ A c,v=.slice A n c∧Rd w w.heap.size A xs∧n≤c∧∀ ad,A=some ad→base≤ad.block∧ad.block<w.heap.size:=by
 obtain⟨A,c,rfl,hc,hl,hr⟩:=zG h
 exact⟨A,c,rfl,hr,hc,fun ad e=>by subst e;exact zl h ad.block rfl⟩
theorem jM {w w':World} {A:Option Addr} {xs:List Value} {row:Option Nat} (h:Rd w w.heap.size A xs) (k:w.grownBy w' row) (hn:∀ ad,A=some ad→row≠some ad.block):Rd w' w'.heap.size A xs :=
 (h.kp (S:=fun j=>row=some j) (yH (zt _ w) k (fun g hg=>.inl hg)) (Nat.le_refl _) (fun ad e _=>hn ad e)).more k.size
end Go.Proofs.YtkpnheenacchhaaGreatDoor
namespace Go.Proofs.YtkpnheenacchhaaGreatDoor
open Go.RowKit
end Go.Proofs.YtkpnheenacchhaaGreatDoor
