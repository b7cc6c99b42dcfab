/- Structs that came in, opened: signatures, stamps, keys. -/
import Derived.Deep.Fields
import Derived.Laws.Rows
import Derived.OpenShut
import Derived.Test.YtidjnnnigcmdpaaGreatDoorJay
import Derived.Test.YtidjnnnigcmdpaaGreatDoorJae
import Derived.Test.YtidjnnnigcmdpaaGreatDoorJbe
import Derived.Test.YtidjnnnigcmdpaaGreatDoorJbh
set_option maxRecDepth 100000
set_option linter.unusedSimpArgs false
set_option linter.unusedVariables false
set_option linter.unnecessarySimpa false
namespace Go.Proofs.YtidjnnnigcmdpaaGreatDoor
open Go.ChangeShapes Go.WideShapes Go.RowKit Go.Deep
section
variable {H : Type} {enc : TypeId × Value → H} {P : Program} {W : World}
theorem jq {z:Int} (h:(Lit.int .u64 z).wf=true):∃ m:Nat,z=(m:Int)∧m<18446744073709551616:=by
 have:=wf_u64 h
 exact⟨z.toNat,by omega,by omega⟩
theorem za0 {n:Nat} {t e:TypeId} {cs:List Value} {x:DataW H × List MemPlace} (ht:P.underlying t=some (.slice e)) (he:P.underlying e=some (.int .u64)) (hC:P.cellsOf e=1)
 (h:DataW.trod enc P W 0 (fun _=>true) true n t cs=some x) :
 ∃(A:Option Addr) (c:Nat) (l:List Nat),cs=[.slice A l.length c]∧l.length≤c∧c≤maxLen∧Rd W W.heap.size A (u64L l)∧∀ z∈l,z<18446744073709551616:=by
 rcases Deep.open_slice1 ht hC h with ⟨rfl,_⟩ | ⟨a,len,cap,m,n,V,D,Pl,rfl,hb,hl,hm,hmm,hx,hV⟩
 ·exact⟨none,0,[],rfl,Nat.le_refl _,Nat.zero_le _,fun k hk=>absurd hk (by simp [u64L]),by simp⟩
 ·have hlm:len≤m:=by rw [hmm];split<;>omega
  obtain⟨L,hL⟩:=choose_lt (α:=Nat) (n:=len) (p:=fun i z=>W.cell? (a.add i)=some (.int .u64 (z:Int))∧z<18446744073709551616) (fun i hi=>by
   obtain⟨h1,h2⟩:=hV i (by omega)
   obtain⟨z,hz1,_,hz2⟩:=DataW.trod_int he h2
   injection hz1 with hz1
   obtain⟨y,rfl,hy⟩:=jq hz2
   exact⟨y,by rw [h1,hz1],hy⟩)
  refine⟨some a,cap,(List.range len).map L,by simp,by simpa using hl,hm,?_,?_⟩
  ·intro k hk
   have hk':k<len:=by simpa [u64L]using hk
   obtain⟨h5,_⟩:=hL k hk'
   refine⟨a,rfl,?_,by rw [h5];simp [u64L]⟩
   rcases Nat.lt_or_ge a.block W.heap.size with h' | h'
   ·exact h'
   ·have:W.heap[(a.add k).block]?=none:=by rw [zv];exact Array.getElem?_eq_none h'
    simp only [World.cell?,this]at h5
    cases h5
  ·intro z hz
   obtain⟨i,hi,rfl⟩:=List.mem_map.1 hz
   exact(hL i (by simpa using hi)).2
theorem ze6 {n:Nat} {t e:TypeId} {cs:List Value} {x:DataW H × List MemPlace} (ht:P.underlying t=some (.array 18 e)) (he:P.underlying e=some (.int .u64)) (hC:P.cellsOf e=1) (hT:P.cellsOf t=18)
 (h:DataW.trod enc P W 0 (fun _=>true) true n t cs=some x):∃ s:Nat→Nat,cs=(List.range 18).map (fun k=>u64V (s k))∧∀ k,k<18→s k<18446744073709551616:=by
 obtain⟨xs,m,_,_,hl,hlen,hh⟩:=DataW.trod_array ht h
 rw [hT]at hl
 obtain⟨s,hs⟩:=choose_lt (α:=Nat) (n:=18) (p:=fun i z=>cs[i]?=some (u64V z)∧z<18446744073709551616) (fun i hi=>by
  have h1:=hh i hi
  rw [hC,Nat.mul_one]at h1
  have hd:(cs.drop i).take 1=[cs[i]'(by omega)]:=by
   rw [List.drop_eq_getElem_cons (by omega)]
   rfl
  rw [hd]at h1
  have hne:xs[i]?=some (xs[i]'(by omega)):=List.getElem?_eq_getElem (by omega)
  obtain⟨z,hz1,_,hz2⟩:=DataW.trod_int he (h1.trans hne)
  injection hz1 with hz1
  obtain⟨y,rfl,hy⟩:=jq hz2
  exact⟨y,by rw [List.getElem?_eq_getElem (by omega),hz1];rfl,hy⟩)
 refine⟨s,?_,fun k hk=>(hs k hk).2⟩
 refine List.ext_getElem? fun i=>?_
 rcases Nat.lt_or_ge i 18 with hi | hi
 ·rw [(hs i hi).1];simp [hi]
 ·rw [List.getElem?_eq_none (by omega),List.getElem?_eq_none (by simpa using hi)]
theorem yh {α:Type} (l:List α) (a b:Nat):l.drop a=(l.drop a).take b++l.drop (a+b):=by
 rw [←List.drop_drop,List.take_append_drop]
end
section
variable {H : Type} {enc : TypeId × Value → H} {W : World}
theorem zb9 {n:Nat} {cs:List Value} {x:DataW H × List MemPlace} (h:DataW.trod enc Tryz.prog W 0 (fun _=>true) true n 73 cs=some x) :
 ∃(who lf:Int) (s:Nat→Nat) (A:Option Addr) (c:Nat) (l:List Nat),cs=(sgC who lf s (.slice A l.length c)).toList∧in64 who∧in64 lf∧(∀ k,k<18→s k<18446744073709551616)∧l.length≤c∧c≤maxLen ∧
  Rd W W.heap.size A (u64L l)∧∀ z∈l,z<18446744073709551616:=by
 obtain⟨xs,m,_,_,hl,hlen,hh⟩:=DataW.trod_struct Tryz.underlying73 h
 rw [show Tryz.prog.cellsOf 73=21 by kernel_rfl]at hl
 have ci:Tryz.prog.cellsOf 3=1:=by kernel_rfl
 have ca:Tryz.prog.cellsOf 71=18:=by kernel_rfl
 have cu:Tryz.prog.cellsOf 25=1:=by kernel_rfl
 have cl:Tryz.prog.cellsOf 22=1:=by kernel_rfl
 obtain⟨y0,y1,y2,y3,rfl⟩:∃ a b c d,xs=[a,b,c,d]:=by
  match xs,(show xs.length=4 from hlen)with
  | [a,b,c,d],_=>exact⟨a,b,c,d,rfl⟩
 have h0:DataW.trod enc Tryz.prog W 0 (fun _=>true) true m 3 ((cs.drop 0).take (Tryz.prog.cellsOf 3))=_:=hh 0 _ rfl
 have h1:DataW.trod enc Tryz.prog W 0 (fun _=>true) true m 3 ((cs.drop 1).take (Tryz.prog.cellsOf 3))=_:=hh 1 _ rfl
 have h2:DataW.trod enc Tryz.prog W 0 (fun _=>true) true m 71 ((cs.drop 2).take (Tryz.prog.cellsOf 71))=_:=hh 2 _ rfl
 have h3:DataW.trod enc Tryz.prog W 0 (fun _=>true) true m 22 ((cs.drop 20).take (Tryz.prog.cellsOf 22))=_:=hh 3 _ rfl
 simp only [ci,ca,cl,List.getElem?_cons_zero,List.getElem?_cons_succ]at h0 h1 h2 h3
 obtain⟨who,e0,_,i0⟩:=DataW.trod_int Tryz.underlying3 h0
 obtain⟨lf,e1,_,i1⟩:=DataW.trod_int Tryz.underlying3 h1
 obtain⟨s,e2,hs⟩:=ze6 Tryz.underlying71 Tryz.underlying25 cu ca h2
 obtain⟨A,c,l,e3,hc,hm,hr,hz⟩:=za0 Tryz.underlying22 Tryz.underlying25 cu h3
 refine⟨who,lf,s,A,c,l,?_,wf_i64 i0,wf_i64 i1,hs,hc,hm,hr,hz⟩
 have k0:=yh cs 0 1
 have k1:=yh cs 1 1
 have k2:=yh cs 2 18
 have k3:=yh cs 20 1
 rw [e0]at k0
 rw [e1]at k1
 rw [e2]at k2
 rw [e3,show cs.drop (20+1)=[] from List.drop_eq_nil_of_le (by omega)]at k3
 rw [show 2+18=20 from rfl,k3]at k2
 rw [show 1+1=2 from rfl,k2]at k1
 rw [show 0+1=1 from rfl,k1]at k0
 rw [List.drop_zero]at k0
 rw [k0]
 rfl
theorem zkw {r:Reach} {b0:Nat} {v:Value} {d:DataW H} {ps:List MemPlace} (hv:Value.okWide Tryz.prog W r b0 24 v) (h:DataW.Trod enc Tryz.prog W 0 (fun _=>true) true 24 v d ps) :
 ∃(f h:Int) (A:Option Addr) (c:Nat) (R:List Nat),v=.agg (kyS f A R.length c h)∧in64 f∧in64 h∧R.length≤c∧c≤maxLen∧Rd W W.heap.size A (u64L R)∧∀ z∈R,z<18446744073709551616:=by
 obtain⟨cs,rfl,hsz⟩:=okWide_struct Tryz.underlying24 hv
 obtain⟨fuel,hf⟩:=h
 obtain⟨xs,m,_,_,hl,hlen,hh⟩:=DataW.trod_struct Tryz.underlying24 hf
 rw [show Tryz.prog.cellsOf 24=3 by kernel_rfl]at hl
 have ci:Tryz.prog.cellsOf 3=1:=by kernel_rfl
 have cu:Tryz.prog.cellsOf 25=1:=by kernel_rfl
 have cl:Tryz.prog.cellsOf 22=1:=by kernel_rfl
 obtain⟨y0,y1,y2,rfl⟩:∃ a b c,xs=[a,b,c]:=by
  match xs,(show xs.length=3 from hlen)with
  | [a,b,c],_=>exact⟨a,b,c,rfl⟩
 have h0:DataW.trod enc Tryz.prog W 0 (fun _=>true) true m 3 (((Value.agg cs).cells.toList.drop 0).take (Tryz.prog.cellsOf 3))=_:=hh 0 _ rfl
 have h1:DataW.trod enc Tryz.prog W 0 (fun _=>true) true m 22 (((Value.agg cs).cells.toList.drop 1).take (Tryz.prog.cellsOf 22))=_:=hh 1 _ rfl
 have h2:DataW.trod enc Tryz.prog W 0 (fun _=>true) true m 3 (((Value.agg cs).cells.toList.drop 2).take (Tryz.prog.cellsOf 3))=_:=hh 2 _ rfl
 simp only [ci,cl,List.getElem?_cons_zero,List.getElem?_cons_succ]at h0 h1 h2
 obtain⟨f,e0,_,i0⟩:=DataW.trod_int Tryz.underlying3 h0
 obtain⟨A,c,R,e1,hc,hm,hr,hz⟩:=za0 Tryz.underlying22 Tryz.underlying25 cu h1
 obtain⟨hh2,e2,_,i2⟩:=DataW.trod_int Tryz.underlying3 h2
 refine⟨f,hh2,A,c,R,?_,wf_i64 i0,wf_i64 i2,hc,hm,hr,hz⟩
 have hag:(Value.agg cs).cells.toList=cs.toList:=rfl
 rw [hag]at hl e0 e1 e2
 obtain⟨cl⟩:=cs
 have k0:=yh cl 0 1
 have k1:=yh cl 1 1
 have k2:=yh cl 2 1
 rw [e0]at k0
 rw [e1]at k1
 rw [e2,show cl.drop (2+1)=[] from List.drop_eq_nil_of_le (by have:cl.length=3:=hl;omega)]at k2
 rw [show 1+1=2 from rfl,k2]at k1
 rw [show 0+1=1 from rfl,k1]at k0
 rw [List.drop_zero]at k0
 rw [k0]
 rfl
end
end Go.Proofs.YtidjnnnigcmdpaaGreatDoor
