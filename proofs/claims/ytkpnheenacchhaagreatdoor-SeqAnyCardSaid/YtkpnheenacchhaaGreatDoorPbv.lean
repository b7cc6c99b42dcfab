/- A command that came in, opened. -/
import Derived.Lib.SmallJoins
import Derived.Test.YtkpnheenacchhaaGreatDoorProg
import Derived.Test.YtkpnheenacchhaaGreatDoorPau
import Derived.Test.YtkpnheenacchhaaGreatDoorPay
import Derived.Test.YtkpnheenacchhaaGreatDoorPbt
import Derived.Test.YtkpnheenacchhaaGreatDoorCards
import Derived.Test.YtkpnheenacchhaaGreatDoorTie
import Derived.Test.YtkpnheenacchhaaGreatDoorPaz
import Derived.Test.YtkpnheenacchhaaGreatDoorPbu
set_option maxRecDepth 1000000
set_option linter.unusedSimpArgs false
set_option linter.unusedVariables false
namespace Go.Proofs.YtkpnheenacchhaaGreatDoor
open Go.RowKit Go.ChangeShapes Go.WideShapes Go.ChangeMaps Go.Joins
theorem list5 {α:Type} {cs:List α} (h:cs.length=5):∃ c0 c1 c2 c3 c4,cs=[c0,c1,c2,c3,c4]:=by
 match cs,h with
 | [c0,c1,c2,c3,c4],_=>exact⟨c0,c1,c2,c3,c4,rfl⟩
open Go.Deep
section
variable {H : Type} {enc : TypeId × Value → H} {W : World}
theorem zn6 {n:Nat} {cs:List Value} {x:DataW H × List MemPlace} (h:DataW.trod enc Tryz.prog W 0 (fun _=>true) true n 33 cs=some x):∃ c:Cm,cs=c.cells.toList∧c.in:=by
 obtain⟨xs,m,_,_,hl,hlen,hh⟩:=DataW.trod_struct Tryz.underlying33 h
 rw [show Tryz.prog.cellsOf 33=5 by kernel_rfl]at hl
 obtain⟨c0,c1,c2,c3,c4,rfl⟩:=list5 hl
 obtain⟨y0,y1,y2,y3,y4,rfl⟩:=list5 (show xs.length=5 from hlen)
 have ci:Tryz.prog.cellsOf 3=1:=by kernel_rfl
 have cj:Tryz.prog.cellsOf 2=1:=by kernel_rfl
 have h0:=hh 0 _ rfl
 have h1:=hh 1 _ rfl
 have h2:=hh 2 _ rfl
 have h3:=hh 3 _ rfl
 have h4:=hh 4 _ rfl
 simp [ci,cj]at h0 h1 h2 h3 h4
 obtain⟨n0,e0,_,i0⟩:=DataW.trod_int Tryz.underlying3 h0
 obtain⟨n1,e1,_,i1⟩:=DataW.trod_int Tryz.underlying3 h1
 obtain⟨n2,e2,_,i2⟩:=DataW.trod_int Tryz.underlying3 h2
 obtain⟨n3,e3,_,i3⟩:=DataW.trod_int Tryz.underlying3 h3
 obtain⟨n4,e4,_,i4⟩:=DataW.trod_int Tryz.underlying2 h4
 simp only [List.cons.injEq,and_true]at e0 e1 e2 e3 e4
 subst e0 e1 e2 e3 e4
 exact⟨⟨n0,n1,n2,n3,n4⟩,rfl,Cm.in_of (wf_i64 i0) (wf_i64 i1) (wf_i64 i2) (wf_i64 i3) (wf_i64 i4)⟩
theorem zn7 {n:Nat} {cs:List Value} {x:DataW H × List MemPlace} (h:DataW.trod enc Tryz.prog W 0 (fun _=>true) true n 34 cs=some x) :
 ∃(A:Option Addr) (c:Nat) (L:List SP),cs=[.slice A L.length c]∧L.length≤c∧c≤maxLen∧RdG W A L∧(∀ S∈L,S.l.length≤1000→S.ok)∧∀ S∈L,S.at W:=by
 have hC:Tryz.prog.cellsOf 233=24:=by kernel_rfl
 rcases Deep.open_slice Tryz.underlying34 h with ⟨rfl,_⟩ | ⟨a,l,c,m,n,D,Pl,rfl,hb,hl,hm,hmm,hx,hV⟩
 ·exact⟨none,0,[],rfl,Nat.zero_le _,Nat.zero_le _,fun k hk=>absurd hk (by simp),by simp,by simp⟩
 ·have hlm:l≤m:=by rw [hmm];split<;>omega
  have key:∀ i,i<l→∃ S:SP,(∀ j v,S.C.toList[j]?=some v→W.cell? ((a.add (i*24)).add j)=some v)∧(S.l.length≤1000→S.ok)∧S.at W:=by
   intro i hi'
   obtain⟨cs',hc,ht'⟩:=hV i (by omega)
   rw [hC]at hc
   obtain⟨_,hcl,hat⟩:=World.cells?_some hc
   obtain⟨S,rfl,w1,w2⟩:=zp1 ht'
   refine⟨S,fun j v hv=>?_,w1,w2⟩
   have hj:j<24:=(List.getElem?_eq_some_iff.1 hv).1
   have:=hat j (by omega)
   rw [hv]at this
   exact this
  obtain⟨L,hL⟩:=choose_lt (α:=SP) (p:=fun i S=>(∀ j v,S.C.toList[j]?=some v→W.cell? ((a.add (i*24)).add j)=some v)∧(S.l.length≤1000→S.ok)∧S.at W) key
  refine⟨some a,c,(List.range l).map L,by simp,by simpa using hl,hm,?_,?_,?_⟩
  ·intro k hk
   have hk':k<l:=by simpa using hk
   obtain⟨h5,_⟩:=hL k hk'
   refine⟨a,rfl,?_,fun j v hv=>h5 j v (by simpa using hv)⟩
   rcases Nat.lt_or_ge a.block W.heap.size with h' | h'
   ·exact h'
   ·have:W.heap[((a.add (k*24)).add 0).block]?=none:=by rw [zy,zy];exact Array.getElem?_eq_none h'
    have h6:=h5 0 _ rfl
    simp only [World.cell?,this]at h6
    cases h6
  ·intro S hS
   obtain⟨i,hi',rfl⟩:=List.mem_map.1 hS
   exact(hL i (by simpa using hi')).2.1
  ·intro S hS
   obtain⟨i,hi',rfl⟩:=List.mem_map.1 hS
   exact(hL i (by simpa using hi')).2.2
theorem zp8 {r:Reach} {b0:Nat} {v:Value} {d:DataW H} {ps:List MemPlace} (hv:Value.okWide Tryz.prog W r b0 36 v) (h:DataW.Trod enc Tryz.prog W 0 (fun _=>true) true 36 v d ps) :
 ∃(c:Cm) (A:Option Addr) (k:Nat) (L:List SP),v=.agg (ctC c A L.length k)∧c.in∧L.length≤k∧k≤maxLen∧RdG W A L∧(∀ S∈L,S.l.length≤1000→S.ok)∧∀ S∈L,S.at W:=by
 obtain⟨cs,rfl,hsz⟩:=okWide_struct Tryz.underlying36 hv
 obtain⟨fuel,hf⟩:=h
 obtain⟨xs,m,_,_,hl,hlen,hh⟩:=DataW.trod_struct Tryz.underlying36 hf
 rw [show Tryz.prog.cellsOf 36=6 by kernel_rfl]at hl
 have cc:Tryz.prog.cellsOf 33=5:=by kernel_rfl
 have cl:Tryz.prog.cellsOf 34=1:=by kernel_rfl
 obtain⟨y0,y1,rfl⟩:∃ a b,xs=[a,b]:=by
  match xs,(show xs.length=2 from hlen)with
  | [a,b],_=>exact⟨a,b,rfl⟩
 have h0:DataW.trod enc Tryz.prog W 0 (fun _=>true) true m 33 (((Value.agg cs).cells.toList.drop 0).take (Tryz.prog.cellsOf 33))=_:=hh 0 _ rfl
 have h1:DataW.trod enc Tryz.prog W 0 (fun _=>true) true m 34 (((Value.agg cs).cells.toList.drop 5).take (Tryz.prog.cellsOf 34))=_:=hh 1 _ rfl
 simp only [cc,cl,List.getElem?_cons_zero,List.getElem?_cons_succ]at h0 h1
 obtain⟨c,e0,hc⟩:=zn6 h0
 obtain⟨A,k,L,e1,hk,hm,hr,ho,ha⟩:=zn7 h1
 refine⟨c,A,k,L,?_,hc,hk,hm,hr,ho,ha⟩
 have hag:(Value.agg cs).cells.toList=cs.toList:=rfl
 rw [hag]at hl e0 e1
 obtain⟨cl⟩:=cs
 have k0:=yz cl 0 5
 have k1:=yz cl 5 1
 rw [e0]at k0
 rw [e1,show cl.drop (5+1)=[] from List.drop_eq_nil_of_le (by have:cl.length=6:=hl;omega)]at k1
 rw [show 0+5=5 from rfl,k1]at k0
 rw [List.drop_zero]at k0
 rw [k0]
 rfl
end
end Go.Proofs.YtkpnheenacchhaaGreatDoor
namespace Go.Proofs.YtkpnheenacchhaaGreatDoor
open Go.ChangeShapes Go.WideShapes Go.ChangeAt Go.RowKit Go.ChangeMaps
theorem zbi {H:Type} {enc:TypeId × Value→H} (W:World) (base:Nat) (args:Array Value) (ds:List (DataW H)) (p:List MemPlace)
 (hval:∀(j:Nat) t v,Tryz.f7.params[j]?=some t→args[j]?=some v→Value.okWide Tryz.prog W .any base t v)
 (hA:DataW.TrodAll enc Tryz.prog W 0 (fun _=>true) true Tryz.f7.params.toList args.toList ds p) (hS:Std W) :
 Calls Tryz.prog 7 args W fun e W'=>e=.returned (.bool true)∧Below W.heap.size W W':=by
 rw [Tryz.params7]at hA hval
 obtain⟨v0,vs0,d0,ds0,p0,q0,hargs,rfl,rfl,h0,r0⟩:=trodAll_cons hA
 obtain⟨v1,vs1,d1,ds1,p1,q1,rfl,rfl,rfl,h1,r1⟩:=trodAll_cons r0
 obtain⟨v2,vs2,d2,ds2,p2,q2,rfl,rfl,rfl,h2,r2⟩:=trodAll_cons r1
 obtain⟨rfl,rfl,rfl⟩:=trodAll_nil r2
 obtain rfl:args=#[v0,v1,v2]:=by cases args;simp_all
 have o0:=zpy (hval 0 64 v0 rfl rfl) h0
 have o1:=zp8 (hval 1 36 v1 rfl rfl) h1
 have o2:=zn1 (hval 2 102 v2 rfl rfl) h2
 obtain⟨f,h,RA,Rc,R,rfl,hf,hh,hRc,hRm,hrR,hRb⟩:=o0
 obtain⟨cm,CA,ck,LC,rfl,hcm,hLk,hkm,hrc,hokc,hatc⟩:=o1
 obtain⟨A,c,L,rfl,hLc,hLm,hrd,hok,hat⟩:=o2
 exact zjg ⟨f,R,RA,Rc,h⟩ hRb cm hcm CA ck LC A c L W hS hrR hrc hokc hatc hrd hok hat
theorem zdc (os:Os) (started:os.Started) (H:Type) (enc:TypeId × Value→H) (F:Stop.Interp) :
 ReturnsInHanded {} Tryz.checked os 7 .any ((OpenSpec.ofChange Rows.seqAnySpec).preRow enc Tryz.prog Tryz.f7 Rows.seqAnyRow.domain false Rows.seqAnyRow.laid) (((OpenSpec.ofChange Rows.seqAnySpec).at F).post enc Tryz.prog Tryz.f7 false true false false):=by
 have hx:∃ places,DataW.whole enc Tryz.prog ((laidWorld os).forCall (fun _ _=>0) ⟨#[],#[.agg #[.int .i64 0,.slice none 0 0,.int .i64 0],.agg #[.int .i64 0,.int .i64 0,.int .i64 0,.int .i64 0,.int .i64 0,.slice none 0 0],.slice none 0 0],[]⟩).memory Tryz.f7.params.toList Rows.seqAnySpec.vars false (#[.agg #[.int .i64 0,.slice none 0 0,.int .i64 0],.agg #[.int .i64 0,.int .i64 0,.int .i64 0,.int .i64 0,.int .i64 0,.slice none 0 0],.slice none 0 0]:Array Value).toList 8=some ([.agg [.lit (.int .i64 0),.nil,.lit (.int .i64 0)],.agg [.agg [.lit (.int .i64 0),.lit (.int .i64 0),.lit (.int .i64 0),.lit (.int .i64 0),.lit (.int .i64 0)],.nil],.nil],[],places):=⟨[],by kernel_rfl⟩
 obtain⟨places,hx⟩:=hx
 exact zm4 (s:=Rows.seqAnySpec) (tb:=4) #[.agg #[.int .i64 0,.slice none 0 0,.int .i64 0],.agg #[.int .i64 0,.int .i64 0,.int .i64 0,.int .i64 0,.int .i64 0,.slice none 0 0],.slice none 0 0] [] [] started (by kernel_rfl) Tryz.func7 (by kernel_rfl) (by kernel_rfl) (by kernel_rfl)
  (OpenSpec.preRow_of_cond 8 hx (by kernel_rfl) (fun k hk=>by cases hk) (by kernel_rfl) (zm3 os _)) (by kernel_rfl) (by kernel_rfl) Tryz.underlying4 rfl (fun ds h=>by match ds,h with | [_,_,_],_=>rfl)
  (fun W base args ds p hval hA hS=>zbi W base args ds p hval hA hS)
theorem zlr:false=Rows.seqAnyRow.goesBy Tryz.pinned.checked.prog:=by kernel_rfl
end Go.Proofs.YtkpnheenacchhaaGreatDoor
