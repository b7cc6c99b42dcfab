/- A command that came in, opened. -/
import Derived.Lib.SmallJoins
import Derived.Test.YtpppegnojmnicaaGreatDoorProg
import Derived.Test.YtpppegnojmnicaaGreatDoorUau
import Derived.Test.YtpppegnojmnicaaGreatDoorUay
import Derived.Test.YtpppegnojmnicaaGreatDoorUbt
import Derived.Test.YtpppegnojmnicaaGreatDoorCards
import Derived.Test.YtpppegnojmnicaaGreatDoorTie
import Derived.Test.YtpppegnojmnicaaGreatDoorUaz
import Derived.Test.YtpppegnojmnicaaGreatDoorUbu
set_option linter.unusedSimpArgs false
set_option linter.unusedVariables false
namespace Go.Proofs.YtpppegnojmnicaaGreatDoor
open Go.RowKit Go.ChangeShapes Go.WideShapes Go.ChangeMaps Go.Joins
theorem array5 {α:Type} {cs:Array α} (h:cs.size=5):∃ c0 c1 c2 c3 c4,cs=#[c0,c1,c2,c3,c4]:=by
 obtain ⟨l⟩:=cs
 match l,h with
 | [c0,c1,c2,c3,c4],_=>exact ⟨c0,c1,c2,c3,c4,rfl⟩
theorem list5 {α:Type} {cs:List α} (h:cs.length=5):∃ c0 c1 c2 c3 c4,cs=[c0,c1,c2,c3,c4]:=by
 match cs,h with
 | [c0,c1,c2,c3,c4],_=>exact ⟨c0,c1,c2,c3,c4,rfl⟩
set_option maxRecDepth 100000 in
theorem zn3 {H:Type} {enc:TypeId × Value→H} {W:World} {r:Reach} {b0:Nat} {v:Value} {d:DataW H} {ps:List MemPlace}
 (hv:Value.okWide Tryz.prog W r b0 26 v) (h:DataW.Trod enc Tryz.prog W 0 (fun _=>true) true 26 v d ps):∃ c:Cm,v=c.v∧c.in:=by
 obtain ⟨cs,rfl,hsz⟩:=okWide_struct Tryz.underlying26 hv
 obtain ⟨c0,c1,c2,c3,c4,rfl⟩:=array5 (hsz.trans (show Tryz.prog.cellsOf 26=5 by kernel_rfl))
 obtain ⟨fuel,hf⟩:=h
 obtain ⟨xs,n,_,_,hl,hlen,hh⟩:=DataW.trod_struct Tryz.underlying26 hf
 obtain ⟨y0,y1,y2,y3,y4,rfl⟩:=list5 (show xs.length=5 from hlen)
 have ci:Tryz.prog.cellsOf 3=1:=by kernel_rfl
 have cj:Tryz.prog.cellsOf 2=1:=by kernel_rfl
 have h0:=hh 0 _ rfl
 have h1:=hh 1 _ rfl
 have h2:=hh 2 _ rfl
 have h3:=hh 3 _ rfl
 have h4:=hh 4 _ rfl
 simp [Value.cells,ci,cj] at h0 h1 h2 h3 h4
 obtain ⟨n0,e0,_,i0⟩:=DataW.trod_int Tryz.underlying3 h0
 obtain ⟨n1,e1,_,i1⟩:=DataW.trod_int Tryz.underlying3 h1
 obtain ⟨n2,e2,_,i2⟩:=DataW.trod_int Tryz.underlying3 h2
 obtain ⟨n3,e3,_,i3⟩:=DataW.trod_int Tryz.underlying3 h3
 obtain ⟨n4,e4,_,i4⟩:=DataW.trod_int Tryz.underlying2 h4
 simp only [List.cons.injEq,and_true] at e0 e1 e2 e3 e4
 subst e0 e1 e2 e3 e4
 exact ⟨⟨n0,n1,n2,n3,n4⟩,rfl,Cm.in_of (wf_i64 i0) (wf_i64 i1) (wf_i64 i2) (wf_i64 i3) (wf_i64 i4)⟩
end Go.Proofs.YtpppegnojmnicaaGreatDoor
namespace Go.Proofs.YtpppegnojmnicaaGreatDoor
open Go.ChangeShapes Go.WideShapes Go.ChangeAt Go.RowKit Go.ChangeMaps
set_option maxRecDepth 100000 in
theorem jR {H:Type} {enc:TypeId × Value→H} (W:World) (base:Nat) (args:Array Value) (ds:List (DataW H)) (p:List MemPlace)
 (hval:∀ (j:Nat) t v,Tryz.f4.params[j]?=some t→args[j]?=some v→Value.okWide Tryz.prog W .any base t v)
 (hA:DataW.TrodAll enc Tryz.prog W 0 (fun _=>true) true Tryz.f4.params.toList args.toList ds p) (hS:Std W) :
 Calls Tryz.prog 4 args W fun e W'=>e=.returned (.bool true)∧Below W.heap.size W W':=by
 rw [Tryz.params4] at hA hval
 obtain ⟨v0,vs0,d0,ds0,p0,q0,hargs,rfl,rfl,h0,r0⟩:=trodAll_cons hA
 obtain ⟨v1,vs1,d1,ds1,p1,q1,rfl,rfl,rfl,h1,r1⟩:=trodAll_cons r0
 obtain ⟨v2,vs2,d2,ds2,p2,q2,rfl,rfl,rfl,h2,r2⟩:=trodAll_cons r1
 obtain ⟨rfl,rfl,rfl⟩:=trodAll_nil r2
 obtain rfl:args=#[v0,v1,v2]:=by cases args;simp_all
 have o0:=zp5 (hval 0 24 v0 rfl rfl) h0
 have o1:=zn3 (hval 1 26 v1 rfl rfl) h1
 have o2:=zn2 (hval 2 27 v2 rfl rfl) h2
 obtain ⟨f,h,RA,Rc,R,rfl,hf,hh,hRc,hRm,hrR,hRb⟩:=o0
 obtain ⟨cm,rfl,hcm⟩:=o1
 obtain ⟨A,c,L,rfl,hLc,hLm,hrd,hok,hat⟩:=o2
 exact zc1 ⟨f,R,RA,Rc,h⟩ hRb cm A c L W hS hrR hrd hok hat
set_option maxRecDepth 1000000 in
theorem zab (os:Os) (started:os.Started) (H:Type) (enc:TypeId × Value→H) (F:Stop.Interp) :
 ReturnsInHanded {} Tryz.checked os 4 .any ((OpenSpec.ofChange Rows.certMakesSpec).preRow enc Tryz.prog Tryz.f4 Rows.certMakesRow.domain false Rows.certMakesRow.laid) (((OpenSpec.ofChange Rows.certMakesSpec).at F).post enc Tryz.prog Tryz.f4 false true false false):=by
 have hx:∃ places,DataW.whole enc Tryz.prog ((laidWorld os).forCall (fun _ _=>0) ⟨#[],#[.agg #[.int .i64 0,.slice none 0 0,.int .i64 0],.agg #[.int .i64 0,.int .i64 0,.int .i64 0,.int .i64 0,.int .i64 0],.slice none 0 0],[]⟩).memory Tryz.f4.params.toList Rows.certMakesSpec.vars false (#[.agg #[.int .i64 0,.slice none 0 0,.int .i64 0],.agg #[.int .i64 0,.int .i64 0,.int .i64 0,.int .i64 0,.int .i64 0],.slice none 0 0]:Array Value).toList 8=some ([.agg [.lit (.int .i64 0),.nil,.lit (.int .i64 0)],.agg [.lit (.int .i64 0),.lit (.int .i64 0),.lit (.int .i64 0),.lit (.int .i64 0),.lit (.int .i64 0)],.nil],[],places):=⟨[],by kernel_rfl⟩
 obtain ⟨places,hx⟩:=hx
 exact zms (s:=Rows.certMakesSpec) (tb:=4) #[.agg #[.int .i64 0,.slice none 0 0,.int .i64 0],.agg #[.int .i64 0,.int .i64 0,.int .i64 0,.int .i64 0,.int .i64 0],.slice none 0 0] [] [] started (by kernel_rfl) Tryz.func4 (by kernel_rfl) (by kernel_rfl) (by kernel_rfl)
  (OpenSpec.preRow_of_cond 8 hx (by kernel_rfl) (fun k hk=>by cases hk) (by kernel_rfl) (zmr os _)) (by kernel_rfl) (by kernel_rfl) Tryz.underlying4 rfl (fun ds h=>by match ds,h with | [_,_,_],_=>rfl)
  (fun W base args ds p hval hA hS=>jR W base args ds p hval hA hS)
theorem zem:false=Rows.certMakesRow.goesBy Tryz.pinned.checked.prog:=by kernel_rfl
end Go.Proofs.YtpppegnojmnicaaGreatDoor
