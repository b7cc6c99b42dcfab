/- The rows of laws: for every input the call returns true, and what came in reads as it did. The card: the row's listed variables are tied to the program's text. -/
import Derived.Test.YtidjnnnigcmdpaaGreatDoorCards
import Derived.Test.YtidjnnnigcmdpaaGreatDoorTie
import Derived.Test.YtidjnnnigcmdpaaGreatDoorJbc
import Derived.Test.YtidjnnnigcmdpaaGreatDoorJbu
import Derived.Test.YtidjnnnigcmdpaaGreatDoorJbt
import Derived.Test.YtidjnnnigcmdpaaGreatDoorJbi
set_option maxRecDepth 1000000
set_option linter.unusedSimpArgs false
set_option linter.unusedVariables false
set_option linter.unnecessarySimpa false
namespace Go.Proofs.YtidjnnnigcmdpaaGreatDoor
open Go.ChangeShapes Go.WideShapes Go.ChangeAt Go.RowKit Go.ChangeMaps
theorem qp {H:Type} {enc:TypeId × Value→H} (W:World) (base:Nat) (args:Array Value) (ds:List (DataW H)) (p:List MemPlace)
 (hval:∀(j:Nat) t v,Tryz.f8.params[j]?=some t→args[j]?=some v→Value.okWide Tryz.prog W .any base t v)
 (hA:DataW.TrodAll enc Tryz.prog W 0 (fun _=>true) true Tryz.f8.params.toList args.toList ds p) (hS:Std W) :
 Calls Tryz.prog 8 args W fun e W'=>e=.returned (.bool true)∧Below W.heap.size W W':=by
 rw [Tryz.params8]at hA hval
 obtain⟨v0,vs0,d0,ds0,p0,q0,hargs,rfl,rfl,h0,r0⟩:=trodAll_cons hA
 obtain⟨v1,vs1,d1,ds1,p1,q1,rfl,rfl,rfl,h1,r1⟩:=trodAll_cons r0
 obtain⟨v2,vs2,d2,ds2,p2,q2,rfl,rfl,rfl,h2,r2⟩:=trodAll_cons r1
 obtain⟨rfl,rfl,rfl⟩:=trodAll_nil r2
 obtain rfl:args=#[v0,v1,v2]:=by cases args;simp_all
 have o0:=zkw (hval 0 24 v0 rfl rfl) h0
 have o1:=zjq (hval 1 106 v1 rfl rfl) h1
 obtain⟨a2,rfl,rfl,rfl,w2⟩:=open_int Tryz.underlying3 (hval 2 3 v2 rfl rfl) h2
 have w2:=wf_i64 w2
 obtain⟨f,h,RA,Rc,R,rfl,hf,hh,hRc,hRm,hrR,hRb⟩:=o0
 obtain⟨A,c,L,rfl,hLc,hLm,hrd,hraw⟩:=o1
 exact zdb ⟨f,R,RA,Rc,h⟩ hRb A c L a2 W hS hrR hrd hraw (Nat.le_trans hLc hLm)
theorem zan (os:Os) (started:os.Started) (H:Type) (enc:TypeId × Value→H) (F:Stop.Interp) :
 ReturnsInHanded {} Tryz.checked os 8 .any ((OpenSpec.ofChange Rows.viewAnySpec).preRow enc Tryz.prog Tryz.f8 Rows.viewAnyRow.domain false Rows.viewAnyRow.laid) (((OpenSpec.ofChange Rows.viewAnySpec).at F).post enc Tryz.prog Tryz.f8 false true false false):=by
 have hx:∃ places,DataW.whole enc Tryz.prog ((laidWorld os).forCall (fun _ _=>0) ⟨#[],#[.agg #[.int .i64 0,.slice none 0 0,.int .i64 0],.slice none 0 0,.int .i64 0],[]⟩).memory Tryz.f8.params.toList Rows.viewAnySpec.vars false (#[.agg #[.int .i64 0,.slice none 0 0,.int .i64 0],.slice none 0 0,.int .i64 0]:Array Value).toList 8=some ([.agg [.lit (.int .i64 0),.nil,.lit (.int .i64 0)],.nil,.lit (.int .i64 0)],[],places):=⟨[],by kernel_rfl⟩
 obtain⟨places,hx⟩:=hx
 exact zig (s:=Rows.viewAnySpec) (tb:=4) #[.agg #[.int .i64 0,.slice none 0 0,.int .i64 0],.slice none 0 0,.int .i64 0] [] [] started (by kernel_rfl) Tryz.func8 (by kernel_rfl) (by kernel_rfl) (by kernel_rfl)
  (OpenSpec.preRow_of_cond 8 hx (by kernel_rfl) (fun k hk=>by cases hk) (by kernel_rfl) (zif os _)) (by kernel_rfl) (by kernel_rfl) Tryz.underlying4 rfl (fun ds h=>by match ds,h with | [_,_,_],_=>rfl)
  (fun W base args ds p hval hA hS=>qp W base args ds p hval hA hS)
theorem zfm:false=Rows.viewAnyRow.goesBy Tryz.pinned.checked.prog:=by kernel_rfl
end Go.Proofs.YtidjnnnigcmdpaaGreatDoor
