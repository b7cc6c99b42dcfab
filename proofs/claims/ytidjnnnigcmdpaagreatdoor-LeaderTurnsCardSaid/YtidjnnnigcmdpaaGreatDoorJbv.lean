/- The rows of laws: for every input the call returns true, and what came in reads as it did. The card: the row's listed variables are tied to the program's text. -/
import Derived.Test.YtidjnnnigcmdpaaGreatDoorCards
import Derived.Test.YtidjnnnigcmdpaaGreatDoorTie
import Derived.Test.YtidjnnnigcmdpaaGreatDoorJaz
import Derived.Test.YtidjnnnigcmdpaaGreatDoorJbu
set_option maxRecDepth 1000000
set_option linter.unusedSimpArgs false
set_option linter.unusedVariables false
set_option linter.unnecessarySimpa false
namespace Go.Proofs.YtidjnnnigcmdpaaGreatDoor
open Go.ChangeShapes Go.WideShapes Go.ChangeAt Go.RowKit Go.ChangeMaps
theorem xO {H:Type} {enc:TypeId × Value→H} (W:World) (base:Nat) (args:Array Value) (ds:List (DataW H)) (p:List MemPlace)
 (hval:∀(j:Nat) t v,Tryz.f9.params[j]?=some t→args[j]?=some v→Value.okWide Tryz.prog W .any base t v)
 (hA:DataW.TrodAll enc Tryz.prog W 0 (fun _=>true) true Tryz.f9.params.toList args.toList ds p) (hS:Std W) :
 Calls Tryz.prog 9 args W fun e W'=>e=.returned (.bool true)∧Below W.heap.size W W':=by
 rw [Tryz.params9]at hA hval
 obtain⟨v0,vs0,d0,ds0,p0,q0,hargs,rfl,rfl,h0,r0⟩:=trodAll_cons hA
 obtain⟨v1,vs1,d1,ds1,p1,q1,rfl,rfl,rfl,h1,r1⟩:=trodAll_cons r0
 obtain⟨rfl,rfl,rfl⟩:=trodAll_nil r1
 obtain rfl:args=#[v0,v1]:=by cases args;simp_all
 obtain⟨a0,rfl,rfl,rfl,w0⟩:=open_int Tryz.underlying5 (hval 0 5 v0 rfl rfl) h0
 have w0:=wf_u8 w0
 obtain⟨a1,rfl,rfl,rfl,w1⟩:=open_int Tryz.underlying126 (hval 1 126 v1 rfl rfl) h1
 have w1:=wf_u16 w1
 exact jy a0 w0 a1 w1 W hS
theorem kb (os:Os) (started:os.Started) (H:Type) (enc:TypeId × Value→H) (F:Stop.Interp) :
 ReturnsInHanded {} Tryz.checked os 9 .any ((OpenSpec.ofChange Rows.leaderTurnsSpec).preRow enc Tryz.prog Tryz.f9 Rows.leaderTurnsRow.domain false Rows.leaderTurnsRow.laid) (((OpenSpec.ofChange Rows.leaderTurnsSpec).at F).post enc Tryz.prog Tryz.f9 false true false false):=by
 have hx:∃ places,DataW.whole enc Tryz.prog ((laidWorld os).forCall (fun _ _=>0) ⟨#[],#[.int .u8 0,.int .u16 0],[]⟩).memory Tryz.f9.params.toList Rows.leaderTurnsSpec.vars false (#[.int .u8 0,.int .u16 0]:Array Value).toList 8=some ([.lit (.int .u8 0),.lit (.int .u16 0)],[],places):=⟨[],by kernel_rfl⟩
 obtain⟨places,hx⟩:=hx
 exact ze4 (s:=Rows.leaderTurnsSpec) (tb:=4) #[.int .u8 0,.int .u16 0] [] [] started (by kernel_rfl) Tryz.func9 (by kernel_rfl) (by kernel_rfl) (by kernel_rfl)
  (OpenSpec.preRow_of_cond 8 hx (by kernel_rfl) (fun k hk=>by cases hk) (by kernel_rfl) (ze3 os _)) (by kernel_rfl) (by kernel_rfl) Tryz.underlying4 rfl (fun ds h=>by match ds,h with | [_,_],_=>rfl)
  (fun W base args ds p hval hA hS=>xO W base args ds p hval hA hS)
theorem jV:false=Rows.leaderTurnsRow.goesBy Tryz.pinned.checked.prog:=by kernel_rfl
end Go.Proofs.YtidjnnnigcmdpaaGreatDoor
