/- The rows of laws: for every input the call returns true, and what came in reads as it did. The card: the row's listed variables are tied to the program's text. -/
import Derived.Test.YtidjnnnigcmdpaaGreatDoorCards
import Derived.Test.YtidjnnnigcmdpaaGreatDoorTie
import Derived.Test.YtidjnnnigcmdpaaGreatDoorJbc
import Derived.Test.YtidjnnnigcmdpaaGreatDoorJbu
import Derived.Test.YtidjnnnigcmdpaaGreatDoorJbp
import Derived.Test.YtidjnnnigcmdpaaGreatDoorJbk
set_option maxRecDepth 1000000
set_option linter.unusedSimpArgs false
set_option linter.unusedVariables false
set_option linter.unnecessarySimpa false
namespace Go.Proofs.YtidjnnnigcmdpaaGreatDoor
open Go.ChangeShapes Go.WideShapes Go.ChangeAt Go.RowKit Go.ChangeMaps
theorem jV {H:Type} {enc:TypeId × Value→H} (W:World) (base:Nat) (args:Array Value) (ds:List (DataW H)) (p:List MemPlace)
 (hval:∀(j:Nat) t v,Tryz.f4.params[j]?=some t→args[j]?=some v→Value.okWide Tryz.prog W .any base t v)
 (hA:DataW.TrodAll enc Tryz.prog W 0 (fun _=>true) true Tryz.f4.params.toList args.toList ds p) (hS:Std W) :
 Calls Tryz.prog 4 args W fun e W'=>e=.returned (.bool true)∧Below W.heap.size W W':=by
 rw [Tryz.params4]at hA hval
 obtain⟨v0,vs0,d0,ds0,p0,q0,hargs,rfl,rfl,h0,r0⟩:=trodAll_cons hA
 obtain⟨v1,vs1,d1,ds1,p1,q1,rfl,rfl,rfl,h1,r1⟩:=trodAll_cons r0
 obtain⟨v2,vs2,d2,ds2,p2,q2,rfl,rfl,rfl,h2,r2⟩:=trodAll_cons r1
 obtain⟨v3,vs3,d3,ds3,p3,q3,rfl,rfl,rfl,h3,r3⟩:=trodAll_cons r2
 obtain⟨rfl,rfl,rfl⟩:=trodAll_nil r3
 obtain rfl:args=#[v0,v1,v2,v3]:=by cases args;simp_all
 have o0:=zjk (hval 0 24 v0 rfl rfl) h0
 have o1:=zej (hval 1 26 v1 rfl rfl) h1
 obtain⟨a2,rfl,rfl,rfl,w2⟩:=open_int Tryz.underlying3 (hval 2 3 v2 rfl rfl) h2
 have w2:=wf_i64 w2
 obtain⟨a3,rfl,rfl,rfl,w3⟩:=open_int Tryz.underlying25 (hval 3 25 v3 rfl rfl) h3
 have w3:=zfi w3
 obtain⟨f,h,RA,Rc,R,rfl,hf,hh,hRc,hRm,hrR,hRb⟩:=o0
 obtain⟨A,c,L,rfl,hLc,hLm,hrd,hok,hat⟩:=o1
 obtain⟨d,rfl⟩:=Int.eq_ofNat_of_zero_le w3.1
 exact zci ⟨f,R,RA,Rc,h⟩ hRb A c L a2 w2 d (by have:=w3.2;omega) W hS hrR hrd hok hat
theorem qT (os:Os) (started:os.Started) (H:Type) (enc:TypeId × Value→H) (F:Stop.Interp) :
 ReturnsInHanded {} Tryz.checked os 4 .any ((OpenSpec.ofChange Rows.voteAnySpec).preRow enc Tryz.prog Tryz.f4 Rows.voteAnyRow.domain false Rows.voteAnyRow.laid) (((OpenSpec.ofChange Rows.voteAnySpec).at F).post enc Tryz.prog Tryz.f4 false true false false):=by
 have hx:∃ places,DataW.whole enc Tryz.prog ((laidWorld os).forCall (fun _ _=>0) ⟨#[],#[.agg #[.int .i64 0,.slice none 0 0,.int .i64 0],.slice none 0 0,.int .i64 0,.int .u64 0],[]⟩).memory Tryz.f4.params.toList Rows.voteAnySpec.vars false (#[.agg #[.int .i64 0,.slice none 0 0,.int .i64 0],.slice none 0 0,.int .i64 0,.int .u64 0]:Array Value).toList 8=some ([.agg [.lit (.int .i64 0),.nil,.lit (.int .i64 0)],.nil,.lit (.int .i64 0),.lit (.int .u64 0)],[],places):=⟨[],by kernel_rfl⟩
 obtain⟨places,hx⟩:=hx
 exact zhr (s:=Rows.voteAnySpec) (tb:=4) #[.agg #[.int .i64 0,.slice none 0 0,.int .i64 0],.slice none 0 0,.int .i64 0,.int .u64 0] [] [] started (by kernel_rfl) Tryz.func4 (by kernel_rfl) (by kernel_rfl) (by kernel_rfl)
  (OpenSpec.preRow_of_cond 8 hx (by kernel_rfl) (fun k hk=>by cases hk) (by kernel_rfl) (zhq os _)) (by kernel_rfl) (by kernel_rfl) Tryz.underlying4 rfl (fun ds h=>by match ds,h with | [_,_,_,_],_=>rfl)
  (fun W base args ds p hval hA hS=>jV W base args ds p hval hA hS)
theorem zex:false=Rows.voteAnyRow.goesBy Tryz.pinned.checked.prog:=by kernel_rfl
end Go.Proofs.YtidjnnnigcmdpaaGreatDoor
