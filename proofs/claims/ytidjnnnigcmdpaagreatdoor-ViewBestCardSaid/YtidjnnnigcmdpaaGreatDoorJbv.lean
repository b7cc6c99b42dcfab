/- The rows of laws: for every input the call returns true, and what came in reads as it did. The card: the row's listed variables are tied to the program's text. -/
import Derived.Test.YtidjnnnigcmdpaaGreatDoorCards
import Derived.Test.YtidjnnnigcmdpaaGreatDoorTie
import Derived.Test.YtidjnnnigcmdpaaGreatDoorJax
import Derived.Test.YtidjnnnigcmdpaaGreatDoorJbu
set_option maxRecDepth 1000000
set_option linter.unusedSimpArgs false
set_option linter.unusedVariables false
set_option linter.unnecessarySimpa false
namespace Go.Proofs.YtidjnnnigcmdpaaGreatDoor
open Go.ChangeShapes Go.WideShapes Go.ChangeAt Go.RowKit Go.ChangeMaps
theorem kz {H:Type} {enc:TypeId × Value→H} (W:World) (base:Nat) (args:Array Value) (ds:List (DataW H)) (p:List MemPlace)
 (hval:∀(j:Nat) t v,Tryz.f11.params[j]?=some t→args[j]?=some v→Value.okWide Tryz.prog W .any base t v)
 (hA:DataW.TrodAll enc Tryz.prog W 0 (fun _=>true) true Tryz.f11.params.toList args.toList ds p) (hS:Std W) :
 Calls Tryz.prog 11 args W fun e W'=>e=.returned (.bool true)∧Below W.heap.size W W':=by
 rw [Tryz.params11]at hA hval
 obtain⟨v0,vs0,d0,ds0,p0,q0,hargs,rfl,rfl,h0,r0⟩:=trodAll_cons hA
 obtain⟨v1,vs1,d1,ds1,p1,q1,rfl,rfl,rfl,h1,r1⟩:=trodAll_cons r0
 obtain⟨v2,vs2,d2,ds2,p2,q2,rfl,rfl,rfl,h2,r2⟩:=trodAll_cons r1
 obtain⟨rfl,rfl,rfl⟩:=trodAll_nil r2
 obtain rfl:args=#[v0,v1,v2]:=by cases args;simp_all
 obtain⟨a0,rfl,rfl,rfl,w0⟩:=open_int Tryz.underlying25 (hval 0 25 v0 rfl rfl) h0
 have w0:=wf_u64 w0
 obtain⟨a1,rfl,rfl,rfl,w1⟩:=open_int Tryz.underlying5 (hval 1 5 v1 rfl rfl) h1
 have w1:=wf_u8 w1
 obtain⟨A2,c2,l2,rfl,hl2,hc2,hr2,hz2⟩:=qO Tryz.underlying136 Tryz.underlying5 (by kernel_rfl) (hval 2 136 v2 rfl rfl) h2
 exact zai a0 ⟨w0.1,by omega⟩ a1 w1 A2 c2 l2 hl2 (fun x hx=>by have:=wf_u8 (hz2 x hx);exact⟨this.1,by omega⟩) W hS hr2
theorem jD (os:Os) (started:os.Started) (H:Type) (enc:TypeId × Value→H) (F:Stop.Interp) :
 ReturnsInHanded {} Tryz.checked os 11 .any ((OpenSpec.ofChange Rows.viewBestSpec).preRow enc Tryz.prog Tryz.f11 Rows.viewBestRow.domain false Rows.viewBestRow.laid) (((OpenSpec.ofChange Rows.viewBestSpec).at F).post enc Tryz.prog Tryz.f11 false true false false):=by
 have hx:∃ places,DataW.whole enc Tryz.prog ((laidWorld os).forCall (fun _ _=>0) ⟨#[],#[.int .u64 0,.int .u8 0,.slice none 0 0],[]⟩).memory Tryz.f11.params.toList Rows.viewBestSpec.vars false (#[.int .u64 0,.int .u8 0,.slice none 0 0]:Array Value).toList 8=some ([.lit (.int .u64 0),.lit (.int .u8 0),.nil],[],places):=⟨[],by kernel_rfl⟩
 obtain⟨places,hx⟩:=hx
 exact zfh (s:=Rows.viewBestSpec) (tb:=4) #[.int .u64 0,.int .u8 0,.slice none 0 0] [] [] started (by kernel_rfl) Tryz.func11 (by kernel_rfl) (by kernel_rfl) (by kernel_rfl)
  (OpenSpec.preRow_of_cond 8 hx (by kernel_rfl) (fun k hk=>by cases hk) (by kernel_rfl) (zfg os _)) (by kernel_rfl) (by kernel_rfl) Tryz.underlying4 rfl (fun ds h=>by match ds,h with | [_,_,_],_=>rfl)
  (fun W base args ds p hval hA hS=>kz W base args ds p hval hA hS)
theorem za1:false=Rows.viewBestRow.goesBy Tryz.pinned.checked.prog:=by kernel_rfl
end Go.Proofs.YtidjnnnigcmdpaaGreatDoor
