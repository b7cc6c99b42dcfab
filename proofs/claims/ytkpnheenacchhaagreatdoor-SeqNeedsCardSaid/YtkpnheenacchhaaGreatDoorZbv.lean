/- The rows of laws: for every input the call returns true, and what came in reads as it did. The card: the row's listed variables are tied to the program's text. -/
import Derived.Test.YtkpnheenacchhaaGreatDoorCards
import Derived.Test.YtkpnheenacchhaaGreatDoorTie
import Derived.Test.YtkpnheenacchhaaGreatDoorZbb
import Derived.Test.YtkpnheenacchhaaGreatDoorZbu
set_option maxRecDepth 1000000
set_option linter.unusedSimpArgs false
set_option linter.unusedVariables false
namespace Go.Proofs.YtkpnheenacchhaaGreatDoor
open Go.ChangeShapes Go.WideShapes Go.ChangeAt Go.RowKit Go.ChangeMaps
theorem jp {H:Type} {enc:TypeId × Value→H} (W:World) (base:Nat) (args:Array Value) (ds:List (DataW H)) (p:List MemPlace)
 (hval:∀(j:Nat) t v,Tryz.f8.params[j]?=some t→args[j]?=some v→Value.okWide Tryz.prog W .any base t v)
 (hA:DataW.TrodAll enc Tryz.prog W 0 (fun _=>true) true Tryz.f8.params.toList args.toList ds p) (hS:Std W) :
 Calls Tryz.prog 8 args W fun e W'=>e=.returned (.bool true)∧Below W.heap.size W W':=by
 rw [Tryz.params8]at hA hval
 obtain⟨v0,vs0,d0,ds0,p0,q0,hargs,rfl,rfl,h0,r0⟩:=trodAll_cons hA
 obtain⟨v1,vs1,d1,ds1,p1,q1,rfl,rfl,rfl,h1,r1⟩:=trodAll_cons r0
 obtain⟨rfl,rfl,rfl⟩:=trodAll_nil r1
 obtain rfl:args=#[v0,v1]:=by cases args;simp_all
 obtain⟨a0,rfl,rfl,rfl,w0⟩:=open_int Tryz.underlying65 (hval 0 65 v0 rfl rfl) h0
 have w0:=wf_u64 w0
 obtain⟨A1,c1,l1,rfl,hl1,hc1,hr1,hz1⟩:=zbn Tryz.underlying120 Tryz.underlying5 (by kernel_rfl) (hval 1 120 v1 rfl rfl) h1
 exact zco a0 ⟨w0.1,by omega⟩ A1 c1 l1 hl1 (fun x hx=>by have:=wf_u8 (hz1 x hx);exact⟨this.1,by omega⟩) W hS hr1
theorem qC (os:Os) (started:os.Started) (H:Type) (enc:TypeId × Value→H) (F:Stop.Interp) :
 ReturnsInHanded {} Tryz.checked os 8 .any ((OpenSpec.ofChange Rows.seqNeedsSpec).preRow enc Tryz.prog Tryz.f8 Rows.seqNeedsRow.domain false Rows.seqNeedsRow.laid) (((OpenSpec.ofChange Rows.seqNeedsSpec).at F).post enc Tryz.prog Tryz.f8 false true false false):=by
 have hx:∃ places,DataW.whole enc Tryz.prog ((laidWorld os).forCall (fun _ _=>0) ⟨#[],#[.int .u64 0,.slice none 0 0],[]⟩).memory Tryz.f8.params.toList Rows.seqNeedsSpec.vars false (#[.int .u64 0,.slice none 0 0]:Array Value).toList 8=some ([.lit (.int .u64 0),.nil],[],places):=⟨[],by kernel_rfl⟩
 obtain⟨places,hx⟩:=hx
 exact zjg (s:=Rows.seqNeedsSpec) (tb:=4) #[.int .u64 0,.slice none 0 0] [] [] started (by kernel_rfl) Tryz.func8 (by kernel_rfl) (by kernel_rfl) (by kernel_rfl)
  (OpenSpec.preRow_of_cond 8 hx (by kernel_rfl) (fun k hk=>by cases hk) (by kernel_rfl) (zjf os _)) (by kernel_rfl) (by kernel_rfl) Tryz.underlying4 rfl (fun ds h=>by match ds,h with | [_,_],_=>rfl)
  (fun W base args ds p hval hA hS=>jp W base args ds p hval hA hS)
theorem zdg:false=Rows.seqNeedsRow.goesBy Tryz.pinned.checked.prog:=by kernel_rfl
end Go.Proofs.YtkpnheenacchhaaGreatDoor
