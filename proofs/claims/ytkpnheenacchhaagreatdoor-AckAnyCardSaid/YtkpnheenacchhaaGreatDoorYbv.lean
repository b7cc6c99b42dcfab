/- The rows of laws: for every input the call returns true, and what came in reads as it did. The card: the row's listed variables are tied to the program's text. -/
import Derived.Test.YtkpnheenacchhaaGreatDoorCards
import Derived.Test.YtkpnheenacchhaaGreatDoorTie
import Derived.Test.YtkpnheenacchhaaGreatDoorYba
import Derived.Test.YtkpnheenacchhaaGreatDoorYbu
import Derived.Test.YtkpnheenacchhaaGreatDoorYbo
set_option maxRecDepth 1000000
set_option linter.unusedSimpArgs false
set_option linter.unusedVariables false
namespace Go.Proofs.YtkpnheenacchhaaGreatDoor
open Go.ChangeShapes Go.WideShapes Go.ChangeAt Go.RowKit Go.ChangeMaps
theorem za8 {H:Type} {enc:TypeId × Value→H} (W:World) (base:Nat) (args:Array Value) (ds:List (DataW H)) (p:List MemPlace)
 (hval:∀(j:Nat) t v,Tryz.f5.params[j]?=some t→args[j]?=some v→Value.okWide Tryz.prog W .any base t v)
 (hA:DataW.TrodAll enc Tryz.prog W 0 (fun _=>true) true Tryz.f5.params.toList args.toList ds p) (hS:Std W) :
 Calls Tryz.prog 5 args W fun e W'=>e=.returned (.bool true)∧Below W.heap.size W W':=by
 rw [Tryz.params5]at hA hval
 obtain⟨v0,vs0,d0,ds0,p0,q0,hargs,rfl,rfl,h0,r0⟩:=trodAll_cons hA
 obtain⟨v1,vs1,d1,ds1,p1,q1,rfl,rfl,rfl,h1,r1⟩:=trodAll_cons r0
 obtain⟨rfl,rfl,rfl⟩:=trodAll_nil r1
 obtain rfl:args=#[v0,v1]:=by cases args;simp_all
 have o0:=zns (hval 0 64 v0 rfl rfl) h0
 have o1:=znt (hval 1 70 v1 rfl rfl) h1
 obtain⟨f,h,RA,Rc,R,rfl,hf,hh,hRc,hRm,hrR,hRb⟩:=o0
 obtain⟨cm,wh,who,lf,s,A,c,l,rfl,hcm,hw,hsw,hlf,hs,hlc,hcx,hr,hz⟩:=o1
 exact zik ⟨f,R,RA,Rc,h⟩ hRb ⟨cm,wh,who,lf,s,A,c,l⟩ (fun hl=>⟨hcm,hw,hsw,hlf,hs,hl,hz⟩) W hr hS hrR
theorem zcv (os:Os) (started:os.Started) (H:Type) (enc:TypeId × Value→H) (F:Stop.Interp) :
 ReturnsInHanded {} Tryz.checked os 5 .any ((OpenSpec.ofChange Rows.ackAnySpec).preRow enc Tryz.prog Tryz.f5 Rows.ackAnyRow.domain false Rows.ackAnyRow.laid) (((OpenSpec.ofChange Rows.ackAnySpec).at F).post enc Tryz.prog Tryz.f5 false true false false):=by
 have hx:∃ places,DataW.whole enc Tryz.prog ((laidWorld os).forCall (fun _ _=>0) ⟨#[],#[.agg #[.int .i64 0,.slice none 0 0,.int .i64 0],.agg #[.int .u64 0,.int .i64 0,.int .i64 0,.int .i64 0,.int .u64 0,.int .u64 0,.int .u64 0,.int .u64 0,.int .u64 0,.int .u64 0,.int .u64 0,.int .u64 0,.int .u64 0,.int .u64 0,.int .u64 0,.int .u64 0,.int .u64 0,.int .u64 0,.int .u64 0,.int .u64 0,.int .u64 0,.int .u64 0,.slice none 0 0]],[]⟩).memory Tryz.f5.params.toList Rows.ackAnySpec.vars false (#[.agg #[.int .i64 0,.slice none 0 0,.int .i64 0],.agg #[.int .u64 0,.int .i64 0,.int .i64 0,.int .i64 0,.int .u64 0,.int .u64 0,.int .u64 0,.int .u64 0,.int .u64 0,.int .u64 0,.int .u64 0,.int .u64 0,.int .u64 0,.int .u64 0,.int .u64 0,.int .u64 0,.int .u64 0,.int .u64 0,.int .u64 0,.int .u64 0,.int .u64 0,.int .u64 0,.slice none 0 0]]:Array Value).toList 8=some ([.agg [.lit (.int .i64 0),.nil,.lit (.int .i64 0)],.agg [.lit (.int .u64 0),.lit (.int .i64 0),.agg [.lit (.int .i64 0),.lit (.int .i64 0),.agg [.lit (.int .u64 0),.lit (.int .u64 0),.lit (.int .u64 0),.lit (.int .u64 0),.lit (.int .u64 0),.lit (.int .u64 0),.lit (.int .u64 0),.lit (.int .u64 0),.lit (.int .u64 0),.lit (.int .u64 0),.lit (.int .u64 0),.lit (.int .u64 0),.lit (.int .u64 0),.lit (.int .u64 0),.lit (.int .u64 0),.lit (.int .u64 0),.lit (.int .u64 0),.lit (.int .u64 0)],.nil]]],[],places):=⟨[],by kernel_rfl⟩
 obtain⟨places,hx⟩:=hx
 exact zlo (s:=Rows.ackAnySpec) (tb:=4) #[.agg #[.int .i64 0,.slice none 0 0,.int .i64 0],.agg #[.int .u64 0,.int .i64 0,.int .i64 0,.int .i64 0,.int .u64 0,.int .u64 0,.int .u64 0,.int .u64 0,.int .u64 0,.int .u64 0,.int .u64 0,.int .u64 0,.int .u64 0,.int .u64 0,.int .u64 0,.int .u64 0,.int .u64 0,.int .u64 0,.int .u64 0,.int .u64 0,.int .u64 0,.int .u64 0,.slice none 0 0]] [] [] started (by kernel_rfl) Tryz.func5 (by kernel_rfl) (by kernel_rfl) (by kernel_rfl)
  (OpenSpec.preRow_of_cond 8 hx (by kernel_rfl) (fun k hk=>by cases hk) (by kernel_rfl) (zln os _)) (by kernel_rfl) (by kernel_rfl) Tryz.underlying4 rfl (fun ds h=>by match ds,h with | [_,_],_=>rfl)
  (fun W base args ds p hval hA hS=>za8 W base args ds p hval hA hS)
theorem zke:false=Rows.ackAnyRow.goesBy Tryz.pinned.checked.prog:=by kernel_rfl
end Go.Proofs.YtkpnheenacchhaaGreatDoor
