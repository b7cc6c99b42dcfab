/- The reference's ParseNum. -/
import Derived.Test.YtidjnnnigcmdpaaGreatDoorJzz
import Derived.Deep.DeepCutAuto
import Derived.Deep.CutBlock
import Derived.Test.YtidjnnnigcmdpaaGreatDoorJax
import Derived.Test.YtidjnnnigcmdpaaGreatDoorJan
import Derived.Test.YtidjnnnigcmdpaaGreatDoorJbd
import Derived.Test.YtidjnnnigcmdpaaGreatDoorJag
import Derived.Laws.MakeOwn
import Derived.RegionTactic
import Derived.BigRegion
import Derived.Test.YtidjnnnigcmdpaaGreatDoorJaq
import Derived.Test.YtidjnnnigcmdpaaGreatDoorJaj
import Derived.LoopN
import Derived.Test.YtidjnnnigcmdpaaGreatDoorJba
import Derived.Test.YtidjnnnigcmdpaaGreatDoorJbe
import Derived.Test.YtidjnnnigcmdpaaGreatDoorJbb
set_option maxHeartbeats 1000000
set_option maxRecDepth 100000
set_option linter.unusedSimpArgs false
set_option linter.unusedVariables false
set_option linter.unnecessarySimpa false
namespace Go.Proofs.YtidjnnnigcmdpaaGreatDoor
open Go.RowKit
def tw (n:Int):Int:=wrap64 (2*n)
/-! parts: between commas -/
theorem Rd.grew {w w':World} {A:Option Addr} {xs:List Value} (h:Rd w w.heap.size A xs) (hb:Grew w w'):Rd w' w'.heap.size A xs:=(h.below hb).more hb.size
theorem zc2 (vw:Int) (cm:Nat) (hc:cm<18446744073709551616) (hw:in64 vw) (w:World) :
 Calls Tryz.prog 38 #[.int .i64 vw,.int .u64 (cm:Nat)] w fun e w'=>e=.returned (.string ⟨(voW vw cm).toArray⟩)∧Grew w w':=by
 have hlen:=jn vw cm hw
 have c0:=fun W=>zbp (cm:Nat) ⟨by omega,by omega⟩ W
 simp only [Int.toNat_natCast]at c0
 have C0:=hQ9 c0
 have C1:=hQ9 (fun W=>jk vw hw.1 hw.2 W)
 have CJ:Hid (∀(A4:Option Addr) (W:World),Rd W W.heap.size A4 (strL [⟨#[118,111,116,101]⟩,⟨(Lib.itoa vw).toArray⟩,⟨(hexL cm).toArray⟩])→Calls Tryz.prog 90 #[.slice A4 3 3] W fun e w'=>e=.returned (.string ⟨(voW vw cm).toArray⟩)∧Grew W w'):=hQ9 (fun A4 W hR=>by
  have:=zbw A4 3 [⟨#[118,111,116,101]⟩,⟨(Lib.itoa vw).toArray⟩,⟨(hexL cm).toArray⟩] (by simp) (by simp only [voW]at hlen;simp [bys,tagVote]at hlen ⊢;omega) W hR
  simpa [bys,voW,tagVote]using this)
 clear hc hw hlen c0
 generalize (⟨(voW vw cm).toArray⟩:ByteArray)=tj at *
 generalize (⟨(hexL cm).toArray⟩:ByteArray)=t0 at *
 generalize (⟨(Lib.itoa vw).toArray⟩:ByteArray)=t1 at *
 go_enter Tryz.func38,Tryz.ntmps38
 go_wp2_with fail
 refine(C1.out w).mono ?_
 rintro e w1 ⟨rfl,g1⟩
 go_wp2_with fail
 refine(C0.out w1).mono ?_
 rintro e w2 ⟨rfl,gg⟩
 have g2:=ze g1 gg
 clear g1 gg
 go_wp2_with fail
 refine(CJ.out _ _ (ji w2 _ #[.string ⟨#[118,111,116,101]⟩,.string t1,.string t0])).mono ?_
 rintro e w4 ⟨rfl,gg⟩
 have g4:=ze (zg g2 _) gg
 clear g2 gg
 go_wp2_with fail
 go_ret
 exact⟨rfl,g4⟩
theorem zb8 (vw:Int) (cm:Nat) (hc:cm<18446744073709551616) (hw:in64 vw) (w:World) :
 Calls Tryz.prog 36 #[.int .i64 vw,.int .u64 (cm:Nat)] w fun e w'=>e=.returned (.int .u64 (voD vw cm:Nat))∧Grew w w':=by
 have CW:=hQ9 (zc2 vw cm hc hw w)
 have CH:=hQ9 (fun W=>zat ⟨#[118,111,116,101]⟩ ⟨(voW vw cm).toArray⟩ (by decide) (by have:=jn vw cm hw;simp [ByteArray.size];omega) W)
 have e1:sumL (⟨#[118,111,116,101]⟩:ByteArray).data.toList (⟨(voW vw cm).toArray⟩:ByteArray).data.toList=voD vw cm:=by simp [voD,tagVote]
 rw [e1]at CH
 clear e1 hc hw
 generalize voD vw cm=d at *
 generalize (⟨(voW vw cm).toArray⟩:ByteArray)=tj at *
 go_enter Tryz.func36,Tryz.ntmps36
 go_wp2_with fail
 refine(CW.out).mono ?_
 rintro e w1 ⟨rfl,g1⟩
 go_wp2_with fail
 refine(CH.out w1).mono ?_
 rintro e w2 ⟨rfl,g2⟩
 go_wp2_with fail
 go_ret
 exact⟨rfl,ze g1 g2⟩
end Go.Proofs.YtidjnnnigcmdpaaGreatDoor
