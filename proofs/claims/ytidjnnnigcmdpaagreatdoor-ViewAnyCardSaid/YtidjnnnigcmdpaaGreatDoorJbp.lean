/- A pool that is empty: keep, Range. -/
import Derived.Test.YtidjnnnigcmdpaaGreatDoorJzz
import Derived.Laws.MakeOwn
import Derived.Test.YtidjnnnigcmdpaaGreatDoorJas
import Derived.Test.YtidjnnnigcmdpaaGreatDoorJbk
set_option maxHeartbeats 1000000
set_option maxRecDepth 100000
set_option linter.unusedSimpArgs false
set_option linter.unusedVariables false
set_option linter.unnecessarySimpa false
namespace Go.Proofs.YtidjnnnigcmdpaaGreatDoor
open Go.RowKit
theorem em_row {w:World} {base:Nat} {e:TypeId} {size:Nat} {v:Value} (h:w.ownsRow base e size v 0 []):∃ A c,v=.slice A 0 c∧(∀ ad,A=some ad→base≤ad.block):=by
 rcases h.2 with ⟨rfl,_⟩ | ⟨g,cap,cur,rfl,hb,_⟩
 ·exact⟨none,0,rfl,fun ad h=>by cases h⟩
 ·exact⟨_,_,rfl,fun ad h=>by cases h;exact hb⟩
theorem ziw {p base:Nat} {room fl:Int} (F:Value) (w:World) (h:PlS w p base room fl (.slice none 0 0) []) :
 Calls Tryz.prog 217 #[.pointer (some ⟨p,2,none⟩),F] w fun e w'=>e=.returned (.slice none 0 0)∧Grew w w':=by
 have hc:=h.c3
 clear h
 go_enter Tryz.func217,Tryz.ntmps217
 go_wp2_with fail
 clear hc
 go_loopw [5,13] (fun rv iv wr=>rv=.slice none 0 0∧iv=.int .i64 0∧wr=w) (fun _ _ _=>0)
 case atStart=>exact⟨rfl,rfl,rfl⟩
 case round =>
  obtain⟨rfl,rfl,rfl⟩:=hrel
  go_wp2_with fail
  go_ret
  exact⟨rfl,zc _⟩
theorem zk5:(Tryz.prog.info? 175).map (fun i=>(i.zero,i.size,i.bytes))=some (some (.agg (#[.int .i64 0,.int .i64 0,.int .i64 0,.int .i64 0,.int .i64 0,.slice none 0 0]:Array Value)),6,64):=by kernel_rfl
theorem zix (A:Option Addr) (c:Nat) (F:Value) (w:World):Calls Tryz.prog 216 #[.slice A 0 c,F] w fun e w'=>∃ B k,e=.returned (.slice B 0 k)∧Grew w w':=by
 obtain⟨i0,hi,hz0,hz1,hz2⟩:=info_parts zk5
 obtain⟨w1,hmk,hown1,hgrow1⟩:=run_make_own (P:=Tryz.prog) w w.heap.size 57 175 i0 (.agg (zS6:Array Value)) 6 Tryz.underlying57 hi hz0 hz1 .i64 .i64 0 (by rw [hz2];omega) (by unfold maxLen;omega) (Nat.le_refl _)
 have hg1:Grew w w1:=(Below.refl _ w).grown hgrow1 (Nat.le_refl _) (fun j hj=>by cases hj)
 obtain⟨B,k,hB,_⟩:=em_row hown1
 rw [hB,show((0:Nat):Int)=0 from rfl]at hmk
 clear hgrow1 hown1 hB hz0 hz1 hz2 hi
 go_enter Tryz.func216,Tryz.ntmps216
 go_wp2_with fail
 clear hmk
 go_loopw [5,13] (fun rv iv wr=>rv=.slice B 0 k∧iv=.int .i64 0∧wr=w1) (fun _ _ _=>0)
 case atStart=>exact⟨rfl,rfl,rfl⟩
 case round =>
  obtain⟨rfl,rfl,rfl⟩:=hrel
  go_wp2_with fail
  go_ret
  exact⟨B,k,rfl,hg1⟩
theorem zfg {p base:Nat} {room fl:Int} (lo hi:Int) (w:World) (h:PlS w p base room fl (.slice none 0 0) []) :
 Calls Tryz.prog 167 #[.pointer (some ⟨p,0,none⟩),.int .i64 lo,.int .i64 hi] w fun e w'=>∃ B k,e=.returned (.slice B 0 k)∧Grew w w':=by
 have HP:=hQ9 h
 clear h
 go_enter Tryz.func167,Tryz.ntmps167
 go_wp2_with fail
 have G0:=zg (zg (zc w) (.cells #[.int .i64 lo] 2)) (.cells #[.int .i64 hi] 2)
 refine(ziw _ _ (HP.out.gr G0)).mono ?_
 rintro e w1 ⟨rfl,g1⟩
 have G1:=ze G0 g1
 clear G0 g1
 go_wp2_with fail
 refine(zix none 0 _ w1).mono ?_
 rintro e w2 ⟨B,k,rfl,g2⟩
 have G2:=ze G1 g2
 clear G1 g2
 go_wp2_with fail
 go_ret
 exact⟨B,k,rfl,G2⟩
end Go.Proofs.YtidjnnnigcmdpaaGreatDoor
