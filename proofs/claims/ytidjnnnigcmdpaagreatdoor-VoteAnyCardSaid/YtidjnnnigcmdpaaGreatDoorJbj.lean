/- The reference's SameVote of two that are alike (mkvrs.py). -/
import Derived.Test.YtidjnnnigcmdpaaGreatDoorJzz
import Derived.Test.YtidjnnnigcmdpaaGreatDoorJbi
set_option maxHeartbeats 1000000
set_option maxRecDepth 100000
set_option linter.unusedSimpArgs false
set_option linter.unusedVariables false
set_option linter.unnecessarySimpa false
namespace Go.Proofs.YtidjnnnigcmdpaaGreatDoor
open Go.RowKit
theorem zee (vw:Int) (cm:Nat) (who sw lf:Int) (s:Nat→Nat) (A A':Option Addr) (c c':Nat) (l:List Nat) (hl:l.length≤1048576) (w:World) (hr:Rd w w.heap.size A (u64L l)) (hr':Rd w w.heap.size A' (u64L l)) :
 Calls Tryz.prog 105 #[.agg (voC vw cm who sw lf s (.slice A l.length c)),.agg (voC vw cm who sw lf s (.slice A' l.length c'))] w fun e w'=>e=.returned (.bool true)∧Grew w w':=by
 have z1:=(Ag.new w 75 (voC vw cm who sw lf s (.slice A l.length c))).grew (ze (za _) (.cells (voC vw cm who sw lf s (.slice A' l.length c')) 75))
 have z2:=Ag.new (w.alloc (.cells (voC vw cm who sw lf s (.slice A l.length c)) 75)) 75 (voC vw cm who sw lf s (.slice A' l.length c'))
 rw [zl]at z2
 have G0:=ze (ze (za w) (.cells (voC vw cm who sw lf s (.slice A l.length c)) 75)) (.cells (voC vw cm who sw lf s (.slice A' l.length c')) 75)
 have r1:=hr.gr G0
 have r2:=hr'.gr G0
 have hus:=Tryz.underlying73
 have HL1:Hid ((Tryz.prog.info? 73).map (·.size)=some (sgC sw lf s (.slice A l.length c)).toList.length):=hQ9 xh
 have HL2:Hid ((Tryz.prog.info? 73).map (·.size)=some (sgC sw lf s (.slice A' l.length c')).toList.length):=hQ9 xh
 have m1:=hQ9 (xH z1.cell)
 have m2:=hQ9 (xH z2.cell)
 have x0:((w.alloc (.cells (voC vw cm who sw lf s (.slice A l.length c)) 75)).alloc (.cells (voC vw cm who sw lf s (.slice A' l.length c')) 75)).cell? ⟨w.heap.size,0,none⟩=some (.int .i64 vw):=by simpa using z1.cell 0 _ rfl
 have x1:((w.alloc (.cells (voC vw cm who sw lf s (.slice A l.length c)) 75)).alloc (.cells (voC vw cm who sw lf s (.slice A' l.length c')) 75)).cell? ⟨w.heap.size,1,none⟩=some (.int .u64 (cm:Nat)):=by simpa using z1.cell 1 _ rfl
 have x2:((w.alloc (.cells (voC vw cm who sw lf s (.slice A l.length c)) 75)).alloc (.cells (voC vw cm who sw lf s (.slice A' l.length c')) 75)).cell? ⟨w.heap.size,2,none⟩=some (.int .i64 who):=by simpa using z1.cell 2 _ rfl
 have y0:((w.alloc (.cells (voC vw cm who sw lf s (.slice A l.length c)) 75)).alloc (.cells (voC vw cm who sw lf s (.slice A' l.length c')) 75)).cell? ⟨w.heap.size+1,0,none⟩=some (.int .i64 vw):=by simpa using z2.cell 0 _ rfl
 have y1:((w.alloc (.cells (voC vw cm who sw lf s (.slice A l.length c)) 75)).alloc (.cells (voC vw cm who sw lf s (.slice A' l.length c')) 75)).cell? ⟨w.heap.size+1,1,none⟩=some (.int .u64 (cm:Nat)):=by simpa using z2.cell 1 _ rfl
 have y2:((w.alloc (.cells (voC vw cm who sw lf s (.slice A l.length c)) 75)).alloc (.cells (voC vw cm who sw lf s (.slice A' l.length c')) 75)).cell? ⟨w.heap.size+1,2,none⟩=some (.int .i64 who):=by simpa using z2.cell 2 _ rfl
 have CS:=hQ9 (zho sw lf s A A' c c' l hl _ r1 r2)
 have e0:((cm:Int)==(cm:Int))=true:=by simp
 have e1:(who==who)=true:=by simp
 have e2:(vw==vw)=true:=by simp
 have GG:=hQ9 G0
 clear z1 z2 r1 r2 G0 hr hr'
 go_enter Tryz.func105,Tryz.ntmps105
 obtain⟨v,hv⟩:∃ v,(w.alloc (.cells (voC vw cm who sw lf s (.slice A l.length c)) 75)).alloc (.cells (voC vw cm who sw lf s (.slice A' l.length c')) 75)=v:=⟨_,rfl⟩
 rw [hv]at CS GG x0 x1 x2 y0 y1 y2 m1 m2
 go_wp2_with(first
  | (refine zg (by rfl) 73 (.tmp 25) rfl w.heap.size 3 rfl (sgC sw lf s (.slice A l.length c)).toList _ m1.out hus rfl HL1.out ?_;simp only [Array.toArray_toList])
  | (refine zg (by rfl) 73 (.tmp 27) rfl (w.heap.size+1) 3 rfl (sgC sw lf s (.slice A' l.length c')).toList _ m2.out hus rfl HL2.out ?_;simp only [Array.toArray_toList]))
 refine(CS.out).mono ?_
 rintro e w1 ⟨rfl,gg⟩
 go_wp2_with fail
 go_ret
 exact⟨rfl,zc GG.out gg⟩
end Go.Proofs.YtidjnnnigcmdpaaGreatDoor
