/- block.Digest, Genesis, Valid (mkblb.py). -/
import Derived.Test.YtidjnnnigcmdpaaGreatDoorJzz
import Derived.Test.YtidjnnnigcmdpaaGreatDoorJbn
set_option maxHeartbeats 4000000
set_option maxRecDepth 100000
set_option linter.unusedSimpArgs false
set_option linter.unusedVariables false
set_option linter.unnecessarySimpa false
namespace Go.Proofs.YtidjnnnigcmdpaaGreatDoor
open Go.RowKit
theorem qz (b:BK) (h:b.ok) (w:World) (hS:Std w) (hb:b.at w) :
 Calls Tryz.prog 19 #[.agg b.C] w fun e w'=>e=.returned (.int .u64 (bkD b:Nat))∧Grew w w':=by
 have hub:=Tryz.underlying41
 have SIC:Hid ((Tryz.prog.info? 41).map (·.size)=some b.C.toList.length):=hQ9 yb
 have z1:=Ag.new w 41 b.C
 have G1:=ze (za w) (.cells b.C 41)
 have CW:=hQ9 (zf3 b h _ (hS.grew G1) (hb.gr G1))
 have CH:=hQ9 (fun W=>zax ⟨#[98,108,111,99,107]⟩ ⟨(bwW b).toArray⟩ (by decide) (by have:=zc9 b h;simp [ByteArray.size];omega) W)
 have e1:sumL (⟨#[98,108,111,99,107]⟩:ByteArray).data.toList (⟨(bwW b).toArray⟩:ByteArray).data.toList=sumL tagBlock (bwW b):=by simp [tagBlock]
 rw [e1]at CH
 have hm:=z1.cell
 have hc:(w.alloc (.cells b.C 41)).cell? ⟨w.heap.size,0,none⟩=some (.int .i64 b.vw):=by simpa [BK.C]using z1.cell 0 _ rfl
 clear e1 hS z1 h hb
 by_cases hv:b.vw=0
 ·have hd:bkD b=0:=if_pos hv
  rw [hd]
  have e5:(b.vw==0)=true:=by simpa using hv
  clear hd hv CW CH
  generalize b.C=gc at *
  generalize b.vw=bv at *
  go_enter Tryz.func19,Tryz.ntmps19
  go_wp2_with fail
  go_ret
  exact⟨rfl,G1⟩
 ·have hd:bkD b=sumL tagBlock (bwW b):=if_neg hv
  rw [hd]
  have e5:(b.vw==0)=false:=by simpa using hv
  clear hd hv
  generalize sumL tagBlock (bwW b)=d at *
  generalize (⟨(bwW b).toArray⟩:ByteArray)=tj at *
  generalize b.C=gc at *
  generalize b.vw=bv at *
  go_enter Tryz.func19,Tryz.ntmps19
  go_wp2_with(with_reducible refine wpList_load_mid rfl 41 (.tmp 1) rfl w.heap.size 0 rfl gc.toList _ hm hub rfl SIC.out ?_;simp only [Array.toArray_toList])
  refine(CW.out).mono ?_
  rintro e w1 ⟨rfl,g1⟩
  go_wp2_with fail
  refine(CH.out w1).mono ?_
  rintro e w2 ⟨rfl,rfl⟩
  go_wp2_with fail
  go_ret
  exact⟨rfl,zc G1 g1⟩
def bk0:BK:=⟨0,0,0,0,none,[],0,0,0,none,[],0⟩
theorem bk0_ok:bk0.ok:=⟨⟨by decide,by decide⟩,by decide,⟨by decide,by decide⟩,by decide,⟨by decide,by decide⟩,⟨by decide,by decide⟩,by decide,by decide⟩
theorem bk0_at (w:World):bk0.at w:=⟨⟨RdC.nil _ _ _,by simp [bk0],by simp [bk0]⟩,⟨RdC.nil _ _ _,by simp [bk0],by simp [bk0]⟩⟩
theorem zjm:Tryz.prog.built 41 []=some bk0.C:=by kernel_rfl
theorem zei (w:World):Calls Tryz.prog 67 #[] w fun e w'=>e=.returned (.agg bk0.C)∧Grew w w':=by
 have hub:=Tryz.underlying41
 have z0:=Ag.new w 41 bk0.C
 have g0:=ze (za w) (.cells bk0.C 41)
 have hbz:=zjm
 have bz:∀ W,(Instr.build 41 #[]).run Tryz.prog W=.ok (.agg bk0.C) W:=fun W=>run_build W 41 _ _ hbz
 have HZ:Hid (∀ W,(zeroValue 41).run Tryz.prog W=.ok (.agg bk0.C) W):=hQ9 (fun W=>by kernel_rfl)
 have hzv:=HZ.out
 have SI:Hid ((Tryz.prog.info? 41).map (·.size)=some bk0.C.size):=hQ9 yb
 have HTH:Hid ((w.alloc (.cells bk0.C 41)).there w.heap.size 0 bk0.C.size):=hQ9 (z0.thereN 8 rfl)
 have HON:=hQ9 bk0.one
 have z4:=Ag.set (vs:=bk0.C.toList) z0 rfl
 have G4:=zj (o:=0) (b:=w.heap.size) bk0.C.toList g0 (Nat.le_refl _)
 have HI:=hQ9 (show(Tryz.prog.info? 41).map (·.size)=some bk0.C.toList.length from yb)
 clear hbz z0 g0
 generalize bk0.C=gc at *
 go_enter Tryz.func67,Tryz.ntmps67
 go_wp2_with(with_reducible refine wpList_store_mid rfl 41 (.tmp 0) (.tmp 1) rfl w.heap.size 0 gc rfl rfl HTH.out SI.out HON.out ?_)
 exact bodyPost_ret (zT Tryz.results67 _ _ (w.heap.size) _ _ rfl z4 hub rfl HI.out) rfl ⟨by rw [Array.toArray_toList],G4⟩
noncomputable def blE (K:KP) (b:BK):Int :=
 if vwB b.vw=true then (if b.vw≤b.qv then 12 else if b.pa=b.qb then (if vqE K b.qv b.qb b.Q=0 then (if b.lo<0 then 1 else if b.hi≤b.lo then 1 else if 1099511627776<b.hi then 1 else cqR K b.lo b.hi b.L) else vqE K b.qv b.qb b.Q) else 11) else 12
theorem zf4 {K:KP} (hK:K.ok) (b:BK) (h:b.ok) (w:World) (hS:Std w) (hk:K.at w) (hb:b.at w) :
 Calls Tryz.prog 16 #[.agg K.C,.agg b.C] w fun e w'=>e=.returned (.int .i64 (blE K b))∧Grew w w':=by
 have huk:=Tryz.underlying49
 have huq:=Tryz.underlying38
 have huf:=Tryz.underlying46
 have z0:=(Ag.new w 49 K.C).grew (ze (za _) (.cells b.C 41))
 have z1:=Ag.new (w.alloc (.cells K.C 49)) 41 b.C
 rw [zl]at z1
 have G0:=ze (ze (za w) (.cells K.C 49)) (.cells b.C 41)
 have c0:((w.alloc (.cells K.C 49)).alloc (.cells b.C 41)).cell? ⟨w.heap.size+1,0,none⟩=some (.int .i64 b.vw):=by simpa [BK.C]using z1.cell 0 _ rfl
 have c1:((w.alloc (.cells K.C 49)).alloc (.cells b.C 41)).cell? ⟨w.heap.size+1,1,none⟩=some (.int .u64 (b.pa:Nat)):=by simpa [BK.C]using z1.cell 1 _ rfl
 have c2:((w.alloc (.cells K.C 49)).alloc (.cells b.C 41)).cell? ⟨w.heap.size+1,2,none⟩=some (.int .i64 b.qv):=by simpa [BK.C]using z1.cell 2 _ rfl
 have c3:((w.alloc (.cells K.C 49)).alloc (.cells b.C 41)).cell? ⟨w.heap.size+1,3,none⟩=some (.int .u64 (b.qb:Nat)):=by simpa [BK.C]using z1.cell 3 _ rfl
 have c5:((w.alloc (.cells K.C 49)).alloc (.cells b.C 41)).cell? ⟨w.heap.size+1,5,none⟩=some (.int .i64 b.lo):=by simpa [BK.C]using z1.cell 5 _ rfl
 have c6:((w.alloc (.cells K.C 49)).alloc (.cells b.C 41)).cell? ⟨w.heap.size+1,6,none⟩=some (.int .i64 b.hi):=by simpa [BK.C]using z1.cell 6 _ rfl
 have hmk:=z0.cell
 have hmq:((w.alloc (.cells K.C 49)).alloc (.cells b.C 41)).rangeAt (w.heap.size+1) 2 (vqC b.qv b.qb b.QA b.Q.length b.qc).toList:=by
  have:((w.alloc (.cells K.C 49)).alloc (.cells b.C 41)).rangeAt (w.heap.size+1) (0+2) (vqC b.qv b.qb b.QA b.Q.length b.qc).toList:=xN (m:=2) z1.cell (fun j v hj=>by
   match j,hj with
   | 0,hj | 1,hj | 2,hj=>exact hj
   | j+3,hj=>simp [vqC]at hj)
  rwa [Nat.zero_add]at this
 have SIK:Hid ((Tryz.prog.info? 49).map (·.size)=some K.C.toList.length):=hQ9 (show _=some 3 by kernel_rfl)
 have SIQ:Hid ((Tryz.prog.info? 38).map (·.size)=some (vqC b.qv b.qb b.QA b.Q.length b.qc).toList.length):=hQ9 yf
 have CIV:=hQ9 (fun W=>zab b.vw W)
 have CQ:=hQ9 (jm hK b.qv b.qb b.QA b.qc b.Q h.q _ (hS.grew G0) (hk.gr G0) (hb.q.gr G0))
 have HB5:Hid (∀ y,Grew ((w.alloc (.cells K.C 49)).alloc (.cells b.C 41)) y→y.cell? ⟨w.heap.size+1,7,none⟩=some (.slice b.BA b.L.length b.bc)):=hQ9 (fun y g=>by simpa [BK.C]using (z1.grew g).cell 7 _ rfl)
 have HZ0:=hQ9 z0
 have CR:=hQ9 (fun y (g:Grew ((w.alloc (.cells K.C 49)).alloc (.cells b.C 41)) y)=>chq_rp hK b.BA b.bc b.L (Nat.le_trans h.l (by decide)) b.lo b.hi (w.heap.size+1) w.heap.size y (hS.grew (zc G0 g)) (hk.gr (zc G0 g)) (hb.l.gr (zc G0 g)) (zx c5 g) (zx c6 g) (z0.grew g))
 have HCF:Hid ((Tryz.prog.info? 46).map (·.size)=some [Value.int .i64 K.f].length):=hQ9 (by kernel_rfl)
 have HCO:Hid (∀ y,Grew ((w.alloc (.cells K.C 49)).alloc (.cells b.C 41)) y→y.rangeAt w.heap.size 0 [.int .i64 K.f]):=hQ9 (fun y g=>xP (z0.grew g))
 have HEQ:Hid (blE K b=if vwB b.vw=true then (if b.vw≤b.qv then 12 else if b.pa=b.qb then (if vqE K b.qv b.qb b.Q=0 then (if b.lo<0 then 1 else if b.hi≤b.lo then 1 else if 1099511627776<b.hi then 1 else cqR K b.lo b.hi b.L) else vqE K b.qv b.qb b.Q) else 11) else 12):=hQ9 rfl
 rw [HEQ.out]
 clear z0 z1 hS hk hb h hK HEQ
 generalize b.C=gb at *
 generalize vqC b.qv b.qb b.QA b.Q.length b.qc=gq at *
 generalize K.C=gk at *
 generalize vqE K b.qv b.qb b.Q=vq at *
 generalize cqR K b.lo b.hi b.L=cq at *
 generalize b.vw=vw at *
 generalize b.qv=qv at *
 generalize b.pa=pa at *
 generalize b.qb=qb at *
 generalize b.lo=lo at *
 generalize b.hi=hi at *
 obtain⟨vb,hvb⟩:∃ v,vwB vw=v:=⟨_,rfl⟩
 rw [hvb]at CIV ⊢
 clear hvb
 cases vb
 ·rw [if_neg (by simp)]
  clear CQ CR HB5 HCO HZ0
  go_enter Tryz.func16,Tryz.ntmps16
  go_wp2_with fail
  refine(CIV.out _).mono ?_
  rintro e wq ⟨rfl,rfl⟩
  go_wp2_with fail
  go_ret
  exact⟨rfl,G0⟩
 rw [if_pos rfl]
 by_cases h1:vw≤qv
 ·rw [if_pos h1]
  have e1:decide (vw≤qv)=true:=decide_eq_true h1
  clear CQ CR HB5 HCO HZ0 h1
  go_enter Tryz.func16,Tryz.ntmps16
  go_wp2_with fail
  refine(CIV.out _).mono ?_
  rintro e wq ⟨rfl,rfl⟩
  go_wp2_with fail
  go_ret
  exact⟨rfl,G0⟩
 rw [if_neg h1]
 have e1:decide (vw≤qv)=false:=decide_eq_false h1
 clear h1
 by_cases h2:pa=qb
 case neg =>
  rw [if_neg h2]
  have e2:((pa:Int) != (qb:Int))=true:=by simp;omega
  clear CQ CR HB5 HCO HZ0 h2
  go_enter Tryz.func16,Tryz.ntmps16
  go_wp2_with fail
  refine(CIV.out _).mono ?_
  rintro e wq ⟨rfl,rfl⟩
  go_wp2_with fail
  go_ret
  exact⟨rfl,G0⟩
 rw [if_pos h2]
 have e2:((pa:Int) != (qb:Int))=false:=by simp [h2]
 clear h2
 by_cases h3:vq=0
 case neg =>
  rw [if_neg h3]
  have e3:(vq != 0)=true:=by simpa using h3
  clear h3
  go_enter Tryz.func16,Tryz.ntmps16
  go_wp2_with fail
  refine(CIV.out _).mono ?_
  rintro e wq ⟨rfl,rfl⟩
  go_wp2_with(first
   | (with_reducible refine wpList_load_mid rfl 49 (.tmp 2) rfl w.heap.size 0 rfl gk.toList _ hmk huk rfl SIK.out ?_;simp only [Array.toArray_toList])
   | (with_reducible refine wpList_load_mid rfl 38 (.tmp 25) rfl (w.heap.size+1) 2 rfl gq.toList _ hmq huq rfl SIQ.out ?_;simp only [Array.toArray_toList]))
  refine(CQ.out).mono ?_
  rintro e w2 ⟨rfl,g2⟩
  have G2:=zc G0 g2
  have d5:w2.cell? ⟨w.heap.size+1,5,none⟩=some (.int .i64 lo):=zx c5 g2
  have d6:w2.cell? ⟨w.heap.size+1,6,none⟩=some (.int .i64 hi):=zx c6 g2
  go_wp2_with fail
  go_ret
  exact⟨rfl,G2⟩
 rw [if_pos h3]
 rw [h3]at CQ
 clear h3
 by_cases h4:lo<0
 ·rw [if_pos h4]
  have e4:decide (lo<0)=true:=decide_eq_true h4
  clear h4
  go_enter Tryz.func16,Tryz.ntmps16
  go_wp2_with fail
  refine(CIV.out _).mono ?_
  rintro e wq ⟨rfl,rfl⟩
  go_wp2_with(first
   | (with_reducible refine wpList_load_mid rfl 49 (.tmp 2) rfl w.heap.size 0 rfl gk.toList _ hmk huk rfl SIK.out ?_;simp only [Array.toArray_toList])
   | (with_reducible refine wpList_load_mid rfl 38 (.tmp 25) rfl (w.heap.size+1) 2 rfl gq.toList _ hmq huq rfl SIQ.out ?_;simp only [Array.toArray_toList]))
  refine(CQ.out).mono ?_
  rintro e w2 ⟨rfl,g2⟩
  have G2:=zc G0 g2
  have d5:w2.cell? ⟨w.heap.size+1,5,none⟩=some (.int .i64 lo):=zx c5 g2
  have d6:w2.cell? ⟨w.heap.size+1,6,none⟩=some (.int .i64 hi):=zx c6 g2
  go_wp2_with fail
  go_ret
  exact⟨rfl,G2⟩
 rw [if_neg h4]
 have e4:decide (lo<0)=false:=decide_eq_false h4
 clear h4
 by_cases h5:hi≤lo
 ·rw [if_pos h5]
  have e5:decide (hi≤lo)=true:=decide_eq_true h5
  clear h5
  go_enter Tryz.func16,Tryz.ntmps16
  go_wp2_with fail
  refine(CIV.out _).mono ?_
  rintro e wq ⟨rfl,rfl⟩
  go_wp2_with(first
   | (with_reducible refine wpList_load_mid rfl 49 (.tmp 2) rfl w.heap.size 0 rfl gk.toList _ hmk huk rfl SIK.out ?_;simp only [Array.toArray_toList])
   | (with_reducible refine wpList_load_mid rfl 38 (.tmp 25) rfl (w.heap.size+1) 2 rfl gq.toList _ hmq huq rfl SIQ.out ?_;simp only [Array.toArray_toList]))
  refine(CQ.out).mono ?_
  rintro e w2 ⟨rfl,g2⟩
  have G2:=zc G0 g2
  have d5:w2.cell? ⟨w.heap.size+1,5,none⟩=some (.int .i64 lo):=zx c5 g2
  have d6:w2.cell? ⟨w.heap.size+1,6,none⟩=some (.int .i64 hi):=zx c6 g2
  go_wp2_with fail
  go_ret
  exact⟨rfl,G2⟩
 rw [if_neg h5]
 have e5:decide (hi≤lo)=false:=decide_eq_false h5
 clear h5
 by_cases h6:1099511627776<hi
 ·rw [if_pos h6]
  have e6:decide (1099511627776<hi)=true:=decide_eq_true h6
  clear h6
  go_enter Tryz.func16,Tryz.ntmps16
  go_wp2_with fail
  refine(CIV.out _).mono ?_
  rintro e wq ⟨rfl,rfl⟩
  go_wp2_with(first
   | (with_reducible refine wpList_load_mid rfl 49 (.tmp 2) rfl w.heap.size 0 rfl gk.toList _ hmk huk rfl SIK.out ?_;simp only [Array.toArray_toList])
   | (with_reducible refine wpList_load_mid rfl 38 (.tmp 25) rfl (w.heap.size+1) 2 rfl gq.toList _ hmq huq rfl SIQ.out ?_;simp only [Array.toArray_toList]))
  refine(CQ.out).mono ?_
  rintro e w2 ⟨rfl,g2⟩
  have G2:=zc G0 g2
  have d5:w2.cell? ⟨w.heap.size+1,5,none⟩=some (.int .i64 lo):=zx c5 g2
  have d6:w2.cell? ⟨w.heap.size+1,6,none⟩=some (.int .i64 hi):=zx c6 g2
  go_wp2_with fail
  go_ret
  exact⟨rfl,G2⟩
 rw [if_neg h6]
 have e6:decide (1099511627776<hi)=false:=decide_eq_false h6
 clear h6
 go_enter Tryz.func16,Tryz.ntmps16
 go_wp2_with fail
 refine(CIV.out _).mono ?_
 rintro e wq ⟨rfl,rfl⟩
 go_wp2_with(first
  | (with_reducible refine wpList_load_mid rfl 49 (.tmp 2) rfl w.heap.size 0 rfl gk.toList _ hmk huk rfl SIK.out ?_;simp only [Array.toArray_toList])
  | (with_reducible refine wpList_load_mid rfl 38 (.tmp 25) rfl (w.heap.size+1) 2 rfl gq.toList _ hmq huq rfl SIQ.out ?_;simp only [Array.toArray_toList]))
 refine(CQ.out).mono ?_
 rintro e w2 ⟨rfl,g2⟩
 have G2:=zc G0 g2
 have d5:w2.cell? ⟨w.heap.size+1,5,none⟩=some (.int .i64 lo):=zx c5 g2
 have d6:w2.cell? ⟨w.heap.size+1,6,none⟩=some (.int .i64 hi):=zx c6 g2
 have d7:=HB5.out w2 g2
 have hmf:=HCO.out w2 g2
 go_wp2_with(with_reducible refine wpList_load_mid rfl 46 (.tmp 46) rfl w.heap.size 0 rfl [.int .i64 K.f] _ hmf huf rfl HCF.out ?_)
 refine(CR.out w2 g2).mono ?_
 rintro e w3 ⟨rfl,g3⟩
 go_wp2_with fail
 go_ret
 exact⟨rfl,zc G2 g3⟩
end Go.Proofs.YtidjnnnigcmdpaaGreatDoor
