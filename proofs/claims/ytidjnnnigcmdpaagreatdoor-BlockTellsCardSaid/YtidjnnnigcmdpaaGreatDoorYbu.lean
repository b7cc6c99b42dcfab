/- BlockTells: the law (mkbtl.py). -/
import Derived.Test.YtidjnnnigcmdpaaGreatDoorYzz
import Derived.Test.YtidjnnnigcmdpaaGreatDoorYbt
set_option maxHeartbeats 8000000
set_option maxRecDepth 100000
set_option linter.unusedSimpArgs false
set_option linter.unusedVariables false
set_option linter.unnecessarySimpa false
namespace Go.Proofs.YtidjnnnigcmdpaaGreatDoor
open Go.RowKit
theorem t0_lt:∀ i,i<3→(fun _=>0) i<2^3:=fun i h=>(by decide:(0:Nat)<2^3)
theorem t1_lt:∀ i,1≤i→i<4→(nxt (fun _=>0) 3) i<2^3:=fun i h1 h=>by show(if i<3 then 0+1 else 0)<2^3;split<;>decide
theorem t2_lt:∀ i,i<3→(nxd (nxt (fun _=>0) 3) 3) i<2^3:=fun i h=>by show(if 3<i+3 then (if i<3 then 0+1 else 0)+1 else (if i<3 then 0+1 else 0))<2^3;(repeat' split)<;>decide
theorem jK (seed:Int) (hsd:U64 seed) (view:Int) (hvi:0≤view∧view≤255) (lo:Int) (hlo:0≤lo∧lo≤255) (hi:Int) (hhi:0≤hi∧hi≤255) (w:World) (hS:Std w) :
 Calls Tryz.prog 6 #[.int .u64 seed,.int .u8 view,.int .u8 lo,.int .u8 hi] w fun e w'=>e=.returned (.bool true)∧Grew w w':=by
 have CK:=hQ9 (zby w hS)
 have HS:=hQ9 hS
 have hkt:=Tryz.underlying49
 have hvt:=Tryz.underlying69
 have hqt:=Tryz.underlying38
 have hbt:=Tryz.underlying41
 clear hS
 go_enter Tryz.func6,Tryz.ntmps6
 go_wp2_with fail
 refine(CK.out).mono ?_
 clear CK
 rintro e w1 ⟨rfl,g1⟩
 have CE:=hQ9 (zap seed hsd 3 (by omega) w1)
 go_wp2_with fail
 refine(CE.out).mono ?_
 clear CE
 rintro e w2 ⟨LA,Lc,RA,Rc,p,rfl,KS,rL,rR,FL0,FR0,G1⟩
 obtain⟨lad,hLA,-,-⟩:=rL 0 (by simp [ptrL])
 subst hLA
 obtain⟨kc,hkc⟩:∃ v,kyS 1 RA 4 Rc ((3:Nat):Int)=v:=⟨_,rfl⟩
 have HSK:Hid ((Tryz.prog.info? 49).map (·.size)=some (kyS 1 RA 4 Rc ((3:Nat):Int)).size):=hQ9 (by kernel_rfl)
 have HSKL:Hid ((Tryz.prog.info? 49).map (·.size)=some (kyS 1 RA 4 Rc ((3:Nat):Int)).toList.length):=hQ9 (by kernel_rfl)
 have HOK:Hid ((kyS 1 RA 4 Rc ((3:Nat):Int)).all (·.oneCell')=true):=hQ9 (by simp [kyS,Value.oneCell'])
 have HKC:Hid ((kpV seed 3 RA Rc).C=kyS 1 RA 4 Rc ((3:Nat):Int)):=hQ9 (kpV_C seed 3 RA Rc)
 have HK0:Hid (kpV seed 3 RA Rc).ok:=hQ9 (qM seed 3 (by omega) RA Rc)
 obtain⟨w3,hw3,ht3,g3,z3⟩:=zE w2 49 (#[.int .i64 0,.slice none 0 0,.int .i64 0]) (kyS 1 RA 4 Rc ((3:Nat):Int)) rfl
 have HW3:=hQ9 hw3
 have HT3:=hQ9 ht3
 have hrb:∀ ad,RA=some ad→ad.block<w2.heap.size:=fun ad e=>by
  obtain⟨ad2,e2,hb,_⟩:=rR 0 (by simp [u64L,xa])
  rw [e]at e2;cases e2;exact hb
 have hlb:lad.block<w2.heap.size:=by
  obtain⟨ad,e,hb,_⟩:=rL 0 (by simp [ptrL])
  cases e;exact hb
 have KB:Hid (KBase seed 3 p (fun _=>0) w2.heap.size lad RA Rc w1 w3.heap.size w3):=hQ9 {
  ks:=fun i hi=>(KS.key i hi).grew g3
  kc:=z3
  ld:=fun i hi=>by
   obtain⟨ad,e,_,hc⟩:=(rL.gr g3) i (by simp [ptrL];exact hi)
   cases e
   rw [hc];simp [ptrL]
  rR:=rR.gr g3
  gr:=zc G1 g3
  sz:=Nat.le_refl _
  b0:=by have:=G1.size;have:=g3.size;omega
  lo:=fun i hi=>by
   have h1:=KS.low i hi
   have h2:=(KS.key i hi).key.lt
   have h3:=(KS.key i hi).pub.lt
   have:=g3.size
   exact⟨by omega,by omega,by omega⟩
  qb:=z3.lt
  qn:=fun i hi e=>by have h2:=(KS.key i hi).key.lt;omega
  lb:=by have:=g3.size;omega
  ln:=fun i hi=>(FL0 lad rfl i hi).2
  rb:=fun ad e=>by have:=hrb ad e;have:=g3.size;omega
  rn:=fun i hi ad e=>(FR0 ad e i hi).2
  ap:=KS.apart }
 clear hw3 ht3 g3 z3 KS rL rR FL0 FR0 G1 hrb hlb
 rw [hkc]at HSK HSKL HOK HT3 HW3 HKC ⊢
 have HKCE:=hQ9 hkc
 clear hkc
 have HG1:=hQ9 g1
 have HBZ:Hid (∀ W,(Instr.build 38 #[]).run Tryz.prog W=.ok (.agg (#[.int .i64 0,.int .u64 0,.slice none 0 0]:Array Value)) W):=hQ9 (fun W=>run_build W 38 _ _ zat)
 by_cases hlh:lo<hi
 ·have e1:decide (hi≤lo)=false:=decide_eq_false (by omega)
  have ew:IntKind.i64.wrap (lo+1)=lo+1:=IntWalk.i64_in _ (by omega)
  have CE1:=hQ9 (qP KB.out (HS.out.grew g1) Lc (by omega) t0_lt 1 0 0 none [] 0 0 (lo+1) (by omega) (by omega) (by omega))
  have bz:=HBZ.out
  clear g1
  go_wp2_with(with_reducible refine wpList_store_mid rfl 49 (.tmp 10) (.tmp 28) rfl w2.heap.size 0 kc rfl rfl HT3.out HSK.out HOK.out ?_;rw [HW3.out];clear HW3 HT3)
  refine(CE1.out).mono ?_
  clear CE1 bz
  rintro e w4 ⟨⟨BA,bc,L,rfl,heL,HRL,-⟩,k4,KB4⟩
  obtain⟨ba,hba⟩:∃ b,(⟨1,0,0,0,none,[],0,0,lo+1,BA,L,bc⟩:BK)=b:=⟨_,rfl⟩
  have hbaok:ba.ok:=by rw [←hba];exact em_ok seed 3 _ 1 0 0 none [] 0 0 (lo+1) BA L bc ⟨by decide,by decide⟩ ⟨by decide,by decide⟩ (by decide) ⟨by decide,by decide⟩ ⟨by omega,by omega⟩ (by decide) heL
  rw [hba]
  obtain⟨w5,hw5,ht5,g5,z5⟩:=zE w4 41 (#[.int .i64 0,.int .u64 0,.int .i64 0,.int .u64 0,.slice none 0 0,.int .i64 0,.int .i64 0,.slice none 0 0]:Array Value) ba.C (by rw [←hba];rfl)
  have HW5:=hQ9 hw5
  have HT5:=hQ9 ht5
  have SIA:Hid ((Tryz.prog.info? 41).map (·.size)=some ba.C.size):=hQ9 zA
  have SIAL:Hid ((Tryz.prog.info? 41).map (·.size)=some ba.C.toList.length):=hQ9 zA
  have HOA:=hQ9 ba.one
  have KB5:=KB4.grew g5
  have hba5:∀ y,Kp (KyP p) w5 y→ba.at y:=fun y k=>by
   rw [←hba]
   exact⟨⟨RdC.nil _ _ _,by simp,by simp⟩,HRL y (zi (zg g5) k)⟩
  obtain⟨DA,hDA⟩:∃ d,bkD ba=d:=⟨_,rfl⟩
  have HDL:Hid (DA<18446744073709551616):=hQ9 (by rw [←hDA];exact zdc ba)
  have CCE:=hQ9 (zbz KB5 (HS.out.grew HG1.out) Lc (by omega) t1_lt ba hbaok (by rw [←hba];show vwB 1=true;decide) DA hDA hba5)
  rw [HKCE.out,show ba.vw=1 from by rw [←hba]]at CCE
  have hm5:=z5.cell
  have hmk5:w5.rangeAt w2.heap.size 0 kc.toList:=by rw [←HKCE.out];exact KB5.kc.cell
  clear hba hbaok hw5 ht5 g5 z5 KB4 KB5 hba5 hDA heL HRL k4 ew
  generalize ba.C=ga at *
  go_wp2_with(first
   | (with_reducible refine wpList_store_mid rfl 41 (.tmp 11) (.tmp 47) rfl w4.heap.size 0 ga rfl rfl HT5.out SIA.out HOA.out ?_;rw [HW5.out];clear HW5 HT5)
   | (with_reducible refine wpList_load_mid rfl 49 (.tmp 10) rfl w2.heap.size 0 rfl kc.toList _ hmk5 hkt rfl HSKL.out ?_;simp only [Array.toArray_toList])
   | (with_reducible refine wpList_load_mid rfl 41 (.tmp 11) rfl w4.heap.size 0 rfl ga.toList _ hm5 hbt rfl SIAL.out ?_;simp only [Array.toArray_toList]))
  refine(CCE.out).mono ?_
  clear CCE hm5 hmk5
  rintro e w6 ⟨⟨QA,qc,N,rfl,hmvN,HVN,hqc⟩,k6,KB6⟩
  obtain⟨A1,A2,A3,c1,c2,c3,hN⟩:=v3_mv hmvN
  have hN3:N.length=3:=by rw [hN];rfl
  obtain⟨qa,hQA,-,-⟩:=(HVN w6 (zL _ _)).get 0 (by rw [hN3];decide)
  subst hQA
  have HN3:=hQ9 hN3
  have HCQ:Hid (cqV (kpV seed 3 RA Rc) 1 DA N=0):=hQ9 (by rw [hN];exact vcq3 seed 3 RA Rc 1 DA (by omega) (by decide) _ _ _ (t1_lt 1 (by decide) (by decide)) (t1_lt 2 (by decide) (by decide)) (t1_lt 3 (by decide) (by decide)) A1 A2 A3 c1 c2 c3)
  obtain⟨gq,hgq⟩:∃ g,vqC 1 DA (some ⟨qa,0,none⟩) 3 qc=g:=⟨_,rfl⟩
  have HGQ:=hQ9 hgq
  rw [hgq]
  obtain⟨w7,hw7,ht7,g7,z7⟩:=zE w6 38 (#[.int .i64 0,.int .u64 0,.slice none 0 0]:Array Value) gq (by rw [←hgq];rfl)
  have HW7:=hQ9 hw7
  have HT7:=hQ9 ht7
  have SIQ:Hid ((Tryz.prog.info? 38).map (·.size)=some gq.size):=hQ9 (by rw [←hgq];exact yc)
  have SIQL:Hid ((Tryz.prog.info? 38).map (·.size)=some gq.toList.length):=hQ9 (by rw [←hgq];exact yc)
  have HOQ:Hid (gq.all (·.oneCell')=true):=hQ9 (by rw [←hgq];exact xm _ _ _ _ _)
  have KB7:=hQ9 (KB6.grew g7)
  have HVN7:Hid (∀ y,Kp (KyP p) w7 y→Vps y (some ⟨qa,0,none⟩) N):=hQ9 (fun y k=>HVN y (zi (zg g7) k))
  have HF6:Hid (¬KyP p w6.heap.size):=hQ9 (KB6.far KB6.sz)
  have HZ7:=hQ9 z7
  have hm7:=z7.cell
  have HQC:=hQ9 hqc
  clear hmvN hN hN3 HVN hqc k6 KB6 hgq hw7 ht7 g7 z7
  have ev:IntKind.i64.wrap (2+view%20)=2+view%20:=IntWalk.i64_in _ (by omega)
  have hv1:2≤2+view%20:=by omega
  have hv2:2+view%20≤30:=by omega
  go_upto_region 9 with (with_reducible refine wpList_store_mid rfl 38 (.tmp 13) (.tmp 54) rfl w6.heap.size 0 gq rfl rfl HT7.out SIQ.out HOQ.out ?_;rw [HW7.out];clear HW7 HT7)
  clear ev
  generalize 2+view%20=vv at *
  have HVV:Hid (2≤vv∧vv≤30):=hQ9 ⟨hv1,hv2⟩
  have HWV:Hid (vwB vv=true):=hQ9 (by unfold vwB;exact decide_eq_true ⟨by omega,by omega⟩)
  have CE2:=hQ9 (qP KB7.out (HS.out.grew HG1.out) Lc (by omega) t2_lt vv 1 DA (some ⟨qa,0,none⟩) N qc (lo+1) (hi+1) (by omega) (by omega) (by omega))
  rw [HN3.out,HGQ.out]at CE2
  have ew:IntKind.i64.wrap (lo+1)=lo+1:=IntWalk.i64_in _ (by omega)
  have ex:IntKind.i64.wrap (hi+1)=hi+1:=IntWalk.i64_in _ (by omega)
  go_wp2_with(with_reducible refine wpList_load_mid rfl 38 (.tmp 13) rfl w6.heap.size 0 rfl gq.toList _ hm7 hqt rfl SIQL.out ?_;simp only [Array.toArray_toList])
  refine(CE2.out).mono ?_
  clear CE2 hm7 ew ex hv1 hv2
  rintro e w8 ⟨⟨BB,bd,M,rfl,heM,HRM,-⟩,k8,KB8⟩
  have hM3:M.length=3:=heM.len
  have HM3:=hQ9 hM3
  have HEM:=hQ9 heM
  have GW8:=hQ9 (zc HG1.out KB8.gr)
  have HQN:Hid (∀ y,Grew w8 y→Vps y (some ⟨qa,0,none⟩) N):=hQ9 (fun y g=>HVN7.out y (zi k8 (zg g)))
  have HRM8:Hid (∀ y,Grew w8 y→Rps y BB M):=hQ9 (fun y g=>HRM y (zg g))
  have HKA:Hid (∀ y,Grew w8 y→(kpV seed 3 RA Rc).at y):=hQ9 (fun y g=>Rd.gr (show Rd w8 w8.heap.size RA (u64L (rtL seed 3 4)) from KB8.rR) g)
  have HMK:Hid (∀ y,Grew w8 y→y.rangeAt w2.heap.size 0 kc.toList):=hQ9 (fun y g=>by rw [←HKCE.out];exact(KB8.kc.grew g).cell)
  have HSY:Hid (∀ y,Grew w8 y→Std y):=hQ9 (fun y g=>HS.out.grew (zc GW8.out g))
  have HC2:Hid (∀ y,Grew w8 y→y.cell? ⟨w6.heap.size,2,none⟩=some (.slice (some ⟨qa,0,none⟩) 3 qc)):=hQ9 (fun y g=>by simpa using ((HZ7.out.kp k8 HF6.out).grew g).cell 2 _ (by rw [←HGQ.out];rfl))
  obtain⟨PA,hPA⟩:∃ x:Nat,(DA+1)%18446744073709551616=x:=⟨_,rfl⟩
  have HPL:Hid (PA<18446744073709551616):=hQ9 (by omega)
  have HPN:Hid (DA≠PA):=hQ9 (by have:=HDL.out;omega)
  have HPW:Hid (IntKind.u64.wrap ((DA:Nat)+1)=((PA:Nat):Int)):=hQ9 (by
   show((DA:Nat)+1:Int)%18446744073709551616=_
   omega)
  obtain⟨gb,hgb⟩:∃ g,(⟨vv,DA,1,DA,some ⟨qa,0,none⟩,N,qc,lo+1,hi+1,BB,M,bd⟩:BK).C=g:=⟨_,rfl⟩
  rw [hgb]
  have HGB:=hQ9 hgb
  have HG8:Hid (gb.size=8):=hQ9 (by rw [←hgb];rfl)
  have SIB:Hid ((Tryz.prog.info? 41).map (·.size)=some gb.size):=hQ9 (by rw [←hgb];exact zA)
  have SIBL:Hid ((Tryz.prog.info? 41).map (·.size)=some gb.toList.length):=hQ9 (by rw [←hgb];exact zA)
  have HOB:Hid (gb.all (·.oneCell')=true):=hQ9 (by rw [←hgb];exact BK.one _)
  obtain⟨w9,hw9,ht9,g9,z9⟩:=zE w8 41 (#[.int .i64 0,.int .u64 0,.int .i64 0,.int .u64 0,.slice none 0 0,.int .i64 0,.int .i64 0,.slice none 0 0]:Array Value) gb (by rw [←hgb];rfl)
  have HW9:=hQ9 hw9
  have HT9:=hQ9 ht9
  have HAB:Hid (∀ y,Grew w9 y→Ag y w8.heap.size gb.toList):=hQ9 (fun y g=>z9.grew g)
  have HB9:=hQ9 g9
  have hcap:(2:Int)≤(qc:Int):=by have:=HQC.out;omega
  clear hw9 ht9 z9 hgb heM HRM k8 KB8 hM3 hPA g9
  have hc2:=HC2.out w9 HB9.out
  go_upto_region 12 with (with_reducible refine wpList_store_mid rfl 41 (.tmp 16) (.tmp 71) rfl w8.heap.size 0 gb rfl rfl HT9.out SIB.out HOB.out ?_;rw [HW9.out];clear HW9 HT9)
  clear hc2
  generalize w8.heap.size=q16 at *
  generalize w6.heap.size=q13 at *
  have k9:Grew w9 w9:=za _
  have HN2:Hid ((N.take 2).length=2):=hQ9 (by rw [List.length_take,HN3.out];rfl)
  obtain⟨cw,chw,cht,cg,cz⟩:=zE w9 41 (#[.int .i64 0,.int .u64 0,.int .i64 0,.int .u64 0,.slice none 0 0,.int .i64 0,.int .i64 0,.slice none 0 0]:Array Value) gb (by rw [HG8.out];rfl)
  have cHW:=hQ9 chw
  have cHT:=hQ9 cht
  clear chw cht
  have hmb:=(HAB.out _ k9).cell
  go_upto_region 13 with (first
   | (with_reducible refine wpList_load_mid rfl 41 (.tmp 16) rfl q16 0 rfl gb.toList _ hmb hbt rfl SIBL.out ?_;simp only [Array.toArray_toList])
   | (with_reducible refine wpList_store_mid rfl 41 (.tmp 18) (.tmp 89) rfl (w9).heap.size 0 gb rfl rfl cHT.out SIB.out HOB.out ?_;rw [cHW.out];clear cHW cHT))
  have cx:cw.cell? ⟨(w9).heap.size,4,none⟩=some (.slice (some ⟨qa,0,none⟩) 3 qc):=by simpa using cz.cell 4 (.slice (some ⟨qa,0,none⟩) 3 qc) (by rw [←HGB.out,←HN3.out];rfl)
  have cf:cw.frozen? ⟨(w9).heap.size,4,none⟩=false:=by simpa using (cz.there 4 (by rw [Array.length_toList,HG8.out];decide)).2
  have ct:=ya (g:=(w9).heap.size) (zU _ cw) (p:=⟨(w9).heap.size,4,none⟩) (.inl rfl) (.slice (some ⟨qa,0,none⟩) 2 qc)
  have cy:=Ag.set1 cz 4 (.slice (some ⟨qa,0,none⟩) 2 qc) (by rw [Array.length_toList,HG8.out];decide)
  obtain⟨gc,hgc⟩:∃ g,(⟨vv,DA,1,DA,(some ⟨qa,0,none⟩),(N.take 2),qc,lo+1,hi+1,BB,M,bd⟩:BK).C=g:=⟨_,rfl⟩
  have HGc:=hQ9 hgc
  rw [show gb.toList.set 4 (.slice (some ⟨qa,0,none⟩) 2 qc)=gc.toList from by rw [←HGB.out,←hgc];show [Value.int .i64 vv,.int .u64 (DA:Nat),.int .i64 1,.int .u64 (DA:Nat),.slice (some ⟨qa,0,none⟩) 2 qc,.int .i64 (lo+1),.int .i64 (hi+1),.slice BB M.length bd]=[Value.int .i64 vv,.int .u64 (DA:Nat),.int .i64 1,.int .u64 (DA:Nat),.slice (some ⟨qa,0,none⟩) (N.take 2).length qc,.int .i64 (lo+1),.int .i64 (hi+1),.slice BB M.length bd];rw [HN2.out]]at cy
  have ck:=yb cg ct (Nat.le_refl _)
  obtain⟨cv,chv⟩:∃ v,cw.setCell ⟨(w9).heap.size,4,none⟩ (.slice (some ⟨qa,0,none⟩) 2 qc)=v:=⟨_,rfl⟩
  rw [chv]at cy ck
  have cHV:=hQ9 chv
  have cgz:=zc k9 cg
  have hq2:=HC2.out cw (zc HB9.out cgz)
  clear ct chv hgc cz cg hmb cgz
  go_upto_region 14 with fail
  rw [cHV.out]
  clear cx cf cHV hq2
  generalize (w9).heap.size=q18 at *
  have cj:=ck
  have ck:=zc k9 ck
  obtain⟨dw,dhw,dht,dg,dz⟩:=zE cv 41 (#[.int .i64 0,.int .u64 0,.int .i64 0,.int .u64 0,.slice none 0 0,.int .i64 0,.int .i64 0,.slice none 0 0]:Array Value) gb (by rw [HG8.out];rfl)
  have dHW:=hQ9 dhw
  have dHT:=hQ9 dht
  clear dhw dht
  have hmb:=(HAB.out _ ck).cell
  go_upto_region 15 with (first
   | (with_reducible refine wpList_load_mid rfl 41 (.tmp 16) rfl q16 0 rfl gb.toList _ hmb hbt rfl SIBL.out ?_;simp only [Array.toArray_toList])
   | (with_reducible refine wpList_store_mid rfl 41 (.tmp 19) (.tmp 95) rfl (cv).heap.size 0 gb rfl rfl dHT.out SIB.out HOB.out ?_;rw [dHW.out];clear dHW dHT))
  have dx:dw.cell? ⟨(cv).heap.size,0,none⟩=some (.int .i64 vv):=by simpa using dz.cell 0 (.int .i64 vv) (by rw [←HGB.out];rfl)
  have df:dw.frozen? ⟨(cv).heap.size,0,none⟩=false:=by simpa using (dz.there 0 (by rw [Array.length_toList,HG8.out];decide)).2
  have dt:=ya (g:=(cv).heap.size) (zU _ dw) (p:=⟨(cv).heap.size,0,none⟩) (.inl rfl) (.int .i64 (vv+1))
  have dy:=Ag.set1 dz 0 (.int .i64 (vv+1)) (by rw [Array.length_toList,HG8.out];decide)
  obtain⟨gd,hgd⟩:∃ g,(⟨(vv+1),DA,1,DA,(some ⟨qa,0,none⟩),N,qc,lo+1,hi+1,BB,M,bd⟩:BK).C=g:=⟨_,rfl⟩
  have HGd:=hQ9 hgd
  rw [show gb.toList.set 0 (.int .i64 (vv+1))=gd.toList from by rw [←HGB.out,←hgd];rfl]at dy
  have dk:=yb dg dt (Nat.le_refl _)
  obtain⟨dv,dhv⟩:∃ v,dw.setCell ⟨(cv).heap.size,0,none⟩ (.int .i64 (vv+1))=v:=⟨_,rfl⟩
  rw [dhv]at dy dk
  have dHV:=hQ9 dhv
  have dgz:=zc ck dg
  have hwv:IntKind.i64.wrap (vv+1)=vv+1:=IntWalk.i64_in _ (by have:=HVV.out;omega)
  clear dt dhv hgd dz dg hmb dgz
  go_upto_region 16 with fail
  rw [dHV.out]
  clear dx df dHV hwv
  generalize (cv).heap.size=q19 at *
  have dj:=dk
  have dk:=zc ck dk
  obtain⟨ew,ehw,eht,eg,ez⟩:=zE dv 41 (#[.int .i64 0,.int .u64 0,.int .i64 0,.int .u64 0,.slice none 0 0,.int .i64 0,.int .i64 0,.slice none 0 0]:Array Value) gb (by rw [HG8.out];rfl)
  have eHW:=hQ9 ehw
  have eHT:=hQ9 eht
  clear ehw eht
  have hmb:=(HAB.out _ dk).cell
  go_upto_region 17 with (first
   | (with_reducible refine wpList_load_mid rfl 41 (.tmp 16) rfl q16 0 rfl gb.toList _ hmb hbt rfl SIBL.out ?_;simp only [Array.toArray_toList])
   | (with_reducible refine wpList_store_mid rfl 41 (.tmp 20) (.tmp 99) rfl (dv).heap.size 0 gb rfl rfl eHT.out SIB.out HOB.out ?_;rw [eHW.out];clear eHW eHT))
  have ex:ew.cell? ⟨(dv).heap.size,6,none⟩=some (.int .i64 (hi+1)):=by simpa using ez.cell 6 (.int .i64 (hi+1)) (by rw [←HGB.out];rfl)
  have ef:ew.frozen? ⟨(dv).heap.size,6,none⟩=false:=by simpa using (ez.there 6 (by rw [Array.length_toList,HG8.out];decide)).2
  have et:=ya (g:=(dv).heap.size) (zU _ ew) (p:=⟨(dv).heap.size,6,none⟩) (.inl rfl) (.int .i64 (hi+1+1))
  have ey:=Ag.set1 ez 6 (.int .i64 (hi+1+1)) (by rw [Array.length_toList,HG8.out];decide)
  obtain⟨ge,hge⟩:∃ g,(⟨vv,DA,1,DA,(some ⟨qa,0,none⟩),N,qc,lo+1,hi+1+1,BB,M,bd⟩:BK).C=g:=⟨_,rfl⟩
  have HGe:=hQ9 hge
  rw [show gb.toList.set 6 (.int .i64 (hi+1+1))=ge.toList from by rw [←HGB.out,←hge];rfl]at ey
  have ek:=yb eg et (Nat.le_refl _)
  obtain⟨ev,ehv⟩:∃ v,ew.setCell ⟨(dv).heap.size,6,none⟩ (.int .i64 (hi+1+1))=v:=⟨_,rfl⟩
  rw [ehv]at ey ek
  have eHV:=hQ9 ehv
  have egz:=zc dk eg
  have hb6:ew.cell? ⟨q16,6,none⟩=some (.int .i64 (hi+1)):=by simpa using (HAB.out ew egz).cell 6 _ (by rw [←HGB.out];rfl)
  have hwh:IntKind.i64.wrap (hi+1+1)=hi+1+1:=IntWalk.i64_in _ (by omega)
  clear et ehv hge ez eg hmb egz
  go_upto_region 18 with fail
  rw [eHV.out]
  clear ex ef eHV hb6 hwh
  generalize (dv).heap.size=q20 at *
  have ej:=ek
  have ek:=zc dk ek
  obtain⟨fw,fhw,fht,fg,fz⟩:=zE ev 41 (#[.int .i64 0,.int .u64 0,.int .i64 0,.int .u64 0,.slice none 0 0,.int .i64 0,.int .i64 0,.slice none 0 0]:Array Value) gb (by rw [HG8.out];rfl)
  have fHW:=hQ9 fhw
  have fHT:=hQ9 fht
  clear fhw fht
  have hmb:=(HAB.out _ ek).cell
  go_upto_region 19 with (first
   | (with_reducible refine wpList_load_mid rfl 41 (.tmp 16) rfl q16 0 rfl gb.toList _ hmb hbt rfl SIBL.out ?_;simp only [Array.toArray_toList])
   | (with_reducible refine wpList_store_mid rfl 41 (.tmp 21) (.tmp 104) rfl (ev).heap.size 0 gb rfl rfl fHT.out SIB.out HOB.out ?_;rw [fHW.out];clear fHW fHT))
  have fx:fw.cell? ⟨(ev).heap.size,1,none⟩=some (.int .u64 (DA:Nat)):=by simpa using fz.cell 1 (.int .u64 (DA:Nat)) (by rw [←HGB.out];rfl)
  have ff:fw.frozen? ⟨(ev).heap.size,1,none⟩=false:=by simpa using (fz.there 1 (by rw [Array.length_toList,HG8.out];decide)).2
  have ft:=ya (g:=(ev).heap.size) (zU _ fw) (p:=⟨(ev).heap.size,1,none⟩) (.inl rfl) (.int .u64 (PA:Nat))
  have fy:=Ag.set1 fz 1 (.int .u64 (PA:Nat)) (by rw [Array.length_toList,HG8.out];decide)
  obtain⟨gf,hgf⟩:∃ g,(⟨vv,PA,1,DA,(some ⟨qa,0,none⟩),N,qc,lo+1,hi+1,BB,M,bd⟩:BK).C=g:=⟨_,rfl⟩
  have HGf:=hQ9 hgf
  rw [show gb.toList.set 1 (.int .u64 (PA:Nat))=gf.toList from by rw [←HGB.out,←hgf];rfl]at fy
  have fk:=yb fg ft (Nat.le_refl _)
  obtain⟨fv,fhv⟩:∃ v,fw.setCell ⟨(ev).heap.size,1,none⟩ (.int .u64 (PA:Nat))=v:=⟨_,rfl⟩
  rw [fhv]at fy fk
  have fHV:=hQ9 fhv
  have fgz:=zc ek fg
  have hb1:fw.cell? ⟨q16,1,none⟩=some (.int .u64 (DA:Nat)):=by simpa using (HAB.out fw fgz).cell 1 _ (by rw [←HGB.out];rfl)
  have hwp:=HPW.out
  clear ft fhv hgf fz fg hmb fgz
  go_upto_region 20 with fail
  rw [fHV.out]
  clear fx ff fHV hb1 hwp
  generalize (ev).heap.size=q21 at *
  have fj:=fk
  have fk:=zc ek fk
  have HZ9:Hid (∀ y,Grew fv y→Grew w9 y):=hQ9 (fun y g=>zc fk g)
  have HZ8:Hid (∀ y,Grew fv y→Grew w8 y):=hQ9 (fun y g=>zc HB9.out (zc fk g))
  have Yb:Hid (∀ y,Grew fv y→y.rangeAt q16 0 gb.toList):=hQ9 (fun y g=>(HAB.out y (HZ9.out y g)).cell)
  have Yc:Hid (∀ y,Grew fv y→y.rangeAt q18 0 gc.toList):=hQ9 (fun y g=>(cy.grew (zc dj (zc ej (zc fj g)))).cell)
  have Yd:Hid (∀ y,Grew fv y→y.rangeAt q19 0 gd.toList):=hQ9 (fun y g=>(dy.grew (zc ej (zc fj g))).cell)
  have Ye:Hid (∀ y,Grew fv y→y.rangeAt q20 0 ge.toList):=hQ9 (fun y g=>(ey.grew (zc fj g)).cell)
  have Yf:Hid (∀ y,Grew fv y→y.rangeAt q21 0 gf.toList):=hQ9 (fun y g=>(fy.grew g).cell)
  have YK:Hid (∀ y,Grew fv y→y.rangeAt w2.heap.size 0 kc.toList):=hQ9 (fun y g=>HMK.out y (HZ8.out y g))
  have HGO:Hid (∀(vw:Int) (pa:Nat) (K:List VP) (h9:Int),in64 vw→pa<18446744073709551616→K.length≤100000→in64 h9→(⟨vw,pa,1,DA,(some ⟨qa,0,none⟩),K,qc,lo+1,h9,BB,M,bd⟩:BK).ok):=hQ9 (fun vw pa K h9 h1 h2 h3 h4=>⟨h1,h2,⟨by show _≤(1:Int);decide,by show(1:Int)≤_;decide⟩,HDL.out,⟨by show _≤lo+1;omega,by show lo+1≤_;omega⟩,h4,h3,by show M.length≤1000;rw [HM3.out];decide⟩)
  have HGT:Hid (∀(vw:Int) (pa:Nat) (K:List VP) (h9:Int),(∀ y,Grew w8 y→Vps y (some ⟨qa,0,none⟩) K)→∀ y,Grew w8 y→(⟨vw,pa,1,DA,(some ⟨qa,0,none⟩),K,qc,lo+1,h9,BB,M,bd⟩:BK).at y):=hQ9 (fun vw pa K h9 h y g=>⟨h y g,HRM8.out y g⟩)
  have HV1:Hid (in64 vv):=hQ9 (by have:=HVV.out;exact⟨by omega,by omega⟩)
  have HV2:Hid (in64 (vv+1)):=hQ9 (by have:=HVV.out;exact⟨by omega,by omega⟩)
  have HH1:Hid (in64 (hi+1)):=hQ9 ⟨by omega,by omega⟩
  have HH2:Hid (in64 (hi+1+1)):=hQ9 ⟨by omega,by omega⟩
  have HNL:Hid (N.length≤100000):=hQ9 (by rw [HN3.out];decide)
  have OKb:=hQ9 (HGO.out vv DA N (hi+1) HV1.out HDL.out HNL.out HH1.out)
  have OKc:=hQ9 (HGO.out vv DA (N.take 2) (hi+1) HV1.out HDL.out (by rw [HN2.out];decide) HH1.out)
  have OKd:=hQ9 (HGO.out (vv+1) DA N (hi+1) HV2.out HDL.out HNL.out HH1.out)
  have OKe:=hQ9 (HGO.out vv DA N (hi+1+1) HV1.out HDL.out HNL.out HH2.out)
  have OKf:=hQ9 (HGO.out vv PA N (hi+1) HV1.out HPL.out HNL.out HH1.out)
  have ATb:=hQ9 (HGT.out vv DA N (hi+1) HQN.out)
  have ATc:=hQ9 (HGT.out vv DA (N.take 2) (hi+1) (fun y g=>(HQN.out y g).take 2))
  have ATd:=hQ9 (HGT.out (vv+1) DA N (hi+1) HQN.out)
  have ATe:=hQ9 (HGT.out vv DA N (hi+1+1) HQN.out)
  have ATf:=hQ9 (HGT.out vv PA N (hi+1) HQN.out)
  obtain⟨bb,hbb⟩:∃ x,(⟨vv,DA,1,DA,(some ⟨qa,0,none⟩),N,qc,lo+1,hi+1,BB,M,bd⟩:BK)=x:=⟨_,rfl⟩
  obtain⟨bcc,hbcc⟩:∃ x,(⟨vv,DA,1,DA,(some ⟨qa,0,none⟩),(N.take 2),qc,lo+1,hi+1,BB,M,bd⟩:BK)=x:=⟨_,rfl⟩
  obtain⟨bdd,hbdd⟩:∃ x,(⟨(vv+1),DA,1,DA,(some ⟨qa,0,none⟩),N,qc,lo+1,hi+1,BB,M,bd⟩:BK)=x:=⟨_,rfl⟩
  obtain⟨bee,hbee⟩:∃ x,(⟨vv,DA,1,DA,(some ⟨qa,0,none⟩),N,qc,lo+1,hi+1+1,BB,M,bd⟩:BK)=x:=⟨_,rfl⟩
  obtain⟨bff,hbff⟩:∃ x,(⟨vv,PA,1,DA,(some ⟨qa,0,none⟩),N,qc,lo+1,hi+1,BB,M,bd⟩:BK)=x:=⟨_,rfl⟩
  have HDD:Hid (bkD bcc=bkD bb):=hQ9 (by rw [←hbcc,←hbb];rfl)
  have NEd:Hid ((⟨(bwW bb).toArray⟩:ByteArray).toList≠(⟨(bwW bdd).toArray⟩:ByteArray).toList):=hQ9 (kP (fun h=>by
   have:=(jJ (by rw [←hbb];exact HDL.out) (by rw [←hbdd];exact HDL.out) h).1
   rw [←hbb,←hbdd]at this
   have:vv=vv+1:=this
   omega))
  have NEe:Hid ((⟨(bwW bb).toArray⟩:ByteArray).toList≠(⟨(bwW bee).toArray⟩:ByteArray).toList):=hQ9 (kP (fun h=>by
   have:=(jJ (by rw [←hbb];exact HDL.out) (by rw [←hbee];exact HDL.out) h).2.2
   rw [←hbb,←hbee]at this
   have:hi+1=hi+1+1:=this
   omega))
  have NEf:Hid ((⟨(bwW bb).toArray⟩:ByteArray).toList≠(⟨(bwW bff).toArray⟩:ByteArray).toList):=hQ9 (kP (fun h=>by
   have:=(jJ (by rw [←hbb];exact HDL.out) (by rw [←hbff];exact HPL.out) h).2.1
   rw [←hbb,←hbff]at this
   exact HPN.out this))
  have HSM:Hid (sumL tagBlock (bwW bb)=bkD bb):=hQ9 (zgw bb (by rw [←hbb];show vv≠0;have:=HVV.out;omega)).symm
  have HLW:Hid ((bwW bb).length≤100000):=hQ9 (jE bb (by rw [←hbb];exact OKb.out))
  have CVb:Hid (∀ W,Grew fv W→Calls Tryz.prog 16 #[.agg kc,.agg gb] W fun e w'=>e=.returned (.int .i64 0)∧Grew W w'):=hQ9 (fun W g=>by
   have:=xU HK0.out _ OKb.out W (HSY.out W (HZ8.out W g)) (HKA.out W (HZ8.out W g)) (ATb.out W (HZ8.out W g))
   rw [HGB.out,HKC.out,blE_ok seed 3 RA Rc vv DA _ N qc (lo+1) (hi+1) BB M bd HWV.out (by have:=HVV.out;omega) HCQ.out (by omega) (by omega) (by omega),jH seed 3 RA Rc (lo+1) (hi+1) (by omega) (by unfold ivB;simp;omega) _ t2_lt HEM.out]at this
   exact this)
  have CVc:Hid (∀ W,Grew fv W→Calls Tryz.prog 16 #[.agg kc,.agg gc] W fun e w'=>e=.returned (.int .i64 8)∧Grew W w'):=hQ9 (fun W g=>by
   have:=xU HK0.out _ OKc.out W (HSY.out W (HZ8.out W g)) (HKA.out W (HZ8.out W g)) (ATc.out W (HZ8.out W g))
   rw [HGc.out,HKC.out,zgx seed 3 RA Rc vv DA _ (N.take 2) qc (lo+1) (hi+1) BB M bd HWV.out (by have:=HVV.out;omega) (by rw [HN2.out];decide)]at this
   exact this)
  have CDb:Hid (∀ W,Grew fv W→Calls Tryz.prog 19 #[.agg gb] W fun e w'=>e=.returned (.int .u64 (bkD bb:Nat))∧Grew W w'):=hQ9 (fun W g=>by
   have:=yS _ OKb.out W (HSY.out W (HZ8.out W g)) (ATb.out W (HZ8.out W g))
   rw [HGB.out,hbb]at this
   exact this)
  have CDc:Hid (∀ W,Grew fv W→Calls Tryz.prog 19 #[.agg gc] W fun e w'=>e=.returned (.int .u64 (bkD bb:Nat))∧Grew W w'):=hQ9 (fun W g=>by
   have:=yS _ OKc.out W (HSY.out W (HZ8.out W g)) (ATc.out W (HZ8.out W g))
   rw [HGc.out,hbcc,HDD.out]at this
   exact this)
  have CWb:Hid (∀ W,Grew fv W→Calls Tryz.prog 21 #[.agg gb] W fun e w'=>e=.returned (.string ⟨(bwW bb).toArray⟩)∧Grew W w'):=hQ9 (fun W g=>by
   have:=yP _ OKb.out W (HSY.out W (HZ8.out W g)) (ATb.out W (HZ8.out W g))
   rw [HGB.out,hbb]at this
   exact this)
  have CWd:Hid (∀ W,Grew fv W→Calls Tryz.prog 21 #[.agg gd] W fun e w'=>e=.returned (.string ⟨(bwW bdd).toArray⟩)∧Grew W w'):=hQ9 (fun W g=>by
   have:=yP _ OKd.out W (HSY.out W (HZ8.out W g)) (ATd.out W (HZ8.out W g))
   rw [HGd.out,hbdd]at this
   exact this)
  have CWe:Hid (∀ W,Grew fv W→Calls Tryz.prog 21 #[.agg ge] W fun e w'=>e=.returned (.string ⟨(bwW bee).toArray⟩)∧Grew W w'):=hQ9 (fun W g=>by
   have:=yP _ OKe.out W (HSY.out W (HZ8.out W g)) (ATe.out W (HZ8.out W g))
   rw [HGe.out,hbee]at this
   exact this)
  have CWf:Hid (∀ W,Grew fv W→Calls Tryz.prog 21 #[.agg gf] W fun e w'=>e=.returned (.string ⟨(bwW bff).toArray⟩)∧Grew W w'):=hQ9 (fun W g=>by
   have:=yP _ OKf.out W (HSY.out W (HZ8.out W g)) (ATf.out W (HZ8.out W g))
   rw [HGf.out,hbff]at this
   exact this)
  have CHO:Hid (∀ W,Calls Tryz.prog 46 #[.string ⟨#[98,108,111,99,107]⟩,.string ⟨(bwW bb).toArray⟩] W fun e w'=>e=.returned (.int .u64 (bkD bb:Nat))∧W=w'):=hQ9 (fun W=>by
   have:=kV ⟨#[98,108,111,99,107]⟩ ⟨(bwW bb).toArray⟩ (by decide) (by have:=HLW.out;simp [ByteArray.size];omega) W
   rw [show sumL (⟨#[98,108,111,99,107]⟩:ByteArray).data.toList (⟨(bwW bb).toArray⟩:ByteArray).data.toList=bkD bb from by rw [←HSM.out];simp [tagBlock]]at this
   exact this)
  have HGF:Hid (Grew w fv):=hQ9 (zc GW8.out (zc HB9.out fk))
  have SLc:Hid ((Tryz.prog.info? 41).map (·.size)=some gc.toList.length):=hQ9 (by rw [←HGc.out];exact zA)
  have SLd:Hid ((Tryz.prog.info? 41).map (·.size)=some gd.toList.length):=hQ9 (by rw [←HGd.out];exact zA)
  have SLe:Hid ((Tryz.prog.info? 41).map (·.size)=some ge.toList.length):=hQ9 (by rw [←HGe.out];exact zA)
  have SLf:Hid ((Tryz.prog.info? 41).map (·.size)=some gf.toList.length):=hQ9 (by rw [←HGf.out];exact zA)
  clear cy dy ey fy ck dk ek fk cj dj ej fj k9 hcap
  clear OKb OKc OKd OKe OKf ATb ATc ATd ATe ATf HGB HGc HGd HGe HGf HCQ HEM HM3 HN2 HN3 HNL HGO HGT HDD HSM HLW hbb hbcc hbdd hbee hbff HGQ
  generalize bkD bb=dg at *
  generalize (⟨(bwW bb).toArray⟩:ByteArray)=sb at *
  generalize (⟨(bwW bdd).toArray⟩:ByteArray)=sd at *
  generalize (⟨(bwW bee).toArray⟩:ByteArray)=se at *
  generalize (⟨(bwW bff).toArray⟩:ByteArray)=sf at *
  refine zw 46 (fun ix9=>match ix9 with
   | 0=>fun v _=>v=.agg gb
   | 1=>fun v _=>v=.int .u64 (dg:Nat)
   | 2=>fun v _=>v=.agg gc
   | 3=>fun v _=>v=.int .u64 (dg:Nat)
   | 4=>fun v _=>v=.bool true
   | 5=>fun v _=>v=.bool true
   | 6=>fun v _=>v=.agg gb
   | 7=>fun v _=>v=.string sb
   | 8=>fun v _=>v=.agg gd
   | 9=>fun v _=>v=.string sd
   | 10=>fun v _=>v=.bool true
   | 11=>fun v _=>v=.bool true
   | 12=>fun v _=>v=.bool true
   | 13=>fun v _=>v=.agg gb
   | 14=>fun v _=>v=.string sb
   | 15=>fun v _=>v=.agg ge
   | 16=>fun v _=>v=.string se
   | 17=>fun v _=>v=.bool true
   | 18=>fun v _=>v=.bool true
   | 19=>fun v _=>v=.bool true
   | 20=>fun v _=>v=.agg gb
   | 21=>fun v _=>v=.string sb
   | 22=>fun v _=>v=.agg gf
   | 23=>fun v _=>v=.string sf
   | 24=>fun v _=>v=.bool true
   | 25=>fun v _=>v=.bool true
   | 26=>fun v _=>v=.bool true
   | 27=>fun v _=>v=.agg gb
   | 28=>fun v _=>v=.int .u64 (dg:Nat)
   | 29=>fun v _=>v=.agg gb
   | 30=>fun v _=>v=.string sb
   | 31=>fun v _=>v=.int .u64 (dg:Nat)
   | 32=>fun v _=>v=.bool true
   | 33=>fun v _=>v=.bool true
   | 34=>fun v _=>v=.bool true
   | 35=>fun v _=>v=.agg kc
   | 36=>fun v _=>v=.agg gb
   | 37=>fun v _=>v=.int .i64 0
   | 38=>fun v _=>v=.bool true
   | 39=>fun v _=>v=.bool true
   | 40=>fun v _=>v=.bool true
   | 41=>fun v _=>v=.agg kc
   | 42=>fun v _=>v=.agg gc
   | 43=>fun v _=>v=.int .i64 8
   | 44=>fun v _=>v=.bool true
   | 45=>fun v _=>v=.bool true
   | _=>fun _ _=>True) (by kernel_rfl) (by kernel_rfl) ?_ ?_ ?_
  ·intro i v x y h hg
   match i,h with
   | 0,h | 1,h | 2,h | 3,h | 4,h | 5,h | 6,h | 7,h | 8,h | 9,h | 10,h | 11,h | 12,h | 13,h | 14,h | 15,h | 16,h | 17,h | 18,h | 19,h | 20,h | 21,h | 22,h | 23,h | 24,h | 25,h | 26,h | 27,h | 28,h | 29,h | 30,h | 31,h | 32,h | 33,h | 34,h | 35,h | 36,h | 37,h | 38,h | 39,h | 40,h | 41,h | 42,h | 43,h | 44,h | 45,h=>exact h
   | m+46,_=>trivial
  ·simp only [actOf,tk1,tk0,dr1,dr0,Act.put,si1,st1,st0,Nat.reduceAdd]
   refine⟨?_,?_,?_,?_,?_,?_,?_,?_,?_,?_,?_,?_,?_,?_,?_,?_,?_,?_,?_,?_,?_,?_,?_,?_,?_,?_,?_,?_,?_,?_,?_,?_,?_,?_,?_,?_,?_,?_,?_,?_,?_,?_,?_,?_,?_,?_,trivial⟩
   ·intro vs y hg hd
    try clear hd
    dsimp only
    have hm:=Yb.out y hg
    go_wp2_with(refine zf (by rfl) 41 (.tmp 16) rfl q16 0 rfl gb.toList _ hm hbt rfl SIBL.out ?_;simp only [Array.toArray_toList])
    exact⟨rfl,_,rfl,za _,rfl⟩
   ·intro vs y hg hd
    obtain⟨h0,_⟩:=hd
    replace h0:=h0 rfl
    try clear hd
    dsimp only
    rw [show vs 0=_ from h0]
    go_wp2_with(go_at_call 19;refine(CDb.out y hg).mono ?_;rintro e z ⟨rfl,gz9⟩)
    exact⟨rfl,_,rfl,gz9,rfl⟩
   ·intro vs y hg hd
    try clear hd
    dsimp only
    have hm:=Yc.out y hg
    go_wp2_with(refine zf (by rfl) 41 (.tmp 18) rfl q18 0 rfl gc.toList _ hm hbt rfl SLc.out ?_;simp only [Array.toArray_toList])
    exact⟨rfl,_,rfl,za _,rfl⟩
   ·intro vs y hg hd
    obtain⟨h2,_⟩:=hd
    replace h2:=h2 rfl
    try clear hd
    dsimp only
    rw [show vs 2=_ from h2]
    go_wp2_with(go_at_call 19;refine(CDc.out y hg).mono ?_;rintro e z ⟨rfl,gz9⟩)
    exact⟨rfl,_,rfl,gz9,rfl⟩
   ·intro vs y hg hd
    obtain⟨h1,h3,_⟩:=hd
    replace h1:=h1 rfl
    replace h3:=h3 rfl
    try clear hd
    dsimp only
    rw [show vs 1=_ from h1,show vs 3=_ from h3]
    go_wp2_with fail
    exact⟨rfl,_,rfl,za _,by simp⟩
   ·intro vs y hg hd
    obtain⟨h4,_⟩:=hd
    replace h4:=h4 rfl
    try clear hd
    dsimp only
    rw [show vs 4=_ from h4]
    go_wp2_with fail
    exact⟨rfl,_,rfl,za _,rfl⟩
   ·intro vs y hg hd
    have hx:(Region.binds .any { on:=5,ground:=.guard }=true→vs 5=.bool true)∧True:=hd
    have h5:vs 5=.bool true:=hx.1 rfl
    clear hx
    try clear hd
    dsimp only
    rw [show vs 5=_ from h5]
    have hm:=Yb.out y hg
    go_wp2_with(refine zf (by rfl) 41 (.tmp 16) rfl q16 0 rfl gb.toList _ hm hbt rfl SIBL.out ?_;simp only [Array.toArray_toList])
    exact⟨rfl,_,rfl,za _,rfl⟩
   ·intro vs y hg hd
    have hx:(Region.binds .any { on:=6,ground:=.data }=true→vs 6=.agg gb)∧(Region.binds .any { on:=5,ground:=.chain }=true→vs 5=.bool true)∧(Region.binds .any { on:=5,ground:=.guard }=true→vs 5=.bool true)∧True:=hd
    have h6:vs 6=.agg gb:=hx.1 rfl
    have h5:vs 5=.bool true:=hx.2.2.1 rfl
    clear hx
    try clear hd
    dsimp only
    rw [show vs 6=_ from h6,show vs 5=_ from h5]
    go_wp2_with(go_at_call 21;refine(CWb.out y hg).mono ?_;rintro e z ⟨rfl,gz9⟩)
    exact⟨rfl,_,rfl,gz9,rfl⟩
   ·intro vs y hg hd
    have hx:(Region.binds .any { on:=5,ground:=.guard }=true→vs 5=.bool true)∧True:=hd
    have h5:vs 5=.bool true:=hx.1 rfl
    clear hx
    try clear hd
    dsimp only
    rw [show vs 5=_ from h5]
    have hm:=Yd.out y hg
    go_wp2_with(refine zf (by rfl) 41 (.tmp 19) rfl q19 0 rfl gd.toList _ hm hbt rfl SLd.out ?_;simp only [Array.toArray_toList])
    exact⟨rfl,_,rfl,za _,rfl⟩
   ·intro vs y hg hd
    have hx:(Region.binds .any { on:=8,ground:=.data }=true→vs 8=.agg gd)∧(Region.binds .any { on:=7,ground:=.chain }=true→vs 7=.string sb)∧(Region.binds .any { on:=5,ground:=.guard }=true→vs 5=.bool true)∧True:=hd
    have h8:vs 8=.agg gd:=hx.1 rfl
    have h5:vs 5=.bool true:=hx.2.2.1 rfl
    clear hx
    try clear hd
    dsimp only
    rw [show vs 8=_ from h8,show vs 5=_ from h5]
    go_wp2_with(go_at_call 21;refine(CWd.out y hg).mono ?_;rintro e z ⟨rfl,gz9⟩)
    exact⟨rfl,_,rfl,gz9,rfl⟩
   ·intro vs y hg hd
    have hx:(Region.binds .any { on:=7,ground:=.data }=true→vs 7=.string sb)∧(Region.binds .any { on:=9,ground:=.data }=true→vs 9=.string sd)∧(Region.binds .any { on:=5,ground:=.guard }=true→vs 5=.bool true)∧True:=hd
    have h7:vs 7=.string sb:=hx.1 rfl
    have h9:vs 9=.string sd:=hx.2.1 rfl
    have h5:vs 5=.bool true:=hx.2.2.1 rfl
    clear hx
    try clear hd
    dsimp only
    rw [show vs 7=_ from h7,show vs 9=_ from h9,show vs 5=_ from h5]
    go_wp2_with fail
    exact⟨rfl,_,rfl,za _,by simp [NEd.out,bne]⟩
   ·intro vs y hg hd
    obtain⟨h5,h10,_⟩:=hd
    replace h5:=h5 rfl
    replace h10:=h10 rfl
    try clear hd
    dsimp only
    rw [show vs 5=_ from h5,show vs 10=_ from h10]
    go_wp2_with fail
    exact⟨rfl,_,rfl,za _,rfl⟩
   ·intro vs y hg hd
    obtain⟨h11,_⟩:=hd
    replace h11:=h11 rfl
    try clear hd
    dsimp only
    rw [show vs 11=_ from h11]
    go_wp2_with fail
    exact⟨rfl,_,rfl,za _,rfl⟩
   ·intro vs y hg hd
    have hx:(Region.binds .any { on:=12,ground:=.guard }=true→vs 12=.bool true)∧True:=hd
    have h12:vs 12=.bool true:=hx.1 rfl
    clear hx
    try clear hd
    dsimp only
    rw [show vs 12=_ from h12]
    have hm:=Yb.out y hg
    go_wp2_with(refine zf (by rfl) 41 (.tmp 16) rfl q16 0 rfl gb.toList _ hm hbt rfl SIBL.out ?_;simp only [Array.toArray_toList])
    exact⟨rfl,_,rfl,za _,rfl⟩
   ·intro vs y hg hd
    have hx:(Region.binds .any { on:=13,ground:=.data }=true→vs 13=.agg gb)∧(Region.binds .any { on:=12,ground:=.chain }=true→vs 12=.bool true)∧(Region.binds .any { on:=12,ground:=.guard }=true→vs 12=.bool true)∧True:=hd
    have h13:vs 13=.agg gb:=hx.1 rfl
    have h12:vs 12=.bool true:=hx.2.2.1 rfl
    clear hx
    try clear hd
    dsimp only
    rw [show vs 13=_ from h13,show vs 12=_ from h12]
    go_wp2_with(go_at_call 21;refine(CWb.out y hg).mono ?_;rintro e z ⟨rfl,gz9⟩)
    exact⟨rfl,_,rfl,gz9,rfl⟩
   ·intro vs y hg hd
    have hx:(Region.binds .any { on:=12,ground:=.guard }=true→vs 12=.bool true)∧True:=hd
    have h12:vs 12=.bool true:=hx.1 rfl
    clear hx
    try clear hd
    dsimp only
    rw [show vs 12=_ from h12]
    have hm:=Ye.out y hg
    go_wp2_with(refine zf (by rfl) 41 (.tmp 20) rfl q20 0 rfl ge.toList _ hm hbt rfl SLe.out ?_;simp only [Array.toArray_toList])
    exact⟨rfl,_,rfl,za _,rfl⟩
   ·intro vs y hg hd
    have hx:(Region.binds .any { on:=15,ground:=.data }=true→vs 15=.agg ge)∧(Region.binds .any { on:=14,ground:=.chain }=true→vs 14=.string sb)∧(Region.binds .any { on:=12,ground:=.guard }=true→vs 12=.bool true)∧True:=hd
    have h15:vs 15=.agg ge:=hx.1 rfl
    have h12:vs 12=.bool true:=hx.2.2.1 rfl
    clear hx
    try clear hd
    dsimp only
    rw [show vs 15=_ from h15,show vs 12=_ from h12]
    go_wp2_with(go_at_call 21;refine(CWe.out y hg).mono ?_;rintro e z ⟨rfl,gz9⟩)
    exact⟨rfl,_,rfl,gz9,rfl⟩
   ·intro vs y hg hd
    have hx:(Region.binds .any { on:=14,ground:=.data }=true→vs 14=.string sb)∧(Region.binds .any { on:=16,ground:=.data }=true→vs 16=.string se)∧(Region.binds .any { on:=12,ground:=.guard }=true→vs 12=.bool true)∧True:=hd
    have h14:vs 14=.string sb:=hx.1 rfl
    have h16:vs 16=.string se:=hx.2.1 rfl
    have h12:vs 12=.bool true:=hx.2.2.1 rfl
    clear hx
    try clear hd
    dsimp only
    rw [show vs 14=_ from h14,show vs 16=_ from h16,show vs 12=_ from h12]
    go_wp2_with fail
    exact⟨rfl,_,rfl,za _,by simp [NEe.out,bne]⟩
   ·intro vs y hg hd
    obtain⟨h12,h17,_⟩:=hd
    replace h12:=h12 rfl
    replace h17:=h17 rfl
    try clear hd
    dsimp only
    rw [show vs 12=_ from h12,show vs 17=_ from h17]
    go_wp2_with fail
    exact⟨rfl,_,rfl,za _,rfl⟩
   ·intro vs y hg hd
    obtain⟨h18,_⟩:=hd
    replace h18:=h18 rfl
    try clear hd
    dsimp only
    rw [show vs 18=_ from h18]
    go_wp2_with fail
    exact⟨rfl,_,rfl,za _,rfl⟩
   ·intro vs y hg hd
    have hx:(Region.binds .any { on:=19,ground:=.guard }=true→vs 19=.bool true)∧True:=hd
    have h19:vs 19=.bool true:=hx.1 rfl
    clear hx
    try clear hd
    dsimp only
    rw [show vs 19=_ from h19]
    have hm:=Yb.out y hg
    go_wp2_with(refine zf (by rfl) 41 (.tmp 16) rfl q16 0 rfl gb.toList _ hm hbt rfl SIBL.out ?_;simp only [Array.toArray_toList])
    exact⟨rfl,_,rfl,za _,rfl⟩
   ·intro vs y hg hd
    have hx:(Region.binds .any { on:=20,ground:=.data }=true→vs 20=.agg gb)∧(Region.binds .any { on:=19,ground:=.chain }=true→vs 19=.bool true)∧(Region.binds .any { on:=19,ground:=.guard }=true→vs 19=.bool true)∧True:=hd
    have h20:vs 20=.agg gb:=hx.1 rfl
    have h19:vs 19=.bool true:=hx.2.2.1 rfl
    clear hx
    try clear hd
    dsimp only
    rw [show vs 20=_ from h20,show vs 19=_ from h19]
    go_wp2_with(go_at_call 21;refine(CWb.out y hg).mono ?_;rintro e z ⟨rfl,gz9⟩)
    exact⟨rfl,_,rfl,gz9,rfl⟩
   ·intro vs y hg hd
    have hx:(Region.binds .any { on:=19,ground:=.guard }=true→vs 19=.bool true)∧True:=hd
    have h19:vs 19=.bool true:=hx.1 rfl
    clear hx
    try clear hd
    dsimp only
    rw [show vs 19=_ from h19]
    have hm:=Yf.out y hg
    go_wp2_with(refine zf (by rfl) 41 (.tmp 21) rfl q21 0 rfl gf.toList _ hm hbt rfl SLf.out ?_;simp only [Array.toArray_toList])
    exact⟨rfl,_,rfl,za _,rfl⟩
   ·intro vs y hg hd
    have hx:(Region.binds .any { on:=22,ground:=.data }=true→vs 22=.agg gf)∧(Region.binds .any { on:=21,ground:=.chain }=true→vs 21=.string sb)∧(Region.binds .any { on:=19,ground:=.guard }=true→vs 19=.bool true)∧True:=hd
    have h22:vs 22=.agg gf:=hx.1 rfl
    have h19:vs 19=.bool true:=hx.2.2.1 rfl
    clear hx
    try clear hd
    dsimp only
    rw [show vs 22=_ from h22,show vs 19=_ from h19]
    go_wp2_with(go_at_call 21;refine(CWf.out y hg).mono ?_;rintro e z ⟨rfl,gz9⟩)
    exact⟨rfl,_,rfl,gz9,rfl⟩
   ·intro vs y hg hd
    have hx:(Region.binds .any { on:=21,ground:=.data }=true→vs 21=.string sb)∧(Region.binds .any { on:=23,ground:=.data }=true→vs 23=.string sf)∧(Region.binds .any { on:=19,ground:=.guard }=true→vs 19=.bool true)∧True:=hd
    have h21:vs 21=.string sb:=hx.1 rfl
    have h23:vs 23=.string sf:=hx.2.1 rfl
    have h19:vs 19=.bool true:=hx.2.2.1 rfl
    clear hx
    try clear hd
    dsimp only
    rw [show vs 21=_ from h21,show vs 23=_ from h23,show vs 19=_ from h19]
    go_wp2_with fail
    exact⟨rfl,_,rfl,za _,by simp [NEf.out,bne]⟩
   ·intro vs y hg hd
    obtain⟨h19,h24,_⟩:=hd
    replace h19:=h19 rfl
    replace h24:=h24 rfl
    try clear hd
    dsimp only
    rw [show vs 19=_ from h19,show vs 24=_ from h24]
    go_wp2_with fail
    exact⟨rfl,_,rfl,za _,rfl⟩
   ·intro vs y hg hd
    obtain⟨h25,_⟩:=hd
    replace h25:=h25 rfl
    try clear hd
    dsimp only
    rw [show vs 25=_ from h25]
    go_wp2_with fail
    exact⟨rfl,_,rfl,za _,rfl⟩
   ·intro vs y hg hd
    have hx:(Region.binds .any { on:=26,ground:=.guard }=true→vs 26=.bool true)∧True:=hd
    have h26:vs 26=.bool true:=hx.1 rfl
    clear hx
    try clear hd
    dsimp only
    rw [show vs 26=_ from h26]
    have hm:=Yb.out y hg
    go_wp2_with(refine zf (by rfl) 41 (.tmp 16) rfl q16 0 rfl gb.toList _ hm hbt rfl SIBL.out ?_;simp only [Array.toArray_toList])
    exact⟨rfl,_,rfl,za _,rfl⟩
   ·intro vs y hg hd
    have hx:(Region.binds .any { on:=27,ground:=.data }=true→vs 27=.agg gb)∧(Region.binds .any { on:=26,ground:=.chain }=true→vs 26=.bool true)∧(Region.binds .any { on:=26,ground:=.guard }=true→vs 26=.bool true)∧True:=hd
    have h27:vs 27=.agg gb:=hx.1 rfl
    have h26:vs 26=.bool true:=hx.2.2.1 rfl
    clear hx
    try clear hd
    dsimp only
    rw [show vs 27=_ from h27,show vs 26=_ from h26]
    go_wp2_with(go_at_call 19;refine(CDb.out y hg).mono ?_;rintro e z ⟨rfl,gz9⟩)
    exact⟨rfl,_,rfl,gz9,rfl⟩
   ·intro vs y hg hd
    have hx:(Region.binds .any { on:=26,ground:=.guard }=true→vs 26=.bool true)∧True:=hd
    have h26:vs 26=.bool true:=hx.1 rfl
    clear hx
    try clear hd
    dsimp only
    rw [show vs 26=_ from h26]
    have hm:=Yb.out y hg
    go_wp2_with(refine zf (by rfl) 41 (.tmp 16) rfl q16 0 rfl gb.toList _ hm hbt rfl SIBL.out ?_;simp only [Array.toArray_toList])
    exact⟨rfl,_,rfl,za _,rfl⟩
   ·intro vs y hg hd
    have hx:(Region.binds .any { on:=29,ground:=.data }=true→vs 29=.agg gb)∧(Region.binds .any { on:=28,ground:=.chain }=true→vs 28=.int .u64 (dg:Nat))∧(Region.binds .any { on:=26,ground:=.guard }=true→vs 26=.bool true)∧True:=hd
    have h29:vs 29=.agg gb:=hx.1 rfl
    have h26:vs 26=.bool true:=hx.2.2.1 rfl
    clear hx
    try clear hd
    dsimp only
    rw [show vs 29=_ from h29,show vs 26=_ from h26]
    go_wp2_with(go_at_call 21;refine(CWb.out y hg).mono ?_;rintro e z ⟨rfl,gz9⟩)
    exact⟨rfl,_,rfl,gz9,rfl⟩
   ·intro vs y hg hd
    have hx:(Region.binds .any { on:=30,ground:=.data }=true→vs 30=.string sb)∧(Region.binds .any { on:=30,ground:=.chain }=true→vs 30=.string sb)∧(Region.binds .any { on:=26,ground:=.guard }=true→vs 26=.bool true)∧True:=hd
    have h30:vs 30=.string sb:=hx.1 rfl
    have h26:vs 26=.bool true:=hx.2.2.1 rfl
    clear hx
    try clear hd
    dsimp only
    rw [show vs 30=_ from h30,show vs 26=_ from h26]
    go_wp2_with(go_at_call 46;refine(CHO.out y).mono ?_;rintro e z ⟨rfl,gz9⟩)
    exact⟨rfl,_,rfl,(by rw [gz9];exact za _),rfl⟩
   ·intro vs y hg hd
    have hx:(Region.binds .any { on:=28,ground:=.data }=true→vs 28=.int .u64 (dg:Nat))∧(Region.binds .any { on:=31,ground:=.data }=true→vs 31=.int .u64 (dg:Nat))∧(Region.binds .any { on:=26,ground:=.guard }=true→vs 26=.bool true)∧True:=hd
    have h28:vs 28=.int .u64 (dg:Nat):=hx.1 rfl
    have h31:vs 31=.int .u64 (dg:Nat):=hx.2.1 rfl
    have h26:vs 26=.bool true:=hx.2.2.1 rfl
    clear hx
    try clear hd
    dsimp only
    rw [show vs 28=_ from h28,show vs 31=_ from h31,show vs 26=_ from h26]
    go_wp2_with fail
    exact⟨rfl,_,rfl,za _,by simp⟩
   ·intro vs y hg hd
    obtain⟨h26,h32,_⟩:=hd
    replace h26:=h26 rfl
    replace h32:=h32 rfl
    try clear hd
    dsimp only
    rw [show vs 26=_ from h26,show vs 32=_ from h32]
    go_wp2_with fail
    exact⟨rfl,_,rfl,za _,rfl⟩
   ·intro vs y hg hd
    obtain⟨h33,_⟩:=hd
    replace h33:=h33 rfl
    try clear hd
    dsimp only
    rw [show vs 33=_ from h33]
    go_wp2_with fail
    exact⟨rfl,_,rfl,za _,rfl⟩
   ·intro vs y hg hd
    have hx:(Region.binds .any { on:=34,ground:=.guard }=true→vs 34=.bool true)∧True:=hd
    have h34:vs 34=.bool true:=hx.1 rfl
    clear hx
    try clear hd
    dsimp only
    rw [show vs 34=_ from h34]
    have hm:=YK.out y hg
    go_wp2_with(refine zf (by rfl) 49 (.tmp 10) rfl w2.heap.size 0 rfl kc.toList _ hm hkt rfl HSKL.out ?_;simp only [Array.toArray_toList])
    exact⟨rfl,_,rfl,za _,rfl⟩
   ·intro vs y hg hd
    have hx:(Region.binds .any { on:=34,ground:=.guard }=true→vs 34=.bool true)∧True:=hd
    have h34:vs 34=.bool true:=hx.1 rfl
    clear hx
    try clear hd
    dsimp only
    rw [show vs 34=_ from h34]
    have hm:=Yb.out y hg
    go_wp2_with(refine zf (by rfl) 41 (.tmp 16) rfl q16 0 rfl gb.toList _ hm hbt rfl SIBL.out ?_;simp only [Array.toArray_toList])
    exact⟨rfl,_,rfl,za _,rfl⟩
   ·intro vs y hg hd
    have hx:(Region.binds .any { on:=35,ground:=.data }=true→vs 35=.agg kc)∧(Region.binds .any { on:=36,ground:=.data }=true→vs 36=.agg gb)∧(Region.binds .any { on:=34,ground:=.chain }=true→vs 34=.bool true)∧(Region.binds .any { on:=34,ground:=.guard }=true→vs 34=.bool true)∧True:=hd
    have h35:vs 35=.agg kc:=hx.1 rfl
    have h36:vs 36=.agg gb:=hx.2.1 rfl
    have h34:vs 34=.bool true:=hx.2.2.2.1 rfl
    clear hx
    try clear hd
    dsimp only
    rw [show vs 35=_ from h35,show vs 36=_ from h36,show vs 34=_ from h34]
    go_wp2_with(go_at_call 16;refine(CVb.out y hg).mono ?_;rintro e z ⟨rfl,gz9⟩)
    exact⟨rfl,_,rfl,gz9,rfl⟩
   ·intro vs y hg hd
    have hx:(Region.binds .any { on:=37,ground:=.data }=true→vs 37=.int .i64 0)∧(Region.binds .any { on:=34,ground:=.guard }=true→vs 34=.bool true)∧True:=hd
    have h37:vs 37=.int .i64 0:=hx.1 rfl
    have h34:vs 34=.bool true:=hx.2.1 rfl
    clear hx
    try clear hd
    dsimp only
    rw [show vs 37=_ from h37,show vs 34=_ from h34]
    go_wp2_with fail
    exact⟨rfl,_,rfl,za _,rfl⟩
   ·intro vs y hg hd
    obtain⟨h34,h38,_⟩:=hd
    replace h34:=h34 rfl
    replace h38:=h38 rfl
    try clear hd
    dsimp only
    rw [show vs 34=_ from h34,show vs 38=_ from h38]
    go_wp2_with fail
    exact⟨rfl,_,rfl,za _,rfl⟩
   ·intro vs y hg hd
    obtain⟨h39,_⟩:=hd
    replace h39:=h39 rfl
    try clear hd
    dsimp only
    rw [show vs 39=_ from h39]
    go_wp2_with fail
    exact⟨rfl,_,rfl,za _,rfl⟩
   ·intro vs y hg hd
    have hx:(Region.binds .any { on:=40,ground:=.guard }=true→vs 40=.bool true)∧True:=hd
    have h40:vs 40=.bool true:=hx.1 rfl
    clear hx
    try clear hd
    dsimp only
    rw [show vs 40=_ from h40]
    have hm:=YK.out y hg
    go_wp2_with(refine zf (by rfl) 49 (.tmp 10) rfl w2.heap.size 0 rfl kc.toList _ hm hkt rfl HSKL.out ?_;simp only [Array.toArray_toList])
    exact⟨rfl,_,rfl,za _,rfl⟩
   ·intro vs y hg hd
    have hx:(Region.binds .any { on:=40,ground:=.guard }=true→vs 40=.bool true)∧True:=hd
    have h40:vs 40=.bool true:=hx.1 rfl
    clear hx
    try clear hd
    dsimp only
    rw [show vs 40=_ from h40]
    have hm:=Yc.out y hg
    go_wp2_with(refine zf (by rfl) 41 (.tmp 18) rfl q18 0 rfl gc.toList _ hm hbt rfl SLc.out ?_;simp only [Array.toArray_toList])
    exact⟨rfl,_,rfl,za _,rfl⟩
   ·intro vs y hg hd
    have hx:(Region.binds .any { on:=41,ground:=.data }=true→vs 41=.agg kc)∧(Region.binds .any { on:=42,ground:=.data }=true→vs 42=.agg gc)∧(Region.binds .any { on:=40,ground:=.chain }=true→vs 40=.bool true)∧(Region.binds .any { on:=40,ground:=.guard }=true→vs 40=.bool true)∧True:=hd
    have h41:vs 41=.agg kc:=hx.1 rfl
    have h42:vs 42=.agg gc:=hx.2.1 rfl
    have h40:vs 40=.bool true:=hx.2.2.2.1 rfl
    clear hx
    try clear hd
    dsimp only
    rw [show vs 41=_ from h41,show vs 42=_ from h42,show vs 40=_ from h40]
    go_wp2_with(go_at_call 16;refine(CVc.out y hg).mono ?_;rintro e z ⟨rfl,gz9⟩)
    exact⟨rfl,_,rfl,gz9,rfl⟩
   ·intro vs y hg hd
    have hx:(Region.binds .any { on:=43,ground:=.data }=true→vs 43=.int .i64 8)∧(Region.binds .any { on:=40,ground:=.guard }=true→vs 40=.bool true)∧True:=hd
    have h43:vs 43=.int .i64 8:=hx.1 rfl
    have h40:vs 40=.bool true:=hx.2.1 rfl
    clear hx
    try clear hd
    dsimp only
    rw [show vs 43=_ from h43,show vs 40=_ from h40]
    go_wp2_with fail
    exact⟨rfl,_,rfl,za _,rfl⟩
   ·intro vs y hg hd
    obtain⟨h40,h44,_⟩:=hd
    replace h40:=h40 rfl
    replace h44:=h44 rfl
    try clear hd
    dsimp only
    rw [show vs 40=_ from h40,show vs 44=_ from h44]
    go_wp2_with fail
    exact⟨rfl,_,rfl,za _,rfl⟩
  ·intro vs wI hg hJ
   have j0:vs 0=.agg gb:=hJ 0 (by decide)
   have j1:vs 1=.int .u64 (dg:Nat):=hJ 1 (by decide)
   have j2:vs 2=.agg gc:=hJ 2 (by decide)
   have j3:vs 3=.int .u64 (dg:Nat):=hJ 3 (by decide)
   have j4:vs 4=.bool true:=hJ 4 (by decide)
   have j5:vs 5=.bool true:=hJ 5 (by decide)
   have j6:vs 6=.agg gb:=hJ 6 (by decide)
   have j7:vs 7=.string sb:=hJ 7 (by decide)
   have j8:vs 8=.agg gd:=hJ 8 (by decide)
   have j9:vs 9=.string sd:=hJ 9 (by decide)
   have j10:vs 10=.bool true:=hJ 10 (by decide)
   have j11:vs 11=.bool true:=hJ 11 (by decide)
   have j12:vs 12=.bool true:=hJ 12 (by decide)
   have j13:vs 13=.agg gb:=hJ 13 (by decide)
   have j14:vs 14=.string sb:=hJ 14 (by decide)
   have j15:vs 15=.agg ge:=hJ 15 (by decide)
   have j16:vs 16=.string se:=hJ 16 (by decide)
   have j17:vs 17=.bool true:=hJ 17 (by decide)
   have j18:vs 18=.bool true:=hJ 18 (by decide)
   have j19:vs 19=.bool true:=hJ 19 (by decide)
   have j20:vs 20=.agg gb:=hJ 20 (by decide)
   have j21:vs 21=.string sb:=hJ 21 (by decide)
   have j22:vs 22=.agg gf:=hJ 22 (by decide)
   have j23:vs 23=.string sf:=hJ 23 (by decide)
   have j24:vs 24=.bool true:=hJ 24 (by decide)
   have j25:vs 25=.bool true:=hJ 25 (by decide)
   have j26:vs 26=.bool true:=hJ 26 (by decide)
   have j27:vs 27=.agg gb:=hJ 27 (by decide)
   have j28:vs 28=.int .u64 (dg:Nat):=hJ 28 (by decide)
   have j29:vs 29=.agg gb:=hJ 29 (by decide)
   have j30:vs 30=.string sb:=hJ 30 (by decide)
   have j31:vs 31=.int .u64 (dg:Nat):=hJ 31 (by decide)
   have j32:vs 32=.bool true:=hJ 32 (by decide)
   have j33:vs 33=.bool true:=hJ 33 (by decide)
   have j34:vs 34=.bool true:=hJ 34 (by decide)
   have j35:vs 35=.agg kc:=hJ 35 (by decide)
   have j36:vs 36=.agg gb:=hJ 36 (by decide)
   have j37:vs 37=.int .i64 0:=hJ 37 (by decide)
   have j38:vs 38=.bool true:=hJ 38 (by decide)
   have j39:vs 39=.bool true:=hJ 39 (by decide)
   have j40:vs 40=.bool true:=hJ 40 (by decide)
   have j41:vs 41=.agg kc:=hJ 41 (by decide)
   have j42:vs 42=.agg gc:=hJ 42 (by decide)
   have j43:vs 43=.int .i64 8:=hJ 43 (by decide)
   have j44:vs 44=.bool true:=hJ 44 (by decide)
   have j45:vs 45=.bool true:=hJ 45 (by decide)
   clear hJ
   simp only [actOf,tk1,tk0,dr1,dr0,Act.put,si1,st1,st0,Nat.reduceAdd]
   rw [show vs 45=_ from j45]
   go_wp2_with fail
   go_ret
   exact⟨rfl,zc HGF.out hg⟩
 ·have e1:decide (hi≤lo)=true:=decide_eq_true (by omega)
  have HGF:Hid (Grew w w3):=hQ9 (zc HG1.out KB.out.gr)
  go_wp2_with(with_reducible refine wpList_store_mid rfl 49 (.tmp 10) (.tmp 28) rfl w2.heap.size 0 kc rfl rfl HT3.out HSK.out HOK.out ?_;rw [HW3.out];clear HW3 HT3)
  go_ret
  exact⟨rfl,HGF.out⟩
end Go.Proofs.YtidjnnnigcmdpaaGreatDoor
