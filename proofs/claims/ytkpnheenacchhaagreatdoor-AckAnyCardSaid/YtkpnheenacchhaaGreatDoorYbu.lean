/- AckAny: the law (mkakx.py). -/
import Derived.Test.YtkpnheenacchhaaGreatDoorYzz
import Derived.Test.YtkpnheenacchhaaGreatDoorYbt
set_option maxHeartbeats 8000000
set_option maxRecDepth 100000
set_option linter.unusedSimpArgs false
set_option linter.unusedVariables false
namespace Go.Proofs.YtkpnheenacchhaaGreatDoor
open Go.RowKit
structure KyZ (w:World) (R:List Nat) (f h:Int) (v:Value):Prop where
 out:∃ A c,v=.agg (kyS f A R.length c h)∧Rd w w.heap.size A (u64L R)
theorem KyZ.gr {w w':World} {R:List Nat} {f h:Int} {v:Value} (k:KyZ w R f h v) (g:Grew w w'):KyZ w' R f h v:=by
 obtain⟨A,c,h1,h2⟩:=k.out
 exact⟨A,c,h1,h2.gr g⟩
theorem zik (K:KP) (hRb:∀ z∈K.R,z<18446744073709551616) (S:AP) (hok:S.l.length≤1000→S.ok) (w0:World) (hat:S.at w0) (hS:Std w0) (hrR:K.at w0) :
 Calls Tryz.prog 5 #[.agg K.C,.agg S.C] w0 fun e w'=>e=.returned (.bool true)∧Grew w0 w':=by
 have z0:=(Ag.new w0 64 K.C).grew (zg (za _) (.cells S.C 70))
 have z1:=Ag.new (w0.alloc (.cells K.C 64)) 70 S.C
 rw [zw]at z1
 have G0:=zg (zg (za w0) (.cells K.C 64)) (.cells S.C 70)
 have huk:=Tryz.underlying64
 have hut:=Tryz.underlying79
 have hur:=Tryz.underlying70
 have SIK:Hid ((Tryz.prog.info? 64).map (·.size)=some K.C.toList.length):=hQ9 zgt
 have SI0:Hid ((Tryz.prog.info? 70).map (·.size)=some S.C.toList.length):=hQ9 yB
 have CK:=hQ9 (fun W hW=>kn14 W hW)
 have CCK:Hid (∀ W,Calls Tryz.prog 29 #[.agg K.C] W fun e w'=>e=.returned (.int .i64 (cyE K.f K.R.length K.h))∧Grew W w'):=hQ9 (fun W=>zfq K.f K.R K.RA K.Rc K.h W)
 have HS:=hQ9 hS
 have HOK:=hQ9 hok
 have HAT:=hQ9 hat
 have HKR:=hQ9 hrR
 have HRb:=hQ9 hRb
 clear hS hok hat hrR hRb
 go_enter Tryz.func5,Tryz.ntmps5
 go_wp2_with fail
 refine(CK.out _ (HS.out.grew G0)).mono ?_
 rintro e w1 ⟨rfl,gg⟩
 have z0:=z0.grew gg
 have z1:=z1.grew gg
 have G1:=ze G0 gg
 clear CK gg G0
 have hmk:=z0.cell
 go_wp2_with(with_reducible refine wpList_load_mid rfl 64 (.tmp 2) rfl w0.heap.size 0 rfl K.C.toList _ hmk huk rfl SIK.out ?_;simp only [Array.toArray_toList])
 refine(CCK.out _).mono ?_
 rintro e w2 ⟨rfl,gg⟩
 have z0:=z0.grew gg
 have z1:=z1.grew gg
 have G2:=ze G1 gg
 clear CCK gg G1 hmk
 have hc22:w2.cell? ⟨w0.heap.size+1,22,none⟩=some (.slice S.A S.l.length S.c):=by simpa using z1.cell 22 _ rfl
 by_cases hcy:cyE K.f K.R.length K.h=0
 rotate_left
 ·have e15:(cyE K.f K.R.length K.h != 0)=true:=by simpa using hcy
  clear hcy z0 z1
  generalize cyE K.f K.R.length K.h=ey at *
  go_wp2_with fail
  go_ret
  exact⟨rfl,G2⟩
 have HCY:=hQ9 hcy
 rw [hcy]
 clear hcy
 cases E2:decide (20<(S.l.length:Int))with
 | true =>
  clear z0 z1
  go_wp2_with fail
  go_ret
  exact⟨rfl,G2⟩
 | false =>
 have HL20:Hid (S.l.length≤20):=hQ9 (by simp only [decide_eq_false_iff_not]at E2;omega)
 have HSO:Hid S.ok:=hQ9 (HOK.out (by have:=HL20.out;omega))
 have hK:K.ok:=by
  have h1:=HCY.out
  unfold cyE at h1
  split at h1
  ·cases h1
  ·split at h1
   ·rename_i h2 h3
    exact⟨by omega,by have:=h3.1;omega,HRb.out⟩
   ·cases h1
 have HK:=hQ9 hK
 have CTO:=hQ9 (znr S.cm S.who S.sw S.lf S.s S.A S.c S.l (by have:=HL20.out;omega) w2 (HAT.out.gr G2))
 have hmc:=z1.cell
 clear hK HCY HOK
 go_wp2_with(with_reducible refine wpList_load_mid rfl 70 (.tmp 3) rfl (w0.heap.size+1) 0 rfl S.C.toList _ hmc hur rfl SI0.out ?_;simp only [Array.toArray_toList])
 clear hmc hc22 E2
 refine CTO.out.mono ?_
 rintro e w4 ⟨A4,c4,rfl,hr4,g4,-⟩
 clear CTO
 obtain⟨g1,hg1⟩:∃ g,(S.mv A4 c4).C=g:=⟨_,rfl⟩
 have HG1:=hQ9 hg1
 have hz1:g1.size=23:=by rw [←hg1];rfl
 rw [show(akC S.cm S.who S.sw S.lf S.s (.slice A4 S.l.length c4))=g1 from hg1]
 obtain⟨w5,hw5,ht5,gs5,z5⟩:=yR w4 79 (#[.int .u64 0,.int .i64 0,.int .i64 0,.int .i64 0,.int .u64 0,.int .u64 0,.int .u64 0,.int .u64 0,.int .u64 0,.int .u64 0,.int .u64 0,.int .u64 0,.int .u64 0,.int .u64 0,.int .u64 0,.int .u64 0,.int .u64 0,.int .u64 0,.int .u64 0,.int .u64 0,.int .u64 0,.int .u64 0,.slice none 0 0]:Array Value) g1 hz1
 have HW5:=hQ9 hw5
 have HT5:=hQ9 ht5
 have SI5:Hid ((Tryz.prog.info? 79).map (·.size)=some g1.size):=hQ9 (by rw [hz1];exact zF)
 have SL1:Hid ((Tryz.prog.info? 79).map (·.size)=some g1.toList.length):=hQ9 (by rw [Array.length_toList,hz1];exact zF)
 have ON5:Hid (g1.all (·.oneCell')=true):=hQ9 (by rw [←hg1];exact(S.mv A4 c4).one)
 have g45:=ze g4 gs5
 have z0:=z0.grew g45
 have z1:=z1.grew g45
 have G5:=ze G2 g45
 have HR4:Hid ((S.mv A4 c4).at w5):=hQ9 (Rd.gr hr4 gs5)
 have HMO:Hid (S.mv A4 c4).ok:=hQ9 (AP.mv_ok HSO.out _ _)
 obtain⟨tj,htj⟩:∃ t:ByteArray,⟨S.tx.toArray⟩=t:=⟨_,rfl⟩
 have HTS:Hid (tj.size≤1000000):=hQ9 (by
  rw [←htj]
  show S.tx.toArray.size≤1000000
  rw [List.size_toArray]
  exact qd _ _ _ _ _ _ HSO.out.who HSO.out.sw HSO.out.lf HSO.out.len)
 have CTT:Hid (∀ W,Std W→(S.mv A4 c4).at W→Calls Tryz.prog 32 #[.agg g1] W fun e w'=>e=.returned (.string tj)∧Grew W w'):=hQ9 (fun W h1 h2=>by
  have:=zg5 HMO.out W h1 h2
  rw [hg1,show(S.mv A4 c4).tx=S.tx from rfl,htj]at this
  exact this)
 have CTR:Hid (∀ W,S.at W→Calls Tryz.prog 34 #[.agg S.C] W fun e w'=>e=.returned (.string tj)∧Grew W w'):=hQ9 (fun W h2=>by
  have:=zic S.cm S.who S.sw S.lf S.s S.A S.c S.l HSO.out.cm HSO.out.who HSO.out.sw HSO.out.lf HSO.out.len HSO.out.s HSO.out.l W h2
  rw [show(⟨(akT S.cm S.who S.sw S.lf S.s S.l).toArray⟩:ByteArray)=tj from htj]at this
  exact this)
 have CPA:=hQ9 (fun W h1=>qG tj HTS.out W h1)
 have CPB:=hQ9 (fun W=>zeo tj HTS.out W)
 have HIN:=hQ9 (akO_in tj.data.toList)
 generalize akE tj.data.toList=ex at *
 generalize akO tj.data.toList=X at *
 obtain⟨cx,wx,⟨swx,lfx⟩,sx,lx⟩:=X
 unfold AkR.v at CPA CPB
 dsimp only at CPA CPB HIN
 have hm5:=z5.cell
 clear hw5 ht5 g4 gs5 g45 hr4 hg1 hz1 htj G2
 go_wp2_with(first
  | (with_reducible refine wpList_store_mid rfl 79 (.tmp 5) (.tmp 23) rfl w4.heap.size 0 g1 rfl rfl HT5.out SI5.out ON5.out ?_;rw [HW5.out])
  | (with_reducible refine wpList_load_mid rfl 79 (.tmp 5) rfl w4.heap.size 0 rfl g1.toList _ hm5 hut rfl SL1.out ?_;simp only [Array.toArray_toList]))
 clear HW5 HT5 SI5 ON5 hm5
 refine(CTT.out w5 (HS.out.grew G5) HR4.out).mono ?_
 rintro e w6 ⟨rfl,g6⟩
 have G6:=ze G5 g6
 go_wp2_with fail
 refine(CPA.out w6 (HS.out.grew G6)).mono ?_
 rintro e w7 ⟨⟨A6,c6,rfl,hr6,-⟩,g7⟩
 clear CPA
 obtain⟨g3,hg3⟩:∃ g,akC cx wx swx lfx sx (.slice A6 lx.length c6)=g:=⟨_,rfl⟩
 have HG3:=hQ9 hg3
 obtain⟨w8,hw8,ht8,gs8,z8⟩:=yR w7 79 (#[.int .u64 0,.int .i64 0,.int .i64 0,.int .i64 0,.int .u64 0,.int .u64 0,.int .u64 0,.int .u64 0,.int .u64 0,.int .u64 0,.int .u64 0,.int .u64 0,.int .u64 0,.int .u64 0,.int .u64 0,.int .u64 0,.int .u64 0,.int .u64 0,.int .u64 0,.int .u64 0,.int .u64 0,.int .u64 0,.slice none 0 0]:Array Value) g3 (by rw [←hg3];rfl)
 have HW8:=hQ9 hw8
 have HT8:=hQ9 ht8
 have SI8:Hid ((Tryz.prog.info? 79).map (·.size)=some g3.size):=hQ9 (by rw [←hg3];exact zF)
 have SL3:Hid ((Tryz.prog.info? 79).map (·.size)=some g3.toList.length):=hQ9 (by rw [←hg3];exact zF)
 have ON8:Hid (g3.all (·.oneCell')=true):=hQ9 (by rw [←hg3];exact y7 _ _ _ _ _ _ _ _)
 have g58:=ze g6 (ze g7 gs8)
 have z0:=z0.grew g58
 have z1:=z1.grew g58
 have z5:=z5.grew g58
 have G8:=ze G5 g58
 have HR6:=hQ9 (Rd.gr hr6 gs8)
 have HS58:=hQ9 g58
 have hmc:=z1.cell
 rw [hg3]
 clear hw8 ht8 g6 g7 gs8 g58 hr6 hg3 G6
 go_wp2_with(first
  | (with_reducible refine wpList_store_mid rfl 79 (.tmp 6) (.tmp 28) rfl w7.heap.size 0 g3 rfl rfl HT8.out SI8.out ON8.out ?_;rw [HW8.out])
  | (with_reducible refine wpList_load_mid rfl 70 (.tmp 3) rfl (w0.heap.size+1) 0 rfl S.C.toList _ hmc hur rfl SI0.out ?_;simp only [Array.toArray_toList]))
 clear HW8 HT8 SI8 ON8 hmc
 refine(CTR.out w8 (HAT.out.gr G8)).mono ?_
 rintro e w9 ⟨rfl,g9⟩
 have G9:=ze G8 g9
 go_wp2_with fail
 refine(CPB.out w9).mono ?_
 rintro e wa ⟨⟨A7,c7,rfl,hr7,-⟩,ga⟩
 clear CPB
 obtain⟨g4,hg4⟩:∃ g,akC cx wx swx lfx sx (.slice A7 lx.length c7)=g:=⟨_,rfl⟩
 have HG4:=hQ9 hg4
 obtain⟨wb,hwb,htb,gsb,zb⟩:=yR wa 70 (#[.int .u64 0,.int .i64 0,.int .i64 0,.int .i64 0,.int .u64 0,.int .u64 0,.int .u64 0,.int .u64 0,.int .u64 0,.int .u64 0,.int .u64 0,.int .u64 0,.int .u64 0,.int .u64 0,.int .u64 0,.int .u64 0,.int .u64 0,.int .u64 0,.int .u64 0,.int .u64 0,.int .u64 0,.int .u64 0,.slice none 0 0]:Array Value) g4 (by rw [←hg4];rfl)
 have HWB:=hQ9 hwb
 have HTB:=hQ9 htb
 have SIB:Hid ((Tryz.prog.info? 70).map (·.size)=some g4.size):=hQ9 (by rw [←hg4];exact yB)
 have SL4:Hid ((Tryz.prog.info? 70).map (·.size)=some g4.toList.length):=hQ9 (by rw [←hg4];exact yB)
 have ONB:Hid (g4.all (·.oneCell')=true):=hQ9 (by rw [←hg4];exact y7 _ _ _ _ _ _ _ _)
 have g8b:=ze g9 (ze ga gsb)
 have GB:=ze G8 g8b
 have Z0:=hQ9 (z0.grew g8b)
 have Z1:=hQ9 (z1.grew g8b)
 have Z5:=hQ9 (z5.grew g8b)
 have HM0:=hQ9 (fun y (g:Grew wb y)=>(Z0.out.grew g).cell)
 have HM1:=hQ9 (fun y (g:Grew wb y)=>(Z1.out.grew g).cell)
 have HM5:=hQ9 (fun y (g:Grew wb y)=>(Z5.out.grew g).cell)
 have HM6:=hQ9 (fun y (g:Grew wb y)=>((z8.grew g8b).grew g).cell)
 have HM8:=hQ9 (fun y (g:Grew wb y)=>(zb.grew g).cell)
 have HS0:=hQ9 (fun y (g:Grew wb y)=>(by simpa using (Z1.out.grew g).cell 0 _ rfl:y.cell? ⟨w0.heap.size+1,0,none⟩=some (.int .u64 (S.cm:Nat))))
 have HS1:=hQ9 (fun y (g:Grew wb y)=>(by simpa using (Z1.out.grew g).cell 1 _ rfl:y.cell? ⟨w0.heap.size+1,1,none⟩=some (.int .i64 S.who)))
 have HY0:=hQ9 (fun y (g:Grew wb y)=>(by simpa using (Z5.out.grew g).cell 0 (.int .u64 (S.cm:Nat)) (by rw [←HG1.out];rfl):y.cell? ⟨w4.heap.size,0,none⟩=some (.int .u64 (S.cm:Nat))))
 have HY1:=hQ9 (fun y (g:Grew wb y)=>(by simpa using (Z5.out.grew g).cell 1 (.int .i64 S.who) (by rw [←HG1.out];rfl):y.cell? ⟨w4.heap.size,1,none⟩=some (.int .i64 S.who)))
 have R5:Hid (∀ y,Grew wb y→(S.mv A4 c4).at y):=hQ9 (fun y g=>HR4.out.gr (ze HS58.out (ze g8b g)))
 have R6:=hQ9 (fun y (g:Grew wb y)=>Rd.gr HR6.out (ze g8b g))
 have R7:=hQ9 (fun y (g:Grew wb y)=>Rd.gr hr7 (ze gsb g))
 have R0:Hid (∀ y,Grew wb y→S.at y):=hQ9 (fun y g=>HAT.out.gr (ze GB g))
 have HKY:Hid (∀ y,Grew wb y→K.at y):=hQ9 (fun y g=>HKR.out.gr (ze GB g))
 have HSY:Hid (∀ y,Grew wb y→Std y):=hQ9 (fun y g=>HS.out.grew (ze GB g))
 have HGB:=hQ9 GB
 have HLX:Hid (lx.length≤1048576):=hQ9 (by have:=HIN.out.len;dsimp only at this;omega)
 obtain⟨ev,hev⟩:∃ v,kvE K.f K.R K.h S.cm S.who S.sw S.lf S.s S.l=v:=⟨_,rfl⟩
 obtain⟨dv,hdv⟩:∃ v,akD S.cm S.who=v:=⟨_,rfl⟩
 obtain⟨tw,htw⟩:∃ t:ByteArray,⟨(akW S.cm S.who).toArray⟩=t:=⟨_,rfl⟩
 have CTK:Hid (∀ W,K.at W→Calls Tryz.prog 36 #[.agg K.C] W fun e w'=>(∃ A' c',e=.returned (.agg (kyS K.f A' K.R.length c' K.h))∧Rd w' w'.heap.size A' (u64L K.R))∧Grew W w'):=hQ9 (fun W h=>(zjy K.f K.R K.RA K.Rc K.h (by have:=HK.out.len;omega) W h).mono (by rintro e z ⟨A',c',h1,h2,h3,-⟩;exact⟨⟨A',c',h1,h2⟩,h3⟩))
 have CV:Hid (∀ A' c' W,Std W→Rd W W.heap.size A' (u64L K.R)→(S.mv A4 c4).at W→Calls Tryz.prog 35 #[.agg (kyS K.f A' K.R.length c' K.h),.agg g1] W fun e w'=>e=.returned (.int .i64 ev)∧Grew W w'):=hQ9 (fun A' c' W h1 h2 h3=>by
  have hK':(⟨K.f,K.R,A',c',K.h⟩:KP).ok:=⟨HK.out.f,HK.out.len,HK.out.b⟩
  have:=xp hK' HMO.out W h1 h2 h3
  rw [HG1.out,show kvS (⟨K.f,K.R,A',c',K.h⟩:KP) (S.mv A4 c4)=ev from hev]at this
  exact this)
 have CVR:Hid (∀ W,Std W→K.at W→S.at W→Calls Tryz.prog 37 #[.agg K.C,.agg S.C] W fun e w'=>e=.returned (.int .i64 ev)∧Grew W w'):=hQ9 (fun W h0 h1 h2=>by
  have:=zfp K.f HK.out.f K.R K.RA K.Rc K.h S.cm S.who S.sw S.lf S.s S.A S.c S.l HSO.out.cm HSO.out.who HSO.out.sw HSO.out.lf HSO.out.len HSO.out.s HSO.out.l HK.out.len W h0 h1 h2
  rw [hev]at this
  exact this)
 have CDA:Hid (∀ W,Std W→Calls Tryz.prog 38 #[.int .u64 (S.cm:Nat),.int .i64 S.who] W fun e w'=>e=.returned (.int .u64 (dv:Nat))∧Grew W w'):=hQ9 (fun W h=>by
  have:=xE S.cm S.who HSO.out.cm HSO.out.who W h
  rw [hdv]at this
  exact this)
 have CDR:Hid (∀ W,Calls Tryz.prog 39 #[.int .u64 (S.cm:Nat),.int .i64 S.who] W fun e w'=>e=.returned (.int .u64 (dv:Nat))∧Grew W w'):=hQ9 (fun W=>by
  have:=jI S.cm S.who HSO.out.cm HSO.out.who W
  rw [hdv]at this
  exact this)
 have CWA:Hid (∀ W,Std W→Calls Tryz.prog 40 #[.int .u64 (S.cm:Nat),.int .i64 S.who] W fun e w'=>e=.returned (.string tw)∧Grew W w'):=hQ9 (fun W h=>by
  have:=k9 S.cm S.who HSO.out.cm HSO.out.who W h
  rw [htw]at this
  exact this)
 have CWR:Hid (∀ W,Calls Tryz.prog 41 #[.int .u64 (S.cm:Nat),.int .i64 S.who] W fun e w'=>e=.returned (.string tw)∧Grew W w'):=hQ9 (fun W=>by
  have:=qE S.cm S.who HSO.out.cm HSO.out.who W
  rw [htw]at this
  exact this)
 have COF:Hid (∀ W,Rd W W.heap.size A6 (u64L lx)→Calls Tryz.prog 43 #[.agg g3] W fun e w'=>(∃ A c,e=.returned (.agg (akC cx wx swx lfx sx (.slice A lx.length c)))∧Rd w' w'.heap.size A (u64L lx))∧Grew W w'):=hQ9 (fun W h=>by
  have:=zgw cx wx swx lfx sx A6 c6 lx HLX.out W h
  rw [HG3.out]at this
  refine this.mono ?_
  rintro e z ⟨A,c,h1,h2,h3,-⟩
  exact⟨⟨A,c,h1,h2⟩,h3⟩)
 have CSC:Hid (∀ A c W,Rd W W.heap.size A (u64L lx)→Rd W W.heap.size A7 (u64L lx)→Calls Tryz.prog 42 #[.agg (akC cx wx swx lfx sx (.slice A lx.length c)),.agg g4] W fun e w'=>e=.returned (.bool true)∧Grew W w'):=hQ9 (fun A c W h1 h2=>by
  have:=za3 cx wx swx lfx sx A A7 c c7 lx HLX.out W h1 h2
  rw [HG4.out]at this
  exact this)
 rw [hg4]
 clear hwb htb g9 ga gsb g8b hr7 hg4 z0 z1 z5 z8 zb G5 G8 G9 GB hev hdv htw HR4 HR6 HS58
 go_upto_region 8 with (with_reducible refine wpList_store_mid rfl 70 (.tmp 8) (.tmp 34) rfl wa.heap.size 0 g4 rfl rfl HTB.out SIB.out ONB.out ?_;rw [HWB.out])
 clear HWB HTB SIB ONB
 obtain⟨qx,hqx⟩:∃ b,w4.heap.size=b:=⟨_,rfl⟩
 obtain⟨qy,hqy⟩:∃ b,w7.heap.size=b:=⟨_,rfl⟩
 obtain⟨qz,hqz⟩:∃ b,wa.heap.size=b:=⟨_,rfl⟩
 rw [hqx]at HM5 HY0 HY1 ⊢
 rw [hqy]at HM6 ⊢
 rw [hqz]at HM8 ⊢
 clear hqx hqy hqz
 generalize S.C=ga at *
 refine zx 52 (fun ix9=>match ix9 with
  | 0=>fun v _=>v=.agg K.C
  | 1=>fun v W=>KyZ W K.R K.f K.h v
  | 2=>fun v _=>v=.agg g1
  | 3=>fun v _=>v=.int .i64 ev
  | 4=>fun v _=>v=.agg K.C
  | 5=>fun v _=>v=.agg ga
  | 6=>fun v _=>v=.int .i64 ev
  | 7=>fun v _=>v=.bool true
  | 8=>fun v _=>v=.bool true
  | 9=>fun v _=>v=.pointer (some ⟨qx,0,none⟩)
  | 10=>fun v _=>v=.int .u64 (S.cm:Nat)
  | 11=>fun v _=>v=.pointer (some ⟨qx,1,none⟩)
  | 12=>fun v _=>v=.int .i64 S.who
  | 13=>fun v _=>v=.int .u64 (dv:Nat)
  | 14=>fun v _=>v=.pointer (some ⟨w0.heap.size+1,0,none⟩)
  | 15=>fun v _=>v=.int .u64 (S.cm:Nat)
  | 16=>fun v _=>v=.pointer (some ⟨w0.heap.size+1,1,none⟩)
  | 17=>fun v _=>v=.int .i64 S.who
  | 18=>fun v _=>v=.int .u64 (dv:Nat)
  | 19=>fun v _=>v=.bool true
  | 20=>fun v _=>v=.bool true
  | 21=>fun v _=>v=.bool true
  | 22=>fun v _=>v=.pointer (some ⟨qx,0,none⟩)
  | 23=>fun v _=>v=.int .u64 (S.cm:Nat)
  | 24=>fun v _=>v=.pointer (some ⟨qx,1,none⟩)
  | 25=>fun v _=>v=.int .i64 S.who
  | 26=>fun v _=>v=.string tw
  | 27=>fun v _=>v=.pointer (some ⟨w0.heap.size+1,0,none⟩)
  | 28=>fun v _=>v=.int .u64 (S.cm:Nat)
  | 29=>fun v _=>v=.pointer (some ⟨w0.heap.size+1,1,none⟩)
  | 30=>fun v _=>v=.int .i64 S.who
  | 31=>fun v _=>v=.string tw
  | 32=>fun v _=>v=.bool true
  | 33=>fun v _=>v=.bool true
  | 34=>fun v _=>v=.bool true
  | 35=>fun v _=>v=.agg g1
  | 36=>fun v _=>v=.string tj
  | 37=>fun v _=>v=.agg ga
  | 38=>fun v _=>v=.string tj
  | 39=>fun v _=>v=.bool true
  | 40=>fun v _=>v=.bool true
  | 41=>fun v _=>v=.bool true
  | 42=>fun v _=>v=.int .i64 ex
  | 43=>fun v _=>v=.int .i64 ex
  | 44=>fun v _=>v=.bool true
  | 45=>fun v _=>v=.bool true
  | 46=>fun v _=>v=.bool true
  | 47=>fun v _=>v=.agg g3
  | 48=>fun v W=>AgK W 0 cx wx swx lfx sx lx v
  | 49=>fun v _=>v=.agg g4
  | 50=>fun v _=>v=.bool true
  | 51=>fun v _=>v=.bool true
  | _=>fun _ _=>True) (by kernel_rfl) (by kernel_rfl) ?_ ?_ ?_
 ·intro i v x y h hg
  match i,h with
  | 0,h | 2,h | 3,h | 4,h | 5,h | 6,h | 7,h | 8,h | 9,h | 10,h | 11,h | 12,h | 13,h | 14,h | 15,h | 16,h | 17,h | 18,h | 19,h | 20,h | 21,h | 22,h | 23,h | 24,h | 25,h | 26,h | 27,h | 28,h | 29,h | 30,h | 31,h | 32,h | 33,h | 34,h | 35,h | 36,h | 37,h | 38,h | 39,h | 40,h | 41,h | 42,h | 43,h | 44,h | 45,h | 46,h | 47,h | 49,h | 50,h | 51,h=>exact h
  | 1,h=>exact KyZ.gr h hg
  | 48,h=>exact AgK.gr h hg
  | m+52,_=>trivial
 ·simp only [actOf,tk1,tk0,dr1,dr0,Act.put,si1,st1,st0,Nat.reduceAdd]
  refine⟨?_,?_,?_,?_,?_,?_,?_,?_,?_,?_,?_,?_,?_,?_,?_,?_,?_,?_,?_,?_,?_,?_,?_,?_,?_,?_,?_,?_,?_,?_,?_,?_,?_,?_,?_,?_,?_,?_,?_,?_,?_,?_,?_,?_,?_,?_,?_,?_,?_,?_,?_,?_,trivial⟩
  ·intro vs y hg hd
   dsimp only
   have hm:=HM0.out y hg
   go_wp2_with(with_reducible refine wpList_load_mid rfl 64 (.tmp 2) rfl (w0.heap.size) 0 rfl K.C.toList _ hm huk rfl SIK.out ?_;simp only [Array.toArray_toList])
   exact⟨rfl,_,rfl,za _,rfl⟩
  ·intro vs y hg hd
   obtain⟨h0,_⟩:=hd
   replace h0:=h0 rfl
   dsimp only
   rw [show vs 0=_ from h0]
   have hks:=HKY.out y hg
   go_wp2_with(go_at_call 36;refine(CTK.out y hks).mono ?_;rintro e z ⟨⟨A9,c9,rfl,hrd9⟩,gz⟩)
   exact⟨rfl,_,rfl,gz,⟨A9,c9,rfl,hrd9⟩⟩
  ·intro vs y hg hd
   dsimp only
   have hm:=HM5.out y hg
   go_wp2_with(with_reducible refine wpList_load_mid rfl 79 (.tmp 5) rfl (qx) 0 rfl g1.toList _ hm hut rfl SL1.out ?_;simp only [Array.toArray_toList])
   exact⟨rfl,_,rfl,za _,rfl⟩
  ·intro vs y hg hd
   obtain⟨h1,h2,_⟩:=hd
   replace h1:=h1 rfl
   replace h2:=h2 rfl
   dsimp only
   rw [show vs 2=_ from h2]
   obtain⟨A6x,c6x,e6x,hrd6⟩:=KyZ.out h1
   rw [e6x]
   have hgS:=HSY.out y hg
   have hr5:=R5.out y hg
   go_wp2_with(go_at_call 35;refine(CV.out A6x c6x y hgS hrd6 hr5).mono ?_;rintro e z ⟨rfl,gz⟩)
   exact⟨rfl,_,rfl,gz,rfl⟩
  ·intro vs y hg hd
   dsimp only
   have hm:=HM0.out y hg
   go_wp2_with(with_reducible refine wpList_load_mid rfl 64 (.tmp 2) rfl (w0.heap.size) 0 rfl K.C.toList _ hm huk rfl SIK.out ?_;simp only [Array.toArray_toList])
   exact⟨rfl,_,rfl,za _,rfl⟩
  ·intro vs y hg hd
   dsimp only
   have hm:=HM1.out y hg
   go_wp2_with(with_reducible refine wpList_load_mid rfl 70 (.tmp 3) rfl (w0.heap.size+1) 0 rfl ga.toList _ hm hur rfl SI0.out ?_;simp only [Array.toArray_toList])
   exact⟨rfl,_,rfl,za _,rfl⟩
  ·intro vs y hg hd
   obtain⟨h4,h5,_⟩:=hd
   replace h4:=h4 rfl
   replace h5:=h5 rfl
   dsimp only
   rw [show vs 4=_ from h4,show vs 5=_ from h5]
   have hgS:=HSY.out y hg
   have hks:=HKY.out y hg
   have hr0:=R0.out y hg
   go_wp2_with(go_at_call 37;refine(CVR.out y hgS hks hr0).mono ?_;rintro e z ⟨rfl,gz⟩)
   exact⟨rfl,_,rfl,gz,rfl⟩
  ·intro vs y hg hd
   obtain⟨h3,h6,_⟩:=hd
   replace h3:=h3 rfl
   replace h6:=h6 rfl
   dsimp only
   rw [show vs 3=_ from h3,show vs 6=_ from h6]
   go_wp2_with fail
   exact⟨rfl,_,rfl,za _,by simp⟩
  ·intro vs y hg hd
   obtain⟨h7,_⟩:=hd
   replace h7:=h7 rfl
   dsimp only
   rw [show vs 7=_ from h7]
   go_wp2_with fail
   exact⟨rfl,_,rfl,za _,rfl⟩
  ·intro vs y hg hd
   have hx:(Region.binds .any { on:=8,ground:=.guard }=true→vs 8=.bool true)∧True:=hd
   have h8:vs 8=.bool true:=hx.1 rfl
   clear hx
   dsimp only
   rw [show vs 8=_ from h8]
   go_wp2_with fail
   exact⟨rfl,_,rfl,za _,rfl⟩
  ·intro vs y hg hd
   have hx:(Region.binds .any { on:=9,ground:=.data }=true→vs 9=.pointer (some ⟨qx,0,none⟩))∧(Region.binds .any { on:=8,ground:=.guard }=true→vs 8=.bool true)∧True:=hd
   have h9:vs 9=.pointer (some ⟨qx,0,none⟩):=hx.1 rfl
   have h8:vs 8=.bool true:=hx.2.1 rfl
   clear hx
   dsimp only
   rw [show vs 9=_ from h9,show vs 8=_ from h8]
   have hc:=HY0.out y hg
   go_wp2_with fail
   exact⟨rfl,_,rfl,za _,rfl⟩
  ·intro vs y hg hd
   have hx:(Region.binds .any { on:=8,ground:=.guard }=true→vs 8=.bool true)∧True:=hd
   have h8:vs 8=.bool true:=hx.1 rfl
   clear hx
   dsimp only
   rw [show vs 8=_ from h8]
   go_wp2_with fail
   exact⟨rfl,_,rfl,za _,rfl⟩
  ·intro vs y hg hd
   have hx:(Region.binds .any { on:=11,ground:=.data }=true→vs 11=.pointer (some ⟨qx,1,none⟩))∧(Region.binds .any { on:=8,ground:=.guard }=true→vs 8=.bool true)∧True:=hd
   have h11:vs 11=.pointer (some ⟨qx,1,none⟩):=hx.1 rfl
   have h8:vs 8=.bool true:=hx.2.1 rfl
   clear hx
   dsimp only
   rw [show vs 11=_ from h11,show vs 8=_ from h8]
   have hc:=HY1.out y hg
   go_wp2_with fail
   exact⟨rfl,_,rfl,za _,rfl⟩
  ·intro vs y hg hd
   have hx:(Region.binds .any { on:=10,ground:=.data }=true→vs 10=.int .u64 (S.cm:Nat))∧(Region.binds .any { on:=12,ground:=.data }=true→vs 12=.int .i64 S.who)∧(Region.binds .any { on:=8,ground:=.chain }=true→vs 8=.bool true)∧(Region.binds .any { on:=8,ground:=.guard }=true→vs 8=.bool true)∧True:=hd
   have h10:vs 10=.int .u64 (S.cm:Nat):=hx.1 rfl
   have h12:vs 12=.int .i64 S.who:=hx.2.1 rfl
   have h8:vs 8=.bool true:=hx.2.2.2.1 rfl
   clear hx
   dsimp only
   rw [show vs 10=_ from h10,show vs 12=_ from h12,show vs 8=_ from h8]
   have hgS:=HSY.out y hg
   go_wp2_with(go_at_call 38;refine(CDA.out y hgS).mono ?_;rintro e z ⟨rfl,gz⟩)
   exact⟨rfl,_,rfl,gz,rfl⟩
  ·intro vs y hg hd
   have hx:(Region.binds .any { on:=8,ground:=.guard }=true→vs 8=.bool true)∧True:=hd
   have h8:vs 8=.bool true:=hx.1 rfl
   clear hx
   dsimp only
   rw [show vs 8=_ from h8]
   go_wp2_with fail
   exact⟨rfl,_,rfl,za _,rfl⟩
  ·intro vs y hg hd
   have hx:(Region.binds .any { on:=14,ground:=.data }=true→vs 14=.pointer (some ⟨w0.heap.size+1,0,none⟩))∧(Region.binds .any { on:=8,ground:=.guard }=true→vs 8=.bool true)∧True:=hd
   have h14:vs 14=.pointer (some ⟨w0.heap.size+1,0,none⟩):=hx.1 rfl
   have h8:vs 8=.bool true:=hx.2.1 rfl
   clear hx
   dsimp only
   rw [show vs 14=_ from h14,show vs 8=_ from h8]
   have hc:=HS0.out y hg
   go_wp2_with fail
   exact⟨rfl,_,rfl,za _,rfl⟩
  ·intro vs y hg hd
   have hx:(Region.binds .any { on:=8,ground:=.guard }=true→vs 8=.bool true)∧True:=hd
   have h8:vs 8=.bool true:=hx.1 rfl
   clear hx
   dsimp only
   rw [show vs 8=_ from h8]
   go_wp2_with fail
   exact⟨rfl,_,rfl,za _,rfl⟩
  ·intro vs y hg hd
   have hx:(Region.binds .any { on:=16,ground:=.data }=true→vs 16=.pointer (some ⟨w0.heap.size+1,1,none⟩))∧(Region.binds .any { on:=8,ground:=.guard }=true→vs 8=.bool true)∧True:=hd
   have h16:vs 16=.pointer (some ⟨w0.heap.size+1,1,none⟩):=hx.1 rfl
   have h8:vs 8=.bool true:=hx.2.1 rfl
   clear hx
   dsimp only
   rw [show vs 16=_ from h16,show vs 8=_ from h8]
   have hc:=HS1.out y hg
   go_wp2_with fail
   exact⟨rfl,_,rfl,za _,rfl⟩
  ·intro vs y hg hd
   have hx:(Region.binds .any { on:=15,ground:=.data }=true→vs 15=.int .u64 (S.cm:Nat))∧(Region.binds .any { on:=17,ground:=.data }=true→vs 17=.int .i64 S.who)∧(Region.binds .any { on:=13,ground:=.chain }=true→vs 13=.int .u64 (dv:Nat))∧(Region.binds .any { on:=8,ground:=.guard }=true→vs 8=.bool true)∧True:=hd
   have h15:vs 15=.int .u64 (S.cm:Nat):=hx.1 rfl
   have h17:vs 17=.int .i64 S.who:=hx.2.1 rfl
   have h8:vs 8=.bool true:=hx.2.2.2.1 rfl
   clear hx
   dsimp only
   rw [show vs 15=_ from h15,show vs 17=_ from h17,show vs 8=_ from h8]
   go_wp2_with(go_at_call 39;refine(CDR.out y).mono ?_;rintro e z ⟨rfl,gz⟩)
   exact⟨rfl,_,rfl,gz,rfl⟩
  ·intro vs y hg hd
   have hx:(Region.binds .any { on:=13,ground:=.data }=true→vs 13=.int .u64 (dv:Nat))∧(Region.binds .any { on:=18,ground:=.data }=true→vs 18=.int .u64 (dv:Nat))∧(Region.binds .any { on:=8,ground:=.guard }=true→vs 8=.bool true)∧True:=hd
   have h13:vs 13=.int .u64 (dv:Nat):=hx.1 rfl
   have h18:vs 18=.int .u64 (dv:Nat):=hx.2.1 rfl
   have h8:vs 8=.bool true:=hx.2.2.1 rfl
   clear hx
   dsimp only
   rw [show vs 13=_ from h13,show vs 18=_ from h18,show vs 8=_ from h8]
   go_wp2_with fail
   exact⟨rfl,_,rfl,za _,by simp⟩
  ·intro vs y hg hd
   obtain⟨h8,h19,_⟩:=hd
   replace h8:=h8 rfl
   replace h19:=h19 rfl
   dsimp only
   rw [show vs 8=_ from h8,show vs 19=_ from h19]
   go_wp2_with fail
   exact⟨rfl,_,rfl,za _,rfl⟩
  ·intro vs y hg hd
   obtain⟨h20,_⟩:=hd
   replace h20:=h20 rfl
   dsimp only
   rw [show vs 20=_ from h20]
   go_wp2_with fail
   exact⟨rfl,_,rfl,za _,rfl⟩
  ·intro vs y hg hd
   have hx:(Region.binds .any { on:=21,ground:=.guard }=true→vs 21=.bool true)∧True:=hd
   have h21:vs 21=.bool true:=hx.1 rfl
   clear hx
   dsimp only
   rw [show vs 21=_ from h21]
   go_wp2_with fail
   exact⟨rfl,_,rfl,za _,rfl⟩
  ·intro vs y hg hd
   have hx:(Region.binds .any { on:=22,ground:=.data }=true→vs 22=.pointer (some ⟨qx,0,none⟩))∧(Region.binds .any { on:=21,ground:=.guard }=true→vs 21=.bool true)∧True:=hd
   have h22:vs 22=.pointer (some ⟨qx,0,none⟩):=hx.1 rfl
   have h21:vs 21=.bool true:=hx.2.1 rfl
   clear hx
   dsimp only
   rw [show vs 22=_ from h22,show vs 21=_ from h21]
   have hc:=HY0.out y hg
   go_wp2_with fail
   exact⟨rfl,_,rfl,za _,rfl⟩
  ·intro vs y hg hd
   have hx:(Region.binds .any { on:=21,ground:=.guard }=true→vs 21=.bool true)∧True:=hd
   have h21:vs 21=.bool true:=hx.1 rfl
   clear hx
   dsimp only
   rw [show vs 21=_ from h21]
   go_wp2_with fail
   exact⟨rfl,_,rfl,za _,rfl⟩
  ·intro vs y hg hd
   have hx:(Region.binds .any { on:=24,ground:=.data }=true→vs 24=.pointer (some ⟨qx,1,none⟩))∧(Region.binds .any { on:=21,ground:=.guard }=true→vs 21=.bool true)∧True:=hd
   have h24:vs 24=.pointer (some ⟨qx,1,none⟩):=hx.1 rfl
   have h21:vs 21=.bool true:=hx.2.1 rfl
   clear hx
   dsimp only
   rw [show vs 24=_ from h24,show vs 21=_ from h21]
   have hc:=HY1.out y hg
   go_wp2_with fail
   exact⟨rfl,_,rfl,za _,rfl⟩
  ·intro vs y hg hd
   have hx:(Region.binds .any { on:=23,ground:=.data }=true→vs 23=.int .u64 (S.cm:Nat))∧(Region.binds .any { on:=25,ground:=.data }=true→vs 25=.int .i64 S.who)∧(Region.binds .any { on:=21,ground:=.chain }=true→vs 21=.bool true)∧(Region.binds .any { on:=21,ground:=.guard }=true→vs 21=.bool true)∧True:=hd
   have h23:vs 23=.int .u64 (S.cm:Nat):=hx.1 rfl
   have h25:vs 25=.int .i64 S.who:=hx.2.1 rfl
   have h21:vs 21=.bool true:=hx.2.2.2.1 rfl
   clear hx
   dsimp only
   rw [show vs 23=_ from h23,show vs 25=_ from h25,show vs 21=_ from h21]
   have hgS:=HSY.out y hg
   go_wp2_with(go_at_call 40;refine(CWA.out y hgS).mono ?_;rintro e z ⟨rfl,gz⟩)
   exact⟨rfl,_,rfl,gz,rfl⟩
  ·intro vs y hg hd
   have hx:(Region.binds .any { on:=21,ground:=.guard }=true→vs 21=.bool true)∧True:=hd
   have h21:vs 21=.bool true:=hx.1 rfl
   clear hx
   dsimp only
   rw [show vs 21=_ from h21]
   go_wp2_with fail
   exact⟨rfl,_,rfl,za _,rfl⟩
  ·intro vs y hg hd
   have hx:(Region.binds .any { on:=27,ground:=.data }=true→vs 27=.pointer (some ⟨w0.heap.size+1,0,none⟩))∧(Region.binds .any { on:=21,ground:=.guard }=true→vs 21=.bool true)∧True:=hd
   have h27:vs 27=.pointer (some ⟨w0.heap.size+1,0,none⟩):=hx.1 rfl
   have h21:vs 21=.bool true:=hx.2.1 rfl
   clear hx
   dsimp only
   rw [show vs 27=_ from h27,show vs 21=_ from h21]
   have hc:=HS0.out y hg
   go_wp2_with fail
   exact⟨rfl,_,rfl,za _,rfl⟩
  ·intro vs y hg hd
   have hx:(Region.binds .any { on:=21,ground:=.guard }=true→vs 21=.bool true)∧True:=hd
   have h21:vs 21=.bool true:=hx.1 rfl
   clear hx
   dsimp only
   rw [show vs 21=_ from h21]
   go_wp2_with fail
   exact⟨rfl,_,rfl,za _,rfl⟩
  ·intro vs y hg hd
   have hx:(Region.binds .any { on:=29,ground:=.data }=true→vs 29=.pointer (some ⟨w0.heap.size+1,1,none⟩))∧(Region.binds .any { on:=21,ground:=.guard }=true→vs 21=.bool true)∧True:=hd
   have h29:vs 29=.pointer (some ⟨w0.heap.size+1,1,none⟩):=hx.1 rfl
   have h21:vs 21=.bool true:=hx.2.1 rfl
   clear hx
   dsimp only
   rw [show vs 29=_ from h29,show vs 21=_ from h21]
   have hc:=HS1.out y hg
   go_wp2_with fail
   exact⟨rfl,_,rfl,za _,rfl⟩
  ·intro vs y hg hd
   have hx:(Region.binds .any { on:=28,ground:=.data }=true→vs 28=.int .u64 (S.cm:Nat))∧(Region.binds .any { on:=30,ground:=.data }=true→vs 30=.int .i64 S.who)∧(Region.binds .any { on:=26,ground:=.chain }=true→vs 26=.string tw)∧(Region.binds .any { on:=21,ground:=.guard }=true→vs 21=.bool true)∧True:=hd
   have h28:vs 28=.int .u64 (S.cm:Nat):=hx.1 rfl
   have h30:vs 30=.int .i64 S.who:=hx.2.1 rfl
   have h21:vs 21=.bool true:=hx.2.2.2.1 rfl
   clear hx
   dsimp only
   rw [show vs 28=_ from h28,show vs 30=_ from h30,show vs 21=_ from h21]
   go_wp2_with(go_at_call 41;refine(CWR.out y).mono ?_;rintro e z ⟨rfl,gz⟩)
   exact⟨rfl,_,rfl,gz,rfl⟩
  ·intro vs y hg hd
   have hx:(Region.binds .any { on:=26,ground:=.data }=true→vs 26=.string tw)∧(Region.binds .any { on:=31,ground:=.data }=true→vs 31=.string tw)∧(Region.binds .any { on:=21,ground:=.guard }=true→vs 21=.bool true)∧True:=hd
   have h26:vs 26=.string tw:=hx.1 rfl
   have h31:vs 31=.string tw:=hx.2.1 rfl
   have h21:vs 21=.bool true:=hx.2.2.1 rfl
   clear hx
   dsimp only
   rw [show vs 26=_ from h26,show vs 31=_ from h31,show vs 21=_ from h21]
   go_wp2_with fail
   exact⟨rfl,_,rfl,za _,by simp⟩
  ·intro vs y hg hd
   obtain⟨h21,h32,_⟩:=hd
   replace h21:=h21 rfl
   replace h32:=h32 rfl
   dsimp only
   rw [show vs 21=_ from h21,show vs 32=_ from h32]
   go_wp2_with fail
   exact⟨rfl,_,rfl,za _,rfl⟩
  ·intro vs y hg hd
   obtain⟨h33,_⟩:=hd
   replace h33:=h33 rfl
   dsimp only
   rw [show vs 33=_ from h33]
   go_wp2_with fail
   exact⟨rfl,_,rfl,za _,rfl⟩
  ·intro vs y hg hd
   have hx:(Region.binds .any { on:=34,ground:=.guard }=true→vs 34=.bool true)∧True:=hd
   have h34:vs 34=.bool true:=hx.1 rfl
   clear hx
   dsimp only
   rw [show vs 34=_ from h34]
   have hm:=HM5.out y hg
   go_wp2_with(refine zj (by rfl) 79 (.tmp 5) rfl (qx) 0 rfl g1.toList _ hm hut rfl SL1.out ?_;simp only [Array.toArray_toList])
   exact⟨rfl,_,rfl,za _,rfl⟩
  ·intro vs y hg hd
   have hx:(Region.binds .any { on:=35,ground:=.data }=true→vs 35=.agg g1)∧(Region.binds .any { on:=34,ground:=.chain }=true→vs 34=.bool true)∧(Region.binds .any { on:=34,ground:=.guard }=true→vs 34=.bool true)∧True:=hd
   have h35:vs 35=.agg g1:=hx.1 rfl
   have h34:vs 34=.bool true:=hx.2.2.1 rfl
   clear hx
   dsimp only
   rw [show vs 35=_ from h35,show vs 34=_ from h34]
   have hgS:=HSY.out y hg
   have hr5:=R5.out y hg
   go_wp2_with(go_at_call 32;refine(CTT.out y hgS hr5).mono ?_;rintro e z ⟨rfl,gz⟩)
   exact⟨rfl,_,rfl,gz,rfl⟩
  ·intro vs y hg hd
   have hx:(Region.binds .any { on:=34,ground:=.guard }=true→vs 34=.bool true)∧True:=hd
   have h34:vs 34=.bool true:=hx.1 rfl
   clear hx
   dsimp only
   rw [show vs 34=_ from h34]
   have hm:=HM1.out y hg
   go_wp2_with(refine zj (by rfl) 70 (.tmp 3) rfl (w0.heap.size+1) 0 rfl ga.toList _ hm hur rfl SI0.out ?_;simp only [Array.toArray_toList])
   exact⟨rfl,_,rfl,za _,rfl⟩
  ·intro vs y hg hd
   have hx:(Region.binds .any { on:=37,ground:=.data }=true→vs 37=.agg ga)∧(Region.binds .any { on:=36,ground:=.chain }=true→vs 36=.string tj)∧(Region.binds .any { on:=34,ground:=.guard }=true→vs 34=.bool true)∧True:=hd
   have h37:vs 37=.agg ga:=hx.1 rfl
   have h34:vs 34=.bool true:=hx.2.2.1 rfl
   clear hx
   dsimp only
   rw [show vs 37=_ from h37,show vs 34=_ from h34]
   have hr0:=R0.out y hg
   go_wp2_with(go_at_call 34;refine(CTR.out y hr0).mono ?_;rintro e z ⟨rfl,gz⟩)
   exact⟨rfl,_,rfl,gz,rfl⟩
  ·intro vs y hg hd
   have hx:(Region.binds .any { on:=36,ground:=.data }=true→vs 36=.string tj)∧(Region.binds .any { on:=38,ground:=.data }=true→vs 38=.string tj)∧(Region.binds .any { on:=34,ground:=.guard }=true→vs 34=.bool true)∧True:=hd
   have h36:vs 36=.string tj:=hx.1 rfl
   have h38:vs 38=.string tj:=hx.2.1 rfl
   have h34:vs 34=.bool true:=hx.2.2.1 rfl
   clear hx
   dsimp only
   rw [show vs 36=_ from h36,show vs 38=_ from h38,show vs 34=_ from h34]
   go_wp2_with fail
   exact⟨rfl,_,rfl,za _,by simp⟩
  ·intro vs y hg hd
   obtain⟨h34,h39,_⟩:=hd
   replace h34:=h34 rfl
   replace h39:=h39 rfl
   dsimp only
   rw [show vs 34=_ from h34,show vs 39=_ from h39]
   go_wp2_with fail
   exact⟨rfl,_,rfl,za _,rfl⟩
  ·intro vs y hg hd
   obtain⟨h40,_⟩:=hd
   replace h40:=h40 rfl
   dsimp only
   rw [show vs 40=_ from h40]
   go_wp2_with fail
   exact⟨rfl,_,rfl,za _,rfl⟩
  ·intro vs y hg hd
   have hx:(Region.binds .any { on:=41,ground:=.guard }=true→vs 41=.bool true)∧True:=hd
   have h41:vs 41=.bool true:=hx.1 rfl
   clear hx
   dsimp only
   rw [show vs 41=_ from h41]
   go_wp2_with fail
   exact⟨rfl,_,rfl,za _,rfl⟩
  ·intro vs y hg hd
   have hx:(Region.binds .any { on:=41,ground:=.guard }=true→vs 41=.bool true)∧True:=hd
   have h41:vs 41=.bool true:=hx.1 rfl
   clear hx
   dsimp only
   rw [show vs 41=_ from h41]
   go_wp2_with fail
   exact⟨rfl,_,rfl,za _,rfl⟩
  ·intro vs y hg hd
   have hx:(Region.binds .any { on:=42,ground:=.data }=true→vs 42=.int .i64 ex)∧(Region.binds .any { on:=43,ground:=.data }=true→vs 43=.int .i64 ex)∧(Region.binds .any { on:=41,ground:=.guard }=true→vs 41=.bool true)∧True:=hd
   have h42:vs 42=.int .i64 ex:=hx.1 rfl
   have h43:vs 43=.int .i64 ex:=hx.2.1 rfl
   have h41:vs 41=.bool true:=hx.2.2.1 rfl
   clear hx
   dsimp only
   rw [show vs 42=_ from h42,show vs 43=_ from h43,show vs 41=_ from h41]
   go_wp2_with fail
   exact⟨rfl,_,rfl,za _,by simp⟩
  ·intro vs y hg hd
   obtain⟨h41,h44,_⟩:=hd
   replace h41:=h41 rfl
   replace h44:=h44 rfl
   dsimp only
   rw [show vs 41=_ from h41,show vs 44=_ from h44]
   go_wp2_with fail
   exact⟨rfl,_,rfl,za _,rfl⟩
  ·intro vs y hg hd
   obtain⟨h45,_⟩:=hd
   replace h45:=h45 rfl
   dsimp only
   rw [show vs 45=_ from h45]
   go_wp2_with fail
   exact⟨rfl,_,rfl,za _,rfl⟩
  ·intro vs y hg hd
   have hx:(Region.binds .any { on:=46,ground:=.guard }=true→vs 46=.bool true)∧True:=hd
   have h46:vs 46=.bool true:=hx.1 rfl
   clear hx
   dsimp only
   rw [show vs 46=_ from h46]
   have hm:=HM6.out y hg
   go_wp2_with(refine zj (by rfl) 79 (.tmp 6) rfl (qy) 0 rfl g3.toList _ hm hut rfl SL3.out ?_;simp only [Array.toArray_toList])
   exact⟨rfl,_,rfl,za _,rfl⟩
  ·intro vs y hg hd
   have hx:(Region.binds .any { on:=47,ground:=.data }=true→vs 47=.agg g3)∧(Region.binds .any { on:=46,ground:=.chain }=true→vs 46=.bool true)∧(Region.binds .any { on:=46,ground:=.guard }=true→vs 46=.bool true)∧True:=hd
   have h47:vs 47=.agg g3:=hx.1 rfl
   have h46:vs 46=.bool true:=hx.2.2.1 rfl
   clear hx
   dsimp only
   rw [show vs 47=_ from h47,show vs 46=_ from h46]
   have hr6:=R6.out y hg
   go_wp2_with(go_at_call 43;refine(COF.out y hr6).mono ?_;rintro e z ⟨⟨A9,c9,rfl,hrd9⟩,gz⟩)
   exact⟨rfl,_,rfl,gz,⟨A9,c9,rfl,hrd9,fun ad h=>Nat.zero_le _⟩⟩
  ·intro vs y hg hd
   have hx:(Region.binds .any { on:=46,ground:=.guard }=true→vs 46=.bool true)∧True:=hd
   have h46:vs 46=.bool true:=hx.1 rfl
   clear hx
   dsimp only
   rw [show vs 46=_ from h46]
   have hm:=HM8.out y hg
   go_wp2_with(refine zj (by rfl) 70 (.tmp 8) rfl (qz) 0 rfl g4.toList _ hm hur rfl SL4.out ?_;simp only [Array.toArray_toList])
   exact⟨rfl,_,rfl,za _,rfl⟩
  ·intro vs y hg hd
   have hx:(Region.binds .any { on:=48,ground:=.data }=true→(fun v W=>AgK W 0 cx wx swx lfx sx lx v) (vs 48) y)∧(Region.binds .any { on:=49,ground:=.data }=true→vs 49=.agg g4)∧(Region.binds .any { on:=48,ground:=.chain }=true→(fun v W=>AgK W 0 cx wx swx lfx sx lx v) (vs 48) y)∧(Region.binds .any { on:=46,ground:=.guard }=true→vs 46=.bool true)∧True:=hd
   have h48:(fun v W=>AgK W 0 cx wx swx lfx sx lx v) (vs 48) y:=hx.1 rfl
   have h49:vs 49=.agg g4:=hx.2.1 rfl
   have h46:vs 46=.bool true:=hx.2.2.2.1 rfl
   clear hx
   dsimp only
   rw [show vs 49=_ from h49,show vs 46=_ from h46]
   obtain⟨A9,c9,e9,hrd9,-⟩:=AgK.out h48
   rw [e9]
   have hr7:=R7.out y hg
   go_wp2_with(go_at_call 42;refine(CSC.out A9 c9 y hrd9 hr7).mono ?_;rintro e z ⟨rfl,gz⟩)
   exact⟨rfl,_,rfl,gz,rfl⟩
  ·intro vs y hg hd
   obtain⟨h46,h50,_⟩:=hd
   replace h46:=h46 rfl
   replace h50:=h50 rfl
   dsimp only
   rw [show vs 46=_ from h46,show vs 50=_ from h50]
   go_wp2_with fail
   exact⟨rfl,_,rfl,za _,rfl⟩
 ·intro vs wf hg hJ
  have j0:vs 0=.agg K.C:=hJ 0 (by decide)
  have j2:vs 2=.agg g1:=hJ 2 (by decide)
  have j3:vs 3=.int .i64 ev:=hJ 3 (by decide)
  have j4:vs 4=.agg K.C:=hJ 4 (by decide)
  have j5:vs 5=.agg ga:=hJ 5 (by decide)
  have j6:vs 6=.int .i64 ev:=hJ 6 (by decide)
  have j7:vs 7=.bool true:=hJ 7 (by decide)
  have j8:vs 8=.bool true:=hJ 8 (by decide)
  have j9:vs 9=.pointer (some ⟨qx,0,none⟩):=hJ 9 (by decide)
  have j10:vs 10=.int .u64 (S.cm:Nat):=hJ 10 (by decide)
  have j11:vs 11=.pointer (some ⟨qx,1,none⟩):=hJ 11 (by decide)
  have j12:vs 12=.int .i64 S.who:=hJ 12 (by decide)
  have j13:vs 13=.int .u64 (dv:Nat):=hJ 13 (by decide)
  have j14:vs 14=.pointer (some ⟨w0.heap.size+1,0,none⟩):=hJ 14 (by decide)
  have j15:vs 15=.int .u64 (S.cm:Nat):=hJ 15 (by decide)
  have j16:vs 16=.pointer (some ⟨w0.heap.size+1,1,none⟩):=hJ 16 (by decide)
  have j17:vs 17=.int .i64 S.who:=hJ 17 (by decide)
  have j18:vs 18=.int .u64 (dv:Nat):=hJ 18 (by decide)
  have j19:vs 19=.bool true:=hJ 19 (by decide)
  have j20:vs 20=.bool true:=hJ 20 (by decide)
  have j21:vs 21=.bool true:=hJ 21 (by decide)
  have j22:vs 22=.pointer (some ⟨qx,0,none⟩):=hJ 22 (by decide)
  have j23:vs 23=.int .u64 (S.cm:Nat):=hJ 23 (by decide)
  have j24:vs 24=.pointer (some ⟨qx,1,none⟩):=hJ 24 (by decide)
  have j25:vs 25=.int .i64 S.who:=hJ 25 (by decide)
  have j26:vs 26=.string tw:=hJ 26 (by decide)
  have j27:vs 27=.pointer (some ⟨w0.heap.size+1,0,none⟩):=hJ 27 (by decide)
  have j28:vs 28=.int .u64 (S.cm:Nat):=hJ 28 (by decide)
  have j29:vs 29=.pointer (some ⟨w0.heap.size+1,1,none⟩):=hJ 29 (by decide)
  have j30:vs 30=.int .i64 S.who:=hJ 30 (by decide)
  have j31:vs 31=.string tw:=hJ 31 (by decide)
  have j32:vs 32=.bool true:=hJ 32 (by decide)
  have j33:vs 33=.bool true:=hJ 33 (by decide)
  have j34:vs 34=.bool true:=hJ 34 (by decide)
  have j35:vs 35=.agg g1:=hJ 35 (by decide)
  have j36:vs 36=.string tj:=hJ 36 (by decide)
  have j37:vs 37=.agg ga:=hJ 37 (by decide)
  have j38:vs 38=.string tj:=hJ 38 (by decide)
  have j39:vs 39=.bool true:=hJ 39 (by decide)
  have j40:vs 40=.bool true:=hJ 40 (by decide)
  have j41:vs 41=.bool true:=hJ 41 (by decide)
  have j42:vs 42=.int .i64 ex:=hJ 42 (by decide)
  have j43:vs 43=.int .i64 ex:=hJ 43 (by decide)
  have j44:vs 44=.bool true:=hJ 44 (by decide)
  have j45:vs 45=.bool true:=hJ 45 (by decide)
  have j46:vs 46=.bool true:=hJ 46 (by decide)
  have j47:vs 47=.agg g3:=hJ 47 (by decide)
  have j49:vs 49=.agg g4:=hJ 49 (by decide)
  have j50:vs 50=.bool true:=hJ 50 (by decide)
  have j51:vs 51=.bool true:=hJ 51 (by decide)
  have s37:=hJ 1 (by decide)
  have s84:=hJ 48 (by decide)
  clear hJ
  simp only [actOf,tk1,tk0,dr1,dr0,Act.put,si1,st1,st0,Nat.reduceAdd]
  go_wp2_with fail
  go_ret
  exact⟨rfl,ze HGB.out hg⟩
end Go.Proofs.YtkpnheenacchhaaGreatDoor
