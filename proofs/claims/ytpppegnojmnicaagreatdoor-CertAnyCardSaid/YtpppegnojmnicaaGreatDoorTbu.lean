/- CertMakes: the law (mkckl.py). -/
import Derived.Test.YtpppegnojmnicaaGreatDoorTzz
import Derived.Test.YtpppegnojmnicaaGreatDoorTbt
import Derived.Test.YtpppegnojmnicaaGreatDoorTbq
import Derived.Test.YtpppegnojmnicaaGreatDoorTbp
import Derived.Test.YtpppegnojmnicaaGreatDoorTbr
import Derived.Test.YtpppegnojmnicaaGreatDoorTba
set_option maxHeartbeats 8000000
set_option maxRecDepth 100000
set_option linter.unusedSimpArgs false
set_option linter.unusedVariables false
namespace Go.Proofs.YtpppegnojmnicaaGreatDoor
open Go.RowKit
structure KyR (w:World) (f:Int) (R:List Nat) (h:Int) (v:Value):Prop where
 out:∃ A c,v=.agg (kyS f A R.length c h)∧Rd w w.heap.size A (u64L R)
theorem KyR.gr {w w':World} {f:Int} {R:List Nat} {h:Int} {v:Value} (k:KyR w f R h v) (g:Grew w w'):KyR w' f R h v:=by
 obtain⟨A,c,h1,h2⟩:=k.out
 exact⟨A,c,h1,h2.gr g⟩
structure MvS (w:World) (L:List SP) (v:Value):Prop where
 out:∃ B k M,v=.slice B L.length k∧MvL L M∧Sps w B M
theorem MvS.gr {w w':World} {L:List SP} {v:Value} (h:MvS w L v) (g:Grew w w'):MvS w' L v:=by
 obtain⟨B,k,M,h1,h2,h3⟩:=h.out
 exact⟨B,k,M,h1,h2,h3.gr g⟩
structure CrR (w:World) (mcm:Cm) (LE:List SP) (v:Value):Prop where
 out:∃ B k M,v=.agg (ctC mcm B LE.length k)∧MvL LE M∧Sps w B M
theorem CrR.gr {w w':World} {mcm:Cm} {LE:List SP} {v:Value} (h:CrR w mcm LE v) (g:Grew w w'):CrR w' mcm LE v:=by
 obtain⟨B,k,M,h1,h2,h3⟩:=h.out
 exact⟨B,k,M,h1,h2,h3.gr g⟩
theorem zsw {w:World} {A:Option Addr} {L:List SP} (hf:fewB L=true) (hr:RdG w A L) (hok:∀ S∈L,S.l.length≤1000→S.ok) (hat:∀ S∈L,S.at w):SpsG w A L∧L.length≤12:=by
 unfold fewB at hf
 simp only [Bool.and_eq_true,decide_eq_true_eq,List.all_eq_true]at hf
 exact⟨⟨hr,fun S hS=>hok S hS (by have:=hf.2 S hS;omega),hat⟩,hf.1⟩
structure CrS (w:World) (c:Cm) (L:List SP) (n:Nat) (v:Value):Prop where
 out:∃ B k M,v=.agg (ctC c B n k)∧MvL L M∧Sps w B M
theorem CrS.gr {w w':World} {c:Cm} {L:List SP} {n:Nat} {v:Value} (h:CrS w c L n v) (g:Grew w w'):CrS w' c L n v:=by
 obtain⟨B,k,M,h1,h2,h3⟩:=h.out
 exact⟨B,k,M,h1,h2,h3.gr g⟩
theorem znz {L:List SP} (hf:fewB L=true):∀ S∈L,S.l.length≤9:=by
 unfold fewB at hf
 simp only [Bool.and_eq_true,decide_eq_true_eq,List.all_eq_true]at hf
 exact hf.2
theorem zh9 (K:KP) (hRb:∀ z∈K.R,z<18446744073709551616) (c:Cm) (hcin:c.in) (A:Option Addr) (cap:Nat) (L:List SP) (w:World) (hS:Std w)
 (hrR:K.at w) (hrd:RdG w A L) (hok:∀ S∈L,S.l.length≤1000→S.ok) (hat:∀ S∈L,S.at w) :
 Calls Tryz.prog 3 #[.agg K.C,.agg (ctC c A L.length cap)] w fun e w'=>e=.returned (.bool true)∧Grew w w':=by
 have z0:=(Ag.new w 24 K.C).grew (ze (za _) (.cells (ctC c A L.length cap) 29))
 have z1:=Ag.new (w.alloc (.cells K.C 24)) 29 (ctC c A L.length cap)
 rw [zD]at z1
 have G0:=ze (ze (za w) (.cells K.C 24)) (.cells (ctC c A L.length cap) 29)
 have huk:=Tryz.underlying24
 have hut:=Tryz.underlying36
 have hur:=Tryz.underlying29
 have SIK:Hid ((Tryz.prog.info? 24).map (·.size)=some K.C.toList.length):=hQ9 zdg
 have CK:=hQ9 (fun W hW=>kn12 W hW)
 have CCK:Hid (∀ W,Calls Tryz.prog 16 #[.agg K.C] W fun e w'=>e=.returned (.int .i64 (cyE K.f K.R.length K.h))∧Grew W w'):=hQ9 (fun W=>zh4 K.f K.R K.RA K.Rc K.h W)
 have CF0:=fun W (h:RdG W A L)=>zsu c A cap L W h
 have CTO0:=fun W (h:L.length≤100000) (h2:SpsG W A L)=>znu c A cap L h W h2
 have CTX0:=fun W (h:L.length≤40) (h2:SpsG W A L)=>qT c hcin A cap L h W h2
 have CDG0:=fun W (h:L.length≤40) (h2:SpsG W A L)=>zdt c hcin A cap L h W h2
 have CAT0:=fun W (h:L.length≤40) (h2:SpsG W A L)=>rat_ok c A cap L h W h2
 have CVR0:=fun W (hK:K.ok) (h:L.length≤40) (h1:K.at W) (h2:SpsG W A L)=>ze4 c hK A cap L h W h1 h2
 obtain⟨g0,hg0⟩:∃ g,ctC c A L.length cap=g:=⟨_,rfl⟩
 have SIG0:Hid ((Tryz.prog.info? 29).map (·.size)=some g0.toList.length):=hQ9 (by rw [←hg0];exact ye)
 rw [hg0]at z0 z1 G0 CF0 CTO0 CTX0 CDG0 CAT0 CVR0 ⊢
 have CF1:=hQ9 CF0
 have CTO1:=hQ9 CTO0
 have CTX1:=hQ9 CTX0
 have CDG1:=hQ9 CDG0
 have CAT1:=hQ9 CAT0
 have CVR1:=hQ9 CVR0
 have HS:=hQ9 hS
 have HRd:=hQ9 hrd
 have HOK:=hQ9 hok
 have HAT:=hQ9 hat
 have HKR:=hQ9 hrR
 have HRb:=hQ9 hRb
 have HCI:=hQ9 hcin
 have HMX:Hid (∀ y,Grew w y→5<y.heap.size):=hQ9 (fun y g=>by
  obtain⟨m,h⟩:=hS.mx
  exact Nat.lt_of_lt_of_le (jw h) g.size)
 clear hS hrd hok hat hrR hRb hg0 CF0 CTO0 CTX0 CDG0 CAT0 CVR0 hcin
 go_enter Tryz.func3,Tryz.ntmps3
 go_wp2_with fail
 refine(CK.out _ (HS.out.grew G0)).mono ?_
 rintro e w1 ⟨rfl,gg⟩
 have z0:=z0.grew gg
 have z1:=z1.grew gg
 have G1:=zc G0 gg
 clear CK gg G0
 have hmk:=z0.cell
 go_wp2_with(with_reducible refine wpList_load_mid rfl 24 (.tmp 2) rfl w.heap.size 0 rfl K.C.toList _ hmk huk rfl SIK.out ?_;simp only [Array.toArray_toList])
 refine(CCK.out _).mono ?_
 rintro e w2 ⟨rfl,gg⟩
 have z0:=z0.grew gg
 have z1:=z1.grew gg
 have G2:=zc G1 gg
 clear CCK gg G1 hmk
 by_cases hcy:cyE K.f K.R.length K.h=0
 rotate_left
 ·have e15:(cyE K.f K.R.length K.h != 0)=true:=by simpa using hcy
  clear hcy z0 z1
  generalize cyE K.f K.R.length K.h=ey at *
  go_wp2_with fail
  go_ret
  exact⟨rfl,G2⟩
 have HCY:=hQ9 hcy
 rw [hcy]
 clear hcy
 have CF:=CF1.out w2 (HRd.out.gr G2)
 have hmc:=z1.cell
 cases hfw:fewB L with
 | false =>
  rw [hfw]at CF
  have HCF:=hQ9 CF
  clear CF z0 z1 hfw
  go_wp2_with(refine zl (by rfl) 29 (.tmp 3) rfl (w.heap.size+1) 0 rfl g0.toList _ hmc hur rfl SIG0.out ?_;simp only [Array.toArray_toList])
  refine HCF.out.mono ?_
  rintro e w3 ⟨rfl,gg⟩
  go_wp2_with fail
  go_ret
  exact⟨rfl,zc G2 gg⟩
 | true =>
 rw [hfw]at CF
 have HCF:=hQ9 CF
 have hsp:=zsw hfw HRd.out HOK.out HAT.out
 have HSP0:=hQ9 hsp.1
 have HL12:=hQ9 hsp.2
 have H9:=hQ9 (znz hfw)
 clear CF hsp HRd HOK HAT hfw
 go_wp2_with(refine zl (by rfl) 29 (.tmp 3) rfl (w.heap.size+1) 0 rfl g0.toList _ hmc hur rfl SIG0.out ?_;simp only [Array.toArray_toList])
 clear hmc
 refine HCF.out.mono ?_
 rintro e w3 ⟨rfl,gg⟩
 have z0:=z0.grew gg
 have z1:=z1.grew gg
 have G3:=zc G2 gg
 clear HCF gg G2
 have hK:K.ok:=by
  have h1:=HCY.out
  unfold cyE at h1
  split at h1
  ·cases h1
  ·split at h1
   ·rename_i h2 h3
    exact⟨by omega,by have:=h3.1;omega,HRb.out⟩
   ·cases h1
 have HK:=hQ9 hK
 have HL40:Hid (L.length≤40):=hQ9 (by have:=HL12.out;omega)
 have CTO:=hQ9 (CTO1.out w3 (by have:=HL12.out;omega) (HSP0.out.gr G3))
 have hmc:=z1.cell
 clear hK HCY CTO1 CF1
 go_wp2_with(with_reducible refine wpList_load_mid rfl 29 (.tmp 3) rfl (w.heap.size+1) 0 rfl g0.toList _ hmc hur rfl SIG0.out ?_;simp only [Array.toArray_toList])
 clear hmc
 refine CTO.out.mono ?_
 rintro e w4 ⟨⟨B5,k5,M5,rfl,hmv5,hsp5⟩,g4⟩
 clear CTO
 have HMV5:=hQ9 hmv5
 have HN5:=hQ9 hmv5.len
 obtain⟨g1,hg1⟩:∃ g,ctC c B5 L.length k5=g:=⟨_,rfl⟩
 have HG1:=hQ9 hg1
 obtain⟨w5,hw5,ht5,gs5,z5⟩:=yz w4 36 (zS6:Array Value) g1 (by rw [←hg1];rfl)
 have HW5:=hQ9 hw5
 have HT5:=hQ9 ht5
 have SI5:Hid ((Tryz.prog.info? 36).map (·.size)=some g1.size):=hQ9 (by rw [←hg1];exact zP)
 have SL1:Hid ((Tryz.prog.info? 36).map (·.size)=some g1.toList.length):=hQ9 (by rw [←hg1];exact zP)
 have ON5:Hid (g1.all (·.oneCell')=true):=hQ9 (by rw [←hg1];exact yt _ _ _ _)
 have g45:=zc g4 gs5
 have z0:=z0.grew g45
 have z1:=z1.grew g45
 have G5:=zc G3 g45
 have HSP5:=hQ9 (hsp5.gr gs5)
 obtain⟨tj,htj⟩:∃ t:ByteArray,⟨(ctTx c L).toArray⟩=t:=⟨_,rfl⟩
 have HTS:Hid (tj.size≤1000000):=hQ9 (by
  rw [←htj]
  have:=znw c HCI.out L HL12.out HSP0.out.ok H9.out
  simpa [ByteArray.size]using this)
 have CTT:Hid (∀ W,Std W→Sps W B5 M5→Calls Tryz.prog 20 #[.agg g1] W fun e w'=>e=.returned (.string tj)∧Grew W w'):=hQ9 (fun W h1 h2=>by
  have:=qQ c HCI.out B5 k5 M5 (by rw [HN5.out];exact HL40.out) W h1 h2
  rw [HN5.out,HG1.out,zi8 HMV5.out,htj]at this
  exact this)
 have CTR:Hid (∀ W,SpsG W A L→Calls Tryz.prog 22 #[.agg g0] W fun e w'=>e=.returned (.string tj)∧Grew W w'):=hQ9 (fun W h2=>by
  have:=CTX1.out W HL40.out h2
  rw [htj]at this
  exact this)
 obtain⟨c0,rr,ex,hU,hrr,-⟩:=parU tj.data.toList
 have HRR:=hQ9 hrr
 have CPA:=hQ9 (fun W h1 h2=>(zcs tj HTS.out W h1 h2).mono fun e w' h=>hU _ _ _ h)
 have CPB:=hQ9 (fun W h1 h2=>(zdn tj HTS.out W h1 h2).mono fun e w' h=>hU _ _ _ h)
 have hm5:=z5.cell
 rw [hg1]
 clear hw5 ht5 g4 gs5 g45 hmv5 hsp5 hg1 htj hU hrr G3 CTX1
 go_wp2_with(first
  | (with_reducible refine wpList_store_mid rfl 36 (.tmp 5) (.tmp 21) rfl w4.heap.size 0 g1 rfl rfl HT5.out SI5.out ON5.out ?_;rw [HW5.out])
  | (with_reducible refine wpList_load_mid rfl 36 (.tmp 5) rfl w4.heap.size 0 rfl g1.toList _ hm5 hut rfl SL1.out ?_;simp only [Array.toArray_toList]))
 clear HW5 HT5 SI5 ON5 hm5
 refine(CTT.out w5 (HS.out.grew G5) HSP5.out).mono ?_
 rintro e w6 ⟨rfl,g6⟩
 have G6:=zc G5 g6
 go_wp2_with fail
 refine(CPA.out w6 (HS.out.grew G6) (HMX.out w6 G6)).mono ?_
 rintro e w7 ⟨⟨B6,k6,M6,rfl,hst6,hsp6⟩,g7⟩
 clear CPA
 have HST6:=hQ9 hst6
 have HN6:=hQ9 hst6.len
 obtain⟨g3,hg3⟩:∃ g,ctC c0 B6 rr.length k6=g:=⟨_,rfl⟩
 have HG3:=hQ9 hg3
 obtain⟨w8,hw8,ht8,gs8,z8⟩:=yz w7 36 (zS6:Array Value) g3 (by rw [←hg3];rfl)
 have HW8:=hQ9 hw8
 have HT8:=hQ9 ht8
 have SI8:Hid ((Tryz.prog.info? 36).map (·.size)=some g3.size):=hQ9 (by rw [←hg3];exact zP)
 have SL3:Hid ((Tryz.prog.info? 36).map (·.size)=some g3.toList.length):=hQ9 (by rw [←hg3];exact zP)
 have ON8:Hid (g3.all (·.oneCell')=true):=hQ9 (by rw [←hg3];exact yt _ _ _ _)
 have g58:=zc g6 (zc g7 gs8)
 have z0:=z0.grew g58
 have z1:=z1.grew g58
 have z5:=z5.grew g58
 have G8:=zc G5 g58
 have HSP6:=hQ9 (hsp6.gr gs8)
 have HS58:=hQ9 g58
 have hmc:=z1.cell
 rw [hg3]
 clear hw8 ht8 g6 g7 gs8 g58 hst6 hsp6 hg3 G6
 go_wp2_with(first
  | (with_reducible refine wpList_store_mid rfl 36 (.tmp 6) (.tmp 26) rfl w7.heap.size 0 g3 rfl rfl HT8.out SI8.out ON8.out ?_;rw [HW8.out])
  | (with_reducible refine wpList_load_mid rfl 29 (.tmp 3) rfl (w.heap.size+1) 0 rfl g0.toList _ hmc hur rfl SIG0.out ?_;simp only [Array.toArray_toList]))
 clear HW8 HT8 SI8 ON8 hmc
 refine(CTR.out w8 (HSP0.out.gr G8)).mono ?_
 rintro e w9 ⟨rfl,g9⟩
 have G9:=zc G8 g9
 go_wp2_with fail
 refine(CPB.out w9 (HS.out.grew G9) (HMX.out w9 G9)).mono ?_
 rintro e wa ⟨⟨B7,k7,M7,rfl,hst7,hsp7⟩,ga⟩
 clear CPB
 have HMV67:Hid (MvL M6 M7):=hQ9 (mvl_st HST6.out hst7)
 obtain⟨g4,hg4⟩:∃ g,ctC c0 B7 rr.length k7=g:=⟨_,rfl⟩
 have HG4:=hQ9 hg4
 obtain⟨wb,hwb,htb,gsb,zb⟩:=yz wa 29 (zS6:Array Value) g4 (by rw [←hg4];rfl)
 have HWB:=hQ9 hwb
 have HTB:=hQ9 htb
 have SIB:Hid ((Tryz.prog.info? 29).map (·.size)=some g4.size):=hQ9 (by rw [←hg4];exact ye)
 have SL4:Hid ((Tryz.prog.info? 29).map (·.size)=some g4.toList.length):=hQ9 (by rw [←hg4];exact ye)
 have ONB:Hid (g4.all (·.oneCell')=true):=hQ9 (by rw [←hg4];exact yt _ _ _ _)
 have g8b:=zc g9 (zc ga gsb)
 have GB:=zc G8 g8b
 have HM0:=hQ9 (fun y (g:Grew wb y)=>((z0.grew g8b).grew g).cell)
 have HM1:=hQ9 (fun y (g:Grew wb y)=>((z1.grew g8b).grew g).cell)
 have HM5:=hQ9 (fun y (g:Grew wb y)=>((z5.grew g8b).grew g).cell)
 have HM6:=hQ9 (fun y (g:Grew wb y)=>((z8.grew g8b).grew g).cell)
 have HM8:=hQ9 (fun y (g:Grew wb y)=>(zb.grew g).cell)
 have R5:=hQ9 (fun y (g:Grew wb y)=>HSP5.out.gr (zc HS58.out (zc g8b g)))
 have R6:=hQ9 (fun y (g:Grew wb y)=>HSP6.out.gr (zc g8b g))
 have R7:=hQ9 (fun y (g:Grew wb y)=>hsp7.gr (zc gsb g))
 have R0:Hid (∀ y,Grew wb y→SpsG y A L):=hQ9 (fun y g=>HSP0.out.gr (zc GB g))
 have HKY:Hid (∀ y,Grew wb y→K.at y):=hQ9 (fun y g=>HKR.out.gr (zc GB g))
 have HSY:Hid (∀ y,Grew wb y→Std y):=hQ9 (fun y g=>HS.out.grew (zc GB g))
 have HGB:=hQ9 GB
 obtain⟨ev,hev⟩:∃ v,mvE K c L=v:=⟨_,rfl⟩
 obtain⟨av,hav⟩:∃ v,atV L=v:=⟨_,rfl⟩
 obtain⟨dv,hdv⟩:∃ v,ctD c L=v:=⟨_,rfl⟩
 have CTK:Hid (∀ W,K.at W→Calls Tryz.prog 24 #[.agg K.C] W fun e w'=>(∃ A' c',e=.returned (.agg (kyS K.f A' K.R.length c' K.h))∧Rd w' w'.heap.size A' (u64L K.R))∧Grew W w'):=hQ9 (fun W h=>(zm3 K.f K.R K.RA K.Rc K.h (by have:=HK.out.len;omega) W h).mono (by rintro e z ⟨A',c',h1,h2,h3,-⟩;exact⟨⟨A',c',h1,h2⟩,h3⟩))
 have CV:Hid (∀ A' c' W,Std W→Rd W W.heap.size A' (u64L K.R)→Sps W B5 M5→Calls Tryz.prog 23 #[.agg (kyS K.f A' K.R.length c' K.h),.agg g1] W fun e w'=>e=.returned (.int .i64 ev)∧Grew W w'):=hQ9 (fun A' c' W h1 h2 h3=>by
  have hK':(⟨K.f,K.R,A',c',K.h⟩:KP).ok:=⟨HK.out.f,HK.out.len,HK.out.b⟩
  have:=jU c hK' B5 k5 M5 (by rw [HN5.out];have:=HL40.out;omega) W h1 h2 h3
  have he:mvE (⟨K.f,K.R,A',c',K.h⟩:KP) c M5=ev:=by
   rw [mvE_mv HMV5.out]
   exact(mvE_K (K:=K) (K':=(⟨K.f,K.R,A',c',K.h⟩:KP)) rfl rfl rfl c L).trans hev
  rw [HN5.out,HG1.out,he]at this
  exact this)
 have CVR:Hid (∀ W,K.at W→SpsG W A L→Calls Tryz.prog 25 #[.agg K.C,.agg g0] W fun e w'=>e=.returned (.int .i64 ev)∧Grew W w'):=hQ9 (fun W h1 h2=>by
  have:=CVR1.out W HK.out HL40.out h1 h2
  rw [hev]at this
  exact this)
 have CAT:Hid (∀ W,Sps W B5 M5→Calls Tryz.prog 26 #[.agg g1] W fun e w'=>e=.returned (.int .i64 av)∧Grew W w'):=hQ9 (fun W h=>by
  have:=zdh c B5 k5 M5 (by rw [HN5.out];have:=HL40.out;omega) W h
  rw [HN5.out,HG1.out,atV_mv HMV5.out,hav]at this
  exact this)
 have CAR:Hid (∀ W,SpsG W A L→Calls Tryz.prog 27 #[.agg g0] W fun e w'=>e=.returned (.int .i64 av)∧Grew W w'):=hQ9 (fun W h2=>by
  have:=CAT1.out W HL40.out h2
  rw [hav]at this
  exact this)
 have CDA:Hid (∀ W,Std W→Sps W B5 M5→Calls Tryz.prog 28 #[.agg g1] W fun e w'=>e=.returned (.int .u64 ((dv:Nat):Int))∧Grew W w'):=hQ9 (fun W h1 h2=>by
  have:=jp c HCI.out B5 k5 M5 (by rw [HN5.out];exact HL40.out) W h1 h2
  rw [HN5.out,HG1.out,ctD_mv HMV5.out,hdv]at this
  exact this)
 have CDR:Hid (∀ W,SpsG W A L→Calls Tryz.prog 29 #[.agg g0] W fun e w'=>e=.returned (.int .u64 ((dv:Nat):Int))∧Grew W w'):=hQ9 (fun W h2=>by
  have:=CDG1.out W HL40.out h2
  rw [hdv]at this
  exact this)
 have COF:Hid (∀ W,Sps W B6 M6→Calls Tryz.prog 31 #[.agg g3] W fun e w'=>(∃ B k' M,e=.returned (.agg (ctC c0 B rr.length k'))∧MvL M6 M∧Sps w' B M)∧Grew W w'):=hQ9 (fun W h=>by
  have:=zne c0 B6 k6 M6 (by have:=HN6.out;have:=HRR.out;omega) W h
  rw [HN6.out,HG3.out]at this
  exact this)
 have CSC:Hid (∀ B k M,MvL M6 M→∀ W,Sps W B M→Sps W B7 M7→Calls Tryz.prog 30 #[.agg (ctC c0 B rr.length k),.agg g4] W fun e w'=>e=.returned (.bool true)∧Grew W w'):=hQ9 (fun B k M hm W h1 h2=>by
  have:=ze3 c0 B B7 k k7 M M7 (by have:=hm.len;have:=HN6.out;have:=HRR.out;omega) (zse hm HMV67.out) W h1 h2
  rw [hm.len,HN6.out,HG4.out]at this
  exact this)
 have CSM:Hid (∀ W,Sps W B5 M5→Calls Tryz.prog 32 #[.agg g1,.agg g1] W fun e w'=>e=.returned (.bool true)∧Grew W w'):=hQ9 (fun W h=>by
  have:=zcq c B5 B5 k5 k5 M5 M5 (by rw [HN5.out];have:=HL40.out;omega) (zp2 M5) W h h
  rw [HN5.out,HG1.out]at this
  exact this)
 rw [hg4]
 clear hwb htb g9 ga gsb g8b hst7 hsp7 hg4 z0 z1 z5 z8 zb G5 G8 G9 GB hev hav hdv HSP5 HSP6 HS58 CVR1 CAT1 CDG1
 go_upto_region 8 with (with_reducible refine wpList_store_mid rfl 29 (.tmp 8) (.tmp 32) rfl wa.heap.size 0 g4 rfl rfl HTB.out SIB.out ONB.out ?_;rw [HWB.out])
 clear HWB HTB SIB ONB
 obtain⟨qx,hqx⟩:∃ b,w4.heap.size=b:=⟨_,rfl⟩
 obtain⟨qy,hqy⟩:∃ b,w7.heap.size=b:=⟨_,rfl⟩
 obtain⟨qz,hqz⟩:∃ b,wa.heap.size=b:=⟨_,rfl⟩
 rw [hqx]at HM5 ⊢
 rw [hqy]at HM6 ⊢
 rw [hqz]at HM8 ⊢
 clear hqx hqy hqz
 refine zcd 45 (fun ix9=>match ix9 with
  | 0=>fun v _=>v=.agg K.C
  | 1=>fun v W=>KyR W K.f K.R K.h v
  | 2=>fun v _=>v=.agg g1
  | 3=>fun v _=>v=.int .i64 ev
  | 4=>fun v _=>v=.agg K.C
  | 5=>fun v _=>v=.agg g0
  | 6=>fun v _=>v=.int .i64 ev
  | 7=>fun v _=>v=.bool true
  | 8=>fun v _=>v=.bool true
  | 9=>fun v _=>v=.agg g1
  | 10=>fun v _=>v=.int .i64 av
  | 11=>fun v _=>v=.agg g0
  | 12=>fun v _=>v=.int .i64 av
  | 13=>fun v _=>v=.bool true
  | 14=>fun v _=>v=.bool true
  | 15=>fun v _=>v=.bool true
  | 16=>fun v _=>v=.agg g1
  | 17=>fun v _=>v=.int .u64 ((dv:Nat):Int)
  | 18=>fun v _=>v=.agg g0
  | 19=>fun v _=>v=.int .u64 ((dv:Nat):Int)
  | 20=>fun v _=>v=.bool true
  | 21=>fun v _=>v=.bool true
  | 22=>fun v _=>v=.bool true
  | 23=>fun v _=>v=.agg g1
  | 24=>fun v _=>v=.string tj
  | 25=>fun v _=>v=.agg g0
  | 26=>fun v _=>v=.string tj
  | 27=>fun v _=>v=.bool true
  | 28=>fun v _=>v=.bool true
  | 29=>fun v _=>v=.bool true
  | 30=>fun v _=>v=.int .i64 ex
  | 31=>fun v _=>v=.int .i64 ex
  | 32=>fun v _=>v=.bool true
  | 33=>fun v _=>v=.bool true
  | 34=>fun v _=>v=.bool true
  | 35=>fun v _=>v=.agg g3
  | 36=>fun v W=>CrS W c0 M6 rr.length v
  | 37=>fun v _=>v=.agg g4
  | 38=>fun v _=>v=.bool true
  | 39=>fun v _=>v=.bool true
  | 40=>fun v _=>v=.bool true
  | 41=>fun v _=>v=.agg g1
  | 42=>fun v _=>v=.agg g1
  | 43=>fun v _=>v=.bool true
  | 44=>fun v _=>v=.bool true
  | _=>fun _ _=>True) (fun ix9=>match ix9 with
  | 36=>fun _ _ _ _=>True
  | _=>fun _ _ _ _=>True) (fun ix9=>match ix9 with
  | ix8=>ix8) (fun ix9=>match ix9 with
  | ix8=>ix8) (by kernel_rfl) (by kernel_rfl) (by kernel_rfl) ?_ ?_ ?_ ?_
 ·intro i v x y h hg
  match i,h with
  | 0,h | 2,h | 3,h | 4,h | 5,h | 6,h | 7,h | 8,h | 9,h | 10,h | 11,h | 12,h | 13,h | 14,h | 15,h | 16,h | 17,h | 18,h | 19,h | 20,h | 21,h | 22,h | 23,h | 24,h | 25,h | 26,h | 27,h | 28,h | 29,h | 30,h | 31,h | 32,h | 33,h | 34,h | 35,h | 37,h | 38,h | 39,h | 40,h | 41,h | 42,h | 43,h | 44,h=>exact h
  | 1,h=>exact KyR.gr h hg
  | 36,h=>exact CrS.gr h hg
  | m+45,_=>trivial
 ·simp only [actOf,tk1,tk0,dr1,dr0,Act.put,si1,st1,st0,Nat.reduceAdd]
  refine⟨?_,?_,?_,?_,?_,?_,?_,?_,?_,?_,?_,?_,?_,?_,?_,?_,?_,?_,?_,?_,?_,?_,?_,?_,?_,?_,?_,?_,?_,?_,?_,?_,?_,?_,?_,?_,?_,?_,?_,?_,?_,?_,?_,?_,?_,trivial⟩
  ·intro vs lo hi y hg hd hvia
   replace hg:Grew wb y:=hg
   clear hvia
   dsimp only
   have hm:=HM0.out y hg
   go_wp2_with(with_reducible refine wpList_load_mid rfl 24 (.tmp 2) rfl (w.heap.size) 0 rfl K.C.toList _ hm huk rfl SIK.out ?_;simp only [Array.toArray_toList])
   first | exact⟨rfl,_,rfl,za _,rfl⟩ | exact⟨rfl,_,rfl,za _,rfl,trivial⟩
  ·intro vs lo hi y hg hd hvia
   replace hg:Grew wb y:=hg
   obtain⟨h0,_⟩:=hd
   replace h0:=h0 rfl
   clear hvia
   dsimp only
   rw [show vs 0=_ from h0]
   have hks:=HKY.out y hg
   go_wp2_with(go_at_call 24;refine(CTK.out y hks).mono ?_;rintro e z ⟨⟨A9,c9,rfl,hrd9⟩,gz⟩)
   exact⟨rfl,_,rfl,gz,⟨A9,c9,rfl,hrd9⟩,trivial⟩
  ·intro vs lo hi y hg hd hvia
   replace hg:Grew wb y:=hg
   clear hvia
   dsimp only
   have hm:=HM5.out y hg
   go_wp2_with(with_reducible refine wpList_load_mid rfl 36 (.tmp 5) rfl (qx) 0 rfl g1.toList _ hm hut rfl SL1.out ?_;simp only [Array.toArray_toList])
   first | exact⟨rfl,_,rfl,za _,rfl⟩ | exact⟨rfl,_,rfl,za _,rfl,trivial⟩
  ·intro vs lo hi y hg hd hvia
   replace hg:Grew wb y:=hg
   obtain⟨h1,h2,_⟩:=hd
   replace h1:=h1 rfl
   replace h2:=h2 rfl
   clear hvia
   dsimp only
   rw [show vs 2=_ from h2]
   obtain⟨A6,c6,e6,hrd6⟩:=KyR.out h1
   rw [e6]
   have hgS:=HSY.out y hg
   have hr5:=R5.out y hg
   go_wp2_with(go_at_call 23;refine(CV.out A6 c6 y hgS hrd6 hr5).mono ?_;rintro e z ⟨rfl,gz⟩)
   first | exact⟨rfl,_,rfl,gz,rfl⟩ | exact⟨rfl,_,rfl,gz,rfl,trivial⟩
  ·intro vs lo hi y hg hd hvia
   replace hg:Grew wb y:=hg
   clear hvia
   dsimp only
   have hm:=HM0.out y hg
   go_wp2_with(with_reducible refine wpList_load_mid rfl 24 (.tmp 2) rfl (w.heap.size) 0 rfl K.C.toList _ hm huk rfl SIK.out ?_;simp only [Array.toArray_toList])
   first | exact⟨rfl,_,rfl,za _,rfl⟩ | exact⟨rfl,_,rfl,za _,rfl,trivial⟩
  ·intro vs lo hi y hg hd hvia
   replace hg:Grew wb y:=hg
   clear hvia
   dsimp only
   have hm:=HM1.out y hg
   go_wp2_with(with_reducible refine wpList_load_mid rfl 29 (.tmp 3) rfl (w.heap.size+1) 0 rfl g0.toList _ hm hur rfl SIG0.out ?_;simp only [Array.toArray_toList])
   first | exact⟨rfl,_,rfl,za _,rfl⟩ | exact⟨rfl,_,rfl,za _,rfl,trivial⟩
  ·intro vs lo hi y hg hd hvia
   replace hg:Grew wb y:=hg
   obtain⟨h4,h5,_⟩:=hd
   replace h4:=h4 rfl
   replace h5:=h5 rfl
   clear hvia
   dsimp only
   rw [show vs 4=_ from h4,show vs 5=_ from h5]
   have hks:=HKY.out y hg
   have hr0:=R0.out y hg
   go_wp2_with(go_at_call 25;refine(CVR.out y hks hr0).mono ?_;rintro e z ⟨rfl,gz⟩)
   first | exact⟨rfl,_,rfl,gz,rfl⟩ | exact⟨rfl,_,rfl,gz,rfl,trivial⟩
  ·intro vs lo hi y hg hd hvia
   replace hg:Grew wb y:=hg
   obtain⟨h3,h6,_⟩:=hd
   replace h3:=h3 rfl
   replace h6:=h6 rfl
   clear hvia
   dsimp only
   rw [show vs 3=_ from h3,show vs 6=_ from h6]
   go_wp2_with fail
   first | exact⟨rfl,_,rfl,za _,by simp⟩ | exact⟨rfl,_,rfl,za _,by simp,trivial⟩
  ·intro vs lo hi y hg hd hvia
   replace hg:Grew wb y:=hg
   obtain⟨h7,_⟩:=hd
   replace h7:=h7 rfl
   clear hvia
   dsimp only
   rw [show vs 7=_ from h7]
   go_wp2_with fail
   first | exact⟨rfl,_,rfl,za _,rfl⟩ | exact⟨rfl,_,rfl,za _,rfl,trivial⟩
  ·intro vs lo hi y hg hd hvia
   replace hg:Grew wb y:=hg
   have hx9:(Region.binds .any { on:=8,ground:=.guard }=true→vs 8=.bool true)∧True:=hd
   have h8:vs 8=.bool true:=hx9.1 rfl
   clear hx9 hd
   clear hvia
   dsimp only
   rw [show vs 8=_ from h8]
   have hm:=HM5.out y hg
   go_wp2_with(refine zl (by rfl) 36 (.tmp 5) rfl (qx) 0 rfl g1.toList _ hm hut rfl SL1.out ?_;simp only [Array.toArray_toList])
   first | exact⟨rfl,_,rfl,za _,rfl⟩ | exact⟨rfl,_,rfl,za _,rfl,trivial⟩
  ·intro vs lo hi y hg hd hvia
   replace hg:Grew wb y:=hg
   have hx9:(Region.binds .any { on:=9,ground:=.data }=true→vs 9=.agg g1)∧(Region.binds .any { on:=8,ground:=.chain }=true→vs 8=.bool true)∧(Region.binds .any { on:=8,ground:=.guard }=true→vs 8=.bool true)∧True:=hd
   have h9:vs 9=.agg g1:=hx9.1 rfl
   have h8:vs 8=.bool true:=hx9.2.2.1 rfl
   clear hx9 hd
   clear hvia
   dsimp only
   rw [show vs 9=_ from h9,show vs 8=_ from h8]
   have hr5:=R5.out y hg
   go_wp2_with(go_at_call 26;refine(CAT.out y hr5).mono ?_;rintro e z ⟨rfl,gz⟩)
   first | exact⟨rfl,_,rfl,gz,rfl⟩ | exact⟨rfl,_,rfl,gz,rfl,trivial⟩
  ·intro vs lo hi y hg hd hvia
   replace hg:Grew wb y:=hg
   have hx9:(Region.binds .any { on:=8,ground:=.guard }=true→vs 8=.bool true)∧True:=hd
   have h8:vs 8=.bool true:=hx9.1 rfl
   clear hx9 hd
   clear hvia
   dsimp only
   rw [show vs 8=_ from h8]
   have hm:=HM1.out y hg
   go_wp2_with(refine zl (by rfl) 29 (.tmp 3) rfl (w.heap.size+1) 0 rfl g0.toList _ hm hur rfl SIG0.out ?_;simp only [Array.toArray_toList])
   first | exact⟨rfl,_,rfl,za _,rfl⟩ | exact⟨rfl,_,rfl,za _,rfl,trivial⟩
  ·intro vs lo hi y hg hd hvia
   replace hg:Grew wb y:=hg
   have hx9:(Region.binds .any { on:=11,ground:=.data }=true→vs 11=.agg g0)∧(Region.binds .any { on:=10,ground:=.chain }=true→vs 10=.int .i64 av)∧(Region.binds .any { on:=8,ground:=.guard }=true→vs 8=.bool true)∧True:=hd
   have h11:vs 11=.agg g0:=hx9.1 rfl
   have h8:vs 8=.bool true:=hx9.2.2.1 rfl
   clear hx9 hd
   clear hvia
   dsimp only
   rw [show vs 11=_ from h11,show vs 8=_ from h8]
   have hr0:=R0.out y hg
   go_wp2_with(go_at_call 27;refine(CAR.out y hr0).mono ?_;rintro e z ⟨rfl,gz⟩)
   first | exact⟨rfl,_,rfl,gz,rfl⟩ | exact⟨rfl,_,rfl,gz,rfl,trivial⟩
  ·intro vs lo hi y hg hd hvia
   replace hg:Grew wb y:=hg
   have hx9:(Region.binds .any { on:=10,ground:=.data }=true→vs 10=.int .i64 av)∧(Region.binds .any { on:=12,ground:=.data }=true→vs 12=.int .i64 av)∧(Region.binds .any { on:=8,ground:=.guard }=true→vs 8=.bool true)∧True:=hd
   have h10:vs 10=.int .i64 av:=hx9.1 rfl
   have h12:vs 12=.int .i64 av:=hx9.2.1 rfl
   have h8:vs 8=.bool true:=hx9.2.2.1 rfl
   clear hx9 hd
   clear hvia
   dsimp only
   rw [show vs 10=_ from h10,show vs 12=_ from h12,show vs 8=_ from h8]
   go_wp2_with fail
   first | exact⟨rfl,_,rfl,za _,by simp⟩ | exact⟨rfl,_,rfl,za _,by simp,trivial⟩
  ·intro vs lo hi y hg hd hvia
   replace hg:Grew wb y:=hg
   obtain⟨h8,h13,_⟩:=hd
   replace h8:=h8 rfl
   replace h13:=h13 rfl
   clear hvia
   dsimp only
   rw [show vs 8=_ from h8,show vs 13=_ from h13]
   go_wp2_with fail
   first | exact⟨rfl,_,rfl,za _,rfl⟩ | exact⟨rfl,_,rfl,za _,rfl,trivial⟩
  ·intro vs lo hi y hg hd hvia
   replace hg:Grew wb y:=hg
   obtain⟨h14,_⟩:=hd
   replace h14:=h14 rfl
   clear hvia
   dsimp only
   rw [show vs 14=_ from h14]
   go_wp2_with fail
   first | exact⟨rfl,_,rfl,za _,rfl⟩ | exact⟨rfl,_,rfl,za _,rfl,trivial⟩
  ·intro vs lo hi y hg hd hvia
   replace hg:Grew wb y:=hg
   have hx9:(Region.binds .any { on:=15,ground:=.guard }=true→vs 15=.bool true)∧True:=hd
   have h15:vs 15=.bool true:=hx9.1 rfl
   clear hx9 hd
   clear hvia
   dsimp only
   rw [show vs 15=_ from h15]
   have hm:=HM5.out y hg
   go_wp2_with(refine zl (by rfl) 36 (.tmp 5) rfl (qx) 0 rfl g1.toList _ hm hut rfl SL1.out ?_;simp only [Array.toArray_toList])
   first | exact⟨rfl,_,rfl,za _,rfl⟩ | exact⟨rfl,_,rfl,za _,rfl,trivial⟩
  ·intro vs lo hi y hg hd hvia
   replace hg:Grew wb y:=hg
   have hx9:(Region.binds .any { on:=16,ground:=.data }=true→vs 16=.agg g1)∧(Region.binds .any { on:=15,ground:=.chain }=true→vs 15=.bool true)∧(Region.binds .any { on:=15,ground:=.guard }=true→vs 15=.bool true)∧True:=hd
   have h16:vs 16=.agg g1:=hx9.1 rfl
   have h15:vs 15=.bool true:=hx9.2.2.1 rfl
   clear hx9 hd
   clear hvia
   dsimp only
   rw [show vs 16=_ from h16,show vs 15=_ from h15]
   have hgS:=HSY.out y hg
   have hr5:=R5.out y hg
   go_wp2_with(go_at_call 28;refine(CDA.out y hgS hr5).mono ?_;rintro e z ⟨rfl,gz⟩)
   first | exact⟨rfl,_,rfl,gz,rfl⟩ | exact⟨rfl,_,rfl,gz,rfl,trivial⟩
  ·intro vs lo hi y hg hd hvia
   replace hg:Grew wb y:=hg
   have hx9:(Region.binds .any { on:=15,ground:=.guard }=true→vs 15=.bool true)∧True:=hd
   have h15:vs 15=.bool true:=hx9.1 rfl
   clear hx9 hd
   clear hvia
   dsimp only
   rw [show vs 15=_ from h15]
   have hm:=HM1.out y hg
   go_wp2_with(refine zl (by rfl) 29 (.tmp 3) rfl (w.heap.size+1) 0 rfl g0.toList _ hm hur rfl SIG0.out ?_;simp only [Array.toArray_toList])
   first | exact⟨rfl,_,rfl,za _,rfl⟩ | exact⟨rfl,_,rfl,za _,rfl,trivial⟩
  ·intro vs lo hi y hg hd hvia
   replace hg:Grew wb y:=hg
   have hx9:(Region.binds .any { on:=18,ground:=.data }=true→vs 18=.agg g0)∧(Region.binds .any { on:=17,ground:=.chain }=true→vs 17=.int .u64 ((dv:Nat):Int))∧(Region.binds .any { on:=15,ground:=.guard }=true→vs 15=.bool true)∧True:=hd
   have h18:vs 18=.agg g0:=hx9.1 rfl
   have h15:vs 15=.bool true:=hx9.2.2.1 rfl
   clear hx9 hd
   clear hvia
   dsimp only
   rw [show vs 18=_ from h18,show vs 15=_ from h15]
   have hr0:=R0.out y hg
   go_wp2_with(go_at_call 29;refine(CDR.out y hr0).mono ?_;rintro e z ⟨rfl,gz⟩)
   first | exact⟨rfl,_,rfl,gz,rfl⟩ | exact⟨rfl,_,rfl,gz,rfl,trivial⟩
  ·intro vs lo hi y hg hd hvia
   replace hg:Grew wb y:=hg
   have hx9:(Region.binds .any { on:=17,ground:=.data }=true→vs 17=.int .u64 ((dv:Nat):Int))∧(Region.binds .any { on:=19,ground:=.data }=true→vs 19=.int .u64 ((dv:Nat):Int))∧(Region.binds .any { on:=15,ground:=.guard }=true→vs 15=.bool true)∧True:=hd
   have h17:vs 17=.int .u64 ((dv:Nat):Int):=hx9.1 rfl
   have h19:vs 19=.int .u64 ((dv:Nat):Int):=hx9.2.1 rfl
   have h15:vs 15=.bool true:=hx9.2.2.1 rfl
   clear hx9 hd
   clear hvia
   dsimp only
   rw [show vs 17=_ from h17,show vs 19=_ from h19,show vs 15=_ from h15]
   go_wp2_with fail
   first | exact⟨rfl,_,rfl,za _,by simp⟩ | exact⟨rfl,_,rfl,za _,by simp,trivial⟩
  ·intro vs lo hi y hg hd hvia
   replace hg:Grew wb y:=hg
   obtain⟨h15,h20,_⟩:=hd
   replace h15:=h15 rfl
   replace h20:=h20 rfl
   clear hvia
   dsimp only
   rw [show vs 15=_ from h15,show vs 20=_ from h20]
   go_wp2_with fail
   first | exact⟨rfl,_,rfl,za _,rfl⟩ | exact⟨rfl,_,rfl,za _,rfl,trivial⟩
  ·intro vs lo hi y hg hd hvia
   replace hg:Grew wb y:=hg
   obtain⟨h21,_⟩:=hd
   replace h21:=h21 rfl
   clear hvia
   dsimp only
   rw [show vs 21=_ from h21]
   go_wp2_with fail
   first | exact⟨rfl,_,rfl,za _,rfl⟩ | exact⟨rfl,_,rfl,za _,rfl,trivial⟩
  ·intro vs lo hi y hg hd hvia
   replace hg:Grew wb y:=hg
   have hx9:(Region.binds .any { on:=22,ground:=.guard }=true→vs 22=.bool true)∧True:=hd
   have h22:vs 22=.bool true:=hx9.1 rfl
   clear hx9 hd
   clear hvia
   dsimp only
   rw [show vs 22=_ from h22]
   have hm:=HM5.out y hg
   go_wp2_with(refine zl (by rfl) 36 (.tmp 5) rfl (qx) 0 rfl g1.toList _ hm hut rfl SL1.out ?_;simp only [Array.toArray_toList])
   first | exact⟨rfl,_,rfl,za _,rfl⟩ | exact⟨rfl,_,rfl,za _,rfl,trivial⟩
  ·intro vs lo hi y hg hd hvia
   replace hg:Grew wb y:=hg
   have hx9:(Region.binds .any { on:=23,ground:=.data }=true→vs 23=.agg g1)∧(Region.binds .any { on:=22,ground:=.chain }=true→vs 22=.bool true)∧(Region.binds .any { on:=22,ground:=.guard }=true→vs 22=.bool true)∧True:=hd
   have h23:vs 23=.agg g1:=hx9.1 rfl
   have h22:vs 22=.bool true:=hx9.2.2.1 rfl
   clear hx9 hd
   clear hvia
   dsimp only
   rw [show vs 23=_ from h23,show vs 22=_ from h22]
   have hgS:=HSY.out y hg
   have hr5:=R5.out y hg
   go_wp2_with(go_at_call 20;refine(CTT.out y hgS hr5).mono ?_;rintro e z ⟨rfl,gz⟩)
   first | exact⟨rfl,_,rfl,gz,rfl⟩ | exact⟨rfl,_,rfl,gz,rfl,trivial⟩
  ·intro vs lo hi y hg hd hvia
   replace hg:Grew wb y:=hg
   have hx9:(Region.binds .any { on:=22,ground:=.guard }=true→vs 22=.bool true)∧True:=hd
   have h22:vs 22=.bool true:=hx9.1 rfl
   clear hx9 hd
   clear hvia
   dsimp only
   rw [show vs 22=_ from h22]
   have hm:=HM1.out y hg
   go_wp2_with(refine zl (by rfl) 29 (.tmp 3) rfl (w.heap.size+1) 0 rfl g0.toList _ hm hur rfl SIG0.out ?_;simp only [Array.toArray_toList])
   first | exact⟨rfl,_,rfl,za _,rfl⟩ | exact⟨rfl,_,rfl,za _,rfl,trivial⟩
  ·intro vs lo hi y hg hd hvia
   replace hg:Grew wb y:=hg
   have hx9:(Region.binds .any { on:=25,ground:=.data }=true→vs 25=.agg g0)∧(Region.binds .any { on:=24,ground:=.chain }=true→vs 24=.string tj)∧(Region.binds .any { on:=22,ground:=.guard }=true→vs 22=.bool true)∧True:=hd
   have h25:vs 25=.agg g0:=hx9.1 rfl
   have h22:vs 22=.bool true:=hx9.2.2.1 rfl
   clear hx9 hd
   clear hvia
   dsimp only
   rw [show vs 25=_ from h25,show vs 22=_ from h22]
   have hr0:=R0.out y hg
   go_wp2_with(go_at_call 22;refine(CTR.out y hr0).mono ?_;rintro e z ⟨rfl,gz⟩)
   first | exact⟨rfl,_,rfl,gz,rfl⟩ | exact⟨rfl,_,rfl,gz,rfl,trivial⟩
  ·intro vs lo hi y hg hd hvia
   replace hg:Grew wb y:=hg
   have hx9:(Region.binds .any { on:=24,ground:=.data }=true→vs 24=.string tj)∧(Region.binds .any { on:=26,ground:=.data }=true→vs 26=.string tj)∧(Region.binds .any { on:=22,ground:=.guard }=true→vs 22=.bool true)∧True:=hd
   have h24:vs 24=.string tj:=hx9.1 rfl
   have h26:vs 26=.string tj:=hx9.2.1 rfl
   have h22:vs 22=.bool true:=hx9.2.2.1 rfl
   clear hx9 hd
   clear hvia
   dsimp only
   rw [show vs 24=_ from h24,show vs 26=_ from h26,show vs 22=_ from h22]
   go_wp2_with fail
   first | exact⟨rfl,_,rfl,za _,by simp⟩ | exact⟨rfl,_,rfl,za _,by simp,trivial⟩
  ·intro vs lo hi y hg hd hvia
   replace hg:Grew wb y:=hg
   obtain⟨h22,h27,_⟩:=hd
   replace h22:=h22 rfl
   replace h27:=h27 rfl
   clear hvia
   dsimp only
   rw [show vs 22=_ from h22,show vs 27=_ from h27]
   go_wp2_with fail
   first | exact⟨rfl,_,rfl,za _,rfl⟩ | exact⟨rfl,_,rfl,za _,rfl,trivial⟩
  ·intro vs lo hi y hg hd hvia
   replace hg:Grew wb y:=hg
   obtain⟨h28,_⟩:=hd
   replace h28:=h28 rfl
   clear hvia
   dsimp only
   rw [show vs 28=_ from h28]
   go_wp2_with fail
   first | exact⟨rfl,_,rfl,za _,rfl⟩ | exact⟨rfl,_,rfl,za _,rfl,trivial⟩
  ·intro vs lo hi y hg hd hvia
   replace hg:Grew wb y:=hg
   have hx9:(Region.binds .any { on:=29,ground:=.guard }=true→vs 29=.bool true)∧True:=hd
   have h29:vs 29=.bool true:=hx9.1 rfl
   clear hx9 hd
   clear hvia
   dsimp only
   rw [show vs 29=_ from h29]
   go_wp2_with fail
   first | exact⟨rfl,_,rfl,za _,rfl⟩ | exact⟨rfl,_,rfl,za _,rfl,trivial⟩
  ·intro vs lo hi y hg hd hvia
   replace hg:Grew wb y:=hg
   have hx9:(Region.binds .any { on:=29,ground:=.guard }=true→vs 29=.bool true)∧True:=hd
   have h29:vs 29=.bool true:=hx9.1 rfl
   clear hx9 hd
   clear hvia
   dsimp only
   rw [show vs 29=_ from h29]
   go_wp2_with fail
   first | exact⟨rfl,_,rfl,za _,rfl⟩ | exact⟨rfl,_,rfl,za _,rfl,trivial⟩
  ·intro vs lo hi y hg hd hvia
   replace hg:Grew wb y:=hg
   have hx9:(Region.binds .any { on:=30,ground:=.data }=true→vs 30=.int .i64 ex)∧(Region.binds .any { on:=31,ground:=.data }=true→vs 31=.int .i64 ex)∧(Region.binds .any { on:=29,ground:=.guard }=true→vs 29=.bool true)∧True:=hd
   have h30:vs 30=.int .i64 ex:=hx9.1 rfl
   have h31:vs 31=.int .i64 ex:=hx9.2.1 rfl
   have h29:vs 29=.bool true:=hx9.2.2.1 rfl
   clear hx9 hd
   clear hvia
   dsimp only
   rw [show vs 30=_ from h30,show vs 31=_ from h31,show vs 29=_ from h29]
   go_wp2_with fail
   first | exact⟨rfl,_,rfl,za _,by simp⟩ | exact⟨rfl,_,rfl,za _,by simp,trivial⟩
  ·intro vs lo hi y hg hd hvia
   replace hg:Grew wb y:=hg
   obtain⟨h29,h32,_⟩:=hd
   replace h29:=h29 rfl
   replace h32:=h32 rfl
   clear hvia
   dsimp only
   rw [show vs 29=_ from h29,show vs 32=_ from h32]
   go_wp2_with fail
   first | exact⟨rfl,_,rfl,za _,rfl⟩ | exact⟨rfl,_,rfl,za _,rfl,trivial⟩
  ·intro vs lo hi y hg hd hvia
   replace hg:Grew wb y:=hg
   obtain⟨h33,_⟩:=hd
   replace h33:=h33 rfl
   clear hvia
   dsimp only
   rw [show vs 33=_ from h33]
   go_wp2_with fail
   first | exact⟨rfl,_,rfl,za _,rfl⟩ | exact⟨rfl,_,rfl,za _,rfl,trivial⟩
  ·intro vs lo hi y hg hd hvia
   replace hg:Grew wb y:=hg
   have hx9:(Region.binds .any { on:=34,ground:=.guard }=true→vs 34=.bool true)∧True:=hd
   have h34:vs 34=.bool true:=hx9.1 rfl
   clear hx9 hd
   clear hvia
   dsimp only
   rw [show vs 34=_ from h34]
   have hm:=HM6.out y hg
   go_wp2_with(refine zl (by rfl) 36 (.tmp 6) rfl (qy) 0 rfl g3.toList _ hm hut rfl SL3.out ?_;simp only [Array.toArray_toList])
   first | exact⟨rfl,_,rfl,za _,rfl⟩ | exact⟨rfl,_,rfl,za _,rfl,trivial⟩
  ·intro vs lo hi y hg hd hvia
   replace hg:Grew wb y:=hg
   have hx9:(Region.binds .any { on:=35,ground:=.data }=true→vs 35=.agg g3)∧(Region.binds .any { on:=34,ground:=.chain }=true→vs 34=.bool true)∧(Region.binds .any { on:=34,ground:=.guard }=true→vs 34=.bool true)∧True:=hd
   have h35:vs 35=.agg g3:=hx9.1 rfl
   have h34:vs 34=.bool true:=hx9.2.2.1 rfl
   clear hx9 hd
   clear hvia
   dsimp only
   rw [show vs 35=_ from h35,show vs 34=_ from h34]
   have hr6:=R6.out y hg
   go_wp2_with(go_at_call 31;refine(COF.out y hr6).mono ?_;rintro e z ⟨⟨B9,k9,M9,rfl,hmv9,hsp9⟩,gz⟩)
   exact⟨rfl,_,rfl,gz,⟨B9,k9,M9,rfl,hmv9,hsp9⟩,trivial⟩
  ·intro vs lo hi y hg hd hvia
   replace hg:Grew wb y:=hg
   have hx9:(Region.binds .any { on:=34,ground:=.guard }=true→vs 34=.bool true)∧True:=hd
   have h34:vs 34=.bool true:=hx9.1 rfl
   clear hx9 hd
   clear hvia
   dsimp only
   rw [show vs 34=_ from h34]
   have hm:=HM8.out y hg
   go_wp2_with(refine zl (by rfl) 29 (.tmp 8) rfl (qz) 0 rfl g4.toList _ hm hur rfl SL4.out ?_;simp only [Array.toArray_toList])
   first | exact⟨rfl,_,rfl,za _,rfl⟩ | exact⟨rfl,_,rfl,za _,rfl,trivial⟩
  ·intro vs lo hi y hg hd hvia
   replace hg:Grew wb y:=hg
   have hx9:(Region.binds .any { on:=36,ground:=.data }=true→(fun v W=>CrS W c0 M6 rr.length v) (vs 36) y)∧(Region.binds .any { on:=37,ground:=.data }=true→vs 37=.agg g4)∧(Region.binds .any { on:=36,ground:=.chain }=true→(fun v W=>CrS W c0 M6 rr.length v) (vs 36) y)∧(Region.binds .any { on:=34,ground:=.guard }=true→vs 34=.bool true)∧True:=hd
   have h36:(fun v W=>CrS W c0 M6 rr.length v) (vs 36) y:=hx9.1 rfl
   have h37:vs 37=.agg g4:=hx9.2.1 rfl
   have h34:vs 34=.bool true:=hx9.2.2.2.1 rfl
   clear hx9 hd
   clear hvia
   dsimp only
   rw [show vs 37=_ from h37,show vs 34=_ from h34]
   obtain⟨B9,k9,M9,e9,hmv9,hsp9⟩:=CrS.out h36
   rw [e9]
   have hr7:=R7.out y hg
   go_wp2_with(go_at_call 30;refine(CSC.out B9 k9 M9 hmv9 y hsp9 hr7).mono ?_;rintro e z ⟨rfl,gz⟩)
   first | exact⟨rfl,_,rfl,gz,rfl⟩ | exact⟨rfl,_,rfl,gz,rfl,trivial⟩
  ·intro vs lo hi y hg hd hvia
   replace hg:Grew wb y:=hg
   obtain⟨h34,h38,_⟩:=hd
   replace h34:=h34 rfl
   replace h38:=h38 rfl
   clear hvia
   dsimp only
   rw [show vs 34=_ from h34,show vs 38=_ from h38]
   go_wp2_with fail
   first | exact⟨rfl,_,rfl,za _,rfl⟩ | exact⟨rfl,_,rfl,za _,rfl,trivial⟩
  ·intro vs lo hi y hg hd hvia
   replace hg:Grew wb y:=hg
   obtain⟨h39,_⟩:=hd
   replace h39:=h39 rfl
   clear hvia
   dsimp only
   rw [show vs 39=_ from h39]
   go_wp2_with fail
   first | exact⟨rfl,_,rfl,za _,rfl⟩ | exact⟨rfl,_,rfl,za _,rfl,trivial⟩
  ·intro vs lo hi y hg hd hvia
   replace hg:Grew wb y:=hg
   have hx9:(Region.binds .any { on:=40,ground:=.guard }=true→vs 40=.bool true)∧True:=hd
   have h40:vs 40=.bool true:=hx9.1 rfl
   clear hx9 hd
   clear hvia
   dsimp only
   rw [show vs 40=_ from h40]
   have hm:=HM5.out y hg
   go_wp2_with(refine zl (by rfl) 36 (.tmp 5) rfl (qx) 0 rfl g1.toList _ hm hut rfl SL1.out ?_;simp only [Array.toArray_toList])
   first | exact⟨rfl,_,rfl,za _,rfl⟩ | exact⟨rfl,_,rfl,za _,rfl,trivial⟩
  ·intro vs lo hi y hg hd hvia
   replace hg:Grew wb y:=hg
   have hx9:(Region.binds .any { on:=40,ground:=.guard }=true→vs 40=.bool true)∧True:=hd
   have h40:vs 40=.bool true:=hx9.1 rfl
   clear hx9 hd
   clear hvia
   dsimp only
   rw [show vs 40=_ from h40]
   have hm:=HM5.out y hg
   go_wp2_with(refine zl (by rfl) 36 (.tmp 5) rfl (qx) 0 rfl g1.toList _ hm hut rfl SL1.out ?_;simp only [Array.toArray_toList])
   first | exact⟨rfl,_,rfl,za _,rfl⟩ | exact⟨rfl,_,rfl,za _,rfl,trivial⟩
  ·intro vs lo hi y hg hd hvia
   replace hg:Grew wb y:=hg
   have hx9:(Region.binds .any { on:=41,ground:=.data }=true→vs 41=.agg g1)∧(Region.binds .any { on:=42,ground:=.data }=true→vs 42=.agg g1)∧(Region.binds .any { on:=40,ground:=.chain }=true→vs 40=.bool true)∧(Region.binds .any { on:=40,ground:=.guard }=true→vs 40=.bool true)∧True:=hd
   have h41:vs 41=.agg g1:=hx9.1 rfl
   have h42:vs 42=.agg g1:=hx9.2.1 rfl
   have h40:vs 40=.bool true:=hx9.2.2.2.1 rfl
   clear hx9 hd
   clear hvia
   dsimp only
   rw [show vs 41=_ from h41,show vs 42=_ from h42,show vs 40=_ from h40]
   have hr5:=R5.out y hg
   go_wp2_with(go_at_call 32;refine(CSM.out y hr5).mono ?_;rintro e z ⟨rfl,gz⟩)
   first | exact⟨rfl,_,rfl,gz,rfl⟩ | exact⟨rfl,_,rfl,gz,rfl,trivial⟩
  ·intro vs lo hi y hg hd hvia
   replace hg:Grew wb y:=hg
   obtain⟨h40,h43,_⟩:=hd
   replace h40:=h40 rfl
   replace h43:=h43 rfl
   clear hvia
   dsimp only
   rw [show vs 40=_ from h40,show vs 43=_ from h43]
   go_wp2_with fail
   first | exact⟨rfl,_,rfl,za _,rfl⟩ | exact⟨rfl,_,rfl,za _,rfl,trivial⟩
 ·intro i lo hi v x y h hg
  match i,h with
  | 36,_=>trivial
  | 0,_=>trivial
  | 1,_=>trivial
  | 2,_=>trivial
  | 3,_=>trivial
  | 4,_=>trivial
  | 5,_=>trivial
  | 6,_=>trivial
  | 7,_=>trivial
  | 8,_=>trivial
  | 9,_=>trivial
  | 10,_=>trivial
  | 11,_=>trivial
  | 12,_=>trivial
  | 13,_=>trivial
  | 14,_=>trivial
  | 15,_=>trivial
  | 16,_=>trivial
  | 17,_=>trivial
  | 18,_=>trivial
  | 19,_=>trivial
  | 20,_=>trivial
  | 21,_=>trivial
  | 22,_=>trivial
  | 23,_=>trivial
  | 24,_=>trivial
  | 25,_=>trivial
  | 26,_=>trivial
  | 27,_=>trivial
  | 28,_=>trivial
  | 29,_=>trivial
  | 30,_=>trivial
  | 31,_=>trivial
  | 32,_=>trivial
  | 33,_=>trivial
  | 34,_=>trivial
  | 35,_=>trivial
  | m+37,_=>trivial
 ·intro vs lo hi wf hg hJ hK hB hD
  replace hg:Grew wb wf:=hg
  have k70:=hK 36 (by decide)
  have b70:=hB 36 (by decide)
  clear hK hB hD
  have j0:vs 0=.agg K.C:=hJ 0 (by decide)
  have j2:vs 2=.agg g1:=hJ 2 (by decide)
  have j3:vs 3=.int .i64 ev:=hJ 3 (by decide)
  have j4:vs 4=.agg K.C:=hJ 4 (by decide)
  have j5:vs 5=.agg g0:=hJ 5 (by decide)
  have j6:vs 6=.int .i64 ev:=hJ 6 (by decide)
  have j7:vs 7=.bool true:=hJ 7 (by decide)
  have j8:vs 8=.bool true:=hJ 8 (by decide)
  have j9:vs 9=.agg g1:=hJ 9 (by decide)
  have j10:vs 10=.int .i64 av:=hJ 10 (by decide)
  have j11:vs 11=.agg g0:=hJ 11 (by decide)
  have j12:vs 12=.int .i64 av:=hJ 12 (by decide)
  have j13:vs 13=.bool true:=hJ 13 (by decide)
  have j14:vs 14=.bool true:=hJ 14 (by decide)
  have j15:vs 15=.bool true:=hJ 15 (by decide)
  have j16:vs 16=.agg g1:=hJ 16 (by decide)
  have j17:vs 17=.int .u64 ((dv:Nat):Int):=hJ 17 (by decide)
  have j18:vs 18=.agg g0:=hJ 18 (by decide)
  have j19:vs 19=.int .u64 ((dv:Nat):Int):=hJ 19 (by decide)
  have j20:vs 20=.bool true:=hJ 20 (by decide)
  have j21:vs 21=.bool true:=hJ 21 (by decide)
  have j22:vs 22=.bool true:=hJ 22 (by decide)
  have j23:vs 23=.agg g1:=hJ 23 (by decide)
  have j24:vs 24=.string tj:=hJ 24 (by decide)
  have j25:vs 25=.agg g0:=hJ 25 (by decide)
  have j26:vs 26=.string tj:=hJ 26 (by decide)
  have j27:vs 27=.bool true:=hJ 27 (by decide)
  have j28:vs 28=.bool true:=hJ 28 (by decide)
  have j29:vs 29=.bool true:=hJ 29 (by decide)
  have j30:vs 30=.int .i64 ex:=hJ 30 (by decide)
  have j31:vs 31=.int .i64 ex:=hJ 31 (by decide)
  have j32:vs 32=.bool true:=hJ 32 (by decide)
  have j33:vs 33=.bool true:=hJ 33 (by decide)
  have j34:vs 34=.bool true:=hJ 34 (by decide)
  have j35:vs 35=.agg g3:=hJ 35 (by decide)
  have j37:vs 37=.agg g4:=hJ 37 (by decide)
  have j38:vs 38=.bool true:=hJ 38 (by decide)
  have j39:vs 39=.bool true:=hJ 39 (by decide)
  have j40:vs 40=.bool true:=hJ 40 (by decide)
  have j41:vs 41=.agg g1:=hJ 41 (by decide)
  have j42:vs 42=.agg g1:=hJ 42 (by decide)
  have j43:vs 43=.bool true:=hJ 43 (by decide)
  have j44:vs 44=.bool true:=hJ 44 (by decide)
  have s35:=hJ 1 (by decide)
  have s70:=hJ 36 (by decide)
  clear hJ
  simp only [actOf,tk1,tk0,dr1,dr0,Act.put,si1,st1,st0,Nat.reduceAdd]
  rw [show vs 44=_ from j44]
  go_wp2_with fail
  go_ret
  exact⟨rfl,zc HGB.out hg⟩
end Go.Proofs.YtpppegnojmnicaaGreatDoor
