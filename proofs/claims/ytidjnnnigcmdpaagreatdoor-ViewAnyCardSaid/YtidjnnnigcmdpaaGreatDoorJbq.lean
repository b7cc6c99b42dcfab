/- cut.Make with a key that still signs, an empty pool (mkrpm.py). -/
import Derived.Test.YtidjnnnigcmdpaaGreatDoorJzz
import Derived.Test.YtidjnnnigcmdpaaGreatDoorJbl
import Derived.Test.YtidjnnnigcmdpaaGreatDoorJbp
set_option maxHeartbeats 2000000
set_option maxRecDepth 100000
set_option linter.unusedSimpArgs false
set_option linter.unusedVariables false
set_option linter.unnecessarySimpa false
namespace Go.Proofs.YtidjnnnigcmdpaaGreatDoor
open Go.RowKit
theorem zg2 (who lo hi:Int) (B:Option Addr) (k:Nat):Tryz.prog.built 149 [(0,.int .i64 who),(1,.int .i64 lo),(2,.int .i64 hi),(3,.slice B 0 k)]=some (rpC who lo hi (.slice B 0 k) 0 0 (fun _=>0) (.slice none 0 0)):=by kernel_rfl
theorem zg3 (b p:Nat) (kw sd:Int) (l:List Nat) (nx rs:Nat) (hl:l.length≤256) (hn:nx≤l.length) (hr:rs≤l.length) (hkk:leavesOk l.length=true) (hbb:∀ n∈l,n<18446744073709551616) (hsd:U64 sd) (hpp:∀ m,m<l.length→(pathN l m).length≤8) (who:Int) (hw:in64 who) (lo hi:Int) (hlo:0≤lo) (hlh:lo<hi) (hhi:hi≤1099511627776) (he1:nx<l.length) (he2:nx<rs)
 (pb base:Nat) (room:Int) (w0:World) (hS:Std w0) (w:World) (gw:Grew w0 w) (hpb:w0.heap.size≤pb) (hP:PlS w pb base room 0 (.slice none 0 0) []) (hne1:pb≠b) (hne2:pb≠p) (h:KyAt w b p kw sd l nx rs) :
 Calls Tryz.prog 114 #[.pointer (some ⟨b,0,none⟩),.int .i64 who,.pointer (some ⟨pb,0,none⟩),.int .i64 lo,.int .i64 hi] w fun e w'=>(∃ CA ck A c,e=.returned (.tuple #[.agg (rpC who lo hi (.slice CA 0 ck) kw (nx:Int) (signF (secN sd (nx:Int)) (rpD who lo hi)) (.slice A (pathN l nx).length c)),.int .i64 0])∧Rd w' w'.heap.size A (u64L (pathN l nx))∧(∀ ad,A=some ad→w.heap.size≤ad.block))∧Kp (fun j=>j=b∨j=pb) w w'∧KyAt w' b p kw sd l (nx+1) rs:=by
 have z0:=Ag.new w 149 (#[.int .i64 0,.int .i64 0,.int .i64 0,.slice none 0 0,.int .i64 0,.int .i64 0,.int .u64 0,.int .u64 0,.int .u64 0,.int .u64 0,.int .u64 0,.int .u64 0,.int .u64 0,.int .u64 0,.int .u64 0,.int .u64 0,.int .u64 0,.int .u64 0,.int .u64 0,.int .u64 0,.int .u64 0,.int .u64 0,.int .u64 0,.int .u64 0,.slice none 0 0])
 have g0:=zg (zc w) (.cells (#[.int .i64 0,.int .i64 0,.int .i64 0,.slice none 0 0,.int .i64 0,.int .i64 0,.int .u64 0,.int .u64 0,.int .u64 0,.int .u64 0,.int .u64 0,.int .u64 0,.int .u64 0,.int .u64 0,.int .u64 0,.int .u64 0,.int .u64 0,.int .u64 0,.int .u64 0,.int .u64 0,.int .u64 0,.int .u64 0,.int .u64 0,.int .u64 0,.slice none 0 0]) 149)
 have hut:=Tryz.underlying149
 have hus:=Tryz.underlying67
 have CI:=hQ9 (fun W=>zbg lo hi W)
 rw [show ivB lo hi=true from by unfold ivB;rw [decide_eq_true hlo,decide_eq_true hlh,decide_eq_true hhi];rfl]at CI
 have e0:decide (hi<0)=false:=decide_eq_false (by omega)
 have hin1:in64 lo:=⟨by omega,by omega⟩
 have hin2:in64 hi:=⟨by omega,by omega⟩
 have hdl:=zgj who lo hi
 have CS:=hQ9 (fun W hW=>kU b p kw sd l nx rs hl hn hr (rpD who lo hi:Nat) hkk hbb hsd ⟨by omega,by omega⟩ W hW)
 have CD:=hQ9 (fun B k W hW=>jH who lo hi B k 0 0 (fun _=>0) none 0 [] hw hin1 hin2 W hW)
 have hpl8:=zae l nx rs hpp
 obtain⟨d,hd⟩:∃ d,rpD who lo hi=d:=⟨_,rfl⟩
 rw [hd]at CD
 simp only [hd]at CS
 obtain⟨a1,ha1⟩:∃ v,soW l nx rs kw=v:=⟨_,rfl⟩
 obtain⟨a2,ha2⟩:∃ v,soL l nx rs=v:=⟨_,rfl⟩
 obtain⟨s,hs⟩:∃ v,soS l nx rs sd (d:Int)=v:=⟨_,rfl⟩
 obtain⟨pl,hp1⟩:∃ v,soP l nx rs=v:=⟨_,rfl⟩
 obtain⟨er,he3⟩:∃ v,soE l nx rs=v:=⟨_,rfl⟩
 obtain⟨n2,hn2⟩:∃ v,soN l nx rs=v:=⟨_,rfl⟩
 simp only [ha1,ha2,hs,hp1,he3,hn2]at CS
 rw [hp1]at hpl8
 have hkey:soW l nx rs kw=kw∧soL l nx rs=(nx:Int)∧soS l nx rs sd (d:Int)=signF (secN sd (nx:Int)) d∧soP l nx rs=pathN l nx∧soE l nx rs=0∧soN l nx rs=nx+1:=by
  have q1:¬l.length≤nx:=by omega
  have q2:¬rs≤nx:=by omega
  unfold soW soL soS soP soE soN
  simp only [if_neg q1,if_neg q2,Int.toNat_natCast,and_self]
 have HA1:Hid (kw=a1):=hQ9 (hkey.1.symm.trans ha1)
 have HA2:Hid ((nx:Int)=a2):=hQ9 (hkey.2.1.symm.trans ha2)
 have HSS:Hid (signF (secN sd (nx:Int)) d=s):=hQ9 (hkey.2.2.1.symm.trans hs)
 have HP1:Hid (pathN l nx=pl):=hQ9 (hkey.2.2.2.1.symm.trans hp1)
 have hne:(er != 0)=false:=by rw [←he3,hkey.2.2.2.2.1];rfl
 have HN2:Hid (nx+1=n2):=hQ9 (hkey.2.2.2.2.2.symm.trans hn2)
 have HDD:=hQ9 hd
 have HPW:Hid (p<w.heap.size):=hQ9 h.pub.lt
 clear ha1 ha2 hs hp1 he3 hn2 hkey
 have hbw:b<w.heap.size:=h.key.lt
 have hpbw:pb<w.heap.size:=hP.ptr.lt
 have HS:=hQ9 hS
 have HBI:=hQ9 (fun B k=>zg2 who lo hi B k)
 have K1:=h.grew g0
 have hP1:=hP.gr g0
 have hh0:(0:Int)<hi:=by omega
 clear hS h hP hkk hbb hsd hpp hd hdl hw hlo hlh hhi hin1 hin2
 go_enter Tryz.func114,Tryz.ntmps114
 go_wp2_with fail
 refine(CI.out _).mono ?_
 rintro e wq ⟨rfl,rfl⟩
 go_wp2_with fail
 refine(zkc _ hP1).mono ?_
 rintro e wq ⟨rfl,rfl⟩
 go_wp2_with fail
 refine(zh1 hi hh0 _ hP1).mono ?_
 rintro e w2 ⟨rfl,hP2,k2⟩
 have z2:=z0.kp k2 (fun e=>by omega)
 have K2:=K1.kp k2 (fun e=>hne1 e.symm) (fun e=>hne2 e.symm)
 have G2:Grew w0 w2:=zO (ze gw g0) k2 (by have:=gw.size;have:=g0.size;omega) (fun i e=>by omega)
 have T2:Kp (fun j=>j=b∨j=pb) w w2:=xh (zj g0) k2 (fun i e=>.inl (.inr e))
 clear z0 K1 g0 gw hP1 k2
 go_wp2_with fail
 refine(zfg lo hi w2 hP2).mono ?_
 rintro e w3 ⟨CA,ck,rfl,g3⟩
 have z3:=z2.grew g3
 have K3:=K2.grew g3
 have G3:=ze G2 g3
 have T3:=zB T2 (zj g3)
 clear z2 K2 G2 T2 g3 hP2
 obtain⟨gr,hgr⟩:∃ g,rpC who lo hi (.slice CA 0 ck) 0 0 (fun _=>0) (.slice none 0 0)=g:=⟨_,rfl⟩
 have HGR:=hQ9 hgr
 have HB4:=hQ9 (HBI.out CA ck)
 have CD':=hQ9 (fun W hW=>CD.out CA ck W hW)
 rw [show(Value.slice none ([]:List Nat).length 0)=.slice none 0 0 from rfl]at CD'
 have HSR:Hid ((Tryz.prog.info? 149).map (·.size)=some gr.size):=hQ9 (by rw [←hgr];exact y5)
 have HSRL:Hid ((Tryz.prog.info? 149).map (·.size)=some gr.toList.length):=hQ9 (by rw [←hgr];exact y5)
 have HOR:Hid (gr.all (·.oneCell')=true):=hQ9 (by rw [←hgr];exact zac _ _ _ _ _ _ _ _ none 0 0)
 obtain⟨w4,hw4,ht4,g4,z4⟩:=zce w3 gr (by rw [←hgr];rfl)
 rw [hgr]at HB4 CD'
 have HW4:=hQ9 hw4
 have HT4:=hQ9 ht4
 have hm4:=z4.cell
 have hz34:=z4.lt
 have hz3:=z3.lt
 have z34:=z3.grew g4
 have K4:=K3.grew g4
 have G4:=ze G3 g4
 have T4:=zB T3 (zj g4)
 have hw3:w.heap.size≤w3.heap.size:=T3.size
 clear hw4 ht4 hgr CD HBI K3 G3 T3 z3 g4
 go_wp2_with(first
  | (with_reducible refine zC rfl 149 #[(0,.tmp 28),(1,.tmp 29),(2,.tmp 30),(3,.tmp 34)] rfl gr ?_ ?_;· simpa [Act.eval,Act.put]using HB4.out)
  | (with_reducible refine wpList_store_mid rfl 149 (.tmp 12) (.tmp 35) rfl w3.heap.size 0 gr rfl rfl HT4.out HSR.out HOR.out ?_;rw [HW4.out];clear HW4 HT4;generalize w3.heap.size=q3 at *)
  | (with_reducible refine wpList_load_mid rfl 149 (.tmp 12) rfl q3 0 rfl gr.toList _ hm4 hut rfl HSRL.out ?_;simp only [Array.toArray_toList]))
 refine(CD'.out w4 (HS.out.grew G4)).mono ?_
 rintro e w5 ⟨rfl,g5⟩
 have z5:=z4.grew g5
 have z35:=z34.grew g5
 have K5:=K4.grew g5
 have T5:=zB T4 (zj g5)
 have hz45:=g5.size
 clear z4 z34 K4 T4 G4 g5 CD' hm4
 go_wp2_with fail
 refine(CS.out w5 K5).mono ?_
 rintro e w6 ⟨⟨A,c,rfl,r6,hA⟩,t6,K6⟩
 have z6:=z5.kp (kp_tn t6) (show ¬q3=b by omega)
 have z36:=z35.kp (kp_tn t6) (show ¬w.heap.size=b by omega)
 have T6:Kp (fun j=>j=b∨j=pb) w w6:=zB T5 (xn (kp_tn t6) (fun i e=>.inl e))
 have h56:=t6.size
 have HFR:Hid (∀ ad,A=some ad→q3<ad.block):=hQ9 (fun ad e=>by have:=hA ad e;omega)
 have hq36:=z6.lt
 clear K5 T5 t6 hA z5 z35 CS
 have HSI1:Hid ((Tryz.prog.info? 67).map (·.size)=some (sgC a1 a2 s (.slice A pl.length c)).size):=hQ9 zL
 have HSL1:Hid ((Tryz.prog.info? 67).map (·.size)=some (sgC a1 a2 s (.slice A pl.length c)).toList.length):=hQ9 zL
 have HON1:=hQ9 (yL a1 a2 s A pl.length c)
 obtain⟨w7,hw7,ht7,g7,z7⟩:=zW w6 67 (zS21) (sgC a1 a2 s (.slice A pl.length c)) rfl
 have z67:=z6.grew g7
 have z37:=z36.grew g7
 have r7:=r6.gr g7
 have K7:=K6.grew g7
 have T7:=zB T6 (zj g7)
 have HSF:Hid (gr.toList=[.int .i64 who,.int .i64 lo,.int .i64 hi,.slice CA 0 ck]++(sgC 0 0 (fun _=>0) (.slice none 0 0)).toList):=hQ9 (by rw [←HGR.out];rfl)
 have y8:Ag (w7.setCells q3 4 (sgC a1 a2 s (.slice A pl.length c)).toList) q3 (rpC who lo hi (.slice CA 0 ck) a1 a2 s (.slice A pl.length c)).toList:=by
  rw [HSF.out]at z67
  exact Ag.setTail (pre:=[.int .i64 who,.int .i64 lo,.int .i64 hi,.slice CA 0 ck]) (old:=(sgC 0 0 (fun _=>0) (.slice none 0 0)).toList) (vs:=(sgC a1 a2 s (.slice A pl.length c)).toList) z67 rfl
 have k8:=zn (sgC a1 a2 s (.slice A pl.length c)).toList q3 4 w7
 have THG:Hid (w7.there q3 4 (sgC a1 a2 s (.slice A pl.length c)).size):=hQ9 (fun i hi=>by
  have hi':i<21:=hi
  have hgl:gr.toList.length=25:=by rw [←HGR.out];rfl
  have:=z67.there (4+i) (by rw [hgl];omega)
  simpa using this)
 have z38:=z37.kp k8 (show ¬w.heap.size=q3 by omega)
 have K8:=K7.kp k8 (show ¬b=q3 by omega) (show ¬p=q3 by have:=HPW.out;omega)
 have r8:=(r7.kp k8 (Nat.le_refl _) (fun ad e1 _ (e3:ad.block=q3)=>by have:=HFR.out ad e1;omega)).more k8.size
 have T8:Kp (fun j=>j=b∨j=pb) w (w7.setCells q3 4 (sgC a1 a2 s (.slice A pl.length c)).toList):=xh T7 k8 (fun i (e:i=q3)=>.inr (by omega))
 obtain⟨w8,hw8⟩:∃ v,w7.setCells q3 4 (sgC a1 a2 s (.slice A pl.length c)).toList=v:=⟨_,rfl⟩
 rw [hw8]at y8 z38 K8 r8 T8
 have HTZ:Hid (w8.there w.heap.size 0 (rpC who lo hi (.slice CA 0 ck) a1 a2 s (.slice A pl.length c)).size):=hQ9 (z38.thereN 25 rfl)
 have HOZ:=hQ9 (zac who lo hi CA ck a1 a2 s A pl.length c)
 have HSZ:Hid ((Tryz.prog.info? 149).map (·.size)=some (rpC who lo hi (.slice CA 0 ck) a1 a2 s (.slice A pl.length c)).size):=hQ9 y5
 have HSZL:Hid ((Tryz.prog.info? 149).map (·.size)=some (rpC who lo hi (.slice CA 0 ck) a1 a2 s (.slice A pl.length c)).toList.length):=hQ9 y5
 have z9:=Ag.set (vs:=(rpC who lo hi (.slice CA 0 ck) a1 a2 s (.slice A pl.length c)).toList) z38 rfl
 have k9:=zn (rpC who lo hi (.slice CA 0 ck) a1 a2 s (.slice A pl.length c)).toList w.heap.size 0 w8
 have KK:=K8.kp k9 (show ¬b=w.heap.size by omega) (show ¬p=w.heap.size by have:=HPW.out;omega)
 have TT:Kp (fun j=>j=b∨j=pb) w (w8.setCells w.heap.size 0 (rpC who lo hi (.slice CA 0 ck) a1 a2 s (.slice A pl.length c)).toList):=xh T8 k9 (fun i (e:i=w.heap.size)=>.inr (by omega))
 have RR:=(r8.kp k9 (Nat.le_refl _) (fun ad e1 _ (e3:ad.block=w.heap.size)=>by have:=HFR.out ad e1;omega)).more k9.size
 have hm7:=z7.cell
 have hm8:=y8.cell
 have HW7:=hQ9 hw7
 have HT7:=hQ9 ht7
 have HW8:=hQ9 hw8
 obtain⟨g1,hg1⟩:∃ g,sgC a1 a2 s (.slice A pl.length c)=g:=⟨_,rfl⟩
 rw [hg1]at HSI1 HSL1 HON1 HW7 HT7 hm7 HW8 THG ⊢
 obtain⟨g2,hg2⟩:∃ g,rpC who lo hi (.slice CA 0 ck) a1 a2 s (.slice A pl.length c)=g:=⟨_,rfl⟩
 have HG2':=hQ9 hg2
 rw [hg2]at HTZ HOZ HSZ HSZL z9 KK TT RR hm8
 clear z6 z36 r6 K6 T6 g7 z67 z37 r7 K7 T7 z7 y8 k8 z38 K8 r8 T8 k9 hg1 hg2 hw7 ht7 hw8 HSF
 go_wp2_with(first
  | (with_reducible refine wpList_store_mid rfl 67 (.tmp 13) (.tmp 41) rfl w6.heap.size 0 g1 rfl rfl HT7.out HSI1.out HON1.out ?_;rw [HW7.out];clear HW7 HT7)
  | (with_reducible refine wpList_load_mid rfl 67 (.tmp 13) rfl w6.heap.size 0 rfl g1.toList _ hm7 hus rfl HSL1.out ?_;simp only [Array.toArray_toList])
  | (with_reducible refine wpList_store_mid rfl 67 (.tmp 48) (.tmp 47) rfl q3 4 g1 rfl rfl THG.out HSI1.out HON1.out ?_;rw [HW8.out];clear HW8 THG)
  | (with_reducible refine wpList_load_mid rfl 149 (.tmp 12) rfl q3 0 rfl g2.toList _ hm8 hut rfl HSZL.out ?_;simp only [Array.toArray_toList])
  | (with_reducible refine wpList_store_mid rfl 149 (.tmp 10) (.tmp 49) rfl w.heap.size 0 g2 rfl rfl HTZ.out HSZ.out HOZ.out ?_))
 exact bodyPost_ret (zT Tryz.results114 _ _ (w.heap.size) _ _ _ rfl rfl z9 hut rfl HSZL.out) rfl ⟨⟨CA,ck,A,c,by show Ending.returned (.tuple #[.agg g2.toList.toArray,.int .i64 0])=_;rw [Array.toArray_toList,←HG2'.out,HDD.out,HSS.out,HP1.out,HA2.out,HA1.out],by rw [HP1.out];exact RR,fun ad e=>by have:=HFR.out ad e;omega⟩,TT,by rw [HN2.out];exact KK⟩
end Go.Proofs.YtidjnnnigcmdpaaGreatDoor
