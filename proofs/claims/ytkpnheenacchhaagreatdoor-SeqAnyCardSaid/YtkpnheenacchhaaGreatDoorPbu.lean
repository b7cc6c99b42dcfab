/- CertMakes: the law (mkckl.py). -/
import Derived.Test.YtkpnheenacchhaaGreatDoorPzz
import Derived.Test.YtkpnheenacchhaaGreatDoorPbt
import Derived.Test.YtkpnheenacchhaaGreatDoorPbq
import Derived.Test.YtkpnheenacchhaaGreatDoorPbr
import Derived.Test.YtkpnheenacchhaaGreatDoorPal
set_option maxHeartbeats 8000000
set_option maxRecDepth 100000
set_option linter.unusedSimpArgs false
set_option linter.unusedVariables false
namespace Go.Proofs.YtkpnheenacchhaaGreatDoor
open Go.RowKit
structure KyR (w:World) (f:Int) (R:List Nat) (h:Int) (v:Value):Prop where
 out:∃ A c,v=.agg (kyS f A R.length c h)∧Rd w w.heap.size A (u64L R)
theorem KyR.gr {w w':World} {f:Int} {R:List Nat} {h:Int} {v:Value} (k:KyR w f R h v) (g:Grew w w'):KyR w' f R h v:=by
 obtain⟨A,c,h1,h2⟩:=k.out
 exact⟨A,c,h1,h2.gr g⟩
structure MvS (w:World) (L:List SP) (v:Value):Prop where
 out:∃ B k M,v=.slice B L.length k∧MvL L M∧Sps w B M
theorem MvS.gr {w w':World} {L:List SP} {v:Value} (h:MvS w L v) (g:Grew w w'):MvS w' L v:=by
 obtain⟨B,k,M,h1,h2,h3⟩:=h.out
 exact⟨B,k,M,h1,h2,h3.gr g⟩
structure CrR (w:World) (mcm:Cm) (LE:List SP) (v:Value):Prop where
 out:∃ B k M,v=.agg (ctC mcm B LE.length k)∧MvL LE M∧Sps w B M
theorem CrR.gr {w w':World} {mcm:Cm} {LE:List SP} {v:Value} (h:CrR w mcm LE v) (g:Grew w w'):CrR w' mcm LE v:=by
 obtain⟨B,k,M,h1,h2,h3⟩:=h.out
 exact⟨B,k,M,h1,h2,h3.gr g⟩
theorem zc1 {L M N:List SP} (h1:MvL L M) (h2:MvL M N):MvL L N:=⟨by rw [h2.len,h1.len],fun k a b=>by
 obtain⟨A,c,e⟩:=h1.each k a (by rw [h1.len];exact a)
 obtain⟨A',c',e'⟩:=h2.each k (by rw [h1.len];exact a) b
 exact⟨A',c',by rw [e',e];rfl⟩⟩
theorem zp5 {w:World} {A:Option Addr} {L:List SP} (hf:fewB L=true) (hr:RdG w A L) (hok:∀ S∈L,S.l.length≤1000→S.ok) (hat:∀ S∈L,S.at w):SpsG w A L∧L.length≤12:=by
 unfold fewB at hf
 simp only [Bool.and_eq_true,decide_eq_true_eq,List.all_eq_true]at hf
 exact⟨⟨hr,fun S hS=>hok S hS (by have:=hf.2 S hS;omega),hat⟩,hf.1⟩
structure AppA (w:World) (base:Nat) (r:Value) (N0 n:Nat) (xs:List Value) (v:Value):Prop where
 own:w.ownsRow base 70 23 v n xs
 blk:v.ownBlock=r.ownBlock∨∃ g,v.ownBlock=some g∧N0≤g
theorem AppA.gr {w w':World} {base:Nat} {r:Value} {N0 n:Nat} {xs:List Value} {v:Value} (h:AppA w base r N0 n xs v) (g:Grew w w'):AppA w' base r N0 n xs v:=⟨zo (S:=fun _=>False) h.own (zF g) (fun _ _ h=>h),h.blk⟩
structure GaO (K:KP) (c:Cm) (CA:Option Addr) (ck:Nat) (LC:List SP) (L:List AP) (w:World) (v:Value):Prop where
 out:(mvE K c LC≠0∧v=.tuple #[.agg (zQ7:Array Value),.int .i64 (mvE K c LC)])∨(mvE K c LC=0∧enoughA K (ctD c LC) L=false∧v=.tuple #[.agg (zQ7:Array Value),.int .i64 8])∨(mvE K c LC=0∧enoughA K (ctD c LC) L=true∧∃ D j,v=.tuple #[.agg (sqC c CA LC.length ck D (chosenA K (ctD c LC) L).length j),.int .i64 0]∧Aps w D (chosenA K (ctD c LC) L))
theorem yk:(Tryz.prog.info? 111).map (·.size)=some 7:=by kernel_rfl
theorem zn4:Tryz.prog.built 111 []=some (#[.int .i64 0,.int .i64 0,.int .i64 0,.int .i64 0,.int .i64 0,.slice none 0 0,.slice none 0 0]:Array Value):=by kernel_rfl
theorem zjd (c:Cm) (B:Option Addr) (n k:Nat):Tryz.prog.built 111 [(0,.agg (ctC c B n k))]=some (sqC c B n k none 0 0):=by kernel_rfl
theorem zje (c:Cm) {K:KP} (hK:K.ok) (CA:Option Addr) (ck:Nat) (LC:List SP) (hlc:LC.length≤40) (A:Option Addr) (cap:Nat) (L:List AP) (hl:L.length≤100000) (w:World) (hS:Std w) (hk:K.at w) (hLC:SpsG w CA LC) (hL:ApsG w A L) :
 Calls Tryz.prog 47 #[.agg K.C,.agg (ctC c CA LC.length ck),.slice A L.length cap] w fun e w'=>GaO K c CA ck LC L w' (match e with | .returned v=>v | _=>undef)∧(∃ v,e=.returned v)∧Grew w w':=by
 have huk:=Tryz.underlying64
 have huc:=Tryz.underlying36
 have hut:=Tryz.underlying111
 have hus:=Tryz.underlying70
 have SIC:Hid (zI9 36=some (ctC c CA LC.length ck).toList.length):=hQ9 yZ
 have SIK:Hid (zI9 64=some K.C.toList.length):=hQ9 ku
 have z0:=((Ag.new w 64 K.C).grew (ze (za _) (.cells (ctC c CA LC.length ck) 36))).grew (ze (za _) (.cells ((zQ7:Array Value)) 111))
 have z1:=(Ag.new (w.alloc (.cells K.C 64)) 36 (ctC c CA LC.length ck)).grew (ze (za _) (.cells ((zQ7:Array Value)) 111))
 have z2:=Ag.new ((w.alloc (.cells K.C 64)).alloc (.cells (ctC c CA LC.length ck) 36)) 111 ((zQ7:Array Value))
 rw [zl]at z1
 rw [zl,zl]at z2
 have G0:=ze (ze (ze (za w) (.cells K.C 64)) (.cells (ctC c CA LC.length ck) 36)) (.cells ((zQ7:Array Value)) 111)
 have hmk:=z0.cell
 have HSS:=hQ9 hS
 have CC:=hQ9 (fun W (g:Grew w W)=>jG c hK CA ck LC hlc W (hk.gr g) (hLC.gr g))
 have HKA:=hQ9 hk
 have HLA:=hQ9 hL
 have hm1:=z1.cell
 have hbz:=zn4
 have bz:∀ W,(Instr.build 111 #[]).run Tryz.prog W=.ok (.agg ((#[.int .i64 0,.int .i64 0,.int .i64 0,.int .i64 0,.int .i64 0,.slice none 0 0,.slice none 0 0]:Array Value))) W:=fun W=>run_build W 111 _ _ hbz
 have HSI:Hid (zI9 111=some ((zQ7:Array Value)).size):=hQ9 yk
 have HON:Hid (((#[.int .i64 0,.int .i64 0,.int .i64 0,.int .i64 0,.int .i64 0,.slice none 0 0,.slice none 0 0]:Array Value)).all (·.oneCell')=true):=hQ9 (by simp [Value.oneCell'])
 obtain⟨mv,hmv⟩:∃ v,mvE K c LC=v:=⟨_,rfl⟩
 rw [hmv]at CC
 by_cases hc:mv=0
 rotate_left
 ·have HR:Hid (mvE K c LC≠0∧mvE K c LC=mv):=hQ9 ⟨by rw [hmv];exact hc,hmv⟩
  have e11:(mv != 0)=true:=by simpa using hc
  clear hc hk hL hbz hmv hLC hlc hS hK
  go_enter Tryz.func47,Tryz.ntmps47
  go_wp2_with(first | (with_reducible refine wpList_load_mid rfl 64 (.tmp 3) rfl w.heap.size 0 rfl K.C.toList _ hmk huk rfl SIK.out ?_;simp only [zT9]) | (with_reducible refine wpList_load_mid rfl 36 (.tmp 4) rfl (w.heap.size+1) 0 rfl (ctC c CA LC.length ck).toList _ hm1 huc rfl SIC.out ?_;simp only [zT9]))
  refine(CC.out _ G0).mono ?_
  rintro e w2 ⟨rfl,gg⟩
  have z3:=z2.grew gg
  have G2:=zb G0 gg
  have HTH:Hid (w2.there (w.heap.size+1+1) 0 ((zQ7:Array Value)).size):=hQ9 (z3.thereN 7 rfl)
  have z4:=Ag.set (vs:=((zQ7:Array Value)).toList) z3 rfl
  have G5:=zh (o:=0) (b:=w.heap.size+1+1) ((zQ7:Array Value)).toList G2 (by omega)
  clear z0 z1 z2 hm1 hmk z3 gg CC G0
  go_wp2_with(with_reducible refine wpList_store_mid rfl 111 (.tmp 6) (.tmp 17) rfl (w.heap.size+1+1) 0 ((zQ7:Array Value)) rfl rfl HTH.out HSI.out HON.out ?_)
  exact bodyPost_ret (zw Tryz.results47 _ _ (w.heap.size+1+1) _ _ _ rfl rfl z4 hut rfl yk) rfl ⟨⟨.inl ⟨HR.out.1,by rw [HR.out.2];rfl⟩⟩,⟨_,rfl⟩,G5⟩
 subst hc
 obtain⟨D,hD⟩:∃ D,ctD c LC=D:=⟨_,rfl⟩
 have CD:Hid (∀ W,Grew w W→Calls Tryz.prog 115 #[.agg (ctC c CA LC.length ck)] W fun e w'=>e=.returned (.int .u64 (D:Nat))∧Grew W w'):=hQ9 (fun W g=>by
  have:=ji c (xj (jj hmv)) CA ck LC hlc W (hLC.gr g)
  rw [hD]at this
  exact this)
 have HRF:Hid (enoughA K D L=false→∀ w' v,v=.tuple #[.agg (zQ7:Array Value),.int .i64 8]→GaO K c CA ck LC L w' v):=hQ9 (fun h w' v hv=>⟨.inr (.inl ⟨hmv,by rw [hD];exact h,hv⟩)⟩)
 have HRO:Hid (enoughA K D L=true→∀ w' v E j,v=.tuple #[.agg (sqC c CA LC.length ck E (chosenA K D L).length j),.int .i64 0]→Aps w' E (chosenA K D L)→GaO K c CA ck LC L w' v):=hQ9 (fun h w' v E j hv ha=>⟨.inr (.inr ⟨hmv,by rw [hD];exact h,E,j,by rw [hD];exact hv,by rw [hD];exact ha⟩)⟩)
 have hf:=hK.f
 have HK:=hQ9 hK
 have HLL:=hQ9 hl
 have CN:Hid (∀ W,Calls Tryz.prog 78 #[.int .i64 K.f] W fun e w'=>e=.returned (.int .i64 (3*K.f+1))∧Grew W w'):=hQ9 (fun W=>(rn_ok K.f (by omega) W).mono (by rintro e z ⟨rfl,rfl⟩;exact⟨rfl,za _⟩))
 have CQ:Hid (∀ W,Calls Tryz.prog 114 #[.int .i64 K.f] W fun e w'=>e=.returned (.int .i64 (2*K.f+1))∧Grew W w'):=hQ9 (fun W=>(rq_ok K.f (by omega) W).mono (by rintro e z ⟨rfl,rfl⟩;exact⟨rfl,za _⟩))
 have HF:=hQ9 hf
 clear hk hL hbz hD hf hK hl hmv hLC hlc hS
 go_enter Tryz.func47,Tryz.ntmps47
 go_wp2_with(first | (with_reducible refine wpList_load_mid rfl 64 (.tmp 3) rfl w.heap.size 0 rfl K.C.toList _ hmk huk rfl SIK.out ?_;simp only [zT9]) | (with_reducible refine wpList_load_mid rfl 36 (.tmp 4) rfl (w.heap.size+1) 0 rfl (ctC c CA LC.length ck).toList _ hm1 huc rfl SIC.out ?_;simp only [zT9]))
 refine(CC.out _ G0).mono ?_
 rintro e w2 ⟨rfl,gg⟩
 have z0:=z0.grew gg
 have z1:=z1.grew gg
 have z2:=z2.grew gg
 clear hm1 hmk
 have hm1:=z1.cell
 have G3:=zb G0 gg
 have HQW:Hid (w.heap.size+3≤w2.heap.size):=hQ9 (by have:=z2.lt;omega)
 clear gg CC G0
 obtain⟨w4,hw4,ht4,g4,z4⟩:=yT w2 111 ((zQ7:Array Value)) (sqC c CA LC.length ck none 0 0) rfl
 have HW4:=hQ9 hw4
 have HT4:=hQ9 ht4
 have SI4:Hid (zI9 111=some (sqC c CA LC.length ck none 0 0).size):=hQ9 yk
 have HO4:=hQ9 (y7 c CA LC.length ck none 0 0)
 have HBU:=hQ9 (zjd c CA LC.length ck)
 have z0:=z0.grew g4
 have z1:=z1.grew g4
 have z2:=z2.grew g4
 have G4:=zb G3 g4
 have HQL:Hid (w2.heap.size<w4.heap.size):=hQ9 z4.lt
 clear hw4 ht4 G3
 go_wp2_with(first
  | (with_reducible refine wpList_load_mid rfl 36 (.tmp 4) rfl (w.heap.size+1) 0 rfl (ctC c CA LC.length ck).toList _ hm1 huc rfl SIC.out ?_;simp only [zT9])
  | (with_reducible refine zC rfl 111 #[(0,.tmp 19)] rfl (sqC c CA LC.length ck none 0 0) ?_ ?_;· simpa [Act.eval,Act.put]using HBU.out)
  | (with_reducible refine wpList_store_mid rfl 111 (.tmp 9) (.tmp 20) rfl w2.heap.size 0 (sqC c CA LC.length ck none 0 0) rfl rfl HT4.out SI4.out HO4.out ?_;rw [HW4.out]))
 clear hm1 HT4 HW4 SI4 HO4 HBU g4
 obtain⟨q,hq⟩:∃ q,w2.heap.size=q:=⟨_,rfl⟩
 rw [hq]at z4 HQL HQW ⊢
 clear hq
 obtain⟨N,hN⟩:∃ n:Nat,(3*K.f+1).toNat=n:=⟨_,rfl⟩
 obtain⟨Q,hQ⟩:∃ n:Nat,(2*K.f+1).toNat=n:=⟨_,rfl⟩
 have eN:3*K.f+1=(N:Int):=by have:=HF.out;omega
 have eQ:2*K.f+1=(Q:Int):=by have:=HF.out;omega
 have HEN:=hQ9 eN
 have HN:=hQ9 hN
 have HQ:=hQ9 hQ
 rw [eN]at CN
 rw [eQ]at CQ
 obtain⟨i0,hinf,hz0,hz1,hz2⟩:=info_parts zhi
 clear eN eQ hN hQ
 go_loopw [10] (fun vv wr=>∃(v:Nat) (R:Value),v≤N∧vv=.int .i64 (v:Int)∧wr.ownsRow (q+1) 70 23 R (apkS K D L v).length (apL (apkS K D L v)).flatten∧Ag wr q ((ctC c CA LC.length ck).toList++[R])∧Ag wr w.heap.size K.C.toList∧Ag wr (w.heap.size+1) (ctC c CA LC.length ck).toList∧Ag wr (w.heap.size+1+1) ((zQ7:Array Value)).toList∧Grew w wr∧q<wr.heap.size) (fun vv _=>N-(Go.RowKit.intOf vv).toNat)
 case atStart=>exact⟨0,.slice none 0 0,Nat.zero_le _,rfl,World.ownsRow_nil _ _ _ _,z4,z0,z1,z2,G4,HQL.out⟩
 case round =>
  clear z4 z0 z1 z2 G4
  obtain⟨v,R,hv,rfl,hrow,zq,zk,zm,zz,hg,hqs⟩:=hrel
  have hPl:=zny K D L v
  rw [HQ.out]at hPl
  have HPL:=hQ9 hPl
  obtain⟨P,hP⟩:∃ P,apkS K D L v=P:=⟨_,rfl⟩
  rw [hP]at hrow hPl HPL
  have HP:=hQ9 hP
  obtain⟨B,pc,hR,-,-,hpm,-⟩:=y6 hrow rfl
  subst hR
  have hcR:wr.cell? ⟨q,6,none⟩=some (.slice B P.length pc):=by simpa using zq.cell 6 _ rfl
  have hcF:wr.cell? ⟨w.heap.size,0,none⟩=some (.int .i64 K.f):=by simpa using zk.cell 0 _ rfl
  have HZQ:=hQ9 zq
  have HZK:=hQ9 zk
  have HZZ:=hQ9 zz
  have HZM:=hQ9 zm
  have HG:=hQ9 hg
  have HROW:=hQ9 hrow
  have HQS:=hQ9 hqs
  have YR:∀ y:Gr wr,y.val.cell? ⟨q,6,none⟩=some (.slice B P.length pc):=fun y=>zX hcR y.ok
  have YF:∀ y:Gr wr,y.val.cell? ⟨w.heap.size,0,none⟩=some (.int .i64 K.f):=fun y=>zX hcF y.ok
  clear hP hcR hcF zq zk zm zz hg hrow hqs hPl hpm
  by_cases hvN:v<N
  rotate_left
  ·have e27:decide (v<N)=false:=zF9 (by omega)
   have HE:Hid (P=chosenA K D L):=hQ9 (by rw [←HP.out,←ze8 HK.out,HN.out];congr 1;omega)
   clear hvN hv
   go_upto_region 6 with fail
   refine zg (za wr) (by kernel_rfl) (by kernel_rfl) ?_
   repeat (go_big_quiet_step (first
    | (go_at_call 78;exact callG (CN.out _))
    | (go_at_call 114;exact callG (CQ.out _))))
   refine wpQuiet_nil ?_
   rintro wq ⟨⟨wq',gq⟩,rfl⟩
   try clear e35
   try clear e27
   have zq:=HZQ.out.grew gq
   have zz:=HZZ.out.grew gq
   have zk:=HZK.out.grew gq
   have hg:=zb HG.out gq
   have hrow:=zo (S:=fun _=>False) HROW.out (zF gq) (fun g _ h=>h)
   have hcR:wq.cell? ⟨q,6,none⟩=some (.slice B P.length pc):=by simpa using zq.cell 6 _ rfl
   have hcF:wq.cell? ⟨w.heap.size,0,none⟩=some (.int .i64 K.f):=by simpa using zk.cell 0 _ rfl
   have YR2:∀ y:Gr wq,y.val.cell? ⟨q,6,none⟩=some (.slice B P.length pc):=fun y=>zX hcR y.ok
   have YF2:∀ y:Gr wq,y.val.cell? ⟨w.heap.size,0,none⟩=some (.int .i64 K.f):=fun y=>zX hcF y.ok
   obtain⟨B2,k2,e2,hRd,-,-,hbB⟩:=y6 hrow rfl
   injection e2 with e2 _ e3
   subst e2
   subst e3
   have hpe:=qR HK.out D L
   rw [←HE.out,HQ.out]at hpe
   have HSPM:Hid (Aps wq B P):=hQ9 ⟨hRd,fun S hS=>HLA.out.ok S (y8 (HE.out▸hS)),fun S hS=>(HLA.out.at_ S (y8 (HE.out▸hS))).gr hg⟩
   have HBB:=hQ9 hbB
   clear YR YF hRd hbB hcR hcF hrow zk gq
   cases hen:enoughA K D L with
   | false =>
    have e85:decide (P.length<Q)=true:=by
     rw [hen]at hpe
     have:P.length<Q:=of_decide_eq_true hpe
     exact decide_eq_true (by omega)
    have HMR:=hQ9 (HRF.out hen)
    clear hpe hen zq
    go_upto_region 13 with fail
    refine zg (za wq) (by kernel_rfl) (by kernel_rfl) ?_
    repeat (go_big_quiet_step (first
     | (go_at_call 114;exact callG (CQ.out _))))
    refine wpQuiet_nil ?_
    rintro wG ⟨⟨wG',gG⟩,rfl⟩
    have z3:=zz.grew gG
    have G6:=zb hg gG
    have HTH:Hid (wG.there (w.heap.size+1+1) 0 ((zQ7:Array Value)).size):=hQ9 (z3.thereN 7 rfl)
    have z4:=Ag.set (vs:=((zQ7:Array Value)).toList) z3 rfl
    have G5:=zh (o:=0) (b:=w.heap.size+1+1) ((zQ7:Array Value)).toList G6 (by omega)
    clear z3 zz YR2 YF2
    go_wp2_with(with_reducible refine wpList_store_mid rfl 111 (.tmp 6) (.tmp 85) rfl (w.heap.size+1+1) 0 ((zQ7:Array Value)) rfl rfl HTH.out HSI.out HON.out ?_)
    exact bodyPost_ret (zw Tryz.results47 _ _ (w.heap.size+1+1) _ _ _ rfl rfl z4 hut rfl yk) rfl ⟨HMR.out _ _ rfl,⟨_,rfl⟩,G5⟩
   | true =>
    have e85:decide (P.length<Q)=false:=by
     rw [hen]at hpe
     have:¬P.length<Q:=of_decide_eq_false hpe
     exact zF9 (by omega)
    have HMR:=hQ9 (HRO.out hen)
    rw [←HE.out]at HMR
    clear hpe hen
    go_upto_region 13 with fail
    refine zg (za wq) (by kernel_rfl) (by kernel_rfl) ?_
    repeat (go_big_quiet_step (first
     | (go_at_call 114;exact callG (CQ.out _))))
    refine wpQuiet_nil ?_
    rintro wG ⟨⟨wG',gG⟩,rfl⟩
    have z3:=zz.grew gG
    have z7:=zq.grew gG
    have G6:=zb hg gG
    rw [show(ctC c CA LC.length ck).toList++[Value.slice B P.length pc]=(sqC c CA LC.length ck B P.length pc).toList from rfl]at z7
    have hm7:=z7.cell
    have SI7:Hid (zI9 111=some (sqC c CA LC.length ck B P.length pc).toList.length):=hQ9 yk
    have SI8:Hid (zI9 111=some (sqC c CA LC.length ck B P.length pc).size):=hQ9 yk
    have HO8:=hQ9 (y7 c CA LC.length ck B P.length pc)
    have HTH:Hid (wG.there (w.heap.size+1+1) 0 (sqC c CA LC.length ck B P.length pc).size):=hQ9 (z3.thereN 7 rfl)
    have zf:=Ag.set (vs:=(sqC c CA LC.length ck B P.length pc).toList) z3 rfl
    have Gf:=zh (o:=0) (b:=w.heap.size+1+1) (sqC c CA LC.length ck B P.length pc).toList G6 (by omega)
    have HSPS:=hQ9 ((HSPM.out.gr gG).kpx (zn (sqC c CA LC.length ck B P.length pc).toList (w.heap.size+1+1) 0 wG) (fun ad h e=>by have:=(HBB.out ad h).1;have:=HQW.out;have e':ad.block=w.heap.size+1+1:=e;omega) (fun S hS ad h=>by
     rcases yJ (HLA.out.at_ S (y8 (HE.out▸hS))) ad h with h1 | h1
     ·exact .inl h1
     ·exact .inr (fun e=>by have e':ad.block=w.heap.size+1+1:=e;omega)))
    clear z3 zz zq YR2 YF2 z7
    go_wp2_with(first
     | (with_reducible refine wpList_load_mid rfl 111 (.tmp 9) rfl q 0 rfl (sqC c CA LC.length ck B P.length pc).toList _ hm7 hut rfl SI7.out ?_;simp only [zT9])
     | (with_reducible refine wpList_store_mid rfl 111 (.tmp 6) (.tmp 86) rfl (w.heap.size+1+1) 0 (sqC c CA LC.length ck B P.length pc) rfl rfl HTH.out SI8.out HO8.out ?_))
    exact bodyPost_ret (zw Tryz.results47 _ _ (w.heap.size+1+1) _ _ _ rfl rfl zf hut rfl yk) rfl ⟨HMR.out _ _ B pc rfl HSPS.out,⟨_,rfl⟩,Gf⟩
  by_cases hPQ:P.length<Q
  rotate_left
  ·have e27:decide (v<N)=true:=decide_eq_true (by omega)
   have e35:decide (P.length<Q)=false:=zF9 (by omega)
   have HE:Hid (P=chosenA K D L):=hQ9 (by rw [←HP.out];exact znz HK.out D L v (by rw [HN.out];omega) (by rw [HP.out,HQ.out];omega))
   clear hvN hv hPQ
   go_upto_region 6 with fail
   refine zg (za wr) (by kernel_rfl) (by kernel_rfl) ?_
   repeat (go_big_quiet_step (first
    | (go_at_call 78;exact callG (CN.out _))
    | (go_at_call 114;exact callG (CQ.out _))))
   refine wpQuiet_nil ?_
   rintro wq ⟨⟨wq',gq⟩,rfl⟩
   try clear e35
   try clear e27
   have zq:=HZQ.out.grew gq
   have zz:=HZZ.out.grew gq
   have zk:=HZK.out.grew gq
   have hg:=zb HG.out gq
   have hrow:=zo (S:=fun _=>False) HROW.out (zF gq) (fun g _ h=>h)
   have hcR:wq.cell? ⟨q,6,none⟩=some (.slice B P.length pc):=by simpa using zq.cell 6 _ rfl
   have hcF:wq.cell? ⟨w.heap.size,0,none⟩=some (.int .i64 K.f):=by simpa using zk.cell 0 _ rfl
   have YR2:∀ y:Gr wq,y.val.cell? ⟨q,6,none⟩=some (.slice B P.length pc):=fun y=>zX hcR y.ok
   have YF2:∀ y:Gr wq,y.val.cell? ⟨w.heap.size,0,none⟩=some (.int .i64 K.f):=fun y=>zX hcF y.ok
   obtain⟨B2,k2,e2,hRd,-,-,hbB⟩:=y6 hrow rfl
   injection e2 with e2 _ e3
   subst e2
   subst e3
   have hpe:=qR HK.out D L
   rw [←HE.out,HQ.out]at hpe
   have HSPM:Hid (Aps wq B P):=hQ9 ⟨hRd,fun S hS=>HLA.out.ok S (y8 (HE.out▸hS)),fun S hS=>(HLA.out.at_ S (y8 (HE.out▸hS))).gr hg⟩
   have HBB:=hQ9 hbB
   clear YR YF hRd hbB hcR hcF hrow zk gq
   cases hen:enoughA K D L with
   | false =>
    have e85:decide (P.length<Q)=true:=by
     rw [hen]at hpe
     have:P.length<Q:=of_decide_eq_true hpe
     exact decide_eq_true (by omega)
    have HMR:=hQ9 (HRF.out hen)
    clear hpe hen zq
    go_upto_region 13 with fail
    refine zg (za wq) (by kernel_rfl) (by kernel_rfl) ?_
    repeat (go_big_quiet_step (first
     | (go_at_call 114;exact callG (CQ.out _))))
    refine wpQuiet_nil ?_
    rintro wG ⟨⟨wG',gG⟩,rfl⟩
    have z3:=zz.grew gG
    have G6:=zb hg gG
    have HTH:Hid (wG.there (w.heap.size+1+1) 0 ((zQ7:Array Value)).size):=hQ9 (z3.thereN 7 rfl)
    have z4:=Ag.set (vs:=((zQ7:Array Value)).toList) z3 rfl
    have G5:=zh (o:=0) (b:=w.heap.size+1+1) ((zQ7:Array Value)).toList G6 (by omega)
    clear z3 zz YR2 YF2
    go_wp2_with(with_reducible refine wpList_store_mid rfl 111 (.tmp 6) (.tmp 85) rfl (w.heap.size+1+1) 0 ((zQ7:Array Value)) rfl rfl HTH.out HSI.out HON.out ?_)
    exact bodyPost_ret (zw Tryz.results47 _ _ (w.heap.size+1+1) _ _ _ rfl rfl z4 hut rfl yk) rfl ⟨HMR.out _ _ rfl,⟨_,rfl⟩,G5⟩
   | true =>
    have e85:decide (P.length<Q)=false:=by
     rw [hen]at hpe
     have:¬P.length<Q:=of_decide_eq_false hpe
     exact zF9 (by omega)
    have HMR:=hQ9 (HRO.out hen)
    rw [←HE.out]at HMR
    clear hpe hen
    go_upto_region 13 with fail
    refine zg (za wq) (by kernel_rfl) (by kernel_rfl) ?_
    repeat (go_big_quiet_step (first
     | (go_at_call 114;exact callG (CQ.out _))))
    refine wpQuiet_nil ?_
    rintro wG ⟨⟨wG',gG⟩,rfl⟩
    have z3:=zz.grew gG
    have z7:=zq.grew gG
    have G6:=zb hg gG
    rw [show(ctC c CA LC.length ck).toList++[Value.slice B P.length pc]=(sqC c CA LC.length ck B P.length pc).toList from rfl]at z7
    have hm7:=z7.cell
    have SI7:Hid (zI9 111=some (sqC c CA LC.length ck B P.length pc).toList.length):=hQ9 yk
    have SI8:Hid (zI9 111=some (sqC c CA LC.length ck B P.length pc).size):=hQ9 yk
    have HO8:=hQ9 (y7 c CA LC.length ck B P.length pc)
    have HTH:Hid (wG.there (w.heap.size+1+1) 0 (sqC c CA LC.length ck B P.length pc).size):=hQ9 (z3.thereN 7 rfl)
    have zf:=Ag.set (vs:=(sqC c CA LC.length ck B P.length pc).toList) z3 rfl
    have Gf:=zh (o:=0) (b:=w.heap.size+1+1) (sqC c CA LC.length ck B P.length pc).toList G6 (by omega)
    have HSPS:=hQ9 ((HSPM.out.gr gG).kpx (zn (sqC c CA LC.length ck B P.length pc).toList (w.heap.size+1+1) 0 wG) (fun ad h e=>by have:=(HBB.out ad h).1;have:=HQW.out;have e':ad.block=w.heap.size+1+1:=e;omega) (fun S hS ad h=>by
     rcases yJ (HLA.out.at_ S (y8 (HE.out▸hS))) ad h with h1 | h1
     ·exact .inl h1
     ·exact .inr (fun e=>by have e':ad.block=w.heap.size+1+1:=e;omega)))
    clear z3 zz zq YR2 YF2 z7
    go_wp2_with(first
     | (with_reducible refine wpList_load_mid rfl 111 (.tmp 9) rfl q 0 rfl (sqC c CA LC.length ck B P.length pc).toList _ hm7 hut rfl SI7.out ?_;simp only [zT9])
     | (with_reducible refine wpList_store_mid rfl 111 (.tmp 6) (.tmp 86) rfl (w.heap.size+1+1) 0 (sqC c CA LC.length ck B P.length pc) rfl rfl HTH.out SI8.out HO8.out ?_))
    exact bodyPost_ret (zw Tryz.results47 _ _ (w.heap.size+1+1) _ _ _ rfl rfl zf hut rfl yk) rfl ⟨HMR.out _ _ B pc rfl HSPS.out,⟨_,rfl⟩,Gf⟩
  have e27:decide (v<N)=true:=decide_eq_true (by omega)
  have e35:decide (P.length<Q)=true:=decide_eq_true (by omega)
  have HVN:=hQ9 hvN
  have HPQ:=hQ9 hPQ
  clear hvN hv hPQ
  go_upto_region 6 with fail
  refine zg (za wr) (by kernel_rfl) (by kernel_rfl) ?_
  repeat (go_big_quiet_step (first
   | (go_at_call 78;exact callG (CN.out _))
   | (go_at_call 114;exact callG (CQ.out _))))
  refine wpQuiet_nil ?_
  rintro wq ⟨⟨wq',gq⟩,rfl⟩
  have HGQ:=hQ9 gq
  clear gq YR YF
  generalize wr=wo at *
  go_wp2_with fail
  go_loopw [11] (fun iv wr=>∃ i:Nat,i≤L.length∧iv=.int .i64 (i:Int)∧Hid (∀ j (hj:j<L.length),j<i→afwB K D v L[j]=false)∧Grew wo wr) (fun iv _=>L.length-(Go.RowKit.intOf iv).toNat)
  case atStart=>exact⟨0,Nat.zero_le _,rfl,hQ9 (fun j hj h=>by omega),HGQ.out⟩
  case round =>
   obtain⟨i,hi,rfl,HJ,gj⟩:=hrel
   by_cases hlt:i<L.length
   rotate_left
   ·obtain rfl:i=L.length:=by omega
    have HPN:Hid (apkS K D L (v+1)=P):=hQ9 (by rw [zlj (fun j hj=>HJ.out j hj (by omega)),HP.out])
    have e9:IntKind.i64.wrap ((v:Int)+1)=((v+1:Nat):Int):=by have h2:=HVN.out;have h3:=HEN.out;have h4:=HF.out;rw [IntWalk.i64_in _ (by omega)];omega
    clear hlt hi HJ
    go_wp2_with fail
    go_roundw
    case rel=>exact⟨v+1,.slice B P.length pc,HVN.out,by go_num,by rw [HPN.out];exact zo (S:=fun _=>False) HROW.out (zF gj) (fun g _ h=>h),HZQ.out.grew gj,HZK.out.grew gj,HZM.out.grew gj,HZZ.out.grew gj,zb HG.out gj,Nat.lt_of_lt_of_le HQS.out gj.size⟩
    case measure=>have:=HVN.out;simp [Go.RowKit.intOf]<;>omega
   have h1:(i:Int)<(L.length:Int):=by omega
   have h0:(0:Int)≤(i:Int):=by omega
   have HI:=hQ9 hlt
   have GJ:=hQ9 gj
   obtain⟨ad,hA,hql,hr⟩:=HLA.out.rd i hlt
   have HYS:Hid (∀ y:Gr wr,∀ j u,L[i].C.toList[j]?=some u→y.val.cell? ((ad.add (i*23)).add j)=some u):=hQ9 (fun y j u hj=>((zb HG.out (zb GJ.out y.ok)).cell (p:=(ad.add (i*23)).add j) (by rw [zy,zy];exact hql)).trans (hr j u hj))
   have hs1:∀ y:Gr wr,y.val.cell? ⟨(ad.add (i*23)).block,(ad.add (i*23)).off+1,none⟩=some (.int .i64 L[i].who):=fun y=>by
    have:=HYS.out y 1 (.int .i64 L[i].who) rfl
    rwa [kG _ (by decide)]at this
   have hs0:∀ y:Gr wr,y.val.cell? (ad.add (i*23))=some (.int .u64 (L[i].cm:Int)):=fun y=>by
    have:=HYS.out y 0 (.int .u64 (L[i].cm:Int)) rfl
    rwa [show(ad.add (i*23)).add 0=ad.add (i*23) from by simp [Addr.add]]at this
   have HADB:=hQ9 hql
   have HOK:Hid L[i].ok:=hQ9 (HLA.out.ok _ (List.getElem_mem _))
   have HAT:Hid (∀ y:Gr wr,L[i].at y.val):=hQ9 (fun y=>(HLA.out.at_ _ (List.getElem_mem _)).gr (zb HG.out (zb GJ.out y.ok)))
   have HNO:Hid (afwB K D v L[i]=false→∀ j (hj:j<L.length),j<i+1→afwB K D v L[j]=false):=hQ9 (fun h j hj hji=>by
    by_cases e:j=i
    ·subst e;exact h
    ·exact HJ.out j hj (by omega))
   have HYES:Hid (afwB K D v L[i]=true→apkS K D L (v+1)=P++[L[i]]):=hQ9 (fun h=>by
    have h9:=zli (by rw [HP.out,HQ.out];exact HPQ.out) HI.out HJ.out h
    rw [HP.out]at h9
    exact h9)
   have e9i:IntKind.i64.wrap ((i:Int)+1)=((i+1:Nat):Int):=by have:=HLL.out;rw [IntWalk.i64_in _ (by omega)];omega
   subst hA
   clear hr gj HJ hlt hi hql
   generalize L[i]=S at *
   have SIS:Hid (zI9 70=some S.C.toList.length):=hQ9 xn
   have YK:Hid (∀ y:Gr wr,y.val.rangeAt w.heap.size 0 K.C.toList):=hQ9 (fun y=>(HZK.out.grew (zb GJ.out y.ok)).cell)
   have YM:Hid (∀ y:Gr wr,y.val.rangeAt (w.heap.size+1) 0 (ctC c CA LC.length ck).toList):=hQ9 (fun y=>(HZM.out.grew (zb GJ.out y.ok)).cell)
   have CDx:Hid (∀ y:Gr wr,Calls Tryz.prog 115 #[.agg (ctC c CA LC.length ck)] y.val fun e w'=>e=.returned (.int .u64 (D:Nat))∧Grew y.val w'):=hQ9 (fun y=>CD.out y.val (zb HG.out (zb GJ.out y.ok)))
   have CV:Hid (∀ y:Gr wr,Calls Tryz.prog 37 #[.agg K.C,.agg S.C] y.val fun e w'=>e=.returned (.int .i64 (kvS K S))∧Grew y.val w'):=hQ9 (fun y=>zcz HK.out HOK.out y.val (HSS.out.grew (zb HG.out (zb GJ.out y.ok))) (HKA.out.gr (zb HG.out (zb GJ.out y.ok))) (HAT.out y))
   by_cases hw:S.who=(v:Int)
   rotate_left
   ·have e51:(S.who==(v:Int))=false:=by simpa using hw
    have HNN:=hQ9 (HNO.out (by unfold afwB;rw [zF9 hw];simp))
    clear hw
    go_upto_region 11 with fail
    refine zg (za wr) (by kernel_rfl) (by kernel_rfl) ?_
    repeat (first
     | (go_big_quiet_want;refine zi 36 (.tmp 4) rfl (w.heap.size+1) 0 rfl (ctC c CA LC.length ck).toList _ YM.out huc rfl SIC.out ?_;simp only [Act.put,List.setIfInBounds_toArray,List.set_cons_succ,List.set_cons_zero,zT9];go_big_quiet_on)
     | (go_big_quiet_want;refine zi 64 (.tmp 3) rfl w.heap.size 0 rfl K.C.toList _ YK.out huk rfl SIK.out ?_;simp only [Act.put,List.setIfInBounds_toArray,List.set_cons_succ,List.set_cons_zero,zT9];go_big_quiet_on)
     | (go_big_quiet_want;refine zR 70 (.tmp 64) rfl (ad.add (i*23)) rfl S.C.toList _ HYS.out hus rfl SIS.out ?_;simp only [Act.put,List.setIfInBounds_toArray,List.set_cons_succ,List.set_cons_zero,zT9];go_big_quiet_on)
     | (go_big_quiet_step (first
      | (go_at_call 115;exact callG (CDx.out _))
      | (go_at_call 37;exact callG (CV.out _)))))
    refine wpQuiet_nil ?_
    rintro wx ⟨⟨wx',gx⟩,rfl⟩
    have HWX:=hQ9 gx
    clear gx
    go_wp2_with fail
    go_roundw
    case rel=>exact⟨i+1,HI.out,by go_num,HNN,zb GJ.out HWX.out⟩
    case measure=>have:=HI.out;simp [Go.RowKit.intOf]<;>omega
   by_cases hd:S.cm=D
   rotate_left
   ·have e51:(S.who==(v:Int))=true:=by simpa using hw
    have e59:((S.cm:Int)==(D:Int))=false:=by simp;omega
    have HNN:=hQ9 (HNO.out (by unfold afwB gfB;rw [zF9 hd];simp))
    clear hw hd
    go_upto_region 11 with fail
    refine zg (za wr) (by kernel_rfl) (by kernel_rfl) ?_
    repeat (first
     | (go_big_quiet_want;refine zi 36 (.tmp 4) rfl (w.heap.size+1) 0 rfl (ctC c CA LC.length ck).toList _ YM.out huc rfl SIC.out ?_;simp only [Act.put,List.setIfInBounds_toArray,List.set_cons_succ,List.set_cons_zero,zT9];go_big_quiet_on)
     | (go_big_quiet_want;refine zi 64 (.tmp 3) rfl w.heap.size 0 rfl K.C.toList _ YK.out huk rfl SIK.out ?_;simp only [Act.put,List.setIfInBounds_toArray,List.set_cons_succ,List.set_cons_zero,zT9];go_big_quiet_on)
     | (go_big_quiet_want;refine zR 70 (.tmp 64) rfl (ad.add (i*23)) rfl S.C.toList _ HYS.out hus rfl SIS.out ?_;simp only [Act.put,List.setIfInBounds_toArray,List.set_cons_succ,List.set_cons_zero,zT9];go_big_quiet_on)
     | (go_big_quiet_step (first
      | (go_at_call 115;exact callG (CDx.out _))
      | (go_at_call 37;exact callG (CV.out _)))))
    refine wpQuiet_nil ?_
    rintro wx ⟨⟨wx',gx⟩,rfl⟩
    have HWX:=hQ9 gx
    clear gx
    go_wp2_with fail
    go_roundw
    case rel=>exact⟨i+1,HI.out,by go_num,HNN,zb GJ.out HWX.out⟩
    case measure=>have:=HI.out;simp [Go.RowKit.intOf]<;>omega
   have e51:(S.who==(v:Int))=true:=by simpa using hw
   have e59:((S.cm:Int)==(D:Int))=true:=by simp [hd]
   by_cases hva:kvS K S=0
   rotate_left
   ·have e68:(kvS K S==0)=false:=by simpa using hva
    have HNN:=hQ9 (HNO.out (by unfold afwB gfB;rw [zF9 hva];simp))
    clear hw hd hva
    go_upto_region 11 with fail
    refine zg (za wr) (by kernel_rfl) (by kernel_rfl) ?_
    repeat (first
     | (go_big_quiet_want;refine zi 36 (.tmp 4) rfl (w.heap.size+1) 0 rfl (ctC c CA LC.length ck).toList _ YM.out huc rfl SIC.out ?_;simp only [Act.put,List.setIfInBounds_toArray,List.set_cons_succ,List.set_cons_zero,zT9];go_big_quiet_on)
     | (go_big_quiet_want;refine zi 64 (.tmp 3) rfl w.heap.size 0 rfl K.C.toList _ YK.out huk rfl SIK.out ?_;simp only [Act.put,List.setIfInBounds_toArray,List.set_cons_succ,List.set_cons_zero,zT9];go_big_quiet_on)
     | (go_big_quiet_want;refine zR 70 (.tmp 64) rfl (ad.add (i*23)) rfl S.C.toList _ HYS.out hus rfl SIS.out ?_;simp only [Act.put,List.setIfInBounds_toArray,List.set_cons_succ,List.set_cons_zero,zT9];go_big_quiet_on)
     | (go_big_quiet_step (first
      | (go_at_call 115;exact callG (CDx.out _))
      | (go_at_call 37;exact callG (CV.out _)))))
    refine wpQuiet_nil ?_
    rintro wx ⟨⟨wx',gx⟩,rfl⟩
    have HWX:=hQ9 gx
    clear gx
    go_wp2_with fail
    go_roundw
    case rel=>exact⟨i+1,HI.out,by go_num,HNN,zb GJ.out HWX.out⟩
    case measure=>have:=HI.out;simp [Go.RowKit.intOf]<;>omega
   have e68:(kvS K S==0)=true:=by simpa using hva
   have HYE:=hQ9 (HYES.out (by unfold afwB gfB;rw [decide_eq_true hw,decide_eq_true hd,decide_eq_true hva];rfl))
   clear hw hd hva
   go_upto_region 11 with fail
   refine zg (za wr) (by kernel_rfl) (by kernel_rfl) ?_
   repeat (first
    | (go_big_quiet_want;refine zi 36 (.tmp 4) rfl (w.heap.size+1) 0 rfl (ctC c CA LC.length ck).toList _ YM.out huc rfl SIC.out ?_;simp only [Act.put,List.setIfInBounds_toArray,List.set_cons_succ,List.set_cons_zero,zT9];go_big_quiet_on)
    | (go_big_quiet_want;refine zi 64 (.tmp 3) rfl w.heap.size 0 rfl K.C.toList _ YK.out huk rfl SIK.out ?_;simp only [Act.put,List.setIfInBounds_toArray,List.set_cons_succ,List.set_cons_zero,zT9];go_big_quiet_on)
    | (go_big_quiet_want;refine zR 70 (.tmp 64) rfl (ad.add (i*23)) rfl S.C.toList _ HYS.out hus rfl SIS.out ?_;simp only [Act.put,List.setIfInBounds_toArray,List.set_cons_succ,List.set_cons_zero,zT9];go_big_quiet_on)
    | (go_big_quiet_step (first
     | (go_at_call 115;exact callG (CDx.out _))
     | (go_at_call 37;exact callG (CV.out _)))))
   refine wpQuiet_nil ?_
   rintro wx ⟨⟨wx',gx⟩,rfl⟩
   have GX:=hQ9 (zb GJ.out gx)
   have HYX:Hid (∀ j u,S.C.toList[j]?=some u→wx.cell? ((ad.add (i*23)).add j)=some u):=hQ9 (HYS.out ⟨wx,gx⟩)
   have hcR:wx.cell? ⟨q,6,none⟩=some (.slice B P.length pc):=by simpa using (HZQ.out.grew GX.out).cell 6 _ rfl
   have hrow:=zo (S:=fun _=>False) HROW.out (zF GX.out) (fun g _ h=>h)
   have hqb:=Nat.lt_of_lt_of_le HQS.out GX.out.size
   have HRW:=hQ9 hrow
   have HCR:=hQ9 hcR
   have HQB:=hQ9 hqb
   have HLO:=hQ9 (zN hrow)
   have HPL5:Hid (P.length≤12):=hQ9 (by have h1:=HPQ.out;have h2:=HF.out;have h3:=HQ.out;omega)
   clear gx hs0 hs1 YK YM CDx CV hrow hcR hqb e51 e59 e68
   go_upto_region 12 with fail
   have HSB:Hid (∀ g,(fun j=>(Value.slice B P.length pc).ownBlock=some j) g→g<wx.heap.size):=hQ9 (fun g h=>(HLO.out g h).2)
   have HSQ:Hid (¬(fun j=>(Value.slice B P.length pc).ownBlock=some j) q):=hQ9 (fun h=>by have:=(HLO.out q h).1;omega)
   have HCY:Hid (∀ y,Kp (fun j=>(Value.slice B P.length pc).ownBlock=some j) wx y→y.cell? ⟨q,6,none⟩=some (.slice B P.length pc)):=hQ9 (fun y k=>(World.cell?_of_block (k.block q (by have:=HQB.out;omega) HSQ.out)).trans HCR.out)
   have HRY:Hid (∀ y,Kp (fun j=>(Value.slice B P.length pc).ownBlock=some j) wx y→∀ j u,S.C.toList[j]?=some u→y.cell? ((ad.add (i*23)).add j)=some u):=hQ9 (fun y k j u hj=>(World.cell?_of_block (by rw [zy,zy];exact k.block ad.block (by have:=HADB.out;have:=GX.out.size;have:=HG.out.size;omega) (fun h=>by have:=(HLO.out ad.block h).1;have:=HADB.out;have:=HQW.out;omega))).trans (HYX.out j u hj))
   refine qB 9 7 (fun j=>(Value.slice B P.length pc).ownBlock=some j) (fun ix9=>match ix9 with
    | 0=>fun v _=>v=.pointer (some ⟨q,6,none⟩)
    | 1=>fun v _=>v=.slice B P.length pc
    | 2=>fun v _=>v=.slice (some ad) L.length cap
    | 3=>fun v _=>v=.int .i64 (i:Int)
    | 4=>fun v _=>v=.pointer (some (ad.add (i*23)))
    | 5=>fun v _=>v=.agg S.C
    | 6=>fun _ _=>True
    | 7=>fun v W=>AppA W (q+1) (.slice B P.length pc) wx.heap.size (P.length+1) ((apL P).flatten++S.C.toList) v
    | 8=>fun v _=>v=.pointer (some ⟨q,6,none⟩)
    | _=>fun _ _=>True) (fun ix9=>match ix9 with
    | 6=>fun lo hi v w=>OneR w wx.heap.size lo hi S.C.toList v
    | 7=>fun _ _ _ _=>True
    | _=>fun _ _ _ _=>True) (fun ix9=>match ix9 with
    | 7=>6
    | ix8=>ix8) (fun ix9=>match ix9 with
    | 7=>6
    | ix8=>ix8) (by kernel_rfl) (by kernel_rfl) (by kernel_rfl) ?_ ?_ ?_ ?_ ?_
   ·intro i v x y h hg
    match i,h with
    | 0,h | 1,h | 2,h | 3,h | 4,h | 5,h | 8,h=>exact h
    | 6,h=>exact h
    | 7,h=>exact AppA.gr h hg
    | m+9,_=>trivial
   ·intro i v x y hne hx h hg
    match i,h with
    | 0,h | 1,h | 2,h | 3,h | 4,h | 5,h | 8,h=>exact h
    | 6,h=>exact h
    | 7,h=>exact absurd rfl hne
    | m+9,_=>trivial
   ·simp only [actOf,tk1,tk0,dr1,dr0,Act.put,si1,st1,st0,Nat.reduceAdd]
    refine⟨?_,?_,?_,?_,?_,?_,?_,?_,?_,trivial⟩
    ·intro vs lo hi y hg hd hvia
     replace hg:Kp (fun j=>(Value.slice B P.length pc).ownBlock=some j) wx y:=hg
     clear hvia
     dsimp only
     go_wp2_with fail
     first | exact⟨rfl,_,rfl,za _,rfl⟩ | exact⟨rfl,_,rfl,za _,rfl,trivial⟩
    ·intro vs lo hi y hg hd hvia
     replace hg:Kp (fun j=>(Value.slice B P.length pc).ownBlock=some j) wx y:=hg
     obtain⟨h0,_⟩:=hd
     replace h0:=h0 rfl
     clear hvia
     dsimp only
     rw [show vs 0=_ from h0]
     have hc:=HCY.out y hg
     go_wp2_with fail
     first | exact⟨rfl,_,rfl,za _,rfl⟩ | exact⟨rfl,_,rfl,za _,rfl,trivial⟩
    ·intro vs lo hi y hg hd hvia
     replace hg:Kp (fun j=>(Value.slice B P.length pc).ownBlock=some j) wx y:=hg
     clear hvia
     dsimp only
     go_wp2_with fail
     first | exact⟨rfl,_,rfl,za _,rfl⟩ | exact⟨rfl,_,rfl,za _,rfl,trivial⟩
    ·intro vs lo hi y hg hd hvia
     replace hg:Kp (fun j=>(Value.slice B P.length pc).ownBlock=some j) wx y:=hg
     clear hvia
     dsimp only
     go_wp2_with fail
     first | exact⟨rfl,_,rfl,za _,rfl⟩ | exact⟨rfl,_,rfl,za _,rfl,trivial⟩
    ·intro vs lo hi y hg hd hvia
     replace hg:Kp (fun j=>(Value.slice B P.length pc).ownBlock=some j) wx y:=hg
     obtain⟨h2,h3,_⟩:=hd
     replace h2:=h2 rfl
     replace h3:=h3 rfl
     clear hvia
     dsimp only
     rw [show vs 2=_ from h2,show vs 3=_ from h3]
     go_wp2_with fail
     first | exact⟨rfl,_,rfl,za _,rfl⟩ | exact⟨rfl,_,rfl,za _,rfl,trivial⟩
    ·intro vs lo hi y hg hd hvia
     replace hg:Kp (fun j=>(Value.slice B P.length pc).ownBlock=some j) wx y:=hg
     obtain⟨h4,_⟩:=hd
     replace h4:=h4 rfl
     clear hvia
     dsimp only
     rw [show vs 4=_ from h4]
     have hm:=HRY.out y hg
     go_wp2_with(with_reducible refine xh rfl 70 (.tmp 73) rfl (ad.add (i*23)) rfl S.C.toList _ hm hus rfl SIS.out ?_;simp only [zT9])
     first | exact⟨rfl,_,rfl,za _,rfl⟩ | exact⟨rfl,_,rfl,za _,rfl,trivial⟩
    ·intro vs lo hi y hg hd hvia
     replace hg:Kp (fun j=>(Value.slice B P.length pc).ownBlock=some j) wx y:=hg
     obtain⟨h5,_⟩:=hd
     replace h5:=h5 rfl
     clear hvia
     dsimp only
     rw [show vs 5=_ from h5]
     have hgs24:S.C.size=23:=rfl
     go_wp2_with fail
     rw [xP]
     exact⟨rfl,_,rfl,ze (za _) _,⟨y.heap.size,rfl,Ag.new y 70 S.C,hg.size,zN9 _,by show y.heap.size<(y.alloc _).heap.size;simp⟩⟩
    ·intro vs lo hi y hg hd hvia
     replace hg:Grew wx y:=hg
     obtain⟨h1,h6,_⟩:=hd
     replace h1:=h1 rfl
     replace h6:=h6 rfl
     have hv9:(fun lo hi v w=>OneR w wx.heap.size lo hi S.C.toList v) (lo 6) (hi 6) (vs 6) y:=hvia rfl
     clear hvia
     dsimp only
     rw [show vs 1=_ from h1]
     obtain⟨g9,e9,hz9,hb9,hl9,hh9⟩:=OneR.out hv9
     rw [e9]
     have hry:=HRW.out
     have hpl9:=HPL5.out
     have hqb9:=HQB.out
     have hgs9:=hg.size
     have hcl9:S.C.toList.length=1*23:=rfl
     refine zO _ rfl (.tmp 70) (.tmp 75) 102 rfl (q+1) 70 i0 (.agg (#[.int .u64 0,.int .i64 0,.int .i64 0,.int .i64 0,.int .u64 0,.int .u64 0,.int .u64 0,.int .u64 0,.int .u64 0,.int .u64 0,.int .u64 0,.int .u64 0,.int .u64 0,.int .u64 0,.int .u64 0,.int .u64 0,.int .u64 0,.int .u64 0,.int .u64 0,.int .u64 0,.int .u64 0,.int .u64 0,.slice none 0 0]:Array Value)) 23 200 Tryz.underlying102 hinf hz0 hz1 hz2 rfl (by decide) _ _ _ rfl (zo (S:=fun _=>False) hry (zF hg) (fun g _ h=>h)) ⟨g9,0,none⟩ 1 1 S.C.toList rfl hcl9 (fun j u hj=>by rw [add0];simpa using hz9.cell j u hj) S.one' (by unfold maxLen;omega) (by omega) (by omega) ?_
     intro va z hva hga hoa
     go_wp2_with fail
     have hap:AppA z (q+1) (.slice B P.length pc) wx.heap.size (P.length+1) ((apL P).flatten++S.C.toList) va:=⟨hva,hoa.imp id (fun h=>⟨_,h,hg.size⟩)⟩
     first | exact⟨rfl,_,rfl,yX (zQ _ y) hga (fun g e=>.inl e),hap,trivial⟩ | exact⟨rfl,_,rfl,yX (zQ _ y) hga (fun g e=>.inl e),hap⟩
    ·intro vs lo hi y hg hd hvia
     replace hg:Kp (fun j=>(Value.slice B P.length pc).ownBlock=some j) wx y:=hg
     clear hvia
     dsimp only
     go_wp2_with fail
     first | exact⟨rfl,_,rfl,za _,rfl⟩ | exact⟨rfl,_,rfl,za _,rfl,trivial⟩
   ·intro i lo hi v x y hx h hg
    match i,h with
    | 6,h=>exact OneR.kp h hg HSB.out
    | 7,_=>trivial
    | 0,_=>trivial
    | 1,_=>trivial
    | 2,_=>trivial
    | 3,_=>trivial
    | 4,_=>trivial
    | 5,_=>trivial
    | m+8,_=>trivial
   ·intro vs lo hi w5 hg hJ hK hB hD
    replace hg:Kp (fun j=>(Value.slice B P.length pc).ownBlock=some j) wx w5:=hg
    have k75:=hK 6 (by decide)
    have b75:=hB 6 (by decide)
    have k76:=hK 7 (by decide)
    have b76:=hB 7 (by decide)
    clear hK hB hD
    have j0:vs 0=.pointer (some ⟨q,6,none⟩):=hJ 0 (by decide)
    have j1:vs 1=.slice B P.length pc:=hJ 1 (by decide)
    have j2:vs 2=.slice (some ad) L.length cap:=hJ 2 (by decide)
    have j3:vs 3=.int .i64 (i:Int):=hJ 3 (by decide)
    have j4:vs 4=.pointer (some (ad.add (i*23))):=hJ 4 (by decide)
    have j5:vs 5=.agg S.C:=hJ 5 (by decide)
    have j8:vs 8=.pointer (some ⟨q,6,none⟩):=hJ 8 (by decide)
    have s75:=hJ 6 (by decide)
    have s76:=hJ 7 (by decide)
    clear hJ
    simp only [actOf,tk1,tk0,dr1,dr0,Act.put,si1,st1,st0,Nat.reduceAdd]
    have hown:=s76.own
    rw [show(apL P).flatten++S.C.toList=(apL (P++[S])).flatten from(xp P S).symm]at hown
    obtain⟨B',k',hv',-,-,-,-⟩:=y6 (L:=P++[S]) hown (by simp)
    rw [hv']at hown ⊢
    have hzq:=(HZQ.out.grew GX.out).kp hg HSQ.out
    have hc7:w5.cell? ⟨q,6,none⟩=some (.slice B P.length pc):=ag_at hzq 6 rfl
    have fc7:=ag_fr hzq 6 (by simp [ctC])
    have K8:=yH (S:=fun j=>j=q) (zQ _ w5) (p:=⟨q,6,none⟩) (.inl rfl) (.slice B' (P.length+1) k')
    have HOWN:=hQ9 hown
    have HZQ7:=hQ9 hzq
    have HK8:=hQ9 K8
    have HKG:=hQ9 hg
    have h1w:=HQW.out
    have h2w:=HG.out.size
    have e9:IntKind.i64.wrap ((v:Int)+1)=((v+1:Nat):Int):=by have h2:=HVN.out;have h3:=HEN.out;have h4:=HF.out;rw [IntWalk.i64_in _ (by omega)];omega
    have j8':vs 8=_:=j8
    rw [j8']
    clear hown hzq K8 hg s75 s76 b75 b76 k75 k76 j0 j1 j2 j3 j4 j5 j8 hv' j8' h1w h2w
    go_wp2_with fail
    go_roundw
    case rel =>
     refine⟨v+1,.slice B' (P.length+1) k',HVN.out,by go_num,?_,HZQ7.out.set1 6 (.slice B' (P.length+1) k') (by simp [ctC]),?_,?_,?_,?_,?_⟩
     ·rw [HYE.out,List.length_append,List.length_singleton]
      exact zo HOWN.out HK8.out (fun g h e=>by have h1:=zu HOWN.out g h;have e':g=q:=e;omega)
     ·have h1w:=HQW.out
      exact((HZK.out.grew GX.out).kp HKG.out (fun h=>by have:=(HLO.out _ h).1;omega)).kp HK8.out (fun e=>by have e':w.heap.size=q:=e;omega)
     ·have h1w:=HQW.out
      exact((HZM.out.grew GX.out).kp HKG.out (fun h=>by have:=(HLO.out _ h).1;omega)).kp HK8.out (fun e=>by have e':w.heap.size+1=q:=e;omega)
     ·have h1w:=HQW.out
      exact((HZZ.out.grew GX.out).kp HKG.out (fun h=>by have:=(HLO.out _ h).1;omega)).kp HK8.out (fun e=>by have e':w.heap.size+1+1=q:=e;omega)
     ·have h1w:=HQW.out
      have g5:=zV (zb HG.out GX.out) HKG.out (zb HG.out GX.out).size (fun g h=>by have:=(HLO.out g h).1;omega)
      exact zV g5 HK8.out g5.size (fun g e=>by have e':g=q:=e;omega)
     ·exact Nat.lt_of_lt_of_le (Nat.lt_of_lt_of_le HQB.out HKG.out.size) HK8.out.size
    case measure=>have:=HVN.out;simp [Go.RowKit.intOf]<;>omega
theorem zff (cc:Cm) {K:KP} (hK:K.ok) (CA:Option Addr) (ck:Nat) (LC:List SP) (hlc:LC.length≤40) (mv:Int) (hmv0:mvE K cc LC=mv) (hmvn:mv≠0) (A:Option Addr) (cap:Nat) (L:List AP) (hl:L.length≤100000) (w:World) (hS:Std w) (hk:K.at w) (hLC:Sps w CA LC) (hL:Aps w A L) :
 Calls Tryz.prog 45 #[.agg K.C,.agg (ctC cc CA LC.length ck),.slice A L.length cap] w fun e w'=>e=.returned (.tuple #[.agg (zQ7),.int .i64 mv])∧Grew w w':=by
 have huk:=Tryz.underlying91
 have huc:=Tryz.underlying43
 have hut:=Tryz.underlying106
 have huf:=Tryz.underlying89
 have HCF:Hid (zI9 89=some [Value.int .i64 K.f].length):=hQ9 (by kernel_rfl)
 have SIK:Hid (zI9 91=some K.C.toList.length):=hQ9 (show _=some 3 by kernel_rfl)
 have SIC:Hid (zI9 43=some (ctC cc CA LC.length ck).toList.length):=hQ9 yh
 have z0:=((Ag.new w 91 K.C).grew (ze (za _) (.cells (ctC cc CA LC.length ck) 43))).grew (ze (za _) (.cells (zQ7) 106))
 have z1:=(Ag.new (w.alloc (.cells K.C 91)) 43 (ctC cc CA LC.length ck)).grew (ze (za _) (.cells (zQ7) 106))
 have z2:=Ag.new ((w.alloc (.cells K.C 91)).alloc (.cells (ctC cc CA LC.length ck) 43)) 106 (zQ7)
 rw [zl]at z1
 rw [zl,zl]at z2
 have G0:=ze (ze (ze (za w) (.cells K.C 91)) (.cells (ctC cc CA LC.length ck) 43)) (.cells (zQ7) 106)
 have CV:=hQ9 (fun W h1 h2 h3=>xH cc hK CA ck LC (by omega) W h1 h2 h3)
 rw [hmv0]at CV
 have e11:(mv != 0)=true:=by simpa using hmvn
 have HS:=hQ9 hS
 have HKA:=hQ9 hk
 have HLA:=hQ9 hL
 have HLC:=hQ9 hLC
 have HC40:=hQ9 hlc
 clear hS hk hL hLC hmv0 hlc
 have hmk:=z0.cell
 have hmc:=z1.cell
 obtain⟨w1,hw1⟩:∃ v,((w.alloc (.cells K.C 91)).alloc (.cells (ctC cc CA LC.length ck) 43)).alloc (.cells (zQ7) 106)=v:=⟨_,rfl⟩
 rw [hw1]at z0 z1 z2 G0 hmk hmc
 have HW1:=hQ9 hw1
 clear hw1
 go_enter Tryz.func45,Tryz.ntmps45
 go_wp2_with(first
  | (with_reducible refine wpList_load_mid rfl 91 (.tmp 3) rfl w.heap.size 0 rfl K.C.toList _ (by rw [HW1.out];exact hmk) huk rfl SIK.out ?_;rw [HW1.out];simp only [zT9])
  | (with_reducible refine wpList_load_mid rfl 43 (.tmp 4) rfl (w.heap.size+1) 0 rfl (ctC cc CA LC.length ck).toList _ hmc huc rfl SIC.out ?_;simp only [zT9]))
 refine(CV.out w1 (HS.out.grew G0) (HKA.out.gr G0) (HLC.out.gr G0)).mono ?_
 rintro e w2 ⟨rfl,gg⟩
 have z3:=z2.grew gg
 have G2:=zb G0 gg
 have HTH:Hid (w2.there (w.heap.size+1+1) 0 (zQ7:Array Value).size):=hQ9 (z3.thereN 7 rfl)
 have HSI:Hid (zI9 106=some (zQ7:Array Value).size):=hQ9 yU
 have HON:Hid ((#[.int .i64 0,.int .i64 0,.int .i64 0,.int .i64 0,.int .i64 0,.slice none 0 0,.slice none 0 0]:Array Value).all (·.oneCell')=true):=hQ9 (by simp [Value.oneCell'])
 have z4:=Ag.set (vs:=(zQ7:Array Value).toList) z3 rfl
 have G5:=zh (o:=0) (b:=w.heap.size+1+1) (zQ7:Array Value).toList G2 (by omega)
 have hbz:=zhd
 have bz:∀ W,(Instr.build 106 #[]).run Tryz.prog W=.ok (.agg (#[.int .i64 0,.int .i64 0,.int .i64 0,.int .i64 0,.int .i64 0,.slice none 0 0,.slice none 0 0]:Array Value)) W:=fun W=>run_build W 106 _ _ hbz
 clear z0 z1 z2 hmk hmc z3 gg CV G0 hbz
 go_wp2_with(with_reducible refine wpList_store_mid rfl 106 (.tmp 6) (.tmp 17) rfl (w.heap.size+1+1) 0 (zQ7:Array Value) rfl rfl HTH.out HSI.out HON.out ?_)
 exact bodyPost_ret (zw Tryz.results45 _ _ (w.heap.size+1+1) _ _ _ rfl rfl z4 hut rfl yU) rfl ⟨rfl,G5⟩
theorem zln (cc:Cm) {K:KP} (hK:K.ok) (CA:Option Addr) (ck:Nat) (LC:List SP) (hlc:LC.length≤40) (mv:Int) (hmv0:mvE K cc LC=mv) (hmvn:mv≠0) (A:Option Addr) (cap:Nat) (L:List AP) (hl:L.length≤100000) (w:World) (hS:Std w) (hk:K.at w) (hLC:Sps w CA LC) (hL:Aps w A L) :
 Calls Tryz.prog 50 #[.agg K.C,.agg (sqC cc CA LC.length ck A L.length cap)] w fun e w'=>e=.returned (.int .i64 mv)∧Grew w w':=by
 have huk:=Tryz.underlying91
 have huc:=Tryz.underlying43
 have huf:=Tryz.underlying89
 have HCF:Hid (zI9 89=some [Value.int .i64 K.f].length):=hQ9 (by kernel_rfl)
 have SIK:Hid (zI9 91=some K.C.toList.length):=hQ9 (show _=some 3 by kernel_rfl)
 have SIC:Hid (zI9 43=some (ctC cc CA LC.length ck).toList.length):=hQ9 yh
 have z0:=(Ag.new w 91 K.C).grew (ze (za _) (.cells (sqC cc CA LC.length ck A L.length cap) 106))
 have z1:=Ag.new (w.alloc (.cells K.C 91)) 106 (sqC cc CA LC.length ck A L.length cap)
 rw [zl]at z1
 have G0:=ze (ze (za w) (.cells K.C 91)) (.cells (sqC cc CA LC.length ck A L.length cap) 106)
 have CV:=hQ9 (fun W h1 h2 h3=>xH cc hK CA ck LC (by omega) W h1 h2 h3)
 rw [hmv0]at CV
 have e11:(mv != 0)=true:=by simpa using hmvn
 have HS:=hQ9 hS
 have HKA:=hQ9 hk
 have HLA:=hQ9 hL
 have HLC:=hQ9 hLC
 clear hS hk hL hLC hmv0 hlc
 have hmk:=z0.cell
 have hmc:=sq_ct z1
 obtain⟨w1,hw1⟩:∃ v,(w.alloc (.cells K.C 91)).alloc (.cells (sqC cc CA LC.length ck A L.length cap) 106)=v:=⟨_,rfl⟩
 rw [hw1]at z0 z1 G0 hmk hmc
 have HW1:=hQ9 hw1
 clear hw1
 go_enter Tryz.func50,Tryz.ntmps50
 go_wp2_with(first
  | (with_reducible refine wpList_load_mid rfl 91 (.tmp 2) rfl w.heap.size 0 rfl K.C.toList _ (by rw [HW1.out];exact hmk) huk rfl SIK.out ?_;rw [HW1.out];simp only [zT9])
  | (with_reducible refine wpList_load_mid rfl 43 (.tmp 8) rfl (w.heap.size+1) 0 rfl (ctC cc CA LC.length ck).toList _ hmc huc rfl SIC.out ?_;simp only [zT9]))
 refine(CV.out w1 (HS.out.grew G0) (HKA.out.gr G0) (HLC.out.gr G0)).mono ?_
 rintro e w2 ⟨rfl,gg⟩
 have G2:=zb G0 gg
 clear z0 z1 hmk hmc CV G0
 go_wp2_with fail
 go_ret
 exact⟨rfl,G2⟩
theorem zc2 (cc:Cm) {K:KP} (hK:K.ok) (CA:Option Addr) (ck:Nat) (LC:List SP) (hlc:LC.length≤40) (A:Option Addr) (cap:Nat) (L:List AP) (hl:L.length≤100000) (w:World) (hS:Std w) (hk:K.at w) (hLC:Sps w CA LC) (hL:Aps w A L) :
 Calls Tryz.prog 50 #[.agg K.C,.agg (sqC cc CA LC.length ck A L.length cap)] w fun e w'=>e=.returned (.int .i64 (sqR K cc LC L))∧Grew w w':=by
 by_cases h:mvE K cc LC=0
 ·unfold sqR
  rw [if_pos h]
  exact ze3 cc (xj (jj h)) hK CA ck LC hlc h A cap L hl w hS hk hLC hL
 ·unfold sqR
  rw [if_neg h]
  exact zln cc hK CA ck LC hlc _ rfl h A cap L hl w hS hk hLC hL
theorem zlo {K:KP} {c:Cm} {LC MC:List SP} {L M:List AP} (h1:MvL LC MC) (h2:MvA L M):sqR K c MC M=sqR K c LC L:=by
 unfold sqR
 rw [zbf h1,ze4 h1,cqA_mv h2]
structure GaP (K:KP) (c:Cm) (LC:List SP) (L:List AP) (w:World) (v:Value):Prop where
 out:(mvE K c LC≠0∧v=.tuple #[.agg (zQ7:Array Value),.int .i64 (mvE K c LC)])∨(mvE K c LC=0∧enoughA K (ctD c LC) L=false∧v=.tuple #[.agg (zQ7:Array Value),.int .i64 8])∨(mvE K c LC=0∧enoughA K (ctD c LC) L=true∧∃ B k M D j N,v=.tuple #[.agg (sqC c B LC.length k D (chosenA K (ctD c LC) L).length j),.int .i64 0]∧MvL LC M∧Sps w B M∧MvA (chosenA K (ctD c LC) L) N∧Aps w D N)
theorem GaP.gr {K:KP} {c:Cm} {LC:List SP} {L:List AP} {w w':World} {v:Value} (h:GaP K c LC L w v) (g:Grew w w'):GaP K c LC L w' v:=by
 rcases h.out with h | h | ⟨h1,h2,B,k,M,D,j,N,h3,h4,h5,h6,h7⟩
 ·exact⟨.inl h⟩
 ·exact⟨.inr (.inl h)⟩
 ·exact⟨.inr (.inr ⟨h1,h2,B,k,M,D,j,N,h3,h4,h5.gr g,h6,h7.gr g⟩)⟩
noncomputable def gaR (K:KP) (c:Cm) (LC:List SP) (L:List AP):Cm × List SP × List AP × Int :=
 if mvE K c LC=0 then (if enoughA K (ctD c LC) L=true then (c,LC,chosenA K (ctD c LC) L,0) else (Cm.zero,[],[],8)) else (Cm.zero,[],[],mvE K c LC)
theorem jk {K:KP} {c:Cm} {LC:List SP} {L:List AP} (h:mvE K c LC≠0):gaR K c LC L=(Cm.zero,[],[],mvE K c LC):=by unfold gaR;rw [if_neg h]
theorem jl {K:KP} {c:Cm} {LC:List SP} {L:List AP} (h:mvE K c LC=0) (he:enoughA K (ctD c LC) L=false):gaR K c LC L=(Cm.zero,[],[],8):=by unfold gaR;rw [if_pos h,if_neg (by rw [he];decide)]
theorem qh {K:KP} {c:Cm} {LC:List SP} {L:List AP} (h:mvE K c LC=0) (he:enoughA K (ctD c LC) L=true):gaR K c LC L=(c,LC,chosenA K (ctD c LC) L,0):=by unfold gaR;rw [if_pos h,if_pos he]
theorem jy (w:World):Aps w none []:=⟨fun k hk=>by simp [apL]at hk,by simp,by simp⟩
theorem gaR_mv {K:KP} (hK:K.ok) {c:Cm} {LC MC:List SP} {L M:List AP} (h1:MvL LC MC) (h2:MvA L M) :
 (gaR K c MC M).1=(gaR K c LC L).1∧MvL (gaR K c LC L).2.1 (gaR K c MC M).2.1∧MvA (gaR K c LC L).2.2.1 (gaR K c MC M).2.2.1∧(gaR K c MC M).2.2.2=(gaR K c LC L).2.2.2:=by
 have e1:=zbf (K:=K) (c:=c) h1
 have e2:=ze4 (c:=c) h1
 have e3:=zi9 (d:=ctD c LC) hK h2
 by_cases hm:mvE K c LC=0
 ·cases he:enoughA K (ctD c LC) L with
  | true =>
   rw [qh hm he,qh (by rw [e1];exact hm) (by rw [e2,e3];exact he),e2]
   exact⟨rfl,h1,zi8 hK h2,rfl⟩
  | false =>
   rw [jl hm he,jl (by rw [e1];exact hm) (by rw [e2,e3];exact he)]
   exact⟨rfl,MvL.nil,MvA.nil,rfl⟩
 ·rw [jk hm,jk (by rw [e1];exact hm),e1]
  exact⟨rfl,MvL.nil,MvA.nil,rfl⟩
theorem zp6 {K:KP} {c:Cm} {LC:List SP} (h:mvE K c LC=0):LC.length=(2*K.f+1).toNat:=by
 have hc:=jj h
 unfold mvE at h
 rw [if_pos hc]at h
 unfold cqE at h
 by_cases hl:LC.length=(2*K.f+1).toNat
 ·exact hl
 ·rw [if_neg hl]at h
  exact absurd h (by decide)
theorem zjf (c:Cm) {K:KP} (hK:K.ok) (CA:Option Addr) (ck:Nat) (LC:List SP) (hlc:LC.length≤40) (A:Option Addr) (cap:Nat) (L:List AP) (hl:L.length≤100000) (w:World) (hS:Std w) (hk:K.at w) (hLC:Sps w CA LC) (hL:Aps w A L) :
 Calls Tryz.prog 45 #[.agg K.C,.agg (ctC c CA LC.length ck),.slice A L.length cap] w fun e w'=>∃ B k M D j N,e=.returned (.tuple #[.agg (sqC (gaR K c LC L).1 B (gaR K c LC L).2.1.length k D (gaR K c LC L).2.2.1.length j),.int .i64 (gaR K c LC L).2.2.2])∧MvL (gaR K c LC L).2.1 M∧Sps w' B M∧MvA (gaR K c LC L).2.2.1 N∧Aps w' D N∧(∀ ad,B=some ad→w.heap.size≤ad.block∧ad.block<w'.heap.size)∧(∀ S∈M,∀ ad,S.A=some ad→S.l=[]∨w.heap.size≤ad.block)∧(∀ ad,D=some ad→w.heap.size≤ad.block∧ad.block<w'.heap.size)∧(∀ S∈N,∀ ad,S.A=some ad→S.l=[]∨w.heap.size≤ad.block)∧Grew w w':=by
 by_cases h:mvE K c LC=0
 ·cases hen:enoughA K (ctD c LC) L with
  | true =>
   rw [qh h hen]
   refine(qP c (xj (jj h)) hK CA ck LC hlc h A cap L hl w hS hk hLC hL hen).mono ?_
   rintro e w' ⟨⟨B,k,M,D,j,N,h1,h2,h3,h4,h5,h6,h7,h8,h9⟩,gg⟩
   have hf:=hK.f
   have hl1:=zp6 h
   have hl2:=qQ hen
   refine⟨B,k,M,D,j,N,h1,h2,h3,h4,h5,fun ad e=>⟨h6 ad e,?_⟩,h7,fun ad e=>⟨h8 ad e,?_⟩,h9,gg⟩
   ·obtain⟨q,e2,hq,-⟩:=h3.get 0 (by rw [h2.len,hl1];omega)
    rw [e]at e2;cases e2;exact hq
   ·obtain⟨q,e2,hq,-⟩:=h5.get 0 (by rw [h4.len,hl2];omega)
    rw [e]at e2;cases e2;exact hq
  | false =>
   rw [jl h hen]
   refine(qg c (xj (jj h)) hK CA ck LC hlc h A cap L hl w hS hk hLC hL hen).mono ?_
   rintro e w' ⟨h1,gg⟩
   exact⟨none,0,[],none,0,[],h1,MvL.nil,zfa _,MvA.nil,jy _,(fun ad e=>by cases e),by simp,(fun ad e=>by cases e),by simp,gg⟩
 ·rw [jk h]
  refine(zff c hK CA ck LC hlc _ rfl h A cap L hl w hS hk hLC hL).mono ?_
  rintro e w' ⟨h1,gg⟩
  exact⟨none,0,[],none,0,[],h1,MvL.nil,zfa _,MvA.nil,jy _,(fun ad e=>by cases e),by simp,(fun ad e=>by cases e),by simp,gg⟩
theorem zc3 (w:World):SpsG w none []:=⟨fun k hk=>absurd hk (by simp),by simp,by simp⟩
theorem zlp (c:Cm) {K:KP} (hK:K.ok) (CA:Option Addr) (ck:Nat) (LC:List SP) (hlc:LC.length≤40) (A:Option Addr) (cap:Nat) (L:List AP) (hl:L.length≤100000) (w:World) (hS:Std w) (hk:K.at w) (hLC:SpsG w CA LC) (hL:ApsG w A L) :
 Calls Tryz.prog 47 #[.agg K.C,.agg (ctC c CA LC.length ck),.slice A L.length cap] w fun e w'=>∃ B k D j,e=.returned (.tuple #[.agg (sqC (gaR K c LC L).1 B (gaR K c LC L).2.1.length k D (gaR K c LC L).2.2.1.length j),.int .i64 (gaR K c LC L).2.2.2])∧SpsG w' B (gaR K c LC L).2.1∧Aps w' D (gaR K c LC L).2.2.1∧Grew w w':=by
 refine(zje c hK CA ck LC hlc A cap L hl w hS hk hLC hL).mono ?_
 rintro e w' ⟨⟨hg⟩,⟨v,rfl⟩,gg⟩
 rcases hg with ⟨h1,h2⟩ | ⟨h1,h2,h3⟩ | ⟨h1,h2,D,j,h3,h4⟩
 ·rw [jk h1]
  exact⟨none,0,none,0,by rw [show v=_ from h2];rfl,zc3 _,jy _,gg⟩
 ·rw [jl h1 h2]
  exact⟨none,0,none,0,by rw [show v=_ from h3];rfl,zc3 _,jy _,gg⟩
 ·rw [qh h1 h2]
  exact⟨CA,ck,D,j,by rw [show v=_ from h3],hLC.gr gg,h4,gg⟩
structure SqS (w:World) (B0:Nat) (LC:List SP) (LA:List AP) (lo hi:Nat) (v:Value) (f:Option Addr→Nat→Option Addr→Nat→Value):Prop where
 out:∃ B k M D j N,v=f B k D j∧MvL LC M∧Sps w B M∧MvA LA N∧Aps w D N∧B0≤lo∧(∀ ad,B=some ad→lo≤ad.block∧ad.block<hi)∧(∀ S∈M,∀ ad,S.A=some ad→S.l=[]∨(lo≤ad.block∧ad.block<hi))∧(∀ ad,D=some ad→lo≤ad.block∧ad.block<hi)∧(∀ S∈N,∀ ad,S.A=some ad→S.l=[]∨(lo≤ad.block∧ad.block<hi))
theorem SqS.gr {w w':World} {B0:Nat} {LC:List SP} {LA:List AP} {lo hi:Nat} {v:Value} {f:Option Addr→Nat→Option Addr→Nat→Value} (h:SqS w B0 LC LA lo hi v f) (g:Grew w w'):SqS w' B0 LC LA lo hi v f:=by
 obtain⟨B,k,M,D,j,N,h1,h2,h3,h4,h5,h6⟩:=h.out
 exact⟨B,k,M,D,j,N,h1,h2,h3.gr g,h4,h5.gr g,h6⟩
structure SqF (w0:World) (mc:Cm) (LC:List SP) (LA:List AP) (v:Value) (W:World):Prop where
 out:∃ B k M D j N q,v=.pointer (some ⟨q,0,none⟩)∧Ag W q (sqC mc B LC.length k D LA.length j).toList∧MvL LC M∧Sps W B M∧MvA LA N∧Aps W D N∧w0.heap.size≤q∧Grew w0 W
theorem SqF.gr {w0:World} {mc:Cm} {LC:List SP} {LA:List AP} {v:Value} {x y:World} (h:SqF w0 mc LC LA v x) (g:Grew x y):SqF w0 mc LC LA v y:=by
 obtain⟨B,k,M,D,j,N,q,h1,h2,h3,h4,h5,h6,h7,h8⟩:=h.out
 exact⟨B,k,M,D,j,N,q,h1,h2.grew g,h3,h4.gr g,h5,h6.gr g,h7,zb h8 g⟩
theorem zlq {K K':KP} (hf:K'.f=K.f) (hR:K'.R=K.R) (hh:K'.h=K.h) (d:Nat):∀(L:List AP) (p:Option Int),chqA K' d p L=chqA K d p L
 | [],_=>by rw [chqA,chqA]
 | S::r,p=>by
  rw [chqA,chqA,zlq hf hR hh d r,show vdA K' d S=vdA K d S from by unfold vdA kvS;rw [hf,hR,hh]]
theorem cqA_K {K K':KP} (hf:K'.f=K.f) (hR:K'.R=K.R) (hh:K'.h=K.h) (d:Nat) (L:List AP):cqA K' d L=cqA K d L:=by
 unfold cqA
 rw [hf,zlq hf hR hh]
theorem zn5 {K:KP} {c:Cm} {LC:List SP} {L:List AP} (h:(gaR K c LC L).2.2.2=0):(gaR K c LC L).1=c∧(gaR K c LC L).2.1=LC∧(gaR K c LC L).2.2.1=chosenA K (ctD c LC) L∧mvE K c LC=0∧enoughA K (ctD c LC) L=true:=by
 by_cases hm:mvE K c LC=0
 ·cases he:enoughA K (ctD c LC) L with
  | true=>rw [qh hm he];exact⟨rfl,rfl,rfl,hm,rfl⟩
  | false=>rw [jl hm he]at h;exact absurd h (by decide)
 ·rw [jk hm]at h;exact absurd h hm
theorem OfS.lo {L:List SP} {N:List AP} {b b':Nat} {z:World} {v:Value} {f:Option Addr→Nat→Option Addr→Nat→Value} (h:OfS L N b z v f) (hb:b'≤b):OfS L N b' z v f:=by
 obtain⟨B,k,M,D,j,E,h1,⟨h2,h3,h4,h5⟩,⟨h6,h7,h8,h9⟩⟩:=h.out
 exact⟨B,k,M,D,j,E,h1,⟨h2,h3,fun ad e=>Nat.le_trans hb (h4 ad e),fun S hS ad e=>(h5 S hS ad e).imp id (Nat.le_trans hb)⟩,⟨h6,h7,fun ad e=>Nat.le_trans hb (h8 ad e),fun S hS ad e=>(h9 S hS ad e).imp id (Nat.le_trans hb)⟩⟩
theorem zp7 (K:KP) (c:Cm) (LC:List SP) (L:List AP):(gaR K c LC L).2.1.length≤LC.length∧(gaR K c LC L).2.2.1.length≤(2*K.f+1).toNat:=by
 unfold gaR
 split
 ·split
  ·exact⟨zN9 _,by show(chosenA K (ctD c LC) L).length≤_;unfold chosenA;rw [List.length_take];omega⟩
  ·exact⟨Nat.zero_le _,Nat.zero_le _⟩
 ·exact⟨Nat.zero_le _,Nat.zero_le _⟩
theorem zc4 {L M N:List AP} (h1:MvA L M) (h2:MvA M N):MvA L N:=⟨by rw [h2.len,h1.len],fun k a b=>by
 obtain⟨A,c,e⟩:=h1.each k a (by rw [h1.len];exact a)
 obtain⟨A',c',e'⟩:=h2.each k (by rw [h1.len];exact a) b
 exact⟨A',c',by rw [e',e];rfl⟩⟩
theorem OfV.lo {L:List SP} {b b':Nat} {z:World} {v:Value} {f:Option Addr→Nat→Value} (h:OfV L b z v f) (hb:b'≤b):OfV L b' z v f:=by
 obtain⟨B,k,M,h1,h2,h3,h4,h5⟩:=h.out
 exact⟨B,k,M,h1,h2,h3,fun ad e=>Nat.le_trans hb (h4 ad e),fun S hS ad e=>(h5 S hS ad e).imp id (Nat.le_trans hb)⟩
theorem RaG.cell {w:World} {A:Option Addr} {L:List AP} (h:RaG w A L) (i:Nat) (hi:i<L.length):∃ ad,A=some ad∧w.cell? ⟨(ad.add (i*23)).block,(ad.add (i*23)).off+22,none⟩=some (.slice L[i].A L[i].l.length L[i].c):=by
 obtain⟨ad,hA,hq,hr⟩:=h i hi
 have:=hr 22 (.slice L[i].A L[i].l.length L[i].c) rfl
 rw [kG _ (by decide)]at this
 exact⟨ad,hA,this⟩
theorem zjg (K:KP) (hRb:∀ z∈K.R,z<18446744073709551616) (c:Cm) (hcin:c.in) (CA:Option Addr) (ck:Nat) (LC:List SP) (A:Option Addr) (cap:Nat) (L:List AP) (w:World) (hS:Std w)
 (hrR:K.at w) (hrc:RdG w CA LC) (hokc:∀ S∈LC,S.l.length≤1000→S.ok) (hatc:∀ S∈LC,S.at w) (hrd:RaG w A L) (hok:∀ S∈L,S.l.length≤1000→S.ok) (hat:∀ S∈L,S.at w) :
 Calls Tryz.prog 7 #[.agg K.C,.agg (ctC c CA LC.length ck),.slice A L.length cap] w fun e w'=>e=.returned (.bool true)∧Grew w w':=by
 have z0:=(Ag.new w 64 K.C).grew (ze (za _) (.cells (ctC c CA LC.length ck) 36))
 have z1:=Ag.new (w.alloc (.cells K.C 64)) 36 (ctC c CA LC.length ck)
 rw [zl]at z1
 have G0:=ze (ze (za w) (.cells K.C 64)) (.cells (ctC c CA LC.length ck) 36)
 have huk:=Tryz.underlying64
 have hukt:=Tryz.underlying91
 have hut:=Tryz.underlying106
 have hur:=Tryz.underlying36
 have hurs:=Tryz.underlying111
 have SIK:Hid (zI9 64=some K.C.toList.length):=hQ9 ku
 have CK:=hQ9 (fun W hW=>kn14 W hW)
 have CCK:Hid (∀ W,Calls Tryz.prog 29 #[.agg K.C] W fun e w'=>e=.returned (.int .i64 (cyE K.f K.R.length K.h))∧Grew W w'):=hQ9 (fun W=>zf9 K.f K.R K.RA K.Rc K.h W)
 have CF1:=hQ9 (fun W (h:RdG W CA LC)=>zp0 c CA ck LC W h)
 obtain⟨g0,hg0⟩:∃ g,ctC c CA LC.length ck=g:=⟨_,rfl⟩
 have SIG0:Hid (zI9 36=some g0.toList.length):=hQ9 (by rw [←hg0];exact yZ)
 rw [hg0]at z0 z1 G0 CF1 ⊢
 have HG0:=hQ9 hg0
 have HS:=hQ9 hS
 have HRc:=hQ9 hrc
 have HOKC:=hQ9 hokc
 have HATC:=hQ9 hatc
 have HRd:=hQ9 hrd
 have HOK:=hQ9 hok
 have HAT:=hQ9 hat
 have HKR:=hQ9 hrR
 have HRb:=hQ9 hRb
 have HCI:=hQ9 hcin
 clear hS hrd hok hat hrR hRb hg0 hcin hrc hokc hatc
 go_enter Tryz.func7,Tryz.ntmps7
 go_wp2_with fail
 refine(CK.out _ (HS.out.grew G0)).mono ?_
 rintro e w1 ⟨rfl,gg⟩
 have z0:=z0.grew gg
 have z1:=z1.grew gg
 have G1:=zb G0 gg
 clear CK gg G0
 have hmk:=z0.cell
 go_wp2_with(with_reducible refine wpList_load_mid rfl 64 (.tmp 3) rfl w.heap.size 0 rfl K.C.toList _ hmk huk rfl SIK.out ?_;simp only [zT9])
 refine(CCK.out _).mono ?_
 rintro e w2 ⟨rfl,gg⟩
 have z0:=z0.grew gg
 have z1:=z1.grew gg
 have G2:=zb G1 gg
 clear CCK gg G1 hmk
 by_cases hcy:cyE K.f K.R.length K.h=0
 rotate_left
 ·have e15:(cyE K.f K.R.length K.h != 0)=true:=by simpa using hcy
  clear hcy z0 z1
  generalize cyE K.f K.R.length K.h=ey at *
  go_wp2_with fail
  go_ret
  exact⟨rfl,G2⟩
 have HCY:=hQ9 hcy
 rw [hcy]
 clear hcy
 have CF:=CF1.out w2 (HRc.out.gr G2)
 have hmc:=z1.cell
 cases hfw:fewB LC with
 | false =>
  rw [hfw]at CF
  have HCF:=hQ9 CF
  clear CF z0 z1 hfw
  go_wp2_with(refine zj (by rfl) 36 (.tmp 4) rfl (w.heap.size+1) 0 rfl g0.toList _ hmc hur rfl SIG0.out ?_;simp only [zT9])
  refine HCF.out.mono ?_
  rintro e w3 ⟨rfl,gg⟩
  go_wp2_with fail
  go_ret
  exact⟨rfl,zb G2 gg⟩
 | true =>
 rw [hfw]at CF
 have HCF:=hQ9 CF
 have hsp:=zp5 hfw HRc.out HOKC.out HATC.out
 have HSPC:=hQ9 hsp.1
 have HLC12:=hQ9 hsp.2
 clear CF hsp HRc HOKC HATC hfw
 by_cases hl12:12<L.length
 ·have e12:decide ((12:Int)<(L.length:Int))=true:=decide_eq_true (by omega)
  clear z0 z1 hl12
  go_wp2_with(refine zj (by rfl) 36 (.tmp 4) rfl (w.heap.size+1) 0 rfl g0.toList _ hmc hur rfl SIG0.out ?_;simp only [zT9])
  refine HCF.out.mono ?_
  rintro e w3 ⟨rfl,gg⟩
  go_wp2_with fail
  go_ret
  exact⟨rfl,zb G2 gg⟩
 have e12:decide ((12:Int)<(L.length:Int))=false:=zF9 (by omega)
 have HL12:Hid (L.length≤12):=hQ9 (by omega)
 clear hl12
 go_wp2_with(refine zj (by rfl) 36 (.tmp 4) rfl (w.heap.size+1) 0 rfl g0.toList _ hmc hur rfl SIG0.out ?_;simp only [zT9])
 clear hmc
 refine HCF.out.mono ?_
 rintro e w3 ⟨rfl,gg⟩
 have z0:=z0.grew gg
 have z1:=z1.grew gg
 have G3:=zb G2 gg
 clear HCF gg G2
 have hK:K.ok:=by
  have h1:=HCY.out
  unfold cyE at h1
  split at h1
  ·cases h1
  ·split at h1
   ·rename_i h2 h3
    exact⟨by omega,by have:=h3.1;omega,HRb.out⟩
   ·cases h1
 have HK:=hQ9 hK
 have HGW:=hQ9 G3
 have HRA3:=hQ9 (HRd.out.gr G3)
 have HM1:=hQ9 (fun y (g:Grew w3 y)=>(z0.grew g).cell)
 have HM2:=hQ9 (fun y (g:Grew w3 y)=>(z1.grew g).cell)
 clear hK z0 z1 G3 HCY
 go_wp2_with fail
 go_loopw [7] (fun iv wr=>∃ i:Nat,i≤L.length∧iv=.int .i64 (i:Int)∧Hid (∀ j (hj:j<L.length),j<i→L[j].l.length≤9)∧wr=w3) (fun iv _=>L.length-(Go.RowKit.intOf iv).toNat)
 case atStart=>exact⟨0,by omega,rfl,hQ9 (fun j hj h=>by omega),rfl⟩
 case round =>
  obtain⟨i,hi,rfl,HJ,rfl⟩:=hrel
  by_cases hlt:i<L.length
  ·obtain⟨ad,hA,hcell⟩:=HRA3.out.cell i hlt
   subst hA
   obtain⟨S,hSL⟩:∃ S,L[i]=S:=⟨_,rfl⟩
   rw [hSL]at hcell
   have h1:(i:Int)<(L.length:Int):=by omega
   have h0:(0:Int)≤(i:Int):=by omega
   have HI:=hQ9 hlt
   have e49:IntKind.i64.wrap ((i:Int)+1)=((i+1:Nat):Int):=by have:=HL12.out;rw [IntWalk.i64_in _ (by omega)];omega
   by_cases h9:9<S.l.length
   ·have e1:decide ((9:Int)<(S.l.length:Int))=true:=decide_eq_true (by omega)
    clear h9 hSL hlt hi
    go_wp2_with fail
    go_ret
    exact⟨rfl,HGW.out⟩
   ·have e1:decide ((9:Int)<(S.l.length:Int))=false:=zF9 (by omega)
    have H9:Hid (∀(h:i<L.length),(L[i]'h).l.length≤9):=hQ9 (fun _=>by rw [hSL];omega)
    clear h9 hSL hlt hi
    go_wp2_with fail
    go_roundw
    case rel=>exact⟨i+1,by have:=HI.out;omega,by go_num,hQ9 (fun j hj h=>by
     by_cases e:j=i
     ·subst e;exact H9.out hj
     ·exact HJ.out j hj (by omega)),by first | rfl | trivial⟩
    case measure=>have:=HI.out;simp [Go.RowKit.intOf]<;>omega
  obtain rfl:i=L.length:=by omega
  have H9:Hid (∀ S∈L,S.l.length≤9):=hQ9 (fun S hS=>by
   obtain⟨j,hj,rfl⟩:=List.getElem_of_mem hS
   exact HJ.out j hj hj)
  have HSPA:Hid (ApsG w A L):=hQ9 ⟨HRd.out,fun S hS=>HOK.out S hS (by have:=H9.out S hS;omega),HAT.out⟩
  clear hlt hi HJ
  have CTK:Hid (∀ W,K.at W→Calls Tryz.prog 36 #[.agg K.C] W fun e w'=>(∃ A' c',e=.returned (.agg (kyS K.f A' K.R.length c' K.h))∧Rd w' w'.heap.size A' (u64L K.R))∧Grew W w'):=hQ9 (fun W h=>(zkz K.f K.R K.RA K.Rc K.h (by have:=HK.out.len;omega) W h).mono (by rintro e z ⟨A',c',h1,h2,h3,-⟩;exact⟨⟨A',c',h1,h2⟩,h3⟩))
  have hmk:=HM1.out wr (za _)
  go_wp2_with(with_reducible refine wpList_load_mid rfl 64 (.tmp 3) rfl w.heap.size 0 rfl K.C.toList _ hmk huk rfl SIK.out ?_;simp only [zT9])
  refine(CTK.out wr (HKR.out.gr HGW.out)).mono ?_
  rintro e w4 ⟨⟨RA,Rc,rfl,hRd⟩,g4⟩
  obtain⟨kc,hkc⟩:∃ v,kyS K.f RA K.R.length Rc K.h=v:=⟨_,rfl⟩
  have HKC:=hQ9 hkc
  have HSK:Hid (zI9 91=some kc.size):=hQ9 (by rw [←hkc];kernel_rfl)
  have HSKL:Hid (zI9 91=some kc.toList.length):=hQ9 (by rw [←hkc];kernel_rfl)
  have HOKK:Hid (kc.all (·.oneCell')=true):=hQ9 (by rw [←hkc];simp [kyS,Value.oneCell'])
  obtain⟨w5,hw5,ht5,g5,z5⟩:=yT w4 91 (#[.int .i64 0,.slice none 0 0,.int .i64 0]) kc (by rw [←hkc];rfl)
  have HW5:=hQ9 hw5
  have HT5:=hQ9 ht5
  rw [hkc]
  have G5:=zb g4 g5
  have HGW5:=hQ9 (zb HGW.out G5)
  have HRK:Hid (∀ y,Grew w5 y→(⟨K.f,K.R,RA,Rc,K.h⟩:KP).at y):=hQ9 (fun y g=>hRd.gr (zb g5 g))
  have HZK:Hid (∀ y,Grew w5 y→y.rangeAt w4.heap.size 0 kc.toList):=hQ9 (fun y g=>(z5.grew g).cell)
  have HM15:=hQ9 (fun y (g:Grew w5 y)=>HM1.out y (zb G5 g))
  have HM25:=hQ9 (fun y (g:Grew w5 y)=>HM2.out y (zb G5 g))
  clear hw5 ht5 hkc hmk hRd g4 g5 z5 G5 CTK
  go_upto_region 11 with (with_reducible refine wpList_store_mid rfl 91 (.tmp 8) (.tmp 44) rfl w4.heap.size 0 kc rfl rfl HT5.out HSK.out HOKK.out ?_;rw [HW5.out];clear HW5 HT5;generalize w4.heap.size=qk at *)
  obtain⟨ga0,hga0⟩:∃ m,gaR K c LC L=m:=⟨_,rfl⟩
  obtain⟨mc,LE,LA,er⟩:=ga0
  have HGA:=hQ9 hga0
  have hK':Hid (⟨K.f,K.R,RA,Rc,K.h⟩:KP).ok:=hQ9 ⟨HK.out.f,HK.out.len,HK.out.b⟩
  have HSY:Hid (∀ y,Grew w5 y→Std y):=hQ9 (fun y g=>HS.out.grew (zb HGW5.out g))
  have CTO:Hid (∀ W,Grew w5 W→Calls Tryz.prog 14 #[.agg g0] W fun e w'=>OfV LC W.heap.size w' (match e with | .returned v=>v | _=>undef) (fun B n=>.agg (ctC c B LC.length n))∧(∃ v,e=.returned v)∧Grew W w'):=hQ9 (fun W g=>by
   have:=qS c CA ck LC (by have:=HLC12.out;omega) W (HSPC.out.gr (zb HGW5.out g))
   rw [HG0.out]at this
   exact this)
  have CTA:Hid (∀ W,Grew w5 W→Calls Tryz.prog 46 #[.slice A L.length cap] W fun e w'=>(∃ B k M,e=.returned (.slice B L.length k)∧MvA L M∧Aps w' B M∧(∀ ad,B=some ad→W.heap.size≤ad.block)∧(∀ S∈M,∀ ad,S.A=some ad→S.l=[]∨W.heap.size≤ad.block))∧Grew W w'):=hQ9 (fun W g=>(zcy A cap L (by have:=HL12.out;omega) W (HSPA.out.gr (zb HGW5.out g))).mono (by rintro e z ⟨B,k,M,h1,h2,h3,-,-,h4,h5,h6⟩;exact⟨⟨B,k,M,h1,h2,h3,h4,h5⟩,h6⟩))
  have CM:Hid (∀ CB ck' MC B k ML,MvL LC MC→MvA L ML→∀ W,Grew w5 W→Sps W CB MC→Aps W B ML→Calls Tryz.prog 45 #[.agg kc,.agg (ctC c CB LC.length ck'),.slice B L.length k] W fun e w'=>∃ B k M D j N,e=.returned (.tuple #[.agg (sqC mc B LE.length k D LA.length j),.int .i64 er])∧MvL LE M∧Sps w' B M∧MvA LA N∧Aps w' D N∧(∀ ad,B=some ad→W.heap.size≤ad.block∧ad.block<w'.heap.size)∧(∀ S∈M,∀ ad,S.A=some ad→S.l=[]∨W.heap.size≤ad.block)∧(∀ ad,D=some ad→W.heap.size≤ad.block∧ad.block<w'.heap.size)∧(∀ S∈N,∀ ad,S.A=some ad→S.l=[]∨W.heap.size≤ad.block)∧Grew W w'):=hQ9 (fun CB ck' MC B k ML hm hn W g h3 h4=>by
   have:=zjf c hK'.out CB ck' MC (by rw [hm.len];have:=HLC12.out;omega) B k ML (by rw [hn.len];have:=HL12.out;omega) W (HSY.out W g) (HRK.out W g) h3 h4
   rw [hm.len,hn.len]at this
   obtain⟨m1,m2,m3,m4⟩:=gaR_mv hK'.out (c:=c) hm hn
   have me:gaR (⟨K.f,K.R,RA,Rc,K.h⟩:KP) c LC L=(mc,LE,LA,er):=by
    rw [←HGA.out]
    unfold gaR
    rw [mvE_K (K:=K) (K':=⟨K.f,K.R,RA,Rc,K.h⟩) rfl rfl rfl]
    rfl
   rw [me]at m1 m2 m3 m4
   rw [m1,m4,m2.len,m3.len,show(⟨K.f,K.R,RA,Rc,K.h⟩:KP).C=kc from HKC.out]at this
   refine this.mono ?_
   rintro e w' ⟨B',k',M',D',j',N',h1,h2,h3,h4,h5,h6,h7,h8,h9,gg⟩
   exact⟨B',k',M',D',j',N',h1,zc1 m2 h2,h3,zc4 m3 h4,h5,h6,h7,h8,h9,gg⟩)
  clear hga0
  refine zab 10 11 (fun ix9=>match ix9 with
   | 0=>fun v=>v=.agg kc
   | 1=>fun v=>v=.agg g0
   | 2=>fun v=>∃ B n,v=.agg (ctC c B LC.length n)
   | 3=>fun v=>v=.slice A L.length cap
   | 4=>fun v=>∃ B n,v=.slice B L.length n
   | 5=>fun _=>True
   | 6=>fun v=>∃ B k D j,v=.tuple #[.agg (sqC mc B LE.length k D LA.length j),.int .i64 er]
   | 7=>fun _=>True
   | 8=>fun v=>v=.int .i64 er
   | 9=>fun _=>True
   | 10=>fun _=>True
   | _=>fun _=>True) (fun ix9=>match ix9 with
   | 0=>fun v _=>v=.agg kc
   | 1=>fun v _=>v=.agg g0
   | 2=>fun v W=>OfV LC w5.heap.size W v (fun B n=>.agg (ctC c B LC.length n))
   | 3=>fun v _=>v=.slice A L.length cap
   | 4=>fun v W=>OfA L w5.heap.size W v (fun B n=>.slice B L.length n)
   | 5=>fun _ _=>True
   | 6=>fun v _=>∃ B k D j,v=.tuple #[.agg (sqC mc B LE.length k D LA.length j),.int .i64 er]
   | 7=>fun _ _=>True
   | 8=>fun v _=>v=.int .i64 er
   | 9=>fun _ _=>True
   | 10=>fun _ _=>True
   | _=>fun _ _=>True) (fun ix9=>match ix9 with
   | 5=>fun lo hi v w=>SqS w w5.heap.size LE LA lo hi v (fun B k D j=>.tuple #[.agg (sqC mc B LE.length k D LA.length j),.int .i64 er])
   | 6=>fun lo hi v w=>SqS w w5.heap.size LE LA lo hi v (fun B k D j=>.tuple #[.agg (sqC mc B LE.length k D LA.length j),.int .i64 er])
   | 7=>fun lo hi v w=>SqS w w5.heap.size LE LA lo hi v (fun B k D j=>.agg (sqC mc B LE.length k D LA.length j))
   | 9=>fun lo hi v w=>AgZ w w5.heap.size lo hi (zQ7:Array Value).toList v
   | _=>fun _ _ _ _=>True) (fun ix9=>match ix9 with
   | 6=>5
   | 7=>6
   | ix8=>ix8) (fun ix9=>match ix9 with
   | 6=>5
   | 7=>5
   | ix8=>ix8) (fun ix9=>match ix9 with
   | 8=>true
   | _=>false) 9 (fun v W=>SqF w5 mc LE LA v W) rfl (by kernel_rfl) (by kernel_rfl) (by kernel_rfl) (by kernel_rfl) rfl rfl (by decide) (fun _=>trivial) ?_ ?_ ?_ ?_ ?_ ?_ (fun o ho=>by cases ho;rfl) (fun v x y h hg=>SqF.gr h hg) ?_
  ·intro i v y h
   match i,h with
   | 0,h | 1,h | 3,h | 8,h=>exact h
   | 2,h=>exact(OfV.out h).imp fun A hA=>hA.imp fun k hk=>hk.elim fun M hM=>hM.1
   | 4,h=>exact(OfA.out h).imp fun A hA=>hA.imp fun k hk=>hk.elim fun M hM=>hM.1
   | 5,_=>trivial
   | 6,h=>exact h
   | 7,_=>trivial
   | 9,_=>trivial
   | 10,h=>exact h
   | m+11,_=>trivial
  ·intro i v x y h hg
   match i,h with
   | 0,h | 1,h | 3,h | 8,h=>exact h
   | 2,h=>exact OfV.gr h hg
   | 4,h=>exact OfA.gr h hg
   | 5,_=>trivial
   | 6,h=>exact h
   | 7,_=>trivial
   | 9,_=>trivial
   | 10,h=>exact h
   | m+11,_=>trivial
  ·simp only [actOf,tk1,tk0,dr1,dr0,Act.put,si1,st1,st0,Nat.reduceAdd]
   refine⟨?_,?_,?_,?_,?_,?_,?_,?_,?_,?_,trivial⟩
   ·intro vs lo hi y hg hd hvia
    replace hg:Grew w5 y:=hg
    clear hvia
    dsimp only
    have hm:=HZK.out y hg
    go_wp2_with(with_reducible refine wpList_load_mid rfl 91 (.tmp 8) rfl qk 0 rfl kc.toList _ hm hukt rfl HSKL.out ?_;simp only [zT9])
    first | exact⟨rfl,_,rfl,za _,rfl⟩ | exact⟨rfl,_,rfl,za _,rfl,trivial⟩
   ·intro vs lo hi y hg hd hvia
    replace hg:Grew w5 y:=hg
    clear hvia
    dsimp only
    have hm:=HM25.out y hg
    go_wp2_with(with_reducible refine wpList_load_mid rfl 36 (.tmp 4) rfl (w.heap.size+1) 0 rfl g0.toList _ hm hur rfl SIG0.out ?_;simp only [zT9])
    first | exact⟨rfl,_,rfl,za _,rfl⟩ | exact⟨rfl,_,rfl,za _,rfl,trivial⟩
   ·intro vs lo hi y hg hd hvia
    replace hg:Grew w5 y:=hg
    obtain⟨h1,_⟩:=hd
    replace h1:=h1 rfl
    clear hvia
    dsimp only
    rw [show vs 1=_ from h1]
    go_wp2_with(go_at_call 14;refine(CTO.out y hg).mono ?_;rintro e z ⟨hof,⟨v9,rfl⟩,gz⟩)
    exact⟨rfl,_,rfl,gz,OfV.lo hof hg.size,trivial⟩
   ·intro vs lo hi y hg hd hvia
    replace hg:Grew w5 y:=hg
    clear hvia
    dsimp only
    go_wp2_with fail
    first | exact⟨rfl,_,rfl,za _,rfl⟩ | exact⟨rfl,_,rfl,za _,rfl,trivial⟩
   ·intro vs lo hi y hg hd hvia
    replace hg:Grew w5 y:=hg
    obtain⟨h3,_⟩:=hd
    replace h3:=h3 rfl
    clear hvia
    dsimp only
    rw [show vs 3=_ from h3]
    go_wp2_with(go_at_call 46;refine(CTA.out y hg).mono ?_;rintro e z ⟨⟨B9,k9,M9,rfl,hmv9,hsp9,hb9,hm9⟩,gz⟩)
    exact⟨rfl,_,rfl,gz,⟨B9,k9,M9,rfl,hmv9,hsp9,fun ad h=>Nat.le_trans hg.size (hb9 ad h),fun S hS ad h=>(hm9 S hS ad h).imp id (Nat.le_trans hg.size)⟩,trivial⟩
   ·intro vs lo hi y hg hd hvia
    replace hg:Grew w5 y:=hg
    obtain⟨h0,h2,h4,_⟩:=hd
    replace h0:=h0 rfl
    replace h2:=h2 rfl
    replace h4:=h4 rfl
    clear hvia
    dsimp only
    rw [show vs 0=_ from h0]
    obtain⟨B6,k6,M6,e6,hmv6,hsp6,-,-⟩:=OfV.out h2
    obtain⟨D6,j6,N6,e8,hmn6,han6,-,-⟩:=OfA.out h4
    rw [e6,e8]
    go_wp2_with(go_at_call 45;refine(CM.out B6 k6 M6 D6 j6 N6 hmv6 hmn6 y hg hsp6 han6).mono ?_;rintro e z ⟨B9,k9,M9,D9,j9,N9,rfl,hmv9,hsp9,hmn9,han9,hf1,hf2,hf3,hf4,gz⟩)
    exact⟨rfl,_,rfl,gz,trivial,⟨B9,k9,M9,D9,j9,N9,rfl,hmv9,hsp9,hmn9,han9,hg.size,hf1,fun S hS ad h=>by
     rcases hf2 S hS ad h with h1 | h1
     ·exact .inl h1
     ·exact(at_lt (hsp9.at_ S hS) ad h).imp id (fun h2=>⟨h1,h2⟩),hf3,fun S hS ad h=>by
     rcases hf4 S hS ad h with h1 | h1
     ·exact .inl h1
     ·exact(yJ (han9.at_ S hS) ad h).imp id (fun h2=>⟨h1,h2⟩)⟩⟩
   ·intro vs lo hi y hg hd hvia
    replace hg:Grew w5 y:=hg
    obtain⟨h5,_⟩:=hd
    replace h5:=h5 rfl
    have hv9:(fun lo hi v w=>SqS w w5.heap.size LE LA lo hi v (fun B k D j=>.tuple #[.agg (sqC mc B LE.length k D LA.length j),.int .i64 er])) (lo 5) (hi 5) (vs 5) y:=hvia rfl
    clear hvia
    dsimp only
    obtain⟨B9,k9,M9,D9,j9,N9,e9,hr9⟩:=SqS.out hv9
    rw [e9]
    go_wp2_with fail
    exact⟨rfl,_,rfl,za _,⟨B9,k9,D9,⟨j9,rfl⟩⟩,⟨B9,k9,M9,D9,j9,N9,rfl,hr9⟩⟩
   ·intro vs lo hi y hg hd hvia
    replace hg:Grew w5 y:=hg
    obtain⟨h6,_⟩:=hd
    replace h6:=h6 rfl
    have hv9:(fun lo hi v w=>SqS w w5.heap.size LE LA lo hi v (fun B k D j=>.tuple #[.agg (sqC mc B LE.length k D LA.length j),.int .i64 er])) (lo 6) (hi 6) (vs 6) y:=hvia rfl
    clear hvia
    dsimp only
    obtain⟨B9,k9,M9,D9,j9,N9,e9,hr9⟩:=SqS.out hv9
    rw [e9]
    go_wp2_with fail
    exact⟨rfl,_,rfl,za _,⟨B9,k9,M9,D9,j9,N9,rfl,hr9⟩⟩
   ·intro vs lo hi y hg hd hvia
    replace hg:Grew w5 y:=hg
    obtain⟨h6,_⟩:=hd
    replace h6:=h6 rfl
    clear hvia
    dsimp only
    obtain⟨B9,k9,D9,j9,e9⟩:=h6
    rw [e9]
    go_wp2_with fail
    first | exact⟨rfl,_,rfl,za _,rfl⟩ | exact⟨rfl,_,rfl,za _,rfl,trivial⟩
   ·intro vs lo hi y hg hd hvia
    replace hg:Grew w5 y:=hg
    clear hvia
    dsimp only
    go_wp2_with fail
    exact⟨rfl,_,rfl,ze (za _) _,⟨y.heap.size,rfl,Ag.new y 106 (#[.int .i64 0,.int .i64 0,.int .i64 0,.int .i64 0,.int .i64 0,.slice none 0 0,.slice none 0 0]:Array Value),hg.size,zN9 _,by show y.heap.size<(y.alloc _).heap.size;simp⟩⟩
  ·refine⟨(fun h=>absurd h (by decide)),(fun h=>absurd h (by decide)),(fun h=>absurd h (by decide)),(fun h=>absurd h (by decide)),(fun h=>absurd h (by decide)),(fun h=>absurd h (by decide)),(fun h=>absurd h (by decide)),(fun h=>absurd h (by decide)),?_,(fun h=>absurd h (by decide)),(fun h=>absurd h (by decide)),trivial⟩
   ·intro _ vs y hd
    obtain⟨h6,_⟩:=hd
    replace h6:=h6 rfl
    simp only [actOf,tk1,tk0,dr1,dr0,Act.put,si1,st1,st0,Nat.reduceAdd]
    obtain⟨B9,k9,D9,j9,e9⟩:=h6
    rw [e9]
    go_wp2_with fail
    first | exact⟨rfl,_,rfl,za _,rfl⟩ | exact⟨rfl,_,rfl,za _,rfl,trivial⟩
  ·intro i lo hi v x y h hg
   match i,h with
   | 5,h=>exact SqS.gr h hg
   | 6,h=>exact SqS.gr h hg
   | 7,h=>exact SqS.gr h hg
   | 9,h=>exact AgZ.gr h hg
   | 0,_=>trivial
   | 1,_=>trivial
   | 2,_=>trivial
   | 3,_=>trivial
   | 4,_=>trivial
   | 8,_=>trivial
   | m+10,_=>trivial
  ·intro vs lo hi y hg hJ hK hB hD
   replace hg:Grew w5 y:=hg
   have k51:=hK 5 (by decide) rfl
   have b51:=hB 5 (by decide) rfl
   have k45:=hK 6 (by decide) rfl
   have b45:=hB 6 (by decide) rfl
   have k52:=hK 7 (by decide) rfl
   have b52:=hB 7 (by decide) rfl
   have k9:=hK 9 (by decide) rfl
   have b9:=hB 9 (by decide) rfl
   have d51_9:=hD 5 (by decide) rfl 9 (by decide) rfl (by decide)
   have d45_9:=hD 6 (by decide) rfl 9 (by decide) rfl (by decide)
   have d52_9:=hD 7 (by decide) rfl 9 (by decide) rfl (by decide)
   clear hK hB hD
   have j0:vs 0=.agg kc:=hJ 0 (by decide) rfl
   have j1:vs 1=.agg g0:=hJ 1 (by decide) rfl
   have j3:vs 3=.slice A L.length cap:=hJ 3 (by decide) rfl
   clear hJ
   simp only [actOf,tk1,tk0,dr1,dr0,Act.put,si1,st1,st0,Nat.reduceAdd]
   obtain⟨B7,k7c,M7,D7,j7c,N7,e56,hmv7,hsp7,hmn7,han7,hb7,hrB,hrM,hrD,hrN⟩:=SqS.out k52
   obtain⟨q,e7,zq,hBq,hql,hqh⟩:=AgZ.out k9
   rw [e56,e7]
   have HTH:Hid (y.there q 0 (sqC mc B7 LE.length k7c D7 LA.length j7c).size):=hQ9 (zq.thereN 7 rfl)
   have HSI:Hid (zI9 106=some (sqC mc B7 LE.length k7c D7 LA.length j7c).size):=hQ9 yU
   have HON:=hQ9 (y7 mc B7 LE.length k7c D7 LA.length j7c)
   have z4:=Ag.set (vs:=(sqC mc B7 LE.length k7c D7 LA.length j7c).toList) zq rfl
   have k4:=zn (sqC mc B7 LE.length k7c D7 LA.length j7c).toList q 0 y
   have hsp8:=hsp7.kpx k4 (fun ad h e=>by have:=hrB ad h;have e:ad.block=q:=e;rcases d52_9 with h2 | h2<;>omega) (fun S hS ad h=>(hrM S hS ad h).imp id (fun h1 e=>by have e:ad.block=q:=e;rcases d52_9 with h2 | h2<;>omega))
   have han8:=han7.kpx k4 (fun ad h e=>by have:=hrD ad h;have e:ad.block=q:=e;rcases d52_9 with h2 | h2<;>omega) (fun S hS ad h=>(hrN S hS ad h).imp id (fun h1 e=>by have e:ad.block=q:=e;rcases d52_9 with h2 | h2<;>omega))
   have HF:Hid (SqF w5 mc LE LA (.pointer (some ⟨q,0,none⟩)) (y.setCells q 0 (sqC mc B7 LE.length k7c D7 LA.length j7c).toList)):=hQ9 ⟨B7,k7c,M7,D7,j7c,N7,q,rfl,z4,hmv7,hsp8,hmn7,han8,by omega,zh (o:=0) (b:=q) _ hg (by omega)⟩
   clear hg z4 k4 zq hsp7 hsp8 hmv7 han7 han8 hmn7
   generalize sqC mc B7 LE.length k7c D7 LA.length j7c=gs' at *
   go_wp2_with(with_reducible refine wpList_store_mid rfl 106 (.tmp 9) (.tmp 52) rfl q 0 gs' rfl rfl HTH.out HSI.out HON.out ?_)
   exact HF.out
  ·intro vs w6 hF hJ
   have j0:vs 0=.agg kc:=hJ 0 (by decide)
   have j1:vs 1=.agg g0:=hJ 1 (by decide)
   have j3:vs 3=.slice A L.length cap:=hJ 3 (by decide)
   have j8:vs 8=.int .i64 er:=hJ 8 (by decide)
   clear hJ
   simp only [actOf,tk1,tk0,dr1,dr0,Act.put,si1,st1,st0,Nat.reduceAdd]
   obtain⟨B7,k7,M7,D7,j7c,N7,q9,e7,z7,hmv7,hsp7,hmn7,han7,hq7,g6⟩:=SqF.out hF
   rw [e7,show vs 8=_ from j8]
   have HG6:=hQ9 g6
   have HMV7:=hQ9 hmv7
   have HMN7:=hQ9 hmn7
   have CMR:Hid (∀ W,Grew w5 W→Calls Tryz.prog 47 #[.agg K.C,.agg g0,.slice A L.length cap] W fun e w'=>∃ B k D j,e=.returned (.tuple #[.agg (sqC mc B LE.length k D LA.length j),.int .i64 er])∧SpsG w' B LE∧Aps w' D LA∧Grew W w'):=hQ9 (fun W g=>by
    have:=zlp c HK.out CA ck LC (by have:=HLC12.out;omega) A cap L (by have:=HL12.out;omega) W (HSY.out W g) (HKR.out.gr (zb HGW5.out g)) (HSPC.out.gr (zb HGW5.out g)) (HSPA.out.gr (zb HGW5.out g))
    rw [HGA.out,HG0.out]at this
    exact this)
   have HLEN:Hid (LE.length≤12∧LA.length≤100):=hQ9 (by
    have h:=zp7 K c LC L
    rw [HGA.out]at h
    have h1:=HK.out.f
    have h2:=HLC12.out
    have h3:LE.length≤LC.length:=h.1
    have h4:LA.length≤(2*K.f+1).toNat:=h.2
    omega)
   have hmA:=HM15.out w6 g6
   have hmB:=HM25.out w6 g6
   clear hF e7 hmv7 hmn7 hq7
   try clear j0
   try clear j1
   try clear j3
   try clear j8
   go_wp2_with(first
    | (with_reducible refine wpList_load_mid rfl 64 (.tmp 3) rfl w.heap.size 0 rfl K.C.toList _ hmA huk rfl SIK.out ?_;simp only [zT9])
    | (with_reducible refine wpList_load_mid rfl 36 (.tmp 4) rfl (w.heap.size+1) 0 rfl g0.toList _ hmB hur rfl SIG0.out ?_;simp only [zT9]))
   clear hmA hmB
   refine(CMR.out w6 g6).mono ?_
   rintro e w7 ⟨B8,k8,D8,j8c,rfl,hsp8,han8,g7⟩
   clear CMR
   obtain⟨w8,hw8,ht8,g8,z8⟩:=yT w7 111 (zQ7:Array Value) (sqC mc B8 LE.length k8 D8 LA.length j8c) rfl
   have HW8:=hQ9 hw8
   have HT8:=hQ9 ht8
   have SI8:Hid (zI9 111=some (sqC mc B8 LE.length k8 D8 LA.length j8c).size):=hQ9 yk
   have HO8:=hQ9 (y7 mc B8 LE.length k8 D8 LA.length j8c)
   have G68:=zb g7 g8
   have G58:=zb g6 G68
   have HG58:=hQ9 G58
   obtain⟨g1,hg1⟩:∃ g,sqC mc B7 LE.length k7 D7 LA.length j7c=g:=⟨_,rfl⟩
   obtain⟨g2,hg2⟩:∃ g,sqC mc B8 LE.length k8 D8 LA.length j8c=g:=⟨_,rfl⟩
   have HG1:=hQ9 hg1
   have HG2:=hQ9 hg2
   have HSP7:Hid (∀ y,Grew w8 y→Sps y B7 M7∧Aps y D7 N7):=hQ9 (fun y g=>⟨hsp7.gr (zb G68 g),han7.gr (zb G68 g)⟩)
   have HSP8:Hid (∀ y,Grew w8 y→SpsG y B8 LE∧Aps y D8 LA):=hQ9 (fun y g=>⟨hsp8.gr (zb g8 g),han8.gr (zb g8 g)⟩)
   have HC1:Hid (∀ y,Grew w8 y→y.rangeAt q9 0 g1.toList):=hQ9 (fun y g=>by have:=((z7.grew G68).grew g).cell;rwa [hg1]at this)
   have HC2:Hid (∀ y,Grew w8 y→y.rangeAt w7.heap.size 0 g2.toList):=hQ9 (fun y g=>by have:=(z8.grew g).cell;rwa [hg2]at this)
   have COF:Hid (∀ W,Grew w8 W→Calls Tryz.prog 49 #[.agg g1] W fun e w'=>OfS M7 N7 W.heap.size w' (match e with | .returned v=>v | _=>undef) (fun B n E m=>.agg (sqC mc B LE.length n E LA.length m))∧(∃ v,e=.returned v)∧Grew W w'):=hQ9 (fun W g=>by
    have h:=HSP7.out W g
    have:=zn2 mc B7 k7 M7 (by rw [HMV7.out.len];have:=HLEN.out.1;omega) D7 j7c N7 (by rw [HMN7.out.len];have:=HLEN.out.2;omega) W h.1 h.2
    rw [HMV7.out.len,HMN7.out.len,HG1.out]at this
    exact this)
   have CSC:Hid (∀ B k M D j N,MvL M7 M→MvA N7 N→∀ W,Grew w8 W→Sps W B M→Aps W D N→Calls Tryz.prog 48 #[.agg (sqC mc B LE.length k D LA.length j),.agg g2] W fun e w'=>e=.returned (.bool true)∧Grew W w'):=hQ9 (fun B k M D j N hm hn W g h1 h2=>by
    have h:=HSP8.out W g
    have m1:=(zc1 HMV7.out hm).symm
    have m2:=(zc4 HMN7.out hn).symm
    have:=zfe mc B B8 k k8 M LE (by rw [←m1.len];have:=HLEN.out.1;omega) m1 D D8 j j8c N LA (by rw [←m2.len];have:=HLEN.out.2;omega) m2 W h1 h.1 h2 h.2
    rw [←m1.len,←m2.len,HG2.out]at this
    exact this)
   have SL1:Hid (zI9 106=some g1.toList.length):=hQ9 (by rw [←hg1];exact yU)
   have SL2:Hid (zI9 111=some g2.toList.length):=hQ9 (by rw [←hg2];exact yk)
   rw [hg2]at HW8 HT8 SI8 HO8
   rw [hg2]
   clear hw8 ht8 g6 g7 g8 z7 z8 hsp7 han7 hsp8 han8 G68 G58 hg1 hg2
   go_upto_region 13 with (with_reducible refine wpList_store_mid rfl 111 (.tmp 11) (.tmp 59) rfl w7.heap.size 0 g2 rfl rfl HT8.out SI8.out HO8.out ?_;rw [HW8.out];clear HW8 HT8 SI8 HO8;generalize w7.heap.size=q11 at *)
   refine xD 9 (fun ix9=>match ix9 with
    | 0=>fun v _=>v=.int .i64 er
    | 1=>fun v _=>v=.int .i64 er
    | 2=>fun v _=>v=.bool false
    | 3=>fun v _=>v=.bool false
    | 4=>fun v _=>v=.agg g1
    | 5=>fun v W=>OfS M7 N7 w8.heap.size W v (fun B n E m=>.agg (sqC mc B LE.length n E LA.length m))
    | 6=>fun v _=>v=.agg g2
    | 7=>fun v _=>v=.bool true
    | 8=>fun v _=>v=.bool false
    | _=>fun _ _=>True) (fun ix9=>match ix9 with
    | 5=>fun _ _ _ _=>True
    | _=>fun _ _ _ _=>True) (fun ix9=>match ix9 with
    | ix8=>ix8) (fun ix9=>match ix9 with
    | ix8=>ix8) (by kernel_rfl) (by kernel_rfl) (by kernel_rfl) ?_ ?_ ?_ ?_
   ·intro i v x y h hg
    match i,h with
    | 0,h | 1,h | 2,h | 3,h | 4,h | 6,h | 7,h | 8,h=>exact h
    | 5,h=>exact OfS.gr h hg
    | m+9,_=>trivial
   ·simp only [actOf,tk1,tk0,dr1,dr0,Act.put,si1,st1,st0,Nat.reduceAdd]
    refine⟨?_,?_,?_,?_,?_,?_,?_,?_,?_,trivial⟩
    ·intro vs lo hi y hg hd hvia
     replace hg:Grew w8 y:=hg
     clear hvia
     dsimp only
     go_wp2_with fail
     first | exact⟨rfl,_,rfl,za _,rfl⟩ | exact⟨rfl,_,rfl,za _,rfl,trivial⟩
    ·intro vs lo hi y hg hd hvia
     replace hg:Grew w8 y:=hg
     clear hvia
     dsimp only
     go_wp2_with fail
     first | exact⟨rfl,_,rfl,za _,rfl⟩ | exact⟨rfl,_,rfl,za _,rfl,trivial⟩
    ·intro vs lo hi y hg hd hvia
     replace hg:Grew w8 y:=hg
     obtain⟨h0,h1,_⟩:=hd
     replace h0:=h0 rfl
     replace h1:=h1 rfl
     clear hvia
     dsimp only
     rw [show vs 0=_ from h0,show vs 1=_ from h1]
     go_wp2_with fail
     first | exact⟨rfl,_,rfl,za _,rfl⟩ | exact⟨rfl,_,rfl,za _,rfl,trivial⟩
    ·intro vs lo hi y hg hd hvia
     replace hg:Grew w8 y:=hg
     obtain⟨h2,_⟩:=hd
     replace h2:=h2 rfl
     clear hvia
     dsimp only
     rw [show vs 2=_ from h2]
     go_wp2_with fail
     first | exact⟨rfl,_,rfl,za _,rfl⟩ | exact⟨rfl,_,rfl,za _,rfl,trivial⟩
    ·intro vs lo hi y hg hd hvia
     replace hg:Grew w8 y:=hg
     have hx9:(zB9 3 .guard→vs 3=.bool false)∧True:=hd
     have h3:vs 3=.bool false:=hx9.1 rfl
     clear hx9 hd
     clear hvia
     dsimp only
     rw [show vs 3=_ from h3]
     have hm:=HC1.out y hg
     go_wp2_with(refine zj (by rfl) 106 (.tmp 9) rfl q9 0 rfl g1.toList _ hm hut rfl SL1.out ?_;simp only [zT9])
     first | exact⟨rfl,_,rfl,za _,rfl⟩ | exact⟨rfl,_,rfl,za _,rfl,trivial⟩
    ·intro vs lo hi y hg hd hvia
     replace hg:Grew w8 y:=hg
     have hx9:(zB9 4 .data→vs 4=.agg g1)∧(zB9 3 .chain→vs 3=.bool false)∧(zB9 3 .guard→vs 3=.bool false)∧True:=hd
     have h4:vs 4=.agg g1:=hx9.1 rfl
     have h3:vs 3=.bool false:=hx9.2.2.1 rfl
     clear hx9 hd
     clear hvia
     dsimp only
     rw [show vs 4=_ from h4,show vs 3=_ from h3]
     go_wp2_with(go_at_call 49;refine(COF.out y hg).mono ?_;rintro e z ⟨hof,⟨v9,rfl⟩,gz⟩)
     exact⟨rfl,_,rfl,gz,OfS.lo hof hg.size,trivial⟩
    ·intro vs lo hi y hg hd hvia
     replace hg:Grew w8 y:=hg
     have hx9:(zB9 3 .guard→vs 3=.bool false)∧True:=hd
     have h3:vs 3=.bool false:=hx9.1 rfl
     clear hx9 hd
     clear hvia
     dsimp only
     rw [show vs 3=_ from h3]
     have hm:=HC2.out y hg
     go_wp2_with(refine zj (by rfl) 111 (.tmp 11) rfl q11 0 rfl g2.toList _ hm hurs rfl SL2.out ?_;simp only [zT9])
     first | exact⟨rfl,_,rfl,za _,rfl⟩ | exact⟨rfl,_,rfl,za _,rfl,trivial⟩
    ·intro vs lo hi y hg hd hvia
     replace hg:Grew w8 y:=hg
     have hx9:(zB9 5 .data→(fun v W=>OfS M7 N7 w8.heap.size W v (fun B n E m=>.agg (sqC mc B LE.length n E LA.length m))) (vs 5) y)∧(zB9 6 .data→vs 6=.agg g2)∧(zB9 5 .chain→(fun v W=>OfS M7 N7 w8.heap.size W v (fun B n E m=>.agg (sqC mc B LE.length n E LA.length m))) (vs 5) y)∧(zB9 3 .guard→vs 3=.bool false)∧True:=hd
     have h5:(fun v W=>OfS M7 N7 w8.heap.size W v (fun B n E m=>.agg (sqC mc B LE.length n E LA.length m))) (vs 5) y:=hx9.1 rfl
     have h6:vs 6=.agg g2:=hx9.2.1 rfl
     have h3:vs 3=.bool false:=hx9.2.2.2.1 rfl
     clear hx9 hd
     clear hvia
     dsimp only
     rw [show vs 6=_ from h6,show vs 3=_ from h3]
     obtain⟨B9,k9,M9,D9,j9,N9,e9,⟨hmv9,hsp9,-,-⟩,⟨hmn9,han9,-,-⟩⟩:=OfS.out h5
     rw [e9]
     go_wp2_with(go_at_call 48;refine(CSC.out B9 k9 M9 D9 j9 N9 hmv9 hmn9 y hg hsp9 han9).mono ?_;rintro e z ⟨rfl,gz⟩)
     first | exact⟨rfl,_,rfl,gz,rfl⟩ | exact⟨rfl,_,rfl,gz,rfl,trivial⟩
    ·intro vs lo hi y hg hd hvia
     replace hg:Grew w8 y:=hg
     have hx9:(zB9 7 .data→vs 7=.bool true)∧(zB9 3 .guard→vs 3=.bool false)∧True:=hd
     have h7:vs 7=.bool true:=hx9.1 rfl
     have h3:vs 3=.bool false:=hx9.2.1 rfl
     clear hx9 hd
     clear hvia
     dsimp only
     rw [show vs 7=_ from h7,show vs 3=_ from h3]
     go_wp2_with fail
     first | exact⟨rfl,_,rfl,za _,rfl⟩ | exact⟨rfl,_,rfl,za _,rfl,trivial⟩
   ·intro i lo hi v x y h hg
    match i,h with
    | 5,_=>trivial
    | 0,_=>trivial
    | 1,_=>trivial
    | 2,_=>trivial
    | 3,_=>trivial
    | 4,_=>trivial
    | m+6,_=>trivial
   ·intro vs lo hi w9 hg hJ hK hB hD
    replace hg:Grew w8 w9:=hg
    have k66:=hK 5 (by decide)
    have b66:=hB 5 (by decide)
    clear hK hB hD
    have j0:vs 0=.int .i64 er:=hJ 0 (by decide)
    have j1:vs 1=.int .i64 er:=hJ 1 (by decide)
    have j2:vs 2=.bool false:=hJ 2 (by decide)
    have j3:vs 3=.bool false:=hJ 3 (by decide)
    have j4:vs 4=.agg g1:=hJ 4 (by decide)
    have j6:vs 6=.agg g2:=hJ 6 (by decide)
    have j7:vs 7=.bool true:=hJ 7 (by decide)
    have j8:vs 8=.bool false:=hJ 8 (by decide)
    have s66:=hJ 5 (by decide)
    clear hJ
    simp only [actOf,tk1,tk0,dr1,dr0,Act.put,si1,st1,st0,Nat.reduceAdd]
    rw [show vs 3=_ from j3,show vs 8=_ from j8]
    have HG89:=hQ9 hg
    have G59:=zb HG58.out hg
    have HG59:=hQ9 G59
    clear hg s66
    try clear b66
    try clear k66
    try clear j0
    try clear j1
    try clear j2
    try clear j3
    try clear j4
    try clear j6
    try clear j7
    try clear j8
    have hmB:=HM25.out w9 G59
    obtain⟨g3,hg3⟩:∃ g,sqC c CA LC.length ck A L.length cap=g:=⟨_,rfl⟩
    have HG3:=hQ9 hg3
    have HBU:Hid (Tryz.prog.built 111 [(0,.agg g0),(1,.slice A L.length cap)]=some g3):=hQ9 (by rw [←hg3,←HG0.out];kernel_rfl)
    obtain⟨wA,hwA,htA,gA,zA⟩:=yT w9 111 (zQ7:Array Value) g3 (by rw [←hg3];rfl)
    have HWA:=hQ9 hwA
    have HTA:=hQ9 htA
    have SI3:Hid (zI9 111=some g3.size):=hQ9 (by rw [←hg3];exact yk)
    have SL3:Hid (zI9 111=some g3.toList.length):=hQ9 (by rw [←hg3];exact yk)
    have HO3:Hid (g3.all (·.oneCell')=true):=hQ9 (by rw [←hg3];exact y7 _ _ _ _ _ _ _)
    clear hwA htA hg3
    go_upto_region 16 with (first
     | (with_reducible refine wpList_load_mid rfl 36 (.tmp 4) rfl (w.heap.size+1) 0 rfl g0.toList _ hmB hur rfl SIG0.out ?_;simp only [zT9])
     | (with_reducible refine zC rfl 111 #[(0,.tmp 71),(1,.tmp 72)] rfl g3 ?_ ?_;· simpa [Act.eval,Act.put]using HBU.out)
     | (with_reducible refine wpList_store_mid rfl 111 (.tmp 13) (.tmp 73) rfl w9.heap.size 0 g3 rfl rfl HTA.out SI3.out HO3.out ?_;rw [HWA.out];clear HWA HTA SI3 HO3;generalize w9.heap.size=q13 at *))
    clear hmB
    have G5A:=zb G59 gA
    have HG5A:=hQ9 G5A
    have HC3:Hid (∀ y,Grew wA y→y.rangeAt q13 0 g3.toList):=hQ9 (fun y g=>(zA.grew g).cell)
    have HK3:Hid (∀ y,Grew wA y→y.rangeAt qk 0 kc.toList):=hQ9 (fun y g=>HZK.out y (zb HG5A.out g))
    have HM3:Hid (∀ y,Grew wA y→y.rangeAt w.heap.size 0 K.C.toList):=hQ9 (fun y g=>HM15.out y (zb HG5A.out g))
    have HC13:Hid (∀ y,Grew wA y→y.rangeAt q9 0 g1.toList):=hQ9 (fun y g=>HC1.out y (zb HG89.out (zb gA g)))
    have HS7:Hid (∀ y,Grew wA y→Sps y B7 M7∧Aps y D7 N7):=hQ9 (fun y g=>HSP7.out y (zb HG89.out (zb gA g)))
    clear zA gA G59 G5A
    obtain⟨sv,hsv⟩:∃ v,sqR K c LC L=v:=⟨_,rfl⟩
    have HSV:=hQ9 hsv
    have CTS:Hid (∀ W,Grew wA W→Calls Tryz.prog 51 #[.agg g3] W fun e w'=>OfS LC L W.heap.size w' (match e with | .returned v=>v | _=>undef) (fun B n E m=>.agg (sqC c B LC.length n E L.length m))∧(∃ v,e=.returned v)∧Grew W w'):=hQ9 (fun W g=>by
     have:=zn3 c CA ck LC (by have:=HLC12.out;omega) A cap L (by have:=HL12.out;omega) W (HSPC.out.gr (zb HGW5.out (zb HG5A.out g))) (HSPA.out.gr (zb HGW5.out (zb HG5A.out g)))
     rw [HG3.out]at this
     exact this)
    have CV1:Hid (∀ B k M D j N,MvL LC M→MvA L N→∀ W,Grew wA W→Sps W B M→Aps W D N→Calls Tryz.prog 50 #[.agg kc,.agg (sqC c B LC.length k D L.length j)] W fun e w'=>e=.returned (.int .i64 sv)∧Grew W w'):=hQ9 (fun B k M D j N hm hn W g h1 h2=>by
     have:=zc2 c hK'.out B k M (by rw [hm.len];have:=HLC12.out;omega) D j N (by rw [hn.len];have:=HL12.out;omega) W (HSY.out W (zb HG5A.out g)) (HRK.out W (zb HG5A.out g)) h1 h2
     rw [hm.len,hn.len,zlo hm hn,show sqR (⟨K.f,K.R,RA,Rc,K.h⟩:KP) c LC L=sv from by rw [←HSV.out];unfold sqR;rw [mvE_K (K:=K) (K':=⟨K.f,K.R,RA,Rc,K.h⟩) rfl rfl rfl,cqA_K (K:=K) (K':=⟨K.f,K.R,RA,Rc,K.h⟩) rfl rfl rfl],show(⟨K.f,K.R,RA,Rc,K.h⟩:KP).C=kc from HKC.out]at this
     exact this)
    have CVR:Hid (∀ W,Grew wA W→Calls Tryz.prog 52 #[.agg K.C,.agg g3] W fun e w'=>e=.returned (.int .i64 sv)∧Grew W w'):=hQ9 (fun W g=>by
     have:=zfc c HK.out CA ck LC (by have:=HLC12.out;omega) A cap L (by have:=HL12.out;omega) W (HSY.out W (zb HG5A.out g)) (HKR.out.gr (zb HGW5.out (zb HG5A.out g))) (HSPC.out.gr (zb HGW5.out (zb HG5A.out g))) (HSPA.out.gr (zb HGW5.out (zb HG5A.out g)))
     rw [HG3.out,HSV.out]at this
     exact this)
    clear hsv
    by_cases her:er=0
    ·have CV2:Hid (∀ W,Grew wA W→Calls Tryz.prog 50 #[.agg kc,.agg g1] W fun e w'=>e=.returned (.int .i64 0)∧Grew W w'):=hQ9 (fun W g=>by
      have hs:=HS7.out W g
      have:=zc2 mc hK'.out B7 k7 M7 (by rw [HMV7.out.len];have:=HLEN.out.1;omega) D7 j7c N7 (by rw [HMN7.out.len];have:=HLEN.out.2;omega) W (HSY.out W (zb HG5A.out g)) (HRK.out W (zb HG5A.out g)) hs.1 hs.2
      rw [HMV7.out.len,HMN7.out.len,zlo HMV7.out HMN7.out,HG1.out,show sqR (⟨K.f,K.R,RA,Rc,K.h⟩:KP) mc LE LA=0 from by
       obtain⟨a1,a2,a3,a4,a5⟩:=zn5 (by rw [HGA.out];exact her)
       rw [HGA.out]at a1 a2 a3
       rw [show mc=c from a1,show LE=LC from a2,show LA=_ from a3]
       unfold sqR
       rw [mvE_K (K:=K) (K':=⟨K.f,K.R,RA,Rc,K.h⟩) rfl rfl rfl,if_pos a4,cqA_K (K:=K) (K':=⟨K.f,K.R,RA,Rc,K.h⟩) rfl rfl rfl]
       exact zlh a5,show(⟨K.f,K.R,RA,Rc,K.h⟩:KP).C=kc from HKC.out]at this
      exact this)
     subst her
     refine xD 18 (fun ix9=>match ix9 with
      | 0=>fun v _=>v=.agg kc
      | 1=>fun v _=>v=.agg g3
      | 2=>fun v W=>OfS LC L wA.heap.size W v (fun B n E m=>.agg (sqC c B LC.length n E L.length m))
      | 3=>fun v _=>v=.int .i64 sv
      | 4=>fun v _=>v=.agg K.C
      | 5=>fun v _=>v=.agg g3
      | 6=>fun v _=>v=.int .i64 sv
      | 7=>fun v _=>v=.bool true
      | 8=>fun v _=>v=.bool true
      | 9=>fun v _=>v=.int .i64 0
      | 10=>fun v _=>v=.bool false
      | 11=>fun v _=>v=.bool false
      | 12=>fun v _=>v=.agg kc
      | 13=>fun v _=>v=.agg g1
      | 14=>fun v _=>v=.int .i64 0
      | 15=>fun v _=>v=.bool true
      | 16=>fun v _=>v=.bool true
      | 17=>fun v _=>v=.bool true
      | _=>fun _ _=>True) (fun ix9=>match ix9 with
      | 2=>fun _ _ _ _=>True
      | _=>fun _ _ _ _=>True) (fun ix9=>match ix9 with
      | ix8=>ix8) (fun ix9=>match ix9 with
      | ix8=>ix8) (by kernel_rfl) (by kernel_rfl) (by kernel_rfl) ?_ ?_ ?_ ?_
     ·intro i v x y h hg
      match i,h with
      | 0,h | 1,h | 3,h | 4,h | 5,h | 6,h | 7,h | 8,h | 9,h | 10,h | 11,h | 12,h | 13,h | 14,h | 15,h | 16,h | 17,h=>exact h
      | 2,h=>exact OfS.gr h hg
      | m+18,_=>trivial
     ·simp only [actOf,tk1,tk0,dr1,dr0,Act.put,si1,st1,st0,Nat.reduceAdd]
      refine⟨?_,?_,?_,?_,?_,?_,?_,?_,?_,?_,?_,?_,?_,?_,?_,?_,?_,?_,trivial⟩
      ·intro vs lo hi y hg hd hvia
       replace hg:Grew wA y:=hg
       clear hvia
       dsimp only
       have hm:=HK3.out y hg
       go_wp2_with(with_reducible refine wpList_load_mid rfl 91 (.tmp 8) rfl qk 0 rfl kc.toList _ hm hukt rfl HSKL.out ?_;simp only [zT9])
       first | exact⟨rfl,_,rfl,za _,rfl⟩ | exact⟨rfl,_,rfl,za _,rfl,trivial⟩
      ·intro vs lo hi y hg hd hvia
       replace hg:Grew wA y:=hg
       clear hvia
       dsimp only
       have hm:=HC3.out y hg
       go_wp2_with(with_reducible refine wpList_load_mid rfl 111 (.tmp 13) rfl q13 0 rfl g3.toList _ hm hurs rfl SL3.out ?_;simp only [zT9])
       first | exact⟨rfl,_,rfl,za _,rfl⟩ | exact⟨rfl,_,rfl,za _,rfl,trivial⟩
      ·intro vs lo hi y hg hd hvia
       replace hg:Grew wA y:=hg
       obtain⟨h1,_⟩:=hd
       replace h1:=h1 rfl
       clear hvia
       dsimp only
       rw [show vs 1=_ from h1]
       go_wp2_with(go_at_call 51;refine(CTS.out y hg).mono ?_;rintro e z ⟨hof,⟨v9,rfl⟩,gz⟩)
       exact⟨rfl,_,rfl,gz,OfS.lo hof hg.size,trivial⟩
      ·intro vs lo hi y hg hd hvia
       replace hg:Grew wA y:=hg
       obtain⟨h0,h2,_⟩:=hd
       replace h0:=h0 rfl
       replace h2:=h2 rfl
       clear hvia
       dsimp only
       rw [show vs 0=_ from h0]
       obtain⟨B9,k9,M9,D9,j9,N9,e9,⟨hmv9,hsp9,-,-⟩,⟨hmn9,han9,-,-⟩⟩:=OfS.out h2
       rw [e9]
       go_wp2_with(go_at_call 50;refine(CV1.out B9 k9 M9 D9 j9 N9 hmv9 hmn9 y hg hsp9 han9).mono ?_;rintro e z ⟨rfl,gz⟩)
       first | exact⟨rfl,_,rfl,gz,rfl⟩ | exact⟨rfl,_,rfl,gz,rfl,trivial⟩
      ·intro vs lo hi y hg hd hvia
       replace hg:Grew wA y:=hg
       clear hvia
       dsimp only
       have hm:=HM3.out y hg
       go_wp2_with(with_reducible refine wpList_load_mid rfl 64 (.tmp 3) rfl w.heap.size 0 rfl K.C.toList _ hm huk rfl SIK.out ?_;simp only [zT9])
       first | exact⟨rfl,_,rfl,za _,rfl⟩ | exact⟨rfl,_,rfl,za _,rfl,trivial⟩
      ·intro vs lo hi y hg hd hvia
       replace hg:Grew wA y:=hg
       clear hvia
       dsimp only
       have hm:=HC3.out y hg
       go_wp2_with(with_reducible refine wpList_load_mid rfl 111 (.tmp 13) rfl q13 0 rfl g3.toList _ hm hurs rfl SL3.out ?_;simp only [zT9])
       first | exact⟨rfl,_,rfl,za _,rfl⟩ | exact⟨rfl,_,rfl,za _,rfl,trivial⟩
      ·intro vs lo hi y hg hd hvia
       replace hg:Grew wA y:=hg
       obtain⟨h4,h5,_⟩:=hd
       replace h4:=h4 rfl
       replace h5:=h5 rfl
       clear hvia
       dsimp only
       rw [show vs 4=_ from h4,show vs 5=_ from h5]
       go_wp2_with(go_at_call 52;refine(CVR.out y hg).mono ?_;rintro e z ⟨rfl,gz⟩)
       first | exact⟨rfl,_,rfl,gz,rfl⟩ | exact⟨rfl,_,rfl,gz,rfl,trivial⟩
      ·intro vs lo hi y hg hd hvia
       replace hg:Grew wA y:=hg
       obtain⟨h3,h6,_⟩:=hd
       replace h3:=h3 rfl
       replace h6:=h6 rfl
       clear hvia
       dsimp only
       rw [show vs 3=_ from h3,show vs 6=_ from h6]
       go_wp2_with fail
       first | exact⟨rfl,_,rfl,za _,by simp⟩ | exact⟨rfl,_,rfl,za _,by simp,trivial⟩
      ·intro vs lo hi y hg hd hvia
       replace hg:Grew wA y:=hg
       obtain⟨h7,_⟩:=hd
       replace h7:=h7 rfl
       clear hvia
       dsimp only
       rw [show vs 7=_ from h7]
       go_wp2_with fail
       first | exact⟨rfl,_,rfl,za _,rfl⟩ | exact⟨rfl,_,rfl,za _,rfl,trivial⟩
      ·intro vs lo hi y hg hd hvia
       replace hg:Grew wA y:=hg
       have hx9:(zB9 8 .guard→vs 8=.bool true)∧True:=hd
       have h8:vs 8=.bool true:=hx9.1 rfl
       clear hx9 hd
       clear hvia
       dsimp only
       rw [show vs 8=_ from h8]
       go_wp2_with fail
       first | exact⟨rfl,_,rfl,za _,rfl⟩ | exact⟨rfl,_,rfl,za _,rfl,trivial⟩
      ·intro vs lo hi y hg hd hvia
       replace hg:Grew wA y:=hg
       have hx9:(zB9 9 .data→vs 9=.int .i64 0)∧(zB9 8 .guard→vs 8=.bool true)∧True:=hd
       have h9:vs 9=.int .i64 0:=hx9.1 rfl
       have h8:vs 8=.bool true:=hx9.2.1 rfl
       clear hx9 hd
       clear hvia
       dsimp only
       rw [show vs 9=_ from h9,show vs 8=_ from h8]
       go_wp2_with fail
       first | exact⟨rfl,_,rfl,za _,rfl⟩ | exact⟨rfl,_,rfl,za _,rfl,trivial⟩
      ·intro vs lo hi y hg hd hvia
       replace hg:Grew wA y:=hg
       have hx9:(zB9 10 .data→vs 10=.bool false)∧(zB9 8 .chain→vs 8=.bool true)∧(zB9 8 .guard→vs 8=.bool true)∧True:=hd
       have h10:vs 10=.bool false:=hx9.1 rfl
       have h8:vs 8=.bool true:=hx9.2.2.1 rfl
       clear hx9 hd
       clear hvia
       dsimp only
       rw [show vs 10=_ from h10,show vs 8=_ from h8]
       go_wp2_with fail
       first | exact⟨rfl,_,rfl,za _,rfl⟩ | exact⟨rfl,_,rfl,za _,rfl,trivial⟩
      ·intro vs lo hi y hg hd hvia
       replace hg:Grew wA y:=hg
       have hx9:(zB9 11 .guard→vs 11=.bool false)∧True:=hd
       have h11:vs 11=.bool false:=hx9.1 rfl
       clear hx9 hd
       clear hvia
       dsimp only
       rw [show vs 11=_ from h11]
       have hm:=HK3.out y hg
       go_wp2_with(refine zj (by rfl) 91 (.tmp 8) rfl qk 0 rfl kc.toList _ hm hukt rfl HSKL.out ?_;simp only [zT9])
       first | exact⟨rfl,_,rfl,za _,rfl⟩ | exact⟨rfl,_,rfl,za _,rfl,trivial⟩
      ·intro vs lo hi y hg hd hvia
       replace hg:Grew wA y:=hg
       have hx9:(zB9 11 .guard→vs 11=.bool false)∧True:=hd
       have h11:vs 11=.bool false:=hx9.1 rfl
       clear hx9 hd
       clear hvia
       dsimp only
       rw [show vs 11=_ from h11]
       have hm:=HC13.out y hg
       go_wp2_with(refine zj (by rfl) 106 (.tmp 9) rfl q9 0 rfl g1.toList _ hm hut rfl SL1.out ?_;simp only [zT9])
       first | exact⟨rfl,_,rfl,za _,rfl⟩ | exact⟨rfl,_,rfl,za _,rfl,trivial⟩
      ·intro vs lo hi y hg hd hvia
       replace hg:Grew wA y:=hg
       have hx9:(zB9 12 .data→vs 12=.agg kc)∧(zB9 13 .data→vs 13=.agg g1)∧(zB9 11 .chain→vs 11=.bool false)∧(zB9 11 .guard→vs 11=.bool false)∧True:=hd
       have h12:vs 12=.agg kc:=hx9.1 rfl
       have h13:vs 13=.agg g1:=hx9.2.1 rfl
       have h11:vs 11=.bool false:=hx9.2.2.2.1 rfl
       clear hx9 hd
       clear hvia
       dsimp only
       rw [show vs 12=_ from h12,show vs 13=_ from h13,show vs 11=_ from h11]
       go_wp2_with(go_at_call 50;refine(CV2.out y hg).mono ?_;rintro e z ⟨rfl,gz⟩)
       first | exact⟨rfl,_,rfl,gz,rfl⟩ | exact⟨rfl,_,rfl,gz,rfl,trivial⟩
      ·intro vs lo hi y hg hd hvia
       replace hg:Grew wA y:=hg
       have hx9:(zB9 14 .data→vs 14=.int .i64 0)∧(zB9 11 .guard→vs 11=.bool false)∧True:=hd
       have h14:vs 14=.int .i64 0:=hx9.1 rfl
       have h11:vs 11=.bool false:=hx9.2.1 rfl
       clear hx9 hd
       clear hvia
       dsimp only
       rw [show vs 14=_ from h14,show vs 11=_ from h11]
       go_wp2_with fail
       first | exact⟨rfl,_,rfl,za _,rfl⟩ | exact⟨rfl,_,rfl,za _,rfl,trivial⟩
      ·intro vs lo hi y hg hd hvia
       replace hg:Grew wA y:=hg
       have hx9:(zB9 11 .data→vs 11=.bool false)∧(zB9 15 .data→vs 15=.bool true)∧(zB9 8 .guard→vs 8=.bool true)∧True:=hd
       have h11:vs 11=.bool false:=hx9.1 rfl
       have h15:vs 15=.bool true:=hx9.2.1 rfl
       have h8:vs 8=.bool true:=hx9.2.2.1 rfl
       clear hx9 hd
       clear hvia
       dsimp only
       rw [show vs 11=_ from h11,show vs 15=_ from h15,show vs 8=_ from h8]
       go_wp2_with fail
       first | exact⟨rfl,_,rfl,za _,rfl⟩ | exact⟨rfl,_,rfl,za _,rfl,trivial⟩
      ·intro vs lo hi y hg hd hvia
       replace hg:Grew wA y:=hg
       obtain⟨h8,h16,_⟩:=hd
       replace h8:=h8 rfl
       replace h16:=h16 rfl
       clear hvia
       dsimp only
       rw [show vs 8=_ from h8,show vs 16=_ from h16]
       go_wp2_with fail
       first | exact⟨rfl,_,rfl,za _,rfl⟩ | exact⟨rfl,_,rfl,za _,rfl,trivial⟩
     ·intro i lo hi v x y h hg
      match i,h with
      | 2,_=>trivial
      | 0,_=>trivial
      | 1,_=>trivial
      | m+3,_=>trivial
     ·intro vs lo hi wZ hg hJ hK hB hD
      replace hg:Grew wA wZ:=hg
      have k76:=hK 2 (by decide)
      have b76:=hB 2 (by decide)
      clear hK hB hD
      have j0:vs 0=.agg kc:=hJ 0 (by decide)
      have j1:vs 1=.agg g3:=hJ 1 (by decide)
      have j3:vs 3=.int .i64 sv:=hJ 3 (by decide)
      have j4:vs 4=.agg K.C:=hJ 4 (by decide)
      have j5:vs 5=.agg g3:=hJ 5 (by decide)
      have j6:vs 6=.int .i64 sv:=hJ 6 (by decide)
      have j7:vs 7=.bool true:=hJ 7 (by decide)
      have j8:vs 8=.bool true:=hJ 8 (by decide)
      have j9:vs 9=.int .i64 0:=hJ 9 (by decide)
      have j10:vs 10=.bool false:=hJ 10 (by decide)
      have j11:vs 11=.bool false:=hJ 11 (by decide)
      have j12:vs 12=.agg kc:=hJ 12 (by decide)
      have j13:vs 13=.agg g1:=hJ 13 (by decide)
      have j14:vs 14=.int .i64 0:=hJ 14 (by decide)
      have j15:vs 15=.bool true:=hJ 15 (by decide)
      have j16:vs 16=.bool true:=hJ 16 (by decide)
      have j17:vs 17=.bool true:=hJ 17 (by decide)
      have s76:=hJ 2 (by decide)
      clear hJ
      simp only [actOf,tk1,tk0,dr1,dr0,Act.put,si1,st1,st0,Nat.reduceAdd]
      rw [show vs 17=_ from j17]
      go_wp2_with fail
      go_ret
      exact⟨rfl,zb HGW5.out (zb HG5A.out hg)⟩
    ·skip
     refine xD 18 (fun ix9=>match ix9 with
      | 0=>fun v _=>v=.agg kc
      | 1=>fun v _=>v=.agg g3
      | 2=>fun v W=>OfS LC L wA.heap.size W v (fun B n E m=>.agg (sqC c B LC.length n E L.length m))
      | 3=>fun v _=>v=.int .i64 sv
      | 4=>fun v _=>v=.agg K.C
      | 5=>fun v _=>v=.agg g3
      | 6=>fun v _=>v=.int .i64 sv
      | 7=>fun v _=>v=.bool true
      | 8=>fun v _=>v=.bool true
      | 9=>fun v _=>v=.int .i64 er
      | 10=>fun v _=>v=.bool true
      | 11=>fun v _=>v=.bool true
      | 12=>fun _ _=>True
      | 13=>fun _ _=>True
      | 14=>fun _ _=>True
      | 15=>fun _ _=>True
      | 16=>fun v _=>v=.bool true
      | 17=>fun v _=>v=.bool true
      | _=>fun _ _=>True) (fun ix9=>match ix9 with
      | 2=>fun _ _ _ _=>True
      | 12=>fun _ _ _ _=>True
      | 13=>fun _ _ _ _=>True
      | 14=>fun _ _ _ _=>True
      | 15=>fun _ _ _ _=>True
      | _=>fun _ _ _ _=>True) (fun ix9=>match ix9 with
      | ix8=>ix8) (fun ix9=>match ix9 with
      | ix8=>ix8) (by kernel_rfl) (by kernel_rfl) (by kernel_rfl) ?_ ?_ ?_ ?_
     ·intro i v x y h hg
      match i,h with
      | 0,h | 1,h | 3,h | 4,h | 5,h | 6,h | 7,h | 8,h | 9,h | 10,h | 11,h | 16,h | 17,h=>exact h
      | 2,h=>exact OfS.gr h hg
      | 12,_=>trivial
      | 13,_=>trivial
      | 14,_=>trivial
      | 15,_=>trivial
      | m+18,_=>trivial
     ·simp only [actOf,tk1,tk0,dr1,dr0,Act.put,si1,st1,st0,Nat.reduceAdd]
      refine⟨?_,?_,?_,?_,?_,?_,?_,?_,?_,?_,?_,?_,?_,?_,?_,?_,?_,?_,trivial⟩
      ·intro vs lo hi y hg hd hvia
       replace hg:Grew wA y:=hg
       clear hvia
       dsimp only
       have hm:=HK3.out y hg
       go_wp2_with(with_reducible refine wpList_load_mid rfl 91 (.tmp 8) rfl qk 0 rfl kc.toList _ hm hukt rfl HSKL.out ?_;simp only [zT9])
       first | exact⟨rfl,_,rfl,za _,rfl⟩ | exact⟨rfl,_,rfl,za _,rfl,trivial⟩
      ·intro vs lo hi y hg hd hvia
       replace hg:Grew wA y:=hg
       clear hvia
       dsimp only
       have hm:=HC3.out y hg
       go_wp2_with(with_reducible refine wpList_load_mid rfl 111 (.tmp 13) rfl q13 0 rfl g3.toList _ hm hurs rfl SL3.out ?_;simp only [zT9])
       first | exact⟨rfl,_,rfl,za _,rfl⟩ | exact⟨rfl,_,rfl,za _,rfl,trivial⟩
      ·intro vs lo hi y hg hd hvia
       replace hg:Grew wA y:=hg
       obtain⟨h1,_⟩:=hd
       replace h1:=h1 rfl
       clear hvia
       dsimp only
       rw [show vs 1=_ from h1]
       go_wp2_with(go_at_call 51;refine(CTS.out y hg).mono ?_;rintro e z ⟨hof,⟨v9,rfl⟩,gz⟩)
       exact⟨rfl,_,rfl,gz,OfS.lo hof hg.size,trivial⟩
      ·intro vs lo hi y hg hd hvia
       replace hg:Grew wA y:=hg
       obtain⟨h0,h2,_⟩:=hd
       replace h0:=h0 rfl
       replace h2:=h2 rfl
       clear hvia
       dsimp only
       rw [show vs 0=_ from h0]
       obtain⟨B9,k9,M9,D9,j9,N9,e9,⟨hmv9,hsp9,-,-⟩,⟨hmn9,han9,-,-⟩⟩:=OfS.out h2
       rw [e9]
       go_wp2_with(go_at_call 50;refine(CV1.out B9 k9 M9 D9 j9 N9 hmv9 hmn9 y hg hsp9 han9).mono ?_;rintro e z ⟨rfl,gz⟩)
       first | exact⟨rfl,_,rfl,gz,rfl⟩ | exact⟨rfl,_,rfl,gz,rfl,trivial⟩
      ·intro vs lo hi y hg hd hvia
       replace hg:Grew wA y:=hg
       clear hvia
       dsimp only
       have hm:=HM3.out y hg
       go_wp2_with(with_reducible refine wpList_load_mid rfl 64 (.tmp 3) rfl w.heap.size 0 rfl K.C.toList _ hm huk rfl SIK.out ?_;simp only [zT9])
       first | exact⟨rfl,_,rfl,za _,rfl⟩ | exact⟨rfl,_,rfl,za _,rfl,trivial⟩
      ·intro vs lo hi y hg hd hvia
       replace hg:Grew wA y:=hg
       clear hvia
       dsimp only
       have hm:=HC3.out y hg
       go_wp2_with(with_reducible refine wpList_load_mid rfl 111 (.tmp 13) rfl q13 0 rfl g3.toList _ hm hurs rfl SL3.out ?_;simp only [zT9])
       first | exact⟨rfl,_,rfl,za _,rfl⟩ | exact⟨rfl,_,rfl,za _,rfl,trivial⟩
      ·intro vs lo hi y hg hd hvia
       replace hg:Grew wA y:=hg
       obtain⟨h4,h5,_⟩:=hd
       replace h4:=h4 rfl
       replace h5:=h5 rfl
       clear hvia
       dsimp only
       rw [show vs 4=_ from h4,show vs 5=_ from h5]
       go_wp2_with(go_at_call 52;refine(CVR.out y hg).mono ?_;rintro e z ⟨rfl,gz⟩)
       first | exact⟨rfl,_,rfl,gz,rfl⟩ | exact⟨rfl,_,rfl,gz,rfl,trivial⟩
      ·intro vs lo hi y hg hd hvia
       replace hg:Grew wA y:=hg
       obtain⟨h3,h6,_⟩:=hd
       replace h3:=h3 rfl
       replace h6:=h6 rfl
       clear hvia
       dsimp only
       rw [show vs 3=_ from h3,show vs 6=_ from h6]
       go_wp2_with fail
       first | exact⟨rfl,_,rfl,za _,by simp⟩ | exact⟨rfl,_,rfl,za _,by simp,trivial⟩
      ·intro vs lo hi y hg hd hvia
       replace hg:Grew wA y:=hg
       obtain⟨h7,_⟩:=hd
       replace h7:=h7 rfl
       clear hvia
       dsimp only
       rw [show vs 7=_ from h7]
       go_wp2_with fail
       first | exact⟨rfl,_,rfl,za _,rfl⟩ | exact⟨rfl,_,rfl,za _,rfl,trivial⟩
      ·intro vs lo hi y hg hd hvia
       replace hg:Grew wA y:=hg
       have hx9:(zB9 8 .guard→vs 8=.bool true)∧True:=hd
       have h8:vs 8=.bool true:=hx9.1 rfl
       clear hx9 hd
       clear hvia
       dsimp only
       rw [show vs 8=_ from h8]
       go_wp2_with fail
       first | exact⟨rfl,_,rfl,za _,rfl⟩ | exact⟨rfl,_,rfl,za _,rfl,trivial⟩
      ·intro vs lo hi y hg hd hvia
       replace hg:Grew wA y:=hg
       have hx9:(zB9 9 .data→vs 9=.int .i64 er)∧(zB9 8 .guard→vs 8=.bool true)∧True:=hd
       have h9:vs 9=.int .i64 er:=hx9.1 rfl
       have h8:vs 8=.bool true:=hx9.2.1 rfl
       clear hx9 hd
       clear hvia
       dsimp only
       rw [show vs 9=_ from h9,show vs 8=_ from h8]
       go_wp2_with fail
       first | exact⟨rfl,_,rfl,za _,by simpa using her⟩ | exact⟨rfl,_,rfl,za _,by simpa using her,trivial⟩
      ·intro vs lo hi y hg hd hvia
       replace hg:Grew wA y:=hg
       have hx9:(zB9 10 .data→vs 10=.bool true)∧(zB9 8 .chain→vs 8=.bool true)∧(zB9 8 .guard→vs 8=.bool true)∧True:=hd
       have h10:vs 10=.bool true:=hx9.1 rfl
       have h8:vs 8=.bool true:=hx9.2.2.1 rfl
       clear hx9 hd
       clear hvia
       dsimp only
       rw [show vs 10=_ from h10,show vs 8=_ from h8]
       go_wp2_with fail
       first | exact⟨rfl,_,rfl,za _,rfl⟩ | exact⟨rfl,_,rfl,za _,rfl,trivial⟩
      ·intro vs lo hi y hg hd hvia
       replace hg:Grew wA y:=hg
       have hx9:(zB9 11 .guard→vs 11=.bool true)∧True:=hd
       have h11:vs 11=.bool true:=hx9.1 rfl
       clear hx9 hd
       clear hvia
       dsimp only
       rw [show vs 11=_ from h11]
       go_wp2_with fail
       first | exact⟨rfl,_,rfl,za _,trivial,trivial⟩ | exact⟨rfl,_,rfl,za _,trivial⟩ | exact⟨rfl,_,rfl,za _⟩
      ·intro vs lo hi y hg hd hvia
       replace hg:Grew wA y:=hg
       have hx9:(zB9 11 .guard→vs 11=.bool true)∧True:=hd
       have h11:vs 11=.bool true:=hx9.1 rfl
       clear hx9 hd
       clear hvia
       dsimp only
       rw [show vs 11=_ from h11]
       go_wp2_with fail
       first | exact⟨rfl,_,rfl,za _,trivial,trivial⟩ | exact⟨rfl,_,rfl,za _,trivial⟩ | exact⟨rfl,_,rfl,za _⟩
      ·intro vs lo hi y hg hd hvia
       replace hg:Grew wA y:=hg
       have hx9:(zB9 12 .data→(fun _ _=>True) (vs 12) y)∧(zB9 13 .data→(fun _ _=>True) (vs 13) y)∧(zB9 11 .chain→vs 11=.bool true)∧(zB9 11 .guard→vs 11=.bool true)∧True:=hd
       have h12:(fun _ _=>True) (vs 12) y:=hx9.1 rfl
       have h13:(fun _ _=>True) (vs 13) y:=hx9.2.1 rfl
       have h11:vs 11=.bool true:=hx9.2.2.2.1 rfl
       clear hx9 hd
       clear hvia
       dsimp only
       rw [show vs 11=_ from h11]
       go_wp2_with fail
       first | exact⟨rfl,_,rfl,za _,trivial,trivial⟩ | exact⟨rfl,_,rfl,za _,trivial⟩ | exact⟨rfl,_,rfl,za _⟩
      ·intro vs lo hi y hg hd hvia
       replace hg:Grew wA y:=hg
       have hx9:(zB9 14 .data→(fun _ _=>True) (vs 14) y)∧(zB9 11 .guard→vs 11=.bool true)∧True:=hd
       have h14:(fun _ _=>True) (vs 14) y:=hx9.1 rfl
       have h11:vs 11=.bool true:=hx9.2.1 rfl
       clear hx9 hd
       clear hvia
       dsimp only
       rw [show vs 11=_ from h11]
       go_wp2_with fail
       first | exact⟨rfl,_,rfl,za _,trivial,trivial⟩ | exact⟨rfl,_,rfl,za _,trivial⟩ | exact⟨rfl,_,rfl,za _⟩
      ·intro vs lo hi y hg hd hvia
       replace hg:Grew wA y:=hg
       have hx9:(zB9 11 .data→vs 11=.bool true)∧(zB9 15 .data→(fun _ _=>True) (vs 15) y)∧(zB9 8 .guard→vs 8=.bool true)∧True:=hd
       have h11:vs 11=.bool true:=hx9.1 rfl
       have h15:(fun _ _=>True) (vs 15) y:=hx9.2.1 rfl
       have h8:vs 8=.bool true:=hx9.2.2.1 rfl
       clear hx9 hd
       clear hvia
       dsimp only
       rw [show vs 11=_ from h11,show vs 8=_ from h8]
       go_wp2_with fail
       first | exact⟨rfl,_,rfl,za _,rfl⟩ | exact⟨rfl,_,rfl,za _,rfl,trivial⟩
      ·intro vs lo hi y hg hd hvia
       replace hg:Grew wA y:=hg
       obtain⟨h8,h16,_⟩:=hd
       replace h8:=h8 rfl
       replace h16:=h16 rfl
       clear hvia
       dsimp only
       rw [show vs 8=_ from h8,show vs 16=_ from h16]
       go_wp2_with fail
       first | exact⟨rfl,_,rfl,za _,rfl⟩ | exact⟨rfl,_,rfl,za _,rfl,trivial⟩
     ·intro i lo hi v x y h hg
      match i,h with
      | 2,_=>trivial
      | 12,_=>trivial
      | 13,_=>trivial
      | 14,_=>trivial
      | 15,_=>trivial
      | 0,_=>trivial
      | 1,_=>trivial
      | 3,_=>trivial
      | 4,_=>trivial
      | 5,_=>trivial
      | 6,_=>trivial
      | 7,_=>trivial
      | 8,_=>trivial
      | 9,_=>trivial
      | 10,_=>trivial
      | 11,_=>trivial
      | m+16,_=>trivial
     ·intro vs lo hi wZ hg hJ hK hB hD
      replace hg:Grew wA wZ:=hg
      have k76:=hK 2 (by decide)
      have b76:=hB 2 (by decide)
      have k86:=hK 12 (by decide)
      have b86:=hB 12 (by decide)
      have k87:=hK 13 (by decide)
      have b87:=hB 13 (by decide)
      have k88:=hK 14 (by decide)
      have b88:=hB 14 (by decide)
      have k89:=hK 15 (by decide)
      have b89:=hB 15 (by decide)
      have d76_86:=hD 2 (by decide) 12 (by decide) (by decide)
      have d76_87:=hD 2 (by decide) 13 (by decide) (by decide)
      have d76_88:=hD 2 (by decide) 14 (by decide) (by decide)
      have d76_89:=hD 2 (by decide) 15 (by decide) (by decide)
      have d86_87:=hD 12 (by decide) 13 (by decide) (by decide)
      have d86_88:=hD 12 (by decide) 14 (by decide) (by decide)
      have d86_89:=hD 12 (by decide) 15 (by decide) (by decide)
      have d87_88:=hD 13 (by decide) 14 (by decide) (by decide)
      have d87_89:=hD 13 (by decide) 15 (by decide) (by decide)
      have d88_89:=hD 14 (by decide) 15 (by decide) (by decide)
      clear hK hB hD
      have j0:vs 0=.agg kc:=hJ 0 (by decide)
      have j1:vs 1=.agg g3:=hJ 1 (by decide)
      have j3:vs 3=.int .i64 sv:=hJ 3 (by decide)
      have j4:vs 4=.agg K.C:=hJ 4 (by decide)
      have j5:vs 5=.agg g3:=hJ 5 (by decide)
      have j6:vs 6=.int .i64 sv:=hJ 6 (by decide)
      have j7:vs 7=.bool true:=hJ 7 (by decide)
      have j8:vs 8=.bool true:=hJ 8 (by decide)
      have j9:vs 9=.int .i64 er:=hJ 9 (by decide)
      have j10:vs 10=.bool true:=hJ 10 (by decide)
      have j11:vs 11=.bool true:=hJ 11 (by decide)
      have j16:vs 16=.bool true:=hJ 16 (by decide)
      have j17:vs 17=.bool true:=hJ 17 (by decide)
      have s76:=hJ 2 (by decide)
      have s86:=hJ 12 (by decide)
      have s87:=hJ 13 (by decide)
      have s88:=hJ 14 (by decide)
      have s89:=hJ 15 (by decide)
      clear hJ
      simp only [actOf,tk1,tk0,dr1,dr0,Act.put,si1,st1,st0,Nat.reduceAdd]
      rw [show vs 17=_ from j17]
      go_wp2_with fail
      go_ret
      exact⟨rfl,zb HGW5.out (zb HG5A.out hg)⟩
end Go.Proofs.YtkpnheenacchhaaGreatDoor
