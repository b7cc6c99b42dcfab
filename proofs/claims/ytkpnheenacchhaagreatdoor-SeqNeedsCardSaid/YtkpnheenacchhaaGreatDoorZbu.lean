/- SeqNeeds: the law (mksq.py). -/
import Derived.Test.YtkpnheenacchhaaGreatDoorZzz
import Derived.Test.YtkpnheenacchhaaGreatDoorZbt
set_option maxHeartbeats 8000000
set_option maxRecDepth 100000
set_option linter.unusedSimpArgs false
set_option linter.unusedVariables false
namespace Go.Proofs.YtkpnheenacchhaaGreatDoor
open Go.RowKit
theorem zco (seed:Int) (hsd:U64 seed) (Aa:Option Addr) (ca:Nat) (l:List Int) (hla:l.length≤ca) (hpa:∀ x∈l,0≤x∧x≤255)
 (w:World) (hS:Std w) (hra:Rd w w.heap.size Aa (l.map (Value.int .u8))) :
 Calls Tryz.prog 8 #[.int .u64 seed,.slice Aa l.length ca] w fun e w'=>e=.returned (.bool true)∧Grew w w':=by
 have CK:=hQ9 (kn14 w hS)
 have HS:=hQ9 hS
 have CE0:=hQ9 (fun W=>zd8 seed hsd 4 (by omega) W)
 have hkt:=Tryz.underlying91
 have hct:=Tryz.underlying43
 have hut:=Tryz.underlying79
 have huq:=Tryz.underlying106
 clear hS
 by_cases hl12:12<l.length
 ·have ea:decide ((12:Int)<(l.length:Int))=true:=decide_eq_true (by omega)
  clear hra hpa hl12
  go_enter Tryz.func8,Tryz.ntmps8
  go_wp2_with fail
  refine CK.out.mono ?_
  rintro e w0 ⟨rfl,G0⟩
  clear CK
  go_wp2_with fail
  go_ret
  exact⟨rfl,G0⟩
 have ea:decide ((12:Int)<(l.length:Int))=false:=decide_eq_false (by omega)
 have HL12:Hid (l.length≤12):=hQ9 (by omega)
 have HRA:=hQ9 hra
 have HPA:=hQ9 hpa
 clear hra hpa hl12
 go_enter Tryz.func8,Tryz.ntmps8
 go_wp2_with fail
 refine CK.out.mono ?_
 rintro e w0 ⟨rfl,G0⟩
 clear CK
 have CE:=CE0.out w0
 rw [show((4:Nat):Int)=4 from rfl]at CE
 clear CE0
 go_wp2_with fail
 refine CE.mono ?_
 clear CE
 rintro e w1 ⟨LA,Lc,RA,Rc,p,rfl,KS,rL,rR,FL0,FR0,gk⟩
 have G1:=zb G0 gk
 obtain⟨lad,hLA,-,-⟩:=rL 0 (by simp [ptrL])
 subst hLA
 obtain⟨kc,hkc⟩:∃ v,kyS 1 RA 4 Rc 4=v:=⟨_,rfl⟩
 have HSK:Hid ((Tryz.prog.info? 91).map (·.size)=some (kyS 1 RA 4 Rc 4).size):=hQ9 (by kernel_rfl)
 have HSKL:Hid ((Tryz.prog.info? 91).map (·.size)=some (kyS 1 RA 4 Rc 4).toList.length):=hQ9 (by kernel_rfl)
 have HOK:Hid ((kyS 1 RA 4 Rc 4).all (·.oneCell')=true):=hQ9 (by simp [kyS,Value.oneCell'])
 have HKC:Hid ((kpH seed 4 RA Rc).C=kyS 1 RA 4 Rc 4):=hQ9 (by show kyS 1 RA (rtL seed 4 4).length Rc ((4:Nat):Int)=_;rw [yM];rfl)
 have HKCS:=hQ9 hkc
 obtain⟨w2,hw2,ht2,g2,z2⟩:=yF w1 91 (#[.int .i64 0,.slice none 0 0,.int .i64 0]) (kyS 1 RA 4 Rc 4) rfl
 have HW2:=hQ9 hw2
 have HTK:=hQ9 ht2
 have HP:Hid (∀ i,i<4→w.heap.size≤p i+1∧p i+1<w1.heap.size):=hQ9 (fun i hi=>⟨by have:=KS.low i hi;have:=G0.size;omega,(KS.key i hi).key.lt⟩)
 have HAP:=hQ9 KS.apart
 have KS2:=KS.grew g2
 have rL2:=rL.gr g2
 have rR2:=rR.gr g2
 have G2:=zb G1 g2
 have HLD:Hid (∀ i,i<4→w2.cell? (lad.add i)=some (.pointer (some ⟨p i+1,0,none⟩))):=hQ9 (fun i hi=>by
  obtain⟨ad,e,_,hc⟩:=rL2 i (by simp [ptrL];exact hi)
  cases e
  rw [hc];simp [ptrL])
 have HQK:Hid (w1.heap.size<w2.heap.size):=hQ9 z2.lt
 have FL:Hid (∀ i,i<4→lad.block≠p i+1):=hQ9 (fun i hi=>(FL0 lad rfl i hi).2)
 have FR:Hid (∀ i,i<4→∀ ad,RA=some ad→ad.block≠p i+1):=hQ9 (fun i hi ad e=>(FR0 ad e i hi).2)
 have HKS:Hid (keysG seed p (fun _=>0) w2):=hQ9 (fun i hi=>KS2.key i hi)
 rw [hkc]at z2 HSK HSKL HOK HTK HW2 HKC ⊢
 clear hw2 ht2 g2 KS KS2 rL rL2 rR G1 hkc FL0 FR0 gk G0
 obtain⟨D,hD⟩:∃ v,dgC (cm12 0)=v:=⟨_,rfl⟩
 have HDG:=hQ9 hD
 obtain⟨LE,hLE⟩:∃ E,[spG seed 4 0 D 5 0 none 0,spG seed 4 0 D 5 1 none 0,spG seed 4 0 D 5 2 none 0]=E:=⟨_,rfl⟩
 have HLE3:Hid (LE.length=3):=hQ9 (by rw [←hLE];rfl)
 have HMVE:Hid (mvE (kpH seed 4 RA Rc) (cm12 0) LE=0):=hQ9 (by rw [←hLE];exact mvG seed 4 0 (by omega) (by decide) D 5 (by omega) RA Rc (ok12 0 (by omega)) hD none none none 0 0 0)
 have HLE:=hQ9 hLE
 clear hD hLE
 have CC:=hQ9 (fun W=>zhs 0 W)
 have CM:Hid (∀ y,Grew w2 y→Calls Tryz.prog 54 #[.slice (some lad) 4 Lc,.agg kc,.agg (cm12 0).cells,.int .i64 5] y fun e w'=>CgY seed p LE w' w2.heap.size y.heap.size w'.heap.size (match e with | .returned v=>v | _=>undef)∧(∃ v,e=.returned v)∧Kp (fun j=>∃ i,i<4∧j=p i+1) y w'):=hQ9 (fun y g=>by
  have h:=jB seed 4 0 (hQ9 (by omega)) (hQ9 (by decide)) 0 5 (hQ9 (by omega)) (hQ9 (by omega)) D HDG w HS.out p lad Lc RA Rc y (zb G2 g) (fun i hi=>(HKS.out i hi).grew g) HAP.out (fun i hi=>(HP.out i hi).1) (fun i hi=>(g.cell (p:=lad.add i) (zO (HLD.out i hi))).trans (HLD.out i hi)) FL.out FR.out (rR2.gr g)
  rw [show((4:Nat):Int)=4 from rfl,HKCS.out,HLE.out]at h
  refine h.mono ?_
  rintro e w' ⟨⟨B,k,M,rfl,hmv,hsp,hb,hm⟩,hk,hy⟩
  obtain⟨q,hq,hql,-⟩:=hsp.get 0 (by rw [hmv.len,HLE3.out];decide)
  exact⟨⟨⟨B,k,M,rfl,hmv,hsp,g.size,fun ad e=>⟨hb ad e,by rw [hq]at e;cases e;exact hql⟩,fun S hS ad e=>by
   rcases hm S hS ad e with h1 | h1
   ·exact .inl h1
   ·exact(at_lt (hsp.at_ S hS) ad e).imp id (fun h2=>⟨h1,h2⟩)⟩,hy⟩,⟨_,rfl⟩,hk⟩)
 have HQB:Hid (∀ i,i<4→p i+1<w1.heap.size):=hQ9 (fun i hi=>(HP.out i hi).2)
 go_upto_region 8 with (with_reducible refine wpList_store_mid rfl 91 (.tmp 6) (.tmp 27) rfl w1.heap.size 0 kc rfl rfl HTK.out HSK.out HOK.out ?_;rw [HW2.out];clear HW2 HTK;generalize w1.heap.size=qk at *)
 have HSB:Hid (∀ g,(fun j=>∃ i,i<4∧j=p i+1) g→g<w2.heap.size):=hQ9 (fun g ⟨i,hi,h⟩=>by have:=HQB.out i hi;have:=HQK.out;omega)
 have HKM:Hid (∀ y,Kp (fun j=>∃ i,i<4∧j=p i+1) w2 y→y.rangeAt qk 0 kc.toList):=hQ9 (fun y k=>(z2.kp k (fun⟨i,hi,h⟩=>by have:=HQB.out i hi;omega)).cell)
 refine yf 8 9 3 (fun j=>∃ i,i<4∧j=p i+1) (fun ix9=>match ix9 with
  | 0=>fun v=>v=.slice (some lad) 4 Lc
  | 1=>fun v=>v=.agg kc
  | 2=>fun v=>v=.agg (cm12 0).cells
  | 3=>fun _=>True
  | 4=>fun v=>∃ A c,v=.tuple #[.agg (ctC (cm12 0) A 3 c),.bool true]
  | 5=>fun _=>True
  | 6=>fun v=>v=.bool true
  | 7=>fun _=>True
  | 8=>fun _=>True
  | _=>fun _=>True) (fun ix9=>match ix9 with
  | 3=>fun lo hi v w=>CgY seed p LE w w2.heap.size lo hi v
  | 4=>fun lo hi v w=>CtS w w2.heap.size LE lo hi v (fun A c=>.tuple #[.agg (ctC (cm12 0) A 3 c),.bool true])
  | 5=>fun lo hi v w=>CtS w w2.heap.size LE lo hi v (fun A c=>.agg (ctC (cm12 0) A 3 c))
  | 7=>fun lo hi v w=>AgZ w w2.heap.size lo hi (zS6:Array Value).toList v
  | _=>fun _ _ _ _=>True) (fun ix9=>match ix9 with
  | 4=>3
  | 5=>4
  | ix8=>ix8) (fun ix9=>match ix9 with
  | 4=>3
  | 5=>3
  | ix8=>ix8) (fun ix9=>match ix9 with
  | 6=>true
  | _=>false) 7 (fun v W=>CgF seed p LE w2 v W) rfl (by kernel_rfl) (by kernel_rfl) (by kernel_rfl) (by kernel_rfl) rfl rfl (by decide) (fun _=>trivial) ?_ ?_ ?_ ?_ ?_ (fun o ho=>by cases ho;rfl) (fun v x y h hg=>CgF.gr h hg) ?_
 ·simp only [actOf,tk1,tk0,dr1,dr0,Act.put,si1,st1,st0,Nat.reduceAdd]
  refine⟨?_,?_,?_,?_,?_,?_,?_,?_,trivial⟩
  ·intro vs lo hi y hg hd hvia
   replace hg:Kp (fun j=>∃ i,i<4∧j=p i+1) w2 y:=hg
   clear hvia
   dsimp only
   go_wp2_with fail
   first | exact⟨rfl,_,rfl,za _,rfl⟩ | exact⟨rfl,_,rfl,za _,rfl,trivial⟩
  ·intro vs lo hi y hg hd hvia
   replace hg:Kp (fun j=>∃ i,i<4∧j=p i+1) w2 y:=hg
   clear hvia
   dsimp only
   have hm:=HKM.out y hg
   go_wp2_with(with_reducible refine wpList_load_mid rfl 91 (.tmp 6) rfl qk 0 rfl kc.toList _ hm hkt rfl HSKL.out ?_;simp only [Array.toArray_toList])
   first | exact⟨rfl,_,rfl,za _,rfl⟩ | exact⟨rfl,_,rfl,za _,rfl,trivial⟩
  ·intro vs lo hi y hg hd hvia
   replace hg:Kp (fun j=>∃ i,i<4∧j=p i+1) w2 y:=hg
   clear hvia
   dsimp only
   go_wp2_with(go_at_call 55;refine(CC.out y).mono ?_;rintro e z ⟨rfl,gz⟩)
   exact⟨rfl,_,rfl,gz,rfl,trivial⟩
  ·intro vs lo hi y hg hd hvia
   replace hg:Grew w2 y:=hg
   obtain⟨h0,h1,h2,_⟩:=hd
   replace h0:=h0 rfl
   replace h1:=h1 rfl
   replace h2:=h2 rfl
   clear hvia
   dsimp only
   rw [show vs 0=_ from h0,show vs 1=_ from h1,show vs 2=_ from h2]
   go_wp2_with(go_at_call 54;refine(CM.out y hg).mono ?_;rintro e z ⟨hce,⟨v9,rfl⟩,hk9⟩)
   exact⟨rfl,_,rfl,hk9,trivial,hce⟩
  ·intro vs lo hi y hg hd hvia
   replace hg:Kp (fun j=>∃ i,i<4∧j=p i+1) w2 y:=hg
   obtain⟨h3,_⟩:=hd
   replace h3:=h3 rfl
   have hv9:(fun lo hi v w=>CgY seed p LE w w2.heap.size lo hi v) (lo 3) (hi 3) (vs 3) y:=hvia rfl
   clear hvia
   dsimp only
   obtain⟨A9,c9,M9,e9,hr9⟩:=CtS.out (CgY.sk hv9)
   rw [e9]
   go_wp2_with fail
   exact⟨rfl,_,rfl,za _,⟨A9,⟨c9,rfl⟩⟩,⟨A9,c9,M9,rfl,hr9⟩⟩
  ·intro vs lo hi y hg hd hvia
   replace hg:Kp (fun j=>∃ i,i<4∧j=p i+1) w2 y:=hg
   obtain⟨h4,_⟩:=hd
   replace h4:=h4 rfl
   have hv9:(fun lo hi v w=>CtS w w2.heap.size LE lo hi v (fun A c=>.tuple #[.agg (ctC (cm12 0) A 3 c),.bool true])) (lo 4) (hi 4) (vs 4) y:=hvia rfl
   clear hvia
   dsimp only
   obtain⟨A9,c9,M9,e9,hr9⟩:=CtS.out hv9
   rw [e9]
   go_wp2_with fail
   exact⟨rfl,_,rfl,za _,⟨A9,c9,M9,rfl,hr9⟩⟩
  ·intro vs lo hi y hg hd hvia
   replace hg:Kp (fun j=>∃ i,i<4∧j=p i+1) w2 y:=hg
   obtain⟨h4,_⟩:=hd
   replace h4:=h4 rfl
   clear hvia
   dsimp only
   obtain⟨A9,c9,e9⟩:=h4
   rw [e9]
   go_wp2_with fail
   first | exact⟨rfl,_,rfl,za _,rfl⟩ | exact⟨rfl,_,rfl,za _,rfl,trivial⟩
  ·intro vs lo hi y hg hd hvia
   replace hg:Kp (fun j=>∃ i,i<4∧j=p i+1) w2 y:=hg
   clear hvia
   dsimp only
   go_wp2_with fail
   exact⟨rfl,_,rfl,ze (za _) _,⟨y.heap.size,rfl,Ag.new y 43 (#[.int .i64 0,.int .i64 0,.int .i64 0,.int .i64 0,.int .i64 0,.slice none 0 0]:Array Value),hg.size,Nat.le_refl _,by show y.heap.size<(y.alloc _).heap.size;simp⟩⟩
 ·refine⟨(fun h=>absurd h (by decide)),(fun h=>absurd h (by decide)),(fun h=>absurd h (by decide)),(fun h=>absurd h (by decide)),(fun h=>absurd h (by decide)),(fun h=>absurd h (by decide)),?_,(fun h=>absurd h (by decide)),(fun h=>absurd h (by decide)),trivial⟩
  ·intro _ vs y hd
   obtain⟨h4,_⟩:=hd
   replace h4:=h4 rfl
   simp only [actOf,tk1,tk0,dr1,dr0,Act.put,si1,st1,st0,Nat.reduceAdd]
   obtain⟨A9,c9,e9⟩:=h4
   rw [e9]
   go_wp2_with fail
   first | exact⟨rfl,_,rfl,za _,rfl⟩ | exact⟨rfl,_,rfl,za _,rfl,trivial⟩
 ·intro lo hi v x y h hg
  exact CgY.gr h hg
 ·intro i lo hi v x y hne hx h hg
  match i,h with
  | 3,h=>exact absurd rfl hne
  | 4,h=>exact CtS.kp h hg HSB.out
  | 5,h=>exact CtS.kp h hg HSB.out
  | 7,h=>exact AgZ.kp h hg HSB.out
  | 0,_=>trivial
  | 1,_=>trivial
  | 2,_=>trivial
  | 6,_=>trivial
  | m+8,_=>trivial
 ·intro vs lo hi y hg hJ hK hB hD
  replace hg:Kp (fun j=>∃ i,i<4∧j=p i+1) w2 y:=hg
  have k35:=hK 3 (by decide) rfl
  have b35:=hB 3 (by decide) rfl
  have k31:=hK 4 (by decide) rfl
  have b31:=hB 4 (by decide) rfl
  have k36:=hK 5 (by decide) rfl
  have b36:=hB 5 (by decide) rfl
  have k7:=hK 7 (by decide) rfl
  have b7:=hB 7 (by decide) rfl
  have d35_7:=hD 3 (by decide) rfl 7 (by decide) rfl (by decide)
  have d31_7:=hD 4 (by decide) rfl 7 (by decide) rfl (by decide)
  have d36_7:=hD 5 (by decide) rfl 7 (by decide) rfl (by decide)
  clear hK hB hD
  have j0:vs 0=.slice (some lad) 4 Lc:=hJ 0 (by decide) rfl
  have j1:vs 1=.agg kc:=hJ 1 (by decide) rfl
  have j2:vs 2=.agg (cm12 0).cells:=hJ 2 (by decide) rfl
  clear hJ
  simp only [actOf,tk1,tk0,dr1,dr0,Act.put,si1,st1,st0,Nat.reduceAdd]
  obtain⟨A7,kc7,M7,e28,hmv7,hsp7,hb7,hr7,hs7⟩:=CtS.out k36
  obtain⟨q,e3,zq,hBq,hql,hqh⟩:=AgZ.out k7
  have hky:=CgY.ky k35
  rw [e28,e3]
  have HTH:Hid (y.there q 0 (ctC (cm12 0) A7 3 kc7).size):=hQ9 (zq.thereN 6 rfl)
  have HSI:Hid ((Tryz.prog.info? 43).map (·.size)=some (ctC (cm12 0) A7 3 kc7).size):=hQ9 ya
  have HON:=hQ9 (kh (cm12 0) A7 3 kc7)
  have z4:=Ag.set (vs:=(ctC (cm12 0) A7 3 kc7).toList) zq rfl
  have k4:=zj (ctC (cm12 0) A7 3 kc7).toList q 0 y
  have hsp8:=hsp7.kpx k4 (fun ad h e=>by have:=hr7 ad h;have e:ad.block=q:=e;rcases d36_7 with h2 | h2<;>omega) (fun S hS ad h=>(hs7 S hS ad h).imp id (fun h1 e=>by have e:ad.block=q:=e;rcases d36_7 with h2 | h2<;>omega))
  have HF:Hid (CgF seed p LE w2 (.pointer (some ⟨q,0,none⟩)) (y.setCells q 0 (ctC (cm12 0) A7 3 kc7).toList)):=hQ9 ⟨A7,kc7,M7,q,rfl,z4,hmv7,hsp8,by omega,fun ad h=>by have:=hr7 ad h;omega,fun S hS ad h=>(hs7 S hS ad h).imp id (fun h1=>by omega),ki hg k4 (by omega),fun i hi=>(hky i hi).kp k4 (fun h=>by have h:p i+1=q:=h;have:=HQB.out i hi;have:=HQK.out;omega) (fun h=>by have h:p i=q:=h;have:=HQB.out i hi;have:=HQK.out;omega)⟩
  clear hg z4 k4 zq hsp7 hsp8 hmv7 hky
  generalize ctC (cm12 0) A7 3 kc7=gs' at *
  go_wp2_with(with_reducible refine wpList_store_mid rfl 43 (.tmp 7) (.tmp 36) rfl q 0 gs' rfl rfl HTH.out HSI.out HON.out ?_)
  exact HF.out
 ·intro vs w4 hF hJ
  have j0:vs 0=.slice (some lad) 4 Lc:=hJ 0 (by decide)
  have j1:vs 1=.agg kc:=hJ 1 (by decide)
  have j2:vs 2=.agg (cm12 0).cells:=hJ 2 (by decide)
  have j6:vs 6=.bool true:=hJ 6 (by decide)
  clear hJ
  simp only [actOf,tk1,tk0,dr1,dr0,Act.put,si1,st1,st0,Nat.reduceAdd]
  obtain⟨A3c,k3,MC,q3,e3,zc,hmv3,hsp3,hq3,hAb,hMb,kkp,hky⟩:=hF
  rw [e3,show vs 6=_ from j6]
  have hML:MC.length=3:=by rw [hmv3.len];exact HLE3.out
  have HML:=hQ9 hML
  have HMV3:=hQ9 hmv3
  have GW4:Grew w w4:=zJ G2 kkp G2.size (fun i ⟨j,hj,h⟩=>by have:=(HP.out j hj).1;omega)
  have zk:=z2.kp kkp (fun⟨i,hi,h⟩=>by have:=HQB.out i hi;omega)
  have HLB:Hid (lad.block<w2.heap.size):=hQ9 (by have:=zO (HLD.out 0 (by decide));rwa [zx]at this)
  have HLD4:Hid (∀ i,i<4→w4.cell? (lad.add i)=some (.pointer (some ⟨p i+1,0,none⟩))):=hQ9 (fun i hi=>(World.cell?_of_block (by rw [zx];exact kkp.block lad.block HLB.out (fun⟨j,hj,h⟩=>FL.out j hj h))).trans (HLD.out i hi))
  have HRB:Hid (∀ ad,RA=some ad→ad.block<w2.heap.size):=hQ9 (fun ad e=>by
   obtain⟨ad2,e2,hb,_⟩:=rR2 0 (by simp [u64L,yM])
   rw [e]at e2;cases e2;exact hb)
  have rR4:=(rR2.kp kkp (Nat.le_refl _) (fun ad e h1 ⟨j,hj,h⟩=>FR.out j hj ad e h)).more kkp.size
  have HCI:Hid ((cm12 0).in):=hQ9 (k9 (ok12 0 (by omega)))
  obtain⟨d,hd⟩:∃ d,ctD (cm12 0) MC=d:=⟨_,rfl⟩
  have HD:=hQ9 hd
  have HDL:Hid (d<18446744073709551616):=hQ9 (by rw [←hd];exact y4 _ _)
  obtain⟨ct,hct0⟩:∃ v,ctC (cm12 0) A3c 3 k3=v:=⟨_,rfl⟩
  rw [hct0]at zc
  have HCT0:=hQ9 hct0
  have HCTL:Hid ((Tryz.prog.info? 43).map (·.size)=some ct.toList.length):=hQ9 (by rw [←hct0];exact ya)
  obtain⟨i1,hi,hz0,hz1,hz2⟩:=info_parts qz
  obtain⟨hb,hhb⟩:∃ b,w4.heap.size=b:=⟨_,rfl⟩
  have HBE:Hid (w2.heap.size≤hb∧q3<hb∧w.heap.size≤hb):=hQ9 (by rw [←hhb];exact⟨kkp.size,zc.lt,GW4.size⟩)
  have HAU:Hid (∀ ad,A3c=some ad→ad.block<hb):=hQ9 (fun ad e=>by
   obtain⟨qq,hq1,hq2,-⟩:=hsp3.get 0 (by rw [hML];decide)
   rw [e]at hq1;cases hq1;rw [←hhb];exact hq2)
  have HMU:Hid (∀ S∈MC,∀ ad,S.A=some ad→S.l=[]∨ad.block<hb):=hQ9 (fun S hS ad e=>by rw [←hhb];exact at_lt (hsp3.at_ S hS) ad e)
  have HAB:=hQ9 hAb
  have HMB:=hQ9 hMb
  have HQ3:Hid (w2.heap.size≤q3):=hQ9 hq3
  have zh:=Ag.new w4 127 #[.bool false,.bool false,.bool false,.bool false]
  have gh:=ze (za w4) (.cells #[.bool false,.bool false,.bool false,.bool false] 127)
  obtain⟨w3,hw3⟩:∃ w3,w4.alloc (.cells #[.bool false,.bool false,.bool false,.bool false] 127)=w3:=⟨_,rfl⟩
  have HW3:=hQ9 hw3
  have hs3:w3.heap.size=hb+1:=by rw [←hw3,World.size_alloc,hhb]
  have HS3:=hQ9 hs3
  rw [hw3]at zh gh
  rw [hhb]at zh
  have HZH3:Hid (Ag w3 hb (hadWL (l.take 0))):=hQ9 (by rw [List.take_zero];exact zh)
  have hown0:w3.ownsRow (hb+1) 79 23 (.slice none 0 0) 0 (apL []).flatten:=World.ownsRow_nil _ _ _ _
  have HKS3:Hid (∀ i,i<4→KyAt w3 (p i+1) (p i) (i:Int) (sdI seed i) (ksL seed 4 i) (1+usI (l.take 0) i) (2^4)):=hQ9 (fun i hi=>by rw [List.take_zero];exact(hky i hi).grew gh)
  have HZK3:=hQ9 (zk.grew gh)
  have HZC3:=hQ9 (zc.grew gh)
  have HSP3:=hQ9 (hsp3.gr gh)
  have HLD3:Hid (∀ i,i<4→w3.cell? (lad.add i)=some (.pointer (some ⟨p i+1,0,none⟩))):=hQ9 (fun i hi=>(gh.cell (p:=lad.add i) (zO (HLD4.out i hi))).trans (HLD4.out i hi))
  have HRR3:=hQ9 (rR4.gr gh)
  have HG3:=hQ9 (zb GW4 gh)
  clear hmv3 hML kkp hky HKS G2 z2 rR2 HLD HLD4 e3 hd hct0 hAb hMb hq3 CM CC HKM HSB zh gh zk zc hsp3 rR4 GW4 hs3 hw3
  clear j0 j1 j2
  go_upto_region 14 with fail
  rw [HW3.out]
  try rw [hhb]
  clear HW3 hhb
  go_wp2_with fail
  go_loopw [9,10,12] (fun rv nv iv wr=>∃(n:Nat) (M:List AP),n≤l.length∧nv=.int .i64 (cntW (l.take n):Int)∧iv=.int .i64 (n:Int)∧hb+1≤wr.heap.size∧MvA (qS seed d l n) M∧(∀ S∈M,S.ok)∧(∀ S∈M,S.at wr)∧(∀ S∈M,∀ ad,S.A=some ad→∀ g,rv.ownBlock=some g→S.l=[]∨ad.block≠g)∧(∀ S∈M,∀ ad,S.A=some ad→S.l=[]∨hb+1≤ad.block)∧wr.ownsRow (hb+1) 79 23 rv n (apL M).flatten∧(∀ i,i<4→KyAt wr (p i+1) (p i) (i:Int) (sdI seed i) (ksL seed 4 i) (1+usI (l.take n) i) (2^4))∧Ag wr qk kc.toList∧Ag wr hb (hadWL (l.take n))∧Ag wr q3 ct.toList∧Sps wr A3c MC∧(∀ i,i<4→wr.cell? (lad.add i)=some (.pointer (some ⟨p i+1,0,none⟩)))∧Rd wr wr.heap.size RA (u64L (rtL seed 4 4))∧Grew w wr) (fun _ _ iv _=>l.length-(Go.RowKit.intOf iv).toNat)
  case atStart=>exact⟨0,[],by omega,rfl,rfl,(by have:=HS3.out;omega),(by simpa [qS]using MvA.nil),by simp,by simp,by simp,by simp,hown0,HKS3.out,HZK3.out,HZH3.out,HZC3.out,HSP3.out,HLD3.out,HRR3.out,HG3.out⟩
  case round =>
   clear HKS3 HLD3 HZK3 HZH3 HZC3 HSP3 HRR3 HG3 hown0 HS3
   obtain⟨n,M,hn,rfl,rfl,hB0,hmv,hok,hat,hne,hlow,hrow,hks,zk,zh,zc,hsp,hld,rRr,hg⟩:=hrel
   by_cases hlt:n<l.length
   ·obtain⟨ada,hAa,hbla,hca⟩:=(HRA.out.below hg) n (by simp;omega)
    subst hAa
    rw [List.getElem_map]at hca
    have hpx:=HPA.out _ (List.getElem_mem hlt)
    have hts:l.take (n+1)=l.take n++[l[n]]:=by rw [List.take_succ_eq_append_getElem hlt]
    have hgd:l.getD n 0=l[n]:=by simp [List.getD,hlt]
    have hnS:=zlz seed d l n
    rw [hgd]at hnS
    have h1:(n:Int)<(l.length:Int):=by omega
    have h0:(0:Int)≤(n:Int):=by omega
    have HI4:=hQ9 hlt
    have HPL:Hid ((l.take n).length≤11):=hQ9 (by have:=HL12.out;rw [List.length_take];omega)
    generalize l[n]=x at *
    obtain⟨pl,hpl⟩:∃ q,l.take n=q:=⟨_,rfl⟩
    rw [hpl]at hts hnS hks zh HPL
    try rw [hpl]
    have HTS:=hQ9 hts
    have HPX:=hQ9 hpx
    obtain⟨ww,hww⟩:∃ a,wvI x=a:=⟨_,rfl⟩
    have hw4:ww<4:=by rw [←hww];exact kj x
    have HW4:=hQ9 hw4
    have HWW:=hQ9 hww
    have hx4:x.tmod 4=(ww:Int):=by
     rw [Int.tmod_eq_emod_of_nonneg hpx.1,←hww]
     unfold wvI
     omega
    have hw0:(0:Int)≤(ww:Int):=by omega
    have hw44:(ww:Int)<4:=by omega
    obtain⟨kn,hkn⟩:∃ k,cntW pl=k:=⟨_,rfl⟩
    have HKN:=hQ9 hkn
    have ekn:IntKind.i64.wrap ((kn:Int)+1)=((kn+1:Nat):Int):=by have:=zlx pl;rw [hkn]at this;rw [IntWalk.i64_in _ (by omega)];omega
    obtain⟨u0,hu0⟩:∃ u,1+usI pl ww=u:=⟨_,rfl⟩
    have HU0:=hQ9 hu0
    have hul:u0<16:=by have:=zhu pl ww;have:=HPL.out;omega
    obtain⟨S0,hS0⟩:∃ S,qsS seed d pl x=S:=⟨_,rfl⟩
    have hS1:apG seed 4 u0 d ww none 0=S0:=by rw [←hS0,←hu0,←hww];rfl
    have HSO:Hid S0.ok:=hQ9 (by rw [←hS1];exact apG_ok seed u0 d ww hul HDL.out hw4 none 0)
    have HNS:Hid (qS seed d l (n+1)=qS seed d l n++[S0]):=hQ9 (by rw [hnS,hS0])
    have HPI:=hQ9 (HP.out ww hw4)
    have HSB:Hid (∀ g,(fun j=>j=p ww+1) g→g<wr.heap.size):=hQ9 (fun g h=>by
     have h1:g=p ww+1:=h
     have:=HQB.out ww hw4;have:=HBE.out;have:=HQK.out;omega)
    have HSY:Hid (∀ y,Grew wr y→Std y):=hQ9 (fun y k=>HS.out.grew (zb hg k))
    have HLC:Hid (∀ y,Kp (fun j=>j=p ww+1) wr y→y.cell? (lad.add ww)=some (.pointer (some ⟨p ww+1,0,none⟩))):=hQ9 (fun y k=>(World.cell?_of_block (by rw [zx];exact k.block lad.block (by have:=zO (hld ww hw4);rwa [zx]at this) (FL.out ww hw4))).trans (hld ww hw4))
    have HCT:Hid (∀ y,Kp (fun j=>j=p ww+1) wr y→y.rangeAt q3 0 ct.toList):=hQ9 (fun y k=>(zc.kp k (fun h=>by have h:q3=p ww+1:=h;have:=HQB.out ww hw4;have:=HQ3.out;have:=HQK.out;omega)).cell)
    have HKY:Hid (∀ y,Grew wr y→KyAt y (p ww+1) (p ww) (ww:Int) (sdI seed ww) (ksL seed 4 ww) u0 (2^4)):=hQ9 (fun y k=>by
     have:=(hks ww hw4).grew k
     rw [hu0]at this
     exact this)
    have HSPY:Hid (∀ y,Grew wr y→Sps y A3c MC):=hQ9 (fun y k=>hsp.gr k)
    have HCM0:Hid (∀ A c,.int .u64 (d:Int)=Value.int .u64 ((S0.mv A c).cm:Int)):=hQ9 (fun A c=>by rw [←hS1];rfl)
    have CM:Hid (∀ W,Grew wr W→Calls Tryz.prog 56 #[.pointer (some ⟨p ww+1,0,none⟩),.int .i64 (ww:Int),.agg ct] W fun e w' =>
     (∃ A c,e=.returned (.tuple #[.agg (S0.mv A c).C,.int .i64 0])∧(S0.mv A c).at w'∧(∀ ad,A=some ad→W.heap.size≤ad.block))∧Tn (p ww+1) W w'∧KyAt w' (p ww+1) (p ww) (ww:Int) (sdI seed ww) (ksL seed 4 ww) (u0+1) (2^4)):=hQ9 (fun W g=>by
     have:=zly seed u0 ww hul hw4 (p ww) (cm12 0) HCI.out A3c k3 MC (by rw [HML.out];decide) W (HSY.out W g) (HSPY.out W g) (HKY.out W g)
     rw [HML.out,HCT0.out,HD.out]at this
     rw [←hS1]
     exact this)
    have HMV:=hQ9 hmv
    have HOKM:=hQ9 hok
    have HAT:=hQ9 hat
    have HNE:=hQ9 hne
    have HLW:=hQ9 hlow
    have HROW:=hQ9 hrow
    have HKS:=hQ9 hks
    have HZK:=hQ9 zk
    have HZH:=hQ9 zh
    have HZC:=hQ9 zc
    have HSP:=hQ9 hsp
    have HLD:=hQ9 hld
    have HRR:=hQ9 rRr
    have HGG:=hQ9 hg
    have HBW:=hQ9 hB0
    try rw [hkn]
    clear hS0 hS1 hmv hok hat hne hlow hrow hks zk zh zc hsp hld rRr hg hB0 hlt hn hbla hpl hts hgd hnS hww hw4 hpx hu0 hul hkn
    go_upto_region 18 with fail
    refine yf 11 12 6 (fun j=>j=p ww+1) (fun ix9=>match ix9 with
     | 0=>fun v=>v=.slice (some lad) 4 Lc
     | 1=>fun v=>v=.int .i64 (ww:Int)
     | 2=>fun v=>v=.pointer (some (lad.add ww))
     | 3=>fun v=>v=.pointer (some ⟨p ww+1,0,none⟩)
     | 4=>fun v=>v=.int .i64 (ww:Int)
     | 5=>fun v=>v=.agg ct
     | 6=>fun _=>True
     | 7=>fun v=>∃ A c,v=.tuple #[.agg (S0.mv A c).C,.int .i64 0]
     | 8=>fun _=>True
     | 9=>fun v=>v=.int .i64 0
     | 10=>fun _=>True
     | 11=>fun _=>True
     | _=>fun _=>True) (fun ix9=>match ix9 with
     | 6=>fun lo hi v w=>MkB w wr.heap.size (p ww+1) (p ww) (ww:Int) (sdI seed ww) (ksL seed 4 ww) (u0+1) (2^4) S0 lo hi v (fun A c=>.tuple #[.agg (S0.mv A c).C,.int .i64 0])
     | 7=>fun lo hi v w=>MkA w wr.heap.size S0 lo hi v (fun A c=>.tuple #[.agg (S0.mv A c).C,.int .i64 0])
     | 8=>fun lo hi v w=>MkA w wr.heap.size S0 lo hi v (fun A c=>.agg (S0.mv A c).C)
     | 10=>fun lo hi v w=>AgZ w wr.heap.size lo hi (#[.int .u64 0,.int .i64 0,.int .i64 0,.int .i64 0,.int .u64 0,.int .u64 0,.int .u64 0,.int .u64 0,.int .u64 0,.int .u64 0,.int .u64 0,.int .u64 0,.int .u64 0,.int .u64 0,.int .u64 0,.int .u64 0,.int .u64 0,.int .u64 0,.int .u64 0,.int .u64 0,.int .u64 0,.int .u64 0,.slice none 0 0]:Array Value).toList v
     | _=>fun _ _ _ _=>True) (fun ix9=>match ix9 with
     | 7=>6
     | 8=>7
     | ix8=>ix8) (fun ix9=>match ix9 with
     | 7=>6
     | 8=>6
     | ix8=>ix8) (fun ix9=>match ix9 with
     | 9=>true
     | _=>false) 10 (fun v W=>StB (fun j=>j=p ww+1) wr S0 (p ww+1) (p ww) (ww:Int) (sdI seed ww) (ksL seed 4 ww) (u0+1) (2^4) v W) rfl (by kernel_rfl) (by kernel_rfl) (by kernel_rfl) (by kernel_rfl) rfl rfl (by decide) (fun _=>trivial) ?_ ?_ ?_ ?_ ?_ (fun o ho=>by cases ho;rfl) (fun v x y h hg=>StB.gr h hg) ?_
    ·simp only [actOf,tk1,tk0,dr1,dr0,Act.put,si1,st1,st0,Nat.reduceAdd]
     refine⟨?_,?_,?_,?_,?_,?_,?_,?_,?_,?_,?_,trivial⟩
     ·intro vs lo hi y hg hd hvia
      replace hg:Kp (fun j=>j=p ww+1) wr y:=hg
      clear hvia
      dsimp only
      go_wp2_with fail
      first | exact⟨rfl,_,rfl,za _,rfl⟩ | exact⟨rfl,_,rfl,za _,rfl,trivial⟩
     ·intro vs lo hi y hg hd hvia
      replace hg:Kp (fun j=>j=p ww+1) wr y:=hg
      clear hvia
      dsimp only
      go_wp2_with fail
      first | exact⟨rfl,_,rfl,za _,rfl⟩ | exact⟨rfl,_,rfl,za _,rfl,trivial⟩
     ·intro vs lo hi y hg hd hvia
      replace hg:Kp (fun j=>j=p ww+1) wr y:=hg
      obtain⟨h0,h1,_⟩:=hd
      replace h0:=h0 rfl
      replace h1:=h1 rfl
      clear hvia
      dsimp only
      rw [show vs 0=_ from h0,show vs 1=_ from h1]
      go_wp2_with fail
      first | exact⟨rfl,_,rfl,za _,rfl⟩ | exact⟨rfl,_,rfl,za _,rfl,trivial⟩
     ·intro vs lo hi y hg hd hvia
      replace hg:Kp (fun j=>j=p ww+1) wr y:=hg
      obtain⟨h2,_⟩:=hd
      replace h2:=h2 rfl
      clear hvia
      dsimp only
      rw [show vs 2=_ from h2]
      have hc:=HLC.out y hg
      go_wp2_with fail
      first | exact⟨rfl,_,rfl,za _,rfl⟩ | exact⟨rfl,_,rfl,za _,rfl,trivial⟩
     ·intro vs lo hi y hg hd hvia
      replace hg:Kp (fun j=>j=p ww+1) wr y:=hg
      clear hvia
      dsimp only
      go_wp2_with fail
      first | exact⟨rfl,_,rfl,za _,rfl⟩ | exact⟨rfl,_,rfl,za _,rfl,trivial⟩
     ·intro vs lo hi y hg hd hvia
      replace hg:Kp (fun j=>j=p ww+1) wr y:=hg
      clear hvia
      dsimp only
      have hm:=HCT.out y hg
      go_wp2_with(with_reducible refine wpList_load_mid rfl 43 (.tmp 7) rfl q3 0 rfl ct.toList _ hm hct rfl HCTL.out ?_;simp only [Array.toArray_toList])
      first | exact⟨rfl,_,rfl,za _,rfl⟩ | exact⟨rfl,_,rfl,za _,rfl,trivial⟩
     ·intro vs lo hi y hg hd hvia
      replace hg:Grew wr y:=hg
      obtain⟨h3,h4,h5,_⟩:=hd
      replace h3:=h3 rfl
      replace h4:=h4 rfl
      replace h5:=h5 rfl
      clear hvia
      dsimp only
      rw [show vs 3=_ from h3,show vs 4=_ from h4,show vs 5=_ from h5]
      go_wp2_with(go_at_call 56;refine(CM.out y hg).mono ?_;rintro e z ⟨⟨A9,c9,rfl,hat9,hfr9⟩,ht9,hk9⟩)
      exact⟨rfl,_,rfl,kp_tn ht9,trivial,⟨⟨A9,c9,rfl,hat9,hg.size,fun ad h=>(yG hat9 ad h).imp id (fun h2=>⟨hfr9 ad h,h2⟩)⟩,hk9⟩⟩
     ·intro vs lo hi y hg hd hvia
      replace hg:Kp (fun j=>j=p ww+1) wr y:=hg
      obtain⟨h6,_⟩:=hd
      replace h6:=h6 rfl
      have hv9:(fun lo hi v w=>MkB w wr.heap.size (p ww+1) (p ww) (ww:Int) (sdI seed ww) (ksL seed 4 ww) (u0+1) (2^4) S0 lo hi v (fun A c=>.tuple #[.agg (S0.mv A c).C,.int .i64 0])) (lo 6) (hi 6) (vs 6) y:=hvia rfl
      clear hvia
      dsimp only
      obtain⟨A9,c9,e9,hat9,hb9,hr9⟩:=MkA.out (MkB.sk hv9)
      rw [e9]
      go_wp2_with fail
      exact⟨rfl,_,rfl,za _,⟨A9,⟨c9,rfl⟩⟩,⟨A9,c9,rfl,hat9,hb9,hr9⟩⟩
     ·intro vs lo hi y hg hd hvia
      replace hg:Kp (fun j=>j=p ww+1) wr y:=hg
      obtain⟨h7,_⟩:=hd
      replace h7:=h7 rfl
      have hv9:(fun lo hi v w=>MkA w wr.heap.size S0 lo hi v (fun A c=>.tuple #[.agg (S0.mv A c).C,.int .i64 0])) (lo 7) (hi 7) (vs 7) y:=hvia rfl
      clear hvia
      dsimp only
      obtain⟨A9,c9,e9,hat9,hb9,hr9⟩:=MkA.out hv9
      rw [e9]
      go_wp2_with fail
      exact⟨rfl,_,rfl,za _,⟨A9,c9,rfl,hat9,hb9,hr9⟩⟩
     ·intro vs lo hi y hg hd hvia
      replace hg:Kp (fun j=>j=p ww+1) wr y:=hg
      obtain⟨h7,_⟩:=hd
      replace h7:=h7 rfl
      clear hvia
      dsimp only
      obtain⟨A9,c9,e9⟩:=h7
      rw [e9]
      go_wp2_with fail
      first | exact⟨rfl,_,rfl,za _,rfl⟩ | exact⟨rfl,_,rfl,za _,rfl,trivial⟩
     ·intro vs lo hi y hg hd hvia
      replace hg:Kp (fun j=>j=p ww+1) wr y:=hg
      clear hvia
      dsimp only
      go_wp2_with fail
      exact⟨rfl,_,rfl,ze (za _) _,⟨y.heap.size,rfl,Ag.new y 79 (#[.int .u64 0,.int .i64 0,.int .i64 0,.int .i64 0,.int .u64 0,.int .u64 0,.int .u64 0,.int .u64 0,.int .u64 0,.int .u64 0,.int .u64 0,.int .u64 0,.int .u64 0,.int .u64 0,.int .u64 0,.int .u64 0,.int .u64 0,.int .u64 0,.int .u64 0,.int .u64 0,.int .u64 0,.int .u64 0,.slice none 0 0]:Array Value),hg.size,Nat.le_refl _,by show y.heap.size<(y.alloc _).heap.size;simp⟩⟩
    ·refine⟨(fun h=>absurd h (by decide)),(fun h=>absurd h (by decide)),(fun h=>absurd h (by decide)),(fun h=>absurd h (by decide)),(fun h=>absurd h (by decide)),(fun h=>absurd h (by decide)),(fun h=>absurd h (by decide)),(fun h=>absurd h (by decide)),(fun h=>absurd h (by decide)),?_,(fun h=>absurd h (by decide)),(fun h=>absurd h (by decide)),trivial⟩
     ·intro _ vs y hd
      obtain⟨h7,_⟩:=hd
      replace h7:=h7 rfl
      simp only [actOf,tk1,tk0,dr1,dr0,Act.put,si1,st1,st0,Nat.reduceAdd]
      obtain⟨A9,c9,e9⟩:=h7
      rw [e9]
      go_wp2_with fail
      first | exact⟨rfl,_,rfl,za _,rfl⟩ | exact⟨rfl,_,rfl,za _,rfl,trivial⟩
    ·intro lo hi v x y h hg
     exact MkB.gr h hg
    ·intro i lo hi v x y hne hx h hg
     match i,h with
     | 6,h=>exact absurd rfl hne
     | 7,h=>exact MkA.kp h hg HSB.out
     | 8,h=>exact MkA.kp h hg HSB.out
     | 10,h=>exact AgZ.kp h hg HSB.out
     | 0,_=>trivial
     | 1,_=>trivial
     | 2,_=>trivial
     | 3,_=>trivial
     | 4,_=>trivial
     | 5,_=>trivial
     | 9,_=>trivial
     | m+11,_=>trivial
    ·intro vs lo hi y hg hJ hK hB hD
     replace hg:Kp (fun j=>j=p ww+1) wr y:=hg
     have k59:=hK 6 (by decide) rfl
     have b59:=hB 6 (by decide) rfl
     have k52:=hK 7 (by decide) rfl
     have b52:=hB 7 (by decide) rfl
     have k60:=hK 8 (by decide) rfl
     have b60:=hB 8 (by decide) rfl
     have k14:=hK 10 (by decide) rfl
     have b14:=hB 10 (by decide) rfl
     have d59_14:=hD 6 (by decide) rfl 10 (by decide) rfl (by decide)
     have d52_14:=hD 7 (by decide) rfl 10 (by decide) rfl (by decide)
     have d60_14:=hD 8 (by decide) rfl 10 (by decide) rfl (by decide)
     clear hK hB hD
     have j0:vs 0=.slice (some lad) 4 Lc:=hJ 0 (by decide) rfl
     have j1:vs 1=.int .i64 (ww:Int):=hJ 1 (by decide) rfl
     have j2:vs 2=.pointer (some (lad.add ww)):=hJ 2 (by decide) rfl
     have j3:vs 3=.pointer (some ⟨p ww+1,0,none⟩):=hJ 3 (by decide) rfl
     have j4:vs 4=.int .i64 (ww:Int):=hJ 4 (by decide) rfl
     have j5:vs 5=.agg ct:=hJ 5 (by decide) rfl
     clear hJ
     simp only [actOf,tk1,tk0,dr1,dr0,Act.put,si1,st1,st0,Nat.reduceAdd]
     obtain⟨A1,c1,e44,hat1,hb1,hr1⟩:=MkA.out k60
     obtain⟨q,e7,zq,hBq,hql,hqh⟩:=AgZ.out k14
     rw [e44,e7]
     have hky:=MkB.ky k59
     have hPI:=HPI.out
     have hPJ:=HQB.out ww HW4.out
     have hqb:=HBE.out
     have hqk:=HQK.out
     have hbz:=HBW.out
     have HNQ:Hid (∀ ad,A1=some ad→S0.l=[]∨ad.block≠q):=hQ9 (fun ad h=>by
      rcases hr1 ad h with h1 | h1
      ·exact .inl h1
      ·exact .inr (by rcases d60_14 with h2 | h2<;>omega))
     have HLO1:Hid (∀ ad,A1=some ad→S0.l=[]∨wr.heap.size≤ad.block):=hQ9 (fun ad h=>(hr1 ad h).imp id (fun h1=>by omega))
     obtain⟨gs,hgs⟩:∃ g,(S0.mv A1 c1).C=g:=⟨_,rfl⟩
     have hz24:gs.size=23:=by rw [←hgs];rfl
     have HTH:Hid (y.there q 0 gs.size):=hQ9 (zq.thereN gs.size (by rw [hz24];rfl))
     have HSI:Hid ((Tryz.prog.info? 79).map (·.size)=some gs.size):=hQ9 (by rw [hz24];exact zA)
     have HON:Hid (gs.all (·.oneCell')=true):=hQ9 (by rw [←hgs];exact(S0.mv A1 c1).one)
     have z4:=Ag.set (vs:=gs.toList) zq (by rw [Array.length_toList,hz24];rfl)
     have k4:=zj gs.toList q 0 y
     have HF:Hid (StB (fun j=>j=p ww+1) wr S0 (p ww+1) (p ww) (ww:Int) (sdI seed ww) (ksL seed 4 ww) (u0+1) (2^4) (.pointer (some ⟨q,0,none⟩)) (y.setCells q 0 gs.toList)):=hQ9 ⟨⟨A1,c1,q,rfl,by rw [hgs];exact z4,xh hat1 k4 (fun ad h=>HNQ.out ad h),by omega,HLO1.out,ki hg k4 (by omega)⟩,hky.kp k4 (fun h=>by have h:p ww+1=q:=h;omega) (fun h=>by have h:p ww=q:=h;omega)⟩
     rw [hgs]
     clear hgs hg z4 k4 zq hat1 hky
     generalize gs=gs' at *
     go_wp2_with(with_reducible refine wpList_store_mid rfl 79 (.tmp 14) (.tmp 60) rfl q 0 gs' rfl rfl HTH.out HSI.out HON.out ?_)
     exact HF.out
    ·intro vs w4 hF hJ
     have j0:vs 0=.slice (some lad) 4 Lc:=hJ 0 (by decide)
     have j1:vs 1=.int .i64 (ww:Int):=hJ 1 (by decide)
     have j2:vs 2=.pointer (some (lad.add ww)):=hJ 2 (by decide)
     have j3:vs 3=.pointer (some ⟨p ww+1,0,none⟩):=hJ 3 (by decide)
     have j4:vs 4=.int .i64 (ww:Int):=hJ 4 (by decide)
     have j5:vs 5=.agg ct:=hJ 5 (by decide)
     have j9:vs 9=.int .i64 0:=hJ 9 (by decide)
     clear hJ
     simp only [actOf,tk1,tk0,dr1,dr0,Act.put,si1,st1,st0,Nat.reduceAdd]
     obtain⟨⟨A1,c1,q,e5,z4,hat4,hq4,hlo4,kk⟩,hky4⟩:=hF
     rw [e5,show vs 9=_ from j9]
     have HFR:Hid (∀ ad,A1=some ad→S0.l=[]∨wr.heap.size≤ad.block):=hQ9 hlo4
     obtain⟨gs,hgs⟩:∃ g,(S0.mv A1 c1).C=g:=⟨_,rfl⟩
     rw [hgs]at z4
     have HGS:=hQ9 hgs
     have HSL:Hid ((Tryz.prog.info? 79).map (·.size)=some gs.toList.length):=hQ9 (by rw [←hgs];exact zA)
     have h9c:gs.toList[0]?=some (.int .u64 (d:Int)):=by rw [←hgs,HCM0.out A1 c1];rfl
     have HQ0:Hid (∀ y,Grew w4 y→y.cell? ⟨q,0,none⟩=some (.int .u64 (d:Int))):=hQ9 (fun y g=>xa (by simpa using z4.cell 0 _ h9c) g)
     have HCT4:Hid (∀ y,Grew w4 y→y.rangeAt q3 0 ct.toList):=hQ9 (fun y g=>(Ag.grew (HZC.out.kp kk (fun h=>by have h:q3=p ww+1:=h;have:=HQB.out ww HW4.out;have:=HQ3.out;have:=HQK.out;omega)) g).cell)
     have HSP4:=hQ9 (HSP.out.kpx kk (fun ad e h=>by have h:ad.block=p ww+1:=h;have:=HAB.out ad e;have:=HQB.out ww HW4.out;have:=HQK.out;omega) (fun T hT ad e=>(HMB.out T hT ad e).imp id (fun h1 h=>by have h:ad.block=p ww+1:=h;have:=HQB.out ww HW4.out;have:=HQK.out;omega)))
     have SW4:Hid (Std w4):=hQ9 (HS.out.grew (zJ HGG.out kk HGG.out.size (fun i (h:i=p ww+1)=>by have:=HPI.out;omega)))
     have CDG:Hid (∀ W,Grew w4 W→Calls Tryz.prog 57 #[.agg ct] W fun e w'=>e=.returned (.int .u64 (d:Int))∧Grew W w'):=hQ9 (fun W g=>by
      have:=yT (cm12 0) HCI.out A3c k3 MC (by rw [HML.out];decide) W (SW4.out.grew g) (HSP4.out.gr g)
      rw [HML.out,HCT0.out,HD.out]at this
      exact this)
     have HKK:=hQ9 kk
     have HKY4:=hQ9 hky4
     have HAT4:=hQ9 hat4
     have HZ4:=hQ9 z4
     clear z4 kk hat4 hky4 hgs hq4 hlo4 e5
     try clear j0
     try clear j1
     try clear j2
     try clear j3
     try clear j4
     try clear j5
     try clear j9
     go_upto_region 19 with fail
     refine zw 8 (fun ix9=>match ix9 with
      | 0=>fun v _=>v=.int .i64 0
      | 1=>fun v _=>v=.bool false
      | 2=>fun v _=>v=.bool false
      | 3=>fun v _=>v=.pointer (some ⟨q,0,none⟩)
      | 4=>fun v _=>v=.int .u64 (d:Int)
      | 5=>fun v _=>v=.agg ct
      | 6=>fun v _=>v=.int .u64 (d:Int)
      | 7=>fun v _=>v=.bool false
      | _=>fun _ _=>True) (by kernel_rfl) (by kernel_rfl) ?_ ?_ ?_
     ·intro i v x y h hg
      match i,h with
      | 0,h | 1,h | 2,h | 3,h | 4,h | 5,h | 6,h | 7,h=>exact h
      | m+8,_=>trivial
     ·simp only [actOf,tk1,tk0,dr1,dr0,Act.put,si1,st1,st0,Nat.reduceAdd]
      refine⟨?_,?_,?_,?_,?_,?_,?_,?_,trivial⟩
      ·intro vs y hg hd
       dsimp only
       go_wp2_with fail
       exact⟨rfl,_,rfl,za _,rfl⟩
      ·intro vs y hg hd
       obtain⟨h0,_⟩:=hd
       replace h0:=h0 rfl
       dsimp only
       rw [show vs 0=_ from h0]
       go_wp2_with fail
       exact⟨rfl,_,rfl,za _,rfl⟩
      ·intro vs y hg hd
       obtain⟨h1,_⟩:=hd
       replace h1:=h1 rfl
       dsimp only
       rw [show vs 1=_ from h1]
       go_wp2_with fail
       exact⟨rfl,_,rfl,za _,rfl⟩
      ·intro vs y hg hd
       have hx:(Region.binds .any { on:=2,ground:=.guard }=true→vs 2=.bool false)∧True:=hd
       have h2:vs 2=.bool false:=hx.1 rfl
       clear hx
       dsimp only
       rw [show vs 2=_ from h2]
       go_wp2_with fail
       exact⟨rfl,_,rfl,za _,rfl⟩
      ·intro vs y hg hd
       have hx:(Region.binds .any { on:=3,ground:=.data }=true→vs 3=.pointer (some ⟨q,0,none⟩))∧(Region.binds .any { on:=2,ground:=.guard }=true→vs 2=.bool false)∧True:=hd
       have h3:vs 3=.pointer (some ⟨q,0,none⟩):=hx.1 rfl
       have h2:vs 2=.bool false:=hx.2.1 rfl
       clear hx
       dsimp only
       rw [show vs 3=_ from h3,show vs 2=_ from h2]
       have hc:=HQ0.out y hg
       go_wp2_with fail
       exact⟨rfl,_,rfl,za _,rfl⟩
      ·intro vs y hg hd
       have hx:(Region.binds .any { on:=2,ground:=.guard }=true→vs 2=.bool false)∧True:=hd
       have h2:vs 2=.bool false:=hx.1 rfl
       clear hx
       dsimp only
       rw [show vs 2=_ from h2]
       have hm:=HCT4.out y hg
       go_wp2_with(refine zg (by rfl) 43 (.tmp 7) rfl q3 0 rfl ct.toList _ hm hct rfl HCTL.out ?_;simp only [Array.toArray_toList])
       exact⟨rfl,_,rfl,za _,rfl⟩
      ·intro vs y hg hd
       have hx:(Region.binds .any { on:=5,ground:=.data }=true→vs 5=.agg ct)∧(Region.binds .any { on:=2,ground:=.chain }=true→vs 2=.bool false)∧(Region.binds .any { on:=2,ground:=.guard }=true→vs 2=.bool false)∧True:=hd
       have h5:vs 5=.agg ct:=hx.1 rfl
       have h2:vs 2=.bool false:=hx.2.2.1 rfl
       clear hx
       dsimp only
       rw [show vs 5=_ from h5,show vs 2=_ from h2]
       go_wp2_with(go_at_call 57;refine(CDG.out y hg).mono ?_;rintro e z ⟨rfl,gz⟩)
       exact⟨rfl,_,rfl,gz,rfl⟩
      ·intro vs y hg hd
       have hx:(Region.binds .any { on:=4,ground:=.data }=true→vs 4=.int .u64 (d:Int))∧(Region.binds .any { on:=6,ground:=.data }=true→vs 6=.int .u64 (d:Int))∧(Region.binds .any { on:=2,ground:=.guard }=true→vs 2=.bool false)∧True:=hd
       have h4:vs 4=.int .u64 (d:Int):=hx.1 rfl
       have h6:vs 6=.int .u64 (d:Int):=hx.2.1 rfl
       have h2:vs 2=.bool false:=hx.2.2.1 rfl
       clear hx
       dsimp only
       rw [show vs 4=_ from h4,show vs 6=_ from h6,show vs 2=_ from h2]
       go_wp2_with fail
       exact⟨rfl,_,rfl,za _,by simp⟩
     ·intro vs wv hg hJ
      have j0:vs 0=.int .i64 0:=hJ 0 (by decide)
      have j1:vs 1=.bool false:=hJ 1 (by decide)
      have j2:vs 2=.bool false:=hJ 2 (by decide)
      have j3:vs 3=.pointer (some ⟨q,0,none⟩):=hJ 3 (by decide)
      have j4:vs 4=.int .u64 (d:Int):=hJ 4 (by decide)
      have j5:vs 5=.agg ct:=hJ 5 (by decide)
      have j6:vs 6=.int .u64 (d:Int):=hJ 6 (by decide)
      have j7:vs 7=.bool false:=hJ 7 (by decide)
      clear hJ
      simp only [actOf,tk1,tk0,dr1,dr0,Act.put,si1,st1,st0,Nat.reduceAdd]
      have gg:=hg
      try rw [show vs 2=_ from j2]
      try rw [show vs 7=_ from j7]
      clear hg
      try clear j0
      try clear j1
      try clear j3
      try clear j4
      try clear j5
      try clear j6
      have kk2:=zV HKK.out (zy gg)
      have z4:=HZ4.out.grew gg
      have hat4:=HAT4.out.gr gg
      have HKYV:=hQ9 (HKY4.out.grew gg)
      clear CDG HQ0 HCT4 SW4
      have hpi:=HPI.out
      have hqb:=HBE.out
      have hqk:=HQK.out
      have hbw:=HBW.out
      have hpj:=HQB.out ww HW4.out
      have HATV:Hid (∀ S∈M,S.at wv):=hQ9 (fun S hS=>xh (HAT.out S hS) kk2 (fun ad h=>(HLW.out S hS ad h).imp id (fun h1 h3=>by have h3:ad.block=p ww+1:=h3;omega)))
      have HROWV:=hQ9 (zo HROW.out kk2 (fun g h h3=>by
       have h1:=zK HROW.out g h
       have h3:g=p ww+1:=h3
       omega))
      have HKSV:Hid (∀ i,i<4→KyAt wv (p i+1) (p i) (i:Int) (sdI seed i) (ksL seed 4 i) (1+usI (pl++[x]) i) (2^4)):=hQ9 (fun i hi=>by
       rw [zjy]
       by_cases h:wvI x=i
       ·rw [if_pos h]
        have hi2:i=ww:=by rw [←h];exact HWW.out
        rw [hi2,←Nat.add_assoc,HU0.out]
        exact HKYV.out
       ·rw [if_neg h,Nat.add_zero]
        have h9:i≠ww:=fun e=>h (by rw [HWW.out,e])
        have h2:=HAP.out i ww hi HW4.out h9
        exact(HKS.out i hi).kp kk2 (fun h=>by have h:p i+1=p ww+1:=h;omega) (fun h=>by have h:p i=p ww+1:=h;omega))
      have HZKV:=hQ9 (HZK.out.kp kk2 (fun h=>by have h:qk=p ww+1:=h;omega))
      have HZHV:=hQ9 (HZH.out.kp kk2 (fun h=>by have h:hb=p ww+1:=h;omega))
      have HZCV:=hQ9 (HZC.out.kp kk2 (fun h=>by have h:q3=p ww+1:=h;have:=HQ3.out;omega))
      have HSPV:=hQ9 (HSP4.out.gr gg)
      have HLDV:Hid (∀ i,i<4→wv.cell? (lad.add i)=some (.pointer (some ⟨p i+1,0,none⟩))):=hQ9 (fun i hi=>by
       have h1:=zO (HLD.out i hi)
       rw [zx]at h1
       exact(World.cell?_of_block (by rw [zx];exact kk2.block lad.block h1 (FL.out ww HW4.out))).trans (HLD.out i hi))
      have HRRV:=hQ9 ((HRR.out.kp kk2 (Nat.le_refl _) (fun ad e h1 h=>FR.out ww HW4.out ad e h)).more kk2.size)
      have HGGV:=hQ9 (zJ HGG.out kk2 HGG.out.size (fun i (h:i=p ww+1)=>by omega))
      have HBWV:Hid (wr.heap.size≤wv.heap.size):=hQ9 kk2.size
      have HATS:=hQ9 hat4
      have hrowv:=HROWV.out
      have hsz4:=HBWV.out
      have hm4:=z4.cell
      clear z4 kk2 gg hat4
      clear HAT HKS HZK HZH HZC HSP HSP4 HLD HRR HKK HZ4 HAT4 HKY4
      have ga:=ze (za wv) (.cells gs 79)
      have HTA:Hid ((apL M).flatten++gs.toList=(apL (M++[S0.mv A1 c1])).flatten):=hQ9 (by rw [xJ,HGS.out])
      have HONE:Hid (∀ u∈gs.toList,u.oneCell'=true):=hQ9 (by rw [←HGS.out];exact(S0.mv A1 c1).one')
      have HLEN:Hid (gs.toList.length=23):=hQ9 (by rw [←HGS.out];rfl)
      have HFOLD:Hid (Array.foldl (fun(cs:Array Value) (x:Value × Nat)=>cs.setIfInBounds x.snd x.fst) (#[.int .u64 0,.int .i64 0,.int .i64 0,.int .i64 0,.int .u64 0,.int .u64 0,.int .u64 0,.int .u64 0,.int .u64 0,.int .u64 0,.int .u64 0,.int .u64 0,.int .u64 0,.int .u64 0,.int .u64 0,.int .u64 0,.int .u64 0,.int .u64 0,.int .u64 0,.int .u64 0,.int .u64 0,.int .u64 0,.slice none 0 0]:Array Value) gs.zipIdx 0 23=gs):=hQ9 (by rw [←HGS.out];exact ke (S0.mv A1 c1))
      have hgs24:gs.size=23:=by rw [←HGS.out];rfl
      have hn9:=HI4.out
      have hl9:=HL12.out
      have hb9:hb+1≤wv.heap.size:=by omega
      have e49:IntKind.i64.wrap ((n:Int)+1)=((n+1:Nat):Int):=by rw [IntWalk.i64_in _ (by omega)];omega
      by_cases hh:hadW pl ww=true
      ·skip
       go_wp2_with(first
        | (with_reducible refine wpList_load_mid rfl 79 (.tmp 14) rfl q 0 rfl gs.toList _ hm4 hut rfl HSL.out ?_;simp only [Array.toArray_toList])
        | (at_builtin;rw [HFOLD.out];refine zP _ rfl (.tmp 71) (.tmp 73) 104 rfl (hb+1) 79 i1 (.agg (#[.int .u64 0,.int .i64 0,.int .i64 0,.int .i64 0,.int .u64 0,.int .u64 0,.int .u64 0,.int .u64 0,.int .u64 0,.int .u64 0,.int .u64 0,.int .u64 0,.int .u64 0,.int .u64 0,.int .u64 0,.int .u64 0,.int .u64 0,.int .u64 0,.int .u64 0,.int .u64 0,.int .u64 0,.int .u64 0,.slice none 0 0]:Array Value)) 23 200 Tryz.underlying104 hi hz0 hz1 hz2 rfl (by decide) _ _ _ rfl (hrowv.alloc _) ⟨wv.heap.size,0,none⟩ 1 1 gs.toList rfl (by rw [HLEN.out]) (fun j u hj=>zY wv gs 79 j u hj) HONE.out (by unfold maxLen;omega) (by omega) (by simp;omega) ?_;intro v' w5 hown5 hgrow5 hob5;have K5:Kp (fun g=>hb+1≤g) wv w5:=yz (zy ga) hgrow5 (fun g e=>.inl (zn hrowv g e));have HZH5:=hQ9 (HZHV.out.kp K5 (by omega));have hcA:w5.cell? ⟨hb,ww,none⟩=some (.bool (hadW pl ww)):=ag_at HZH5.out _ (zat pl ww HW4.out);have hfA:=ag_fr HZH5.out ww (by show ww<4;exact HW4.out);rw [hh]at hcA))
       go_roundw
       case rel =>
        have z7:=HZH5.out.set1 ww (.bool true) (by show ww<4;exact HW4.out)
        have KH:Kp (fun g=>g=hb) w5 (w5.setCell ⟨hb,ww,none⟩ (.bool true)):=yh (S:=fun g=>g=hb) (p:=⟨hb,ww,none⟩) (zN _ w5) (.inl rfl) (.bool true)
        rw [show ww=wvI x from HWW.out.symm,zau]at z7
        rw [show wvI x=ww from HWW.out]at z7
        have h56:=K5.size
        have h67:=KH.size
        have hpi:=HPI.out
        have hqb:=HBE.out
        have hob:=zK HROW.out
        have hlw5:∀ S∈M++[S0.mv A1 c1],∀ ad,S.A=some ad→S.l=[]∨hb+1≤ad.block:=by
         intro T hT ad e
         rcases List.mem_append.1 hT with h | h
         ·exact HLW.out T h ad e
         ·obtain rfl:T=S0.mv A1 c1:=by simpa using h
          exact(HFR.out ad e).imp id (fun h1=>by omega)
        refine⟨n+1,M++[S0.mv A1 c1],by omega,by rw [HTS.out,zjz pl x (by rw [HWW.out];exact hh),HKN.out],by go_num,by omega,by rw [HNS.out];exact HMV.out.snoc S0 A1 c1,?_,fun S hS=>xh (?_:S.at w5) KH (fun ad e=>(hlw5 S hS ad e).imp id (fun h1 h2=>by have h2:ad.block=hb:=h2;omega)),?_,hlw5,?_,?_,?_,by rw [HTS.out];exact z7,?_,?_,?_,?_,?_⟩
        ·intro T hT
         rcases List.mem_append.1 hT with h | h
         ·exact HOKM.out T h
         ·obtain rfl:T=S0.mv A1 c1:=by simpa using h
          exact AP.mv_ok HSO.out _ _
        ·rcases List.mem_append.1 hS with h | h
         ·exact yt ((HATV.out S h).gr ga) hgrow5 (fun ad e g hg=>HNE.out S h ad e g hg)
         ·obtain rfl:S=S0.mv A1 c1:=by simpa using h
          exact yt (HATS.out.gr ga) hgrow5 (fun ad e g hg=>by
           rcases HFR.out ad e with h1 | h1
           ·exact .inl h1
           ·have:=(hob g hg).2
            exact .inr (by omega))
        ·intro T hT ad e g hg
         have hlt9:T.l=[]∨ad.block<(wv.alloc (.cells gs 79)).heap.size:=by
          rcases List.mem_append.1 hT with h | h
          ·exact yG ((HATV.out T h).gr ga) ad e
          ·obtain rfl:T=S0.mv A1 c1:=by simpa using h
           exact yG (HATS.out.gr ga) ad e
         rcases hob5 with h3 | h3
         ·rw [h3]at hg
          rcases List.mem_append.1 hT with h | h
          ·exact HNE.out T h ad e g hg
          ·obtain rfl:T=S0.mv A1 c1:=by simpa using h
           rcases HFR.out ad e with h1 | h1
           ·exact .inl h1
           ·have:=(hob g hg).2
            exact .inr (by omega)
         ·rw [h3]at hg;injection hg with hg
          rcases hlt9 with h1 | h1
          ·exact .inl h1
          ·exact .inr (by omega)
        ·rw [←HTA.out]
         exact zo hown5 KH (fun g h h3=>by have:=zn hown5 g h;have h3:g=hb:=h3;omega)
        ·intro i hi
         rw [HTS.out]
         have h1:=HP.out i hi
         have h2:=HQB.out i hi
         exact((HKSV.out i hi).kp K5 (fun h=>by omega) (fun h=>by omega)).kp KH (fun h=>by have h:p i+1=hb:=h;omega) (fun h=>by have h:p i=hb:=h;omega)
        ·exact(HZKV.out.kp K5 (fun h=>by omega)).kp KH (fun h=>by have h:qk=hb:=h;omega)
        ·exact(HZCV.out.kp K5 (fun h=>by omega)).kp KH (fun h=>by have h:q3=hb:=h;omega)
        ·exact(HSPV.out.kpx K5 (fun ad e h=>by have h:hb+1≤ad.block:=h;have:=HAU.out ad e;omega) (fun T hT ad e=>(HMU.out T hT ad e).imp id (fun h1 h=>by have h:hb+1≤ad.block:=h;omega))).kpx KH (fun ad e h=>by have h:ad.block=hb:=h;have:=HAU.out ad e;omega) (fun T hT ad e=>(HMU.out T hT ad e).imp id (fun h1 h=>by have h:ad.block=hb:=h;omega))
        ·intro i hi
         have h1:=zO (HLDV.out i hi)
         have h2:=HLB.out
         rw [zx]at h1
         exact(World.cell?_of_block (by rw [zx];exact(zV (S:=fun g=>hb≤g) (xV K5 (fun g h=>by omega)) (xV KH (fun g h=>by omega))).block lad.block h1 (by omega))).trans (HLDV.out i hi)
        ·exact(((HRRV.out.kp K5 (Nat.le_refl _) (fun ad e h1 h=>by have:=HRB.out ad e;have h:hb+1≤ad.block:=h;omega)).more K5.size).kp KH (Nat.le_refl _) (fun ad e h1 h=>by have:=HRB.out ad e;have h:ad.block=hb:=h;omega)).more KH.size
        ·have g6:=zJ HGGV.out K5 HGGV.out.size (fun i hi=>by have hi:hb+1≤i:=hi;omega)
         exact zJ g6 KH g6.size (fun i hi=>by have hi:i=hb:=hi;omega)
       case measure=>have:=HI4.out;simp [Go.RowKit.intOf]<;>omega
      ·have hh:hadW pl ww=false:=by simpa using hh
       go_wp2_with(first
        | (with_reducible refine wpList_load_mid rfl 79 (.tmp 14) rfl q 0 rfl gs.toList _ hm4 hut rfl HSL.out ?_;simp only [Array.toArray_toList])
        | (at_builtin;rw [HFOLD.out];refine zP _ rfl (.tmp 71) (.tmp 73) 104 rfl (hb+1) 79 i1 (.agg (#[.int .u64 0,.int .i64 0,.int .i64 0,.int .i64 0,.int .u64 0,.int .u64 0,.int .u64 0,.int .u64 0,.int .u64 0,.int .u64 0,.int .u64 0,.int .u64 0,.int .u64 0,.int .u64 0,.int .u64 0,.int .u64 0,.int .u64 0,.int .u64 0,.int .u64 0,.int .u64 0,.int .u64 0,.int .u64 0,.slice none 0 0]:Array Value)) 23 200 Tryz.underlying104 hi hz0 hz1 hz2 rfl (by decide) _ _ _ rfl (hrowv.alloc _) ⟨wv.heap.size,0,none⟩ 1 1 gs.toList rfl (by rw [HLEN.out]) (fun j u hj=>zY wv gs 79 j u hj) HONE.out (by unfold maxLen;omega) (by omega) (by simp;omega) ?_;intro v' w5 hown5 hgrow5 hob5;have K5:Kp (fun g=>hb+1≤g) wv w5:=yz (zy ga) hgrow5 (fun g e=>.inl (zn hrowv g e));have HZH5:=hQ9 (HZHV.out.kp K5 (by omega));have hcA:w5.cell? ⟨hb,ww,none⟩=some (.bool (hadW pl ww)):=ag_at HZH5.out _ (zat pl ww HW4.out);have hfA:=ag_fr HZH5.out ww (by show ww<4;exact HW4.out);rw [hh]at hcA))
       go_roundw
       case rel =>
        have z7:=HZH5.out.set1 ww (.bool true) (by show ww<4;exact HW4.out)
        have KH:Kp (fun g=>g=hb) w5 (w5.setCell ⟨hb,ww,none⟩ (.bool true)):=yh (S:=fun g=>g=hb) (p:=⟨hb,ww,none⟩) (zN _ w5) (.inl rfl) (.bool true)
        rw [show ww=wvI x from HWW.out.symm,zau]at z7
        rw [show wvI x=ww from HWW.out]at z7
        have h56:=K5.size
        have h67:=KH.size
        have hpi:=HPI.out
        have hqb:=HBE.out
        have hob:=zK HROW.out
        have hlw5:∀ S∈M++[S0.mv A1 c1],∀ ad,S.A=some ad→S.l=[]∨hb+1≤ad.block:=by
         intro T hT ad e
         rcases List.mem_append.1 hT with h | h
         ·exact HLW.out T h ad e
         ·obtain rfl:T=S0.mv A1 c1:=by simpa using h
          exact(HFR.out ad e).imp id (fun h1=>by omega)
        refine⟨n+1,M++[S0.mv A1 c1],by omega,by rw [HTS.out,zj0 pl x (by rw [HWW.out];exact hh),HKN.out];rfl,by go_num,by omega,by rw [HNS.out];exact HMV.out.snoc S0 A1 c1,?_,fun S hS=>xh (?_:S.at w5) KH (fun ad e=>(hlw5 S hS ad e).imp id (fun h1 h2=>by have h2:ad.block=hb:=h2;omega)),?_,hlw5,?_,?_,?_,by rw [HTS.out];exact z7,?_,?_,?_,?_,?_⟩
        ·intro T hT
         rcases List.mem_append.1 hT with h | h
         ·exact HOKM.out T h
         ·obtain rfl:T=S0.mv A1 c1:=by simpa using h
          exact AP.mv_ok HSO.out _ _
        ·rcases List.mem_append.1 hS with h | h
         ·exact yt ((HATV.out S h).gr ga) hgrow5 (fun ad e g hg=>HNE.out S h ad e g hg)
         ·obtain rfl:S=S0.mv A1 c1:=by simpa using h
          exact yt (HATS.out.gr ga) hgrow5 (fun ad e g hg=>by
           rcases HFR.out ad e with h1 | h1
           ·exact .inl h1
           ·have:=(hob g hg).2
            exact .inr (by omega))
        ·intro T hT ad e g hg
         have hlt9:T.l=[]∨ad.block<(wv.alloc (.cells gs 79)).heap.size:=by
          rcases List.mem_append.1 hT with h | h
          ·exact yG ((HATV.out T h).gr ga) ad e
          ·obtain rfl:T=S0.mv A1 c1:=by simpa using h
           exact yG (HATS.out.gr ga) ad e
         rcases hob5 with h3 | h3
         ·rw [h3]at hg
          rcases List.mem_append.1 hT with h | h
          ·exact HNE.out T h ad e g hg
          ·obtain rfl:T=S0.mv A1 c1:=by simpa using h
           rcases HFR.out ad e with h1 | h1
           ·exact .inl h1
           ·have:=(hob g hg).2
            exact .inr (by omega)
         ·rw [h3]at hg;injection hg with hg
          rcases hlt9 with h1 | h1
          ·exact .inl h1
          ·exact .inr (by omega)
        ·rw [←HTA.out]
         exact zo hown5 KH (fun g h h3=>by have:=zn hown5 g h;have h3:g=hb:=h3;omega)
        ·intro i hi
         rw [HTS.out]
         have h1:=HP.out i hi
         have h2:=HQB.out i hi
         exact((HKSV.out i hi).kp K5 (fun h=>by omega) (fun h=>by omega)).kp KH (fun h=>by have h:p i+1=hb:=h;omega) (fun h=>by have h:p i=hb:=h;omega)
        ·exact(HZKV.out.kp K5 (fun h=>by omega)).kp KH (fun h=>by have h:qk=hb:=h;omega)
        ·exact(HZCV.out.kp K5 (fun h=>by omega)).kp KH (fun h=>by have h:q3=hb:=h;omega)
        ·exact(HSPV.out.kpx K5 (fun ad e h=>by have h:hb+1≤ad.block:=h;have:=HAU.out ad e;omega) (fun T hT ad e=>(HMU.out T hT ad e).imp id (fun h1 h=>by have h:hb+1≤ad.block:=h;omega))).kpx KH (fun ad e h=>by have h:ad.block=hb:=h;have:=HAU.out ad e;omega) (fun T hT ad e=>(HMU.out T hT ad e).imp id (fun h1 h=>by have h:ad.block=hb:=h;omega))
        ·intro i hi
         have h1:=zO (HLDV.out i hi)
         have h2:=HLB.out
         rw [zx]at h1
         exact(World.cell?_of_block (by rw [zx];exact(zV (S:=fun g=>hb≤g) (xV K5 (fun g h=>by omega)) (xV KH (fun g h=>by omega))).block lad.block h1 (by omega))).trans (HLDV.out i hi)
        ·exact(((HRRV.out.kp K5 (Nat.le_refl _) (fun ad e h1 h=>by have:=HRB.out ad e;have h:hb+1≤ad.block:=h;omega)).more K5.size).kp KH (Nat.le_refl _) (fun ad e h1 h=>by have:=HRB.out ad e;have h:ad.block=hb:=h;omega)).more KH.size
        ·have g6:=zJ HGGV.out K5 HGGV.out.size (fun i hi=>by have hi:hb+1≤i:=hi;omega)
         exact zJ g6 KH g6.size (fun i hi=>by have hi:i=hb:=hi;omega)
       case measure=>have:=HI4.out;simp [Go.RowKit.intOf]<;>omega
   ·obtain rfl:n=l.length:=by omega
    rw [List.take_length]at zh
    try rw [List.take_length]
    obtain⟨B,cap,rfl,hB,hc1,hc2,hbB⟩:=kg hrow (by rw [hmv.len];simp [qS])
    have hapM:Aps wr B M:=⟨hB,hok,hat⟩
    have HM3:Hid (M.length=l.length):=hQ9 (by rw [hmv.len];simp [qS])
    have HMV:=hQ9 hmv
    have HMVC:Hid (mvE (kpH seed 4 RA Rc) (cm12 0) MC=0):=hQ9 (by rw [qA HMV3.out];exact HMVE.out)
    have HSY:Hid (∀ y,Grew wr y→Std y):=hQ9 (fun y g=>HS.out.grew (zb hg g))
    have HKP:Hid (∀ y,Grew wr y→(kpH seed 4 RA Rc).at y):=hQ9 (fun y g=>rRr.gr g)
    have HKM:Hid (∀ y,Grew wr y→y.rangeAt qk 0 kc.toList):=hQ9 (fun y g=>(zk.grew g).cell)
    have HCM:Hid (∀ y,Grew wr y→y.rangeAt q3 0 ct.toList):=hQ9 (fun y g=>(zc.grew g).cell)
    have HSP:Hid (∀ y,Grew wr y→Sps y A3c MC):=hQ9 (fun y g=>hsp.gr g)
    have HAM:Hid (∀ y,Grew wr y→Aps y B M):=hQ9 (fun y g=>hapM.gr g)
    have HGWR:=hQ9 hg
    have HK0:Hid (kpH seed 4 RA Rc).ok:=hQ9 (zhr seed 4 (by omega) RA Rc)
    have hmk:=HKM.out wr (za _)
    have hmc:=HCM.out wr (za _)
    have HML100:Hid (M.length≤100000):=hQ9 (by rw [HM3.out];have:=HL12.out;omega)
    clear hrow hmv hok hat hne hlow hks zk zh zc hsp hld rRr hapM hB hc1 hc2 hbB hg hB0 hlt hn hi hz0 hz1 hz2 HP HAP HLB HRB FL FR HRA HPA
    by_cases h3:3≤cntW l
    ·have hen:enoughA (kpH seed 4 RA Rc) d M=true:=by rw [jC HL12.out HMV.out];exact decide_eq_true h3
     have e26:decide ((cntW l:Int)<3)=false:=decide_eq_false (by omega)
     obtain⟨ME,hME⟩:∃ E,chosenA (kpH seed 4 RA Rc) d M=E:=⟨_,rfl⟩
     have HME3:Hid (ME.length=3):=hQ9 (by rw [←hME,jD hen];rfl)
     have HCQ:Hid (cqA (kpH seed 4 RA Rc) d ME=0):=hQ9 (by rw [←hME];exact zhw hen)
     have HLT:Hid ((ME.map AP.who).Pairwise (·<·)):=hQ9 (by rw [←hME];exact qB)
     have CG:Hid (Calls Tryz.prog 45 #[.agg kc,.agg ct,.slice B l.length cap] wr fun e w'=>(∃ SB k N D j E,e=.returned (.tuple #[.agg (sqC (cm12 0) SB 3 k D 3 j),.int .i64 0])∧MvL MC N∧Sps w' SB N∧MvA ME E∧Aps w' D E)∧Grew wr w'):=hQ9 (by
      have:=jA (cm12 0) HCI.out HK0.out A3c k3 MC (by rw [HML.out];decide) HMVC.out B cap M HML100.out wr (HSY.out wr (za _)) (HKP.out wr (za _)) (HSP.out wr (za _)) (HAM.out wr (za _)) (by rw [HD.out];exact hen)
      rw [HML.out,HM3.out,HCT0.out,HKC.out,HD.out,hME,HME3.out]at this
      refine this.mono ?_
      rintro e w' ⟨⟨SB,k,N,D,j,E,h1,h2,h3,h4,h5,-⟩,gg⟩
      exact⟨⟨SB,k,N,D,j,E,h1,h2,h3,h4,h5⟩,gg⟩)
     clear hME hen h3
     go_wp2_with(first | (refine zg (by rfl) 91 (.tmp 6) rfl qk 0 rfl kc.toList _ hmk hkt rfl HSKL.out ?_;simp only [Array.toArray_toList]) | (refine zg (by rfl) 43 (.tmp 7) rfl q3 0 rfl ct.toList _ hmc hct rfl HCTL.out ?_;simp only [Array.toArray_toList]))
     refine(CG.out).mono ?_
     rintro e wA ⟨⟨SB,sk,N,DD,sj,E,rfl,mN,pN,mE,pE⟩,gA⟩
     clear CG hmk hmc
     obtain⟨sd,hD,-,-⟩:=pE.get 0 (by rw [mE.len,HME3.out];decide)
     subst hD
     obtain⟨sq,hsq⟩:∃ c,sqC (cm12 0) SB 3 sk (some ⟨sd,0,none⟩) 3 sj=c:=⟨_,rfl⟩
     have HSQ:=hQ9 hsq
     obtain⟨wB,hwB,htB,gB,zB⟩:=yF wA 106 (#[.int .i64 0,.int .i64 0,.int .i64 0,.int .i64 0,.int .i64 0,.slice none 0 0,.slice none 0 0]:Array Value) sq (by rw [←hsq]<;>rfl)
     have HWB:=hQ9 hwB
     have HTB:=hQ9 htB
     have HSI9:Hid ((Tryz.prog.info? 106).map (·.size)=some sq.size):=hQ9 (by rw [←hsq];exact yv)
     have HSL9:Hid ((Tryz.prog.info? 106).map (·.size)=some sq.toList.length):=hQ9 (by rw [←hsq];exact yv)
     have HON9:Hid (sq.all (·.oneCell')=true):=hQ9 (by rw [←hsq];exact qY _ _ _ _ _ _ _)
     rw [hsq]
     clear hsq hwB htB
     go_upto_region 28 with (with_reducible refine wpList_store_mid rfl 106 (.tmp 16) (.tmp 88) rfl wA.heap.size 0 sq rfl rfl HTB.out HSI9.out HON9.out ?_;rw [HWB.out];clear HWB HTB;generalize wA.heap.size=q9 at *)
     have GB:=zb gA gB
     have GWB:=zb HGWR.out GB
     have HE3:Hid (E.length=3):=hQ9 (by rw [mE.len,HME3.out])
     have HN3:Hid (N.length=3):=hQ9 (by rw [mN.len,HML.out])
     have HND:Hid (ctD (cm12 0) N=d):=hQ9 (by rw [zht mN,HD.out])
     have HNV:Hid (mvE (kpH seed 4 RA Rc) (cm12 0) N=0):=hQ9 (by rw [qA mN];exact HMVC.out)
     have HCE:Hid (cqA (kpH seed 4 RA Rc) d E=0):=hQ9 (by rw [cqA_mv mE];exact HCQ.out)
     have HPN:Hid (∀ y,Grew wB y→Sps y SB N):=hQ9 (fun y g=>pN.gr (zb gB g))
     have HPE:Hid (∀ y,Grew wB y→Aps y (some ⟨sd,0,none⟩) E):=hQ9 (fun y g=>pE.gr (zb gB g))
     have Y9:Hid (∀ y,Grew wB y→y.rangeAt q9 0 sq.toList):=hQ9 (fun y g=>(zB.grew g).cell)
     have Y6:Hid (∀ y,Grew wB y→y.cell? ⟨q9,6,none⟩=some (.slice (some ⟨sd,0,none⟩) 3 sj)):=hQ9 (fun y g=>by simpa using (zB.grew g).cell 6 _ (by rw [←HSQ.out];rfl))
     have YK:Hid (∀ y,Grew wB y→y.rangeAt qk 0 kc.toList):=hQ9 (fun y g=>HKM.out y (zb GB g))
     obtain⟨x0,x1,x2,hx01,hx12,hc0,hc1,hc2⟩:∃ x0 x1 x2:Int,x0<x1∧x1<x2∧(∀ y,Grew wB y→y.cell? ⟨sd,1,none⟩=some (.int .i64 x0))∧(∀ y,Grew wB y→y.cell? ⟨sd,24,none⟩=some (.int .i64 x1))∧(∀ y,Grew wB y→y.cell? ⟨sd,47,none⟩=some (.int .i64 x2)):=by
      have hE3:=HE3.out
      have hM3:=HME3.out
      have hlt:=HLT.out
      have hw:∀ k (h:k<E.length) (h':k<ME.length),E[k].who=ME[k].who:=fun k h h'=>by
       obtain⟨A,c,e⟩:=mE.each k h' h
       rw [e];rfl
      have hp:∀ i j (hi:i<ME.length) (hj:j<ME.length),i<j→ME[i].who<ME[j].who:=fun i j hi hj hij=>by
       have:=(List.pairwise_iff_getElem.1 hlt) i j (by simpa using hi) (by simpa using hj) hij
       simpa using this
      refine⟨(E[0]'(by omega)).who,(E[1]'(by omega)).who,(E[2]'(by omega)).who,?_,?_,fun y g=>?_,fun y g=>?_,fun y g=>?_⟩
      ·rw [hw 0 (by omega) (by omega),hw 1 (by omega) (by omega)];exact hp 0 1 (by omega) (by omega) (by omega)
      ·rw [hw 1 (by omega) (by omega),hw 2 (by omega) (by omega)];exact hp 1 2 (by omega) (by omega) (by omega)
      ·obtain⟨q,e,_,h⟩:=(HPE.out y g).get 0 (by omega)
       cases e
       exact h 1 _ rfl
      ·obtain⟨q,e,_,h⟩:=(HPE.out y g).get 1 (by omega)
       cases e
       exact h 1 _ rfl
      ·obtain⟨q,e,_,h⟩:=(HPE.out y g).get 2 (by omega)
       cases e
       exact h 1 _ rfl
     have HC0:=hQ9 hc0
     have HC1:=hQ9 hc1
     have HC2:=hQ9 hc2
     have HX01:Hid (decide (x0<x1)=true):=hQ9 (decide_eq_true hx01)
     have HX12:Hid (decide (x1<x2)=true):=hQ9 (decide_eq_true hx12)
     have CVS:Hid (∀ W,Grew wB W→Calls Tryz.prog 50 #[.agg kc,.agg sq] W fun e w'=>e=.returned (.int .i64 0)∧Grew W w'):=hQ9 (fun W g=>by
      have:=zck (cm12 0) HCI.out HK0.out SB sk N (by rw [HN3.out];decide) HNV.out (some ⟨sd,0,none⟩) sj E (by rw [HE3.out];decide) W (HSY.out W (zb GB g)) (HKP.out W (zb GB g)) (HPN.out W g) (HPE.out W g)
      rw [HND.out,HCE.out,HN3.out,HE3.out,HSQ.out,HKC.out]at this
      exact this)
     have HGF:=hQ9 GWB
     clear gA gB zB pN pE mN mE GB GWB hc0 hc1 hc2 hx01 hx12 e26
     refine zw 40 (fun ix9=>match ix9 with
      | 0=>fun v _=>v=.int .i64 0
      | 1=>fun v _=>v=.bool true
      | 2=>fun v _=>v=.bool true
      | 3=>fun v _=>v=.pointer (some ⟨q9,6,none⟩)
      | 4=>fun v _=>v=.slice (some ⟨sd,0,none⟩) 3 sj
      | 5=>fun v _=>v=.int .i64 3
      | 6=>fun v _=>v=.bool true
      | 7=>fun v _=>v=.bool true
      | 8=>fun v _=>v=.bool true
      | 9=>fun v _=>v=.agg kc
      | 10=>fun v _=>v=.agg sq
      | 11=>fun v _=>v=.int .i64 0
      | 12=>fun v _=>v=.bool true
      | 13=>fun v _=>v=.bool true
      | 14=>fun v _=>v=.bool true
      | 15=>fun v _=>v=.pointer (some ⟨q9,6,none⟩)
      | 16=>fun v _=>v=.slice (some ⟨sd,0,none⟩) 3 sj
      | 17=>fun v _=>v=.pointer (some ⟨sd,0,none⟩)
      | 18=>fun v _=>v=.pointer (some ⟨sd,1,none⟩)
      | 19=>fun v _=>v=.int .i64 x0
      | 20=>fun v _=>v=.pointer (some ⟨q9,6,none⟩)
      | 21=>fun v _=>v=.slice (some ⟨sd,0,none⟩) 3 sj
      | 22=>fun v _=>v=.pointer (some ⟨sd,23,none⟩)
      | 23=>fun v _=>v=.pointer (some ⟨sd,24,none⟩)
      | 24=>fun v _=>v=.int .i64 x1
      | 25=>fun v _=>v=.bool true
      | 26=>fun v _=>v=.bool true
      | 27=>fun v _=>v=.bool true
      | 28=>fun v _=>v=.pointer (some ⟨q9,6,none⟩)
      | 29=>fun v _=>v=.slice (some ⟨sd,0,none⟩) 3 sj
      | 30=>fun v _=>v=.pointer (some ⟨sd,23,none⟩)
      | 31=>fun v _=>v=.pointer (some ⟨sd,24,none⟩)
      | 32=>fun v _=>v=.int .i64 x1
      | 33=>fun v _=>v=.pointer (some ⟨q9,6,none⟩)
      | 34=>fun v _=>v=.slice (some ⟨sd,0,none⟩) 3 sj
      | 35=>fun v _=>v=.pointer (some ⟨sd,46,none⟩)
      | 36=>fun v _=>v=.pointer (some ⟨sd,47,none⟩)
      | 37=>fun v _=>v=.int .i64 x2
      | 38=>fun v _=>v=.bool true
      | 39=>fun v _=>v=.bool true
      | _=>fun _ _=>True) (by kernel_rfl) (by kernel_rfl) ?_ ?_ ?_
     ·intro i v x y h hg
      match i,h with
      | 0,h | 1,h | 2,h | 3,h | 4,h | 5,h | 6,h | 7,h | 8,h | 9,h | 10,h | 11,h | 12,h | 13,h | 14,h | 15,h | 16,h | 17,h | 18,h | 19,h | 20,h | 21,h | 22,h | 23,h | 24,h | 25,h | 26,h | 27,h | 28,h | 29,h | 30,h | 31,h | 32,h | 33,h | 34,h | 35,h | 36,h | 37,h | 38,h | 39,h=>exact h
      | m+40,_=>trivial
     ·simp only [actOf,tk1,tk0,dr1,dr0,Act.put,si1,st1,st0,Nat.reduceAdd]
      refine⟨?_,?_,?_,?_,?_,?_,?_,?_,?_,?_,?_,?_,?_,?_,?_,?_,?_,?_,?_,?_,?_,?_,?_,?_,?_,?_,?_,?_,?_,?_,?_,?_,?_,?_,?_,?_,?_,?_,?_,?_,trivial⟩
      ·intro vs y hg hd
       dsimp only
       go_wp2_with fail
       exact⟨rfl,_,rfl,za _,rfl⟩
      ·intro vs y hg hd
       obtain⟨h0,_⟩:=hd
       replace h0:=h0 rfl
       dsimp only
       rw [show vs 0=_ from h0]
       go_wp2_with fail
       exact⟨rfl,_,rfl,za _,rfl⟩
      ·intro vs y hg hd
       obtain⟨h1,_⟩:=hd
       replace h1:=h1 rfl
       dsimp only
       rw [show vs 1=_ from h1]
       go_wp2_with fail
       exact⟨rfl,_,rfl,za _,rfl⟩
      ·intro vs y hg hd
       have hx:(Region.binds .any { on:=2,ground:=.guard }=true→vs 2=.bool true)∧True:=hd
       have h2:vs 2=.bool true:=hx.1 rfl
       clear hx
       dsimp only
       rw [show vs 2=_ from h2]
       go_wp2_with fail
       exact⟨rfl,_,rfl,za _,rfl⟩
      ·intro vs y hg hd
       have hx:(Region.binds .any { on:=3,ground:=.data }=true→vs 3=.pointer (some ⟨q9,6,none⟩))∧(Region.binds .any { on:=2,ground:=.guard }=true→vs 2=.bool true)∧True:=hd
       have h3:vs 3=.pointer (some ⟨q9,6,none⟩):=hx.1 rfl
       have h2:vs 2=.bool true:=hx.2.1 rfl
       clear hx
       dsimp only
       rw [show vs 3=_ from h3,show vs 2=_ from h2]
       have hc:=Y6.out y hg
       go_wp2_with fail
       exact⟨rfl,_,rfl,za _,rfl⟩
      ·intro vs y hg hd
       have hx:(Region.binds .any { on:=4,ground:=.data }=true→vs 4=.slice (some ⟨sd,0,none⟩) 3 sj)∧(Region.binds .any { on:=2,ground:=.guard }=true→vs 2=.bool true)∧True:=hd
       have h4:vs 4=.slice (some ⟨sd,0,none⟩) 3 sj:=hx.1 rfl
       have h2:vs 2=.bool true:=hx.2.1 rfl
       clear hx
       dsimp only
       rw [show vs 4=_ from h4,show vs 2=_ from h2]
       go_wp2_with fail
       exact⟨rfl,_,rfl,za _,rfl⟩
      ·intro vs y hg hd
       have hx:(Region.binds .any { on:=5,ground:=.data }=true→vs 5=.int .i64 3)∧(Region.binds .any { on:=2,ground:=.guard }=true→vs 2=.bool true)∧True:=hd
       have h5:vs 5=.int .i64 3:=hx.1 rfl
       have h2:vs 2=.bool true:=hx.2.1 rfl
       clear hx
       dsimp only
       rw [show vs 5=_ from h5,show vs 2=_ from h2]
       go_wp2_with fail
       exact⟨rfl,_,rfl,za _,rfl⟩
      ·intro vs y hg hd
       obtain⟨h2,h6,_⟩:=hd
       replace h2:=h2 rfl
       replace h6:=h6 rfl
       dsimp only
       rw [show vs 2=_ from h2,show vs 6=_ from h6]
       go_wp2_with fail
       exact⟨rfl,_,rfl,za _,rfl⟩
      ·intro vs y hg hd
       obtain⟨h7,_⟩:=hd
       replace h7:=h7 rfl
       dsimp only
       rw [show vs 7=_ from h7]
       go_wp2_with fail
       exact⟨rfl,_,rfl,za _,rfl⟩
      ·intro vs y hg hd
       have hx:(Region.binds .any { on:=8,ground:=.guard }=true→vs 8=.bool true)∧True:=hd
       have h8:vs 8=.bool true:=hx.1 rfl
       clear hx
       dsimp only
       rw [show vs 8=_ from h8]
       have hm:=YK.out y hg
       go_wp2_with(refine zg (by rfl) 91 (.tmp 6) rfl qk 0 rfl kc.toList _ hm hkt rfl HSKL.out ?_;simp only [Array.toArray_toList])
       exact⟨rfl,_,rfl,za _,rfl⟩
      ·intro vs y hg hd
       have hx:(Region.binds .any { on:=8,ground:=.guard }=true→vs 8=.bool true)∧True:=hd
       have h8:vs 8=.bool true:=hx.1 rfl
       clear hx
       dsimp only
       rw [show vs 8=_ from h8]
       have hm:=Y9.out y hg
       go_wp2_with(refine zg (by rfl) 106 (.tmp 16) rfl q9 0 rfl sq.toList _ hm huq rfl HSL9.out ?_;simp only [Array.toArray_toList])
       exact⟨rfl,_,rfl,za _,rfl⟩
      ·intro vs y hg hd
       have hx:(Region.binds .any { on:=9,ground:=.data }=true→vs 9=.agg kc)∧(Region.binds .any { on:=10,ground:=.data }=true→vs 10=.agg sq)∧(Region.binds .any { on:=8,ground:=.chain }=true→vs 8=.bool true)∧(Region.binds .any { on:=8,ground:=.guard }=true→vs 8=.bool true)∧True:=hd
       have h9:vs 9=.agg kc:=hx.1 rfl
       have h10:vs 10=.agg sq:=hx.2.1 rfl
       have h8:vs 8=.bool true:=hx.2.2.2.1 rfl
       clear hx
       dsimp only
       rw [show vs 9=_ from h9,show vs 10=_ from h10,show vs 8=_ from h8]
       go_wp2_with(go_at_call 50;refine(CVS.out y hg).mono ?_;rintro e z ⟨rfl,gz⟩)
       exact⟨rfl,_,rfl,gz,rfl⟩
      ·intro vs y hg hd
       have hx:(Region.binds .any { on:=11,ground:=.data }=true→vs 11=.int .i64 0)∧(Region.binds .any { on:=8,ground:=.guard }=true→vs 8=.bool true)∧True:=hd
       have h11:vs 11=.int .i64 0:=hx.1 rfl
       have h8:vs 8=.bool true:=hx.2.1 rfl
       clear hx
       dsimp only
       rw [show vs 11=_ from h11,show vs 8=_ from h8]
       go_wp2_with fail
       exact⟨rfl,_,rfl,za _,rfl⟩
      ·intro vs y hg hd
       obtain⟨h8,h12,_⟩:=hd
       replace h8:=h8 rfl
       replace h12:=h12 rfl
       dsimp only
       rw [show vs 8=_ from h8,show vs 12=_ from h12]
       go_wp2_with fail
       exact⟨rfl,_,rfl,za _,rfl⟩
      ·intro vs y hg hd
       obtain⟨h13,_⟩:=hd
       replace h13:=h13 rfl
       dsimp only
       rw [show vs 13=_ from h13]
       go_wp2_with fail
       exact⟨rfl,_,rfl,za _,rfl⟩
      ·intro vs y hg hd
       have hx:(Region.binds .any { on:=14,ground:=.guard }=true→vs 14=.bool true)∧True:=hd
       have h14:vs 14=.bool true:=hx.1 rfl
       clear hx
       dsimp only
       rw [show vs 14=_ from h14]
       go_wp2_with fail
       exact⟨rfl,_,rfl,za _,rfl⟩
      ·intro vs y hg hd
       have hx:(Region.binds .any { on:=15,ground:=.data }=true→vs 15=.pointer (some ⟨q9,6,none⟩))∧(Region.binds .any { on:=14,ground:=.guard }=true→vs 14=.bool true)∧True:=hd
       have h15:vs 15=.pointer (some ⟨q9,6,none⟩):=hx.1 rfl
       have h14:vs 14=.bool true:=hx.2.1 rfl
       clear hx
       dsimp only
       rw [show vs 15=_ from h15,show vs 14=_ from h14]
       have hc:=Y6.out y hg
       go_wp2_with fail
       exact⟨rfl,_,rfl,za _,rfl⟩
      ·intro vs y hg hd
       have hx:(Region.binds .any { on:=16,ground:=.data }=true→vs 16=.slice (some ⟨sd,0,none⟩) 3 sj)∧(Region.binds .any { on:=14,ground:=.guard }=true→vs 14=.bool true)∧True:=hd
       have h16:vs 16=.slice (some ⟨sd,0,none⟩) 3 sj:=hx.1 rfl
       have h14:vs 14=.bool true:=hx.2.1 rfl
       clear hx
       dsimp only
       rw [show vs 16=_ from h16,show vs 14=_ from h14]
       go_wp2_with fail
       exact⟨rfl,_,rfl,za _,rfl⟩
      ·intro vs y hg hd
       have hx:(Region.binds .any { on:=17,ground:=.data }=true→vs 17=.pointer (some ⟨sd,0,none⟩))∧(Region.binds .any { on:=14,ground:=.guard }=true→vs 14=.bool true)∧True:=hd
       have h17:vs 17=.pointer (some ⟨sd,0,none⟩):=hx.1 rfl
       have h14:vs 14=.bool true:=hx.2.1 rfl
       clear hx
       dsimp only
       rw [show vs 17=_ from h17,show vs 14=_ from h14]
       go_wp2_with fail
       exact⟨rfl,_,rfl,za _,rfl⟩
      ·intro vs y hg hd
       have hx:(Region.binds .any { on:=18,ground:=.data }=true→vs 18=.pointer (some ⟨sd,1,none⟩))∧(Region.binds .any { on:=14,ground:=.guard }=true→vs 14=.bool true)∧True:=hd
       have h18:vs 18=.pointer (some ⟨sd,1,none⟩):=hx.1 rfl
       have h14:vs 14=.bool true:=hx.2.1 rfl
       clear hx
       dsimp only
       rw [show vs 18=_ from h18,show vs 14=_ from h14]
       have hc:=HC0.out y hg
       go_wp2_with fail
       exact⟨rfl,_,rfl,za _,rfl⟩
      ·intro vs y hg hd
       have hx:(Region.binds .any { on:=14,ground:=.guard }=true→vs 14=.bool true)∧True:=hd
       have h14:vs 14=.bool true:=hx.1 rfl
       clear hx
       dsimp only
       rw [show vs 14=_ from h14]
       go_wp2_with fail
       exact⟨rfl,_,rfl,za _,rfl⟩
      ·intro vs y hg hd
       have hx:(Region.binds .any { on:=20,ground:=.data }=true→vs 20=.pointer (some ⟨q9,6,none⟩))∧(Region.binds .any { on:=14,ground:=.guard }=true→vs 14=.bool true)∧True:=hd
       have h20:vs 20=.pointer (some ⟨q9,6,none⟩):=hx.1 rfl
       have h14:vs 14=.bool true:=hx.2.1 rfl
       clear hx
       dsimp only
       rw [show vs 20=_ from h20,show vs 14=_ from h14]
       have hc:=Y6.out y hg
       go_wp2_with fail
       exact⟨rfl,_,rfl,za _,rfl⟩
      ·intro vs y hg hd
       have hx:(Region.binds .any { on:=21,ground:=.data }=true→vs 21=.slice (some ⟨sd,0,none⟩) 3 sj)∧(Region.binds .any { on:=14,ground:=.guard }=true→vs 14=.bool true)∧True:=hd
       have h21:vs 21=.slice (some ⟨sd,0,none⟩) 3 sj:=hx.1 rfl
       have h14:vs 14=.bool true:=hx.2.1 rfl
       clear hx
       dsimp only
       rw [show vs 21=_ from h21,show vs 14=_ from h14]
       go_wp2_with fail
       exact⟨rfl,_,rfl,za _,rfl⟩
      ·intro vs y hg hd
       have hx:(Region.binds .any { on:=22,ground:=.data }=true→vs 22=.pointer (some ⟨sd,23,none⟩))∧(Region.binds .any { on:=14,ground:=.guard }=true→vs 14=.bool true)∧True:=hd
       have h22:vs 22=.pointer (some ⟨sd,23,none⟩):=hx.1 rfl
       have h14:vs 14=.bool true:=hx.2.1 rfl
       clear hx
       dsimp only
       rw [show vs 22=_ from h22,show vs 14=_ from h14]
       go_wp2_with fail
       exact⟨rfl,_,rfl,za _,rfl⟩
      ·intro vs y hg hd
       have hx:(Region.binds .any { on:=23,ground:=.data }=true→vs 23=.pointer (some ⟨sd,24,none⟩))∧(Region.binds .any { on:=14,ground:=.guard }=true→vs 14=.bool true)∧True:=hd
       have h23:vs 23=.pointer (some ⟨sd,24,none⟩):=hx.1 rfl
       have h14:vs 14=.bool true:=hx.2.1 rfl
       clear hx
       dsimp only
       rw [show vs 23=_ from h23,show vs 14=_ from h14]
       have hc:=HC1.out y hg
       go_wp2_with fail
       exact⟨rfl,_,rfl,za _,rfl⟩
      ·intro vs y hg hd
       have hx:(Region.binds .any { on:=19,ground:=.data }=true→vs 19=.int .i64 x0)∧(Region.binds .any { on:=24,ground:=.data }=true→vs 24=.int .i64 x1)∧(Region.binds .any { on:=14,ground:=.guard }=true→vs 14=.bool true)∧True:=hd
       have h19:vs 19=.int .i64 x0:=hx.1 rfl
       have h24:vs 24=.int .i64 x1:=hx.2.1 rfl
       have h14:vs 14=.bool true:=hx.2.2.1 rfl
       clear hx
       dsimp only
       rw [show vs 19=_ from h19,show vs 24=_ from h24,show vs 14=_ from h14]
       go_wp2_with fail
       exact⟨rfl,_,rfl,za _,by rw [HX01.out]⟩
      ·intro vs y hg hd
       obtain⟨h14,h25,_⟩:=hd
       replace h14:=h14 rfl
       replace h25:=h25 rfl
       dsimp only
       rw [show vs 14=_ from h14,show vs 25=_ from h25]
       go_wp2_with fail
       exact⟨rfl,_,rfl,za _,rfl⟩
      ·intro vs y hg hd
       obtain⟨h26,_⟩:=hd
       replace h26:=h26 rfl
       dsimp only
       rw [show vs 26=_ from h26]
       go_wp2_with fail
       exact⟨rfl,_,rfl,za _,rfl⟩
      ·intro vs y hg hd
       have hx:(Region.binds .any { on:=27,ground:=.guard }=true→vs 27=.bool true)∧True:=hd
       have h27:vs 27=.bool true:=hx.1 rfl
       clear hx
       dsimp only
       rw [show vs 27=_ from h27]
       go_wp2_with fail
       exact⟨rfl,_,rfl,za _,rfl⟩
      ·intro vs y hg hd
       have hx:(Region.binds .any { on:=28,ground:=.data }=true→vs 28=.pointer (some ⟨q9,6,none⟩))∧(Region.binds .any { on:=27,ground:=.guard }=true→vs 27=.bool true)∧True:=hd
       have h28:vs 28=.pointer (some ⟨q9,6,none⟩):=hx.1 rfl
       have h27:vs 27=.bool true:=hx.2.1 rfl
       clear hx
       dsimp only
       rw [show vs 28=_ from h28,show vs 27=_ from h27]
       have hc:=Y6.out y hg
       go_wp2_with fail
       exact⟨rfl,_,rfl,za _,rfl⟩
      ·intro vs y hg hd
       have hx:(Region.binds .any { on:=29,ground:=.data }=true→vs 29=.slice (some ⟨sd,0,none⟩) 3 sj)∧(Region.binds .any { on:=27,ground:=.guard }=true→vs 27=.bool true)∧True:=hd
       have h29:vs 29=.slice (some ⟨sd,0,none⟩) 3 sj:=hx.1 rfl
       have h27:vs 27=.bool true:=hx.2.1 rfl
       clear hx
       dsimp only
       rw [show vs 29=_ from h29,show vs 27=_ from h27]
       go_wp2_with fail
       exact⟨rfl,_,rfl,za _,rfl⟩
      ·intro vs y hg hd
       have hx:(Region.binds .any { on:=30,ground:=.data }=true→vs 30=.pointer (some ⟨sd,23,none⟩))∧(Region.binds .any { on:=27,ground:=.guard }=true→vs 27=.bool true)∧True:=hd
       have h30:vs 30=.pointer (some ⟨sd,23,none⟩):=hx.1 rfl
       have h27:vs 27=.bool true:=hx.2.1 rfl
       clear hx
       dsimp only
       rw [show vs 30=_ from h30,show vs 27=_ from h27]
       go_wp2_with fail
       exact⟨rfl,_,rfl,za _,rfl⟩
      ·intro vs y hg hd
       have hx:(Region.binds .any { on:=31,ground:=.data }=true→vs 31=.pointer (some ⟨sd,24,none⟩))∧(Region.binds .any { on:=27,ground:=.guard }=true→vs 27=.bool true)∧True:=hd
       have h31:vs 31=.pointer (some ⟨sd,24,none⟩):=hx.1 rfl
       have h27:vs 27=.bool true:=hx.2.1 rfl
       clear hx
       dsimp only
       rw [show vs 31=_ from h31,show vs 27=_ from h27]
       have hc:=HC1.out y hg
       go_wp2_with fail
       exact⟨rfl,_,rfl,za _,rfl⟩
      ·intro vs y hg hd
       have hx:(Region.binds .any { on:=27,ground:=.guard }=true→vs 27=.bool true)∧True:=hd
       have h27:vs 27=.bool true:=hx.1 rfl
       clear hx
       dsimp only
       rw [show vs 27=_ from h27]
       go_wp2_with fail
       exact⟨rfl,_,rfl,za _,rfl⟩
      ·intro vs y hg hd
       have hx:(Region.binds .any { on:=33,ground:=.data }=true→vs 33=.pointer (some ⟨q9,6,none⟩))∧(Region.binds .any { on:=27,ground:=.guard }=true→vs 27=.bool true)∧True:=hd
       have h33:vs 33=.pointer (some ⟨q9,6,none⟩):=hx.1 rfl
       have h27:vs 27=.bool true:=hx.2.1 rfl
       clear hx
       dsimp only
       rw [show vs 33=_ from h33,show vs 27=_ from h27]
       have hc:=Y6.out y hg
       go_wp2_with fail
       exact⟨rfl,_,rfl,za _,rfl⟩
      ·intro vs y hg hd
       have hx:(Region.binds .any { on:=34,ground:=.data }=true→vs 34=.slice (some ⟨sd,0,none⟩) 3 sj)∧(Region.binds .any { on:=27,ground:=.guard }=true→vs 27=.bool true)∧True:=hd
       have h34:vs 34=.slice (some ⟨sd,0,none⟩) 3 sj:=hx.1 rfl
       have h27:vs 27=.bool true:=hx.2.1 rfl
       clear hx
       dsimp only
       rw [show vs 34=_ from h34,show vs 27=_ from h27]
       go_wp2_with fail
       exact⟨rfl,_,rfl,za _,rfl⟩
      ·intro vs y hg hd
       have hx:(Region.binds .any { on:=35,ground:=.data }=true→vs 35=.pointer (some ⟨sd,46,none⟩))∧(Region.binds .any { on:=27,ground:=.guard }=true→vs 27=.bool true)∧True:=hd
       have h35:vs 35=.pointer (some ⟨sd,46,none⟩):=hx.1 rfl
       have h27:vs 27=.bool true:=hx.2.1 rfl
       clear hx
       dsimp only
       rw [show vs 35=_ from h35,show vs 27=_ from h27]
       go_wp2_with fail
       exact⟨rfl,_,rfl,za _,rfl⟩
      ·intro vs y hg hd
       have hx:(Region.binds .any { on:=36,ground:=.data }=true→vs 36=.pointer (some ⟨sd,47,none⟩))∧(Region.binds .any { on:=27,ground:=.guard }=true→vs 27=.bool true)∧True:=hd
       have h36:vs 36=.pointer (some ⟨sd,47,none⟩):=hx.1 rfl
       have h27:vs 27=.bool true:=hx.2.1 rfl
       clear hx
       dsimp only
       rw [show vs 36=_ from h36,show vs 27=_ from h27]
       have hc:=HC2.out y hg
       go_wp2_with fail
       exact⟨rfl,_,rfl,za _,rfl⟩
      ·intro vs y hg hd
       have hx:(Region.binds .any { on:=32,ground:=.data }=true→vs 32=.int .i64 x1)∧(Region.binds .any { on:=37,ground:=.data }=true→vs 37=.int .i64 x2)∧(Region.binds .any { on:=27,ground:=.guard }=true→vs 27=.bool true)∧True:=hd
       have h32:vs 32=.int .i64 x1:=hx.1 rfl
       have h37:vs 37=.int .i64 x2:=hx.2.1 rfl
       have h27:vs 27=.bool true:=hx.2.2.1 rfl
       clear hx
       dsimp only
       rw [show vs 32=_ from h32,show vs 37=_ from h37,show vs 27=_ from h27]
       go_wp2_with fail
       exact⟨rfl,_,rfl,za _,by rw [HX12.out]⟩
      ·intro vs y hg hd
       obtain⟨h27,h38,_⟩:=hd
       replace h27:=h27 rfl
       replace h38:=h38 rfl
       dsimp only
       rw [show vs 27=_ from h27,show vs 38=_ from h38]
       go_wp2_with fail
       exact⟨rfl,_,rfl,za _,rfl⟩
     ·intro vs wI hg hJ
      have j0:vs 0=.int .i64 0:=hJ 0 (by decide)
      have j1:vs 1=.bool true:=hJ 1 (by decide)
      have j2:vs 2=.bool true:=hJ 2 (by decide)
      have j3:vs 3=.pointer (some ⟨q9,6,none⟩):=hJ 3 (by decide)
      have j4:vs 4=.slice (some ⟨sd,0,none⟩) 3 sj:=hJ 4 (by decide)
      have j5:vs 5=.int .i64 3:=hJ 5 (by decide)
      have j6:vs 6=.bool true:=hJ 6 (by decide)
      have j7:vs 7=.bool true:=hJ 7 (by decide)
      have j8:vs 8=.bool true:=hJ 8 (by decide)
      have j9:vs 9=.agg kc:=hJ 9 (by decide)
      have j10:vs 10=.agg sq:=hJ 10 (by decide)
      have j11:vs 11=.int .i64 0:=hJ 11 (by decide)
      have j12:vs 12=.bool true:=hJ 12 (by decide)
      have j13:vs 13=.bool true:=hJ 13 (by decide)
      have j14:vs 14=.bool true:=hJ 14 (by decide)
      have j15:vs 15=.pointer (some ⟨q9,6,none⟩):=hJ 15 (by decide)
      have j16:vs 16=.slice (some ⟨sd,0,none⟩) 3 sj:=hJ 16 (by decide)
      have j17:vs 17=.pointer (some ⟨sd,0,none⟩):=hJ 17 (by decide)
      have j18:vs 18=.pointer (some ⟨sd,1,none⟩):=hJ 18 (by decide)
      have j19:vs 19=.int .i64 x0:=hJ 19 (by decide)
      have j20:vs 20=.pointer (some ⟨q9,6,none⟩):=hJ 20 (by decide)
      have j21:vs 21=.slice (some ⟨sd,0,none⟩) 3 sj:=hJ 21 (by decide)
      have j22:vs 22=.pointer (some ⟨sd,23,none⟩):=hJ 22 (by decide)
      have j23:vs 23=.pointer (some ⟨sd,24,none⟩):=hJ 23 (by decide)
      have j24:vs 24=.int .i64 x1:=hJ 24 (by decide)
      have j25:vs 25=.bool true:=hJ 25 (by decide)
      have j26:vs 26=.bool true:=hJ 26 (by decide)
      have j27:vs 27=.bool true:=hJ 27 (by decide)
      have j28:vs 28=.pointer (some ⟨q9,6,none⟩):=hJ 28 (by decide)
      have j29:vs 29=.slice (some ⟨sd,0,none⟩) 3 sj:=hJ 29 (by decide)
      have j30:vs 30=.pointer (some ⟨sd,23,none⟩):=hJ 30 (by decide)
      have j31:vs 31=.pointer (some ⟨sd,24,none⟩):=hJ 31 (by decide)
      have j32:vs 32=.int .i64 x1:=hJ 32 (by decide)
      have j33:vs 33=.pointer (some ⟨q9,6,none⟩):=hJ 33 (by decide)
      have j34:vs 34=.slice (some ⟨sd,0,none⟩) 3 sj:=hJ 34 (by decide)
      have j35:vs 35=.pointer (some ⟨sd,46,none⟩):=hJ 35 (by decide)
      have j36:vs 36=.pointer (some ⟨sd,47,none⟩):=hJ 36 (by decide)
      have j37:vs 37=.int .i64 x2:=hJ 37 (by decide)
      have j38:vs 38=.bool true:=hJ 38 (by decide)
      have j39:vs 39=.bool true:=hJ 39 (by decide)
      clear hJ
      simp only [actOf,tk1,tk0,dr1,dr0,Act.put,si1,st1,st0,Nat.reduceAdd]
      rw [show vs 39=_ from j39]
      go_wp2_with fail
      go_ret
      exact⟨rfl,zb HGF.out hg⟩
    ·have hen:enoughA (kpH seed 4 RA Rc) d M=false:=by rw [jC HL12.out HMV.out];exact decide_eq_false h3
     have e26:decide ((cntW l:Int)<3)=true:=decide_eq_true (by omega)
     have CF:Hid (Calls Tryz.prog 45 #[.agg kc,.agg ct,.slice B l.length cap] wr fun e w'=>e=.returned (.tuple #[.agg (#[.int .i64 0,.int .i64 0,.int .i64 0,.int .i64 0,.int .i64 0,.slice none 0 0,.slice none 0 0]:Array Value),.int .i64 8])∧Grew wr w'):=hQ9 (by
      have:=jb (cm12 0) HCI.out HK0.out A3c k3 MC (by rw [HML.out];decide) HMVC.out B cap M HML100.out wr (HSY.out wr (za _)) (HKP.out wr (za _)) (HSP.out wr (za _)) (HAM.out wr (za _)) (by rw [HD.out];exact hen)
      rw [HML.out,HM3.out,HCT0.out,HKC.out]at this
      exact this)
     clear hen h3
     go_wp2_with(first | (refine zg (by rfl) 91 (.tmp 6) rfl qk 0 rfl kc.toList _ hmk hkt rfl HSKL.out ?_;simp only [Array.toArray_toList]) | (refine zg (by rfl) 43 (.tmp 7) rfl q3 0 rfl ct.toList _ hmc hct rfl HCTL.out ?_;simp only [Array.toArray_toList]))
     refine(CF.out).mono ?_
     rintro e wA ⟨rfl,gA⟩
     clear CF hmk hmc
     obtain⟨sq,hsq⟩:∃ c,(#[.int .i64 0,.int .i64 0,.int .i64 0,.int .i64 0,.int .i64 0,.slice none 0 0,.slice none 0 0]:Array Value)=c:=⟨_,rfl⟩
     obtain⟨wB,hwB,htB,gB,zB⟩:=yF wA 106 (#[.int .i64 0,.int .i64 0,.int .i64 0,.int .i64 0,.int .i64 0,.slice none 0 0,.slice none 0 0]:Array Value) sq (by rw [←hsq]<;>rfl)
     have HWB:=hQ9 hwB
     have HTB:=hQ9 htB
     have HSI9:Hid ((Tryz.prog.info? 106).map (·.size)=some sq.size):=hQ9 (by rw [←hsq];exact yv)
     have HSL9:Hid ((Tryz.prog.info? 106).map (·.size)=some sq.toList.length):=hQ9 (by rw [←hsq];exact yv)
     have HON9:Hid (sq.all (·.oneCell')=true):=hQ9 (by rw [←hsq];simp [Value.oneCell'])
     rw [hsq]
     have hc6:wB.cell? ⟨wA.heap.size,6,none⟩=some (.slice none 0 0):=by simpa using zB.cell 6 _ (by rw [←hsq];rfl)
     have hc6w:wA.heap.size<wB.heap.size:=zB.lt
     have HGF:=hQ9 (zb HGWR.out (zb gA gB))
     clear hwB htB zB
     clear hsq gA gB
     go_wp2_with(with_reducible refine wpList_store_mid rfl 106 (.tmp 16) (.tmp 88) rfl wA.heap.size 0 sq rfl rfl HTB.out HSI9.out HON9.out ?_;rw [HWB.out];clear HWB HTB;generalize wA.heap.size=q9 at *)
     go_ret
     exact⟨rfl,HGF.out⟩
end Go.Proofs.YtkpnheenacchhaaGreatDoor
