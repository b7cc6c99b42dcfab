/- Rows of votes: their cells in order; a cell set in a row of one's own. -/
import Derived.Test.YtidjnnnigcmdpaaGreatDoorJzz
import Derived.Test.YtidjnnnigcmdpaaGreatDoorJbt
set_option maxHeartbeats 8000000
set_option maxRecDepth 100000
set_option linter.unusedSimpArgs false
set_option linter.unusedVariables false
set_option linter.unnecessarySimpa false
namespace Go.Proofs.YtidjnnnigcmdpaaGreatDoor
open Go.RowKit
theorem zdl {w:World} {q:Nat} {L:List VP} (h:Vps w (some ⟨q,0,none⟩) L):∀ j u,(vpL L).flatten[j]?=some u→w.cell? ((⟨q,0,none⟩:Addr).add j)=some u:=fun j u hj=>by
 have hj2:j<L.length*24:=by
  have:=(List.getElem?_eq_some_iff.1 hj).1
  rw [kT]at this
  exact this
 obtain⟨q',e,_,hr⟩:=h.get (j / 24) (by omega)
 cases e
 have h1:(j / 24)*24+j%24=j:=by omega
 have hfl:=kQ (z:=24) (vpL L) (vpL_z L) (j / 24) (j%24) (by rw [xq];omega) (Nat.mod_lt _ (by decide))
 rw [h1,hj]at hfl
 have h2:=hr (j%24) u (by rw [hfl];simp [vpL])
 rw [h1]at h2
 have e0:(⟨q,0,none⟩:Addr).add j=⟨q,j,none⟩:=by
  rcases Nat.eq_zero_or_pos j with rfl | h0
  ·simp [Addr.add]
  ·have:j≠0:=by omega
   simp [Addr.add,this]
 rw [e0]
 exact h2
theorem jH {w:World} {base n size:Nat} {e:TypeId} {v:Value} {xs:List Value} {g:Nat} (h:w.ownsRow base e size v n xs) (hg:v.ownBlock=some g) (j:Nat) (x:Value):(w.setCell ⟨g,j,none⟩ x).ownsRow base e size v n (xs.set j x):=by
 refine⟨by rw [List.length_set];exact h.1,?_⟩
 rcases h.2 with ⟨rfl,_⟩ | ⟨g',cap,cur,rfl,hb,hh,h1,h2,h3,h4⟩
 ·cases hg
 ·injection hg with hg
  have hg:g'=g:=hg
  subst hg
  refine .inr ⟨g',cap,cur.setIfInBounds j x,rfl,hb,Bk.set_ (g:=g') (t:=e) hh j x,h1,h2,by rw [Array.size_setIfInBounds];exact h3,?_⟩
  rw [Array.toList_setIfInBounds,List.take_set,h4]
theorem zdm (w:World) (e:TypeId) (size:Nat):(w.alloc (.cells #[] e)).ownsRow w.heap.size e size (.slice (some ⟨w.heap.size,0,none⟩) 0 0) 0 []:=by
 have h:=World.ownsRow_made (e:=e) w #[] 0 (size:=size) (Nat.le_refl _) (by decide) (by simp)
 simpa using h
theorem own_at {w:World} {base n size:Nat} {e:TypeId} {v:Value} {xs:List Value} (h:w.ownsRow base e size v n xs) (hn:0<n):∃ g c,v=.slice (some ⟨g,0,none⟩) n c∧base≤g∧g<w.heap.size∧n≤c:=by
 rcases h.2 with ⟨rfl,h0⟩ | ⟨g',cap,cur,rfl,hb,hh,h1,h2,h3,h4⟩
 ·omega
 ·exact⟨g',cap,rfl,hb,Bk.lt (g:=g') hh,h1⟩
theorem ye {w:World} {base n:Nat} {e:TypeId} {g c:Nat} {L:List VP} (h:w.ownsRow base e 24 (.slice (some ⟨g,0,none⟩) n c) n (vpL L).flatten) (hl:L.length=n) (j:Nat) (u:Value) (hu:(vpL L).flatten[j]?=some u):w.cell? ⟨g,j,none⟩=some u∧w.frozen? ⟨g,j,none⟩=false:=by
 rcases h.2 with ⟨h0,_⟩ | ⟨g',cap,cur,e',hb,hh,h1,h2,h3,h4⟩
 ·cases h0
 ·have he:(⟨g,0,none⟩:Addr)=⟨g',0,none⟩:=by injection e' with e1 _ _;exact Option.some.inj e1
  cases he
  have z:=Ag.of_heap hh
  have hj:=(List.getElem?_eq_some_iff.1 hu).1
  rw [kT,hl]at hj
  have hu2:cur.toList[j]?=some u:=by
   rw [←h4,List.getElem?_take_of_lt hj]at hu
   exact hu
  refine⟨by simpa using z.cell j u hu2,?_⟩
  have:=(z.there j (by rw [Array.length_toList,h3];exact Nat.lt_of_lt_of_le hj (Nat.mul_le_mul_right _ h1))).2
  simpa using this
def nxB (b:Nat→Bool) (n:Nat):Nat→Nat:=fun i=>if i<n then (if b i=true then 1 else 0) else 0
theorem zdn (b:Nat→Bool) (n:Nat):nxB b n n=0:=by unfold nxB;rw [if_neg (by omega)]
theorem zgp (b:Nat→Bool) (n:Nat) (h:b n=true):updK (nxB b n) n=nxB b (n+1):=by
 funext j
 unfold updK nxB
 by_cases e:j=n
 ·subst e;simp [h]
 ·rw [if_neg e]
  by_cases h1:j<n
  ·have h2:j<n+1:=by omega
   simp [h1,h2]
  ·have h2:¬j<n+1:=by omega
   simp [h1,h2]
theorem nxB_no (b:Nat→Bool) (n:Nat) (h:b n=false):nxB b n=nxB b (n+1):=by
 funext j
 unfold nxB
 by_cases e:j=n
 ·subst e;simp [h]
 ·by_cases h1:j<n
  ·have h2:j<n+1:=by omega
   simp [h1,h2]
  ·have h2:¬j<n+1:=by omega
   simp [h1,h2]
def bitE (who:Int) (n:Nat):Bool:=!(bits BinOp.and IntKind.u8 (who / 2^n) 1==0)
theorem q4 (seed:Int) (hsd:U64 seed) (who:Int) (hw:0≤who∧who≤255) (at9:Int) (hat9:0≤at9∧at9≤255) (w:World) (hS:Std w) :
 Calls Tryz.prog 7 #[.int .u64 seed,.int .u8 who,.int .u8 at9] w fun e w'=>e=.returned (.bool true)∧Grew w w':=by
 have CK:=hQ9 (zbu w hS)
 have HS:=hQ9 hS
 have hkt:=Tryz.underlying49
 have hut:=Tryz.underlying69
 have hqt:=Tryz.underlying38
 obtain⟨i0,hi,hz0,hz1,hz2⟩:=info_parts jl
 clear hS
 go_enter Tryz.func7,Tryz.ntmps7
 go_wp2_with fail
 refine(CK.out).mono ?_
 clear CK
 rintro e w1 ⟨rfl,g1⟩
 have CE:=hQ9 (zaj seed hsd 1 (by omega) w1)
 go_wp2_with fail
 refine(CE.out).mono ?_
 clear CE
 rintro e w2 ⟨LA,Lc,RA,Rc,p,rfl,KS,rL,rR,FL0,FR0,G1⟩
 obtain⟨lad,hLA,-,-⟩:=rL 0 (by simp [ptrL])
 subst hLA
 obtain⟨kc,hkc⟩:∃ v,kyS 1 RA 4 Rc ((1:Nat):Int)=v:=⟨_,rfl⟩
 have HSK:Hid ((Tryz.prog.info? 49).map (·.size)=some (kyS 1 RA 4 Rc ((1:Nat):Int)).size):=hQ9 (by kernel_rfl)
 have HSKL:Hid ((Tryz.prog.info? 49).map (·.size)=some (kyS 1 RA 4 Rc ((1:Nat):Int)).toList.length):=hQ9 (by kernel_rfl)
 have HOK:Hid ((kyS 1 RA 4 Rc ((1:Nat):Int)).all (·.oneCell')=true):=hQ9 (by simp [kyS,Value.oneCell'])
 have HKC:Hid ((kpV seed 1 RA Rc).C=kyS 1 RA 4 Rc ((1:Nat):Int)):=hQ9 (kpV_C seed 1 RA Rc)
 have HK0:Hid (kpV seed 1 RA Rc).ok:=hQ9 (qD seed 1 (by omega) RA Rc)
 obtain⟨w3,hw3,ht3,g3,z3⟩:=zE w2 49 (#[.int .i64 0,.slice none 0 0,.int .i64 0]) (kyS 1 RA 4 Rc ((1:Nat):Int)) rfl
 have HW3:=hQ9 hw3
 have HT3:=hQ9 ht3
 have hrb:∀ ad,RA=some ad→ad.block<w2.heap.size:=fun ad e=>by
  obtain⟨ad2,e2,hb,_⟩:=rR 0 (by simp [u64L,xc])
  rw [e]at e2;cases e2;exact hb
 have hlb:lad.block<w2.heap.size:=by
  obtain⟨ad,e,hb,_⟩:=rL 0 (by simp [ptrL])
  cases e;exact hb
 have KB:Hid (KBase seed 1 p (nxB (bitE who) 0) w2.heap.size lad RA Rc w1 w3.heap.size w3):=hQ9 {
  ks:=fun i hi=>by
   have:nxB (bitE who) 0 i=0:=by unfold nxB;rw [if_neg (by omega)]
   rw [this];exact(KS.key i hi).grew g3
  kc:=z3
  ld:=fun i hi=>by
   obtain⟨ad,e,_,hc⟩:=(rL.gr g3) i (by simp [ptrL];exact hi)
   cases e
   rw [hc];simp [ptrL]
  rR:=rR.gr g3
  gr:=zc G1 g3
  sz:=Nat.le_refl _
  b0:=by have:=G1.size;have:=g3.size;omega
  lo:=fun i hi=>by
   have h1:=KS.low i hi
   have h2:=(KS.key i hi).key.lt
   have h3:=(KS.key i hi).pub.lt
   have:=g3.size
   exact⟨by omega,by omega,by omega⟩
  qb:=z3.lt
  qn:=fun i hi e=>by have h2:=(KS.key i hi).key.lt;omega
  lb:=by have:=g3.size;omega
  ln:=fun i hi=>(FL0 lad rfl i hi).2
  rb:=fun ad e=>by have:=hrb ad e;have:=g3.size;omega
  rn:=fun i hi ad e=>(FR0 ad e i hi).2
  ap:=KS.apart }
 have HVR:Hid (VRow w3.heap.size (.slice none 0 0) [] w3):=hQ9 (VRow.nil _ _)
 have HMV0:Hid (MvV (vBs seed 3 77 (bitE who) (fun _=>0) 0) []):=hQ9 (by simpa [vBs]using MvV.nil)
 clear hw3 ht3 g3 z3 KS rL rR FL0 FR0 G1 hrb hlb
 rw [hkc]at HSK HSKL HOK HT3 HW3 HKC ⊢
 have HKCE:=hQ9 hkc
 clear hkc
 obtain⟨b,hb⟩:∃ f,bitE who=f:=⟨_,rfl⟩
 rw [hb]at KB HMV0
 have HBE:=hQ9 hb
 clear hb
 go_wp2_with(with_reducible refine wpList_store_mid rfl 49 (.tmp 8) (.tmp 24) rfl w2.heap.size 0 kc rfl rfl HT3.out HSK.out HOK.out ?_;rw [HW3.out];clear HW3 HT3)
 go_loopw [9,10] (fun rv iv wr=>∃(n:Nat) (M:List VP),n≤4∧iv=.int .i64 (n:Int)∧MvV (vBs seed 3 77 b (fun _=>0) n) M∧VRow w3.heap.size rv M wr∧KBase seed 1 p (nxB b n) w2.heap.size lad RA Rc w1 w3.heap.size wr) (fun _ iv _=>4-(Go.RowKit.intOf iv).toNat)
 case atStart=>exact⟨0,[],by omega,rfl,HMV0.out,HVR.out,KB.out⟩
 case round =>
  clear HMV0 HVR KB
  obtain⟨n,M,hn,rfl,hmv,hvr,hkb⟩:=hrel
  by_cases hlt:n<4
  ·have e33:decide ((n:Int)<4)=true:=decide_eq_true (by omega)
   have e44:decide (n<4)=true:=decide_eq_true hlt
   by_cases hbn:b n=true
   ·have hcon:(bits BinOp.and IntKind.u8 (who / 2^n) 1==0)=false:=by
     have h1:bitE who n=true:=by rw [HBE.out];exact hbn
     unfold bitE at h1
     simpa using h1
    have hc:=hkb.ld n hlt
    have CM:Hid (Calls Tryz.prog 43 #[.pointer (some ⟨p n+1,0,none⟩),.int .i64 (n:Int),.int .i64 3,.int .u64 77] wr fun e w' =>
     (∃ A c,e=.returned (.tuple #[.agg (vpK seed 1 0 3 77 n A c).C,.int .i64 0])∧(vpK seed 1 0 3 77 n A c).at w'∧(∀ ad,A=some ad→wr.heap.size≤ad.block))∧Tn (p n+1) wr w'∧KyAt w' (p n+1) (p n) (n:Int) (sdI seed n) (ksL seed 1 n) (0+1) (2^1)):=hQ9 (zar seed 1 n 0 (by omega) hlt (by decide) (p n) 3 ⟨by decide,by decide⟩ 77 (by decide) wr ((HS.out.grew g1).grew hkb.gr) (by have:=hkb.ks n hlt;rw [zdn]at this;exact this))
    go_wp2_with fail
    refine(CM.out).mono ?_
    clear CM hc
    rintro e w4 ⟨⟨A4,c4,rfl,hat4,hfr4⟩,ht4,hk4⟩
    have hml:=hmv.snoc (vpK seed 1 0 3 77 n none 0) A4 c4
    rw [vpK_mv,←zgm seed 3 77 b (fun _=>0) n hbn]at hml
    have hlm:M.length≤4:=by rw [hmv.len,kj];exact Nat.le_trans (zau _ _) hn
    obtain⟨S,hS⟩:∃ S,vpK seed 1 0 3 77 n A4 c4=S:=⟨_,rfl⟩
    have HSO:Hid S.ok:=hQ9 (by rw [←hS];exact zdb seed 1 0 (by omega) (by decide) 3 ⟨by decide,by decide⟩ 77 (by decide) n hlt A4 c4)
    have HSA:Hid (∀ ad,S.A=some ad→wr.heap.size≤ad.block):=hQ9 (by rw [←hS];exact hfr4)
    rw [hS]at hat4 hml ⊢
    have HML:=hQ9 hml
    have HLM:=hQ9 hlm
    have kb4:=hkb.tn hlt (kp_tn ht4) (by rw [zdn];exact hk4)
    rw [zgp b n hbn]at kb4
    have vr4:=hvr.key (kp_tn ht4) ((hkb.lo n hlt).2.1)
    have HOB:Hid (∀ g,u9.ownBlock=some g→g<wr.heap.size):=hQ9 (fun g e=>(zy hvr.row g e).2)
    have HSZ:Hid (w3.heap.size≤wr.heap.size):=hQ9 hkb.sz
    obtain⟨w5,hw5,ht5,g5,z5⟩:=zE w4 69 (#[.int .i64 0,.int .u64 0,.int .i64 0,.int .i64 0,.int .i64 0,.int .u64 0,.int .u64 0,.int .u64 0,.int .u64 0,.int .u64 0,.int .u64 0,.int .u64 0,.int .u64 0,.int .u64 0,.int .u64 0,.int .u64 0,.int .u64 0,.int .u64 0,.int .u64 0,.int .u64 0,.int .u64 0,.int .u64 0,.int .u64 0,.slice none 0 0]:Array Value) S.C rfl
    have HW5:=hQ9 hw5
    have HT5:=hQ9 ht5
    have KB5:=hQ9 (kb4.grew g5)
    have VR5:=hQ9 (vr4.grew g5)
    have HAT5:=hQ9 (hat4.gr g5)
    have HONE:Hid (∀ u∈S.C.toList,u.oneCell'=true):=hQ9 S.one'
    have HON:Hid (S.C.all (·.oneCell')=true):=hQ9 S.one
    have HFOLD:Hid (Array.foldl (fun(cs:Array Value) (x:Value × Nat)=>cs.setIfInBounds x.snd x.fst) (#[.int .i64 0,.int .u64 0,.int .i64 0,.int .i64 0,.int .i64 0,.int .u64 0,.int .u64 0,.int .u64 0,.int .u64 0,.int .u64 0,.int .u64 0,.int .u64 0,.int .u64 0,.int .u64 0,.int .u64 0,.int .u64 0,.int .u64 0,.int .u64 0,.int .u64 0,.int .u64 0,.int .u64 0,.int .u64 0,.int .u64 0,.slice none 0 0]:Array Value) S.C.zipIdx 0 24=S.C):=hQ9 (xt S)
    have HTS:Hid ((vpL M).flatten++S.C.toList=(vpL (M++[S])).flatten):=hQ9 (by rw [yQ])
    obtain⟨gs,hgs⟩:∃ g,S.C=g:=⟨_,rfl⟩
    have HGS:=hQ9 hgs
    have hgs24:gs.size=24:=by rw [←hgs];rfl
    have HLEN:Hid (gs.toList.length=24):=hQ9 (by rw [←hgs];rfl)
    have HSI:Hid ((Tryz.prog.info? 69).map (·.size)=some gs.size):=hQ9 (by rw [←hgs];exact zx)
    have HSL:Hid ((Tryz.prog.info? 69).map (·.size)=some gs.toList.length):=hQ9 (by rw [←hgs];exact zx)
    rw [hgs]at z5 HW5 HT5 HONE HON HFOLD ⊢
    have hm5:=z5.cell
    have hrow5:=VR5.out.row
    have hb9:w3.heap.size≤w5.heap.size:=KB5.out.sz
    have ga:=ze (za w5) (.cells gs 69)
    clear hS hml hlm kb4 vr4 hw5 ht5 g5 z5 hat4 hgs hvr hkb hmv ht4 hk4 hfr4
    go_wp2_with(first
     | (with_reducible refine wpList_store_mid rfl 69 (.tmp 11) (.tmp 45) rfl w4.heap.size 0 gs rfl rfl HT5.out HSI.out HON.out ?_;rw [HW5.out];clear HW5 HT5)
     | (with_reducible refine wpList_load_mid rfl 69 (.tmp 11) rfl w4.heap.size 0 rfl gs.toList _ hm5 hut rfl HSL.out ?_;simp only [Array.toArray_toList])
     | (at_builtin;rw [HFOLD.out];refine zO _ rfl (.tmp 49) (.tmp 51) 36 rfl w3.heap.size 69 i0 (.agg (#[.int .i64 0,.int .u64 0,.int .i64 0,.int .i64 0,.int .i64 0,.int .u64 0,.int .u64 0,.int .u64 0,.int .u64 0,.int .u64 0,.int .u64 0,.int .u64 0,.int .u64 0,.int .u64 0,.int .u64 0,.int .u64 0,.int .u64 0,.int .u64 0,.int .u64 0,.int .u64 0,.int .u64 0,.int .u64 0,.int .u64 0,.slice none 0 0]:Array Value)) 24 208 Tryz.underlying36 hi hz0 hz1 hz2 rfl (by decide) _ _ _ rfl (hrow5.alloc _) ⟨w5.heap.size,0,none⟩ 1 1 gs.toList rfl (by rw [HLEN.out]) (fun j u hj=>yn w5 gs 69 j u hj) HONE.out (by have:=HLM.out;unfold maxLen;omega) (by have:=HLM.out;omega) (by simp;omega) ?_;intro v' w6 hown6 hgrow6 hob6))
    have K6:Kp (fun g=>w3.heap.size≤g) w5 w6:=yw (zg ga) hgrow6 (fun g e=>.inl (zA hrow5 g e))
    refine⟨⟨n+1,M++[S],by omega,(by go_num),HML.out,?_,KB5.out.kp K6 (fun g h=>h)⟩,?_⟩
    ·exact VR5.out.app HSO.out HAT5.out (fun ad e=>.inr (by have:=HSA.out ad e;have:=HSZ.out;omega)) (fun ad e g hg=>.inr (by have:=HSA.out ad e;have:=HOB.out g hg;omega)) ga (by rw [HGS.out];exact hown6) hgrow6 hob6
    ·simp [Go.RowKit.intOf];omega
   ·have hbn':b n=false:=by simpa using hbn
    have hcon:(bits BinOp.and IntKind.u8 (who / 2^n) 1==0)=true:=by
     have h1:bitE who n=false:=by rw [HBE.out];exact hbn'
     unfold bitE at h1
     simpa using h1
    go_wp2_with fail
    refine⟨⟨n+1,M,by omega,(by go_num),by rw [vBs_no _ _ _ _ _ _ hbn'];exact hmv,hvr,by rw [←nxB_no b n hbn'];exact hkb⟩,?_⟩
    simp [Go.RowKit.intOf];omega
  ·obtain rfl:n=4:=by omega
   obtain⟨A,c,rfl,hVp,hcM,hAB⟩:=hvr.vps
   have hml:M.length=cntB b 4:=by rw [hmv.len,kj]
   have hml4:M.length≤4:=by rw [hml];exact zau b 4
   have hen:=zbv (RA:=RA) (Rc:=Rc) (by decide:vwB 3=true) (fun i _=>(by decide:0<2^1)) hmv
   have HSY:Hid (∀ y,Grew wr y→Std y):=hQ9 (fun y g=>HS.out.grew (zc (zc g1 hkb.gr) g))
   have HKA:Hid (∀ y,Grew wr y→(kpV seed 1 RA Rc).at y):=hQ9 (fun y g=>Rd.gr (show Rd wr wr.heap.size RA (u64L (rtL seed 1 4)) from hkb.rR) g)
   have HMK:Hid (∀ y,Grew wr y→y.rangeAt w2.heap.size 0 kc.toList):=hQ9 (fun y g=>by rw [←HKCE.out];exact(hkb.kc.grew g).cell)
   have HGW:Hid (Grew w wr):=hQ9 (zc g1 hkb.gr)
   have hmk:=HMK.out wr (za _)
   rw [←hml]at hen
   by_cases h3:3≤M.length
   ·rw [decide_eq_true h3]at hen
    have CG:=hQ9 (kD HK0.out 3 77 A c M (by omega) wr (HSY.out wr (za _)) (HKA.out wr (za _)) hVp hen)
    have hch:=kE hen
    have hcq:=zbx hen
    have hcm:∀ S∈chosenV (kpV seed 1 RA Rc) 3 77 M,S.vw=3:=fun S hS=>by
     have h:=(kF S hS).2
     unfold vgB at h
     simp only [Bool.and_eq_true,decide_eq_true_eq]at h
     exact h.1
    rw [show(2*(kpV seed 1 RA Rc).f+1).toNat=3 from rfl]at hch
    rw [HKC.out,hch]at CG
    generalize chosenV (kpV seed 1 RA Rc) 3 77 M=E at *
    have HCH:=hQ9 hch
    have HCQ:=hQ9 hcq
    have HCM:=hQ9 hcm
    have e3:decide ((3:Int)≤(M.length:Int))=true:=decide_eq_true (by omega)
    have e3b:decide (3≤M.length)=true:=decide_eq_true h3
    clear hmv hvr hkb hVp hcM hAB hen hml hch hcq hcm
    go_wp2_with(with_reducible refine wpList_load_mid rfl 49 (.tmp 8) rfl w2.heap.size 0 rfl kc.toList _ hmk hkt rfl HSKL.out ?_;simp only [Array.toArray_toList])
    refine(CG.out).mono ?_
    clear CG
    rintro e w4 ⟨⟨B,j,N,rfl,hmN,hVN,hB1,hB2⟩,g4⟩
    have hN3:N.length=3:=by rw [hmN.len,HCH.out]
    obtain⟨q0,hq0,-,-⟩:=hVN.get 0 (by rw [hN3];decide)
    subst hq0
    have HCN:Hid (cqV (kpV seed 1 RA Rc) 3 77 N=0):=hQ9 (by rw [cqV_mv hmN];exact HCQ.out)
    have HNV:Hid (∀ S∈N,S.vw=3):=hQ9 (fun S hS=>by
     obtain⟨k,hk,rfl⟩:=List.getElem_of_mem hS
     have hk':k<E.length:=by rw [←hmN.len];exact hk
     obtain⟨A9,c9,e9⟩:=hmN.each k hk' hk
     rw [e9]
     exact HCM.out E[k] (List.getElem_mem hk'))
    have HN3:=hQ9 hN3
    obtain⟨gq,hgq⟩:∃ g,vqC 3 77 (some ⟨q0,0,none⟩) 3 j=g:=⟨_,rfl⟩
    have HGQ:=hQ9 hgq
    obtain⟨w5,hw5,ht5,g5,z5⟩:=zE w4 38 (#[.int .i64 0,.int .u64 0,.slice none 0 0]:Array Value) gq (by rw [←hgq];rfl)
    have HW5:=hQ9 hw5
    have HT5:=hQ9 ht5
    have SIQ:Hid ((Tryz.prog.info? 38).map (·.size)=some gq.size):=hQ9 (by rw [←hgq];exact zJ)
    have SIQL:Hid ((Tryz.prog.info? 38).map (·.size)=some gq.toList.length):=hQ9 (by rw [←hgq];exact zJ)
    have HOQ:Hid (gq.all (·.oneCell')=true):=hQ9 (by rw [←hgq];exact xu _ _ _ _ _)
    rw [hgq]
    have HG5:Hid (Grew wr w5):=hQ9 (zc g4 g5)
    have HQZ:Hid (∀ y,Grew w5 y→Ag y w4.heap.size gq.toList):=hQ9 (fun y g=>z5.grew g)
    have HQN:Hid (∀ y,Grew w5 y→Vps y (some ⟨q0,0,none⟩) N):=hQ9 (fun y g=>hVN.gr (zc g5 g))
    have hmq:=(HQZ.out w5 (za _)).cell
    have hc2:w5.cell? ⟨w4.heap.size,2,none⟩=some (.slice (some ⟨q0,0,none⟩) 3 j):=by simpa using z5.cell 2 _ (by rw [←hgq];rfl)
    have hmk:=HMK.out w5 HG5.out
    have CQ:Hid (Calls Tryz.prog 39 #[.agg kc,.agg gq] w5 fun e w'=>e=.returned (.int .i64 0)∧Grew w5 w'):=hQ9 (by
     have:=yq HK0.out 3 77 (some ⟨q0,0,none⟩) j N (by rw [HN3.out];decide) w5 (HSY.out w5 HG5.out) (HKA.out w5 HG5.out) (HQN.out w5 (za _))
     rw [show vqE (kpV seed 1 RA Rc) 3 77 N=0 from(if_neg (by decide)).trans HCN.out,HN3.out,HGQ.out,HKC.out]at this
     exact this)
    clear hw5 ht5 g5 z5 hgq hVN hB1 hB2 g4 hmN HCQ HCM HCH hN3
    go_wp2_with(first
     | (with_reducible refine wpList_store_mid rfl 38 (.tmp 13) (.tmp 57) rfl w4.heap.size 0 gq rfl rfl HT5.out SIQ.out HOQ.out ?_;rw [HW5.out];clear HW5 HT5)
     | (refine zf (by rfl) 49 (.tmp 8) rfl w2.heap.size 0 rfl kc.toList _ hmk hkt rfl HSKL.out ?_;simp only [Array.toArray_toList])
     | (refine zf (by rfl) 38 (.tmp 13) rfl w4.heap.size 0 rfl gq.toList _ hmq hqt rfl SIQL.out ?_;simp only [Array.toArray_toList]))
    refine(CQ.out).mono ?_
    clear CQ hmq hc2 hmk
    rintro e w6 ⟨rfl,g6⟩
    obtain⟨w7,hw7,ht7,g7,z7⟩:=zE w6 38 (#[.int .i64 0,.int .u64 0,.slice none 0 0]:Array Value) gq (by rw [←HGQ.out];rfl)
    have HW7:=hQ9 hw7
    have HT7:=hQ9 ht7
    have HG56:=hQ9 g6
    have HG57:=hQ9 (zc g6 g7)
    have hmq:=(HQZ.out w6 g6).cell
    have hc2:w7.cell? ⟨w4.heap.size,2,none⟩=some (.slice (some ⟨q0,0,none⟩) 3 j):=by simpa using (HQZ.out w7 HG57.out).cell 2 _ (by rw [←HGQ.out];rfl)
    clear hw7 ht7 g7 g6
    go_upto_region 24 with (first
     | (with_reducible refine wpList_load_mid rfl 38 (.tmp 13) rfl w4.heap.size 0 rfl gq.toList _ hmq hqt rfl SIQL.out ?_;simp only [Array.toArray_toList])
     | (with_reducible refine wpList_store_mid rfl 38 (.tmp 16) (.tmp 84) rfl w6.heap.size 0 gq rfl rfl HT7.out SIQ.out HOQ.out ?_;rw [HW7.out];clear HW7 HT7))
    have HQ3:Hid (∃ S0 S1 S2,N=[S0,S1,S2]):=hQ9 (by
     have:=HN3.out
     match N,this with
     | [a,b,c],_=>exact⟨a,b,c,rfl⟩)
    have HCL:Hid (∀ j u,(vpL N).flatten[j]?=some u→(w7.alloc (.cells #[] 69)).cell? ((⟨q0,0,none⟩:Addr).add j)=some u):=hQ9 (zdl (HQN.out _ (ze HG57.out _)))
    have HON7:Hid (∀ u∈(vpL N).flatten,u.oneCell'=true):=hQ9 (fun u hu=>by
     obtain⟨l,h8,h9⟩:=List.mem_flatten.1 hu
     obtain⟨S,hS,rfl⟩:=List.mem_map.1 h8
     exact S.one' u h9)
    have HFL:Hid ((vpL N).flatten.length=3*24):=hQ9 (by rw [kT,HN3.out])
    have HGR8:Hid (∀ w8,(w7.alloc (.cells #[] 69)).grownBy w8 (some w7.heap.size)→Grew w7 w8):=hQ9 (fun w8 h=>zG (za w7) (yw (S:=fun g=>w7.heap.size≤g) (zg (ze (za w7) _)) h (fun g e=>.inl (by injection e with e;omega))) (Nat.le_refl _) (fun i h=>h))
    have HZ7:=hQ9 z7
    have HQ2:Hid (gq.toList[2]?=some (.slice (some ⟨q0,0,none⟩) 3 j)):=hQ9 (by rw [←HGQ.out];rfl)
    have HQL:Hid (2<gq.toList.length):=hQ9 (by rw [←HGQ.out];show 2<3;decide)
    have HX8:Hid (∀ w8,(w7.alloc (.cells #[] 69)).grownBy w8 (some w7.heap.size)→w8.cell? ⟨w6.heap.size,2,none⟩=some (.slice (some ⟨q0,0,none⟩) 3 j)∧w8.frozen? ⟨w6.heap.size,2,none⟩=false):=hQ9 (fun w8 h=>by
     have z8:=HZ7.out.grew (HGR8.out w8 h)
     exact⟨by simpa using z8.cell 2 _ HQ2.out,by simpa using (z8.there 2 HQL.out).2⟩)
    have hc2a:(w7.alloc (.cells #[] 69)).cell? ⟨w4.heap.size,2,none⟩=some (.slice (some ⟨q0,0,none⟩) 3 j):=by simpa using (HQZ.out _ (ze HG57.out (.cells #[] 69))).cell 2 _ HQ2.out
    have HL67:=hQ9 z7.lt
    clear z7 hc2 hmq
    go_upto_region 25 with (at_builtin;refine zO _ rfl (.tmp 85) (.tmp 87) 36 rfl w7.heap.size 69 i0 (.agg (#[.int .i64 0,.int .u64 0,.int .i64 0,.int .i64 0,.int .i64 0,.int .u64 0,.int .u64 0,.int .u64 0,.int .u64 0,.int .u64 0,.int .u64 0,.int .u64 0,.int .u64 0,.int .u64 0,.int .u64 0,.int .u64 0,.int .u64 0,.int .u64 0,.int .u64 0,.int .u64 0,.int .u64 0,.int .u64 0,.int .u64 0,.slice none 0 0]:Array Value)) 24 208 Tryz.underlying36 hi hz0 hz1 hz2 rfl (by decide) _ _ _ rfl (zdm w7 69 24) ⟨q0,0,none⟩ 3 j (vpL N).flatten rfl HFL.out HCL.out HON7.out (by unfold maxLen;omega) (by omega) (by simp) ?_;intro v8 w8 hown8 hgrow8 hob8;simp only [Nat.zero_add,List.nil_append]at hown8;obtain⟨g8,c8,rfl,hb8,hl8,hc8⟩:=own_at hown8 (by decide);have x8:=(HX8.out w8 hgrow8).1;have f8:=(HX8.out w8 hgrow8).2)
    have gr8:=HGR8.out w8 hgrow8
    have z8:=HZ7.out.grew gr8
    have y9:=Ag.set1 z8 2 (.slice (some ⟨g8,0,none⟩) 3 c8) HQL.out
    obtain⟨gp,hgp⟩:∃ g,vqC 3 77 (some ⟨g8,0,none⟩) 3 c8=g:=⟨_,rfl⟩
    have HGP:=hQ9 hgp
    rw [show gq.toList.set 2 (.slice (some ⟨g8,0,none⟩) 3 c8)=gp.toList from by rw [←HGQ.out,←hgp];rfl]at y9
    have t9:=zV (g:=w6.heap.size) (zM _ w8) (p:=⟨w6.heap.size,2,none⟩) (.inl rfl) (.slice (some ⟨g8,0,none⟩) 3 c8)
    have own9:=zi hown8 (kp_tn t9) (fun g e h=>by
     have h:g=w6.heap.size:=h
     have:=(zy hown8 g e).1
     have:=HL67.out
     omega)
    have gr9:=zT (zc HG57.out gr8) t9 HG56.out.size
    obtain⟨w9,hw9⟩:∃ v,w8.setCell ⟨w6.heap.size,2,none⟩ (.slice (some ⟨g8,0,none⟩) 3 c8)=v:=⟨_,rfl⟩
    rw [hw9]at y9 own9 gr9 ⊢
    have Y9:Hid (∀ y,Grew w9 y→Ag y w6.heap.size gp.toList):=hQ9 (fun y g=>y9.grew g)
    have HGP2:Hid (gp.toList[2]?=some (.slice (some ⟨g8,0,none⟩) 3 c8)):=hQ9 (by rw [←hgp];rfl)
    have SIPL:Hid ((Tryz.prog.info? 38).map (·.size)=some gp.toList.length):=hQ9 (by rw [←hgp];exact zJ)
    have HP2:Hid (∀ y,Grew w9 y→y.cell? ⟨w6.heap.size,2,none⟩=some (.slice (some ⟨g8,0,none⟩) 3 c8)):=hQ9 (fun y g=>by simpa using (Y9.out y g).cell 2 _ HGP2.out)
    have GR9:=hQ9 gr9
    have OWN9:Hid (∀ y,Grew w9 y→y.ownsRow w7.heap.size 69 24 (.slice (some ⟨g8,0,none⟩) 3 c8) 3 (vpL N).flatten):=hQ9 (fun y g=>zi own9 (zg (S:=fun _=>False) g) (fun _ _ h=>h))
    have HB8:=hQ9 hb8
    have HG75:=hQ9 HG57.out.size
    have hm3:at9%3=0∨at9%3=1∨at9%3=2:=by omega
    obtain⟨S0,S1,S2,hN⟩:=HQ3.out
    have HNE:=hQ9 hN
    have HOKS:Hid (∀ S∈N,S.ok):=hQ9 (HQN.out w5 (za _)).ok
    have HATS:Hid (∀ y,Grew w5 y→∀ S∈N,S.at y):=hQ9 (fun y g=>(HQN.out y g).at_)
    clear gr8 z8 y9 t9 own9 gr9 hw9 hgp x8 f8 hown8 hgrow8 hob8 hb8 hl8 hc8 HX8 HGR8 HZ7 HCL HON7 HFL HQ3 hc2a hN
    generalize w6.heap.size=q16 at *
    rcases hm3 with hm3 | hm3 | hm3
    ·rw [hm3]
     refine zv 13 (fun ix9=>match ix9 with
      | 0=>fun v _=>v=.pointer (some ⟨q16,2,none⟩)
      | 1=>fun v _=>v=.slice (some ⟨g8,0,none⟩) 3 c8
      | 2=>fun v _=>v=.int .i64 0
      | 3=>fun v _=>v=.pointer (some ⟨q16,2,none⟩)
      | 4=>fun v _=>v=.slice (some ⟨g8,0,none⟩) 3 c8
      | 5=>fun v _=>v=.int .i64 0
      | 6=>fun v _=>v=.int .i64 1
      | 7=>fun v _=>v=.int .i64 1
      | 8=>fun v _=>v=.pointer (some ⟨g8,24,none⟩)
      | 9=>fun v _=>v=.pointer (some ⟨g8,26,none⟩)
      | 10=>fun v _=>v=.int .i64 S1.who
      | 11=>fun v _=>v=.pointer (some ⟨g8,0,none⟩)
      | 12=>fun v _=>v=.pointer (some ⟨g8,2,none⟩)
      | _=>fun _ _=>True) (by kernel_rfl) (by kernel_rfl) ?_ ?_ ?_
     ·intro i v x y h hg
      match i,h with
      | 0,h | 1,h | 2,h | 3,h | 4,h | 5,h | 6,h | 7,h | 8,h | 9,h | 10,h | 11,h | 12,h=>exact h
      | m+13,_=>trivial
     ·simp only [actOf,tk1,tk0,dr1,dr0,Act.put,si1,st1,st0,Nat.reduceAdd]
      refine⟨?_,?_,?_,?_,?_,?_,?_,?_,?_,?_,?_,?_,?_,trivial⟩
      ·intro vs y hg hd
       dsimp only
       go_wp2_with fail
       exact⟨rfl,_,rfl,za _,rfl⟩
      ·intro vs y hg hd
       obtain⟨h0,_⟩:=hd
       replace h0:=h0 rfl
       dsimp only
       rw [show vs 0=_ from h0]
       have hc:=HP2.out y hg
       go_wp2_with fail
       exact⟨rfl,_,rfl,za _,rfl⟩
      ·intro vs y hg hd
       dsimp only
       go_wp2_with fail
       exact⟨rfl,_,rfl,za _,rfl⟩
      ·intro vs y hg hd
       dsimp only
       go_wp2_with fail
       exact⟨rfl,_,rfl,za _,rfl⟩
      ·intro vs y hg hd
       obtain⟨h3,_⟩:=hd
       replace h3:=h3 rfl
       dsimp only
       rw [show vs 3=_ from h3]
       have hc:=HP2.out y hg
       go_wp2_with fail
       exact⟨rfl,_,rfl,za _,rfl⟩
      ·intro vs y hg hd
       dsimp only
       go_wp2_with fail
       exact⟨rfl,_,rfl,za _,rfl⟩
      ·intro vs y hg hd
       obtain⟨h5,_⟩:=hd
       replace h5:=h5 rfl
       dsimp only
       rw [show vs 5=_ from h5]
       go_wp2_with fail
       exact⟨rfl,_,rfl,za _,rfl⟩
      ·intro vs y hg hd
       obtain⟨h6,_⟩:=hd
       replace h6:=h6 rfl
       dsimp only
       rw [show vs 6=_ from h6]
       go_wp2_with fail
       exact⟨rfl,_,rfl,za _,rfl⟩
      ·intro vs y hg hd
       obtain⟨h4,h7,_⟩:=hd
       replace h4:=h4 rfl
       replace h7:=h7 rfl
       dsimp only
       rw [show vs 4=_ from h4,show vs 7=_ from h7]
       go_wp2_with fail
       exact⟨rfl,_,rfl,za _,rfl⟩
      ·intro vs y hg hd
       obtain⟨h8,_⟩:=hd
       replace h8:=h8 rfl
       dsimp only
       rw [show vs 8=_ from h8]
       go_wp2_with fail
       exact⟨rfl,_,rfl,za _,rfl⟩
      ·intro vs y hg hd
       obtain⟨h9,_⟩:=hd
       replace h9:=h9 rfl
       dsimp only
       rw [show vs 9=_ from h9]
       have hc:=(ye (OWN9.out y hg) HN3.out 26 (.int .i64 S1.who) (by rw [HNE.out];rfl)).1
       go_wp2_with fail
       exact⟨rfl,_,rfl,za _,rfl⟩
      ·intro vs y hg hd
       obtain⟨h1,h2,_⟩:=hd
       replace h1:=h1 rfl
       replace h2:=h2 rfl
       dsimp only
       rw [show vs 1=_ from h1,show vs 2=_ from h2]
       go_wp2_with fail
       exact⟨rfl,_,rfl,za _,rfl⟩
      ·intro vs y hg hd
       obtain⟨h11,_⟩:=hd
       replace h11:=h11 rfl
       dsimp only
       rw [show vs 11=_ from h11]
       go_wp2_with fail
       exact⟨rfl,_,rfl,za _,rfl⟩
     ·intro vs wa hg hJ
      have j0:vs 0=.pointer (some ⟨q16,2,none⟩):=hJ 0 (by decide)
      have j1:vs 1=.slice (some ⟨g8,0,none⟩) 3 c8:=hJ 1 (by decide)
      have j2:vs 2=.int .i64 0:=hJ 2 (by decide)
      have j3:vs 3=.pointer (some ⟨q16,2,none⟩):=hJ 3 (by decide)
      have j4:vs 4=.slice (some ⟨g8,0,none⟩) 3 c8:=hJ 4 (by decide)
      have j5:vs 5=.int .i64 0:=hJ 5 (by decide)
      have j6:vs 6=.int .i64 1:=hJ 6 (by decide)
      have j7:vs 7=.int .i64 1:=hJ 7 (by decide)
      have j8:vs 8=.pointer (some ⟨g8,24,none⟩):=hJ 8 (by decide)
      have j9:vs 9=.pointer (some ⟨g8,26,none⟩):=hJ 9 (by decide)
      have j10:vs 10=.int .i64 S1.who:=hJ 10 (by decide)
      have j11:vs 11=.pointer (some ⟨g8,0,none⟩):=hJ 11 (by decide)
      have j12:vs 12=.pointer (some ⟨g8,2,none⟩):=hJ 12 (by decide)
      clear hJ
      simp only [actOf,tk1,tk0,dr1,dr0,Act.put,si1,st1,st0,Nat.reduceAdd]
      rw [show vs 12=_ from j12,show vs 10=_ from j10]
      have own10:=OWN9.out wa hg
      have x10:=(ye own10 HN3.out 2 (.int .i64 S0.who) (by rw [HNE.out];rfl)).1
      have f10:=(ye own10 HN3.out 2 (.int .i64 S0.who) (by rw [HNE.out];rfl)).2
      have own11:=jH own10 rfl 2 (.int .i64 S1.who)
      have hset:(vpL N).flatten.set 2 (.int .i64 S1.who)=(vpL [⟨S0.vw,S0.cm,S1.who,S0.sw,S0.lf,S0.s,S0.A,S0.c,S0.l⟩,S1,S2]).flatten:=by rw [HNE.out];rfl
      rw [hset]at own11
      have hga:=(zy own10 g8 rfl).1
      have t10:=zV (g:=g8) (zM _ wa) (p:=⟨g8,2,none⟩) (.inl rfl) (.int .i64 S1.who)
      have gr10:=zT (zc GR9.out hg) t10 (by have:=HG75.out;omega)
      have y10:=(Y9.out wa hg).kp (kp_tn t10) (fun h=>by have h:q16=g8:=h;have:=HL67.out;omega)
      obtain⟨w10,hw10⟩:∃ v,wa.setCell ⟨g8,2,none⟩ (.int .i64 S1.who)=v:=⟨_,rfl⟩
      have HW10:=hQ9 hw10
      rw [hw10]at own11 gr10 y10
      clear hset t10 hw10 own10 j0 j1 j2 j3 j4 j5 j6 j7 j8 j9 j10 j11 j12
      go_upto_region 26 with fail
      rw [HW10.out]
      clear x10 f10 HW10
      obtain⟨L,hL⟩:∃ L,([⟨S0.vw,S0.cm,S1.who,S0.sw,S0.lf,S0.s,S0.A,S0.c,S0.l⟩,S1,S2]:List VP)=L:=⟨_,rfl⟩
      have HL3:Hid (L.length=3):=hQ9 (by rw [←hL];rfl)
      have HLK:Hid (∀ S∈L,S.ok):=hQ9 (fun S hS=>by
       rw [←hL]at hS
       have k0:=HOKS.out S0 (by rw [HNE.out];simp)
       have k1:=HOKS.out S1 (by rw [HNE.out];simp)
       have k2:=HOKS.out S2 (by rw [HNE.out];simp)
       simp only [List.mem_cons,List.not_mem_nil,or_false]at hS
       rcases hS with rfl | rfl | rfl
       ·exact⟨k0.vw,k0.cm,k1.who,k0.sw,k0.lf,k0.s,k0.len,k0.l⟩
       ·exact k1
       ·exact k2)
      have HLA:Hid (∀ y,Grew w5 y→∀ S∈L,S.at y):=hQ9 (fun y g S hS=>by
       rw [←hL]at hS
       have k0:=HATS.out y g S0 (by rw [HNE.out];simp)
       have k1:=HATS.out y g S1 (by rw [HNE.out];simp)
       have k2:=HATS.out y g S2 (by rw [HNE.out];simp)
       simp only [List.mem_cons,List.not_mem_nil,or_false]at hS
       rcases hS with rfl | rfl | rfl
       ·exact k0
       ·exact k1
       ·exact k2)
      have HLN:Hid (cqV (kpV seed 1 RA Rc) 3 77 L≠0):=hQ9 (xX HL3.out 0 1 (by rw [HL3.out];decide) (by rw [HL3.out];decide) (by decide) (by subst hL;rfl))
      rw [hL]at own11
      have HVL:Hid (∀ y,Grew w10 y→Vps y (some ⟨g8,0,none⟩) L):=hQ9 (fun y g=>by
       obtain⟨A,cc,e,hB,-,-,-⟩:=yE (zi own11 (zg (S:=fun _=>False) g) (fun _ _ h=>h)) HL3.out
       cases e
       exact⟨hB,HLK.out,HLA.out y (zc gr10 g)⟩)
      have Y10:Hid (∀ y,Grew w10 y→y.rangeAt q16 0 gp.toList):=hQ9 (fun y g=>(y10.grew g).cell)
      have GR10:=hQ9 gr10
      clear own11 y10 gr10 hL hga
      obtain⟨r,hr⟩:∃ r,cqV (kpV seed 1 RA Rc) 3 77 L=r:=⟨_,rfl⟩
      have HR:=hQ9 hr
      have hr0:(r==0)=false:=by have:=HLN.out;rw [hr]at this;simpa using this
      have hr1:(r != 0)=true:=by simp [bne,hr0]
      clear hr
      obtain⟨w11,hw11,ht11,g11,z11⟩:=zE w10 38 (#[.int .i64 0,.int .u64 0,.slice none 0 0]:Array Value) gq (by rw [←HGQ.out];rfl)
      have HW11:=hQ9 hw11
      have HT11:=hQ9 ht11
      have hmq:=(HQZ.out w10 GR10.out).cell
      clear hw11 ht11
      go_upto_region 27 with (first
       | (with_reducible refine wpList_load_mid rfl 38 (.tmp 13) rfl w4.heap.size 0 rfl gq.toList _ hmq hqt rfl SIQL.out ?_;simp only [Array.toArray_toList])
       | (with_reducible refine wpList_store_mid rfl 38 (.tmp 17) (.tmp 103) rfl w10.heap.size 0 gq rfl rfl HT11.out SIQ.out HOQ.out ?_;rw [HW11.out];clear HW11 HT11))
      have x12:w11.cell? ⟨w10.heap.size,0,none⟩=some (.int .i64 3):=by simpa using z11.cell 0 _ (by rw [←HGQ.out];rfl)
      have f12:w11.frozen? ⟨w10.heap.size,0,none⟩=false:=by simpa using (z11.there 0 (by have:=HQL.out;omega)).2
      have t12:=zV (g:=w10.heap.size) (zM _ w11) (p:=⟨w10.heap.size,0,none⟩) (.inl rfl) (.int .i64 4)
      have y12:=Ag.set1 z11 0 (.int .i64 4) (by have:=HQL.out;omega)
      obtain⟨go,hgo⟩:∃ g,vqC 4 77 (some ⟨q0,0,none⟩) 3 j=g:=⟨_,rfl⟩
      have HGO:=hQ9 hgo
      rw [show gq.toList.set 0 (.int .i64 4)=go.toList from by rw [←HGQ.out,←hgo];rfl]at y12
      have gr12:=zT g11 t12 (Nat.le_refl _)
      obtain⟨w12,hw12⟩:∃ v,w11.setCell ⟨w10.heap.size,0,none⟩ (.int .i64 4)=v:=⟨_,rfl⟩
      rw [hw12]at y12 gr12
      have HW12:=hQ9 hw12
      have SIOL:Hid ((Tryz.prog.info? 38).map (·.size)=some go.toList.length):=hQ9 (by rw [←hgo];exact zJ)
      clear t12 hw12 z11 g11 hmq hgo
      go_upto_region 28 with fail
      rw [HW12.out]
      clear x12 f12 HW12
      have G5:=hQ9 (zc GR10.out gr12)
      have CQP:Hid (∀ y,Grew w12 y→Calls Tryz.prog 39 #[.agg kc,.agg gp] y fun e w'=>e=.returned (.int .i64 r)∧Grew y w'):=hQ9 (fun y g=>by
       have g5y:=zc HG5.out (zc G5.out g)
       have:=yq HK0.out 3 77 (some ⟨g8,0,none⟩) c8 L (by rw [HL3.out];decide) y (HSY.out y g5y) (HKA.out y g5y) (HVL.out y (zc gr12 g))
       rw [show vqE (kpV seed 1 RA Rc) 3 77 L=r from(if_neg (by decide)).trans HR.out,HL3.out,HGP.out,HKC.out]at this
       exact this)
      have CQO:Hid (∀ y,Grew w12 y→Calls Tryz.prog 39 #[.agg kc,.agg go] y fun e w'=>e=.returned (.int .i64 12)∧Grew y w'):=hQ9 (fun y g=>by
       have g5y:=zc HG5.out (zc G5.out g)
       have:=yq HK0.out 4 77 (some ⟨q0,0,none⟩) j N (by rw [HN3.out];decide) y (HSY.out y g5y) (HKA.out y g5y) (HQN.out y (zc G5.out g))
       rw [show vqE (kpV seed 1 RA Rc) 4 77 N=12 from(if_neg (by decide)).trans (kU (v:=3) HN3.out (by rw [HN3.out];decide) HNV.out (by decide)),HN3.out,HGO.out,HKC.out]at this
       exact this)
      have hmk:=HMK.out w12 (zc HG5.out G5.out)
      have hmp:=Y10.out w12 gr12
      have Y12:Hid (∀ y,Grew w12 y→y.rangeAt w10.heap.size 0 go.toList):=hQ9 (fun y g=>(y12.grew g).cell)
      clear gr12 y12
      go_wp2_with(first
       | (with_reducible refine wpList_load_mid rfl 49 (.tmp 8) rfl w2.heap.size 0 rfl kc.toList _ hmk hkt rfl HSKL.out ?_;simp only [Array.toArray_toList])
       | (with_reducible refine wpList_load_mid rfl 38 (.tmp 16) rfl q16 0 rfl gp.toList _ hmp hqt rfl SIPL.out ?_;simp only [Array.toArray_toList]))
      refine(CQP.out w12 (za _)).mono ?_
      clear CQP hmk hmp
      rintro e w13 ⟨rfl,g13⟩
      have hmk:=HMK.out w13 (zc HG5.out (zc G5.out g13))
      have hmo:=Y12.out w13 g13
      go_wp2_with(first
       | (refine zf (by rfl) 49 (.tmp 8) rfl w2.heap.size 0 rfl kc.toList _ hmk hkt rfl HSKL.out ?_;simp only [Array.toArray_toList])
       | (refine zf (by rfl) 38 (.tmp 17) rfl w10.heap.size 0 rfl go.toList _ hmo hqt rfl SIOL.out ?_;simp only [Array.toArray_toList]))
      refine(CQO.out w13 g13).mono ?_
      clear CQO hmk hmo
      rintro e w14 ⟨rfl,g14⟩
      go_wp2_with fail
      go_ret
      exact⟨rfl,zc HGW.out (zc HG5.out (zc G5.out (zc g13 g14)))⟩
    ·rw [hm3]
     refine zv 13 (fun ix9=>match ix9 with
      | 0=>fun v _=>v=.pointer (some ⟨q16,2,none⟩)
      | 1=>fun v _=>v=.slice (some ⟨g8,0,none⟩) 3 c8
      | 2=>fun v _=>v=.int .i64 1
      | 3=>fun v _=>v=.pointer (some ⟨q16,2,none⟩)
      | 4=>fun v _=>v=.slice (some ⟨g8,0,none⟩) 3 c8
      | 5=>fun v _=>v=.int .i64 1
      | 6=>fun v _=>v=.int .i64 2
      | 7=>fun v _=>v=.int .i64 2
      | 8=>fun v _=>v=.pointer (some ⟨g8,48,none⟩)
      | 9=>fun v _=>v=.pointer (some ⟨g8,50,none⟩)
      | 10=>fun v _=>v=.int .i64 S2.who
      | 11=>fun v _=>v=.pointer (some ⟨g8,24,none⟩)
      | 12=>fun v _=>v=.pointer (some ⟨g8,26,none⟩)
      | _=>fun _ _=>True) (by kernel_rfl) (by kernel_rfl) ?_ ?_ ?_
     ·intro i v x y h hg
      match i,h with
      | 0,h | 1,h | 2,h | 3,h | 4,h | 5,h | 6,h | 7,h | 8,h | 9,h | 10,h | 11,h | 12,h=>exact h
      | m+13,_=>trivial
     ·simp only [actOf,tk1,tk0,dr1,dr0,Act.put,si1,st1,st0,Nat.reduceAdd]
      refine⟨?_,?_,?_,?_,?_,?_,?_,?_,?_,?_,?_,?_,?_,trivial⟩
      ·intro vs y hg hd
       dsimp only
       go_wp2_with fail
       exact⟨rfl,_,rfl,za _,rfl⟩
      ·intro vs y hg hd
       obtain⟨h0,_⟩:=hd
       replace h0:=h0 rfl
       dsimp only
       rw [show vs 0=_ from h0]
       have hc:=HP2.out y hg
       go_wp2_with fail
       exact⟨rfl,_,rfl,za _,rfl⟩
      ·intro vs y hg hd
       dsimp only
       go_wp2_with fail
       exact⟨rfl,_,rfl,za _,rfl⟩
      ·intro vs y hg hd
       dsimp only
       go_wp2_with fail
       exact⟨rfl,_,rfl,za _,rfl⟩
      ·intro vs y hg hd
       obtain⟨h3,_⟩:=hd
       replace h3:=h3 rfl
       dsimp only
       rw [show vs 3=_ from h3]
       have hc:=HP2.out y hg
       go_wp2_with fail
       exact⟨rfl,_,rfl,za _,rfl⟩
      ·intro vs y hg hd
       dsimp only
       go_wp2_with fail
       exact⟨rfl,_,rfl,za _,rfl⟩
      ·intro vs y hg hd
       obtain⟨h5,_⟩:=hd
       replace h5:=h5 rfl
       dsimp only
       rw [show vs 5=_ from h5]
       go_wp2_with fail
       exact⟨rfl,_,rfl,za _,rfl⟩
      ·intro vs y hg hd
       obtain⟨h6,_⟩:=hd
       replace h6:=h6 rfl
       dsimp only
       rw [show vs 6=_ from h6]
       go_wp2_with fail
       exact⟨rfl,_,rfl,za _,rfl⟩
      ·intro vs y hg hd
       obtain⟨h4,h7,_⟩:=hd
       replace h4:=h4 rfl
       replace h7:=h7 rfl
       dsimp only
       rw [show vs 4=_ from h4,show vs 7=_ from h7]
       go_wp2_with fail
       exact⟨rfl,_,rfl,za _,rfl⟩
      ·intro vs y hg hd
       obtain⟨h8,_⟩:=hd
       replace h8:=h8 rfl
       dsimp only
       rw [show vs 8=_ from h8]
       go_wp2_with fail
       exact⟨rfl,_,rfl,za _,rfl⟩
      ·intro vs y hg hd
       obtain⟨h9,_⟩:=hd
       replace h9:=h9 rfl
       dsimp only
       rw [show vs 9=_ from h9]
       have hc:=(ye (OWN9.out y hg) HN3.out 50 (.int .i64 S2.who) (by rw [HNE.out];rfl)).1
       go_wp2_with fail
       exact⟨rfl,_,rfl,za _,rfl⟩
      ·intro vs y hg hd
       obtain⟨h1,h2,_⟩:=hd
       replace h1:=h1 rfl
       replace h2:=h2 rfl
       dsimp only
       rw [show vs 1=_ from h1,show vs 2=_ from h2]
       go_wp2_with fail
       exact⟨rfl,_,rfl,za _,rfl⟩
      ·intro vs y hg hd
       obtain⟨h11,_⟩:=hd
       replace h11:=h11 rfl
       dsimp only
       rw [show vs 11=_ from h11]
       go_wp2_with fail
       exact⟨rfl,_,rfl,za _,rfl⟩
     ·intro vs wa hg hJ
      have j0:vs 0=.pointer (some ⟨q16,2,none⟩):=hJ 0 (by decide)
      have j1:vs 1=.slice (some ⟨g8,0,none⟩) 3 c8:=hJ 1 (by decide)
      have j2:vs 2=.int .i64 1:=hJ 2 (by decide)
      have j3:vs 3=.pointer (some ⟨q16,2,none⟩):=hJ 3 (by decide)
      have j4:vs 4=.slice (some ⟨g8,0,none⟩) 3 c8:=hJ 4 (by decide)
      have j5:vs 5=.int .i64 1:=hJ 5 (by decide)
      have j6:vs 6=.int .i64 2:=hJ 6 (by decide)
      have j7:vs 7=.int .i64 2:=hJ 7 (by decide)
      have j8:vs 8=.pointer (some ⟨g8,48,none⟩):=hJ 8 (by decide)
      have j9:vs 9=.pointer (some ⟨g8,50,none⟩):=hJ 9 (by decide)
      have j10:vs 10=.int .i64 S2.who:=hJ 10 (by decide)
      have j11:vs 11=.pointer (some ⟨g8,24,none⟩):=hJ 11 (by decide)
      have j12:vs 12=.pointer (some ⟨g8,26,none⟩):=hJ 12 (by decide)
      clear hJ
      simp only [actOf,tk1,tk0,dr1,dr0,Act.put,si1,st1,st0,Nat.reduceAdd]
      rw [show vs 12=_ from j12,show vs 10=_ from j10]
      have own10:=OWN9.out wa hg
      have x10:=(ye own10 HN3.out 26 (.int .i64 S1.who) (by rw [HNE.out];rfl)).1
      have f10:=(ye own10 HN3.out 26 (.int .i64 S1.who) (by rw [HNE.out];rfl)).2
      have own11:=jH own10 rfl 26 (.int .i64 S2.who)
      have hset:(vpL N).flatten.set 26 (.int .i64 S2.who)=(vpL [S0,⟨S1.vw,S1.cm,S2.who,S1.sw,S1.lf,S1.s,S1.A,S1.c,S1.l⟩,S2]).flatten:=by rw [HNE.out];rfl
      rw [hset]at own11
      have hga:=(zy own10 g8 rfl).1
      have t10:=zV (g:=g8) (zM _ wa) (p:=⟨g8,26,none⟩) (.inl rfl) (.int .i64 S2.who)
      have gr10:=zT (zc GR9.out hg) t10 (by have:=HG75.out;omega)
      have y10:=(Y9.out wa hg).kp (kp_tn t10) (fun h=>by have h:q16=g8:=h;have:=HL67.out;omega)
      obtain⟨w10,hw10⟩:∃ v,wa.setCell ⟨g8,26,none⟩ (.int .i64 S2.who)=v:=⟨_,rfl⟩
      have HW10:=hQ9 hw10
      rw [hw10]at own11 gr10 y10
      clear hset t10 hw10 own10 j0 j1 j2 j3 j4 j5 j6 j7 j8 j9 j10 j11 j12
      go_upto_region 26 with fail
      rw [HW10.out]
      clear x10 f10 HW10
      obtain⟨L,hL⟩:∃ L,([S0,⟨S1.vw,S1.cm,S2.who,S1.sw,S1.lf,S1.s,S1.A,S1.c,S1.l⟩,S2]:List VP)=L:=⟨_,rfl⟩
      have HL3:Hid (L.length=3):=hQ9 (by rw [←hL];rfl)
      have HLK:Hid (∀ S∈L,S.ok):=hQ9 (fun S hS=>by
       rw [←hL]at hS
       have k0:=HOKS.out S0 (by rw [HNE.out];simp)
       have k1:=HOKS.out S1 (by rw [HNE.out];simp)
       have k2:=HOKS.out S2 (by rw [HNE.out];simp)
       simp only [List.mem_cons,List.not_mem_nil,or_false]at hS
       rcases hS with rfl | rfl | rfl
       ·exact k0
       ·exact⟨k1.vw,k1.cm,k2.who,k1.sw,k1.lf,k1.s,k1.len,k1.l⟩
       ·exact k2)
      have HLA:Hid (∀ y,Grew w5 y→∀ S∈L,S.at y):=hQ9 (fun y g S hS=>by
       rw [←hL]at hS
       have k0:=HATS.out y g S0 (by rw [HNE.out];simp)
       have k1:=HATS.out y g S1 (by rw [HNE.out];simp)
       have k2:=HATS.out y g S2 (by rw [HNE.out];simp)
       simp only [List.mem_cons,List.not_mem_nil,or_false]at hS
       rcases hS with rfl | rfl | rfl
       ·exact k0
       ·exact k1
       ·exact k2)
      have HLN:Hid (cqV (kpV seed 1 RA Rc) 3 77 L≠0):=hQ9 (xX HL3.out 1 2 (by rw [HL3.out];decide) (by rw [HL3.out];decide) (by decide) (by subst hL;rfl))
      rw [hL]at own11
      have HVL:Hid (∀ y,Grew w10 y→Vps y (some ⟨g8,0,none⟩) L):=hQ9 (fun y g=>by
       obtain⟨A,cc,e,hB,-,-,-⟩:=yE (zi own11 (zg (S:=fun _=>False) g) (fun _ _ h=>h)) HL3.out
       cases e
       exact⟨hB,HLK.out,HLA.out y (zc gr10 g)⟩)
      have Y10:Hid (∀ y,Grew w10 y→y.rangeAt q16 0 gp.toList):=hQ9 (fun y g=>(y10.grew g).cell)
      have GR10:=hQ9 gr10
      clear own11 y10 gr10 hL hga
      obtain⟨r,hr⟩:∃ r,cqV (kpV seed 1 RA Rc) 3 77 L=r:=⟨_,rfl⟩
      have HR:=hQ9 hr
      have hr0:(r==0)=false:=by have:=HLN.out;rw [hr]at this;simpa using this
      have hr1:(r != 0)=true:=by simp [bne,hr0]
      clear hr
      obtain⟨w11,hw11,ht11,g11,z11⟩:=zE w10 38 (#[.int .i64 0,.int .u64 0,.slice none 0 0]:Array Value) gq (by rw [←HGQ.out];rfl)
      have HW11:=hQ9 hw11
      have HT11:=hQ9 ht11
      have hmq:=(HQZ.out w10 GR10.out).cell
      clear hw11 ht11
      go_upto_region 27 with (first
       | (with_reducible refine wpList_load_mid rfl 38 (.tmp 13) rfl w4.heap.size 0 rfl gq.toList _ hmq hqt rfl SIQL.out ?_;simp only [Array.toArray_toList])
       | (with_reducible refine wpList_store_mid rfl 38 (.tmp 17) (.tmp 103) rfl w10.heap.size 0 gq rfl rfl HT11.out SIQ.out HOQ.out ?_;rw [HW11.out];clear HW11 HT11))
      have x12:w11.cell? ⟨w10.heap.size,0,none⟩=some (.int .i64 3):=by simpa using z11.cell 0 _ (by rw [←HGQ.out];rfl)
      have f12:w11.frozen? ⟨w10.heap.size,0,none⟩=false:=by simpa using (z11.there 0 (by have:=HQL.out;omega)).2
      have t12:=zV (g:=w10.heap.size) (zM _ w11) (p:=⟨w10.heap.size,0,none⟩) (.inl rfl) (.int .i64 4)
      have y12:=Ag.set1 z11 0 (.int .i64 4) (by have:=HQL.out;omega)
      obtain⟨go,hgo⟩:∃ g,vqC 4 77 (some ⟨q0,0,none⟩) 3 j=g:=⟨_,rfl⟩
      have HGO:=hQ9 hgo
      rw [show gq.toList.set 0 (.int .i64 4)=go.toList from by rw [←HGQ.out,←hgo];rfl]at y12
      have gr12:=zT g11 t12 (Nat.le_refl _)
      obtain⟨w12,hw12⟩:∃ v,w11.setCell ⟨w10.heap.size,0,none⟩ (.int .i64 4)=v:=⟨_,rfl⟩
      rw [hw12]at y12 gr12
      have HW12:=hQ9 hw12
      have SIOL:Hid ((Tryz.prog.info? 38).map (·.size)=some go.toList.length):=hQ9 (by rw [←hgo];exact zJ)
      clear t12 hw12 z11 g11 hmq hgo
      go_upto_region 28 with fail
      rw [HW12.out]
      clear x12 f12 HW12
      have G5:=hQ9 (zc GR10.out gr12)
      have CQP:Hid (∀ y,Grew w12 y→Calls Tryz.prog 39 #[.agg kc,.agg gp] y fun e w'=>e=.returned (.int .i64 r)∧Grew y w'):=hQ9 (fun y g=>by
       have g5y:=zc HG5.out (zc G5.out g)
       have:=yq HK0.out 3 77 (some ⟨g8,0,none⟩) c8 L (by rw [HL3.out];decide) y (HSY.out y g5y) (HKA.out y g5y) (HVL.out y (zc gr12 g))
       rw [show vqE (kpV seed 1 RA Rc) 3 77 L=r from(if_neg (by decide)).trans HR.out,HL3.out,HGP.out,HKC.out]at this
       exact this)
      have CQO:Hid (∀ y,Grew w12 y→Calls Tryz.prog 39 #[.agg kc,.agg go] y fun e w'=>e=.returned (.int .i64 12)∧Grew y w'):=hQ9 (fun y g=>by
       have g5y:=zc HG5.out (zc G5.out g)
       have:=yq HK0.out 4 77 (some ⟨q0,0,none⟩) j N (by rw [HN3.out];decide) y (HSY.out y g5y) (HKA.out y g5y) (HQN.out y (zc G5.out g))
       rw [show vqE (kpV seed 1 RA Rc) 4 77 N=12 from(if_neg (by decide)).trans (kU (v:=3) HN3.out (by rw [HN3.out];decide) HNV.out (by decide)),HN3.out,HGO.out,HKC.out]at this
       exact this)
      have hmk:=HMK.out w12 (zc HG5.out G5.out)
      have hmp:=Y10.out w12 gr12
      have Y12:Hid (∀ y,Grew w12 y→y.rangeAt w10.heap.size 0 go.toList):=hQ9 (fun y g=>(y12.grew g).cell)
      clear gr12 y12
      go_wp2_with(first
       | (with_reducible refine wpList_load_mid rfl 49 (.tmp 8) rfl w2.heap.size 0 rfl kc.toList _ hmk hkt rfl HSKL.out ?_;simp only [Array.toArray_toList])
       | (with_reducible refine wpList_load_mid rfl 38 (.tmp 16) rfl q16 0 rfl gp.toList _ hmp hqt rfl SIPL.out ?_;simp only [Array.toArray_toList]))
      refine(CQP.out w12 (za _)).mono ?_
      clear CQP hmk hmp
      rintro e w13 ⟨rfl,g13⟩
      have hmk:=HMK.out w13 (zc HG5.out (zc G5.out g13))
      have hmo:=Y12.out w13 g13
      go_wp2_with(first
       | (refine zf (by rfl) 49 (.tmp 8) rfl w2.heap.size 0 rfl kc.toList _ hmk hkt rfl HSKL.out ?_;simp only [Array.toArray_toList])
       | (refine zf (by rfl) 38 (.tmp 17) rfl w10.heap.size 0 rfl go.toList _ hmo hqt rfl SIOL.out ?_;simp only [Array.toArray_toList]))
      refine(CQO.out w13 g13).mono ?_
      clear CQO hmk hmo
      rintro e w14 ⟨rfl,g14⟩
      go_wp2_with fail
      go_ret
      exact⟨rfl,zc HGW.out (zc HG5.out (zc G5.out (zc g13 g14)))⟩
    ·rw [hm3]
     refine zv 13 (fun ix9=>match ix9 with
      | 0=>fun v _=>v=.pointer (some ⟨q16,2,none⟩)
      | 1=>fun v _=>v=.slice (some ⟨g8,0,none⟩) 3 c8
      | 2=>fun v _=>v=.int .i64 2
      | 3=>fun v _=>v=.pointer (some ⟨q16,2,none⟩)
      | 4=>fun v _=>v=.slice (some ⟨g8,0,none⟩) 3 c8
      | 5=>fun v _=>v=.int .i64 2
      | 6=>fun v _=>v=.int .i64 3
      | 7=>fun v _=>v=.int .i64 0
      | 8=>fun v _=>v=.pointer (some ⟨g8,0,none⟩)
      | 9=>fun v _=>v=.pointer (some ⟨g8,2,none⟩)
      | 10=>fun v _=>v=.int .i64 S0.who
      | 11=>fun v _=>v=.pointer (some ⟨g8,48,none⟩)
      | 12=>fun v _=>v=.pointer (some ⟨g8,50,none⟩)
      | _=>fun _ _=>True) (by kernel_rfl) (by kernel_rfl) ?_ ?_ ?_
     ·intro i v x y h hg
      match i,h with
      | 0,h | 1,h | 2,h | 3,h | 4,h | 5,h | 6,h | 7,h | 8,h | 9,h | 10,h | 11,h | 12,h=>exact h
      | m+13,_=>trivial
     ·simp only [actOf,tk1,tk0,dr1,dr0,Act.put,si1,st1,st0,Nat.reduceAdd]
      refine⟨?_,?_,?_,?_,?_,?_,?_,?_,?_,?_,?_,?_,?_,trivial⟩
      ·intro vs y hg hd
       dsimp only
       go_wp2_with fail
       exact⟨rfl,_,rfl,za _,rfl⟩
      ·intro vs y hg hd
       obtain⟨h0,_⟩:=hd
       replace h0:=h0 rfl
       dsimp only
       rw [show vs 0=_ from h0]
       have hc:=HP2.out y hg
       go_wp2_with fail
       exact⟨rfl,_,rfl,za _,rfl⟩
      ·intro vs y hg hd
       dsimp only
       go_wp2_with fail
       exact⟨rfl,_,rfl,za _,rfl⟩
      ·intro vs y hg hd
       dsimp only
       go_wp2_with fail
       exact⟨rfl,_,rfl,za _,rfl⟩
      ·intro vs y hg hd
       obtain⟨h3,_⟩:=hd
       replace h3:=h3 rfl
       dsimp only
       rw [show vs 3=_ from h3]
       have hc:=HP2.out y hg
       go_wp2_with fail
       exact⟨rfl,_,rfl,za _,rfl⟩
      ·intro vs y hg hd
       dsimp only
       go_wp2_with fail
       exact⟨rfl,_,rfl,za _,rfl⟩
      ·intro vs y hg hd
       obtain⟨h5,_⟩:=hd
       replace h5:=h5 rfl
       dsimp only
       rw [show vs 5=_ from h5]
       go_wp2_with fail
       exact⟨rfl,_,rfl,za _,rfl⟩
      ·intro vs y hg hd
       obtain⟨h6,_⟩:=hd
       replace h6:=h6 rfl
       dsimp only
       rw [show vs 6=_ from h6]
       go_wp2_with fail
       exact⟨rfl,_,rfl,za _,rfl⟩
      ·intro vs y hg hd
       obtain⟨h4,h7,_⟩:=hd
       replace h4:=h4 rfl
       replace h7:=h7 rfl
       dsimp only
       rw [show vs 4=_ from h4,show vs 7=_ from h7]
       go_wp2_with fail
       exact⟨rfl,_,rfl,za _,rfl⟩
      ·intro vs y hg hd
       obtain⟨h8,_⟩:=hd
       replace h8:=h8 rfl
       dsimp only
       rw [show vs 8=_ from h8]
       go_wp2_with fail
       exact⟨rfl,_,rfl,za _,rfl⟩
      ·intro vs y hg hd
       obtain⟨h9,_⟩:=hd
       replace h9:=h9 rfl
       dsimp only
       rw [show vs 9=_ from h9]
       have hc:=(ye (OWN9.out y hg) HN3.out 2 (.int .i64 S0.who) (by rw [HNE.out];rfl)).1
       go_wp2_with fail
       exact⟨rfl,_,rfl,za _,rfl⟩
      ·intro vs y hg hd
       obtain⟨h1,h2,_⟩:=hd
       replace h1:=h1 rfl
       replace h2:=h2 rfl
       dsimp only
       rw [show vs 1=_ from h1,show vs 2=_ from h2]
       go_wp2_with fail
       exact⟨rfl,_,rfl,za _,rfl⟩
      ·intro vs y hg hd
       obtain⟨h11,_⟩:=hd
       replace h11:=h11 rfl
       dsimp only
       rw [show vs 11=_ from h11]
       go_wp2_with fail
       exact⟨rfl,_,rfl,za _,rfl⟩
     ·intro vs wa hg hJ
      have j0:vs 0=.pointer (some ⟨q16,2,none⟩):=hJ 0 (by decide)
      have j1:vs 1=.slice (some ⟨g8,0,none⟩) 3 c8:=hJ 1 (by decide)
      have j2:vs 2=.int .i64 2:=hJ 2 (by decide)
      have j3:vs 3=.pointer (some ⟨q16,2,none⟩):=hJ 3 (by decide)
      have j4:vs 4=.slice (some ⟨g8,0,none⟩) 3 c8:=hJ 4 (by decide)
      have j5:vs 5=.int .i64 2:=hJ 5 (by decide)
      have j6:vs 6=.int .i64 3:=hJ 6 (by decide)
      have j7:vs 7=.int .i64 0:=hJ 7 (by decide)
      have j8:vs 8=.pointer (some ⟨g8,0,none⟩):=hJ 8 (by decide)
      have j9:vs 9=.pointer (some ⟨g8,2,none⟩):=hJ 9 (by decide)
      have j10:vs 10=.int .i64 S0.who:=hJ 10 (by decide)
      have j11:vs 11=.pointer (some ⟨g8,48,none⟩):=hJ 11 (by decide)
      have j12:vs 12=.pointer (some ⟨g8,50,none⟩):=hJ 12 (by decide)
      clear hJ
      simp only [actOf,tk1,tk0,dr1,dr0,Act.put,si1,st1,st0,Nat.reduceAdd]
      rw [show vs 12=_ from j12,show vs 10=_ from j10]
      have own10:=OWN9.out wa hg
      have x10:=(ye own10 HN3.out 50 (.int .i64 S2.who) (by rw [HNE.out];rfl)).1
      have f10:=(ye own10 HN3.out 50 (.int .i64 S2.who) (by rw [HNE.out];rfl)).2
      have own11:=jH own10 rfl 50 (.int .i64 S0.who)
      have hset:(vpL N).flatten.set 50 (.int .i64 S0.who)=(vpL [S0,S1,⟨S2.vw,S2.cm,S0.who,S2.sw,S2.lf,S2.s,S2.A,S2.c,S2.l⟩]).flatten:=by rw [HNE.out];rfl
      rw [hset]at own11
      have hga:=(zy own10 g8 rfl).1
      have t10:=zV (g:=g8) (zM _ wa) (p:=⟨g8,50,none⟩) (.inl rfl) (.int .i64 S0.who)
      have gr10:=zT (zc GR9.out hg) t10 (by have:=HG75.out;omega)
      have y10:=(Y9.out wa hg).kp (kp_tn t10) (fun h=>by have h:q16=g8:=h;have:=HL67.out;omega)
      obtain⟨w10,hw10⟩:∃ v,wa.setCell ⟨g8,50,none⟩ (.int .i64 S0.who)=v:=⟨_,rfl⟩
      have HW10:=hQ9 hw10
      rw [hw10]at own11 gr10 y10
      clear hset t10 hw10 own10 j0 j1 j2 j3 j4 j5 j6 j7 j8 j9 j10 j11 j12
      go_upto_region 26 with fail
      rw [HW10.out]
      clear x10 f10 HW10
      obtain⟨L,hL⟩:∃ L,([S0,S1,⟨S2.vw,S2.cm,S0.who,S2.sw,S2.lf,S2.s,S2.A,S2.c,S2.l⟩]:List VP)=L:=⟨_,rfl⟩
      have HL3:Hid (L.length=3):=hQ9 (by rw [←hL];rfl)
      have HLK:Hid (∀ S∈L,S.ok):=hQ9 (fun S hS=>by
       rw [←hL]at hS
       have k0:=HOKS.out S0 (by rw [HNE.out];simp)
       have k1:=HOKS.out S1 (by rw [HNE.out];simp)
       have k2:=HOKS.out S2 (by rw [HNE.out];simp)
       simp only [List.mem_cons,List.not_mem_nil,or_false]at hS
       rcases hS with rfl | rfl | rfl
       ·exact k0
       ·exact k1
       ·exact⟨k2.vw,k2.cm,k0.who,k2.sw,k2.lf,k2.s,k2.len,k2.l⟩)
      have HLA:Hid (∀ y,Grew w5 y→∀ S∈L,S.at y):=hQ9 (fun y g S hS=>by
       rw [←hL]at hS
       have k0:=HATS.out y g S0 (by rw [HNE.out];simp)
       have k1:=HATS.out y g S1 (by rw [HNE.out];simp)
       have k2:=HATS.out y g S2 (by rw [HNE.out];simp)
       simp only [List.mem_cons,List.not_mem_nil,or_false]at hS
       rcases hS with rfl | rfl | rfl
       ·exact k0
       ·exact k1
       ·exact k2)
      have HLN:Hid (cqV (kpV seed 1 RA Rc) 3 77 L≠0):=hQ9 (xX HL3.out 0 2 (by rw [HL3.out];decide) (by rw [HL3.out];decide) (by decide) (by subst hL;rfl))
      rw [hL]at own11
      have HVL:Hid (∀ y,Grew w10 y→Vps y (some ⟨g8,0,none⟩) L):=hQ9 (fun y g=>by
       obtain⟨A,cc,e,hB,-,-,-⟩:=yE (zi own11 (zg (S:=fun _=>False) g) (fun _ _ h=>h)) HL3.out
       cases e
       exact⟨hB,HLK.out,HLA.out y (zc gr10 g)⟩)
      have Y10:Hid (∀ y,Grew w10 y→y.rangeAt q16 0 gp.toList):=hQ9 (fun y g=>(y10.grew g).cell)
      have GR10:=hQ9 gr10
      clear own11 y10 gr10 hL hga
      obtain⟨r,hr⟩:∃ r,cqV (kpV seed 1 RA Rc) 3 77 L=r:=⟨_,rfl⟩
      have HR:=hQ9 hr
      have hr0:(r==0)=false:=by have:=HLN.out;rw [hr]at this;simpa using this
      have hr1:(r != 0)=true:=by simp [bne,hr0]
      clear hr
      obtain⟨w11,hw11,ht11,g11,z11⟩:=zE w10 38 (#[.int .i64 0,.int .u64 0,.slice none 0 0]:Array Value) gq (by rw [←HGQ.out];rfl)
      have HW11:=hQ9 hw11
      have HT11:=hQ9 ht11
      have hmq:=(HQZ.out w10 GR10.out).cell
      clear hw11 ht11
      go_upto_region 27 with (first
       | (with_reducible refine wpList_load_mid rfl 38 (.tmp 13) rfl w4.heap.size 0 rfl gq.toList _ hmq hqt rfl SIQL.out ?_;simp only [Array.toArray_toList])
       | (with_reducible refine wpList_store_mid rfl 38 (.tmp 17) (.tmp 103) rfl w10.heap.size 0 gq rfl rfl HT11.out SIQ.out HOQ.out ?_;rw [HW11.out];clear HW11 HT11))
      have x12:w11.cell? ⟨w10.heap.size,0,none⟩=some (.int .i64 3):=by simpa using z11.cell 0 _ (by rw [←HGQ.out];rfl)
      have f12:w11.frozen? ⟨w10.heap.size,0,none⟩=false:=by simpa using (z11.there 0 (by have:=HQL.out;omega)).2
      have t12:=zV (g:=w10.heap.size) (zM _ w11) (p:=⟨w10.heap.size,0,none⟩) (.inl rfl) (.int .i64 4)
      have y12:=Ag.set1 z11 0 (.int .i64 4) (by have:=HQL.out;omega)
      obtain⟨go,hgo⟩:∃ g,vqC 4 77 (some ⟨q0,0,none⟩) 3 j=g:=⟨_,rfl⟩
      have HGO:=hQ9 hgo
      rw [show gq.toList.set 0 (.int .i64 4)=go.toList from by rw [←HGQ.out,←hgo];rfl]at y12
      have gr12:=zT g11 t12 (Nat.le_refl _)
      obtain⟨w12,hw12⟩:∃ v,w11.setCell ⟨w10.heap.size,0,none⟩ (.int .i64 4)=v:=⟨_,rfl⟩
      rw [hw12]at y12 gr12
      have HW12:=hQ9 hw12
      have SIOL:Hid ((Tryz.prog.info? 38).map (·.size)=some go.toList.length):=hQ9 (by rw [←hgo];exact zJ)
      clear t12 hw12 z11 g11 hmq hgo
      go_upto_region 28 with fail
      rw [HW12.out]
      clear x12 f12 HW12
      have G5:=hQ9 (zc GR10.out gr12)
      have CQP:Hid (∀ y,Grew w12 y→Calls Tryz.prog 39 #[.agg kc,.agg gp] y fun e w'=>e=.returned (.int .i64 r)∧Grew y w'):=hQ9 (fun y g=>by
       have g5y:=zc HG5.out (zc G5.out g)
       have:=yq HK0.out 3 77 (some ⟨g8,0,none⟩) c8 L (by rw [HL3.out];decide) y (HSY.out y g5y) (HKA.out y g5y) (HVL.out y (zc gr12 g))
       rw [show vqE (kpV seed 1 RA Rc) 3 77 L=r from(if_neg (by decide)).trans HR.out,HL3.out,HGP.out,HKC.out]at this
       exact this)
      have CQO:Hid (∀ y,Grew w12 y→Calls Tryz.prog 39 #[.agg kc,.agg go] y fun e w'=>e=.returned (.int .i64 12)∧Grew y w'):=hQ9 (fun y g=>by
       have g5y:=zc HG5.out (zc G5.out g)
       have:=yq HK0.out 4 77 (some ⟨q0,0,none⟩) j N (by rw [HN3.out];decide) y (HSY.out y g5y) (HKA.out y g5y) (HQN.out y (zc G5.out g))
       rw [show vqE (kpV seed 1 RA Rc) 4 77 N=12 from(if_neg (by decide)).trans (kU (v:=3) HN3.out (by rw [HN3.out];decide) HNV.out (by decide)),HN3.out,HGO.out,HKC.out]at this
       exact this)
      have hmk:=HMK.out w12 (zc HG5.out G5.out)
      have hmp:=Y10.out w12 gr12
      have Y12:Hid (∀ y,Grew w12 y→y.rangeAt w10.heap.size 0 go.toList):=hQ9 (fun y g=>(y12.grew g).cell)
      clear gr12 y12
      go_wp2_with(first
       | (with_reducible refine wpList_load_mid rfl 49 (.tmp 8) rfl w2.heap.size 0 rfl kc.toList _ hmk hkt rfl HSKL.out ?_;simp only [Array.toArray_toList])
       | (with_reducible refine wpList_load_mid rfl 38 (.tmp 16) rfl q16 0 rfl gp.toList _ hmp hqt rfl SIPL.out ?_;simp only [Array.toArray_toList]))
      refine(CQP.out w12 (za _)).mono ?_
      clear CQP hmk hmp
      rintro e w13 ⟨rfl,g13⟩
      have hmk:=HMK.out w13 (zc HG5.out (zc G5.out g13))
      have hmo:=Y12.out w13 g13
      go_wp2_with(first
       | (refine zf (by rfl) 49 (.tmp 8) rfl w2.heap.size 0 rfl kc.toList _ hmk hkt rfl HSKL.out ?_;simp only [Array.toArray_toList])
       | (refine zf (by rfl) 38 (.tmp 17) rfl w10.heap.size 0 rfl go.toList _ hmo hqt rfl SIOL.out ?_;simp only [Array.toArray_toList]))
      refine(CQO.out w13 g13).mono ?_
      clear CQO hmk hmo
      rintro e w14 ⟨rfl,g14⟩
      go_wp2_with fail
      go_ret
      exact⟨rfl,zc HGW.out (zc HG5.out (zc G5.out (zc g13 g14)))⟩
   ·rw [decide_eq_false h3]at hen
    have CG:=hQ9 (qX HK0.out 3 77 A c M (by omega) wr (HSY.out wr (za _)) (HKA.out wr (za _)) hVp hen)
    rw [HKC.out]at CG
    have e3:decide ((3:Int)≤(M.length:Int))=false:=decide_eq_false (by omega)
    have e3b:decide (3≤M.length)=false:=decide_eq_false h3
    clear hmv hvr hkb hVp hcM hAB hen hml
    go_wp2_with(with_reducible refine wpList_load_mid rfl 49 (.tmp 8) rfl w2.heap.size 0 rfl kc.toList _ hmk hkt rfl HSKL.out ?_;simp only [Array.toArray_toList])
    refine(CG.out).mono ?_
    clear CG
    rintro e w4 ⟨rfl,g4⟩
    obtain⟨gz,hgz⟩:∃ g,(#[.int .i64 0,.int .u64 0,.slice none 0 0]:Array Value)=g:=⟨_,rfl⟩
    rw [hgz]
    obtain⟨w5,hw5,ht5,g5,z5⟩:=zE w4 38 (#[.int .i64 0,.int .u64 0,.slice none 0 0]:Array Value) gz (by rw [←hgz])
    have HW5:=hQ9 hw5
    have HT5:=hQ9 ht5
    have SIQ:Hid ((Tryz.prog.info? 38).map (·.size)=some gz.size):=hQ9 (by rw [←hgz];exact zJ)
    have HOQ:Hid (gz.all (·.oneCell')=true):=hQ9 (by rw [←hgz];simp [Value.oneCell'])
    have hc2:w5.cell? ⟨w4.heap.size,2,none⟩=some (.slice none 0 0):=by simpa using z5.cell 2 _ (by rw [←hgz];rfl)
    have HGF:Hid (Grew w w5):=hQ9 (zc HGW.out (zc g4 g5))
    clear hw5 ht5 z5 hgz
    go_wp2_with(with_reducible refine wpList_store_mid rfl 38 (.tmp 13) (.tmp 57) rfl w4.heap.size 0 gz rfl rfl HT5.out SIQ.out HOQ.out ?_;rw [HW5.out];clear HW5 HT5)
    go_ret
    exact⟨rfl,HGF.out⟩
end Go.Proofs.YtidjnnnigcmdpaaGreatDoor
