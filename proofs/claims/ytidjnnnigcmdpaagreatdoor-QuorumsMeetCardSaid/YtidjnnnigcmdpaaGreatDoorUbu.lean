/- Two rows of votes that grow side by side. -/
import Derived.Test.YtidjnnnigcmdpaaGreatDoorUzz
import Derived.Test.YtidjnnnigcmdpaaGreatDoorUbt
set_option maxHeartbeats 8000000
set_option maxRecDepth 100000
set_option linter.unusedSimpArgs false
set_option linter.unusedVariables false
set_option linter.unnecessarySimpa false
namespace Go.Proofs.YtidjnnnigcmdpaaGreatDoor
open Go.RowKit
structure VTwo (B0:Nat) (rv rw:Value) (M N:List VP) (w:World):Prop where
 a:VRow B0 rv M w
 b:VRow B0 rw N w
 ab:SepV rv N
 ba:SepV rw M
 ne:∀ g,rv.ownBlock=some g→rw.ownBlock=some g→False
theorem VTwo.swap {B0:Nat} {rv rw:Value} {M N:List VP} {w:World} (h:VTwo B0 rv rw M N w):VTwo B0 rw rv N M w:=⟨h.b,h.a,h.ba,h.ab,fun g h1 h2=>h.ne g h2 h1⟩
theorem VTwo.nil (B0:Nat) (w:World):VTwo B0 (.slice none 0 0) (.slice none 0 0) [] [] w:=⟨VRow.nil _ _,VRow.nil _ _,fun S hS=>by simp at hS,fun S hS=>by simp at hS,fun g h=>by cases h⟩
theorem VTwo.grew {B0:Nat} {rv rw:Value} {M N:List VP} {w w':World} (h:VTwo B0 rv rw M N w) (g:Grew w w'):VTwo B0 rv rw M N w':=⟨h.a.grew g,h.b.grew g,h.ab,h.ba,h.ne⟩
theorem VTwo.key {B0:Nat} {rv rw:Value} {M N:List VP} {w w':World} (h:VTwo B0 rv rw M N w) {b:Nat} (k:Kp (fun j=>j=b) w w') (hb:b<B0):VTwo B0 rv rw M N w':=⟨h.a.key k hb,h.b.key k hb,h.ab,h.ba,h.ne⟩
theorem VTwo.app {B0:Nat} {rv rw rv':Value} {M N:List VP} {w wa w':World} (h:VTwo B0 rv rw M N w) {S:VP} (hS:S.ok) (ha:S.at w) (hl:∀ ad,S.A=some ad→S.l=[]∨B0≤ad.block) (hn:∀ ad,S.A=some ad→∀ g,rv.ownBlock=some g→S.l=[]∨ad.block≠g) (hm:∀ ad,S.A=some ad→∀ g,rw.ownBlock=some g→S.l=[]∨ad.block≠g) (ga:Grew w wa) (hown:w'.ownsRow B0 69 24 rv' (M.length+1) ((vpL M).flatten++S.C.toList)) (hg:wa.grownBy w' rv.ownBlock) (hob:rv'.ownBlock=rv.ownBlock∨rv'.ownBlock=some wa.heap.size):VTwo B0 rv' rw (M++[S]) N w' where
 a:=h.a.app hS ha hl hn ga hown hg hob
 b:=(h.b.grew ga).kp (P:=fun g=>rv.ownBlock=some g) (ya (zN _ wa) hg (fun g e=>.inl e)) (fun g e h1=>h.ne g h1 e) (fun T hT ad e=>by
  by_cases h1:rv.ownBlock=some ad.block
  ·rcases h.ab T hT ad e _ h1 with h2 | h2
   ·exact .inl h2
   ·exact absurd rfl h2
  ·exact .inr h1)
 ab:=fun T hT ad e g hg2=>by
  rcases hob with h3 | h3
  ·rw [h3]at hg2;exact h.ab T hT ad e g hg2
  ·rw [h3]at hg2
   injection hg2 with hg2
   rcases h.b.lt T hT ad e with h4 | h4
   ·exact .inl h4
   ·have:=ga.size
    exact .inr (by omega)
 ba:=fun T hT ad e g hg2=>by
  rcases List.mem_append.1 hT with h1 | h1
  ·exact h.ba T h1 ad e g hg2
  ·obtain rfl:T=S:=by simpa using h1
   exact hm ad e g hg2
 ne:=fun g h1 h2=>by
  rcases hob with h3 | h3
  ·rw [h3]at h1;exact h.ne g h1 h2
  ·rw [h3]at h1
   injection h1 with h1
   have:=(zu h.b.row g h2).2
   have:=ga.size
   omega
def nx2 (a b:Nat→Bool) (n:Nat):Nat→Nat:=fun i=>if i<n then (if a i=true then 1 else 0)+(if b i=true then 1 else 0) else 0
theorem yc (a b:Nat→Bool) (n:Nat):nx2 a b n n=0:=by unfold nx2;rw [if_neg (by omega)]
theorem xa (nx:Nat→Nat) (n:Nat):updK nx n n=nx n+1:=by unfold updK;rw [if_pos rfl]
theorem xK (a b:Nat→Bool) (n:Nat) (f:Nat→Nat) (h:f n=(if a n=true then 1 else 0)+(if b n=true then 1 else 0)) (h2:∀ j,j≠n→f j=nx2 a b n j):f=nx2 a b (n+1):=by
 funext j
 by_cases e:j=n
 ·subst e
  rw [h]
  unfold nx2
  exact(if_pos (Nat.lt_succ_self j)).symm
 ·rw [h2 j e]
  unfold nx2
  by_cases h1:j<n
  ·have h3:j<n+1:=by omega
   rw [if_pos h1,if_pos h3]
  ·have h3:¬j<n+1:=by omega
   rw [if_neg h1,if_neg h3]
theorem kC (nx:Nat→Nat) (n j:Nat) (h:j≠n):updK nx n j=nx j:=by unfold updK;rw [if_neg h]
theorem yW (b:Nat→Bool) (n:Nat):cntB b (n+1)=cntB b n+(if b n=true then 1 else 0):=by
 unfold cntB
 rw [List.range_succ,List.filter_append,List.length_append]
 by_cases h:b n=true
 ·rw [List.filter_cons_of_pos h,if_pos h];rfl
 ·rw [List.filter_cons_of_neg h,if_neg h];rfl
theorem cntB_4 (b:Nat→Bool):cntB b 4=(b 0).toNat+(b 1).toNat+(b 2).toNat+(b 3).toNat:=by
 rw [yW,yW,yW,yW]
 show 0+_+_+_+_=_
 cases b 0<;>cases b 1<;>cases b 2<;>cases b 3<;>rfl
theorem zdq (a b:Nat→Bool) (ha:3≤cntB a 4) (hb:3≤cntB b 4):2≤cntB (fun i=>a i&&b i) 4:=by
 rw [cntB_4]at ha hb ⊢
 revert ha hb
 generalize a 0=a0;generalize a 1=a1;generalize a 2=a2;generalize a 3=a3
 generalize b 0=b0;generalize b 1=b1;generalize b 2=b2;generalize b 3=b3
 revert a0 a1 a2 a3 b0 b1 b2 b3
 decide
def bitF (who:Int) (n:Nat):Bool:=(bits BinOp.and IntKind.u8 (who / 2^n) 1==1)
theorem jB (seed:Int) (hsd:U64 seed) (aa:Int) (haa:0≤aa∧aa≤255) (bb:Int) (hbb:0≤bb∧bb≤255) (w:World) (hS:Std w) :
 Calls Tryz.prog 5 #[.int .u64 seed,.int .u8 aa,.int .u8 bb] w fun e w'=>e=.returned (.bool true)∧Grew w w':=by
 have CK:=hQ9 (zca w hS)
 have HS:=hQ9 hS
 have hkt:=Tryz.underlying49
 have hut:=Tryz.underlying69
 have hqt:=Tryz.underlying38
 obtain⟨i0,hi,hz0,hz1,hz2⟩:=info_parts ju
 clear hS
 go_enter Tryz.func5,Tryz.ntmps5
 go_wp2_with fail
 refine(CK.out).mono ?_
 clear CK
 rintro e w1 ⟨rfl,g1⟩
 have CE:=hQ9 (zay seed hsd 1 (by omega) w1)
 go_wp2_with fail
 refine(CE.out).mono ?_
 clear CE
 rintro e w2 ⟨LA,Lc,RA,Rc,p,rfl,KS,rL,rR,FL0,FR0,G1⟩
 obtain⟨lad,hLA,-,-⟩:=rL 0 (by simp [ptrL])
 subst hLA
 obtain⟨kc,hkc⟩:∃ v,kyS 1 RA 4 Rc ((1:Nat):Int)=v:=⟨_,rfl⟩
 have HSK:Hid ((Tryz.prog.info? 49).map (·.size)=some (kyS 1 RA 4 Rc ((1:Nat):Int)).size):=hQ9 (by kernel_rfl)
 have HSKL:Hid ((Tryz.prog.info? 49).map (·.size)=some (kyS 1 RA 4 Rc ((1:Nat):Int)).toList.length):=hQ9 (by kernel_rfl)
 have HOK:Hid ((kyS 1 RA 4 Rc ((1:Nat):Int)).all (·.oneCell')=true):=hQ9 (by simp [kyS,Value.oneCell'])
 have HKC:Hid ((kpV seed 1 RA Rc).C=kyS 1 RA 4 Rc ((1:Nat):Int)):=hQ9 (kpV_C seed 1 RA Rc)
 have HK0:Hid (kpV seed 1 RA Rc).ok:=hQ9 (qU seed 1 (by omega) RA Rc)
 obtain⟨w3,hw3,ht3,g3,z3⟩:=zB w2 49 (#[.int .i64 0,.slice none 0 0,.int .i64 0]) (kyS 1 RA 4 Rc ((1:Nat):Int)) rfl
 have HW3:=hQ9 hw3
 have HT3:=hQ9 ht3
 have hrb:∀ ad,RA=some ad→ad.block<w2.heap.size:=fun ad e=>by
  obtain⟨ad2,e2,hb,_⟩:=rR 0 (by simp [u64L,xg])
  rw [e]at e2;cases e2;exact hb
 have hlb:lad.block<w2.heap.size:=by
  obtain⟨ad,e,hb,_⟩:=rL 0 (by simp [ptrL])
  cases e;exact hb
 have KB:Hid (KBase seed 1 p (nx2 (bitF aa) (bitF bb) 0) w2.heap.size lad RA Rc w1 w3.heap.size w3):=hQ9 {
  ks:=fun i hi=>by
   have:nx2 (bitF aa) (bitF bb) 0 i=0:=by unfold nx2;rw [if_neg (by omega)]
   rw [this];exact(KS.key i hi).grew g3
  kc:=z3
  ld:=fun i hi=>by
   obtain⟨ad,e,_,hc⟩:=(rL.gr g3) i (by simp [ptrL];exact hi)
   cases e
   rw [hc];simp [ptrL]
  rR:=rR.gr g3
  gr:=zc G1 g3
  sz:=Nat.le_refl _
  b0:=by have:=G1.size;have:=g3.size;omega
  lo:=fun i hi=>by
   have h1:=KS.low i hi
   have h2:=(KS.key i hi).key.lt
   have h3:=(KS.key i hi).pub.lt
   have:=g3.size
   exact⟨by omega,by omega,by omega⟩
  qb:=z3.lt
  qn:=fun i hi e=>by have h2:=(KS.key i hi).key.lt;omega
  lb:=by have:=g3.size;omega
  ln:=fun i hi=>(FL0 lad rfl i hi).2
  rb:=fun ad e=>by have:=hrb ad e;have:=g3.size;omega
  rn:=fun i hi ad e=>(FR0 ad e i hi).2
  ap:=KS.apart }
 have HVR:Hid (VTwo w3.heap.size (.slice none 0 0) (.slice none 0 0) [] [] w3):=hQ9 (VTwo.nil _ _)
 have HMV0:Hid (∀ D f g,MvV (vBs seed 2 D f g 0) []):=hQ9 (fun D f g=>by simpa [vBs]using MvV.nil)
 clear hw3 ht3 g3 z3 KS rL rR FL0 FR0 G1 hrb hlb
 rw [hkc]at HSK HSKL HOK HT3 HW3 HKC ⊢
 have HKCE:=hQ9 hkc
 clear hkc
 obtain⟨fa,hfa⟩:∃ f,bitF aa=f:=⟨_,rfl⟩
 obtain⟨fb,hfb⟩:∃ f,bitF bb=f:=⟨_,rfl⟩
 rw [hfa,hfb]at KB
 have HFA:Hid (∀ n,(bits BinOp.and IntKind.u8 (aa / 2^n) 1==1)=fa n):=hQ9 (fun n=>by rw [←hfa];rfl)
 have HFB:Hid (∀ n,(bits BinOp.and IntKind.u8 (bb / 2^n) 1==1)=fb n):=hQ9 (fun n=>by rw [←hfb];rfl)
 clear hfa hfb
 go_wp2_with(with_reducible refine wpList_store_mid rfl 49 (.tmp 8) (.tmp 29) rfl w2.heap.size 0 kc rfl rfl HT3.out HSK.out HOK.out ?_;rw [HW3.out];clear HW3 HT3)
 go_loopw [9,10,11,12] (fun rv rw nb iv wr=>∃(n:Nat) (M N:List VP),n≤4∧iv=.int .i64 (n:Int)∧nb=.int .i64 (cntB (fun i=>fa i&&fb i) n:Nat)∧MvV (vBs seed 2 7 fa (fun _=>0) n) M∧MvV (vBs seed 2 8 fb (fun i=>if fa i=true then 1 else 0) n) N∧VTwo w3.heap.size rv rw M N wr∧KBase seed 1 p (nx2 fa fb n) w2.heap.size lad RA Rc w1 w3.heap.size wr) (fun _ _ _ iv _=>4-(Go.RowKit.intOf iv).toNat)
 case atStart=>exact⟨0,[],[],by omega,rfl,rfl,HMV0.out _ _ _,HMV0.out _ _ _,HVR.out,KB.out⟩
 case round =>
  clear HMV0 HVR KB
  obtain⟨n,M,N,hn,rfl,rfl,hmv,hmw,htw,hkb⟩:=hrel
  by_cases hlt:n<4
  ·have e33:decide ((n:Int)<4)=true:=decide_eq_true (by omega)
   have e44:decide (n<4)=true:=decide_eq_true hlt
   have hlm:M.length≤4:=by rw [hmv.len,y6];exact Nat.le_trans (y7 _ _) hn
   have hln:N.length≤4:=by rw [hmw.len,y6];exact Nat.le_trans (y7 _ _) hn
   have HLM:=hQ9 hlm
   have HLN:=hQ9 hln
   have hxa:=HFA.out n
   have hxb:=HFB.out n
   have hcb:=y7 (fun i=>fa i&&fb i) n
   have hwr:IntKind.i64.wrap (((cntB (fun i=>fa i&&fb i) n:Nat):Int)+1)=((cntB (fun i=>fa i&&fb i) n:Nat):Int)+1:=IntWalk.i64_in _ (by omega)
   have hcs:=yW (fun i=>fa i&&fb i) n
   have HFG:Hid (∀ j,j≠n→nx2 fa fb n j=nx2 fa fb n j):=hQ9 (fun _ _=>rfl)
   by_cases hfa:fa n=true
   ·rw [hfa]at hxa
    by_cases hfb:fb n=true
    ·rw [hfb]at hxb
     have CM:Hid (Calls Tryz.prog 43 #[.pointer (some ⟨p n+1,0,none⟩),.int .i64 (n:Int),.int .i64 2,.int .u64 7] wr fun e w' =>
      (∃ A c,e=.returned (.tuple #[.agg (vpK seed 1 0 2 7 n A c).C,.int .i64 0])∧(vpK seed 1 0 2 7 n A c).at w'∧(∀ ad,A=some ad→wr.heap.size≤ad.block))∧Tn (p n+1) wr w'∧KyAt w' (p n+1) (p n) (n:Int) (sdI seed n) (ksL seed 1 n) (0+1) (2^1)):=hQ9 (xz seed 1 n 0 (by omega) hlt (by decide) (p n) 2 ⟨by decide,by decide⟩ 7 (by decide) wr ((HS.out.grew g1).grew hkb.gr) (by have:=hkb.ks n hlt;rw [yc]at this;exact this))
     have hc:=hkb.ld n hlt
     go_wp2_with fail
     refine(CM.out).mono ?_
     clear CM hc
     rintro e s4 ⟨⟨sA,sc,rfl,shat,shfr⟩,sht,shk⟩
     have sml:=hmv.snoc (vpK seed 1 0 2 7 n none 0) sA sc
     rw [jx]at sml
     obtain⟨sS,shS⟩:∃ S,vpK seed 1 0 2 7 n sA sc=S:=⟨_,rfl⟩
     have sHSO:Hid sS.ok:=hQ9 (by rw [←shS];exact kb seed 1 0 (by omega) (by decide) 2 ⟨by decide,by decide⟩ 7 (by decide) n hlt sA sc)
     have sHSA:Hid (∀ ad,sS.A=some ad→wr.heap.size≤ad.block):=hQ9 (by rw [←shS];exact shfr)
     rw [shS]at shat sml ⊢
     have sHML:Hid (MvV (vBs seed 2 7 fa (fun _=>0) (n+1)) (M++[sS])):=hQ9 (by rw [kA seed 2 7 fa (fun _=>0) n hfa];exact sml)
     have skb4:=hkb.tn hlt (kp_tn sht) (by rw [yc];exact shk)
     have stw4:=htw.key (kp_tn sht) ((hkb.lo n hlt).2.1)
     have sHOA:Hid (∀ g,u9.ownBlock=some g→g<wr.heap.size):=hQ9 (fun g e=>(zu htw.a.row g e).2)
     have sHOB:Hid (∀ g,u10.ownBlock=some g→g<wr.heap.size):=hQ9 (fun g e=>(zu htw.b.row g e).2)
     have sHSZ:Hid (w3.heap.size≤wr.heap.size):=hQ9 hkb.sz
     obtain⟨s5,shw5,sht5,sg5,sz5⟩:=zB s4 69 (#[.int .i64 0,.int .u64 0,.int .i64 0,.int .i64 0,.int .i64 0,.int .u64 0,.int .u64 0,.int .u64 0,.int .u64 0,.int .u64 0,.int .u64 0,.int .u64 0,.int .u64 0,.int .u64 0,.int .u64 0,.int .u64 0,.int .u64 0,.int .u64 0,.int .u64 0,.int .u64 0,.int .u64 0,.int .u64 0,.int .u64 0,.slice none 0 0]:Array Value) sS.C rfl
     have sHW5:=hQ9 shw5
     have sHT5:=hQ9 sht5
     have sKB5:=hQ9 (skb4.grew sg5)
     have sTW5:=hQ9 (stw4.grew sg5)
     have sHAT5:=hQ9 (shat.gr sg5)
     have sHONE:Hid (∀ u∈sS.C.toList,u.oneCell'=true):=hQ9 sS.one'
     have sHON:Hid (sS.C.all (·.oneCell')=true):=hQ9 sS.one
     have sHFOLD:Hid (Array.foldl (fun(cs:Array Value) (x:Value × Nat)=>cs.setIfInBounds x.snd x.fst) (#[.int .i64 0,.int .u64 0,.int .i64 0,.int .i64 0,.int .i64 0,.int .u64 0,.int .u64 0,.int .u64 0,.int .u64 0,.int .u64 0,.int .u64 0,.int .u64 0,.int .u64 0,.int .u64 0,.int .u64 0,.int .u64 0,.int .u64 0,.int .u64 0,.int .u64 0,.int .u64 0,.int .u64 0,.int .u64 0,.int .u64 0,.slice none 0 0]:Array Value) sS.C.zipIdx 0 24=sS.C):=hQ9 (yB sS)
     obtain⟨sgs,shgs⟩:∃ g,sS.C=g:=⟨_,rfl⟩
     have sHGS:=hQ9 shgs
     have sgs24:sgs.size=24:=by rw [←shgs];rfl
     have sHLEN:Hid (sgs.toList.length=24):=hQ9 (by rw [←shgs];rfl)
     have sHSI:Hid ((Tryz.prog.info? 69).map (·.size)=some sgs.size):=hQ9 (by rw [←shgs];exact zo)
     have sHSL:Hid ((Tryz.prog.info? 69).map (·.size)=some sgs.toList.length):=hQ9 (by rw [←shgs];exact zo)
     rw [shgs]at sz5 sHW5 sHT5 sHONE sHON sHFOLD ⊢
     have shm5:=sz5.cell
     have srow5:=sTW5.out.a.row
     have shb9:w3.heap.size≤s5.heap.size:=sKB5.out.sz
     have sga:=ze (za s5) (.cells sgs 69)
     clear shS sml skb4 stw4 shw5 sht5 sg5 sz5 shat shgs hkb htw sht shk shfr
     go_upto_region 18 with (first
      | (with_reducible refine wpList_store_mid rfl 69 (.tmp 15) (.tmp 57) rfl s4.heap.size 0 sgs rfl rfl sHT5.out sHSI.out sHON.out ?_;rw [sHW5.out];clear sHW5 sHT5)
      | (with_reducible refine wpList_load_mid rfl 69 (.tmp 15) rfl s4.heap.size 0 rfl sgs.toList _ shm5 hut rfl sHSL.out ?_;simp only [Array.toArray_toList])
      | (at_builtin;rw [sHFOLD.out];refine zI _ rfl (.tmp 61) (.tmp 63) 36 rfl w3.heap.size 69 i0 (.agg (#[.int .i64 0,.int .u64 0,.int .i64 0,.int .i64 0,.int .i64 0,.int .u64 0,.int .u64 0,.int .u64 0,.int .u64 0,.int .u64 0,.int .u64 0,.int .u64 0,.int .u64 0,.int .u64 0,.int .u64 0,.int .u64 0,.int .u64 0,.int .u64 0,.int .u64 0,.int .u64 0,.int .u64 0,.int .u64 0,.int .u64 0,.slice none 0 0]:Array Value)) 24 208 Tryz.underlying36 hi hz0 hz1 hz2 rfl (by decide) _ _ _ rfl (srow5.alloc _) ⟨s5.heap.size,0,none⟩ 1 1 sgs.toList rfl (by rw [sHLEN.out]) (fun j u hj=>zT s5 sgs 69 j u hj) sHONE.out (by have:=HLM.out;unfold maxLen;omega) (by have:=HLM.out;omega) (by simp;omega) ?_;intro sv s6 shown shgrow shob))
     have sK6:Kp (fun g=>w3.heap.size≤g) s5 s6:=ya (zg sga) shgrow (fun g e=>.inl (zy srow5 g e))
     have skb6:=sKB5.out.kp sK6 (fun g h=>h)
     have stw6:=sTW5.out.app sHSO.out sHAT5.out (fun ad e=>.inr (by have:=sHSA.out ad e;have:=sHSZ.out;omega)) (fun ad e g hg=>.inr (by have:=sHSA.out ad e;have:=sHOA.out g hg;omega)) (fun ad e g hg=>.inr (by have:=sHSA.out ad e;have:=sHOB.out g hg;omega)) sga (by rw [sHGS.out];exact shown) shgrow shob
     have htwS:=stw6.swap
     have CM:Hid (Calls Tryz.prog 43 #[.pointer (some ⟨p n+1,0,none⟩),.int .i64 (n:Int),.int .i64 2,.int .u64 8] s6 fun e w' =>
      (∃ A c,e=.returned (.tuple #[.agg (vpK seed 1 1 2 8 n A c).C,.int .i64 0])∧(vpK seed 1 1 2 8 n A c).at w'∧(∀ ad,A=some ad→s6.heap.size≤ad.block))∧Tn (p n+1) s6 w'∧KyAt w' (p n+1) (p n) (n:Int) (sdI seed n) (ksL seed 1 n) (1+1) (2^1)):=hQ9 (xz seed 1 n 1 (by omega) hlt (by decide) (p n) 2 ⟨by decide,by decide⟩ 8 (by decide) s6 ((HS.out.grew g1).grew skb6.gr) (by have:=skb6.ks n hlt;rw [xa,yc]at this;exact this))
     have hc:=skb6.ld n hlt
     go_wp2_with fail
     refine(CM.out).mono ?_
     clear CM hc
     rintro e t4 ⟨⟨tA,tc,rfl,that,thfr⟩,tht,thk⟩
     have tml:=hmw.snoc (vpK seed 1 1 2 8 n none 0) tA tc
     rw [jx]at tml
     obtain⟨tS,thS⟩:∃ S,vpK seed 1 1 2 8 n tA tc=S:=⟨_,rfl⟩
     have tHSO:Hid tS.ok:=hQ9 (by rw [←thS];exact kb seed 1 1 (by omega) (by decide) 2 ⟨by decide,by decide⟩ 8 (by decide) n hlt tA tc)
     have tHSA:Hid (∀ ad,tS.A=some ad→s6.heap.size≤ad.block):=hQ9 (by rw [←thS];exact thfr)
     rw [thS]at that tml ⊢
     have tHML:Hid (MvV (vBs seed 2 8 fb (fun i=>if fa i=true then 1 else 0) (n+1)) (N++[tS])):=hQ9 (by rw [kA seed 2 8 fb (fun i=>if fa i=true then 1 else 0) n hfb];show MvV (_++[vpK seed 1 (if fa n=true then 1 else 0) 2 8 n none 0]) _;rw [hfa];exact tml)
     have tkb4:=skb6.tn hlt (kp_tn tht) (by rw [xa,yc];exact thk)
     have ttw4:=htwS.key (kp_tn tht) ((skb6.lo n hlt).2.1)
     have tHOA:Hid (∀ g,u10.ownBlock=some g→g<s6.heap.size):=hQ9 (fun g e=>(zu htwS.a.row g e).2)
     have tHOB:Hid (∀ g,sv.ownBlock=some g→g<s6.heap.size):=hQ9 (fun g e=>(zu htwS.b.row g e).2)
     have tHSZ:Hid (w3.heap.size≤s6.heap.size):=hQ9 skb6.sz
     obtain⟨t5,thw5,tht5,tg5,tz5⟩:=zB t4 69 (#[.int .i64 0,.int .u64 0,.int .i64 0,.int .i64 0,.int .i64 0,.int .u64 0,.int .u64 0,.int .u64 0,.int .u64 0,.int .u64 0,.int .u64 0,.int .u64 0,.int .u64 0,.int .u64 0,.int .u64 0,.int .u64 0,.int .u64 0,.int .u64 0,.int .u64 0,.int .u64 0,.int .u64 0,.int .u64 0,.int .u64 0,.slice none 0 0]:Array Value) tS.C rfl
     have tHW5:=hQ9 thw5
     have tHT5:=hQ9 tht5
     have tKB5:=hQ9 (tkb4.grew tg5)
     have tTW5:=hQ9 (ttw4.grew tg5)
     have tHAT5:=hQ9 (that.gr tg5)
     have tHONE:Hid (∀ u∈tS.C.toList,u.oneCell'=true):=hQ9 tS.one'
     have tHON:Hid (tS.C.all (·.oneCell')=true):=hQ9 tS.one
     have tHFOLD:Hid (Array.foldl (fun(cs:Array Value) (x:Value × Nat)=>cs.setIfInBounds x.snd x.fst) (#[.int .i64 0,.int .u64 0,.int .i64 0,.int .i64 0,.int .i64 0,.int .u64 0,.int .u64 0,.int .u64 0,.int .u64 0,.int .u64 0,.int .u64 0,.int .u64 0,.int .u64 0,.int .u64 0,.int .u64 0,.int .u64 0,.int .u64 0,.int .u64 0,.int .u64 0,.int .u64 0,.int .u64 0,.int .u64 0,.int .u64 0,.slice none 0 0]:Array Value) tS.C.zipIdx 0 24=tS.C):=hQ9 (yB tS)
     obtain⟨tgs,thgs⟩:∃ g,tS.C=g:=⟨_,rfl⟩
     have tHGS:=hQ9 thgs
     have tgs24:tgs.size=24:=by rw [←thgs];rfl
     have tHLEN:Hid (tgs.toList.length=24):=hQ9 (by rw [←thgs];rfl)
     have tHSI:Hid ((Tryz.prog.info? 69).map (·.size)=some tgs.size):=hQ9 (by rw [←thgs];exact zo)
     have tHSL:Hid ((Tryz.prog.info? 69).map (·.size)=some tgs.toList.length):=hQ9 (by rw [←thgs];exact zo)
     rw [thgs]at tz5 tHW5 tHT5 tHONE tHON tHFOLD ⊢
     have thm5:=tz5.cell
     have trow5:=tTW5.out.a.row
     have thb9:w3.heap.size≤t5.heap.size:=tKB5.out.sz
     have tga:=ze (za t5) (.cells tgs 69)
     clear thS tml tkb4 ttw4 thw5 tht5 tg5 tz5 that thgs skb6 htwS tht thk thfr
     go_wp2_with(first
      | (with_reducible refine wpList_store_mid rfl 69 (.tmp 17) (.tmp 73) rfl t4.heap.size 0 tgs rfl rfl tHT5.out tHSI.out tHON.out ?_;rw [tHW5.out];clear tHW5 tHT5)
      | (with_reducible refine wpList_load_mid rfl 69 (.tmp 17) rfl t4.heap.size 0 rfl tgs.toList _ thm5 hut rfl tHSL.out ?_;simp only [Array.toArray_toList])
      | (at_builtin;rw [tHFOLD.out];refine zI _ rfl (.tmp 77) (.tmp 79) 36 rfl w3.heap.size 69 i0 (.agg (#[.int .i64 0,.int .u64 0,.int .i64 0,.int .i64 0,.int .i64 0,.int .u64 0,.int .u64 0,.int .u64 0,.int .u64 0,.int .u64 0,.int .u64 0,.int .u64 0,.int .u64 0,.int .u64 0,.int .u64 0,.int .u64 0,.int .u64 0,.int .u64 0,.int .u64 0,.int .u64 0,.int .u64 0,.int .u64 0,.int .u64 0,.slice none 0 0]:Array Value)) 24 208 Tryz.underlying36 hi hz0 hz1 hz2 rfl (by decide) _ _ _ rfl (trow5.alloc _) ⟨t5.heap.size,0,none⟩ 1 1 tgs.toList rfl (by rw [tHLEN.out]) (fun j u hj=>zT t5 tgs 69 j u hj) tHONE.out (by have:=HLN.out;unfold maxLen;omega) (by have:=HLN.out;omega) (by simp;omega) ?_;intro tv t6 thown thgrow thob))
     have tK6:Kp (fun g=>w3.heap.size≤g) t5 t6:=ya (zg tga) thgrow (fun g e=>.inl (zy trow5 g e))
     have tkb6:=tKB5.out.kp tK6 (fun g h=>h)
     have ttw6:=tTW5.out.app tHSO.out tHAT5.out (fun ad e=>.inr (by have:=tHSA.out ad e;have:=tHSZ.out;omega)) (fun ad e g hg=>.inr (by have:=tHSA.out ad e;have:=tHOA.out g hg;omega)) (fun ad e g hg=>.inr (by have:=tHSA.out ad e;have:=tHOB.out g hg;omega)) tga (by rw [tHGS.out];exact thown) thgrow thob
     have hnx:=xK fa fb n (updK (updK (nx2 fa fb n) n) n) (by rw [xa,xa,yc,hfa,hfb];rfl) (fun j h=>by rw [kC _ _ _ h,kC _ _ _ h])
     rw [hnx]at tkb6
     have hcn:cntB (fun i=>fa i&&fb i) (n+1)=cntB (fun i=>fa i&&fb i) n+1:=by rw [hcs];simp [hfa,hfb]
     refine⟨⟨n+1,M++[sS],N++[tS],by omega,(by go_num),(by rw [hcn];go_num),sHML.out,tHML.out,ttw6.swap,tkb6⟩,?_⟩
     simp [Go.RowKit.intOf];omega
    ·have hfb:fb n=false:=by simpa using hfb
     rw [hfb]at hxb
     have CM:Hid (Calls Tryz.prog 43 #[.pointer (some ⟨p n+1,0,none⟩),.int .i64 (n:Int),.int .i64 2,.int .u64 7] wr fun e w' =>
      (∃ A c,e=.returned (.tuple #[.agg (vpK seed 1 0 2 7 n A c).C,.int .i64 0])∧(vpK seed 1 0 2 7 n A c).at w'∧(∀ ad,A=some ad→wr.heap.size≤ad.block))∧Tn (p n+1) wr w'∧KyAt w' (p n+1) (p n) (n:Int) (sdI seed n) (ksL seed 1 n) (0+1) (2^1)):=hQ9 (xz seed 1 n 0 (by omega) hlt (by decide) (p n) 2 ⟨by decide,by decide⟩ 7 (by decide) wr ((HS.out.grew g1).grew hkb.gr) (by have:=hkb.ks n hlt;rw [yc]at this;exact this))
     have hc:=hkb.ld n hlt
     go_wp2_with fail
     refine(CM.out).mono ?_
     clear CM hc
     rintro e s4 ⟨⟨sA,sc,rfl,shat,shfr⟩,sht,shk⟩
     have sml:=hmv.snoc (vpK seed 1 0 2 7 n none 0) sA sc
     rw [jx]at sml
     obtain⟨sS,shS⟩:∃ S,vpK seed 1 0 2 7 n sA sc=S:=⟨_,rfl⟩
     have sHSO:Hid sS.ok:=hQ9 (by rw [←shS];exact kb seed 1 0 (by omega) (by decide) 2 ⟨by decide,by decide⟩ 7 (by decide) n hlt sA sc)
     have sHSA:Hid (∀ ad,sS.A=some ad→wr.heap.size≤ad.block):=hQ9 (by rw [←shS];exact shfr)
     rw [shS]at shat sml ⊢
     have sHML:Hid (MvV (vBs seed 2 7 fa (fun _=>0) (n+1)) (M++[sS])):=hQ9 (by rw [kA seed 2 7 fa (fun _=>0) n hfa];exact sml)
     have skb4:=hkb.tn hlt (kp_tn sht) (by rw [yc];exact shk)
     have stw4:=htw.key (kp_tn sht) ((hkb.lo n hlt).2.1)
     have sHOA:Hid (∀ g,u9.ownBlock=some g→g<wr.heap.size):=hQ9 (fun g e=>(zu htw.a.row g e).2)
     have sHOB:Hid (∀ g,u10.ownBlock=some g→g<wr.heap.size):=hQ9 (fun g e=>(zu htw.b.row g e).2)
     have sHSZ:Hid (w3.heap.size≤wr.heap.size):=hQ9 hkb.sz
     obtain⟨s5,shw5,sht5,sg5,sz5⟩:=zB s4 69 (#[.int .i64 0,.int .u64 0,.int .i64 0,.int .i64 0,.int .i64 0,.int .u64 0,.int .u64 0,.int .u64 0,.int .u64 0,.int .u64 0,.int .u64 0,.int .u64 0,.int .u64 0,.int .u64 0,.int .u64 0,.int .u64 0,.int .u64 0,.int .u64 0,.int .u64 0,.int .u64 0,.int .u64 0,.int .u64 0,.int .u64 0,.slice none 0 0]:Array Value) sS.C rfl
     have sHW5:=hQ9 shw5
     have sHT5:=hQ9 sht5
     have sKB5:=hQ9 (skb4.grew sg5)
     have sTW5:=hQ9 (stw4.grew sg5)
     have sHAT5:=hQ9 (shat.gr sg5)
     have sHONE:Hid (∀ u∈sS.C.toList,u.oneCell'=true):=hQ9 sS.one'
     have sHON:Hid (sS.C.all (·.oneCell')=true):=hQ9 sS.one
     have sHFOLD:Hid (Array.foldl (fun(cs:Array Value) (x:Value × Nat)=>cs.setIfInBounds x.snd x.fst) (#[.int .i64 0,.int .u64 0,.int .i64 0,.int .i64 0,.int .i64 0,.int .u64 0,.int .u64 0,.int .u64 0,.int .u64 0,.int .u64 0,.int .u64 0,.int .u64 0,.int .u64 0,.int .u64 0,.int .u64 0,.int .u64 0,.int .u64 0,.int .u64 0,.int .u64 0,.int .u64 0,.int .u64 0,.int .u64 0,.int .u64 0,.slice none 0 0]:Array Value) sS.C.zipIdx 0 24=sS.C):=hQ9 (yB sS)
     obtain⟨sgs,shgs⟩:∃ g,sS.C=g:=⟨_,rfl⟩
     have sHGS:=hQ9 shgs
     have sgs24:sgs.size=24:=by rw [←shgs];rfl
     have sHLEN:Hid (sgs.toList.length=24):=hQ9 (by rw [←shgs];rfl)
     have sHSI:Hid ((Tryz.prog.info? 69).map (·.size)=some sgs.size):=hQ9 (by rw [←shgs];exact zo)
     have sHSL:Hid ((Tryz.prog.info? 69).map (·.size)=some sgs.toList.length):=hQ9 (by rw [←shgs];exact zo)
     rw [shgs]at sz5 sHW5 sHT5 sHONE sHON sHFOLD ⊢
     have shm5:=sz5.cell
     have srow5:=sTW5.out.a.row
     have shb9:w3.heap.size≤s5.heap.size:=sKB5.out.sz
     have sga:=ze (za s5) (.cells sgs 69)
     clear shS sml skb4 stw4 shw5 sht5 sg5 sz5 shat shgs hkb htw sht shk shfr
     go_upto_region 18 with (first
      | (with_reducible refine wpList_store_mid rfl 69 (.tmp 15) (.tmp 57) rfl s4.heap.size 0 sgs rfl rfl sHT5.out sHSI.out sHON.out ?_;rw [sHW5.out];clear sHW5 sHT5)
      | (with_reducible refine wpList_load_mid rfl 69 (.tmp 15) rfl s4.heap.size 0 rfl sgs.toList _ shm5 hut rfl sHSL.out ?_;simp only [Array.toArray_toList])
      | (at_builtin;rw [sHFOLD.out];refine zI _ rfl (.tmp 61) (.tmp 63) 36 rfl w3.heap.size 69 i0 (.agg (#[.int .i64 0,.int .u64 0,.int .i64 0,.int .i64 0,.int .i64 0,.int .u64 0,.int .u64 0,.int .u64 0,.int .u64 0,.int .u64 0,.int .u64 0,.int .u64 0,.int .u64 0,.int .u64 0,.int .u64 0,.int .u64 0,.int .u64 0,.int .u64 0,.int .u64 0,.int .u64 0,.int .u64 0,.int .u64 0,.int .u64 0,.slice none 0 0]:Array Value)) 24 208 Tryz.underlying36 hi hz0 hz1 hz2 rfl (by decide) _ _ _ rfl (srow5.alloc _) ⟨s5.heap.size,0,none⟩ 1 1 sgs.toList rfl (by rw [sHLEN.out]) (fun j u hj=>zT s5 sgs 69 j u hj) sHONE.out (by have:=HLM.out;unfold maxLen;omega) (by have:=HLM.out;omega) (by simp;omega) ?_;intro sv s6 shown shgrow shob))
     have sK6:Kp (fun g=>w3.heap.size≤g) s5 s6:=ya (zg sga) shgrow (fun g e=>.inl (zy srow5 g e))
     have skb6:=sKB5.out.kp sK6 (fun g h=>h)
     have stw6:=sTW5.out.app sHSO.out sHAT5.out (fun ad e=>.inr (by have:=sHSA.out ad e;have:=sHSZ.out;omega)) (fun ad e g hg=>.inr (by have:=sHSA.out ad e;have:=sHOA.out g hg;omega)) (fun ad e g hg=>.inr (by have:=sHSA.out ad e;have:=sHOB.out g hg;omega)) sga (by rw [sHGS.out];exact shown) shgrow shob
     go_wp2_with fail
     have hnx:=xK fa fb n (updK (nx2 fa fb n) n) (by rw [xa,yc,hfa,hfb];rfl) (fun j h=>by rw [kC _ _ _ h])
     rw [hnx]at skb6
     have hcn:cntB (fun i=>fa i&&fb i) (n+1)=cntB (fun i=>fa i&&fb i) n+0:=by rw [hcs];simp [hfa,hfb]
     refine⟨⟨n+1,M++[sS],N,by omega,(by go_num),(by rw [hcn];rfl),sHML.out,by rw [jz _ _ _ _ _ _ hfb];exact hmw,stw6,skb6⟩,?_⟩
     simp [Go.RowKit.intOf];omega
   ·have hfa:fa n=false:=by simpa using hfa
    rw [hfa]at hxa
    by_cases hfb:fb n=true
    ·rw [hfb]at hxb
     have htwS:=htw.swap
     have CM:Hid (Calls Tryz.prog 43 #[.pointer (some ⟨p n+1,0,none⟩),.int .i64 (n:Int),.int .i64 2,.int .u64 8] wr fun e w' =>
      (∃ A c,e=.returned (.tuple #[.agg (vpK seed 1 0 2 8 n A c).C,.int .i64 0])∧(vpK seed 1 0 2 8 n A c).at w'∧(∀ ad,A=some ad→wr.heap.size≤ad.block))∧Tn (p n+1) wr w'∧KyAt w' (p n+1) (p n) (n:Int) (sdI seed n) (ksL seed 1 n) (0+1) (2^1)):=hQ9 (xz seed 1 n 0 (by omega) hlt (by decide) (p n) 2 ⟨by decide,by decide⟩ 8 (by decide) wr ((HS.out.grew g1).grew hkb.gr) (by have:=hkb.ks n hlt;rw [yc]at this;exact this))
     have hc:=hkb.ld n hlt
     go_wp2_with fail
     refine(CM.out).mono ?_
     clear CM hc
     rintro e t4 ⟨⟨tA,tc,rfl,that,thfr⟩,tht,thk⟩
     have tml:=hmw.snoc (vpK seed 1 0 2 8 n none 0) tA tc
     rw [jx]at tml
     obtain⟨tS,thS⟩:∃ S,vpK seed 1 0 2 8 n tA tc=S:=⟨_,rfl⟩
     have tHSO:Hid tS.ok:=hQ9 (by rw [←thS];exact kb seed 1 0 (by omega) (by decide) 2 ⟨by decide,by decide⟩ 8 (by decide) n hlt tA tc)
     have tHSA:Hid (∀ ad,tS.A=some ad→wr.heap.size≤ad.block):=hQ9 (by rw [←thS];exact thfr)
     rw [thS]at that tml ⊢
     have tHML:Hid (MvV (vBs seed 2 8 fb (fun i=>if fa i=true then 1 else 0) (n+1)) (N++[tS])):=hQ9 (by rw [kA seed 2 8 fb (fun i=>if fa i=true then 1 else 0) n hfb];show MvV (_++[vpK seed 1 (if fa n=true then 1 else 0) 2 8 n none 0]) _;rw [hfa];exact tml)
     have tkb4:=hkb.tn hlt (kp_tn tht) (by rw [yc];exact thk)
     have ttw4:=htwS.key (kp_tn tht) ((hkb.lo n hlt).2.1)
     have tHOA:Hid (∀ g,u10.ownBlock=some g→g<wr.heap.size):=hQ9 (fun g e=>(zu htwS.a.row g e).2)
     have tHOB:Hid (∀ g,u9.ownBlock=some g→g<wr.heap.size):=hQ9 (fun g e=>(zu htwS.b.row g e).2)
     have tHSZ:Hid (w3.heap.size≤wr.heap.size):=hQ9 hkb.sz
     obtain⟨t5,thw5,tht5,tg5,tz5⟩:=zB t4 69 (#[.int .i64 0,.int .u64 0,.int .i64 0,.int .i64 0,.int .i64 0,.int .u64 0,.int .u64 0,.int .u64 0,.int .u64 0,.int .u64 0,.int .u64 0,.int .u64 0,.int .u64 0,.int .u64 0,.int .u64 0,.int .u64 0,.int .u64 0,.int .u64 0,.int .u64 0,.int .u64 0,.int .u64 0,.int .u64 0,.int .u64 0,.slice none 0 0]:Array Value) tS.C rfl
     have tHW5:=hQ9 thw5
     have tHT5:=hQ9 tht5
     have tKB5:=hQ9 (tkb4.grew tg5)
     have tTW5:=hQ9 (ttw4.grew tg5)
     have tHAT5:=hQ9 (that.gr tg5)
     have tHONE:Hid (∀ u∈tS.C.toList,u.oneCell'=true):=hQ9 tS.one'
     have tHON:Hid (tS.C.all (·.oneCell')=true):=hQ9 tS.one
     have tHFOLD:Hid (Array.foldl (fun(cs:Array Value) (x:Value × Nat)=>cs.setIfInBounds x.snd x.fst) (#[.int .i64 0,.int .u64 0,.int .i64 0,.int .i64 0,.int .i64 0,.int .u64 0,.int .u64 0,.int .u64 0,.int .u64 0,.int .u64 0,.int .u64 0,.int .u64 0,.int .u64 0,.int .u64 0,.int .u64 0,.int .u64 0,.int .u64 0,.int .u64 0,.int .u64 0,.int .u64 0,.int .u64 0,.int .u64 0,.int .u64 0,.slice none 0 0]:Array Value) tS.C.zipIdx 0 24=tS.C):=hQ9 (yB tS)
     obtain⟨tgs,thgs⟩:∃ g,tS.C=g:=⟨_,rfl⟩
     have tHGS:=hQ9 thgs
     have tgs24:tgs.size=24:=by rw [←thgs];rfl
     have tHLEN:Hid (tgs.toList.length=24):=hQ9 (by rw [←thgs];rfl)
     have tHSI:Hid ((Tryz.prog.info? 69).map (·.size)=some tgs.size):=hQ9 (by rw [←thgs];exact zo)
     have tHSL:Hid ((Tryz.prog.info? 69).map (·.size)=some tgs.toList.length):=hQ9 (by rw [←thgs];exact zo)
     rw [thgs]at tz5 tHW5 tHT5 tHONE tHON tHFOLD ⊢
     have thm5:=tz5.cell
     have trow5:=tTW5.out.a.row
     have thb9:w3.heap.size≤t5.heap.size:=tKB5.out.sz
     have tga:=ze (za t5) (.cells tgs 69)
     clear thS tml tkb4 ttw4 thw5 tht5 tg5 tz5 that thgs hkb htwS tht thk thfr
     go_wp2_with(first
      | (with_reducible refine wpList_store_mid rfl 69 (.tmp 17) (.tmp 73) rfl t4.heap.size 0 tgs rfl rfl tHT5.out tHSI.out tHON.out ?_;rw [tHW5.out];clear tHW5 tHT5)
      | (with_reducible refine wpList_load_mid rfl 69 (.tmp 17) rfl t4.heap.size 0 rfl tgs.toList _ thm5 hut rfl tHSL.out ?_;simp only [Array.toArray_toList])
      | (at_builtin;rw [tHFOLD.out];refine zI _ rfl (.tmp 77) (.tmp 79) 36 rfl w3.heap.size 69 i0 (.agg (#[.int .i64 0,.int .u64 0,.int .i64 0,.int .i64 0,.int .i64 0,.int .u64 0,.int .u64 0,.int .u64 0,.int .u64 0,.int .u64 0,.int .u64 0,.int .u64 0,.int .u64 0,.int .u64 0,.int .u64 0,.int .u64 0,.int .u64 0,.int .u64 0,.int .u64 0,.int .u64 0,.int .u64 0,.int .u64 0,.int .u64 0,.slice none 0 0]:Array Value)) 24 208 Tryz.underlying36 hi hz0 hz1 hz2 rfl (by decide) _ _ _ rfl (trow5.alloc _) ⟨t5.heap.size,0,none⟩ 1 1 tgs.toList rfl (by rw [tHLEN.out]) (fun j u hj=>zT t5 tgs 69 j u hj) tHONE.out (by have:=HLN.out;unfold maxLen;omega) (by have:=HLN.out;omega) (by simp;omega) ?_;intro tv t6 thown thgrow thob))
     have tK6:Kp (fun g=>w3.heap.size≤g) t5 t6:=ya (zg tga) thgrow (fun g e=>.inl (zy trow5 g e))
     have tkb6:=tKB5.out.kp tK6 (fun g h=>h)
     have ttw6:=tTW5.out.app tHSO.out tHAT5.out (fun ad e=>.inr (by have:=tHSA.out ad e;have:=tHSZ.out;omega)) (fun ad e g hg=>.inr (by have:=tHSA.out ad e;have:=tHOA.out g hg;omega)) (fun ad e g hg=>.inr (by have:=tHSA.out ad e;have:=tHOB.out g hg;omega)) tga (by rw [tHGS.out];exact thown) thgrow thob
     have hnx:=xK fa fb n (updK (nx2 fa fb n) n) (by rw [xa,yc,hfa,hfb];rfl) (fun j h=>by rw [kC _ _ _ h])
     rw [hnx]at tkb6
     have hcn:cntB (fun i=>fa i&&fb i) (n+1)=cntB (fun i=>fa i&&fb i) n+0:=by rw [hcs];simp [hfa,hfb]
     refine⟨⟨n+1,M,N++[tS],by omega,(by go_num),(by rw [hcn];rfl),by rw [jz _ _ _ _ _ _ hfa];exact hmv,tHML.out,ttw6.swap,tkb6⟩,?_⟩
     simp [Go.RowKit.intOf];omega
    ·have hfb:fb n=false:=by simpa using hfb
     rw [hfb]at hxb
     go_wp2_with fail
     have hnx:=xK fa fb n (nx2 fa fb n) (by rw [yc,hfa,hfb];rfl) (fun j h=>rfl)
     rw [hnx]at hkb
     have hcn:cntB (fun i=>fa i&&fb i) (n+1)=cntB (fun i=>fa i&&fb i) n+0:=by rw [hcs];simp [hfa,hfb]
     refine⟨⟨n+1,M,N,by omega,(by go_num),(by rw [hcn];rfl),by rw [jz _ _ _ _ _ _ hfa];exact hmv,by rw [jz _ _ _ _ _ _ hfb];exact hmw,htw,hkb⟩,?_⟩
     simp [Go.RowKit.intOf];omega
  ·obtain rfl:n=4:=by omega
   obtain⟨A,c,rfl,hVp,hcM,hAB⟩:=htw.a.vps
   obtain⟨A',c',rfl,hVq,hcN,hAC⟩:=htw.b.vps
   have hml:M.length=cntB fa 4:=by rw [hmv.len,y6]
   have hnl:N.length=cntB fb 4:=by rw [hmw.len,y6]
   have hml4:M.length≤4:=by rw [hml];exact y7 _ _
   have hnl4:N.length≤4:=by rw [hnl];exact y7 _ _
   have hen:=jA (RA:=RA) (Rc:=Rc) (by decide:vwB 2=true) (fun i _=>(by decide:0<2^1)) hmv
   have hfn:=jA (RA:=RA) (Rc:=Rc) (by decide:vwB 2=true) (fun i _=>by show(if fa i=true then 1 else 0)<2^1;split<;>decide) hmw
   rw [←hml]at hen
   rw [←hnl]at hfn
   have HBO:Hid (3≤M.length→3≤N.length→2≤cntB (fun i=>fa i&&fb i) 4):=hQ9 (by rw [hml,hnl];exact zdq fa fb)
   have HSY:Hid (∀ y,Grew wr y→Std y):=hQ9 (fun y g=>HS.out.grew (zc (zc g1 hkb.gr) g))
   have HKA:Hid (∀ y,Grew wr y→(kpV seed 1 RA Rc).at y):=hQ9 (fun y g=>Rd.gr (show Rd wr wr.heap.size RA (u64L (rtL seed 1 4)) from hkb.rR) g)
   have HMK:Hid (∀ y,Grew wr y→y.rangeAt w2.heap.size 0 kc.toList):=hQ9 (fun y g=>by rw [←HKCE.out];exact(hkb.kc.grew g).cell)
   have HGW:Hid (Grew w wr):=hQ9 (zc g1 hkb.gr)
   have HVP:Hid (∀ y,Grew wr y→Vps y A M):=hQ9 (fun y g=>hVp.gr g)
   have HVQ:Hid (∀ y,Grew wr y→Vps y A' N):=hQ9 (fun y g=>hVq.gr g)
   have HEN:=hQ9 hen
   have HFN:=hQ9 hfn
   have hc4:=y7 (fun i=>fa i&&fb i) 4
   obtain⟨nb,hnb⟩:∃ x,cntB (fun i=>fa i&&fb i) 4=x:=⟨_,rfl⟩
   rw [hnb]at HBO hc4 ⊢
   clear hmv hmw htw hkb hVp hVq hcM hcN hAB hAC hml hnl hen hfn hnb
   have hgr:=za wr
   by_cases k3:3≤M.length
   ·
    have hmk:=HMK.out wr hgr
    have khen:enoughV (kpV seed 1 RA Rc) 2 7 M=true:=by rw [HEN.out];exact decide_eq_true k3
    have kCG:=hQ9 (yQ HK0.out 2 7 A c M (by omega) wr (HSY.out wr hgr) (HKA.out wr hgr) (HVP.out wr hgr) khen)
    have khch:=yR khen
    have khcq:=xJ khen
    rw [show(2*(kpV seed 1 RA Rc).f+1).toNat=3 from rfl]at khch
    rw [HKC.out,khch]at kCG
    generalize chosenV (kpV seed 1 RA Rc) 2 7 M=kE at *
    have kHCH:=hQ9 khch
    have kHCQ:=hQ9 khcq
    have ke3:decide ((3:Int)≤(M.length:Int))=true:=decide_eq_true (by omega)
    have ke3b:decide (3≤M.length)=true:=decide_eq_true k3
    clear khen khch khcq
    go_wp2_with(first
     | (with_reducible refine wpList_load_mid rfl 49 (.tmp 8) rfl w2.heap.size 0 rfl kc.toList _ hmk hkt rfl HSKL.out ?_;simp only [Array.toArray_toList]))
    refine(kCG.out).mono ?_
    clear kCG hmk
    rintro e k4 ⟨⟨kB,kj,kN,rfl,khm,khV,-,-⟩,kg4⟩
    have kHN3:Hid (kN.length=3):=hQ9 (by rw [khm.len,kHCH.out])
    have kHCN:Hid (cqV (kpV seed 1 RA Rc) 2 7 kN=0):=hQ9 (by rw [qX khm];exact kHCQ.out)
    obtain⟨kgq,khgq⟩:∃ g,vqC 2 7 kB 3 kj=g:=⟨_,rfl⟩
    have kHGQ:=hQ9 khgq
    rw [khgq]
    have kHVN:=hQ9 khV
    obtain⟨k5,khw5,kht5,kg5,kz5⟩:=zB k4 38 (#[.int .i64 0,.int .u64 0,.slice none 0 0]:Array Value) kgq (by rw [←khgq];try rfl)
    have kHW5:=hQ9 khw5
    have kHT5:=hQ9 kht5
    have kSQ:Hid ((Tryz.prog.info? 38).map (·.size)=some kgq.size):=hQ9 (by rw [←khgq];exact zD)
    have kSQL:Hid ((Tryz.prog.info? 38).map (·.size)=some kgq.toList.length):=hQ9 (by rw [←khgq];exact zD)
    have kHOQ:Hid (kgq.all (·.oneCell')=true):=hQ9 (by rw [←khgq];simp [vqC,Value.oneCell'])
    have kgw:=zc hgr (zc kg4 kg5)
    have kHZ:Hid (∀ y,Grew k5 y→y.rangeAt k4.heap.size 0 kgq.toList):=hQ9 (fun y g=>(kz5.grew g).cell)
    have kG45:=hQ9 kg5
    clear khw5 kht5 kz5 khgq khm khV
    by_cases l3:3≤N.length
    ·
     have hmk:=HMK.out k5 kgw
     have lhen:enoughV (kpV seed 1 RA Rc) 2 8 N=true:=by rw [HFN.out];exact decide_eq_true l3
     have lCG:=hQ9 (yQ HK0.out 2 8 A' c' N (by omega) k5 (HSY.out k5 kgw) (HKA.out k5 kgw) (HVQ.out k5 kgw) lhen)
     have lhch:=yR lhen
     have lhcq:=xJ lhen
     rw [show(2*(kpV seed 1 RA Rc).f+1).toNat=3 from rfl]at lhch
     rw [HKC.out,lhch]at lCG
     generalize chosenV (kpV seed 1 RA Rc) 2 8 N=lE at *
     have lHCH:=hQ9 lhch
     have lHCQ:=hQ9 lhcq
     have le3:decide ((3:Int)≤(N.length:Int))=true:=decide_eq_true (by omega)
     have le3b:decide (3≤N.length)=true:=decide_eq_true l3
     clear lhen lhch lhcq
     go_wp2_with(first
      | (with_reducible refine wpList_load_mid rfl 49 (.tmp 8) rfl w2.heap.size 0 rfl kc.toList _ hmk hkt rfl HSKL.out ?_;simp only [Array.toArray_toList])
      | (with_reducible refine wpList_store_mid rfl 38 (.tmp 19) (.tmp 91) rfl k4.heap.size 0 kgq rfl rfl kHT5.out kSQ.out kHOQ.out ?_;rw [kHW5.out];clear kHW5 kHT5))
     refine(lCG.out).mono ?_
     clear lCG hmk
     rintro e l4 ⟨⟨lB,lj,lN,rfl,lhm,lhV,-,-⟩,lg4⟩
     have lHN3:Hid (lN.length=3):=hQ9 (by rw [lhm.len,lHCH.out])
     have lHCN:Hid (cqV (kpV seed 1 RA Rc) 2 8 lN=0):=hQ9 (by rw [qX lhm];exact lHCQ.out)
     obtain⟨lgq,lhgq⟩:∃ g,vqC 2 8 lB 3 lj=g:=⟨_,rfl⟩
     have lHGQ:=hQ9 lhgq
     rw [lhgq]
     have lHVN:=hQ9 lhV
     obtain⟨l5,lhw5,lht5,lg5,lz5⟩:=zB l4 38 (#[.int .i64 0,.int .u64 0,.slice none 0 0]:Array Value) lgq (by rw [←lhgq];try rfl)
     have lHW5:=hQ9 lhw5
     have lHT5:=hQ9 lht5
     have lSQ:Hid ((Tryz.prog.info? 38).map (·.size)=some lgq.size):=hQ9 (by rw [←lhgq];exact zD)
     have lSQL:Hid ((Tryz.prog.info? 38).map (·.size)=some lgq.toList.length):=hQ9 (by rw [←lhgq];exact zD)
     have lHOQ:Hid (lgq.all (·.oneCell')=true):=hQ9 (by rw [←lhgq];simp [vqC,Value.oneCell'])
     have lgw:=zc kgw (zc lg4 lg5)
     have lHZ:Hid (∀ y,Grew l5 y→y.rangeAt l4.heap.size 0 lgq.toList):=hQ9 (fun y g=>(lz5.grew g).cell)
     have lG45:=hQ9 lg5
     clear lhw5 lht5 lz5 lhgq lhm lhV
     have hb2:=HBO.out k3 l3
     have eb2:decide ((2:Int)≤(nb:Int))=true:=decide_eq_true (by omega)
     have eb2b:decide (2≤nb)=true:=decide_eq_true hb2
     have CP:Hid (∀ y,Grew l5 y→Calls Tryz.prog 39 #[.agg kc,.agg kgq] y fun e w'=>e=.returned (.int .i64 0)∧Grew y w'):=hQ9 (fun y g=>by
      have gy:=zc lgw g
      have:=kx HK0.out 2 7 kB kj kN (by rw [kHN3.out];decide) y (HSY.out y gy) (HKA.out y gy) (kHVN.out.gr (zc kG45.out (zc lg4 (zc lG45.out g))))
      rw [show vqE (kpV seed 1 RA Rc) 2 7 kN=0 from(if_neg (by decide)).trans kHCN.out,kHN3.out,kHGQ.out,HKC.out]at this
      exact this)
     have CQ:Hid (∀ y,Grew l5 y→Calls Tryz.prog 39 #[.agg kc,.agg lgq] y fun e w'=>e=.returned (.int .i64 0)∧Grew y w'):=hQ9 (fun y g=>by
      have gy:=zc lgw g
      have:=kx HK0.out 2 8 lB lj lN (by rw [lHN3.out];decide) y (HSY.out y gy) (HKA.out y gy) (lHVN.out.gr (zc lG45.out g))
      rw [show vqE (kpV seed 1 RA Rc) 2 8 lN=0 from(if_neg (by decide)).trans lHCN.out,lHN3.out,lHGQ.out,HKC.out]at this
      exact this)
     have hmk:=HMK.out l5 lgw
     have hms:=kHZ.out l5 (zc lg4 lG45.out)
     have hmt:=lHZ.out l5 (za _)
     go_wp2_with(first
      | (with_reducible refine wpList_store_mid rfl 38 (.tmp 21) (.tmp 97) rfl l4.heap.size 0 lgq rfl rfl lHT5.out lSQ.out lHOQ.out ?_;rw [lHW5.out];clear lHW5 lHT5)
      | (refine zf (by rfl) 49 (.tmp 8) rfl w2.heap.size 0 rfl kc.toList _ hmk hkt rfl HSKL.out ?_;simp only [Array.toArray_toList])
      | (refine zf (by rfl) 38 (.tmp 19) rfl k4.heap.size 0 rfl kgq.toList _ hms hqt rfl kSQL.out ?_;simp only [Array.toArray_toList]))
     refine(CP.out l5 (za _)).mono ?_
     clear CP hmk hms hmt
     rintro e w9 ⟨rfl,g9⟩
     have hmk:=HMK.out w9 (zc lgw g9)
     have hmt:=lHZ.out w9 g9
     go_wp2_with(first
      | (refine zf (by rfl) 49 (.tmp 8) rfl w2.heap.size 0 rfl kc.toList _ hmk hkt rfl HSKL.out ?_;simp only [Array.toArray_toList])
      | (refine zf (by rfl) 38 (.tmp 21) rfl l4.heap.size 0 rfl lgq.toList _ hmt hqt rfl lSQL.out ?_;simp only [Array.toArray_toList]))
     refine(CQ.out w9 g9).mono ?_
     clear CQ hmk hmt
     rintro e wA ⟨rfl,gA⟩
     go_wp2_with fail
     go_ret
     exact⟨rfl,zc HGW.out (zc lgw (zc g9 gA))⟩
    ·
     have hmk:=HMK.out k5 kgw
     have lhen:enoughV (kpV seed 1 RA Rc) 2 8 N=false:=by rw [HFN.out];exact decide_eq_false l3
     have lCG:=hQ9 (xq HK0.out 2 8 A' c' N (by omega) k5 (HSY.out k5 kgw) (HKA.out k5 kgw) (HVQ.out k5 kgw) lhen)
     rw [HKC.out]at lCG
     have le3:decide ((3:Int)≤(N.length:Int))=false:=decide_eq_false (by omega)
     have le3b:decide (3≤N.length)=false:=decide_eq_false l3
     clear lhen
     go_wp2_with(first
      | (with_reducible refine wpList_load_mid rfl 49 (.tmp 8) rfl w2.heap.size 0 rfl kc.toList _ hmk hkt rfl HSKL.out ?_;simp only [Array.toArray_toList])
      | (with_reducible refine wpList_store_mid rfl 38 (.tmp 19) (.tmp 91) rfl k4.heap.size 0 kgq rfl rfl kHT5.out kSQ.out kHOQ.out ?_;rw [kHW5.out];clear kHW5 kHT5))
     refine(lCG.out).mono ?_
     clear lCG hmk
     rintro e l4 ⟨rfl,lg4⟩
     obtain⟨lgq,lhgq⟩:∃ g,(#[.int .i64 0,.int .u64 0,.slice none 0 0]:Array Value)=g:=⟨_,rfl⟩
     rw [lhgq]
     obtain⟨l5,lhw5,lht5,lg5,lz5⟩:=zB l4 38 (#[.int .i64 0,.int .u64 0,.slice none 0 0]:Array Value) lgq (by rw [←lhgq];try rfl)
     have lHW5:=hQ9 lhw5
     have lHT5:=hQ9 lht5
     have lSQ:Hid ((Tryz.prog.info? 38).map (·.size)=some lgq.size):=hQ9 (by rw [←lhgq];exact zD)
     have lSQL:Hid ((Tryz.prog.info? 38).map (·.size)=some lgq.toList.length):=hQ9 (by rw [←lhgq];exact zD)
     have lHOQ:Hid (lgq.all (·.oneCell')=true):=hQ9 (by rw [←lhgq];simp [vqC,Value.oneCell'])
     have lgw:=zc kgw (zc lg4 lg5)
     have lHZ:Hid (∀ y,Grew l5 y→y.rangeAt l4.heap.size 0 lgq.toList):=hQ9 (fun y g=>(lz5.grew g).cell)
     have lG45:=hQ9 lg5
     clear lhw5 lht5 lz5 lhgq
     go_wp2_with(with_reducible refine wpList_store_mid rfl 38 (.tmp 21) (.tmp 97) rfl l4.heap.size 0 lgq rfl rfl lHT5.out lSQ.out lHOQ.out ?_;rw [lHW5.out];clear lHW5 lHT5)
     go_ret
     exact⟨rfl,zc HGW.out lgw⟩
   ·
    have hmk:=HMK.out wr hgr
    have khen:enoughV (kpV seed 1 RA Rc) 2 7 M=false:=by rw [HEN.out];exact decide_eq_false k3
    have kCG:=hQ9 (xq HK0.out 2 7 A c M (by omega) wr (HSY.out wr hgr) (HKA.out wr hgr) (HVP.out wr hgr) khen)
    rw [HKC.out]at kCG
    have ke3:decide ((3:Int)≤(M.length:Int))=false:=decide_eq_false (by omega)
    have ke3b:decide (3≤M.length)=false:=decide_eq_false k3
    clear khen
    go_wp2_with(first
     | (with_reducible refine wpList_load_mid rfl 49 (.tmp 8) rfl w2.heap.size 0 rfl kc.toList _ hmk hkt rfl HSKL.out ?_;simp only [Array.toArray_toList]))
    refine(kCG.out).mono ?_
    clear kCG hmk
    rintro e k4 ⟨rfl,kg4⟩
    obtain⟨kgq,khgq⟩:∃ g,(#[.int .i64 0,.int .u64 0,.slice none 0 0]:Array Value)=g:=⟨_,rfl⟩
    rw [khgq]
    obtain⟨k5,khw5,kht5,kg5,kz5⟩:=zB k4 38 (#[.int .i64 0,.int .u64 0,.slice none 0 0]:Array Value) kgq (by rw [←khgq];try rfl)
    have kHW5:=hQ9 khw5
    have kHT5:=hQ9 kht5
    have kSQ:Hid ((Tryz.prog.info? 38).map (·.size)=some kgq.size):=hQ9 (by rw [←khgq];exact zD)
    have kSQL:Hid ((Tryz.prog.info? 38).map (·.size)=some kgq.toList.length):=hQ9 (by rw [←khgq];exact zD)
    have kHOQ:Hid (kgq.all (·.oneCell')=true):=hQ9 (by rw [←khgq];simp [vqC,Value.oneCell'])
    have kgw:=zc hgr (zc kg4 kg5)
    have kHZ:Hid (∀ y,Grew k5 y→y.rangeAt k4.heap.size 0 kgq.toList):=hQ9 (fun y g=>(kz5.grew g).cell)
    have kG45:=hQ9 kg5
    clear khw5 kht5 kz5 khgq
    by_cases l3:3≤N.length
    ·
     have hmk:=HMK.out k5 kgw
     have lhen:enoughV (kpV seed 1 RA Rc) 2 8 N=true:=by rw [HFN.out];exact decide_eq_true l3
     have lCG:=hQ9 (yQ HK0.out 2 8 A' c' N (by omega) k5 (HSY.out k5 kgw) (HKA.out k5 kgw) (HVQ.out k5 kgw) lhen)
     have lhch:=yR lhen
     have lhcq:=xJ lhen
     rw [show(2*(kpV seed 1 RA Rc).f+1).toNat=3 from rfl]at lhch
     rw [HKC.out,lhch]at lCG
     generalize chosenV (kpV seed 1 RA Rc) 2 8 N=lE at *
     have lHCH:=hQ9 lhch
     have lHCQ:=hQ9 lhcq
     have le3:decide ((3:Int)≤(N.length:Int))=true:=decide_eq_true (by omega)
     have le3b:decide (3≤N.length)=true:=decide_eq_true l3
     clear lhen lhch lhcq
     go_wp2_with(first
      | (with_reducible refine wpList_load_mid rfl 49 (.tmp 8) rfl w2.heap.size 0 rfl kc.toList _ hmk hkt rfl HSKL.out ?_;simp only [Array.toArray_toList])
      | (with_reducible refine wpList_store_mid rfl 38 (.tmp 19) (.tmp 91) rfl k4.heap.size 0 kgq rfl rfl kHT5.out kSQ.out kHOQ.out ?_;rw [kHW5.out];clear kHW5 kHT5))
     refine(lCG.out).mono ?_
     clear lCG hmk
     rintro e l4 ⟨⟨lB,lj,lN,rfl,lhm,lhV,-,-⟩,lg4⟩
     have lHN3:Hid (lN.length=3):=hQ9 (by rw [lhm.len,lHCH.out])
     have lHCN:Hid (cqV (kpV seed 1 RA Rc) 2 8 lN=0):=hQ9 (by rw [qX lhm];exact lHCQ.out)
     obtain⟨lgq,lhgq⟩:∃ g,vqC 2 8 lB 3 lj=g:=⟨_,rfl⟩
     have lHGQ:=hQ9 lhgq
     rw [lhgq]
     have lHVN:=hQ9 lhV
     obtain⟨l5,lhw5,lht5,lg5,lz5⟩:=zB l4 38 (#[.int .i64 0,.int .u64 0,.slice none 0 0]:Array Value) lgq (by rw [←lhgq];try rfl)
     have lHW5:=hQ9 lhw5
     have lHT5:=hQ9 lht5
     have lSQ:Hid ((Tryz.prog.info? 38).map (·.size)=some lgq.size):=hQ9 (by rw [←lhgq];exact zD)
     have lSQL:Hid ((Tryz.prog.info? 38).map (·.size)=some lgq.toList.length):=hQ9 (by rw [←lhgq];exact zD)
     have lHOQ:Hid (lgq.all (·.oneCell')=true):=hQ9 (by rw [←lhgq];simp [vqC,Value.oneCell'])
     have lgw:=zc kgw (zc lg4 lg5)
     have lHZ:Hid (∀ y,Grew l5 y→y.rangeAt l4.heap.size 0 lgq.toList):=hQ9 (fun y g=>(lz5.grew g).cell)
     have lG45:=hQ9 lg5
     clear lhw5 lht5 lz5 lhgq lhm lhV
     go_wp2_with(with_reducible refine wpList_store_mid rfl 38 (.tmp 21) (.tmp 97) rfl l4.heap.size 0 lgq rfl rfl lHT5.out lSQ.out lHOQ.out ?_;rw [lHW5.out];clear lHW5 lHT5)
     go_ret
     exact⟨rfl,zc HGW.out lgw⟩
    ·
     have hmk:=HMK.out k5 kgw
     have lhen:enoughV (kpV seed 1 RA Rc) 2 8 N=false:=by rw [HFN.out];exact decide_eq_false l3
     have lCG:=hQ9 (xq HK0.out 2 8 A' c' N (by omega) k5 (HSY.out k5 kgw) (HKA.out k5 kgw) (HVQ.out k5 kgw) lhen)
     rw [HKC.out]at lCG
     have le3:decide ((3:Int)≤(N.length:Int))=false:=decide_eq_false (by omega)
     have le3b:decide (3≤N.length)=false:=decide_eq_false l3
     clear lhen
     go_wp2_with(first
      | (with_reducible refine wpList_load_mid rfl 49 (.tmp 8) rfl w2.heap.size 0 rfl kc.toList _ hmk hkt rfl HSKL.out ?_;simp only [Array.toArray_toList])
      | (with_reducible refine wpList_store_mid rfl 38 (.tmp 19) (.tmp 91) rfl k4.heap.size 0 kgq rfl rfl kHT5.out kSQ.out kHOQ.out ?_;rw [kHW5.out];clear kHW5 kHT5))
     refine(lCG.out).mono ?_
     clear lCG hmk
     rintro e l4 ⟨rfl,lg4⟩
     obtain⟨lgq,lhgq⟩:∃ g,(#[.int .i64 0,.int .u64 0,.slice none 0 0]:Array Value)=g:=⟨_,rfl⟩
     rw [lhgq]
     obtain⟨l5,lhw5,lht5,lg5,lz5⟩:=zB l4 38 (#[.int .i64 0,.int .u64 0,.slice none 0 0]:Array Value) lgq (by rw [←lhgq];try rfl)
     have lHW5:=hQ9 lhw5
     have lHT5:=hQ9 lht5
     have lSQ:Hid ((Tryz.prog.info? 38).map (·.size)=some lgq.size):=hQ9 (by rw [←lhgq];exact zD)
     have lSQL:Hid ((Tryz.prog.info? 38).map (·.size)=some lgq.toList.length):=hQ9 (by rw [←lhgq];exact zD)
     have lHOQ:Hid (lgq.all (·.oneCell')=true):=hQ9 (by rw [←lhgq];simp [vqC,Value.oneCell'])
     have lgw:=zc kgw (zc lg4 lg5)
     have lHZ:Hid (∀ y,Grew l5 y→y.rangeAt l4.heap.size 0 lgq.toList):=hQ9 (fun y g=>(lz5.grew g).cell)
     have lG45:=hQ9 lg5
     clear lhw5 lht5 lz5 lhgq
     go_wp2_with(with_reducible refine wpList_store_mid rfl 38 (.tmp 21) (.tmp 97) rfl l4.heap.size 0 lgq rfl rfl lHT5.out lSQ.out lHOQ.out ?_;rw [lHW5.out];clear lHW5 lHT5)
     go_ret
     exact⟨rfl,zc HGW.out lgw⟩
end Go.Proofs.YtidjnnnigcmdpaaGreatDoor
