/- ViewBest: the law (mkvwl.py). -/
import Derived.Test.YtidjnnnigcmdpaaGreatDoorJzz
import Derived.Test.YtidjnnnigcmdpaaGreatDoorJbt
set_option maxHeartbeats 8000000
set_option maxRecDepth 100000
set_option linter.unusedSimpArgs false
set_option linter.unusedVariables false
set_option linter.unnecessarySimpa false
namespace Go.Proofs.YtidjnnnigcmdpaaGreatDoor
open Go.RowKit
theorem vq_inf:(Tryz.prog.info? 38).map (fun i=>(i.zero,i.size,i.bytes))=some (some (.agg (#[.int .i64 0,.int .u64 0,.slice none 0 0]:Array Value)),3,40):=by kernel_rfl
def QG (K:KP) (M:List QV):Prop:=∀ k (h:k<M.length),M[k].qv=(k:Int)∧vqE K M[k].qv M[k].qd M[k].H=0
theorem QG.snoc {K:KP} {M:List QV} (h:QG K M) {S:QV} (h1:S.qv=(M.length:Int)) (h2:vqE K S.qv S.qd S.H=0):QG K (M++[S]):=fun k hk=>by
 by_cases hm:k<M.length
 ·rw [List.getElem_append_left hm]
  exact h k hm
 ·have e:k=M.length:=by
   rw [List.length_append]at hk
   simp at hk
   omega
  subst e
  rw [List.getElem_append_right (Nat.le_refl _)]
  simpa using ⟨h1,h2⟩
def topv (N:List NW):Int:=N.foldl (fun a T=>max a T.qv) (-1)
theorem zeg (N:List NW) (T:NW):topv (N++[T])=max (topv N) T.qv:=by simp [topv]
theorem zah:∀(R:List NW) (S:NW),(topF S R).qv=R.foldl (fun a T=>max a T.qv) S.qv
 | [],S=>rfl
 | x::r,S=>by
  show(topF (if S.qv<x.qv then x else S) r).qv=r.foldl (fun a T=>max a T.qv) (max S.qv x.qv)
  rw [zah r]
  congr 1
  split<;>omega
structure NG (K:KP) (Q:List QV) (N:List NW) (n:Nat):Prop where
 each:∀ T∈N,(T.vw=9∧nvS K T=0)∧T.who<(n:Int)∧∃ k,∃ h:k<Q.length,T.qv=(k:Int)∧T.qd=Q[k].qd
 up:(N.map NW.who).Pairwise (·<·)
 len:N.length≤n
theorem NG.nil {K:KP} {Q:List QV}:NG K Q [] 0:=⟨by simp,by simp,Nat.le_refl _⟩
theorem NG.more {K:KP} {Q:List QV} {N:List NW} {n:Nat} (h:NG K Q N n):NG K Q N (n+1):=⟨fun T hT=>⟨(h.each T hT).1,by have:=(h.each T hT).2.1;omega,(h.each T hT).2.2⟩,h.up,Nat.le_succ_of_le h.len⟩
theorem NG.snoc {K:KP} {Q:List QV} {N:List NW} {n:Nat} (h:NG K Q N n) {T:NW} (h1:T.vw=9) (h2:nvS K T=0) (h3:T.who=(n:Int)) (k:Nat) (hk:k<Q.length) (h4:T.qv=(k:Int)) (h5:T.qd=Q[k].qd):NG K Q (N++[T]) (n+1) where
 each:=fun U hU=>by
  rcases List.mem_append.1 hU with h6 | h6
  ·exact h.more.each U h6
  ·obtain rfl:U=T:=by simpa using h6
   exact⟨⟨h1,h2⟩,by omega,k,hk,h4,h5⟩
 up:=by
  rw [List.map_append]
  refine List.pairwise_append.2 ⟨h.up,by simp,fun a ha b hb=>?_⟩
  obtain⟨U,hU,rfl⟩:=List.mem_map.1 ha
  obtain rfl:b=T.who:=by simpa using hb
  have:=(h.each U hU).2.1
  omega
 len:=by rw [List.length_append];exact Nat.succ_le_succ h.len
theorem zai (seed:Int) (hsd:U64 seed) (wh:Int) (hwh:0≤wh∧wh≤255) (Aa:Option Addr) (ca:Nat) (l:List Int) (hla:l.length≤ca) (hpa:∀ x∈l,0≤x∧x≤255)
 (w:World) (hS:Std w) (hra:Rd w w.heap.size Aa (l.map (Value.int .u8))) :
 Calls Tryz.prog 11 #[.int .u64 seed,.int .u8 wh,.slice Aa l.length ca] w fun e w'=>e=.returned (.bool true)∧Grew w w':=by
 have CK:=hQ9 (zcx w hS)
 have HS:=hQ9 hS
 have hkt:=Tryz.underlying49
 have hqt:=Tryz.underlying38
 have hbt:=Tryz.underlying41
 have hnt:=Tryz.underlying111
 obtain⟨i0,hi0,hz0,hz1,hz2⟩:=info_parts vq_inf
 clear hS
 by_cases hl4:l.length<4
 ·have ea:decide ((l.length:Int)<4)=true:=decide_eq_true (by omega)
  clear hra hpa hl4 hi0 hz0 hz1 hz2
  go_enter Tryz.func11,Tryz.ntmps11
  go_wp2_with fail
  refine CK.out.mono ?_
  rintro e w0 ⟨rfl,G0⟩
  clear CK
  go_wp2_with fail
  go_ret
  exact⟨rfl,G0⟩
 have ea:decide ((l.length:Int)<4)=false:=decide_eq_false (by omega)
 have HL4:Hid (4≤l.length):=hQ9 (by omega)
 have HRA:=hQ9 hra
 have HPA:=hQ9 hpa
 have HLA:=hQ9 hla
 clear hl4 hra hpa hla
 go_enter Tryz.func11,Tryz.ntmps11
 go_wp2_with fail
 refine(CK.out).mono ?_
 clear CK
 rintro e w1 ⟨rfl,g1⟩
 have CE:=hQ9 (zhf seed hsd 5 (by omega) w1)
 go_wp2_with fail
 refine(CE.out).mono ?_
 clear CE ea
 rintro e w2 ⟨LA,Lc,RA,Rc,p,rfl,KS,rL,rR,FL0,FR0,G1⟩
 obtain⟨lad,hLA,-,-⟩:=rL 0 (by simp [ptrL])
 subst hLA
 obtain⟨kc,hkc⟩:∃ v,kyS 1 RA 4 Rc ((5:Nat):Int)=v:=⟨_,rfl⟩
 have HSK:Hid ((Tryz.prog.info? 49).map (·.size)=some (kyS 1 RA 4 Rc ((5:Nat):Int)).size):=hQ9 (by kernel_rfl)
 have HSKL:Hid ((Tryz.prog.info? 49).map (·.size)=some (kyS 1 RA 4 Rc ((5:Nat):Int)).toList.length):=hQ9 (by kernel_rfl)
 have HOK:Hid ((kyS 1 RA 4 Rc ((5:Nat):Int)).all (·.oneCell')=true):=hQ9 (by simp [kyS,Value.oneCell'])
 have HKC:Hid ((kpV seed 5 RA Rc).C=kyS 1 RA 4 Rc ((5:Nat):Int)):=hQ9 (kpV_C seed 5 RA Rc)
 have HK0:Hid (kpV seed 5 RA Rc).ok:=hQ9 (zaa seed 5 (by omega) RA Rc)
 obtain⟨w3,hw3,ht3,g3,z3⟩:=zK w2 49 (#[.int .i64 0,.slice none 0 0,.int .i64 0]) (kyS 1 RA 4 Rc ((5:Nat):Int)) rfl
 have HW3:=hQ9 hw3
 have HT3:=hQ9 ht3
 have hrb:∀ ad,RA=some ad→ad.block<w2.heap.size:=fun ad e=>by
  obtain⟨ad2,e2,hb,_⟩:=rR 0 (by simp [u64L,xm])
  rw [e]at e2;cases e2;exact hb
 have hlb:lad.block<w2.heap.size:=by
  obtain⟨ad,e,hb,_⟩:=rL 0 (by simp [ptrL])
  cases e;exact hb
 have KB:Hid (KBase seed 5 p (fun _=>0) w2.heap.size lad RA Rc w1 w3.heap.size w3):=hQ9 {
  ks:=fun i hi=>(KS.key i hi).grew g3
  kc:=z3
  ld:=fun i hi=>by
   obtain⟨ad,e,_,hc⟩:=(rL.gr g3) i (by simp [ptrL];exact hi)
   cases e
   rw [hc];simp [ptrL]
  rR:=rR.gr g3
  gr:=ze G1 g3
  sz:=Nat.le_refl _
  b0:=by have:=G1.size;have:=g3.size;omega
  lo:=fun i hi=>by
   have h1:=KS.low i hi
   have h2:=(KS.key i hi).key.lt
   have h3:=(KS.key i hi).pub.lt
   have:=g3.size
   exact⟨by omega,by omega,by omega⟩
  qb:=z3.lt
  qn:=fun i hi e=>by have h2:=(KS.key i hi).key.lt;omega
  lb:=by have:=g3.size;omega
  ln:=fun i hi=>(FL0 lad rfl i hi).2
  rb:=fun ad e=>by have:=hrb ad e;have:=g3.size;omega
  rn:=fun i hi ad e=>(FR0 ad e i hi).2
  ap:=KS.apart }
 clear hw3 ht3 g3 z3 KS rL rR FL0 FR0 G1 hrb hlb
 rw [hkc]at HSK HSKL HOK HT3 HW3 HKC ⊢
 have HKCE:=hQ9 hkc
 clear hkc
 have HG1:=hQ9 g1
 have HW01:Hid (w.heap.size≤w1.heap.size):=hQ9 g1.size
 have HBZ:Hid (∀ W,(Instr.build 38 #[]).run Tryz.prog W=.ok (.agg (#[.int .i64 0,.int .u64 0,.slice none 0 0]:Array Value)) W):=hQ9 (fun W=>run_build W 38 _ _ jW)
 have bz:=HBZ.out
 clear g1
 obtain⟨qk,hqk⟩:∃ b,w2.heap.size=b:=⟨_,rfl⟩
 have HQKE:=hQ9 hqk
 rw [hqk]at KB
 clear hqk
 obtain⟨B0,hB0⟩:∃ b,w3.heap.size=b:=⟨_,rfl⟩
 have HB0:=hQ9 hB0
 rw [hB0]at KB
 clear hB0
 go_upto_region 9 with (with_reducible refine wpList_store_mid rfl 49 (.tmp 8) (.tmp 35) rfl w2.heap.size 0 kc rfl rfl HT3.out HSK.out HOK.out ?_;rw [HW3.out];clear HW3 HT3)
 rw [HQKE.out]
 obtain⟨w4,hw4⟩:∃ v,w3.alloc (.cells (#[.int .i64 0,.int .u64 0,.slice none 0 0]) 38)=v:=⟨_,rfl⟩
 obtain⟨S00,hS00⟩:∃ S:QV,(⟨0,0,none,[],0⟩:QV)=S:=⟨_,rfl⟩
 have h00C:S00.C=(#[.int .i64 0,.int .u64 0,.slice none 0 0]:Array Value):=by rw [←hS00];rfl
 have hne00:∀ j,¬S00.in j:=fun j hj=>by
  rw [←hS00]at hj
  rcases hj with ⟨ad,e,_,_⟩ | ⟨T,hT,_⟩
  ·cases e
  ·cases hT
 have hrow0:QRow B0 (.slice (some ⟨B0,0,none⟩) 1 1) [S00] w4:=by
  have h1:=zhu (w:=w3) (base:=w3.heap.size) (e:=38) S00.C (Nat.le_refl _) (by rw [h00C])
  rw [h00C,hw4,HB0.out]at h1
  refine⟨fun S hS=>?_,fun S hS=>?_,fun S hS j hj=>?_,fun S hS j hj=>?_,?_⟩
  ·obtain rfl:S=S00:=by simpa using hS
   rw [←hS00]
   exact⟨⟨by show _≤(0:Int);decide,by show(0:Int)≤_;decide⟩,by show 0<18446744073709551616;decide,by show 0≤100000;decide⟩
  ·obtain rfl:S=S00:=by simpa using hS
   rw [←hS00]
   exact⟨⟨RdC.nil _ _ _,by simp,by simp⟩⟩
  ·obtain rfl:S=S00:=by simpa using hS
   exact absurd hj (hne00 j)
  ·obtain rfl:S=S00:=by simpa using hS
   exact absurd hj (hne00 j)
  ·rw [show(qvL [S00]).flatten=S00.C.toList from by simp [qvL],h00C]
   exact h1
 have g34:Grew w3 w4:=by rw [←hw4];exact zf (zc w3) _
 have hs4:w4.heap.size=B0+1:=by rw [←hw4,World.size_alloc,HB0.out]
 rw [hw4]
 obtain⟨w5,hw5,ht5,g5,z5⟩:=zK w4 38 (#[.int .i64 0,.int .u64 0,.slice none 0 0]:Array Value) (#[.int .i64 0,.int .u64 0,.slice none 0 0]:Array Value) rfl
 have HW5:=hQ9 hw5
 have HT5:=hQ9 ht5
 have SIZ:Hid ((Tryz.prog.info? 38).map (·.size)=some ((#[.int .i64 0,.int .u64 0,.slice none 0 0]:Array Value)).size):=hQ9 zA
 have HOZ:Hid (((#[.int .i64 0,.int .u64 0,.slice none 0 0]:Array Value)).all (·.oneCell')=true):=hQ9 (by simp [Value.oneCell'])
 have HB1:=hQ9 hs4
 have HROW0:=hQ9 (hrow0.grew g5)
 have KB5:=hQ9 ((KB.out.grew g34).grew g5)
 have HZ5:Hid (Ag w5 (B0+1) S00.C.toList):=hQ9 (by rw [h00C,←hs4];exact z5)
 have HNE0:=hQ9 hne00
 have HQG0:Hid (QG (kpV seed 5 RA Rc) ([]++[S00])):=hQ9 (fun k hk=>by
  have e:k=0:=by simp at hk;omega
  subst e
  show S00.qv=0∧vqE _ S00.qv S00.qd S00.H=0
  rw [←hS00]
  exact⟨rfl,zaf _⟩)
 clear hw4 hrow0 g34 hs4 hw5 ht5 g5 z5 hne00 h00C hS00
 rw [HB0.out]
 go_wp2_with(with_reducible refine wpList_store_mid rfl 38 (.tmp 10) (.tmp 41) rfl w4.heap.size 0 (#[.int .i64 0,.int .u64 0,.slice none 0 0]:Array Value) rfl rfl HT5.out SIZ.out HOZ.out ?_;rw [HW5.out];clear HW5 HT5)
 rw [HB1.out]
 obtain⟨q10,hq10⟩:∃ b,B0+1=b:=⟨_,rfl⟩
 rw [hq10]at HZ5 ⊢
 have HQ10:Hid (B0<q10):=hQ9 (by omega)
 clear hq10
 go_loopw [9,11] (fun rv iv wr=>∃(n:Nat) (M:List QV) (S:QV),n≤3∧iv=.int .i64 ((n:Int)+1)∧M.length=n∧QG (kpV seed 5 RA Rc) (M++[S])∧QRow B0 rv (M++[S]) wr∧(∀ T∈M++[S],∀ j,T.in j→q10<j)∧rv.ownBlock≠some q10∧Ag wr q10 S.C.toList∧KBase seed 5 p (nxr n) qk lad RA Rc w1 B0 wr) (fun _ iv _=>4-(Go.RowKit.intOf iv).toNat)
 case atStart=>exact⟨0,[],S00,by omega,rfl,rfl,HQG0.out,HROW0.out,fun T hT j hj=>by
  obtain rfl:T=S00:=by simpa using hT
  exact absurd hj (HNE0.out j),fun h=>by
  have h:(some B0:Option Nat)=some q10:=h
  injection h with h
  have:=HQ10.out
  omega,HZ5.out,KB5.out⟩
 case round =>
  clear HQG0 HROW0 HZ5 KB5 HNE0
  obtain⟨n,M,S,hn,rfl,hlm,hqg,hrow,hbl,hob,hz,hkb⟩:=hrel
  by_cases hlt:n<3
  ·have hnx:∀ i,nxr n i<2^5:=fun i=>by
    have:=jC n i
    show nxr n i<32
    omega
   have hnx2:∀ i,nxt (nxr n) 3 i<2^5:=fun i=>by
    have:=jC n i
    show(if i<3 then nxr n i+1 else nxr n i)<32
    split<;>omega
   have HLT:=hQ9 hlt
   have HLM:=hQ9 hlm
   have e1:decide ((n:Int)+1<4)=true:=decide_eq_true (by omega)
   have ew:IntKind.i64.wrap ((n:Int)+1+1)=(n:Int)+1+1:=IntWalk.i64_in _ (by omega)
   have hSm:S∈M++[S]:=by simp
   have hSo:=hrow.ok S hSm
   have hSa:=hrow.at_ S hSm
   have hSq:=hqg n (by rw [List.length_append,hlm];simp)
   have CE1:=hQ9 (zac hkb (HS.out.grew HG1.out) Lc (by omega) (fun i _=>hnx i) ((n:Int)+1) S.qv S.qd S.A S.H S.k ((n:Int)+1) ((n:Int)+1+1) (by omega) (by omega) (by omega))
   obtain⟨gq,hgq⟩:∃ g,S.C=g:=⟨_,rfl⟩
   rw [show vqC S.qv S.qd S.A S.H.length S.k=gq from hgq]at CE1
   rw [hgq]at hz
   have SIQ:Hid ((Tryz.prog.info? 38).map (·.size)=some gq.size):=hQ9 (by rw [←hgq];exact zA)
   have SIQL:Hid ((Tryz.prog.info? 38).map (·.size)=some gq.toList.length):=hQ9 (by rw [←hgq];exact zA)
   have hmz:=hz.cell
   have HQG:=hQ9 hqg
   have HROW:=hQ9 hrow
   have HBL:=hQ9 hbl
   have HOB:=hQ9 hob
   have HZ:=hQ9 hz
   have HSO:=hQ9 hSo
   have HFAR:Hid (∀ T∈M++[S],∀ j,T.in j→¬KyP p j):=hQ9 (fun T hT j hj=>hkb.far (by have:=hbl T hT j hj;have:=HQ10.out;omega))
   have HSK:Hid (∀ y,Kp (KyP p) wr y→S.at y):=hQ9 (fun y k=>kt hSa k (fun j hj=>HFAR.out S hSm j hj))
   have HWR:Hid (B0≤wr.heap.size):=hQ9 hkb.sz
   have HQW:Hid (q10<wr.heap.size):=hQ9 hz.lt
   clear hlt hlm hqg hrow hbl hob hz hkb hSo hSa hSq hn hnx
   go_wp2_with(with_reducible refine wpList_load_mid rfl 38 (.tmp 10) rfl q10 0 rfl gq.toList _ hmz hqt rfl SIQL.out ?_;simp only [Array.toArray_toList])
   refine(CE1.out).mono ?_
   clear CE1 hmz
   rintro e x4 ⟨⟨BA,bc,L,rfl,heL,HRL,-⟩,k4,KB4⟩
   obtain⟨ba,hba⟩:∃ b,(⟨(n:Int)+1,S.qd,S.qv,S.qd,S.A,S.H,S.k,(n:Int)+1,(n:Int)+1+1,BA,L,bc⟩:BK)=b:=⟨_,rfl⟩
   have hbaok:ba.ok:=by rw [←hba];exact em_ok seed 5 _ ((n:Int)+1) S.qv S.qd S.A S.H S.k ((n:Int)+1) ((n:Int)+1+1) BA L bc ⟨by omega,by have:=HLT.out;omega⟩ HSO.out.qv HSO.out.qd ⟨by omega,by have:=HLT.out;omega⟩ ⟨by omega,by have:=HLT.out;omega⟩ HSO.out.h heL
   have hbv:ba.vw=(n:Int)+1:=by rw [←hba]
   rw [hba]
   obtain⟨x5,hx5,ht5,g5,z5⟩:=zK x4 41 (#[.int .i64 0,.int .u64 0,.int .i64 0,.int .u64 0,.slice none 0 0,.int .i64 0,.int .i64 0,.slice none 0 0]:Array Value) ba.C (by rw [←hba];rfl)
   have HX5:=hQ9 hx5
   have HT5:=hQ9 ht5
   have SIA:Hid ((Tryz.prog.info? 41).map (·.size)=some ba.C.size):=hQ9 yB
   have SIAL:Hid ((Tryz.prog.info? 41).map (·.size)=some ba.C.toList.length):=hQ9 yB
   have HOA:=hQ9 ba.one
   have KB5:=KB4.grew g5
   have hba5:∀ y,Kp (KyP p) x5 y→ba.at y:=fun y k=>by
    rw [←hba]
    exact⟨HSK.out y (zh k4 (zh (zg g5) k)) |>.q,HRL y (zh (zg g5) k)⟩
   have CCE:=hQ9 (zcz KB5 (HS.out.grew HG1.out) Lc (by omega) (fun i _ _=>hnx2 i) ba hbaok (by rw [hbv];unfold vwB;exact decide_eq_true ⟨by omega,by have:=HLT.out;omega⟩) (bkD ba) (q4 ba) rfl (by rw [hbv];exact⟨by omega,by have:=HLT.out;omega⟩) hba5)
   rw [HKCE.out]at CCE
   have HBV:=hQ9 hbv
   have hm5:=z5.cell
   have hmk5:x5.rangeAt qk 0 kc.toList:=by rw [←HKCE.out];exact KB5.kc.cell
   have HK5:Hid (Kp (KyP p) wr x5):=hQ9 (zh k4 (zg g5))
   clear hba hbaok hbv hx5 ht5 g5 z5 KB4 KB5 hba5 heL HRL k4 ew hnx2
   obtain⟨ga,hga⟩:∃ g,ba.C=g:=⟨_,rfl⟩
   rw [hga]at HX5 HT5 SIA SIAL HOA CCE hm5 ⊢
   obtain⟨DD,hDD⟩:∃ d,bkD ba=d:=⟨_,rfl⟩
   rw [hDD]at CCE
   clear hga hDD
   go_wp2_with(first
    | (with_reducible refine wpList_store_mid rfl 41 (.tmp 12) (.tmp 54) rfl x4.heap.size 0 ga rfl rfl HT5.out SIA.out HOA.out ?_;rw [HX5.out];clear HX5 HT5)
    | (with_reducible refine wpList_load_mid rfl 49 (.tmp 8) rfl qk 0 rfl kc.toList _ hmk5 hkt rfl HSKL.out ?_;simp only [Array.toArray_toList])
    | (with_reducible refine wpList_load_mid rfl 41 (.tmp 12) rfl x4.heap.size 0 rfl ga.toList _ hm5 hbt rfl SIAL.out ?_;simp only [Array.toArray_toList]))
   refine(CCE.out).mono ?_
   clear CCE hm5 hmk5
   rintro e x6 ⟨⟨S1,rfl,hv1,hd1,-,hq1,ho1,ha1,hi1⟩,k6,KB6⟩
   have hqv1:S1.qv=(n:Int)+1:=by rw [hv1];exact HBV.out
   have hqe1:vqE (kpV seed 5 RA Rc) S1.qv S1.qd S1.H=0:=by rw [hv1,hd1];exact hq1
   obtain⟨gs,hgs⟩:∃ g,S1.C=g:=⟨_,rfl⟩
   rw [hgs]
   obtain⟨x7,hx7,ht7,g7,z7⟩:=zK x6 38 (#[.int .i64 0,.int .u64 0,.slice none 0 0]:Array Value) gs (by rw [←hgs];rfl)
   have HX7:=hQ9 hx7
   have HT7:=hQ9 ht7
   have hgs3:gs.size=3:=by rw [←hgs];rfl
   have HG3:=hQ9 hgs3
   have HLEN:Hid (gs.toList.length=3):=hQ9 (by rw [Array.length_toList,hgs3])
   have SIS:Hid ((Tryz.prog.info? 38).map (·.size)=some gs.size):=hQ9 (by rw [←hgs];exact zA)
   have SISL:Hid ((Tryz.prog.info? 38).map (·.size)=some gs.toList.length):=hQ9 (by rw [←hgs];exact zA)
   have HOS:Hid (gs.all (·.oneCell')=true):=hQ9 (by rw [←hgs];exact S1.one)
   have HONE:Hid (∀ u∈gs.toList,u.oneCell'=true):=hQ9 (by rw [←hgs];exact S1.one')
   have HGS:=hQ9 hgs
   have KB7:=hQ9 (KB6.grew g7)
   have k7:Kp (KyP p) wr x7:=zh HK5.out (zh k6 (zg g7))
   have hrow7:QRow B0 u9 (M++[S]) x7:=HROW.out.kp k7 (fun g ⟨i,hi,e⟩=>by have:=KB6.lo i hi;omega)
   have HR7:=hQ9 hrow7
   have hown7:=hrow7.row
   rw [show(M++[S]).length=n+1 from by rw [List.length_append,HLM.out];rfl]at hown7
   have HZ7:Hid (Ag x7 q10 gq.toList):=hQ9 (HZ.out.kp k7 (fun⟨i,hi,e⟩=>by have:=KB6.lo i hi;have:=HQ10.out;omega))
   have HA7:=hQ9 (ha1.gr g7)
   have HI1:Hid (∀ j,S1.in j→x5.heap.size≤j):=hQ9 hi1
   have HO1:=hQ9 ho1
   have HQV1:=hQ9 hqv1
   have HQE1:=hQ9 hqe1
   have hm7:=z7.cell
   have HZS:=hQ9 z7
   have HS6:Hid (x5.heap.size≤x6.heap.size∧x6.heap.size<x7.heap.size∧wr.heap.size≤x5.heap.size):=hQ9 ⟨k6.size,z7.lt,HK5.out.size⟩
   have hs7:B0≤x7.heap.size:=by have:=k7.size;have:=HWR.out;omega
   have hln:=HLT.out
   clear hv1 hd1 hq1 ho1 ha1 hi1 k6 KB6 hqv1 hqe1 hgs hx7 ht7 g7 z7 hgs3 k7 hrow7
   go_upto_region 17 with (with_reducible refine wpList_store_mid rfl 38 (.tmp 14) (.tmp 61) rfl x6.heap.size 0 gs rfl rfl HT7.out SIS.out HOS.out ?_;rw [HX7.out];clear HX7 HT7)
   have ga:=zf (zc x7) (.cells gs 38)
   have hfold:Array.foldl (fun(cs:Array Value) (x:Value × Nat)=>cs.setIfInBounds x.snd x.fst) (#[.int .i64 0,.int .u64 0,.slice none 0 0]:Array Value) gs.zipIdx 0 3=gs:=by
    rw [←HGS.out]
    rfl
   have HFOLD:=hQ9 hfold
   clear hfold
   have hgs3:=HG3.out
   go_upto_region 18 with (first
    | (with_reducible refine wpList_load_mid rfl 38 (.tmp 14) rfl x6.heap.size 0 rfl gs.toList _ hm7 hqt rfl SISL.out ?_;simp only [Array.toArray_toList])
    | (at_builtin;rw [HFOLD.out];refine zH _ rfl (.tmp 69) (.tmp 71) 137 rfl B0 38 i0 (.agg (#[.int .i64 0,.int .u64 0,.slice none 0 0]:Array Value)) 3 40 Tryz.underlying137 hi0 hz0 hz1 hz2 rfl (by decide) _ _ _ rfl (hown7.alloc _) ⟨x7.heap.size,0,none⟩ 1 1 gs.toList rfl (by rw [HLEN.out]) (fun j u hj=>zT x7 gs 38 j u hj) HONE.out (by have:=HLT.out;unfold maxLen;omega) (by have:=HLT.out;omega) (by simp;omega) ?_;intro v' x8 hown8 hgrow8 hob8))
   have K8:Kp (fun g=>u9.ownBlock=some g) x7 x8:=ye (zg ga) hgrow8 (fun g e=>.inl e)
   have hol:∀ g,u9.ownBlock=some g→B0≤g∧g<wr.heap.size:=fun g e=>zC HROW.out.row g e
   have KB8:=KB7.out.kp K8 (fun g h=>(hol g h).1)
   have z8q:=HZ7.out.kp K8 (fun h=>HOB.out h)
   have z8s:=HZS.out.kp K8 (fun h=>by have:=hol _ h;have:=HS6.out;omega)
   have R8:QRow B0 v' (M++[S]++[S1]) x8:=HR7.out.app HO1.out HA7.out (fun j hj=>by have:=HI1.out j hj;have:=HS6.out;have:=HWR.out;omega) (fun j hj e=>by have:=HI1.out j hj;have:=hol j e;have:=HS6.out;omega) ga (by rw [show(M++[S]).length+1=n+1+1 from by rw [List.length_append,HLM.out];rfl,HGS.out];exact hown8) hgrow8 hob8
   have hob8':v'.ownBlock≠some q10:=fun h=>by
    rcases hob8 with h1 | h1
    ·rw [h1]at h;exact HOB.out h
    ·rw [h1]at h
     injection h with h
     have h2:=ga.size
     have:=HQW.out;have:=HS6.out;omega
   have hbl8:∀ T∈M++[S]++[S1],∀ j,T.in j→q10<j:=fun T hT j hj=>by
    rcases List.mem_append.1 hT with h1 | h1
    ·exact HBL.out T h1 j hj
    ·obtain rfl:T=S1:=by simpa using h1
     have:=HI1.out j hj;have:=HS6.out;have:=HQW.out;omega
   have hgq3:gq.toList.length=3:=by
    have h1:=SIQL.out
    rw [zA]at h1
    injection h1 with h1
    exact h1.symm
   have HTH:Hid (x8.there q10 0 gs.size):=hQ9 (z8q.thereN gs.size (by rw [HG3.out,hgq3]))
   have z9:=Ag.set (vs:=gs.toList) z8q (by rw [HLEN.out,hgq3])
   have k9:=zj gs.toList q10 0 x8
   have KB9:=hQ9 (KB8.kp k9 (fun g (h:g=q10)=>by have:=HQ10.out;omega))
   have R9:=hQ9 (R8.kpx k9 (fun g e h=>hob8' (by rw [e,show g=q10 from h])) (fun T hT j hj h=>by have:=hbl8 T hT j hj;have h:j=q10:=h;omega))
   have HZ9:=hQ9 z9
   have HOB8:=hQ9 hob8'
   have HBL8:=hQ9 hbl8
   have hm8:=z8s.cell
   have e7:IntKind.i64.wrap ((n:Int)+1+1)=(n:Int)+1+1:=IntWalk.i64_in _ (by have:=HLT.out;omega)
   clear K8 hol KB8 z8q z8s R8 hob8' hbl8 hgq3 z9 k9 hm7 hown7 hown8 hgrow8 hob8 ga hln
   go_wp2_with(first
    | (with_reducible refine wpList_load_mid rfl 38 (.tmp 14) rfl x6.heap.size 0 rfl gs.toList _ hm8 hqt rfl SISL.out ?_;simp only [Array.toArray_toList])
    | (with_reducible refine wpList_store_mid rfl 38 (.tmp 10) (.tmp 73) rfl q10 0 gs rfl rfl HTH.out SIS.out HOS.out ?_))
   refine⟨⟨n+1,M++[S],S1,by have:=HLT.out;omega,congrArg (Value.int .i64) (by omega),by rw [List.length_append,HLM.out];rfl,HQG.out.snoc (by rw [HQV1.out,List.length_append,HLM.out];simp) HQE1.out,R9.out,HBL8.out,HOB8.out,by rw [HGS.out];exact HZ9.out,KB9.out⟩,?_⟩
   have:=HLT.out
   simp only [Go.RowKit.intOf]
   omega
  ·obtain rfl:n=3:=by omega
   rw [show((3:Nat):Int)+1=4 from rfl]
   have e1:decide ((4:Int)<4)=false:=by decide
   obtain⟨Q,hQ⟩:∃ Q,M++[S]=Q:=⟨_,rfl⟩
   have hql:Q.length=4:=by rw [←hQ,List.length_append,hlm];rfl
   rw [hQ]at hqg hrow hbl
   obtain⟨q9,c9,hu9,hq9,hq9w,hc9⟩:=own_at hrow.row (by omega)
   rw [hql]at hu9
   subst hu9
   have HQL:=hQ9 hql
   have HQG:=hQ9 hqg
   have HQ9:Hid (B0≤q9):=hQ9 hq9
   have HFAR:Hid (∀ T∈Q,∀ j,T.in j→¬KyP p j):=hQ9 (fun T hT j hj=>hkb.far (by have:=hbl T hT j hj;have:=HQ10.out;omega))
   have HRY:Hid (∀ y,Kp (KyP p) wr y→∀ k (hk:k<Q.length),y.rangeAt q9 (k*3) Q[k].C.toList∧Q[k].at y):=hQ9 (fun y k j hj=>by
    have R:=hrow.kpx k (fun g e ⟨i,hi,h⟩=>by
     have e:some q9=some g:=e
     injection e with e
     have:=hkb.lo i hi;omega) (fun T hT j hj=>HFAR.out T hT j hj)
    obtain⟨A,c,e,hv,-,-⟩:=R.qvs
    obtain⟨q,e2,-,hr⟩:=hv.get j hj
    rw [e2]at e
    injection e with e3 _ _
    cases e3
    exact⟨hr,hv.at_ _ (List.getElem_mem hj)⟩)
   have HQO:Hid (∀ T∈Q,T.ok):=hQ9 hrow.ok
   have HKB:=hQ9 hkb
   have HWOB:Hid (B0≤wr.heap.size):=hQ9 hkb.sz
   have HGR:Hid (Grew w wr):=hQ9 (ze HG1.out hkb.gr)
   clear hQ hqg hrow hbl hob hz hkb hlt hn hlm hql hq9 hq9w hc9 hi0 hz0 hz1 hz2 HQ10
   obtain⟨i0,hi0,hz0,hz1,hz2⟩:=info_parts q8
   go_wp2_with fail
   generalize wr=wo at *
   go_loopw [16,17,18] (fun rv hv iv wy=>∃(n:Nat) (N:List NW) (nx:Nat→Nat),n≤4∧iv=.int .i64 (n:Int)∧hv=.int .i64 (topv N)∧NG (kpV seed 5 RA Rc) Q N n∧(∀ i,n≤i→nx i≤6)∧NRow wo.heap.size rv N wy∧KBase seed 5 p nx qk lad RA Rc w1 B0 wy∧Kp (KyP p) wo wy) (fun _ _ iv _=>4-(Go.RowKit.intOf iv).toNat)
   case atStart=>exact⟨0,[],nxr 3,by omega,rfl,rfl,NG.nil,fun i _=>jC 3 i,NRow.nil _ _,HKB.out,zI _ _⟩
   case round =>
    clear HKB e1
    obtain⟨n,N,nx,hn,rfl,rfl,hng,hnx,hvr,hkb,hkp⟩:=hrel
    by_cases hlt:n<4
    ·have e1:decide ((n:Int)<4)=true:=decide_eq_true (by omega)
     have e7:IntKind.i64.wrap ((n:Int)+1)=(n:Int)+1:=IntWalk.i64_in _ (by omega)
     have HLT:=hQ9 hlt
     have HNG:=hQ9 hng
     have HNX:=hQ9 hnx
     have HVR:=hQ9 hvr
     have HKB:=hQ9 hkb
     have HKP:=hQ9 hkp
     clear hn hlt hng hnx hvr hkb hkp
     obtain⟨ada,hAa,hbla,hca⟩:=HRA.out n (by have:=HL4.out;have:=HLT.out;rw [List.length_map];omega)
     subst hAa
     have hca:=((zG HGR.out HKP.out HGR.out.size (fun i ⟨j,hj,e⟩=>by have:=HKB.out.lo j hj;have:=HW01.out;omega)).cell (p:=ada.add n) (yf hca)).trans hca
     have hnl:n<l.length:=by have:=HL4.out;have:=HLT.out;omega
     rw [List.getElem_map]at hca
     have hpx:=HPA.out _ (List.getElem_mem hnl)
     obtain⟨x,hx⟩:∃ x,l[n]=x:=⟨_,rfl⟩
     rw [hx]at hca hpx
     obtain⟨kk,hkk⟩:∃ k:Nat,x%4=(k:Int):=⟨(x%4).toNat,by omega⟩
     have hk4:kk<4:=by omega
     have hxm:x.tmod 4=(kk:Int):=by rw [Int.tmod_eq_emod_of_nonneg hpx.1];exact hkk
     have hn0:(0:Int)≤(n:Int):=by omega
     have hn4:(n:Int)<(l.length:Int):=by omega
     have HK4:=hQ9 hk4
     have HPN:Hid (w.heap.size≤p n+1∧p n+1<B0∧p n<B0):=hQ9 (by have:=HKB.out.lo n HLT.out;have:=HW01.out;omega)
     clear hx hkk hpx hbla hnl
     obtain⟨bb,hbb⟩:∃ bb:Bool,(bits BinOp.and IntKind.u8 (wh / 2^min (IntKind.u64.wrap (n:Int)).toNat 8) 1==0)=bb:=⟨_,rfl⟩
     cases bb
     ·go_upto_region 26 with fail
      clear hbb
      generalize IntKind.u64.wrap (n:Int)=gw1
      generalize wh / 2^min gw1.toNat 8=gw2
      generalize bits BinOp.and IntKind.u8 gw2 1=gw3
      have hSB:∀ g,(fun j=>j=p n+1) g→g<wr.heap.size:=fun g h=>by
       have h1:g=p n+1:=h
       have:=HPN.out;have:=HKB.out.sz;omega
      have HSB:=hQ9 hSB
      have hPy:∀ i,(fun j=>j=p n+1) i→KyP p i:=fun i (h:i=p n+1)=>⟨n,HLT.out,h⟩
      have HPY:=hQ9 hPy
      have HSY:Hid (∀ y,Kp (fun j=>j=p n+1) wr y→Std y):=hQ9 (fun y k=>HS.out.grew (ze HG1.out (zG HKB.out.gr k HKB.out.gr.size (fun i (hi:i=p n+1)=>by have:=HKB.out.lo n HLT.out;omega))))
      have HLC:Hid (∀ y,Kp (fun j=>j=p n+1) wr y→y.cell? (lad.add n)=some (.pointer (some ⟨p n+1,0,none⟩))):=hQ9 (fun y k=>(World.cell?_of_block (by rw [zy];exact k.block lad.block (by have:=HKB.out.lb;have:=HKB.out.sz;omega) (HKB.out.ln n HLT.out))).trans (HKB.out.ld n HLT.out))
      have hkl:kk<Q.length:=by rw [HQL.out];exact hk4
      obtain⟨T0,hT0⟩:∃ T,Q[kk]=T:=⟨_,rfl⟩
      have HT0:=hQ9 hT0
      have HKL:=hQ9 hkl
      obtain⟨gh,hgh⟩:∃ g,T0.C=g:=⟨_,rfl⟩
      have HGH:=hQ9 hgh
      have HCB:Hid (∀ y,Kp (fun j=>j=p n+1) wr y→y.rangeAt q9 (kk*3) gh.toList):=hQ9 (fun y k=>by
       have h:=(HRY.out y (zh HKP.out (yr k HPY.out)) kk HKL.out).1
       rw [HT0.out,HGH.out]at h
       exact h)
      have HVH:Hid (∀ y,Kp (fun j=>j=p n+1) wr y→Vps y T0.A T0.H):=hQ9 (fun y k=>by
       have h:=(HRY.out y (zh HKP.out (yr k HPY.out)) kk HKL.out).2
       rw [HT0.out]at h
       exact h.q)
      have HTO:Hid T0.ok:=hQ9 (HQO.out T0 (by rw [←HT0.out];exact List.getElem_mem HKL.out))
      have HTG:Hid (T0.qv=(kk:Int)∧vqE (kpV seed 5 RA Rc) T0.qv T0.qd T0.H=0):=hQ9 (by
       have h:=HQG.out kk HKL.out
       rw [HT0.out]at h
       exact h)
      have SIHL:Hid ((Tryz.prog.info? 38).map (·.size)=some gh.toList.length):=hQ9 (by rw [←hgh];exact zA)
      have HNN:Hid (nx n<2^5):=hQ9 (by have:=HNX.out n (Nat.le_refl _);show nx n<32;omega)
      have HKY:Hid (∀ y,Grew wr y→KyAt y (p n+1) (p n) (n:Int) (sdI seed n) (ksL seed 5 n) (nx n) (2^5)):=hQ9 (fun y k=>(HKB.out.ks n HLT.out).grew k)
      obtain⟨S0,hS0⟩:∃ S,nwK seed 5 (nx n) 9 T0.qv T0.qd n none 0 T0.H none 0=S:=⟨_,rfl⟩
      have HS0:=hQ9 hS0
      have CM:Hid (∀ W,Std W→Vps W T0.A T0.H→KyAt W (p n+1) (p n) (n:Int) (sdI seed n) (ksL seed 5 n) (nx n) (2^5)→Calls Tryz.prog 66 #[.pointer (some ⟨p n+1,0,none⟩),.int .i64 (n:Int),.int .i64 9,.agg gh] W fun e w' =>
       (∃ S,e=.returned (.tuple #[.agg (NW.C S),.int .i64 0])∧NwMv S0 S∧S.ok∧S.at w'∧∀ j,S.in j→W.heap.size≤j)∧Tn (p n+1) W w'∧KyAt w' (p n+1) (p n) (n:Int) (sdI seed n) (ksL seed 5 n) (nx n+1) (2^5)):=hQ9 (fun W h1 h2 h3=>by
       have:=qg seed 5 n (nx n) (by omega) HLT.out HNN.out (p n) 9 ⟨by decide,by decide⟩ T0.qv HTO.out.qv T0.qd HTO.out.qd T0.A T0.k T0.H HTO.out.h W h1 h2 h3
       rw [HS0.out,show vqC T0.qv T0.qd T0.A T0.H.length T0.k=gh from HGH.out]at this
       exact this)
      have e44:decide (n<4)=true:=decide_eq_true HLT.out
      have e45:decide (kk<4)=true:=decide_eq_true hk4
      have e46:decide ((kk:Int)<4)=true:=decide_eq_true (by omega)
      have hk0:(0:Int)≤(kk:Int):=by omega
      have hk4i:(kk:Int)<4:=by omega
      have hn4i:(n:Int)<4:=by have:=HLT.out;omega
      have HWB:Hid (B0≤wr.heap.size):=hQ9 HKB.out.sz
      clear hSB hPy hT0 hgh hS0 hk4 hn4 hca hxm
      refine yl 14 15 9 (fun j=>j=p n+1) (fun ix9=>match ix9 with
       | 0=>fun v=>v=.slice (some lad) 4 Lc
       | 1=>fun v=>v=.int .i64 (n:Int)
       | 2=>fun v=>v=.pointer (some (lad.add n))
       | 3=>fun v=>v=.pointer (some ⟨p n+1,0,none⟩)
       | 4=>fun v=>v=.int .i64 (n:Int)
       | 5=>fun v=>v=.slice (some ⟨q9,0,none⟩) 4 c9
       | 6=>fun v=>v=.int .i64 (kk:Int)
       | 7=>fun v=>v=.pointer (some ⟨q9,kk*3,none⟩)
       | 8=>fun v=>v=.agg gh
       | 9=>fun _=>True
       | 10=>fun v=>∃ S,v=.tuple #[.agg (NW.C S),.int .i64 0]
       | 11=>fun _=>True
       | 12=>fun v=>v=.int .i64 0
       | 13=>fun _=>True
       | 14=>fun _=>True
       | _=>fun _=>True) (fun ix9=>match ix9 with
       | 9=>fun lo hi v w=>MkNk w wr.heap.size (p n+1) (p n) (n:Int) (sdI seed n) (ksL seed 5 n) (nx n+1) (2^5) S0 lo hi v (fun S=>.tuple #[.agg (NW.C S),.int .i64 0])
       | 10=>fun lo hi v w=>MkNw w wr.heap.size S0 lo hi v (fun S=>.tuple #[.agg (NW.C S),.int .i64 0])
       | 11=>fun lo hi v w=>MkNw w wr.heap.size S0 lo hi v (fun S=>.agg (NW.C S))
       | 13=>fun lo hi v w=>AgZ w wr.heap.size lo hi (#[.int .i64 0,.int .i64 0,.int .i64 0,.int .u64 0,.slice none 0 0,.int .i64 0,.int .i64 0,.int .u64 0,.int .u64 0,.int .u64 0,.int .u64 0,.int .u64 0,.int .u64 0,.int .u64 0,.int .u64 0,.int .u64 0,.int .u64 0,.int .u64 0,.int .u64 0,.int .u64 0,.int .u64 0,.int .u64 0,.int .u64 0,.int .u64 0,.int .u64 0,.slice none 0 0]:Array Value).toList v
       | _=>fun _ _ _ _=>True) (fun ix9=>match ix9 with
       | 10=>9
       | 11=>10
       | ix8=>ix8) (fun ix9=>match ix9 with
       | 10=>9
       | 11=>9
       | ix8=>ix8) (fun ix9=>match ix9 with
       | 12=>true
       | _=>false) 13 (fun v W=>StNk (fun j=>j=p n+1) wr S0 (p n+1) (p n) (n:Int) (sdI seed n) (ksL seed 5 n) (nx n+1) (2^5) v W) rfl (by kernel_rfl) (by kernel_rfl) (by kernel_rfl) (by kernel_rfl) rfl rfl (by decide) (fun _=>trivial) ?_ ?_ ?_ ?_ ?_ (fun o ho=>by cases ho;rfl) (fun v x y h hg=>StNk.gr h hg) ?_
      ·simp only [actOf,tk1,tk0,dr1,dr0,Act.put,si1,st1,st0,Nat.reduceAdd]
       refine⟨?_,?_,?_,?_,?_,?_,?_,?_,?_,?_,?_,?_,?_,?_,trivial⟩
       ·intro vs lo hi y hg hd hvia
        replace hg:Kp (fun j=>j=p n+1) wr y:=hg
        clear hvia
        dsimp only
        go_wp2_with fail
        first | exact⟨rfl,_,rfl,zc _,rfl⟩ | exact⟨rfl,_,rfl,zc _,rfl,trivial⟩
       ·intro vs lo hi y hg hd hvia
        replace hg:Kp (fun j=>j=p n+1) wr y:=hg
        clear hvia
        dsimp only
        go_wp2_with fail
        first | exact⟨rfl,_,rfl,zc _,rfl⟩ | exact⟨rfl,_,rfl,zc _,rfl,trivial⟩
       ·intro vs lo hi y hg hd hvia
        replace hg:Kp (fun j=>j=p n+1) wr y:=hg
        obtain⟨h0,h1,_⟩:=hd
        replace h0:=h0 rfl
        replace h1:=h1 rfl
        clear hvia
        dsimp only
        rw [show vs 0=_ from h0,show vs 1=_ from h1]
        go_wp2_with fail
        first | exact⟨rfl,_,rfl,zc _,rfl⟩ | exact⟨rfl,_,rfl,zc _,rfl,trivial⟩
       ·intro vs lo hi y hg hd hvia
        replace hg:Kp (fun j=>j=p n+1) wr y:=hg
        obtain⟨h2,_⟩:=hd
        replace h2:=h2 rfl
        clear hvia
        dsimp only
        rw [show vs 2=_ from h2]
        have hc:=HLC.out y hg
        go_wp2_with fail
        first | exact⟨rfl,_,rfl,zc _,rfl⟩ | exact⟨rfl,_,rfl,zc _,rfl,trivial⟩
       ·intro vs lo hi y hg hd hvia
        replace hg:Kp (fun j=>j=p n+1) wr y:=hg
        clear hvia
        dsimp only
        go_wp2_with fail
        first | exact⟨rfl,_,rfl,zc _,rfl⟩ | exact⟨rfl,_,rfl,zc _,rfl,trivial⟩
       ·intro vs lo hi y hg hd hvia
        replace hg:Kp (fun j=>j=p n+1) wr y:=hg
        clear hvia
        dsimp only
        go_wp2_with fail
        first | exact⟨rfl,_,rfl,zc _,rfl⟩ | exact⟨rfl,_,rfl,zc _,rfl,trivial⟩
       ·intro vs lo hi y hg hd hvia
        replace hg:Kp (fun j=>j=p n+1) wr y:=hg
        clear hvia
        dsimp only
        go_wp2_with fail
        first | exact⟨rfl,_,rfl,zc _,rfl⟩ | exact⟨rfl,_,rfl,zc _,rfl,trivial⟩
       ·intro vs lo hi y hg hd hvia
        replace hg:Kp (fun j=>j=p n+1) wr y:=hg
        obtain⟨h5,h6,_⟩:=hd
        replace h5:=h5 rfl
        replace h6:=h6 rfl
        clear hvia
        dsimp only
        rw [show vs 5=_ from h5,show vs 6=_ from h6]
        go_wp2_with fail
        first | exact⟨rfl,_,rfl,zc _,rfl⟩ | exact⟨rfl,_,rfl,zc _,rfl,trivial⟩
       ·intro vs lo hi y hg hd hvia
        replace hg:Kp (fun j=>j=p n+1) wr y:=hg
        obtain⟨h7,_⟩:=hd
        replace h7:=h7 rfl
        clear hvia
        dsimp only
        rw [show vs 7=_ from h7]
        have hm:=HCB.out y hg
        go_wp2_with(with_reducible refine wpList_load_mid rfl 38 (.tmp 98) rfl q9 (kk*3) rfl gh.toList _ hm hqt rfl SIHL.out ?_;simp only [Array.toArray_toList])
        first | exact⟨rfl,_,rfl,zc _,rfl⟩ | exact⟨rfl,_,rfl,zc _,rfl,trivial⟩
       ·intro vs lo hi y hg hd hvia
        replace hg:Grew wr y:=hg
        obtain⟨h3,h4,h8,_⟩:=hd
        replace h3:=h3 rfl
        replace h4:=h4 rfl
        replace h8:=h8 rfl
        clear hvia
        dsimp only
        rw [show vs 3=_ from h3,show vs 4=_ from h4,show vs 8=_ from h8]
        have hgS:=HSY.out y (zg hg)
        have hKY:=HKY.out y hg
        have hVP:=HVH.out y (zg hg)
        go_wp2_with(go_at_call 66;refine(CM.out y hgS hVP hKY).mono ?_;rintro e z ⟨⟨S9,rfl,hmv9,hok9,hat9,hfr9⟩,ht9,hk9⟩)
        exact⟨rfl,_,rfl,kp_tn ht9,trivial,⟨⟨S9,rfl,hmv9,hok9,hat9,hg.size,fun j hj=>⟨hfr9 j hj,kr hat9 j hj⟩⟩,hk9⟩⟩
       ·intro vs lo hi y hg hd hvia
        replace hg:Kp (fun j=>j=p n+1) wr y:=hg
        obtain⟨h9,_⟩:=hd
        replace h9:=h9 rfl
        have hv9:(fun lo hi v w=>MkNk w wr.heap.size (p n+1) (p n) (n:Int) (sdI seed n) (ksL seed 5 n) (nx n+1) (2^5) S0 lo hi v (fun S=>.tuple #[.agg (NW.C S),.int .i64 0])) (lo 9) (hi 9) (vs 9) y:=hvia rfl
        clear hvia
        dsimp only
        obtain⟨S9,e9,hr9⟩:=MkNw.out (MkNk.sk hv9)
        rw [e9]
        go_wp2_with fail
        exact⟨rfl,_,rfl,zc _,⟨S9,rfl⟩,⟨S9,rfl,hr9⟩⟩
       ·intro vs lo hi y hg hd hvia
        replace hg:Kp (fun j=>j=p n+1) wr y:=hg
        obtain⟨h10,_⟩:=hd
        replace h10:=h10 rfl
        have hv9:(fun lo hi v w=>MkNw w wr.heap.size S0 lo hi v (fun S=>.tuple #[.agg (NW.C S),.int .i64 0])) (lo 10) (hi 10) (vs 10) y:=hvia rfl
        clear hvia
        dsimp only
        obtain⟨S9,e9,hr9⟩:=MkNw.out hv9
        rw [e9]
        go_wp2_with fail
        exact⟨rfl,_,rfl,zc _,⟨S9,rfl,hr9⟩⟩
       ·intro vs lo hi y hg hd hvia
        replace hg:Kp (fun j=>j=p n+1) wr y:=hg
        obtain⟨h10,_⟩:=hd
        replace h10:=h10 rfl
        clear hvia
        dsimp only
        obtain⟨S9,e9⟩:=h10
        rw [e9]
        go_wp2_with fail
        first | exact⟨rfl,_,rfl,zc _,rfl⟩ | exact⟨rfl,_,rfl,zc _,rfl,trivial⟩
       ·intro vs lo hi y hg hd hvia
        replace hg:Kp (fun j=>j=p n+1) wr y:=hg
        clear hvia
        dsimp only
        go_wp2_with fail
        exact⟨rfl,_,rfl,zf (zc _) _,⟨y.heap.size,rfl,Ag.new y 111 (#[.int .i64 0,.int .i64 0,.int .i64 0,.int .u64 0,.slice none 0 0,.int .i64 0,.int .i64 0,.int .u64 0,.int .u64 0,.int .u64 0,.int .u64 0,.int .u64 0,.int .u64 0,.int .u64 0,.int .u64 0,.int .u64 0,.int .u64 0,.int .u64 0,.int .u64 0,.int .u64 0,.int .u64 0,.int .u64 0,.int .u64 0,.int .u64 0,.int .u64 0,.slice none 0 0]:Array Value),hg.size,Nat.le_refl _,by show y.heap.size<(y.alloc _).heap.size;simp⟩⟩
      ·refine⟨(fun h=>absurd h (by decide)),(fun h=>absurd h (by decide)),(fun h=>absurd h (by decide)),(fun h=>absurd h (by decide)),(fun h=>absurd h (by decide)),(fun h=>absurd h (by decide)),(fun h=>absurd h (by decide)),(fun h=>absurd h (by decide)),(fun h=>absurd h (by decide)),(fun h=>absurd h (by decide)),(fun h=>absurd h (by decide)),(fun h=>absurd h (by decide)),?_,(fun h=>absurd h (by decide)),(fun h=>absurd h (by decide)),trivial⟩
       ·intro _ vs y hd
        obtain⟨h10,_⟩:=hd
        replace h10:=h10 rfl
        simp only [actOf,tk1,tk0,dr1,dr0,Act.put,si1,st1,st0,Nat.reduceAdd]
        obtain⟨S9,e9⟩:=h10
        rw [e9]
        go_wp2_with fail
        first | exact⟨rfl,_,rfl,zc _,rfl⟩ | exact⟨rfl,_,rfl,zc _,rfl,trivial⟩
      ·intro lo hi v x y h hg
       exact MkNk.gr h hg
      ·intro i lo hi v x y hne hx h hg
       match i,h with
       | 9,h=>exact absurd rfl hne
       | 10,h=>exact MkNw.kp h hg HSB.out
       | 11,h=>exact MkNw.kp h hg HSB.out
       | 13,h=>exact AgZ.kp h hg HSB.out
       | 0,_=>trivial
       | 1,_=>trivial
       | 2,_=>trivial
       | 3,_=>trivial
       | 4,_=>trivial
       | 5,_=>trivial
       | 6,_=>trivial
       | 7,_=>trivial
       | 8,_=>trivial
       | 12,_=>trivial
       | m+14,_=>trivial
      ·intro vs lo hi y hg hJ hK hB hD
       replace hg:Kp (fun j=>j=p n+1) wr y:=hg
       have k100:=hK 9 (by decide) rfl
       have b100:=hB 9 (by decide) rfl
       have k90:=hK 10 (by decide) rfl
       have b90:=hB 10 (by decide) rfl
       have k101:=hK 11 (by decide) rfl
       have b101:=hB 11 (by decide) rfl
       have k20:=hK 13 (by decide) rfl
       have b20:=hB 13 (by decide) rfl
       have d100_20:=hD 9 (by decide) rfl 13 (by decide) rfl (by decide)
       have d90_20:=hD 10 (by decide) rfl 13 (by decide) rfl (by decide)
       have d101_20:=hD 11 (by decide) rfl 13 (by decide) rfl (by decide)
       clear hK hB hD
       have j0:vs 0=.slice (some lad) 4 Lc:=hJ 0 (by decide) rfl
       have j1:vs 1=.int .i64 (n:Int):=hJ 1 (by decide) rfl
       have j2:vs 2=.pointer (some (lad.add n)):=hJ 2 (by decide) rfl
       have j3:vs 3=.pointer (some ⟨p n+1,0,none⟩):=hJ 3 (by decide) rfl
       have j4:vs 4=.int .i64 (n:Int):=hJ 4 (by decide) rfl
       have j5:vs 5=.slice (some ⟨q9,0,none⟩) 4 c9:=hJ 5 (by decide) rfl
       have j6:vs 6=.int .i64 (kk:Int):=hJ 6 (by decide) rfl
       have j7:vs 7=.pointer (some ⟨q9,kk*3,none⟩):=hJ 7 (by decide) rfl
       have j8:vs 8=.agg gh:=hJ 8 (by decide) rfl
       clear hJ
       simp only [actOf,tk1,tk0,dr1,dr0,Act.put,si1,st1,st0,Nat.reduceAdd]
       obtain⟨S1,e101,hm1,ho1,hat1,hb1,hr1⟩:=MkNw.out k101
       obtain⟨q,e20,zq,hBq,hql,hqh⟩:=AgZ.out k20
       rw [e101,e20]
       have hky:=MkNk.ky k100
       have hPI:=HPN.out
       have hbb:=HWB.out
       have HNQ:Hid (∀ j,S1.in j→¬j=q):=hQ9 (fun j hj e=>by have:=hr1 j hj;rcases d101_20 with h2 | h2<;>omega)
       have HLO1:Hid (∀ j,S1.in j→wr.heap.size≤j):=hQ9 (fun j hj=>by have:=hr1 j hj;omega)
       obtain⟨gs,hgs⟩:∃ g,NW.C S1=g:=⟨_,rfl⟩
       have hz26:gs.size=26:=by rw [←hgs];rfl
       have HTH:Hid (y.there q 0 gs.size):=hQ9 (zq.thereN gs.size (by rw [hz26];rfl))
       have HSI:Hid ((Tryz.prog.info? 111).map (·.size)=some gs.size):=hQ9 (by rw [hz26];exact zw)
       have HON:Hid (gs.all (·.oneCell')=true):=hQ9 (by rw [←hgs];exact S1.one)
       have z4:=Ag.set (vs:=gs.toList) zq (by rw [Array.length_toList,hz26];rfl)
       have k4:=zj gs.toList q 0 y
       have HF:Hid (StNk (fun j=>j=p n+1) wr S0 (p n+1) (p n) (n:Int) (sdI seed n) (ksL seed 5 n) (nx n+1) (2^5) (.pointer (some ⟨q,0,none⟩)) (y.setCells q 0 gs.toList)):=hQ9 ⟨⟨S1,q,rfl,by rw [hgs];exact z4,hm1,ho1,xg hat1 k4 (fun j hj h=>HNQ.out j hj h),by omega,HLO1.out,xC hg k4 (by omega)⟩,hky.kp k4 (fun h=>by have h:p n+1=q:=h;omega) (fun h=>by have h:p n=q:=h;omega)⟩
       rw [hgs]
       clear hgs hg z4 k4 zq hat1 hky hm1 ho1
       generalize gs=gs' at *
       go_wp2_with(with_reducible refine wpList_store_mid rfl 111 (.tmp 20) (.tmp 101) rfl q 0 gs' rfl rfl HTH.out HSI.out HON.out ?_)
       exact HF.out
      ·intro vs w4 hF hJ
       have j0:vs 0=.slice (some lad) 4 Lc:=hJ 0 (by decide)
       have j1:vs 1=.int .i64 (n:Int):=hJ 1 (by decide)
       have j2:vs 2=.pointer (some (lad.add n)):=hJ 2 (by decide)
       have j3:vs 3=.pointer (some ⟨p n+1,0,none⟩):=hJ 3 (by decide)
       have j4:vs 4=.int .i64 (n:Int):=hJ 4 (by decide)
       have j5:vs 5=.slice (some ⟨q9,0,none⟩) 4 c9:=hJ 5 (by decide)
       have j6:vs 6=.int .i64 (kk:Int):=hJ 6 (by decide)
       have j7:vs 7=.pointer (some ⟨q9,kk*3,none⟩):=hJ 7 (by decide)
       have j8:vs 8=.agg gh:=hJ 8 (by decide)
       have j12:vs 12=.int .i64 0:=hJ 12 (by decide)
       clear hJ
       simp only [actOf,tk1,tk0,dr1,dr0,Act.put,si1,st1,st0,Nat.reduceAdd]
       obtain⟨⟨S1,q,e7s,z4,hm4,ho4,hat4,hq4,hlo4,kk4⟩,hky4⟩:=hF
       rw [e7s,show vs 12=_ from j12]
       have KB4:=HKB.out.tn HLT.out kk4 hky4
       have HKB4:=hQ9 KB4
       have hvr4:=HVR.out.kp kk4 (fun g (h:g=p n+1)=>by have:=HPN.out;have:=HWOB.out;omega)
       have HVR4:=hQ9 hvr4
       have HKP4:Hid (Kp (KyP p) wo w4):=hQ9 (zh HKP.out (yr kk4 HPY.out))
       have HMV4:=hQ9 hm4
       have HSO:=hQ9 ho4
       have HSA4:=hQ9 hat4
       have HIN:Hid (∀ j,S1.in j→wr.heap.size≤j):=hQ9 hlo4
       have HNV:Hid (nvS (kpV seed 5 RA Rc) S1=0):=hQ9 (by
        rw [hm4.nv,←HS0.out]
        exact zad seed 5 RA Rc 9 T0.qv T0.qd (by omega) (by decide) (by decide) (by rw [HTG.out.1];have:=HK4.out;omega) (nx n) n HLT.out HNN.out none 0 T0.H HTG.out.2 none 0)
       have HWHO:Hid (S1.who=(n:Int)∧S1.vw=9∧S1.qv=(kk:Int)∧S1.qd=T0.qd):=hQ9 (by
        obtain⟨h1,h2,h3,h4,-⟩:=hm4.who
        rw [h1,h2,h3,h4,←HS0.out]
        exact⟨rfl,rfl,HTG.out.1,rfl⟩)
       have CV:Hid (∀ y,Grew w4 y→Calls Tryz.prog 50 #[.agg kc,.agg S1.C] y fun e w'=>e=.returned (.int .i64 0)∧Grew y w'):=hQ9 (fun y g=>by
        have h:=xa HK0.out HSO.out y (HS.out.grew (ze HG1.out (ze HKB4.out.gr g))) (Rd.gr (show Rd w4 w4.heap.size RA (u64L (rtL seed 5 4)) from HKB4.out.rR) g) (HSA4.out.gr g)
        rw [HNV.out,HKC.out]at h
        exact h)
       obtain⟨gs,hgs⟩:∃ g,NW.C S1=g:=⟨_,rfl⟩
       rw [hgs]at z4 CV
       have HGS:=hQ9 hgs
       have HONE:Hid (∀ u∈gs.toList,u.oneCell'=true):=hQ9 (by rw [←hgs];exact S1.one')
       have HFOLD:Hid (Array.foldl (fun(cs:Array Value) (x:Value × Nat)=>cs.setIfInBounds x.snd x.fst) (#[.int .i64 0,.int .i64 0,.int .i64 0,.int .u64 0,.slice none 0 0,.int .i64 0,.int .i64 0,.int .u64 0,.int .u64 0,.int .u64 0,.int .u64 0,.int .u64 0,.int .u64 0,.int .u64 0,.int .u64 0,.int .u64 0,.int .u64 0,.int .u64 0,.int .u64 0,.int .u64 0,.int .u64 0,.int .u64 0,.int .u64 0,.int .u64 0,.int .u64 0,.slice none 0 0]:Array Value) gs.zipIdx 0 26=gs):=hQ9 (by rw [←hgs];exact xf S1)
       have hgs26:gs.size=26:=by rw [←hgs];rfl
       have HLEN:Hid (gs.toList.length=26):=hQ9 (by rw [Array.length_toList,hgs26])
       have HSL:Hid ((Tryz.prog.info? 111).map (·.size)=some gs.toList.length):=hQ9 (by rw [←hgs];exact zw)
       have hm5:=z4.cell
       have hmk:w4.rangeAt qk 0 kc.toList:=by rw [←HKCE.out];exact HKB4.out.kc.cell
       have HZS4:=hQ9 z4
       have HWB4:Hid (wr.heap.size≤w4.heap.size):=hQ9 kk4.size
       clear e7s z4 hm4 ho4 hat4 hq4 hlo4 kk4 hky4 KB4 hvr4 hgs
       try clear j0
       try clear j1
       try clear j2
       try clear j3
       try clear j4
       try clear j5
       try clear j6
       try clear j7
       try clear j8
       try clear j12
       clear HSB HSY HLC HCB HVH HKY CM
       have hgs26:=HLEN.out
       clear hgs26
       go_wp2_with(first
        | (with_reducible refine wpList_load_mid rfl 111 (.tmp 20) rfl q 0 rfl gs.toList _ hm5 hnt rfl HSL.out ?_;simp only [Array.toArray_toList])
        | (with_reducible refine wpList_load_mid rfl 49 (.tmp 8) rfl qk 0 rfl kc.toList _ hmk hkt rfl HSKL.out ?_;simp only [Array.toArray_toList])
        | (refine zx (by rfl) 111 (.tmp 20) rfl q 0 rfl gs.toList _ hm5 hnt rfl HSL.out ?_;simp only [Array.toArray_toList])
        | (refine zx (by rfl) 49 (.tmp 8) rfl qk 0 rfl kc.toList _ hmk hkt rfl HSKL.out ?_;simp only [Array.toArray_toList]))
       refine(CV.out w4 (zc _)).mono ?_
       clear CV hmk
       rintro e w5 ⟨rfl,g45⟩
       have HG45:=hQ9 g45
       have hm6:=(HZS4.out.grew g45).cell
       have HVR5:=hQ9 (HVR4.out.grew g45)
       have hrow5:=HVR5.out.row
       have ga:=zf (zc w5) (.cells gs 111)
       have hb9:wo.heap.size≤w5.heap.size:=by have:=HKP4.out.size;have:=g45.size;omega
       have hN4:N.length≤4:=by have:=HNG.out.len;have:=HLT.out;omega
       have hgs26:gs.size=26:=by have:=HLEN.out;rwa [Array.length_toList]at this
       clear g45 hm5
       go_upto_region 30 with (first
        | (with_reducible refine wpList_load_mid rfl 111 (.tmp 20) rfl q 0 rfl gs.toList _ hm6 hnt rfl HSL.out ?_;simp only [Array.toArray_toList])
        | (at_builtin;rw [HFOLD.out];refine zH _ rfl (.tmp 111) (.tmp 113) 120 rfl wo.heap.size 111 i0 (.agg (#[.int .i64 0,.int .i64 0,.int .i64 0,.int .u64 0,.slice none 0 0,.int .i64 0,.int .i64 0,.int .u64 0,.int .u64 0,.int .u64 0,.int .u64 0,.int .u64 0,.int .u64 0,.int .u64 0,.int .u64 0,.int .u64 0,.int .u64 0,.int .u64 0,.int .u64 0,.int .u64 0,.int .u64 0,.int .u64 0,.int .u64 0,.int .u64 0,.int .u64 0,.slice none 0 0]:Array Value)) 26 240 Tryz.underlying120 hi0 hz0 hz1 hz2 rfl (by decide) _ _ _ rfl (hrow5.alloc _) ⟨w5.heap.size,0,none⟩ 1 1 gs.toList rfl (by rw [HLEN.out]) (fun j u hj=>zT w5 gs 111 j u hj) HONE.out (by unfold maxLen;omega) (by omega) (by simp;omega) ?_;intro v' w6 hown6 hgrow6 hob6))
       have K6:Kp (fun g=>wo.heap.size≤g) w5 w6:=ye (zg ga) hgrow6 (fun g e=>.inl (zB hrow5 g e))
       have hol:∀ g,u16.ownBlock=some g→g<wr.heap.size:=fun g e=>(zC HVR.out.row g e).2
       have HRR:Hid (NRow wo.heap.size v' (N++[S1]) w6):=hQ9 (HVR5.out.app HSO.out (HSA4.out.gr HG45.out) (fun j hj=>by have:=HIN.out j hj;have:=HKP.out.size;omega) (fun j hj e=>by have:=HIN.out j hj;have:=hol j e;omega) ga (by rw [HGS.out];exact hown6) hgrow6 hob6)
       have HKR:Hid (KBase seed 5 p (updK nx n) qk lad RA Rc w1 B0 w6):=hQ9 ((HKB4.out.grew HG45.out).kp K6 (fun g h=>Nat.le_trans HWOB.out h))
       have HKQ:Hid (Kp (KyP p) wo w6):=hQ9 (yx (zh HKP4.out (zg HG45.out)) K6 (fun i h=>.inr h))
       clear K6 hol ga hrow5 hown6 hgrow6 hob6 hm6 hb9 hN4 hgs26 hk4i hn4i hk0 e44 e45 e46
       go_wp2_with fail
       refine⟨⟨n+1,N++[S1],updK nx n,by have:=HLT.out;omega,rfl,congrArg (Value.int .i64) (by rw [zeg,HWHO.out.2.2.1]),HNG.out.snoc HWHO.out.2.1 HNV.out HWHO.out.1 kk HKL.out HWHO.out.2.2.1 (by rw [HWHO.out.2.2.2,HT0.out]),fun i hi=>?_,HRR.out,HKR.out,HKQ.out⟩,?_⟩
       ·unfold updK
        rw [if_neg (by omega)]
        exact HNX.out i (by omega)
       ·have:=HLT.out
        simp only [Go.RowKit.intOf]
        omega
     ·clear hca
      go_wp2_with fail
      refine⟨⟨n+1,N,nx,by have:=HLT.out;omega,rfl,rfl,HNG.out.more,fun i hi=>HNX.out i (by omega),HVR.out,HKB.out,HKP.out⟩,?_⟩
      have:=HLT.out
      simp only [Go.RowKit.intOf]
      omega
    ·obtain rfl:n=4:=by omega
     rw [show((4:Nat):Int)=4 from rfl]
     have e1:decide ((4:Int)<4)=false:=by decide
     obtain⟨NA,nc,rfl,hnws,hnc,hnb⟩:=hvr.nws
     have HKAY:Hid (∀ y,Grew wr y→(kpV seed 5 RA Rc).at y):=hQ9 (fun y g=>Rd.gr (show Rd wr wr.heap.size RA (u64L (rtL seed 5 4)) from hkb.rR) g)
     have HMK:Hid (∀ y,Grew wr y→y.rangeAt qk 0 kc.toList):=hQ9 (fun y g=>by rw [←HKCE.out];exact(hkb.kc.grew g).cell)
     have HSYY:Hid (∀ y,Grew wr y→Std y):=hQ9 (fun y g=>HS.out.grew (ze HG1.out (ze hkb.gr g)))
     have HGW:Hid (Grew w wr):=hQ9 (ze HG1.out hkb.gr)
     have HNW:Hid (∀ y,Grew wr y→Nws y NA N):=hQ9 (fun y g=>hnws.gr g)
     have HNG:=hQ9 hng
     have HL5:Hid (N.length≤4):=hQ9 hng.len
     have HF:Hid (∀ S∈N,S.vw=9∧nvS (kpV seed 5 RA Rc) S=0):=hQ9 (fun S hS=>(hng.each S hS).1)
     have HEN:Hid (eachL NW.who (N.filter (nfB (kpV seed 5 RA Rc) 9))=N):=hQ9 (jh HF.out hng.up)
     have HE8:Hid ((eachL NW.who (N.filter (nfB (kpV seed 5 RA Rc) 8))).length<(2*(kpV seed 5 RA Rc).f+1).toNat):=hQ9 (by
      have h:N.filter (nfB (kpV seed 5 RA Rc) 8)=[]:=List.filter_eq_nil_iff.2 (fun S hS=>by
       unfold nfB
       rw [(HF.out S hS).1]
       simp)
      rw [h]
      rw [yd,kM NW.who [] [] (by simp) (by simp)]
      show 0<(2*(1:Int)+1).toNat
      decide)
     have HRQ:Hid (∀ y,Grew wr y→∀ k (hk:k<Q.length),y.rangeAt q9 (k*3) Q[k].C.toList):=hQ9 (fun y g k hk=>(HRY.out y (zh hkp (zg g)) k hk).1)
     have CB8:Hid (∀ y,Grew wr y→Calls Tryz.prog 56 #[.agg kc,.int .i64 8,.slice NA N.length nc] y fun e w'=>e=.returned (.tuple #[.agg (#[.int .i64 0,.int .u64 0,.slice none 0 0]:Array Value),.int .i64 8])∧Grew y w'):=hQ9 (fun y g=>by
      have h:=xM HK0.out 8 NA nc N (by have:=HL5.out;omega) y (HSYY.out y g) (HKAY.out y g) (HNW.out y g) HE8.out
      rw [HKC.out]at h
      exact h)
     clear hng hnws hnc hnb hvr hkb hkp hnx hn hlt hi0 hz0 hz1 hz2
     by_cases hl3:N.length<3
     ·have e3:decide ((N.length:Int)<3)=true:=decide_eq_true (by omega)
      have CB9:Hid (∀ y,Grew wr y→Calls Tryz.prog 56 #[.agg kc,.int .i64 9,.slice NA N.length nc] y fun e w'=>e=.returned (.tuple #[.agg (#[.int .i64 0,.int .u64 0,.slice none 0 0]:Array Value),.int .i64 8])∧Grew y w'):=hQ9 (fun y g=>by
       have h:=xM HK0.out 9 NA nc N (by have:=HL5.out;omega) y (HSYY.out y g) (HKAY.out y g) (HNW.out y g) (by rw [HEN.out];exact hl3)
       rw [HKC.out]at h
       exact h)
      have hmk:=HMK.out wr (zc _)
      clear hl3
      go_wp2_with(with_reducible refine wpList_load_mid rfl 49 (.tmp 8) rfl qk 0 rfl kc.toList _ hmk hkt rfl HSKL.out ?_;simp only [Array.toArray_toList])
      refine(CB9.out wr (zc _)).mono ?_
      clear CB9 hmk
      rintro e x1 ⟨rfl,g1⟩
      obtain⟨x2,hx2,ht2,g2,z2⟩:=zK x1 38 (#[.int .i64 0,.int .u64 0,.slice none 0 0]:Array Value) (#[.int .i64 0,.int .u64 0,.slice none 0 0]:Array Value) rfl
      have HX2:=hQ9 hx2
      have HT2:=hQ9 ht2
      have SIZ:Hid ((Tryz.prog.info? 38).map (·.size)=some ((#[.int .i64 0,.int .u64 0,.slice none 0 0]:Array Value)).size):=hQ9 zA
      have HOZ:Hid (((#[.int .i64 0,.int .u64 0,.slice none 0 0]:Array Value)).all (·.oneCell')=true):=hQ9 (by simp [Value.oneCell'])
      have HG2:=hQ9 (ze HGW.out (ze g1 g2))
      clear hx2 ht2 g1 g2 z2
      go_wp2_with(with_reducible refine wpList_store_mid rfl 38 (.tmp 22) (.tmp 122) rfl x1.heap.size 0 (#[.int .i64 0,.int .u64 0,.slice none 0 0]:Array Value) rfl rfl HT2.out SIZ.out HOZ.out ?_;rw [HX2.out];clear HX2 HT2)
      go_ret
      exact⟨rfl,HG2.out⟩
     ·have e3:decide ((N.length:Int)<3)=false:=decide_eq_false (by omega)
      obtain⟨S0,R,hNR⟩:∃ S0 R,N=S0::R:=by
       cases N with
       | nil=>exact absurd hl3 (by decide)
       | cons a r=>exact⟨a,r,rfl⟩
      have hTM:topF S0 R∈N:=by
       rw [hNR]
       rcases jg R S0 with h | h
       ·rw [h];exact List.mem_cons_self
       ·exact List.mem_cons_of_mem _ h
      obtain⟨k,hk,hkv,hkd⟩:=(HNG.out.each _ hTM).2.2
      have htop:topv N=(k:Int):=by
       rw [hNR,←hkv,zah]
       have h0:=(HNG.out.each S0 (by rw [hNR];exact List.mem_cons_self)).2.2
       obtain⟨k0,-,h0,-⟩:=h0
       show R.foldl _ (max (-1) S0.qv)=_
       rw [show max (-1) S0.qv=S0.qv from by omega]
      rw [htop]
      have CB9:Hid (∀ y,Grew wr y→Calls Tryz.prog 56 #[.agg kc,.int .i64 9,.slice NA N.length nc] y fun e w'=>(∃ B j m,e=.returned (.tuple #[.agg (vqC (k:Int) (Q[k]).qd B m j),.int .i64 0]))∧Grew y w'):=hQ9 (fun y g=>by
       have h:=qB HK0.out 9 NA nc N (by have:=HL5.out;omega) y (HSYY.out y g) (HKAY.out y g) (HNW.out y g) S0 R (by rw [HEN.out,hNR]) (by show(2*(1:Int)+1).toNat≤_;rw [hNR]at hl3;simp at hl3 ⊢;omega)
       rw [HKC.out,hkv,hkd]at h
       exact h.mono fun e w' ⟨⟨B,j,_,e1,_⟩,g2⟩=>⟨⟨B,j,_,e1⟩,g2⟩)
      have hk4:k<4:=by have:=HQL.out;omega
      obtain⟨dd,hdd⟩:∃ d,(Q[k]).qd=d:=⟨_,rfl⟩
      have HCQ:Hid (∀ y,Grew wr y→y.cell? ⟨q9,k*3+1,none⟩=some (.int .u64 (dd:Nat))):=hQ9 (fun y g=>HRQ.out y g k hk 1 _ (by rw [←hdd];rfl))
      rw [hdd]at CB9
      have hmk:=HMK.out wr (zc _)
      clear hl3 hTM hkv hkd htop hdd hNR
      go_wp2_with(with_reducible refine wpList_load_mid rfl 49 (.tmp 8) rfl qk 0 rfl kc.toList _ hmk hkt rfl HSKL.out ?_;simp only [Array.toArray_toList])
      refine(CB9.out wr (zc _)).mono ?_
      clear CB9 hmk
      rintro e x1 ⟨⟨BA,bj,bm,rfl⟩,g1⟩
      have SIV:Hid ((Tryz.prog.info? 38).map (·.size)=some (vqC (k:Int) dd BA bm bj).size):=hQ9 zA
      have HOV:Hid ((vqC (k:Int) dd BA bm bj).all (·.oneCell')=true):=hQ9 (yA _ _ _ _ _)
      obtain⟨x2,hx2,ht2,g2,z2⟩:=zK x1 38 (#[.int .i64 0,.int .u64 0,.slice none 0 0]:Array Value) (vqC (k:Int) dd BA bm bj) rfl
      obtain⟨gv,hgv⟩:∃ g,vqC (k:Int) dd BA bm bj=g:=⟨_,rfl⟩
      rw [hgv]at SIV HOV hx2 ht2 z2 ⊢
      have HX2:=hQ9 hx2
      have HT2:=hQ9 ht2
      have SIZ:Hid ((Tryz.prog.info? 38).map (·.size)=some ((#[.int .i64 0,.int .u64 0,.slice none 0 0]:Array Value)).size):=hQ9 zA
      have HOZ:Hid (((#[.int .i64 0,.int .u64 0,.slice none 0 0]:Array Value)).all (·.oneCell')=true):=hQ9 (by simp [Value.oneCell'])
      have HG12:=hQ9 (ze g1 g2)
      obtain⟨b22,hb22⟩:∃ b,x1.heap.size=b:=⟨_,rfl⟩
      rw [hb22]at z2
      have HB22:=hQ9 hb22
      have HV0:Hid (∀ y,Grew x2 y→y.cell? ⟨b22,0,none⟩=some (.int .i64 (k:Int))∧y.cell? ⟨b22,1,none⟩=some (.int .u64 (dd:Nat))):=hQ9 (fun y g=>⟨ag_at (z2.grew g) 0 (by rw [←hgv];rfl),ag_at (z2.grew g) 1 (by rw [←hgv];rfl)⟩)
      have hmk2:=HMK.out x2 HG12.out
      clear hx2 ht2 g1 g2 z2 hgv hb22
      go_wp2_with(first
       | (with_reducible refine wpList_store_mid rfl 38 (.tmp 22) (.tmp 122) rfl x1.heap.size 0 gv rfl rfl HT2.out SIV.out HOV.out ?_;rw [HX2.out];clear HX2 HT2)
       | (with_reducible refine wpList_load_mid rfl 49 (.tmp 8) rfl qk 0 rfl kc.toList _ hmk2 hkt rfl HSKL.out ?_;simp only [Array.toArray_toList]))
      refine(CB8.out x2 HG12.out).mono ?_
      clear CB8 hmk2
      rintro e x3 ⟨rfl,g3⟩
      rw [HB22.out]
      obtain⟨x4,hx4,ht4,g4,z4⟩:=zK x3 38 (#[.int .i64 0,.int .u64 0,.slice none 0 0]:Array Value) (#[.int .i64 0,.int .u64 0,.slice none 0 0]:Array Value) rfl
      have HX4:=hQ9 hx4
      have HT4:=hQ9 ht4
      have HG4:=hQ9 (ze g3 g4)
      clear hx4 ht4 g3 g4 z4
      go_upto_region 35 with (with_reducible refine wpList_store_mid rfl 38 (.tmp 24) (.tmp 133) rfl x3.heap.size 0 (#[.int .i64 0,.int .u64 0,.slice none 0 0]:Array Value) rfl rfl HT4.out SIZ.out HOZ.out ?_;rw [HX4.out];clear HX4 HT4)
      have d0:∀ y:Gr x4,y.val.cell? ⟨b22,0,none⟩=some (.int .i64 (k:Int)):=fun y=>(HV0.out _ (ze HG4.out y.ok)).1
      have d1:∀ y:Gr x4,y.val.cell? ⟨b22,1,none⟩=some (.int .u64 (dd:Nat)):=fun y=>(HV0.out _ (ze HG4.out y.ok)).2
      have d2:∀ y:Gr x4,y.val.cell? ⟨q9,k*3+1,none⟩=some (.int .u64 (dd:Nat)):=fun y=>HCQ.out _ (ze HG12.out (ze HG4.out y.ok))
      have hk0:(0:Int)≤(k:Int):=by omega
      have hk4i:(k:Int)<4:=by omega
      have e45:decide (k<4)=true:=decide_eq_true hk4
      have e46:decide ((k:Int)<4)=true:=decide_eq_true hk4i
      refine zo (zc _) (by kernel_rfl) (by kernel_rfl) ?_
      go_big_quiet_step (fail)
      repeat (go_big_quiet_step (fail))
      refine wpQuiet_nil ?_
      rintro w8 ⟨⟨w8',g8⟩,rfl⟩
      go_wp2_with fail
      go_ret
      exact⟨rfl,ze HGW.out (ze HG12.out (ze HG4.out g8))⟩
end Go.Proofs.YtidjnnnigcmdpaaGreatDoor
