/- Rows of the reference's votes that grow (mkvrb.py). -/
import Derived.Test.YtidjnnnigcmdpaaGreatDoorJzz
import Derived.Test.YtidjnnnigcmdpaaGreatDoorJbt
import Derived.Test.YtidjnnnigcmdpaaGreatDoorJbp
import Derived.Test.YtidjnnnigcmdpaaGreatDoorJak
import Derived.Test.YtidjnnnigcmdpaaGreatDoorJbn
import Derived.Test.YtidjnnnigcmdpaaGreatDoorJbq
import Derived.Test.YtidjnnnigcmdpaaGreatDoorJbi
set_option maxHeartbeats 8000000
set_option maxRecDepth 100000
set_option linter.unusedSimpArgs false
set_option linter.unusedVariables false
set_option linter.unnecessarySimpa false
namespace Go.Proofs.YtidjnnnigcmdpaaGreatDoor
open Go.RowKit
structure VRowR (B0:Nat) (rv:Value) (M:List VP) (w:World):Prop where
 ok:∀ S∈M,S.ok
 at_:∀ S∈M,S.at w
 ne:SepV rv M
 lo:∀ S∈M,∀ ad,S.A=some ad→S.l=[]∨B0≤ad.block
 row:w.ownsRow B0 75 24 rv M.length (vpL M).flatten
theorem VRowR.nil (B0:Nat) (w:World):VRowR B0 (.slice none 0 0) [] w:=⟨by simp,by simp,fun S hS=>by simp at hS,by simp,World.ownsRow_nil _ _ _ _⟩
theorem VRowR.kp {B0:Nat} {rv:Value} {M:List VP} {w w':World} (h:VRowR B0 rv M w) {P:Nat→Prop} (k:Kp P w w') (h1:∀ g,rv.ownBlock=some g→¬P g) (h2:∀ S∈M,∀ ad,S.A=some ad→S.l=[]∨¬P ad.block):VRowR B0 rv M w' :=
 ⟨h.ok,fun S hS=>yT (h.at_ S hS) k (h2 S hS),h.ne,h.lo,zv h.row k h1⟩
theorem VRowR.grew {B0:Nat} {rv:Value} {M:List VP} {w w':World} (h:VRowR B0 rv M w) (g:Grew w w'):VRowR B0 rv M w':=h.kp (P:=fun _=>False) (zi g) (fun _ _ h=>h) (fun _ _ _ _=>.inr (fun h=>h))
theorem VRowR.key {B0:Nat} {rv:Value} {M:List VP} {w w':World} (h:VRowR B0 rv M w) {b:Nat} (k:Kp (fun j=>j=b) w w') (hb:b<B0):VRowR B0 rv M w' :=
 h.kp k (fun g e (h1:g=b)=>by have:=(zG h.row g e).1;omega) (fun S hS ad e=>(h.lo S hS ad e).imp id (fun h1 (h2:ad.block=b)=>by omega))
theorem VRowR.lt {B0:Nat} {rv:Value} {M:List VP} {w:World} (h:VRowR B0 rv M w):∀ S∈M,∀ ad,S.A=some ad→S.l=[]∨ad.block<w.heap.size:=fun S hS=>ya (h.at_ S hS)
structure OneW (w:World) (B:Nat) (S:VP) (v:Value):Prop where
 out:∃ A c g,v=.slice (some ⟨g,0,none⟩) 1 1∧Ag w g (S.mv A c).C.toList∧(S.mv A c).at w∧B≤g∧(∀ ad,A=some ad→S.l=[]∨B≤ad.block)
theorem OneW.kp {P:Nat→Prop} {w w':World} {B:Nat} {S:VP} {v:Value} (h:OneW w B S v) (k:Kp P w w') (hp:∀ g,P g→g<B):OneW w' B S v:=by
 obtain⟨A,c,g,h1,h2,h3,h4,h5⟩:=h.out
 exact⟨A,c,g,h1,h2.kp k (fun h6=>by have:=hp _ h6;omega),yT h3 k (fun ad e=>(h5 ad e).imp id (fun h6 h7=>by have:=hp _ h7;omega)),h4,h5⟩
theorem OneW.gr {w w':World} {B:Nat} {S:VP} {v:Value} (h:OneW w B S v) (g:Grew w w'):OneW w' B S v:=h.kp (P:=fun _=>False) (zi g) (fun _ h=>h.elim)
structure AppW (w:World) (base:Nat) (r:Value) (N0:Nat) (P:List VP) (S:VP) (v:Value):Prop where
 out:∃ A c,w.ownsRow base 75 24 v (P.length+1) ((vpL P).flatten++(S.mv A c).C.toList)∧(S.mv A c).at w∧(∀ ad,A=some ad→S.l=[]∨N0≤ad.block)∧(v.ownBlock=r.ownBlock∨∃ g,v.ownBlock=some g∧N0≤g)∧(∀ ad,A=some ad→∀ g,v.ownBlock=some g→S.l=[]∨ad.block≠g)
theorem AppW.gr {w w':World} {base:Nat} {r:Value} {N0:Nat} {P:List VP} {S:VP} {v:Value} (h:AppW w base r N0 P S v) (g:Grew w w'):AppW w' base r N0 P S v:=by
 obtain⟨A,c,h1,h2,h3,h4,h5⟩:=h.out
 exact⟨A,c,zv (S:=fun _=>False) h1 (zi g) (fun _ _ h=>h),h2.gr g,h3,h4,h5⟩
theorem AppW.mk' {w z:World} {base:Nat} {r v:Value} {N0:Nat} {P:List VP} {S:VP} {A:Option Addr} {c:Nat} (hat:(S.mv A c).at w) (hlo:∀ ad,A=some ad→S.l=[]∨N0≤ad.block) (hr:∀ g,r.ownBlock=some g→g<N0) (hN:N0≤w.heap.size) (hown:z.ownsRow base 75 24 v (P.length+1) ((vpL P).flatten++(S.mv A c).C.toList)) (hg:w.grownBy z r.ownBlock) (hob:v.ownBlock=r.ownBlock∨v.ownBlock=some w.heap.size):AppW z base r N0 P S v :=
 ⟨A,c,hown,yD hat hg (fun ad e g h=>(hlo ad e).imp id (fun h1=>by have:=hr g h;omega)),hlo,hob.imp id (fun h=>⟨_,h,hN⟩),fun ad e g h=>by
  rcases hob with h1 | h1
  ·rw [h1]at h
   exact(hlo ad e).imp id (fun h2=>by have:=hr g h;omega)
  ·rw [h1]at h
   injection h with h
   exact(ya hat ad e).imp id (fun h2=>by omega)⟩
theorem VRowR.app2 {B0:Nat} {rv rv':Value} {M:List VP} {w y:World} (h:VRowR B0 rv M w) {S:VP} (hS:S.ok) {N0:Nat} (hN:w.heap.size≤N0) (hB:B0≤w.heap.size) (k:Kp (fun j=>rv.ownBlock=some j) w y) (a:AppW y B0 rv N0 M S rv'):∃ A c,VRowR B0 rv' (M++[S.mv A c]) y:=by
 obtain⟨A,c,h1,h2,h3,h4,h5⟩:=a.out
 refine⟨A,c,?_,?_,?_,?_,by rw [List.length_append,yV];exact h1⟩
 ·intro T hT
  rcases List.mem_append.1 hT with h6 | h6
  ·exact h.ok T h6
  ·obtain rfl:T=S.mv A c:=by simpa using h6
   exact VP.mv_ok hS _ _
 ·intro T hT
  rcases List.mem_append.1 hT with h6 | h6
  ·exact yT (h.at_ T h6) k (fun ad e=>by
    by_cases h7:rv.ownBlock=some ad.block
    ·rcases h.ne T h6 ad e _ h7 with h8 | h8
     ·exact .inl h8
     ·exact absurd rfl h8
    ·exact .inr h7)
  ·obtain rfl:T=S.mv A c:=by simpa using h6
   exact h2
 ·intro T hT ad e g hg
  rcases List.mem_append.1 hT with h6 | h6
  ·rcases h4 with h7 | ⟨g',h7,h8⟩
   ·rw [h7]at hg;exact h.ne T h6 ad e g hg
   ·rw [h7]at hg
    injection hg with hg
    exact(h.lt T h6 ad e).imp id (fun h9=>by omega)
  ·obtain rfl:T=S.mv A c:=by simpa using h6
   exact h5 ad e g hg
 ·intro T hT ad e
  rcases List.mem_append.1 hT with h6 | h6
  ·exact h.lo T h6 ad e
  ·obtain rfl:T=S.mv A c:=by simpa using h6
   exact(h3 ad e).imp id (fun h7=>by omega)
theorem zbp:(Tryz.prog.info? 75).map (fun i=>(i.zero,i.size,i.bytes))=some (some (.agg (#[.int .i64 0,.int .u64 0,.int .i64 0,.int .i64 0,.int .i64 0,.int .u64 0,.int .u64 0,.int .u64 0,.int .u64 0,.int .u64 0,.int .u64 0,.int .u64 0,.int .u64 0,.int .u64 0,.int .u64 0,.int .u64 0,.int .u64 0,.int .u64 0,.int .u64 0,.int .u64 0,.int .u64 0,.int .u64 0,.int .u64 0,.slice none 0 0]:Array Value)),24,208):=by kernel_rfl
theorem zjy (S:VP) (hS:S.ok) (w:World) (ha:S.at w) :
 Calls Tryz.prog 106 #[.agg S.C] w fun e w'=>∃ A2 c2,e=.returned (.agg (S.mv A2 c2).C)∧(S.mv A2 c2).at w'∧(∀ ad,A2=some ad→w.heap.size≤ad.block)∧Grew w w' :=
 (zji S.vw S.cm S.who S.sw S.lf S.s S.A S.c S.l (by have:=hS.len;omega) w ha).mono fun e w' ⟨A2,c2,h1,h2,h3,h4⟩=>⟨A2,c2,h1,h2,h4,h3⟩
theorem qC (u:Int) (d:Nat):Tryz.prog.built 28 [(0,.int .i64 u),(1,.int .u64 (d:Nat))]=some (vqC u d none 0 0):=by kernel_rfl
theorem zjz (u:Int) (d:Nat) (A:Option Addr) (k:Nat) (L:List VP) (hl:L.length≤100000) (w:World) (hL:VpsG w A L) :
 Calls Tryz.prog 34 #[.agg (vqC u d A L.length k)] w fun e w'=>(∃ B j N,e=.returned (.agg (vqC u d B L.length j))∧MvV L N∧VpsG w' B N)∧Grew w w':=by
 obtain⟨i0,hinf,hz0,hz1,hz2⟩:=info_parts zbp
 have hus:=Tryz.underlying69
 have hur:=Tryz.underlying28
 have HBU:=hQ9 (qC u d)
 have z1:=(Ag.new w 38 (vqC u d A L.length k)).grew (ze (za _) (.cells (#[.int .i64 0,.int .u64 0,.slice none 0 0]:Array Value) 28))
 have zt:=Ag.new (w.alloc (.cells (vqC u d A L.length k) 38)) 28 (#[.int .i64 0,.int .u64 0,.slice none 0 0]:Array Value)
 rw [zl]at zt
 have G1:=ze (ze (za w) (.cells (vqC u d A L.length k) 38)) (.cells (#[.int .i64 0,.int .u64 0,.slice none 0 0]:Array Value) 28)
 have HSZ:Hid (((w.alloc (.cells (vqC u d A L.length k) 38)).alloc (.cells (#[.int .i64 0,.int .u64 0,.slice none 0 0]:Array Value) 28)).heap.size=w.heap.size+2):=hQ9 (by simp)
 have HLA:=hQ9 (hL.gr G1)
 obtain⟨w1,hw1⟩:∃ v,(w.alloc (.cells (vqC u d A L.length k) 38)).alloc (.cells (#[.int .i64 0,.int .u64 0,.slice none 0 0]:Array Value) 28)=v:=⟨_,rfl⟩
 rw [hw1]at z1 zt G1 HSZ HLA
 have c0:w1.cell? ⟨w.heap.size,0,none⟩=some (.int .i64 u):=by simpa using z1.cell 0 _ rfl
 have c1:w1.cell? ⟨w.heap.size,1,none⟩=some (.int .u64 (d:Nat)):=by simpa using z1.cell 1 _ rfl
 obtain⟨gz,hgz⟩:∃ g,vqC u d none 0 0=g:=⟨_,rfl⟩
 have HGZ:=hQ9 hgz
 obtain⟨w2,hw2,ht2,g2,z2⟩:=zU w1 28 (#[.int .i64 0,.int .u64 0,.slice none 0 0]:Array Value) gz (by rw [←hgz];rfl)
 have HW2:=hQ9 hw2
 have HT2:=hQ9 ht2
 have HW1:=hQ9 hw1
 have SIZ:Hid ((Tryz.prog.info? 28).map (·.size)=some gz.size):=hQ9 (by rw [←hgz];exact zQ)
 have HOZ:Hid (gz.all (·.oneCell')=true):=hQ9 (by rw [←hgz];exact yl _ _ _ _ _)
 rw [hgz]at HBU
 have HZ1:=hQ9 z1
 have HZT:=hQ9 zt
 have HG2S:=hQ9 g2
 have y2:Ag w2 w1.heap.size [.int .i64 u,.int .u64 (d:Nat),.slice none 0 0]:=by rw [←hgz]at z2;exact z2
 have HLL:=hQ9 hl
 have HG12:=hQ9 G1
 have HL2:=hQ9 HLA.out
 clear hw1 hw2 ht2 hgz z1 zt z2 G1 g2 hL hl HLA
 go_enter Tryz.func34,Tryz.ntmps34
 go_upto_region 1 with fail
 rw [HW1.out]
 clear HW1
 obtain⟨B0,hB0⟩:∃ b,w2.heap.size=b:=⟨_,rfl⟩
 obtain⟨q3,hq3⟩:∃ b,w1.heap.size=b:=⟨_,rfl⟩
 have HQ3:Hid (q3=w.heap.size+2):=hQ9 (by have:=HSZ.out;omega)
 have HQB:Hid (q3<B0):=hQ9 (by have:=y2.lt;omega)
 have HB0E:=hQ9 hB0
 have HQ3E:=hQ9 hq3
 clear hB0 hq3
 go_wp2_with(first
  | (with_reducible refine zA rfl 28 #[(0,.tmp 6),(1,.tmp 8)] rfl gz ?_ ?_;· simpa [Act.eval,Act.put]using HBU.out)
  | (with_reducible refine wpList_store_mid rfl 28 (.tmp 3) (.tmp 9) rfl w1.heap.size 0 gz rfl rfl HT2.out SIZ.out HOZ.out ?_;rw [HW2.out];clear HW2 HT2))
 rw [HQ3E.out]at y2 ⊢
 have HBE:=HB0E
 clear c0 c1
 go_loopw [4] (fun iv wr=>∃(i:Nat) (M:List VP) (A5:Option Addr) (c5:Nat),i≤L.length∧iv=.int .i64 (i:Int)∧MvV (L.take i) M∧VRowR B0 (.slice A5 i c5) M wr∧Ag wr q3 [.int .i64 u,.int .u64 (d:Nat),.slice A5 i c5]∧B0≤wr.heap.size∧Grew w1 wr) (fun iv _=>L.length-(Go.RowKit.intOf iv).toNat)
 case atStart=>exact⟨0,[],none,0,Nat.zero_le _,rfl,by simpa using MvV.nil,VRowR.nil _ _,y2,by rw [HBE.out];exact Nat.le_refl _,HG2S.out⟩
 case round =>
  obtain⟨i,M,A5,c5,hil,rfl,hmv,hvr,hq3,hB,hg2⟩:=hrel
  have hml:M.length=i:=by rw [hmv.len,List.length_take];omega
  have hzr:=HZ1.out.grew hg2
  have hcq:wr.cell? ⟨w.heap.size,2,none⟩=some (.slice A L.length k):=by simpa using hzr.cell 2 _ rfl
  by_cases hlt:i<L.length
  rotate_left
  ·obtain rfl:i=L.length:=by omega
   rw [List.take_length]at hmv
   have HMVF:=hQ9 hmv
   obtain⟨gr,hgr⟩:∃ g,vqC u d A5 L.length c5=g:=⟨_,rfl⟩
   have HGR:=hQ9 hgr
   have z3:Ag wr q3 gr.toList:=by rw [←hgr];exact hq3
   have hm3:=z3.cell
   have SIR:Hid ((Tryz.prog.info? 28).map (·.size)=some gr.size):=hQ9 (by rw [←hgr];exact zQ)
   have SIRL:Hid ((Tryz.prog.info? 28).map (·.size)=some gr.toList.length):=hQ9 (by rw [←hgr];exact zQ)
   have HOR:Hid (gr.all (·.oneCell')=true):=hQ9 (by rw [←hgr];exact yl _ _ _ _ _)
   have hg3:gr.size=3:=by rw [←hgr];rfl
   have zt:=HZT.out.grew hg2
   have HTH:Hid (wr.there (w.heap.size+1) 0 gr.size):=hQ9 (by rw [hg3];exact zt.thereN 3 rfl)
   have z9:=Ag.set (vs:=gr.toList) zt (by rw [Array.length_toList,hg3];rfl)
   have k9:=zu gr.toList (w.heap.size+1) 0 wr
   obtain⟨A7,c7,e7,hrd,-,-,hbb⟩:=yB hvr.row rfl
   rw [hml]at e7
   have HVG:Hid (VpsG (wr.setCells (w.heap.size+1) 0 gr.toList) A5 M):=hQ9 (by
    have e8:A5=A7:=by injection e7
    rw [e8]
    have hq3':=HQ3.out
    have hqb:=HQB.out
    refine Vps.G ⟨hrd.kp k9 (fun q e (h:q=w.heap.size+1)=>by have:=(hbb _ e).1;have h3:B0≤q:=this;omega),hvr.ok,fun T hT=>yT (hvr.at_ T hT) k9 (fun ad e=>(hvr.lo T hT ad e).imp id (fun h1 (h2:ad.block=w.heap.size+1)=>by omega))⟩)
   have GF:=zj (o:=0) (b:=w.heap.size+1) gr.toList (zc HG12.out hg2) (by omega)
   have HML:=hQ9 hml
   clear hlt hil hmv hvr hq3 hB hg2 zt z3 k9 hzr hgr hg3 e7 hrd hbb hml
   go_wp2_with(first
    | (with_reducible refine wpList_load_mid rfl 28 (.tmp 3) rfl q3 0 rfl gr.toList _ hm3 hur rfl SIRL.out ?_;simp only [Array.toArray_toList])
    | (with_reducible refine wpList_store_mid rfl 28 (.tmp 2) (.tmp 28) rfl (w.heap.size+1) 0 gr rfl rfl HTH.out SIR.out HOR.out ?_))
   refine bodyPost_ret (zT Tryz.results34 _ _ (w.heap.size+1) _ _ rfl z9 hur rfl SIRL.out) rfl ⟨?_,GF⟩
   have hv9:Ending.returned (.agg gr.toList.toArray)=.returned (.agg (vqC u d A5 L.length c5)):=by rw [HGR.out,Array.toArray_toList]
   exact⟨A5,c5,M,hv9,HMVF.out,HVG.out⟩
  have h1:(i:Int)<(L.length:Int):=by omega
  have h0:(0:Int)≤(i:Int):=by omega
  have hl9:=HLL.out
  have e9i:IntKind.i64.wrap ((i:Int)+1)=((i+1:Nat):Int):=by rw [IntWalk.i64_in _ (by omega)];omega
  have HLW:=hQ9 (HL2.out.gr hg2)
  obtain⟨ad,hA,hql,hr⟩:=HLW.out.rd i hlt
  have hts:L.take (i+1)=L.take i++[L[i]]:=by rw [List.take_succ_eq_append_getElem hlt]
  have HTS:=hQ9 hts
  have HSOK:Hid L[i].ok:=hQ9 (HLW.out.ok _ (List.getElem_mem hlt))
  have hat:=HLW.out.at_ _ (List.getElem_mem hlt)
  have HPB:Hid (∀ ad,L[i].A=some ad→L[i].l=[]∨ad.block<w1.heap.size):=hQ9 (ya (HL2.out.at_ _ (List.getElem_mem hlt)))
  subst hA
  clear hts HLW
  have HLO:=hQ9 (zG hvr.row)
  have HOB:Hid (∀ g,(Value.slice A5 i c5).ownBlock=some g→g<wr.heap.size):=hQ9 (fun g h=>(HLO.out g h).2)
  have HSB:Hid (∀ g,(fun j=>(Value.slice A5 i c5).ownBlock=some j) g→g<wr.heap.size):=hQ9 (fun g h=>(HLO.out g h).2)
  have HADB:Hid (ad.block<w1.heap.size):=hQ9 (by
   obtain⟨ad2,e2,h3,_⟩:=HL2.out.rd i hlt
   cases e2;exact h3)
  generalize L[i]=S at *
  have HMV:=hQ9 hmv
  have HVR:=hQ9 hvr
  have HQZ:=hQ9 hq3
  have HB0:=hQ9 hB
  have HG2:=hQ9 hg2
  have HML:=hQ9 hml
  have HI:Hid (i<L.length):=hQ9 hlt
  have HRW:Hid (wr.ownsRow B0 75 24 (.slice A5 i c5) i (vpL M).flatten):=hQ9 (by have:=hvr.row;rwa [hml]at this)
  have SIS:Hid ((Tryz.prog.info? 69).map (·.size)=some S.C.toList.length):=hQ9 zF
  have HNQ:Hid (∀ b,b<B0→¬(fun j=>(Value.slice A5 i c5).ownBlock=some j) b):=hQ9 (fun b hb h=>by have:=(HLO.out b h).1;omega)
  have HCY:Hid (∀ y,Kp (fun j=>(Value.slice A5 i c5).ownBlock=some j) wr y→y.cell? ⟨q3,2,none⟩=some (.slice A5 i c5)):=hQ9 (fun y k=>by simpa using (HQZ.out.kp k (HNQ.out _ HQB.out)).cell 2 _ rfl)
  have HCQ:Hid (∀ y,Kp (fun j=>(Value.slice A5 i c5).ownBlock=some j) wr y→y.cell? ⟨w.heap.size,2,none⟩=some (.slice (some ad) L.length k)):=hQ9 (fun y k=>(World.cell?_of_block (k.block w.heap.size (zW hcq) (HNQ.out _ (by have:=HQB.out;have:=HQ3.out;omega)))).trans hcq)
  have HRY:Hid (∀ y,Kp (fun j=>(Value.slice A5 i c5).ownBlock=some j) wr y→∀ j v,S.C.toList[j]?=some v→y.cell? ((ad.add (i*24)).add j)=some v):=hQ9 (fun y k j v hj=>(World.cell?_of_block (by rw [zo,zo];exact k.block ad.block hql (HNQ.out _ (by have:=HADB.out;have:=HQ3E.out;have:=HQB.out;omega)))).trans (hr j v hj))
  have CO:Hid (∀ y,Kp (fun j=>(Value.slice A5 i c5).ownBlock=some j) wr y→Calls Tryz.prog 106 #[.agg S.C] y fun e w'=>∃ A2 c2,e=.returned (.agg (S.mv A2 c2).C)∧(S.mv A2 c2).at w'∧(∀ ad,A2=some ad→y.heap.size≤ad.block)∧Grew y w'):=hQ9 (fun y k9=>zjy S HSOK.out y (yT hat k9 (fun ad2 e2=>(HPB.out ad2 e2).imp id (fun h3=>HNQ.out _ (by have:=HQ3E.out;have:=HQB.out;omega)))))
  clear hmv hvr hq3 hB hg2 hml hlt hil hzr hr hql hat
  go_upto_region 5 with fail
  refine xt 11 9 (fun j=>(Value.slice A5 i c5).ownBlock=some j) (fun ix9=>match ix9 with
   | 0=>fun v _=>v=.pointer (some ⟨q3,2,none⟩)
   | 1=>fun v _=>v=.slice A5 i c5
   | 2=>fun v _=>v=.pointer (some ⟨w.heap.size,2,none⟩)
   | 3=>fun v _=>v=.slice (some ad) L.length k
   | 4=>fun v _=>v=.int .i64 (i:Int)
   | 5=>fun v _=>v=.pointer (some (ad.add (i*24)))
   | 6=>fun v _=>v=.agg S.C
   | 7=>fun _ _=>True
   | 8=>fun _ _=>True
   | 9=>fun v W=>AppW W B0 (.slice A5 i c5) wr.heap.size M S v
   | 10=>fun v _=>v=.pointer (some ⟨q3,2,none⟩)
   | _=>fun _ _=>True) (fun ix9=>match ix9 with
   | 7=>fun lo hi v w=>MkVo w wr.heap.size S lo hi v (fun A c=>.agg (S.mv A c).C)
   | 8=>fun lo hi v w=>OneW w wr.heap.size S v
   | 9=>fun _ _ _ _=>True
   | _=>fun _ _ _ _=>True) (fun ix9=>match ix9 with
   | 8=>7
   | 9=>8
   | ix8=>ix8) (fun ix9=>match ix9 with
   | 8=>7
   | 9=>7
   | ix8=>ix8) (by kernel_rfl) (by kernel_rfl) (by kernel_rfl) ?_ ?_ ?_ ?_ ?_
  ·intro i v x y h hg
   match i,h with
   | 0,h | 1,h | 2,h | 3,h | 4,h | 5,h | 6,h | 10,h=>exact h
   | 7,h=>exact h
   | 8,h=>exact h
   | 9,h=>exact AppW.gr h hg
   | m+11,_=>trivial
  ·intro i v x y hne hx h hg
   match i,h with
   | 0,h | 1,h | 2,h | 3,h | 4,h | 5,h | 6,h | 10,h=>exact h
   | 7,h=>exact h
   | 8,h=>exact h
   | 9,h=>exact absurd rfl hne
   | m+11,_=>trivial
  ·simp only [actOf,tk1,tk0,dr1,dr0,Act.put,si1,st1,st0,Nat.reduceAdd]
   refine⟨?_,?_,?_,?_,?_,?_,?_,?_,?_,?_,?_,trivial⟩
   ·intro vs lo hi y hg hd hvia
    replace hg:Kp (fun j=>(Value.slice A5 i c5).ownBlock=some j) wr y:=hg
    clear hvia
    dsimp only
    go_wp2_with fail
    first | exact⟨rfl,_,rfl,za _,rfl⟩ | exact⟨rfl,_,rfl,za _,rfl,trivial⟩
   ·intro vs lo hi y hg hd hvia
    replace hg:Kp (fun j=>(Value.slice A5 i c5).ownBlock=some j) wr y:=hg
    obtain⟨h0,_⟩:=hd
    replace h0:=h0 rfl
    clear hvia
    dsimp only
    rw [show vs 0=_ from h0]
    have hc:=HCY.out y hg
    go_wp2_with fail
    first | exact⟨rfl,_,rfl,za _,rfl⟩ | exact⟨rfl,_,rfl,za _,rfl,trivial⟩
   ·intro vs lo hi y hg hd hvia
    replace hg:Kp (fun j=>(Value.slice A5 i c5).ownBlock=some j) wr y:=hg
    clear hvia
    dsimp only
    go_wp2_with fail
    first | exact⟨rfl,_,rfl,za _,rfl⟩ | exact⟨rfl,_,rfl,za _,rfl,trivial⟩
   ·intro vs lo hi y hg hd hvia
    replace hg:Kp (fun j=>(Value.slice A5 i c5).ownBlock=some j) wr y:=hg
    obtain⟨h2,_⟩:=hd
    replace h2:=h2 rfl
    clear hvia
    dsimp only
    rw [show vs 2=_ from h2]
    have hc:=HCQ.out y hg
    go_wp2_with fail
    first | exact⟨rfl,_,rfl,za _,rfl⟩ | exact⟨rfl,_,rfl,za _,rfl,trivial⟩
   ·intro vs lo hi y hg hd hvia
    replace hg:Kp (fun j=>(Value.slice A5 i c5).ownBlock=some j) wr y:=hg
    clear hvia
    dsimp only
    go_wp2_with fail
    first | exact⟨rfl,_,rfl,za _,rfl⟩ | exact⟨rfl,_,rfl,za _,rfl,trivial⟩
   ·intro vs lo hi y hg hd hvia
    replace hg:Kp (fun j=>(Value.slice A5 i c5).ownBlock=some j) wr y:=hg
    obtain⟨h3,h4,_⟩:=hd
    replace h3:=h3 rfl
    replace h4:=h4 rfl
    clear hvia
    dsimp only
    rw [show vs 3=_ from h3,show vs 4=_ from h4]
    go_wp2_with fail
    first | exact⟨rfl,_,rfl,za _,rfl⟩ | exact⟨rfl,_,rfl,za _,rfl,trivial⟩
   ·intro vs lo hi y hg hd hvia
    replace hg:Kp (fun j=>(Value.slice A5 i c5).ownBlock=some j) wr y:=hg
    obtain⟨h5,_⟩:=hd
    replace h5:=h5 rfl
    clear hvia
    dsimp only
    rw [show vs 5=_ from h5]
    have hm:=HRY.out y hg
    go_wp2_with(with_reducible refine zL rfl 69 (.tmp 22) rfl (ad.add (i*24)) rfl S.C.toList _ hm hus rfl SIS.out ?_;simp only [Array.toArray_toList])
    first | exact⟨rfl,_,rfl,za _,rfl⟩ | exact⟨rfl,_,rfl,za _,rfl,trivial⟩
   ·intro vs lo hi y hg hd hvia
    replace hg:Kp (fun j=>(Value.slice A5 i c5).ownBlock=some j) wr y:=hg
    obtain⟨h6,_⟩:=hd
    replace h6:=h6 rfl
    clear hvia
    dsimp only
    rw [show vs 6=_ from h6]
    go_wp2_with(go_at_call 106;refine(CO.out y hg).mono ?_;rintro e z ⟨A9,c9,rfl,hat9,hfr9,gz9⟩)
    exact⟨rfl,_,rfl,gz9,trivial,⟨A9,c9,rfl,hat9,hg.size,fun ad h=>(ya hat9 ad h).imp id (fun h2=>⟨hfr9 ad h,h2⟩)⟩⟩
   ·intro vs lo hi y hg hd hvia
    replace hg:Kp (fun j=>(Value.slice A5 i c5).ownBlock=some j) wr y:=hg
    obtain⟨h7,_⟩:=hd
    replace h7:=h7 rfl
    have hv9:(fun lo hi v w=>MkVo w wr.heap.size S lo hi v (fun A c=>.agg (S.mv A c).C)) (lo 7) (hi 7) (vs 7) y:=hvia rfl
    clear hvia
    dsimp only
    obtain⟨A9,c9,e9,hat9,hB9,hr9⟩:=MkVo.out hv9
    rw [e9]
    have hgs24:(S.mv A9 c9).C.size=24:=rfl
    go_wp2_with fail
    rw [xk]
    exact⟨rfl,_,rfl,ze (za _) _,⟨A9,c9,y.heap.size,rfl,Ag.new y 75 (S.mv A9 c9).C,hat9.gr (ze (za _) _),hg.size,fun ad h=>(hr9 ad h).imp id (fun h2=>by omega)⟩⟩
   ·intro vs lo hi y hg hd hvia
    replace hg:Grew wr y:=hg
    obtain⟨h1,h8,_⟩:=hd
    replace h1:=h1 rfl
    replace h8:=h8 rfl
    have hv9:(fun lo hi v w=>OneW w wr.heap.size S v) (lo 8) (hi 8) (vs 8) y:=hvia rfl
    clear hvia
    dsimp only
    rw [show vs 1=_ from h1]
    obtain⟨A9,c9,g9,e9,hz9,hat9,hb9,hr9⟩:=OneW.out hv9
    rw [e9]
    have hry:=HRW.out
    have hpl9:=HI.out
    have hll9:=HLL.out
    have hgs9:=hg.size
    have hb09:=HB0.out
    have hcl9:(S.mv A9 c9).C.toList.length=1*24:=rfl
    refine zX _ rfl (.tmp 18) (.tmp 25) 26 rfl B0 75 i0 (.agg (#[.int .i64 0,.int .u64 0,.int .i64 0,.int .i64 0,.int .i64 0,.int .u64 0,.int .u64 0,.int .u64 0,.int .u64 0,.int .u64 0,.int .u64 0,.int .u64 0,.int .u64 0,.int .u64 0,.int .u64 0,.int .u64 0,.int .u64 0,.int .u64 0,.int .u64 0,.int .u64 0,.int .u64 0,.int .u64 0,.int .u64 0,.slice none 0 0]:Array Value)) 24 208 Tryz.underlying26 hinf hz0 hz1 hz2 rfl (by decide) _ _ _ rfl (zv (S:=fun _=>False) hry (zi hg) (fun g _ h=>h)) ⟨g9,0,none⟩ 1 1 (S.mv A9 c9).C.toList rfl hcl9 (fun j u hj=>by rw [add0];simpa using hz9.cell j u hj) (S.mv A9 c9).one' (by unfold maxLen;omega) (by omega) (by omega) ?_
    intro va z hva hga hoa
    go_wp2_with fail
    have hap:AppW z B0 (.slice A5 i c5) wr.heap.size M S va:=AppW.mk' hat9 hr9 HOB.out hg.size (by rw [HML.out];exact hva) hga hoa
    first | exact⟨rfl,_,rfl,yC (zI _ y) hga (fun g e=>.inl e),hap,trivial⟩ | exact⟨rfl,_,rfl,yC (zI _ y) hga (fun g e=>.inl e),hap⟩
   ·intro vs lo hi y hg hd hvia
    replace hg:Kp (fun j=>(Value.slice A5 i c5).ownBlock=some j) wr y:=hg
    clear hvia
    dsimp only
    go_wp2_with fail
    first | exact⟨rfl,_,rfl,za _,rfl⟩ | exact⟨rfl,_,rfl,za _,rfl,trivial⟩
  ·intro i lo hi v x y hx h hg
   match i,h with
   | 7,h=>exact MkVo.kp h hg HSB.out
   | 8,h=>exact OneW.kp h hg HSB.out
   | 9,_=>trivial
   | 0,_=>trivial
   | 1,_=>trivial
   | 2,_=>trivial
   | 3,_=>trivial
   | 4,_=>trivial
   | 5,_=>trivial
   | 6,_=>trivial
   | m+10,_=>trivial
  ·intro vs lo hi w5 hg hJ hK hB hD
   replace hg:Kp (fun j=>(Value.slice A5 i c5).ownBlock=some j) wr w5:=hg
   have k24:=hK 7 (by decide)
   have b24:=hB 7 (by decide)
   have k25:=hK 8 (by decide)
   have b25:=hB 8 (by decide)
   have k26:=hK 9 (by decide)
   have b26:=hB 9 (by decide)
   clear hK hB hD
   have j0:vs 0=.pointer (some ⟨q3,2,none⟩):=hJ 0 (by decide)
   have j1:vs 1=.slice A5 i c5:=hJ 1 (by decide)
   have j2:vs 2=.pointer (some ⟨w.heap.size,2,none⟩):=hJ 2 (by decide)
   have j3:vs 3=.slice (some ad) L.length k:=hJ 3 (by decide)
   have j4:vs 4=.int .i64 (i:Int):=hJ 4 (by decide)
   have j5:vs 5=.pointer (some (ad.add (i*24))):=hJ 5 (by decide)
   have j6:vs 6=.agg S.C:=hJ 6 (by decide)
   have j10:vs 10=.pointer (some ⟨q3,2,none⟩):=hJ 10 (by decide)
   have s24:=hJ 7 (by decide)
   have s25:=hJ 8 (by decide)
   have s26:=hJ 9 (by decide)
   clear hJ
   simp only [actOf,tk1,tk0,dr1,dr0,Act.put,si1,st1,st0,Nat.reduceAdd]
   obtain⟨A9,c9,hvr9⟩:=VRowR.app2 HVR.out HSOK.out (Nat.le_refl _) HB0.out hg s26
   obtain⟨A6,c6,e6,-,-,-,-⟩:=yB hvr9.row rfl
   have hl1:(M++[S.mv A9 c9]).length=i+1:=by rw [List.length_append,HML.out];rfl
   rw [hl1]at e6
   rw [e6]at hvr9
   rw [show vs 10=_ from j10,e6]
   have hzq:=HQZ.out.kp hg (HNQ.out _ HQB.out)
   have hc7:w5.cell? ⟨q3,2,none⟩=some (.slice A5 i c5):=by simpa using hzq.cell 2 _ rfl
   have fc7:w5.frozen? ⟨q3,2,none⟩=false:=by simpa using (hzq.there 2 (by show 2<3;decide)).2
   have K8:=xF (S:=fun j=>j=q3) (zI _ w5) (p:=⟨q3,2,none⟩) (.inl rfl) (.slice A6 (i+1) c6)
   have HZQ7:=hQ9 (Ag.set1 hzq 2 (.slice A6 (i+1) c6) (by show 2<3;decide))
   have HVR9:=hQ9 hvr9
   have HK8:=hQ9 K8
   have HKG:=hQ9 hg
   have HMV9:Hid (MvV (L.take (i+1)) (M++[S.mv A9 c9])):=hQ9 (by rw [HTS.out];exact HMV.out.snoc S A9 c9)
   clear hvr9 hzq K8 hg s24 s25 s26 k24 k25 k26 b24 b25 b26 j0 j1 j2 j3 j4 j5 j6 j10 e6 hl1
   go_wp2_with fail
   go_roundw
   case rel =>
    refine⟨i+1,M++[S.mv A9 c9],A6,c6,HI.out,by go_num,HMV9.out,?_,HZQ7.out,?_,?_⟩
    ·exact HVR9.out.kp HK8.out (fun g e h=>by have h1:g=q3:=h;have:=(zG HVR9.out.row g e).1;have:=HQB.out;omega) (fun T hT ad e=>(HVR9.out.lo T hT ad e).imp id (fun h2 (h3:ad.block=q3)=>by have:=HQB.out;omega))
    ·have:=HKG.out.size;have:=HK8.out.size;have:=HB0.out;omega
    ·have g5:=zK HG2.out HKG.out HG2.out.size (fun g h=>by have:=(HLO.out g h).1;have:=HQ3E.out;have:=HQB.out;omega)
     exact zK g5 HK8.out g5.size (fun g e=>by have e1:g=q3:=e;have:=HQ3E.out;omega)
   case measure=>have:=HI.out;simp [Go.RowKit.intOf]<;>omega
structure AppV (w:World) (base:Nat) (r:Value) (N0 n:Nat) (xs:List Value) (v:Value):Prop where
 own:w.ownsRow base 75 24 v n xs
 blk:v.ownBlock=r.ownBlock∨∃ g,v.ownBlock=some g∧N0≤g
theorem AppV.gr {w w':World} {base:Nat} {r:Value} {N0 n:Nat} {xs:List Value} {v:Value} (h:AppV w base r N0 n xs v) (g:Grew w w'):AppV w' base r N0 n xs v:=⟨zv (S:=fun _=>False) h.own (zi g) (fun _ _ h=>h),h.blk⟩
structure VaO (K:KP) (u:Int) (d:Nat) (L:List VP) (w:World) (v:Value):Prop where
 out:(enoughV K u d L=false∧v=.tuple #[.agg (#[.int .i64 0,.int .u64 0,.slice none 0 0]:Array Value),.int .i64 8])∨(enoughV K u d L=true∧∃ D j,v=.tuple #[.agg (vqC u d D (chosenV K u d L).length j),.int .i64 0]∧Vps w D (chosenV K u d L))
theorem zif:Tryz.prog.built 28 []=some (#[.int .i64 0,.int .u64 0,.slice none 0 0]:Array Value):=by kernel_rfl
theorem zch {K:KP} (hK:K.ok) (u:Int) (d:Nat) (A:Option Addr) (cap:Nat) (L:List VP) (hl:L.length≤100000) (w:World) (hS:Std w) (hk:K.at w) (hL:VpsG w A L) :
 Calls Tryz.prog 32 #[.agg K.C,.int .i64 u,.int .u64 (d:Nat),.slice A L.length cap] w fun e w'=>VaO K u d L w' (match e with | .returned v=>v | _=>undef)∧(∃ v,e=.returned v)∧Grew w w':=by
 have huk:=Tryz.underlying24
 have hut:=Tryz.underlying28
 have hus:=Tryz.underlying75
 have SIK:Hid ((Tryz.prog.info? 24).map (·.size)=some K.C.toList.length):=hQ9 qM
 have z0:=(Ag.new w 24 K.C).grew (ze (za _) (.cells ((#[.int .i64 0,.int .u64 0,.slice none 0 0]:Array Value)) 28))
 have z2:=Ag.new (w.alloc (.cells K.C 24)) 28 ((#[.int .i64 0,.int .u64 0,.slice none 0 0]:Array Value))
 rw [zl]at z2
 have G3:=ze (ze (za w) (.cells K.C 24)) (.cells ((#[.int .i64 0,.int .u64 0,.slice none 0 0]:Array Value)) 28)
 have HKA:=hQ9 hk
 have HLA:=hQ9 hL
 have HSS:=hQ9 hS
 have hbz:=zif
 have bz:∀ W,(Instr.build 28 #[]).run Tryz.prog W=.ok (.agg ((#[.int .i64 0,.int .u64 0,.slice none 0 0]:Array Value))) W:=fun W=>run_build W 28 _ _ hbz
 have HSI:Hid ((Tryz.prog.info? 28).map (·.size)=some ((#[.int .i64 0,.int .u64 0,.slice none 0 0]:Array Value)).size):=hQ9 zQ
 have HON:Hid (((#[.int .i64 0,.int .u64 0,.slice none 0 0]:Array Value)).all (·.oneCell')=true):=hQ9 (by simp [Value.oneCell'])
 have HRF:Hid (enoughV K u d L=false→∀ w' v,v=.tuple #[.agg (#[.int .i64 0,.int .u64 0,.slice none 0 0]:Array Value),.int .i64 8]→VaO K u d L w' v):=hQ9 (fun h w' v hv=>⟨.inl ⟨h,hv⟩⟩)
 have HRO:Hid (enoughV K u d L=true→∀ w' v E j,v=.tuple #[.agg (vqC u d E (chosenV K u d L).length j),.int .i64 0]→Vps w' E (chosenV K u d L)→VaO K u d L w' v):=hQ9 (fun h w' v E j hv ha=>⟨.inr ⟨h,E,j,hv,ha⟩⟩)
 have hf:=hK.f
 have HK:=hQ9 hK
 have HLL:=hQ9 hl
 have CN:Hid (∀ W,Calls Tryz.prog 69 #[.int .i64 K.f] W fun e w'=>e=.returned (.int .i64 (3*K.f+1))∧Grew W w'):=hQ9 (fun W=>(rn_ok K.f (by omega) W).mono (by rintro e z ⟨rfl,rfl⟩;exact⟨rfl,za _⟩))
 have CQ:Hid (∀ W,Calls Tryz.prog 79 #[.int .i64 K.f] W fun e w'=>e=.returned (.int .i64 (2*K.f+1))∧Grew W w'):=hQ9 (fun W=>(rq_ok K.f (by omega) W).mono (by rintro e z ⟨rfl,rfl⟩;exact⟨rfl,za _⟩))
 have HF:=hQ9 hf
 obtain⟨w3,hw3⟩:∃ v,(w.alloc (.cells K.C 24)).alloc (.cells ((#[.int .i64 0,.int .u64 0,.slice none 0 0]:Array Value)) 28)=v:=⟨_,rfl⟩
 rw [hw3]at z0 z2 G3
 have HW3:=hQ9 hw3
 have HQW:Hid (w.heap.size+2≤w3.heap.size):=hQ9 (by have:=z2.lt;omega)
 obtain⟨w4,hw4,ht4,g4,z4⟩:=zU w3 28 ((#[.int .i64 0,.int .u64 0,.slice none 0 0]:Array Value)) (vqC u d none 0 0) rfl
 have HW4:=hQ9 hw4
 have HT4:=hQ9 ht4
 have SI4:Hid ((Tryz.prog.info? 28).map (·.size)=some (vqC u d none 0 0).size):=hQ9 zQ
 have HO4:=hQ9 (yl u d none 0 0)
 have HBU:=hQ9 (qC u d)
 have z0:=z0.grew g4
 have z2:=z2.grew g4
 have G4:=zc G3 g4
 have HQL:Hid (w3.heap.size<w4.heap.size):=hQ9 z4.lt
 clear hw3 hw4 ht4 G3 hf hK hl hk hL hS hbz
 go_enter Tryz.func32,Tryz.ntmps32
 go_upto_region 1 with fail
 rw [HW3.out]
 clear HW3
 go_wp2_with(first
  | (with_reducible refine zA rfl 28 #[(0,.tmp 13),(1,.tmp 14)] rfl (vqC u d none 0 0) ?_ ?_;· simpa [Act.eval,Act.put]using HBU.out)
  | (with_reducible refine wpList_store_mid rfl 28 (.tmp 10) (.tmp 15) rfl w3.heap.size 0 (vqC u d none 0 0) rfl rfl HT4.out SI4.out HO4.out ?_;rw [HW4.out]))
 clear HT4 HW4 SI4 HO4 HBU g4
 obtain⟨q,hq⟩:∃ q,w3.heap.size=q:=⟨_,rfl⟩
 rw [hq]at z4 HQL HQW ⊢
 clear hq
 obtain⟨N,hN⟩:∃ n:Nat,(3*K.f+1).toNat=n:=⟨_,rfl⟩
 obtain⟨Q,hQ⟩:∃ n:Nat,(2*K.f+1).toNat=n:=⟨_,rfl⟩
 have eN:3*K.f+1=(N:Int):=by have:=HF.out;omega
 have eQ:2*K.f+1=(Q:Int):=by have:=HF.out;omega
 have HEN:=hQ9 eN
 have HN:=hQ9 hN
 have HQ:=hQ9 hQ
 rw [eN]at CN
 rw [eQ]at CQ
 obtain⟨i0,hinf,hz0,hz1,hz2⟩:=info_parts zbp
 clear eN eQ hN hQ
 go_loopw [11] (fun vv wr=>∃(v:Nat) (R:Value),v≤N∧vv=.int .i64 (v:Int)∧wr.ownsRow (q+1) 75 24 R (vpkS K u d L v).length (vpL (vpkS K u d L v)).flatten∧Ag wr q [.int .i64 u,.int .u64 (d:Nat),R]∧Ag wr w.heap.size K.C.toList∧Ag wr (w.heap.size+1) ((#[.int .i64 0,.int .u64 0,.slice none 0 0]:Array Value)).toList∧Grew w wr∧q<wr.heap.size) (fun vv _=>N-(Go.RowKit.intOf vv).toNat)
 case atStart=>exact⟨0,.slice none 0 0,Nat.zero_le _,rfl,World.ownsRow_nil _ _ _ _,z4,z0,z2,G4,HQL.out⟩
 case round =>
  clear z4 z0 z2 G4
  obtain⟨v,R,hv,rfl,hrow,zq,zk,zz,hg,hqs⟩:=hrel
  have hPl:=zid K u d L v
  rw [HQ.out]at hPl
  have HPL:=hQ9 hPl
  obtain⟨P,hP⟩:∃ P,vpkS K u d L v=P:=⟨_,rfl⟩
  rw [hP]at hrow hPl HPL
  have HP:=hQ9 hP
  obtain⟨B,pc,hR,-,-,hpm,-⟩:=yB hrow rfl
  subst hR
  have hcR:wr.cell? ⟨q,2,none⟩=some (.slice B P.length pc):=by simpa using zq.cell 2 _ rfl
  have hcF:wr.cell? ⟨w.heap.size,0,none⟩=some (.int .i64 K.f):=by simpa using zk.cell 0 _ rfl
  have HZQ:=hQ9 zq
  have HZK:=hQ9 zk
  have HZZ:=hQ9 zz
  have HG:=hQ9 hg
  have HROW:=hQ9 hrow
  have HQS:=hQ9 hqs
  have YR:∀ y:Gr wr,y.val.cell? ⟨q,2,none⟩=some (.slice B P.length pc):=fun y=>zx hcR y.ok
  have YF:∀ y:Gr wr,y.val.cell? ⟨w.heap.size,0,none⟩=some (.int .i64 K.f):=fun y=>zx hcF y.ok
  clear hP hcR hcF zq zk zz hg hrow hqs hPl hpm
  by_cases hvN:v<N
  rotate_left
  ·have e27:decide (v<N)=false:=decide_eq_false (by omega)
   have HE:Hid (P=chosenV K u d L):=hQ9 (by rw [←HP.out,←zbo HK.out u d L,HN.out];congr 1;omega)
   clear hvN hv
   go_upto_region 3 with fail
   refine zh (za wr) (by kernel_rfl) (by kernel_rfl) ?_
   repeat (go_big_quiet_step (first
    | (go_at_call 69;exact callG (CN.out _))
    | (go_at_call 79;exact callG (CQ.out _))))
   refine wpQuiet_nil ?_
   rintro wq ⟨⟨wq',gq⟩,rfl⟩
   try clear e35
   try clear e27
   have zq:=HZQ.out.grew gq
   have zz:=HZZ.out.grew gq
   have zk:=HZK.out.grew gq
   have hg:=zc HG.out gq
   have hrow:=zv (S:=fun _=>False) HROW.out (zi gq) (fun g _ h=>h)
   have hcR:wq.cell? ⟨q,2,none⟩=some (.slice B P.length pc):=by simpa using zq.cell 2 _ rfl
   have hcF:wq.cell? ⟨w.heap.size,0,none⟩=some (.int .i64 K.f):=by simpa using zk.cell 0 _ rfl
   have YR2:∀ y:Gr wq,y.val.cell? ⟨q,2,none⟩=some (.slice B P.length pc):=fun y=>zx hcR y.ok
   have YF2:∀ y:Gr wq,y.val.cell? ⟨w.heap.size,0,none⟩=some (.int .i64 K.f):=fun y=>zx hcF y.ok
   obtain⟨B2,k2,e2,hRd,-,-,hbB⟩:=yB hrow rfl
   injection e2 with e2 _ e3
   subst e2
   subst e3
   have hpe:=jD HK.out u d L
   rw [←HE.out,HQ.out]at hpe
   have HSPM:Hid (Vps wq B P):=hQ9 ⟨hRd,fun S hS=>HLA.out.ok S (yG (HE.out▸hS)),fun S hS=>(HLA.out.at_ S (yG (HE.out▸hS))).gr hg⟩
   have HBB:=hQ9 hbB
   clear YR YF hRd hbB hcR hcF hrow zk gq
   cases hen:enoughV K u d L with
   | false =>
    have e85:decide (P.length<Q)=true:=by
     rw [hen]at hpe
     have:P.length<Q:=of_decide_eq_true hpe
     exact decide_eq_true (by omega)
    have HMR:=hQ9 (HRF.out hen)
    clear hpe hen zq
    go_upto_region 10 with fail
    refine zh (za wq) (by kernel_rfl) (by kernel_rfl) ?_
    repeat (go_big_quiet_step (first
     | (go_at_call 79;exact callG (CQ.out _))))
    refine wpQuiet_nil ?_
    rintro wG ⟨⟨wG',gG⟩,rfl⟩
    have z3:=zz.grew gG
    have G6:=zc hg gG
    have HTH:Hid (wG.there (w.heap.size+1) 0 ((#[.int .i64 0,.int .u64 0,.slice none 0 0]:Array Value)).size):=hQ9 (z3.thereN 3 rfl)
    have z4:=Ag.set (vs:=((#[.int .i64 0,.int .u64 0,.slice none 0 0]:Array Value)).toList) z3 rfl
    have G5:=zj (o:=0) (b:=w.heap.size+1) ((#[.int .i64 0,.int .u64 0,.slice none 0 0]:Array Value)).toList G6 (by omega)
    clear z3 zz YR2 YF2
    go_wp2_with(with_reducible refine wpList_store_mid rfl 28 (.tmp 8) (.tmp 88) rfl (w.heap.size+1) 0 ((#[.int .i64 0,.int .u64 0,.slice none 0 0]:Array Value)) rfl rfl HTH.out HSI.out HON.out ?_)
    exact bodyPost_ret (zM Tryz.results32 _ _ (w.heap.size+1) _ _ _ rfl rfl z4 hut rfl zQ) rfl ⟨HMR.out _ _ rfl,⟨_,rfl⟩,G5⟩
   | true =>
    have e85:decide (P.length<Q)=false:=by
     rw [hen]at hpe
     have:¬P.length<Q:=of_decide_eq_false hpe
     exact decide_eq_false (by omega)
    have HMR:=hQ9 (HRO.out hen)
    rw [←HE.out]at HMR
    clear hpe hen
    go_upto_region 10 with fail
    refine zh (za wq) (by kernel_rfl) (by kernel_rfl) ?_
    repeat (go_big_quiet_step (first
     | (go_at_call 79;exact callG (CQ.out _))))
    refine wpQuiet_nil ?_
    rintro wG ⟨⟨wG',gG⟩,rfl⟩
    have z3:=zz.grew gG
    have z7:=zq.grew gG
    have G6:=zc hg gG
    rw [show [Value.int .i64 u,.int .u64 (d:Nat),Value.slice B P.length pc]=(vqC u d B P.length pc).toList from rfl]at z7
    have hm7:=z7.cell
    have SI7:Hid ((Tryz.prog.info? 28).map (·.size)=some (vqC u d B P.length pc).toList.length):=hQ9 zQ
    have SI8:Hid ((Tryz.prog.info? 28).map (·.size)=some (vqC u d B P.length pc).size):=hQ9 zQ
    have HO8:=hQ9 (yl u d B P.length pc)
    have HTH:Hid (wG.there (w.heap.size+1) 0 (vqC u d B P.length pc).size):=hQ9 (z3.thereN 3 rfl)
    have zf:=Ag.set (vs:=(vqC u d B P.length pc).toList) z3 rfl
    have Gf:=zj (o:=0) (b:=w.heap.size+1) (vqC u d B P.length pc).toList G6 (by omega)
    have HSPS:=hQ9 ((HSPM.out.gr gG).kpx (zu (vqC u d B P.length pc).toList (w.heap.size+1) 0 wG) (fun ad h e=>by have:=(HBB.out ad h).1;have:=HQW.out;have e':ad.block=w.heap.size+1:=e;omega) (fun S hS ad h=>by
     rcases ya (HLA.out.at_ S (yG (HE.out▸hS))) ad h with h1 | h1
     ·exact .inl h1
     ·exact .inr (fun e=>by have e':ad.block=w.heap.size+1:=e;omega)))
    clear z3 zz zq YR2 YF2 z7
    go_wp2_with(first
     | (with_reducible refine wpList_load_mid rfl 28 (.tmp 10) rfl q 0 rfl (vqC u d B P.length pc).toList _ hm7 hut rfl SI7.out ?_;simp only [Array.toArray_toList])
     | (with_reducible refine wpList_store_mid rfl 28 (.tmp 8) (.tmp 89) rfl (w.heap.size+1) 0 (vqC u d B P.length pc) rfl rfl HTH.out SI8.out HO8.out ?_))
    exact bodyPost_ret (zM Tryz.results32 _ _ (w.heap.size+1) _ _ _ rfl rfl zf hut rfl zQ) rfl ⟨HMR.out _ _ B pc rfl HSPS.out,⟨_,rfl⟩,Gf⟩
  by_cases hPQ:P.length<Q
  rotate_left
  ·have e27:decide (v<N)=true:=decide_eq_true (by omega)
   have e35:decide (P.length<Q)=false:=decide_eq_false (by omega)
   have HE:Hid (P=chosenV K u d L):=hQ9 (by rw [←HP.out];exact zie HK.out u d L v (by rw [HN.out];omega) (by rw [HP.out,HQ.out];omega))
   clear hvN hv hPQ
   go_upto_region 3 with fail
   refine zh (za wr) (by kernel_rfl) (by kernel_rfl) ?_
   repeat (go_big_quiet_step (first
    | (go_at_call 69;exact callG (CN.out _))
    | (go_at_call 79;exact callG (CQ.out _))))
   refine wpQuiet_nil ?_
   rintro wq ⟨⟨wq',gq⟩,rfl⟩
   try clear e35
   try clear e27
   have zq:=HZQ.out.grew gq
   have zz:=HZZ.out.grew gq
   have zk:=HZK.out.grew gq
   have hg:=zc HG.out gq
   have hrow:=zv (S:=fun _=>False) HROW.out (zi gq) (fun g _ h=>h)
   have hcR:wq.cell? ⟨q,2,none⟩=some (.slice B P.length pc):=by simpa using zq.cell 2 _ rfl
   have hcF:wq.cell? ⟨w.heap.size,0,none⟩=some (.int .i64 K.f):=by simpa using zk.cell 0 _ rfl
   have YR2:∀ y:Gr wq,y.val.cell? ⟨q,2,none⟩=some (.slice B P.length pc):=fun y=>zx hcR y.ok
   have YF2:∀ y:Gr wq,y.val.cell? ⟨w.heap.size,0,none⟩=some (.int .i64 K.f):=fun y=>zx hcF y.ok
   obtain⟨B2,k2,e2,hRd,-,-,hbB⟩:=yB hrow rfl
   injection e2 with e2 _ e3
   subst e2
   subst e3
   have hpe:=jD HK.out u d L
   rw [←HE.out,HQ.out]at hpe
   have HSPM:Hid (Vps wq B P):=hQ9 ⟨hRd,fun S hS=>HLA.out.ok S (yG (HE.out▸hS)),fun S hS=>(HLA.out.at_ S (yG (HE.out▸hS))).gr hg⟩
   have HBB:=hQ9 hbB
   clear YR YF hRd hbB hcR hcF hrow zk gq
   cases hen:enoughV K u d L with
   | false =>
    have e85:decide (P.length<Q)=true:=by
     rw [hen]at hpe
     have:P.length<Q:=of_decide_eq_true hpe
     exact decide_eq_true (by omega)
    have HMR:=hQ9 (HRF.out hen)
    clear hpe hen zq
    go_upto_region 10 with fail
    refine zh (za wq) (by kernel_rfl) (by kernel_rfl) ?_
    repeat (go_big_quiet_step (first
     | (go_at_call 79;exact callG (CQ.out _))))
    refine wpQuiet_nil ?_
    rintro wG ⟨⟨wG',gG⟩,rfl⟩
    have z3:=zz.grew gG
    have G6:=zc hg gG
    have HTH:Hid (wG.there (w.heap.size+1) 0 ((#[.int .i64 0,.int .u64 0,.slice none 0 0]:Array Value)).size):=hQ9 (z3.thereN 3 rfl)
    have z4:=Ag.set (vs:=((#[.int .i64 0,.int .u64 0,.slice none 0 0]:Array Value)).toList) z3 rfl
    have G5:=zj (o:=0) (b:=w.heap.size+1) ((#[.int .i64 0,.int .u64 0,.slice none 0 0]:Array Value)).toList G6 (by omega)
    clear z3 zz YR2 YF2
    go_wp2_with(with_reducible refine wpList_store_mid rfl 28 (.tmp 8) (.tmp 88) rfl (w.heap.size+1) 0 ((#[.int .i64 0,.int .u64 0,.slice none 0 0]:Array Value)) rfl rfl HTH.out HSI.out HON.out ?_)
    exact bodyPost_ret (zM Tryz.results32 _ _ (w.heap.size+1) _ _ _ rfl rfl z4 hut rfl zQ) rfl ⟨HMR.out _ _ rfl,⟨_,rfl⟩,G5⟩
   | true =>
    have e85:decide (P.length<Q)=false:=by
     rw [hen]at hpe
     have:¬P.length<Q:=of_decide_eq_false hpe
     exact decide_eq_false (by omega)
    have HMR:=hQ9 (HRO.out hen)
    rw [←HE.out]at HMR
    clear hpe hen
    go_upto_region 10 with fail
    refine zh (za wq) (by kernel_rfl) (by kernel_rfl) ?_
    repeat (go_big_quiet_step (first
     | (go_at_call 79;exact callG (CQ.out _))))
    refine wpQuiet_nil ?_
    rintro wG ⟨⟨wG',gG⟩,rfl⟩
    have z3:=zz.grew gG
    have z7:=zq.grew gG
    have G6:=zc hg gG
    rw [show [Value.int .i64 u,.int .u64 (d:Nat),Value.slice B P.length pc]=(vqC u d B P.length pc).toList from rfl]at z7
    have hm7:=z7.cell
    have SI7:Hid ((Tryz.prog.info? 28).map (·.size)=some (vqC u d B P.length pc).toList.length):=hQ9 zQ
    have SI8:Hid ((Tryz.prog.info? 28).map (·.size)=some (vqC u d B P.length pc).size):=hQ9 zQ
    have HO8:=hQ9 (yl u d B P.length pc)
    have HTH:Hid (wG.there (w.heap.size+1) 0 (vqC u d B P.length pc).size):=hQ9 (z3.thereN 3 rfl)
    have zf:=Ag.set (vs:=(vqC u d B P.length pc).toList) z3 rfl
    have Gf:=zj (o:=0) (b:=w.heap.size+1) (vqC u d B P.length pc).toList G6 (by omega)
    have HSPS:=hQ9 ((HSPM.out.gr gG).kpx (zu (vqC u d B P.length pc).toList (w.heap.size+1) 0 wG) (fun ad h e=>by have:=(HBB.out ad h).1;have:=HQW.out;have e':ad.block=w.heap.size+1:=e;omega) (fun S hS ad h=>by
     rcases ya (HLA.out.at_ S (yG (HE.out▸hS))) ad h with h1 | h1
     ·exact .inl h1
     ·exact .inr (fun e=>by have e':ad.block=w.heap.size+1:=e;omega)))
    clear z3 zz zq YR2 YF2 z7
    go_wp2_with(first
     | (with_reducible refine wpList_load_mid rfl 28 (.tmp 10) rfl q 0 rfl (vqC u d B P.length pc).toList _ hm7 hut rfl SI7.out ?_;simp only [Array.toArray_toList])
     | (with_reducible refine wpList_store_mid rfl 28 (.tmp 8) (.tmp 89) rfl (w.heap.size+1) 0 (vqC u d B P.length pc) rfl rfl HTH.out SI8.out HO8.out ?_))
    exact bodyPost_ret (zM Tryz.results32 _ _ (w.heap.size+1) _ _ _ rfl rfl zf hut rfl zQ) rfl ⟨HMR.out _ _ B pc rfl HSPS.out,⟨_,rfl⟩,Gf⟩
  have e27:decide (v<N)=true:=decide_eq_true (by omega)
  have e35:decide (P.length<Q)=true:=decide_eq_true (by omega)
  have HVN:=hQ9 hvN
  have HPQ:=hQ9 hPQ
  clear hvN hv hPQ
  go_upto_region 3 with fail
  refine zh (za wr) (by kernel_rfl) (by kernel_rfl) ?_
  repeat (go_big_quiet_step (first
   | (go_at_call 69;exact callG (CN.out _))
   | (go_at_call 79;exact callG (CQ.out _))))
  refine wpQuiet_nil ?_
  rintro wq ⟨⟨wq',gq⟩,rfl⟩
  have HGQ:=hQ9 gq
  clear gq YR YF
  generalize wr=wo at *
  go_wp2_with fail
  go_loopw [12] (fun iv wr=>∃ i:Nat,i≤L.length∧iv=.int .i64 (i:Int)∧Hid (∀ j (hj:j<L.length),j<i→vfwB K u d v L[j]=false)∧Grew wo wr) (fun iv _=>L.length-(Go.RowKit.intOf iv).toNat)
  case atStart=>exact⟨0,Nat.zero_le _,rfl,hQ9 (fun j hj h=>by omega),HGQ.out⟩
  case round =>
   obtain⟨i,hi,rfl,HJ,gj⟩:=hrel
   by_cases hlt:i<L.length
   rotate_left
   ·obtain rfl:i=L.length:=by omega
    have HPN:Hid (vpkS K u d L (v+1)=P):=hQ9 (by rw [zgn (fun j hj=>HJ.out j hj (by omega)),HP.out])
    have e9:IntKind.i64.wrap ((v:Int)+1)=((v+1:Nat):Int):=by have h2:=HVN.out;have h3:=HEN.out;have h4:=HF.out;rw [IntWalk.i64_in _ (by omega)];omega
    clear hlt hi HJ
    go_wp2_with fail
    go_roundw
    case rel=>exact⟨v+1,.slice B P.length pc,HVN.out,by go_num,by rw [HPN.out];exact zv (S:=fun _=>False) HROW.out (zi gj) (fun g _ h=>h),HZQ.out.grew gj,HZK.out.grew gj,HZZ.out.grew gj,zc HG.out gj,Nat.lt_of_lt_of_le HQS.out gj.size⟩
    case measure=>have:=HVN.out;simp [Go.RowKit.intOf]<;>omega
   have h1:(i:Int)<(L.length:Int):=by omega
   have h0:(0:Int)≤(i:Int):=by omega
   have HI:=hQ9 hlt
   have GJ:=hQ9 gj
   obtain⟨ad,hA,hql,hr⟩:=HLA.out.rd i hlt
   have HYS:Hid (∀ y:Gr wr,∀ j u,L[i].C.toList[j]?=some u→y.val.cell? ((ad.add (i*24)).add j)=some u):=hQ9 (fun y j u hj=>((zc HG.out (zc GJ.out y.ok)).cell (p:=(ad.add (i*24)).add j) (by rw [zo,zo];exact hql)).trans (hr j u hj))
   have hs2:∀ y:Gr wr,y.val.cell? ⟨(ad.add (i*24)).block,(ad.add (i*24)).off+2,none⟩=some (.int .i64 L[i].who):=fun y=>by
    have:=HYS.out y 2 (.int .i64 L[i].who) rfl
    rwa [zf5 _ (by decide)]at this
   have hs1:∀ y:Gr wr,y.val.cell? ⟨(ad.add (i*24)).block,(ad.add (i*24)).off+1,none⟩=some (.int .u64 (L[i].cm:Int)):=fun y=>by
    have:=HYS.out y 1 (.int .u64 (L[i].cm:Int)) rfl
    rwa [zf5 _ (by decide)]at this
   have hs0:∀ y:Gr wr,y.val.cell? (ad.add (i*24))=some (.int .i64 L[i].vw):=fun y=>by
    have:=HYS.out y 0 (.int .i64 L[i].vw) rfl
    rwa [show(ad.add (i*24)).add 0=ad.add (i*24) from by simp [Addr.add]]at this
   have HADB:=hQ9 hql
   have HOK:Hid L[i].ok:=hQ9 (HLA.out.ok _ (List.getElem_mem _))
   have HAT:Hid (∀ y:Gr wr,L[i].at y.val):=hQ9 (fun y=>(HLA.out.at_ _ (List.getElem_mem _)).gr (zc HG.out (zc GJ.out y.ok)))
   have HNO:Hid (vfwB K u d v L[i]=false→∀ j (hj:j<L.length),j<i+1→vfwB K u d v L[j]=false):=hQ9 (fun h j hj hji=>by
    by_cases e:j=i
    ·subst e;exact h
    ·exact HJ.out j hj (by omega))
   have HYES:Hid (vfwB K u d v L[i]=true→vpkS K u d L (v+1)=P++[L[i]]):=hQ9 (fun h=>by
    have h9:=zgm (by rw [HP.out,HQ.out];exact HPQ.out) HI.out HJ.out h
    rw [HP.out]at h9
    exact h9)
   have e9i:IntKind.i64.wrap ((i:Int)+1)=((i+1:Nat):Int):=by have:=HLL.out;rw [IntWalk.i64_in _ (by omega)];omega
   subst hA
   clear hr gj HJ hlt hi hql
   generalize L[i]=S at *
   have SIS:Hid ((Tryz.prog.info? 75).map (·.size)=some S.C.toList.length):=hQ9 yt
   have YK:Hid (∀ y:Gr wr,y.val.rangeAt w.heap.size 0 K.C.toList):=hQ9 (fun y=>(HZK.out.grew (zc GJ.out y.ok)).cell)
   have CV:Hid (∀ y:Gr wr,Calls Tryz.prog 29 #[.agg K.C,.agg S.C] y.val fun e w'=>e=.returned (.int .i64 (vvS K S))∧Grew y.val w'):=hQ9 (fun y=>kY HK.out HOK.out y.val (HSS.out.grew (zc HG.out (zc GJ.out y.ok))) (HKA.out.gr (zc HG.out (zc GJ.out y.ok))) (HAT.out y))
   by_cases hw:S.who=(v:Int)
   rotate_left
   ·have e51:(S.who==(v:Int))=false:=by simpa using hw
    have HNN:=hQ9 (HNO.out (by unfold vfwB;rw [decide_eq_false hw];simp))
    clear hw
    go_upto_region 8 with fail
    refine zh (za wr) (by kernel_rfl) (by kernel_rfl) ?_
    repeat (first
     | (go_big_quiet_want;refine zn 24 (.tmp 4) rfl w.heap.size 0 rfl K.C.toList _ YK.out huk rfl SIK.out ?_;simp only [Act.put,List.setIfInBounds_toArray,List.set_cons_succ,List.set_cons_zero,Array.toArray_toList];go_big_quiet_on)
     | (go_big_quiet_want;refine yF 75 (.tmp 67) rfl (ad.add (i*24)) rfl S.C.toList _ HYS.out hus rfl SIS.out ?_;simp only [Act.put,List.setIfInBounds_toArray,List.set_cons_succ,List.set_cons_zero,Array.toArray_toList];go_big_quiet_on)
     | (go_big_quiet_step (first
      | (go_at_call 29;exact callG (CV.out _)))))
    refine wpQuiet_nil ?_
    rintro wx ⟨⟨wx',gx⟩,rfl⟩
    have HWX:=hQ9 gx
    clear gx
    go_wp2_with fail
    go_roundw
    case rel=>exact⟨i+1,HI.out,by go_num,HNN,zc GJ.out HWX.out⟩
    case measure=>have:=HI.out;simp [Go.RowKit.intOf]<;>omega
   by_cases hu:S.vw=u
   rotate_left
   ·have e51:(S.who==(v:Int))=true:=by simpa using hw
    have e52:(S.vw==u)=false:=by simpa using hu
    have HNN:=hQ9 (HNO.out (by unfold vfwB vgB;rw [decide_eq_false hu];simp))
    clear hw hu
    go_upto_region 8 with fail
    refine zh (za wr) (by kernel_rfl) (by kernel_rfl) ?_
    repeat (first
     | (go_big_quiet_want;refine zn 24 (.tmp 4) rfl w.heap.size 0 rfl K.C.toList _ YK.out huk rfl SIK.out ?_;simp only [Act.put,List.setIfInBounds_toArray,List.set_cons_succ,List.set_cons_zero,Array.toArray_toList];go_big_quiet_on)
     | (go_big_quiet_want;refine yF 75 (.tmp 67) rfl (ad.add (i*24)) rfl S.C.toList _ HYS.out hus rfl SIS.out ?_;simp only [Act.put,List.setIfInBounds_toArray,List.set_cons_succ,List.set_cons_zero,Array.toArray_toList];go_big_quiet_on)
     | (go_big_quiet_step (first
      | (go_at_call 29;exact callG (CV.out _)))))
    refine wpQuiet_nil ?_
    rintro wx ⟨⟨wx',gx⟩,rfl⟩
    have HWX:=hQ9 gx
    clear gx
    go_wp2_with fail
    go_roundw
    case rel=>exact⟨i+1,HI.out,by go_num,HNN,zc GJ.out HWX.out⟩
    case measure=>have:=HI.out;simp [Go.RowKit.intOf]<;>omega
   by_cases hd:S.cm=d
   rotate_left
   ·have e51:(S.who==(v:Int))=true:=by simpa using hw
    have e52:(S.vw==u)=true:=by simpa using hu
    have e59:((S.cm:Int)==(d:Int))=false:=by simp;omega
    have HNN:=hQ9 (HNO.out (by unfold vfwB vgB;rw [decide_eq_false hd];simp))
    clear hw hu hd
    go_upto_region 8 with fail
    refine zh (za wr) (by kernel_rfl) (by kernel_rfl) ?_
    repeat (first
     | (go_big_quiet_want;refine zn 24 (.tmp 4) rfl w.heap.size 0 rfl K.C.toList _ YK.out huk rfl SIK.out ?_;simp only [Act.put,List.setIfInBounds_toArray,List.set_cons_succ,List.set_cons_zero,Array.toArray_toList];go_big_quiet_on)
     | (go_big_quiet_want;refine yF 75 (.tmp 67) rfl (ad.add (i*24)) rfl S.C.toList _ HYS.out hus rfl SIS.out ?_;simp only [Act.put,List.setIfInBounds_toArray,List.set_cons_succ,List.set_cons_zero,Array.toArray_toList];go_big_quiet_on)
     | (go_big_quiet_step (first
      | (go_at_call 29;exact callG (CV.out _)))))
    refine wpQuiet_nil ?_
    rintro wx ⟨⟨wx',gx⟩,rfl⟩
    have HWX:=hQ9 gx
    clear gx
    go_wp2_with fail
    go_roundw
    case rel=>exact⟨i+1,HI.out,by go_num,HNN,zc GJ.out HWX.out⟩
    case measure=>have:=HI.out;simp [Go.RowKit.intOf]<;>omega
   have e51:(S.who==(v:Int))=true:=by simpa using hw
   have e52:(S.vw==u)=true:=by simpa using hu
   have e59:((S.cm:Int)==(d:Int))=true:=by simp [hd]
   by_cases hva:vvS K S=0
   rotate_left
   ·have e68:(vvS K S==0)=false:=by simpa using hva
    have HNN:=hQ9 (HNO.out (by unfold vfwB vgB;rw [decide_eq_false hva];simp))
    clear hw hu hd hva
    go_upto_region 8 with fail
    refine zh (za wr) (by kernel_rfl) (by kernel_rfl) ?_
    repeat (first
     | (go_big_quiet_want;refine zn 24 (.tmp 4) rfl w.heap.size 0 rfl K.C.toList _ YK.out huk rfl SIK.out ?_;simp only [Act.put,List.setIfInBounds_toArray,List.set_cons_succ,List.set_cons_zero,Array.toArray_toList];go_big_quiet_on)
     | (go_big_quiet_want;refine yF 75 (.tmp 67) rfl (ad.add (i*24)) rfl S.C.toList _ HYS.out hus rfl SIS.out ?_;simp only [Act.put,List.setIfInBounds_toArray,List.set_cons_succ,List.set_cons_zero,Array.toArray_toList];go_big_quiet_on)
     | (go_big_quiet_step (first
      | (go_at_call 29;exact callG (CV.out _)))))
    refine wpQuiet_nil ?_
    rintro wx ⟨⟨wx',gx⟩,rfl⟩
    have HWX:=hQ9 gx
    clear gx
    go_wp2_with fail
    go_roundw
    case rel=>exact⟨i+1,HI.out,by go_num,HNN,zc GJ.out HWX.out⟩
    case measure=>have:=HI.out;simp [Go.RowKit.intOf]<;>omega
   have e68:(vvS K S==0)=true:=by simpa using hva
   have HYE:=hQ9 (HYES.out (by unfold vfwB vgB;rw [decide_eq_true hw,decide_eq_true hu,decide_eq_true hd,decide_eq_true hva];rfl))
   clear hw hu hd hva
   go_upto_region 8 with fail
   refine zh (za wr) (by kernel_rfl) (by kernel_rfl) ?_
   repeat (first
    | (go_big_quiet_want;refine zn 24 (.tmp 4) rfl w.heap.size 0 rfl K.C.toList _ YK.out huk rfl SIK.out ?_;simp only [Act.put,List.setIfInBounds_toArray,List.set_cons_succ,List.set_cons_zero,Array.toArray_toList];go_big_quiet_on)
    | (go_big_quiet_want;refine yF 75 (.tmp 67) rfl (ad.add (i*24)) rfl S.C.toList _ HYS.out hus rfl SIS.out ?_;simp only [Act.put,List.setIfInBounds_toArray,List.set_cons_succ,List.set_cons_zero,Array.toArray_toList];go_big_quiet_on)
    | (go_big_quiet_step (first
     | (go_at_call 29;exact callG (CV.out _)))))
   refine wpQuiet_nil ?_
   rintro wx ⟨⟨wx',gx⟩,rfl⟩
   have GX:=hQ9 (zc GJ.out gx)
   have HYX:Hid (∀ j u,S.C.toList[j]?=some u→wx.cell? ((ad.add (i*24)).add j)=some u):=hQ9 (HYS.out ⟨wx,gx⟩)
   have hcR:wx.cell? ⟨q,2,none⟩=some (.slice B P.length pc):=by simpa using (HZQ.out.grew GX.out).cell 2 _ rfl
   have hrow:=zv (S:=fun _=>False) HROW.out (zi GX.out) (fun g _ h=>h)
   have hqb:=Nat.lt_of_lt_of_le HQS.out GX.out.size
   have HRW:=hQ9 hrow
   have HCR:=hQ9 hcR
   have HQB:=hQ9 hqb
   have HLO:=hQ9 (zG hrow)
   have HPL5:Hid (P.length≤12):=hQ9 (by have h1:=HPQ.out;have h2:=HF.out;have h3:=HQ.out;omega)
   clear gx hs0 hs1 hs2 YK CV hrow hcR hqb e51 e52 e59 e68
   go_upto_region 9 with fail
   have HSB:Hid (∀ g,(fun j=>(Value.slice B P.length pc).ownBlock=some j) g→g<wx.heap.size):=hQ9 (fun g h=>(HLO.out g h).2)
   have HSQ:Hid (¬(fun j=>(Value.slice B P.length pc).ownBlock=some j) q):=hQ9 (fun h=>by have:=(HLO.out q h).1;omega)
   have HCY:Hid (∀ y,Kp (fun j=>(Value.slice B P.length pc).ownBlock=some j) wx y→y.cell? ⟨q,2,none⟩=some (.slice B P.length pc)):=hQ9 (fun y k=>(World.cell?_of_block (k.block q (by have:=HQB.out;omega) HSQ.out)).trans HCR.out)
   have HRY:Hid (∀ y,Kp (fun j=>(Value.slice B P.length pc).ownBlock=some j) wx y→∀ j u,S.C.toList[j]?=some u→y.cell? ((ad.add (i*24)).add j)=some u):=hQ9 (fun y k j u hj=>(World.cell?_of_block (by rw [zo,zo];exact k.block ad.block (by have:=HADB.out;have:=GX.out.size;have:=HG.out.size;omega) (fun h=>by have:=(HLO.out ad.block h).1;have:=HADB.out;have:=HQW.out;omega))).trans (HYX.out j u hj))
   refine xt 9 7 (fun j=>(Value.slice B P.length pc).ownBlock=some j) (fun ix9=>match ix9 with
    | 0=>fun v _=>v=.pointer (some ⟨q,2,none⟩)
    | 1=>fun v _=>v=.slice B P.length pc
    | 2=>fun v _=>v=.slice (some ad) L.length cap
    | 3=>fun v _=>v=.int .i64 (i:Int)
    | 4=>fun v _=>v=.pointer (some (ad.add (i*24)))
    | 5=>fun v _=>v=.agg S.C
    | 6=>fun _ _=>True
    | 7=>fun v W=>AppV W (q+1) (.slice B P.length pc) wx.heap.size (P.length+1) ((vpL P).flatten++S.C.toList) v
    | 8=>fun v _=>v=.pointer (some ⟨q,2,none⟩)
    | _=>fun _ _=>True) (fun ix9=>match ix9 with
    | 6=>fun lo hi v w=>OneR w wx.heap.size lo hi S.C.toList v
    | 7=>fun _ _ _ _=>True
    | _=>fun _ _ _ _=>True) (fun ix9=>match ix9 with
    | 7=>6
    | ix8=>ix8) (fun ix9=>match ix9 with
    | 7=>6
    | ix8=>ix8) (by kernel_rfl) (by kernel_rfl) (by kernel_rfl) ?_ ?_ ?_ ?_ ?_
   ·intro i v x y h hg
    match i,h with
    | 0,h | 1,h | 2,h | 3,h | 4,h | 5,h | 8,h=>exact h
    | 6,h=>exact h
    | 7,h=>exact AppV.gr h hg
    | m+9,_=>trivial
   ·intro i v x y hne hx h hg
    match i,h with
    | 0,h | 1,h | 2,h | 3,h | 4,h | 5,h | 8,h=>exact h
    | 6,h=>exact h
    | 7,h=>exact absurd rfl hne
    | m+9,_=>trivial
   ·simp only [actOf,tk1,tk0,dr1,dr0,Act.put,si1,st1,st0,Nat.reduceAdd]
    refine⟨?_,?_,?_,?_,?_,?_,?_,?_,?_,trivial⟩
    ·intro vs lo hi y hg hd hvia
     replace hg:Kp (fun j=>(Value.slice B P.length pc).ownBlock=some j) wx y:=hg
     clear hvia
     dsimp only
     go_wp2_with fail
     first | exact⟨rfl,_,rfl,za _,rfl⟩ | exact⟨rfl,_,rfl,za _,rfl,trivial⟩
    ·intro vs lo hi y hg hd hvia
     replace hg:Kp (fun j=>(Value.slice B P.length pc).ownBlock=some j) wx y:=hg
     obtain⟨h0,_⟩:=hd
     replace h0:=h0 rfl
     clear hvia
     dsimp only
     rw [show vs 0=_ from h0]
     have hc:=HCY.out y hg
     go_wp2_with fail
     first | exact⟨rfl,_,rfl,za _,rfl⟩ | exact⟨rfl,_,rfl,za _,rfl,trivial⟩
    ·intro vs lo hi y hg hd hvia
     replace hg:Kp (fun j=>(Value.slice B P.length pc).ownBlock=some j) wx y:=hg
     clear hvia
     dsimp only
     go_wp2_with fail
     first | exact⟨rfl,_,rfl,za _,rfl⟩ | exact⟨rfl,_,rfl,za _,rfl,trivial⟩
    ·intro vs lo hi y hg hd hvia
     replace hg:Kp (fun j=>(Value.slice B P.length pc).ownBlock=some j) wx y:=hg
     clear hvia
     dsimp only
     go_wp2_with fail
     first | exact⟨rfl,_,rfl,za _,rfl⟩ | exact⟨rfl,_,rfl,za _,rfl,trivial⟩
    ·intro vs lo hi y hg hd hvia
     replace hg:Kp (fun j=>(Value.slice B P.length pc).ownBlock=some j) wx y:=hg
     obtain⟨h2,h3,_⟩:=hd
     replace h2:=h2 rfl
     replace h3:=h3 rfl
     clear hvia
     dsimp only
     rw [show vs 2=_ from h2,show vs 3=_ from h3]
     go_wp2_with fail
     first | exact⟨rfl,_,rfl,za _,rfl⟩ | exact⟨rfl,_,rfl,za _,rfl,trivial⟩
    ·intro vs lo hi y hg hd hvia
     replace hg:Kp (fun j=>(Value.slice B P.length pc).ownBlock=some j) wx y:=hg
     obtain⟨h4,_⟩:=hd
     replace h4:=h4 rfl
     clear hvia
     dsimp only
     rw [show vs 4=_ from h4]
     have hm:=HRY.out y hg
     go_wp2_with(with_reducible refine zL rfl 75 (.tmp 76) rfl (ad.add (i*24)) rfl S.C.toList _ hm hus rfl SIS.out ?_;simp only [Array.toArray_toList])
     first | exact⟨rfl,_,rfl,za _,rfl⟩ | exact⟨rfl,_,rfl,za _,rfl,trivial⟩
    ·intro vs lo hi y hg hd hvia
     replace hg:Kp (fun j=>(Value.slice B P.length pc).ownBlock=some j) wx y:=hg
     obtain⟨h5,_⟩:=hd
     replace h5:=h5 rfl
     clear hvia
     dsimp only
     rw [show vs 5=_ from h5]
     have hgs24:S.C.size=24:=rfl
     go_wp2_with fail
     rw [xk]
     exact⟨rfl,_,rfl,ze (za _) _,⟨y.heap.size,rfl,Ag.new y 75 S.C,hg.size,Nat.le_refl _,by show y.heap.size<(y.alloc _).heap.size;simp⟩⟩
    ·intro vs lo hi y hg hd hvia
     replace hg:Grew wx y:=hg
     obtain⟨h1,h6,_⟩:=hd
     replace h1:=h1 rfl
     replace h6:=h6 rfl
     have hv9:(fun lo hi v w=>OneR w wx.heap.size lo hi S.C.toList v) (lo 6) (hi 6) (vs 6) y:=hvia rfl
     clear hvia
     dsimp only
     rw [show vs 1=_ from h1]
     obtain⟨g9,e9,hz9,hb9,hl9,hh9⟩:=OneR.out hv9
     rw [e9]
     have hry:=HRW.out
     have hpl9:=HPL5.out
     have hqb9:=HQB.out
     have hgs9:=hg.size
     have hcl9:S.C.toList.length=1*24:=rfl
     refine zX _ rfl (.tmp 73) (.tmp 78) 26 rfl (q+1) 75 i0 (.agg (#[.int .i64 0,.int .u64 0,.int .i64 0,.int .i64 0,.int .i64 0,.int .u64 0,.int .u64 0,.int .u64 0,.int .u64 0,.int .u64 0,.int .u64 0,.int .u64 0,.int .u64 0,.int .u64 0,.int .u64 0,.int .u64 0,.int .u64 0,.int .u64 0,.int .u64 0,.int .u64 0,.int .u64 0,.int .u64 0,.int .u64 0,.slice none 0 0]:Array Value)) 24 208 Tryz.underlying26 hinf hz0 hz1 hz2 rfl (by decide) _ _ _ rfl (zv (S:=fun _=>False) hry (zi hg) (fun g _ h=>h)) ⟨g9,0,none⟩ 1 1 S.C.toList rfl hcl9 (fun j u hj=>by rw [add0];simpa using hz9.cell j u hj) S.one' (by unfold maxLen;omega) (by omega) (by omega) ?_
     intro va z hva hga hoa
     go_wp2_with fail
     have hap:AppV z (q+1) (.slice B P.length pc) wx.heap.size (P.length+1) ((vpL P).flatten++S.C.toList) va:=⟨hva,hoa.imp id (fun h=>⟨_,h,hg.size⟩)⟩
     first | exact⟨rfl,_,rfl,yC (zI _ y) hga (fun g e=>.inl e),hap,trivial⟩ | exact⟨rfl,_,rfl,yC (zI _ y) hga (fun g e=>.inl e),hap⟩
    ·intro vs lo hi y hg hd hvia
     replace hg:Kp (fun j=>(Value.slice B P.length pc).ownBlock=some j) wx y:=hg
     clear hvia
     dsimp only
     go_wp2_with fail
     first | exact⟨rfl,_,rfl,za _,rfl⟩ | exact⟨rfl,_,rfl,za _,rfl,trivial⟩
   ·intro i lo hi v x y hx h hg
    match i,h with
    | 6,h=>exact OneR.kp h hg HSB.out
    | 7,_=>trivial
    | 0,_=>trivial
    | 1,_=>trivial
    | 2,_=>trivial
    | 3,_=>trivial
    | 4,_=>trivial
    | 5,_=>trivial
    | m+8,_=>trivial
   ·intro vs lo hi w5 hg hJ hK hB hD
    replace hg:Kp (fun j=>(Value.slice B P.length pc).ownBlock=some j) wx w5:=hg
    have k78:=hK 6 (by decide)
    have b78:=hB 6 (by decide)
    have k79:=hK 7 (by decide)
    have b79:=hB 7 (by decide)
    clear hK hB hD
    have j0:vs 0=.pointer (some ⟨q,2,none⟩):=hJ 0 (by decide)
    have j1:vs 1=.slice B P.length pc:=hJ 1 (by decide)
    have j2:vs 2=.slice (some ad) L.length cap:=hJ 2 (by decide)
    have j3:vs 3=.int .i64 (i:Int):=hJ 3 (by decide)
    have j4:vs 4=.pointer (some (ad.add (i*24))):=hJ 4 (by decide)
    have j5:vs 5=.agg S.C:=hJ 5 (by decide)
    have j8:vs 8=.pointer (some ⟨q,2,none⟩):=hJ 8 (by decide)
    have s78:=hJ 6 (by decide)
    have s79:=hJ 7 (by decide)
    clear hJ
    simp only [actOf,tk1,tk0,dr1,dr0,Act.put,si1,st1,st0,Nat.reduceAdd]
    have hown:=s79.own
    rw [show(vpL P).flatten++S.C.toList=(vpL (P++[S])).flatten from(yV P S).symm]at hown
    obtain⟨B',k',hv',-,-,-,-⟩:=yB (L:=P++[S]) hown (by simp)
    rw [hv']at hown ⊢
    have hzq:=(HZQ.out.grew GX.out).kp hg HSQ.out
    have hc7:w5.cell? ⟨q,2,none⟩=some (.slice B P.length pc):=ag_at hzq 2 rfl
    have fc7:=ag_fr hzq 2 (by simp)
    have K8:=xF (S:=fun j=>j=q) (zI _ w5) (p:=⟨q,2,none⟩) (.inl rfl) (.slice B' (P.length+1) k')
    have HOWN:=hQ9 hown
    have HZQ7:=hQ9 hzq
    have HK8:=hQ9 K8
    have HKG:=hQ9 hg
    have h1w:=HQW.out
    have h2w:=HG.out.size
    have e9:IntKind.i64.wrap ((v:Int)+1)=((v+1:Nat):Int):=by have h2:=HVN.out;have h3:=HEN.out;have h4:=HF.out;rw [IntWalk.i64_in _ (by omega)];omega
    have j8':vs 8=_:=j8
    rw [j8']
    clear hown hzq K8 hg s78 s79 b78 b79 k78 k79 j0 j1 j2 j3 j4 j5 j8 hv' j8' h1w h2w
    go_wp2_with fail
    go_roundw
    case rel =>
     refine⟨v+1,.slice B' (P.length+1) k',HVN.out,by go_num,?_,HZQ7.out.set1 2 (.slice B' (P.length+1) k') (by simp),?_,?_,?_,?_⟩
     ·rw [HYE.out,List.length_append,List.length_singleton]
      exact zv HOWN.out HK8.out (fun g h e=>by have h1:=zw HOWN.out g h;have e':g=q:=e;omega)
     ·have h1w:=HQW.out
      exact((HZK.out.grew GX.out).kp HKG.out (fun h=>by have:=(HLO.out _ h).1;omega)).kp HK8.out (fun e=>by have e':w.heap.size=q:=e;omega)
     ·have h1w:=HQW.out
      exact((HZZ.out.grew GX.out).kp HKG.out (fun h=>by have:=(HLO.out _ h).1;omega)).kp HK8.out (fun e=>by have e':w.heap.size+1=q:=e;omega)
     ·have h1w:=HQW.out
      have g5:=zK (zc HG.out GX.out) HKG.out (zc HG.out GX.out).size (fun g h=>by have:=(HLO.out g h).1;omega)
      exact zK g5 HK8.out g5.size (fun g e=>by have e':g=q:=e;omega)
     ·exact Nat.lt_of_lt_of_le (Nat.lt_of_lt_of_le HQB.out HKG.out.size) HK8.out.size
    case measure=>have:=HVN.out;simp [Go.RowKit.intOf]<;>omega
theorem MvV.symm {L M:List VP} (h:MvV L M):MvV M L:=⟨h.len.symm,fun k h1 h2=>by
 obtain⟨A,c,e⟩:=h.each k h2 h1
 exact⟨L[k].A,L[k].c,by rw [e];rfl⟩⟩
theorem zak {L M N:List VP} (h1:MvV L M) (h2:MvV M N):MvV L N:=⟨by rw [h2.len,h1.len],fun k a b=>by
 obtain⟨A,c,e⟩:=h1.each k a (by rw [h1.len];exact a)
 obtain⟨A',c',e'⟩:=h2.each k (by rw [h1.len];exact a) b
 exact⟨A',c',by rw [e',e];rfl⟩⟩
theorem zbq (w:World):Vps w none []:=⟨fun k hk=>by simp [vpL]at hk,by simp,by simp⟩
theorem zgo {K K':KP} (hf:K'.f=K.f) (hR:K'.R=K.R) (hh:K'.h=K.h) (u:Int) (d:Nat):∀(L:List VP) (p:Option Int),chqV K' u d p L=chqV K u d p L
 | [],_=>by rw [chqV,chqV]
 | S::r,p=>by
  rw [chqV,chqV,zgo hf hR hh u d r,show vdV K' u d S=vdV K u d S from by unfold vdV vvS;rw [hf,hR,hh]]
theorem cqV_K {K K':KP} (hf:K'.f=K.f) (hR:K'.R=K.R) (hh:K'.h=K.h) (u:Int) (d:Nat) (L:List VP):cqV K' u d L=cqV K u d L:=by
 unfold cqV
 rw [hf,zgo hf hR hh]
theorem vqE_K {K K':KP} (hf:K'.f=K.f) (hR:K'.R=K.R) (hh:K'.h=K.h) (u:Int) (d:Nat) (L:List VP):vqE K' u d L=vqE K u d L:=by
 unfold vqE
 rw [cqV_K hf hR hh]
theorem zgp {K:KP} {u:Int} {d:Nat} {L M:List VP} (h:MvV L M):vqE K u d M=vqE K u d L:=by
 unfold vqE
 rw [cqV_mv h,h.len]
theorem vgB_K {K K':KP} (hf:K'.f=K.f) (hR:K'.R=K.R) (hh:K'.h=K.h) (u:Int) (d:Nat):vgB K' u d=vgB K u d:=by
 funext S
 unfold vgB vvS
 rw [hf,hR,hh]
noncomputable def gvR (K:KP) (u:Int) (d:Nat) (L:List VP):Int × Nat × List VP × Int:=if enoughV K u d L=true then (u,d,chosenV K u d L,0) else (0,0,[],8)
theorem xD {K:KP} {u:Int} {d:Nat} {L:List VP} (h:enoughV K u d L=true):gvR K u d L=(u,d,chosenV K u d L,0):=if_pos h
theorem ki {K:KP} {u:Int} {d:Nat} {L:List VP} (h:enoughV K u d L=false):gvR K u d L=(0,0,[],8):=if_neg (by rw [h];decide)
theorem gvR_K {K K':KP} (hf:K'.f=K.f) (hR:K'.R=K.R) (hh:K'.h=K.h) (u:Int) (d:Nat) (L:List VP):gvR K' u d L=gvR K u d L:=by
 unfold gvR enoughV chosenV
 rw [vgB_K hf hR hh,hf]
theorem zj0 {K:KP} (hK:K.ok) (u:Int) (d:Nat) (L:List VP):(gvR K u d L).2.2.1.length≤100:=by
 have hf:=hK.f
 cases h:enoughV K u d L with
 | true =>
  rw [xD h]
  show(chosenV K u d L).length≤100
  rw [xm h]
  omega
 | false=>rw [ki h];simp
theorem gvR_mv {K:KP} (hK:K.ok) {u:Int} {d:Nat} {L M:List VP} (h:MvV L M):(gvR K u d M).1=(gvR K u d L).1∧(gvR K u d M).2.1=(gvR K u d L).2.1∧MvV (gvR K u d L).2.2.1 (gvR K u d M).2.2.1∧(gvR K u d M).2.2.2=(gvR K u d L).2.2.2:=by
 have e:=zet (u:=u) (d:=d) hK h
 cases h1:enoughV K u d L with
 | true =>
  rw [xD h1,xD (e.trans h1)]
  exact⟨rfl,rfl,zes hK h,rfl⟩
 | false =>
  rw [ki h1,ki (e.trans h1)]
  exact⟨rfl,rfl,MvV.nil,rfl⟩
theorem zgq {K:KP} (hK:K.ok) {u:Int} {d:Nat} {L:List VP} (h:(gvR K u d L).2.2.2=0):vqE K (gvR K u d L).1 (gvR K u d L).2.1 (gvR K u d L).2.2.1=0:=by
 have hf:=hK.f
 cases h1:enoughV K u d L with
 | true =>
  rw [xD h1]
  show vqE K u d (chosenV K u d L)=0
  have hl:=xm h1
  have h0:0<(chosenV K u d L).length:=by omega
  have hg:=(jC _ (List.getElem_mem h0)).2
  unfold vgB at hg
  simp only [Bool.and_eq_true,decide_eq_true_eq]at hg
  have hu:u≠0:=by
   intro hu
   have hv:=hg.2.2
   unfold vvS vvE at hv
   split at hv
   ·cases hv
   ·split at hv
    ·cases hv
    ·split at hv
     ·rename_i h5
      rw [hg.1,hu]at h5
      exact absurd h5 (by decide)
     ·cases hv
  unfold vqE
  rw [if_neg hu]
  exact zer h1
 | false=>rw [ki h1]at h;exact absurd h (by decide)
theorem zeu {K:KP} (hK:K.ok) (u:Int) (d:Nat) (A:Option Addr) (cap:Nat) (L:List VP) (hl:L.length≤100000) (w:World) (hS:Std w) (hk:K.at w) (hL:Vps w A L) :
 Calls Tryz.prog 30 #[.agg K.C,.int .i64 u,.int .u64 (d:Nat),.slice A L.length cap] w fun e w'=>∃ B j N,e=.returned (.tuple #[.agg (vqC (gvR K u d L).1 (gvR K u d L).2.1 B (gvR K u d L).2.2.1.length j),.int .i64 (gvR K u d L).2.2.2])∧MvV (gvR K u d L).2.2.1 N∧Vps w' B N∧(∀ ad,B=some ad→w.heap.size≤ad.block∧ad.block<w'.heap.size)∧(∀ S∈N,∀ ad,S.A=some ad→S.l=[]∨w.heap.size≤ad.block)∧Grew w w':=by
 have hf:=hK.f
 cases h1:enoughV K u d L with
 | true =>
  rw [xD h1]
  refine(jB hK u d A cap L hl w hS hk hL h1).mono ?_
  rintro e w' ⟨⟨B,j,N,rfl,hm,hv,hb,hn,-⟩,gg⟩
  refine⟨B,j,N,rfl,hm,hv,fun ad h=>⟨hb ad h,?_⟩,hn,gg⟩
  have h0:0<N.length:=by rw [hm.len,xm h1];omega
  obtain⟨q,e1,h2,-⟩:=hv.get 0 h0
  rw [e1]at h
  cases h
  exact h2
 | false =>
  rw [ki h1]
  refine(zcc hK u d A cap L hl w hS hk hL h1).mono ?_
  rintro e w' ⟨rfl,gg⟩
  exact⟨none,0,[],rfl,MvV.nil,zbq _,fun ad h=>(by cases h),fun S hS=>absurd hS (by simp),gg⟩
theorem zev {K:KP} (hK:K.ok) (u:Int) (d:Nat) (A:Option Addr) (cap:Nat) (L:List VP) (hl:L.length≤100000) (w:World) (hS:Std w) (hk:K.at w) (hL:VpsG w A L) :
 Calls Tryz.prog 32 #[.agg K.C,.int .i64 u,.int .u64 (d:Nat),.slice A L.length cap] w fun e w'=>∃ D j,e=.returned (.tuple #[.agg (vqC (gvR K u d L).1 (gvR K u d L).2.1 D (gvR K u d L).2.2.1.length j),.int .i64 (gvR K u d L).2.2.2])∧Vps w' D (gvR K u d L).2.2.1∧Grew w w':=by
 refine(zch hK u d A cap L hl w hS hk hL).mono ?_
 rintro e w' ⟨ho,⟨v,rfl⟩,gg⟩
 rcases ho.out with ⟨h1,h2⟩ | ⟨h1,D,j,h2,h3⟩
 ·rw [ki h1]
  have h2':v=_:=h2
  exact⟨none,0,by rw [h2'];rfl,zbq _,gg⟩
 ·rw [xD h1]
  have h2':v=_:=h2
  exact⟨D,j,by rw [h2'],h3,gg⟩
structure ToV (S:VP) (W:World) (v:Value):Prop where
 out:∃ A c,v=.agg (S.mv A c).C∧(S.mv A c).at W
theorem ToV.gr {S:VP} {w w':World} {v:Value} (h:ToV S w v) (g:Grew w w'):ToV S w' v:=by
 obtain⟨A,c,h1,h2⟩:=h.out
 exact⟨A,c,h1,h2.gr g⟩
structure OfQ (L:List VP) (W:World) (v:Value) (f:Option Addr→Nat→Value):Prop where
 out:∃ B k M,v=f B k∧MvV L M∧Vps W B M
theorem OfQ.gr {L:List VP} {w w':World} {v:Value} {f:Option Addr→Nat→Value} (h:OfQ L w v f) (g:Grew w w'):OfQ L w' v f:=by
 obtain⟨B,k,M,h1,h2,h3⟩:=h.out
 exact⟨B,k,M,h1,h2,h3.gr g⟩
structure OfQG (L:List VP) (W:World) (v:Value) (f:Option Addr→Nat→Value):Prop where
 out:∃ B k M,v=f B k∧MvV L M∧VpsG W B M
theorem OfQG.gr {L:List VP} {w w':World} {v:Value} {f:Option Addr→Nat→Value} (h:OfQG L w v f) (g:Grew w w'):OfQG L w' v f:=by
 obtain⟨B,k,M,h1,h2,h3⟩:=h.out
 exact⟨B,k,M,h1,h2,h3.gr g⟩
structure VgS (w:World) (B:Nat) (L:List VP) (lo hi:Nat) (v:Value) (f:Option Addr→Nat→Value):Prop where
 out:∃ A c M,v=f A c∧MvV L M∧Vps w A M∧B≤lo∧(∀ ad,A=some ad→lo≤ad.block∧ad.block<hi)∧(∀ S∈M,∀ ad,S.A=some ad→S.l=[]∨(lo≤ad.block∧ad.block<hi))
theorem VgS.gr {w w':World} {B:Nat} {L:List VP} {lo hi:Nat} {v:Value} {f:Option Addr→Nat→Value} (h:VgS w B L lo hi v f) (k:Grew w w'):VgS w' B L lo hi v f:=by
 obtain⟨A,c,M,h1,h2,h3,h4⟩:=h.out
 exact⟨A,c,M,h1,h2,h3.gr k,h4⟩
structure VgF (w0:World) (mu:Int) (md:Nat) (L:List VP) (v:Value) (W:World):Prop where
 out:∃ B j N q,v=.pointer (some ⟨q,0,none⟩)∧Ag W q (vqC mu md B L.length j).toList∧MvV L N∧Vps W B N∧w0.heap.size≤q∧Grew w0 W
theorem VgF.gr {w0:World} {mu:Int} {md:Nat} {L:List VP} {v:Value} {x y:World} (h:VgF w0 mu md L v x) (g:Grew x y):VgF w0 mu md L v y:=by
 obtain⟨B,j,N,q,h1,h2,h3,h4,h5,h6⟩:=h.out
 exact⟨B,j,N,q,h1,h2.grew g,h3,h4.gr g,h5,zc h6 g⟩
theorem RaV.some {w:World} {A:Option Addr} {L:List VP} (h:RaV w A L) (i:Nat) (hi:i<L.length):∃ ad,A=some ad:=by
 obtain⟨ad,e,-⟩:=h i hi
 exact⟨ad,e⟩
theorem zj1 {w:World} {A:Option Addr} {L:List VP} (h:fewV L=true) (hrd:RaV w A L) (hok:∀ S∈L,S.l.length≤1000→S.ok) (hat:∀ S∈L,S.at w):VpsG w A L∧L.length≤10:=by
 unfold fewV at h
 rw [Bool.and_eq_true,decide_eq_true_eq,List.all_eq_true]at h
 exact⟨⟨hrd,fun S hS=>hok S hS (by have:=of_decide_eq_true (h.2 S hS);omega),hat⟩,h.1⟩
theorem zew (u:Int) (d:Nat) (A:Option Addr) (n c:Nat):Tryz.prog.built 28 [(0,.int .i64 u),(1,.int .u64 (d:Nat)),(2,.slice A n c)]=some (vqC u d A n c):=by kernel_rfl
theorem zci (K:KP) (hRb:∀ z∈K.R,z<18446744073709551616) (A:Option Addr) (cap:Nat) (L:List VP) (u:Int) (hu:in64 u) (d:Nat) (hd:d<18446744073709551616) (w:World) (hS:Std w)
 (hrR:K.at w) (hrd:RaV w A L) (hok:∀ S∈L,S.l.length≤1000→S.ok) (hat:∀ S∈L,S.at w) :
 Calls Tryz.prog 4 #[.agg K.C,.slice A L.length cap,.int .i64 u,.int .u64 (d:Nat)] w fun e w'=>e=.returned (.bool true)∧Grew w w':=by
 have z0:=Ag.new w 24 K.C
 have G0:=ze (za w) (.cells K.C 24)
 have huk:=Tryz.underlying24
 have hukt:=Tryz.underlying49
 have hut:=Tryz.underlying38
 have hur:=Tryz.underlying28
 have hus:=Tryz.underlying75
 have SIK:Hid ((Tryz.prog.info? 24).map (·.size)=some K.C.toList.length):=hQ9 qM
 have CK:=hQ9 (fun W hW=>zep W hW)
 have CCK:Hid (∀ W,Calls Tryz.prog 13 #[.agg K.C] W fun e w'=>e=.returned (.int .i64 (cyE K.f K.R.length K.h))∧Grew W w'):=hQ9 (fun W=>zb8 K.f K.R K.RA K.Rc K.h W)
 have CF1:=hQ9 (fun W (h:RaV W A L)=>zh2 u d A cap L W h)
 obtain⟨g0,hg0⟩:∃ g,vqC u d A L.length cap=g:=⟨_,rfl⟩
 rw [hg0]at CF1
 have HBU:Hid (Tryz.prog.built 28 [(0,.int .i64 u),(1,.int .u64 (d:Nat)),(2,.slice A L.length cap)]=some g0):=hQ9 (by rw [←hg0];exact zew u d A L.length cap)
 have SIG0:Hid ((Tryz.prog.info? 28).map (·.size)=some g0.toList.length):=hQ9 (by rw [←hg0];exact zQ)
 have SIG:Hid ((Tryz.prog.info? 28).map (·.size)=some g0.size):=hQ9 (by rw [←hg0];exact zQ)
 have HOG:Hid (g0.all (·.oneCell')=true):=hQ9 (by rw [←hg0];exact yl _ _ _ _ _)
 have HG0:=hQ9 hg0
 have HS:=hQ9 hS
 have HRd:=hQ9 hrd
 have HOK:=hQ9 hok
 have HAT:=hQ9 hat
 have HKR:=hQ9 hrR
 have HRb:=hQ9 hRb
 have HU:=hQ9 hu
 have HD:=hQ9 hd
 clear hS hrd hok hat hrR hRb hg0 hu hd
 go_enter Tryz.func4,Tryz.ntmps4
 go_wp2_with fail
 refine(CK.out _ (HS.out.grew G0)).mono ?_
 rintro e w1 ⟨rfl,gg⟩
 have z0:=z0.grew gg
 have G1:=zc G0 gg
 clear CK gg G0
 obtain⟨w2,hw2,ht2,g2,z2⟩:=zU w1 28 (#[.int .i64 0,.int .u64 0,.slice none 0 0]:Array Value) g0 (by rw [←HG0.out];rfl)
 have HW2:=hQ9 hw2
 have HT2:=hQ9 ht2
 have z0:=z0.grew g2
 have G2:=zc G1 g2
 have hmk:=z0.cell
 clear hw2 ht2 g2 G1
 go_wp2_with(first
  | (with_reducible refine zA rfl 28 #[(0,.tmp 18),(1,.tmp 19),(2,.tmp 20)] rfl g0 ?_ ?_;· simpa [Act.eval,Act.put]using HBU.out)
  | (with_reducible refine wpList_store_mid rfl 28 (.tmp 9) (.tmp 21) rfl w1.heap.size 0 g0 rfl rfl HT2.out SIG.out HOG.out ?_;rw [HW2.out];clear HW2 HT2)
  | (with_reducible refine wpList_load_mid rfl 24 (.tmp 4) rfl w.heap.size 0 rfl K.C.toList _ hmk huk rfl SIK.out ?_;simp only [Array.toArray_toList]))
 refine(CCK.out _).mono ?_
 rintro e w3 ⟨rfl,gg⟩
 obtain⟨q9,hq9⟩:∃ q,w1.heap.size=q:=⟨_,rfl⟩
 rw [hq9]at z2 ⊢
 have z0:=z0.grew gg
 have z2:=z2.grew gg
 have G3:=zc G2 gg
 clear CCK gg G2 hmk hq9
 by_cases hcy:cyE K.f K.R.length K.h=0
 rotate_left
 ·have e15:(cyE K.f K.R.length K.h != 0)=true:=by simpa using hcy
  clear hcy z0 z2
  generalize cyE K.f K.R.length K.h=ey at *
  go_wp2_with fail
  go_ret
  exact⟨rfl,G3⟩
 have HCY:=hQ9 hcy
 rw [hcy]
 clear hcy
 have CF:=CF1.out w3 (HRd.out.gr G3)
 have hmc:=z2.cell
 cases hfw:fewV L with
 | false =>
  rw [hfw]at CF
  have HCF:=hQ9 CF
  clear CF z0 z2 hfw
  go_wp2_with(refine zg (by rfl) 28 (.tmp 9) rfl q9 0 rfl g0.toList _ hmc hur rfl SIG0.out ?_;simp only [Array.toArray_toList])
  refine HCF.out.mono ?_
  rintro e w4 ⟨rfl,gg⟩
  go_wp2_with fail
  go_ret
  exact⟨rfl,zc G3 gg⟩
 | true =>
 rw [hfw]at CF
 have HCF:=hQ9 CF
 have hsp:=zj1 hfw HRd.out HOK.out HAT.out
 have HVP:=hQ9 hsp.1
 have HL12:=hQ9 hsp.2
 clear CF hsp HOK HAT hfw HRd
 have hK:K.ok:=by
  have h1:=HCY.out
  unfold cyE at h1
  split at h1
  ·cases h1
  ·split at h1
   ·rename_i h2 h3
    exact⟨by omega,by have:=h3.1;omega,HRb.out⟩
   ·cases h1
 have HK:=hQ9 hK
 clear HCY hK
 go_wp2_with(refine zg (by rfl) 28 (.tmp 9) rfl q9 0 rfl g0.toList _ hmc hur rfl SIG0.out ?_;simp only [Array.toArray_toList])
 clear hmc
 refine HCF.out.mono ?_
 rintro e w4 ⟨rfl,gg⟩
 have z0:=z0.grew gg
 have z2:=z2.grew gg
 have G4:=zc G3 gg
 clear HCF gg G3
 have CTK:Hid (∀ W,K.at W→Calls Tryz.prog 17 #[.agg K.C] W fun e w'=>(∃ A' c',e=.returned (.agg (kyS K.f A' K.R.length c' K.h))∧Rd w' w'.heap.size A' (u64L K.R))∧Grew W w'):=hQ9 (fun W h=>(zfx K.f K.R K.RA K.Rc K.h (by have:=HK.out.len;omega) W h).mono (by rintro e z ⟨A',c',h1,h2,h3,-⟩;exact⟨⟨A',c',h1,h2⟩,h3⟩))
 have hmk:=z0.cell
 go_wp2_with(with_reducible refine wpList_load_mid rfl 24 (.tmp 4) rfl w.heap.size 0 rfl K.C.toList _ hmk huk rfl SIK.out ?_;simp only [Array.toArray_toList])
 refine(CTK.out w4 (HKR.out.gr G4)).mono ?_
 rintro e w5 ⟨⟨RA,Rc,rfl,hRd⟩,g5⟩
 obtain⟨kc,hkc⟩:∃ v,kyS K.f RA K.R.length Rc K.h=v:=⟨_,rfl⟩
 have HKC:=hQ9 hkc
 have HSK:Hid ((Tryz.prog.info? 49).map (·.size)=some kc.size):=hQ9 (by rw [←hkc];kernel_rfl)
 have HSKL:Hid ((Tryz.prog.info? 49).map (·.size)=some kc.toList.length):=hQ9 (by rw [←hkc];kernel_rfl)
 have HOKK:Hid (kc.all (·.oneCell')=true):=hQ9 (by rw [←hkc];simp [kyS,Value.oneCell'])
 obtain⟨w6,hw6,ht6,g6,z6⟩:=zU w5 49 (#[.int .i64 0,.slice none 0 0,.int .i64 0]) kc (by rw [←hkc];rfl)
 have HW6:=hQ9 hw6
 have HT6:=hQ9 ht6
 rw [hkc]
 have G46:=zc g5 g6
 have HGW:=hQ9 (zc G4 G46)
 have HRK:Hid (∀ y,Grew w6 y→(⟨K.f,K.R,RA,Rc,K.h⟩:KP).at y):=hQ9 (fun y g=>hRd.gr (zc g6 g))
 have HZK:Hid (∀ y,Grew w6 y→y.rangeAt w5.heap.size 0 kc.toList):=hQ9 (fun y g=>(z6.grew g).cell)
 have HM1:=hQ9 (fun y (g:Grew w6 y)=>(z0.grew (zc G46 g)).cell)
 have HM2:=hQ9 (fun y (g:Grew w6 y)=>(z2.grew (zc G46 g)).cell)
 have hK':Hid (⟨K.f,K.R,RA,Rc,K.h⟩:KP).ok:=hQ9 ⟨HK.out.f,HK.out.len,HK.out.b⟩
 have HSY:Hid (∀ y,Grew w6 y→Std y):=hQ9 (fun y g=>HS.out.grew (zc HGW.out g))
 have HVG:Hid (∀ y,Grew w6 y→VpsG y A L):=hQ9 (fun y g=>HVP.out.gr (zc HGW.out g))
 have HKG:Hid (∀ y,Grew w6 y→K.at y):=hQ9 (fun y g=>HKR.out.gr (zc HGW.out g))
 clear hw6 ht6 hkc hmk hRd g5 g6 z6 G46 CTK z0 z2 G4
 go_wp2_with(with_reducible refine wpList_store_mid rfl 49 (.tmp 10) (.tmp 31) rfl w5.heap.size 0 kc rfl rfl HT6.out HSK.out HOKK.out ?_;rw [HW6.out];clear HW6 HT6)
 obtain⟨qk,hqk⟩:∃ q,w5.heap.size=q:=⟨_,rfl⟩
 rw [hqk]at HZK ⊢
 clear hqk
 go_loopw [11] (fun iv wr=>∃ i:Nat,i≤L.length∧iv=.int .i64 (i:Int)∧Grew w6 wr) (fun iv _=>L.length-(Go.RowKit.intOf iv).toNat)
 case atStart=>exact⟨0,by omega,rfl,za _⟩
 case round =>
  obtain⟨i,hi,rfl,gj⟩:=hrel
  have HGJ:=hQ9 gj
  by_cases hlt:i<L.length
  ·obtain⟨ad,hA,hql,hr⟩:=(HVG.out wr gj).rd i hlt
   have HSOK:Hid L[i].ok:=hQ9 ((HVG.out wr gj).ok _ (List.getElem_mem hlt))
   have HSAT:Hid (∀ y,Grew wr y→L[i].at y):=hQ9 (fun y g=>((HVG.out wr gj).at_ _ (List.getElem_mem hlt)).gr g)
   have HRY:Hid (∀ y,Grew wr y→∀ j v,L[i].C.toList[j]?=some v→y.cell? ((ad.add (i*24)).add j)=some v):=hQ9 (fun y g j v hj=>(g.cell (p:=(ad.add (i*24)).add j) (by rw [zo,zo];exact hql)).trans (hr j v hj))
   have h1:(i:Int)<(L.length:Int):=by omega
   have h0:(0:Int)≤(i:Int):=by omega
   have HI:=hQ9 hlt
   have e49:IntKind.i64.wrap ((i:Int)+1)=((i+1:Nat):Int):=by have:=HL12.out;rw [IntWalk.i64_in _ (by omega)];omega
   subst hA
   generalize L[i]=S at *
   clear hr hql hlt hi gj
   obtain⟨sv,hsv⟩:∃ v,vvS K S=v:=⟨_,rfl⟩
   have CTV:Hid (∀ y,Grew wr y→Calls Tryz.prog 28 #[.agg S.C] y fun e w'=>∃ A2 c2,e=.returned (.agg (S.mv A2 c2).C)∧(S.mv A2 c2).at w'∧(∀ ad,A2=some ad→y.heap.size≤ad.block)∧Grew y w'):=hQ9 (fun y g=>zda S HSOK.out y (HSAT.out y g))
   have CVV:Hid (∀ A c y,Grew wr y→(S.mv A c).at y→Calls Tryz.prog 27 #[.agg kc,.agg (S.mv A c).C] y fun e w'=>e=.returned (.int .i64 sv)∧Grew y w'):=hQ9 (fun A c y g ha=>by
    have:=xw hK'.out (VP.mv_ok HSOK.out A c) y (HSY.out y (zc HGJ.out g)) (HRK.out y (zc HGJ.out g)) ha
    rw [show vvS (⟨K.f,K.R,RA,Rc,K.h⟩:KP) (S.mv A c)=sv from hsv,show(⟨K.f,K.R,RA,Rc,K.h⟩:KP).C=kc from HKC.out]at this
    exact this)
   have CRV:Hid (∀ y,Grew wr y→Calls Tryz.prog 29 #[.agg K.C,.agg S.C] y fun e w'=>e=.returned (.int .i64 sv)∧Grew y w'):=hQ9 (fun y g=>by
    have:=kY HK.out HSOK.out y (HSY.out y (zc HGJ.out g)) (HKG.out y (zc HGJ.out g)) (HSAT.out y g)
    rw [hsv]at this
    exact this)
   have HZKr:Hid (∀ y,Grew wr y→y.rangeAt qk 0 kc.toList):=hQ9 (fun y g=>HZK.out y (zc HGJ.out g))
   have HM1r:Hid (∀ y,Grew wr y→y.rangeAt w.heap.size 0 K.C.toList):=hQ9 (fun y g=>HM1.out y (zc HGJ.out g))
   have SIS:Hid ((Tryz.prog.info? 75).map (·.size)=some S.C.toList.length):=hQ9 yt
   clear hsv
   go_upto_region 10 with fail
   refine yH 13 (fun ix9=>match ix9 with
    | 0=>fun v _=>v=.agg kc
    | 1=>fun v _=>v=.slice (some ad) L.length cap
    | 2=>fun v _=>v=.int .i64 (i:Int)
    | 3=>fun v _=>v=.pointer (some (ad.add (i*24)))
    | 4=>fun v _=>v=.agg S.C
    | 5=>fun v W=>ToV S W v
    | 6=>fun v _=>v=.int .i64 sv
    | 7=>fun v _=>v=.agg K.C
    | 8=>fun v _=>v=.slice (some ad) L.length cap
    | 9=>fun v _=>v=.int .i64 (i:Int)
    | 10=>fun v _=>v=.pointer (some (ad.add (i*24)))
    | 11=>fun v _=>v=.agg S.C
    | 12=>fun v _=>v=.int .i64 sv
    | _=>fun _ _=>True) (fun ix9=>match ix9 with
    | 5=>fun _ _ _ _=>True
    | _=>fun _ _ _ _=>True) (fun ix9=>match ix9 with
    | ix8=>ix8) (fun ix9=>match ix9 with
    | ix8=>ix8) (by kernel_rfl) (by kernel_rfl) (by kernel_rfl) ?_ ?_ ?_ ?_
   ·intro i v x y h hg
    match i,h with
    | 0,h | 1,h | 2,h | 3,h | 4,h | 6,h | 7,h | 8,h | 9,h | 10,h | 11,h | 12,h=>exact h
    | 5,h=>exact ToV.gr h hg
    | m+13,_=>trivial
   ·simp only [actOf,tk1,tk0,dr1,dr0,Act.put,si1,st1,st0,Nat.reduceAdd]
    refine⟨?_,?_,?_,?_,?_,?_,?_,?_,?_,?_,?_,?_,?_,trivial⟩
    ·intro vs lo hi y hg hd hvia
     replace hg:Grew wr y:=hg
     clear hvia
     dsimp only
     have hm:=HZKr.out y hg
     go_wp2_with(with_reducible refine wpList_load_mid rfl 49 (.tmp 10) rfl qk 0 rfl kc.toList _ hm hukt rfl HSKL.out ?_;simp only [Array.toArray_toList])
     first | exact⟨rfl,_,rfl,za _,rfl⟩ | exact⟨rfl,_,rfl,za _,rfl,trivial⟩
    ·intro vs lo hi y hg hd hvia
     replace hg:Grew wr y:=hg
     clear hvia
     dsimp only
     go_wp2_with fail
     first | exact⟨rfl,_,rfl,za _,rfl⟩ | exact⟨rfl,_,rfl,za _,rfl,trivial⟩
    ·intro vs lo hi y hg hd hvia
     replace hg:Grew wr y:=hg
     clear hvia
     dsimp only
     go_wp2_with fail
     first | exact⟨rfl,_,rfl,za _,rfl⟩ | exact⟨rfl,_,rfl,za _,rfl,trivial⟩
    ·intro vs lo hi y hg hd hvia
     replace hg:Grew wr y:=hg
     obtain⟨h1,h2,_⟩:=hd
     replace h1:=h1 rfl
     replace h2:=h2 rfl
     clear hvia
     dsimp only
     rw [show vs 1=_ from h1,show vs 2=_ from h2]
     go_wp2_with fail
     first | exact⟨rfl,_,rfl,za _,rfl⟩ | exact⟨rfl,_,rfl,za _,rfl,trivial⟩
    ·intro vs lo hi y hg hd hvia
     replace hg:Grew wr y:=hg
     obtain⟨h3,_⟩:=hd
     replace h3:=h3 rfl
     clear hvia
     dsimp only
     rw [show vs 3=_ from h3]
     have hm:=HRY.out y hg
     go_wp2_with(with_reducible refine zL rfl 75 (.tmp 41) rfl (ad.add (i*24)) rfl S.C.toList _ hm hus rfl SIS.out ?_;simp only [Array.toArray_toList])
     first | exact⟨rfl,_,rfl,za _,rfl⟩ | exact⟨rfl,_,rfl,za _,rfl,trivial⟩
    ·intro vs lo hi y hg hd hvia
     replace hg:Grew wr y:=hg
     obtain⟨h4,_⟩:=hd
     replace h4:=h4 rfl
     clear hvia
     dsimp only
     rw [show vs 4=_ from h4]
     go_wp2_with(go_at_call 28;refine(CTV.out y hg).mono ?_;rintro e z ⟨A9,c9,rfl,hat9,-,gz⟩)
     exact⟨rfl,_,rfl,gz,⟨A9,c9,rfl,hat9⟩,trivial⟩
    ·intro vs lo hi y hg hd hvia
     replace hg:Grew wr y:=hg
     obtain⟨h0,h5,_⟩:=hd
     replace h0:=h0 rfl
     replace h5:=h5 rfl
     clear hvia
     dsimp only
     rw [show vs 0=_ from h0]
     obtain⟨A9,c9,e9,hat9⟩:=ToV.out h5
     rw [e9]
     go_wp2_with(go_at_call 27;refine(CVV.out A9 c9 y hg hat9).mono ?_;rintro e z ⟨rfl,gz⟩)
     first | exact⟨rfl,_,rfl,gz,rfl⟩ | exact⟨rfl,_,rfl,gz,rfl,trivial⟩
    ·intro vs lo hi y hg hd hvia
     replace hg:Grew wr y:=hg
     clear hvia
     dsimp only
     have hm:=HM1r.out y hg
     go_wp2_with(with_reducible refine wpList_load_mid rfl 24 (.tmp 4) rfl w.heap.size 0 rfl K.C.toList _ hm huk rfl SIK.out ?_;simp only [Array.toArray_toList])
     first | exact⟨rfl,_,rfl,za _,rfl⟩ | exact⟨rfl,_,rfl,za _,rfl,trivial⟩
    ·intro vs lo hi y hg hd hvia
     replace hg:Grew wr y:=hg
     clear hvia
     dsimp only
     go_wp2_with fail
     first | exact⟨rfl,_,rfl,za _,rfl⟩ | exact⟨rfl,_,rfl,za _,rfl,trivial⟩
    ·intro vs lo hi y hg hd hvia
     replace hg:Grew wr y:=hg
     clear hvia
     dsimp only
     go_wp2_with fail
     first | exact⟨rfl,_,rfl,za _,rfl⟩ | exact⟨rfl,_,rfl,za _,rfl,trivial⟩
    ·intro vs lo hi y hg hd hvia
     replace hg:Grew wr y:=hg
     obtain⟨h8,h9,_⟩:=hd
     replace h8:=h8 rfl
     replace h9:=h9 rfl
     clear hvia
     dsimp only
     rw [show vs 8=_ from h8,show vs 9=_ from h9]
     go_wp2_with fail
     first | exact⟨rfl,_,rfl,za _,rfl⟩ | exact⟨rfl,_,rfl,za _,rfl,trivial⟩
    ·intro vs lo hi y hg hd hvia
     replace hg:Grew wr y:=hg
     obtain⟨h10,_⟩:=hd
     replace h10:=h10 rfl
     clear hvia
     dsimp only
     rw [show vs 10=_ from h10]
     have hm:=HRY.out y hg
     go_wp2_with(with_reducible refine zL rfl 75 (.tmp 48) rfl (ad.add (i*24)) rfl S.C.toList _ hm hus rfl SIS.out ?_;simp only [Array.toArray_toList])
     first | exact⟨rfl,_,rfl,za _,rfl⟩ | exact⟨rfl,_,rfl,za _,rfl,trivial⟩
    ·intro vs lo hi y hg hd hvia
     replace hg:Grew wr y:=hg
     obtain⟨h7,h11,_⟩:=hd
     replace h7:=h7 rfl
     replace h11:=h11 rfl
     clear hvia
     dsimp only
     rw [show vs 7=_ from h7,show vs 11=_ from h11]
     go_wp2_with(go_at_call 29;refine(CRV.out y hg).mono ?_;rintro e z ⟨rfl,gz⟩)
     first | exact⟨rfl,_,rfl,gz,rfl⟩ | exact⟨rfl,_,rfl,gz,rfl,trivial⟩
   ·intro i lo hi v x y h hg
    match i,h with
    | 5,_=>trivial
    | 0,_=>trivial
    | 1,_=>trivial
    | 2,_=>trivial
    | 3,_=>trivial
    | 4,_=>trivial
    | m+6,_=>trivial
   ·intro vs lo hi w7 hg hJ hK hB hD
    replace hg:Grew wr w7:=hg
    have k43:=hK 5 (by decide)
    have b43:=hB 5 (by decide)
    clear hK hB hD
    have j0:vs 0=.agg kc:=hJ 0 (by decide)
    have j1:vs 1=.slice (some ad) L.length cap:=hJ 1 (by decide)
    have j2:vs 2=.int .i64 (i:Int):=hJ 2 (by decide)
    have j3:vs 3=.pointer (some (ad.add (i*24))):=hJ 3 (by decide)
    have j4:vs 4=.agg S.C:=hJ 4 (by decide)
    have j6:vs 6=.int .i64 sv:=hJ 6 (by decide)
    have j7:vs 7=.agg K.C:=hJ 7 (by decide)
    have j8:vs 8=.slice (some ad) L.length cap:=hJ 8 (by decide)
    have j9:vs 9=.int .i64 (i:Int):=hJ 9 (by decide)
    have j10:vs 10=.pointer (some (ad.add (i*24))):=hJ 10 (by decide)
    have j11:vs 11=.agg S.C:=hJ 11 (by decide)
    have j12:vs 12=.int .i64 sv:=hJ 12 (by decide)
    have s43:=hJ 5 (by decide)
    clear hJ
    simp only [actOf,tk1,tk0,dr1,dr0,Act.put,si1,st1,st0,Nat.reduceAdd]
    rw [show vs 6=_ from j6,show vs 12=_ from j12]
    have HG7:=hQ9 hg
    clear hg s43
    try clear b43
    try clear k43
    try clear j0
    try clear j1
    try clear j2
    try clear j3
    try clear j4
    try clear j6
    try clear j7
    try clear j8
    try clear j9
    try clear j10
    try clear j11
    try clear j12
    have e51:(sv != sv)=false:=by simp
    go_wp2_with fail
    go_roundw
    case rel=>exact⟨i+1,by have:=HI.out;omega,by go_num,zc HGJ.out HG7.out⟩
    case measure=>have:=HI.out;simp [Go.RowKit.intOf]<;>omega
  obtain rfl:i=L.length:=by omega
  clear hlt hi
  have HZKr:Hid (∀ y,Grew wr y→y.rangeAt qk 0 kc.toList):=hQ9 (fun y g=>HZK.out y (zc HGJ.out g))
  have HM1r:Hid (∀ y,Grew wr y→y.rangeAt w.heap.size 0 K.C.toList):=hQ9 (fun y g=>HM1.out y (zc HGJ.out g))
  have HM2r:Hid (∀ y,Grew wr y→y.rangeAt q9 0 g0.toList):=hQ9 (fun y g=>HM2.out y (zc HGJ.out g))
  have HRKr:Hid (∀ y,Grew wr y→(⟨K.f,K.R,RA,Rc,K.h⟩:KP).at y):=hQ9 (fun y g=>HRK.out y (zc HGJ.out g))
  have HSYr:Hid (∀ y,Grew wr y→Std y):=hQ9 (fun y g=>HSY.out y (zc HGJ.out g))
  have HVGr:Hid (∀ y,Grew wr y→VpsG y A L):=hQ9 (fun y g=>HVG.out y (zc HGJ.out g))
  have HKGr:Hid (∀ y,Grew wr y→K.at y):=hQ9 (fun y g=>HKG.out y (zc HGJ.out g))
  have HGWr:=hQ9 (zc HGW.out gj)
  clear HZK HM1 HM2 HRK HSY HVG HKG HGW HGJ gj
  obtain⟨ga0,hga0⟩:∃ m,gvR K u d L=m:=⟨_,rfl⟩
  obtain⟨mu,md,LE,er⟩:=ga0
  have HGA:=hQ9 hga0
  have CTA:Hid (∀ W,Grew wr W→Calls Tryz.prog 31 #[.slice A L.length cap] W fun e w'=>(∃ B k M,e=.returned (.slice B L.length k)∧MvV L M∧Vps w' B M)∧Grew W w'):=hQ9 (fun W g=>(zbj A cap L (by have:=HL12.out;omega) W (HVGr.out W g)).mono (by rintro e z ⟨B,k,M,h1,h2,h3,-,-,-,-,h6⟩;exact⟨⟨B,k,M,h1,h2,h3⟩,h6⟩))
  have CM:Hid (∀ B k ML,MvV L ML→∀ W,Grew wr W→Vps W B ML→Calls Tryz.prog 30 #[.agg kc,.int .i64 u,.int .u64 (d:Nat),.slice B L.length k] W fun e w'=>∃ B j N,e=.returned (.tuple #[.agg (vqC mu md B LE.length j),.int .i64 er])∧MvV LE N∧Vps w' B N∧(∀ ad,B=some ad→W.heap.size≤ad.block∧ad.block<w'.heap.size)∧(∀ S∈N,∀ ad,S.A=some ad→S.l=[]∨W.heap.size≤ad.block)∧Grew W w'):=hQ9 (fun B k ML hm W g h3=>by
   have:=zeu hK'.out u d B k ML (by rw [hm.len];have:=HL12.out;omega) W (HSYr.out W g) (HRKr.out W g) h3
   rw [hm.len]at this
   obtain⟨m1,m2,m3,m4⟩:=gvR_mv hK'.out (u:=u) (d:=d) hm
   have me:gvR (⟨K.f,K.R,RA,Rc,K.h⟩:KP) u d L=(mu,md,LE,er):=by
    rw [←HGA.out]
    exact gvR_K rfl rfl rfl u d L
   rw [me]at m1 m2 m3 m4
   rw [m1,m2,m4,m3.len,show(⟨K.f,K.R,RA,Rc,K.h⟩:KP).C=kc from HKC.out]at this
   refine this.mono ?_
   rintro e w' ⟨B',j',N',h1,h2,h3,h4,h5,gg⟩
   exact⟨B',j',N',h1,zak m3 h2,h3,h4,h5,gg⟩)
  clear hga0
  go_upto_region 12 with fail
  refine jN 10 11 (fun ix9=>match ix9 with
   | 0=>fun v=>v=.agg kc
   | 1=>fun v=>v=.int .i64 u
   | 2=>fun v=>v=.int .u64 (d:Nat)
   | 3=>fun v=>v=.slice A L.length cap
   | 4=>fun v=>∃ B n,v=.slice B L.length n
   | 5=>fun _=>True
   | 6=>fun v=>∃ B j,v=.tuple #[.agg (vqC mu md B LE.length j),.int .i64 er]
   | 7=>fun _=>True
   | 8=>fun v=>v=.int .i64 er
   | 9=>fun _=>True
   | 10=>fun _=>True
   | _=>fun _=>True) (fun ix9=>match ix9 with
   | 0=>fun v _=>v=.agg kc
   | 1=>fun v _=>v=.int .i64 u
   | 2=>fun v _=>v=.int .u64 (d:Nat)
   | 3=>fun v _=>v=.slice A L.length cap
   | 4=>fun v W=>OfQ L W v (fun B n=>.slice B L.length n)
   | 5=>fun _ _=>True
   | 6=>fun v _=>∃ B j,v=.tuple #[.agg (vqC mu md B LE.length j),.int .i64 er]
   | 7=>fun _ _=>True
   | 8=>fun v _=>v=.int .i64 er
   | 9=>fun _ _=>True
   | 10=>fun _ _=>True
   | _=>fun _ _=>True) (fun ix9=>match ix9 with
   | 5=>fun lo hi v w=>VgS w wr.heap.size LE lo hi v (fun B j=>.tuple #[.agg (vqC mu md B LE.length j),.int .i64 er])
   | 6=>fun lo hi v w=>VgS w wr.heap.size LE lo hi v (fun B j=>.tuple #[.agg (vqC mu md B LE.length j),.int .i64 er])
   | 7=>fun lo hi v w=>VgS w wr.heap.size LE lo hi v (fun B j=>.agg (vqC mu md B LE.length j))
   | 9=>fun lo hi v w=>AgZ w wr.heap.size lo hi (#[.int .i64 0,.int .u64 0,.slice none 0 0]:Array Value).toList v
   | _=>fun _ _ _ _=>True) (fun ix9=>match ix9 with
   | 6=>5
   | 7=>6
   | ix8=>ix8) (fun ix9=>match ix9 with
   | 6=>5
   | 7=>5
   | ix8=>ix8) (fun ix9=>match ix9 with
   | 8=>true
   | _=>false) 9 (fun v W=>VgF wr mu md LE v W) rfl (by kernel_rfl) (by kernel_rfl) (by kernel_rfl) (by kernel_rfl) rfl rfl (by decide) (fun _=>trivial) ?_ ?_ ?_ ?_ ?_ ?_ (fun o ho=>by cases ho;rfl) (fun v x y h hg=>VgF.gr h hg) ?_
  ·intro i v y h
   match i,h with
   | 0,h | 1,h | 2,h | 3,h | 8,h=>exact h
   | 4,h=>exact(OfQ.out h).imp fun A hA=>hA.imp fun k hk=>hk.elim fun M hM=>hM.1
   | 5,_=>trivial
   | 6,h=>exact h
   | 7,_=>trivial
   | 9,_=>trivial
   | 10,h=>exact h
   | m+11,_=>trivial
  ·intro i v x y h hg
   match i,h with
   | 0,h | 1,h | 2,h | 3,h | 8,h=>exact h
   | 4,h=>exact OfQ.gr h hg
   | 5,_=>trivial
   | 6,h=>exact h
   | 7,_=>trivial
   | 9,_=>trivial
   | 10,h=>exact h
   | m+11,_=>trivial
  ·simp only [actOf,tk1,tk0,dr1,dr0,Act.put,si1,st1,st0,Nat.reduceAdd]
   refine⟨?_,?_,?_,?_,?_,?_,?_,?_,?_,?_,trivial⟩
   ·intro vs lo hi y hg hd hvia
    replace hg:Grew wr y:=hg
    clear hvia
    dsimp only
    have hm:=HZKr.out y hg
    go_wp2_with(with_reducible refine wpList_load_mid rfl 49 (.tmp 10) rfl qk 0 rfl kc.toList _ hm hukt rfl HSKL.out ?_;simp only [Array.toArray_toList])
    first | exact⟨rfl,_,rfl,za _,rfl⟩ | exact⟨rfl,_,rfl,za _,rfl,trivial⟩
   ·intro vs lo hi y hg hd hvia
    replace hg:Grew wr y:=hg
    clear hvia
    dsimp only
    go_wp2_with fail
    first | exact⟨rfl,_,rfl,za _,rfl⟩ | exact⟨rfl,_,rfl,za _,rfl,trivial⟩
   ·intro vs lo hi y hg hd hvia
    replace hg:Grew wr y:=hg
    clear hvia
    dsimp only
    go_wp2_with fail
    first | exact⟨rfl,_,rfl,za _,rfl⟩ | exact⟨rfl,_,rfl,za _,rfl,trivial⟩
   ·intro vs lo hi y hg hd hvia
    replace hg:Grew wr y:=hg
    clear hvia
    dsimp only
    go_wp2_with fail
    first | exact⟨rfl,_,rfl,za _,rfl⟩ | exact⟨rfl,_,rfl,za _,rfl,trivial⟩
   ·intro vs lo hi y hg hd hvia
    replace hg:Grew wr y:=hg
    obtain⟨h3,_⟩:=hd
    replace h3:=h3 rfl
    clear hvia
    dsimp only
    rw [show vs 3=_ from h3]
    go_wp2_with(go_at_call 31;refine(CTA.out y hg).mono ?_;rintro e z ⟨⟨B9,k9,M9,rfl,hmv9,hsp9⟩,gz⟩)
    exact⟨rfl,_,rfl,gz,⟨B9,k9,M9,rfl,hmv9,hsp9⟩,trivial⟩
   ·intro vs lo hi y hg hd hvia
    replace hg:Grew wr y:=hg
    obtain⟨h0,h1,h2,h4,_⟩:=hd
    replace h0:=h0 rfl
    replace h1:=h1 rfl
    replace h2:=h2 rfl
    replace h4:=h4 rfl
    clear hvia
    dsimp only
    rw [show vs 0=_ from h0,show vs 1=_ from h1,show vs 2=_ from h2]
    obtain⟨B6,k6,M6,e6,hmv6,hsp6⟩:=OfQ.out h4
    rw [e6]
    go_wp2_with(go_at_call 30;refine(CM.out B6 k6 M6 hmv6 y hg hsp6).mono ?_;rintro e z ⟨B9,j9,N9,rfl,hmn9,han9,hf3,hf4,gz⟩)
    exact⟨rfl,_,rfl,gz,trivial,⟨B9,j9,N9,rfl,hmn9,han9,hg.size,hf3,fun S hS ad h=>by
     rcases hf4 S hS ad h with h1 | h1
     ·exact .inl h1
     ·exact(ya (han9.at_ S hS) ad h).imp id (fun h2=>⟨h1,h2⟩)⟩⟩
   ·intro vs lo hi y hg hd hvia
    replace hg:Grew wr y:=hg
    obtain⟨h5,_⟩:=hd
    replace h5:=h5 rfl
    have hv9:(fun lo hi v w=>VgS w wr.heap.size LE lo hi v (fun B j=>.tuple #[.agg (vqC mu md B LE.length j),.int .i64 er])) (lo 5) (hi 5) (vs 5) y:=hvia rfl
    clear hvia
    dsimp only
    obtain⟨B9,j9,N9,e9,hr9⟩:=VgS.out hv9
    rw [e9]
    go_wp2_with fail
    exact⟨rfl,_,rfl,za _,⟨B9,j9,rfl⟩,⟨B9,j9,N9,rfl,hr9⟩⟩
   ·intro vs lo hi y hg hd hvia
    replace hg:Grew wr y:=hg
    obtain⟨h6,_⟩:=hd
    replace h6:=h6 rfl
    have hv9:(fun lo hi v w=>VgS w wr.heap.size LE lo hi v (fun B j=>.tuple #[.agg (vqC mu md B LE.length j),.int .i64 er])) (lo 6) (hi 6) (vs 6) y:=hvia rfl
    clear hvia
    dsimp only
    obtain⟨B9,j9,N9,e9,hr9⟩:=VgS.out hv9
    rw [e9]
    go_wp2_with fail
    exact⟨rfl,_,rfl,za _,⟨B9,j9,N9,rfl,hr9⟩⟩
   ·intro vs lo hi y hg hd hvia
    replace hg:Grew wr y:=hg
    obtain⟨h6,_⟩:=hd
    replace h6:=h6 rfl
    clear hvia
    dsimp only
    obtain⟨B9,j9,e9⟩:=h6
    rw [e9]
    go_wp2_with fail
    first | exact⟨rfl,_,rfl,za _,rfl⟩ | exact⟨rfl,_,rfl,za _,rfl,trivial⟩
   ·intro vs lo hi y hg hd hvia
    replace hg:Grew wr y:=hg
    clear hvia
    dsimp only
    go_wp2_with fail
    exact⟨rfl,_,rfl,ze (za _) _,⟨y.heap.size,rfl,Ag.new y 38 (#[.int .i64 0,.int .u64 0,.slice none 0 0]:Array Value),hg.size,Nat.le_refl _,by show y.heap.size<(y.alloc _).heap.size;simp⟩⟩
  ·refine⟨(fun h=>absurd h (by decide)),(fun h=>absurd h (by decide)),(fun h=>absurd h (by decide)),(fun h=>absurd h (by decide)),(fun h=>absurd h (by decide)),(fun h=>absurd h (by decide)),(fun h=>absurd h (by decide)),(fun h=>absurd h (by decide)),?_,(fun h=>absurd h (by decide)),(fun h=>absurd h (by decide)),trivial⟩
   ·intro _ vs y hd
    obtain⟨h6,_⟩:=hd
    replace h6:=h6 rfl
    simp only [actOf,tk1,tk0,dr1,dr0,Act.put,si1,st1,st0,Nat.reduceAdd]
    obtain⟨B9,j9,e9⟩:=h6
    rw [e9]
    go_wp2_with fail
    first | exact⟨rfl,_,rfl,za _,rfl⟩ | exact⟨rfl,_,rfl,za _,rfl,trivial⟩
  ·intro i lo hi v x y h hg
   match i,h with
   | 5,h=>exact VgS.gr h hg
   | 6,h=>exact VgS.gr h hg
   | 7,h=>exact VgS.gr h hg
   | 9,h=>exact AgZ.gr h hg
   | 0,_=>trivial
   | 1,_=>trivial
   | 2,_=>trivial
   | 3,_=>trivial
   | 4,_=>trivial
   | 8,_=>trivial
   | m+10,_=>trivial
  ·intro vs lo hi y hg hJ hK hB hD
   replace hg:Grew wr y:=hg
   have k58:=hK 5 (by decide) rfl
   have b58:=hB 5 (by decide) rfl
   have k52:=hK 6 (by decide) rfl
   have b52:=hB 6 (by decide) rfl
   have k59:=hK 7 (by decide) rfl
   have b59:=hB 7 (by decide) rfl
   have k12:=hK 9 (by decide) rfl
   have b12:=hB 9 (by decide) rfl
   have d58_12:=hD 5 (by decide) rfl 9 (by decide) rfl (by decide)
   have d52_12:=hD 6 (by decide) rfl 9 (by decide) rfl (by decide)
   have d59_12:=hD 7 (by decide) rfl 9 (by decide) rfl (by decide)
   clear hK hB hD
   have j0:vs 0=.agg kc:=hJ 0 (by decide) rfl
   have j1:vs 1=.int .i64 u:=hJ 1 (by decide) rfl
   have j2:vs 2=.int .u64 (d:Nat):=hJ 2 (by decide) rfl
   have j3:vs 3=.slice A L.length cap:=hJ 3 (by decide) rfl
   clear hJ
   simp only [actOf,tk1,tk0,dr1,dr0,Act.put,si1,st1,st0,Nat.reduceAdd]
   obtain⟨B7,j7c,N7,e56,hmn7,han7,hb7,hrD,hrN⟩:=VgS.out k59
   obtain⟨q,e7,zq,hBq,hql,hqh⟩:=AgZ.out k12
   rw [e56,e7]
   have HTH:Hid (y.there q 0 (vqC mu md B7 LE.length j7c).size):=hQ9 (zq.thereN 3 rfl)
   have HSI:Hid ((Tryz.prog.info? 38).map (·.size)=some (vqC mu md B7 LE.length j7c).size):=hQ9 yf
   have HON:=hQ9 (yl mu md B7 LE.length j7c)
   have z4:=Ag.set (vs:=(vqC mu md B7 LE.length j7c).toList) zq rfl
   have k4:=zu (vqC mu md B7 LE.length j7c).toList q 0 y
   have han8:=han7.kpx k4 (fun ad h e=>by have:=hrD ad h;have e:ad.block=q:=e;rcases d59_12 with h2 | h2<;>omega) (fun S hS ad h=>(hrN S hS ad h).imp id (fun h1 e=>by have e:ad.block=q:=e;rcases d59_12 with h2 | h2<;>omega))
   have HF:Hid (VgF wr mu md LE (.pointer (some ⟨q,0,none⟩)) (y.setCells q 0 (vqC mu md B7 LE.length j7c).toList)):=hQ9 ⟨B7,j7c,N7,q,rfl,z4,hmn7,han8,by omega,zj (o:=0) (b:=q) _ hg (by omega)⟩
   clear hg z4 k4 zq han7 han8 hmn7
   generalize vqC mu md B7 LE.length j7c=gs' at *
   go_wp2_with(with_reducible refine wpList_store_mid rfl 38 (.tmp 12) (.tmp 59) rfl q 0 gs' rfl rfl HTH.out HSI.out HON.out ?_)
   exact HF.out
  ·intro vs w7 hF hJ
   have j0:vs 0=.agg kc:=hJ 0 (by decide)
   have j1:vs 1=.int .i64 u:=hJ 1 (by decide)
   have j2:vs 2=.int .u64 (d:Nat):=hJ 2 (by decide)
   have j3:vs 3=.slice A L.length cap:=hJ 3 (by decide)
   have j8:vs 8=.int .i64 er:=hJ 8 (by decide)
   clear hJ
   simp only [actOf,tk1,tk0,dr1,dr0,Act.put,si1,st1,st0,Nat.reduceAdd]
   obtain⟨B7,j7c,N7,q12,e7,z7,hmn7,han7,hq7,g6⟩:=VgF.out hF
   rw [e7,show vs 8=_ from j8]
   have HG6:=hQ9 g6
   have HMN7:=hQ9 hmn7
   have CMR:Hid (∀ W,Grew wr W→Calls Tryz.prog 32 #[.agg K.C,.int .i64 u,.int .u64 (d:Nat),.slice A L.length cap] W fun e w'=>∃ D j,e=.returned (.tuple #[.agg (vqC mu md D LE.length j),.int .i64 er])∧Vps w' D LE∧Grew W w'):=hQ9 (fun W g=>by
    have:=zev HK.out u d A cap L (by have:=HL12.out;omega) W (HSYr.out W g) (HKGr.out W g) (HVGr.out W g)
    rw [HGA.out]at this
    exact this)
   have HLEN:Hid (LE.length≤100):=hQ9 (by
    have h:=zj0 HK.out u d L
    rw [HGA.out]at h
    exact h)
   have hmA:=HM1r.out w7 g6
   clear hF e7 hmn7 hq7
   try clear j0
   try clear j1
   try clear j2
   try clear j3
   try clear j8
   go_wp2_with(with_reducible refine wpList_load_mid rfl 24 (.tmp 4) rfl w.heap.size 0 rfl K.C.toList _ hmA huk rfl SIK.out ?_;simp only [Array.toArray_toList])
   clear hmA
   refine(CMR.out w7 g6).mono ?_
   rintro e w8 ⟨D8,j8c,rfl,han8,g7⟩
   clear CMR
   obtain⟨w9,hw9,ht9,g8,z8⟩:=zU w8 28 (#[.int .i64 0,.int .u64 0,.slice none 0 0]:Array Value) (vqC mu md D8 LE.length j8c) rfl
   have HW8:=hQ9 hw9
   have HT8:=hQ9 ht9
   have SI8:Hid ((Tryz.prog.info? 28).map (·.size)=some (vqC mu md D8 LE.length j8c).size):=hQ9 zQ
   have HO8:=hQ9 (yl mu md D8 LE.length j8c)
   have G68:=zc g7 g8
   have G58:=zc g6 G68
   have HG58:=hQ9 G58
   obtain⟨g1,hg1⟩:∃ g,vqC mu md B7 LE.length j7c=g:=⟨_,rfl⟩
   obtain⟨g2,hg2⟩:∃ g,vqC mu md D8 LE.length j8c=g:=⟨_,rfl⟩
   have HG1:=hQ9 hg1
   have HG2:=hQ9 hg2
   have HSP7:Hid (∀ y,Grew w9 y→Vps y B7 N7):=hQ9 (fun y g=>han7.gr (zc G68 g))
   have HSP8:Hid (∀ y,Grew w9 y→Vps y D8 LE):=hQ9 (fun y g=>han8.gr (zc g8 g))
   have HC1:Hid (∀ y,Grew w9 y→y.rangeAt q12 0 g1.toList):=hQ9 (fun y g=>by have:=((z7.grew G68).grew g).cell;rwa [hg1]at this)
   have HC2:Hid (∀ y,Grew w9 y→y.rangeAt w8.heap.size 0 g2.toList):=hQ9 (fun y g=>by have:=(z8.grew g).cell;rwa [hg2]at this)
   have COF:Hid (∀ W,Grew w9 W→Calls Tryz.prog 34 #[.agg g1] W fun e w'=>(∃ B j N,e=.returned (.agg (vqC mu md B LE.length j))∧MvV N7 N∧VpsG w' B N)∧Grew W w'):=hQ9 (fun W g=>by
    have:=zjz mu md B7 j7c N7 (by rw [HMN7.out.len];have:=HLEN.out;omega) W (HSP7.out W g).G
    rw [HMN7.out.len,HG1.out]at this
    exact this)
   have CSC:Hid (∀ B k N,MvV N7 N→∀ W,Grew w9 W→VpsG W B N→Calls Tryz.prog 33 #[.agg (vqC mu md B LE.length k),.agg g2] W fun e w'=>e=.returned (.bool true)∧Grew W w'):=hQ9 (fun B k N hm W g h1=>by
    have m1:=(zak HMN7.out hm).symm
    have:=zcf mu md B D8 k j8c N LE (by rw [←m1.len];have:=HLEN.out;omega) m1 W h1 (HSP8.out W g).G
    rw [←m1.len,HG2.out]at this
    exact this)
   obtain⟨vd,hvd⟩:∃ v,voD u d=v:=⟨_,rfl⟩
   obtain⟨vt,hvt⟩:∃ v,(⟨(voW u d).toArray⟩:ByteArray)=v:=⟨_,rfl⟩
   have CD1:Hid (∀ W,Grew w9 W→Calls Tryz.prog 35 #[.int .i64 u,.int .u64 (d:Nat)] W fun e w'=>e=.returned (.int .u64 (vd:Nat))∧Grew W w'):=hQ9 (fun W g=>by
    have:=xS u d HD.out HU.out W (HSYr.out W (zc HG58.out g))
    rw [hvd]at this
    exact this)
   have CD2:Hid (∀ W,Calls Tryz.prog 36 #[.int .i64 u,.int .u64 (d:Nat)] W fun e w'=>e=.returned (.int .u64 (vd:Nat))∧Grew W w'):=hQ9 (fun W=>by
    have:=kU u d HD.out HU.out W
    rw [hvd]at this
    exact this)
   have CW1:Hid (∀ W,Grew w9 W→Calls Tryz.prog 37 #[.int .i64 u,.int .u64 (d:Nat)] W fun e w'=>e=.returned (.string vt)∧Grew W w'):=hQ9 (fun W g=>by
    have:=ku u d HD.out HU.out W (HSYr.out W (zc HG58.out g))
    rw [hvt]at this
    exact this)
   have CW2:Hid (∀ W,Calls Tryz.prog 38 #[.int .i64 u,.int .u64 (d:Nat)] W fun e w'=>e=.returned (.string vt)∧Grew W w'):=hQ9 (fun W=>by
    have:=jz u d HD.out HU.out W
    rw [hvt]at this
    exact this)
   have SL1:Hid ((Tryz.prog.info? 38).map (·.size)=some g1.toList.length):=hQ9 (by rw [←hg1];exact yf)
   have SL2:Hid ((Tryz.prog.info? 28).map (·.size)=some g2.toList.length):=hQ9 (by rw [←hg2];exact zQ)
   rw [hg2]at HW8 HT8 SI8 HO8
   rw [hg2]
   clear hw9 ht9 g6 g7 g8 z7 z8 han7 han8 G68 G58 hg1 hg2 hvd hvt
   go_upto_region 14 with (with_reducible refine wpList_store_mid rfl 28 (.tmp 14) (.tmp 67) rfl w8.heap.size 0 g2 rfl rfl HT8.out SI8.out HO8.out ?_;rw [HW8.out];clear HW8 HT8 SI8 HO8;generalize w8.heap.size=q14 at *)
   refine yH 27 (fun ix9=>match ix9 with
    | 0=>fun v _=>v=.int .i64 er
    | 1=>fun v _=>v=.int .i64 er
    | 2=>fun v _=>v=.bool false
    | 3=>fun v _=>v=.bool false
    | 4=>fun v _=>v=.agg g1
    | 5=>fun v W=>OfQG N7 W v (fun B j=>.agg (vqC mu md B LE.length j))
    | 6=>fun v _=>v=.agg g2
    | 7=>fun v _=>v=.bool true
    | 8=>fun v _=>v=.bool false
    | 9=>fun v _=>v=.bool false
    | 10=>fun v _=>v=.bool false
    | 11=>fun v _=>v=.int .i64 u
    | 12=>fun v _=>v=.int .u64 (d:Nat)
    | 13=>fun v _=>v=.int .u64 (vd:Nat)
    | 14=>fun v _=>v=.int .i64 u
    | 15=>fun v _=>v=.int .u64 (d:Nat)
    | 16=>fun v _=>v=.int .u64 (vd:Nat)
    | 17=>fun v _=>v=.bool false
    | 18=>fun v _=>v=.bool false
    | 19=>fun v _=>v=.bool false
    | 20=>fun v _=>v=.int .i64 u
    | 21=>fun v _=>v=.int .u64 (d:Nat)
    | 22=>fun v _=>v=.string vt
    | 23=>fun v _=>v=.int .i64 u
    | 24=>fun v _=>v=.int .u64 (d:Nat)
    | 25=>fun v _=>v=.string vt
    | 26=>fun v _=>v=.bool false
    | _=>fun _ _=>True) (fun ix9=>match ix9 with
    | 5=>fun _ _ _ _=>True
    | _=>fun _ _ _ _=>True) (fun ix9=>match ix9 with
    | ix8=>ix8) (fun ix9=>match ix9 with
    | ix8=>ix8) (by kernel_rfl) (by kernel_rfl) (by kernel_rfl) ?_ ?_ ?_ ?_
   ·intro i v x y h hg
    match i,h with
    | 0,h | 1,h | 2,h | 3,h | 4,h | 6,h | 7,h | 8,h | 9,h | 10,h | 11,h | 12,h | 13,h | 14,h | 15,h | 16,h | 17,h | 18,h | 19,h | 20,h | 21,h | 22,h | 23,h | 24,h | 25,h | 26,h=>exact h
    | 5,h=>exact OfQG.gr h hg
    | m+27,_=>trivial
   ·simp only [actOf,tk1,tk0,dr1,dr0,Act.put,si1,st1,st0,Nat.reduceAdd]
    refine⟨?_,?_,?_,?_,?_,?_,?_,?_,?_,?_,?_,?_,?_,?_,?_,?_,?_,?_,?_,?_,?_,?_,?_,?_,?_,?_,?_,trivial⟩
    ·intro vs lo hi y hg hd hvia
     replace hg:Grew w9 y:=hg
     clear hvia
     dsimp only
     go_wp2_with fail
     first | exact⟨rfl,_,rfl,za _,rfl⟩ | exact⟨rfl,_,rfl,za _,rfl,trivial⟩
    ·intro vs lo hi y hg hd hvia
     replace hg:Grew w9 y:=hg
     clear hvia
     dsimp only
     go_wp2_with fail
     first | exact⟨rfl,_,rfl,za _,rfl⟩ | exact⟨rfl,_,rfl,za _,rfl,trivial⟩
    ·intro vs lo hi y hg hd hvia
     replace hg:Grew w9 y:=hg
     obtain⟨h0,h1,_⟩:=hd
     replace h0:=h0 rfl
     replace h1:=h1 rfl
     clear hvia
     dsimp only
     rw [show vs 0=_ from h0,show vs 1=_ from h1]
     go_wp2_with fail
     first | exact⟨rfl,_,rfl,za _,by simp⟩ | exact⟨rfl,_,rfl,za _,by simp,trivial⟩
    ·intro vs lo hi y hg hd hvia
     replace hg:Grew w9 y:=hg
     obtain⟨h2,_⟩:=hd
     replace h2:=h2 rfl
     clear hvia
     dsimp only
     rw [show vs 2=_ from h2]
     go_wp2_with fail
     first | exact⟨rfl,_,rfl,za _,rfl⟩ | exact⟨rfl,_,rfl,za _,rfl,trivial⟩
    ·intro vs lo hi y hg hd hvia
     replace hg:Grew w9 y:=hg
     have hx9:(Region.binds .any { on:=3,ground:=.guard }=true→vs 3=.bool false)∧True:=hd
     have h3:vs 3=.bool false:=hx9.1 rfl
     clear hx9 hd
     clear hvia
     dsimp only
     rw [show vs 3=_ from h3]
     have hm:=HC1.out y hg
     go_wp2_with(refine zg (by rfl) 38 (.tmp 12) rfl q12 0 rfl g1.toList _ hm hut rfl SL1.out ?_;simp only [Array.toArray_toList])
     first | exact⟨rfl,_,rfl,za _,rfl⟩ | exact⟨rfl,_,rfl,za _,rfl,trivial⟩
    ·intro vs lo hi y hg hd hvia
     replace hg:Grew w9 y:=hg
     have hx9:(Region.binds .any { on:=4,ground:=.data }=true→vs 4=.agg g1)∧(Region.binds .any { on:=3,ground:=.chain }=true→vs 3=.bool false)∧(Region.binds .any { on:=3,ground:=.guard }=true→vs 3=.bool false)∧True:=hd
     have h4:vs 4=.agg g1:=hx9.1 rfl
     have h3:vs 3=.bool false:=hx9.2.2.1 rfl
     clear hx9 hd
     clear hvia
     dsimp only
     rw [show vs 4=_ from h4,show vs 3=_ from h3]
     go_wp2_with(go_at_call 34;refine(COF.out y hg).mono ?_;rintro e z ⟨⟨B9,j9,N9,rfl,hmv9,hsp9⟩,gz⟩)
     exact⟨rfl,_,rfl,gz,⟨B9,j9,N9,rfl,hmv9,hsp9⟩,trivial⟩
    ·intro vs lo hi y hg hd hvia
     replace hg:Grew w9 y:=hg
     have hx9:(Region.binds .any { on:=3,ground:=.guard }=true→vs 3=.bool false)∧True:=hd
     have h3:vs 3=.bool false:=hx9.1 rfl
     clear hx9 hd
     clear hvia
     dsimp only
     rw [show vs 3=_ from h3]
     have hm:=HC2.out y hg
     go_wp2_with(refine zg (by rfl) 28 (.tmp 14) rfl q14 0 rfl g2.toList _ hm hur rfl SL2.out ?_;simp only [Array.toArray_toList])
     first | exact⟨rfl,_,rfl,za _,rfl⟩ | exact⟨rfl,_,rfl,za _,rfl,trivial⟩
    ·intro vs lo hi y hg hd hvia
     replace hg:Grew w9 y:=hg
     have hx9:(Region.binds .any { on:=5,ground:=.data }=true→(fun v W=>OfQG N7 W v (fun B j=>.agg (vqC mu md B LE.length j))) (vs 5) y)∧(Region.binds .any { on:=6,ground:=.data }=true→vs 6=.agg g2)∧(Region.binds .any { on:=5,ground:=.chain }=true→(fun v W=>OfQG N7 W v (fun B j=>.agg (vqC mu md B LE.length j))) (vs 5) y)∧(Region.binds .any { on:=3,ground:=.guard }=true→vs 3=.bool false)∧True:=hd
     have h5:(fun v W=>OfQG N7 W v (fun B j=>.agg (vqC mu md B LE.length j))) (vs 5) y:=hx9.1 rfl
     have h6:vs 6=.agg g2:=hx9.2.1 rfl
     have h3:vs 3=.bool false:=hx9.2.2.2.1 rfl
     clear hx9 hd
     clear hvia
     dsimp only
     rw [show vs 6=_ from h6,show vs 3=_ from h3]
     obtain⟨B9,j9,N9,e9,hmv9,hsp9⟩:=OfQG.out h5
     rw [e9]
     go_wp2_with(go_at_call 33;refine(CSC.out B9 j9 N9 hmv9 y hg hsp9).mono ?_;rintro e z ⟨rfl,gz⟩)
     first | exact⟨rfl,_,rfl,gz,rfl⟩ | exact⟨rfl,_,rfl,gz,rfl,trivial⟩
    ·intro vs lo hi y hg hd hvia
     replace hg:Grew w9 y:=hg
     have hx9:(Region.binds .any { on:=7,ground:=.data }=true→vs 7=.bool true)∧(Region.binds .any { on:=3,ground:=.guard }=true→vs 3=.bool false)∧True:=hd
     have h7:vs 7=.bool true:=hx9.1 rfl
     have h3:vs 3=.bool false:=hx9.2.1 rfl
     clear hx9 hd
     clear hvia
     dsimp only
     rw [show vs 7=_ from h7,show vs 3=_ from h3]
     go_wp2_with fail
     first | exact⟨rfl,_,rfl,za _,rfl⟩ | exact⟨rfl,_,rfl,za _,rfl,trivial⟩
    ·intro vs lo hi y hg hd hvia
     replace hg:Grew w9 y:=hg
     obtain⟨h3,h8,_⟩:=hd
     replace h3:=h3 rfl
     replace h8:=h8 rfl
     clear hvia
     dsimp only
     rw [show vs 3=_ from h3,show vs 8=_ from h8]
     go_wp2_with fail
     first | exact⟨rfl,_,rfl,za _,rfl⟩ | exact⟨rfl,_,rfl,za _,rfl,trivial⟩
    ·intro vs lo hi y hg hd hvia
     replace hg:Grew w9 y:=hg
     obtain⟨h9,_⟩:=hd
     replace h9:=h9 rfl
     clear hvia
     dsimp only
     rw [show vs 9=_ from h9]
     go_wp2_with fail
     first | exact⟨rfl,_,rfl,za _,rfl⟩ | exact⟨rfl,_,rfl,za _,rfl,trivial⟩
    ·intro vs lo hi y hg hd hvia
     replace hg:Grew w9 y:=hg
     have hx9:(Region.binds .any { on:=10,ground:=.guard }=true→vs 10=.bool false)∧True:=hd
     have h10:vs 10=.bool false:=hx9.1 rfl
     clear hx9 hd
     clear hvia
     dsimp only
     rw [show vs 10=_ from h10]
     go_wp2_with fail
     first | exact⟨rfl,_,rfl,za _,rfl⟩ | exact⟨rfl,_,rfl,za _,rfl,trivial⟩
    ·intro vs lo hi y hg hd hvia
     replace hg:Grew w9 y:=hg
     have hx9:(Region.binds .any { on:=10,ground:=.guard }=true→vs 10=.bool false)∧True:=hd
     have h10:vs 10=.bool false:=hx9.1 rfl
     clear hx9 hd
     clear hvia
     dsimp only
     rw [show vs 10=_ from h10]
     go_wp2_with fail
     first | exact⟨rfl,_,rfl,za _,rfl⟩ | exact⟨rfl,_,rfl,za _,rfl,trivial⟩
    ·intro vs lo hi y hg hd hvia
     replace hg:Grew w9 y:=hg
     have hx9:(Region.binds .any { on:=11,ground:=.data }=true→vs 11=.int .i64 u)∧(Region.binds .any { on:=12,ground:=.data }=true→vs 12=.int .u64 (d:Nat))∧(Region.binds .any { on:=10,ground:=.chain }=true→vs 10=.bool false)∧(Region.binds .any { on:=10,ground:=.guard }=true→vs 10=.bool false)∧True:=hd
     have h11:vs 11=.int .i64 u:=hx9.1 rfl
     have h12:vs 12=.int .u64 (d:Nat):=hx9.2.1 rfl
     have h10:vs 10=.bool false:=hx9.2.2.2.1 rfl
     clear hx9 hd
     clear hvia
     dsimp only
     rw [show vs 11=_ from h11,show vs 12=_ from h12,show vs 10=_ from h10]
     go_wp2_with(go_at_call 35;refine(CD1.out y hg).mono ?_;rintro e z ⟨rfl,gz⟩)
     first | exact⟨rfl,_,rfl,gz,rfl⟩ | exact⟨rfl,_,rfl,gz,rfl,trivial⟩
    ·intro vs lo hi y hg hd hvia
     replace hg:Grew w9 y:=hg
     have hx9:(Region.binds .any { on:=10,ground:=.guard }=true→vs 10=.bool false)∧True:=hd
     have h10:vs 10=.bool false:=hx9.1 rfl
     clear hx9 hd
     clear hvia
     dsimp only
     rw [show vs 10=_ from h10]
     go_wp2_with fail
     first | exact⟨rfl,_,rfl,za _,rfl⟩ | exact⟨rfl,_,rfl,za _,rfl,trivial⟩
    ·intro vs lo hi y hg hd hvia
     replace hg:Grew w9 y:=hg
     have hx9:(Region.binds .any { on:=10,ground:=.guard }=true→vs 10=.bool false)∧True:=hd
     have h10:vs 10=.bool false:=hx9.1 rfl
     clear hx9 hd
     clear hvia
     dsimp only
     rw [show vs 10=_ from h10]
     go_wp2_with fail
     first | exact⟨rfl,_,rfl,za _,rfl⟩ | exact⟨rfl,_,rfl,za _,rfl,trivial⟩
    ·intro vs lo hi y hg hd hvia
     replace hg:Grew w9 y:=hg
     have hx9:(Region.binds .any { on:=14,ground:=.data }=true→vs 14=.int .i64 u)∧(Region.binds .any { on:=15,ground:=.data }=true→vs 15=.int .u64 (d:Nat))∧(Region.binds .any { on:=13,ground:=.chain }=true→vs 13=.int .u64 (vd:Nat))∧(Region.binds .any { on:=10,ground:=.guard }=true→vs 10=.bool false)∧True:=hd
     have h14:vs 14=.int .i64 u:=hx9.1 rfl
     have h15:vs 15=.int .u64 (d:Nat):=hx9.2.1 rfl
     have h10:vs 10=.bool false:=hx9.2.2.2.1 rfl
     clear hx9 hd
     clear hvia
     dsimp only
     rw [show vs 14=_ from h14,show vs 15=_ from h15,show vs 10=_ from h10]
     go_wp2_with(go_at_call 36;refine(CD2.out y).mono ?_;rintro e z ⟨rfl,gz⟩)
     first | exact⟨rfl,_,rfl,gz,rfl⟩ | exact⟨rfl,_,rfl,gz,rfl,trivial⟩
    ·intro vs lo hi y hg hd hvia
     replace hg:Grew w9 y:=hg
     have hx9:(Region.binds .any { on:=13,ground:=.data }=true→vs 13=.int .u64 (vd:Nat))∧(Region.binds .any { on:=16,ground:=.data }=true→vs 16=.int .u64 (vd:Nat))∧(Region.binds .any { on:=10,ground:=.guard }=true→vs 10=.bool false)∧True:=hd
     have h13:vs 13=.int .u64 (vd:Nat):=hx9.1 rfl
     have h16:vs 16=.int .u64 (vd:Nat):=hx9.2.1 rfl
     have h10:vs 10=.bool false:=hx9.2.2.1 rfl
     clear hx9 hd
     clear hvia
     dsimp only
     rw [show vs 13=_ from h13,show vs 16=_ from h16,show vs 10=_ from h10]
     go_wp2_with fail
     first | exact⟨rfl,_,rfl,za _,by simp⟩ | exact⟨rfl,_,rfl,za _,by simp,trivial⟩
    ·intro vs lo hi y hg hd hvia
     replace hg:Grew w9 y:=hg
     obtain⟨h10,h17,_⟩:=hd
     replace h10:=h10 rfl
     replace h17:=h17 rfl
     clear hvia
     dsimp only
     rw [show vs 10=_ from h10,show vs 17=_ from h17]
     go_wp2_with fail
     first | exact⟨rfl,_,rfl,za _,rfl⟩ | exact⟨rfl,_,rfl,za _,rfl,trivial⟩
    ·intro vs lo hi y hg hd hvia
     replace hg:Grew w9 y:=hg
     obtain⟨h18,_⟩:=hd
     replace h18:=h18 rfl
     clear hvia
     dsimp only
     rw [show vs 18=_ from h18]
     go_wp2_with fail
     first | exact⟨rfl,_,rfl,za _,rfl⟩ | exact⟨rfl,_,rfl,za _,rfl,trivial⟩
    ·intro vs lo hi y hg hd hvia
     replace hg:Grew w9 y:=hg
     have hx9:(Region.binds .any { on:=19,ground:=.guard }=true→vs 19=.bool false)∧True:=hd
     have h19:vs 19=.bool false:=hx9.1 rfl
     clear hx9 hd
     clear hvia
     dsimp only
     rw [show vs 19=_ from h19]
     go_wp2_with fail
     first | exact⟨rfl,_,rfl,za _,rfl⟩ | exact⟨rfl,_,rfl,za _,rfl,trivial⟩
    ·intro vs lo hi y hg hd hvia
     replace hg:Grew w9 y:=hg
     have hx9:(Region.binds .any { on:=19,ground:=.guard }=true→vs 19=.bool false)∧True:=hd
     have h19:vs 19=.bool false:=hx9.1 rfl
     clear hx9 hd
     clear hvia
     dsimp only
     rw [show vs 19=_ from h19]
     go_wp2_with fail
     first | exact⟨rfl,_,rfl,za _,rfl⟩ | exact⟨rfl,_,rfl,za _,rfl,trivial⟩
    ·intro vs lo hi y hg hd hvia
     replace hg:Grew w9 y:=hg
     have hx9:(Region.binds .any { on:=20,ground:=.data }=true→vs 20=.int .i64 u)∧(Region.binds .any { on:=21,ground:=.data }=true→vs 21=.int .u64 (d:Nat))∧(Region.binds .any { on:=19,ground:=.chain }=true→vs 19=.bool false)∧(Region.binds .any { on:=19,ground:=.guard }=true→vs 19=.bool false)∧True:=hd
     have h20:vs 20=.int .i64 u:=hx9.1 rfl
     have h21:vs 21=.int .u64 (d:Nat):=hx9.2.1 rfl
     have h19:vs 19=.bool false:=hx9.2.2.2.1 rfl
     clear hx9 hd
     clear hvia
     dsimp only
     rw [show vs 20=_ from h20,show vs 21=_ from h21,show vs 19=_ from h19]
     go_wp2_with(go_at_call 37;refine(CW1.out y hg).mono ?_;rintro e z ⟨rfl,gz⟩)
     first | exact⟨rfl,_,rfl,gz,rfl⟩ | exact⟨rfl,_,rfl,gz,rfl,trivial⟩
    ·intro vs lo hi y hg hd hvia
     replace hg:Grew w9 y:=hg
     have hx9:(Region.binds .any { on:=19,ground:=.guard }=true→vs 19=.bool false)∧True:=hd
     have h19:vs 19=.bool false:=hx9.1 rfl
     clear hx9 hd
     clear hvia
     dsimp only
     rw [show vs 19=_ from h19]
     go_wp2_with fail
     first | exact⟨rfl,_,rfl,za _,rfl⟩ | exact⟨rfl,_,rfl,za _,rfl,trivial⟩
    ·intro vs lo hi y hg hd hvia
     replace hg:Grew w9 y:=hg
     have hx9:(Region.binds .any { on:=19,ground:=.guard }=true→vs 19=.bool false)∧True:=hd
     have h19:vs 19=.bool false:=hx9.1 rfl
     clear hx9 hd
     clear hvia
     dsimp only
     rw [show vs 19=_ from h19]
     go_wp2_with fail
     first | exact⟨rfl,_,rfl,za _,rfl⟩ | exact⟨rfl,_,rfl,za _,rfl,trivial⟩
    ·intro vs lo hi y hg hd hvia
     replace hg:Grew w9 y:=hg
     have hx9:(Region.binds .any { on:=23,ground:=.data }=true→vs 23=.int .i64 u)∧(Region.binds .any { on:=24,ground:=.data }=true→vs 24=.int .u64 (d:Nat))∧(Region.binds .any { on:=22,ground:=.chain }=true→vs 22=.string vt)∧(Region.binds .any { on:=19,ground:=.guard }=true→vs 19=.bool false)∧True:=hd
     have h23:vs 23=.int .i64 u:=hx9.1 rfl
     have h24:vs 24=.int .u64 (d:Nat):=hx9.2.1 rfl
     have h19:vs 19=.bool false:=hx9.2.2.2.1 rfl
     clear hx9 hd
     clear hvia
     dsimp only
     rw [show vs 23=_ from h23,show vs 24=_ from h24,show vs 19=_ from h19]
     go_wp2_with(go_at_call 38;refine(CW2.out y).mono ?_;rintro e z ⟨rfl,gz⟩)
     first | exact⟨rfl,_,rfl,gz,rfl⟩ | exact⟨rfl,_,rfl,gz,rfl,trivial⟩
    ·intro vs lo hi y hg hd hvia
     replace hg:Grew w9 y:=hg
     have hx9:(Region.binds .any { on:=22,ground:=.data }=true→vs 22=.string vt)∧(Region.binds .any { on:=25,ground:=.data }=true→vs 25=.string vt)∧(Region.binds .any { on:=19,ground:=.guard }=true→vs 19=.bool false)∧True:=hd
     have h22:vs 22=.string vt:=hx9.1 rfl
     have h25:vs 25=.string vt:=hx9.2.1 rfl
     have h19:vs 19=.bool false:=hx9.2.2.1 rfl
     clear hx9 hd
     clear hvia
     dsimp only
     rw [show vs 22=_ from h22,show vs 25=_ from h25,show vs 19=_ from h19]
     go_wp2_with fail
     first | exact⟨rfl,_,rfl,za _,by simp⟩ | exact⟨rfl,_,rfl,za _,by simp,trivial⟩
   ·intro i lo hi v x y h hg
    match i,h with
    | 5,_=>trivial
    | 0,_=>trivial
    | 1,_=>trivial
    | 2,_=>trivial
    | 3,_=>trivial
    | 4,_=>trivial
    | m+6,_=>trivial
   ·intro vs lo hi wA hg hJ hK hB hD
    replace hg:Grew w9 wA:=hg
    have k74:=hK 5 (by decide)
    have b74:=hB 5 (by decide)
    clear hK hB hD
    have j0:vs 0=.int .i64 er:=hJ 0 (by decide)
    have j1:vs 1=.int .i64 er:=hJ 1 (by decide)
    have j2:vs 2=.bool false:=hJ 2 (by decide)
    have j3:vs 3=.bool false:=hJ 3 (by decide)
    have j4:vs 4=.agg g1:=hJ 4 (by decide)
    have j6:vs 6=.agg g2:=hJ 6 (by decide)
    have j7:vs 7=.bool true:=hJ 7 (by decide)
    have j8:vs 8=.bool false:=hJ 8 (by decide)
    have j9:vs 9=.bool false:=hJ 9 (by decide)
    have j10:vs 10=.bool false:=hJ 10 (by decide)
    have j11:vs 11=.int .i64 u:=hJ 11 (by decide)
    have j12:vs 12=.int .u64 (d:Nat):=hJ 12 (by decide)
    have j13:vs 13=.int .u64 (vd:Nat):=hJ 13 (by decide)
    have j14:vs 14=.int .i64 u:=hJ 14 (by decide)
    have j15:vs 15=.int .u64 (d:Nat):=hJ 15 (by decide)
    have j16:vs 16=.int .u64 (vd:Nat):=hJ 16 (by decide)
    have j17:vs 17=.bool false:=hJ 17 (by decide)
    have j18:vs 18=.bool false:=hJ 18 (by decide)
    have j19:vs 19=.bool false:=hJ 19 (by decide)
    have j20:vs 20=.int .i64 u:=hJ 20 (by decide)
    have j21:vs 21=.int .u64 (d:Nat):=hJ 21 (by decide)
    have j22:vs 22=.string vt:=hJ 22 (by decide)
    have j23:vs 23=.int .i64 u:=hJ 23 (by decide)
    have j24:vs 24=.int .u64 (d:Nat):=hJ 24 (by decide)
    have j25:vs 25=.string vt:=hJ 25 (by decide)
    have j26:vs 26=.bool false:=hJ 26 (by decide)
    have s74:=hJ 5 (by decide)
    clear hJ
    simp only [actOf,tk1,tk0,dr1,dr0,Act.put,si1,st1,st0,Nat.reduceAdd]
    rw [show vs 19=_ from j19,show vs 26=_ from j26]
    have HG89:=hQ9 hg
    have HG59:=hQ9 (zc HG58.out hg)
    clear hg s74
    try clear b74
    try clear k74
    try clear j0
    try clear j1
    try clear j2
    try clear j3
    try clear j4
    try clear j6
    try clear j7
    try clear j8
    try clear j9
    try clear j10
    try clear j11
    try clear j12
    try clear j13
    try clear j14
    try clear j15
    try clear j16
    try clear j17
    try clear j18
    try clear j19
    try clear j20
    try clear j21
    try clear j22
    try clear j23
    try clear j24
    try clear j25
    try clear j26
    go_upto_region 16 with fail
    have HM2A:Hid (∀ y,Grew wA y→y.rangeAt q9 0 g0.toList):=hQ9 (fun y g=>HM2r.out y (zc HG59.out g))
    have HK3:Hid (∀ y,Grew wA y→y.rangeAt qk 0 kc.toList):=hQ9 (fun y g=>HZKr.out y (zc HG59.out g))
    have HM3:Hid (∀ y,Grew wA y→y.rangeAt w.heap.size 0 K.C.toList):=hQ9 (fun y g=>HM1r.out y (zc HG59.out g))
    have HC13:Hid (∀ y,Grew wA y→y.rangeAt q12 0 g1.toList):=hQ9 (fun y g=>HC1.out y (zc HG89.out g))
    have HS7:Hid (∀ y,Grew wA y→Vps y B7 N7):=hQ9 (fun y g=>HSP7.out y (zc HG89.out g))
    obtain⟨sv,hsv⟩:∃ v,vqE K u d L=v:=⟨_,rfl⟩
    have HSV:=hQ9 hsv
    have CTS:Hid (∀ W,Grew wA W→Calls Tryz.prog 40 #[.agg g0] W fun e w'=>(∃ B j N,e=.returned (.agg (vqC u d B L.length j))∧MvV L N∧Vps w' B N)∧Grew W w'):=hQ9 (fun W g=>by
     rw [←HG0.out]
     refine(zjo u d A cap L (by have:=HL12.out;omega) W (HVGr.out W (zc HG59.out g))).mono ?_
     rintro e w' ⟨⟨B,j,N,h1,h2,h3,-⟩,h4⟩
     exact⟨⟨B,j,N,h1,h2,h3⟩,h4⟩)
    have CV1:Hid (∀ B j N,MvV L N→∀ W,Grew wA W→Vps W B N→Calls Tryz.prog 39 #[.agg kc,.agg (vqC u d B L.length j)] W fun e w'=>e=.returned (.int .i64 sv)∧Grew W w'):=hQ9 (fun B j N hm W g h1=>by
     have:=jm hK'.out u d B j N (by rw [hm.len];have:=HL12.out;omega) W (HSYr.out W (zc HG59.out g)) (HRKr.out W (zc HG59.out g)) h1
     rw [hm.len,zgp hm,show vqE (⟨K.f,K.R,RA,Rc,K.h⟩:KP) u d L=sv from by rw [←HSV.out];exact vqE_K (K:=K) (K':=⟨K.f,K.R,RA,Rc,K.h⟩) rfl rfl rfl u d L,show(⟨K.f,K.R,RA,Rc,K.h⟩:KP).C=kc from HKC.out]at this
     exact this)
    have CVR:Hid (∀ W,Grew wA W→Calls Tryz.prog 41 #[.agg K.C,.agg g0] W fun e w'=>e=.returned (.int .i64 sv)∧Grew W w'):=hQ9 (fun W g=>by
     have:=zce HK.out u d A cap L (by have:=HL12.out;omega) W (HSYr.out W (zc HG59.out g)) (HKGr.out W (zc HG59.out g)) (HVGr.out W (zc HG59.out g))
     rw [HG0.out,HSV.out]at this
     exact this)
    clear hsv
    by_cases her:er=0
    ·have CV2:Hid (∀ W,Grew wA W→Calls Tryz.prog 39 #[.agg kc,.agg g1] W fun e w'=>e=.returned (.int .i64 0)∧Grew W w'):=hQ9 (fun W g=>by
      have:=jm hK'.out mu md B7 j7c N7 (by rw [HMN7.out.len];have:=HLEN.out;omega) W (HSYr.out W (zc HG59.out g)) (HRKr.out W (zc HG59.out g)) (HS7.out W g)
      rw [HMN7.out.len,zgp HMN7.out,HG1.out,show vqE (⟨K.f,K.R,RA,Rc,K.h⟩:KP) mu md LE=0 from by
       have a1:=zgq HK.out (u:=u) (d:=d) (L:=L) (by rw [HGA.out];exact her)
       rw [HGA.out]at a1
       have a2:vqE K mu md LE=0:=a1
       exact(vqE_K (K:=K) (K':=⟨K.f,K.R,RA,Rc,K.h⟩) rfl rfl rfl mu md LE).trans a2,show(⟨K.f,K.R,RA,Rc,K.h⟩:KP).C=kc from HKC.out]at this
      exact this)
     subst her
     refine yH 16 (fun ix9=>match ix9 with
      | 0=>fun v _=>v=.agg kc
      | 1=>fun v _=>v=.agg g0
      | 2=>fun v W=>OfQ L W v (fun B j=>.agg (vqC u d B L.length j))
      | 3=>fun v _=>v=.int .i64 sv
      | 4=>fun v _=>v=.agg K.C
      | 5=>fun v _=>v=.agg g0
      | 6=>fun v _=>v=.int .i64 sv
      | 7=>fun v _=>v=.bool true
      | 8=>fun v _=>v=.bool true
      | 9=>fun v _=>v=.int .i64 0
      | 10=>fun v _=>v=.bool false
      | 11=>fun v _=>v=.bool false
      | 12=>fun v _=>v=.agg kc
      | 13=>fun v _=>v=.agg g1
      | 14=>fun v _=>v=.int .i64 0
      | 15=>fun v _=>v=.bool true
      | _=>fun _ _=>True) (fun ix9=>match ix9 with
      | 2=>fun _ _ _ _=>True
      | _=>fun _ _ _ _=>True) (fun ix9=>match ix9 with
      | ix8=>ix8) (fun ix9=>match ix9 with
      | ix8=>ix8) (by kernel_rfl) (by kernel_rfl) (by kernel_rfl) ?_ ?_ ?_ ?_
     ·intro i v x y h hg
      match i,h with
      | 0,h | 1,h | 3,h | 4,h | 5,h | 6,h | 7,h | 8,h | 9,h | 10,h | 11,h | 12,h | 13,h | 14,h | 15,h=>exact h
      | 2,h=>exact OfQ.gr h hg
      | m+16,_=>trivial
     ·simp only [actOf,tk1,tk0,dr1,dr0,Act.put,si1,st1,st0,Nat.reduceAdd]
      refine⟨?_,?_,?_,?_,?_,?_,?_,?_,?_,?_,?_,?_,?_,?_,?_,?_,trivial⟩
      ·intro vs lo hi y hg hd hvia
       replace hg:Grew wA y:=hg
       clear hvia
       dsimp only
       have hm:=HK3.out y hg
       go_wp2_with(with_reducible refine wpList_load_mid rfl 49 (.tmp 10) rfl qk 0 rfl kc.toList _ hm hukt rfl HSKL.out ?_;simp only [Array.toArray_toList])
       first | exact⟨rfl,_,rfl,za _,rfl⟩ | exact⟨rfl,_,rfl,za _,rfl,trivial⟩
      ·intro vs lo hi y hg hd hvia
       replace hg:Grew wA y:=hg
       clear hvia
       dsimp only
       have hm:=HM2A.out y hg
       go_wp2_with(with_reducible refine wpList_load_mid rfl 28 (.tmp 9) rfl q9 0 rfl g0.toList _ hm hur rfl SIG0.out ?_;simp only [Array.toArray_toList])
       first | exact⟨rfl,_,rfl,za _,rfl⟩ | exact⟨rfl,_,rfl,za _,rfl,trivial⟩
      ·intro vs lo hi y hg hd hvia
       replace hg:Grew wA y:=hg
       obtain⟨h1,_⟩:=hd
       replace h1:=h1 rfl
       clear hvia
       dsimp only
       rw [show vs 1=_ from h1]
       go_wp2_with(go_at_call 40;refine(CTS.out y hg).mono ?_;rintro e z ⟨⟨B9,j9,N9,rfl,hmv9,hsp9⟩,gz⟩)
       exact⟨rfl,_,rfl,gz,⟨B9,j9,N9,rfl,hmv9,hsp9⟩,trivial⟩
      ·intro vs lo hi y hg hd hvia
       replace hg:Grew wA y:=hg
       obtain⟨h0,h2,_⟩:=hd
       replace h0:=h0 rfl
       replace h2:=h2 rfl
       clear hvia
       dsimp only
       rw [show vs 0=_ from h0]
       obtain⟨B9,j9,N9,e9,hmv9,hsp9⟩:=OfQ.out h2
       rw [e9]
       go_wp2_with(go_at_call 39;refine(CV1.out B9 j9 N9 hmv9 y hg hsp9).mono ?_;rintro e z ⟨rfl,gz⟩)
       first | exact⟨rfl,_,rfl,gz,rfl⟩ | exact⟨rfl,_,rfl,gz,rfl,trivial⟩
      ·intro vs lo hi y hg hd hvia
       replace hg:Grew wA y:=hg
       clear hvia
       dsimp only
       have hm:=HM3.out y hg
       go_wp2_with(with_reducible refine wpList_load_mid rfl 24 (.tmp 4) rfl w.heap.size 0 rfl K.C.toList _ hm huk rfl SIK.out ?_;simp only [Array.toArray_toList])
       first | exact⟨rfl,_,rfl,za _,rfl⟩ | exact⟨rfl,_,rfl,za _,rfl,trivial⟩
      ·intro vs lo hi y hg hd hvia
       replace hg:Grew wA y:=hg
       clear hvia
       dsimp only
       have hm:=HM2A.out y hg
       go_wp2_with(with_reducible refine wpList_load_mid rfl 28 (.tmp 9) rfl q9 0 rfl g0.toList _ hm hur rfl SIG0.out ?_;simp only [Array.toArray_toList])
       first | exact⟨rfl,_,rfl,za _,rfl⟩ | exact⟨rfl,_,rfl,za _,rfl,trivial⟩
      ·intro vs lo hi y hg hd hvia
       replace hg:Grew wA y:=hg
       obtain⟨h4,h5,_⟩:=hd
       replace h4:=h4 rfl
       replace h5:=h5 rfl
       clear hvia
       dsimp only
       rw [show vs 4=_ from h4,show vs 5=_ from h5]
       go_wp2_with(go_at_call 41;refine(CVR.out y hg).mono ?_;rintro e z ⟨rfl,gz⟩)
       first | exact⟨rfl,_,rfl,gz,rfl⟩ | exact⟨rfl,_,rfl,gz,rfl,trivial⟩
      ·intro vs lo hi y hg hd hvia
       replace hg:Grew wA y:=hg
       obtain⟨h3,h6,_⟩:=hd
       replace h3:=h3 rfl
       replace h6:=h6 rfl
       clear hvia
       dsimp only
       rw [show vs 3=_ from h3,show vs 6=_ from h6]
       go_wp2_with fail
       first | exact⟨rfl,_,rfl,za _,by simp⟩ | exact⟨rfl,_,rfl,za _,by simp,trivial⟩
      ·intro vs lo hi y hg hd hvia
       replace hg:Grew wA y:=hg
       obtain⟨h7,_⟩:=hd
       replace h7:=h7 rfl
       clear hvia
       dsimp only
       rw [show vs 7=_ from h7]
       go_wp2_with fail
       first | exact⟨rfl,_,rfl,za _,rfl⟩ | exact⟨rfl,_,rfl,za _,rfl,trivial⟩
      ·intro vs lo hi y hg hd hvia
       replace hg:Grew wA y:=hg
       have hx9:(Region.binds .any { on:=8,ground:=.guard }=true→vs 8=.bool true)∧True:=hd
       have h8:vs 8=.bool true:=hx9.1 rfl
       clear hx9 hd
       clear hvia
       dsimp only
       rw [show vs 8=_ from h8]
       go_wp2_with fail
       first | exact⟨rfl,_,rfl,za _,rfl⟩ | exact⟨rfl,_,rfl,za _,rfl,trivial⟩
      ·intro vs lo hi y hg hd hvia
       replace hg:Grew wA y:=hg
       have hx9:(Region.binds .any { on:=9,ground:=.data }=true→vs 9=.int .i64 0)∧(Region.binds .any { on:=8,ground:=.guard }=true→vs 8=.bool true)∧True:=hd
       have h9:vs 9=.int .i64 0:=hx9.1 rfl
       have h8:vs 8=.bool true:=hx9.2.1 rfl
       clear hx9 hd
       clear hvia
       dsimp only
       rw [show vs 9=_ from h9,show vs 8=_ from h8]
       go_wp2_with fail
       first | exact⟨rfl,_,rfl,za _,rfl⟩ | exact⟨rfl,_,rfl,za _,rfl,trivial⟩
      ·intro vs lo hi y hg hd hvia
       replace hg:Grew wA y:=hg
       have hx9:(Region.binds .any { on:=10,ground:=.data }=true→vs 10=.bool false)∧(Region.binds .any { on:=8,ground:=.chain }=true→vs 8=.bool true)∧(Region.binds .any { on:=8,ground:=.guard }=true→vs 8=.bool true)∧True:=hd
       have h10:vs 10=.bool false:=hx9.1 rfl
       have h8:vs 8=.bool true:=hx9.2.2.1 rfl
       clear hx9 hd
       clear hvia
       dsimp only
       rw [show vs 10=_ from h10,show vs 8=_ from h8]
       go_wp2_with fail
       first | exact⟨rfl,_,rfl,za _,rfl⟩ | exact⟨rfl,_,rfl,za _,rfl,trivial⟩
      ·intro vs lo hi y hg hd hvia
       replace hg:Grew wA y:=hg
       have hx9:(Region.binds .any { on:=11,ground:=.guard }=true→vs 11=.bool false)∧True:=hd
       have h11:vs 11=.bool false:=hx9.1 rfl
       clear hx9 hd
       clear hvia
       dsimp only
       rw [show vs 11=_ from h11]
       have hm:=HK3.out y hg
       go_wp2_with(refine zg (by rfl) 49 (.tmp 10) rfl qk 0 rfl kc.toList _ hm hukt rfl HSKL.out ?_;simp only [Array.toArray_toList])
       first | exact⟨rfl,_,rfl,za _,rfl⟩ | exact⟨rfl,_,rfl,za _,rfl,trivial⟩
      ·intro vs lo hi y hg hd hvia
       replace hg:Grew wA y:=hg
       have hx9:(Region.binds .any { on:=11,ground:=.guard }=true→vs 11=.bool false)∧True:=hd
       have h11:vs 11=.bool false:=hx9.1 rfl
       clear hx9 hd
       clear hvia
       dsimp only
       rw [show vs 11=_ from h11]
       have hm:=HC13.out y hg
       go_wp2_with(refine zg (by rfl) 38 (.tmp 12) rfl q12 0 rfl g1.toList _ hm hut rfl SL1.out ?_;simp only [Array.toArray_toList])
       first | exact⟨rfl,_,rfl,za _,rfl⟩ | exact⟨rfl,_,rfl,za _,rfl,trivial⟩
      ·intro vs lo hi y hg hd hvia
       replace hg:Grew wA y:=hg
       have hx9:(Region.binds .any { on:=12,ground:=.data }=true→vs 12=.agg kc)∧(Region.binds .any { on:=13,ground:=.data }=true→vs 13=.agg g1)∧(Region.binds .any { on:=11,ground:=.chain }=true→vs 11=.bool false)∧(Region.binds .any { on:=11,ground:=.guard }=true→vs 11=.bool false)∧True:=hd
       have h12:vs 12=.agg kc:=hx9.1 rfl
       have h13:vs 13=.agg g1:=hx9.2.1 rfl
       have h11:vs 11=.bool false:=hx9.2.2.2.1 rfl
       clear hx9 hd
       clear hvia
       dsimp only
       rw [show vs 12=_ from h12,show vs 13=_ from h13,show vs 11=_ from h11]
       go_wp2_with(go_at_call 39;refine(CV2.out y hg).mono ?_;rintro e z ⟨rfl,gz⟩)
       first | exact⟨rfl,_,rfl,gz,rfl⟩ | exact⟨rfl,_,rfl,gz,rfl,trivial⟩
      ·intro vs lo hi y hg hd hvia
       replace hg:Grew wA y:=hg
       have hx9:(Region.binds .any { on:=14,ground:=.data }=true→vs 14=.int .i64 0)∧(Region.binds .any { on:=11,ground:=.guard }=true→vs 11=.bool false)∧True:=hd
       have h14:vs 14=.int .i64 0:=hx9.1 rfl
       have h11:vs 11=.bool false:=hx9.2.1 rfl
       clear hx9 hd
       clear hvia
       dsimp only
       rw [show vs 14=_ from h14,show vs 11=_ from h11]
       go_wp2_with fail
       first | exact⟨rfl,_,rfl,za _,rfl⟩ | exact⟨rfl,_,rfl,za _,rfl,trivial⟩
     ·intro i lo hi v x y h hg
      match i,h with
      | 2,_=>trivial
      | 0,_=>trivial
      | 1,_=>trivial
      | m+3,_=>trivial
     ·intro vs lo hi wZ hg hJ hK hB hD
      replace hg:Grew wA wZ:=hg
      have k99:=hK 2 (by decide)
      have b99:=hB 2 (by decide)
      clear hK hB hD
      have j0:vs 0=.agg kc:=hJ 0 (by decide)
      have j1:vs 1=.agg g0:=hJ 1 (by decide)
      have j3:vs 3=.int .i64 sv:=hJ 3 (by decide)
      have j4:vs 4=.agg K.C:=hJ 4 (by decide)
      have j5:vs 5=.agg g0:=hJ 5 (by decide)
      have j6:vs 6=.int .i64 sv:=hJ 6 (by decide)
      have j7:vs 7=.bool true:=hJ 7 (by decide)
      have j8:vs 8=.bool true:=hJ 8 (by decide)
      have j9:vs 9=.int .i64 0:=hJ 9 (by decide)
      have j10:vs 10=.bool false:=hJ 10 (by decide)
      have j11:vs 11=.bool false:=hJ 11 (by decide)
      have j12:vs 12=.agg kc:=hJ 12 (by decide)
      have j13:vs 13=.agg g1:=hJ 13 (by decide)
      have j14:vs 14=.int .i64 0:=hJ 14 (by decide)
      have j15:vs 15=.bool true:=hJ 15 (by decide)
      have s99:=hJ 2 (by decide)
      clear hJ
      simp only [actOf,tk1,tk0,dr1,dr0,Act.put,si1,st1,st0,Nat.reduceAdd]
      rw [show vs 8=_ from j8,show vs 11=_ from j11,show vs 15=_ from j15]
      go_wp2_with fail
      go_ret
      exact⟨rfl,zc HGWr.out (zc HG59.out hg)⟩
    ·skip
     refine yH 16 (fun ix9=>match ix9 with
      | 0=>fun v _=>v=.agg kc
      | 1=>fun v _=>v=.agg g0
      | 2=>fun v W=>OfQ L W v (fun B j=>.agg (vqC u d B L.length j))
      | 3=>fun v _=>v=.int .i64 sv
      | 4=>fun v _=>v=.agg K.C
      | 5=>fun v _=>v=.agg g0
      | 6=>fun v _=>v=.int .i64 sv
      | 7=>fun v _=>v=.bool true
      | 8=>fun v _=>v=.bool true
      | 9=>fun v _=>v=.int .i64 er
      | 10=>fun v _=>v=.bool true
      | 11=>fun v _=>v=.bool true
      | 12=>fun _ _=>True
      | 13=>fun _ _=>True
      | 14=>fun _ _=>True
      | 15=>fun _ _=>True
      | _=>fun _ _=>True) (fun ix9=>match ix9 with
      | 2=>fun _ _ _ _=>True
      | 12=>fun _ _ _ _=>True
      | 13=>fun _ _ _ _=>True
      | 14=>fun _ _ _ _=>True
      | 15=>fun _ _ _ _=>True
      | _=>fun _ _ _ _=>True) (fun ix9=>match ix9 with
      | ix8=>ix8) (fun ix9=>match ix9 with
      | ix8=>ix8) (by kernel_rfl) (by kernel_rfl) (by kernel_rfl) ?_ ?_ ?_ ?_
     ·intro i v x y h hg
      match i,h with
      | 0,h | 1,h | 3,h | 4,h | 5,h | 6,h | 7,h | 8,h | 9,h | 10,h | 11,h=>exact h
      | 2,h=>exact OfQ.gr h hg
      | 12,_=>trivial
      | 13,_=>trivial
      | 14,_=>trivial
      | 15,_=>trivial
      | m+16,_=>trivial
     ·simp only [actOf,tk1,tk0,dr1,dr0,Act.put,si1,st1,st0,Nat.reduceAdd]
      refine⟨?_,?_,?_,?_,?_,?_,?_,?_,?_,?_,?_,?_,?_,?_,?_,?_,trivial⟩
      ·intro vs lo hi y hg hd hvia
       replace hg:Grew wA y:=hg
       clear hvia
       dsimp only
       have hm:=HK3.out y hg
       go_wp2_with(with_reducible refine wpList_load_mid rfl 49 (.tmp 10) rfl qk 0 rfl kc.toList _ hm hukt rfl HSKL.out ?_;simp only [Array.toArray_toList])
       first | exact⟨rfl,_,rfl,za _,rfl⟩ | exact⟨rfl,_,rfl,za _,rfl,trivial⟩
      ·intro vs lo hi y hg hd hvia
       replace hg:Grew wA y:=hg
       clear hvia
       dsimp only
       have hm:=HM2A.out y hg
       go_wp2_with(with_reducible refine wpList_load_mid rfl 28 (.tmp 9) rfl q9 0 rfl g0.toList _ hm hur rfl SIG0.out ?_;simp only [Array.toArray_toList])
       first | exact⟨rfl,_,rfl,za _,rfl⟩ | exact⟨rfl,_,rfl,za _,rfl,trivial⟩
      ·intro vs lo hi y hg hd hvia
       replace hg:Grew wA y:=hg
       obtain⟨h1,_⟩:=hd
       replace h1:=h1 rfl
       clear hvia
       dsimp only
       rw [show vs 1=_ from h1]
       go_wp2_with(go_at_call 40;refine(CTS.out y hg).mono ?_;rintro e z ⟨⟨B9,j9,N9,rfl,hmv9,hsp9⟩,gz⟩)
       exact⟨rfl,_,rfl,gz,⟨B9,j9,N9,rfl,hmv9,hsp9⟩,trivial⟩
      ·intro vs lo hi y hg hd hvia
       replace hg:Grew wA y:=hg
       obtain⟨h0,h2,_⟩:=hd
       replace h0:=h0 rfl
       replace h2:=h2 rfl
       clear hvia
       dsimp only
       rw [show vs 0=_ from h0]
       obtain⟨B9,j9,N9,e9,hmv9,hsp9⟩:=OfQ.out h2
       rw [e9]
       go_wp2_with(go_at_call 39;refine(CV1.out B9 j9 N9 hmv9 y hg hsp9).mono ?_;rintro e z ⟨rfl,gz⟩)
       first | exact⟨rfl,_,rfl,gz,rfl⟩ | exact⟨rfl,_,rfl,gz,rfl,trivial⟩
      ·intro vs lo hi y hg hd hvia
       replace hg:Grew wA y:=hg
       clear hvia
       dsimp only
       have hm:=HM3.out y hg
       go_wp2_with(with_reducible refine wpList_load_mid rfl 24 (.tmp 4) rfl w.heap.size 0 rfl K.C.toList _ hm huk rfl SIK.out ?_;simp only [Array.toArray_toList])
       first | exact⟨rfl,_,rfl,za _,rfl⟩ | exact⟨rfl,_,rfl,za _,rfl,trivial⟩
      ·intro vs lo hi y hg hd hvia
       replace hg:Grew wA y:=hg
       clear hvia
       dsimp only
       have hm:=HM2A.out y hg
       go_wp2_with(with_reducible refine wpList_load_mid rfl 28 (.tmp 9) rfl q9 0 rfl g0.toList _ hm hur rfl SIG0.out ?_;simp only [Array.toArray_toList])
       first | exact⟨rfl,_,rfl,za _,rfl⟩ | exact⟨rfl,_,rfl,za _,rfl,trivial⟩
      ·intro vs lo hi y hg hd hvia
       replace hg:Grew wA y:=hg
       obtain⟨h4,h5,_⟩:=hd
       replace h4:=h4 rfl
       replace h5:=h5 rfl
       clear hvia
       dsimp only
       rw [show vs 4=_ from h4,show vs 5=_ from h5]
       go_wp2_with(go_at_call 41;refine(CVR.out y hg).mono ?_;rintro e z ⟨rfl,gz⟩)
       first | exact⟨rfl,_,rfl,gz,rfl⟩ | exact⟨rfl,_,rfl,gz,rfl,trivial⟩
      ·intro vs lo hi y hg hd hvia
       replace hg:Grew wA y:=hg
       obtain⟨h3,h6,_⟩:=hd
       replace h3:=h3 rfl
       replace h6:=h6 rfl
       clear hvia
       dsimp only
       rw [show vs 3=_ from h3,show vs 6=_ from h6]
       go_wp2_with fail
       first | exact⟨rfl,_,rfl,za _,by simp⟩ | exact⟨rfl,_,rfl,za _,by simp,trivial⟩
      ·intro vs lo hi y hg hd hvia
       replace hg:Grew wA y:=hg
       obtain⟨h7,_⟩:=hd
       replace h7:=h7 rfl
       clear hvia
       dsimp only
       rw [show vs 7=_ from h7]
       go_wp2_with fail
       first | exact⟨rfl,_,rfl,za _,rfl⟩ | exact⟨rfl,_,rfl,za _,rfl,trivial⟩
      ·intro vs lo hi y hg hd hvia
       replace hg:Grew wA y:=hg
       have hx9:(Region.binds .any { on:=8,ground:=.guard }=true→vs 8=.bool true)∧True:=hd
       have h8:vs 8=.bool true:=hx9.1 rfl
       clear hx9 hd
       clear hvia
       dsimp only
       rw [show vs 8=_ from h8]
       go_wp2_with fail
       first | exact⟨rfl,_,rfl,za _,rfl⟩ | exact⟨rfl,_,rfl,za _,rfl,trivial⟩
      ·intro vs lo hi y hg hd hvia
       replace hg:Grew wA y:=hg
       have hx9:(Region.binds .any { on:=9,ground:=.data }=true→vs 9=.int .i64 er)∧(Region.binds .any { on:=8,ground:=.guard }=true→vs 8=.bool true)∧True:=hd
       have h9:vs 9=.int .i64 er:=hx9.1 rfl
       have h8:vs 8=.bool true:=hx9.2.1 rfl
       clear hx9 hd
       clear hvia
       dsimp only
       rw [show vs 9=_ from h9,show vs 8=_ from h8]
       go_wp2_with fail
       first | exact⟨rfl,_,rfl,za _,by simpa using her⟩ | exact⟨rfl,_,rfl,za _,by simpa using her,trivial⟩
      ·intro vs lo hi y hg hd hvia
       replace hg:Grew wA y:=hg
       have hx9:(Region.binds .any { on:=10,ground:=.data }=true→vs 10=.bool true)∧(Region.binds .any { on:=8,ground:=.chain }=true→vs 8=.bool true)∧(Region.binds .any { on:=8,ground:=.guard }=true→vs 8=.bool true)∧True:=hd
       have h10:vs 10=.bool true:=hx9.1 rfl
       have h8:vs 8=.bool true:=hx9.2.2.1 rfl
       clear hx9 hd
       clear hvia
       dsimp only
       rw [show vs 10=_ from h10,show vs 8=_ from h8]
       go_wp2_with fail
       first | exact⟨rfl,_,rfl,za _,rfl⟩ | exact⟨rfl,_,rfl,za _,rfl,trivial⟩
      ·intro vs lo hi y hg hd hvia
       replace hg:Grew wA y:=hg
       have hx9:(Region.binds .any { on:=11,ground:=.guard }=true→vs 11=.bool true)∧True:=hd
       have h11:vs 11=.bool true:=hx9.1 rfl
       clear hx9 hd
       clear hvia
       dsimp only
       rw [show vs 11=_ from h11]
       go_wp2_with fail
       first | exact⟨rfl,_,rfl,za _,trivial,trivial⟩ | exact⟨rfl,_,rfl,za _,trivial⟩ | exact⟨rfl,_,rfl,za _⟩
      ·intro vs lo hi y hg hd hvia
       replace hg:Grew wA y:=hg
       have hx9:(Region.binds .any { on:=11,ground:=.guard }=true→vs 11=.bool true)∧True:=hd
       have h11:vs 11=.bool true:=hx9.1 rfl
       clear hx9 hd
       clear hvia
       dsimp only
       rw [show vs 11=_ from h11]
       go_wp2_with fail
       first | exact⟨rfl,_,rfl,za _,trivial,trivial⟩ | exact⟨rfl,_,rfl,za _,trivial⟩ | exact⟨rfl,_,rfl,za _⟩
      ·intro vs lo hi y hg hd hvia
       replace hg:Grew wA y:=hg
       have hx9:(Region.binds .any { on:=12,ground:=.data }=true→(fun _ _=>True) (vs 12) y)∧(Region.binds .any { on:=13,ground:=.data }=true→(fun _ _=>True) (vs 13) y)∧(Region.binds .any { on:=11,ground:=.chain }=true→vs 11=.bool true)∧(Region.binds .any { on:=11,ground:=.guard }=true→vs 11=.bool true)∧True:=hd
       have h12:(fun _ _=>True) (vs 12) y:=hx9.1 rfl
       have h13:(fun _ _=>True) (vs 13) y:=hx9.2.1 rfl
       have h11:vs 11=.bool true:=hx9.2.2.2.1 rfl
       clear hx9 hd
       clear hvia
       dsimp only
       rw [show vs 11=_ from h11]
       go_wp2_with fail
       first | exact⟨rfl,_,rfl,za _,trivial,trivial⟩ | exact⟨rfl,_,rfl,za _,trivial⟩ | exact⟨rfl,_,rfl,za _⟩
      ·intro vs lo hi y hg hd hvia
       replace hg:Grew wA y:=hg
       have hx9:(Region.binds .any { on:=14,ground:=.data }=true→(fun _ _=>True) (vs 14) y)∧(Region.binds .any { on:=11,ground:=.guard }=true→vs 11=.bool true)∧True:=hd
       have h14:(fun _ _=>True) (vs 14) y:=hx9.1 rfl
       have h11:vs 11=.bool true:=hx9.2.1 rfl
       clear hx9 hd
       clear hvia
       dsimp only
       rw [show vs 11=_ from h11]
       go_wp2_with fail
       first | exact⟨rfl,_,rfl,za _,trivial,trivial⟩ | exact⟨rfl,_,rfl,za _,trivial⟩ | exact⟨rfl,_,rfl,za _⟩
     ·intro i lo hi v x y h hg
      match i,h with
      | 2,_=>trivial
      | 12,_=>trivial
      | 13,_=>trivial
      | 14,_=>trivial
      | 15,_=>trivial
      | 0,_=>trivial
      | 1,_=>trivial
      | 3,_=>trivial
      | 4,_=>trivial
      | 5,_=>trivial
      | 6,_=>trivial
      | 7,_=>trivial
      | 8,_=>trivial
      | 9,_=>trivial
      | 10,_=>trivial
      | 11,_=>trivial
      | m+16,_=>trivial
     ·intro vs lo hi wZ hg hJ hK hB hD
      replace hg:Grew wA wZ:=hg
      have k99:=hK 2 (by decide)
      have b99:=hB 2 (by decide)
      have k109:=hK 12 (by decide)
      have b109:=hB 12 (by decide)
      have k110:=hK 13 (by decide)
      have b110:=hB 13 (by decide)
      have k111:=hK 14 (by decide)
      have b111:=hB 14 (by decide)
      have k112:=hK 15 (by decide)
      have b112:=hB 15 (by decide)
      have d99_109:=hD 2 (by decide) 12 (by decide) (by decide)
      have d99_110:=hD 2 (by decide) 13 (by decide) (by decide)
      have d99_111:=hD 2 (by decide) 14 (by decide) (by decide)
      have d99_112:=hD 2 (by decide) 15 (by decide) (by decide)
      have d109_110:=hD 12 (by decide) 13 (by decide) (by decide)
      have d109_111:=hD 12 (by decide) 14 (by decide) (by decide)
      have d109_112:=hD 12 (by decide) 15 (by decide) (by decide)
      have d110_111:=hD 13 (by decide) 14 (by decide) (by decide)
      have d110_112:=hD 13 (by decide) 15 (by decide) (by decide)
      have d111_112:=hD 14 (by decide) 15 (by decide) (by decide)
      clear hK hB hD
      have j0:vs 0=.agg kc:=hJ 0 (by decide)
      have j1:vs 1=.agg g0:=hJ 1 (by decide)
      have j3:vs 3=.int .i64 sv:=hJ 3 (by decide)
      have j4:vs 4=.agg K.C:=hJ 4 (by decide)
      have j5:vs 5=.agg g0:=hJ 5 (by decide)
      have j6:vs 6=.int .i64 sv:=hJ 6 (by decide)
      have j7:vs 7=.bool true:=hJ 7 (by decide)
      have j8:vs 8=.bool true:=hJ 8 (by decide)
      have j9:vs 9=.int .i64 er:=hJ 9 (by decide)
      have j10:vs 10=.bool true:=hJ 10 (by decide)
      have j11:vs 11=.bool true:=hJ 11 (by decide)
      have s99:=hJ 2 (by decide)
      have s109:=hJ 12 (by decide)
      have s110:=hJ 13 (by decide)
      have s111:=hJ 14 (by decide)
      have s112:=hJ 15 (by decide)
      clear hJ
      simp only [actOf,tk1,tk0,dr1,dr0,Act.put,si1,st1,st0,Nat.reduceAdd]
      rw [show vs 8=_ from j8,show vs 11=_ from j11]
      go_wp2_with fail
      go_ret
      exact⟨rfl,zc HGWr.out (zc HG59.out hg)⟩
end Go.Proofs.YtidjnnnigcmdpaaGreatDoor
