/- folkmootlaw16.Empty (mkema.py). -/
import Derived.Test.YtidjnnnigcmdpaaGreatDoorJzz
import Derived.Test.YtidjnnnigcmdpaaGreatDoorJbq
import Derived.Test.YtidjnnnigcmdpaaGreatDoorJbl
import Derived.Test.YtidjnnnigcmdpaaGreatDoorJbo
import Derived.Deep.Cut
import Derived.Test.YtidjnnnigcmdpaaGreatDoorJak
import Derived.Test.YtidjnnnigcmdpaaGreatDoorJbb
import Derived.Laws.MakeOwn
import Derived.Test.YtidjnnnigcmdpaaGreatDoorJbp
import Derived.Test.YtidjnnnigcmdpaaGreatDoorJbm
import Derived.Test.YtidjnnnigcmdpaaGreatDoorJbk
import Derived.Test.YtidjnnnigcmdpaaGreatDoorJab
import Derived.Test.YtidjnnnigcmdpaaGreatDoorJaa
import Derived.Test.YtidjnnnigcmdpaaGreatDoorJbg
set_option maxHeartbeats 8000000
set_option maxRecDepth 100000
set_option linter.unusedSimpArgs false
set_option linter.unusedVariables false
set_option linter.unnecessarySimpa false
namespace Go.Proofs.YtidjnnnigcmdpaaGreatDoor
open Go.RowKit
noncomputable def rpK (seed:Int) (h m:Nat) (lo hi:Int) (i:Nat) (CA:Option Addr) (ck:Nat) (A:Option Addr) (c:Nat):RP:=⟨i,lo,hi,CA,ck,i,m,signF (secN (sdI seed i) (m:Int)) (rpD (i:Int) lo hi),A,c,pathN (ksL seed h i) m⟩
theorem rpK_ok (seed:Int) (h m:Nat) (hh:h≤5) (hm:m<2^h) (lo hi:Int) (hlo:in64 lo) (hhi:in64 hi) (i:Nat) (hi4:i<4) (CA:Option Addr) (ck:Nat) (A:Option Addr) (c:Nat):(rpK seed h m lo hi i CA ck A c).ok:=by
 have hp:=pow5 h hh
 refine⟨⟨by show _≤(i:Int);omega,by show(i:Int)≤_;omega⟩,hlo,hhi,⟨by show _≤(i:Int);omega,by show(i:Int)≤_;omega⟩,⟨by show _≤(m:Int);omega,by show(m:Int)≤_;omega⟩,fun k _=>jU _ _ _ (kd _ _ _),?_,(show ∀ x∈pathN (ksL seed h i) m,x<18446744073709551616 from jW _ _ (yR _ _))⟩
 show(pathN (ksL seed h i) m).length≤1000
 unfold ksL
 rw [xo _ h (by omega) m hm];omega
def keysN (seed:Int) (h:Nat) (p nx:Nat→Nat) (w:World):Prop:=∀ i,i<4→KyAt w (p i+1) (p i) (i:Int) (sdI seed i) (ksL seed h i) (nx i) (2^h)
theorem keysN.grew {seed:Int} {h:Nat} {p nx:Nat→Nat} {w w':World} (k:keysN seed h p nx w) (g:Grew w w'):keysN seed h p nx w':=fun i hi=>(k i hi).grew g
structure EmL (seed:Int) (h:Nat) (nx:Nat→Nat) (lo hi:Int) (L:List RP) (k:Nat):Prop where
 len:L.length=k
 get:∀ i (h':i<L.length),∃ CA ck A c,L[i]=rpK seed h (nx i) lo hi i CA ck A c
theorem EmL.nil (seed:Int) (h:Nat) (nx:Nat→Nat) (lo hi:Int):EmL seed h nx lo hi [] 0:=⟨rfl,fun i h'=>absurd h' (by simp)⟩
theorem EmL.snoc {seed:Int} {h:Nat} {nx:Nat→Nat} {lo hi:Int} {L:List RP} {k:Nat} (e:EmL seed h nx lo hi L k) (CA:Option Addr) (ck:Nat) (A:Option Addr) (c:Nat):EmL seed h nx lo hi (L++[rpK seed h (nx k) lo hi k CA ck A c]) (k+1):=by
 refine⟨by simp [e.len],fun i h'=>?_⟩
 by_cases hk:i<L.length
 ·rw [List.getElem_append_left hk]
  exact e.get i hk
 ·have hi':i=k:=by have:=e.len;simp at h';omega
  subst hi'
  refine⟨CA,ck,A,c,?_⟩
  have:∀ n (hn:n<(L++[rpK seed h (nx i) lo hi i CA ck A c]).length),n=L.length→(L++[rpK seed h (nx i) lo hi i CA ck A c])[n]=rpK seed h (nx i) lo hi i CA ck A c:=fun n hn e=>by subst e;simp
  exact this i h' e.len.symm
theorem zk7 (seed:Int) (h i m:Nat) (hh:h≤5) (hi4:i<4) (hm:m<2^h) (p:Nat) (lo hi:Int) (hlo:0≤lo) (hlh:lo<hi) (hhi:hi≤1099511627776) (pb base:Nat) (room:Int) (w0:World) (hS:Std w0) (w:World) (gw:Grew w0 w) (hpb:w0.heap.size≤pb) (hP:PlS w pb base room 0 (.slice none 0 0) []) (hne1:pb≠p+1) (hne2:pb≠p) (hk:KyAt w (p+1) p (i:Int) (sdI seed i) (ksL seed h i) m (2^h)) :
 Calls Tryz.prog 114 #[.pointer (some ⟨p+1,0,none⟩),.int .i64 (i:Int),.pointer (some ⟨pb,0,none⟩),.int .i64 lo,.int .i64 hi] w fun e w' =>
  (∃ CA ck A c,e=.returned (.tuple #[.agg (rpK seed h m lo hi i CA ck A c).C,.int .i64 0])∧(rpK seed h m lo hi i CA ck A c).at w'∧(∀ ad,A=some ad→w.heap.size≤ad.block))∧Kp (fun j=>j=p+1∨j=pb) w w'∧KyAt w' (p+1) p (i:Int) (sdI seed i) (ksL seed h i) (m+1) (2^h):=by
 have hp:=pow5 h hh
 have hl:(ksL seed h i).length=2^h:=yl _ _
 exact(zg3 (p+1) p (i:Int) (sdI seed i) (ksL seed h i) m (2^h) (by rw [hl];omega) (by rw [hl];omega) (by rw [hl];omega) (by rw [hl];exact hp.2) (yR _ _) (jo _ _) (fun j hj=>by
  rw [hl]at hj
  unfold ksL
  rw [xo _ h (by omega) j hj];omega) (i:Int) ⟨by omega,by omega⟩ lo hi hlo hlh hhi (by rw [hl];exact hm) hm pb base room w0 hS w gw hpb hP hne1 hne2 hk).mono fun e w' ⟨⟨CA,ck,A,c,h1,h2,h3⟩,h4,h5⟩=>⟨⟨CA,ck,A,c,h1,h2,h3⟩,h4,h5⟩
theorem zaj {S:RP} {w:World} (h:S.at w):∀ ad,S.A=some ad→S.l=[]∨ad.block<w.heap.size:=fun ad e=>by
 cases hl:S.l with
 | nil=>exact .inl rfl
 | cons a r =>
  obtain⟨ad',e',hb,_⟩:=h 0 (by simp [u64L,hl])
  rw [e]at e';cases e'
  exact .inr hb
theorem qV {S:RP} {w w':World} {row:Option Nat} (h:S.at w) (k:w.grownBy w' row) (hn:∀ ad,S.A=some ad→∀ g,row=some g→S.l=[]∨ad.block≠g):S.at w':=by
 by_cases hl:S.l=[]
 ·intro j hj;rw [hl]at hj;exact absurd hj (by simp [u64L])
 ·exact kD h k (fun ad e hh=>by
   rcases hn ad e ad.block hh with h1 | h1
   ·exact hl h1
   ·exact h1 rfl)
theorem kq {S:RP} {P:Nat→Prop} {w w':World} (h:S.at w) (k:Kp P w w') (hn:∀ ad,S.A=some ad→S.l=[]∨¬P ad.block):S.at w':=by
 by_cases hl:S.l=[]
 ·intro j hj;rw [hl]at hj;exact absurd hj (by simp [u64L])
 ·exact(Rd.kp h k (Nat.le_refl _) (fun ad e _=>by
   rcases hn ad e with h1 | h1
   ·exact absurd h1 hl
   ·exact h1)).more k.size
theorem zg4 (vw:Int) (qb:Nat) (qv:Int) (QA:Option Addr) (n qc:Nat) (lo hi:Int):Tryz.prog.built 41 [(0,.int .i64 vw),(1,.int .u64 (qb:Nat)),(2,.agg (vqC qv qb QA n qc)),(3,.int .i64 lo),(4,.int .i64 hi)]=some (#[.int .i64 vw,.int .u64 (qb:Nat),.int .i64 qv,.int .u64 (qb:Nat),.slice QA n qc,.int .i64 lo,.int .i64 hi,.slice none 0 0]):=by kernel_rfl
theorem rp_inf:(Tryz.prog.info? 149).map (fun i=>(i.zero,i.size,i.bytes))=some (some (.agg (#[.int .i64 0,.int .i64 0,.int .i64 0,.slice none 0 0,.int .i64 0,.int .i64 0,.int .u64 0,.int .u64 0,.int .u64 0,.int .u64 0,.int .u64 0,.int .u64 0,.int .u64 0,.int .u64 0,.int .u64 0,.int .u64 0,.int .u64 0,.int .u64 0,.int .u64 0,.int .u64 0,.int .u64 0,.int .u64 0,.int .u64 0,.int .u64 0,.slice none 0 0]:Array Value)),25,232):=by kernel_rfl
theorem ziy (L:List RP) (S:RP):(rpL (L++[S])).flatten=(rpL L).flatten++S.C.toList:=by rw [ze9,List.flatten_append];simp [rpL]
theorem ziz (S:RP):Array.foldl (fun(cs:Array Value) (x:Value × Nat)=>cs.setIfInBounds x.snd x.fst) (#[.int .i64 0,.int .i64 0,.int .i64 0,.slice none 0 0,.int .i64 0,.int .i64 0,.int .u64 0,.int .u64 0,.int .u64 0,.int .u64 0,.int .u64 0,.int .u64 0,.int .u64 0,.int .u64 0,.int .u64 0,.int .u64 0,.int .u64 0,.int .u64 0,.int .u64 0,.int .u64 0,.int .u64 0,.int .u64 0,.int .u64 0,.int .u64 0,.slice none 0 0]) S.C.zipIdx 0 25=S.C:=zkt _ _ _ _ _ _ _ _ _ _ _
theorem zg5 {w:World} {base:Nat} {e:TypeId} {size n:Nat} {v:Value} {xs:List Value} (h:w.ownsRow base e size v n xs):∃ A c,v=.slice A n c:=by
 rcases h.2 with ⟨rfl,rfl⟩ | ⟨g,cap,cur,rfl,_⟩
 ·exact⟨none,0,rfl⟩
 ·exact⟨_,_,rfl⟩
def nxt (nx:Nat→Nat) (k:Nat):Nat→Nat:=fun i=>if i<k then nx i+1 else nx i
theorem zla (seed:Int) (h:Nat) (hh:Hid (h≤5)) (nx:Nat→Nat) (hnx:Hid (∀ i,i<3→nx i<2^h)) (vw qv:Int) (qb:Nat) (QA:Option Addr) (Q:List VP) (qc:Nat) (lo hi:Int) (hlo:Hid (0≤lo)) (hlh:Hid (lo<hi)) (hhi:Hid (hi≤1099511627776)) (w0:World) (hS:Std w0) (p:Nat→Nat) (lad:Addr) (Lc:Nat) (w:World) (g0:Grew w0 w)
 (hks:keysN seed h p nx w)
 (hap:∀ i j,i<4→j<4→i≠j→p i≠p j∧p i+1≠p j∧p i≠p j+1)
 (hlow:∀ i,i<4→w0.heap.size≤p i+1)
 (hld:∀ i,i<4→w.cell? (lad.add i)=some (.pointer (some ⟨p i+1,0,none⟩)))
 (fl:∀ i,i<4→lad.block≠p i+1) :
 Calls Tryz.prog 44 #[.slice (some lad) 4 Lc,.int .i64 vw,.agg (vqC qv qb QA Q.length qc),.int .i64 lo,.int .i64 hi] w fun e w' =>
  (∃ BA bc L,e=.returned (.tuple #[.agg (⟨vw,qb,qv,qb,QA,Q,qc,lo,hi,BA,L,bc⟩:BK).C,.bool true])∧EmL seed h nx lo hi L 3∧Rps w' BA L∧(∀ ad,BA=some ad→w.heap.size≤ad.block)∧(∀ S∈L,∀ ad,S.A=some ad→S.l=[]∨w.heap.size≤ad.block)∧3≤bc)∧Kp (fun j=>∃ i,i<4∧j=p i+1) w w'∧keysN seed h p (nxt nx 3) w':=by
 have HS:=hQ9 hS
 have HW00:=hQ9 g0.size
 have hut:=Tryz.underlying149
 have hub:=Tryz.underlying41
 have huq:=Tryz.underlying38
 obtain⟨i0,hi0,hz0,hz1,hz2⟩:=info_parts rp_inf
 have HP:Hid (∀ i,i<4→w0.heap.size≤p i+1∧p i+1<w.heap.size∧p i<w.heap.size):=hQ9 (fun i hi=>⟨hlow i hi,(hks i hi).key.lt,(hks i hi).pub.lt⟩)
 have HAP:=hQ9 hap
 have FL:=hQ9 fl
 have HLB:Hid (lad.block<w.heap.size):=hQ9 (by have:=yj (hld 0 (by decide));rwa [zv]at this)
 have HIN:Hid (in64 lo∧in64 hi):=hQ9 ⟨⟨by have:=hlo.out;omega,by have:=hlh.out;have:=hhi.out;omega⟩,⟨by have:=hlo.out;have:=hlh.out;omega,by have:=hhi.out;omega⟩⟩
 have zq:=(Ag.new w 38 (vqC qv qb QA Q.length qc)).grew (zg (zc _) (.cells (#[.int .i64 0,.int .u64 0,.int .i64 0,.int .u64 0,.slice none 0 0,.int .i64 0,.int .i64 0,.slice none 0 0]:Array Value) 41))
 have zt:=Ag.new (w.alloc (.cells (vqC qv qb QA Q.length qc) 38)) 41 (#[.int .i64 0,.int .u64 0,.int .i64 0,.int .u64 0,.slice none 0 0,.int .i64 0,.int .i64 0,.slice none 0 0]:Array Value)
 rw [zl]at zt
 have ga:=zg (zg (zc w) (.cells (vqC qv qb QA Q.length qc) 38)) (.cells (#[.int .i64 0,.int .u64 0,.int .i64 0,.int .u64 0,.slice none 0 0,.int .i64 0,.int .i64 0,.slice none 0 0]:Array Value) 41)
 have hsa:((w.alloc (.cells (vqC qv qb QA Q.length qc) 38)).alloc (.cells (#[.int .i64 0,.int .u64 0,.int .i64 0,.int .u64 0,.slice none 0 0,.int .i64 0,.int .i64 0,.slice none 0 0]:Array Value) 41)).heap.size=w.heap.size+1+1:=by rw [zl,zl]
 have c1:((w.alloc (.cells (vqC qv qb QA Q.length qc) 38)).alloc (.cells (#[.int .i64 0,.int .u64 0,.int .i64 0,.int .u64 0,.slice none 0 0,.int .i64 0,.int .i64 0,.slice none 0 0]:Array Value) 41)).cell? ⟨w.heap.size,1,none⟩=some (.int .u64 (qb:Nat)):=by simpa [vqC]using zq.cell 1 _ rfl
 have hmq:=zq.cell
 have SIQ:Hid ((Tryz.prog.info? 38).map (·.size)=some (vqC qv qb QA Q.length qc).toList.length):=hQ9 zP
 have HZV:Hid (∀ W,(zeroValue 41).run Tryz.prog W=.ok (.agg (#[.int .i64 0,.int .u64 0,.int .i64 0,.int .u64 0,.slice none 0 0,.int .i64 0,.int .i64 0,.slice none 0 0]:Array Value)) W):=hQ9 (fun W=>by kernel_rfl)
 have hzv:=HZV.out
 have HZR:Hid (∀ W,(zeroValue 149).run Tryz.prog W=.ok (.agg (#[.int .i64 0,.int .i64 0,.int .i64 0,.slice none 0 0,.int .i64 0,.int .i64 0,.int .u64 0,.int .u64 0,.int .u64 0,.int .u64 0,.int .u64 0,.int .u64 0,.int .u64 0,.int .u64 0,.int .u64 0,.int .u64 0,.int .u64 0,.int .u64 0,.int .u64 0,.int .u64 0,.int .u64 0,.int .u64 0,.int .u64 0,.int .u64 0,.slice none 0 0]:Array Value)) W):=hQ9 (fun W=>by kernel_rfl)
 obtain⟨wa,hwa⟩:∃ v,(w.alloc (.cells (vqC qv qb QA Q.length qc) 38)).alloc (.cells (#[.int .i64 0,.int .u64 0,.int .i64 0,.int .u64 0,.slice none 0 0,.int .i64 0,.int .i64 0,.slice none 0 0]:Array Value) 41)=v:=⟨_,rfl⟩
 rw [hwa]at zt ga hsa hmq
 have HWA:=hQ9 hwa
 obtain⟨b0,hb0⟩:∃ g,(#[.int .i64 vw,.int .u64 (qb:Nat),.int .i64 qv,.int .u64 (qb:Nat),.slice QA Q.length qc,.int .i64 lo,.int .i64 hi,.slice none 0 0]:Array Value)=g:=⟨_,rfl⟩
 have HBU:=hQ9 (zg4 vw qb qv QA Q.length qc lo hi)
 have HB0:=hQ9 hb0
 have SIB:Hid ((Tryz.prog.info? 41).map (·.size)=some b0.size):=hQ9 (by rw [←hb0];exact xq)
 have HOB:Hid (b0.all (·.oneCell')=true):=hQ9 (by rw [←hb0];simp [Value.oneCell'])
 obtain⟨wb,hwb,htb,gb,zb⟩:=zW wa 41 (#[.int .i64 0,.int .u64 0,.int .i64 0,.int .u64 0,.slice none 0 0,.int .i64 0,.int .i64 0,.slice none 0 0]:Array Value) b0 (by rw [←hb0];rfl)
 rw [hb0]at HBU
 have HWB:=hQ9 hwb
 have HTB:=hQ9 htb
 have zt:=zt.grew gb
 have GB:=ze ga gb
 have hqb:=zb.lt
 rw [hsa]at hqb
 have hzb:Ag wb (w.heap.size+1+1) ([.int .i64 vw,.int .u64 (qb:Nat),.int .i64 qv,.int .u64 (qb:Nat),.slice QA Q.length qc,.int .i64 lo,.int .i64 hi]++[.slice none 0 0]):=by
  have:=zb
  rw [hsa,←hb0]at this
  exact this
 obtain⟨B0,hB0⟩:∃ b,wb.heap.size=b:=⟨_,rfl⟩
 have HBE:Hid (w.heap.size+1+1<B0):=hQ9 (by rw [←hB0];exact hqb)
 have HBB:Hid (B0≤wb.heap.size):=hQ9 (by omega)
 have hown0:wb.ownsRow B0 149 25 (.slice none 0 0) 0 (rpL []).flatten:=World.ownsRow_nil _ _ _ _
 have HKS:Hid (keysN seed h p (nxt nx 0) wb):=hQ9 (fun i hi=>by
  have:nxt nx 0 i=nx i:=by unfold nxt;rw [if_neg (by omega)]
  rw [this];exact(hks i hi).grew GB)
 have HLD:Hid (∀ i,i<4→wb.cell? (lad.add i)=some (.pointer (some ⟨p i+1,0,none⟩))):=hQ9 (fun i hi=>(GB.cell (p:=lad.add i) (yj (hld i hi))).trans (hld i hi))
 have GA:=ze g0 GB
 have KA:Kp (fun j=>∃ i,i<4∧j=p i+1) w wb:=zj GB
 have HSZ2:Hid (wa.heap.size=w.heap.size+1+1):=hQ9 hsa
 clear hS hks hap hlow hld fl hsa ga g0 hB0 hwa hwb htb gb zb zq hqb GB hb0
 obtain⟨gq,hgq⟩:∃ g,vqC qv qb QA Q.length qc=g:=⟨_,rfl⟩
 rw [hgq]at HWA hmq SIQ HBU c1 ⊢
 clear hgq
 go_enter Tryz.func44,Tryz.ntmps44
 go_wp2_with(first
  | (rw [HWA.out];with_reducible refine wpList_load_mid rfl 38 (.tmp 7) rfl w.heap.size 0 rfl gq.toList _ hmq huq rfl SIQ.out ?_;simp only [Array.toArray_toList])
  | (with_reducible refine wpList_load_mid rfl 38 (.tmp 7) rfl w.heap.size 0 rfl gq.toList _ hmq huq rfl SIQ.out ?_;simp only [Array.toArray_toList])
  | (with_reducible refine zC rfl 41 #[(0,.tmp 18),(1,.tmp 20),(2,.tmp 21),(3,.tmp 22),(4,.tmp 23)] rfl b0 ?_ ?_;· simpa [Act.eval,Act.put]using HBU.out)
  | (with_reducible refine wpList_store_mid rfl 41 (.tmp 12) (.tmp 24) rfl wa.heap.size 0 b0 rfl rfl HTB.out SIB.out HOB.out ?_;rw [HWB.out];clear HWB HTB;rw [HSZ2.out]))
 clear c1 hmq HWA
 go_loopw [13] (fun iv wr=>∃(k:Nat) (v:Value) (L:List RP),k≤3∧iv=.int .i64 (k:Int)∧B0≤wr.heap.size∧EmL seed h nx lo hi L k∧(∀ S∈L,S.ok)∧(∀ S∈L,S.at wr)∧(∀ S∈L,∀ ad,S.A=some ad→∀ g,v.ownBlock=some g→S.l=[]∨ad.block≠g)∧(∀ S∈L,∀ ad,S.A=some ad→S.l=[]∨B0≤ad.block)∧wr.ownsRow B0 149 25 v k (rpL L).flatten∧keysN seed h p (nxt nx k) wr∧Ag wr (w.heap.size+1) (#[.int .i64 0,.int .u64 0,.int .i64 0,.int .u64 0,.slice none 0 0,.int .i64 0,.int .i64 0,.slice none 0 0]:Array Value).toList∧Ag wr (w.heap.size+1+1) ([.int .i64 vw,.int .u64 (qb:Nat),.int .i64 qv,.int .u64 (qb:Nat),.slice QA Q.length qc,.int .i64 lo,.int .i64 hi]++[v])∧(∀ i,i<4→wr.cell? (lad.add i)=some (.pointer (some ⟨p i+1,0,none⟩)))∧Kp (fun j=>∃ i,i<4∧j=p i+1) w wr∧Grew w0 wr) (fun iv _=>3-(Go.RowKit.intOf iv).toNat)
 case atStart=>exact⟨0,.slice none 0 0,[],by omega,rfl,HBB.out,EmL.nil _ _ _ _ _,by simp,by simp,by simp,by simp,hown0,HKS.out,zt,hzb,HLD.out,KA,GA⟩
 case round =>
  clear hown0 HKS zt hzb HLD KA GA HBB
  obtain⟨k,v,L,hk,rfl,hB0,hem,hok,hat,hne,hlow,hrow,hks,zt,zb,hld,hkp,hg⟩:=hrel
  by_cases hlt:k<3
  ·have hk4:k<4:=by omega
   have h0:(0:Int)≤(k:Int):=by omega
   have h4:(k:Int)<4:=by omega
   have h3:(k:Int)<3:=by omega
   have e34:IntKind.i64.wrap ((k:Int)+1)=(k:Int)+1:=IntWalk.i64_in _ (by omega)
   have HPK:=hQ9 (HP.out k hk4)
   have HPW:=hQ9 (fun i hi=>HP.out i hi)
   have hnk:nxt nx k k=nx k:=by unfold nxt;rw [if_neg (by omega)]
   have HKK:Hid (KyAt wr (p k+1) (p k) (k:Int) (sdI seed k) (ksL seed h k) (nx k) (2^h)):=hQ9 (by have:=hks k hk4;rwa [hnk]at this)
   have HEM:=hQ9 hem
   have HOKL:=hQ9 hok
   have HAT:=hQ9 hat
   have HNE:=hQ9 hne
   have HLW:=hQ9 hlow
   have HROW:=hQ9 hrow
   have HKSR:=hQ9 hks
   have HZT:=hQ9 zt
   have HZBL:=hQ9 zb
   have HLDR:=hQ9 hld
   have HKPR:=hQ9 hkp
   have HGR:=hQ9 hg
   have HBW:=hQ9 hB0
   have HL3:=hQ9 hlt
   have HL4:=hQ9 hk4
   have HRK:Hid (nx k<2^h):=hQ9 (hnx.out k hlt)
   have HC9:=hQ9 (zkb 9 ⟨by decide,by decide⟩ wr)
   clear hem hok hat hne hlow hrow hks zt zb hld hkp hg hB0 hlt hk4 hk hnk
   go_wp2_with fail
   refine(HC9.out).mono ?_
   rintro e w2 ⟨pp,rfl,hPL,hpp,g2⟩
   have hlc:w2.cell? (lad.add k)=some (.pointer (some ⟨p k+1,0,none⟩)):=(g2.cell (p:=lad.add k) (yj (HLDR.out k HL4.out))).trans (HLDR.out k HL4.out)
   have CMK:=hQ9 (zk7 seed h k (nx k) hh.out HL4.out HRK.out (p k) lo hi hlo.out hlh.out hhi.out pp w2.heap.size 9 w0 HS.out w2 (ze HGR.out g2) (by have:=HGR.out.size;omega) hPL (by have:=HPK.out;have:=HBW.out;have:=HBE.out;omega) (by have:=HPK.out;have:=HBW.out;have:=HBE.out;omega) (HKK.out.grew g2))
   have HG2:=hQ9 g2
   have HPP:=hQ9 hpp
   have hpl:=hPL.ptr.lt
   clear hPL hpp HC9 g2
   go_wp2_with fail
   refine(CMK.out).mono ?_
   rintro e w3 ⟨⟨CA,ck,A,c,rfl,hatS,hfrS⟩,k3,K3⟩
   obtain⟨S,hS⟩:∃ S,rpK seed h (nx k) lo hi k CA ck A c=S:=⟨_,rfl⟩
   have HSE:=hQ9 hS
   have hSok:S.ok:=by rw [←hS];exact rpK_ok seed h (nx k) hh.out HRK.out lo hi HIN.out.1 HIN.out.2 k HL4.out CA ck A c
   have hSA:S.A=A:=by rw [←hS];rfl
   rw [hS]at hatS ⊢
   have HSOK:=hQ9 hSok
   have HVL:Hid (∀ g,v.ownBlock=some g→g<w2.heap.size):=hQ9 (fun g hg=>by have:=(zG HROW.out g hg).2;have:=HG2.out.size;omega)
   have HFRS:Hid (∀ ad,S.A=some ad→w2.heap.size≤ad.block):=hQ9 (fun ad e=>hfrS ad (by rw [←hSA];exact e))
   -- what stays over the report's making
   have hwr2:=HG2.out.size
   have hwr3:=k3.size
   have hBW:=HBW.out
   have hBE:=HBE.out
   have NOT:Hid (∀ b,b<wr.heap.size→b≠p k+1→¬(b=p k+1∨b=pp)):=hQ9 (fun b h1 h2 h3=>by have:=HPP.out;omega)
   have row3:=zx (zx (S:=fun _=>False) HROW.out (zj HG2.out) (fun g _ h=>h)) k3 (fun g hg=>NOT.out g (zG HROW.out g hg).2 (by have:=(zG HROW.out g hg).1;have:=HPK.out;omega))
   have zt3:=(HZT.out.grew HG2.out).kp k3 (NOT.out _ (by omega) (by have:=HPK.out;omega))
   have zb3:=(HZBL.out.grew HG2.out).kp k3 (NOT.out _ (by omega) (by have:=HPK.out;omega))
   have ld3:∀ i,i<4→w3.cell? (lad.add i)=some (.pointer (some ⟨p i+1,0,none⟩)):=fun i hi=>(World.cell?_of_block (by rw [zv];exact k3.block lad.block (by have:=HLB.out;omega) (NOT.out _ (by have:=HLB.out;omega) (FL.out k HL4.out)))).trans ((HG2.out.cell (p:=lad.add i) (yj (HLDR.out i hi))).trans (HLDR.out i hi))
   have ks3:keysN seed h p (nxt nx (k+1)) w3:=fun i hi=>by
    by_cases hik:i=k
    ·subst hik
     have:nxt nx (i+1) i=nx i+1:=by unfold nxt;rw [if_pos (by omega)]
     rw [this];exact K3
    ·have:nxt nx (k+1) i=nxt nx k i:=by
      unfold nxt
      by_cases h1:i<k
      ·rw [if_pos h1,if_pos (by omega)]
      ·rw [if_neg h1,if_neg (by omega)]
     rw [this]
     have hpi:=HPW.out i hi
     have hap:=HAP.out i k hi HL4.out hik
     exact((HKSR.out i hi).grew HG2.out).kp k3 (NOT.out _ (by omega) (by omega)) (NOT.out _ (by omega) (by omega))
   have kp3:Kp (fun j=>∃ i,i<4∧j=p i+1) w w3:=xh (zB HKPR.out (zj HG2.out)) k3 (fun i e=>by
    rcases e with e | e
    ·exact .inl ⟨k,HL4.out,e⟩
    ·exact .inr (by have:=HPP.out;omega))
   have gr3:Grew w0 w3:=zO (ze HGR.out HG2.out) k3 (by have:=HGR.out.size;omega) (fun i e=>by
    rcases e with e | e
    ·have:=HPK.out;omega
    ·have:=HPP.out;have:=HGR.out.size;omega)
   have at3:∀ T∈L,T.at w3:=fun T hT=>kq ((HAT.out T hT).gr HG2.out) k3 (fun ad e=>by
    rcases HLW.out T hT ad e with h1 | h1
    ·exact .inl h1
    ·rcases zaj (HAT.out T hT) ad e with h2 | h2
     ·exact .inl h2
     ·exact .inr (NOT.out _ h2 (by have:=HPK.out;omega)))
   have HROW3:=hQ9 row3
   have HZT3:=hQ9 zt3
   have HZB3:=hQ9 zb3
   have HLD3:=hQ9 ld3
   have HKS3:=hQ9 ks3
   have HKP3:=hQ9 kp3
   have HGR3:=hQ9 gr3
   have HAT3:=hQ9 at3
   have HATS:=hQ9 hatS
   have HSZ:=hQ9 (show wr.heap.size≤w3.heap.size by omega)
   clear row3 zt3 zb3 ld3 ks3 kp3 gr3 at3 hatS hSok hSA hfrS k3 K3 HKK HROW HZT HZBL HLDR HKSR HKPR HGR CMK hlc NOT hS hpl hwr2 hwr3 hBW hBE HPP
   have SIS:Hid ((Tryz.prog.info? 149).map (·.size)=some S.C.toList.length):=hQ9 y5
   have SIZ:Hid ((Tryz.prog.info? 149).map (·.size)=some S.C.size):=hQ9 y5
   have HON:=hQ9 S.one
   have HON1:=hQ9 S.one'
   have HFO:=hQ9 (ziz S)
   have hsz:S.C.size=25:=rfl
   obtain⟨w4,hw4,ht4,g4,z4⟩:=zce w3 S.C rfl
   have HW4:=hQ9 hw4
   have HT4:=hQ9 ht4
   have hm4:=z4.cell
   have zb4:=HZB3.out.grew g4
   have c7:w4.cell? ⟨w.heap.size+1+1,7,none⟩=some v:=by simpa using zb4.cell 7 v rfl
   have row4:=zx (S:=fun _=>False) HROW3.out (zj g4) (fun g _ h=>h)
   have HG4:=hQ9 g4
   have hB4:B0≤w4.heap.size:=by have:=HBW.out;have:=HSZ.out;have:=g4.size;omega
   have hzr:=HZR.out
   clear hw4 ht4 z4 zb4 g4
   obtain⟨gs,hgs⟩:∃ g,S.C=g:=⟨_,rfl⟩
   have HGS:=hQ9 hgs
   rw [hgs]at SIS SIZ HON HON1 HFO hsz HW4 HT4 hm4 ⊢
   clear hgs
   go_wp2_with(first
    | (with_reducible refine wpList_store_mid rfl 149 (.tmp 16) (.tmp 56) rfl w3.heap.size 0 gs rfl rfl HT4.out SIZ.out HON.out ?_;rw [HW4.out];clear HW4 HT4)
    | (with_reducible refine wpList_load_mid rfl 149 (.tmp 16) rfl w3.heap.size 0 rfl gs.toList _ hm4 hut rfl SIS.out ?_;simp only [Array.toArray_toList])
    | (at_builtin;rw [HFO.out];refine zK _ rfl (.tmp 62) (.tmp 64) 39 rfl B0 149 i0 (.agg (#[.int .i64 0,.int .i64 0,.int .i64 0,.slice none 0 0,.int .i64 0,.int .i64 0,.int .u64 0,.int .u64 0,.int .u64 0,.int .u64 0,.int .u64 0,.int .u64 0,.int .u64 0,.int .u64 0,.int .u64 0,.int .u64 0,.int .u64 0,.int .u64 0,.int .u64 0,.int .u64 0,.int .u64 0,.int .u64 0,.int .u64 0,.int .u64 0,.slice none 0 0]:Array Value)) 25 232 Tryz.underlying39 hi0 hz0 hz1 hz2 rfl (by decide) _ _ _ rfl (row4.alloc _) ⟨w4.heap.size,0,none⟩ 1 1 gs.toList rfl (by rw [Array.length_toList,hsz]) (fun j u hj=>yd w4 gs 149 j u hj) HON1.out (by unfold maxLen;omega) (by omega) (by rw [zl];omega) ?_;intro v5 w5 hown5 hgrow5 hob5;obtain⟨A5,c5,rfl⟩:=zg5 hown5;have ga:=zg HG4.out (.cells gs 149);have K5:=yD (S:=fun j=>v.ownBlock=some j) (zJ _ _) hgrow5 (fun g hg=>.inl hg);have hvb:=zG HROW3.out;have zb5:=(HZB3.out.grew ga).kp K5 (fun e=>by have:=(hvb _ e).1;have:=HBE.out;omega);have c75:w5.cell? ⟨w.heap.size+1+1,7,none⟩=some v:=(by simpa using zb5.cell 7 v rfl);have f75:w5.frozen? ⟨w.heap.size+1+1,7,none⟩=false:=(by simpa using (zb5.there 7 (by show 7<8;decide)).2);have HGA:=hQ9 ga;have HK5:=hQ9 K5;have HVB:=hQ9 hvb;have HZB5:=hQ9 zb5;have HOWN5:=hQ9 hown5;have HGW5:=hQ9 hgrow5;have HOB5:=hQ9 hob5;clear ga K5 hvb zb5 hown5 hgrow5 hob5 c7 row4 hm4))
   have hga:=HGA.out.size
   have hk5:=HK5.out.size
   have hB0:=HBW.out
   have hBE:=HBE.out
   have hsz3:=HSZ.out
   have K6:Kp (fun j=>j=w.heap.size+1+1) w5 (w5.setCell ⟨w.heap.size+1+1,7,none⟩ (.slice A5 (k+1) c5)):=yP (S:=fun j=>j=w.heap.size+1+1) (zJ _ w5) (p:=⟨w.heap.size+1+1,7,none⟩) (.inl rfl) _
   have hal:w4.heap.size+1=(w4.alloc (.cells gs 149)).heap.size:=by rw [zl]
   have hg4:=HG4.out.size
   go_roundw
   case rel =>
    refine⟨k+1,.slice A5 (k+1) c5,L++[S],by have:=HL3.out;omega,by go_num,?_,?_,?_,?_,?_,?_,?_,?_,?_,?_,?_,?_,?_⟩
    ·have:=K6.size;omega
    ·rw [←HSE.out];exact HEM.out.snoc CA ck A c
    ·intro T hT
     rcases List.mem_append.1 hT with h | h
     ·exact HOKL.out T h
     ·obtain rfl:T=S:=by simpa using h
      exact HSOK.out
    ·intro T hT
     rcases List.mem_append.1 hT with h | h
     ·exact kq (qV ((HAT3.out T h).gr HGA.out) HGW5.out (fun ad e g hg=>HNE.out T h ad e g hg)) K6 (fun ad e=>(HLW.out T h ad e).imp id (fun h1 (h2:ad.block=w.heap.size+1+1)=>by omega))
     ·obtain rfl:T=S:=by simpa using h
      exact kq (qV (HATS.out.gr HGA.out) HGW5.out (fun ad e g hg=>.inr (by have:=HFRS.out ad e;have:=(HVB.out g hg).2;have:=(zG HROW3.out g hg).2;have:=HVL.out g hg;omega))) K6 (fun ad e=>.inr (fun(h2:ad.block=w.heap.size+1+1)=>by have:=HFRS.out ad e;have:=HG2.out.size;omega))
    ·intro T hT ad e g hg
     have hlt9:T.l=[]∨ad.block<(w4.alloc (.cells gs 149)).heap.size:=by
      rcases List.mem_append.1 hT with h | h
      ·exact zaj ((HAT3.out T h).gr HGA.out) ad e
      ·obtain rfl:T=S:=by simpa using h
       exact zaj (HATS.out.gr HGA.out) ad e
     rcases HOB5.out with h3 | h3
     ·rw [h3]at hg
      rcases List.mem_append.1 hT with h | h
      ·exact HNE.out T h ad e g hg
      ·obtain rfl:T=S:=by simpa using h
       exact .inr (by have:=HFRS.out ad e;have:=HVL.out g hg;omega)
     ·rw [h3]at hg;injection hg with hg
      rcases hlt9 with h1 | h1
      ·exact .inl h1
      ·exact .inr (by omega)
    ·intro T hT ad e
     rcases List.mem_append.1 hT with h | h
     ·exact HLW.out T h ad e
     ·obtain rfl:T=S:=by simpa using h
      exact .inr (by have:=HFRS.out ad e;have:=HG2.out.size;omega)
    ·rw [ziy,HGS.out]
     exact zx HOWN5.out K6 (fun g hg (h2:g=w.heap.size+1+1)=>by have:=(zG HOWN5.out g hg).1;omega)
    ·intro i hi
     have hpi:=HPW.out i hi
     exact(((HKS3.out i hi).grew HGA.out).kp HK5.out (fun h1=>by have:=(HVB.out _ h1).1;omega) (fun h1=>by have:=(HVB.out _ h1).1;omega)).kp K6 (fun(h2:p i+1=w.heap.size+1+1)=>by omega) (fun(h2:p i=w.heap.size+1+1)=>by omega)
    ·exact((HZT3.out.grew HGA.out).kp HK5.out (fun h1=>by have:=(HVB.out _ h1).1;omega)).kp K6 (fun(h2:w.heap.size+1=w.heap.size+1+1)=>by omega)
    ·exact HZB5.out.set1L 7 (.slice A5 (k+1) c5) (by show 7<8;decide)
    ·intro i hi
     have h1:w5.cell? (lad.add i)=some (.pointer (some ⟨p i+1,0,none⟩)):=(World.cell?_of_block (by rw [zv];exact HK5.out.block lad.block (by have:=HLB.out;omega) (fun h1=>by have:=(HVB.out _ h1).1;have:=HLB.out;omega))).trans ((HGA.out.cell (p:=lad.add i) (yj (HLD3.out i hi))).trans (HLD3.out i hi))
     exact(World.cell?_of_block (by rw [zv];exact K6.block lad.block (by have:=HLB.out;omega) (fun(h2:lad.block=w.heap.size+1+1)=>by have:=HLB.out;omega))).trans h1
    ·exact xh (xh (zB HKP3.out (zj HGA.out)) HK5.out (fun i e=>.inr (by have:=(HVB.out i e).1;omega))) K6 (fun i (e:i=w.heap.size+1+1)=>.inr (by omega))
    ·exact zO (zO (ze HGR3.out HGA.out) HK5.out (by have:=HGR3.out.size;omega) (fun i e=>by have:=(HVB.out i e).1;have:=HW00.out;omega)) K6 (by have:=HGR3.out.size;omega) (fun i (e:i=w.heap.size+1+1)=>by have:=HW00.out;omega)
   case measure=>simp [Go.RowKit.intOf];have:=HL3.out;omega
  ·obtain rfl:k=3:=by omega
   obtain⟨BA,bc,hv,hB,hc1,hc2,hbB⟩:=zab hrow (rpL_z L) (by decide) (by rw [zag];exact hem.len)
   rw [hv]at zb
   have hLl:L.length=3:=hem.len
   obtain⟨gb,hgb⟩:∃ g,(⟨vw,qb,qv,qb,QA,Q,qc,lo,hi,BA,L,bc⟩:BK).C=g:=⟨_,rfl⟩
   have zb':Ag wr (w.heap.size+1+1) gb.toList:=by
    rw [←hgb]
    show Ag wr (w.heap.size+1+1) ([.int .i64 vw,.int .u64 (qb:Nat),.int .i64 qv,.int .u64 (qb:Nat),.slice QA Q.length qc,.int .i64 lo,.int .i64 hi]++[.slice BA L.length bc])
    rw [hLl];exact zb
   have SIB:Hid ((Tryz.prog.info? 41).map (·.size)=some gb.size):=hQ9 (by rw [←hgb];exact xq)
   have SIBL:Hid ((Tryz.prog.info? 41).map (·.size)=some gb.toList.length):=hQ9 (by rw [←hgb];exact xq)
   have HOB:Hid (gb.all (·.oneCell')=true):=hQ9 (by rw [←hgb];exact BK.one _)
   have hg8:gb.size=8:=by rw [←hgb];rfl
   have HTH:Hid (wr.there (w.heap.size+1) 0 gb.size):=hQ9 (by rw [hg8];exact zt.thereN 8 rfl)
   have z9:=Ag.set (vs:=gb.toList) zt (by rw [Array.length_toList,hg8];rfl)
   have k9:=zn gb.toList (w.heap.size+1) 0 wr
   have hm:=zb'.cell
   have hBE:=HBE.out
   have HR:Hid (Rps (wr.setCells (w.heap.size+1) 0 gb.toList) BA L):=hQ9 ⟨hB.kp k9 (fun q e (h2:q=w.heap.size+1)=>by have:=(hbB _ e).1;have h3:B0≤q:=this;omega),hok,fun T hT=>kq (hat T hT) k9 (fun ad e=>(hlow T hT ad e).imp id (fun h1 (h2:ad.block=w.heap.size+1)=>by omega))⟩
   have HKN:Hid (keysN seed h p (nxt nx 3) (wr.setCells (w.heap.size+1) 0 gb.toList)):=hQ9 (fun i hi=>(hks i hi).kp k9 (fun(h2:p i+1=w.heap.size+1)=>by have:=HP.out i hi;omega) (fun(h2:p i=w.heap.size+1)=>by have:=HP.out i hi;omega))
   have HKP:Hid (Kp (fun j=>∃ i,i<4∧j=p i+1) w (wr.setCells (w.heap.size+1) 0 gb.toList)):=hQ9 (kY hkp k9 (by omega))
   have HF1:Hid (∀ ad,BA=some ad→w.heap.size≤ad.block):=hQ9 (fun ad e=>by have:=(hbB ad e).1;omega)
   have HF2:Hid (∀ S∈L,∀ ad,S.A=some ad→S.l=[]∨w.heap.size≤ad.block):=hQ9 (fun S hS ad e=>(hlow S hS ad e).imp id (fun h1=>by omega))
   have HC1:Hid (3≤bc):=hQ9 hc1
   have HEM:=hQ9 hem
   have HGB:=hQ9 hgb
   clear hem hok hat hne hlow hrow hks zt zb zb' hld hkp hg hB0 hlt hB hc1 hc2 hbB hLl hgb k9 hv
   go_wp2_with(first
    | (with_reducible refine wpList_load_mid rfl 41 (.tmp 12) rfl (w.heap.size+1+1) 0 rfl gb.toList _ hm hub rfl SIBL.out ?_;simp only [Array.toArray_toList])
    | (with_reducible refine wpList_store_mid rfl 41 (.tmp 10) (.tmp 67) rfl (w.heap.size+1) 0 gb rfl rfl HTH.out SIB.out HOB.out ?_))
   exact bodyPost_ret (zT Tryz.results44 _ _ (w.heap.size+1) _ _ _ rfl rfl z9 hub rfl SIBL.out) rfl ⟨⟨BA,bc,L,by rw [HGB.out,Array.toArray_toList];rfl,HEM.out,HR.out,HF1.out,HF2.out,HC1.out⟩,HKP.out,HKN.out⟩
noncomputable def vpK (seed:Int) (h m:Nat) (vw:Int) (D:Nat) (i:Nat) (A:Option Addr) (c:Nat):VP:=⟨vw,D,i,i,m,signF (secN (sdI seed i) (m:Int)) (voD vw D),A,c,pathN (ksL seed h i) m⟩
theorem vpK_ok (seed:Int) (h m:Nat) (hh:h≤5) (hm:m<2^h) (vw:Int) (hv:in64 vw) (D:Nat) (hD:D<18446744073709551616) (i:Nat) (hi4:i<4) (A:Option Addr) (c:Nat):(vpK seed h m vw D i A c).ok:=by
 have hp:=pow5 h hh
 refine⟨hv,hD,⟨by show _≤(i:Int);omega,by show(i:Int)≤_;omega⟩,⟨by show _≤(i:Int);omega,by show(i:Int)≤_;omega⟩,⟨by show _≤(m:Int);omega,by show(m:Int)≤_;omega⟩,fun k _=>jU _ _ _ (kd _ _ _),?_,(show ∀ x∈pathN (ksL seed h i) m,x<18446744073709551616 from jW _ _ (yR _ _))⟩
 show(pathN (ksL seed h i) m).length≤1000
 unfold ksL
 rw [xo _ h (by omega) m hm];omega
noncomputable def kpV (seed:Int) (h:Nat) (RA:Option Addr) (Rc:Nat):KP:=⟨1,rtL seed h 4,RA,Rc,(h:Int)⟩
theorem zg6 (seed:Int) (h:Nat) (hh:h≤5) (RA:Option Addr) (Rc:Nat):(kpV seed h RA Rc).ok:=⟨⟨by show(1:Int)≤1;omega,by show(1:Int)≤3;omega⟩,by show(rtL seed h 4).length≤1000;rw [kn];omega,rt_lt _ _ _ (by omega)⟩
theorem kpV_C (seed:Int) (h:Nat) (RA:Option Addr) (Rc:Nat):(kpV seed h RA Rc).C=kyS 1 RA 4 Rc (h:Int):=by show kyS 1 RA (rtL seed h 4).length Rc (h:Int)=_;rw [kn]
theorem zg7 (seed:Int) (h:Nat) (hh:h≤8) (i m:Nat) (hi:i<4) (hm:m<2^h) (d:Nat) :
 ckE (rtL seed h 4) (h:Int) i d (i:Int) (m:Int) (signF (secN (sdI seed i) (m:Int)) d) (pathN (ksL seed h i) m)=if d<18446744073709551616 then 0 else ckE (rtL seed h 4) (h:Int) i d (i:Int) (m:Int) (signF (secN (sdI seed i) (m:Int)) d) (pathN (ksL seed h i) m):=by
 by_cases hd:d<18446744073709551616
 ·rw [if_pos hd]
  unfold ckE
  rw [if_neg (by rw [kn];omega),if_pos rfl,zgl _ _ _ _ hi]
  have:=zko (sdI seed i) h hh m (d:Nat) (by omega) hm
  rw [Int.toNat_natCast]at this
  rw [if_pos]
  exact this
 ·rw [if_neg hd]
section
variable (seed : Int) (h : Nat) (RA : Option Addr) (Rc : Nat) (vw : Int) (D : Nat)
theorem zg8 (hh:h≤5) (hvw:vwB vw=true) (m i:Nat) (hi:i<4) (hm:m<2^h) (A:Option Addr) (c:Nat):vvS (kpV seed h RA Rc) (vpK seed h m vw D i A c)=0:=by
 show vvE 1 (rtL seed h 4) (h:Int) vw D (i:Int) (i:Int) (m:Int) (signF (secN (sdI seed i) (m:Int)) (voD vw D)) (pathN (ksL seed h i) m)=0
 unfold vvE
 rw [if_neg (by omega),if_neg (by omega),if_pos hvw,Int.toNat_natCast,zg7 seed h (by omega) i m hi hm,if_pos (qP _ _)]
theorem kr (hh:h≤5) (hvw:vwB vw=true) (m i:Nat) (hi:i<4) (hm:m<2^h) (A:Option Addr) (c:Nat):vgB (kpV seed h RA Rc) vw D (vpK seed h m vw D i A c)=true:=by
 unfold vgB
 rw [zg8 seed h RA Rc vw D hh hvw m i hi hm A c]
 simp [vpK]
theorem zcj (hh:h≤5) (hvw:vwB vw=true) (m i:Nat) (hi:i<4) (hm:m<2^h) (A:Option Addr) (c:Nat):vdV (kpV seed h RA Rc) vw D (vpK seed h m vw D i A c)=0:=by
 unfold vdV
 rw [zg8 seed h RA Rc vw D hh hvw m i hi hm A c]
 simp [vpK]
theorem zg9 (m1 m2 m3:Nat) (A1 A2 A3:Option Addr) (c1 c2 c3:Nat):eachL VP.who [vpK seed h m3 vw D 3 A3 c3,vpK seed h m2 vw D 2 A2 c2,vpK seed h m1 vw D 1 A1 c1]=[vpK seed h m1 vw D 1 A1 c1,vpK seed h m2 vw D 2 A2 c2,vpK seed h m3 vw D 3 A3 c3]:=by
 rw [xt VP.who _ 4 (fun x hx=>by
  simp only [List.mem_cons,List.not_mem_nil,or_false]at hx
  rcases hx with rfl | rfl | rfl<;>exact⟨by show(0:Int)≤((_:Nat):Int);omega,by show((_:Nat):Int)<4;omega⟩)]
 simp [upTo,List.range_succ,vpK,List.find?]
theorem zi0 (hh:h≤5) (hvw:vwB vw=true) (m1 m2 m3:Nat) (h1:m1<2^h) (h2:m2<2^h) (h3:m3<2^h) (A1 A2 A3:Option Addr) (c1 c2 c3:Nat):chosenV (kpV seed h RA Rc) vw D [vpK seed h m3 vw D 3 A3 c3,vpK seed h m2 vw D 2 A2 c2,vpK seed h m1 vw D 1 A1 c1]=[vpK seed h m1 vw D 1 A1 c1,vpK seed h m2 vw D 2 A2 c2,vpK seed h m3 vw D 3 A3 c3]:=by
 unfold chosenV
 rw [List.filter_eq_self.2 (fun x hx=>by
  simp only [List.mem_cons,List.not_mem_nil,or_false]at hx
  rcases hx with rfl | rfl | rfl
  ·exact kr seed h RA Rc vw D hh hvw m3 3 (by omega) h3 _ _
  ·exact kr seed h RA Rc vw D hh hvw m2 2 (by omega) h2 _ _
  ·exact kr seed h RA Rc vw D hh hvw m1 1 (by omega) h1 _ _),zg9]
 rfl
theorem zi1 (hh:h≤5) (hvw:vwB vw=true) (m1 m2 m3:Nat) (h1:m1<2^h) (h2:m2<2^h) (h3:m3<2^h) (A1 A2 A3:Option Addr) (c1 c2 c3:Nat):enoughV (kpV seed h RA Rc) vw D [vpK seed h m3 vw D 3 A3 c3,vpK seed h m2 vw D 2 A2 c2,vpK seed h m1 vw D 1 A1 c1]=true:=by
 unfold enoughV
 rw [List.filter_eq_self.2 (fun x hx=>by
  simp only [List.mem_cons,List.not_mem_nil,or_false]at hx
  rcases hx with rfl | rfl | rfl
  ·exact kr seed h RA Rc vw D hh hvw m3 3 (by omega) h3 _ _
  ·exact kr seed h RA Rc vw D hh hvw m2 2 (by omega) h2 _ _
  ·exact kr seed h RA Rc vw D hh hvw m1 1 (by omega) h1 _ _),zg9]
 rfl
theorem vcq3 (hh:h≤5) (hvw:vwB vw=true) (m1 m2 m3:Nat) (h1:m1<2^h) (h2:m2<2^h) (h3:m3<2^h) (A1 A2 A3:Option Addr) (c1 c2 c3:Nat):cqV (kpV seed h RA Rc) vw D [vpK seed h m1 vw D 1 A1 c1,vpK seed h m2 vw D 2 A2 c2,vpK seed h m3 vw D 3 A3 c3]=0:=by
 unfold cqV
 refine(if_pos (by rfl)).trans ?_
 rw [y6 (by rfl) (zcj seed h RA Rc vw D hh hvw m1 1 (by omega) h1 A1 c1),y6 (by show decide (((2:Nat):Int)≤((1:Nat):Int))=false;decide) (zcj seed h RA Rc vw D hh hvw m2 2 (by omega) h2 A2 c2),y6 (by show decide (((3:Nat):Int)≤((2:Nat):Int))=false;decide) (zcj seed h RA Rc vw D hh hvw m3 3 (by omega) h3 A3 c3)]
 rfl
end
theorem zlb (seed:Int) (h i m:Nat) (hh:h≤5) (hi4:i<4) (hm:m<2^h) (p:Nat) (vw:Int) (hv:in64 vw) (D:Nat) (hD:D<18446744073709551616) (w:World) (hS:Std w) (hk:KyAt w (p+1) p (i:Int) (sdI seed i) (ksL seed h i) m (2^h)) :
 Calls Tryz.prog 43 #[.pointer (some ⟨p+1,0,none⟩),.int .i64 (i:Int),.int .i64 vw,.int .u64 (D:Nat)] w fun e w' =>
  (∃ A c,e=.returned (.tuple #[.agg (vpK seed h m vw D i A c).C,.int .i64 0])∧(vpK seed h m vw D i A c).at w'∧(∀ ad,A=some ad→w.heap.size≤ad.block))∧Tn (p+1) w w'∧KyAt w' (p+1) p (i:Int) (sdI seed i) (ksL seed h i) (m+1) (2^h):=by
 have hp:=pow5 h hh
 have hl:(ksL seed h i).length=2^h:=yl _ _
 exact(zgu (p+1) p (i:Int) (sdI seed i) (ksL seed h i) m (2^h) (by rw [hl];omega) (by rw [hl];omega) (by rw [hl];omega) (by rw [hl];exact hp.2) (yR _ _) (jo _ _) (fun j hj=>by
  rw [hl]at hj
  unfold ksL
  rw [xo _ h (by omega) j hj];omega) (i:Int) ⟨by omega,by omega⟩ vw hv D hD (by rw [hl];exact hm) hm w hS hk).mono fun e w' ⟨⟨A,c,h1,h2,h3⟩,h4,h5⟩=>⟨⟨A,c,h1,h2,h3⟩,h4,h5⟩
noncomputable def m16 (seed:Int) (h:Nat) (nx:Nat→Nat) (vw:Int) (D n:Nat):List VP:=(List.range n).map (fun j=>vpK seed h (nx (3-j)) vw D (3-j) none 0)
theorem zi2 (seed:Int) (h:Nat) (nx:Nat→Nat) (vw:Int) (D n:Nat):m16 seed h nx vw D (n+1)=m16 seed h nx vw D n++[vpK seed h (nx (3-n)) vw D (3-n) none 0]:=by simp [m16,List.range_succ]
theorem m16_mv {seed:Int} {h:Nat} {nx:Nat→Nat} {vw:Int} {D:Nat} {M:List VP} (hm:MvV (m16 seed h nx vw D 3) M):∃ A1 A2 A3 c1 c2 c3,M=[vpK seed h (nx 3) vw D 3 A3 c3,vpK seed h (nx 2) vw D 2 A2 c2,vpK seed h (nx 1) vw D 1 A1 c1]:=by
 have hl:M.length=3:=by rw [hm.len];simp [m16]
 match M,hl with
 | [a,b,c],_ =>
  obtain⟨A3,c3,e3⟩:=hm.each 0 (by simp [m16]) (by simp)
  obtain⟨A2,c2,e2⟩:=hm.each 1 (by simp [m16]) (by simp)
  obtain⟨A1,c1,e1⟩:=hm.each 2 (by simp [m16]) (by simp)
  refine⟨A1,A2,A3,c1,c2,c3,?_⟩
  simp only [m16,List.getElem_map,List.getElem_range,List.getElem_cons_zero,List.getElem_cons_succ]at e1 e2 e3
  rw [e1,e2,e3]
  rfl
theorem v3_mv {seed:Int} {h m1 m2 m3:Nat} {vw:Int} {D:Nat} {M:List VP} {A1 A2 A3:Option Addr} {c1 c2 c3:Nat} (hm:MvV [vpK seed h m1 vw D 1 A1 c1,vpK seed h m2 vw D 2 A2 c2,vpK seed h m3 vw D 3 A3 c3] M):∃ A1 A2 A3 c1 c2 c3,M=[vpK seed h m1 vw D 1 A1 c1,vpK seed h m2 vw D 2 A2 c2,vpK seed h m3 vw D 3 A3 c3]:=by
 have hl:M.length=3:=by rw [hm.len];rfl
 match M,hl with
 | [a,b,c],_ =>
  obtain⟨B1,b1,e1⟩:=hm.each 0 (by simp) (by simp)
  obtain⟨B2,b2,e2⟩:=hm.each 1 (by simp) (by simp)
  obtain⟨B3,b3,e3⟩:=hm.each 2 (by simp) (by simp)
  refine⟨B1,B2,B3,b1,b2,b3,?_⟩
  simp only [List.getElem_cons_zero,List.getElem_cons_succ]at e1 e2 e3
  rw [e1,e2,e3]
  rfl
theorem y9 {S:VP} {P:Nat→Prop} {w w':World} (h:S.at w) (k:Kp P w w') (hn:∀ ad,S.A=some ad→S.l=[]∨¬P ad.block):S.at w':=by
 by_cases hl:S.l=[]
 ·intro j hj;rw [hl]at hj;exact absurd hj (by simp [u64L])
 ·exact(Rd.kp h k (Nat.le_refl _) (fun ad e _=>by
   rcases hn ad e with h1 | h1
   ·exact absurd h1 hl
   ·exact h1)).more k.size
structure MkVo (w:World) (B:Nat) (S0:VP) (lo hi:Nat) (v:Value) (f:Option Addr→Nat→Value):Prop where
 out:∃ A c,v=f A c∧(S0.mv A c).at w∧B≤lo∧(∀ ad,A=some ad→S0.l=[]∨(lo≤ad.block∧ad.block<hi))
theorem MkVo.mk' {w:World} {B:Nat} {S0:VP} {lo hi:Nat} {v:Value} {f:Option Addr→Nat→Value} (A:Option Addr) (c:Nat) (h1:v=f A c) (h2:(S0.mv A c).at w) (h3:B≤lo) (h4:∀ ad,A=some ad→S0.l=[]∨(lo≤ad.block∧ad.block<hi)):MkVo w B S0 lo hi v f:=⟨A,c,h1,h2,h3,h4⟩
theorem MkVo.kp {P:Nat→Prop} {w w':World} {B:Nat} {S0:VP} {lo hi:Nat} {v:Value} {f:Option Addr→Nat→Value} (h:MkVo w B S0 lo hi v f) (k:Kp P w w') (hp:∀ g,P g→g<B):MkVo w' B S0 lo hi v f:=by
 obtain⟨A,c,h1,h2,h3,h4⟩:=h.out
 refine⟨A,c,h1,y9 h2 k (fun ad e=>?_),h3,h4⟩
 rcases h4 ad e with h5 | h5
 ·exact .inl h5
 ·exact .inr (fun h6=>by have:=hp _ h6;omega)
theorem MkVo.gr {w w':World} {B:Nat} {S0:VP} {lo hi:Nat} {v:Value} {f:Option Addr→Nat→Value} (h:MkVo w B S0 lo hi v f) (k:Grew w w'):MkVo w' B S0 lo hi v f:=h.kp (P:=fun _=>False) (zj k) (fun _ h=>h.elim)
structure StVo (P:Nat→Prop) (w0:World) (S0:VP) (v:Value) (W:World):Prop where
 out:∃ A c q,v=.pointer (some ⟨q,0,none⟩)∧Ag W q (S0.mv A c).C.toList∧(S0.mv A c).at W∧w0.heap.size≤q∧(∀ ad,A=some ad→S0.l=[]∨w0.heap.size≤ad.block)∧Kp P w0 W
theorem StVo.gr {P:Nat→Prop} {w0:World} {S0:VP} {v:Value} {x y:World} (h:StVo P w0 S0 v x) (g:Grew x y):StVo P w0 S0 v y:=by
 obtain⟨A,c,q,h1,h2,h3,h4,h5,h6⟩:=h.out
 exact⟨A,c,q,h1,h2.grew g,h3.gr g,h4,h5,zB h6 (zj g)⟩
structure MkVk (w:World) (B b p:Nat) (who sd:Int) (l:List Nat) (nx rs:Nat) (S0:VP) (lo hi:Nat) (v:Value) (f:Option Addr→Nat→Value):Prop where
 sk:MkVo w B S0 lo hi v f
 ky:KyAt w b p who sd l nx rs
theorem MkVk.gr {w w':World} {B b p:Nat} {who sd:Int} {l:List Nat} {nx rs:Nat} {S0:VP} {lo hi:Nat} {v:Value} {f:Option Addr→Nat→Value} (h:MkVk w B b p who sd l nx rs S0 lo hi v f) (g:Grew w w'):MkVk w' B b p who sd l nx rs S0 lo hi v f:=⟨h.sk.gr g,h.ky.grew g⟩
structure StVk (P:Nat→Prop) (w0:World) (S0:VP) (b p:Nat) (who sd:Int) (l:List Nat) (nx rs:Nat) (v:Value) (W:World):Prop where
 st:StVo P w0 S0 v W
 ky:KyAt W b p who sd l nx rs
theorem StVk.gr {P:Nat→Prop} {w0:World} {S0:VP} {b p:Nat} {who sd:Int} {l:List Nat} {nx rs:Nat} {v:Value} {x y:World} (h:StVk P w0 S0 b p who sd l nx rs v x) (g:Grew x y):StVk P w0 S0 b p who sd l nx rs v y:=⟨h.st.gr g,h.ky.grew g⟩
structure VqS (w:World) (B0:Nat) (E:List VP) (lo hi:Nat) (v:Value) (f:Option Addr→Nat→Value):Prop where
 out:∃ A c N,v=f A c∧MvV E N∧Vps w A N∧B0≤lo∧(∀ ad,A=some ad→lo≤ad.block∧ad.block<hi)∧(∀ S∈N,∀ ad,S.A=some ad→S.l=[]∨(lo≤ad.block∧ad.block<hi))∧E.length≤c
theorem VqS.gr {w w':World} {B0:Nat} {E:List VP} {lo hi:Nat} {v:Value} {f:Option Addr→Nat→Value} (h:VqS w B0 E lo hi v f) (g:Grew w w'):VqS w' B0 E lo hi v f:=by
 obtain⟨A,c,N,h1,h2,h3,h4,h5,h6⟩:=h.out
 exact⟨A,c,N,h1,h2,h3.gr g,h4,h5,h6⟩
structure VqF (w0:World) (u:Int) (d:Nat) (E:List VP) (v:Value) (W:World):Prop where
 out:∃ A c N q,v=.pointer (some ⟨q,0,none⟩)∧Ag W q (vqC u d A E.length c).toList∧MvV E N∧Vps W A N∧w0.heap.size≤q∧(∀ ad,A=some ad→w0.heap.size≤ad.block)∧(∀ S∈N,∀ ad,S.A=some ad→S.l=[]∨w0.heap.size≤ad.block)∧Grew w0 W∧E.length≤c
theorem VqF.gr {w0:World} {u:Int} {d:Nat} {E:List VP} {v:Value} {x y:World} (h:VqF w0 u d E v x) (g:Grew x y):VqF w0 u d E v y:=by
 obtain⟨A,c,N,q,h1,h2,h3,h4,h5,h6,h7,h8,h9⟩:=h.out
 exact⟨A,c,N,q,h1,h2.grew g,h3,h4.gr g,h5,h6,h7,ze h8 g,h9⟩
def nxd (nx:Nat→Nat) (n:Nat):Nat→Nat:=fun i=>if 3<i+n then nx i+1 else nx i
theorem zha (seed:Int) (h:Nat) (hh:Hid (h≤5)) (nx:Nat→Nat) (hnx:Hid (∀ i,1≤i→i<4→nx i<2^h)) (b:BK) (hbo:Hid b.ok) (hvw:Hid (vwB b.vw=true)) (D:Nat) (HDE:Hid (bkD b=D)) (w0:World) (hS:Std w0) (p:Nat→Nat) (lad:Addr) (Lc:Nat) (RA:Option Addr) (Rc:Nat) (w:World) (g0:Grew w0 w)
 (hks:keysN seed h p nx w)
 (hap:∀ i j,i<4→j<4→i≠j→p i≠p j∧p i+1≠p j∧p i≠p j+1)
 (hlow:∀ i,i<4→w0.heap.size≤p i+1)
 (hld:∀ i,i<4→w.cell? (lad.add i)=some (.pointer (some ⟨p i+1,0,none⟩)))
 (fl:∀ i,i<4→lad.block≠p i+1) (fr:∀ i,i<4→∀ ad,RA=some ad→ad.block≠p i+1)
 (hRr:Rd w w.heap.size RA (u64L (rtL seed h 4))) (hba:∀ y,Kp (fun j=>∃ i,i<4∧j=p i+1) w y→b.at y) :
 Calls Tryz.prog 45 #[.slice (some lad) 4 Lc,.agg (kyS 1 RA 4 Rc (h:Int)),.agg b.C] w fun e w' =>
  (∃ A c N,e=.returned (.tuple #[.agg (vqC b.vw D A 3 c),.bool true])∧MvV [vpK seed h (nx 1) b.vw D 1 none 0,vpK seed h (nx 2) b.vw D 2 none 0,vpK seed h (nx 3) b.vw D 3 none 0] N∧Vps w' A N∧(∀ ad,A=some ad→w.heap.size≤ad.block)∧(∀ S∈N,∀ ad,S.A=some ad→S.l=[]∨w.heap.size≤ad.block)∧3≤c)∧Kp (fun j=>∃ i,i<4∧j=p i+1) w w'∧keysN seed h p (nxd nx 3) w':=by
 have HS:=hQ9 hS
 have hkt:=Tryz.underlying49
 have hut:=Tryz.underlying69
 have hbt:=Tryz.underlying41
 have hqt:=Tryz.underlying38
 obtain⟨i0,hi,hz0,hz1,hz2⟩:=info_parts kV
 obtain⟨kc,hkc⟩:∃ v,kyS 1 RA 4 Rc (h:Int)=v:=⟨_,rfl⟩
 have HSKL:Hid ((Tryz.prog.info? 49).map (·.size)=some (kyS 1 RA 4 Rc (h:Int)).toList.length):=hQ9 (by kernel_rfl)
 have HKC:Hid ((kpV seed h RA Rc).C=kyS 1 RA 4 Rc (h:Int)):=hQ9 (kpV_C seed h RA Rc)
 rw [hkc]at HSKL HKC ⊢
 have HP:Hid (∀ i,i<4→w0.heap.size≤p i+1∧p i+1<w.heap.size∧p i<w.heap.size):=hQ9 (fun i hi=>⟨hlow i hi,(hks i hi).key.lt,(hks i hi).pub.lt⟩)
 have HAP:=hQ9 hap
 have FL:=hQ9 fl
 have FR:=hQ9 fr
 have HBA:=hQ9 hba
 have HDL:Hid (D<18446744073709551616):=hQ9 (by rw [←HDE.out];exact zgw b)
 have HIV:Hid (in64 b.vw):=hQ9 hbo.out.vw
 have HLB:Hid (lad.block<w.heap.size):=hQ9 (by have:=yj (hld 0 (by decide));rwa [zv]at this)
 have HRB:Hid (∀ ad,RA=some ad→ad.block<w.heap.size):=hQ9 (fun ad e=>by
  obtain⟨ad2,e2,hb,_⟩:=hRr 0 (by simp [u64L,kn])
  rw [e]at e2;cases e2;exact hb)
 have HCV0:Hid (b.C.toList[0]?=some (.int .i64 b.vw)):=hQ9 rfl
 have HSB1:Hid ((Tryz.prog.info? 41).map (·.size)=some b.C.toList.length):=hQ9 xq
 have CD0:=hQ9 (fun W h1 h2=>zfa b hbo.out W h1 h2)
 rw [HDE.out]at CD0
 obtain⟨gb,hgb⟩:∃ g,b.C=g:=⟨_,rfl⟩
 rw [hgb]at HCV0 HSB1 CD0 ⊢
 have zk:=((Ag.new w 49 kc).grew (zg (zc _) (.cells gb 41))).grew (zg (zc _) (.cells (#[.int .i64 0,.int .u64 0,.slice none 0 0]:Array Value) 38))
 have zb:=(Ag.new (w.alloc (.cells kc 49)) 41 gb).grew (zg (zc _) (.cells (#[.int .i64 0,.int .u64 0,.slice none 0 0]:Array Value) 38))
 have zt:=Ag.new ((w.alloc (.cells kc 49)).alloc (.cells gb 41)) 38 (#[.int .i64 0,.int .u64 0,.slice none 0 0]:Array Value)
 rw [zl]at zb
 rw [zl,zl]at zt
 have ga:=zg (zg (zg (zc w) (.cells kc 49)) (.cells gb 41)) (.cells (#[.int .i64 0,.int .u64 0,.slice none 0 0]:Array Value) 38)
 have hsa:(((w.alloc (.cells kc 49)).alloc (.cells gb 41)).alloc (.cells (#[.int .i64 0,.int .u64 0,.slice none 0 0]:Array Value) 38)).heap.size=w.heap.size+1+1+1:=by rw [zl,zl,zl]
 obtain⟨wa,hwa⟩:∃ v,(((w.alloc (.cells kc 49)).alloc (.cells gb 41)).alloc (.cells (#[.int .i64 0,.int .u64 0,.slice none 0 0]:Array Value) 38))=v:=⟨_,rfl⟩
 rw [hwa]at zk zb zt ga hsa
 have HWA:=hQ9 hwa
 obtain⟨B0,hB0⟩:∃ b,wa.heap.size=b:=⟨_,rfl⟩
 have HBE:Hid (B0=w.heap.size+1+1+1):=hQ9 (by rw [←hB0,hsa])
 have hown0:wa.ownsRow B0 69 24 (.slice none 0 0) 0 (vpL []).flatten:=World.ownsRow_nil _ _ _ _
 have HKS:Hid (keysN seed h p (nxd nx 0) wa):=hQ9 (fun i hi=>by
  have:nxd nx 0 i=nx i:=by unfold nxd;rw [if_neg (by omega)]
  rw [this];exact(hks i hi).grew ga)
 have HLD:Hid (∀ i,i<4→wa.cell? (lad.add i)=some (.pointer (some ⟨p i+1,0,none⟩))):=hQ9 (fun i hi=>(ga.cell (p:=lad.add i) (yj (hld i hi))).trans (hld i hi))
 have rR2:=hRr.gr ga
 have GA:=ze g0 ga
 have KA:Kp (fun j=>∃ i,i<4∧j=p i+1) w wa:=zj ga
 have HBB:=hQ9 (show B0≤wa.heap.size by omega)
 clear hS hkc hks hap hlow hld fl fr hRr hsa ga g0 hB0 hwa hba hgb
 go_enter Tryz.func45,Tryz.ntmps45
 go_wp2_with fail
 rw [HWA.out]
 clear HWA
 go_loopw [8,9] (fun rv iv wr=>∃(n:Nat) (M:List VP),n≤3∧iv=.int .i64 (3-(n:Int))∧B0≤wr.heap.size∧MvV (m16 seed h nx b.vw D n) M∧(∀ S∈M,S.ok)∧(∀ S∈M,S.at wr)∧(∀ S∈M,∀ ad,S.A=some ad→∀ g,rv.ownBlock=some g→S.l=[]∨ad.block≠g)∧(∀ S∈M,∀ ad,S.A=some ad→S.l=[]∨B0≤ad.block)∧wr.ownsRow B0 69 24 rv n (vpL M).flatten∧keysN seed h p (nxd nx n) wr∧Ag wr w.heap.size kc.toList∧Ag wr (w.heap.size+1) gb.toList∧Ag wr (w.heap.size+1+1) (#[.int .i64 0,.int .u64 0,.slice none 0 0]:Array Value).toList∧(∀ i,i<4→wr.cell? (lad.add i)=some (.pointer (some ⟨p i+1,0,none⟩)))∧Rd wr wr.heap.size RA (u64L (rtL seed h 4))∧Kp (fun j=>∃ i,i<4∧j=p i+1) w wr∧Grew w0 wr) (fun _ iv _=>(Go.RowKit.intOf iv).toNat)
 case atStart=>exact⟨0,[],by omega,rfl,HBB.out,by simpa [m16]using MvV.nil,by simp,by simp,by simp,by simp,hown0,HKS.out,zk,zb,zt,HLD.out,rR2,KA,GA⟩
 case round =>
  clear HKS HLD zk zb zt rR2 GA KA hown0 HBB
  obtain⟨n,M,hn,rfl,hB0,hmv,hok,hat,hne,hlow,hrow,hks,zk,zb,zt,hld,rRr,hkp,hg⟩:=hrel
  by_cases hlt:n<3
  ·obtain⟨ii,hii,hin⟩:∃ ii:Nat,3-(n:Int)=(ii:Int)∧ii+n=3:=⟨3-n,by omega,by omega⟩
   rw [hii]
   have h0:(0:Int)<(ii:Int):=by omega
   have e33:decide (0<ii)=true:=decide_eq_true (by omega)
   have e33b:decide ((0:Int)<(ii:Int))=true:=decide_eq_true h0
   have h00:(0:Int)≤(ii:Int):=by omega
   have h4:(ii:Int)<4:=by omega
   have hi4:ii<4:=by omega
   have e44:decide (ii<4)=true:=decide_eq_true hi4
   have e35:IntKind.i64.wrap ((ii:Int)-1)=(ii:Int)-1:=IntWalk.i64_in _ (by omega)
   have HPI:=hQ9 (HP.out ii hi4)
   have HSB:Hid (∀ g,(fun j=>j=p ii+1) g→g<wr.heap.size):=hQ9 (fun g h=>by
    have h1:g=p ii+1:=h
    have:=HPI.out;have:=HBE.out;omega)
   have HSY:Hid (∀ y,Kp (fun j=>j=p ii+1) wr y→Std y):=hQ9 (fun y k=>HS.out.grew (zO hg k hg.size (fun i (hi:i=p ii+1)=>by have:=HPI.out;omega)))
   have HBY:Hid (∀ y,Kp (fun j=>j=p ii+1) wr y→b.at y):=hQ9 (fun y k=>HBA.out y (zB hkp (xn k (fun i (h:i=p ii+1)=>⟨ii,hi4,h⟩))))
   have HLC:Hid (∀ y,Kp (fun j=>j=p ii+1) wr y→y.cell? (lad.add ii)=some (.pointer (some ⟨p ii+1,0,none⟩))):=hQ9 (fun y k=>(World.cell?_of_block (by rw [zv];exact k.block lad.block (by have:=yj (hld ii hi4);rwa [zv]at this) (FL.out ii hi4))).trans (hld ii hi4))
   have HCB:Hid (∀ y,Kp (fun j=>j=p ii+1) wr y→y.rangeAt (w.heap.size+1) 0 gb.toList):=hQ9 (fun y k=>(zb.kp k (fun h=>by have h:w.heap.size+1=p ii+1:=h;have:=HPI.out;omega)).cell)
   have HCV:Hid (∀ y,Kp (fun j=>j=p ii+1) wr y→y.cell? ⟨w.heap.size+1,0,none⟩=some (.int .i64 b.vw)):=hQ9 (fun y k=>by simpa using HCB.out y k 0 _ HCV0.out)
   have hnd:nxd nx n ii=nx ii:=by unfold nxd;rw [if_neg (by omega)]
   have HKY:Hid (∀ y,Grew wr y→KyAt y (p ii+1) (p ii) (ii:Int) (sdI seed ii) (ksL seed h ii) (nx ii) (2^h)):=hQ9 (fun y k=>by
    have:=(hks ii hi4).grew k
    rwa [hnd]at this)
   obtain⟨S0,hS0⟩:∃ S,vpK seed h (nx ii) b.vw D ii none 0=S:=⟨_,rfl⟩
   have CM:Hid (∀ W,Std W→KyAt W (p ii+1) (p ii) (ii:Int) (sdI seed ii) (ksL seed h ii) (nx ii) (2^h)→Calls Tryz.prog 43 #[.pointer (some ⟨p ii+1,0,none⟩),.int .i64 (ii:Int),.int .i64 b.vw,.int .u64 (D:Int)] W fun e w' =>
    (∃ A c,e=.returned (.tuple #[.agg (S0.mv A c).C,.int .i64 0])∧(S0.mv A c).at w'∧(∀ ad,A=some ad→W.heap.size≤ad.block))∧Tn (p ii+1) W w'∧KyAt w' (p ii+1) (p ii) (ii:Int) (sdI seed ii) (ksL seed h ii) (nx ii+1) (2^h)):=hQ9 (fun W h1 h2=>by
    have:=zlb seed h ii (nx ii) hh.out hi4 (hnx.out ii (by omega) hi4) (p ii) b.vw HIV.out D HDL.out W h1 h2
    rw [←hS0]
    exact this)
   have HL16:Hid (m16 seed h nx b.vw D (n+1)=m16 seed h nx b.vw D n++[S0]):=hQ9 (by rw [←hS0,zi2,show 3-n=ii by omega])
   have HSO:Hid S0.ok:=hQ9 (by rw [←hS0];exact vpK_ok seed h (nx ii) hh.out (hnx.out ii (by omega) hi4) b.vw HIV.out D HDL.out ii hi4 none 0)
   have HIN:=hQ9 hin
   have HMV:=hQ9 hmv
   have HOKM:=hQ9 hok
   have HAT:=hQ9 hat
   have HNE:=hQ9 hne
   have HLW:=hQ9 hlow
   have HROW:=hQ9 hrow
   have HKS:=hQ9 hks
   have HZK:=hQ9 zk
   have HZB:=hQ9 zb
   have HZT:=hQ9 zt
   have HLD:=hQ9 hld
   have HRR:=hQ9 rRr
   have HGG:=hQ9 hg
   have HKP:=hQ9 hkp
   have HBW:=hQ9 hB0
   have HI4:=hQ9 hi4
   clear hS0 hii hin hmv hok hat hne hlow hrow hks zk zb zt hld rRr hg hkp hB0 hlt hn hnd
   go_upto_region 5 with fail
   refine yQ 14 15 9 (fun j=>j=p ii+1) (fun ix9=>match ix9 with
    | 0=>fun v=>v=.slice (some lad) 4 Lc
    | 1=>fun v=>v=.int .i64 (ii:Int)
    | 2=>fun v=>v=.pointer (some (lad.add ii))
    | 3=>fun v=>v=.pointer (some ⟨p ii+1,0,none⟩)
    | 4=>fun v=>v=.int .i64 (ii:Int)
    | 5=>fun v=>v=.pointer (some ⟨w.heap.size+1,0,none⟩)
    | 6=>fun v=>v=.int .i64 b.vw
    | 7=>fun v=>v=.agg gb
    | 8=>fun v=>v=.int .u64 (D:Int)
    | 9=>fun _=>True
    | 10=>fun v=>∃ A c,v=.tuple #[.agg (S0.mv A c).C,.int .i64 0]
    | 11=>fun _=>True
    | 12=>fun v=>v=.int .i64 0
    | 13=>fun _=>True
    | 14=>fun _=>True
    | _=>fun _=>True) (fun ix9=>match ix9 with
    | 9=>fun lo hi v w=>MkVk w wr.heap.size (p ii+1) (p ii) (ii:Int) (sdI seed ii) (ksL seed h ii) (nx ii+1) (2^h) S0 lo hi v (fun A c=>.tuple #[.agg (S0.mv A c).C,.int .i64 0])
    | 10=>fun lo hi v w=>MkVo w wr.heap.size S0 lo hi v (fun A c=>.tuple #[.agg (S0.mv A c).C,.int .i64 0])
    | 11=>fun lo hi v w=>MkVo w wr.heap.size S0 lo hi v (fun A c=>.agg (S0.mv A c).C)
    | 13=>fun lo hi v w=>AgZ w wr.heap.size lo hi (#[.int .i64 0,.int .u64 0,.int .i64 0,.int .i64 0,.int .i64 0,.int .u64 0,.int .u64 0,.int .u64 0,.int .u64 0,.int .u64 0,.int .u64 0,.int .u64 0,.int .u64 0,.int .u64 0,.int .u64 0,.int .u64 0,.int .u64 0,.int .u64 0,.int .u64 0,.int .u64 0,.int .u64 0,.int .u64 0,.int .u64 0,.slice none 0 0]:Array Value).toList v
    | _=>fun _ _ _ _=>True) (fun ix9=>match ix9 with
    | 10=>9
    | 11=>10
    | ix8=>ix8) (fun ix9=>match ix9 with
    | 10=>9
    | 11=>9
    | ix8=>ix8) (fun ix9=>match ix9 with
    | 12=>true
    | _=>false) 13 (fun v W=>StVk (fun j=>j=p ii+1) wr S0 (p ii+1) (p ii) (ii:Int) (sdI seed ii) (ksL seed h ii) (nx ii+1) (2^h) v W) rfl (by kernel_rfl) (by kernel_rfl) (by kernel_rfl) (by kernel_rfl) rfl rfl (by decide) (fun _=>trivial) ?_ ?_ ?_ ?_ ?_ (fun o ho=>by cases ho;rfl) (fun v x y h hg=>StVk.gr h hg) ?_
   ·simp only [actOf,tk1,tk0,dr1,dr0,Act.put,si1,st1,st0,Nat.reduceAdd]
    refine⟨?_,?_,?_,?_,?_,?_,?_,?_,?_,?_,?_,?_,?_,?_,trivial⟩
    ·intro vs lo hi y hg hd hvia
     replace hg:Kp (fun j=>j=p ii+1) wr y:=hg
     clear hvia
     dsimp only
     go_wp2_with fail
     first | exact⟨rfl,_,rfl,zc _,rfl⟩ | exact⟨rfl,_,rfl,zc _,rfl,trivial⟩
    ·intro vs lo hi y hg hd hvia
     replace hg:Kp (fun j=>j=p ii+1) wr y:=hg
     clear hvia
     dsimp only
     go_wp2_with fail
     first | exact⟨rfl,_,rfl,zc _,rfl⟩ | exact⟨rfl,_,rfl,zc _,rfl,trivial⟩
    ·intro vs lo hi y hg hd hvia
     replace hg:Kp (fun j=>j=p ii+1) wr y:=hg
     obtain⟨h0,h1,_⟩:=hd
     replace h0:=h0 rfl
     replace h1:=h1 rfl
     clear hvia
     dsimp only
     rw [show vs 0=_ from h0,show vs 1=_ from h1]
     go_wp2_with fail
     first | exact⟨rfl,_,rfl,zc _,rfl⟩ | exact⟨rfl,_,rfl,zc _,rfl,trivial⟩
    ·intro vs lo hi y hg hd hvia
     replace hg:Kp (fun j=>j=p ii+1) wr y:=hg
     obtain⟨h2,_⟩:=hd
     replace h2:=h2 rfl
     clear hvia
     dsimp only
     rw [show vs 2=_ from h2]
     have hc:=HLC.out y hg
     go_wp2_with fail
     first | exact⟨rfl,_,rfl,zc _,rfl⟩ | exact⟨rfl,_,rfl,zc _,rfl,trivial⟩
    ·intro vs lo hi y hg hd hvia
     replace hg:Kp (fun j=>j=p ii+1) wr y:=hg
     clear hvia
     dsimp only
     go_wp2_with fail
     first | exact⟨rfl,_,rfl,zc _,rfl⟩ | exact⟨rfl,_,rfl,zc _,rfl,trivial⟩
    ·intro vs lo hi y hg hd hvia
     replace hg:Kp (fun j=>j=p ii+1) wr y:=hg
     clear hvia
     dsimp only
     go_wp2_with fail
     first | exact⟨rfl,_,rfl,zc _,rfl⟩ | exact⟨rfl,_,rfl,zc _,rfl,trivial⟩
    ·intro vs lo hi y hg hd hvia
     replace hg:Kp (fun j=>j=p ii+1) wr y:=hg
     obtain⟨h5,_⟩:=hd
     replace h5:=h5 rfl
     clear hvia
     dsimp only
     rw [show vs 5=_ from h5]
     have hc:=HCV.out y hg
     go_wp2_with fail
     first | exact⟨rfl,_,rfl,zc _,rfl⟩ | exact⟨rfl,_,rfl,zc _,rfl,trivial⟩
    ·intro vs lo hi y hg hd hvia
     replace hg:Kp (fun j=>j=p ii+1) wr y:=hg
     clear hvia
     dsimp only
     have hm:=HCB.out y hg
     go_wp2_with(with_reducible refine wpList_load_mid rfl 41 (.tmp 5) rfl (w.heap.size+1) 0 rfl gb.toList _ hm hbt rfl HSB1.out ?_;simp only [Array.toArray_toList])
     first | exact⟨rfl,_,rfl,zc _,rfl⟩ | exact⟨rfl,_,rfl,zc _,rfl,trivial⟩
    ·intro vs lo hi y hg hd hvia
     replace hg:Kp (fun j=>j=p ii+1) wr y:=hg
     obtain⟨h7,_⟩:=hd
     replace h7:=h7 rfl
     clear hvia
     dsimp only
     rw [show vs 7=_ from h7]
     have hgS:=HSY.out y hg
     have hgB:=HBY.out y hg
     go_wp2_with(go_at_call 19;refine(CD0.out y hgS hgB).mono ?_;rintro e z ⟨rfl,gz⟩)
     exact⟨rfl,_,rfl,gz,rfl,trivial⟩
    ·intro vs lo hi y hg hd hvia
     replace hg:Grew wr y:=hg
     obtain⟨h3,h4,h6,h8,_⟩:=hd
     replace h3:=h3 rfl
     replace h4:=h4 rfl
     replace h6:=h6 rfl
     replace h8:=h8 rfl
     clear hvia
     dsimp only
     rw [show vs 3=_ from h3,show vs 4=_ from h4,show vs 6=_ from h6,show vs 8=_ from h8]
     have hgS:=HSY.out y (zj hg)
     have hKY:=HKY.out y hg
     go_wp2_with(go_at_call 43;refine(CM.out y hgS hKY).mono ?_;rintro e z ⟨⟨A9,c9,rfl,hat9,hfr9⟩,ht9,hk9⟩)
     exact⟨rfl,_,rfl,kp_tn ht9,trivial,⟨⟨A9,c9,rfl,hat9,hg.size,fun ad h=>(zR hat9 ad h).imp id (fun h2=>⟨hfr9 ad h,h2⟩)⟩,hk9⟩⟩
    ·intro vs lo hi y hg hd hvia
     replace hg:Kp (fun j=>j=p ii+1) wr y:=hg
     obtain⟨h9,_⟩:=hd
     replace h9:=h9 rfl
     have hv9:(fun lo hi v w=>MkVk w wr.heap.size (p ii+1) (p ii) (ii:Int) (sdI seed ii) (ksL seed h ii) (nx ii+1) (2^h) S0 lo hi v (fun A c=>.tuple #[.agg (S0.mv A c).C,.int .i64 0])) (lo 9) (hi 9) (vs 9) y:=hvia rfl
     clear hvia
     dsimp only
     obtain⟨A9,c9,e9,hat9,hb9,hr9⟩:=MkVo.out (MkVk.sk hv9)
     rw [e9]
     go_wp2_with fail
     exact⟨rfl,_,rfl,zc _,⟨A9,⟨c9,rfl⟩⟩,⟨A9,c9,rfl,hat9,hb9,hr9⟩⟩
    ·intro vs lo hi y hg hd hvia
     replace hg:Kp (fun j=>j=p ii+1) wr y:=hg
     obtain⟨h10,_⟩:=hd
     replace h10:=h10 rfl
     have hv9:(fun lo hi v w=>MkVo w wr.heap.size S0 lo hi v (fun A c=>.tuple #[.agg (S0.mv A c).C,.int .i64 0])) (lo 10) (hi 10) (vs 10) y:=hvia rfl
     clear hvia
     dsimp only
     obtain⟨A9,c9,e9,hat9,hb9,hr9⟩:=MkVo.out hv9
     rw [e9]
     go_wp2_with fail
     exact⟨rfl,_,rfl,zc _,⟨A9,c9,rfl,hat9,hb9,hr9⟩⟩
    ·intro vs lo hi y hg hd hvia
     replace hg:Kp (fun j=>j=p ii+1) wr y:=hg
     obtain⟨h10,_⟩:=hd
     replace h10:=h10 rfl
     clear hvia
     dsimp only
     obtain⟨A9,c9,e9⟩:=h10
     rw [e9]
     go_wp2_with fail
     first | exact⟨rfl,_,rfl,zc _,rfl⟩ | exact⟨rfl,_,rfl,zc _,rfl,trivial⟩
    ·intro vs lo hi y hg hd hvia
     replace hg:Kp (fun j=>j=p ii+1) wr y:=hg
     clear hvia
     dsimp only
     go_wp2_with fail
     exact⟨rfl,_,rfl,zg (zc _) _,⟨y.heap.size,rfl,Ag.new y 69 (#[.int .i64 0,.int .u64 0,.int .i64 0,.int .i64 0,.int .i64 0,.int .u64 0,.int .u64 0,.int .u64 0,.int .u64 0,.int .u64 0,.int .u64 0,.int .u64 0,.int .u64 0,.int .u64 0,.int .u64 0,.int .u64 0,.int .u64 0,.int .u64 0,.int .u64 0,.int .u64 0,.int .u64 0,.int .u64 0,.int .u64 0,.slice none 0 0]:Array Value),hg.size,Nat.le_refl _,by show y.heap.size<(y.alloc _).heap.size;simp⟩⟩
   ·refine⟨(fun h=>absurd h (by decide)),(fun h=>absurd h (by decide)),(fun h=>absurd h (by decide)),(fun h=>absurd h (by decide)),(fun h=>absurd h (by decide)),(fun h=>absurd h (by decide)),(fun h=>absurd h (by decide)),(fun h=>absurd h (by decide)),(fun h=>absurd h (by decide)),(fun h=>absurd h (by decide)),(fun h=>absurd h (by decide)),(fun h=>absurd h (by decide)),?_,(fun h=>absurd h (by decide)),(fun h=>absurd h (by decide)),trivial⟩
    ·intro _ vs y hd
     obtain⟨h10,_⟩:=hd
     replace h10:=h10 rfl
     simp only [actOf,tk1,tk0,dr1,dr0,Act.put,si1,st1,st0,Nat.reduceAdd]
     obtain⟨A9,c9,e9⟩:=h10
     rw [e9]
     go_wp2_with fail
     first | exact⟨rfl,_,rfl,zc _,rfl⟩ | exact⟨rfl,_,rfl,zc _,rfl,trivial⟩
   ·intro lo hi v x y h hg
    exact MkVk.gr h hg
   ·intro i lo hi v x y hne hx h hg
    match i,h with
    | 9,h=>exact absurd rfl hne
    | 10,h=>exact MkVo.kp h hg HSB.out
    | 11,h=>exact MkVo.kp h hg HSB.out
    | 13,h=>exact AgZ.kp h hg HSB.out
    | 0,_=>trivial
    | 1,_=>trivial
    | 2,_=>trivial
    | 3,_=>trivial
    | 4,_=>trivial
    | 5,_=>trivial
    | 6,_=>trivial
    | 7,_=>trivial
    | 8,_=>trivial
    | 12,_=>trivial
    | m+14,_=>trivial
   ·intro vs lo hi y hg hJ hK hB hD
    replace hg:Kp (fun j=>j=p ii+1) wr y:=hg
    have k34:=hK 9 (by decide) rfl
    have b34:=hB 9 (by decide) rfl
    have k24:=hK 10 (by decide) rfl
    have b24:=hB 10 (by decide) rfl
    have k35:=hK 11 (by decide) rfl
    have b35:=hB 11 (by decide) rfl
    have k10:=hK 13 (by decide) rfl
    have b10:=hB 13 (by decide) rfl
    have d34_10:=hD 9 (by decide) rfl 13 (by decide) rfl (by decide)
    have d24_10:=hD 10 (by decide) rfl 13 (by decide) rfl (by decide)
    have d35_10:=hD 11 (by decide) rfl 13 (by decide) rfl (by decide)
    clear hK hB hD
    have j0:vs 0=.slice (some lad) 4 Lc:=hJ 0 (by decide) rfl
    have j1:vs 1=.int .i64 (ii:Int):=hJ 1 (by decide) rfl
    have j2:vs 2=.pointer (some (lad.add ii)):=hJ 2 (by decide) rfl
    have j3:vs 3=.pointer (some ⟨p ii+1,0,none⟩):=hJ 3 (by decide) rfl
    have j4:vs 4=.int .i64 (ii:Int):=hJ 4 (by decide) rfl
    have j5:vs 5=.pointer (some ⟨w.heap.size+1,0,none⟩):=hJ 5 (by decide) rfl
    have j6:vs 6=.int .i64 b.vw:=hJ 6 (by decide) rfl
    have j7:vs 7=.agg gb:=hJ 7 (by decide) rfl
    have j8:vs 8=.int .u64 (D:Int):=hJ 8 (by decide) rfl
    clear hJ
    simp only [actOf,tk1,tk0,dr1,dr0,Act.put,si1,st1,st0,Nat.reduceAdd]
    obtain⟨A1,c1,e35,hat1,hb1,hr1⟩:=MkVo.out k35
    obtain⟨q,e10,zq,hBq,hql,hqh⟩:=AgZ.out k10
    rw [e35,e10]
    have hky:=MkVk.ky k34
    have hPI:=HPI.out
    have hqb:=HBE.out
    have hbz:=HBW.out
    have HNQ:Hid (∀ ad,A1=some ad→S0.l=[]∨ad.block≠q):=hQ9 (fun ad h=>by
     rcases hr1 ad h with h1 | h1
     ·exact .inl h1
     ·exact .inr (by rcases d35_10 with h2 | h2<;>omega))
    have HLO1:Hid (∀ ad,A1=some ad→S0.l=[]∨wr.heap.size≤ad.block):=hQ9 (fun ad h=>(hr1 ad h).imp id (fun h1=>by omega))
    obtain⟨gs,hgs⟩:∃ g,(S0.mv A1 c1).C=g:=⟨_,rfl⟩
    have hz24:gs.size=24:=by rw [←hgs];rfl
    have HTH:Hid (y.there q 0 gs.size):=hQ9 (zq.thereN gs.size (by rw [hz24];rfl))
    have HSI:Hid ((Tryz.prog.info? 69).map (·.size)=some gs.size):=hQ9 (by rw [hz24];exact zH)
    have HON:Hid (gs.all (·.oneCell')=true):=hQ9 (by rw [←hgs];exact(S0.mv A1 c1).one)
    have z4:=Ag.set (vs:=gs.toList) zq (by rw [Array.length_toList,hz24];rfl)
    have k4:=zn gs.toList q 0 y
    have HF:Hid (StVk (fun j=>j=p ii+1) wr S0 (p ii+1) (p ii) (ii:Int) (sdI seed ii) (ksL seed h ii) (nx ii+1) (2^h) (.pointer (some ⟨q,0,none⟩)) (y.setCells q 0 gs.toList)):=hQ9 ⟨⟨A1,c1,q,rfl,by rw [hgs];exact z4,y9 hat1 k4 (fun ad h=>HNQ.out ad h),by omega,HLO1.out,kY hg k4 (by omega)⟩,hky.kp k4 (fun h=>by have h:p ii+1=q:=h;omega) (fun h=>by have h:p ii=q:=h;omega)⟩
    rw [hgs]
    clear hgs hg z4 k4 zq hat1 hky
    generalize gs=gs' at *
    go_wp2_with(with_reducible refine wpList_store_mid rfl 69 (.tmp 10) (.tmp 35) rfl q 0 gs' rfl rfl HTH.out HSI.out HON.out ?_)
    exact HF.out
   ·intro vs w4 hF hJ
    have j0:vs 0=.slice (some lad) 4 Lc:=hJ 0 (by decide)
    have j1:vs 1=.int .i64 (ii:Int):=hJ 1 (by decide)
    have j2:vs 2=.pointer (some (lad.add ii)):=hJ 2 (by decide)
    have j3:vs 3=.pointer (some ⟨p ii+1,0,none⟩):=hJ 3 (by decide)
    have j4:vs 4=.int .i64 (ii:Int):=hJ 4 (by decide)
    have j5:vs 5=.pointer (some ⟨w.heap.size+1,0,none⟩):=hJ 5 (by decide)
    have j6:vs 6=.int .i64 b.vw:=hJ 6 (by decide)
    have j7:vs 7=.agg gb:=hJ 7 (by decide)
    have j8:vs 8=.int .u64 (D:Int):=hJ 8 (by decide)
    have j12:vs 12=.int .i64 0:=hJ 12 (by decide)
    clear hJ
    simp only [actOf,tk1,tk0,dr1,dr0,Act.put,si1,st1,st0,Nat.reduceAdd]
    obtain⟨⟨A1,c1,q,e5,z4,hat4,hq4,hlo4,kk⟩,hky4⟩:=hF
    rw [e5,show vs 12=_ from j12]
    have HKY4:=hQ9 hky4
    have HFR:Hid (∀ ad,A1=some ad→S0.l=[]∨wr.heap.size≤ad.block):=hQ9 hlo4
    obtain⟨gs,hgs⟩:∃ g,(S0.mv A1 c1).C=g:=⟨_,rfl⟩
    rw [hgs]at z4
    have HGS:=hQ9 hgs
    have hz24:gs.size=24:=by rw [←hgs];rfl
    have HSL:Hid ((Tryz.prog.info? 69).map (·.size)=some gs.toList.length):=hQ9 (by rw [Array.length_toList,hz24];exact zH)
    have hbw:=HBW.out
    have hpi:=HPI.out
    have hqb:=HBE.out
    have HAT4:Hid (∀ S∈M,S.at w4):=hQ9 (fun S hS=>y9 (HAT.out S hS) kk (fun ad h=>(HLW.out S hS ad h).imp id (fun h1 h3=>by omega)))
    have HROW4:=hQ9 (zx HROW.out kk (fun g h h3=>by
     have h1:=zG HROW.out g h
     omega))
    have HKS4:Hid (keysN seed h p (nxd nx (n+1)) w4):=hQ9 (fun i hi4=>by
     by_cases hik:i=ii
     ·subst hik
      have:nxd nx (n+1) i=nx i+1:=by unfold nxd;rw [if_pos (by have:=HIN.out;omega)]
      rw [this];exact HKY4.out
     ·have:nxd nx (n+1) i=nxd nx n i:=by
       unfold nxd
       have:=HIN.out
       by_cases h1:3<i+n
       ·rw [if_pos h1,if_pos (by omega)]
       ·rw [if_neg h1,if_neg (by omega)]
      rw [this]
      have h2:=HAP.out i ii hi4 HI4.out hik
      exact(HKS.out i hi4).kp kk (fun h=>by omega) (fun h=>by omega))
    have HZK4:=hQ9 (HZK.out.kp kk (fun h=>by have h:w.heap.size=p ii+1:=h;omega))
    have HZB4:=hQ9 (HZB.out.kp kk (fun h=>by have h:w.heap.size+1=p ii+1:=h;omega))
    have HZT4:=hQ9 (HZT.out.kp kk (fun h=>by have h:w.heap.size+1+1=p ii+1:=h;omega))
    have HLD4:Hid (∀ i,i<4→w4.cell? (lad.add i)=some (.pointer (some ⟨p i+1,0,none⟩))):=hQ9 (fun i hi=>by
     have h1:=yj (HLD.out i hi)
     rw [zv]at h1
     exact(World.cell?_of_block (by rw [zv];exact kk.block lad.block h1 (FL.out ii HI4.out))).trans (HLD.out i hi))
    have HRR4:=hQ9 ((HRR.out.kp kk (Nat.le_refl _) (fun ad e h1 h=>FR.out ii HI4.out ad e h)).more kk.size)
    have HGG4:=hQ9 (zO HGG.out kk HGG.out.size (fun i (h:i=p ii+1)=>by omega))
    have HKP4:Hid (Kp (fun j=>∃ i,i<4∧j=p i+1) w w4):=hQ9 (zB HKP.out (xn kk (fun i (h:i=p ii+1)=>⟨ii,HI4.out,h⟩)))
    have HBW4:Hid (wr.heap.size≤w4.heap.size):=hQ9 kk.size
    have HAT5:=hQ9 hat4
    have hrow4:=HROW4.out
    have hsz4:=HBW4.out
    have hm4:=z4.cell
    have hqw4:=z4.lt
    have hww:=HGG4.out.size
    clear hz24 hky4 z4 kk hbw hpi hqb hgs j12 e5 hat4 hq4 hlo4
    clear j0 j1 j2 j3 j4 j5 j6 j7 j8
    clear HAT HKS HZK HZB HZT HLD HRR
    have ga:=zg (zc w4) (.cells gs 69)
    have HTS:Hid ((vpL M).flatten++gs.toList=(vpL (M++[S0.mv A1 c1])).flatten):=hQ9 (by rw [yK,HGS.out])
    have HONE:Hid (∀ u∈gs.toList,u.oneCell'=true):=hQ9 (by rw [←HGS.out];exact(S0.mv A1 c1).one')
    have HLEN:Hid (gs.toList.length=24):=hQ9 (by rw [←HGS.out];rfl)
    have HFOLD:Hid (Array.foldl (fun(cs:Array Value) (x:Value × Nat)=>cs.setIfInBounds x.snd x.fst) (#[.int .i64 0,.int .u64 0,.int .i64 0,.int .i64 0,.int .i64 0,.int .u64 0,.int .u64 0,.int .u64 0,.int .u64 0,.int .u64 0,.int .u64 0,.int .u64 0,.int .u64 0,.int .u64 0,.int .u64 0,.int .u64 0,.int .u64 0,.int .u64 0,.int .u64 0,.int .u64 0,.int .u64 0,.int .u64 0,.int .u64 0,.slice none 0 0]:Array Value) gs.zipIdx 0 24=gs):=hQ9 (by rw [←HGS.out];exact xp (S0.mv A1 c1))
    have hgs24:gs.size=24:=by rw [←HGS.out];rfl
    have hin9:=HI4.out
    have hin8:=HIN.out
    have hb9:B0≤w4.heap.size:=by have:=HBW.out;omega
    go_wp2_with(first
     | (with_reducible refine wpList_load_mid rfl 69 (.tmp 10) rfl q 0 rfl gs.toList _ hm4 hut rfl HSL.out ?_;simp only [Array.toArray_toList])
     | (at_builtin;rw [HFOLD.out];refine zK _ rfl (.tmp 40) (.tmp 42) 36 rfl B0 69 i0 (.agg (#[.int .i64 0,.int .u64 0,.int .i64 0,.int .i64 0,.int .i64 0,.int .u64 0,.int .u64 0,.int .u64 0,.int .u64 0,.int .u64 0,.int .u64 0,.int .u64 0,.int .u64 0,.int .u64 0,.int .u64 0,.int .u64 0,.int .u64 0,.int .u64 0,.int .u64 0,.int .u64 0,.int .u64 0,.int .u64 0,.int .u64 0,.slice none 0 0]:Array Value)) 24 208 Tryz.underlying36 hi hz0 hz1 hz2 rfl (by decide) _ _ _ rfl (hrow4.alloc _) ⟨w4.heap.size,0,none⟩ 1 1 gs.toList rfl (by rw [HLEN.out]) (fun j u hj=>yd w4 gs 69 j u hj) HONE.out (by unfold maxLen;omega) (by omega) (by simp;omega) ?_;intro v' w5 hown5 hgrow5 hob5))
    go_roundw
    case rel =>
     have K5:Kp (fun g=>B0≤g) w4 w5:=yD (zj ga) hgrow5 (fun g e=>.inl (zA hrow4 g e))
     have hpi:=HPI.out
     have hqb:=HBE.out
     have hsz5:=K5.size
     have hob:=zG HROW.out
     refine⟨n+1,M++[S0.mv A1 c1],by omega,(by go_num),by omega,by rw [HL16.out];exact HMV.out.snoc S0 A1 c1,?_,?_,?_,?_,by rw [←HTS.out];exact hown5,?_,?_,?_,?_,?_,?_,?_,?_⟩
     ·intro T hT
      rcases List.mem_append.1 hT with h | h
      ·exact HOKM.out T h
      ·obtain rfl:T=S0.mv A1 c1:=by simpa using h
       exact VP.mv_ok HSO.out _ _
     ·intro T hT
      rcases List.mem_append.1 hT with h | h
      ·exact ya ((HAT4.out T h).gr ga) hgrow5 (fun ad e g hg=>HNE.out T h ad e g hg)
      ·obtain rfl:T=S0.mv A1 c1:=by simpa using h
       exact ya (HAT5.out.gr ga) hgrow5 (fun ad e g hg=>by
        rcases HFR.out ad e with h1 | h1
        ·exact .inl h1
        ·have:=(hob g hg).2
         exact .inr (by omega))
     ·intro T hT ad e g hg
      have hlt9:T.l=[]∨ad.block<(w4.alloc (.cells gs 69)).heap.size:=by
       rcases List.mem_append.1 hT with h | h
       ·exact zR ((HAT4.out T h).gr ga) ad e
       ·obtain rfl:T=S0.mv A1 c1:=by simpa using h
        exact zR (HAT5.out.gr ga) ad e
      rcases hob5 with h3 | h3
      ·rw [h3]at hg
       rcases List.mem_append.1 hT with h | h
       ·exact HNE.out T h ad e g hg
       ·obtain rfl:T=S0.mv A1 c1:=by simpa using h
        rcases HFR.out ad e with h1 | h1
        ·exact .inl h1
        ·have:=(hob g hg).2
         exact .inr (by omega)
      ·rw [h3]at hg;injection hg with hg
       rcases hlt9 with h1 | h1
       ·exact .inl h1
       ·exact .inr (by omega)
     ·intro T hT ad e
      rcases List.mem_append.1 hT with h | h
      ·exact HLW.out T h ad e
      ·obtain rfl:T=S0.mv A1 c1:=by simpa using h
       rcases HFR.out ad e with h1 | h1
       ·exact .inl h1
       ·exact .inr (by have:=HBW.out;omega)
     ·intro i hi2
      have h1:=HP.out i hi2
      exact(HKS4.out i hi2).kp K5 (by omega) (by omega)
     ·exact HZK4.out.kp K5 (by omega)
     ·exact HZB4.out.kp K5 (by omega)
     ·exact HZT4.out.kp K5 (by omega)
     ·intro i hi
      have h1:=yj (HLD4.out i hi)
      have h2:=HLB.out
      rw [zv]at h1
      exact(World.cell?_of_block (by rw [zv];exact K5.block lad.block h1 (by omega))).trans (HLD4.out i hi)
     ·exact(HRR4.out.kp K5 (Nat.le_refl _) (fun ad e h1 h=>by have:=HRB.out ad e;omega)).more K5.size
     ·have hK:=HKP4.out
      exact⟨K5.os.trans hK.os,K5.tape.trans hK.tape,K5.output.trans hK.output,by have:=hK.size;omega,fun i hi hn=>(K5.block i (by have:=hK.size;omega) (by omega)).trans (hK.block i hi hn)⟩
     ·exact zO HGG4.out K5 HGG4.out.size (fun i hi=>by have:=HPI.out;omega)
    case measure=>simp [Go.RowKit.intOf]<;>omega
  ·obtain rfl:n=3:=by omega
   rw [show(3:Int)-((3:Nat):Int)=0 from rfl]
   obtain⟨A1,A2,A3,c1,c2,c3,hM⟩:=m16_mv hmv
   have hml:M.length=3:=by rw [hM];rfl
   obtain⟨AB,cB,rfl,hB,hcc1,hcc2,hbB⟩:=xi hrow hml
   have hVp:Vps wr AB M:=⟨hB,hok,hat⟩
   have hn1:=hnx.out 1 (by omega) (by omega)
   have hn2:=hnx.out 2 (by omega) (by omega)
   have hn3:=hnx.out 3 (by omega) (by omega)
   obtain⟨E,hE⟩:∃ E,[vpK seed h (nx 1) b.vw D 1 A1 c1,vpK seed h (nx 2) b.vw D 2 A2 c2,vpK seed h (nx 3) b.vw D 3 A3 c3]=E:=⟨_,rfl⟩
   have HE3:Hid (E.length=3):=hQ9 (by rw [←hE];rfl)
   have HEE:=hQ9 hE
   have HSY:Hid (∀ y,Grew wr y→Std y):=hQ9 (fun y g=>HS.out.grew (ze hg g))
   have HBY:Hid (∀ y,Grew wr y→b.at y):=hQ9 (fun y g=>HBA.out y (zB hkp (zj g)))
   have HKM:Hid (∀ y,Grew wr y→y.rangeAt w.heap.size 0 kc.toList):=hQ9 (fun y g=>(zk.grew g).cell)
   have HCB:Hid (∀ y,Grew wr y→y.rangeAt (w.heap.size+1) 0 gb.toList):=hQ9 (fun y g=>(zb.grew g).cell)
   have HCV:Hid (∀ y,Grew wr y→y.cell? ⟨w.heap.size+1,0,none⟩=some (.int .i64 b.vw)):=hQ9 (fun y g=>by simpa using HCB.out y g 0 _ HCV0.out)
   have CG:Hid (∀ y,Grew wr y→Calls Tryz.prog 30 #[.agg kc,.int .i64 b.vw,.int .u64 (D:Int),.slice AB 3 cB] y fun e w'=>VqS w' wr.heap.size E y.heap.size w'.heap.size (match e with | .returned v=>v | _=>undef) (fun A c=>.tuple #[.agg (vqC b.vw D A 3 c),.int .i64 0])∧(∃ v,e=.returned v)∧Grew y w'):=hQ9 (fun y g=>by
    have:=zc6 (zg6 seed h hh.out RA Rc) b.vw D AB cB M (by rw [hml];decide) y (HSY.out y g) (show Rd y y.heap.size RA (u64L (rtL seed h 4)) from rRr.gr g) (hVp.gr g) (by rw [hM];exact zi1 seed h RA Rc b.vw D hh.out hvw.out _ _ _ hn1 hn2 hn3 A1 A2 A3 c1 c2 c3)
    rw [show chosenV (kpV seed h RA Rc) b.vw D M=E from by rw [hM,←hE];exact zi0 seed h RA Rc b.vw D hh.out hvw.out _ _ _ hn1 hn2 hn3 A1 A2 A3 c1 c2 c3,HKC.out,hml,HE3.out]at this
    refine this.mono ?_
    rintro e w' ⟨⟨B,j,N,rfl,h1,h2,h3,h4,h9⟩,gz⟩
    obtain⟨q,hq,hql,-⟩:=h2.get 0 (by rw [h1.len,HE3.out];decide)
    exact⟨⟨B,j,N,rfl,h1,h2,g.size,fun ad e=>⟨h3 ad e,by rw [hq]at e;cases e;exact hql⟩,fun S hS ad e=>by
     rcases h4 S hS ad e with h5 | h5
     ·exact .inl h5
     ·exact(zR (h2.at_ S hS) ad e).imp id (fun h6=>⟨h5,h6⟩),by rw [HE3.out];exact h9⟩,⟨_,rfl⟩,gz⟩)
   have HKSF:=hQ9 hks
   have HZT:=hQ9 zt
   have HKP:=hQ9 hkp
   have HBW:=hQ9 hB0
   clear hmv hok hat hne hlow hrow hks zk zb zt hB hVp hM hbB hld rRr hcc1 hcc2 hml hn hlt hE hkp hB0 hn1 hn2 hn3 hg
   go_upto_region 9 with fail
   refine qE 11 12 (fun ix9=>match ix9 with
    | 0=>fun v=>v=.agg kc
    | 1=>fun v=>v=.pointer (some ⟨w.heap.size+1,0,none⟩)
    | 2=>fun v=>v=.int .i64 b.vw
    | 3=>fun v=>v=.agg gb
    | 4=>fun v=>v=.int .u64 (D:Int)
    | 5=>fun v=>v=.slice AB 3 cB
    | 6=>fun _=>True
    | 7=>fun v=>∃ A c,v=.tuple #[.agg (vqC b.vw D A 3 c),.int .i64 0]
    | 8=>fun _=>True
    | 9=>fun v=>v=.int .i64 0
    | 10=>fun _=>True
    | 11=>fun _=>True
    | _=>fun _=>True) (fun ix9=>match ix9 with
    | 6=>fun lo hi v w=>VqS w wr.heap.size E lo hi v (fun A c=>.tuple #[.agg (vqC b.vw D A 3 c),.int .i64 0])
    | 7=>fun lo hi v w=>VqS w wr.heap.size E lo hi v (fun A c=>.tuple #[.agg (vqC b.vw D A 3 c),.int .i64 0])
    | 8=>fun lo hi v w=>VqS w wr.heap.size E lo hi v (fun A c=>.agg (vqC b.vw D A 3 c))
    | 10=>fun lo hi v w=>AgZ w wr.heap.size lo hi (#[.int .i64 0,.int .u64 0,.slice none 0 0]:Array Value).toList v
    | _=>fun _ _ _ _=>True) (fun ix9=>match ix9 with
    | 7=>6
    | 8=>7
    | ix8=>ix8) (fun ix9=>match ix9 with
    | 7=>6
    | 8=>6
    | ix8=>ix8) (fun ix9=>match ix9 with
    | 9=>true
    | _=>false) 10 (fun v W=>VqF wr b.vw D E v W) rfl (by kernel_rfl) (by kernel_rfl) (by kernel_rfl) (by kernel_rfl) rfl rfl (by decide) (fun _=>trivial) ?_ ?_ ?_ ?_ (fun o ho=>by cases ho;rfl) (fun v x y h hg=>VqF.gr h hg) ?_
   ·simp only [actOf,tk1,tk0,dr1,dr0,Act.put,si1,st1,st0,Nat.reduceAdd]
    refine⟨?_,?_,?_,?_,?_,?_,?_,?_,?_,?_,?_,trivial⟩
    ·intro vs lo hi y hg hd hvia
     replace hg:Grew wr y:=hg
     clear hvia
     dsimp only
     have hm:=HKM.out y hg
     go_wp2_with(with_reducible refine wpList_load_mid rfl 49 (.tmp 4) rfl w.heap.size 0 rfl kc.toList _ hm hkt rfl HSKL.out ?_;simp only [Array.toArray_toList])
     first | exact⟨rfl,_,rfl,zc _,rfl⟩ | exact⟨rfl,_,rfl,zc _,rfl,trivial⟩
    ·intro vs lo hi y hg hd hvia
     replace hg:Grew wr y:=hg
     clear hvia
     dsimp only
     go_wp2_with fail
     first | exact⟨rfl,_,rfl,zc _,rfl⟩ | exact⟨rfl,_,rfl,zc _,rfl,trivial⟩
    ·intro vs lo hi y hg hd hvia
     replace hg:Grew wr y:=hg
     obtain⟨h1,_⟩:=hd
     replace h1:=h1 rfl
     clear hvia
     dsimp only
     rw [show vs 1=_ from h1]
     have hc:=HCV.out y hg
     go_wp2_with fail
     first | exact⟨rfl,_,rfl,zc _,rfl⟩ | exact⟨rfl,_,rfl,zc _,rfl,trivial⟩
    ·intro vs lo hi y hg hd hvia
     replace hg:Grew wr y:=hg
     clear hvia
     dsimp only
     have hm:=HCB.out y hg
     go_wp2_with(with_reducible refine wpList_load_mid rfl 41 (.tmp 5) rfl (w.heap.size+1) 0 rfl gb.toList _ hm hbt rfl HSB1.out ?_;simp only [Array.toArray_toList])
     first | exact⟨rfl,_,rfl,zc _,rfl⟩ | exact⟨rfl,_,rfl,zc _,rfl,trivial⟩
    ·intro vs lo hi y hg hd hvia
     replace hg:Grew wr y:=hg
     obtain⟨h3,_⟩:=hd
     replace h3:=h3 rfl
     clear hvia
     dsimp only
     rw [show vs 3=_ from h3]
     have hgS:=HSY.out y hg
     have hgB:=HBY.out y hg
     go_wp2_with(go_at_call 19;refine(CD0.out y hgS hgB).mono ?_;rintro e z ⟨rfl,gz⟩)
     exact⟨rfl,_,rfl,gz,rfl,trivial⟩
    ·intro vs lo hi y hg hd hvia
     replace hg:Grew wr y:=hg
     clear hvia
     dsimp only
     go_wp2_with fail
     first | exact⟨rfl,_,rfl,zc _,rfl⟩ | exact⟨rfl,_,rfl,zc _,rfl,trivial⟩
    ·intro vs lo hi y hg hd hvia
     replace hg:Grew wr y:=hg
     obtain⟨h0,h2,h4,h5,_⟩:=hd
     replace h0:=h0 rfl
     replace h2:=h2 rfl
     replace h4:=h4 rfl
     replace h5:=h5 rfl
     clear hvia
     dsimp only
     rw [show vs 0=_ from h0,show vs 2=_ from h2,show vs 4=_ from h4,show vs 5=_ from h5]
     go_wp2_with(go_at_call 30;refine(CG.out y hg).mono ?_;rintro e z ⟨hv9,⟨v9,rfl⟩,gz⟩)
     exact⟨rfl,_,rfl,gz,trivial,hv9⟩
    ·intro vs lo hi y hg hd hvia
     replace hg:Grew wr y:=hg
     obtain⟨h6,_⟩:=hd
     replace h6:=h6 rfl
     have hv9:(fun lo hi v w=>VqS w wr.heap.size E lo hi v (fun A c=>.tuple #[.agg (vqC b.vw D A 3 c),.int .i64 0])) (lo 6) (hi 6) (vs 6) y:=hvia rfl
     clear hvia
     dsimp only
     obtain⟨A9,c9,N9,e9,hr9⟩:=VqS.out hv9
     rw [e9]
     go_wp2_with fail
     exact⟨rfl,_,rfl,zc _,⟨A9,⟨c9,rfl⟩⟩,⟨A9,c9,N9,rfl,hr9⟩⟩
    ·intro vs lo hi y hg hd hvia
     replace hg:Grew wr y:=hg
     obtain⟨h7,_⟩:=hd
     replace h7:=h7 rfl
     have hv9:(fun lo hi v w=>VqS w wr.heap.size E lo hi v (fun A c=>.tuple #[.agg (vqC b.vw D A 3 c),.int .i64 0])) (lo 7) (hi 7) (vs 7) y:=hvia rfl
     clear hvia
     dsimp only
     obtain⟨A9,c9,N9,e9,hr9⟩:=VqS.out hv9
     rw [e9]
     go_wp2_with fail
     exact⟨rfl,_,rfl,zc _,⟨A9,c9,N9,rfl,hr9⟩⟩
    ·intro vs lo hi y hg hd hvia
     replace hg:Grew wr y:=hg
     obtain⟨h7,_⟩:=hd
     replace h7:=h7 rfl
     clear hvia
     dsimp only
     obtain⟨A9,c9,e9⟩:=h7
     rw [e9]
     go_wp2_with fail
     first | exact⟨rfl,_,rfl,zc _,rfl⟩ | exact⟨rfl,_,rfl,zc _,rfl,trivial⟩
    ·intro vs lo hi y hg hd hvia
     replace hg:Grew wr y:=hg
     clear hvia
     dsimp only
     go_wp2_with fail
     exact⟨rfl,_,rfl,zg (zc _) _,⟨y.heap.size,rfl,Ag.new y 38 (#[.int .i64 0,.int .u64 0,.slice none 0 0]:Array Value),hg.size,Nat.le_refl _,by show y.heap.size<(y.alloc _).heap.size;simp⟩⟩
   ·refine⟨(fun h=>absurd h (by decide)),(fun h=>absurd h (by decide)),(fun h=>absurd h (by decide)),(fun h=>absurd h (by decide)),(fun h=>absurd h (by decide)),(fun h=>absurd h (by decide)),(fun h=>absurd h (by decide)),(fun h=>absurd h (by decide)),(fun h=>absurd h (by decide)),?_,(fun h=>absurd h (by decide)),(fun h=>absurd h (by decide)),trivial⟩
    ·intro _ vs y hd
     obtain⟨h7,_⟩:=hd
     replace h7:=h7 rfl
     simp only [actOf,tk1,tk0,dr1,dr0,Act.put,si1,st1,st0,Nat.reduceAdd]
     obtain⟨A9,c9,e9⟩:=h7
     rw [e9]
     go_wp2_with fail
     first | exact⟨rfl,_,rfl,zc _,rfl⟩ | exact⟨rfl,_,rfl,zc _,rfl,trivial⟩
   ·intro i lo hi v x y h hg
    match i,h with
    | 6,h=>exact VqS.gr h hg
    | 7,h=>exact VqS.gr h hg
    | 8,h=>exact VqS.gr h hg
    | 10,h=>exact AgZ.gr h hg
    | 0,_=>trivial
    | 1,_=>trivial
    | 2,_=>trivial
    | 3,_=>trivial
    | 4,_=>trivial
    | 5,_=>trivial
    | 9,_=>trivial
    | m+11,_=>trivial
   ·intro vs lo hi y hg hJ hK hB hD
    replace hg:Grew wr y:=hg
    have k51:=hK 6 (by decide) rfl
    have b51:=hB 6 (by decide) rfl
    have k44:=hK 7 (by decide) rfl
    have b44:=hB 7 (by decide) rfl
    have k52:=hK 8 (by decide) rfl
    have b52:=hB 8 (by decide) rfl
    have k12:=hK 10 (by decide) rfl
    have b12:=hB 10 (by decide) rfl
    have d51_12:=hD 6 (by decide) rfl 10 (by decide) rfl (by decide)
    have d44_12:=hD 7 (by decide) rfl 10 (by decide) rfl (by decide)
    have d52_12:=hD 8 (by decide) rfl 10 (by decide) rfl (by decide)
    clear hK hB hD
    have j0:vs 0=.agg kc:=hJ 0 (by decide) rfl
    have j1:vs 1=.pointer (some ⟨w.heap.size+1,0,none⟩):=hJ 1 (by decide) rfl
    have j2:vs 2=.int .i64 b.vw:=hJ 2 (by decide) rfl
    have j3:vs 3=.agg gb:=hJ 3 (by decide) rfl
    have j4:vs 4=.int .u64 (D:Int):=hJ 4 (by decide) rfl
    have j5:vs 5=.slice AB 3 cB:=hJ 5 (by decide) rfl
    clear hJ
    simp only [actOf,tk1,tk0,dr1,dr0,Act.put,si1,st1,st0,Nat.reduceAdd]
    obtain⟨A7,c7,N7,e52,hmv7,hps7,hB7,hr7,hs7,hcp7⟩:=VqS.out k52
    obtain⟨q,e12,zq,hBq,hql,hqh⟩:=AgZ.out k12
    rw [e52,e12]
    have HTH:Hid (y.there q 0 (vqC b.vw D A7 3 c7).size):=hQ9 (zq.thereN 3 rfl)
    have HSI:Hid ((Tryz.prog.info? 38).map (·.size)=some (vqC b.vw D A7 3 c7).size):=hQ9 zP
    have HON:=hQ9 (yo b.vw D A7 3 c7)
    have z4:=Ag.set (vs:=(vqC b.vw D A7 3 c7).toList) zq rfl
    have k4:=zn (vqC b.vw D A7 3 c7).toList q 0 y
    have hps8:=hps7.kpx k4 (fun ad h e=>by have:=hr7 ad h;have e:ad.block=q:=e;rcases d52_12 with h2 | h2<;>omega) (fun S hS ad h=>(hs7 S hS ad h).imp id (fun h1 e=>by have e:ad.block=q:=e;rcases d52_12 with h2 | h2<;>omega))
    have HF:Hid (VqF wr b.vw D E (.pointer (some ⟨q,0,none⟩)) (y.setCells q 0 (vqC b.vw D A7 3 c7).toList)):=hQ9 ⟨A7,c7,N7,q,rfl,by rw [HE3.out];exact z4,hmv7,hps8,by omega,fun ad h=>by have:=hr7 ad h;omega,fun S hS ad h=>(hs7 S hS ad h).imp id (fun h1=>by omega),zi (o:=0) (b:=q) _ hg (by omega),hcp7⟩
    clear hg z4 k4 zq hps7 hps8 hmv7
    generalize vqC b.vw D A7 3 c7=gs' at *
    go_wp2_with(with_reducible refine wpList_store_mid rfl 38 (.tmp 12) (.tmp 52) rfl q 0 gs' rfl rfl HTH.out HSI.out HON.out ?_)
    exact HF.out
   ·intro vs w4 hF hJ
    have j0:vs 0=.agg kc:=hJ 0 (by decide)
    have j1:vs 1=.pointer (some ⟨w.heap.size+1,0,none⟩):=hJ 1 (by decide)
    have j2:vs 2=.int .i64 b.vw:=hJ 2 (by decide)
    have j3:vs 3=.agg gb:=hJ 3 (by decide)
    have j4:vs 4=.int .u64 (D:Int):=hJ 4 (by decide)
    have j5:vs 5=.slice AB 3 cB:=hJ 5 (by decide)
    have j9:vs 9=.int .i64 0:=hJ 9 (by decide)
    clear hJ
    simp only [actOf,tk1,tk0,dr1,dr0,Act.put,si1,st1,st0,Nat.reduceAdd]
    obtain⟨A7,c7,N7,q,e12,z4,hmv7,hps7,hq7,hb7,hs7,g4,hcp7⟩:=hF
    rw [HE3.out]at hcp7
    have HCP:=hQ9 hcp7
    rw [e12,show vs 9=_ from j9]
    rw [HE3.out]at z4
    have hm4:=z4.cell
    have HSQ:Hid ((Tryz.prog.info? 38).map (·.size)=some (vqC b.vw D A7 3 c7).toList.length):=hQ9 zP
    have HSQS:Hid ((Tryz.prog.info? 38).map (·.size)=some (vqC b.vw D A7 3 c7).size):=hQ9 zP
    have HON:=hQ9 (yo b.vw D A7 3 c7)
    have zt:=HZT.out.grew g4
    have hbe:=HBE.out
    have hbw:=HBW.out
    have HTH:Hid (w4.there (w.heap.size+1+1) 0 (vqC b.vw D A7 3 c7).size):=hQ9 (zt.thereN 3 rfl)
    have z9:=Ag.set (vs:=(vqC b.vw D A7 3 c7).toList) zt rfl
    have k9:=zn (vqC b.vw D A7 3 c7).toList (w.heap.size+1+1) 0 w4
    have HR:Hid (Vps (w4.setCells (w.heap.size+1+1) 0 (vqC b.vw D A7 3 c7).toList) A7 N7):=hQ9 (hps7.kpx k9 (fun ad e (h:ad.block=w.heap.size+1+1)=>by have:=hb7 ad e;omega) (fun S hS ad e=>(hs7 S hS ad e).imp id (fun h1 (h:ad.block=w.heap.size+1+1)=>by omega)))
    have HKN:Hid (keysN seed h p (nxd nx 3) (w4.setCells (w.heap.size+1+1) 0 (vqC b.vw D A7 3 c7).toList)):=hQ9 (fun i hi=>((HKSF.out i hi).grew g4).kp k9 (fun(h:p i+1=w.heap.size+1+1)=>by have:=HP.out i hi;omega) (fun(h:p i=w.heap.size+1+1)=>by have:=HP.out i hi;omega))
    have HKPF:Hid (Kp (fun j=>∃ i,i<4∧j=p i+1) w (w4.setCells (w.heap.size+1+1) 0 (vqC b.vw D A7 3 c7).toList)):=hQ9 (kY (zB HKP.out (zj g4)) k9 (by omega))
    have HMV:Hid (MvV [vpK seed h (nx 1) b.vw D 1 none 0,vpK seed h (nx 2) b.vw D 2 none 0,vpK seed h (nx 3) b.vw D 3 none 0] N7):=hQ9 (by
     rw [←HEE.out]at hmv7
     obtain⟨B1,B2,B3,d1,d2,d3,hN⟩:=v3_mv hmv7
     rw [hN]
     refine⟨rfl,fun k h1 h2=>?_⟩
     have hk:k=0∨k=1∨k=2:=by have:k<3:=h1;omega
     rcases hk with rfl | rfl | rfl
     ·exact⟨B1,d1,rfl⟩
     ·exact⟨B2,d2,rfl⟩
     ·exact⟨B3,d3,rfl⟩)
    have HF1:Hid (∀ ad,A7=some ad→w.heap.size≤ad.block):=hQ9 (fun ad e=>by have:=hb7 ad e;omega)
    have HF2:Hid (∀ S∈N7,∀ ad,S.A=some ad→S.l=[]∨w.heap.size≤ad.block):=hQ9 (fun S hS ad e=>(hs7 S hS ad e).imp id (fun h1=>by omega))
    obtain⟨gv,hgv⟩:∃ g,vqC b.vw D A7 3 c7=g:=⟨_,rfl⟩
    have HGV:=hQ9 hgv
    rw [hgv]at hm4 HSQ HSQS HON HTH z9 HR HKN HKPF
    clear e12 z4 hmv7 hps7 hb7 hs7 g4 zt k9 hgv hcp7
    go_wp2_with(first
     | (with_reducible refine wpList_load_mid rfl 38 (.tmp 12) rfl q 0 rfl gv.toList _ hm4 hqt rfl HSQ.out ?_;simp only [Array.toArray_toList])
     | (with_reducible refine wpList_store_mid rfl 38 (.tmp 6) (.tmp 54) rfl (w.heap.size+1+1) 0 gv rfl rfl HTH.out HSQS.out HON.out ?_))
    refine bodyPost_ret (zT Tryz.results45 _ _ (w.heap.size+1+1) _ _ _ rfl rfl z9 hqt rfl HSQ.out) rfl ⟨?_,HKPF.out,HKN.out⟩
    have hv9:(Ending.returned (.tuple #[.agg gv.toList.toArray,.bool true]))=.returned (.tuple #[.agg (vqC b.vw D A7 3 c7),.bool true]):=by rw [HGV.out,Array.toArray_toList]
    exact⟨A7,c7,hv9,N7,HMV.out,HR.out,HF1.out,HF2.out,HCP.out⟩
theorem EmL.three {seed:Int} {h:Nat} {nx:Nat→Nat} {lo hi:Int} {L:List RP} (e:EmL seed h nx lo hi L 3):∃ C0 k0 A0 c0 C1 k1 A1 c1 C2 k2 A2 c2,L=[rpK seed h (nx 0) lo hi 0 C0 k0 A0 c0,rpK seed h (nx 1) lo hi 1 C1 k1 A1 c1,rpK seed h (nx 2) lo hi 2 C2 k2 A2 c2]:=by
 match L,e.len,e with
 | [a,b,c],_,e =>
  obtain⟨C0,k0,A0,c0,h0⟩:=e.get 0 (by simp)
  obtain⟨C1,k1,A1,c1,h1⟩:=e.get 1 (by simp)
  obtain⟨C2,k2,A2,c2,h2⟩:=e.get 2 (by simp)
  refine⟨C0,k0,A0,c0,C1,k1,A1,c1,C2,k2,A2,c2,?_⟩
  simp only [List.getElem_cons_zero,List.getElem_cons_succ]at h0 h1 h2
  rw [h0,h1,h2]
section
variable (seed : Int) (h : Nat) (RA : Option Addr) (Rc : Nat) (lo hi : Int)
end
theorem Rps.kpx {P:Nat→Prop} {w w':World} {A:Option Addr} {L:List RP} (h:Rps w A L) (k:Kp P w w') (h1:∀ ad,A=some ad→¬P ad.block) (h2:∀ S∈L,∀ ad,S.A=some ad→S.l=[]∨¬P ad.block):Rps w' A L :=
 ⟨h.rd.kp k (fun q e=>h1 _ e),h.ok,fun S hS=>kq (h.at_ S hS) k (h2 S hS)⟩
theorem em_ok (seed:Int) (h:Nat) (nx:Nat→Nat) (vw qv:Int) (qb:Nat) (QA:Option Addr) (Q:List VP) (qc:Nat) (lo hi:Int) (BA:Option Addr) (L:List RP) (bc:Nat) (h1:in64 vw) (h2:in64 qv) (h3:qb<18446744073709551616) (h4:in64 lo) (h5:in64 hi) (h6:Q.length≤100000) (e:EmL seed h nx lo hi L 3):(⟨vw,qb,qv,qb,QA,Q,qc,lo,hi,BA,L,bc⟩:BK).ok :=
 ⟨h1,h3,h2,h3,h4,h5,h6,by show L.length≤1000;rw [e.len];decide⟩
theorem n0_lt:∀ i,i<3→(fun _=>0) i<2^4:=fun i h=>(by decide:(0:Nat)<2^4)
theorem n1_lt:∀ i,1≤i→i<4→(nxt (fun _=>0) 3) i<2^4:=fun i h1 h=>by show(if i<3 then 0+1 else 0)<2^4;split<;>decide
theorem n2_lt:∀ i,i<3→(nxd (nxt (fun _=>0) 3) 3) i<2^4:=fun i h=>by show(if 3<i+3 then (if i<3 then 0+1 else 0)+1 else (if i<3 then 0+1 else 0))<2^4;(repeat' split)<;>decide
section
variable (RA : Option Addr) (Rc : Nat)
variable (DA : Nat) (QA : Option Addr) (N : List VP) (qc : Nat) (BB : Option Addr) (bd : Nat)
theorem vqE_n (hq:cqV (kpV 3 4 RA Rc) 1 DA N=0):vqE (kpV 3 4 RA Rc) 1 DA N=0:=by unfold vqE;rw [if_neg (by decide)];exact hq
end
section
variable {seed : Int} {vw : Int} {D : Nat} {b : Nat → Bool} {m : Nat → Nat} {M : List VP} {RA : Option Addr} {Rc : Nat}
end
theorem za5 {K:KP} {u:Int} {d:Nat}:∀(L M:List VP) (p:Option Int),L.length=M.length→(∀ i (h:i<L.length) (h':i<M.length),M[i].who=L[i].who∧vdV K u d M[i]=vdV K u d L[i])→chqV K u d p M=chqV K u d p L
 | [],[],_,_,_=>rfl
 | [],_::_,_,h,_=>by simp at h
 | _::_,[],_,h,_=>by simp at h
 | S::L,T::M,p,hl,h=>by
  obtain⟨h1,h2⟩:=h 0 (by simp) (by simp)
  simp only [List.getElem_cons_zero]at h1 h2
  have ih:=za5 L M (some S.who) (by simpa using hl) (fun i a b=>h (i+1) (Nat.succ_lt_succ a) (Nat.succ_lt_succ b))
  rw [chqV,chqV,h1,h2,ih]
theorem cqV_mv {K:KP} {u:Int} {d:Nat} {L M:List VP} (h:MvV L M):cqV K u d M=cqV K u d L:=by
 unfold cqV
 rw [h.len,za5 L M none h.len.symm (fun i a b=>by
  obtain⟨A,k,e⟩:=h.each i a b
  rw [e]
  exact⟨rfl,rfl⟩)]
structure KBase (seed:Int) (h:Nat) (p:Nat→Nat) (nx:Nat→Nat) (qk:Nat) (lad:Addr) (RA:Option Addr) (Rc:Nat) (w0:World) (B0:Nat) (w:World):Prop where
 ks:keysN seed h p nx w
 kc:Ag w qk (kyS 1 RA 4 Rc (h:Int)).toList
 ld:∀ i,i<4→w.cell? (lad.add i)=some (.pointer (some ⟨p i+1,0,none⟩))
 rR:Rd w w.heap.size RA (u64L (rtL seed h 4))
 gr:Grew w0 w
 sz:B0≤w.heap.size
 b0:w0.heap.size≤B0
 lo:∀ i,i<4→w0.heap.size≤p i+1∧p i+1<B0∧p i<B0
 qb:qk<B0
 qn:∀ i,i<4→qk≠p i+1
 lb:lad.block<B0
 ln:∀ i,i<4→lad.block≠p i+1
 rb:∀ ad,RA=some ad→ad.block<B0
 rn:∀ i,i<4→∀ ad,RA=some ad→ad.block≠p i+1
 ap:∀ i j,i<4→j<4→i≠j→p i≠p j∧p i+1≠p j∧p i≠p j+1
theorem KBase.kp {seed:Int} {h:Nat} {p nx:Nat→Nat} {qk:Nat} {lad:Addr} {RA:Option Addr} {Rc:Nat} {w0:World} {B0:Nat} {w w':World} (k:KBase seed h p nx qk lad RA Rc w0 B0 w) {P:Nat→Prop} (q:Kp P w w') (hP:∀ g,P g→B0≤g):KBase seed h p nx qk lad RA Rc w0 B0 w' where
 ks:=fun i hi=>(k.ks i hi).kp q (fun h=>by have:=hP _ h;have:=k.lo i hi;omega) (fun h=>by have:=hP _ h;have:=k.lo i hi;omega)
 kc:=k.kc.kp q (fun h=>by have:=hP _ h;have:=k.qb;omega)
 ld:=fun i hi=>(World.cell?_of_block (by rw [zv];exact q.block lad.block (by have:=k.lb;have:=k.sz;omega) (fun h=>by have:=hP _ h;have:=k.lb;omega))).trans (k.ld i hi)
 rR:=(k.rR.kp q (Nat.le_refl _) (fun ad e _ h=>by have:=hP _ h;have:=k.rb ad e;omega)).more q.size
 gr:=zO k.gr q k.gr.size (fun i hi=>by have:=hP i hi;have:=k.b0;omega)
 sz:=by have:=k.sz;have:=q.size;omega
 b0:=k.b0
 lo:=k.lo
 qb:=k.qb
 qn:=k.qn
 lb:=k.lb
 ln:=k.ln
 rb:=k.rb
 rn:=k.rn
 ap:=k.ap
theorem KBase.grew {seed:Int} {h:Nat} {p nx:Nat→Nat} {qk:Nat} {lad:Addr} {RA:Option Addr} {Rc:Nat} {w0:World} {B0:Nat} {w w':World} (k:KBase seed h p nx qk lad RA Rc w0 B0 w) (g:Grew w w'):KBase seed h p nx qk lad RA Rc w0 B0 w':=k.kp (P:=fun _=>False) (zj g) (fun _ h=>h.elim)
def updK (nx:Nat→Nat) (i:Nat):Nat→Nat:=fun j=>if j=i then nx i+1 else nx j
theorem KBase.tn {seed:Int} {h:Nat} {p nx:Nat→Nat} {qk:Nat} {lad:Addr} {RA:Option Addr} {Rc:Nat} {w0:World} {B0:Nat} {w w':World} (k:KBase seed h p nx qk lad RA Rc w0 B0 w) {i:Nat} (hi:i<4) (q:Kp (fun j=>j=p i+1) w w') (hk:KyAt w' (p i+1) (p i) (i:Int) (sdI seed i) (ksL seed h i) (nx i+1) (2^h)):KBase seed h p (updK nx i) qk lad RA Rc w0 B0 w' where
 ks:=fun j hj=>by
  by_cases e:j=i
  ·subst e
   unfold updK
   rw [if_pos rfl]
   exact hk
  ·unfold updK
   rw [if_neg e]
   have:=k.ap j i hj hi e
   exact(k.ks j hj).kp q (fun h=>by have h:p j+1=p i+1:=h;omega) (fun h=>by have h:p j=p i+1:=h;omega)
 kc:=k.kc.kp q (fun h=>k.qn i hi h)
 ld:=fun j hj=>(World.cell?_of_block (by rw [zv];exact q.block lad.block (by have:=k.lb;have:=k.sz;omega) (fun h=>k.ln i hi h))).trans (k.ld j hj)
 rR:=(k.rR.kp q (Nat.le_refl _) (fun ad e _ h=>k.rn i hi ad e h)).more q.size
 gr:=zO k.gr q k.gr.size (fun j (hj:j=p i+1)=>by have:=k.lo i hi;omega)
 sz:=by have:=k.sz;have:=q.size;omega
 b0:=k.b0
 lo:=k.lo
 qb:=k.qb
 qn:=k.qn
 lb:=k.lb
 ln:=k.ln
 rb:=k.rb
 rn:=k.rn
 ap:=k.ap
def SepV (rv:Value) (M:List VP):Prop:=∀ S∈M,∀ ad,S.A=some ad→∀ g,rv.ownBlock=some g→S.l=[]∨ad.block≠g
structure VRow (B0:Nat) (rv:Value) (M:List VP) (w:World):Prop where
 ok:∀ S∈M,S.ok
 at_:∀ S∈M,S.at w
 ne:SepV rv M
 lo:∀ S∈M,∀ ad,S.A=some ad→S.l=[]∨B0≤ad.block
 row:w.ownsRow B0 69 24 rv M.length (vpL M).flatten
theorem VRow.nil (B0:Nat) (w:World):VRow B0 (.slice none 0 0) [] w:=⟨by simp,by simp,fun S hS=>by simp at hS,by simp,World.ownsRow_nil _ _ _ _⟩
theorem VRow.kp {B0:Nat} {rv:Value} {M:List VP} {w w':World} (h:VRow B0 rv M w) {P:Nat→Prop} (k:Kp P w w') (h1:∀ g,rv.ownBlock=some g→¬P g) (h2:∀ S∈M,∀ ad,S.A=some ad→S.l=[]∨¬P ad.block):VRow B0 rv M w' :=
 ⟨h.ok,fun S hS=>y9 (h.at_ S hS) k (h2 S hS),h.ne,h.lo,zx h.row k h1⟩
theorem VRow.grew {B0:Nat} {rv:Value} {M:List VP} {w w':World} (h:VRow B0 rv M w) (g:Grew w w'):VRow B0 rv M w':=h.kp (P:=fun _=>False) (zj g) (fun _ _ h=>h) (fun _ _ _ _=>.inr (fun h=>h))
theorem VRow.key {B0:Nat} {rv:Value} {M:List VP} {w w':World} (h:VRow B0 rv M w) {b:Nat} (k:Kp (fun j=>j=b) w w') (hb:b<B0):VRow B0 rv M w' :=
 h.kp k (fun g e (h1:g=b)=>by have:=(zG h.row g e).1;omega) (fun S hS ad e=>(h.lo S hS ad e).imp id (fun h1 (h2:ad.block=b)=>by omega))
theorem VRow.lt {B0:Nat} {rv:Value} {M:List VP} {w:World} (h:VRow B0 rv M w):∀ S∈M,∀ ad,S.A=some ad→S.l=[]∨ad.block<w.heap.size:=fun S hS=>zR (h.at_ S hS)
theorem VRow.app {B0:Nat} {rv rv':Value} {M:List VP} {w wa w':World} (h:VRow B0 rv M w) {S:VP} (hS:S.ok) (ha:S.at w) (hl:∀ ad,S.A=some ad→S.l=[]∨B0≤ad.block) (hn:∀ ad,S.A=some ad→∀ g,rv.ownBlock=some g→S.l=[]∨ad.block≠g) (ga:Grew w wa) (hown:w'.ownsRow B0 69 24 rv' (M.length+1) ((vpL M).flatten++S.C.toList)) (hg:wa.grownBy w' rv.ownBlock) (hob:rv'.ownBlock=rv.ownBlock∨rv'.ownBlock=some wa.heap.size):VRow B0 rv' (M++[S]) w' where
 ok:=fun T hT=>by
  rcases List.mem_append.1 hT with h1 | h1
  ·exact h.ok T h1
  ·obtain rfl:T=S:=by simpa using h1
   exact hS
 at_:=fun T hT=>by
  rcases List.mem_append.1 hT with h1 | h1
  ·exact ya ((h.at_ T h1).gr ga) hg (fun ad e g hg=>h.ne T h1 ad e g hg)
  ·obtain rfl:T=S:=by simpa using h1
   exact ya (ha.gr ga) hg hn
 ne:=fun T hT ad e g hg2=>by
  have hlt:T.l=[]∨ad.block<wa.heap.size:=by
   rcases List.mem_append.1 hT with h1 | h1
   ·exact zR ((h.at_ T h1).gr ga) ad e
   ·obtain rfl:T=S:=by simpa using h1
    exact zR (ha.gr ga) ad e
  rcases hob with h3 | h3
  ·rw [h3]at hg2
   rcases List.mem_append.1 hT with h1 | h1
   ·exact h.ne T h1 ad e g hg2
   ·obtain rfl:T=S:=by simpa using h1
    exact hn ad e g hg2
  ·rw [h3]at hg2
   injection hg2 with hg2
   rcases hlt with h1 | h1
   ·exact .inl h1
   ·exact .inr (by omega)
 lo:=fun T hT=>by
  rcases List.mem_append.1 hT with h1 | h1
  ·exact h.lo T h1
  ·obtain rfl:T=S:=by simpa using h1
   exact hl
 row:=by rw [List.length_append,yK];exact hown
theorem zhb (S:VP) (hS:S.ok) (w:World) (ha:S.at w) :
 Calls Tryz.prog 173 #[.agg S.C] w fun e w'=>∃ A c,e=.returned (.agg (S.mv A c).C)∧(S.mv A c).at w'∧(∀ ad,A=some ad→w.heap.size≤ad.block)∧Grew w w':=by
 have z1:=(Ag.new w 69 S.C).grew (zg (zc _) (.cells (#[.int .i64 0,.int .u64 0,.int .i64 0,.int .i64 0,.int .i64 0,.int .u64 0,.int .u64 0,.int .u64 0,.int .u64 0,.int .u64 0,.int .u64 0,.int .u64 0,.int .u64 0,.int .u64 0,.int .u64 0,.int .u64 0,.int .u64 0,.int .u64 0,.int .u64 0,.int .u64 0,.int .u64 0,.int .u64 0,.int .u64 0,.slice none 0 0]) 69))
 have z2:Ag ((w.alloc (.cells S.C 69)).alloc (.cells (#[.int .i64 0,.int .u64 0,.int .i64 0,.int .i64 0,.int .i64 0,.int .u64 0,.int .u64 0,.int .u64 0,.int .u64 0,.int .u64 0,.int .u64 0,.int .u64 0,.int .u64 0,.int .u64 0,.int .u64 0,.int .u64 0,.int .u64 0,.int .u64 0,.int .u64 0,.int .u64 0,.int .u64 0,.int .u64 0,.int .u64 0,.slice none 0 0]) 69)) (w.heap.size+1) (#[.int .i64 0,.int .u64 0,.int .i64 0,.int .i64 0,.int .i64 0,.int .u64 0,.int .u64 0,.int .u64 0,.int .u64 0,.int .u64 0,.int .u64 0,.int .u64 0,.int .u64 0,.int .u64 0,.int .u64 0,.int .u64 0,.int .u64 0,.int .u64 0,.int .u64 0,.int .u64 0,.int .u64 0,.int .u64 0,.int .u64 0,.slice none 0 0]:Array Value).toList:=by
  have:=Ag.new (w.alloc (.cells S.C 69)) 69 (#[.int .i64 0,.int .u64 0,.int .i64 0,.int .i64 0,.int .i64 0,.int .u64 0,.int .u64 0,.int .u64 0,.int .u64 0,.int .u64 0,.int .u64 0,.int .u64 0,.int .u64 0,.int .u64 0,.int .u64 0,.int .u64 0,.int .u64 0,.int .u64 0,.int .u64 0,.int .u64 0,.int .u64 0,.int .u64 0,.int .u64 0,.slice none 0 0])
  simpa using this
 have G0:=zg (zg (zc w) (.cells S.C 69)) (.cells (#[.int .i64 0,.int .u64 0,.int .i64 0,.int .i64 0,.int .i64 0,.int .u64 0,.int .u64 0,.int .u64 0,.int .u64 0,.int .u64 0,.int .u64 0,.int .u64 0,.int .u64 0,.int .u64 0,.int .u64 0,.int .u64 0,.int .u64 0,.int .u64 0,.int .u64 0,.int .u64 0,.int .u64 0,.int .u64 0,.int .u64 0,.slice none 0 0]) 69)
 have ha0:=ha.gr G0
 have CC:=hQ9 (zdw S.sw S.lf S.s S.A S.c S.l hS.len _ ha0)
 have hut:=Tryz.underlying69
 have hus:=Tryz.underlying67
 have HZI:=hQ9 z1
 have hm0:((w.alloc (.cells S.C 69)).alloc (.cells (#[.int .i64 0,.int .u64 0,.int .i64 0,.int .i64 0,.int .i64 0,.int .u64 0,.int .u64 0,.int .u64 0,.int .u64 0,.int .u64 0,.int .u64 0,.int .u64 0,.int .u64 0,.int .u64 0,.int .u64 0,.int .u64 0,.int .u64 0,.int .u64 0,.int .u64 0,.int .u64 0,.int .u64 0,.int .u64 0,.int .u64 0,.slice none 0 0]) 69)).rangeAt w.heap.size 3 (sgC S.sw S.lf S.s (.slice S.A S.l.length S.c)).toList:=xA z1.cell
 have HSG:Hid ((Tryz.prog.info? 67).map (·.size)=some (sgC S.sw S.lf S.s (.slice S.A S.l.length S.c)).toList.length):=hQ9 zL
 clear ha ha0 z1
 go_enter Tryz.func173,Tryz.ntmps173
 go_wp2_with(with_reducible refine wpList_load_mid rfl 67 (.tmp 3) rfl w.heap.size 3 rfl (sgC S.sw S.lf S.s (.slice S.A S.l.length S.c)).toList _ hm0 hus rfl HSG.out ?_;simp only [Array.toArray_toList])
 refine(CC.out).mono ?_
 rintro e w1 ⟨A2,c2,rfl,hr2,hb2,g1⟩
 have z1:=HZI.out.grew g1
 have z2':=z2.grew g1
 have G1:=ze G0 g1
 have hb0:w.heap.size+2≤((w.alloc (.cells S.C 69)).alloc (.cells (#[.int .i64 0,.int .u64 0,.int .i64 0,.int .i64 0,.int .i64 0,.int .u64 0,.int .u64 0,.int .u64 0,.int .u64 0,.int .u64 0,.int .u64 0,.int .u64 0,.int .u64 0,.int .u64 0,.int .u64 0,.int .u64 0,.int .u64 0,.int .u64 0,.int .u64 0,.int .u64 0,.int .u64 0,.int .u64 0,.int .u64 0,.slice none 0 0]) 69)).heap.size:=by rw [zl,zl];omega
 have hb2':∀ ad,A2=some ad→w.heap.size+2≤ad.block:=fun ad h=>Nat.le_trans hb0 (hb2 ad h)
 have SIG:Hid ((Tryz.prog.info? 67).map (·.size)=some (sgC S.sw S.lf S.s (.slice A2 S.l.length c2)).size):=hQ9 zL
 have ONG:=hQ9 (yL S.sw S.lf S.s A2 S.l.length c2)
 have THG:Hid (w1.there w.heap.size 3 (sgC S.sw S.lf S.s (.slice A2 S.l.length c2)).size):=hQ9 (fun i hi=>by
  have hi':i<21:=hi
  have:=z1.there (3+i) (by show 3+i<24;omega)
  simpa using this)
 have y1:Ag (w1.setCells w.heap.size 3 (sgC S.sw S.lf S.s (.slice A2 S.l.length c2)).toList) w.heap.size (S.mv A2 c2).C.toList:=by
  rw [VP.C_eq]at z1
  rw [VP.mv_C]
  exact(Ag.setTail (pre:=[.int .i64 S.vw,.int .u64 (S.cm:Nat),.int .i64 S.who]) (old:=(sgC S.sw S.lf S.s (.slice S.A S.l.length S.c)).toList) (vs:=(sgC S.sw S.lf S.s (.slice A2 S.l.length c2)).toList) z1 (by rw [jr,jr]))
 have K1:=zn (sgC S.sw S.lf S.s (.slice A2 S.l.length c2)).toList w.heap.size 3 w1
 have z3:=z2'.kp K1 (fun e=>by omega)
 have r3:=(hr2.kp K1 (Nat.le_refl _) (fun ad h _ e=>by have:=hb2' ad h;omega)).more K1.size
 have G3:=zi (o:=3) (b:=w.heap.size) (sgC S.sw S.lf S.s (.slice A2 S.l.length c2)).toList G1 (Nat.le_refl _)
 obtain⟨w2,hw2⟩:∃ v,w1.setCells w.heap.size 3 (sgC S.sw S.lf S.s (.slice A2 S.l.length c2)).toList=v:=⟨_,rfl⟩
 rw [hw2]at y1 z3 r3 G3
 have HW2:=hQ9 hw2
 clear CC HZI z2 z1 z2' hb2 hb0 G0 g1 hr2 G1 K1 hw2 hm0 HSG
 have SI1:Hid ((Tryz.prog.info? 69).map (·.size)=some (S.mv A2 c2).C.toList.length):=hQ9 zH
 have SI2:Hid ((Tryz.prog.info? 69).map (·.size)=some (S.mv A2 c2).C.size):=hQ9 zH
 have HON:=hQ9 (S.mv A2 c2).one
 have HTH:Hid (w2.there (w.heap.size+1) 0 (S.mv A2 c2).C.size):=hQ9 (z3.thereN 24 rfl)
 have z4:=Ag.set (vs:=(S.mv A2 c2).C.toList) z3 rfl
 have K4:=zn (S.mv A2 c2).C.toList (w.heap.size+1) 0 w2
 have G4:=zi (o:=0) (b:=w.heap.size+1) (S.mv A2 c2).C.toList G3 (by omega)
 have r4:=(r3.kp K4 (Nat.le_refl _) (fun ad h _ e=>by have:=hb2' ad h;omega)).more K4.size
 have hm:=y1.cell
 clear z3 y1 r3 G3 K4
 go_wp2_with(first
  | (with_reducible refine wpList_store_mid rfl 67 (.tmp 6) (.tmp 5) rfl w.heap.size 3 (sgC S.sw S.lf S.s (.slice A2 S.l.length c2)) rfl rfl THG.out SIG.out ONG.out ?_;rw [HW2.out])
  | (with_reducible refine wpList_load_mid rfl 69 (.tmp 1) rfl w.heap.size 0 rfl (S.mv A2 c2).C.toList _ hm hut rfl SI1.out ?_;simp only [Array.toArray_toList])
  | (with_reducible refine wpList_store_mid rfl 69 (.tmp 2) (.tmp 7) rfl (w.heap.size+1) 0 (S.mv A2 c2).C rfl rfl HTH.out SI2.out HON.out ?_))
 exact bodyPost_ret (zM Tryz.results173 _ _ (w.heap.size+1) _ _ rfl z4 hut rfl zH) rfl ⟨A2,c2,rfl,r4,(fun ad h=>by have:=hb2' ad h;omega),G4⟩
theorem zi3 (A:Option Addr) (c:Nat) (L:List VP) (hl:L.length≤100000) (w:World) (hL:Vps w A L) :
 Calls Tryz.prog 103 #[.slice A L.length c,.func (.func 173) #[] #[]] w fun e w'=>∃ B c' M,e=.returned (.slice B L.length c')∧MvV L M∧Vps w' B M∧L.length≤c'∧c'≤maxLen∧(∀ ad,B=some ad→w.heap.size≤ad.block)∧(∀ S∈M,∀ ad,S.A=some ad→S.l=[]∨w.heap.size≤ad.block)∧Grew w w':=by
 obtain⟨i0,hi,hz0,hz1,hz2⟩:=info_parts kV
 have hut:=Tryz.underlying69
 have HL:=hQ9 hL
 have hr:=hL.rd
 clear hL
 obtain⟨w1,hmk,hown1,hgrow1⟩:=run_make_own (P:=Tryz.prog) w w.heap.size 36 69 i0 (.agg (#[.int .i64 0,.int .u64 0,.int .i64 0,.int .i64 0,.int .i64 0,.int .u64 0,.int .u64 0,.int .u64 0,.int .u64 0,.int .u64 0,.int .u64 0,.int .u64 0,.int .u64 0,.int .u64 0,.int .u64 0,.int .u64 0,.int .u64 0,.int .u64 0,.int .u64 0,.int .u64 0,.int .u64 0,.int .u64 0,.int .u64 0,.slice none 0 0]:Array Value)) 24 Tryz.underlying36 hi hz0 hz1 .i64 .i64 L.length (by rw [hz2];omega) (by unfold maxLen;omega) (Nat.le_refl _)
 have hg1:Grew w w1:=(Below.refl _ w).grown hgrow1 (Nat.le_refl _) (fun j hj=>by cases hj)
 clear hgrow1
 go_enter Tryz.func103,Tryz.ntmps103
 go_wp2_with fail
 clear hmk
 go_loopw [5,13] (fun rv iv wr=>∃(i:Nat) (M:List VP),i≤L.length∧iv=.int .i64 i∧MvV (L.take i) M∧(∀ S∈M,S.ok)∧(∀ S∈M,S.at wr)∧(∀ S∈M,∀ ad,S.A=some ad→∀ g,rv.ownBlock=some g→S.l=[]∨ad.block≠g)∧(∀ S∈M,∀ ad,S.A=some ad→S.l=[]∨w.heap.size≤ad.block)∧wr.ownsRow w.heap.size 69 24 rv i (vpL M).flatten∧Grew w wr) (fun _ i _=>L.length-(Go.RowKit.intOf i).toNat)
 case atStart=>exact⟨0,[],Nat.zero_le _,rfl,by simpa using MvV.nil,by simp,by simp,by simp,by simp,by simpa [vpL]using hown1,hg1⟩
 case round =>
  obtain⟨i,M,hil,rfl,hmv,hok,hat,hne,hlow,hrow,hg⟩:=hrel
  by_cases hlt:i<L.length
  ·obtain⟨q,hA,hq,hm⟩:=RdC.at24v hr hg i hlt
   subst hA
   have hts:L.take (i+1)=L.take i++[L[i]]:=by rw [List.take_succ_eq_append_getElem hlt]
   have HTS:=hQ9 hts
   have hSok:=HL.out.ok L[i] (List.getElem_mem hlt)
   have hSat:=(HL.out.at_ L[i] (List.getElem_mem hlt)).gr hg
   clear hts
   have hi0:(0:Int)≤(i:Int):=by omega
   have hi1:(i:Int)<(L.length:Int):=by omega
   have e4:IntKind.i64.wrap ((i:Int)+1)=(i:Int)+1:=IntWalk.i64_in _ (by omega)
   generalize L[i]=S at *
   have SIS:Hid ((Tryz.prog.info? 69).map (·.size)=some S.C.toList.length):=hQ9 zH
   have SIZ:Hid ((Tryz.prog.info? 69).map (·.size)=some S.C.size):=hQ9 zH
   have HON:=hQ9 S.one
   obtain⟨w2,hw2,ht2,g2,z2⟩:=xQ wr S.C rfl
   have HW2:=hQ9 hw2
   have HT2:=hQ9 ht2
   have hm2:=z2.cell
   have CCP:=hQ9 (zhb S hSok w2 (hSat.gr g2))
   have HOK:=hQ9 hok
   have HNE:=hQ9 hne
   have HLW:=hQ9 hlow
   have hwz:=hg.size
   have HWZ:=hQ9 hwz
   have HMV:=hQ9 hmv
   have HAT:=hQ9 (fun S hS=>(hat S hS).gr g2)
   have HSO:=hQ9 hSok
   clear hw2 ht2 hok hne hlow hmv hat hSok hSat hwz
   go_wp2_with(first
    | (with_reducible refine wpList_load_mid rfl 69 (.tmp 15) rfl q (i*24) rfl S.C.toList _ hm hut rfl SIS.out ?_;simp only [Array.toArray_toList])
    | (with_reducible refine wpList_store_mid rfl 69 (.tmp 7) (.tmp 16) rfl wr.heap.size 0 S.C rfl rfl HT2.out SIZ.out HON.out ?_;rw [HW2.out])
    | (with_reducible refine wpList_load_mid rfl 69 (.tmp 7) rfl wr.heap.size 0 rfl S.C.toList _ hm2 hut rfl SIS.out ?_;simp only [Array.toArray_toList]))
   refine(CCP.out).mono ?_
   rintro e w3 ⟨A2,c2,rfl,hat2,hfr2,gg⟩
   have G3:=ze hg (ze g2 gg)
   have hrow3:=zx (S:=fun _=>False) hrow (zj (ze g2 gg)) (fun g _ h=>h)
   have hsz3:=G3.size
   have hsz:(S.mv A2 c2).C.size=24:=rfl
   have HAT3:=hQ9 (fun T hT=>(HAT.out T hT).gr gg)
   have HOB:=hQ9 (zG hrow)
   have hgz:=(ze g2 gg).size
   have HFR:Hid (∀ ad,A2=some ad→S.l=[]∨wr.heap.size≤ad.block):=hQ9 (fun ad h=>.inr (Nat.le_trans g2.size (hfr2 ad h)))
   clear hrow hm hm2 z2 g2 gg hg HT2 HW2 CCP HAT
   go_wp2_with(first
    | (at_builtin;rw [xp];refine zK _ rfl (.tmp 17) (.tmp 21) 36 rfl w.heap.size 69 i0 (.agg (#[.int .i64 0,.int .u64 0,.int .i64 0,.int .i64 0,.int .i64 0,.int .u64 0,.int .u64 0,.int .u64 0,.int .u64 0,.int .u64 0,.int .u64 0,.int .u64 0,.int .u64 0,.int .u64 0,.int .u64 0,.int .u64 0,.int .u64 0,.int .u64 0,.int .u64 0,.int .u64 0,.int .u64 0,.int .u64 0,.int .u64 0,.slice none 0 0]:Array Value)) 24 208 Tryz.underlying36 hi hz0 hz1 hz2 rfl (by decide) _ _ _ rfl (hrow3.alloc _) ⟨w3.heap.size,0,none⟩ 1 1 (S.mv A2 c2).C.toList rfl rfl (fun j u hj=>yd w3 (S.mv A2 c2).C 69 j u hj) (S.mv A2 c2).one' (by unfold maxLen;omega) (by omega) (by simp;omega) ?_;intro v' w5 hown5 hgrow5 hob5))
   have ga:=zg (zc w3) (.cells (S.mv A2 c2).C 69)
   go_roundw
   case rel =>
    refine⟨i+1,M++[S.mv A2 c2],by omega,by go_num,by rw [HTS.out];exact HMV.out.snoc S A2 c2,?_,?_,?_,?_,by rw [yK];exact hown5,(zg G3 _).grown hgrow5 (by simp;omega) (zA hrow3)⟩
    ·intro T hT
     rcases List.mem_append.1 hT with h | h
     ·exact HOK.out T h
     ·obtain rfl:T=S.mv A2 c2:=by simpa using h
      exact VP.mv_ok HSO.out _ _
    ·intro T hT
     rcases List.mem_append.1 hT with h | h
     ·exact ya ((HAT3.out T h).gr ga) hgrow5 (fun ad e g hg=>HNE.out T h ad e g hg)
     ·obtain rfl:T=S.mv A2 c2:=by simpa using h
      exact ya (hat2.gr ga) hgrow5 (fun ad e g hg=>by
       rcases HFR.out ad e with h1 | h1
       ·exact .inl h1
       ·have:=(HOB.out g hg).2
        exact .inr (by omega))
    ·intro T hT ad e g hg
     have hlt9:T.l=[]∨ad.block<(w3.alloc (.cells (S.mv A2 c2).C 69)).heap.size:=by
      rcases List.mem_append.1 hT with h | h
      ·exact zR ((HAT3.out T h).gr ga) ad e
      ·obtain rfl:T=S.mv A2 c2:=by simpa using h
       exact zR (hat2.gr ga) ad e
     rcases hob5 with h3 | h3
     ·rw [h3]at hg
      rcases List.mem_append.1 hT with h | h
      ·exact HNE.out T h ad e g hg
      ·obtain rfl:T=S.mv A2 c2:=by simpa using h
       rcases HFR.out ad e with h1 | h1
       ·exact .inl h1
       ·have:=(HOB.out g hg).2
        exact .inr (by omega)
     ·rw [h3]at hg;injection hg with hg
      rcases hlt9 with h1 | h1
      ·exact .inl h1
      ·exact .inr (by omega)
    ·intro T hT ad e
     rcases List.mem_append.1 hT with h | h
     ·exact HLW.out T h ad e
     ·obtain rfl:T=S.mv A2 c2:=by simpa using h
      rcases HFR.out ad e with h1 | h1
      ·exact .inl h1
      ·exact .inr (Nat.le_trans HWZ.out h1)
   case measure=>simp [Go.RowKit.intOf];omega
  ·obtain rfl:i=L.length:=by omega
   rw [List.take_length]at hmv
   obtain⟨B,c',rfl,hB,hc1,hc2,hbB⟩:=xi hrow hmv.len
   go_wp2_with fail
   go_ret
   exact⟨B,c',M,rfl,hmv,⟨hB,hok,hat⟩,hc1,hc2,fun ad e=>(hbB ad e).1,hlow,hg⟩
theorem Vps.lt {w:World} {A:Option Addr} {L:List VP} (h:Vps w A L):∀ ad,A=some ad→L=[]∨ad.block<w.heap.size:=fun ad e=>by
 cases L with
 | nil=>exact .inl rfl
 | cons S r =>
  obtain⟨q,e1,h2,-⟩:=h.get 0 (by simp)
  rw [e1]at e
  cases e
  exact .inr h2
theorem Vps.kpy {P:Nat→Prop} {w w':World} {A:Option Addr} {L:List VP} (h:Vps w A L) (k:Kp P w w') (h1:∀ ad,A=some ad→L=[]∨¬P ad.block) (h2:∀ S∈L,∀ ad,S.A=some ad→S.l=[]∨¬P ad.block):Vps w' A L:=by
 cases L with
 | nil=>exact⟨fun k hk=>by simp [vpL]at hk,by simp,by simp⟩
 | cons S r=>exact h.kpx k (fun ad e=>(h1 ad e).resolve_left (by simp)) h2
theorem zd2 (u:Int) (d:Nat) (A:Option Addr) (c:Nat) (L:List VP) (hl:L.length≤100000) (w:World) (hL:Vps w A L) :
 Calls Tryz.prog 123 #[.agg (vqC u d A L.length c)] w fun e w'=>∃ B j N,e=.returned (.agg (vqC u d B L.length j))∧MvV L N∧Vps w' B N∧L.length≤j∧(∀ ad,B=some ad→w.heap.size≤ad.block)∧(∀ S∈N,∀ ad,S.A=some ad→S.l=[]∨w.heap.size≤ad.block)∧Grew w w':=by
 have hut:=Tryz.underlying38
 have z0:=(Ag.new w 38 (vqC u d A L.length c)).grew (zg (zc _) (.cells (#[.int .i64 0,.int .u64 0,.slice none 0 0]) 38))
 have z1:=Ag.new (w.alloc (.cells (vqC u d A L.length c) 38)) 38 (#[.int .i64 0,.int .u64 0,.slice none 0 0])
 rw [zl]at z1
 have G0:=zg (zg (zc w) (.cells (vqC u d A L.length c) 38)) (.cells (#[.int .i64 0,.int .u64 0,.slice none 0 0]) 38)
 have hsz:((w.alloc (.cells (vqC u d A L.length c) 38)).alloc (.cells (#[.int .i64 0,.int .u64 0,.slice none 0 0]) 38)).heap.size=w.heap.size+2:=by simp
 have HLA:=hQ9 (hL.gr G0)
 obtain⟨w1,hw1⟩:∃ v,(w.alloc (.cells (vqC u d A L.length c) 38)).alloc (.cells (#[.int .i64 0,.int .u64 0,.slice none 0 0]) 38)=v:=⟨_,rfl⟩
 rw [hw1]at z0 z1 G0 hsz HLA
 have HW1:=hQ9 hw1
 have CMP:=hQ9 (zi3 A c L hl w1 HLA.out)
 have hc2:w1.cell? ⟨w.heap.size,2,none⟩=some (.slice A L.length c):=ag_at z0 2 rfl
 have HZ0:=hQ9 z0
 have HSZ:=hQ9 hsz
 clear hw1 hL hl z0 hsz
 go_enter Tryz.func123,Tryz.ntmps123
 go_upto_region 1 with fail
 rw [HW1.out]
 clear HW1
 go_wp2_with fail
 refine(CMP.out).mono ?_
 rintro e w2 ⟨B,j,N,rfl,hmv,hv,hlj,-,hb,hn,g2⟩
 have z0:=HZ0.out.grew g2
 have z1:=z1.grew g2
 have HMV:=hQ9 hmv
 have HLJ:=hQ9 hlj
 have hbz:∀ ad,B=some ad→w.heap.size+2≤ad.block:=fun ad e=>by have:=hb ad e;have:=HSZ.out;omega
 have hnz:∀ S∈N,∀ ad,S.A=some ad→S.l=[]∨w.heap.size+2≤ad.block:=fun S hS ad e=>(hn S hS ad e).imp id (fun h1=>by have:=HSZ.out;omega)
 have f2:w2.frozen? ⟨w.heap.size,2,none⟩=false:=ag_fr z0 2 (by show 2<3;decide)
 have d2:w2.cell? ⟨w.heap.size,2,none⟩=some (.slice A L.length c):=ag_at z0 2 rfl
 have K3:=yP (S:=fun j=>j=w.heap.size) (zJ _ w2) (p:=⟨w.heap.size,2,none⟩) (.inl rfl) (.slice B L.length j)
 have z3:Ag (w2.setCell ⟨w.heap.size,2,none⟩ (.slice B L.length j)) w.heap.size (vqC u d B L.length j).toList:=Ag.set1 z0 2 (.slice B L.length j) (by show 2<3;decide)
 have y3:=z1.kp K3 (by show ¬w.heap.size+1=w.heap.size;omega)
 have v3:=hv.kpx K3 (fun ad e (h:ad.block=w.heap.size)=>by have:=hbz ad e;omega) (fun S hS ad e=>(hnz S hS ad e).imp id (fun h1 (h:ad.block=w.heap.size)=>by omega))
 have G3:Grew w (w2.setCell ⟨w.heap.size,2,none⟩ (.slice B L.length j)):=zO (ze G0 g2) K3 (ze G0 g2).size (fun i e=>by have e':i=w.heap.size:=e;omega)
 obtain⟨w3,hw3⟩:∃ v,w2.setCell ⟨w.heap.size,2,none⟩ (.slice B L.length j)=v:=⟨_,rfl⟩
 rw [hw3]at z3 y3 v3 G3
 have HW3:=hQ9 hw3
 obtain⟨gr,hgr⟩:∃ g,vqC u d B L.length j=g:=⟨_,rfl⟩
 rw [hgr]at z3
 have HGR:=hQ9 hgr
 have hm3:=z3.cell
 have SI:Hid ((Tryz.prog.info? 38).map (·.size)=some gr.toList.length):=hQ9 (by rw [←hgr];exact zP)
 have SZ:Hid ((Tryz.prog.info? 38).map (·.size)=some gr.size):=hQ9 (by rw [←hgr];exact zP)
 have HO:Hid (gr.all (·.oneCell')=true):=hQ9 (by rw [←hgr];exact yo _ _ _ _ _)
 have hg3:gr.size=3:=by rw [←hgr];rfl
 have HTH:Hid (w3.there (w.heap.size+1) 0 gr.size):=hQ9 (by rw [hg3];exact y3.thereN 3 rfl)
 have z9:=Ag.set (vs:=gr.toList) y3 (by rw [Array.length_toList,hg3];rfl)
 have k9:=zn gr.toList (w.heap.size+1) 0 w3
 have v9:=v3.kpx k9 (fun ad e (h:ad.block=w.heap.size+1)=>by have:=hbz ad e;omega) (fun S hS ad e=>(hnz S hS ad e).imp id (fun h1 (h:ad.block=w.heap.size+1)=>by omega))
 have G9:=zi (o:=0) (b:=w.heap.size+1) gr.toList G3 (by omega)
 have HB:Hid (∀ ad,B=some ad→w.heap.size≤ad.block):=hQ9 (fun ad e=>by have:=hbz ad e;omega)
 have HN:Hid (∀ S∈N,∀ ad,S.A=some ad→S.l=[]∨w.heap.size≤ad.block):=hQ9 (fun S hS ad e=>(hnz S hS ad e).imp id (fun h1=>by omega))
 clear hw3 hgr hg3 z0 z1 hmv hv hlj hb hn g2 hbz hnz K3 z3 y3 v3 G3 k9 hc2 HZ0 CMP HLA
 go_upto_region 2 with fail
 rw [HW3.out]
 clear HW3 f2 d2
 go_wp2_with(first
  | (with_reducible refine wpList_load_mid rfl 38 (.tmp 1) rfl w.heap.size 0 rfl gr.toList _ hm3 hut rfl SI.out ?_;simp only [Array.toArray_toList])
  | (with_reducible refine wpList_store_mid rfl 38 (.tmp 2) (.tmp 7) rfl (w.heap.size+1) 0 gr rfl rfl HTH.out SZ.out HO.out ?_))
 refine bodyPost_ret (zM Tryz.results123 _ _ (w.heap.size+1) _ _ rfl z9 hut rfl SI.out) rfl ?_
 exact⟨B,j,N,by rw [HGR.out],HMV.out,v9,HLJ.out,HB.out,HN.out,G9⟩
def topF:NW→List NW→NW
 | t,[]=>t
 | t,x::r=>topF (if t.qv<x.qv then x else t) r
theorem kZ:∀(r:List NW) (t x:NW),topF t (r++[x])=if (topF t r).qv<x.qv then x else topF t r
 | [],t,x=>rfl
 | y::r,t,x=>kZ r _ x
theorem ql:∀(r:List NW) (t:NW),topF t r=t∨topF t r∈r
 | [],t=>.inl rfl
 | y::r,t=>by
  rcases ql r (if t.qv<y.qv then y else t)with h | h
  ·show topF (if t.qv<y.qv then y else t) r=t∨topF (if t.qv<y.qv then y else t) r∈y::r
   rw [h]
   split
   ·exact .inr (List.mem_cons_self)
   ·exact .inl rfl
  ·exact .inr (List.mem_cons_of_mem _ h)
theorem zi4 {P:Nat→Prop} {w w':World} {b o:Nat} {cs:List Value} (h:w.rangeAt b o cs) (k:Kp P w w') (hb:b<w.heap.size) (hn:¬P b):w'.rangeAt b o cs:=fun j v hj=>by
 rw [←h j v hj]
 exact World.cell?_of_block (k.block b hb hn)
theorem zlc (S0:NW) (R:List NW) (A:Option Addr) (c:Nat) (hl:R.length≤100000) (hc:R.length+1≤c) (w:World) (hE:RdC w A 26 (nwL (S0::R))) :
 Calls Tryz.prog 124 #[.slice A (R.length+1) c,.func (.func 125) #[] #[]] w fun e w'=>e=.returned (.agg (topF S0 R).C)∧Grew w w':=by
 have hut:=Tryz.underlying111
 have hE0:=hE
 obtain⟨q,hA,hq,hr0⟩:=RdC.at26n (L:=S0::R) hE (zc w) 0 (by simp)
 subst hA
 simp only [List.getElem_cons_zero,Nat.zero_mul]at hr0
 have z4:=(Ag.new w 111 (#[.int .i64 0,.int .i64 0,.int .i64 0,.int .u64 0,.slice none 0 0,.int .i64 0,.int .i64 0,.int .u64 0,.int .u64 0,.int .u64 0,.int .u64 0,.int .u64 0,.int .u64 0,.int .u64 0,.int .u64 0,.int .u64 0,.int .u64 0,.int .u64 0,.int .u64 0,.int .u64 0,.int .u64 0,.int .u64 0,.int .u64 0,.int .u64 0,.int .u64 0,.slice none 0 0]:Array Value))
 have g4:=zg (zc w) (.cells (#[.int .i64 0,.int .i64 0,.int .i64 0,.int .u64 0,.slice none 0 0,.int .i64 0,.int .i64 0,.int .u64 0,.int .u64 0,.int .u64 0,.int .u64 0,.int .u64 0,.int .u64 0,.int .u64 0,.int .u64 0,.int .u64 0,.int .u64 0,.int .u64 0,.int .u64 0,.int .u64 0,.int .u64 0,.int .u64 0,.int .u64 0,.int .u64 0,.int .u64 0,.slice none 0 0]:Array Value) 111)
 have hr:=zcc hr0 hq g4
 obtain⟨wa,hwa⟩:∃ v,w.alloc (.cells (#[.int .i64 0,.int .i64 0,.int .i64 0,.int .u64 0,.slice none 0 0,.int .i64 0,.int .i64 0,.int .u64 0,.int .u64 0,.int .u64 0,.int .u64 0,.int .u64 0,.int .u64 0,.int .u64 0,.int .u64 0,.int .u64 0,.int .u64 0,.int .u64 0,.int .u64 0,.int .u64 0,.int .u64 0,.int .u64 0,.int .u64 0,.int .u64 0,.int .u64 0,.slice none 0 0]:Array Value) 111)=v:=⟨_,rfl⟩
 have hsa:wa.heap.size=w.heap.size+1:=by rw [←hwa];simp
 rw [hwa]at z4 g4 hr
 have HWA:=hQ9 hwa
 have HSA:=hQ9 hsa
 clear hsa
 have SIS0:Hid ((Tryz.prog.info? 111).map (·.size)=some S0.C.toList.length):=hQ9 zD
 have SIZ0:Hid ((Tryz.prog.info? 111).map (·.size)=some S0.C.size):=hQ9 zD
 have HO0:=hQ9 S0.one
 obtain⟨w1,hw1,ht1,g1,z5⟩:=ko wa S0.C rfl
 have HW1:=hQ9 hw1
 have HT1:=hQ9 ht1
 have HZ4:=hQ9 (z4.grew g1)
 have HG1:=hQ9 (ze g4 g1)
 have HE1:Hid (∀ k (hk:k<R.length),∀ W,Kp (fun j=>j=wa.heap.size) w1 W→W.rangeAt q (26+k*26) R[k].C.toList):=hQ9 (fun k hk W g=>by
  obtain⟨q',e,-,h3⟩:=RdC.at26n (L:=S0::R) hE HG1.out (k+1) (by simp;omega)
  cases e
  rw [Nat.succ_mul,Nat.add_comm]at h3
  refine zi4 (by simpa using h3) g ?_ ?_
  ·have:=HG1.out.size;omega
  ·have:=HSA.out;show ¬q=wa.heap.size;omega)
 clear hwa hw1 ht1 z4 hE hE0 hr0 g4 g1
 have h1len:(1:Int)≤((R.length:Int)+1):=by omega
 have hcap:((R.length:Int)+1)≤(c:Int):=by omega
 have hpos:(0:Int)<((R.length:Int)+1):=by omega
 by_cases hc1:c=1
 ·obtain rfl:R=[]:=List.eq_nil_of_length_eq_zero (by omega)
  subst hc1
  clear hc hl hcap hpos h1len
  go_enter Tryz.func124,Tryz.ntmps124
  go_upto_region 1 with fail
  rw [HWA.out]
  clear HWA
  go_wp2_with(first
   | (with_reducible refine wpList_load_mid rfl 111 (.tmp 9) rfl q 0 rfl S0.C.toList _ hr hut rfl SIS0.out ?_;simp only [Array.toArray_toList])
   | (with_reducible refine wpList_store_mid rfl 111 (.tmp 5) (.tmp 10) rfl wa.heap.size 0 S0.C rfl rfl HT1.out SIZ0.out HO0.out ?_;rw [HW1.out];clear HW1 HT1))
  obtain⟨q5,hq5⟩:∃ b,wa.heap.size=b:=⟨_,rfl⟩
  rw [hq5]at z5 ⊢
  have HZ5:=hQ9 z5
  clear z5 hq5 hr
  go_loopw [14] (fun iv wr=>iv=.int .i64 0∧Ag wr q5 S0.C.toList∧Grew w1 wr) (fun iv _=>0)
  case atStart=>exact⟨rfl,HZ5.out,zc _⟩
  case round =>
   obtain⟨rfl,z5,hg⟩:=hrel
   have z5:Ag wr q5 (topF S0 []).C.toList:=z5
   have hm5:=z5.cell
   obtain⟨U,hU⟩:∃ U,topF S0 []=U:=⟨_,rfl⟩
   rw [hU]at z5 hm5
   have HU:=hQ9 hU
   clear hU
   have SIU:Hid ((Tryz.prog.info? 111).map (·.size)=some U.C.toList.length):=hQ9 zD
   have SIZ:Hid ((Tryz.prog.info? 111).map (·.size)=some U.C.size):=hQ9 zD
   have HON:=hQ9 U.one
   have z4:=HZ4.out.grew hg
   have HTH:Hid (wr.there w.heap.size 0 U.C.size):=hQ9 (z4.thereN 26 rfl)
   have z9:=Ag.set (vs:=U.C.toList) z4 rfl
   have G9:=zi (o:=0) (b:=w.heap.size) U.C.toList (ze HG1.out hg) (Nat.le_refl _)
   clear z5 z4 hg
   go_wp2_with(first
    | (with_reducible refine wpList_load_mid rfl 111 (.tmp 5) rfl q5 0 rfl U.C.toList _ hm5 hut rfl SIU.out ?_;simp only [Array.toArray_toList])
    | (with_reducible refine wpList_store_mid rfl 111 (.tmp 4) (.tmp 27) rfl w.heap.size 0 U.C rfl rfl HTH.out SIZ.out HON.out ?_))
   exact bodyPost_ret (zM Tryz.results124 _ _ w.heap.size _ _ rfl z9 hut rfl zD) rfl ⟨by rw [HU.out],G9⟩
 have hc2:1<c:=by omega
 have e9:(1:Int)<(c:Int):=by omega
 have e8:(c==1)=false:=by simp;omega
 clear hc1
 go_enter Tryz.func124,Tryz.ntmps124
 go_upto_region 1 with fail
 rw [HWA.out]
 clear HWA
 go_wp2_with(first
  | (with_reducible refine wpList_load_mid rfl 111 (.tmp 9) rfl q 0 rfl S0.C.toList _ hr hut rfl SIS0.out ?_;simp only [Array.toArray_toList])
  | (with_reducible refine wpList_store_mid rfl 111 (.tmp 5) (.tmp 10) rfl wa.heap.size 0 S0.C rfl rfl HT1.out SIZ0.out HO0.out ?_;rw [HW1.out];clear HW1 HT1))
 obtain⟨q5,hq5⟩:∃ b,wa.heap.size=b:=⟨_,rfl⟩
 have HQ5:Hid (w.heap.size+1=q5):=hQ9 (by have:=HSA.out;omega)
 rw [hq5]at z5 HE1 ⊢
 have HZ5:=hQ9 z5
 clear z5 hq5 hr
 go_loopw [14] (fun iv wr=>∃ i:Nat,i≤R.length∧iv=.int .i64 (i:Int)∧Ag wr q5 (topF S0 (R.take i)).C.toList∧Kp (fun j=>j=q5) w1 wr) (fun iv _=>R.length-(Go.RowKit.intOf iv).toNat)
 case atStart=>exact⟨0,Nat.zero_le _,rfl,by simpa [topF]using HZ5.out,zJ _ _⟩
 case round =>
  obtain⟨i,hi,rfl,z5,hg⟩:=hrel
  by_cases hlt:i<R.length
  ·have hm:=HE1.out i hlt wr hg
   have h1:(i:Int)<(R.length:Int):=by omega
   have h0:(0:Int)≤(i:Int):=by omega
   have HI:=hQ9 hlt
   have e4:IntKind.i64.wrap ((i:Int)+1)=((i+1:Nat):Int):=by rw [IntWalk.i64_in _ (by omega)];omega
   have HTS:Hid (topF S0 (R.take (i+1))=if (topF S0 (R.take i)).qv<R[i].qv then R[i] else topF S0 (R.take i)):=hQ9 (by rw [List.take_succ_eq_append_getElem hlt];exact kZ _ _ _)
   generalize topF S0 (R.take i)=U at *
   generalize R[i]=S at *
   have SIS:Hid ((Tryz.prog.info? 111).map (·.size)=some S.C.toList.length):=hQ9 zD
   have SIU:Hid ((Tryz.prog.info? 111).map (·.size)=some U.C.toList.length):=hQ9 zD
   have SIZ:Hid ((Tryz.prog.info? 111).map (·.size)=some S.C.size):=hQ9 zD
   have HON:=hQ9 S.one
   have CRS:=hQ9 (fun W=>zd0 S W)
   have CRU:=hQ9 (fun W=>zd0 U W)
   obtain⟨w3,hw3,ht3,g3,z7⟩:=ko wr S.C rfl
   have HW3:=hQ9 hw3
   have HT3:=hQ9 ht3
   have z5:=z5.grew g3
   have HG3:=hQ9 (zB hg (zj g3))
   obtain⟨q7,hq7⟩:∃ b,wr.heap.size=b:=⟨_,rfl⟩
   have HM5:Hid (∀ y,Grew w3 y→y.rangeAt q5 0 U.C.toList):=hQ9 (fun y g=>(z5.grew g).cell)
   have HM7:Hid (∀ y,Grew w3 y→y.rangeAt q7 0 S.C.toList):=hQ9 (fun y g=>by rw [←hq7];exact(z7.grew g).cell)
   have HZ55:=hQ9 z5
   have HQ7:=hQ9 hq7
   clear hw3 ht3 z7 g3 hg z5 hlt hi hq7
   go_upto_region 5 with (first
    | (with_reducible refine wpList_load_mid rfl 111 (.tmp 16) rfl q (26+i*26) rfl S.C.toList _ hm hut rfl SIS.out ?_;simp only [Array.toArray_toList])
    | (with_reducible refine wpList_store_mid rfl 111 (.tmp 7) (.tmp 17) rfl wr.heap.size 0 S.C rfl rfl HT3.out SIZ.out HON.out ?_;rw [HW3.out];clear HW3 HT3))
   rw [HQ7.out]
   clear hm
   refine zy 6 (fun ix9=>match ix9 with
    | 0=>fun v _=>v=.func (.func 125) #[] #[]
    | 1=>fun v _=>v=.agg S.C
    | 2=>fun v _=>v=.int .i64 S.qv
    | 3=>fun v _=>v=.func (.func 125) #[] #[]
    | 4=>fun v _=>v=.agg U.C
    | 5=>fun v _=>v=.int .i64 U.qv
    | _=>fun _ _=>True) (by kernel_rfl) (by kernel_rfl) ?_ ?_ ?_
   ·intro i v x y h hg
    match i,h with
    | 0,h | 1,h | 2,h | 3,h | 4,h | 5,h=>exact h
    | m+6,_=>trivial
   ·simp only [actOf,tk1,tk0,dr1,dr0,Act.put,si1,st1,st0,Nat.reduceAdd]
    refine⟨?_,?_,?_,?_,?_,?_,trivial⟩
    ·intro vs y hg hd
     dsimp only
     go_wp2_with fail
     exact⟨rfl,_,rfl,zc _,rfl⟩
    ·intro vs y hg hd
     dsimp only
     have hm:=HM7.out y hg
     go_wp2_with(with_reducible refine wpList_load_mid rfl 111 (.tmp 7) rfl q7 0 rfl S.C.toList _ hm hut rfl SIS.out ?_;simp only [Array.toArray_toList])
     exact⟨rfl,_,rfl,zc _,rfl⟩
    ·intro vs y hg hd
     obtain⟨h0,h1,_⟩:=hd
     replace h0:=h0 rfl
     replace h1:=h1 rfl
     dsimp only
     rw [show vs 0=_ from h0,show vs 1=_ from h1]
     go_wp2_with(go_at_call 125;refine(CRS.out y).mono ?_;rintro e z ⟨rfl,gz⟩)
     exact⟨rfl,_,rfl,gz,rfl⟩
    ·intro vs y hg hd
     dsimp only
     go_wp2_with fail
     exact⟨rfl,_,rfl,zc _,rfl⟩
    ·intro vs y hg hd
     dsimp only
     have hm:=HM5.out y hg
     go_wp2_with(with_reducible refine wpList_load_mid rfl 111 (.tmp 5) rfl q5 0 rfl U.C.toList _ hm hut rfl SIU.out ?_;simp only [Array.toArray_toList])
     exact⟨rfl,_,rfl,zc _,rfl⟩
    ·intro vs y hg hd
     obtain⟨h3,h4,_⟩:=hd
     replace h3:=h3 rfl
     replace h4:=h4 rfl
     dsimp only
     rw [show vs 3=_ from h3,show vs 4=_ from h4]
     go_wp2_with(go_at_call 125;refine(CRU.out y).mono ?_;rintro e z ⟨rfl,gz⟩)
     exact⟨rfl,_,rfl,gz,rfl⟩
   ·intro vs w4 hg hJ
    have j0:vs 0=.func (.func 125) #[] #[]:=hJ 0 (by decide)
    have j1:vs 1=.agg S.C:=hJ 1 (by decide)
    have j2:vs 2=.int .i64 S.qv:=hJ 2 (by decide)
    have j3:vs 3=.func (.func 125) #[] #[]:=hJ 3 (by decide)
    have j4:vs 4=.agg U.C:=hJ 4 (by decide)
    have j5:vs 5=.int .i64 U.qv:=hJ 5 (by decide)
    clear hJ
    simp only [actOf,tk1,tk0,dr1,dr0,Act.put,si1,st1,st0,Nat.reduceAdd]
    rw [show vs 2=_ from j2,show vs 5=_ from j5]
    have HG4:=hQ9 (zB HG3.out (zj hg))
    have z5:=HZ55.out.grew hg
    have hm7:=HM7.out w4 hg
    clear hg
    try clear j0 j1 j2 j3 j4 j5
    by_cases hgt:U.qv<S.qv
    ·have e1:decide (U.qv<S.qv)=true:=decide_eq_true hgt
     have HT6:Hid (w4.there q5 0 S.C.size):=hQ9 (z5.thereN 26 rfl)
     have z9:=Ag.set (vs:=S.C.toList) z5 rfl
     have k9:=zn S.C.toList q5 0 w4
     have HZ9:=hQ9 z9
     have HK9:=hQ9 k9
     have HTT:Hid (topF S0 (R.take (i+1))=S):=hQ9 (by rw [HTS.out,if_pos hgt])
     have HG9:Hid (Kp (fun j=>j=q5) w1 (w4.setCells q5 0 S.C.toList)):=hQ9 (zB HG4.out k9)
     clear z9 k9 hgt z5
     go_wp2_with(first
      | (with_reducible refine wpList_load_mid rfl 111 (.tmp 7) rfl q7 0 rfl S.C.toList _ hm7 hut rfl SIS.out ?_;simp only [Array.toArray_toList])
      | (with_reducible refine wpList_store_mid rfl 111 (.tmp 5) (.tmp 25) rfl q5 0 S.C rfl rfl HT6.out SIZ.out HON.out ?_))
     go_roundw
     case rel=>exact⟨i+1,HI.out,by go_num,by rw [HTT.out];exact HZ9.out,HG9.out⟩
     case measure=>have:=HI.out;simp [Go.RowKit.intOf]<;>omega
    ·have e1:decide (U.qv<S.qv)=false:=decide_eq_false hgt
     have HTT:Hid (topF S0 (R.take (i+1))=U):=hQ9 (by rw [HTS.out,if_neg hgt])
     have HZ9:=hQ9 z5
     clear hgt z5 hm7
     go_wp2_with fail
     go_roundw
     case rel=>exact⟨i+1,HI.out,by go_num,by rw [HTT.out];exact HZ9.out,HG4.out⟩
     case measure=>have:=HI.out;simp [Go.RowKit.intOf]<;>omega
  ·obtain rfl:i=R.length:=by omega
   rw [List.take_length]at z5
   have hm5:=z5.cell
   obtain⟨U,hU⟩:∃ U,topF S0 R=U:=⟨_,rfl⟩
   rw [hU]at z5 hm5
   have HU:=hQ9 hU
   clear hU
   have SIU:Hid ((Tryz.prog.info? 111).map (·.size)=some U.C.toList.length):=hQ9 zD
   have SIZ:Hid ((Tryz.prog.info? 111).map (·.size)=some U.C.size):=hQ9 zD
   have HON:=hQ9 U.one
   have z4:=HZ4.out.kp hg (by have:=HQ5.out;omega)
   have HTH:Hid (wr.there w.heap.size 0 U.C.size):=hQ9 (z4.thereN 26 rfl)
   have z9:=Ag.set (vs:=U.C.toList) z4 rfl
   have G9:=zi (o:=0) (b:=w.heap.size) U.C.toList (zO HG1.out hg HG1.out.size (fun i e=>by have e1:i=q5:=e;have:=HQ5.out;omega)) (Nat.le_refl _)
   clear z5 z4 hg
   go_wp2_with(first
    | (with_reducible refine wpList_load_mid rfl 111 (.tmp 5) rfl q5 0 rfl U.C.toList _ hm5 hut rfl SIU.out ?_;simp only [Array.toArray_toList])
    | (with_reducible refine wpList_store_mid rfl 111 (.tmp 4) (.tmp 27) rfl w.heap.size 0 U.C rfl rfl HTH.out SIZ.out HON.out ?_))
   exact bodyPost_ret (zM Tryz.results124 _ _ w.heap.size _ _ rfl z9 hut rfl zD) rfl ⟨by rw [HU.out],G9⟩
theorem qW {K:KP} (hK:K.ok) (u:Int) (A:Option Addr) (cap:Nat) (L:List NW) (hl:L.length≤100000) (w:World) (hS:Std w) (hk:K.at w) (hL:Nws w A L) (hen:(eachL NW.who (L.filter (nfB K u))).length<(2*K.f+1).toNat) :
 Calls Tryz.prog 56 #[.agg K.C,.int .i64 u,.slice A L.length cap] w fun e w'=>e=.returned (.tuple #[.agg ((#[.int .i64 0,.int .u64 0,.slice none 0 0]:Array Value)),.int .i64 8])∧Grew w w':=by
 have huf:=Tryz.underlying46
 have hut:=Tryz.underlying38
 have HCF:Hid ((Tryz.prog.info? 46).map (·.size)=some [Value.int .i64 K.f].length):=hQ9 (by kernel_rfl)
 have zk:=((Ag.new w 49 K.C).grew (zg (zc _) (.cells #[.int .i64 u] 3))).grew (zg (zc _) (.cells ((#[.int .i64 0,.int .u64 0,.slice none 0 0]:Array Value)) 38))
 have zu:=(Ag.new (w.alloc (.cells K.C 49)) 3 #[.int .i64 u]).grew (zg (zc _) (.cells ((#[.int .i64 0,.int .u64 0,.slice none 0 0]:Array Value)) 38))
 have zq:=Ag.new ((w.alloc (.cells K.C 49)).alloc (.cells #[.int .i64 u] 3)) 38 ((#[.int .i64 0,.int .u64 0,.slice none 0 0]:Array Value))
 rw [zl]at zu
 rw [zl,zl]at zq
 have G0:=zg (zg (zg (zc w) (.cells K.C 49)) (.cells #[.int .i64 u] 3)) (.cells ((#[.int .i64 0,.int .u64 0,.slice none 0 0]:Array Value)) 38)
 obtain⟨w1,hw1⟩:∃ v,((w.alloc (.cells K.C 49)).alloc (.cells #[.int .i64 u] 3)).alloc (.cells ((#[.int .i64 0,.int .u64 0,.slice none 0 0]:Array Value)) 38)=v:=⟨_,rfl⟩
 rw [hw1]at zk zu zq G0
 have HW1:=hQ9 hw1
 have CE:=hQ9 (zd1 hK A cap L hl u (w.heap.size+1) w.heap.size w1 (hS.grew G0) (hk.gr G0) (hL.gr G0) (ag_at zu 0 rfl) zk)
 have hf:=hK.f
 have CQ:=hQ9 (fun W=>qq_ok K.f hf W)
 obtain⟨qn,hqn⟩:∃ qn:Nat,2*K.f+1=(qn:Int)∧3≤qn:=⟨(2*K.f+1).toNat,by omega,by omega⟩
 rw [hqn.1]at CQ
 rw [hqn.1,Int.toNat_natCast]at hen
 have hq3:=hqn.2
 obtain⟨E,hE⟩:∃ E,eachL NW.who (L.filter (nfB K u))=E:=⟨_,rfl⟩
 rw [hE]at CE hen
 have HCC:Hid (∀ y,Grew w1 y→y.rangeAt w.heap.size 0 [.int .i64 K.f]):=hQ9 (fun y g=>xB (zk.grew g))
 clear hE hw1 hS hk hL hK hl hf zk zu hqn
 generalize K.f=kf at *
 go_enter Tryz.func56,Tryz.ntmps56
 go_upto_region 1 with fail
 rw [HW1.out]
 clear HW1
 go_wp2_with fail
 refine(CE.out).mono ?_
 rintro e w2 ⟨B,c',rfl,hSp,hc1,hc2,gg⟩
 have hm0:w2.rangeAt w.heap.size 0 [.int .i64 kf]:=HCC.out w2 gg
 have zq:=zq.grew gg
 have G2:=ze G0 gg
 clear CE HCC gg
 go_wp2_with(with_reducible refine wpList_load_mid rfl 46 (.tmp 13) rfl w.heap.size 0 rfl [.int .i64 kf] _ hm0 huf rfl HCF.out ?_)
 refine(CQ.out w2).mono ?_
 rintro e w3 ⟨rfl,gg⟩
 have zq:=zq.grew gg
 have G3:=ze G2 gg
 have hSp:=hSp.gr gg
 clear hm0 G2 gg CQ
 have e1:decide ((qn:Int)<1)=false:=decide_eq_false (by omega)
 have e2:decide (E.length<qn)=true:=decide_eq_true hen
 have HTH:Hid (w3.there (w.heap.size+1+1) 0 ((#[.int .i64 0,.int .u64 0,.slice none 0 0]:Array Value)).size):=hQ9 (zq.thereN 3 rfl)
 have HSI:Hid ((Tryz.prog.info? 38).map (·.size)=some ((#[.int .i64 0,.int .u64 0,.slice none 0 0]:Array Value)).size):=hQ9 zP
 have HON:Hid (((#[.int .i64 0,.int .u64 0,.slice none 0 0]:Array Value)).all (·.oneCell')=true):=hQ9 (by simp [Value.oneCell'])
 have z4:=Ag.set (vs:=((#[.int .i64 0,.int .u64 0,.slice none 0 0]:Array Value)).toList) zq rfl
 have G5:=zi (o:=0) (b:=w.heap.size+1+1) ((#[.int .i64 0,.int .u64 0,.slice none 0 0]:Array Value)).toList G3 (by omega)
 have hbz:=zdy
 have bz:∀ W,(Instr.build 38 #[]).run Tryz.prog W=.ok (.agg ((#[.int .i64 0,.int .u64 0,.slice none 0 0]:Array Value))) W:=fun W=>run_build W 38 _ _ hbz
 clear hbz zq hSp hc1 hc2 hen
 go_wp2_with(with_reducible refine wpList_store_mid rfl 38 (.tmp 6) (.tmp 24) rfl (w.heap.size+1+1) 0 ((#[.int .i64 0,.int .u64 0,.slice none 0 0]:Array Value)) rfl rfl HTH.out HSI.out HON.out ?_)
 exact bodyPost_ret (zT Tryz.results56 _ _ (w.heap.size+1+1) _ _ _ rfl rfl z4 hut rfl zP) rfl ⟨rfl,G5⟩
theorem zi5 (vw qv:Int) (qd:Nat) (QA:Option Addr) (Qn Qk:Nat) (who sw lf:Int) (s:Nat→Nat) (pv:Value) (W:World):(Instr.field 111 (.agg (nwC vw qv qd QA Qn Qk who sw lf s pv)) 2).run Tryz.prog W=.ok (.agg (vqC qv qd QA Qn Qk)) W:=by kernel_rfl
theorem za6 {K:KP} (hK:K.ok) (u:Int) (A:Option Addr) (cap:Nat) (L:List NW) (hl:L.length≤100000) (w:World) (hS:Std w) (hk:K.at w) (hL:Nws w A L) (S0:NW) (R:List NW) (hE:eachL NW.who (L.filter (nfB K u))=S0::R) (hen:(2*K.f+1).toNat≤R.length+1) :
 Calls Tryz.prog 56 #[.agg K.C,.int .i64 u,.slice A L.length cap] w fun e w'=>(∃ B j N,e=.returned (.tuple #[.agg (vqC (topF S0 R).qv (topF S0 R).qd B (topF S0 R).H.length j),.int .i64 0])∧MvV (topF S0 R).H N∧Vps w' B N∧(∀ ad,B=some ad→w.heap.size≤ad.block)∧(∀ S∈N,∀ ad,S.A=some ad→S.l=[]∨w.heap.size≤ad.block))∧Grew w w':=by
 have huf:=Tryz.underlying46
 have hut:=Tryz.underlying38
 have HCF:Hid ((Tryz.prog.info? 46).map (·.size)=some [Value.int .i64 K.f].length):=hQ9 (by kernel_rfl)
 have zk:=((Ag.new w 49 K.C).grew (zg (zc _) (.cells #[.int .i64 u] 3))).grew (zg (zc _) (.cells ((#[.int .i64 0,.int .u64 0,.slice none 0 0]:Array Value)) 38))
 have zu:=(Ag.new (w.alloc (.cells K.C 49)) 3 #[.int .i64 u]).grew (zg (zc _) (.cells ((#[.int .i64 0,.int .u64 0,.slice none 0 0]:Array Value)) 38))
 have zq:=Ag.new ((w.alloc (.cells K.C 49)).alloc (.cells #[.int .i64 u] 3)) 38 ((#[.int .i64 0,.int .u64 0,.slice none 0 0]:Array Value))
 rw [zl]at zu
 rw [zl,zl]at zq
 have G0:=zg (zg (zg (zc w) (.cells K.C 49)) (.cells #[.int .i64 u] 3)) (.cells ((#[.int .i64 0,.int .u64 0,.slice none 0 0]:Array Value)) 38)
 obtain⟨w1,hw1⟩:∃ v,((w.alloc (.cells K.C 49)).alloc (.cells #[.int .i64 u] 3)).alloc (.cells ((#[.int .i64 0,.int .u64 0,.slice none 0 0]:Array Value)) 38)=v:=⟨_,rfl⟩
 rw [hw1]at zk zu zq G0
 have HW1:=hQ9 hw1
 have CE:=hQ9 (zd1 hK A cap L hl u (w.heap.size+1) w.heap.size w1 (hS.grew G0) (hk.gr G0) (hL.gr G0) (ag_at zu 0 rfl) zk)
 have hf:=hK.f
 have CQ:=hQ9 (fun W=>qq_ok K.f hf W)
 obtain⟨qn,hqn⟩:∃ qn:Nat,2*K.f+1=(qn:Int)∧3≤qn:=⟨(2*K.f+1).toNat,by omega,by omega⟩
 rw [hqn.1]at CQ
 rw [hqn.1,Int.toNat_natCast]at hen
 have hq3:=hqn.2
 have HEL:Hid (R.length≤100000):=hQ9 (by
  have h1:(S0::R).length≤100000:=by
   rw [←hE,yG]
   exact Nat.le_trans (xN _ _) (Nat.le_trans (List.length_filter_le _ _) hl)
  simp only [List.length_cons]at h1
  omega)
 rw [hE]at CE
 have HMT:Hid (topF S0 R∈S0::R):=hQ9 (by
  rcases ql R S0 with h | h
  ·rw [h];exact List.mem_cons_self
  ·exact List.mem_cons_of_mem _ h)
 have HCC:Hid (∀ y,Grew w1 y→y.rangeAt w.heap.size 0 [.int .i64 K.f]):=hQ9 (fun y g=>xB (zk.grew g))
 clear hE hw1 hS hk hL hK hl hf zk zu hqn
 generalize K.f=kf at *
 go_enter Tryz.func56,Tryz.ntmps56
 go_upto_region 1 with fail
 rw [HW1.out]
 clear HW1
 go_wp2_with fail
 refine(CE.out).mono ?_
 rintro e w2 ⟨B,c',rfl,hSp,hc1,hc2,gg⟩
 have hm0:w2.rangeAt w.heap.size 0 [.int .i64 kf]:=HCC.out w2 gg
 have zq:=zq.grew gg
 have G2:=ze G0 gg
 clear CE HCC gg
 go_wp2_with(with_reducible refine wpList_load_mid rfl 46 (.tmp 13) rfl w.heap.size 0 rfl [.int .i64 kf] _ hm0 huf rfl HCF.out ?_)
 refine(CQ.out w2).mono ?_
 rintro e w3 ⟨rfl,gg⟩
 have zq:=zq.grew gg
 have G3:=ze G2 gg
 have hSp:=hSp.gr gg
 clear hm0 G2 gg CQ
 have e1:decide ((qn:Int)<1)=false:=decide_eq_false (by omega)
 have e2:decide (R.length+1<qn)=false:=decide_eq_false (by omega)
 have e3:decide ((S0::R).length<qn)=false:=e2
 have e4:decide ((R.length:Int)+1<(qn:Int))=false:=decide_eq_false (by omega)
 have CB:=hQ9 (zlc S0 R B c' HEL.out (by simpa using hc1) w3 hSp.rd)
 have HSP:=hQ9 hSp
 have hT:=hSp.at_ _ HMT.out
 have hTo:=(hSp.ok _ HMT.out).h
 obtain⟨U,hU⟩:∃ U,topF S0 R=U:=⟨_,rfl⟩
 rw [hU]at CB hT hTo
 have HU:=hQ9 hU
 have hfd:∀ W,(Instr.field 111 (.agg U.C) 2).run Tryz.prog W=.ok (.agg (vqC U.qv U.qd U.QA U.H.length U.Qk)) W:=fun W=>zi5 _ _ _ _ _ _ _ _ _ _ _ W
 generalize U.C=gu at *
 have CC:=hQ9 (fun W (g:Grew w3 W)=>zd2 U.qv U.qd U.QA U.Qk U.H hTo W (hT.gr g).q)
 have HQ4:Hid (∀ y,Grew w3 y→w.heap.size+1+1<y.heap.size):=hQ9 (fun y g=>Nat.lt_of_lt_of_le zq.lt g.size)
 clear hSp hc1 hc2 hen hU hT hTo
 go_wp2_with fail
 refine(CB.out).mono ?_
 rintro e w4 ⟨rfl,g4⟩
 clear CB
 go_wp2_with fail
 refine(CC.out w4 g4).mono ?_
 rintro e w5 ⟨B5,j5,N5,rfl,hmv,hvp,-,hb5,hn5,g5⟩
 have zq:=zq.grew (ze g4 g5)
 have GG:=ze G3 (ze g4 g5)
 have h34:=(ze G3 g4).size
 have hzl:=zq.lt
 have hq4:w.heap.size+1+1<w4.heap.size:=HQ4.out w4 g4
 have HTH:Hid (w5.there (w.heap.size+1+1) 0 (vqC U.qv U.qd B5 U.H.length j5).size):=hQ9 (zq.thereN 3 rfl)
 have HSI:Hid ((Tryz.prog.info? 38).map (·.size)=some (vqC U.qv U.qd B5 U.H.length j5).size):=hQ9 zP
 have HON:=hQ9 (yo U.qv U.qd B5 U.H.length j5)
 have z9:=Ag.set (vs:=(vqC U.qv U.qd B5 U.H.length j5).toList) zq rfl
 have k9:=zn (vqC U.qv U.qd B5 U.H.length j5).toList (w.heap.size+1+1) 0 w5
 have v9:=hvp.kpx k9 (fun ad e (h:ad.block=w.heap.size+1+1)=>by have:=hb5 ad e;omega) (fun S hS ad e=>(hn5 S hS ad e).imp id (fun h1 (h:ad.block=w.heap.size+1+1)=>by omega))
 have G9:=zi (o:=0) (b:=w.heap.size+1+1) (vqC U.qv U.qd B5 U.H.length j5).toList GG (by omega)
 have HFB:Hid (∀ ad,B5=some ad→w.heap.size≤ad.block):=hQ9 (fun ad e=>by have:=hb5 ad e;omega)
 have HFN:Hid (∀ S∈N5,∀ ad,S.A=some ad→S.l=[]∨w.heap.size≤ad.block):=hQ9 (fun S hS ad e=>(hn5 S hS ad e).imp id (fun h1=>by omega))
 have HMV:=hQ9 hmv
 clear hmv hvp hb5 hn5 g5 zq GG k9 hfd CC h34 hzl hq4
 go_wp2_with(with_reducible refine wpList_store_mid rfl 38 (.tmp 6) (.tmp 28) rfl (w.heap.size+1+1) 0 (vqC U.qv U.qd B5 U.H.length j5) rfl rfl HTH.out HSI.out HON.out ?_)
 refine bodyPost_ret (zT Tryz.results56 _ _ (w.heap.size+1+1) _ _ _ rfl rfl z9 hut rfl zP) rfl ⟨?_,G9⟩
 rw [HU.out]
 exact⟨B5,j5,N5,rfl,HMV.out,v9,HFB.out,HFN.out⟩
theorem zhc (vw qv:Int) (qd:Nat) (B:Option Addr) (n j:Nat) (who:Int):Tryz.prog.built 111 [(0,.int .i64 vw),(1,.int .i64 who),(2,.agg (vqC qv qd B n j))]=some (nwC vw qv qd B n j who 0 0 (fun _=>0) (.slice none 0 0)):=by kernel_rfl
theorem zd3 (vw qv:Int) (qd:Nat) (B:Option Addr) (n j:Nat) (who a1 a2:Int) (s:Nat→Nat) (pv:Value):(nwC vw qv qd B n j who a1 a2 s pv).toList=[.int .i64 vw,.int .i64 who,.int .i64 qv,.int .u64 (qd:Nat),.slice B n j]++(sgC a1 a2 s pv).toList:=rfl
theorem zhd (b p:Nat) (kw sd:Int) (l:List Nat) (nx rs:Nat) (hl:l.length≤256) (hn:nx≤l.length) (hr:rs≤l.length) (hkk:leavesOk l.length=true) (hbb:∀ n∈l,n<18446744073709551616) (hsd:U64 sd) (hpp:∀ m,m<l.length→(pathN l m).length≤8) (who:Int) (hw:in64 who) (vw:Int) (hv:in64 vw) (qv:Int) (hqv:in64 qv) (qd:Nat) (hqd:qd<18446744073709551616) (QA:Option Addr) (Qk:Nat) (H:List VP) (hH:H.length≤100000) (he1:nx<l.length) (he2:nx<rs) (w:World) (hS:Std w) (hVp:Vps w QA H) (h:KyAt w b p kw sd l nx rs) :
 Calls Tryz.prog 66 #[.pointer (some ⟨b,0,none⟩),.int .i64 who,.int .i64 vw,.agg (vqC qv qd QA H.length Qk)] w fun e w'=>(∃ A c B j N,e=.returned (.tuple #[.agg (nwC vw qv qd B H.length j who kw (nx:Int) (signF (secN sd (nx:Int)) (nwD vw qv qd who)) (.slice A (pathN l nx).length c)),.int .i64 0])∧Rd w' w'.heap.size A (u64L (pathN l nx))∧(∀ ad,A=some ad→w.heap.size≤ad.block)∧MvV H N∧Vps w' B N∧(∀ ad,B=some ad→w.heap.size≤ad.block)∧(∀ S∈N,∀ ad,S.A=some ad→S.l=[]∨w.heap.size≤ad.block))∧Tn b w w'∧KyAt w' b p kw sd l (nx+1) rs:=by
 have hut:=Tryz.underlying111
 have hus:=Tryz.underlying67
 have huq:=Tryz.underlying38
 have z0:=(Ag.new w 38 (vqC qv qd QA H.length Qk)).grew (zg (zc _) (.cells (#[.int .i64 0,.int .i64 0,.int .i64 0,.int .u64 0,.slice none 0 0,.int .i64 0,.int .i64 0,.int .u64 0,.int .u64 0,.int .u64 0,.int .u64 0,.int .u64 0,.int .u64 0,.int .u64 0,.int .u64 0,.int .u64 0,.int .u64 0,.int .u64 0,.int .u64 0,.int .u64 0,.int .u64 0,.int .u64 0,.int .u64 0,.int .u64 0,.int .u64 0,.slice none 0 0]) 111))
 have z8:=Ag.new (w.alloc (.cells (vqC qv qd QA H.length Qk) 38)) 111 (#[.int .i64 0,.int .i64 0,.int .i64 0,.int .u64 0,.slice none 0 0,.int .i64 0,.int .i64 0,.int .u64 0,.int .u64 0,.int .u64 0,.int .u64 0,.int .u64 0,.int .u64 0,.int .u64 0,.int .u64 0,.int .u64 0,.int .u64 0,.int .u64 0,.int .u64 0,.int .u64 0,.int .u64 0,.int .u64 0,.int .u64 0,.int .u64 0,.int .u64 0,.slice none 0 0])
 rw [zl]at z8
 have g0:=zg (zg (zc w) (.cells (vqC qv qd QA H.length Qk) 38)) (.cells (#[.int .i64 0,.int .i64 0,.int .i64 0,.int .u64 0,.slice none 0 0,.int .i64 0,.int .i64 0,.int .u64 0,.int .u64 0,.int .u64 0,.int .u64 0,.int .u64 0,.int .u64 0,.int .u64 0,.int .u64 0,.int .u64 0,.int .u64 0,.int .u64 0,.int .u64 0,.int .u64 0,.int .u64 0,.int .u64 0,.int .u64 0,.int .u64 0,.int .u64 0,.slice none 0 0]) 111)
 have hsz:((w.alloc (.cells (vqC qv qd QA H.length Qk) 38)).alloc (.cells (#[.int .i64 0,.int .i64 0,.int .i64 0,.int .u64 0,.slice none 0 0,.int .i64 0,.int .i64 0,.int .u64 0,.int .u64 0,.int .u64 0,.int .u64 0,.int .u64 0,.int .u64 0,.int .u64 0,.int .u64 0,.int .u64 0,.int .u64 0,.int .u64 0,.int .u64 0,.int .u64 0,.int .u64 0,.int .u64 0,.int .u64 0,.int .u64 0,.int .u64 0,.slice none 0 0]) 111)).heap.size=w.heap.size+2:=by simp
 have CQ:=hQ9 (zd2 qv qd QA Qk H hH _ (hVp.gr g0))
 have SIQ:Hid ((Tryz.prog.info? 38).map (·.size)=some (vqC qv qd QA H.length Qk).toList.length):=hQ9 zP
 have CD:=hQ9 (fun B j s A c k W hW=>xZ vw qv qd B H.length j who 0 0 s A c k hqd hqv hw hv W hW)
 have hdl:=qT vw qv qd who
 have CS:=hQ9 (fun W hW=>kU b p kw sd l nx rs hl hn hr (nwD vw qv qd who:Nat) hkk hbb hsd ⟨by omega,by omega⟩ W hW)
 have hpl8:=zae l nx rs hpp
 obtain⟨d,hd⟩:∃ d,nwD vw qv qd who=d:=⟨_,rfl⟩
 rw [hd]at CD
 simp only [hd]at CS
 obtain⟨a1,ha1⟩:∃ v,soW l nx rs kw=v:=⟨_,rfl⟩
 obtain⟨a2,ha2⟩:∃ v,soL l nx rs=v:=⟨_,rfl⟩
 obtain⟨s,hs⟩:∃ v,soS l nx rs sd (d:Int)=v:=⟨_,rfl⟩
 obtain⟨pl,hp1⟩:∃ v,soP l nx rs=v:=⟨_,rfl⟩
 obtain⟨er,he3⟩:∃ v,soE l nx rs=v:=⟨_,rfl⟩
 obtain⟨n2,hn2⟩:∃ v,soN l nx rs=v:=⟨_,rfl⟩
 simp only [ha1,ha2,hs,hp1,he3,hn2]at CS
 rw [hp1]at hpl8
 have hkey:soW l nx rs kw=kw∧soL l nx rs=(nx:Int)∧soS l nx rs sd (d:Int)=signF (secN sd (nx:Int)) d∧soP l nx rs=pathN l nx∧soE l nx rs=0∧soN l nx rs=nx+1:=by
  have q1:¬l.length≤nx:=by omega
  have q2:¬rs≤nx:=by omega
  unfold soW soL soS soP soE soN
  simp only [if_neg q1,if_neg q2,Int.toNat_natCast,and_self]
 have HA1:Hid (kw=a1):=hQ9 (hkey.1.symm.trans ha1)
 have HA2:Hid ((nx:Int)=a2):=hQ9 (hkey.2.1.symm.trans ha2)
 have HSS:Hid (signF (secN sd (nx:Int)) d=s):=hQ9 (hkey.2.2.1.symm.trans hs)
 have HP1:Hid (pathN l nx=pl):=hQ9 (hkey.2.2.2.1.symm.trans hp1)
 have hne:(er != 0)=false:=by rw [←he3,hkey.2.2.2.2.1];rfl
 have HN2:Hid (nx+1=n2):=hQ9 (hkey.2.2.2.2.2.symm.trans hn2)
 have HDD:=hQ9 hd
 have HPW:Hid (p<w.heap.size):=hQ9 h.pub.lt
 clear ha1 ha2 hs hp1 he3 hn2 hkey
 have hbw:b<w.heap.size:=h.key.lt
 have HS:=hQ9 hS
 have K1:=h.grew g0
 clear hS h hkk hbb hsd hpp hd hdl hqd hw hv hqv hVp hH
 obtain⟨w0,hw0⟩:∃ v,(w.alloc (.cells (vqC qv qd QA H.length Qk) 38)).alloc (.cells (#[.int .i64 0,.int .i64 0,.int .i64 0,.int .u64 0,.slice none 0 0,.int .i64 0,.int .i64 0,.int .u64 0,.int .u64 0,.int .u64 0,.int .u64 0,.int .u64 0,.int .u64 0,.int .u64 0,.int .u64 0,.int .u64 0,.int .u64 0,.int .u64 0,.int .u64 0,.int .u64 0,.int .u64 0,.int .u64 0,.int .u64 0,.int .u64 0,.int .u64 0,.slice none 0 0]) 111)=v:=⟨_,rfl⟩
 rw [hw0]at z0 z8 g0 hsz CQ K1
 have HW0:=hQ9 hw0
 have hm0:=z0.cell
 obtain⟨gq,hgq⟩:∃ g,vqC qv qd QA H.length Qk=g:=⟨_,rfl⟩
 rw [hgq]at hm0 SIQ CQ HW0 ⊢
 clear hw0 z0 hgq
 go_enter Tryz.func66,Tryz.ntmps66
 go_upto_region 1 with fail
 rw [HW0.out]
 clear HW0
 go_wp2_with(with_reducible refine wpList_load_mid rfl 38 (.tmp 7) rfl w.heap.size 0 rfl gq.toList _ hm0 huq rfl SIQ.out ?_;simp only [Array.toArray_toList])
 refine(CQ.out).mono ?_
 rintro e w1 ⟨B,j,N,rfl,hmv,hvp,-,hb,hn9,g1⟩
 have K1:=K1.grew g1
 have z8:=z8.grew g1
 have G1:=ze g0 g1
 have hs1:w.heap.size+2≤w1.heap.size:=by have:=g1.size;omega
 have HBZ:Hid (∀ ad,B=some ad→w.heap.size+2≤ad.block):=hQ9 (fun ad e=>by have:=hb ad e;omega)
 have HNZ:Hid (∀ S∈N,∀ ad,S.A=some ad→S.l=[]∨w.heap.size+2≤ad.block):=hQ9 (fun S hS ad e=>(hn9 S hS ad e).imp id (fun h1=>by omega))
 have HBL:=hQ9 hvp.lt
 have HNL:Hid (∀ S∈N,∀ ad,S.A=some ad→S.l=[]∨ad.block<w1.heap.size):=hQ9 (fun S hS=>zR (hvp.at_ S hS))
 have HMV:=hQ9 hmv
 have HBU0:=hQ9 (zhc vw qv qd B H.length j who)
 have CDB:=hQ9 (CD.out B j (fun _=>0) none 0 [])
 obtain⟨gn,hgn⟩:∃ g,nwC vw qv qd B H.length j who 0 0 (fun _=>0) (.slice none 0 0)=g:=⟨_,rfl⟩
 obtain⟨w2,hw2,ht2,g2,z2⟩:=zW w1 111 (#[.int .i64 0,.int .i64 0,.int .i64 0,.int .u64 0,.slice none 0 0,.int .i64 0,.int .i64 0,.int .u64 0,.int .u64 0,.int .u64 0,.int .u64 0,.int .u64 0,.int .u64 0,.int .u64 0,.int .u64 0,.int .u64 0,.int .u64 0,.int .u64 0,.int .u64 0,.int .u64 0,.int .u64 0,.int .u64 0,.int .u64 0,.int .u64 0,.int .u64 0,.slice none 0 0]) gn (by rw [←hgn];rfl)
 have HW2:=hQ9 hw2
 have HT2:=hQ9 ht2
 have SN:Hid ((Tryz.prog.info? 111).map (·.size)=some gn.size):=hQ9 (by rw [←hgn];exact zD)
 have SNL:Hid ((Tryz.prog.info? 111).map (·.size)=some gn.toList.length):=hQ9 (by rw [←hgn];exact zD)
 have HON:Hid (gn.all (·.oneCell')=true):=hQ9 (by rw [←hgn];exact jt _ _ _ _ _ _ _ _ _ _ _ _ _)
 have HGN:Hid (gn.toList=[.int .i64 vw,.int .i64 who,.int .i64 qv,.int .u64 (qd:Nat),.slice B H.length j]++(sgC 0 0 (fun _=>0) (.slice none 0 0)).toList):=hQ9 (by rw [←hgn];exact zd3 _ _ _ _ _ _ _ _ _ _ _)
 rw [hgn]at HBU0
 have CDG:Hid (∀ W,Std W→Calls Tryz.prog 52 #[.agg gn] W fun e w'=>e=.returned (.int .u64 (d:Nat))∧Grew W w'):=hQ9 (fun W hW=>by
  have:=CDB.out W hW
  rw [show nwC vw qv qd B H.length j who 0 0 (fun _=>0) (.slice none ([]:List Nat).length 0)=gn from hgn]at this
  exact this)
 have hm2:=z2.cell
 have K2:=K1.grew g2
 have z8:=z8.grew g2
 have hvp:=hvp.gr g2
 have G2:=ze G1 g2
 clear hw2 ht2 hmv hb hn9 hgn CDB CD CQ hm0 K1
 go_wp2_with(first
  | (with_reducible refine zC rfl 111 #[(0,.tmp 13),(1,.tmp 14),(2,.tmp 16)] rfl gn ?_ ?_;· simpa [Act.eval,Act.put]using HBU0.out)
  | (with_reducible refine wpList_store_mid rfl 111 (.tmp 10) (.tmp 17) rfl w1.heap.size 0 gn rfl rfl HT2.out SN.out HON.out ?_;rw [HW2.out];clear HW2 HT2)
  | (with_reducible refine wpList_load_mid rfl 111 (.tmp 10) rfl w1.heap.size 0 rfl gn.toList _ hm2 hut rfl SNL.out ?_;simp only [Array.toArray_toList]))
 refine(CDG.out _ (HS.out.grew G2)).mono ?_
 rintro e w3 ⟨rfl,g3⟩
 have z2:=z2.grew g3
 have z8:=z8.grew g3
 have K3:=K2.grew g3
 have hvp:=hvp.gr g3
 have G3:=ze G2 g3
 clear hm2 K2 g2 CDG HBU0
 go_wp2_with fail
 refine(CS.out w3 K3).mono ?_
 rintro e w4 ⟨⟨A,c,rfl,r4,hA⟩,t4,K4⟩
 have hw13:w1.heap.size<w3.heap.size:=z2.lt
 have z2:=z2.kp (kp_tn t4) (show ¬w1.heap.size=b by omega)
 have z8:=z8.kp (kp_tn t4) (show ¬w.heap.size+1=b by omega)
 have hvp:=hvp.kpy (kp_tn t4) (fun ad e=>.inr (fun(h2:ad.block=b)=>by have:=HBZ.out ad e;omega)) (fun S hS ad e=>(HNZ.out S hS ad e).imp id (fun h1 (h2:ad.block=b)=>by omega))
 have T4:Tn b w w4:=tn_kp (x9 G3) (kp_tn t4) (fun i e=>.inl e)
 have HFR:Hid (∀ ad,A=some ad→w1.heap.size<ad.block):=hQ9 (fun ad e=>by have:=hA ad e;omega)
 have hw14:w1.heap.size<w4.heap.size:=z2.lt
 clear K3 G3 t4 hA G2 G1 g0 g1 g3 CS
 obtain⟨g5,hg5⟩:∃ g,sgC a1 a2 s (.slice A pl.length c)=g:=⟨_,rfl⟩
 obtain⟨w5,hw5,ht5,gr5,z5⟩:=zW w4 67 (zS21) g5 (by rw [←hg5];rfl)
 have HW5:=hQ9 hw5
 have HT5:=hQ9 ht5
 have SG1:Hid ((Tryz.prog.info? 67).map (·.size)=some g5.size):=hQ9 (by rw [←hg5];exact zL)
 have SG2:Hid ((Tryz.prog.info? 67).map (·.size)=some g5.toList.length):=hQ9 (by rw [←hg5];exact zL)
 have HO5:Hid (g5.all (·.oneCell')=true):=hQ9 (by rw [←hg5];exact yL _ _ _ _ _ _)
 have hl5:g5.toList.length=21:=by rw [←hg5];rfl
 have hs5:g5.size=21:=by rw [←hg5];rfl
 have hm5:=z5.cell
 have z2:=z2.grew gr5
 have z8:=z8.grew gr5
 have K5:=K4.grew gr5
 have hvp:=hvp.gr gr5
 have r5:=r4.gr gr5
 have T5:Tn b w w5:=tn_kp T4 (zj (S:=fun _=>False) gr5) (fun i e=>e.elim)
 -- the signature into the new view
 rw [HGN.out]at z2
 have HT6:Hid (w5.there w1.heap.size 5 g5.size):=hQ9 (fun i hi=>by
  have:=z2.there (5+i) (by rw [hs5]at hi;show 5+i<26;omega)
  simpa using this)
 have z6:=Ag.setTail (pre:=[.int .i64 vw,.int .i64 who,.int .i64 qv,.int .u64 (qd:Nat),.slice B H.length j]) (vs:=g5.toList) z2 (by rw [hl5];rfl)
 rw [show([.int .i64 vw,.int .i64 who,.int .i64 qv,.int .u64 (qd:Nat),.slice B H.length j]:List Value).length=5 from rfl]at z6
 have k6:=zn g5.toList w1.heap.size 5 w5
 have y8:=z8.kp k6 (show ¬w.heap.size+1=w1.heap.size by omega)
 have K6:=K5.kp k6 (by show ¬b=w1.heap.size;omega) (by show ¬p=w1.heap.size;have:=HPW.out;omega)
 have v6:=hvp.kpy k6 (fun ad e=>(HBL.out ad e).imp (fun h=>by have:=HMV.out.len;exact h) (fun h1 (h2:ad.block=w1.heap.size)=>by omega)) (fun S hS ad e=>(HNL.out S hS ad e).imp id (fun h1 (h2:ad.block=w1.heap.size)=>by omega))
 have r6:=(r5.kp k6 (Nat.le_refl _) (fun ad e1 _ (e3:ad.block=w1.heap.size)=>by have:=HFR.out ad e1;omega)).more k6.size
 have T6:Tn b w (w5.setCells w1.heap.size 5 g5.toList):=tn_kp T5 k6 (fun i (e:i=w1.heap.size)=>.inr (by omega))
 obtain⟨w6,hw6⟩:∃ v,w5.setCells w1.heap.size 5 g5.toList=v:=⟨_,rfl⟩
 rw [hw6]at z6 y8 K6 v6 r6 T6
 have HW6:=hQ9 hw6
 obtain⟨g9,hg9⟩:∃ g,nwC vw qv qd B H.length j who a1 a2 s (.slice A pl.length c)=g:=⟨_,rfl⟩
 have HG9:=hQ9 hg9
 have z6:Ag w6 w1.heap.size g9.toList:=by
  rw [←hg9,zd3,hg5]
  exact z6
 have S9:Hid ((Tryz.prog.info? 111).map (·.size)=some g9.size):=hQ9 (by rw [←hg9];exact zD)
 have S9L:Hid ((Tryz.prog.info? 111).map (·.size)=some g9.toList.length):=hQ9 (by rw [←hg9];exact zD)
 have HO9:Hid (g9.all (·.oneCell')=true):=hQ9 (by rw [←hg9];exact jt _ _ _ _ _ _ _ _ _ _ _ _ _)
 have hs9:g9.size=26:=by rw [←hg9];rfl
 have hm6:=z6.cell
 have HT9:Hid (w6.there (w.heap.size+1) 0 g9.size):=hQ9 (by rw [hs9];exact y8.thereN 26 rfl)
 have z9:=Ag.set (vs:=g9.toList) y8 (by rw [Array.length_toList,hs9];rfl)
 have k9:=zn g9.toList (w.heap.size+1) 0 w6
 have KK:=K6.kp k9 (by show ¬b=w.heap.size+1;omega) (by show ¬p=w.heap.size+1;have:=HPW.out;omega)
 have TT:Tn b w (w6.setCells (w.heap.size+1) 0 g9.toList):=tn_kp T6 k9 (fun i (e:i=w.heap.size+1)=>.inr (by omega))
 have RR:=(r6.kp k9 (Nat.le_refl _) (fun ad e1 _ (e3:ad.block=w.heap.size+1)=>by have:=HFR.out ad e1;omega)).more k9.size
 have VV:=v6.kpy k9 (fun ad e=>.inr (fun(h2:ad.block=w.heap.size+1)=>by have:=HBZ.out ad e;omega)) (fun S hS ad e=>(HNZ.out S hS ad e).imp id (fun h1 (h2:ad.block=w.heap.size+1)=>by omega))
 have HFA:Hid (∀ ad,A=some ad→w.heap.size≤ad.block):=hQ9 (fun ad e=>by have:=HFR.out ad e;omega)
 have HFB:Hid (∀ ad,B=some ad→w.heap.size≤ad.block):=hQ9 (fun ad e=>by have:=HBZ.out ad e;omega)
 have HFN:Hid (∀ S∈N,∀ ad,S.A=some ad→S.l=[]∨w.heap.size≤ad.block):=hQ9 (fun S hS ad e=>(HNZ.out S hS ad e).imp id (fun h1=>by omega))
 rw [hg5]
 clear hw5 ht5 hg5 hw6 hg9 hl5 hs5 hs9 z2 z8 K5 hvp r5 T5 k6 y8 K6 v6 r6 T6 z6 k9 K4 r4 T4 z5 gr5
 go_wp2_with(first
  | (with_reducible refine wpList_store_mid rfl 67 (.tmp 11) (.tmp 23) rfl w4.heap.size 0 g5 rfl rfl HT5.out SG1.out HO5.out ?_;rw [HW5.out];clear HW5 HT5)
  | (with_reducible refine wpList_load_mid rfl 67 (.tmp 11) rfl w4.heap.size 0 rfl g5.toList _ hm5 hus rfl SG2.out ?_;simp only [Array.toArray_toList])
  | (with_reducible refine wpList_store_mid rfl 67 (.tmp 30) (.tmp 29) rfl w1.heap.size 5 g5 rfl rfl HT6.out SG1.out HO5.out ?_;rw [HW6.out];clear HW6 HT6)
  | (with_reducible refine wpList_load_mid rfl 111 (.tmp 10) rfl w1.heap.size 0 rfl g9.toList _ hm6 hut rfl S9L.out ?_;simp only [Array.toArray_toList])
  | (with_reducible refine wpList_store_mid rfl 111 (.tmp 8) (.tmp 31) rfl (w.heap.size+1) 0 g9 rfl rfl HT9.out S9.out HO9.out ?_))
 exact bodyPost_ret (zT Tryz.results66 _ _ (w.heap.size+1) _ _ _ rfl rfl z9 hut rfl S9L.out) rfl ⟨⟨A,c,B,j,N,by show Ending.returned (.tuple #[.agg g9.toList.toArray,.int .i64 0])=_;rw [Array.toArray_toList,←HG9.out,HDD.out,HSS.out,HP1.out,HA2.out,HA1.out],by rw [HP1.out];exact RR,HFA.out,HMV.out,VV,HFB.out,HFN.out⟩,TT,by rw [HN2.out];exact KK⟩
theorem MvV.cons {L M:List VP} (h:MvV L M) (S:VP) (A:Option Addr) (c:Nat):MvV (S::L) (S.mv A c::M) :=
 ⟨by simp [h.len],fun k h1 h2=>by
  cases k with
  | zero=>exact⟨A,c,rfl⟩
  | succ k=>exact h.each k (by simpa using h1) (by simpa using h2)⟩
theorem MvV.uncons {L M:List VP} {S T:VP} (h:MvV (S::L) (T::M)):(∃ A c,T=S.mv A c)∧MvV L M :=
 ⟨h.each 0 (by simp) (by simp),by have:=h.len;simpa using this,fun k h1 h2=>h.each (k+1) (by simpa using h1) (by simpa using h2)⟩
theorem MvV.take {L M:List VP} (h:MvV L M) (n:Nat):MvV (L.take n) (M.take n) :=
 ⟨by simp [h.len],fun k h1 h2=>by
  rw [List.getElem_take,List.getElem_take]
  exact h.each k (by rw [List.length_take]at h1;omega) (by rw [List.length_take]at h2;omega)⟩
def KyP (p:Nat→Nat):Nat→Prop:=fun j=>∃ i,i<4∧j=p i+1
section
variable {seed : Int} {h : Nat} {p nx nx' : Nat → Nat} {qk : Nat} {lad : Addr} {RA : Option Addr} {Rc : Nat} {w0 : World} {B0 : Nat} {w w' : World}
theorem KBase.keys (k:KBase seed h p nx qk lad RA Rc w0 B0 w) (q:Kp (KyP p) w w') (hk:keysN seed h p nx' w'):KBase seed h p nx' qk lad RA Rc w0 B0 w' where
 ks:=hk
 kc:=k.kc.kp q (fun⟨i,hi,h⟩=>k.qn i hi h)
 ld:=fun j hj=>(World.cell?_of_block (by rw [zv];exact q.block lad.block (by have:=k.lb;have:=k.sz;omega) (fun⟨i,hi,h⟩=>k.ln i hi h))).trans (k.ld j hj)
 rR:=(k.rR.kp q (Nat.le_refl _) (fun ad e _ ⟨i,hi,h⟩=>k.rn i hi ad e h)).more q.size
 gr:=zO k.gr q k.gr.size (fun j ⟨i,hi,hj⟩=>by have:=k.lo i hi;omega)
 sz:=by have:=k.sz;have:=q.size;omega
 b0:=k.b0
 lo:=k.lo
 qb:=k.qb
 qn:=k.qn
 lb:=k.lb
 ln:=k.ln
 rb:=k.rb
 rn:=k.rn
 ap:=k.ap
theorem KBase.far (k:KBase seed h p nx qk lad RA Rc w0 B0 w) {j:Nat} (hj:B0≤j):¬KyP p j:=fun⟨i,hi,e⟩=>by have:=k.lo i hi;omega
theorem zi6 (k:KBase seed h p nx qk lad RA Rc w0 B0 w) (hS:Std w0) (Lc:Nat) (hh:h≤5) (hnx:∀ i,i<3→nx i<2^h) (vw qv:Int) (qb:Nat) (QA:Option Addr) (Q:List VP) (qc:Nat) (lo hi:Int) (hlo:0≤lo) (hlh:lo<hi) (hhi:hi≤1099511627776) :
 Calls Tryz.prog 44 #[.slice (some lad) 4 Lc,.int .i64 vw,.agg (vqC qv qb QA Q.length qc),.int .i64 lo,.int .i64 hi] w fun e w' =>
  (∃ BA bc L,e=.returned (.tuple #[.agg (⟨vw,qb,qv,qb,QA,Q,qc,lo,hi,BA,L,bc⟩:BK).C,.bool true])∧EmL seed h nx lo hi L 3∧(∀ y,Kp (KyP p) w' y→Rps y BA L)∧3≤bc)∧Kp (KyP p) w w'∧KBase seed h p (nxt nx 3) qk lad RA Rc w0 B0 w' :=
 (zla seed h (hQ9 hh) nx (hQ9 hnx) vw qv qb QA Q qc lo hi (hQ9 hlo) (hQ9 hlh) (hQ9 hhi) w0 hS p lad Lc w k.gr k.ks k.ap (fun i hi=>(k.lo i hi).1) k.ld k.ln).mono fun e w' ⟨⟨BA,bc,L,h1,h2,h3,h4,h5,h6⟩,k1,k2⟩ =>
  ⟨⟨BA,bc,L,h1,h2,fun y ky=>h3.kpx ky (fun ad e=>k.far (by have:=h4 ad e;have:=k.sz;omega)) (fun S hS ad e=>(h5 S hS ad e).imp id (fun h7=>k.far (by have:=k.sz;omega))),h6⟩,k1,k.keys k1 k2⟩
theorem zfh (k:KBase seed h p nx qk lad RA Rc w0 B0 w) (hS:Std w0) (Lc:Nat) (hh:h≤5) (hnx:∀ i,1≤i→i<4→nx i<2^h) (b:BK) (hbo:b.ok) (hvw:vwB b.vw=true) (D:Nat) (HDE:bkD b=D) (hba:∀ y,Kp (KyP p) w y→b.at y) :
 Calls Tryz.prog 45 #[.slice (some lad) 4 Lc,.agg (kyS 1 RA 4 Rc (h:Int)),.agg b.C] w fun e w' =>
  (∃ A c N,e=.returned (.tuple #[.agg (vqC b.vw D A 3 c),.bool true])∧MvV [vpK seed h (nx 1) b.vw D 1 none 0,vpK seed h (nx 2) b.vw D 2 none 0,vpK seed h (nx 3) b.vw D 3 none 0] N∧(∀ y,Kp (KyP p) w' y→Vps y A N)∧3≤c)∧Kp (KyP p) w w'∧KBase seed h p (nxd nx 3) qk lad RA Rc w0 B0 w' :=
 (zha seed h (hQ9 hh) nx (hQ9 hnx) b (hQ9 hbo) (hQ9 hvw) D (hQ9 HDE) w0 hS p lad Lc RA Rc w k.gr k.ks k.ap (fun i hi=>(k.lo i hi).1) k.ld k.ln k.rn k.rR hba).mono fun e w' ⟨⟨A,c,N,h1,h2,h3,h4,h5,h6⟩,k1,k2⟩ =>
  ⟨⟨A,c,N,h1,h2,fun y ky=>h3.kpx ky (fun ad e=>k.far (by have:=h4 ad e;have:=k.sz;omega)) (fun S hS ad e=>(h5 S hS ad e).imp id (fun h7=>k.far (by have:=k.sz;omega))),h6⟩,k1,k.keys k1 k2⟩
end
section
variable (seed : Int) (h : Nat) (RA : Option Addr) (Rc : Nat) (vw : Int) (DA : Nat) (QA : Option Addr) (N : List VP) (qc : Nat) (lo hi : Int) (BB : Option Addr) (L : List RP) (bd : Nat)
end
end Go.Proofs.YtidjnnnigcmdpaaGreatDoor
