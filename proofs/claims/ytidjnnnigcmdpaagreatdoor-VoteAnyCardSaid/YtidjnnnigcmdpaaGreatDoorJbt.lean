/- folkmootlaw16.Empty (mkema.py). -/
import Derived.Test.YtidjnnnigcmdpaaGreatDoorJzz
import Derived.Test.YtidjnnnigcmdpaaGreatDoorJbs
import Derived.Test.YtidjnnnigcmdpaaGreatDoorJbo
import Derived.Test.YtidjnnnigcmdpaaGreatDoorJbn
import Derived.Test.YtidjnnnigcmdpaaGreatDoorJbq
import Derived.Deep.Cut
import Derived.Test.YtidjnnnigcmdpaaGreatDoorJak
import Derived.Test.YtidjnnnigcmdpaaGreatDoorJbb
import Derived.Laws.MakeOwn
import Derived.Test.YtidjnnnigcmdpaaGreatDoorJbr
import Derived.Test.YtidjnnnigcmdpaaGreatDoorJbm
import Derived.Test.YtidjnnnigcmdpaaGreatDoorJab
set_option maxHeartbeats 8000000
set_option maxRecDepth 100000
set_option linter.unusedSimpArgs false
set_option linter.unusedVariables false
set_option linter.unnecessarySimpa false
namespace Go.Proofs.YtidjnnnigcmdpaaGreatDoor
open Go.RowKit
noncomputable def rpK (seed:Int) (h m:Nat) (lo hi:Int) (i:Nat) (CA:Option Addr) (ck:Nat) (A:Option Addr) (c:Nat):RP:=⟨i,lo,hi,CA,ck,i,m,signF (secN (sdI seed i) (m:Int)) (rpD (i:Int) lo hi),A,c,pathN (ksL seed h i) m⟩
theorem rpK_ok (seed:Int) (h m:Nat) (hh:h≤4) (hm:m<2^h) (lo hi:Int) (hlo:in64 lo) (hhi:in64 hi) (i:Nat) (hi4:i<4) (CA:Option Addr) (ck:Nat) (A:Option Addr) (c:Nat):(rpK seed h m lo hi i CA ck A c).ok:=by
 have hp:=pow5 h hh
 refine⟨⟨by show _≤(i:Int);omega,by show(i:Int)≤_;omega⟩,hlo,hhi,⟨by show _≤(i:Int);omega,by show(i:Int)≤_;omega⟩,⟨by show _≤(m:Int);omega,by show(m:Int)≤_;omega⟩,fun k _=>za5 _ _ _ (jf _ _ _),?_,(show ∀ x∈pathN (ksL seed h i) m,x<18446744073709551616 from za7 _ _ (xj _ _))⟩
 show(pathN (ksL seed h i) m).length≤1000
 unfold ksL
 rw [kx _ h (by omega) m hm];omega
def keysN (seed:Int) (h:Nat) (p nx:Nat→Nat) (w:World):Prop:=∀ i,i<4→KyAt w (p i+1) (p i) (i:Int) (sdI seed i) (ksL seed h i) (nx i) (2^h)
theorem keysN.grew {seed:Int} {h:Nat} {p nx:Nat→Nat} {w w':World} (k:keysN seed h p nx w) (g:Grew w w'):keysN seed h p nx w':=fun i hi=>(k i hi).grew g
structure EmL (seed:Int) (h:Nat) (nx:Nat→Nat) (lo hi:Int) (L:List RP) (k:Nat):Prop where
 len:L.length=k
 get:∀ i (h':i<L.length),∃ CA ck A c,L[i]=rpK seed h (nx i) lo hi i CA ck A c
theorem EmL.nil (seed:Int) (h:Nat) (nx:Nat→Nat) (lo hi:Int):EmL seed h nx lo hi [] 0:=⟨rfl,fun i h'=>absurd h' (by simp)⟩
theorem EmL.snoc {seed:Int} {h:Nat} {nx:Nat→Nat} {lo hi:Int} {L:List RP} {k:Nat} (e:EmL seed h nx lo hi L k) (CA:Option Addr) (ck:Nat) (A:Option Addr) (c:Nat):EmL seed h nx lo hi (L++[rpK seed h (nx k) lo hi k CA ck A c]) (k+1):=by
 refine⟨by simp [e.len],fun i h'=>?_⟩
 by_cases hk:i<L.length
 ·rw [List.getElem_append_left hk]
  exact e.get i hk
 ·have hi':i=k:=by have:=e.len;simp at h';omega
  subst hi'
  refine⟨CA,ck,A,c,?_⟩
  have:∀ n (hn:n<(L++[rpK seed h (nx i) lo hi i CA ck A c]).length),n=L.length→(L++[rpK seed h (nx i) lo hi i CA ck A c])[n]=rpK seed h (nx i) lo hi i CA ck A c:=fun n hn e=>by subst e;simp
  exact this i h' e.len.symm
theorem zjq (seed:Int) (h i m:Nat) (hh:h≤4) (hi4:i<4) (hm:m<2^h) (p:Nat) (lo hi:Int) (hlo:0≤lo) (hlh:lo<hi) (hhi:hi≤1099511627776) (pb base:Nat) (room:Int) (w0:World) (hS:Std w0) (w:World) (gw:Grew w0 w) (hpb:w0.heap.size≤pb) (hP:PlS w pb base room 0 (.slice none 0 0) []) (hne1:pb≠p+1) (hne2:pb≠p) (hk:KyAt w (p+1) p (i:Int) (sdI seed i) (ksL seed h i) m (2^h)) :
 Calls Tryz.prog 114 #[.pointer (some ⟨p+1,0,none⟩),.int .i64 (i:Int),.pointer (some ⟨pb,0,none⟩),.int .i64 lo,.int .i64 hi] w fun e w' =>
  (∃ CA ck A c,e=.returned (.tuple #[.agg (rpK seed h m lo hi i CA ck A c).C,.int .i64 0])∧(rpK seed h m lo hi i CA ck A c).at w'∧(∀ ad,A=some ad→w.heap.size≤ad.block))∧Kp (fun j=>j=p+1∨j=pb) w w'∧KyAt w' (p+1) p (i:Int) (sdI seed i) (ksL seed h i) (m+1) (2^h):=by
 have hp:=pow5 h hh
 have hl:(ksL seed h i).length=2^h:=yo _ _
 exact(zf9 (p+1) p (i:Int) (sdI seed i) (ksL seed h i) m (2^h) (by rw [hl];omega) (by rw [hl];omega) (by rw [hl];omega) (by rw [hl];exact hp.2) (xj _ _) (qL _ _) (fun j hj=>by
  rw [hl]at hj
  unfold ksL
  rw [kx _ h (by omega) j hj];omega) (i:Int) ⟨by omega,by omega⟩ lo hi hlo hlh hhi (by rw [hl];exact hm) hm pb base room w0 hS w gw hpb hP hne1 hne2 hk).mono fun e w' ⟨⟨CA,ck,A,c,h1,h2,h3⟩,h4,h5⟩=>⟨⟨CA,ck,A,c,h1,h2,h3⟩,h4,h5⟩
theorem qR {S:RP} {w:World} (h:S.at w):∀ ad,S.A=some ad→S.l=[]∨ad.block<w.heap.size:=fun ad e=>by
 cases hl:S.l with
 | nil=>exact .inl rfl
 | cons a r =>
  obtain⟨ad',e',hb,_⟩:=h 0 (by simp [u64L,hl])
  rw [e]at e';cases e'
  exact .inr hb
theorem qA {S:RP} {w w':World} {row:Option Nat} (h:S.at w) (k:w.grownBy w' row) (hn:∀ ad,S.A=some ad→∀ g,row=some g→S.l=[]∨ad.block≠g):S.at w':=by
 by_cases hl:S.l=[]
 ·intro j hj;rw [hl]at hj;exact absurd hj (by simp [u64L])
 ·exact jT h k (fun ad e hh=>by
   rcases hn ad e ad.block hh with h1 | h1
   ·exact hl h1
   ·exact h1 rfl)
theorem kg {S:RP} {P:Nat→Prop} {w w':World} (h:S.at w) (k:Kp P w w') (hn:∀ ad,S.A=some ad→S.l=[]∨¬P ad.block):S.at w':=by
 by_cases hl:S.l=[]
 ·intro j hj;rw [hl]at hj;exact absurd hj (by simp [u64L])
 ·exact(Rd.kp h k (Nat.le_refl _) (fun ad e _=>by
   rcases hn ad e with h1 | h1
   ·exact absurd h1 hl
   ·exact h1)).more k.size
theorem zga (vw:Int) (qb:Nat) (qv:Int) (QA:Option Addr) (n qc:Nat) (lo hi:Int):Tryz.prog.built 41 [(0,.int .i64 vw),(1,.int .u64 (qb:Nat)),(2,.agg (vqC qv qb QA n qc)),(3,.int .i64 lo),(4,.int .i64 hi)]=some (#[.int .i64 vw,.int .u64 (qb:Nat),.int .i64 qv,.int .u64 (qb:Nat),.slice QA n qc,.int .i64 lo,.int .i64 hi,.slice none 0 0]):=by kernel_rfl
theorem rp_inf:(Tryz.prog.info? 149).map (fun i=>(i.zero,i.size,i.bytes))=some (some (.agg (#[.int .i64 0,.int .i64 0,.int .i64 0,.slice none 0 0,.int .i64 0,.int .i64 0,.int .u64 0,.int .u64 0,.int .u64 0,.int .u64 0,.int .u64 0,.int .u64 0,.int .u64 0,.int .u64 0,.int .u64 0,.int .u64 0,.int .u64 0,.int .u64 0,.int .u64 0,.int .u64 0,.int .u64 0,.int .u64 0,.int .u64 0,.int .u64 0,.slice none 0 0]:Array Value)),25,232):=by kernel_rfl
theorem zh5 (L:List RP) (S:RP):(rpL (L++[S])).flatten=(rpL L).flatten++S.C.toList:=by rw [zeg,List.flatten_append];simp [rpL]
theorem zh6 (S:RP):Array.foldl (fun(cs:Array Value) (x:Value × Nat)=>cs.setIfInBounds x.snd x.fst) (#[.int .i64 0,.int .i64 0,.int .i64 0,.slice none 0 0,.int .i64 0,.int .i64 0,.int .u64 0,.int .u64 0,.int .u64 0,.int .u64 0,.int .u64 0,.int .u64 0,.int .u64 0,.int .u64 0,.int .u64 0,.int .u64 0,.int .u64 0,.int .u64 0,.int .u64 0,.int .u64 0,.int .u64 0,.int .u64 0,.int .u64 0,.int .u64 0,.slice none 0 0]) S.C.zipIdx 0 25=S.C:=zc4 _ _ _ _ _ _ _ _ _ _ _
theorem zgb {w:World} {base:Nat} {e:TypeId} {size n:Nat} {v:Value} {xs:List Value} (h:w.ownsRow base e size v n xs):∃ A c,v=.slice A n c:=by
 rcases h.2 with ⟨rfl,rfl⟩ | ⟨g,cap,cur,rfl,_⟩
 ·exact⟨none,0,rfl⟩
 ·exact⟨_,_,rfl⟩
def nxt (nx:Nat→Nat) (k:Nat):Nat→Nat:=fun i=>if i<k then nx i+1 else nx i
theorem zdb (seed:Int) (h:Nat) (hh:Hid (h≤4)) (nx:Nat→Nat) (hnx:Hid (∀ i,i<3→nx i<2^h)) (vw qv:Int) (qb:Nat) (QA:Option Addr) (Q:List VP) (qc:Nat) (lo hi:Int) (hlo:Hid (0≤lo)) (hlh:Hid (lo<hi)) (hhi:Hid (hi≤1099511627776)) (w0:World) (hS:Std w0) (p:Nat→Nat) (lad:Addr) (Lc:Nat) (w:World) (g0:Grew w0 w)
 (hks:keysN seed h p nx w)
 (hap:∀ i j,i<4→j<4→i≠j→p i≠p j∧p i+1≠p j∧p i≠p j+1)
 (hlow:∀ i,i<4→w0.heap.size≤p i+1)
 (hld:∀ i,i<4→w.cell? (lad.add i)=some (.pointer (some ⟨p i+1,0,none⟩)))
 (fl:∀ i,i<4→lad.block≠p i+1) :
 Calls Tryz.prog 44 #[.slice (some lad) 4 Lc,.int .i64 vw,.agg (vqC qv qb QA Q.length qc),.int .i64 lo,.int .i64 hi] w fun e w' =>
  (∃ BA bc L,e=.returned (.tuple #[.agg (⟨vw,qb,qv,qb,QA,Q,qc,lo,hi,BA,L,bc⟩:BK).C,.bool true])∧EmL seed h nx lo hi L 3∧Rps w' BA L∧(∀ ad,BA=some ad→w.heap.size≤ad.block)∧(∀ S∈L,∀ ad,S.A=some ad→S.l=[]∨w.heap.size≤ad.block)∧3≤bc)∧Kp (fun j=>∃ i,i<4∧j=p i+1) w w'∧keysN seed h p (nxt nx 3) w':=by
 have HS:=hQ9 hS
 have HW00:=hQ9 g0.size
 have hut:=Tryz.underlying149
 have hub:=Tryz.underlying41
 have huq:=Tryz.underlying38
 obtain⟨i0,hi0,hz0,hz1,hz2⟩:=info_parts rp_inf
 have HP:Hid (∀ i,i<4→w0.heap.size≤p i+1∧p i+1<w.heap.size∧p i<w.heap.size):=hQ9 (fun i hi=>⟨hlow i hi,(hks i hi).key.lt,(hks i hi).pub.lt⟩)
 have HAP:=hQ9 hap
 have FL:=hQ9 fl
 have HLB:Hid (lad.block<w.heap.size):=hQ9 (by have:=zW (hld 0 (by decide));rwa [zo]at this)
 have HIN:Hid (in64 lo∧in64 hi):=hQ9 ⟨⟨by have:=hlo.out;omega,by have:=hlh.out;have:=hhi.out;omega⟩,⟨by have:=hlo.out;have:=hlh.out;omega,by have:=hhi.out;omega⟩⟩
 have zq:=(Ag.new w 38 (vqC qv qb QA Q.length qc)).grew (ze (za _) (.cells (#[.int .i64 0,.int .u64 0,.int .i64 0,.int .u64 0,.slice none 0 0,.int .i64 0,.int .i64 0,.slice none 0 0]:Array Value) 41))
 have zt:=Ag.new (w.alloc (.cells (vqC qv qb QA Q.length qc) 38)) 41 (#[.int .i64 0,.int .u64 0,.int .i64 0,.int .u64 0,.slice none 0 0,.int .i64 0,.int .i64 0,.slice none 0 0]:Array Value)
 rw [zl]at zt
 have ga:=ze (ze (za w) (.cells (vqC qv qb QA Q.length qc) 38)) (.cells (#[.int .i64 0,.int .u64 0,.int .i64 0,.int .u64 0,.slice none 0 0,.int .i64 0,.int .i64 0,.slice none 0 0]:Array Value) 41)
 have hsa:((w.alloc (.cells (vqC qv qb QA Q.length qc) 38)).alloc (.cells (#[.int .i64 0,.int .u64 0,.int .i64 0,.int .u64 0,.slice none 0 0,.int .i64 0,.int .i64 0,.slice none 0 0]:Array Value) 41)).heap.size=w.heap.size+1+1:=by rw [zl,zl]
 have c1:((w.alloc (.cells (vqC qv qb QA Q.length qc) 38)).alloc (.cells (#[.int .i64 0,.int .u64 0,.int .i64 0,.int .u64 0,.slice none 0 0,.int .i64 0,.int .i64 0,.slice none 0 0]:Array Value) 41)).cell? ⟨w.heap.size,1,none⟩=some (.int .u64 (qb:Nat)):=by simpa [vqC]using zq.cell 1 _ rfl
 have hmq:=zq.cell
 have SIQ:Hid ((Tryz.prog.info? 38).map (·.size)=some (vqC qv qb QA Q.length qc).toList.length):=hQ9 yf
 have HZV:Hid (∀ W,(zeroValue 41).run Tryz.prog W=.ok (.agg (#[.int .i64 0,.int .u64 0,.int .i64 0,.int .u64 0,.slice none 0 0,.int .i64 0,.int .i64 0,.slice none 0 0]:Array Value)) W):=hQ9 (fun W=>by kernel_rfl)
 have hzv:=HZV.out
 have HZR:Hid (∀ W,(zeroValue 149).run Tryz.prog W=.ok (.agg (#[.int .i64 0,.int .i64 0,.int .i64 0,.slice none 0 0,.int .i64 0,.int .i64 0,.int .u64 0,.int .u64 0,.int .u64 0,.int .u64 0,.int .u64 0,.int .u64 0,.int .u64 0,.int .u64 0,.int .u64 0,.int .u64 0,.int .u64 0,.int .u64 0,.int .u64 0,.int .u64 0,.int .u64 0,.int .u64 0,.int .u64 0,.int .u64 0,.slice none 0 0]:Array Value)) W):=hQ9 (fun W=>by kernel_rfl)
 obtain⟨wa,hwa⟩:∃ v,(w.alloc (.cells (vqC qv qb QA Q.length qc) 38)).alloc (.cells (#[.int .i64 0,.int .u64 0,.int .i64 0,.int .u64 0,.slice none 0 0,.int .i64 0,.int .i64 0,.slice none 0 0]:Array Value) 41)=v:=⟨_,rfl⟩
 rw [hwa]at zt ga hsa hmq
 have HWA:=hQ9 hwa
 obtain⟨b0,hb0⟩:∃ g,(#[.int .i64 vw,.int .u64 (qb:Nat),.int .i64 qv,.int .u64 (qb:Nat),.slice QA Q.length qc,.int .i64 lo,.int .i64 hi,.slice none 0 0]:Array Value)=g:=⟨_,rfl⟩
 have HBU:=hQ9 (zga vw qb qv QA Q.length qc lo hi)
 have HB0:=hQ9 hb0
 have SIB:Hid ((Tryz.prog.info? 41).map (·.size)=some b0.size):=hQ9 (by rw [←hb0];exact yb)
 have HOB:Hid (b0.all (·.oneCell')=true):=hQ9 (by rw [←hb0];simp [Value.oneCell'])
 obtain⟨wb,hwb,htb,gb,zb⟩:=zU wa 41 (#[.int .i64 0,.int .u64 0,.int .i64 0,.int .u64 0,.slice none 0 0,.int .i64 0,.int .i64 0,.slice none 0 0]:Array Value) b0 (by rw [←hb0];rfl)
 rw [hb0]at HBU
 have HWB:=hQ9 hwb
 have HTB:=hQ9 htb
 have zt:=zt.grew gb
 have GB:=zc ga gb
 have hqb:=zb.lt
 rw [hsa]at hqb
 have hzb:Ag wb (w.heap.size+1+1) ([.int .i64 vw,.int .u64 (qb:Nat),.int .i64 qv,.int .u64 (qb:Nat),.slice QA Q.length qc,.int .i64 lo,.int .i64 hi]++[.slice none 0 0]):=by
  have:=zb
  rw [hsa,←hb0]at this
  exact this
 obtain⟨B0,hB0⟩:∃ b,wb.heap.size=b:=⟨_,rfl⟩
 have HBE:Hid (w.heap.size+1+1<B0):=hQ9 (by rw [←hB0];exact hqb)
 have HBB:Hid (B0≤wb.heap.size):=hQ9 (by omega)
 have hown0:wb.ownsRow B0 149 25 (.slice none 0 0) 0 (rpL []).flatten:=World.ownsRow_nil _ _ _ _
 have HKS:Hid (keysN seed h p (nxt nx 0) wb):=hQ9 (fun i hi=>by
  have:nxt nx 0 i=nx i:=by unfold nxt;rw [if_neg (by omega)]
  rw [this];exact(hks i hi).grew GB)
 have HLD:Hid (∀ i,i<4→wb.cell? (lad.add i)=some (.pointer (some ⟨p i+1,0,none⟩))):=hQ9 (fun i hi=>(GB.cell (p:=lad.add i) (zW (hld i hi))).trans (hld i hi))
 have GA:=zc g0 GB
 have KA:Kp (fun j=>∃ i,i<4∧j=p i+1) w wb:=zi GB
 have HSZ2:Hid (wa.heap.size=w.heap.size+1+1):=hQ9 hsa
 clear hS hks hap hlow hld fl hsa ga g0 hB0 hwa hwb htb gb zb zq hqb GB hb0
 obtain⟨gq,hgq⟩:∃ g,vqC qv qb QA Q.length qc=g:=⟨_,rfl⟩
 rw [hgq]at HWA hmq SIQ HBU c1 ⊢
 clear hgq
 go_enter Tryz.func44,Tryz.ntmps44
 go_wp2_with(first
  | (rw [HWA.out];with_reducible refine wpList_load_mid rfl 38 (.tmp 7) rfl w.heap.size 0 rfl gq.toList _ hmq huq rfl SIQ.out ?_;simp only [Array.toArray_toList])
  | (with_reducible refine wpList_load_mid rfl 38 (.tmp 7) rfl w.heap.size 0 rfl gq.toList _ hmq huq rfl SIQ.out ?_;simp only [Array.toArray_toList])
  | (with_reducible refine zA rfl 41 #[(0,.tmp 18),(1,.tmp 20),(2,.tmp 21),(3,.tmp 22),(4,.tmp 23)] rfl b0 ?_ ?_;· simpa [Act.eval,Act.put]using HBU.out)
  | (with_reducible refine wpList_store_mid rfl 41 (.tmp 12) (.tmp 24) rfl wa.heap.size 0 b0 rfl rfl HTB.out SIB.out HOB.out ?_;rw [HWB.out];clear HWB HTB;rw [HSZ2.out]))
 clear c1 hmq HWA
 go_loopw [13] (fun iv wr=>∃(k:Nat) (v:Value) (L:List RP),k≤3∧iv=.int .i64 (k:Int)∧B0≤wr.heap.size∧EmL seed h nx lo hi L k∧(∀ S∈L,S.ok)∧(∀ S∈L,S.at wr)∧(∀ S∈L,∀ ad,S.A=some ad→∀ g,v.ownBlock=some g→S.l=[]∨ad.block≠g)∧(∀ S∈L,∀ ad,S.A=some ad→S.l=[]∨B0≤ad.block)∧wr.ownsRow B0 149 25 v k (rpL L).flatten∧keysN seed h p (nxt nx k) wr∧Ag wr (w.heap.size+1) (#[.int .i64 0,.int .u64 0,.int .i64 0,.int .u64 0,.slice none 0 0,.int .i64 0,.int .i64 0,.slice none 0 0]:Array Value).toList∧Ag wr (w.heap.size+1+1) ([.int .i64 vw,.int .u64 (qb:Nat),.int .i64 qv,.int .u64 (qb:Nat),.slice QA Q.length qc,.int .i64 lo,.int .i64 hi]++[v])∧(∀ i,i<4→wr.cell? (lad.add i)=some (.pointer (some ⟨p i+1,0,none⟩)))∧Kp (fun j=>∃ i,i<4∧j=p i+1) w wr∧Grew w0 wr) (fun iv _=>3-(Go.RowKit.intOf iv).toNat)
 case atStart=>exact⟨0,.slice none 0 0,[],by omega,rfl,HBB.out,EmL.nil _ _ _ _ _,by simp,by simp,by simp,by simp,hown0,HKS.out,zt,hzb,HLD.out,KA,GA⟩
 case round =>
  clear hown0 HKS zt hzb HLD KA GA HBB
  obtain⟨k,v,L,hk,rfl,hB0,hem,hok,hat,hne,hlow,hrow,hks,zt,zb,hld,hkp,hg⟩:=hrel
  by_cases hlt:k<3
  ·have hk4:k<4:=by omega
   have h0:(0:Int)≤(k:Int):=by omega
   have h4:(k:Int)<4:=by omega
   have h3:(k:Int)<3:=by omega
   have e34:IntKind.i64.wrap ((k:Int)+1)=(k:Int)+1:=IntWalk.i64_in _ (by omega)
   have HPK:=hQ9 (HP.out k hk4)
   have HPW:=hQ9 (fun i hi=>HP.out i hi)
   have hnk:nxt nx k k=nx k:=by unfold nxt;rw [if_neg (by omega)]
   have HKK:Hid (KyAt wr (p k+1) (p k) (k:Int) (sdI seed k) (ksL seed h k) (nx k) (2^h)):=hQ9 (by have:=hks k hk4;rwa [hnk]at this)
   have HEM:=hQ9 hem
   have HOKL:=hQ9 hok
   have HAT:=hQ9 hat
   have HNE:=hQ9 hne
   have HLW:=hQ9 hlow
   have HROW:=hQ9 hrow
   have HKSR:=hQ9 hks
   have HZT:=hQ9 zt
   have HZBL:=hQ9 zb
   have HLDR:=hQ9 hld
   have HKPR:=hQ9 hkp
   have HGR:=hQ9 hg
   have HBW:=hQ9 hB0
   have HL3:=hQ9 hlt
   have HL4:=hQ9 hk4
   have HRK:Hid (nx k<2^h):=hQ9 (hnx.out k hlt)
   have HC9:=hQ9 (ziz 9 ⟨by decide,by decide⟩ wr)
   clear hem hok hat hne hlow hrow hks zt zb hld hkp hg hB0 hlt hk4 hk hnk
   go_wp2_with fail
   refine(HC9.out).mono ?_
   rintro e w2 ⟨pp,rfl,hPL,hpp,g2⟩
   have hlc:w2.cell? (lad.add k)=some (.pointer (some ⟨p k+1,0,none⟩)):=(g2.cell (p:=lad.add k) (zW (HLDR.out k HL4.out))).trans (HLDR.out k HL4.out)
   have CMK:=hQ9 (zjq seed h k (nx k) hh.out HL4.out HRK.out (p k) lo hi hlo.out hlh.out hhi.out pp w2.heap.size 9 w0 HS.out w2 (zc HGR.out g2) (by have:=HGR.out.size;omega) hPL (by have:=HPK.out;have:=HBW.out;have:=HBE.out;omega) (by have:=HPK.out;have:=HBW.out;have:=HBE.out;omega) (HKK.out.grew g2))
   have HG2:=hQ9 g2
   have HPP:=hQ9 hpp
   have hpl:=hPL.ptr.lt
   clear hPL hpp HC9 g2
   go_wp2_with fail
   refine(CMK.out).mono ?_
   rintro e w3 ⟨⟨CA,ck,A,c,rfl,hatS,hfrS⟩,k3,K3⟩
   obtain⟨S,hS⟩:∃ S,rpK seed h (nx k) lo hi k CA ck A c=S:=⟨_,rfl⟩
   have HSE:=hQ9 hS
   have hSok:S.ok:=by rw [←hS];exact rpK_ok seed h (nx k) hh.out HRK.out lo hi HIN.out.1 HIN.out.2 k HL4.out CA ck A c
   have hSA:S.A=A:=by rw [←hS];rfl
   rw [hS]at hatS ⊢
   have HSOK:=hQ9 hSok
   have HVL:Hid (∀ g,v.ownBlock=some g→g<w2.heap.size):=hQ9 (fun g hg=>by have:=(zG HROW.out g hg).2;have:=HG2.out.size;omega)
   have HFRS:Hid (∀ ad,S.A=some ad→w2.heap.size≤ad.block):=hQ9 (fun ad e=>hfrS ad (by rw [←hSA];exact e))
   -- what stays over the report's making
   have hwr2:=HG2.out.size
   have hwr3:=k3.size
   have hBW:=HBW.out
   have hBE:=HBE.out
   have NOT:Hid (∀ b,b<wr.heap.size→b≠p k+1→¬(b=p k+1∨b=pp)):=hQ9 (fun b h1 h2 h3=>by have:=HPP.out;omega)
   have row3:=zv (zv (S:=fun _=>False) HROW.out (zi HG2.out) (fun g _ h=>h)) k3 (fun g hg=>NOT.out g (zG HROW.out g hg).2 (by have:=(zG HROW.out g hg).1;have:=HPK.out;omega))
   have zt3:=(HZT.out.grew HG2.out).kp k3 (NOT.out _ (by omega) (by have:=HPK.out;omega))
   have zb3:=(HZBL.out.grew HG2.out).kp k3 (NOT.out _ (by omega) (by have:=HPK.out;omega))
   have ld3:∀ i,i<4→w3.cell? (lad.add i)=some (.pointer (some ⟨p i+1,0,none⟩)):=fun i hi=>(World.cell?_of_block (by rw [zo];exact k3.block lad.block (by have:=HLB.out;omega) (NOT.out _ (by have:=HLB.out;omega) (FL.out k HL4.out)))).trans ((HG2.out.cell (p:=lad.add i) (zW (HLDR.out i hi))).trans (HLDR.out i hi))
   have ks3:keysN seed h p (nxt nx (k+1)) w3:=fun i hi=>by
    by_cases hik:i=k
    ·subst hik
     have:nxt nx (i+1) i=nx i+1:=by unfold nxt;rw [if_pos (by omega)]
     rw [this];exact K3
    ·have:nxt nx (k+1) i=nxt nx k i:=by
      unfold nxt
      by_cases h1:i<k
      ·rw [if_pos h1,if_pos (by omega)]
      ·rw [if_neg h1,if_neg (by omega)]
     rw [this]
     have hpi:=HPW.out i hi
     have hap:=HAP.out i k hi HL4.out hik
     exact((HKSR.out i hi).grew HG2.out).kp k3 (NOT.out _ (by omega) (by omega)) (NOT.out _ (by omega) (by omega))
   have kp3:Kp (fun j=>∃ i,i<4∧j=p i+1) w w3:=xy (zC HKPR.out (zi HG2.out)) k3 (fun i e=>by
    rcases e with e | e
    ·exact .inl ⟨k,HL4.out,e⟩
    ·exact .inr (by have:=HPP.out;omega))
   have gr3:Grew w0 w3:=zK (zc HGR.out HG2.out) k3 (by have:=HGR.out.size;omega) (fun i e=>by
    rcases e with e | e
    ·have:=HPK.out;omega
    ·have:=HPP.out;have:=HGR.out.size;omega)
   have at3:∀ T∈L,T.at w3:=fun T hT=>kg ((HAT.out T hT).gr HG2.out) k3 (fun ad e=>by
    rcases HLW.out T hT ad e with h1 | h1
    ·exact .inl h1
    ·rcases qR (HAT.out T hT) ad e with h2 | h2
     ·exact .inl h2
     ·exact .inr (NOT.out _ h2 (by have:=HPK.out;omega)))
   have HROW3:=hQ9 row3
   have HZT3:=hQ9 zt3
   have HZB3:=hQ9 zb3
   have HLD3:=hQ9 ld3
   have HKS3:=hQ9 ks3
   have HKP3:=hQ9 kp3
   have HGR3:=hQ9 gr3
   have HAT3:=hQ9 at3
   have HATS:=hQ9 hatS
   have HSZ:=hQ9 (show wr.heap.size≤w3.heap.size by omega)
   clear row3 zt3 zb3 ld3 ks3 kp3 gr3 at3 hatS hSok hSA hfrS k3 K3 HKK HROW HZT HZBL HLDR HKSR HKPR HGR CMK hlc NOT hS hpl hwr2 hwr3 hBW hBE HPP
   have SIS:Hid ((Tryz.prog.info? 149).map (·.size)=some S.C.toList.length):=hQ9 zV
   have SIZ:Hid ((Tryz.prog.info? 149).map (·.size)=some S.C.size):=hQ9 zV
   have HON:=hQ9 S.one
   have HON1:=hQ9 S.one'
   have HFO:=hQ9 (zh6 S)
   have hsz:S.C.size=25:=rfl
   obtain⟨w4,hw4,ht4,g4,z4⟩:=kW w3 S.C rfl
   have HW4:=hQ9 hw4
   have HT4:=hQ9 ht4
   have hm4:=z4.cell
   have zb4:=HZB3.out.grew g4
   have c7:w4.cell? ⟨w.heap.size+1+1,7,none⟩=some v:=by simpa using zb4.cell 7 v rfl
   have row4:=zv (S:=fun _=>False) HROW3.out (zi g4) (fun g _ h=>h)
   have HG4:=hQ9 g4
   have hB4:B0≤w4.heap.size:=by have:=HBW.out;have:=HSZ.out;have:=g4.size;omega
   have hzr:=HZR.out
   clear hw4 ht4 z4 zb4 g4
   obtain⟨gs,hgs⟩:∃ g,S.C=g:=⟨_,rfl⟩
   have HGS:=hQ9 hgs
   rw [hgs]at SIS SIZ HON HON1 HFO hsz HW4 HT4 hm4 ⊢
   clear hgs
   go_wp2_with(first
    | (with_reducible refine wpList_store_mid rfl 149 (.tmp 16) (.tmp 56) rfl w3.heap.size 0 gs rfl rfl HT4.out SIZ.out HON.out ?_;rw [HW4.out];clear HW4 HT4)
    | (with_reducible refine wpList_load_mid rfl 149 (.tmp 16) rfl w3.heap.size 0 rfl gs.toList _ hm4 hut rfl SIS.out ?_;simp only [Array.toArray_toList])
    | (at_builtin;rw [HFO.out];refine zX _ rfl (.tmp 62) (.tmp 64) 39 rfl B0 149 i0 (.agg (#[.int .i64 0,.int .i64 0,.int .i64 0,.slice none 0 0,.int .i64 0,.int .i64 0,.int .u64 0,.int .u64 0,.int .u64 0,.int .u64 0,.int .u64 0,.int .u64 0,.int .u64 0,.int .u64 0,.int .u64 0,.int .u64 0,.int .u64 0,.int .u64 0,.int .u64 0,.int .u64 0,.int .u64 0,.int .u64 0,.int .u64 0,.int .u64 0,.slice none 0 0]:Array Value)) 25 232 Tryz.underlying39 hi0 hz0 hz1 hz2 rfl (by decide) _ _ _ rfl (row4.alloc _) ⟨w4.heap.size,0,none⟩ 1 1 gs.toList rfl (by rw [Array.length_toList,hsz]) (fun j u hj=>yS w4 gs 149 j u hj) HON1.out (by unfold maxLen;omega) (by omega) (by rw [zl];omega) ?_;intro v5 w5 hown5 hgrow5 hob5;obtain⟨A5,c5,rfl⟩:=zgb hown5;have ga:=ze HG4.out (.cells gs 149);have K5:=yC (S:=fun j=>v.ownBlock=some j) (zI _ _) hgrow5 (fun g hg=>.inl hg);have hvb:=zG HROW3.out;have zb5:=(HZB3.out.grew ga).kp K5 (fun e=>by have:=(hvb _ e).1;have:=HBE.out;omega);have c75:w5.cell? ⟨w.heap.size+1+1,7,none⟩=some v:=(by simpa using zb5.cell 7 v rfl);have f75:w5.frozen? ⟨w.heap.size+1+1,7,none⟩=false:=(by simpa using (zb5.there 7 (by show 7<8;decide)).2);have HGA:=hQ9 ga;have HK5:=hQ9 K5;have HVB:=hQ9 hvb;have HZB5:=hQ9 zb5;have HOWN5:=hQ9 hown5;have HGW5:=hQ9 hgrow5;have HOB5:=hQ9 hob5;clear ga K5 hvb zb5 hown5 hgrow5 hob5 c7 row4 hm4))
   have hga:=HGA.out.size
   have hk5:=HK5.out.size
   have hB0:=HBW.out
   have hBE:=HBE.out
   have hsz3:=HSZ.out
   have K6:Kp (fun j=>j=w.heap.size+1+1) w5 (w5.setCell ⟨w.heap.size+1+1,7,none⟩ (.slice A5 (k+1) c5)):=xF (S:=fun j=>j=w.heap.size+1+1) (zI _ w5) (p:=⟨w.heap.size+1+1,7,none⟩) (.inl rfl) _
   have hal:w4.heap.size+1=(w4.alloc (.cells gs 149)).heap.size:=by rw [zl]
   have hg4:=HG4.out.size
   go_roundw
   case rel =>
    refine⟨k+1,.slice A5 (k+1) c5,L++[S],by have:=HL3.out;omega,by go_num,?_,?_,?_,?_,?_,?_,?_,?_,?_,?_,?_,?_,?_⟩
    ·have:=K6.size;omega
    ·rw [←HSE.out];exact HEM.out.snoc CA ck A c
    ·intro T hT
     rcases List.mem_append.1 hT with h | h
     ·exact HOKL.out T h
     ·obtain rfl:T=S:=by simpa using h
      exact HSOK.out
    ·intro T hT
     rcases List.mem_append.1 hT with h | h
     ·exact kg (qA ((HAT3.out T h).gr HGA.out) HGW5.out (fun ad e g hg=>HNE.out T h ad e g hg)) K6 (fun ad e=>(HLW.out T h ad e).imp id (fun h1 (h2:ad.block=w.heap.size+1+1)=>by omega))
     ·obtain rfl:T=S:=by simpa using h
      exact kg (qA (HATS.out.gr HGA.out) HGW5.out (fun ad e g hg=>.inr (by have:=HFRS.out ad e;have:=(HVB.out g hg).2;have:=(zG HROW3.out g hg).2;have:=HVL.out g hg;omega))) K6 (fun ad e=>.inr (fun(h2:ad.block=w.heap.size+1+1)=>by have:=HFRS.out ad e;have:=HG2.out.size;omega))
    ·intro T hT ad e g hg
     have hlt9:T.l=[]∨ad.block<(w4.alloc (.cells gs 149)).heap.size:=by
      rcases List.mem_append.1 hT with h | h
      ·exact qR ((HAT3.out T h).gr HGA.out) ad e
      ·obtain rfl:T=S:=by simpa using h
       exact qR (HATS.out.gr HGA.out) ad e
     rcases HOB5.out with h3 | h3
     ·rw [h3]at hg
      rcases List.mem_append.1 hT with h | h
      ·exact HNE.out T h ad e g hg
      ·obtain rfl:T=S:=by simpa using h
       exact .inr (by have:=HFRS.out ad e;have:=HVL.out g hg;omega)
     ·rw [h3]at hg;injection hg with hg
      rcases hlt9 with h1 | h1
      ·exact .inl h1
      ·exact .inr (by omega)
    ·intro T hT ad e
     rcases List.mem_append.1 hT with h | h
     ·exact HLW.out T h ad e
     ·obtain rfl:T=S:=by simpa using h
      exact .inr (by have:=HFRS.out ad e;have:=HG2.out.size;omega)
    ·rw [zh5,HGS.out]
     exact zv HOWN5.out K6 (fun g hg (h2:g=w.heap.size+1+1)=>by have:=(zG HOWN5.out g hg).1;omega)
    ·intro i hi
     have hpi:=HPW.out i hi
     exact(((HKS3.out i hi).grew HGA.out).kp HK5.out (fun h1=>by have:=(HVB.out _ h1).1;omega) (fun h1=>by have:=(HVB.out _ h1).1;omega)).kp K6 (fun(h2:p i+1=w.heap.size+1+1)=>by omega) (fun(h2:p i=w.heap.size+1+1)=>by omega)
    ·exact((HZT3.out.grew HGA.out).kp HK5.out (fun h1=>by have:=(HVB.out _ h1).1;omega)).kp K6 (fun(h2:w.heap.size+1=w.heap.size+1+1)=>by omega)
    ·exact HZB5.out.set1L 7 (.slice A5 (k+1) c5) (by show 7<8;decide)
    ·intro i hi
     have h1:w5.cell? (lad.add i)=some (.pointer (some ⟨p i+1,0,none⟩)):=(World.cell?_of_block (by rw [zo];exact HK5.out.block lad.block (by have:=HLB.out;omega) (fun h1=>by have:=(HVB.out _ h1).1;have:=HLB.out;omega))).trans ((HGA.out.cell (p:=lad.add i) (zW (HLD3.out i hi))).trans (HLD3.out i hi))
     exact(World.cell?_of_block (by rw [zo];exact K6.block lad.block (by have:=HLB.out;omega) (fun(h2:lad.block=w.heap.size+1+1)=>by have:=HLB.out;omega))).trans h1
    ·exact xy (xy (zC HKP3.out (zi HGA.out)) HK5.out (fun i e=>.inr (by have:=(HVB.out i e).1;omega))) K6 (fun i (e:i=w.heap.size+1+1)=>.inr (by omega))
    ·exact zK (zK (zc HGR3.out HGA.out) HK5.out (by have:=HGR3.out.size;omega) (fun i e=>by have:=(HVB.out i e).1;have:=HW00.out;omega)) K6 (by have:=HGR3.out.size;omega) (fun i (e:i=w.heap.size+1+1)=>by have:=HW00.out;omega)
   case measure=>simp [Go.RowKit.intOf];have:=HL3.out;omega
  ·obtain rfl:k=3:=by omega
   obtain⟨BA,bc,hv,hB,hc1,hc2,hbB⟩:=zcy hrow (rpL_z L) (by decide) (by rw [qQ];exact hem.len)
   rw [hv]at zb
   have hLl:L.length=3:=hem.len
   obtain⟨gb,hgb⟩:∃ g,(⟨vw,qb,qv,qb,QA,Q,qc,lo,hi,BA,L,bc⟩:BK).C=g:=⟨_,rfl⟩
   have zb':Ag wr (w.heap.size+1+1) gb.toList:=by
    rw [←hgb]
    show Ag wr (w.heap.size+1+1) ([.int .i64 vw,.int .u64 (qb:Nat),.int .i64 qv,.int .u64 (qb:Nat),.slice QA Q.length qc,.int .i64 lo,.int .i64 hi]++[.slice BA L.length bc])
    rw [hLl];exact zb
   have SIB:Hid ((Tryz.prog.info? 41).map (·.size)=some gb.size):=hQ9 (by rw [←hgb];exact yb)
   have SIBL:Hid ((Tryz.prog.info? 41).map (·.size)=some gb.toList.length):=hQ9 (by rw [←hgb];exact yb)
   have HOB:Hid (gb.all (·.oneCell')=true):=hQ9 (by rw [←hgb];exact BK.one _)
   have hg8:gb.size=8:=by rw [←hgb];rfl
   have HTH:Hid (wr.there (w.heap.size+1) 0 gb.size):=hQ9 (by rw [hg8];exact zt.thereN 8 rfl)
   have z9:=Ag.set (vs:=gb.toList) zt (by rw [Array.length_toList,hg8];rfl)
   have k9:=zu gb.toList (w.heap.size+1) 0 wr
   have hm:=zb'.cell
   have hBE:=HBE.out
   have HR:Hid (Rps (wr.setCells (w.heap.size+1) 0 gb.toList) BA L):=hQ9 ⟨hB.kp k9 (fun q e (h2:q=w.heap.size+1)=>by have:=(hbB _ e).1;have h3:B0≤q:=this;omega),hok,fun T hT=>kg (hat T hT) k9 (fun ad e=>(hlow T hT ad e).imp id (fun h1 (h2:ad.block=w.heap.size+1)=>by omega))⟩
   have HKN:Hid (keysN seed h p (nxt nx 3) (wr.setCells (w.heap.size+1) 0 gb.toList)):=hQ9 (fun i hi=>(hks i hi).kp k9 (fun(h2:p i+1=w.heap.size+1)=>by have:=HP.out i hi;omega) (fun(h2:p i=w.heap.size+1)=>by have:=HP.out i hi;omega))
   have HKP:Hid (Kp (fun j=>∃ i,i<4∧j=p i+1) w (wr.setCells (w.heap.size+1) 0 gb.toList)):=hQ9 (zbk hkp k9 (by omega))
   have HF1:Hid (∀ ad,BA=some ad→w.heap.size≤ad.block):=hQ9 (fun ad e=>by have:=(hbB ad e).1;omega)
   have HF2:Hid (∀ S∈L,∀ ad,S.A=some ad→S.l=[]∨w.heap.size≤ad.block):=hQ9 (fun S hS ad e=>(hlow S hS ad e).imp id (fun h1=>by omega))
   have HC1:Hid (3≤bc):=hQ9 hc1
   have HEM:=hQ9 hem
   have HGB:=hQ9 hgb
   clear hem hok hat hne hlow hrow hks zt zb zb' hld hkp hg hB0 hlt hB hc1 hc2 hbB hLl hgb k9 hv
   go_wp2_with(first
    | (with_reducible refine wpList_load_mid rfl 41 (.tmp 12) rfl (w.heap.size+1+1) 0 rfl gb.toList _ hm hub rfl SIBL.out ?_;simp only [Array.toArray_toList])
    | (with_reducible refine wpList_store_mid rfl 41 (.tmp 10) (.tmp 67) rfl (w.heap.size+1) 0 gb rfl rfl HTH.out SIB.out HOB.out ?_))
   exact bodyPost_ret (zM Tryz.results44 _ _ (w.heap.size+1) _ _ _ rfl rfl z9 hub rfl SIBL.out) rfl ⟨⟨BA,bc,L,by rw [HGB.out,Array.toArray_toList];rfl,HEM.out,HR.out,HF1.out,HF2.out,HC1.out⟩,HKP.out,HKN.out⟩
noncomputable def vpK (seed:Int) (h m:Nat) (vw:Int) (D:Nat) (i:Nat) (A:Option Addr) (c:Nat):VP:=⟨vw,D,i,i,m,signF (secN (sdI seed i) (m:Int)) (voD vw D),A,c,pathN (ksL seed h i) m⟩
theorem vpK_ok (seed:Int) (h m:Nat) (hh:h≤4) (hm:m<2^h) (vw:Int) (hv:in64 vw) (D:Nat) (hD:D<18446744073709551616) (i:Nat) (hi4:i<4) (A:Option Addr) (c:Nat):(vpK seed h m vw D i A c).ok:=by
 have hp:=pow5 h hh
 refine⟨hv,hD,⟨by show _≤(i:Int);omega,by show(i:Int)≤_;omega⟩,⟨by show _≤(i:Int);omega,by show(i:Int)≤_;omega⟩,⟨by show _≤(m:Int);omega,by show(m:Int)≤_;omega⟩,fun k _=>za5 _ _ _ (jf _ _ _),?_,(show ∀ x∈pathN (ksL seed h i) m,x<18446744073709551616 from za7 _ _ (xj _ _))⟩
 show(pathN (ksL seed h i) m).length≤1000
 unfold ksL
 rw [kx _ h (by omega) m hm];omega
noncomputable def kpV (seed:Int) (h:Nat) (RA:Option Addr) (Rc:Nat):KP:=⟨1,rtL seed h 4,RA,Rc,(h:Int)⟩
theorem zgc (seed:Int) (h:Nat) (hh:h≤4) (RA:Option Addr) (Rc:Nat):(kpV seed h RA Rc).ok:=⟨⟨by show(1:Int)≤1;omega,by show(1:Int)≤3;omega⟩,by show(rtL seed h 4).length≤1000;rw [kd];omega,rt_lt _ _ _ (by omega)⟩
theorem kpV_C (seed:Int) (h:Nat) (RA:Option Addr) (Rc:Nat):(kpV seed h RA Rc).C=kyS 1 RA 4 Rc (h:Int):=by show kyS 1 RA (rtL seed h 4).length Rc (h:Int)=_;rw [kd]
theorem zgd (seed:Int) (h:Nat) (hh:h≤8) (i m:Nat) (hi:i<4) (hm:m<2^h) (d:Nat) :
 ckE (rtL seed h 4) (h:Int) i d (i:Int) (m:Int) (signF (secN (sdI seed i) (m:Int)) d) (pathN (ksL seed h i) m)=if d<18446744073709551616 then 0 else ckE (rtL seed h 4) (h:Int) i d (i:Int) (m:Int) (signF (secN (sdI seed i) (m:Int)) d) (pathN (ksL seed h i) m):=by
 by_cases hd:d<18446744073709551616
 ·rw [if_pos hd]
  unfold ckE
  rw [if_neg (by rw [kd];omega),if_pos rfl,zfw _ _ _ _ hi]
  have:=zjc (sdI seed i) h hh m (d:Nat) (by omega) hm
  rw [Int.toNat_natCast]at this
  rw [if_pos]
  exact this
 ·rw [if_neg hd]
section
variable (seed : Int) (h : Nat) (RA : Option Addr) (Rc : Nat) (vw : Int) (D : Nat)
theorem zge (hh:h≤4) (hvw:vwB vw=true) (m i:Nat) (hi:i<4) (hm:m<2^h) (A:Option Addr) (c:Nat):vvS (kpV seed h RA Rc) (vpK seed h m vw D i A c)=0:=by
 show vvE 1 (rtL seed h 4) (h:Int) vw D (i:Int) (i:Int) (m:Int) (signF (secN (sdI seed i) (m:Int)) (voD vw D)) (pathN (ksL seed h i) m)=0
 unfold vvE
 rw [if_neg (by omega),if_neg (by omega),if_pos hvw,Int.toNat_natCast,zgd seed h (by omega) i m hi hm,if_pos (qw _ _)]
theorem kh (hh:h≤4) (hvw:vwB vw=true) (m i:Nat) (hi:i<4) (hm:m<2^h) (A:Option Addr) (c:Nat):vgB (kpV seed h RA Rc) vw D (vpK seed h m vw D i A c)=true:=by
 unfold vgB
 rw [zge seed h RA Rc vw D hh hvw m i hi hm A c]
 simp [vpK]
theorem zbl (hh:h≤4) (hvw:vwB vw=true) (m i:Nat) (hi:i<4) (hm:m<2^h) (A:Option Addr) (c:Nat):vdV (kpV seed h RA Rc) vw D (vpK seed h m vw D i A c)=0:=by
 unfold vdV
 rw [zge seed h RA Rc vw D hh hvw m i hi hm A c]
 simp [vpK]
theorem zgf (m1 m2 m3:Nat) (A1 A2 A3:Option Addr) (c1 c2 c3:Nat):eachL VP.who [vpK seed h m3 vw D 3 A3 c3,vpK seed h m2 vw D 2 A2 c2,vpK seed h m1 vw D 1 A1 c1]=[vpK seed h m1 vw D 1 A1 c1,vpK seed h m2 vw D 2 A2 c2,vpK seed h m3 vw D 3 A3 c3]:=by
 rw [xQ VP.who _ 4 (fun x hx=>by
  simp only [List.mem_cons,List.not_mem_nil,or_false]at hx
  rcases hx with rfl | rfl | rfl<;>exact⟨by show(0:Int)≤((_:Nat):Int);omega,by show((_:Nat):Int)<4;omega⟩)]
 simp [upTo,List.range_succ,vpK,List.find?]
theorem zh7 (hh:h≤4) (hvw:vwB vw=true) (m1 m2 m3:Nat) (h1:m1<2^h) (h2:m2<2^h) (h3:m3<2^h) (A1 A2 A3:Option Addr) (c1 c2 c3:Nat):chosenV (kpV seed h RA Rc) vw D [vpK seed h m3 vw D 3 A3 c3,vpK seed h m2 vw D 2 A2 c2,vpK seed h m1 vw D 1 A1 c1]=[vpK seed h m1 vw D 1 A1 c1,vpK seed h m2 vw D 2 A2 c2,vpK seed h m3 vw D 3 A3 c3]:=by
 unfold chosenV
 rw [List.filter_eq_self.2 (fun x hx=>by
  simp only [List.mem_cons,List.not_mem_nil,or_false]at hx
  rcases hx with rfl | rfl | rfl
  ·exact kh seed h RA Rc vw D hh hvw m3 3 (by omega) h3 _ _
  ·exact kh seed h RA Rc vw D hh hvw m2 2 (by omega) h2 _ _
  ·exact kh seed h RA Rc vw D hh hvw m1 1 (by omega) h1 _ _),zgf]
 rfl
theorem zh8 (hh:h≤4) (hvw:vwB vw=true) (m1 m2 m3:Nat) (h1:m1<2^h) (h2:m2<2^h) (h3:m3<2^h) (A1 A2 A3:Option Addr) (c1 c2 c3:Nat):enoughV (kpV seed h RA Rc) vw D [vpK seed h m3 vw D 3 A3 c3,vpK seed h m2 vw D 2 A2 c2,vpK seed h m1 vw D 1 A1 c1]=true:=by
 unfold enoughV
 rw [List.filter_eq_self.2 (fun x hx=>by
  simp only [List.mem_cons,List.not_mem_nil,or_false]at hx
  rcases hx with rfl | rfl | rfl
  ·exact kh seed h RA Rc vw D hh hvw m3 3 (by omega) h3 _ _
  ·exact kh seed h RA Rc vw D hh hvw m2 2 (by omega) h2 _ _
  ·exact kh seed h RA Rc vw D hh hvw m1 1 (by omega) h1 _ _),zgf]
 rfl
theorem vcq3 (hh:h≤4) (hvw:vwB vw=true) (m1 m2 m3:Nat) (h1:m1<2^h) (h2:m2<2^h) (h3:m3<2^h) (A1 A2 A3:Option Addr) (c1 c2 c3:Nat):cqV (kpV seed h RA Rc) vw D [vpK seed h m1 vw D 1 A1 c1,vpK seed h m2 vw D 2 A2 c2,vpK seed h m3 vw D 3 A3 c3]=0:=by
 unfold cqV
 refine(if_pos (by rfl)).trans ?_
 rw [yE (by rfl) (zbl seed h RA Rc vw D hh hvw m1 1 (by omega) h1 A1 c1),yE (by show decide (((2:Nat):Int)≤((1:Nat):Int))=false;decide) (zbl seed h RA Rc vw D hh hvw m2 2 (by omega) h2 A2 c2),yE (by show decide (((3:Nat):Int)≤((2:Nat):Int))=false;decide) (zbl seed h RA Rc vw D hh hvw m3 3 (by omega) h3 A3 c3)]
 rfl
end
theorem zjr (seed:Int) (h i m:Nat) (hh:h≤4) (hi4:i<4) (hm:m<2^h) (p:Nat) (vw:Int) (hv:in64 vw) (D:Nat) (hD:D<18446744073709551616) (w:World) (hS:Std w) (hk:KyAt w (p+1) p (i:Int) (sdI seed i) (ksL seed h i) m (2^h)) :
 Calls Tryz.prog 43 #[.pointer (some ⟨p+1,0,none⟩),.int .i64 (i:Int),.int .i64 vw,.int .u64 (D:Nat)] w fun e w' =>
  (∃ A c,e=.returned (.tuple #[.agg (vpK seed h m vw D i A c).C,.int .i64 0])∧(vpK seed h m vw D i A c).at w'∧(∀ ad,A=some ad→w.heap.size≤ad.block))∧Tn (p+1) w w'∧KyAt w' (p+1) p (i:Int) (sdI seed i) (ksL seed h i) (m+1) (2^h):=by
 have hp:=pow5 h hh
 have hl:(ksL seed h i).length=2^h:=yo _ _
 exact(zf0 (p+1) p (i:Int) (sdI seed i) (ksL seed h i) m (2^h) (by rw [hl];omega) (by rw [hl];omega) (by rw [hl];omega) (by rw [hl];exact hp.2) (xj _ _) (qL _ _) (fun j hj=>by
  rw [hl]at hj
  unfold ksL
  rw [kx _ h (by omega) j hj];omega) (i:Int) ⟨by omega,by omega⟩ vw hv D hD (by rw [hl];exact hm) hm w hS hk).mono fun e w' ⟨⟨A,c,h1,h2,h3⟩,h4,h5⟩=>⟨⟨A,c,h1,h2,h3⟩,h4,h5⟩
noncomputable def m16 (seed:Int) (h:Nat) (nx:Nat→Nat) (vw:Int) (D n:Nat):List VP:=(List.range n).map (fun j=>vpK seed h (nx (3-j)) vw D (3-j) none 0)
theorem zh9 (seed:Int) (h:Nat) (nx:Nat→Nat) (vw:Int) (D n:Nat):m16 seed h nx vw D (n+1)=m16 seed h nx vw D n++[vpK seed h (nx (3-n)) vw D (3-n) none 0]:=by simp [m16,List.range_succ]
theorem m16_mv {seed:Int} {h:Nat} {nx:Nat→Nat} {vw:Int} {D:Nat} {M:List VP} (hm:MvV (m16 seed h nx vw D 3) M):∃ A1 A2 A3 c1 c2 c3,M=[vpK seed h (nx 3) vw D 3 A3 c3,vpK seed h (nx 2) vw D 2 A2 c2,vpK seed h (nx 1) vw D 1 A1 c1]:=by
 have hl:M.length=3:=by rw [hm.len];simp [m16]
 match M,hl with
 | [a,b,c],_ =>
  obtain⟨A3,c3,e3⟩:=hm.each 0 (by simp [m16]) (by simp)
  obtain⟨A2,c2,e2⟩:=hm.each 1 (by simp [m16]) (by simp)
  obtain⟨A1,c1,e1⟩:=hm.each 2 (by simp [m16]) (by simp)
  refine⟨A1,A2,A3,c1,c2,c3,?_⟩
  simp only [m16,List.getElem_map,List.getElem_range,List.getElem_cons_zero,List.getElem_cons_succ]at e1 e2 e3
  rw [e1,e2,e3]
  rfl
theorem v3_mv {seed:Int} {h m1 m2 m3:Nat} {vw:Int} {D:Nat} {M:List VP} {A1 A2 A3:Option Addr} {c1 c2 c3:Nat} (hm:MvV [vpK seed h m1 vw D 1 A1 c1,vpK seed h m2 vw D 2 A2 c2,vpK seed h m3 vw D 3 A3 c3] M):∃ A1 A2 A3 c1 c2 c3,M=[vpK seed h m1 vw D 1 A1 c1,vpK seed h m2 vw D 2 A2 c2,vpK seed h m3 vw D 3 A3 c3]:=by
 have hl:M.length=3:=by rw [hm.len];rfl
 match M,hl with
 | [a,b,c],_ =>
  obtain⟨B1,b1,e1⟩:=hm.each 0 (by simp) (by simp)
  obtain⟨B2,b2,e2⟩:=hm.each 1 (by simp) (by simp)
  obtain⟨B3,b3,e3⟩:=hm.each 2 (by simp) (by simp)
  refine⟨B1,B2,B3,b1,b2,b3,?_⟩
  simp only [List.getElem_cons_zero,List.getElem_cons_succ]at e1 e2 e3
  rw [e1,e2,e3]
  rfl
theorem yT {S:VP} {P:Nat→Prop} {w w':World} (h:S.at w) (k:Kp P w w') (hn:∀ ad,S.A=some ad→S.l=[]∨¬P ad.block):S.at w':=by
 by_cases hl:S.l=[]
 ·intro j hj;rw [hl]at hj;exact absurd hj (by simp [u64L])
 ·exact(Rd.kp h k (Nat.le_refl _) (fun ad e _=>by
   rcases hn ad e with h1 | h1
   ·exact absurd h1 hl
   ·exact h1)).more k.size
structure MkVo (w:World) (B:Nat) (S0:VP) (lo hi:Nat) (v:Value) (f:Option Addr→Nat→Value):Prop where
 out:∃ A c,v=f A c∧(S0.mv A c).at w∧B≤lo∧(∀ ad,A=some ad→S0.l=[]∨(lo≤ad.block∧ad.block<hi))
theorem MkVo.mk' {w:World} {B:Nat} {S0:VP} {lo hi:Nat} {v:Value} {f:Option Addr→Nat→Value} (A:Option Addr) (c:Nat) (h1:v=f A c) (h2:(S0.mv A c).at w) (h3:B≤lo) (h4:∀ ad,A=some ad→S0.l=[]∨(lo≤ad.block∧ad.block<hi)):MkVo w B S0 lo hi v f:=⟨A,c,h1,h2,h3,h4⟩
theorem MkVo.kp {P:Nat→Prop} {w w':World} {B:Nat} {S0:VP} {lo hi:Nat} {v:Value} {f:Option Addr→Nat→Value} (h:MkVo w B S0 lo hi v f) (k:Kp P w w') (hp:∀ g,P g→g<B):MkVo w' B S0 lo hi v f:=by
 obtain⟨A,c,h1,h2,h3,h4⟩:=h.out
 refine⟨A,c,h1,yT h2 k (fun ad e=>?_),h3,h4⟩
 rcases h4 ad e with h5 | h5
 ·exact .inl h5
 ·exact .inr (fun h6=>by have:=hp _ h6;omega)
theorem MkVo.gr {w w':World} {B:Nat} {S0:VP} {lo hi:Nat} {v:Value} {f:Option Addr→Nat→Value} (h:MkVo w B S0 lo hi v f) (k:Grew w w'):MkVo w' B S0 lo hi v f:=h.kp (P:=fun _=>False) (zi k) (fun _ h=>h.elim)
structure StVo (P:Nat→Prop) (w0:World) (S0:VP) (v:Value) (W:World):Prop where
 out:∃ A c q,v=.pointer (some ⟨q,0,none⟩)∧Ag W q (S0.mv A c).C.toList∧(S0.mv A c).at W∧w0.heap.size≤q∧(∀ ad,A=some ad→S0.l=[]∨w0.heap.size≤ad.block)∧Kp P w0 W
theorem StVo.gr {P:Nat→Prop} {w0:World} {S0:VP} {v:Value} {x y:World} (h:StVo P w0 S0 v x) (g:Grew x y):StVo P w0 S0 v y:=by
 obtain⟨A,c,q,h1,h2,h3,h4,h5,h6⟩:=h.out
 exact⟨A,c,q,h1,h2.grew g,h3.gr g,h4,h5,zC h6 (zi g)⟩
structure MkVk (w:World) (B b p:Nat) (who sd:Int) (l:List Nat) (nx rs:Nat) (S0:VP) (lo hi:Nat) (v:Value) (f:Option Addr→Nat→Value):Prop where
 sk:MkVo w B S0 lo hi v f
 ky:KyAt w b p who sd l nx rs
theorem MkVk.gr {w w':World} {B b p:Nat} {who sd:Int} {l:List Nat} {nx rs:Nat} {S0:VP} {lo hi:Nat} {v:Value} {f:Option Addr→Nat→Value} (h:MkVk w B b p who sd l nx rs S0 lo hi v f) (g:Grew w w'):MkVk w' B b p who sd l nx rs S0 lo hi v f:=⟨h.sk.gr g,h.ky.grew g⟩
structure StVk (P:Nat→Prop) (w0:World) (S0:VP) (b p:Nat) (who sd:Int) (l:List Nat) (nx rs:Nat) (v:Value) (W:World):Prop where
 st:StVo P w0 S0 v W
 ky:KyAt W b p who sd l nx rs
theorem StVk.gr {P:Nat→Prop} {w0:World} {S0:VP} {b p:Nat} {who sd:Int} {l:List Nat} {nx rs:Nat} {v:Value} {x y:World} (h:StVk P w0 S0 b p who sd l nx rs v x) (g:Grew x y):StVk P w0 S0 b p who sd l nx rs v y:=⟨h.st.gr g,h.ky.grew g⟩
structure VqS (w:World) (B0:Nat) (E:List VP) (lo hi:Nat) (v:Value) (f:Option Addr→Nat→Value):Prop where
 out:∃ A c N,v=f A c∧MvV E N∧Vps w A N∧B0≤lo∧(∀ ad,A=some ad→lo≤ad.block∧ad.block<hi)∧(∀ S∈N,∀ ad,S.A=some ad→S.l=[]∨(lo≤ad.block∧ad.block<hi))∧E.length≤c
theorem VqS.gr {w w':World} {B0:Nat} {E:List VP} {lo hi:Nat} {v:Value} {f:Option Addr→Nat→Value} (h:VqS w B0 E lo hi v f) (g:Grew w w'):VqS w' B0 E lo hi v f:=by
 obtain⟨A,c,N,h1,h2,h3,h4,h5,h6⟩:=h.out
 exact⟨A,c,N,h1,h2,h3.gr g,h4,h5,h6⟩
structure VqF (w0:World) (u:Int) (d:Nat) (E:List VP) (v:Value) (W:World):Prop where
 out:∃ A c N q,v=.pointer (some ⟨q,0,none⟩)∧Ag W q (vqC u d A E.length c).toList∧MvV E N∧Vps W A N∧w0.heap.size≤q∧(∀ ad,A=some ad→w0.heap.size≤ad.block)∧(∀ S∈N,∀ ad,S.A=some ad→S.l=[]∨w0.heap.size≤ad.block)∧Grew w0 W∧E.length≤c
theorem VqF.gr {w0:World} {u:Int} {d:Nat} {E:List VP} {v:Value} {x y:World} (h:VqF w0 u d E v x) (g:Grew x y):VqF w0 u d E v y:=by
 obtain⟨A,c,N,q,h1,h2,h3,h4,h5,h6,h7,h8,h9⟩:=h.out
 exact⟨A,c,N,q,h1,h2.grew g,h3,h4.gr g,h5,h6,h7,zc h8 g,h9⟩
def nxd (nx:Nat→Nat) (n:Nat):Nat→Nat:=fun i=>if 3<i+n then nx i+1 else nx i
theorem zgg (seed:Int) (h:Nat) (hh:Hid (h≤4)) (nx:Nat→Nat) (hnx:Hid (∀ i,1≤i→i<4→nx i<2^h)) (b:BK) (hbo:Hid b.ok) (hvw:Hid (vwB b.vw=true)) (D:Nat) (HDE:Hid (bkD b=D)) (w0:World) (hS:Std w0) (p:Nat→Nat) (lad:Addr) (Lc:Nat) (RA:Option Addr) (Rc:Nat) (w:World) (g0:Grew w0 w)
 (hks:keysN seed h p nx w)
 (hap:∀ i j,i<4→j<4→i≠j→p i≠p j∧p i+1≠p j∧p i≠p j+1)
 (hlow:∀ i,i<4→w0.heap.size≤p i+1)
 (hld:∀ i,i<4→w.cell? (lad.add i)=some (.pointer (some ⟨p i+1,0,none⟩)))
 (fl:∀ i,i<4→lad.block≠p i+1) (fr:∀ i,i<4→∀ ad,RA=some ad→ad.block≠p i+1)
 (hRr:Rd w w.heap.size RA (u64L (rtL seed h 4))) (hba:∀ y,Kp (fun j=>∃ i,i<4∧j=p i+1) w y→b.at y) :
 Calls Tryz.prog 45 #[.slice (some lad) 4 Lc,.agg (kyS 1 RA 4 Rc (h:Int)),.agg b.C] w fun e w' =>
  (∃ A c N,e=.returned (.tuple #[.agg (vqC b.vw D A 3 c),.bool true])∧MvV [vpK seed h (nx 1) b.vw D 1 none 0,vpK seed h (nx 2) b.vw D 2 none 0,vpK seed h (nx 3) b.vw D 3 none 0] N∧Vps w' A N∧(∀ ad,A=some ad→w.heap.size≤ad.block)∧(∀ S∈N,∀ ad,S.A=some ad→S.l=[]∨w.heap.size≤ad.block)∧3≤c)∧Kp (fun j=>∃ i,i<4∧j=p i+1) w w'∧keysN seed h p (nxd nx 3) w':=by
 have HS:=hQ9 hS
 have hkt:=Tryz.underlying49
 have hut:=Tryz.underlying69
 have hbt:=Tryz.underlying41
 have hqt:=Tryz.underlying38
 obtain⟨i0,hi,hz0,hz1,hz2⟩:=info_parts qy
 obtain⟨kc,hkc⟩:∃ v,kyS 1 RA 4 Rc (h:Int)=v:=⟨_,rfl⟩
 have HSKL:Hid ((Tryz.prog.info? 49).map (·.size)=some (kyS 1 RA 4 Rc (h:Int)).toList.length):=hQ9 (by kernel_rfl)
 have HKC:Hid ((kpV seed h RA Rc).C=kyS 1 RA 4 Rc (h:Int)):=hQ9 (kpV_C seed h RA Rc)
 rw [hkc]at HSKL HKC ⊢
 have HP:Hid (∀ i,i<4→w0.heap.size≤p i+1∧p i+1<w.heap.size∧p i<w.heap.size):=hQ9 (fun i hi=>⟨hlow i hi,(hks i hi).key.lt,(hks i hi).pub.lt⟩)
 have HAP:=hQ9 hap
 have FL:=hQ9 fl
 have FR:=hQ9 fr
 have HBA:=hQ9 hba
 have HDL:Hid (D<18446744073709551616):=hQ9 (by rw [←HDE.out];exact bkD_lt b)
 have HIV:Hid (in64 b.vw):=hQ9 hbo.out.vw
 have HLB:Hid (lad.block<w.heap.size):=hQ9 (by have:=zW (hld 0 (by decide));rwa [zo]at this)
 have HRB:Hid (∀ ad,RA=some ad→ad.block<w.heap.size):=hQ9 (fun ad e=>by
  obtain⟨ad2,e2,hb,_⟩:=hRr 0 (by simp [u64L,kd])
  rw [e]at e2;cases e2;exact hb)
 have HCV0:Hid (b.C.toList[0]?=some (.int .i64 b.vw)):=hQ9 rfl
 have HSB1:Hid ((Tryz.prog.info? 41).map (·.size)=some b.C.toList.length):=hQ9 yb
 have CD0:=hQ9 (fun W h1 h2=>qz b hbo.out W h1 h2)
 rw [HDE.out]at CD0
 obtain⟨gb,hgb⟩:∃ g,b.C=g:=⟨_,rfl⟩
 rw [hgb]at HCV0 HSB1 CD0 ⊢
 have zk:=((Ag.new w 49 kc).grew (ze (za _) (.cells gb 41))).grew (ze (za _) (.cells (#[.int .i64 0,.int .u64 0,.slice none 0 0]:Array Value) 38))
 have zb:=(Ag.new (w.alloc (.cells kc 49)) 41 gb).grew (ze (za _) (.cells (#[.int .i64 0,.int .u64 0,.slice none 0 0]:Array Value) 38))
 have zt:=Ag.new ((w.alloc (.cells kc 49)).alloc (.cells gb 41)) 38 (#[.int .i64 0,.int .u64 0,.slice none 0 0]:Array Value)
 rw [zl]at zb
 rw [zl,zl]at zt
 have ga:=ze (ze (ze (za w) (.cells kc 49)) (.cells gb 41)) (.cells (#[.int .i64 0,.int .u64 0,.slice none 0 0]:Array Value) 38)
 have hsa:(((w.alloc (.cells kc 49)).alloc (.cells gb 41)).alloc (.cells (#[.int .i64 0,.int .u64 0,.slice none 0 0]:Array Value) 38)).heap.size=w.heap.size+1+1+1:=by rw [zl,zl,zl]
 obtain⟨wa,hwa⟩:∃ v,(((w.alloc (.cells kc 49)).alloc (.cells gb 41)).alloc (.cells (#[.int .i64 0,.int .u64 0,.slice none 0 0]:Array Value) 38))=v:=⟨_,rfl⟩
 rw [hwa]at zk zb zt ga hsa
 have HWA:=hQ9 hwa
 obtain⟨B0,hB0⟩:∃ b,wa.heap.size=b:=⟨_,rfl⟩
 have HBE:Hid (B0=w.heap.size+1+1+1):=hQ9 (by rw [←hB0,hsa])
 have hown0:wa.ownsRow B0 69 24 (.slice none 0 0) 0 (vpL []).flatten:=World.ownsRow_nil _ _ _ _
 have HKS:Hid (keysN seed h p (nxd nx 0) wa):=hQ9 (fun i hi=>by
  have:nxd nx 0 i=nx i:=by unfold nxd;rw [if_neg (by omega)]
  rw [this];exact(hks i hi).grew ga)
 have HLD:Hid (∀ i,i<4→wa.cell? (lad.add i)=some (.pointer (some ⟨p i+1,0,none⟩))):=hQ9 (fun i hi=>(ga.cell (p:=lad.add i) (zW (hld i hi))).trans (hld i hi))
 have rR2:=hRr.gr ga
 have GA:=zc g0 ga
 have KA:Kp (fun j=>∃ i,i<4∧j=p i+1) w wa:=zi ga
 have HBB:=hQ9 (show B0≤wa.heap.size by omega)
 clear hS hkc hks hap hlow hld fl fr hRr hsa ga g0 hB0 hwa hba hgb
 go_enter Tryz.func45,Tryz.ntmps45
 go_wp2_with fail
 rw [HWA.out]
 clear HWA
 go_loopw [8,9] (fun rv iv wr=>∃(n:Nat) (M:List VP),n≤3∧iv=.int .i64 (3-(n:Int))∧B0≤wr.heap.size∧MvV (m16 seed h nx b.vw D n) M∧(∀ S∈M,S.ok)∧(∀ S∈M,S.at wr)∧(∀ S∈M,∀ ad,S.A=some ad→∀ g,rv.ownBlock=some g→S.l=[]∨ad.block≠g)∧(∀ S∈M,∀ ad,S.A=some ad→S.l=[]∨B0≤ad.block)∧wr.ownsRow B0 69 24 rv n (vpL M).flatten∧keysN seed h p (nxd nx n) wr∧Ag wr w.heap.size kc.toList∧Ag wr (w.heap.size+1) gb.toList∧Ag wr (w.heap.size+1+1) (#[.int .i64 0,.int .u64 0,.slice none 0 0]:Array Value).toList∧(∀ i,i<4→wr.cell? (lad.add i)=some (.pointer (some ⟨p i+1,0,none⟩)))∧Rd wr wr.heap.size RA (u64L (rtL seed h 4))∧Kp (fun j=>∃ i,i<4∧j=p i+1) w wr∧Grew w0 wr) (fun _ iv _=>(Go.RowKit.intOf iv).toNat)
 case atStart=>exact⟨0,[],by omega,rfl,HBB.out,by simpa [m16]using MvV.nil,by simp,by simp,by simp,by simp,hown0,HKS.out,zk,zb,zt,HLD.out,rR2,KA,GA⟩
 case round =>
  clear HKS HLD zk zb zt rR2 GA KA hown0 HBB
  obtain⟨n,M,hn,rfl,hB0,hmv,hok,hat,hne,hlow,hrow,hks,zk,zb,zt,hld,rRr,hkp,hg⟩:=hrel
  by_cases hlt:n<3
  ·obtain⟨ii,hii,hin⟩:∃ ii:Nat,3-(n:Int)=(ii:Int)∧ii+n=3:=⟨3-n,by omega,by omega⟩
   rw [hii]
   have h0:(0:Int)<(ii:Int):=by omega
   have e33:decide (0<ii)=true:=decide_eq_true (by omega)
   have e33b:decide ((0:Int)<(ii:Int))=true:=decide_eq_true h0
   have h00:(0:Int)≤(ii:Int):=by omega
   have h4:(ii:Int)<4:=by omega
   have hi4:ii<4:=by omega
   have e44:decide (ii<4)=true:=decide_eq_true hi4
   have e35:IntKind.i64.wrap ((ii:Int)-1)=(ii:Int)-1:=IntWalk.i64_in _ (by omega)
   have HPI:=hQ9 (HP.out ii hi4)
   have HSB:Hid (∀ g,(fun j=>j=p ii+1) g→g<wr.heap.size):=hQ9 (fun g h=>by
    have h1:g=p ii+1:=h
    have:=HPI.out;have:=HBE.out;omega)
   have HSY:Hid (∀ y,Kp (fun j=>j=p ii+1) wr y→Std y):=hQ9 (fun y k=>HS.out.grew (zK hg k hg.size (fun i (hi:i=p ii+1)=>by have:=HPI.out;omega)))
   have HBY:Hid (∀ y,Kp (fun j=>j=p ii+1) wr y→b.at y):=hQ9 (fun y k=>HBA.out y (zC hkp (qE k (fun i (h:i=p ii+1)=>⟨ii,hi4,h⟩))))
   have HLC:Hid (∀ y,Kp (fun j=>j=p ii+1) wr y→y.cell? (lad.add ii)=some (.pointer (some ⟨p ii+1,0,none⟩))):=hQ9 (fun y k=>(World.cell?_of_block (by rw [zo];exact k.block lad.block (by have:=zW (hld ii hi4);rwa [zo]at this) (FL.out ii hi4))).trans (hld ii hi4))
   have HCB:Hid (∀ y,Kp (fun j=>j=p ii+1) wr y→y.rangeAt (w.heap.size+1) 0 gb.toList):=hQ9 (fun y k=>(zb.kp k (fun h=>by have h:w.heap.size+1=p ii+1:=h;have:=HPI.out;omega)).cell)
   have HCV:Hid (∀ y,Kp (fun j=>j=p ii+1) wr y→y.cell? ⟨w.heap.size+1,0,none⟩=some (.int .i64 b.vw)):=hQ9 (fun y k=>by simpa using HCB.out y k 0 _ HCV0.out)
   have hnd:nxd nx n ii=nx ii:=by unfold nxd;rw [if_neg (by omega)]
   have HKY:Hid (∀ y,Grew wr y→KyAt y (p ii+1) (p ii) (ii:Int) (sdI seed ii) (ksL seed h ii) (nx ii) (2^h)):=hQ9 (fun y k=>by
    have:=(hks ii hi4).grew k
    rwa [hnd]at this)
   obtain⟨S0,hS0⟩:∃ S,vpK seed h (nx ii) b.vw D ii none 0=S:=⟨_,rfl⟩
   have CM:Hid (∀ W,Std W→KyAt W (p ii+1) (p ii) (ii:Int) (sdI seed ii) (ksL seed h ii) (nx ii) (2^h)→Calls Tryz.prog 43 #[.pointer (some ⟨p ii+1,0,none⟩),.int .i64 (ii:Int),.int .i64 b.vw,.int .u64 (D:Int)] W fun e w' =>
    (∃ A c,e=.returned (.tuple #[.agg (S0.mv A c).C,.int .i64 0])∧(S0.mv A c).at w'∧(∀ ad,A=some ad→W.heap.size≤ad.block))∧Tn (p ii+1) W w'∧KyAt w' (p ii+1) (p ii) (ii:Int) (sdI seed ii) (ksL seed h ii) (nx ii+1) (2^h)):=hQ9 (fun W h1 h2=>by
    have:=zjr seed h ii (nx ii) hh.out hi4 (hnx.out ii (by omega) hi4) (p ii) b.vw HIV.out D HDL.out W h1 h2
    rw [←hS0]
    exact this)
   have HL16:Hid (m16 seed h nx b.vw D (n+1)=m16 seed h nx b.vw D n++[S0]):=hQ9 (by rw [←hS0,zh9,show 3-n=ii by omega])
   have HSO:Hid S0.ok:=hQ9 (by rw [←hS0];exact vpK_ok seed h (nx ii) hh.out (hnx.out ii (by omega) hi4) b.vw HIV.out D HDL.out ii hi4 none 0)
   have HIN:=hQ9 hin
   have HMV:=hQ9 hmv
   have HOKM:=hQ9 hok
   have HAT:=hQ9 hat
   have HNE:=hQ9 hne
   have HLW:=hQ9 hlow
   have HROW:=hQ9 hrow
   have HKS:=hQ9 hks
   have HZK:=hQ9 zk
   have HZB:=hQ9 zb
   have HZT:=hQ9 zt
   have HLD:=hQ9 hld
   have HRR:=hQ9 rRr
   have HGG:=hQ9 hg
   have HKP:=hQ9 hkp
   have HBW:=hQ9 hB0
   have HI4:=hQ9 hi4
   clear hS0 hii hin hmv hok hat hne hlow hrow hks zk zb zt hld rRr hg hkp hB0 hlt hn hnd
   go_upto_region 5 with fail
   refine kQ 14 15 9 (fun j=>j=p ii+1) (fun ix9=>match ix9 with
    | 0=>fun v=>v=.slice (some lad) 4 Lc
    | 1=>fun v=>v=.int .i64 (ii:Int)
    | 2=>fun v=>v=.pointer (some (lad.add ii))
    | 3=>fun v=>v=.pointer (some ⟨p ii+1,0,none⟩)
    | 4=>fun v=>v=.int .i64 (ii:Int)
    | 5=>fun v=>v=.pointer (some ⟨w.heap.size+1,0,none⟩)
    | 6=>fun v=>v=.int .i64 b.vw
    | 7=>fun v=>v=.agg gb
    | 8=>fun v=>v=.int .u64 (D:Int)
    | 9=>fun _=>True
    | 10=>fun v=>∃ A c,v=.tuple #[.agg (S0.mv A c).C,.int .i64 0]
    | 11=>fun _=>True
    | 12=>fun v=>v=.int .i64 0
    | 13=>fun _=>True
    | 14=>fun _=>True
    | _=>fun _=>True) (fun ix9=>match ix9 with
    | 9=>fun lo hi v w=>MkVk w wr.heap.size (p ii+1) (p ii) (ii:Int) (sdI seed ii) (ksL seed h ii) (nx ii+1) (2^h) S0 lo hi v (fun A c=>.tuple #[.agg (S0.mv A c).C,.int .i64 0])
    | 10=>fun lo hi v w=>MkVo w wr.heap.size S0 lo hi v (fun A c=>.tuple #[.agg (S0.mv A c).C,.int .i64 0])
    | 11=>fun lo hi v w=>MkVo w wr.heap.size S0 lo hi v (fun A c=>.agg (S0.mv A c).C)
    | 13=>fun lo hi v w=>AgZ w wr.heap.size lo hi (#[.int .i64 0,.int .u64 0,.int .i64 0,.int .i64 0,.int .i64 0,.int .u64 0,.int .u64 0,.int .u64 0,.int .u64 0,.int .u64 0,.int .u64 0,.int .u64 0,.int .u64 0,.int .u64 0,.int .u64 0,.int .u64 0,.int .u64 0,.int .u64 0,.int .u64 0,.int .u64 0,.int .u64 0,.int .u64 0,.int .u64 0,.slice none 0 0]:Array Value).toList v
    | _=>fun _ _ _ _=>True) (fun ix9=>match ix9 with
    | 10=>9
    | 11=>10
    | ix8=>ix8) (fun ix9=>match ix9 with
    | 10=>9
    | 11=>9
    | ix8=>ix8) (fun ix9=>match ix9 with
    | 12=>true
    | _=>false) 13 (fun v W=>StVk (fun j=>j=p ii+1) wr S0 (p ii+1) (p ii) (ii:Int) (sdI seed ii) (ksL seed h ii) (nx ii+1) (2^h) v W) rfl (by kernel_rfl) (by kernel_rfl) (by kernel_rfl) (by kernel_rfl) rfl rfl (by decide) (fun _=>trivial) ?_ ?_ ?_ ?_ ?_ (fun o ho=>by cases ho;rfl) (fun v x y h hg=>StVk.gr h hg) ?_
   ·simp only [actOf,tk1,tk0,dr1,dr0,Act.put,si1,st1,st0,Nat.reduceAdd]
    refine⟨?_,?_,?_,?_,?_,?_,?_,?_,?_,?_,?_,?_,?_,?_,trivial⟩
    ·intro vs lo hi y hg hd hvia
     replace hg:Kp (fun j=>j=p ii+1) wr y:=hg
     clear hvia
     dsimp only
     go_wp2_with fail
     first | exact⟨rfl,_,rfl,za _,rfl⟩ | exact⟨rfl,_,rfl,za _,rfl,trivial⟩
    ·intro vs lo hi y hg hd hvia
     replace hg:Kp (fun j=>j=p ii+1) wr y:=hg
     clear hvia
     dsimp only
     go_wp2_with fail
     first | exact⟨rfl,_,rfl,za _,rfl⟩ | exact⟨rfl,_,rfl,za _,rfl,trivial⟩
    ·intro vs lo hi y hg hd hvia
     replace hg:Kp (fun j=>j=p ii+1) wr y:=hg
     obtain⟨h0,h1,_⟩:=hd
     replace h0:=h0 rfl
     replace h1:=h1 rfl
     clear hvia
     dsimp only
     rw [show vs 0=_ from h0,show vs 1=_ from h1]
     go_wp2_with fail
     first | exact⟨rfl,_,rfl,za _,rfl⟩ | exact⟨rfl,_,rfl,za _,rfl,trivial⟩
    ·intro vs lo hi y hg hd hvia
     replace hg:Kp (fun j=>j=p ii+1) wr y:=hg
     obtain⟨h2,_⟩:=hd
     replace h2:=h2 rfl
     clear hvia
     dsimp only
     rw [show vs 2=_ from h2]
     have hc:=HLC.out y hg
     go_wp2_with fail
     first | exact⟨rfl,_,rfl,za _,rfl⟩ | exact⟨rfl,_,rfl,za _,rfl,trivial⟩
    ·intro vs lo hi y hg hd hvia
     replace hg:Kp (fun j=>j=p ii+1) wr y:=hg
     clear hvia
     dsimp only
     go_wp2_with fail
     first | exact⟨rfl,_,rfl,za _,rfl⟩ | exact⟨rfl,_,rfl,za _,rfl,trivial⟩
    ·intro vs lo hi y hg hd hvia
     replace hg:Kp (fun j=>j=p ii+1) wr y:=hg
     clear hvia
     dsimp only
     go_wp2_with fail
     first | exact⟨rfl,_,rfl,za _,rfl⟩ | exact⟨rfl,_,rfl,za _,rfl,trivial⟩
    ·intro vs lo hi y hg hd hvia
     replace hg:Kp (fun j=>j=p ii+1) wr y:=hg
     obtain⟨h5,_⟩:=hd
     replace h5:=h5 rfl
     clear hvia
     dsimp only
     rw [show vs 5=_ from h5]
     have hc:=HCV.out y hg
     go_wp2_with fail
     first | exact⟨rfl,_,rfl,za _,rfl⟩ | exact⟨rfl,_,rfl,za _,rfl,trivial⟩
    ·intro vs lo hi y hg hd hvia
     replace hg:Kp (fun j=>j=p ii+1) wr y:=hg
     clear hvia
     dsimp only
     have hm:=HCB.out y hg
     go_wp2_with(with_reducible refine wpList_load_mid rfl 41 (.tmp 5) rfl (w.heap.size+1) 0 rfl gb.toList _ hm hbt rfl HSB1.out ?_;simp only [Array.toArray_toList])
     first | exact⟨rfl,_,rfl,za _,rfl⟩ | exact⟨rfl,_,rfl,za _,rfl,trivial⟩
    ·intro vs lo hi y hg hd hvia
     replace hg:Kp (fun j=>j=p ii+1) wr y:=hg
     obtain⟨h7,_⟩:=hd
     replace h7:=h7 rfl
     clear hvia
     dsimp only
     rw [show vs 7=_ from h7]
     have hgS:=HSY.out y hg
     have hgB:=HBY.out y hg
     go_wp2_with(go_at_call 19;refine(CD0.out y hgS hgB).mono ?_;rintro e z ⟨rfl,gz⟩)
     exact⟨rfl,_,rfl,gz,rfl,trivial⟩
    ·intro vs lo hi y hg hd hvia
     replace hg:Grew wr y:=hg
     obtain⟨h3,h4,h6,h8,_⟩:=hd
     replace h3:=h3 rfl
     replace h4:=h4 rfl
     replace h6:=h6 rfl
     replace h8:=h8 rfl
     clear hvia
     dsimp only
     rw [show vs 3=_ from h3,show vs 4=_ from h4,show vs 6=_ from h6,show vs 8=_ from h8]
     have hgS:=HSY.out y (zi hg)
     have hKY:=HKY.out y hg
     go_wp2_with(go_at_call 43;refine(CM.out y hgS hKY).mono ?_;rintro e z ⟨⟨A9,c9,rfl,hat9,hfr9⟩,ht9,hk9⟩)
     exact⟨rfl,_,rfl,kp_tn ht9,trivial,⟨⟨A9,c9,rfl,hat9,hg.size,fun ad h=>(ya hat9 ad h).imp id (fun h2=>⟨hfr9 ad h,h2⟩)⟩,hk9⟩⟩
    ·intro vs lo hi y hg hd hvia
     replace hg:Kp (fun j=>j=p ii+1) wr y:=hg
     obtain⟨h9,_⟩:=hd
     replace h9:=h9 rfl
     have hv9:(fun lo hi v w=>MkVk w wr.heap.size (p ii+1) (p ii) (ii:Int) (sdI seed ii) (ksL seed h ii) (nx ii+1) (2^h) S0 lo hi v (fun A c=>.tuple #[.agg (S0.mv A c).C,.int .i64 0])) (lo 9) (hi 9) (vs 9) y:=hvia rfl
     clear hvia
     dsimp only
     obtain⟨A9,c9,e9,hat9,hb9,hr9⟩:=MkVo.out (MkVk.sk hv9)
     rw [e9]
     go_wp2_with fail
     exact⟨rfl,_,rfl,za _,⟨A9,⟨c9,rfl⟩⟩,⟨A9,c9,rfl,hat9,hb9,hr9⟩⟩
    ·intro vs lo hi y hg hd hvia
     replace hg:Kp (fun j=>j=p ii+1) wr y:=hg
     obtain⟨h10,_⟩:=hd
     replace h10:=h10 rfl
     have hv9:(fun lo hi v w=>MkVo w wr.heap.size S0 lo hi v (fun A c=>.tuple #[.agg (S0.mv A c).C,.int .i64 0])) (lo 10) (hi 10) (vs 10) y:=hvia rfl
     clear hvia
     dsimp only
     obtain⟨A9,c9,e9,hat9,hb9,hr9⟩:=MkVo.out hv9
     rw [e9]
     go_wp2_with fail
     exact⟨rfl,_,rfl,za _,⟨A9,c9,rfl,hat9,hb9,hr9⟩⟩
    ·intro vs lo hi y hg hd hvia
     replace hg:Kp (fun j=>j=p ii+1) wr y:=hg
     obtain⟨h10,_⟩:=hd
     replace h10:=h10 rfl
     clear hvia
     dsimp only
     obtain⟨A9,c9,e9⟩:=h10
     rw [e9]
     go_wp2_with fail
     first | exact⟨rfl,_,rfl,za _,rfl⟩ | exact⟨rfl,_,rfl,za _,rfl,trivial⟩
    ·intro vs lo hi y hg hd hvia
     replace hg:Kp (fun j=>j=p ii+1) wr y:=hg
     clear hvia
     dsimp only
     go_wp2_with fail
     exact⟨rfl,_,rfl,ze (za _) _,⟨y.heap.size,rfl,Ag.new y 69 (#[.int .i64 0,.int .u64 0,.int .i64 0,.int .i64 0,.int .i64 0,.int .u64 0,.int .u64 0,.int .u64 0,.int .u64 0,.int .u64 0,.int .u64 0,.int .u64 0,.int .u64 0,.int .u64 0,.int .u64 0,.int .u64 0,.int .u64 0,.int .u64 0,.int .u64 0,.int .u64 0,.int .u64 0,.int .u64 0,.int .u64 0,.slice none 0 0]:Array Value),hg.size,Nat.le_refl _,by show y.heap.size<(y.alloc _).heap.size;simp⟩⟩
   ·refine⟨(fun h=>absurd h (by decide)),(fun h=>absurd h (by decide)),(fun h=>absurd h (by decide)),(fun h=>absurd h (by decide)),(fun h=>absurd h (by decide)),(fun h=>absurd h (by decide)),(fun h=>absurd h (by decide)),(fun h=>absurd h (by decide)),(fun h=>absurd h (by decide)),(fun h=>absurd h (by decide)),(fun h=>absurd h (by decide)),(fun h=>absurd h (by decide)),?_,(fun h=>absurd h (by decide)),(fun h=>absurd h (by decide)),trivial⟩
    ·intro _ vs y hd
     obtain⟨h10,_⟩:=hd
     replace h10:=h10 rfl
     simp only [actOf,tk1,tk0,dr1,dr0,Act.put,si1,st1,st0,Nat.reduceAdd]
     obtain⟨A9,c9,e9⟩:=h10
     rw [e9]
     go_wp2_with fail
     first | exact⟨rfl,_,rfl,za _,rfl⟩ | exact⟨rfl,_,rfl,za _,rfl,trivial⟩
   ·intro lo hi v x y h hg
    exact MkVk.gr h hg
   ·intro i lo hi v x y hne hx h hg
    match i,h with
    | 9,h=>exact absurd rfl hne
    | 10,h=>exact MkVo.kp h hg HSB.out
    | 11,h=>exact MkVo.kp h hg HSB.out
    | 13,h=>exact AgZ.kp h hg HSB.out
    | 0,_=>trivial
    | 1,_=>trivial
    | 2,_=>trivial
    | 3,_=>trivial
    | 4,_=>trivial
    | 5,_=>trivial
    | 6,_=>trivial
    | 7,_=>trivial
    | 8,_=>trivial
    | 12,_=>trivial
    | m+14,_=>trivial
   ·intro vs lo hi y hg hJ hK hB hD
    replace hg:Kp (fun j=>j=p ii+1) wr y:=hg
    have k34:=hK 9 (by decide) rfl
    have b34:=hB 9 (by decide) rfl
    have k24:=hK 10 (by decide) rfl
    have b24:=hB 10 (by decide) rfl
    have k35:=hK 11 (by decide) rfl
    have b35:=hB 11 (by decide) rfl
    have k10:=hK 13 (by decide) rfl
    have b10:=hB 13 (by decide) rfl
    have d34_10:=hD 9 (by decide) rfl 13 (by decide) rfl (by decide)
    have d24_10:=hD 10 (by decide) rfl 13 (by decide) rfl (by decide)
    have d35_10:=hD 11 (by decide) rfl 13 (by decide) rfl (by decide)
    clear hK hB hD
    have j0:vs 0=.slice (some lad) 4 Lc:=hJ 0 (by decide) rfl
    have j1:vs 1=.int .i64 (ii:Int):=hJ 1 (by decide) rfl
    have j2:vs 2=.pointer (some (lad.add ii)):=hJ 2 (by decide) rfl
    have j3:vs 3=.pointer (some ⟨p ii+1,0,none⟩):=hJ 3 (by decide) rfl
    have j4:vs 4=.int .i64 (ii:Int):=hJ 4 (by decide) rfl
    have j5:vs 5=.pointer (some ⟨w.heap.size+1,0,none⟩):=hJ 5 (by decide) rfl
    have j6:vs 6=.int .i64 b.vw:=hJ 6 (by decide) rfl
    have j7:vs 7=.agg gb:=hJ 7 (by decide) rfl
    have j8:vs 8=.int .u64 (D:Int):=hJ 8 (by decide) rfl
    clear hJ
    simp only [actOf,tk1,tk0,dr1,dr0,Act.put,si1,st1,st0,Nat.reduceAdd]
    obtain⟨A1,c1,e35,hat1,hb1,hr1⟩:=MkVo.out k35
    obtain⟨q,e10,zq,hBq,hql,hqh⟩:=AgZ.out k10
    rw [e35,e10]
    have hky:=MkVk.ky k34
    have hPI:=HPI.out
    have hqb:=HBE.out
    have hbz:=HBW.out
    have HNQ:Hid (∀ ad,A1=some ad→S0.l=[]∨ad.block≠q):=hQ9 (fun ad h=>by
     rcases hr1 ad h with h1 | h1
     ·exact .inl h1
     ·exact .inr (by rcases d35_10 with h2 | h2<;>omega))
    have HLO1:Hid (∀ ad,A1=some ad→S0.l=[]∨wr.heap.size≤ad.block):=hQ9 (fun ad h=>(hr1 ad h).imp id (fun h1=>by omega))
    obtain⟨gs,hgs⟩:∃ g,(S0.mv A1 c1).C=g:=⟨_,rfl⟩
    have hz24:gs.size=24:=by rw [←hgs];rfl
    have HTH:Hid (y.there q 0 gs.size):=hQ9 (zq.thereN gs.size (by rw [hz24];rfl))
    have HSI:Hid ((Tryz.prog.info? 69).map (·.size)=some gs.size):=hQ9 (by rw [hz24];exact zF)
    have HON:Hid (gs.all (·.oneCell')=true):=hQ9 (by rw [←hgs];exact(S0.mv A1 c1).one)
    have z4:=Ag.set (vs:=gs.toList) zq (by rw [Array.length_toList,hz24];rfl)
    have k4:=zu gs.toList q 0 y
    have HF:Hid (StVk (fun j=>j=p ii+1) wr S0 (p ii+1) (p ii) (ii:Int) (sdI seed ii) (ksL seed h ii) (nx ii+1) (2^h) (.pointer (some ⟨q,0,none⟩)) (y.setCells q 0 gs.toList)):=hQ9 ⟨⟨A1,c1,q,rfl,by rw [hgs];exact z4,yT hat1 k4 (fun ad h=>HNQ.out ad h),by omega,HLO1.out,zbk hg k4 (by omega)⟩,hky.kp k4 (fun h=>by have h:p ii+1=q:=h;omega) (fun h=>by have h:p ii=q:=h;omega)⟩
    rw [hgs]
    clear hgs hg z4 k4 zq hat1 hky
    generalize gs=gs' at *
    go_wp2_with(with_reducible refine wpList_store_mid rfl 69 (.tmp 10) (.tmp 35) rfl q 0 gs' rfl rfl HTH.out HSI.out HON.out ?_)
    exact HF.out
   ·intro vs w4 hF hJ
    have j0:vs 0=.slice (some lad) 4 Lc:=hJ 0 (by decide)
    have j1:vs 1=.int .i64 (ii:Int):=hJ 1 (by decide)
    have j2:vs 2=.pointer (some (lad.add ii)):=hJ 2 (by decide)
    have j3:vs 3=.pointer (some ⟨p ii+1,0,none⟩):=hJ 3 (by decide)
    have j4:vs 4=.int .i64 (ii:Int):=hJ 4 (by decide)
    have j5:vs 5=.pointer (some ⟨w.heap.size+1,0,none⟩):=hJ 5 (by decide)
    have j6:vs 6=.int .i64 b.vw:=hJ 6 (by decide)
    have j7:vs 7=.agg gb:=hJ 7 (by decide)
    have j8:vs 8=.int .u64 (D:Int):=hJ 8 (by decide)
    have j12:vs 12=.int .i64 0:=hJ 12 (by decide)
    clear hJ
    simp only [actOf,tk1,tk0,dr1,dr0,Act.put,si1,st1,st0,Nat.reduceAdd]
    obtain⟨⟨A1,c1,q,e5,z4,hat4,hq4,hlo4,kk⟩,hky4⟩:=hF
    rw [e5,show vs 12=_ from j12]
    have HKY4:=hQ9 hky4
    have HFR:Hid (∀ ad,A1=some ad→S0.l=[]∨wr.heap.size≤ad.block):=hQ9 hlo4
    obtain⟨gs,hgs⟩:∃ g,(S0.mv A1 c1).C=g:=⟨_,rfl⟩
    rw [hgs]at z4
    have HGS:=hQ9 hgs
    have hz24:gs.size=24:=by rw [←hgs];rfl
    have HSL:Hid ((Tryz.prog.info? 69).map (·.size)=some gs.toList.length):=hQ9 (by rw [Array.length_toList,hz24];exact zF)
    have hbw:=HBW.out
    have hpi:=HPI.out
    have hqb:=HBE.out
    have HAT4:Hid (∀ S∈M,S.at w4):=hQ9 (fun S hS=>yT (HAT.out S hS) kk (fun ad h=>(HLW.out S hS ad h).imp id (fun h1 h3=>by omega)))
    have HROW4:=hQ9 (zv HROW.out kk (fun g h h3=>by
     have h1:=zG HROW.out g h
     omega))
    have HKS4:Hid (keysN seed h p (nxd nx (n+1)) w4):=hQ9 (fun i hi4=>by
     by_cases hik:i=ii
     ·subst hik
      have:nxd nx (n+1) i=nx i+1:=by unfold nxd;rw [if_pos (by have:=HIN.out;omega)]
      rw [this];exact HKY4.out
     ·have:nxd nx (n+1) i=nxd nx n i:=by
       unfold nxd
       have:=HIN.out
       by_cases h1:3<i+n
       ·rw [if_pos h1,if_pos (by omega)]
       ·rw [if_neg h1,if_neg (by omega)]
      rw [this]
      have h2:=HAP.out i ii hi4 HI4.out hik
      exact(HKS.out i hi4).kp kk (fun h=>by omega) (fun h=>by omega))
    have HZK4:=hQ9 (HZK.out.kp kk (fun h=>by have h:w.heap.size=p ii+1:=h;omega))
    have HZB4:=hQ9 (HZB.out.kp kk (fun h=>by have h:w.heap.size+1=p ii+1:=h;omega))
    have HZT4:=hQ9 (HZT.out.kp kk (fun h=>by have h:w.heap.size+1+1=p ii+1:=h;omega))
    have HLD4:Hid (∀ i,i<4→w4.cell? (lad.add i)=some (.pointer (some ⟨p i+1,0,none⟩))):=hQ9 (fun i hi=>by
     have h1:=zW (HLD.out i hi)
     rw [zo]at h1
     exact(World.cell?_of_block (by rw [zo];exact kk.block lad.block h1 (FL.out ii HI4.out))).trans (HLD.out i hi))
    have HRR4:=hQ9 ((HRR.out.kp kk (Nat.le_refl _) (fun ad e h1 h=>FR.out ii HI4.out ad e h)).more kk.size)
    have HGG4:=hQ9 (zK HGG.out kk HGG.out.size (fun i (h:i=p ii+1)=>by omega))
    have HKP4:Hid (Kp (fun j=>∃ i,i<4∧j=p i+1) w w4):=hQ9 (zC HKP.out (qE kk (fun i (h:i=p ii+1)=>⟨ii,HI4.out,h⟩)))
    have HBW4:Hid (wr.heap.size≤w4.heap.size):=hQ9 kk.size
    have HAT5:=hQ9 hat4
    have hrow4:=HROW4.out
    have hsz4:=HBW4.out
    have hm4:=z4.cell
    have hqw4:=z4.lt
    have hww:=HGG4.out.size
    clear hz24 hky4 z4 kk hbw hpi hqb hgs j12 e5 hat4 hq4 hlo4
    clear j0 j1 j2 j3 j4 j5 j6 j7 j8
    clear HAT HKS HZK HZB HZT HLD HRR
    have ga:=ze (za w4) (.cells gs 69)
    have HTS:Hid ((vpL M).flatten++gs.toList=(vpL (M++[S0.mv A1 c1])).flatten):=hQ9 (by rw [yV,HGS.out])
    have HONE:Hid (∀ u∈gs.toList,u.oneCell'=true):=hQ9 (by rw [←HGS.out];exact(S0.mv A1 c1).one')
    have HLEN:Hid (gs.toList.length=24):=hQ9 (by rw [←HGS.out];rfl)
    have HFOLD:Hid (Array.foldl (fun(cs:Array Value) (x:Value × Nat)=>cs.setIfInBounds x.snd x.fst) (#[.int .i64 0,.int .u64 0,.int .i64 0,.int .i64 0,.int .i64 0,.int .u64 0,.int .u64 0,.int .u64 0,.int .u64 0,.int .u64 0,.int .u64 0,.int .u64 0,.int .u64 0,.int .u64 0,.int .u64 0,.int .u64 0,.int .u64 0,.int .u64 0,.int .u64 0,.int .u64 0,.int .u64 0,.int .u64 0,.int .u64 0,.slice none 0 0]:Array Value) gs.zipIdx 0 24=gs):=hQ9 (by rw [←HGS.out];exact xk (S0.mv A1 c1))
    have hgs24:gs.size=24:=by rw [←HGS.out];rfl
    have hin9:=HI4.out
    have hin8:=HIN.out
    have hb9:B0≤w4.heap.size:=by have:=HBW.out;omega
    go_wp2_with(first
     | (with_reducible refine wpList_load_mid rfl 69 (.tmp 10) rfl q 0 rfl gs.toList _ hm4 hut rfl HSL.out ?_;simp only [Array.toArray_toList])
     | (at_builtin;rw [HFOLD.out];refine zX _ rfl (.tmp 40) (.tmp 42) 36 rfl B0 69 i0 (.agg (#[.int .i64 0,.int .u64 0,.int .i64 0,.int .i64 0,.int .i64 0,.int .u64 0,.int .u64 0,.int .u64 0,.int .u64 0,.int .u64 0,.int .u64 0,.int .u64 0,.int .u64 0,.int .u64 0,.int .u64 0,.int .u64 0,.int .u64 0,.int .u64 0,.int .u64 0,.int .u64 0,.int .u64 0,.int .u64 0,.int .u64 0,.slice none 0 0]:Array Value)) 24 208 Tryz.underlying36 hi hz0 hz1 hz2 rfl (by decide) _ _ _ rfl (hrow4.alloc _) ⟨w4.heap.size,0,none⟩ 1 1 gs.toList rfl (by rw [HLEN.out]) (fun j u hj=>yS w4 gs 69 j u hj) HONE.out (by unfold maxLen;omega) (by omega) (by simp;omega) ?_;intro v' w5 hown5 hgrow5 hob5))
    go_roundw
    case rel =>
     have K5:Kp (fun g=>B0≤g) w4 w5:=yC (zi ga) hgrow5 (fun g e=>.inl (zw hrow4 g e))
     have hpi:=HPI.out
     have hqb:=HBE.out
     have hsz5:=K5.size
     have hob:=zG HROW.out
     refine⟨n+1,M++[S0.mv A1 c1],by omega,(by go_num),by omega,by rw [HL16.out];exact HMV.out.snoc S0 A1 c1,?_,?_,?_,?_,by rw [←HTS.out];exact hown5,?_,?_,?_,?_,?_,?_,?_,?_⟩
     ·intro T hT
      rcases List.mem_append.1 hT with h | h
      ·exact HOKM.out T h
      ·obtain rfl:T=S0.mv A1 c1:=by simpa using h
       exact VP.mv_ok HSO.out _ _
     ·intro T hT
      rcases List.mem_append.1 hT with h | h
      ·exact yD ((HAT4.out T h).gr ga) hgrow5 (fun ad e g hg=>HNE.out T h ad e g hg)
      ·obtain rfl:T=S0.mv A1 c1:=by simpa using h
       exact yD (HAT5.out.gr ga) hgrow5 (fun ad e g hg=>by
        rcases HFR.out ad e with h1 | h1
        ·exact .inl h1
        ·have:=(hob g hg).2
         exact .inr (by omega))
     ·intro T hT ad e g hg
      have hlt9:T.l=[]∨ad.block<(w4.alloc (.cells gs 69)).heap.size:=by
       rcases List.mem_append.1 hT with h | h
       ·exact ya ((HAT4.out T h).gr ga) ad e
       ·obtain rfl:T=S0.mv A1 c1:=by simpa using h
        exact ya (HAT5.out.gr ga) ad e
      rcases hob5 with h3 | h3
      ·rw [h3]at hg
       rcases List.mem_append.1 hT with h | h
       ·exact HNE.out T h ad e g hg
       ·obtain rfl:T=S0.mv A1 c1:=by simpa using h
        rcases HFR.out ad e with h1 | h1
        ·exact .inl h1
        ·have:=(hob g hg).2
         exact .inr (by omega)
      ·rw [h3]at hg;injection hg with hg
       rcases hlt9 with h1 | h1
       ·exact .inl h1
       ·exact .inr (by omega)
     ·intro T hT ad e
      rcases List.mem_append.1 hT with h | h
      ·exact HLW.out T h ad e
      ·obtain rfl:T=S0.mv A1 c1:=by simpa using h
       rcases HFR.out ad e with h1 | h1
       ·exact .inl h1
       ·exact .inr (by have:=HBW.out;omega)
     ·intro i hi2
      have h1:=HP.out i hi2
      exact(HKS4.out i hi2).kp K5 (by omega) (by omega)
     ·exact HZK4.out.kp K5 (by omega)
     ·exact HZB4.out.kp K5 (by omega)
     ·exact HZT4.out.kp K5 (by omega)
     ·intro i hi
      have h1:=zW (HLD4.out i hi)
      have h2:=HLB.out
      rw [zo]at h1
      exact(World.cell?_of_block (by rw [zo];exact K5.block lad.block h1 (by omega))).trans (HLD4.out i hi)
     ·exact(HRR4.out.kp K5 (Nat.le_refl _) (fun ad e h1 h=>by have:=HRB.out ad e;omega)).more K5.size
     ·have hK:=HKP4.out
      exact⟨K5.os.trans hK.os,K5.tape.trans hK.tape,K5.output.trans hK.output,by have:=hK.size;omega,fun i hi hn=>(K5.block i (by have:=hK.size;omega) (by omega)).trans (hK.block i hi hn)⟩
     ·exact zK HGG4.out K5 HGG4.out.size (fun i hi=>by have:=HPI.out;omega)
    case measure=>simp [Go.RowKit.intOf]<;>omega
  ·obtain rfl:n=3:=by omega
   rw [show(3:Int)-((3:Nat):Int)=0 from rfl]
   obtain⟨A1,A2,A3,c1,c2,c3,hM⟩:=m16_mv hmv
   have hml:M.length=3:=by rw [hM];rfl
   obtain⟨AB,cB,rfl,hB,hcc1,hcc2,hbB⟩:=yB hrow hml
   have hVp:Vps wr AB M:=⟨hB,hok,hat⟩
   have hn1:=hnx.out 1 (by omega) (by omega)
   have hn2:=hnx.out 2 (by omega) (by omega)
   have hn3:=hnx.out 3 (by omega) (by omega)
   obtain⟨E,hE⟩:∃ E,[vpK seed h (nx 1) b.vw D 1 A1 c1,vpK seed h (nx 2) b.vw D 2 A2 c2,vpK seed h (nx 3) b.vw D 3 A3 c3]=E:=⟨_,rfl⟩
   have HE3:Hid (E.length=3):=hQ9 (by rw [←hE];rfl)
   have HEE:=hQ9 hE
   have HSY:Hid (∀ y,Grew wr y→Std y):=hQ9 (fun y g=>HS.out.grew (zc hg g))
   have HBY:Hid (∀ y,Grew wr y→b.at y):=hQ9 (fun y g=>HBA.out y (zC hkp (zi g)))
   have HKM:Hid (∀ y,Grew wr y→y.rangeAt w.heap.size 0 kc.toList):=hQ9 (fun y g=>(zk.grew g).cell)
   have HCB:Hid (∀ y,Grew wr y→y.rangeAt (w.heap.size+1) 0 gb.toList):=hQ9 (fun y g=>(zb.grew g).cell)
   have HCV:Hid (∀ y,Grew wr y→y.cell? ⟨w.heap.size+1,0,none⟩=some (.int .i64 b.vw)):=hQ9 (fun y g=>by simpa using HCB.out y g 0 _ HCV0.out)
   have CG:Hid (∀ y,Grew wr y→Calls Tryz.prog 30 #[.agg kc,.int .i64 b.vw,.int .u64 (D:Int),.slice AB 3 cB] y fun e w'=>VqS w' wr.heap.size E y.heap.size w'.heap.size (match e with | .returned v=>v | _=>undef) (fun A c=>.tuple #[.agg (vqC b.vw D A 3 c),.int .i64 0])∧(∃ v,e=.returned v)∧Grew y w'):=hQ9 (fun y g=>by
    have:=jB (zgc seed h hh.out RA Rc) b.vw D AB cB M (by rw [hml];decide) y (HSY.out y g) (show Rd y y.heap.size RA (u64L (rtL seed h 4)) from rRr.gr g) (hVp.gr g) (by rw [hM];exact zh8 seed h RA Rc b.vw D hh.out hvw.out _ _ _ hn1 hn2 hn3 A1 A2 A3 c1 c2 c3)
    rw [show chosenV (kpV seed h RA Rc) b.vw D M=E from by rw [hM,←hE];exact zh7 seed h RA Rc b.vw D hh.out hvw.out _ _ _ hn1 hn2 hn3 A1 A2 A3 c1 c2 c3,HKC.out,hml,HE3.out]at this
    refine this.mono ?_
    rintro e w' ⟨⟨B,j,N,rfl,h1,h2,h3,h4,h9⟩,gz⟩
    obtain⟨q,hq,hql,-⟩:=h2.get 0 (by rw [h1.len,HE3.out];decide)
    exact⟨⟨B,j,N,rfl,h1,h2,g.size,fun ad e=>⟨h3 ad e,by rw [hq]at e;cases e;exact hql⟩,fun S hS ad e=>by
     rcases h4 S hS ad e with h5 | h5
     ·exact .inl h5
     ·exact(ya (h2.at_ S hS) ad e).imp id (fun h6=>⟨h5,h6⟩),by rw [HE3.out];exact h9⟩,⟨_,rfl⟩,gz⟩)
   have HKSF:=hQ9 hks
   have HZT:=hQ9 zt
   have HKP:=hQ9 hkp
   have HBW:=hQ9 hB0
   clear hmv hok hat hne hlow hrow hks zk zb zt hB hVp hM hbB hld rRr hcc1 hcc2 hml hn hlt hE hkp hB0 hn1 hn2 hn3 hg
   go_upto_region 9 with fail
   refine qh 11 12 (fun ix9=>match ix9 with
    | 0=>fun v=>v=.agg kc
    | 1=>fun v=>v=.pointer (some ⟨w.heap.size+1,0,none⟩)
    | 2=>fun v=>v=.int .i64 b.vw
    | 3=>fun v=>v=.agg gb
    | 4=>fun v=>v=.int .u64 (D:Int)
    | 5=>fun v=>v=.slice AB 3 cB
    | 6=>fun _=>True
    | 7=>fun v=>∃ A c,v=.tuple #[.agg (vqC b.vw D A 3 c),.int .i64 0]
    | 8=>fun _=>True
    | 9=>fun v=>v=.int .i64 0
    | 10=>fun _=>True
    | 11=>fun _=>True
    | _=>fun _=>True) (fun ix9=>match ix9 with
    | 6=>fun lo hi v w=>VqS w wr.heap.size E lo hi v (fun A c=>.tuple #[.agg (vqC b.vw D A 3 c),.int .i64 0])
    | 7=>fun lo hi v w=>VqS w wr.heap.size E lo hi v (fun A c=>.tuple #[.agg (vqC b.vw D A 3 c),.int .i64 0])
    | 8=>fun lo hi v w=>VqS w wr.heap.size E lo hi v (fun A c=>.agg (vqC b.vw D A 3 c))
    | 10=>fun lo hi v w=>AgZ w wr.heap.size lo hi (#[.int .i64 0,.int .u64 0,.slice none 0 0]:Array Value).toList v
    | _=>fun _ _ _ _=>True) (fun ix9=>match ix9 with
    | 7=>6
    | 8=>7
    | ix8=>ix8) (fun ix9=>match ix9 with
    | 7=>6
    | 8=>6
    | ix8=>ix8) (fun ix9=>match ix9 with
    | 9=>true
    | _=>false) 10 (fun v W=>VqF wr b.vw D E v W) rfl (by kernel_rfl) (by kernel_rfl) (by kernel_rfl) (by kernel_rfl) rfl rfl (by decide) (fun _=>trivial) ?_ ?_ ?_ ?_ (fun o ho=>by cases ho;rfl) (fun v x y h hg=>VqF.gr h hg) ?_
   ·simp only [actOf,tk1,tk0,dr1,dr0,Act.put,si1,st1,st0,Nat.reduceAdd]
    refine⟨?_,?_,?_,?_,?_,?_,?_,?_,?_,?_,?_,trivial⟩
    ·intro vs lo hi y hg hd hvia
     replace hg:Grew wr y:=hg
     clear hvia
     dsimp only
     have hm:=HKM.out y hg
     go_wp2_with(with_reducible refine wpList_load_mid rfl 49 (.tmp 4) rfl w.heap.size 0 rfl kc.toList _ hm hkt rfl HSKL.out ?_;simp only [Array.toArray_toList])
     first | exact⟨rfl,_,rfl,za _,rfl⟩ | exact⟨rfl,_,rfl,za _,rfl,trivial⟩
    ·intro vs lo hi y hg hd hvia
     replace hg:Grew wr y:=hg
     clear hvia
     dsimp only
     go_wp2_with fail
     first | exact⟨rfl,_,rfl,za _,rfl⟩ | exact⟨rfl,_,rfl,za _,rfl,trivial⟩
    ·intro vs lo hi y hg hd hvia
     replace hg:Grew wr y:=hg
     obtain⟨h1,_⟩:=hd
     replace h1:=h1 rfl
     clear hvia
     dsimp only
     rw [show vs 1=_ from h1]
     have hc:=HCV.out y hg
     go_wp2_with fail
     first | exact⟨rfl,_,rfl,za _,rfl⟩ | exact⟨rfl,_,rfl,za _,rfl,trivial⟩
    ·intro vs lo hi y hg hd hvia
     replace hg:Grew wr y:=hg
     clear hvia
     dsimp only
     have hm:=HCB.out y hg
     go_wp2_with(with_reducible refine wpList_load_mid rfl 41 (.tmp 5) rfl (w.heap.size+1) 0 rfl gb.toList _ hm hbt rfl HSB1.out ?_;simp only [Array.toArray_toList])
     first | exact⟨rfl,_,rfl,za _,rfl⟩ | exact⟨rfl,_,rfl,za _,rfl,trivial⟩
    ·intro vs lo hi y hg hd hvia
     replace hg:Grew wr y:=hg
     obtain⟨h3,_⟩:=hd
     replace h3:=h3 rfl
     clear hvia
     dsimp only
     rw [show vs 3=_ from h3]
     have hgS:=HSY.out y hg
     have hgB:=HBY.out y hg
     go_wp2_with(go_at_call 19;refine(CD0.out y hgS hgB).mono ?_;rintro e z ⟨rfl,gz⟩)
     exact⟨rfl,_,rfl,gz,rfl,trivial⟩
    ·intro vs lo hi y hg hd hvia
     replace hg:Grew wr y:=hg
     clear hvia
     dsimp only
     go_wp2_with fail
     first | exact⟨rfl,_,rfl,za _,rfl⟩ | exact⟨rfl,_,rfl,za _,rfl,trivial⟩
    ·intro vs lo hi y hg hd hvia
     replace hg:Grew wr y:=hg
     obtain⟨h0,h2,h4,h5,_⟩:=hd
     replace h0:=h0 rfl
     replace h2:=h2 rfl
     replace h4:=h4 rfl
     replace h5:=h5 rfl
     clear hvia
     dsimp only
     rw [show vs 0=_ from h0,show vs 2=_ from h2,show vs 4=_ from h4,show vs 5=_ from h5]
     go_wp2_with(go_at_call 30;refine(CG.out y hg).mono ?_;rintro e z ⟨hv9,⟨v9,rfl⟩,gz⟩)
     exact⟨rfl,_,rfl,gz,trivial,hv9⟩
    ·intro vs lo hi y hg hd hvia
     replace hg:Grew wr y:=hg
     obtain⟨h6,_⟩:=hd
     replace h6:=h6 rfl
     have hv9:(fun lo hi v w=>VqS w wr.heap.size E lo hi v (fun A c=>.tuple #[.agg (vqC b.vw D A 3 c),.int .i64 0])) (lo 6) (hi 6) (vs 6) y:=hvia rfl
     clear hvia
     dsimp only
     obtain⟨A9,c9,N9,e9,hr9⟩:=VqS.out hv9
     rw [e9]
     go_wp2_with fail
     exact⟨rfl,_,rfl,za _,⟨A9,⟨c9,rfl⟩⟩,⟨A9,c9,N9,rfl,hr9⟩⟩
    ·intro vs lo hi y hg hd hvia
     replace hg:Grew wr y:=hg
     obtain⟨h7,_⟩:=hd
     replace h7:=h7 rfl
     have hv9:(fun lo hi v w=>VqS w wr.heap.size E lo hi v (fun A c=>.tuple #[.agg (vqC b.vw D A 3 c),.int .i64 0])) (lo 7) (hi 7) (vs 7) y:=hvia rfl
     clear hvia
     dsimp only
     obtain⟨A9,c9,N9,e9,hr9⟩:=VqS.out hv9
     rw [e9]
     go_wp2_with fail
     exact⟨rfl,_,rfl,za _,⟨A9,c9,N9,rfl,hr9⟩⟩
    ·intro vs lo hi y hg hd hvia
     replace hg:Grew wr y:=hg
     obtain⟨h7,_⟩:=hd
     replace h7:=h7 rfl
     clear hvia
     dsimp only
     obtain⟨A9,c9,e9⟩:=h7
     rw [e9]
     go_wp2_with fail
     first | exact⟨rfl,_,rfl,za _,rfl⟩ | exact⟨rfl,_,rfl,za _,rfl,trivial⟩
    ·intro vs lo hi y hg hd hvia
     replace hg:Grew wr y:=hg
     clear hvia
     dsimp only
     go_wp2_with fail
     exact⟨rfl,_,rfl,ze (za _) _,⟨y.heap.size,rfl,Ag.new y 38 (#[.int .i64 0,.int .u64 0,.slice none 0 0]:Array Value),hg.size,Nat.le_refl _,by show y.heap.size<(y.alloc _).heap.size;simp⟩⟩
   ·refine⟨(fun h=>absurd h (by decide)),(fun h=>absurd h (by decide)),(fun h=>absurd h (by decide)),(fun h=>absurd h (by decide)),(fun h=>absurd h (by decide)),(fun h=>absurd h (by decide)),(fun h=>absurd h (by decide)),(fun h=>absurd h (by decide)),(fun h=>absurd h (by decide)),?_,(fun h=>absurd h (by decide)),(fun h=>absurd h (by decide)),trivial⟩
    ·intro _ vs y hd
     obtain⟨h7,_⟩:=hd
     replace h7:=h7 rfl
     simp only [actOf,tk1,tk0,dr1,dr0,Act.put,si1,st1,st0,Nat.reduceAdd]
     obtain⟨A9,c9,e9⟩:=h7
     rw [e9]
     go_wp2_with fail
     first | exact⟨rfl,_,rfl,za _,rfl⟩ | exact⟨rfl,_,rfl,za _,rfl,trivial⟩
   ·intro i lo hi v x y h hg
    match i,h with
    | 6,h=>exact VqS.gr h hg
    | 7,h=>exact VqS.gr h hg
    | 8,h=>exact VqS.gr h hg
    | 10,h=>exact AgZ.gr h hg
    | 0,_=>trivial
    | 1,_=>trivial
    | 2,_=>trivial
    | 3,_=>trivial
    | 4,_=>trivial
    | 5,_=>trivial
    | 9,_=>trivial
    | m+11,_=>trivial
   ·intro vs lo hi y hg hJ hK hB hD
    replace hg:Grew wr y:=hg
    have k51:=hK 6 (by decide) rfl
    have b51:=hB 6 (by decide) rfl
    have k44:=hK 7 (by decide) rfl
    have b44:=hB 7 (by decide) rfl
    have k52:=hK 8 (by decide) rfl
    have b52:=hB 8 (by decide) rfl
    have k12:=hK 10 (by decide) rfl
    have b12:=hB 10 (by decide) rfl
    have d51_12:=hD 6 (by decide) rfl 10 (by decide) rfl (by decide)
    have d44_12:=hD 7 (by decide) rfl 10 (by decide) rfl (by decide)
    have d52_12:=hD 8 (by decide) rfl 10 (by decide) rfl (by decide)
    clear hK hB hD
    have j0:vs 0=.agg kc:=hJ 0 (by decide) rfl
    have j1:vs 1=.pointer (some ⟨w.heap.size+1,0,none⟩):=hJ 1 (by decide) rfl
    have j2:vs 2=.int .i64 b.vw:=hJ 2 (by decide) rfl
    have j3:vs 3=.agg gb:=hJ 3 (by decide) rfl
    have j4:vs 4=.int .u64 (D:Int):=hJ 4 (by decide) rfl
    have j5:vs 5=.slice AB 3 cB:=hJ 5 (by decide) rfl
    clear hJ
    simp only [actOf,tk1,tk0,dr1,dr0,Act.put,si1,st1,st0,Nat.reduceAdd]
    obtain⟨A7,c7,N7,e52,hmv7,hps7,hB7,hr7,hs7,hcp7⟩:=VqS.out k52
    obtain⟨q,e12,zq,hBq,hql,hqh⟩:=AgZ.out k12
    rw [e52,e12]
    have HTH:Hid (y.there q 0 (vqC b.vw D A7 3 c7).size):=hQ9 (zq.thereN 3 rfl)
    have HSI:Hid ((Tryz.prog.info? 38).map (·.size)=some (vqC b.vw D A7 3 c7).size):=hQ9 yf
    have HON:=hQ9 (yl b.vw D A7 3 c7)
    have z4:=Ag.set (vs:=(vqC b.vw D A7 3 c7).toList) zq rfl
    have k4:=zu (vqC b.vw D A7 3 c7).toList q 0 y
    have hps8:=hps7.kpx k4 (fun ad h e=>by have:=hr7 ad h;have e:ad.block=q:=e;rcases d52_12 with h2 | h2<;>omega) (fun S hS ad h=>(hs7 S hS ad h).imp id (fun h1 e=>by have e:ad.block=q:=e;rcases d52_12 with h2 | h2<;>omega))
    have HF:Hid (VqF wr b.vw D E (.pointer (some ⟨q,0,none⟩)) (y.setCells q 0 (vqC b.vw D A7 3 c7).toList)):=hQ9 ⟨A7,c7,N7,q,rfl,by rw [HE3.out];exact z4,hmv7,hps8,by omega,fun ad h=>by have:=hr7 ad h;omega,fun S hS ad h=>(hs7 S hS ad h).imp id (fun h1=>by omega),zj (o:=0) (b:=q) _ hg (by omega),hcp7⟩
    clear hg z4 k4 zq hps7 hps8 hmv7
    generalize vqC b.vw D A7 3 c7=gs' at *
    go_wp2_with(with_reducible refine wpList_store_mid rfl 38 (.tmp 12) (.tmp 52) rfl q 0 gs' rfl rfl HTH.out HSI.out HON.out ?_)
    exact HF.out
   ·intro vs w4 hF hJ
    have j0:vs 0=.agg kc:=hJ 0 (by decide)
    have j1:vs 1=.pointer (some ⟨w.heap.size+1,0,none⟩):=hJ 1 (by decide)
    have j2:vs 2=.int .i64 b.vw:=hJ 2 (by decide)
    have j3:vs 3=.agg gb:=hJ 3 (by decide)
    have j4:vs 4=.int .u64 (D:Int):=hJ 4 (by decide)
    have j5:vs 5=.slice AB 3 cB:=hJ 5 (by decide)
    have j9:vs 9=.int .i64 0:=hJ 9 (by decide)
    clear hJ
    simp only [actOf,tk1,tk0,dr1,dr0,Act.put,si1,st1,st0,Nat.reduceAdd]
    obtain⟨A7,c7,N7,q,e12,z4,hmv7,hps7,hq7,hb7,hs7,g4,hcp7⟩:=hF
    rw [HE3.out]at hcp7
    have HCP:=hQ9 hcp7
    rw [e12,show vs 9=_ from j9]
    rw [HE3.out]at z4
    have hm4:=z4.cell
    have HSQ:Hid ((Tryz.prog.info? 38).map (·.size)=some (vqC b.vw D A7 3 c7).toList.length):=hQ9 yf
    have HSQS:Hid ((Tryz.prog.info? 38).map (·.size)=some (vqC b.vw D A7 3 c7).size):=hQ9 yf
    have HON:=hQ9 (yl b.vw D A7 3 c7)
    have zt:=HZT.out.grew g4
    have hbe:=HBE.out
    have hbw:=HBW.out
    have HTH:Hid (w4.there (w.heap.size+1+1) 0 (vqC b.vw D A7 3 c7).size):=hQ9 (zt.thereN 3 rfl)
    have z9:=Ag.set (vs:=(vqC b.vw D A7 3 c7).toList) zt rfl
    have k9:=zu (vqC b.vw D A7 3 c7).toList (w.heap.size+1+1) 0 w4
    have HR:Hid (Vps (w4.setCells (w.heap.size+1+1) 0 (vqC b.vw D A7 3 c7).toList) A7 N7):=hQ9 (hps7.kpx k9 (fun ad e (h:ad.block=w.heap.size+1+1)=>by have:=hb7 ad e;omega) (fun S hS ad e=>(hs7 S hS ad e).imp id (fun h1 (h:ad.block=w.heap.size+1+1)=>by omega)))
    have HKN:Hid (keysN seed h p (nxd nx 3) (w4.setCells (w.heap.size+1+1) 0 (vqC b.vw D A7 3 c7).toList)):=hQ9 (fun i hi=>((HKSF.out i hi).grew g4).kp k9 (fun(h:p i+1=w.heap.size+1+1)=>by have:=HP.out i hi;omega) (fun(h:p i=w.heap.size+1+1)=>by have:=HP.out i hi;omega))
    have HKPF:Hid (Kp (fun j=>∃ i,i<4∧j=p i+1) w (w4.setCells (w.heap.size+1+1) 0 (vqC b.vw D A7 3 c7).toList)):=hQ9 (zbk (zC HKP.out (zi g4)) k9 (by omega))
    have HMV:Hid (MvV [vpK seed h (nx 1) b.vw D 1 none 0,vpK seed h (nx 2) b.vw D 2 none 0,vpK seed h (nx 3) b.vw D 3 none 0] N7):=hQ9 (by
     rw [←HEE.out]at hmv7
     obtain⟨B1,B2,B3,d1,d2,d3,hN⟩:=v3_mv hmv7
     rw [hN]
     refine⟨rfl,fun k h1 h2=>?_⟩
     have hk:k=0∨k=1∨k=2:=by have:k<3:=h1;omega
     rcases hk with rfl | rfl | rfl
     ·exact⟨B1,d1,rfl⟩
     ·exact⟨B2,d2,rfl⟩
     ·exact⟨B3,d3,rfl⟩)
    have HF1:Hid (∀ ad,A7=some ad→w.heap.size≤ad.block):=hQ9 (fun ad e=>by have:=hb7 ad e;omega)
    have HF2:Hid (∀ S∈N7,∀ ad,S.A=some ad→S.l=[]∨w.heap.size≤ad.block):=hQ9 (fun S hS ad e=>(hs7 S hS ad e).imp id (fun h1=>by omega))
    obtain⟨gv,hgv⟩:∃ g,vqC b.vw D A7 3 c7=g:=⟨_,rfl⟩
    have HGV:=hQ9 hgv
    rw [hgv]at hm4 HSQ HSQS HON HTH z9 HR HKN HKPF
    clear e12 z4 hmv7 hps7 hb7 hs7 g4 zt k9 hgv hcp7
    go_wp2_with(first
     | (with_reducible refine wpList_load_mid rfl 38 (.tmp 12) rfl q 0 rfl gv.toList _ hm4 hqt rfl HSQ.out ?_;simp only [Array.toArray_toList])
     | (with_reducible refine wpList_store_mid rfl 38 (.tmp 6) (.tmp 54) rfl (w.heap.size+1+1) 0 gv rfl rfl HTH.out HSQS.out HON.out ?_))
    refine bodyPost_ret (zM Tryz.results45 _ _ (w.heap.size+1+1) _ _ _ rfl rfl z9 hqt rfl HSQ.out) rfl ⟨?_,HKPF.out,HKN.out⟩
    have hv9:(Ending.returned (.tuple #[.agg gv.toList.toArray,.bool true]))=.returned (.tuple #[.agg (vqC b.vw D A7 3 c7),.bool true]):=by rw [HGV.out,Array.toArray_toList]
    exact⟨A7,c7,hv9,N7,HMV.out,HR.out,HF1.out,HF2.out,HCP.out⟩
noncomputable def bw16 (vw:Int) (pa:Nat) (qv:Int) (qb:Nat) (lo hi:Int):List UInt8:=joinF ([tagBlock,Lib.itoa vw,hexL pa,Lib.itoa qv,hexL qb,Lib.itoa lo,Lib.itoa hi]++[hexL (rpD 0 lo hi),hexL (rpD 1 lo hi),hexL (rpD 2 lo hi)])
noncomputable def bD16 (vw:Int) (pa:Nat) (qv:Int) (qb:Nat) (lo hi:Int):Nat:=if vw=0 then 0 else sumL tagBlock (bw16 vw pa qv qb lo hi)
theorem EmL.three {seed:Int} {h:Nat} {nx:Nat→Nat} {lo hi:Int} {L:List RP} (e:EmL seed h nx lo hi L 3):∃ C0 k0 A0 c0 C1 k1 A1 c1 C2 k2 A2 c2,L=[rpK seed h (nx 0) lo hi 0 C0 k0 A0 c0,rpK seed h (nx 1) lo hi 1 C1 k1 A1 c1,rpK seed h (nx 2) lo hi 2 C2 k2 A2 c2]:=by
 match L,e.len,e with
 | [a,b,c],_,e =>
  obtain⟨C0,k0,A0,c0,h0⟩:=e.get 0 (by simp)
  obtain⟨C1,k1,A1,c1,h1⟩:=e.get 1 (by simp)
  obtain⟨C2,k2,A2,c2,h2⟩:=e.get 2 (by simp)
  refine⟨C0,k0,A0,c0,C1,k1,A1,c1,C2,k2,A2,c2,?_⟩
  simp only [List.getElem_cons_zero,List.getElem_cons_succ]at h0 h1 h2
  rw [h0,h1,h2]
theorem bkD_em {seed:Int} {h:Nat} {nx:Nat→Nat} (b:BK) (e:EmL seed h nx b.lo b.hi b.L 3):bkD b=bD16 b.vw b.pa b.qv b.qb b.lo b.hi:=by
 obtain⟨C0,k0,A0,c0,C1,k1,A1,c1,C2,k2,A2,c2,hL⟩:=e.three
 unfold bkD bD16 bwW bwF bw16
 rw [hL]
 rfl
section
variable (seed : Int) (h : Nat) (RA : Option Addr) (Rc : Nat) (lo hi : Int)
theorem rv_yes (hh:h≤4) (hiv:ivB lo hi=true) (m i:Nat) (hi4:i<4) (hm:m<2^h) (CA:Option Addr) (ck:Nat) (A:Option Addr) (c:Nat):rvS (kpV seed h RA Rc) (rpK seed h m lo hi i CA ck A c)=0:=by
 show rvE 1 (rtL seed h 4) (h:Int) (i:Int) lo hi (i:Int) (m:Int) (signF (secN (sdI seed i) (m:Int)) (rpD (i:Int) lo hi)) (pathN (ksL seed h i) m)=0
 unfold rvE
 rw [if_neg (by omega),if_neg (by omega),if_pos hiv,Int.toNat_natCast,zgd seed h (by omega) i m hi4 hm,if_pos (qx _ _ _)]
theorem zbm (hh:h≤4) (hiv:ivB lo hi=true) (m i:Nat) (hi4:i<4) (hm:m<2^h) (CA:Option Addr) (ck:Nat) (A:Option Addr) (c:Nat):rdV (kpV seed h RA Rc) lo hi (rpK seed h m lo hi i CA ck A c)=0:=by
 unfold rdV
 show(if lo=lo then (if hi=hi then rvS (kpV seed h RA Rc) (rpK seed h m lo hi i CA ck A c) else 18) else 18)=0
 rw [if_pos rfl,if_pos rfl,rv_yes seed h RA Rc lo hi hh hiv m i hi4 hm]
theorem zdc (hh:h≤4) (hiv:ivB lo hi=true) (nx:Nat→Nat) (hnx:∀ i,i<3→nx i<2^h) {L:List RP} (e:EmL seed h nx lo hi L 3):cqR (kpV seed h RA Rc) lo hi L=0:=by
 obtain⟨C0,k0,A0,c0,C1,k1,A1,c1,C2,k2,A2,c2,rfl⟩:=e.three
 unfold cqR
 refine(if_pos (by rfl)).trans ?_
 rw [xf (by rfl) (zbm seed h RA Rc lo hi hh hiv _ 0 (by omega) (hnx 0 (by omega)) _ _ _ _),xf (by show decide (((1:Nat):Int)≤((0:Nat):Int))=false;decide) (zbm seed h RA Rc lo hi hh hiv _ 1 (by omega) (hnx 1 (by omega)) _ _ _ _),xf (by show decide (((2:Nat):Int)≤((1:Nat):Int))=false;decide) (zbm seed h RA Rc lo hi hh hiv _ 2 (by omega) (hnx 2 (by omega)) _ _ _ _)]
 rfl
theorem cqr_no (nx:Nat→Nat) {L:List RP} (e:EmL seed h nx lo hi L 3) (lo' hi':Int) (hne:lo≠lo'∨hi≠hi'):cqR (kpV seed h RA Rc) lo' hi' L=18:=by
 obtain⟨C0,k0,A0,c0,C1,k1,A1,c1,C2,k2,A2,c2,rfl⟩:=e.three
 unfold cqR
 refine(if_pos (by rfl)).trans ?_
 have h1:rdV (kpV seed h RA Rc) lo' hi' (rpK seed h (nx 0) lo hi 0 C0 k0 A0 c0)=18:=by
  unfold rdV
  show(if lo=lo' then (if hi=hi' then _ else 18) else 18)=18
  by_cases h2:lo=lo'
  ·rw [if_pos h2,if_neg (by rcases hne with h3 | h3;exact absurd h2 h3;exact h3)]
  ·rw [if_neg h2]
 rw [kX (by rfl) (by rw [h1];decide),h1]
theorem zjs (L:List RP) (hL:L.length≠3):cqR (kpV seed h RA Rc) lo hi L=8:=by
 unfold cqR
 exact if_neg hL
end
def rC16 (w lo hi:Int):Nat:=sumC tagCut (rpW w lo hi)
theorem rpD_C (w lo hi:Int):rpD w lo hi=rC16 w lo hi:=by unfold rpD rC16;rw [xV]
def bC16 (vw:Int) (pa:Nat) (qv:Int) (qb:Nat) (lo hi:Int):Nat:=sumC tagBlock (joinF ([tagBlock,Lib.itoa vw,hexL pa,Lib.itoa qv,hexL qb,Lib.itoa lo,Lib.itoa hi]++[hexL (rC16 0 lo hi),hexL (rC16 1 lo hi),hexL (rC16 2 lo hi)]))
theorem bD16_C (vw:Int) (hv:vw≠0) (pa:Nat) (qv:Int) (qb:Nat) (lo hi:Int):bD16 vw pa qv qb lo hi=bC16 vw pa qv qb lo hi:=by
 unfold bD16 bC16 bw16
 rw [if_neg hv,xV,rpD_C,rpD_C,rpD_C]
theorem bD_a:bD16 1 0 0 0 0 10=7638746923653312131:=by rw [bD16_C 1 (by decide)];decide +kernel
theorem voD_1:voD 1 7638746923653312131=4952415007662773255:=by unfold voD;rw [xV];decide +kernel
theorem voD_2:voD 2 7638746923653312131=5035755140998278728:=by unfold voD;rw [xV];decide +kernel
theorem zjt:voW 1 255=[124,118,111,116,101,124,49,124,48,48,48,48,48,48,48,48,48,48,48,48,48,48,102,102]:=by decide +kernel
theorem sd_4:sdI 3 1=4:=by decide
theorem zgh (k:Nat) (h:k<18):secN 4 1 k=twoC tagSk 4 (32+k):=by
 unfold secN
 rw [zfe]
 congr 1
 show(((32*1+(k:Int))%18446744073709551616)).toNat=32+k
 omega
def pub4C:Nat:=foldC (fun k=>chainC (sumC tagOt []) (twoC tagSk 4 (32+k)) 15) 18
def rec4C:Nat:=foldC (fun k=>chainC (sumC tagOt []) (chainC (sumC tagOt []) (twoC tagSk 4 (32+k)) (digK 4952415007662773255 k)) (15-digK 5035755140998278728 k)) 18
theorem pub4_C:pubN (secN 4 1)=pub4C:=by
 unfold pubN
 rw [zcu]
 refine ju _ _ _ fun k hk=>?_
 show chainI tagOt (secN 4 1 k) ((15:Nat):Int)=_
 rw [jO _ _ _ (by omega),zgh k hk]
theorem rec4_C:recN (signF (secN 4 1) 4952415007662773255) 5035755140998278728=rec4C:=by
 unfold recN
 rw [zcu]
 refine ju _ _ _ fun k hk=>?_
 show chainI tagOt (chainI tagOt (secN 4 1 k) (digK 4952415007662773255 k:Nat)) ((15-digK 5035755140998278728 k:Nat):Int)=_
 have:=xX 4952415007662773255 k
 rw [jO _ _ _ (by omega),jO _ _ _ (by omega),zgh k hk]
theorem zju:rec4C≠pub4C:=by decide +kernel
theorem zia (RA:Option Addr) (Rc:Nat) (A:Option Addr) (c:Nat):vvS (kpV 3 4 RA Rc) ⟨2,7638746923653312131,((1:Nat):Int),((1:Nat):Int),((1:Nat):Int),signF (secN (sdI 3 1) ((1:Nat):Int)) (voD 1 7638746923653312131),A,c,pathN (ksL 3 4 1) 1⟩=7:=by
 show vvE 1 (rtL 3 4 4) ((4:Nat):Int) 2 7638746923653312131 ((1:Nat):Int) ((1:Nat):Int) ((1:Nat):Int) (signF (secN (sdI 3 1) ((1:Nat):Int)) (voD 1 7638746923653312131)) (pathN (ksL 3 4 1) 1)=7
 unfold vvE
 rw [if_neg (by decide),if_neg (by decide),if_pos (by decide),Int.toNat_natCast,voD_2,voD_1,sd_4]
 unfold ckE
 rw [if_neg (by rw [kd];omega),if_pos rfl,zfw _ _ _ _ (by decide)]
 have hks:ksL 3 4 1=pubsL 4 (2^4):=by unfold ksL;rw [sd_4]
 rw [hks]
 have hne:recN (signF (secN 4 ((1:Nat):Int)) 4952415007662773255) ((5035755140998278728:Nat):Int).toNat≠pubN (secN 4 ((1:Nat):Int)):=by
  rw [Int.toNat_natCast,show((1:Nat):Int)=1 from rfl,rec4_C,pub4_C]
  exact zju
 have:=vr_no 4 4 (by decide) 1 (by decide) (signF (secN 4 ((1:Nat):Int)) 4952415007662773255) ((5035755140998278728:Nat):Int) hne ((4:Nat):Int)
 rw [this]
 rfl
theorem qB {P:Program} (w:World) (base:Nat) (t ty e:TypeId) (i:TypeInfo) (z:Value) (size bytes:Nat) (ht:P.underlying t=some (.slice e)) (hi:P.info? e=some i) (hz:i.zero=some z)
 (hsize:i.size=size) (hby:i.bytes=bytes) (hzs:z.cells.size=size) (hsz:0<size) (v:Value) (hown:w.ownsRow base e size v 0 []) (A:Option Addr) (c:Nat) (hbase:base≤w.heap.size) :
 ∃ v' w',(Builtin.append_ #[t,t] ty #[v,.slice A 0 c]).run P w=.ok v' w'∧w'.ownsRow base e size v' 0 []∧w.grownBy w' v.ownBlock:=by
 cases A with
 | none=>exact⟨v,w,xG w base t ty e i size ht hi v 0 [] hown c,hown,⟨rfl,rfl,rfl,Nat.le_refl _,fun _ _ _=>rfl⟩⟩
 | some ad =>
  obtain⟨v',w',hrun,h2,h3,_,_⟩:=run_append_own_at (P:=P) w base t ty e i z size bytes ht hi hz hsize hby hzs hsz v 0 [] hown ad 0 c [] (by simp) (by simp) (by simp) (by unfold maxLen;omega) (by omega) hbase
  exact⟨v',w',hrun,by simpa using h2,h3⟩
theorem xr {P:Program} (w:World) {ops:Array Oper} {rest:List Oper} {o:Oper} {a:Act} {Q:Exit→Act→World→Prop} (hgd:o.guard=none) (s x:Operand) (t:TypeId)
 (ho:o.op=.call { callee:=.builtin .append,args:=#[s,x],argTypes:=#[t,t] })
 (base:Nat) (e:TypeId) (i:TypeInfo) (z:Value) (size bytes:Nat) (ht:P.underlying t=some (.slice e)) (hi:P.info? e=some i) (hz:i.zero=some z)
 (hsize:i.size=size) (hby:i.bytes=bytes) (hzs:z.cells.size=size) (hsz:0<size)
 (v:Value) (hs:a.eval s=v) (hown:w.ownsRow base e size v 0 []) (A:Option Addr) (c:Nat) (hx:a.eval x=.slice A 0 c) (hbase:base≤w.heap.size)
 (h:∀ v' w',w'.ownsRow base e size v' 0 []→w.grownBy w' v.ownBlock→wpList P ops Q rest (a.put o.dst v') w'):wpList P ops Q (o::rest) a w :=
 wpList_plain hgd fun _ hK=>by
  obtain⟨v',w',hrun,h2,h3⟩:=qB (P:=P) w base t o.type e i z size bytes ht hi hz hsize hby hzs hsz v hown A c hbase
  unfold Oper.wp execOp
  simp only [ho,resolve,invoke,builtin,Sem.run_bind,Sem.run_pure,Result.andThen_ok,List.map_toArray,List.map_cons,List.map_nil,hs,hx,hrun]
  exact hK _ _ (h v' w' h2 h3)
theorem zdd:(Tryz.prog.info? 219).map (fun i=>(i.zero,i.size,i.bytes))=some (some (.agg (#[.int .i64 0,.int .u64 0,.int .i64 0,.int .i64 0,.int .i64 0,.int .i64 0,.int .i64 0,.slice none 0 0]:Array Value)),8,80):=by kernel_rfl
theorem zib (A:Option Addr) (c:Nat) (F:Value) (w:World):Calls Tryz.prog 146 #[.slice A 0 c,F] w fun e w'=>∃ B k,e=.returned (.slice B 0 k)∧Grew w w':=by
 obtain⟨i0,hi,hz0,hz1,hz2⟩:=info_parts zdd
 obtain⟨w1,hmk,hown1,hgrow1⟩:=run_make_own (P:=Tryz.prog) w w.heap.size 238 219 i0 (.agg (#[.int .i64 0,.int .u64 0,.int .i64 0,.int .i64 0,.int .i64 0,.int .i64 0,.int .i64 0,.slice none 0 0]:Array Value)) 8 Tryz.underlying238 hi hz0 hz1 .i64 .i64 0 (by rw [hz2];omega) (by unfold maxLen;omega) (Nat.le_refl _)
 have hg1:Grew w w1:=(Below.refl _ w).grown hgrow1 (Nat.le_refl _) (fun j hj=>by cases hj)
 obtain⟨B,k,hB,_⟩:=kZ hown1
 rw [hB,show((0:Nat):Int)=0 from rfl]at hmk
 clear hgrow1 hown1 hB hz0 hz1 hz2 hi
 go_enter Tryz.func146,Tryz.ntmps146
 go_wp2_with fail
 clear hmk
 go_loopw [5,13] (fun rv iv wr=>rv=.slice B 0 k∧iv=.int .i64 0∧wr=w1) (fun _ _ _=>0)
 case atStart=>exact⟨rfl,rfl,rfl⟩
 case round =>
  obtain⟨rfl,rfl,rfl⟩:=hrel
  go_wp2_with fail
  go_ret
  exact⟨B,k,rfl,hg1⟩
theorem zgi (S F:Value) (w:World):Calls Tryz.prog 241 #[S,.int .i64 0,.int .i64 0,F] w fun e w'=>e=.returned (.tuple #[])∧w'=w:=by
 go_enter Tryz.func241,Tryz.ntmps241
 go_wp2_with fail
 go_loopw [8] (fun iv wr=>iv=.int .i64 1∧wr=w) (fun _ _=>0)
 case atStart=>exact⟨rfl,rfl⟩
 case round =>
  obtain⟨rfl,rfl⟩:=hrel
  go_wp2_with fail
  go_end0
  exact⟨rfl,by trivial⟩
theorem zem (S F:Value) (w:World):Calls Tryz.prog 195 #[S,.int .i64 0,F] w fun e w'=>e=.returned (.tuple #[])∧w'=w:=by
 have C:=hQ9 (zgi S F w)
 go_enter Tryz.func195,Tryz.ntmps195
 go_wp2_with fail
 go_loopw [7,8] (fun av bv wr=>av=.int .i64 0∧bv=.int .i64 20∧wr=w) (fun _ _ _=>0)
 case atStart=>exact⟨rfl,rfl,rfl⟩
 case round =>
  obtain⟨rfl,rfl,rfl⟩:=hrel
  go_wp2_with fail
  refine(C.out).mono ?_
  rintro e z ⟨rfl,hz⟩
  rw [hz]
  clear hz
  go_wp2_with fail
  go_loopw [6] (fun bv wq=>bv=.int .i64 20∧wq=wr) (fun _ _=>0)
  case atStart=>exact⟨rfl,rfl⟩
  case round =>
   obtain⟨rfl,rfl⟩:=hrel
   go_wp2_with fail
   go_end0
   exact⟨rfl,by trivial⟩
theorem zen (A:Option Addr) (c:Nat) (F:Value) (w:World):Calls Tryz.prog 147 #[.slice A 0 c,F] w fun e w'=>e=.returned (.tuple #[])∧w'=w:=by
 have C:=hQ9 (zem (.slice A 0 c) F w)
 go_enter Tryz.func147,Tryz.ntmps147
 go_wp2_with fail
 refine(C.out).mono ?_
 rintro e z ⟨rfl,hz⟩
 rw [hz]
 clear hz
 go_wp2_with fail
 go_end0
 exact⟨rfl,by trivial⟩
theorem zeo (A B:Option Addr) (c d:Nat) (F:Value) (w:World):Calls Tryz.prog 148 #[.slice A 0 c,.slice B 0 d,F] w fun e w'=>∃ C k,e=.returned (.slice C 0 k)∧Grew w w':=by
 obtain⟨i0,hi,hz0,hz1,hz2⟩:=info_parts zdd
 obtain⟨w1,hmk,hown1,hgrow1⟩:=run_make_own (P:=Tryz.prog) w w.heap.size 238 219 i0 (.agg (#[.int .i64 0,.int .u64 0,.int .i64 0,.int .i64 0,.int .i64 0,.int .i64 0,.int .i64 0,.slice none 0 0]:Array Value)) 8 Tryz.underlying238 hi hz0 hz1 .i64 .i64 0 (by rw [hz2];omega) (by unfold maxLen;omega) (Nat.le_refl _)
 have hg1:Grew w w1:=(Below.refl _ w).grown hgrow1 (Nat.le_refl _) (fun j hj=>by cases hj)
 have hown:w1.ownsRow w.heap.size 219 8 _ 0 []:=hown1
 obtain⟨B9,k9,hB9,_⟩:=kZ hown1
 rw [hB9]at hmk hown
 rw [show((0:Nat):Int)=0 from rfl]at hmk
 have hww:=hg1.size
 clear hgrow1 hown1 hB9
 go_enter Tryz.func148,Tryz.ntmps148
 go_wp2_with fail
 clear hmk
 go_loopw [0,1,7] (fun av bv lv wr=>av=.slice A 0 c∧bv=.slice B 0 d∧lv=.slice B9 0 k9∧wr=w1) (fun _ _ _ _=>0)
 case atStart=>exact⟨rfl,rfl,rfl,rfl⟩
 case round =>
  obtain⟨rfl,rfl,rfl,rfl⟩:=hrel
  go_wp2_with(first
   | (at_builtin;refine xr _ rfl (.tmp 47) (.tmp 48) 238 rfl w.heap.size 219 i0 (.agg (#[.int .i64 0,.int .u64 0,.int .i64 0,.int .i64 0,.int .i64 0,.int .i64 0,.int .i64 0,.slice none 0 0]:Array Value)) 8 80 Tryz.underlying238 hi hz0 hz1 hz2 rfl (by decide) _ rfl hown A c rfl hww ?_;intro v2 w2 hown2 hgr2;have hg2:=hg1.grown hgr2 hww (fun g hg=>zw hown g hg);obtain⟨A2,c2,rfl,-⟩:=kZ hown2;have hww2:=hg2.size)
   | (at_builtin;refine xr _ rfl (.tmp 49) (.tmp 50) 238 rfl w.heap.size 219 i0 (.agg (#[.int .i64 0,.int .u64 0,.int .i64 0,.int .i64 0,.int .i64 0,.int .i64 0,.int .i64 0,.slice none 0 0]:Array Value)) 8 80 Tryz.underlying238 hi hz0 hz1 hz2 rfl (by decide) _ rfl hown2 B d rfl hww2 ?_;intro v3 w3 hown3 hgr3;have hg3:=hg2.grown hgr3 hww2 (fun g hg=>zw hown2 g hg);obtain⟨A3,c3,rfl,-⟩:=kZ hown3))
  go_ret
  exact⟨A3,c3,rfl,hg3⟩
theorem zcg (n:Nat) (w:World):(Instr.makeMap 242 (some (.int .i64 (n:Int)))).run Tryz.prog w=.ok (.map (some w.heap.size)) (w.alloc (.map #[] 0)):=by
 simp [Instr.makeMap,run_underlying Tryz.underlying242,asInt,asIntOf,Result.andThen]
theorem zgj (A:Option Addr) (c:Nat) (L:List RP) (hl:L.length≤1000) (w:World) (hL:Rps w A L) :
 Calls Tryz.prog 93 #[.slice A L.length c] w fun e w'=>e=.returned (.slice none 0 0)∧Grew w w':=by
 have hut:=Tryz.underlying149
 have hr:=hL.rd
 have hmk0:=fun w=>zcg 0 w
 rw [show((0:Nat):Int)=0 from rfl]at hmk0
 clear hL
 go_enter Tryz.func93,Tryz.ntmps93
 go_wp2_with fail
 go_loopw [3,13] (fun av iv wr=>∃(k:Nat) (B:Option Addr) (d:Nat),k≤L.length∧av=.slice B 0 d∧iv=.int .i64 k∧Grew w wr) (fun _ iv _=>L.length-(Go.RowKit.intOf iv).toNat)
 case atStart=>exact⟨0,none,0,Nat.zero_le _,rfl,rfl,za _⟩
 case round =>
  obtain⟨k,B,d,hk,rfl,rfl,hg⟩:=hrel
  by_cases hlt:k<L.length
  ·obtain⟨q,hA,hq,hm⟩:=RdC.at25 hr hg k hlt
   subst hA
   have hk0:(0:Int)≤(k:Int):=by omega
   have hk1:(k:Int)<(L.length:Int):=by omega
   have e1:decide (k<L.length)=true:=decide_eq_true hlt
   have e4:IntKind.i64.wrap ((k:Int)+1)=(k:Int)+1:=IntWalk.i64_in _ (by omega)
   have HK:=hQ9 hlt
   generalize L[k]=S at *
   have SIS:Hid ((Tryz.prog.info? 149).map (·.size)=some S.C.toList.length):=hQ9 zV
   have SIZ:Hid ((Tryz.prog.info? 149).map (·.size)=some S.C.size):=hQ9 zV
   have HON:=hQ9 S.one
   obtain⟨w2,hw2,ht2,g2,z2⟩:=kW wr S.C rfl
   have HW2:=hQ9 hw2
   have HT2:=hQ9 ht2
   have c3:w2.cell? ⟨wr.heap.size,3,none⟩=some (.slice S.CA 0 S.ck):=by simpa using z2.cell 3 _ rfl
   have hg2:=zc hg g2
   have hCA:True:=trivial
   generalize S.CA=CA at *
   generalize S.ck=ck at *
   generalize S.C=gs at *
   clear hw2 ht2 z2 g2 hg
   go_wp2_with(first
    | (with_reducible refine wpList_load_mid rfl 149 (.tmp 15) rfl q (k*25) rfl gs.toList _ hm hut rfl SIS.out ?_;simp only [Array.toArray_toList])
    | (with_reducible refine wpList_store_mid rfl 149 (.tmp 5) (.tmp 16) rfl wr.heap.size 0 gs rfl rfl HT2.out SIZ.out HON.out ?_;rw [HW2.out];clear HW2 HT2))
   refine(zib CA ck _ w2).mono ?_
   rintro e w3 ⟨B3,k3,rfl,g3⟩
   have hg3:=zc hg2 g3
   clear c3 hg2 g3 hm
   go_wp2_with fail
   refine(zen B3 k3 _ w3).mono ?_
   rintro e z ⟨rfl,hz⟩
   rw [hz]
   clear hz
   go_wp2_with fail
   refine(zeo B B3 d k3 _ w3).mono ?_
   rintro e w4 ⟨B4,k4,rfl,g4⟩
   have hg4:=zc hg3 g4
   go_wp2_with fail
   go_roundw
   case rel=>exact⟨k+1,B4,k4,HK.out,rfl,by go_num,hg4⟩
   case measure=>have:=HK.out;simp [Go.RowKit.intOf];omega
  ·obtain rfl:k=L.length:=by omega
   have hg5:=ze hg (.map #[] 0)
   go_wp2_with fail
   go_loopw [8,31] (fun uv iv wq=>uv=.slice none 0 0∧iv=.int .i64 0∧wq=wr.alloc (.map #[] 0)) (fun _ _ _=>0)
   case atStart=>exact⟨rfl,rfl,rfl⟩
   case round =>
    obtain⟨rfl,rfl,rfl⟩:=hrel
    go_wp2_with fail
    go_ret
    exact⟨rfl,hg5⟩
theorem zgk (b:BK) (h:b.ok) (w:World) (hb:b.at w) :
 Calls Tryz.prog 24 #[.agg b.C] w fun e w'=>e=.returned (.slice none 0 0)∧Grew w w':=by
 have z0:=Ag.new w 41 b.C
 have g0:=ze (za w) (.cells b.C 41)
 have c7:(w.alloc (.cells b.C 41)).cell? ⟨w.heap.size,7,none⟩=some (.slice b.BA b.L.length b.bc):=by simpa [BK.C]using z0.cell 7 _ rfl
 have CU:=hQ9 (zgj b.BA b.bc b.L h.l _ (hb.l.gr g0))
 clear z0 h hb
 generalize b.C=gb at *
 go_enter Tryz.func24,Tryz.ntmps24
 go_wp2_with fail
 refine(CU.out).mono ?_
 rintro e w2 ⟨rfl,g2⟩
 go_wp2_with fail
 go_ret
 exact⟨rfl,zc g0 g2⟩
theorem Rps.kpx {P:Nat→Prop} {w w':World} {A:Option Addr} {L:List RP} (h:Rps w A L) (k:Kp P w w') (h1:∀ ad,A=some ad→¬P ad.block) (h2:∀ S∈L,∀ ad,S.A=some ad→S.l=[]∨¬P ad.block):Rps w' A L :=
 ⟨h.rd.kp k (fun q e=>h1 _ e),h.ok,fun S hS=>kg (h.at_ S hS) k (h2 S hS)⟩
theorem zgl:Tryz.prog.built 38 [(1,.int .u64 1)]=some (#[.int .i64 0,.int .u64 1,.slice none 0 0]:Array Value):=by kernel_rfl
theorem em_ok (seed:Int) (h:Nat) (nx:Nat→Nat) (vw qv:Int) (qb:Nat) (QA:Option Addr) (Q:List VP) (qc:Nat) (lo hi:Int) (BA:Option Addr) (L:List RP) (bc:Nat) (h1:in64 vw) (h2:in64 qv) (h3:qb<18446744073709551616) (h4:in64 lo) (h5:in64 hi) (h6:Q.length≤100000) (e:EmL seed h nx lo hi L 3):(⟨vw,qb,qv,qb,QA,Q,qc,lo,hi,BA,L,bc⟩:BK).ok :=
 ⟨h1,h3,h2,h3,h4,h5,h6,by show L.length≤1000;rw [e.len];decide⟩
theorem n0_lt:∀ i,i<3→(fun _=>0) i<2^4:=fun i h=>(by decide:(0:Nat)<2^4)
theorem n1_lt:∀ i,1≤i→i<4→(nxt (fun _=>0) 3) i<2^4:=fun i h1 h=>by show(if i<3 then 0+1 else 0)<2^4;split<;>decide
theorem n2_lt:∀ i,i<3→(nxd (nxt (fun _=>0) 3) 3) i<2^4:=fun i h=>by show(if 3<i+3 then (if i<3 then 0+1 else 0)+1 else (if i<3 then 0+1 else 0))<2^4;(repeat' split)<;>decide
section
variable (RA : Option Addr) (Rc : Nat)
theorem zjv (BA:Option Addr) (bc:Nat) {L:List RP} (e:EmL 3 4 (fun _=>0) 0 10 L 3):blE (kpV 3 4 RA Rc) ⟨1,0,0,0,none,[],0,0,10,BA,L,bc⟩=0:=by
 unfold blE
 show(if vwB 1=true then (if (1:Int)≤0 then 12 else if (0:Nat)=0 then (if vqE (kpV 3 4 RA Rc) 0 0 []=0 then (if (0:Int)<0 then 1 else if (10:Int)≤0 then 1 else if 1099511627776<(10:Int) then 1 else cqR (kpV 3 4 RA Rc) 0 10 L) else vqE (kpV 3 4 RA Rc) 0 0 []) else 11) else 12)=0
 have hq:vqE (kpV 3 4 RA Rc) 0 0 []=0:=by unfold vqE;exact(if_pos rfl).trans ((if_pos rfl).trans (if_pos rfl))
 rw [if_pos (by decide),if_neg (by decide),if_pos rfl,if_pos hq,if_neg (by decide),if_neg (by decide),if_neg (by decide)]
 exact zdc 3 4 RA Rc 0 10 (by omega) (by decide) _ n0_lt e
variable (DA : Nat) (QA : Option Addr) (N : List VP) (qc : Nat) (BB : Option Addr) (bd : Nat)
theorem vqE_n (hq:cqV (kpV 3 4 RA Rc) 1 DA N=0):vqE (kpV 3 4 RA Rc) 1 DA N=0:=by unfold vqE;rw [if_neg (by decide)];exact hq
theorem qS (lo hi:Int) (hq:cqV (kpV 3 4 RA Rc) 1 DA N=0) (h0:0≤lo) (h1:lo<hi) (h2:hi≤1099511627776) (L:List RP):blE (kpV 3 4 RA Rc) ⟨3,DA,1,DA,QA,N,qc,lo,hi,BB,L,bd⟩=cqR (kpV 3 4 RA Rc) lo hi L:=by
 unfold blE
 show(if vwB 3=true then (if (3:Int)≤1 then 12 else if DA=DA then (if vqE (kpV 3 4 RA Rc) 1 DA N=0 then (if lo<0 then 1 else if hi≤lo then 1 else if 1099511627776<hi then 1 else cqR (kpV 3 4 RA Rc) lo hi L) else vqE (kpV 3 4 RA Rc) 1 DA N) else 11) else 12)=_
 rw [if_pos (by decide),if_neg (by decide),if_pos rfl,if_pos (vqE_n RA Rc DA N hq),if_neg (by omega),if_neg (by omega),if_neg (by omega)]
theorem zjw (lo hi:Int) (L:List RP):blE (kpV 3 4 RA Rc) ⟨1,DA,1,DA,QA,N,qc,lo,hi,BB,L,bd⟩=12:=by
 unfold blE
 exact(if_pos (by show vwB 1=true;decide)).trans (if_pos (by show(1:Int)≤1;decide))
theorem zjx (h:5≠DA) (lo hi:Int) (L:List RP):blE (kpV 3 4 RA Rc) ⟨3,5,1,DA,QA,N,qc,lo,hi,BB,L,bd⟩=11:=by
 unfold blE
 exact(if_pos (by show vwB 3=true;decide)).trans ((if_neg (by show ¬(3:Int)≤1;decide)).trans (if_neg h))
end
theorem zep (w:World) (hS:Std w):Calls Tryz.prog 12 #[] w fun e w'=>e=.returned (.bool true)∧Grew w w':=by
 have HS:=hQ9 hS
 have CE:=zje 3 ⟨by omega,by omega⟩ 4 (by omega) w
 rw [show((4:Nat):Int)=4 from rfl]at CE
 have hkt:=Tryz.underlying49
 have hvt:=Tryz.underlying69
 have hbt:=Tryz.underlying41
 have hqt:=Tryz.underlying38
 have HBZ:Hid (∀ W,(Instr.build 38 #[]).run Tryz.prog W=.ok (.agg (#[.int .i64 0,.int .u64 0,.slice none 0 0]:Array Value)) W):=hQ9 (fun W=>run_build W 38 _ _ zc8)
 have HBZ1:Hid (∀ W,(Instr.build 38 #[(1,.int .u64 1)]).run Tryz.prog W=.ok (.agg (#[.int .i64 0,.int .u64 1,.slice none 0 0]:Array Value)) W):=hQ9 (fun W=>run_build W 38 _ _ zgl)
 clear hS
 go_enter Tryz.func12,Tryz.ntmps12
 go_wp2_with fail
 refine CE.mono ?_
 clear CE
 rintro e w1 ⟨LA,Lc,RA,Rc,p,rfl,KS,rL,rR,FL0,FR0,G1⟩
 obtain⟨lad,hLA,-,-⟩:=rL 0 (by simp [ptrL])
 subst hLA
 obtain⟨kc,hkc⟩:∃ v,kyS 1 RA 4 Rc 4=v:=⟨_,rfl⟩
 have HSK:Hid ((Tryz.prog.info? 49).map (·.size)=some (kyS 1 RA 4 Rc 4).size):=hQ9 (by kernel_rfl)
 have HSKL:Hid ((Tryz.prog.info? 49).map (·.size)=some (kyS 1 RA 4 Rc 4).toList.length):=hQ9 (by kernel_rfl)
 have HOK:Hid ((kyS 1 RA 4 Rc 4).all (·.oneCell')=true):=hQ9 (by simp [kyS,Value.oneCell'])
 have HKC:Hid ((kpV 3 4 RA Rc).C=kyS 1 RA 4 Rc 4):=hQ9 (kpV_C 3 4 RA Rc)
 have HK0:Hid (kpV 3 4 RA Rc).ok:=hQ9 (zgc 3 4 (by omega) RA Rc)
 obtain⟨w2,hw2,ht2,g2,z2⟩:=zU w1 49 (#[.int .i64 0,.slice none 0 0,.int .i64 0]) (kyS 1 RA 4 Rc 4) rfl
 have HW2:=hQ9 hw2
 have HTK:=hQ9 ht2
 have HP:Hid (∀ i,i<4→w.heap.size≤p i+1∧p i+1<w1.heap.size):=hQ9 (fun i hi=>⟨by have:=KS.low i hi;omega,(KS.key i hi).key.lt⟩)
 have HAP:=hQ9 KS.apart
 have KS2:=KS.grew g2
 have rL2:=rL.gr g2
 have rR2:=rR.gr g2
 have G2:=zc G1 g2
 have HLD:Hid (∀ i,i<4→w2.cell? (lad.add i)=some (.pointer (some ⟨p i+1,0,none⟩))):=hQ9 (fun i hi=>by
  obtain⟨ad,e,_,hc⟩:=rL2 i (by simp [ptrL];exact hi)
  cases e
  rw [hc];simp [ptrL])
 have HQK:Hid (w1.heap.size<w2.heap.size):=hQ9 z2.lt
 have FL:Hid (∀ i,i<4→lad.block≠p i+1):=hQ9 (fun i hi=>(FL0 lad rfl i hi).2)
 have FR:Hid (∀ i,i<4→∀ ad,RA=some ad→ad.block≠p i+1):=hQ9 (fun i hi ad e=>(FR0 ad e i hi).2)
 have HKS:Hid (keysN 3 4 p (fun _=>0) w2):=hQ9 (fun i hi=>KS2.key i hi)
 have HRR:=hQ9 rR2
 have HZ2:=hQ9 z2
 have HG2:=hQ9 G2
 rw [hkc]at HSK HSKL HOK HTK HW2 HKC ⊢
 have HZK:Hid (Ag w2 w1.heap.size kc.toList):=hQ9 (by rw [←hkc];exact HZ2.out)
 have HKCE:Hid (kyS 1 RA 4 Rc ((4:Nat):Int)=kc):=hQ9 hkc
 have CEM:Hid _:=hQ9 (zdb 3 4 (hQ9 (by omega)) (fun _=>0) (hQ9 n0_lt) 1 0 0 none [] 0 0 10 (hQ9 (by omega)) (hQ9 (by omega)) (hQ9 (by omega)) w HS.out p lad Lc w2 HG2.out HKS.out HAP.out (fun i hi=>(HP.out i hi).1) HLD.out FL.out)
 clear hw2 ht2 g2 KS KS2 rL rL2 rR G1 hkc FL0 FR0 rR2 G2 z2 HZ2
 have bz:=HBZ.out
 go_wp2_with(with_reducible refine wpList_store_mid rfl 49 (.tmp 2) (.tmp 17) rfl w1.heap.size 0 kc rfl rfl HTK.out HSK.out HOK.out ?_;rw [HW2.out];clear HW2 HTK;generalize w1.heap.size=qk at *)
 refine(CEM.out).mono ?_
 clear CEM bz
 rintro e w3 ⟨⟨BA,bc,L,rfl,heL,hRp,hf1,hf2,-⟩,k3,K3⟩
 -- the first block
 obtain⟨ba,hba⟩:∃ b,(⟨1,0,0,0,none,[],0,0,10,BA,L,bc⟩:BK)=b:=⟨_,rfl⟩
 have hbaok:ba.ok:=by rw [←hba];exact em_ok 3 4 (fun _=>0) 1 0 0 none [] 0 0 10 BA L bc ⟨by decide,by decide⟩ ⟨by decide,by decide⟩ (by decide) ⟨by decide,by decide⟩ ⟨by decide,by decide⟩ (by decide) heL
 have HSB:Hid (∀ g,(fun j=>∃ i,i<4∧j=p i+1) g→g<w2.heap.size):=hQ9 (fun g ⟨i,hi,h⟩=>by have:=(HP.out i hi).2;have:=HQK.out;omega)
 have HRK:Hid (∀ y,Kp (fun j=>∃ i,i<4∧j=p i+1) w3 y→Rps y BA L):=hQ9 (fun y k=>hRp.kpx k (fun ad e h=>by have:=hf1 ad e;have:=HSB.out _ h;omega) (fun S hS ad e=>(hf2 S hS ad e).imp id (fun h1 h=>by have:=HSB.out _ h;omega)))
 have hL3:=k3.size
 have GW3:Grew w w3:=zK HG2.out k3 HG2.out.size (fun i ⟨j,hj,h⟩=>by have:=(HP.out j hj).1;omega)
 have hda:bkD ba=7638746923653312131:=by
  rw [←hba]
  exact(bkD_em _ heL).trans bD_a
 obtain⟨DA,hDA⟩:∃ d:Nat,7638746923653312131=d:=⟨_,rfl⟩
 have HDAE:=hQ9 hDA
 rw [hDA]at hda
 have HEL:=hQ9 heL
 have HBAE:=hQ9 hba
 rw [hba]
 obtain⟨w4,hw4,ht4,g4,z4⟩:=zU w3 41 (#[.int .i64 0,.int .u64 0,.int .i64 0,.int .u64 0,.slice none 0 0,.int .i64 0,.int .i64 0,.slice none 0 0]:Array Value) ba.C (by rw [←hba];rfl)
 have HW4:=hQ9 hw4
 have HT4:=hQ9 ht4
 have SIB:∀ b:BK,Hid ((Tryz.prog.info? 41).map (·.size)=some b.C.size):=fun b=>hQ9 yb
 have SIBL:∀ b:BK,Hid ((Tryz.prog.info? 41).map (·.size)=some b.C.toList.length):=fun b=>hQ9 yb
 have SIA:=SIB ba
 have SIAL:=SIBL ba
 have HOA:=hQ9 ba.one
 have kp4:Kp (fun j=>∃ i,i<4∧j=p i+1) w2 w4:=zC k3 (zi g4)
 have G4:=zc GW3 g4
 have HBAT:Hid (∀ y,Kp (fun j=>∃ i,i<4∧j=p i+1) w4 y→ba.at y):=hQ9 (fun y k=>by
  rw [←hba]
  exact⟨⟨RdC.nil _ _ _,by simp,by simp⟩,HRK.out y (zC (zi g4) k)⟩)
 have zk4:=HZK.out.kp kp4 (fun⟨i,hi,h⟩=>by have:=(HP.out i hi).2;omega)
 have hlb:lad.block<w2.heap.size:=by have:=zW (HLD.out 0 (by decide));rwa [zo]at this
 have ld4:∀ i,i<4→w4.cell? (lad.add i)=some (.pointer (some ⟨p i+1,0,none⟩)):=fun i hi=>(World.cell?_of_block (by rw [zo];exact kp4.block lad.block hlb (fun⟨j,hj,h⟩=>FL.out j hj h))).trans (HLD.out i hi)
 have HRB:Hid (∀ ad,RA=some ad→ad.block<w2.heap.size):=hQ9 (fun ad e=>by
  obtain⟨ad2,e2,hb,_⟩:=HRR.out 0 (by simp [u64L,kd])
  rw [e]at e2;cases e2;exact hb)
 have rR4:=(HRR.out.kp kp4 (Nat.le_refl _) (fun ad e h1 ⟨j,hj,h⟩=>FR.out j hj ad e h)).more kp4.size
 have CCE:=hQ9 (zgg 3 4 (hQ9 (by omega)) (nxt (fun _=>0) 3) (hQ9 n1_lt) ba (hQ9 hbaok) (hQ9 (by rw [←hba];show vwB 1=true;decide)) DA (hQ9 hda) w HS.out p lad Lc RA Rc w4 G4 (K3.grew g4) HAP.out (fun i hi=>(HP.out i hi).1) ld4 FL.out FR.out rR4 HBAT.out)
 rw [HKCE.out,show ba.vw=1 from by rw [←hba]]at CCE
 have HBAOK:=hQ9 hbaok
 have HDA:=hQ9 hda
 have hm4:=z4.cell
 have hmk4:=zk4.cell
 have HZ4:=hQ9 z4
 have HZK4:=hQ9 zk4
 have HLD4:=hQ9 ld4
 have HRR4:=hQ9 rR4
 have HG4:=hQ9 G4
 have HKP4:=hQ9 kp4
 have hz34:=z4.lt
 have HL3:=hQ9 hL3
 clear hbaok hba hDA hda heL hRp hf1 hf2 k3 K3 g4 z4 kp4 G4 zk4 ld4 rR4 HLD HRR HZK HKS hw4 ht4 GW3 hlb hL3 HRK
 generalize hga:ba.C=ga at *
 have HGA:=hQ9 hga
 clear hga
 go_wp2_with(first
  | (with_reducible refine wpList_store_mid rfl 41 (.tmp 3) (.tmp 25) rfl w3.heap.size 0 ga rfl rfl HT4.out SIA.out HOA.out ?_;rw [HW4.out];clear HW4 HT4)
  | (with_reducible refine wpList_load_mid rfl 49 (.tmp 2) rfl qk 0 rfl kc.toList _ hmk4 hkt rfl HSKL.out ?_;simp only [Array.toArray_toList])
  | (with_reducible refine wpList_load_mid rfl 41 (.tmp 3) rfl w3.heap.size 0 rfl ga.toList _ hm4 hbt rfl SIAL.out ?_;simp only [Array.toArray_toList]))
 refine(CCE.out).mono ?_
 clear CCE hm4 hmk4
 rintro e w5 ⟨⟨QA,qc,N,rfl,hmvN,hVp,hq1,hq2,-⟩,k5,K5⟩
 obtain⟨A1,A2,A3,c1,c2,c3,hN⟩:=v3_mv hmvN
 have hN3:N.length=3:=by rw [hN];rfl
 obtain⟨qa,hQA,hqal,-⟩:=hVp.get 0 (by rw [hN3];decide)
 subst hQA
 have hL5:=k5.size
 have HSB4:Hid (∀ g,(fun j=>∃ i,i<4∧j=p i+1) g→g<w2.heap.size):=HSB
 have hw24:w2.heap.size≤w4.heap.size:=HKP4.out.size
 have HVK:Hid (∀ y,Kp (fun j=>∃ i,i<4∧j=p i+1) w5 y→Vps y (some ⟨qa,0,none⟩) N):=hQ9 (fun y k=>hVp.kpx k (fun ad e h=>by have:=hq1 ad e;have:=HSB.out _ h;omega) (fun S hS ad e=>(hq2 S hS ad e).imp id (fun h1 h=>by have:=HSB.out _ h;omega)))
 obtain⟨gq,hgq⟩:∃ g,vqC 1 DA (some ⟨qa,0,none⟩) 3 qc=g:=⟨_,rfl⟩
 have HGQ:=hQ9 hgq
 obtain⟨w6,hw6,ht6,g6,z6⟩:=zU w5 38 (#[.int .i64 0,.int .u64 0,.slice none 0 0]:Array Value) gq (by rw [←hgq];rfl)
 have HW6:=hQ9 hw6
 have HT6:=hQ9 ht6
 have SIQ:Hid ((Tryz.prog.info? 38).map (·.size)=some gq.size):=hQ9 (by rw [←hgq];exact yf)
 have SIQL:Hid ((Tryz.prog.info? 38).map (·.size)=some gq.toList.length):=hQ9 (by rw [←hgq];exact yf)
 have HOQ:Hid (gq.all (·.oneCell')=true):=hQ9 (by rw [←hgq];exact yl _ _ _ _ _)
 have kp6:Kp (fun j=>∃ i,i<4∧j=p i+1) w4 w6:=zC k5 (zi g6)
 have G6:Grew w w6:=zc (zK HG4.out k5 HG4.out.size (fun i ⟨j,hj,h⟩=>by have:=(HP.out j hj).1;omega)) g6
 have zk6:=HZK4.out.kp kp6 (fun⟨i,hi,h⟩=>by have:=(HP.out i hi).2;omega)
 have z46:=HZ4.out.kp kp6 (fun h=>by have:=HSB.out _ h;have:=HL3.out;omega)
 have hlb:lad.block<w4.heap.size:=by have:=zW (HLD4.out 0 (by decide));rwa [zo]at this
 have ld6:∀ i,i<4→w6.cell? (lad.add i)=some (.pointer (some ⟨p i+1,0,none⟩)):=fun i hi=>(World.cell?_of_block (by rw [zo];exact kp6.block lad.block hlb (fun⟨j,hj,h⟩=>FL.out j hj h))).trans (HLD4.out i hi)
 have rR6:=(HRR4.out.kp kp6 (Nat.le_refl _) (fun ad e h1 ⟨j,hj,h⟩=>FR.out j hj ad e h)).more kp6.size
 have CEM:=hQ9 (zdb 3 4 (hQ9 (by omega)) (nxd (nxt (fun _=>0) 3) 3) (hQ9 n2_lt) 3 1 DA (some ⟨qa,0,none⟩) N qc 10 20 (hQ9 (by omega)) (hQ9 (by omega)) (hQ9 (by omega)) w HS.out p lad Lc w6 G6 (K5.grew g6) HAP.out (fun i hi=>(HP.out i hi).1) ld6 FL.out)
 rw [hN3,hgq]at CEM
 rw [hgq]
 have HN:=hQ9 hN
 have HN3:=hQ9 hN3
 have HVK6:Hid (∀ y,Kp (fun j=>∃ i,i<4∧j=p i+1) w6 y→Vps y (some ⟨qa,0,none⟩) N):=hQ9 (fun y k=>HVK.out y (zC (zi g6) k))
 have HBAT6:Hid (∀ y,Kp (fun j=>∃ i,i<4∧j=p i+1) w6 y→ba.at y):=hQ9 (fun y k=>HBAT.out y (zC kp6 k))
 have hm6:=z6.cell
 have HZ6:=hQ9 z6
 have HZK6:=hQ9 zk6
 have HZ46:=hQ9 z46
 have HRR6:=hQ9 rR6
 have HG6:=hQ9 G6
 have HKP6:=hQ9 kp6
 have hz56:=z6.lt
 have HL5:=hQ9 hL5
 clear hmvN hVp hq1 hq2 k5 K5 hN hN3 hgq hw6 ht6 g6 z6 kp6 G6 zk6 z46 ld6 rR6 hlb hL5 HVK HBAT HZ4 HZK4 HLD4 HRR4 HG4 hqal
 go_wp2_with(first
  | (with_reducible refine wpList_store_mid rfl 38 (.tmp 5) (.tmp 32) rfl w5.heap.size 0 gq rfl rfl HT6.out SIQ.out HOQ.out ?_;rw [HW6.out];clear HW6 HT6)
  | (with_reducible refine wpList_load_mid rfl 38 (.tmp 5) rfl w5.heap.size 0 rfl gq.toList _ hm6 hqt rfl SIQL.out ?_;simp only [Array.toArray_toList]))
 refine(CEM.out).mono ?_
 clear CEM hm6
 rintro e w7 ⟨⟨BB,bd,M,rfl,heM,hRq,hf3,hf4,hcap⟩,k7,-⟩
 have hM3:M.length=3:=heM.len
 have HDL:Hid (DA<18446744073709551616):=hQ9 (by rw [←HDAE.out];decide)
 have HD5:Hid (5≠DA):=hQ9 (by rw [←HDAE.out];decide)
 have HNL:Hid (N.length≤100000):=hQ9 (by rw [HN3.out];decide)
 have HML:Hid (M.length≤1000):=hQ9 (by rw [hM3];decide)
 have GW7:Grew w w7:=zK HG6.out k7 HG6.out.size (fun i ⟨j,hj,h⟩=>by have:=(HP.out j hj).1;omega)
 have HRM:Hid (∀ y,Grew w7 y→Rps y BB M):=hQ9 (fun y g=>hRq.gr g)
 have HQN:Hid (∀ y,Grew w7 y→Vps y (some ⟨qa,0,none⟩) N):=hQ9 (fun y g=>HVK6.out y (zC k7 (zi g)))
 have HAT:Hid (∀ y,Grew w7 y→ba.at y):=hQ9 (fun y g=>HBAT6.out y (zC k7 (zi g)))
 have HKA:Hid (∀ y,Grew w7 y→(kpV 3 4 RA Rc).at y):=hQ9 (fun y g=>by
  have hRb:∀ ad,RA=some ad→ad.block<w2.heap.size:=HRB.out
  have h:Rd w7 w7.heap.size RA (u64L (rtL 3 4 4)):=(HRR6.out.kp k7 (Nat.le_refl _) (fun ad e h1 ⟨j,hj,h⟩=>FR.out j hj ad e h)).more k7.size
  exact Rd.gr h g)
 have HMK:Hid (∀ y,Grew w7 y→y.rangeAt qk 0 kc.toList):=hQ9 (fun y g=>(HZK6.out.kp (zC k7 (zi g)) (fun⟨i,hi,h⟩=>by have:=(HP.out i hi).2;omega)).cell)
 have HMA:Hid (∀ y,Grew w7 y→y.rangeAt w3.heap.size 0 ga.toList):=hQ9 (fun y g=>(HZ46.out.kp (zC k7 (zi g)) (fun h=>by have:=HSB.out _ h;have:=HL3.out;omega)).cell)
 have HZQ:Hid (∀ y,Grew w7 y→Ag y w5.heap.size gq.toList):=hQ9 (fun y g=>HZ6.out.kp (zC k7 (zi g)) (fun h=>by have:=HSB.out _ h;have:=HKP4.out.size;have:=HL5.out;omega))
 have HC2:Hid (∀ y,Grew w7 y→y.cell? ⟨w5.heap.size,2,none⟩=some (.slice (some ⟨qa,0,none⟩) 3 qc)):=hQ9 (fun y g=>by simpa using (HZQ.out y g).cell 2 _ (by rw [←HGQ.out];rfl))
 have HMQ:Hid (∀ y,Grew w7 y→y.rangeAt w5.heap.size 0 gq.toList):=hQ9 (fun y g=>(HZQ.out y g).cell)
 have HSY:Hid (∀ y,Grew w7 y→Std y):=hQ9 (fun y g=>HS.out.grew (zc GW7 g))
 have HEM:=hQ9 heM
 obtain⟨S0,hS0⟩:∃ S,vpK 3 4 ((nxt (fun _=>0) 3) 1) 1 DA 1 A1 c1=S:=⟨_,rfl⟩
 have HS0:=hQ9 hS0
 have HN0:Hid (N[0]?=some S0):=hQ9 (by rw [HN.out,←hS0];rfl)
 have HCQ:Hid (cqV (kpV 3 4 RA Rc) 1 DA N=0):=hQ9 (by rw [HN.out];exact vcq3 3 4 RA Rc 1 DA (by omega) (by decide) _ _ _ (n1_lt 1 (by decide) (by decide)) (n1_lt 2 (by decide) (by decide)) (n1_lt 3 (by decide) (by decide)) A1 A2 A3 c1 c2 c3)
 have HMV:Hid (∀ y,Grew w7 y→y.rangeAt qa 0 S0.C.toList):=hQ9 (fun y g=>by
  obtain⟨q,e,_,h⟩:=(HQN.out y g).get 0 (by rw [HN3.out];decide)
  cases e
  have hn:N[0]'(by rw [HN3.out];decide)=S0:=by have:=HN0.out;rw [List.getElem?_eq_getElem (by rw [HN3.out];decide)]at this;exact Option.some.inj this
  rw [hn,Nat.zero_mul]at h
  exact h)
 have HSO:Hid (S0.ok∧∀ y,Grew w7 y→S0.at y):=hQ9 (by
  have hm:S0∈N:=List.mem_of_getElem? HN0.out
  exact⟨(HQN.out w7 (za _)).ok S0 hm,fun y g=>(HQN.out y g).at_ S0 hm⟩)
 have HVV:Hid (∀ A c,vvS (kpV 3 4 RA Rc) ⟨2,S0.cm,S0.who,S0.sw,S0.lf,S0.s,A,c,S0.l⟩=7):=hQ9 (fun A c=>by rw [←hS0,←HDAE.out];exact zia RA Rc A c)
 have HW0:Hid (S0.who=1):=hQ9 (by rw [←hS0];rfl)
 have HC5:Hid (∀ y,Grew w7 y→y.cell? ⟨qa,2,none⟩=some (.int .i64 1)):=hQ9 (fun y g=>by
  have h:y.cell? ⟨qa,0+2,none⟩=_:=HMV.out y g 2 (.int .i64 S0.who) rfl
  rw [HW0.out]at h
  simpa using h)
 have hcap2:(2:Int)≤(bd:Int):=by omega
 obtain⟨gb,hgb⟩:∃ g,(⟨3,DA,1,DA,(some ⟨qa,0,none⟩),N,qc,10,20,BB,M,bd⟩:BK).C=g:=⟨_,rfl⟩
 rw [hgb]
 have HGB:=hQ9 hgb
 have HG8:Hid (gb.size=8):=hQ9 (by rw [←hgb];rfl)
 have SIB2:Hid ((Tryz.prog.info? 41).map (·.size)=some gb.size):=hQ9 (by rw [←hgb];exact yb)
 have SIBL:Hid ((Tryz.prog.info? 41).map (·.size)=some gb.toList.length):=hQ9 (by rw [←hgb];exact yb)
 have HOB:Hid (gb.all (·.oneCell')=true):=hQ9 (by rw [←hgb];exact BK.one _)
 obtain⟨w8,hw8,ht8,g8,z8⟩:=zU w7 41 (#[.int .i64 0,.int .u64 0,.int .i64 0,.int .u64 0,.slice none 0 0,.int .i64 0,.int .i64 0,.slice none 0 0]:Array Value) gb (by rw [←hgb];rfl)
 have HW8:=hQ9 hw8
 have HT8:=hQ9 ht8
 have HMB:Hid (∀ y,Grew w8 y→y.rangeAt w7.heap.size 0 gb.toList):=hQ9 (fun y g=>(z8.grew g).cell)
 have hC7:∀ y,Grew w8 y→y.cell? ⟨w7.heap.size,7,none⟩=some (.slice BB 3 bd):=fun y g=>by simpa using (z8.grew g).cell 7 _ (by rw [←hgb,←hM3];rfl)
 have HC7:=hQ9 hC7
 have SIB:=SIB2
 have HSB6:=HSB
 have HG7:=hQ9 GW7
 have HB8:=hQ9 g8
 clear SIB2 hw8 ht8 z8 hgb hS0 hRq hf3 hf4 heM GW7 k7 hC7 HVK6 HBAT6 HRR6 HZK6 HZ46 HZ6 HN HKP4 HKP6 HG2 HG6 HL3 HL5 hz34 hz56 hw24 HSB4 hcap g8
 have hc2:=HC2.out w8 HB8.out
 go_upto_region 9 with (with_reducible refine wpList_store_mid rfl 41 (.tmp 7) (.tmp 38) rfl w7.heap.size 0 gb rfl rfl HT8.out SIB.out HOB.out ?_;rw [HW8.out];clear HW8 HT8)
 clear hc2
 generalize w7.heap.size=q7 at *
 generalize w5.heap.size=q5 at *
 generalize w3.heap.size=q3 at *
 have k8:Grew w8 w8:=za _
 obtain⟨w9,hw9,ht9,g9,z9⟩:=zU w8 41 (#[.int .i64 0,.int .u64 0,.int .i64 0,.int .u64 0,.slice none 0 0,.int .i64 0,.int .i64 0,.slice none 0 0]:Array Value) gb (by rw [HG8.out];rfl)
 have HW9:=hQ9 hw9
 have HT9:=hQ9 ht9
 clear hw9 ht9
 have hmb:=HMB.out _ k8
 go_upto_region 10 with (first
  | (with_reducible refine wpList_load_mid rfl 41 (.tmp 7) rfl q7 0 rfl gb.toList _ hmb hbt rfl SIBL.out ?_;simp only [Array.toArray_toList])
  | (with_reducible refine wpList_store_mid rfl 41 (.tmp 9) (.tmp 56) rfl (w8).heap.size 0 gb rfl rfl HT9.out SIB.out HOB.out ?_;rw [HW9.out];clear HW9 HT9))
 have x9:w9.cell? ⟨(w8).heap.size,0,none⟩=some (.int .i64 3):=by simpa using z9.cell 0 (.int .i64 3) (by rw [←HGB.out];rfl)
 have f9:w9.frozen? ⟨(w8).heap.size,0,none⟩=false:=by simpa using (z9.there 0 (by rw [Array.length_toList,HG8.out];decide)).2
 have t9:=xc (g:=(w8).heap.size) (yZ _ w9) (p:=⟨(w8).heap.size,0,none⟩) (.inl rfl) (.int .i64 1)
 have y9:=Ag.set1 z9 0 (.int .i64 1) (by rw [Array.length_toList,HG8.out];decide)
 obtain⟨gc,hgc⟩:∃ g,(⟨1,DA,1,DA,(some ⟨qa,0,none⟩),N,qc,10,20,BB,M,bd⟩:BK).C=g:=⟨_,rfl⟩
 have HGc:=hQ9 hgc
 rw [show gb.toList.set 0 (.int .i64 1)=gc.toList from by rw [←HGB.out,←hgc];rfl]at y9
 have k9:=xi g9 t9 (Nat.le_refl _)
 obtain⟨v9,hv9⟩:∃ v,w9.setCell ⟨(w8).heap.size,0,none⟩ (.int .i64 1)=v:=⟨_,rfl⟩
 rw [hv9]at y9 k9
 have HV9:=hQ9 hv9
 clear t9 hv9 hgc z9 g9 hmb
 go_upto_region 11 with fail
 rw [HV9.out]
 clear x9 f9 HV9
 generalize (w8).heap.size=q9 at *
 have j8:=k9
 have k9:=zc k8 k9
 obtain⟨w10,hw10,ht10,g10,z10⟩:=zU v9 41 (#[.int .i64 0,.int .u64 0,.int .i64 0,.int .u64 0,.slice none 0 0,.int .i64 0,.int .i64 0,.slice none 0 0]:Array Value) gb (by rw [HG8.out];rfl)
 have HW10:=hQ9 hw10
 have HT10:=hQ9 ht10
 clear hw10 ht10
 have hmb:=HMB.out _ k9
 go_upto_region 12 with (first
  | (with_reducible refine wpList_load_mid rfl 41 (.tmp 7) rfl q7 0 rfl gb.toList _ hmb hbt rfl SIBL.out ?_;simp only [Array.toArray_toList])
  | (with_reducible refine wpList_store_mid rfl 41 (.tmp 10) (.tmp 58) rfl (v9).heap.size 0 gb rfl rfl HT10.out SIB.out HOB.out ?_;rw [HW10.out];clear HW10 HT10))
 have x10:w10.cell? ⟨(v9).heap.size,1,none⟩=some (.int .u64 (DA:Nat)):=by simpa using z10.cell 1 (.int .u64 (DA:Nat)) (by rw [←HGB.out];rfl)
 have f10:w10.frozen? ⟨(v9).heap.size,1,none⟩=false:=by simpa using (z10.there 1 (by rw [Array.length_toList,HG8.out];decide)).2
 have t10:=xc (g:=(v9).heap.size) (yZ _ w10) (p:=⟨(v9).heap.size,1,none⟩) (.inl rfl) (.int .u64 5)
 have y10:=Ag.set1 z10 1 (.int .u64 5) (by rw [Array.length_toList,HG8.out];decide)
 obtain⟨gd,hgd⟩:∃ g,(⟨3,5,1,DA,(some ⟨qa,0,none⟩),N,qc,10,20,BB,M,bd⟩:BK).C=g:=⟨_,rfl⟩
 have HGd:=hQ9 hgd
 rw [show gb.toList.set 1 (.int .u64 5)=gd.toList from by rw [←HGB.out,←hgd];rfl]at y10
 have k10:=xi g10 t10 (Nat.le_refl _)
 obtain⟨v10,hv10⟩:∃ v,w10.setCell ⟨(v9).heap.size,1,none⟩ (.int .u64 5)=v:=⟨_,rfl⟩
 rw [hv10]at y10 k10
 have HV10:=hQ9 hv10
 clear t10 hv10 hgd z10 g10 hmb
 go_upto_region 13 with fail
 rw [HV10.out]
 clear x10 f10 HV10
 generalize (v9).heap.size=q10 at *
 have j9:=k10
 have k10:=zc k9 k10
 obtain⟨w11,hw11,ht11,g11,z11⟩:=zU v10 41 (#[.int .i64 0,.int .u64 0,.int .i64 0,.int .u64 0,.slice none 0 0,.int .i64 0,.int .i64 0,.slice none 0 0]:Array Value) gb (by rw [HG8.out];rfl)
 have HW11:=hQ9 hw11
 have HT11:=hQ9 ht11
 clear hw11 ht11
 have hmb:=HMB.out _ k10
 go_upto_region 14 with (first
  | (with_reducible refine wpList_load_mid rfl 41 (.tmp 7) rfl q7 0 rfl gb.toList _ hmb hbt rfl SIBL.out ?_;simp only [Array.toArray_toList])
  | (with_reducible refine wpList_store_mid rfl 41 (.tmp 11) (.tmp 60) rfl (v10).heap.size 0 gb rfl rfl HT11.out SIB.out HOB.out ?_;rw [HW11.out];clear HW11 HT11))
 have x11:w11.cell? ⟨(v10).heap.size,5,none⟩=some (.int .i64 10):=by simpa using z11.cell 5 (.int .i64 10) (by rw [←HGB.out];rfl)
 have f11:w11.frozen? ⟨(v10).heap.size,5,none⟩=false:=by simpa using (z11.there 5 (by rw [Array.length_toList,HG8.out];decide)).2
 have t11:=xc (g:=(v10).heap.size) (yZ _ w11) (p:=⟨(v10).heap.size,5,none⟩) (.inl rfl) (.int .i64 11)
 have y11:=Ag.set1 z11 5 (.int .i64 11) (by rw [Array.length_toList,HG8.out];decide)
 obtain⟨ge,hge⟩:∃ g,(⟨3,DA,1,DA,(some ⟨qa,0,none⟩),N,qc,11,20,BB,M,bd⟩:BK).C=g:=⟨_,rfl⟩
 have HGe:=hQ9 hge
 rw [show gb.toList.set 5 (.int .i64 11)=ge.toList from by rw [←HGB.out,←hge];rfl]at y11
 have k11:=xi g11 t11 (Nat.le_refl _)
 obtain⟨v11,hv11⟩:∃ v,w11.setCell ⟨(v10).heap.size,5,none⟩ (.int .i64 11)=v:=⟨_,rfl⟩
 rw [hv11]at y11 k11
 have HV11:=hQ9 hv11
 clear t11 hv11 hge z11 g11 hmb
 go_upto_region 15 with fail
 rw [HV11.out]
 clear x11 f11 HV11
 generalize (v10).heap.size=q11 at *
 have j10:=k11
 have k11:=zc k10 k11
 have HM2:Hid ((M.take 2).length=2):=hQ9 (by rw [List.length_take,hM3];rfl)
 obtain⟨w12,hw12,ht12,g12,z12⟩:=zU v11 41 (#[.int .i64 0,.int .u64 0,.int .i64 0,.int .u64 0,.slice none 0 0,.int .i64 0,.int .i64 0,.slice none 0 0]:Array Value) gb (by rw [HG8.out];rfl)
 have HW12:=hQ9 hw12
 have HT12:=hQ9 ht12
 clear hw12 ht12
 have hmb:=HMB.out _ k11
 go_upto_region 16 with (first
  | (with_reducible refine wpList_load_mid rfl 41 (.tmp 7) rfl q7 0 rfl gb.toList _ hmb hbt rfl SIBL.out ?_;simp only [Array.toArray_toList])
  | (with_reducible refine wpList_store_mid rfl 41 (.tmp 12) (.tmp 62) rfl (v11).heap.size 0 gb rfl rfl HT12.out SIB.out HOB.out ?_;rw [HW12.out];clear HW12 HT12))
 have x12:w12.cell? ⟨(v11).heap.size,7,none⟩=some (.slice BB 3 bd):=by simpa using z12.cell 7 (.slice BB 3 bd) (by rw [←HGB.out,←hM3];rfl)
 have f12:w12.frozen? ⟨(v11).heap.size,7,none⟩=false:=by simpa using (z12.there 7 (by rw [Array.length_toList,HG8.out];decide)).2
 have t12:=xc (g:=(v11).heap.size) (yZ _ w12) (p:=⟨(v11).heap.size,7,none⟩) (.inl rfl) (.slice BB 2 bd)
 have y12:=Ag.set1 z12 7 (.slice BB 2 bd) (by rw [Array.length_toList,HG8.out];decide)
 obtain⟨gf,hgf⟩:∃ g,(⟨3,DA,1,DA,(some ⟨qa,0,none⟩),N,qc,10,20,BB,(M.take 2),bd⟩:BK).C=g:=⟨_,rfl⟩
 have HGf:=hQ9 hgf
 rw [show gb.toList.set 7 (.slice BB 2 bd)=gf.toList from by rw [←HGB.out,←hgf];show _=[Value.int .i64 3,.int .u64 (DA:Nat),.int .i64 1,.int .u64 (DA:Nat),.slice (some ⟨qa,0,none⟩) N.length qc,.int .i64 10,.int .i64 20,.slice BB (M.take 2).length bd];rw [HM2.out];rfl]at y12
 have k12:=xi g12 t12 (Nat.le_refl _)
 obtain⟨v12,hv12⟩:∃ v,w12.setCell ⟨(v11).heap.size,7,none⟩ (.slice BB 2 bd)=v:=⟨_,rfl⟩
 rw [hv12]at y12 k12
 have HV12:=hQ9 hv12
 have gg12:=g12
 clear t12 hv12 hgf z12 g12 hmb
 have hc7:=HC7.out w12 (zc k11 gg12)
 go_upto_region 17 with fail
 rw [HV12.out]
 clear x12 f12 HV12 gg12 hc7
 generalize (v11).heap.size=q12 at *
 have j11:=k12
 have k12:=zc k11 k12
 have SIV:Hid ((Tryz.prog.info? 69).map (·.size)=some S0.C.size):=hQ9 zF
 have SIVL:Hid ((Tryz.prog.info? 69).map (·.size)=some S0.C.toList.length):=hQ9 zF
 have HOV:Hid (S0.C.all (·.oneCell')=true):=hQ9 S0.one
 obtain⟨w13,hw13,ht13,g13,z13⟩:=zU v12 69 (#[.int .i64 0,.int .u64 0,.int .i64 0,.int .i64 0,.int .i64 0,.int .u64 0,.int .u64 0,.int .u64 0,.int .u64 0,.int .u64 0,.int .u64 0,.int .u64 0,.int .u64 0,.int .u64 0,.int .u64 0,.int .u64 0,.int .u64 0,.int .u64 0,.int .u64 0,.int .u64 0,.int .u64 0,.int .u64 0,.int .u64 0,.slice none 0 0]:Array Value) S0.C rfl
 have HW13:=hQ9 hw13
 have HT13:=hQ9 ht13
 clear hw13 ht13
 have K12:=zc HB8.out k12
 have hc2:=HC2.out v12 K12
 have hmv:=HMV.out v12 K12
 go_upto_region 18 with (first
  | (with_reducible refine wpList_load_mid rfl 69 (.tmp 69) rfl qa 0 rfl S0.C.toList _ hmv hvt rfl SIVL.out ?_;simp only [Array.toArray_toList])
  | (with_reducible refine wpList_store_mid rfl 69 (.tmp 13) (.tmp 70) rfl v12.heap.size 0 S0.C rfl rfl HT13.out SIV.out HOV.out ?_;rw [HW13.out];clear HW13 HT13))
 have x13:w13.cell? ⟨v12.heap.size,0,none⟩=some (.int .i64 S0.vw):=by simpa using z13.cell 0 (.int .i64 S0.vw) rfl
 have f13:w13.frozen? ⟨v12.heap.size,0,none⟩=false:=by simpa using (z13.there 0 (by show 0<24;decide)).2
 have t13:=xc (g:=v12.heap.size) (yZ _ w13) (p:=⟨v12.heap.size,0,none⟩) (.inl rfl) (.int .i64 2)
 have y13:=Ag.set1 z13 0 (.int .i64 2) (by show 0<24;decide)
 obtain⟨gv,hgv⟩:∃ g,(⟨2,S0.cm,S0.who,S0.sw,S0.lf,S0.s,S0.A,S0.c,S0.l⟩:VP).C=g:=⟨_,rfl⟩
 have HGV:=hQ9 hgv
 rw [show S0.C.toList.set 0 (.int .i64 2)=gv.toList from by rw [←hgv];rfl]at y13
 have k13:=xi g13 t13 (Nat.le_refl _)
 obtain⟨wZ,hwZ⟩:∃ v,w13.setCell ⟨v12.heap.size,0,none⟩ (.int .i64 2)=v:=⟨_,rfl⟩
 rw [hwZ]at y13 k13
 have HWZ:=hQ9 hwZ
 clear t13 hwZ hgv z13 g13 hmv hc2
 go_upto_region 19 with fail
 rw [HWZ.out]
 clear x13 f13 HWZ
 generalize v12.heap.size=q13 at *
 have KZ:=zc K12 k13
 have HKZ:=hQ9 KZ
 have HZ8:Hid (∀ y,Grew wZ y→Grew w8 y):=hQ9 (fun y g=>zc (zc k12 k13) g)
 have HZ7:Hid (∀ y,Grew wZ y→Grew w7 y):=hQ9 (fun y g=>zc HKZ.out g)
 have Y3:Hid (∀ y,Grew wZ y→y.rangeAt q7 0 gb.toList):=hQ9 (fun y g=>HMB.out y (HZ8.out y g))
 have Y9:Hid (∀ y,Grew wZ y→y.rangeAt q9 0 gc.toList):=hQ9 (fun y g=>(y9.grew (zc j9 (zc j10 (zc j11 (zc k13 g))))).cell)
 have Y10:Hid (∀ y,Grew wZ y→y.rangeAt q10 0 gd.toList):=hQ9 (fun y g=>(y10.grew (zc j10 (zc j11 (zc k13 g)))).cell)
 have Y11:Hid (∀ y,Grew wZ y→y.rangeAt q11 0 ge.toList):=hQ9 (fun y g=>(y11.grew (zc j11 (zc k13 g))).cell)
 have Y12:Hid (∀ y,Grew wZ y→y.rangeAt q12 0 gf.toList):=hQ9 (fun y g=>(y12.grew (zc k13 g)).cell)
 have Y13:Hid (∀ y,Grew wZ y→y.rangeAt q13 0 gv.toList):=hQ9 (fun y g=>(y13.grew g).cell)
 have YK:Hid (∀ y,Grew wZ y→y.rangeAt qk 0 kc.toList):=hQ9 (fun y g=>HMK.out y (HZ7.out y g))
 have YA:Hid (∀ y,Grew wZ y→y.rangeAt q3 0 ga.toList):=hQ9 (fun y g=>HMA.out y (HZ7.out y g))
 have YQ:Hid (∀ y,Grew wZ y→y.rangeAt q5 0 gq.toList):=hQ9 (fun y g=>HMQ.out y (HZ7.out y g))
 have Y2:Hid (∀ y,Grew wZ y→y.cell? ⟨q5,2,none⟩=some (.slice (some ⟨qa,0,none⟩) 3 qc)):=hQ9 (fun y g=>HC2.out y (HZ7.out y g))
 have Y5:Hid (∀ y,Grew wZ y→y.cell? ⟨qa,2,none⟩=some (.int .i64 1)):=hQ9 (fun y g=>HC5.out y (HZ7.out y g))
 have CVX:Hid (∀(x:BK) (r:Int),x.ok→blE (kpV 3 4 RA Rc) x=r→(∀ y,Grew w7 y→x.at y)→∀ W,Grew wZ W→Calls Tryz.prog 16 #[.agg kc,.agg x.C] W fun e w'=>e=.returned (.int .i64 r)∧Grew W w'):=hQ9 (fun x r hx hr ha W g=>by
  have:=zf4 HK0.out x hx W (HSY.out W (HZ7.out W g)) (HKA.out W (HZ7.out W g)) (ha W (HZ7.out W g))
  rw [hr,HKC.out]at this
  exact this)
 have HGO:Hid (∀(vw:Int) (pa:Nat) (lo:Int) (K:List RP),in64 vw→pa<18446744073709551616→in64 lo→K.length≤1000→(⟨vw,pa,1,DA,(some ⟨qa,0,none⟩),N,qc,lo,20,BB,K,bd⟩:BK).ok):=hQ9 (fun vw pa lo K h1 h2 h3 h4=>⟨h1,h2,⟨by show _≤(1:Int);decide,by show(1:Int)≤_;decide⟩,HDL.out,h3,⟨by show _≤(20:Int);decide,by show(20:Int)≤_;decide⟩,HNL.out,h4⟩)
 have HGT:Hid (∀(vw:Int) (pa:Nat) (lo:Int) (K:List RP),(∀ y,Grew w7 y→Rps y BB K)→∀ y,Grew w7 y→(⟨vw,pa,1,DA,(some ⟨qa,0,none⟩),N,qc,lo,20,BB,K,bd⟩:BK).at y):=hQ9 (fun vw pa lo K h y g=>⟨HQN.out y g,h y g⟩)
 have CVA:Hid (∀ W,Grew wZ W→Calls Tryz.prog 16 #[.agg kc,.agg ga] W fun e w'=>e=.returned (.int .i64 0)∧Grew W w'):=hQ9 (by rw [←HGA.out];exact CVX.out ba 0 HBAOK.out (by rw [←HBAE.out];exact zjv RA Rc BA bc HEL.out) HAT.out)
 have CVB:Hid (∀ W,Grew wZ W→Calls Tryz.prog 16 #[.agg kc,.agg gb] W fun e w'=>e=.returned (.int .i64 0)∧Grew W w'):=hQ9 (by
  rw [←HGB.out]
  refine CVX.out _ 0 (HGO.out 3 DA 10 M ⟨by decide,by decide⟩ HDL.out ⟨by decide,by decide⟩ HML.out) ?_ (HGT.out 3 DA 10 M HRM.out)
  exact(qS RA Rc DA (some ⟨qa,0,none⟩) N qc BB bd 10 20 HCQ.out (by decide) (by decide) (by decide) M).trans (zdc 3 4 RA Rc 10 20 (by omega) (by decide) _ n2_lt HEM.out))
 have CVC:Hid (∀ W,Grew wZ W→Calls Tryz.prog 16 #[.agg kc,.agg gc] W fun e w'=>e=.returned (.int .i64 12)∧Grew W w'):=hQ9 (by
  rw [←HGc.out]
  exact CVX.out _ 12 (HGO.out 1 DA 10 M ⟨by decide,by decide⟩ HDL.out ⟨by decide,by decide⟩ HML.out) (zjw RA Rc DA (some ⟨qa,0,none⟩) N qc BB bd 10 20 M) (HGT.out 1 DA 10 M HRM.out))
 have CVD:Hid (∀ W,Grew wZ W→Calls Tryz.prog 16 #[.agg kc,.agg gd] W fun e w'=>e=.returned (.int .i64 11)∧Grew W w'):=hQ9 (by
  rw [←HGd.out]
  exact CVX.out _ 11 (HGO.out 3 5 10 M ⟨by decide,by decide⟩ (by decide) ⟨by decide,by decide⟩ HML.out) (zjx RA Rc DA (some ⟨qa,0,none⟩) N qc BB bd HD5.out 10 20 M) (HGT.out 3 5 10 M HRM.out))
 have CVE:Hid (∀ W,Grew wZ W→Calls Tryz.prog 16 #[.agg kc,.agg ge] W fun e w'=>e=.returned (.int .i64 18)∧Grew W w'):=hQ9 (by
  rw [←HGe.out]
  refine CVX.out _ 18 (HGO.out 3 DA 11 M ⟨by decide,by decide⟩ HDL.out ⟨by decide,by decide⟩ HML.out) ?_ (HGT.out 3 DA 11 M HRM.out)
  exact(qS RA Rc DA (some ⟨qa,0,none⟩) N qc BB bd 11 20 HCQ.out (by decide) (by decide) (by decide) M).trans (cqr_no 3 4 RA Rc 10 20 _ HEM.out 11 20 (.inl (by decide))))
 have CVF:Hid (∀ W,Grew wZ W→Calls Tryz.prog 16 #[.agg kc,.agg gf] W fun e w'=>e=.returned (.int .i64 8)∧Grew W w'):=hQ9 (by
  rw [←HGf.out]
  refine CVX.out _ 8 (HGO.out 3 DA 10 (M.take 2) ⟨by decide,by decide⟩ HDL.out ⟨by decide,by decide⟩ (by rw [HM2.out];decide)) ?_ (HGT.out 3 DA 10 (M.take 2) (fun y g=>(HRM.out y g).take 2))
  exact(qS RA Rc DA (some ⟨qa,0,none⟩) N qc BB bd 10 20 HCQ.out (by decide) (by decide) (by decide) (M.take 2)).trans (zjs 3 4 RA Rc 10 20 (M.take 2) (by rw [HM2.out];decide)))
 have CQX:Hid (∀(u:Int) (d:Nat) (A:Option Addr) (cap:Nat) (L:List VP) (r:Int),L.length≤100000→vqE (kpV 3 4 RA Rc) u d L=r→(∀ y,Grew w7 y→Vps y A L)→∀ W,Grew wZ W→Calls Tryz.prog 39 #[.agg kc,.agg (vqC u d A L.length cap)] W fun e w'=>e=.returned (.int .i64 r)∧Grew W w'):=hQ9 (fun u d A cap L r hl hr hv W g=>by
  have:=jm HK0.out u d A cap L hl W (HSY.out W (HZ7.out W g)) (HKA.out W (HZ7.out W g)) (hv W (HZ7.out W g))
  rw [hr,HKC.out]at this
  exact this)
 have HV0:Hid (∀ y,Grew w7 y→Vps y none []):=hQ9 (fun y g=>⟨RdC.nil _ _ _,by simp,by simp⟩)
 have CQ1:Hid (∀ W,Grew wZ W→Calls Tryz.prog 39 #[.agg kc,.agg gq] W fun e w'=>e=.returned (.int .i64 0)∧Grew W w'):=hQ9 (by
  have:=CQX.out 1 DA (some ⟨qa,0,none⟩) qc N 0 HNL.out (vqE_n RA Rc DA N HCQ.out) HQN.out
  rw [HN3.out,HGQ.out]at this
  exact this)
 have CQ2:Hid (∀ W,Grew wZ W→Calls Tryz.prog 39 #[.agg kc,.agg (#[.int .i64 0,.int .u64 0,.slice none 0 0]:Array Value)] W fun e w'=>e=.returned (.int .i64 0)∧Grew W w'):=hQ9 (CQX.out 0 0 none 0 [] 0 (by decide) (by unfold vqE;exact(if_pos rfl).trans ((if_pos rfl).trans (if_pos rfl))) HV0.out)
 have CQ3:Hid (∀ W,Grew wZ W→Calls Tryz.prog 39 #[.agg kc,.agg (#[.int .i64 0,.int .u64 1,.slice none 0 0]:Array Value)] W fun e w'=>e=.returned (.int .i64 1)∧Grew W w'):=hQ9 (CQX.out 0 1 none 0 [] 1 (by decide) (by unfold vqE;exact(if_pos rfl).trans (if_neg (by decide))) HV0.out)
 have CVV:Hid (∀ W,Grew wZ W→Calls Tryz.prog 27 #[.agg kc,.agg gv] W fun e w'=>e=.returned (.int .i64 7)∧Grew W w'):=hQ9 (fun W g=>by
  have hk:=HSO.out.1
  have:=xw (S:=⟨2,S0.cm,S0.who,S0.sw,S0.lf,S0.s,S0.A,S0.c,S0.l⟩) HK0.out ⟨⟨by show _≤(2:Int);decide,by show(2:Int)≤_;decide⟩,hk.cm,hk.who,hk.sw,hk.lf,hk.s,hk.len,hk.l⟩ W (HSY.out W (HZ7.out W g)) (HKA.out W (HZ7.out W g)) (HSO.out.2 W (HZ7.out W g))
  rw [HVV.out,HGV.out,HKC.out]at this
  exact this)
 have CBA:Hid (∀ W,Grew wZ W→Calls Tryz.prog 24 #[.agg ga] W fun e w'=>e=.returned (.slice none 0 0)∧Grew W w'):=hQ9 (fun W g=>by rw [←HGA.out];exact zgk ba HBAOK.out W (HAT.out W (HZ7.out W g)))
 have CGE:=hQ9 zei
 have CDG:Hid (∀ W,Grew wZ W→Calls Tryz.prog 19 #[.agg bk0.C] W fun e w'=>e=.returned (.int .u64 0)∧Grew W w'):=hQ9 (fun W g=>qz bk0 bk0_ok W (HSY.out W (HZ7.out W g)) (bk0_at W))
 have CVW:Hid (∀ W,Grew wZ W→Calls Tryz.prog 37 #[.int .i64 1,.int .u64 255] W fun e w'=>e=.returned (.string ⟨#[124,118,111,116,101,124,49,124,48,48,48,48,48,48,48,48,48,48,48,48,48,48,102,102]⟩)∧Grew W w'):=hQ9 (fun W g=>by
  have:=ku 1 255 (by decide) ⟨by decide,by decide⟩ W (HSY.out W (HZ7.out W g))
  rw [zjt]at this
  exact this)
 have HGF:Hid (Grew w wZ):=hQ9 (zc HG7.out HKZ.out)
 have HLA:Hid ((Tryz.prog.info? 41).map (·.size)=some ga.toList.length):=hQ9 (by rw [←HGA.out];exact yb)
 have HLc:Hid ((Tryz.prog.info? 41).map (·.size)=some gc.toList.length):=hQ9 (by rw [←HGc.out];exact yb)
 have HLd:Hid ((Tryz.prog.info? 41).map (·.size)=some gd.toList.length):=hQ9 (by rw [←HGd.out];exact yb)
 have HLe:Hid ((Tryz.prog.info? 41).map (·.size)=some ge.toList.length):=hQ9 (by rw [←HGe.out];exact yb)
 have HLf:Hid ((Tryz.prog.info? 41).map (·.size)=some gf.toList.length):=hQ9 (by rw [←HGf.out];exact yb)
 have HLv:Hid ((Tryz.prog.info? 69).map (·.size)=some gv.toList.length):=hQ9 (by rw [←HGV.out];exact zF)
 have hgz:=za wZ
 clear y9 y10 y11 y12 y13 k8 k9 k10 k11 k12 k13 j9 j10 j11 K12 KZ hcap2 hM3
 clear HBAOK HBAE HEL HEM HCQ HVV HSO HN0 HS0 HW0 HN3 HNL HML HDL HD5 HDAE HDA HGQ HGB HGc HGd HGe HGf HGV HGA
 generalize bk0.C=gz at *
 simp only [List.append_eq,List.cons_append,List.nil_append]
 go_wp2_with fail
 refine(CGE.out wZ).mono ?_
 rintro e u0 ⟨rfl,gu0⟩
 have gx0:=zc hgz gu0
 clear gu0
 go_wp2_with fail
 refine(CDG.out u0 gx0).mono ?_
 rintro e u1 ⟨rfl,gu1⟩
 have gx1:=zc gx0 gu1
 clear gu1
 have hc2:=Y2.out u1 gx1
 have hc5:=Y5.out u1 gx1
 have hm0:=YK.out u1 gx1
 have hm1:=YA.out u1 gx1
 go_wp2_with(first | (refine zg (by rfl) 49 (.tmp 2) rfl qk 0 rfl kc.toList _ hm0 hkt rfl HSKL.out ?_;simp only [Array.toArray_toList]) | (refine zg (by rfl) 41 (.tmp 3) rfl q3 0 rfl ga.toList _ hm1 hbt rfl HLA.out ?_;simp only [Array.toArray_toList]))
 refine(CVA.out u1 gx1).mono ?_
 rintro e u2 ⟨rfl,gu2⟩
 clear hm0 hm1 hc2 hc5
 have gx2:=zc gx1 gu2
 clear gu2
 have hm0:=YK.out u2 gx2
 have hm1:=Y3.out u2 gx2
 go_wp2_with(first | (refine zg (by rfl) 49 (.tmp 2) rfl qk 0 rfl kc.toList _ hm0 hkt rfl HSKL.out ?_;simp only [Array.toArray_toList]) | (refine zg (by rfl) 41 (.tmp 7) rfl q7 0 rfl gb.toList _ hm1 hbt rfl SIBL.out ?_;simp only [Array.toArray_toList]))
 refine(CVB.out u2 gx2).mono ?_
 rintro e u3 ⟨rfl,gu3⟩
 clear hm0 hm1
 have gx3:=zc gx2 gu3
 clear gu3
 have hm0:=YK.out u3 gx3
 have hm1:=Y9.out u3 gx3
 go_wp2_with(first | (refine zg (by rfl) 49 (.tmp 2) rfl qk 0 rfl kc.toList _ hm0 hkt rfl HSKL.out ?_;simp only [Array.toArray_toList]) | (refine zg (by rfl) 41 (.tmp 9) rfl q9 0 rfl gc.toList _ hm1 hbt rfl HLc.out ?_;simp only [Array.toArray_toList]))
 refine(CVC.out u3 gx3).mono ?_
 rintro e u4 ⟨rfl,gu4⟩
 clear hm0 hm1
 have gx4:=zc gx3 gu4
 clear gu4
 have hm0:=YK.out u4 gx4
 have hm1:=Y10.out u4 gx4
 go_wp2_with(first | (refine zg (by rfl) 49 (.tmp 2) rfl qk 0 rfl kc.toList _ hm0 hkt rfl HSKL.out ?_;simp only [Array.toArray_toList]) | (refine zg (by rfl) 41 (.tmp 10) rfl q10 0 rfl gd.toList _ hm1 hbt rfl HLd.out ?_;simp only [Array.toArray_toList]))
 refine(CVD.out u4 gx4).mono ?_
 rintro e u5 ⟨rfl,gu5⟩
 clear hm0 hm1
 have gx5:=zc gx4 gu5
 clear gu5
 have hm0:=YK.out u5 gx5
 have hm1:=Y11.out u5 gx5
 go_wp2_with(first | (refine zg (by rfl) 49 (.tmp 2) rfl qk 0 rfl kc.toList _ hm0 hkt rfl HSKL.out ?_;simp only [Array.toArray_toList]) | (refine zg (by rfl) 41 (.tmp 11) rfl q11 0 rfl ge.toList _ hm1 hbt rfl HLe.out ?_;simp only [Array.toArray_toList]))
 refine(CVE.out u5 gx5).mono ?_
 rintro e u6 ⟨rfl,gu6⟩
 clear hm0 hm1
 have gx6:=zc gx5 gu6
 clear gu6
 have hm0:=YK.out u6 gx6
 have hm1:=Y12.out u6 gx6
 go_wp2_with(first | (refine zg (by rfl) 49 (.tmp 2) rfl qk 0 rfl kc.toList _ hm0 hkt rfl HSKL.out ?_;simp only [Array.toArray_toList]) | (refine zg (by rfl) 41 (.tmp 12) rfl q12 0 rfl gf.toList _ hm1 hbt rfl HLf.out ?_;simp only [Array.toArray_toList]))
 refine(CVF.out u6 gx6).mono ?_
 rintro e u7 ⟨rfl,gu7⟩
 clear hm0 hm1
 have gx7:=zc gx6 gu7
 clear gu7
 have hm0:=YK.out u7 gx7
 have hm1:=YQ.out u7 gx7
 go_wp2_with(first | (refine zg (by rfl) 49 (.tmp 2) rfl qk 0 rfl kc.toList _ hm0 hkt rfl HSKL.out ?_;simp only [Array.toArray_toList]) | (refine zg (by rfl) 38 (.tmp 5) rfl q5 0 rfl gq.toList _ hm1 hqt rfl SIQL.out ?_;simp only [Array.toArray_toList]))
 refine(CQ1.out u7 gx7).mono ?_
 rintro e u8 ⟨rfl,gu8⟩
 clear hm0 hm1
 have gx8:=zc gx7 gu8
 clear gu8
 have bz:=HBZ.out
 have hm0:=YK.out u8 gx8
 go_wp2_with(refine zg (by rfl) 49 (.tmp 2) rfl qk 0 rfl kc.toList _ hm0 hkt rfl HSKL.out ?_;simp only [Array.toArray_toList])
 refine(CQ2.out u8 gx8).mono ?_
 rintro e u9 ⟨rfl,gu9⟩
 clear hm0 bz
 have gx9:=zc gx8 gu9
 clear gu9
 have bz:=HBZ1.out
 have hm0:=YK.out u9 gx9
 go_wp2_with(refine zg (by rfl) 49 (.tmp 2) rfl qk 0 rfl kc.toList _ hm0 hkt rfl HSKL.out ?_;simp only [Array.toArray_toList])
 refine(CQ3.out u9 gx9).mono ?_
 rintro e u10 ⟨rfl,gu10⟩
 clear hm0 bz
 have gx10:=zc gx9 gu10
 clear gu10
 have hm0:=YK.out u10 gx10
 have hm1:=Y13.out u10 gx10
 go_wp2_with(first | (refine zg (by rfl) 49 (.tmp 2) rfl qk 0 rfl kc.toList _ hm0 hkt rfl HSKL.out ?_;simp only [Array.toArray_toList]) | (refine zg (by rfl) 69 (.tmp 13) rfl q13 0 rfl gv.toList _ hm1 hvt rfl HLv.out ?_;simp only [Array.toArray_toList]))
 refine(CVV.out u10 gx10).mono ?_
 rintro e u11 ⟨rfl,gu11⟩
 clear hm0 hm1
 have gx11:=zc gx10 gu11
 clear gu11
 have hm0:=YA.out u11 gx11
 go_wp2_with(refine zg (by rfl) 41 (.tmp 3) rfl q3 0 rfl ga.toList _ hm0 hbt rfl HLA.out ?_;simp only [Array.toArray_toList])
 refine(CBA.out u11 gx11).mono ?_
 rintro e u12 ⟨rfl,gu12⟩
 clear hm0
 have gx12:=zc gx11 gu12
 clear gu12
 go_wp2_with fail
 refine(CVW.out u12 gx12).mono ?_
 rintro e u13 ⟨rfl,gu13⟩
 have gx13:=zc gx12 gu13
 clear gu13
 go_wp2_with fail
 go_ret
 exact⟨rfl,zc HGF.out gx13⟩
section
variable {seed : Int} {vw : Int} {D : Nat} {b : Nat → Bool} {m : Nat → Nat} {M : List VP} {RA : Option Addr} {Rc : Nat}
end
theorem zag {K:KP} {u:Int} {d:Nat}:∀(L:List VP) (p:Option Int),(∀ S∈L,vdV K u d S=0)→(L.map VP.who).Pairwise (·<·)→(∀ x,p=some x→∀ S∈L,x<S.who)→chqV K u d p L=0
 | [],_,_,_,_=>by rw [chqV]
 | S::r,p,hv,hp,hx=>by
  rw [yE (by
   cases p with
   | none=>rfl
   | some x =>
    have:=hx x rfl S (by simp)
    simp
    omega) (hv S (by simp))]
  rw [List.map_cons,List.pairwise_cons]at hp
  exact zag r (some S.who) (fun T hT=>hv T (List.mem_cons_of_mem _ hT)) hp.2 (fun x e T hT=>by cases e;exact hp.1 _ (List.mem_map_of_mem hT))
theorem xm {K:KP} {u:Int} {d:Nat} {L:List VP} (hen:enoughV K u d L=true):(chosenV K u d L).length=(2*K.f+1).toNat:=by
 unfold enoughV at hen
 have:=of_decide_eq_true hen
 unfold chosenV
 rw [List.length_take]
 omega
theorem zeq {K:KP} {u:Int} {d:Nat} {L:List VP}:((chosenV K u d L).map VP.who).Pairwise (·<·):=by
 unfold chosenV
 rw [List.map_take,kK]
 exact(jE VP.who _).sublist (List.take_sublist _ _)
theorem jC {K:KP} {u:Int} {d:Nat} {L:List VP}:∀ S∈chosenV K u d L,S∈L∧vgB K u d S=true:=fun S hS=>by
 have h1:=kL VP.who _ S (List.mem_of_mem_take hS)
 exact List.mem_filter.1 h1
theorem vgB_vd {K:KP} {u:Int} {d:Nat} {S:VP} (h:vgB K u d S=true):vdV K u d S=0:=by
 unfold vgB at h
 simp only [Bool.and_eq_true,decide_eq_true_eq]at h
 unfold vdV
 rw [if_pos h.1,if_pos h.2.1]
 exact h.2.2
theorem zer {K:KP} {u:Int} {d:Nat} {L:List VP} (hen:enoughV K u d L=true):cqV K u d (chosenV K u d L)=0:=by
 unfold cqV
 rw [if_pos (xm hen)]
 exact zag _ none (fun S hS=>vgB_vd (jC S hS).2) zeq (fun x e=>by cases e)
theorem zah {K:KP} {u:Int} {d:Nat}:∀(L M:List VP) (p:Option Int),L.length=M.length→(∀ i (h:i<L.length) (h':i<M.length),M[i].who=L[i].who∧vdV K u d M[i]=vdV K u d L[i])→chqV K u d p M=chqV K u d p L
 | [],[],_,_,_=>rfl
 | [],_::_,_,h,_=>by simp at h
 | _::_,[],_,h,_=>by simp at h
 | S::L,T::M,p,hl,h=>by
  obtain⟨h1,h2⟩:=h 0 (by simp) (by simp)
  simp only [List.getElem_cons_zero]at h1 h2
  have ih:=zah L M (some S.who) (by simpa using hl) (fun i a b=>h (i+1) (Nat.succ_lt_succ a) (Nat.succ_lt_succ b))
  rw [chqV,chqV,h1,h2,ih]
theorem cqV_mv {K:KP} {u:Int} {d:Nat} {L M:List VP} (h:MvV L M):cqV K u d M=cqV K u d L:=by
 unfold cqV
 rw [h.len,zah L M none h.len.symm (fun i a b=>by
  obtain⟨A,k,e⟩:=h.each i a b
  rw [e]
  exact⟨rfl,rfl⟩)]
structure KBase (seed:Int) (h:Nat) (p:Nat→Nat) (nx:Nat→Nat) (qk:Nat) (lad:Addr) (RA:Option Addr) (Rc:Nat) (w0:World) (B0:Nat) (w:World):Prop where
 ks:keysN seed h p nx w
 kc:Ag w qk (kyS 1 RA 4 Rc (h:Int)).toList
 ld:∀ i,i<4→w.cell? (lad.add i)=some (.pointer (some ⟨p i+1,0,none⟩))
 rR:Rd w w.heap.size RA (u64L (rtL seed h 4))
 gr:Grew w0 w
 sz:B0≤w.heap.size
 b0:w0.heap.size≤B0
 lo:∀ i,i<4→w0.heap.size≤p i+1∧p i+1<B0∧p i<B0
 qb:qk<B0
 qn:∀ i,i<4→qk≠p i+1
 lb:lad.block<B0
 ln:∀ i,i<4→lad.block≠p i+1
 rb:∀ ad,RA=some ad→ad.block<B0
 rn:∀ i,i<4→∀ ad,RA=some ad→ad.block≠p i+1
 ap:∀ i j,i<4→j<4→i≠j→p i≠p j∧p i+1≠p j∧p i≠p j+1
theorem KBase.kp {seed:Int} {h:Nat} {p nx:Nat→Nat} {qk:Nat} {lad:Addr} {RA:Option Addr} {Rc:Nat} {w0:World} {B0:Nat} {w w':World} (k:KBase seed h p nx qk lad RA Rc w0 B0 w) {P:Nat→Prop} (q:Kp P w w') (hP:∀ g,P g→B0≤g):KBase seed h p nx qk lad RA Rc w0 B0 w' where
 ks:=fun i hi=>(k.ks i hi).kp q (fun h=>by have:=hP _ h;have:=k.lo i hi;omega) (fun h=>by have:=hP _ h;have:=k.lo i hi;omega)
 kc:=k.kc.kp q (fun h=>by have:=hP _ h;have:=k.qb;omega)
 ld:=fun i hi=>(World.cell?_of_block (by rw [zo];exact q.block lad.block (by have:=k.lb;have:=k.sz;omega) (fun h=>by have:=hP _ h;have:=k.lb;omega))).trans (k.ld i hi)
 rR:=(k.rR.kp q (Nat.le_refl _) (fun ad e _ h=>by have:=hP _ h;have:=k.rb ad e;omega)).more q.size
 gr:=zK k.gr q k.gr.size (fun i hi=>by have:=hP i hi;have:=k.b0;omega)
 sz:=by have:=k.sz;have:=q.size;omega
 b0:=k.b0
 lo:=k.lo
 qb:=k.qb
 qn:=k.qn
 lb:=k.lb
 ln:=k.ln
 rb:=k.rb
 rn:=k.rn
 ap:=k.ap
theorem KBase.grew {seed:Int} {h:Nat} {p nx:Nat→Nat} {qk:Nat} {lad:Addr} {RA:Option Addr} {Rc:Nat} {w0:World} {B0:Nat} {w w':World} (k:KBase seed h p nx qk lad RA Rc w0 B0 w) (g:Grew w w'):KBase seed h p nx qk lad RA Rc w0 B0 w':=k.kp (P:=fun _=>False) (zi g) (fun _ h=>h.elim)
def SepV (rv:Value) (M:List VP):Prop:=∀ S∈M,∀ ad,S.A=some ad→∀ g,rv.ownBlock=some g→S.l=[]∨ad.block≠g
structure VRow (B0:Nat) (rv:Value) (M:List VP) (w:World):Prop where
 ok:∀ S∈M,S.ok
 at_:∀ S∈M,S.at w
 ne:SepV rv M
 lo:∀ S∈M,∀ ad,S.A=some ad→S.l=[]∨B0≤ad.block
 row:w.ownsRow B0 69 24 rv M.length (vpL M).flatten
theorem VRow.nil (B0:Nat) (w:World):VRow B0 (.slice none 0 0) [] w:=⟨by simp,by simp,fun S hS=>by simp at hS,by simp,World.ownsRow_nil _ _ _ _⟩
theorem VRow.kp {B0:Nat} {rv:Value} {M:List VP} {w w':World} (h:VRow B0 rv M w) {P:Nat→Prop} (k:Kp P w w') (h1:∀ g,rv.ownBlock=some g→¬P g) (h2:∀ S∈M,∀ ad,S.A=some ad→S.l=[]∨¬P ad.block):VRow B0 rv M w' :=
 ⟨h.ok,fun S hS=>yT (h.at_ S hS) k (h2 S hS),h.ne,h.lo,zv h.row k h1⟩
theorem VRow.grew {B0:Nat} {rv:Value} {M:List VP} {w w':World} (h:VRow B0 rv M w) (g:Grew w w'):VRow B0 rv M w':=h.kp (P:=fun _=>False) (zi g) (fun _ _ h=>h) (fun _ _ _ _=>.inr (fun h=>h))
theorem VRow.key {B0:Nat} {rv:Value} {M:List VP} {w w':World} (h:VRow B0 rv M w) {b:Nat} (k:Kp (fun j=>j=b) w w') (hb:b<B0):VRow B0 rv M w' :=
 h.kp k (fun g e (h1:g=b)=>by have:=(zG h.row g e).1;omega) (fun S hS ad e=>(h.lo S hS ad e).imp id (fun h1 (h2:ad.block=b)=>by omega))
theorem VRow.lt {B0:Nat} {rv:Value} {M:List VP} {w:World} (h:VRow B0 rv M w):∀ S∈M,∀ ad,S.A=some ad→S.l=[]∨ad.block<w.heap.size:=fun S hS=>ya (h.at_ S hS)
theorem MvV.cons {L M:List VP} (h:MvV L M) (S:VP) (A:Option Addr) (c:Nat):MvV (S::L) (S.mv A c::M) :=
 ⟨by simp [h.len],fun k h1 h2=>by
  cases k with
  | zero=>exact⟨A,c,rfl⟩
  | succ k=>exact h.each k (by simpa using h1) (by simpa using h2)⟩
theorem MvV.uncons {L M:List VP} {S T:VP} (h:MvV (S::L) (T::M)):(∃ A c,T=S.mv A c)∧MvV L M :=
 ⟨h.each 0 (by simp) (by simp),by have:=h.len;simpa using this,fun k h1 h2=>h.each (k+1) (by simpa using h1) (by simpa using h2)⟩
theorem MvV.take {L M:List VP} (h:MvV L M) (n:Nat):MvV (L.take n) (M.take n) :=
 ⟨by simp [h.len],fun k h1 h2=>by
  rw [List.getElem_take,List.getElem_take]
  exact h.each k (by rw [List.length_take]at h1;omega) (by rw [List.length_take]at h2;omega)⟩
theorem kz (p:VP→Bool) (hp:∀ S A c,p (S.mv A c)=p S):∀ {L M:List VP},MvV L M→MvV (L.filter p) (M.filter p)
 | [],[],_=>MvV.nil
 | [],_::_,h=>absurd h.len (by simp)
 | _::_,[],h=>absurd h.len (by simp)
 | S::L,T::M,h=>by
  obtain⟨⟨A,c,rfl⟩,h2⟩:=h.uncons
  have ih:=kz p hp h2
  rw [List.filter_cons,List.filter_cons,hp]
  split
  ·exact ih.cons S A c
  ·exact ih
theorem zbn (p:VP→Bool) (hp:∀ S A c,p (S.mv A c)=p S):∀ {L M:List VP},MvV L M→(L.find? p=none∧M.find? p=none)∨∃ S A c,L.find? p=some S∧M.find? p=some (S.mv A c)
 | [],[],_=>.inl ⟨rfl,rfl⟩
 | [],_::_,h=>absurd h.len (by simp)
 | _::_,[],h=>absurd h.len (by simp)
 | S::L,T::M,h=>by
  obtain⟨⟨A,c,rfl⟩,h2⟩:=h.uncons
  have ih:=zbn p hp h2
  rw [List.find?_cons,List.find?_cons,hp]
  cases hq:p S
  ·exact ih
  ·exact .inr ⟨S,A,c,rfl,rfl⟩
theorem kB {L M:List VP} (h:MvV L M):∀ N,MvV (upTo VP.who L N) (upTo VP.who M N)
 | 0=>by simpa [upTo]using MvV.nil
 | w+1=>by
  rw [kM,kM]
  rcases zbn (fun x=>decide (x.who=(w:Int))) (fun S A c=>rfl) h with ⟨h1,h2⟩ | ⟨S,A,c,h1,h2⟩
  ·rw [h1,h2]
   simpa using kB h w
  ·rw [h1,h2]
   exact(kB h w).snoc S A c
theorem zde (K:KP) (u:Int) (d:Nat) (S:VP) (A:Option Addr) (c:Nat):vgB K u d (S.mv A c)=vgB K u d S:=rfl
theorem zic {K:KP} {u:Int} {d:Nat} {S:VP} (hK:K.ok) (h:vgB K u d S=true):0≤S.who∧S.who<(((3*K.f+1).toNat:Nat):Int):=by
 unfold vgB at h
 simp only [Bool.and_eq_true,decide_eq_true_eq]at h
 have hv:=h.2.2
 have hf:=hK.f
 unfold vvS vvE at hv
 split at hv
 ·cases hv
 ·split at hv
  ·cases hv
  ·omega
theorem zai {K:KP} {u:Int} {d:Nat} {L:List VP} (hK:K.ok):∀ x∈L.filter (vgB K u d),0≤x.who∧x.who<(((3*K.f+1).toNat:Nat):Int):=fun x hx=>zic hK (List.mem_filter.1 hx).2
theorem kC {K:KP} {u:Int} {d:Nat} {L:List VP} (hK:K.ok):eachL VP.who (L.filter (vgB K u d))=upTo VP.who (L.filter (vgB K u d)) (3*K.f+1).toNat:=xQ VP.who _ _ (zai hK)
theorem zes {K:KP} {u:Int} {d:Nat} {L M:List VP} (hK:K.ok) (h:MvV L M):MvV (chosenV K u d L) (chosenV K u d M):=by
 unfold chosenV
 rw [kC hK,kC hK]
 exact(kB (kz _ (zde K u d) h) _).take _
theorem zet {K:KP} {u:Int} {d:Nat} {L M:List VP} (hK:K.ok) (h:MvV L M):enoughV K u d M=enoughV K u d L:=by
 unfold enoughV
 rw [kC hK,kC hK,(kB (kz _ (zde K u d) h) _).len]
noncomputable def vpkS (K:KP) (u:Int) (d:Nat) (L:List VP) (v:Nat):List VP:=pickN VP.who (L.filter (vgB K u d)) (2*K.f+1).toNat v
theorem zbo {K:KP} (hK:K.ok) (u:Int) (d:Nat) (L:List VP):vpkS K u d L (3*K.f+1).toNat=chosenV K u d L:=zdg VP.who _ _ _ (zai hK)
theorem zid (K:KP) (u:Int) (d:Nat) (L:List VP) (v:Nat):(vpkS K u d L v).length≤(2*K.f+1).toNat:=by
 unfold vpkS
 rw [jF,List.length_take]
 omega
theorem jD {K:KP} (hK:K.ok) (u:Int) (d:Nat) (L:List VP):decide ((chosenV K u d L).length<(2*K.f+1).toNat)=!enoughV K u d L:=by
 unfold chosenV enoughV
 rw [List.length_take]
 by_cases h:(2*K.f+1).toNat≤(eachL VP.who (L.filter (vgB K u d))).length
 ·rw [decide_eq_true h,decide_eq_false (by omega)];rfl
 ·rw [decide_eq_false h,decide_eq_true (by omega)];rfl
theorem zaj {K:KP} (u:Int) (d:Nat) (L:List VP) (v:Nat) (h:(2*K.f+1).toNat≤(vpkS K u d L v).length):∀ n,vpkS K u d L (v+n)=vpkS K u d L v
 | 0=>rfl
 | n+1=>by
  have ih:=zaj u d L v h n
  show pickN VP.who _ _ (v+n+1)=_
  unfold pickN
  rw [if_neg (by
   have:pickN VP.who (L.filter (vgB K u d)) (2*K.f+1).toNat (v+n)=vpkS K u d L v:=ih
   rw [this];omega)]
  exact ih
theorem zie {K:KP} (hK:K.ok) (u:Int) (d:Nat) (L:List VP) (v:Nat) (hv:v≤(3*K.f+1).toNat) (h:(2*K.f+1).toNat≤(vpkS K u d L v).length):vpkS K u d L v=chosenV K u d L:=by
 rw [←zbo hK,←zaj u d L v h ((3*K.f+1).toNat-v)]
 congr 1
 omega
noncomputable def vfwB (K:KP) (u:Int) (d v:Nat) (S:VP):Bool:=vgB K u d S&&decide (S.who=(v:Int))
theorem zgm {K:KP} {u:Int} {d:Nat} {L:List VP} {v i:Nat} (hlt:(vpkS K u d L v).length<(2*K.f+1).toNat) (hi:i<L.length) (hno:∀ j (hj:j<L.length),j<i→vfwB K u d v L[j]=false) (hy:vfwB K u d v L[i]=true):vpkS K u d L (v+1)=vpkS K u d L v++[L[i]]:=by
 have hf:(L.filter (vgB K u d)).find? (fun x=>decide (x.who=(v:Int)))=some L[i]:=by
  rw [List.find?_filter,List.find?_eq_some_iff_getElem]
  refine⟨by unfold vfwB at hy;simpa using hy,i,hi,rfl,fun j hj=>?_⟩
  have:=hno j (by omega) hj
  unfold vfwB at this
  rw [Bool.and_eq_false_iff,decide_eq_false_iff_not]at this
  rw [Bool.not_eq_true',decide_eq_false_iff_not,decide_eq_true_eq]
  rintro⟨h1,h2⟩
  rcases this with h | h
  ·rw [h1]at h;cases h
  ·exact h h2
 unfold vpkS at hlt ⊢
 show pickN VP.who _ _ (v+1)=_
 rw [pickN,if_pos hlt,hf]
theorem zgn {K:KP} {u:Int} {d:Nat} {L:List VP} {v:Nat} (hno:∀ j (hj:j<L.length),vfwB K u d v L[j]=false):vpkS K u d L (v+1)=vpkS K u d L v:=by
 have hf:(L.filter (vgB K u d)).find? (fun x=>decide (x.who=(v:Int)))=none:=by
  rw [List.find?_filter,List.find?_eq_none]
  intro x hx
  obtain⟨j,hj,rfl⟩:=List.getElem_of_mem hx
  have:=hno j hj
  unfold vfwB at this
  simpa using this
 show pickN VP.who _ _ (v+1)=_
 rw [pickN,hf]
 unfold vpkS
 split<;>rfl
theorem yG {K:KP} {u:Int} {d:Nat} {L:List VP} {S:VP} (h:S∈chosenV K u d L):S∈L:=(List.mem_filter.1 (kL VP.who _ S (List.mem_of_mem_take h))).1
end Go.Proofs.YtidjnnnigcmdpaaGreatDoor
