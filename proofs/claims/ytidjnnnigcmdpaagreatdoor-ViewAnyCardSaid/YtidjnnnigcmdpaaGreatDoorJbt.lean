/- ToQC with what is fresh; folkmootlaw19.To (mkvnd.py). -/
import Derived.Test.YtidjnnnigcmdpaaGreatDoorJzz
import Derived.Test.YtidjnnnigcmdpaaGreatDoorJbn
import Derived.Test.YtidjnnnigcmdpaaGreatDoorJbs
import Derived.Test.YtidjnnnigcmdpaaGreatDoorJbh
import Derived.Test.YtidjnnnigcmdpaaGreatDoorJbm
import Derived.Test.YtidjnnnigcmdpaaGreatDoorJbr
import Derived.Test.YtidjnnnigcmdpaaGreatDoorJab
import Derived.Test.YtidjnnnigcmdpaaGreatDoorJak
import Derived.Test.YtidjnnnigcmdpaaGreatDoorJbl
set_option maxHeartbeats 4000000
set_option maxRecDepth 100000
set_option linter.unusedSimpArgs false
set_option linter.unusedVariables false
set_option linter.unnecessarySimpa false
namespace Go.Proofs.YtidjnnnigcmdpaaGreatDoor
open Go.RowKit
theorem zlf (u:Int) (d:Nat) (A:Option Addr) (k:Nat) (L:List VP) (hl:L.length≤100000) (w:World) (hL:VpsG w A L) :
 Calls Tryz.prog 40 #[.agg (vqC u d A L.length k)] w fun e w'=>(∃ B j N,e=.returned (.agg (vqC u d B L.length j))∧MvV L N∧Vps w' B N∧(∀ ad,B=some ad→w.heap.size≤ad.block)∧(∀ S∈N,∀ ad,S.A=some ad→S.l=[]∨w.heap.size≤ad.block))∧Grew w w':=by
 have z0:=Ag.new w 28 (vqC u d A L.length k)
 have G0:=zg (zc w) (.cells (vqC u d A L.length k) 28)
 have hut:=Tryz.underlying38
 go_enter Tryz.func40,Tryz.ntmps40
 go_wp2_with fail
 have z2:Ag ((w.alloc (.cells (vqC u d A L.length k) 28)).alloc (.cells (#[.int .i64 0,.int .u64 0,.slice none 0 0]:Array Value) 38)) (w.heap.size+1) (#[.int .i64 0,.int .u64 0,.slice none 0 0]:Array Value).toList:=by
  have:=Ag.new (w.alloc (.cells (vqC u d A L.length k) 28)) 38 (#[.int .i64 0,.int .u64 0,.slice none 0 0]:Array Value)
  simpa using this
 have z1:=z0.grew (zg (zc _) (.cells (#[.int .i64 0,.int .u64 0,.slice none 0 0]:Array Value) 38))
 have G2:=zg G0 (.cells (#[.int .i64 0,.int .u64 0,.slice none 0 0]:Array Value) 38)
 clear z0 G0
 generalize (w.alloc (.cells (vqC u d A L.length k) 28)).alloc (.cells (#[.int .i64 0,.int .u64 0,.slice none 0 0]:Array Value) 38)=w2 at *
 have HC0:Hid (∀ y,Grew w2 y→y.cell? ⟨w.heap.size,0,none⟩=some (.int .i64 u)):=hQ9 (fun y g=>by simpa using (z1.grew g).cell 0 _ rfl)
 have HC1:Hid (∀ y,Grew w2 y→y.cell? ⟨w.heap.size,1,none⟩=some (.int .u64 (d:Nat))):=hQ9 (fun y g=>by simpa using (z1.grew g).cell 1 _ rfl)
 have HC2:Hid (∀ y,Grew w2 y→y.cell? ⟨w.heap.size,2,none⟩=some (.slice A L.length k)):=hQ9 (fun y g=>by simpa using (z1.grew g).cell 2 _ rfl)
 have CT:Hid (∀ y,Grew w2 y→Calls Tryz.prog 31 #[.slice A L.length k] y fun e w'=>VMd w2.heap.size L w' (match e with | .returned v=>v | _=>undef) (fun A c=>.slice A L.length c)∧(∃ v,e=.returned v)∧Grew y w'):=hQ9 (fun y g =>
  (zit A k L hl y ((hL.gr G2).gr g)).mono fun e w' ⟨D2,j2,N,h1,hnv,hap,hk1,hk2,hd2,hn2,g7⟩=>by
   subst h1
   exact⟨⟨D2,j2,N,rfl,hnv,hap,fun ad h=>Nat.le_trans g.size (hd2 ad h),fun S hS ad h=>(hn2 S hS ad h).imp id (fun h1=>Nat.le_trans g.size h1),hk1⟩,⟨_,rfl⟩,g7⟩)
 have hw2:w.heap.size+1<w2.heap.size:=z2.lt
 clear z1 hL
 refine zy 8 (fun ix9=>match ix9 with
  | 0=>fun v _=>v=.pointer (some ⟨w.heap.size,0,none⟩)
  | 1=>fun v _=>v=.int .i64 u
  | 2=>fun v _=>v=.pointer (some ⟨w.heap.size,1,none⟩)
  | 3=>fun v _=>v=.int .u64 (d:Nat)
  | 4=>fun v _=>v=.pointer (some ⟨w.heap.size,2,none⟩)
  | 5=>fun v _=>v=.slice A L.length k
  | 6=>fun v w=>VMd w2.heap.size L w v (fun A c=>.slice A L.length c)
  | 7=>fun v w=>VMd w2.heap.size L w v (fun A c=>.agg (vqC u d A L.length c))
  | _=>fun _ _=>True) (by kernel_rfl) (by kernel_rfl) ?_ ?_ ?_
 ·intro i v x y h hg
  match i,h with
  | 0,h | 1,h | 2,h | 3,h | 4,h | 5,h=>exact h
  | 6,h=>exact VMd.gr h hg
  | 7,h=>exact VMd.gr h hg
  | m+8,_=>trivial
 ·simp only [actOf,tk1,tk0,dr1,dr0,Act.put,si1,st1,st0,Nat.reduceAdd]
  refine⟨?_,?_,?_,?_,?_,?_,?_,?_,trivial⟩
  ·intro vs y hg hd
   dsimp only
   go_wp2_with fail
   exact⟨rfl,_,rfl,zc _,rfl⟩
  ·intro vs y hg hd
   obtain⟨h0,_⟩:=hd
   replace h0:=h0 rfl
   dsimp only
   rw [show vs 0=_ from h0]
   have hc:=HC0.out y hg
   go_wp2_with fail
   exact⟨rfl,_,rfl,zc _,rfl⟩
  ·intro vs y hg hd
   dsimp only
   go_wp2_with fail
   exact⟨rfl,_,rfl,zc _,rfl⟩
  ·intro vs y hg hd
   obtain⟨h2,_⟩:=hd
   replace h2:=h2 rfl
   dsimp only
   rw [show vs 2=_ from h2]
   have hc:=HC1.out y hg
   go_wp2_with fail
   exact⟨rfl,_,rfl,zc _,rfl⟩
  ·intro vs y hg hd
   dsimp only
   go_wp2_with fail
   exact⟨rfl,_,rfl,zc _,rfl⟩
  ·intro vs y hg hd
   obtain⟨h4,_⟩:=hd
   replace h4:=h4 rfl
   dsimp only
   rw [show vs 4=_ from h4]
   have hc:=HC2.out y hg
   go_wp2_with fail
   exact⟨rfl,_,rfl,zc _,rfl⟩
  ·intro vs y hg hd
   obtain⟨h5,_⟩:=hd
   replace h5:=h5 rfl
   dsimp only
   rw [show vs 5=_ from h5]
   go_wp2_with(go_at_call 31;refine(CT.out y hg).mono ?_;rintro e z ⟨hv9,⟨v9,rfl⟩,gz⟩)
   exact⟨rfl,_,rfl,gz,hv9⟩
  ·intro vs y hg hd
   obtain⟨h1,h3,h6,_⟩:=hd
   replace h1:=h1 rfl
   replace h3:=h3 rfl
   replace h6:=h6 rfl
   dsimp only
   rw [show vs 1=_ from h1,show vs 3=_ from h3]
   obtain⟨A9,c9,N9,e9,hr9⟩:=VMd.out h6
   rw [e9]
   have HBU:=hQ9 (zcf u d A9 L.length c9)
   refine zC rfl 38 #[(0,.tmp 4),(1,.tmp 6),(2,.tmp 9)] rfl _ (by simpa [Act.eval]using HBU.out) ?_
   go_wp2_with fail
   exact⟨rfl,_,rfl,zc _,⟨A9,c9,N9,rfl,hr9⟩⟩
 ·intro vs y hg hJ
  have j0:vs 0=.pointer (some ⟨w.heap.size,0,none⟩):=hJ 0 (by decide)
  have j1:vs 1=.int .i64 u:=hJ 1 (by decide)
  have j2:vs 2=.pointer (some ⟨w.heap.size,1,none⟩):=hJ 2 (by decide)
  have j3:vs 3=.int .u64 (d:Nat):=hJ 3 (by decide)
  have j4:vs 4=.pointer (some ⟨w.heap.size,2,none⟩):=hJ 4 (by decide)
  have j5:vs 5=.slice A L.length k:=hJ 5 (by decide)
  have s9:=hJ 6 (by decide)
  have s10:=hJ 7 (by decide)
  clear hJ
  simp only [actOf,tk1,tk0,dr1,dr0,Act.put,si1,st1,st0,Nat.reduceAdd]
  obtain⟨B2,j2,N,e28,hnv,hap,hd2,hn2,hcp⟩:=VMd.out s10
  rw [e28]
  clear s9 s10 e28
  have z3:=z2.grew hg
  have GG:=ze G2 hg
  have K3:=zn (vqC u d B2 L.length j2).toList (w.heap.size+1) 0 y
  have hap3:=hap.kpx K3 (fun ad h e=>by have:=hd2 ad h;have e:ad.block=w.heap.size+1:=e;omega) (fun T hT ad h=>(hn2 T hT ad h).imp id (fun h1 e=>by have e:ad.block=w.heap.size+1:=e;omega))
  have HTH:Hid (y.there (w.heap.size+1) 0 (vqC u d B2 L.length j2).size):=hQ9 (z3.thereN 3 rfl)
  have HSI:Hid ((Tryz.prog.info? 38).map (·.size)=some (vqC u d B2 L.length j2).size):=hQ9 zP
  have HON:=hQ9 (yo u d B2 L.length j2)
  have z4:=Ag.set (vs:=(vqC u d B2 L.length j2).toList) z3 rfl
  have G6:=zi (o:=0) (b:=w.heap.size+1) (vqC u d B2 L.length j2).toList GG (by omega)
  have HMV:=hQ9 hnv
  have HAP:=hQ9 hap3
  have HFB:Hid (∀ ad,B2=some ad→w.heap.size≤ad.block):=hQ9 (fun ad h=>by have:=hd2 ad h;omega)
  have HFN:Hid (∀ S∈N,∀ ad,S.A=some ad→S.l=[]∨w.heap.size≤ad.block):=hQ9 (fun S hS ad h=>(hn2 S hS ad h).imp id (fun h1=>by omega))
  clear z3 hap hd2 hn2 K3 hg GG hcp hnv hap3
  go_wp2_with(with_reducible refine wpList_store_mid rfl 38 (.tmp 2) (.tmp 10) rfl (w.heap.size+1) 0 (vqC u d B2 L.length j2) rfl rfl HTH.out HSI.out HON.out ?_)
  refine bodyPost_ret (zM Tryz.results40 _ _ (w.heap.size+1) _ _ rfl z4 hut rfl zP) rfl ⟨?_,G6⟩
  exact⟨B2,⟨j2,rfl⟩,N,HMV.out,HAP.out,HFB.out,HFN.out⟩
structure TqS (B0:Nat) (S:NW) (w:World) (v:Value):Prop where
 out:∃ B j N,v=.agg (vqC S.qv S.qd B S.H.length j)∧MvV S.H N∧Vps w B N∧(∀ ad,B=some ad→B0≤ad.block)∧(∀ T∈N,∀ ad,T.A=some ad→T.l=[]∨B0≤ad.block)
theorem TqS.gr {B0:Nat} {S:NW} {w w':World} {v:Value} (h:TqS B0 S w v) (g:Grew w w'):TqS B0 S w' v:=by
 obtain⟨B,j,N,h1,h2,h3,h4⟩:=h.out
 exact⟨B,j,N,h1,h2,h3.gr g,h4⟩
structure TnS (B0:Nat) (S:NW) (w:World) (v:Value):Prop where
 out:∃ T:NW,v=.agg T.C∧NwMv S T∧T.ok∧T.at w∧∀ j,T.in j→B0≤j
theorem TnS.gr {B0:Nat} {S:NW} {w w':World} {v:Value} (h:TnS B0 S w v) (g:Grew w w'):TnS B0 S w' v:=by
 obtain⟨T,h1,h2,h3,h4,h5⟩:=h.out
 exact⟨T,h1,h2,h3,h4.gr g,h5⟩
theorem TnS.mk2 {B0:Nat} {S:NW} (hS:S.ok) {w:World} {B:Option Addr} {j:Nat} {N:List VP} {A:Option Addr} {c:Nat} (hm:MvV S.H N) (hp:Vps w B N) (hb:∀ ad,B=some ad→B0≤ad.block) (hn:∀ T∈N,∀ ad,T.A=some ad→T.l=[]∨B0≤ad.block)
 (hr:Rd w w.heap.size A (u64L S.l)) (ha:∀ ad,A=some ad→B0≤ad.block):TnS B0 S w (.agg (nwC S.vw S.qv S.qd B S.H.length j S.who S.sw S.lf S.s (.slice A S.l.length c))):=by
 refine⟨{ S with QA:=B,Qk:=j,H:=N,A:=A,c:=c },?_,⟨B,j,N,A,c,rfl,hm⟩,⟨hS.vw,hS.qv,hS.qd,by show N.length≤100000;rw [hm.len];exact hS.h,hS.who,hS.sw,hS.lf,hS.s,hS.len,hS.l⟩,⟨hr,hp⟩,?_⟩
 ·show _=Value.agg (nwC S.vw S.qv S.qd B N.length j S.who S.sw S.lf S.s (.slice A S.l.length c))
  rw [hm.len]
 ·rintro jj (⟨ad,e,hl,rfl⟩ | ⟨ad,e,hl,rfl⟩ | ⟨T,hT,ad,e,hl,rfl⟩)
  ·exact ha ad e
  ·exact hb ad e
  ·exact(hn T hT ad e).resolve_left hl
theorem zhh (vw qv:Int) (qd:Nat) (QA:Option Addr) (Qn Qk:Nat) (who sw lf:Int) (s:Nat→Nat) (A:Option Addr) (n c:Nat):Tryz.prog.built 111 [(0,.int .i64 vw),(1,.int .i64 who),(2,.agg (vqC qv qd QA Qn Qk)),(3,.agg (sgC sw lf s (.slice A n c)))]=some (nwC vw qv qd QA Qn Qk who sw lf s (.slice A n c)):=by kernel_rfl
structure NW.atg (S:NW) (w:World):Prop where
 p:Rd w w.heap.size S.A (u64L S.l)
 q:VpsG w S.QA S.H
theorem NW.atg.gr {S:NW} {w w':World} (h:S.atg w) (g:Grew w w'):S.atg w':=⟨Rd.gr h.p g,h.q.gr g⟩
theorem zd6 (S:NW) (hS:S.ok) (w:World) (ha:S.atg w) :
 Calls Tryz.prog 49 #[.agg S.C] w fun e w'=>(∃ T:NW,e=.returned (.agg T.C)∧NwMv S T∧T.ok∧T.at w'∧∀ j,T.in j→w.heap.size≤j)∧Grew w w':=by
 have z0:=Ag.new w 109 S.C
 have G0:=zg (zc w) (.cells S.C 109)
 have huq:=Tryz.underlying28
 have hus:=Tryz.underlying73
 have hur:=Tryz.underlying111
 have CO:=hQ9 (fun W hR=>zgn S.sw S.lf S.s S.A S.c S.l (by have:=hS.len;omega) W hR)
 have HSQ:Hid ((Tryz.prog.info? 28).map (·.size)=some (vqC S.qv S.qd S.QA S.H.length S.Qk).toList.length):=hQ9 (by kernel_rfl)
 have HSL:Hid ((Tryz.prog.info? 73).map (·.size)=some (sgC S.sw S.lf S.s (.slice S.A S.l.length S.c)).toList.length):=hQ9 y4
 have HSO:=hQ9 hS
 go_enter Tryz.func49,Tryz.ntmps49
 go_wp2_with fail
 have z2:Ag ((w.alloc (.cells S.C 109)).alloc (.cells (#[.int .i64 0,.int .i64 0,.int .i64 0,.int .u64 0,.slice none 0 0,.int .i64 0,.int .i64 0,.int .u64 0,.int .u64 0,.int .u64 0,.int .u64 0,.int .u64 0,.int .u64 0,.int .u64 0,.int .u64 0,.int .u64 0,.int .u64 0,.int .u64 0,.int .u64 0,.int .u64 0,.int .u64 0,.int .u64 0,.int .u64 0,.int .u64 0,.int .u64 0,.slice none 0 0]:Array Value) 111)) (w.heap.size+1) (#[.int .i64 0,.int .i64 0,.int .i64 0,.int .u64 0,.slice none 0 0,.int .i64 0,.int .i64 0,.int .u64 0,.int .u64 0,.int .u64 0,.int .u64 0,.int .u64 0,.int .u64 0,.int .u64 0,.int .u64 0,.int .u64 0,.int .u64 0,.int .u64 0,.int .u64 0,.int .u64 0,.int .u64 0,.int .u64 0,.int .u64 0,.int .u64 0,.int .u64 0,.slice none 0 0]:Array Value).toList:=by
  have:=Ag.new (w.alloc (.cells S.C 109)) 111 (#[.int .i64 0,.int .i64 0,.int .i64 0,.int .u64 0,.slice none 0 0,.int .i64 0,.int .i64 0,.int .u64 0,.int .u64 0,.int .u64 0,.int .u64 0,.int .u64 0,.int .u64 0,.int .u64 0,.int .u64 0,.int .u64 0,.int .u64 0,.int .u64 0,.int .u64 0,.int .u64 0,.int .u64 0,.int .u64 0,.int .u64 0,.int .u64 0,.int .u64 0,.slice none 0 0]:Array Value)
  simpa using this
 have z1:=z0.grew (zg (zc _) (.cells (#[.int .i64 0,.int .i64 0,.int .i64 0,.int .u64 0,.slice none 0 0,.int .i64 0,.int .i64 0,.int .u64 0,.int .u64 0,.int .u64 0,.int .u64 0,.int .u64 0,.int .u64 0,.int .u64 0,.int .u64 0,.int .u64 0,.int .u64 0,.int .u64 0,.int .u64 0,.int .u64 0,.int .u64 0,.int .u64 0,.int .u64 0,.int .u64 0,.int .u64 0,.slice none 0 0]:Array Value) 111))
 have G2:=zg G0 (.cells (#[.int .i64 0,.int .i64 0,.int .i64 0,.int .u64 0,.slice none 0 0,.int .i64 0,.int .i64 0,.int .u64 0,.int .u64 0,.int .u64 0,.int .u64 0,.int .u64 0,.int .u64 0,.int .u64 0,.int .u64 0,.int .u64 0,.int .u64 0,.int .u64 0,.int .u64 0,.int .u64 0,.int .u64 0,.int .u64 0,.int .u64 0,.int .u64 0,.int .u64 0,.slice none 0 0]:Array Value) 111)
 clear z0 G0
 generalize (w.alloc (.cells S.C 109)).alloc (.cells (#[.int .i64 0,.int .i64 0,.int .i64 0,.int .u64 0,.slice none 0 0,.int .i64 0,.int .i64 0,.int .u64 0,.int .u64 0,.int .u64 0,.int .u64 0,.int .u64 0,.int .u64 0,.int .u64 0,.int .u64 0,.int .u64 0,.int .u64 0,.int .u64 0,.int .u64 0,.int .u64 0,.int .u64 0,.int .u64 0,.int .u64 0,.int .u64 0,.int .u64 0,.slice none 0 0]:Array Value) 111)=w2 at *
 have HC0:Hid (∀ y,Grew w2 y→y.cell? ⟨w.heap.size,0,none⟩=some (.int .i64 S.vw)):=hQ9 (fun y g=>by simpa using (z1.grew g).cell 0 _ rfl)
 have HC1:Hid (∀ y,Grew w2 y→y.cell? ⟨w.heap.size,1,none⟩=some (.int .i64 S.who)):=hQ9 (fun y g=>by simpa using (z1.grew g).cell 1 _ rfl)
 have HCQ:Hid (∀ y,Grew w2 y→y.rangeAt w.heap.size 2 (vqC S.qv S.qd S.QA S.H.length S.Qk).toList):=hQ9 (fun y g=>NW.qc (z1.grew g).cell)
 have HCS:Hid (∀ y,Grew w2 y→y.rangeAt w.heap.size 5 (sgC S.sw S.lf S.s (.slice S.A S.l.length S.c)).toList):=hQ9 (fun y g=>zcg (z1.grew g).cell)
 have r2:=ha.p.gr G2
 have HRY:=hQ9 (fun y (g:Grew w2 y)=>r2.gr g)
 have CQ:=hQ9 (fun y (g:Grew w2 y)=>zlf S.qv S.qd S.QA S.Qk S.H hS.h y ((ha.q.gr G2).gr g))
 clear z1 ha r2 hS
 generalize sgC S.sw S.lf S.s (.slice S.A S.l.length S.c)=gs at *
 generalize vqC S.qv S.qd S.QA S.H.length S.Qk=gq at *
 refine zy 11 (fun ix9=>match ix9 with
  | 0=>fun v _=>v=.pointer (some ⟨w.heap.size,0,none⟩)
  | 1=>fun v _=>v=.int .i64 S.vw
  | 2=>fun v _=>v=.pointer (some ⟨w.heap.size,1,none⟩)
  | 3=>fun v _=>v=.int .i64 S.who
  | 4=>fun v _=>v=.pointer (some ⟨w.heap.size,2,none⟩)
  | 5=>fun v _=>v=.agg gq
  | 6=>fun v w=>TqS w2.heap.size S w v
  | 7=>fun v _=>v=.pointer (some ⟨w.heap.size,5,none⟩)
  | 8=>fun v _=>v=.agg gs
  | 9=>fun v w=>AgS w w2.heap.size S.sw S.lf S.s S.l v
  | 10=>fun v w=>TnS w2.heap.size S w v
  | _=>fun _ _=>True) (by kernel_rfl) (by kernel_rfl) ?_ ?_ ?_
 ·intro i v x y h hg
  match i,h with
  | 0,h | 1,h | 2,h | 3,h | 4,h | 5,h | 7,h | 8,h=>exact h
  | 6,h=>exact TqS.gr h hg
  | 9,h=>exact AgS.gr h hg
  | 10,h=>exact TnS.gr h hg
  | m+11,_=>trivial
 ·simp only [actOf,tk1,tk0,dr1,dr0,Act.put,si1,st1,st0,Nat.reduceAdd]
  refine⟨?_,?_,?_,?_,?_,?_,?_,?_,?_,?_,?_,trivial⟩
  ·intro vs y hg hd
   dsimp only
   go_wp2_with fail
   exact⟨rfl,_,rfl,zc _,rfl⟩
  ·intro vs y hg hd
   obtain⟨h0,_⟩:=hd
   replace h0:=h0 rfl
   dsimp only
   rw [show vs 0=_ from h0]
   have hc:=HC0.out y hg
   go_wp2_with fail
   exact⟨rfl,_,rfl,zc _,rfl⟩
  ·intro vs y hg hd
   dsimp only
   go_wp2_with fail
   exact⟨rfl,_,rfl,zc _,rfl⟩
  ·intro vs y hg hd
   obtain⟨h2,_⟩:=hd
   replace h2:=h2 rfl
   dsimp only
   rw [show vs 2=_ from h2]
   have hc:=HC1.out y hg
   go_wp2_with fail
   exact⟨rfl,_,rfl,zc _,rfl⟩
  ·intro vs y hg hd
   dsimp only
   go_wp2_with fail
   exact⟨rfl,_,rfl,zc _,rfl⟩
  ·intro vs y hg hd
   obtain⟨h4,_⟩:=hd
   replace h4:=h4 rfl
   dsimp only
   rw [show vs 4=_ from h4]
   have hm:=HCQ.out y hg
   go_wp2_with(with_reducible refine wpList_load_mid rfl 28 (.tmp 7) rfl w.heap.size 2 rfl gq.toList _ hm huq rfl HSQ.out ?_;simp only [Array.toArray_toList])
   exact⟨rfl,_,rfl,zc _,rfl⟩
  ·intro vs y hg hd
   obtain⟨h5,_⟩:=hd
   replace h5:=h5 rfl
   dsimp only
   rw [show vs 5=_ from h5]
   go_wp2_with(go_at_call 40;refine(CQ.out y hg).mono ?_;rintro e z ⟨⟨B9,j9,N9,rfl,hm9,hp9,hb9,hn9⟩,gz⟩)
   exact⟨rfl,_,rfl,gz,⟨B9,j9,N9,rfl,hm9,hp9,fun ad h=>Nat.le_trans hg.size (hb9 ad h),fun T hT ad h=>(hn9 T hT ad h).imp id (fun h1=>Nat.le_trans hg.size h1)⟩⟩
  ·intro vs y hg hd
   dsimp only
   go_wp2_with fail
   exact⟨rfl,_,rfl,zc _,rfl⟩
  ·intro vs y hg hd
   obtain⟨h7,_⟩:=hd
   replace h7:=h7 rfl
   dsimp only
   rw [show vs 7=_ from h7]
   have hm:=HCS.out y hg
   go_wp2_with(with_reducible refine wpList_load_mid rfl 73 (.tmp 10) rfl w.heap.size 5 rfl gs.toList _ hm hus rfl HSL.out ?_;simp only [Array.toArray_toList])
   exact⟨rfl,_,rfl,zc _,rfl⟩
  ·intro vs y hg hd
   obtain⟨h8,_⟩:=hd
   replace h8:=h8 rfl
   dsimp only
   rw [show vs 8=_ from h8]
   go_wp2_with(go_at_call 97;refine(CO.out y (HRY.out y hg)).mono ?_;rintro e z ⟨A2,c2,rfl,hr2,gz,hb2⟩)
   exact⟨rfl,_,rfl,gz,⟨A2,c2,rfl,hr2,fun ad h=>by have:=hb2 ad h;have:=hg.size;omega⟩⟩
  ·intro vs y hg hd
   obtain⟨h1,h3,h6,h9,_⟩:=hd
   replace h1:=h1 rfl
   replace h3:=h3 rfl
   replace h6:=h6 rfl
   replace h9:=h9 rfl
   dsimp only
   rw [show vs 1=_ from h1,show vs 3=_ from h3]
   obtain⟨B9,j9,N9,e9,hm9,hp9,hb9,hn9⟩:=TqS.out h6
   obtain⟨A2,c2,e2,hr2,hb2⟩:=AgS.out h9
   rw [e9,e2]
   have HBU:=hQ9 (zhh S.vw S.qv S.qd B9 S.H.length j9 S.who S.sw S.lf S.s A2 S.l.length c2)
   go_wp2_with(with_reducible refine zC rfl 111 #[(0,.tmp 4),(1,.tmp 6),(2,.tmp 9),(3,.tmp 12)] rfl (nwC S.vw S.qv S.qd B9 S.H.length j9 S.who S.sw S.lf S.s (.slice A2 S.l.length c2)) ?_ ?_;· simpa [Act.eval,Act.put]using HBU.out)
   exact⟨rfl,_,rfl,zc _,TnS.mk2 HSO.out hm9 hp9 hb9 hn9 hr2 hb2⟩
 ·intro vs y hg hJ
  have j0:vs 0=.pointer (some ⟨w.heap.size,0,none⟩):=hJ 0 (by decide)
  have j1:vs 1=.int .i64 S.vw:=hJ 1 (by decide)
  have j2:vs 2=.pointer (some ⟨w.heap.size,1,none⟩):=hJ 2 (by decide)
  have j3:vs 3=.int .i64 S.who:=hJ 3 (by decide)
  have j4:vs 4=.pointer (some ⟨w.heap.size,2,none⟩):=hJ 4 (by decide)
  have j5:vs 5=.agg gq:=hJ 5 (by decide)
  have j7:vs 7=.pointer (some ⟨w.heap.size,5,none⟩):=hJ 7 (by decide)
  have j8:vs 8=.agg gs:=hJ 8 (by decide)
  have s9:=hJ 6 (by decide)
  have s12:=hJ 9 (by decide)
  have s13:=hJ 10 (by decide)
  clear hJ
  simp only [actOf,tk1,tk0,dr1,dr0,Act.put,si1,st1,st0,Nat.reduceAdd]
  obtain⟨T,j10,hmv,hok,hat,hlo⟩:=TnS.out s13
  rw [j10]
  clear s9 s12 s13 j10
  have hz1:=z2.lt
  have hz2:=G2.size
  have z3:=z2.grew hg
  have G3:=ze G2 hg
  clear z2 G2 hg
  have HTH:Hid (y.there (w.heap.size+1) 0 T.C.size):=hQ9 (z3.thereN 26 rfl)
  have HSI:Hid ((Tryz.prog.info? 111).map (·.size)=some T.C.size):=hQ9 zD
  have HON:=hQ9 T.one
  have K3:=zn T.C.toList (w.heap.size+1) 0 y
  have HAT:=hQ9 (xM hat K3 (fun j hj e=>by have:=hlo j hj;have e':j=w.heap.size+1:=e;omega))
  have HLO:Hid (∀ j,T.in j→w.heap.size≤j):=hQ9 (fun j hj=>by have:=hlo j hj;omega)
  have HMV:=hQ9 hmv
  have HOK:=hQ9 hok
  have z4:=Ag.set (vs:=T.C.toList) z3 rfl
  have G4:=zi (o:=0) (b:=w.heap.size+1) T.C.toList G3 (by omega)
  clear hat hlo hmv hok hz1 hz2
  go_wp2_with(with_reducible refine wpList_store_mid rfl 111 (.tmp 2) (.tmp 13) rfl (w.heap.size+1) 0 T.C rfl rfl HTH.out HSI.out HON.out ?_)
  exact bodyPost_ret (zM Tryz.results49 _ _ (w.heap.size+1) _ _ rfl z4 hur rfl zD) rfl ⟨⟨T,rfl,HMV.out,HOK.out,HAT.out,HLO.out⟩,G4⟩
def RaN (w:World) (A:Option Addr) (L:List NW):Prop:=∀ k (h:k<L.length),∃ ad,A=some ad∧ad.block<w.heap.size∧∀ j v,L[k].C.toList[j]?=some v→w.cell? ((ad.add (k*26)).add j)=some v
theorem RaN.gr {w w':World} {A:Option Addr} {L:List NW} (h:RaN w A L) (g:Grew w w'):RaN w' A L:=fun k hk=>by
 obtain⟨ad,e,hb,hr⟩:=h k hk
 exact⟨ad,e,Nat.lt_of_lt_of_le hb g.size,fun j v hj=>(g.cell (p:=(ad.add (k*26)).add j) (by rw [zv,zv];exact hb)).trans (hr j v hj)⟩
structure NwsG (w:World) (A:Option Addr) (L:List NW):Prop where
 rd:RaN w A L
 ok:∀ S∈L,S.ok
 at_:∀ S∈L,S.atg w
theorem NwsG.gr {w w':World} {A:Option Addr} {L:List NW} (h:NwsG w A L) (g:Grew w w'):NwsG w' A L:=⟨h.rd.gr g,h.ok,fun S hS=>(h.at_ S hS).gr g⟩
theorem ja:(Tryz.prog.info? 109).map (·.size)=some 26:=by kernel_rfl
theorem zfj (A:Option Addr) (c:Nat) (L:List NW) (hl:L.length≤100000) (w:World) (hL:NwsG w A L) :
 Calls Tryz.prog 57 #[.slice A L.length c] w fun e w'=>(∃ B c' M,e=.returned (.slice B L.length c')∧MvN L M∧Nws w' B M)∧Grew w w':=by
 obtain⟨i0,hi,hz0,hz1,hz2⟩:=info_parts zch
 have hut:=Tryz.underlying109
 have HL:=hQ9 hL
 have hr:=hL.rd
 clear hL
 go_enter Tryz.func57,Tryz.ntmps57
 go_wp2_with fail
 go_loopw [3,4] (fun rv iv wr=>∃(i:Nat) (M:List NW),i≤L.length∧iv=.int .i64 i∧MvN (L.take i) M∧NRow w.heap.size rv M wr∧Grew w wr) (fun _ i _=>L.length-(Go.RowKit.intOf i).toNat)
 case atStart=>exact⟨0,[],Nat.zero_le _,rfl,by simpa using MvN.nil,NRow.nil _ _,zc _⟩
 case round =>
  obtain⟨i,M,hil,rfl,hmv,hR,hg⟩:=hrel
  by_cases hlt:i<L.length
  ·obtain⟨ad,hA,hq,hm⟩:=(hr.gr hg) i hlt
   subst hA
   have HTS:Hid (L.take (i+1)=L.take i++[L[i]]):=hQ9 (by rw [List.take_succ_eq_append_getElem hlt])
   have hSok:=HL.out.ok L[i] (List.getElem_mem hlt)
   have hSat:=(HL.out.at_ L[i] (List.getElem_mem hlt)).gr hg
   have hi0:(0:Int)≤(i:Int):=by omega
   have hi1:(i:Int)<(L.length:Int):=by omega
   have e4:IntKind.i64.wrap ((i:Int)+1)=(i:Int)+1:=IntWalk.i64_in _ (by omega)
   have HML:Hid (M.length=i):=hQ9 (by rw [hmv.len,List.length_take];omega)
   generalize L[i]=S at *
   have SIS:Hid ((Tryz.prog.info? 109).map (·.size)=some S.C.toList.length):=hQ9 ja
   have CCP:=hQ9 (zd6 S hSok wr hSat)
   have HR:=hQ9 hR
   have HMV:=hQ9 hmv
   have HG:=hQ9 hg
   clear hSok hSat hR hmv hg
   go_wp2_with(with_reducible refine zN rfl 109 (.tmp 14) rfl (ad.add (i*26)) rfl S.C.toList _ hm hut rfl SIS.out ?_;simp only [Array.toArray_toList])
   refine(CCP.out).mono ?_
   rintro e w3 ⟨⟨T,rfl,hmT,hokT,hatT,hloT⟩,gg⟩
   have HR3:=hQ9 (HR.out.grew gg)
   have hrow3:=HR3.out.row
   have HOB:=hQ9 (zG HR.out.row)
   have HMT:=hQ9 hmT
   have HOT:=hQ9 hokT
   have HAT:=hQ9 hatT
   have HLT:=hQ9 hloT
   have HGG:=hQ9 gg
   obtain⟨gs,hgs⟩:∃ g,T.C=g:=⟨_,rfl⟩
   have HGS:=hQ9 hgs
   have HFOLD:Hid (Array.foldl (fun(cs:Array Value) (x:Value × Nat)=>cs.setIfInBounds x.snd x.fst) (#[.int .i64 0,.int .i64 0,.int .i64 0,.int .u64 0,.slice none 0 0,.int .i64 0,.int .i64 0,.int .u64 0,.int .u64 0,.int .u64 0,.int .u64 0,.int .u64 0,.int .u64 0,.int .u64 0,.int .u64 0,.int .u64 0,.int .u64 0,.int .u64 0,.int .u64 0,.int .u64 0,.int .u64 0,.int .u64 0,.int .u64 0,.int .u64 0,.int .u64 0,.slice none 0 0]) gs.zipIdx 0 26=gs):=hQ9 (by rw [←hgs];exact xL T)
   have HLEN:Hid (gs.size=26):=hQ9 (by rw [←hgs];rfl)
   have HONE:Hid (∀ u∈gs.toList,u.oneCell'=true):=hQ9 (by rw [←hgs];exact T.one')
   have hsz:=HLEN.out
   have hwz:=HG.out.size
   have hwz3:=gg.size
   rw [hgs]
   rw [HML.out]at hrow3
   clear hm gg CCP hmT hokT hatT hloT hgs
   go_wp2_with(first
    | (at_builtin;rw [HFOLD.out];refine zK _ rfl (.tmp 11) (.tmp 17) 120 rfl w.heap.size 111 i0 (.agg (#[.int .i64 0,.int .i64 0,.int .i64 0,.int .u64 0,.slice none 0 0,.int .i64 0,.int .i64 0,.int .u64 0,.int .u64 0,.int .u64 0,.int .u64 0,.int .u64 0,.int .u64 0,.int .u64 0,.int .u64 0,.int .u64 0,.int .u64 0,.int .u64 0,.int .u64 0,.int .u64 0,.int .u64 0,.int .u64 0,.int .u64 0,.int .u64 0,.int .u64 0,.slice none 0 0]:Array Value)) 26 240 Tryz.underlying120 hi hz0 hz1 hz2 rfl (by decide) _ _ _ rfl (hrow3.alloc _) ⟨w3.heap.size,0,none⟩ 1 1 gs.toList rfl (by simp [HLEN.out]) (fun j u hj=>yd w3 gs 111 j u hj) HONE.out (by unfold maxLen;omega) (by omega) (by simp;omega) ?_;intro v' w5 hown5 hgrow5 hob5))
   have ga:=zg (zc w3) (.cells gs 111)
   go_roundw
   case rel =>
    refine⟨i+1,M++[T],by omega,by go_num,by rw [HTS.out];exact HMV.out.snoc HMT.out,?_,(zg (ze HG.out HGG.out) _).grown hgrow5 (by simp;omega) (zA hrow3)⟩
    exact HR3.out.app HOT.out HAT.out (fun j hj=>by have:=HLT.out j hj;omega) (fun j hj e=>by have:=HLT.out j hj;have:=(HOB.out j e).2;omega) ga (by rw [HML.out,HGS.out];exact hown5) hgrow5 hob5
   case measure=>simp [Go.RowKit.intOf];omega
  ·obtain rfl:i=L.length:=by omega
   rw [List.take_length]at hmv
   obtain⟨B,c',rfl,hB,hc1,hc2⟩:=hR.nws
   have HB:=hQ9 hB
   have HMV:=hQ9 hmv
   have hml:=hmv.len
   rw [hml]
   clear hR hB hmv
   go_wp2_with fail
   go_ret
   refine⟨?_,hg⟩
   exact⟨B,c',M,rfl,HMV.out,HB.out⟩
theorem zjb {K:KP} {u:Int} {S:NW} (hK:K.ok) (h:nfB K u S=true):0≤S.who∧S.who<(((3*K.f+1).toNat:Nat):Int):=by
 unfold nfB at h
 simp only [Bool.and_eq_true,decide_eq_true_eq]at h
 have hv:=h.2
 have hf:=hK.f
 unfold nvS at hv
 split at hv
 ·cases hv
 ·split at hv
  ·cases hv
  ·omega
theorem jb {K:KP} {u:Int} {L:List NW} (hK:K.ok):∀ x∈L.filter (nfB K u),0≤x.who∧x.who<(((3*K.f+1).toNat:Nat):Int):=fun x hx=>zjb hK (List.mem_filter.1 hx).2
noncomputable def upN (K:KP) (u:Int) (L:List NW) (v:Nat):List NW:=upTo NW.who (L.filter (nfB K u)) v
theorem zlg {K:KP} (hK:K.ok) (u:Int) (L:List NW):upN K u L (3*K.f+1).toNat=eachL NW.who (L.filter (nfB K u)):=(xt NW.who _ _ (jb hK)).symm
noncomputable def nfwB (K:KP) (u:Int) (v:Nat) (S:NW):Bool:=nfB K u S&&decide (S.who=(v:Int))
theorem zjc {K:KP} {u:Int} {L:List NW} {v i:Nat} (hi:i<L.length) (hno:∀ j (hj:j<L.length),j<i→nfwB K u v L[j]=false) (hy:nfwB K u v L[i]=true):upN K u L (v+1)=upN K u L v++[L[i]]:=by
 have hf:(L.filter (nfB K u)).find? (fun x=>decide (x.who=(v:Int)))=some L[i]:=by
  rw [List.find?_filter,List.find?_eq_some_iff_getElem]
  refine⟨by unfold nfwB at hy;simpa using hy,i,hi,rfl,fun j hj=>?_⟩
  have:=hno j (by omega) hj
  unfold nfwB at this
  rw [Bool.and_eq_false_iff,decide_eq_false_iff_not]at this
  rw [Bool.not_eq_true',decide_eq_false_iff_not,decide_eq_true_eq]
  rintro⟨h1,h2⟩
  rcases this with h | h
  ·rw [h1]at h;cases h
  ·exact h h2
 unfold upN
 rw [xv,hf]
 rfl
theorem zjd {K:KP} {u:Int} {L:List NW} {v:Nat} (hno:∀ j (hj:j<L.length),nfwB K u v L[j]=false):upN K u L (v+1)=upN K u L v:=by
 have hf:(L.filter (nfB K u)).find? (fun x=>decide (x.who=(v:Int)))=none:=by
  rw [List.find?_filter,List.find?_eq_none]
  intro x hx
  obtain⟨j,hj,rfl⟩:=List.getElem_of_mem hx
  have:=hno j hj
  unfold nfwB at this
  simpa using this
 unfold upN
 rw [xv,hf]
 simp
theorem zd7 (K:KP) (u:Int) (L:List NW):∀ v,(upN K u L v).length≤v
 | 0=>by simp [upN,upTo]
 | v+1=>by
  unfold upN
  rw [xv,List.length_append]
  have h1:=zd7 K u L v
  unfold upN at h1
  have h2:((L.filter (nfB K u)).find? (fun x=>decide (x.who=(v:Int)))).toList.length≤1:=by
   cases (L.filter (nfB K u)).find? (fun x=>decide (x.who=(v:Int)))<;>simp
  omega
def bestO:List NW→Option NW
 | []=>none
 | t::r=>some (topF t r)
theorem qY (P:List NW) (x:NW):bestO (P++[x])=match bestO P with
 | none=>some x
 | some t=>if t.qv<x.qv then some x else some t:=by
 cases P with
 | nil=>rfl
 | cons t r =>
  show some (topF t (r++[x]))=if (topF t r).qv<x.qv then some x else some (topF t r)
  rw [kZ]
  split<;>rfl
theorem za7 {P:List NW} {t:NW} (h:bestO P=some t):t∈P:=by
 cases P with
 | nil=>cases h
 | cons s r =>
  have e:topF s r=t:=by injection h
  rw [←e]
  rcases ql r s with h1 | h1
  ·rw [h1];exact List.mem_cons_self
  ·exact List.mem_cons_of_mem _ h1
def bsV:Option NW→Int
 | none=>-1
 | some t=>t.qv
def bsC:Option NW→Array Value
 | none=>vqC (-1) 0 none 0 0
 | some t=>vqC t.qv t.qd t.QA t.H.length t.Qk
theorem zje (b:Option NW):(bsC b).toList[0]?=some (.int .i64 (bsV b)):=by
 cases b<;>rfl
theorem xr (b:Option NW):(bsC b).toList.length=3:=by
 cases b<;>rfl
theorem zal (b:Option NW):(bsC b).all (·.oneCell')=true:=by
 cases b
 ·exact yo _ _ _ _ _
 ·exact yo _ _ _ _ _
theorem zjf {K:KP} {S:VP} (h:vvS K S=0):1≤S.vw:=by
 unfold vvS vvE at h
 by_cases hb:vwB S.vw=true
 ·unfold vwB at hb
  simp only [Bool.and_eq_true,decide_eq_true_eq]at hb
  omega
 ·rw [if_neg hb]at h
  split at h
  ·cases h
  ·split at h<;>cases h
theorem zjg {K:KP} (hK:K.ok) {u:Int} {d:Nat} {L:List VP} (h:vqE K u d L=0):0≤u:=by
 unfold vqE at h
 by_cases hu:u=0
 ·omega
 ·rw [if_neg hu]at h
  unfold cqV at h
  have hf:=hK.f
  split at h
  ·rename_i hl
   cases L with
   | nil=>simp at hl;omega
   | cons S r =>
    rw [chqV]at h
    rw [if_neg (by simp)]at h
    by_cases hv:vdV K u d S=0
    ·unfold vdV at hv
     split at hv
     ·rename_i h1
      split at hv
      ·have:=zjf hv;omega
      ·cases hv
     ·cases hv
    ·rw [if_neg hv]at h
     exact absurd h hv
  ·cases h
theorem zjh {K:KP} (hK:K.ok) {u:Int} {S:NW} (h:nfB K u S=true):0≤S.qv:=by
 unfold nfB at h
 simp only [Bool.and_eq_true,decide_eq_true_eq]at h
 have hv:=h.2
 unfold nvS at hv
 split at hv
 ·cases hv
 ·split at hv
  ·cases hv
  ·split at hv
   ·cases hv
   ·split at hv
    ·cases hv
    ·split at hv
     ·split at hv
      ·rename_i h2
       exact zjg hK h2
      ·rename_i h2
       exact absurd hv h2
     ·rename_i h2
      exact absurd hv h2
theorem zji {P:List NW} {x:NW} (h:bsV (bestO P)<x.qv):bestO (P++[x])=some x:=by
 rw [qY]
 cases hb:bestO P with
 | none=>rfl
 | some t =>
  rw [hb]at h
  exact if_pos h
theorem zfk {P:List NW} {x:NW} (hx:0≤x.qv) (h:¬bsV (bestO P)<x.qv):bestO (P++[x])=bestO P:=by
 rw [qY]
 cases hb:bestO P with
 | none =>
  rw [hb]at h
  exact absurd (show(-1:Int)<x.qv by omega) h
 | some t =>
  rw [hb]at h
  exact if_neg h
noncomputable def rbS (K:KP) (u:Int) (L:List NW):Array Value × Int :=
 if (2*K.f+1).toNat≤(eachL NW.who (L.filter (nfB K u))).length then (bsC (bestO (eachL NW.who (L.filter (nfB K u)))),0) else (#[.int .i64 0,.int .u64 0,.slice none 0 0],8)
theorem zhi:Tryz.prog.built 28 [(0,.int .i64 (-1))]=some (bsC none):=by kernel_rfl
theorem zjj:Tryz.prog.built 28 []=some (#[.int .i64 0,.int .u64 0,.slice none 0 0]:Array Value):=by kernel_rfl
theorem zjk {K:KP} (hK:K.ok) (u:Int) (A:Option Addr) (cap:Nat) (L:List NW) (hl:L.length≤100000) (w:World) (hS:Std w) (hk:K.at w) (hL:NwsG w A L) :
 Calls Tryz.prog 58 #[.agg K.C,.int .i64 u,.slice A L.length cap] w fun e w'=>e=.returned (.tuple #[.agg (rbS K u L).1,.int .i64 (rbS K u L).2])∧Grew w w':=by
 have huk:=Tryz.underlying24
 have hut:=Tryz.underlying28
 have hus:=Tryz.underlying109
 have SIK:Hid ((Tryz.prog.info? 24).map (·.size)=some K.C.toList.length):=hQ9 jp
 have z0:=(Ag.new w 24 K.C).grew (zg (zc _) (.cells ((#[.int .i64 0,.int .u64 0,.slice none 0 0]:Array Value)) 28))
 have z2:=Ag.new (w.alloc (.cells K.C 24)) 28 ((#[.int .i64 0,.int .u64 0,.slice none 0 0]:Array Value))
 rw [zl]at z2
 have G3:=zg (zg (zc w) (.cells K.C 24)) (.cells ((#[.int .i64 0,.int .u64 0,.slice none 0 0]:Array Value)) 28)
 have HKA:=hQ9 hk
 have HLA:=hQ9 hL
 have HSS:=hQ9 hS
 have hbz:=zjj
 have bz:∀ W,(Instr.build 28 #[]).run Tryz.prog W=.ok (.agg ((#[.int .i64 0,.int .u64 0,.slice none 0 0]:Array Value))) W:=fun W=>run_build W 28 _ _ hbz
 have HSI:Hid ((Tryz.prog.info? 28).map (·.size)=some ((#[.int .i64 0,.int .u64 0,.slice none 0 0]:Array Value)).size):=hQ9 yp
 have HON:Hid (((#[.int .i64 0,.int .u64 0,.slice none 0 0]:Array Value)).all (·.oneCell')=true):=hQ9 (by simp [Value.oneCell'])
 have hf:=hK.f
 have HK:=hQ9 hK
 have HLL:=hQ9 hl
 have HF:=hQ9 hf
 have CN:Hid (∀ W,Calls Tryz.prog 69 #[.int .i64 K.f] W fun e w'=>e=.returned (.int .i64 (3*K.f+1))∧w'=W):=hQ9 (fun W=>rn_ok K.f (by omega) W)
 have CQ:Hid (∀ W,Calls Tryz.prog 79 #[.int .i64 K.f] W fun e w'=>e=.returned (.int .i64 (2*K.f+1))∧w'=W):=hQ9 (fun W=>rq_ok K.f (by omega) W)
 obtain⟨RB,hRB⟩:∃ r,rbS K u L=r:=⟨_,rfl⟩
 have HRB:Hid (RB=if (2*K.f+1).toNat≤(eachL NW.who (L.filter (nfB K u))).length then (bsC (bestO (eachL NW.who (L.filter (nfB K u)))),0) else ((#[.int .i64 0,.int .u64 0,.slice none 0 0]:Array Value),8)):=hQ9 (by rw [←hRB];rfl)
 rw [hRB]
 obtain⟨w3,hw3⟩:∃ v,(w.alloc (.cells K.C 24)).alloc (.cells ((#[.int .i64 0,.int .u64 0,.slice none 0 0]:Array Value)) 28)=v:=⟨_,rfl⟩
 rw [hw3]at z0 z2 G3
 have HW3:=hQ9 hw3
 have HQW:Hid (w.heap.size+2≤w3.heap.size):=hQ9 (by have:=z2.lt;omega)
 obtain⟨w4,hw4,ht4,g4,z4⟩:=zW w3 28 ((#[.int .i64 0,.int .u64 0,.slice none 0 0]:Array Value)) (bsC none) rfl
 have HW4:=hQ9 hw4
 have HT4:=hQ9 ht4
 have SI4:Hid ((Tryz.prog.info? 28).map (·.size)=some (bsC none).size):=hQ9 yp
 have HO4:=hQ9 (zal none)
 have HBU:=hQ9 zhi
 have z0:=z0.grew g4
 have z2:=z2.grew g4
 have G4:=ze G3 g4
 have HQL:Hid (w3.heap.size<w4.heap.size):=hQ9 z4.lt
 clear hw3 hw4 ht4 G3 hf hK hl hk hL hS hbz hRB
 go_enter Tryz.func58,Tryz.ntmps58
 go_upto_region 1 with fail
 rw [HW3.out]
 clear HW3
 go_wp2_with(first
  | (with_reducible refine zC rfl 28 #[(0,.const (.int .i64 (-1)))] rfl (bsC none) ?_ ?_;· simpa [Act.eval,Act.put]using HBU.out)
  | (with_reducible refine wpList_store_mid rfl 28 (.tmp 9) (.tmp 12) rfl w3.heap.size 0 (bsC none) rfl rfl HT4.out SI4.out HO4.out ?_;rw [HW4.out]))
 clear HT4 HW4 SI4 HO4 HBU g4
 obtain⟨q,hq⟩:∃ q,w3.heap.size=q:=⟨_,rfl⟩
 rw [hq]at z4 HQL HQW ⊢
 clear hq
 obtain⟨N,hN⟩:∃ n:Nat,(3*K.f+1).toNat=n:=⟨_,rfl⟩
 obtain⟨Q,hQ⟩:∃ n:Nat,(2*K.f+1).toNat=n:=⟨_,rfl⟩
 have eN:3*K.f+1=(N:Int):=by have:=HF.out;omega
 have eQ:2*K.f+1=(Q:Int):=by have:=HF.out;omega
 have HEN:=hQ9 eN
 have HN:=hQ9 hN
 have HQ:=hQ9 hQ
 rw [eN]at CN
 rw [eQ]at CQ
 clear eN eQ hN hQ
 go_loopw [8,10] (fun nv vv wr=>∃ v:Nat,v≤N∧vv=.int .i64 (v:Int)∧nv=.int .i64 ((upN K u L v).length:Int)∧Ag wr q (bsC (bestO (upN K u L v))).toList∧Ag wr w.heap.size K.C.toList∧Ag wr (w.heap.size+1) ((#[.int .i64 0,.int .u64 0,.slice none 0 0]:Array Value)).toList∧Grew w wr) (fun _ vv _=>N-(Go.RowKit.intOf vv).toNat)
 case atStart=>exact⟨0,Nat.zero_le _,rfl,by simp [upN,upTo],by simpa [upN,upTo,bestO]using z4,z0,z2,G4⟩
 case round =>
  clear z4 z0 z2 G4
  obtain⟨v,hv,rfl,rfl,zq,zk,zz,hg⟩:=hrel
  have HPL:=hQ9 (zd7 K u L v)
  obtain⟨P,hP⟩:∃ P,upN K u L v=P:=⟨_,rfl⟩
  rw [hP]at zq HPL ⊢
  have HP:=hQ9 hP
  obtain⟨bO,hbO⟩:∃ b,bestO P=b:=⟨_,rfl⟩
  have HBO:=hQ9 hbO
  rw [hbO]at zq
  have hcF:wr.cell? ⟨w.heap.size,0,none⟩=some (.int .i64 K.f):=by simpa using zk.cell 0 _ rfl
  have HZQ:=hQ9 zq
  have HZK:=hQ9 zk
  have HZZ:=hQ9 zz
  have HG:=hQ9 hg
  obtain⟨n,hn⟩:∃ n,P.length=n:=⟨_,rfl⟩
  rw [hn]at HPL ⊢
  have HNL:=hQ9 hn
  clear hP zq zk zz hg hbO hn
  by_cases hvN:v<N
  rotate_left
  ·have e17:decide (v<N)=false:=decide_eq_false (by omega)
   have HE:Hid (P=eachL NW.who (L.filter (nfB K u))):=hQ9 (by rw [←HP.out,←zlg HK.out u L,HN.out];congr 1;omega)
   clear hvN hv
   go_wp2_with fail
   refine(CN.out _).mono ?_
   rintro e w5 ⟨rfl,rfl⟩
   go_wp2_with fail
   refine(CQ.out _).mono ?_
   rintro e w5 ⟨rfl,rfl⟩
   by_cases hen:n<Q
   ·have e71:decide (n<Q)=true:=decide_eq_true hen
    have HMR:Hid (RB=((#[.int .i64 0,.int .u64 0,.slice none 0 0]:Array Value),8)):=hQ9 (by rw [HRB.out,←HE.out,HQ.out,HNL.out];exact if_neg (by omega))
    have zz:=HZZ.out
    have HTH:Hid (w5.there (w.heap.size+1) 0 ((#[.int .i64 0,.int .u64 0,.slice none 0 0]:Array Value)).size):=hQ9 (zz.thereN 3 rfl)
    have z4:=Ag.set (vs:=((#[.int .i64 0,.int .u64 0,.slice none 0 0]:Array Value)).toList) zz rfl
    have G5:=zi (o:=0) (b:=w.heap.size+1) ((#[.int .i64 0,.int .u64 0,.slice none 0 0]:Array Value)).toList HG.out (by omega)
    clear hen zz hcF
    go_wp2_with(with_reducible refine wpList_store_mid rfl 28 (.tmp 6) (.tmp 72) rfl (w.heap.size+1) 0 ((#[.int .i64 0,.int .u64 0,.slice none 0 0]:Array Value)) rfl rfl HTH.out HSI.out HON.out ?_)
    exact bodyPost_ret (zT Tryz.results58 _ _ (w.heap.size+1) _ _ _ rfl rfl z4 hut rfl yp) rfl ⟨by rw [HMR.out];rfl,G5⟩
   ·have e71:decide (n<Q)=false:=decide_eq_false hen
    have HMR:Hid (RB=(bsC bO,0)):=hQ9 (by rw [HRB.out,←HE.out,HQ.out,HNL.out,HBO.out];exact if_pos (by omega))
    have zz:=HZZ.out
    have hm7:=HZQ.out.cell
    have SI7:Hid ((Tryz.prog.info? 28).map (·.size)=some (bsC bO).toList.length):=hQ9 (by rw [xr];exact yp)
    have SI8:Hid ((Tryz.prog.info? 28).map (·.size)=some (bsC bO).size):=hQ9 (by have:=xr bO;simp only [Array.length_toList]at this;rw [this];exact yp)
    have HO8:=hQ9 (zal bO)
    have hs3:(bsC bO).size=3:=by have:=xr bO;simpa using this
    have HTH:Hid (w5.there (w.heap.size+1) 0 (bsC bO).size):=hQ9 (by rw [hs3];exact zz.thereN 3 rfl)
    have z4:=Ag.set (vs:=(bsC bO).toList) zz (by rw [xr];rfl)
    have G5:=zi (o:=0) (b:=w.heap.size+1) (bsC bO).toList HG.out (by omega)
    clear hen zz hcF
    go_wp2_with(first
     | (with_reducible refine wpList_load_mid rfl 28 (.tmp 9) rfl q 0 rfl (bsC bO).toList _ hm7 hut rfl SI7.out ?_;simp only [Array.toArray_toList])
     | (with_reducible refine wpList_store_mid rfl 28 (.tmp 6) (.tmp 73) rfl (w.heap.size+1) 0 (bsC bO) rfl rfl HTH.out SI8.out HO8.out ?_))
    exact bodyPost_ret (zT Tryz.results58 _ _ (w.heap.size+1) _ _ _ rfl rfl z4 hut rfl SI8.out) rfl ⟨by rw [HMR.out];rfl,G5⟩
  have e17:decide (v<N)=true:=decide_eq_true (by omega)
  have HVN:=hQ9 hvN
  clear hvN hv
  go_wp2_with fail
  refine(CN.out _).mono ?_
  rintro e w5 ⟨rfl,rfl⟩
  clear hcF
  generalize w5=wo at *
  go_wp2_with fail
  go_loopw [8,11] (fun nv iv wr=>∃ i:Nat,i≤L.length∧iv=.int .i64 (i:Int)∧nv=.int .i64 (n:Int)∧Hid (∀ j (hj:j<L.length),j<i→nfwB K u v L[j]=false)∧Grew wo wr) (fun _ iv _=>L.length-(Go.RowKit.intOf iv).toNat)
  case atStart=>exact⟨0,Nat.zero_le _,rfl,rfl,hQ9 (fun j hj h=>by omega),zc _⟩
  case round =>
   obtain⟨i,hi,rfl,rfl,HJ,gj⟩:=hrel
   have e19:IntKind.i64.wrap ((v:Int)+1)=((v+1:Nat):Int):=by have h2:=HVN.out;have h3:=HEN.out;have h4:=HF.out;rw [IntWalk.i64_in _ (by omega)];omega
   by_cases hlt:i<L.length
   rotate_left
   ·obtain rfl:i=L.length:=by omega
    have HPN:Hid (upN K u L (v+1)=P):=hQ9 (by rw [zjd (fun j hj=>HJ.out j hj (by omega)),HP.out])
    clear hlt hi HJ
    go_wp2_with fail
    go_roundw
    case rel=>exact⟨v+1,HVN.out,by go_num,by rw [HPN.out,HNL.out],by rw [HPN.out,HBO.out];exact HZQ.out.grew gj,HZK.out.grew gj,HZZ.out.grew gj,ze HG.out gj⟩
    case measure=>have:=HVN.out;simp [Go.RowKit.intOf]<;>omega
   have h1:(i:Int)<(L.length:Int):=by omega
   have h0:(0:Int)≤(i:Int):=by omega
   have HI:=hQ9 hlt
   have GJ:=hQ9 gj
   obtain⟨ad,hA,hql,hr⟩:=HLA.out.rd i hlt
   have HYS:Hid (∀ y:Gr wr,∀ j u,L[i].C.toList[j]?=some u→y.val.cell? ((ad.add (i*26)).add j)=some u):=hQ9 (fun y j u hj=>((ze HG.out (ze GJ.out y.ok)).cell (p:=(ad.add (i*26)).add j) (by rw [zv,zv];exact hql)).trans (hr j u hj))
   have hs1:∀ y:Gr wr,y.val.cell? ⟨(ad.add (i*26)).block,(ad.add (i*26)).off+1,none⟩=some (.int .i64 L[i].who):=fun y=>by
    have:=HYS.out y 1 (.int .i64 L[i].who) rfl
    rwa [zci _ (by decide)]at this
   have hs0:∀ y:Gr wr,y.val.cell? (ad.add (i*26))=some (.int .i64 L[i].vw):=fun y=>by
    have:=HYS.out y 0 (.int .i64 L[i].vw) rfl
    rwa [show(ad.add (i*26)).add 0=ad.add (i*26) from by simp [Addr.add]]at this
   have HADB:=hQ9 hql
   have HOK:Hid L[i].ok:=hQ9 (HLA.out.ok _ (List.getElem_mem _))
   have HAT:Hid (∀ y:Gr wr,L[i].atg y.val):=hQ9 (fun y=>(HLA.out.at_ _ (List.getElem_mem _)).gr (ze HG.out (ze GJ.out y.ok)))
   have HNO:Hid (nfwB K u v L[i]=false→∀ j (hj:j<L.length),j<i+1→nfwB K u v L[j]=false):=hQ9 (fun h j hj hji=>by
    by_cases e:j=i
    ·subst e;exact h
    ·exact HJ.out j hj (by omega))
   have HYES:Hid (nfwB K u v L[i]=true→upN K u L (v+1)=P++[L[i]]):=hQ9 (fun h=>by
    have h9:=zjc HI.out HJ.out h
    rw [HP.out]at h9
    exact h9)
   have e9i:IntKind.i64.wrap ((i:Int)+1)=((i+1:Nat):Int):=by have:=HLL.out;rw [IntWalk.i64_in _ (by omega)];omega
   subst hA
   clear hr gj HJ hlt hi hql
   generalize L[i]=S at *
   have SIS:Hid ((Tryz.prog.info? 109).map (·.size)=some S.C.toList.length):=hQ9 ja
   have YK:Hid (∀ y:Gr wr,y.val.rangeAt w.heap.size 0 K.C.toList):=hQ9 (fun y=>(HZK.out.grew (ze GJ.out y.ok)).cell)
   have CV:Hid (∀ y:Gr wr,Calls Tryz.prog 51 #[.agg K.C,.agg S.C] y.val fun e w'=>e=.returned (.int .i64 (nvS K S))∧Grew y.val w'):=hQ9 (fun y=>jJ HK.out HOK.out y.val (HSS.out.grew (ze HG.out (ze GJ.out y.ok))) (HKA.out.gr (ze HG.out (ze GJ.out y.ok))) (HAT.out y).p (HAT.out y).q)
   by_cases hw:S.who=(v:Int)
   rotate_left
   ·have e51:(S.who==(v:Int))=false:=by simpa using hw
    have HNN:=hQ9 (HNO.out (by unfold nfwB;rw [decide_eq_false hw];simp))
    clear hw
    go_upto_region 9 with fail
    refine zh (zc wr) (by kernel_rfl) (by kernel_rfl) ?_
    repeat (first
     | (go_big_quiet_want;refine zo 24 (.tmp 3) rfl w.heap.size 0 rfl K.C.toList _ YK.out huk rfl SIK.out ?_;simp only [Act.put,List.setIfInBounds_toArray,List.set_cons_succ,List.set_cons_zero,Array.toArray_toList];go_big_quiet_on)
     | (go_big_quiet_want;refine xa 109 (.tmp 46) rfl (ad.add (i*26)) rfl S.C.toList _ HYS.out hus rfl SIS.out ?_;simp only [Act.put,List.setIfInBounds_toArray,List.set_cons_succ,List.set_cons_zero,Array.toArray_toList];go_big_quiet_on)
     | (go_big_quiet_step (first
      | (go_at_call 51;exact callG (CV.out _)))))
    refine wpQuiet_nil ?_
    rintro wx ⟨⟨wx',gx⟩,rfl⟩
    have HWX:=hQ9 gx
    clear gx
    go_wp2_with fail
    go_roundw
    case rel=>exact⟨i+1,HI.out,by go_num,rfl,HNN,ze GJ.out HWX.out⟩
    case measure=>have:=HI.out;simp [Go.RowKit.intOf]<;>omega
   by_cases hu:S.vw=u
   rotate_left
   ·have e51:(S.who==(v:Int))=true:=by simpa using hw
    have e52:(S.vw==u)=false:=by simpa using hu
    have HNN:=hQ9 (HNO.out (by unfold nfwB nfB;rw [decide_eq_false hu];simp))
    clear hw hu
    go_upto_region 9 with fail
    refine zh (zc wr) (by kernel_rfl) (by kernel_rfl) ?_
    repeat (first
     | (go_big_quiet_want;refine zo 24 (.tmp 3) rfl w.heap.size 0 rfl K.C.toList _ YK.out huk rfl SIK.out ?_;simp only [Act.put,List.setIfInBounds_toArray,List.set_cons_succ,List.set_cons_zero,Array.toArray_toList];go_big_quiet_on)
     | (go_big_quiet_want;refine xa 109 (.tmp 46) rfl (ad.add (i*26)) rfl S.C.toList _ HYS.out hus rfl SIS.out ?_;simp only [Act.put,List.setIfInBounds_toArray,List.set_cons_succ,List.set_cons_zero,Array.toArray_toList];go_big_quiet_on)
     | (go_big_quiet_step (first
      | (go_at_call 51;exact callG (CV.out _)))))
    refine wpQuiet_nil ?_
    rintro wx ⟨⟨wx',gx⟩,rfl⟩
    have HWX:=hQ9 gx
    clear gx
    go_wp2_with fail
    go_roundw
    case rel=>exact⟨i+1,HI.out,by go_num,rfl,HNN,ze GJ.out HWX.out⟩
    case measure=>have:=HI.out;simp [Go.RowKit.intOf]<;>omega
   have e51:(S.who==(v:Int))=true:=by simpa using hw
   have e52:(S.vw==u)=true:=by simpa using hu
   by_cases hva:nvS K S=0
   rotate_left
   ·have e68:(nvS K S==0)=false:=by simpa using hva
    have HNN:=hQ9 (HNO.out (by unfold nfwB nfB;rw [decide_eq_false hva];simp))
    clear hw hu hva
    go_upto_region 9 with fail
    refine zh (zc wr) (by kernel_rfl) (by kernel_rfl) ?_
    repeat (first
     | (go_big_quiet_want;refine zo 24 (.tmp 3) rfl w.heap.size 0 rfl K.C.toList _ YK.out huk rfl SIK.out ?_;simp only [Act.put,List.setIfInBounds_toArray,List.set_cons_succ,List.set_cons_zero,Array.toArray_toList];go_big_quiet_on)
     | (go_big_quiet_want;refine xa 109 (.tmp 46) rfl (ad.add (i*26)) rfl S.C.toList _ HYS.out hus rfl SIS.out ?_;simp only [Act.put,List.setIfInBounds_toArray,List.set_cons_succ,List.set_cons_zero,Array.toArray_toList];go_big_quiet_on)
     | (go_big_quiet_step (first
      | (go_at_call 51;exact callG (CV.out _)))))
    refine wpQuiet_nil ?_
    rintro wx ⟨⟨wx',gx⟩,rfl⟩
    have HWX:=hQ9 gx
    clear gx
    go_wp2_with fail
    go_roundw
    case rel=>exact⟨i+1,HI.out,by go_num,rfl,HNN,ze GJ.out HWX.out⟩
    case measure=>have:=HI.out;simp [Go.RowKit.intOf]<;>omega
   have e68:(nvS K S==0)=true:=by simpa using hva
   have HYE:=hQ9 (HYES.out (by unfold nfwB nfB;rw [decide_eq_true hw,decide_eq_true hu,decide_eq_true hva];rfl))
   have HVW:Hid (0≤S.qv):=hQ9 (zjh HK.out (u:=u) (by unfold nfB;rw [decide_eq_true hu,decide_eq_true hva];rfl))
   clear hw hu hva
   go_upto_region 9 with fail
   refine zh (zc wr) (by kernel_rfl) (by kernel_rfl) ?_
   repeat (first
    | (go_big_quiet_want;refine zo 24 (.tmp 3) rfl w.heap.size 0 rfl K.C.toList _ YK.out huk rfl SIK.out ?_;simp only [Act.put,List.setIfInBounds_toArray,List.set_cons_succ,List.set_cons_zero,Array.toArray_toList];go_big_quiet_on)
    | (go_big_quiet_want;refine xa 109 (.tmp 46) rfl (ad.add (i*26)) rfl S.C.toList _ HYS.out hus rfl SIS.out ?_;simp only [Act.put,List.setIfInBounds_toArray,List.set_cons_succ,List.set_cons_zero,Array.toArray_toList];go_big_quiet_on)
    | (go_big_quiet_step (first
     | (go_at_call 51;exact callG (CV.out _)))))
   refine wpQuiet_nil ?_
   rintro wx ⟨⟨wx',gx⟩,rfl⟩
   have GX:=hQ9 (ze GJ.out gx)
   have HYX:Hid (∀ j u,S.C.toList[j]?=some u→wx.cell? ((ad.add (i*26)).add j)=some u):=hQ9 (HYS.out ⟨wx,gx⟩)
   clear hs0 hs1 YK CV e51 e52 e68
   have hs2:∀ y:Gr wx,y.val.cell? ⟨(ad.add (i*26)).block,(ad.add (i*26)).off+2,none⟩=some (.int .i64 S.qv):=fun y=>by
    have:=HYS.out ⟨y.val,ze gx y.ok⟩ 2 (.int .i64 S.qv) rfl
    rwa [zci _ (by decide)]at this
   obtain⟨bv,hbv⟩:∃ b,bsV bO=b:=⟨_,rfl⟩
   have hsb:∀ y:Gr wx,y.val.cell? ⟨q,0,none⟩=some (.int .i64 bv):=fun y=>by
    have:=((HZQ.out.grew GX.out).grew y.ok).cell 0 _ (zje bO)
    rw [hbv]at this
    simpa using this
   have e10:IntKind.i64.wrap ((n:Int)+1)=((n+1:Nat):Int):=by have h1:=HPL.out;have h2:=HVN.out;have h3:=HEN.out;have h4:=HF.out;rw [IntWalk.i64_in _ (by omega)];omega
   have HBV:=hQ9 hbv
   have HGX:=hQ9 gx
   have HN1:Hid ((P++[S]).length=n+1):=hQ9 (by rw [List.length_append,HNL.out];rfl)
   clear gx hbv
   by_cases hgt:bv<S.qv
   ·have e61:decide (bv<S.qv)=true:=decide_eq_true hgt
    have HB1:Hid (bestO (P++[S])=some S):=hQ9 (zji (by rw [HBO.out,HBV.out];exact hgt))
    clear hgt
    go_upto_region 11 with fail
    refine zh (zc wx) (by kernel_rfl) (by kernel_rfl) ?_
    repeat (go_big_quiet_step (fail))
    refine wpQuiet_nil ?_
    rintro wy ⟨⟨wy',gy⟩,rfl⟩
    have HGY:=hQ9 (ze GX.out gy)
    have hm9:∀ j u,(bsC (some S)).toList[j]?=some u→wy.cell? ((⟨(ad.add (i*26)).block,(ad.add (i*26)).off+2,none⟩:Addr).add j)=some u:=fun j u hj=>by
     have hj3:j<3:=(List.getElem?_eq_some_iff.1 hj).1
     have hcj:S.C.toList[2+j]?=some u:=by
      match j,hj3,hj with
      | 0,_,h=>exact h
      | 1,_,h=>exact h
      | 2,_,h=>exact h
     have h9:=HYS.out ⟨wy,ze HGX.out gy⟩ (2+j) u hcj
     rw [zci _ (by omega)]at h9
     match j,hj3,h9 with
     | 0,_,h=>simpa [Addr.add]using h
     | 1,_,h=>simpa [Addr.add,Nat.add_assoc]using h
     | 2,_,h=>simpa [Addr.add,Nat.add_assoc]using h
    have SI9:Hid ((Tryz.prog.info? 28).map (·.size)=some (bsC (some S)).toList.length):=hQ9 yp
    have SI8:Hid ((Tryz.prog.info? 28).map (·.size)=some (bsC (some S)).size):=hQ9 yp
    have HO8:=hQ9 (zal (some S))
    have zq:=HZQ.out.grew HGY.out
    have HTH:Hid (wy.there q 0 (bsC (some S)).size):=hQ9 (zq.thereN 3 (xr bO))
    have zf:=Ag.set (vs:=(bsC (some S)).toList) zq (by rw [xr,xr])
    have K8:=zn (bsC (some S)).toList q 0 wy
    have HZF:=hQ9 zf
    have HK8:=hQ9 K8
    have HNK:Hid (q≠w.heap.size∧q≠w.heap.size+1∧w.heap.size≤q):=hQ9 (by have:=HQW.out;omega)
    have GF:=hQ9 (zi (o:=0) (b:=q) (bsC (some S)).toList (ze HG.out HGY.out) HNK.out.2.2)
    clear hs2 hsb zq zf K8 gy
    go_wp2_with(first
     | (with_reducible refine zN rfl 28 (.tmp 65) rfl (⟨(ad.add (i*26)).block,(ad.add (i*26)).off+2,none⟩:Addr) rfl (bsC (some S)).toList _ hm9 hut rfl SI9.out ?_;simp only [Array.toArray_toList])
     | (with_reducible refine wpList_store_mid rfl 28 (.tmp 9) (.tmp 66) rfl q 0 (bsC (some S)) rfl rfl HTH.out SI8.out HO8.out ?_))
    go_roundw
    case rel =>
     refine⟨v+1,HVN.out,by go_num,by rw [HYE.out,HN1.out];rfl,by rw [HYE.out,HB1.out];exact HZF.out,?_,?_,GF.out⟩
     ·exact((HZK.out.grew HGY.out)).kp HK8.out (fun e=>HNK.out.1 (by have e':w.heap.size=q:=e;exact e'.symm))
     ·exact((HZZ.out.grew HGY.out)).kp HK8.out (fun e=>HNK.out.2.1 (by have e':w.heap.size+1=q:=e;exact e'.symm))
    case measure=>have:=HVN.out;simp [Go.RowKit.intOf]<;>omega
   ·have e61:decide (bv<S.qv)=false:=decide_eq_false hgt
    have HB1:Hid (bestO (P++[S])=bO):=hQ9 (by rw [zfk HVW.out (by rw [HBO.out,HBV.out];exact hgt),HBO.out])
    clear hgt
    go_upto_region 11 with fail
    refine zh (zc wx) (by kernel_rfl) (by kernel_rfl) ?_
    repeat (go_big_quiet_step (fail))
    refine wpQuiet_nil ?_
    rintro wy ⟨⟨wy',gy⟩,rfl⟩
    have HGY:=hQ9 (ze GX.out gy)
    clear hs2 hsb gy
    go_wp2_with fail
    go_roundw
    case rel=>exact⟨v+1,HVN.out,by go_num,by rw [HYE.out,HN1.out];rfl,by rw [HYE.out,HB1.out];exact HZQ.out.grew HGY.out,HZK.out.grew HGY.out,HZZ.out.grew HGY.out,ze HG.out HGY.out⟩
    case measure=>have:=HVN.out;simp [Go.RowKit.intOf]<;>omega
structure VRowR (B0:Nat) (rv:Value) (M:List VP) (w:World):Prop where
 ok:∀ S∈M,S.ok
 at_:∀ S∈M,S.at w
 ne:SepV rv M
 lo:∀ S∈M,∀ ad,S.A=some ad→S.l=[]∨B0≤ad.block
 row:w.ownsRow B0 75 24 rv M.length (vpL M).flatten
theorem VRowR.nil (B0:Nat) (w:World):VRowR B0 (.slice none 0 0) [] w:=⟨by simp,by simp,fun S hS=>by simp at hS,by simp,World.ownsRow_nil _ _ _ _⟩
theorem VRowR.kp {B0:Nat} {rv:Value} {M:List VP} {w w':World} (h:VRowR B0 rv M w) {P:Nat→Prop} (k:Kp P w w') (h1:∀ g,rv.ownBlock=some g→¬P g) (h2:∀ S∈M,∀ ad,S.A=some ad→S.l=[]∨¬P ad.block):VRowR B0 rv M w' :=
 ⟨h.ok,fun S hS=>y9 (h.at_ S hS) k (h2 S hS),h.ne,h.lo,zx h.row k h1⟩
theorem VRowR.grew {B0:Nat} {rv:Value} {M:List VP} {w w':World} (h:VRowR B0 rv M w) (g:Grew w w'):VRowR B0 rv M w':=h.kp (P:=fun _=>False) (zj g) (fun _ _ h=>h) (fun _ _ _ _=>.inr (fun h=>h))
theorem VRowR.key {B0:Nat} {rv:Value} {M:List VP} {w w':World} (h:VRowR B0 rv M w) {b:Nat} (k:Kp (fun j=>j=b) w w') (hb:b<B0):VRowR B0 rv M w' :=
 h.kp k (fun g e (h1:g=b)=>by have:=(zG h.row g e).1;omega) (fun S hS ad e=>(h.lo S hS ad e).imp id (fun h1 (h2:ad.block=b)=>by omega))
theorem VRowR.lt {B0:Nat} {rv:Value} {M:List VP} {w:World} (h:VRowR B0 rv M w):∀ S∈M,∀ ad,S.A=some ad→S.l=[]∨ad.block<w.heap.size:=fun S hS=>zR (h.at_ S hS)
theorem VRowR.app {B0:Nat} {rv rv':Value} {M:List VP} {w wa w':World} (h:VRowR B0 rv M w) {S:VP} (hS:S.ok) (ha:S.at w) (hl:∀ ad,S.A=some ad→S.l=[]∨B0≤ad.block) (hn:∀ ad,S.A=some ad→∀ g,rv.ownBlock=some g→S.l=[]∨ad.block≠g) (ga:Grew w wa) (hown:w'.ownsRow B0 75 24 rv' (M.length+1) ((vpL M).flatten++S.C.toList)) (hg:wa.grownBy w' rv.ownBlock) (hob:rv'.ownBlock=rv.ownBlock∨rv'.ownBlock=some wa.heap.size):VRowR B0 rv' (M++[S]) w' where
 ok:=fun T hT=>by
  rcases List.mem_append.1 hT with h1 | h1
  ·exact h.ok T h1
  ·obtain rfl:T=S:=by simpa using h1
   exact hS
 at_:=fun T hT=>by
  rcases List.mem_append.1 hT with h1 | h1
  ·exact ya ((h.at_ T h1).gr ga) hg (fun ad e g hg=>h.ne T h1 ad e g hg)
  ·obtain rfl:T=S:=by simpa using h1
   exact ya (ha.gr ga) hg hn
 ne:=fun T hT ad e g hg2=>by
  have hlt:T.l=[]∨ad.block<wa.heap.size:=by
   rcases List.mem_append.1 hT with h1 | h1
   ·exact zR ((h.at_ T h1).gr ga) ad e
   ·obtain rfl:T=S:=by simpa using h1
    exact zR (ha.gr ga) ad e
  rcases hob with h3 | h3
  ·rw [h3]at hg2
   rcases List.mem_append.1 hT with h1 | h1
   ·exact h.ne T h1 ad e g hg2
   ·obtain rfl:T=S:=by simpa using h1
    exact hn ad e g hg2
  ·rw [h3]at hg2
   injection hg2 with hg2
   rcases hlt with h1 | h1
   ·exact .inl h1
   ·exact .inr (by omega)
 lo:=fun T hT=>by
  rcases List.mem_append.1 hT with h1 | h1
  ·exact h.lo T h1
  ·obtain rfl:T=S:=by simpa using h1
   exact hl
 row:=by rw [List.length_append,yK];exact hown
structure OneW (w:World) (B:Nat) (S:VP) (v:Value):Prop where
 out:∃ A c g,v=.slice (some ⟨g,0,none⟩) 1 1∧Ag w g (S.mv A c).C.toList∧(S.mv A c).at w∧B≤g∧(∀ ad,A=some ad→S.l=[]∨B≤ad.block)
theorem OneW.kp {P:Nat→Prop} {w w':World} {B:Nat} {S:VP} {v:Value} (h:OneW w B S v) (k:Kp P w w') (hp:∀ g,P g→g<B):OneW w' B S v:=by
 obtain⟨A,c,g,h1,h2,h3,h4,h5⟩:=h.out
 exact⟨A,c,g,h1,h2.kp k (fun h6=>by have:=hp _ h6;omega),y9 h3 k (fun ad e=>(h5 ad e).imp id (fun h6 h7=>by have:=hp _ h7;omega)),h4,h5⟩
theorem OneW.gr {w w':World} {B:Nat} {S:VP} {v:Value} (h:OneW w B S v) (g:Grew w w'):OneW w' B S v:=h.kp (P:=fun _=>False) (zj g) (fun _ h=>h.elim)
structure AppW (w:World) (base:Nat) (r:Value) (N0:Nat) (P:List VP) (S:VP) (v:Value):Prop where
 out:∃ A c,w.ownsRow base 75 24 v (P.length+1) ((vpL P).flatten++(S.mv A c).C.toList)∧(S.mv A c).at w∧(∀ ad,A=some ad→S.l=[]∨N0≤ad.block)∧(v.ownBlock=r.ownBlock∨∃ g,v.ownBlock=some g∧N0≤g)∧(∀ ad,A=some ad→∀ g,v.ownBlock=some g→S.l=[]∨ad.block≠g)
theorem AppW.gr {w w':World} {base:Nat} {r:Value} {N0:Nat} {P:List VP} {S:VP} {v:Value} (h:AppW w base r N0 P S v) (g:Grew w w'):AppW w' base r N0 P S v:=by
 obtain⟨A,c,h1,h2,h3,h4,h5⟩:=h.out
 exact⟨A,c,zx (S:=fun _=>False) h1 (zj g) (fun _ _ h=>h),h2.gr g,h3,h4,h5⟩
theorem AppW.mk' {w z:World} {base:Nat} {r v:Value} {N0:Nat} {P:List VP} {S:VP} {A:Option Addr} {c:Nat} (hat:(S.mv A c).at w) (hlo:∀ ad,A=some ad→S.l=[]∨N0≤ad.block) (hr:∀ g,r.ownBlock=some g→g<N0) (hN:N0≤w.heap.size) (hown:z.ownsRow base 75 24 v (P.length+1) ((vpL P).flatten++(S.mv A c).C.toList)) (hg:w.grownBy z r.ownBlock) (hob:v.ownBlock=r.ownBlock∨v.ownBlock=some w.heap.size):AppW z base r N0 P S v :=
 ⟨A,c,hown,ya hat hg (fun ad e g h=>(hlo ad e).imp id (fun h1=>by have:=hr g h;omega)),hlo,hob.imp id (fun h=>⟨_,h,hN⟩),fun ad e g h=>by
  rcases hob with h1 | h1
  ·rw [h1]at h
   exact(hlo ad e).imp id (fun h2=>by have:=hr g h;omega)
  ·rw [h1]at h
   injection h with h
   exact(zR hat ad e).imp id (fun h2=>by omega)⟩
theorem VRowR.app2 {B0:Nat} {rv rv':Value} {M:List VP} {w y:World} (h:VRowR B0 rv M w) {S:VP} (hS:S.ok) {N0:Nat} (hN:w.heap.size≤N0) (hB:B0≤w.heap.size) (k:Kp (fun j=>rv.ownBlock=some j) w y) (a:AppW y B0 rv N0 M S rv'):∃ A c,VRowR B0 rv' (M++[S.mv A c]) y:=by
 obtain⟨A,c,h1,h2,h3,h4,h5⟩:=a.out
 refine⟨A,c,?_,?_,?_,?_,by rw [List.length_append,yK];exact h1⟩
 ·intro T hT
  rcases List.mem_append.1 hT with h6 | h6
  ·exact h.ok T h6
  ·obtain rfl:T=S.mv A c:=by simpa using h6
   exact VP.mv_ok hS _ _
 ·intro T hT
  rcases List.mem_append.1 hT with h6 | h6
  ·exact y9 (h.at_ T h6) k (fun ad e=>by
    by_cases h7:rv.ownBlock=some ad.block
    ·rcases h.ne T h6 ad e _ h7 with h8 | h8
     ·exact .inl h8
     ·exact absurd rfl h8
    ·exact .inr h7)
  ·obtain rfl:T=S.mv A c:=by simpa using h6
   exact h2
 ·intro T hT ad e g hg
  rcases List.mem_append.1 hT with h6 | h6
  ·rcases h4 with h7 | ⟨g',h7,h8⟩
   ·rw [h7]at hg;exact h.ne T h6 ad e g hg
   ·rw [h7]at hg
    injection hg with hg
    exact(h.lt T h6 ad e).imp id (fun h9=>by omega)
  ·obtain rfl:T=S.mv A c:=by simpa using h6
   exact h5 ad e g hg
 ·intro T hT ad e
  rcases List.mem_append.1 hT with h6 | h6
  ·exact h.lo T h6 ad e
  ·obtain rfl:T=S.mv A c:=by simpa using h6
   exact(h3 ad e).imp id (fun h7=>by omega)
theorem zjl:(Tryz.prog.info? 75).map (fun i=>(i.zero,i.size,i.bytes))=some (some (.agg (#[.int .i64 0,.int .u64 0,.int .i64 0,.int .i64 0,.int .i64 0,.int .u64 0,.int .u64 0,.int .u64 0,.int .u64 0,.int .u64 0,.int .u64 0,.int .u64 0,.int .u64 0,.int .u64 0,.int .u64 0,.int .u64 0,.int .u64 0,.int .u64 0,.int .u64 0,.int .u64 0,.int .u64 0,.int .u64 0,.int .u64 0,.slice none 0 0]:Array Value)),24,208):=by kernel_rfl
theorem zlh (S:VP) (hS:S.ok) (w:World) (ha:S.at w) :
 Calls Tryz.prog 106 #[.agg S.C] w fun e w'=>∃ A2 c2,e=.returned (.agg (S.mv A2 c2).C)∧(S.mv A2 c2).at w'∧(∀ ad,A2=some ad→w.heap.size≤ad.block)∧Grew w w' :=
 (zku S.vw S.cm S.who S.sw S.lf S.s S.A S.c S.l (by have:=hS.len;omega) w ha).mono fun e w' ⟨A2,c2,h1,h2,h3,h4⟩=>⟨A2,c2,h1,h2,h4,h3⟩
theorem zfl (u:Int) (d:Nat):Tryz.prog.built 28 [(0,.int .i64 u),(1,.int .u64 (d:Nat))]=some (vqC u d none 0 0):=by kernel_rfl
theorem zli (u:Int) (d:Nat) (A:Option Addr) (k:Nat) (L:List VP) (hl:L.length≤100000) (w:World) (hL:VpsG w A L) :
 Calls Tryz.prog 34 #[.agg (vqC u d A L.length k)] w fun e w'=>(∃ B j N,e=.returned (.agg (vqC u d B L.length j))∧MvV L N∧VpsG w' B N)∧Grew w w':=by
 obtain⟨i0,hinf,hz0,hz1,hz2⟩:=info_parts zjl
 have hus:=Tryz.underlying69
 have hur:=Tryz.underlying28
 have HBU:=hQ9 (zfl u d)
 have z1:=(Ag.new w 38 (vqC u d A L.length k)).grew (zg (zc _) (.cells (#[.int .i64 0,.int .u64 0,.slice none 0 0]:Array Value) 28))
 have zt:=Ag.new (w.alloc (.cells (vqC u d A L.length k) 38)) 28 (#[.int .i64 0,.int .u64 0,.slice none 0 0]:Array Value)
 rw [zl]at zt
 have G1:=zg (zg (zc w) (.cells (vqC u d A L.length k) 38)) (.cells (#[.int .i64 0,.int .u64 0,.slice none 0 0]:Array Value) 28)
 have HSZ:Hid (((w.alloc (.cells (vqC u d A L.length k) 38)).alloc (.cells (#[.int .i64 0,.int .u64 0,.slice none 0 0]:Array Value) 28)).heap.size=w.heap.size+2):=hQ9 (by simp)
 have HLA:=hQ9 (hL.gr G1)
 obtain⟨w1,hw1⟩:∃ v,(w.alloc (.cells (vqC u d A L.length k) 38)).alloc (.cells (#[.int .i64 0,.int .u64 0,.slice none 0 0]:Array Value) 28)=v:=⟨_,rfl⟩
 rw [hw1]at z1 zt G1 HSZ HLA
 have c0:w1.cell? ⟨w.heap.size,0,none⟩=some (.int .i64 u):=by simpa using z1.cell 0 _ rfl
 have c1:w1.cell? ⟨w.heap.size,1,none⟩=some (.int .u64 (d:Nat)):=by simpa using z1.cell 1 _ rfl
 obtain⟨gz,hgz⟩:∃ g,vqC u d none 0 0=g:=⟨_,rfl⟩
 have HGZ:=hQ9 hgz
 obtain⟨w2,hw2,ht2,g2,z2⟩:=zW w1 28 (#[.int .i64 0,.int .u64 0,.slice none 0 0]:Array Value) gz (by rw [←hgz];rfl)
 have HW2:=hQ9 hw2
 have HT2:=hQ9 ht2
 have HW1:=hQ9 hw1
 have SIZ:Hid ((Tryz.prog.info? 28).map (·.size)=some gz.size):=hQ9 (by rw [←hgz];exact yp)
 have HOZ:Hid (gz.all (·.oneCell')=true):=hQ9 (by rw [←hgz];exact yo _ _ _ _ _)
 rw [hgz]at HBU
 have HZ1:=hQ9 z1
 have HZT:=hQ9 zt
 have HG2S:=hQ9 g2
 have y2:Ag w2 w1.heap.size [.int .i64 u,.int .u64 (d:Nat),.slice none 0 0]:=by rw [←hgz]at z2;exact z2
 have HLL:=hQ9 hl
 have HG12:=hQ9 G1
 have HL2:=hQ9 HLA.out
 clear hw1 hw2 ht2 hgz z1 zt z2 G1 g2 hL hl HLA
 go_enter Tryz.func34,Tryz.ntmps34
 go_upto_region 1 with fail
 rw [HW1.out]
 clear HW1
 obtain⟨B0,hB0⟩:∃ b,w2.heap.size=b:=⟨_,rfl⟩
 obtain⟨q3,hq3⟩:∃ b,w1.heap.size=b:=⟨_,rfl⟩
 have HQ3:Hid (q3=w.heap.size+2):=hQ9 (by have:=HSZ.out;omega)
 have HQB:Hid (q3<B0):=hQ9 (by have:=y2.lt;omega)
 have HB0E:=hQ9 hB0
 have HQ3E:=hQ9 hq3
 clear hB0 hq3
 go_wp2_with(first
  | (with_reducible refine zC rfl 28 #[(0,.tmp 6),(1,.tmp 8)] rfl gz ?_ ?_;· simpa [Act.eval,Act.put]using HBU.out)
  | (with_reducible refine wpList_store_mid rfl 28 (.tmp 3) (.tmp 9) rfl w1.heap.size 0 gz rfl rfl HT2.out SIZ.out HOZ.out ?_;rw [HW2.out];clear HW2 HT2))
 rw [HQ3E.out]at y2 ⊢
 have HBE:=HB0E
 clear c0 c1
 go_loopw [4] (fun iv wr=>∃(i:Nat) (M:List VP) (A5:Option Addr) (c5:Nat),i≤L.length∧iv=.int .i64 (i:Int)∧MvV (L.take i) M∧VRowR B0 (.slice A5 i c5) M wr∧Ag wr q3 [.int .i64 u,.int .u64 (d:Nat),.slice A5 i c5]∧B0≤wr.heap.size∧Grew w1 wr) (fun iv _=>L.length-(Go.RowKit.intOf iv).toNat)
 case atStart=>exact⟨0,[],none,0,Nat.zero_le _,rfl,by simpa using MvV.nil,VRowR.nil _ _,y2,by rw [HBE.out];exact Nat.le_refl _,HG2S.out⟩
 case round =>
  obtain⟨i,M,A5,c5,hil,rfl,hmv,hvr,hq3,hB,hg2⟩:=hrel
  have hml:M.length=i:=by rw [hmv.len,List.length_take];omega
  have hzr:=HZ1.out.grew hg2
  have hcq:wr.cell? ⟨w.heap.size,2,none⟩=some (.slice A L.length k):=by simpa using hzr.cell 2 _ rfl
  by_cases hlt:i<L.length
  rotate_left
  ·obtain rfl:i=L.length:=by omega
   rw [List.take_length]at hmv
   have HMVF:=hQ9 hmv
   obtain⟨gr,hgr⟩:∃ g,vqC u d A5 L.length c5=g:=⟨_,rfl⟩
   have HGR:=hQ9 hgr
   have z3:Ag wr q3 gr.toList:=by rw [←hgr];exact hq3
   have hm3:=z3.cell
   have SIR:Hid ((Tryz.prog.info? 28).map (·.size)=some gr.size):=hQ9 (by rw [←hgr];exact yp)
   have SIRL:Hid ((Tryz.prog.info? 28).map (·.size)=some gr.toList.length):=hQ9 (by rw [←hgr];exact yp)
   have HOR:Hid (gr.all (·.oneCell')=true):=hQ9 (by rw [←hgr];exact yo _ _ _ _ _)
   have hg3:gr.size=3:=by rw [←hgr];rfl
   have zt:=HZT.out.grew hg2
   have HTH:Hid (wr.there (w.heap.size+1) 0 gr.size):=hQ9 (by rw [hg3];exact zt.thereN 3 rfl)
   have z9:=Ag.set (vs:=gr.toList) zt (by rw [Array.length_toList,hg3];rfl)
   have k9:=zn gr.toList (w.heap.size+1) 0 wr
   obtain⟨A7,c7,e7,hrd,-,-,hbb⟩:=xi hvr.row rfl
   rw [hml]at e7
   have HVG:Hid (VpsG (wr.setCells (w.heap.size+1) 0 gr.toList) A5 M):=hQ9 (by
    have e8:A5=A7:=by injection e7
    rw [e8]
    have hq3':=HQ3.out
    have hqb:=HQB.out
    refine Vps.G ⟨hrd.kp k9 (fun q e (h:q=w.heap.size+1)=>by have:=(hbb _ e).1;have h3:B0≤q:=this;omega),hvr.ok,fun T hT=>y9 (hvr.at_ T hT) k9 (fun ad e=>(hvr.lo T hT ad e).imp id (fun h1 (h2:ad.block=w.heap.size+1)=>by omega))⟩)
   have GF:=zi (o:=0) (b:=w.heap.size+1) gr.toList (ze HG12.out hg2) (by omega)
   have HML:=hQ9 hml
   clear hlt hil hmv hvr hq3 hB hg2 zt z3 k9 hzr hgr hg3 e7 hrd hbb hml
   go_wp2_with(first
    | (with_reducible refine wpList_load_mid rfl 28 (.tmp 3) rfl q3 0 rfl gr.toList _ hm3 hur rfl SIRL.out ?_;simp only [Array.toArray_toList])
    | (with_reducible refine wpList_store_mid rfl 28 (.tmp 2) (.tmp 28) rfl (w.heap.size+1) 0 gr rfl rfl HTH.out SIR.out HOR.out ?_))
   refine bodyPost_ret (zM Tryz.results34 _ _ (w.heap.size+1) _ _ rfl z9 hur rfl SIRL.out) rfl ⟨?_,GF⟩
   have hv9:Ending.returned (.agg gr.toList.toArray)=.returned (.agg (vqC u d A5 L.length c5)):=by rw [HGR.out,Array.toArray_toList]
   exact⟨A5,c5,M,hv9,HMVF.out,HVG.out⟩
  have h1:(i:Int)<(L.length:Int):=by omega
  have h0:(0:Int)≤(i:Int):=by omega
  have hl9:=HLL.out
  have e9i:IntKind.i64.wrap ((i:Int)+1)=((i+1:Nat):Int):=by rw [IntWalk.i64_in _ (by omega)];omega
  have HLW:=hQ9 (HL2.out.gr hg2)
  obtain⟨ad,hA,hql,hr⟩:=HLW.out.rd i hlt
  have hts:L.take (i+1)=L.take i++[L[i]]:=by rw [List.take_succ_eq_append_getElem hlt]
  have HTS:=hQ9 hts
  have HSOK:Hid L[i].ok:=hQ9 (HLW.out.ok _ (List.getElem_mem hlt))
  have hat:=HLW.out.at_ _ (List.getElem_mem hlt)
  have HPB:Hid (∀ ad,L[i].A=some ad→L[i].l=[]∨ad.block<w1.heap.size):=hQ9 (zR (HL2.out.at_ _ (List.getElem_mem hlt)))
  subst hA
  clear hts HLW
  have HLO:=hQ9 (zG hvr.row)
  have HOB:Hid (∀ g,(Value.slice A5 i c5).ownBlock=some g→g<wr.heap.size):=hQ9 (fun g h=>(HLO.out g h).2)
  have HSB:Hid (∀ g,(fun j=>(Value.slice A5 i c5).ownBlock=some j) g→g<wr.heap.size):=hQ9 (fun g h=>(HLO.out g h).2)
  have HADB:Hid (ad.block<w1.heap.size):=hQ9 (by
   obtain⟨ad2,e2,h3,_⟩:=HL2.out.rd i hlt
   cases e2;exact h3)
  generalize L[i]=S at *
  have HMV:=hQ9 hmv
  have HVR:=hQ9 hvr
  have HQZ:=hQ9 hq3
  have HB0:=hQ9 hB
  have HG2:=hQ9 hg2
  have HML:=hQ9 hml
  have HI:Hid (i<L.length):=hQ9 hlt
  have HRW:Hid (wr.ownsRow B0 75 24 (.slice A5 i c5) i (vpL M).flatten):=hQ9 (by have:=hvr.row;rwa [hml]at this)
  have SIS:Hid ((Tryz.prog.info? 69).map (·.size)=some S.C.toList.length):=hQ9 zH
  have HNQ:Hid (∀ b,b<B0→¬(fun j=>(Value.slice A5 i c5).ownBlock=some j) b):=hQ9 (fun b hb h=>by have:=(HLO.out b h).1;omega)
  have HCY:Hid (∀ y,Kp (fun j=>(Value.slice A5 i c5).ownBlock=some j) wr y→y.cell? ⟨q3,2,none⟩=some (.slice A5 i c5)):=hQ9 (fun y k=>by simpa using (HQZ.out.kp k (HNQ.out _ HQB.out)).cell 2 _ rfl)
  have HCQ:Hid (∀ y,Kp (fun j=>(Value.slice A5 i c5).ownBlock=some j) wr y→y.cell? ⟨w.heap.size,2,none⟩=some (.slice (some ad) L.length k)):=hQ9 (fun y k=>(World.cell?_of_block (k.block w.heap.size (yj hcq) (HNQ.out _ (by have:=HQB.out;have:=HQ3.out;omega)))).trans hcq)
  have HRY:Hid (∀ y,Kp (fun j=>(Value.slice A5 i c5).ownBlock=some j) wr y→∀ j v,S.C.toList[j]?=some v→y.cell? ((ad.add (i*24)).add j)=some v):=hQ9 (fun y k j v hj=>(World.cell?_of_block (by rw [zv,zv];exact k.block ad.block hql (HNQ.out _ (by have:=HADB.out;have:=HQ3E.out;have:=HQB.out;omega)))).trans (hr j v hj))
  have CO:Hid (∀ y,Kp (fun j=>(Value.slice A5 i c5).ownBlock=some j) wr y→Calls Tryz.prog 106 #[.agg S.C] y fun e w'=>∃ A2 c2,e=.returned (.agg (S.mv A2 c2).C)∧(S.mv A2 c2).at w'∧(∀ ad,A2=some ad→y.heap.size≤ad.block)∧Grew y w'):=hQ9 (fun y k9=>zlh S HSOK.out y (y9 hat k9 (fun ad2 e2=>(HPB.out ad2 e2).imp id (fun h3=>HNQ.out _ (by have:=HQ3E.out;have:=HQB.out;omega)))))
  clear hmv hvr hq3 hB hg2 hml hlt hil hzr hr hql hat
  go_upto_region 5 with fail
  refine ju 11 9 (fun j=>(Value.slice A5 i c5).ownBlock=some j) (fun ix9=>match ix9 with
   | 0=>fun v _=>v=.pointer (some ⟨q3,2,none⟩)
   | 1=>fun v _=>v=.slice A5 i c5
   | 2=>fun v _=>v=.pointer (some ⟨w.heap.size,2,none⟩)
   | 3=>fun v _=>v=.slice (some ad) L.length k
   | 4=>fun v _=>v=.int .i64 (i:Int)
   | 5=>fun v _=>v=.pointer (some (ad.add (i*24)))
   | 6=>fun v _=>v=.agg S.C
   | 7=>fun _ _=>True
   | 8=>fun _ _=>True
   | 9=>fun v W=>AppW W B0 (.slice A5 i c5) wr.heap.size M S v
   | 10=>fun v _=>v=.pointer (some ⟨q3,2,none⟩)
   | _=>fun _ _=>True) (fun ix9=>match ix9 with
   | 7=>fun lo hi v w=>MkVo w wr.heap.size S lo hi v (fun A c=>.agg (S.mv A c).C)
   | 8=>fun lo hi v w=>OneW w wr.heap.size S v
   | 9=>fun _ _ _ _=>True
   | _=>fun _ _ _ _=>True) (fun ix9=>match ix9 with
   | 8=>7
   | 9=>8
   | ix8=>ix8) (fun ix9=>match ix9 with
   | 8=>7
   | 9=>7
   | ix8=>ix8) (by kernel_rfl) (by kernel_rfl) (by kernel_rfl) ?_ ?_ ?_ ?_ ?_
  ·intro i v x y h hg
   match i,h with
   | 0,h | 1,h | 2,h | 3,h | 4,h | 5,h | 6,h | 10,h=>exact h
   | 7,h=>exact h
   | 8,h=>exact h
   | 9,h=>exact AppW.gr h hg
   | m+11,_=>trivial
  ·intro i v x y hne hx h hg
   match i,h with
   | 0,h | 1,h | 2,h | 3,h | 4,h | 5,h | 6,h | 10,h=>exact h
   | 7,h=>exact h
   | 8,h=>exact h
   | 9,h=>exact absurd rfl hne
   | m+11,_=>trivial
  ·simp only [actOf,tk1,tk0,dr1,dr0,Act.put,si1,st1,st0,Nat.reduceAdd]
   refine⟨?_,?_,?_,?_,?_,?_,?_,?_,?_,?_,?_,trivial⟩
   ·intro vs lo hi y hg hd hvia
    replace hg:Kp (fun j=>(Value.slice A5 i c5).ownBlock=some j) wr y:=hg
    clear hvia
    dsimp only
    go_wp2_with fail
    first | exact⟨rfl,_,rfl,zc _,rfl⟩ | exact⟨rfl,_,rfl,zc _,rfl,trivial⟩
   ·intro vs lo hi y hg hd hvia
    replace hg:Kp (fun j=>(Value.slice A5 i c5).ownBlock=some j) wr y:=hg
    obtain⟨h0,_⟩:=hd
    replace h0:=h0 rfl
    clear hvia
    dsimp only
    rw [show vs 0=_ from h0]
    have hc:=HCY.out y hg
    go_wp2_with fail
    first | exact⟨rfl,_,rfl,zc _,rfl⟩ | exact⟨rfl,_,rfl,zc _,rfl,trivial⟩
   ·intro vs lo hi y hg hd hvia
    replace hg:Kp (fun j=>(Value.slice A5 i c5).ownBlock=some j) wr y:=hg
    clear hvia
    dsimp only
    go_wp2_with fail
    first | exact⟨rfl,_,rfl,zc _,rfl⟩ | exact⟨rfl,_,rfl,zc _,rfl,trivial⟩
   ·intro vs lo hi y hg hd hvia
    replace hg:Kp (fun j=>(Value.slice A5 i c5).ownBlock=some j) wr y:=hg
    obtain⟨h2,_⟩:=hd
    replace h2:=h2 rfl
    clear hvia
    dsimp only
    rw [show vs 2=_ from h2]
    have hc:=HCQ.out y hg
    go_wp2_with fail
    first | exact⟨rfl,_,rfl,zc _,rfl⟩ | exact⟨rfl,_,rfl,zc _,rfl,trivial⟩
   ·intro vs lo hi y hg hd hvia
    replace hg:Kp (fun j=>(Value.slice A5 i c5).ownBlock=some j) wr y:=hg
    clear hvia
    dsimp only
    go_wp2_with fail
    first | exact⟨rfl,_,rfl,zc _,rfl⟩ | exact⟨rfl,_,rfl,zc _,rfl,trivial⟩
   ·intro vs lo hi y hg hd hvia
    replace hg:Kp (fun j=>(Value.slice A5 i c5).ownBlock=some j) wr y:=hg
    obtain⟨h3,h4,_⟩:=hd
    replace h3:=h3 rfl
    replace h4:=h4 rfl
    clear hvia
    dsimp only
    rw [show vs 3=_ from h3,show vs 4=_ from h4]
    go_wp2_with fail
    first | exact⟨rfl,_,rfl,zc _,rfl⟩ | exact⟨rfl,_,rfl,zc _,rfl,trivial⟩
   ·intro vs lo hi y hg hd hvia
    replace hg:Kp (fun j=>(Value.slice A5 i c5).ownBlock=some j) wr y:=hg
    obtain⟨h5,_⟩:=hd
    replace h5:=h5 rfl
    clear hvia
    dsimp only
    rw [show vs 5=_ from h5]
    have hm:=HRY.out y hg
    go_wp2_with(with_reducible refine zN rfl 69 (.tmp 22) rfl (ad.add (i*24)) rfl S.C.toList _ hm hus rfl SIS.out ?_;simp only [Array.toArray_toList])
    first | exact⟨rfl,_,rfl,zc _,rfl⟩ | exact⟨rfl,_,rfl,zc _,rfl,trivial⟩
   ·intro vs lo hi y hg hd hvia
    replace hg:Kp (fun j=>(Value.slice A5 i c5).ownBlock=some j) wr y:=hg
    obtain⟨h6,_⟩:=hd
    replace h6:=h6 rfl
    clear hvia
    dsimp only
    rw [show vs 6=_ from h6]
    go_wp2_with(go_at_call 106;refine(CO.out y hg).mono ?_;rintro e z ⟨A9,c9,rfl,hat9,hfr9,gz9⟩)
    exact⟨rfl,_,rfl,gz9,trivial,⟨A9,c9,rfl,hat9,hg.size,fun ad h=>(zR hat9 ad h).imp id (fun h2=>⟨hfr9 ad h,h2⟩)⟩⟩
   ·intro vs lo hi y hg hd hvia
    replace hg:Kp (fun j=>(Value.slice A5 i c5).ownBlock=some j) wr y:=hg
    obtain⟨h7,_⟩:=hd
    replace h7:=h7 rfl
    have hv9:(fun lo hi v w=>MkVo w wr.heap.size S lo hi v (fun A c=>.agg (S.mv A c).C)) (lo 7) (hi 7) (vs 7) y:=hvia rfl
    clear hvia
    dsimp only
    obtain⟨A9,c9,e9,hat9,hB9,hr9⟩:=MkVo.out hv9
    rw [e9]
    have hgs24:(S.mv A9 c9).C.size=24:=rfl
    go_wp2_with fail
    rw [xp]
    exact⟨rfl,_,rfl,zg (zc _) _,⟨A9,c9,y.heap.size,rfl,Ag.new y 75 (S.mv A9 c9).C,hat9.gr (zg (zc _) _),hg.size,fun ad h=>(hr9 ad h).imp id (fun h2=>by omega)⟩⟩
   ·intro vs lo hi y hg hd hvia
    replace hg:Grew wr y:=hg
    obtain⟨h1,h8,_⟩:=hd
    replace h1:=h1 rfl
    replace h8:=h8 rfl
    have hv9:(fun lo hi v w=>OneW w wr.heap.size S v) (lo 8) (hi 8) (vs 8) y:=hvia rfl
    clear hvia
    dsimp only
    rw [show vs 1=_ from h1]
    obtain⟨A9,c9,g9,e9,hz9,hat9,hb9,hr9⟩:=OneW.out hv9
    rw [e9]
    have hry:=HRW.out
    have hpl9:=HI.out
    have hll9:=HLL.out
    have hgs9:=hg.size
    have hb09:=HB0.out
    have hcl9:(S.mv A9 c9).C.toList.length=1*24:=rfl
    refine zK _ rfl (.tmp 18) (.tmp 25) 26 rfl B0 75 i0 (.agg (#[.int .i64 0,.int .u64 0,.int .i64 0,.int .i64 0,.int .i64 0,.int .u64 0,.int .u64 0,.int .u64 0,.int .u64 0,.int .u64 0,.int .u64 0,.int .u64 0,.int .u64 0,.int .u64 0,.int .u64 0,.int .u64 0,.int .u64 0,.int .u64 0,.int .u64 0,.int .u64 0,.int .u64 0,.int .u64 0,.int .u64 0,.slice none 0 0]:Array Value)) 24 208 Tryz.underlying26 hinf hz0 hz1 hz2 rfl (by decide) _ _ _ rfl (zx (S:=fun _=>False) hry (zj hg) (fun g _ h=>h)) ⟨g9,0,none⟩ 1 1 (S.mv A9 c9).C.toList rfl hcl9 (fun j u hj=>by rw [add0];simpa using hz9.cell j u hj) (S.mv A9 c9).one' (by unfold maxLen;omega) (by omega) (by omega) ?_
    intro va z hva hga hoa
    go_wp2_with fail
    have hap:AppW z B0 (.slice A5 i c5) wr.heap.size M S va:=AppW.mk' hat9 hr9 HOB.out hg.size (by rw [HML.out];exact hva) hga hoa
    first | exact⟨rfl,_,rfl,yD (zJ _ y) hga (fun g e=>.inl e),hap,trivial⟩ | exact⟨rfl,_,rfl,yD (zJ _ y) hga (fun g e=>.inl e),hap⟩
   ·intro vs lo hi y hg hd hvia
    replace hg:Kp (fun j=>(Value.slice A5 i c5).ownBlock=some j) wr y:=hg
    clear hvia
    dsimp only
    go_wp2_with fail
    first | exact⟨rfl,_,rfl,zc _,rfl⟩ | exact⟨rfl,_,rfl,zc _,rfl,trivial⟩
  ·intro i lo hi v x y hx h hg
   match i,h with
   | 7,h=>exact MkVo.kp h hg HSB.out
   | 8,h=>exact OneW.kp h hg HSB.out
   | 9,_=>trivial
   | 0,_=>trivial
   | 1,_=>trivial
   | 2,_=>trivial
   | 3,_=>trivial
   | 4,_=>trivial
   | 5,_=>trivial
   | 6,_=>trivial
   | m+10,_=>trivial
  ·intro vs lo hi w5 hg hJ hK hB hD
   replace hg:Kp (fun j=>(Value.slice A5 i c5).ownBlock=some j) wr w5:=hg
   have k24:=hK 7 (by decide)
   have b24:=hB 7 (by decide)
   have k25:=hK 8 (by decide)
   have b25:=hB 8 (by decide)
   have k26:=hK 9 (by decide)
   have b26:=hB 9 (by decide)
   clear hK hB hD
   have j0:vs 0=.pointer (some ⟨q3,2,none⟩):=hJ 0 (by decide)
   have j1:vs 1=.slice A5 i c5:=hJ 1 (by decide)
   have j2:vs 2=.pointer (some ⟨w.heap.size,2,none⟩):=hJ 2 (by decide)
   have j3:vs 3=.slice (some ad) L.length k:=hJ 3 (by decide)
   have j4:vs 4=.int .i64 (i:Int):=hJ 4 (by decide)
   have j5:vs 5=.pointer (some (ad.add (i*24))):=hJ 5 (by decide)
   have j6:vs 6=.agg S.C:=hJ 6 (by decide)
   have j10:vs 10=.pointer (some ⟨q3,2,none⟩):=hJ 10 (by decide)
   have s24:=hJ 7 (by decide)
   have s25:=hJ 8 (by decide)
   have s26:=hJ 9 (by decide)
   clear hJ
   simp only [actOf,tk1,tk0,dr1,dr0,Act.put,si1,st1,st0,Nat.reduceAdd]
   obtain⟨A9,c9,hvr9⟩:=VRowR.app2 HVR.out HSOK.out (Nat.le_refl _) HB0.out hg s26
   obtain⟨A6,c6,e6,-,-,-,-⟩:=xi hvr9.row rfl
   have hl1:(M++[S.mv A9 c9]).length=i+1:=by rw [List.length_append,HML.out];rfl
   rw [hl1]at e6
   rw [e6]at hvr9
   rw [show vs 10=_ from j10,e6]
   have hzq:=HQZ.out.kp hg (HNQ.out _ HQB.out)
   have hc7:w5.cell? ⟨q3,2,none⟩=some (.slice A5 i c5):=by simpa using hzq.cell 2 _ rfl
   have fc7:w5.frozen? ⟨q3,2,none⟩=false:=by simpa using (hzq.there 2 (by show 2<3;decide)).2
   have K8:=yP (S:=fun j=>j=q3) (zJ _ w5) (p:=⟨q3,2,none⟩) (.inl rfl) (.slice A6 (i+1) c6)
   have HZQ7:=hQ9 (Ag.set1 hzq 2 (.slice A6 (i+1) c6) (by show 2<3;decide))
   have HVR9:=hQ9 hvr9
   have HK8:=hQ9 K8
   have HKG:=hQ9 hg
   have HMV9:Hid (MvV (L.take (i+1)) (M++[S.mv A9 c9])):=hQ9 (by rw [HTS.out];exact HMV.out.snoc S A9 c9)
   clear hvr9 hzq K8 hg s24 s25 s26 k24 k25 k26 b24 b25 b26 j0 j1 j2 j3 j4 j5 j6 j10 e6 hl1
   go_wp2_with fail
   go_roundw
   case rel =>
    refine⟨i+1,M++[S.mv A9 c9],A6,c6,HI.out,by go_num,HMV9.out,?_,HZQ7.out,?_,?_⟩
    ·exact HVR9.out.kp HK8.out (fun g e h=>by have h1:g=q3:=h;have:=(zG HVR9.out.row g e).1;have:=HQB.out;omega) (fun T hT ad e=>(HVR9.out.lo T hT ad e).imp id (fun h2 (h3:ad.block=q3)=>by have:=HQB.out;omega))
    ·have:=HKG.out.size;have:=HK8.out.size;have:=HB0.out;omega
    ·have g5:=zO HG2.out HKG.out HG2.out.size (fun g h=>by have:=(HLO.out g h).1;have:=HQ3E.out;have:=HQB.out;omega)
     exact zO g5 HK8.out g5.size (fun g e=>by have e1:g=q3:=e;have:=HQ3E.out;omega)
   case measure=>have:=HI.out;simp [Go.RowKit.intOf]<;>omega
structure AppV (w:World) (base:Nat) (r:Value) (N0 n:Nat) (xs:List Value) (v:Value):Prop where
 own:w.ownsRow base 75 24 v n xs
 blk:v.ownBlock=r.ownBlock∨∃ g,v.ownBlock=some g∧N0≤g
theorem AppV.gr {w w':World} {base:Nat} {r:Value} {N0 n:Nat} {xs:List Value} {v:Value} (h:AppV w base r N0 n xs v) (g:Grew w w'):AppV w' base r N0 n xs v:=⟨zx (S:=fun _=>False) h.own (zj g) (fun _ _ h=>h),h.blk⟩
theorem MvV.symm {L M:List VP} (h:MvV L M):MvV M L:=⟨h.len.symm,fun k h1 h2=>by
 obtain⟨A,c,e⟩:=h.each k h2 h1
 exact⟨L[k].A,L[k].c,by rw [e];rfl⟩⟩
theorem za8 {L M N:List VP} (h1:MvV L M) (h2:MvV M N):MvV L N:=⟨by rw [h2.len,h1.len],fun k a b=>by
 obtain⟨A,c,e⟩:=h1.each k a (by rw [h1.len];exact a)
 obtain⟨A',c',e'⟩:=h2.each k (by rw [h1.len];exact a) b
 exact⟨A',c',by rw [e',e];rfl⟩⟩
theorem zjm (w:World):Vps w none []:=⟨fun k hk=>by simp [vpL]at hk,by simp,by simp⟩
theorem zhj {K K':KP} (hf:K'.f=K.f) (hR:K'.R=K.R) (hh:K'.h=K.h) (u:Int) (d:Nat):∀(L:List VP) (p:Option Int),chqV K' u d p L=chqV K u d p L
 | [],_=>by rw [chqV,chqV]
 | S::r,p=>by
  rw [chqV,chqV,zhj hf hR hh u d r,show vdV K' u d S=vdV K u d S from by unfold vdV vvS;rw [hf,hR,hh]]
theorem cqV_K {K K':KP} (hf:K'.f=K.f) (hR:K'.R=K.R) (hh:K'.h=K.h) (u:Int) (d:Nat) (L:List VP):cqV K' u d L=cqV K u d L:=by
 unfold cqV
 rw [hf,zhj hf hR hh]
theorem vqE_K {K K':KP} (hf:K'.f=K.f) (hR:K'.R=K.R) (hh:K'.h=K.h) (u:Int) (d:Nat) (L:List VP):vqE K' u d L=vqE K u d L:=by
 unfold vqE
 rw [cqV_K hf hR hh]
structure ToV (S:VP) (W:World) (v:Value):Prop where
 out:∃ A c,v=.agg (S.mv A c).C∧(S.mv A c).at W
theorem ToV.gr {S:VP} {w w':World} {v:Value} (h:ToV S w v) (g:Grew w w'):ToV S w' v:=by
 obtain⟨A,c,h1,h2⟩:=h.out
 exact⟨A,c,h1,h2.gr g⟩
structure OfQ (L:List VP) (W:World) (v:Value) (f:Option Addr→Nat→Value):Prop where
 out:∃ B k M,v=f B k∧MvV L M∧Vps W B M
theorem OfQ.gr {L:List VP} {w w':World} {v:Value} {f:Option Addr→Nat→Value} (h:OfQ L w v f) (g:Grew w w'):OfQ L w' v f:=by
 obtain⟨B,k,M,h1,h2,h3⟩:=h.out
 exact⟨B,k,M,h1,h2,h3.gr g⟩
structure OfQG (L:List VP) (W:World) (v:Value) (f:Option Addr→Nat→Value):Prop where
 out:∃ B k M,v=f B k∧MvV L M∧VpsG W B M
theorem OfQG.gr {L:List VP} {w w':World} {v:Value} {f:Option Addr→Nat→Value} (h:OfQG L w v f) (g:Grew w w'):OfQG L w' v f:=by
 obtain⟨B,k,M,h1,h2,h3⟩:=h.out
 exact⟨B,k,M,h1,h2,h3.gr g⟩
structure VgS (w:World) (B:Nat) (L:List VP) (lo hi:Nat) (v:Value) (f:Option Addr→Nat→Value):Prop where
 out:∃ A c M,v=f A c∧MvV L M∧Vps w A M∧B≤lo∧(∀ ad,A=some ad→lo≤ad.block∧ad.block<hi)∧(∀ S∈M,∀ ad,S.A=some ad→S.l=[]∨(lo≤ad.block∧ad.block<hi))
theorem VgS.gr {w w':World} {B:Nat} {L:List VP} {lo hi:Nat} {v:Value} {f:Option Addr→Nat→Value} (h:VgS w B L lo hi v f) (k:Grew w w'):VgS w' B L lo hi v f:=by
 obtain⟨A,c,M,h1,h2,h3,h4⟩:=h.out
 exact⟨A,c,M,h1,h2,h3.gr k,h4⟩
structure VgF (w0:World) (mu:Int) (md:Nat) (L:List VP) (v:Value) (W:World):Prop where
 out:∃ B j N q,v=.pointer (some ⟨q,0,none⟩)∧Ag W q (vqC mu md B L.length j).toList∧MvV L N∧Vps W B N∧w0.heap.size≤q∧Grew w0 W
theorem VgF.gr {w0:World} {mu:Int} {md:Nat} {L:List VP} {v:Value} {x y:World} (h:VgF w0 mu md L v x) (g:Grew x y):VgF w0 mu md L v y:=by
 obtain⟨B,j,N,q,h1,h2,h3,h4,h5,h6⟩:=h.out
 exact⟨B,j,N,q,h1,h2.grew g,h3,h4.gr g,h5,ze h6 g⟩
theorem RaV.some {w:World} {A:Option Addr} {L:List VP} (h:RaV w A L) (i:Nat) (hi:i<L.length):∃ ad,A=some ad:=by
 obtain⟨ad,e,-⟩:=h i hi
 exact⟨ad,e⟩
theorem zd8 {w:World} {A:Option Addr} {L:List VP} (h:fewV L=true) (hrd:RaV w A L) (hok:∀ S∈L,S.l.length≤1000→S.ok) (hat:∀ S∈L,S.at w):VpsG w A L∧L.length≤10:=by
 unfold fewV at h
 rw [Bool.and_eq_true,decide_eq_true_eq,List.all_eq_true]at h
 exact⟨⟨hrd,fun S hS=>hok S hS (by have:=of_decide_eq_true (h.2 S hS);omega),hat⟩,h.1⟩
open Go.ChangeShapes Go.WideShapes Go.Deep
instance:Inhabited NW:=⟨⟨0,0,0,none,[],0,0,0,0,fun _=>0,none,0,[]⟩⟩
structure NW.raw (S:NW) (W:World):Prop where
 ok:S.l.length≤1000→S.H.length≤100000→S.ok
 p:Rd W W.heap.size S.A (u64L S.l)
 rd:RaV W S.QA S.H
 vok:∀ T∈S.H,T.l.length≤1000→T.ok
 vat:∀ T∈S.H,T.at W
theorem NW.raw.gr {S:NW} {w w':World} (h:S.raw w) (g:Grew w w'):S.raw w':=⟨h.ok,Rd.gr h.p g,h.rd.gr g,h.vok,fun T hT=>(h.vat T hT).gr g⟩
theorem NW.raw.few {S:NW} {w:World} (h:S.raw w) (hf:fewN S=true):S.ok∧S.atg w:=by
 unfold fewN at hf
 simp only [Bool.and_eq_true,decide_eq_true_eq]at hf
 have h1:=zd8 hf.1 h.rd h.vok h.vat
 exact⟨h.ok (by omega) (by have:=h1.2;omega),h.p,h1.1⟩
section
variable {H : Type} {enc : TypeId × Value → H} {W : World}
theorem zjn {n:Nat} {cs:List Value} {x:DataW H × List MemPlace} (h:DataW.trod enc Tryz.prog W 0 (fun _=>true) true n 26 cs=some x) :
 ∃(A:Option Addr) (c:Nat) (L:List VP),cs=[.slice A L.length c]∧L.length≤c∧c≤maxLen∧RaV W A L∧(∀ S∈L,S.l.length≤1000→S.ok)∧∀ S∈L,S.at W:=by
 have hC:Tryz.prog.cellsOf 75=24:=by kernel_rfl
 rcases Deep.open_slice Tryz.underlying26 h with ⟨rfl,_⟩ | ⟨a,l,c,m,n,D,Pl,rfl,hb,hl,hm,hmm,hx,hV⟩
 ·exact⟨none,0,[],rfl,Nat.zero_le _,Nat.zero_le _,fun k hk=>absurd hk (by simp),by simp,by simp⟩
 ·have hlm:l≤m:=by rw [hmm];split<;>omega
  have key:∀ i,i<l→∃ S:VP,(∀ j v,S.C.toList[j]?=some v→W.cell? ((a.add (i*24)).add j)=some v)∧(S.l.length≤1000→S.ok)∧S.at W:=by
   intro i hi'
   obtain⟨cs',hc,ht'⟩:=hV i (by omega)
   rw [hC]at hc
   obtain⟨_,hcl,hat⟩:=World.cells?_some hc
   obtain⟨S,rfl,w1,w2⟩:=zk4 ht'
   refine⟨S,fun j v hv=>?_,w1,w2⟩
   have hj:j<24:=(List.getElem?_eq_some_iff.1 hv).1
   have:=hat j (by omega)
   rw [hv]at this
   exact this
  obtain⟨L,hL⟩:=choose_lt (α:=VP) (p:=fun i S=>(∀ j v,S.C.toList[j]?=some v→W.cell? ((a.add (i*24)).add j)=some v)∧(S.l.length≤1000→S.ok)∧S.at W) key
  refine⟨some a,c,(List.range l).map L,by simp,by simpa using hl,hm,?_,?_,?_⟩
  ·intro k hk
   have hk':k<l:=by simpa using hk
   obtain⟨h5,_⟩:=hL k hk'
   refine⟨a,rfl,?_,fun j v hv=>h5 j v (by simpa using hv)⟩
   rcases Nat.lt_or_ge a.block W.heap.size with h' | h'
   ·exact h'
   ·have:W.heap[((a.add (k*24)).add 0).block]?=none:=by rw [zv,zv];exact Array.getElem?_eq_none h'
    have h6:=h5 0 _ rfl
    simp only [World.cell?,this]at h6
    cases h6
  ·intro S hS
   obtain⟨i,hi',rfl⟩:=List.mem_map.1 hS
   exact(hL i (by simpa using hi')).2.1
  ·intro S hS
   obtain⟨i,hi',rfl⟩:=List.mem_map.1 hS
   exact(hL i (by simpa using hi')).2.2
theorem zjo {n:Nat} {cs:List Value} {x:DataW H × List MemPlace} (h:DataW.trod enc Tryz.prog W 0 (fun _=>true) true n 28 cs=some x) :
 ∃(qv:Int) (qd:Nat) (A:Option Addr) (c:Nat) (L:List VP),cs=[.int .i64 qv,.int .u64 (qd:Nat),.slice A L.length c]∧in64 qv∧qd<18446744073709551616∧RaV W A L∧(∀ S∈L,S.l.length≤1000→S.ok)∧∀ S∈L,S.at W:=by
 obtain⟨xs,m,_,_,hl,hlen,hh⟩:=DataW.trod_struct Tryz.underlying28 h
 rw [show Tryz.prog.cellsOf 28=3 by kernel_rfl]at hl
 have ci:Tryz.prog.cellsOf 3=1:=by kernel_rfl
 have cu:Tryz.prog.cellsOf 25=1:=by kernel_rfl
 have cv:Tryz.prog.cellsOf 26=1:=by kernel_rfl
 obtain⟨y0,y1,y2,rfl⟩:∃ a b c,xs=[a,b,c]:=by
  match xs,(show xs.length=3 from hlen)with
  | [a,b,c],_=>exact⟨a,b,c,rfl⟩
 have h0:DataW.trod enc Tryz.prog W 0 (fun _=>true) true m 3 ((cs.drop 0).take (Tryz.prog.cellsOf 3))=_:=hh 0 _ rfl
 have h1:DataW.trod enc Tryz.prog W 0 (fun _=>true) true m 25 ((cs.drop 1).take (Tryz.prog.cellsOf 25))=_:=hh 1 _ rfl
 have h2:DataW.trod enc Tryz.prog W 0 (fun _=>true) true m 26 ((cs.drop 2).take (Tryz.prog.cellsOf 26))=_:=hh 2 _ rfl
 simp only [ci,cu,cv,List.getElem?_cons_zero,List.getElem?_cons_succ]at h0 h1 h2
 obtain⟨vw,e0,_,i0⟩:=DataW.trod_int Tryz.underlying3 h0
 obtain⟨z,e1,_,i1⟩:=DataW.trod_int Tryz.underlying25 h1
 obtain⟨A,c,L,e2,_,_,hr,ho,ha⟩:=zjn h2
 obtain⟨cm,rfl,hcm⟩:=jq i1
 refine⟨vw,cm,A,c,L,?_,wf_i64 i0,hcm,hr,ho,ha⟩
 have k0:=yh cs 0 1
 have k1:=yh cs 1 1
 have k2:=yh cs 2 1
 rw [e0]at k0
 rw [e1]at k1
 rw [e2,show cs.drop (2+1)=[] from List.drop_eq_nil_of_le (by omega)]at k2
 rw [show 1+1=2 from rfl,k2]at k1
 rw [show 0+1=1 from rfl,k1]at k0
 rw [List.drop_zero]at k0
 rw [k0]
 rfl
theorem zjp {n:Nat} {cs:List Value} {x:DataW H × List MemPlace} (h:DataW.trod enc Tryz.prog W 0 (fun _=>true) true n 109 cs=some x) :
 ∃ S:NW,cs=S.C.toList∧S.raw W:=by
 obtain⟨xs,m,_,_,hl,hlen,hh⟩:=DataW.trod_struct Tryz.underlying109 h
 rw [show Tryz.prog.cellsOf 109=26 by kernel_rfl]at hl
 have ci:Tryz.prog.cellsOf 3=1:=by kernel_rfl
 have cq:Tryz.prog.cellsOf 28=3:=by kernel_rfl
 have cg:Tryz.prog.cellsOf 73=21:=by kernel_rfl
 obtain⟨y0,y1,y2,y3,rfl⟩:∃ a b c d,xs=[a,b,c,d]:=by
  match xs,(show xs.length=4 from hlen)with
  | [a,b,c,d],_=>exact⟨a,b,c,d,rfl⟩
 have h0:DataW.trod enc Tryz.prog W 0 (fun _=>true) true m 3 ((cs.drop 0).take (Tryz.prog.cellsOf 3))=_:=hh 0 _ rfl
 have h1:DataW.trod enc Tryz.prog W 0 (fun _=>true) true m 3 ((cs.drop 1).take (Tryz.prog.cellsOf 3))=_:=hh 1 _ rfl
 have h2:DataW.trod enc Tryz.prog W 0 (fun _=>true) true m 28 ((cs.drop 2).take (Tryz.prog.cellsOf 28))=_:=hh 2 _ rfl
 have h3:DataW.trod enc Tryz.prog W 0 (fun _=>true) true m 73 ((cs.drop 5).take (Tryz.prog.cellsOf 73))=_:=hh 3 _ rfl
 simp only [ci,cq,cg,List.getElem?_cons_zero,List.getElem?_cons_succ]at h0 h1 h2 h3
 obtain⟨vw,e0,_,i0⟩:=DataW.trod_int Tryz.underlying3 h0
 obtain⟨wh,e1,_,i1⟩:=DataW.trod_int Tryz.underlying3 h1
 obtain⟨qv,qd,QA,Qk,L,e2,iq,hqd,hrv,hov,hav⟩:=zjo h2
 obtain⟨who,lf,s,A,c,l,e3,w1,w2,hs,hc,hm,hr,hz⟩:=zb9 h3
 refine⟨⟨vw,qv,qd,QA,L,Qk,wh,who,lf,s,A,c,l⟩,?_,⟨fun h1 h2=>⟨wf_i64 i0,iq,hqd,h2,wf_i64 i1,w1,w2,hs,h1,hz⟩,hr,hrv,hov,hav⟩⟩
 have k0:=yh cs 0 1
 have k1:=yh cs 1 1
 have k2:=yh cs 2 3
 have k3:=yh cs 5 21
 rw [e0]at k0
 rw [e1]at k1
 rw [e2]at k2
 rw [e3,show cs.drop (5+21)=[] from List.drop_eq_nil_of_le (by omega)]at k3
 rw [show 2+3=5 from rfl,k3]at k2
 rw [show 1+1=2 from rfl,k2]at k1
 rw [show 0+1=1 from rfl,k1]at k0
 rw [List.drop_zero]at k0
 rw [k0]
 rfl
theorem zjq {r:Reach} {b0:Nat} {v:Value} {d:DataW H} {ps:List MemPlace} (hval:Value.okWide Tryz.prog W r b0 106 v) (h:DataW.Trod enc Tryz.prog W 0 (fun _=>true) true 106 v d ps) :
 ∃(A:Option Addr) (c:Nat) (L:List NW),v=.slice A L.length c∧L.length≤c∧c≤maxLen∧RaN W A L∧∀ S∈L,S.raw W:=by
 obtain⟨A,l,c,rfl⟩:=okWide_slice Tryz.underlying106 hval
 have hC:Tryz.prog.cellsOf 109=26:=by kernel_rfl
 obtain⟨fuel,hf⟩:=h
 rw [show(Value.slice A l c).cells.toList=[Value.slice A l c] from rfl]at hf
 rcases Deep.open_slice Tryz.underlying106 hf with ⟨h1,_⟩ | ⟨a,len,cap,m,n,D,Pl,h1,hb,hl,hm,hmm,hx,hV⟩
 ·injection h1 with h1
  injection h1 with h1 h2 h3
  subst h1 h2 h3
  exact⟨none,0,[],rfl,Nat.zero_le _,Nat.zero_le _,fun k hk=>absurd hk (by simp),by simp⟩
 ·injection h1 with h1
  injection h1 with h1 h3 h4
  subst h1 h3 h4
  have hlm:l≤m:=by rw [hmm];split<;>omega
  have key:∀ i,i<l→∃ S:NW,(∀ j v,S.C.toList[j]?=some v→W.cell? ((a.add (i*26)).add j)=some v)∧S.raw W:=by
   intro i hi'
   obtain⟨cs',hc,ht'⟩:=hV i (by omega)
   rw [hC]at hc
   obtain⟨_,hcl,hat⟩:=World.cells?_some hc
   obtain⟨S,rfl,w1⟩:=zjp ht'
   refine⟨S,fun j v hv=>?_,w1⟩
   have hj:j<26:=(List.getElem?_eq_some_iff.1 hv).1
   have:=hat j (by omega)
   rw [hv]at this
   exact this
  obtain⟨L,hL⟩:=choose_lt (α:=NW) (p:=fun i S=>(∀ j v,S.C.toList[j]?=some v→W.cell? ((a.add (i*26)).add j)=some v)∧S.raw W) key
  refine⟨some a,c,(List.range l).map L,by simp,by simpa using hl,hm,?_,?_⟩
  ·intro k hk
   have hk':k<l:=by simpa using hk
   obtain⟨h5,_⟩:=hL k hk'
   refine⟨a,rfl,?_,fun j v hv=>h5 j v (by simpa using hv)⟩
   rcases Nat.lt_or_ge a.block W.heap.size with h' | h'
   ·exact h'
   ·have:W.heap[((a.add (k*26)).add 0).block]?=none:=by rw [zv,zv];exact Array.getElem?_eq_none h'
    have h6:=h5 0 _ rfl
    simp only [World.cell?,this]at h6
    cases h6
  ·intro S hS
   obtain⟨i,hi',rfl⟩:=List.mem_map.1 hS
   exact(hL i (by simpa using hi')).2
end
end Go.Proofs.YtidjnnnigcmdpaaGreatDoor
namespace Go.Proofs.YtidjnnnigcmdpaaGreatDoor
open Go.RowKit
theorem MvN.cons {L M:List NW} (h:MvN L M) {S T:NW} (hs:NwMv S T):MvN (S::L) (T::M):=⟨by simp [h.len],fun k h1 h2=>by
 cases k with
 | zero=>exact hs
 | succ k=>exact h.each k (by simpa using h1) (by simpa using h2)⟩
theorem MvN.uncons {L M:List NW} {S T:NW} (h:MvN (S::L) (T::M)):NwMv S T∧MvN L M :=
 ⟨h.each 0 (by simp) (by simp),by have:=h.len;simpa using this,fun k h1 h2=>h.each (k+1) (by simpa using h1) (by simpa using h2)⟩
theorem kE (p:NW→Bool) (hp:∀ S T,NwMv S T→p T=p S):∀ {L M:List NW},MvN L M→MvN (L.filter p) (M.filter p)
 | [],[],_=>MvN.nil
 | [],T::M,h=>absurd h.len (by simp)
 | S::L,[],h=>absurd h.len (by simp)
 | S::L,T::M,h=>by
  obtain⟨h1,h2⟩:=h.uncons
  have e:=hp S T h1
  by_cases hs:p S=true
  ·rw [List.filter_cons_of_pos hs,List.filter_cons_of_pos (e.trans hs)]
   exact(kE p hp h2).cons h1
  ·rw [List.filter_cons_of_neg hs,List.filter_cons_of_neg (by rw [e];exact hs)]
   exact kE p hp h2
theorem zcn (p:NW→Bool) (hp:∀ S T,NwMv S T→p T=p S):∀ {L M:List NW},MvN L M→(L.find? p=none∧M.find? p=none)∨∃ S T,L.find? p=some S∧M.find? p=some T∧NwMv S T
 | [],[],_=>.inl ⟨rfl,rfl⟩
 | [],T::M,h=>absurd h.len (by simp)
 | S::L,[],h=>absurd h.len (by simp)
 | S::L,T::M,h=>by
  obtain⟨h1,h2⟩:=h.uncons
  have e:=hp S T h1
  by_cases hs:p S=true
  ·exact .inr ⟨S,T,List.find?_cons_of_pos hs,List.find?_cons_of_pos (e.trans hs),h1⟩
  ·rw [List.find?_cons_of_neg hs,List.find?_cons_of_neg (by rw [e];exact hs)]
   exact zcn p hp h2
theorem qo {L M:List NW} (h:MvN L M):∀ N,MvN (upTo NW.who L N) (upTo NW.who M N)
 | 0=>by simpa [upTo]using MvN.nil
 | N+1=>by
  rw [xv,xv]
  rcases zcn (fun x=>decide (x.who=(N:Int))) (fun S T hst=>by rw [hst.who.1]) h with ⟨h1,h2⟩ | ⟨S,T,h1,h2,h3⟩
  ·rw [h1,h2]
   simpa using qo h N
  ·rw [h1,h2]
   exact(qo h N).snoc h3
theorem nfB_mv {K:KP} {u:Int} {S T:NW} (h:NwMv S T):nfB K u T=nfB K u S:=by
 unfold nfB
 rw [h.nv,h.who.2.1]
theorem zam:∀ {r r':List NW} {t t':NW},NwMv t t'→MvN r r'→NwMv (topF t r) (topF t' r')
 | [],[],t,t',h,_=>h
 | [],T::M,_,_,_,h=>absurd h.len (by simp)
 | S::L,[],_,_,_,h=>absurd h.len (by simp)
 | S::L,T::M,t,t',h,hm=>by
  obtain⟨h1,h2⟩:=hm.uncons
  show NwMv (topF (if t.qv<S.qv then S else t) L) (topF (if t'.qv<T.qv then T else t') M)
  rw [h.who.2.2.1,h1.who.2.2.1]
  by_cases hq:t.qv<S.qv
  ·rw [if_pos hq,if_pos hq];exact zam h1 h2
  ·rw [if_neg hq,if_neg hq];exact zam h h2
theorem zjr {P P':List NW} (h:MvN P P'):(bestO P=none∧bestO P'=none)∨∃ t t',bestO P=some t∧bestO P'=some t'∧NwMv t t':=by
 cases P with
 | nil =>
  cases P' with
  | nil=>exact .inl ⟨rfl,rfl⟩
  | cons T M=>exact absurd h.len (by simp)
 | cons S L =>
  cases P' with
  | nil=>exact absurd h.len (by simp)
  | cons T M =>
   obtain⟨h1,h2⟩:=h.uncons
   exact .inr ⟨_,_,rfl,rfl,zam h1 h2⟩
theorem nvS_K {K K':KP} (hf:K'.f=K.f) (hR:K'.R=K.R) (hh:K'.h=K.h) (S:NW):nvS K' S=nvS K S:=by
 unfold nvS
 rw [hf,hR,hh,vqE_K hf hR hh]
theorem nfB_K {K K':KP} (hf:K'.f=K.f) (hR:K'.R=K.R) (hh:K'.h=K.h) (u:Int):nfB K' u=nfB K u:=by
 funext S
 unfold nfB
 rw [nvS_K hf hR hh]
noncomputable def epN (K:KP) (u:Int) (L:List NW):List NW:=eachL NW.who (L.filter (nfB K u))
theorem epN_mv {K:KP} (hK:K.ok) {u:Int} {L M:List NW} (h:MvN L M):MvN (epN K u L) (epN K u M):=by
 unfold epN
 rw [xt NW.who _ _ (jb hK),xt NW.who _ _ (jb hK)]
 exact qo (kE _ (fun S T hst=>nfB_mv hst) h) _
theorem zd9 {K:KP} {u:Int} {L:List NW} {S:NW} (h:S∈epN K u L):S∈L:=(List.mem_filter.1 (kK NW.who _ S h)).1
noncomputable def brR (K:KP) (u:Int) (L:List NW):Int × Nat × List VP × Int :=
 if (2*K.f+1).toNat≤(epN K u L).length then (match bestO (epN K u L)with
  | some t=>(t.qv,t.qd,t.H,0)
  | none=>(-1,0,[],0)) else (0,0,[],8)
theorem brR_K {K K':KP} (hf:K'.f=K.f) (hR:K'.R=K.R) (hh:K'.h=K.h) (u:Int) (L:List NW):brR K' u L=brR K u L:=by
 unfold brR epN
 rw [hf,nfB_K hf hR hh]
theorem brR_mv {K:KP} (hK:K.ok) {u:Int} {L M:List NW} (h:MvN L M):(brR K u M).1=(brR K u L).1∧(brR K u M).2.1=(brR K u L).2.1∧MvV (brR K u L).2.2.1 (brR K u M).2.2.1∧(brR K u M).2.2.2=(brR K u L).2.2.2:=by
 have hm:=epN_mv (u:=u) hK h
 unfold brR
 rw [hm.len]
 by_cases hq:(2*K.f+1).toNat≤(epN K u L).length
 ·rw [if_pos hq,if_pos hq]
  rcases zjr hm with ⟨h1,h2⟩ | ⟨t,t',h1,h2,h3⟩
  ·rw [h1,h2]
   exact⟨rfl,rfl,MvV.nil,rfl⟩
  ·rw [h1,h2]
   exact⟨h3.who.2.2.1,h3.who.2.2.2.1,h3.who.2.2.2.2,rfl⟩
 ·rw [if_neg hq,if_neg hq]
  exact⟨rfl,rfl,MvV.nil,rfl⟩
theorem zlj {K:KP} {u:Int} {L:List NW} (hL:∀ S∈L,S.H.length≤100):(brR K u L).2.2.1.length≤100:=by
 unfold brR
 by_cases hq:(2*K.f+1).toNat≤(epN K u L).length
 ·rw [if_pos hq]
  cases hb:bestO (epN K u L)with
  | none=>simp
  | some t=>exact hL t (zd9 (za7 hb))
 ·rw [if_neg hq];simp
theorem za9 (w:World):VpsG w none []:=⟨fun k hk=>absurd hk (by simp),by simp,by simp⟩
theorem zlk {K:KP} (hK:K.ok) (u:Int) (A:Option Addr) (cap:Nat) (L:List NW) (hl:L.length≤100000) (w:World) (hS:Std w) (hk:K.at w) (hL:NwsG w A L) :
 Calls Tryz.prog 58 #[.agg K.C,.int .i64 u,.slice A L.length cap] w fun e w'=>(∃ D j,e=.returned (.tuple #[.agg (vqC (brR K u L).1 (brR K u L).2.1 D (brR K u L).2.2.1.length j),.int .i64 (brR K u L).2.2.2])∧VpsG w' D (brR K u L).2.2.1)∧Grew w w':=by
 refine(zjk hK u A cap L hl w hS hk hL).mono ?_
 rintro e w' ⟨rfl,gg⟩
 refine⟨?_,gg⟩
 unfold rbS brR epN
 by_cases hq:(2*K.f+1).toNat≤(eachL NW.who (L.filter (nfB K u))).length
 ·rw [if_pos hq,if_pos hq]
  cases hb:bestO (eachL NW.who (L.filter (nfB K u)))with
  | none=>exact⟨none,0,rfl,za9 _⟩
  | some t=>exact⟨t.QA,t.Qk,rfl,(hL.at_ t (zd9 (za7 hb))).q.gr gg⟩
 ·rw [if_neg hq,if_neg hq]
  exact⟨none,0,rfl,za9 _⟩
theorem zjs {K:KP} (hK:K.ok) (u:Int) (A:Option Addr) (cap:Nat) (L:List NW) (hl:L.length≤100000) (w:World) (hS:Std w) (hk:K.at w) (hL:Nws w A L) :
 Calls Tryz.prog 56 #[.agg K.C,.int .i64 u,.slice A L.length cap] w fun e w'=>(∃ B j N,e=.returned (.tuple #[.agg (vqC (brR K u L).1 (brR K u L).2.1 B (brR K u L).2.2.1.length j),.int .i64 (brR K u L).2.2.2])∧MvV (brR K u L).2.2.1 N∧Vps w' B N∧(∀ ad,B=some ad→N=[]∨(w.heap.size≤ad.block∧ad.block<w'.heap.size))∧(∀ S∈N,∀ ad,S.A=some ad→S.l=[]∨w.heap.size≤ad.block))∧Grew w w':=by
 have hf:=hK.f
 unfold brR epN
 by_cases hq:(2*K.f+1).toNat≤(eachL NW.who (L.filter (nfB K u))).length
 ·rw [if_pos hq]
  cases hE:eachL NW.who (L.filter (nfB K u))with
  | nil=>rw [hE]at hq;simp at hq;omega
  | cons S0 R =>
   rw [hE]at hq
   refine(za6 hK u A cap L hl w hS hk hL S0 R hE (by simpa using hq)).mono ?_
   rintro e w' ⟨⟨B,j,N,rfl,h1,h2,h3,h4⟩,gg⟩
   exact⟨⟨B,j,N,rfl,h1,h2,fun ad e=>(h2.lt ad e).imp (fun h=>by first | exact h | simpa using h) (fun h=>⟨h3 ad e,h⟩),h4⟩,gg⟩
 ·rw [if_neg hq]
  refine(qW hK u A cap L hl w hS hk hL (by omega)).mono ?_
  rintro e w' ⟨rfl,gg⟩
  exact⟨⟨none,0,[],rfl,MvV.nil,zjm _,fun ad h=>(by cases h),fun S hS=>absurd hS (by simp)⟩,gg⟩
end Go.Proofs.YtidjnnnigcmdpaaGreatDoor
