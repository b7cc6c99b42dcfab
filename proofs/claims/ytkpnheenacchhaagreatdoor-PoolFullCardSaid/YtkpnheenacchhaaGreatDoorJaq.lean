/- slices.Insert at a pool's entries (mkinb.py). -/
import Derived.Test.YtkpnheenacchhaaGreatDoorJzz
import Derived.Test.YtkpnheenacchhaaGreatDoorProg
import Derived.Test.YtkpnheenacchhaaGreatDoorJap
import Derived.Test.YtkpnheenacchhaaGreatDoorJal
set_option maxHeartbeats 2000000
set_option maxRecDepth 100000
set_option linter.unusedSimpArgs false
set_option linter.unusedVariables false
namespace Go.Proofs.YtkpnheenacchhaaGreatDoor
open Go.RowKit
set_option linter.unnecessarySimpa false
theorem zY:(Tryz.prog.info? 141).map (fun i=>(i.zero,i.size,i.bytes))=some (some (.agg (#[.int .i64 0,.int .u64 0,.int .i64 0,.int .i64 0,.int .i64 0,.int .i64 0,.int .i64 0,.slice none 0 0]:Array Value)),8,80):=by kernel_rfl
theorem zp:(Tryz.prog.info? 141).map (·.size)=some 8:=by kernel_rfl
structure OneB (w:World) (vb:Nat) (x:Array Value):Prop where
 h:w.heap[vb]?=some (.cells x 141 (0,0))
 sz:x.size=8
 one:∀ u∈x.toList,u.oneCell'=true
theorem OneB.cell {w:World} {vb:Nat} {x:Array Value} (h:OneB w vb x) (j:Nat) (u:Value) (hj:x.toList[j]?=some u):w.cell? ((⟨vb,0,none⟩:Addr).add j)=some u:=by
 rw [yP]
 simp only [World.cell?,h.h]
 simpa using hj
theorem OneB.lt {w:World} {vb:Nat} {x:Array Value} (h:OneB w vb x):vb<w.heap.size:=(Array.getElem?_eq_some_iff.1 h.h).1
theorem qh (base:Nat) (v:Value) (L:List (List Value)) (n i:Nat) (hn:L.length=n) (hin:i=n) (hl:n≤1000) (x:Array Value) (vb:Nat) (w:World) (hown:w.ownsRow base 141 8 v n L.flatten) (hx:OneB w vb x) (hb:base≤w.heap.size) :
 Calls Tryz.prog 134 #[v,.int .i64 (i:Int),.slice (some ⟨vb,0,none⟩) 1 1] w fun e w'=>∃ v',e=.returned v'∧w'.ownsRow base 141 8 v' (n+1) (insL L i x.toList).flatten∧Kp (fun b=>v.ownBlock=some b) w w'∧(v'.ownBlock=v.ownBlock∨∃ g,v'.ownBlock=some g∧w.heap.size≤g):=by
 obtain⟨i0,hi,hz0,hz1,hz2⟩:=info_parts zY
 have hL:(insL L i x.toList).flatten=L.flatten++x.toList:=by subst hin;rw [←hn,jp];simp
 rw [hL]
 subst hin
 have hcell:=fun j u hj=>hx.cell j u hj
 have hsz:=hx.sz
 have hone:=hx.one
 rcases hown.2 with ⟨rfl,h0⟩ | ⟨g,cap,cur,rfl,hg1,hg2,hg3,hg4,_⟩
 ·subst h0
  clear hL hn hx
  go_enter Tryz.func134,Tryz.ntmps134
  go_wp2_with(at_builtin;refine zo _ rfl (.tmp 23) (.tmp 24) 133 rfl base 141 i0 (.agg (#[.int .i64 0,.int .u64 0,.int .i64 0,.int .i64 0,.int .i64 0,.int .i64 0,.int .i64 0,.slice none 0 0]:Array Value)) 8 80 Tryz.underlying133 hi hz0 hz1 hz2 rfl (by decide) _ 0 _ rfl hown ⟨vb,0,none⟩ 1 1 x.toList rfl (by rw [Array.length_toList,hsz]) hcell hone (by unfold maxLen;omega) (by omega) hb ?_;intro v' w8 hown8 hgr8 hob8)
  go_ret
  exact⟨_,rfl,hown8,yH (zt _ _) hgr8 (fun g h=>.inl h),hob8.imp id (fun h=>⟨_,h,Nat.le_refl _⟩)⟩
 ·have hi0:(0:Int)≤(i:Int):=by omega
  clear hL hn hx
  go_enter Tryz.func134,Tryz.ntmps134
  go_wp2_with(at_builtin;refine zo _ rfl (.tmp 23) (.tmp 24) 133 rfl base 141 i0 (.agg (#[.int .i64 0,.int .u64 0,.int .i64 0,.int .i64 0,.int .i64 0,.int .i64 0,.int .i64 0,.slice none 0 0]:Array Value)) 8 80 Tryz.underlying133 hi hz0 hz1 hz2 rfl (by decide) _ i _ rfl hown ⟨vb,0,none⟩ 1 1 x.toList rfl (by rw [Array.length_toList,hsz]) hcell hone (by unfold maxLen;omega) (by omega) hb ?_;intro v' w8 hown8 hgr8 hob8)
  all_goals (go_ret;exact⟨_,rfl,hown8,yH (zt _ _) hgr8 (fun g h=>.inl h),hob8.imp id (fun h=>⟨_,h,Nat.le_refl _⟩)⟩)
theorem OneB.shape {w:World} {vb:Nat} {x:Array Value} (h:OneB w vb x):w.shape? vb=some (141,8)∧(∀ j,w.frozen? ⟨vb,j,none⟩=false):=by
 refine⟨?_,fun j=>?_⟩
 ·simp [World.shape?,h.h,h.sz]
 ·simp [World.frozen?,h.h]
theorem kH {w:World} {g:Nat} {cur:Array Value} (h:w.heap[g]?=some (.cells cur 141 (0,0))):w.shape? g=some (141,cur.size):=by simp [World.shape?,h]
theorem run_ov (w:World) (a b:Addr) (la ca lb cb:Nat) (hne:a.block≠b.block) (tA tB:TypeId) (kA kB:Nat) (hsa:w.shape? a.block=some (tA,kA)) (hsb:w.shape? b.block=some (tB,kB)) (hkB:kB≠0) (hfa:w.frozen? a=false) (hfe:w.frozen? { block:=a.block,off:=kA }=false) :
 (callFunc 195 #[.slice (some a) la ca,.slice (some b) lb cb]).run Tryz.prog w=.ok (.value (.bool false)) w:=by
 rw [run_callFunc_extern Tryz.func195 (by kernel_rfl) (by kernel_rfl) (by kernel_rfl) (e:=Extern.SlicesOverlaps.overlaps #[133,133] #[4]) (by kernel_rfl),
  Lib.run_overlaps_apart w 133 4 141 Tryz.underlying133 8 (fun W=>by kernel_rfl) a b la ca lb cb hne tA tB kA kB hsa hsb hkB hfa hfe]
 rfl
theorem xr (base:Nat) (g cap:Nat) (cur:Array Value) (L:List (List Value)) (hz:∀ l∈L,l.length=8) (h1:∀ l∈L,∀ u∈l,u.oneCell'=true) (n i:Nat) (hn:L.length=n) (hin:i<n) (hl:n≤1000) (hroom:n+1≤cap) (hcap:cap≤maxLen) (x:Array Value) (vb:Nat) (w:World)
 (hg:w.heap[g]?=some (.cells cur 141 (0,0))) (hgb:base≤g) (hcs:cur.size=cap*8) (ht:cur.toList.take (n*8)=L.flatten) (hx:OneB w vb x) (hne:vb≠g) :
 Calls Tryz.prog 134 #[.slice (some ⟨g,0,none⟩) n cap,.int .i64 (i:Int),.slice (some ⟨vb,0,none⟩) 1 1] w fun e w'=>∃ v',e=.returned v'∧w'.ownsRow base 141 8 v' (n+1) (insL L i x.toList).flatten∧Kp (fun b=>(Value.slice (some ⟨g,0,none⟩) n cap).ownBlock=some b) w w'∧(v'.ownBlock=(Value.slice (some ⟨g,0,none⟩) n cap).ownBlock∨∃ g,v'.ownBlock=some g∧w.heap.size≤g):=by
 have hov:=fun lb cb=>run_ov w ⟨vb,0,none⟩ ⟨g,(i+1)*8,none⟩ 1 1 lb cb hne _ _ _ _ hx.shape.1 (kH hg) (by omega) (hx.shape.2 _) (hx.shape.2 _)
 have b1:¬((i:Int)=(n:Int)):=by omega
 have b2:¬(cap=i):=by omega
 have b3:¬(cap=i+1):=by omega
 have b4:¬((cap:Int)<(n:Int)+1):=by omega
 have c1:(0:Int)≤(i:Int):=by omega
 have c2:(i:Int)≤(n:Int):=by omega
 have e1:IntKind.i64.wrap ((n:Int)+1)=(n:Int)+1:=IntWalk.i64_in _ (by omega)
 have e2:IntKind.i64.wrap ((i:Int)+1)=(i:Int)+1:=IntWalk.i64_in _ (by omega)
 have HX:=hQ9 hx
 have HG:=hQ9 hg
 have HM:=hQ9 (And.intro hin (And.intro hl (And.intro hroom hcap)))
 clear hx hg
 go_enter Tryz.func134,Tryz.ntmps134
 go_upto_region 15 with (simp only [hov])
 clear hov e1
 refine ze 8 (fun ix9=>match ix9 with
  | 0=>fun v _=>v=.slice (some ⟨g,0,none⟩) (n+1) cap
  | 1=>fun v _=>v=.int .i64 (i:Int)
  | 2=>fun v _=>v=.int .i64 1
  | 3=>fun v _=>v=.int .i64 ((i:Int)+1)
  | 4=>fun v _=>v=.slice (some ⟨g,(i+1)*8,none⟩) (n-i) (cap-(i+1))
  | 5=>fun v _=>v=.slice (some ⟨g,0,none⟩) (n+1) cap
  | 6=>fun v _=>v=.int .i64 (i:Int)
  | 7=>fun v _=>v=.slice (some ⟨g,i*8,none⟩) (n+1-i) (cap-i)
  | _=>fun _ _=>True) (by kernel_rfl) (by kernel_rfl) ?_ ?_ ?_
 ·intro i v x y h hg
  match i,h with
  | 0,h | 1,h | 2,h | 3,h | 4,h | 5,h | 6,h | 7,h=>exact h
  | m+8,_=>trivial
 ·simp only [actOf,tk1,tk0,dr1,dr0,Act.put,si1,st1,st0,Nat.reduceAdd]
  refine⟨?_,?_,?_,?_,?_,?_,?_,?_,trivial⟩
  ·intro vs y hg hd
   dsimp only
   go_wp2_with fail
   exact⟨rfl,_,rfl,za _,rfl⟩
  ·intro vs y hg hd
   dsimp only
   go_wp2_with fail
   exact⟨rfl,_,rfl,za _,rfl⟩
  ·intro vs y hg hd
   dsimp only
   go_wp2_with fail
   exact⟨rfl,_,rfl,za _,rfl⟩
  ·intro vs y hg hd
   obtain⟨h1,h2,_⟩:=hd
   replace h1:=h1 rfl
   replace h2:=h2 rfl
   dsimp only
   rw [show vs 1=_ from h1,show vs 2=_ from h2]
   go_wp2_with fail
   exact⟨rfl,_,rfl,za _,rfl⟩
  ·intro vs y hg hd
   obtain⟨h0,h3,_⟩:=hd
   replace h0:=h0 rfl
   replace h3:=h3 rfl
   dsimp only
   rw [show vs 0=_ from h0,show vs 3=_ from h3]
   go_wp2_with fail
   exact⟨rfl,_,rfl,za _,rfl⟩
  ·intro vs y hg hd
   dsimp only
   go_wp2_with fail
   exact⟨rfl,_,rfl,za _,rfl⟩
  ·intro vs y hg hd
   dsimp only
   go_wp2_with fail
   exact⟨rfl,_,rfl,za _,rfl⟩
  ·intro vs y hg hd
   obtain⟨h5,h6,_⟩:=hd
   replace h5:=h5 rfl
   replace h6:=h6 rfl
   dsimp only
   rw [show vs 5=_ from h5,show vs 6=_ from h6]
   go_wp2_with fail
   exact⟨rfl,_,rfl,za _,rfl⟩
 ·intro vs y hg hJ
  have j0:vs 0=.slice (some ⟨g,0,none⟩) (n+1) cap:=hJ 0 (by decide)
  have j1:vs 1=.int .i64 (i:Int):=hJ 1 (by decide)
  have j2:vs 2=.int .i64 1:=hJ 2 (by decide)
  have j3:vs 3=.int .i64 ((i:Int)+1):=hJ 3 (by decide)
  have j4:vs 4=.slice (some ⟨g,(i+1)*8,none⟩) (n-i) (cap-(i+1)):=hJ 4 (by decide)
  have j5:vs 5=.slice (some ⟨g,0,none⟩) (n+1) cap:=hJ 5 (by decide)
  have j6:vs 6=.int .i64 (i:Int):=hJ 6 (by decide)
  have j7:vs 7=.slice (some ⟨g,i*8,none⟩) (n+1-i) (cap-i):=hJ 7 (by decide)
  clear hJ
  simp only [actOf,tk1,tk0,dr1,dr0,Act.put,si1,st1,st0,Nat.reduceAdd]
  have hin:=HM.out.1
  have hlt:g<w.heap.size:=(Array.getElem?_eq_some_iff.1 HG.out).1
  have hgy:y.heap[g]?=some (.cells cur 141 (0,0)):=(hg.block g hlt).trans HG.out
  have hcl:cur.toList.length=cap*8:=by rw [Array.length_toList];exact hcs
  have hdl:=zC L i hz
  rw [hn]at hdl
  have hce:∀ j u,(L.drop i).flatten[j]?=some u→cur.toList[i*8+j]?=some u:=fun j u hj=>by
   rw [←yn L i hz (by omega),←ht,List.getElem?_drop,List.getElem?_take]at hj
   split at hj
   ·exact hj
   ·cases hj
  have hcp1:=fun ty=>zB (P:=Tryz.prog) y 133 133 ty 141 g ((i+1)*8) (n-i) (cap-(i+1)) ⟨g,i*8,none⟩ (n+1-i) (cap-i) 8 cur 141 (L.drop i).flatten Tryz.underlying133 zp hgy (n-i) (by simp only [Nat.min_def];split<;>omega) hdl
   (fun j u hj=>by
     have h9:=hce j u hj
     have e9:(⟨g,i*8,none⟩:Addr).add j=⟨g,i*8+j,none⟩:=by unfold Addr.add;split<;>simp_all
     rw [e9]
     simp only [World.cell?,hgy]
     simpa using h9) (by rw [hdl,hcs];omega) (fun u hu=>by obtain⟨l,hl9,hu9⟩:=List.mem_flatten.1 hu;exact h1 l (List.mem_of_mem_drop hl9) u hu9)
  obtain⟨hr1,hr2,hr3⟩:=jq L i n x.toList cur.toList hz (by rw [Array.length_toList];exact HX.out.sz) hn (by omega) (by rw [hcl];omega) ht
  obtain⟨C1,hC1⟩:∃ c,cur.toList.take ((i+1)*8)++(L.drop i).flatten++cur.toList.drop ((i+1)*8+(L.drop i).flatten.length)=c:=⟨_,rfl⟩
  rw [hC1]at hcp1 hr1 hr2 hr3
  obtain⟨C2,hC2⟩:∃ c,C1.take (i*8)++x.toList++C1.drop (i*8+x.toList.length)=c:=⟨_,rfl⟩
  rw [hC2]at hr1 hr3
  have k1:=z8 y g C1.toArray
  have hg1:=setRow_heap y g cur C1.toArray 141 (0,0) hgy
  obtain⟨y1,hy1⟩:∃ v,y.setRow g C1.toArray=v:=⟨_,rfl⟩
  rw [hy1]at hcp1 k1 hg1
  have hvlt:=HX.out.lt
  have hxv:OneB y1 vb x:=⟨(k1.block vb (Nat.lt_of_lt_of_le hvlt hg.size) hne).trans ((hg.block vb hvlt).trans HX.out.h),HX.out.sz,HX.out.one⟩
  have hcp2:=fun ty=>zB (P:=Tryz.prog) y1 133 133 ty 141 g (i*8) (n+1-i) (cap-i) ⟨vb,0,none⟩ 1 1 8 C1.toArray 141 x.toList Tryz.underlying133 zp hg1 1 (by simp only [Nat.min_def];split<;>omega) (by rw [Array.length_toList,HX.out.sz])
   (fun j u hj=>hxv.cell j u hj) (by rw [Array.length_toList,HX.out.sz,List.size_toArray,hr2,hcl];omega) HX.out.one
  rw [show C1.toArray.toList=C1 from rfl,hC2]at hcp2
  have k2:=z8 y1 g C2.toArray
  have hg2:=setRow_heap y1 g C1.toArray C2.toArray 141 (0,0) hg1
  obtain⟨y2,hy2⟩:∃ v,y1.setRow g C2.toArray=v:=⟨_,rfl⟩
  rw [hy2]at hcp2 k2 hg2
  have hown:y2.ownsRow base 141 8 (.slice (some ⟨g,0,none⟩) (n+1) cap) (n+1) (insL L i x.toList).flatten:=by
   refine⟨by rw [←hr1,List.length_take,hr3,hcl];omega,.inr ⟨g,cap,C2.toArray,rfl,hgb,hg2,HM.out.2.2.1,HM.out.2.2.2,by rw [List.size_toArray,hr3,hcl],hr1⟩⟩
  have hK:Kp (fun b=>(Value.slice (some ⟨g,0,none⟩) n cap).ownBlock=some b) w y2:=zx (zi hg) (yY (zx k1 k2) (fun b e=>by have e9:b=g:=e;show some g=some b;rw [e9]))
  rw [j4,j7]
  clear hce hr1 hr2 hr3 hC1 hC2 k1 k2 hg1 hg2 hy1 hy2 hxv hgy hvlt hlt hcl hdl j0 j1 j2 j3 j4 j5 j6 j7 hg HG HX
  go_wp2_with(first
   | (at_builtin;refine zI _ rfl (.tmp 73) (.tmp 76) 133 133 rfl _ _ rfl rfl (hcp1 _) ?_)
   | (at_builtin;refine zI _ rfl (.tmp 80) (.tmp 81) 133 133 rfl _ _ rfl rfl (hcp2 _) ?_))
  go_ret
  exact⟨_,rfl,hown,hK,.inl rfl⟩
theorem kI (k:Nat):(Builtin.zeroCells (Value.agg (#[.int .i64 0,.int .u64 0,.int .i64 0,.int .i64 0,.int .i64 0,.int .i64 0,.int .i64 0,.slice none 0 0]:Array Value)).cells k).toList.length=k*8:=by
 simp [Builtin.zeroCells,Value.cells]
theorem xt (base:Nat) (g cap:Nat) (cur:Array Value) (L:List (List Value)) (hz:∀ l∈L,l.length=8) (h1:∀ l∈L,∀ u∈l,u.oneCell'=true) (n i:Nat) (hn:L.length=n) (hin:i<n) (hl:n≤1000) (hnc:n≤cap) (hroom:cap<n+1) (x:Array Value) (vb:Nat) (w:World)
 (hg:w.heap[g]?=some (.cells cur 141 (0,0))) (hgb:base≤g) (hcs:cur.size=cap*8) (ht:cur.toList.take (n*8)=L.flatten) (hx:OneB w vb x) (hb:base≤w.heap.size) :
 Calls Tryz.prog 134 #[.slice (some ⟨g,0,none⟩) n cap,.int .i64 (i:Int),.slice (some ⟨vb,0,none⟩) 1 1] w fun e w'=>∃ v',e=.returned v'∧w'.ownsRow base 141 8 v' (n+1) (insL L i x.toList).flatten∧Kp (fun b=>(Value.slice (some ⟨g,0,none⟩) n cap).ownBlock=some b) w w'∧(v'.ownBlock=(Value.slice (some ⟨g,0,none⟩) n cap).ownBlock∨∃ g,v'.ownBlock=some g∧w.heap.size≤g):=by
 obtain⟨i0,hi0,hz0,hzs,hzb⟩:=info_parts zY
 have hglt:g<w.heap.size:=(Array.getElem?_eq_some_iff.1 hg).1
 have htl:=zP L i hz (by omega)
 have hte:∀ j u,(L.take i).flatten[j]?=some u→w.cell? ⟨g,j,none⟩=some u:=fun j u hj=>by
  rw [←ym L i hz (by omega),←ht,List.take_take,List.getElem?_take]at hj
  split at hj
  ·simp only [World.cell?,hg];simpa using hj
  ·cases hj
 have hold:(Builtin.firstCells i0.size i (.slice (some ⟨g,0,none⟩) i cap)).run Tryz.prog w.drew=.ok (L.take i).flatten.toArray w.drew:=by
  rw [hzs]
  exact run_firstCells_some w.drew 8 i ⟨g,0,none⟩ i cap (L.take i).flatten htl (fun j v hj=>by rw [yP];exact hte j v hj)
 have hik:i+(n+1-i)=n+1:=by omega
 have hrz:∀ ty,(Builtin.append_ #[133,3] ty #[.slice (some ⟨g,0,none⟩) i cap,.int .i64 ((n:Int)+1-(i:Int))]).run Tryz.prog w =
  .ok (.slice (some ⟨w.heap.size,0,none⟩) (n+1) (grownCap w (n+1) cap 141)) (w.drew.alloc (.cells ((L.take i).flatten.toArray++Builtin.zeroCells (Value.agg (#[.int .i64 0,.int .u64 0,.int .i64 0,.int .i64 0,.int .i64 0,.int .i64 0,.int .i64 0,.slice none 0 0]:Array Value)).cells (n+1-i)++Builtin.zeroCells (Value.agg (#[.int .i64 0,.int .u64 0,.int .i64 0,.int .i64 0,.int .i64 0,.int .i64 0,.int .i64 0,.slice none 0 0]:Array Value)).cells (grownCap w (n+1) cap 141-(n+1))) 141)):=fun ty=>by
  have h:=Lib.run_append_grow_zeros w 133 3 ty 141 i0 _ .i64 .i64 Tryz.underlying133 Tryz.underlying3 hi0 hz0 (some ⟨g,0,none⟩) i cap (L.take i).flatten hold (n+1-i) (by omega) (by omega) (by omega) (by omega) (by rw [hzb];omega) (by rw [hzb,hik];exact growslice_fits hroom (by omega))
  rw [hik]at h
  rw [show(n:Int)+1-(i:Int)=((n+1-i:Nat):Int) by omega]
  exact h
 obtain⟨G,hG⟩:∃ G,grownCap w (n+1) cap 141=G:=⟨_,rfl⟩
 have hGn:n+1≤G:=by rw [←hG];exact grownCap_ge w _ _ _
 have hGm:G≤maxLen:=by rw [←hG];exact grownCap_le_maxLen w _ _ _ (by unfold maxLen;omega)
 rw [hG]at hrz
 obtain⟨ROW,hROW⟩:∃ R,(L.take i).flatten.toArray++Builtin.zeroCells (Value.agg (#[.int .i64 0,.int .u64 0,.int .i64 0,.int .i64 0,.int .i64 0,.int .i64 0,.int .i64 0,.slice none 0 0]:Array Value)).cells (n+1-i)++Builtin.zeroCells (Value.agg (#[.int .i64 0,.int .u64 0,.int .i64 0,.int .i64 0,.int .i64 0,.int .i64 0,.int .i64 0,.slice none 0 0]:Array Value)).cells (G-(n+1))=R:=⟨_,rfl⟩
 rw [hROW]at hrz
 obtain⟨Z,hZ⟩:∃ Z,(Builtin.zeroCells (Value.agg (#[.int .i64 0,.int .u64 0,.int .i64 0,.int .i64 0,.int .i64 0,.int .i64 0,.int .i64 0,.slice none 0 0]:Array Value)).cells (n+1-i)).toList++(Builtin.zeroCells (Value.agg (#[.int .i64 0,.int .u64 0,.int .i64 0,.int .i64 0,.int .i64 0,.int .i64 0,.int .i64 0,.slice none 0 0]:Array Value)).cells (G-(n+1))).toList=Z:=⟨_,rfl⟩
 have hZl:Z.length=(n+1-i)*8+(G-(n+1))*8:=by rw [←hZ,List.length_append,kI,kI]
 have hRl:ROW.toList=(L.take i).flatten++Z:=by rw [←hROW,←hZ];simp
 clear hROW hZ hG hold
 obtain⟨w1,hw1⟩:∃ v,w.drew.alloc (.cells ROW 141)=v:=⟨_,rfl⟩
 rw [hw1]at hrz
 obtain⟨gN,hgN⟩:∃ q,w.heap.size=q:=⟨_,rfl⟩
 have hgw1:w1.heap[gN]?=some (.cells ROW 141 (0,0)):=by rw [←hw1,←hgN];exact heap_alloc_new w.drew _
 have g1:Grew w w1:=by rw [←hw1];exact zc (zH (za w) 1) _
 have hxv:OneB w1 vb x:=⟨(g1.block vb hx.lt).trans hx.h,hx.sz,hx.one⟩
 have hvN:vb≠gN:=by have:=hx.lt;omega
 have hgNe:g≠gN:=by omega
 rw [hgN]at hrz
 obtain⟨hr1,hr2,hr3⟩:=jr L i n x.toList Z hz (by rw [Array.length_toList];exact hx.sz) hn (by omega) (by rw [hZl];omega)
 rw [←hRl]at hr1 hr2 hr3
 have hRs:ROW.toList.length=G*8:=by rw [hRl,List.length_append,htl,hZl];omega
 obtain⟨C1,hC1⟩:∃ c,ROW.toList.take (i*8)++x.toList++ROW.toList.drop (i*8+x.toList.length)=c:=⟨_,rfl⟩
 rw [hC1]at hr1 hr2 hr3
 obtain⟨C2,hC2⟩:∃ c,C1.take ((i+1)*8)++(L.drop i).flatten++C1.drop ((i+1)*8+(L.drop i).flatten.length)=c:=⟨_,rfl⟩
 rw [hC2]at hr1 hr3
 have hcp1:=fun ty=>zB (P:=Tryz.prog) w1 133 133 ty 141 gN (i*8) (n+1-i) (G-i) ⟨vb,0,none⟩ 1 1 8 ROW 141 x.toList Tryz.underlying133 zp hgw1 1 (by simp only [Nat.min_def];split<;>omega) (by rw [Array.length_toList,hx.sz])
  (fun j u hj=>hxv.cell j u hj) (by rw [Array.length_toList,hx.sz,←Array.length_toList,hRs];omega) hx.one
 rw [hC1]at hcp1
 have k2:=z8 w1 gN C1.toArray
 have hgw2:=setRow_heap w1 gN ROW C1.toArray 141 (0,0) hgw1
 obtain⟨w2,hw2⟩:∃ v,w1.setRow gN C1.toArray=v:=⟨_,rfl⟩
 rw [hw2]at hcp1 k2 hgw2
 have hgo:w2.heap[g]?=some (.cells cur 141 (0,0)):=(k2.block g (Nat.lt_of_lt_of_le hglt g1.size) hgNe).trans ((g1.block g hglt).trans hg)
 have hcl:cur.toList.length=cap*8:=by rw [Array.length_toList];exact hcs
 have hdl:=zC L i hz
 rw [hn]at hdl
 have hce:∀ j u,(L.drop i).flatten[j]?=some u→cur.toList[i*8+j]?=some u:=fun j u hj=>by
  rw [←yn L i hz (by omega),←ht,List.getElem?_drop,List.getElem?_take]at hj
  split at hj
  ·exact hj
  ·cases hj
 have G2:Grew w w2:=zw g1 k2 g1.size (fun b e=>by have e9:b=gN:=e;omega)
 have b1:¬((i:Int)=(n:Int)):=by omega
 have b2:¬(cap=i):=by omega
 have b3:¬(G=i):=by omega
 have b4:(cap:Int)<(n:Int)+1:=by omega
 have b5:¬(G=i+1):=by omega
 have c1:(0:Int)≤(i:Int):=by omega
 have c2:(i:Int)≤(n:Int):=by omega
 have c3:(i:Int)≤(cap:Int):=by omega
 have e1:IntKind.i64.wrap ((n:Int)+1)=(n:Int)+1:=IntWalk.i64_in _ (by omega)
 have e2:IntKind.i64.wrap ((i:Int)+1)=(i:Int)+1:=IntWalk.i64_in _ (by omega)
 have e3:IntKind.i64.wrap ((n:Int)+1-(i:Int))=(n:Int)+1-(i:Int):=IntWalk.i64_in _ (by omega)
 have HM:=hQ9 (And.intro hin (And.intro hGn (And.intro hGm (And.intro hl (And.intro hnc hcl)))))
 have HGO:=hQ9 hgo
 have HW2:=hQ9 hgw2
 have HG2:=hQ9 G2
 have HR:=hQ9 (And.intro hr1 (And.intro hr2 hr3))
 have HRS:=hQ9 hRs
 have HC2:=hQ9 hC2
 have HDL:=hQ9 hdl
 have HCE:=hQ9 hce
 have HNN:=hQ9 (And.intro hgN hb)
 clear hgo hgw2 G2 hr1 hr2 hr3 hRs hC2 hC1 hw1 hw2 hgw1 g1 hxv hvN hx hg ht hte htl hRl hZl k2 hdl hce hcl hik hgN
 go_enter Tryz.func134,Tryz.ntmps134
 go_wp2_with(first
  | (at_builtin;refine Lib.wpList_append_run _ rfl _ _ _ _ rfl _ _ rfl rfl _ _ (hrz _) ?_)
  | (at_builtin;refine zI _ rfl (.tmp 43) (.tmp 44) 133 133 rfl _ _ rfl rfl (hcp1 _) ?_))
 clear hrz hcp1 e1 e3
 refine ze 8 (fun ix9=>match ix9 with
  | 0=>fun v _=>v=.slice (some ⟨gN,0,none⟩) (n+1) G
  | 1=>fun v _=>v=.int .i64 (i:Int)
  | 2=>fun v _=>v=.int .i64 1
  | 3=>fun v _=>v=.int .i64 ((i:Int)+1)
  | 4=>fun v _=>v=.slice (some ⟨gN,(i+1)*8,none⟩) (n-i) (G-(i+1))
  | 5=>fun v _=>v=.slice (some ⟨g,0,none⟩) n cap
  | 6=>fun v _=>v=.int .i64 (i:Int)
  | 7=>fun v _=>v=.slice (some ⟨g,i*8,none⟩) (n-i) (cap-i)
  | _=>fun _ _=>True) (by kernel_rfl) (by kernel_rfl) ?_ ?_ ?_
 ·intro i v x y h hg
  match i,h with
  | 0,h | 1,h | 2,h | 3,h | 4,h | 5,h | 6,h | 7,h=>exact h
  | m+8,_=>trivial
 ·simp only [actOf,tk1,tk0,dr1,dr0,Act.put,si1,st1,st0,Nat.reduceAdd]
  refine⟨?_,?_,?_,?_,?_,?_,?_,?_,trivial⟩
  ·intro vs y hg hd
   dsimp only
   go_wp2_with fail
   exact⟨rfl,_,rfl,za _,rfl⟩
  ·intro vs y hg hd
   dsimp only
   go_wp2_with fail
   exact⟨rfl,_,rfl,za _,rfl⟩
  ·intro vs y hg hd
   dsimp only
   go_wp2_with fail
   exact⟨rfl,_,rfl,za _,rfl⟩
  ·intro vs y hg hd
   obtain⟨h1,h2,_⟩:=hd
   replace h1:=h1 rfl
   replace h2:=h2 rfl
   dsimp only
   rw [show vs 1=_ from h1,show vs 2=_ from h2]
   go_wp2_with fail
   exact⟨rfl,_,rfl,za _,rfl⟩
  ·intro vs y hg hd
   obtain⟨h0,h3,_⟩:=hd
   replace h0:=h0 rfl
   replace h3:=h3 rfl
   dsimp only
   rw [show vs 0=_ from h0,show vs 3=_ from h3]
   go_wp2_with fail
   exact⟨rfl,_,rfl,za _,rfl⟩
  ·intro vs y hg hd
   dsimp only
   go_wp2_with fail
   exact⟨rfl,_,rfl,za _,rfl⟩
  ·intro vs y hg hd
   dsimp only
   go_wp2_with fail
   exact⟨rfl,_,rfl,za _,rfl⟩
  ·intro vs y hg hd
   obtain⟨h5,h6,_⟩:=hd
   replace h5:=h5 rfl
   replace h6:=h6 rfl
   dsimp only
   rw [show vs 5=_ from h5,show vs 6=_ from h6]
   go_wp2_with fail
   exact⟨rfl,_,rfl,za _,rfl⟩
 ·intro vs y hg hJ
  have j0:vs 0=.slice (some ⟨gN,0,none⟩) (n+1) G:=hJ 0 (by decide)
  have j1:vs 1=.int .i64 (i:Int):=hJ 1 (by decide)
  have j2:vs 2=.int .i64 1:=hJ 2 (by decide)
  have j3:vs 3=.int .i64 ((i:Int)+1):=hJ 3 (by decide)
  have j4:vs 4=.slice (some ⟨gN,(i+1)*8,none⟩) (n-i) (G-(i+1)):=hJ 4 (by decide)
  have j5:vs 5=.slice (some ⟨g,0,none⟩) n cap:=hJ 5 (by decide)
  have j6:vs 6=.int .i64 (i:Int):=hJ 6 (by decide)
  have j7:vs 7=.slice (some ⟨g,i*8,none⟩) (n-i) (cap-i):=hJ 7 (by decide)
  clear hJ
  simp only [actOf,tk1,tk0,dr1,dr0,Act.put,si1,st1,st0,Nat.reduceAdd]
  have hgy:y.heap[g]?=some (.cells cur 141 (0,0)):=(hg.block g (Array.getElem?_eq_some_iff.1 HGO.out).1).trans HGO.out
  have hgy2:y.heap[gN]?=some (.cells C1.toArray 141 (0,0)):=(hg.block gN (Array.getElem?_eq_some_iff.1 HW2.out).1).trans HW2.out
  obtain⟨hr1,hr2,hr3⟩:=HR.out
  have hRs:=HRS.out
  have hm:=HM.out
  have hcp2:=fun ty=>zB (P:=Tryz.prog) y 133 133 ty 141 gN ((i+1)*8) (n-i) (G-(i+1)) ⟨g,i*8,none⟩ (n-i) (cap-i) 8 C1.toArray 141 (L.drop i).flatten Tryz.underlying133 zp hgy2 (n-i) (by simp) HDL.out
   (fun j u hj=>by
     have h9:=HCE.out j u hj
     have e9:(⟨g,i*8,none⟩:Addr).add j=⟨g,i*8+j,none⟩:=by unfold Addr.add;split<;>simp_all
     rw [e9]
     simp only [World.cell?,hgy]
     simpa using h9) (by rw [HDL.out,List.size_toArray,hr2,hRs];omega) (fun u hu=>by obtain⟨l,hl9,hu9⟩:=List.mem_flatten.1 hu;exact h1 l (List.mem_of_mem_drop hl9) u hu9)
  rw [show C1.toArray.toList=C1 from rfl,HC2.out]at hcp2
  have k2:=z8 y gN C2.toArray
  have hg2:=setRow_heap y gN C1.toArray C2.toArray 141 (0,0) hgy2
  obtain⟨y2,hy2⟩:∃ v,y.setRow gN C2.toArray=v:=⟨_,rfl⟩
  rw [hy2]at hcp2 k2 hg2
  have hown:y2.ownsRow base 141 8 (.slice (some ⟨gN,0,none⟩) (n+1) G) (n+1) (insL L i x.toList).flatten:=by
   refine⟨by rw [←hr1,List.length_take,hr3,hRs];omega,.inr ⟨gN,G,C2.toArray,rfl,by have:=HNN.out;omega,hg2,hm.2.1,hm.2.2.1,by rw [List.size_toArray,hr3,hRs],hr1⟩⟩
  have hK:Kp (fun b=>(Value.slice (some ⟨g,0,none⟩) n cap).ownBlock=some b) w y2:=zi (zw (zb HG2.out hg) k2 (zb HG2.out hg).size (fun b e=>by have e9:b=gN:=e;have:=HNN.out;omega))
  have hN9:=HNN.out.1
  rw [j4,j7]
  clear hr1 hr2 hr3 hRs k2 hg2 hy2 hgy hgy2 j0 j1 j2 j3 j4 j5 j6 j7 hg HGO HW2 HR HRS HC2 HDL HCE hm
  go_wp2_with(at_builtin;refine zI _ rfl (.tmp 50) (.tmp 53) 133 133 rfl _ _ rfl rfl (hcp2 _) ?_)
  go_ret
  exact⟨_,rfl,hown,hK,.inr ⟨gN,rfl,by omega⟩⟩
theorem ins_ok (base:Nat) (v:Value) (L:List (List Value)) (hz:∀ l∈L,l.length=8) (h1:∀ l∈L,∀ u∈l,u.oneCell'=true) (n i:Nat) (hn:L.length=n) (hin:i≤n) (hl:n≤1000) (x:Array Value) (vb:Nat) (w:World) (hown:w.ownsRow base 141 8 v n L.flatten) (hx:OneB w vb x) (hne:v.ownBlock≠some vb) (hb:base≤w.heap.size) :
 Calls Tryz.prog 134 #[v,.int .i64 (i:Int),.slice (some ⟨vb,0,none⟩) 1 1] w fun e w'=>∃ v',e=.returned v'∧w'.ownsRow base 141 8 v' (n+1) (insL L i x.toList).flatten∧Kp (fun b=>v.ownBlock=some b) w w'∧(v'.ownBlock=v.ownBlock∨∃ g,v'.ownBlock=some g∧w.heap.size≤g):=by
 by_cases hi:i=n
 ·exact qh base v L n i hn hi hl x vb w hown hx hb
 ·rcases hown.2 with ⟨rfl,h0⟩ | ⟨g,cap,cur,rfl,hg1,hg2,hg3,hg4,hg5,hg6⟩
  ·omega
  ·by_cases hr:n+1≤cap
   ·exact xr base g cap cur L hz h1 n i hn (by omega) hl hr hg4 x vb w hg2 hg1 hg5 hg6 hx (fun e=>hne (by rw [e];rfl))
   ·exact xt base g cap cur L hz h1 n i hn (by omega) hl hg3 (by omega) x vb w hg2 hg1 hg5 hg6 hx hb
end Go.Proofs.YtkpnheenacchhaaGreatDoor
namespace Go.Proofs.YtkpnheenacchhaaGreatDoor
open Go.RowKit
set_option linter.unnecessarySimpa false
structure En where
 at_:Int
 d:Nat
 cl:Int
 no:Int
 fr:Int
 tt:Int
 am:Int
 A:Option Addr
 n:Nat
 k:Nat
def En.C (e:En):Array Value:=#[.int .i64 e.at_,.int .u64 (e.d:Nat),.int .i64 e.cl,.int .i64 e.no,.int .i64 e.fr,.int .i64 e.tt,.int .i64 e.am,.slice e.A e.n e.k]
theorem En.one (e:En):e.C.all (·.oneCell')=true:=by simp [En.C,Value.oneCell']
theorem En.one' (e:En):∀ u∈e.C.toList,u.oneCell'=true:=fun u hu=>Array.all_eq_true_iff_forall_mem.1 e.one u (by simpa using hu)
theorem En.size (e:En):e.C.size=8:=rfl
def enL (E:List En):List (List Value):=E.map fun e=>e.C.toList
theorem zv (E:List En):(enL E).length=E.length:=by simp [enL]
theorem enL_z (E:List En):∀ l∈enL E,l.length=8:=fun l hl=>by
 obtain⟨e,_,rfl⟩:=List.mem_map.1 hl
 rfl
theorem zS (E:List En) (i:Nat) (h:i<(enL E).length):(enL E)[i]=(E[i]'(by rw [zv]at h;exact h)).C.toList:=by simp [enL]
theorem x4 (E:List En):∀ l∈enL E,∀ u∈l,u.oneCell'=true:=fun l hl u hu=>by
 obtain⟨e,_,rfl⟩:=List.mem_map.1 hl
 exact e.one' u hu
theorem qi (E:List En) (i:Nat) (x:En):insL (enL E) i x.C.toList=enL (E.take i++x::E.drop i):=by simp [enL,insL]
def cmpZ (x y:Int):Int:=if x<y then -1 else if y<x then 1 else 0
def bfZ (a b:En):Int:=if cmpZ a.at_ b.at_≠0 then cmpZ a.at_ b.at_ else cmpZ (a.d:Int) (b.d:Int)
theorem zK (x:Int) (w:World):Calls Tryz.prog 190 #[.int .i64 x] w fun e w'=>e=.returned (.bool false)∧Grew w w':=by
 have e1:(x != x)=false:=by simp
 go_enter Tryz.func190,Tryz.ntmps190
 go_wp2_with fail
 go_ret
 exact⟨rfl,za _⟩
theorem qj (x y:Int) (w:World):Calls Tryz.prog 128 #[.int .i64 x,.int .i64 y] w fun e w'=>e=.returned (.int .i64 (cmpZ x y))∧Grew w w':=by
 unfold cmpZ
 rcases Int.lt_trichotomy x y with h | h | h
 ·have e1:decide (x<y)=true:=decide_eq_true h
  rw [if_pos h]
  clear h
  go_enter Tryz.func128,Tryz.ntmps128
  go_wp2_with fail
  refine(zK x w).mono ?_
  rintro e w1 ⟨rfl,g1⟩
  go_wp2_with fail
  refine(zK _ w1).mono ?_
  rintro e w2 ⟨rfl,g2⟩
  go_wp2_with fail
  go_ret
  exact⟨rfl,zb g1 g2⟩
 ·subst h
  have e1:decide (x<x)=false:=by simp
  rw [if_neg (by omega),if_neg (by omega)]
  go_enter Tryz.func128,Tryz.ntmps128
  go_wp2_with fail
  refine(zK x w).mono ?_
  rintro e w1 ⟨rfl,g1⟩
  go_wp2_with fail
  refine(zK _ w1).mono ?_
  rintro e w2 ⟨rfl,g2⟩
  go_wp2_with fail
  go_ret
  exact⟨rfl,zb g1 g2⟩
 ·have e1:decide (x<y)=false:=decide_eq_false (by omega)
  have e2:decide (y<x)=true:=decide_eq_true h
  rw [if_neg (by omega),if_pos h]
  clear h
  go_enter Tryz.func128,Tryz.ntmps128
  go_wp2_with fail
  refine(zK x w).mono ?_
  rintro e w1 ⟨rfl,g1⟩
  go_wp2_with fail
  refine(zK _ w1).mono ?_
  rintro e w2 ⟨rfl,g2⟩
  go_wp2_with fail
  go_ret
  exact⟨rfl,zb g1 g2⟩
theorem zL (x:Int) (w:World):Calls Tryz.prog 191 #[.int .u64 x] w fun e w'=>e=.returned (.bool false)∧Grew w w':=by
 have e1:(x != x)=false:=by simp
 go_enter Tryz.func191,Tryz.ntmps191
 go_wp2_with fail
 go_ret
 exact⟨rfl,za _⟩
theorem qk (x y:Int) (w:World):Calls Tryz.prog 129 #[.int .u64 x,.int .u64 y] w fun e w'=>e=.returned (.int .i64 (cmpZ x y))∧Grew w w':=by
 unfold cmpZ
 rcases Int.lt_trichotomy x y with h | h | h
 ·have e1:decide (x<y)=true:=decide_eq_true h
  rw [if_pos h]
  clear h
  go_enter Tryz.func129,Tryz.ntmps129
  go_wp2_with fail
  refine(zL x w).mono ?_
  rintro e w1 ⟨rfl,g1⟩
  go_wp2_with fail
  refine(zL _ w1).mono ?_
  rintro e w2 ⟨rfl,g2⟩
  go_wp2_with fail
  go_ret
  exact⟨rfl,zb g1 g2⟩
 ·subst h
  have e1:decide (x<x)=false:=by simp
  rw [if_neg (by omega),if_neg (by omega)]
  go_enter Tryz.func129,Tryz.ntmps129
  go_wp2_with fail
  refine(zL x w).mono ?_
  rintro e w1 ⟨rfl,g1⟩
  go_wp2_with fail
  refine(zL _ w1).mono ?_
  rintro e w2 ⟨rfl,g2⟩
  go_wp2_with fail
  go_ret
  exact⟨rfl,zb g1 g2⟩
 ·have e1:decide (x<y)=false:=decide_eq_false (by omega)
  have e2:decide (y<x)=true:=decide_eq_true h
  rw [if_neg (by omega),if_pos h]
  clear h
  go_enter Tryz.func129,Tryz.ntmps129
  go_wp2_with fail
  refine(zL x w).mono ?_
  rintro e w1 ⟨rfl,g1⟩
  go_wp2_with fail
  refine(zL _ w1).mono ?_
  rintro e w2 ⟨rfl,g2⟩
  go_wp2_with fail
  go_ret
  exact⟨rfl,zb g1 g2⟩
structure I2 (x y:Int) (v:Value) (W:World):Prop where
 out:∃ b,v=.slice (some ⟨b,0,none⟩) 2 2∧Ag W b [.int .i64 x,.int .i64 y]
theorem I2.gr {x y:Int} {v:Value} {a b:World} (h:I2 x y v a) (g:Grew a b):I2 x y v b:=by
 obtain⟨q,h1,h2⟩:=h.out
 exact⟨q,h1,h2.grew g⟩
theorem or_ok (x y:Int) (b:Nat) (w:World) (h:Ag w b [.int .i64 x,.int .i64 y]):Calls Tryz.prog 127 #[.slice (some ⟨b,0,none⟩) 2 2] w fun e w'=>e=.returned (.int .i64 (if x≠0 then x else y))∧Grew w w':=by
 have c0:w.cell? ⟨b,0,none⟩=some (.int .i64 x):=by simpa using h.cell 0 _ rfl
 have c1:w.cell? ⟨b,1,none⟩=some (.int .i64 y):=by simpa using h.cell 1 _ rfl
 obtain⟨r,hr⟩:∃ r,(if x≠0 then x else y)=r:=⟨_,rfl⟩
 rw [hr]
 have HR:=hQ9 hr
 clear h hr
 go_enter Tryz.func127,Tryz.ntmps127
 go_wp2_with fail
 go_loopw [8] (fun iv wr=>wr=w∧((iv=.int .i64 0)∨(iv=.int .i64 1∧x=0)∨(iv=.int .i64 2∧x=0∧y=0))) (fun iv _=>2-(Go.RowKit.intOf iv).toNat)
 case atStart=>exact⟨rfl,.inl rfl⟩
 case round =>
  obtain⟨rfl,rfl | ⟨rfl,hx⟩ | ⟨rfl,hx,hy⟩⟩:=hrel
  ·by_cases hx:x=0
   ·have e1:(x != 0)=false:=by simp [hx]
    have HX:=hQ9 hx
    clear hx
    go_wp2_with fail
    go_roundw
    case rel=>exact⟨by trivial,.inr (.inl ⟨rfl,HX.out⟩)⟩
    case measure=>simp [Go.RowKit.intOf]
   ·have e1:(x != 0)=true:=by simp [hx]
    obtain rfl:x=r:=by have:=HR.out;rwa [if_pos hx]at this
    clear hx
    go_wp2_with fail
    go_ret
    exact⟨rfl,za _⟩
  ·by_cases hy:y=0
   ·have e1:(y != 0)=false:=by simp [hy]
    have HX:=hQ9 hx
    have HY:=hQ9 hy
    clear hx hy
    go_wp2_with fail
    go_roundw
    case rel=>exact⟨by trivial,.inr (.inr ⟨rfl,HX.out,HY.out⟩)⟩
    case measure=>simp [Go.RowKit.intOf]
   ·have e1:(y != 0)=true:=by simp [hy]
    obtain rfl:y=r:=by have:=HR.out;rwa [if_neg (by simp [hx])]at this
    clear hx hy
    go_wp2_with fail
    go_ret
    exact⟨rfl,za _⟩
  ·obtain rfl:r=0:=by have:=HR.out;rw [if_neg (by simp [hx])]at this;omega
   clear hx hy
   go_wp2_with fail
   go_ret
   exact⟨rfl,za _⟩
theorem xc (a b:En) (w:World):Calls Tryz.prog 58 #[.agg a.C,.agg b.C] w fun e w'=>e=.returned (.int .i64 (bfZ a b))∧Grew w w':=by
 have z0:=(Ag.new w 141 a.C).grew (zc (za _) (.cells b.C 141))
 have z1:=Ag.new (w.alloc (.cells a.C 141)) 141 b.C
 have G0:=zc (zc (za w) (.cells a.C 141)) (.cells b.C 141)
 obtain⟨b0,hb0⟩:∃ q,w.heap.size=q:=⟨_,rfl⟩
 obtain⟨b1,hb1⟩:∃ q,w.heap.size+1=q:=⟨_,rfl⟩
 obtain⟨w2,hw2⟩:∃ v,(w.alloc (.cells a.C 141)).alloc (.cells b.C 141)=v:=⟨_,rfl⟩
 rw [hb0,hw2]at z0
 rw [zg,hb1,hw2]at z1
 rw [hw2]at G0
 have HA0:Hid (∀ y,Grew w2 y→y.cell? ⟨b0,0,none⟩=some (.int .i64 a.at_)):=hQ9 (fun y g=>by simpa using (z0.grew g).cell 0 _ rfl)
 have HA1:Hid (∀ y,Grew w2 y→y.cell? ⟨b0,1,none⟩=some (.int .u64 (a.d:Nat))):=hQ9 (fun y g=>by simpa using (z0.grew g).cell 1 _ rfl)
 have HB0:Hid (∀ y,Grew w2 y→y.cell? ⟨b1,0,none⟩=some (.int .i64 b.at_)):=hQ9 (fun y g=>by simpa using (z1.grew g).cell 0 _ rfl)
 have HB1:Hid (∀ y,Grew w2 y→y.cell? ⟨b1,1,none⟩=some (.int .u64 (b.d:Nat))):=hQ9 (fun y g=>by simpa using (z1.grew g).cell 1 _ rfl)
 obtain⟨X,hX⟩:∃ x,cmpZ a.at_ b.at_=x:=⟨_,rfl⟩
 obtain⟨Y,hY⟩:∃ x,cmpZ (a.d:Int) (b.d:Int)=x:=⟨_,rfl⟩
 obtain⟨Z,hZ⟩:∃ x,bfZ a b=x:=⟨_,rfl⟩
 have hZ2:(if X≠0 then X else Y)=Z:=by rw [←hZ,←hX,←hY];rfl
 have CX:=hQ9 (fun W=>qj a.at_ b.at_ W)
 have CY:=hQ9 (fun W=>qk (a.d:Int) (b.d:Int) W)
 have CZ:=hQ9 (fun q W h=>or_ok X Y q W h)
 rw [hX]at CX
 rw [hY]at CY
 rw [hZ2]at CZ
 rw [hZ]
 have HG:=hQ9 G0
 have HB:=hQ9 (And.intro hb0 (And.intro hb1 hw2))
 clear z0 z1 G0 hX hY hZ hZ2 hb0 hb1 hw2
 go_enter Tryz.func58,Tryz.ntmps58
 go_upto_region 1 with fail
 rw [HB.out.2.1,HB.out.2.2,HB.out.1]
 refine ze 12 (fun ix9=>match ix9 with
  | 0=>fun v _=>v=.pointer (some ⟨b0,0,none⟩)
  | 1=>fun v _=>v=.int .i64 a.at_
  | 2=>fun v _=>v=.pointer (some ⟨b1,0,none⟩)
  | 3=>fun v _=>v=.int .i64 b.at_
  | 4=>fun v _=>v=.int .i64 X
  | 5=>fun v _=>v=.pointer (some ⟨b0,1,none⟩)
  | 6=>fun v _=>v=.int .u64 (a.d:Nat)
  | 7=>fun v _=>v=.pointer (some ⟨b1,1,none⟩)
  | 8=>fun v _=>v=.int .u64 (b.d:Nat)
  | 9=>fun v _=>v=.int .i64 Y
  | 10=>fun v W=>I2 X Y v W
  | 11=>fun v _=>v=.int .i64 Z
  | _=>fun _ _=>True) (by kernel_rfl) (by kernel_rfl) ?_ ?_ ?_
 ·intro i v x y h hg
  match i,h with
  | 0,h | 1,h | 2,h | 3,h | 4,h | 5,h | 6,h | 7,h | 8,h | 9,h | 11,h=>exact h
  | 10,h=>exact I2.gr h hg
  | m+12,_=>trivial
 ·simp only [actOf,tk1,tk0,dr1,dr0,Act.put,si1,st1,st0,Nat.reduceAdd]
  refine⟨?_,?_,?_,?_,?_,?_,?_,?_,?_,?_,?_,?_,trivial⟩
  ·intro vs y hg hd
   dsimp only
   go_wp2_with fail
   exact⟨rfl,_,rfl,za _,rfl⟩
  ·intro vs y hg hd
   obtain⟨h0,_⟩:=hd
   replace h0:=h0 rfl
   dsimp only
   rw [show vs 0=_ from h0]
   have hc:=HA0.out y hg
   go_wp2_with fail
   exact⟨rfl,_,rfl,za _,rfl⟩
  ·intro vs y hg hd
   dsimp only
   go_wp2_with fail
   exact⟨rfl,_,rfl,za _,rfl⟩
  ·intro vs y hg hd
   obtain⟨h2,_⟩:=hd
   replace h2:=h2 rfl
   dsimp only
   rw [show vs 2=_ from h2]
   have hc:=HB0.out y hg
   go_wp2_with fail
   exact⟨rfl,_,rfl,za _,rfl⟩
  ·intro vs y hg hd
   obtain⟨h1,h3,_⟩:=hd
   replace h1:=h1 rfl
   replace h3:=h3 rfl
   dsimp only
   rw [show vs 1=_ from h1,show vs 3=_ from h3]
   go_wp2_with(go_at_call 128;refine(CX.out y).mono ?_;rintro e z ⟨rfl,gz⟩)
   exact⟨rfl,_,rfl,gz,rfl⟩
  ·intro vs y hg hd
   dsimp only
   go_wp2_with fail
   exact⟨rfl,_,rfl,za _,rfl⟩
  ·intro vs y hg hd
   obtain⟨h5,_⟩:=hd
   replace h5:=h5 rfl
   dsimp only
   rw [show vs 5=_ from h5]
   have hc:=HA1.out y hg
   go_wp2_with fail
   exact⟨rfl,_,rfl,za _,rfl⟩
  ·intro vs y hg hd
   dsimp only
   go_wp2_with fail
   exact⟨rfl,_,rfl,za _,rfl⟩
  ·intro vs y hg hd
   obtain⟨h7,_⟩:=hd
   replace h7:=h7 rfl
   dsimp only
   rw [show vs 7=_ from h7]
   have hc:=HB1.out y hg
   go_wp2_with fail
   exact⟨rfl,_,rfl,za _,rfl⟩
  ·intro vs y hg hd
   obtain⟨h6,h8,_⟩:=hd
   replace h6:=h6 rfl
   replace h8:=h8 rfl
   dsimp only
   rw [show vs 6=_ from h6,show vs 8=_ from h8]
   go_wp2_with(go_at_call 129;refine(CY.out y).mono ?_;rintro e z ⟨rfl,gz⟩)
   exact⟨rfl,_,rfl,gz,rfl⟩
  ·intro vs y hg hd
   obtain⟨h4,h9,_⟩:=hd
   replace h4:=h4 rfl
   replace h9:=h9 rfl
   dsimp only
   rw [show vs 4=_ from h4,show vs 9=_ from h9]
   go_wp2_with fail
   exact⟨rfl,_,rfl,zc (za _) _,⟨_,rfl,Ag.new y 3 #[.int .i64 X,.int .i64 Y]⟩⟩
  ·intro vs y hg hd
   obtain⟨h10,_⟩:=hd
   replace h10:=h10 rfl
   dsimp only
   obtain⟨q,hq,hq2⟩:=h10.out
   rw [hq]
   go_wp2_with(go_at_call 127;refine(CZ.out q y hq2).mono ?_;rintro e z ⟨rfl,gz⟩)
   exact⟨rfl,_,rfl,gz,rfl⟩
 ·intro vs y hg hJ
  have j0:vs 0=.pointer (some ⟨b0,0,none⟩):=hJ 0 (by decide)
  have j1:vs 1=.int .i64 a.at_:=hJ 1 (by decide)
  have j2:vs 2=.pointer (some ⟨b1,0,none⟩):=hJ 2 (by decide)
  have j3:vs 3=.int .i64 b.at_:=hJ 3 (by decide)
  have j4:vs 4=.int .i64 X:=hJ 4 (by decide)
  have j5:vs 5=.pointer (some ⟨b0,1,none⟩):=hJ 5 (by decide)
  have j6:vs 6=.int .u64 (a.d:Nat):=hJ 6 (by decide)
  have j7:vs 7=.pointer (some ⟨b1,1,none⟩):=hJ 7 (by decide)
  have j8:vs 8=.int .u64 (b.d:Nat):=hJ 8 (by decide)
  have j9:vs 9=.int .i64 Y:=hJ 9 (by decide)
  have j11:vs 11=.int .i64 Z:=hJ 11 (by decide)
  have s15:=hJ 10 (by decide)
  clear hJ
  simp only [actOf,tk1,tk0,dr1,dr0,Act.put,si1,st1,st0,Nat.reduceAdd]
  rw [j11]
  clear j0 j1 j2 j3 j4 j5 j6 j7 j8 j9 j11 s15
  have GG:=zb HG.out hg
  go_wp2_with fail
  go_ret
  exact⟨rfl,GG⟩
end Go.Proofs.YtkpnheenacchhaaGreatDoor
namespace Go.Proofs.YtkpnheenacchhaaGreatDoor
open Go.RowKit
set_option linter.unnecessarySimpa false
theorem ql (e:En) (d bd:Nat) (w:World) (h:w.cell? ⟨bd,0,none⟩=some (.int .u64 (d:Nat))) :
 Calls Tryz.prog 61 #[.agg e.C,.pointer (some ⟨bd,0,none⟩)] w fun ev w'=>ev=.returned (.bool (e.d==d))∧Grew w w':=by
 have z0:=Ag.new w 141 e.C
 have c0:(w.alloc (.cells e.C 141)).cell? ⟨w.heap.size,1,none⟩=some (.int .u64 (e.d:Nat)):=by simpa using z0.cell 1 _ rfl
 have G0:=zc (za w) (.cells e.C 141)
 have c1:=zh h G0
 obtain⟨b,hb⟩:∃ b,(e.d==d)=b:=⟨_,rfl⟩
 have hb2:((e.d:Int)==(d:Int))=b:=by rw [←hb,Bool.eq_iff_iff,beq_iff_eq,beq_iff_eq];omega
 rw [hb]
 clear z0 hb
 go_enter Tryz.func61,Tryz.ntmps61
 go_wp2_with fail
 go_ret
 exact⟨rfl,G0⟩
theorem qm (A:Option Addr) (c:Nat) (E:List En) (hl:E.length≤1000) (d bd:Nat) (w:World) (hR:ltRdC w A 8 (enL E)) (hd:w.cell? ⟨bd,0,none⟩=some (.int .u64 (d:Nat))) :
 Calls Tryz.prog 132 #[.slice A E.length c,.func (.func 61) #[] #[.pointer (some ⟨bd,0,none⟩)]] w fun e w'=>∃ z:Int,e=.returned (.int .i64 z)∧decide (0≤z)=E.any (fun e=>e.d==d)∧Grew w w':=by
 have hub:=Tryz.underlying141
 have HR:=hQ9 hR
 have HD:=hQ9 hd
 have HL:=hQ9 hl
 clear hR hd hl
 go_enter Tryz.func132,Tryz.ntmps132
 go_wp2_with fail
 go_loopw [8] (fun iv wr=>∃ k:Nat,k≤E.length∧iv=.int .i64 (k:Int)∧(E.take k).any (fun e=>e.d==d)=false∧Grew w wr) (fun iv _=>E.length-(Go.RowKit.intOf iv).toNat)
 case atStart=>exact⟨0,Nat.zero_le _,rfl,by simp,za _⟩
 case round =>
  obtain⟨k,hk,rfl,hno,hg⟩:=hrel
  by_cases hlt:k<E.length
  ·obtain⟨gA,rfl,hgl,hm⟩:=HR.out k (by rw [zv];exact hlt)
   rw [zS]at hm
   have hk0:(0:Int)≤(k:Int):=by omega
   have hk1:(k:Int)<(E.length:Int):=by omega
   have e1:decide (k<E.length)=true:=decide_eq_true hlt
   have e4:IntKind.i64.wrap ((k:Int)+1)=(k:Int)+1:=IntWalk.i64_in _ (by have:=HL.out;omega)
   have HTS:Hid (E.take (k+1)=E.take k++[E[k]]):=hQ9 (by rw [List.take_succ_eq_append_getElem hlt])
   have HME:Hid (E[k]∈E):=hQ9 (List.getElem_mem hlt)
   have HLT:=hQ9 hlt
   have HNO:=hQ9 hno
   generalize E[k]=ek at *
   have hm2:wr.rangeAt gA (k*8) ek.C.toList:=fun j u hj=>by
    have:=hm j u hj
    rw [←this]
    exact World.cell?_of_block (hg.block gA hgl)
   have HM2:=hQ9 hm2
   have SE:Hid ((Tryz.prog.info? 141).map (·.size)=some ek.C.toList.length):=hQ9 zp
   have CA:=hQ9 (ql ek d bd wr (zh HD.out hg))
   obtain⟨b,hb⟩:∃ b,(ek.d==d)=b:=⟨_,rfl⟩
   rw [hb]at CA
   have HB:=hQ9 hb
   have HG:=hQ9 hg
   clear hm hm2 hb hno hlt hk hg
   go_wp2_with(with_reducible refine wpList_load_mid rfl 141 (.tmp 14) rfl gA (k*8) rfl ek.C.toList _ HM2.out hub rfl SE.out ?_;simp only [Array.toArray_toList])
   refine(CA.out).mono ?_
   rintro e w1 ⟨rfl,g1⟩
   have HG1:=hQ9 (zb HG.out g1)
   clear g1 CA
   cases b
   ·go_wp2_with fail
    go_roundw
    case rel=>exact⟨k+1,HLT.out,by go_num,by rw [HTS.out];simp [HNO.out,HB.out],HG1.out⟩
    case measure=>have:=HLT.out;simp [Go.RowKit.intOf];omega
   ·go_wp2_with fail
    go_ret
    exact⟨(k:Int),rfl,by rw [decide_eq_true (by omega)];exact(List.any_eq_true.2 ⟨ek,HME.out,HB.out⟩).symm,HG1.out⟩
  ·obtain rfl:k=E.length:=by omega
   have e1:decide (E.length<E.length)=false:=by simp
   rw [List.take_length]at hno
   have HNO:=hQ9 hno
   have HG:=hQ9 hg
   clear hno hlt hg hk
   go_wp2_with fail
   go_ret
   exact⟨-1,rfl,by rw [HNO.out];rfl,HG.out⟩
theorem y3 (A:Option Addr) (c:Nat) (E:List En) (hl:E.length≤1000) (d bd:Nat) (w:World) (hR:ltRdC w A 8 (enL E)) (hd:w.cell? ⟨bd,0,none⟩=some (.int .u64 (d:Nat))) :
 Calls Tryz.prog 60 #[.slice A E.length c,.func (.func 61) #[] #[.pointer (some ⟨bd,0,none⟩)]] w fun e w'=>e=.returned (.bool (E.any (fun e=>e.d==d)))∧Grew w w':=by
 have CI:=hQ9 (qm A c E hl d bd w hR hd)
 generalize E.any (fun e=>e.d==d)=b at *
 clear hR hd
 go_enter Tryz.func60,Tryz.ntmps60
 go_wp2_with fail
 refine(CI.out).mono ?_
 rintro e w1 ⟨z,rfl,hz,g1⟩
 go_wp2_with fail
 go_ret
 exact⟨rfl,g1⟩
theorem bf_lt (a b:En):bfZ a b<0↔a.at_<b.at_∨(a.at_=b.at_∧a.d<b.d):=by
 unfold bfZ cmpZ
 constructor
 ·intro h
  split at h<;>split at h<;>(try split at h)<;>omega
 ·intro h
  split<;>split<;>(try split)<;>omega
structure BsPos (E:List En) (x:En) (i:Nat):Prop where
 le:i≤E.length
 lo:∀ t (ht:t<E.length),t<i→bfZ E[t] x<0
 hi:∀ t (ht:t<E.length),i≤t→¬bfZ E[t] x<0
theorem bsF_ok (A:Option Addr) (c:Nat) (E:List En) (hl:E.length≤1000) (x:En) (w:World) (hR:ltRdC w A 8 (enL E)) (hmono:∀ a b (ha:a≤b) (hb:b<E.length),bfZ E[b] x<0→bfZ (E[a]'(by omega)) x<0) :
 Calls Tryz.prog 133 #[.slice A E.length c,.agg x.C,.func (.func 58) #[] #[]] w fun e w'=>∃(i:Nat) (v2:Value),e=.returned (.tuple #[.int .i64 (i:Int),v2])∧BsPos E x i∧Grew w w':=by
 have hub:=Tryz.underlying141
 have z0:=Ag.new w 141 x.C
 have G0:=zc (za w) (.cells x.C 141)
 have HR:=hQ9 (hR.gr G0)
 have HZ:=hQ9 z0
 have HG0:=hQ9 G0
 have HL:=hQ9 hl
 have HMO:=hQ9 hmono
 have SX:Hid ((Tryz.prog.info? 141).map (·.size)=some x.C.toList.length):=hQ9 zp
 clear hR z0 G0 hmono
 go_enter Tryz.func133,Tryz.ntmps133
 go_wp2_with fail
 obtain⟨bx,hbx⟩:∃ q,w.heap.size=q:=⟨_,rfl⟩
 rw [hbx]at HZ ⊢
 clear hbx
 go_loopw [9,10] (fun iv jv wr=>∃ i j:Nat,iv=.int .i64 (i:Int)∧jv=.int .i64 (j:Int)∧i≤j∧j≤E.length∧(∀ t (ht:t<E.length),t<i→bfZ E[t] x<0)∧(∀ t (ht:t<E.length),j≤t→¬bfZ E[t] x<0)∧Grew (w.alloc (.cells x.C 141)) wr) (fun iv jv _=>(Go.RowKit.intOf jv).toNat-(Go.RowKit.intOf iv).toNat)
 case atStart=>exact⟨0,E.length,rfl,rfl,Nat.zero_le _,Nat.le_refl _,fun t ht h=>absurd h (by omega),fun t ht h=>absurd ht (by omega),za _⟩
 case round =>
  obtain⟨i,j,rfl,rfl,hij,hjn,hlo,hhi,hg⟩:=hrel
  by_cases hlt:i<j
  ·have e1:decide (i<j)=true:=decide_eq_true hlt
   have e2:IntKind.i64.wrap ((i:Int)+(j:Int))=(i:Int)+(j:Int):=IntWalk.i64_in _ (by omega)
   obtain⟨h,hh⟩:∃ h:Nat,((i:Int)+(j:Int)) / 2=(h:Int):=⟨(i+j) / 2,by omega⟩
   have hih:i≤h:=by omega
   have hhj:h<j:=by omega
   have hhE:h<E.length:=by omega
   obtain⟨gA,rfl,hgl,hm⟩:=HR.out h (by rw [zv];exact hhE)
   rw [zS]at hm
   have HE0:Hid (∀ y,Grew wr y→y.rangeAt gA (h*8) E[h].C.toList):=hQ9 (fun y g j u hj=>by
    rw [←hm j u hj]
    exact World.cell?_of_block ((zb hg g).block gA hgl))
   have HX:Hid (∀ y,Grew wr y→y.rangeAt bx 0 x.C.toList):=hQ9 (fun y g=>(HZ.out.grew (zb hg g)).cell)
   obtain⟨eh,heh⟩:∃ e,E[h]=e:=⟨_,rfl⟩
   rw [heh]at HE0
   have HE:=hQ9 HE0.out
   have SE:Hid ((Tryz.prog.info? 141).map (·.size)=some eh.C.toList.length):=hQ9 zp
   have HEH:=hQ9 heh
   have HIJ:=hQ9 (And.intro hih (And.intro hhj (And.intro hhE hjn)))
   have HLO:=hQ9 hlo
   have HHI:=hQ9 hhi
   have HG:=hQ9 hg
   have hh0:(0:Int)≤(h:Int):=by omega
   have hh1:(h:Int)<(E.length:Int):=by omega
   have e5:IntKind.i64.wrap ((h:Int)+1)=(h:Int)+1:=IntWalk.i64_in _ (by omega)
   have e3:IntKind.u64.wrap ((i:Int)+(j:Int))=(i:Int)+(j:Int):=IntWalk.u64_in _ (by omega)
   have e6:IntKind.i64.wrap (h:Int)=(h:Int):=IntWalk.i64_in _ (by omega)
   have hh9:=hh
   clear hm HE0 heh hlo hhi hg hij hjn hlt hih hhj hh
   go_upto_region 5 with fail
   clear e2 e3 e6 hh9
   refine ze 7 (fun ix9=>match ix9 with
    | 0=>fun v _=>v=.func (.func 58) #[] #[]
    | 1=>fun v _=>v=.slice (some ⟨gA,0,none⟩) E.length c
    | 2=>fun v _=>v=.int .i64 (h:Int)
    | 3=>fun v _=>v=.pointer (some ⟨gA,h*8,none⟩)
    | 4=>fun v _=>v=.agg eh.C
    | 5=>fun v _=>v=.agg x.C
    | 6=>fun v _=>v=.int .i64 (bfZ eh x)
    | _=>fun _ _=>True) (by kernel_rfl) (by kernel_rfl) ?_ ?_ ?_
   ·intro i v x y h hg
    match i,h with
    | 0,h | 1,h | 2,h | 3,h | 4,h | 5,h | 6,h=>exact h
    | m+7,_=>trivial
   ·simp only [actOf,tk1,tk0,dr1,dr0,Act.put,si1,st1,st0,Nat.reduceAdd]
    refine⟨?_,?_,?_,?_,?_,?_,?_,trivial⟩
    ·intro vs y hg hd
     dsimp only
     go_wp2_with fail
     exact⟨rfl,_,rfl,za _,rfl⟩
    ·intro vs y hg hd
     dsimp only
     go_wp2_with fail
     exact⟨rfl,_,rfl,za _,rfl⟩
    ·intro vs y hg hd
     dsimp only
     go_wp2_with fail
     exact⟨rfl,_,rfl,za _,rfl⟩
    ·intro vs y hg hd
     obtain⟨h1,h2,_⟩:=hd
     replace h1:=h1 rfl
     replace h2:=h2 rfl
     dsimp only
     rw [show vs 1=_ from h1,show vs 2=_ from h2]
     go_wp2_with fail
     exact⟨rfl,_,rfl,za _,rfl⟩
    ·intro vs y hg hd
     obtain⟨h3,_⟩:=hd
     replace h3:=h3 rfl
     dsimp only
     rw [show vs 3=_ from h3]
     have hm:=HE.out y hg
     go_wp2_with(with_reducible refine wpList_load_mid rfl 141 (.tmp 27) rfl gA (h*8) rfl eh.C.toList _ hm hub rfl SE.out ?_;simp only [Array.toArray_toList])
     exact⟨rfl,_,rfl,za _,rfl⟩
    ·intro vs y hg hd
     dsimp only
     have hm:=HX.out y hg
     go_wp2_with(with_reducible refine wpList_load_mid rfl 141 (.tmp 4) rfl bx 0 rfl x.C.toList _ hm hub rfl SX.out ?_;simp only [Array.toArray_toList])
     exact⟨rfl,_,rfl,za _,rfl⟩
    ·intro vs y hg hd
     obtain⟨h0,h4,h5,_⟩:=hd
     replace h0:=h0 rfl
     replace h4:=h4 rfl
     replace h5:=h5 rfl
     dsimp only
     rw [show vs 0=_ from h0,show vs 4=_ from h4,show vs 5=_ from h5]
     go_wp2_with(refine(xc eh x y).mono ?_;rintro e z ⟨rfl,gz⟩)
     exact⟨rfl,_,rfl,gz,rfl⟩
   ·intro vs y hg hJ
    have j0:vs 0=.func (.func 58) #[] #[]:=hJ 0 (by decide)
    have j1:vs 1=.slice (some ⟨gA,0,none⟩) E.length c:=hJ 1 (by decide)
    have j2:vs 2=.int .i64 (h:Int):=hJ 2 (by decide)
    have j3:vs 3=.pointer (some ⟨gA,h*8,none⟩):=hJ 3 (by decide)
    have j4:vs 4=.agg eh.C:=hJ 4 (by decide)
    have j5:vs 5=.agg x.C:=hJ 5 (by decide)
    have j6:vs 6=.int .i64 (bfZ eh x):=hJ 6 (by decide)
    clear hJ
    simp only [actOf,tk1,tk0,dr1,dr0,Act.put,si1,st1,st0,Nat.reduceAdd]
    obtain⟨bv,hbv⟩:∃ z,bfZ eh x=z:=⟨_,rfl⟩
    rw [hbv]at j6
    rw [j6]
    have HBV:=hQ9 hbv
    have HGY:=hQ9 (zb HG.out hg)
    clear j0 j1 j2 j3 j4 j5 j6 hg hbv HG HE HX
    by_cases hz:bv<0
    ·have f1:decide (bv<0)=true:=decide_eq_true hz
     have HZ9:=hQ9 hz
     clear hz
     go_wp2_with fail
     go_roundw
     case rel =>
      obtain⟨q1,q2,q3,q4⟩:=HIJ.out
      exact⟨h+1,j,by go_num,rfl,by omega,q4,fun t ht h9=>HMO.out t h (by omega) q3 (by rw [HEH.out,HBV.out];exact HZ9.out),HHI.out,HGY.out⟩
     case measure=>have:=HIJ.out;simp [Go.RowKit.intOf];omega
    ·have f1:decide (bv<0)=false:=decide_eq_false hz
     have HZ9:=hQ9 hz
     clear hz
     go_wp2_with fail
     go_roundw
     case rel =>
      obtain⟨q1,q2,q3,q4⟩:=HIJ.out
      exact⟨i,h,rfl,rfl,q1,by omega,HLO.out,fun t ht h9 h8=>HZ9.out (by have:=HMO.out h t h9 ht h8;rwa [HEH.out,HBV.out]at this),HGY.out⟩
     case measure=>have:=HIJ.out;simp [Go.RowKit.intOf];omega
  ·obtain rfl:i=j:=by omega
   have e1:decide (i<i)=false:=by simp
   have HLO:=hQ9 hlo
   have HHI:=hQ9 hhi
   have HG:=hQ9 (zb HG0.out hg)
   have HG2:=hQ9 hg
   clear hlt hlo hhi hg hij
   by_cases hin:i<E.length
   ·have e2:decide (i<E.length)=true:=decide_eq_true hin
    obtain⟨gA,rfl,hgl,hm⟩:=HR.out i (by rw [zv];omega)
    rw [zS]at hm
    have HE0:Hid (∀ y,Grew wr y→y.rangeAt gA (i*8) (E[i]'(by omega)).C.toList):=hQ9 (fun y g j u hj=>by
     rw [←hm j u hj]
     exact World.cell?_of_block ((zb HG2.out g).block gA hgl))
    have HX:Hid (∀ y,Grew wr y→y.rangeAt bx 0 x.C.toList):=hQ9 (fun y g=>(HZ.out.grew (zb HG2.out g)).cell)
    obtain⟨eh,heh⟩:∃ e,(E[i]'(by omega))=e:=⟨_,rfl⟩
    rw [heh]at HE0
    have HE:=hQ9 HE0.out
    have SE:Hid ((Tryz.prog.info? 141).map (·.size)=some eh.C.toList.length):=hQ9 zp
    have hh0:(0:Int)≤(i:Int):=by omega
    have hh1:(i:Int)<(E.length:Int):=by omega
    have HJN:=hQ9 hjn
    clear hm HE0 heh hjn hin
    go_upto_region 8 with fail
    refine ze 15 (fun ix9=>match ix9 with
     | 0=>fun v _=>v=.int .i64 (i:Int)
     | 1=>fun v _=>v=.int .i64 (i:Int)
     | 2=>fun v _=>v=.int .i64 (E.length:Int)
     | 3=>fun v _=>v=.bool true
     | 4=>fun v _=>v=.bool true
     | 5=>fun v _=>v=.func (.func 58) #[] #[]
     | 6=>fun v _=>v=.slice (some ⟨gA,0,none⟩) E.length c
     | 7=>fun v _=>v=.int .i64 (i:Int)
     | 8=>fun v _=>v=.pointer (some ⟨gA,i*8,none⟩)
     | 9=>fun v _=>v=.agg eh.C
     | 10=>fun v _=>v=.agg x.C
     | 11=>fun v _=>v=.int .i64 (bfZ eh x)
     | 12=>fun v _=>v=.bool (bfZ eh x==0)
     | 13=>fun v _=>v=.bool (bfZ eh x==0)
     | 14=>fun v _=>v=.int .i64 (i:Int)
     | _=>fun _ _=>True) (by kernel_rfl) (by kernel_rfl) ?_ ?_ ?_
    ·intro i v x y h hg
     match i,h with
     | 0,h | 1,h | 2,h | 3,h | 4,h | 5,h | 6,h | 7,h | 8,h | 9,h | 10,h | 11,h | 12,h | 13,h | 14,h=>exact h
     | m+15,_=>trivial
    ·simp only [actOf,tk1,tk0,dr1,dr0,Act.put,si1,st1,st0,Nat.reduceAdd]
     refine⟨?_,?_,?_,?_,?_,?_,?_,?_,?_,?_,?_,?_,?_,?_,?_,trivial⟩
     ·intro vs y hg hd
      dsimp only
      go_wp2_with fail
      exact⟨rfl,_,rfl,za _,rfl⟩
     ·intro vs y hg hd
      dsimp only
      go_wp2_with fail
      exact⟨rfl,_,rfl,za _,rfl⟩
     ·intro vs y hg hd
      dsimp only
      go_wp2_with fail
      exact⟨rfl,_,rfl,za _,rfl⟩
     ·intro vs y hg hd
      obtain⟨h1,h2,_⟩:=hd
      replace h1:=h1 rfl
      replace h2:=h2 rfl
      dsimp only
      rw [show vs 1=_ from h1,show vs 2=_ from h2]
      go_wp2_with fail
      exact⟨rfl,_,rfl,za _,rfl⟩
     ·intro vs y hg hd
      obtain⟨h3,_⟩:=hd
      replace h3:=h3 rfl
      dsimp only
      rw [show vs 3=_ from h3]
      go_wp2_with fail
      exact⟨rfl,_,rfl,za _,rfl⟩
     ·intro vs y hg hd
      have hx:(Region.binds .any { on:=4,ground:=.guard }=true→vs 4=.bool true)∧True:=hd
      have h4:vs 4=.bool true:=hx.1 rfl
      clear hx
      dsimp only
      rw [show vs 4=_ from h4]
      go_wp2_with fail
      exact⟨rfl,_,rfl,za _,rfl⟩
     ·intro vs y hg hd
      have hx:(Region.binds .any { on:=4,ground:=.guard }=true→vs 4=.bool true)∧True:=hd
      have h4:vs 4=.bool true:=hx.1 rfl
      clear hx
      dsimp only
      rw [show vs 4=_ from h4]
      go_wp2_with fail
      exact⟨rfl,_,rfl,za _,rfl⟩
     ·intro vs y hg hd
      have hx:(Region.binds .any { on:=4,ground:=.guard }=true→vs 4=.bool true)∧True:=hd
      have h4:vs 4=.bool true:=hx.1 rfl
      clear hx
      dsimp only
      rw [show vs 4=_ from h4]
      go_wp2_with fail
      exact⟨rfl,_,rfl,za _,rfl⟩
     ·intro vs y hg hd
      have hx:(Region.binds .any { on:=6,ground:=.data }=true→vs 6=.slice (some ⟨gA,0,none⟩) E.length c)∧(Region.binds .any { on:=7,ground:=.data }=true→vs 7=.int .i64 (i:Int))∧(Region.binds .any { on:=4,ground:=.guard }=true→vs 4=.bool true)∧True:=hd
      have h6:vs 6=.slice (some ⟨gA,0,none⟩) E.length c:=hx.1 rfl
      have h7:vs 7=.int .i64 (i:Int):=hx.2.1 rfl
      have h4:vs 4=.bool true:=hx.2.2.1 rfl
      clear hx
      dsimp only
      rw [show vs 6=_ from h6,show vs 7=_ from h7,show vs 4=_ from h4]
      go_wp2_with fail
      exact⟨rfl,_,rfl,za _,rfl⟩
     ·intro vs y hg hd
      have hx:(Region.binds .any { on:=8,ground:=.data }=true→vs 8=.pointer (some ⟨gA,i*8,none⟩))∧(Region.binds .any { on:=4,ground:=.guard }=true→vs 4=.bool true)∧True:=hd
      have h8:vs 8=.pointer (some ⟨gA,i*8,none⟩):=hx.1 rfl
      have h4:vs 4=.bool true:=hx.2.1 rfl
      clear hx
      dsimp only
      rw [show vs 8=_ from h8,show vs 4=_ from h4]
      have hm:=HE.out y hg
      go_wp2_with(refine yE (by rfl) 141 (.tmp 43) rfl gA (i*8) rfl eh.C.toList _ hm hub rfl SE.out ?_;simp only [Array.toArray_toList])
      exact⟨rfl,_,rfl,za _,rfl⟩
     ·intro vs y hg hd
      have hx:(Region.binds .any { on:=4,ground:=.guard }=true→vs 4=.bool true)∧True:=hd
      have h4:vs 4=.bool true:=hx.1 rfl
      clear hx
      dsimp only
      rw [show vs 4=_ from h4]
      have hm:=HX.out y hg
      go_wp2_with(refine yE (by rfl) 141 (.tmp 4) rfl bx 0 rfl x.C.toList _ hm hub rfl SX.out ?_;simp only [Array.toArray_toList])
      exact⟨rfl,_,rfl,za _,rfl⟩
     ·intro vs y hg hd
      have hx:(Region.binds .any { on:=5,ground:=.data }=true→vs 5=.func (.func 58) #[] #[])∧(Region.binds .any { on:=9,ground:=.data }=true→vs 9=.agg eh.C)∧(Region.binds .any { on:=10,ground:=.data }=true→vs 10=.agg x.C)∧(Region.binds .any { on:=4,ground:=.chain }=true→vs 4=.bool true)∧(Region.binds .any { on:=4,ground:=.guard }=true→vs 4=.bool true)∧True:=hd
      have h5:vs 5=.func (.func 58) #[] #[]:=hx.1 rfl
      have h9:vs 9=.agg eh.C:=hx.2.1 rfl
      have h10:vs 10=.agg x.C:=hx.2.2.1 rfl
      have h4:vs 4=.bool true:=hx.2.2.2.2.1 rfl
      clear hx
      dsimp only
      rw [show vs 5=_ from h5,show vs 9=_ from h9,show vs 10=_ from h10,show vs 4=_ from h4]
      go_wp2_with(refine(xc eh x y).mono ?_;rintro e z ⟨rfl,gz⟩)
      exact⟨rfl,_,rfl,gz,rfl⟩
     ·intro vs y hg hd
      have hx:(Region.binds .any { on:=11,ground:=.data }=true→vs 11=.int .i64 (bfZ eh x))∧(Region.binds .any { on:=4,ground:=.guard }=true→vs 4=.bool true)∧(Region.binds .any { on:=14,ground:=_ }=true→vs 14=.int .i64 (i:Int))∧True:=hd
      have h11:vs 11=.int .i64 (bfZ eh x):=hx.1 rfl
      have h4:vs 4=.bool true:=hx.2.1 rfl
      clear hx
      dsimp only
      rw [show vs 11=_ from h11,show vs 4=_ from h4]
      go_wp2_with fail
      exact⟨rfl,_,rfl,za _,rfl⟩
     ·intro vs y hg hd
      obtain⟨h4,h12,_⟩:=hd
      replace h4:=h4 rfl
      replace h12:=h12 rfl
      dsimp only
      rw [show vs 4=_ from h4,show vs 12=_ from h12]
      go_wp2_with fail
      exact⟨rfl,_,rfl,za _,rfl⟩
     ·intro vs y hg hd
      obtain⟨h0,_⟩:=hd
      replace h0:=h0 rfl
      dsimp only
      rw [show vs 0=_ from h0]
      go_wp2_with fail
      exact⟨rfl,_,rfl,za _,rfl⟩
    ·intro vs y hg hJ
     have j0:vs 0=.int .i64 (i:Int):=hJ 0 (by decide)
     have j1:vs 1=.int .i64 (i:Int):=hJ 1 (by decide)
     have j2:vs 2=.int .i64 (E.length:Int):=hJ 2 (by decide)
     have j3:vs 3=.bool true:=hJ 3 (by decide)
     have j4:vs 4=.bool true:=hJ 4 (by decide)
     have j5:vs 5=.func (.func 58) #[] #[]:=hJ 5 (by decide)
     have j6:vs 6=.slice (some ⟨gA,0,none⟩) E.length c:=hJ 6 (by decide)
     have j7:vs 7=.int .i64 (i:Int):=hJ 7 (by decide)
     have j8:vs 8=.pointer (some ⟨gA,i*8,none⟩):=hJ 8 (by decide)
     have j9:vs 9=.agg eh.C:=hJ 9 (by decide)
     have j10:vs 10=.agg x.C:=hJ 10 (by decide)
     have j11:vs 11=.int .i64 (bfZ eh x):=hJ 11 (by decide)
     have j12:vs 12=.bool (bfZ eh x==0):=hJ 12 (by decide)
     have j13:vs 13=.bool (bfZ eh x==0):=hJ 13 (by decide)
     have j14:vs 14=.int .i64 (i:Int):=hJ 14 (by decide)
     clear hJ
     simp only [actOf,tk1,tk0,dr1,dr0,Act.put,si1,st1,st0,Nat.reduceAdd]
     rw [j13,j14]
     have HGY:=hQ9 (zb HG.out hg)
     clear j0 j1 j2 j3 j4 j5 j6 j7 j8 j9 j10 j11 j12 j13 j14 hg
     go_wp2_with fail
     go_ret2
     have HP:BsPos E x i:=⟨HJN.out,HLO.out,fun t ht h=>by have:=HHI.out t ht h;omega⟩
     first | exact⟨i,.bool (bfZ eh x==0),rfl,HP,HGY.out⟩ | exact⟨i,⟨_,rfl⟩,HP,HGY.out⟩
   ·have hiE:i=E.length:=by omega
    subst hiE
    have e2:decide (E.length<E.length)=false:=by simp
    have HJN:=hQ9 hjn
    clear hin hjn
    go_upto_region 8 with fail
    go_quiet (fail)
    go_wp2_with fail
    go_ret2
    have HP:BsPos E x E.length:=⟨Nat.le_refl _,HLO.out,fun t ht h=>by have:=HHI.out t ht h;omega⟩
    first | exact⟨E.length,.bool false,rfl,HP,zH HG.out _⟩ | exact⟨E.length,⟨_,rfl⟩,HP,zH HG.out _⟩
end Go.Proofs.YtkpnheenacchhaaGreatDoor
namespace Go.Proofs.YtkpnheenacchhaaGreatDoor
open Go.RowKit
set_option linter.unnecessarySimpa false
theorem Ag.set1L {w:World} {b:Nat} {cs:List Value} (h:Ag w b cs) (j:Nat) (v:Value) (hj:j<cs.length):Ag (w.setCell ⟨b,j,none⟩ v) b (cs.set j v):=by
 have ht:w.there b j [v].length:=fun i hi=>by
  have:i=0:=by simpa using hi
  subst this
  simpa using h.there j hj
 have hs:=World.rangeAt_setCells_same w b j [v] ht
 have e:w.setCells b j [v]=w.setCell ⟨b,j,none⟩ v:=rfl
 refine⟨fun i x hx=>?_,fun i hi=>⟨?_,?_⟩,Nat.lt_of_lt_of_le h.lt (by rw [←e];exact(zk [v] b j w).size)⟩
 ·by_cases hij:i=j
  ·subst hij
   rw [List.getElem?_set_self hj]at hx
   cases hx
   rw [←e]
   simpa using hs 0 v rfl
  ·rw [List.getElem?_set_ne (Ne.symm hij)]at hx
   rw [show(w.setCell ⟨b,j,none⟩ v).cell? ⟨b,0+i,none⟩=w.cell? ⟨b,0+i,none⟩ from World.cell?_setCell_other w _ _ v (fun e=>by injection e;omega)]
   exact h.cell i x hx
 ·rw [←e]
  exact World.isSome_setCells b [v] j w _ (h.there i (by simpa using hi)).1
 ·rw [←e,World.frozen?_setCells]
  exact(h.there i (by simpa using hi)).2
def srtE (E:List En):Prop:=E.Pairwise (fun a b=>bfZ a b<0)
structure PlS (w:World) (p base:Nat) (room fl:Int) (v:Value) (E:List En):Prop where
 ptr:Ag w p [.int .i64 room,.int .i64 fl,.func (.func 58) #[] #[],v]
 own:w.ownsRow base 141 8 v E.length (enL E).flatten
 ne:v.ownBlock≠some p
 srt:srtE E
 len:E.length≤1000
theorem PlS.gr {w w':World} {p base:Nat} {room fl:Int} {v:Value} {E:List En} (h:PlS w p base room fl v E) (g:Grew w w'):PlS w' p base room fl v E :=
 ⟨h.ptr.grew g,zm h.own g,h.ne,h.srt,h.len⟩
theorem PlS.kp {w w':World} {p base:Nat} {room fl:Int} {v:Value} {E:List En} {S:Nat→Prop} (h:PlS w p base room fl v E) (k:Kp S w w') (h1:¬S p) (h2:∀ g,v.ownBlock=some g→¬S g):PlS w' p base room fl v E :=
 ⟨h.ptr.kp k h1,zj h.own k (fun g hg=>h2 g hg),h.ne,h.srt,h.len⟩
theorem PlS.c0 {w:World} {p base:Nat} {room fl:Int} {v:Value} {E:List En} (h:PlS w p base room fl v E):w.cell? ⟨p,0,none⟩=some (.int .i64 room):=by simpa using h.ptr.cell 0 _ rfl
theorem PlS.c1 {w:World} {p base:Nat} {room fl:Int} {v:Value} {E:List En} (h:PlS w p base room fl v E):w.cell? ⟨p,1,none⟩=some (.int .i64 fl):=by simpa using h.ptr.cell 1 _ rfl
theorem PlS.c2 {w:World} {p base:Nat} {room fl:Int} {v:Value} {E:List En} (h:PlS w p base room fl v E):w.cell? ⟨p,2,none⟩=some (.func (.func 58) #[] #[]):=by simpa using h.ptr.cell 2 _ rfl
theorem PlS.c3 {w:World} {p base:Nat} {room fl:Int} {v:Value} {E:List En} (h:PlS w p base room fl v E):w.cell? ⟨p,3,none⟩=some v:=by simpa using h.ptr.cell 3 _ rfl
theorem PlS.f3 {w:World} {p base:Nat} {room fl:Int} {v:Value} {E:List En} (h:PlS w p base room fl v E) (j:Nat) (hj:j<4):w.frozen? ⟨p,j,none⟩=false:=by simpa using (h.ptr.there j (by simpa using hj)).2
theorem PlS.rd {w:World} {p base:Nat} {room fl:Int} {v:Value} {E:List En} (h:PlS w p base room fl v E):∃ A c,v=.slice A E.length c∧ltRdC w A 8 (enL E):=by
 obtain⟨A,c,h1,h2,_⟩:=z7 h.own (enL_z E) (by decide) (zv E)
 exact⟨A,c,h1,h2⟩
theorem qn (r:Int) (hr:r<1∨64<r) (w:World):Calls Tryz.prog 11 #[.int .i64 r] w fun e w'=>e=.returned (.tuple #[.pointer none,.int .i64 1])∧Grew w w':=by
 rcases hr with h | h
 ·have e1:decide (r<1)=true:=decide_eq_true h
  go_enter Tryz.func11,Tryz.ntmps11
  go_wp2_with fail
  go_ret2
  exact⟨rfl,za _⟩
 ·have e1:decide (r<1)=false:=decide_eq_false (by omega)
  have e2:decide (64<r)=true:=decide_eq_true h
  go_enter Tryz.func11,Tryz.ntmps11
  go_wp2_with fail
  go_ret2
  exact⟨rfl,za _⟩
theorem qo (r:Int) (hr:1≤r∧r≤64) (w:World):Calls Tryz.prog 11 #[.int .i64 r] w fun e w'=>∃ p,e=.returned (.tuple #[.pointer (some ⟨p,0,none⟩),.int .i64 0])∧PlS w' p w'.heap.size r 0 (.slice none 0 0) []∧w.heap.size≤p∧Grew w w':=by
 have e1:decide (r<1)=false:=decide_eq_false (by omega)
 have e2:decide (64<r)=false:=decide_eq_false (by omega)
 have z0:=Ag.new w 137 #[.int .i64 r,.int .i64 0,.func (.func 58) #[] #[],.slice none 0 0]
 go_enter Tryz.func11,Tryz.ntmps11
 go_wp2_with fail
 go_ret2
 exact⟨w.heap.size,rfl,⟨z0,World.ownsRow_nil _ _ _ _,by simp [Value.ownBlock],List.Pairwise.nil,by simp⟩,Nat.le_refl _,zc (za _) _⟩
theorem zT {p base:Nat} {room fl:Int} {v:Value} {E:List En} (w:World) (h:PlS w p base room fl v E):Calls Tryz.prog 25 #[.pointer (some ⟨p,0,none⟩)] w fun e w'=>e=.returned (.int .i64 (E.length:Int))∧w'=w:=by
 obtain⟨A,c,rfl,_⟩:=h.rd
 have hc:=h.c3
 clear h
 go_enter Tryz.func25,Tryz.ntmps25
 go_wp2_with fail
 go_ret
 exact⟨rfl,by trivial⟩
theorem qp {p base:Nat} {room fl:Int} {v:Value} {E:List En} (w:World) (h:PlS w p base room fl v E):Calls Tryz.prog 24 #[.pointer (some ⟨p,0,none⟩)] w fun e w'=>e=.returned (.int .i64 fl)∧w'=w:=by
 have hc:=h.c1
 clear h
 go_enter Tryz.func24,Tryz.ntmps24
 go_wp2_with fail
 go_ret
 exact⟨rfl,by trivial⟩
theorem qq {p base:Nat} {room fl:Int} {v:Value} {E:List En} (hi:Int) (hh:hi≤fl) (w:World) (h:PlS w p base room fl v E):Calls Tryz.prog 16 #[.pointer (some ⟨p,0,none⟩),.int .i64 hi] w fun e w'=>e=.returned (.bool false)∧w'=w:=by
 have hc:=h.c1
 have e1:decide (hi≤fl)=true:=decide_eq_true hh
 clear h hh
 go_enter Tryz.func16,Tryz.ntmps16
 go_wp2_with fail
 go_ret
 exact⟨rfl,by trivial⟩
theorem js {p base:Nat} {room fl:Int} {v:Value} {E:List En} (hi:Int) (hh:fl<hi) (w:World) (h:PlS w p base room fl v E):Calls Tryz.prog 16 #[.pointer (some ⟨p,0,none⟩),.int .i64 hi] w fun e w'=>e=.returned (.bool true)∧PlS w' p base room hi v E∧Kp (fun b=>b=p) w w':=by
 have hc:=h.c1
 have hf:=h.f3 1 (by decide)
 have e1:decide (hi≤fl)=false:=decide_eq_false (by omega)
 have z1:=h.ptr.set1L 1 (.int .i64 hi) (by simp)
 have k1:=zW (S:=fun b=>b=p) (zt _ w) (p:=⟨p,1,none⟩) (.inl rfl) (.int .i64 hi)
 have HP:Hid (PlS (w.setCell ⟨p,1,none⟩ (.int .i64 hi)) p base room hi v E):=hQ9 ⟨z1,zj h.own k1 (fun g hg e=>h.ne (by rw [hg];have e9:g=p:=e;rw [e9])),h.ne,h.srt,h.len⟩
 have HK:=hQ9 k1
 clear h hh z1 k1
 go_enter Tryz.func16,Tryz.ntmps16
 go_wp2_with fail
 go_ret
 exact⟨rfl,HP.out,HK.out⟩
end Go.Proofs.YtkpnheenacchhaaGreatDoor
namespace Go.Proofs.YtkpnheenacchhaaGreatDoor
open Go.RowKit
set_option linter.unnecessarySimpa false
theorem xu {E:List En} (h:srtE E) (x:En) (a b:Nat) (ha:a≤b) (hb:b<E.length) (h1:bfZ E[b] x<0):bfZ (E[a]'(by omega)) x<0:=by
 rcases Nat.lt_or_ge a b with hlt | hge
 ·have h2:=(List.pairwise_iff_getElem.1 h) a b (by omega) hb hlt
  rw [bf_lt]at h1 h2 ⊢
  omega
 ·obtain rfl:a=b:=by omega
  exact h1
theorem qr {E:List En} (h:srtE E) (x:En) (i:Nat) (hp:BsPos E x i) (hd:∀ e∈E,e.d≠x.d):srtE (E.take i++x::E.drop i):=by
 unfold srtE at h ⊢
 have hE:E.take i++E.drop i=E:=List.take_append_drop i E
 rw [←hE,List.pairwise_append]at h
 rw [List.pairwise_append]
 refine⟨h.1,?_,?_⟩
 ·rw [List.pairwise_cons]
  refine⟨fun b hb=>?_,h.2.1⟩
  obtain⟨t,ht,rfl⟩:=List.getElem_of_mem hb
  rw [List.length_drop]at ht
  have h1:=hp.hi (i+t) (by omega) (by omega)
  have h2:=hd _ (List.mem_of_mem_drop hb)
  rw [List.getElem_drop]at h2 ⊢
  rw [bf_lt]at h1 ⊢
  omega
 ·intro a ha b hb
  rcases List.mem_cons.1 hb with rfl | hb
  ·obtain⟨t,ht,rfl⟩:=List.getElem_of_mem ha
   rw [List.length_take]at ht
   rw [List.getElem_take]
   exact hp.lo t (by omega) (by omega)
  ·exact h.2.2 a ha b hb
structure BsV (i:Nat) (v:Value):Prop where
 out:∃ v2,v=.tuple #[.int .i64 (i:Int),v2]
structure OneV (w0:World) (x:En) (v:Value) (W:World):Prop where
 out:∃ vb,v=.slice (some ⟨vb,0,none⟩) 1 1∧OneB W vb x.C∧w0.heap.size≤vb
theorem OneB.kp {S:Nat→Prop} {a b:World} {vb:Nat} {x:Array Value} (h:OneB a vb x) (k:Kp S a b) (hs:¬S vb):OneB b vb x:=⟨(k.block vb h.lt hs).trans h.h,h.sz,h.one⟩
theorem OneV.gr {w0:World} {x:En} {v:Value} {a b:World} (h:OneV w0 x v a) (g:Grew a b):OneV w0 x v b:=by
 obtain⟨vb,h1,h2,h3⟩:=h.out
 exact⟨vb,h1,h2.kp (S:=fun _=>False) (zi g) (fun h=>h),h3⟩
theorem OneV.kp {w0:World} {x:En} {v:Value} {a b:World} {S:Nat→Prop} (h:OneV w0 x v a) (k:Kp S a b) (hs:∀ g,S g→g<w0.heap.size):OneV w0 x v b:=by
 obtain⟨vb,h1,h2,h3⟩:=h.out
 exact⟨vb,h1,h2.kp k (fun h=>by have:=hs vb h;omega),h3⟩
theorem OneV.new {w0:World} {x:En} {y:World} (h:w0.heap.size≤y.heap.size):OneV w0 x (.slice (some ⟨y.heap.size,0,none⟩) 1 1) (y.alloc (.cells x.C 141)) :=
 ⟨y.heap.size,rfl,⟨heap_alloc_new y _,x.size,x.one'⟩,h⟩
structure InsV (w0:World) (base:Nat) (A:Option Addr) (c:Nat) (E:List En) (x:En) (i:Nat) (v:Value) (W:World):Prop where
 own:W.ownsRow base 141 8 v (E.length+1) (enL (E.take i++x::E.drop i)).flatten
 ob:v.ownBlock=(Value.slice A E.length c).ownBlock∨∃ g,v.ownBlock=some g∧w0.heap.size≤g
theorem InsV.gr {w0:World} {base:Nat} {A:Option Addr} {c:Nat} {E:List En} {x:En} {i:Nat} {v:Value} {a b:World} (h:InsV w0 base A c E x i v a) (g:Grew a b):InsV w0 base A c E x i v b:=⟨zm h.own g,h.ob⟩
theorem BsPos.uniq {E:List En} {x:En} {i j:Nat} (h:BsPos E x i) (k:BsPos E x j):i=j:=by
 rcases Nat.lt_trichotomy i j with hlt | rfl | hlt
 ·exact absurd (k.lo i (by have:=k.le;omega) hlt) (h.hi i (by have:=k.le;omega) (Nat.le_refl _))
 ·rfl
 ·exact absurd (h.lo j (by have:=h.le;omega) hlt) (k.hi j (by have:=h.le;omega) (Nat.le_refl _))
theorem BsPos.ex (E:List En) (hs:srtE E) (x:En):∃ i,BsPos E x i:=by
 suffices h:∀ n,n≤E.length→∃ i,i≤n∧(∀ t (ht:t<E.length),t<i→bfZ E[t] x<0)∧(∀ t (ht:t<E.length),i≤t→t<n→¬bfZ E[t] x<0) by
  obtain⟨i,h1,h2,h3⟩:=h E.length (Nat.le_refl _)
  exact⟨i,h1,h2,fun t ht hi=>h3 t ht hi ht⟩
 intro n
 induction n with
 | zero=>intro _;exact⟨0,Nat.le_refl _,fun t ht h=>absurd h (by omega),fun t ht h h2=>absurd h2 (by omega)⟩
 | succ n ih =>
  intro hn
  obtain⟨i,h1,h2,h3⟩:=ih (by omega)
  by_cases hb:bfZ (E[n]'(by omega)) x<0
  ·exact⟨n+1,Nat.le_refl _,fun t ht hlt=>xu hs x t n (by omega) (by omega) hb,fun t ht hle hlt=>absurd hlt (by omega)⟩
  ·refine⟨i,by omega,h2,fun t ht hle hlt=>?_⟩
   rcases Nat.lt_or_ge t n with h | h
   ·exact h3 t ht hle h
   ·obtain rfl:t=n:=by omega
    exact hb
theorem qs {p base:Nat} {room fl:Int} {v:Value} {E:List En} (x:En) (hx:∀ e∈E,e.d≠x.d) (hl:E.length<1000) (w:World) (h:PlS w p base room fl v E) (hb:base≤w.heap.size) :
 Calls Tryz.prog 62 #[.pointer (some ⟨p,2,none⟩),.agg x.C] w fun e w'=>∃ i v',e=.returned (.tuple #[])∧BsPos E x i∧PlS w' p base room fl v' (E.take i++x::E.drop i)∧Kp (fun b=>b=p∨v.ownBlock=some b) w w'∧(v'.ownBlock=v.ownBlock∨∃ g,v'.ownBlock=some g∧w.heap.size≤g):=by
 obtain⟨i,hp⟩:=BsPos.ex E h.srt x
 have hub:=Tryz.underlying141
 have z0:=Ag.new w 141 x.C
 have G0:=zc (za w) (.cells x.C 141)
 obtain⟨A,c,rfl,hR⟩:=h.rd
 have h1:=h.gr G0
 have HR1:=hR.gr G0
 obtain⟨w1,hw1⟩:∃ W,w.alloc (.cells x.C 141)=W:=⟨_,rfl⟩
 obtain⟨bx,hbx⟩:∃ q,w.heap.size=q:=⟨_,rfl⟩
 rw [hw1]at z0 G0 h1 HR1
 rw [hbx]at z0
 have HX:Hid (∀ y,Grew w1 y→y.rangeAt bx 0 x.C.toList):=hQ9 (fun y g=>(z0.grew g).cell)
 have HC2:Hid (∀ y,Grew w1 y→y.cell? ⟨p,2,none⟩=some (.func (.func 58) #[] #[])):=hQ9 (fun y g=>(h1.gr g).c2)
 have HC3:Hid (∀ y,Grew w1 y→y.cell? ⟨p,3,none⟩=some (.slice A E.length c)):=hQ9 (fun y g=>(h1.gr g).c3)
 have CB:Hid (∀ y,Grew w1 y→Calls Tryz.prog 133 #[.slice A E.length c,.agg x.C,.func (.func 58) #[] #[]] y fun e w'=>∃ v2,e=.returned (.tuple #[.int .i64 (i:Int),v2])∧Grew y w'):=hQ9 (fun y g=>by
  refine(bsF_ok A c E h.len x y (HR1.gr g) (fun a b ha hb h9=>xu h.srt x a b ha hb h9)).mono ?_
  rintro e w' ⟨j,v2,he,hj,gj⟩
  obtain rfl:=hp.uniq hj
  exact⟨v2,he,gj⟩)
 have SX:Hid ((Tryz.prog.info? 141).map (·.size)=some x.C.toList.length):=hQ9 zp
 have HXS:Hid (Array.foldl (fun(cs:Array Value) (q:Value × Nat)=>cs.setIfInBounds q.snd q.fst) ((#[.int .i64 0,.int .u64 0,.int .i64 0,.int .i64 0,.int .i64 0,.int .i64 0,.int .i64 0,.slice none 0 0]:Array Value)) x.C.zipIdx 0 8=x.C):=hQ9 (by kernel_rfl)
 have HP:=hQ9 hp
 have HH:=hQ9 h1
 have HZ:=hQ9 z0
 have HW:=hQ9 (And.intro hw1 (And.intro hbx (And.intro G0 (And.intro hb (And.intro hl hx)))))
 have HGB:Hid (∀ g,(Value.slice A E.length c).ownBlock=some g→g<bx):=hQ9 (fun g hg=>by have:=(zl h.own g hg).2;omega)
 clear z0 G0 h1 HR1 hR h hp hb hl hx
 go_enter Tryz.func62,Tryz.ntmps62
 go_upto_region 1 with fail
 try rw [HW.out.1]
 try rw [HW.out.2.1]
 clear hw1 hbx
 refine ze 14 (fun ix9=>match ix9 with
  | 0=>fun v _=>v=.pointer (some ⟨p,2,none⟩)
  | 1=>fun v _=>v=.pointer (some ⟨p,2,none⟩)
  | 2=>fun v _=>v=.pointer (some ⟨p,3,none⟩)
  | 3=>fun v _=>v=.slice A E.length c
  | 4=>fun v _=>v=.agg x.C
  | 5=>fun v _=>v=.pointer (some ⟨p,2,none⟩)
  | 6=>fun v _=>v=.pointer (some ⟨p,2,none⟩)
  | 7=>fun v _=>v=.pointer (some ⟨p,2,none⟩)
  | 8=>fun v _=>v=.func (.func 58) #[] #[]
  | 9=>fun v _=>BsV i v
  | 10=>fun v _=>BsV i v
  | 11=>fun v _=>v=.int .i64 (i:Int)
  | 12=>fun _ _=>True
  | 13=>fun v _=>v=.int .i64 (i:Int)
  | _=>fun _ _=>True) (by kernel_rfl) (by kernel_rfl) ?_ ?_ ?_
 ·intro i v x y h hg
  match i,h with
  | 0,h | 1,h | 2,h | 3,h | 4,h | 5,h | 6,h | 7,h | 8,h | 11,h | 13,h=>exact h
  | 9,h=>exact h
  | 10,h=>exact h
  | 12,h=>exact trivial
  | m+14,_=>trivial
 ·simp only [actOf,tk1,tk0,dr1,dr0,Act.put,si1,st1,st0,Nat.reduceAdd]
  refine⟨?_,?_,?_,?_,?_,?_,?_,?_,?_,?_,?_,?_,?_,?_,trivial⟩
  ·intro vs y hg hd
   dsimp only
   go_wp2_with fail
   exact⟨rfl,_,rfl,za _,rfl⟩
  ·intro vs y hg hd
   obtain⟨h0,_⟩:=hd
   replace h0:=h0 rfl
   dsimp only
   rw [show vs 0=_ from h0]
   go_wp2_with fail
   exact⟨rfl,_,rfl,za _,rfl⟩
  ·intro vs y hg hd
   obtain⟨h1,_⟩:=hd
   replace h1:=h1 rfl
   dsimp only
   rw [show vs 1=_ from h1]
   go_wp2_with fail
   exact⟨rfl,_,rfl,za _,rfl⟩
  ·intro vs y hg hd
   obtain⟨h2,_⟩:=hd
   replace h2:=h2 rfl
   dsimp only
   rw [show vs 2=_ from h2]
   have hc:=HC3.out y hg
   go_wp2_with fail
   exact⟨rfl,_,rfl,za _,rfl⟩
  ·intro vs y hg hd
   dsimp only
   have hm:=HX.out y hg
   go_wp2_with(with_reducible refine wpList_load_mid rfl 141 (.tmp 3) rfl bx 0 rfl x.C.toList _ hm hub rfl SX.out ?_;simp only [Array.toArray_toList])
   exact⟨rfl,_,rfl,za _,rfl⟩
  ·intro vs y hg hd
   dsimp only
   go_wp2_with fail
   exact⟨rfl,_,rfl,za _,rfl⟩
  ·intro vs y hg hd
   obtain⟨h5,_⟩:=hd
   replace h5:=h5 rfl
   dsimp only
   rw [show vs 5=_ from h5]
   go_wp2_with fail
   exact⟨rfl,_,rfl,za _,rfl⟩
  ·intro vs y hg hd
   obtain⟨h6,_⟩:=hd
   replace h6:=h6 rfl
   dsimp only
   rw [show vs 6=_ from h6]
   go_wp2_with fail
   exact⟨rfl,_,rfl,za _,rfl⟩
  ·intro vs y hg hd
   obtain⟨h7,_⟩:=hd
   replace h7:=h7 rfl
   dsimp only
   rw [show vs 7=_ from h7]
   have hc:=HC2.out y hg
   go_wp2_with fail
   exact⟨rfl,_,rfl,za _,rfl⟩
  ·intro vs y hg hd
   obtain⟨h3,h4,h8,_⟩:=hd
   replace h3:=h3 rfl
   replace h4:=h4 rfl
   replace h8:=h8 rfl
   dsimp only
   rw [show vs 3=_ from h3,show vs 4=_ from h4,show vs 8=_ from h8]
   go_wp2_with(go_at_call 133;refine(CB.out y hg).mono ?_;rintro e z ⟨v2,rfl,gz⟩)
   exact⟨rfl,_,rfl,gz,⟨v2,rfl⟩⟩
  ·intro vs y hg hd
   obtain⟨h9,_⟩:=hd
   replace h9:=h9 rfl
   dsimp only
   go_wp2_with fail
   exact⟨rfl,_,rfl,za _,h9⟩
  ·intro vs y hg hd
   obtain⟨h10,_⟩:=hd
   replace h10:=h10 rfl
   dsimp only
   obtain⟨v2,hv⟩:=h10.out
   rw [hv]
   go_wp2_with fail
   exact⟨rfl,_,rfl,za _,rfl⟩
  ·intro vs y hg hd
   obtain⟨h10,_⟩:=hd
   replace h10:=h10 rfl
   dsimp only
   obtain⟨v2,hv⟩:=h10.out
   rw [hv]
   go_wp2_with fail
   exact⟨rfl,_,rfl,za _,trivial⟩
  ·intro vs y hg hd
   obtain⟨h11,_⟩:=hd
   replace h11:=h11 rfl
   dsimp only
   rw [show vs 11=_ from h11]
   go_wp2_with fail
   exact⟨rfl,_,rfl,za _,rfl⟩
 ·intro vs w2 hg hJ
  have j0:vs 0=.pointer (some ⟨p,2,none⟩):=hJ 0 (by decide)
  have j1:vs 1=.pointer (some ⟨p,2,none⟩):=hJ 1 (by decide)
  have j2:vs 2=.pointer (some ⟨p,3,none⟩):=hJ 2 (by decide)
  have j3:vs 3=.slice A E.length c:=hJ 3 (by decide)
  have j4:vs 4=.agg x.C:=hJ 4 (by decide)
  have j5:vs 5=.pointer (some ⟨p,2,none⟩):=hJ 5 (by decide)
  have j6:vs 6=.pointer (some ⟨p,2,none⟩):=hJ 6 (by decide)
  have j7:vs 7=.pointer (some ⟨p,2,none⟩):=hJ 7 (by decide)
  have j8:vs 8=.func (.func 58) #[] #[]:=hJ 8 (by decide)
  have j11:vs 11=.int .i64 (i:Int):=hJ 11 (by decide)
  have j13:vs 13=.int .i64 (i:Int):=hJ 13 (by decide)
  have s16:=hJ 9 (by decide)
  have s6:=hJ 10 (by decide)
  have s18:=hJ 12 (by decide)
  clear hJ
  simp only [actOf,tk1,tk0,dr1,dr0,Act.put,si1,st1,st0,Nat.reduceAdd]
  rw [j11,j13]
  have HG2:=hQ9 hg
  clear j0 j1 j2 j3 j4 j5 j6 j7 j8 j11 j13 s16 s6 s18 hg HC2 HC3 CB HX
  go_upto_region 2 with fail
  have h2:=HH.out.gr HG2.out
  have z2:=HZ.out.grew HG2.out
  have hne:=h2.ne
  have HX:Hid (∀ y,Kp (fun b=>(Value.slice A E.length c).ownBlock=some b) w2 y→y.rangeAt bx 0 x.C.toList):=hQ9 (fun y k=>(z2.kp k (fun e=>by have:=HGB.out _ e;omega)).cell)
  have HC3:Hid (∀ y,Kp (fun b=>(Value.slice A E.length c).ownBlock=some b) w2 y→y.cell? ⟨p,3,none⟩=some (.slice A E.length c)):=hQ9 (fun y k=>by have:=(h2.ptr.kp k hne).cell 3 _ rfl;simpa using this)
  have HSS:Hid (∀ g,(fun b=>(Value.slice A E.length c).ownBlock=some b) g→g<w2.heap.size):=hQ9 (fun g hg=>(zl h2.own g hg).2)
  have hbw:base≤w2.heap.size:=Nat.le_trans HW.out.2.2.2.1 (Nat.le_trans HW.out.2.2.1.size HG2.out.size)
  have CI:Hid (∀ y,Grew w2 y→∀ vb,OneB y vb x.C→w2.heap.size≤vb→Calls Tryz.prog 134 #[.slice A E.length c,.int .i64 (i:Int),.slice (some ⟨vb,0,none⟩) 1 1] y fun e w'=>∃ v9,e=.returned v9∧w'.ownsRow base 141 8 v9 (E.length+1) (enL (E.take i++x::E.drop i)).flatten∧Kp (fun b=>(Value.slice A E.length c).ownBlock=some b) y w'∧(v9.ownBlock=(Value.slice A E.length c).ownBlock∨∃ g,v9.ownBlock=some g∧w2.heap.size≤g)):=hQ9 (fun y g vb h8 h9=>by
   refine(ins_ok base (.slice A E.length c) (enL E) (enL_z E) (x4 E) E.length i (zv E) HP.out.le h2.len x.C vb y (zm h2.own g) h8 (fun e=>by have:=(zl h2.own vb e).2;omega) (Nat.le_trans hbw g.size)).mono ?_
   rintro e w' ⟨v9,he,hr,hk,ho⟩
   rw [qi]at hr
   exact⟨v9,he,hr,hk,ho.imp id (fun⟨q,h1,h2⟩=>⟨q,h1,Nat.le_trans g.size h2⟩)⟩)
  have HH2:=hQ9 h2
  clear h2 z2 hbw hne
  refine xh 11 8 (fun b=>(Value.slice A E.length c).ownBlock=some b) (fun ix9=>match ix9 with
   | 0=>fun v _=>v=.pointer (some ⟨p,2,none⟩)
   | 1=>fun v _=>v=.pointer (some ⟨p,2,none⟩)
   | 2=>fun v _=>v=.pointer (some ⟨p,2,none⟩)
   | 3=>fun v _=>v=.pointer (some ⟨p,3,none⟩)
   | 4=>fun v _=>v=.slice A E.length c
   | 5=>fun v _=>v=.int .i64 (i:Int)
   | 6=>fun v _=>v=.agg x.C
   | 7=>fun v W=>OneV w2 x v W
   | 8=>fun v W=>InsV w2 base A c E x i v W
   | 9=>fun v _=>v=.pointer (some ⟨p,2,none⟩)
   | 10=>fun v _=>v=.pointer (some ⟨p,3,none⟩)
   | _=>fun _ _=>True) (by kernel_rfl) (by kernel_rfl) ?_ ?_ ?_ ?_
  ·intro i v x y h hg
   match i,h with
   | 0,h | 1,h | 2,h | 3,h | 4,h | 5,h | 6,h | 9,h | 10,h=>exact h
   | 7,h=>exact OneV.gr h hg
   | 8,h=>exact InsV.gr h hg
   | m+11,_=>trivial
  ·intro i v x y hne hx h hg
   match i,h with
   | 0,h | 1,h | 2,h | 3,h | 4,h | 5,h | 6,h | 9,h | 10,h=>exact h
   | 7,h=>exact OneV.kp h hg (fun g hs=>HSS.out g hs)
   | 8,h=>exact absurd rfl hne
   | m+11,_=>trivial
  ·simp only [actOf,tk1,tk0,dr1,dr0,Act.put,si1,st1,st0,Nat.reduceAdd]
   refine⟨?_,?_,?_,?_,?_,?_,?_,?_,?_,?_,?_,trivial⟩
   ·intro vs y hg hd
    replace hg:Kp (fun b=>(Value.slice A E.length c).ownBlock=some b) w2 y:=hg
    dsimp only
    go_wp2_with fail
    exact⟨rfl,_,rfl,za _,rfl⟩
   ·intro vs y hg hd
    replace hg:Kp (fun b=>(Value.slice A E.length c).ownBlock=some b) w2 y:=hg
    dsimp only
    go_wp2_with fail
    exact⟨rfl,_,rfl,za _,rfl⟩
   ·intro vs y hg hd
    replace hg:Kp (fun b=>(Value.slice A E.length c).ownBlock=some b) w2 y:=hg
    obtain⟨h1,_⟩:=hd
    replace h1:=h1 rfl
    dsimp only
    rw [show vs 1=_ from h1]
    go_wp2_with fail
    exact⟨rfl,_,rfl,za _,rfl⟩
   ·intro vs y hg hd
    replace hg:Kp (fun b=>(Value.slice A E.length c).ownBlock=some b) w2 y:=hg
    obtain⟨h2,_⟩:=hd
    replace h2:=h2 rfl
    dsimp only
    rw [show vs 2=_ from h2]
    go_wp2_with fail
    exact⟨rfl,_,rfl,za _,rfl⟩
   ·intro vs y hg hd
    replace hg:Kp (fun b=>(Value.slice A E.length c).ownBlock=some b) w2 y:=hg
    obtain⟨h3,_⟩:=hd
    replace h3:=h3 rfl
    dsimp only
    rw [show vs 3=_ from h3]
    have hc:=HC3.out y hg
    go_wp2_with fail
    exact⟨rfl,_,rfl,za _,rfl⟩
   ·intro vs y hg hd
    replace hg:Kp (fun b=>(Value.slice A E.length c).ownBlock=some b) w2 y:=hg
    dsimp only
    go_wp2_with fail
    exact⟨rfl,_,rfl,za _,rfl⟩
   ·intro vs y hg hd
    replace hg:Kp (fun b=>(Value.slice A E.length c).ownBlock=some b) w2 y:=hg
    dsimp only
    have hm:=HX.out y hg
    go_wp2_with(with_reducible refine wpList_load_mid rfl 141 (.tmp 3) rfl bx 0 rfl x.C.toList _ hm hub rfl SX.out ?_;simp only [Array.toArray_toList])
    exact⟨rfl,_,rfl,za _,rfl⟩
   ·intro vs y hg hd
    replace hg:Kp (fun b=>(Value.slice A E.length c).ownBlock=some b) w2 y:=hg
    obtain⟨h6,_⟩:=hd
    replace h6:=h6 rfl
    dsimp only
    rw [show vs 6=_ from h6]
    have h88:=x.size
    have hxs:=HXS.out
    go_wp2_with fail
    exact⟨rfl,_,rfl,zc (za _) _,OneV.new hg.size⟩
   ·intro vs y hg hd
    replace hg:Grew w2 y:=hg
    obtain⟨h4,h5,h7,_⟩:=hd
    replace h4:=h4 rfl
    replace h5:=h5 rfl
    replace h7:=h7 rfl
    dsimp only
    rw [show vs 4=_ from h4,show vs 5=_ from h5]
    obtain⟨vb,hv,hvb,hvw⟩:=h7.out
    rw [hv]
    go_wp2_with(go_at_call 134;refine(CI.out y hg vb hvb hvw).mono ?_;rintro e z ⟨v9,rfl,hr9,hk9,ho9⟩)
    exact⟨rfl,_,rfl,hk9,⟨hr9,ho9⟩⟩
   ·intro vs y hg hd
    replace hg:Kp (fun b=>(Value.slice A E.length c).ownBlock=some b) w2 y:=hg
    obtain⟨h0,_⟩:=hd
    replace h0:=h0 rfl
    dsimp only
    rw [show vs 0=_ from h0]
    go_wp2_with fail
    exact⟨rfl,_,rfl,za _,rfl⟩
   ·intro vs y hg hd
    replace hg:Kp (fun b=>(Value.slice A E.length c).ownBlock=some b) w2 y:=hg
    obtain⟨h9,_⟩:=hd
    replace h9:=h9 rfl
    dsimp only
    rw [show vs 9=_ from h9]
    go_wp2_with fail
    exact⟨rfl,_,rfl,za _,rfl⟩
  ·intro vs w3 hg hJ
   have j0:vs 0=.pointer (some ⟨p,2,none⟩):=hJ 0 (by decide)
   have j1:vs 1=.pointer (some ⟨p,2,none⟩):=hJ 1 (by decide)
   have j2:vs 2=.pointer (some ⟨p,2,none⟩):=hJ 2 (by decide)
   have j3:vs 3=.pointer (some ⟨p,3,none⟩):=hJ 3 (by decide)
   have j4:vs 4=.slice A E.length c:=hJ 4 (by decide)
   have j5:vs 5=.int .i64 (i:Int):=hJ 5 (by decide)
   have j6:vs 6=.agg x.C:=hJ 6 (by decide)
   have j9:vs 9=.pointer (some ⟨p,2,none⟩):=hJ 9 (by decide)
   have j10:vs 10=.pointer (some ⟨p,3,none⟩):=hJ 10 (by decide)
   have s26:=hJ 7 (by decide)
   have s27:=hJ 8 (by decide)
   clear hJ
   simp only [actOf,tk1,tk0,dr1,dr0,Act.put,si1,st1,st0,Nat.reduceAdd]
   have i27:InsV w2 base A c E x i (vs 8) w3:=s27
   obtain⟨v',hv'⟩:∃ v,vs 8=v:=⟨_,rfl⟩
   rw [hv']at i27
   have hln:(E.take i++x::E.drop i).length=E.length+1:=by have:=HP.out.le;simp;omega
   have hown:w3.ownsRow base 141 8 v' (E.take i++x::E.drop i).length (enL (E.take i++x::E.drop i)).flatten:=by rw [hln];exact i27.own
   obtain⟨A',c',hA',_⟩:=z7 hown (enL_z _) (by decide) (zv _)
   have hpt:=HH2.out.ptr.kp hg HH2.out.ne
   have hc:=hpt.cell 3 _ rfl
   rw [show 0+3=3 from rfl]at hc
   have hf:w3.frozen? ⟨p,3,none⟩=false:=by simpa using (hpt.there 3 (by simp)).2
   have hne':v'.ownBlock≠some p:=by
    rcases i27.ob with h9 | ⟨g,h8,h9⟩
    ·rw [h9];exact HH2.out.ne
    ·rw [h8];intro e;injection e with e;have:=HH2.out.ptr.lt;omega
   have k4:=zW (S:=fun b=>b=p) (zt _ w3) (p:=⟨p,3,none⟩) (.inl rfl) v'
   have hP:PlS (w3.setCell ⟨p,3,none⟩ v') p base room fl v' (E.take i++x::E.drop i) :=
    ⟨hpt.set1L 3 v' (by simp),zj hown k4 (fun g hg e=>hne' (by rw [hg];have e9:g=p:=e;rw [e9])),hne',qr HH2.out.srt x i HP.out HW.out.2.2.2.2.2,by rw [hln];exact HW.out.2.2.2.2.1⟩
   have hK:Kp (fun b=>b=p∨(Value.slice A E.length c).ownBlock=some b) w (w3.setCell ⟨p,3,none⟩ v') :=
    zx (zx (zi (zb HW.out.2.2.1 HG2.out)) (yY hg (fun b h=>.inr h))) (yY k4 (fun b h=>.inl h))
   have hOb:v'.ownBlock=(Value.slice A E.length c).ownBlock∨∃ g,v'.ownBlock=some g∧w.heap.size≤g:=i27.ob.imp id (fun⟨g,h8,h9⟩=>⟨g,h8,Nat.le_trans (Nat.le_trans HW.out.2.2.1.size HG2.out.size) h9⟩)
   have HFIN:=hQ9 (And.intro hP (And.intro hK hOb))
   rw [j10,hv',hA',hln]
   rw [hA',hln]at HFIN
   clear i27 hown hpt hne' k4 hP hK hOb hv' hA' s26 s27 j0 j1 j2 j3 j4 j5 j6 j9 j10 hg HX HC3 HSS CI
   go_wp2_with fail
   go_end0
   exact⟨i,_,rfl,HP.out,HFIN.out.1,HFIN.out.2.1,HFIN.out.2.2⟩
end Go.Proofs.YtkpnheenacchhaaGreatDoor
namespace Go.Proofs.YtkpnheenacchhaaGreatDoor
open Go.RowKit
set_option linter.unnecessarySimpa false
theorem jt (e:En) (to:Int) (bd:Nat) (w:World) (h:w.cell? ⟨bd,0,none⟩=some (.int .i64 to)) :
 Calls Tryz.prog 74 #[.agg e.C,.pointer (some ⟨bd,0,none⟩)] w fun ev w'=>ev=.returned (.bool (decide (to<e.at_)))∧Grew w w':=by
 have z0:=Ag.new w 141 e.C
 have c0:(w.alloc (.cells e.C 141)).cell? ⟨w.heap.size,0,none⟩=some (.int .i64 e.at_):=by simpa using z0.cell 0 _ rfl
 have G0:=zc (za w) (.cells e.C 141)
 have c1:=zh h G0
 clear z0
 go_enter Tryz.func74,Tryz.ntmps74
 go_wp2_with fail
 go_ret
 exact⟨rfl,G0⟩
theorem kJ (e:En) (lo hi:Int) (b1 b2:Nat) (w:World) (h1:w.cell? ⟨b1,0,none⟩=some (.int .i64 lo)) (h2:w.cell? ⟨b2,0,none⟩=some (.int .i64 hi)) :
 Calls Tryz.prog 72 #[.agg e.C,.pointer (some ⟨b1,0,none⟩),.pointer (some ⟨b2,0,none⟩)] w fun ev w'=>ev=.returned (.bool (decide (lo<e.at_)&&decide (e.at_≤hi)))∧Grew w w':=by
 have z0:=Ag.new w 141 e.C
 have c0:(w.alloc (.cells e.C 141)).cell? ⟨w.heap.size,0,none⟩=some (.int .i64 e.at_):=by simpa using z0.cell 0 _ rfl
 have G0:=zc (za w) (.cells e.C 141)
 have c1:=zh h1 G0
 have c2:=zh h2 G0
 clear z0 h1 h2
 by_cases hl:lo<e.at_
 ·have e1:decide (lo<e.at_)=true:=decide_eq_true hl
  rw [e1,Bool.true_and]
  clear hl
  go_enter Tryz.func72,Tryz.ntmps72
  go_wp2_with fail
  go_ret
  exact⟨rfl,G0⟩
 ·have e1:decide (lo<e.at_)=false:=decide_eq_false hl
  rw [e1,Bool.false_and]
  clear hl
  go_enter Tryz.func72,Tryz.ntmps72
  go_wp2_with fail
  go_ret
  exact⟨rfl,G0⟩
def keepDP (to:Int) (e:En):Bool:=decide (to<e.at_)
theorem ju {p base:Nat} {room fl:Int} {v:Value} {E:List En} (to:Int) (bd:Nat) (w:World) (h:PlS w p base room fl v E) (hd:w.cell? ⟨bd,0,none⟩=some (.int .i64 to)) :
 Calls Tryz.prog 71 #[.pointer (some ⟨p,2,none⟩),.func (.func 74) #[] #[.pointer (some ⟨bd,0,none⟩)]] w fun e w'=>∃ v',e=.returned v'∧w'.ownsRow w.heap.size 141 8 v' (E.filter (keepDP to)).length (enL (E.filter (keepDP to))).flatten∧Grew w w':=by
 obtain⟨i0,hi0,hz0,hz1,hz2⟩:=info_parts zY
 have hub:=Tryz.underlying141
 obtain⟨A,c,rfl,hR⟩:=h.rd
 have hc:=h.c3
 have HC:Hid (∀ y,Grew w y→∀ e:En,Calls Tryz.prog 74 #[.agg e.C,.pointer (some ⟨bd,0,none⟩)] y fun ev w'=>ev=.returned (.bool (keepDP to e))∧Grew y w'):=hQ9 (fun y g e=>jt e to bd y (zh hd g))
 have HR:=hQ9 hR
 have HL:=hQ9 h.len
 have HP:Hid (keepDP to=keepDP to):=hQ9 rfl
 obtain⟨P,hP⟩:∃ P,keepDP to=P:=⟨_,rfl⟩
 rw [hP]at HC ⊢
 clear h hR hP HP hd
 go_enter Tryz.func71,Tryz.ntmps71
 go_wp2_with fail
 clear hc
 go_loopw [5,13] (fun rv iv wr=>∃(k:Nat) (pl:Value),pl=rv∧iv=.int .i64 (k:Int)∧k≤E.length∧wr.ownsRow w.heap.size 141 8 pl ((E.take k).filter P).length (enL ((E.take k).filter P)).flatten∧Grew w wr) (fun _ iv _=>E.length-(Go.RowKit.intOf iv).toNat)
 case atStart=>exact⟨0,_,rfl,rfl,Nat.zero_le _,by simpa [enL]using World.ownsRow_nil w w.heap.size 141 8,za _⟩
 case round =>
  obtain⟨k,pl,hpl,rfl,hk,hrow,hg⟩:=hrel
  subst hpl
  by_cases hlt:k<E.length
  ·obtain⟨gA,rfl,hgl,hm⟩:=HR.out k (by rw [zv];exact hlt)
   rw [zS]at hm
   have hk0:(0:Int)≤(k:Int):=by omega
   have hk1:(k:Int)<(E.length:Int):=by omega
   have e1:decide (k<E.length)=true:=decide_eq_true hlt
   have e4:IntKind.i64.wrap ((k:Int)+1)=(k:Int)+1:=IntWalk.i64_in _ (by have:=HL.out;omega)
   have HTS:Hid (E.take (k+1)=E.take k++[E[k]]):=hQ9 (by rw [List.take_succ_eq_append_getElem hlt])
   have HLT:=hQ9 hlt
   have hrl:((E.take k).filter P).length≤1000:=Nat.le_trans (List.length_filter_le _ _) (by rw [List.length_take];have:=HL.out;omega)
   generalize E[k]=ek at *
   have HM2:Hid (wr.rangeAt gA (k*8) ek.C.toList):=hQ9 (fun j u hj=>by
    have:=hm j u hj
    rw [←this]
    exact World.cell?_of_block (hg.block gA hgl))
   have SE:Hid ((Tryz.prog.info? 141).map (·.size)=some ek.C.toList.length):=hQ9 zp
   have SZ:Hid ((Tryz.prog.info? 141).map (·.size)=some ek.C.size):=hQ9 zp
   have HO:=hQ9 ek.one
   have HO':=hQ9 ek.one'
   have HXS:Hid (Array.foldl (fun(cs:Array Value) (q:Value × Nat)=>cs.setIfInBounds q.snd q.fst) ((#[.int .i64 0,.int .u64 0,.int .i64 0,.int .i64 0,.int .i64 0,.int .i64 0,.int .i64 0,.slice none 0 0]:Array Value)) ek.C.zipIdx 0 8=ek.C):=hQ9 (by kernel_rfl)
   obtain⟨w2,hw2,ht2,g2,z2⟩:=z6 wr 141 (#[.int .i64 0,.int .u64 0,.int .i64 0,.int .i64 0,.int .i64 0,.int .i64 0,.int .i64 0,.slice none 0 0]:Array Value) ek.C rfl
   have G2:=zb hg g2
   have HW2:=hQ9 hw2
   have HT2:=hQ9 ht2
   have row2:=zm hrow g2
   have hblt:=zl hrow
   have CA:=hQ9 (HC.out w2 G2 ek)
   obtain⟨b,hb⟩:∃ b,P ek=b:=⟨_,rfl⟩
   rw [hb]at CA
   have HB:=hQ9 hb
   have HZ2:=hQ9 z2
   have HG2:=hQ9 G2
   have HROW:=hQ9 row2
   have HBL:Hid (∀ g,pl.ownBlock=some g→w.heap.size≤g∧g<wr.heap.size):=hQ9 hblt
   have HMQ:Hid (w2.rangeAt wr.heap.size 0 ek.C.toList):=hQ9 z2.cell
   clear hm hb hlt hk hg hw2 ht2 g2 z2 G2 row2 hrow hblt
   go_wp2_with(first
    | (with_reducible refine wpList_load_mid rfl 141 (.tmp 15) rfl gA (k*8) rfl ek.C.toList _ HM2.out hub rfl SE.out ?_;simp only [Array.toArray_toList])
    | (with_reducible refine wpList_store_mid rfl 141 (.tmp 7) (.tmp 16) rfl wr.heap.size 0 ek.C rfl rfl HT2.out SZ.out HO.out ?_;rw [HW2.out])
    | (with_reducible refine wpList_load_mid rfl 141 (.tmp 7) rfl wr.heap.size 0 rfl ek.C.toList _ HMQ.out hub rfl SE.out ?_;simp only [Array.toArray_toList]))
   refine(CA.out).mono ?_
   rintro e w3 ⟨rfl,g3⟩
   have z3:=HZ2.out.grew g3
   have HG3:=hQ9 (zb HG2.out g3)
   have row3:=zm HROW.out g3
   have HM3:Hid (w3.rangeAt wr.heap.size 0 ek.C.toList):=hQ9 z3.cell
   clear g3 CA z3 HMQ HM2 HW2 HT2
   cases b
   ·have HR3:=hQ9 row3
    clear row3
    go_wp2_with fail
    go_roundw
    case rel=>exact⟨k+1,_,rfl,by go_num,HLT.out,by rw [HTS.out,List.filter_append];simpa [HB.out]using HR3.out,HG3.out⟩
    case measure=>have:=HLT.out;simp [Go.RowKit.intOf];omega
   ·have h88:=ek.size
    have hbs:w.heap.size≤w3.heap.size:=HG3.out.size
    go_wp2_with(first
     | (with_reducible refine wpList_load_mid rfl 141 (.tmp 7) rfl wr.heap.size 0 rfl ek.C.toList _ HM3.out hub rfl SE.out ?_;simp only [Array.toArray_toList])
     | (at_builtin;rw [HXS.out];refine zo _ rfl (.tmp 20) (.tmp 22) 133 rfl w.heap.size 141 i0 (.agg (#[.int .i64 0,.int .u64 0,.int .i64 0,.int .i64 0,.int .i64 0,.int .i64 0,.int .i64 0,.slice none 0 0]:Array Value)) 8 80 Tryz.underlying133 hi0 hz0 hz1 hz2 rfl (by decide) _ ((E.take k).filter P).length _ rfl (row3.alloc _) ⟨w3.heap.size,0,none⟩ 1 1 ek.C.toList rfl (by rw [Array.length_toList,h88]) (fun j u hj=>zX w3 ek.C 141 j u hj) HO'.out (by unfold maxLen;omega) (by omega) (by rw [zg];omega) ?_;intro v' w8 hown8 hgr8 hob8))
    have G8:Grew w w8:=(zc HG3.out _).grown hgr8 (by rw [zg];omega) (fun g h=>(HBL.out g h).1)
    have HR8:=hQ9 hown8
    have HG8:=hQ9 G8
    clear hown8 hgr8 hob8 G8 row3
    go_roundw
    case rel=>exact⟨k+1,_,rfl,by go_num,HLT.out,by rw [HTS.out,List.filter_append];simpa [HB.out,enL]using HR8.out,HG8.out⟩
    case measure=>have:=HLT.out;simp [Go.RowKit.intOf];omega
  ·obtain rfl:k=E.length:=by omega
   have e1:decide (E.length<E.length)=false:=by simp
   rw [List.take_length]at hrow
   have HROW:=hQ9 hrow
   have HG:=hQ9 hg
   clear hlt hk hrow hg
   go_wp2_with fail
   go_ret
   exact⟨pl,rfl,HROW.out,HG.out⟩
def keepRP (lo hi:Int) (e:En):Bool:=decide (lo<e.at_)&&decide (e.at_≤hi)
theorem jw {p base:Nat} {room fl:Int} {v:Value} {E:List En} (lo hi:Int) (b1 b2:Nat) (w:World) (h:PlS w p base room fl v E) (h1:w.cell? ⟨b1,0,none⟩=some (.int .i64 lo)) (h2:w.cell? ⟨b2,0,none⟩=some (.int .i64 hi)) :
 Calls Tryz.prog 71 #[.pointer (some ⟨p,2,none⟩),.func (.func 72) #[] #[.pointer (some ⟨b1,0,none⟩),.pointer (some ⟨b2,0,none⟩)]] w fun e w'=>∃ v',e=.returned v'∧w'.ownsRow w.heap.size 141 8 v' (E.filter (keepRP lo hi)).length (enL (E.filter (keepRP lo hi))).flatten∧Grew w w':=by
 obtain⟨i0,hi0,hz0,hz1,hz2⟩:=info_parts zY
 have hub:=Tryz.underlying141
 obtain⟨A,c,rfl,hR⟩:=h.rd
 have hc:=h.c3
 have HC:Hid (∀ y,Grew w y→∀ e:En,Calls Tryz.prog 72 #[.agg e.C,.pointer (some ⟨b1,0,none⟩),.pointer (some ⟨b2,0,none⟩)] y fun ev w'=>ev=.returned (.bool (keepRP lo hi e))∧Grew y w'):=hQ9 (fun y g e=>kJ e lo hi b1 b2 y (zh h1 g) (zh h2 g))
 have HR:=hQ9 hR
 have HL:=hQ9 h.len
 have HP:Hid (keepRP lo hi=keepRP lo hi):=hQ9 rfl
 obtain⟨P,hP⟩:∃ P,keepRP lo hi=P:=⟨_,rfl⟩
 rw [hP]at HC ⊢
 clear h hR hP HP h1 h2
 go_enter Tryz.func71,Tryz.ntmps71
 go_wp2_with fail
 clear hc
 go_loopw [5,13] (fun rv iv wr=>∃(k:Nat) (pl:Value),pl=rv∧iv=.int .i64 (k:Int)∧k≤E.length∧wr.ownsRow w.heap.size 141 8 pl ((E.take k).filter P).length (enL ((E.take k).filter P)).flatten∧Grew w wr) (fun _ iv _=>E.length-(Go.RowKit.intOf iv).toNat)
 case atStart=>exact⟨0,_,rfl,rfl,Nat.zero_le _,by simpa [enL]using World.ownsRow_nil w w.heap.size 141 8,za _⟩
 case round =>
  obtain⟨k,pl,hpl,rfl,hk,hrow,hg⟩:=hrel
  subst hpl
  by_cases hlt:k<E.length
  ·obtain⟨gA,rfl,hgl,hm⟩:=HR.out k (by rw [zv];exact hlt)
   rw [zS]at hm
   have hk0:(0:Int)≤(k:Int):=by omega
   have hk1:(k:Int)<(E.length:Int):=by omega
   have e1:decide (k<E.length)=true:=decide_eq_true hlt
   have e4:IntKind.i64.wrap ((k:Int)+1)=(k:Int)+1:=IntWalk.i64_in _ (by have:=HL.out;omega)
   have HTS:Hid (E.take (k+1)=E.take k++[E[k]]):=hQ9 (by rw [List.take_succ_eq_append_getElem hlt])
   have HLT:=hQ9 hlt
   have hrl:((E.take k).filter P).length≤1000:=Nat.le_trans (List.length_filter_le _ _) (by rw [List.length_take];have:=HL.out;omega)
   generalize E[k]=ek at *
   have HM2:Hid (wr.rangeAt gA (k*8) ek.C.toList):=hQ9 (fun j u hj=>by
    have:=hm j u hj
    rw [←this]
    exact World.cell?_of_block (hg.block gA hgl))
   have SE:Hid ((Tryz.prog.info? 141).map (·.size)=some ek.C.toList.length):=hQ9 zp
   have SZ:Hid ((Tryz.prog.info? 141).map (·.size)=some ek.C.size):=hQ9 zp
   have HO:=hQ9 ek.one
   have HO':=hQ9 ek.one'
   have HXS:Hid (Array.foldl (fun(cs:Array Value) (q:Value × Nat)=>cs.setIfInBounds q.snd q.fst) ((#[.int .i64 0,.int .u64 0,.int .i64 0,.int .i64 0,.int .i64 0,.int .i64 0,.int .i64 0,.slice none 0 0]:Array Value)) ek.C.zipIdx 0 8=ek.C):=hQ9 (by kernel_rfl)
   obtain⟨w2,hw2,ht2,g2,z2⟩:=z6 wr 141 (#[.int .i64 0,.int .u64 0,.int .i64 0,.int .i64 0,.int .i64 0,.int .i64 0,.int .i64 0,.slice none 0 0]:Array Value) ek.C rfl
   have G2:=zb hg g2
   have HW2:=hQ9 hw2
   have HT2:=hQ9 ht2
   have row2:=zm hrow g2
   have hblt:=zl hrow
   have CA:=hQ9 (HC.out w2 G2 ek)
   obtain⟨b,hb⟩:∃ b,P ek=b:=⟨_,rfl⟩
   rw [hb]at CA
   have HB:=hQ9 hb
   have HZ2:=hQ9 z2
   have HG2:=hQ9 G2
   have HROW:=hQ9 row2
   have HBL:Hid (∀ g,pl.ownBlock=some g→w.heap.size≤g∧g<wr.heap.size):=hQ9 hblt
   have HMQ:Hid (w2.rangeAt wr.heap.size 0 ek.C.toList):=hQ9 z2.cell
   clear hm hb hlt hk hg hw2 ht2 g2 z2 G2 row2 hrow hblt
   go_wp2_with(first
    | (with_reducible refine wpList_load_mid rfl 141 (.tmp 15) rfl gA (k*8) rfl ek.C.toList _ HM2.out hub rfl SE.out ?_;simp only [Array.toArray_toList])
    | (with_reducible refine wpList_store_mid rfl 141 (.tmp 7) (.tmp 16) rfl wr.heap.size 0 ek.C rfl rfl HT2.out SZ.out HO.out ?_;rw [HW2.out])
    | (with_reducible refine wpList_load_mid rfl 141 (.tmp 7) rfl wr.heap.size 0 rfl ek.C.toList _ HMQ.out hub rfl SE.out ?_;simp only [Array.toArray_toList]))
   refine(CA.out).mono ?_
   rintro e w3 ⟨rfl,g3⟩
   have z3:=HZ2.out.grew g3
   have HG3:=hQ9 (zb HG2.out g3)
   have row3:=zm HROW.out g3
   have HM3:Hid (w3.rangeAt wr.heap.size 0 ek.C.toList):=hQ9 z3.cell
   clear g3 CA z3 HMQ HM2 HW2 HT2
   cases b
   ·have HR3:=hQ9 row3
    clear row3
    go_wp2_with fail
    go_roundw
    case rel=>exact⟨k+1,_,rfl,by go_num,HLT.out,by rw [HTS.out,List.filter_append];simpa [HB.out]using HR3.out,HG3.out⟩
    case measure=>have:=HLT.out;simp [Go.RowKit.intOf];omega
   ·have h88:=ek.size
    have hbs:w.heap.size≤w3.heap.size:=HG3.out.size
    go_wp2_with(first
     | (with_reducible refine wpList_load_mid rfl 141 (.tmp 7) rfl wr.heap.size 0 rfl ek.C.toList _ HM3.out hub rfl SE.out ?_;simp only [Array.toArray_toList])
     | (at_builtin;rw [HXS.out];refine zo _ rfl (.tmp 20) (.tmp 22) 133 rfl w.heap.size 141 i0 (.agg (#[.int .i64 0,.int .u64 0,.int .i64 0,.int .i64 0,.int .i64 0,.int .i64 0,.int .i64 0,.slice none 0 0]:Array Value)) 8 80 Tryz.underlying133 hi0 hz0 hz1 hz2 rfl (by decide) _ ((E.take k).filter P).length _ rfl (row3.alloc _) ⟨w3.heap.size,0,none⟩ 1 1 ek.C.toList rfl (by rw [Array.length_toList,h88]) (fun j u hj=>zX w3 ek.C 141 j u hj) HO'.out (by unfold maxLen;omega) (by omega) (by rw [zg];omega) ?_;intro v' w8 hown8 hgr8 hob8))
    have G8:Grew w w8:=(zc HG3.out _).grown hgr8 (by rw [zg];omega) (fun g h=>(HBL.out g h).1)
    have HR8:=hQ9 hown8
    have HG8:=hQ9 G8
    clear hown8 hgr8 hob8 G8 row3
    go_roundw
    case rel=>exact⟨k+1,_,rfl,by go_num,HLT.out,by rw [HTS.out,List.filter_append];simpa [HB.out,enL]using HR8.out,HG8.out⟩
    case measure=>have:=HLT.out;simp [Go.RowKit.intOf];omega
  ·obtain rfl:k=E.length:=by omega
   have e1:decide (E.length<E.length)=false:=by simp
   rw [List.take_length]at hrow
   have HROW:=hQ9 hrow
   have HG:=hQ9 hg
   clear hlt hk hrow hg
   go_wp2_with fail
   go_ret
   exact⟨pl,rfl,HROW.out,HG.out⟩
end Go.Proofs.YtkpnheenacchhaaGreatDoor
