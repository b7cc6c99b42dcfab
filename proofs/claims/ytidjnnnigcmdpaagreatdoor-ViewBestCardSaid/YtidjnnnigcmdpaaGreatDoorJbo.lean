/- block.ValidQC (mkvok.py). -/
import Derived.Test.YtidjnnnigcmdpaaGreatDoorJzz
import Derived.Test.YtidjnnnigcmdpaaGreatDoorJbn
import Derived.Test.YtidjnnnigcmdpaaGreatDoorJbm
import Derived.Test.YtidjnnnigcmdpaaGreatDoorJbl
import Derived.Laws.MakeOwn
set_option maxHeartbeats 4000000
set_option maxRecDepth 100000
set_option linter.unusedSimpArgs false
set_option linter.unusedVariables false
set_option linter.unnecessarySimpa false
namespace Go.Proofs.YtidjnnnigcmdpaaGreatDoor
open Go.RowKit
noncomputable def vqE (K:KP) (u:Int) (d:Nat) (L:List VP):Int:=if u=0 then (if d=0 then (if L.length=0 then 0 else 1) else 1) else cqV K u d L
theorem zhl {K:KP} (hK:K.ok) (u:Int) (d:Nat) (A:Option Addr) (cap:Nat) (L:List VP) (hl:L.length≤100000) (w:World) (hS:Std w) (hk:K.at w) (hL:Vps w A L) :
 Calls Tryz.prog 39 #[.agg K.C,.agg (vqC u d A L.length cap)] w fun e w'=>e=.returned (.int .i64 (vqE K u d L))∧Grew w w':=by
 have huf:=Tryz.underlying46
 have HCF:Hid ((Tryz.prog.info? 46).map (·.size)=some [Value.int .i64 K.f].length):=hQ9 (by kernel_rfl)
 have z0:=(Ag.new w 49 K.C).grew (zf (zc _) (.cells (vqC u d A L.length cap) 38))
 have z1:=Ag.new (w.alloc (.cells K.C 49)) 38 (vqC u d A L.length cap)
 rw [zi]at z1
 have G0:=zf (zf (zc w) (.cells K.C 49)) (.cells (vqC u d A L.length cap) 38)
 have c0:((w.alloc (.cells K.C 49)).alloc (.cells (vqC u d A L.length cap) 38)).cell? ⟨w.heap.size+1,0,none⟩=some (.int .i64 u):=by simpa using z1.cell 0 _ rfl
 have c1:((w.alloc (.cells K.C 49)).alloc (.cells (vqC u d A L.length cap) 38)).cell? ⟨w.heap.size+1,1,none⟩=some (.int .u64 (d:Nat)):=by simpa using z1.cell 1 _ rfl
 have c2:((w.alloc (.cells K.C 49)).alloc (.cells (vqC u d A L.length cap) 38)).cell? ⟨w.heap.size+1,2,none⟩=some (.slice A L.length cap):=by simpa using z1.cell 2 _ rfl
 by_cases hu0:u=0
 ·have HV:vqE K u d L=if d=0 then (if L.length=0 then 0 else 1) else 1:=if_pos hu0
  rw [HV]
  have e0:(u==0)=true:=by simpa using hu0
  clear HV z0 z1 hS hk hL hK
  by_cases hd0:d=0
  ·rw [if_pos hd0]
   have e2:((d:Int) != 0)=false:=by simp [hd0]
   clear hd0
   by_cases hl0:L.length=0
   ·rw [if_pos hl0]
    have e3:decide (0<L.length)=false:=decide_eq_false (by omega)
    clear hl0
    clear hu0
    go_enter Tryz.func39,Tryz.ntmps39
    go_wp2_with fail
    go_ret
    exact⟨rfl,G0⟩
   ·rw [if_neg hl0]
    have e3:decide (0<L.length)=true:=decide_eq_true (by omega)
    clear hl0
    clear hu0
    go_enter Tryz.func39,Tryz.ntmps39
    go_wp2_with fail
    go_ret
    exact⟨rfl,G0⟩
  ·rw [if_neg hd0]
   have e2:((d:Int) != 0)=true:=by simpa using hd0
   clear hd0
   clear hu0
   go_enter Tryz.func39,Tryz.ntmps39
   go_wp2_with fail
   go_ret
   exact⟨rfl,G0⟩
 have HV:Hid (vqE K u d L=cqV K u d L):=hQ9 (if_neg hu0)
 have e0:(u==0)=false:=by simpa using hu0
 clear hu0
 have hmf:=y5 z0
 have CQ:=hQ9 (chq_vp hK A cap L hl u d (w.heap.size+1) w.heap.size (.slice A L.length cap) _ (hS.grew G0) (hk.gr G0) (hL.gr G0) z1 z0)
 clear z0 z1 hS hk hL hK
 go_enter Tryz.func39,Tryz.ntmps39
 go_wp2_with(with_reducible refine wpList_load_mid rfl 46 (.tmp 17) rfl w.heap.size 0 rfl [.int .i64 K.f] _ hmf huf rfl HCF.out ?_)
 refine(CQ.out).mono ?_
 rintro e w5 ⟨rfl,g5⟩
 go_wp2_with fail
 go_ret
 exact⟨by rw [HV.out];rfl,ze G0 g5⟩
theorem zct (b:BK) (h:b.ok) (w:World) (hS:Std w) (hb:b.at w) :
 Calls Tryz.prog 19 #[.agg b.C] w fun e w'=>e=.returned (.int .u64 (bkD b:Nat))∧Grew w w':=by
 have hub:=Tryz.underlying41
 have SIC:Hid ((Tryz.prog.info? 41).map (·.size)=some b.C.toList.length):=hQ9 yB
 have z1:=Ag.new w 41 b.C
 have G1:=zf (zc w) (.cells b.C 41)
 have CW:=hQ9 (zd2 b h _ (hS.grew G1) (hb.gr G1))
 have CH:=hQ9 (fun W=>jm ⟨#[98,108,111,99,107]⟩ ⟨(bwW b).toArray⟩ (by decide) (by have:=zbj b h;simp [ByteArray.size];omega) W)
 have e1:sumL (⟨#[98,108,111,99,107]⟩:ByteArray).data.toList (⟨(bwW b).toArray⟩:ByteArray).data.toList=sumL tagBlock (bwW b):=by simp [tagBlock]
 rw [e1]at CH
 have hm:=z1.cell
 have hc:(w.alloc (.cells b.C 41)).cell? ⟨w.heap.size,0,none⟩=some (.int .i64 b.vw):=by simpa [BK.C]using z1.cell 0 _ rfl
 clear e1 hS z1 h hb
 by_cases hv:b.vw=0
 ·have hd:bkD b=0:=if_pos hv
  rw [hd]
  have e5:(b.vw==0)=true:=by simpa using hv
  clear hd hv CW CH
  generalize b.C=gc at *
  generalize b.vw=bv at *
  go_enter Tryz.func19,Tryz.ntmps19
  go_wp2_with fail
  go_ret
  exact⟨rfl,G1⟩
 ·have hd:bkD b=sumL tagBlock (bwW b):=if_neg hv
  rw [hd]
  have e5:(b.vw==0)=false:=by simpa using hv
  clear hd hv
  generalize sumL tagBlock (bwW b)=d at *
  generalize (⟨(bwW b).toArray⟩:ByteArray)=tj at *
  generalize b.C=gc at *
  generalize b.vw=bv at *
  go_enter Tryz.func19,Tryz.ntmps19
  go_wp2_with(with_reducible refine wpList_load_mid rfl 41 (.tmp 1) rfl w.heap.size 0 rfl gc.toList _ hm hub rfl SIC.out ?_;simp only [Array.toArray_toList])
  refine(CW.out).mono ?_
  rintro e w1 ⟨rfl,g1⟩
  go_wp2_with fail
  refine(CH.out w1).mono ?_
  rintro e w2 ⟨rfl,rfl⟩
  go_wp2_with fail
  go_ret
  exact⟨rfl,ze G1 g1⟩
structure NW where
 vw:Int
 qv:Int
 qd:Nat
 QA:Option Addr
 H:List VP
 Qk:Nat
 who:Int
 sw:Int
 lf:Int
 s:Nat→Nat
 A:Option Addr
 c:Nat
 l:List Nat
def NW.C (S:NW):Array Value:=nwC S.vw S.qv S.qd S.QA S.H.length S.Qk S.who S.sw S.lf S.s (.slice S.A S.l.length S.c)
noncomputable def NW.d (S:NW):Nat:=nwD S.vw S.qv S.qd S.who
structure NW.ok (S:NW):Prop where
 vw:in64 S.vw
 qv:in64 S.qv
 qd:S.qd<18446744073709551616
 h:S.H.length≤100000
 who:in64 S.who
 sw:in64 S.sw
 lf:in64 S.lf
 s:∀ k,k<18→S.s k<18446744073709551616
 len:S.l.length≤1000
 l:∀ x∈S.l,x<18446744073709551616
structure NW.at (S:NW) (w:World):Prop where
 p:Rd w w.heap.size S.A (u64L S.l)
 q:Vps w S.QA S.H
theorem NW.at.gr {S:NW} {w w':World} (h:S.at w) (g:Grew w w'):S.at w':=⟨Rd.gr h.p g,h.q.gr g⟩
def nwL (L:List NW):List (List Value):=L.map fun S=>S.C.toList
theorem nwL_z (L:List NW):∀ l∈nwL L,l.length=26:=fun l hl=>by
 obtain⟨S,_,rfl⟩:=List.mem_map.1 hl
 rfl
theorem jX (L:List NW):(nwL L).length=L.length:=by simp [nwL]
theorem zcu (L M:List NW):nwL (L++M)=nwL L++nwL M:=by simp [nwL]
theorem zft (L:List NW) (n:Nat):nwL (L.take n)=(nwL L).take n:=by simp [nwL]
theorem NW.one (S:NW):S.C.all (·.oneCell')=true:=ko _ _ _ _ _ _ _ _ _ _ _ _ _
theorem NW.one' (S:NW):∀ u∈S.C.toList,u.oneCell'=true:=fun u hu=>by
 have:=S.one
 rw [Array.all_eq_true]at this
 obtain⟨i,hi,rfl⟩:=List.getElem_of_mem hu
 simpa using this i (by simpa using hi)
structure Nws (w:World) (A:Option Addr) (L:List NW):Prop where
 rd:RdC w A 26 (nwL L)
 ok:∀ S∈L,S.ok
 at_:∀ S∈L,S.at w
theorem Nws.gr {w w':World} {A:Option Addr} {L:List NW} (h:Nws w A L) (g:Grew w w'):Nws w' A L:=⟨h.rd.gr g,h.ok,fun S hS=>(h.at_ S hS).gr g⟩
theorem Nws.take {w:World} {A:Option Addr} {L:List NW} (h:Nws w A L) (n:Nat):Nws w A (L.take n) :=
 ⟨by rw [zft];exact h.rd.take n,fun S hS=>h.ok S (List.mem_of_mem_take hS),fun S hS=>h.at_ S (List.mem_of_mem_take hS)⟩
theorem Nws.get {w:World} {A:Option Addr} {L:List NW} (h:Nws w A L) (k:Nat) (hk:k<L.length):∃ q,A=some ⟨q,0,none⟩∧q<w.heap.size∧w.rangeAt q (k*26) L[k].C.toList:=by
 obtain⟨q,e,hq,hr⟩:=h.rd k (by rw [jX];exact hk)
 exact⟨q,e,hq,by simpa [nwL]using hr⟩
theorem xf (S:NW):Array.foldl (fun(cs:Array Value) (x:Value × Nat)=>cs.setIfInBounds x.snd x.fst) (#[.int .i64 0,.int .i64 0,.int .i64 0,.int .u64 0,.slice none 0 0,.int .i64 0,.int .i64 0,.int .u64 0,.int .u64 0,.int .u64 0,.int .u64 0,.int .u64 0,.int .u64 0,.int .u64 0,.int .u64 0,.int .u64 0,.int .u64 0,.int .u64 0,.int .u64 0,.int .u64 0,.int .u64 0,.int .u64 0,.int .u64 0,.int .u64 0,.int .u64 0,.slice none 0 0]) S.C.zipIdx 0 26=S.C:=by
 obtain⟨vw,qv,qd,QA,H,Qk,who,sw,lf,s,A,c,l⟩:=S
 show Array.foldl (fun(cs:Array Value) (x:Value × Nat)=>cs.setIfInBounds x.snd x.fst) (#[.int .i64 0,.int .i64 0,.int .i64 0,.int .u64 0,.slice none 0 0,.int .i64 0,.int .i64 0,.int .u64 0,.int .u64 0,.int .u64 0,.int .u64 0,.int .u64 0,.int .u64 0,.int .u64 0,.int .u64 0,.int .u64 0,.int .u64 0,.int .u64 0,.int .u64 0,.int .u64 0,.int .u64 0,.int .u64 0,.int .u64 0,.int .u64 0,.int .u64 0,.slice none 0 0]) (nwC vw qv qd QA H.length Qk who sw lf s (.slice A l.length c)).zipIdx 0 26=nwC vw qv qd QA H.length Qk who sw lf s (.slice A l.length c)
 generalize H.length=hn
 generalize l.length=ln
 kernel_rfl
noncomputable def nvS (K:KP) (S:NW):Int :=
 if S.who<0 then 1 else if 3*K.f+1≤S.who then 1 else if S.vw<1 then 1 else if 1048576<S.vw then 1 else
 if ckE K.R K.h S.who.toNat S.d S.sw S.lf S.s S.l=0 then (if vqE K S.qv S.qd S.H=0 then (if S.vw≤S.qv then 12 else 0) else vqE K S.qv S.qd S.H) else ckE K.R K.h S.who.toNat S.d S.sw S.lf S.s S.l
theorem NW.qc {w:World} {b:Nat} {S:NW} (h:w.rangeAt b 0 S.C.toList):w.rangeAt b 2 (vqC S.qv S.qd S.QA S.H.length S.Qk).toList:=fun j v hj=>by
 have hj3:j<3:=(List.getElem?_eq_some_iff.1 hj).1
 have h2:S.C.toList[2+j]?=some v:=by
  rcases(show j=0∨j=1∨j=2 by omega)with rfl | rfl | rfl<;>exact hj
 simpa using h (2+j) v h2
theorem xa {K:KP} {S:NW} (hK:K.ok) (hs:S.ok) (w:World) (hS:Std w) (hk:K.at w) (ha:S.at w) :
 Calls Tryz.prog 50 #[.agg K.C,.agg S.C] w fun e w'=>e=.returned (.int .i64 (nvS K S))∧Grew w w':=by
 have hut:=Tryz.underlying111
 have huf:=Tryz.underlying46
 have huk:=Tryz.underlying49
 have huq:=Tryz.underlying38
 have HST:Hid ((Tryz.prog.info? 111).map (·.size)=some S.C.toList.length):=hQ9 zw
 have SIK:Hid ((Tryz.prog.info? 49).map (·.size)=some K.C.toList.length):=hQ9 (show _=some 3 by kernel_rfl)
 have SIQ:Hid ((Tryz.prog.info? 38).map (·.size)=some (vqC S.qv S.qd S.QA S.H.length S.Qk).toList.length):=hQ9 zA
 have HCF:Hid ((Tryz.prog.info? 46).map (·.size)=some [Value.int .i64 K.f].length):=hQ9 (by kernel_rfl)
 have hf:=hK.f
 have CN:=hQ9 (fun W=>qn_ok K.f hf W)
 have zk:=(Ag.new w 49 K.C).grew (zf (zc _) (.cells S.C 111))
 have zs:=Ag.new (w.alloc (.cells K.C 49)) 111 S.C
 rw [zi]at zs
 have G1:=zf (zf (zc w) (.cells K.C 49)) (.cells S.C 111)
 have HS:=hQ9 hS
 have HKA:=hQ9 hk
 have HSA:=hQ9 ha
 have HK:=hQ9 hK
 have HSO:=hQ9 hs
 have h3f:(4:Int)≤3*K.f+1∧3*K.f+1≤10:=by omega
 clear hS hk ha hf hK hs
 go_enter Tryz.func50,Tryz.ntmps50
 go_upto_region 1 with fail
 generalize (w.alloc (.cells K.C 49)).alloc (.cells S.C 111)=w1 at *
 have m1:∀ y:Gr w1,y.val.cell? ⟨w.heap.size+1,1,none⟩=some (.int .i64 S.who):=fun y=>ag_at (zs.gr y) 1 rfl
 have m2:∀ y:Gr w1,y.val.cell? ⟨w.heap.size+1,0,none⟩=some (.int .i64 S.vw):=fun y=>ag_at (zs.gr y) 0 rfl
 have qf:Hid (∀ y:Gr w1,y.val.rangeAt w.heap.size 0 [.int .i64 K.f]):=hQ9 (fun y=>y5 (zk.gr y))
 obtain⟨nn,hnn⟩:∃ nn,3*K.f+1=nn:=⟨_,rfl⟩
 rw [hnn]at CN h3f
 have HNN:=hQ9 hnn
 clear hnn
 by_cases hA:S.who<0
 ·have HE:Hid (nvS K S=1):=hQ9 (by unfold nvS;rw [if_pos hA])
  clear HSO HSA
  refine zo (zc w1) (by kernel_rfl) (by kernel_rfl) ?_
  repeat (first
   | (go_big_quiet_want;refine zv 46 (.tmp 13) rfl w.heap.size 0 rfl [.int .i64 K.f] _ qf.out huf rfl HCF.out ?_;simp only [Act.put,List.setIfInBounds_toArray,List.set_cons_succ,List.set_cons_zero,Array.toArray_toList];go_big_quiet_on)
   | (go_big_quiet_step ((go_at_call 61;exact callG (CN.out _)))))
  refine wpQuiet_nil ?_
  rintro w8 ⟨⟨w8',g8⟩,rfl⟩
  have G8:=ze G1 g8
  go_wp2_with fail
  go_ret
  exact⟨by rw [HE.out];rfl,G8⟩
 by_cases hB:nn≤S.who
 ·have HE:Hid (nvS K S=1):=hQ9 (by unfold nvS;rw [if_neg hA,HNN.out,if_pos hB])
  refine zo (zc w1) (by kernel_rfl) (by kernel_rfl) ?_
  repeat (first
   | (go_big_quiet_want;refine zv 46 (.tmp 13) rfl w.heap.size 0 rfl [.int .i64 K.f] _ qf.out huf rfl HCF.out ?_;simp only [Act.put,List.setIfInBounds_toArray,List.set_cons_succ,List.set_cons_zero,Array.toArray_toList];go_big_quiet_on)
   | (go_big_quiet_step ((go_at_call 61;exact callG (CN.out _)))))
  refine wpQuiet_nil ?_
  rintro w8 ⟨⟨w8',g8⟩,rfl⟩
  have G8:=ze G1 g8
  go_wp2_with fail
  go_ret
  exact⟨by rw [HE.out];rfl,G8⟩
 by_cases hC:S.vw<1
 ·have HE:Hid (nvS K S=1):=hQ9 (by unfold nvS;rw [if_neg hA,HNN.out,if_neg hB,if_pos hC])
  refine zo (zc w1) (by kernel_rfl) (by kernel_rfl) ?_
  repeat (first
   | (go_big_quiet_want;refine zv 46 (.tmp 13) rfl w.heap.size 0 rfl [.int .i64 K.f] _ qf.out huf rfl HCF.out ?_;simp only [Act.put,List.setIfInBounds_toArray,List.set_cons_succ,List.set_cons_zero,Array.toArray_toList];go_big_quiet_on)
   | (go_big_quiet_step ((go_at_call 61;exact callG (CN.out _)))))
  refine wpQuiet_nil ?_
  rintro w8 ⟨⟨w8',g8⟩,rfl⟩
  have G8:=ze G1 g8
  go_wp2_with fail
  go_ret
  exact⟨by rw [HE.out];rfl,G8⟩
 by_cases hD:1048576<S.vw
 ·have HE:Hid (nvS K S=1):=hQ9 (by unfold nvS;rw [if_neg hA,HNN.out,if_neg hB,if_neg hC,if_pos hD])
  refine zo (zc w1) (by kernel_rfl) (by kernel_rfl) ?_
  repeat (first
   | (go_big_quiet_want;refine zv 46 (.tmp 13) rfl w.heap.size 0 rfl [.int .i64 K.f] _ qf.out huf rfl HCF.out ?_;simp only [Act.put,List.setIfInBounds_toArray,List.set_cons_succ,List.set_cons_zero,Array.toArray_toList];go_big_quiet_on)
   | (go_big_quiet_step ((go_at_call 61;exact callG (CN.out _)))))
  refine wpQuiet_nil ?_
  rintro w8 ⟨⟨w8',g8⟩,rfl⟩
  have G8:=ze G1 g8
  go_wp2_with fail
  go_ret
  exact⟨by rw [HE.out];rfl,G8⟩
 have HE:Hid (nvS K S=if ckE K.R K.h S.who.toNat S.d S.sw S.lf S.s S.l=0 then (if vqE K S.qv S.qd S.H=0 then (if S.vw≤S.qv then 12 else 0) else vqE K S.qv S.qd S.H) else ckE K.R K.h S.who.toNat S.d S.sw S.lf S.s S.l):=hQ9 (by unfold nvS;rw [if_neg hA,HNN.out,if_neg hB,if_neg hC,if_neg hD])
 refine zo (zc w1) (by kernel_rfl) (by kernel_rfl) ?_
 repeat (first
  | (go_big_quiet_want;refine zv 46 (.tmp 13) rfl w.heap.size 0 rfl [.int .i64 K.f] _ qf.out huf rfl HCF.out ?_;simp only [Act.put,List.setIfInBounds_toArray,List.set_cons_succ,List.set_cons_zero,Array.toArray_toList];go_big_quiet_on)
  | (go_big_quiet_step ((go_at_call 61;exact callG (CN.out _)))))
 refine wpQuiet_nil ?_
 rintro w8 ⟨⟨w8',g8⟩,rfl⟩
 have G8:=ze G1 g8
 have zk8:=zk.grew g8
 have zs8:=zs.grew g8
 have hk1:w8.cell? ⟨w.heap.size,1,none⟩=some (.slice K.RA K.R.length K.Rc):=ag_at zk8 1 rfl
 have hk2:w8.cell? ⟨w.heap.size,2,none⟩=some (.int .i64 K.h):=ag_at zk8 2 rfl
 have hm:=zs8.cell
 have hsz:S.C.size=26:=rfl
 have HA:Hid (0≤S.who):=hQ9 (by omega)
 clear m1 m2 qf hA hB hC hD
 go_wp2_with(with_reducible refine wpList_load_mid rfl 111 (.tmp 3) rfl (w.heap.size+1) 0 rfl S.C.toList _ hm hut rfl HST.out ?_;simp only [Array.toArray_toList])
 rw [xf]
 have GA:=zf (zc w8) (.cells S.C 111)
 have zq:=Ag.new w8 111 S.C
 have G9:=ze G8 GA
 have CC:=hQ9 (zcs K.R K.RA K.Rc K.h S.vw S.qv S.qd S.QA S.H.length S.Qk S.who.toNat S.sw S.lf S.s S.A S.c S.l HSO.out.qd HSO.out.qv (by have h1:=HSO.out.who;have h2:=HA.out;rw [Int.toNat_of_nonneg h2];exact h1) HSO.out.vw HSO.out.sw HSO.out.lf HSO.out.len HSO.out.s HSO.out.l HK.out.len HK.out.b w8.heap.size _ (HS.out.grew G9) (HKA.out.gr G9) (HSA.out.gr G9).p (by have h2:=HA.out;rw [Int.toNat_of_nonneg h2];exact zq.cell) zq.lt)
 obtain⟨w9,hw9⟩:∃ v,w8.alloc (.cells S.C 111)=v:=⟨_,rfl⟩
 have zk9:=zk8.grew GA
 have zs9:=zs8.grew GA
 rw [hw9]at CC G9 zk9 zs9 ⊢
 have HD:Hid (nwD S.vw S.qv S.qd ((S.who.toNat:Nat):Int)=S.d):=hQ9 (by rw [Int.toNat_of_nonneg HA.out];rfl)
 rw [HD.out]at CC
 obtain⟨ce,hce⟩:∃ v,ckE K.R K.h S.who.toNat S.d S.sw S.lf S.s S.l=v:=⟨_,rfl⟩
 rw [hce]at CC HE
 have CQ:Hid (∀ W,Grew w9 W→Calls Tryz.prog 39 #[.agg K.C,.agg (vqC S.qv S.qd S.QA S.H.length S.Qk)] W fun e w'=>e=.returned (.int .i64 (vqE K S.qv S.qd S.H))∧Grew W w'):=hQ9 (fun W g=>zhl HK.out S.qv S.qd S.QA S.Qk S.H HSO.out.h W (HS.out.grew (ze G9 g)) (HKA.out.gr (ze G9 g)) (HSA.out.gr (ze G9 g)).q)
 obtain⟨qe,hqe⟩:∃ v,vqE K S.qv S.qd S.H=v:=⟨_,rfl⟩
 rw [hqe]at CQ HE
 obtain⟨gq,hgq⟩:∃ g,vqC S.qv S.qd S.QA S.H.length S.Qk=g:=⟨_,rfl⟩
 have HMQ:Hid (∀ y,Grew w9 y→y.rangeAt (w.heap.size+1) 2 gq.toList):=hQ9 (fun y g=>by rw [←hgq];exact NW.qc (zs9.grew g).cell)
 have HMK:Hid (∀ y,Grew w9 y→y.rangeAt w.heap.size 0 K.C.toList):=hQ9 (fun y g=>(zk9.grew g).cell)
 have HMV:Hid (∀ y,Grew w9 y→y.cell? ⟨w.heap.size+1,0,none⟩=some (.int .i64 S.vw)):=hQ9 (fun y g=>ag_at (zs9.grew g) 0 rfl)
 have HMU:Hid (∀ y,Grew w9 y→y.cell? ⟨w.heap.size+1,2,none⟩=some (.int .i64 S.qv)):=hQ9 (fun y g=>ag_at (zs9.grew g) 2 rfl)
 rw [hgq]at CQ SIQ
 clear hw9 hce hqe hgq zk8 zs8 zq GA zk9 zs9 hk1 hk2 hm zk zs
 refine(CC.out).mono ?_
 rintro e wa ⟨rfl,ga⟩
 have GAA:=hQ9 (ze G9 ga)
 by_cases hc0:ce=0
 rotate_left
 ·have e1:(ce != 0)=true:=by simpa using hc0
  rw [if_neg hc0]at HE
  clear hc0
  go_wp2_with fail
  go_ret
  exact⟨by rw [HE.out];rfl,GAA.out⟩
 rw [if_pos hc0]at HE
 subst hc0
 have hmk:=HMK.out wa ga
 have hmq:=HMQ.out wa ga
 go_wp2_with(first
  | (with_reducible refine wpList_load_mid rfl 49 (.tmp 2) rfl w.heap.size 0 rfl K.C.toList _ hmk huk rfl SIK.out ?_;simp only [Array.toArray_toList])
  | (with_reducible refine wpList_load_mid rfl 38 (.tmp 39) rfl (w.heap.size+1) 2 rfl gq.toList _ hmq huq rfl SIQ.out ?_;simp only [Array.toArray_toList]))
 refine(CQ.out wa ga).mono ?_
 rintro e wb ⟨rfl,gb⟩
 have GB:=hQ9 (ze GAA.out gb)
 have hmv:=HMV.out wb (ze ga gb)
 have hmu:=HMU.out wb (ze ga gb)
 clear hmk hmq
 by_cases hq0:qe=0
 rotate_left
 ·have e1:(qe != 0)=true:=by simpa using hq0
  rw [if_neg hq0]at HE
  clear hq0 hmv hmu
  go_wp2_with fail
  go_ret
  exact⟨by rw [HE.out];rfl,GB.out⟩
 rw [if_pos hq0]at HE
 subst hq0
 generalize S.vw=vw at *
 generalize S.qv=qv at *
 by_cases hv0:vw≤qv
 ·have e1:decide (vw≤qv)=true:=decide_eq_true hv0
  rw [if_pos hv0]at HE
  clear hv0
  go_wp2_with fail
  go_ret
  exact⟨by rw [HE.out];rfl,GB.out⟩
 ·have e1:decide (vw≤qv)=false:=decide_eq_false hv0
  rw [if_neg hv0]at HE
  clear hv0
  go_wp2_with fail
  go_ret
  exact⟨by rw [HE.out];rfl,GB.out⟩
theorem who_nw (S:NW) (w:World):Calls Tryz.prog 120 #[.agg S.C] w fun e w'=>e=.returned (.int .i64 S.who)∧Grew w w':=by
 have zs:=Ag.new w 111 S.C
 have G:=zf (zc w) (.cells S.C 111)
 have hc:(w.alloc (.cells S.C 111)).cell? ⟨w.heap.size,1,none⟩=some (.int .i64 S.who):=by simpa using zs.cell 1 _ rfl
 clear zs
 generalize S.C=g at *
 generalize S.who=x at *
 go_enter Tryz.func120,Tryz.ntmps120
 go_wp2_with fail
 go_ret
 exact⟨rfl,G⟩
theorem zbl (S:NW) (w:World):Calls Tryz.prog 125 #[.agg S.C] w fun e w'=>e=.returned (.int .i64 S.qv)∧Grew w w':=by
 have zs:=Ag.new w 111 S.C
 have G:=zf (zc w) (.cells S.C 111)
 have hc:(w.alloc (.cells S.C 111)).cell? ⟨w.heap.size,2,none⟩=some (.int .i64 S.qv):=by simpa using zs.cell 2 _ rfl
 clear zs
 generalize S.C=g at *
 generalize S.qv=x at *
 go_enter Tryz.func125,Tryz.ntmps125
 go_wp2_with fail
 go_ret
 exact⟨rfl,G⟩
noncomputable def nfB (K:KP) (u:Int) (S:NW):Bool:=decide (S.vw=u)&&decide (nvS K S=0)
theorem mk1_nw {K:KP} {S:NW} (hK:K.ok) (hS:S.ok) (u:Int) (bu bk:Nat) (w:World) (hs:Std w) (hk:K.at w) (ha:S.at w) (hu:w.cell? ⟨bu,0,none⟩=some (.int .i64 u)) (hkc:Ag w bk K.C.toList) :
 Calls Tryz.prog 121 #[.agg S.C,.pointer (some ⟨bu,0,none⟩),.pointer (some ⟨bk,0,none⟩)] w fun e w'=>e=.returned (.bool (nfB K u S))∧Grew w w':=by
 have zs:=Ag.new w 111 S.C
 have G:=zf (zc w) (.cells S.C 111)
 have hc0:(w.alloc (.cells S.C 111)).cell? ⟨w.heap.size,0,none⟩=some (.int .i64 S.vw):=by simpa using zs.cell 0 _ rfl
 have hu':=yN hu G
 have hut:=Tryz.underlying111
 have huk:=Tryz.underlying49
 have SIS:Hid ((Tryz.prog.info? 111).map (·.size)=some S.C.toList.length):=hQ9 zw
 have SIK:Hid ((Tryz.prog.info? 49).map (·.size)=some K.C.toList.length):=hQ9 (show _=some 3 by kernel_rfl)
 have hms:=zs.cell
 have hmk:=(hkc.grew G).cell
 have CV:=hQ9 (fun W h1 h2 h3=>xa hK hS W h1 h2 h3)
 have HS:=hQ9 hs
 have HKA:=hQ9 hk
 have HSA:=hQ9 ha
 have HF:Hid (nfB K u S=(decide (S.vw=u)&&decide (nvS K S=0))):=hQ9 rfl
 clear zs hu hkc hs hk ha hK hS
 generalize S.C=g at *
 generalize K.C=gk at *
 generalize nvS K S=va at *
 by_cases hcu:S.vw=u
 case neg =>
  have e1:(S.vw==u)=false:=by simpa using hcu
  have HE:Hid (nfB K u S=false):=hQ9 (by rw [HF.out];simp [hcu])
  clear hcu
  generalize S.vw=vw at *
  go_enter Tryz.func121,Tryz.ntmps121
  go_wp2_with fail
  go_ret
  exact⟨by rw [HE.out];rfl,G⟩
 have e0:(S.vw==u)=true:=by simpa using hcu
 have HCU:=hQ9 hcu
 clear hcu
 generalize S.vw=vw at *
 go_enter Tryz.func121,Tryz.ntmps121
 go_wp2_with(first
  | (refine zx (by rfl) 49 (.tmp 2) rfl bk 0 rfl gk.toList _ hmk huk rfl SIK.out ?_;simp only [Array.toArray_toList])
  | (refine zx (by rfl) 111 (.tmp 3) rfl w.heap.size 0 rfl g.toList _ hms hut rfl SIS.out ?_;simp only [Array.toArray_toList]))
 refine(CV.out _ (HS.out.grew G) (HKA.out.gr G) (HSA.out.gr G)).mono ?_
 rintro e w1 ⟨rfl,gg⟩
 have G2:=ze G gg
 obtain⟨b,hb⟩:∃ b,(va==0)=b:=⟨_,rfl⟩
 have HE:Hid (nfB K u S=b):=hQ9 (by rw [HF.out,HCU.out];rw [←hb];by_cases h0:va=0<;>simp [h0])
 clear hms hmk hc0 hu' gg HF
 go_wp2_with fail
 go_ret
 exact⟨by rw [HE.out];rfl,G2⟩
open Go.Maps
theorem je (w:World):(zeroValue 111).run Tryz.prog w=.ok (.agg (#[.int .i64 0,.int .i64 0,.int .i64 0,.int .u64 0,.slice none 0 0,.int .i64 0,.int .i64 0,.int .u64 0,.int .u64 0,.int .u64 0,.int .u64 0,.int .u64 0,.int .u64 0,.int .u64 0,.int .u64 0,.int .u64 0,.int .u64 0,.int .u64 0,.int .u64 0,.int .u64 0,.int .u64 0,.int .u64 0,.int .u64 0,.int .u64 0,.int .u64 0,.slice none 0 0])) w:=by kernel_rfl
theorem za0 (n:Nat) (w:World):(Instr.makeMap 277 (some (.int .i64 (n:Int)))).run Tryz.prog w=.ok (.map (some w.heap.size)) (w.alloc (.map #[] 0)):=by
 simp [Instr.makeMap,run_underlying Tryz.underlying277,asInt,asIntOf,Result.andThen]
noncomputable def firstN (L:List NW):DataW Value:=firstD NW.who (fun S=>.agg S.C) L
theorem xB (W:World) (cs:Array Value) (h:cs.size=26):∃ W',(W.alloc (.cells (#[.int .i64 0,.int .i64 0,.int .i64 0,.int .u64 0,.slice none 0 0,.int .i64 0,.int .i64 0,.int .u64 0,.int .u64 0,.int .u64 0,.int .u64 0,.int .u64 0,.int .u64 0,.int .u64 0,.int .u64 0,.int .u64 0,.int .u64 0,.int .u64 0,.int .u64 0,.int .u64 0,.int .u64 0,.int .u64 0,.int .u64 0,.int .u64 0,.int .u64 0,.slice none 0 0]) 111)).setCells W.heap.size 0 cs.toList=W'∧(W.alloc (.cells (#[.int .i64 0,.int .i64 0,.int .i64 0,.int .u64 0,.slice none 0 0,.int .i64 0,.int .i64 0,.int .u64 0,.int .u64 0,.int .u64 0,.int .u64 0,.int .u64 0,.int .u64 0,.int .u64 0,.int .u64 0,.int .u64 0,.int .u64 0,.int .u64 0,.int .u64 0,.int .u64 0,.int .u64 0,.int .u64 0,.int .u64 0,.int .u64 0,.int .u64 0,.slice none 0 0]) 111)).there W.heap.size 0 cs.size∧Grew W W'∧Ag W' W.heap.size cs.toList :=
 zK W 111 (#[.int .i64 0,.int .i64 0,.int .i64 0,.int .u64 0,.slice none 0 0,.int .i64 0,.int .i64 0,.int .u64 0,.int .u64 0,.int .u64 0,.int .u64 0,.int .u64 0,.int .u64 0,.int .u64 0,.int .u64 0,.int .u64 0,.int .u64 0,.int .u64 0,.int .u64 0,.int .u64 0,.int .u64 0,.int .u64 0,.int .u64 0,.int .u64 0,.int .u64 0,.slice none 0 0]) cs h
theorem RdC.at26n {w w':World} {A:Option Addr} {L:List NW} (h:RdC w A 26 (nwL L)) (g:Grew w w') (k:Nat) (hk:k<L.length):∃ q,A=some ⟨q,0,none⟩∧q<w'.heap.size∧w'.rangeAt q (k*26) L[k].C.toList:=by
 obtain⟨q,e,hq,hr⟩:=(h.gr g) k (by rw [jX];exact hk)
 exact⟨q,e,hq,by simpa [nwL]using hr⟩
theorem by_nw (A:Option Addr) (c:Nat) (L:List NW) (hl:L.length≤1048576) (hw:∀ S∈L,in64 S.who) (w:World) (hr:RdC w A 26 (nwL L)) :
 Calls Tryz.prog 170 #[.slice A L.length c,.func (.func 120) #[] #[]] w fun e w'=>e=.returned (.map (some w.heap.size))∧w'.ownsMap Tryz.prog 3 heldR w.heap.size L.length (firstN L)∧Grew w w':=by
 have hmm:=fun w=>za0 L.length w
 have hlc:(0:Int)≤(L.length:Int):=by omega
 have hut:=Tryz.underlying111
 go_enter Tryz.func170,Tryz.ntmps170
 go_wp2_with fail
 go_loopw [16] (fun iv wr=>∃ i:Nat,i≤L.length∧iv=.int .i64 i∧wr.ownsMap Tryz.prog 3 heldR w.heap.size i (firstN (L.take i))∧Grew w wr) (fun i _=>L.length-(Go.RowKit.intOf i).toNat)
 case atStart=>exact⟨0,Nat.zero_le _,rfl,World.ownsMap_made _ _ _ _,(Below.refl _ _).alloc (Nat.le_refl _) _⟩
 case round =>
  obtain⟨i,hil,rfl,hown,hg⟩:=hrel
  by_cases hlt:i<L.length
  ·obtain⟨q,hA,hq,hm⟩:=RdC.at26n hr hg i hlt
   subst hA
   have hts:L.take (i+1)=L.take i++[L[i]]:=by rw [List.take_succ_eq_append_getElem hlt]
   have HTS:=hQ9 hts
   have HW:=hw L[i] (List.getElem_mem hlt)
   clear hts
   have hi0:(0:Int)≤(i:Int):=by omega
   have hi1:(i:Int)<(L.length:Int):=by omega
   have e4:IntKind.i64.wrap ((i:Int)+1)=(i:Int)+1:=IntWalk.i64_in _ (by omega)
   generalize L[i]=S at *
   have CW:=hQ9 (fun W=>who_nw S W)
   have SIS:Hid ((Tryz.prog.info? 111).map (·.size)=some S.C.toList.length):=hQ9 zw
   have SIZ:Hid ((Tryz.prog.info? 111).map (·.size)=some S.C.size):=hQ9 zw
   have HON:=hQ9 S.one
   obtain⟨w2,hw2,ht2,g2,z2⟩:=xB wr S.C rfl
   have HW2:=hQ9 hw2
   have HT2:=hQ9 ht2
   have hm2:=z2.cell
   clear hw2 ht2
   obtain⟨k,hk⟩:∃ k,S.who=k:=⟨_,rfl⟩
   have hkr:-9223372036854775808≤k∧k≤9223372036854775807:=by rw [←hk];exact HW
   have hkey:keyOf Tryz.prog 3 (.int .i64 k)=some (.int .i64 k):=keyOf_int_mk Tryz.underlying3 (WalkArith.wf_i64 hkr)
   have HK:=hQ9 hk
   rw [hk]at CW
   clear hk
   go_wp2_with(first
    | (with_reducible refine wpList_load_mid rfl 111 (.tmp 18) rfl q (i*26) rfl S.C.toList _ hm hut rfl SIS.out ?_;simp only [Array.toArray_toList])
    | (with_reducible refine wpList_store_mid rfl 111 (.tmp 7) (.tmp 19) rfl wr.heap.size 0 S.C rfl rfl HT2.out SIZ.out HON.out ?_;rw [HW2.out])
    | (with_reducible refine wpList_load_mid rfl 111 (.tmp 7) rfl wr.heap.size 0 rfl S.C.toList _ hm2 hut rfl SIS.out ?_;simp only [Array.toArray_toList]))
   refine(CW.out w2).mono ?_
   rintro e w3 ⟨rfl,gg⟩
   have hown3:=zW hown (ze g2 gg)
   have G3:=ze hg (ze g2 gg)
   have z3:=z2.grew gg
   obtain⟨bb,hbb⟩:∃ bb,Maps.has (firstN (L.take i)) (.int .i64 k)=bb:=⟨_,rfl⟩
   clear hown hm hm2 z2 g2 gg hg HT2 HW2 CW
   cases bb
   ·have hu:(firstN (L.take i)).atKey (.int .i64 k) (.held (.agg (#[.int .i64 0,.int .i64 0,.int .i64 0,.int .u64 0,.slice none 0 0,.int .i64 0,.int .i64 0,.int .u64 0,.int .u64 0,.int .u64 0,.int .u64 0,.int .u64 0,.int .u64 0,.int .u64 0,.int .u64 0,.int .u64 0,.int .u64 0,.int .u64 0,.int .u64 0,.int .u64 0,.int .u64 0,.int .u64 0,.int .u64 0,.int .u64 0,.int .u64 0,.slice none 0 0]:Array Value)))=.held (.agg (#[.int .i64 0,.int .i64 0,.int .i64 0,.int .u64 0,.slice none 0 0,.int .i64 0,.int .i64 0,.int .u64 0,.int .u64 0,.int .u64 0,.int .u64 0,.int .u64 0,.int .u64 0,.int .u64 0,.int .u64 0,.int .u64 0,.int .u64 0,.int .u64 0,.int .u64 0,.int .u64 0,.int .u64 0,.int .u64 0,.int .u64 0,.int .u64 0,.int .u64 0,.slice none 0 0]:Array Value)):=Maps.atKey_of_not_has hbb _
    have HO4:Hid ((#[.int .i64 0,.int .i64 0,.int .i64 0,.int .u64 0,.slice none 0 0,.int .i64 0,.int .i64 0,.int .u64 0,.int .u64 0,.int .u64 0,.int .u64 0,.int .u64 0,.int .u64 0,.int .u64 0,.int .u64 0,.int .u64 0,.int .u64 0,.int .u64 0,.int .u64 0,.int .u64 0,.int .u64 0,.int .u64 0,.int .u64 0,.int .u64 0,.int .u64 0,.slice none 0 0]:Array Value).all (·.oneCell')=true):=hQ9 (by simp [Value.oneCell'])
    obtain⟨w4,hw4,ht4,g4,z4⟩:=xB w3 (#[.int .i64 0,.int .i64 0,.int .i64 0,.int .u64 0,.slice none 0 0,.int .i64 0,.int .i64 0,.int .u64 0,.int .u64 0,.int .u64 0,.int .u64 0,.int .u64 0,.int .u64 0,.int .u64 0,.int .u64 0,.int .u64 0,.int .u64 0,.int .u64 0,.int .u64 0,.int .u64 0,.int .u64 0,.int .u64 0,.int .u64 0,.int .u64 0,.int .u64 0,.slice none 0 0]:Array Value) rfl
    have HW4:=hQ9 hw4
    have HT4:=hQ9 ht4
    have SI4:Hid ((Tryz.prog.info? 111).map (·.size)=some ((#[.int .i64 0,.int .i64 0,.int .i64 0,.int .u64 0,.slice none 0 0,.int .i64 0,.int .i64 0,.int .u64 0,.int .u64 0,.int .u64 0,.int .u64 0,.int .u64 0,.int .u64 0,.int .u64 0,.int .u64 0,.int .u64 0,.int .u64 0,.int .u64 0,.int .u64 0,.int .u64 0,.int .u64 0,.int .u64 0,.int .u64 0,.int .u64 0,.int .u64 0,.slice none 0 0]:Array Value)).size):=hQ9 zw
    have hown4:=zW hown3 g4
    have hm4:=(z3.grew g4).cell
    have G4:=ze G3 g4
    clear hw4 ht4 g4 z4 z3 G3
    go_wp2_with(first
     | (at_lookup;refine zZ _ rfl _ _ 277 rfl 3 111 yo Tryz.underlying277 (je _) w.heap.size i _ rfl hown3 _ _ rfl hkey (.agg (#[.int .i64 0,.int .i64 0,.int .i64 0,.int .u64 0,.slice none 0 0,.int .i64 0,.int .i64 0,.int .u64 0,.int .u64 0,.int .u64 0,.int .u64 0,.int .u64 0,.int .u64 0,.int .u64 0,.int .u64 0,.int .u64 0,.int .u64 0,.int .u64 0,.int .u64 0,.int .u64 0,.int .u64 0,.int .u64 0,.int .u64 0,.int .u64 0,.int .u64 0,.slice none 0 0]:Array Value)) hu _ hbb ?_)
     | (with_reducible refine wpList_store_mid rfl 111 (.tmp 9) (.tmp 27) rfl w3.heap.size 0 (#[.int .i64 0,.int .i64 0,.int .i64 0,.int .u64 0,.slice none 0 0,.int .i64 0,.int .i64 0,.int .u64 0,.int .u64 0,.int .u64 0,.int .u64 0,.int .u64 0,.int .u64 0,.int .u64 0,.int .u64 0,.int .u64 0,.int .u64 0,.int .u64 0,.int .u64 0,.int .u64 0,.int .u64 0,.int .u64 0,.int .u64 0,.int .u64 0,.int .u64 0,.slice none 0 0]:Array Value) rfl rfl HT4.out SI4.out HO4.out ?_;rw [HW4.out])
     | (with_reducible refine wpList_load_mid rfl 111 (.tmp 7) rfl wr.heap.size 0 rfl S.C.toList _ hm4 hut rfl SIS.out ?_;simp only [Array.toArray_toList])
     | (at_mapUpdate;refine wpList_mapUpdate_own _ rfl _ _ _ 277 rfl 3 111 yo Tryz.underlying277 heldR w.heap.size i _ rfl hown4 (by unfold maxLen;omega) _ _ _ rfl rfl hkey (.held (.agg S.C)) [] rfl ?_;intro w5 hown5 hgrow5))
    go_roundw
    case rel=>exact⟨i+1,by omega,by go_num,by
     rw [HTS.out]
     have hf:firstN (L.take i++[S])=(firstN (L.take i)).put (.int .i64 k) (.held (.agg S.C)):=by
      have:=yH NW.who (fun S=>Value.agg S.C) (L:=L.take i) (x:=S) (by rw [HK.out];exact hbb)
      rw [HK.out]at this
      exact this
     rw [hf]
     exact hown5,G4.grown hgrow5 G4.size (fun j hj=>by cases hj;exact Nat.le_refl _)⟩
    case measure=>simp [Go.RowKit.intOf];omega
   ·obtain⟨x,hfx,hx,-⟩:=kL NW.who (L.take i) (((zQ NW.who (fun S=>Value.agg S.C) (L.take i)).2.1 k).1 hbb)
    have hu:(firstN (L.take i)).atKey (.int .i64 k) (.held (.agg (#[.int .i64 0,.int .i64 0,.int .i64 0,.int .u64 0,.slice none 0 0,.int .i64 0,.int .i64 0,.int .u64 0,.int .u64 0,.int .u64 0,.int .u64 0,.int .u64 0,.int .u64 0,.int .u64 0,.int .u64 0,.int .u64 0,.int .u64 0,.int .u64 0,.int .u64 0,.int .u64 0,.int .u64 0,.int .u64 0,.int .u64 0,.int .u64 0,.int .u64 0,.slice none 0 0]:Array Value)))=.held (.agg x.C):=(zQ NW.who (fun S=>Value.agg S.C) (L.take i)).2.2 k x _ hfx
    have HO4:=hQ9 x.one
    clear hfx hx
    obtain⟨w4,hw4,ht4,g4,z4⟩:=xB w3 x.C rfl
    have HW4:=hQ9 hw4
    have HT4:=hQ9 ht4
    have SI4:Hid ((Tryz.prog.info? 111).map (·.size)=some (x.C).size):=hQ9 zw
    have hown4:=zW hown3 g4
    have hm4:=(z3.grew g4).cell
    have G4:=ze G3 g4
    clear hw4 ht4 g4 z4 z3 G3
    go_wp2_with(first
     | (at_lookup;refine zZ _ rfl _ _ 277 rfl 3 111 yo Tryz.underlying277 (je _) w.heap.size i _ rfl hown3 _ _ rfl hkey (.agg x.C) hu _ hbb ?_)
     | (with_reducible refine wpList_store_mid rfl 111 (.tmp 9) (.tmp 27) rfl w3.heap.size 0 x.C rfl rfl HT4.out SI4.out HO4.out ?_;rw [HW4.out]))
    go_roundw
    case rel=>exact⟨i+1,by omega,by go_num,by
     rw [HTS.out]
     have hf:firstN (L.take i++[S])=firstN (L.take i):=yw NW.who (fun S=>Value.agg S.C) (L:=L.take i) (x:=S) (by rw [HK.out];exact hbb)
     rw [hf]
     exact hown4.mono (by omega),G4⟩
    case measure=>simp [Go.RowKit.intOf];omega
  ·obtain rfl:i=L.length:=by omega
   rw [List.take_length]at hown
   go_wp2_with fail
   go_ret
   exact⟨rfl,hown,hg⟩
theorem q8:(Tryz.prog.info? 111).map (fun i=>(i.zero,i.size,i.bytes))=some (some (.agg (#[.int .i64 0,.int .i64 0,.int .i64 0,.int .u64 0,.slice none 0 0,.int .i64 0,.int .i64 0,.int .u64 0,.int .u64 0,.int .u64 0,.int .u64 0,.int .u64 0,.int .u64 0,.int .u64 0,.int .u64 0,.int .u64 0,.int .u64 0,.int .u64 0,.int .u64 0,.int .u64 0,.int .u64 0,.int .u64 0,.int .u64 0,.int .u64 0,.int .u64 0,.slice none 0 0]:Array Value)),26,240):=by kernel_rfl
theorem jf (L:List NW) (S:NW):(nwL (L++[S])).flatten=(nwL L).flatten++S.C.toList:=by rw [zcu,List.flatten_append];simp [nwL]
theorem jY {w:World} {base n:Nat} {e:TypeId} {v:Value} {L:List NW} (h:w.ownsRow base e 26 v n (nwL L).flatten) (hn:L.length=n) :
 ∃ A c,v=.slice A n c∧RdC w A 26 (nwL L)∧n≤c∧c≤maxLen∧∀ ad,A=some ad→base≤ad.block∧ad.block<w.heap.size:=kj h (nwL_z L) (by decide) (by rw [jX];exact hn)
theorem zbm {K:KP} (hK:K.ok) (A:Option Addr) (c:Nat) (L:List NW) (hl:L.length≤100000) (u:Int) (bu bk:Nat) (w:World) (hs:Std w) (hk:K.at w) (hL:Nws w A L) (hu:w.cell? ⟨bu,0,none⟩=some (.int .i64 u)) (hkc:Ag w bk K.C.toList) :
 Calls Tryz.prog 119 #[.slice A L.length c,.func (.func 120) #[] #[],.func (.func 121) #[] #[.pointer (some ⟨bu,0,none⟩),.pointer (some ⟨bk,0,none⟩)]] w fun e w' =>
  ∃ B c',e=.returned (.slice B (eachL NW.who (L.filter (nfB K u))).length c')∧Nws w' B (eachL NW.who (L.filter (nfB K u)))∧(eachL NW.who (L.filter (nfB K u))).length≤c'∧c'≤maxLen∧Grew w w':=by
 obtain⟨i0,hi,hz0,hz1,hz2⟩:=info_parts q8
 have hut:=Tryz.underlying111
 obtain⟨p,hp⟩:∃ p,nfB K u=p:=⟨_,rfl⟩
 have CM:=hQ9 (fun S (hS:S∈L) W (g:Grew w W)=>mk1_nw hK (hL.ok S hS) u bu bk W (hs.grew g) (hk.gr g) ((hL.at_ S hS).gr g) (yN hu g) (hkc.grew g))
 rw [hp]at CM ⊢
 have HL:=hQ9 hL
 obtain⟨F,hF⟩:∃ F,L.filter p=F:=⟨_,rfl⟩
 rw [hF]
 have HFF:=hQ9 hF
 have hFL:∀ S∈F,S∈L:=fun S hS=>by rw [←hF]at hS;exact(List.mem_filter.1 hS).1
 have hFl:F.length≤100000:=by rw [←hF];exact Nat.le_trans (List.length_filter_le _ _) hl
 clear hF
 have HFL:=hQ9 hFL
 have HFW:Hid (∀ S∈F,in64 S.who):=hQ9 (fun S hS=>(HL.out.ok S (hFL S hS)).who)
 clear hFL
 obtain⟨ks,hks⟩:∃ ks,eachK NW.who F=ks:=⟨_,rfl⟩
 obtain⟨E,hE⟩:∃ E,eachL NW.who F=E:=⟨_,rfl⟩
 have hEl:E.length=ks.length:=by rw [←hE,←hks];exact yd _ _
 have HKF:Hid (ks.length≤F.length):=hQ9 (by rw [←hks];exact xh _ _)
 have HSZ:Hid (Maps.size (firstN F)=ks.length):=hQ9 (by rw [←hks];exact xr _ _ _)
 have HGET:Hid (∀ j (hj:j<ks.length) (hj':j<E.length),F.find? (fun x=>decide (NW.who x=ks[j]))=some E[j]):=hQ9 (by subst hE;subst hks;exact fun j hj hj'=>xS NW.who F j hj hj')
 have HK64:Hid (∀ k∈ks,in64 k):=hQ9 (fun k hk=>by
  rw [←hks,xo]at hk
  obtain⟨x,hx,rfl⟩:=hk
  exact HFW.out x hx)
 have HEM:Hid (∀ S∈E,S∈F):=hQ9 (by rw [←hE];exact qi _ _)
 have HOF:Hid (∀ {ss:List Int},ss.Perm (intKeys (firstN F))→ss.mergeSort leI=ks):=hQ9 (by rw [←hks];exact fun h=>qJ _ _ _ h)
 rw [hE]
 have HEL:=hQ9 hEl
 clear hE hks hEl
 have hr:=hL.rd
 clear hk hu hkc hs hL hp
 go_enter Tryz.func119,Tryz.ntmps119
 go_wp2_with fail
 go_loopw [7,16] (fun fv iv wr=>∃ i:Nat,i≤L.length∧iv=.int .i64 i∧wr.ownsRow w.heap.size 111 26 fv ((L.take i).filter p).length (nwL ((L.take i).filter p)).flatten∧Grew w wr) (fun _ i _=>L.length-(Go.RowKit.intOf i).toNat)
 case atStart=>exact⟨0,Nat.zero_le _,rfl,World.ownsRow_nil _ _ _ _,Below.refl _ _⟩
 case round =>
  obtain⟨i,hil,rfl,hrow,hg⟩:=hrel
  by_cases hlt:i<L.length
  ·obtain⟨q,hA,hq,hm⟩:=RdC.at26n hr hg i hlt
   subst hA
   have hts:L.take (i+1)=L.take i++[L[i]]:=by rw [List.take_succ_eq_append_getElem hlt]
   have HTS:=hQ9 hts
   have CMi:=fun W g=>CM.out L[i] (List.getElem_mem hlt) W g
   clear hts
   have hi0:(0:Int)≤(i:Int):=by omega
   have hi1:(i:Int)<(L.length:Int):=by omega
   have e4:IntKind.i64.wrap ((i:Int)+1)=(i:Int)+1:=IntWalk.i64_in _ (by omega)
   generalize L[i]=S at *
   have CMI:=hQ9 CMi
   have SIS:Hid ((Tryz.prog.info? 111).map (·.size)=some S.C.toList.length):=hQ9 zw
   have SIZ:Hid ((Tryz.prog.info? 111).map (·.size)=some S.C.size):=hQ9 zw
   have HON:=hQ9 S.one
   obtain⟨w2,hw2,ht2,g2,z2⟩:=xB wr S.C rfl
   have HW2:=hQ9 hw2
   have HT2:=hQ9 ht2
   have hm2:=z2.cell
   have hfl:((L.take i).filter p).length≤i:=by have:=List.length_filter_le p (L.take i);rw [List.length_take]at this;omega
   clear hw2 ht2 CMi
   obtain⟨F,hF⟩:∃ F,(L.take i).filter p=F:=⟨_,rfl⟩
   rw [hF]at hrow hfl
   have HF:=hQ9 hF
   clear hF
   go_wp2_with(first
    | (with_reducible refine wpList_load_mid rfl 111 (.tmp 18) rfl q (i*26) rfl S.C.toList _ hm hut rfl SIS.out ?_;simp only [Array.toArray_toList])
    | (with_reducible refine wpList_store_mid rfl 111 (.tmp 9) (.tmp 19) rfl wr.heap.size 0 S.C rfl rfl HT2.out SIZ.out HON.out ?_;rw [HW2.out])
    | (with_reducible refine wpList_load_mid rfl 111 (.tmp 9) rfl wr.heap.size 0 rfl S.C.toList _ hm2 hut rfl SIS.out ?_;simp only [Array.toArray_toList]))
   refine(CMI.out w2 (ze hg g2)).mono ?_
   rintro e w3 ⟨rfl,gg⟩
   have G3:=ze hg (ze g2 gg)
   have hrow3:=zn (S:=fun _=>False) hrow (zg (ze g2 gg)) (fun g _ h=>h)
   have hm3:=(z2.grew gg).cell
   have hsz3:=G3.size
   have hsz:S.C.size=26:=rfl
   obtain⟨bb,hbb⟩:∃ bb,p S=bb:=⟨_,rfl⟩
   rw [hbb]
   have HBB:=hQ9 hbb
   clear hrow hm hm2 z2 g2 gg hg HT2 HW2 CMI hbb
   cases bb
   ·go_wp2_with fail
    go_roundw
    case rel=>exact⟨i+1,by omega,by go_num,by rw [HTS.out,List.filter_append,HF.out,List.filter_cons,HBB.out];simpa using hrow3,G3⟩
    case measure=>simp [Go.RowKit.intOf];omega
   ·go_wp2_with(first
     | (with_reducible refine wpList_load_mid rfl 111 (.tmp 9) rfl wr.heap.size 0 rfl S.C.toList _ hm3 hut rfl SIS.out ?_;simp only [Array.toArray_toList])
     | (at_builtin;rw [xf];refine wpList_append_own _ rfl (.tmp 23) (.tmp 25) 120 rfl w.heap.size 111 i0 (.agg (#[.int .i64 0,.int .i64 0,.int .i64 0,.int .u64 0,.slice none 0 0,.int .i64 0,.int .i64 0,.int .u64 0,.int .u64 0,.int .u64 0,.int .u64 0,.int .u64 0,.int .u64 0,.int .u64 0,.int .u64 0,.int .u64 0,.int .u64 0,.int .u64 0,.int .u64 0,.int .u64 0,.int .u64 0,.int .u64 0,.int .u64 0,.int .u64 0,.int .u64 0,.slice none 0 0]:Array Value)) 26 240 Tryz.underlying120 hi hz0 hz1 hz2 rfl (by decide) _ _ _ rfl (hrow3.alloc _) ⟨w3.heap.size,0,none⟩ 1 1 S.C.toList rfl rfl (fun j u hj=>zT w3 S.C 111 j u hj) S.one' (by unfold maxLen;omega) (by omega) (by simp;omega) ?_;intro v' w5 hown5 hgrow5 _))
    go_roundw
    case rel=>exact⟨i+1,by omega,by go_num,by
     rw [HTS.out,List.filter_append,HF.out,List.filter_cons,HBB.out]
     simp only [if_true,List.filter_nil]
     rw [jf,List.length_append]
     exact hown5,(zf G3 _).grown hgrow5 (by simp;omega) (zB hrow3)⟩
    case measure=>simp [Go.RowKit.intOf];omega
  ·obtain rfl:i=L.length:=by omega
   rw [List.take_length]at hrow
   rw [HFF.out]at hrow
   clear hil
   obtain⟨FA,fc,rfl,hFr,hfc,hfm,hfb⟩:=jY hrow rfl
   have CB:=hQ9 (by_nw FA fc F (by omega) HFW.out wr hFr)
   clear hrow hFr hfb
   go_wp2_with fail
   refine(CB.out).mono ?_
   rintro e w1 ⟨rfl,hown1,g1⟩
   have G1:=ze hg g1
   have hwr:wr.heap.size<w1.heap.size:=hown1.lt
   have hszG:=G1.size
   have hkF:=HKF.out
   have hsize:=HSZ.out
   clear hg g1 CB
   obtain⟨w2,hmk,hown2,hgrow2⟩:=run_make_own (P:=Tryz.prog) w1 w1.heap.size 120 111 i0 (.agg (#[.int .i64 0,.int .i64 0,.int .i64 0,.int .u64 0,.slice none 0 0,.int .i64 0,.int .i64 0,.int .u64 0,.int .u64 0,.int .u64 0,.int .u64 0,.int .u64 0,.int .u64 0,.int .u64 0,.int .u64 0,.int .u64 0,.int .u64 0,.int .u64 0,.int .u64 0,.int .u64 0,.int .u64 0,.int .u64 0,.int .u64 0,.int .u64 0,.int .u64 0,.slice none 0 0]:Array Value)) 26 Tryz.underlying120 hi hz0 hz1 .i64 .i64 ks.length (by rw [hz2];omega) (by unfold maxLen;omega) (Nat.le_refl _)
   have g2:Grew w1 w2:=(Below.refl _ w1).grown hgrow2 (Nat.le_refl _) (fun j hj=>by cases hj)
   clear hgrow2
   have hownM2:=zW hown1 g2
   go_wp2_with(with_reducible refine wpList_len_own _ rfl (.tmp 31) 277 rfl 3 111 Tryz.underlying277 heldR wr.heap.size F.length _ rfl hown1 ?_;rw [hsize])
   clear hmk
   refine(ja (some wr.heap.size) w2).mono ?_
   rintro e w3 ⟨rfl,hw3⟩
   have CSK:=xX wr.heap.size F.length (firstN F) heldR w2 hownM2 (by rw [hsize];unfold maxLen;omega) (by rw [hsize];omega)
   rw [←hw3]at CSK
   have g3:Grew w2 w3:=by rw [hw3];exact zf (zc _) _
   have G13:=ze g2 g3
   have hw13:w1.heap.size<w3.heap.size:=by have:=g2.size;rw [hw3,zi];omega
   have hown3:=zn (S:=fun _=>False) hown2 (zg g3) (fun g _ h=>h)
   have HSK:=hQ9 CSK
   clear CSK hw3 hownM2 hown2 g2 g3
   go_wp2_with fail
   refine(HSK.out).mono ?_
   rintro e w4 ⟨v,ss,rfl,hperm,hrow4,hnil,g4⟩
   have hms:ss.mergeSort leI=ks:=HOF.out hperm
   have hssl:ss.length=ks.length:=by rw [←hms,List.length_mergeSort]
   have hrow4':w4.ownsRow w3.heap.size 3 1 v ks.length (i64L ks):=by
    rw [←hssl,←hms];exact hrow4
   obtain⟨KA,kc,rfl,hKr,hkc,hKb⟩:=xy hrow4'
   have g34:Grew w3 w4:=g4
   have HKB:Hid (∀ ad,KA=some ad→w3.heap.size≤ad.block∧ad.block<w4.heap.size):=hQ9 hKb
   have G14:=ze G13 g34
   have hown4:=zn (S:=fun _=>False) hown3 (zg g34) (fun g _ h=>h)
   have hw34:=g34.size
   clear HSK hrow4 hrow4' hnil hperm hms hssl hown3 g4 g34 G13 HOF hsize hKb
   have hEl0:E.length=ks.length:=HEL.out
   go_wp2_with fail
   generalize wr.heap.size=bM at *
   go_loopw [11,38] (fun rv iv wq=>∃ i:Nat,i≤ks.length∧iv=.int .i64 i∧wq.ownsRow w1.heap.size 111 26 rv i (nwL (E.take i)).flatten∧Grew w1 wq∧w4.heap.size≤wq.heap.size∧Rd wq wq.heap.size KA (i64L ks)∧(∀ g,rv.ownBlock=some g→g<w3.heap.size∨w4.heap.size≤g)) (fun _ i _=>ks.length-(Go.RowKit.intOf i).toNat)
   case atStart=>exact⟨0,Nat.zero_le _,rfl,by simpa [nwL]using hown4,G14,Nat.le_refl _,hKr,fun g h=>by simp [Value.ownBlock]at h;omega⟩
   case round =>
    obtain⟨i,hil,rfl,hrow,hg,hsz4,hKR,hob⟩:=hrel
    by_cases hlt:i<ks.length
    ·obtain⟨ad,hKA,hbl,hc0⟩:=zc8 (l:=ks) hKR i hlt
     subst hKA
     have hiE:i<E.length:=by omega
     have hts:E.take (i+1)=E.take i++[E[i]]:=by rw [List.take_succ_eq_append_getElem hiE]
     have HTS:=hQ9 hts
     have hfx:=HGET.out i hlt hiE
     have hk64:=HK64.out _ (List.getElem_mem hlt)
     have HI0:Hid ((0:Int)≤(i:Int)∧(i:Int)<(ks.length:Int)):=hQ9 ⟨by omega,by omega⟩
     have hi0:=HI0.out.1
     have hi1:=HI0.out.2
     have e4:IntKind.i64.wrap ((i:Int)+1)=(i:Int)+1:=IntWalk.i64_in _ (by omega)
     generalize E[i]=S at *
     generalize ks[i]=k at *
     have hkey:keyOf Tryz.prog 3 (.int .i64 k)=some (.int .i64 k):=keyOf_int_mk Tryz.underlying3 (WalkArith.wf_i64 hk64)
     have hu:(firstN F).atKey (.int .i64 k) (.held (.agg (#[.int .i64 0,.int .i64 0,.int .i64 0,.int .u64 0,.slice none 0 0,.int .i64 0,.int .i64 0,.int .u64 0,.int .u64 0,.int .u64 0,.int .u64 0,.int .u64 0,.int .u64 0,.int .u64 0,.int .u64 0,.int .u64 0,.int .u64 0,.int .u64 0,.int .u64 0,.int .u64 0,.int .u64 0,.int .u64 0,.int .u64 0,.int .u64 0,.int .u64 0,.slice none 0 0]:Array Value)))=.held (.agg S.C):=(zQ NW.who (fun S=>Value.agg S.C) F).2.2 k S _ hfx
     have hownM:=zW hown1 hg
     have hsz:S.C.size=26:=rfl
     have hszq:=hg.size
     clear hts hfx hk64
     go_wp2_with(first
      | (at_lookup;refine y4 _ rfl _ _ 277 rfl 3 111 yo Tryz.underlying277 (je _) bM F.length _ rfl hownM _ _ rfl hkey (.agg S.C) hu ?_)
      | (at_builtin;rw [xf];refine zH _ rfl (.tmp 42) (.tmp 46) 120 rfl w1.heap.size 111 i0 (.agg (#[.int .i64 0,.int .i64 0,.int .i64 0,.int .u64 0,.slice none 0 0,.int .i64 0,.int .i64 0,.int .u64 0,.int .u64 0,.int .u64 0,.int .u64 0,.int .u64 0,.int .u64 0,.int .u64 0,.int .u64 0,.int .u64 0,.int .u64 0,.int .u64 0,.int .u64 0,.int .u64 0,.int .u64 0,.int .u64 0,.int .u64 0,.int .u64 0,.int .u64 0,.slice none 0 0]:Array Value)) 26 240 Tryz.underlying120 hi hz0 hz1 hz2 rfl (by decide) _ _ _ rfl (hrow.alloc _) ⟨wr.heap.size,0,none⟩ 1 1 S.C.toList rfl rfl (fun j u hj=>zT wr S.C 111 j u hj) S.one' (by unfold maxLen;omega) (by omega) (by simp;omega) ?_;intro v' w5 hown5 hgrow5 hob5))
     go_roundw
     case rel=>exact⟨i+1,by omega,by go_num,by
      rw [HTS.out,jf]
      exact hown5,(zf hg _).grown hgrow5 (by simp;omega) (zB hrow),(by have:=hgrow5.size;simp at this;omega),
      xL (hKR.gr (zf (zc wr) _)) hgrow5 (fun ad e h=>by
       have h1:=hob _ h
       have h2:=HKB.out ad e
       omega),(fun g h=>by
       rcases hob5 with h3 | h3
       ·exact hob g (h3▸h)
       ·rw [h3]at h;injection h with h;simp at h;omega)⟩
     case measure=>simp [Go.RowKit.intOf];omega
    ·obtain rfl:i=ks.length:=by omega
     rw [←hEl0,List.take_length]at hrow
     obtain⟨B,c',rfl,hB,hc1,hc2,hbB⟩:=jY hrow rfl
     have GG:=ze G1 hg
     go_wp2_with fail
     go_ret
     exact⟨B,c',by rw [hEl0];rfl,⟨hB,fun S hS=>HL.out.ok S (HFL.out S (HEM.out S hS)),fun S hS=>(HL.out.at_ S (HFL.out S (HEM.out S hS))).gr GG⟩,hc1,hc2,GG⟩
end Go.Proofs.YtidjnnnigcmdpaaGreatDoor
