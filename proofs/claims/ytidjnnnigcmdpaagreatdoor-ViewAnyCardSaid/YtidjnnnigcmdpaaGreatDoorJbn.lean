/- CertMakes: Make in one form, are stamps few and short. -/
import Derived.Test.YtidjnnnigcmdpaaGreatDoorJzz
import Derived.Test.YtidjnnnigcmdpaaGreatDoorJbl
import Derived.Test.YtidjnnnigcmdpaaGreatDoorJbh
import Derived.Test.YtidjnnnigcmdpaaGreatDoorJaz
import Derived.Test.YtidjnnnigcmdpaaGreatDoorJak
import Derived.Test.YtidjnnnigcmdpaaGreatDoorJbi
import Derived.Test.YtidjnnnigcmdpaaGreatDoorJbm
set_option maxHeartbeats 4000000
set_option maxRecDepth 100000
set_option linter.unusedSimpArgs false
set_option linter.unusedVariables false
set_option linter.unnecessarySimpa false
namespace Go.Proofs.YtidjnnnigcmdpaaGreatDoor
open Go.RowKit
theorem zci (a:Addr) {n:Nat} (h:n≠0):a.add n=⟨a.block,a.off+n,none⟩:=by unfold Addr.add;rw [if_neg h]
def RdG (w:World) (A:Option Addr) (L:List SP):Prop:=∀ k (h:k<L.length),∃ ad,A=some ad∧ad.block<w.heap.size∧∀ j v,L[k].C.toList[j]?=some v→w.cell? ((ad.add (k*24)).add j)=some v
theorem RdG.gr {w w':World} {A:Option Addr} {L:List SP} (h:RdG w A L) (g:Grew w w'):RdG w' A L:=fun k hk=>by
 obtain⟨ad,e,hb,hc⟩:=h k hk
 exact⟨ad,e,Nat.lt_of_lt_of_le hb g.size,fun j v hj=>(g.cell (p:=(ad.add (k*24)).add j) (by rw [zv,zv];exact hb)).trans (hc j v hj)⟩
structure SpsG (w:World) (A:Option Addr) (L:List SP):Prop where
 rd:RdG w A L
 ok:∀ S∈L,S.ok
 at_:∀ S∈L,S.at w
theorem SpsG.gr {w w':World} {A:Option Addr} {L:List SP} (h:SpsG w A L) (g:Grew w w'):SpsG w' A L:=⟨h.rd.gr g,h.ok,fun S hS=>(h.at_ S hS).gr g⟩
theorem xa {P:Program} {w0:World} {a:Act} {o:Oper} {K:Act→Prop} (ty:TypeId) (x:Operand) (h:o.op=.load ty x) (ad:Addr) (hx:a.eval x=.pointer (some ad)) (cs:List Value) (d:TypeDesc)
 (hg:∀ y:Gr w0,∀ j v,cs[j]?=some v→y.val.cell? (ad.add j)=some v) (hu:P.underlying ty=some d) (hd:(match d with | .struct _ | .array _ _=>true | _=>false)=true) (hi:(P.info? ty).map (·.size)=some cs.length)
 (hk:K (a.put o.dst (.agg cs.toArray))):o.quiet P a (fun w'=>∃ x:Gr w0,w'=x.val) K:=by
 refine⟨_,fun w hw=>?_,hk⟩
 obtain⟨y,rfl⟩:=hw
 unfold Oper.quietAt execOp
 simp only [h,hx,Instr.loadAt,Instr.sureAddr,Sem.run_bind,Sem.run_pure,Result.andThen_ok,kg y.val ad ty cs d (hg y) hu hd hi]
 exact⟨rfl,rfl⟩
structure OneR (w:World) (B lo hi:Nat) (cs:List Value) (v:Value):Prop where
 out:∃ g,v=.slice (some ⟨g,0,none⟩) 1 1∧Ag w g cs∧B≤lo∧lo≤g∧g<hi
theorem OneR.kp {P:Nat→Prop} {w w':World} {B lo hi:Nat} {cs:List Value} {v:Value} (h:OneR w B lo hi cs v) (k:Kp P w w') (hp:∀ g,P g→g<B):OneR w' B lo hi cs v:=by
 obtain⟨q,h1,h2,h3,h4,h5⟩:=h.out
 exact⟨q,h1,h2.kp k (fun h6=>by have:=hp _ h6;omega),h3,h4,h5⟩
structure AppR (w:World) (base:Nat) (r:Value) (N0 n:Nat) (xs:List Value) (v:Value):Prop where
 own:w.ownsRow base 235 24 v n xs
 blk:v.ownBlock=r.ownBlock∨∃ g,v.ownBlock=some g∧N0≤g
theorem AppR.gr {w w':World} {base:Nat} {r:Value} {N0 n:Nat} {xs:List Value} {v:Value} (h:AppR w base r N0 n xs v) (g:Grew w w'):AppR w' base r N0 n xs v:=⟨zx (S:=fun _=>False) h.own (zj g) (fun _ _ h=>h),h.blk⟩
open Go.ChangeShapes Go.WideShapes Go.Deep
instance:Inhabited SP:=⟨⟨0,0,0,0,0,fun _=>0,none,0,[]⟩⟩
section
variable {H : Type} {enc : TypeId × Value → H} {W : World}
end
end Go.Proofs.YtidjnnnigcmdpaaGreatDoor
namespace Go.Proofs.YtidjnnnigcmdpaaGreatDoor
open Go.RowKit
def RaV (w:World) (A:Option Addr) (L:List VP):Prop:=∀ k (h:k<L.length),∃ ad,A=some ad∧ad.block<w.heap.size∧∀ j v,L[k].C.toList[j]?=some v→w.cell? ((ad.add (k*24)).add j)=some v
theorem RaV.gr {w w':World} {A:Option Addr} {L:List VP} (h:RaV w A L) (g:Grew w w'):RaV w' A L:=fun k hk=>by
 obtain⟨ad,e,hb,hc⟩:=h k hk
 exact⟨ad,e,Nat.lt_of_lt_of_le hb g.size,fun j v hj=>(g.cell (p:=(ad.add (k*24)).add j) (by rw [zv,zv];exact hb)).trans (hc j v hj)⟩
structure VpsG (w:World) (A:Option Addr) (L:List VP):Prop where
 rd:RaV w A L
 ok:∀ S∈L,S.ok
 at_:∀ S∈L,S.at w
theorem VpsG.gr {w w':World} {A:Option Addr} {L:List VP} (h:VpsG w A L) (g:Grew w w'):VpsG w' A L:=⟨h.rd.gr g,h.ok,fun S hS=>(h.at_ S hS).gr g⟩
theorem zk1 (S:VP) (hS:S.ok) (w:World) (ha:S.at w) :
 Calls Tryz.prog 28 #[.agg S.C] w fun e w'=>∃ A2 c2,e=.returned (.agg (S.mv A2 c2).C)∧(S.mv A2 c2).at w'∧(∀ ad,A2=some ad→w.heap.size≤ad.block)∧Grew w w' :=
 (zkv S.vw S.cm S.who S.sw S.lf S.s S.A S.c S.l (by have:=hS.len;omega) w ha).mono fun e w' ⟨A2,c2,h1,h2,h3,h4⟩=>⟨A2,c2,h1,h2,h4,h3⟩
theorem zit (A:Option Addr) (c:Nat) (L:List VP) (hl:L.length≤100000) (w:World) (hL:VpsG w A L) :
 Calls Tryz.prog 31 #[.slice A L.length c] w fun e w'=>∃ B c' M,e=.returned (.slice B L.length c')∧MvV L M∧Vps w' B M∧L.length≤c'∧c'≤maxLen∧(∀ ad,B=some ad→w.heap.size≤ad.block)∧(∀ S∈M,∀ ad,S.A=some ad→S.l=[]∨w.heap.size≤ad.block)∧Grew w w':=by
 obtain⟨i0,hi,hz0,hz1,hz2⟩:=info_parts kV
 have hut:=Tryz.underlying75
 have HL:=hQ9 hL
 have hr:=hL.rd
 clear hL
 go_enter Tryz.func31,Tryz.ntmps31
 go_wp2_with fail
 go_loopw [3,4] (fun rv iv wr=>∃(i:Nat) (M:List VP),i≤L.length∧iv=.int .i64 i∧MvV (L.take i) M∧(∀ S∈M,S.ok)∧(∀ S∈M,S.at wr)∧(∀ S∈M,∀ ad,S.A=some ad→∀ g,rv.ownBlock=some g→S.l=[]∨ad.block≠g)∧(∀ S∈M,∀ ad,S.A=some ad→S.l=[]∨w.heap.size≤ad.block)∧wr.ownsRow w.heap.size 69 24 rv i (vpL M).flatten∧Grew w wr) (fun _ i _=>L.length-(Go.RowKit.intOf i).toNat)
 case atStart=>exact⟨0,[],Nat.zero_le _,rfl,by simpa using MvV.nil,by simp,by simp,by simp,by simp,by simpa [vpL]using World.ownsRow_nil _ _ _ _,Below.refl _ _⟩
 case round =>
  obtain⟨i,M,hil,rfl,hmv,hok,hat,hne,hlow,hrow,hg⟩:=hrel
  by_cases hlt:i<L.length
  ·obtain⟨ad,hA,hq,hm⟩:=(hr.gr hg) i hlt
   subst hA
   have hts:L.take (i+1)=L.take i++[L[i]]:=by rw [List.take_succ_eq_append_getElem hlt]
   have HTS:=hQ9 hts
   have hSok:=HL.out.ok L[i] (List.getElem_mem hlt)
   have hSat:=(HL.out.at_ L[i] (List.getElem_mem hlt)).gr hg
   clear hts
   have hi0:(0:Int)≤(i:Int):=by omega
   have hi1:(i:Int)<(L.length:Int):=by omega
   have e4:IntKind.i64.wrap ((i:Int)+1)=(i:Int)+1:=IntWalk.i64_in _ (by omega)
   generalize L[i]=S at *
   have SIS:Hid ((Tryz.prog.info? 75).map (·.size)=some S.C.toList.length):=hQ9 yS
   have CCP:=hQ9 (zk1 S hSok wr hSat)
   have HOK:=hQ9 hok
   have HNE:=hQ9 hne
   have HLW:=hQ9 hlow
   have hwz:=hg.size
   have HWZ:=hQ9 hwz
   have HMV:=hQ9 hmv
   have HAT:=hQ9 (fun S hS=>hat S hS)
   have HSO:=hQ9 hSok
   clear hok hne hlow hmv hat hSok hSat hwz
   go_wp2_with(with_reducible refine zN rfl 75 (.tmp 14) rfl (ad.add (i*24)) rfl S.C.toList _ hm hut rfl SIS.out ?_;simp only [Array.toArray_toList])
   refine(CCP.out).mono ?_
   rintro e w3 ⟨A2,c2,rfl,hat2,hfr2,gg⟩
   have G3:=ze hg gg
   have hrow3:=zx (S:=fun _=>False) hrow (zj gg) (fun g _ h=>h)
   have hsz3:=G3.size
   have hsz:(S.mv A2 c2).C.size=24:=rfl
   have HAT3:=hQ9 (fun T hT=>(HAT.out T hT).gr gg)
   have HOB:=hQ9 (zG hrow)
   have hgz:=gg.size
   have HFR:Hid (∀ ad,A2=some ad→S.l=[]∨wr.heap.size≤ad.block):=hQ9 (fun ad h=>.inr (hfr2 ad h))
   clear hrow hm gg hg CCP HAT
   go_wp2_with(first
    | (at_builtin;rw [xp];refine zK _ rfl (.tmp 11) (.tmp 17) 36 rfl w.heap.size 69 i0 (.agg (#[.int .i64 0,.int .u64 0,.int .i64 0,.int .i64 0,.int .i64 0,.int .u64 0,.int .u64 0,.int .u64 0,.int .u64 0,.int .u64 0,.int .u64 0,.int .u64 0,.int .u64 0,.int .u64 0,.int .u64 0,.int .u64 0,.int .u64 0,.int .u64 0,.int .u64 0,.int .u64 0,.int .u64 0,.int .u64 0,.int .u64 0,.slice none 0 0]:Array Value)) 24 208 Tryz.underlying36 hi hz0 hz1 hz2 rfl (by decide) _ _ _ rfl (hrow3.alloc _) ⟨w3.heap.size,0,none⟩ 1 1 (S.mv A2 c2).C.toList rfl rfl (fun j u hj=>yd w3 (S.mv A2 c2).C 69 j u hj) (S.mv A2 c2).one' (by unfold maxLen;omega) (by omega) (by simp;omega) ?_;intro v' w5 hown5 hgrow5 hob5))
   have ga:=zg (zc w3) (.cells (S.mv A2 c2).C 69)
   go_roundw
   case rel =>
    refine⟨i+1,M++[S.mv A2 c2],by omega,by go_num,by rw [HTS.out];exact HMV.out.snoc S A2 c2,?_,?_,?_,?_,by rw [yK];exact hown5,(zg G3 _).grown hgrow5 (by simp;omega) (zA hrow3)⟩
    ·intro T hT
     rcases List.mem_append.1 hT with h | h
     ·exact HOK.out T h
     ·obtain rfl:T=S.mv A2 c2:=by simpa using h
      exact VP.mv_ok HSO.out _ _
    ·intro T hT
     rcases List.mem_append.1 hT with h | h
     ·exact ya ((HAT3.out T h).gr ga) hgrow5 (fun ad e g hg=>HNE.out T h ad e g hg)
     ·obtain rfl:T=S.mv A2 c2:=by simpa using h
      exact ya (hat2.gr ga) hgrow5 (fun ad e g hg=>by
       rcases HFR.out ad e with h1 | h1
       ·exact .inl h1
       ·have:=(HOB.out g hg).2
        exact .inr (by omega))
    ·intro T hT ad e g hg
     have hlt9:T.l=[]∨ad.block<(w3.alloc (.cells (S.mv A2 c2).C 69)).heap.size:=by
      rcases List.mem_append.1 hT with h | h
      ·exact zR ((HAT3.out T h).gr ga) ad e
      ·obtain rfl:T=S.mv A2 c2:=by simpa using h
       exact zR (hat2.gr ga) ad e
     rcases hob5 with h3 | h3
     ·rw [h3]at hg
      rcases List.mem_append.1 hT with h | h
      ·exact HNE.out T h ad e g hg
      ·obtain rfl:T=S.mv A2 c2:=by simpa using h
       rcases HFR.out ad e with h1 | h1
       ·exact .inl h1
       ·have:=(HOB.out g hg).2
        exact .inr (by omega)
     ·rw [h3]at hg;injection hg with hg
      rcases hlt9 with h1 | h1
      ·exact .inl h1
      ·exact .inr (by omega)
    ·intro T hT ad e
     rcases List.mem_append.1 hT with h | h
     ·exact HLW.out T h ad e
     ·obtain rfl:T=S.mv A2 c2:=by simpa using h
      rcases HFR.out ad e with h1 | h1
      ·exact .inl h1
      ·exact .inr (Nat.le_trans HWZ.out h1)
   case measure=>simp [Go.RowKit.intOf];omega
  ·obtain rfl:i=L.length:=by omega
   rw [List.take_length]at hmv
   obtain⟨B,c',rfl,hB,hc1,hc2,hbB⟩:=xi hrow hmv.len
   go_wp2_with fail
   go_ret
   exact⟨B,c',M,rfl,hmv,⟨hB,hok,hat⟩,hc1,hc2,fun ad e=>(hbB ad e).1,hlow,hg⟩
open Go.ChangeShapes Go.WideShapes Go.Deep
instance:Inhabited VP:=⟨⟨0,0,0,0,0,fun _=>0,none,0,[]⟩⟩
section
variable {H : Type} {enc : TypeId × Value → H} {W : World}
theorem zk4 {n:Nat} {cs:List Value} {x:DataW H × List MemPlace} (h:DataW.trod enc Tryz.prog W 0 (fun _=>true) true n 75 cs=some x) :
 ∃ S:VP,cs=S.C.toList∧(S.l.length≤1000→S.ok)∧S.at W:=by
 obtain⟨xs,m,_,_,hl,hlen,hh⟩:=DataW.trod_struct Tryz.underlying75 h
 rw [show Tryz.prog.cellsOf 75=24 by kernel_rfl]at hl
 have ci:Tryz.prog.cellsOf 3=1:=by kernel_rfl
 have cu:Tryz.prog.cellsOf 25=1:=by kernel_rfl
 have cg:Tryz.prog.cellsOf 73=21:=by kernel_rfl
 obtain⟨y0,y1,y2,y3,rfl⟩:∃ a b c d,xs=[a,b,c,d]:=by
  match xs,(show xs.length=4 from hlen)with
  | [a,b,c,d],_=>exact⟨a,b,c,d,rfl⟩
 have h0:DataW.trod enc Tryz.prog W 0 (fun _=>true) true m 3 ((cs.drop 0).take (Tryz.prog.cellsOf 3))=_:=hh 0 _ rfl
 have h1:DataW.trod enc Tryz.prog W 0 (fun _=>true) true m 25 ((cs.drop 1).take (Tryz.prog.cellsOf 25))=_:=hh 1 _ rfl
 have h2:DataW.trod enc Tryz.prog W 0 (fun _=>true) true m 3 ((cs.drop 2).take (Tryz.prog.cellsOf 3))=_:=hh 2 _ rfl
 have h3:DataW.trod enc Tryz.prog W 0 (fun _=>true) true m 73 ((cs.drop 3).take (Tryz.prog.cellsOf 73))=_:=hh 3 _ rfl
 simp only [ci,cu,cg,List.getElem?_cons_zero,List.getElem?_cons_succ]at h0 h1 h2 h3
 obtain⟨vw,e0,_,i0⟩:=DataW.trod_int Tryz.underlying3 h0
 obtain⟨z,e1,_,i1⟩:=DataW.trod_int Tryz.underlying25 h1
 obtain⟨wh,e2,_,i2⟩:=DataW.trod_int Tryz.underlying3 h2
 obtain⟨who,lf,s,A,c,l,e3,w1,w2,hs,hc,hm,hr,hz⟩:=zb9 h3
 obtain⟨cm,rfl,hcm⟩:=jq i1
 refine⟨⟨vw,cm,wh,who,lf,s,A,c,l⟩,?_,fun h=>⟨wf_i64 i0,hcm,wf_i64 i2,w1,w2,hs,h,hz⟩,hr⟩
 have k0:=yh cs 0 1
 have k1:=yh cs 1 1
 have k2:=yh cs 2 1
 have k3:=yh cs 3 21
 rw [e0]at k0
 rw [e1]at k1
 rw [e2]at k2
 rw [e3,show cs.drop (3+21)=[] from List.drop_eq_nil_of_le (by omega)]at k3
 rw [show 2+1=3 from rfl,k3]at k2
 rw [show 1+1=2 from rfl,k2]at k1
 rw [show 0+1=1 from rfl,k1]at k0
 rw [List.drop_zero]at k0
 rw [k0]
 rfl
end
end Go.Proofs.YtidjnnnigcmdpaaGreatDoor
namespace Go.Proofs.YtidjnnnigcmdpaaGreatDoor
open Go.RowKit
theorem yp:(Tryz.prog.info? 28).map (·.size)=some 3:=by kernel_rfl
theorem zgz {K:KP} {S:VP} (hK:K.ok) (hS:S.ok) (w:World) (hs:Std w) (hk:K.at w) (ha:S.at w) :
 Calls Tryz.prog 29 #[.agg K.C,.agg S.C] w fun e w'=>e=.returned (.int .i64 (vvS K S))∧Grew w w' :=
 zc4 K.f hK.f K.R K.RA K.Rc K.h S.vw S.cm S.who S.sw S.lf S.s S.A S.c S.l hS.cm hS.who hS.vw hS.sw hS.lf hS.len hS.s hS.l hK.len w hk ha
theorem zc9 {K:KP} (hK:K.ok) (u:Int) (d:Nat) (A:Option Addr) (k:Nat) (L:List VP) (hl:L.length≤100000) (w:World) (hS:Std w) (hk:K.at w) (hL:VpsG w A L) :
 Calls Tryz.prog 41 #[.agg K.C,.agg (vqC u d A L.length k)] w fun e w'=>e=.returned (.int .i64 (vqE K u d L))∧Grew w w':=by
 have huk:=Tryz.underlying24
 have hus:=Tryz.underlying75
 have SIK:Hid ((Tryz.prog.info? 24).map (·.size)=some K.C.toList.length):=hQ9 (by kernel_rfl)
 have z0:=(Ag.new w 24 K.C).grew (zg (zc _) (.cells (vqC u d A L.length k) 28))
 have z1:=Ag.new (w.alloc (.cells K.C 24)) 28 (vqC u d A L.length k)
 rw [zl]at z1
 have G0:=zg (zg (zc w) (.cells K.C 24)) (.cells (vqC u d A L.length k) 28)
 have c0:((w.alloc (.cells K.C 24)).alloc (.cells (vqC u d A L.length k) 28)).cell? ⟨w.heap.size+1,0,none⟩=some (.int .i64 u):=by simpa using z1.cell 0 _ rfl
 have c1:((w.alloc (.cells K.C 24)).alloc (.cells (vqC u d A L.length k) 28)).cell? ⟨w.heap.size+1,1,none⟩=some (.int .u64 (d:Nat)):=by simpa using z1.cell 1 _ rfl
 have c2:((w.alloc (.cells K.C 24)).alloc (.cells (vqC u d A L.length k) 28)).cell? ⟨w.heap.size+1,2,none⟩=some (.slice A L.length k):=by simpa using z1.cell 2 _ rfl
 have cF:((w.alloc (.cells K.C 24)).alloc (.cells (vqC u d A L.length k) 28)).cell? ⟨w.heap.size,0,none⟩=some (.int .i64 K.f):=by simpa using z0.cell 0 _ rfl
 have HLA:=hQ9 (hL.gr G0)
 have HKA:=hQ9 (hk.gr G0)
 have HSS:=hQ9 (hS.grew G0)
 have HZK:=hQ9 z0
 have hf:=hK.f
 obtain⟨Q,hQ⟩:∃ n:Nat,(2*K.f+1).toNat=n:=⟨_,rfl⟩
 have eQ:2*K.f+1=(Q:Int):=by omega
 have CQ0:∀ W,Calls Tryz.prog 79 #[.int .i64 K.f] W fun e w'=>e=.returned (.int .i64 (2*K.f+1))∧Grew W w':=fun W=>(rq_ok K.f (by omega) W).mono (by rintro e z ⟨rfl,rfl⟩;exact⟨rfl,zc _⟩)
 rw [eQ]at CQ0
 have CQ:=hQ9 CQ0
 have HK:=hQ9 hK
 have HLL:=hQ9 hl
 have HZ1:=hQ9 z1
 clear hS hk hL z0 z1 CQ0 hf hK eQ
 obtain⟨gq,hgq⟩:∃ g,vqC u d A L.length k=g:=⟨_,rfl⟩
 have HGQ:=hQ9 hgq
 rw [hgq]at c0 c1 c2 cF HLA HKA HSS HZK G0 HZ1 ⊢
 clear hgq
 obtain⟨w0,hw0⟩:∃ v,(w.alloc (.cells K.C 24)).alloc (.cells gq 28)=v:=⟨_,rfl⟩
 have HW0:=hQ9 hw0
 clear hw0
 by_cases hu:u=0
 ·have eu:(u==0)=true:=by simpa using hu
  by_cases hd:d=0
  ·have ed:((d:Int) != 0)=false:=by simp [hd]
   by_cases hn:L.length=0
   ·have en:((L.length:Int) != 0)=false:=by simp [hn]
    have HR:Hid (vqE K u d L=0):=hQ9 (by unfold vqE;rw [if_pos hu,if_pos hd,if_pos hn])
    clear hu hd hn
    go_enter Tryz.func41,Tryz.ntmps41
    go_wp2_with fail
    go_ret
    exact⟨by rw [HR.out];rfl,G0⟩
   ·have en:((L.length:Int) != 0)=true:=by simpa using hn
    have HR:Hid (vqE K u d L=1):=hQ9 (by unfold vqE;rw [if_pos hu,if_pos hd,if_neg hn])
    clear hu hd hn
    go_enter Tryz.func41,Tryz.ntmps41
    go_wp2_with fail
    go_ret
    exact⟨by rw [HR.out];rfl,G0⟩
  ·have ed:((d:Int) != 0)=true:=by simpa using hd
   have HR:Hid (vqE K u d L=1):=hQ9 (by unfold vqE;rw [if_pos hu,if_neg hd])
   clear hu hd
   go_enter Tryz.func41,Tryz.ntmps41
   go_wp2_with fail
   go_ret
   exact⟨by rw [HR.out];rfl,G0⟩
 have eu:(u==0)=false:=by simpa using hu
 have HR0:Hid (vqE K u d L=cqV K u d L):=hQ9 (by unfold vqE;rw [if_neg hu])
 clear hu
 by_cases hlq:L.length=Q
 rotate_left
 ·have eq:((L.length:Int) != (Q:Int))=true:=by simp;omega
  have HR:Hid (vqE K u d L=8):=hQ9 (by rw [HR0.out];unfold cqV;rw [hQ,if_neg hlq])
  clear hlq
  go_enter Tryz.func41,Tryz.ntmps41
  go_upto_region 5 with fail
  rw [HW0.out]at c0 c1 c2 cF G0 ⊢
  have YF:∀ y:Gr w0,y.val.cell? ⟨w.heap.size,0,none⟩=some (.int .i64 K.f):=fun y=>yb cF y.ok
  have Y2:∀ y:Gr w0,y.val.cell? ⟨w.heap.size+1,2,none⟩=some (.slice A L.length k):=fun y=>yb c2 y.ok
  refine zh (zc w0) (by kernel_rfl) (by kernel_rfl) ?_
  repeat (first
   | (go_big_quiet_step (first
    | (go_at_call 79;exact callG (CQ.out _))
    | fail)))
  refine wpQuiet_nil ?_
  rintro wx ⟨⟨wx',gx⟩,rfl⟩
  go_wp2_with fail
  go_ret
  exact⟨by rw [HR.out];rfl,ze G0 gx⟩
 have eq:((L.length:Int) != (Q:Int))=false:=by simp [hlq]
 have HR:Hid (vqE K u d L=chqV K u d none L):=hQ9 (by rw [HR0.out];unfold cqV;rw [hQ,if_pos hlq])
 clear hlq hQ
 go_enter Tryz.func41,Tryz.ntmps41
 go_upto_region 5 with fail
 rw [HW0.out]at c0 c1 c2 cF HLA HKA HSS HZK G0 HZ1 ⊢
 have YF:∀ y:Gr w0,y.val.cell? ⟨w.heap.size,0,none⟩=some (.int .i64 K.f):=fun y=>yb cF y.ok
 have Y2:∀ y:Gr w0,y.val.cell? ⟨w.heap.size+1,2,none⟩=some (.slice A L.length k):=fun y=>yb c2 y.ok
 refine zh (zc w0) (by kernel_rfl) (by kernel_rfl) ?_
 repeat (first
  | (go_big_quiet_step (first
   | (go_at_call 79;exact callG (CQ.out _))
   | fail)))
 refine wpQuiet_nil ?_
 rintro wx ⟨⟨wx',gx⟩,rfl⟩
 have GX:=hQ9 gx
 have HG0:=hQ9 G0
 have C0:=hQ9 c0
 have C1:=hQ9 c1
 have C2:=hQ9 c2
 clear YF Y2 eq gx HW0 c0 c1 c2 cF eu G0
 go_wp2_with fail
 go_loopw [5] (fun iv wr=>∃ i:Nat,i≤L.length∧iv=.int .i64 (i:Int)∧Hid (chqV K u d none L=chqV K u d (prevV L i) (L.drop i))∧Grew w0 wr) (fun iv _=>L.length-(Go.RowKit.intOf iv).toNat)
 case atStart=>exact⟨0,Nat.zero_le _,rfl,hQ9 rfl,GX.out⟩
 case round =>
  obtain⟨i,hi,rfl,HJ,g2⟩:=hrel
  have c2:wr.cell? ⟨w.heap.size+1,2,none⟩=some (.slice A L.length k):=yb C2.out g2
  by_cases hlt:i<L.length
  rotate_left
  ·obtain rfl:i=L.length:=by omega
   have HR0:Hid (vqE K u d L=0):=hQ9 (by rw [HR.out,HJ.out,List.drop_length];rw [chqV])
   clear hlt hi
   go_wp2_with fail
   go_ret
   exact⟨by rw [HR0.out];rfl,ze HG0.out g2⟩
  have h1:(i:Int)<(L.length:Int):=by omega
  have h0:(0:Int)≤(i:Int):=by omega
  have hl9:=HLL.out
  have e9i:IntKind.i64.wrap ((i:Int)+1)=((i+1:Nat):Int):=by rw [IntWalk.i64_in _ (by omega)];omega
  have GJ:=hQ9 g2
  have HLW:=hQ9 (HLA.out.gr g2)
  obtain⟨ad,hA,hql,hr⟩:=HLW.out.rd i hlt
  have hdr:L.drop i=L[i]::L.drop (i+1):=by rw [List.drop_eq_getElem_cons hlt]
  have hnx:prevV L (i+1)=some (VP.who L[i]):=by show(L[i]?).map VP.who=_;rw [List.getElem?_eq_getElem hlt];rfl
  have HPV:Hid (∀ j,i=j+1→∃ x:Int,prevV L i=some x∧∀ y,Grew wr y→y.cell? ⟨(ad.add (j*24)).block,(ad.add (j*24)).off+2,none⟩=some (.int .i64 x)):=hQ9 (fun j hj=>by
   have hjl:j<L.length:=by omega
   refine⟨L[j].who,by rw [hj];show(L[j]?).map VP.who=_;rw [List.getElem?_eq_getElem hjl];rfl,fun y g=>?_⟩
   obtain⟨ad2,hA2,hq2,hr2⟩:=HLW.out.rd j hjl
   rw [hA]at hA2;injection hA2 with hA2;subst hA2
   have h3:wr.cell? ⟨(ad.add (j*24)).block,(ad.add (j*24)).off+2,none⟩=some (.int .i64 L[j].who):=hr2 2 (.int .i64 L[j].who) rfl
   exact(g.cell (p:=⟨(ad.add (j*24)).block,(ad.add (j*24)).off+2,none⟩) (by show(ad.add (j*24)).block<_;rw [zv];exact hq2)).trans h3)
  have HOKS:Hid L[i].ok:=hQ9 (HLW.out.ok _ (List.getElem_mem _))
  have HATS:Hid (∀ y,Grew wr y→L[i].at y):=hQ9 (fun y g=>(HLW.out.at_ _ (List.getElem_mem _)).gr g)
  have HDR:=hQ9 hdr
  have HNX:=hQ9 hnx
  have hm:∀ j u,L[i].C.toList[j]?=some u→wr.cell? ((ad.add (i*24)).add j)=some u:=hr
  subst hA
  clear hr g2 hi hql hdr hnx
  generalize L[i]=S at *
  have HI:=hQ9 hlt
  clear hlt
  have SIS:Hid ((Tryz.prog.info? 75).map (·.size)=some S.C.toList.length):=hQ9 yS
  have SIZ:Hid ((Tryz.prog.info? 75).map (·.size)=some S.C.size):=hQ9 yS
  have HON:=hQ9 S.one
  obtain⟨w2,hw2,ht2,g2,z2⟩:=zW wr 75 (#[.int .i64 0,.int .u64 0,.int .i64 0,.int .i64 0,.int .i64 0,.int .u64 0,.int .u64 0,.int .u64 0,.int .u64 0,.int .u64 0,.int .u64 0,.int .u64 0,.int .u64 0,.int .u64 0,.int .u64 0,.int .u64 0,.int .u64 0,.int .u64 0,.int .u64 0,.int .u64 0,.int .u64 0,.int .u64 0,.int .u64 0,.slice none 0 0]:Array Value) S.C rfl
  have HW2:=hQ9 hw2
  have HT2:=hQ9 ht2
  have HB9:Hid ((prevV L i).any (fun x=>decide (S.who≤x))=true→vqE K u d L=10):=hQ9 (fun h=>by rw [HR.out,HJ.out,HDR.out,za3 h])
  have HE9:Hid ((prevV L i).any (fun x=>decide (S.who≤x))=false→vdV K u d S≠0→vqE K u d L=vdV K u d S):=hQ9 (fun h h2=>by rw [HR.out,HJ.out,HDR.out,kW h h2])
  have HS9:Hid ((prevV L i).any (fun x=>decide (S.who≤x))=false→vdV K u d S=0→chqV K u d none L=chqV K u d (prevV L (i+1)) (L.drop (i+1))):=hQ9 (fun h h2=>by rw [HJ.out,HDR.out,y6 h h2,HNX.out])
  have s0:∀ y,Grew w2 y→y.cell? ⟨wr.heap.size,0,none⟩=some (.int .i64 S.vw):=fun y g=>by simpa using (z2.grew g).cell 0 _ rfl
  have s1:∀ y,Grew w2 y→y.cell? ⟨wr.heap.size,1,none⟩=some (.int .u64 (S.cm:Nat)):=fun y g=>by simpa using (z2.grew g).cell 1 _ rfl
  have s2:∀ y,Grew w2 y→y.cell? ⟨wr.heap.size,2,none⟩=some (.int .i64 S.who):=fun y g=>by simpa using (z2.grew g).cell 2 _ rfl
  have T0:=hQ9 s0
  have T1:=hQ9 s1
  have T2:=hQ9 s2
  have TM:Hid (∀ y,Grew w2 y→y.rangeAt wr.heap.size 0 S.C.toList):=hQ9 (fun y g=>(z2.grew g).cell)
  have G2:=hQ9 g2
  have GW:Hid (∀ y,Grew w2 y→Grew w0 y):=hQ9 (fun y g=>ze GJ.out (ze G2.out g))
  have D0:Hid (∀ y,Grew w2 y→y.cell? ⟨w.heap.size+1,0,none⟩=some (.int .i64 u)):=hQ9 (fun y g=>yb C0.out (GW.out y g))
  have D1:Hid (∀ y,Grew w2 y→y.cell? ⟨w.heap.size+1,1,none⟩=some (.int .u64 (d:Nat))):=hQ9 (fun y g=>yb C1.out (GW.out y g))
  have D2:Hid (∀ y,Grew w2 y→y.cell? ⟨w.heap.size+1,2,none⟩=some (.slice (some ad) L.length k)):=hQ9 (fun y g=>yb C2.out (GW.out y g))
  have CV:Hid (∀ y,Grew w2 y→Calls Tryz.prog 29 #[.agg K.C,.agg S.C] y fun e w'=>e=.returned (.int .i64 (vvS K S))∧Grew y w'):=hQ9 (fun y g=>zgz HK.out HOKS.out y (HSS.out.grew (GW.out y g)) (HKA.out.gr (GW.out y g)) (HATS.out y (ze G2.out g)))
  have YK:Hid (∀ y,Grew w2 y→y.rangeAt w.heap.size 0 K.C.toList):=hQ9 (fun y g=>(HZK.out.grew (GW.out y g)).cell)
  clear hw2 ht2 z2 g2 s0 s1 s2
  generalize K.C=gk at *
  obtain⟨gs,hgs⟩:∃ g,S.C=g:=⟨_,rfl⟩
  rw [hgs]at SIS SIZ HON HW2 HT2 TM CV hm
  clear hgs
  by_cases hz:i=0
  ·have b0:decide ((0:Int)<(i:Int))=false:=decide_eq_false (by omega)
   have b1:decide (0<i)=false:=decide_eq_false (by omega)
   have HPA:Hid ((prevV L i).any (fun x=>decide (S.who≤x))=false):=hQ9 (by rw [hz];rfl)
   clear hz HPV
   go_upto_region 11 with (first
    | (with_reducible refine zN rfl 75 (.tmp 37) rfl (ad.add (i*24)) rfl gs.toList _ hm hus rfl SIS.out ?_;simp only [Array.toArray_toList])
    | (with_reducible refine wpList_store_mid rfl 75 (.tmp 6) (.tmp 38) rfl wr.heap.size 0 gs rfl rfl HT2.out SIZ.out HON.out ?_;rw [HW2.out];clear HW2 HT2))
   try simp only [Act.put,List.setIfInBounds_toArray,List.set_cons_succ,List.set_cons_zero]
   have Y2:∀ y:Gr w2,y.val.cell? ⟨w.heap.size+1,2,none⟩=some (.slice (some ad) L.length k):=fun y=>D2.out y.val y.ok
   have YW:∀ y:Gr w2,y.val.cell? ⟨wr.heap.size,2,none⟩=some (.int .i64 S.who):=fun y=>T2.out y.val y.ok
   refine zh (zc w2) (by kernel_rfl) (by kernel_rfl) ?_
   repeat (first
    | (go_big_quiet_step (first
     | fail)))
   refine wpQuiet_nil ?_
   rintro wx ⟨⟨wx',gx⟩,rfl⟩
   have GY:=hQ9 gx
   clear Y2 YW b0 b1 gx c2 hm
   have c0:=D0.out wx GY.out
   have c1:=D1.out wx GY.out
   have s0:=T0.out wx GY.out
   have s1:=T1.out wx GY.out
   by_cases hv:S.vw=u∧S.cm=d
   rotate_left
   ·have h12:vdV K u d S=12:=by
     unfold vdV
     by_cases h:S.vw=u
     ·rw [if_pos h,if_neg (fun h2=>hv ⟨h,h2⟩)]
     ·rw [if_neg h]
    have HRN:=hQ9 (HE9.out HPA.out (by rw [h12];decide))
    rw [h12]at HRN
    by_cases h:S.vw=u
    ·have ea:(S.vw != u)=false:=by simp [h]
     have eb:((S.cm:Int) != (d:Int))=true:=by
      have h7:S.cm≠d:=fun h2=>hv ⟨h,h2⟩
      have h8:(S.cm:Int)≠(d:Int):=by omega
      simpa using h8
     clear hv h h12
     go_wp2_with fail
     go_ret
     exact⟨by rw [HRN.out];rfl,ze HG0.out (GW.out wx GY.out)⟩
    ·have ea:(S.vw != u)=true:=by simpa using h
     clear hv h h12
     go_wp2_with fail
     go_ret
     exact⟨by rw [HRN.out];rfl,ze HG0.out (GW.out wx GY.out)⟩
   have ea:(S.vw != u)=false:=by simp [hv.1]
   have eb:((S.cm:Int) != (d:Int))=false:=by simp [hv.2]
   have hvd:vdV K u d S=vvS K S:=by unfold vdV;rw [if_pos hv.1,if_pos hv.2]
   have HVD:=hQ9 hvd
   clear hv hvd
   obtain⟨va,hva⟩:∃ x,vvS K S=x:=⟨_,rfl⟩
   rw [hva]at HVD CV
   have hmk:=YK.out wx GY.out
   have hms:=TM.out wx GY.out
   by_cases hv0:va=0
   ·have ec:(va != 0)=false:=by simp [hv0]
    have HN:=hQ9 (HS9.out HPA.out (by rw [HVD.out];exact hv0))
    clear hv0 hva
    go_wp2_with(first
     | (with_reducible refine wpList_load_mid rfl 24 (.tmp 2) rfl w.heap.size 0 rfl gk.toList _ hmk huk rfl SIK.out ?_;simp only [Array.toArray_toList])
     | (with_reducible refine wpList_load_mid rfl 75 (.tmp 6) rfl wr.heap.size 0 rfl gs.toList _ hms hus rfl SIS.out ?_;simp only [Array.toArray_toList]))
    refine(CV.out wx GY.out).mono ?_
    rintro e wy ⟨rfl,gy⟩
    clear hmk hms c0 c1 s0 s1
    go_wp2_with fail
    go_roundw
    case rel=>exact⟨i+1,HI.out,by go_num,HN,GW.out wy (ze GY.out gy)⟩
    case measure=>have:=HI.out;simp [Go.RowKit.intOf]<;>omega
   ·have ec:(va != 0)=true:=by simpa using hv0
    have HRN:=hQ9 (HE9.out HPA.out (by rw [HVD.out];exact hv0))
    rw [HVD.out]at HRN
    clear hv0 hva
    go_wp2_with(first
     | (with_reducible refine wpList_load_mid rfl 24 (.tmp 2) rfl w.heap.size 0 rfl gk.toList _ hmk huk rfl SIK.out ?_;simp only [Array.toArray_toList])
     | (with_reducible refine wpList_load_mid rfl 75 (.tmp 6) rfl wr.heap.size 0 rfl gs.toList _ hms hus rfl SIS.out ?_;simp only [Array.toArray_toList]))
    refine(CV.out wx GY.out).mono ?_
    rintro e wy ⟨rfl,gy⟩
    clear hmk hms c0 c1 s0 s1
    go_wp2_with fail
    go_ret
    exact⟨by rw [HRN.out];rfl,ze HG0.out (GW.out wy (ze GY.out gy))⟩
  obtain⟨j,hj⟩:∃ j,i=j+1:=⟨i-1,by omega⟩
  obtain⟨x,hpx,hs9⟩:=HPV.out j hj
  have b0:decide ((0:Int)<(i:Int))=true:=decide_eq_true (by omega)
  have b1:decide (0<i)=true:=decide_eq_true (by omega)
  have e39:IntKind.i64.wrap ((i:Int)-1)=(j:Int):=by rw [IntWalk.i64_in _ (by omega)];omega
  have hj0:(0:Int)≤(j:Int):=by omega
  have hj1:(j:Int)<(L.length:Int):=by omega
  have HS99:=hQ9 hs9
  clear hz HPV hs9
  by_cases hle:S.who≤x
  ·have e43:decide (S.who≤x)=true:=decide_eq_true hle
   have HRN:=hQ9 (HB9.out (by rw [hpx];exact e43))
   clear hle hj hpx
   go_upto_region 11 with (first
    | (with_reducible refine zN rfl 75 (.tmp 37) rfl (ad.add (i*24)) rfl gs.toList _ hm hus rfl SIS.out ?_;simp only [Array.toArray_toList])
    | (with_reducible refine wpList_store_mid rfl 75 (.tmp 6) (.tmp 38) rfl wr.heap.size 0 gs rfl rfl HT2.out SIZ.out HON.out ?_;rw [HW2.out];clear HW2 HT2))
   try simp only [Act.put,List.setIfInBounds_toArray,List.set_cons_succ,List.set_cons_zero]
   have Y2:∀ y:Gr w2,y.val.cell? ⟨w.heap.size+1,2,none⟩=some (.slice (some ad) L.length k):=fun y=>D2.out y.val y.ok
   have YW:∀ y:Gr w2,y.val.cell? ⟨wr.heap.size,2,none⟩=some (.int .i64 S.who):=fun y=>T2.out y.val y.ok
   have YP:∀ y:Gr w2,y.val.cell? ⟨(ad.add (j*24)).block,(ad.add (j*24)).off+2,none⟩=some (.int .i64 x):=fun y=>HS99.out y.val (ze G2.out y.ok)
   refine zh (zc w2) (by kernel_rfl) (by kernel_rfl) ?_
   repeat (first
    | (go_big_quiet_step (first
     | fail)))
   refine wpQuiet_nil ?_
   rintro wx ⟨⟨wx',gx⟩,rfl⟩
   go_wp2_with fail
   go_ret
   exact⟨by rw [HRN.out];rfl,ze HG0.out (GW.out _ gx)⟩
  ·have e43:decide (S.who≤x)=false:=decide_eq_false hle
   have HPA:Hid ((prevV L i).any (fun x=>decide (S.who≤x))=false):=hQ9 (by rw [hpx];exact e43)
   clear hle hj hpx
   go_upto_region 11 with (first
    | (with_reducible refine zN rfl 75 (.tmp 37) rfl (ad.add (i*24)) rfl gs.toList _ hm hus rfl SIS.out ?_;simp only [Array.toArray_toList])
    | (with_reducible refine wpList_store_mid rfl 75 (.tmp 6) (.tmp 38) rfl wr.heap.size 0 gs rfl rfl HT2.out SIZ.out HON.out ?_;rw [HW2.out];clear HW2 HT2))
   try simp only [Act.put,List.setIfInBounds_toArray,List.set_cons_succ,List.set_cons_zero]
   have Y2:∀ y:Gr w2,y.val.cell? ⟨w.heap.size+1,2,none⟩=some (.slice (some ad) L.length k):=fun y=>D2.out y.val y.ok
   have YW:∀ y:Gr w2,y.val.cell? ⟨wr.heap.size,2,none⟩=some (.int .i64 S.who):=fun y=>T2.out y.val y.ok
   have YP:∀ y:Gr w2,y.val.cell? ⟨(ad.add (j*24)).block,(ad.add (j*24)).off+2,none⟩=some (.int .i64 x):=fun y=>HS99.out y.val (ze G2.out y.ok)
   refine zh (zc w2) (by kernel_rfl) (by kernel_rfl) ?_
   repeat (first
    | (go_big_quiet_step (first
     | fail)))
   refine wpQuiet_nil ?_
   rintro wx ⟨⟨wx',gx⟩,rfl⟩
   have GY:=hQ9 gx
   clear Y2 YW YP b0 b1 e39 e43 hj0 hj1 gx c2 hm
   have c0:=D0.out wx GY.out
   have c1:=D1.out wx GY.out
   have s0:=T0.out wx GY.out
   have s1:=T1.out wx GY.out
   by_cases hv:S.vw=u∧S.cm=d
   rotate_left
   ·have h12:vdV K u d S=12:=by
     unfold vdV
     by_cases h:S.vw=u
     ·rw [if_pos h,if_neg (fun h2=>hv ⟨h,h2⟩)]
     ·rw [if_neg h]
    have HRN:=hQ9 (HE9.out HPA.out (by rw [h12];decide))
    rw [h12]at HRN
    by_cases h:S.vw=u
    ·have ea:(S.vw != u)=false:=by simp [h]
     have eb:((S.cm:Int) != (d:Int))=true:=by
      have h7:S.cm≠d:=fun h2=>hv ⟨h,h2⟩
      have h8:(S.cm:Int)≠(d:Int):=by omega
      simpa using h8
     clear hv h h12
     go_wp2_with fail
     go_ret
     exact⟨by rw [HRN.out];rfl,ze HG0.out (GW.out wx GY.out)⟩
    ·have ea:(S.vw != u)=true:=by simpa using h
     clear hv h h12
     go_wp2_with fail
     go_ret
     exact⟨by rw [HRN.out];rfl,ze HG0.out (GW.out wx GY.out)⟩
   have ea:(S.vw != u)=false:=by simp [hv.1]
   have eb:((S.cm:Int) != (d:Int))=false:=by simp [hv.2]
   have hvd:vdV K u d S=vvS K S:=by unfold vdV;rw [if_pos hv.1,if_pos hv.2]
   have HVD:=hQ9 hvd
   clear hv hvd
   obtain⟨va,hva⟩:∃ x,vvS K S=x:=⟨_,rfl⟩
   rw [hva]at HVD CV
   have hmk:=YK.out wx GY.out
   have hms:=TM.out wx GY.out
   by_cases hv0:va=0
   ·have ec:(va != 0)=false:=by simp [hv0]
    have HN:=hQ9 (HS9.out HPA.out (by rw [HVD.out];exact hv0))
    clear hv0 hva
    go_wp2_with(first
     | (with_reducible refine wpList_load_mid rfl 24 (.tmp 2) rfl w.heap.size 0 rfl gk.toList _ hmk huk rfl SIK.out ?_;simp only [Array.toArray_toList])
     | (with_reducible refine wpList_load_mid rfl 75 (.tmp 6) rfl wr.heap.size 0 rfl gs.toList _ hms hus rfl SIS.out ?_;simp only [Array.toArray_toList]))
    refine(CV.out wx GY.out).mono ?_
    rintro e wy ⟨rfl,gy⟩
    clear hmk hms c0 c1 s0 s1
    go_wp2_with fail
    go_roundw
    case rel=>exact⟨i+1,HI.out,by go_num,HN,GW.out wy (ze GY.out gy)⟩
    case measure=>have:=HI.out;simp [Go.RowKit.intOf]<;>omega
   ·have ec:(va != 0)=true:=by simpa using hv0
    have HRN:=hQ9 (HE9.out HPA.out (by rw [HVD.out];exact hv0))
    rw [HVD.out]at HRN
    clear hv0 hva
    go_wp2_with(first
     | (with_reducible refine wpList_load_mid rfl 24 (.tmp 2) rfl w.heap.size 0 rfl gk.toList _ hmk huk rfl SIK.out ?_;simp only [Array.toArray_toList])
     | (with_reducible refine wpList_load_mid rfl 75 (.tmp 6) rfl wr.heap.size 0 rfl gs.toList _ hms hus rfl SIS.out ?_;simp only [Array.toArray_toList]))
    refine(CV.out wx GY.out).mono ?_
    rintro e wy ⟨rfl,gy⟩
    clear hmk hms c0 c1 s0 s1
    go_wp2_with fail
    go_ret
    exact⟨by rw [HRN.out];rfl,ze HG0.out (GW.out wy (ze GY.out gy))⟩
theorem jJ {K:KP} {S:NW} (hK:K.ok) (hS:S.ok) (w:World) (hs:Std w) (hk:K.at w) (hp:Rd w w.heap.size S.A (u64L S.l)) (hq:VpsG w S.QA S.H) :
 Calls Tryz.prog 51 #[.agg K.C,.agg S.C] w fun e w'=>e=.returned (.int .i64 (nvS K S))∧Grew w w':=by
 have CQ:=hQ9 (fun W h1 h2 h3=>zc9 hK S.qv S.qd S.QA S.Qk S.H hS.h W h1 h2 h3)
 have HKA:=hQ9 hk
 have HQA:=hQ9 hq
 have HST:=hQ9 hs
 have huq:=Tryz.underlying28
 have huv:=Tryz.underlying109
 have SIV:Hid ((Tryz.prog.info? 109).map (·.size)=some S.C.toList.length):=hQ9 (by kernel_rfl)
 have SIQ:Hid ((Tryz.prog.info? 28).map (·.size)=some (vqC S.qv S.qd S.QA S.H.length S.Qk).toList.length):=hQ9 (by kernel_rfl)
 obtain⟨f,R,RA,Rc,h⟩:=K
 have hf:1≤f∧f≤3:=hK.f
 have hRl:R.length≤1000:=hK.len
 have hrR:Rd w w.heap.size RA (u64L R):=hk
 obtain⟨vw,qv,qd,QA,H,Qk,who,sw,lf,s,A,c,l⟩:=S
 have hv:in64 vw:=hS.vw
 have hqv:in64 qv:=hS.qv
 have hqd:qd<18446744073709551616:=hS.qd
 have hw:in64 who:=hS.who
 have hsw:in64 sw:=hS.sw
 have hlf:in64 lf:=hS.lf
 have hl:l.length≤1000:=hS.len
 have hsk:∀ k,k<18→s k<18446744073709551616:=hS.s
 have hb:∀ x∈l,x<18446744073709551616:=hS.l
 have hrl:Rd w w.heap.size A (u64L l):=hp
 obtain⟨K,hKK⟩:∃ K:KP,(⟨f,R,RA,Rc,h⟩:KP)=K:=⟨_,rfl⟩
 obtain⟨ev,hev⟩:∃ e:Int,vqE K qv qd H=e:=⟨_,rfl⟩
 have HNVS:Hid (nvS K ⟨vw,qv,qd,QA,H,Qk,who,sw,lf,s,A,c,l⟩=if who<0 then (1:Int) else if 3*f+1≤who then 1 else if vw<1 then 1 else if 1048576<vw then 1 else if ckE R h who.toNat (nwD vw qv qd who) sw lf s l=0 then (if ev=0 then (if vw≤qv then 12 else 0) else ev) else ckE R h who.toNat (nwD vw qv qd who) sw lf s l):=hQ9 (by rw [←hev,←hKK];rfl)
 have HKK:=hQ9 hKK
 rw [hKK]at CQ HKA
 rw [show vqE K qv qd H=ev from hev]at CQ
 rw [show KP.C ⟨f,R,RA,Rc,h⟩=kyS f RA R.length Rc h from rfl]at *
 rw [show NW.C ⟨vw,qv,qd,QA,H,Qk,who,sw,lf,s,A,c,l⟩=nwC vw qv qd QA H.length Qk who sw lf s (.slice A l.length c) from rfl]at *
 rw [show nvS ⟨f,R,RA,Rc,h⟩ ⟨vw,qv,qd,QA,H,Qk,who,sw,lf,s,A,c,l⟩=nvS K ⟨vw,qv,qd,QA,H,Qk,who,sw,lf,s,A,c,l⟩ from by rw [hKK]]
 obtain⟨NVV,hNV⟩:∃ x,nvS K ⟨vw,qv,qd,QA,H,Qk,who,sw,lf,s,A,c,l⟩=x:=⟨_,rfl⟩
 rw [hNV]at HNVS ⊢
 clear hNV hk hp hq hs hev hS hK hKK
 have huk:=Tryz.underlying24
 have hug:=Tryz.underlying73
 have HSK:Hid ((Tryz.prog.info? 24).map (·.size)=some (kyS f RA R.length Rc h).toList.length):=hQ9 jp
 have HSG:Hid ((Tryz.prog.info? 73).map (·.size)=some (sgC sw lf s (.slice A l.length c)).toList.length):=hQ9 y4
 have z1:=(Ag.new w 24 (kyS f RA R.length Rc h)).grew (zg (zc _) (.cells (nwC vw qv qd QA H.length Qk who sw lf s (.slice A l.length c)) 109))
 have z2:=Ag.new (w.alloc (.cells (kyS f RA R.length Rc h) 24)) 109 (nwC vw qv qd QA H.length Qk who sw lf s (.slice A l.length c))
 rw [zl]at z2
 have G0:=zg (zg (zc w) (.cells (kyS f RA R.length Rc h) 24)) (.cells (nwC vw qv qd QA H.length Qk who sw lf s (.slice A l.length c)) 109)
 have b1:((w.alloc (.cells (kyS f RA R.length Rc h) 24)).alloc (.cells (nwC vw qv qd QA H.length Qk who sw lf s (.slice A l.length c)) 109)).cell? ⟨w.heap.size+1,1,none⟩=some (.int .i64 who):=by simpa using z2.cell 1 _ rfl
 have hm:=z1.cell
 have CW:=hQ9 (fun W=>zdt f hf RA R.length Rc h who W)
 have HRR:=hQ9 hrR
 have HLL:=hQ9 hrl
 clear hrR hrl
 by_cases hA:0≤who∧who<3*f+1
 case neg =>
  have HE:Hid (NVV=1):=hQ9 (by
   rw [HNVS.out]
   by_cases h0:who<0
   ·rw [if_pos h0]
   ·rw [if_neg h0,if_pos (by omega)])
  rw [show whB f who=false from decide_eq_false hA]at CW
  clear hsk hb hA
  go_enter Tryz.func51,Tryz.ntmps51
  go_wp2_with(first
   | (with_reducible refine wpList_load_mid rfl 24 (.tmp 2) rfl w.heap.size 0 rfl (kyS f RA R.length Rc h).toList _ hm huk rfl HSK.out ?_;simp only [Array.toArray_toList]))
  refine(CW.out _).mono ?_
  rintro e w2 ⟨rfl,gg⟩
  have G2:=ze G0 gg
  have y1:=z1.grew gg
  have y2:=z2.grew gg
  have c2:w2.cell? ⟨w.heap.size+1,0,none⟩=some (.int .i64 vw):=by simpa using y2.cell 0 _ rfl
  clear hm z1 z2 gg CW G0
  go_wp2_with fail
  go_ret
  exact⟨by rw [HE.out];rfl,G2⟩
 rw [show whB f who=true from decide_eq_true hA]at CW
 have HV:Hid (NVV=if vw<1 then 1 else if 1048576<vw then 1 else if ckE R h who.toNat (nwD vw qv qd who) sw lf s l=0 then (if ev=0 then (if vw≤qv then 12 else 0) else ev) else ckE R h who.toNat (nwD vw qv qd who) sw lf s l):=hQ9 (by rw [HNVS.out,if_neg (by omega),if_neg (by omega)])
 by_cases hT:1≤vw∧vw≤1048576
 case neg =>
  have HE:Hid (NVV=1):=hQ9 (by rw [HV.out];by_cases h1:vw<1;rw [if_pos h1];rw [if_neg h1,if_pos (by omega)])
  clear HV hsk hb hA
  rcases(show vw<1∨(¬vw<1∧1048576<vw) by omega)with t | ⟨t,t'⟩
  ·have t0:decide (vw<1)=true:=decide_eq_true t
   clear hT t
   go_enter Tryz.func51,Tryz.ntmps51
   go_wp2_with(first
    | (with_reducible refine wpList_load_mid rfl 24 (.tmp 2) rfl w.heap.size 0 rfl (kyS f RA R.length Rc h).toList _ hm huk rfl HSK.out ?_;simp only [Array.toArray_toList]))
   refine(CW.out _).mono ?_
   rintro e w2 ⟨rfl,gg⟩
   have G2:=ze G0 gg
   have y1:=z1.grew gg
   have y2:=z2.grew gg
   have c2:w2.cell? ⟨w.heap.size+1,0,none⟩=some (.int .i64 vw):=by simpa using y2.cell 0 _ rfl
   clear hm z1 z2 gg CW G0
   go_wp2_with fail
   go_ret
   exact⟨by rw [HE.out];rfl,G2⟩
  ·have t0:decide (vw<1)=false:=decide_eq_false t
   have t1:decide (1048576<vw)=true:=decide_eq_true t'
   clear hT t t'
   go_enter Tryz.func51,Tryz.ntmps51
   go_wp2_with(first
    | (with_reducible refine wpList_load_mid rfl 24 (.tmp 2) rfl w.heap.size 0 rfl (kyS f RA R.length Rc h).toList _ hm huk rfl HSK.out ?_;simp only [Array.toArray_toList]))
   refine(CW.out _).mono ?_
   rintro e w2 ⟨rfl,gg⟩
   have G2:=ze G0 gg
   have y1:=z1.grew gg
   have y2:=z2.grew gg
   have c2:w2.cell? ⟨w.heap.size+1,0,none⟩=some (.int .i64 vw):=by simpa using y2.cell 0 _ rfl
   clear hm z1 z2 gg CW G0
   go_wp2_with fail
   go_ret
   exact⟨by rw [HE.out];rfl,G2⟩
 obtain⟨n,rfl⟩:=Int.eq_ofNat_of_zero_le hA.1
 have HE:Hid (NVV=if ckE R h n (nwD vw qv qd (n:Int)) sw lf s l=0 then (if ev=0 then (if vw≤qv then 12 else 0) else ev) else ckE R h n (nwD vw qv qd (n:Int)) sw lf s l):=hQ9 (by rw [HV.out,if_neg (by omega),if_neg (by omega)];rfl)
 have CS:=hQ9 (fun W h1 h2=>qQ f R RA Rc h n (nwD vw qv qd (n:Int)) sw lf s A c l (by omega) hlf hl hsk hb (qT _ _ _ _) hRl W h1 h2)
 have CD:=hQ9 (fun W=>kX vw qv qd QA H.length Qk (n:Int) sw lf s A c l hqd hqv hw hv W)
 have t0:decide (vw<1)=false:=decide_eq_false (by omega)
 have t1:decide (1048576<vw)=false:=decide_eq_false (by omega)
 have H07:=hQ9 (zgm R h n (nwD vw qv qd (n:Int)) sw lf s l)
 clear HV HNVS hsk hb hA hT
 generalize nwD vw qv qd (n:Int)=d at *
 generalize ckE R h n d sw lf s l=ck at *
 obtain⟨bk,hbk⟩:∃ b,decide (ck=0)=b:=⟨_,rfl⟩
 rw [hbk]at CS
 have HBK:=hQ9 hbk
 clear hbk
 go_enter Tryz.func51,Tryz.ntmps51
 go_wp2_with(first
  | (with_reducible refine wpList_load_mid rfl 24 (.tmp 2) rfl w.heap.size 0 rfl (kyS f RA R.length Rc h).toList _ hm huk rfl HSK.out ?_;simp only [Array.toArray_toList]))
 refine(CW.out _).mono ?_
 rintro e w2 ⟨rfl,gg⟩
 have G2:=ze G0 gg
 have y1:=z1.grew gg
 have y2:=z2.grew gg
 have c2:w2.cell? ⟨w.heap.size+1,0,none⟩=some (.int .i64 vw):=by simpa using y2.cell 0 _ rfl
 clear hm z1 z2 gg CW G0
 have M1:Hid (∀ y:Gr w2,y.val.rangeAt w.heap.size 0 (kyS f RA R.length Rc h).toList):=hQ9 (fun y=>(y1.gr y).cell)
 have M2:Hid (∀ y:Gr w2,y.val.rangeAt (w.heap.size+1) 5 (sgC sw lf s (.slice A l.length c)).toList):=hQ9 (fun y=>zcg (y2.gr y).cell)
 have M3:Hid (∀ y:Gr w2,y.val.rangeAt (w.heap.size+1) 0 (nwC vw qv qd QA H.length Qk (n:Int) sw lf s (.slice A l.length c)).toList):=hQ9 (fun y=>(y2.gr y).cell)
 have RR:Hid (∀ y:Gr w2,Rd y.val y.val.heap.size RA (u64L R)):=hQ9 (fun y=>(HRR.out.gr G2).gr y.ok)
 have RL:Hid (∀ y:Gr w2,Rd y.val y.val.heap.size A (u64L l)):=hQ9 (fun y=>(HLL.out.gr G2).gr y.ok)
 have q1:∀ y:Gr w2,y.val.cell? ⟨w.heap.size+1,1,none⟩=some (.int .i64 (n:Int)):=fun y=>by simpa using (y2.gr y).cell 1 _ rfl
 have HQV:Hid (∀ y,Grew w2 y→y.cell? ⟨w.heap.size+1,2,none⟩=some (.int .i64 qv)∧y.cell? ⟨w.heap.size+1,0,none⟩=some (.int .i64 vw)):=hQ9 (fun y g=>⟨by simpa using (y2.grew g).cell 2 _ rfl,by simpa using (y2.grew g).cell 0 _ rfl⟩)
 have HMQ:Hid (∀ y,Grew w2 y→y.rangeAt (w.heap.size+1) 2 (vqC qv qd QA H.length Qk).toList):=hQ9 (fun y g=>NW.qc (S:=⟨vw,qv,qd,QA,H,Qk,(n:Int),sw,lf,s,A,c,l⟩) (y2.grew g).cell)
 clear y1 y2 HRR HLL
 go_wp2_with fail
 clear c2
 generalize (nwC vw qv qd QA H.length Qk (n:Int) sw lf s (.slice A l.length c))=gn at *
 refine zh (zc w2) (by kernel_rfl) (by kernel_rfl) ?_
 repeat (first
  | (go_big_quiet_want;refine zo 24 (.tmp 2) rfl w.heap.size 0 rfl (kyS f RA R.length Rc h).toList _ M1.out huk rfl HSK.out ?_;simp only [Act.put,List.setIfInBounds_toArray,List.set_cons_succ,List.set_cons_zero,Array.toArray_toList];go_big_quiet_on)
  | (go_big_quiet_want;refine zo 73 (.tmp 24) rfl (w.heap.size+1) 5 rfl (sgC sw lf s (.slice A l.length c)).toList _ M2.out hug rfl HSG.out ?_;simp only [Act.put,List.setIfInBounds_toArray,List.set_cons_succ,List.set_cons_zero,Array.toArray_toList];go_big_quiet_on)
  | (go_big_quiet_want;refine zo 109 (.tmp 3) rfl (w.heap.size+1) 0 rfl gn.toList _ M3.out huv rfl SIV.out ?_;simp only [Act.put,List.setIfInBounds_toArray,List.set_cons_succ,List.set_cons_zero,Array.toArray_toList];go_big_quiet_on)
  | (go_big_quiet_step (first
   | (go_at_call 53;exact callG (CD.out _))
   | (go_at_call 99;exact callG (CS.out _ (RR.out _) (RL.out _))))))
 refine wpQuiet_nil ?_
 rintro w8 ⟨⟨w8',g8⟩,rfl⟩
 have HG8:=hQ9 g8
 clear q1
 cases bk
 ·have HK:Hid (ck=7):=hQ9 (by
   rcases H07.out with hk | hk
   ·have:=HBK.out;simp [hk]at this
   ·exact hk)
  clear HBK
  go_wp2_with fail
  go_ret
  exact⟨by rw [HE.out,HK.out];rfl,ze G2 HG8.out⟩
 ·have HK:Hid (ck=0):=hQ9 (of_decide_eq_true HBK.out)
  clear HBK
  have HGW8:=hQ9 (ze G2 HG8.out)
  have hk8:w8.rangeAt w.heap.size 0 (kyS f RA R.length Rc h).toList:=M1.out ⟨w8,HG8.out⟩
  have hq8:=HMQ.out w8 HG8.out
  have CQ8:=hQ9 (CQ.out w8 (HST.out.grew HGW8.out) (Rd.gr HKA.out HGW8.out) (HQA.out.gr HGW8.out))
  rw [show KP.C K=kyS f RA R.length Rc h from by rw [←HKK.out];rfl]at CQ8
  clear M1 M2 M3 RR RL CQ CS CD G2
  go_wp2_with(first
   | (with_reducible refine wpList_load_mid rfl 24 (.tmp 2) rfl w.heap.size 0 rfl (kyS f RA R.length Rc h).toList _ hk8 huk rfl HSK.out ?_;simp only [Array.toArray_toList])
   | (with_reducible refine wpList_load_mid rfl 28 (.tmp 31) rfl (w.heap.size+1) 2 rfl (vqC qv qd QA H.length Qk).toList _ hq8 huq rfl SIQ.out ?_;simp only [Array.toArray_toList]))
  refine(CQ8.out).mono ?_
  clear CQ8 hk8 hq8
  rintro e w9 ⟨rfl,g9⟩
  obtain⟨d2,d0⟩:=HQV.out w9 (ze HG8.out g9)
  have HGW9:=hQ9 (ze HGW8.out g9)
  have HE2:Hid (NVV=if ev=0 then (if vw≤qv then 12 else 0) else ev):=hQ9 (by rw [HE.out,HK.out];rfl)
  clear g9 HE HK
  by_cases he:ev=0
  ·subst he
   by_cases hvq:vw≤qv
   ·have e5:decide (vw≤qv)=true:=decide_eq_true hvq
    have HE3:Hid (NVV=12):=hQ9 (by rw [HE2.out,if_pos rfl,if_pos hvq])
    clear hvq HE2
    go_wp2_with fail
    go_ret
    exact⟨by rw [HE3.out];rfl,HGW9.out⟩
   ·have e5:decide (vw≤qv)=false:=decide_eq_false hvq
    have HE3:Hid (NVV=0):=hQ9 (by rw [HE2.out,if_pos rfl,if_neg hvq])
    clear hvq HE2
    go_wp2_with fail
    go_ret
    exact⟨by rw [HE3.out];rfl,HGW9.out⟩
  ·have e6:(ev != 0)=true:=by simpa using he
   have HE3:Hid (NVV=ev):=hQ9 (by rw [HE2.out,if_neg he])
   clear he HE2
   go_wp2_with fail
   go_ret
   exact⟨by rw [HE3.out];rfl,HGW9.out⟩
def fewV (L:List VP):Bool:=decide (L.length≤10)&&L.all (fun S=>decide (S.l.length≤9))
theorem zg0 (L:List VP) (i:Nat) (hi:i<L.length) (h:L[i].l.length>9):fewV L=false:=by
 unfold fewV
 have:L.all (fun S=>decide (S.l.length≤9))=false:=by
  rw [List.all_eq_false]
  exact⟨L[i],List.getElem_mem hi,by simp;omega⟩
 rw [this,Bool.and_false]
theorem zg1 {w:World} {A:Option Addr} {L:List VP} (h:RaV w A L) (k:Nat) (hk:k<L.length):∃ ad,A=some ad∧w.cell? ((ad.add (k*24)).add 23)=some (.slice L[k].A L[k].l.length L[k].c):=by
 obtain⟨ad,e,_,hc⟩:=h k hk
 exact⟨ad,e,hc 23 _ rfl⟩
theorem ziu (u:Int) (d:Nat) (A:Option Addr) (k:Nat) (L:List VP) (w:World) (hL:RaV w A L) :
 Calls Tryz.prog 26 #[.agg (vqC u d A L.length k)] w fun e w'=>e=.returned (.bool (fewV L))∧Grew w w':=by
 have z0:=Ag.new w 28 (vqC u d A L.length k)
 have G0:=zg (zc w) (.cells (vqC u d A L.length k) 28)
 have hc:(w.alloc (.cells (vqC u d A L.length k) 28)).cell? ⟨w.heap.size,2,none⟩=some (.slice A L.length k):=by simpa using z0.cell 2 _ rfl
 have hr:=hL.gr G0
 clear z0 hL
 generalize vqC u d A L.length k=gq at *
 go_enter Tryz.func26,Tryz.ntmps26
 by_cases h10:L.length≤10
 ·have e10:decide ((10:Int)<(L.length:Int))=false:=decide_eq_false (by omega)
  have e10b:decide (10<L.length)=false:=decide_eq_false (by omega)
  go_wp2_with fail
  go_loopw [3] (fun iv wr=>∃ i:Nat,i≤L.length∧iv=.int .i64 i∧Hid (∀ j (hj:j<L.length),j<i→L[j].l.length≤9)∧wr=w.alloc (.cells gq 28)) (fun iv _=>L.length-(Go.RowKit.intOf iv).toNat)
  case atStart=>exact⟨0,Nat.zero_le _,rfl,hQ9 (fun j _ h=>absurd h (by omega)),rfl⟩
  case round =>
   obtain⟨i,hil,rfl,HI,rfl⟩:=hrel
   by_cases hlt:i<L.length
   ·obtain⟨ad,hA,hp⟩:=zg1 hr i hlt
    subst hA
    have hp2:(w.alloc (.cells gq 28)).cell? ⟨(ad.add (i*24)).block,(ad.add (i*24)).off+3+20,none⟩=some (.slice L[i].A L[i].l.length L[i].c):=by
     have e9:((ad.add (i*24)).add 23:Addr)=⟨(ad.add (i*24)).block,(ad.add (i*24)).off+3+20,none⟩:=rfl
     rw [←e9];exact hp
    have hi0:(0:Int)≤(i:Int):=by omega
    have hi1:(i:Int)<(L.length:Int):=by omega
    have e4:IntKind.i64.wrap ((i:Int)+1)=(i:Int)+1:=IntWalk.i64_in _ (by omega)
    by_cases h9:L[i].l.length≤9
    ·have HN:Hid (∀ j (hj:j<L.length),j<i+1→L[j].l.length≤9):=hQ9 (fun j hj h=>by
      by_cases e:j=i
      ·subst e;exact h9
      ·exact HI.out j hj (by omega))
     have e9:decide ((9:Int)<(L[i].l.length:Int))=false:=decide_eq_false (by omega)
     have e9b:decide (9<L[i].l.length)=false:=decide_eq_false (by omega)
     clear hp
     generalize L[i]=S at *
     go_wp2_with fail
     go_roundw
     case rel=>exact⟨i+1,by omega,by go_num,HN,by first | rfl | trivial⟩
     case measure=>simp [Go.RowKit.intOf];omega
    ·have HF:Hid (fewV L=false):=hQ9 (zg0 L i hlt (by omega))
     have e9:decide ((9:Int)<(L[i].l.length:Int))=true:=decide_eq_true (by omega)
     have e9b:decide (9<L[i].l.length)=true:=decide_eq_true (by omega)
     clear hp
     generalize L[i]=S at *
     go_wp2_with fail
     go_ret
     exact⟨by rw [HF.out];rfl,G0⟩
   ·obtain rfl:i=L.length:=by omega
    have HT:Hid (fewV L=true):=hQ9 (by
     unfold fewV
     rw [decide_eq_true h10,Bool.true_and,List.all_eq_true]
     intro S hS
     obtain⟨j,hj,rfl⟩:=List.getElem_of_mem hS
     exact decide_eq_true (HI.out j hj hj))
    go_wp2_with fail
    go_ret
    exact⟨by rw [HT.out];rfl,G0⟩
 ·have e10:decide ((10:Int)<(L.length:Int))=true:=decide_eq_true (by omega)
  have e10b:decide (10<L.length)=true:=decide_eq_true (by omega)
  have HF:Hid (fewV L=false):=hQ9 (by unfold fewV;rw [decide_eq_false h10,Bool.false_and])
  go_wp2_with fail
  go_ret
  exact⟨by rw [HF.out];rfl,G0⟩
def fewN (S:NW):Bool:=fewV S.H&&decide (S.l.length≤9)
theorem ziv (S:NW) (w:World) (hL:RaV w S.QA S.H) :
 Calls Tryz.prog 48 #[.agg S.C] w fun e w'=>e=.returned (.bool (fewN S))∧Grew w w':=by
 have huq:=Tryz.underlying28
 have SIQ:Hid ((Tryz.prog.info? 28).map (·.size)=some (vqC S.qv S.qd S.QA S.H.length S.Qk).toList.length):=hQ9 (by kernel_rfl)
 have z0:=Ag.new w 109 S.C
 have G0:=zg (zc w) (.cells S.C 109)
 have hmq:=NW.qc z0.cell
 have CF:=hQ9 (fun W (h:RaV W S.QA S.H)=>ziu S.qv S.qd S.QA S.Qk S.H W h)
 have HLA:=hQ9 hL
 have HC:Hid (∀ y,Grew (w.alloc (.cells S.C 109)) y→y.cell? ⟨w.heap.size,25,none⟩=some (.slice S.A S.l.length S.c)):=hQ9 (fun y g=>by simpa using (z0.grew g).cell 25 _ rfl)
 obtain⟨gs,hgs⟩:∃ g,S.C=g:=⟨_,rfl⟩
 rw [hgs]at z0 G0 hmq HC ⊢
 have HG0:=hQ9 G0
 have HF:Hid (fewN S=(fewV S.H&&decide (S.l.length≤9))):=hQ9 rfl
 clear hL hgs z0
 go_enter Tryz.func48,Tryz.ntmps48
 go_wp2_with(with_reducible refine wpList_load_mid rfl 28 (.tmp 3) rfl w.heap.size 2 rfl (vqC S.qv S.qd S.QA S.H.length S.Qk).toList _ hmq huq rfl SIQ.out ?_;simp only [Array.toArray_toList])
 refine(CF.out _ (HLA.out.gr HG0.out)).mono ?_
 clear CF hmq
 rintro e w2 ⟨rfl,g2⟩
 have hc:=HC.out w2 g2
 have HG2:=hQ9 (ze HG0.out g2)
 clear g2 G0
 obtain⟨bf,hbf⟩:∃ b,fewV S.H=b:=⟨_,rfl⟩
 rw [hbf]at HF ⊢
 clear hbf
 cases bf
 ·go_wp2_with fail
  go_ret
  exact⟨by rw [HF.out];rfl,HG2.out⟩
 ·go_wp2_with fail
  go_ret
  exact⟨by rw [HF.out];simp;omega,HG2.out⟩
theorem Vps.G {w:World} {A:Option Addr} {L:List VP} (h:Vps w A L):VpsG w A L:=⟨fun k hk=>by
 obtain⟨q,e,hq,hr⟩:=h.get k hk
 refine⟨⟨q,0,none⟩,e,hq,fun j v hj=>?_⟩
 have h1:=hr j v hj
 have e1:(⟨q,0,none⟩:Addr).add (k*24)=⟨q,k*24,none⟩:=by
  rcases Nat.eq_zero_or_pos (k*24)with h0 | h0
  ·rw [h0];simp [Addr.add]
  ·have:k*24≠0:=by omega
   simp [Addr.add,this]
 have e2:(⟨q,k*24,none⟩:Addr).add j=⟨q,k*24+j,none⟩:=by
  rcases Nat.eq_zero_or_pos j with rfl | h0
  ·simp [Addr.add]
  ·have:j≠0:=by omega
   simp [Addr.add,this]
 rw [e1,e2]
 exact h1,h.ok,h.at_⟩
theorem zff (S:VP) (hS:S.ok) (A:Option Addr) (c:Nat) (w:World) (ha:S.at w) (hb:(S.mv A c).at w) :
 Calls Tryz.prog 105 #[.agg S.C,.agg (S.mv A c).C] w fun e w'=>e=.returned (.bool true)∧Grew w w' :=
 ze5 S.vw S.cm S.who S.sw S.lf S.s S.A A S.c c S.l (by have:=hS.len;omega) w ha hb
theorem zda (u:Int) (d:Nat) (A B:Option Addr) (k k2:Nat) (L M:List VP) (hl:L.length≤100000) (hm:MvV L M) (w:World) (hL:VpsG w A L) (hM:VpsG w B M) :
 Calls Tryz.prog 33 #[.agg (vqC u d A L.length k),.agg (vqC u d B M.length k2)] w fun e w'=>e=.returned (.bool true)∧Grew w w':=by
 have hus:=Tryz.underlying75
 rw [hm.len]
 have z0:=(Ag.new w 28 (vqC u d A L.length k)).grew (zg (zc _) (.cells (vqC u d B L.length k2) 28))
 have z1:=Ag.new (w.alloc (.cells (vqC u d A L.length k) 28)) 28 (vqC u d B L.length k2)
 rw [zl]at z1
 have G0:=zg (zg (zc w) (.cells (vqC u d A L.length k) 28)) (.cells (vqC u d B L.length k2) 28)
 have HLA:=hQ9 (hL.gr G0)
 have HLB:=hQ9 (hM.gr G0)
 have HML:=hQ9 hm
 clear hL hM hm
 obtain⟨w0,hw0⟩:∃ v,(w.alloc (.cells (vqC u d A L.length k) 28)).alloc (.cells (vqC u d B L.length k2) 28)=v:=⟨_,rfl⟩
 rw [hw0]at z0 z1 G0 HLA HLB
 have HW0:=hQ9 hw0
 have HC:Hid (∀ y,Grew w0 y→y.cell? ⟨w.heap.size,0,none⟩=some (.int .i64 u)∧y.cell? ⟨w.heap.size,1,none⟩=some (.int .u64 (d:Nat))∧y.cell? ⟨w.heap.size,2,none⟩=some (.slice A L.length k)∧y.cell? ⟨w.heap.size+1,0,none⟩=some (.int .i64 u)∧y.cell? ⟨w.heap.size+1,1,none⟩=some (.int .u64 (d:Nat))∧y.cell? ⟨w.heap.size+1,2,none⟩=some (.slice B L.length k2)):=hQ9 (fun y g =>
  ⟨by simpa using (z0.grew g).cell 0 _ rfl,by simpa using (z0.grew g).cell 1 _ rfl,by simpa using (z0.grew g).cell 2 _ rfl,by simpa using (z1.grew g).cell 0 _ rfl,by simpa using (z1.grew g).cell 1 _ rfl,by simpa using (z1.grew g).cell 2 _ rfl⟩)
 have HG0:=hQ9 G0
 clear hw0 z0 z1 G0
 obtain⟨ga,hga⟩:∃ g,vqC u d A L.length k=g:=⟨_,rfl⟩
 obtain⟨gb,hgb⟩:∃ g,vqC u d B L.length k2=g:=⟨_,rfl⟩
 rw [hga,hgb]at HW0 ⊢
 clear hga hgb
 have eu:(u != u)=false:=by simp
 have ed:((d:Int) != (d:Int))=false:=by simp
 have en:((L.length:Int) != (L.length:Int))=false:=by simp
 go_enter Tryz.func33,Tryz.ntmps33
 go_upto_region 1 with fail
 rw [HW0.out]
 obtain⟨c0,c1,c2,d0,d1,d2⟩:=HC.out w0 (zc _)
 go_wp2_with fail
 clear c0 c1 c2 d0 d1 d2 eu ed en
 go_loopw [5] (fun iv wr=>∃ i:Nat,i≤L.length∧iv=.int .i64 (i:Int)∧Grew w0 wr) (fun iv _=>L.length-(Go.RowKit.intOf iv).toNat)
 case atStart=>exact⟨0,Nat.zero_le _,rfl,zc _⟩
 case round =>
  obtain⟨i,hi,rfl,g2⟩:=hrel
  obtain⟨-,-,c2,-,-,d2⟩:=HC.out wr g2
  by_cases hlt:i<L.length
  rotate_left
  ·obtain rfl:i=L.length:=by omega
   clear hlt hi
   go_wp2_with fail
   go_ret
   exact⟨rfl,ze HG0.out g2⟩
  have h1:(i:Int)<(L.length:Int):=by omega
  have h0:(0:Int)≤(i:Int):=by omega
  have e9i:IntKind.i64.wrap ((i:Int)+1)=((i+1:Nat):Int):=by rw [IntWalk.i64_in _ (by omega)];omega
  have HLW:=hQ9 (HLA.out.gr g2)
  have HMW:=hQ9 (HLB.out.gr g2)
  have hlm:i<M.length:=by rw [HML.out.len];exact hlt
  obtain⟨ad,hA,hql,hr⟩:=HLW.out.rd i hlt
  obtain⟨be,hB,hqm,hs⟩:=HMW.out.rd i hlm
  obtain⟨A9,c9,e9⟩:=HML.out.each i hlt hlm
  have hok:=HLW.out.ok _ (List.getElem_mem hlt)
  have hat:=HLW.out.at_ _ (List.getElem_mem hlt)
  have hbt:=HMW.out.at_ _ (List.getElem_mem hlm)
  rw [e9]at hs hbt
  have CS:Hid (∀ y,Grew wr y→Calls Tryz.prog 105 #[.agg L[i].C,.agg (L[i].mv A9 c9).C] y fun e w'=>e=.returned (.bool true)∧Grew y w'):=hQ9 (fun y g=>zff L[i] hok A9 c9 y (hat.gr g) (hbt.gr g))
  have HMS:Hid (∀ y,Grew wr y→∀ j v,L[i].C.toList[j]?=some v→y.cell? ((ad.add (i*24)).add j)=some v):=hQ9 (fun y g j v hj=>(g.cell (p:=(ad.add (i*24)).add j) (by rw [zv,zv];exact hql)).trans (hr j v hj))
  have HMT:Hid (∀ y,Grew wr y→∀ j v,(L[i].mv A9 c9).C.toList[j]?=some v→y.cell? ((be.add (i*24)).add j)=some v):=hQ9 (fun y g j v hj=>(g.cell (p:=(be.add (i*24)).add j) (by rw [zv,zv];exact hqm)).trans (hs j v hj))
  have SIS:Hid ((Tryz.prog.info? 75).map (·.size)=some L[i].C.toList.length):=hQ9 yS
  have SIT:Hid ((Tryz.prog.info? 75).map (·.size)=some (L[i].mv A9 c9).C.toList.length):=hQ9 yS
  have YA:Hid (∀ y,Grew wr y→y.cell? ⟨w.heap.size,2,none⟩=some (.slice A L.length k)):=hQ9 (fun y g=>yb c2 g)
  have YB:Hid (∀ y,Grew wr y→y.cell? ⟨w.heap.size+1,2,none⟩=some (.slice B L.length k2)):=hQ9 (fun y g=>yb d2 g)
  have GJ:=hQ9 g2
  have HI:=hQ9 hlt
  subst hA hB
  clear hr hs hql hqm e9 hok hat hbt hlm g2 hi d2 HLW HMW
  generalize (L[i].mv A9 c9).C=gt at *
  generalize L[i].C=gs at *
  clear hlt
  go_upto_region 6 with fail
  refine zy 11 (fun ix9=>match ix9 with
   | 0=>fun v _=>v=.pointer (some ⟨w.heap.size,2,none⟩)
   | 1=>fun v _=>v=.slice (some ad) L.length k
   | 2=>fun v _=>v=.int .i64 (i:Int)
   | 3=>fun v _=>v=.pointer (some (ad.add (i*24)))
   | 4=>fun v _=>v=.agg gs
   | 5=>fun v _=>v=.pointer (some ⟨w.heap.size+1,2,none⟩)
   | 6=>fun v _=>v=.slice (some be) L.length k2
   | 7=>fun v _=>v=.int .i64 (i:Int)
   | 8=>fun v _=>v=.pointer (some (be.add (i*24)))
   | 9=>fun v _=>v=.agg gt
   | 10=>fun v _=>v=.bool true
   | _=>fun _ _=>True) (by kernel_rfl) (by kernel_rfl) ?_ ?_ ?_
  ·intro i v x y h hg
   match i,h with
   | 0,h | 1,h | 2,h | 3,h | 4,h | 5,h | 6,h | 7,h | 8,h | 9,h | 10,h=>exact h
   | m+11,_=>trivial
  ·simp only [actOf,tk1,tk0,dr1,dr0,Act.put,si1,st1,st0,Nat.reduceAdd]
   refine⟨?_,?_,?_,?_,?_,?_,?_,?_,?_,?_,?_,trivial⟩
   ·intro vs y hg hd
    dsimp only
    go_wp2_with fail
    exact⟨rfl,_,rfl,zc _,rfl⟩
   ·intro vs y hg hd
    obtain⟨h0,_⟩:=hd
    replace h0:=h0 rfl
    dsimp only
    rw [show vs 0=_ from h0]
    have hc:=YA.out y hg
    go_wp2_with fail
    exact⟨rfl,_,rfl,zc _,rfl⟩
   ·intro vs y hg hd
    dsimp only
    go_wp2_with fail
    exact⟨rfl,_,rfl,zc _,rfl⟩
   ·intro vs y hg hd
    obtain⟨h1,h2,_⟩:=hd
    replace h1:=h1 rfl
    replace h2:=h2 rfl
    dsimp only
    rw [show vs 1=_ from h1,show vs 2=_ from h2]
    go_wp2_with fail
    exact⟨rfl,_,rfl,zc _,rfl⟩
   ·intro vs y hg hd
    obtain⟨h3,_⟩:=hd
    replace h3:=h3 rfl
    dsimp only
    rw [show vs 3=_ from h3]
    have hm:=HMS.out y hg
    go_wp2_with(with_reducible refine zN rfl 75 (.tmp 37) rfl (ad.add (i*24)) rfl gs.toList _ hm hus rfl SIS.out ?_;simp only [Array.toArray_toList])
    exact⟨rfl,_,rfl,zc _,rfl⟩
   ·intro vs y hg hd
    dsimp only
    go_wp2_with fail
    exact⟨rfl,_,rfl,zc _,rfl⟩
   ·intro vs y hg hd
    obtain⟨h5,_⟩:=hd
    replace h5:=h5 rfl
    dsimp only
    rw [show vs 5=_ from h5]
    have hc:=YB.out y hg
    go_wp2_with fail
    exact⟨rfl,_,rfl,zc _,rfl⟩
   ·intro vs y hg hd
    dsimp only
    go_wp2_with fail
    exact⟨rfl,_,rfl,zc _,rfl⟩
   ·intro vs y hg hd
    obtain⟨h6,h7,_⟩:=hd
    replace h6:=h6 rfl
    replace h7:=h7 rfl
    dsimp only
    rw [show vs 6=_ from h6,show vs 7=_ from h7]
    go_wp2_with fail
    exact⟨rfl,_,rfl,zc _,rfl⟩
   ·intro vs y hg hd
    obtain⟨h8,_⟩:=hd
    replace h8:=h8 rfl
    dsimp only
    rw [show vs 8=_ from h8]
    have hm:=HMT.out y hg
    go_wp2_with(with_reducible refine zN rfl 75 (.tmp 42) rfl (be.add (i*24)) rfl gt.toList _ hm hus rfl SIT.out ?_;simp only [Array.toArray_toList])
    exact⟨rfl,_,rfl,zc _,rfl⟩
   ·intro vs y hg hd
    obtain⟨h4,h9,_⟩:=hd
    replace h4:=h4 rfl
    replace h9:=h9 rfl
    dsimp only
    rw [show vs 4=_ from h4,show vs 9=_ from h9]
    go_wp2_with(go_at_call 105;refine(CS.out y hg).mono ?_;rintro e z ⟨rfl,gz9⟩)
    exact⟨rfl,_,rfl,gz9,rfl⟩
  ·intro vs wx hg hJ
   have j0:vs 0=.pointer (some ⟨w.heap.size,2,none⟩):=hJ 0 (by decide)
   have j1:vs 1=.slice (some ad) L.length k:=hJ 1 (by decide)
   have j2:vs 2=.int .i64 (i:Int):=hJ 2 (by decide)
   have j3:vs 3=.pointer (some (ad.add (i*24))):=hJ 3 (by decide)
   have j4:vs 4=.agg gs:=hJ 4 (by decide)
   have j5:vs 5=.pointer (some ⟨w.heap.size+1,2,none⟩):=hJ 5 (by decide)
   have j6:vs 6=.slice (some be) L.length k2:=hJ 6 (by decide)
   have j7:vs 7=.int .i64 (i:Int):=hJ 7 (by decide)
   have j8:vs 8=.pointer (some (be.add (i*24))):=hJ 8 (by decide)
   have j9:vs 9=.agg gt:=hJ 9 (by decide)
   have j10:vs 10=.bool true:=hJ 10 (by decide)
   clear hJ
   simp only [actOf,tk1,tk0,dr1,dr0,Act.put,si1,st1,st0,Nat.reduceAdd]
   clear YA YB c2
   go_wp2_with fail
   go_roundw
   case rel=>exact⟨i+1,HI.out,by go_num,ze GJ.out hg⟩
   case measure=>have:=HI.out;simp [Go.RowKit.intOf]<;>omega
end Go.Proofs.YtidjnnnigcmdpaaGreatDoor
