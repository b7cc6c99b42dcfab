/- CertMakes: Make in one form, are stamps few and short. -/
import Derived.Test.YtpppegnojmnicaaGreatDoorTzz
import Derived.Test.YtpppegnojmnicaaGreatDoorTbp
import Derived.Test.YtpppegnojmnicaaGreatDoorTbm
import Derived.Test.YtpppegnojmnicaaGreatDoorTbs
import Derived.Test.YtpppegnojmnicaaGreatDoorTbq
import Derived.Test.YtpppegnojmnicaaGreatDoorTbg
import Derived.Test.YtpppegnojmnicaaGreatDoorTba
set_option maxHeartbeats 4000000
set_option maxRecDepth 100000
set_option linter.unusedSimpArgs false
set_option linter.unusedVariables false
namespace Go.Proofs.YtpppegnojmnicaaGreatDoor
open Go.RowKit
theorem zcu (a:Addr) {n:Nat} (h:n≠0):a.add n=⟨a.block,a.off+n,none⟩:=by unfold Addr.add;rw [if_neg h]
def RdG (w:World) (A:Option Addr) (L:List SP):Prop:=∀ k (h:k<L.length),∃ ad,A=some ad∧ad.block<w.heap.size∧∀ j v,L[k].C.toList[j]?=some v→w.cell? ((ad.add (k*24)).add j)=some v
theorem RdG.gr {w w':World} {A:Option Addr} {L:List SP} (h:RdG w A L) (g:Grew w w'):RdG w' A L:=fun k hk=>by
 obtain⟨ad,e,hb,hc⟩:=h k hk
 exact⟨ad,e,Nat.lt_of_lt_of_le hb g.size,fun j v hj=>(g.cell (p:=(ad.add (k*24)).add j) (by rw [zL,zL];exact hb)).trans (hc j v hj)⟩
structure SpsG (w:World) (A:Option Addr) (L:List SP):Prop where
 rd:RdG w A L
 ok:∀ S∈L,S.ok
 at_:∀ S∈L,S.at w
theorem SpsG.gr {w w':World} {A:Option Addr} {L:List SP} (h:SpsG w A L) (g:Grew w w'):SpsG w' A L:=⟨h.rd.gr g,h.ok,fun S hS=>(h.at_ S hS).gr g⟩
theorem xB {P:Program} {w0:World} {a:Act} {o:Oper} {K:Act→Prop} (ty:TypeId) (x:Operand) (h:o.op=.load ty x) (ad:Addr) (hx:a.eval x=.pointer (some ad)) (cs:List Value) (d:TypeDesc)
 (hg:∀ y:Gr w0,∀ j v,cs[j]?=some v→y.val.cell? (ad.add j)=some v) (hu:P.underlying ty=some d) (hd:(match d with | .struct _ | .array _ _=>true | _=>false)=true) (hi:(P.info? ty).map (·.size)=some cs.length)
 (hk:K (a.put o.dst (.agg cs.toArray))):o.quiet P a (fun w'=>∃ x:Gr w0,w'=x.val) K:=by
 refine⟨_,fun w hw=>?_,hk⟩
 obtain⟨y,rfl⟩:=hw
 unfold Oper.quietAt execOp
 simp only [h,hx,Instr.loadAt,Instr.sureAddr,Sem.run_bind,Sem.run_pure,Result.andThen_ok,jC y.val ad ty cs d (hg y) hu hd hi]
 exact⟨rfl,rfl⟩
def fewB (L:List SP):Bool:=decide (L.length≤12)&&L.all fun S=>decide (S.l.length≤9)
theorem zst (A:Option Addr) (cap:Nat) (L:List SP) (w:World) (hL:RdG w A L) :
 Calls Tryz.prog 33 #[.slice A L.length cap] w fun e w'=>e=.returned (.bool (fewB L))∧Grew w w':=by
 by_cases h12:12<L.length
 ·have e0:decide ((12:Int)<(L.length:Int))=true:=decide_eq_true (by omega)
  have hF:fewB L=false:=by unfold fewB;rw [decide_eq_false (by omega)];rfl
  rw [hF]
  clear hF hL h12
  go_enter Tryz.func33,Tryz.ntmps33
  go_wp2_with fail
  go_ret
  exact⟨rfl,za _⟩
 have e0:decide ((12:Int)<(L.length:Int))=false:=decide_eq_false (by omega)
 have HL:=hQ9 hL
 have HL12:Hid (L.length≤12):=hQ9 (by omega)
 clear hL h12
 go_enter Tryz.func33,Tryz.ntmps33
 go_wp2_with fail
 go_loopw [3] (fun iv wr=>∃ i:Nat,i≤L.length∧iv=.int .i64 (i:Int)∧Hid (∀ j (hj:j<L.length),j<i→L[j].l.length≤9)∧wr=w) (fun iv _=>L.length-(Go.RowKit.intOf iv).toNat)
 case atStart=>exact⟨0,by omega,rfl,hQ9 (fun j hj h=>by omega),rfl⟩
 case round =>
  obtain⟨i,hi,rfl,HJ,rfl⟩:=hrel
  by_cases hlt:i<L.length
  ·obtain⟨ad,hA,hq,hr⟩:=HL.out i hlt
   subst hA
   obtain⟨S,hSL⟩:∃ S,L[i]=S:=⟨_,rfl⟩
   rw [hSL]at hr
   have hcell:=hr 23 (.slice S.A S.l.length S.c) rfl
   rw [zcu _ (by decide)]at hcell
   have h1:(i:Int)<(L.length:Int):=by omega
   have h0:(0:Int)≤(i:Int):=by omega
   have HI:=hQ9 hlt
   have e49:IntKind.i64.wrap ((i:Int)+1)=((i+1:Nat):Int):=by have:=HL12.out;rw [IntWalk.i64_in _ (by omega)];omega
   clear hr
   by_cases h9:9<S.l.length
   ·have e1:decide ((9:Int)<(S.l.length:Int))=true:=decide_eq_true (by omega)
    have HF:Hid (fewB L=false):=hQ9 (by
     unfold fewB
     rw [show L.all (fun S=>decide (S.l.length≤9))=false from by
      rw [List.all_eq_false]
      exact⟨L[i]'hlt,List.getElem_mem _,by rw [hSL];simp;omega⟩]
     simp)
    clear h9 hSL hlt hi
    go_wp2_with fail
    go_ret
    exact⟨by rw [HF.out];rfl,za _⟩
   ·have e1:decide ((9:Int)<(S.l.length:Int))=false:=decide_eq_false (by omega)
    have H9:Hid (∀(h:i<L.length),(L[i]'h).l.length≤9):=hQ9 (fun _=>by rw [hSL];omega)
    clear h9 hSL hlt hi
    go_wp2_with fail
    go_roundw
    case rel=>exact⟨i+1,by have:=HI.out;omega,by go_num,hQ9 (fun j hj h=>by
     by_cases e:j=i
     ·subst e;exact H9.out hj
     ·exact HJ.out j hj (by omega)),by first | rfl | trivial⟩
    case measure=>have:=HI.out;simp [Go.RowKit.intOf]<;>omega
  ·have HF:Hid (fewB L=true):=hQ9 (by
    unfold fewB
    rw [decide_eq_true HL12.out,List.all_eq_true.2 (fun S hS=>by
     obtain⟨j,hj,rfl⟩:=List.getElem_of_mem hS
     exact decide_eq_true (HJ.out j hj (by omega)))]
    rfl)
   obtain rfl:i=L.length:=by omega
   clear hlt
   go_wp2_with fail
   go_ret
   exact⟨by rw [HF.out];rfl,za _⟩
theorem zqf (A:Option Addr) (c:Nat) (L:List SP) (hl:L.length≤100000) (w:World) (hL:SpsG w A L) :
 Calls Tryz.prog 36 #[.slice A L.length c] w fun e w'=>∃ B c' M,e=.returned (.slice B L.length c')∧MvL L M∧Sps w' B M∧L.length≤c'∧c'≤maxLen∧(∀ ad,B=some ad→w.heap.size≤ad.block)∧(∀ S∈M,∀ ad,S.A=some ad→S.l=[]∨w.heap.size≤ad.block)∧Grew w w':=by
 obtain⟨i0,hi,hz0,hz1,hz2⟩:=info_parts jA
 have hut:=Tryz.underlying169
 have HL:=hQ9 hL
 have hr:=hL.rd
 clear hL
 go_enter Tryz.func36,Tryz.ntmps36
 go_wp2_with fail
 go_loopw [3,4] (fun rv iv wr=>∃(i:Nat) (M:List SP),i≤L.length∧iv=.int .i64 i∧MvL (L.take i) M∧(∀ S∈M,S.ok)∧(∀ S∈M,S.at wr)∧(∀ S∈M,∀ ad,S.A=some ad→∀ g,rv.ownBlock=some g→S.l=[]∨ad.block≠g)∧(∀ S∈M,∀ ad,S.A=some ad→S.l=[]∨w.heap.size≤ad.block)∧wr.ownsRow w.heap.size 91 24 rv i (spL M).flatten∧Grew w wr) (fun _ i _=>L.length-(Go.RowKit.intOf i).toNat)
 case atStart=>exact⟨0,[],Nat.zero_le _,rfl,by simpa using MvL.nil,by simp,by simp,by simp,by simp,by simpa [spL]using World.ownsRow_nil _ _ _ _,Below.refl _ _⟩
 case round =>
  obtain⟨i,M,hil,rfl,hmv,hok,hat,hne,hlow,hrow,hg⟩:=hrel
  by_cases hlt:i<L.length
  ·obtain⟨ad,hA,hq,hm⟩:=(hr.gr hg) i hlt
   subst hA
   have hts:L.take (i+1)=L.take i++[L[i]]:=by rw [List.take_succ_eq_append_getElem hlt]
   have HTS:=hQ9 hts
   have hSok:=HL.out.ok L[i] (List.getElem_mem hlt)
   have hSat:=(HL.out.at_ L[i] (List.getElem_mem hlt)).gr hg
   clear hts
   have hi0:(0:Int)≤(i:Int):=by omega
   have hi1:(i:Int)<(L.length:Int):=by omega
   have e4:IntKind.i64.wrap ((i:Int)+1)=(i:Int)+1:=IntWalk.i64_in _ (by omega)
   generalize L[i]=S at *
   have SIS:Hid ((Tryz.prog.info? 169).map (·.size)=some S.C.toList.length):=hQ9 zkw
   have CCP:=hQ9 (zsc S hSok wr hSat)
   have HOK:=hQ9 hok
   have HNE:=hQ9 hne
   have HLW:=hQ9 hlow
   have hwz:=hg.size
   have HWZ:=hQ9 hwz
   have HMV:=hQ9 hmv
   have HAT:=hQ9 (fun S hS=>hat S hS)
   have HSO:=hQ9 hSok
   clear hok hne hlow hmv hat hSok hSat hwz
   go_wp2_with(with_reducible refine jD rfl 169 (.tmp 14) rfl (ad.add (i*24)) rfl S.C.toList _ hm hut rfl SIS.out ?_;simp only [Array.toArray_toList])
   refine(CCP.out).mono ?_
   rintro e w3 ⟨A2,c2,rfl,hat2,hfr2,gg⟩
   have G3:=zc hg gg
   have hrow3:=zx (S:=fun _=>False) hrow (zJ gg) (fun g _ h=>h)
   have hsz3:=G3.size
   have hsz:(S.mv A2 c2).C.size=24:=rfl
   have HAT3:=hQ9 (fun T hT=>(HAT.out T hT).gr gg)
   have HOB:=hQ9 (zN hrow)
   have hgz:=gg.size
   have HFR:Hid (∀ ad,A2=some ad→S.l=[]∨wr.heap.size≤ad.block):=hQ9 (fun ad h=>.inr (hfr2 ad h))
   clear hrow hm gg hg CCP HAT
   go_wp2_with(first
    | (at_builtin;rw [xI];refine yn _ rfl (.tmp 11) (.tmp 17) 34 rfl w.heap.size 91 i0 (.agg (#[.int .u64 0,.int .i64 0,.int .i64 0,.int .i64 0,.int .i64 0,.int .u64 0,.int .u64 0,.int .u64 0,.int .u64 0,.int .u64 0,.int .u64 0,.int .u64 0,.int .u64 0,.int .u64 0,.int .u64 0,.int .u64 0,.int .u64 0,.int .u64 0,.int .u64 0,.int .u64 0,.int .u64 0,.int .u64 0,.int .u64 0,.slice none 0 0]:Array Value)) 24 208 Tryz.underlying34 hi hz0 hz1 hz2 rfl (by decide) _ _ _ rfl (hrow3.alloc _) ⟨w3.heap.size,0,none⟩ 1 1 (S.mv A2 c2).C.toList rfl rfl (fun j u hj=>yP w3 (S.mv A2 c2).C 91 j u hj) (S.mv A2 c2).one' (by unfold maxLen;omega) (by omega) (by simp;omega) ?_;intro v' w5 hown5 hgrow5 hob5))
   have ga:=ze (za w3) (.cells (S.mv A2 c2).C 91)
   go_roundw
   case rel =>
    refine⟨i+1,M++[S.mv A2 c2],by omega,by go_num,by rw [HTS.out];exact HMV.out.snoc S A2 c2,?_,?_,?_,?_,by rw [yU];exact hown5,(ze G3 _).grown hgrow5 (by simp;omega) (zj hrow3)⟩
    ·intro T hT
     rcases List.mem_append.1 hT with h | h
     ·exact HOK.out T h
     ·obtain rfl:T=S.mv A2 c2:=by simpa using h
      exact SP.mv_ok HSO.out _ _
    ·intro T hT
     rcases List.mem_append.1 hT with h | h
     ·exact yD ((HAT3.out T h).gr ga) hgrow5 (fun ad e g hg=>HNE.out T h ad e g hg)
     ·obtain rfl:T=S.mv A2 c2:=by simpa using h
      exact yD (hat2.gr ga) hgrow5 (fun ad e g hg=>by
       rcases HFR.out ad e with h1 | h1
       ·exact .inl h1
       ·have:=(HOB.out g hg).2
        exact .inr (by omega))
    ·intro T hT ad e g hg
     have hlt9:T.l=[]∨ad.block<(w3.alloc (.cells (S.mv A2 c2).C 91)).heap.size:=by
      rcases List.mem_append.1 hT with h | h
      ·exact at_lt ((HAT3.out T h).gr ga) ad e
      ·obtain rfl:T=S.mv A2 c2:=by simpa using h
       exact at_lt (hat2.gr ga) ad e
     rcases hob5 with h3 | h3
     ·rw [h3]at hg
      rcases List.mem_append.1 hT with h | h
      ·exact HNE.out T h ad e g hg
      ·obtain rfl:T=S.mv A2 c2:=by simpa using h
       rcases HFR.out ad e with h1 | h1
       ·exact .inl h1
       ·have:=(HOB.out g hg).2
        exact .inr (by omega)
     ·rw [h3]at hg;injection hg with hg
      rcases hlt9 with h1 | h1
      ·exact .inl h1
      ·exact .inr (by omega)
    ·intro T hT ad e
     rcases List.mem_append.1 hT with h | h
     ·exact HLW.out T h ad e
     ·obtain rfl:T=S.mv A2 c2:=by simpa using h
      rcases HFR.out ad e with h1 | h1
      ·exact .inl h1
      ·exact .inr (Nat.le_trans HWZ.out h1)
   case measure=>simp [Go.RowKit.intOf];omega
  ·obtain rfl:i=L.length:=by omega
   rw [List.take_length]at hmv
   obtain⟨B,c',rfl,hB,hc1,hc2,hbB⟩:=xa hrow hmv.len
   go_wp2_with fail
   go_ret
   exact⟨B,c',M,rfl,hmv,⟨hB,hok,hat⟩,hc1,hc2,fun ad e=>(hbB ad e).1,hlow,hg⟩
theorem znu (c:Cm) (A:Option Addr) (k:Nat) (L:List SP) (hl:L.length≤100000) (w:World) (hL:SpsG w A L) :
 Calls Tryz.prog 18 #[.agg (ctC c A L.length k)] w fun e w'=>(∃ B k' M,e=.returned (.agg (ctC c B L.length k'))∧MvL L M∧Sps w' B M)∧Grew w w':=by
 have huc:=Tryz.underlying26
 have hur:=Tryz.underlying36
 have SIC:Hid ((Tryz.prog.info? 26).map (·.size)=some c.cells.toList.length):=hQ9 (show _=some 5 by kernel_rfl)
 have z1:=(Ag.new w 29 (ctC c A L.length k)).grew (ze (za _) (.cells (zS6:Array Value) 36))
 have y1:=Ag.new (w.alloc (.cells (ctC c A L.length k) 29)) 36 (zS6:Array Value)
 rw [zD]at y1
 have G1:=ze (ze (za w) (.cells (ctC c A L.length k) 29)) (.cells (zS6:Array Value) 36)
 have CO:=hQ9 (fun W=>cto_ok c W)
 rw [show c.v=.agg c.cells from rfl]at CO
 have HLS:=hQ9 (hL.gr G1)
 have CA:=hQ9 (fun W (h:SpsG W A L)=>zqf A k L hl W h)
 have HBU:∀(B:Option Addr) (n:Nat),Hid (Tryz.prog.built 36 [(0,.agg c.cells),(1,.slice B L.length n)]=some (ctC c B L.length n)):=fun B n=>hQ9 (by kernel_rfl)
 have HSZ:Hid (((w.alloc (.cells (ctC c A L.length k) 29)).alloc (.cells (#[.int .i64 0,.int .i64 0,.int .i64 0,.int .i64 0,.int .i64 0,.slice none 0 0]:Array Value) 36)).heap.size=w.heap.size+2):=hQ9 (by simp)
 clear hL
 go_enter Tryz.func18,Tryz.ntmps18
 go_upto_region 1 with fail
 generalize (w.alloc (.cells (ctC c A L.length k) 29)).alloc (.cells (zS6:Array Value) 36)=w1 at *
 have HMC:=hQ9 (fun y (g:Grew w1 y)=>yQ (z1.grew g))
 have HC5:Hid (∀ y,Grew w1 y→y.cell? ⟨w.heap.size,5,none⟩=some (.slice A L.length k)):=hQ9 (fun y g=>by simpa using (z1.grew g).cell 5 _ rfl)
 clear z1
 refine zH 7 (fun ix9=>match ix9 with
  | 0=>fun v _=>v=.pointer (some ⟨w.heap.size,0,none⟩)
  | 1=>fun v _=>v=.agg c.cells
  | 2=>fun v _=>v=.agg c.cells
  | 3=>fun v _=>v=.pointer (some ⟨w.heap.size,5,none⟩)
  | 4=>fun v _=>v=.slice A L.length k
  | 5=>fun v z=>OfV L w1.heap.size z v (fun B n=>.slice B L.length n)
  | 6=>fun v z=>OfV L w1.heap.size z v (fun B n=>.agg (ctC c B L.length n))
  | _=>fun _ _=>True) (by kernel_rfl) (by kernel_rfl) ?_ ?_ ?_
 ·intro i v x y h hg
  match i,h with
  | 0,h | 1,h | 2,h | 3,h | 4,h=>exact h
  | 5,h=>exact OfV.gr h hg
  | 6,h=>exact OfV.gr h hg
  | m+7,_=>trivial
 ·simp only [actOf,tk1,tk0,dr1,dr0,Act.put,si1,st1,st0,Nat.reduceAdd]
  refine⟨?_,?_,?_,?_,?_,?_,?_,trivial⟩
  ·intro vs y hg hd
   dsimp only
   go_wp2_with fail
   exact⟨rfl,_,rfl,za _,rfl⟩
  ·intro vs y hg hd
   obtain⟨h0,_⟩:=hd
   replace h0:=h0 rfl
   dsimp only
   rw [show vs 0=_ from h0]
   have hm:=HMC.out y hg
   go_wp2_with(with_reducible refine wpList_load_mid rfl 26 (.tmp 3) rfl w.heap.size 0 rfl c.cells.toList _ hm huc rfl SIC.out ?_;simp only [Array.toArray_toList])
   exact⟨rfl,_,rfl,za _,rfl⟩
  ·intro vs y hg hd
   obtain⟨h1,_⟩:=hd
   replace h1:=h1 rfl
   dsimp only
   rw [show vs 1=_ from h1]
   go_wp2_with(go_at_call 35;refine(CO.out y).mono ?_;rintro e z ⟨rfl,gz⟩)
   exact⟨rfl,_,rfl,gz,rfl⟩
  ·intro vs y hg hd
   dsimp only
   go_wp2_with fail
   exact⟨rfl,_,rfl,za _,rfl⟩
  ·intro vs y hg hd
   obtain⟨h4,_⟩:=hd
   replace h4:=h4 rfl
   dsimp only
   rw [show vs 3=_ from h4]
   have hc:=HC5.out y hg
   go_wp2_with fail
   exact⟨rfl,_,rfl,za _,rfl⟩
  ·intro vs y hg hd
   obtain⟨h5,_⟩:=hd
   replace h5:=h5 rfl
   dsimp only
   rw [show vs 4=_ from h5]
   go_wp2_with(go_at_call 36;refine(CA.out y (HLS.out.gr hg)).mono ?_;rintro e z ⟨B9,k9,M9,rfl,hmv9,hsp9,hcc1,hcc2,hbB9,hlw9,gz⟩)
   exact⟨rfl,_,rfl,gz,⟨B9,k9,M9,rfl,hmv9,hsp9,fun ad h=>Nat.le_trans hg.size (hbB9 ad h),fun S hS ad h=>(hlw9 S hS ad h).imp id (Nat.le_trans hg.size)⟩⟩
  ·intro vs y hg hd
   obtain⟨h2,h5,_⟩:=hd
   replace h2:=h2 rfl
   obtain⟨B9,k9,M9,e9,hr9⟩:=(h5 rfl).out
   dsimp only
   rw [show vs 2=_ from h2,show vs 5=_ from e9]
   have HB9:=HBU B9 k9
   go_wp2_with(with_reducible refine zI rfl 36 #[(0,.tmp 5),(1,.tmp 8)] rfl (ctC c B9 L.length k9) ?_ ?_;· simpa [Act.eval,Act.put]using HB9.out)
   exact⟨rfl,_,rfl,za _,⟨B9,k9,M9,rfl,hr9⟩⟩
 ·intro vs w2 hg hJ
  obtain⟨B9,k9,M9,e9,hmv9,hsp9,hbB9,hlw9⟩:=(show OfV L w1.heap.size w2 (vs 6) _ from hJ 6 (by decide)).out
  clear hJ
  simp only [actOf,tk1,tk0,dr1,dr0,Act.put,si1,st1,st0,Nat.reduceAdd]
  have y2:=y1.grew hg
  have G2:=zc G1 hg
  rw [e9]
  have HTH:Hid (w2.there (w.heap.size+1) 0 (ctC c B9 L.length k9).size):=hQ9 (y2.thereN 6 rfl)
  have HSI:Hid ((Tryz.prog.info? 36).map (·.size)=some (ctC c B9 L.length k9).size):=hQ9 zP
  have HON:=hQ9 (yt c B9 L.length k9)
  have zf:=Ag.set (vs:=(ctC c B9 L.length k9).toList) y2 rfl
  have Gf:=zg (o:=0) (b:=w.heap.size+1) (ctC c B9 L.length k9).toList G2 (Nat.le_succ _)
  have HSPS:=hQ9 (hsp9.kpx (zG (ctC c B9 L.length k9).toList (w.heap.size+1) 0 w2) (fun ad2 h e=>by have:=hbB9 ad2 h;have:=HSZ.out;omega) (fun T hT ad2 h=>by rcases hlw9 T hT ad2 h with h1 | h1;exact .inl h1;exact .inr (fun e=>by have:=HSZ.out;omega)))
  go_wp2_with(with_reducible refine wpList_store_mid rfl 36 (.tmp 2) (.tmp 9) rfl (w.heap.size+1) 0 (ctC c B9 L.length k9) rfl rfl HTH.out HSI.out HON.out ?_)
  exact bodyPost_ret (yp Tryz.results18 _ _ (w.heap.size+1) _ _ rfl zf hur rfl zP) rfl ⟨⟨B9,⟨k9,rfl⟩,M9,hmv9,HSPS.out⟩,Gf⟩
theorem qT (c:Cm) (hc:c.in) (A:Option Addr) (k:Nat) (L:List SP) (hl:L.length≤40) (w:World) (hL:SpsG w A L) :
 Calls Tryz.prog 22 #[.agg (ctC c A L.length k)] w fun e w'=>e=.returned (.string ⟨(ctTx c L).toArray⟩)∧Grew w w':=by
 have huc:=Tryz.underlying26
 have hus:=Tryz.underlying169
 have SIC:Hid ((Tryz.prog.info? 26).map (·.size)=some c.cells.toList.length):=hQ9 (show _=some 5 by kernel_rfl)
 have z1:=Ag.new w 29 (ctC c A L.length k)
 have G1:=ze (za w) (.cells (ctC c A L.length k) 29)
 have hlen:=jV c hc L hl hL.ok
 have CTX:=hQ9 (fun W=>zgo c hc W)
 rw [show txtV (txC c)=.string ⟨(txC c).toArray⟩ from rfl,show c.v=.agg c.cells from rfl]at CTX
 have HLS:=hQ9 (hL.gr G1)
 have CJ:Hid (∀(A4:Option Addr) (c4:Nat) (W:World),Rd W W.heap.size A4 (strL (⟨(txC c).toArray⟩::L.map SP.tb))→Calls Tryz.prog 91 #[.slice A4 (L.length+1) c4] W fun e w'=>e=.returned (.string ⟨(ctTx c L).toArray⟩)∧Grew W w'):=hQ9 (fun A4 c4 W hR=>by
  have:=jK A4 c4 (⟨(txC c).toArray⟩::L.map SP.tb) (by simp;omega) (by rw [zcp];exact hlen) W hR
  rw [zcp]at this
  simpa [ctTx]using this)
 obtain⟨i0,hi,hz0,hz1,hz2⟩:=info_parts (show(Tryz.prog.info? 9).map (fun i=>(i.zero,i.size,i.bytes))=some (some (.string ⟨#[]⟩),1,16) by kernel_rfl)
 have hmc:=yQ z1
 clear hL hlen hc
 generalize (⟨(txC c).toArray⟩:ByteArray)=t0 at *
 generalize (⟨(ctTx c L).toArray⟩:ByteArray)=tj at *
 generalize hw1:w.alloc (.cells (ctC c A L.length k) 29)=w1 at *
 have HC5:Hid (∀ y,Grew w1 y→y.cell? ⟨w.heap.size,5,none⟩=some (.slice A L.length k)):=hQ9 (fun y g=>by simpa using (z1.grew g).cell 5 _ rfl)
 have HW1:=hQ9 hw1
 clear z1 hw1
 go_enter Tryz.func22,Tryz.ntmps22
 go_upto_region 1 with fail
 rw [HW1.out]
 go_wp2_with(first
  | (with_reducible refine wpList_load_mid rfl 26 (.tmp 5) rfl w.heap.size 0 rfl c.cells.toList _ hmc huc rfl SIC.out ?_;simp only [Array.toArray_toList])
  | (go_at_call 89;refine(CTX.out w1).mono ?_;rintro e w2 ⟨rfl,g2⟩))
 have hs2:=g2.size
 have own0:(w2.alloc (.cells #[.string t0] 9)).ownsRow w1.heap.size 9 1 (.slice (some ⟨w2.heap.size,0,none⟩) 1 1) 1 [.string t0]:=⟨by simp,.inr ⟨w2.heap.size,1,#[.string t0],rfl,hs2,heap_alloc_new w2 _,Nat.le_refl _,by unfold maxLen;omega,rfl,by simp⟩⟩
 have G3:=ze g2 (.cells #[.string t0] 9)
 generalize w2.alloc (.cells #[.string t0] 9)=w3 at *
 clear g2 hmc CTX
 go_loopw [3,4] (fun rv iv wr=>∃ i:Nat,i≤L.length∧iv=.int .i64 i∧wr.ownsRow w1.heap.size 9 1 rv (i+1) (strL (t0::(L.take i).map SP.tb))∧Grew w1 wr) (fun _ iv _=>L.length-(Go.RowKit.intOf iv).toNat)
 case atStart=>exact⟨0,Nat.zero_le _,rfl,by simpa [strL]using own0,G3⟩
 case round =>
  obtain⟨i,hil,rfl,hown,hg⟩:=hrel
  have hc5:=HC5.out wr hg
  by_cases hlt:i<L.length
  ·obtain⟨ad,hA,hq,hm⟩:=(HLS.out.rd.gr hg) i hlt
   subst hA
   have HT:Hid (strL (t0::(L.take (i+1)).map SP.tb)=strL (t0::(L.take i).map SP.tb)++[.string L[i].tb]):=hQ9 (by rw [List.take_succ_eq_append_getElem hlt,List.map_append];simp [strL])
   have hi0:(0:Int)≤(i:Int):=by omega
   have hi1:(i:Int)<(L.length:Int):=by omega
   have e4:IntKind.i64.wrap ((i:Int)+1)=((i+1:Nat):Int):=by rw [IntWalk.i64_in _ (by omega)];omega
   have hSok:=HLS.out.ok L[i] (List.getElem_mem hlt)
   have hSat:=(HLS.out.at_ L[i] (List.getElem_mem hlt)).gr hg
   generalize L[i]=S at *
   have CW:=hQ9 (zkv hSok wr hSat)
   have SIS:Hid ((Tryz.prog.info? 169).map (·.size)=some S.C.toList.length):=hQ9 yY
   clear hSok hSat
   go_wp2_with(with_reducible refine jD rfl 169 (.tmp 20) rfl (ad.add (i*24)) rfl S.C.toList _ hm hus rfl SIS.out ?_;simp only [Array.toArray_toList])
   refine(CW.out).mono ?_
   rintro e w4 ⟨rfl,gg⟩
   have G4:=zc hg gg
   have hown3:=zx (S:=fun _=>False) hown (zJ gg) (fun g _ h=>h)
   have hsz3:=G4.size
   generalize S.tb=x at *
   clear hown hm gg hg CW hc5
   go_wp2_with(at_builtin;refine zi rfl (.tmp 16) (.tmp 23) 154 rfl w1.heap.size 9 i0 (.string ⟨#[]⟩) 16 Tryz.underlying154 hi hz0 hz1 hz2 rfl _ (i+1) _ rfl (hown3.alloc _) (w4.heap.size+1) (some ⟨w4.heap.size,0,none⟩) 1 1 [.string x] rfl rfl (zM w4 9 #[.string x] (0,0)) (yb rfl) (by unfold maxLen;omega) (by omega) (by simp;omega) ?_;intro v' w5 hown5 hgrow5 _)
   go_roundw
   case rel=>exact⟨i+1,by omega,by go_num,by rw [HT.out];exact hown5,(ze G4 _).grown hgrow5 (by simp;omega) (zj hown3)⟩
   case measure=>simp [Go.RowKit.intOf];omega
  ·obtain rfl:i=L.length:=by omega
   rw [List.take_length]at hown
   obtain⟨D9,d9,e9,hd9,hd9',hR9⟩:=zv hown
   subst e9
   go_wp2_with fail
   refine(CJ.out D9 d9 wr hR9).mono ?_
   rintro e w5 ⟨rfl,gg⟩
   go_wp2_with fail
   go_ret
   exact⟨rfl,zc G1 (zc hg gg)⟩
theorem zdt (c:Cm) (hc:c.in) (A:Option Addr) (k:Nat) (L:List SP) (hl:L.length≤40) (w:World) (hL:SpsG w A L) :
 Calls Tryz.prog 29 #[.agg (ctC c A L.length k)] w fun e w'=>e=.returned (.int .u64 (ctD c L:Nat))∧Grew w w':=by
 have huc:=Tryz.underlying29
 have SIC:Hid ((Tryz.prog.info? 29).map (·.size)=some (ctC c A L.length k).toList.length):=hQ9 ye
 have z1:=Ag.new w 29 (ctC c A L.length k)
 have G1:=ze (za w) (.cells (ctC c A L.length k) 29)
 have hlen:=jV c hc L hl hL.ok
 have CT1:=hQ9 (qT c hc A k L hl _ (hL.gr G1))
 have CH:=hQ9 (fun W=>qC ⟨#[99,101,114,116]⟩ ⟨(ctTx c L).toArray⟩ (by decide) (by have:=hlen;simp [ByteArray.size];omega) W)
 have e1:sumL (⟨#[99,101,114,116]⟩:ByteArray).data.toList (⟨(ctTx c L).toArray⟩:ByteArray).data.toList=ctD c L:=by simp [ctD]
 rw [e1]at CH
 have hm:=z1.cell
 clear e1 hlen hL z1 hc
 generalize ctD c L=d at *
 generalize (⟨(ctTx c L).toArray⟩:ByteArray)=tj at *
 generalize ctC c A L.length k=gc at *
 go_enter Tryz.func29,Tryz.ntmps29
 go_wp2_with(with_reducible refine wpList_load_mid rfl 29 (.tmp 1) rfl w.heap.size 0 rfl gc.toList _ hm huc rfl SIC.out ?_;simp only [Array.toArray_toList])
 refine(CT1.out).mono ?_
 rintro e w1 ⟨rfl,g1⟩
 go_wp2_with fail
 refine(CH.out w1).mono ?_
 rintro e w2 ⟨rfl,g2⟩
 go_wp2_with fail
 go_ret
 exact⟨rfl,zc G1 (zc g1 g2)⟩
theorem rat_ok (c:Cm) (A:Option Addr) (k:Nat) (L:List SP) (hl:L.length≤40) (w:World) (hL:SpsG w A L) :
 Calls Tryz.prog 27 #[.agg (ctC c A L.length k)] w fun e w'=>e=.returned (.int .i64 (atV L))∧Grew w w':=by
 have z1:=Ag.new w 29 (ctC c A L.length k)
 have G1:=ze (za w) (.cells (ctC c A L.length k) 29)
 have HLS:=hQ9 (hL.gr G1)
 have HL:=hQ9 hl
 clear hL hl
 generalize hw1:w.alloc (.cells (ctC c A L.length k) 29)=w1 at *
 have HC5:Hid (∀ y,Grew w1 y→y.cell? ⟨w.heap.size,5,none⟩=some (.slice A L.length k)):=hQ9 (fun y g=>by simpa using (z1.grew g).cell 5 _ rfl)
 have HW1:=hQ9 hw1
 have hc5:=HC5.out w1 (za _)
 clear z1 hw1
 obtain⟨i0,hi,hz0,hz1,hz2⟩:=info_parts (show(Tryz.prog.info? 2).map (fun i=>(i.zero,i.size,i.bytes))=some (some (.int .i64 0),1,8) by kernel_rfl)
 by_cases h0:L.length=0
 ·have HA:Hid (atV L=0):=hQ9 (by unfold atV;rw [if_pos h0])
  have e7:((L.length:Int)==0)=true:=by simp [h0]
  have HZ:=hQ9 h0
  clear h0
  go_enter Tryz.func27,Tryz.ntmps27
  go_upto_region 1 with fail
  rw [HW1.out]
  go_wp2_with fail
  go_ret
  exact⟨by rw [HA.out];rfl,G1⟩
 have e7:((L.length:Int)==0)=false:=by simp;exact fun h=>h0 (by rw [h];rfl)
 have HA:Hid (atV L=midZ (L.map SP.at_) (L.length / 2)):=hQ9 (by unfold atV;rw [if_neg h0])
 have HP:Hid (0<L.length):=hQ9 (by omega)
 clear h0
 go_enter Tryz.func27,Tryz.ntmps27
 go_upto_region 1 with fail
 rw [HW1.out]
 go_wp2_with fail
 clear e7 hc5
 go_loopw [3,4] (fun rv iv wr=>∃ i:Nat,i≤L.length∧iv=.int .i64 i∧wr.ownsRow w1.heap.size 2 1 rv i (i64L ((L.take i).map SP.at_))∧Grew w1 wr) (fun _ iv _=>L.length-(Go.RowKit.intOf iv).toNat)
 case atStart=>exact⟨0,Nat.zero_le _,rfl,by simpa [i64L]using World.ownsRow_nil _ _ _ _,za _⟩
 case round =>
  obtain⟨i,hil,rfl,hown,hg⟩:=hrel
  have hc5:=HC5.out wr hg
  by_cases hlt:i<L.length
  ·obtain⟨ad,hA,hq,hm⟩:=(HLS.out.rd.gr hg) i hlt
   subst hA
   have HT:Hid (i64L ((L.take (i+1)).map SP.at_)=i64L ((L.take i).map SP.at_)++[.int .i64 L[i].at_]):=hQ9 (by rw [List.take_succ_eq_append_getElem hlt,List.map_append];simp [i64L])
   have hi0:(0:Int)≤(i:Int):=by omega
   have hi1:(i:Int)<(L.length:Int):=by omega
   have hl9:=HL.out
   have e4:IntKind.i64.wrap ((i:Int)+1)=((i+1:Nat):Int):=by rw [IntWalk.i64_in _ (by omega)];omega
   have hcell:=hm 2 (.int .i64 L[i].at_) rfl
   rw [zcu _ (by decide)]at hcell
   have HI:=hQ9 hlt
   clear hm
   generalize L[i]=S at *
   have hsz3:=hg.size
   clear hlt
   go_wp2_with(at_builtin;refine zi rfl (.tmp 16) (.tmp 23) 69 rfl w1.heap.size 2 i0 (.int .i64 0) 8 Tryz.underlying69 hi hz0 hz1 hz2 rfl _ i _ rfl (hown.alloc _) (wr.heap.size+1) (some ⟨wr.heap.size,0,none⟩) 1 1 [.int .i64 S.at_] rfl rfl (zM wr 2 #[.int .i64 S.at_] (0,0)) (zY _ _) (by unfold maxLen;omega) (by omega) (by simp;omega) ?_;intro v' w5 hown5 hgrow5 _)
   go_roundw
   case rel=>exact⟨i+1,by have:=HI.out;omega,by go_num,by rw [HT.out];exact hown5,(ze hg _).grown hgrow5 (by simp;omega) (zj hown)⟩
   case measure=>have:=HI.out;simp [Go.RowKit.intOf]<;>omega
  ·obtain rfl:i=L.length:=by omega
   rw [List.take_length]at hown
   obtain⟨D9,d9,e9,hd9,hd9',hR9⟩:=zv hown
   subst e9
   have CS:=zj7 D9 d9 (L.map SP.at_) (by have:=HL.out;simp;omega) wr hR9
   rw [List.length_map]at CS
   have HCS:=hQ9 CS
   clear CS hown hR9
   go_wp2_with fail
   refine HCS.out.mono ?_
   rintro e w5 ⟨v,rfl,hv,gg⟩
   obtain⟨D7,d7,e7,h71,-,hR7⟩:=zv hv
   subst e7
   have hlen:(sortZ (L.map SP.at_)).length=L.length:=by rw [xM,List.length_map]
   have hl9:=HL.out
   have hp9:=HP.out
   obtain⟨a7,hA7,-,hc7⟩:=yJ hR7 (L.length / 2) (by rw [hlen];omega)
   subst hA7
   have hmz:(sortZ (L.map SP.at_))[L.length / 2]'(by rw [hlen];omega)=midZ (L.map SP.at_) (L.length / 2):=by
    unfold midZ
    rw [List.getD_eq_getElem?_getD,List.getElem?_eq_getElem]
    rfl
   rw [hmz]at hc7
   rw [hlen]
   have hq1:(0:Int)≤((L.length / 2:Nat):Int):=by omega
   have hq2:((L.length / 2:Nat):Int)<(L.length:Int):=by omega
   have eq2:(L.length:Int).tdiv 2=((L.length / 2:Nat):Int):=by rw [Int.tdiv_eq_ediv_of_nonneg (by omega)];omega
   have eq3:IntKind.i64.wrap ((L.length:Int).tdiv 2)=((L.length / 2:Nat):Int):=by rw [eq2,IntWalk.i64_in _ (by omega)]
   have eq4:wrap64 ((L.length:Int).tdiv 2)=((L.length / 2:Nat):Int):=by rw [eq2,IntWalk.wrap64_in _ (by omega)]
   clear hmz hR7 hv h71
   go_wp2_with fail
   go_ret
   exact⟨by rw [HA.out];rfl,zc G1 (zc hg gg)⟩
theorem znv {K:KP} {S:SP} (hK:K.ok) (hS:S.ok) (w:World) (hk:K.at w) (ha:S.at w) :
 Calls Tryz.prog 101 #[.agg K.C,.agg S.C] w fun e w'=>e=.returned (.int .i64 (vaS K S))∧Grew w w' :=
 zh3 K.f hK.f K.R K.RA K.Rc K.h S.cm S.who S.at_ S.sw S.lf S.s S.A S.c S.l hS.cm hS.who hS.at_ hS.sw hS.lf hS.len hS.s hS.l hK.len w hk ha
structure OneR (w:World) (B lo hi:Nat) (cs:List Value) (v:Value):Prop where
 out:∃ g,v=.slice (some ⟨g,0,none⟩) 1 1∧Ag w g cs∧B≤lo∧lo≤g∧g<hi
theorem OneR.kp {P:Nat→Prop} {w w':World} {B lo hi:Nat} {cs:List Value} {v:Value} (h:OneR w B lo hi cs v) (k:Kp P w w') (hp:∀ g,P g→g<B):OneR w' B lo hi cs v:=by
 obtain⟨q,h1,h2,h3,h4,h5⟩:=h.out
 exact⟨q,h1,h2.kp k (fun h6=>by have:=hp _ h6;omega),h3,h4,h5⟩
structure AppR (w:World) (base:Nat) (r:Value) (N0 n:Nat) (xs:List Value) (v:Value):Prop where
 own:w.ownsRow base 169 24 v n xs
 blk:v.ownBlock=r.ownBlock∨∃ g,v.ownBlock=some g∧N0≤g
theorem AppR.gr {w w':World} {base:Nat} {r:Value} {N0 n:Nat} {xs:List Value} {v:Value} (h:AppR w base r N0 n xs v) (g:Grew w w'):AppR w' base r N0 n xs v:=⟨zx (S:=fun _=>False) h.own (zJ g) (fun _ _ h=>h),h.blk⟩
theorem ze4 (c:Cm) {K:KP} (hK:K.ok) (A:Option Addr) (k:Nat) (L:List SP) (hl:L.length≤40) (w:World) (hk:K.at w) (hL:SpsG w A L) :
 Calls Tryz.prog 25 #[.agg K.C,.agg (ctC c A L.length k)] w fun e w'=>e=.returned (.int .i64 (mvE K c L))∧Grew w w':=by
 have huk:=Tryz.underlying24
 have huc:=Tryz.underlying26
 have hus:=Tryz.underlying169
 have SIC:Hid ((Tryz.prog.info? 26).map (·.size)=some c.cells.toList.length):=hQ9 (show _=some 5 by kernel_rfl)
 have SIK:Hid ((Tryz.prog.info? 24).map (·.size)=some K.C.toList.length):=hQ9 zdg
 have z0:=(Ag.new w 24 K.C).grew (ze (za _) (.cells (ctC c A L.length k) 29))
 have z1:=Ag.new (w.alloc (.cells K.C 24)) 29 (ctC c A L.length k)
 rw [zD]at z1
 have G0:=ze (ze (za w) (.cells K.C 24)) (.cells (ctC c A L.length k) 29)
 have CC:=hQ9 (fun W=>zb7 c W)
 rw [show c.v=.agg c.cells from rfl]at CC
 have HKA:=hQ9 hk
 have HLA:=hQ9 hL
 have HLL:=hQ9 hl
 have hm1:=yQ z1
 clear hk hL hl
 by_cases hc:okC c
 rotate_left
 ·have hck:chkC c=1:=by unfold chkC;rw [if_neg hc]
  have HR:Hid (mvE K c L=1):=hQ9 (by unfold mvE;rw [if_neg hc])
  rw [hck]at CC
  clear hck hc z0 z1
  generalize ctC c A L.length k=gt at *
  go_enter Tryz.func25,Tryz.ntmps25
  go_wp2_with(with_reducible refine wpList_load_mid rfl 26 (.tmp 7) rfl (w.heap.size+1) 0 rfl c.cells.toList _ hm1 huc rfl SIC.out ?_;simp only [Array.toArray_toList])
  refine(CC.out _).mono ?_
  rintro e w2 ⟨rfl,gg⟩
  go_wp2_with fail
  go_ret
  exact⟨by rw [HR.out];rfl,zc G0 gg⟩
 have hck:=xF hc
 rw [hck]at CC
 have cd:=fun W=>zkb c (ky hc) W
 obtain⟨D,hD⟩:∃ D,dgC c=D:=⟨_,rfl⟩
 rw [show c.v=.agg c.cells from rfl,hD]at cd
 have hf:=hK.f
 obtain⟨Q,hQ⟩:∃ n:Nat,(2*K.f+1).toNat=n:=⟨_,rfl⟩
 have eQ:2*K.f+1=(Q:Int):=by omega
 have HRV:Hid (mvE K c L=if L.length=Q then chqE K D none L else 8):=hQ9 (by unfold mvE cqE;rw [if_pos hc,hD,hQ])
 have HK:=hQ9 hK
 have CQ0:∀ W,Calls Tryz.prog 99 #[.int .i64 K.f] W fun e w'=>e=.returned (.int .i64 (2*K.f+1))∧Grew W w':=fun W=>(rq_ok K.f (by omega) W).mono (by rintro e z ⟨rfl,rfl⟩;exact⟨rfl,za _⟩)
 rw [eQ]at CQ0
 have CQ:=hQ9 CQ0
 have CD:=hQ9 cd
 clear hck hc cd hD hf hK eQ hQ CQ0
 go_enter Tryz.func25,Tryz.ntmps25
 go_wp2_with(with_reducible refine wpList_load_mid rfl 26 (.tmp 7) rfl (w.heap.size+1) 0 rfl c.cells.toList _ hm1 huc rfl SIC.out ?_;simp only [Array.toArray_toList])
 refine(CC.out _).mono ?_
 rintro e w1 ⟨rfl,gg⟩
 have z0:=z0.grew gg
 have z1:=z1.grew gg
 have G1:=zc G0 gg
 clear hm1 gg CC G0
 have hcF:w1.cell? ⟨w.heap.size,0,none⟩=some (.int .i64 K.f):=by simpa using z0.cell 0 _ rfl
 have hc5:w1.cell? ⟨w.heap.size+1,5,none⟩=some (.slice A L.length k):=by simpa using z1.cell 5 _ rfl
 have HC5:=hQ9 hc5
 have HZ0:=hQ9 z0
 have HZ1:=hQ9 z1
 have YF:∀ y:Gr w1,y.val.cell? ⟨w.heap.size,0,none⟩=some (.int .i64 K.f):=fun y=>xJ hcF y.ok
 have Y5:∀ y:Gr w1,y.val.cell? ⟨w.heap.size+1,5,none⟩=some (.slice A L.length k):=fun y=>xJ hc5 y.ok
 clear z0 z1 hcF hc5
 by_cases hlq:L.length=Q
 rotate_left
 ·have e19:((L.length:Int) != (Q:Int))=true:=by simp;omega
  have HR:Hid (mvE K c L=8):=hQ9 (by rw [HRV.out,if_neg hlq])
  clear hlq
  generalize ctC c A L.length k=gt at *
  go_upto_region 4 with fail
  refine zo (za w1) (by kernel_rfl) (by kernel_rfl) ?_
  repeat (first
   | (go_big_quiet_step (first
    | (go_at_call 99;exact callG (CQ.out _))
    | fail)))
  refine wpQuiet_nil ?_
  rintro wx ⟨⟨wx',gx⟩,rfl⟩
  go_wp2_with fail
  go_ret
  exact⟨by rw [HR.out];rfl,zc G1 gx⟩
 have e19:((L.length:Int) != (Q:Int))=false:=by simp [hlq]
 have HR:Hid (mvE K c L=chqE K D none L):=hQ9 (by rw [HRV.out,if_pos hlq])
 clear hlq
 have HCMD:Hid (∀ y,Grew w1 y→y.rangeAt (w.heap.size+1) 0 c.cells.toList):=hQ9 (fun y g=>yQ (HZ1.out.grew g))
 generalize ctC c A L.length k=gt at *
 go_upto_region 4 with fail
 refine zo (za w1) (by kernel_rfl) (by kernel_rfl) ?_
 repeat (first
  | (go_big_quiet_step (first
   | (go_at_call 99;exact callG (CQ.out _))
   | fail)))
 refine wpQuiet_nil ?_
 rintro wx ⟨⟨wx',gx⟩,rfl⟩
 have GX:=hQ9 gx
 have HG1:=hQ9 G1
 clear YF Y5 e19 gx
 generalize w1=wo at *
 go_wp2_with fail
 go_loopw [6] (fun iv wr=>∃ i:Nat,i≤L.length∧iv=.int .i64 (i:Int)∧Hid (chqE K D none L=chqE K D (prevO L i) (L.drop i))∧Grew wo wr) (fun iv _=>L.length-(Go.RowKit.intOf iv).toNat)
 case atStart=>exact⟨0,Nat.zero_le _,rfl,hQ9 rfl,GX.out⟩
 case round =>
  obtain⟨i,hi,rfl,HJ,g2⟩:=hrel
  have hc5:wr.cell? ⟨w.heap.size+1,5,none⟩=some (.slice A L.length k):=xJ HC5.out g2
  by_cases hlt:i<L.length
  rotate_left
  ·obtain rfl:i=L.length:=by omega
   have HR0:Hid (mvE K c L=0):=hQ9 (by rw [HR.out,HJ.out,List.drop_length];rw [chqE])
   clear hlt hi
   go_wp2_with fail
   go_ret
   exact⟨by rw [HR0.out];rfl,zc HG1.out g2⟩
  have h1:(i:Int)<(L.length:Int):=by omega
  have h0:(0:Int)≤(i:Int):=by omega
  have hl9:=HLL.out
  have e9i:IntKind.i64.wrap ((i:Int)+1)=((i+1:Nat):Int):=by rw [IntWalk.i64_in _ (by omega)];omega
  have GJ:=hQ9 g2
  have HLW:=hQ9 (HLA.out.gr (zc HG1.out g2))
  obtain⟨ad,hA,hql,hr⟩:=HLW.out.rd i hlt
  have hdr:L.drop i=L[i]::L.drop (i+1):=by rw [List.drop_eq_getElem_cons hlt]
  have hnx:prevO L (i+1)=some (SP.who L[i]):=by show(L[i]?).map SP.who=_;rw [List.getElem?_eq_getElem hlt];rfl
  have HYS:Hid (∀ y:Gr wr,∀ j u,L[i].C.toList[j]?=some u→y.val.cell? ((ad.add (i*24)).add j)=some u):=hQ9 (fun y j u hj=>(y.ok.cell (p:=(ad.add (i*24)).add j) (by rw [zL,zL];exact hql)).trans (hr j u hj))
  have hs1:∀ y:Gr wr,y.val.cell? ⟨(ad.add (i*24)).block,(ad.add (i*24)).off+1,none⟩=some (.int .i64 L[i].who):=fun y=>by
   have:=HYS.out y 1 (.int .i64 L[i].who) rfl
   rwa [zcu _ (by decide)]at this
  have hs0:∀ y:Gr wr,y.val.cell? (ad.add (i*24))=some (.int .u64 (L[i].cm:Int)):=fun y=>by
   have:=HYS.out y 0 (.int .u64 (L[i].cm:Int)) rfl
   rwa [show(ad.add (i*24)).add 0=ad.add (i*24) from by simp [Addr.add]]at this
  have HPV:Hid (∀ j,i=j+1→∃ x:Int,prevO L i=some x∧∀ y:Gr wr,y.val.cell? ⟨(ad.add (j*24)).block,(ad.add (j*24)).off+1,none⟩=some (.int .i64 x)):=hQ9 (fun j hj=>by
   have hjl:j<L.length:=by omega
   refine⟨L[j].who,by rw [hj];show(L[j]?).map SP.who=_;rw [List.getElem?_eq_getElem hjl];rfl,fun y=>?_⟩
   obtain⟨ad2,hA2,hq2,hr2⟩:=HLW.out.rd j hjl
   rw [hA]at hA2;injection hA2 with hA2;subst hA2
   have h3:=hr2 1 (.int .i64 L[j].who) rfl
   rw [zcu _ (by decide)]at h3
   exact(y.ok.cell (p:=⟨(ad.add (j*24)).block,(ad.add (j*24)).off+1,none⟩) (by show(ad.add (j*24)).block<_;rw [zL];exact hq2)).trans h3)
  have HOKS:Hid L[i].ok:=hQ9 (HLW.out.ok _ (List.getElem_mem _))
  have HATS:Hid (∀ y:Gr wr,L[i].at y.val):=hQ9 (fun y=>(HLW.out.at_ _ (List.getElem_mem _)).gr y.ok)
  have HDR:=hQ9 hdr
  have HNX:=hQ9 hnx
  subst hA
  clear hr g2 hi hql hdr hnx
  generalize L[i]=S at *
  have HI:=hQ9 hlt
  clear hlt
  have SIS:Hid ((Tryz.prog.info? 169).map (·.size)=some S.C.toList.length):=hQ9 yY
  have YK:Hid (∀ y:Gr wr,y.val.rangeAt w.heap.size 0 K.C.toList):=hQ9 (fun y=>(HZ0.out.grew (zc GJ.out y.ok)).cell)
  have YM:Hid (∀ y:Gr wr,y.val.rangeAt (w.heap.size+1) 0 c.cells.toList):=hQ9 (fun y=>HCMD.out y.val (zc GJ.out y.ok))
  have Y5:∀ y:Gr wr,y.val.cell? ⟨w.heap.size+1,5,none⟩=some (.slice (some ad) L.length k):=fun y=>xJ hc5 y.ok
  have CV:Hid (∀ y:Gr wr,Calls Tryz.prog 101 #[.agg K.C,.agg S.C] y.val fun e w'=>e=.returned (.int .i64 (vaS K S))∧Grew y.val w'):=hQ9 (fun y=>znv HK.out HOKS.out y.val (HKA.out.gr (zc HG1.out (zc GJ.out y.ok))) (HATS.out y))
  have HB9:Hid ((prevO L i).any (fun x=>decide (S.who≤x))=true→mvE K c L=10):=hQ9 (fun h=>by rw [HR.out,HJ.out,HDR.out,zdi h])
  have HE9:Hid ((prevO L i).any (fun x=>decide (S.who≤x))=false→vdE K D S≠0→mvE K c L=vdE K D S):=hQ9 (fun h h2=>by rw [HR.out,HJ.out,HDR.out,zdj h h2])
  have HS9:Hid ((prevO L i).any (fun x=>decide (S.who≤x))=false→vdE K D S=0→chqE K D none L=chqE K D (prevO L (i+1)) (L.drop (i+1))):=hQ9 (fun h h2=>by rw [HJ.out,HDR.out,xC h h2,HNX.out])
  by_cases hz:i=0
  ·have b0:decide (0<i)=false:=decide_eq_false (by omega)
   have HPA:Hid ((prevO L i).any (fun x=>decide (S.who≤x))=false):=hQ9 (by rw [hz];rfl)
   clear hz HPV
   go_upto_region 9 with fail
   refine zo (za wr) (by kernel_rfl) (by kernel_rfl) ?_
   repeat (first
    | (go_big_quiet_step (first
     | fail)))
   refine wpQuiet_nil ?_
   rintro wx ⟨⟨wx',gx⟩,rfl⟩
   have GY:=hQ9 (zc GJ.out gx)
   have GX9:=hQ9 gx
   clear gx b0
   generalize wr=wj at *
   by_cases hd:S.cm=D
   rotate_left
   ·have e54:((S.cm:Int) != (D:Int))=true:=by simp;omega
    have hv3:vdE K D S=3:=by unfold vdE;rw [if_neg hd]
    have HR1:=hQ9 (HE9.out HPA.out (by rw [hv3];decide))
    rw [hv3]at HR1
    clear hd hv3
    go_upto_region 11 with fail
    have hs0x:∀ y:Gr wx,y.val.cell? (ad.add (i*24))=some (.int .u64 (S.cm:Int)):=fun y=>hs0 ⟨y.val,zc GX9.out y.ok⟩
    have YMx:Hid (∀ y:Gr wx,y.val.rangeAt (w.heap.size+1) 0 c.cells.toList):=hQ9 (fun y=>YM.out ⟨y.val,zc GX9.out y.ok⟩)
    have Y5x:∀ y:Gr wx,y.val.cell? ⟨w.heap.size+1,5,none⟩=some (.slice (some ad) L.length k):=fun y=>Y5 ⟨y.val,zc GX9.out y.ok⟩
    refine zo (za wx) (by kernel_rfl) (by kernel_rfl) ?_
    repeat (first
     | (go_big_quiet_want;refine zw 26 (.tmp 51) rfl (w.heap.size+1) 0 rfl c.cells.toList _ YMx.out huc rfl SIC.out ?_;simp only [Act.put,List.setIfInBounds_toArray,List.set_cons_succ,List.set_cons_zero,Array.toArray_toList];go_big_quiet_on)
     | (go_big_quiet_step (first
      | (go_at_call 100;exact callG (CD.out _))
      | fail)))
    refine wpQuiet_nil ?_
    rintro wy ⟨⟨wy',gy⟩,rfl⟩
    go_wp2_with fail
    go_ret
    exact⟨by rw [HR1.out];rfl,zc HG1.out (zc GY.out gy)⟩
   have e54:((S.cm:Int) != (D:Int))=false:=by simp [hd]
   have hvv:vdE K D S=vaS K S:=by unfold vdE;rw [if_pos hd]
   have HVV:=hQ9 hvv
   clear hd hvv
   go_upto_region 11 with fail
   have hs0x:∀ y:Gr wx,y.val.cell? (ad.add (i*24))=some (.int .u64 (S.cm:Int)):=fun y=>hs0 ⟨y.val,zc GX9.out y.ok⟩
   have YMx:Hid (∀ y:Gr wx,y.val.rangeAt (w.heap.size+1) 0 c.cells.toList):=hQ9 (fun y=>YM.out ⟨y.val,zc GX9.out y.ok⟩)
   have Y5x:∀ y:Gr wx,y.val.cell? ⟨w.heap.size+1,5,none⟩=some (.slice (some ad) L.length k):=fun y=>Y5 ⟨y.val,zc GX9.out y.ok⟩
   refine zo (za wx) (by kernel_rfl) (by kernel_rfl) ?_
   repeat (first
    | (go_big_quiet_want;refine zw 26 (.tmp 51) rfl (w.heap.size+1) 0 rfl c.cells.toList _ YMx.out huc rfl SIC.out ?_;simp only [Act.put,List.setIfInBounds_toArray,List.set_cons_succ,List.set_cons_zero,Array.toArray_toList];go_big_quiet_on)
    | (go_big_quiet_step (first
     | (go_at_call 100;exact callG (CD.out _))
     | fail)))
   refine wpQuiet_nil ?_
   rintro wy ⟨⟨wy',gy⟩,rfl⟩
   have GZ:=hQ9 (zc GX9.out gy)
   clear gy e54
   obtain⟨va,hva⟩:∃ v,vaS K S=v:=⟨_,rfl⟩
   rw [hva]at HVV CV
   by_cases hv0:va=0
   ·have e63:(va != 0)=false:=by simp [hv0]
    have HN:=hQ9 (HS9.out HPA.out (by rw [HVV.out];exact hv0))
    clear hv0 hva
    go_upto_region 13 with fail
    have HYSx:Hid (∀ y:Gr wy,∀ j u,S.C.toList[j]?=some u→y.val.cell? ((ad.add (i*24)).add j)=some u):=hQ9 (fun y=>HYS.out ⟨y.val,zc GZ.out y.ok⟩)
    have YKx:Hid (∀ y:Gr wy,y.val.rangeAt w.heap.size 0 K.C.toList):=hQ9 (fun y=>YK.out ⟨y.val,zc GZ.out y.ok⟩)
    have Y5y:∀ y:Gr wy,y.val.cell? ⟨w.heap.size+1,5,none⟩=some (.slice (some ad) L.length k):=fun y=>Y5 ⟨y.val,zc GZ.out y.ok⟩
    have CV2:Hid (∀ y:Gr wy,Calls Tryz.prog 101 #[.agg K.C,.agg S.C] y.val fun e w'=>e=.returned (.int .i64 va)∧Grew y.val w'):=hQ9 (fun y=>CV.out ⟨y.val,zc GZ.out y.ok⟩)
    refine zo (za wy) (by kernel_rfl) (by kernel_rfl) ?_
    repeat (first
     | (go_big_quiet_want;refine zw 24 (.tmp 2) rfl (w.heap.size) 0 rfl K.C.toList _ YKx.out huk rfl SIK.out ?_;simp only [Act.put,List.setIfInBounds_toArray,List.set_cons_succ,List.set_cons_zero,Array.toArray_toList];go_big_quiet_on)
     | (go_big_quiet_want;refine xB 169 (.tmp 59) rfl (ad.add (i*24)) rfl S.C.toList _ HYSx.out hus rfl SIS.out ?_;simp only [Act.put,List.setIfInBounds_toArray,List.set_cons_succ,List.set_cons_zero,Array.toArray_toList];go_big_quiet_on)
     | (go_big_quiet_step (first
      | (go_at_call 101;exact callG (CV2.out _))
      | fail)))
    refine wpQuiet_nil ?_
    rintro wz ⟨⟨wz',gz⟩,rfl⟩
    go_wp2_with fail
    go_roundw
    case rel=>exact⟨i+1,HI.out,by go_num,HN,zc GJ.out (zc GZ.out gz)⟩
    case measure=>have:=HI.out;simp [Go.RowKit.intOf]<;>omega
   ·have e63:(va != 0)=true:=by simpa using hv0
    have HR1:=hQ9 (HE9.out HPA.out (by rw [HVV.out];exact hv0))
    rw [HVV.out]at HR1
    clear hv0 hva
    go_upto_region 13 with fail
    have HYSx:Hid (∀ y:Gr wy,∀ j u,S.C.toList[j]?=some u→y.val.cell? ((ad.add (i*24)).add j)=some u):=hQ9 (fun y=>HYS.out ⟨y.val,zc GZ.out y.ok⟩)
    have YKx:Hid (∀ y:Gr wy,y.val.rangeAt w.heap.size 0 K.C.toList):=hQ9 (fun y=>YK.out ⟨y.val,zc GZ.out y.ok⟩)
    have Y5y:∀ y:Gr wy,y.val.cell? ⟨w.heap.size+1,5,none⟩=some (.slice (some ad) L.length k):=fun y=>Y5 ⟨y.val,zc GZ.out y.ok⟩
    have CV2:Hid (∀ y:Gr wy,Calls Tryz.prog 101 #[.agg K.C,.agg S.C] y.val fun e w'=>e=.returned (.int .i64 va)∧Grew y.val w'):=hQ9 (fun y=>CV.out ⟨y.val,zc GZ.out y.ok⟩)
    refine zo (za wy) (by kernel_rfl) (by kernel_rfl) ?_
    repeat (first
     | (go_big_quiet_want;refine zw 24 (.tmp 2) rfl (w.heap.size) 0 rfl K.C.toList _ YKx.out huk rfl SIK.out ?_;simp only [Act.put,List.setIfInBounds_toArray,List.set_cons_succ,List.set_cons_zero,Array.toArray_toList];go_big_quiet_on)
     | (go_big_quiet_want;refine xB 169 (.tmp 59) rfl (ad.add (i*24)) rfl S.C.toList _ HYSx.out hus rfl SIS.out ?_;simp only [Act.put,List.setIfInBounds_toArray,List.set_cons_succ,List.set_cons_zero,Array.toArray_toList];go_big_quiet_on)
     | (go_big_quiet_step (first
      | (go_at_call 101;exact callG (CV2.out _))
      | fail)))
    refine wpQuiet_nil ?_
    rintro wz ⟨⟨wz',gz⟩,rfl⟩
    go_wp2_with fail
    go_ret
    exact⟨by rw [HR1.out];rfl,zc HG1.out (zc GJ.out (zc GZ.out gz))⟩
  obtain⟨j,hj⟩:∃ j,i=j+1:=⟨i-1,by omega⟩
  obtain⟨x,hpx,hs2⟩:=HPV.out j hj
  have b0:decide (0<i)=true:=decide_eq_true (by omega)
  have e39:IntKind.i64.wrap ((i:Int)-1)=(j:Int):=by rw [IntWalk.i64_in _ (by omega)];omega
  have hj0:(0:Int)≤(j:Int):=by omega
  have hj1:(j:Int)<(L.length:Int):=by omega
  clear hz HPV
  by_cases hle:S.who≤x
  ·have e43:decide (S.who≤x)=true:=decide_eq_true hle
   have HR1:=hQ9 (HB9.out (by rw [hpx];exact e43))
   clear hle hj hpx
   go_upto_region 9 with fail
   refine zo (za wr) (by kernel_rfl) (by kernel_rfl) ?_
   repeat (first
    | (go_big_quiet_step (first
     | fail)))
   refine wpQuiet_nil ?_
   rintro wx ⟨⟨wx',gx⟩,rfl⟩
   go_wp2_with fail
   go_ret
   exact⟨by rw [HR1.out];rfl,zc HG1.out (zc GJ.out gx)⟩
  ·have e43:decide (S.who≤x)=false:=decide_eq_false hle
   have HPA:Hid ((prevO L i).any (fun x=>decide (S.who≤x))=false):=hQ9 (by rw [hpx];exact e43)
   clear hle hj hpx
   go_upto_region 9 with fail
   refine zo (za wr) (by kernel_rfl) (by kernel_rfl) ?_
   repeat (first
    | (go_big_quiet_step (first
     | fail)))
   refine wpQuiet_nil ?_
   rintro wx ⟨⟨wx',gx⟩,rfl⟩
   have GY:=hQ9 (zc GJ.out gx)
   have GX9:=hQ9 gx
   clear gx b0 e39 e43 hs2 hj0 hj1
   generalize wr=wj at *
   by_cases hd:S.cm=D
   rotate_left
   ·have e54:((S.cm:Int) != (D:Int))=true:=by simp;omega
    have hv3:vdE K D S=3:=by unfold vdE;rw [if_neg hd]
    have HR1:=hQ9 (HE9.out HPA.out (by rw [hv3];decide))
    rw [hv3]at HR1
    clear hd hv3
    go_upto_region 11 with fail
    have hs0x:∀ y:Gr wx,y.val.cell? (ad.add (i*24))=some (.int .u64 (S.cm:Int)):=fun y=>hs0 ⟨y.val,zc GX9.out y.ok⟩
    have YMx:Hid (∀ y:Gr wx,y.val.rangeAt (w.heap.size+1) 0 c.cells.toList):=hQ9 (fun y=>YM.out ⟨y.val,zc GX9.out y.ok⟩)
    have Y5x:∀ y:Gr wx,y.val.cell? ⟨w.heap.size+1,5,none⟩=some (.slice (some ad) L.length k):=fun y=>Y5 ⟨y.val,zc GX9.out y.ok⟩
    refine zo (za wx) (by kernel_rfl) (by kernel_rfl) ?_
    repeat (first
     | (go_big_quiet_want;refine zw 26 (.tmp 51) rfl (w.heap.size+1) 0 rfl c.cells.toList _ YMx.out huc rfl SIC.out ?_;simp only [Act.put,List.setIfInBounds_toArray,List.set_cons_succ,List.set_cons_zero,Array.toArray_toList];go_big_quiet_on)
     | (go_big_quiet_step (first
      | (go_at_call 100;exact callG (CD.out _))
      | fail)))
    refine wpQuiet_nil ?_
    rintro wy ⟨⟨wy',gy⟩,rfl⟩
    go_wp2_with fail
    go_ret
    exact⟨by rw [HR1.out];rfl,zc HG1.out (zc GY.out gy)⟩
   have e54:((S.cm:Int) != (D:Int))=false:=by simp [hd]
   have hvv:vdE K D S=vaS K S:=by unfold vdE;rw [if_pos hd]
   have HVV:=hQ9 hvv
   clear hd hvv
   go_upto_region 11 with fail
   have hs0x:∀ y:Gr wx,y.val.cell? (ad.add (i*24))=some (.int .u64 (S.cm:Int)):=fun y=>hs0 ⟨y.val,zc GX9.out y.ok⟩
   have YMx:Hid (∀ y:Gr wx,y.val.rangeAt (w.heap.size+1) 0 c.cells.toList):=hQ9 (fun y=>YM.out ⟨y.val,zc GX9.out y.ok⟩)
   have Y5x:∀ y:Gr wx,y.val.cell? ⟨w.heap.size+1,5,none⟩=some (.slice (some ad) L.length k):=fun y=>Y5 ⟨y.val,zc GX9.out y.ok⟩
   refine zo (za wx) (by kernel_rfl) (by kernel_rfl) ?_
   repeat (first
    | (go_big_quiet_want;refine zw 26 (.tmp 51) rfl (w.heap.size+1) 0 rfl c.cells.toList _ YMx.out huc rfl SIC.out ?_;simp only [Act.put,List.setIfInBounds_toArray,List.set_cons_succ,List.set_cons_zero,Array.toArray_toList];go_big_quiet_on)
    | (go_big_quiet_step (first
     | (go_at_call 100;exact callG (CD.out _))
     | fail)))
   refine wpQuiet_nil ?_
   rintro wy ⟨⟨wy',gy⟩,rfl⟩
   have GZ:=hQ9 (zc GX9.out gy)
   clear gy e54
   obtain⟨va,hva⟩:∃ v,vaS K S=v:=⟨_,rfl⟩
   rw [hva]at HVV CV
   by_cases hv0:va=0
   ·have e63:(va != 0)=false:=by simp [hv0]
    have HN:=hQ9 (HS9.out HPA.out (by rw [HVV.out];exact hv0))
    clear hv0 hva
    go_upto_region 13 with fail
    have HYSx:Hid (∀ y:Gr wy,∀ j u,S.C.toList[j]?=some u→y.val.cell? ((ad.add (i*24)).add j)=some u):=hQ9 (fun y=>HYS.out ⟨y.val,zc GZ.out y.ok⟩)
    have YKx:Hid (∀ y:Gr wy,y.val.rangeAt w.heap.size 0 K.C.toList):=hQ9 (fun y=>YK.out ⟨y.val,zc GZ.out y.ok⟩)
    have Y5y:∀ y:Gr wy,y.val.cell? ⟨w.heap.size+1,5,none⟩=some (.slice (some ad) L.length k):=fun y=>Y5 ⟨y.val,zc GZ.out y.ok⟩
    have CV2:Hid (∀ y:Gr wy,Calls Tryz.prog 101 #[.agg K.C,.agg S.C] y.val fun e w'=>e=.returned (.int .i64 va)∧Grew y.val w'):=hQ9 (fun y=>CV.out ⟨y.val,zc GZ.out y.ok⟩)
    refine zo (za wy) (by kernel_rfl) (by kernel_rfl) ?_
    repeat (first
     | (go_big_quiet_want;refine zw 24 (.tmp 2) rfl (w.heap.size) 0 rfl K.C.toList _ YKx.out huk rfl SIK.out ?_;simp only [Act.put,List.setIfInBounds_toArray,List.set_cons_succ,List.set_cons_zero,Array.toArray_toList];go_big_quiet_on)
     | (go_big_quiet_want;refine xB 169 (.tmp 59) rfl (ad.add (i*24)) rfl S.C.toList _ HYSx.out hus rfl SIS.out ?_;simp only [Act.put,List.setIfInBounds_toArray,List.set_cons_succ,List.set_cons_zero,Array.toArray_toList];go_big_quiet_on)
     | (go_big_quiet_step (first
      | (go_at_call 101;exact callG (CV2.out _))
      | fail)))
    refine wpQuiet_nil ?_
    rintro wz ⟨⟨wz',gz⟩,rfl⟩
    go_wp2_with fail
    go_roundw
    case rel=>exact⟨i+1,HI.out,by go_num,HN,zc GJ.out (zc GZ.out gz)⟩
    case measure=>have:=HI.out;simp [Go.RowKit.intOf]<;>omega
   ·have e63:(va != 0)=true:=by simpa using hv0
    have HR1:=hQ9 (HE9.out HPA.out (by rw [HVV.out];exact hv0))
    rw [HVV.out]at HR1
    clear hv0 hva
    go_upto_region 13 with fail
    have HYSx:Hid (∀ y:Gr wy,∀ j u,S.C.toList[j]?=some u→y.val.cell? ((ad.add (i*24)).add j)=some u):=hQ9 (fun y=>HYS.out ⟨y.val,zc GZ.out y.ok⟩)
    have YKx:Hid (∀ y:Gr wy,y.val.rangeAt w.heap.size 0 K.C.toList):=hQ9 (fun y=>YK.out ⟨y.val,zc GZ.out y.ok⟩)
    have Y5y:∀ y:Gr wy,y.val.cell? ⟨w.heap.size+1,5,none⟩=some (.slice (some ad) L.length k):=fun y=>Y5 ⟨y.val,zc GZ.out y.ok⟩
    have CV2:Hid (∀ y:Gr wy,Calls Tryz.prog 101 #[.agg K.C,.agg S.C] y.val fun e w'=>e=.returned (.int .i64 va)∧Grew y.val w'):=hQ9 (fun y=>CV.out ⟨y.val,zc GZ.out y.ok⟩)
    refine zo (za wy) (by kernel_rfl) (by kernel_rfl) ?_
    repeat (first
     | (go_big_quiet_want;refine zw 24 (.tmp 2) rfl (w.heap.size) 0 rfl K.C.toList _ YKx.out huk rfl SIK.out ?_;simp only [Act.put,List.setIfInBounds_toArray,List.set_cons_succ,List.set_cons_zero,Array.toArray_toList];go_big_quiet_on)
     | (go_big_quiet_want;refine xB 169 (.tmp 59) rfl (ad.add (i*24)) rfl S.C.toList _ HYSx.out hus rfl SIS.out ?_;simp only [Act.put,List.setIfInBounds_toArray,List.set_cons_succ,List.set_cons_zero,Array.toArray_toList];go_big_quiet_on)
     | (go_big_quiet_step (first
      | (go_at_call 101;exact callG (CV2.out _))
      | fail)))
    refine wpQuiet_nil ?_
    rintro wz ⟨⟨wz',gz⟩,rfl⟩
    go_wp2_with fail
    go_ret
    exact⟨by rw [HR1.out];rfl,zc HG1.out (zc GJ.out (zc GZ.out gz))⟩
theorem zqg (who leaf:Int) (s:Nat→Nat) (l:List Nat) (hw:in64 who) (hlf:in64 leaf) (hl:l.length≤9):(sgT who leaf s l).length≤3000:=by
 unfold sgT
 have h1:=yl hw.1 hw.2
 have h2:=yl hlf.1 hlf.2
 have h3:=yT (oneL s)
 rw [zV]at h3
 have h4:=yT l
 have f1:=zQ (Lib.itoa who)
 have f2:=zQ (Lib.itoa leaf)
 have f3:=zQ (digs (oneL s))
 have f4:=zQ (digs l)
 simp only [joinF,List.flatMap_cons,List.flatMap_nil,List.length_append,List.length_cons,List.length_nil]
 omega
theorem zqh (cm:Nat) (who at_ sw lf:Int) (s:Nat→Nat) (l:List Nat) (hw:in64 who) (ha:in64 at_) (hsw:in64 sw) (hlf:in64 lf) (hl:l.length≤9):(stT cm who at_ sw lf s l).length≤10000:=by
 unfold stT
 have h1:=yl hw.1 hw.2
 have h2:=yl ha.1 ha.2
 have h3:=ym cm
 have h4:=zqg sw lf s l hsw hlf hl
 have f1:=zQ (Lib.itoa who)
 have f2:=zQ (Lib.itoa at_)
 have f3:=zQ (hexL cm)
 have f4:=zQ (sgT sw lf s l)
 simp only [joinF,List.flatMap_cons,List.flatMap_nil,List.length_append,List.length_cons,List.length_nil]
 omega
theorem znw (c:Cm) (hc:c.in) (L:List SP) (hl:L.length≤12) (hok:∀ S∈L,S.ok) (h9:∀ S∈L,S.l.length≤9):(ctTx c L).length≤1000000:=by
 have h1:∀ M:List SP,(∀ S∈M,S.ok)→(∀ S∈M,S.l.length≤9)→(joinF (M.map SP.tx)).length≤M.length*20001:=by
  intro M
  induction M with
  | nil=>intro _ _;simp [joinF]
  | cons S r ih =>
   intro h k
   have h2:=ih (fun T hT=>h T (by simp [hT])) (fun T hT=>k T (by simp [hT]))
   have hS:=h S (by simp)
   have h3:=zqh S.cm S.who S.at_ S.sw S.lf S.s S.l hS.who hS.at_ hS.sw hS.lf (k S (by simp))
   have h4:=zQ S.tx
   have h5:S.tx.length≤10000:=h3
   simp only [joinF,List.map_cons,List.flatMap_cons,List.length_append,List.length_cons]at h2 ⊢
   omega
 have h2:=h1 L hok h9
 have h3:=zab hc
 have h4:=zQ (txC c)
 unfold ctTx
 simp only [joinF,List.flatMap_cons,List.length_append,List.length_cons]at h2 ⊢
 omega
theorem znx {α:Type} (f:SP→α) (hf:∀ S A c,f (S.mv A c)=f S) {L M:List SP} (h:MvL L M):M.map f=L.map f:=by
 apply List.ext_getElem (by simp [h.len])
 intro k h1 h2
 obtain⟨A,c,e⟩:=h.each k (by simpa using h2) (by simpa using h1)
 rw [List.getElem_map,List.getElem_map,e,hf]
theorem zi8 {c:Cm} {L M:List SP} (h:MvL L M):ctTx c M=ctTx c L:=by
 unfold ctTx
 rw [znx SP.tx (fun S A c=>rfl) h]
theorem ctD_mv {c:Cm} {L M:List SP} (h:MvL L M):ctD c M=ctD c L:=by
 unfold ctD
 rw [zi8 h]
theorem atV_mv {L M:List SP} (h:MvL L M):atV M=atV L:=by
 unfold atV
 rw [h.len,znx SP.at_ (fun S A c=>rfl) h]
theorem vdE_K {K K':KP} (hf:K'.f=K.f) (hR:K'.R=K.R) (hh:K'.h=K.h) (d:Nat) (S:SP):vdE K' d S=vdE K d S:=by
 unfold vdE vaS
 rw [hf,hR,hh]
theorem zny {K K':KP} (hf:K'.f=K.f) (hR:K'.R=K.R) (hh:K'.h=K.h) (d:Nat):∀(L:List SP) (p:Option Int),chqE K' d p L=chqE K d p L
 | [],p=>by rw [chqE,chqE]
 | S::r,p=>by rw [chqE,chqE,vdE_K hf hR hh,zny hf hR hh d r]
theorem mvE_K {K K':KP} (hf:K'.f=K.f) (hR:K'.R=K.R) (hh:K'.h=K.h) (c:Cm) (L:List SP):mvE K' c L=mvE K c L:=by
 unfold mvE cqE
 rw [zny hf hR hh,hf]
theorem zsu (c:Cm) (A:Option Addr) (k:Nat) (L:List SP) (w:World) (hL:RdG w A L) :
 Calls Tryz.prog 17 #[.agg (ctC c A L.length k)] w fun e w'=>e=.returned (.bool (fewB L))∧Grew w w':=by
 have z1:=Ag.new w 29 (ctC c A L.length k)
 have G1:=ze (za w) (.cells (ctC c A L.length k) 29)
 have hc5:(w.alloc (.cells (ctC c A L.length k) 29)).cell? ⟨w.heap.size,5,none⟩=some (.slice A L.length k):=by simpa using z1.cell 5 _ rfl
 have CF:=hQ9 (zst A k L _ (hL.gr G1))
 clear z1 hL
 generalize ctC c A L.length k=gt at *
 go_enter Tryz.func17,Tryz.ntmps17
 go_wp2_with fail
 refine CF.out.mono ?_
 rintro e w2 ⟨rfl,gg⟩
 go_wp2_with fail
 go_ret
 exact⟨rfl,zc G1 gg⟩
open Go.ChangeShapes Go.WideShapes Go.Deep
instance:Inhabited SP:=⟨⟨0,0,0,0,0,fun _=>0,none,0,[]⟩⟩
section
variable {H : Type} {enc : TypeId × Value → H} {W : World}
theorem zsv {n:Nat} {cs:List Value} {x:DataW H × List MemPlace} (h:DataW.trod enc Tryz.prog W 0 (fun _=>true) true n 169 cs=some x) :
 ∃ S:SP,cs=S.C.toList∧(S.l.length≤1000→S.ok)∧S.at W:=by
 obtain⟨xs,m,_,_,hl,hlen,hh⟩:=DataW.trod_struct Tryz.underlying169 h
 rw [show Tryz.prog.cellsOf 169=24 by kernel_rfl]at hl
 have ci:Tryz.prog.cellsOf 3=1:=by kernel_rfl
 have cj:Tryz.prog.cellsOf 2=1:=by kernel_rfl
 have cu:Tryz.prog.cellsOf 55=1:=by kernel_rfl
 have cg:Tryz.prog.cellsOf 132=21:=by kernel_rfl
 obtain⟨y0,y1,y2,y3,rfl⟩:∃ a b c d,xs=[a,b,c,d]:=by
  match xs,(show xs.length=4 from hlen)with
  | [a,b,c,d],_=>exact⟨a,b,c,d,rfl⟩
 have h0:DataW.trod enc Tryz.prog W 0 (fun _=>true) true m 55 ((cs.drop 0).take (Tryz.prog.cellsOf 55))=_:=hh 0 _ rfl
 have h1:DataW.trod enc Tryz.prog W 0 (fun _=>true) true m 3 ((cs.drop 1).take (Tryz.prog.cellsOf 3))=_:=hh 1 _ rfl
 have h2:DataW.trod enc Tryz.prog W 0 (fun _=>true) true m 2 ((cs.drop 2).take (Tryz.prog.cellsOf 2))=_:=hh 2 _ rfl
 have h3:DataW.trod enc Tryz.prog W 0 (fun _=>true) true m 132 ((cs.drop 3).take (Tryz.prog.cellsOf 132))=_:=hh 3 _ rfl
 simp only [ci,cj,cu,cg,List.getElem?_cons_zero,List.getElem?_cons_succ]at h0 h1 h2 h3
 obtain⟨z,e0,_,i0⟩:=DataW.trod_int Tryz.underlying55 h0
 obtain⟨wh,e1,_,i1⟩:=DataW.trod_int Tryz.underlying3 h1
 obtain⟨at_,e2,_,i2⟩:=DataW.trod_int Tryz.underlying2 h2
 obtain⟨who,lf,s,A,c,l,e3,w1,w2,hs,hc,hm,hr,hz⟩:=zqe h3
 obtain⟨cm,rfl,hcm⟩:=zds i0
 refine⟨⟨cm,wh,at_,who,lf,s,A,c,l⟩,?_,fun h=>⟨hcm,wf_i64 i1,wf_i64 i2,w1,w2,hs,h,hz⟩,hr⟩
 have k0:=yW cs 0 1
 have k1:=yW cs 1 1
 have k2:=yW cs 2 1
 have k3:=yW cs 3 21
 rw [e0]at k0
 rw [e1]at k1
 rw [e2]at k2
 rw [e3,show cs.drop (3+21)=[] from List.drop_eq_nil_of_le (by omega)]at k3
 rw [show 2+1=3 from rfl,k3]at k2
 rw [show 1+1=2 from rfl,k2]at k1
 rw [show 0+1=1 from rfl,k1]at k0
 rw [List.drop_zero]at k0
 rw [k0]
 rfl
end
end Go.Proofs.YtpppegnojmnicaaGreatDoor
