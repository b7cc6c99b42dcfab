/- CertMakes: Make in one form, are stamps few and short. -/
import Derived.Test.YtkpnheenacchhaaGreatDoorPzz
import Derived.Test.YtkpnheenacchhaaGreatDoorPbp
import Derived.Test.YtkpnheenacchhaaGreatDoorPbl
import Derived.Test.YtkpnheenacchhaaGreatDoorPbs
import Derived.Test.YtkpnheenacchhaaGreatDoorPbq
import Derived.Test.YtkpnheenacchhaaGreatDoorPbj
import Derived.Test.YtkpnheenacchhaaGreatDoorPal
import Derived.Test.YtkpnheenacchhaaGreatDoorPbm
set_option maxHeartbeats 4000000
set_option maxRecDepth 100000
set_option linter.unusedSimpArgs false
set_option linter.unusedVariables false
namespace Go.Proofs.YtkpnheenacchhaaGreatDoor
open Go.RowKit
theorem zfa (w:World):Sps w none []:=⟨fun k hk=>by simp [spL]at hk,by simp,by simp⟩
theorem kG (a:Addr) {n:Nat} (h:n≠0):a.add n=⟨a.block,a.off+n,none⟩:=by unfold Addr.add;rw [if_neg h]
def RdG (w:World) (A:Option Addr) (L:List SP):Prop:=∀ k (h:k<L.length),∃ ad,A=some ad∧ad.block<w.heap.size∧∀ j v,L[k].C.toList[j]?=some v→w.cell? ((ad.add (k*24)).add j)=some v
theorem RdG.gr {w w':World} {A:Option Addr} {L:List SP} (h:RdG w A L) (g:Grew w w'):RdG w' A L:=fun k hk=>by
 obtain⟨ad,e,hb,hc⟩:=h k hk
 exact⟨ad,e,Nat.lt_of_lt_of_le hb g.size,fun j v hj=>(g.cell (p:=(ad.add (k*24)).add j) (by rw [zy,zy];exact hb)).trans (hc j v hj)⟩
structure SpsG (w:World) (A:Option Addr) (L:List SP):Prop where
 rd:RdG w A L
 ok:∀ S∈L,S.ok
 at_:∀ S∈L,S.at w
theorem SpsG.gr {w w':World} {A:Option Addr} {L:List SP} (h:SpsG w A L) (g:Grew w w'):SpsG w' A L:=⟨h.rd.gr g,h.ok,fun S hS=>(h.at_ S hS).gr g⟩
theorem zR {P:Program} {w0:World} {a:Act} {o:Oper} {K:Act→Prop} (ty:TypeId) (x:Operand) (h:o.op=.load ty x) (ad:Addr) (hx:a.eval x=.pointer (some ad)) (cs:List Value) (d:TypeDesc)
 (hg:∀ y:Gr w0,∀ j v,cs[j]?=some v→y.val.cell? (ad.add j)=some v) (hu:P.underlying ty=some d) (hd:(match d with | .struct _ | .array _ _=>true | _=>false)=true) (hi:(P.info? ty).map (·.size)=some cs.length)
 (hk:K (a.put o.dst (.agg cs.toArray))):o.quiet P a (fun w'=>∃ x:Gr w0,w'=x.val) K:=by
 refine⟨_,fun w hw=>?_,hk⟩
 obtain⟨y,rfl⟩:=hw
 unfold Oper.quietAt execOp
 simp only [h,hx,Instr.loadAt,Instr.sureAddr,Sem.run_bind,Sem.run_pure,Result.andThen_ok,jh y.val ad ty cs d (hg y) hu hd hi]
 exact⟨rfl,rfl⟩
def fewB (L:List SP):Bool:=decide (L.length≤12)&&L.all fun S=>decide (S.l.length≤9)
theorem zpz (A:Option Addr) (cap:Nat) (L:List SP) (w:World) (hL:RdG w A L) :
 Calls Tryz.prog 106 #[.slice A L.length cap] w fun e w'=>e=.returned (.bool (fewB L))∧Grew w w':=by
 by_cases h12:12<L.length
 ·have e0:decide ((12:Int)<(L.length:Int))=true:=decide_eq_true (by omega)
  have hF:fewB L=false:=by unfold fewB;rw [zF9 (by omega)];rfl
  rw [hF]
  clear hF hL h12
  go_enter Tryz.func106,Tryz.ntmps106
  go_wp2_with fail
  go_ret
  exact⟨rfl,za _⟩
 have e0:decide ((12:Int)<(L.length:Int))=false:=zF9 (by omega)
 have HL:=hQ9 hL
 have HL12:Hid (L.length≤12):=hQ9 (by omega)
 clear hL h12
 go_enter Tryz.func106,Tryz.ntmps106
 go_wp2_with fail
 go_loopw [3] (fun iv wr=>∃ i:Nat,i≤L.length∧iv=.int .i64 (i:Int)∧Hid (∀ j (hj:j<L.length),j<i→L[j].l.length≤9)∧wr=w) (fun iv _=>L.length-(Go.RowKit.intOf iv).toNat)
 case atStart=>exact⟨0,by omega,rfl,hQ9 (fun j hj h=>by omega),rfl⟩
 case round =>
  obtain⟨i,hi,rfl,HJ,rfl⟩:=hrel
  by_cases hlt:i<L.length
  ·obtain⟨ad,hA,hq,hr⟩:=HL.out i hlt
   subst hA
   obtain⟨S,hSL⟩:∃ S,L[i]=S:=⟨_,rfl⟩
   rw [hSL]at hr
   have hcell:=hr 23 (.slice S.A S.l.length S.c) rfl
   rw [kG _ (by decide)]at hcell
   have h1:(i:Int)<(L.length:Int):=by omega
   have h0:(0:Int)≤(i:Int):=by omega
   have HI:=hQ9 hlt
   have e49:IntKind.i64.wrap ((i:Int)+1)=((i+1:Nat):Int):=by have:=HL12.out;rw [IntWalk.i64_in _ (by omega)];omega
   clear hr
   by_cases h9:9<S.l.length
   ·have e1:decide ((9:Int)<(S.l.length:Int))=true:=decide_eq_true (by omega)
    have HF:Hid (fewB L=false):=hQ9 (by
     unfold fewB
     rw [show L.all (fun S=>decide (S.l.length≤9))=false from by
      rw [List.all_eq_false]
      exact⟨L[i]'hlt,List.getElem_mem _,by rw [hSL];simp;omega⟩]
     simp)
    clear h9 hSL hlt hi
    go_wp2_with fail
    go_ret
    exact⟨by rw [HF.out];rfl,za _⟩
   ·have e1:decide ((9:Int)<(S.l.length:Int))=false:=zF9 (by omega)
    have H9:Hid (∀(h:i<L.length),(L[i]'h).l.length≤9):=hQ9 (fun _=>by rw [hSL];omega)
    clear h9 hSL hlt hi
    go_wp2_with fail
    go_roundw
    case rel=>exact⟨i+1,by have:=HI.out;omega,by go_num,hQ9 (fun j hj h=>by
     by_cases e:j=i
     ·subst e;exact H9.out hj
     ·exact HJ.out j hj (by omega)),by first | rfl | trivial⟩
    case measure=>have:=HI.out;simp [Go.RowKit.intOf]<;>omega
  ·have HF:Hid (fewB L=true):=hQ9 (by
    unfold fewB
    rw [decide_eq_true HL12.out,List.all_eq_true.2 (fun S hS=>by
     obtain⟨j,hj,rfl⟩:=List.getElem_of_mem hS
     exact decide_eq_true (HJ.out j hj (by omega)))]
    rfl)
   obtain rfl:i=L.length:=by omega
   clear hlt
   go_wp2_with fail
   go_ret
   exact⟨by rw [HF.out];rfl,za _⟩
theorem zn0 (A:Option Addr) (c:Nat) (L:List SP) (hl:L.length≤100000) (w:World) (hL:SpsG w A L) :
 Calls Tryz.prog 65 #[.slice A L.length c] w fun e w'=>∃ B c' M,e=.returned (.slice B L.length c')∧MvL L M∧Sps w' B M∧L.length≤c'∧c'≤maxLen∧(∀ ad,B=some ad→w.heap.size≤ad.block)∧(∀ S∈M,∀ ad,S.A=some ad→S.l=[]∨w.heap.size≤ad.block)∧Grew w w':=by
 obtain⟨i0,hi,hz0,hz1,hz2⟩:=info_parts qc
 have hut:=Tryz.underlying233
 have HL:=hQ9 hL
 have hr:=hL.rd
 clear hL
 go_enter Tryz.func65,Tryz.ntmps65
 go_wp2_with fail
 go_loopw [3,4] (fun rv iv wr=>∃(i:Nat) (M:List SP),i≤L.length∧iv=.int .i64 i∧MvL (L.take i) M∧(∀ S∈M,S.ok)∧(∀ S∈M,S.at wr)∧(∀ S∈M,∀ ad,S.A=some ad→∀ g,rv.ownBlock=some g→S.l=[]∨ad.block≠g)∧(∀ S∈M,∀ ad,S.A=some ad→S.l=[]∨w.heap.size≤ad.block)∧wr.ownsRow w.heap.size 157 24 rv i (spL M).flatten∧Grew w wr) (fun _ i _=>L.length-(Go.RowKit.intOf i).toNat)
 case atStart=>exact⟨0,[],Nat.zero_le _,rfl,by simpa using MvL.nil,by simp,by simp,by simp,by simp,by simpa [spL]using World.ownsRow_nil _ _ _ _,Below.refl _ _⟩
 case round =>
  obtain⟨i,M,hil,rfl,hmv,hok,hat,hne,hlow,hrow,hg⟩:=hrel
  by_cases hlt:i<L.length
  ·obtain⟨ad,hA,hq,hm⟩:=(hr.gr hg) i hlt
   subst hA
   have hts:L.take (i+1)=L.take i++[L[i]]:=by rw [List.take_succ_eq_append_getElem hlt]
   have HTS:=hQ9 hts
   have hSok:=HL.out.ok L[i] (List.getElem_mem hlt)
   have hSat:=(HL.out.at_ L[i] (List.getElem_mem hlt)).gr hg
   clear hts
   have hi0:(0:Int)≤(i:Int):=by omega
   have hi1:(i:Int)<(L.length:Int):=by omega
   have e4:IntKind.i64.wrap ((i:Int)+1)=(i:Int)+1:=IntWalk.i64_in _ (by omega)
   generalize L[i]=S at *
   have SIS:Hid (zI9 233=some S.C.toList.length):=hQ9 zi4
   have CCP:=hQ9 (zpo S hSok wr hSat)
   have HOK:=hQ9 hok
   have HNE:=hQ9 hne
   have HLW:=hQ9 hlow
   have hwz:=hg.size
   have HWZ:=hQ9 hwz
   have HMV:=hQ9 hmv
   have HAT:=hQ9 (fun S hS=>hat S hS)
   have HSO:=hQ9 hSok
   clear hok hne hlow hmv hat hSok hSat hwz
   go_wp2_with(with_reducible refine xh rfl 233 (.tmp 14) rfl (ad.add (i*24)) rfl S.C.toList _ hm hut rfl SIS.out ?_;simp only [zT9])
   refine(CCP.out).mono ?_
   rintro e w3 ⟨A2,c2,rfl,hat2,hfr2,gg⟩
   have G3:=zb hg gg
   have hrow3:=zo (S:=fun _=>False) hrow (zF gg) (fun g _ h=>h)
   have hsz3:=G3.size
   have hsz:(S.mv A2 c2).C.size=24:=rfl
   have HAT3:=hQ9 (fun T hT=>(HAT.out T hT).gr gg)
   have HOB:=hQ9 (zN hrow)
   have hgz:=gg.size
   have HFR:Hid (∀ ad,A2=some ad→S.l=[]∨wr.heap.size≤ad.block):=hQ9 (fun ad h=>.inr (hfr2 ad h))
   clear hrow hm gg hg CCP HAT
   go_wp2_with(first
    | (at_builtin;rw [xN];refine zO _ rfl (.tmp 11) (.tmp 17) 41 rfl w.heap.size 157 i0 (.agg (#[.int .u64 0,.int .i64 0,.int .i64 0,.int .i64 0,.int .i64 0,.int .u64 0,.int .u64 0,.int .u64 0,.int .u64 0,.int .u64 0,.int .u64 0,.int .u64 0,.int .u64 0,.int .u64 0,.int .u64 0,.int .u64 0,.int .u64 0,.int .u64 0,.int .u64 0,.int .u64 0,.int .u64 0,.int .u64 0,.int .u64 0,.slice none 0 0]:Array Value)) 24 208 Tryz.underlying41 hi hz0 hz1 hz2 rfl (by decide) _ _ _ rfl (hrow3.alloc _) ⟨w3.heap.size,0,none⟩ 1 1 (S.mv A2 c2).C.toList rfl rfl (fun j u hj=>yg w3 (S.mv A2 c2).C 157 j u hj) (S.mv A2 c2).one' (by unfold maxLen;omega) (by omega) (by simp;omega) ?_;intro v' w5 hown5 hgrow5 hob5))
   have ga:=ze (za w3) (.cells (S.mv A2 c2).C 157)
   go_roundw
   case rel =>
    refine⟨i+1,M++[S.mv A2 c2],by omega,by go_num,by rw [HTS.out];exact HMV.out.snoc S A2 c2,?_,?_,?_,?_,by rw [xo];exact hown5,(ze G3 _).grown hgrow5 (by simp;omega) (zu hrow3)⟩
    ·intro T hT
     rcases List.mem_append.1 hT with h | h
     ·exact HOK.out T h
     ·obtain rfl:T=S.mv A2 c2:=by simpa using h
      exact SP.mv_ok HSO.out _ _
    ·intro T hT
     rcases List.mem_append.1 hT with h | h
     ·exact yQ ((HAT3.out T h).gr ga) hgrow5 (fun ad e g hg=>HNE.out T h ad e g hg)
     ·obtain rfl:T=S.mv A2 c2:=by simpa using h
      exact yQ (hat2.gr ga) hgrow5 (fun ad e g hg=>by
       rcases HFR.out ad e with h1 | h1
       ·exact .inl h1
       ·have:=(HOB.out g hg).2
        exact .inr (by omega))
    ·intro T hT ad e g hg
     have hlt9:T.l=[]∨ad.block<(w3.alloc (.cells (S.mv A2 c2).C 157)).heap.size:=by
      rcases List.mem_append.1 hT with h | h
      ·exact at_lt ((HAT3.out T h).gr ga) ad e
      ·obtain rfl:T=S.mv A2 c2:=by simpa using h
       exact at_lt (hat2.gr ga) ad e
     rcases hob5 with h3 | h3
     ·rw [h3]at hg
      rcases List.mem_append.1 hT with h | h
      ·exact HNE.out T h ad e g hg
      ·obtain rfl:T=S.mv A2 c2:=by simpa using h
       rcases HFR.out ad e with h1 | h1
       ·exact .inl h1
       ·have:=(HOB.out g hg).2
        exact .inr (by omega)
     ·rw [h3]at hg;injection hg with hg
      rcases hlt9 with h1 | h1
      ·exact .inl h1
      ·exact .inr (by omega)
    ·intro T hT ad e
     rcases List.mem_append.1 hT with h | h
     ·exact HLW.out T h ad e
     ·obtain rfl:T=S.mv A2 c2:=by simpa using h
      rcases HFR.out ad e with h1 | h1
      ·exact .inl h1
      ·exact .inr (Nat.le_trans HWZ.out h1)
   case measure=>simp [Go.RowKit.intOf];omega
  ·obtain rfl:i=L.length:=by omega
   rw [List.take_length]at hmv
   obtain⟨B,c',rfl,hB,hc1,hc2,hbB⟩:=xO hrow hmv.len
   go_wp2_with fail
   go_ret
   exact⟨B,c',M,rfl,hmv,⟨hB,hok,hat⟩,hc1,hc2,fun ad e=>(hbB ad e).1,hlow,hg⟩
theorem zfb (c:Cm) (hc:c.in) (A:Option Addr) (k:Nat) (L:List SP) (hl:L.length≤40) (w:World) (hL:SpsG w A L) :
 Calls Tryz.prog 175 #[.agg (ctC c A L.length k)] w fun e w'=>e=.returned (.string ⟨(ctTx c L).toArray⟩)∧Grew w w':=by
 have huc:=Tryz.underlying33
 have hus:=Tryz.underlying233
 have SIC:Hid (zI9 33=some c.cells.toList.length):=hQ9 (show _=some 5 by kernel_rfl)
 have z1:=Ag.new w 36 (ctC c A L.length k)
 have G1:=ze (za w) (.cells (ctC c A L.length k) 36)
 have hlen:=ju c hc L hl hL.ok
 have CTX:=hQ9 (fun W=>zei c hc W)
 rw [show txtV (txC c)=.string ⟨(txC c).toArray⟩ from rfl,show c.v=.agg c.cells from rfl]at CTX
 have HLS:=hQ9 (hL.gr G1)
 have CJ:Hid (∀(A4:Option Addr) (c4:Nat) (W:World),Rd W W.heap.size A4 (strL (⟨(txC c).toArray⟩::L.map SP.tb))→Calls Tryz.prog 93 #[.slice A4 (L.length+1) c4] W fun e w'=>e=.returned (.string ⟨(ctTx c L).toArray⟩)∧Grew W w'):=hQ9 (fun A4 c4 W hR=>by
  have:=kB A4 c4 (⟨(txC c).toArray⟩::L.map SP.tb) (by simp;omega) (by rw [zbg];exact hlen) W hR
  rw [zbg]at this
  simpa [ctTx]using this)
 obtain⟨i0,hi,hz0,hz1,hz2⟩:=info_parts (show(Tryz.prog.info? 9).map (fun i=>(i.zero,i.size,i.bytes))=some (some (.string ⟨#[]⟩),1,16) by kernel_rfl)
 have hmc:=xk z1
 clear hL hlen hc
 generalize (⟨(txC c).toArray⟩:ByteArray)=t0 at *
 generalize (⟨(ctTx c L).toArray⟩:ByteArray)=tj at *
 generalize hw1:w.alloc (.cells (ctC c A L.length k) 36)=w1 at *
 have HC5:Hid (∀ y,Grew w1 y→y.cell? ⟨w.heap.size,5,none⟩=some (.slice A L.length k)):=hQ9 (fun y g=>by simpa using (z1.grew g).cell 5 _ rfl)
 have HW1:=hQ9 hw1
 clear z1 hw1
 go_enter Tryz.func175,Tryz.ntmps175
 go_upto_region 1 with fail
 rw [HW1.out]
 go_wp2_with(first
  | (with_reducible refine wpList_load_mid rfl 33 (.tmp 5) rfl w.heap.size 0 rfl c.cells.toList _ hmc huc rfl SIC.out ?_;simp only [zT9])
  | (go_at_call 221;refine(CTX.out w1).mono ?_;rintro e w2 ⟨rfl,g2⟩))
 have hs2:=g2.size
 have own0:(w2.alloc (.cells #[.string t0] 9)).ownsRow w1.heap.size 9 1 (.slice (some ⟨w2.heap.size,0,none⟩) 1 1) 1 [.string t0]:=⟨by simp,.inr ⟨w2.heap.size,1,#[.string t0],rfl,hs2,heap_alloc_new w2 _,zN9 _,by unfold maxLen;omega,rfl,by simp⟩⟩
 have G3:=ze g2 (.cells #[.string t0] 9)
 generalize w2.alloc (.cells #[.string t0] 9)=w3 at *
 clear g2 hmc CTX
 go_loopw [3,4] (fun rv iv wr=>∃ i:Nat,i≤L.length∧iv=.int .i64 i∧wr.ownsRow w1.heap.size 9 1 rv (i+1) (strL (t0::(L.take i).map SP.tb))∧Grew w1 wr) (fun _ iv _=>L.length-(Go.RowKit.intOf iv).toNat)
 case atStart=>exact⟨0,Nat.zero_le _,rfl,by simpa [strL]using own0,G3⟩
 case round =>
  obtain⟨i,hil,rfl,hown,hg⟩:=hrel
  have hc5:=HC5.out wr hg
  by_cases hlt:i<L.length
  ·obtain⟨ad,hA,hq,hm⟩:=(HLS.out.rd.gr hg) i hlt
   subst hA
   have HT:Hid (strL (t0::(L.take (i+1)).map SP.tb)=strL (t0::(L.take i).map SP.tb)++[.string L[i].tb]):=hQ9 (by rw [List.take_succ_eq_append_getElem hlt,List.map_append];simp [strL])
   have hi0:(0:Int)≤(i:Int):=by omega
   have hi1:(i:Int)<(L.length:Int):=by omega
   have e4:IntKind.i64.wrap ((i:Int)+1)=((i+1:Nat):Int):=by rw [IntWalk.i64_in _ (by omega)];omega
   have hSok:=HLS.out.ok L[i] (List.getElem_mem hlt)
   have hSat:=(HLS.out.at_ L[i] (List.getElem_mem hlt)).gr hg
   generalize L[i]=S at *
   have CW:=hQ9 (zi3 hSok wr hSat)
   have SIS:Hid (zI9 233=some S.C.toList.length):=hQ9 kO
   clear hSok hSat
   go_wp2_with(with_reducible refine xh rfl 233 (.tmp 20) rfl (ad.add (i*24)) rfl S.C.toList _ hm hus rfl SIS.out ?_;simp only [zT9])
   refine(CW.out).mono ?_
   rintro e w4 ⟨rfl,gg⟩
   have G4:=zb hg gg
   have hown3:=zo (S:=fun _=>False) hown (zF gg) (fun g _ h=>h)
   have hsz3:=G4.size
   generalize S.tb=x at *
   clear hown hm gg hg CW hc5
   go_wp2_with(at_builtin;refine zx rfl (.tmp 16) (.tmp 23) 161 rfl w1.heap.size 9 i0 (.string ⟨#[]⟩) 16 Tryz.underlying161 hi hz0 hz1 hz2 rfl _ (i+1) _ rfl (hown3.alloc _) (w4.heap.size+1) (some ⟨w4.heap.size,0,none⟩) 1 1 [.string x] rfl rfl (yb w4 9 #[.string x] (0,0)) (yG rfl) (by unfold maxLen;omega) (by omega) (by simp;omega) ?_;intro v' w5 hown5 hgrow5 _)
   go_roundw
   case rel=>exact⟨i+1,by omega,by go_num,by rw [HT.out];exact hown5,(ze G4 _).grown hgrow5 (by simp;omega) (zu hown3)⟩
   case measure=>simp [Go.RowKit.intOf];omega
  ·obtain rfl:i=L.length:=by omega
   rw [List.take_length]at hown
   obtain⟨D9,d9,e9,hd9,hd9',hR9⟩:=zU hown
   subst e9
   go_wp2_with fail
   refine(CJ.out D9 d9 wr hR9).mono ?_
   rintro e w5 ⟨rfl,gg⟩
   go_wp2_with fail
   go_ret
   exact⟨rfl,zb G1 (zb hg gg)⟩
theorem ji (c:Cm) (hc:c.in) (A:Option Addr) (k:Nat) (L:List SP) (hl:L.length≤40) (w:World) (hL:SpsG w A L) :
 Calls Tryz.prog 115 #[.agg (ctC c A L.length k)] w fun e w'=>e=.returned (.int .u64 (ctD c L:Nat))∧Grew w w':=by
 have huc:=Tryz.underlying36
 have SIC:Hid (zI9 36=some (ctC c A L.length k).toList.length):=hQ9 yZ
 have z1:=Ag.new w 36 (ctC c A L.length k)
 have G1:=ze (za w) (.cells (ctC c A L.length k) 36)
 have hlen:=ju c hc L hl hL.ok
 have CT1:=hQ9 (zfb c hc A k L hl _ (hL.gr G1))
 have CH:=hQ9 (fun W=>kL ⟨#[99,101,114,116]⟩ ⟨(ctTx c L).toArray⟩ (by decide) (by have:=hlen;simp [ByteArray.size];omega) W)
 have e1:sumL (⟨#[99,101,114,116]⟩:ByteArray).data.toList (⟨(ctTx c L).toArray⟩:ByteArray).data.toList=ctD c L:=by simp [ctD]
 rw [e1]at CH
 have hm:=z1.cell
 clear e1 hlen hL z1 hc
 generalize ctD c L=d at *
 generalize (⟨(ctTx c L).toArray⟩:ByteArray)=tj at *
 generalize ctC c A L.length k=gc at *
 go_enter Tryz.func115,Tryz.ntmps115
 go_wp2_with(with_reducible refine wpList_load_mid rfl 36 (.tmp 1) rfl w.heap.size 0 rfl gc.toList _ hm huc rfl SIC.out ?_;simp only [zT9])
 refine(CT1.out).mono ?_
 rintro e w1 ⟨rfl,g1⟩
 go_wp2_with fail
 refine(CH.out w1).mono ?_
 rintro e w2 ⟨rfl,g2⟩
 go_wp2_with fail
 go_ret
 exact⟨rfl,zb G1 (zb g1 g2)⟩
theorem zlk {K:KP} {S:SP} (hK:K.ok) (hS:S.ok) (w:World) (hk:K.at w) (ha:S.at w) :
 Calls Tryz.prog 174 #[.agg K.C,.agg S.C] w fun e w'=>e=.returned (.int .i64 (vaS K S))∧Grew w w' :=
 zf6 K.f hK.f K.R K.RA K.Rc K.h S.cm S.who S.at_ S.sw S.lf S.s S.A S.c S.l hS.cm hS.who hS.at_ hS.sw hS.lf hS.len hS.s hS.l hK.len w hk ha
structure OneR (w:World) (B lo hi:Nat) (cs:List Value) (v:Value):Prop where
 out:∃ g,v=.slice (some ⟨g,0,none⟩) 1 1∧Ag w g cs∧B≤lo∧lo≤g∧g<hi
theorem OneR.kp {P:Nat→Prop} {w w':World} {B lo hi:Nat} {cs:List Value} {v:Value} (h:OneR w B lo hi cs v) (k:Kp P w w') (hp:∀ g,P g→g<B):OneR w' B lo hi cs v:=by
 obtain⟨q,h1,h2,h3,h4,h5⟩:=h.out
 exact⟨q,h1,h2.kp k (fun h6=>by have:=hp _ h6;omega),h3,h4,h5⟩
structure AppR (w:World) (base:Nat) (r:Value) (N0 n:Nat) (xs:List Value) (v:Value):Prop where
 own:w.ownsRow base 233 24 v n xs
 blk:v.ownBlock=r.ownBlock∨∃ g,v.ownBlock=some g∧N0≤g
theorem AppR.gr {w w':World} {base:Nat} {r:Value} {N0 n:Nat} {xs:List Value} {v:Value} (h:AppR w base r N0 n xs v) (g:Grew w w'):AppR w' base r N0 n xs v:=⟨zo (S:=fun _=>False) h.own (zF g) (fun _ _ h=>h),h.blk⟩
theorem jG (c:Cm) {K:KP} (hK:K.ok) (A:Option Addr) (k:Nat) (L:List SP) (hl:L.length≤40) (w:World) (hk:K.at w) (hL:SpsG w A L) :
 Calls Tryz.prog 113 #[.agg K.C,.agg (ctC c A L.length k)] w fun e w'=>e=.returned (.int .i64 (mvE K c L))∧Grew w w':=by
 have huk:=Tryz.underlying64
 have huc:=Tryz.underlying33
 have hus:=Tryz.underlying233
 have SIC:Hid (zI9 33=some c.cells.toList.length):=hQ9 (show _=some 5 by kernel_rfl)
 have SIK:Hid (zI9 64=some K.C.toList.length):=hQ9 ku
 have z0:=(Ag.new w 64 K.C).grew (ze (za _) (.cells (ctC c A L.length k) 36))
 have z1:=Ag.new (w.alloc (.cells K.C 64)) 36 (ctC c A L.length k)
 rw [zl]at z1
 have G0:=ze (ze (za w) (.cells K.C 64)) (.cells (ctC c A L.length k) 36)
 have CC:=hQ9 (fun W=>zh4 c W)
 rw [show c.v=.agg c.cells from rfl]at CC
 have HKA:=hQ9 hk
 have HLA:=hQ9 hL
 have HLL:=hQ9 hl
 have hm1:=xk z1
 clear hk hL hl
 by_cases hc:okC c
 rotate_left
 ·have hck:chkC c=1:=by unfold chkC;rw [if_neg hc]
  have HR:Hid (mvE K c L=1):=hQ9 (by unfold mvE;rw [if_neg hc])
  rw [hck]at CC
  clear hck hc z0 z1
  generalize ctC c A L.length k=gt at *
  go_enter Tryz.func113,Tryz.ntmps113
  go_wp2_with(with_reducible refine wpList_load_mid rfl 33 (.tmp 7) rfl (w.heap.size+1) 0 rfl c.cells.toList _ hm1 huc rfl SIC.out ?_;simp only [zT9])
  refine(CC.out _).mono ?_
  rintro e w2 ⟨rfl,gg⟩
  go_wp2_with fail
  go_ret
  exact⟨by rw [HR.out];rfl,zb G0 gg⟩
 have hck:=kZ hc
 rw [hck]at CC
 have cd:=fun W=>zii c (xj hc) W
 obtain⟨D,hD⟩:∃ D,dgC c=D:=⟨_,rfl⟩
 rw [show c.v=.agg c.cells from rfl,hD]at cd
 have hf:=hK.f
 obtain⟨Q,hQ⟩:∃ n:Nat,(2*K.f+1).toNat=n:=⟨_,rfl⟩
 have eQ:2*K.f+1=(Q:Int):=by omega
 have HRV:Hid (mvE K c L=if L.length=Q then chqE K D none L else 8):=hQ9 (by unfold mvE cqE;rw [if_pos hc,hD,hQ])
 have HK:=hQ9 hK
 have CQ0:∀ W,Calls Tryz.prog 114 #[.int .i64 K.f] W fun e w'=>e=.returned (.int .i64 (2*K.f+1))∧Grew W w':=fun W=>(rq_ok K.f (by omega) W).mono (by rintro e z ⟨rfl,rfl⟩;exact⟨rfl,za _⟩)
 rw [eQ]at CQ0
 have CQ:=hQ9 CQ0
 have CD:=hQ9 cd
 clear hck hc cd hD hf hK eQ hQ CQ0
 go_enter Tryz.func113,Tryz.ntmps113
 go_wp2_with(with_reducible refine wpList_load_mid rfl 33 (.tmp 7) rfl (w.heap.size+1) 0 rfl c.cells.toList _ hm1 huc rfl SIC.out ?_;simp only [zT9])
 refine(CC.out _).mono ?_
 rintro e w1 ⟨rfl,gg⟩
 have z0:=z0.grew gg
 have z1:=z1.grew gg
 have G1:=zb G0 gg
 clear hm1 gg CC G0
 have hcF:w1.cell? ⟨w.heap.size,0,none⟩=some (.int .i64 K.f):=by simpa using z0.cell 0 _ rfl
 have hc5:w1.cell? ⟨w.heap.size+1,5,none⟩=some (.slice A L.length k):=by simpa using z1.cell 5 _ rfl
 have HC5:=hQ9 hc5
 have HZ0:=hQ9 z0
 have HZ1:=hQ9 z1
 have YF:∀ y:Gr w1,y.val.cell? ⟨w.heap.size,0,none⟩=some (.int .i64 K.f):=fun y=>zX hcF y.ok
 have Y5:∀ y:Gr w1,y.val.cell? ⟨w.heap.size+1,5,none⟩=some (.slice A L.length k):=fun y=>zX hc5 y.ok
 clear z0 z1 hcF hc5
 by_cases hlq:L.length=Q
 rotate_left
 ·have e19:((L.length:Int) != (Q:Int))=true:=by simp;omega
  have HR:Hid (mvE K c L=8):=hQ9 (by rw [HRV.out,if_neg hlq])
  clear hlq
  generalize ctC c A L.length k=gt at *
  go_upto_region 4 with fail
  refine zg (za w1) (by kernel_rfl) (by kernel_rfl) ?_
  repeat (first
   | (go_big_quiet_step (first
    | (go_at_call 114;exact callG (CQ.out _))
    | fail)))
  refine wpQuiet_nil ?_
  rintro wx ⟨⟨wx',gx⟩,rfl⟩
  go_wp2_with fail
  go_ret
  exact⟨by rw [HR.out];rfl,zb G1 gx⟩
 have e19:((L.length:Int) != (Q:Int))=false:=by simp [hlq]
 have HR:Hid (mvE K c L=chqE K D none L):=hQ9 (by rw [HRV.out,if_pos hlq])
 clear hlq
 have HCMD:Hid (∀ y,Grew w1 y→y.rangeAt (w.heap.size+1) 0 c.cells.toList):=hQ9 (fun y g=>xk (HZ1.out.grew g))
 generalize ctC c A L.length k=gt at *
 go_upto_region 4 with fail
 refine zg (za w1) (by kernel_rfl) (by kernel_rfl) ?_
 repeat (first
  | (go_big_quiet_step (first
   | (go_at_call 114;exact callG (CQ.out _))
   | fail)))
 refine wpQuiet_nil ?_
 rintro wx ⟨⟨wx',gx⟩,rfl⟩
 have GX:=hQ9 gx
 have HG1:=hQ9 G1
 clear YF Y5 e19 gx
 generalize w1=wo at *
 go_wp2_with fail
 go_loopw [6] (fun iv wr=>∃ i:Nat,i≤L.length∧iv=.int .i64 (i:Int)∧Hid (chqE K D none L=chqE K D (prevO L i) (L.drop i))∧Grew wo wr) (fun iv _=>L.length-(Go.RowKit.intOf iv).toNat)
 case atStart=>exact⟨0,Nat.zero_le _,rfl,hQ9 rfl,GX.out⟩
 case round =>
  obtain⟨i,hi,rfl,HJ,g2⟩:=hrel
  have hc5:wr.cell? ⟨w.heap.size+1,5,none⟩=some (.slice A L.length k):=zX HC5.out g2
  by_cases hlt:i<L.length
  rotate_left
  ·obtain rfl:i=L.length:=by omega
   have HR0:Hid (mvE K c L=0):=hQ9 (by rw [HR.out,HJ.out,List.drop_length];rw [chqE])
   clear hlt hi
   go_wp2_with fail
   go_ret
   exact⟨by rw [HR0.out];rfl,zb HG1.out g2⟩
  have h1:(i:Int)<(L.length:Int):=by omega
  have h0:(0:Int)≤(i:Int):=by omega
  have hl9:=HLL.out
  have e9i:IntKind.i64.wrap ((i:Int)+1)=((i+1:Nat):Int):=by rw [IntWalk.i64_in _ (by omega)];omega
  have GJ:=hQ9 g2
  have HLW:=hQ9 (HLA.out.gr (zb HG1.out g2))
  obtain⟨ad,hA,hql,hr⟩:=HLW.out.rd i hlt
  have hdr:L.drop i=L[i]::L.drop (i+1):=by rw [List.drop_eq_getElem_cons hlt]
  have hnx:prevO L (i+1)=some (SP.who L[i]):=by show(L[i]?).map SP.who=_;rw [List.getElem?_eq_getElem hlt];rfl
  have HYS:Hid (∀ y:Gr wr,∀ j u,L[i].C.toList[j]?=some u→y.val.cell? ((ad.add (i*24)).add j)=some u):=hQ9 (fun y j u hj=>(y.ok.cell (p:=(ad.add (i*24)).add j) (by rw [zy,zy];exact hql)).trans (hr j u hj))
  have hs1:∀ y:Gr wr,y.val.cell? ⟨(ad.add (i*24)).block,(ad.add (i*24)).off+1,none⟩=some (.int .i64 L[i].who):=fun y=>by
   have:=HYS.out y 1 (.int .i64 L[i].who) rfl
   rwa [kG _ (by decide)]at this
  have hs0:∀ y:Gr wr,y.val.cell? (ad.add (i*24))=some (.int .u64 (L[i].cm:Int)):=fun y=>by
   have:=HYS.out y 0 (.int .u64 (L[i].cm:Int)) rfl
   rwa [show(ad.add (i*24)).add 0=ad.add (i*24) from by simp [Addr.add]]at this
  have HPV:Hid (∀ j,i=j+1→∃ x:Int,prevO L i=some x∧∀ y:Gr wr,y.val.cell? ⟨(ad.add (j*24)).block,(ad.add (j*24)).off+1,none⟩=some (.int .i64 x)):=hQ9 (fun j hj=>by
   have hjl:j<L.length:=by omega
   refine⟨L[j].who,by rw [hj];show(L[j]?).map SP.who=_;rw [List.getElem?_eq_getElem hjl];rfl,fun y=>?_⟩
   obtain⟨ad2,hA2,hq2,hr2⟩:=HLW.out.rd j hjl
   rw [hA]at hA2;injection hA2 with hA2;subst hA2
   have h3:=hr2 1 (.int .i64 L[j].who) rfl
   rw [kG _ (by decide)]at h3
   exact(y.ok.cell (p:=⟨(ad.add (j*24)).block,(ad.add (j*24)).off+1,none⟩) (by show(ad.add (j*24)).block<_;rw [zy];exact hq2)).trans h3)
  have HOKS:Hid L[i].ok:=hQ9 (HLW.out.ok _ (List.getElem_mem _))
  have HATS:Hid (∀ y:Gr wr,L[i].at y.val):=hQ9 (fun y=>(HLW.out.at_ _ (List.getElem_mem _)).gr y.ok)
  have HDR:=hQ9 hdr
  have HNX:=hQ9 hnx
  subst hA
  clear hr g2 hi hql hdr hnx
  generalize L[i]=S at *
  have HI:=hQ9 hlt
  clear hlt
  have SIS:Hid (zI9 233=some S.C.toList.length):=hQ9 kO
  have YK:Hid (∀ y:Gr wr,y.val.rangeAt w.heap.size 0 K.C.toList):=hQ9 (fun y=>(HZ0.out.grew (zb GJ.out y.ok)).cell)
  have YM:Hid (∀ y:Gr wr,y.val.rangeAt (w.heap.size+1) 0 c.cells.toList):=hQ9 (fun y=>HCMD.out y.val (zb GJ.out y.ok))
  have Y5:∀ y:Gr wr,y.val.cell? ⟨w.heap.size+1,5,none⟩=some (.slice (some ad) L.length k):=fun y=>zX hc5 y.ok
  have CV:Hid (∀ y:Gr wr,Calls Tryz.prog 174 #[.agg K.C,.agg S.C] y.val fun e w'=>e=.returned (.int .i64 (vaS K S))∧Grew y.val w'):=hQ9 (fun y=>zlk HK.out HOKS.out y.val (HKA.out.gr (zb HG1.out (zb GJ.out y.ok))) (HATS.out y))
  have HB9:Hid ((prevO L i).any (fun x=>decide (S.who≤x))=true→mvE K c L=10):=hQ9 (fun h=>by rw [HR.out,HJ.out,HDR.out,zhc h])
  have HE9:Hid ((prevO L i).any (fun x=>decide (S.who≤x))=false→vdE K D S≠0→mvE K c L=vdE K D S):=hQ9 (fun h h2=>by rw [HR.out,HJ.out,HDR.out,zbz h h2])
  have HS9:Hid ((prevO L i).any (fun x=>decide (S.who≤x))=false→vdE K D S=0→chqE K D none L=chqE K D (prevO L (i+1)) (L.drop (i+1))):=hQ9 (fun h h2=>by rw [HJ.out,HDR.out,xQ h h2,HNX.out])
  by_cases hz:i=0
  ·have b0:decide (0<i)=false:=zF9 (by omega)
   have HPA:Hid ((prevO L i).any (fun x=>decide (S.who≤x))=false):=hQ9 (by rw [hz];rfl)
   clear hz HPV
   go_upto_region 9 with fail
   refine zg (za wr) (by kernel_rfl) (by kernel_rfl) ?_
   repeat (first
    | (go_big_quiet_step (first
     | fail)))
   refine wpQuiet_nil ?_
   rintro wx ⟨⟨wx',gx⟩,rfl⟩
   have GY:=hQ9 (zb GJ.out gx)
   have GX9:=hQ9 gx
   clear gx b0
   generalize wr=wj at *
   by_cases hd:S.cm=D
   rotate_left
   ·have e54:((S.cm:Int) != (D:Int))=true:=by simp;omega
    have hv3:vdE K D S=3:=by unfold vdE;rw [if_neg hd]
    have HR1:=hQ9 (HE9.out HPA.out (by rw [hv3];decide))
    rw [hv3]at HR1
    clear hd hv3
    go_upto_region 11 with fail
    have hs0x:∀ y:Gr wx,y.val.cell? (ad.add (i*24))=some (.int .u64 (S.cm:Int)):=fun y=>hs0 ⟨y.val,zb GX9.out y.ok⟩
    have YMx:Hid (∀ y:Gr wx,y.val.rangeAt (w.heap.size+1) 0 c.cells.toList):=hQ9 (fun y=>YM.out ⟨y.val,zb GX9.out y.ok⟩)
    have Y5x:∀ y:Gr wx,y.val.cell? ⟨w.heap.size+1,5,none⟩=some (.slice (some ad) L.length k):=fun y=>Y5 ⟨y.val,zb GX9.out y.ok⟩
    refine zg (za wx) (by kernel_rfl) (by kernel_rfl) ?_
    repeat (first
     | (go_big_quiet_want;refine zi 33 (.tmp 51) rfl (w.heap.size+1) 0 rfl c.cells.toList _ YMx.out huc rfl SIC.out ?_;simp only [Act.put,List.setIfInBounds_toArray,List.set_cons_succ,List.set_cons_zero,zT9];go_big_quiet_on)
     | (go_big_quiet_step (first
      | (go_at_call 173;exact callG (CD.out _))
      | fail)))
    refine wpQuiet_nil ?_
    rintro wy ⟨⟨wy',gy⟩,rfl⟩
    go_wp2_with fail
    go_ret
    exact⟨by rw [HR1.out];rfl,zb HG1.out (zb GY.out gy)⟩
   have e54:((S.cm:Int) != (D:Int))=false:=by simp [hd]
   have hvv:vdE K D S=vaS K S:=by unfold vdE;rw [if_pos hd]
   have HVV:=hQ9 hvv
   clear hd hvv
   go_upto_region 11 with fail
   have hs0x:∀ y:Gr wx,y.val.cell? (ad.add (i*24))=some (.int .u64 (S.cm:Int)):=fun y=>hs0 ⟨y.val,zb GX9.out y.ok⟩
   have YMx:Hid (∀ y:Gr wx,y.val.rangeAt (w.heap.size+1) 0 c.cells.toList):=hQ9 (fun y=>YM.out ⟨y.val,zb GX9.out y.ok⟩)
   have Y5x:∀ y:Gr wx,y.val.cell? ⟨w.heap.size+1,5,none⟩=some (.slice (some ad) L.length k):=fun y=>Y5 ⟨y.val,zb GX9.out y.ok⟩
   refine zg (za wx) (by kernel_rfl) (by kernel_rfl) ?_
   repeat (first
    | (go_big_quiet_want;refine zi 33 (.tmp 51) rfl (w.heap.size+1) 0 rfl c.cells.toList _ YMx.out huc rfl SIC.out ?_;simp only [Act.put,List.setIfInBounds_toArray,List.set_cons_succ,List.set_cons_zero,zT9];go_big_quiet_on)
    | (go_big_quiet_step (first
     | (go_at_call 173;exact callG (CD.out _))
     | fail)))
   refine wpQuiet_nil ?_
   rintro wy ⟨⟨wy',gy⟩,rfl⟩
   have GZ:=hQ9 (zb GX9.out gy)
   clear gy e54
   obtain⟨va,hva⟩:∃ v,vaS K S=v:=⟨_,rfl⟩
   rw [hva]at HVV CV
   by_cases hv0:va=0
   ·have e63:(va != 0)=false:=by simp [hv0]
    have HN:=hQ9 (HS9.out HPA.out (by rw [HVV.out];exact hv0))
    clear hv0 hva
    go_upto_region 13 with fail
    have HYSx:Hid (∀ y:Gr wy,∀ j u,S.C.toList[j]?=some u→y.val.cell? ((ad.add (i*24)).add j)=some u):=hQ9 (fun y=>HYS.out ⟨y.val,zb GZ.out y.ok⟩)
    have YKx:Hid (∀ y:Gr wy,y.val.rangeAt w.heap.size 0 K.C.toList):=hQ9 (fun y=>YK.out ⟨y.val,zb GZ.out y.ok⟩)
    have Y5y:∀ y:Gr wy,y.val.cell? ⟨w.heap.size+1,5,none⟩=some (.slice (some ad) L.length k):=fun y=>Y5 ⟨y.val,zb GZ.out y.ok⟩
    have CV2:Hid (∀ y:Gr wy,Calls Tryz.prog 174 #[.agg K.C,.agg S.C] y.val fun e w'=>e=.returned (.int .i64 va)∧Grew y.val w'):=hQ9 (fun y=>CV.out ⟨y.val,zb GZ.out y.ok⟩)
    refine zg (za wy) (by kernel_rfl) (by kernel_rfl) ?_
    repeat (first
     | (go_big_quiet_want;refine zi 64 (.tmp 2) rfl (w.heap.size) 0 rfl K.C.toList _ YKx.out huk rfl SIK.out ?_;simp only [Act.put,List.setIfInBounds_toArray,List.set_cons_succ,List.set_cons_zero,zT9];go_big_quiet_on)
     | (go_big_quiet_want;refine zR 233 (.tmp 59) rfl (ad.add (i*24)) rfl S.C.toList _ HYSx.out hus rfl SIS.out ?_;simp only [Act.put,List.setIfInBounds_toArray,List.set_cons_succ,List.set_cons_zero,zT9];go_big_quiet_on)
     | (go_big_quiet_step (first
      | (go_at_call 174;exact callG (CV2.out _))
      | fail)))
    refine wpQuiet_nil ?_
    rintro wz ⟨⟨wz',gz⟩,rfl⟩
    go_wp2_with fail
    go_roundw
    case rel=>exact⟨i+1,HI.out,by go_num,HN,zb GJ.out (zb GZ.out gz)⟩
    case measure=>have:=HI.out;simp [Go.RowKit.intOf]<;>omega
   ·have e63:(va != 0)=true:=by simpa using hv0
    have HR1:=hQ9 (HE9.out HPA.out (by rw [HVV.out];exact hv0))
    rw [HVV.out]at HR1
    clear hv0 hva
    go_upto_region 13 with fail
    have HYSx:Hid (∀ y:Gr wy,∀ j u,S.C.toList[j]?=some u→y.val.cell? ((ad.add (i*24)).add j)=some u):=hQ9 (fun y=>HYS.out ⟨y.val,zb GZ.out y.ok⟩)
    have YKx:Hid (∀ y:Gr wy,y.val.rangeAt w.heap.size 0 K.C.toList):=hQ9 (fun y=>YK.out ⟨y.val,zb GZ.out y.ok⟩)
    have Y5y:∀ y:Gr wy,y.val.cell? ⟨w.heap.size+1,5,none⟩=some (.slice (some ad) L.length k):=fun y=>Y5 ⟨y.val,zb GZ.out y.ok⟩
    have CV2:Hid (∀ y:Gr wy,Calls Tryz.prog 174 #[.agg K.C,.agg S.C] y.val fun e w'=>e=.returned (.int .i64 va)∧Grew y.val w'):=hQ9 (fun y=>CV.out ⟨y.val,zb GZ.out y.ok⟩)
    refine zg (za wy) (by kernel_rfl) (by kernel_rfl) ?_
    repeat (first
     | (go_big_quiet_want;refine zi 64 (.tmp 2) rfl (w.heap.size) 0 rfl K.C.toList _ YKx.out huk rfl SIK.out ?_;simp only [Act.put,List.setIfInBounds_toArray,List.set_cons_succ,List.set_cons_zero,zT9];go_big_quiet_on)
     | (go_big_quiet_want;refine zR 233 (.tmp 59) rfl (ad.add (i*24)) rfl S.C.toList _ HYSx.out hus rfl SIS.out ?_;simp only [Act.put,List.setIfInBounds_toArray,List.set_cons_succ,List.set_cons_zero,zT9];go_big_quiet_on)
     | (go_big_quiet_step (first
      | (go_at_call 174;exact callG (CV2.out _))
      | fail)))
    refine wpQuiet_nil ?_
    rintro wz ⟨⟨wz',gz⟩,rfl⟩
    go_wp2_with fail
    go_ret
    exact⟨by rw [HR1.out];rfl,zb HG1.out (zb GJ.out (zb GZ.out gz))⟩
  obtain⟨j,hj⟩:∃ j,i=j+1:=⟨i-1,by omega⟩
  obtain⟨x,hpx,hs2⟩:=HPV.out j hj
  have b0:decide (0<i)=true:=decide_eq_true (by omega)
  have e39:IntKind.i64.wrap ((i:Int)-1)=(j:Int):=by rw [IntWalk.i64_in _ (by omega)];omega
  have hj0:(0:Int)≤(j:Int):=by omega
  have hj1:(j:Int)<(L.length:Int):=by omega
  clear hz HPV
  by_cases hle:S.who≤x
  ·have e43:decide (S.who≤x)=true:=decide_eq_true hle
   have HR1:=hQ9 (HB9.out (by rw [hpx];exact e43))
   clear hle hj hpx
   go_upto_region 9 with fail
   refine zg (za wr) (by kernel_rfl) (by kernel_rfl) ?_
   repeat (first
    | (go_big_quiet_step (first
     | fail)))
   refine wpQuiet_nil ?_
   rintro wx ⟨⟨wx',gx⟩,rfl⟩
   go_wp2_with fail
   go_ret
   exact⟨by rw [HR1.out];rfl,zb HG1.out (zb GJ.out gx)⟩
  ·have e43:decide (S.who≤x)=false:=zF9 hle
   have HPA:Hid ((prevO L i).any (fun x=>decide (S.who≤x))=false):=hQ9 (by rw [hpx];exact e43)
   clear hle hj hpx
   go_upto_region 9 with fail
   refine zg (za wr) (by kernel_rfl) (by kernel_rfl) ?_
   repeat (first
    | (go_big_quiet_step (first
     | fail)))
   refine wpQuiet_nil ?_
   rintro wx ⟨⟨wx',gx⟩,rfl⟩
   have GY:=hQ9 (zb GJ.out gx)
   have GX9:=hQ9 gx
   clear gx b0 e39 e43 hs2 hj0 hj1
   generalize wr=wj at *
   by_cases hd:S.cm=D
   rotate_left
   ·have e54:((S.cm:Int) != (D:Int))=true:=by simp;omega
    have hv3:vdE K D S=3:=by unfold vdE;rw [if_neg hd]
    have HR1:=hQ9 (HE9.out HPA.out (by rw [hv3];decide))
    rw [hv3]at HR1
    clear hd hv3
    go_upto_region 11 with fail
    have hs0x:∀ y:Gr wx,y.val.cell? (ad.add (i*24))=some (.int .u64 (S.cm:Int)):=fun y=>hs0 ⟨y.val,zb GX9.out y.ok⟩
    have YMx:Hid (∀ y:Gr wx,y.val.rangeAt (w.heap.size+1) 0 c.cells.toList):=hQ9 (fun y=>YM.out ⟨y.val,zb GX9.out y.ok⟩)
    have Y5x:∀ y:Gr wx,y.val.cell? ⟨w.heap.size+1,5,none⟩=some (.slice (some ad) L.length k):=fun y=>Y5 ⟨y.val,zb GX9.out y.ok⟩
    refine zg (za wx) (by kernel_rfl) (by kernel_rfl) ?_
    repeat (first
     | (go_big_quiet_want;refine zi 33 (.tmp 51) rfl (w.heap.size+1) 0 rfl c.cells.toList _ YMx.out huc rfl SIC.out ?_;simp only [Act.put,List.setIfInBounds_toArray,List.set_cons_succ,List.set_cons_zero,zT9];go_big_quiet_on)
     | (go_big_quiet_step (first
      | (go_at_call 173;exact callG (CD.out _))
      | fail)))
    refine wpQuiet_nil ?_
    rintro wy ⟨⟨wy',gy⟩,rfl⟩
    go_wp2_with fail
    go_ret
    exact⟨by rw [HR1.out];rfl,zb HG1.out (zb GY.out gy)⟩
   have e54:((S.cm:Int) != (D:Int))=false:=by simp [hd]
   have hvv:vdE K D S=vaS K S:=by unfold vdE;rw [if_pos hd]
   have HVV:=hQ9 hvv
   clear hd hvv
   go_upto_region 11 with fail
   have hs0x:∀ y:Gr wx,y.val.cell? (ad.add (i*24))=some (.int .u64 (S.cm:Int)):=fun y=>hs0 ⟨y.val,zb GX9.out y.ok⟩
   have YMx:Hid (∀ y:Gr wx,y.val.rangeAt (w.heap.size+1) 0 c.cells.toList):=hQ9 (fun y=>YM.out ⟨y.val,zb GX9.out y.ok⟩)
   have Y5x:∀ y:Gr wx,y.val.cell? ⟨w.heap.size+1,5,none⟩=some (.slice (some ad) L.length k):=fun y=>Y5 ⟨y.val,zb GX9.out y.ok⟩
   refine zg (za wx) (by kernel_rfl) (by kernel_rfl) ?_
   repeat (first
    | (go_big_quiet_want;refine zi 33 (.tmp 51) rfl (w.heap.size+1) 0 rfl c.cells.toList _ YMx.out huc rfl SIC.out ?_;simp only [Act.put,List.setIfInBounds_toArray,List.set_cons_succ,List.set_cons_zero,zT9];go_big_quiet_on)
    | (go_big_quiet_step (first
     | (go_at_call 173;exact callG (CD.out _))
     | fail)))
   refine wpQuiet_nil ?_
   rintro wy ⟨⟨wy',gy⟩,rfl⟩
   have GZ:=hQ9 (zb GX9.out gy)
   clear gy e54
   obtain⟨va,hva⟩:∃ v,vaS K S=v:=⟨_,rfl⟩
   rw [hva]at HVV CV
   by_cases hv0:va=0
   ·have e63:(va != 0)=false:=by simp [hv0]
    have HN:=hQ9 (HS9.out HPA.out (by rw [HVV.out];exact hv0))
    clear hv0 hva
    go_upto_region 13 with fail
    have HYSx:Hid (∀ y:Gr wy,∀ j u,S.C.toList[j]?=some u→y.val.cell? ((ad.add (i*24)).add j)=some u):=hQ9 (fun y=>HYS.out ⟨y.val,zb GZ.out y.ok⟩)
    have YKx:Hid (∀ y:Gr wy,y.val.rangeAt w.heap.size 0 K.C.toList):=hQ9 (fun y=>YK.out ⟨y.val,zb GZ.out y.ok⟩)
    have Y5y:∀ y:Gr wy,y.val.cell? ⟨w.heap.size+1,5,none⟩=some (.slice (some ad) L.length k):=fun y=>Y5 ⟨y.val,zb GZ.out y.ok⟩
    have CV2:Hid (∀ y:Gr wy,Calls Tryz.prog 174 #[.agg K.C,.agg S.C] y.val fun e w'=>e=.returned (.int .i64 va)∧Grew y.val w'):=hQ9 (fun y=>CV.out ⟨y.val,zb GZ.out y.ok⟩)
    refine zg (za wy) (by kernel_rfl) (by kernel_rfl) ?_
    repeat (first
     | (go_big_quiet_want;refine zi 64 (.tmp 2) rfl (w.heap.size) 0 rfl K.C.toList _ YKx.out huk rfl SIK.out ?_;simp only [Act.put,List.setIfInBounds_toArray,List.set_cons_succ,List.set_cons_zero,zT9];go_big_quiet_on)
     | (go_big_quiet_want;refine zR 233 (.tmp 59) rfl (ad.add (i*24)) rfl S.C.toList _ HYSx.out hus rfl SIS.out ?_;simp only [Act.put,List.setIfInBounds_toArray,List.set_cons_succ,List.set_cons_zero,zT9];go_big_quiet_on)
     | (go_big_quiet_step (first
      | (go_at_call 174;exact callG (CV2.out _))
      | fail)))
    refine wpQuiet_nil ?_
    rintro wz ⟨⟨wz',gz⟩,rfl⟩
    go_wp2_with fail
    go_roundw
    case rel=>exact⟨i+1,HI.out,by go_num,HN,zb GJ.out (zb GZ.out gz)⟩
    case measure=>have:=HI.out;simp [Go.RowKit.intOf]<;>omega
   ·have e63:(va != 0)=true:=by simpa using hv0
    have HR1:=hQ9 (HE9.out HPA.out (by rw [HVV.out];exact hv0))
    rw [HVV.out]at HR1
    clear hv0 hva
    go_upto_region 13 with fail
    have HYSx:Hid (∀ y:Gr wy,∀ j u,S.C.toList[j]?=some u→y.val.cell? ((ad.add (i*24)).add j)=some u):=hQ9 (fun y=>HYS.out ⟨y.val,zb GZ.out y.ok⟩)
    have YKx:Hid (∀ y:Gr wy,y.val.rangeAt w.heap.size 0 K.C.toList):=hQ9 (fun y=>YK.out ⟨y.val,zb GZ.out y.ok⟩)
    have Y5y:∀ y:Gr wy,y.val.cell? ⟨w.heap.size+1,5,none⟩=some (.slice (some ad) L.length k):=fun y=>Y5 ⟨y.val,zb GZ.out y.ok⟩
    have CV2:Hid (∀ y:Gr wy,Calls Tryz.prog 174 #[.agg K.C,.agg S.C] y.val fun e w'=>e=.returned (.int .i64 va)∧Grew y.val w'):=hQ9 (fun y=>CV.out ⟨y.val,zb GZ.out y.ok⟩)
    refine zg (za wy) (by kernel_rfl) (by kernel_rfl) ?_
    repeat (first
     | (go_big_quiet_want;refine zi 64 (.tmp 2) rfl (w.heap.size) 0 rfl K.C.toList _ YKx.out huk rfl SIK.out ?_;simp only [Act.put,List.setIfInBounds_toArray,List.set_cons_succ,List.set_cons_zero,zT9];go_big_quiet_on)
     | (go_big_quiet_want;refine zR 233 (.tmp 59) rfl (ad.add (i*24)) rfl S.C.toList _ HYSx.out hus rfl SIS.out ?_;simp only [Act.put,List.setIfInBounds_toArray,List.set_cons_succ,List.set_cons_zero,zT9];go_big_quiet_on)
     | (go_big_quiet_step (first
      | (go_at_call 174;exact callG (CV2.out _))
      | fail)))
    refine wpQuiet_nil ?_
    rintro wz ⟨⟨wz',gz⟩,rfl⟩
    go_wp2_with fail
    go_ret
    exact⟨by rw [HR1.out];rfl,zb HG1.out (zb GJ.out (zb GZ.out gz))⟩
theorem vdE_K {K K':KP} (hf:K'.f=K.f) (hR:K'.R=K.R) (hh:K'.h=K.h) (d:Nat) (S:SP):vdE K' d S=vdE K d S:=by
 unfold vdE vaS
 rw [hf,hR,hh]
theorem zll {K K':KP} (hf:K'.f=K.f) (hR:K'.R=K.R) (hh:K'.h=K.h) (d:Nat):∀(L:List SP) (p:Option Int),chqE K' d p L=chqE K d p L
 | [],p=>by rw [chqE,chqE]
 | S::r,p=>by rw [chqE,chqE,vdE_K hf hR hh,zll hf hR hh d r]
theorem mvE_K {K K':KP} (hf:K'.f=K.f) (hR:K'.R=K.R) (hh:K'.h=K.h) (c:Cm) (L:List SP):mvE K' c L=mvE K c L:=by
 unfold mvE cqE
 rw [zll hf hR hh,hf]
theorem zp0 (c:Cm) (A:Option Addr) (k:Nat) (L:List SP) (w:World) (hL:RdG w A L) :
 Calls Tryz.prog 44 #[.agg (ctC c A L.length k)] w fun e w'=>e=.returned (.bool (fewB L))∧Grew w w':=by
 have z1:=Ag.new w 36 (ctC c A L.length k)
 have G1:=ze (za w) (.cells (ctC c A L.length k) 36)
 have hc5:(w.alloc (.cells (ctC c A L.length k) 36)).cell? ⟨w.heap.size,5,none⟩=some (.slice A L.length k):=by simpa using z1.cell 5 _ rfl
 have CF:=hQ9 (zpz A k L _ (hL.gr G1))
 clear z1 hL
 generalize ctC c A L.length k=gt at *
 go_enter Tryz.func44,Tryz.ntmps44
 go_wp2_with fail
 refine CF.out.mono ?_
 rintro e w2 ⟨rfl,gg⟩
 go_wp2_with fail
 go_ret
 exact⟨rfl,zb G1 gg⟩
open Go.ChangeShapes Go.WideShapes Go.Deep
instance:Inhabited SP:=⟨⟨0,0,0,0,0,fun _=>0,none,0,[]⟩⟩
section
variable {H : Type} {enc : TypeId × Value → H} {W : World}
theorem zp1 {n:Nat} {cs:List Value} {x:DataW H × List MemPlace} (h:DataW.trod enc Tryz.prog W 0 (fun _=>true) true n 233 cs=some x) :
 ∃ S:SP,cs=S.C.toList∧(S.l.length≤1000→S.ok)∧S.at W:=by
 obtain⟨xs,m,_,_,hl,hlen,hh⟩:=DataW.trod_struct Tryz.underlying233 h
 rw [show Tryz.prog.cellsOf 233=24 by kernel_rfl]at hl
 have ci:Tryz.prog.cellsOf 3=1:=by kernel_rfl
 have cj:Tryz.prog.cellsOf 2=1:=by kernel_rfl
 have cu:Tryz.prog.cellsOf 65=1:=by kernel_rfl
 have cg:Tryz.prog.cellsOf 68=21:=by kernel_rfl
 obtain⟨y0,y1,y2,y3,rfl⟩:∃ a b c d,xs=[a,b,c,d]:=by
  match xs,(show xs.length=4 from hlen)with
  | [a,b,c,d],_=>exact⟨a,b,c,d,rfl⟩
 have h0:DataW.trod enc Tryz.prog W 0 (fun _=>true) true m 65 ((cs.drop 0).take (Tryz.prog.cellsOf 65))=_:=hh 0 _ rfl
 have h1:DataW.trod enc Tryz.prog W 0 (fun _=>true) true m 3 ((cs.drop 1).take (Tryz.prog.cellsOf 3))=_:=hh 1 _ rfl
 have h2:DataW.trod enc Tryz.prog W 0 (fun _=>true) true m 2 ((cs.drop 2).take (Tryz.prog.cellsOf 2))=_:=hh 2 _ rfl
 have h3:DataW.trod enc Tryz.prog W 0 (fun _=>true) true m 68 ((cs.drop 3).take (Tryz.prog.cellsOf 68))=_:=hh 3 _ rfl
 simp only [ci,cj,cu,cg,List.getElem?_cons_zero,List.getElem?_cons_succ]at h0 h1 h2 h3
 obtain⟨z,e0,_,i0⟩:=DataW.trod_int Tryz.underlying65 h0
 obtain⟨wh,e1,_,i1⟩:=DataW.trod_int Tryz.underlying3 h1
 obtain⟨at_,e2,_,i2⟩:=DataW.trod_int Tryz.underlying2 h2
 obtain⟨who,lf,s,A,c,l,e3,w1,w2,hs,hc,hm,hr,hz⟩:=ze9 h3
 obtain⟨cm,rfl,hcm⟩:=qA i0
 refine⟨⟨cm,wh,at_,who,lf,s,A,c,l⟩,?_,fun h=>⟨hcm,wf_i64 i1,wf_i64 i2,w1,w2,hs,h,hz⟩,hr⟩
 have k0:=yz cs 0 1
 have k1:=yz cs 1 1
 have k2:=yz cs 2 1
 have k3:=yz cs 3 21
 rw [e0]at k0
 rw [e1]at k1
 rw [e2]at k2
 rw [e3,show cs.drop (3+21)=[] from List.drop_eq_nil_of_le (by omega)]at k3
 rw [show 2+1=3 from rfl,k3]at k2
 rw [show 1+1=2 from rfl,k2]at k1
 rw [show 0+1=1 from rfl,k1]at k0
 rw [List.drop_zero]at k0
 rw [k0]
 rfl
end
end Go.Proofs.YtkpnheenacchhaaGreatDoor
namespace Go.Proofs.YtkpnheenacchhaaGreatDoor
open Go.RowKit
def RaG (w:World) (A:Option Addr) (L:List AP):Prop:=∀ k (h:k<L.length),∃ ad,A=some ad∧ad.block<w.heap.size∧∀ j v,L[k].C.toList[j]?=some v→w.cell? ((ad.add (k*23)).add j)=some v
theorem RaG.gr {w w':World} {A:Option Addr} {L:List AP} (h:RaG w A L) (g:Grew w w'):RaG w' A L:=fun k hk=>by
 obtain⟨ad,e,hb,hc⟩:=h k hk
 exact⟨ad,e,Nat.lt_of_lt_of_le hb g.size,fun j v hj=>(g.cell (p:=(ad.add (k*23)).add j) (by rw [zy,zy];exact hb)).trans (hc j v hj)⟩
structure ApsG (w:World) (A:Option Addr) (L:List AP):Prop where
 rd:RaG w A L
 ok:∀ S∈L,S.ok
 at_:∀ S∈L,S.at w
theorem ApsG.gr {w w':World} {A:Option Addr} {L:List AP} (h:ApsG w A L) (g:Grew w w'):ApsG w' A L:=⟨h.rd.gr g,h.ok,fun S hS=>(h.at_ S hS).gr g⟩
theorem zp2 (S:AP) (hS:S.ok) (w:World) (ha:S.at w) :
 Calls Tryz.prog 30 #[.agg S.C] w fun e w'=>∃ A2 c2,e=.returned (.agg (S.mv A2 c2).C)∧(S.mv A2 c2).at w'∧(∀ ad,A2=some ad→w.heap.size≤ad.block)∧Grew w w' :=
 (zph S.cm S.who S.sw S.lf S.s S.A S.c S.l (by have:=hS.len;omega) w ha).mono fun e w' ⟨A2,c2,h1,h2,h3,h4⟩=>⟨A2,c2,h1,h2,h4,h3⟩
theorem zcy (A:Option Addr) (c:Nat) (L:List AP) (hl:L.length≤100000) (w:World) (hL:ApsG w A L) :
 Calls Tryz.prog 46 #[.slice A L.length c] w fun e w'=>∃ B c' M,e=.returned (.slice B L.length c')∧MvA L M∧Aps w' B M∧L.length≤c'∧c'≤maxLen∧(∀ ad,B=some ad→w.heap.size≤ad.block)∧(∀ S∈M,∀ ad,S.A=some ad→S.l=[]∨w.heap.size≤ad.block)∧Grew w w':=by
 obtain⟨i0,hi,hz0,hz1,hz2⟩:=info_parts zbe
 have hut:=Tryz.underlying70
 have HL:=hQ9 hL
 have hr:=hL.rd
 clear hL
 go_enter Tryz.func46,Tryz.ntmps46
 go_wp2_with fail
 go_loopw [3,4] (fun rv iv wr=>∃(i:Nat) (M:List AP),i≤L.length∧iv=.int .i64 i∧MvA (L.take i) M∧(∀ S∈M,S.ok)∧(∀ S∈M,S.at wr)∧(∀ S∈M,∀ ad,S.A=some ad→∀ g,rv.ownBlock=some g→S.l=[]∨ad.block≠g)∧(∀ S∈M,∀ ad,S.A=some ad→S.l=[]∨w.heap.size≤ad.block)∧wr.ownsRow w.heap.size 79 23 rv i (apL M).flatten∧Grew w wr) (fun _ i _=>L.length-(Go.RowKit.intOf i).toNat)
 case atStart=>exact⟨0,[],Nat.zero_le _,rfl,by simpa using MvA.nil,by simp,by simp,by simp,by simp,by simpa [apL]using World.ownsRow_nil _ _ _ _,Below.refl _ _⟩
 case round =>
  obtain⟨i,M,hil,rfl,hmv,hok,hat,hne,hlow,hrow,hg⟩:=hrel
  by_cases hlt:i<L.length
  ·obtain⟨ad,hA,hq,hm⟩:=(hr.gr hg) i hlt
   subst hA
   have hts:L.take (i+1)=L.take i++[L[i]]:=by rw [List.take_succ_eq_append_getElem hlt]
   have HTS:=hQ9 hts
   have hSok:=HL.out.ok L[i] (List.getElem_mem hlt)
   have hSat:=(HL.out.at_ L[i] (List.getElem_mem hlt)).gr hg
   clear hts
   have hi0:(0:Int)≤(i:Int):=by omega
   have hi1:(i:Int)<(L.length:Int):=by omega
   have e4:IntKind.i64.wrap ((i:Int)+1)=(i:Int)+1:=IntWalk.i64_in _ (by omega)
   generalize L[i]=S at *
   have SIS:Hid (zI9 70=some S.C.toList.length):=hQ9 xn
   have CCP:=hQ9 (zp2 S hSok wr hSat)
   have HOK:=hQ9 hok
   have HNE:=hQ9 hne
   have HLW:=hQ9 hlow
   have hwz:=hg.size
   have HWZ:=hQ9 hwz
   have HMV:=hQ9 hmv
   have HAT:=hQ9 (fun S hS=>hat S hS)
   have HSO:=hQ9 hSok
   clear hok hne hlow hmv hat hSok hSat hwz
   go_wp2_with(with_reducible refine xh rfl 70 (.tmp 14) rfl (ad.add (i*23)) rfl S.C.toList _ hm hut rfl SIS.out ?_;simp only [zT9])
   refine(CCP.out).mono ?_
   rintro e w3 ⟨A2,c2,rfl,hat2,hfr2,gg⟩
   have G3:=zb hg gg
   have hrow3:=zo (S:=fun _=>False) hrow (zF gg) (fun g _ h=>h)
   have hsz3:=G3.size
   have hsz:(S.mv A2 c2).C.size=23:=rfl
   have HAT3:=hQ9 (fun T hT=>(HAT.out T hT).gr gg)
   have HOB:=hQ9 (zN hrow)
   have hgz:=gg.size
   have HFR:Hid (∀ ad,A2=some ad→S.l=[]∨wr.heap.size≤ad.block):=hQ9 (fun ad h=>.inr (hfr2 ad h))
   clear hrow hm gg hg CCP HAT
   go_wp2_with(first
    | (at_builtin;rw [xP];refine zO _ rfl (.tmp 11) (.tmp 17) 104 rfl w.heap.size 79 i0 (.agg (#[.int .u64 0,.int .i64 0,.int .i64 0,.int .i64 0,.int .u64 0,.int .u64 0,.int .u64 0,.int .u64 0,.int .u64 0,.int .u64 0,.int .u64 0,.int .u64 0,.int .u64 0,.int .u64 0,.int .u64 0,.int .u64 0,.int .u64 0,.int .u64 0,.int .u64 0,.int .u64 0,.int .u64 0,.int .u64 0,.slice none 0 0]:Array Value)) 23 200 Tryz.underlying104 hi hz0 hz1 hz2 rfl (by decide) _ _ _ rfl (hrow3.alloc _) ⟨w3.heap.size,0,none⟩ 1 1 (S.mv A2 c2).C.toList rfl rfl (fun j u hj=>yg w3 (S.mv A2 c2).C 79 j u hj) (S.mv A2 c2).one' (by unfold maxLen;omega) (by omega) (by simp;omega) ?_;intro v' w5 hown5 hgrow5 hob5))
   have ga:=ze (za w3) (.cells (S.mv A2 c2).C 79)
   go_roundw
   case rel =>
    refine⟨i+1,M++[S.mv A2 c2],by omega,by go_num,by rw [HTS.out];exact HMV.out.snoc S A2 c2,?_,?_,?_,?_,by rw [xp];exact hown5,(ze G3 _).grown hgrow5 (by simp;omega) (zu hrow3)⟩
    ·intro T hT
     rcases List.mem_append.1 hT with h | h
     ·exact HOK.out T h
     ·obtain rfl:T=S.mv A2 c2:=by simpa using h
      exact AP.mv_ok HSO.out _ _
    ·intro T hT
     rcases List.mem_append.1 hT with h | h
     ·exact yO ((HAT3.out T h).gr ga) hgrow5 (fun ad e g hg=>HNE.out T h ad e g hg)
     ·obtain rfl:T=S.mv A2 c2:=by simpa using h
      exact yO (hat2.gr ga) hgrow5 (fun ad e g hg=>by
       rcases HFR.out ad e with h1 | h1
       ·exact .inl h1
       ·have:=(HOB.out g hg).2
        exact .inr (by omega))
    ·intro T hT ad e g hg
     have hlt9:T.l=[]∨ad.block<(w3.alloc (.cells (S.mv A2 c2).C 79)).heap.size:=by
      rcases List.mem_append.1 hT with h | h
      ·exact yJ ((HAT3.out T h).gr ga) ad e
      ·obtain rfl:T=S.mv A2 c2:=by simpa using h
       exact yJ (hat2.gr ga) ad e
     rcases hob5 with h3 | h3
     ·rw [h3]at hg
      rcases List.mem_append.1 hT with h | h
      ·exact HNE.out T h ad e g hg
      ·obtain rfl:T=S.mv A2 c2:=by simpa using h
       rcases HFR.out ad e with h1 | h1
       ·exact .inl h1
       ·have:=(HOB.out g hg).2
        exact .inr (by omega)
     ·rw [h3]at hg;injection hg with hg
      rcases hlt9 with h1 | h1
      ·exact .inl h1
      ·exact .inr (by omega)
    ·intro T hT ad e
     rcases List.mem_append.1 hT with h | h
     ·exact HLW.out T h ad e
     ·obtain rfl:T=S.mv A2 c2:=by simpa using h
      rcases HFR.out ad e with h1 | h1
      ·exact .inl h1
      ·exact .inr (Nat.le_trans HWZ.out h1)
   case measure=>simp [Go.RowKit.intOf];omega
  ·obtain rfl:i=L.length:=by omega
   rw [List.take_length]at hmv
   obtain⟨B,c',rfl,hB,hc1,hc2,hbB⟩:=y6 hrow hmv.len
   go_wp2_with fail
   go_ret
   exact⟨B,c',M,rfl,hmv,⟨hB,hok,hat⟩,hc1,hc2,fun ad e=>(hbB ad e).1,hlow,hg⟩
open Go.ChangeShapes Go.WideShapes Go.Deep
instance:Inhabited AP:=⟨⟨0,0,0,0,fun _=>0,none,0,[]⟩⟩
section
variable {H : Type} {enc : TypeId × Value → H} {W : World}
theorem zp3 {n:Nat} {cs:List Value} {x:DataW H × List MemPlace} (h:DataW.trod enc Tryz.prog W 0 (fun _=>true) true n 70 cs=some x) :
 ∃ S:AP,cs=S.C.toList∧(S.l.length≤1000→S.ok)∧S.at W:=by
 obtain⟨xs,m,_,_,hl,hlen,hh⟩:=DataW.trod_struct Tryz.underlying70 h
 rw [show Tryz.prog.cellsOf 70=23 by kernel_rfl]at hl
 have ci:Tryz.prog.cellsOf 3=1:=by kernel_rfl
 have cu:Tryz.prog.cellsOf 65=1:=by kernel_rfl
 have cg:Tryz.prog.cellsOf 68=21:=by kernel_rfl
 obtain⟨y0,y1,y2,rfl⟩:∃ a b c,xs=[a,b,c]:=by
  match xs,(show xs.length=3 from hlen)with
  | [a,b,c],_=>exact⟨a,b,c,rfl⟩
 have h0:DataW.trod enc Tryz.prog W 0 (fun _=>true) true m 65 ((cs.drop 0).take (Tryz.prog.cellsOf 65))=_:=hh 0 _ rfl
 have h1:DataW.trod enc Tryz.prog W 0 (fun _=>true) true m 3 ((cs.drop 1).take (Tryz.prog.cellsOf 3))=_:=hh 1 _ rfl
 have h2:DataW.trod enc Tryz.prog W 0 (fun _=>true) true m 68 ((cs.drop 2).take (Tryz.prog.cellsOf 68))=_:=hh 2 _ rfl
 simp only [ci,cu,cg,List.getElem?_cons_zero,List.getElem?_cons_succ]at h0 h1 h2
 obtain⟨z,e0,_,i0⟩:=DataW.trod_int Tryz.underlying65 h0
 obtain⟨wh,e1,_,i1⟩:=DataW.trod_int Tryz.underlying3 h1
 obtain⟨who,lf,s,A,c,l,e2,w1,w2,hs,hc,hm,hr,hz⟩:=ze9 h2
 obtain⟨cm,rfl,hcm⟩:=qA i0
 refine⟨⟨cm,wh,who,lf,s,A,c,l⟩,?_,fun h=>⟨hcm,wf_i64 i1,w1,w2,hs,h,hz⟩,hr⟩
 have k0:=yz cs 0 1
 have k1:=yz cs 1 1
 have k2:=yz cs 2 21
 rw [e0]at k0
 rw [e1]at k1
 rw [e2,show cs.drop (2+21)=[] from List.drop_eq_nil_of_le (by omega)]at k2
 rw [show 1+1=2 from rfl,k2]at k1
 rw [show 0+1=1 from rfl,k1]at k0
 rw [List.drop_zero]at k0
 rw [k0]
 rfl
theorem zn1 {r:Reach} {b0:Nat} {v:Value} {d:DataW H} {ps:List MemPlace} (hval:Value.okWide Tryz.prog W r b0 102 v) (h:DataW.Trod enc Tryz.prog W 0 (fun _=>true) true 102 v d ps) :
 ∃(A:Option Addr) (c:Nat) (L:List AP),v=.slice A L.length c∧L.length≤c∧c≤maxLen∧RaG W A L∧(∀ S∈L,S.l.length≤1000→S.ok)∧∀ S∈L,S.at W:=by
 obtain⟨A,l,c,rfl⟩:=okWide_slice Tryz.underlying102 hval
 have hC:Tryz.prog.cellsOf 70=23:=by kernel_rfl
 obtain⟨fuel,hf⟩:=h
 rw [show(Value.slice A l c).cells.toList=[Value.slice A l c] from rfl]at hf
 rcases Deep.open_slice Tryz.underlying102 hf with ⟨h1,_⟩ | ⟨a,len,cap,m,n,D,Pl,h1,hb,hl,hm,hmm,hx,hV⟩
 ·injection h1 with h1
  injection h1 with h1 h2 h3
  subst h1 h2 h3
  exact⟨none,0,[],rfl,Nat.zero_le _,Nat.zero_le _,fun k hk=>absurd hk (by simp),by simp,by simp⟩
 ·injection h1 with h1
  injection h1 with h1 h3 h4
  subst h1 h3 h4
  have hlm:l≤m:=by rw [hmm];split<;>omega
  have key:∀ i,i<l→∃ S:AP,(∀ j v,S.C.toList[j]?=some v→W.cell? ((a.add (i*23)).add j)=some v)∧(S.l.length≤1000→S.ok)∧S.at W:=by
   intro i hi'
   obtain⟨cs',hc,ht'⟩:=hV i (by omega)
   rw [hC]at hc
   obtain⟨_,hcl,hat⟩:=World.cells?_some hc
   obtain⟨S,rfl,w1,w2⟩:=zp3 ht'
   refine⟨S,fun j v hv=>?_,w1,w2⟩
   have hj:j<23:=(List.getElem?_eq_some_iff.1 hv).1
   have:=hat j (by omega)
   rw [hv]at this
   exact this
  obtain⟨L,hL⟩:=choose_lt (α:=AP) (p:=fun i S=>(∀ j v,S.C.toList[j]?=some v→W.cell? ((a.add (i*23)).add j)=some v)∧(S.l.length≤1000→S.ok)∧S.at W) key
  refine⟨some a,c,(List.range l).map L,by simp,by simpa using hl,hm,?_,?_,?_⟩
  ·intro k hk
   have hk':k<l:=by simpa using hk
   obtain⟨h5,_⟩:=hL k hk'
   refine⟨a,rfl,?_,fun j v hv=>h5 j v (by simpa using hv)⟩
   rcases Nat.lt_or_ge a.block W.heap.size with h' | h'
   ·exact h'
   ·have:W.heap[((a.add (k*23)).add 0).block]?=none:=by rw [zy,zy];exact Array.getElem?_eq_none h'
    have h6:=h5 0 _ rfl
    simp only [World.cell?,this]at h6
    cases h6
  ·intro S hS
   obtain⟨i,hi',rfl⟩:=List.mem_map.1 hS
   exact(hL i (by simpa using hi')).2.1
  ·intro S hS
   obtain⟨i,hi',rfl⟩:=List.mem_map.1 hS
   exact(hL i (by simpa using hi')).2.2
end
end Go.Proofs.YtkpnheenacchhaaGreatDoor
namespace Go.Proofs.YtkpnheenacchhaaGreatDoor
open Go.RowKit
theorem zp4 (S:AP) (hS:S.ok) (w:World) (ha:S.at w) :
 Calls Tryz.prog 43 #[.agg S.C] w fun e w'=>∃ A2 c2,e=.returned (.agg (S.mv A2 c2).C)∧(S.mv A2 c2).at w'∧(∀ ad,A2=some ad→w.heap.size≤ad.block)∧Grew w w' :=
 (of_ap S (by have:=hS.len;omega) w ha).mono fun e w' ⟨A2,c2,h1,h2,h3,h4⟩=>⟨A2,c2,h1,h2,h4,h3⟩
theorem zhi:(Tryz.prog.info? 70).map (fun i=>(i.zero,i.size,i.bytes))=some (some (.agg (#[.int .u64 0,.int .i64 0,.int .i64 0,.int .i64 0,.int .u64 0,.int .u64 0,.int .u64 0,.int .u64 0,.int .u64 0,.int .u64 0,.int .u64 0,.int .u64 0,.int .u64 0,.int .u64 0,.int .u64 0,.int .u64 0,.int .u64 0,.int .u64 0,.int .u64 0,.int .u64 0,.int .u64 0,.int .u64 0,.slice none 0 0]:Array Value)),23,200):=by kernel_rfl
theorem zlm (A:Option Addr) (c:Nat) (L:List AP) (hl:L.length≤100000) (w:World) (hL:Aps w A L) :
 Calls Tryz.prog 116 #[.slice A L.length c] w fun e w'=>∃ B c' M,e=.returned (.slice B L.length c')∧MvA L M∧Aps w' B M∧L.length≤c'∧c'≤maxLen∧(∀ ad,B=some ad→w.heap.size≤ad.block)∧(∀ S∈M,∀ ad,S.A=some ad→S.l=[]∨w.heap.size≤ad.block)∧Grew w w':=by
 obtain⟨i0,hi,hz0,hz1,hz2⟩:=info_parts zhi
 have hut:=Tryz.underlying79
 have HL:=hQ9 hL
 have hr:=hL.rd
 clear hL
 go_enter Tryz.func116,Tryz.ntmps116
 go_wp2_with fail
 go_loopw [3,4] (fun rv iv wr=>∃(i:Nat) (M:List AP),i≤L.length∧iv=.int .i64 i∧MvA (L.take i) M∧(∀ S∈M,S.ok)∧(∀ S∈M,S.at wr)∧(∀ S∈M,∀ ad,S.A=some ad→∀ g,rv.ownBlock=some g→S.l=[]∨ad.block≠g)∧(∀ S∈M,∀ ad,S.A=some ad→S.l=[]∨w.heap.size≤ad.block)∧wr.ownsRow w.heap.size 70 23 rv i (apL M).flatten∧Grew w wr) (fun _ i _=>L.length-(Go.RowKit.intOf i).toNat)
 case atStart=>exact⟨0,[],Nat.zero_le _,rfl,by simpa using MvA.nil,by simp,by simp,by simp,by simp,by simpa [apL]using World.ownsRow_nil _ _ _ _,Below.refl _ _⟩
 case round =>
  obtain⟨i,M,hil,rfl,hmv,hok,hat,hne,hlow,hrow,hg⟩:=hrel
  by_cases hlt:i<L.length
  ·obtain⟨q,hA,hq,hm⟩:=RdC.at23 hr hg i hlt
   subst hA
   have hts:L.take (i+1)=L.take i++[L[i]]:=by rw [List.take_succ_eq_append_getElem hlt]
   have HTS:=hQ9 hts
   have hSok:=HL.out.ok L[i] (List.getElem_mem hlt)
   have hSat:=(HL.out.at_ L[i] (List.getElem_mem hlt)).gr hg
   clear hts
   have hi0:(0:Int)≤(i:Int):=by omega
   have hi1:(i:Int)<(L.length:Int):=by omega
   have e4:IntKind.i64.wrap ((i:Int)+1)=(i:Int)+1:=IntWalk.i64_in _ (by omega)
   generalize L[i]=S at *
   have SIS:Hid (zI9 79=some S.C.toList.length):=hQ9 zJ
   have CCP:=hQ9 (zp4 S hSok wr hSat)
   have HOK:=hQ9 hok
   have HNE:=hQ9 hne
   have HLW:=hQ9 hlow
   have hwz:=hg.size
   have HWZ:=hQ9 hwz
   have HMV:=hQ9 hmv
   have HAT:=hQ9 (fun S hS=>hat S hS)
   have HSO:=hQ9 hSok
   clear hok hne hlow hmv hat hSok hSat hwz
   go_wp2_with(with_reducible refine wpList_load_mid rfl 79 (.tmp 14) rfl q (i*23) rfl S.C.toList _ hm hut rfl SIS.out ?_;simp only [zT9])
   refine(CCP.out).mono ?_
   rintro e w3 ⟨A2,c2,rfl,hat2,hfr2,gg⟩
   have G3:=zb hg gg
   have hrow3:=zo (S:=fun _=>False) hrow (zF gg) (fun g _ h=>h)
   have hsz3:=G3.size
   have hsz:(S.mv A2 c2).C.size=23:=rfl
   have HAT3:=hQ9 (fun T hT=>(HAT.out T hT).gr gg)
   have HOB:=hQ9 (zN hrow)
   have hgz:=gg.size
   have HFR:Hid (∀ ad,A2=some ad→S.l=[]∨wr.heap.size≤ad.block):=hQ9 (fun ad h=>.inr (hfr2 ad h))
   clear hrow hm gg hg CCP HAT
   go_wp2_with(first
    | (at_builtin;rw [xP];refine zO _ rfl (.tmp 11) (.tmp 17) 102 rfl w.heap.size 70 i0 (.agg (#[.int .u64 0,.int .i64 0,.int .i64 0,.int .i64 0,.int .u64 0,.int .u64 0,.int .u64 0,.int .u64 0,.int .u64 0,.int .u64 0,.int .u64 0,.int .u64 0,.int .u64 0,.int .u64 0,.int .u64 0,.int .u64 0,.int .u64 0,.int .u64 0,.int .u64 0,.int .u64 0,.int .u64 0,.int .u64 0,.slice none 0 0]:Array Value)) 23 200 Tryz.underlying102 hi hz0 hz1 hz2 rfl (by decide) _ _ _ rfl (hrow3.alloc _) ⟨w3.heap.size,0,none⟩ 1 1 (S.mv A2 c2).C.toList rfl rfl (fun j u hj=>yg w3 (S.mv A2 c2).C 70 j u hj) (S.mv A2 c2).one' (by unfold maxLen;omega) (by omega) (by simp;omega) ?_;intro v' w5 hown5 hgrow5 hob5))
   have ga:=ze (za w3) (.cells (S.mv A2 c2).C 70)
   go_roundw
   case rel =>
    refine⟨i+1,M++[S.mv A2 c2],by omega,by go_num,by rw [HTS.out];exact HMV.out.snoc S A2 c2,?_,?_,?_,?_,by rw [xp];exact hown5,(ze G3 _).grown hgrow5 (by simp;omega) (zu hrow3)⟩
    ·intro T hT
     rcases List.mem_append.1 hT with h | h
     ·exact HOK.out T h
     ·obtain rfl:T=S.mv A2 c2:=by simpa using h
      exact AP.mv_ok HSO.out _ _
    ·intro T hT
     rcases List.mem_append.1 hT with h | h
     ·exact yO ((HAT3.out T h).gr ga) hgrow5 (fun ad e g hg=>HNE.out T h ad e g hg)
     ·obtain rfl:T=S.mv A2 c2:=by simpa using h
      exact yO (hat2.gr ga) hgrow5 (fun ad e g hg=>by
       rcases HFR.out ad e with h1 | h1
       ·exact .inl h1
       ·have:=(HOB.out g hg).2
        exact .inr (by omega))
    ·intro T hT ad e g hg
     have hlt9:T.l=[]∨ad.block<(w3.alloc (.cells (S.mv A2 c2).C 70)).heap.size:=by
      rcases List.mem_append.1 hT with h | h
      ·exact yJ ((HAT3.out T h).gr ga) ad e
      ·obtain rfl:T=S.mv A2 c2:=by simpa using h
       exact yJ (hat2.gr ga) ad e
     rcases hob5 with h3 | h3
     ·rw [h3]at hg
      rcases List.mem_append.1 hT with h | h
      ·exact HNE.out T h ad e g hg
      ·obtain rfl:T=S.mv A2 c2:=by simpa using h
       rcases HFR.out ad e with h1 | h1
       ·exact .inl h1
       ·have:=(HOB.out g hg).2
        exact .inr (by omega)
     ·rw [h3]at hg;injection hg with hg
      rcases hlt9 with h1 | h1
      ·exact .inl h1
      ·exact .inr (by omega)
    ·intro T hT ad e
     rcases List.mem_append.1 hT with h | h
     ·exact HLW.out T h ad e
     ·obtain rfl:T=S.mv A2 c2:=by simpa using h
      rcases HFR.out ad e with h1 | h1
      ·exact .inl h1
      ·exact .inr (Nat.le_trans HWZ.out h1)
   case measure=>simp [Go.RowKit.intOf];omega
  ·obtain rfl:i=L.length:=by omega
   rw [List.take_length]at hmv
   obtain⟨B,c',rfl,hB,hc1,hc2,hbB⟩:=y6 hrow hmv.len
   go_wp2_with fail
   go_ret
   exact⟨B,c',M,rfl,hmv,⟨hB,hok,hat⟩,hc1,hc2,fun ad e=>(hbB ad e).1,hlow,hg⟩
structure OfA (L:List AP) (b:Nat) (z:World) (v:Value) (f:Option Addr→Nat→Value):Prop where
 out:∃ B k M,v=f B k∧MvA L M∧Aps z B M∧(∀ ad,B=some ad→b≤ad.block)∧(∀ S∈M,∀ ad,S.A=some ad→S.l=[]∨b≤ad.block)
theorem OfA.gr {L:List AP} {b:Nat} {z z':World} {v:Value} {f:Option Addr→Nat→Value} (h:OfA L b z v f) (g:Grew z z'):OfA L b z' v f:=by
 obtain⟨B,k,M,h1,h2,h3,h4,h5⟩:=h.out
 exact⟨B,k,M,h1,h2,h3.gr g,h4,h5⟩
structure OfS (L:List SP) (N:List AP) (b:Nat) (z:World) (v:Value) (f:Option Addr→Nat→Option Addr→Nat→Value):Prop where
 out:∃ B k M D j E,v=f B k D j∧(MvL L M∧Sps z B M∧(∀ ad,B=some ad→b≤ad.block)∧(∀ S∈M,∀ ad,S.A=some ad→S.l=[]∨b≤ad.block))∧(MvA N E∧Aps z D E∧(∀ ad,D=some ad→b≤ad.block)∧(∀ S∈E,∀ ad,S.A=some ad→S.l=[]∨b≤ad.block))
theorem OfS.gr {L:List SP} {N:List AP} {b:Nat} {z z':World} {v:Value} {f:Option Addr→Nat→Option Addr→Nat→Value} (h:OfS L N b z v f) (g:Grew z z'):OfS L N b z' v f:=by
 obtain⟨B,k,M,D,j,E,h1,⟨h2,h3,h4,h5⟩,⟨h6,h7,h8,h9⟩⟩:=h.out
 exact⟨B,k,M,D,j,E,h1,⟨h2,h3.gr g,h4,h5⟩,⟨h6,h7.gr g,h8,h9⟩⟩
theorem zn2 (c:Cm) (A:Option Addr) (k:Nat) (L:List SP) (hl:L.length≤100000) (D:Option Addr) (j:Nat) (N:List AP) (hn:N.length≤100000) (w:World) (hL:Sps w A L) (hN:Aps w D N) :
 Calls Tryz.prog 49 #[.agg (sqC c A L.length k D N.length j)] w fun e w'=>OfS L N w.heap.size w' (match e with | .returned v=>v | _=>undef) (fun B n E m=>.agg (sqC c B L.length n E N.length m))∧(∃ v,e=.returned v)∧Grew w w':=by
 have huc:=Tryz.underlying43
 have hur:=Tryz.underlying111
 have SIC:Hid (zI9 43=some (ctC c A L.length k).toList.length):=hQ9 (by exact yh)
 have SIQ:Hid (zI9 111=some 7):=hQ9 (by kernel_rfl)
 have z1:=(Ag.new w 106 (sqC c A L.length k D N.length j)).grew (ze (za _) (.cells (zQ7:Array Value) 111))
 have y1:=Ag.new (w.alloc (.cells (sqC c A L.length k D N.length j) 106)) 111 (zQ7:Array Value)
 rw [zl]at y1
 have G1:=ze (ze (za w) (.cells (sqC c A L.length k D N.length j) 106)) (.cells (zQ7:Array Value) 111)
 have HBU:∀(B:Option Addr) (n:Nat) (E:Option Addr) (m:Nat),Hid (Tryz.prog.built 111 [(0,.agg (ctC c B L.length n)),(1,.slice E N.length m)]=some (sqC c B L.length n E N.length m)):=fun B n E m=>hQ9 (by kernel_rfl)
 have HSZ:Hid (((w.alloc (.cells (sqC c A L.length k D N.length j) 106)).alloc (.cells (#[.int .i64 0,.int .i64 0,.int .i64 0,.int .i64 0,.int .i64 0,.slice none 0 0,.slice none 0 0]:Array Value) 111)).heap.size=w.heap.size+2):=hQ9 (by simp)
 go_enter Tryz.func49,Tryz.ntmps49
 go_upto_region 1 with fail
 generalize (w.alloc (.cells (sqC c A L.length k D N.length j) 106)).alloc (.cells (zQ7:Array Value) 111)=w1 at *
 have CO:=hQ9 (fun W (g:Grew w1 W)=>zlg c A k L hl W (hL.gr (zb G1 g)))
 have CA:=hQ9 (fun W (g:Grew w1 W)=>zlm D j N hn W (hN.gr (zb G1 g)))
 have HMC:=hQ9 (fun y (g:Grew w1 y)=>sq_ct (z1.grew g))
 have HC6:Hid (∀ y,Grew w1 y→y.cell? ⟨w.heap.size,6,none⟩=some (.slice D N.length j)):=hQ9 (fun y g=>by simpa using (z1.grew g).cell 6 _ rfl)
 clear z1 hL hN
 refine zv 7 (fun ix9=>match ix9 with
  | 0=>fun v _=>v=.pointer (some ⟨w.heap.size,0,none⟩)
  | 1=>fun v _=>v=.agg (ctC c A L.length k)
  | 2=>fun v z=>OfV L w1.heap.size z v (fun B n=>.agg (ctC c B L.length n))
  | 3=>fun v _=>v=.pointer (some ⟨w.heap.size,6,none⟩)
  | 4=>fun v _=>v=.slice D N.length j
  | 5=>fun v z=>OfA N w1.heap.size z v (fun B n=>.slice B N.length n)
  | 6=>fun v z=>OfS L N w1.heap.size z v (fun B n E m=>.agg (sqC c B L.length n E N.length m))
  | _=>fun _ _=>True) (by kernel_rfl) (by kernel_rfl) ?_ ?_ ?_
 ·intro i v x y h hg
  match i,h with
  | 0,h | 1,h | 3,h | 4,h=>exact h
  | 2,h=>exact OfV.gr h hg
  | 5,h=>exact OfA.gr h hg
  | 6,h=>exact OfS.gr h hg
  | m+7,_=>trivial
 ·simp only [actOf,tk1,tk0,dr1,dr0,Act.put,si1,st1,st0,Nat.reduceAdd]
  refine⟨?_,?_,?_,?_,?_,?_,?_,trivial⟩
  ·intro vs y hg hd
   dsimp only
   go_wp2_with fail
   exact⟨rfl,_,rfl,za _,rfl⟩
  ·intro vs y hg hd
   obtain⟨h0,_⟩:=hd
   replace h0:=h0 rfl
   dsimp only
   rw [show vs 0=_ from h0]
   have hm:=HMC.out y hg
   go_wp2_with(with_reducible refine wpList_load_mid rfl 43 (.tmp 3) rfl w.heap.size 0 rfl (ctC c A L.length k).toList _ hm huc rfl SIC.out ?_;simp only [zT9])
   exact⟨rfl,_,rfl,za _,rfl⟩
  ·intro vs y hg hd
   obtain⟨h1,_⟩:=hd
   replace h1:=h1 rfl
   dsimp only
   rw [show vs 1=_ from h1]
   go_wp2_with(go_at_call 69;refine(CO.out y hg).mono ?_;rintro e z ⟨hof,⟨v9,rfl⟩,gz⟩)
   exact⟨rfl,_,rfl,gz,⟨hof.out.choose,hof.out.choose_spec.choose,hof.out.choose_spec.choose_spec.choose,hof.out.choose_spec.choose_spec.choose_spec.1,hof.out.choose_spec.choose_spec.choose_spec.2.1,hof.out.choose_spec.choose_spec.choose_spec.2.2.1,fun ad h=>Nat.le_trans hg.size (hof.out.choose_spec.choose_spec.choose_spec.2.2.2.1 ad h),fun S hS ad h=>(hof.out.choose_spec.choose_spec.choose_spec.2.2.2.2 S hS ad h).imp id (Nat.le_trans hg.size)⟩⟩
  ·intro vs y hg hd
   dsimp only
   go_wp2_with fail
   exact⟨rfl,_,rfl,za _,rfl⟩
  ·intro vs y hg hd
   obtain⟨h3,_⟩:=hd
   replace h3:=h3 rfl
   dsimp only
   rw [show vs 3=_ from h3]
   have hc:=HC6.out y hg
   go_wp2_with fail
   exact⟨rfl,_,rfl,za _,rfl⟩
  ·intro vs y hg hd
   obtain⟨h4,_⟩:=hd
   replace h4:=h4 rfl
   dsimp only
   rw [show vs 4=_ from h4]
   go_wp2_with(go_at_call 116;refine(CA.out y hg).mono ?_;rintro e z ⟨B9,k9,M9,rfl,hmv9,hsp9,hcc1,hcc2,hbB9,hlw9,gz⟩)
   exact⟨rfl,_,rfl,gz,⟨B9,k9,M9,rfl,hmv9,hsp9,fun ad h=>Nat.le_trans hg.size (hbB9 ad h),fun S hS ad h=>(hlw9 S hS ad h).imp id (Nat.le_trans hg.size)⟩⟩
  ·intro vs y hg hd
   obtain⟨h2,h5,_⟩:=hd
   replace h2:=h2 rfl
   replace h5:=h5 rfl
   dsimp only
   obtain⟨B9,k9,M9,e5,hr5⟩:=OfV.out h2
   obtain⟨D9,j9,N9,e8,hr8⟩:=OfA.out h5
   rw [e5,e8]
   have HB9:=HBU B9 k9 D9 j9
   go_wp2_with(with_reducible refine zC rfl 111 #[(0,.tmp 5),(1,.tmp 8)] rfl (sqC c B9 L.length k9 D9 N.length j9) ?_ ?_;· simpa [Act.eval,Act.put]using HB9.out)
   exact⟨rfl,_,rfl,za _,⟨B9,k9,M9,D9,j9,N9,rfl,hr5,hr8⟩⟩
 ·intro vs w2 hg hJ
  have j0:vs 0=.pointer (some ⟨w.heap.size,0,none⟩):=hJ 0 (by decide)
  have j1:vs 1=.agg (ctC c A L.length k):=hJ 1 (by decide)
  have j3:vs 3=.pointer (some ⟨w.heap.size,6,none⟩):=hJ 3 (by decide)
  have j4:vs 4=.slice D N.length j:=hJ 4 (by decide)
  have s5:=hJ 2 (by decide)
  have s8:=hJ 5 (by decide)
  have s9:=hJ 6 (by decide)
  clear hJ
  simp only [actOf,tk1,tk0,dr1,dr0,Act.put,si1,st1,st0,Nat.reduceAdd]
  obtain⟨B9,k9,M9,D9,j9,N9,e9,⟨hmv9,hsp9,hbB9,hlw9⟩,⟨hmn9,han9,hbD9,hln9⟩⟩:=OfS.out s9
  have y2:=y1.grew hg
  have G2:=zb G1 hg
  rw [e9]
  have HTH:Hid (w2.there (w.heap.size+1) 0 (sqC c B9 L.length k9 D9 N.length j9).size):=hQ9 (y2.thereN 7 rfl)
  have HSI:Hid (zI9 111=some (sqC c B9 L.length k9 D9 N.length j9).size):=SIQ
  have HON:=hQ9 (y7 c B9 L.length k9 D9 N.length j9)
  have zf:=Ag.set (vs:=(sqC c B9 L.length k9 D9 N.length j9).toList) y2 rfl
  have Gf:=zh (o:=0) (b:=w.heap.size+1) (sqC c B9 L.length k9 D9 N.length j9).toList G2 (Nat.le_succ _)
  have kf:=zn (sqC c B9 L.length k9 D9 N.length j9).toList (w.heap.size+1) 0 w2
  have HSPS:=hQ9 (hsp9.kpx kf (fun ad2 h e=>by have e:ad2.block=w.heap.size+1:=e;have:=hbB9 ad2 h;have:=HSZ.out;omega) (fun T hT ad2 h=>(hlw9 T hT ad2 h).imp id (fun h1 e=>by have e:ad2.block=w.heap.size+1:=e;have:=HSZ.out;omega)))
  have HAPS:=hQ9 (han9.kpx kf (fun ad2 h e=>by have e:ad2.block=w.heap.size+1:=e;have:=hbD9 ad2 h;have:=HSZ.out;omega) (fun T hT ad2 h=>(hln9 T hT ad2 h).imp id (fun h1 e=>by have e:ad2.block=w.heap.size+1:=e;have:=HSZ.out;omega)))
  have HBB:Hid (∀ ad,B9=some ad→w.heap.size≤ad.block):=hQ9 (fun ad h=>by have:=hbB9 ad h;have:=HSZ.out;omega)
  have HMM:Hid (∀ S∈M9,∀ ad,S.A=some ad→S.l=[]∨w.heap.size≤ad.block):=hQ9 (fun S hS ad h=>(hlw9 S hS ad h).imp id (fun h1=>by have:=HSZ.out;omega))
  have HBD:Hid (∀ ad,D9=some ad→w.heap.size≤ad.block):=hQ9 (fun ad h=>by have:=hbD9 ad h;have:=HSZ.out;omega)
  have HNN:Hid (∀ S∈N9,∀ ad,S.A=some ad→S.l=[]∨w.heap.size≤ad.block):=hQ9 (fun S hS ad h=>(hln9 S hS ad h).imp id (fun h1=>by have:=HSZ.out;omega))
  clear s5 s8 s9 hsp9 han9 hbB9 hlw9 hbD9 hln9 kf y1 y2 e9
  go_wp2_with(with_reducible refine wpList_store_mid rfl 111 (.tmp 2) (.tmp 9) rfl (w.heap.size+1) 0 (sqC c B9 L.length k9 D9 N.length j9) rfl rfl HTH.out HSI.out HON.out ?_)
  exact bodyPost_ret (zL Tryz.results49 _ _ (w.heap.size+1) _ _ rfl zf hur rfl SIQ.out) rfl ⟨⟨B9,k9,M9,D9,j9,N9,rfl,⟨hmv9,HSPS.out,HBB.out,HMM.out⟩,⟨hmn9,HAPS.out,HBD.out,HNN.out⟩⟩,⟨_,rfl⟩,Gf⟩
theorem zcz {K:KP} {S:AP} (hK:K.ok) (hS:S.ok) (w:World) (hs:Std w) (hk:K.at w) (ha:S.at w) :
 Calls Tryz.prog 37 #[.agg K.C,.agg S.C] w fun e w'=>e=.returned (.int .i64 (kvS K S))∧Grew w w' :=
 zf7 K.f hK.f K.R K.RA K.Rc K.h S.cm S.who S.sw S.lf S.s S.A S.c S.l hS.cm hS.who hS.sw hS.lf hS.len hS.s hS.l hK.len w hs hk ha
noncomputable def sqR (K:KP) (c:Cm) (LC:List SP) (L:List AP):Int:=if mvE K c LC=0 then cqA K (ctD c LC) L else mvE K c LC
theorem jj {K:KP} {c:Cm} {L:List SP} (h:mvE K c L=0):okC c:=by
 by_cases hc:okC c
 ·exact hc
 ·unfold mvE at h
  rw [if_neg hc]at h
  exact absurd h (by decide)
theorem zc0 {w:World} {b:Nat} {cc:Cm} {B:Option Addr} {n k:Nat} {D:Option Addr} {m j:Nat} (h:Ag w b (sqC cc B n k D m j).toList):w.rangeAt b 0 (ctC cc B n k).toList:=sq_ct h
theorem zfc (c:Cm) {K:KP} (hK:K.ok) (CA:Option Addr) (ck:Nat) (LC:List SP) (hlc:LC.length≤40) (A:Option Addr) (k:Nat) (L:List AP) (hl:L.length≤40) (w:World) (hS:Std w) (hk:K.at w) (hLC:SpsG w CA LC) (hL:ApsG w A L) :
 Calls Tryz.prog 52 #[.agg K.C,.agg (sqC c CA LC.length ck A L.length k)] w fun e w'=>e=.returned (.int .i64 (sqR K c LC L))∧Grew w w':=by
 have huk:=Tryz.underlying64
 have huc:=Tryz.underlying36
 have hus:=Tryz.underlying70
 have SIK:Hid (zI9 64=some K.C.toList.length):=hQ9 ku
 have z0:=(Ag.new w 64 K.C).grew (ze (za _) (.cells (sqC c CA LC.length ck A L.length k) 111))
 have z1:=Ag.new (w.alloc (.cells K.C 64)) 111 (sqC c CA LC.length ck A L.length k)
 rw [zl]at z1
 have G0:=ze (ze (za w) (.cells K.C 64)) (.cells (sqC c CA LC.length ck A L.length k) 111)
 have hm1:=zc0 z1
 have hmk:=z0.cell
 have HCR:Hid (∀ y,Ag y (w.heap.size+1) (sqC c CA LC.length ck A L.length k).toList→y.rangeAt (w.heap.size+1) 0 (ctC c CA LC.length ck).toList):=hQ9 (fun y h=>zc0 h)
 have CC:=hQ9 (fun W (g:Grew w W)=>jG c hK CA ck LC hlc W (hk.gr g) (hLC.gr g))
 have cd0:Hid (okC c→∀ W,Grew w W→Calls Tryz.prog 115 #[.agg (ctC c CA LC.length ck)] W fun e w'=>e=.returned (.int .u64 (ctD c LC:Nat))∧Grew W w'):=hQ9 (fun hc W g=>ji c (xj hc) CA ck LC hlc W (hLC.gr g))
 obtain⟨gc,hgc⟩:∃ g,ctC c CA LC.length ck=g:=⟨_,rfl⟩
 have SIC:Hid (zI9 36=some gc.toList.length):=hQ9 (by rw [←hgc];exact yZ)
 rw [hgc]at CC cd0 HCR hm1
 have HSS:=hQ9 hS
 have HKA:=hQ9 hk
 have HLA:=hQ9 hL
 have HLL:=hQ9 hl
 clear hk hL hl hgc hLC hlc hS
 obtain⟨mv,hmv⟩:∃ v,mvE K c LC=v:=⟨_,rfl⟩
 rw [hmv]at CC
 by_cases hc:mv=0
 rotate_left
 ·have HR:Hid (sqR K c LC L=mv):=hQ9 (by unfold sqR;rw [hmv,if_neg hc])
  have e11:(mv != 0)=true:=by simpa using hc
  clear hc z0 z1 hmv
  generalize sqC c CA LC.length ck A L.length k=gt at *
  go_enter Tryz.func52,Tryz.ntmps52
  go_wp2_with(first | (with_reducible refine wpList_load_mid rfl 64 (.tmp 2) rfl w.heap.size 0 rfl K.C.toList _ hmk huk rfl SIK.out ?_;simp only [zT9]) | (with_reducible refine wpList_load_mid rfl 36 (.tmp 8) rfl (w.heap.size+1) 0 rfl gc.toList _ hm1 huc rfl SIC.out ?_;simp only [zT9]))
  refine(CC.out _ G0).mono ?_
  rintro e w2 ⟨rfl,gg⟩
  go_wp2_with fail
  go_ret
  exact⟨by rw [HR.out];rfl,zb G0 gg⟩
 subst hc
 have cd:=cd0.out (jj hmv)
 obtain⟨D,hD⟩:∃ D,ctD c LC=D:=⟨_,rfl⟩
 rw [hD]at cd
 have hf:=hK.f
 obtain⟨Q,hQ⟩:∃ n:Nat,(2*K.f+1).toNat=n:=⟨_,rfl⟩
 have eQ:2*K.f+1=(Q:Int):=by omega
 have HRV:Hid (sqR K c LC L=if L.length=Q then chqA K D none L else 8):=hQ9 (by unfold sqR;rw [if_pos hmv];unfold cqA;rw [hD,hQ])
 have HK:=hQ9 hK
 have CQ0:∀ W,Calls Tryz.prog 114 #[.int .i64 K.f] W fun e w'=>e=.returned (.int .i64 (2*K.f+1))∧Grew W w':=fun W=>(rq_ok K.f (by omega) W).mono (by rintro e z ⟨rfl,rfl⟩;exact⟨rfl,za _⟩)
 rw [eQ]at CQ0
 have CQ:=hQ9 CQ0
 have CD:=hQ9 cd
 clear cd hD hf hK eQ hQ CQ0 hmv cd0
 go_enter Tryz.func52,Tryz.ntmps52
 go_wp2_with(first | (with_reducible refine wpList_load_mid rfl 64 (.tmp 2) rfl w.heap.size 0 rfl K.C.toList _ hmk huk rfl SIK.out ?_;simp only [zT9]) | (with_reducible refine wpList_load_mid rfl 36 (.tmp 8) rfl (w.heap.size+1) 0 rfl gc.toList _ hm1 huc rfl SIC.out ?_;simp only [zT9]))
 refine(CC.out _ G0).mono ?_
 rintro e w1 ⟨rfl,gg⟩
 have z0:=z0.grew gg
 have z1:=z1.grew gg
 have G1:=zb G0 gg
 clear hm1 hmk gg CC G0
 have hcF:w1.cell? ⟨w.heap.size,0,none⟩=some (.int .i64 K.f):=by simpa using z0.cell 0 _ rfl
 have hc5:w1.cell? ⟨w.heap.size+1,6,none⟩=some (.slice A L.length k):=by simpa using z1.cell 6 _ rfl
 have HC5:=hQ9 hc5
 have HZ0:=hQ9 z0
 have HZ1:=hQ9 z1
 have YF:∀ y:Gr w1,y.val.cell? ⟨w.heap.size,0,none⟩=some (.int .i64 K.f):=fun y=>zX hcF y.ok
 have Y5:∀ y:Gr w1,y.val.cell? ⟨w.heap.size+1,6,none⟩=some (.slice A L.length k):=fun y=>zX hc5 y.ok
 clear z0 z1 hcF hc5
 by_cases hlq:L.length=Q
 rotate_left
 ·have e19:((L.length:Int) != (Q:Int))=true:=by simp;omega
  have HR:Hid (sqR K c LC L=8):=hQ9 (by rw [HRV.out,if_neg hlq])
  clear hlq
  generalize sqC c CA LC.length ck A L.length k=gt at *
  go_upto_region 4 with fail
  refine zg (za w1) (by kernel_rfl) (by kernel_rfl) ?_
  repeat (first
   | (go_big_quiet_step (first
    | (go_at_call 114;exact callG (CQ.out _))
    | fail)))
  refine wpQuiet_nil ?_
  rintro wx ⟨⟨wx',gx⟩,rfl⟩
  go_wp2_with fail
  go_ret
  exact⟨by rw [HR.out];rfl,zb G1 gx⟩
 have e19:((L.length:Int) != (Q:Int))=false:=by simp [hlq]
 have HR:Hid (sqR K c LC L=chqA K D none L):=hQ9 (by rw [HRV.out,if_pos hlq])
 clear hlq
 have HCMD:Hid (∀ y,Grew w1 y→y.rangeAt (w.heap.size+1) 0 gc.toList):=hQ9 (fun y g=>HCR.out y (HZ1.out.grew g))
 generalize sqC c CA LC.length ck A L.length k=gt at *
 go_upto_region 4 with fail
 refine zg (za w1) (by kernel_rfl) (by kernel_rfl) ?_
 repeat (first
  | (go_big_quiet_step (first
   | (go_at_call 114;exact callG (CQ.out _))
   | fail)))
 refine wpQuiet_nil ?_
 rintro wx ⟨⟨wx',gx⟩,rfl⟩
 have GX:=hQ9 gx
 have HG1:=hQ9 G1
 clear YF Y5 e19 gx
 generalize w1=wo at *
 go_wp2_with fail
 go_loopw [6] (fun iv wr=>∃ i:Nat,i≤L.length∧iv=.int .i64 (i:Int)∧Hid (chqA K D none L=chqA K D (prevA L i) (L.drop i))∧Grew wo wr) (fun iv _=>L.length-(Go.RowKit.intOf iv).toNat)
 case atStart=>exact⟨0,Nat.zero_le _,rfl,hQ9 rfl,GX.out⟩
 case round =>
  obtain⟨i,hi,rfl,HJ,g2⟩:=hrel
  have hc5:wr.cell? ⟨w.heap.size+1,6,none⟩=some (.slice A L.length k):=zX HC5.out g2
  by_cases hlt:i<L.length
  rotate_left
  ·obtain rfl:i=L.length:=by omega
   have HR0:Hid (sqR K c LC L=0):=hQ9 (by rw [HR.out,HJ.out,List.drop_length];rw [chqA])
   clear hlt hi
   go_wp2_with fail
   go_ret
   exact⟨by rw [HR0.out];rfl,zb HG1.out g2⟩
  have h1:(i:Int)<(L.length:Int):=by omega
  have h0:(0:Int)≤(i:Int):=by omega
  have hl9:=HLL.out
  have e9i:IntKind.i64.wrap ((i:Int)+1)=((i+1:Nat):Int):=by rw [IntWalk.i64_in _ (by omega)];omega
  have GJ:=hQ9 g2
  have HLW:=hQ9 (HLA.out.gr (zb HG1.out g2))
  obtain⟨ad,hA,hql,hr⟩:=HLW.out.rd i hlt
  have hdr:L.drop i=L[i]::L.drop (i+1):=by rw [List.drop_eq_getElem_cons hlt]
  have hnx:prevA L (i+1)=some (AP.who L[i]):=by show(L[i]?).map AP.who=_;rw [List.getElem?_eq_getElem hlt];rfl
  have HYS:Hid (∀ y:Gr wr,∀ j u,L[i].C.toList[j]?=some u→y.val.cell? ((ad.add (i*23)).add j)=some u):=hQ9 (fun y j u hj=>(y.ok.cell (p:=(ad.add (i*23)).add j) (by rw [zy,zy];exact hql)).trans (hr j u hj))
  have hs1:∀ y:Gr wr,y.val.cell? ⟨(ad.add (i*23)).block,(ad.add (i*23)).off+1,none⟩=some (.int .i64 L[i].who):=fun y=>by
   have:=HYS.out y 1 (.int .i64 L[i].who) rfl
   rwa [kG _ (by decide)]at this
  have hs0:∀ y:Gr wr,y.val.cell? (ad.add (i*23))=some (.int .u64 (L[i].cm:Int)):=fun y=>by
   have:=HYS.out y 0 (.int .u64 (L[i].cm:Int)) rfl
   rwa [show(ad.add (i*23)).add 0=ad.add (i*23) from by simp [Addr.add]]at this
  have HPV:Hid (∀ j,i=j+1→∃ x:Int,prevA L i=some x∧∀ y:Gr wr,y.val.cell? ⟨(ad.add (j*23)).block,(ad.add (j*23)).off+1,none⟩=some (.int .i64 x)):=hQ9 (fun j hj=>by
   have hjl:j<L.length:=by omega
   refine⟨L[j].who,by rw [hj];show(L[j]?).map AP.who=_;rw [List.getElem?_eq_getElem hjl];rfl,fun y=>?_⟩
   obtain⟨ad2,hA2,hq2,hr2⟩:=HLW.out.rd j hjl
   rw [hA]at hA2;injection hA2 with hA2;subst hA2
   have h3:=hr2 1 (.int .i64 L[j].who) rfl
   rw [kG _ (by decide)]at h3
   exact(y.ok.cell (p:=⟨(ad.add (j*23)).block,(ad.add (j*23)).off+1,none⟩) (by show(ad.add (j*23)).block<_;rw [zy];exact hq2)).trans h3)
  have HOKS:Hid L[i].ok:=hQ9 (HLW.out.ok _ (List.getElem_mem _))
  have HATS:Hid (∀ y:Gr wr,L[i].at y.val):=hQ9 (fun y=>(HLW.out.at_ _ (List.getElem_mem _)).gr y.ok)
  have HDR:=hQ9 hdr
  have HNX:=hQ9 hnx
  subst hA
  clear hr g2 hi hql hdr hnx
  generalize L[i]=S at *
  have HI:=hQ9 hlt
  clear hlt
  have SIS:Hid (zI9 70=some S.C.toList.length):=hQ9 xn
  have YK:Hid (∀ y:Gr wr,y.val.rangeAt w.heap.size 0 K.C.toList):=hQ9 (fun y=>(HZ0.out.grew (zb GJ.out y.ok)).cell)
  have YM:Hid (∀ y:Gr wr,y.val.rangeAt (w.heap.size+1) 0 gc.toList):=hQ9 (fun y=>HCMD.out y.val (zb GJ.out y.ok))
  have Y5:∀ y:Gr wr,y.val.cell? ⟨w.heap.size+1,6,none⟩=some (.slice (some ad) L.length k):=fun y=>zX hc5 y.ok
  have CV:Hid (∀ y:Gr wr,Calls Tryz.prog 37 #[.agg K.C,.agg S.C] y.val fun e w'=>e=.returned (.int .i64 (kvS K S))∧Grew y.val w'):=hQ9 (fun y=>zcz HK.out HOKS.out y.val (HSS.out.grew (zb HG1.out (zb GJ.out y.ok))) (HKA.out.gr (zb HG1.out (zb GJ.out y.ok))) (HATS.out y))
  have HB9:Hid ((prevA L i).any (fun x=>decide (S.who≤x))=true→sqR K c LC L=10):=hQ9 (fun h=>by rw [HR.out,HJ.out,HDR.out,zct h])
  have HE9:Hid ((prevA L i).any (fun x=>decide (S.who≤x))=false→vdA K D S≠0→sqR K c LC L=vdA K D S):=hQ9 (fun h h2=>by rw [HR.out,HJ.out,HDR.out,qe h h2])
  have HS9:Hid ((prevA L i).any (fun x=>decide (S.who≤x))=false→vdA K D S=0→chqA K D none L=chqA K D (prevA L (i+1)) (L.drop (i+1))):=hQ9 (fun h h2=>by rw [HJ.out,HDR.out,yY h h2,HNX.out])
  by_cases hz:i=0
  ·have b0:decide (0<i)=false:=zF9 (by omega)
   have HPA:Hid ((prevA L i).any (fun x=>decide (S.who≤x))=false):=hQ9 (by rw [hz];rfl)
   clear hz HPV
   go_upto_region 9 with fail
   refine zg (za wr) (by kernel_rfl) (by kernel_rfl) ?_
   repeat (first
    | (go_big_quiet_step (first
     | fail)))
   refine wpQuiet_nil ?_
   rintro wx ⟨⟨wx',gx⟩,rfl⟩
   have GY:=hQ9 (zb GJ.out gx)
   have GX9:=hQ9 gx
   clear gx b0
   generalize wr=wj at *
   by_cases hd:S.cm=D
   rotate_left
   ·have e54:((S.cm:Int) != (D:Int))=true:=by simp;omega
    have hv3:vdA K D S=3:=by unfold vdA;rw [if_neg hd]
    have HR1:=hQ9 (HE9.out HPA.out (by rw [hv3];decide))
    rw [hv3]at HR1
    clear hd hv3
    go_upto_region 11 with fail
    have hs0x:∀ y:Gr wx,y.val.cell? (ad.add (i*23))=some (.int .u64 (S.cm:Int)):=fun y=>hs0 ⟨y.val,zb GX9.out y.ok⟩
    have CDx:Hid (∀ y:Gr wx,Calls Tryz.prog 115 #[.agg gc] y.val fun e w'=>e=.returned (.int .u64 (D:Nat))∧Grew y.val w'):=hQ9 (fun y=>CD.out y.val (zb HG1.out (zb GY.out y.ok)))
    have YMx:Hid (∀ y:Gr wx,y.val.rangeAt (w.heap.size+1) 0 gc.toList):=hQ9 (fun y=>YM.out ⟨y.val,zb GX9.out y.ok⟩)
    have Y5x:∀ y:Gr wx,y.val.cell? ⟨w.heap.size+1,6,none⟩=some (.slice (some ad) L.length k):=fun y=>Y5 ⟨y.val,zb GX9.out y.ok⟩
    refine zg (za wx) (by kernel_rfl) (by kernel_rfl) ?_
    repeat (first
     | (go_big_quiet_want;refine zi 36 (.tmp 52) rfl (w.heap.size+1) 0 rfl gc.toList _ YMx.out huc rfl SIC.out ?_;simp only [Act.put,List.setIfInBounds_toArray,List.set_cons_succ,List.set_cons_zero,zT9];go_big_quiet_on)
     | (go_big_quiet_step (first
      | (go_at_call 115;exact callG (CDx.out _))
      | fail)))
    refine wpQuiet_nil ?_
    rintro wy ⟨⟨wy',gy⟩,rfl⟩
    go_wp2_with fail
    go_ret
    exact⟨by rw [HR1.out];rfl,zb HG1.out (zb GY.out gy)⟩
   have e54:((S.cm:Int) != (D:Int))=false:=by simp [hd]
   have hvv:vdA K D S=kvS K S:=by unfold vdA;rw [if_pos hd]
   have HVV:=hQ9 hvv
   clear hd hvv
   go_upto_region 11 with fail
   have hs0x:∀ y:Gr wx,y.val.cell? (ad.add (i*23))=some (.int .u64 (S.cm:Int)):=fun y=>hs0 ⟨y.val,zb GX9.out y.ok⟩
   have CDx:Hid (∀ y:Gr wx,Calls Tryz.prog 115 #[.agg gc] y.val fun e w'=>e=.returned (.int .u64 (D:Nat))∧Grew y.val w'):=hQ9 (fun y=>CD.out y.val (zb HG1.out (zb GY.out y.ok)))
   have YMx:Hid (∀ y:Gr wx,y.val.rangeAt (w.heap.size+1) 0 gc.toList):=hQ9 (fun y=>YM.out ⟨y.val,zb GX9.out y.ok⟩)
   have Y5x:∀ y:Gr wx,y.val.cell? ⟨w.heap.size+1,6,none⟩=some (.slice (some ad) L.length k):=fun y=>Y5 ⟨y.val,zb GX9.out y.ok⟩
   refine zg (za wx) (by kernel_rfl) (by kernel_rfl) ?_
   repeat (first
    | (go_big_quiet_want;refine zi 36 (.tmp 52) rfl (w.heap.size+1) 0 rfl gc.toList _ YMx.out huc rfl SIC.out ?_;simp only [Act.put,List.setIfInBounds_toArray,List.set_cons_succ,List.set_cons_zero,zT9];go_big_quiet_on)
    | (go_big_quiet_step (first
     | (go_at_call 115;exact callG (CDx.out _))
     | fail)))
   refine wpQuiet_nil ?_
   rintro wy ⟨⟨wy',gy⟩,rfl⟩
   have GZ:=hQ9 (zb GX9.out gy)
   clear gy e54
   obtain⟨va,hva⟩:∃ v,kvS K S=v:=⟨_,rfl⟩
   rw [hva]at HVV CV
   by_cases hv0:va=0
   ·have e63:(va != 0)=false:=by simp [hv0]
    have HN:=hQ9 (HS9.out HPA.out (by rw [HVV.out];exact hv0))
    clear hv0 hva
    go_upto_region 13 with fail
    have HYSx:Hid (∀ y:Gr wy,∀ j u,S.C.toList[j]?=some u→y.val.cell? ((ad.add (i*23)).add j)=some u):=hQ9 (fun y=>HYS.out ⟨y.val,zb GZ.out y.ok⟩)
    have YKx:Hid (∀ y:Gr wy,y.val.rangeAt w.heap.size 0 K.C.toList):=hQ9 (fun y=>YK.out ⟨y.val,zb GZ.out y.ok⟩)
    have Y5y:∀ y:Gr wy,y.val.cell? ⟨w.heap.size+1,6,none⟩=some (.slice (some ad) L.length k):=fun y=>Y5 ⟨y.val,zb GZ.out y.ok⟩
    have CV2:Hid (∀ y:Gr wy,Calls Tryz.prog 37 #[.agg K.C,.agg S.C] y.val fun e w'=>e=.returned (.int .i64 va)∧Grew y.val w'):=hQ9 (fun y=>CV.out ⟨y.val,zb GZ.out y.ok⟩)
    refine zg (za wy) (by kernel_rfl) (by kernel_rfl) ?_
    repeat (first
     | (go_big_quiet_want;refine zi 64 (.tmp 2) rfl (w.heap.size) 0 rfl K.C.toList _ YKx.out huk rfl SIK.out ?_;simp only [Act.put,List.setIfInBounds_toArray,List.set_cons_succ,List.set_cons_zero,zT9];go_big_quiet_on)
     | (go_big_quiet_want;refine zR 70 (.tmp 60) rfl (ad.add (i*23)) rfl S.C.toList _ HYSx.out hus rfl SIS.out ?_;simp only [Act.put,List.setIfInBounds_toArray,List.set_cons_succ,List.set_cons_zero,zT9];go_big_quiet_on)
     | (go_big_quiet_step (first
      | (go_at_call 37;exact callG (CV2.out _))
      | fail)))
    refine wpQuiet_nil ?_
    rintro wz ⟨⟨wz',gz⟩,rfl⟩
    go_wp2_with fail
    go_roundw
    case rel=>exact⟨i+1,HI.out,by go_num,HN,zb GJ.out (zb GZ.out gz)⟩
    case measure=>have:=HI.out;simp [Go.RowKit.intOf]<;>omega
   ·have e63:(va != 0)=true:=by simpa using hv0
    have HR1:=hQ9 (HE9.out HPA.out (by rw [HVV.out];exact hv0))
    rw [HVV.out]at HR1
    clear hv0 hva
    go_upto_region 13 with fail
    have HYSx:Hid (∀ y:Gr wy,∀ j u,S.C.toList[j]?=some u→y.val.cell? ((ad.add (i*23)).add j)=some u):=hQ9 (fun y=>HYS.out ⟨y.val,zb GZ.out y.ok⟩)
    have YKx:Hid (∀ y:Gr wy,y.val.rangeAt w.heap.size 0 K.C.toList):=hQ9 (fun y=>YK.out ⟨y.val,zb GZ.out y.ok⟩)
    have Y5y:∀ y:Gr wy,y.val.cell? ⟨w.heap.size+1,6,none⟩=some (.slice (some ad) L.length k):=fun y=>Y5 ⟨y.val,zb GZ.out y.ok⟩
    have CV2:Hid (∀ y:Gr wy,Calls Tryz.prog 37 #[.agg K.C,.agg S.C] y.val fun e w'=>e=.returned (.int .i64 va)∧Grew y.val w'):=hQ9 (fun y=>CV.out ⟨y.val,zb GZ.out y.ok⟩)
    refine zg (za wy) (by kernel_rfl) (by kernel_rfl) ?_
    repeat (first
     | (go_big_quiet_want;refine zi 64 (.tmp 2) rfl (w.heap.size) 0 rfl K.C.toList _ YKx.out huk rfl SIK.out ?_;simp only [Act.put,List.setIfInBounds_toArray,List.set_cons_succ,List.set_cons_zero,zT9];go_big_quiet_on)
     | (go_big_quiet_want;refine zR 70 (.tmp 60) rfl (ad.add (i*23)) rfl S.C.toList _ HYSx.out hus rfl SIS.out ?_;simp only [Act.put,List.setIfInBounds_toArray,List.set_cons_succ,List.set_cons_zero,zT9];go_big_quiet_on)
     | (go_big_quiet_step (first
      | (go_at_call 37;exact callG (CV2.out _))
      | fail)))
    refine wpQuiet_nil ?_
    rintro wz ⟨⟨wz',gz⟩,rfl⟩
    go_wp2_with fail
    go_ret
    exact⟨by rw [HR1.out];rfl,zb HG1.out (zb GJ.out (zb GZ.out gz))⟩
  obtain⟨j,hj⟩:∃ j,i=j+1:=⟨i-1,by omega⟩
  obtain⟨x,hpx,hs2⟩:=HPV.out j hj
  have b0:decide (0<i)=true:=decide_eq_true (by omega)
  have e39:IntKind.i64.wrap ((i:Int)-1)=(j:Int):=by rw [IntWalk.i64_in _ (by omega)];omega
  have hj0:(0:Int)≤(j:Int):=by omega
  have hj1:(j:Int)<(L.length:Int):=by omega
  clear hz HPV
  by_cases hle:S.who≤x
  ·have e43:decide (S.who≤x)=true:=decide_eq_true hle
   have HR1:=hQ9 (HB9.out (by rw [hpx];exact e43))
   clear hle hj hpx
   go_upto_region 9 with fail
   refine zg (za wr) (by kernel_rfl) (by kernel_rfl) ?_
   repeat (first
    | (go_big_quiet_step (first
     | fail)))
   refine wpQuiet_nil ?_
   rintro wx ⟨⟨wx',gx⟩,rfl⟩
   go_wp2_with fail
   go_ret
   exact⟨by rw [HR1.out];rfl,zb HG1.out (zb GJ.out gx)⟩
  ·have e43:decide (S.who≤x)=false:=zF9 hle
   have HPA:Hid ((prevA L i).any (fun x=>decide (S.who≤x))=false):=hQ9 (by rw [hpx];exact e43)
   clear hle hj hpx
   go_upto_region 9 with fail
   refine zg (za wr) (by kernel_rfl) (by kernel_rfl) ?_
   repeat (first
    | (go_big_quiet_step (first
     | fail)))
   refine wpQuiet_nil ?_
   rintro wx ⟨⟨wx',gx⟩,rfl⟩
   have GY:=hQ9 (zb GJ.out gx)
   have GX9:=hQ9 gx
   clear gx b0 e39 e43 hs2 hj0 hj1
   generalize wr=wj at *
   by_cases hd:S.cm=D
   rotate_left
   ·have e54:((S.cm:Int) != (D:Int))=true:=by simp;omega
    have hv3:vdA K D S=3:=by unfold vdA;rw [if_neg hd]
    have HR1:=hQ9 (HE9.out HPA.out (by rw [hv3];decide))
    rw [hv3]at HR1
    clear hd hv3
    go_upto_region 11 with fail
    have hs0x:∀ y:Gr wx,y.val.cell? (ad.add (i*23))=some (.int .u64 (S.cm:Int)):=fun y=>hs0 ⟨y.val,zb GX9.out y.ok⟩
    have CDx:Hid (∀ y:Gr wx,Calls Tryz.prog 115 #[.agg gc] y.val fun e w'=>e=.returned (.int .u64 (D:Nat))∧Grew y.val w'):=hQ9 (fun y=>CD.out y.val (zb HG1.out (zb GY.out y.ok)))
    have YMx:Hid (∀ y:Gr wx,y.val.rangeAt (w.heap.size+1) 0 gc.toList):=hQ9 (fun y=>YM.out ⟨y.val,zb GX9.out y.ok⟩)
    have Y5x:∀ y:Gr wx,y.val.cell? ⟨w.heap.size+1,6,none⟩=some (.slice (some ad) L.length k):=fun y=>Y5 ⟨y.val,zb GX9.out y.ok⟩
    refine zg (za wx) (by kernel_rfl) (by kernel_rfl) ?_
    repeat (first
     | (go_big_quiet_want;refine zi 36 (.tmp 52) rfl (w.heap.size+1) 0 rfl gc.toList _ YMx.out huc rfl SIC.out ?_;simp only [Act.put,List.setIfInBounds_toArray,List.set_cons_succ,List.set_cons_zero,zT9];go_big_quiet_on)
     | (go_big_quiet_step (first
      | (go_at_call 115;exact callG (CDx.out _))
      | fail)))
    refine wpQuiet_nil ?_
    rintro wy ⟨⟨wy',gy⟩,rfl⟩
    go_wp2_with fail
    go_ret
    exact⟨by rw [HR1.out];rfl,zb HG1.out (zb GY.out gy)⟩
   have e54:((S.cm:Int) != (D:Int))=false:=by simp [hd]
   have hvv:vdA K D S=kvS K S:=by unfold vdA;rw [if_pos hd]
   have HVV:=hQ9 hvv
   clear hd hvv
   go_upto_region 11 with fail
   have hs0x:∀ y:Gr wx,y.val.cell? (ad.add (i*23))=some (.int .u64 (S.cm:Int)):=fun y=>hs0 ⟨y.val,zb GX9.out y.ok⟩
   have CDx:Hid (∀ y:Gr wx,Calls Tryz.prog 115 #[.agg gc] y.val fun e w'=>e=.returned (.int .u64 (D:Nat))∧Grew y.val w'):=hQ9 (fun y=>CD.out y.val (zb HG1.out (zb GY.out y.ok)))
   have YMx:Hid (∀ y:Gr wx,y.val.rangeAt (w.heap.size+1) 0 gc.toList):=hQ9 (fun y=>YM.out ⟨y.val,zb GX9.out y.ok⟩)
   have Y5x:∀ y:Gr wx,y.val.cell? ⟨w.heap.size+1,6,none⟩=some (.slice (some ad) L.length k):=fun y=>Y5 ⟨y.val,zb GX9.out y.ok⟩
   refine zg (za wx) (by kernel_rfl) (by kernel_rfl) ?_
   repeat (first
    | (go_big_quiet_want;refine zi 36 (.tmp 52) rfl (w.heap.size+1) 0 rfl gc.toList _ YMx.out huc rfl SIC.out ?_;simp only [Act.put,List.setIfInBounds_toArray,List.set_cons_succ,List.set_cons_zero,zT9];go_big_quiet_on)
    | (go_big_quiet_step (first
     | (go_at_call 115;exact callG (CDx.out _))
     | fail)))
   refine wpQuiet_nil ?_
   rintro wy ⟨⟨wy',gy⟩,rfl⟩
   have GZ:=hQ9 (zb GX9.out gy)
   clear gy e54
   obtain⟨va,hva⟩:∃ v,kvS K S=v:=⟨_,rfl⟩
   rw [hva]at HVV CV
   by_cases hv0:va=0
   ·have e63:(va != 0)=false:=by simp [hv0]
    have HN:=hQ9 (HS9.out HPA.out (by rw [HVV.out];exact hv0))
    clear hv0 hva
    go_upto_region 13 with fail
    have HYSx:Hid (∀ y:Gr wy,∀ j u,S.C.toList[j]?=some u→y.val.cell? ((ad.add (i*23)).add j)=some u):=hQ9 (fun y=>HYS.out ⟨y.val,zb GZ.out y.ok⟩)
    have YKx:Hid (∀ y:Gr wy,y.val.rangeAt w.heap.size 0 K.C.toList):=hQ9 (fun y=>YK.out ⟨y.val,zb GZ.out y.ok⟩)
    have Y5y:∀ y:Gr wy,y.val.cell? ⟨w.heap.size+1,6,none⟩=some (.slice (some ad) L.length k):=fun y=>Y5 ⟨y.val,zb GZ.out y.ok⟩
    have CV2:Hid (∀ y:Gr wy,Calls Tryz.prog 37 #[.agg K.C,.agg S.C] y.val fun e w'=>e=.returned (.int .i64 va)∧Grew y.val w'):=hQ9 (fun y=>CV.out ⟨y.val,zb GZ.out y.ok⟩)
    refine zg (za wy) (by kernel_rfl) (by kernel_rfl) ?_
    repeat (first
     | (go_big_quiet_want;refine zi 64 (.tmp 2) rfl (w.heap.size) 0 rfl K.C.toList _ YKx.out huk rfl SIK.out ?_;simp only [Act.put,List.setIfInBounds_toArray,List.set_cons_succ,List.set_cons_zero,zT9];go_big_quiet_on)
     | (go_big_quiet_want;refine zR 70 (.tmp 60) rfl (ad.add (i*23)) rfl S.C.toList _ HYSx.out hus rfl SIS.out ?_;simp only [Act.put,List.setIfInBounds_toArray,List.set_cons_succ,List.set_cons_zero,zT9];go_big_quiet_on)
     | (go_big_quiet_step (first
      | (go_at_call 37;exact callG (CV2.out _))
      | fail)))
    refine wpQuiet_nil ?_
    rintro wz ⟨⟨wz',gz⟩,rfl⟩
    go_wp2_with fail
    go_roundw
    case rel=>exact⟨i+1,HI.out,by go_num,HN,zb GJ.out (zb GZ.out gz)⟩
    case measure=>have:=HI.out;simp [Go.RowKit.intOf]<;>omega
   ·have e63:(va != 0)=true:=by simpa using hv0
    have HR1:=hQ9 (HE9.out HPA.out (by rw [HVV.out];exact hv0))
    rw [HVV.out]at HR1
    clear hv0 hva
    go_upto_region 13 with fail
    have HYSx:Hid (∀ y:Gr wy,∀ j u,S.C.toList[j]?=some u→y.val.cell? ((ad.add (i*23)).add j)=some u):=hQ9 (fun y=>HYS.out ⟨y.val,zb GZ.out y.ok⟩)
    have YKx:Hid (∀ y:Gr wy,y.val.rangeAt w.heap.size 0 K.C.toList):=hQ9 (fun y=>YK.out ⟨y.val,zb GZ.out y.ok⟩)
    have Y5y:∀ y:Gr wy,y.val.cell? ⟨w.heap.size+1,6,none⟩=some (.slice (some ad) L.length k):=fun y=>Y5 ⟨y.val,zb GZ.out y.ok⟩
    have CV2:Hid (∀ y:Gr wy,Calls Tryz.prog 37 #[.agg K.C,.agg S.C] y.val fun e w'=>e=.returned (.int .i64 va)∧Grew y.val w'):=hQ9 (fun y=>CV.out ⟨y.val,zb GZ.out y.ok⟩)
    refine zg (za wy) (by kernel_rfl) (by kernel_rfl) ?_
    repeat (first
     | (go_big_quiet_want;refine zi 64 (.tmp 2) rfl (w.heap.size) 0 rfl K.C.toList _ YKx.out huk rfl SIK.out ?_;simp only [Act.put,List.setIfInBounds_toArray,List.set_cons_succ,List.set_cons_zero,zT9];go_big_quiet_on)
     | (go_big_quiet_want;refine zR 70 (.tmp 60) rfl (ad.add (i*23)) rfl S.C.toList _ HYSx.out hus rfl SIS.out ?_;simp only [Act.put,List.setIfInBounds_toArray,List.set_cons_succ,List.set_cons_zero,zT9];go_big_quiet_on)
     | (go_big_quiet_step (first
      | (go_at_call 37;exact callG (CV2.out _))
      | fail)))
    refine wpQuiet_nil ?_
    rintro wz ⟨⟨wz',gz⟩,rfl⟩
    go_wp2_with fail
    go_ret
    exact⟨by rw [HR1.out];rfl,zb HG1.out (zb GJ.out (zb GZ.out gz))⟩
theorem MvL.symm {L M:List SP} (h:MvL L M):MvL M L:=⟨h.len.symm,fun k h1 h2=>by
 obtain⟨A,c,e⟩:=h.each k h2 h1
 exact⟨L[k].A,L[k].c,by rw [e];rfl⟩⟩
theorem MvA.symm {L M:List AP} (h:MvA L M):MvA M L:=⟨h.len.symm,fun k h1 h2=>by
 obtain⟨A,c,e⟩:=h.each k h2 h1
 exact⟨L[k].A,L[k].c,by rw [e];rfl⟩⟩
theorem zjc (S:AP) (hS:S.ok) (A:Option Addr) (c:Nat) (w:World) (ha:S.at w) (hb:(S.mv A c).at w) :
 Calls Tryz.prog 42 #[.agg S.C,.agg (S.mv A c).C] w fun e w'=>e=.returned (.bool true)∧Grew w w' :=
 zbc S.cm S.who S.sw S.lf S.s S.A A S.c c S.l (by have:=hS.len;omega) w ha hb
theorem zfd (c:Cm) (A B:Option Addr) (k k':Nat) (L M:List SP) (hl:L.length≤100000) (hm:MvL L M) (w:World) (hL:Sps w A L) (hM:SpsG w B M) :
 Calls Tryz.prog 68 #[.agg (ctC c A L.length k),.agg (ctC c B L.length k')] w fun e w'=>e=.returned (.bool true)∧Grew w w':=by
 have huc:=Tryz.underlying33
 have hus:=Tryz.underlying233
 have SIC:Hid (zI9 33=some c.cells.toList.length):=hQ9 (show _=some 5 by kernel_rfl)
 have z0:=(Ag.new w 36 (ctC c A L.length k)).grew (ze (za _) (.cells (ctC c B L.length k') 36))
 have z1:=Ag.new (w.alloc (.cells (ctC c A L.length k) 36)) 36 (ctC c B L.length k')
 rw [zl]at z1
 have G0:=ze (ze (za w) (.cells (ctC c A L.length k) 36)) (.cells (ctC c B L.length k') 36)
 have hm1:=xk z0
 have hm2:=xk z1
 have HL:=hQ9 (hL.gr G0)
 have HM:=hQ9 (hM.gr G0)
 have HMV:=hQ9 hm
 have hc1:((w.alloc (.cells (ctC c A L.length k) 36)).alloc (.cells (ctC c B L.length k') 36)).cell? ⟨w.heap.size,5,none⟩=some (.slice A L.length k):=by simpa using z0.cell 5 _ rfl
 have hc2:((w.alloc (.cells (ctC c A L.length k) 36)).alloc (.cells (ctC c B L.length k') 36)).cell? ⟨w.heap.size+1,5,none⟩=some (.slice B L.length k'):=by simpa using z1.cell 5 _ rfl
 have Z0:=hQ9 (fun y (g:Grew _ y)=>show y.cell? ⟨w.heap.size,5,none⟩=some (.slice A L.length k) from by simpa using (z0.grew g).cell 5 _ rfl)
 have Z1:=hQ9 (fun y (g:Grew _ y)=>show y.cell? ⟨w.heap.size+1,5,none⟩=some (.slice B L.length k') from by simpa using (z1.grew g).cell 5 _ rfl)
 have HEQ:∀ W,(Op.equalIn 10000 33 (.agg c.cells) (.agg c.cells)).run Tryz.prog W=.ok true W:=fun W=>by
  have:=zpl c c W
  rw [show c.v=.agg c.cells from rfl]at this
  simpa using this
 have e0:((L.length:Int) != (L.length:Int))=false:=by simp
 clear z0 z1 hL hM hm
 generalize ctC c A L.length k=ga at *
 generalize ctC c B L.length k'=gb at *
 generalize c.cells=gc at *
 go_enter Tryz.func68,Tryz.ntmps68
 go_wp2_with(first
  | (with_reducible refine wpList_load_mid rfl 33 (.tmp 6) rfl w.heap.size 0 rfl gc.toList _ hm1 huc rfl SIC.out ?_;simp only [zT9])
  | (with_reducible refine wpList_load_mid rfl 33 (.tmp 8) rfl (w.heap.size+1) 0 rfl gc.toList _ hm2 huc rfl SIC.out ?_;simp only [zT9]))
 generalize hw0:(w.alloc (.cells ga 36)).alloc (.cells gb 36)=w0 at *
 clear e0 hm1 hm2 hc1 hc2
 go_loopw [5] (fun iv wr=>∃ i:Nat,i≤L.length∧iv=.int .i64 i∧Grew w0 wr) (fun iv _=>L.length-(Go.RowKit.intOf iv).toNat)
 case atStart=>exact⟨0,Nat.zero_le _,rfl,Below.refl _ _⟩
 case round =>
  obtain⟨i,hil,rfl,hg⟩:=hrel
  have hd1:=Z0.out wr hg
  have hd2:=Z1.out wr hg
  by_cases hlt:i<L.length
  ·have hltM:i<M.length:=by have:=HMV.out.len;omega
   obtain⟨q,hA,hq,hm1⟩:=RdC.at24 HL.out.rd hg i hlt
   obtain⟨br,hB,hr,hm2⟩:=(HM.out.rd.gr hg) i hltM
   subst hA
   subst hB
   obtain⟨A2,c2,hmv⟩:=HMV.out.each i hlt hltM
   have hSok:=HL.out.ok L[i] (List.getElem_mem hlt)
   have hSat:=(HL.out.at_ L[i] (List.getElem_mem hlt)).gr hg
   have hTat:=(HM.out.at_ M[i] (List.getElem_mem hltM)).gr hg
   rw [hmv]at hm2 hTat
   have hi0:(0:Int)≤(i:Int):=by omega
   have hi1:(i:Int)<(L.length:Int):=by omega
   have e4:IntKind.i64.wrap ((i:Int)+1)=(i:Int)+1:=IntWalk.i64_in _ (by omega)
   clear hmv
   generalize L[i]=S at *
   have CS:Hid (∀ y:Gr wr,Calls Tryz.prog 140 #[.agg S.C,.agg (S.mv A2 c2).C] y.val fun e w'=>e=.returned (.bool true)∧Grew y.val w'):=hQ9 (fun y=>zi2 S hSok A2 c2 y.val (hSat.gr y.ok) (hTat.gr y.ok))
   have SIS:Hid (zI9 233=some S.C.toList.length):=hQ9 kO
   have SIT:Hid (zI9 233=some (S.mv A2 c2).C.toList.length):=hQ9 kO
   have M1:Hid (∀ y:Gr wr,y.val.rangeAt q (i*24) S.C.toList):=hQ9 (fun y=>kF hm1 hq y.ok)
   have M2:Hid (∀ y:Gr wr,∀ j u,(S.mv A2 c2).C.toList[j]?=some u→y.val.cell? ((br.add (i*24)).add j)=some u):=hQ9 (fun y j u hj=>(y.ok.cell (p:=(br.add (i*24)).add j) (by rw [zy,zy];exact hr)).trans (hm2 j u hj))
   have q0:∀ y:Gr wr,y.val.cell? ⟨w.heap.size,5,none⟩=some (.slice (some ⟨q,0,none⟩) L.length k):=fun y=>Z0.out _ (zb hg y.ok)
   have q1:∀ y:Gr wr,y.val.cell? ⟨w.heap.size+1,5,none⟩=some (.slice (some br) L.length k'):=fun y=>Z1.out _ (zb hg y.ok)
   clear hSok hSat hTat hm1 hm2
   go_wp2_with fail
   clear hd1 hd2
   refine zg (za wr) (by kernel_rfl) (by kernel_rfl) ?_
   repeat (first
    | (go_big_quiet_want;refine zi 233 (.tmp 30) rfl q (i*24) rfl S.C.toList _ M1.out hus rfl SIS.out ?_;simp only [Act.put,List.setIfInBounds_toArray,List.set_cons_succ,List.set_cons_zero,zT9];go_big_quiet_on)
    | (go_big_quiet_want;refine zR 233 (.tmp 35) rfl (br.add (i*24)) rfl (S.mv A2 c2).C.toList _ M2.out hus rfl SIT.out ?_;simp only [Act.put,List.setIfInBounds_toArray,List.set_cons_succ,List.set_cons_zero,zT9];go_big_quiet_on)
    | (go_big_quiet_step (first
     | (go_at_call 140;exact callG (CS.out _)))))
   refine wpQuiet_nil ?_
   rintro w8 ⟨⟨w8',g8⟩,rfl⟩
   go_wp2_with fail
   go_roundw
   case rel=>exact⟨i+1,by omega,by go_num,zb hg g8⟩
   case measure=>simp [Go.RowKit.intOf];omega
  ·obtain rfl:i=L.length:=by omega
   go_wp2_with fail
   go_ret
   exact⟨rfl,zb G0 hg⟩
theorem zfe (c:Cm) (CA CB:Option Addr) (ck ck':Nat) (LC MC:List SP) (hlc:LC.length≤100000) (hmc:MvL LC MC) (A B:Option Addr) (k k':Nat) (L M:List AP) (hl:L.length≤100000) (hm:MvA L M) (w:World) (hLC:Sps w CA LC) (hMC:SpsG w CB MC) (hL:Aps w A L) (hM:Aps w B M) :
 Calls Tryz.prog 48 #[.agg (sqC c CA LC.length ck A L.length k),.agg (sqC c CB LC.length ck' B L.length k')] w fun e w'=>e=.returned (.bool true)∧Grew w w':=by
 have huc:=Tryz.underlying36
 have hus:=Tryz.underlying70
 have SIC:Hid (zI9 36=some (ctC c CA LC.length ck).toList.length):=hQ9 yZ
 have SID:Hid (zI9 36=some (ctC c CB LC.length ck').toList.length):=hQ9 yZ
 have z0:=(Ag.new w 111 (sqC c CA LC.length ck A L.length k)).grew (ze (za _) (.cells (sqC c CB LC.length ck' B L.length k') 111))
 have z1:=Ag.new (w.alloc (.cells (sqC c CA LC.length ck A L.length k) 111)) 111 (sqC c CB LC.length ck' B L.length k')
 rw [zl]at z1
 have G0:=ze (ze (za w) (.cells (sqC c CA LC.length ck A L.length k) 111)) (.cells (sqC c CB LC.length ck' B L.length k') 111)
 have hm1:=sq_ct z0
 have hm2:=sq_ct z1
 have HL:=hQ9 (hL.gr G0)
 have HM:=hQ9 (hM.gr G0)
 have HMV:=hQ9 hm
 have CSC:=hQ9 (zfd c CA CB ck ck' LC MC hlc hmc ((w.alloc (.cells (sqC c CA LC.length ck A L.length k) 111)).alloc (.cells (sqC c CB LC.length ck' B L.length k') 111)) (hLC.gr G0) (hMC.gr G0))
 have Z0:=hQ9 (fun y (g:Grew _ y)=>show y.cell? ⟨w.heap.size,6,none⟩=some (.slice A L.length k) from by simpa using (z0.grew g).cell 6 _ rfl)
 have Z1:=hQ9 (fun y (g:Grew _ y)=>show y.cell? ⟨w.heap.size+1,6,none⟩=some (.slice B L.length k') from by simpa using (z1.grew g).cell 6 _ rfl)
 have e0:((L.length:Int) != (L.length:Int))=false:=by simp
 clear z0 z1 hL hM hm hLC hMC hmc
 generalize ctC c CA LC.length ck=ca at *
 generalize ctC c CB LC.length ck'=cb at *
 generalize sqC c CA LC.length ck A L.length k=ga at *
 generalize sqC c CB LC.length ck' B L.length k'=gb at *
 go_enter Tryz.func48,Tryz.ntmps48
 go_wp2_with(first
  | (with_reducible refine wpList_load_mid rfl 36 (.tmp 6) rfl w.heap.size 0 rfl ca.toList _ hm1 huc rfl SIC.out ?_;simp only [zT9])
  | (with_reducible refine wpList_load_mid rfl 36 (.tmp 8) rfl (w.heap.size+1) 0 rfl cb.toList _ hm2 huc rfl SID.out ?_;simp only [zT9]))
 refine(CSC.out).mono ?_
 rintro e w9 ⟨rfl,g9⟩
 generalize hw0:(w.alloc (.cells ga 111)).alloc (.cells gb 111)=w0 at *
 have hc1:=Z0.out w9 g9
 have hc2:=Z1.out w9 g9
 have HG9:=hQ9 g9
 clear CSC hm1 hm2
 go_wp2_with fail
 clear e0 hc1 hc2
 go_loopw [5] (fun iv wr=>∃ i:Nat,i≤L.length∧iv=.int .i64 i∧Grew w0 wr) (fun iv _=>L.length-(Go.RowKit.intOf iv).toNat)
 case atStart=>exact⟨0,Nat.zero_le _,rfl,HG9.out⟩
 case round =>
  obtain⟨i,hil,rfl,hg⟩:=hrel
  have hd1:=Z0.out wr hg
  have hd2:=Z1.out wr hg
  by_cases hlt:i<L.length
  ·have hltM:i<M.length:=by have:=HMV.out.len;omega
   obtain⟨q,hA,hq,hm1⟩:=RdC.at23 HL.out.rd hg i hlt
   obtain⟨r,hB,hr,hm2⟩:=RdC.at23 HM.out.rd hg i hltM
   subst hA
   subst hB
   obtain⟨A2,c2,hmv⟩:=HMV.out.each i hlt hltM
   have hSok:=HL.out.ok L[i] (List.getElem_mem hlt)
   have hSat:=(HL.out.at_ L[i] (List.getElem_mem hlt)).gr hg
   have hTat:=(HM.out.at_ M[i] (List.getElem_mem hltM)).gr hg
   rw [hmv]at hm2 hTat
   have hi0:(0:Int)≤(i:Int):=by omega
   have hi1:(i:Int)<(L.length:Int):=by omega
   have e4:IntKind.i64.wrap ((i:Int)+1)=(i:Int)+1:=IntWalk.i64_in _ (by omega)
   clear hmv
   generalize L[i]=S at *
   have CS:Hid (∀ y:Gr wr,Calls Tryz.prog 42 #[.agg S.C,.agg (S.mv A2 c2).C] y.val fun e w'=>e=.returned (.bool true)∧Grew y.val w'):=hQ9 (fun y=>zjc S hSok A2 c2 y.val (hSat.gr y.ok) (hTat.gr y.ok))
   have SIS:Hid (zI9 70=some S.C.toList.length):=hQ9 xn
   have SIT:Hid (zI9 70=some (S.mv A2 c2).C.toList.length):=hQ9 xn
   have M1:Hid (∀ y:Gr wr,y.val.rangeAt q (i*23) S.C.toList):=hQ9 (fun y=>kF hm1 hq y.ok)
   have M2:Hid (∀ y:Gr wr,y.val.rangeAt r (i*23) (S.mv A2 c2).C.toList):=hQ9 (fun y=>kF hm2 hr y.ok)
   have q0:∀ y:Gr wr,y.val.cell? ⟨w.heap.size,6,none⟩=some (.slice (some ⟨q,0,none⟩) L.length k):=fun y=>Z0.out _ (zb hg y.ok)
   have q1:∀ y:Gr wr,y.val.cell? ⟨w.heap.size+1,6,none⟩=some (.slice (some ⟨r,0,none⟩) L.length k'):=fun y=>Z1.out _ (zb hg y.ok)
   clear hSok hSat hTat hm1 hm2
   go_wp2_with fail
   clear hd1 hd2
   refine zg (za wr) (by kernel_rfl) (by kernel_rfl) ?_
   repeat (first
    | (go_big_quiet_want;refine zi 70 (.tmp 31) rfl q (i*23) rfl S.C.toList _ M1.out hus rfl SIS.out ?_;simp only [Act.put,List.setIfInBounds_toArray,List.set_cons_succ,List.set_cons_zero,zT9];go_big_quiet_on)
    | (go_big_quiet_want;refine zi 70 (.tmp 36) rfl r (i*23) rfl (S.mv A2 c2).C.toList _ M2.out hus rfl SIT.out ?_;simp only [Act.put,List.setIfInBounds_toArray,List.set_cons_succ,List.set_cons_zero,zT9];go_big_quiet_on)
    | (go_big_quiet_step (first
     | (go_at_call 42;exact callG (CS.out _)))))
   refine wpQuiet_nil ?_
   rintro w8 ⟨⟨w8',g8⟩,rfl⟩
   go_wp2_with fail
   go_roundw
   case rel=>exact⟨i+1,by omega,by go_num,zb hg g8⟩
   case measure=>simp [Go.RowKit.intOf];omega
  ·obtain rfl:i=L.length:=by omega
   go_wp2_with fail
   go_ret
   exact⟨rfl,zb G0 hg⟩
theorem qS (c:Cm) (A:Option Addr) (k:Nat) (L:List SP) (hl:L.length≤100000) (w:World) (hL:SpsG w A L) :
 Calls Tryz.prog 14 #[.agg (ctC c A L.length k)] w fun e w'=>OfV L w.heap.size w' (match e with | .returned v=>v | _=>undef) (fun B n=>.agg (ctC c B L.length n))∧(∃ v,e=.returned v)∧Grew w w':=by
 have huc:=Tryz.underlying33
 have hur:=Tryz.underlying43
 have SIC:Hid (zI9 33=some c.cells.toList.length):=hQ9 (show _=some 5 by kernel_rfl)
 have z1:=(Ag.new w 36 (ctC c A L.length k)).grew (ze (za _) (.cells (zS6:Array Value) 43))
 have y1:=Ag.new (w.alloc (.cells (ctC c A L.length k) 36)) 43 (zS6:Array Value)
 rw [zl]at y1
 have G1:=ze (ze (za w) (.cells (ctC c A L.length k) 36)) (.cells (zS6:Array Value) 43)
 have CO:=hQ9 (fun W=>cto_ok c W)
 rw [show c.v=.agg c.cells from rfl]at CO
 have HLS:=hQ9 (hL.gr G1)
 have CA:=hQ9 (fun W (h:SpsG W A L)=>zn0 A k L hl W h)
 have HBU:∀(B:Option Addr) (n:Nat),Hid (Tryz.prog.built 43 [(0,.agg c.cells),(1,.slice B L.length n)]=some (ctC c B L.length n)):=fun B n=>hQ9 (by kernel_rfl)
 have HSZ:Hid (((w.alloc (.cells (ctC c A L.length k) 36)).alloc (.cells (#[.int .i64 0,.int .i64 0,.int .i64 0,.int .i64 0,.int .i64 0,.slice none 0 0]:Array Value) 43)).heap.size=w.heap.size+2):=hQ9 (by simp)
 clear hL
 go_enter Tryz.func14,Tryz.ntmps14
 go_upto_region 1 with fail
 generalize (w.alloc (.cells (ctC c A L.length k) 36)).alloc (.cells (zS6:Array Value) 43)=w1 at *
 have HMC:=hQ9 (fun y (g:Grew w1 y)=>xk (z1.grew g))
 have HC5:Hid (∀ y,Grew w1 y→y.cell? ⟨w.heap.size,5,none⟩=some (.slice A L.length k)):=hQ9 (fun y g=>by simpa using (z1.grew g).cell 5 _ rfl)
 clear z1
 refine zv 7 (fun ix9=>match ix9 with
  | 0=>fun v _=>v=.pointer (some ⟨w.heap.size,0,none⟩)
  | 1=>fun v _=>v=.agg c.cells
  | 2=>fun v _=>v=.agg c.cells
  | 3=>fun v _=>v=.pointer (some ⟨w.heap.size,5,none⟩)
  | 4=>fun v _=>v=.slice A L.length k
  | 5=>fun v z=>OfV L w1.heap.size z v (fun B n=>.slice B L.length n)
  | 6=>fun v z=>OfV L w1.heap.size z v (fun B n=>.agg (ctC c B L.length n))
  | _=>fun _ _=>True) (by kernel_rfl) (by kernel_rfl) ?_ ?_ ?_
 ·intro i v x y h hg
  match i,h with
  | 0,h | 1,h | 2,h | 3,h | 4,h=>exact h
  | 5,h=>exact OfV.gr h hg
  | 6,h=>exact OfV.gr h hg
  | m+7,_=>trivial
 ·simp only [actOf,tk1,tk0,dr1,dr0,Act.put,si1,st1,st0,Nat.reduceAdd]
  refine⟨?_,?_,?_,?_,?_,?_,?_,trivial⟩
  ·intro vs y hg hd
   dsimp only
   go_wp2_with fail
   exact⟨rfl,_,rfl,za _,rfl⟩
  ·intro vs y hg hd
   obtain⟨h0,_⟩:=hd
   replace h0:=h0 rfl
   dsimp only
   rw [show vs 0=_ from h0]
   have hm:=HMC.out y hg
   go_wp2_with(with_reducible refine wpList_load_mid rfl 33 (.tmp 3) rfl w.heap.size 0 rfl c.cells.toList _ hm huc rfl SIC.out ?_;simp only [zT9])
   exact⟨rfl,_,rfl,za _,rfl⟩
  ·intro vs y hg hd
   obtain⟨h1,_⟩:=hd
   replace h1:=h1 rfl
   dsimp only
   rw [show vs 1=_ from h1]
   go_wp2_with(go_at_call 64;refine(CO.out y).mono ?_;rintro e z ⟨rfl,gz⟩)
   exact⟨rfl,_,rfl,gz,rfl⟩
  ·intro vs y hg hd
   dsimp only
   go_wp2_with fail
   exact⟨rfl,_,rfl,za _,rfl⟩
  ·intro vs y hg hd
   obtain⟨h4,_⟩:=hd
   replace h4:=h4 rfl
   dsimp only
   rw [show vs 3=_ from h4]
   have hc:=HC5.out y hg
   go_wp2_with fail
   exact⟨rfl,_,rfl,za _,rfl⟩
  ·intro vs y hg hd
   obtain⟨h5,_⟩:=hd
   replace h5:=h5 rfl
   dsimp only
   rw [show vs 4=_ from h5]
   go_wp2_with(go_at_call 65;refine(CA.out y (HLS.out.gr hg)).mono ?_;rintro e z ⟨B9,k9,M9,rfl,hmv9,hsp9,hcc1,hcc2,hbB9,hlw9,gz⟩)
   exact⟨rfl,_,rfl,gz,⟨B9,k9,M9,rfl,hmv9,hsp9,fun ad h=>Nat.le_trans hg.size (hbB9 ad h),fun S hS ad h=>(hlw9 S hS ad h).imp id (Nat.le_trans hg.size)⟩⟩
  ·intro vs y hg hd
   obtain⟨h2,h5,_⟩:=hd
   replace h2:=h2 rfl
   obtain⟨B9,k9,M9,e9,hr9⟩:=(h5 rfl).out
   dsimp only
   rw [show vs 2=_ from h2,show vs 5=_ from e9]
   have HB9:=HBU B9 k9
   go_wp2_with(with_reducible refine zC rfl 43 #[(0,.tmp 5),(1,.tmp 8)] rfl (ctC c B9 L.length k9) ?_ ?_;· simpa [Act.eval,Act.put]using HB9.out)
   exact⟨rfl,_,rfl,za _,⟨B9,k9,M9,rfl,hr9⟩⟩
 ·intro vs w2 hg hJ
  obtain⟨B9,k9,M9,e9,hmv9,hsp9,hbB9,hlw9⟩:=(show OfV L w1.heap.size w2 (vs 6) _ from hJ 6 (by decide)).out
  clear hJ
  simp only [actOf,tk1,tk0,dr1,dr0,Act.put,si1,st1,st0,Nat.reduceAdd]
  have y2:=y1.grew hg
  have G2:=zb G1 hg
  rw [e9]
  have HTH:Hid (w2.there (w.heap.size+1) 0 (ctC c B9 L.length k9).size):=hQ9 (y2.thereN 6 rfl)
  have HSI:Hid (zI9 43=some (ctC c B9 L.length k9).size):=hQ9 yh
  have HON:=hQ9 (kx c B9 L.length k9)
  have zf:=Ag.set (vs:=(ctC c B9 L.length k9).toList) y2 rfl
  have Gf:=zh (o:=0) (b:=w.heap.size+1) (ctC c B9 L.length k9).toList G2 (Nat.le_succ _)
  have HBB:Hid (∀ ad,B9=some ad→w.heap.size≤ad.block):=hQ9 (fun ad h=>by have:=hbB9 ad h;have:=HSZ.out;omega)
  have HMM:Hid (∀ S∈M9,∀ ad,S.A=some ad→S.l=[]∨w.heap.size≤ad.block):=hQ9 (fun S hS ad h=>(hlw9 S hS ad h).imp id (fun h1=>by have:=HSZ.out;omega))
  have HSPS:=hQ9 (hsp9.kpx (zn (ctC c B9 L.length k9).toList (w.heap.size+1) 0 w2) (fun ad2 h e=>by have:=hbB9 ad2 h;have:=HSZ.out;omega) (fun T hT ad2 h=>by rcases hlw9 T hT ad2 h with h1 | h1;exact .inl h1;exact .inr (fun e=>by have:=HSZ.out;omega)))
  go_wp2_with(with_reducible refine wpList_store_mid rfl 43 (.tmp 2) (.tmp 9) rfl (w.heap.size+1) 0 (ctC c B9 L.length k9) rfl rfl HTH.out HSI.out HON.out ?_)
  exact bodyPost_ret (zL Tryz.results14 _ _ (w.heap.size+1) _ _ rfl zf hur rfl yh) rfl ⟨⟨B9,k9,M9,rfl,hmv9,HSPS.out,HBB.out,HMM.out⟩,⟨_,rfl⟩,Gf⟩
theorem zn3 (c:Cm) (A:Option Addr) (k:Nat) (L:List SP) (hl:L.length≤100000) (D:Option Addr) (j:Nat) (N:List AP) (hn:N.length≤100000) (w:World) (hL:SpsG w A L) (hN:ApsG w D N) :
 Calls Tryz.prog 51 #[.agg (sqC c A L.length k D N.length j)] w fun e w'=>OfS L N w.heap.size w' (match e with | .returned v=>v | _=>undef) (fun B n E m=>.agg (sqC c B L.length n E N.length m))∧(∃ v,e=.returned v)∧Grew w w':=by
 have huc:=Tryz.underlying36
 have hur:=Tryz.underlying106
 have SIC:Hid (zI9 36=some (ctC c A L.length k).toList.length):=hQ9 (by exact yZ)
 have SIQ:Hid (zI9 106=some 7):=hQ9 (by kernel_rfl)
 have z1:=(Ag.new w 111 (sqC c A L.length k D N.length j)).grew (ze (za _) (.cells (zQ7:Array Value) 106))
 have y1:=Ag.new (w.alloc (.cells (sqC c A L.length k D N.length j) 111)) 106 (zQ7:Array Value)
 rw [zl]at y1
 have G1:=ze (ze (za w) (.cells (sqC c A L.length k D N.length j) 111)) (.cells (zQ7:Array Value) 106)
 have HBU:∀(B:Option Addr) (n:Nat) (E:Option Addr) (m:Nat),Hid (Tryz.prog.built 106 [(0,.agg (ctC c B L.length n)),(1,.slice E N.length m)]=some (sqC c B L.length n E N.length m)):=fun B n E m=>hQ9 (by kernel_rfl)
 have HSZ:Hid (((w.alloc (.cells (sqC c A L.length k D N.length j) 111)).alloc (.cells (#[.int .i64 0,.int .i64 0,.int .i64 0,.int .i64 0,.int .i64 0,.slice none 0 0,.slice none 0 0]:Array Value) 106)).heap.size=w.heap.size+2):=hQ9 (by simp)
 go_enter Tryz.func51,Tryz.ntmps51
 go_upto_region 1 with fail
 generalize (w.alloc (.cells (sqC c A L.length k D N.length j) 111)).alloc (.cells (zQ7:Array Value) 106)=w1 at *
 have CO:=hQ9 (fun W (g:Grew w1 W)=>qS c A k L hl W (hL.gr (zb G1 g)))
 have CA:=hQ9 (fun W (g:Grew w1 W)=>zcy D j N hn W (hN.gr (zb G1 g)))
 have HMC:=hQ9 (fun y (g:Grew w1 y)=>sq_ct (z1.grew g))
 have HC6:Hid (∀ y,Grew w1 y→y.cell? ⟨w.heap.size,6,none⟩=some (.slice D N.length j)):=hQ9 (fun y g=>by simpa using (z1.grew g).cell 6 _ rfl)
 clear z1 hL hN
 refine zv 7 (fun ix9=>match ix9 with
  | 0=>fun v _=>v=.pointer (some ⟨w.heap.size,0,none⟩)
  | 1=>fun v _=>v=.agg (ctC c A L.length k)
  | 2=>fun v z=>OfV L w1.heap.size z v (fun B n=>.agg (ctC c B L.length n))
  | 3=>fun v _=>v=.pointer (some ⟨w.heap.size,6,none⟩)
  | 4=>fun v _=>v=.slice D N.length j
  | 5=>fun v z=>OfA N w1.heap.size z v (fun B n=>.slice B N.length n)
  | 6=>fun v z=>OfS L N w1.heap.size z v (fun B n E m=>.agg (sqC c B L.length n E N.length m))
  | _=>fun _ _=>True) (by kernel_rfl) (by kernel_rfl) ?_ ?_ ?_
 ·intro i v x y h hg
  match i,h with
  | 0,h | 1,h | 3,h | 4,h=>exact h
  | 2,h=>exact OfV.gr h hg
  | 5,h=>exact OfA.gr h hg
  | 6,h=>exact OfS.gr h hg
  | m+7,_=>trivial
 ·simp only [actOf,tk1,tk0,dr1,dr0,Act.put,si1,st1,st0,Nat.reduceAdd]
  refine⟨?_,?_,?_,?_,?_,?_,?_,trivial⟩
  ·intro vs y hg hd
   dsimp only
   go_wp2_with fail
   exact⟨rfl,_,rfl,za _,rfl⟩
  ·intro vs y hg hd
   obtain⟨h0,_⟩:=hd
   replace h0:=h0 rfl
   dsimp only
   rw [show vs 0=_ from h0]
   have hm:=HMC.out y hg
   go_wp2_with(with_reducible refine wpList_load_mid rfl 36 (.tmp 3) rfl w.heap.size 0 rfl (ctC c A L.length k).toList _ hm huc rfl SIC.out ?_;simp only [zT9])
   exact⟨rfl,_,rfl,za _,rfl⟩
  ·intro vs y hg hd
   obtain⟨h1,_⟩:=hd
   replace h1:=h1 rfl
   dsimp only
   rw [show vs 1=_ from h1]
   go_wp2_with(go_at_call 14;refine(CO.out y hg).mono ?_;rintro e z ⟨hof,⟨v9,rfl⟩,gz⟩)
   exact⟨rfl,_,rfl,gz,⟨hof.out.choose,hof.out.choose_spec.choose,hof.out.choose_spec.choose_spec.choose,hof.out.choose_spec.choose_spec.choose_spec.1,hof.out.choose_spec.choose_spec.choose_spec.2.1,hof.out.choose_spec.choose_spec.choose_spec.2.2.1,fun ad h=>Nat.le_trans hg.size (hof.out.choose_spec.choose_spec.choose_spec.2.2.2.1 ad h),fun S hS ad h=>(hof.out.choose_spec.choose_spec.choose_spec.2.2.2.2 S hS ad h).imp id (Nat.le_trans hg.size)⟩⟩
  ·intro vs y hg hd
   dsimp only
   go_wp2_with fail
   exact⟨rfl,_,rfl,za _,rfl⟩
  ·intro vs y hg hd
   obtain⟨h3,_⟩:=hd
   replace h3:=h3 rfl
   dsimp only
   rw [show vs 3=_ from h3]
   have hc:=HC6.out y hg
   go_wp2_with fail
   exact⟨rfl,_,rfl,za _,rfl⟩
  ·intro vs y hg hd
   obtain⟨h4,_⟩:=hd
   replace h4:=h4 rfl
   dsimp only
   rw [show vs 4=_ from h4]
   go_wp2_with(go_at_call 46;refine(CA.out y hg).mono ?_;rintro e z ⟨B9,k9,M9,rfl,hmv9,hsp9,hcc1,hcc2,hbB9,hlw9,gz⟩)
   exact⟨rfl,_,rfl,gz,⟨B9,k9,M9,rfl,hmv9,hsp9,fun ad h=>Nat.le_trans hg.size (hbB9 ad h),fun S hS ad h=>(hlw9 S hS ad h).imp id (Nat.le_trans hg.size)⟩⟩
  ·intro vs y hg hd
   obtain⟨h2,h5,_⟩:=hd
   replace h2:=h2 rfl
   replace h5:=h5 rfl
   dsimp only
   obtain⟨B9,k9,M9,e5,hr5⟩:=OfV.out h2
   obtain⟨D9,j9,N9,e8,hr8⟩:=OfA.out h5
   rw [e5,e8]
   have HB9:=HBU B9 k9 D9 j9
   go_wp2_with(with_reducible refine zC rfl 106 #[(0,.tmp 5),(1,.tmp 8)] rfl (sqC c B9 L.length k9 D9 N.length j9) ?_ ?_;· simpa [Act.eval,Act.put]using HB9.out)
   exact⟨rfl,_,rfl,za _,⟨B9,k9,M9,D9,j9,N9,rfl,hr5,hr8⟩⟩
 ·intro vs w2 hg hJ
  have j0:vs 0=.pointer (some ⟨w.heap.size,0,none⟩):=hJ 0 (by decide)
  have j1:vs 1=.agg (ctC c A L.length k):=hJ 1 (by decide)
  have j3:vs 3=.pointer (some ⟨w.heap.size,6,none⟩):=hJ 3 (by decide)
  have j4:vs 4=.slice D N.length j:=hJ 4 (by decide)
  have s5:=hJ 2 (by decide)
  have s8:=hJ 5 (by decide)
  have s9:=hJ 6 (by decide)
  clear hJ
  simp only [actOf,tk1,tk0,dr1,dr0,Act.put,si1,st1,st0,Nat.reduceAdd]
  obtain⟨B9,k9,M9,D9,j9,N9,e9,⟨hmv9,hsp9,hbB9,hlw9⟩,⟨hmn9,han9,hbD9,hln9⟩⟩:=OfS.out s9
  have y2:=y1.grew hg
  have G2:=zb G1 hg
  rw [e9]
  have HTH:Hid (w2.there (w.heap.size+1) 0 (sqC c B9 L.length k9 D9 N.length j9).size):=hQ9 (y2.thereN 7 rfl)
  have HSI:Hid (zI9 106=some (sqC c B9 L.length k9 D9 N.length j9).size):=SIQ
  have HON:=hQ9 (y7 c B9 L.length k9 D9 N.length j9)
  have zf:=Ag.set (vs:=(sqC c B9 L.length k9 D9 N.length j9).toList) y2 rfl
  have Gf:=zh (o:=0) (b:=w.heap.size+1) (sqC c B9 L.length k9 D9 N.length j9).toList G2 (Nat.le_succ _)
  have kf:=zn (sqC c B9 L.length k9 D9 N.length j9).toList (w.heap.size+1) 0 w2
  have HSPS:=hQ9 (hsp9.kpx kf (fun ad2 h e=>by have e:ad2.block=w.heap.size+1:=e;have:=hbB9 ad2 h;have:=HSZ.out;omega) (fun T hT ad2 h=>(hlw9 T hT ad2 h).imp id (fun h1 e=>by have e:ad2.block=w.heap.size+1:=e;have:=HSZ.out;omega)))
  have HAPS:=hQ9 (han9.kpx kf (fun ad2 h e=>by have e:ad2.block=w.heap.size+1:=e;have:=hbD9 ad2 h;have:=HSZ.out;omega) (fun T hT ad2 h=>(hln9 T hT ad2 h).imp id (fun h1 e=>by have e:ad2.block=w.heap.size+1:=e;have:=HSZ.out;omega)))
  have HBB:Hid (∀ ad,B9=some ad→w.heap.size≤ad.block):=hQ9 (fun ad h=>by have:=hbB9 ad h;have:=HSZ.out;omega)
  have HMM:Hid (∀ S∈M9,∀ ad,S.A=some ad→S.l=[]∨w.heap.size≤ad.block):=hQ9 (fun S hS ad h=>(hlw9 S hS ad h).imp id (fun h1=>by have:=HSZ.out;omega))
  have HBD:Hid (∀ ad,D9=some ad→w.heap.size≤ad.block):=hQ9 (fun ad h=>by have:=hbD9 ad h;have:=HSZ.out;omega)
  have HNN:Hid (∀ S∈N9,∀ ad,S.A=some ad→S.l=[]∨w.heap.size≤ad.block):=hQ9 (fun S hS ad h=>(hln9 S hS ad h).imp id (fun h1=>by have:=HSZ.out;omega))
  clear s5 s8 s9 hsp9 han9 hbB9 hlw9 hbD9 hln9 kf y1 y2 e9
  go_wp2_with(with_reducible refine wpList_store_mid rfl 106 (.tmp 2) (.tmp 9) rfl (w.heap.size+1) 0 (sqC c B9 L.length k9 D9 N.length j9) rfl rfl HTH.out HSI.out HON.out ?_)
  exact bodyPost_ret (zL Tryz.results51 _ _ (w.heap.size+1) _ _ rfl zf hur rfl SIQ.out) rfl ⟨⟨B9,k9,M9,D9,j9,N9,rfl,⟨hmv9,HSPS.out,HBB.out,HMM.out⟩,⟨hmn9,HAPS.out,HBD.out,HNN.out⟩⟩,⟨_,rfl⟩,Gf⟩
end Go.Proofs.YtkpnheenacchhaaGreatDoor
