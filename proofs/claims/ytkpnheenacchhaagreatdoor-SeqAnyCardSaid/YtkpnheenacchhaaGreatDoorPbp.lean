/- slices.Clone at digests; median.copied, field.Map of it. -/
import Derived.Test.YtkpnheenacchhaaGreatDoorPzz
import Derived.Lib.SliceRun
import Derived.Test.YtkpnheenacchhaaGreatDoorPbo
import Derived.Test.YtkpnheenacchhaaGreatDoorPbl
import Derived.Test.YtkpnheenacchhaaGreatDoorPbb
import Derived.Test.YtkpnheenacchhaaGreatDoorPbf
import Derived.Test.YtkpnheenacchhaaGreatDoorPbj
import Derived.Test.YtkpnheenacchhaaGreatDoorPab
import Derived.Test.YtkpnheenacchhaaGreatDoorPbm
import Derived.Test.YtkpnheenacchhaaGreatDoorPbn
set_option maxHeartbeats 4000000
set_option maxRecDepth 100000
set_option linter.unusedSimpArgs false
set_option linter.unusedVariables false
namespace Go.Proofs.YtkpnheenacchhaaGreatDoor
open Go.RowKit
theorem zcs (A:Option Addr) (c B:Nat) (l:List Nat) (hl:l.length≤1048576) (w:World) (hr:Rd w B A (u64L l)) (hB:B≤w.heap.size) :
 Calls Tryz.prog 220 #[.slice A l.length c] w fun e w'=>∃ A2 c2,e=.returned (.slice A2 l.length c2)∧Rd w' w'.heap.size A2 (u64L l)∧(∀ ad,A2=some ad→w.heap.size≤ad.block)∧Grew w w':=by
 obtain⟨i0,hi0,hz0,hz1,hz2⟩:=info_parts (show(Tryz.prog.info? 72).map (fun i=>(i.zero,i.size,i.bytes))=some (some (.int .u64 0),1,8) by kernel_rfl)
 have he:=fun W=>Lib.run_eql_slice_nil (P:=Tryz.prog) W 75 72 A l.length c 0 0 Tryz.underlying75
 cases A with
 | none =>
  have hn:l=[]:=by
   cases l with
   | nil=>rfl
   | cons a l =>
    obtain⟨ad,h,_⟩:=hr 0 (by simp [u64L])
    cases h
  subst hn
  simp only [List.length_nil,Option.isNone_none]at he ⊢
  go_enter Tryz.func220,Tryz.ntmps220
  go_wp2_with fail
  go_ret
  exact⟨none,0,rfl,(fun k h=>absurd h (by simp [u64L])),(fun ad h=>by cases h),Below.refl _ _⟩
 | some ad =>
  have hr1:=hr.alloc hB (.cells #[] 72)
  have hmade:(w.alloc (.cells #[] 72)).ownsRow w.heap.size 72 1 (.slice (some ⟨w.heap.size,0,none⟩) 0 0) 0 []:=World.ownsRow_made w #[] 0 (zN9 _) (by decide) rfl
  have HR:=hQ9 hr1
  clear hr hr1
  go_enter Tryz.func220,Tryz.ntmps220
  go_wp2_with(at_builtin;refine zx rfl _ _ _ rfl w.heap.size 72 i0 _ 8 Tryz.underlying75 hi0 hz0 hz1 hz2 rfl _ 0 [] rfl hmade B (some ad) l.length c (u64L l) rfl (kU l) HR.out (fun u hu=>by obtain⟨n,_,rfl⟩:=List.mem_map.1 hu;rfl) (by unfold maxLen;omega) (by omega) (by simp) ?_;intro v2 w2 hown2 hgrow hat)
  simp only [Nat.zero_add,List.nil_append]at hown2
  obtain⟨A2,c2,rfl,hrd,hn1,hab⟩:=zby hown2
  go_wp2_with fail
  go_ret
  exact⟨A2,c2,rfl,hrd,fun ad h=>(hab ad h).1,((Below.refl _ _).alloc (zN9 _) _).grown hgrow (by simp) (fun g hg=>by have h':some w.heap.size=some g:=hg;injection h' with h';omega)⟩
def SP.mv (S:SP) (A:Option Addr) (c:Nat):SP:={ S with A:=A,c:=c }
theorem SP.mv_ok {S:SP} (h:S.ok) (A:Option Addr) (c:Nat):(S.mv A c).ok:=⟨h.cm,h.who,h.at_,h.sw,h.lf,h.s,h.len,h.l⟩
theorem SP.mv_C (S:SP) (A:Option Addr) (c:Nat):S.C.toList.set 23 (.slice A S.l.length c)=(S.mv A c).C.toList:=rfl
theorem zk0 (S:SP) (hS:S.ok) (w:World) (ha:S.at w) :
 Calls Tryz.prog 184 #[.agg S.C] w fun e w'=>∃ A c,e=.returned (.agg (S.mv A c).C)∧(S.mv A c).at w'∧(∀ ad,A=some ad→w.heap.size≤ad.block)∧Grew w w':=by
 have z1:=(Ag.new w 157 S.C).grew (ze (za _) (.cells (zS24) 157))
 have z2:Ag ((w.alloc (.cells S.C 157)).alloc (.cells (zS24) 157)) (w.heap.size+1) ((zS24):Array Value).toList:=by
  have:=Ag.new (w.alloc (.cells S.C 157)) 157 (zS24)
  simpa using this
 have G0:=ze (ze (za w) (.cells S.C 157)) (.cells (zS24) 157)
 have ha0:=ha.gr G0
 have hc23:((w.alloc (.cells S.C 157)).alloc (.cells (#[.int .u64 0,.int .i64 0,.int .i64 0,.int .i64 0,.int .i64 0,.int .u64 0,.int .u64 0,.int .u64 0,.int .u64 0,.int .u64 0,.int .u64 0,.int .u64 0,.int .u64 0,.int .u64 0,.int .u64 0,.int .u64 0,.int .u64 0,.int .u64 0,.int .u64 0,.int .u64 0,.int .u64 0,.int .u64 0,.int .u64 0,.slice none 0 0]) 157)).cell? ⟨w.heap.size,23,none⟩=some (.slice S.A S.l.length S.c):=by simpa using z1.cell 23 _ rfl
 have CC:=hQ9 (zcs S.A S.c _ S.l (by have:=hS.len;omega) _ ha0 (zN9 _))
 have hut:=Tryz.underlying157
 have HSZ:Hid (S.C.toList.length=24):=hQ9 rfl
 have HMV:=hQ9 (fun A c=>S.mv_C A c)
 have HZI:=hQ9 z1
 clear ha ha0 z1
 go_enter Tryz.func184,Tryz.ntmps184
 go_wp2_with fail
 refine(CC.out).mono ?_
 rintro e w1 ⟨A2,c2,rfl,hr2,hb2,g1⟩
 have z1:=HZI.out.grew g1
 have z2':=z2.grew g1
 have G1:=zb G0 g1
 have hb0:w.heap.size+2≤((w.alloc (.cells S.C 157)).alloc (.cells (#[.int .u64 0,.int .i64 0,.int .i64 0,.int .i64 0,.int .i64 0,.int .u64 0,.int .u64 0,.int .u64 0,.int .u64 0,.int .u64 0,.int .u64 0,.int .u64 0,.int .u64 0,.int .u64 0,.int .u64 0,.int .u64 0,.int .u64 0,.int .u64 0,.int .u64 0,.int .u64 0,.int .u64 0,.int .u64 0,.int .u64 0,.slice none 0 0]) 157)).heap.size:=by simp [zl]
 have hb2':∀ ad,A2=some ad→w.heap.size+2≤ad.block:=fun ad h=>Nat.le_trans hb0 (hb2 ad h)
 have hc1:w1.cell? ⟨w.heap.size,23,none⟩=some (.slice S.A S.l.length S.c):=by simpa using z1.cell 23 _ rfl
 have fc1:w1.frozen? ⟨w.heap.size,23,none⟩=false:=by simpa using (z1.there 23 (by rw [HSZ.out];omega)).2
 have y1:=z1.set1 23 (.slice A2 S.l.length c2) (by rw [HSZ.out];omega)
 rw [HMV.out]at y1
 have K1:=yH (S:=fun j=>j=w.heap.size) (zQ _ w1) (p:=⟨w.heap.size,23,none⟩) (.inl rfl) (.slice A2 S.l.length c2)
 have z3:=z2'.kp K1 (fun e=>by omega)
 have r3:=(hr2.kp K1 (zN9 _) (fun ad h _ e=>by have:=hb2' ad h;omega)).more K1.size
 have G3:Grew w (w1.setCell ⟨w.heap.size,23,none⟩ (.slice A2 S.l.length c2)):=zV G1 K1 G1.size (fun i e=>by have e':i=w.heap.size:=e;omega)
 clear CC HZI z2 z1 z2' hc23 hb2 hb0 G0 g1 hr2 G1
 have HM:=hQ9 y1.cell
 have SI1:Hid (zI9 157=some (S.mv A2 c2).C.toList.length):=hQ9 zK
 have SI2:Hid (zI9 157=some (S.mv A2 c2).C.size):=hQ9 zK
 have HON:=hQ9 (S.mv A2 c2).one
 have HTH:Hid ((w1.setCell ⟨w.heap.size,23,none⟩ (.slice A2 S.l.length c2)).there (w.heap.size+1) 0 (S.mv A2 c2).C.size):=hQ9 (z3.thereN 24 rfl)
 have z4:=Ag.set (vs:=(S.mv A2 c2).C.toList) z3 rfl
 have K4:=zn (S.mv A2 c2).C.toList (w.heap.size+1) 0 (w1.setCell ⟨w.heap.size,23,none⟩ (.slice A2 S.l.length c2))
 have G4:Grew w ((w1.setCell ⟨w.heap.size,23,none⟩ (.slice A2 S.l.length c2)).setCells (w.heap.size+1) 0 (S.mv A2 c2).C.toList):=zh (o:=0) (b:=w.heap.size+1) _ G3 (by omega)
 have r4:=(r3.kp K4 (zN9 _) (fun ad h _ e=>by have:=hb2' ad h;omega)).more K4.size
 have hm:=HM.out
 clear z3 y1 r3 G3 K1 K4
 go_wp2_with(first
  | (with_reducible refine wpList_load_mid rfl 157 (.tmp 1) rfl w.heap.size 0 rfl (S.mv A2 c2).C.toList _ hm hut rfl SI1.out ?_;simp only [zT9])
  | (with_reducible refine wpList_store_mid rfl 157 (.tmp 2) (.tmp 9) rfl (w.heap.size+1) 0 (S.mv A2 c2).C rfl rfl HTH.out SI2.out HON.out ?_))
 exact bodyPost_ret (zL Tryz.results184 _ _ (w.heap.size+1) _ _ rfl z4 hut rfl zK) rfl ⟨A2,c2,rfl,r4,(fun ad h=>by have:=hb2' ad h;omega),G4⟩
structure MvL (L M:List SP):Prop where
 len:M.length=L.length
 each:∀ k (h:k<L.length) (h':k<M.length),∃ A c,M[k]=L[k].mv A c
theorem MvL.nil:MvL [] []:=⟨rfl,fun k h=>absurd h (by simp)⟩
theorem MvL.snoc {L M:List SP} (h:MvL L M) (S:SP) (A:Option Addr) (c:Nat):MvL (L++[S]) (M++[S.mv A c]):=by
 refine⟨by simp [h.len],fun k h1 h2=>?_⟩
 by_cases hk:k<L.length
 ·rw [List.getElem_append_left hk,List.getElem_append_left (by rw [h.len];exact hk)]
  exact h.each k hk _
 ·have hk':k=L.length:=by have h3:(L++[S]).length=L.length+1:=by simp
                          omega
  subst hk'
  refine⟨A,c,?_⟩
  have e1:(L++[S])[L.length]'h1=S:=by simp
  have e2:(M++[S.mv A c])[L.length]'h2=S.mv A c:=by
   have:∀ n (hn:n<(M++[S.mv A c]).length),n=M.length→(M++[S.mv A c])[n]=S.mv A c:=fun n hn e=>by subst e;simp
   exact this _ _ h.len.symm
  rw [e1,e2]
theorem at_lt {S:SP} {w:World} (h:S.at w):∀ ad,S.A=some ad→S.l=[]∨ad.block<w.heap.size:=fun ad e=>by
 cases hl:S.l with
 | nil=>exact .inl rfl
 | cons a r =>
  obtain⟨ad',e',hb,_⟩:=h 0 (by simp [u64L,hl])
  rw [e]at e';cases e'
  exact .inr hb
theorem yQ {S:SP} {w w':World} {row:Option Nat} (h:S.at w) (k:w.grownBy w' row) (hn:∀ ad,S.A=some ad→∀ g,row=some g→S.l=[]∨ad.block≠g):S.at w':=by
 by_cases hl:S.l=[]
 ·intro j hj;rw [hl]at hj;exact absurd hj (by simp [u64L])
 ·exact jt h k (fun ad e hh=>by
   rcases hn ad e ad.block hh with h1 | h1
   ·exact hl h1
   ·exact h1 rfl)
theorem ziz (A:Option Addr) (c:Nat) (L:List SP) (hl:L.length≤100000) (w:World) (hL:Sps w A L) :
 Calls Tryz.prog 135 #[.slice A L.length c,.func (.func 184) #[] #[]] w fun e w'=>∃ B c' M,e=.returned (.slice B L.length c')∧MvL L M∧Sps w' B M∧L.length≤c'∧c'≤maxLen∧(∀ ad,B=some ad→w.heap.size≤ad.block)∧(∀ S∈M,∀ ad,S.A=some ad→S.l=[]∨w.heap.size≤ad.block)∧Grew w w':=by
 obtain⟨i0,hi,hz0,hz1,hz2⟩:=info_parts qc
 have hut:=Tryz.underlying157
 have HL:=hQ9 hL
 have hr:=hL.rd
 clear hL
 obtain⟨w1,hmk,hown1,hgrow1⟩:=run_make_own (P:=Tryz.prog) w w.heap.size 41 157 i0 (.agg (zS24:Array Value)) 24 Tryz.underlying41 hi hz0 hz1 .i64 .i64 L.length (by rw [hz2];omega) (by unfold maxLen;omega) (zN9 _)
 have hg1:Grew w w1:=(Below.refl _ w).grown hgrow1 (zN9 _) (fun j hj=>by cases hj)
 clear hgrow1
 go_enter Tryz.func135,Tryz.ntmps135
 go_wp2_with fail
 clear hmk
 go_loopw [5,13] (fun rv iv wr=>∃(i:Nat) (M:List SP),i≤L.length∧iv=.int .i64 i∧MvL (L.take i) M∧(∀ S∈M,S.ok)∧(∀ S∈M,S.at wr)∧(∀ S∈M,∀ ad,S.A=some ad→∀ g,rv.ownBlock=some g→S.l=[]∨ad.block≠g)∧(∀ S∈M,∀ ad,S.A=some ad→S.l=[]∨w.heap.size≤ad.block)∧wr.ownsRow w.heap.size 157 24 rv i (spL M).flatten∧Grew w wr) (fun _ i _=>L.length-(Go.RowKit.intOf i).toNat)
 case atStart=>exact⟨0,[],Nat.zero_le _,rfl,by simpa using MvL.nil,by simp,by simp,by simp,by simp,by simpa [spL]using hown1,hg1⟩
 case round =>
  obtain⟨i,M,hil,rfl,hmv,hok,hat,hne,hlow,hrow,hg⟩:=hrel
  by_cases hlt:i<L.length
  ·obtain⟨q,hA,hq,hm⟩:=RdC.at24 hr hg i hlt
   subst hA
   have hts:L.take (i+1)=L.take i++[L[i]]:=by rw [List.take_succ_eq_append_getElem hlt]
   have HTS:=hQ9 hts
   have hSok:=HL.out.ok L[i] (List.getElem_mem hlt)
   have hSat:=(HL.out.at_ L[i] (List.getElem_mem hlt)).gr hg
   clear hts
   have hi0:(0:Int)≤(i:Int):=by omega
   have hi1:(i:Int)<(L.length:Int):=by omega
   have e4:IntKind.i64.wrap ((i:Int)+1)=(i:Int)+1:=IntWalk.i64_in _ (by omega)
   generalize L[i]=S at *
   have SIS:Hid (zI9 157=some S.C.toList.length):=hQ9 zK
   have SIZ:Hid (zI9 157=some S.C.size):=hQ9 zK
   have HON:=hQ9 S.one
   obtain⟨w2,hw2,ht2,g2,z2⟩:=x9 wr S.C rfl
   have HW2:=hQ9 hw2
   have HT2:=hQ9 ht2
   have hm2:=z2.cell
   have CCP:=hQ9 (zk0 S hSok w2 (hSat.gr g2))
   have HOK:=hQ9 hok
   have HNE:=hQ9 hne
   have HLW:=hQ9 hlow
   have hwz:=hg.size
   have HWZ:=hQ9 hwz
   have HMV:=hQ9 hmv
   have HAT:=hQ9 (fun S hS=>(hat S hS).gr g2)
   have HSO:=hQ9 hSok
   clear hw2 ht2 hok hne hlow hmv hat hSok hSat hwz
   go_wp2_with(first
    | (with_reducible refine wpList_load_mid rfl 157 (.tmp 15) rfl q (i*24) rfl S.C.toList _ hm hut rfl SIS.out ?_;simp only [zT9])
    | (with_reducible refine wpList_store_mid rfl 157 (.tmp 7) (.tmp 16) rfl wr.heap.size 0 S.C rfl rfl HT2.out SIZ.out HON.out ?_;rw [HW2.out])
    | (with_reducible refine wpList_load_mid rfl 157 (.tmp 7) rfl wr.heap.size 0 rfl S.C.toList _ hm2 hut rfl SIS.out ?_;simp only [zT9]))
   refine(CCP.out).mono ?_
   rintro e w3 ⟨A2,c2,rfl,hat2,hfr2,gg⟩
   have G3:=zb hg (zb g2 gg)
   have hrow3:=zo (S:=fun _=>False) hrow (zF (zb g2 gg)) (fun g _ h=>h)
   have hsz3:=G3.size
   have hsz:(S.mv A2 c2).C.size=24:=rfl
   have HAT3:=hQ9 (fun T hT=>(HAT.out T hT).gr gg)
   have HOB:=hQ9 (zN hrow)
   have hgz:=(zb g2 gg).size
   have HFR:Hid (∀ ad,A2=some ad→S.l=[]∨wr.heap.size≤ad.block):=hQ9 (fun ad h=>.inr (Nat.le_trans g2.size (hfr2 ad h)))
   clear hrow hm hm2 z2 g2 gg hg HT2 HW2 CCP HAT
   go_wp2_with(first
    | (at_builtin;rw [xN];refine zO _ rfl (.tmp 17) (.tmp 21) 41 rfl w.heap.size 157 i0 (.agg (#[.int .u64 0,.int .i64 0,.int .i64 0,.int .i64 0,.int .i64 0,.int .u64 0,.int .u64 0,.int .u64 0,.int .u64 0,.int .u64 0,.int .u64 0,.int .u64 0,.int .u64 0,.int .u64 0,.int .u64 0,.int .u64 0,.int .u64 0,.int .u64 0,.int .u64 0,.int .u64 0,.int .u64 0,.int .u64 0,.int .u64 0,.slice none 0 0]:Array Value)) 24 208 Tryz.underlying41 hi hz0 hz1 hz2 rfl (by decide) _ _ _ rfl (hrow3.alloc _) ⟨w3.heap.size,0,none⟩ 1 1 (S.mv A2 c2).C.toList rfl rfl (fun j u hj=>yg w3 (S.mv A2 c2).C 157 j u hj) (S.mv A2 c2).one' (by unfold maxLen;omega) (by omega) (by simp;omega) ?_;intro v' w5 hown5 hgrow5 hob5))
   have ga:=ze (za w3) (.cells (S.mv A2 c2).C 157)
   go_roundw
   case rel =>
    refine⟨i+1,M++[S.mv A2 c2],by omega,by go_num,by rw [HTS.out];exact HMV.out.snoc S A2 c2,?_,?_,?_,?_,by rw [xo];exact hown5,(ze G3 _).grown hgrow5 (by simp;omega) (zu hrow3)⟩
    ·intro T hT
     rcases List.mem_append.1 hT with h | h
     ·exact HOK.out T h
     ·obtain rfl:T=S.mv A2 c2:=by simpa using h
      exact SP.mv_ok HSO.out _ _
    ·intro T hT
     rcases List.mem_append.1 hT with h | h
     ·exact yQ ((HAT3.out T h).gr ga) hgrow5 (fun ad e g hg=>HNE.out T h ad e g hg)
     ·obtain rfl:T=S.mv A2 c2:=by simpa using h
      exact yQ (hat2.gr ga) hgrow5 (fun ad e g hg=>by
       rcases HFR.out ad e with h1 | h1
       ·exact .inl h1
       ·have:=(HOB.out g hg).2
        exact .inr (by omega))
    ·intro T hT ad e g hg
     have hlt9:T.l=[]∨ad.block<(w3.alloc (.cells (S.mv A2 c2).C 157)).heap.size:=by
      rcases List.mem_append.1 hT with h | h
      ·exact at_lt ((HAT3.out T h).gr ga) ad e
      ·obtain rfl:T=S.mv A2 c2:=by simpa using h
       exact at_lt (hat2.gr ga) ad e
     rcases hob5 with h3 | h3
     ·rw [h3]at hg
      rcases List.mem_append.1 hT with h | h
      ·exact HNE.out T h ad e g hg
      ·obtain rfl:T=S.mv A2 c2:=by simpa using h
       rcases HFR.out ad e with h1 | h1
       ·exact .inl h1
       ·have:=(HOB.out g hg).2
        exact .inr (by omega)
     ·rw [h3]at hg;injection hg with hg
      rcases hlt9 with h1 | h1
      ·exact .inl h1
      ·exact .inr (by omega)
    ·intro T hT ad e
     rcases List.mem_append.1 hT with h | h
     ·exact HLW.out T h ad e
     ·obtain rfl:T=S.mv A2 c2:=by simpa using h
      rcases HFR.out ad e with h1 | h1
      ·exact .inl h1
      ·exact .inr (Nat.le_trans HWZ.out h1)
   case measure=>simp [Go.RowKit.intOf];omega
  ·obtain rfl:i=L.length:=by omega
   rw [List.take_length]at hmv
   obtain⟨B,c',rfl,hB,hc1,hc2,hbB⟩:=xO hrow hmv.len
   go_wp2_with fail
   go_ret
   exact⟨B,c',M,rfl,hmv,⟨hB,hok,hat⟩,hc1,hc2,fun ad e=>(hbB ad e).1,hlow,hg⟩
theorem Ag.setTail {w:World} {b:Nat} {pre old vs:List Value} (h:Ag w b (pre++old)) (hl:vs.length=old.length):Ag (w.setCells b pre.length vs) b (pre++vs):=by
 have hle:(pre++old).length=(pre++vs).length:=by simp [hl]
 have ht:w.there b pre.length vs.length:=fun i hi=>by
  have:=h.there (pre.length+i) (by rw [List.length_append];omega)
  simpa using this
 have hs:=World.rangeAt_setCells_same w b pre.length vs ht
 refine⟨fun j v hj=>?_,fun j hj=>⟨?_,?_⟩,Nat.lt_of_lt_of_le h.lt (zn vs b pre.length w).size⟩
 ·by_cases hlt:j<pre.length
  ·rw [List.getElem?_append_left hlt]at hj
   rw [World.cell?_setCells_out b vs pre.length w _ (fun _ _=>.inl (by simpa using hlt))]
   exact h.cell j v (by rw [List.getElem?_append_left hlt];exact hj)
  ·rw [List.getElem?_append_right (by omega)]at hj
   have:=hs (j-pre.length) v hj
   rwa [show pre.length+(j-pre.length)=0+j by omega]at this
 ·exact World.isSome_setCells b vs pre.length w _ (h.there j (by rw [hle];exact hj)).1
 ·rw [World.frozen?_setCells];exact(h.there j (by rw [hle];exact hj)).2
theorem zhb (who lf:Int) (s:Nat→Nat) (A:Option Addr) (c:Nat) (l:List Nat) (hl:l.length≤1000) (w:World) (ha:Rd w w.heap.size A (u64L l)) :
 Calls Tryz.prog 171 #[.agg (sgC who lf s (.slice A l.length c))] w fun e w'=>∃ A2 c2,e=.returned (.agg (sgC who lf s (.slice A2 l.length c2)))∧Rd w' w'.heap.size A2 (u64L l)∧(∀ ad,A2=some ad→w.heap.size≤ad.block)∧Grew w w':=by
 have z1:=(Ag.new w 77 (sgC who lf s (.slice A l.length c))).grew (ze (za _) (.cells (zS21) 77))
 have z2:Ag ((w.alloc (.cells (sgC who lf s (.slice A l.length c)) 77)).alloc (.cells (zS21) 77)) (w.heap.size+1) ((zS21):Array Value).toList:=by
  have:=Ag.new (w.alloc (.cells (sgC who lf s (.slice A l.length c)) 77)) 77 (zS21)
  simpa using this
 have G0:=ze (ze (za w) (.cells (sgC who lf s (.slice A l.length c)) 77)) (.cells (zS21) 77)
 have ha0:=Rd.gr ha G0
 have hc23:((w.alloc (.cells (sgC who lf s (.slice A l.length c)) 77)).alloc (.cells (#[.int .i64 0,.int .i64 0,.int .u64 0,.int .u64 0,.int .u64 0,.int .u64 0,.int .u64 0,.int .u64 0,.int .u64 0,.int .u64 0,.int .u64 0,.int .u64 0,.int .u64 0,.int .u64 0,.int .u64 0,.int .u64 0,.int .u64 0,.int .u64 0,.int .u64 0,.int .u64 0,.slice none 0 0]) 77)).cell? ⟨w.heap.size,20,none⟩=some (.slice A l.length c):=by simpa using z1.cell 20 _ rfl
 have CC:=hQ9 (zcs A c _ l (by omega) _ ha0 (zN9 _))
 have hut:=Tryz.underlying77
 have HSZ:Hid ((sgC who lf s (.slice A l.length c)).toList.length=21):=hQ9 rfl
 have HMV:=hQ9 (show ∀ A2 c2,(sgC who lf s (.slice A l.length c)).toList.set 20 (.slice A2 l.length c2)=(sgC who lf s (.slice A2 l.length c2)).toList from fun A2 c2=>rfl)
 have HZI:=hQ9 z1
 clear ha ha0 z1
 go_enter Tryz.func171,Tryz.ntmps171
 go_wp2_with fail
 refine(CC.out).mono ?_
 rintro e w1 ⟨A2,c2,rfl,hr2,hb2,g1⟩
 have z1:=HZI.out.grew g1
 have z2':=z2.grew g1
 have G1:=zb G0 g1
 have hb0:w.heap.size+2≤((w.alloc (.cells (sgC who lf s (.slice A l.length c)) 77)).alloc (.cells (#[.int .i64 0,.int .i64 0,.int .u64 0,.int .u64 0,.int .u64 0,.int .u64 0,.int .u64 0,.int .u64 0,.int .u64 0,.int .u64 0,.int .u64 0,.int .u64 0,.int .u64 0,.int .u64 0,.int .u64 0,.int .u64 0,.int .u64 0,.int .u64 0,.int .u64 0,.int .u64 0,.slice none 0 0]) 77)).heap.size:=by simp [zl]
 have hb2':∀ ad,A2=some ad→w.heap.size+2≤ad.block:=fun ad h=>Nat.le_trans hb0 (hb2 ad h)
 have hc1:w1.cell? ⟨w.heap.size,20,none⟩=some (.slice A l.length c):=by simpa using z1.cell 20 _ rfl
 have fc1:w1.frozen? ⟨w.heap.size,20,none⟩=false:=by simpa using (z1.there 20 (by rw [HSZ.out];omega)).2
 have y1:=z1.set1 20 (.slice A2 l.length c2) (by rw [HSZ.out];omega)
 rw [HMV.out]at y1
 have K1:=yH (S:=fun j=>j=w.heap.size) (zQ _ w1) (p:=⟨w.heap.size,20,none⟩) (.inl rfl) (.slice A2 l.length c2)
 have z3:=z2'.kp K1 (fun e=>by omega)
 have r3:=(hr2.kp K1 (zN9 _) (fun ad h _ e=>by have:=hb2' ad h;omega)).more K1.size
 have G3:Grew w (w1.setCell ⟨w.heap.size,20,none⟩ (.slice A2 l.length c2)):=zV G1 K1 G1.size (fun i e=>by have e':i=w.heap.size:=e;omega)
 clear CC HZI z2 z1 z2' hc23 hb2 hb0 G0 g1 hr2 G1
 have HM:=hQ9 y1.cell
 have SI1:Hid (zI9 77=some (sgC who lf s (.slice A2 l.length c2)).toList.length):=hQ9 zG
 have SI2:Hid (zI9 77=some (sgC who lf s (.slice A2 l.length c2)).size):=hQ9 zG
 have HON:=hQ9 (yS who lf s A2 l.length c2)
 have HTH:Hid ((w1.setCell ⟨w.heap.size,20,none⟩ (.slice A2 l.length c2)).there (w.heap.size+1) 0 (sgC who lf s (.slice A2 l.length c2)).size):=hQ9 (z3.thereN 21 rfl)
 have z4:=Ag.set (vs:=(sgC who lf s (.slice A2 l.length c2)).toList) z3 rfl
 have K4:=zn (sgC who lf s (.slice A2 l.length c2)).toList (w.heap.size+1) 0 (w1.setCell ⟨w.heap.size,20,none⟩ (.slice A2 l.length c2))
 have G4:Grew w ((w1.setCell ⟨w.heap.size,20,none⟩ (.slice A2 l.length c2)).setCells (w.heap.size+1) 0 (sgC who lf s (.slice A2 l.length c2)).toList):=zh (o:=0) (b:=w.heap.size+1) _ G3 (by omega)
 have r4:=(r3.kp K4 (zN9 _) (fun ad h _ e=>by have:=hb2' ad h;omega)).more K4.size
 have hm:=HM.out
 clear z3 y1 r3 G3 K1 K4
 go_wp2_with(first
  | (with_reducible refine wpList_load_mid rfl 77 (.tmp 1) rfl w.heap.size 0 rfl (sgC who lf s (.slice A2 l.length c2)).toList _ hm hut rfl SI1.out ?_;simp only [zT9])
  | (with_reducible refine wpList_store_mid rfl 77 (.tmp 2) (.tmp 7) rfl (w.heap.size+1) 0 (sgC who lf s (.slice A2 l.length c2)) rfl rfl HTH.out SI2.out HON.out ?_))
 exact bodyPost_ret (zL Tryz.results171 _ _ (w.heap.size+1) _ _ rfl z4 hut rfl zG) rfl ⟨A2,c2,rfl,r4,(fun ad h=>by have:=hb2' ad h;omega),G4⟩
theorem qz (who lf:Int) (s:Nat→Nat) (A:Option Addr) (n c:Nat):(sgC who lf s (.slice A n c)).toList.length=21:=rfl
def AP.mv (S:AP) (A:Option Addr) (c:Nat):AP:={ S with A:=A,c:=c }
theorem AP.mv_ok {S:AP} (h:S.ok) (A:Option Addr) (c:Nat):(S.mv A c).ok:=⟨h.cm,h.who,h.sw,h.lf,h.s,h.len,h.l⟩
theorem AP.mv_C (S:AP) (A:Option Addr) (c:Nat):(S.mv A c).C.toList=[.int .u64 (S.cm:Nat),.int .i64 S.who]++(sgC S.sw S.lf S.s (.slice A S.l.length c)).toList:=rfl
theorem AP.C_eq (S:AP):S.C.toList=[.int .u64 (S.cm:Nat),.int .i64 S.who]++(sgC S.sw S.lf S.s (.slice S.A S.l.length S.c)).toList:=rfl
theorem zk1 (S:AP) (hS:S.ok) (w:World) (ha:S.at w) :
 Calls Tryz.prog 112 #[.agg S.C] w fun e w'=>∃ A c,e=.returned (.agg (S.mv A c).C)∧(S.mv A c).at w'∧(∀ ad,A=some ad→w.heap.size≤ad.block)∧Grew w w':=by
 have z1:=(Ag.new w 79 S.C).grew (ze (za _) (.cells (zA23) 79))
 have z2:Ag ((w.alloc (.cells S.C 79)).alloc (.cells (zA23) 79)) (w.heap.size+1) (zA23:Array Value).toList:=by
  have:=Ag.new (w.alloc (.cells S.C 79)) 79 (zA23)
  simpa using this
 have G0:=ze (ze (za w) (.cells S.C 79)) (.cells (zA23) 79)
 have ha0:=ha.gr G0
 have CC:=hQ9 (zhb S.sw S.lf S.s S.A S.c S.l hS.len _ ha0)
 have hut:=Tryz.underlying79
 have hus:=Tryz.underlying77
 have HZI:=hQ9 z1
 have hm0:((w.alloc (.cells S.C 79)).alloc (.cells (zA23) 79)).rangeAt w.heap.size 2 (sgC S.sw S.lf S.s (.slice S.A S.l.length S.c)).toList:=x7 z1.cell
 have HSG:Hid (zI9 77=some (sgC S.sw S.lf S.s (.slice S.A S.l.length S.c)).toList.length):=hQ9 zG
 clear ha ha0 z1
 go_enter Tryz.func112,Tryz.ntmps112
 go_wp2_with(with_reducible refine wpList_load_mid rfl 77 (.tmp 3) rfl w.heap.size 2 rfl (sgC S.sw S.lf S.s (.slice S.A S.l.length S.c)).toList _ hm0 hus rfl HSG.out ?_;simp only [zT9])
 refine(CC.out).mono ?_
 rintro e w1 ⟨A2,c2,rfl,hr2,hb2,g1⟩
 have z1:=HZI.out.grew g1
 have z2':=z2.grew g1
 have G1:=zb G0 g1
 have hb0:w.heap.size+2≤((w.alloc (.cells S.C 79)).alloc (.cells (zA23) 79)).heap.size:=by rw [zl,zl];omega
 have hb2':∀ ad,A2=some ad→w.heap.size+2≤ad.block:=fun ad h=>Nat.le_trans hb0 (hb2 ad h)
 have SIG:Hid (zI9 77=some (sgC S.sw S.lf S.s (.slice A2 S.l.length c2)).size):=hQ9 zG
 have ONG:=hQ9 (yS S.sw S.lf S.s A2 S.l.length c2)
 have THG:Hid (w1.there w.heap.size 2 (sgC S.sw S.lf S.s (.slice A2 S.l.length c2)).size):=hQ9 (fun i hi=>by
  have hi':i<21:=hi
  have:=z1.there (2+i) (by show 2+i<23;omega)
  simpa using this)
 have y1:Ag (w1.setCells w.heap.size 2 (sgC S.sw S.lf S.s (.slice A2 S.l.length c2)).toList) w.heap.size (S.mv A2 c2).C.toList:=by
  rw [AP.C_eq]at z1
  rw [AP.mv_C]
  exact(Ag.setTail (pre:=[.int .u64 (S.cm:Nat),.int .i64 S.who]) (old:=(sgC S.sw S.lf S.s (.slice S.A S.l.length S.c)).toList) (vs:=(sgC S.sw S.lf S.s (.slice A2 S.l.length c2)).toList) z1 (by rw [qz,qz]))
 have K1:=zn (sgC S.sw S.lf S.s (.slice A2 S.l.length c2)).toList w.heap.size 2 w1
 have z3:=z2'.kp K1 (fun e=>by omega)
 have r3:=(hr2.kp K1 (zN9 _) (fun ad h _ e=>by have:=hb2' ad h;omega)).more K1.size
 have G3:=zh (o:=2) (b:=w.heap.size) (sgC S.sw S.lf S.s (.slice A2 S.l.length c2)).toList G1 (zN9 _)
 obtain⟨w2,hw2⟩:∃ v,w1.setCells w.heap.size 2 (sgC S.sw S.lf S.s (.slice A2 S.l.length c2)).toList=v:=⟨_,rfl⟩
 rw [hw2]at y1 z3 r3 G3
 have HW2:=hQ9 hw2
 clear CC HZI z2 z1 z2' hb2 hb0 G0 g1 hr2 G1 K1 hw2 hm0 HSG
 have SI1:Hid (zI9 79=some (S.mv A2 c2).C.toList.length):=hQ9 zJ
 have SI2:Hid (zI9 79=some (S.mv A2 c2).C.size):=hQ9 zJ
 have HON:=hQ9 (S.mv A2 c2).one
 have HTH:Hid (w2.there (w.heap.size+1) 0 (S.mv A2 c2).C.size):=hQ9 (z3.thereN 23 rfl)
 have z4:=Ag.set (vs:=(S.mv A2 c2).C.toList) z3 rfl
 have K4:=zn (S.mv A2 c2).C.toList (w.heap.size+1) 0 w2
 have G4:=zh (o:=0) (b:=w.heap.size+1) (S.mv A2 c2).C.toList G3 (by omega)
 have r4:=(r3.kp K4 (zN9 _) (fun ad h _ e=>by have:=hb2' ad h;omega)).more K4.size
 have hm:=y1.cell
 clear z3 y1 r3 G3 K4
 go_wp2_with(first
  | (with_reducible refine wpList_store_mid rfl 77 (.tmp 6) (.tmp 5) rfl w.heap.size 2 (sgC S.sw S.lf S.s (.slice A2 S.l.length c2)) rfl rfl THG.out SIG.out ONG.out ?_;rw [HW2.out])
  | (with_reducible refine wpList_load_mid rfl 79 (.tmp 1) rfl w.heap.size 0 rfl (S.mv A2 c2).C.toList _ hm hut rfl SI1.out ?_;simp only [zT9])
  | (with_reducible refine wpList_store_mid rfl 79 (.tmp 2) (.tmp 7) rfl (w.heap.size+1) 0 (S.mv A2 c2).C rfl rfl HTH.out SI2.out HON.out ?_))
 exact bodyPost_ret (zL Tryz.results112 _ _ (w.heap.size+1) _ _ rfl z4 hut rfl zJ) rfl ⟨A2,c2,rfl,r4,(fun ad h=>by have:=hb2' ad h;omega),G4⟩
structure MvA (L M:List AP):Prop where
 len:M.length=L.length
 each:∀ k (h:k<L.length) (h':k<M.length),∃ A c,M[k]=L[k].mv A c
theorem MvA.nil:MvA [] []:=⟨rfl,fun k h=>absurd h (by simp)⟩
theorem MvA.snoc {L M:List AP} (h:MvA L M) (S:AP) (A:Option Addr) (c:Nat):MvA (L++[S]) (M++[S.mv A c]):=by
 refine⟨by simp [h.len],fun k h1 h2=>?_⟩
 by_cases hk:k<L.length
 ·rw [List.getElem_append_left hk,List.getElem_append_left (by rw [h.len];exact hk)]
  exact h.each k hk _
 ·have hk':k=L.length:=by have h3:(L++[S]).length=L.length+1:=by simp
                          omega
  subst hk'
  refine⟨A,c,?_⟩
  have e1:(L++[S])[L.length]'h1=S:=by simp
  have e2:(M++[S.mv A c])[L.length]'h2=S.mv A c:=by
   have:∀ n (hn:n<(M++[S.mv A c]).length),n=M.length→(M++[S.mv A c])[n]=S.mv A c:=fun n hn e=>by subst e;simp
   exact this _ _ h.len.symm
  rw [e1,e2]
theorem yJ {S:AP} {w:World} (h:S.at w):∀ ad,S.A=some ad→S.l=[]∨ad.block<w.heap.size:=fun ad e=>by
 cases hl:S.l with
 | nil=>exact .inl rfl
 | cons a r =>
  obtain⟨ad',e',hb,_⟩:=h 0 (by simp [u64L,hl])
  rw [e]at e';cases e'
  exact .inr hb
theorem yO {S:AP} {w w':World} {row:Option Nat} (h:S.at w) (k:w.grownBy w' row) (hn:∀ ad,S.A=some ad→∀ g,row=some g→S.l=[]∨ad.block≠g):S.at w':=by
 by_cases hl:S.l=[]
 ·intro j hj;rw [hl]at hj;exact absurd hj (by simp [u64L])
 ·exact jt h k (fun ad e hh=>by
   rcases hn ad e ad.block hh with h1 | h1
   ·exact hl h1
   ·exact h1 rfl)
theorem ze1 (A:Option Addr) (c:Nat) (L:List AP) (hl:L.length≤100000) (w:World) (hL:Aps w A L) :
 Calls Tryz.prog 111 #[.slice A L.length c,.func (.func 112) #[] #[]] w fun e w'=>∃ B c' M,e=.returned (.slice B L.length c')∧MvA L M∧Aps w' B M∧L.length≤c'∧c'≤maxLen∧(∀ ad,B=some ad→w.heap.size≤ad.block)∧(∀ S∈M,∀ ad,S.A=some ad→S.l=[]∨w.heap.size≤ad.block)∧Grew w w':=by
 obtain⟨i0,hi,hz0,hz1,hz2⟩:=info_parts zbe
 have hut:=Tryz.underlying79
 have HL:=hQ9 hL
 have hr:=hL.rd
 clear hL
 obtain⟨w1,hmk,hown1,hgrow1⟩:=run_make_own (P:=Tryz.prog) w w.heap.size 104 79 i0 (.agg (zA23:Array Value)) 23 Tryz.underlying104 hi hz0 hz1 .i64 .i64 L.length (by rw [hz2];omega) (by unfold maxLen;omega) (zN9 _)
 have hg1:Grew w w1:=(Below.refl _ w).grown hgrow1 (zN9 _) (fun j hj=>by cases hj)
 clear hgrow1
 go_enter Tryz.func111,Tryz.ntmps111
 go_wp2_with fail
 clear hmk
 go_loopw [5,13] (fun rv iv wr=>∃(i:Nat) (M:List AP),i≤L.length∧iv=.int .i64 i∧MvA (L.take i) M∧(∀ S∈M,S.ok)∧(∀ S∈M,S.at wr)∧(∀ S∈M,∀ ad,S.A=some ad→∀ g,rv.ownBlock=some g→S.l=[]∨ad.block≠g)∧(∀ S∈M,∀ ad,S.A=some ad→S.l=[]∨w.heap.size≤ad.block)∧wr.ownsRow w.heap.size 79 23 rv i (apL M).flatten∧Grew w wr) (fun _ i _=>L.length-(Go.RowKit.intOf i).toNat)
 case atStart=>exact⟨0,[],Nat.zero_le _,rfl,by simpa using MvA.nil,by simp,by simp,by simp,by simp,by simpa [apL]using hown1,hg1⟩
 case round =>
  obtain⟨i,M,hil,rfl,hmv,hok,hat,hne,hlow,hrow,hg⟩:=hrel
  by_cases hlt:i<L.length
  ·obtain⟨q,hA,hq,hm⟩:=RdC.at23 hr hg i hlt
   subst hA
   have hts:L.take (i+1)=L.take i++[L[i]]:=by rw [List.take_succ_eq_append_getElem hlt]
   have HTS:=hQ9 hts
   have hSok:=HL.out.ok L[i] (List.getElem_mem hlt)
   have hSat:=(HL.out.at_ L[i] (List.getElem_mem hlt)).gr hg
   clear hts
   have hi0:(0:Int)≤(i:Int):=by omega
   have hi1:(i:Int)<(L.length:Int):=by omega
   have e4:IntKind.i64.wrap ((i:Int)+1)=(i:Int)+1:=IntWalk.i64_in _ (by omega)
   generalize L[i]=S at *
   have SIS:Hid (zI9 79=some S.C.toList.length):=hQ9 zJ
   have SIZ:Hid (zI9 79=some S.C.size):=hQ9 zJ
   have HON:=hQ9 S.one
   obtain⟨w2,hw2,ht2,g2,z2⟩:=jg wr S.C rfl
   have HW2:=hQ9 hw2
   have HT2:=hQ9 ht2
   have hm2:=z2.cell
   have CCP:=hQ9 (zk1 S hSok w2 (hSat.gr g2))
   have HOK:=hQ9 hok
   have HNE:=hQ9 hne
   have HLW:=hQ9 hlow
   have hwz:=hg.size
   have HWZ:=hQ9 hwz
   have HMV:=hQ9 hmv
   have HAT:=hQ9 (fun S hS=>(hat S hS).gr g2)
   have HSO:=hQ9 hSok
   clear hw2 ht2 hok hne hlow hmv hat hSok hSat hwz
   go_wp2_with(first
    | (with_reducible refine wpList_load_mid rfl 79 (.tmp 15) rfl q (i*23) rfl S.C.toList _ hm hut rfl SIS.out ?_;simp only [zT9])
    | (with_reducible refine wpList_store_mid rfl 79 (.tmp 7) (.tmp 16) rfl wr.heap.size 0 S.C rfl rfl HT2.out SIZ.out HON.out ?_;rw [HW2.out])
    | (with_reducible refine wpList_load_mid rfl 79 (.tmp 7) rfl wr.heap.size 0 rfl S.C.toList _ hm2 hut rfl SIS.out ?_;simp only [zT9]))
   refine(CCP.out).mono ?_
   rintro e w3 ⟨A2,c2,rfl,hat2,hfr2,gg⟩
   have G3:=zb hg (zb g2 gg)
   have hrow3:=zo (S:=fun _=>False) hrow (zF (zb g2 gg)) (fun g _ h=>h)
   have hsz3:=G3.size
   have hsz:(S.mv A2 c2).C.size=23:=rfl
   have HAT3:=hQ9 (fun T hT=>(HAT.out T hT).gr gg)
   have HOB:=hQ9 (zN hrow)
   have hgz:=(zb g2 gg).size
   have HFR:Hid (∀ ad,A2=some ad→S.l=[]∨wr.heap.size≤ad.block):=hQ9 (fun ad h=>.inr (Nat.le_trans g2.size (hfr2 ad h)))
   clear hrow hm hm2 z2 g2 gg hg HT2 HW2 CCP HAT
   go_wp2_with(first
    | (at_builtin;rw [xP];refine zO _ rfl (.tmp 17) (.tmp 21) 104 rfl w.heap.size 79 i0 (.agg (#[.int .u64 0,.int .i64 0,.int .i64 0,.int .i64 0,.int .u64 0,.int .u64 0,.int .u64 0,.int .u64 0,.int .u64 0,.int .u64 0,.int .u64 0,.int .u64 0,.int .u64 0,.int .u64 0,.int .u64 0,.int .u64 0,.int .u64 0,.int .u64 0,.int .u64 0,.int .u64 0,.int .u64 0,.int .u64 0,.slice none 0 0]:Array Value)) 23 200 Tryz.underlying104 hi hz0 hz1 hz2 rfl (by decide) _ _ _ rfl (hrow3.alloc _) ⟨w3.heap.size,0,none⟩ 1 1 (S.mv A2 c2).C.toList rfl rfl (fun j u hj=>yg w3 (S.mv A2 c2).C 79 j u hj) (S.mv A2 c2).one' (by unfold maxLen;omega) (by omega) (by simp;omega) ?_;intro v' w5 hown5 hgrow5 hob5))
   have ga:=ze (za w3) (.cells (S.mv A2 c2).C 79)
   go_roundw
   case rel =>
    refine⟨i+1,M++[S.mv A2 c2],by omega,by go_num,by rw [HTS.out];exact HMV.out.snoc S A2 c2,?_,?_,?_,?_,by rw [xp];exact hown5,(ze G3 _).grown hgrow5 (by simp;omega) (zu hrow3)⟩
    ·intro T hT
     rcases List.mem_append.1 hT with h | h
     ·exact HOK.out T h
     ·obtain rfl:T=S.mv A2 c2:=by simpa using h
      exact AP.mv_ok HSO.out _ _
    ·intro T hT
     rcases List.mem_append.1 hT with h | h
     ·exact yO ((HAT3.out T h).gr ga) hgrow5 (fun ad e g hg=>HNE.out T h ad e g hg)
     ·obtain rfl:T=S.mv A2 c2:=by simpa using h
      exact yO (hat2.gr ga) hgrow5 (fun ad e g hg=>by
       rcases HFR.out ad e with h1 | h1
       ·exact .inl h1
       ·have:=(HOB.out g hg).2
        exact .inr (by omega))
    ·intro T hT ad e g hg
     have hlt9:T.l=[]∨ad.block<(w3.alloc (.cells (S.mv A2 c2).C 79)).heap.size:=by
      rcases List.mem_append.1 hT with h | h
      ·exact yJ ((HAT3.out T h).gr ga) ad e
      ·obtain rfl:T=S.mv A2 c2:=by simpa using h
       exact yJ (hat2.gr ga) ad e
     rcases hob5 with h3 | h3
     ·rw [h3]at hg
      rcases List.mem_append.1 hT with h | h
      ·exact HNE.out T h ad e g hg
      ·obtain rfl:T=S.mv A2 c2:=by simpa using h
       rcases HFR.out ad e with h1 | h1
       ·exact .inl h1
       ·have:=(HOB.out g hg).2
        exact .inr (by omega)
     ·rw [h3]at hg;injection hg with hg
      rcases hlt9 with h1 | h1
      ·exact .inl h1
      ·exact .inr (by omega)
    ·intro T hT ad e
     rcases List.mem_append.1 hT with h | h
     ·exact HLW.out T h ad e
     ·obtain rfl:T=S.mv A2 c2:=by simpa using h
      rcases HFR.out ad e with h1 | h1
      ·exact .inl h1
      ·exact .inr (Nat.le_trans HWZ.out h1)
   case measure=>simp [Go.RowKit.intOf];omega
  ·obtain rfl:i=L.length:=by omega
   rw [List.take_length]at hmv
   obtain⟨B,c',rfl,hB,hc1,hc2,hbB⟩:=y6 hrow hmv.len
   go_wp2_with fail
   go_ret
   exact⟨B,c',M,rfl,hmv,⟨hB,hok,hat⟩,hc1,hc2,fun ad e=>(hbB ad e).1,hlow,hg⟩
def Cm.cells (c:Cm):Array Value:=#[.int .i64 c.cl,.int .i64 c.no,.int .i64 c.fr,.int .i64 c.tt,.int .i64 c.am]
def ctC (c:Cm) (A:Option Addr) (n k:Nat):Array Value:=#[.int .i64 c.cl,.int .i64 c.no,.int .i64 c.fr,.int .i64 c.tt,.int .i64 c.am,.slice A n k]
theorem znq (c:Cm) (A:Option Addr) (n k:Nat):Tryz.prog.built 43 [(0,.agg c.cells),(1,.slice A n k)]=some (ctC c A n k):=by kernel_rfl
theorem yh:(Tryz.prog.info? 43).map (·.size)=some 6:=by kernel_rfl
theorem kx (c:Cm) (A:Option Addr) (n k:Nat):(ctC c A n k).all (·.oneCell')=true:=by simp [ctC,Value.oneCell']
structure MvR (w:World) (B0:Nat) (L:List SP) (v:Value):Prop where
 out:∃ B k M,v=.slice B L.length k∧MvL L M∧Sps w B M∧(∀ ad,B=some ad→B0≤ad.block)∧(∀ S∈M,∀ ad,S.A=some ad→S.l=[]∨B0≤ad.block)
theorem MvR.gr {w w':World} {B0:Nat} {L:List SP} {v:Value} (h:MvR w B0 L v) (g:Grew w w'):MvR w' B0 L v:=by
 obtain⟨B,k,M,h1,h2,h3,h4⟩:=h.out
 exact⟨B,k,M,h1,h2,h3.gr g,h4⟩
structure CtR (w:World) (B0:Nat) (c:Cm) (L:List SP) (v:Value):Prop where
 out:∃ B k M,v=.agg (ctC c B L.length k)∧MvL L M∧Sps w B M∧(∀ ad,B=some ad→B0≤ad.block)∧(∀ S∈M,∀ ad,S.A=some ad→S.l=[]∨B0≤ad.block)
theorem CtR.gr {w w':World} {B0:Nat} {c:Cm} {L:List SP} {v:Value} (h:CtR w B0 c L v) (g:Grew w w'):CtR w' B0 c L v:=by
 obtain⟨B,k,M,h1,h2,h3,h4⟩:=h.out
 exact⟨B,k,M,h1,h2,h3.gr g,h4⟩
theorem Sps.kpx {w w':World} {A:Option Addr} {L:List SP} {S:Nat→Prop} (h:Sps w A L) (k:Kp S w w') (hA:∀ ad,A=some ad→¬S ad.block) (hM:∀ T∈L,∀ ad,T.A=some ad→T.l=[]∨¬S ad.block):Sps w' A L :=
 ⟨h.rd.kp k (fun q e=>hA _ e),h.ok,fun T hT=>by
  have h0:=h.at_ T hT
  by_cases hl:T.l=[]
  ·intro j hj;rw [hl]at hj;exact absurd hj (by simp [u64L])
  ·exact(Rd.kp h0 k (zN9 _) (fun ad e _=>by
    rcases hM T hT ad e with h1 | h1
    ·exact absurd h1 hl
    ·exact h1)).more k.size⟩
theorem xj {c:Cm} (h:okC c):c.in:=by
 unfold okC at h
 exact Cm.in_of ⟨by omega,by omega⟩ ⟨by omega,by omega⟩ ⟨by omega,by omega⟩ ⟨by omega,by omega⟩ ⟨by omega,by omega⟩
theorem ka {w:World} {b:Nat} {K:KP} (h:Ag w b K.C.toList):w.rangeAt b 0 [.int .i64 K.f]:=fun j v hj=>by
 have hj0:j=0:=by have:=(List.getElem?_eq_some_iff.1 hj).1;simpa using this
 subst hj0
 have h0:v=.int .i64 K.f:=by simpa using hj.symm
 rw [h0]
 exact h.cell 0 _ rfl
theorem qd (w:World) (t:TypeId) (v:Value):∃ W,w.alloc (.cells #[v] t)=W∧Grew w W∧W.cell? ⟨w.heap.size,0,none⟩=some v :=
 ⟨_,rfl,ze (za w) _,by simp⟩
theorem zk4 (c:Cm) {K:KP} (hK:K.ok) (A:Option Addr) (cap:Nat) (L:List SP) (hl:L.length≤100000) (hc:okC c) (w:World) (hS:Std w) (hk:K.at w) (hL:Sps w A L) (hen:enoughB K (dgC c) L=true) :
 Calls Tryz.prog 124 #[.agg K.C,c.v,.slice A L.length cap] w fun e w'=>∃ B k M,e=.returned (.tuple #[.agg (ctC c B (chosen K (dgC c) L).length k),.int .i64 0])∧MvL (chosen K (dgC c) L) M∧Sps w' B M∧(∀ ad,B=some ad→w.heap.size≤ad.block)∧(∀ S∈M,∀ ad,S.A=some ad→S.l=[]∨w.heap.size≤ad.block)∧Grew w w':=by
 have huk:=Tryz.underlying91
 have huc:=Tryz.underlying40
 have hut:=Tryz.underlying43
 have huf:=Tryz.underlying89
 have HCF:Hid (zI9 89=some [Value.int .i64 K.f].length):=hQ9 (by kernel_rfl)
 have SIC:Hid (zI9 40=some c.cells.toList.length):=hQ9 (show _=some 5 by kernel_rfl)
 have z0:=((Ag.new w 91 K.C).grew (ze (za _) (.cells c.cells 40))).grew (ze (za _) (.cells (zS6) 43))
 have z1:=(Ag.new (w.alloc (.cells K.C 91)) 40 c.cells).grew (ze (za _) (.cells (zS6) 43))
 have z2:=Ag.new ((w.alloc (.cells K.C 91)).alloc (.cells c.cells 40)) 43 (zS6)
 rw [zl]at z1
 rw [zl,zl]at z2
 have G0:=ze (ze (ze (za w) (.cells K.C 91)) (.cells c.cells 40)) (.cells (zS6) 43)
 have hcv:c.v=.agg c.cells:=rfl
 have CC:=hQ9 (fun W=>zcj c W)
 have hck:=kZ hc
 rw [hck]at CC
 have HCI:=hQ9 (xj hc)
 have HS:=hQ9 hS
 have HKA:=hQ9 hk
 have HLA:=hQ9 hL
 have CD:=hQ9 (fun W h=>jZ c HCI.out W h)
 rw [hcv]at CC CD ⊢
 clear hcv hck hc hS hk hL
 have hm1:=z1.cell
 go_enter Tryz.func124,Tryz.ntmps124
 go_wp2_with(with_reducible refine wpList_load_mid rfl 40 (.tmp 4) rfl (w.heap.size+1) 0 rfl c.cells.toList _ hm1 huc rfl SIC.out ?_;simp only [zT9])
 refine(CC.out _).mono ?_
 rintro e w2 ⟨rfl,gg⟩
 have z0:=z0.grew gg
 have z1:=z1.grew gg
 have z2:=z2.grew gg
 have hm1':=hm1
 clear hm1
 have hm1:=z1.cell
 have G2:=zb G0 gg
 clear hm1' gg CC G0
 go_wp2_with(with_reducible refine wpList_load_mid rfl 40 (.tmp 4) rfl (w.heap.size+1) 0 rfl c.cells.toList _ hm1 huc rfl SIC.out ?_;simp only [zT9])
 refine(CD.out w2 (HS.out.grew G2)).mono ?_
 rintro e w3 ⟨rfl,gg⟩
 obtain⟨w4,hw4,g4,hd4⟩:=qd w3 72 (.int .u64 (dgC c:Nat))
 have HW4:=hQ9 hw4
 have g24:=zb gg g4
 have HZK:=hQ9 (z0.grew g24)
 have HZ1:=hQ9 (z1.grew g24)
 have HZ2:=hQ9 (z2.grew g24)
 have G4:=zb G2 g24
 have hmf:=ka HZK.out
 clear hm1 z0 z1 z2 gg g4 G2 CD hw4
 go_wp2_with(first
  | (rw [HW4.out];with_reducible refine wpList_load_mid rfl 89 (.tmp 21) rfl w.heap.size 0 rfl [.int .i64 K.f] _ hmf huf rfl HCF.out ?_))
 clear hmf
 have CQ:=ziy hK A cap L hl (dgC c) w3.heap.size w.heap.size w4 (HS.out.grew G4) (HKA.out.gr G4) (HLA.out.gr G4) hd4 HZK.out hen
 have hEl:(chosen K (dgC c) L).length≤100000:=by
  unfold chosen
  rw [List.length_take,yE]
  exact Nat.le_trans (Nat.min_le_right _ _) (Nat.le_trans (xl _ _) (Nat.le_trans (List.length_filter_le _ _) hl))
 obtain⟨E,hE⟩:∃ E,chosen K (dgC c) L=E:=⟨_,rfl⟩
 have HEE:=hQ9 hE
 rw [hE]at CQ hEl
 refine CQ.mono ?_
 rintro e w5 ⟨B,rfl,hSpE,g5⟩
 have HSPE:=hQ9 hSpE
 have HEL:=hQ9 hEl
 have G5:=zb G4 g5
 have HZ2':=hQ9 (HZ2.out.grew g5)
 have HMC:=hQ9 (fun y (g:Grew w5 y)=>(HZ1.out.grew (zb g5 g)).cell)
 have hsz5:w.heap.size+1+1<w5.heap.size:=HZ2'.out.lt
 clear hd4 g5 CQ hSpE hEl hE
 go_upto_region 8 with fail
 refine zv 4 (fun i=>match i with
  | 0=>fun v _=>v=.agg c.cells
  | 1=>fun v _=>v=.slice B E.length E.length
  | 2=>fun v w=>MvR w w5.heap.size E v
  | 3=>fun v w=>CtR w w5.heap.size c E v
  | _=>fun _ _=>True) (by kernel_rfl) (by kernel_rfl) ?_ ?_ ?_
 ·intro i v x y h hg
  match i,h with
  | 0,h | 1,h=>exact h
  | 2,h=>exact MvR.gr h hg
  | 3,h=>exact CtR.gr h hg
  | m+4,_=>trivial
 ·simp only [actOf,tk1,tk0,dr1,dr0,Act.put,si1,st1,st0,Nat.reduceAdd]
  refine⟨?_,?_,?_,?_,trivial⟩
  ·intro vs y hg hd
   dsimp only
   have hm:=HMC.out y hg
   go_wp2_with(with_reducible refine wpList_load_mid rfl 40 (.tmp 4) rfl (w.heap.size+1) 0 rfl c.cells.toList _ hm huc rfl SIC.out ?_;simp only [zT9])
   exact⟨rfl,_,rfl,za _,rfl⟩
  ·intro vs y hg hd
   dsimp only
   go_wp2_with fail
   exact⟨rfl,_,rfl,za _,rfl⟩
  ·intro vs y hg hd
   obtain⟨h1,_⟩:=hd
   replace h1:=h1 rfl
   dsimp only
   rw [show vs 1=_ from h1]
   have HSP:=hQ9 (HSPE.out.gr hg)
   go_wp2_with(go_at_call 135;refine(ziz B E.length E HEL.out y HSP.out).mono ?_;rintro e z ⟨B2,k2,M,rfl,hmv,hsp,hk1,hk2,hb2,hm2,gz⟩)
   exact⟨rfl,_,rfl,gz,⟨B2,k2,M,rfl,hmv,hsp,(fun ad h=>Nat.le_trans hg.size (hb2 ad h)),(fun S hS ad h=>by rcases hm2 S hS ad h with h1 | h1;exact .inl h1;exact .inr (Nat.le_trans hg.size h1))⟩⟩
  ·intro vs y hg hd
   obtain⟨h0,h2,_⟩:=hd
   replace h0:=h0 rfl
   replace h2:=h2 rfl
   dsimp only
   rw [show vs 0=_ from h0]
   obtain⟨B2,k2,M,hv,hmv,hsp,hb2,hm2⟩:=MvR.out h2
   rw [hv]
   have HBU:=hQ9 (znq c B2 E.length k2)
   go_wp2_with(with_reducible refine zC rfl 43 #[(0,.tmp 32),(1,.tmp 34)] rfl (ctC c B2 E.length k2) ?_ ?_;· simpa [Act.eval,Act.put]using HBU.out)
   exact⟨rfl,_,rfl,za _,⟨B2,k2,M,rfl,hmv,hsp,hb2,hm2⟩⟩
 ·intro vs y hg hJ
  have j0:vs 0=.agg c.cells:=hJ 0 (by decide)
  have j1:vs 1=.slice B E.length E.length:=hJ 1 (by decide)
  have s34:=hJ 2 (by decide)
  have s35:=hJ 3 (by decide)
  clear hJ
  simp only [actOf,tk1,tk0,dr1,dr0,Act.put,si1,st1,st0,Nat.reduceAdd]
  obtain⟨B2,k2,M,j9,hmv,hsp,hb2,hm2⟩:=CtR.out s35
  rw [j9]
  clear s34 s35 j9 j0 j1
  have z3:=HZ2'.out.grew hg
  have GG:=zb G5 hg
  have K3:=zn (ctC c B2 E.length k2).toList (w.heap.size+1+1) 0 y
  have hsp3:=hsp.kpx K3 (fun ad h e=>by have:=hb2 ad h;omega) (fun T hT ad h=>by
   rcases hm2 T hT ad h with h1 | h1
   ·exact .inl h1
   ·exact .inr (fun e=>by omega))
  have HTH:Hid (y.there (w.heap.size+1+1) 0 (ctC c B2 E.length k2).size):=hQ9 (z3.thereN 6 rfl)
  have HSI:Hid (zI9 43=some (ctC c B2 E.length k2).size):=hQ9 yh
  have HON:=hQ9 (kx c B2 E.length k2)
  have z4:=Ag.set (vs:=(ctC c B2 E.length k2).toList) z3 rfl
  have G6:=zh (o:=0) (b:=w.heap.size+1+1) (ctC c B2 E.length k2).toList GG (by omega)
  have HLB1:Hid (∀ ad,B2=some ad→w.heap.size≤ad.block):=hQ9 (fun ad h=>by have:=hb2 ad h;omega)
  have HLB2:Hid (∀ S∈M,∀ ad,S.A=some ad→S.l=[]∨w.heap.size≤ad.block):=hQ9 (fun S hS ad h=>(hm2 S hS ad h).imp id (fun h1=>by omega))
  clear z3 hsp hb2 hm2 K3 hg GG
  go_wp2_with(with_reducible refine wpList_store_mid rfl 43 (.tmp 6) (.tmp 35) rfl (w.heap.size+1+1) 0 (ctC c B2 E.length k2) rfl rfl HTH.out HSI.out HON.out ?_)
  exact bodyPost_ret (zw Tryz.results124 _ _ (w.heap.size+1+1) _ _ _ rfl rfl z4 hut rfl yh) rfl ⟨B2,k2,M,by rw [HEE.out];rfl,by rw [HEE.out];exact hmv,hsp3,HLB1.out,HLB2.out,G6⟩
noncomputable def vdE (K:KP) (d:Nat) (S:SP):Int:=if S.cm=d then vaS K S else 3
theorem vd1_sp {K:KP} {S:SP} (hK:K.ok) (hS:S.ok) (d bd bk:Nat) (w:World) (hs:Std w) (hk:K.at w) (ha:S.at w) (hd:w.cell? ⟨bd,0,none⟩=some (.int .u64 (d:Nat))) (hkc:Ag w bk K.C.toList) :
 Calls Tryz.prog 167 #[.agg S.C,.pointer (some ⟨bd,0,none⟩),.pointer (some ⟨bk,0,none⟩)] w fun e w'=>e=.returned (.int .i64 (vdE K d S))∧Grew w w':=by
 have zs:=Ag.new w 157 S.C
 have G:=ze (za w) (.cells S.C 157)
 have hc:(w.alloc (.cells S.C 157)).cell? ⟨w.heap.size,0,none⟩=some (.int .u64 (S.cm:Nat)):=by simpa using zs.cell 0 _ rfl
 have hd':(w.alloc (.cells S.C 157)).cell? ⟨bd,0,none⟩=some (.int .u64 (d:Nat)):=by
  rw [←hd]
  refine World.cell?_of_block (Below.heap_alloc _ _ _ ?_)
  rcases Nat.lt_or_ge bd w.heap.size with h | h
  ·exact h
  ·have:w.heap[bd]?=none:=Array.getElem?_eq_none h
   simp only [World.cell?,this]at hd
   cases hd
 have hut:=Tryz.underlying157
 have huk:=Tryz.underlying91
 have SIS:Hid (zI9 157=some S.C.toList.length):=hQ9 zK
 have SIK:Hid (zI9 91=some K.C.toList.length):=hQ9 (show _=some 3 by kernel_rfl)
 have hms:=zs.cell
 have hmk:=(hkc.grew G).cell
 have CV:=hQ9 (fun W h1 h2 h3=>zbd hK hS W h1 h2 h3)
 have HS:=hQ9 hs
 have HKA:=hQ9 hk
 have HSA:=hQ9 ha
 have HF:Hid (vdE K d S=if S.cm=d then vaS K S else 3):=hQ9 rfl
 clear zs hd hkc hs hk ha hK hS
 generalize S.C=g at *
 generalize K.C=gk at *
 generalize vaS K S=va at *
 by_cases hcd:S.cm=d
 ·have e1:((S.cm:Int) != (d:Int))=false:=by simp [hcd]
  have HCD:=hQ9 hcd
  clear hcd
  generalize S.cm=cm at *
  go_enter Tryz.func167,Tryz.ntmps167
  go_wp2_with(first
   | (with_reducible refine wpList_load_mid rfl 91 (.tmp 2) rfl bk 0 rfl gk.toList _ hmk huk rfl SIK.out ?_;simp only [zT9])
   | (with_reducible refine wpList_load_mid rfl 157 (.tmp 3) rfl w.heap.size 0 rfl g.toList _ hms hut rfl SIS.out ?_;simp only [zT9]))
  refine(CV.out _ (HS.out.grew G) (HKA.out.gr G) (HSA.out.gr G)).mono ?_
  rintro e w1 ⟨rfl,gg⟩
  have G2:=zb G gg
  have HE:Hid (vdE K d S=va):=hQ9 (by rw [HF.out,HCD.out,if_pos rfl])
  clear hms hmk hc hd' gg HF
  go_wp2_with fail
  go_ret
  exact⟨by rw [HE.out];rfl,G2⟩
 ·have e1:((S.cm:Int) != (d:Int))=true:=by simp;omega
  have HE:Hid (vdE K d S=3):=hQ9 (by rw [HF.out,if_neg hcd])
  clear hcd
  generalize S.cm=cm at *
  go_enter Tryz.func167,Tryz.ntmps167
  go_wp2_with fail
  go_ret
  exact⟨by rw [HE.out];rfl,G⟩
noncomputable def chqE (K:KP) (d:Nat):Option Int→List SP→Int
 | _,[]=>0
 | p,S::r=>if p.any (fun x=>decide (S.who≤x))=true then 10 else if vdE K d S=0 then chqE K d (some S.who) r else vdE K d S
def prevO (L:List SP):Nat→Option Int
 | 0=>none
 | j+1=>(L[j]?).map SP.who
theorem zhc {K:KP} {d:Nat} {p:Option Int} {S:SP} {r:List SP} (h:p.any (fun x=>decide (S.who≤x))=true):chqE K d p (S::r)=10:=by rw [chqE,if_pos h]
theorem xQ {K:KP} {d:Nat} {p:Option Int} {S:SP} {r:List SP} (h:p.any (fun x=>decide (S.who≤x))=false) (hv:vdE K d S=0):chqE K d p (S::r)=chqE K d (some S.who) r:=by rw [chqE,if_neg (by simp [h]),if_pos hv]
theorem zbz {K:KP} {d:Nat} {p:Option Int} {S:SP} {r:List SP} (h:p.any (fun x=>decide (S.who≤x))=false) (hv:¬vdE K d S=0):chqE K d p (S::r)=vdE K d S:=by rw [chqE,if_neg (by simp [h]),if_neg hv]
noncomputable def cqE (K:KP) (d:Nat) (L:List SP):Int:=if L.length=(2*K.f+1).toNat then chqE K d none L else 8
theorem kF {w w':World} {b o:Nat} {cs:List Value} (h:w.rangeAt b o cs) (hb:b<w.heap.size) (g:Grew w w'):w'.rangeAt b o cs:=fun j v hj=>by
 rw [←h j v hj]
 exact World.cell?_of_block (g.block b hb)
theorem chq_sp {K:KP} (hK:K.ok) (A:Option Addr) (c:Nat) (L:List SP) (hl:L.length≤100000) (d bd bk:Nat) (w:World) (hs:Std w) (hk:K.at w) (hL:Sps w A L) (hd:w.cell? ⟨bd,0,none⟩=some (.int .u64 (d:Nat))) (hkc:Ag w bk K.C.toList) :
 Calls Tryz.prog 165 #[.agg #[.int .i64 K.f],.slice A L.length c,.func (.func 166) #[] #[],.func (.func 167) #[] #[.pointer (some ⟨bd,0,none⟩),.pointer (some ⟨bk,0,none⟩)]] w fun e w'=>e=.returned (.int .i64 (cqE K d L))∧Grew w w':=by
 have huf:=Tryz.underlying89
 have hut:=Tryz.underlying157
 have HCF:Hid (zI9 89=some [Value.int .i64 K.f].length):=hQ9 (by kernel_rfl)
 have hf:=hK.f
 have CQ:=hQ9 (fun W=>qq_ok K.f hf W)
 have zk:=Ag.new w 89 #[.int .i64 K.f]
 have G1:=ze (za w) (.cells #[.int .i64 K.f] 89)
 have hm0:(w.alloc (.cells #[.int .i64 K.f] 89)).rangeAt w.heap.size 0 [.int .i64 K.f]:=zg2 zk
 have CVV:=hQ9 (fun S (hS:S∈L) W (g:Grew w W)=>vd1_sp hK (hL.ok S hS) d bd bk W (hs.grew g) (hk.gr g) ((hL.at_ S hS).gr g) (zX hd g) (hkc.grew g))
 obtain⟨qn,hqn⟩:∃ qn:Nat,2*K.f+1=(qn:Int):=⟨(2*K.f+1).toNat,by omega⟩
 have HCE:Hid (cqE K d L=if L.length=qn then chqE K d none L else 8):=hQ9 (by unfold cqE;rw [hqn,Int.toNat_natCast])
 rw [hqn]at CQ
 have hr:=hL.rd
 clear hs hk hd hkc hqn hf hL zk
 have hKf:True:=trivial
 generalize K.f=kf at CQ HCF hm0 G1 ⊢
 go_enter Tryz.func165,Tryz.ntmps165
 go_wp2_with(with_reducible refine wpList_load_mid rfl 89 (.tmp 4) rfl w.heap.size 0 rfl [.int .i64 kf] _ hm0 huf rfl HCF.out ?_)
 refine(CQ.out _).mono ?_
 rintro e w1 ⟨rfl,gg⟩
 have G2:=zb G1 gg
 clear hm0 G1 gg CQ
 by_cases hlen:L.length=qn
 case neg =>
  have e1:((L.length:Int) != (qn:Int))=true:=by simp;omega
  have HR:Hid (cqE K d L=8):=hQ9 (by rw [HCE.out,if_neg hlen])
  clear hlen
  go_wp2_with fail
  go_ret
  exact⟨by rw [HR.out];rfl,G2⟩
 have HR:Hid (cqE K d L=chqE K d none L):=hQ9 (by rw [HCE.out,if_pos hlen])
 have e1:((L.length:Int) != (qn:Int))=false:=by simp [hlen]
 clear hlen HCE
 go_wp2_with fail
 clear e1
 go_loopw [19] (fun iv wr=>∃ i:Nat,i≤L.length∧iv=.int .i64 i∧chqE K d none L=chqE K d (prevO L i) (L.drop i)∧Grew w wr) (fun iv _=>L.length-(Go.RowKit.intOf iv).toNat)
 case atStart=>exact⟨0,Nat.zero_le _,rfl,rfl,G2⟩
 case round =>
  obtain⟨i,hil,rfl,hinv,hg⟩:=hrel
  by_cases hlt:i<L.length
  ·obtain⟨q,hA,hq,hm⟩:=RdC.at24 hr hg i hlt
   subst hA
   have hdr:L.drop i=L[i]::L.drop (i+1):=by rw [List.drop_eq_getElem_cons hlt]
   have hnx:prevO L (i+1)=some (SP.who L[i]):=by show(L[i]?).map SP.who=_;rw [List.getElem?_eq_getElem hlt];rfl
   have CVi:=fun W g=>CVV.out L[i] (List.getElem_mem hlt) W g
   have hi0:(0:Int)≤(i:Int):=by omega
   have hi1:(i:Int)<(L.length:Int):=by omega
   rw [hdr]at hinv
   have hgP:∀ j (hj:j+1=i) (hj':j<L.length),prevO L i=some (SP.who L[j]):=fun j hj hj'=>by subst hj;show(L[j]?).map SP.who=_;rw [List.getElem?_eq_getElem hj'];rfl
   have hmP:∀ j (hj:j<L.length),wr.rangeAt q (j*24) L[j].C.toList:=fun j hj=>by
    obtain⟨q',e',_,h'⟩:=RdC.at24 hr hg j hj
    injection e' with e';injection e' with e';subst e';exact h'
   generalize L[i]=S at *
   have CVD:=hQ9 CVi
   have CWS:=hQ9 (fun W=>zey S W)
   have SIS:Hid (zI9 157=some S.C.toList.length):=hQ9 zK
   have SIZ:Hid (zI9 157=some S.C.size):=hQ9 zK
   have HON:=hQ9 S.one
   obtain⟨w2,hw2,ht2,g2,z2⟩:=x9 wr S.C rfl
   have HW2:=hQ9 hw2
   have HT2:=hQ9 ht2
   have HM2:=hQ9 (fun y (g:Grew w2 y)=>(z2.grew g).cell)
   have HNX:=hQ9 hnx
   have HINV:=hQ9 hinv
   clear hw2 ht2 CVi hdr hinv hnx z2
   go_upto_region 6 with (first
    | (with_reducible refine wpList_load_mid rfl 157 (.tmp 22) rfl q (i*24) rfl S.C.toList _ hm hut rfl SIS.out ?_;simp only [zT9])
    | (with_reducible refine wpList_store_mid rfl 157 (.tmp 10) (.tmp 23) rfl wr.heap.size 0 S.C rfl rfl HT2.out SIZ.out HON.out ?_;rw [HW2.out]))
   clear hm HT2 HW2 SIZ HON
   by_cases hz:i=0
   ·have HPA:Hid ((prevO L i).any (fun x=>decide (S.who≤x))=false):=hQ9 (by rw [hz];rfl)
    have b0:decide (0<i)=false:=zF9 (by omega)
    clear hz hgP hmP
    refine zv 14 (fun ix9=>match ix9 with
     | 0=>fun v _=>v=.int .i64 (i:Int)
     | 1=>fun v _=>v=.bool false
     | 2=>fun v _=>v=.bool false
     | 3=>fun v _=>v=undef
     | 4=>fun v _=>v=undef
     | 5=>fun v _=>v=undef
     | 6=>fun v _=>v=undef
     | 7=>fun v _=>v=undef
     | 8=>fun v _=>v=undef
     | 9=>fun v _=>v=undef
     | 10=>fun v _=>v=undef
     | 11=>fun v _=>v=undef
     | 12=>fun v _=>v=undef
     | 13=>fun v _=>v=undef
     | _=>fun _ _=>True) (by kernel_rfl) (by kernel_rfl) ?_ ?_ ?_
    ·intro i v x y h hg
     match i,h with
     | 0,h | 1,h | 2,h | 3,h | 4,h | 5,h | 6,h | 7,h | 8,h | 9,h | 10,h | 11,h | 12,h | 13,h=>exact h
     | m+14,_=>trivial
    ·simp only [actOf,tk1,tk0,dr1,dr0,Act.put,si1,st1,st0,Nat.reduceAdd]
     refine⟨?_,?_,?_,?_,?_,?_,?_,?_,?_,?_,?_,?_,?_,?_,trivial⟩
     ·intro vs y hg hd
      dsimp only
      go_wp2_with fail
      exact⟨rfl,_,rfl,za _,rfl⟩
     ·intro vs y hg hd
      obtain⟨h0,_⟩:=hd
      replace h0:=h0 rfl
      dsimp only
      rw [show vs 0=_ from h0]
      go_wp2_with fail
      exact⟨rfl,_,rfl,za _,rfl⟩
     ·intro vs y hg hd
      obtain⟨h1,_⟩:=hd
      replace h1:=h1 rfl
      dsimp only
      rw [show vs 1=_ from h1]
      go_wp2_with fail
      exact⟨rfl,_,rfl,za _,rfl⟩
     ·intro vs y hg hd
      have hx:(zB9 2 .guard→vs 2=.bool false)∧True:=hd
      have h2:vs 2=.bool false:=hx.1 rfl
      clear hx
      dsimp only
      rw [show vs 2=_ from h2]
      go_wp2_with fail
      exact⟨rfl,_,rfl,za _,rfl⟩
     ·intro vs y hg hd
      have hx:(zB9 2 .guard→vs 2=.bool false)∧True:=hd
      have h2:vs 2=.bool false:=hx.1 rfl
      clear hx
      dsimp only
      rw [show vs 2=_ from h2]
      go_wp2_with fail
      exact⟨rfl,_,rfl,za _,rfl⟩
     ·intro vs y hg hd
      have hx:(zB9 3 .data→vs 3=undef)∧(zB9 4 .data→vs 4=undef)∧(zB9 2 .chain→vs 2=.bool false)∧(zB9 2 .guard→vs 2=.bool false)∧True:=hd
      have h3:vs 3=undef:=hx.1 rfl
      have h4:vs 4=undef:=hx.2.1 rfl
      have h2:vs 2=.bool false:=hx.2.2.2.1 rfl
      clear hx
      dsimp only
      rw [show vs 3=_ from h3,show vs 4=_ from h4,show vs 2=_ from h2]
      go_wp2_with fail
      exact⟨rfl,_,rfl,za _,rfl⟩
     ·intro vs y hg hd
      have hx:(zB9 2 .guard→vs 2=.bool false)∧True:=hd
      have h2:vs 2=.bool false:=hx.1 rfl
      clear hx
      dsimp only
      rw [show vs 2=_ from h2]
      go_wp2_with fail
      exact⟨rfl,_,rfl,za _,rfl⟩
     ·intro vs y hg hd
      have hx:(zB9 2 .guard→vs 2=.bool false)∧True:=hd
      have h2:vs 2=.bool false:=hx.1 rfl
      clear hx
      dsimp only
      rw [show vs 2=_ from h2]
      go_wp2_with fail
      exact⟨rfl,_,rfl,za _,rfl⟩
     ·intro vs y hg hd
      have hx:(zB9 2 .guard→vs 2=.bool false)∧True:=hd
      have h2:vs 2=.bool false:=hx.1 rfl
      clear hx
      dsimp only
      rw [show vs 2=_ from h2]
      go_wp2_with fail
      exact⟨rfl,_,rfl,za _,rfl⟩
     ·intro vs y hg hd
      have hx:(zB9 8 .data→vs 8=undef)∧(zB9 2 .guard→vs 2=.bool false)∧True:=hd
      have h8:vs 8=undef:=hx.1 rfl
      have h2:vs 2=.bool false:=hx.2.1 rfl
      clear hx
      dsimp only
      rw [show vs 8=_ from h8,show vs 2=_ from h2]
      go_wp2_with fail
      exact⟨rfl,_,rfl,za _,rfl⟩
     ·intro vs y hg hd
      have hx:(zB9 7 .data→vs 7=undef)∧(zB9 9 .data→vs 9=undef)∧(zB9 2 .guard→vs 2=.bool false)∧True:=hd
      have h7:vs 7=undef:=hx.1 rfl
      have h9:vs 9=undef:=hx.2.1 rfl
      have h2:vs 2=.bool false:=hx.2.2.1 rfl
      clear hx
      dsimp only
      rw [show vs 7=_ from h7,show vs 9=_ from h9,show vs 2=_ from h2]
      go_wp2_with fail
      exact⟨rfl,_,rfl,za _,rfl⟩
     ·intro vs y hg hd
      have hx:(zB9 10 .data→vs 10=undef)∧(zB9 2 .guard→vs 2=.bool false)∧True:=hd
      have h10:vs 10=undef:=hx.1 rfl
      have h2:vs 2=.bool false:=hx.2.1 rfl
      clear hx
      dsimp only
      rw [show vs 10=_ from h10,show vs 2=_ from h2]
      go_wp2_with fail
      exact⟨rfl,_,rfl,za _,rfl⟩
     ·intro vs y hg hd
      have hx:(zB9 6 .data→vs 6=undef)∧(zB9 11 .data→vs 11=undef)∧(zB9 5 .chain→vs 5=undef)∧(zB9 2 .guard→vs 2=.bool false)∧True:=hd
      have h6:vs 6=undef:=hx.1 rfl
      have h11:vs 11=undef:=hx.2.1 rfl
      have h2:vs 2=.bool false:=hx.2.2.2.1 rfl
      clear hx
      dsimp only
      rw [show vs 6=_ from h6,show vs 11=_ from h11,show vs 2=_ from h2]
      go_wp2_with fail
      exact⟨rfl,_,rfl,za _,rfl⟩
     ·intro vs y hg hd
      have hx:(zB9 5 .data→vs 5=undef)∧(zB9 12 .data→vs 12=undef)∧(zB9 2 .guard→vs 2=.bool false)∧True:=hd
      have h5:vs 5=undef:=hx.1 rfl
      have h12:vs 12=undef:=hx.2.1 rfl
      have h2:vs 2=.bool false:=hx.2.2.1 rfl
      clear hx
      dsimp only
      rw [show vs 5=_ from h5,show vs 12=_ from h12,show vs 2=_ from h2]
      go_wp2_with fail
      exact⟨rfl,_,rfl,za _,rfl⟩
    ·intro vs w3 hg3 hJ
     have j0:vs 0=.int .i64 (i:Int):=hJ 0 (by decide)
     have j1:vs 1=.bool false:=hJ 1 (by decide)
     have j2:vs 2=.bool false:=hJ 2 (by decide)
     have j3:vs 3=undef:=hJ 3 (by decide)
     have j4:vs 4=undef:=hJ 4 (by decide)
     have j5:vs 5=undef:=hJ 5 (by decide)
     have j6:vs 6=undef:=hJ 6 (by decide)
     have j7:vs 7=undef:=hJ 7 (by decide)
     have j8:vs 8=undef:=hJ 8 (by decide)
     have j9:vs 9=undef:=hJ 9 (by decide)
     have j10:vs 10=undef:=hJ 10 (by decide)
     have j11:vs 11=undef:=hJ 11 (by decide)
     have j12:vs 12=undef:=hJ 12 (by decide)
     have j13:vs 13=undef:=hJ 13 (by decide)
     clear hJ
     simp only [actOf,tk1,tk0,dr1,dr0,Act.put,si1,st1,st0,Nat.reduceAdd]
     have G3:=zb hg (zb g2 hg3)
     have hm3:=HM2.out w3 hg3
     have e4:IntKind.i64.wrap ((i:Int)+1)=((i+1:Nat):Int):=by rw [IntWalk.i64_in _ (by omega)];omega
     go_wp2_with(with_reducible refine wpList_load_mid rfl 157 (.tmp 10) rfl wr.heap.size 0 rfl S.C.toList _ hm3 hut rfl SIS.out ?_;simp only [zT9])
     refine(CVD.out w3 (zb hg (zb g2 hg3))).mono ?_
     rintro e w4 ⟨rfl,gg⟩
     have G4:=zb G3 gg
     clear hm3 G3
     by_cases hv:vdE K d S=0
     ·have HSTEP:Hid (chqE K d none L=chqE K d (prevO L (i+1)) (L.drop (i+1))):=hQ9 (by rw [HINV.out,HNX.out];exact xQ HPA.out hv)
      rw [hv]
      clear hv
      go_wp2_with fail
      go_roundw
      case rel=>exact⟨i+1,by omega,rfl,HSTEP.out,G4⟩
      case measure=>simp [Go.RowKit.intOf];omega
     ·have e5:(vdE K d S != 0)=true:=by simpa using hv
      have HRES:Hid (chqE K d none L=vdE K d S):=hQ9 (by rw [HINV.out];exact zbz HPA.out hv)
      clear hv
      generalize vdE K d S=ve at *
      go_wp2_with fail
      go_ret
      exact⟨by rw [HR.out,HRES.out];rfl,G4⟩
   ·obtain⟨j,hj⟩:∃ j,i=j+1:=⟨i-1,by omega⟩
    have hmp:=hmP j (by omega)
    have hgp:=hgP j hj.symm (by omega)
    have b0:decide (0<i)=true:=decide_eq_true (by omega)
    have e33:IntKind.i64.wrap ((i:Int)-1)=(j:Int):=by rw [IntWalk.i64_in _ (by omega)];omega
    have hj0:(0:Int)≤(j:Int):=by omega
    have hj1:(j:Int)<(L.length:Int):=by omega
    clear hmP hgP hz
    generalize hPP:L[j]'(by omega)=P at hmp hgp
    clear hPP hj
    have CWP:=hQ9 (fun W=>zey P W)
    have SIP:Hid (zI9 157=some P.C.toList.length):=hQ9 zK
    have HMP:=hQ9 (fun y (g:Grew w2 y)=>kF hmp hq (zb g2 g))
    obtain⟨le,hle⟩:∃ le,decide (S.who≤P.who)=le:=⟨_,rfl⟩
    have HPA0:Hid ((prevO L i).any (fun x=>decide (S.who≤x))=le):=hQ9 (by rw [hgp,←hle];rfl)
    clear hgp hmp
    refine zv 14 (fun ix9=>match ix9 with
     | 0=>fun v _=>v=.int .i64 (i:Int)
     | 1=>fun v _=>v=.bool true
     | 2=>fun v _=>v=.bool true
     | 3=>fun v _=>v=.func (.func 166) #[] #[]
     | 4=>fun v _=>v=.agg S.C
     | 5=>fun v _=>v=.int .i64 S.who
     | 6=>fun v _=>v=.func (.func 166) #[] #[]
     | 7=>fun v _=>v=.slice (some ⟨q,0,none⟩) L.length c
     | 8=>fun v _=>v=.int .i64 (i:Int)
     | 9=>fun v _=>v=.int .i64 (j:Int)
     | 10=>fun v _=>v=.pointer (some ⟨q,j*24,none⟩)
     | 11=>fun v _=>v=.agg P.C
     | 12=>fun v _=>v=.int .i64 P.who
     | 13=>fun v _=>v=.bool le
     | _=>fun _ _=>True) (by kernel_rfl) (by kernel_rfl) ?_ ?_ ?_
    ·intro i v x y h hg
     match i,h with
     | 0,h | 1,h | 2,h | 3,h | 4,h | 5,h | 6,h | 7,h | 8,h | 9,h | 10,h | 11,h | 12,h | 13,h=>exact h
     | m+14,_=>trivial
    ·simp only [actOf,tk1,tk0,dr1,dr0,Act.put,si1,st1,st0,Nat.reduceAdd]
     refine⟨?_,?_,?_,?_,?_,?_,?_,?_,?_,?_,?_,?_,?_,?_,trivial⟩
     ·intro vs y hg hd
      dsimp only
      go_wp2_with fail
      exact⟨rfl,_,rfl,za _,rfl⟩
     ·intro vs y hg hd
      obtain⟨h0,_⟩:=hd
      replace h0:=h0 rfl
      dsimp only
      rw [show vs 0=_ from h0]
      go_wp2_with fail
      exact⟨rfl,_,rfl,za _,rfl⟩
     ·intro vs y hg hd
      obtain⟨h1,_⟩:=hd
      replace h1:=h1 rfl
      dsimp only
      rw [show vs 1=_ from h1]
      go_wp2_with fail
      exact⟨rfl,_,rfl,za _,rfl⟩
     ·intro vs y hg hd
      have hx:(zB9 2 .guard→vs 2=.bool true)∧True:=hd
      have h2:vs 2=.bool true:=hx.1 rfl
      clear hx
      dsimp only
      rw [show vs 2=_ from h2]
      go_wp2_with fail
      exact⟨rfl,_,rfl,za _,rfl⟩
     ·intro vs y hg hd
      have hx:(zB9 2 .guard→vs 2=.bool true)∧True:=hd
      have h2:vs 2=.bool true:=hx.1 rfl
      clear hx
      dsimp only
      rw [show vs 2=_ from h2]
      have hm:=HM2.out y hg
      go_wp2_with(refine zj (by rfl) 157 (.tmp 10) rfl wr.heap.size 0 rfl S.C.toList _ hm hut rfl SIS.out ?_;simp only [zT9])
      exact⟨rfl,_,rfl,za _,rfl⟩
     ·intro vs y hg hd
      have hx:(zB9 3 .data→vs 3=.func (.func 166) #[] #[])∧(zB9 4 .data→vs 4=.agg S.C)∧(zB9 2 .chain→vs 2=.bool true)∧(zB9 2 .guard→vs 2=.bool true)∧True:=hd
      have h3:vs 3=.func (.func 166) #[] #[]:=hx.1 rfl
      have h4:vs 4=.agg S.C:=hx.2.1 rfl
      have h2:vs 2=.bool true:=hx.2.2.2.1 rfl
      clear hx
      dsimp only
      rw [show vs 3=_ from h3,show vs 4=_ from h4,show vs 2=_ from h2]
      go_wp2_with(go_at_call 166;refine(CWS.out y).mono ?_;rintro e z ⟨rfl,gz⟩)
      exact⟨rfl,_,rfl,gz,rfl⟩
     ·intro vs y hg hd
      have hx:(zB9 2 .guard→vs 2=.bool true)∧True:=hd
      have h2:vs 2=.bool true:=hx.1 rfl
      clear hx
      dsimp only
      rw [show vs 2=_ from h2]
      go_wp2_with fail
      exact⟨rfl,_,rfl,za _,rfl⟩
     ·intro vs y hg hd
      have hx:(zB9 2 .guard→vs 2=.bool true)∧True:=hd
      have h2:vs 2=.bool true:=hx.1 rfl
      clear hx
      dsimp only
      rw [show vs 2=_ from h2]
      go_wp2_with fail
      exact⟨rfl,_,rfl,za _,rfl⟩
     ·intro vs y hg hd
      have hx:(zB9 2 .guard→vs 2=.bool true)∧True:=hd
      have h2:vs 2=.bool true:=hx.1 rfl
      clear hx
      dsimp only
      rw [show vs 2=_ from h2]
      go_wp2_with fail
      exact⟨rfl,_,rfl,za _,rfl⟩
     ·intro vs y hg hd
      have hx:(zB9 8 .data→vs 8=.int .i64 (i:Int))∧(zB9 2 .guard→vs 2=.bool true)∧True:=hd
      have h8:vs 8=.int .i64 (i:Int):=hx.1 rfl
      have h2:vs 2=.bool true:=hx.2.1 rfl
      clear hx
      dsimp only
      rw [show vs 8=_ from h8,show vs 2=_ from h2]
      go_wp2_with fail
      exact⟨rfl,_,rfl,za _,rfl⟩
     ·intro vs y hg hd
      have hx:(zB9 7 .data→vs 7=.slice (some ⟨q,0,none⟩) L.length c)∧(zB9 9 .data→vs 9=.int .i64 (j:Int))∧(zB9 2 .guard→vs 2=.bool true)∧True:=hd
      have h7:vs 7=.slice (some ⟨q,0,none⟩) L.length c:=hx.1 rfl
      have h9:vs 9=.int .i64 (j:Int):=hx.2.1 rfl
      have h2:vs 2=.bool true:=hx.2.2.1 rfl
      clear hx
      dsimp only
      rw [show vs 7=_ from h7,show vs 9=_ from h9,show vs 2=_ from h2]
      go_wp2_with fail
      exact⟨rfl,_,rfl,za _,rfl⟩
     ·intro vs y hg hd
      have hx:(zB9 10 .data→vs 10=.pointer (some ⟨q,j*24,none⟩))∧(zB9 2 .guard→vs 2=.bool true)∧True:=hd
      have h10:vs 10=.pointer (some ⟨q,j*24,none⟩):=hx.1 rfl
      have h2:vs 2=.bool true:=hx.2.1 rfl
      clear hx
      dsimp only
      rw [show vs 10=_ from h10,show vs 2=_ from h2]
      have hm:=HMP.out y hg
      go_wp2_with(refine zj (by rfl) 157 (.tmp 34) rfl q (j*24) rfl P.C.toList _ hm hut rfl SIP.out ?_;simp only [zT9])
      exact⟨rfl,_,rfl,za _,rfl⟩
     ·intro vs y hg hd
      have hx:(zB9 6 .data→vs 6=.func (.func 166) #[] #[])∧(zB9 11 .data→vs 11=.agg P.C)∧(zB9 5 .chain→vs 5=.int .i64 S.who)∧(zB9 2 .guard→vs 2=.bool true)∧True:=hd
      have h6:vs 6=.func (.func 166) #[] #[]:=hx.1 rfl
      have h11:vs 11=.agg P.C:=hx.2.1 rfl
      have h2:vs 2=.bool true:=hx.2.2.2.1 rfl
      clear hx
      dsimp only
      rw [show vs 6=_ from h6,show vs 11=_ from h11,show vs 2=_ from h2]
      go_wp2_with(go_at_call 166;refine(CWP.out y).mono ?_;rintro e z ⟨rfl,gz⟩)
      exact⟨rfl,_,rfl,gz,rfl⟩
     ·intro vs y hg hd
      have hx:(zB9 5 .data→vs 5=.int .i64 S.who)∧(zB9 12 .data→vs 12=.int .i64 P.who)∧(zB9 2 .guard→vs 2=.bool true)∧True:=hd
      have h5:vs 5=.int .i64 S.who:=hx.1 rfl
      have h12:vs 12=.int .i64 P.who:=hx.2.1 rfl
      have h2:vs 2=.bool true:=hx.2.2.1 rfl
      clear hx
      dsimp only
      rw [show vs 5=_ from h5,show vs 12=_ from h12,show vs 2=_ from h2]
      go_wp2_with fail
      exact⟨rfl,_,rfl,za _,rfl⟩
    ·intro vs w3 hg3 hJ
     have j0:vs 0=.int .i64 (i:Int):=hJ 0 (by decide)
     have j1:vs 1=.bool true:=hJ 1 (by decide)
     have j2:vs 2=.bool true:=hJ 2 (by decide)
     have j3:vs 3=.func (.func 166) #[] #[]:=hJ 3 (by decide)
     have j4:vs 4=.agg S.C:=hJ 4 (by decide)
     have j5:vs 5=.int .i64 S.who:=hJ 5 (by decide)
     have j6:vs 6=.func (.func 166) #[] #[]:=hJ 6 (by decide)
     have j7:vs 7=.slice (some ⟨q,0,none⟩) L.length c:=hJ 7 (by decide)
     have j8:vs 8=.int .i64 (i:Int):=hJ 8 (by decide)
     have j9:vs 9=.int .i64 (j:Int):=hJ 9 (by decide)
     have j10:vs 10=.pointer (some ⟨q,j*24,none⟩):=hJ 10 (by decide)
     have j11:vs 11=.agg P.C:=hJ 11 (by decide)
     have j12:vs 12=.int .i64 P.who:=hJ 12 (by decide)
     have j13:vs 13=.bool le:=hJ 13 (by decide)
     clear hJ
     simp only [actOf,tk1,tk0,dr1,dr0,Act.put,si1,st1,st0,Nat.reduceAdd]
     cases le
     ·have HPA:=HPA0
      clear HPA0 hle
      have G3:=zb hg (zb g2 hg3)
      have hm3:=HM2.out w3 hg3
      have e4:IntKind.i64.wrap ((i:Int)+1)=((i+1:Nat):Int):=by rw [IntWalk.i64_in _ (by omega)];omega
      go_wp2_with(with_reducible refine wpList_load_mid rfl 157 (.tmp 10) rfl wr.heap.size 0 rfl S.C.toList _ hm3 hut rfl SIS.out ?_;simp only [zT9])
      refine(CVD.out w3 (zb hg (zb g2 hg3))).mono ?_
      rintro e w4 ⟨rfl,gg⟩
      have G4:=zb G3 gg
      clear hm3 G3
      by_cases hv:vdE K d S=0
      ·have HSTEP:Hid (chqE K d none L=chqE K d (prevO L (i+1)) (L.drop (i+1))):=hQ9 (by rw [HINV.out,HNX.out];exact xQ HPA.out hv)
       rw [hv]
       clear hv
       go_wp2_with fail
       go_roundw
       case rel=>exact⟨i+1,by omega,rfl,HSTEP.out,G4⟩
       case measure=>simp [Go.RowKit.intOf];omega
      ·have e5:(vdE K d S != 0)=true:=by simpa using hv
       have HRES:Hid (chqE K d none L=vdE K d S):=hQ9 (by rw [HINV.out];exact zbz HPA.out hv)
       clear hv
       generalize vdE K d S=ve at *
       go_wp2_with fail
       go_ret
       exact⟨by rw [HR.out,HRES.out];rfl,G4⟩
     ·have HRES:Hid (chqE K d none L=10):=hQ9 (by rw [HINV.out];exact zhc HPA0.out)
      have G4:=zb hg (zb g2 hg3)
      go_wp2_with fail
      go_ret
      exact⟨by rw [HR.out,HRES.out];rfl,G4⟩
  ·obtain rfl:i=L.length:=by omega
   rw [List.drop_length]at hinv
   have HE:Hid (chqE K d none L=0):=hQ9 (by rw [hinv];cases prevO L L.length<;>rfl)
   clear hinv
   go_wp2_with fail
   go_ret
   exact⟨by rw [HR.out,HE.out];rfl,hg⟩
noncomputable def vdA (K:KP) (d:Nat) (S:AP):Int:=if S.cm=d then kvS K S else 3
theorem vd1_ap {K:KP} {S:AP} (hK:K.ok) (hS:S.ok) (d bd bk:Nat) (w:World) (hs:Std w) (hk:K.at w) (ha:S.at w) (hd:w.cell? ⟨bd,0,none⟩=some (.int .u64 (d:Nat))) (hkc:Ag w bk K.C.toList) :
 Calls Tryz.prog 118 #[.agg S.C,.pointer (some ⟨bd,0,none⟩),.pointer (some ⟨bk,0,none⟩)] w fun e w'=>e=.returned (.int .i64 (vdA K d S))∧Grew w w':=by
 have zs:=Ag.new w 79 S.C
 have G:=ze (za w) (.cells S.C 79)
 have hc:(w.alloc (.cells S.C 79)).cell? ⟨w.heap.size,0,none⟩=some (.int .u64 (S.cm:Nat)):=by simpa using zs.cell 0 _ rfl
 have hd':(w.alloc (.cells S.C 79)).cell? ⟨bd,0,none⟩=some (.int .u64 (d:Nat)):=by
  rw [←hd]
  refine World.cell?_of_block (Below.heap_alloc _ _ _ ?_)
  rcases Nat.lt_or_ge bd w.heap.size with h | h
  ·exact h
  ·have:w.heap[bd]?=none:=Array.getElem?_eq_none h
   simp only [World.cell?,this]at hd
   cases hd
 have hut:=Tryz.underlying79
 have huk:=Tryz.underlying91
 have SIS:Hid (zI9 79=some S.C.toList.length):=hQ9 zJ
 have SIK:Hid (zI9 91=some K.C.toList.length):=hQ9 (show _=some 3 by kernel_rfl)
 have hms:=zs.cell
 have hmk:=(hkc.grew G).cell
 have CV:=hQ9 (fun W h1 h2 h3=>ki hK hS W h1 h2 h3)
 have HS:=hQ9 hs
 have HKA:=hQ9 hk
 have HSA:=hQ9 ha
 have HF:Hid (vdA K d S=if S.cm=d then kvS K S else 3):=hQ9 rfl
 clear zs hd hkc hs hk ha hK hS
 generalize S.C=g at *
 generalize K.C=gk at *
 generalize kvS K S=va at *
 by_cases hcd:S.cm=d
 ·have e1:((S.cm:Int) != (d:Int))=false:=by simp [hcd]
  have HCD:=hQ9 hcd
  clear hcd
  generalize S.cm=cm at *
  go_enter Tryz.func118,Tryz.ntmps118
  go_wp2_with(first
   | (with_reducible refine wpList_load_mid rfl 91 (.tmp 2) rfl bk 0 rfl gk.toList _ hmk huk rfl SIK.out ?_;simp only [zT9])
   | (with_reducible refine wpList_load_mid rfl 79 (.tmp 3) rfl w.heap.size 0 rfl g.toList _ hms hut rfl SIS.out ?_;simp only [zT9]))
  refine(CV.out _ (HS.out.grew G) (HKA.out.gr G) (HSA.out.gr G)).mono ?_
  rintro e w1 ⟨rfl,gg⟩
  have G2:=zb G gg
  have HE:Hid (vdA K d S=va):=hQ9 (by rw [HF.out,HCD.out,if_pos rfl])
  clear hms hmk hc hd' gg HF
  go_wp2_with fail
  go_ret
  exact⟨by rw [HE.out];rfl,G2⟩
 ·have e1:((S.cm:Int) != (d:Int))=true:=by simp;omega
  have HE:Hid (vdA K d S=3):=hQ9 (by rw [HF.out,if_neg hcd])
  clear hcd
  generalize S.cm=cm at *
  go_enter Tryz.func118,Tryz.ntmps118
  go_wp2_with fail
  go_ret
  exact⟨by rw [HE.out];rfl,G⟩
noncomputable def chqA (K:KP) (d:Nat):Option Int→List AP→Int
 | _,[]=>0
 | p,S::r=>if p.any (fun x=>decide (S.who≤x))=true then 10 else if vdA K d S=0 then chqA K d (some S.who) r else vdA K d S
def prevA (L:List AP):Nat→Option Int
 | 0=>none
 | j+1=>(L[j]?).map AP.who
theorem zct {K:KP} {d:Nat} {p:Option Int} {S:AP} {r:List AP} (h:p.any (fun x=>decide (S.who≤x))=true):chqA K d p (S::r)=10:=by rw [chqA,if_pos h]
theorem yY {K:KP} {d:Nat} {p:Option Int} {S:AP} {r:List AP} (h:p.any (fun x=>decide (S.who≤x))=false) (hv:vdA K d S=0):chqA K d p (S::r)=chqA K d (some S.who) r:=by rw [chqA,if_neg (by simp [h]),if_pos hv]
theorem qe {K:KP} {d:Nat} {p:Option Int} {S:AP} {r:List AP} (h:p.any (fun x=>decide (S.who≤x))=false) (hv:¬vdA K d S=0):chqA K d p (S::r)=vdA K d S:=by rw [chqA,if_neg (by simp [h]),if_neg hv]
noncomputable def cqA (K:KP) (d:Nat) (L:List AP):Int:=if L.length=(2*K.f+1).toNat then chqA K d none L else 8
theorem chq_ap {K:KP} (hK:K.ok) (A:Option Addr) (c:Nat) (L:List AP) (hl:L.length≤100000) (d bd bk:Nat) (w:World) (hs:Std w) (hk:K.at w) (hL:Aps w A L) (hd:w.cell? ⟨bd,0,none⟩=some (.int .u64 (d:Nat))) (hkc:Ag w bk K.C.toList) :
 Calls Tryz.prog 117 #[.agg #[.int .i64 K.f],.slice A L.length c,.func (.func 109) #[] #[],.func (.func 118) #[] #[.pointer (some ⟨bd,0,none⟩),.pointer (some ⟨bk,0,none⟩)]] w fun e w'=>e=.returned (.int .i64 (cqA K d L))∧Grew w w':=by
 have huf:=Tryz.underlying89
 have hut:=Tryz.underlying79
 have HCF:Hid (zI9 89=some [Value.int .i64 K.f].length):=hQ9 (by kernel_rfl)
 have hf:=hK.f
 have CQ:=hQ9 (fun W=>qq_ok K.f hf W)
 have zk:=Ag.new w 89 #[.int .i64 K.f]
 have G1:=ze (za w) (.cells #[.int .i64 K.f] 89)
 have hm0:(w.alloc (.cells #[.int .i64 K.f] 89)).rangeAt w.heap.size 0 [.int .i64 K.f]:=zg2 zk
 have CVV:=hQ9 (fun S (hS:S∈L) W (g:Grew w W)=>vd1_ap hK (hL.ok S hS) d bd bk W (hs.grew g) (hk.gr g) ((hL.at_ S hS).gr g) (zX hd g) (hkc.grew g))
 obtain⟨qn,hqn⟩:∃ qn:Nat,2*K.f+1=(qn:Int):=⟨(2*K.f+1).toNat,by omega⟩
 have HCE:Hid (cqA K d L=if L.length=qn then chqA K d none L else 8):=hQ9 (by unfold cqA;rw [hqn,Int.toNat_natCast])
 rw [hqn]at CQ
 have hr:=hL.rd
 clear hs hk hd hkc hqn hf hL zk
 have hKf:True:=trivial
 generalize K.f=kf at CQ HCF hm0 G1 ⊢
 go_enter Tryz.func117,Tryz.ntmps117
 go_wp2_with(with_reducible refine wpList_load_mid rfl 89 (.tmp 4) rfl w.heap.size 0 rfl [.int .i64 kf] _ hm0 huf rfl HCF.out ?_)
 refine(CQ.out _).mono ?_
 rintro e w1 ⟨rfl,gg⟩
 have G2:=zb G1 gg
 clear hm0 G1 gg CQ
 by_cases hlen:L.length=qn
 case neg =>
  have e1:((L.length:Int) != (qn:Int))=true:=by simp;omega
  have HR:Hid (cqA K d L=8):=hQ9 (by rw [HCE.out,if_neg hlen])
  clear hlen
  go_wp2_with fail
  go_ret
  exact⟨by rw [HR.out];rfl,G2⟩
 have HR:Hid (cqA K d L=chqA K d none L):=hQ9 (by rw [HCE.out,if_pos hlen])
 have e1:((L.length:Int) != (qn:Int))=false:=by simp [hlen]
 clear hlen HCE
 go_wp2_with fail
 clear e1
 go_loopw [19] (fun iv wr=>∃ i:Nat,i≤L.length∧iv=.int .i64 i∧chqA K d none L=chqA K d (prevA L i) (L.drop i)∧Grew w wr) (fun iv _=>L.length-(Go.RowKit.intOf iv).toNat)
 case atStart=>exact⟨0,Nat.zero_le _,rfl,rfl,G2⟩
 case round =>
  obtain⟨i,hil,rfl,hinv,hg⟩:=hrel
  by_cases hlt:i<L.length
  ·obtain⟨q,hA,hq,hm⟩:=RdC.at23 hr hg i hlt
   subst hA
   have hdr:L.drop i=L[i]::L.drop (i+1):=by rw [List.drop_eq_getElem_cons hlt]
   have hnx:prevA L (i+1)=some (AP.who L[i]):=by show(L[i]?).map AP.who=_;rw [List.getElem?_eq_getElem hlt];rfl
   have CVi:=fun W g=>CVV.out L[i] (List.getElem_mem hlt) W g
   have hi0:(0:Int)≤(i:Int):=by omega
   have hi1:(i:Int)<(L.length:Int):=by omega
   rw [hdr]at hinv
   have hgP:∀ j (hj:j+1=i) (hj':j<L.length),prevA L i=some (AP.who L[j]):=fun j hj hj'=>by subst hj;show(L[j]?).map AP.who=_;rw [List.getElem?_eq_getElem hj'];rfl
   have hmP:∀ j (hj:j<L.length),wr.rangeAt q (j*23) L[j].C.toList:=fun j hj=>by
    obtain⟨q',e',_,h'⟩:=RdC.at23 hr hg j hj
    injection e' with e';injection e' with e';subst e';exact h'
   generalize L[i]=S at *
   have CVD:=hQ9 CVi
   have CWS:=hQ9 (fun W=>zez S W)
   have SIS:Hid (zI9 79=some S.C.toList.length):=hQ9 zJ
   have SIZ:Hid (zI9 79=some S.C.size):=hQ9 zJ
   have HON:=hQ9 S.one
   obtain⟨w2,hw2,ht2,g2,z2⟩:=jg wr S.C rfl
   have HW2:=hQ9 hw2
   have HT2:=hQ9 ht2
   have HM2:=hQ9 (fun y (g:Grew w2 y)=>(z2.grew g).cell)
   have HNX:=hQ9 hnx
   have HINV:=hQ9 hinv
   clear hw2 ht2 CVi hdr hinv hnx z2
   go_upto_region 6 with (first
    | (with_reducible refine wpList_load_mid rfl 79 (.tmp 22) rfl q (i*23) rfl S.C.toList _ hm hut rfl SIS.out ?_;simp only [zT9])
    | (with_reducible refine wpList_store_mid rfl 79 (.tmp 10) (.tmp 23) rfl wr.heap.size 0 S.C rfl rfl HT2.out SIZ.out HON.out ?_;rw [HW2.out]))
   clear hm HT2 HW2 SIZ HON
   by_cases hz:i=0
   ·have HPA:Hid ((prevA L i).any (fun x=>decide (S.who≤x))=false):=hQ9 (by rw [hz];rfl)
    have b0:decide (0<i)=false:=zF9 (by omega)
    clear hz hgP hmP
    refine zv 14 (fun ix9=>match ix9 with
     | 0=>fun v _=>v=.int .i64 (i:Int)
     | 1=>fun v _=>v=.bool false
     | 2=>fun v _=>v=.bool false
     | 3=>fun v _=>v=undef
     | 4=>fun v _=>v=undef
     | 5=>fun v _=>v=undef
     | 6=>fun v _=>v=undef
     | 7=>fun v _=>v=undef
     | 8=>fun v _=>v=undef
     | 9=>fun v _=>v=undef
     | 10=>fun v _=>v=undef
     | 11=>fun v _=>v=undef
     | 12=>fun v _=>v=undef
     | 13=>fun v _=>v=undef
     | _=>fun _ _=>True) (by kernel_rfl) (by kernel_rfl) ?_ ?_ ?_
    ·intro i v x y h hg
     match i,h with
     | 0,h | 1,h | 2,h | 3,h | 4,h | 5,h | 6,h | 7,h | 8,h | 9,h | 10,h | 11,h | 12,h | 13,h=>exact h
     | m+14,_=>trivial
    ·simp only [actOf,tk1,tk0,dr1,dr0,Act.put,si1,st1,st0,Nat.reduceAdd]
     refine⟨?_,?_,?_,?_,?_,?_,?_,?_,?_,?_,?_,?_,?_,?_,trivial⟩
     ·intro vs y hg hd
      dsimp only
      go_wp2_with fail
      exact⟨rfl,_,rfl,za _,rfl⟩
     ·intro vs y hg hd
      obtain⟨h0,_⟩:=hd
      replace h0:=h0 rfl
      dsimp only
      rw [show vs 0=_ from h0]
      go_wp2_with fail
      exact⟨rfl,_,rfl,za _,rfl⟩
     ·intro vs y hg hd
      obtain⟨h1,_⟩:=hd
      replace h1:=h1 rfl
      dsimp only
      rw [show vs 1=_ from h1]
      go_wp2_with fail
      exact⟨rfl,_,rfl,za _,rfl⟩
     ·intro vs y hg hd
      have hx:(zB9 2 .guard→vs 2=.bool false)∧True:=hd
      have h2:vs 2=.bool false:=hx.1 rfl
      clear hx
      dsimp only
      rw [show vs 2=_ from h2]
      go_wp2_with fail
      exact⟨rfl,_,rfl,za _,rfl⟩
     ·intro vs y hg hd
      have hx:(zB9 2 .guard→vs 2=.bool false)∧True:=hd
      have h2:vs 2=.bool false:=hx.1 rfl
      clear hx
      dsimp only
      rw [show vs 2=_ from h2]
      go_wp2_with fail
      exact⟨rfl,_,rfl,za _,rfl⟩
     ·intro vs y hg hd
      have hx:(zB9 3 .data→vs 3=undef)∧(zB9 4 .data→vs 4=undef)∧(zB9 2 .chain→vs 2=.bool false)∧(zB9 2 .guard→vs 2=.bool false)∧True:=hd
      have h3:vs 3=undef:=hx.1 rfl
      have h4:vs 4=undef:=hx.2.1 rfl
      have h2:vs 2=.bool false:=hx.2.2.2.1 rfl
      clear hx
      dsimp only
      rw [show vs 3=_ from h3,show vs 4=_ from h4,show vs 2=_ from h2]
      go_wp2_with fail
      exact⟨rfl,_,rfl,za _,rfl⟩
     ·intro vs y hg hd
      have hx:(zB9 2 .guard→vs 2=.bool false)∧True:=hd
      have h2:vs 2=.bool false:=hx.1 rfl
      clear hx
      dsimp only
      rw [show vs 2=_ from h2]
      go_wp2_with fail
      exact⟨rfl,_,rfl,za _,rfl⟩
     ·intro vs y hg hd
      have hx:(zB9 2 .guard→vs 2=.bool false)∧True:=hd
      have h2:vs 2=.bool false:=hx.1 rfl
      clear hx
      dsimp only
      rw [show vs 2=_ from h2]
      go_wp2_with fail
      exact⟨rfl,_,rfl,za _,rfl⟩
     ·intro vs y hg hd
      have hx:(zB9 2 .guard→vs 2=.bool false)∧True:=hd
      have h2:vs 2=.bool false:=hx.1 rfl
      clear hx
      dsimp only
      rw [show vs 2=_ from h2]
      go_wp2_with fail
      exact⟨rfl,_,rfl,za _,rfl⟩
     ·intro vs y hg hd
      have hx:(zB9 8 .data→vs 8=undef)∧(zB9 2 .guard→vs 2=.bool false)∧True:=hd
      have h8:vs 8=undef:=hx.1 rfl
      have h2:vs 2=.bool false:=hx.2.1 rfl
      clear hx
      dsimp only
      rw [show vs 8=_ from h8,show vs 2=_ from h2]
      go_wp2_with fail
      exact⟨rfl,_,rfl,za _,rfl⟩
     ·intro vs y hg hd
      have hx:(zB9 7 .data→vs 7=undef)∧(zB9 9 .data→vs 9=undef)∧(zB9 2 .guard→vs 2=.bool false)∧True:=hd
      have h7:vs 7=undef:=hx.1 rfl
      have h9:vs 9=undef:=hx.2.1 rfl
      have h2:vs 2=.bool false:=hx.2.2.1 rfl
      clear hx
      dsimp only
      rw [show vs 7=_ from h7,show vs 9=_ from h9,show vs 2=_ from h2]
      go_wp2_with fail
      exact⟨rfl,_,rfl,za _,rfl⟩
     ·intro vs y hg hd
      have hx:(zB9 10 .data→vs 10=undef)∧(zB9 2 .guard→vs 2=.bool false)∧True:=hd
      have h10:vs 10=undef:=hx.1 rfl
      have h2:vs 2=.bool false:=hx.2.1 rfl
      clear hx
      dsimp only
      rw [show vs 10=_ from h10,show vs 2=_ from h2]
      go_wp2_with fail
      exact⟨rfl,_,rfl,za _,rfl⟩
     ·intro vs y hg hd
      have hx:(zB9 6 .data→vs 6=undef)∧(zB9 11 .data→vs 11=undef)∧(zB9 5 .chain→vs 5=undef)∧(zB9 2 .guard→vs 2=.bool false)∧True:=hd
      have h6:vs 6=undef:=hx.1 rfl
      have h11:vs 11=undef:=hx.2.1 rfl
      have h2:vs 2=.bool false:=hx.2.2.2.1 rfl
      clear hx
      dsimp only
      rw [show vs 6=_ from h6,show vs 11=_ from h11,show vs 2=_ from h2]
      go_wp2_with fail
      exact⟨rfl,_,rfl,za _,rfl⟩
     ·intro vs y hg hd
      have hx:(zB9 5 .data→vs 5=undef)∧(zB9 12 .data→vs 12=undef)∧(zB9 2 .guard→vs 2=.bool false)∧True:=hd
      have h5:vs 5=undef:=hx.1 rfl
      have h12:vs 12=undef:=hx.2.1 rfl
      have h2:vs 2=.bool false:=hx.2.2.1 rfl
      clear hx
      dsimp only
      rw [show vs 5=_ from h5,show vs 12=_ from h12,show vs 2=_ from h2]
      go_wp2_with fail
      exact⟨rfl,_,rfl,za _,rfl⟩
    ·intro vs w3 hg3 hJ
     have j0:vs 0=.int .i64 (i:Int):=hJ 0 (by decide)
     have j1:vs 1=.bool false:=hJ 1 (by decide)
     have j2:vs 2=.bool false:=hJ 2 (by decide)
     have j3:vs 3=undef:=hJ 3 (by decide)
     have j4:vs 4=undef:=hJ 4 (by decide)
     have j5:vs 5=undef:=hJ 5 (by decide)
     have j6:vs 6=undef:=hJ 6 (by decide)
     have j7:vs 7=undef:=hJ 7 (by decide)
     have j8:vs 8=undef:=hJ 8 (by decide)
     have j9:vs 9=undef:=hJ 9 (by decide)
     have j10:vs 10=undef:=hJ 10 (by decide)
     have j11:vs 11=undef:=hJ 11 (by decide)
     have j12:vs 12=undef:=hJ 12 (by decide)
     have j13:vs 13=undef:=hJ 13 (by decide)
     clear hJ
     simp only [actOf,tk1,tk0,dr1,dr0,Act.put,si1,st1,st0,Nat.reduceAdd]
     have G3:=zb hg (zb g2 hg3)
     have hm3:=HM2.out w3 hg3
     have e4:IntKind.i64.wrap ((i:Int)+1)=((i+1:Nat):Int):=by rw [IntWalk.i64_in _ (by omega)];omega
     go_wp2_with(with_reducible refine wpList_load_mid rfl 79 (.tmp 10) rfl wr.heap.size 0 rfl S.C.toList _ hm3 hut rfl SIS.out ?_;simp only [zT9])
     refine(CVD.out w3 (zb hg (zb g2 hg3))).mono ?_
     rintro e w4 ⟨rfl,gg⟩
     have G4:=zb G3 gg
     clear hm3 G3
     by_cases hv:vdA K d S=0
     ·have HSTEP:Hid (chqA K d none L=chqA K d (prevA L (i+1)) (L.drop (i+1))):=hQ9 (by rw [HINV.out,HNX.out];exact yY HPA.out hv)
      rw [hv]
      clear hv
      go_wp2_with fail
      go_roundw
      case rel=>exact⟨i+1,by omega,rfl,HSTEP.out,G4⟩
      case measure=>simp [Go.RowKit.intOf];omega
     ·have e5:(vdA K d S != 0)=true:=by simpa using hv
      have HRES:Hid (chqA K d none L=vdA K d S):=hQ9 (by rw [HINV.out];exact qe HPA.out hv)
      clear hv
      generalize vdA K d S=ve at *
      go_wp2_with fail
      go_ret
      exact⟨by rw [HR.out,HRES.out];rfl,G4⟩
   ·obtain⟨j,hj⟩:∃ j,i=j+1:=⟨i-1,by omega⟩
    have hmp:=hmP j (by omega)
    have hgp:=hgP j hj.symm (by omega)
    have b0:decide (0<i)=true:=decide_eq_true (by omega)
    have e33:IntKind.i64.wrap ((i:Int)-1)=(j:Int):=by rw [IntWalk.i64_in _ (by omega)];omega
    have hj0:(0:Int)≤(j:Int):=by omega
    have hj1:(j:Int)<(L.length:Int):=by omega
    clear hmP hgP hz
    generalize hPP:L[j]'(by omega)=P at hmp hgp
    clear hPP hj
    have CWP:=hQ9 (fun W=>zez P W)
    have SIP:Hid (zI9 79=some P.C.toList.length):=hQ9 zJ
    have HMP:=hQ9 (fun y (g:Grew w2 y)=>kF hmp hq (zb g2 g))
    obtain⟨le,hle⟩:∃ le,decide (S.who≤P.who)=le:=⟨_,rfl⟩
    have HPA0:Hid ((prevA L i).any (fun x=>decide (S.who≤x))=le):=hQ9 (by rw [hgp,←hle];rfl)
    clear hgp hmp
    refine zv 14 (fun ix9=>match ix9 with
     | 0=>fun v _=>v=.int .i64 (i:Int)
     | 1=>fun v _=>v=.bool true
     | 2=>fun v _=>v=.bool true
     | 3=>fun v _=>v=.func (.func 109) #[] #[]
     | 4=>fun v _=>v=.agg S.C
     | 5=>fun v _=>v=.int .i64 S.who
     | 6=>fun v _=>v=.func (.func 109) #[] #[]
     | 7=>fun v _=>v=.slice (some ⟨q,0,none⟩) L.length c
     | 8=>fun v _=>v=.int .i64 (i:Int)
     | 9=>fun v _=>v=.int .i64 (j:Int)
     | 10=>fun v _=>v=.pointer (some ⟨q,j*23,none⟩)
     | 11=>fun v _=>v=.agg P.C
     | 12=>fun v _=>v=.int .i64 P.who
     | 13=>fun v _=>v=.bool le
     | _=>fun _ _=>True) (by kernel_rfl) (by kernel_rfl) ?_ ?_ ?_
    ·intro i v x y h hg
     match i,h with
     | 0,h | 1,h | 2,h | 3,h | 4,h | 5,h | 6,h | 7,h | 8,h | 9,h | 10,h | 11,h | 12,h | 13,h=>exact h
     | m+14,_=>trivial
    ·simp only [actOf,tk1,tk0,dr1,dr0,Act.put,si1,st1,st0,Nat.reduceAdd]
     refine⟨?_,?_,?_,?_,?_,?_,?_,?_,?_,?_,?_,?_,?_,?_,trivial⟩
     ·intro vs y hg hd
      dsimp only
      go_wp2_with fail
      exact⟨rfl,_,rfl,za _,rfl⟩
     ·intro vs y hg hd
      obtain⟨h0,_⟩:=hd
      replace h0:=h0 rfl
      dsimp only
      rw [show vs 0=_ from h0]
      go_wp2_with fail
      exact⟨rfl,_,rfl,za _,rfl⟩
     ·intro vs y hg hd
      obtain⟨h1,_⟩:=hd
      replace h1:=h1 rfl
      dsimp only
      rw [show vs 1=_ from h1]
      go_wp2_with fail
      exact⟨rfl,_,rfl,za _,rfl⟩
     ·intro vs y hg hd
      have hx:(zB9 2 .guard→vs 2=.bool true)∧True:=hd
      have h2:vs 2=.bool true:=hx.1 rfl
      clear hx
      dsimp only
      rw [show vs 2=_ from h2]
      go_wp2_with fail
      exact⟨rfl,_,rfl,za _,rfl⟩
     ·intro vs y hg hd
      have hx:(zB9 2 .guard→vs 2=.bool true)∧True:=hd
      have h2:vs 2=.bool true:=hx.1 rfl
      clear hx
      dsimp only
      rw [show vs 2=_ from h2]
      have hm:=HM2.out y hg
      go_wp2_with(refine zj (by rfl) 79 (.tmp 10) rfl wr.heap.size 0 rfl S.C.toList _ hm hut rfl SIS.out ?_;simp only [zT9])
      exact⟨rfl,_,rfl,za _,rfl⟩
     ·intro vs y hg hd
      have hx:(zB9 3 .data→vs 3=.func (.func 109) #[] #[])∧(zB9 4 .data→vs 4=.agg S.C)∧(zB9 2 .chain→vs 2=.bool true)∧(zB9 2 .guard→vs 2=.bool true)∧True:=hd
      have h3:vs 3=.func (.func 109) #[] #[]:=hx.1 rfl
      have h4:vs 4=.agg S.C:=hx.2.1 rfl
      have h2:vs 2=.bool true:=hx.2.2.2.1 rfl
      clear hx
      dsimp only
      rw [show vs 3=_ from h3,show vs 4=_ from h4,show vs 2=_ from h2]
      go_wp2_with(go_at_call 109;refine(CWS.out y).mono ?_;rintro e z ⟨rfl,gz⟩)
      exact⟨rfl,_,rfl,gz,rfl⟩
     ·intro vs y hg hd
      have hx:(zB9 2 .guard→vs 2=.bool true)∧True:=hd
      have h2:vs 2=.bool true:=hx.1 rfl
      clear hx
      dsimp only
      rw [show vs 2=_ from h2]
      go_wp2_with fail
      exact⟨rfl,_,rfl,za _,rfl⟩
     ·intro vs y hg hd
      have hx:(zB9 2 .guard→vs 2=.bool true)∧True:=hd
      have h2:vs 2=.bool true:=hx.1 rfl
      clear hx
      dsimp only
      rw [show vs 2=_ from h2]
      go_wp2_with fail
      exact⟨rfl,_,rfl,za _,rfl⟩
     ·intro vs y hg hd
      have hx:(zB9 2 .guard→vs 2=.bool true)∧True:=hd
      have h2:vs 2=.bool true:=hx.1 rfl
      clear hx
      dsimp only
      rw [show vs 2=_ from h2]
      go_wp2_with fail
      exact⟨rfl,_,rfl,za _,rfl⟩
     ·intro vs y hg hd
      have hx:(zB9 8 .data→vs 8=.int .i64 (i:Int))∧(zB9 2 .guard→vs 2=.bool true)∧True:=hd
      have h8:vs 8=.int .i64 (i:Int):=hx.1 rfl
      have h2:vs 2=.bool true:=hx.2.1 rfl
      clear hx
      dsimp only
      rw [show vs 8=_ from h8,show vs 2=_ from h2]
      go_wp2_with fail
      exact⟨rfl,_,rfl,za _,rfl⟩
     ·intro vs y hg hd
      have hx:(zB9 7 .data→vs 7=.slice (some ⟨q,0,none⟩) L.length c)∧(zB9 9 .data→vs 9=.int .i64 (j:Int))∧(zB9 2 .guard→vs 2=.bool true)∧True:=hd
      have h7:vs 7=.slice (some ⟨q,0,none⟩) L.length c:=hx.1 rfl
      have h9:vs 9=.int .i64 (j:Int):=hx.2.1 rfl
      have h2:vs 2=.bool true:=hx.2.2.1 rfl
      clear hx
      dsimp only
      rw [show vs 7=_ from h7,show vs 9=_ from h9,show vs 2=_ from h2]
      go_wp2_with fail
      exact⟨rfl,_,rfl,za _,rfl⟩
     ·intro vs y hg hd
      have hx:(zB9 10 .data→vs 10=.pointer (some ⟨q,j*23,none⟩))∧(zB9 2 .guard→vs 2=.bool true)∧True:=hd
      have h10:vs 10=.pointer (some ⟨q,j*23,none⟩):=hx.1 rfl
      have h2:vs 2=.bool true:=hx.2.1 rfl
      clear hx
      dsimp only
      rw [show vs 10=_ from h10,show vs 2=_ from h2]
      have hm:=HMP.out y hg
      go_wp2_with(refine zj (by rfl) 79 (.tmp 34) rfl q (j*23) rfl P.C.toList _ hm hut rfl SIP.out ?_;simp only [zT9])
      exact⟨rfl,_,rfl,za _,rfl⟩
     ·intro vs y hg hd
      have hx:(zB9 6 .data→vs 6=.func (.func 109) #[] #[])∧(zB9 11 .data→vs 11=.agg P.C)∧(zB9 5 .chain→vs 5=.int .i64 S.who)∧(zB9 2 .guard→vs 2=.bool true)∧True:=hd
      have h6:vs 6=.func (.func 109) #[] #[]:=hx.1 rfl
      have h11:vs 11=.agg P.C:=hx.2.1 rfl
      have h2:vs 2=.bool true:=hx.2.2.2.1 rfl
      clear hx
      dsimp only
      rw [show vs 6=_ from h6,show vs 11=_ from h11,show vs 2=_ from h2]
      go_wp2_with(go_at_call 109;refine(CWP.out y).mono ?_;rintro e z ⟨rfl,gz⟩)
      exact⟨rfl,_,rfl,gz,rfl⟩
     ·intro vs y hg hd
      have hx:(zB9 5 .data→vs 5=.int .i64 S.who)∧(zB9 12 .data→vs 12=.int .i64 P.who)∧(zB9 2 .guard→vs 2=.bool true)∧True:=hd
      have h5:vs 5=.int .i64 S.who:=hx.1 rfl
      have h12:vs 12=.int .i64 P.who:=hx.2.1 rfl
      have h2:vs 2=.bool true:=hx.2.2.1 rfl
      clear hx
      dsimp only
      rw [show vs 5=_ from h5,show vs 12=_ from h12,show vs 2=_ from h2]
      go_wp2_with fail
      exact⟨rfl,_,rfl,za _,rfl⟩
    ·intro vs w3 hg3 hJ
     have j0:vs 0=.int .i64 (i:Int):=hJ 0 (by decide)
     have j1:vs 1=.bool true:=hJ 1 (by decide)
     have j2:vs 2=.bool true:=hJ 2 (by decide)
     have j3:vs 3=.func (.func 109) #[] #[]:=hJ 3 (by decide)
     have j4:vs 4=.agg S.C:=hJ 4 (by decide)
     have j5:vs 5=.int .i64 S.who:=hJ 5 (by decide)
     have j6:vs 6=.func (.func 109) #[] #[]:=hJ 6 (by decide)
     have j7:vs 7=.slice (some ⟨q,0,none⟩) L.length c:=hJ 7 (by decide)
     have j8:vs 8=.int .i64 (i:Int):=hJ 8 (by decide)
     have j9:vs 9=.int .i64 (j:Int):=hJ 9 (by decide)
     have j10:vs 10=.pointer (some ⟨q,j*23,none⟩):=hJ 10 (by decide)
     have j11:vs 11=.agg P.C:=hJ 11 (by decide)
     have j12:vs 12=.int .i64 P.who:=hJ 12 (by decide)
     have j13:vs 13=.bool le:=hJ 13 (by decide)
     clear hJ
     simp only [actOf,tk1,tk0,dr1,dr0,Act.put,si1,st1,st0,Nat.reduceAdd]
     cases le
     ·have HPA:=HPA0
      clear HPA0 hle
      have G3:=zb hg (zb g2 hg3)
      have hm3:=HM2.out w3 hg3
      have e4:IntKind.i64.wrap ((i:Int)+1)=((i+1:Nat):Int):=by rw [IntWalk.i64_in _ (by omega)];omega
      go_wp2_with(with_reducible refine wpList_load_mid rfl 79 (.tmp 10) rfl wr.heap.size 0 rfl S.C.toList _ hm3 hut rfl SIS.out ?_;simp only [zT9])
      refine(CVD.out w3 (zb hg (zb g2 hg3))).mono ?_
      rintro e w4 ⟨rfl,gg⟩
      have G4:=zb G3 gg
      clear hm3 G3
      by_cases hv:vdA K d S=0
      ·have HSTEP:Hid (chqA K d none L=chqA K d (prevA L (i+1)) (L.drop (i+1))):=hQ9 (by rw [HINV.out,HNX.out];exact yY HPA.out hv)
       rw [hv]
       clear hv
       go_wp2_with fail
       go_roundw
       case rel=>exact⟨i+1,by omega,rfl,HSTEP.out,G4⟩
       case measure=>simp [Go.RowKit.intOf];omega
      ·have e5:(vdA K d S != 0)=true:=by simpa using hv
       have HRES:Hid (chqA K d none L=vdA K d S):=hQ9 (by rw [HINV.out];exact qe HPA.out hv)
       clear hv
       generalize vdA K d S=ve at *
       go_wp2_with fail
       go_ret
       exact⟨by rw [HR.out,HRES.out];rfl,G4⟩
     ·have HRES:Hid (chqA K d none L=10):=hQ9 (by rw [HINV.out];exact zct HPA0.out)
      have G4:=zb hg (zb g2 hg3)
      go_wp2_with fail
      go_ret
      exact⟨by rw [HR.out,HRES.out];rfl,G4⟩
  ·obtain rfl:i=L.length:=by omega
   rw [List.drop_length]at hinv
   have HE:Hid (chqA K d none L=0):=hQ9 (by rw [hinv];cases prevA L L.length<;>rfl)
   clear hinv
   go_wp2_with fail
   go_ret
   exact⟨by rw [HR.out,HE.out];rfl,hg⟩
noncomputable def mvE (K:KP) (c:Cm) (L:List SP):Int:=if okC c then cqE K (dgC c) L else 1
theorem xk {w:World} {b:Nat} {c:Cm} {A:Option Addr} {n k:Nat} (h:Ag w b (ctC c A n k).toList):w.rangeAt b 0 c.cells.toList:=fun j v hj=>by
 refine h.cell j v ?_
 have hl:=(List.getElem?_eq_some_iff.1 hj).1
 rw [show(ctC c A n k).toList=c.cells.toList++[.slice A n k] from rfl,List.getElem?_append_left hl]
 exact hj
theorem xH (c:Cm) {K:KP} (hK:K.ok) (A:Option Addr) (k:Nat) (L:List SP) (hl:L.length≤100000) (w:World) (hS:Std w) (hk:K.at w) (hL:Sps w A L) :
 Calls Tryz.prog 107 #[.agg K.C,.agg (ctC c A L.length k)] w fun e w'=>e=.returned (.int .i64 (mvE K c L))∧Grew w w':=by
 have huc:=Tryz.underlying40
 have huf:=Tryz.underlying89
 have HCF:Hid (zI9 89=some [Value.int .i64 K.f].length):=hQ9 (by kernel_rfl)
 have SIC:Hid (zI9 40=some c.cells.toList.length):=hQ9 (show _=some 5 by kernel_rfl)
 have z0:=(Ag.new w 91 K.C).grew (ze (za _) (.cells (ctC c A L.length k) 43))
 have z1:=Ag.new (w.alloc (.cells K.C 91)) 43 (ctC c A L.length k)
 rw [zl]at z1
 have G0:=ze (ze (za w) (.cells K.C 91)) (.cells (ctC c A L.length k) 43)
 have hcv:c.v=.agg c.cells:=rfl
 have CC:=hQ9 (fun W=>zcj c W)
 have HS:=hQ9 hS
 have HKA:=hQ9 hk
 have HLA:=hQ9 hL
 rw [hcv]at CC
 have hm1:=xk z1
 clear hS hk hL
 by_cases hc:okC c
 case neg =>
  have HR:Hid (mvE K c L=1):=hQ9 (by unfold mvE;rw [if_neg hc])
  rw [ya hc]at CC
  clear hc hcv z0 z1
  go_enter Tryz.func107,Tryz.ntmps107
  go_wp2_with(with_reducible refine wpList_load_mid rfl 40 (.tmp 7) rfl (w.heap.size+1) 0 rfl c.cells.toList _ hm1 huc rfl SIC.out ?_;simp only [zT9])
  refine(CC.out _).mono ?_
  rintro e w2 ⟨rfl,gg⟩
  go_wp2_with fail
  go_ret
  exact⟨by rw [HR.out];rfl,zb G0 gg⟩
 have HR:Hid (mvE K c L=cqE K (dgC c) L):=hQ9 (by unfold mvE;rw [if_pos hc])
 rw [kZ hc]at CC
 have HCI:=hQ9 (xj hc)
 have CD:=hQ9 (fun W h=>jZ c HCI.out W h)
 rw [hcv]at CD
 clear hcv hc
 go_enter Tryz.func107,Tryz.ntmps107
 go_wp2_with(with_reducible refine wpList_load_mid rfl 40 (.tmp 7) rfl (w.heap.size+1) 0 rfl c.cells.toList _ hm1 huc rfl SIC.out ?_;simp only [zT9])
 refine(CC.out _).mono ?_
 rintro e w2 ⟨rfl,gg⟩
 have z0:=z0.grew gg
 have z1:=z1.grew gg
 clear hm1
 have hm1:=xk z1
 have G2:=zb G0 gg
 clear gg CC G0
 go_wp2_with(with_reducible refine wpList_load_mid rfl 40 (.tmp 13) rfl (w.heap.size+1) 0 rfl c.cells.toList _ hm1 huc rfl SIC.out ?_;simp only [zT9])
 refine(CD.out w2 (HS.out.grew G2)).mono ?_
 rintro e w3 ⟨rfl,gg⟩
 obtain⟨w4,hw4,g4,hd4⟩:=qd w3 72 (.int .u64 (dgC c:Nat))
 have HW4:=hQ9 hw4
 have g24:=zb gg g4
 have HZK:=hQ9 (z0.grew g24)
 have z14:=z1.grew g24
 have G4:=zb G2 g24
 have hmf:=ka HZK.out
 have HC5:w4.cell? ⟨w.heap.size+1,5,none⟩=some (.slice A L.length k):=by simpa using z14.cell 5 _ rfl
 have CQ:=hQ9 (chq_sp hK A k L hl (dgC c) w3.heap.size w.heap.size w4 (HS.out.grew G4) (HKA.out.gr G4) (HLA.out.gr G4) hd4 HZK.out)
 clear hm1 z0 z1 gg g4 G2 CD hw4 z14 g24 hd4
 go_wp2_with(first
  | (rw [HW4.out];with_reducible refine wpList_load_mid rfl 89 (.tmp 16) rfl w.heap.size 0 rfl [.int .i64 K.f] _ hmf huf rfl HCF.out ?_))
 refine(CQ.out).mono ?_
 rintro e w5 ⟨rfl,g5⟩
 go_wp2_with fail
 go_ret
 exact⟨by rw [HR.out];rfl,zb G4 g5⟩
theorem ag_at {w:World} {b:Nat} {cs:List Value} (h:Ag w b cs) (k:Nat) {v:Value} (hk:cs[k]?=some v):w.cell? ⟨b,k,none⟩=some v:=by simpa using h.cell k v hk
theorem ag_fr {w:World} {b:Nat} {cs:List Value} (h:Ag w b cs) (k:Nat) (hk:k<cs.length):w.frozen? ⟨b,k,none⟩=false:=by simpa using (h.there k hk).2
theorem ze2 {K:KP} {d:Nat}:∀(L M:List SP) (p:Option Int),L.length=M.length→(∀ i (h:i<L.length) (h':i<M.length),M[i].who=L[i].who∧vdE K d M[i]=vdE K d L[i])→chqE K d p M=chqE K d p L
 | [],[],_,_,_=>rfl
 | [],_::_,_,h,_=>by simp at h
 | _::_,[],_,h,_=>by simp at h
 | S::L,T::M,p,hl,h=>by
  obtain⟨h1,h2⟩:=h 0 (by simp) (by simp)
  simp only [List.getElem_cons_zero]at h1 h2
  have ih:=ze2 L M (some S.who) (by simpa using hl) (fun i a b=>h (i+1) (Nat.succ_lt_succ a) (Nat.succ_lt_succ b))
  rw [chqE,chqE,h1,h2,ih]
theorem zbf {K:KP} {c:Cm} {L M:List SP} (h:MvL L M):mvE K c M=mvE K c L:=by
 unfold mvE cqE
 rw [h.len,ze2 L M none h.len.symm (fun i a b=>by
  obtain⟨A,k,e⟩:=h.each i a b
  rw [e]
  exact⟨rfl,rfl⟩)]
theorem MvL.cons {L M:List SP} (h:MvL L M) (S:SP) (A:Option Addr) (c:Nat):MvL (S::L) (S.mv A c::M) :=
 ⟨by simp [h.len],fun k h1 h2=>by
  cases k with
  | zero=>exact⟨A,c,rfl⟩
  | succ k=>exact h.each k (by simpa using h1) (by simpa using h2)⟩
theorem MvL.uncons {L M:List SP} {S T:SP} (h:MvL (S::L) (T::M)):(∃ A c,T=S.mv A c)∧MvL L M :=
 ⟨h.each 0 (by simp) (by simp),by have:=h.len;simpa using this,fun k h1 h2=>h.each (k+1) (by simpa using h1) (by simpa using h2)⟩
theorem MvL.take {L M:List SP} (h:MvL L M) (n:Nat):MvL (L.take n) (M.take n) :=
 ⟨by simp [h.len],fun k h1 h2=>by
  rw [List.getElem_take,List.getElem_take]
  exact h.each k (by rw [List.length_take]at h1;omega) (by rw [List.length_take]at h2;omega)⟩
def SP.tx (S:SP):List UInt8:=stT S.cm S.who S.at_ S.sw S.lf S.s S.l
def SP.tb (S:SP):ByteArray:=⟨S.tx.toArray⟩
theorem zk5 {S:SP} (hS:S.ok) (w:World) (hs:Std w) (ha:S.at w):Calls Tryz.prog 189 #[.agg S.C] w fun e w'=>e=.returned (.string S.tb)∧Grew w w' :=
 zki S.cm S.who S.at_ S.sw S.lf S.s S.A S.c S.l hS.cm hS.who hS.at_ hS.sw hS.lf hS.len hS.s hS.l w hs ha
theorem zi0 (A:Option Addr) (c:Nat) (L:List SP) (hl:L.length≤100000) (w:World) (hS:Std w) (hL:Sps w A L) :
 Calls Tryz.prog 188 #[.slice A L.length c,.func (.func 189) #[] #[]] w fun e w'=>∃ v,e=.returned v∧w'.ownsRow w.heap.size 9 1 v L.length (strL (L.map SP.tb))∧Grew w w':=by
 obtain⟨i0,hi,hz0,hz1,hz2⟩:=info_parts (show(Tryz.prog.info? 9).map (fun i=>(i.zero,i.size,i.bytes))=some (some (.string ⟨#[]⟩),1,16) by kernel_rfl)
 have hut:=Tryz.underlying157
 have hr:=hL.rd
 have HLL:=hQ9 hL
 have HS:=hQ9 hS
 obtain⟨w1,hmk,hown1,hgrow1⟩:=run_make_own (P:=Tryz.prog) w w.heap.size 161 9 i0 (.string ⟨#[]⟩) 1 Tryz.underlying161 hi hz0 hz1 .i64 .i64 L.length (by rw [hz2];omega) (by unfold maxLen;omega) (zN9 _)
 have hg1:Grew w w1:=(Below.refl _ w).grown hgrow1 (zN9 _) (fun j hj=>by cases hj)
 clear hgrow1 hL hS
 go_enter Tryz.func188,Tryz.ntmps188
 go_wp2_with fail
 clear hmk
 go_loopw [5,13] (fun rv iv wr=>∃ k:Nat,k≤L.length∧iv=.int .i64 k∧wr.ownsRow w.heap.size 9 1 rv k (strL ((L.take k).map SP.tb))∧Grew w wr) (fun _ iv _=>L.length-(Go.RowKit.intOf iv).toNat)
 case atStart=>exact⟨0,Nat.zero_le _,rfl,by simpa [strL]using hown1,hg1⟩
 case round =>
  obtain⟨i,hil,rfl,hown,hg⟩:=hrel
  by_cases hlt:i<L.length
  ·obtain⟨q,hA,hq,hm⟩:=RdC.at24 hr hg i hlt
   subst hA
   have HT:Hid (strL ((L.take (i+1)).map SP.tb)=strL ((L.take i).map SP.tb)++[.string L[i].tb]):=hQ9 (by rw [List.take_succ_eq_append_getElem hlt,List.map_append];simp [strL])
   have hi0:(0:Int)≤(i:Int):=by omega
   have hi1:(i:Int)<(L.length:Int):=by omega
   have e4:IntKind.i64.wrap ((i:Int)+1)=((i+1:Nat):Int):=by rw [IntWalk.i64_in _ (by omega)];omega
   have hSok:=HLL.out.ok L[i] (List.getElem_mem hlt)
   have hSat:=(HLL.out.at_ L[i] (List.getElem_mem hlt)).gr hg
   generalize L[i]=S at *
   have CW:=hQ9 (fun W h1 h2=>zk5 hSok W h1 h2)
   have SIS:Hid (zI9 157=some S.C.toList.length):=hQ9 zK
   have SIZ:Hid (zI9 157=some S.C.size):=hQ9 zK
   have HON:=hQ9 S.one
   obtain⟨w2,hw2,ht2,g2,z2⟩:=x9 wr S.C rfl
   have HW2:=hQ9 hw2
   have HT2:=hQ9 ht2
   have hm2:=z2.cell
   clear hw2 ht2
   go_wp2_with(first
    | (with_reducible refine wpList_load_mid rfl 157 (.tmp 15) rfl q (i*24) rfl S.C.toList _ hm hut rfl SIS.out ?_;simp only [zT9])
    | (with_reducible refine wpList_store_mid rfl 157 (.tmp 7) (.tmp 16) rfl wr.heap.size 0 S.C rfl rfl HT2.out SIZ.out HON.out ?_;rw [HW2.out])
    | (with_reducible refine wpList_load_mid rfl 157 (.tmp 7) rfl wr.heap.size 0 rfl S.C.toList _ hm2 hut rfl SIS.out ?_;simp only [zT9]))
   refine(CW.out w2 (HS.out.grew (zb hg g2)) (hSat.gr g2)).mono ?_
   rintro e w3 ⟨rfl,gg⟩
   have G3:=zb hg (zb g2 gg)
   have hown3:=zo (S:=fun _=>False) hown (zF (zb g2 gg)) (fun g _ h=>h)
   have hsz3:=G3.size
   generalize S.tb=x at *
   clear hSok hSat hown hm hm2 z2 g2 gg hg HT2 HW2 CW
   go_wp2_with(at_builtin;refine zx rfl (.tmp 17) (.tmp 21) 161 rfl w.heap.size 9 i0 (.string ⟨#[]⟩) 16 Tryz.underlying161 hi hz0 hz1 hz2 rfl _ i _ rfl (hown3.alloc _) (w3.heap.size+1) (some ⟨w3.heap.size,0,none⟩) 1 1 [.string x] rfl rfl (yb w3 9 #[.string x] (0,0)) (yG rfl) (by unfold maxLen;omega) (by omega) (by simp;omega) ?_;intro v' w5 hown5 hgrow5 _)
   go_roundw
   case rel=>exact⟨i+1,by omega,by go_num,by rw [HT.out];exact hown5,(ze G3 _).grown hgrow5 (by simp;omega) (zu hown3)⟩
   case measure=>simp [Go.RowKit.intOf];omega
  ·obtain rfl:i=L.length:=by omega
   rw [List.take_length]at hown
   go_wp2_with fail
   go_ret
   exact⟨_,rfl,hown,hg⟩
def ctTx (c:Cm) (L:List SP):List UInt8:=joinF (txC c::L.map SP.tx)
theorem zbg (c:Cm) (L:List SP):bys (⟨(txC c).toArray⟩::L.map SP.tb)=txC c::L.map SP.tx:=by
 simp [bys,SP.tb,Function.comp_def]
theorem ju (c:Cm) (hc:c.in) (L:List SP) (hl:L.length≤40) (hok:∀ S∈L,S.ok):(ctTx c L).length≤100000000:=by
 have h1:∀ M:List SP,(∀ S∈M,S.ok)→(joinF (M.map SP.tx)).length≤M.length*2000001:=by
  intro M
  induction M with
  | nil=>intro _;simp [joinF]
  | cons S r ih =>
   intro h
   have h2:=ih (fun T hT=>h T (by simp [hT]))
   have hS:=h S (by simp)
   have h3:=zbs S.cm S.who S.at_ S.sw S.lf S.s S.l hS.who hS.at_ hS.sw hS.lf hS.len
   have h4:=zP S.tx
   have h5:S.tx.length≤1000000:=h3
   simp only [joinF,List.map_cons,List.flatMap_cons,List.length_append,List.length_cons]at h2 ⊢
   omega
 have h2:=h1 L hok
 have h3:=zbr hc
 have h4:=zP (txC c)
 unfold ctTx
 simp only [joinF,List.flatMap_cons,List.length_append,List.length_cons]at h2 ⊢
 omega
noncomputable def ctD (c:Cm) (L:List SP):Nat:=sumL [99,101,114,116] (ctTx c L)
theorem zk7 (c:Cm) (hc:c.in) (A:Option Addr) (k:Nat) (L:List SP) (hl:L.length≤40) (w:World) (hS:Std w) (hL:Sps w A L) :
 Calls Tryz.prog 126 #[.agg (ctC c A L.length k)] w fun e w'=>e=.returned (.string ⟨(ctTx c L).toArray⟩)∧Grew w w':=by
 have huc:=Tryz.underlying40
 have SIC:Hid (zI9 40=some c.cells.toList.length):=hQ9 (show _=some 5 by kernel_rfl)
 have z1:=Ag.new w 43 (ctC c A L.length k)
 have G1:=ze (za w) (.cells (ctC c A L.length k) 43)
 have hlen:=ju c hc L hl hL.ok
 have CTX:=hQ9 (fun W h=>zgy c hc W h)
 rw [show txtV (txC c)=.string ⟨(txC c).toArray⟩ from rfl,show c.v=.agg c.cells from rfl]at CTX
 have HL1:Hid (L.length≤100000):=hQ9 (by omega)
 have HS:=hQ9 (hS.grew G1)
 have HLS:=hQ9 (hL.gr G1)
 have CJ:Hid (∀(A4:Option Addr) (c4:Nat) (W:World),Rd W W.heap.size A4 (strL (⟨(txC c).toArray⟩::L.map SP.tb))→Calls Tryz.prog 84 #[.slice A4 (1+L.length) c4] W fun e w'=>e=.returned (.string ⟨(ctTx c L).toArray⟩)∧Grew W w'):=hQ9 (fun A4 c4 W hR=>by
  have:=kn A4 c4 (⟨(txC c).toArray⟩::L.map SP.tb) (by simp;omega) (by rw [zbg];exact hlen) W hR
  rw [zbg]at this
  simpa [ctTx,Nat.add_comm]using this)
 obtain⟨i0,hi,hz0,hz1,hz2⟩:=info_parts (show(Tryz.prog.info? 9).map (fun i=>(i.zero,i.size,i.bytes))=some (some (.string ⟨#[]⟩),1,16) by kernel_rfl)
 have hz1':=z1
 clear hS hL hlen hc
 generalize (⟨(txC c).toArray⟩:ByteArray)=t0 at *
 generalize (⟨(ctTx c L).toArray⟩:ByteArray)=tj at *
 go_enter Tryz.func126,Tryz.ntmps126
 go_upto_region 1 with fail
 generalize w.alloc (.cells (ctC c A L.length k) 43)=w1 at *
 have HMC:=hQ9 (fun y (g:Grew w1 y)=>xk (z1.grew g))
 have HC5:Hid (∀ y,Grew w1 y→y.cell? ⟨w.heap.size,5,none⟩=some (.slice A L.length k)):=hQ9 (fun y g=>by simpa using (z1.grew g).cell 5 _ rfl)
 clear z1 hz1'
 refine zv 7 (fun ix9=>match ix9 with
  | 0=>fun v _=>v=.pointer (some ⟨w.heap.size,0,none⟩)
  | 1=>fun v _=>v=.agg c.cells
  | 2=>fun v _=>v=.string t0
  | 3=>fun v z=>z.ownsRow w1.heap.size 9 1 v 1 [.string t0]
  | 4=>fun v _=>v=.pointer (some ⟨w.heap.size,5,none⟩)
  | 5=>fun v _=>v=.slice A L.length k
  | 6=>fun v z=>z.ownsRow w1.heap.size 9 1 v L.length (strL (L.map SP.tb))
  | _=>fun _ _=>True) (by kernel_rfl) (by kernel_rfl) ?_ ?_ ?_
 ·intro i v x y h hg
  match i,h with
  | 0,h | 1,h | 2,h | 4,h | 5,h=>exact h
  | 3,h=>exact zo (S:=fun _=>False) h (zF hg) (fun g _ h=>h)
  | 6,h=>exact zo (S:=fun _=>False) h (zF hg) (fun g _ h=>h)
  | m+7,_=>trivial
 ·simp only [actOf,tk1,tk0,dr1,dr0,Act.put,si1,st1,st0,Nat.reduceAdd]
  refine⟨?_,?_,?_,?_,?_,?_,?_,trivial⟩
  ·intro vs y hg hd
   dsimp only
   go_wp2_with fail
   exact⟨rfl,_,rfl,za _,rfl⟩
  ·intro vs y hg hd
   obtain⟨h0,_⟩:=hd
   replace h0:=h0 rfl
   dsimp only
   rw [show vs 0=_ from h0]
   have hm:=HMC.out y hg
   go_wp2_with(with_reducible refine wpList_load_mid rfl 40 (.tmp 3) rfl w.heap.size 0 rfl c.cells.toList _ hm huc rfl SIC.out ?_;simp only [zT9])
   exact⟨rfl,_,rfl,za _,rfl⟩
  ·intro vs y hg hd
   obtain⟨h1,_⟩:=hd
   replace h1:=h1 rfl
   dsimp only
   rw [show vs 1=_ from h1]
   go_wp2_with(go_at_call 181;refine(CTX.out y (HS.out.grew hg)).mono ?_;rintro e z ⟨rfl,gz⟩)
   exact⟨rfl,_,rfl,gz,rfl⟩
  ·intro vs y hg hd
   obtain⟨h2,_⟩:=hd
   replace h2:=h2 rfl
   dsimp only
   rw [show vs 2=_ from h2]
   go_wp2_with fail
   exact⟨rfl,_,rfl,ze (za _) _,⟨by simp,.inr ⟨y.heap.size,1,#[.string t0],rfl,hg.size,heap_alloc_new y _,zN9 _,by unfold maxLen;omega,rfl,by simp⟩⟩⟩
  ·intro vs y hg hd
   dsimp only
   go_wp2_with fail
   exact⟨rfl,_,rfl,za _,rfl⟩
  ·intro vs y hg hd
   obtain⟨h4,_⟩:=hd
   replace h4:=h4 rfl
   dsimp only
   rw [show vs 4=_ from h4]
   have hc:=HC5.out y hg
   go_wp2_with fail
   exact⟨rfl,_,rfl,za _,rfl⟩
  ·intro vs y hg hd
   obtain⟨h5,_⟩:=hd
   replace h5:=h5 rfl
   dsimp only
   rw [show vs 5=_ from h5]
   go_wp2_with(go_at_call 188;refine(zi0 A k L HL1.out y (HS.out.grew hg) (HLS.out.gr hg)).mono ?_;rintro e z ⟨v9,rfl,hrow9,gz⟩)
   exact⟨rfl,_,rfl,gz,zf2 hrow9 hg.size⟩
 ·intro vs w2 hg hJ
  have j0:vs 0=.pointer (some ⟨w.heap.size,0,none⟩):=hJ 0 (by decide)
  have j1:vs 1=.agg c.cells:=hJ 1 (by decide)
  have j2:vs 2=.string t0:=hJ 2 (by decide)
  have j4:vs 4=.pointer (some ⟨w.heap.size,5,none⟩):=hJ 4 (by decide)
  have j5:vs 5=.slice A L.length k:=hJ 5 (by decide)
  have s6:=hJ 3 (by decide)
  have s9:=hJ 6 (by decide)
  clear hJ
  simp only [actOf,tk1,tk0,dr1,dr0,Act.put,si1,st1,st0,Nat.reduceAdd]
  have hg2:=hg
  obtain⟨D9,d9,e9,hd9,hd9',hR9⟩:=zU s9
  have h91:=HL1.out
  have hB:=hg2.size
  have G2:=zb G1 hg2
  rw [e9]
  clear e9 s9
  generalize vs 3=v6 at *
  clear j0 j1 j2 j4 j5
  go_wp2_with(at_builtin;refine zx rfl (.tmp 6) (.tmp 9) 161 rfl w1.heap.size 9 i0 (.string ⟨#[]⟩) 16 Tryz.underlying161 hi hz0 hz1 hz2 rfl _ 1 _ rfl s6 w2.heap.size D9 L.length d9 (strL (L.map SP.tb)) rfl (by rw [qH];simp) hR9 (fun u hu=>by obtain⟨n,_,rfl⟩:=List.mem_map.1 hu;rfl) (by unfold maxLen;omega) (by omega) (by omega) ?_;intro v' w5 hown5 hgrow5 hob5)
  have G5:Grew w w5:=G2.grown hgrow5 G2.size (fun g h=>Nat.le_trans G1.size (zu s6 g h))
  obtain⟨D5,d5,rfl,hd5,hd5',hR5⟩:=zU hown5
  refine(CJ.out D5 d5 w5 (by simpa [strL]using hR5)).mono ?_
  rintro e w6 ⟨rfl,g6⟩
  go_wp2_with fail
  go_ret
  exact⟨rfl,zb G5 g6⟩
theorem xS (c:Cm) (hc:c.in) (A:Option Addr) (k:Nat) (L:List SP) (hl:L.length≤40) (w:World) (hS:Std w) (hL:Sps w A L) :
 Calls Tryz.prog 57 #[.agg (ctC c A L.length k)] w fun e w'=>e=.returned (.int .u64 (ctD c L:Nat))∧Grew w w':=by
 have huc:=Tryz.underlying43
 have SIC:Hid (zI9 43=some (ctC c A L.length k).toList.length):=hQ9 yh
 have z1:=Ag.new w 43 (ctC c A L.length k)
 have G1:=ze (za w) (.cells (ctC c A L.length k) 43)
 have hlen:=ju c hc L hl hL.ok
 have CT1:=hQ9 (zk7 c hc A k L hl _ (hS.grew G1) (hL.gr G1))
 have CH:=hQ9 (fun W=>jU ⟨#[99,101,114,116]⟩ ⟨(ctTx c L).toArray⟩ (by decide) (by have:=hlen;simp [ByteArray.size];omega) W)
 have e1:sumL (⟨#[99,101,114,116]⟩:ByteArray).data.toList (⟨(ctTx c L).toArray⟩:ByteArray).data.toList=ctD c L:=by simp [ctD]
 rw [e1]at CH
 have hm:=z1.cell
 clear e1 hlen hS hL z1 hc
 generalize ctD c L=d at *
 generalize (⟨(ctTx c L).toArray⟩:ByteArray)=tj at *
 generalize ctC c A L.length k=gc at *
 go_enter Tryz.func57,Tryz.ntmps57
 go_wp2_with(with_reducible refine wpList_load_mid rfl 43 (.tmp 1) rfl w.heap.size 0 rfl gc.toList _ hm huc rfl SIC.out ?_;simp only [zT9])
 refine(CT1.out).mono ?_
 rintro e w1 ⟨rfl,g1⟩
 go_wp2_with fail
 refine(CH.out w1).mono ?_
 rintro e w2 ⟨rfl,rfl⟩
 go_wp2_with fail
 go_ret
 exact⟨rfl,zb G1 g1⟩
theorem zk9 (b p:Nat) (kw sd:Int) (l:List Nat) (nx rs:Nat) (hl:l.length≤256) (hn:nx≤l.length) (hr:rs≤l.length) (hkk:leavesOk l.length=true) (hbb:∀ n∈l,n<18446744073709551616) (hsd:U64 sd) (hpp:∀ m,m<l.length→(pathN l m).length≤8) (who:Int) (hw:in64 who) (cc:Cm) (hci:cc.in) (CA:Option Addr) (ck:Nat) (L:List SP) (hL40:L.length≤40) (he1:nx<l.length) (he2:nx<rs) (w:World) (hS:Std w) (hSp:Sps w CA L) (h:KyAt w b p kw sd l nx rs) :
 Calls Tryz.prog 56 #[.pointer (some ⟨b,0,none⟩),.int .i64 who,.agg (ctC cc CA L.length ck)] w fun e w'=>(∃ A c,e=.returned (.tuple #[.agg (akC (ctD cc L) who kw (nx:Int) (signF (secN sd (nx:Int)) (akD (ctD cc L) who)) (.slice A (pathN l nx).length c)),.int .i64 0])∧Rd w' w'.heap.size A (u64L (pathN l nx))∧(∀ ad,A=some ad→w.heap.size≤ad.block))∧Tn b w w'∧KyAt w' b p kw sd l (nx+1) rs:=by
 have zc:=(Ag.new w 43 (ctC cc CA L.length ck)).grew (ze (za _) (.cells (zA23) 79))
 have z0:Ag ((w.alloc (.cells (ctC cc CA L.length ck) 43)).alloc (.cells (zA23) 79)) (w.heap.size+1) (zA23:Array Value).toList:=by
  have:=Ag.new (w.alloc (.cells (ctC cc CA L.length ck) 43)) 79 (zA23)
  simpa using this
 have g0:=ze (ze (za w) (.cells (ctC cc CA L.length ck) 43)) (.cells (zA23) 79)
 have hut:=Tryz.underlying79
 have huc:=Tryz.underlying43
 have hus:=Tryz.underlying77
 have bz:∀ W,(Instr.build 79 #[]).run Tryz.prog W=.ok (.agg (#[.int .u64 0,.int .i64 0,.int .i64 0,.int .i64 0,.int .u64 0,.int .u64 0,.int .u64 0,.int .u64 0,.int .u64 0,.int .u64 0,.int .u64 0,.int .u64 0,.int .u64 0,.int .u64 0,.int .u64 0,.int .u64 0,.int .u64 0,.int .u64 0,.int .u64 0,.int .u64 0,.int .u64 0,.int .u64 0,.slice none 0 0])) W:=fun W=>run_build W 79 #[] _ zbw
 have HCT:Hid (zI9 43=some (ctC cc CA L.length ck).toList.length):=hQ9 yh
 have CM:=hQ9 (fun W hW hL=>xS cc hci CA ck L hL40 W hW hL)
 have hd0:ctD cc L<18446744073709551616:=xe _ _
 obtain⟨d0,hdd0⟩:∃ d,ctD cc L=d:=⟨_,rfl⟩
 rw [hdd0]at CM hd0
 have CD:=hQ9 (fun W hW=>kV d0 who hd0 hw W hW)
 have hdl:=zeo d0 who
 have CS:=hQ9 (fun W hW=>zcq b p kw sd l nx rs hl hn hr (akD d0 who:Nat) hkk hbb hsd ⟨by omega,by omega⟩ W hW)
 have hpl8:=zg4 l nx rs hpp
 obtain⟨d,hd⟩:∃ d,akD d0 who=d:=⟨_,rfl⟩
 rw [hd]at CD
 simp only [hd]at CS
 obtain⟨a1,ha1⟩:∃ v,soW l nx rs kw=v:=⟨_,rfl⟩
 obtain⟨a2,ha2⟩:∃ v,soL l nx rs=v:=⟨_,rfl⟩
 obtain⟨s,hs⟩:∃ v,soS l nx rs sd (d:Int)=v:=⟨_,rfl⟩
 obtain⟨pl,hp1⟩:∃ v,soP l nx rs=v:=⟨_,rfl⟩
 obtain⟨er,he3⟩:∃ v,soE l nx rs=v:=⟨_,rfl⟩
 obtain⟨n2,hn2⟩:∃ v,soN l nx rs=v:=⟨_,rfl⟩
 simp only [ha1,ha2,hs,hp1,he3,hn2]at CS
 rw [hp1]at hpl8
 have hkey:soW l nx rs kw=kw∧soL l nx rs=(nx:Int)∧soS l nx rs sd (d:Int)=signF (secN sd (nx:Int)) d∧soP l nx rs=pathN l nx∧soE l nx rs=0∧soN l nx rs=nx+1:=by
  have q1:¬l.length≤nx:=by omega
  have q2:¬rs≤nx:=by omega
  unfold soW soL soS soP soE soN
  simp only [if_neg q1,if_neg q2,Int.toNat_natCast,and_self]
 have HA1:Hid (kw=a1):=hQ9 (hkey.1.symm.trans ha1)
 have HA2:Hid ((nx:Int)=a2):=hQ9 (hkey.2.1.symm.trans ha2)
 have HSS:Hid (signF (secN sd (nx:Int)) d=s):=hQ9 (hkey.2.2.1.symm.trans hs)
 have HP1:Hid (pathN l nx=pl):=hQ9 (hkey.2.2.2.1.symm.trans hp1)
 have hne:(er != 0)=false:=by rw [←he3,hkey.2.2.2.2.1];rfl
 have HN2:Hid (nx+1=n2):=hQ9 (hkey.2.2.2.2.2.symm.trans hn2)
 have HDD:=hQ9 hd
 have HD0:=hQ9 hdd0
 have HPW:Hid (p<w.heap.size):=hQ9 h.pub.lt
 have HSP:=hQ9 hSp
 clear ha1 ha2 hs hp1 he3 hn2 hkey
 have hbw:b<w.heap.size:=h.key.lt
 have HS:=hQ9 hS
 have K1:=h.grew g0
 clear hS h hkk hbb hsd hpp hd hdl hd0 hdd0 hw hSp
 obtain⟨w1,hw1⟩:∃ v,(w.alloc (.cells (ctC cc CA L.length ck) 43)).alloc (.cells (zA23) 79)=v:=⟨_,rfl⟩
 rw [hw1]at z0 zc g0 K1
 have HW1:=hQ9 hw1
 clear hw1
 have hmc:=zc.cell
 go_enter Tryz.func56,Tryz.ntmps56
 go_wp2_with(with_reducible refine wpList_load_mid rfl 43 (.tmp 5) rfl w.heap.size 0 rfl (ctC cc CA L.length ck).toList _ (by rw [HW1.out];exact hmc) huc rfl HCT.out ?_;rw [HW1.out];simp only [zT9])
 refine(CM.out w1 (HS.out.grew g0) (HSP.out.gr g0)).mono ?_
 rintro e wa ⟨rfl,ga⟩
 have z1:=z0.grew ga
 have K1':=K1.grew ga
 have G1:=zb g0 ga
 clear z0 zc K1 g0 ga hmc
 go_wp2_with fail
 refine(CD.out wa (HS.out.grew G1)).mono ?_
 rintro e w2 ⟨rfl,gg⟩
 have z2:=z1.grew gg
 have K2:=K1'.grew gg
 have G2:=zb G1 gg
 clear z1 K1' G1 gg
 go_wp2_with fail
 refine(CS.out w2 K2).mono ?_
 rintro e w3 ⟨⟨A,c,rfl,r3,hA⟩,t3,K3⟩
 have z3:=z2.kp (kp_tn t3) (show ¬w.heap.size+1=b by omega)
 have T3:Tn b w w3:=tn_kp (kX G2) (kp_tn t3) (fun i e=>.inl e)
 have hz3:=z2.lt
 have hfr:∀ ad,A=some ad→w.heap.size+1<ad.block:=fun ad e=>by have:=hA ad e;omega
 have HFR:=hQ9 hfr
 clear K2 G2 t3 hA z2 hfr
 have HSI1:Hid (zI9 77=some (sgC a1 a2 s (.slice A pl.length c)).size):=hQ9 zG
 have HSL1:Hid (zI9 77=some (sgC a1 a2 s (.slice A pl.length c)).toList.length):=hQ9 zG
 have HON1:=hQ9 (yS a1 a2 s A pl.length c)
 have HBU:=hQ9 (zaj d0 who a1 a2 s A pl.length c)
 have zt:=Ag.new w3 77 (zS21)
 have HTH:Hid ((w3.alloc (.cells (zS21) 77)).there w3.heap.size 0 (sgC a1 a2 s (.slice A pl.length c)).size):=hQ9 (zt.thereN 21 rfl)
 have z4:=Ag.set (vs:=(sgC a1 a2 s (.slice A pl.length c)).toList) zt rfl
 have g5:Grew w3 ((w3.alloc (.cells (zS21) 77)).setCells w3.heap.size 0 (sgC a1 a2 s (.slice A pl.length c)).toList):=zh (o:=0) (b:=w3.heap.size) (sgC a1 a2 s (.slice A pl.length c)).toList (ze (za w3) _) (zN9 _)
 have K5:=K3.grew g5
 have r5:=r3.gr g5
 have z5:=z3.grew g5
 have T5:Tn b w ((w3.alloc (.cells (zS21) 77)).setCells w3.heap.size 0 (sgC a1 a2 s (.slice A pl.length c)).toList):=tn_kp T3 (zF (S:=fun _=>False) g5) (fun i e=>e.elim)
 have hz5:=z5.lt
 have hz3':=z3.lt
 obtain⟨g1,hg1⟩:∃ g,sgC a1 a2 s (.slice A pl.length c)=g:=⟨_,rfl⟩
 rw [hg1]at HSI1 HSL1 HON1 HTH HBU z4 K5 r5 z5 T5 hz5 ⊢
 obtain⟨w5,hw5⟩:∃ v,(w3.alloc (.cells (zS21) 77)).setCells w3.heap.size 0 g1.toList=v:=⟨_,rfl⟩
 rw [hw5]at z4 K5 r5 z5 T5 hz5
 have HW5:=hQ9 hw5
 clear hw5 hg1 zt g5 K3 r3 z3 T3
 have HTZ:Hid (w5.there (w.heap.size+1) 0 (akC d0 who a1 a2 s (.slice A pl.length c)).size):=hQ9 (z5.thereN 23 rfl)
 have HOZ:=hQ9 (kt d0 who a1 a2 s A pl.length c)
 have HSZ:Hid (zI9 79=some (akC d0 who a1 a2 s (.slice A pl.length c)).size):=hQ9 zJ
 have HSZL:Hid (zI9 79=some (akC d0 who a1 a2 s (.slice A pl.length c)).toList.length):=hQ9 zJ
 have z6:=Ag.set (vs:=(akC d0 who a1 a2 s (.slice A pl.length c)).toList) z5 rfl
 have K6:=zn (akC d0 who a1 a2 s (.slice A pl.length c)).toList (w.heap.size+1) 0 w5
 have KK:=K5.kp K6 (by show ¬b=w.heap.size+1;omega) (by show ¬p=w.heap.size+1;have:=HPW.out;omega)
 have TT:Tn b w (w5.setCells (w.heap.size+1) 0 (akC d0 who a1 a2 s (.slice A pl.length c)).toList):=tn_kp T5 K6 (fun i (e:i=w.heap.size+1)=>.inr (by omega))
 have RR:=(r5.kp K6 (zN9 _) (fun ad e1 _ (e3:ad.block=w.heap.size+1)=>by have:=HFR.out ad e1;omega)).more K6.size
 have hm4:=z4.cell
 obtain⟨g2,hg2⟩:∃ g,akC d0 who a1 a2 s (.slice A pl.length c)=g:=⟨_,rfl⟩
 have HG2':=hQ9 hg2
 rw [hg2]at HTZ HOZ HSZ HSZL HBU z6 KK TT RR
 clear z5 K5 r5 T5 K6 hg2
 go_wp2_with(first
  | (with_reducible refine wpList_store_mid rfl 77 (.tmp 9) (.tmp 19) rfl w3.heap.size 0 g1 rfl rfl HTH.out HSI1.out HON1.out ?_;rw [HW5.out];clear HW5 HTH)
  | (with_reducible refine wpList_load_mid rfl 77 (.tmp 9) rfl w3.heap.size 0 rfl g1.toList _ hm4 hus rfl HSL1.out ?_;simp only [zT9])
  | (with_reducible refine zC rfl 79 #[(0,.tmp 25),(1,.tmp 26),(2,.tmp 27)] rfl g2 ?_ ?_;· simpa [Act.eval,Act.put]using HBU.out)
  | (with_reducible refine wpList_store_mid rfl 79 (.tmp 6) (.tmp 28) rfl (w.heap.size+1) 0 g2 rfl rfl HTZ.out HSZ.out HOZ.out ?_))
 exact bodyPost_ret (zw Tryz.results56 _ _ (w.heap.size+1) _ _ _ rfl rfl z6 hut rfl HSZL.out) rfl ⟨⟨A,c,by show Ending.returned (.tuple #[.agg g2.toList.toArray,.int .i64 0])=_;rw [zT9,←HG2'.out,HD0.out,HDD.out,HSS.out,HP1.out,HA2.out,HA1.out],by rw [HP1.out];exact RR,fun ad e=>by have:=HFR.out ad e;omega⟩,TT,by rw [HN2.out];exact KK⟩
theorem SP.mv_T (S:SP) (A:Option Addr) (c:Nat):(S.mv A c).C.toList=[.int .u64 (S.cm:Nat),.int .i64 S.who,.int .i64 S.at_]++(sgC S.sw S.lf S.s (.slice A S.l.length c)).toList:=rfl
theorem SP.C_eq (S:SP):S.C.toList=[.int .u64 (S.cm:Nat),.int .i64 S.who,.int .i64 S.at_]++(sgC S.sw S.lf S.s (.slice S.A S.l.length S.c)).toList:=rfl
theorem zla (S:SP) (hS:S.ok) (w:World) (ha:S.at w) :
 Calls Tryz.prog 136 #[.agg S.C] w fun e w'=>∃ A c,e=.returned (.agg (S.mv A c).C)∧(S.mv A c).at w'∧(∀ ad,A=some ad→w.heap.size≤ad.block)∧Grew w w':=by
 have z1:=(Ag.new w 157 S.C).grew (ze (za _) (.cells (zS24) 157))
 have z2:Ag ((w.alloc (.cells S.C 157)).alloc (.cells (zS24) 157)) (w.heap.size+1) (zS24:Array Value).toList:=by
  have:=Ag.new (w.alloc (.cells S.C 157)) 157 (zS24)
  simpa using this
 have G0:=ze (ze (za w) (.cells S.C 157)) (.cells (zS24) 157)
 have ha0:=ha.gr G0
 have CC:=hQ9 (zhb S.sw S.lf S.s S.A S.c S.l hS.len _ ha0)
 have hut:=Tryz.underlying157
 have hus:=Tryz.underlying77
 have HZI:=hQ9 z1
 have hm0:((w.alloc (.cells S.C 157)).alloc (.cells (zS24) 157)).rangeAt w.heap.size 3 (sgC S.sw S.lf S.s (.slice S.A S.l.length S.c)).toList:=xF z1.cell
 have HSG:Hid (zI9 77=some (sgC S.sw S.lf S.s (.slice S.A S.l.length S.c)).toList.length):=hQ9 zG
 clear ha ha0 z1
 go_enter Tryz.func136,Tryz.ntmps136
 go_wp2_with(with_reducible refine wpList_load_mid rfl 77 (.tmp 3) rfl w.heap.size 3 rfl (sgC S.sw S.lf S.s (.slice S.A S.l.length S.c)).toList _ hm0 hus rfl HSG.out ?_;simp only [zT9])
 refine(CC.out).mono ?_
 rintro e w1 ⟨A2,c2,rfl,hr2,hb2,g1⟩
 have z1:=HZI.out.grew g1
 have z2':=z2.grew g1
 have G1:=zb G0 g1
 have hb0:w.heap.size+2≤((w.alloc (.cells S.C 157)).alloc (.cells (zS24) 157)).heap.size:=by rw [zl,zl];omega
 have hb2':∀ ad,A2=some ad→w.heap.size+2≤ad.block:=fun ad h=>Nat.le_trans hb0 (hb2 ad h)
 have SIG:Hid (zI9 77=some (sgC S.sw S.lf S.s (.slice A2 S.l.length c2)).size):=hQ9 zG
 have ONG:=hQ9 (yS S.sw S.lf S.s A2 S.l.length c2)
 have THG:Hid (w1.there w.heap.size 3 (sgC S.sw S.lf S.s (.slice A2 S.l.length c2)).size):=hQ9 (fun i hi=>by
  have hi':i<21:=hi
  have:=z1.there (3+i) (by show 3+i<24;omega)
  simpa using this)
 have y1:Ag (w1.setCells w.heap.size 3 (sgC S.sw S.lf S.s (.slice A2 S.l.length c2)).toList) w.heap.size (S.mv A2 c2).C.toList:=by
  rw [SP.C_eq]at z1
  rw [SP.mv_T]
  exact(Ag.setTail (pre:=[.int .u64 (S.cm:Nat),.int .i64 S.who,.int .i64 S.at_]) (old:=(sgC S.sw S.lf S.s (.slice S.A S.l.length S.c)).toList) (vs:=(sgC S.sw S.lf S.s (.slice A2 S.l.length c2)).toList) z1 (by rw [qz,qz]))
 have K1:=zn (sgC S.sw S.lf S.s (.slice A2 S.l.length c2)).toList w.heap.size 3 w1
 have z3:=z2'.kp K1 (fun e=>by omega)
 have r3:=(hr2.kp K1 (zN9 _) (fun ad h _ e=>by have:=hb2' ad h;omega)).more K1.size
 have G3:=zh (o:=3) (b:=w.heap.size) (sgC S.sw S.lf S.s (.slice A2 S.l.length c2)).toList G1 (zN9 _)
 obtain⟨w2,hw2⟩:∃ v,w1.setCells w.heap.size 3 (sgC S.sw S.lf S.s (.slice A2 S.l.length c2)).toList=v:=⟨_,rfl⟩
 rw [hw2]at y1 z3 r3 G3
 have HW2:=hQ9 hw2
 clear CC HZI z2 z1 z2' hb2 hb0 G0 g1 hr2 G1 K1 hw2 hm0 HSG
 have SI1:Hid (zI9 157=some (S.mv A2 c2).C.toList.length):=hQ9 zK
 have SI2:Hid (zI9 157=some (S.mv A2 c2).C.size):=hQ9 zK
 have HON:=hQ9 (S.mv A2 c2).one
 have HTH:Hid (w2.there (w.heap.size+1) 0 (S.mv A2 c2).C.size):=hQ9 (z3.thereN 24 rfl)
 have z4:=Ag.set (vs:=(S.mv A2 c2).C.toList) z3 rfl
 have K4:=zn (S.mv A2 c2).C.toList (w.heap.size+1) 0 w2
 have G4:=zh (o:=0) (b:=w.heap.size+1) (S.mv A2 c2).C.toList G3 (by omega)
 have r4:=(r3.kp K4 (zN9 _) (fun ad h _ e=>by have:=hb2' ad h;omega)).more K4.size
 have hm:=y1.cell
 clear z3 y1 r3 G3 K4
 go_wp2_with(first
  | (with_reducible refine wpList_store_mid rfl 77 (.tmp 6) (.tmp 5) rfl w.heap.size 3 (sgC S.sw S.lf S.s (.slice A2 S.l.length c2)) rfl rfl THG.out SIG.out ONG.out ?_;rw [HW2.out])
  | (with_reducible refine wpList_load_mid rfl 157 (.tmp 1) rfl w.heap.size 0 rfl (S.mv A2 c2).C.toList _ hm hut rfl SI1.out ?_;simp only [zT9])
  | (with_reducible refine wpList_store_mid rfl 157 (.tmp 2) (.tmp 7) rfl (w.heap.size+1) 0 (S.mv A2 c2).C rfl rfl HTH.out SI2.out HON.out ?_))
 exact bodyPost_ret (zL Tryz.results136 _ _ (w.heap.size+1) _ _ rfl z4 hut rfl zK) rfl ⟨A2,c2,rfl,r4,(fun ad h=>by have:=hb2' ad h;omega),G4⟩
theorem zi1 (A:Option Addr) (c:Nat) (L:List SP) (hl:L.length≤100000) (w:World) (hL:Sps w A L) :
 Calls Tryz.prog 135 #[.slice A L.length c,.func (.func 136) #[] #[]] w fun e w'=>∃ B c' M,e=.returned (.slice B L.length c')∧MvL L M∧Sps w' B M∧L.length≤c'∧c'≤maxLen∧(∀ ad,B=some ad→w.heap.size≤ad.block)∧(∀ S∈M,∀ ad,S.A=some ad→S.l=[]∨w.heap.size≤ad.block)∧Grew w w':=by
 obtain⟨i0,hi,hz0,hz1,hz2⟩:=info_parts qc
 have hut:=Tryz.underlying157
 have HL:=hQ9 hL
 have hr:=hL.rd
 clear hL
 obtain⟨w1,hmk,hown1,hgrow1⟩:=run_make_own (P:=Tryz.prog) w w.heap.size 41 157 i0 (.agg (zS24:Array Value)) 24 Tryz.underlying41 hi hz0 hz1 .i64 .i64 L.length (by rw [hz2];omega) (by unfold maxLen;omega) (zN9 _)
 have hg1:Grew w w1:=(Below.refl _ w).grown hgrow1 (zN9 _) (fun j hj=>by cases hj)
 clear hgrow1
 go_enter Tryz.func135,Tryz.ntmps135
 go_wp2_with fail
 clear hmk
 go_loopw [5,13] (fun rv iv wr=>∃(i:Nat) (M:List SP),i≤L.length∧iv=.int .i64 i∧MvL (L.take i) M∧(∀ S∈M,S.ok)∧(∀ S∈M,S.at wr)∧(∀ S∈M,∀ ad,S.A=some ad→∀ g,rv.ownBlock=some g→S.l=[]∨ad.block≠g)∧(∀ S∈M,∀ ad,S.A=some ad→S.l=[]∨w.heap.size≤ad.block)∧wr.ownsRow w.heap.size 157 24 rv i (spL M).flatten∧Grew w wr) (fun _ i _=>L.length-(Go.RowKit.intOf i).toNat)
 case atStart=>exact⟨0,[],Nat.zero_le _,rfl,by simpa using MvL.nil,by simp,by simp,by simp,by simp,by simpa [spL]using hown1,hg1⟩
 case round =>
  obtain⟨i,M,hil,rfl,hmv,hok,hat,hne,hlow,hrow,hg⟩:=hrel
  by_cases hlt:i<L.length
  ·obtain⟨q,hA,hq,hm⟩:=RdC.at24 hr hg i hlt
   subst hA
   have hts:L.take (i+1)=L.take i++[L[i]]:=by rw [List.take_succ_eq_append_getElem hlt]
   have HTS:=hQ9 hts
   have hSok:=HL.out.ok L[i] (List.getElem_mem hlt)
   have hSat:=(HL.out.at_ L[i] (List.getElem_mem hlt)).gr hg
   clear hts
   have hi0:(0:Int)≤(i:Int):=by omega
   have hi1:(i:Int)<(L.length:Int):=by omega
   have e4:IntKind.i64.wrap ((i:Int)+1)=(i:Int)+1:=IntWalk.i64_in _ (by omega)
   generalize L[i]=S at *
   have SIS:Hid (zI9 157=some S.C.toList.length):=hQ9 zK
   have SIZ:Hid (zI9 157=some S.C.size):=hQ9 zK
   have HON:=hQ9 S.one
   obtain⟨w2,hw2,ht2,g2,z2⟩:=x9 wr S.C rfl
   have HW2:=hQ9 hw2
   have HT2:=hQ9 ht2
   have hm2:=z2.cell
   have CCP:=hQ9 (zla S hSok w2 (hSat.gr g2))
   have HOK:=hQ9 hok
   have HNE:=hQ9 hne
   have HLW:=hQ9 hlow
   have hwz:=hg.size
   have HWZ:=hQ9 hwz
   have HMV:=hQ9 hmv
   have HAT:=hQ9 (fun S hS=>(hat S hS).gr g2)
   have HSO:=hQ9 hSok
   clear hw2 ht2 hok hne hlow hmv hat hSok hSat hwz
   go_wp2_with(first
    | (with_reducible refine wpList_load_mid rfl 157 (.tmp 15) rfl q (i*24) rfl S.C.toList _ hm hut rfl SIS.out ?_;simp only [zT9])
    | (with_reducible refine wpList_store_mid rfl 157 (.tmp 7) (.tmp 16) rfl wr.heap.size 0 S.C rfl rfl HT2.out SIZ.out HON.out ?_;rw [HW2.out])
    | (with_reducible refine wpList_load_mid rfl 157 (.tmp 7) rfl wr.heap.size 0 rfl S.C.toList _ hm2 hut rfl SIS.out ?_;simp only [zT9]))
   refine(CCP.out).mono ?_
   rintro e w3 ⟨A2,c2,rfl,hat2,hfr2,gg⟩
   have G3:=zb hg (zb g2 gg)
   have hrow3:=zo (S:=fun _=>False) hrow (zF (zb g2 gg)) (fun g _ h=>h)
   have hsz3:=G3.size
   have hsz:(S.mv A2 c2).C.size=24:=rfl
   have HAT3:=hQ9 (fun T hT=>(HAT.out T hT).gr gg)
   have HOB:=hQ9 (zN hrow)
   have hgz:=(zb g2 gg).size
   have HFR:Hid (∀ ad,A2=some ad→S.l=[]∨wr.heap.size≤ad.block):=hQ9 (fun ad h=>.inr (Nat.le_trans g2.size (hfr2 ad h)))
   clear hrow hm hm2 z2 g2 gg hg HT2 HW2 CCP HAT
   go_wp2_with(first
    | (at_builtin;rw [xN];refine zO _ rfl (.tmp 17) (.tmp 21) 41 rfl w.heap.size 157 i0 (.agg (#[.int .u64 0,.int .i64 0,.int .i64 0,.int .i64 0,.int .i64 0,.int .u64 0,.int .u64 0,.int .u64 0,.int .u64 0,.int .u64 0,.int .u64 0,.int .u64 0,.int .u64 0,.int .u64 0,.int .u64 0,.int .u64 0,.int .u64 0,.int .u64 0,.int .u64 0,.int .u64 0,.int .u64 0,.int .u64 0,.int .u64 0,.slice none 0 0]:Array Value)) 24 208 Tryz.underlying41 hi hz0 hz1 hz2 rfl (by decide) _ _ _ rfl (hrow3.alloc _) ⟨w3.heap.size,0,none⟩ 1 1 (S.mv A2 c2).C.toList rfl rfl (fun j u hj=>yg w3 (S.mv A2 c2).C 157 j u hj) (S.mv A2 c2).one' (by unfold maxLen;omega) (by omega) (by simp;omega) ?_;intro v' w5 hown5 hgrow5 hob5))
   have ga:=ze (za w3) (.cells (S.mv A2 c2).C 157)
   go_roundw
   case rel =>
    refine⟨i+1,M++[S.mv A2 c2],by omega,by go_num,by rw [HTS.out];exact HMV.out.snoc S A2 c2,?_,?_,?_,?_,by rw [xo];exact hown5,(ze G3 _).grown hgrow5 (by simp;omega) (zu hrow3)⟩
    ·intro T hT
     rcases List.mem_append.1 hT with h | h
     ·exact HOK.out T h
     ·obtain rfl:T=S.mv A2 c2:=by simpa using h
      exact SP.mv_ok HSO.out _ _
    ·intro T hT
     rcases List.mem_append.1 hT with h | h
     ·exact yQ ((HAT3.out T h).gr ga) hgrow5 (fun ad e g hg=>HNE.out T h ad e g hg)
     ·obtain rfl:T=S.mv A2 c2:=by simpa using h
      exact yQ (hat2.gr ga) hgrow5 (fun ad e g hg=>by
       rcases HFR.out ad e with h1 | h1
       ·exact .inl h1
       ·have:=(HOB.out g hg).2
        exact .inr (by omega))
    ·intro T hT ad e g hg
     have hlt9:T.l=[]∨ad.block<(w3.alloc (.cells (S.mv A2 c2).C 157)).heap.size:=by
      rcases List.mem_append.1 hT with h | h
      ·exact at_lt ((HAT3.out T h).gr ga) ad e
      ·obtain rfl:T=S.mv A2 c2:=by simpa using h
       exact at_lt (hat2.gr ga) ad e
     rcases hob5 with h3 | h3
     ·rw [h3]at hg
      rcases List.mem_append.1 hT with h | h
      ·exact HNE.out T h ad e g hg
      ·obtain rfl:T=S.mv A2 c2:=by simpa using h
       rcases HFR.out ad e with h1 | h1
       ·exact .inl h1
       ·have:=(HOB.out g hg).2
        exact .inr (by omega)
     ·rw [h3]at hg;injection hg with hg
      rcases hlt9 with h1 | h1
      ·exact .inl h1
      ·exact .inr (by omega)
    ·intro T hT ad e
     rcases List.mem_append.1 hT with h | h
     ·exact HLW.out T h ad e
     ·obtain rfl:T=S.mv A2 c2:=by simpa using h
      rcases HFR.out ad e with h1 | h1
      ·exact .inl h1
      ·exact .inr (Nat.le_trans HWZ.out h1)
   case measure=>simp [Go.RowKit.intOf];omega
  ·obtain rfl:i=L.length:=by omega
   rw [List.take_length]at hmv
   obtain⟨B,c',rfl,hB,hc1,hc2,hbB⟩:=xO hrow hmv.len
   go_wp2_with fail
   go_ret
   exact⟨B,c',M,rfl,hmv,⟨hB,hok,hat⟩,hc1,hc2,fun ad e=>(hbB ad e).1,hlow,hg⟩
theorem znr (cc:Cm) (A:Option Addr) (k:Nat) (L:List SP) (hl:L.length≤100000) (w:World) (hL:Sps w A L) :
 Calls Tryz.prog 63 #[.agg (ctC cc A L.length k)] w fun e w'=>∃ B k' M,e=.returned (.agg (ctC cc B L.length k'))∧MvL L M∧Sps w' B M∧(∀ ad,B=some ad→w.heap.size≤ad.block)∧(∀ S∈M,∀ ad,S.A=some ad→S.l=[]∨w.heap.size≤ad.block)∧Grew w w':=by
 have z1:=(Ag.new w 43 (ctC cc A L.length k)).grew (ze (za _) (.cells (zS6) 43))
 have z2:Ag ((w.alloc (.cells (ctC cc A L.length k) 43)).alloc (.cells (zS6) 43)) (w.heap.size+1) (zS6:Array Value).toList:=by
  have:=Ag.new (w.alloc (.cells (ctC cc A L.length k) 43)) 43 (zS6)
  simpa using this
 have G0:=ze (ze (za w) (.cells (ctC cc A L.length k) 43)) (.cells (zS6) 43)
 have hL0:=hL.gr G0
 have hc5:((w.alloc (.cells (ctC cc A L.length k) 43)).alloc (.cells (#[.int .i64 0,.int .i64 0,.int .i64 0,.int .i64 0,.int .i64 0,.slice none 0 0]) 43)).cell? ⟨w.heap.size,5,none⟩=some (.slice A L.length k):=by simpa using z1.cell 5 _ rfl
 have CM:=hQ9 (zi1 A k L hl _ hL0)
 have hut:=Tryz.underlying43
 have HZI:=hQ9 z1
 clear hL hL0 z1
 go_enter Tryz.func63,Tryz.ntmps63
 go_wp2_with fail
 refine(CM.out).mono ?_
 rintro e w1 ⟨B,k',M,rfl,hmv,hSM,hk1,hk2,hB,hMA,g1⟩
 have hb0:w.heap.size+2≤((w.alloc (.cells (ctC cc A L.length k) 43)).alloc (.cells (zS6) 43)).heap.size:=by rw [zl,zl];omega
 have hB':∀ ad,B=some ad→w.heap.size+2≤ad.block:=fun ad h=>Nat.le_trans hb0 (hB ad h)
 have hMA':∀ S∈M,∀ ad,S.A=some ad→S.l=[]∨w.heap.size+2≤ad.block:=fun S hS ad h=>(hMA S hS ad h).imp id (fun h=>Nat.le_trans hb0 h)
 have z1:=HZI.out.grew g1
 have z2':=z2.grew g1
 have G1:=zb G0 g1
 have hc1:w1.cell? ⟨w.heap.size,5,none⟩=some (.slice A L.length k):=by simpa using z1.cell 5 _ rfl
 have fc1:w1.frozen? ⟨w.heap.size,5,none⟩=false:=by simpa using (z1.there 5 (by show 5<6;omega)).2
 have y1:Ag (w1.setCell ⟨w.heap.size,5,none⟩ (.slice B L.length k')) w.heap.size (ctC cc B L.length k').toList:=z1.set1 5 (.slice B L.length k') (by show 5<6;omega)
 have K1:=yH (S:=fun j=>j=w.heap.size) (zQ _ w1) (p:=⟨w.heap.size,5,none⟩) (.inl rfl) (.slice B L.length k')
 have z3:=z2'.kp K1 (fun e=>by omega)
 have S3:=hSM.kpx K1 (fun ad h e=>by have:=hB' ad h;omega) (fun T hT ad h=>(hMA' T hT ad h).imp id (fun h e=>by omega))
 have G3:Grew w (w1.setCell ⟨w.heap.size,5,none⟩ (.slice B L.length k')):=zV G1 K1 G1.size (fun i e=>by have e':i=w.heap.size:=e;omega)
 clear CM HZI z2 z1 z2' hc5 hB hMA hb0 G0 g1 hSM G1 K1
 have SI1:Hid (zI9 43=some (ctC cc B L.length k').toList.length):=hQ9 yh
 have SI2:Hid (zI9 43=some (ctC cc B L.length k').size):=hQ9 yh
 have HON:=hQ9 (kx cc B L.length k')
 have HTH:Hid ((w1.setCell ⟨w.heap.size,5,none⟩ (.slice B L.length k')).there (w.heap.size+1) 0 (ctC cc B L.length k').size):=hQ9 (z3.thereN 6 rfl)
 have z4:=Ag.set (vs:=(ctC cc B L.length k').toList) z3 rfl
 have K4:=zn (ctC cc B L.length k').toList (w.heap.size+1) 0 (w1.setCell ⟨w.heap.size,5,none⟩ (.slice B L.length k'))
 have G4:=zh (o:=0) (b:=w.heap.size+1) (ctC cc B L.length k').toList G3 (by omega)
 have S4:=S3.kpx K4 (fun ad h e=>by have:=hB' ad h;omega) (fun T hT ad h=>(hMA' T hT ad h).imp id (fun h e=>by omega))
 have hm:=y1.cell
 clear z3 y1 S3 G3 K4
 go_wp2_with(first
  | (with_reducible refine wpList_load_mid rfl 43 (.tmp 1) rfl w.heap.size 0 rfl (ctC cc B L.length k').toList _ hm hut rfl SI1.out ?_;simp only [zT9])
  | (with_reducible refine wpList_store_mid rfl 43 (.tmp 2) (.tmp 7) rfl (w.heap.size+1) 0 (ctC cc B L.length k') rfl rfl HTH.out SI2.out HON.out ?_))
 exact bodyPost_ret (zL Tryz.results63 _ _ (w.heap.size+1) _ _ rfl z4 hut rfl yh) rfl ⟨B,k',M,rfl,hmv,S4,(fun ad h=>by have:=hB' ad h;omega),(fun S hS ad h=>(hMA' S hS ad h).imp id (fun h=>by omega)),G4⟩
def StR.sp (r:StR) (A:Option Addr) (c:Nat):SP:=⟨r.cm,r.who,r.at_,r.g.1.1,r.g.1.2,r.g.2.1,A,c,r.g.2.2⟩
structure StL (l:List StR) (M:List SP):Prop where
 len:M.length=l.length
 each:∀ k (h:k<l.length) (h':k<M.length),∃ A c,M[k]=l[k].sp A c
theorem StL.nil:StL [] []:=⟨rfl,fun k h=>absurd h (by simp)⟩
theorem StL.snoc {L:List StR} {M:List SP} (h:StL L M) (S:StR) (A:Option Addr) (c:Nat):StL (L++[S]) (M++[S.sp A c]):=by
 refine⟨by simp [h.len],fun k h1 h2=>?_⟩
 by_cases hk:k<L.length
 ·rw [List.getElem_append_left hk,List.getElem_append_left (by rw [h.len];exact hk)]
  exact h.each k hk _
 ·have hk':k=L.length:=by have h3:(L++[S]).length=L.length+1:=by simp
                          omega
  subst hk'
  refine⟨A,c,?_⟩
  have e1:(L++[S])[L.length]'h1=S:=by simp
  have e2:(M++[S.sp A c])[L.length]'h2=S.sp A c:=by
   have:∀ n (hn:n<(M++[S.sp A c]).length),n=M.length→(M++[S.sp A c])[n]=S.sp A c:=fun n hn e=>by subst e;simp
   exact this _ _ h.len.symm
  rw [e1,e2]
structure SP.gd (S:SP):Prop where
 ok:S.ok
 who:-2147483648≤S.who∧S.who≤2147483647
 sw:0≤S.sw∧S.sw≤15
 lf:0≤S.lf
 len:S.l.length≤8
end Go.Proofs.YtkpnheenacchhaaGreatDoor
