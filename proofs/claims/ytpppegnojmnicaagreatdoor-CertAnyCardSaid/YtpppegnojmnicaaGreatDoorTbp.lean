/- slices.Clone at digests; median.copied, field.Map of it. -/
import Derived.Test.YtpppegnojmnicaaGreatDoorTzz
import Derived.Lib.SliceRun
import Derived.Test.YtpppegnojmnicaaGreatDoorTbo
import Derived.Test.YtpppegnojmnicaaGreatDoorTbl
import Derived.Test.YtpppegnojmnicaaGreatDoorTaz
import Derived.Test.YtpppegnojmnicaaGreatDoorTbi
import Derived.Test.YtpppegnojmnicaaGreatDoorTbg
import Derived.Test.YtpppegnojmnicaaGreatDoorTab
import Derived.Test.YtpppegnojmnicaaGreatDoorTbm
set_option maxHeartbeats 4000000
set_option maxRecDepth 100000
set_option linter.unusedSimpArgs false
set_option linter.unusedVariables false
namespace Go.Proofs.YtpppegnojmnicaaGreatDoor
open Go.RowKit
theorem zm5 (A:Option Addr) (c B:Nat) (l:List Nat) (hl:l.length≤1048576) (w:World) (hr:Rd w B A (u64L l)) (hB:B≤w.heap.size) :
 Calls Tryz.prog 185 #[.slice A l.length c] w fun e w'=>∃ A2 c2,e=.returned (.slice A2 l.length c2)∧Rd w' w'.heap.size A2 (u64L l)∧(∀ ad,A2=some ad→w.heap.size≤ad.block)∧Grew w w':=by
 obtain⟨i0,hi0,hz0,hz1,hz2⟩:=info_parts (show(Tryz.prog.info? 56).map (fun i=>(i.zero,i.size,i.bytes))=some (some (.int .u64 0),1,8) by kernel_rfl)
 have he:=fun W=>Lib.run_eql_slice_nil (P:=Tryz.prog) W 48 56 A l.length c 0 0 Tryz.underlying48
 cases A with
 | none =>
  have hn:l=[]:=by
   cases l with
   | nil=>rfl
   | cons a l =>
    obtain⟨ad,h,_⟩:=hr 0 (by simp [u64L])
    cases h
  subst hn
  simp only [List.length_nil,Option.isNone_none]at he ⊢
  go_enter Tryz.func185,Tryz.ntmps185
  go_wp2_with fail
  go_ret
  exact⟨none,0,rfl,(fun k h=>absurd h (by simp [u64L])),(fun ad h=>by cases h),Below.refl _ _⟩
 | some ad =>
  have hr1:=hr.alloc hB (.cells #[] 56)
  have hmade:(w.alloc (.cells #[] 56)).ownsRow w.heap.size 56 1 (.slice (some ⟨w.heap.size,0,none⟩) 0 0) 0 []:=World.ownsRow_made w #[] 0 (Nat.le_refl _) (by decide) rfl
  have HR:=hQ9 hr1
  clear hr hr1
  go_enter Tryz.func185,Tryz.ntmps185
  go_wp2_with(at_builtin;refine zi rfl _ _ _ rfl w.heap.size 56 i0 _ 8 Tryz.underlying48 hi0 hz0 hz1 hz2 rfl _ 0 [] rfl hmade B (some ad) l.length c (u64L l) rfl (jn l) HR.out (fun u hu=>by obtain⟨n,_,rfl⟩:=List.mem_map.1 hu;rfl) (by unfold maxLen;omega) (by omega) (by simp) ?_;intro v2 w2 hown2 hgrow hat)
  simp only [Nat.zero_add,List.nil_append]at hown2
  obtain⟨A2,c2,rfl,hrd,hn1,hab⟩:=xK hown2
  go_wp2_with fail
  go_ret
  exact⟨A2,c2,rfl,hrd,fun ad h=>(hab ad h).1,((Below.refl _ _).alloc (Nat.le_refl _) _).grown hgrow (by simp) (fun g hg=>by have h':some w.heap.size=some g:=hg;injection h' with h';omega)⟩
def SP.mv (S:SP) (A:Option Addr) (c:Nat):SP:={ S with A:=A,c:=c }
theorem SP.mv_ok {S:SP} (h:S.ok) (A:Option Addr) (c:Nat):(S.mv A c).ok:=⟨h.cm,h.who,h.at_,h.sw,h.lf,h.s,h.len,h.l⟩
theorem SP.mv_C (S:SP) (A:Option Addr) (c:Nat):S.C.toList.set 23 (.slice A S.l.length c)=(S.mv A c).C.toList:=rfl
theorem zm6 (S:SP) (hS:S.ok) (w:World) (ha:S.at w) :
 Calls Tryz.prog 115 #[.agg S.C] w fun e w'=>∃ A c,e=.returned (.agg (S.mv A c).C)∧(S.mv A c).at w'∧(∀ ad,A=some ad→w.heap.size≤ad.block)∧Grew w w':=by
 have z1:=(Ag.new w 91 S.C).grew (ze (za _) (.cells (zS24) 91))
 have z2:Ag ((w.alloc (.cells S.C 91)).alloc (.cells (zS24) 91)) (w.heap.size+1) ((zS24):Array Value).toList:=by
  have:=Ag.new (w.alloc (.cells S.C 91)) 91 (zS24)
  simpa using this
 have G0:=ze (ze (za w) (.cells S.C 91)) (.cells (zS24) 91)
 have ha0:=ha.gr G0
 have hc23:((w.alloc (.cells S.C 91)).alloc (.cells (#[.int .u64 0,.int .i64 0,.int .i64 0,.int .i64 0,.int .i64 0,.int .u64 0,.int .u64 0,.int .u64 0,.int .u64 0,.int .u64 0,.int .u64 0,.int .u64 0,.int .u64 0,.int .u64 0,.int .u64 0,.int .u64 0,.int .u64 0,.int .u64 0,.int .u64 0,.int .u64 0,.int .u64 0,.int .u64 0,.int .u64 0,.slice none 0 0]) 91)).cell? ⟨w.heap.size,23,none⟩=some (.slice S.A S.l.length S.c):=by simpa using z1.cell 23 _ rfl
 have CC:=hQ9 (zm5 S.A S.c _ S.l (by have:=hS.len;omega) _ ha0 (Nat.le_refl _))
 have hut:=Tryz.underlying91
 have HSZ:Hid (S.C.toList.length=24):=hQ9 rfl
 have HMV:=hQ9 (fun A c=>S.mv_C A c)
 have HZI:=hQ9 z1
 clear ha ha0 z1
 go_enter Tryz.func115,Tryz.ntmps115
 go_wp2_with fail
 refine(CC.out).mono ?_
 rintro e w1 ⟨A2,c2,rfl,hr2,hb2,g1⟩
 have z1:=HZI.out.grew g1
 have z2':=z2.grew g1
 have G1:=zc G0 g1
 have hb0:w.heap.size+2≤((w.alloc (.cells S.C 91)).alloc (.cells (#[.int .u64 0,.int .i64 0,.int .i64 0,.int .i64 0,.int .i64 0,.int .u64 0,.int .u64 0,.int .u64 0,.int .u64 0,.int .u64 0,.int .u64 0,.int .u64 0,.int .u64 0,.int .u64 0,.int .u64 0,.int .u64 0,.int .u64 0,.int .u64 0,.int .u64 0,.int .u64 0,.int .u64 0,.int .u64 0,.int .u64 0,.slice none 0 0]) 91)).heap.size:=by simp [zD]
 have hb2':∀ ad,A2=some ad→w.heap.size+2≤ad.block:=fun ad h=>Nat.le_trans hb0 (hb2 ad h)
 have hc1:w1.cell? ⟨w.heap.size,23,none⟩=some (.slice S.A S.l.length S.c):=by simpa using z1.cell 23 _ rfl
 have fc1:w1.frozen? ⟨w.heap.size,23,none⟩=false:=by simpa using (z1.there 23 (by rw [HSZ.out];omega)).2
 have y1:=z1.set1 23 (.slice A2 S.l.length c2) (by rw [HSZ.out];omega)
 rw [HMV.out]at y1
 have K1:=yi (S:=fun j=>j=w.heap.size) (zU _ w1) (p:=⟨w.heap.size,23,none⟩) (.inl rfl) (.slice A2 S.l.length c2)
 have z3:=z2'.kp K1 (fun e=>by omega)
 have r3:=(hr2.kp K1 (Nat.le_refl _) (fun ad h _ e=>by have:=hb2' ad h;omega)).more K1.size
 have G3:Grew w (w1.setCell ⟨w.heap.size,23,none⟩ (.slice A2 S.l.length c2)):=yj G1 K1 G1.size (fun i e=>by have e':i=w.heap.size:=e;omega)
 clear CC HZI z2 z1 z2' hc23 hb2 hb0 G0 g1 hr2 G1
 have HM:=hQ9 y1.cell
 have SI1:Hid ((Tryz.prog.info? 91).map (·.size)=some (S.mv A2 c2).C.toList.length):=hQ9 zy
 have SI2:Hid ((Tryz.prog.info? 91).map (·.size)=some (S.mv A2 c2).C.size):=hQ9 zy
 have HON:=hQ9 (S.mv A2 c2).one
 have HTH:Hid ((w1.setCell ⟨w.heap.size,23,none⟩ (.slice A2 S.l.length c2)).there (w.heap.size+1) 0 (S.mv A2 c2).C.size):=hQ9 (z3.thereN 24 rfl)
 have z4:=Ag.set (vs:=(S.mv A2 c2).C.toList) z3 rfl
 have K4:=zG (S.mv A2 c2).C.toList (w.heap.size+1) 0 (w1.setCell ⟨w.heap.size,23,none⟩ (.slice A2 S.l.length c2))
 have G4:Grew w ((w1.setCell ⟨w.heap.size,23,none⟩ (.slice A2 S.l.length c2)).setCells (w.heap.size+1) 0 (S.mv A2 c2).C.toList):=zg (o:=0) (b:=w.heap.size+1) _ G3 (by omega)
 have r4:=(r3.kp K4 (Nat.le_refl _) (fun ad h _ e=>by have:=hb2' ad h;omega)).more K4.size
 have hm:=HM.out
 clear z3 y1 r3 G3 K1 K4
 go_wp2_with(first
  | (with_reducible refine wpList_load_mid rfl 91 (.tmp 1) rfl w.heap.size 0 rfl (S.mv A2 c2).C.toList _ hm hut rfl SI1.out ?_;simp only [Array.toArray_toList])
  | (with_reducible refine wpList_store_mid rfl 91 (.tmp 2) (.tmp 9) rfl (w.heap.size+1) 0 (S.mv A2 c2).C rfl rfl HTH.out SI2.out HON.out ?_))
 exact bodyPost_ret (yp Tryz.results115 _ _ (w.heap.size+1) _ _ rfl z4 hut rfl zy) rfl ⟨A2,c2,rfl,r4,(fun ad h=>by have:=hb2' ad h;omega),G4⟩
structure MvL (L M:List SP):Prop where
 len:M.length=L.length
 each:∀ k (h:k<L.length) (h':k<M.length),∃ A c,M[k]=L[k].mv A c
theorem MvL.nil:MvL [] []:=⟨rfl,fun k h=>absurd h (by simp)⟩
theorem MvL.snoc {L M:List SP} (h:MvL L M) (S:SP) (A:Option Addr) (c:Nat):MvL (L++[S]) (M++[S.mv A c]):=by
 refine⟨by simp [h.len],fun k h1 h2=>?_⟩
 by_cases hk:k<L.length
 ·rw [List.getElem_append_left hk,List.getElem_append_left (by rw [h.len];exact hk)]
  exact h.each k hk _
 ·have hk':k=L.length:=by have h3:(L++[S]).length=L.length+1:=by simp
                          omega
  subst hk'
  refine⟨A,c,?_⟩
  have e1:(L++[S])[L.length]'h1=S:=by simp
  have e2:(M++[S.mv A c])[L.length]'h2=S.mv A c:=by
   have:∀ n (hn:n<(M++[S.mv A c]).length),n=M.length→(M++[S.mv A c])[n]=S.mv A c:=fun n hn e=>by subst e;simp
   exact this _ _ h.len.symm
  rw [e1,e2]
theorem at_lt {S:SP} {w:World} (h:S.at w):∀ ad,S.A=some ad→S.l=[]∨ad.block<w.heap.size:=fun ad e=>by
 cases hl:S.l with
 | nil=>exact .inl rfl
 | cons a r =>
  obtain⟨ad',e',hb,_⟩:=h 0 (by simp [u64L,hl])
  rw [e]at e';cases e'
  exact .inr hb
theorem yD {S:SP} {w w':World} {row:Option Nat} (h:S.at w) (k:w.grownBy w' row) (hn:∀ ad,S.A=some ad→∀ g,row=some g→S.l=[]∨ad.block≠g):S.at w':=by
 by_cases hl:S.l=[]
 ·intro j hj;rw [hl]at hj;exact absurd hj (by simp [u64L])
 ·exact jT h k (fun ad e hh=>by
   rcases hn ad e ad.block hh with h1 | h1
   ·exact hl h1
   ·exact h1 rfl)
theorem zkp (A:Option Addr) (c:Nat) (L:List SP) (hl:L.length≤100000) (w:World) (hL:Sps w A L) :
 Calls Tryz.prog 114 #[.slice A L.length c,.func (.func 115) #[] #[]] w fun e w'=>∃ B c' M,e=.returned (.slice B L.length c')∧MvL L M∧Sps w' B M∧L.length≤c'∧c'≤maxLen∧(∀ ad,B=some ad→w.heap.size≤ad.block)∧(∀ S∈M,∀ ad,S.A=some ad→S.l=[]∨w.heap.size≤ad.block)∧Grew w w':=by
 obtain⟨i0,hi,hz0,hz1,hz2⟩:=info_parts jA
 have hut:=Tryz.underlying91
 have HL:=hQ9 hL
 have hr:=hL.rd
 clear hL
 obtain⟨w1,hmk,hown1,hgrow1⟩:=run_make_own (P:=Tryz.prog) w w.heap.size 34 91 i0 (.agg (zS24:Array Value)) 24 Tryz.underlying34 hi hz0 hz1 .i64 .i64 L.length (by rw [hz2];omega) (by unfold maxLen;omega) (Nat.le_refl _)
 have hg1:Grew w w1:=(Below.refl _ w).grown hgrow1 (Nat.le_refl _) (fun j hj=>by cases hj)
 clear hgrow1
 go_enter Tryz.func114,Tryz.ntmps114
 go_wp2_with fail
 clear hmk
 go_loopw [5,13] (fun rv iv wr=>∃(i:Nat) (M:List SP),i≤L.length∧iv=.int .i64 i∧MvL (L.take i) M∧(∀ S∈M,S.ok)∧(∀ S∈M,S.at wr)∧(∀ S∈M,∀ ad,S.A=some ad→∀ g,rv.ownBlock=some g→S.l=[]∨ad.block≠g)∧(∀ S∈M,∀ ad,S.A=some ad→S.l=[]∨w.heap.size≤ad.block)∧wr.ownsRow w.heap.size 91 24 rv i (spL M).flatten∧Grew w wr) (fun _ i _=>L.length-(Go.RowKit.intOf i).toNat)
 case atStart=>exact⟨0,[],Nat.zero_le _,rfl,by simpa using MvL.nil,by simp,by simp,by simp,by simp,by simpa [spL]using hown1,hg1⟩
 case round =>
  obtain⟨i,M,hil,rfl,hmv,hok,hat,hne,hlow,hrow,hg⟩:=hrel
  by_cases hlt:i<L.length
  ·obtain⟨q,hA,hq,hm⟩:=RdC.at24 hr hg i hlt
   subst hA
   have hts:L.take (i+1)=L.take i++[L[i]]:=by rw [List.take_succ_eq_append_getElem hlt]
   have HTS:=hQ9 hts
   have hSok:=HL.out.ok L[i] (List.getElem_mem hlt)
   have hSat:=(HL.out.at_ L[i] (List.getElem_mem hlt)).gr hg
   clear hts
   have hi0:(0:Int)≤(i:Int):=by omega
   have hi1:(i:Int)<(L.length:Int):=by omega
   have e4:IntKind.i64.wrap ((i:Int)+1)=(i:Int)+1:=IntWalk.i64_in _ (by omega)
   generalize L[i]=S at *
   have SIS:Hid ((Tryz.prog.info? 91).map (·.size)=some S.C.toList.length):=hQ9 zy
   have SIZ:Hid ((Tryz.prog.info? 91).map (·.size)=some S.C.size):=hQ9 zy
   have HON:=hQ9 S.one
   obtain⟨w2,hw2,ht2,g2,z2⟩:=yO wr S.C rfl
   have HW2:=hQ9 hw2
   have HT2:=hQ9 ht2
   have hm2:=z2.cell
   have CCP:=hQ9 (zm6 S hSok w2 (hSat.gr g2))
   have HOK:=hQ9 hok
   have HNE:=hQ9 hne
   have HLW:=hQ9 hlow
   have hwz:=hg.size
   have HWZ:=hQ9 hwz
   have HMV:=hQ9 hmv
   have HAT:=hQ9 (fun S hS=>(hat S hS).gr g2)
   have HSO:=hQ9 hSok
   clear hw2 ht2 hok hne hlow hmv hat hSok hSat hwz
   go_wp2_with(first
    | (with_reducible refine wpList_load_mid rfl 91 (.tmp 15) rfl q (i*24) rfl S.C.toList _ hm hut rfl SIS.out ?_;simp only [Array.toArray_toList])
    | (with_reducible refine wpList_store_mid rfl 91 (.tmp 7) (.tmp 16) rfl wr.heap.size 0 S.C rfl rfl HT2.out SIZ.out HON.out ?_;rw [HW2.out])
    | (with_reducible refine wpList_load_mid rfl 91 (.tmp 7) rfl wr.heap.size 0 rfl S.C.toList _ hm2 hut rfl SIS.out ?_;simp only [Array.toArray_toList]))
   refine(CCP.out).mono ?_
   rintro e w3 ⟨A2,c2,rfl,hat2,hfr2,gg⟩
   have G3:=zc hg (zc g2 gg)
   have hrow3:=zx (S:=fun _=>False) hrow (zJ (zc g2 gg)) (fun g _ h=>h)
   have hsz3:=G3.size
   have hsz:(S.mv A2 c2).C.size=24:=rfl
   have HAT3:=hQ9 (fun T hT=>(HAT.out T hT).gr gg)
   have HOB:=hQ9 (zN hrow)
   have hgz:=(zc g2 gg).size
   have HFR:Hid (∀ ad,A2=some ad→S.l=[]∨wr.heap.size≤ad.block):=hQ9 (fun ad h=>.inr (Nat.le_trans g2.size (hfr2 ad h)))
   clear hrow hm hm2 z2 g2 gg hg HT2 HW2 CCP HAT
   go_wp2_with(first
    | (at_builtin;rw [xI];refine yn _ rfl (.tmp 17) (.tmp 21) 34 rfl w.heap.size 91 i0 (.agg (#[.int .u64 0,.int .i64 0,.int .i64 0,.int .i64 0,.int .i64 0,.int .u64 0,.int .u64 0,.int .u64 0,.int .u64 0,.int .u64 0,.int .u64 0,.int .u64 0,.int .u64 0,.int .u64 0,.int .u64 0,.int .u64 0,.int .u64 0,.int .u64 0,.int .u64 0,.int .u64 0,.int .u64 0,.int .u64 0,.int .u64 0,.slice none 0 0]:Array Value)) 24 208 Tryz.underlying34 hi hz0 hz1 hz2 rfl (by decide) _ _ _ rfl (hrow3.alloc _) ⟨w3.heap.size,0,none⟩ 1 1 (S.mv A2 c2).C.toList rfl rfl (fun j u hj=>yP w3 (S.mv A2 c2).C 91 j u hj) (S.mv A2 c2).one' (by unfold maxLen;omega) (by omega) (by simp;omega) ?_;intro v' w5 hown5 hgrow5 hob5))
   have ga:=ze (za w3) (.cells (S.mv A2 c2).C 91)
   go_roundw
   case rel =>
    refine⟨i+1,M++[S.mv A2 c2],by omega,by go_num,by rw [HTS.out];exact HMV.out.snoc S A2 c2,?_,?_,?_,?_,by rw [yU];exact hown5,(ze G3 _).grown hgrow5 (by simp;omega) (zj hrow3)⟩
    ·intro T hT
     rcases List.mem_append.1 hT with h | h
     ·exact HOK.out T h
     ·obtain rfl:T=S.mv A2 c2:=by simpa using h
      exact SP.mv_ok HSO.out _ _
    ·intro T hT
     rcases List.mem_append.1 hT with h | h
     ·exact yD ((HAT3.out T h).gr ga) hgrow5 (fun ad e g hg=>HNE.out T h ad e g hg)
     ·obtain rfl:T=S.mv A2 c2:=by simpa using h
      exact yD (hat2.gr ga) hgrow5 (fun ad e g hg=>by
       rcases HFR.out ad e with h1 | h1
       ·exact .inl h1
       ·have:=(HOB.out g hg).2
        exact .inr (by omega))
    ·intro T hT ad e g hg
     have hlt9:T.l=[]∨ad.block<(w3.alloc (.cells (S.mv A2 c2).C 91)).heap.size:=by
      rcases List.mem_append.1 hT with h | h
      ·exact at_lt ((HAT3.out T h).gr ga) ad e
      ·obtain rfl:T=S.mv A2 c2:=by simpa using h
       exact at_lt (hat2.gr ga) ad e
     rcases hob5 with h3 | h3
     ·rw [h3]at hg
      rcases List.mem_append.1 hT with h | h
      ·exact HNE.out T h ad e g hg
      ·obtain rfl:T=S.mv A2 c2:=by simpa using h
       rcases HFR.out ad e with h1 | h1
       ·exact .inl h1
       ·have:=(HOB.out g hg).2
        exact .inr (by omega)
     ·rw [h3]at hg;injection hg with hg
      rcases hlt9 with h1 | h1
      ·exact .inl h1
      ·exact .inr (by omega)
    ·intro T hT ad e
     rcases List.mem_append.1 hT with h | h
     ·exact HLW.out T h ad e
     ·obtain rfl:T=S.mv A2 c2:=by simpa using h
      rcases HFR.out ad e with h1 | h1
      ·exact .inl h1
      ·exact .inr (Nat.le_trans HWZ.out h1)
   case measure=>simp [Go.RowKit.intOf];omega
  ·obtain rfl:i=L.length:=by omega
   rw [List.take_length]at hmv
   obtain⟨B,c',rfl,hB,hc1,hc2,hbB⟩:=xa hrow hmv.len
   go_wp2_with fail
   go_ret
   exact⟨B,c',M,rfl,hmv,⟨hB,hok,hat⟩,hc1,hc2,fun ad e=>(hbB ad e).1,hlow,hg⟩
def Cm.cells (c:Cm):Array Value:=#[.int .i64 c.cl,.int .i64 c.no,.int .i64 c.fr,.int .i64 c.tt,.int .i64 c.am]
def ctC (c:Cm) (A:Option Addr) (n k:Nat):Array Value:=#[.int .i64 c.cl,.int .i64 c.no,.int .i64 c.fr,.int .i64 c.tt,.int .i64 c.am,.slice A n k]
theorem zp0 (c:Cm) (A:Option Addr) (n k:Nat):Tryz.prog.built 36 [(0,.agg c.cells),(1,.slice A n k)]=some (ctC c A n k):=by kernel_rfl
theorem jB:Tryz.prog.built 36 []=some (#[.int .i64 0,.int .i64 0,.int .i64 0,.int .i64 0,.int .i64 0,.slice none 0 0]):=by kernel_rfl
theorem zP:(Tryz.prog.info? 36).map (·.size)=some 6:=by kernel_rfl
theorem yt (c:Cm) (A:Option Addr) (n k:Nat):(ctC c A n k).all (·.oneCell')=true:=by simp [ctC,Value.oneCell']
structure MvR (w:World) (B0:Nat) (L:List SP) (v:Value):Prop where
 out:∃ B k M,v=.slice B L.length k∧MvL L M∧Sps w B M∧(∀ ad,B=some ad→B0≤ad.block)∧(∀ S∈M,∀ ad,S.A=some ad→S.l=[]∨B0≤ad.block)
theorem MvR.gr {w w':World} {B0:Nat} {L:List SP} {v:Value} (h:MvR w B0 L v) (g:Grew w w'):MvR w' B0 L v:=by
 obtain⟨B,k,M,h1,h2,h3,h4⟩:=h.out
 exact⟨B,k,M,h1,h2,h3.gr g,h4⟩
structure CtR (w:World) (B0:Nat) (c:Cm) (L:List SP) (v:Value):Prop where
 out:∃ B k M,v=.agg (ctC c B L.length k)∧MvL L M∧Sps w B M∧(∀ ad,B=some ad→B0≤ad.block)∧(∀ S∈M,∀ ad,S.A=some ad→S.l=[]∨B0≤ad.block)
theorem CtR.gr {w w':World} {B0:Nat} {c:Cm} {L:List SP} {v:Value} (h:CtR w B0 c L v) (g:Grew w w'):CtR w' B0 c L v:=by
 obtain⟨B,k,M,h1,h2,h3,h4⟩:=h.out
 exact⟨B,k,M,h1,h2,h3.gr g,h4⟩
theorem Sps.kpx {w w':World} {A:Option Addr} {L:List SP} {S:Nat→Prop} (h:Sps w A L) (k:Kp S w w') (hA:∀ ad,A=some ad→¬S ad.block) (hM:∀ T∈L,∀ ad,T.A=some ad→T.l=[]∨¬S ad.block):Sps w' A L :=
 ⟨h.rd.kp k (fun q e=>hA _ e),h.ok,fun T hT=>by
  have h0:=h.at_ T hT
  by_cases hl:T.l=[]
  ·intro j hj;rw [hl]at hj;exact absurd hj (by simp [u64L])
  ·exact(Rd.kp h0 k (Nat.le_refl _) (fun ad e _=>by
    rcases hM T hT ad e with h1 | h1
    ·exact absurd h1 hl
    ·exact h1)).more k.size⟩
theorem ky {c:Cm} (h:okC c):c.in:=by
 unfold okC at h
 exact Cm.in_of ⟨by omega,by omega⟩ ⟨by omega,by omega⟩ ⟨by omega,by omega⟩ ⟨by omega,by omega⟩ ⟨by omega,by omega⟩
theorem qP {w:World} {b:Nat} {K:KP} (h:Ag w b K.C.toList):w.rangeAt b 0 [.int .i64 K.f]:=fun j v hj=>by
 have hj0:j=0:=by have:=(List.getElem?_eq_some_iff.1 hj).1;simpa using this
 subst hj0
 have h0:v=.int .i64 K.f:=by simpa using hj.symm
 rw [h0]
 exact h.cell 0 _ rfl
theorem zgz (w:World) (t:TypeId) (v:Value):∃ W,w.alloc (.cells #[v] t)=W∧Grew w W∧W.cell? ⟨w.heap.size,0,none⟩=some v :=
 ⟨_,rfl,ze (za w) _,by simp⟩
theorem zco (c:Cm) {K:KP} (hK:K.ok) (A:Option Addr) (cap:Nat) (L:List SP) (hl:L.length≤100000) (hc:okC c) (w:World) (hS:Std w) (hk:K.at w) (hL:Sps w A L) (hen:enoughB K (dgC c) L=false) :
 Calls Tryz.prog 34 #[.agg K.C,c.v,.slice A L.length cap] w fun e w'=>e=.returned (.tuple #[.agg (ctC Cm.zero none 0 0),.int .i64 8])∧Grew w w':=by
 have huk:=Tryz.underlying50
 have huc:=Tryz.underlying33
 have hut:=Tryz.underlying36
 have huf:=Tryz.underlying47
 have HCF:Hid ((Tryz.prog.info? 47).map (·.size)=some [Value.int .i64 K.f].length):=hQ9 (by kernel_rfl)
 have SIC:Hid ((Tryz.prog.info? 33).map (·.size)=some c.cells.toList.length):=hQ9 (show _=some 5 by kernel_rfl)
 have z0:=((Ag.new w 50 K.C).grew (ze (za _) (.cells c.cells 33))).grew (ze (za _) (.cells (zS6) 36))
 have z1:=(Ag.new (w.alloc (.cells K.C 50)) 33 c.cells).grew (ze (za _) (.cells (zS6) 36))
 have z2:=Ag.new ((w.alloc (.cells K.C 50)).alloc (.cells c.cells 33)) 36 (zS6)
 rw [zD]at z1
 rw [zD,zD]at z2
 have G0:=ze (ze (ze (za w) (.cells K.C 50)) (.cells c.cells 33)) (.cells (zS6) 36)
 have hcv:c.v=.agg c.cells:=rfl
 have CC:=hQ9 (fun W=>ja c W)
 have hck:=xF hc
 rw [hck]at CC
 have HCI:=hQ9 (ky hc)
 have HS:=hQ9 hS
 have HKA:=hQ9 hk
 have HLA:=hQ9 hL
 have CD:=hQ9 (fun W h=>je c HCI.out W h)
 rw [hcv]at CC CD ⊢
 clear hcv hck hc hS hk hL
 have hm1:=z1.cell
 go_enter Tryz.func34,Tryz.ntmps34
 go_wp2_with(with_reducible refine wpList_load_mid rfl 33 (.tmp 4) rfl (w.heap.size+1) 0 rfl c.cells.toList _ hm1 huc rfl SIC.out ?_;simp only [Array.toArray_toList])
 refine(CC.out _).mono ?_
 rintro e w2 ⟨rfl,gg⟩
 have z0:=z0.grew gg
 have z1:=z1.grew gg
 have z2:=z2.grew gg
 have hm1':=hm1
 clear hm1
 have hm1:=z1.cell
 have G2:=zc G0 gg
 clear hm1' gg CC G0
 go_wp2_with(with_reducible refine wpList_load_mid rfl 33 (.tmp 4) rfl (w.heap.size+1) 0 rfl c.cells.toList _ hm1 huc rfl SIC.out ?_;simp only [Array.toArray_toList])
 refine(CD.out w2 (HS.out.grew G2)).mono ?_
 rintro e w3 ⟨rfl,gg⟩
 obtain⟨w4,hw4,g4,hd4⟩:=zgz w3 56 (.int .u64 (dgC c:Nat))
 have HW4:=hQ9 hw4
 have g24:=zc gg g4
 have HZK:=hQ9 (z0.grew g24)
 have HZ1:=hQ9 (z1.grew g24)
 have HZ2:=hQ9 (z2.grew g24)
 have G4:=zc G2 g24
 have hmf:=qP HZK.out
 clear hm1 z0 z1 z2 gg g4 G2 CD hw4
 go_wp2_with(first
  | (rw [HW4.out];with_reducible refine wpList_load_mid rfl 47 (.tmp 21) rfl w.heap.size 0 rfl [.int .i64 K.f] _ hmf huf rfl HCF.out ?_))
 clear hmf
 refine(zm4 hK A cap L hl (dgC c) w3.heap.size w.heap.size w4 (HS.out.grew G4) (HKA.out.gr G4) (HLA.out.gr G4) hd4 HZK.out hen).mono ?_
 rintro e w5 ⟨rfl,g5⟩
 have z3:=HZ2.out.grew g5
 have HTH:Hid (w5.there (w.heap.size+1+1) 0 (zS6:Array Value).size):=hQ9 (z3.thereN 6 rfl)
 have HSI:Hid ((Tryz.prog.info? 36).map (·.size)=some (zS6:Array Value).size):=hQ9 zP
 have HON:Hid ((#[.int .i64 0,.int .i64 0,.int .i64 0,.int .i64 0,.int .i64 0,.slice none 0 0]:Array Value).all (·.oneCell')=true):=hQ9 (by simp [Value.oneCell'])
 have z4:=Ag.set (vs:=(zS6:Array Value).toList) z3 rfl
 have G5:=zg (o:=0) (b:=w.heap.size+1+1) (zS6:Array Value).toList (zc G4 g5) (by omega)
 have hbz:=jB
 have bz:∀ W,(Instr.build 36 #[]).run Tryz.prog W=.ok (.agg (#[.int .i64 0,.int .i64 0,.int .i64 0,.int .i64 0,.int .i64 0,.slice none 0 0])) W:=fun W=>run_build W 36 _ _ hbz
 clear hbz z3 hd4 g5
 go_wp2_with(with_reducible refine wpList_store_mid rfl 36 (.tmp 6) (.tmp 30) rfl (w.heap.size+1+1) 0 (zS6) rfl rfl HTH.out HSI.out HON.out ?_)
 exact bodyPost_ret (zh Tryz.results34 _ _ (w.heap.size+1+1) _ _ _ rfl rfl z4 hut rfl zP) rfl ⟨rfl,G5⟩
theorem zm7 (c:Cm) {K:KP} (hK:K.ok) (A:Option Addr) (cap:Nat) (L:List SP) (hl:L.length≤100000) (hc:okC c) (w:World) (hS:Std w) (hk:K.at w) (hL:Sps w A L) (hen:enoughB K (dgC c) L=true) :
 Calls Tryz.prog 34 #[.agg K.C,c.v,.slice A L.length cap] w fun e w'=>∃ B k M,e=.returned (.tuple #[.agg (ctC c B (chosen K (dgC c) L).length k),.int .i64 0])∧MvL (chosen K (dgC c) L) M∧Sps w' B M∧(∀ ad,B=some ad→w.heap.size≤ad.block)∧(∀ S∈M,∀ ad,S.A=some ad→S.l=[]∨w.heap.size≤ad.block)∧Grew w w':=by
 have huk:=Tryz.underlying50
 have huc:=Tryz.underlying33
 have hut:=Tryz.underlying36
 have huf:=Tryz.underlying47
 have HCF:Hid ((Tryz.prog.info? 47).map (·.size)=some [Value.int .i64 K.f].length):=hQ9 (by kernel_rfl)
 have SIC:Hid ((Tryz.prog.info? 33).map (·.size)=some c.cells.toList.length):=hQ9 (show _=some 5 by kernel_rfl)
 have z0:=((Ag.new w 50 K.C).grew (ze (za _) (.cells c.cells 33))).grew (ze (za _) (.cells (zS6) 36))
 have z1:=(Ag.new (w.alloc (.cells K.C 50)) 33 c.cells).grew (ze (za _) (.cells (zS6) 36))
 have z2:=Ag.new ((w.alloc (.cells K.C 50)).alloc (.cells c.cells 33)) 36 (zS6)
 rw [zD]at z1
 rw [zD,zD]at z2
 have G0:=ze (ze (ze (za w) (.cells K.C 50)) (.cells c.cells 33)) (.cells (zS6) 36)
 have hcv:c.v=.agg c.cells:=rfl
 have CC:=hQ9 (fun W=>ja c W)
 have hck:=xF hc
 rw [hck]at CC
 have HCI:=hQ9 (ky hc)
 have HS:=hQ9 hS
 have HKA:=hQ9 hk
 have HLA:=hQ9 hL
 have CD:=hQ9 (fun W h=>je c HCI.out W h)
 rw [hcv]at CC CD ⊢
 clear hcv hck hc hS hk hL
 have hm1:=z1.cell
 go_enter Tryz.func34,Tryz.ntmps34
 go_wp2_with(with_reducible refine wpList_load_mid rfl 33 (.tmp 4) rfl (w.heap.size+1) 0 rfl c.cells.toList _ hm1 huc rfl SIC.out ?_;simp only [Array.toArray_toList])
 refine(CC.out _).mono ?_
 rintro e w2 ⟨rfl,gg⟩
 have z0:=z0.grew gg
 have z1:=z1.grew gg
 have z2:=z2.grew gg
 have hm1':=hm1
 clear hm1
 have hm1:=z1.cell
 have G2:=zc G0 gg
 clear hm1' gg CC G0
 go_wp2_with(with_reducible refine wpList_load_mid rfl 33 (.tmp 4) rfl (w.heap.size+1) 0 rfl c.cells.toList _ hm1 huc rfl SIC.out ?_;simp only [Array.toArray_toList])
 refine(CD.out w2 (HS.out.grew G2)).mono ?_
 rintro e w3 ⟨rfl,gg⟩
 obtain⟨w4,hw4,g4,hd4⟩:=zgz w3 56 (.int .u64 (dgC c:Nat))
 have HW4:=hQ9 hw4
 have g24:=zc gg g4
 have HZK:=hQ9 (z0.grew g24)
 have HZ1:=hQ9 (z1.grew g24)
 have HZ2:=hQ9 (z2.grew g24)
 have G4:=zc G2 g24
 have hmf:=qP HZK.out
 clear hm1 z0 z1 z2 gg g4 G2 CD hw4
 go_wp2_with(first
  | (rw [HW4.out];with_reducible refine wpList_load_mid rfl 47 (.tmp 21) rfl w.heap.size 0 rfl [.int .i64 K.f] _ hmf huf rfl HCF.out ?_))
 clear hmf
 have CQ:=zko hK A cap L hl (dgC c) w3.heap.size w.heap.size w4 (HS.out.grew G4) (HKA.out.gr G4) (HLA.out.gr G4) hd4 HZK.out hen
 have hEl:(chosen K (dgC c) L).length≤100000:=by
  unfold chosen
  rw [List.length_take,xd]
  exact Nat.le_trans (Nat.min_le_right _ _) (Nat.le_trans (kL _ _) (Nat.le_trans (List.length_filter_le _ _) hl))
 obtain⟨E,hE⟩:∃ E,chosen K (dgC c) L=E:=⟨_,rfl⟩
 have HEE:=hQ9 hE
 rw [hE]at CQ hEl
 refine CQ.mono ?_
 rintro e w5 ⟨B,rfl,hSpE,g5⟩
 have HSPE:=hQ9 hSpE
 have HEL:=hQ9 hEl
 have G5:=zc G4 g5
 have HZ2':=hQ9 (HZ2.out.grew g5)
 have HMC:=hQ9 (fun y (g:Grew w5 y)=>(HZ1.out.grew (zc g5 g)).cell)
 have hsz5:w.heap.size+1+1<w5.heap.size:=HZ2'.out.lt
 clear hd4 g5 CQ hSpE hEl hE
 go_upto_region 8 with fail
 refine zH 4 (fun i=>match i with
  | 0=>fun v _=>v=.agg c.cells
  | 1=>fun v _=>v=.slice B E.length E.length
  | 2=>fun v w=>MvR w w5.heap.size E v
  | 3=>fun v w=>CtR w w5.heap.size c E v
  | _=>fun _ _=>True) (by kernel_rfl) (by kernel_rfl) ?_ ?_ ?_
 ·intro i v x y h hg
  match i,h with
  | 0,h | 1,h=>exact h
  | 2,h=>exact MvR.gr h hg
  | 3,h=>exact CtR.gr h hg
  | m+4,_=>trivial
 ·simp only [actOf,tk1,tk0,dr1,dr0,Act.put,si1,st1,st0,Nat.reduceAdd]
  refine⟨?_,?_,?_,?_,trivial⟩
  ·intro vs y hg hd
   dsimp only
   have hm:=HMC.out y hg
   go_wp2_with(with_reducible refine wpList_load_mid rfl 33 (.tmp 4) rfl (w.heap.size+1) 0 rfl c.cells.toList _ hm huc rfl SIC.out ?_;simp only [Array.toArray_toList])
   exact⟨rfl,_,rfl,za _,rfl⟩
  ·intro vs y hg hd
   dsimp only
   go_wp2_with fail
   exact⟨rfl,_,rfl,za _,rfl⟩
  ·intro vs y hg hd
   obtain⟨h1,_⟩:=hd
   replace h1:=h1 rfl
   dsimp only
   rw [show vs 1=_ from h1]
   have HSP:=hQ9 (HSPE.out.gr hg)
   go_wp2_with(go_at_call 114;refine(zkp B E.length E HEL.out y HSP.out).mono ?_;rintro e z ⟨B2,k2,M,rfl,hmv,hsp,hk1,hk2,hb2,hm2,gz⟩)
   exact⟨rfl,_,rfl,gz,⟨B2,k2,M,rfl,hmv,hsp,(fun ad h=>Nat.le_trans hg.size (hb2 ad h)),(fun S hS ad h=>by rcases hm2 S hS ad h with h1 | h1;exact .inl h1;exact .inr (Nat.le_trans hg.size h1))⟩⟩
  ·intro vs y hg hd
   obtain⟨h0,h2,_⟩:=hd
   replace h0:=h0 rfl
   replace h2:=h2 rfl
   dsimp only
   rw [show vs 0=_ from h0]
   obtain⟨B2,k2,M,hv,hmv,hsp,hb2,hm2⟩:=MvR.out h2
   rw [hv]
   have HBU:=hQ9 (zp0 c B2 E.length k2)
   go_wp2_with(with_reducible refine zI rfl 36 #[(0,.tmp 32),(1,.tmp 34)] rfl (ctC c B2 E.length k2) ?_ ?_;· simpa [Act.eval,Act.put]using HBU.out)
   exact⟨rfl,_,rfl,za _,⟨B2,k2,M,rfl,hmv,hsp,hb2,hm2⟩⟩
 ·intro vs y hg hJ
  have j0:vs 0=.agg c.cells:=hJ 0 (by decide)
  have j1:vs 1=.slice B E.length E.length:=hJ 1 (by decide)
  have s34:=hJ 2 (by decide)
  have s35:=hJ 3 (by decide)
  clear hJ
  simp only [actOf,tk1,tk0,dr1,dr0,Act.put,si1,st1,st0,Nat.reduceAdd]
  obtain⟨B2,k2,M,j9,hmv,hsp,hb2,hm2⟩:=CtR.out s35
  rw [j9]
  clear s34 s35 j9 j0 j1
  have z3:=HZ2'.out.grew hg
  have GG:=zc G5 hg
  have K3:=zG (ctC c B2 E.length k2).toList (w.heap.size+1+1) 0 y
  have hsp3:=hsp.kpx K3 (fun ad h e=>by have:=hb2 ad h;omega) (fun T hT ad h=>by
   rcases hm2 T hT ad h with h1 | h1
   ·exact .inl h1
   ·exact .inr (fun e=>by omega))
  have HTH:Hid (y.there (w.heap.size+1+1) 0 (ctC c B2 E.length k2).size):=hQ9 (z3.thereN 6 rfl)
  have HSI:Hid ((Tryz.prog.info? 36).map (·.size)=some (ctC c B2 E.length k2).size):=hQ9 zP
  have HON:=hQ9 (yt c B2 E.length k2)
  have z4:=Ag.set (vs:=(ctC c B2 E.length k2).toList) z3 rfl
  have G6:=zg (o:=0) (b:=w.heap.size+1+1) (ctC c B2 E.length k2).toList GG (by omega)
  have HLB1:Hid (∀ ad,B2=some ad→w.heap.size≤ad.block):=hQ9 (fun ad h=>by have:=hb2 ad h;omega)
  have HLB2:Hid (∀ S∈M,∀ ad,S.A=some ad→S.l=[]∨w.heap.size≤ad.block):=hQ9 (fun S hS ad h=>(hm2 S hS ad h).imp id (fun h1=>by omega))
  clear z3 hsp hb2 hm2 K3 hg GG
  go_wp2_with(with_reducible refine wpList_store_mid rfl 36 (.tmp 6) (.tmp 35) rfl (w.heap.size+1+1) 0 (ctC c B2 E.length k2) rfl rfl HTH.out HSI.out HON.out ?_)
  exact bodyPost_ret (zh Tryz.results34 _ _ (w.heap.size+1+1) _ _ _ rfl rfl z4 hut rfl zP) rfl ⟨B2,k2,M,by rw [HEE.out];rfl,by rw [HEE.out];exact hmv,hsp3,HLB1.out,HLB2.out,G6⟩
theorem at1_sp (S:SP) (w:World):Calls Tryz.prog 103 #[.agg S.C] w fun e w'=>e=.returned (.int .i64 S.at_)∧Grew w w':=by
 have zs:=Ag.new w 91 S.C
 have G:=ze (za w) (.cells S.C 91)
 have hc:(w.alloc (.cells S.C 91)).cell? ⟨w.heap.size,2,none⟩=some (.int .i64 S.at_):=by simpa using zs.cell 2 _ rfl
 clear zs
 generalize S.C=g at *
 generalize S.at_=x at *
 go_enter Tryz.func103,Tryz.ntmps103
 go_wp2_with fail
 go_ret
 exact⟨rfl,G⟩
theorem zp1 (A:Option Addr) (c:Nat) (L:List SP) (hl:L.length≤100000) (w:World) (hL:Sps w A L) :
 Calls Tryz.prog 179 #[.slice A L.length c,.func (.func 103) #[] #[]] w fun e w'=>∃ v,e=.returned v∧w'.ownsRow w.heap.size 2 1 v L.length (i64L (L.map SP.at_))∧Grew w w':=by
 obtain⟨i0,hi,hz0,hz1,hz2⟩:=info_parts (show(Tryz.prog.info? 2).map (fun i=>(i.zero,i.size,i.bytes))=some (some (.int .i64 0),1,8) by kernel_rfl)
 have hut:=Tryz.underlying91
 have hr:=hL.rd
 obtain⟨w1,hmk,hown1,hgrow1⟩:=run_make_own (P:=Tryz.prog) w w.heap.size 69 2 i0 (.int .i64 0) 1 Tryz.underlying69 hi hz0 hz1 .i64 .i64 L.length (by rw [hz2];omega) (by unfold maxLen;omega) (Nat.le_refl _)
 have hg1:Grew w w1:=(Below.refl _ w).grown hgrow1 (Nat.le_refl _) (fun j hj=>by cases hj)
 clear hgrow1 hL
 go_enter Tryz.func179,Tryz.ntmps179
 go_wp2_with fail
 clear hmk
 go_loopw [5,13] (fun rv iv wr=>∃ k:Nat,k≤L.length∧iv=.int .i64 k∧wr.ownsRow w.heap.size 2 1 rv k (i64L ((L.take k).map SP.at_))∧Grew w wr) (fun _ iv _=>L.length-(Go.RowKit.intOf iv).toNat)
 case atStart=>exact⟨0,Nat.zero_le _,rfl,by simpa [i64L]using hown1,hg1⟩
 case round =>
  obtain⟨i,hil,rfl,hown,hg⟩:=hrel
  by_cases hlt:i<L.length
  ·obtain⟨q,hA,hq,hm⟩:=RdC.at24 hr hg i hlt
   subst hA
   have HT:Hid (i64L ((L.take (i+1)).map SP.at_)=i64L ((L.take i).map SP.at_)++[.int .i64 L[i].at_]):=hQ9 (by rw [List.take_succ_eq_append_getElem hlt,List.map_append,jl];rfl)
   have hi0:(0:Int)≤(i:Int):=by omega
   have hi1:(i:Int)<(L.length:Int):=by omega
   have e4:IntKind.i64.wrap ((i:Int)+1)=((i+1:Nat):Int):=by rw [IntWalk.i64_in _ (by omega)];omega
   generalize L[i]=S at *
   have CW:=hQ9 (fun W=>at1_sp S W)
   have SIS:Hid ((Tryz.prog.info? 91).map (·.size)=some S.C.toList.length):=hQ9 zy
   have SIZ:Hid ((Tryz.prog.info? 91).map (·.size)=some S.C.size):=hQ9 zy
   have HON:=hQ9 S.one
   obtain⟨w2,hw2,ht2,g2,z2⟩:=yO wr S.C rfl
   have HW2:=hQ9 hw2
   have HT2:=hQ9 ht2
   have hm2:=z2.cell
   clear hw2 ht2
   go_wp2_with(first
    | (with_reducible refine wpList_load_mid rfl 91 (.tmp 15) rfl q (i*24) rfl S.C.toList _ hm hut rfl SIS.out ?_;simp only [Array.toArray_toList])
    | (with_reducible refine wpList_store_mid rfl 91 (.tmp 7) (.tmp 16) rfl wr.heap.size 0 S.C rfl rfl HT2.out SIZ.out HON.out ?_;rw [HW2.out])
    | (with_reducible refine wpList_load_mid rfl 91 (.tmp 7) rfl wr.heap.size 0 rfl S.C.toList _ hm2 hut rfl SIS.out ?_;simp only [Array.toArray_toList]))
   refine(CW.out w2).mono ?_
   rintro e w3 ⟨rfl,gg⟩
   have G3:=zc hg (zc g2 gg)
   have hown3:=zx (S:=fun _=>False) hown (zJ (zc g2 gg)) (fun g _ h=>h)
   have hsz3:=G3.size
   generalize S.at_=x at *
   clear hown hm hm2 z2 g2 gg hg HT2 HW2 CW
   go_wp2_with(at_builtin;refine zi rfl (.tmp 17) (.tmp 21) 69 rfl w.heap.size 2 i0 (.int .i64 0) 8 Tryz.underlying69 hi hz0 hz1 hz2 rfl _ i _ rfl (hown3.alloc _) (w3.heap.size+1) (some ⟨w3.heap.size,0,none⟩) 1 1 [.int .i64 x] rfl rfl (zM w3 2 #[.int .i64 x] (0,0)) (yb rfl) (by unfold maxLen;omega) (by omega) (by simp;omega) ?_;intro v' w5 hown5 hgrow5 _)
   go_roundw
   case rel=>exact⟨i+1,by omega,by go_num,by rw [HT.out];exact hown5,(ze G3 _).grown hgrow5 (by simp;omega) (zj hown3)⟩
   case measure=>simp [Go.RowKit.intOf];omega
  ·obtain rfl:i=L.length:=by omega
   rw [List.take_length]at hown
   go_wp2_with fail
   go_ret
   exact⟨_,rfl,hown,hg⟩
theorem zm8 (A:Option Addr) (c:Nat) (L:List SP) (i:Nat) (hL9:L.length≤100000) (hi:i<L.length) (w:World) (hr:Sps w A L) :
 Calls Tryz.prog 102 #[.slice A L.length c,.func (.func 103) #[] #[],.int .i64 (i:Int)] w fun e w'=>e=.returned (.int .i64 (midZ (L.map SP.at_) i))∧Grew w w':=by
 have CM:=hQ9 (zp1 A c L hL9 w hr)
 have hll:(L.map SP.at_).length=L.length:=by simp
 rw [←hll]at hi
 have HLL:=hQ9 hll
 have hl:(L.map SP.at_).length≤1048576:=by omega
 generalize L.map SP.at_=l at *
 have HI:=hQ9 hi
 clear hr hi hll
 go_enter Tryz.func102,Tryz.ntmps102
 go_wp2_with fail
 refine(CM.out).mono ?_
 rintro e w1 ⟨v,rfl,hrow,g1⟩
 rw [←HLL.out]at hrow
 have hrow:w1.ownsRow w.heap.size 2 1 v l.length (i64L l):=hrow
 obtain⟨D,dc,rfl,hdc,hdl,hD⟩:=zv hrow
 have HD:=hQ9 hD
 clear CM hrow hD
 go_wp2_with fail
 refine(zb9 D l.length dc w1).mono ?_
 rintro e w2 ⟨rfl,hw2⟩
 have g2:Grew w1 w2:=by rw [hw2];exact ze (za _) _
 have hs2:w1.heap.size<w2.heap.size:=by rw [hw2];simp
 have hc2:w2.cell? ⟨w1.heap.size,0,none⟩=some (.slice D l.length dc):=by rw [hw2];simp [Addr.add]
 have HD2:Hid (Rd w2 w2.heap.size D (i64L l)):=hQ9 ((HD.out.below g2).more g2.size)
 clear hw2 HD
 go_wp2_with fail
 refine(zca w1.heap.size w2.heap.size D dc l hl w2 hs2 (Nat.le_refl _) hc2 HD2.out).mono ?_
 rintro e w3 ⟨v,rfl,hrow,hnil,g3⟩
 obtain⟨E,ec,rfl,hec,hel,hE⟩:=zv hrow
 have hsl:(sortI l).length=l.length:=qM l
 obtain⟨ad,rfl,hbl,hc0⟩:=yJ (l:=sortI l) hE i (by rw [hsl];exact HI.out)
 have hm:(sortI l)[i]'(by rw [hsl];exact HI.out)=midZ l i:=by
  unfold midZ
  rw [List.getD_eq_getElem?_getD,List.getElem?_eq_getElem (show i<(sortZ l).length by rw [xM];exact HI.out)]
  rfl
 rw [hm]at hc0
 have hi0:(0:Int)≤(i:Int):=by omega
 have hi1:(i:Int)<(l.length:Int):=by have:=HI.out;omega
 have G:=zc g1 (zc g2 (g3.mono (by omega)))
 clear hm hrow hnil hE hc2 HD2
 go_wp2_with fail
 go_ret
 exact⟨rfl,G⟩
def atV (L:List SP):Int:=if L.length=0 then 0 else midZ (L.map SP.at_) (L.length / 2)
theorem zdh (c:Cm) (A:Option Addr) (k:Nat) (L:List SP) (hl:L.length≤100000) (w:World) (hL:Sps w A L) :
 Calls Tryz.prog 26 #[.agg (ctC c A L.length k)] w fun e w'=>e=.returned (.int .i64 (atV L))∧Grew w w':=by
 have z:=Ag.new w 36 (ctC c A L.length k)
 have G:=ze (za w) (.cells (ctC c A L.length k) 36)
 have hc5:(w.alloc (.cells (ctC c A L.length k) 36)).cell? ⟨w.heap.size,5,none⟩=some (.slice A L.length k):=by simpa using z.cell 5 _ rfl
 have HL:=hQ9 (hL.gr G)
 clear z hL
 by_cases h0:L.length=0
 ·have e1:((L.length:Int)==0)=true:=by rw [show(L.length:Int)=0 by omega];rfl
  have HV:Hid (atV L=0):=hQ9 (by unfold atV;rw [if_pos h0])
  clear h0
  generalize ctC c A L.length k=g at *
  go_enter Tryz.func26,Tryz.ntmps26
  go_wp2_with fail
  go_ret
  exact⟨by rw [HV.out];rfl,G⟩
 ·have e1:((L.length:Int)==0)=false:=beq_false_of_ne (by omega)
  have HV:Hid (atV L=midZ (L.map SP.at_) (L.length / 2)):=hQ9 (by unfold atV;rw [if_neg h0])
  have CR:=hQ9 (zm8 A k L (L.length / 2) hl (by omega) _ HL.out)
  have e2:(L.length:Int).tdiv 2=((L.length / 2:Nat):Int):=by rw [Int.tdiv_eq_ediv_of_nonneg (by omega)];omega
  have e3:IntKind.i64.wrap ((L.length / 2:Nat):Int)=((L.length / 2:Nat):Int):=IntWalk.i64_in _ (by omega)
  clear h0
  generalize ctC c A L.length k=g at *
  obtain⟨hf,hhf⟩:∃ x,L.length / 2=x:=⟨_,rfl⟩
  rw [hhf]at CR e2 e3 HV
  clear hhf
  go_enter Tryz.func26,Tryz.ntmps26
  go_wp2_with fail
  refine(CR.out).mono ?_
  rintro e w1 ⟨rfl,gg⟩
  go_wp2_with fail
  go_ret
  exact⟨by rw [HV.out];rfl,zc G gg⟩
noncomputable def vdE (K:KP) (d:Nat) (S:SP):Int:=if S.cm=d then vaS K S else 3
theorem vd1_sp {K:KP} {S:SP} (hK:K.ok) (hS:S.ok) (d bd bk:Nat) (w:World) (hs:Std w) (hk:K.at w) (ha:S.at w) (hd:w.cell? ⟨bd,0,none⟩=some (.int .u64 (d:Nat))) (hkc:Ag w bk K.C.toList) :
 Calls Tryz.prog 95 #[.agg S.C,.pointer (some ⟨bd,0,none⟩),.pointer (some ⟨bk,0,none⟩)] w fun e w'=>e=.returned (.int .i64 (vdE K d S))∧Grew w w':=by
 have zs:=Ag.new w 91 S.C
 have G:=ze (za w) (.cells S.C 91)
 have hc:(w.alloc (.cells S.C 91)).cell? ⟨w.heap.size,0,none⟩=some (.int .u64 (S.cm:Nat)):=by simpa using zs.cell 0 _ rfl
 have hd':(w.alloc (.cells S.C 91)).cell? ⟨bd,0,none⟩=some (.int .u64 (d:Nat)):=by
  rw [←hd]
  refine World.cell?_of_block (Below.heap_alloc _ _ _ ?_)
  rcases Nat.lt_or_ge bd w.heap.size with h | h
  ·exact h
  ·have:w.heap[bd]?=none:=Array.getElem?_eq_none h
   simp only [World.cell?,this]at hd
   cases hd
 have hut:=Tryz.underlying91
 have huk:=Tryz.underlying50
 have SIS:Hid ((Tryz.prog.info? 91).map (·.size)=some S.C.toList.length):=hQ9 zy
 have SIK:Hid ((Tryz.prog.info? 50).map (·.size)=some K.C.toList.length):=hQ9 (show _=some 3 by kernel_rfl)
 have hms:=zs.cell
 have hmk:=(hkc.grew G).cell
 have CV:=hQ9 (fun W h1 h2 h3=>zcn hK hS W h1 h2 h3)
 have HS:=hQ9 hs
 have HKA:=hQ9 hk
 have HSA:=hQ9 ha
 have HF:Hid (vdE K d S=if S.cm=d then vaS K S else 3):=hQ9 rfl
 clear zs hd hkc hs hk ha hK hS
 generalize S.C=g at *
 generalize K.C=gk at *
 generalize vaS K S=va at *
 by_cases hcd:S.cm=d
 ·have e1:((S.cm:Int) != (d:Int))=false:=by simp [hcd]
  have HCD:=hQ9 hcd
  clear hcd
  generalize S.cm=cm at *
  go_enter Tryz.func95,Tryz.ntmps95
  go_wp2_with(first
   | (with_reducible refine wpList_load_mid rfl 50 (.tmp 2) rfl bk 0 rfl gk.toList _ hmk huk rfl SIK.out ?_;simp only [Array.toArray_toList])
   | (with_reducible refine wpList_load_mid rfl 91 (.tmp 3) rfl w.heap.size 0 rfl g.toList _ hms hut rfl SIS.out ?_;simp only [Array.toArray_toList]))
  refine(CV.out _ (HS.out.grew G) (HKA.out.gr G) (HSA.out.gr G)).mono ?_
  rintro e w1 ⟨rfl,gg⟩
  have G2:=zc G gg
  have HE:Hid (vdE K d S=va):=hQ9 (by rw [HF.out,HCD.out,if_pos rfl])
  clear hms hmk hc hd' gg HF
  go_wp2_with fail
  go_ret
  exact⟨by rw [HE.out];rfl,G2⟩
 ·have e1:((S.cm:Int) != (d:Int))=true:=by simp;omega
  have HE:Hid (vdE K d S=3):=hQ9 (by rw [HF.out,if_neg hcd])
  clear hcd
  generalize S.cm=cm at *
  go_enter Tryz.func95,Tryz.ntmps95
  go_wp2_with fail
  go_ret
  exact⟨by rw [HE.out];rfl,G⟩
noncomputable def chqE (K:KP) (d:Nat):Option Int→List SP→Int
 | _,[]=>0
 | p,S::r=>if p.any (fun x=>decide (S.who≤x))=true then 10 else if vdE K d S=0 then chqE K d (some S.who) r else vdE K d S
def prevO (L:List SP):Nat→Option Int
 | 0=>none
 | j+1=>(L[j]?).map SP.who
theorem zdi {K:KP} {d:Nat} {p:Option Int} {S:SP} {r:List SP} (h:p.any (fun x=>decide (S.who≤x))=true):chqE K d p (S::r)=10:=by rw [chqE,if_pos h]
theorem xC {K:KP} {d:Nat} {p:Option Int} {S:SP} {r:List SP} (h:p.any (fun x=>decide (S.who≤x))=false) (hv:vdE K d S=0):chqE K d p (S::r)=chqE K d (some S.who) r:=by rw [chqE,if_neg (by simp [h]),if_pos hv]
theorem zdj {K:KP} {d:Nat} {p:Option Int} {S:SP} {r:List SP} (h:p.any (fun x=>decide (S.who≤x))=false) (hv:¬vdE K d S=0):chqE K d p (S::r)=vdE K d S:=by rw [chqE,if_neg (by simp [h]),if_neg hv]
noncomputable def cqE (K:KP) (d:Nat) (L:List SP):Int:=if L.length=(2*K.f+1).toNat then chqE K d none L else 8
theorem kV {w w':World} {b o:Nat} {cs:List Value} (h:w.rangeAt b o cs) (hb:b<w.heap.size) (g:Grew w w'):w'.rangeAt b o cs:=fun j v hj=>by
 rw [←h j v hj]
 exact World.cell?_of_block (g.block b hb)
theorem chq_sp {K:KP} (hK:K.ok) (A:Option Addr) (c:Nat) (L:List SP) (hl:L.length≤100000) (d bd bk:Nat) (w:World) (hs:Std w) (hk:K.at w) (hL:Sps w A L) (hd:w.cell? ⟨bd,0,none⟩=some (.int .u64 (d:Nat))) (hkc:Ag w bk K.C.toList) :
 Calls Tryz.prog 93 #[.agg #[.int .i64 K.f],.slice A L.length c,.func (.func 94) #[] #[],.func (.func 95) #[] #[.pointer (some ⟨bd,0,none⟩),.pointer (some ⟨bk,0,none⟩)]] w fun e w'=>e=.returned (.int .i64 (cqE K d L))∧Grew w w':=by
 have huf:=Tryz.underlying47
 have hut:=Tryz.underlying91
 have HCF:Hid ((Tryz.prog.info? 47).map (·.size)=some [Value.int .i64 K.f].length):=hQ9 (by kernel_rfl)
 have hf:=hK.f
 have CQ:=hQ9 (fun W=>qq_ok K.f hf W)
 have zk:=Ag.new w 47 #[.int .i64 K.f]
 have G1:=ze (za w) (.cells #[.int .i64 K.f] 47)
 have hm0:(w.alloc (.cells #[.int .i64 K.f] 47)).rangeAt w.heap.size 0 [.int .i64 K.f]:=ziv zk
 have CVV:=hQ9 (fun S (hS:S∈L) W (g:Grew w W)=>vd1_sp hK (hL.ok S hS) d bd bk W (hs.grew g) (hk.gr g) ((hL.at_ S hS).gr g) (xJ hd g) (hkc.grew g))
 obtain⟨qn,hqn⟩:∃ qn:Nat,2*K.f+1=(qn:Int):=⟨(2*K.f+1).toNat,by omega⟩
 have HCE:Hid (cqE K d L=if L.length=qn then chqE K d none L else 8):=hQ9 (by unfold cqE;rw [hqn,Int.toNat_natCast])
 rw [hqn]at CQ
 have hr:=hL.rd
 clear hs hk hd hkc hqn hf hL zk
 have hKf:True:=trivial
 generalize K.f=kf at CQ HCF hm0 G1 ⊢
 go_enter Tryz.func93,Tryz.ntmps93
 go_wp2_with(with_reducible refine wpList_load_mid rfl 47 (.tmp 4) rfl w.heap.size 0 rfl [.int .i64 kf] _ hm0 huf rfl HCF.out ?_)
 refine(CQ.out _).mono ?_
 rintro e w1 ⟨rfl,gg⟩
 have G2:=zc G1 gg
 clear hm0 G1 gg CQ
 by_cases hlen:L.length=qn
 case neg =>
  have e1:((L.length:Int) != (qn:Int))=true:=by simp;omega
  have HR:Hid (cqE K d L=8):=hQ9 (by rw [HCE.out,if_neg hlen])
  clear hlen
  go_wp2_with fail
  go_ret
  exact⟨by rw [HR.out];rfl,G2⟩
 have HR:Hid (cqE K d L=chqE K d none L):=hQ9 (by rw [HCE.out,if_pos hlen])
 have e1:((L.length:Int) != (qn:Int))=false:=by simp [hlen]
 clear hlen HCE
 go_wp2_with fail
 clear e1
 go_loopw [19] (fun iv wr=>∃ i:Nat,i≤L.length∧iv=.int .i64 i∧chqE K d none L=chqE K d (prevO L i) (L.drop i)∧Grew w wr) (fun iv _=>L.length-(Go.RowKit.intOf iv).toNat)
 case atStart=>exact⟨0,Nat.zero_le _,rfl,rfl,G2⟩
 case round =>
  obtain⟨i,hil,rfl,hinv,hg⟩:=hrel
  by_cases hlt:i<L.length
  ·obtain⟨q,hA,hq,hm⟩:=RdC.at24 hr hg i hlt
   subst hA
   have hdr:L.drop i=L[i]::L.drop (i+1):=by rw [List.drop_eq_getElem_cons hlt]
   have hnx:prevO L (i+1)=some (SP.who L[i]):=by show(L[i]?).map SP.who=_;rw [List.getElem?_eq_getElem hlt];rfl
   have CVi:=fun W g=>CVV.out L[i] (List.getElem_mem hlt) W g
   have hi0:(0:Int)≤(i:Int):=by omega
   have hi1:(i:Int)<(L.length:Int):=by omega
   rw [hdr]at hinv
   have hgP:∀ j (hj:j+1=i) (hj':j<L.length),prevO L i=some (SP.who L[j]):=fun j hj hj'=>by subst hj;show(L[j]?).map SP.who=_;rw [List.getElem?_eq_getElem hj'];rfl
   have hmP:∀ j (hj:j<L.length),wr.rangeAt q (j*24) L[j].C.toList:=fun j hj=>by
    obtain⟨q',e',_,h'⟩:=RdC.at24 hr hg j hj
    injection e' with e';injection e' with e';subst e';exact h'
   generalize L[i]=S at *
   have CVD:=hQ9 CVi
   have CWS:=hQ9 (fun W=>zgy S W)
   have SIS:Hid ((Tryz.prog.info? 91).map (·.size)=some S.C.toList.length):=hQ9 zy
   have SIZ:Hid ((Tryz.prog.info? 91).map (·.size)=some S.C.size):=hQ9 zy
   have HON:=hQ9 S.one
   obtain⟨w2,hw2,ht2,g2,z2⟩:=yO wr S.C rfl
   have HW2:=hQ9 hw2
   have HT2:=hQ9 ht2
   have HM2:=hQ9 (fun y (g:Grew w2 y)=>(z2.grew g).cell)
   have HNX:=hQ9 hnx
   have HINV:=hQ9 hinv
   clear hw2 ht2 CVi hdr hinv hnx z2
   go_upto_region 6 with (first
    | (with_reducible refine wpList_load_mid rfl 91 (.tmp 22) rfl q (i*24) rfl S.C.toList _ hm hut rfl SIS.out ?_;simp only [Array.toArray_toList])
    | (with_reducible refine wpList_store_mid rfl 91 (.tmp 10) (.tmp 23) rfl wr.heap.size 0 S.C rfl rfl HT2.out SIZ.out HON.out ?_;rw [HW2.out]))
   clear hm HT2 HW2 SIZ HON
   by_cases hz:i=0
   ·have HPA:Hid ((prevO L i).any (fun x=>decide (S.who≤x))=false):=hQ9 (by rw [hz];rfl)
    have b0:decide (0<i)=false:=decide_eq_false (by omega)
    clear hz hgP hmP
    refine zH 14 (fun ix9=>match ix9 with
     | 0=>fun v _=>v=.int .i64 (i:Int)
     | 1=>fun v _=>v=.bool false
     | 2=>fun v _=>v=.bool false
     | 3=>fun v _=>v=undef
     | 4=>fun v _=>v=undef
     | 5=>fun v _=>v=undef
     | 6=>fun v _=>v=undef
     | 7=>fun v _=>v=undef
     | 8=>fun v _=>v=undef
     | 9=>fun v _=>v=undef
     | 10=>fun v _=>v=undef
     | 11=>fun v _=>v=undef
     | 12=>fun v _=>v=undef
     | 13=>fun v _=>v=undef
     | _=>fun _ _=>True) (by kernel_rfl) (by kernel_rfl) ?_ ?_ ?_
    ·intro i v x y h hg
     match i,h with
     | 0,h | 1,h | 2,h | 3,h | 4,h | 5,h | 6,h | 7,h | 8,h | 9,h | 10,h | 11,h | 12,h | 13,h=>exact h
     | m+14,_=>trivial
    ·simp only [actOf,tk1,tk0,dr1,dr0,Act.put,si1,st1,st0,Nat.reduceAdd]
     refine⟨?_,?_,?_,?_,?_,?_,?_,?_,?_,?_,?_,?_,?_,?_,trivial⟩
     ·intro vs y hg hd
      dsimp only
      go_wp2_with fail
      exact⟨rfl,_,rfl,za _,rfl⟩
     ·intro vs y hg hd
      obtain⟨h0,_⟩:=hd
      replace h0:=h0 rfl
      dsimp only
      rw [show vs 0=_ from h0]
      go_wp2_with fail
      exact⟨rfl,_,rfl,za _,rfl⟩
     ·intro vs y hg hd
      obtain⟨h1,_⟩:=hd
      replace h1:=h1 rfl
      dsimp only
      rw [show vs 1=_ from h1]
      go_wp2_with fail
      exact⟨rfl,_,rfl,za _,rfl⟩
     ·intro vs y hg hd
      have hx:(Region.binds .any { on:=2,ground:=.guard }=true→vs 2=.bool false)∧True:=hd
      have h2:vs 2=.bool false:=hx.1 rfl
      clear hx
      dsimp only
      rw [show vs 2=_ from h2]
      go_wp2_with fail
      exact⟨rfl,_,rfl,za _,rfl⟩
     ·intro vs y hg hd
      have hx:(Region.binds .any { on:=2,ground:=.guard }=true→vs 2=.bool false)∧True:=hd
      have h2:vs 2=.bool false:=hx.1 rfl
      clear hx
      dsimp only
      rw [show vs 2=_ from h2]
      go_wp2_with fail
      exact⟨rfl,_,rfl,za _,rfl⟩
     ·intro vs y hg hd
      have hx:(Region.binds .any { on:=3,ground:=.data }=true→vs 3=undef)∧(Region.binds .any { on:=4,ground:=.data }=true→vs 4=undef)∧(Region.binds .any { on:=2,ground:=.chain }=true→vs 2=.bool false)∧(Region.binds .any { on:=2,ground:=.guard }=true→vs 2=.bool false)∧True:=hd
      have h3:vs 3=undef:=hx.1 rfl
      have h4:vs 4=undef:=hx.2.1 rfl
      have h2:vs 2=.bool false:=hx.2.2.2.1 rfl
      clear hx
      dsimp only
      rw [show vs 3=_ from h3,show vs 4=_ from h4,show vs 2=_ from h2]
      go_wp2_with fail
      exact⟨rfl,_,rfl,za _,rfl⟩
     ·intro vs y hg hd
      have hx:(Region.binds .any { on:=2,ground:=.guard }=true→vs 2=.bool false)∧True:=hd
      have h2:vs 2=.bool false:=hx.1 rfl
      clear hx
      dsimp only
      rw [show vs 2=_ from h2]
      go_wp2_with fail
      exact⟨rfl,_,rfl,za _,rfl⟩
     ·intro vs y hg hd
      have hx:(Region.binds .any { on:=2,ground:=.guard }=true→vs 2=.bool false)∧True:=hd
      have h2:vs 2=.bool false:=hx.1 rfl
      clear hx
      dsimp only
      rw [show vs 2=_ from h2]
      go_wp2_with fail
      exact⟨rfl,_,rfl,za _,rfl⟩
     ·intro vs y hg hd
      have hx:(Region.binds .any { on:=2,ground:=.guard }=true→vs 2=.bool false)∧True:=hd
      have h2:vs 2=.bool false:=hx.1 rfl
      clear hx
      dsimp only
      rw [show vs 2=_ from h2]
      go_wp2_with fail
      exact⟨rfl,_,rfl,za _,rfl⟩
     ·intro vs y hg hd
      have hx:(Region.binds .any { on:=8,ground:=.data }=true→vs 8=undef)∧(Region.binds .any { on:=2,ground:=.guard }=true→vs 2=.bool false)∧True:=hd
      have h8:vs 8=undef:=hx.1 rfl
      have h2:vs 2=.bool false:=hx.2.1 rfl
      clear hx
      dsimp only
      rw [show vs 8=_ from h8,show vs 2=_ from h2]
      go_wp2_with fail
      exact⟨rfl,_,rfl,za _,rfl⟩
     ·intro vs y hg hd
      have hx:(Region.binds .any { on:=7,ground:=.data }=true→vs 7=undef)∧(Region.binds .any { on:=9,ground:=.data }=true→vs 9=undef)∧(Region.binds .any { on:=2,ground:=.guard }=true→vs 2=.bool false)∧True:=hd
      have h7:vs 7=undef:=hx.1 rfl
      have h9:vs 9=undef:=hx.2.1 rfl
      have h2:vs 2=.bool false:=hx.2.2.1 rfl
      clear hx
      dsimp only
      rw [show vs 7=_ from h7,show vs 9=_ from h9,show vs 2=_ from h2]
      go_wp2_with fail
      exact⟨rfl,_,rfl,za _,rfl⟩
     ·intro vs y hg hd
      have hx:(Region.binds .any { on:=10,ground:=.data }=true→vs 10=undef)∧(Region.binds .any { on:=2,ground:=.guard }=true→vs 2=.bool false)∧True:=hd
      have h10:vs 10=undef:=hx.1 rfl
      have h2:vs 2=.bool false:=hx.2.1 rfl
      clear hx
      dsimp only
      rw [show vs 10=_ from h10,show vs 2=_ from h2]
      go_wp2_with fail
      exact⟨rfl,_,rfl,za _,rfl⟩
     ·intro vs y hg hd
      have hx:(Region.binds .any { on:=6,ground:=.data }=true→vs 6=undef)∧(Region.binds .any { on:=11,ground:=.data }=true→vs 11=undef)∧(Region.binds .any { on:=5,ground:=.chain }=true→vs 5=undef)∧(Region.binds .any { on:=2,ground:=.guard }=true→vs 2=.bool false)∧True:=hd
      have h6:vs 6=undef:=hx.1 rfl
      have h11:vs 11=undef:=hx.2.1 rfl
      have h2:vs 2=.bool false:=hx.2.2.2.1 rfl
      clear hx
      dsimp only
      rw [show vs 6=_ from h6,show vs 11=_ from h11,show vs 2=_ from h2]
      go_wp2_with fail
      exact⟨rfl,_,rfl,za _,rfl⟩
     ·intro vs y hg hd
      have hx:(Region.binds .any { on:=5,ground:=.data }=true→vs 5=undef)∧(Region.binds .any { on:=12,ground:=.data }=true→vs 12=undef)∧(Region.binds .any { on:=2,ground:=.guard }=true→vs 2=.bool false)∧True:=hd
      have h5:vs 5=undef:=hx.1 rfl
      have h12:vs 12=undef:=hx.2.1 rfl
      have h2:vs 2=.bool false:=hx.2.2.1 rfl
      clear hx
      dsimp only
      rw [show vs 5=_ from h5,show vs 12=_ from h12,show vs 2=_ from h2]
      go_wp2_with fail
      exact⟨rfl,_,rfl,za _,rfl⟩
    ·intro vs w3 hg3 hJ
     have j0:vs 0=.int .i64 (i:Int):=hJ 0 (by decide)
     have j1:vs 1=.bool false:=hJ 1 (by decide)
     have j2:vs 2=.bool false:=hJ 2 (by decide)
     have j3:vs 3=undef:=hJ 3 (by decide)
     have j4:vs 4=undef:=hJ 4 (by decide)
     have j5:vs 5=undef:=hJ 5 (by decide)
     have j6:vs 6=undef:=hJ 6 (by decide)
     have j7:vs 7=undef:=hJ 7 (by decide)
     have j8:vs 8=undef:=hJ 8 (by decide)
     have j9:vs 9=undef:=hJ 9 (by decide)
     have j10:vs 10=undef:=hJ 10 (by decide)
     have j11:vs 11=undef:=hJ 11 (by decide)
     have j12:vs 12=undef:=hJ 12 (by decide)
     have j13:vs 13=undef:=hJ 13 (by decide)
     clear hJ
     simp only [actOf,tk1,tk0,dr1,dr0,Act.put,si1,st1,st0,Nat.reduceAdd]
     have G3:=zc hg (zc g2 hg3)
     have hm3:=HM2.out w3 hg3
     have e4:IntKind.i64.wrap ((i:Int)+1)=((i+1:Nat):Int):=by rw [IntWalk.i64_in _ (by omega)];omega
     go_wp2_with(with_reducible refine wpList_load_mid rfl 91 (.tmp 10) rfl wr.heap.size 0 rfl S.C.toList _ hm3 hut rfl SIS.out ?_;simp only [Array.toArray_toList])
     refine(CVD.out w3 (zc hg (zc g2 hg3))).mono ?_
     rintro e w4 ⟨rfl,gg⟩
     have G4:=zc G3 gg
     clear hm3 G3
     by_cases hv:vdE K d S=0
     ·have HSTEP:Hid (chqE K d none L=chqE K d (prevO L (i+1)) (L.drop (i+1))):=hQ9 (by rw [HINV.out,HNX.out];exact xC HPA.out hv)
      rw [hv]
      clear hv
      go_wp2_with fail
      go_roundw
      case rel=>exact⟨i+1,by omega,rfl,HSTEP.out,G4⟩
      case measure=>simp [Go.RowKit.intOf];omega
     ·have e5:(vdE K d S != 0)=true:=by simpa using hv
      have HRES:Hid (chqE K d none L=vdE K d S):=hQ9 (by rw [HINV.out];exact zdj HPA.out hv)
      clear hv
      generalize vdE K d S=ve at *
      go_wp2_with fail
      go_ret
      exact⟨by rw [HR.out,HRES.out];rfl,G4⟩
   ·obtain⟨j,hj⟩:∃ j,i=j+1:=⟨i-1,by omega⟩
    have hmp:=hmP j (by omega)
    have hgp:=hgP j hj.symm (by omega)
    have b0:decide (0<i)=true:=decide_eq_true (by omega)
    have e33:IntKind.i64.wrap ((i:Int)-1)=(j:Int):=by rw [IntWalk.i64_in _ (by omega)];omega
    have hj0:(0:Int)≤(j:Int):=by omega
    have hj1:(j:Int)<(L.length:Int):=by omega
    clear hmP hgP hz
    generalize hPP:L[j]'(by omega)=P at hmp hgp
    clear hPP hj
    have CWP:=hQ9 (fun W=>zgy P W)
    have SIP:Hid ((Tryz.prog.info? 91).map (·.size)=some P.C.toList.length):=hQ9 zy
    have HMP:=hQ9 (fun y (g:Grew w2 y)=>kV hmp hq (zc g2 g))
    obtain⟨le,hle⟩:∃ le,decide (S.who≤P.who)=le:=⟨_,rfl⟩
    have HPA0:Hid ((prevO L i).any (fun x=>decide (S.who≤x))=le):=hQ9 (by rw [hgp,←hle];rfl)
    clear hgp hmp
    refine zH 14 (fun ix9=>match ix9 with
     | 0=>fun v _=>v=.int .i64 (i:Int)
     | 1=>fun v _=>v=.bool true
     | 2=>fun v _=>v=.bool true
     | 3=>fun v _=>v=.func (.func 94) #[] #[]
     | 4=>fun v _=>v=.agg S.C
     | 5=>fun v _=>v=.int .i64 S.who
     | 6=>fun v _=>v=.func (.func 94) #[] #[]
     | 7=>fun v _=>v=.slice (some ⟨q,0,none⟩) L.length c
     | 8=>fun v _=>v=.int .i64 (i:Int)
     | 9=>fun v _=>v=.int .i64 (j:Int)
     | 10=>fun v _=>v=.pointer (some ⟨q,j*24,none⟩)
     | 11=>fun v _=>v=.agg P.C
     | 12=>fun v _=>v=.int .i64 P.who
     | 13=>fun v _=>v=.bool le
     | _=>fun _ _=>True) (by kernel_rfl) (by kernel_rfl) ?_ ?_ ?_
    ·intro i v x y h hg
     match i,h with
     | 0,h | 1,h | 2,h | 3,h | 4,h | 5,h | 6,h | 7,h | 8,h | 9,h | 10,h | 11,h | 12,h | 13,h=>exact h
     | m+14,_=>trivial
    ·simp only [actOf,tk1,tk0,dr1,dr0,Act.put,si1,st1,st0,Nat.reduceAdd]
     refine⟨?_,?_,?_,?_,?_,?_,?_,?_,?_,?_,?_,?_,?_,?_,trivial⟩
     ·intro vs y hg hd
      dsimp only
      go_wp2_with fail
      exact⟨rfl,_,rfl,za _,rfl⟩
     ·intro vs y hg hd
      obtain⟨h0,_⟩:=hd
      replace h0:=h0 rfl
      dsimp only
      rw [show vs 0=_ from h0]
      go_wp2_with fail
      exact⟨rfl,_,rfl,za _,rfl⟩
     ·intro vs y hg hd
      obtain⟨h1,_⟩:=hd
      replace h1:=h1 rfl
      dsimp only
      rw [show vs 1=_ from h1]
      go_wp2_with fail
      exact⟨rfl,_,rfl,za _,rfl⟩
     ·intro vs y hg hd
      have hx:(Region.binds .any { on:=2,ground:=.guard }=true→vs 2=.bool true)∧True:=hd
      have h2:vs 2=.bool true:=hx.1 rfl
      clear hx
      dsimp only
      rw [show vs 2=_ from h2]
      go_wp2_with fail
      exact⟨rfl,_,rfl,za _,rfl⟩
     ·intro vs y hg hd
      have hx:(Region.binds .any { on:=2,ground:=.guard }=true→vs 2=.bool true)∧True:=hd
      have h2:vs 2=.bool true:=hx.1 rfl
      clear hx
      dsimp only
      rw [show vs 2=_ from h2]
      have hm:=HM2.out y hg
      go_wp2_with(refine zl (by rfl) 91 (.tmp 10) rfl wr.heap.size 0 rfl S.C.toList _ hm hut rfl SIS.out ?_;simp only [Array.toArray_toList])
      exact⟨rfl,_,rfl,za _,rfl⟩
     ·intro vs y hg hd
      have hx:(Region.binds .any { on:=3,ground:=.data }=true→vs 3=.func (.func 94) #[] #[])∧(Region.binds .any { on:=4,ground:=.data }=true→vs 4=.agg S.C)∧(Region.binds .any { on:=2,ground:=.chain }=true→vs 2=.bool true)∧(Region.binds .any { on:=2,ground:=.guard }=true→vs 2=.bool true)∧True:=hd
      have h3:vs 3=.func (.func 94) #[] #[]:=hx.1 rfl
      have h4:vs 4=.agg S.C:=hx.2.1 rfl
      have h2:vs 2=.bool true:=hx.2.2.2.1 rfl
      clear hx
      dsimp only
      rw [show vs 3=_ from h3,show vs 4=_ from h4,show vs 2=_ from h2]
      go_wp2_with(go_at_call 94;refine(CWS.out y).mono ?_;rintro e z ⟨rfl,gz⟩)
      exact⟨rfl,_,rfl,gz,rfl⟩
     ·intro vs y hg hd
      have hx:(Region.binds .any { on:=2,ground:=.guard }=true→vs 2=.bool true)∧True:=hd
      have h2:vs 2=.bool true:=hx.1 rfl
      clear hx
      dsimp only
      rw [show vs 2=_ from h2]
      go_wp2_with fail
      exact⟨rfl,_,rfl,za _,rfl⟩
     ·intro vs y hg hd
      have hx:(Region.binds .any { on:=2,ground:=.guard }=true→vs 2=.bool true)∧True:=hd
      have h2:vs 2=.bool true:=hx.1 rfl
      clear hx
      dsimp only
      rw [show vs 2=_ from h2]
      go_wp2_with fail
      exact⟨rfl,_,rfl,za _,rfl⟩
     ·intro vs y hg hd
      have hx:(Region.binds .any { on:=2,ground:=.guard }=true→vs 2=.bool true)∧True:=hd
      have h2:vs 2=.bool true:=hx.1 rfl
      clear hx
      dsimp only
      rw [show vs 2=_ from h2]
      go_wp2_with fail
      exact⟨rfl,_,rfl,za _,rfl⟩
     ·intro vs y hg hd
      have hx:(Region.binds .any { on:=8,ground:=.data }=true→vs 8=.int .i64 (i:Int))∧(Region.binds .any { on:=2,ground:=.guard }=true→vs 2=.bool true)∧True:=hd
      have h8:vs 8=.int .i64 (i:Int):=hx.1 rfl
      have h2:vs 2=.bool true:=hx.2.1 rfl
      clear hx
      dsimp only
      rw [show vs 8=_ from h8,show vs 2=_ from h2]
      go_wp2_with fail
      exact⟨rfl,_,rfl,za _,rfl⟩
     ·intro vs y hg hd
      have hx:(Region.binds .any { on:=7,ground:=.data }=true→vs 7=.slice (some ⟨q,0,none⟩) L.length c)∧(Region.binds .any { on:=9,ground:=.data }=true→vs 9=.int .i64 (j:Int))∧(Region.binds .any { on:=2,ground:=.guard }=true→vs 2=.bool true)∧True:=hd
      have h7:vs 7=.slice (some ⟨q,0,none⟩) L.length c:=hx.1 rfl
      have h9:vs 9=.int .i64 (j:Int):=hx.2.1 rfl
      have h2:vs 2=.bool true:=hx.2.2.1 rfl
      clear hx
      dsimp only
      rw [show vs 7=_ from h7,show vs 9=_ from h9,show vs 2=_ from h2]
      go_wp2_with fail
      exact⟨rfl,_,rfl,za _,rfl⟩
     ·intro vs y hg hd
      have hx:(Region.binds .any { on:=10,ground:=.data }=true→vs 10=.pointer (some ⟨q,j*24,none⟩))∧(Region.binds .any { on:=2,ground:=.guard }=true→vs 2=.bool true)∧True:=hd
      have h10:vs 10=.pointer (some ⟨q,j*24,none⟩):=hx.1 rfl
      have h2:vs 2=.bool true:=hx.2.1 rfl
      clear hx
      dsimp only
      rw [show vs 10=_ from h10,show vs 2=_ from h2]
      have hm:=HMP.out y hg
      go_wp2_with(refine zl (by rfl) 91 (.tmp 34) rfl q (j*24) rfl P.C.toList _ hm hut rfl SIP.out ?_;simp only [Array.toArray_toList])
      exact⟨rfl,_,rfl,za _,rfl⟩
     ·intro vs y hg hd
      have hx:(Region.binds .any { on:=6,ground:=.data }=true→vs 6=.func (.func 94) #[] #[])∧(Region.binds .any { on:=11,ground:=.data }=true→vs 11=.agg P.C)∧(Region.binds .any { on:=5,ground:=.chain }=true→vs 5=.int .i64 S.who)∧(Region.binds .any { on:=2,ground:=.guard }=true→vs 2=.bool true)∧True:=hd
      have h6:vs 6=.func (.func 94) #[] #[]:=hx.1 rfl
      have h11:vs 11=.agg P.C:=hx.2.1 rfl
      have h2:vs 2=.bool true:=hx.2.2.2.1 rfl
      clear hx
      dsimp only
      rw [show vs 6=_ from h6,show vs 11=_ from h11,show vs 2=_ from h2]
      go_wp2_with(go_at_call 94;refine(CWP.out y).mono ?_;rintro e z ⟨rfl,gz⟩)
      exact⟨rfl,_,rfl,gz,rfl⟩
     ·intro vs y hg hd
      have hx:(Region.binds .any { on:=5,ground:=.data }=true→vs 5=.int .i64 S.who)∧(Region.binds .any { on:=12,ground:=.data }=true→vs 12=.int .i64 P.who)∧(Region.binds .any { on:=2,ground:=.guard }=true→vs 2=.bool true)∧True:=hd
      have h5:vs 5=.int .i64 S.who:=hx.1 rfl
      have h12:vs 12=.int .i64 P.who:=hx.2.1 rfl
      have h2:vs 2=.bool true:=hx.2.2.1 rfl
      clear hx
      dsimp only
      rw [show vs 5=_ from h5,show vs 12=_ from h12,show vs 2=_ from h2]
      go_wp2_with fail
      exact⟨rfl,_,rfl,za _,rfl⟩
    ·intro vs w3 hg3 hJ
     have j0:vs 0=.int .i64 (i:Int):=hJ 0 (by decide)
     have j1:vs 1=.bool true:=hJ 1 (by decide)
     have j2:vs 2=.bool true:=hJ 2 (by decide)
     have j3:vs 3=.func (.func 94) #[] #[]:=hJ 3 (by decide)
     have j4:vs 4=.agg S.C:=hJ 4 (by decide)
     have j5:vs 5=.int .i64 S.who:=hJ 5 (by decide)
     have j6:vs 6=.func (.func 94) #[] #[]:=hJ 6 (by decide)
     have j7:vs 7=.slice (some ⟨q,0,none⟩) L.length c:=hJ 7 (by decide)
     have j8:vs 8=.int .i64 (i:Int):=hJ 8 (by decide)
     have j9:vs 9=.int .i64 (j:Int):=hJ 9 (by decide)
     have j10:vs 10=.pointer (some ⟨q,j*24,none⟩):=hJ 10 (by decide)
     have j11:vs 11=.agg P.C:=hJ 11 (by decide)
     have j12:vs 12=.int .i64 P.who:=hJ 12 (by decide)
     have j13:vs 13=.bool le:=hJ 13 (by decide)
     clear hJ
     simp only [actOf,tk1,tk0,dr1,dr0,Act.put,si1,st1,st0,Nat.reduceAdd]
     cases le
     ·have HPA:=HPA0
      clear HPA0 hle
      have G3:=zc hg (zc g2 hg3)
      have hm3:=HM2.out w3 hg3
      have e4:IntKind.i64.wrap ((i:Int)+1)=((i+1:Nat):Int):=by rw [IntWalk.i64_in _ (by omega)];omega
      go_wp2_with(with_reducible refine wpList_load_mid rfl 91 (.tmp 10) rfl wr.heap.size 0 rfl S.C.toList _ hm3 hut rfl SIS.out ?_;simp only [Array.toArray_toList])
      refine(CVD.out w3 (zc hg (zc g2 hg3))).mono ?_
      rintro e w4 ⟨rfl,gg⟩
      have G4:=zc G3 gg
      clear hm3 G3
      by_cases hv:vdE K d S=0
      ·have HSTEP:Hid (chqE K d none L=chqE K d (prevO L (i+1)) (L.drop (i+1))):=hQ9 (by rw [HINV.out,HNX.out];exact xC HPA.out hv)
       rw [hv]
       clear hv
       go_wp2_with fail
       go_roundw
       case rel=>exact⟨i+1,by omega,rfl,HSTEP.out,G4⟩
       case measure=>simp [Go.RowKit.intOf];omega
      ·have e5:(vdE K d S != 0)=true:=by simpa using hv
       have HRES:Hid (chqE K d none L=vdE K d S):=hQ9 (by rw [HINV.out];exact zdj HPA.out hv)
       clear hv
       generalize vdE K d S=ve at *
       go_wp2_with fail
       go_ret
       exact⟨by rw [HR.out,HRES.out];rfl,G4⟩
     ·have HRES:Hid (chqE K d none L=10):=hQ9 (by rw [HINV.out];exact zdi HPA0.out)
      have G4:=zc hg (zc g2 hg3)
      go_wp2_with fail
      go_ret
      exact⟨by rw [HR.out,HRES.out];rfl,G4⟩
  ·obtain rfl:i=L.length:=by omega
   rw [List.drop_length]at hinv
   have HE:Hid (chqE K d none L=0):=hQ9 (by rw [hinv];cases prevO L L.length<;>rfl)
   clear hinv
   go_wp2_with fail
   go_ret
   exact⟨by rw [HR.out,HE.out];rfl,hg⟩
noncomputable def mvE (K:KP) (c:Cm) (L:List SP):Int:=if okC c then cqE K (dgC c) L else 1
theorem yQ {w:World} {b:Nat} {c:Cm} {A:Option Addr} {n k:Nat} (h:Ag w b (ctC c A n k).toList):w.rangeAt b 0 c.cells.toList:=fun j v hj=>by
 refine h.cell j v ?_
 have hl:=(List.getElem?_eq_some_iff.1 hj).1
 rw [show(ctC c A n k).toList=c.cells.toList++[.slice A n k] from rfl,List.getElem?_append_left hl]
 exact hj
theorem jU (c:Cm) {K:KP} (hK:K.ok) (A:Option Addr) (k:Nat) (L:List SP) (hl:L.length≤100000) (w:World) (hS:Std w) (hk:K.at w) (hL:Sps w A L) :
 Calls Tryz.prog 23 #[.agg K.C,.agg (ctC c A L.length k)] w fun e w'=>e=.returned (.int .i64 (mvE K c L))∧Grew w w':=by
 have huc:=Tryz.underlying33
 have huf:=Tryz.underlying47
 have HCF:Hid ((Tryz.prog.info? 47).map (·.size)=some [Value.int .i64 K.f].length):=hQ9 (by kernel_rfl)
 have SIC:Hid ((Tryz.prog.info? 33).map (·.size)=some c.cells.toList.length):=hQ9 (show _=some 5 by kernel_rfl)
 have z0:=(Ag.new w 50 K.C).grew (ze (za _) (.cells (ctC c A L.length k) 36))
 have z1:=Ag.new (w.alloc (.cells K.C 50)) 36 (ctC c A L.length k)
 rw [zD]at z1
 have G0:=ze (ze (za w) (.cells K.C 50)) (.cells (ctC c A L.length k) 36)
 have hcv:c.v=.agg c.cells:=rfl
 have CC:=hQ9 (fun W=>ja c W)
 have HS:=hQ9 hS
 have HKA:=hQ9 hk
 have HLA:=hQ9 hL
 rw [hcv]at CC
 have hm1:=yQ z1
 clear hS hk hL
 by_cases hc:okC c
 case neg =>
  have HR:Hid (mvE K c L=1):=hQ9 (by unfold mvE;rw [if_neg hc])
  rw [yd hc]at CC
  clear hc hcv z0 z1
  go_enter Tryz.func23,Tryz.ntmps23
  go_wp2_with(with_reducible refine wpList_load_mid rfl 33 (.tmp 7) rfl (w.heap.size+1) 0 rfl c.cells.toList _ hm1 huc rfl SIC.out ?_;simp only [Array.toArray_toList])
  refine(CC.out _).mono ?_
  rintro e w2 ⟨rfl,gg⟩
  go_wp2_with fail
  go_ret
  exact⟨by rw [HR.out];rfl,zc G0 gg⟩
 have HR:Hid (mvE K c L=cqE K (dgC c) L):=hQ9 (by unfold mvE;rw [if_pos hc])
 rw [xF hc]at CC
 have HCI:=hQ9 (ky hc)
 have CD:=hQ9 (fun W h=>je c HCI.out W h)
 rw [hcv]at CD
 clear hcv hc
 go_enter Tryz.func23,Tryz.ntmps23
 go_wp2_with(with_reducible refine wpList_load_mid rfl 33 (.tmp 7) rfl (w.heap.size+1) 0 rfl c.cells.toList _ hm1 huc rfl SIC.out ?_;simp only [Array.toArray_toList])
 refine(CC.out _).mono ?_
 rintro e w2 ⟨rfl,gg⟩
 have z0:=z0.grew gg
 have z1:=z1.grew gg
 clear hm1
 have hm1:=yQ z1
 have G2:=zc G0 gg
 clear gg CC G0
 go_wp2_with(with_reducible refine wpList_load_mid rfl 33 (.tmp 13) rfl (w.heap.size+1) 0 rfl c.cells.toList _ hm1 huc rfl SIC.out ?_;simp only [Array.toArray_toList])
 refine(CD.out w2 (HS.out.grew G2)).mono ?_
 rintro e w3 ⟨rfl,gg⟩
 obtain⟨w4,hw4,g4,hd4⟩:=zgz w3 56 (.int .u64 (dgC c:Nat))
 have HW4:=hQ9 hw4
 have g24:=zc gg g4
 have HZK:=hQ9 (z0.grew g24)
 have z14:=z1.grew g24
 have G4:=zc G2 g24
 have hmf:=qP HZK.out
 have HC5:w4.cell? ⟨w.heap.size+1,5,none⟩=some (.slice A L.length k):=by simpa using z14.cell 5 _ rfl
 have CQ:=hQ9 (chq_sp hK A k L hl (dgC c) w3.heap.size w.heap.size w4 (HS.out.grew G4) (HKA.out.gr G4) (HLA.out.gr G4) hd4 HZK.out)
 clear hm1 z0 z1 gg g4 G2 CD hw4 z14 g24 hd4
 go_wp2_with(first
  | (rw [HW4.out];with_reducible refine wpList_load_mid rfl 47 (.tmp 16) rfl w.heap.size 0 rfl [.int .i64 K.f] _ hmf huf rfl HCF.out ?_))
 refine(CQ.out).mono ?_
 rintro e w5 ⟨rfl,g5⟩
 go_wp2_with fail
 go_ret
 exact⟨by rw [HR.out];rfl,zc G4 g5⟩
theorem zg0 {K:KP} {d:Nat}:∀(L M:List SP) (p:Option Int),L.length=M.length→(∀ i (h:i<L.length) (h':i<M.length),M[i].who=L[i].who∧vdE K d M[i]=vdE K d L[i])→chqE K d p M=chqE K d p L
 | [],[],_,_,_=>rfl
 | [],_::_,_,h,_=>by simp at h
 | _::_,[],_,h,_=>by simp at h
 | S::L,T::M,p,hl,h=>by
  obtain⟨h1,h2⟩:=h 0 (by simp) (by simp)
  simp only [List.getElem_cons_zero]at h1 h2
  have ih:=zg0 L M (some S.who) (by simpa using hl) (fun i a b=>h (i+1) (Nat.succ_lt_succ a) (Nat.succ_lt_succ b))
  rw [chqE,chqE,h1,h2,ih]
theorem mvE_mv {K:KP} {c:Cm} {L M:List SP} (h:MvL L M):mvE K c M=mvE K c L:=by
 unfold mvE cqE
 rw [h.len,zg0 L M none h.len.symm (fun i a b=>by
  obtain⟨A,k,e⟩:=h.each i a b
  rw [e]
  exact⟨rfl,rfl⟩)]
theorem MvL.cons {L M:List SP} (h:MvL L M) (S:SP) (A:Option Addr) (c:Nat):MvL (S::L) (S.mv A c::M) :=
 ⟨by simp [h.len],fun k h1 h2=>by
  cases k with
  | zero=>exact⟨A,c,rfl⟩
  | succ k=>exact h.each k (by simpa using h1) (by simpa using h2)⟩
theorem MvL.take {L M:List SP} (h:MvL L M) (n:Nat):MvL (L.take n) (M.take n) :=
 ⟨by simp [h.len],fun k h1 h2=>by
  rw [List.getElem_take,List.getElem_take]
  exact h.each k (by rw [List.length_take]at h1;omega) (by rw [List.length_take]at h2;omega)⟩
theorem zp2 (L:List SP):MvL L L:=⟨rfl,fun k h1 h2=>⟨L[k].A,L[k].c,rfl⟩⟩
def SP.tx (S:SP):List UInt8:=stT S.cm S.who S.at_ S.sw S.lf S.s S.l
def SP.tb (S:SP):ByteArray:=⟨S.tx.toArray⟩
theorem zm9 {S:SP} (hS:S.ok) (w:World) (hs:Std w) (ha:S.at w):Calls Tryz.prog 85 #[.agg S.C] w fun e w'=>e=.returned (.string S.tb)∧Grew w w' :=
 zmo S.cm S.who S.at_ S.sw S.lf S.s S.A S.c S.l hS.cm hS.who hS.at_ hS.sw hS.lf hS.len hS.s hS.l w hs ha
theorem zkq (A:Option Addr) (c:Nat) (L:List SP) (hl:L.length≤100000) (w:World) (hS:Std w) (hL:Sps w A L) :
 Calls Tryz.prog 84 #[.slice A L.length c,.func (.func 85) #[] #[]] w fun e w'=>∃ v,e=.returned v∧w'.ownsRow w.heap.size 9 1 v L.length (strL (L.map SP.tb))∧Grew w w':=by
 obtain⟨i0,hi,hz0,hz1,hz2⟩:=info_parts (show(Tryz.prog.info? 9).map (fun i=>(i.zero,i.size,i.bytes))=some (some (.string ⟨#[]⟩),1,16) by kernel_rfl)
 have hut:=Tryz.underlying91
 have hr:=hL.rd
 have HLL:=hQ9 hL
 have HS:=hQ9 hS
 obtain⟨w1,hmk,hown1,hgrow1⟩:=run_make_own (P:=Tryz.prog) w w.heap.size 154 9 i0 (.string ⟨#[]⟩) 1 Tryz.underlying154 hi hz0 hz1 .i64 .i64 L.length (by rw [hz2];omega) (by unfold maxLen;omega) (Nat.le_refl _)
 have hg1:Grew w w1:=(Below.refl _ w).grown hgrow1 (Nat.le_refl _) (fun j hj=>by cases hj)
 clear hgrow1 hL hS
 go_enter Tryz.func84,Tryz.ntmps84
 go_wp2_with fail
 clear hmk
 go_loopw [5,13] (fun rv iv wr=>∃ k:Nat,k≤L.length∧iv=.int .i64 k∧wr.ownsRow w.heap.size 9 1 rv k (strL ((L.take k).map SP.tb))∧Grew w wr) (fun _ iv _=>L.length-(Go.RowKit.intOf iv).toNat)
 case atStart=>exact⟨0,Nat.zero_le _,rfl,by simpa [strL]using hown1,hg1⟩
 case round =>
  obtain⟨i,hil,rfl,hown,hg⟩:=hrel
  by_cases hlt:i<L.length
  ·obtain⟨q,hA,hq,hm⟩:=RdC.at24 hr hg i hlt
   subst hA
   have HT:Hid (strL ((L.take (i+1)).map SP.tb)=strL ((L.take i).map SP.tb)++[.string L[i].tb]):=hQ9 (by rw [List.take_succ_eq_append_getElem hlt,List.map_append];simp [strL])
   have hi0:(0:Int)≤(i:Int):=by omega
   have hi1:(i:Int)<(L.length:Int):=by omega
   have e4:IntKind.i64.wrap ((i:Int)+1)=((i+1:Nat):Int):=by rw [IntWalk.i64_in _ (by omega)];omega
   have hSok:=HLL.out.ok L[i] (List.getElem_mem hlt)
   have hSat:=(HLL.out.at_ L[i] (List.getElem_mem hlt)).gr hg
   generalize L[i]=S at *
   have CW:=hQ9 (fun W h1 h2=>zm9 hSok W h1 h2)
   have SIS:Hid ((Tryz.prog.info? 91).map (·.size)=some S.C.toList.length):=hQ9 zy
   have SIZ:Hid ((Tryz.prog.info? 91).map (·.size)=some S.C.size):=hQ9 zy
   have HON:=hQ9 S.one
   obtain⟨w2,hw2,ht2,g2,z2⟩:=yO wr S.C rfl
   have HW2:=hQ9 hw2
   have HT2:=hQ9 ht2
   have hm2:=z2.cell
   clear hw2 ht2
   go_wp2_with(first
    | (with_reducible refine wpList_load_mid rfl 91 (.tmp 15) rfl q (i*24) rfl S.C.toList _ hm hut rfl SIS.out ?_;simp only [Array.toArray_toList])
    | (with_reducible refine wpList_store_mid rfl 91 (.tmp 7) (.tmp 16) rfl wr.heap.size 0 S.C rfl rfl HT2.out SIZ.out HON.out ?_;rw [HW2.out])
    | (with_reducible refine wpList_load_mid rfl 91 (.tmp 7) rfl wr.heap.size 0 rfl S.C.toList _ hm2 hut rfl SIS.out ?_;simp only [Array.toArray_toList]))
   refine(CW.out w2 (HS.out.grew (zc hg g2)) (hSat.gr g2)).mono ?_
   rintro e w3 ⟨rfl,gg⟩
   have G3:=zc hg (zc g2 gg)
   have hown3:=zx (S:=fun _=>False) hown (zJ (zc g2 gg)) (fun g _ h=>h)
   have hsz3:=G3.size
   generalize S.tb=x at *
   clear hSok hSat hown hm hm2 z2 g2 gg hg HT2 HW2 CW
   go_wp2_with(at_builtin;refine zi rfl (.tmp 17) (.tmp 21) 154 rfl w.heap.size 9 i0 (.string ⟨#[]⟩) 16 Tryz.underlying154 hi hz0 hz1 hz2 rfl _ i _ rfl (hown3.alloc _) (w3.heap.size+1) (some ⟨w3.heap.size,0,none⟩) 1 1 [.string x] rfl rfl (zM w3 9 #[.string x] (0,0)) (yb rfl) (by unfold maxLen;omega) (by omega) (by simp;omega) ?_;intro v' w5 hown5 hgrow5 _)
   go_roundw
   case rel=>exact⟨i+1,by omega,by go_num,by rw [HT.out];exact hown5,(ze G3 _).grown hgrow5 (by simp;omega) (zj hown3)⟩
   case measure=>simp [Go.RowKit.intOf];omega
  ·obtain rfl:i=L.length:=by omega
   rw [List.take_length]at hown
   go_wp2_with fail
   go_ret
   exact⟨_,rfl,hown,hg⟩
def ctTx (c:Cm) (L:List SP):List UInt8:=joinF (txC c::L.map SP.tx)
theorem zcp (c:Cm) (L:List SP):bys (⟨(txC c).toArray⟩::L.map SP.tb)=txC c::L.map SP.tx:=by
 simp [bys,SP.tb,Function.comp_def]
theorem jV (c:Cm) (hc:c.in) (L:List SP) (hl:L.length≤40) (hok:∀ S∈L,S.ok):(ctTx c L).length≤100000000:=by
 have h1:∀ M:List SP,(∀ S∈M,S.ok)→(joinF (M.map SP.tx)).length≤M.length*2000001:=by
  intro M
  induction M with
  | nil=>intro _;simp [joinF]
  | cons S r ih =>
   intro h
   have h2:=ih (fun T hT=>h T (by simp [hT]))
   have hS:=h S (by simp)
   have h3:=zc9 S.cm S.who S.at_ S.sw S.lf S.s S.l hS.who hS.at_ hS.sw hS.lf hS.len
   have h4:=zQ S.tx
   have h5:S.tx.length≤1000000:=h3
   simp only [joinF,List.map_cons,List.flatMap_cons,List.length_append,List.length_cons]at h2 ⊢
   omega
 have h2:=h1 L hok
 have h3:=zab hc
 have h4:=zQ (txC c)
 unfold ctTx
 simp only [joinF,List.flatMap_cons,List.length_append,List.length_cons]at h2 ⊢
 omega
noncomputable def ctD (c:Cm) (L:List SP):Nat:=sumL [99,101,114,116] (ctTx c L)
theorem qQ (c:Cm) (hc:c.in) (A:Option Addr) (k:Nat) (L:List SP) (hl:L.length≤40) (w:World) (hS:Std w) (hL:Sps w A L) :
 Calls Tryz.prog 20 #[.agg (ctC c A L.length k)] w fun e w'=>e=.returned (.string ⟨(ctTx c L).toArray⟩)∧Grew w w':=by
 have huc:=Tryz.underlying33
 have SIC:Hid ((Tryz.prog.info? 33).map (·.size)=some c.cells.toList.length):=hQ9 (show _=some 5 by kernel_rfl)
 have z1:=Ag.new w 36 (ctC c A L.length k)
 have G1:=ze (za w) (.cells (ctC c A L.length k) 36)
 have hlen:=jV c hc L hl hL.ok
 have CTX:=hQ9 (fun W h=>zit c hc W h)
 rw [show txtV (txC c)=.string ⟨(txC c).toArray⟩ from rfl,show c.v=.agg c.cells from rfl]at CTX
 have HL1:Hid (L.length≤100000):=hQ9 (by omega)
 have HS:=hQ9 (hS.grew G1)
 have HLS:=hQ9 (hL.gr G1)
 have CJ:Hid (∀(A4:Option Addr) (c4:Nat) (W:World),Rd W W.heap.size A4 (strL (⟨(txC c).toArray⟩::L.map SP.tb))→Calls Tryz.prog 82 #[.slice A4 (1+L.length) c4] W fun e w'=>e=.returned (.string ⟨(ctTx c L).toArray⟩)∧Grew W w'):=hQ9 (fun A4 c4 W hR=>by
  have:=q5 A4 c4 (⟨(txC c).toArray⟩::L.map SP.tb) (by simp;omega) (by rw [zcp];exact hlen) W hR
  rw [zcp]at this
  simpa [ctTx,Nat.add_comm]using this)
 obtain⟨i0,hi,hz0,hz1,hz2⟩:=info_parts (show(Tryz.prog.info? 9).map (fun i=>(i.zero,i.size,i.bytes))=some (some (.string ⟨#[]⟩),1,16) by kernel_rfl)
 have hz1':=z1
 clear hS hL hlen hc
 generalize (⟨(txC c).toArray⟩:ByteArray)=t0 at *
 generalize (⟨(ctTx c L).toArray⟩:ByteArray)=tj at *
 go_enter Tryz.func20,Tryz.ntmps20
 go_upto_region 1 with fail
 generalize w.alloc (.cells (ctC c A L.length k) 36)=w1 at *
 have HMC:=hQ9 (fun y (g:Grew w1 y)=>yQ (z1.grew g))
 have HC5:Hid (∀ y,Grew w1 y→y.cell? ⟨w.heap.size,5,none⟩=some (.slice A L.length k)):=hQ9 (fun y g=>by simpa using (z1.grew g).cell 5 _ rfl)
 clear z1 hz1'
 refine zH 7 (fun ix9=>match ix9 with
  | 0=>fun v _=>v=.pointer (some ⟨w.heap.size,0,none⟩)
  | 1=>fun v _=>v=.agg c.cells
  | 2=>fun v _=>v=.string t0
  | 3=>fun v z=>z.ownsRow w1.heap.size 9 1 v 1 [.string t0]
  | 4=>fun v _=>v=.pointer (some ⟨w.heap.size,5,none⟩)
  | 5=>fun v _=>v=.slice A L.length k
  | 6=>fun v z=>z.ownsRow w1.heap.size 9 1 v L.length (strL (L.map SP.tb))
  | _=>fun _ _=>True) (by kernel_rfl) (by kernel_rfl) ?_ ?_ ?_
 ·intro i v x y h hg
  match i,h with
  | 0,h | 1,h | 2,h | 4,h | 5,h=>exact h
  | 3,h=>exact zx (S:=fun _=>False) h (zJ hg) (fun g _ h=>h)
  | 6,h=>exact zx (S:=fun _=>False) h (zJ hg) (fun g _ h=>h)
  | m+7,_=>trivial
 ·simp only [actOf,tk1,tk0,dr1,dr0,Act.put,si1,st1,st0,Nat.reduceAdd]
  refine⟨?_,?_,?_,?_,?_,?_,?_,trivial⟩
  ·intro vs y hg hd
   dsimp only
   go_wp2_with fail
   exact⟨rfl,_,rfl,za _,rfl⟩
  ·intro vs y hg hd
   obtain⟨h0,_⟩:=hd
   replace h0:=h0 rfl
   dsimp only
   rw [show vs 0=_ from h0]
   have hm:=HMC.out y hg
   go_wp2_with(with_reducible refine wpList_load_mid rfl 33 (.tmp 3) rfl w.heap.size 0 rfl c.cells.toList _ hm huc rfl SIC.out ?_;simp only [Array.toArray_toList])
   exact⟨rfl,_,rfl,za _,rfl⟩
  ·intro vs y hg hd
   obtain⟨h1,_⟩:=hd
   replace h1:=h1 rfl
   dsimp only
   rw [show vs 1=_ from h1]
   go_wp2_with(go_at_call 83;refine(CTX.out y (HS.out.grew hg)).mono ?_;rintro e z ⟨rfl,gz⟩)
   exact⟨rfl,_,rfl,gz,rfl⟩
  ·intro vs y hg hd
   obtain⟨h2,_⟩:=hd
   replace h2:=h2 rfl
   dsimp only
   rw [show vs 2=_ from h2]
   go_wp2_with fail
   exact⟨rfl,_,rfl,ze (za _) _,⟨by simp,.inr ⟨y.heap.size,1,#[.string t0],rfl,hg.size,heap_alloc_new y _,Nat.le_refl _,by unfold maxLen;omega,rfl,by simp⟩⟩⟩
  ·intro vs y hg hd
   dsimp only
   go_wp2_with fail
   exact⟨rfl,_,rfl,za _,rfl⟩
  ·intro vs y hg hd
   obtain⟨h4,_⟩:=hd
   replace h4:=h4 rfl
   dsimp only
   rw [show vs 4=_ from h4]
   have hc:=HC5.out y hg
   go_wp2_with fail
   exact⟨rfl,_,rfl,za _,rfl⟩
  ·intro vs y hg hd
   obtain⟨h5,_⟩:=hd
   replace h5:=h5 rfl
   dsimp only
   rw [show vs 5=_ from h5]
   go_wp2_with(go_at_call 84;refine(zkq A k L HL1.out y (HS.out.grew hg) (HLS.out.gr hg)).mono ?_;rintro e z ⟨v9,rfl,hrow9,gz⟩)
   exact⟨rfl,_,rfl,gz,xy hrow9 hg.size⟩
 ·intro vs w2 hg hJ
  have j0:vs 0=.pointer (some ⟨w.heap.size,0,none⟩):=hJ 0 (by decide)
  have j1:vs 1=.agg c.cells:=hJ 1 (by decide)
  have j2:vs 2=.string t0:=hJ 2 (by decide)
  have j4:vs 4=.pointer (some ⟨w.heap.size,5,none⟩):=hJ 4 (by decide)
  have j5:vs 5=.slice A L.length k:=hJ 5 (by decide)
  have s6:=hJ 3 (by decide)
  have s9:=hJ 6 (by decide)
  clear hJ
  simp only [actOf,tk1,tk0,dr1,dr0,Act.put,si1,st1,st0,Nat.reduceAdd]
  have hg2:=hg
  obtain⟨D9,d9,e9,hd9,hd9',hR9⟩:=zv s9
  have h91:=HL1.out
  have hB:=hg2.size
  have G2:=zc G1 hg2
  rw [e9]
  clear e9 s9
  generalize vs 3=v6 at *
  clear j0 j1 j2 j4 j5
  go_wp2_with(at_builtin;refine zi rfl (.tmp 6) (.tmp 9) 154 rfl w1.heap.size 9 i0 (.string ⟨#[]⟩) 16 Tryz.underlying154 hi hz0 hz1 hz2 rfl _ 1 _ rfl s6 w2.heap.size D9 L.length d9 (strL (L.map SP.tb)) rfl (by rw [zan];simp) hR9 (fun u hu=>by obtain⟨n,_,rfl⟩:=List.mem_map.1 hu;rfl) (by unfold maxLen;omega) (by omega) (by omega) ?_;intro v' w5 hown5 hgrow5 hob5)
  have G5:Grew w w5:=G2.grown hgrow5 G2.size (fun g h=>Nat.le_trans G1.size (zj s6 g h))
  obtain⟨D5,d5,rfl,hd5,hd5',hR5⟩:=zv hown5
  refine(CJ.out D5 d5 w5 (by simpa [strL]using hR5)).mono ?_
  rintro e w6 ⟨rfl,g6⟩
  go_wp2_with fail
  go_ret
  exact⟨rfl,zc G5 g6⟩
theorem jp (c:Cm) (hc:c.in) (A:Option Addr) (k:Nat) (L:List SP) (hl:L.length≤40) (w:World) (hS:Std w) (hL:Sps w A L) :
 Calls Tryz.prog 28 #[.agg (ctC c A L.length k)] w fun e w'=>e=.returned (.int .u64 (ctD c L:Nat))∧Grew w w':=by
 have huc:=Tryz.underlying36
 have SIC:Hid ((Tryz.prog.info? 36).map (·.size)=some (ctC c A L.length k).toList.length):=hQ9 zP
 have z1:=Ag.new w 36 (ctC c A L.length k)
 have G1:=ze (za w) (.cells (ctC c A L.length k) 36)
 have hlen:=jV c hc L hl hL.ok
 have CT1:=hQ9 (qQ c hc A k L hl _ (hS.grew G1) (hL.gr G1))
 have CH:=hQ9 (fun W=>zfk ⟨#[99,101,114,116]⟩ ⟨(ctTx c L).toArray⟩ (by decide) (by have:=hlen;simp [ByteArray.size];omega) W)
 have e1:sumL (⟨#[99,101,114,116]⟩:ByteArray).data.toList (⟨(ctTx c L).toArray⟩:ByteArray).data.toList=ctD c L:=by simp [ctD]
 rw [e1]at CH
 have hm:=z1.cell
 clear e1 hlen hS hL z1 hc
 generalize ctD c L=d at *
 generalize (⟨(ctTx c L).toArray⟩:ByteArray)=tj at *
 generalize ctC c A L.length k=gc at *
 go_enter Tryz.func28,Tryz.ntmps28
 go_wp2_with(with_reducible refine wpList_load_mid rfl 36 (.tmp 1) rfl w.heap.size 0 rfl gc.toList _ hm huc rfl SIC.out ?_;simp only [Array.toArray_toList])
 refine(CT1.out).mono ?_
 rintro e w1 ⟨rfl,g1⟩
 go_wp2_with fail
 refine(CH.out w1).mono ?_
 rintro e w2 ⟨rfl,rfl⟩
 go_wp2_with fail
 go_ret
 exact⟨rfl,zc G1 g1⟩
theorem zna (S:SP) (hS:S.ok) (A:Option Addr) (c:Nat) (w:World) (ha:S.at w) (hb:(S.mv A c).at w) :
 Calls Tryz.prog 111 #[.agg S.C,.agg (S.mv A c).C] w fun e w'=>e=.returned (.bool true)∧Grew w w' :=
 zm0 S.cm S.who S.at_ S.sw S.lf S.s S.A A S.c c S.l (by have:=hS.len;omega) w ha hb
theorem zkr (A B:Option Addr) (c c':Nat) (L M:List SP) (hl:L.length≤100000) (hm:MvL L M) (w:World) (hL:Sps w A L) (hM:Sps w B M) :
 Calls Tryz.prog 110 #[.slice A L.length c,.slice B L.length c',.func (.func 111) #[] #[]] w fun e w'=>e=.returned (.bool true)∧Grew w w':=by
 have hut:=Tryz.underlying91
 have hrL:=hL.rd
 have hrM:=hM.rd
 have HL:=hQ9 hL
 have HM:=hQ9 hM
 have HMV:=hQ9 hm
 have e0:((L.length:Int) != (L.length:Int))=false:=by simp
 clear hL hM hm
 go_enter Tryz.func110,Tryz.ntmps110
 go_wp2_with fail
 clear e0
 go_loopw [17] (fun iv wr=>∃ i:Nat,i≤L.length∧iv=.int .i64 i∧Grew w wr) (fun iv _=>L.length-(Go.RowKit.intOf iv).toNat)
 case atStart=>exact⟨0,Nat.zero_le _,rfl,Below.refl _ _⟩
 case round =>
  obtain⟨i,hil,rfl,hg⟩:=hrel
  by_cases hlt:i<L.length
  ·have hltM:i<M.length:=by have:=HMV.out.len;omega
   obtain⟨q,hA,hq,hm1⟩:=RdC.at24 hrL hg i hlt
   obtain⟨r,hB,hr,hm2⟩:=RdC.at24 hrM hg i hltM
   subst hA
   subst hB
   obtain⟨A2,c2,hmv⟩:=HMV.out.each i hlt hltM
   have hSok:=HL.out.ok L[i] (List.getElem_mem hlt)
   have hSat:=(HL.out.at_ L[i] (List.getElem_mem hlt)).gr hg
   have hTat:=(HM.out.at_ M[i] (List.getElem_mem hltM)).gr hg
   rw [hmv]at hm2 hTat
   have hi0:(0:Int)≤(i:Int):=by omega
   have hi1:(i:Int)<(L.length:Int):=by omega
   have e4:IntKind.i64.wrap ((i:Int)+1)=(i:Int)+1:=IntWalk.i64_in _ (by omega)
   clear hmv
   generalize L[i]=S at *
   obtain⟨w2,hw2,ht2,g2,z2⟩:=yO wr S.C rfl
   obtain⟨w3,hw3,ht3,g3,z3⟩:=yO w2 (S.mv A2 c2).C rfl
   have HW2:=hQ9 hw2
   have HT2:=hQ9 ht2
   have HW3:=hQ9 hw3
   have HT3:=hQ9 ht3
   have CS:=hQ9 (zna S hSok A2 c2 w3 (hSat.gr (zc g2 g3)) (hTat.gr (zc g2 g3)))
   have SIS:Hid ((Tryz.prog.info? 91).map (·.size)=some S.C.toList.length):=hQ9 zy
   have SIZ:Hid ((Tryz.prog.info? 91).map (·.size)=some S.C.size):=hQ9 zy
   have HON:=hQ9 S.one
   have SIT:Hid ((Tryz.prog.info? 91).map (·.size)=some (S.mv A2 c2).C.toList.length):=hQ9 zy
   have SIY:Hid ((Tryz.prog.info? 91).map (·.size)=some (S.mv A2 c2).C.size):=hQ9 zy
   have HOT:=hQ9 (S.mv A2 c2).one
   have hk1:=(z2.grew g3).cell
   have hk2:=z3.cell
   have hm2':=kV hm2 hr g2
   have G3:=zc hg (zc g2 g3)
   clear hw2 ht2 hw3 ht3 hSok hSat hTat z2 z3 hm2 g2 g3 hg
   go_wp2_with(first
    | (with_reducible refine wpList_load_mid rfl 91 (.tmp 20) rfl q (i*24) rfl S.C.toList _ hm1 hut rfl SIS.out ?_;simp only [Array.toArray_toList])
    | (with_reducible refine wpList_store_mid rfl 91 (.tmp 8) (.tmp 21) rfl wr.heap.size 0 S.C rfl rfl HT2.out SIZ.out HON.out ?_;rw [HW2.out])
    | (with_reducible refine wpList_load_mid rfl 91 (.tmp 24) rfl r (i*24) rfl (S.mv A2 c2).C.toList _ hm2' hut rfl SIT.out ?_;simp only [Array.toArray_toList])
    | (with_reducible refine wpList_store_mid rfl 91 (.tmp 9) (.tmp 25) rfl w2.heap.size 0 (S.mv A2 c2).C rfl rfl HT3.out SIY.out HOT.out ?_;rw [HW3.out])
    | (with_reducible refine wpList_load_mid rfl 91 (.tmp 8) rfl wr.heap.size 0 rfl S.C.toList _ hk1 hut rfl SIS.out ?_;simp only [Array.toArray_toList])
    | (with_reducible refine wpList_load_mid rfl 91 (.tmp 9) rfl w2.heap.size 0 rfl (S.mv A2 c2).C.toList _ hk2 hut rfl SIT.out ?_;simp only [Array.toArray_toList]))
   refine(CS.out).mono ?_
   rintro e w4 ⟨rfl,gg⟩
   go_wp2_with fail
   go_roundw
   case rel=>exact⟨i+1,by omega,by go_num,zc G3 gg⟩
   case measure=>simp [Go.RowKit.intOf];omega
  ·obtain rfl:i=L.length:=by omega
   go_wp2_with fail
   go_ret
   exact⟨rfl,hg⟩
theorem zcq (c:Cm) (A B:Option Addr) (k k':Nat) (L M:List SP) (hl:L.length≤100000) (hm:MvL L M) (w:World) (hL:Sps w A L) (hM:Sps w B M) :
 Calls Tryz.prog 32 #[.agg (ctC c A L.length k),.agg (ctC c B L.length k')] w fun e w'=>e=.returned (.bool true)∧Grew w w':=by
 have huc:=Tryz.underlying33
 have SIC:Hid ((Tryz.prog.info? 33).map (·.size)=some c.cells.toList.length):=hQ9 (show _=some 5 by kernel_rfl)
 have z0:=(Ag.new w 36 (ctC c A L.length k)).grew (ze (za _) (.cells (ctC c B L.length k') 36))
 have z1:=Ag.new (w.alloc (.cells (ctC c A L.length k) 36)) 36 (ctC c B L.length k')
 rw [zD]at z1
 have G0:=ze (ze (za w) (.cells (ctC c A L.length k) 36)) (.cells (ctC c B L.length k') 36)
 have CE:=hQ9 (zkr A B k k' L M hl hm _ (hL.gr G0) (hM.gr G0))
 have hm1:=yQ z0
 have hm2:=yQ z1
 have hc1:((w.alloc (.cells (ctC c A L.length k) 36)).alloc (.cells (ctC c B L.length k') 36)).cell? ⟨w.heap.size,5,none⟩=some (.slice A L.length k):=by simpa using z0.cell 5 _ rfl
 have hc2:((w.alloc (.cells (ctC c A L.length k) 36)).alloc (.cells (ctC c B L.length k') 36)).cell? ⟨w.heap.size+1,5,none⟩=some (.slice B L.length k'):=by simpa using z1.cell 5 _ rfl
 have HEQ:∀ W,(Op.equalIn 10000 33 (.agg c.cells) (.agg c.cells)).run Tryz.prog W=.ok true W:=fun W=>by
  have:=cm_eq c c W
  rw [show c.v=.agg c.cells from rfl]at this
  simpa using this
 clear z0 z1 hL hM hm
 generalize ctC c A L.length k=ga at *
 generalize ctC c B L.length k'=gb at *
 generalize c.cells=gc at *
 go_enter Tryz.func32,Tryz.ntmps32
 go_wp2_with(first
  | (with_reducible refine wpList_load_mid rfl 33 (.tmp 5) rfl w.heap.size 0 rfl gc.toList _ hm1 huc rfl SIC.out ?_;simp only [Array.toArray_toList])
  | (with_reducible refine wpList_load_mid rfl 33 (.tmp 7) rfl (w.heap.size+1) 0 rfl gc.toList _ hm2 huc rfl SIC.out ?_;simp only [Array.toArray_toList]))
 refine(CE.out).mono ?_
 rintro e w1 ⟨rfl,gg⟩
 go_wp2_with fail
 go_ret
 exact⟨rfl,zc G0 gg⟩
def StR.sp (r:StR) (A:Option Addr) (c:Nat):SP:=⟨r.cm,r.who,r.at_,r.g.1.1,r.g.1.2,r.g.2.1,A,c,r.g.2.2⟩
theorem StIn.sp_ok {r:StR} (h:StIn r) (A:Option Addr) (c:Nat):(r.sp A c).ok:=⟨h.cm,h.who,h.at_,h.sw,h.lf,h.s,by have:=h.len;show r.g.2.2.length≤1000;omega,h.l⟩
theorem StR.sp_C (r:StR) (A:Option Addr) (c:Nat):r.v (.slice A r.g.2.2.length c)=(r.sp A c).C:=rfl
structure StL (l:List StR) (M:List SP):Prop where
 len:M.length=l.length
 each:∀ k (h:k<l.length) (h':k<M.length),∃ A c,M[k]=l[k].sp A c
theorem StL.nil:StL [] []:=⟨rfl,fun k h=>absurd h (by simp)⟩
theorem StL.snoc {L:List StR} {M:List SP} (h:StL L M) (S:StR) (A:Option Addr) (c:Nat):StL (L++[S]) (M++[S.sp A c]):=by
 refine⟨by simp [h.len],fun k h1 h2=>?_⟩
 by_cases hk:k<L.length
 ·rw [List.getElem_append_left hk,List.getElem_append_left (by rw [h.len];exact hk)]
  exact h.each k hk _
 ·have hk':k=L.length:=by have h3:(L++[S]).length=L.length+1:=by simp
                          omega
  subst hk'
  refine⟨A,c,?_⟩
  have e1:(L++[S])[L.length]'h1=S:=by simp
  have e2:(M++[S.sp A c])[L.length]'h2=S.sp A c:=by
   have:∀ n (hn:n<(M++[S.sp A c]).length),n=M.length→(M++[S.sp A c])[n]=S.sp A c:=fun n hn e=>by subst e;simp
   exact this _ _ h.len.symm
  rw [e1,e2]
noncomputable def badF (r:List (List UInt8)):Option (List UInt8):=r.find? (fun f=>decide (stE f≠0))
theorem qR {r:List (List UInt8)} (h:∀ j (hj:j<r.length),stE r[j]=0):badF r=none:=by
 unfold badF
 rw [List.find?_eq_none]
 intro x hx
 obtain⟨j,hj,rfl⟩:=List.getElem_of_mem hx
 simp [h j hj]
theorem zeo {r:List (List UInt8)} {i:Nat} (hi:i<r.length) (h:∀ j (hj:j<r.length),j<i→stE r[j]=0) (hb:stE r[i]≠0):badF r=some r[i]:=by
 unfold badF
 rw [List.find?_eq_some_iff_getElem]
 refine⟨by simpa using hb,i,hi,rfl,fun j hj=>?_⟩
 simp [h j (by omega) hj]
theorem znb (c:Cm):Tryz.prog.built 36 [(0,.agg c.cells)]=some (ctC c none 0 0):=by kernel_rfl
theorem zks (f:List UInt8) (hf:f.length≤1000000) (w:World) (hS:Std w) :
 Calls Tryz.prog 81 #[.string ⟨f.toArray⟩] w fun e w'=>∃ S:SP,e=.returned (.tuple #[.agg S.C,.int .i64 (stE f)])∧S.ok∧S.at w'∧(∃ A c,S=(stO f).sp A c)∧(∀ ad,S.A=some ad→w.heap.size<ad.block)∧Grew w w':=by
 have CPS:=zh2 ⟨f.toArray⟩ (by simp [ByteArray.size];omega) w hS
 rw [show(⟨f.toArray⟩:ByteArray).data.toList=f from by simp]at CPS
 refine CPS.mono ?_
 rintro e w' ⟨⟨A5,c5,rfl,r5,hA5⟩,g5⟩
 exact⟨(stO f).sp A5 c5,by rw [StR.sp_C],(zm2 f).sp_ok A5 c5,r5,⟨A5,c5,rfl⟩,hA5,g5⟩
structure PRes (w:World) (c:Cm) (r:List (List UInt8)) (e:Ending) (w':World):Prop where
 yes:badF r=none→∃ B k M,e=.returned (.tuple #[.agg (ctC c B r.length k),.int .i64 0])∧StL (r.map stO) M∧Sps w' B M
 no:∀ f,badF r=some f→e=.returned (.tuple #[.agg (ctC Cm.zero none 0 0),.int .i64 (stE f)])
 gr:Grew w w'
structure PL (w w6:World) (b7:Nat) (c:Cm) (A:Option Addr) (F:List ByteArray) (r:List (List UInt8)) (i:Nat) (wr:World):Prop where
 out:∃ B k M,StL ((r.take i).map stO) M∧(∀ S∈M,S.ok)∧(∀ S∈M,S.at wr)∧(∀ S∈M,∀ ad,S.A=some ad→S.l=[]∨w6.heap.size≤ad.block) ∧
  (∀ S∈M,∀ ad,S.A=some ad→∀ g,(Value.slice B i k).ownBlock=some g→S.l=[]∨ad.block≠g)∧wr.ownsRow w6.heap.size 91 24 (.slice B i k) i (spL M).flatten∧Ag wr b7 (ctC c B i k).toList
 good:∀ j (h:j<r.length),j<i→stE r[j]=0
 rd:Rd wr wr.heap.size A (strL F)
 z:Ag wr w.heap.size (zS6:Array Value).toList
 gr:Grew w wr
 sz:w6.heap.size≤wr.heap.size
theorem zep {w w':World} {A:Option Addr} {l:List Nat} {S:Nat→Prop} (h:Rd w w.heap.size A (u64L l)) (k:Kp S w w') (hs:∀ ad,A=some ad→l=[]∨¬S ad.block):Rd w' w'.heap.size A (u64L l):=by
 cases l with
 | nil=>exact fun i hi=>absurd hi (by simp [u64L])
 | cons a r=>exact(h.kp k (Nat.le_refl _) (fun ad e _=>by rcases hs ad e with h | h;· cases h
                                                          ·exact h)).more k.size
theorem zdk (tj:ByteArray) (hz:tj.size≤1000000) (x:List UInt8) (r:List (List UInt8)) (hsp:splitF tj.data.toList=some (x::r)) (hl:(x::r).length≤4096) (hfl:∀ f∈x::r,f.length≤1000000) (c:Cm) (hx:parC x=(c,0)) (w:World) (hS:Std w) (hg8:5<w.heap.size) :
 Calls Tryz.prog 19 #[.string tj] w (PRes w c r):=by
 have hut:=Tryz.underlying36
 have hus:=Tryz.underlying91
 have huc:=Tryz.underlying33
 have z0:=Ag.new w 36 (zS6)
 have G0:=ze (za w) (.cells (zS6) 36)
 have CS:=hQ9 (fun W=>xx hsp hl (by omega) W)
 have CP:=hQ9 (fun W (h:Std W) (h8:5<W.heap.size)=>zek ⟨x.toArray⟩ (by have:=hfl x (by simp);simp [ByteArray.size];omega) W h h8)
 rw [show(⟨x.toArray⟩:ByteArray).data.toList=x from by simp,hx]at CP
 have HFL:=hQ9 (fun f (h:f∈r)=>hfl f (by simp [h]))
 have HS:=hQ9 hS
 have H8:=hQ9 hg8
 have hbz:=jB
 have bz:∀ W,(Instr.build 36 #[]).run Tryz.prog W=.ok (.agg (#[.int .i64 0,.int .i64 0,.int .i64 0,.int .i64 0,.int .i64 0,.slice none 0 0])) W:=fun W=>run_build W 36 _ _ hbz
 have HLL:=hQ9 hl
 clear hsp hfl hS hg8 hx hbz
 rw [show c.v=.agg c.cells from rfl]at CP
 go_enter Tryz.func19,Tryz.ntmps19
 go_wp2_with fail
 refine(CS.out _).mono ?_
 rintro e w1 ⟨⟨v,rfl,hrow⟩,g1⟩
 obtain⟨A,cA,rfl,hrd,hcA,hab⟩:=xK hrow
 have G1:=zc G0 g1
 have z1:=z0.grew g1
 have hlen1:(x::r).length=r.length+1:=by simp
 rw [hlen1]at hcA ⊢
 obtain⟨ad,rfl,hlt0,hc0⟩:=hrd 0 (by simp [strL,txt])
 have hx0:w1.cell? ad=some (.string ⟨x.toArray⟩):=by
  have:=hc0
  rw [show ad.add 0=ad from by simp [Addr.add]]at this
  rw [this];simp [strL,txt]
 have hl0:((r.length+1:Nat):Int)≠0:=by omega
 have e0:(((r.length+1:Nat):Int)==0)=false:=beq_false_of_ne hl0
 have hl1:(0:Int)<((r.length+1:Nat):Int):=by omega
 have hadl:=(hab ad rfl).2
 clear CS hrow g1 z0 G0 hc0 hl0 hab
 go_wp2_with fail
 refine(CP.out w1 (HS.out.grew G1) (Nat.lt_of_lt_of_le H8.out G1.size)).mono ?_
 rintro e w2 ⟨rfl,g2⟩
 obtain⟨w3,hw3,ht3,g3,z3⟩:=yz w2 33 #[.int .i64 0,.int .i64 0,.int .i64 0,.int .i64 0,.int .i64 0] c.cells rfl
 obtain⟨w4,hw4,ht4,g4,z4⟩:=yz w3 36 (zS6) (ctC c none 0 0) rfl
 have HW3:=hQ9 hw3
 have HT3:=hQ9 ht3
 have HW4:=hQ9 hw4
 have HT4:=hQ9 ht4
 have SI3:Hid ((Tryz.prog.info? 33).map (·.size)=some c.cells.size):=hQ9 (show _=some 5 by kernel_rfl)
 have SIC:Hid ((Tryz.prog.info? 33).map (·.size)=some c.cells.toList.length):=hQ9 (show _=some 5 by kernel_rfl)
 have HO3:Hid (c.cells.all (·.oneCell')=true):=hQ9 (by simp [Cm.cells,Value.oneCell'])
 have SI4:Hid ((Tryz.prog.info? 36).map (·.size)=some (ctC c none 0 0).size):=hQ9 zP
 have HO4:=hQ9 (yt c none 0 0)
 have HBU:=hQ9 (znb c)
 have hm3:=z3.cell
 have G4:=zc G1 (zc g2 (zc g3 g4))
 have g14:=zc g2 (zc g3 g4)
 have hrd4:=hrd.gr g14
 have zz4:=z1.grew g14
 have hb7:w1.heap.size≤w3.heap.size:=(zc g2 g3).size
 have hsz4:=g4.size
 have hz4:=z4.lt
 have hww:=z1.lt
 clear hw3 ht3 hw4 ht4 hrd z1 g2 g3 g4 g14 CP hx0 hl1 z3
 have hc1:(1:Int)≤((r.length+1:Nat):Int):=by omega
 have hc2:((r.length+1:Nat):Int)≤(cA:Int):=by omega
 by_cases hcap:cA=1
 ·have hr0:r=[]:=List.eq_nil_of_length_eq_zero (by omega)
  subst hcap
  subst hr0
  simp only [List.length_nil,Nat.zero_add]at *
  go_wp2_with(first
   | (with_reducible refine wpList_store_mid rfl 33 (.tmp 6) (.tmp 30) rfl w2.heap.size 0 c.cells rfl rfl HT3.out SI3.out HO3.out ?_;rw [HW3.out])
   | (with_reducible refine wpList_load_mid rfl 33 (.tmp 6) rfl w2.heap.size 0 rfl c.cells.toList _ hm3 huc rfl SIC.out ?_;simp only [Array.toArray_toList])
   | (with_reducible refine zI rfl 36 #[(0,.tmp 36)] rfl (ctC c none 0 0) ?_ ?_;· simpa [Act.eval,Act.put]using HBU.out)
   | (with_reducible refine wpList_store_mid rfl 36 (.tmp 7) (.tmp 37) rfl w3.heap.size 0 (ctC c none 0 0) rfl rfl HT4.out SI4.out HO4.out ?_;rw [HW4.out]))
  go_loopw [41] (fun iv wr=>iv=.int .i64 0∧wr=w4) (fun iv _=>0)
  case atStart=>exact⟨rfl,rfl⟩
  case round =>
   obtain⟨rfl,rfl⟩:=hrel
   have hm7:=z4.cell
   have SI7:Hid ((Tryz.prog.info? 36).map (·.size)=some (ctC c none 0 0).toList.length):=hQ9 zP
   have SI8:Hid ((Tryz.prog.info? 36).map (·.size)=some (ctC c none 0 0).size):=hQ9 zP
   have HO8:=hQ9 (yt c none 0 0)
   have HTH:Hid (wr.there w.heap.size 0 (ctC c none 0 0).size):=hQ9 (zz4.thereN 6 rfl)
   have zf:=Ag.set (vs:=(ctC c none 0 0).toList) zz4 rfl
   have Gf:=zg (o:=0) (b:=w.heap.size) (ctC c none 0 0).toList G4 (Nat.le_refl _)
   have HSPS:Hid (∀ W:World,Sps W none []):=hQ9 (fun W=>⟨fun k h=>absurd h (by simp [spL]),by simp,by simp⟩)
   go_wp2_with(first
    | (with_reducible refine wpList_load_mid rfl 36 (.tmp 7) rfl w3.heap.size 0 rfl (ctC c none 0 0).toList _ hm7 hut rfl SI7.out ?_;simp only [Array.toArray_toList])
    | (with_reducible refine wpList_store_mid rfl 36 (.tmp 2) (.tmp 61) rfl w.heap.size 0 (ctC c none 0 0) rfl rfl HTH.out SI8.out HO8.out ?_))
   exact bodyPost_ret (zh Tryz.results19 _ _ w.heap.size _ _ _ rfl rfl zf hut rfl zP) rfl ⟨fun _=>⟨none,0,[],rfl,StL.nil,HSPS.out _⟩,fun f hf=>(by simp [badF]at hf),Gf⟩
 have hcap':(1:Int)<(cA:Int):=by omega
 go_wp2_with(first
  | (with_reducible refine wpList_store_mid rfl 33 (.tmp 6) (.tmp 30) rfl w2.heap.size 0 c.cells rfl rfl HT3.out SI3.out HO3.out ?_;rw [HW3.out])
  | (with_reducible refine wpList_load_mid rfl 33 (.tmp 6) rfl w2.heap.size 0 rfl c.cells.toList _ hm3 huc rfl SIC.out ?_;simp only [Array.toArray_toList])
  | (with_reducible refine zI rfl 36 #[(0,.tmp 36)] rfl (ctC c none 0 0) ?_ ?_;· simpa [Act.eval,Act.put]using HBU.out)
  | (with_reducible refine wpList_store_mid rfl 36 (.tmp 7) (.tmp 37) rfl w3.heap.size 0 (ctC c none 0 0) rfl rfl HT4.out SI4.out HO4.out ?_;rw [HW4.out]))
 have HT:Hid (∀ j (hj:j<r.length) (y:World),Rd y y.heap.size (some ad) (strL (txt (x::r)))→y.cell? ⟨ad.block,ad.off+1+j,none⟩=some (.string ⟨r[j].toArray⟩)):=hQ9 (fun j hj y hR=>by
  obtain⟨ad',e',_,hc⟩:=hR (j+1) (by simp [strL,txt];omega)
  cases e'
  rw [show(⟨ad.block,ad.off+1+j,none⟩:Addr)=ad.add (j+1) from by unfold Addr.add;rw [if_neg (by omega)];simp<;>omega,hc]
  simp [strL,txt])
 obtain⟨i0,hi,hz0,hz1,hz2⟩:=info_parts jA
 have HRES:Hid (r.length+1≤4096):=hQ9 (by have:=HLL.out;simpa using this)
 clear hc1 hc2 hm3 HT3 HW3 SI3 HO3 HT4 HW4 SI4 HO4 HBU hcap hcap' hlen1 e0 hcA
 have HADL:=hQ9 hadl
 clear hadl
 go_loopw [41] (fun iv wr=>∃ i:Nat,i≤r.length∧iv=.int .i64 i∧PL w w4 w3.heap.size c (some ad) (txt (x::r)) r i wr) (fun iv _=>r.length-(Go.RowKit.intOf iv).toNat)
 case atStart=>exact⟨0,Nat.zero_le _,rfl,⟨⟨none,0,[],by simpa using StL.nil,by simp,by simp,by simp,by simp,by simpa [spL]using World.ownsRow_nil _ _ _ _,z4⟩,fun j _ h=>absurd h (by omega),hrd4,zz4,G4,Nat.le_refl _⟩⟩
 case round =>
  obtain⟨i,hil,rfl,⟨⟨B,k,M,hst,hok,hat,hlow,hne,hrow,hz7⟩,hgood,hrd,hzz,hg,hsz⟩⟩:=hrel
  by_cases hlt:i<r.length
  ·have hf:=HT.out i hlt wr hrd
   have hi0:(0:Int)≤(i:Int):=by omega
   have hi1:(i:Int)<(r.length:Int):=by omega
   have e4:IntKind.i64.wrap ((i:Int)+1)=(i:Int)+1:=IntWalk.i64_in _ (by have:=HRES.out;omega)
   have hlM0:M.length=i:=by rw [hst.len,List.length_map,List.length_take];omega
   have hts:(r.take (i+1)).map stO=(r.take i).map stO++[stO r[i]]:=by rw [List.take_succ_eq_append_getElem hlt,List.map_append];rfl
   have hbs:=zeo hlt hgood
   have hgn:stE r[i]=0→∀ j (h:j<r.length),j<i+1→stE r[j]=0:=fun h0 j h hj=>by
    rcases Nat.lt_or_ge j i with h1 | h1
    ·exact hgood j h h1
    ·have:j=i:=by omega
     subst this;exact h0
   have hfs:=HFL.out r[i] (List.getElem_mem hlt)
   generalize r[i]=f at *
   have CPS:=zks f hfs wr (HS.out.grew hg)
   have HLM:=hQ9 hlM0
   clear hlM0
   have HST:=hQ9 hst
   have HOK:=hQ9 hok
   have HAT:=hQ9 hat
   have HLW:=hQ9 hlow
   have HNE:=hQ9 hne
   have HTS:=hQ9 hts
   have HBS:=hQ9 hbs
   have HGN:=hQ9 hgn
   have HRD:=hQ9 hrd
   clear hst hok hat hlow hne hts hbs hgn hrd hgood hfs
   by_cases he:stE f=0
   ·rw [he]at CPS
    have HEE:=hQ9 he
    clear he
    have HCPS:=hQ9 CPS
    clear CPS
    go_wp2_with fail
    refine(HCPS.out).mono ?_
    rintro e w5 ⟨S,rfl,hSok,hSat,hSS,hA5,g5⟩
    obtain⟨w6,hw6,ht6,g6,z6⟩:=yO w5 S.C rfl
    have HW6:=hQ9 hw6
    have HT6:=hQ9 ht6
    have SIS:Hid ((Tryz.prog.info? 91).map (·.size)=some S.C.toList.length):=hQ9 zy
    have SIZ:Hid ((Tryz.prog.info? 91).map (·.size)=some S.C.size):=hQ9 zy
    have HON:=hQ9 S.one
    have hsz24:S.C.size=24:=rfl
    have g56:=zc g5 g6
    have G6:=zc hg g56
    have hm6:=z6.cell
    have hrow6:=zx (S:=fun _=>False) hrow (zJ g56) (fun g _ h=>h)
    have z67:=(hz7.grew g56).grew (ze (za _) (.cells S.C 91))
    have zz6:=hzz.grew g56
    have hc67:w6.cell? ⟨w3.heap.size,5,none⟩=some (.slice B i k):=by simpa using (hz7.grew g56).cell 5 _ rfl
    have HNE7:Hid (¬(Value.slice B i k).ownBlock=some w3.heap.size):=hQ9 (fun h=>by have:=zj hrow6 _ h;omega)
    have HE0:=hQ9 hSS
    have HA5:=hQ9 hA5
    have h46:w4.heap.size≤w6.heap.size:=Nat.le_trans hsz g56.size
    have g6':=g6
    have hrow0:=hrow
    have hb74:w3.heap.size<w4.heap.size:=hz4
    clear hw6 ht6 g5 g6 z6 hz7 hzz hg hSS hA5 bz
    go_wp2_with(first
     | (with_reducible refine wpList_store_mid rfl 91 (.tmp 10) (.tmp 48) rfl w5.heap.size 0 S.C rfl rfl HT6.out SIZ.out HON.out ?_;rw [HW6.out])
     | (with_reducible refine wpList_load_mid rfl 91 (.tmp 10) rfl w5.heap.size 0 rfl S.C.toList _ hm6 hus rfl SIS.out ?_;simp only [Array.toArray_toList])
     | (at_builtin;rw [xI];refine yn _ rfl (.tmp 55) (.tmp 57) 34 rfl w4.heap.size 91 i0 (.agg (#[.int .u64 0,.int .i64 0,.int .i64 0,.int .i64 0,.int .i64 0,.int .u64 0,.int .u64 0,.int .u64 0,.int .u64 0,.int .u64 0,.int .u64 0,.int .u64 0,.int .u64 0,.int .u64 0,.int .u64 0,.int .u64 0,.int .u64 0,.int .u64 0,.int .u64 0,.int .u64 0,.int .u64 0,.int .u64 0,.int .u64 0,.slice none 0 0]:Array Value)) 24 208 Tryz.underlying34 hi hz0 hz1 hz2 rfl (by decide) _ _ _ rfl (hrow6.alloc _) ⟨w6.heap.size,0,none⟩ 1 1 S.C.toList rfl rfl (fun j u hj=>yP w6 S.C 91 j u hj) S.one' (by have:=HRES.out;unfold maxLen;omega) (by have:=HRES.out;omega) (by simp;omega) ?_;intro v' w7 hown7 hgrow7 hob7;obtain⟨B',k',hv',hB',-,-,hbB'⟩:=xa (L:=M++[S]) (by rw [yU];exact hown7) (by simp [HLM.out]);subst hv';have z77:=z67.kp (yI (S:=fun j=>(Value.slice B i k).ownBlock=some j) (zU _ _) hgrow7 (fun g hg=>.inl hg)) HNE7.out;have hc7:w7.cell? ⟨w3.heap.size,5,none⟩=some (.slice B i k):=(by simpa using z77.cell 5 _ rfl);have fc7:w7.frozen? ⟨w3.heap.size,5,none⟩=false:=(by simpa using (z77.there 5 (by simp [ctC])).2)))
    have ga:=ze (za w6) (.cells S.C 91)
    have K8:=yi (S:=fun j=>j=w3.heap.size) (zU _ w7) (p:=⟨w3.heap.size,5,none⟩) (.inl rfl) (.slice B' (i+1) k')
    have hrg:∀ g,(Value.slice B i k).ownBlock=some g→w4.heap.size≤g∧g<w6.heap.size:=fun g h=>zN hrow6 g h
    have h47:w4.heap.size≤w7.heap.size:=by have:=hgrow7.size;simp at this;omega
    go_roundw
    case rel =>
     refine⟨i+1,by omega,by go_num,⟨⟨B',k',M++[S],?_,?_,?_,?_,?_,?_,?_⟩,HGN.out HEE.out,?_,?_,?_,?_⟩⟩
     ·obtain⟨A5,c5,rfl⟩:=HE0.out;rw [HTS.out];exact HST.out.snoc (stO f) A5 c5
     ·intro T hT
      rcases List.mem_append.1 hT with h | h
      ·exact HOK.out T h
      ·obtain rfl:T=S:=by simpa using h
       exact hSok
     ·intro T hT
      have h7:T.at w7∧(∀ ad2,T.A=some ad2→T.l=[]∨¬ad2.block=w3.heap.size):=by
       rcases List.mem_append.1 hT with h | h
       ·refine⟨yD (((HAT.out T h).gr g56).gr ga) hgrow7 (fun ad2 e g hg=>HNE.out T h ad2 e g hg),fun ad2 e=>?_⟩
        rcases HLW.out T h ad2 e with h1 | h1
        ·exact .inl h1
        ·exact .inr (by omega)
       ·obtain rfl:T=S:=by simpa using h
        refine⟨yD ((hSat.gr g6').gr ga) hgrow7 (fun ad2 e g hg=>?_),fun ad2 e=>?_⟩
        ·have h1:=HA5.out ad2 e
         have h2:=zN hrow0 g hg
         exact .inr (by omega)
        ·have h1:=HA5.out ad2 e
         exact .inr (by omega)
      exact zep h7.1 K8 h7.2
     ·intro T hT ad2 e
      rcases List.mem_append.1 hT with h | h
      ·exact HLW.out T h ad2 e
      ·obtain rfl:T=S:=by simpa using h
       have h1:=HA5.out ad2 e
       exact .inr (by omega)
     ·intro T hT ad2 e g hg
      have hlt9:T.l=[]∨ad2.block<w6.heap.size:=by
       rcases List.mem_append.1 hT with h | h
       ·exact at_lt ((HAT.out T h).gr g56) ad2 e
       ·obtain rfl:T=S:=by simpa using h
        exact at_lt (hSat.gr g6') ad2 e
      rcases hob7 with h3 | h3
      ·rw [h3]at hg
       rcases List.mem_append.1 hT with h | h
       ·exact HNE.out T h ad2 e g hg
       ·obtain rfl:T=S:=by simpa using h
        have h1:=HA5.out ad2 e
        have h2:=zN hrow0 g hg
        exact .inr (by omega)
      ·rw [h3]at hg;injection hg with hg;simp at hg
       rcases hlt9 with h1 | h1
       ·exact .inl h1
       ·exact .inr (by omega)
     ·rw [yU]
      exact zx hown7 K8 (fun g hg e=>by have:=zj hown7 g hg;omega)
     ·exact z77.set1 5 (.slice B' (i+1) k') (by simp [ctC])
     ·refine((jT ((HRD.out.gr g56).gr ga) hgrow7 (fun ad2 e h=>?_)).kp K8 (Nat.le_refl _) (fun ad2 e _ e'=>?_)).more K8.size
      ·cases e;have:=hrg _ h;omega
      ·have hadl:=HADL.out;cases e;omega
     ·exact((zz6.grew ga).kp (yI (S:=fun j=>(Value.slice B i k).ownBlock=some j) (zU _ _) hgrow7 (fun g hg=>.inl hg)) (fun h=>by have:=hrg _ h;omega)).kp K8 (fun e=>by omega)
     ·exact yj ((zc G6 ga).grown hgrow7 (by simp;have:=G6.size;omega) (fun g h=>by have:=hrg g h;omega)) K8 (by have:=G6.size;have:=hgrow7.size;simp at this;omega) (fun j e=>by have e':j=w3.heap.size:=e;omega)
     ·exact Nat.le_trans h47 K8.size
    case measure=>simp [Go.RowKit.intOf];omega
   ·have e9:(stE f != 0)=true:=by simpa using he
    have HBF:=hQ9 (HBS.out he)
    have HCPS:=hQ9 CPS
    clear CPS he
    generalize hev:stE f=ev at *
    have HEV:=hQ9 hev
    clear hev
    go_wp2_with fail
    refine(HCPS.out).mono ?_
    rintro e w5 ⟨S,rfl,hSok,hSat,hSS,hA5,g5⟩
    obtain⟨w6,hw6,ht6,g6,z6⟩:=yO w5 S.C rfl
    have HW6:=hQ9 hw6
    have HT6:=hQ9 ht6
    have SIS:Hid ((Tryz.prog.info? 91).map (·.size)=some S.C.toList.length):=hQ9 zy
    have SIZ:Hid ((Tryz.prog.info? 91).map (·.size)=some S.C.size):=hQ9 zy
    have HON:=hQ9 S.one
    have hsz24:S.C.size=24:=rfl
    have g56:=zc g5 g6
    have G6:=zc hg g56
    have hm6:=z6.cell
    have hrow6:=zx (S:=fun _=>False) hrow (zJ g56) (fun g _ h=>h)
    have z67:=(hz7.grew g56).grew (ze (za _) (.cells S.C 91))
    have zz6:=hzz.grew g56
    have hc67:w6.cell? ⟨w3.heap.size,5,none⟩=some (.slice B i k):=by simpa using (hz7.grew g56).cell 5 _ rfl
    have HNE7:Hid (¬(Value.slice B i k).ownBlock=some w3.heap.size):=hQ9 (fun h=>by have:=zj hrow6 _ h;omega)
    have HE0:=hQ9 hSS
    have HA5:=hQ9 hA5
    have h46:w4.heap.size≤w6.heap.size:=Nat.le_trans hsz g56.size
    have g6':=g6
    have hrow0:=hrow
    have hb74:w3.heap.size<w4.heap.size:=hz4
    clear hw6 ht6 g5 g6 z6 hz7 hzz hg hSS hA5
    have HTHz:Hid (w6.there w.heap.size 0 (zS6:Array Value).size):=hQ9 (zz6.thereN 6 rfl)
    have HSIz:Hid ((Tryz.prog.info? 36).map (·.size)=some (zS6:Array Value).size):=hQ9 zP
    have HONz:Hid ((#[.int .i64 0,.int .i64 0,.int .i64 0,.int .i64 0,.int .i64 0,.slice none 0 0]:Array Value).all (·.oneCell')=true):=hQ9 (by simp [Value.oneCell'])
    have zf:=Ag.set (vs:=(zS6:Array Value).toList) zz6 rfl
    have Gf:=zg (o:=0) (b:=w.heap.size) (zS6:Array Value).toList G6 (Nat.le_refl _)
    go_wp2_with(first
     | (with_reducible refine wpList_store_mid rfl 91 (.tmp 10) (.tmp 48) rfl w5.heap.size 0 S.C rfl rfl HT6.out SIZ.out HON.out ?_;rw [HW6.out])
     | (with_reducible refine wpList_store_mid rfl 36 (.tmp 2) (.tmp 52) rfl w.heap.size 0 (zS6) rfl rfl HTHz.out HSIz.out HONz.out ?_))
    exact bodyPost_ret (zh Tryz.results19 _ _ w.heap.size _ _ _ rfl rfl zf hut rfl zP) rfl ⟨fun h=>(by rw [HBF.out]at h;cases h),fun g hg=>(by rw [HBF.out]at hg;injection hg with hg;subst hg;rw [HEV.out];rfl),Gf⟩
  ·obtain rfl:i=r.length:=by omega
   have hlM:M.length=r.length:=by rw [hst.len,List.length_map,List.length_take];omega
   rw [List.take_length]at hst
   obtain⟨B2,k2,e2,hRd,-,-,hbB⟩:=xa hrow hlM
   injection e2 with e2 _ e3
   subst e2
   subst e3
   have HSP0:Sps wr B M:=⟨hRd,hok,hat⟩
   have hm7:=hz7.cell
   have SI7:Hid ((Tryz.prog.info? 36).map (·.size)=some (ctC c B r.length k).toList.length):=hQ9 zP
   have SI8:Hid ((Tryz.prog.info? 36).map (·.size)=some (ctC c B r.length k).size):=hQ9 zP
   have HO8:=hQ9 (yt c B r.length k)
   have HTH:Hid (wr.there w.heap.size 0 (ctC c B r.length k).size):=hQ9 (hzz.thereN 6 rfl)
   have zf:=Ag.set (vs:=(ctC c B r.length k).toList) hzz rfl
   have Gf:=zg (o:=0) (b:=w.heap.size) (ctC c B r.length k).toList hg (Nat.le_refl _)
   have HSPS:=hQ9 (HSP0.kpx (zG (ctC c B r.length k).toList w.heap.size 0 wr) (fun ad2 h e=>by have:=(hbB ad2 h).1;omega) (fun T hT ad2 h=>by rcases hlow T hT ad2 h with h1 | h1;exact .inl h1;exact .inr (fun e=>by omega)))
   go_wp2_with(first
    | (with_reducible refine wpList_load_mid rfl 36 (.tmp 7) rfl w3.heap.size 0 rfl (ctC c B r.length k).toList _ hm7 hut rfl SI7.out ?_;simp only [Array.toArray_toList])
    | (with_reducible refine wpList_store_mid rfl 36 (.tmp 2) (.tmp 61) rfl w.heap.size 0 (ctC c B r.length k) rfl rfl HTH.out SI8.out HO8.out ?_))
   exact bodyPost_ret (zh Tryz.results19 _ _ w.heap.size _ _ _ rfl rfl zf hut rfl zP) rfl ⟨fun _=>⟨B,k,M,rfl,hst,HSPS.out⟩,fun f hf=>(by rw [qR (fun j hj=>hgood j hj hj)]at hf;cases hf),Gf⟩
theorem zcr (tj:ByteArray) (ev:Int) (hev:ev≠0) (CS0:∀ W,Calls Tryz.prog 79 #[.string tj] W fun e w'=>e=.returned (.tuple #[.slice none 0 0,.int .i64 ev])∧Grew W w') (w:World) :
 Calls Tryz.prog 19 #[.string tj] w fun e w'=>e=.returned (.tuple #[.agg (ctC Cm.zero none 0 0),.int .i64 ev])∧Grew w w':=by
 have hut:=Tryz.underlying36
 have z0:=Ag.new w 36 (zS6:Array Value)
 have G0:=ze (za w) (.cells (zS6:Array Value) 36)
 have hbz:=jB
 have bz:∀ W,(Instr.build 36 #[]).run Tryz.prog W=.ok (.agg (#[.int .i64 0,.int .i64 0,.int .i64 0,.int .i64 0,.int .i64 0,.slice none 0 0]:Array Value)) W:=fun W=>run_build W 36 _ _ hbz
 have CS:=hQ9 CS0
 have e9:(ev != 0)=true:=by simpa using hev
 clear hbz CS0
 go_enter Tryz.func19,Tryz.ntmps19
 go_wp2_with fail
 refine(CS.out _).mono ?_
 rintro e w1 ⟨rfl,g1⟩
 have G1:=zc G0 g1
 have z1:=z0.grew g1
 clear CS g1 z0 G0
 have HTH:Hid (w1.there w.heap.size 0 (zS6:Array Value).size):=hQ9 (z1.thereN 6 rfl)
 have HSI:Hid ((Tryz.prog.info? 36).map (·.size)=some (zS6:Array Value).size):=hQ9 zP
 have HON:Hid ((#[.int .i64 0,.int .i64 0,.int .i64 0,.int .i64 0,.int .i64 0,.slice none 0 0]:Array Value).all (·.oneCell')=true):=hQ9 (by simp [Value.oneCell'])
 have zf:=Ag.set (vs:=(zS6:Array Value).toList) z1 rfl
 have Gf:=zg (o:=0) (b:=w.heap.size) (zS6:Array Value).toList G1 (Nat.le_refl _)
 go_wp2_with(with_reducible refine wpList_store_mid rfl 36 (.tmp 2) (.tmp 19) rfl w.heap.size 0 (zS6:Array Value) rfl rfl HTH.out HSI.out HON.out ?_)
 exact bodyPost_ret (zh Tryz.results19 _ _ w.heap.size _ _ _ rfl rfl zf hut rfl zP) rfl ⟨rfl,Gf⟩
theorem zh6 (tj:ByteArray) (hz:tj.size≤100000000) (hsp:splitF tj.data.toList=some []) (w:World) :
 Calls Tryz.prog 19 #[.string tj] w fun e w'=>e=.returned (.tuple #[.agg (ctC Cm.zero none 0 0),.int .i64 2])∧Grew w w':=by
 have hut:=Tryz.underlying36
 have z0:=Ag.new w 36 (zS6:Array Value)
 have G0:=ze (za w) (.cells (zS6:Array Value) 36)
 have hbz:=jB
 have bz:∀ W,(Instr.build 36 #[]).run Tryz.prog W=.ok (.agg (#[.int .i64 0,.int .i64 0,.int .i64 0,.int .i64 0,.int .i64 0,.slice none 0 0]:Array Value)) W:=fun W=>run_build W 36 _ _ hbz
 have CS:=hQ9 (fun W=>xx hsp (by simp) hz W)
 clear hbz
 go_enter Tryz.func19,Tryz.ntmps19
 go_wp2_with fail
 refine(CS.out _).mono ?_
 rintro e w1 ⟨⟨v,rfl,hrow⟩,g1⟩
 obtain⟨A,cA,rfl,hrd,hcA,hab⟩:=xK hrow
 have G1:=zc G0 g1
 have z1:=z0.grew g1
 clear CS g1 z0 G0 hrow hrd hcA hab
 have HTH:Hid (w1.there w.heap.size 0 (zS6:Array Value).size):=hQ9 (z1.thereN 6 rfl)
 have HSI:Hid ((Tryz.prog.info? 36).map (·.size)=some (zS6:Array Value).size):=hQ9 zP
 have HON:Hid ((#[.int .i64 0,.int .i64 0,.int .i64 0,.int .i64 0,.int .i64 0,.slice none 0 0]:Array Value).all (·.oneCell')=true):=hQ9 (by simp [Value.oneCell'])
 have zf:=Ag.set (vs:=(zS6:Array Value).toList) z1 rfl
 have Gf:=zg (o:=0) (b:=w.heap.size) (zS6:Array Value).toList G1 (Nat.le_refl _)
 go_wp2_with(with_reducible refine wpList_store_mid rfl 36 (.tmp 2) (.tmp 24) rfl w.heap.size 0 (zS6:Array Value) rfl rfl HTH.out HSI.out HON.out ?_)
 exact bodyPost_ret (zh Tryz.results19 _ _ w.heap.size _ _ _ rfl rfl zf hut rfl zP) rfl ⟨rfl,Gf⟩
theorem zh7 (tj:ByteArray) (hz:tj.size≤1000000) (x:List UInt8) (r:List (List UInt8)) (hsp:splitF tj.data.toList=some (x::r)) (hl:(x::r).length≤4096) (hfx:x.length≤1000000) (c:Cm) (ev:Int) (hev:ev≠0) (hx:parC x=(c,ev)) (w:World) (hS:Std w) (hg8:5<w.heap.size) :
 Calls Tryz.prog 19 #[.string tj] w fun e w'=>e=.returned (.tuple #[.agg (ctC Cm.zero none 0 0),.int .i64 ev])∧Grew w w':=by
 have hut:=Tryz.underlying36
 have z0:=Ag.new w 36 (zS6:Array Value)
 have G0:=ze (za w) (.cells (zS6:Array Value) 36)
 have hbz:=jB
 have bz:∀ W,(Instr.build 36 #[]).run Tryz.prog W=.ok (.agg (#[.int .i64 0,.int .i64 0,.int .i64 0,.int .i64 0,.int .i64 0,.slice none 0 0]:Array Value)) W:=fun W=>run_build W 36 _ _ hbz
 have huc:=Tryz.underlying33
 have CS:=hQ9 (fun W=>xx hsp hl (by omega) W)
 have CP:=hQ9 (fun W (h:Std W) (h8:5<W.heap.size)=>zek ⟨x.toArray⟩ (by simp [ByteArray.size];omega) W h h8)
 rw [show(⟨x.toArray⟩:ByteArray).data.toList=x from by simp,hx]at CP
 have HS:=hQ9 hS
 have H8:=hQ9 hg8
 have e9:(ev != 0)=true:=by simpa using hev
 clear hbz hsp hfx hS hg8 hx
 rw [show c.v=.agg c.cells from rfl]at CP
 go_enter Tryz.func19,Tryz.ntmps19
 go_wp2_with fail
 refine(CS.out _).mono ?_
 rintro e w1 ⟨⟨v,rfl,hrow⟩,g1⟩
 obtain⟨A,cA,rfl,hrd,hcA,hab⟩:=xK hrow
 have G1:=zc G0 g1
 have z1:=z0.grew g1
 have hlen1:(x::r).length=r.length+1:=by simp
 rw [hlen1]at hcA ⊢
 obtain⟨ad,rfl,hlt0,hc0⟩:=hrd 0 (by simp [strL,txt])
 have hx0:w1.cell? ad=some (.string ⟨x.toArray⟩):=by
  have:=hc0
  rw [show ad.add 0=ad from by simp [Addr.add]]at this
  rw [this];simp [strL,txt]
 have hl0:((r.length+1:Nat):Int)≠0:=by omega
 have e0:(((r.length+1:Nat):Int)==0)=false:=beq_false_of_ne hl0
 have hl1:(0:Int)<((r.length+1:Nat):Int):=by omega
 clear CS hrow g1 z0 G0 hc0 hl0 hab
 go_wp2_with fail
 refine(CP.out w1 (HS.out.grew G1) (Nat.lt_of_lt_of_le H8.out G1.size)).mono ?_
 rintro e w2 ⟨rfl,g2⟩
 obtain⟨w3,hw3,ht3,g3,z3⟩:=yz w2 33 #[.int .i64 0,.int .i64 0,.int .i64 0,.int .i64 0,.int .i64 0] c.cells rfl
 have HW3:=hQ9 hw3
 have HT3:=hQ9 ht3
 have SI3:Hid ((Tryz.prog.info? 33).map (·.size)=some c.cells.size):=hQ9 (show _=some 5 by kernel_rfl)
 have HO3:Hid (c.cells.all (·.oneCell')=true):=hQ9 (by simp [Cm.cells,Value.oneCell'])
 have G3:=zc G1 (zc g2 g3)
 have z9:=z1.grew (zc g2 g3)
 clear hw3 ht3 hrd z1 g2 g3 CP hx0 hl1 z3 hlen1 e0
 have HTH:Hid (w3.there w.heap.size 0 (zS6:Array Value).size):=hQ9 (z9.thereN 6 rfl)
 have HSI:Hid ((Tryz.prog.info? 36).map (·.size)=some (zS6:Array Value).size):=hQ9 zP
 have HON:Hid ((#[.int .i64 0,.int .i64 0,.int .i64 0,.int .i64 0,.int .i64 0,.slice none 0 0]:Array Value).all (·.oneCell')=true):=hQ9 (by simp [Value.oneCell'])
 have zf:=Ag.set (vs:=(zS6:Array Value).toList) z9 rfl
 have Gf:=zg (o:=0) (b:=w.heap.size) (zS6:Array Value).toList G3 (Nat.le_refl _)
 go_wp2_with(first
  | (with_reducible refine wpList_store_mid rfl 33 (.tmp 6) (.tmp 30) rfl w2.heap.size 0 c.cells rfl rfl HT3.out SI3.out HO3.out ?_;rw [HW3.out])
  | (with_reducible refine wpList_store_mid rfl 36 (.tmp 2) (.tmp 34) rfl w.heap.size 0 (zS6:Array Value) rfl rfl HTH.out HSI.out HON.out ?_))
 exact bodyPost_ret (zh Tryz.results19 _ _ w.heap.size _ _ _ rfl rfl zf hut rfl zP) rfl ⟨rfl,Gf⟩
theorem zi5 (f:List UInt8):f.length≤(fld f).length:=by
 induction f with
 | nil=>simp [xo]
 | cons c f ih =>
  rw [xe,List.length_append,List.length_cons]
  have:1≤(esc c).length:=by unfold esc;split<;>simp
  omega
theorem ji:∀(l:List (List UInt8)) (x:List UInt8),x∈l→x.length≤(joinF l).length
 | [],x,h=>by cases h
 | f::l,x,h=>by
  rw [yq,List.length_cons,List.length_append]
  rcases List.mem_cons.1 h with rfl | h
  ·have:=zi5 x;omega
  ·have:=ji l x h;omega
theorem zeq {S:List UInt8} {l:List (List UInt8)} (h:splitF S=some l) (x:List UInt8) (hx:x∈l):x.length≤S.length:=by
 rw [←xp S l h]
 exact ji l x hx
noncomputable def parCt (S:List UInt8):Except Int (Cm × List (List UInt8)) :=
 match splitF S with
 | none=>.error 2
 | some l =>
  if 4096<l.length then .error 4 else
  match l with
  | []=>.error 2
  | x::r =>
   if (parC x).2≠0 then .error (parC x).2 else
   match badF r with
   | none=>.ok ((parC x).1,r)
   | some f=>.error (stE f)
structure PaRes (S:List UInt8) (w:World) (e:Ending) (w':World):Prop where
 yes:∀ c r,parCt S=.ok (c,r)→∃ B k M,e=.returned (.tuple #[.agg (ctC c B r.length k),.int .i64 0])∧StL (r.map stO) M∧Sps w' B M
 no:∀ ev,parCt S=.error ev→e=.returned (.tuple #[.agg (ctC Cm.zero none 0 0),.int .i64 ev])
 gr:Grew w w'
theorem PaRes.ofErr {S:List UInt8} {w w':World} {e:Ending} {ev:Int} (hp:parCt S=.error ev) (he:e=.returned (.tuple #[.agg (ctC Cm.zero none 0 0),.int .i64 ev])) (g:Grew w w'):PaRes S w e w' :=
 ⟨fun c r h=>(by rw [hp]at h;cases h),fun v h=>(by rw [hp]at h;injection h with h;rw [←h];exact he),g⟩
theorem zcs (tj:ByteArray) (hz:tj.size≤1000000) (w:World) (hS:Std w) (hg8:5<w.heap.size) :
 Calls Tryz.prog 19 #[.string tj] w (PaRes tj.data.toList w):=by
 cases hsp:splitF tj.data.toList with
 | none=>exact(zcr tj 2 (by decide) (fun W=>zka hsp (by omega) W) w).mono fun e w' ⟨h,g⟩=>.ofErr (by simp [parCt,hsp]) h g
 | some l =>
  by_cases hl:4096<l.length
  ·have hko:∀ W,Calls Tryz.prog 79 #[.string tj] W fun e w'=>e=.returned (.tuple #[.slice none 0 0,.int .i64 4])∧Grew W w':=fun W =>
    (kP tj (by omega) W).mono fun e w' ⟨hh,hg⟩=>by
     refine⟨?_,hg⟩
     rcases hh with ⟨h1,_⟩ | ⟨l',h1,h2⟩
     ·rw [hsp]at h1;cases h1
     ·rw [hsp]at h1
      injection h1 with h1
      subst h1
      rcases h2 with ⟨_,h3⟩ | ⟨h3,_⟩
      ·exact h3
      ·omega
   exact(zcr tj 4 (by decide) hko w).mono fun e w' ⟨h,g⟩=>.ofErr (by simp [parCt,hsp,hl]) h g
  ·cases l with
   | nil=>exact(zh6 tj (by omega) hsp w).mono fun e w' ⟨h,g⟩=>.ofErr (by simp [parCt,hsp]) h g
   | cons x r =>
    have hfl:∀ f∈x::r,f.length≤1000000:=fun f hf=>by
     have:=zeq hsp f hf
     have h2:tj.data.toList.length=tj.size:=by simp
     omega
    obtain⟨c,ev,hx⟩:∃ c ev,parC x=(c,ev):=⟨_,_,rfl⟩
    by_cases hev:ev=0
    ·subst hev
     refine(zdk tj hz x r hsp (by omega) hfl c hx w hS hg8).mono fun e w' h=>?_
     refine⟨fun c2 r2 h2=>?_,fun ev h2=>?_,h.gr⟩
     ·unfold parCt at h2
      rw [hsp]at h2
      simp only [hl,hx,if_false,ne_eq,not_true_eq_false]at h2
      cases hb:badF r with
      | none =>
       rw [hb]at h2
       injection h2 with h2
       injection h2 with h3 h4
       subst h3
       subst h4
       exact h.yes hb
      | some f=>rw [hb]at h2;cases h2
     ·unfold parCt at h2
      rw [hsp]at h2
      simp only [hl,hx,if_false,ne_eq,not_true_eq_false]at h2
      cases hb:badF r with
      | none=>rw [hb]at h2;cases h2
      | some f =>
       rw [hb]at h2
       injection h2 with h2
       rw [←h2]
       exact h.no f hb
    ·exact(zh7 tj hz x r hsp (by omega) (hfl x (by simp)) c ev hev hx w hS hg8).mono fun e w' ⟨h,g⟩=>.ofErr (by unfold parCt;rw [hsp];simp only [hl,hx,if_false,ne_eq,hev,not_false_eq_true,if_true]) h g
theorem zsb (a b:Cm) (W:World):(Op.equalIn 10000 26 a.v b.v).run Tryz.prog W=.ok (decide (a=b)) W:=by
 obtain⟨a0,a1,a2,a3,a4⟩:=a
 obtain⟨b0,b1,b2,b3,b4⟩:=b
 unfold Cm.v
 rw [run_equalIn_struct W 9999 26 _ _ (by kernel_rfl) (by kernel_rfl)]
 simp only [Program.fieldsOf,Tryz.underlying26]
 rw [y8 (k:=.i64) (a:=a0) (b:=b0) (by simp) (by kernel_rfl) (by kernel_rfl) (by kernel_rfl),y8 (k:=.i64) (a:=a1) (b:=b1) (by simp) (by kernel_rfl) (by kernel_rfl) (by kernel_rfl),y8 (k:=.i64) (a:=a2) (b:=b2) (by simp) (by kernel_rfl) (by kernel_rfl) (by kernel_rfl),y8 (k:=.i64) (a:=a3) (b:=b3) (by simp) (by kernel_rfl) (by kernel_rfl) (by kernel_rfl),y8 (k:=.i64) (a:=a4) (b:=b4) (by simp) (by kernel_rfl) (by kernel_rfl) (by kernel_rfl)]
 simp only [Op.eqFields,Sem.run_pure,Cm.mk.injEq]
 by_cases h0:a0=b0<;>by_cases h1:a1=b1<;>by_cases h2:a2=b2<;>by_cases h3:a3=b3<;>by_cases h4:a4=b4<;>simp [h0,h1,h2,h3,h4]
theorem zkt (S:SP) (hS:S.ok) (A:Option Addr) (c:Nat) (w:World) (ha:S.at w) (hb:(S.mv A c).at w) :
 Calls Tryz.prog 107 #[.agg S.C,.agg (S.mv A c).C] w fun e w'=>e=.returned (.bool true)∧Grew w w' :=
 zkl S.cm S.who S.at_ S.sw S.lf S.s S.A A S.c c S.l (by have:=hS.len;omega) w ha hb
theorem yY:(Tryz.prog.info? 169).map (·.size)=some 24:=by kernel_rfl
theorem ze3 (c:Cm) (A B:Option Addr) (k k':Nat) (L M:List SP) (hl:L.length≤100000) (hm:MvL L M) (w:World) (hL:Sps w A L) (hM:Sps w B M) :
 Calls Tryz.prog 30 #[.agg (ctC c A L.length k),.agg (ctC c B L.length k')] w fun e w'=>e=.returned (.bool true)∧Grew w w':=by
 have huc:=Tryz.underlying26
 have hus:=Tryz.underlying169
 have SIC:Hid ((Tryz.prog.info? 26).map (·.size)=some c.cells.toList.length):=hQ9 (show _=some 5 by kernel_rfl)
 have z0:=(Ag.new w 29 (ctC c A L.length k)).grew (ze (za _) (.cells (ctC c B L.length k') 29))
 have z1:=Ag.new (w.alloc (.cells (ctC c A L.length k) 29)) 29 (ctC c B L.length k')
 rw [zD]at z1
 have G0:=ze (ze (za w) (.cells (ctC c A L.length k) 29)) (.cells (ctC c B L.length k') 29)
 have hm1:=yQ z0
 have hm2:=yQ z1
 have HL:=hQ9 (hL.gr G0)
 have HM:=hQ9 (hM.gr G0)
 have HMV:=hQ9 hm
 have hc1:((w.alloc (.cells (ctC c A L.length k) 29)).alloc (.cells (ctC c B L.length k') 29)).cell? ⟨w.heap.size,5,none⟩=some (.slice A L.length k):=by simpa using z0.cell 5 _ rfl
 have hc2:((w.alloc (.cells (ctC c A L.length k) 29)).alloc (.cells (ctC c B L.length k') 29)).cell? ⟨w.heap.size+1,5,none⟩=some (.slice B L.length k'):=by simpa using z1.cell 5 _ rfl
 have Z0:=hQ9 (fun y (g:Grew _ y)=>show y.cell? ⟨w.heap.size,5,none⟩=some (.slice A L.length k) from by simpa using (z0.grew g).cell 5 _ rfl)
 have Z1:=hQ9 (fun y (g:Grew _ y)=>show y.cell? ⟨w.heap.size+1,5,none⟩=some (.slice B L.length k') from by simpa using (z1.grew g).cell 5 _ rfl)
 have HEQ:∀ W,(Op.equalIn 10000 26 (.agg c.cells) (.agg c.cells)).run Tryz.prog W=.ok true W:=fun W=>by
  have:=zsb c c W
  rw [show c.v=.agg c.cells from rfl]at this
  simpa using this
 have e0:((L.length:Int) != (L.length:Int))=false:=by simp
 clear z0 z1 hL hM hm
 generalize ctC c A L.length k=ga at *
 generalize ctC c B L.length k'=gb at *
 generalize c.cells=gc at *
 go_enter Tryz.func30,Tryz.ntmps30
 go_wp2_with(first
  | (with_reducible refine wpList_load_mid rfl 26 (.tmp 6) rfl w.heap.size 0 rfl gc.toList _ hm1 huc rfl SIC.out ?_;simp only [Array.toArray_toList])
  | (with_reducible refine wpList_load_mid rfl 26 (.tmp 8) rfl (w.heap.size+1) 0 rfl gc.toList _ hm2 huc rfl SIC.out ?_;simp only [Array.toArray_toList]))
 generalize hw0:(w.alloc (.cells ga 29)).alloc (.cells gb 29)=w0 at *
 clear e0 hm1 hm2 hc1 hc2
 go_loopw [5] (fun iv wr=>∃ i:Nat,i≤L.length∧iv=.int .i64 i∧Grew w0 wr) (fun iv _=>L.length-(Go.RowKit.intOf iv).toNat)
 case atStart=>exact⟨0,Nat.zero_le _,rfl,Below.refl _ _⟩
 case round =>
  obtain⟨i,hil,rfl,hg⟩:=hrel
  have hd1:=Z0.out wr hg
  have hd2:=Z1.out wr hg
  by_cases hlt:i<L.length
  ·have hltM:i<M.length:=by have:=HMV.out.len;omega
   obtain⟨q,hA,hq,hm1⟩:=RdC.at24 HL.out.rd hg i hlt
   obtain⟨r,hB,hr,hm2⟩:=RdC.at24 HM.out.rd hg i hltM
   subst hA
   subst hB
   obtain⟨A2,c2,hmv⟩:=HMV.out.each i hlt hltM
   have hSok:=HL.out.ok L[i] (List.getElem_mem hlt)
   have hSat:=(HL.out.at_ L[i] (List.getElem_mem hlt)).gr hg
   have hTat:=(HM.out.at_ M[i] (List.getElem_mem hltM)).gr hg
   rw [hmv]at hm2 hTat
   have hi0:(0:Int)≤(i:Int):=by omega
   have hi1:(i:Int)<(L.length:Int):=by omega
   have e4:IntKind.i64.wrap ((i:Int)+1)=(i:Int)+1:=IntWalk.i64_in _ (by omega)
   clear hmv
   generalize L[i]=S at *
   have CS:Hid (∀ y:Gr wr,Calls Tryz.prog 107 #[.agg S.C,.agg (S.mv A2 c2).C] y.val fun e w'=>e=.returned (.bool true)∧Grew y.val w'):=hQ9 (fun y=>zkt S hSok A2 c2 y.val (hSat.gr y.ok) (hTat.gr y.ok))
   have SIS:Hid ((Tryz.prog.info? 169).map (·.size)=some S.C.toList.length):=hQ9 yY
   have SIT:Hid ((Tryz.prog.info? 169).map (·.size)=some (S.mv A2 c2).C.toList.length):=hQ9 yY
   have M1:Hid (∀ y:Gr wr,y.val.rangeAt q (i*24) S.C.toList):=hQ9 (fun y=>kV hm1 hq y.ok)
   have M2:Hid (∀ y:Gr wr,y.val.rangeAt r (i*24) (S.mv A2 c2).C.toList):=hQ9 (fun y=>kV hm2 hr y.ok)
   have q0:∀ y:Gr wr,y.val.cell? ⟨w.heap.size,5,none⟩=some (.slice (some ⟨q,0,none⟩) L.length k):=fun y=>Z0.out _ (zc hg y.ok)
   have q1:∀ y:Gr wr,y.val.cell? ⟨w.heap.size+1,5,none⟩=some (.slice (some ⟨r,0,none⟩) L.length k'):=fun y=>Z1.out _ (zc hg y.ok)
   clear hSok hSat hTat hm1 hm2
   go_wp2_with fail
   clear hd1 hd2
   refine zo (za wr) (by kernel_rfl) (by kernel_rfl) ?_
   repeat (first
    | (go_big_quiet_want;refine zw 169 (.tmp 30) rfl q (i*24) rfl S.C.toList _ M1.out hus rfl SIS.out ?_;simp only [Act.put,List.setIfInBounds_toArray,List.set_cons_succ,List.set_cons_zero,Array.toArray_toList];go_big_quiet_on)
    | (go_big_quiet_want;refine zw 169 (.tmp 35) rfl r (i*24) rfl (S.mv A2 c2).C.toList _ M2.out hus rfl SIT.out ?_;simp only [Act.put,List.setIfInBounds_toArray,List.set_cons_succ,List.set_cons_zero,Array.toArray_toList];go_big_quiet_on)
    | (go_big_quiet_step (first
     | (go_at_call 107;exact callG (CS.out _)))))
   refine wpQuiet_nil ?_
   rintro w8 ⟨⟨w8',g8⟩,rfl⟩
   go_wp2_with fail
   go_roundw
   case rel=>exact⟨i+1,by omega,by go_num,zc hg g8⟩
   case measure=>simp [Go.RowKit.intOf];omega
  ·obtain rfl:i=L.length:=by omega
   go_wp2_with fail
   go_ret
   exact⟨rfl,zc G0 hg⟩
theorem jW:Tryz.prog.built 29 []=some (#[.int .i64 0,.int .i64 0,.int .i64 0,.int .i64 0,.int .i64 0,.slice none 0 0]:Array Value):=by kernel_rfl
theorem ye:(Tryz.prog.info? 29).map (·.size)=some 6:=by kernel_rfl
theorem zku (c:Cm):Tryz.prog.built 29 [(0,.agg c.cells)]=some (ctC c none 0 0):=by kernel_rfl
theorem zi6:(Tryz.prog.info? 169).map (fun i=>(i.zero,i.size,i.bytes))=some (some (.agg (#[.int .u64 0,.int .i64 0,.int .i64 0,.int .i64 0,.int .i64 0,.int .u64 0,.int .u64 0,.int .u64 0,.int .u64 0,.int .u64 0,.int .u64 0,.int .u64 0,.int .u64 0,.int .u64 0,.int .u64 0,.int .u64 0,.int .u64 0,.int .u64 0,.int .u64 0,.int .u64 0,.int .u64 0,.int .u64 0,.int .u64 0,.slice none 0 0]:Array Value)),24,208):=by kernel_rfl
theorem zh8 (f:List UInt8) (hf:f.length≤1000000) (w:World) (hS:Std w) :
 Calls Tryz.prog 88 #[.string ⟨f.toArray⟩] w fun e w'=>∃ S:SP,e=.returned (.tuple #[.agg S.C,.int .i64 (stE f)])∧S.ok∧S.at w'∧(∃ A c,S=(stO f).sp A c)∧(∀ ad,S.A=some ad→w.heap.size<ad.block)∧Grew w w':=by
 have CPS:=zgw ⟨f.toArray⟩ (by simp [ByteArray.size];omega) w
 rw [show(⟨f.toArray⟩:ByteArray).data.toList=f from by simp]at CPS
 refine CPS.mono ?_
 rintro e w' ⟨⟨A5,c5,rfl,r5,hA5⟩,g5⟩
 exact⟨(stO f).sp A5 c5,by rw [StR.sp_C],(zm2 f).sp_ok A5 c5,r5,⟨A5,c5,rfl⟩,hA5,g5⟩
structure RPL (w w6:World) (b7:Nat) (c:Cm) (A:Option Addr) (F:List ByteArray) (r:List (List UInt8)) (i:Nat) (wr:World):Prop where
 out:∃ B k M,StL ((r.take i).map stO) M∧(∀ S∈M,S.ok)∧(∀ S∈M,S.at wr)∧(∀ S∈M,∀ ad,S.A=some ad→S.l=[]∨w6.heap.size≤ad.block) ∧
  (∀ S∈M,∀ ad,S.A=some ad→∀ g,(Value.slice B i k).ownBlock=some g→S.l=[]∨ad.block≠g)∧wr.ownsRow w6.heap.size 169 24 (.slice B i k) i (spL M).flatten∧Ag wr b7 (ctC c B i k).toList
 good:∀ j (h:j<r.length),j<i→stE r[j]=0
 rd:Rd wr wr.heap.size A (strL F)
 z:Ag wr w.heap.size (zS6:Array Value).toList
 gr:Grew w wr
 sz:w6.heap.size≤wr.heap.size
theorem zag (tj:ByteArray) (hz:tj.size≤1000000) (x:List UInt8) (r:List (List UInt8)) (hsp:splitF tj.data.toList=some (x::r)) (hl:(x::r).length≤4096) (hfl:∀ f∈x::r,f.length≤1000000) (c:Cm) (hx:parC x=(c,0)) (w:World) (hS:Std w) (hg8:5<w.heap.size) :
 Calls Tryz.prog 21 #[.string tj] w (PRes w c r):=by
 have hut:=Tryz.underlying29
 have hus:=Tryz.underlying169
 have huc:=Tryz.underlying26
 have z0:=Ag.new w 29 (zS6)
 have G0:=ze (za w) (.cells (zS6) 29)
 have CS:=hQ9 (fun W=>y9 hsp hl (by omega) W)
 have CP:=hQ9 (fun W=>zck ⟨x.toArray⟩ (by have:=hfl x (by simp);simp [ByteArray.size];omega) W)
 rw [show(⟨x.toArray⟩:ByteArray).data.toList=x from by simp,hx]at CP
 have HFL:=hQ9 (fun f (h:f∈r)=>hfl f (by simp [h]))
 have HS:=hQ9 hS
 have H8:=hQ9 hg8
 have hbz:=jW
 have bz:∀ W,(Instr.build 29 #[]).run Tryz.prog W=.ok (.agg (#[.int .i64 0,.int .i64 0,.int .i64 0,.int .i64 0,.int .i64 0,.slice none 0 0])) W:=fun W=>run_build W 29 _ _ hbz
 have HLL:=hQ9 hl
 clear hsp hfl hS hg8 hx hbz
 rw [show c.v=.agg c.cells from rfl]at CP
 go_enter Tryz.func21,Tryz.ntmps21
 go_wp2_with fail
 refine(CS.out _).mono ?_
 rintro e w1 ⟨⟨v,rfl,hrow⟩,g1⟩
 obtain⟨A,cA,rfl,hrd,hcA,hab⟩:=xK hrow
 have G1:=zc G0 g1
 have z1:=z0.grew g1
 have hlen1:(x::r).length=r.length+1:=by simp
 rw [hlen1]at hcA ⊢
 obtain⟨ad,rfl,hlt0,hc0⟩:=hrd 0 (by simp [strL,txt])
 have hx0:w1.cell? ad=some (.string ⟨x.toArray⟩):=by
  have:=hc0
  rw [show ad.add 0=ad from by simp [Addr.add]]at this
  rw [this];simp [strL,txt]
 have hl0:((r.length+1:Nat):Int)≠0:=by omega
 have e0:(((r.length+1:Nat):Int)==0)=false:=beq_false_of_ne hl0
 have hl1:(0:Int)<((r.length+1:Nat):Int):=by omega
 have hadl:=(hab ad rfl).2
 clear CS hrow g1 z0 G0 hc0 hl0 hab
 go_wp2_with fail
 refine(CP.out w1).mono ?_
 rintro e w2 ⟨rfl,g2⟩
 obtain⟨w3,hw3,ht3,g3,z3⟩:=yz w2 26 #[.int .i64 0,.int .i64 0,.int .i64 0,.int .i64 0,.int .i64 0] c.cells rfl
 obtain⟨w4,hw4,ht4,g4,z4⟩:=yz w3 29 (zS6) (ctC c none 0 0) rfl
 have HW3:=hQ9 hw3
 have HT3:=hQ9 ht3
 have HW4:=hQ9 hw4
 have HT4:=hQ9 ht4
 have SI3:Hid ((Tryz.prog.info? 26).map (·.size)=some c.cells.size):=hQ9 (show _=some 5 by kernel_rfl)
 have SIC:Hid ((Tryz.prog.info? 26).map (·.size)=some c.cells.toList.length):=hQ9 (show _=some 5 by kernel_rfl)
 have HO3:Hid (c.cells.all (·.oneCell')=true):=hQ9 (by simp [Cm.cells,Value.oneCell'])
 have SI4:Hid ((Tryz.prog.info? 29).map (·.size)=some (ctC c none 0 0).size):=hQ9 ye
 have HO4:=hQ9 (yt c none 0 0)
 have HBU:=hQ9 (zku c)
 have hm3:=z3.cell
 have G4:=zc G1 (zc g2 (zc g3 g4))
 have g14:=zc g2 (zc g3 g4)
 have hrd4:=hrd.gr g14
 have zz4:=z1.grew g14
 have hb7:w1.heap.size≤w3.heap.size:=(zc g2 g3).size
 have hsz4:=g4.size
 have hz4:=z4.lt
 have hww:=z1.lt
 clear hw3 ht3 hw4 ht4 hrd z1 g2 g3 g4 g14 CP hx0 hl1 z3
 have hc1:(1:Int)≤((r.length+1:Nat):Int):=by omega
 have hc2:((r.length+1:Nat):Int)≤(cA:Int):=by omega
 go_wp2_with(first
  | (with_reducible refine wpList_store_mid rfl 26 (.tmp 6) (.tmp 29) rfl w2.heap.size 0 c.cells rfl rfl HT3.out SI3.out HO3.out ?_;rw [HW3.out])
  | (with_reducible refine wpList_load_mid rfl 26 (.tmp 6) rfl w2.heap.size 0 rfl c.cells.toList _ hm3 huc rfl SIC.out ?_;simp only [Array.toArray_toList])
  | (with_reducible refine zI rfl 29 #[(0,.tmp 35)] rfl (ctC c none 0 0) ?_ ?_;· simpa [Act.eval,Act.put]using HBU.out)
  | (with_reducible refine wpList_store_mid rfl 29 (.tmp 7) (.tmp 36) rfl w3.heap.size 0 (ctC c none 0 0) rfl rfl HT4.out SI4.out HO4.out ?_;rw [HW4.out]))
 have HT:Hid (∀ j (hj:j<r.length) (y:World),Rd y y.heap.size (some ad) (strL (txt (x::r)))→y.cell? ⟨ad.block,ad.off+1+j,none⟩=some (.string ⟨r[j].toArray⟩)):=hQ9 (fun j hj y hR=>by
  obtain⟨ad',e',_,hc⟩:=hR (j+1) (by simp [strL,txt];omega)
  cases e'
  rw [show(⟨ad.block,ad.off+1+j,none⟩:Addr)=ad.add (j+1) from by unfold Addr.add;rw [if_neg (by omega)];simp<;>omega,hc]
  simp [strL,txt])
 obtain⟨i0,hi,hz0,hz1,hz2⟩:=info_parts zi6
 have HRES:Hid (r.length+1≤4096):=hQ9 (by have:=HLL.out;simpa using this)
 clear hc1 hc2 hm3 HT3 HW3 SI3 HO3 HT4 HW4 SI4 HO4 HBU hlen1 e0 hcA
 have HADL:=hQ9 hadl
 clear hadl
 go_loopw [8] (fun iv wr=>∃ i j:Nat,i≤r.length∧j=i+1∧iv=.int .i64 j∧RPL w w4 w3.heap.size c (some ad) (txt (x::r)) r i wr) (fun iv _=>r.length+1-(Go.RowKit.intOf iv).toNat)
 case atStart=>exact⟨0,1,Nat.zero_le _,rfl,rfl,⟨⟨none,0,[],by simpa using StL.nil,by simp,by simp,by simp,by simp,by simpa [spL]using World.ownsRow_nil _ _ _ _,z4⟩,fun j _ h=>absurd h (by omega),hrd4,zz4,G4,Nat.le_refl _⟩⟩
 case round =>
  obtain⟨i,j,hil,hj,rfl,⟨⟨B,k,M,hst,hok,hat,hlow,hne,hrow,hz7⟩,hgood,hrd,hzz,hg,hsz⟩⟩:=hrel
  by_cases hlt:i<r.length
  ·have hf:=HT.out i hlt wr hrd
   have hi0:(0:Int)≤(j:Int):=by omega
   have hi2:(j:Int)<((r.length+1:Nat):Int):=by omega
   rw [show ad.off+1+i=ad.off+(i+1) from by omega]at hf
   have hi1:(j:Int)<(r.length:Int)+1:=by omega
   have e5:IntKind.i64.wrap ((i:Int)+1+1)=(i:Int)+1+1:=IntWalk.i64_in _ (by have:=HRES.out;omega)
   have e4:IntKind.i64.wrap ((j:Int)+1)=(j:Int)+1:=IntWalk.i64_in _ (by have:=HRES.out;omega)
   have hlM0:M.length=i:=by rw [hst.len,List.length_map,List.length_take];omega
   have hts:(r.take (i+1)).map stO=(r.take i).map stO++[stO r[i]]:=by rw [List.take_succ_eq_append_getElem hlt,List.map_append];rfl
   have hbs:=zeo hlt hgood
   have hgn:stE r[i]=0→∀ j (h:j<r.length),j<i+1→stE r[j]=0:=fun h0 j h hj=>by
    rcases Nat.lt_or_ge j i with h1 | h1
    ·exact hgood j h h1
    ·have:j=i:=by omega
     subst this;exact h0
   have hfs:=HFL.out r[i] (List.getElem_mem hlt)
   generalize r[i]=f at *
   have CPS:=zh8 f hfs wr (HS.out.grew hg)
   have HLM:=hQ9 hlM0
   clear hlM0
   have HST:=hQ9 hst
   have HOK:=hQ9 hok
   have HAT:=hQ9 hat
   have HLW:=hQ9 hlow
   have HNE:=hQ9 hne
   have HTS:=hQ9 hts
   have HBS:=hQ9 hbs
   have HGN:=hQ9 hgn
   have HRD:=hQ9 hrd
   clear hst hok hat hlow hne hts hbs hgn hrd hgood hfs
   by_cases he:stE f=0
   ·rw [he]at CPS
    have HEE:=hQ9 he
    clear he
    have HCPS:=hQ9 CPS
    clear CPS
    go_wp2_with fail
    refine(HCPS.out).mono ?_
    rintro e w5 ⟨S,rfl,hSok,hSat,hSS,hA5,g5⟩
    obtain⟨w6,hw6,ht6,g6,z6⟩:=yz w5 169 (zS24:Array Value) S.C rfl
    have HW6:=hQ9 hw6
    have HT6:=hQ9 ht6
    have SIS:Hid ((Tryz.prog.info? 169).map (·.size)=some S.C.toList.length):=hQ9 yY
    have SIZ:Hid ((Tryz.prog.info? 169).map (·.size)=some S.C.size):=hQ9 yY
    have HON:=hQ9 S.one
    have hsz24:S.C.size=24:=rfl
    have g56:=zc g5 g6
    have G6:=zc hg g56
    have hm6:=z6.cell
    have hrow6:=zx (S:=fun _=>False) hrow (zJ g56) (fun g _ h=>h)
    have z67:=(hz7.grew g56).grew (ze (za _) (.cells S.C 169))
    have zz6:=hzz.grew g56
    have hc67:w6.cell? ⟨w3.heap.size,5,none⟩=some (.slice B i k):=by simpa using (hz7.grew g56).cell 5 _ rfl
    have HNE7:Hid (¬(Value.slice B i k).ownBlock=some w3.heap.size):=hQ9 (fun h=>by have:=zj hrow6 _ h;omega)
    have HE0:=hQ9 hSS
    have HA5:=hQ9 hA5
    have h46:w4.heap.size≤w6.heap.size:=Nat.le_trans hsz g56.size
    have g6':=g6
    have hrow0:=hrow
    have hb74:w3.heap.size<w4.heap.size:=hz4
    clear hw6 ht6 g5 g6 z6 hz7 hzz hg hSS hA5 bz
    go_wp2_with(first
     | (with_reducible refine wpList_store_mid rfl 169 (.tmp 9) (.tmp 49) rfl w5.heap.size 0 S.C rfl rfl HT6.out SIZ.out HON.out ?_;rw [HW6.out])
     | (with_reducible refine wpList_load_mid rfl 169 (.tmp 9) rfl w5.heap.size 0 rfl S.C.toList _ hm6 hus rfl SIS.out ?_;simp only [Array.toArray_toList])
     | (at_builtin;rw [xI];refine yn _ rfl (.tmp 56) (.tmp 58) 27 rfl w4.heap.size 169 i0 (.agg (#[.int .u64 0,.int .i64 0,.int .i64 0,.int .i64 0,.int .i64 0,.int .u64 0,.int .u64 0,.int .u64 0,.int .u64 0,.int .u64 0,.int .u64 0,.int .u64 0,.int .u64 0,.int .u64 0,.int .u64 0,.int .u64 0,.int .u64 0,.int .u64 0,.int .u64 0,.int .u64 0,.int .u64 0,.int .u64 0,.int .u64 0,.slice none 0 0]:Array Value)) 24 208 Tryz.underlying27 hi hz0 hz1 hz2 rfl (by decide) _ _ _ rfl (hrow6.alloc _) ⟨w6.heap.size,0,none⟩ 1 1 S.C.toList rfl rfl (fun j u hj=>yP w6 S.C 169 j u hj) S.one' (by have:=HRES.out;unfold maxLen;omega) (by have:=HRES.out;omega) (by simp;omega) ?_;intro v' w7 hown7 hgrow7 hob7;obtain⟨B',k',hv',hB',-,-,hbB'⟩:=xa (L:=M++[S]) (by rw [yU];exact hown7) (by simp [HLM.out]);subst hv';have z77:=z67.kp (yI (S:=fun j=>(Value.slice B i k).ownBlock=some j) (zU _ _) hgrow7 (fun g hg=>.inl hg)) HNE7.out;have hc7:w7.cell? ⟨w3.heap.size,5,none⟩=some (.slice B i k):=(by simpa using z77.cell 5 _ rfl);have fc7:w7.frozen? ⟨w3.heap.size,5,none⟩=false:=(by simpa using (z77.there 5 (by simp [ctC])).2)))
    have ga:=ze (za w6) (.cells S.C 169)
    have K8:=yi (S:=fun j=>j=w3.heap.size) (zU _ w7) (p:=⟨w3.heap.size,5,none⟩) (.inl rfl) (.slice B' (i+1) k')
    have hrg:∀ g,(Value.slice B i k).ownBlock=some g→w4.heap.size≤g∧g<w6.heap.size:=fun g h=>zN hrow6 g h
    have h47:w4.heap.size≤w7.heap.size:=by have:=hgrow7.size;simp at this;omega
    go_roundw
    case rel =>
     refine⟨i+1,j+1,by omega,by omega,by go_num,⟨⟨B',k',M++[S],?_,?_,?_,?_,?_,?_,?_⟩,HGN.out HEE.out,?_,?_,?_,?_⟩⟩
     ·obtain⟨A5,c5,rfl⟩:=HE0.out;rw [HTS.out];exact HST.out.snoc (stO f) A5 c5
     ·intro T hT
      rcases List.mem_append.1 hT with h | h
      ·exact HOK.out T h
      ·obtain rfl:T=S:=by simpa using h
       exact hSok
     ·intro T hT
      have h7:T.at w7∧(∀ ad2,T.A=some ad2→T.l=[]∨¬ad2.block=w3.heap.size):=by
       rcases List.mem_append.1 hT with h | h
       ·refine⟨yD (((HAT.out T h).gr g56).gr ga) hgrow7 (fun ad2 e g hg=>HNE.out T h ad2 e g hg),fun ad2 e=>?_⟩
        rcases HLW.out T h ad2 e with h1 | h1
        ·exact .inl h1
        ·exact .inr (by omega)
       ·obtain rfl:T=S:=by simpa using h
        refine⟨yD ((hSat.gr g6').gr ga) hgrow7 (fun ad2 e g hg=>?_),fun ad2 e=>?_⟩
        ·have h1:=HA5.out ad2 e
         have h2:=zN hrow0 g hg
         exact .inr (by omega)
        ·have h1:=HA5.out ad2 e
         exact .inr (by omega)
      exact zep h7.1 K8 h7.2
     ·intro T hT ad2 e
      rcases List.mem_append.1 hT with h | h
      ·exact HLW.out T h ad2 e
      ·obtain rfl:T=S:=by simpa using h
       have h1:=HA5.out ad2 e
       exact .inr (by omega)
     ·intro T hT ad2 e g hg
      have hlt9:T.l=[]∨ad2.block<w6.heap.size:=by
       rcases List.mem_append.1 hT with h | h
       ·exact at_lt ((HAT.out T h).gr g56) ad2 e
       ·obtain rfl:T=S:=by simpa using h
        exact at_lt (hSat.gr g6') ad2 e
      rcases hob7 with h3 | h3
      ·rw [h3]at hg
       rcases List.mem_append.1 hT with h | h
       ·exact HNE.out T h ad2 e g hg
       ·obtain rfl:T=S:=by simpa using h
        have h1:=HA5.out ad2 e
        have h2:=zN hrow0 g hg
        exact .inr (by omega)
      ·rw [h3]at hg;injection hg with hg;simp at hg
       rcases hlt9 with h1 | h1
       ·exact .inl h1
       ·exact .inr (by omega)
     ·rw [yU]
      exact zx hown7 K8 (fun g hg e=>by have:=zj hown7 g hg;omega)
     ·exact z77.set1 5 (.slice B' (i+1) k') (by simp [ctC])
     ·refine((jT ((HRD.out.gr g56).gr ga) hgrow7 (fun ad2 e h=>?_)).kp K8 (Nat.le_refl _) (fun ad2 e _ e'=>?_)).more K8.size
      ·cases e;have:=hrg _ h;omega
      ·have hadl:=HADL.out;cases e;omega
     ·exact((zz6.grew ga).kp (yI (S:=fun j=>(Value.slice B i k).ownBlock=some j) (zU _ _) hgrow7 (fun g hg=>.inl hg)) (fun h=>by have:=hrg _ h;omega)).kp K8 (fun e=>by omega)
     ·exact yj ((zc G6 ga).grown hgrow7 (by simp;have:=G6.size;omega) (fun g h=>by have:=hrg g h;omega)) K8 (by have:=G6.size;have:=hgrow7.size;simp at this;omega) (fun j e=>by have e':j=w3.heap.size:=e;omega)
     ·exact Nat.le_trans h47 K8.size
    case measure=>simp [Go.RowKit.intOf];omega
   ·have e9:(stE f != 0)=true:=by simpa using he
    have HBF:=hQ9 (HBS.out he)
    have HCPS:=hQ9 CPS
    clear CPS he
    generalize hev:stE f=ev at *
    have HEV:=hQ9 hev
    clear hev
    go_wp2_with fail
    refine(HCPS.out).mono ?_
    rintro e w5 ⟨S,rfl,hSok,hSat,hSS,hA5,g5⟩
    obtain⟨w6,hw6,ht6,g6,z6⟩:=yz w5 169 (zS24:Array Value) S.C rfl
    have HW6:=hQ9 hw6
    have HT6:=hQ9 ht6
    have SIS:Hid ((Tryz.prog.info? 169).map (·.size)=some S.C.toList.length):=hQ9 yY
    have SIZ:Hid ((Tryz.prog.info? 169).map (·.size)=some S.C.size):=hQ9 yY
    have HON:=hQ9 S.one
    have hsz24:S.C.size=24:=rfl
    have g56:=zc g5 g6
    have G6:=zc hg g56
    have hm6:=z6.cell
    have hrow6:=zx (S:=fun _=>False) hrow (zJ g56) (fun g _ h=>h)
    have z67:=(hz7.grew g56).grew (ze (za _) (.cells S.C 169))
    have zz6:=hzz.grew g56
    have hc67:w6.cell? ⟨w3.heap.size,5,none⟩=some (.slice B i k):=by simpa using (hz7.grew g56).cell 5 _ rfl
    have HNE7:Hid (¬(Value.slice B i k).ownBlock=some w3.heap.size):=hQ9 (fun h=>by have:=zj hrow6 _ h;omega)
    have HE0:=hQ9 hSS
    have HA5:=hQ9 hA5
    have h46:w4.heap.size≤w6.heap.size:=Nat.le_trans hsz g56.size
    have g6':=g6
    have hrow0:=hrow
    have hb74:w3.heap.size<w4.heap.size:=hz4
    clear hw6 ht6 g5 g6 z6 hz7 hzz hg hSS hA5
    have HTHz:Hid (w6.there w.heap.size 0 (zS6:Array Value).size):=hQ9 (zz6.thereN 6 rfl)
    have HSIz:Hid ((Tryz.prog.info? 29).map (·.size)=some (zS6:Array Value).size):=hQ9 ye
    have HONz:Hid ((#[.int .i64 0,.int .i64 0,.int .i64 0,.int .i64 0,.int .i64 0,.slice none 0 0]:Array Value).all (·.oneCell')=true):=hQ9 (by simp [Value.oneCell'])
    have zf:=Ag.set (vs:=(zS6:Array Value).toList) zz6 rfl
    have Gf:=zg (o:=0) (b:=w.heap.size) (zS6:Array Value).toList G6 (Nat.le_refl _)
    go_wp2_with(first
     | (with_reducible refine wpList_store_mid rfl 169 (.tmp 9) (.tmp 49) rfl w5.heap.size 0 S.C rfl rfl HT6.out SIZ.out HON.out ?_;rw [HW6.out])
     | (with_reducible refine wpList_store_mid rfl 29 (.tmp 2) (.tmp 53) rfl w.heap.size 0 (zS6) rfl rfl HTHz.out HSIz.out HONz.out ?_))
    exact bodyPost_ret (zh Tryz.results21 _ _ w.heap.size _ _ _ rfl rfl zf hut rfl ye) rfl ⟨fun h=>(by rw [HBF.out]at h;cases h),fun g hg=>(by rw [HBF.out]at hg;injection hg with hg;subst hg;rw [HEV.out];rfl),Gf⟩
  ·obtain rfl:i=r.length:=by omega
   subst hj
   have hlM:M.length=r.length:=by rw [hst.len,List.length_map,List.length_take];omega
   rw [List.take_length]at hst
   obtain⟨B2,k2,e2,hRd,-,-,hbB⟩:=xa hrow hlM
   injection e2 with e2 _ e3
   subst e2
   subst e3
   have HSP0:Sps wr B M:=⟨hRd,hok,hat⟩
   have hm7:=hz7.cell
   have SI7:Hid ((Tryz.prog.info? 29).map (·.size)=some (ctC c B r.length k).toList.length):=hQ9 ye
   have SI8:Hid ((Tryz.prog.info? 29).map (·.size)=some (ctC c B r.length k).size):=hQ9 ye
   have HO8:=hQ9 (yt c B r.length k)
   have HTH:Hid (wr.there w.heap.size 0 (ctC c B r.length k).size):=hQ9 (hzz.thereN 6 rfl)
   have zf:=Ag.set (vs:=(ctC c B r.length k).toList) hzz rfl
   have Gf:=zg (o:=0) (b:=w.heap.size) (ctC c B r.length k).toList hg (Nat.le_refl _)
   have HSPS:=hQ9 (HSP0.kpx (zG (ctC c B r.length k).toList w.heap.size 0 wr) (fun ad2 h e=>by have:=(hbB ad2 h).1;omega) (fun T hT ad2 h=>by rcases hlow T hT ad2 h with h1 | h1;exact .inl h1;exact .inr (fun e=>by omega)))
   go_wp2_with(first
    | (with_reducible refine wpList_load_mid rfl 29 (.tmp 7) rfl w3.heap.size 0 rfl (ctC c B r.length k).toList _ hm7 hut rfl SI7.out ?_;simp only [Array.toArray_toList])
    | (with_reducible refine wpList_store_mid rfl 29 (.tmp 2) (.tmp 61) rfl w.heap.size 0 (ctC c B r.length k) rfl rfl HTH.out SI8.out HO8.out ?_))
   exact bodyPost_ret (zh Tryz.results21 _ _ w.heap.size _ _ _ rfl rfl zf hut rfl ye) rfl ⟨fun _=>⟨B,k,M,rfl,hst,HSPS.out⟩,fun f hf=>(by rw [qR (fun j hj=>hgood j hj hj)]at hf;cases hf),Gf⟩
theorem zkv {S:SP} (hS:S.ok) (w:World) (ha:S.at w):Calls Tryz.prog 90 #[.agg S.C] w fun e w'=>e=.returned (.string S.tb)∧Grew w w' :=
 zkn S.cm S.who S.at_ S.sw S.lf S.s S.A S.c S.l hS.cm hS.who hS.at_ hS.sw hS.lf hS.len hS.s hS.l w ha
theorem zkw:(Tryz.prog.info? 169).map (·.size)=some 24:=by kernel_rfl
theorem zsc (S:SP) (hS:S.ok) (w:World) (ha:S.at w) :
 Calls Tryz.prog 116 #[.agg S.C] w fun e w'=>∃ A2 c2,e=.returned (.agg (S.mv A2 c2).C)∧(S.mv A2 c2).at w'∧(∀ ad,A2=some ad→w.heap.size≤ad.block)∧Grew w w' :=
 (zr9 S.cm S.who S.at_ S.sw S.lf S.s S.A S.c S.l (by have:=hS.len;omega) w ha).mono fun e w' ⟨A2,c2,h1,h2,h3,h4⟩=>⟨A2,c2,h1,h2,h4,h3⟩
theorem cto_ok (c:Cm) (w:World):Calls Tryz.prog 35 #[c.v] w fun e w'=>e=.returned c.v∧Grew w w':=by
 obtain⟨a,b,c,d,e⟩:=c
 have z0:=Ag.new (w.alloc (.cells #[.int .i64 a,.int .i64 b,.int .i64 c,.int .i64 d,.int .i64 e] 26)) 33 #[.int .i64 0,.int .i64 0,.int .i64 0,.int .i64 0,.int .i64 0]
 have g0:=ze (ze (za w) (.cells #[.int .i64 a,.int .i64 b,.int .i64 c,.int .i64 d,.int .i64 e] 26)) (.cells #[.int .i64 0,.int .i64 0,.int .i64 0,.int .i64 0,.int .i64 0] 33)
 have hi5:(Tryz.prog.info? 33).map (·.size)=some 5:=by kernel_rfl
 rw [zD]at z0
 unfold Cm.v
 go_enter Tryz.func35,Tryz.ntmps35
 go_wp2_with(refine wpList_store_mid rfl 33 (.tmp 2) (.tmp 13) rfl (w.heap.size+1) 0 #[.int .i64 a,.int .i64 b,.int .i64 c,.int .i64 d,.int .i64 e] rfl rfl (z0.thereN 5 rfl) hi5 (by simp [Value.oneCell']) ?_;have z1:=Ag.set (vs:=[.int .i64 a,.int .i64 b,.int .i64 c,.int .i64 d,.int .i64 e]) z0 rfl;have g1:=zg (o:=0) (b:=w.heap.size+1) [.int .i64 a,.int .i64 b,.int .i64 c,.int .i64 d,.int .i64 e] g0 (by omega))
 have c0:=z1.cell 0 _ rfl
 have c1:=z1.cell 1 _ rfl
 have c2:=z1.cell 2 _ rfl
 have c3:=z1.cell 3 _ rfl
 have c4:=z1.cell 4 _ rfl
 simp only [Nat.zero_add]at c0 c1 c2 c3 c4
 exact bodyPost_ret (v:=Cm.v ⟨a,b,c,d,e⟩) (by simp [results,Tryz.f35,go_sem,c0,c1,c2,c3,c4];try rfl) rfl ⟨rfl,g1⟩
end Go.Proofs.YtpppegnojmnicaaGreatDoor
