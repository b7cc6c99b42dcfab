/- slices.Clone at digests; median.copied, field.Map of it. -/
import Derived.Test.YtidjnnnigcmdpaaGreatDoorJzz
import Derived.Lib.SliceRun
import Derived.Test.YtidjnnnigcmdpaaGreatDoorJbk
import Derived.Test.YtidjnnnigcmdpaaGreatDoorJbh
import Derived.Test.YtidjnnnigcmdpaaGreatDoorJao
import Derived.Test.YtidjnnnigcmdpaaGreatDoorJbg
import Derived.Test.YtidjnnnigcmdpaaGreatDoorJbj
import Derived.Test.YtidjnnnigcmdpaaGreatDoorJab
import Derived.Test.YtidjnnnigcmdpaaGreatDoorJbe
import Derived.Laws.OwnMore
import Derived.Deep.Cut
import Derived.StillTailTactics
set_option maxHeartbeats 4000000
set_option maxRecDepth 100000
set_option linter.unusedSimpArgs false
set_option linter.unusedVariables false
set_option linter.unnecessarySimpa false
namespace Go.Proofs.YtidjnnnigcmdpaaGreatDoor
open Go.RowKit
theorem zgr (A:Option Addr) (c B:Nat) (l:List Nat) (hl:l.length≤1048576) (w:World) (hr:Rd w B A (u64L l)) (hB:B≤w.heap.size) :
 Calls Tryz.prog 204 #[.slice A l.length c] w fun e w'=>∃ A2 c2,e=.returned (.slice A2 l.length c2)∧Rd w' w'.heap.size A2 (u64L l)∧(∀ ad,A2=some ad→w.heap.size≤ad.block)∧Grew w w':=by
 obtain⟨i0,hi0,hz0,hz1,hz2⟩:=info_parts (show(Tryz.prog.info? 35).map (fun i=>(i.zero,i.size,i.bytes))=some (some (.int .u64 0),1,8) by kernel_rfl)
 have he:=fun W=>Lib.run_eql_slice_nil (P:=Tryz.prog) W 47 35 A l.length c 0 0 Tryz.underlying47
 cases A with
 | none =>
  have hn:l=[]:=by
   cases l with
   | nil=>rfl
   | cons a l =>
    obtain⟨ad,h,_⟩:=hr 0 (by simp [u64L])
    cases h
  subst hn
  simp only [List.length_nil,Option.isNone_none]at he ⊢
  go_enter Tryz.func204,Tryz.ntmps204
  go_wp2_with fail
  go_ret
  exact⟨none,0,rfl,(fun k h=>absurd h (by simp [u64L])),(fun ad h=>by cases h),Below.refl _ _⟩
 | some ad =>
  have hr1:=hr.alloc hB (.cells #[] 35)
  have hmade:(w.alloc (.cells #[] 35)).ownsRow w.heap.size 35 1 (.slice (some ⟨w.heap.size,0,none⟩) 0 0) 0 []:=World.ownsRow_made w #[] 0 (Nat.le_refl _) (by decide) rfl
  have HR:=hQ9 hr1
  clear hr hr1
  go_enter Tryz.func204,Tryz.ntmps204
  go_wp2_with(at_builtin;refine zF rfl _ _ _ rfl w.heap.size 35 i0 _ 8 Tryz.underlying47 hi0 hz0 hz1 hz2 rfl _ 0 [] rfl hmade B (some ad) l.length c (u64L l) rfl (jC l) HR.out (fun u hu=>by obtain⟨n,_,rfl⟩:=List.mem_map.1 hu;rfl) (by unfold maxLen;omega) (by omega) (by simp) ?_;intro v2 w2 hown2 hgrow hat)
  simp only [Nat.zero_add,List.nil_append]at hown2
  obtain⟨A2,c2,rfl,hrd,hn1,hab⟩:=xK hown2
  go_wp2_with fail
  go_ret
  exact⟨A2,c2,rfl,hrd,fun ad h=>(hab ad h).1,((Below.refl _ _).alloc (Nat.le_refl _) _).grown hgrow (by simp) (fun g hg=>by have h':some w.heap.size=some g:=hg;injection h' with h';omega)⟩
def SP.mv (S:SP) (A:Option Addr) (c:Nat):SP:={ S with A:=A,c:=c }
theorem SP.mv_ok {S:SP} (h:S.ok) (A:Option Addr) (c:Nat):(S.mv A c).ok:=⟨h.cm,h.who,h.at_,h.sw,h.lf,h.s,h.len,h.l⟩
theorem SP.mv_C (S:SP) (A:Option Addr) (c:Nat):S.C.toList.set 23 (.slice A S.l.length c)=(S.mv A c).C.toList:=rfl
structure MvL (L M:List SP):Prop where
 len:M.length=L.length
 each:∀ k (h:k<L.length) (h':k<M.length),∃ A c,M[k]=L[k].mv A c
theorem MvL.nil:MvL [] []:=⟨rfl,fun k h=>absurd h (by simp)⟩
theorem MvL.snoc {L M:List SP} (h:MvL L M) (S:SP) (A:Option Addr) (c:Nat):MvL (L++[S]) (M++[S.mv A c]):=by
 refine⟨by simp [h.len],fun k h1 h2=>?_⟩
 by_cases hk:k<L.length
 ·rw [List.getElem_append_left hk,List.getElem_append_left (by rw [h.len];exact hk)]
  exact h.each k hk _
 ·have hk':k=L.length:=by have h3:(L++[S]).length=L.length+1:=by simp
                          omega
  subst hk'
  refine⟨A,c,?_⟩
  have e1:(L++[S])[L.length]'h1=S:=by simp
  have e2:(M++[S.mv A c])[L.length]'h2=S.mv A c:=by
   have:∀ n (hn:n<(M++[S.mv A c]).length),n=M.length→(M++[S.mv A c])[n]=S.mv A c:=fun n hn e=>by subst e;simp
   exact this _ _ h.len.symm
  rw [e1,e2]
theorem Ag.setTail {w:World} {b:Nat} {pre old vs:List Value} (h:Ag w b (pre++old)) (hl:vs.length=old.length):Ag (w.setCells b pre.length vs) b (pre++vs):=by
 have hle:(pre++old).length=(pre++vs).length:=by simp [hl]
 have ht:w.there b pre.length vs.length:=fun i hi=>by
  have:=h.there (pre.length+i) (by rw [List.length_append];omega)
  simpa using this
 have hs:=World.rangeAt_setCells_same w b pre.length vs ht
 refine⟨fun j v hj=>?_,fun j hj=>⟨?_,?_⟩,Nat.lt_of_lt_of_le h.lt (zn vs b pre.length w).size⟩
 ·by_cases hlt:j<pre.length
  ·rw [List.getElem?_append_left hlt]at hj
   rw [World.cell?_setCells_out b vs pre.length w _ (fun _ _=>.inl (by simpa using hlt))]
   exact h.cell j v (by rw [List.getElem?_append_left hlt];exact hj)
  ·rw [List.getElem?_append_right (by omega)]at hj
   have:=hs (j-pre.length) v hj
   rwa [show pre.length+(j-pre.length)=0+j by omega]at this
 ·exact World.isSome_setCells b vs pre.length w _ (h.there j (by rw [hle];exact hj)).1
 ·rw [World.frozen?_setCells];exact(h.there j (by rw [hle];exact hj)).2
theorem zdw (who lf:Int) (s:Nat→Nat) (A:Option Addr) (c:Nat) (l:List Nat) (hl:l.length≤1000) (w:World) (ha:Rd w w.heap.size A (u64L l)) :
 Calls Tryz.prog 155 #[.agg (sgC who lf s (.slice A l.length c))] w fun e w'=>∃ A2 c2,e=.returned (.agg (sgC who lf s (.slice A2 l.length c2)))∧Rd w' w'.heap.size A2 (u64L l)∧(∀ ad,A2=some ad→w.heap.size≤ad.block)∧Grew w w':=by
 have z1:=(Ag.new w 67 (sgC who lf s (.slice A l.length c))).grew (zg (zc _) (.cells (zS21) 67))
 have z2:Ag ((w.alloc (.cells (sgC who lf s (.slice A l.length c)) 67)).alloc (.cells (zS21) 67)) (w.heap.size+1) ((zS21):Array Value).toList:=by
  have:=Ag.new (w.alloc (.cells (sgC who lf s (.slice A l.length c)) 67)) 67 (zS21)
  simpa using this
 have G0:=zg (zg (zc w) (.cells (sgC who lf s (.slice A l.length c)) 67)) (.cells (zS21) 67)
 have ha0:=Rd.gr ha G0
 have hc23:((w.alloc (.cells (sgC who lf s (.slice A l.length c)) 67)).alloc (.cells (#[.int .i64 0,.int .i64 0,.int .u64 0,.int .u64 0,.int .u64 0,.int .u64 0,.int .u64 0,.int .u64 0,.int .u64 0,.int .u64 0,.int .u64 0,.int .u64 0,.int .u64 0,.int .u64 0,.int .u64 0,.int .u64 0,.int .u64 0,.int .u64 0,.int .u64 0,.int .u64 0,.slice none 0 0]) 67)).cell? ⟨w.heap.size,20,none⟩=some (.slice A l.length c):=by simpa using z1.cell 20 _ rfl
 have CC:=hQ9 (zgr A c _ l (by omega) _ ha0 (Nat.le_refl _))
 have hut:=Tryz.underlying67
 have HSZ:Hid ((sgC who lf s (.slice A l.length c)).toList.length=21):=hQ9 rfl
 have HMV:=hQ9 (show ∀ A2 c2,(sgC who lf s (.slice A l.length c)).toList.set 20 (.slice A2 l.length c2)=(sgC who lf s (.slice A2 l.length c2)).toList from fun A2 c2=>rfl)
 have HZI:=hQ9 z1
 clear ha ha0 z1
 go_enter Tryz.func155,Tryz.ntmps155
 go_wp2_with fail
 refine(CC.out).mono ?_
 rintro e w1 ⟨A2,c2,rfl,hr2,hb2,g1⟩
 have z1:=HZI.out.grew g1
 have z2':=z2.grew g1
 have G1:=ze G0 g1
 have hb0:w.heap.size+2≤((w.alloc (.cells (sgC who lf s (.slice A l.length c)) 67)).alloc (.cells (#[.int .i64 0,.int .i64 0,.int .u64 0,.int .u64 0,.int .u64 0,.int .u64 0,.int .u64 0,.int .u64 0,.int .u64 0,.int .u64 0,.int .u64 0,.int .u64 0,.int .u64 0,.int .u64 0,.int .u64 0,.int .u64 0,.int .u64 0,.int .u64 0,.int .u64 0,.int .u64 0,.slice none 0 0]) 67)).heap.size:=by simp [zl]
 have hb2':∀ ad,A2=some ad→w.heap.size+2≤ad.block:=fun ad h=>Nat.le_trans hb0 (hb2 ad h)
 have hc1:w1.cell? ⟨w.heap.size,20,none⟩=some (.slice A l.length c):=by simpa using z1.cell 20 _ rfl
 have fc1:w1.frozen? ⟨w.heap.size,20,none⟩=false:=by simpa using (z1.there 20 (by rw [HSZ.out];omega)).2
 have y1:=z1.set1 20 (.slice A2 l.length c2) (by rw [HSZ.out];omega)
 rw [HMV.out]at y1
 have K1:=yP (S:=fun j=>j=w.heap.size) (zJ _ w1) (p:=⟨w.heap.size,20,none⟩) (.inl rfl) (.slice A2 l.length c2)
 have z3:=z2'.kp K1 (fun e=>by omega)
 have r3:=(hr2.kp K1 (Nat.le_refl _) (fun ad h _ e=>by have:=hb2' ad h;omega)).more K1.size
 have G3:Grew w (w1.setCell ⟨w.heap.size,20,none⟩ (.slice A2 l.length c2)):=zO G1 K1 G1.size (fun i e=>by have e':i=w.heap.size:=e;omega)
 clear CC HZI z2 z1 z2' hc23 hb2 hb0 G0 g1 hr2 G1
 have HM:=hQ9 y1.cell
 have SI1:Hid ((Tryz.prog.info? 67).map (·.size)=some (sgC who lf s (.slice A2 l.length c2)).toList.length):=hQ9 zL
 have SI2:Hid ((Tryz.prog.info? 67).map (·.size)=some (sgC who lf s (.slice A2 l.length c2)).size):=hQ9 zL
 have HON:=hQ9 (yL who lf s A2 l.length c2)
 have HTH:Hid ((w1.setCell ⟨w.heap.size,20,none⟩ (.slice A2 l.length c2)).there (w.heap.size+1) 0 (sgC who lf s (.slice A2 l.length c2)).size):=hQ9 (z3.thereN 21 rfl)
 have z4:=Ag.set (vs:=(sgC who lf s (.slice A2 l.length c2)).toList) z3 rfl
 have K4:=zn (sgC who lf s (.slice A2 l.length c2)).toList (w.heap.size+1) 0 (w1.setCell ⟨w.heap.size,20,none⟩ (.slice A2 l.length c2))
 have G4:Grew w ((w1.setCell ⟨w.heap.size,20,none⟩ (.slice A2 l.length c2)).setCells (w.heap.size+1) 0 (sgC who lf s (.slice A2 l.length c2)).toList):=zi (o:=0) (b:=w.heap.size+1) _ G3 (by omega)
 have r4:=(r3.kp K4 (Nat.le_refl _) (fun ad h _ e=>by have:=hb2' ad h;omega)).more K4.size
 have hm:=HM.out
 clear z3 y1 r3 G3 K1 K4
 go_wp2_with(first
  | (with_reducible refine wpList_load_mid rfl 67 (.tmp 1) rfl w.heap.size 0 rfl (sgC who lf s (.slice A2 l.length c2)).toList _ hm hut rfl SI1.out ?_;simp only [Array.toArray_toList])
  | (with_reducible refine wpList_store_mid rfl 67 (.tmp 2) (.tmp 7) rfl (w.heap.size+1) 0 (sgC who lf s (.slice A2 l.length c2)) rfl rfl HTH.out SI2.out HON.out ?_))
 exact bodyPost_ret (zM Tryz.results155 _ _ (w.heap.size+1) _ _ rfl z4 hut rfl zL) rfl ⟨A2,c2,rfl,r4,(fun ad h=>by have:=hb2' ad h;omega),G4⟩
theorem jr (who lf:Int) (s:Nat→Nat) (A:Option Addr) (n c:Nat):(sgC who lf s (.slice A n c)).toList.length=21:=rfl
def AP.mv (S:AP) (A:Option Addr) (c:Nat):AP:={ S with A:=A,c:=c }
theorem AP.mv_ok {S:AP} (h:S.ok) (A:Option Addr) (c:Nat):(S.mv A c).ok:=⟨h.cm,h.who,h.sw,h.lf,h.s,h.len,h.l⟩
theorem AP.mv_C (S:AP) (A:Option Addr) (c:Nat):(S.mv A c).C.toList=[.int .u64 (S.cm:Nat),.int .i64 S.who]++(sgC S.sw S.lf S.s (.slice A S.l.length c)).toList:=rfl
theorem AP.C_eq (S:AP):S.C.toList=[.int .u64 (S.cm:Nat),.int .i64 S.who]++(sgC S.sw S.lf S.s (.slice S.A S.l.length S.c)).toList:=rfl
structure MvA (L M:List AP):Prop where
 len:M.length=L.length
 each:∀ k (h:k<L.length) (h':k<M.length),∃ A c,M[k]=L[k].mv A c
theorem MvA.nil:MvA [] []:=⟨rfl,fun k h=>absurd h (by simp)⟩
theorem MvA.snoc {L M:List AP} (h:MvA L M) (S:AP) (A:Option Addr) (c:Nat):MvA (L++[S]) (M++[S.mv A c]):=by
 refine⟨by simp [h.len],fun k h1 h2=>?_⟩
 by_cases hk:k<L.length
 ·rw [List.getElem_append_left hk,List.getElem_append_left (by rw [h.len];exact hk)]
  exact h.each k hk _
 ·have hk':k=L.length:=by have h3:(L++[S]).length=L.length+1:=by simp
                          omega
  subst hk'
  refine⟨A,c,?_⟩
  have e1:(L++[S])[L.length]'h1=S:=by simp
  have e2:(M++[S.mv A c])[L.length]'h2=S.mv A c:=by
   have:∀ n (hn:n<(M++[S.mv A c]).length),n=M.length→(M++[S.mv A c])[n]=S.mv A c:=fun n hn e=>by subst e;simp
   exact this _ _ h.len.symm
  rw [e1,e2]
def Cm.cells (c:Cm):Array Value:=#[.int .i64 c.cl,.int .i64 c.no,.int .i64 c.fr,.int .i64 c.tt,.int .i64 c.am]
def ctC (c:Cm) (A:Option Addr) (n k:Nat):Array Value:=#[.int .i64 c.cl,.int .i64 c.no,.int .i64 c.fr,.int .i64 c.tt,.int .i64 c.am,.slice A n k]
structure MvR (w:World) (B0:Nat) (L:List SP) (v:Value):Prop where
 out:∃ B k M,v=.slice B L.length k∧MvL L M∧Sps w B M∧(∀ ad,B=some ad→B0≤ad.block)∧(∀ S∈M,∀ ad,S.A=some ad→S.l=[]∨B0≤ad.block)
theorem MvR.gr {w w':World} {B0:Nat} {L:List SP} {v:Value} (h:MvR w B0 L v) (g:Grew w w'):MvR w' B0 L v:=by
 obtain⟨B,k,M,h1,h2,h3,h4⟩:=h.out
 exact⟨B,k,M,h1,h2,h3.gr g,h4⟩
structure CtR (w:World) (B0:Nat) (c:Cm) (L:List SP) (v:Value):Prop where
 out:∃ B k M,v=.agg (ctC c B L.length k)∧MvL L M∧Sps w B M∧(∀ ad,B=some ad→B0≤ad.block)∧(∀ S∈M,∀ ad,S.A=some ad→S.l=[]∨B0≤ad.block)
theorem CtR.gr {w w':World} {B0:Nat} {c:Cm} {L:List SP} {v:Value} (h:CtR w B0 c L v) (g:Grew w w'):CtR w' B0 c L v:=by
 obtain⟨B,k,M,h1,h2,h3,h4⟩:=h.out
 exact⟨B,k,M,h1,h2,h3.gr g,h4⟩
theorem Sps.kpx {w w':World} {A:Option Addr} {L:List SP} {S:Nat→Prop} (h:Sps w A L) (k:Kp S w w') (hA:∀ ad,A=some ad→¬S ad.block) (hM:∀ T∈L,∀ ad,T.A=some ad→T.l=[]∨¬S ad.block):Sps w' A L :=
 ⟨h.rd.kp k (fun q e=>hA _ e),h.ok,fun T hT=>by
  have h0:=h.at_ T hT
  by_cases hl:T.l=[]
  ·intro j hj;rw [hl]at hj;exact absurd hj (by simp [u64L])
  ·exact(Rd.kp h0 k (Nat.le_refl _) (fun ad e _=>by
    rcases hM T hT ad e with h1 | h1
    ·exact absurd h1 hl
    ·exact h1)).more k.size⟩
theorem xB {w:World} {b:Nat} {K:KP} (h:Ag w b K.C.toList):w.rangeAt b 0 [.int .i64 K.f]:=fun j v hj=>by
 have hj0:j=0:=by have:=(List.getElem?_eq_some_iff.1 hj).1;simpa using this
 subst hj0
 have h0:v=.int .i64 K.f:=by simpa using hj.symm
 rw [h0]
 exact h.cell 0 _ rfl
theorem zcc {w w':World} {b o:Nat} {cs:List Value} (h:w.rangeAt b o cs) (hb:b<w.heap.size) (g:Grew w w'):w'.rangeAt b o cs:=fun j v hj=>by
 rw [←h j v hj]
 exact World.cell?_of_block (g.block b hb)
theorem ag_at {w:World} {b:Nat} {cs:List Value} (h:Ag w b cs) (k:Nat) {v:Value} (hk:cs[k]?=some v):w.cell? ⟨b,k,none⟩=some v:=by simpa using h.cell k v hk
theorem ag_fr {w:World} {b:Nat} {cs:List Value} (h:Ag w b cs) (k:Nat) (hk:k<cs.length):w.frozen? ⟨b,k,none⟩=false:=by simpa using (h.there k hk).2
theorem MvL.cons {L M:List SP} (h:MvL L M) (S:SP) (A:Option Addr) (c:Nat):MvL (S::L) (S.mv A c::M) :=
 ⟨by simp [h.len],fun k h1 h2=>by
  cases k with
  | zero=>exact⟨A,c,rfl⟩
  | succ k=>exact h.each k (by simpa using h1) (by simpa using h2)⟩
theorem MvL.uncons {L M:List SP} {S T:SP} (h:MvL (S::L) (T::M)):(∃ A c,T=S.mv A c)∧MvL L M :=
 ⟨h.each 0 (by simp) (by simp),by have:=h.len;simpa using this,fun k h1 h2=>h.each (k+1) (by simpa using h1) (by simpa using h2)⟩
theorem MvL.take {L M:List SP} (h:MvL L M) (n:Nat):MvL (L.take n) (M.take n) :=
 ⟨by simp [h.len],fun k h1 h2=>by
  rw [List.getElem_take,List.getElem_take]
  exact h.each k (by rw [List.length_take]at h1;omega) (by rw [List.length_take]at h2;omega)⟩
def SP.tx (S:SP):List UInt8:=stT S.cm S.who S.at_ S.sw S.lf S.s S.l
def SP.tb (S:SP):ByteArray:=⟨S.tx.toArray⟩
theorem SP.C_eq (S:SP):S.C.toList=[.int .u64 (S.cm:Nat),.int .i64 S.who,.int .i64 S.at_]++(sgC S.sw S.lf S.s (.slice S.A S.l.length S.c)).toList:=rfl
def sqC (cc:Cm) (B:Option Addr) (n k:Nat) (D:Option Addr) (m j:Nat):Array Value:=#[.int .i64 cc.cl,.int .i64 cc.no,.int .i64 cc.fr,.int .i64 cc.tt,.int .i64 cc.am,.slice B n k,.slice D m j]
theorem Aps.kpx {w w':World} {A:Option Addr} {L:List AP} {S:Nat→Prop} (h:Aps w A L) (k:Kp S w w') (hA:∀ ad,A=some ad→¬S ad.block) (hM:∀ T∈L,∀ ad,T.A=some ad→T.l=[]∨¬S ad.block):Aps w' A L :=
 ⟨h.rd.kp k (fun q e=>hA _ e),h.ok,fun T hT=>by
  by_cases hl:T.l=[]
  ·intro j hj;rw [hl]at hj;exact absurd hj (by simp [u64L])
  ·exact(Rd.kp (h.at_ T hT) k (Nat.le_refl _) (fun ad e _=>by
    rcases hM T hT ad e with h1 | h1
    ·exact absurd h1 hl
    ·exact h1)).more k.size⟩
structure CcR (w:World) (B0:Nat) (cc:Cm) (LC:List SP) (v:Value):Prop where
 out:∃ B k M,v=.agg (ctC cc B LC.length k)∧MvL LC M∧Sps w B M∧(∀ ad,B=some ad→B0≤ad.block)∧(∀ S∈M,∀ ad,S.A=some ad→S.l=[]∨B0≤ad.block)
theorem CcR.gr {w w':World} {B0:Nat} {cc:Cm} {LC:List SP} {v:Value} (h:CcR w B0 cc LC v) (g:Grew w w'):CcR w' B0 cc LC v:=by
 obtain⟨B,k,M,h1,h2,h3,h4,h5⟩:=h.out
 exact⟨B,k,M,h1,h2,h3.gr g,h4,h5⟩
structure MaR (w:World) (B0:Nat) (E:List AP) (v:Value):Prop where
 out:∃ B k M,v=.slice B E.length k∧MvA E M∧Aps w B M∧(∀ ad,B=some ad→B0≤ad.block)∧(∀ S∈M,∀ ad,S.A=some ad→S.l=[]∨B0≤ad.block)
theorem MaR.gr {w w':World} {B0:Nat} {E:List AP} {v:Value} (h:MaR w B0 E v) (g:Grew w w'):MaR w' B0 E v:=by
 obtain⟨B,k,M,h1,h2,h3,h4,h5⟩:=h.out
 exact⟨B,k,M,h1,h2,h3.gr g,h4,h5⟩
structure SqR (w:World) (B0:Nat) (cc:Cm) (LC:List SP) (E:List AP) (v:Value):Prop where
 out:∃ B k M D j N,v=.agg (sqC cc B LC.length k D E.length j)∧MvL LC M∧Sps w B M∧MvA E N∧Aps w D N∧(∀ ad,B=some ad→B0≤ad.block)∧(∀ S∈M,∀ ad,S.A=some ad→S.l=[]∨B0≤ad.block)∧(∀ ad,D=some ad→B0≤ad.block)∧(∀ S∈N,∀ ad,S.A=some ad→S.l=[]∨B0≤ad.block)
theorem SqR.gr {w w':World} {B0:Nat} {cc:Cm} {LC:List SP} {E:List AP} {v:Value} (h:SqR w B0 cc LC E v) (g:Grew w w'):SqR w' B0 cc LC E v:=by
 obtain⟨B,k,M,D,j,N,h1,h2,h3,h4,h5,h6,h7,h8,h9⟩:=h.out
 exact⟨B,k,M,D,j,N,h1,h2,h3.gr g,h4,h5.gr g,h6,h7,h8,h9⟩
def StR.sp (r:StR) (A:Option Addr) (c:Nat):SP:=⟨r.cm,r.who,r.at_,r.g.1.1,r.g.1.2,r.g.2.1,A,c,r.g.2.2⟩
structure StL (l:List StR) (M:List SP):Prop where
 len:M.length=l.length
 each:∀ k (h:k<l.length) (h':k<M.length),∃ A c,M[k]=l[k].sp A c
theorem StL.nil:StL [] []:=⟨rfl,fun k h=>absurd h (by simp)⟩
theorem StL.snoc {L:List StR} {M:List SP} (h:StL L M) (S:StR) (A:Option Addr) (c:Nat):StL (L++[S]) (M++[S.sp A c]):=by
 refine⟨by simp [h.len],fun k h1 h2=>?_⟩
 by_cases hk:k<L.length
 ·rw [List.getElem_append_left hk,List.getElem_append_left (by rw [h.len];exact hk)]
  exact h.each k hk _
 ·have hk':k=L.length:=by have h3:(L++[S]).length=L.length+1:=by simp
                          omega
  subst hk'
  refine⟨A,c,?_⟩
  have e1:(L++[S])[L.length]'h1=S:=by simp
  have e2:(M++[S.sp A c])[L.length]'h2=S.sp A c:=by
   have:∀ n (hn:n<(M++[S.sp A c]).length),n=M.length→(M++[S.sp A c])[n]=S.sp A c:=fun n hn e=>by subst e;simp
   exact this _ _ h.len.symm
  rw [e1,e2]
section
variable (RA : Option Addr) (Rc : Nat) (A0 A1 A2 A3 : Option Addr) (c0 c1 c2 c3 : Nat)
end
def pcL (wt vw tk:Int):List Value:=[.int .i64 wt,.int .i64 vw,.int .i64 tk]
theorem zin (n:Int):Tryz.prog.built 214 [(0,.int .i64 n),(1,.int .i64 1)]=some #[.int .i64 n,.int .i64 1,.int .i64 0]:=by kernel_rfl
theorem zdx:(Tryz.prog.info? 214).map (·.size)=some 3:=by kernel_rfl
theorem zio (n:Int) (h1:1≤n) (h2:n≤1000) (w:World) :
 Calls Tryz.prog 62 #[.int .i64 n] w fun e w'=>e=.returned (.tuple #[.pointer (some ⟨w.heap.size,0,none⟩),.int .i64 0])∧Ag w' w.heap.size (pcL n 1 0)∧Grew w w':=by
 have e1:decide (n<1)=false:=decide_eq_false (by omega)
 have e2:decide (1000<n)=false:=decide_eq_false (by omega)
 have bz:∀ W,(Instr.build 214 #[(0,.int .i64 n),(1,.int .i64 1)]).run Tryz.prog W=.ok (.agg #[.int .i64 n,.int .i64 1,.int .i64 0]) W:=fun W=>run_build W 214 _ _ (zin n)
 have z:=Ag.new w 214 #[.int .i64 n,.int .i64 1,.int .i64 0]
 have g:=zg (zc w) (.cells #[.int .i64 n,.int .i64 1,.int .i64 0] 214)
 clear h1 h2
 go_enter Tryz.func62,Tryz.ntmps62
 go_wp2_with fail
 go_ret2
 exact⟨rfl,z,g⟩
theorem ze7 (w:World) :
 Calls Tryz.prog 62 #[.int .i64 0] w fun e w'=>e=.returned (.tuple #[.pointer none,.int .i64 1])∧w'=w:=by
 go_enter Tryz.func62,Tryz.ntmps62
 go_wp2_with fail
 go_ret2
 exact⟨rfl,rfl⟩
theorem za1 {b:Nat} {wt vw tk:Int} (w:World) (h:Ag w b (pcL wt vw tk)) :
 Calls Tryz.prog 65 #[.pointer (some ⟨b,0,none⟩)] w fun e w'=>e=.returned (.int .i64 vw)∧w'=w:=by
 have hc0:w.cell? ⟨b,0,none⟩=some (.int .i64 wt):=ag_at h 0 rfl
 have hc1:w.cell? ⟨b,1,none⟩=some (.int .i64 vw):=ag_at h 1 rfl
 have hc2:w.cell? ⟨b,2,none⟩=some (.int .i64 tk):=ag_at h 2 rfl
 clear h
 go_enter Tryz.func65,Tryz.ntmps65
 go_wp2_with fail
 go_ret
 exact⟨rfl,rfl⟩
theorem qS {b:Nat} {wt vw tk:Int} (v:Int) (w:World) (h:Ag w b (pcL wt vw tk)) :
 Calls Tryz.prog 126 #[.pointer (some ⟨b,0,none⟩),.int .i64 v] w fun e w'=>e=.returned (.tuple #[])∧Ag w' b (pcL wt v 0)∧Kp (fun j=>j=b) w w':=by
 have hc0:w.cell? ⟨b,0,none⟩=some (.int .i64 wt):=ag_at h 0 rfl
 have hc1:w.cell? ⟨b,1,none⟩=some (.int .i64 vw):=ag_at h 1 rfl
 have hc2:w.cell? ⟨b,2,none⟩=some (.int .i64 tk):=ag_at h 2 rfl
 have f1:w.frozen? ⟨b,1,none⟩=false:=ag_fr h 1 (by show 1<3;decide)
 have z1:=Ag.set1 h 1 (.int .i64 v) (by show 1<3;decide)
 have k1:=yP (S:=fun j=>j=b) (zJ _ w) (p:=⟨b,1,none⟩) (.inl rfl) (.int .i64 v)
 have d2:(w.setCell ⟨b,1,none⟩ (.int .i64 v)).cell? ⟨b,2,none⟩=some (.int .i64 tk):=ag_at z1 2 rfl
 have f2:(w.setCell ⟨b,1,none⟩ (.int .i64 v)).frozen? ⟨b,2,none⟩=false:=ag_fr z1 2 (by show 2<3;decide)
 have z2:=Ag.set1 z1 2 (.int .i64 0) (by show 2<3;decide)
 have k2:=yP (S:=fun j=>j=b) k1 (p:=⟨b,2,none⟩) (.inl rfl) (.int .i64 0)
 have HZ:=hQ9 z2
 have HK:=hQ9 k2
 clear h z1 z2 k1 k2 hc0
 go_enter Tryz.func126,Tryz.ntmps126
 go_wp2_with fail
 go_end0
 exact⟨rfl,HZ.out,HK.out⟩
theorem zgs {b:Nat} {wt vw tk:Int} (w:World) (h:Ag w b (pcL wt vw tk)) :
 Calls Tryz.prog 116 #[.pointer (some ⟨b,0,none⟩)] w fun e w'=>e=.returned (.pointer (some ⟨w.heap.size,0,none⟩))∧Ag w' w.heap.size (pcL wt vw tk)∧Grew w w':=by
 have hup:=Tryz.underlying214
 obtain⟨g,hg⟩:∃ g:Array Value,#[.int .i64 wt,.int .i64 vw,.int .i64 tk]=g:=⟨_,rfl⟩
 have hgl:g.toList=pcL wt vw tk:=by rw [←hg];rfl
 have hm:=h.cell
 rw [←hgl]at hm
 have SI:Hid ((Tryz.prog.info? 214).map (·.size)=some g.toList.length):=hQ9 (by rw [hgl];exact zdx)
 have SZ:Hid ((Tryz.prog.info? 214).map (·.size)=some g.size):=hQ9 (by rw [←hg];exact zdx)
 have HO:Hid (g.all (·.oneCell')=true):=hQ9 (by rw [←hg];simp [Value.oneCell'])
 obtain⟨w2,hw2,ht2,g2,z2⟩:=zW w 214 (#[.int .i64 0,.int .i64 0,.int .i64 0]) g (by rw [←hg];rfl)
 have HW2:=hQ9 hw2
 have HT2:=hQ9 ht2
 rw [hgl]at z2
 clear h hg hw2 ht2
 go_enter Tryz.func116,Tryz.ntmps116
 go_wp2_with(first
  | (with_reducible refine wpList_load_mid rfl 214 (.tmp 5) rfl b 0 rfl g.toList _ hm hup rfl SI.out ?_;simp only [Array.toArray_toList])
  | (with_reducible refine wpList_store_mid rfl 214 (.tmp 3) (.tmp 6) rfl w.heap.size 0 g rfl rfl HT2.out SZ.out HO.out ?_;rw [HW2.out]))
 go_ret
 exact⟨rfl,z2,g2⟩
theorem zip {b:Nat} {wt vw tk:Int} (v:Int) (w:World) (h:Ag w b (pcL wt vw tk)) (h1:vw<v) (h2:v≤1048576) :
 Calls Tryz.prog 63 #[.pointer (some ⟨b,0,none⟩),.int .i64 v] w fun e w'=>e=.returned (.bool true)∧Ag w' b (pcL wt v 0)∧Kp (fun j=>j=b) w w':=by
 have hc0:w.cell? ⟨b,0,none⟩=some (.int .i64 wt):=ag_at h 0 rfl
 have hc1:w.cell? ⟨b,1,none⟩=some (.int .i64 vw):=ag_at h 1 rfl
 have hc2:w.cell? ⟨b,2,none⟩=some (.int .i64 tk):=ag_at h 2 rfl
 have CE:=hQ9 (qS v w h)
 have e1:decide (v≤vw)=false:=decide_eq_false (by omega)
 have e2:decide (1048576<v)=false:=decide_eq_false (by omega)
 clear h h1 h2
 go_enter Tryz.func63,Tryz.ntmps63
 go_wp2_with fail
 refine(CE.out).mono ?_
 rintro e w2 ⟨rfl,hz,hk⟩
 go_wp2_with fail
 go_ret
 exact⟨rfl,hz,hk⟩
theorem zkz {b:Nat} {wt vw tk:Int} (v:Int) (w:World) (h:Ag w b (pcL wt vw tk)) (h1:¬vw<v) :
 Calls Tryz.prog 63 #[.pointer (some ⟨b,0,none⟩),.int .i64 v] w fun e w'=>e=.returned (.bool false)∧w'=w:=by
 have hc0:w.cell? ⟨b,0,none⟩=some (.int .i64 wt):=ag_at h 0 rfl
 have hc1:w.cell? ⟨b,1,none⟩=some (.int .i64 vw):=ag_at h 1 rfl
 have hc2:w.cell? ⟨b,2,none⟩=some (.int .i64 tk):=ag_at h 2 rfl
 have e1:decide (v≤vw)=true:=decide_eq_true (by omega)
 clear h h1
 go_enter Tryz.func63,Tryz.ntmps63
 go_wp2_with fail
 go_ret
 exact⟨rfl,rfl⟩
theorem zgt {b:Nat} {wt vw tk:Int} (w:World) (h:Ag w b (pcL wt vw tk)) (h1:0≤tk∧tk≤1000) (h2:tk+1≠wt) :
 Calls Tryz.prog 64 #[.pointer (some ⟨b,0,none⟩)] w fun e w'=>e=.returned (.bool false)∧Ag w' b (pcL wt vw (tk+1))∧Kp (fun j=>j=b) w w':=by
 have hc0:w.cell? ⟨b,0,none⟩=some (.int .i64 wt):=ag_at h 0 rfl
 have hc1:w.cell? ⟨b,1,none⟩=some (.int .i64 vw):=ag_at h 1 rfl
 have hc2:w.cell? ⟨b,2,none⟩=some (.int .i64 tk):=ag_at h 2 rfl
 have ew:IntKind.i64.wrap (tk+1)=tk+1:=IntWalk.i64_in _ (by omega)
 have f2:w.frozen? ⟨b,2,none⟩=false:=ag_fr h 2 (by show 2<3;decide)
 have z1:=Ag.set1 h 2 (.int .i64 (tk+1)) (by show 2<3;decide)
 have k1:=yP (S:=fun j=>j=b) (zJ _ w) (p:=⟨b,2,none⟩) (.inl rfl) (.int .i64 (tk+1))
 have d0:∀ y:Gr (w.setCell ⟨b,2,none⟩ (.int .i64 (tk+1))),y.val.cell? ⟨b,0,none⟩=some (.int .i64 wt):=fun y=>ag_at (z1.grew y.ok) 0 rfl
 have d2:∀ y:Gr (w.setCell ⟨b,2,none⟩ (.int .i64 (tk+1))),y.val.cell? ⟨b,2,none⟩=some (.int .i64 (tk+1)):=fun y=>ag_at (z1.grew y.ok) 2 rfl
 have HZ:=hQ9 z1
 have HK:=hQ9 k1
 have e1:(tk+1 != wt)=true:=by simpa using h2
 clear h z1 k1 h1 h2
 go_enter Tryz.func64,Tryz.ntmps64
 go_upto_region 2 with fail
 refine zh (zc _) (by kernel_rfl) (by kernel_rfl) ?_
 repeat (go_big_quiet_step (fail))
 refine wpQuiet_nil ?_
 rintro w8 ⟨⟨w8',g8⟩,rfl⟩
 go_wp2_with fail
 go_ret
 exact⟨rfl,HZ.out.grew g8,zB HK.out (zj g8)⟩
theorem ze8 {b:Nat} {wt vw tk:Int} (w:World) (h:Ag w b (pcL wt vw tk)) (h1:0≤tk∧tk≤1000) (h2:tk+1=wt) (h3:0≤vw∧vw<1048576) :
 Calls Tryz.prog 64 #[.pointer (some ⟨b,0,none⟩)] w fun e w'=>e=.returned (.bool true)∧Ag w' b (pcL wt (vw+1) 0)∧Kp (fun j=>j=b) w w':=by
 have hc0:w.cell? ⟨b,0,none⟩=some (.int .i64 wt):=ag_at h 0 rfl
 have hc1:w.cell? ⟨b,1,none⟩=some (.int .i64 vw):=ag_at h 1 rfl
 have hc2:w.cell? ⟨b,2,none⟩=some (.int .i64 tk):=ag_at h 2 rfl
 have ew:IntKind.i64.wrap (tk+1)=tk+1:=IntWalk.i64_in _ (by omega)
 have ev:IntKind.i64.wrap (vw+1)=vw+1:=IntWalk.i64_in _ (by omega)
 have em:min (vw+1) 1048576=vw+1:=by omega
 have f2:w.frozen? ⟨b,2,none⟩=false:=ag_fr h 2 (by show 2<3;decide)
 have z1:=Ag.set1 h 2 (.int .i64 (tk+1)) (by show 2<3;decide)
 have k1:=yP (S:=fun j=>j=b) (zJ _ w) (p:=⟨b,2,none⟩) (.inl rfl) (.int .i64 (tk+1))
 have d0:∀ y:Gr (w.setCell ⟨b,2,none⟩ (.int .i64 (tk+1))),y.val.cell? ⟨b,0,none⟩=some (.int .i64 wt):=fun y=>ag_at (z1.grew y.ok) 0 rfl
 have d2:∀ y:Gr (w.setCell ⟨b,2,none⟩ (.int .i64 (tk+1))),y.val.cell? ⟨b,2,none⟩=some (.int .i64 (tk+1)):=fun y=>ag_at (z1.grew y.ok) 2 rfl
 have HZ:=hQ9 z1
 have HK:=hQ9 k1
 have e1:(tk+1 != wt)=false:=by simpa using h2
 have CE:Hid (∀ W,Ag W b (pcL wt vw (tk+1))→Calls Tryz.prog 126 #[.pointer (some ⟨b,0,none⟩),.int .i64 (vw+1)] W fun e w'=>e=.returned (.tuple #[])∧Ag w' b (pcL wt (vw+1) 0)∧Kp (fun j=>j=b) W w'):=hQ9 (fun W hW=>qS (vw+1) W hW)
 clear h z1 k1 h1 h2 h3
 go_enter Tryz.func64,Tryz.ntmps64
 go_upto_region 2 with fail
 refine zh (zc _) (by kernel_rfl) (by kernel_rfl) ?_
 repeat (go_big_quiet_step (fail))
 refine wpQuiet_nil ?_
 rintro w8 ⟨⟨w8',g8⟩,rfl⟩
 have z8:=HZ.out.grew g8
 have hd1:w8.cell? ⟨b,1,none⟩=some (.int .i64 vw):=ag_at z8 1 rfl
 have CE8:=hQ9 (CE.out w8 z8)
 have K8:=hQ9 (zB HK.out (zj g8))
 clear d0 d2 z8 g8
 go_wp2_with fail
 refine(CE8.out).mono ?_
 rintro e w9 ⟨rfl,hz,hk⟩
 go_wp2_with fail
 go_ret
 exact⟨rfl,hz,zB K8.out hk⟩
theorem za2 (f:Int) (hf:1≤f∧f≤3) (v:Int) (hv:0≤v) (w:World) :
 Calls Tryz.prog 59 #[.agg #[.int .i64 f],.int .i64 v] w fun e w'=>e=.returned (.int .i64 (v%(3*f+1)))∧Grew w w':=by
 have huf:=Tryz.underlying46
 have HCF:Hid ((Tryz.prog.info? 46).map (·.size)=some (#[Value.int .i64 f]).toList.length):=hQ9 (by kernel_rfl)
 have z:=Ag.new w 46 #[.int .i64 f]
 have G:=zg (zc w) (.cells #[.int .i64 f] 46)
 have hm:=z.cell
 have CN:=hQ9 (fun W=>qn_ok f hf W)
 obtain⟨n,hn⟩:∃ n,3*f+1=n:=⟨_,rfl⟩
 rw [hn]at CN ⊢
 have hn1:4≤n:=by omega
 have e1:decide (v<0)=false:=decide_eq_false (by omega)
 have e2:decide (n<1)=false:=decide_eq_false (by omega)
 have e3:(n==0)=false:=by simp;omega
 have e4:v.tmod n=v%n:=Int.tmod_eq_emod_of_nonneg hv
 clear z hn hf
 go_enter Tryz.func59,Tryz.ntmps59
 go_wp2_with(with_reducible refine wpList_load_mid rfl 46 (.tmp 2) rfl w.heap.size 0 rfl (#[Value.int .i64 f]).toList _ hm huf rfl HCF.out ?_;simp only [Array.toArray_toList])
 refine(CN.out _).mono ?_
 rintro e w2 ⟨rfl,g2⟩
 go_wp2_with fail
 go_ret
 exact⟨by simp_all,by first | exact ze G g2 | (subst g2;exact G)⟩
theorem ziq:Tryz.prog.built 69 []=some (#[.int .i64 0,.int .u64 0,.int .i64 0,.int .i64 0,.int .i64 0,.int .u64 0,.int .u64 0,.int .u64 0,.int .u64 0,.int .u64 0,.int .u64 0,.int .u64 0,.int .u64 0,.int .u64 0,.int .u64 0,.int .u64 0,.int .u64 0,.int .u64 0,.int .u64 0,.int .u64 0,.int .u64 0,.int .u64 0,.int .u64 0,.slice none 0 0]):=by kernel_rfl
theorem zgu (b p:Nat) (kw sd:Int) (l:List Nat) (nx rs:Nat) (hl:l.length≤256) (hn:nx≤l.length) (hr:rs≤l.length) (hkk:leavesOk l.length=true) (hbb:∀ n∈l,n<18446744073709551616) (hsd:U64 sd) (hpp:∀ m,m<l.length→(pathN l m).length≤8) (who:Int) (hw:in64 who) (vw:Int) (hv:in64 vw) (d0:Nat) (hd0:d0<18446744073709551616) (he1:nx<l.length) (he2:nx<rs) (w:World) (hS:Std w) (h:KyAt w b p kw sd l nx rs) :
 Calls Tryz.prog 43 #[.pointer (some ⟨b,0,none⟩),.int .i64 who,.int .i64 vw,.int .u64 (d0:Nat)] w fun e w'=>(∃ A c,e=.returned (.tuple #[.agg (voC vw d0 who kw (nx:Int) (signF (secN sd (nx:Int)) (voD vw d0)) (.slice A (pathN l nx).length c)),.int .i64 0])∧Rd w' w'.heap.size A (u64L (pathN l nx))∧(∀ ad,A=some ad→w.heap.size≤ad.block))∧Tn b w w'∧KyAt w' b p kw sd l (nx+1) rs:=by
 have z0:=Ag.new w 69 (#[.int .i64 0,.int .u64 0,.int .i64 0,.int .i64 0,.int .i64 0,.int .u64 0,.int .u64 0,.int .u64 0,.int .u64 0,.int .u64 0,.int .u64 0,.int .u64 0,.int .u64 0,.int .u64 0,.int .u64 0,.int .u64 0,.int .u64 0,.int .u64 0,.int .u64 0,.int .u64 0,.int .u64 0,.int .u64 0,.int .u64 0,.slice none 0 0])
 have g0:=zg (zc w) (.cells (#[.int .i64 0,.int .u64 0,.int .i64 0,.int .i64 0,.int .i64 0,.int .u64 0,.int .u64 0,.int .u64 0,.int .u64 0,.int .u64 0,.int .u64 0,.int .u64 0,.int .u64 0,.int .u64 0,.int .u64 0,.int .u64 0,.int .u64 0,.int .u64 0,.int .u64 0,.int .u64 0,.int .u64 0,.int .u64 0,.int .u64 0,.slice none 0 0]) 69)
 have hut:=Tryz.underlying69
 have hus:=Tryz.underlying67
 have bz:∀ W,(Instr.build 69 #[]).run Tryz.prog W=.ok (.agg (#[.int .i64 0,.int .u64 0,.int .i64 0,.int .i64 0,.int .i64 0,.int .u64 0,.int .u64 0,.int .u64 0,.int .u64 0,.int .u64 0,.int .u64 0,.int .u64 0,.int .u64 0,.int .u64 0,.int .u64 0,.int .u64 0,.int .u64 0,.int .u64 0,.int .u64 0,.int .u64 0,.int .u64 0,.int .u64 0,.int .u64 0,.slice none 0 0])) W:=fun W=>run_build W 69 #[] _ ziq
 have CD:=hQ9 (fun W hW=>jG vw d0 hd0 hv W hW)
 have hdl:=qP vw d0
 have CS:=hQ9 (fun W hW=>kU b p kw sd l nx rs hl hn hr (voD vw d0:Nat) hkk hbb hsd ⟨by omega,by omega⟩ W hW)
 have hpl8:=zae l nx rs hpp
 obtain⟨d,hd⟩:∃ d,voD vw d0=d:=⟨_,rfl⟩
 rw [hd]at CD
 simp only [hd]at CS
 obtain⟨a1,ha1⟩:∃ v,soW l nx rs kw=v:=⟨_,rfl⟩
 obtain⟨a2,ha2⟩:∃ v,soL l nx rs=v:=⟨_,rfl⟩
 obtain⟨s,hs⟩:∃ v,soS l nx rs sd (d:Int)=v:=⟨_,rfl⟩
 obtain⟨pl,hp1⟩:∃ v,soP l nx rs=v:=⟨_,rfl⟩
 obtain⟨er,he3⟩:∃ v,soE l nx rs=v:=⟨_,rfl⟩
 obtain⟨n2,hn2⟩:∃ v,soN l nx rs=v:=⟨_,rfl⟩
 simp only [ha1,ha2,hs,hp1,he3,hn2]at CS
 rw [hp1]at hpl8
 have hkey:soW l nx rs kw=kw∧soL l nx rs=(nx:Int)∧soS l nx rs sd (d:Int)=signF (secN sd (nx:Int)) d∧soP l nx rs=pathN l nx∧soE l nx rs=0∧soN l nx rs=nx+1:=by
  have q1:¬l.length≤nx:=by omega
  have q2:¬rs≤nx:=by omega
  unfold soW soL soS soP soE soN
  simp only [if_neg q1,if_neg q2,Int.toNat_natCast,and_self]
 have HA1:Hid (kw=a1):=hQ9 (hkey.1.symm.trans ha1)
 have HA2:Hid ((nx:Int)=a2):=hQ9 (hkey.2.1.symm.trans ha2)
 have HSS:Hid (signF (secN sd (nx:Int)) d=s):=hQ9 (hkey.2.2.1.symm.trans hs)
 have HP1:Hid (pathN l nx=pl):=hQ9 (hkey.2.2.2.1.symm.trans hp1)
 have hne:(er != 0)=false:=by rw [←he3,hkey.2.2.2.2.1];rfl
 have HN2:Hid (nx+1=n2):=hQ9 (hkey.2.2.2.2.2.symm.trans hn2)
 have HDD:=hQ9 hd
 have HPW:Hid (p<w.heap.size):=hQ9 h.pub.lt
 clear ha1 ha2 hs hp1 he3 hn2 hkey
 have hbw:b<w.heap.size:=h.key.lt
 have HS:=hQ9 hS
 have K1:=h.grew g0
 clear hS h hkk hbb hsd hpp hd hdl hd0 hw hv
 have hsz0:w.heap.size<(w.alloc (.cells (#[.int .i64 0,.int .u64 0,.int .i64 0,.int .i64 0,.int .i64 0,.int .u64 0,.int .u64 0,.int .u64 0,.int .u64 0,.int .u64 0,.int .u64 0,.int .u64 0,.int .u64 0,.int .u64 0,.int .u64 0,.int .u64 0,.int .u64 0,.int .u64 0,.int .u64 0,.int .u64 0,.int .u64 0,.int .u64 0,.int .u64 0,.slice none 0 0]) 69)).heap.size:=by rw [zl];omega
 go_enter Tryz.func43,Tryz.ntmps43
 go_wp2_with fail
 refine(CD.out _ (HS.out.grew g0)).mono ?_
 rintro e w2 ⟨rfl,gg⟩
 have z2:=z0.grew gg
 have K2:=K1.grew gg
 have G2:=ze g0 gg
 clear z0 K1 g0 gg hsz0
 go_wp2_with fail
 refine(CS.out w2 K2).mono ?_
 rintro e w3 ⟨⟨A,c,rfl,r3,hA⟩,t3,K3⟩
 have z3:=z2.kp (kp_tn t3) (show ¬w.heap.size=b by omega)
 have T3:Tn b w w3:=tn_kp (x9 G2) (kp_tn t3) (fun i e=>.inl e)
 have hz3:=z2.lt
 have hfr:∀ ad,A=some ad→w.heap.size<ad.block:=fun ad e=>by have:=hA ad e;omega
 have HFR:=hQ9 hfr
 clear K2 G2 t3 hA z2 hfr
 have HSI1:Hid ((Tryz.prog.info? 67).map (·.size)=some (sgC a1 a2 s (.slice A pl.length c)).size):=hQ9 zL
 have HSL1:Hid ((Tryz.prog.info? 67).map (·.size)=some (sgC a1 a2 s (.slice A pl.length c)).toList.length):=hQ9 zL
 have HON1:=hQ9 (yL a1 a2 s A pl.length c)
 have HBU:=hQ9 (zii vw d0 who a1 a2 s A pl.length c)
 have zt:=Ag.new w3 67 (zS21)
 have HTH:Hid ((w3.alloc (.cells (zS21) 67)).there w3.heap.size 0 (sgC a1 a2 s (.slice A pl.length c)).size):=hQ9 (zt.thereN 21 rfl)
 have z4:=Ag.set (vs:=(sgC a1 a2 s (.slice A pl.length c)).toList) zt rfl
 have g5:Grew w3 ((w3.alloc (.cells (zS21) 67)).setCells w3.heap.size 0 (sgC a1 a2 s (.slice A pl.length c)).toList):=zi (o:=0) (b:=w3.heap.size) (sgC a1 a2 s (.slice A pl.length c)).toList (zg (zc w3) _) (Nat.le_refl _)
 have K5:=K3.grew g5
 have r5:=r3.gr g5
 have z5:=z3.grew g5
 have T5:Tn b w ((w3.alloc (.cells (zS21) 67)).setCells w3.heap.size 0 (sgC a1 a2 s (.slice A pl.length c)).toList):=tn_kp T3 (zj (S:=fun _=>False) g5) (fun i e=>e.elim)
 have hz5:=z5.lt
 have hz3':=z3.lt
 obtain⟨g1,hg1⟩:∃ g,sgC a1 a2 s (.slice A pl.length c)=g:=⟨_,rfl⟩
 rw [hg1]at HSI1 HSL1 HON1 HTH HBU z4 K5 r5 z5 T5 hz5 ⊢
 obtain⟨w5,hw5⟩:∃ v,(w3.alloc (.cells (zS21) 67)).setCells w3.heap.size 0 g1.toList=v:=⟨_,rfl⟩
 rw [hw5]at z4 K5 r5 z5 T5 hz5
 have HW5:=hQ9 hw5
 clear hw5 hg1 zt g5 K3 r3 z3 T3
 have HTZ:Hid (w5.there (w.heap.size) 0 (voC vw d0 who a1 a2 s (.slice A pl.length c)).size):=hQ9 (z5.thereN 24 rfl)
 have HOZ:=hQ9 (km vw d0 who a1 a2 s A pl.length c)
 have HSZ:Hid ((Tryz.prog.info? 69).map (·.size)=some (voC vw d0 who a1 a2 s (.slice A pl.length c)).size):=hQ9 zH
 have HSZL:Hid ((Tryz.prog.info? 69).map (·.size)=some (voC vw d0 who a1 a2 s (.slice A pl.length c)).toList.length):=hQ9 zH
 have z6:=Ag.set (vs:=(voC vw d0 who a1 a2 s (.slice A pl.length c)).toList) z5 rfl
 have K6:=zn (voC vw d0 who a1 a2 s (.slice A pl.length c)).toList (w.heap.size) 0 w5
 have KK:=K5.kp K6 (by show ¬b=w.heap.size;omega) (by show ¬p=w.heap.size;have:=HPW.out;omega)
 have TT:Tn b w (w5.setCells (w.heap.size) 0 (voC vw d0 who a1 a2 s (.slice A pl.length c)).toList):=tn_kp T5 K6 (fun i (e:i=w.heap.size)=>.inr (by omega))
 have RR:=(r5.kp K6 (Nat.le_refl _) (fun ad e1 _ (e3:ad.block=w.heap.size)=>by have:=HFR.out ad e1;omega)).more K6.size
 have hm4:=z4.cell
 obtain⟨g2,hg2⟩:∃ g,voC vw d0 who a1 a2 s (.slice A pl.length c)=g:=⟨_,rfl⟩
 have HG2':=hQ9 hg2
 rw [hg2]at HTZ HOZ HSZ HSZL HBU z6 KK TT RR
 clear z5 K5 r5 T5 K6 hg2
 go_wp2_with(first
  | (with_reducible refine wpList_store_mid rfl 67 (.tmp 10) (.tmp 18) rfl w3.heap.size 0 g1 rfl rfl HTH.out HSI1.out HON1.out ?_;rw [HW5.out];clear HW5 HTH)
  | (with_reducible refine wpList_load_mid rfl 67 (.tmp 10) rfl w3.heap.size 0 rfl g1.toList _ hm4 hus rfl HSL1.out ?_;simp only [Array.toArray_toList])
  | (with_reducible refine zC rfl 69 #[(0,.tmp 24),(1,.tmp 25),(2,.tmp 26),(3,.tmp 27)] rfl g2 ?_ ?_;· simpa [Act.eval,Act.put]using HBU.out)
  | (with_reducible refine wpList_store_mid rfl 69 (.tmp 8) (.tmp 28) rfl (w.heap.size) 0 g2 rfl rfl HTZ.out HSZ.out HOZ.out ?_))
 exact bodyPost_ret (zT Tryz.results43 _ _ (w.heap.size) _ _ _ rfl rfl z6 hut rfl HSZL.out) rfl ⟨⟨A,c,by show Ending.returned (.tuple #[.agg g2.toList.toArray,.int .i64 0])=_;rw [Array.toArray_toList,←HG2'.out,HDD.out,HSS.out,HP1.out,HA2.out,HA1.out],by rw [HP1.out];exact RR,fun ad e=>by have:=HFR.out ad e;omega⟩,TT,by rw [HN2.out];exact KK⟩
def VP.mv (S:VP) (A:Option Addr) (c:Nat):VP:={ S with A:=A,c:=c }
theorem VP.mv_ok {S:VP} (h:S.ok) (A:Option Addr) (c:Nat):(S.mv A c).ok:=⟨h.vw,h.cm,h.who,h.sw,h.lf,h.s,h.len,h.l⟩
theorem VP.mv_C (S:VP) (A:Option Addr) (c:Nat):(S.mv A c).C.toList=[.int .i64 S.vw,.int .u64 (S.cm:Nat),.int .i64 S.who]++(sgC S.sw S.lf S.s (.slice A S.l.length c)).toList:=rfl
theorem VP.C_eq (S:VP):S.C.toList=[.int .i64 S.vw,.int .u64 (S.cm:Nat),.int .i64 S.who]++(sgC S.sw S.lf S.s (.slice S.A S.l.length S.c)).toList:=rfl
theorem zgv (S:VP) (hS:S.ok) (w:World) (ha:S.at w) :
 Calls Tryz.prog 104 #[.agg S.C] w fun e w'=>∃ A c,e=.returned (.agg (S.mv A c).C)∧(S.mv A c).at w'∧(∀ ad,A=some ad→w.heap.size≤ad.block)∧Grew w w':=by
 have z1:=(Ag.new w 69 S.C).grew (zg (zc _) (.cells (#[.int .i64 0,.int .u64 0,.int .i64 0,.int .i64 0,.int .i64 0,.int .u64 0,.int .u64 0,.int .u64 0,.int .u64 0,.int .u64 0,.int .u64 0,.int .u64 0,.int .u64 0,.int .u64 0,.int .u64 0,.int .u64 0,.int .u64 0,.int .u64 0,.int .u64 0,.int .u64 0,.int .u64 0,.int .u64 0,.int .u64 0,.slice none 0 0]) 69))
 have z2:Ag ((w.alloc (.cells S.C 69)).alloc (.cells (#[.int .i64 0,.int .u64 0,.int .i64 0,.int .i64 0,.int .i64 0,.int .u64 0,.int .u64 0,.int .u64 0,.int .u64 0,.int .u64 0,.int .u64 0,.int .u64 0,.int .u64 0,.int .u64 0,.int .u64 0,.int .u64 0,.int .u64 0,.int .u64 0,.int .u64 0,.int .u64 0,.int .u64 0,.int .u64 0,.int .u64 0,.slice none 0 0]) 69)) (w.heap.size+1) (#[.int .i64 0,.int .u64 0,.int .i64 0,.int .i64 0,.int .i64 0,.int .u64 0,.int .u64 0,.int .u64 0,.int .u64 0,.int .u64 0,.int .u64 0,.int .u64 0,.int .u64 0,.int .u64 0,.int .u64 0,.int .u64 0,.int .u64 0,.int .u64 0,.int .u64 0,.int .u64 0,.int .u64 0,.int .u64 0,.int .u64 0,.slice none 0 0]:Array Value).toList:=by
  have:=Ag.new (w.alloc (.cells S.C 69)) 69 (#[.int .i64 0,.int .u64 0,.int .i64 0,.int .i64 0,.int .i64 0,.int .u64 0,.int .u64 0,.int .u64 0,.int .u64 0,.int .u64 0,.int .u64 0,.int .u64 0,.int .u64 0,.int .u64 0,.int .u64 0,.int .u64 0,.int .u64 0,.int .u64 0,.int .u64 0,.int .u64 0,.int .u64 0,.int .u64 0,.int .u64 0,.slice none 0 0])
  simpa using this
 have G0:=zg (zg (zc w) (.cells S.C 69)) (.cells (#[.int .i64 0,.int .u64 0,.int .i64 0,.int .i64 0,.int .i64 0,.int .u64 0,.int .u64 0,.int .u64 0,.int .u64 0,.int .u64 0,.int .u64 0,.int .u64 0,.int .u64 0,.int .u64 0,.int .u64 0,.int .u64 0,.int .u64 0,.int .u64 0,.int .u64 0,.int .u64 0,.int .u64 0,.int .u64 0,.int .u64 0,.slice none 0 0]) 69)
 have ha0:=ha.gr G0
 have CC:=hQ9 (zdw S.sw S.lf S.s S.A S.c S.l hS.len _ ha0)
 have hut:=Tryz.underlying69
 have hus:=Tryz.underlying67
 have HZI:=hQ9 z1
 have hm0:((w.alloc (.cells S.C 69)).alloc (.cells (#[.int .i64 0,.int .u64 0,.int .i64 0,.int .i64 0,.int .i64 0,.int .u64 0,.int .u64 0,.int .u64 0,.int .u64 0,.int .u64 0,.int .u64 0,.int .u64 0,.int .u64 0,.int .u64 0,.int .u64 0,.int .u64 0,.int .u64 0,.int .u64 0,.int .u64 0,.int .u64 0,.int .u64 0,.int .u64 0,.int .u64 0,.slice none 0 0]) 69)).rangeAt w.heap.size 3 (sgC S.sw S.lf S.s (.slice S.A S.l.length S.c)).toList:=xA z1.cell
 have HSG:Hid ((Tryz.prog.info? 67).map (·.size)=some (sgC S.sw S.lf S.s (.slice S.A S.l.length S.c)).toList.length):=hQ9 zL
 clear ha ha0 z1
 go_enter Tryz.func104,Tryz.ntmps104
 go_wp2_with(with_reducible refine wpList_load_mid rfl 67 (.tmp 3) rfl w.heap.size 3 rfl (sgC S.sw S.lf S.s (.slice S.A S.l.length S.c)).toList _ hm0 hus rfl HSG.out ?_;simp only [Array.toArray_toList])
 refine(CC.out).mono ?_
 rintro e w1 ⟨A2,c2,rfl,hr2,hb2,g1⟩
 have z1:=HZI.out.grew g1
 have z2':=z2.grew g1
 have G1:=ze G0 g1
 have hb0:w.heap.size+2≤((w.alloc (.cells S.C 69)).alloc (.cells (#[.int .i64 0,.int .u64 0,.int .i64 0,.int .i64 0,.int .i64 0,.int .u64 0,.int .u64 0,.int .u64 0,.int .u64 0,.int .u64 0,.int .u64 0,.int .u64 0,.int .u64 0,.int .u64 0,.int .u64 0,.int .u64 0,.int .u64 0,.int .u64 0,.int .u64 0,.int .u64 0,.int .u64 0,.int .u64 0,.int .u64 0,.slice none 0 0]) 69)).heap.size:=by rw [zl,zl];omega
 have hb2':∀ ad,A2=some ad→w.heap.size+2≤ad.block:=fun ad h=>Nat.le_trans hb0 (hb2 ad h)
 have SIG:Hid ((Tryz.prog.info? 67).map (·.size)=some (sgC S.sw S.lf S.s (.slice A2 S.l.length c2)).size):=hQ9 zL
 have ONG:=hQ9 (yL S.sw S.lf S.s A2 S.l.length c2)
 have THG:Hid (w1.there w.heap.size 3 (sgC S.sw S.lf S.s (.slice A2 S.l.length c2)).size):=hQ9 (fun i hi=>by
  have hi':i<21:=hi
  have:=z1.there (3+i) (by show 3+i<24;omega)
  simpa using this)
 have y1:Ag (w1.setCells w.heap.size 3 (sgC S.sw S.lf S.s (.slice A2 S.l.length c2)).toList) w.heap.size (S.mv A2 c2).C.toList:=by
  rw [VP.C_eq]at z1
  rw [VP.mv_C]
  exact(Ag.setTail (pre:=[.int .i64 S.vw,.int .u64 (S.cm:Nat),.int .i64 S.who]) (old:=(sgC S.sw S.lf S.s (.slice S.A S.l.length S.c)).toList) (vs:=(sgC S.sw S.lf S.s (.slice A2 S.l.length c2)).toList) z1 (by rw [jr,jr]))
 have K1:=zn (sgC S.sw S.lf S.s (.slice A2 S.l.length c2)).toList w.heap.size 3 w1
 have z3:=z2'.kp K1 (fun e=>by omega)
 have r3:=(hr2.kp K1 (Nat.le_refl _) (fun ad h _ e=>by have:=hb2' ad h;omega)).more K1.size
 have G3:=zi (o:=3) (b:=w.heap.size) (sgC S.sw S.lf S.s (.slice A2 S.l.length c2)).toList G1 (Nat.le_refl _)
 obtain⟨w2,hw2⟩:∃ v,w1.setCells w.heap.size 3 (sgC S.sw S.lf S.s (.slice A2 S.l.length c2)).toList=v:=⟨_,rfl⟩
 rw [hw2]at y1 z3 r3 G3
 have HW2:=hQ9 hw2
 clear CC HZI z2 z1 z2' hb2 hb0 G0 g1 hr2 G1 K1 hw2 hm0 HSG
 have SI1:Hid ((Tryz.prog.info? 69).map (·.size)=some (S.mv A2 c2).C.toList.length):=hQ9 zH
 have SI2:Hid ((Tryz.prog.info? 69).map (·.size)=some (S.mv A2 c2).C.size):=hQ9 zH
 have HON:=hQ9 (S.mv A2 c2).one
 have HTH:Hid (w2.there (w.heap.size+1) 0 (S.mv A2 c2).C.size):=hQ9 (z3.thereN 24 rfl)
 have z4:=Ag.set (vs:=(S.mv A2 c2).C.toList) z3 rfl
 have K4:=zn (S.mv A2 c2).C.toList (w.heap.size+1) 0 w2
 have G4:=zi (o:=0) (b:=w.heap.size+1) (S.mv A2 c2).C.toList G3 (by omega)
 have r4:=(r3.kp K4 (Nat.le_refl _) (fun ad h _ e=>by have:=hb2' ad h;omega)).more K4.size
 have hm:=y1.cell
 clear z3 y1 r3 G3 K4
 go_wp2_with(first
  | (with_reducible refine wpList_store_mid rfl 67 (.tmp 6) (.tmp 5) rfl w.heap.size 3 (sgC S.sw S.lf S.s (.slice A2 S.l.length c2)) rfl rfl THG.out SIG.out ONG.out ?_;rw [HW2.out])
  | (with_reducible refine wpList_load_mid rfl 69 (.tmp 1) rfl w.heap.size 0 rfl (S.mv A2 c2).C.toList _ hm hut rfl SI1.out ?_;simp only [Array.toArray_toList])
  | (with_reducible refine wpList_store_mid rfl 69 (.tmp 2) (.tmp 7) rfl (w.heap.size+1) 0 (S.mv A2 c2).C rfl rfl HTH.out SI2.out HON.out ?_))
 exact bodyPost_ret (zM Tryz.results104 _ _ (w.heap.size+1) _ _ rfl z4 hut rfl zH) rfl ⟨A2,c2,rfl,r4,(fun ad h=>by have:=hb2' ad h;omega),G4⟩
structure MvV (L M:List VP):Prop where
 len:M.length=L.length
 each:∀ k (h:k<L.length) (h':k<M.length),∃ A c,M[k]=L[k].mv A c
theorem MvV.nil:MvV [] []:=⟨rfl,fun k h=>absurd h (by simp)⟩
theorem MvV.snoc {L M:List VP} (h:MvV L M) (S:VP) (A:Option Addr) (c:Nat):MvV (L++[S]) (M++[S.mv A c]):=by
 refine⟨by simp [h.len],fun k h1 h2=>?_⟩
 by_cases hk:k<L.length
 ·rw [List.getElem_append_left hk,List.getElem_append_left (by rw [h.len];exact hk)]
  exact h.each k hk _
 ·have hk':k=L.length:=by have h3:(L++[S]).length=L.length+1:=by simp
                          omega
  subst hk'
  refine⟨A,c,?_⟩
  have e1:(L++[S])[L.length]'h1=S:=by simp
  have e2:(M++[S.mv A c])[L.length]'h2=S.mv A c:=by
   have:∀ n (hn:n<(M++[S.mv A c]).length),n=M.length→(M++[S.mv A c])[n]=S.mv A c:=fun n hn e=>by subst e;simp
   exact this _ _ h.len.symm
  rw [e1,e2]
theorem zR {S:VP} {w:World} (h:S.at w):∀ ad,S.A=some ad→S.l=[]∨ad.block<w.heap.size:=fun ad e=>by
 cases hl:S.l with
 | nil=>exact .inl rfl
 | cons a r =>
  obtain⟨ad',e',hb,_⟩:=h 0 (by simp [u64L,hl])
  rw [e]at e';cases e'
  exact .inr hb
theorem ya {S:VP} {w w':World} {row:Option Nat} (h:S.at w) (k:w.grownBy w' row) (hn:∀ ad,S.A=some ad→∀ g,row=some g→S.l=[]∨ad.block≠g):S.at w':=by
 by_cases hl:S.l=[]
 ·intro j hj;rw [hl]at hj;exact absurd hj (by simp [u64L])
 ·exact kD h k (fun ad e hh=>by
   rcases hn ad e ad.block hh with h1 | h1
   ·exact hl h1
   ·exact h1 rfl)
theorem zcd (A:Option Addr) (c:Nat) (L:List VP) (hl:L.length≤100000) (w:World) (hL:Vps w A L) :
 Calls Tryz.prog 103 #[.slice A L.length c,.func (.func 104) #[] #[]] w fun e w'=>∃ B c' M,e=.returned (.slice B L.length c')∧MvV L M∧Vps w' B M∧L.length≤c'∧c'≤maxLen∧(∀ ad,B=some ad→w.heap.size≤ad.block)∧(∀ S∈M,∀ ad,S.A=some ad→S.l=[]∨w.heap.size≤ad.block)∧Grew w w':=by
 obtain⟨i0,hi,hz0,hz1,hz2⟩:=info_parts kV
 have hut:=Tryz.underlying69
 have HL:=hQ9 hL
 have hr:=hL.rd
 clear hL
 obtain⟨w1,hmk,hown1,hgrow1⟩:=run_make_own (P:=Tryz.prog) w w.heap.size 36 69 i0 (.agg (#[.int .i64 0,.int .u64 0,.int .i64 0,.int .i64 0,.int .i64 0,.int .u64 0,.int .u64 0,.int .u64 0,.int .u64 0,.int .u64 0,.int .u64 0,.int .u64 0,.int .u64 0,.int .u64 0,.int .u64 0,.int .u64 0,.int .u64 0,.int .u64 0,.int .u64 0,.int .u64 0,.int .u64 0,.int .u64 0,.int .u64 0,.slice none 0 0]:Array Value)) 24 Tryz.underlying36 hi hz0 hz1 .i64 .i64 L.length (by rw [hz2];omega) (by unfold maxLen;omega) (Nat.le_refl _)
 have hg1:Grew w w1:=(Below.refl _ w).grown hgrow1 (Nat.le_refl _) (fun j hj=>by cases hj)
 clear hgrow1
 go_enter Tryz.func103,Tryz.ntmps103
 go_wp2_with fail
 clear hmk
 go_loopw [5,13] (fun rv iv wr=>∃(i:Nat) (M:List VP),i≤L.length∧iv=.int .i64 i∧MvV (L.take i) M∧(∀ S∈M,S.ok)∧(∀ S∈M,S.at wr)∧(∀ S∈M,∀ ad,S.A=some ad→∀ g,rv.ownBlock=some g→S.l=[]∨ad.block≠g)∧(∀ S∈M,∀ ad,S.A=some ad→S.l=[]∨w.heap.size≤ad.block)∧wr.ownsRow w.heap.size 69 24 rv i (vpL M).flatten∧Grew w wr) (fun _ i _=>L.length-(Go.RowKit.intOf i).toNat)
 case atStart=>exact⟨0,[],Nat.zero_le _,rfl,by simpa using MvV.nil,by simp,by simp,by simp,by simp,by simpa [vpL]using hown1,hg1⟩
 case round =>
  obtain⟨i,M,hil,rfl,hmv,hok,hat,hne,hlow,hrow,hg⟩:=hrel
  by_cases hlt:i<L.length
  ·obtain⟨q,hA,hq,hm⟩:=RdC.at24v hr hg i hlt
   subst hA
   have hts:L.take (i+1)=L.take i++[L[i]]:=by rw [List.take_succ_eq_append_getElem hlt]
   have HTS:=hQ9 hts
   have hSok:=HL.out.ok L[i] (List.getElem_mem hlt)
   have hSat:=(HL.out.at_ L[i] (List.getElem_mem hlt)).gr hg
   clear hts
   have hi0:(0:Int)≤(i:Int):=by omega
   have hi1:(i:Int)<(L.length:Int):=by omega
   have e4:IntKind.i64.wrap ((i:Int)+1)=(i:Int)+1:=IntWalk.i64_in _ (by omega)
   generalize L[i]=S at *
   have SIS:Hid ((Tryz.prog.info? 69).map (·.size)=some S.C.toList.length):=hQ9 zH
   have SIZ:Hid ((Tryz.prog.info? 69).map (·.size)=some S.C.size):=hQ9 zH
   have HON:=hQ9 S.one
   obtain⟨w2,hw2,ht2,g2,z2⟩:=xQ wr S.C rfl
   have HW2:=hQ9 hw2
   have HT2:=hQ9 ht2
   have hm2:=z2.cell
   have CCP:=hQ9 (zgv S hSok w2 (hSat.gr g2))
   have HOK:=hQ9 hok
   have HNE:=hQ9 hne
   have HLW:=hQ9 hlow
   have hwz:=hg.size
   have HWZ:=hQ9 hwz
   have HMV:=hQ9 hmv
   have HAT:=hQ9 (fun S hS=>(hat S hS).gr g2)
   have HSO:=hQ9 hSok
   clear hw2 ht2 hok hne hlow hmv hat hSok hSat hwz
   go_wp2_with(first
    | (with_reducible refine wpList_load_mid rfl 69 (.tmp 15) rfl q (i*24) rfl S.C.toList _ hm hut rfl SIS.out ?_;simp only [Array.toArray_toList])
    | (with_reducible refine wpList_store_mid rfl 69 (.tmp 7) (.tmp 16) rfl wr.heap.size 0 S.C rfl rfl HT2.out SIZ.out HON.out ?_;rw [HW2.out])
    | (with_reducible refine wpList_load_mid rfl 69 (.tmp 7) rfl wr.heap.size 0 rfl S.C.toList _ hm2 hut rfl SIS.out ?_;simp only [Array.toArray_toList]))
   refine(CCP.out).mono ?_
   rintro e w3 ⟨A2,c2,rfl,hat2,hfr2,gg⟩
   have G3:=ze hg (ze g2 gg)
   have hrow3:=zx (S:=fun _=>False) hrow (zj (ze g2 gg)) (fun g _ h=>h)
   have hsz3:=G3.size
   have hsz:(S.mv A2 c2).C.size=24:=rfl
   have HAT3:=hQ9 (fun T hT=>(HAT.out T hT).gr gg)
   have HOB:=hQ9 (zG hrow)
   have hgz:=(ze g2 gg).size
   have HFR:Hid (∀ ad,A2=some ad→S.l=[]∨wr.heap.size≤ad.block):=hQ9 (fun ad h=>.inr (Nat.le_trans g2.size (hfr2 ad h)))
   clear hrow hm hm2 z2 g2 gg hg HT2 HW2 CCP HAT
   go_wp2_with(first
    | (at_builtin;rw [xp];refine zK _ rfl (.tmp 17) (.tmp 21) 36 rfl w.heap.size 69 i0 (.agg (#[.int .i64 0,.int .u64 0,.int .i64 0,.int .i64 0,.int .i64 0,.int .u64 0,.int .u64 0,.int .u64 0,.int .u64 0,.int .u64 0,.int .u64 0,.int .u64 0,.int .u64 0,.int .u64 0,.int .u64 0,.int .u64 0,.int .u64 0,.int .u64 0,.int .u64 0,.int .u64 0,.int .u64 0,.int .u64 0,.int .u64 0,.slice none 0 0]:Array Value)) 24 208 Tryz.underlying36 hi hz0 hz1 hz2 rfl (by decide) _ _ _ rfl (hrow3.alloc _) ⟨w3.heap.size,0,none⟩ 1 1 (S.mv A2 c2).C.toList rfl rfl (fun j u hj=>yd w3 (S.mv A2 c2).C 69 j u hj) (S.mv A2 c2).one' (by unfold maxLen;omega) (by omega) (by simp;omega) ?_;intro v' w5 hown5 hgrow5 hob5))
   have ga:=zg (zc w3) (.cells (S.mv A2 c2).C 69)
   go_roundw
   case rel =>
    refine⟨i+1,M++[S.mv A2 c2],by omega,by go_num,by rw [HTS.out];exact HMV.out.snoc S A2 c2,?_,?_,?_,?_,by rw [yK];exact hown5,(zg G3 _).grown hgrow5 (by simp;omega) (zA hrow3)⟩
    ·intro T hT
     rcases List.mem_append.1 hT with h | h
     ·exact HOK.out T h
     ·obtain rfl:T=S.mv A2 c2:=by simpa using h
      exact VP.mv_ok HSO.out _ _
    ·intro T hT
     rcases List.mem_append.1 hT with h | h
     ·exact ya ((HAT3.out T h).gr ga) hgrow5 (fun ad e g hg=>HNE.out T h ad e g hg)
     ·obtain rfl:T=S.mv A2 c2:=by simpa using h
      exact ya (hat2.gr ga) hgrow5 (fun ad e g hg=>by
       rcases HFR.out ad e with h1 | h1
       ·exact .inl h1
       ·have:=(HOB.out g hg).2
        exact .inr (by omega))
    ·intro T hT ad e g hg
     have hlt9:T.l=[]∨ad.block<(w3.alloc (.cells (S.mv A2 c2).C 69)).heap.size:=by
      rcases List.mem_append.1 hT with h | h
      ·exact zR ((HAT3.out T h).gr ga) ad e
      ·obtain rfl:T=S.mv A2 c2:=by simpa using h
       exact zR (hat2.gr ga) ad e
     rcases hob5 with h3 | h3
     ·rw [h3]at hg
      rcases List.mem_append.1 hT with h | h
      ·exact HNE.out T h ad e g hg
      ·obtain rfl:T=S.mv A2 c2:=by simpa using h
       rcases HFR.out ad e with h1 | h1
       ·exact .inl h1
       ·have:=(HOB.out g hg).2
        exact .inr (by omega)
     ·rw [h3]at hg;injection hg with hg
      rcases hlt9 with h1 | h1
      ·exact .inl h1
      ·exact .inr (by omega)
    ·intro T hT ad e
     rcases List.mem_append.1 hT with h | h
     ·exact HLW.out T h ad e
     ·obtain rfl:T=S.mv A2 c2:=by simpa using h
      rcases HFR.out ad e with h1 | h1
      ·exact .inl h1
      ·exact .inr (Nat.le_trans HWZ.out h1)
   case measure=>simp [Go.RowKit.intOf];omega
  ·obtain rfl:i=L.length:=by omega
   rw [List.take_length]at hmv
   obtain⟨B,c',rfl,hB,hc1,hc2,hbB⟩:=xi hrow hmv.len
   go_wp2_with fail
   go_ret
   exact⟨B,c',M,rfl,hmv,⟨hB,hok,hat⟩,hc1,hc2,fun ad e=>(hbB ad e).1,hlow,hg⟩
noncomputable def vdV (K:KP) (u:Int) (d:Nat) (S:VP):Int:=if S.vw=u then (if S.cm=d then vvS K S else 12) else 12
theorem vd1_vp {K:KP} {S:VP} (hK:K.ok) (hS:S.ok) (u:Int) (d bq bk:Nat) (qs:Value) (w:World) (hs:Std w) (hk:K.at w) (ha:S.at w) (hq:Ag w bq [.int .i64 u,.int .u64 (d:Nat),qs]) (hkc:Ag w bk K.C.toList) :
 Calls Tryz.prog 108 #[.agg S.C,.pointer (some ⟨bq,0,none⟩),.pointer (some ⟨bk,0,none⟩)] w fun e w'=>e=.returned (.int .i64 (vdV K u d S))∧Grew w w':=by
 have zs:=Ag.new w 69 S.C
 have G:=zg (zc w) (.cells S.C 69)
 have hc0:(w.alloc (.cells S.C 69)).cell? ⟨w.heap.size,0,none⟩=some (.int .i64 S.vw):=by simpa using zs.cell 0 _ rfl
 have hc1:(w.alloc (.cells S.C 69)).cell? ⟨w.heap.size,1,none⟩=some (.int .u64 (S.cm:Nat)):=by simpa using zs.cell 1 _ rfl
 have hu':(w.alloc (.cells S.C 69)).cell? ⟨bq,0,none⟩=some (.int .i64 u):=by simpa using (hq.grew G).cell 0 _ rfl
 have hd':(w.alloc (.cells S.C 69)).cell? ⟨bq,1,none⟩=some (.int .u64 (d:Nat)):=by simpa using (hq.grew G).cell 1 _ rfl
 have hut:=Tryz.underlying69
 have huk:=Tryz.underlying49
 have SIS:Hid ((Tryz.prog.info? 69).map (·.size)=some S.C.toList.length):=hQ9 zH
 have SIK:Hid ((Tryz.prog.info? 49).map (·.size)=some K.C.toList.length):=hQ9 (show _=some 3 by kernel_rfl)
 have hms:=zs.cell
 have hmk:=(hkc.grew G).cell
 have CV:=hQ9 (fun W h1 h2 h3=>qR hK hS W h1 h2 h3)
 have HS:=hQ9 hs
 have HKA:=hQ9 hk
 have HSA:=hQ9 ha
 have HF:Hid (vdV K u d S=if S.vw=u then (if S.cm=d then vvS K S else 12) else 12):=hQ9 rfl
 clear zs hq hkc hs hk ha hK hS
 generalize S.C=g at *
 generalize K.C=gk at *
 generalize vvS K S=va at *
 by_cases hcu:S.vw=u
 case neg =>
  have e1:(S.vw != u)=true:=by simpa using hcu
  have HE:Hid (vdV K u d S=12):=hQ9 (by rw [HF.out,if_neg hcu])
  clear hcu
  generalize S.vw=vw at *
  generalize S.cm=cm at *
  go_enter Tryz.func108,Tryz.ntmps108
  go_wp2_with fail
  go_ret
  exact⟨by rw [HE.out];rfl,G⟩
 have e0:(S.vw != u)=false:=by simpa using hcu
 have HCU:=hQ9 hcu
 clear hcu
 generalize S.vw=vw at *
 by_cases hcd:S.cm=d
 ·have e1:((S.cm:Int) != (d:Int))=false:=by simp [hcd]
  have HCD:=hQ9 hcd
  clear hcd
  generalize S.cm=cm at *
  go_enter Tryz.func108,Tryz.ntmps108
  go_wp2_with(first
   | (with_reducible refine wpList_load_mid rfl 49 (.tmp 2) rfl bk 0 rfl gk.toList _ hmk huk rfl SIK.out ?_;simp only [Array.toArray_toList])
   | (with_reducible refine wpList_load_mid rfl 69 (.tmp 3) rfl w.heap.size 0 rfl g.toList _ hms hut rfl SIS.out ?_;simp only [Array.toArray_toList]))
  refine(CV.out _ (HS.out.grew G) (HKA.out.gr G) (HSA.out.gr G)).mono ?_
  rintro e w1 ⟨rfl,gg⟩
  have G2:=ze G gg
  have HE:Hid (vdV K u d S=va):=hQ9 (by rw [HF.out,if_pos HCU.out,HCD.out,if_pos rfl])
  clear hms hmk hc0 hc1 hd' hu' gg HF
  go_wp2_with fail
  go_ret
  exact⟨by rw [HE.out];rfl,G2⟩
 ·have e1:((S.cm:Int) != (d:Int))=true:=by simp;omega
  have HE:Hid (vdV K u d S=12):=hQ9 (by rw [HF.out,if_pos HCU.out,if_neg hcd])
  clear hcd
  generalize S.cm=cm at *
  go_enter Tryz.func108,Tryz.ntmps108
  go_wp2_with fail
  go_ret
  exact⟨by rw [HE.out];rfl,G⟩
noncomputable def chqV (K:KP) (u:Int) (d:Nat):Option Int→List VP→Int
 | _,[]=>0
 | p,S::r=>if p.any (fun x=>decide (S.who≤x))=true then 10 else if vdV K u d S=0 then chqV K u d (some S.who) r else vdV K u d S
def prevV (L:List VP):Nat→Option Int
 | 0=>none
 | j+1=>(L[j]?).map VP.who
theorem za3 {K:KP} {u:Int} {d:Nat} {p:Option Int} {S:VP} {r:List VP} (h:p.any (fun x=>decide (S.who≤x))=true):chqV K u d p (S::r)=10:=by rw [chqV,if_pos h]
theorem y6 {K:KP} {u:Int} {d:Nat} {p:Option Int} {S:VP} {r:List VP} (h:p.any (fun x=>decide (S.who≤x))=false) (hv:vdV K u d S=0):chqV K u d p (S::r)=chqV K u d (some S.who) r:=by rw [chqV,if_neg (by simp [h]),if_pos hv]
theorem kW {K:KP} {u:Int} {d:Nat} {p:Option Int} {S:VP} {r:List VP} (h:p.any (fun x=>decide (S.who≤x))=false) (hv:¬vdV K u d S=0):chqV K u d p (S::r)=vdV K u d S:=by rw [chqV,if_neg (by simp [h]),if_neg hv]
noncomputable def cqV (K:KP) (u:Int) (d:Nat) (L:List VP):Int:=if L.length=(2*K.f+1).toNat then chqV K u d none L else 8
theorem chq_vp {K:KP} (hK:K.ok) (A:Option Addr) (c:Nat) (L:List VP) (hl:L.length≤100000) (u:Int) (d bq bk:Nat) (qs:Value) (w:World) (hs:Std w) (hk:K.at w) (hL:Vps w A L) (hq:Ag w bq [.int .i64 u,.int .u64 (d:Nat),qs]) (hkc:Ag w bk K.C.toList) :
 Calls Tryz.prog 107 #[.agg #[.int .i64 K.f],.slice A L.length c,.func (.func 101) #[] #[],.func (.func 108) #[] #[.pointer (some ⟨bq,0,none⟩),.pointer (some ⟨bk,0,none⟩)]] w fun e w'=>e=.returned (.int .i64 (cqV K u d L))∧Grew w w':=by
 have huf:=Tryz.underlying46
 have hut:=Tryz.underlying69
 have HCF:Hid ((Tryz.prog.info? 46).map (·.size)=some [Value.int .i64 K.f].length):=hQ9 (by kernel_rfl)
 have hf:=hK.f
 have CQ:=hQ9 (fun W=>qq_ok K.f hf W)
 have zk:=Ag.new w 46 #[.int .i64 K.f]
 have G1:=zg (zc w) (.cells #[.int .i64 K.f] 46)
 have hm0:(w.alloc (.cells #[.int .i64 K.f] 46)).rangeAt w.heap.size 0 [.int .i64 K.f]:=zkx zk
 have CVV:=hQ9 (fun S (hS:S∈L) W (g:Grew w W)=>vd1_vp hK (hL.ok S hS) u d bq bk qs W (hs.grew g) (hk.gr g) ((hL.at_ S hS).gr g) (hq.grew g) (hkc.grew g))
 obtain⟨qn,hqn⟩:∃ qn:Nat,2*K.f+1=(qn:Int):=⟨(2*K.f+1).toNat,by omega⟩
 have HCE:Hid (cqV K u d L=if L.length=qn then chqV K u d none L else 8):=hQ9 (by unfold cqV;rw [hqn,Int.toNat_natCast])
 rw [hqn]at CQ
 have hr:=hL.rd
 clear hs hk hq hkc hqn hf hL zk
 have hKf:True:=trivial
 generalize K.f=kf at CQ HCF hm0 G1 ⊢
 go_enter Tryz.func107,Tryz.ntmps107
 go_wp2_with(with_reducible refine wpList_load_mid rfl 46 (.tmp 4) rfl w.heap.size 0 rfl [.int .i64 kf] _ hm0 huf rfl HCF.out ?_)
 refine(CQ.out _).mono ?_
 rintro e w1 ⟨rfl,gg⟩
 have G2:=ze G1 gg
 clear hm0 G1 gg CQ
 by_cases hlen:L.length=qn
 case neg =>
  have e1:((L.length:Int) != (qn:Int))=true:=by simp;omega
  have HR:Hid (cqV K u d L=8):=hQ9 (by rw [HCE.out,if_neg hlen])
  clear hlen
  go_wp2_with fail
  go_ret
  exact⟨by rw [HR.out];rfl,G2⟩
 have HR:Hid (cqV K u d L=chqV K u d none L):=hQ9 (by rw [HCE.out,if_pos hlen])
 have e1:((L.length:Int) != (qn:Int))=false:=by simp [hlen]
 clear hlen HCE
 go_wp2_with fail
 clear e1
 go_loopw [19] (fun iv wr=>∃ i:Nat,i≤L.length∧iv=.int .i64 i∧chqV K u d none L=chqV K u d (prevV L i) (L.drop i)∧Grew w wr) (fun iv _=>L.length-(Go.RowKit.intOf iv).toNat)
 case atStart=>exact⟨0,Nat.zero_le _,rfl,rfl,G2⟩
 case round =>
  obtain⟨i,hil,rfl,hinv,hg⟩:=hrel
  by_cases hlt:i<L.length
  ·obtain⟨q,hA,hq,hm⟩:=RdC.at24v hr hg i hlt
   subst hA
   have hdr:L.drop i=L[i]::L.drop (i+1):=by rw [List.drop_eq_getElem_cons hlt]
   have hnx:prevV L (i+1)=some (VP.who L[i]):=by show(L[i]?).map VP.who=_;rw [List.getElem?_eq_getElem hlt];rfl
   have CVi:=fun W g=>CVV.out L[i] (List.getElem_mem hlt) W g
   have hi0:(0:Int)≤(i:Int):=by omega
   have hi1:(i:Int)<(L.length:Int):=by omega
   rw [hdr]at hinv
   have hgP:∀ j (hj:j+1=i) (hj':j<L.length),prevV L i=some (VP.who L[j]):=fun j hj hj'=>by subst hj;show(L[j]?).map VP.who=_;rw [List.getElem?_eq_getElem hj'];rfl
   have hmP:∀ j (hj:j<L.length),wr.rangeAt q (j*24) L[j].C.toList:=fun j hj=>by
    obtain⟨q',e',_,h'⟩:=RdC.at24v hr hg j hj
    injection e' with e';injection e' with e';subst e';exact h'
   generalize L[i]=S at *
   have CVD:=hQ9 CVi
   have CWS:=hQ9 (fun W=>zca S W)
   have SIS:Hid ((Tryz.prog.info? 69).map (·.size)=some S.C.toList.length):=hQ9 zH
   have SIZ:Hid ((Tryz.prog.info? 69).map (·.size)=some S.C.size):=hQ9 zH
   have HON:=hQ9 S.one
   obtain⟨w2,hw2,ht2,g2,z2⟩:=xQ wr S.C rfl
   have HW2:=hQ9 hw2
   have HT2:=hQ9 ht2
   have HM2:=hQ9 (fun y (g:Grew w2 y)=>(z2.grew g).cell)
   have HNX:=hQ9 hnx
   have HINV:=hQ9 hinv
   clear hw2 ht2 CVi hdr hinv hnx z2
   go_upto_region 6 with (first
    | (with_reducible refine wpList_load_mid rfl 69 (.tmp 22) rfl q (i*24) rfl S.C.toList _ hm hut rfl SIS.out ?_;simp only [Array.toArray_toList])
    | (with_reducible refine wpList_store_mid rfl 69 (.tmp 10) (.tmp 23) rfl wr.heap.size 0 S.C rfl rfl HT2.out SIZ.out HON.out ?_;rw [HW2.out]))
   clear hm HT2 HW2 SIZ HON
   by_cases hz:i=0
   ·have HPA:Hid ((prevV L i).any (fun x=>decide (S.who≤x))=false):=hQ9 (by rw [hz];rfl)
    have b0:decide (0<i)=false:=decide_eq_false (by omega)
    clear hz hgP hmP
    refine zy 14 (fun ix9=>match ix9 with
     | 0=>fun v _=>v=.int .i64 (i:Int)
     | 1=>fun v _=>v=.bool false
     | 2=>fun v _=>v=.bool false
     | 3=>fun v _=>v=undef
     | 4=>fun v _=>v=undef
     | 5=>fun v _=>v=undef
     | 6=>fun v _=>v=undef
     | 7=>fun v _=>v=undef
     | 8=>fun v _=>v=undef
     | 9=>fun v _=>v=undef
     | 10=>fun v _=>v=undef
     | 11=>fun v _=>v=undef
     | 12=>fun v _=>v=undef
     | 13=>fun v _=>v=undef
     | _=>fun _ _=>True) (by kernel_rfl) (by kernel_rfl) ?_ ?_ ?_
    ·intro i v x y h hg
     match i,h with
     | 0,h | 1,h | 2,h | 3,h | 4,h | 5,h | 6,h | 7,h | 8,h | 9,h | 10,h | 11,h | 12,h | 13,h=>exact h
     | m+14,_=>trivial
    ·simp only [actOf,tk1,tk0,dr1,dr0,Act.put,si1,st1,st0,Nat.reduceAdd]
     refine⟨?_,?_,?_,?_,?_,?_,?_,?_,?_,?_,?_,?_,?_,?_,trivial⟩
     ·intro vs y hg hd
      dsimp only
      go_wp2_with fail
      exact⟨rfl,_,rfl,zc _,rfl⟩
     ·intro vs y hg hd
      obtain⟨h0,_⟩:=hd
      replace h0:=h0 rfl
      dsimp only
      rw [show vs 0=_ from h0]
      go_wp2_with fail
      exact⟨rfl,_,rfl,zc _,rfl⟩
     ·intro vs y hg hd
      obtain⟨h1,_⟩:=hd
      replace h1:=h1 rfl
      dsimp only
      rw [show vs 1=_ from h1]
      go_wp2_with fail
      exact⟨rfl,_,rfl,zc _,rfl⟩
     ·intro vs y hg hd
      have hx:(Region.binds .any { on:=2,ground:=.guard }=true→vs 2=.bool false)∧True:=hd
      have h2:vs 2=.bool false:=hx.1 rfl
      clear hx
      dsimp only
      rw [show vs 2=_ from h2]
      go_wp2_with fail
      exact⟨rfl,_,rfl,zc _,rfl⟩
     ·intro vs y hg hd
      have hx:(Region.binds .any { on:=2,ground:=.guard }=true→vs 2=.bool false)∧True:=hd
      have h2:vs 2=.bool false:=hx.1 rfl
      clear hx
      dsimp only
      rw [show vs 2=_ from h2]
      go_wp2_with fail
      exact⟨rfl,_,rfl,zc _,rfl⟩
     ·intro vs y hg hd
      have hx:(Region.binds .any { on:=3,ground:=.data }=true→vs 3=undef)∧(Region.binds .any { on:=4,ground:=.data }=true→vs 4=undef)∧(Region.binds .any { on:=2,ground:=.chain }=true→vs 2=.bool false)∧(Region.binds .any { on:=2,ground:=.guard }=true→vs 2=.bool false)∧True:=hd
      have h3:vs 3=undef:=hx.1 rfl
      have h4:vs 4=undef:=hx.2.1 rfl
      have h2:vs 2=.bool false:=hx.2.2.2.1 rfl
      clear hx
      dsimp only
      rw [show vs 3=_ from h3,show vs 4=_ from h4,show vs 2=_ from h2]
      go_wp2_with fail
      exact⟨rfl,_,rfl,zc _,rfl⟩
     ·intro vs y hg hd
      have hx:(Region.binds .any { on:=2,ground:=.guard }=true→vs 2=.bool false)∧True:=hd
      have h2:vs 2=.bool false:=hx.1 rfl
      clear hx
      dsimp only
      rw [show vs 2=_ from h2]
      go_wp2_with fail
      exact⟨rfl,_,rfl,zc _,rfl⟩
     ·intro vs y hg hd
      have hx:(Region.binds .any { on:=2,ground:=.guard }=true→vs 2=.bool false)∧True:=hd
      have h2:vs 2=.bool false:=hx.1 rfl
      clear hx
      dsimp only
      rw [show vs 2=_ from h2]
      go_wp2_with fail
      exact⟨rfl,_,rfl,zc _,rfl⟩
     ·intro vs y hg hd
      have hx:(Region.binds .any { on:=2,ground:=.guard }=true→vs 2=.bool false)∧True:=hd
      have h2:vs 2=.bool false:=hx.1 rfl
      clear hx
      dsimp only
      rw [show vs 2=_ from h2]
      go_wp2_with fail
      exact⟨rfl,_,rfl,zc _,rfl⟩
     ·intro vs y hg hd
      have hx:(Region.binds .any { on:=8,ground:=.data }=true→vs 8=undef)∧(Region.binds .any { on:=2,ground:=.guard }=true→vs 2=.bool false)∧True:=hd
      have h8:vs 8=undef:=hx.1 rfl
      have h2:vs 2=.bool false:=hx.2.1 rfl
      clear hx
      dsimp only
      rw [show vs 8=_ from h8,show vs 2=_ from h2]
      go_wp2_with fail
      exact⟨rfl,_,rfl,zc _,rfl⟩
     ·intro vs y hg hd
      have hx:(Region.binds .any { on:=7,ground:=.data }=true→vs 7=undef)∧(Region.binds .any { on:=9,ground:=.data }=true→vs 9=undef)∧(Region.binds .any { on:=2,ground:=.guard }=true→vs 2=.bool false)∧True:=hd
      have h7:vs 7=undef:=hx.1 rfl
      have h9:vs 9=undef:=hx.2.1 rfl
      have h2:vs 2=.bool false:=hx.2.2.1 rfl
      clear hx
      dsimp only
      rw [show vs 7=_ from h7,show vs 9=_ from h9,show vs 2=_ from h2]
      go_wp2_with fail
      exact⟨rfl,_,rfl,zc _,rfl⟩
     ·intro vs y hg hd
      have hx:(Region.binds .any { on:=10,ground:=.data }=true→vs 10=undef)∧(Region.binds .any { on:=2,ground:=.guard }=true→vs 2=.bool false)∧True:=hd
      have h10:vs 10=undef:=hx.1 rfl
      have h2:vs 2=.bool false:=hx.2.1 rfl
      clear hx
      dsimp only
      rw [show vs 10=_ from h10,show vs 2=_ from h2]
      go_wp2_with fail
      exact⟨rfl,_,rfl,zc _,rfl⟩
     ·intro vs y hg hd
      have hx:(Region.binds .any { on:=6,ground:=.data }=true→vs 6=undef)∧(Region.binds .any { on:=11,ground:=.data }=true→vs 11=undef)∧(Region.binds .any { on:=5,ground:=.chain }=true→vs 5=undef)∧(Region.binds .any { on:=2,ground:=.guard }=true→vs 2=.bool false)∧True:=hd
      have h6:vs 6=undef:=hx.1 rfl
      have h11:vs 11=undef:=hx.2.1 rfl
      have h2:vs 2=.bool false:=hx.2.2.2.1 rfl
      clear hx
      dsimp only
      rw [show vs 6=_ from h6,show vs 11=_ from h11,show vs 2=_ from h2]
      go_wp2_with fail
      exact⟨rfl,_,rfl,zc _,rfl⟩
     ·intro vs y hg hd
      have hx:(Region.binds .any { on:=5,ground:=.data }=true→vs 5=undef)∧(Region.binds .any { on:=12,ground:=.data }=true→vs 12=undef)∧(Region.binds .any { on:=2,ground:=.guard }=true→vs 2=.bool false)∧True:=hd
      have h5:vs 5=undef:=hx.1 rfl
      have h12:vs 12=undef:=hx.2.1 rfl
      have h2:vs 2=.bool false:=hx.2.2.1 rfl
      clear hx
      dsimp only
      rw [show vs 5=_ from h5,show vs 12=_ from h12,show vs 2=_ from h2]
      go_wp2_with fail
      exact⟨rfl,_,rfl,zc _,rfl⟩
    ·intro vs w3 hg3 hJ
     have j0:vs 0=.int .i64 (i:Int):=hJ 0 (by decide)
     have j1:vs 1=.bool false:=hJ 1 (by decide)
     have j2:vs 2=.bool false:=hJ 2 (by decide)
     have j3:vs 3=undef:=hJ 3 (by decide)
     have j4:vs 4=undef:=hJ 4 (by decide)
     have j5:vs 5=undef:=hJ 5 (by decide)
     have j6:vs 6=undef:=hJ 6 (by decide)
     have j7:vs 7=undef:=hJ 7 (by decide)
     have j8:vs 8=undef:=hJ 8 (by decide)
     have j9:vs 9=undef:=hJ 9 (by decide)
     have j10:vs 10=undef:=hJ 10 (by decide)
     have j11:vs 11=undef:=hJ 11 (by decide)
     have j12:vs 12=undef:=hJ 12 (by decide)
     have j13:vs 13=undef:=hJ 13 (by decide)
     clear hJ
     simp only [actOf,tk1,tk0,dr1,dr0,Act.put,si1,st1,st0,Nat.reduceAdd]
     have G3:=ze hg (ze g2 hg3)
     have hm3:=HM2.out w3 hg3
     have e4:IntKind.i64.wrap ((i:Int)+1)=((i+1:Nat):Int):=by rw [IntWalk.i64_in _ (by omega)];omega
     go_wp2_with(with_reducible refine wpList_load_mid rfl 69 (.tmp 10) rfl wr.heap.size 0 rfl S.C.toList _ hm3 hut rfl SIS.out ?_;simp only [Array.toArray_toList])
     refine(CVD.out w3 (ze hg (ze g2 hg3))).mono ?_
     rintro e w4 ⟨rfl,gg⟩
     have G4:=ze G3 gg
     clear hm3 G3
     by_cases hv:vdV K u d S=0
     ·have HSTEP:Hid (chqV K u d none L=chqV K u d (prevV L (i+1)) (L.drop (i+1))):=hQ9 (by rw [HINV.out,HNX.out];exact y6 HPA.out hv)
      rw [hv]
      clear hv
      go_wp2_with fail
      go_roundw
      case rel=>exact⟨i+1,by omega,rfl,HSTEP.out,G4⟩
      case measure=>simp [Go.RowKit.intOf];omega
     ·have e5:(vdV K u d S != 0)=true:=by simpa using hv
      have HRES:Hid (chqV K u d none L=vdV K u d S):=hQ9 (by rw [HINV.out];exact kW HPA.out hv)
      clear hv
      generalize vdV K u d S=ve at *
      go_wp2_with fail
      go_ret
      exact⟨by rw [HR.out,HRES.out];rfl,G4⟩
   ·obtain⟨j,hj⟩:∃ j,i=j+1:=⟨i-1,by omega⟩
    have hmp:=hmP j (by omega)
    have hgp:=hgP j hj.symm (by omega)
    have b0:decide (0<i)=true:=decide_eq_true (by omega)
    have e33:IntKind.i64.wrap ((i:Int)-1)=(j:Int):=by rw [IntWalk.i64_in _ (by omega)];omega
    have hj0:(0:Int)≤(j:Int):=by omega
    have hj1:(j:Int)<(L.length:Int):=by omega
    clear hmP hgP hz
    generalize hPP:L[j]'(by omega)=P at hmp hgp
    clear hPP hj
    have CWP:=hQ9 (fun W=>zca P W)
    have SIP:Hid ((Tryz.prog.info? 69).map (·.size)=some P.C.toList.length):=hQ9 zH
    have HMP:=hQ9 (fun y (g:Grew w2 y)=>zcc hmp hq (ze g2 g))
    obtain⟨le,hle⟩:∃ le,decide (S.who≤P.who)=le:=⟨_,rfl⟩
    have HPA0:Hid ((prevV L i).any (fun x=>decide (S.who≤x))=le):=hQ9 (by rw [hgp,←hle];rfl)
    clear hgp hmp
    refine zy 14 (fun ix9=>match ix9 with
     | 0=>fun v _=>v=.int .i64 (i:Int)
     | 1=>fun v _=>v=.bool true
     | 2=>fun v _=>v=.bool true
     | 3=>fun v _=>v=.func (.func 101) #[] #[]
     | 4=>fun v _=>v=.agg S.C
     | 5=>fun v _=>v=.int .i64 S.who
     | 6=>fun v _=>v=.func (.func 101) #[] #[]
     | 7=>fun v _=>v=.slice (some ⟨q,0,none⟩) L.length c
     | 8=>fun v _=>v=.int .i64 (i:Int)
     | 9=>fun v _=>v=.int .i64 (j:Int)
     | 10=>fun v _=>v=.pointer (some ⟨q,j*24,none⟩)
     | 11=>fun v _=>v=.agg P.C
     | 12=>fun v _=>v=.int .i64 P.who
     | 13=>fun v _=>v=.bool le
     | _=>fun _ _=>True) (by kernel_rfl) (by kernel_rfl) ?_ ?_ ?_
    ·intro i v x y h hg
     match i,h with
     | 0,h | 1,h | 2,h | 3,h | 4,h | 5,h | 6,h | 7,h | 8,h | 9,h | 10,h | 11,h | 12,h | 13,h=>exact h
     | m+14,_=>trivial
    ·simp only [actOf,tk1,tk0,dr1,dr0,Act.put,si1,st1,st0,Nat.reduceAdd]
     refine⟨?_,?_,?_,?_,?_,?_,?_,?_,?_,?_,?_,?_,?_,?_,trivial⟩
     ·intro vs y hg hd
      dsimp only
      go_wp2_with fail
      exact⟨rfl,_,rfl,zc _,rfl⟩
     ·intro vs y hg hd
      obtain⟨h0,_⟩:=hd
      replace h0:=h0 rfl
      dsimp only
      rw [show vs 0=_ from h0]
      go_wp2_with fail
      exact⟨rfl,_,rfl,zc _,rfl⟩
     ·intro vs y hg hd
      obtain⟨h1,_⟩:=hd
      replace h1:=h1 rfl
      dsimp only
      rw [show vs 1=_ from h1]
      go_wp2_with fail
      exact⟨rfl,_,rfl,zc _,rfl⟩
     ·intro vs y hg hd
      have hx:(Region.binds .any { on:=2,ground:=.guard }=true→vs 2=.bool true)∧True:=hd
      have h2:vs 2=.bool true:=hx.1 rfl
      clear hx
      dsimp only
      rw [show vs 2=_ from h2]
      go_wp2_with fail
      exact⟨rfl,_,rfl,zc _,rfl⟩
     ·intro vs y hg hd
      have hx:(Region.binds .any { on:=2,ground:=.guard }=true→vs 2=.bool true)∧True:=hd
      have h2:vs 2=.bool true:=hx.1 rfl
      clear hx
      dsimp only
      rw [show vs 2=_ from h2]
      have hm:=HM2.out y hg
      go_wp2_with(refine zw (by rfl) 69 (.tmp 10) rfl wr.heap.size 0 rfl S.C.toList _ hm hut rfl SIS.out ?_;simp only [Array.toArray_toList])
      exact⟨rfl,_,rfl,zc _,rfl⟩
     ·intro vs y hg hd
      have hx:(Region.binds .any { on:=3,ground:=.data }=true→vs 3=.func (.func 101) #[] #[])∧(Region.binds .any { on:=4,ground:=.data }=true→vs 4=.agg S.C)∧(Region.binds .any { on:=2,ground:=.chain }=true→vs 2=.bool true)∧(Region.binds .any { on:=2,ground:=.guard }=true→vs 2=.bool true)∧True:=hd
      have h3:vs 3=.func (.func 101) #[] #[]:=hx.1 rfl
      have h4:vs 4=.agg S.C:=hx.2.1 rfl
      have h2:vs 2=.bool true:=hx.2.2.2.1 rfl
      clear hx
      dsimp only
      rw [show vs 3=_ from h3,show vs 4=_ from h4,show vs 2=_ from h2]
      go_wp2_with(go_at_call 101;refine(CWS.out y).mono ?_;rintro e z ⟨rfl,gz⟩)
      exact⟨rfl,_,rfl,gz,rfl⟩
     ·intro vs y hg hd
      have hx:(Region.binds .any { on:=2,ground:=.guard }=true→vs 2=.bool true)∧True:=hd
      have h2:vs 2=.bool true:=hx.1 rfl
      clear hx
      dsimp only
      rw [show vs 2=_ from h2]
      go_wp2_with fail
      exact⟨rfl,_,rfl,zc _,rfl⟩
     ·intro vs y hg hd
      have hx:(Region.binds .any { on:=2,ground:=.guard }=true→vs 2=.bool true)∧True:=hd
      have h2:vs 2=.bool true:=hx.1 rfl
      clear hx
      dsimp only
      rw [show vs 2=_ from h2]
      go_wp2_with fail
      exact⟨rfl,_,rfl,zc _,rfl⟩
     ·intro vs y hg hd
      have hx:(Region.binds .any { on:=2,ground:=.guard }=true→vs 2=.bool true)∧True:=hd
      have h2:vs 2=.bool true:=hx.1 rfl
      clear hx
      dsimp only
      rw [show vs 2=_ from h2]
      go_wp2_with fail
      exact⟨rfl,_,rfl,zc _,rfl⟩
     ·intro vs y hg hd
      have hx:(Region.binds .any { on:=8,ground:=.data }=true→vs 8=.int .i64 (i:Int))∧(Region.binds .any { on:=2,ground:=.guard }=true→vs 2=.bool true)∧True:=hd
      have h8:vs 8=.int .i64 (i:Int):=hx.1 rfl
      have h2:vs 2=.bool true:=hx.2.1 rfl
      clear hx
      dsimp only
      rw [show vs 8=_ from h8,show vs 2=_ from h2]
      go_wp2_with fail
      exact⟨rfl,_,rfl,zc _,rfl⟩
     ·intro vs y hg hd
      have hx:(Region.binds .any { on:=7,ground:=.data }=true→vs 7=.slice (some ⟨q,0,none⟩) L.length c)∧(Region.binds .any { on:=9,ground:=.data }=true→vs 9=.int .i64 (j:Int))∧(Region.binds .any { on:=2,ground:=.guard }=true→vs 2=.bool true)∧True:=hd
      have h7:vs 7=.slice (some ⟨q,0,none⟩) L.length c:=hx.1 rfl
      have h9:vs 9=.int .i64 (j:Int):=hx.2.1 rfl
      have h2:vs 2=.bool true:=hx.2.2.1 rfl
      clear hx
      dsimp only
      rw [show vs 7=_ from h7,show vs 9=_ from h9,show vs 2=_ from h2]
      go_wp2_with fail
      exact⟨rfl,_,rfl,zc _,rfl⟩
     ·intro vs y hg hd
      have hx:(Region.binds .any { on:=10,ground:=.data }=true→vs 10=.pointer (some ⟨q,j*24,none⟩))∧(Region.binds .any { on:=2,ground:=.guard }=true→vs 2=.bool true)∧True:=hd
      have h10:vs 10=.pointer (some ⟨q,j*24,none⟩):=hx.1 rfl
      have h2:vs 2=.bool true:=hx.2.1 rfl
      clear hx
      dsimp only
      rw [show vs 10=_ from h10,show vs 2=_ from h2]
      have hm:=HMP.out y hg
      go_wp2_with(refine zw (by rfl) 69 (.tmp 34) rfl q (j*24) rfl P.C.toList _ hm hut rfl SIP.out ?_;simp only [Array.toArray_toList])
      exact⟨rfl,_,rfl,zc _,rfl⟩
     ·intro vs y hg hd
      have hx:(Region.binds .any { on:=6,ground:=.data }=true→vs 6=.func (.func 101) #[] #[])∧(Region.binds .any { on:=11,ground:=.data }=true→vs 11=.agg P.C)∧(Region.binds .any { on:=5,ground:=.chain }=true→vs 5=.int .i64 S.who)∧(Region.binds .any { on:=2,ground:=.guard }=true→vs 2=.bool true)∧True:=hd
      have h6:vs 6=.func (.func 101) #[] #[]:=hx.1 rfl
      have h11:vs 11=.agg P.C:=hx.2.1 rfl
      have h2:vs 2=.bool true:=hx.2.2.2.1 rfl
      clear hx
      dsimp only
      rw [show vs 6=_ from h6,show vs 11=_ from h11,show vs 2=_ from h2]
      go_wp2_with(go_at_call 101;refine(CWP.out y).mono ?_;rintro e z ⟨rfl,gz⟩)
      exact⟨rfl,_,rfl,gz,rfl⟩
     ·intro vs y hg hd
      have hx:(Region.binds .any { on:=5,ground:=.data }=true→vs 5=.int .i64 S.who)∧(Region.binds .any { on:=12,ground:=.data }=true→vs 12=.int .i64 P.who)∧(Region.binds .any { on:=2,ground:=.guard }=true→vs 2=.bool true)∧True:=hd
      have h5:vs 5=.int .i64 S.who:=hx.1 rfl
      have h12:vs 12=.int .i64 P.who:=hx.2.1 rfl
      have h2:vs 2=.bool true:=hx.2.2.1 rfl
      clear hx
      dsimp only
      rw [show vs 5=_ from h5,show vs 12=_ from h12,show vs 2=_ from h2]
      go_wp2_with fail
      exact⟨rfl,_,rfl,zc _,rfl⟩
    ·intro vs w3 hg3 hJ
     have j0:vs 0=.int .i64 (i:Int):=hJ 0 (by decide)
     have j1:vs 1=.bool true:=hJ 1 (by decide)
     have j2:vs 2=.bool true:=hJ 2 (by decide)
     have j3:vs 3=.func (.func 101) #[] #[]:=hJ 3 (by decide)
     have j4:vs 4=.agg S.C:=hJ 4 (by decide)
     have j5:vs 5=.int .i64 S.who:=hJ 5 (by decide)
     have j6:vs 6=.func (.func 101) #[] #[]:=hJ 6 (by decide)
     have j7:vs 7=.slice (some ⟨q,0,none⟩) L.length c:=hJ 7 (by decide)
     have j8:vs 8=.int .i64 (i:Int):=hJ 8 (by decide)
     have j9:vs 9=.int .i64 (j:Int):=hJ 9 (by decide)
     have j10:vs 10=.pointer (some ⟨q,j*24,none⟩):=hJ 10 (by decide)
     have j11:vs 11=.agg P.C:=hJ 11 (by decide)
     have j12:vs 12=.int .i64 P.who:=hJ 12 (by decide)
     have j13:vs 13=.bool le:=hJ 13 (by decide)
     clear hJ
     simp only [actOf,tk1,tk0,dr1,dr0,Act.put,si1,st1,st0,Nat.reduceAdd]
     cases le
     ·have HPA:=HPA0
      clear HPA0 hle
      have G3:=ze hg (ze g2 hg3)
      have hm3:=HM2.out w3 hg3
      have e4:IntKind.i64.wrap ((i:Int)+1)=((i+1:Nat):Int):=by rw [IntWalk.i64_in _ (by omega)];omega
      go_wp2_with(with_reducible refine wpList_load_mid rfl 69 (.tmp 10) rfl wr.heap.size 0 rfl S.C.toList _ hm3 hut rfl SIS.out ?_;simp only [Array.toArray_toList])
      refine(CVD.out w3 (ze hg (ze g2 hg3))).mono ?_
      rintro e w4 ⟨rfl,gg⟩
      have G4:=ze G3 gg
      clear hm3 G3
      by_cases hv:vdV K u d S=0
      ·have HSTEP:Hid (chqV K u d none L=chqV K u d (prevV L (i+1)) (L.drop (i+1))):=hQ9 (by rw [HINV.out,HNX.out];exact y6 HPA.out hv)
       rw [hv]
       clear hv
       go_wp2_with fail
       go_roundw
       case rel=>exact⟨i+1,by omega,rfl,HSTEP.out,G4⟩
       case measure=>simp [Go.RowKit.intOf];omega
      ·have e5:(vdV K u d S != 0)=true:=by simpa using hv
       have HRES:Hid (chqV K u d none L=vdV K u d S):=hQ9 (by rw [HINV.out];exact kW HPA.out hv)
       clear hv
       generalize vdV K u d S=ve at *
       go_wp2_with fail
       go_ret
       exact⟨by rw [HR.out,HRES.out];rfl,G4⟩
     ·have HRES:Hid (chqV K u d none L=10):=hQ9 (by rw [HINV.out];exact za3 HPA0.out)
      have G4:=ze hg (ze g2 hg3)
      go_wp2_with fail
      go_ret
      exact⟨by rw [HR.out,HRES.out];rfl,G4⟩
  ·obtain rfl:i=L.length:=by omega
   rw [List.drop_length]at hinv
   have HE:Hid (chqV K u d none L=0):=hQ9 (by rw [hinv];cases prevV L L.length<;>rfl)
   clear hinv
   go_wp2_with fail
   go_ret
   exact⟨by rw [HR.out,HE.out];rfl,hg⟩
structure RP where
 who:Int
 lo:Int
 hi:Int
 CA:Option Addr
 ck:Nat
 sw:Int
 lf:Int
 s:Nat→Nat
 A:Option Addr
 c:Nat
 l:List Nat
def RP.C (S:RP):Array Value:=rpC S.who S.lo S.hi (.slice S.CA 0 S.ck) S.sw S.lf S.s (.slice S.A S.l.length S.c)
structure RP.ok (S:RP):Prop where
 who:in64 S.who
 lo:in64 S.lo
 hi:in64 S.hi
 sw:in64 S.sw
 lf:in64 S.lf
 s:∀ k,k<18→S.s k<18446744073709551616
 len:S.l.length≤1000
 l:∀ x∈S.l,x<18446744073709551616
def RP.at (S:RP) (w:World):Prop:=Rd w w.heap.size S.A (u64L S.l)
theorem RP.at.gr {S:RP} {w w':World} (h:S.at w) (g:Grew w w'):S.at w':=Rd.gr h g
def rpL (L:List RP):List (List Value):=L.map fun S=>S.C.toList
theorem rpL_z (L:List RP):∀ l∈rpL L,l.length=25:=fun l hl=>by
 obtain⟨S,_,rfl⟩:=List.mem_map.1 hl
 rfl
theorem zag (L:List RP):(rpL L).length=L.length:=by simp [rpL]
theorem ze9 (L M:List RP):rpL (L++M)=rpL L++rpL M:=by simp [rpL]
theorem zir (L:List RP) (n:Nat):rpL (L.take n)=(rpL L).take n:=by simp [rpL]
theorem RP.one (S:RP):S.C.all (·.oneCell')=true:=zac _ _ _ _ _ _ _ _ _ _ _
theorem RP.one' (S:RP):∀ u∈S.C.toList,u.oneCell'=true:=fun u hu=>by
 have:=S.one
 rw [Array.all_eq_true]at this
 obtain⟨i,hi,rfl⟩:=List.getElem_of_mem hu
 simpa using this i (by simpa using hi)
structure Rps (w:World) (A:Option Addr) (L:List RP):Prop where
 rd:RdC w A 25 (rpL L)
 ok:∀ S∈L,S.ok
 at_:∀ S∈L,S.at w
theorem Rps.gr {w w':World} {A:Option Addr} {L:List RP} (h:Rps w A L) (g:Grew w w'):Rps w' A L:=⟨h.rd.gr g,h.ok,fun S hS=>(h.at_ S hS).gr g⟩
theorem Rps.take {w:World} {A:Option Addr} {L:List RP} (h:Rps w A L) (n:Nat):Rps w A (L.take n) :=
 ⟨by rw [zir];exact h.rd.take n,fun S hS=>h.ok S (List.mem_of_mem_take hS),fun S hS=>h.at_ S (List.mem_of_mem_take hS)⟩
theorem Rps.get {w:World} {A:Option Addr} {L:List RP} (h:Rps w A L) (k:Nat) (hk:k<L.length):∃ q,A=some ⟨q,0,none⟩∧q<w.heap.size∧w.rangeAt q (k*25) L[k].C.toList:=by
 obtain⟨q,e,hq,hr⟩:=h.rd k (by rw [zag];exact hk)
 exact⟨q,e,hq,by simpa [rpL]using hr⟩
theorem zce (W:World) (cs:Array Value) (h:cs.size=25):∃ W',(W.alloc (.cells (#[.int .i64 0,.int .i64 0,.int .i64 0,.slice none 0 0,.int .i64 0,.int .i64 0,.int .u64 0,.int .u64 0,.int .u64 0,.int .u64 0,.int .u64 0,.int .u64 0,.int .u64 0,.int .u64 0,.int .u64 0,.int .u64 0,.int .u64 0,.int .u64 0,.int .u64 0,.int .u64 0,.int .u64 0,.int .u64 0,.int .u64 0,.int .u64 0,.slice none 0 0]) 149)).setCells W.heap.size 0 cs.toList=W'∧(W.alloc (.cells (#[.int .i64 0,.int .i64 0,.int .i64 0,.slice none 0 0,.int .i64 0,.int .i64 0,.int .u64 0,.int .u64 0,.int .u64 0,.int .u64 0,.int .u64 0,.int .u64 0,.int .u64 0,.int .u64 0,.int .u64 0,.int .u64 0,.int .u64 0,.int .u64 0,.int .u64 0,.int .u64 0,.int .u64 0,.int .u64 0,.int .u64 0,.int .u64 0,.slice none 0 0]) 149)).there W.heap.size 0 cs.size∧Grew W W'∧Ag W' W.heap.size cs.toList :=
 zW W 149 (#[.int .i64 0,.int .i64 0,.int .i64 0,.slice none 0 0,.int .i64 0,.int .i64 0,.int .u64 0,.int .u64 0,.int .u64 0,.int .u64 0,.int .u64 0,.int .u64 0,.int .u64 0,.int .u64 0,.int .u64 0,.int .u64 0,.int .u64 0,.int .u64 0,.int .u64 0,.int .u64 0,.int .u64 0,.int .u64 0,.int .u64 0,.int .u64 0,.slice none 0 0]) cs h
theorem RdC.at25 {w w':World} {A:Option Addr} {L:List RP} (h:RdC w A 25 (rpL L)) (g:Grew w w') (k:Nat) (hk:k<L.length):∃ q,A=some ⟨q,0,none⟩∧q<w'.heap.size∧w'.rangeAt q (k*25) L[k].C.toList:=by
 obtain⟨q,e,hq,hr⟩:=(h.gr g) k (by rw [zag];exact hk)
 exact⟨q,e,hq,by simpa [rpL]using hr⟩
def vqC (u:Int) (d:Nat) (A:Option Addr) (n c:Nat):Array Value:=#[.int .i64 u,.int .u64 (d:Nat),.slice A n c]
theorem yo (u:Int) (d:Nat) (A:Option Addr) (n c:Nat):(vqC u d A n c).all (·.oneCell')=true:=by simp [vqC,Value.oneCell']
theorem zP:(Tryz.prog.info? 38).map (·.size)=some 3:=by kernel_rfl
theorem zdy:Tryz.prog.built 38 []=some (#[.int .i64 0,.int .u64 0,.slice none 0 0]):=by kernel_rfl
theorem zcf (u:Int) (d:Nat) (A:Option Addr) (n c:Nat):Tryz.prog.built 38 [(0,.int .i64 u),(1,.int .u64 (d:Nat)),(2,.slice A n c)]=some (vqC u d A n c):=by kernel_rfl
structure VMd (b0:Nat) (E:List VP) (w:World) (v:Value) (f:Option Addr→Nat→Value):Prop where
 out:∃ A c N,v=f A c∧MvV E N∧Vps w A N∧(∀ ad,A=some ad→b0≤ad.block)∧(∀ S∈N,∀ ad,S.A=some ad→S.l=[]∨b0≤ad.block)∧E.length≤c
theorem VMd.gr {b0:Nat} {E:List VP} {w w':World} {v:Value} {f:Option Addr→Nat→Value} (h:VMd b0 E w v f) (g:Grew w w'):VMd b0 E w' v f:=by
 obtain⟨A,c,N,h1,h2,h3,h4,h5⟩:=h.out
 exact⟨A,c,N,h1,h2,h3.gr g,h4,h5⟩
theorem Vps.kpx {P:Nat→Prop} {w w':World} {A:Option Addr} {L:List VP} (h:Vps w A L) (k:Kp P w w') (h1:∀ ad,A=some ad→¬P ad.block) (h2:∀ S∈L,∀ ad,S.A=some ad→S.l=[]∨¬P ad.block):Vps w' A L :=
 ⟨h.rd.kp k (fun q e=>h1 _ e),h.ok,fun S hS=>by
  by_cases hl:S.l=[]
  ·intro j hj;rw [hl]at hj;exact absurd hj (by simp [u64L])
  ·exact(Rd.kp (h.at_ S hS) k (Nat.le_refl _) (fun ad e _=>by
    rcases h2 S hS ad e with h3 | h3
    ·exact absurd h3 hl
    ·exact h3)).more k.size⟩
theorem zc6 {K:KP} (hK:K.ok) (u:Int) (d:Nat) (A:Option Addr) (cap:Nat) (L:List VP) (hl:L.length≤100000) (w:World) (hS:Std w) (hk:K.at w) (hL:Vps w A L) (hen:enoughV K u d L=true) :
 Calls Tryz.prog 30 #[.agg K.C,.int .i64 u,.int .u64 (d:Nat),.slice A L.length cap] w fun e w'=>(∃ B j N,e=.returned (.tuple #[.agg (vqC u d B (chosenV K u d L).length j),.int .i64 0])∧MvV (chosenV K u d L) N∧Vps w' B N∧(∀ ad,B=some ad→w.heap.size≤ad.block)∧(∀ S∈N,∀ ad,S.A=some ad→S.l=[]∨w.heap.size≤ad.block)∧(chosenV K u d L).length≤j)∧Grew w w':=by
 have huk:=Tryz.underlying49
 have hut:=Tryz.underlying38
 have huf:=Tryz.underlying46
 have HCF:Hid ((Tryz.prog.info? 46).map (·.size)=some [Value.int .i64 K.f].length):=hQ9 (by kernel_rfl)
 have zz:=Ag.new w 49 K.C
 have ga1:=zg (zc (w.alloc (.cells K.C 49))) (.cells #[.int .i64 u] 3)
 have z1:=Ag.new (w.alloc (.cells K.C 49)) 3 #[.int .i64 u]
 have ga2:=zg (zc ((w.alloc (.cells K.C 49)).alloc (.cells #[.int .i64 u] 3))) (.cells #[.int .u64 (d:Nat)] 35)
 have z2:=Ag.new ((w.alloc (.cells K.C 49)).alloc (.cells #[.int .i64 u] 3)) 35 #[.int .u64 (d:Nat)]
 have ga3:=zg (zc (((w.alloc (.cells K.C 49)).alloc (.cells #[.int .i64 u] 3)).alloc (.cells #[.int .u64 (d:Nat)] 35))) (.cells (#[.int .i64 0,.int .u64 0,.slice none 0 0]) 38)
 have z3:=Ag.new (((w.alloc (.cells K.C 49)).alloc (.cells #[.int .i64 u] 3)).alloc (.cells #[.int .u64 (d:Nat)] 35)) 38 (#[.int .i64 0,.int .u64 0,.slice none 0 0])
 have z0:=((zz.grew ga1).grew ga2).grew ga3
 have z1:=(z1.grew ga2).grew ga3
 have z2:=z2.grew ga3
 rw [zl]at z1
 rw [zl,zl]at z2
 rw [zl,zl,zl]at z3
 have G0:=zg (zg (zg (zg (zc w) (.cells K.C 49)) (.cells #[.int .i64 u] 3)) (.cells #[.int .u64 (d:Nat)] 35)) (.cells (#[.int .i64 0,.int .u64 0,.slice none 0 0]) 38)
 clear zz ga1 ga2 ga3
 have HS:=hQ9 hS
 have HKA:=hQ9 hk
 have HLA:=hQ9 hL
 clear hS hk hL
 obtain⟨w1,hw1⟩:∃ v,(((w.alloc (.cells K.C 49)).alloc (.cells #[.int .i64 u] 3)).alloc (.cells #[.int .u64 (d:Nat)] 35)).alloc (.cells (#[.int .i64 0,.int .u64 0,.slice none 0 0]) 38)=v:=⟨_,rfl⟩
 rw [hw1]at z0 z1 z2 z3 G0
 have HW1:=hQ9 hw1
 have hu:w1.cell? ⟨w.heap.size+1,0,none⟩=some (.int .i64 u):=by simpa using z1.cell 0 _ rfl
 have hd:w1.cell? ⟨w.heap.size+1+1,0,none⟩=some (.int .u64 (d:Nat)):=by simpa using z2.cell 0 _ rfl
 have hmf:=xB z0
 clear hw1
 have CQ:=zcb hK A cap L hl u d (w.heap.size+1) (w.heap.size+1+1) w.heap.size w1 (HS.out.grew G0) (HKA.out.gr G0) (HLA.out.gr G0) hu hd z0 hen
 have hEl:(chosenV K u d L).length≤100000:=by
  unfold chosenV
  rw [List.length_take,yG]
  exact Nat.le_trans (Nat.min_le_right _ _) (Nat.le_trans (xN _ _) (Nat.le_trans (List.length_filter_le _ _) hl))
 obtain⟨E,hE⟩:∃ E,chosenV K u d L=E:=⟨_,rfl⟩
 rw [hE]at CQ hEl ⊢
 have HEL:=hQ9 hEl
 have CQ:=hQ9 CQ
 clear hE hEl hen hK hl HLA HKA HS
 go_enter Tryz.func30,Tryz.ntmps30
 go_wp2_with(first
  | (with_reducible refine wpList_load_mid rfl 46 (.tmp 13) rfl w.heap.size 0 rfl [.int .i64 K.f] _ (by rw [HW1.out];exact hmf) huf rfl HCF.out ?_;rw [HW1.out]))
 clear hmf HW1
 refine(CQ.out).mono ?_
 rintro e w5 ⟨B,rfl,hSpE,g5⟩
 have HU:Hid (∀ y,Grew w5 y→y.cell? ⟨w.heap.size+1,0,none⟩=some (.int .i64 u)):=hQ9 (fun y g=>by simpa using (z1.grew (ze g5 g)).cell 0 _ rfl)
 have HD:Hid (∀ y,Grew w5 y→y.cell? ⟨w.heap.size+1+1,0,none⟩=some (.int .u64 (d:Nat))):=hQ9 (fun y g=>by simpa using (z2.grew (ze g5 g)).cell 0 _ rfl)
 have CMP:Hid (∀ y,Grew w5 y→Calls Tryz.prog 103 #[.slice B E.length E.length,.func (.func 104) #[] #[]] y fun e w'=>VMd w5.heap.size E w' (match e with | .returned v=>v | _=>undef) (fun A c=>.slice A E.length c)∧(∃ v,e=.returned v)∧Grew y w'):=hQ9 (fun y g =>
  (zcd B E.length E HEL.out y (hSpE.gr g)).mono fun e w' ⟨D2,j2,N,h1,hnv,hap,hk1,hk2,hd2,hn2,g7⟩=>by
   subst h1
   exact⟨⟨D2,j2,N,rfl,hnv,hap,fun ad h=>Nat.le_trans g.size (hd2 ad h),fun S hS ad h=>(hn2 S hS ad h).imp id (fun h1=>Nat.le_trans g.size h1),hk1⟩,⟨_,rfl⟩,g7⟩)
 have z3':=hQ9 (z3.grew g5)
 have G5:=hQ9 (ze G0 g5)
 have hw5:w.heap.size+1+1+1<w5.heap.size:=z3'.out.lt
 clear hu hd z0 z1 z2 z3 G0 g5 hSpE CQ
 go_upto_region 4 with fail
 refine zy 5 (fun ix9=>match ix9 with
  | 0=>fun v _=>v=.int .i64 u
  | 1=>fun v _=>v=.int .u64 (d:Nat)
  | 2=>fun v _=>v=.slice B E.length E.length
  | 3=>fun v w=>VMd w5.heap.size E w v (fun A c=>.slice A E.length c)
  | 4=>fun v w=>VMd w5.heap.size E w v (fun A c=>.agg (vqC u d A E.length c))
  | _=>fun _ _=>True) (by kernel_rfl) (by kernel_rfl) ?_ ?_ ?_
 ·intro i v x y h hg
  match i,h with
  | 0,h | 1,h | 2,h=>exact h
  | 3,h=>exact VMd.gr h hg
  | 4,h=>exact VMd.gr h hg
  | m+5,_=>trivial
 ·simp only [actOf,tk1,tk0,dr1,dr0,Act.put,si1,st1,st0,Nat.reduceAdd]
  refine⟨?_,?_,?_,?_,?_,trivial⟩
  ·intro vs y hg hd
   dsimp only
   have hc:=HU.out y hg
   go_wp2_with fail
   exact⟨rfl,_,rfl,zc _,rfl⟩
  ·intro vs y hg hd
   dsimp only
   have hc:=HD.out y hg
   go_wp2_with fail
   exact⟨rfl,_,rfl,zc _,rfl⟩
  ·intro vs y hg hd
   dsimp only
   go_wp2_with fail
   exact⟨rfl,_,rfl,zc _,rfl⟩
  ·intro vs y hg hd
   obtain⟨h2,_⟩:=hd
   replace h2:=h2 rfl
   dsimp only
   rw [show vs 2=_ from h2]
   go_wp2_with(go_at_call 103;refine(CMP.out y hg).mono ?_;rintro e z ⟨hv9,⟨v9,rfl⟩,gz⟩)
   exact⟨rfl,_,rfl,gz,hv9⟩
  ·intro vs y hg hd
   obtain⟨h0,h1,h3,_⟩:=hd
   replace h0:=h0 rfl
   replace h1:=h1 rfl
   replace h3:=h3 rfl
   dsimp only
   rw [show vs 0=_ from h0,show vs 1=_ from h1]
   obtain⟨A9,c9,N9,e9,hr9⟩:=VMd.out h3
   rw [e9]
   have HBU:=hQ9 (zcf u d A9 E.length c9)
   refine zC rfl 38 #[(0,.tmp 24),(1,.tmp 25),(2,.tmp 27)] rfl _ (by simpa [Act.eval]using HBU.out) ?_
   go_wp2_with fail
   exact⟨rfl,_,rfl,zc _,⟨A9,c9,N9,rfl,hr9⟩⟩
 ·intro vs y hg hJ
  have j0:vs 0=.int .i64 u:=hJ 0 (by decide)
  have j1:vs 1=.int .u64 (d:Nat):=hJ 1 (by decide)
  have j2:vs 2=.slice B E.length E.length:=hJ 2 (by decide)
  have s27:=hJ 3 (by decide)
  have s28:=hJ 4 (by decide)
  clear hJ
  simp only [actOf,tk1,tk0,dr1,dr0,Act.put,si1,st1,st0,Nat.reduceAdd]
  obtain⟨B2,j2,N,e28,hnv,hap,hd2,hn2,hcp⟩:=VMd.out s28
  have HCP:=hQ9 hcp
  rw [show vs 4=_ from e28]
  clear s27 s28 e28
  have z3:=z3'.out.grew hg
  have GG:=ze G5.out hg
  have K3:=zn (vqC u d B2 E.length j2).toList (w.heap.size+1+1+1) 0 y
  have hap3:=hap.kpx K3 (fun ad h e=>by have:=hd2 ad h;have e:ad.block=w.heap.size+1+1+1:=e;omega) (fun T hT ad h=>(hn2 T hT ad h).imp id (fun h1 e=>by have e:ad.block=w.heap.size+1+1+1:=e;omega))
  have HTH:Hid (y.there (w.heap.size+1+1+1) 0 (vqC u d B2 E.length j2).size):=hQ9 (z3.thereN 3 rfl)
  have HSI:Hid ((Tryz.prog.info? 38).map (·.size)=some (vqC u d B2 E.length j2).size):=hQ9 zP
  have HON:=hQ9 (yo u d B2 E.length j2)
  have z4:=Ag.set (vs:=(vqC u d B2 E.length j2).toList) z3 rfl
  have G6:=zi (o:=0) (b:=w.heap.size+1+1+1) (vqC u d B2 E.length j2).toList GG (by omega)
  have HL3:Hid (∀ ad,B2=some ad→w.heap.size≤ad.block):=hQ9 (fun ad h=>by have:=hd2 ad h;omega)
  have HL4:Hid (∀ S∈N,∀ ad,S.A=some ad→S.l=[]∨w.heap.size≤ad.block):=hQ9 (fun S hS ad h=>(hn2 S hS ad h).imp id (fun h1=>by omega))
  clear z3 hap hd2 hn2 K3 hg GG hcp
  go_wp2_with(with_reducible refine wpList_store_mid rfl 38 (.tmp 8) (.tmp 28) rfl (w.heap.size+1+1+1) 0 (vqC u d B2 E.length j2) rfl rfl HTH.out HSI.out HON.out ?_)
  exact bodyPost_ret (zT Tryz.results30 _ _ (w.heap.size+1+1+1) _ _ _ rfl rfl z4 hut rfl zP) rfl ⟨⟨B2,j2,N,rfl,hnv,hap3,HL3.out,HL4.out,HCP.out⟩,G6⟩
structure BK where
 vw:Int
 pa:Nat
 qv:Int
 qb:Nat
 QA:Option Addr
 Q:List VP
 qc:Nat
 lo:Int
 hi:Int
 BA:Option Addr
 L:List RP
 bc:Nat
def BK.C (b:BK):Array Value:=#[.int .i64 b.vw,.int .u64 (b.pa:Nat),.int .i64 b.qv,.int .u64 (b.qb:Nat),.slice b.QA b.Q.length b.qc,.int .i64 b.lo,.int .i64 b.hi,.slice b.BA b.L.length b.bc]
structure BK.ok (b:BK):Prop where
 vw:in64 b.vw
 pa:b.pa<18446744073709551616
 qv:in64 b.qv
 qb:b.qb<18446744073709551616
 lo:in64 b.lo
 hi:in64 b.hi
 q:b.Q.length≤100000
 l:b.L.length≤1000
structure BK.at (b:BK) (w:World):Prop where
 q:Vps w b.QA b.Q
 l:Rps w b.BA b.L
theorem BK.at.gr {b:BK} {w w':World} (h:b.at w) (g:Grew w w'):b.at w':=⟨h.q.gr g,h.l.gr g⟩
theorem BK.one (b:BK):b.C.all (·.oneCell')=true:=by simp [BK.C,Value.oneCell']
theorem xq:(Tryz.prog.info? 41).map (·.size)=some 8:=by kernel_rfl
def tagBlock:List UInt8:=[98,108,111,99,107]
noncomputable def RP.d (S:RP):Nat:=rpD S.who S.lo S.hi
def bwF (b:BK):List (List UInt8):=[tagBlock,Lib.itoa b.vw,hexL b.pa,Lib.itoa b.qv,hexL b.qb,Lib.itoa b.lo,Lib.itoa b.hi]
noncomputable def bwW (b:BK):List UInt8:=joinF (bwF b++b.L.map (fun S=>hexL S.d))
noncomputable def bkD (b:BK):Nat:=if b.vw=0 then 0 else sumL tagBlock (bwW b)
theorem zgw (b:BK):bkD b<18446744073709551616:=by
 unfold bkD
 split
 ·omega
 ·exact yV _ _
theorem za4:∀(L:List RP),(joinF (L.map (fun S=>hexL S.d))).length≤L.length*40
 | []=>by simp [joinF]
 | S::r=>by
  have h:=za4 r
  have h1:=yt S.d
  have h2:=zV (hexL S.d)
  rw [List.map_cons,yU,List.length_cons,List.length_append,List.length_cons]
  omega
theorem zdz (b:BK) (h:b.ok):(bwW b).length≤100000:=by
 unfold bwW bwF
 have h1:=yw h.vw.1 h.vw.2
 have h2:=yw h.qv.1 h.qv.2
 have h3:=yw h.lo.1 h.lo.2
 have h4:=yw h.hi.1 h.hi.2
 have h5:=yt b.pa
 have h6:=yt b.qb
 have f1:=zV (Lib.itoa b.vw)
 have f2:=zV (Lib.itoa b.qv)
 have f3:=zV (Lib.itoa b.lo)
 have f4:=zV (Lib.itoa b.hi)
 have f5:=zV (hexL b.pa)
 have f6:=zV (hexL b.qb)
 have f7:=zV tagBlock
 have h8:tagBlock.length=5:=rfl
 have h9:=za4 b.L
 have hl:=h.l
 rw [yH,List.length_append]
 generalize (joinF (b.L.map fun S=>hexL S.d)).length=n at *
 simp only [joinF,List.flatMap_cons,List.flatMap_nil,List.length_append,List.length_cons,List.length_nil]
 omega
structure SevenO (b0:Nat) (w:World) (l:List ByteArray) (v:Value):Prop where
 out:w.ownsRow b0 9 1 v 7 (strL l)
theorem SevenO.gr {b0:Nat} {w w':World} {l:List ByteArray} {v:Value} (h:SevenO b0 w l v) (g:Grew w w'):SevenO b0 w' l v :=
 ⟨zx (S:=fun _=>False) h.out (zj g) (fun _ _ h=>h)⟩
theorem zc7 (S:RP) (hS:S.ok) (w:World) (hs:Std w):Calls Tryz.prog 85 #[.agg S.C] w fun e w'=>e=.returned (.int .u64 (S.d:Nat))∧Grew w w' :=
 jH S.who S.lo S.hi S.CA S.ck S.sw S.lf S.s S.A S.c S.l hS.who hS.lo hS.hi w hs
theorem zgx (b:BK) (h:b.ok) (w:World) (hS:Std w) (hb:b.at w) :
 Calls Tryz.prog 21 #[.agg b.C] w fun e w'=>e=.returned (.string ⟨(bwW b).toArray⟩)∧Grew w w':=by
 obtain⟨i0,hi,hz0,hz1,hz2⟩:=info_parts (show(Tryz.prog.info? 9).map (fun i=>(i.zero,i.size,i.bytes))=some (some (.string ⟨#[]⟩),1,16) by kernel_rfl)
 have hut:=Tryz.underlying149
 have z0:=Ag.new w 41 b.C
 have g0:=zg (zc w) (.cells b.C 41)
 have HS:=hQ9 hS
 have hlen:=zdz b h
 have C1:=hQ9 (fun W hW=>kT b.vw h.vw W hW)
 have C2:=hQ9 (fun W hW=>kj b.pa (show U64n b.pa from h.pa) W hW)
 have C3:=hQ9 (fun W hW=>kT b.qv h.qv W hW)
 have C4:=hQ9 (fun W hW=>kj b.qb (show U64n b.qb from h.qb) W hW)
 have C5:=hQ9 (fun W hW=>xk b.lo h.lo.1 h.lo.2 W hW)
 have C6:=hQ9 (fun W hW=>xk b.hi h.hi.1 h.hi.2 W hW)
 have CJ:Hid (∀(A4:Option Addr) (c:Nat) (W:World),Rd W W.heap.size A4 (strL ([⟨#[98,108,111,99,107]⟩,⟨(Lib.itoa b.vw).toArray⟩,hexB b.pa,⟨(Lib.itoa b.qv).toArray⟩,hexB b.qb,⟨(Lib.itoa b.lo).toArray⟩,⟨(Lib.itoa b.hi).toArray⟩]++b.L.map (fun S=>hexB S.d)))→Calls Tryz.prog 86 #[.slice A4 (7+b.L.length) c] W fun e w'=>e=.returned (.string ⟨(bwW b).toArray⟩)∧Grew W w'):=hQ9 (fun A4 c W hR=>by
  have hbys:bys ([⟨#[98,108,111,99,107]⟩,⟨(Lib.itoa b.vw).toArray⟩,hexB b.pa,⟨(Lib.itoa b.qv).toArray⟩,hexB b.qb,⟨(Lib.itoa b.lo).toArray⟩,⟨(Lib.itoa b.hi).toArray⟩]++b.L.map (fun S=>hexB S.d))=bwF b++b.L.map (fun S=>hexL S.d):=by
   simp [bys,bwF,hexB,tagBlock,Function.comp_def]
  have hl7:([⟨#[98,108,111,99,107]⟩,⟨(Lib.itoa b.vw).toArray⟩,hexB b.pa,⟨(Lib.itoa b.qv).toArray⟩,hexB b.qb,⟨(Lib.itoa b.lo).toArray⟩,⟨(Lib.itoa b.hi).toArray⟩]++b.L.map (fun S=>hexB S.d)).length=7+b.L.length:=by
   rw [List.length_append,List.length_map];rfl
  have:=jh A4 c ([⟨#[98,108,111,99,107]⟩,⟨(Lib.itoa b.vw).toArray⟩,hexB b.pa,⟨(Lib.itoa b.qv).toArray⟩,hexB b.qb,⟨(Lib.itoa b.lo).toArray⟩,⟨(Lib.itoa b.hi).toArray⟩]++b.L.map (fun S=>hexB S.d)) (by rw [hl7];have:=h.l;omega) (by rw [hbys];exact Nat.le_trans hlen (by decide)) W hR
  rw [hbys,hl7]at this
  exact this)
 have HLL:=hQ9 h.l
 have HRP:=hQ9 hb.l
 have CDG:Hid (∀ S∈b.L,∀ W,Std W→Calls Tryz.prog 85 #[.agg S.C] W fun e w'=>e=.returned (.int .u64 (S.d:Nat))∧Grew W w'):=hQ9 (fun S hSm W hW=>zc7 S (hb.l.ok S hSm) W hW)
 clear hS hlen h hb
 generalize (⟨(bwW b).toArray⟩:ByteArray)=tj at *
 generalize (⟨(Lib.itoa b.vw).toArray⟩:ByteArray)=t1 at *
 generalize hexB b.pa=t2 at *
 generalize (⟨(Lib.itoa b.qv).toArray⟩:ByteArray)=t3 at *
 generalize hexB b.qb=t4 at *
 generalize (⟨(Lib.itoa b.lo).toArray⟩:ByteArray)=t5 at *
 generalize (⟨(Lib.itoa b.hi).toArray⟩:ByteArray)=t6 at *
 go_enter Tryz.func21,Tryz.ntmps21
 go_upto_region 1 with fail
 generalize w.alloc (.cells b.C 41)=w1 at *
 have G0:=hQ9 g0
 have HCvw:Hid (∀ y,Grew w1 y→y.cell? ⟨w.heap.size,0,none⟩=some (.int .i64 b.vw)):=hQ9 (fun y g=>by simpa [BK.C]using (z0.grew g).cell 0 _ rfl)
 have HCpa:Hid (∀ y,Grew w1 y→y.cell? ⟨w.heap.size,1,none⟩=some (.int .u64 (b.pa:Nat))):=hQ9 (fun y g=>by simpa [BK.C]using (z0.grew g).cell 1 _ rfl)
 have HCqv:Hid (∀ y,Grew w1 y→y.cell? ⟨w.heap.size,2,none⟩=some (.int .i64 b.qv)):=hQ9 (fun y g=>by simpa [BK.C]using (z0.grew g).cell 2 _ rfl)
 have HCqb:Hid (∀ y,Grew w1 y→y.cell? ⟨w.heap.size,3,none⟩=some (.int .u64 (b.qb:Nat))):=hQ9 (fun y g=>by simpa [BK.C]using (z0.grew g).cell 3 _ rfl)
 have HClo:Hid (∀ y,Grew w1 y→y.cell? ⟨w.heap.size,5,none⟩=some (.int .i64 b.lo)):=hQ9 (fun y g=>by simpa [BK.C]using (z0.grew g).cell 5 _ rfl)
 have HChi:Hid (∀ y,Grew w1 y→y.cell? ⟨w.heap.size,6,none⟩=some (.int .i64 b.hi)):=hQ9 (fun y g=>by simpa [BK.C]using (z0.grew g).cell 6 _ rfl)
 have HCR:Hid (∀ y,Grew w1 y→y.cell? ⟨w.heap.size,7,none⟩=some (.slice b.BA b.L.length b.bc)):=hQ9 (fun y g=>by simpa [BK.C]using (z0.grew g).cell 7 _ rfl)
 clear z0 g0
 refine zy 21 (fun ix9=>match ix9 with
  | 0=>fun v _=>v=.pointer (some ⟨w.heap.size,0,none⟩)
  | 1=>fun v _=>v=.int .i64 b.vw
  | 2=>fun v _=>v=.string t1
  | 3=>fun v _=>v=.pointer (some ⟨w.heap.size,1,none⟩)
  | 4=>fun v _=>v=.int .u64 (b.pa:Nat)
  | 5=>fun v _=>v=.string t2
  | 6=>fun v _=>v=.pointer (some ⟨w.heap.size,2,none⟩)
  | 7=>fun v _=>v=.pointer (some ⟨w.heap.size,2,none⟩)
  | 8=>fun v _=>v=.int .i64 b.qv
  | 9=>fun v _=>v=.string t3
  | 10=>fun v _=>v=.pointer (some ⟨w.heap.size,2,none⟩)
  | 11=>fun v _=>v=.pointer (some ⟨w.heap.size,3,none⟩)
  | 12=>fun v _=>v=.int .u64 (b.qb:Nat)
  | 13=>fun v _=>v=.string t4
  | 14=>fun v _=>v=.pointer (some ⟨w.heap.size,5,none⟩)
  | 15=>fun v _=>v=.int .i64 b.lo
  | 16=>fun v _=>v=.string t5
  | 17=>fun v _=>v=.pointer (some ⟨w.heap.size,6,none⟩)
  | 18=>fun v _=>v=.int .i64 b.hi
  | 19=>fun v _=>v=.string t6
  | 20=>fun v z=>SevenO w1.heap.size z [⟨#[98,108,111,99,107]⟩,t1,t2,t3,t4,t5,t6] v
  | _=>fun _ _=>True) (by kernel_rfl) (by kernel_rfl) ?_ ?_ ?_
 ·intro i v x y h hg
  match i,h with
  | 0,h | 1,h | 2,h | 3,h | 4,h | 5,h | 6,h | 7,h | 8,h | 9,h | 10,h | 11,h | 12,h | 13,h | 14,h | 15,h | 16,h | 17,h | 18,h | 19,h=>exact h
  | 20,h=>exact SevenO.gr h hg
  | m+21,_=>trivial
 ·simp only [actOf,tk1,tk0,dr1,dr0,Act.put,si1,st1,st0,Nat.reduceAdd]
  refine⟨?_,?_,?_,?_,?_,?_,?_,?_,?_,?_,?_,?_,?_,?_,?_,?_,?_,?_,?_,?_,?_,trivial⟩
  ·intro vs y hg hd
   dsimp only
   go_wp2_with fail
   exact⟨rfl,_,rfl,zc _,rfl⟩
  ·intro vs y hg hd
   obtain⟨h0,_⟩:=hd
   replace h0:=h0 rfl
   dsimp only
   rw [show vs 0=_ from h0]
   have hc:=HCvw.out y hg
   go_wp2_with fail
   exact⟨rfl,_,rfl,zc _,rfl⟩
  ·intro vs y hg hd
   obtain⟨h1,_⟩:=hd
   replace h1:=h1 rfl
   dsimp only
   rw [show vs 1=_ from h1]
   go_wp2_with(go_at_call 82;refine(C1.out y (HS.out.grew (ze G0.out hg))).mono ?_;rintro e z ⟨rfl,gz⟩)
   exact⟨rfl,_,rfl,gz,rfl⟩
  ·intro vs y hg hd
   dsimp only
   go_wp2_with fail
   exact⟨rfl,_,rfl,zc _,rfl⟩
  ·intro vs y hg hd
   obtain⟨h3,_⟩:=hd
   replace h3:=h3 rfl
   dsimp only
   rw [show vs 3=_ from h3]
   have hc:=HCpa.out y hg
   go_wp2_with fail
   exact⟨rfl,_,rfl,zc _,rfl⟩
  ·intro vs y hg hd
   obtain⟨h4,_⟩:=hd
   replace h4:=h4 rfl
   dsimp only
   rw [show vs 4=_ from h4]
   go_wp2_with(go_at_call 83;refine(C2.out y (HS.out.grew (ze G0.out hg))).mono ?_;rintro e z ⟨rfl,gz⟩)
   exact⟨rfl,_,rfl,gz,rfl⟩
  ·intro vs y hg hd
   dsimp only
   go_wp2_with fail
   exact⟨rfl,_,rfl,zc _,rfl⟩
  ·intro vs y hg hd
   obtain⟨h6,_⟩:=hd
   replace h6:=h6 rfl
   dsimp only
   rw [show vs 6=_ from h6]
   go_wp2_with fail
   exact⟨rfl,_,rfl,zc _,rfl⟩
  ·intro vs y hg hd
   obtain⟨h7,_⟩:=hd
   replace h7:=h7 rfl
   dsimp only
   rw [show vs 7=_ from h7]
   have hc:=HCqv.out y hg
   go_wp2_with fail
   exact⟨rfl,_,rfl,zc _,rfl⟩
  ·intro vs y hg hd
   obtain⟨h8,_⟩:=hd
   replace h8:=h8 rfl
   dsimp only
   rw [show vs 8=_ from h8]
   go_wp2_with(go_at_call 82;refine(C3.out y (HS.out.grew (ze G0.out hg))).mono ?_;rintro e z ⟨rfl,gz⟩)
   exact⟨rfl,_,rfl,gz,rfl⟩
  ·intro vs y hg hd
   dsimp only
   go_wp2_with fail
   exact⟨rfl,_,rfl,zc _,rfl⟩
  ·intro vs y hg hd
   obtain⟨h10,_⟩:=hd
   replace h10:=h10 rfl
   dsimp only
   rw [show vs 10=_ from h10]
   go_wp2_with fail
   exact⟨rfl,_,rfl,zc _,rfl⟩
  ·intro vs y hg hd
   obtain⟨h11,_⟩:=hd
   replace h11:=h11 rfl
   dsimp only
   rw [show vs 11=_ from h11]
   have hc:=HCqb.out y hg
   go_wp2_with fail
   exact⟨rfl,_,rfl,zc _,rfl⟩
  ·intro vs y hg hd
   obtain⟨h12,_⟩:=hd
   replace h12:=h12 rfl
   dsimp only
   rw [show vs 12=_ from h12]
   go_wp2_with(go_at_call 83;refine(C4.out y (HS.out.grew (ze G0.out hg))).mono ?_;rintro e z ⟨rfl,gz⟩)
   exact⟨rfl,_,rfl,gz,rfl⟩
  ·intro vs y hg hd
   dsimp only
   go_wp2_with fail
   exact⟨rfl,_,rfl,zc _,rfl⟩
  ·intro vs y hg hd
   obtain⟨h14,_⟩:=hd
   replace h14:=h14 rfl
   dsimp only
   rw [show vs 14=_ from h14]
   have hc:=HClo.out y hg
   go_wp2_with fail
   exact⟨rfl,_,rfl,zc _,rfl⟩
  ·intro vs y hg hd
   obtain⟨h15,_⟩:=hd
   replace h15:=h15 rfl
   dsimp only
   rw [show vs 15=_ from h15]
   go_wp2_with(go_at_call 84;refine(C5.out y (HS.out.grew (ze G0.out hg))).mono ?_;rintro e z ⟨rfl,gz⟩)
   exact⟨rfl,_,rfl,gz,rfl⟩
  ·intro vs y hg hd
   dsimp only
   go_wp2_with fail
   exact⟨rfl,_,rfl,zc _,rfl⟩
  ·intro vs y hg hd
   obtain⟨h17,_⟩:=hd
   replace h17:=h17 rfl
   dsimp only
   rw [show vs 17=_ from h17]
   have hc:=HChi.out y hg
   go_wp2_with fail
   exact⟨rfl,_,rfl,zc _,rfl⟩
  ·intro vs y hg hd
   obtain⟨h18,_⟩:=hd
   replace h18:=h18 rfl
   dsimp only
   rw [show vs 18=_ from h18]
   go_wp2_with(go_at_call 84;refine(C6.out y (HS.out.grew (ze G0.out hg))).mono ?_;rintro e z ⟨rfl,gz⟩)
   exact⟨rfl,_,rfl,gz,rfl⟩
  ·intro vs y hg hd
   obtain⟨h2,h5,h9,h13,h16,h19,_⟩:=hd
   replace h2:=h2 rfl
   replace h5:=h5 rfl
   replace h9:=h9 rfl
   replace h13:=h13 rfl
   replace h16:=h16 rfl
   replace h19:=h19 rfl
   dsimp only
   rw [show vs 2=_ from h2,show vs 5=_ from h5,show vs 9=_ from h9,show vs 13=_ from h13,show vs 16=_ from h16,show vs 19=_ from h19]
   go_wp2_with fail
   exact⟨rfl,_,rfl,zg (zc _) _,⟨World.ownsRow_lit y #[.string ⟨#[98,108,111,99,107]⟩,.string t1,.string t2,.string t3,.string t4,.string t5,.string t6] 7 hg.size (by decide) rfl⟩⟩
 ·intro vs y hg hJ
  have j0:vs 0=.pointer (some ⟨w.heap.size,0,none⟩):=hJ 0 (by decide)
  have j1:vs 1=.int .i64 b.vw:=hJ 1 (by decide)
  have j2:vs 2=.string t1:=hJ 2 (by decide)
  have j3:vs 3=.pointer (some ⟨w.heap.size,1,none⟩):=hJ 3 (by decide)
  have j4:vs 4=.int .u64 (b.pa:Nat):=hJ 4 (by decide)
  have j5:vs 5=.string t2:=hJ 5 (by decide)
  have j6:vs 6=.pointer (some ⟨w.heap.size,2,none⟩):=hJ 6 (by decide)
  have j7:vs 7=.pointer (some ⟨w.heap.size,2,none⟩):=hJ 7 (by decide)
  have j8:vs 8=.int .i64 b.qv:=hJ 8 (by decide)
  have j9:vs 9=.string t3:=hJ 9 (by decide)
  have j10:vs 10=.pointer (some ⟨w.heap.size,2,none⟩):=hJ 10 (by decide)
  have j11:vs 11=.pointer (some ⟨w.heap.size,3,none⟩):=hJ 11 (by decide)
  have j12:vs 12=.int .u64 (b.qb:Nat):=hJ 12 (by decide)
  have j13:vs 13=.string t4:=hJ 13 (by decide)
  have j14:vs 14=.pointer (some ⟨w.heap.size,5,none⟩):=hJ 14 (by decide)
  have j15:vs 15=.int .i64 b.lo:=hJ 15 (by decide)
  have j16:vs 16=.string t5:=hJ 16 (by decide)
  have j17:vs 17=.pointer (some ⟨w.heap.size,6,none⟩):=hJ 17 (by decide)
  have j18:vs 18=.int .i64 b.hi:=hJ 18 (by decide)
  have j19:vs 19=.string t6:=hJ 19 (by decide)
  have s26:=hJ 20 (by decide)
  clear hJ
  simp only [actOf,tk1,tk0,dr1,dr0,Act.put,si1,st1,st0,Nat.reduceAdd]
  have h7:=s26.out
  obtain⟨v7,hv7⟩:∃ v,vs 20=v:=⟨_,rfl⟩
  rw [hv7]at h7 ⊢
  have HO7:=hQ9 h7
  have hc:=HCR.out y hg
  have HG1:=hQ9 hg
  clear j0 j1 j2 j3 j4 j5 j6 j7 j8 j9 j10 j11 j12 j13 j14 j15 j16 j17 j18 j19 s26 hv7 h7 C1 C2 C3 C4 C5 C6 HCvw HCpa HCqv HCqb HClo HChi
  go_wp2_with fail
  clear hc
  go_loopw [3,30] (fun rv iv wr=>∃ k:Nat,k≤b.L.length∧iv=.int .i64 k∧wr.ownsRow w1.heap.size 9 1 rv (7+k) (strL [⟨#[98,108,111,99,107]⟩,t1,t2,t3,t4,t5,t6]++((b.L.take k).map (fun S=>hexB S.d)).map Value.string)∧Grew w1 wr) (fun _ iv _=>b.L.length-(Go.RowKit.intOf iv).toNat)
  case atStart=>exact⟨0,Nat.zero_le _,rfl,by simpa using HO7.out,HG1.out⟩
  case round =>
   obtain⟨k,hk,rfl,hown,hg'⟩:=hrel
   have hl1000:=HLL.out
   by_cases hlt:k<b.L.length
   ·obtain⟨q,hA,hq,hm⟩:=RdC.at25 HRP.out.rd (ze G0.out hg') k hlt
    have HTK:Hid (((b.L.take (k+1)).map (fun S=>hexB S.d)).map Value.string=((b.L.take k).map (fun S=>hexB S.d)).map Value.string++[Value.string (hexB (b.L[k]).d)]):=hQ9 (by rw [List.take_succ_eq_append_getElem hlt,List.map_append,List.map_append];rfl)
    rw [hA]
    have hk0:(0:Int)≤(k:Int):=by omega
    have hk1:(k:Int)<(b.L.length:Int):=by omega
    have e1:decide (k<b.L.length)=true:=decide_eq_true hlt
    have e4:IntKind.i64.wrap ((k:Int)+1)=(k:Int)+1:=IntWalk.i64_in _ (by omega)
    have HK:=hQ9 hlt
    have CDk:=hQ9 (CDG.out b.L[k] (List.getElem_mem hlt))
    have CTk:=hQ9 (fun W hW=>kj (b.L[k]).d (show U64n (b.L[k]).d from zgj _ _ _) W hW)
    generalize b.L[k]=S at *
    have SIS:Hid ((Tryz.prog.info? 149).map (·.size)=some S.C.toList.length):=hQ9 y5
    have SIZ:Hid ((Tryz.prog.info? 149).map (·.size)=some S.C.size):=hQ9 y5
    have HON:=hQ9 S.one
    obtain⟨w2,hw2,ht2,g2,z2⟩:=zce wr S.C rfl
    have HW2:=hQ9 hw2
    have HT2:=hQ9 ht2
    have hm2:=z2.cell
    have hown2:=zx (S:=fun _=>False) hown (zj g2) (fun g _ h=>h)
    have g02:=ze hg' g2
    have HG02:=hQ9 g02
    generalize S.C=gs at *
    obtain⟨td,htd⟩:∃ t,hexB S.d=t:=⟨_,rfl⟩
    rw [htd]at CTk HTK
    generalize S.d=d at *
    clear hw2 ht2 hown hA z2 g2 htd hlt
    go_wp2_with(first
     | (with_reducible refine wpList_load_mid rfl 149 (.tmp 32) rfl q (k*25) rfl gs.toList _ hm hut rfl SIS.out ?_;simp only [Array.toArray_toList])
     | (with_reducible refine wpList_store_mid rfl 149 (.tmp 5) (.tmp 33) rfl wr.heap.size 0 gs rfl rfl HT2.out SIZ.out HON.out ?_;rw [HW2.out];clear HW2 HT2)
     | (with_reducible refine wpList_load_mid rfl 149 (.tmp 5) rfl wr.heap.size 0 rfl gs.toList _ hm2 hut rfl SIS.out ?_;simp only [Array.toArray_toList]))
    refine(CDk.out w2 (HS.out.grew (ze G0.out HG02.out))).mono ?_
    rintro e w3 ⟨rfl,g3⟩
    have hown3:=zx (S:=fun _=>False) hown2 (zj g3) (fun g _ h=>h)
    have G3:=hQ9 (ze HG02.out g3)
    clear hown2 g3 g02 hm hm2
    go_wp2_with fail
    refine(CTk.out w3 (HS.out.grew (ze G0.out G3.out))).mono ?_
    rintro e w4 ⟨rfl,g4⟩
    have hown4:=zx (S:=fun _=>False) hown3 (zj g4) (fun g _ h=>h)
    have G4:=ze G3.out g4
    have hbs:w1.heap.size≤w4.heap.size:=G4.size
    clear hown3 g4
    go_wp2_with(at_builtin;refine zF rfl (.tmp 34) (.tmp 38) 160 rfl w1.heap.size 9 i0 (.string ⟨#[]⟩) 16 Tryz.underlying160 hi hz0 hz1 hz2 rfl _ (7+k) _ rfl (hown4.alloc _) (w4.heap.size+1) (some ⟨w4.heap.size,0,none⟩) 1 1 [Value.string td] rfl rfl (yq w4 9 #[Value.string td] (0,0)) (kt rfl) (by unfold maxLen;omega) (by omega) (by simp;omega) ?_;intro v6 w6 hown6 hgrow6 _;have hg6:=(zg G4 (.cells #[Value.string td] 9)).grown hgrow6 (by simp;have:=G4.size;omega) (fun g hg=>zA hown4 g hg))
    go_roundw
    case rel=>exact⟨k+1,HK.out,by go_num,by rw [HTK.out,←List.append_assoc];exact hown6,hg6⟩
    case measure=>have h9:=HK.out;simp [Go.RowKit.intOf];omega
   ·obtain rfl:k=b.L.length:=by omega
    rw [List.take_length]at hown
    obtain⟨A9,c9,rfl,hr9,-,-⟩:=xK hown
    have hr9':Rd wr wr.heap.size A9 (strL ([⟨#[98,108,111,99,107]⟩,t1,t2,t3,t4,t5,t6]++b.L.map (fun S=>hexB S.d))):=by
     unfold strL at hr9 ⊢
     rw [List.map_append];exact hr9
    have CJ9:=hQ9 (CJ.out A9 c9 wr hr9')
    clear hown hr9 hr9' hlt
    go_wp2_with fail
    refine(CJ9.out).mono ?_
    rintro e z ⟨rfl,gz⟩
    go_wp2_with fail
    go_ret
    exact⟨rfl,ze (ze G0.out hg') gz⟩
def tagView:List UInt8:=[118,105,101,119]
def nwW (vw qv:Int) (qd:Nat) (who:Int):List UInt8:=joinF [tagView,Lib.itoa vw,Lib.itoa who,Lib.itoa qv,hexL qd]
noncomputable def nwD (vw qv:Int) (qd:Nat) (who:Int):Nat:=sumL tagView (nwW vw qv qd who)
theorem qT (vw qv:Int) (qd:Nat) (who:Int):nwD vw qv qd who<18446744073709551616:=yV _ _
theorem js (vw qv:Int) (qd:Nat) (who:Int) (hv:in64 vw) (hqv:in64 qv) (hw:in64 who):(nwW vw qv qd who).length≤1000:=by
 unfold nwW
 have h1:=yw hv.1 hv.2
 have h2:=yw hw.1 hw.2
 have h3:=yw hqv.1 hqv.2
 have h5:=yt qd
 have f1:=zV (Lib.itoa vw)
 have f2:=zV (Lib.itoa who)
 have f3:=zV (Lib.itoa qv)
 have f5:=zV (hexL qd)
 have f7:=zV tagView
 have h8:tagView.length=4:=rfl
 simp only [joinF,List.flatMap_cons,List.flatMap_nil,List.length_append,List.length_cons,List.length_nil]
 omega
def nwC (vw qv:Int) (qd:Nat) (QA:Option Addr) (Qn Qk:Nat) (who sw lf:Int) (s:Nat→Nat) (pv:Value):Array Value:=#[.int .i64 vw,.int .i64 who,.int .i64 qv,.int .u64 (qd:Nat),.slice QA Qn Qk,.int .i64 sw,.int .i64 lf,u64V (s 0),u64V (s 1),u64V (s 2),u64V (s 3),u64V (s 4),u64V (s 5),u64V (s 6),u64V (s 7),u64V (s 8),u64V (s 9),u64V (s 10),u64V (s 11),u64V (s 12),u64V (s 13),u64V (s 14),u64V (s 15),u64V (s 16),u64V (s 17),pv]
theorem jt (vw qv:Int) (qd:Nat) (QA:Option Addr) (Qn Qk:Nat) (who sw lf:Int) (s:Nat→Nat) (A:Option Addr) (n c:Nat):(nwC vw qv qd QA Qn Qk who sw lf s (.slice A n c)).all (·.oneCell')=true:=by simp [nwC,u64V,Value.oneCell']
theorem zD:(Tryz.prog.info? 111).map (·.size)=some 26:=by kernel_rfl
theorem zcg {w:World} {b:Nat} {vw qv:Int} {qd:Nat} {QA:Option Addr} {Qn Qk:Nat} {who sw lf:Int} {s:Nat→Nat} {pv:Value} (h:w.rangeAt b 0 (nwC vw qv qd QA Qn Qk who sw lf s pv).toList):w.rangeAt b 5 (sgC sw lf s pv).toList:=by
 have:w.rangeAt b (0+5) (sgC sw lf s pv).toList:=kS (m:=5) h (qg 5 rfl)
 rwa [Nat.zero_add]at this
structure FiveO (b0:Nat) (w:World) (l:List ByteArray) (v:Value):Prop where
 out:w.ownsRow b0 9 1 v 5 (strL l)
theorem FiveO.gr {b0:Nat} {w w':World} {l:List ByteArray} {v:Value} (h:FiveO b0 w l v) (g:Grew w w'):FiveO b0 w' l v :=
 ⟨zx (S:=fun _=>False) h.out (zj g) (fun _ _ h=>h)⟩
theorem qU (vw qv:Int) (qd:Nat) (QA:Option Addr) (Qn Qk:Nat) (who sw lf:Int) (s:Nat→Nat) (A:Option Addr) (c:Nat) (l:List Nat) (hc:qd<18446744073709551616) (hqv:in64 qv) (hw:in64 who) (hv:in64 vw) (w:World) (hS:Std w) :
 Calls Tryz.prog 54 #[.agg (nwC vw qv qd QA Qn Qk who sw lf s (.slice A l.length c))] w fun e w'=>e=.returned (.string ⟨(nwW vw qv qd who).toArray⟩)∧Grew w w':=by
 obtain⟨i0,hi,hz0,hz1,hz2⟩:=info_parts (show(Tryz.prog.info? 9).map (fun i=>(i.zero,i.size,i.bytes))=some (some (.string ⟨#[]⟩),1,16) by kernel_rfl)
 have z0:=Ag.new w 111 (nwC vw qv qd QA Qn Qk who sw lf s (.slice A l.length c))
 have g0:=zg (zc w) (.cells (nwC vw qv qd QA Qn Qk who sw lf s (.slice A l.length c)) 111)
 have HS:=hQ9 hS
 have hlen:=js vw qv qd who hv hqv hw
 have C1:=hQ9 (fun W hW=>xk vw hv.1 hv.2 W hW)
 have C2:=hQ9 (fun W hW=>xk who hw.1 hw.2 W hW)
 have C3:=hQ9 (fun W hW=>xk qv hqv.1 hqv.2 W hW)
 have C4:=hQ9 (fun W hW=>kj qd (show U64n qd from hc) W hW)
 have CJ:Hid (∀(A4:Option Addr) (c:Nat) (W:World),Rd W W.heap.size A4 (strL [⟨#[118,105,101,119]⟩,⟨(Lib.itoa vw).toArray⟩,⟨(Lib.itoa who).toArray⟩,⟨(Lib.itoa qv).toArray⟩,hexB qd])→Calls Tryz.prog 86 #[.slice A4 5 c] W fun e w'=>e=.returned (.string ⟨(nwW vw qv qd who).toArray⟩)∧Grew W w'):=hQ9 (fun A4 c W hR=>by
  have hbys:bys [⟨#[118,105,101,119]⟩,⟨(Lib.itoa vw).toArray⟩,⟨(Lib.itoa who).toArray⟩,⟨(Lib.itoa qv).toArray⟩,hexB qd]=[tagView,Lib.itoa vw,Lib.itoa who,Lib.itoa qv,hexL qd]:=by
   simp [bys,hexB,tagView]
  have:=jh A4 c [⟨#[118,105,101,119]⟩,⟨(Lib.itoa vw).toArray⟩,⟨(Lib.itoa who).toArray⟩,⟨(Lib.itoa qv).toArray⟩,hexB qd] (by simp) (by rw [hbys];exact Nat.le_trans hlen (by decide)) W hR
  rw [hbys]at this
  exact this)
 clear hS hlen hc hqv hw hv
 generalize (⟨(nwW vw qv qd who).toArray⟩:ByteArray)=tj at *
 generalize (⟨(Lib.itoa vw).toArray⟩:ByteArray)=t1 at *
 generalize (⟨(Lib.itoa who).toArray⟩:ByteArray)=t2 at *
 generalize (⟨(Lib.itoa qv).toArray⟩:ByteArray)=t3 at *
 generalize hexB qd=t4 at *
 go_enter Tryz.func54,Tryz.ntmps54
 go_upto_region 1 with fail
 generalize w.alloc (.cells (nwC vw qv qd QA Qn Qk who sw lf s (.slice A l.length c)) 111)=w1 at *
 have G0:=hQ9 g0
 have HCvw:Hid (∀ y,Grew w1 y→y.cell? ⟨w.heap.size,0,none⟩=some (.int .i64 vw)):=hQ9 (fun y g=>by simpa [nwC]using (z0.grew g).cell 0 _ rfl)
 have HCwh:Hid (∀ y,Grew w1 y→y.cell? ⟨w.heap.size,1,none⟩=some (.int .i64 who)):=hQ9 (fun y g=>by simpa [nwC]using (z0.grew g).cell 1 _ rfl)
 have HCqv:Hid (∀ y,Grew w1 y→y.cell? ⟨w.heap.size,2,none⟩=some (.int .i64 qv)):=hQ9 (fun y g=>by simpa [nwC]using (z0.grew g).cell 2 _ rfl)
 have HCqd:Hid (∀ y,Grew w1 y→y.cell? ⟨w.heap.size,3,none⟩=some (.int .u64 (qd:Nat))):=hQ9 (fun y g=>by simpa [nwC]using (z0.grew g).cell 3 _ rfl)
 clear z0 g0
 refine zy 16 (fun ix9=>match ix9 with
  | 0=>fun v _=>v=.pointer (some ⟨w.heap.size,0,none⟩)
  | 1=>fun v _=>v=.int .i64 vw
  | 2=>fun v _=>v=.string t1
  | 3=>fun v _=>v=.pointer (some ⟨w.heap.size,1,none⟩)
  | 4=>fun v _=>v=.int .i64 who
  | 5=>fun v _=>v=.string t2
  | 6=>fun v _=>v=.pointer (some ⟨w.heap.size,2,none⟩)
  | 7=>fun v _=>v=.pointer (some ⟨w.heap.size,2,none⟩)
  | 8=>fun v _=>v=.int .i64 qv
  | 9=>fun v _=>v=.string t3
  | 10=>fun v _=>v=.pointer (some ⟨w.heap.size,2,none⟩)
  | 11=>fun v _=>v=.pointer (some ⟨w.heap.size,3,none⟩)
  | 12=>fun v _=>v=.int .u64 (qd:Nat)
  | 13=>fun v _=>v=.string t4
  | 14=>fun v z=>FiveO w1.heap.size z [⟨#[118,105,101,119]⟩,t1,t2,t3,t4] v
  | 15=>fun v _=>v=.string tj
  | _=>fun _ _=>True) (by kernel_rfl) (by kernel_rfl) ?_ ?_ ?_
 ·intro i v x y h hg
  match i,h with
  | 0,h | 1,h | 2,h | 3,h | 4,h | 5,h | 6,h | 7,h | 8,h | 9,h | 10,h | 11,h | 12,h | 13,h | 15,h=>exact h
  | 14,h=>exact FiveO.gr h hg
  | m+16,_=>trivial
 ·simp only [actOf,tk1,tk0,dr1,dr0,Act.put,si1,st1,st0,Nat.reduceAdd]
  refine⟨?_,?_,?_,?_,?_,?_,?_,?_,?_,?_,?_,?_,?_,?_,?_,?_,trivial⟩
  ·intro vs y hg hd
   dsimp only
   go_wp2_with fail
   exact⟨rfl,_,rfl,zc _,rfl⟩
  ·intro vs y hg hd
   obtain⟨h0,_⟩:=hd
   replace h0:=h0 rfl
   dsimp only
   rw [show vs 0=_ from h0]
   have hc:=HCvw.out y hg
   go_wp2_with fail
   exact⟨rfl,_,rfl,zc _,rfl⟩
  ·intro vs y hg hd
   obtain⟨h1,_⟩:=hd
   replace h1:=h1 rfl
   dsimp only
   rw [show vs 1=_ from h1]
   go_wp2_with(go_at_call 84;refine(C1.out y (HS.out.grew (ze G0.out hg))).mono ?_;rintro e z ⟨rfl,gz⟩)
   exact⟨rfl,_,rfl,gz,rfl⟩
  ·intro vs y hg hd
   dsimp only
   go_wp2_with fail
   exact⟨rfl,_,rfl,zc _,rfl⟩
  ·intro vs y hg hd
   obtain⟨h3,_⟩:=hd
   replace h3:=h3 rfl
   dsimp only
   rw [show vs 3=_ from h3]
   have hc:=HCwh.out y hg
   go_wp2_with fail
   exact⟨rfl,_,rfl,zc _,rfl⟩
  ·intro vs y hg hd
   obtain⟨h4,_⟩:=hd
   replace h4:=h4 rfl
   dsimp only
   rw [show vs 4=_ from h4]
   go_wp2_with(go_at_call 84;refine(C2.out y (HS.out.grew (ze G0.out hg))).mono ?_;rintro e z ⟨rfl,gz⟩)
   exact⟨rfl,_,rfl,gz,rfl⟩
  ·intro vs y hg hd
   dsimp only
   go_wp2_with fail
   exact⟨rfl,_,rfl,zc _,rfl⟩
  ·intro vs y hg hd
   obtain⟨h6,_⟩:=hd
   replace h6:=h6 rfl
   dsimp only
   rw [show vs 6=_ from h6]
   go_wp2_with fail
   exact⟨rfl,_,rfl,zc _,rfl⟩
  ·intro vs y hg hd
   obtain⟨h7,_⟩:=hd
   replace h7:=h7 rfl
   dsimp only
   rw [show vs 7=_ from h7]
   have hc:=HCqv.out y hg
   go_wp2_with fail
   exact⟨rfl,_,rfl,zc _,rfl⟩
  ·intro vs y hg hd
   obtain⟨h8,_⟩:=hd
   replace h8:=h8 rfl
   dsimp only
   rw [show vs 8=_ from h8]
   go_wp2_with(go_at_call 84;refine(C3.out y (HS.out.grew (ze G0.out hg))).mono ?_;rintro e z ⟨rfl,gz⟩)
   exact⟨rfl,_,rfl,gz,rfl⟩
  ·intro vs y hg hd
   dsimp only
   go_wp2_with fail
   exact⟨rfl,_,rfl,zc _,rfl⟩
  ·intro vs y hg hd
   obtain⟨h10,_⟩:=hd
   replace h10:=h10 rfl
   dsimp only
   rw [show vs 10=_ from h10]
   go_wp2_with fail
   exact⟨rfl,_,rfl,zc _,rfl⟩
  ·intro vs y hg hd
   obtain⟨h11,_⟩:=hd
   replace h11:=h11 rfl
   dsimp only
   rw [show vs 11=_ from h11]
   have hc:=HCqd.out y hg
   go_wp2_with fail
   exact⟨rfl,_,rfl,zc _,rfl⟩
  ·intro vs y hg hd
   obtain⟨h12,_⟩:=hd
   replace h12:=h12 rfl
   dsimp only
   rw [show vs 12=_ from h12]
   go_wp2_with(go_at_call 83;refine(C4.out y (HS.out.grew (ze G0.out hg))).mono ?_;rintro e z ⟨rfl,gz⟩)
   exact⟨rfl,_,rfl,gz,rfl⟩
  ·intro vs y hg hd
   obtain⟨h2,h5,h9,h13,_⟩:=hd
   replace h2:=h2 rfl
   replace h5:=h5 rfl
   replace h9:=h9 rfl
   replace h13:=h13 rfl
   dsimp only
   rw [show vs 2=_ from h2,show vs 5=_ from h5,show vs 9=_ from h9,show vs 13=_ from h13]
   go_wp2_with fail
   exact⟨rfl,_,rfl,zg (zc _) _,⟨World.ownsRow_lit y #[.string ⟨#[118,105,101,119]⟩,.string t1,.string t2,.string t3,.string t4] 5 hg.size (by decide) rfl⟩⟩
  ·intro vs y hg hd
   obtain⟨h14,_⟩:=hd
   replace h14:=h14 rfl
   dsimp only
   obtain⟨A9,c9,e9,hr9,-,-⟩:=xK (FiveO.out h14)
   rw [e9]
   go_wp2_with(go_at_call 86;refine(CJ.out A9 c9 y hr9).mono ?_;rintro e z ⟨rfl,gz⟩)
   exact⟨rfl,_,rfl,gz,rfl⟩
 ·intro vs y hg hJ
  have j0:vs 0=.pointer (some ⟨w.heap.size,0,none⟩):=hJ 0 (by decide)
  have j1:vs 1=.int .i64 vw:=hJ 1 (by decide)
  have j2:vs 2=.string t1:=hJ 2 (by decide)
  have j3:vs 3=.pointer (some ⟨w.heap.size,1,none⟩):=hJ 3 (by decide)
  have j4:vs 4=.int .i64 who:=hJ 4 (by decide)
  have j5:vs 5=.string t2:=hJ 5 (by decide)
  have j6:vs 6=.pointer (some ⟨w.heap.size,2,none⟩):=hJ 6 (by decide)
  have j7:vs 7=.pointer (some ⟨w.heap.size,2,none⟩):=hJ 7 (by decide)
  have j8:vs 8=.int .i64 qv:=hJ 8 (by decide)
  have j9:vs 9=.string t3:=hJ 9 (by decide)
  have j10:vs 10=.pointer (some ⟨w.heap.size,2,none⟩):=hJ 10 (by decide)
  have j11:vs 11=.pointer (some ⟨w.heap.size,3,none⟩):=hJ 11 (by decide)
  have j12:vs 12=.int .u64 (qd:Nat):=hJ 12 (by decide)
  have j13:vs 13=.string t4:=hJ 13 (by decide)
  have j15:vs 15=.string tj:=hJ 15 (by decide)
  have s17:=hJ 14 (by decide)
  clear hJ
  simp only [actOf,tk1,tk0,dr1,dr0,Act.put,si1,st1,st0,Nat.reduceAdd]
  rw [show vs 15=_ from j15]
  go_wp2_with fail
  go_ret
  exact⟨rfl,ze G0.out hg⟩
theorem xZ (vw qv:Int) (qd:Nat) (QA:Option Addr) (Qn Qk:Nat) (who sw lf:Int) (s:Nat→Nat) (A:Option Addr) (c:Nat) (l:List Nat) (hc:qd<18446744073709551616) (hqv:in64 qv) (hw:in64 who) (hv:in64 vw) (w:World) (hS:Std w) :
 Calls Tryz.prog 52 #[.agg (nwC vw qv qd QA Qn Qk who sw lf s (.slice A l.length c))] w fun e w'=>e=.returned (.int .u64 (nwD vw qv qd who:Nat))∧Grew w w':=by
 have z0:=Ag.new w 111 (nwC vw qv qd QA Qn Qk who sw lf s (.slice A l.length c))
 have g0:=zg (zc w) (.cells (nwC vw qv qd QA Qn Qk who sw lf s (.slice A l.length c)) 111)
 have hut:=Tryz.underlying111
 have CW:=hQ9 (qU vw qv qd QA Qn Qk who sw lf s A c l hc hqv hw hv (w.alloc (.cells (nwC vw qv qd QA Qn Qk who sw lf s (.slice A l.length c)) 111)) (hS.grew g0))
 have CH:=hQ9 (fun W=>qA ⟨#[118,105,101,119]⟩ ⟨(nwW vw qv qd who).toArray⟩ (by decide) (by have:=js vw qv qd who hv hqv hw;simp [ByteArray.size];omega) W)
 have HSG:Hid ((Tryz.prog.info? 111).map (·.size)=some (nwC vw qv qd QA Qn Qk who sw lf s (.slice A l.length c)).toList.length):=hQ9 zD
 have hm0:=z0.cell
 clear z0 hS
 go_enter Tryz.func52,Tryz.ntmps52
 go_wp2_with(with_reducible refine wpList_load_mid rfl 111 (.tmp 1) rfl w.heap.size 0 rfl (nwC vw qv qd QA Qn Qk who sw lf s (.slice A l.length c)).toList _ hm0 hut rfl HSG.out ?_;simp only [Array.toArray_toList])
 refine(CW.out).mono ?_
 rintro e w1 ⟨rfl,g1⟩
 go_wp2_with fail
 refine(CH.out _).mono ?_
 rintro e w2 ⟨rfl,rfl⟩
 go_wp2_with fail
 go_ret
 exact⟨rfl,ze g0 g1⟩
theorem zgy (vw qv:Int) (qd:Nat) (QA:Option Addr) (Qn Qk:Nat) (who sw lf:Int) (s:Nat→Nat) (A:Option Addr) (c:Nat) (l:List Nat) (hc:qd<18446744073709551616) (hqv:in64 qv) (hw:in64 who) (hv:in64 vw) (w:World) (hS:Std w) :
 Calls Tryz.prog 118 #[.agg (nwC vw qv qd QA Qn Qk who sw lf s (.slice A l.length c))] w fun e w'=>e=.returned (.agg (mkC who (nwD vw qv qd who) sw lf s (.slice A l.length c)))∧Grew w w':=by
 have z0:=Ag.new w 111 (nwC vw qv qd QA Qn Qk who sw lf s (.slice A l.length c))
 have g0:=zg (zc w) (.cells (nwC vw qv qd QA Qn Qk who sw lf s (.slice A l.length c)) 111)
 have hus:=Tryz.underlying67
 have hun:=Tryz.underlying111
 have HSI:Hid ((Tryz.prog.info? 67).map (·.size)=some (sgC sw lf s (.slice A l.length c)).toList.length):=hQ9 zL
 have HSN:Hid ((Tryz.prog.info? 111).map (·.size)=some (nwC vw qv qd QA Qn Qk who sw lf s (.slice A l.length c)).toList.length):=hQ9 zD
 have HS:=hQ9 hS
 have hum:=Tryz.underlying247
 have CD:=hQ9 (fun W hW=>xZ vw qv qd QA Qn Qk who sw lf s A c l hc hqv hw hv W hW)
 obtain⟨d,hd⟩:∃ d,nwD vw qv qd who=d:=⟨_,rfl⟩
 rw [hd]at CD ⊢
 have HBU:=hQ9 (zb6 who d sw lf s A l.length c)
 have zm:Ag ((w.alloc (.cells (nwC vw qv qd QA Qn Qk who sw lf s (.slice A l.length c)) 111)).alloc (.cells (#[.int .i64 0,.int .u64 0,.int .i64 0,.int .i64 0,.int .u64 0,.int .u64 0,.int .u64 0,.int .u64 0,.int .u64 0,.int .u64 0,.int .u64 0,.int .u64 0,.int .u64 0,.int .u64 0,.int .u64 0,.int .u64 0,.int .u64 0,.int .u64 0,.int .u64 0,.int .u64 0,.int .u64 0,.int .u64 0,.slice none 0 0]) 247)) (w.heap.size+1) (#[.int .i64 0,.int .u64 0,.int .i64 0,.int .i64 0,.int .u64 0,.int .u64 0,.int .u64 0,.int .u64 0,.int .u64 0,.int .u64 0,.int .u64 0,.int .u64 0,.int .u64 0,.int .u64 0,.int .u64 0,.int .u64 0,.int .u64 0,.int .u64 0,.int .u64 0,.int .u64 0,.int .u64 0,.int .u64 0,.slice none 0 0]:Array Value).toList:=by
  have:=Ag.new (w.alloc (.cells (nwC vw qv qd QA Qn Qk who sw lf s (.slice A l.length c)) 111)) 247 (#[.int .i64 0,.int .u64 0,.int .i64 0,.int .i64 0,.int .u64 0,.int .u64 0,.int .u64 0,.int .u64 0,.int .u64 0,.int .u64 0,.int .u64 0,.int .u64 0,.int .u64 0,.int .u64 0,.int .u64 0,.int .u64 0,.int .u64 0,.int .u64 0,.int .u64 0,.int .u64 0,.int .u64 0,.int .u64 0,.slice none 0 0])
  simpa using this
 have z1:=z0.grew (zg (zc _) (.cells (#[.int .i64 0,.int .u64 0,.int .i64 0,.int .i64 0,.int .u64 0,.int .u64 0,.int .u64 0,.int .u64 0,.int .u64 0,.int .u64 0,.int .u64 0,.int .u64 0,.int .u64 0,.int .u64 0,.int .u64 0,.int .u64 0,.int .u64 0,.int .u64 0,.int .u64 0,.int .u64 0,.int .u64 0,.int .u64 0,.slice none 0 0]) 247))
 have g1:=zg g0 (.cells (#[.int .i64 0,.int .u64 0,.int .i64 0,.int .i64 0,.int .u64 0,.int .u64 0,.int .u64 0,.int .u64 0,.int .u64 0,.int .u64 0,.int .u64 0,.int .u64 0,.int .u64 0,.int .u64 0,.int .u64 0,.int .u64 0,.int .u64 0,.int .u64 0,.int .u64 0,.int .u64 0,.int .u64 0,.int .u64 0,.slice none 0 0]) 247)
 clear hd hS hc hqv hw hv z0 g0
 go_enter Tryz.func118,Tryz.ntmps118
 go_wp2_with fail
 generalize (w.alloc (.cells (nwC vw qv qd QA Qn Qk who sw lf s (.slice A l.length c)) 111)).alloc (.cells (#[.int .i64 0,.int .u64 0,.int .i64 0,.int .i64 0,.int .u64 0,.int .u64 0,.int .u64 0,.int .u64 0,.int .u64 0,.int .u64 0,.int .u64 0,.int .u64 0,.int .u64 0,.int .u64 0,.int .u64 0,.int .u64 0,.int .u64 0,.int .u64 0,.int .u64 0,.int .u64 0,.int .u64 0,.int .u64 0,.slice none 0 0]) 247)=w1 at *
 have G0:=hQ9 g1
 have HC1:Hid (∀ y,Grew w1 y→y.cell? ⟨w.heap.size,1,none⟩=some (.int .i64 who)):=hQ9 (fun y g=>by simpa [nwC]using (z1.grew g).cell 1 _ rfl)
 have HCA:Hid (∀ y,Grew w1 y→y.rangeAt w.heap.size 0 (nwC vw qv qd QA Qn Qk who sw lf s (.slice A l.length c)).toList):=hQ9 (fun y g=>(z1.grew g).cell)
 have HCM:Hid (∀ y,Grew w1 y→y.rangeAt w.heap.size 5 (sgC sw lf s (.slice A l.length c)).toList):=hQ9 (fun y g=>zcg (z1.grew g).cell)
 clear z1 g1
 refine zy 7 (fun ix9=>match ix9 with
  | 0=>fun v _=>v=.pointer (some ⟨w.heap.size,1,none⟩)
  | 1=>fun v _=>v=.int .i64 who
  | 2=>fun v _=>v=.agg (nwC vw qv qd QA Qn Qk who sw lf s (.slice A l.length c))
  | 3=>fun v _=>v=.int .u64 (d:Nat)
  | 4=>fun v _=>v=.pointer (some ⟨w.heap.size,5,none⟩)
  | 5=>fun v _=>v=.agg (sgC sw lf s (.slice A l.length c))
  | 6=>fun v _=>v=.agg (mkC who d sw lf s (.slice A l.length c))
  | _=>fun _ _=>True) (by kernel_rfl) (by kernel_rfl) ?_ ?_ ?_
 ·intro i v x y h hg
  match i,h with
  | 0,h | 1,h | 2,h | 3,h | 4,h | 5,h | 6,h=>exact h
  | m+7,_=>trivial
 ·simp only [actOf,tk1,tk0,dr1,dr0,Act.put,si1,st1,st0,Nat.reduceAdd]
  refine⟨?_,?_,?_,?_,?_,?_,?_,trivial⟩
  ·intro vs y hg hd
   dsimp only
   go_wp2_with fail
   exact⟨rfl,_,rfl,zc _,rfl⟩
  ·intro vs y hg hd
   obtain⟨h0,_⟩:=hd
   replace h0:=h0 rfl
   dsimp only
   rw [show vs 0=_ from h0]
   have hc:=HC1.out y hg
   go_wp2_with fail
   exact⟨rfl,_,rfl,zc _,rfl⟩
  ·intro vs y hg hd
   dsimp only
   have hm:=HCA.out y hg
   go_wp2_with(with_reducible refine wpList_load_mid rfl 111 (.tmp 1) rfl w.heap.size 0 rfl (nwC vw qv qd QA Qn Qk who sw lf s (.slice A l.length c)).toList _ hm hun rfl HSN.out ?_;simp only [Array.toArray_toList])
   exact⟨rfl,_,rfl,zc _,rfl⟩
  ·intro vs y hg hd
   obtain⟨h2,_⟩:=hd
   replace h2:=h2 rfl
   dsimp only
   rw [show vs 2=_ from h2]
   go_wp2_with(go_at_call 52;refine(CD.out y (HS.out.grew (ze G0.out hg))).mono ?_;rintro e z ⟨rfl,gz⟩)
   exact⟨rfl,_,rfl,gz,rfl⟩
  ·intro vs y hg hd
   dsimp only
   go_wp2_with fail
   exact⟨rfl,_,rfl,zc _,rfl⟩
  ·intro vs y hg hd
   obtain⟨h4,_⟩:=hd
   replace h4:=h4 rfl
   dsimp only
   rw [show vs 4=_ from h4]
   have hm:=HCM.out y hg
   go_wp2_with(with_reducible refine wpList_load_mid rfl 67 (.tmp 7) rfl w.heap.size 5 rfl (sgC sw lf s (.slice A l.length c)).toList _ hm hus rfl HSI.out ?_)
   exact⟨rfl,_,rfl,zc _,rfl⟩
  ·intro vs y hg hd
   obtain⟨h1,h3,h5,_⟩:=hd
   replace h1:=h1 rfl
   replace h3:=h3 rfl
   replace h5:=h5 rfl
   dsimp only
   rw [show vs 1=_ from h1,show vs 3=_ from h3,show vs 5=_ from h5]
   refine zC rfl 247 #[(0,.tmp 4),(1,.tmp 6),(2,.tmp 8)] rfl _ (by simpa [Act.eval]using HBU.out) ?_
   go_wp2_with fail
   exact⟨rfl,_,rfl,zc _,rfl⟩
 ·intro vs y hg hJ
  have j0:vs 0=.pointer (some ⟨w.heap.size,1,none⟩):=hJ 0 (by decide)
  have j1:vs 1=.int .i64 who:=hJ 1 (by decide)
  have j2:vs 2=.agg (nwC vw qv qd QA Qn Qk who sw lf s (.slice A l.length c)):=hJ 2 (by decide)
  have j3:vs 3=.int .u64 (d:Nat):=hJ 3 (by decide)
  have j4:vs 4=.pointer (some ⟨w.heap.size,5,none⟩):=hJ 4 (by decide)
  have j5:vs 5=.agg (sgC sw lf s (.slice A l.length c)):=hJ 5 (by decide)
  have j6:vs 6=.agg (mkC who d sw lf s (.slice A l.length c)):=hJ 6 (by decide)
  clear hJ
  simp only [actOf,tk1,tk0,dr1,dr0,Act.put,si1,st1,st0,Nat.reduceAdd]
  rw [j6]
  clear j0 j1 j2 j3 j4 j5 j6
  have z2:=zm.grew hg
  have HTH:Hid (y.there (w.heap.size+1) 0 (mkC who d sw lf s (.slice A l.length c)).size):=hQ9 (z2.thereN 23 rfl)
  have HSM:Hid ((Tryz.prog.info? 247).map (·.size)=some (mkC who d sw lf s (.slice A l.length c)).size):=hQ9 xJ
  have HON:=hQ9 (jm who d sw lf s A l.length c)
  have z3:=Ag.set (vs:=(mkC who d sw lf s (.slice A l.length c)).toList) z2 rfl
  have G3:=zi (o:=0) (b:=w.heap.size+1) (mkC who d sw lf s (.slice A l.length c)).toList (ze G0.out hg) (by omega)
  go_wp2_with(with_reducible refine wpList_store_mid rfl 247 (.tmp 2) (.tmp 9) rfl (w.heap.size+1) 0 (mkC who d sw lf s (.slice A l.length c)) rfl rfl HTH.out HSM.out HON.out ?_)
  exact bodyPost_ret (zM Tryz.results118 _ _ (w.heap.size+1) _ _ rfl z3 hum rfl xJ) rfl ⟨rfl,G3⟩
noncomputable def vqE (K:KP) (u:Int) (d:Nat) (L:List VP):Int:=if u=0 then (if d=0 then (if L.length=0 then 0 else 1) else 1) else cqV K u d L
theorem zk0 {K:KP} (hK:K.ok) (u:Int) (d:Nat) (A:Option Addr) (cap:Nat) (L:List VP) (hl:L.length≤100000) (w:World) (hS:Std w) (hk:K.at w) (hL:Vps w A L) :
 Calls Tryz.prog 39 #[.agg K.C,.agg (vqC u d A L.length cap)] w fun e w'=>e=.returned (.int .i64 (vqE K u d L))∧Grew w w':=by
 have huf:=Tryz.underlying46
 have HCF:Hid ((Tryz.prog.info? 46).map (·.size)=some [Value.int .i64 K.f].length):=hQ9 (by kernel_rfl)
 have z0:=(Ag.new w 49 K.C).grew (zg (zc _) (.cells (vqC u d A L.length cap) 38))
 have z1:=Ag.new (w.alloc (.cells K.C 49)) 38 (vqC u d A L.length cap)
 rw [zl]at z1
 have G0:=zg (zg (zc w) (.cells K.C 49)) (.cells (vqC u d A L.length cap) 38)
 have c0:((w.alloc (.cells K.C 49)).alloc (.cells (vqC u d A L.length cap) 38)).cell? ⟨w.heap.size+1,0,none⟩=some (.int .i64 u):=by simpa using z1.cell 0 _ rfl
 have c1:((w.alloc (.cells K.C 49)).alloc (.cells (vqC u d A L.length cap) 38)).cell? ⟨w.heap.size+1,1,none⟩=some (.int .u64 (d:Nat)):=by simpa using z1.cell 1 _ rfl
 have c2:((w.alloc (.cells K.C 49)).alloc (.cells (vqC u d A L.length cap) 38)).cell? ⟨w.heap.size+1,2,none⟩=some (.slice A L.length cap):=by simpa using z1.cell 2 _ rfl
 by_cases hu0:u=0
 ·have HV:vqE K u d L=if d=0 then (if L.length=0 then 0 else 1) else 1:=if_pos hu0
  rw [HV]
  have e0:(u==0)=true:=by simpa using hu0
  clear HV z0 z1 hS hk hL hK
  by_cases hd0:d=0
  ·rw [if_pos hd0]
   have e2:((d:Int) != 0)=false:=by simp [hd0]
   clear hd0
   by_cases hl0:L.length=0
   ·rw [if_pos hl0]
    have e3:decide (0<L.length)=false:=decide_eq_false (by omega)
    clear hl0
    clear hu0
    go_enter Tryz.func39,Tryz.ntmps39
    go_wp2_with fail
    go_ret
    exact⟨rfl,G0⟩
   ·rw [if_neg hl0]
    have e3:decide (0<L.length)=true:=decide_eq_true (by omega)
    clear hl0
    clear hu0
    go_enter Tryz.func39,Tryz.ntmps39
    go_wp2_with fail
    go_ret
    exact⟨rfl,G0⟩
  ·rw [if_neg hd0]
   have e2:((d:Int) != 0)=true:=by simpa using hd0
   clear hd0
   clear hu0
   go_enter Tryz.func39,Tryz.ntmps39
   go_wp2_with fail
   go_ret
   exact⟨rfl,G0⟩
 have HV:Hid (vqE K u d L=cqV K u d L):=hQ9 (if_neg hu0)
 have e0:(u==0)=false:=by simpa using hu0
 clear hu0
 have hmf:=xB z0
 have CQ:=hQ9 (chq_vp hK A cap L hl u d (w.heap.size+1) w.heap.size (.slice A L.length cap) _ (hS.grew G0) (hk.gr G0) (hL.gr G0) z1 z0)
 clear z0 z1 hS hk hL hK
 go_enter Tryz.func39,Tryz.ntmps39
 go_wp2_with(with_reducible refine wpList_load_mid rfl 46 (.tmp 17) rfl w.heap.size 0 rfl [.int .i64 K.f] _ hmf huf rfl HCF.out ?_)
 refine(CQ.out).mono ?_
 rintro e w5 ⟨rfl,g5⟩
 go_wp2_with fail
 go_ret
 exact⟨by rw [HV.out];rfl,ze G0 g5⟩
theorem zfa (b:BK) (h:b.ok) (w:World) (hS:Std w) (hb:b.at w) :
 Calls Tryz.prog 19 #[.agg b.C] w fun e w'=>e=.returned (.int .u64 (bkD b:Nat))∧Grew w w':=by
 have hub:=Tryz.underlying41
 have SIC:Hid ((Tryz.prog.info? 41).map (·.size)=some b.C.toList.length):=hQ9 xq
 have z1:=Ag.new w 41 b.C
 have G1:=zg (zc w) (.cells b.C 41)
 have CW:=hQ9 (zgx b h _ (hS.grew G1) (hb.gr G1))
 have CH:=hQ9 (fun W=>qA ⟨#[98,108,111,99,107]⟩ ⟨(bwW b).toArray⟩ (by decide) (by have:=zdz b h;simp [ByteArray.size];omega) W)
 have e1:sumL (⟨#[98,108,111,99,107]⟩:ByteArray).data.toList (⟨(bwW b).toArray⟩:ByteArray).data.toList=sumL tagBlock (bwW b):=by simp [tagBlock]
 rw [e1]at CH
 have hm:=z1.cell
 have hc:(w.alloc (.cells b.C 41)).cell? ⟨w.heap.size,0,none⟩=some (.int .i64 b.vw):=by simpa [BK.C]using z1.cell 0 _ rfl
 clear e1 hS z1 h hb
 by_cases hv:b.vw=0
 ·have hd:bkD b=0:=if_pos hv
  rw [hd]
  have e5:(b.vw==0)=true:=by simpa using hv
  clear hd hv CW CH
  generalize b.C=gc at *
  generalize b.vw=bv at *
  go_enter Tryz.func19,Tryz.ntmps19
  go_wp2_with fail
  go_ret
  exact⟨rfl,G1⟩
 ·have hd:bkD b=sumL tagBlock (bwW b):=if_neg hv
  rw [hd]
  have e5:(b.vw==0)=false:=by simpa using hv
  clear hd hv
  generalize sumL tagBlock (bwW b)=d at *
  generalize (⟨(bwW b).toArray⟩:ByteArray)=tj at *
  generalize b.C=gc at *
  generalize b.vw=bv at *
  go_enter Tryz.func19,Tryz.ntmps19
  go_wp2_with(with_reducible refine wpList_load_mid rfl 41 (.tmp 1) rfl w.heap.size 0 rfl gc.toList _ hm hub rfl SIC.out ?_;simp only [Array.toArray_toList])
  refine(CW.out).mono ?_
  rintro e w1 ⟨rfl,g1⟩
  go_wp2_with fail
  refine(CH.out w1).mono ?_
  rintro e w2 ⟨rfl,rfl⟩
  go_wp2_with fail
  go_ret
  exact⟨rfl,ze G1 g1⟩
end Go.Proofs.YtidjnnnigcmdpaaGreatDoor
