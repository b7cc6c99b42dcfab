/- slices.Clone at digests; median.copied, field.Map of it. -/
import Derived.Test.YtkpnheenacchhaaGreatDoorJzz
import Derived.Lib.SliceRun
import Derived.Test.YtkpnheenacchhaaGreatDoorJbs
import Derived.Test.YtkpnheenacchhaaGreatDoorJbq
import Derived.Test.YtkpnheenacchhaaGreatDoorJbb
import Derived.Test.YtkpnheenacchhaaGreatDoorJbn
import Derived.Test.YtkpnheenacchhaaGreatDoorJbp
import Derived.Test.YtkpnheenacchhaaGreatDoorJbr
set_option maxHeartbeats 2000000
set_option maxRecDepth 100000
set_option linter.unusedSimpArgs false
set_option linter.unusedVariables false
namespace Go.Proofs.YtkpnheenacchhaaGreatDoor
open Go.RowKit
theorem kU (A:Option Addr) (c B:Nat) (l:List Nat) (hl:l.length≤1048576) (w:World) (hr:Rd w B A (u64L l)) (hB:B≤w.heap.size) :
 Calls Tryz.prog 220 #[.slice A l.length c] w fun e w'=>∃ A2 c2,e=.returned (.slice A2 l.length c2)∧Rd w' w'.heap.size A2 (u64L l)∧(∀ ad,A2=some ad→w.heap.size≤ad.block)∧Grew w w':=by
 obtain⟨i0,hi0,hz0,hz1,hz2⟩:=info_parts (show(Tryz.prog.info? 72).map (fun i=>(i.zero,i.size,i.bytes))=some (some (.int .u64 0),1,8) by kernel_rfl)
 have he:=fun W=>Lib.run_eql_slice_nil (P:=Tryz.prog) W 75 72 A l.length c 0 0 Tryz.underlying75
 cases A with
 | none =>
  have hn:l=[]:=by
   cases l with
   | nil=>rfl
   | cons a l =>
    obtain⟨ad,h,_⟩:=hr 0 (by simp [u64L])
    cases h
  subst hn
  simp only [List.length_nil,Option.isNone_none]at he ⊢
  go_enter Tryz.func220,Tryz.ntmps220
  go_wp2_with fail
  go_ret
  exact⟨none,0,rfl,(fun k h=>absurd h (by simp [u64L])),(fun ad h=>by cases h),Below.refl _ _⟩
 | some ad =>
  have hr1:=hr.alloc hB (.cells #[] 72)
  have hmade:(w.alloc (.cells #[] 72)).ownsRow w.heap.size 72 1 (.slice (some ⟨w.heap.size,0,none⟩) 0 0) 0 []:=World.ownsRow_made w #[] 0 (Nat.le_refl _) (by decide) rfl
  have HR:=hQ9 hr1
  clear hr hr1
  go_enter Tryz.func220,Tryz.ntmps220
  go_wp2_with(at_builtin;refine zd rfl _ _ _ rfl w.heap.size 72 i0 _ 8 Tryz.underlying75 hi0 hz0 hz1 hz2 rfl _ 0 [] rfl hmade B (some ad) l.length c (u64L l) rfl (zM l) HR.out (fun u hu=>by obtain⟨n,_,rfl⟩:=List.mem_map.1 hu;rfl) (by unfold maxLen;omega) (by omega) (by simp) ?_;intro v2 w2 hown2 hgrow hat)
  simp only [Nat.zero_add,List.nil_append]at hown2
  obtain⟨A2,c2,rfl,hrd,hn1,hab⟩:=qI hown2
  go_wp2_with fail
  go_ret
  exact⟨A2,c2,rfl,hrd,fun ad h=>(hab ad h).1,((Below.refl _ _).alloc (Nat.le_refl _) _).grown hgrow (by simp) (fun g hg=>by have h':some w.heap.size=some g:=hg;injection h' with h';omega)⟩
def SP.mv (S:SP) (A:Option Addr) (c:Nat):SP:={ S with A:=A,c:=c }
theorem SP.mv_ok {S:SP} (h:S.ok) (A:Option Addr) (c:Nat):(S.mv A c).ok:=⟨h.cm,h.who,h.at_,h.sw,h.lf,h.s,h.len,h.l⟩
structure MvL (L M:List SP):Prop where
 len:M.length=L.length
 each:∀ k (h:k<L.length) (h':k<M.length),∃ A c,M[k]=L[k].mv A c
theorem MvL.nil:MvL [] []:=⟨rfl,fun k h=>absurd h (by simp)⟩
theorem MvL.snoc {L M:List SP} (h:MvL L M) (S:SP) (A:Option Addr) (c:Nat):MvL (L++[S]) (M++[S.mv A c]):=by
 refine⟨by simp [h.len],fun k h1 h2=>?_⟩
 by_cases hk:k<L.length
 ·rw [List.getElem_append_left hk,List.getElem_append_left (by rw [h.len];exact hk)]
  exact h.each k hk _
 ·have hk':k=L.length:=by have h3:(L++[S]).length=L.length+1:=by simp
                          omega
  subst hk'
  refine⟨A,c,?_⟩
  have e1:(L++[S])[L.length]'h1=S:=by simp
  have e2:(M++[S.mv A c])[L.length]'h2=S.mv A c:=by
   have:∀ n (hn:n<(M++[S.mv A c]).length),n=M.length→(M++[S.mv A c])[n]=S.mv A c:=fun n hn e=>by subst e;simp
   exact this _ _ h.len.symm
  rw [e1,e2]
theorem at_lt {S:SP} {w:World} (h:S.at w):∀ ad,S.A=some ad→S.l=[]∨ad.block<w.heap.size:=fun ad e=>by
 cases hl:S.l with
 | nil=>exact .inl rfl
 | cons a r =>
  obtain⟨ad',e',hb,_⟩:=h 0 (by simp [u64L,hl])
  rw [e]at e';cases e'
  exact .inr hb
theorem xD {S:SP} {w w':World} {row:Option Nat} (h:S.at w) (k:w.grownBy w' row) (hn:∀ ad,S.A=some ad→∀ g,row=some g→S.l=[]∨ad.block≠g):S.at w':=by
 by_cases hl:S.l=[]
 ·intro j hj;rw [hl]at hj;exact absurd hj (by simp [u64L])
 ·exact jM h k (fun ad e hh=>by
   rcases hn ad e ad.block hh with h1 | h1
   ·exact hl h1
   ·exact h1 rfl)
theorem Ag.setTail {w:World} {b:Nat} {pre old vs:List Value} (h:Ag w b (pre++old)) (hl:vs.length=old.length):Ag (w.setCells b pre.length vs) b (pre++vs):=by
 have hle:(pre++old).length=(pre++vs).length:=by simp [hl]
 have ht:w.there b pre.length vs.length:=fun i hi=>by
  have:=h.there (pre.length+i) (by rw [List.length_append];omega)
  simpa using this
 have hs:=World.rangeAt_setCells_same w b pre.length vs ht
 refine⟨fun j v hj=>?_,fun j hj=>⟨?_,?_⟩,Nat.lt_of_lt_of_le h.lt (zk vs b pre.length w).size⟩
 ·by_cases hlt:j<pre.length
  ·rw [List.getElem?_append_left hlt]at hj
   rw [World.cell?_setCells_out b vs pre.length w _ (fun _ _=>.inl (by simpa using hlt))]
   exact h.cell j v (by rw [List.getElem?_append_left hlt];exact hj)
  ·rw [List.getElem?_append_right (by omega)]at hj
   have:=hs (j-pre.length) v hj
   rwa [show pre.length+(j-pre.length)=0+j by omega]at this
 ·exact World.isSome_setCells b vs pre.length w _ (h.there j (by rw [hle];exact hj)).1
 ·rw [World.frozen?_setCells];exact(h.there j (by rw [hle];exact hj)).2
theorem qJ (who lf:Int) (s:Nat→Nat) (A:Option Addr) (c:Nat) (l:List Nat) (hl:l.length≤1000) (w:World) (ha:Rd w w.heap.size A (u64L l)) :
 Calls Tryz.prog 171 #[.agg (sgC who lf s (.slice A l.length c))] w fun e w'=>∃ A2 c2,e=.returned (.agg (sgC who lf s (.slice A2 l.length c2)))∧Rd w' w'.heap.size A2 (u64L l)∧(∀ ad,A2=some ad→w.heap.size≤ad.block)∧Grew w w':=by
 have z1:=(Ag.new w 77 (sgC who lf s (.slice A l.length c))).grew (zc (za _) (.cells (zS21) 77))
 have z2:Ag ((w.alloc (.cells (sgC who lf s (.slice A l.length c)) 77)).alloc (.cells (zS21) 77)) (w.heap.size+1) ((zS21):Array Value).toList:=by
  have:=Ag.new (w.alloc (.cells (sgC who lf s (.slice A l.length c)) 77)) 77 (zS21)
  simpa using this
 have G0:=zc (zc (za w) (.cells (sgC who lf s (.slice A l.length c)) 77)) (.cells (zS21) 77)
 have ha0:=Rd.gr ha G0
 have hc23:((w.alloc (.cells (sgC who lf s (.slice A l.length c)) 77)).alloc (.cells (#[.int .i64 0,.int .i64 0,.int .u64 0,.int .u64 0,.int .u64 0,.int .u64 0,.int .u64 0,.int .u64 0,.int .u64 0,.int .u64 0,.int .u64 0,.int .u64 0,.int .u64 0,.int .u64 0,.int .u64 0,.int .u64 0,.int .u64 0,.int .u64 0,.int .u64 0,.int .u64 0,.slice none 0 0]) 77)).cell? ⟨w.heap.size,20,none⟩=some (.slice A l.length c):=by simpa using z1.cell 20 _ rfl
 have CC:=hQ9 (kU A c _ l (by omega) _ ha0 (Nat.le_refl _))
 have hut:=Tryz.underlying77
 have HSZ:Hid ((sgC who lf s (.slice A l.length c)).toList.length=21):=hQ9 rfl
 have HMV:=hQ9 (show ∀ A2 c2,(sgC who lf s (.slice A l.length c)).toList.set 20 (.slice A2 l.length c2)=(sgC who lf s (.slice A2 l.length c2)).toList from fun A2 c2=>rfl)
 have HZI:=hQ9 z1
 clear ha ha0 z1
 go_enter Tryz.func171,Tryz.ntmps171
 go_wp2_with fail
 refine(CC.out).mono ?_
 rintro e w1 ⟨A2,c2,rfl,hr2,hb2,g1⟩
 have z1:=HZI.out.grew g1
 have z2':=z2.grew g1
 have G1:=zb G0 g1
 have hb0:w.heap.size+2≤((w.alloc (.cells (sgC who lf s (.slice A l.length c)) 77)).alloc (.cells (#[.int .i64 0,.int .i64 0,.int .u64 0,.int .u64 0,.int .u64 0,.int .u64 0,.int .u64 0,.int .u64 0,.int .u64 0,.int .u64 0,.int .u64 0,.int .u64 0,.int .u64 0,.int .u64 0,.int .u64 0,.int .u64 0,.int .u64 0,.int .u64 0,.int .u64 0,.int .u64 0,.slice none 0 0]) 77)).heap.size:=by simp [zg]
 have hb2':∀ ad,A2=some ad→w.heap.size+2≤ad.block:=fun ad h=>Nat.le_trans hb0 (hb2 ad h)
 have hc1:w1.cell? ⟨w.heap.size,20,none⟩=some (.slice A l.length c):=by simpa using z1.cell 20 _ rfl
 have fc1:w1.frozen? ⟨w.heap.size,20,none⟩=false:=by simpa using (z1.there 20 (by rw [HSZ.out];omega)).2
 have y1:=z1.set1 20 (.slice A2 l.length c2) (by rw [HSZ.out];omega)
 rw [HMV.out]at y1
 have K1:=zW (S:=fun j=>j=w.heap.size) (zt _ w1) (p:=⟨w.heap.size,20,none⟩) (.inl rfl) (.slice A2 l.length c2)
 have z3:=z2'.kp K1 (fun e=>by omega)
 have r3:=(hr2.kp K1 (Nat.le_refl _) (fun ad h _ e=>by have:=hb2' ad h;omega)).more K1.size
 have G3:Grew w (w1.setCell ⟨w.heap.size,20,none⟩ (.slice A2 l.length c2)):=zw G1 K1 G1.size (fun i e=>by have e':i=w.heap.size:=e;omega)
 clear CC HZI z2 z1 z2' hc23 hb2 hb0 G0 g1 hr2 G1
 have HM:=hQ9 y1.cell
 have SI1:Hid ((Tryz.prog.info? 77).map (·.size)=some (sgC who lf s (.slice A2 l.length c2)).toList.length):=hQ9 zU
 have SI2:Hid ((Tryz.prog.info? 77).map (·.size)=some (sgC who lf s (.slice A2 l.length c2)).size):=hQ9 zU
 have HON:=hQ9 (x6 who lf s A2 l.length c2)
 have HTH:Hid ((w1.setCell ⟨w.heap.size,20,none⟩ (.slice A2 l.length c2)).there (w.heap.size+1) 0 (sgC who lf s (.slice A2 l.length c2)).size):=hQ9 (z3.thereN 21 rfl)
 have z4:=Ag.set (vs:=(sgC who lf s (.slice A2 l.length c2)).toList) z3 rfl
 have K4:=zk (sgC who lf s (.slice A2 l.length c2)).toList (w.heap.size+1) 0 (w1.setCell ⟨w.heap.size,20,none⟩ (.slice A2 l.length c2))
 have G4:Grew w ((w1.setCell ⟨w.heap.size,20,none⟩ (.slice A2 l.length c2)).setCells (w.heap.size+1) 0 (sgC who lf s (.slice A2 l.length c2)).toList):=zn (o:=0) (b:=w.heap.size+1) _ G3 (by omega)
 have r4:=(r3.kp K4 (Nat.le_refl _) (fun ad h _ e=>by have:=hb2' ad h;omega)).more K4.size
 have hm:=HM.out
 clear z3 y1 r3 G3 K1 K4
 go_wp2_with(first
  | (with_reducible refine wpList_load_mid rfl 77 (.tmp 1) rfl w.heap.size 0 rfl (sgC who lf s (.slice A2 l.length c2)).toList _ hm hut rfl SI1.out ?_;simp only [Array.toArray_toList])
  | (with_reducible refine wpList_store_mid rfl 77 (.tmp 2) (.tmp 7) rfl (w.heap.size+1) 0 (sgC who lf s (.slice A2 l.length c2)) rfl rfl HTH.out SI2.out HON.out ?_))
 exact bodyPost_ret (zy Tryz.results171 _ _ (w.heap.size+1) _ _ rfl z4 hut rfl zU) rfl ⟨A2,c2,rfl,r4,(fun ad h=>by have:=hb2' ad h;omega),G4⟩
theorem x9 (who lf:Int) (s:Nat→Nat) (A:Option Addr) (n c:Nat):(sgC who lf s (.slice A n c)).toList.length=21:=rfl
def AP.mv (S:AP) (A:Option Addr) (c:Nat):AP:={ S with A:=A,c:=c }
theorem AP.mv_ok {S:AP} (h:S.ok) (A:Option Addr) (c:Nat):(S.mv A c).ok:=⟨h.cm,h.who,h.sw,h.lf,h.s,h.len,h.l⟩
theorem AP.C_eq (S:AP):S.C.toList=[.int .u64 (S.cm:Nat),.int .i64 S.who]++(sgC S.sw S.lf S.s (.slice S.A S.l.length S.c)).toList:=rfl
structure MvA (L M:List AP):Prop where
 len:M.length=L.length
 each:∀ k (h:k<L.length) (h':k<M.length),∃ A c,M[k]=L[k].mv A c
theorem MvA.nil:MvA [] []:=⟨rfl,fun k h=>absurd h (by simp)⟩
theorem MvA.snoc {L M:List AP} (h:MvA L M) (S:AP) (A:Option Addr) (c:Nat):MvA (L++[S]) (M++[S.mv A c]):=by
 refine⟨by simp [h.len],fun k h1 h2=>?_⟩
 by_cases hk:k<L.length
 ·rw [List.getElem_append_left hk,List.getElem_append_left (by rw [h.len];exact hk)]
  exact h.each k hk _
 ·have hk':k=L.length:=by have h3:(L++[S]).length=L.length+1:=by simp
                          omega
  subst hk'
  refine⟨A,c,?_⟩
  have e1:(L++[S])[L.length]'h1=S:=by simp
  have e2:(M++[S.mv A c])[L.length]'h2=S.mv A c:=by
   have:∀ n (hn:n<(M++[S.mv A c]).length),n=M.length→(M++[S.mv A c])[n]=S.mv A c:=fun n hn e=>by subst e;simp
   exact this _ _ h.len.symm
  rw [e1,e2]
def Cm.cells (c:Cm):Array Value:=#[.int .i64 c.cl,.int .i64 c.no,.int .i64 c.fr,.int .i64 c.tt,.int .i64 c.am]
def ctC (c:Cm) (A:Option Addr) (n k:Nat):Array Value:=#[.int .i64 c.cl,.int .i64 c.no,.int .i64 c.fr,.int .i64 c.tt,.int .i64 c.am,.slice A n k]
theorem zu:(Tryz.prog.info? 43).map (·.size)=some 6:=by kernel_rfl
theorem yv (c:Cm) (A:Option Addr) (n k:Nat):(ctC c A n k).all (·.oneCell')=true:=by simp [ctC,Value.oneCell']
structure MvR (w:World) (B0:Nat) (L:List SP) (v:Value):Prop where
 out:∃ B k M,v=.slice B L.length k∧MvL L M∧Sps w B M∧(∀ ad,B=some ad→B0≤ad.block)∧(∀ S∈M,∀ ad,S.A=some ad→S.l=[]∨B0≤ad.block)
theorem MvR.gr {w w':World} {B0:Nat} {L:List SP} {v:Value} (h:MvR w B0 L v) (g:Grew w w'):MvR w' B0 L v:=by
 obtain⟨B,k,M,h1,h2,h3,h4⟩:=h.out
 exact⟨B,k,M,h1,h2,h3.gr g,h4⟩
structure CtR (w:World) (B0:Nat) (c:Cm) (L:List SP) (v:Value):Prop where
 out:∃ B k M,v=.agg (ctC c B L.length k)∧MvL L M∧Sps w B M∧(∀ ad,B=some ad→B0≤ad.block)∧(∀ S∈M,∀ ad,S.A=some ad→S.l=[]∨B0≤ad.block)
theorem CtR.gr {w w':World} {B0:Nat} {c:Cm} {L:List SP} {v:Value} (h:CtR w B0 c L v) (g:Grew w w'):CtR w' B0 c L v:=by
 obtain⟨B,k,M,h1,h2,h3,h4⟩:=h.out
 exact⟨B,k,M,h1,h2,h3.gr g,h4⟩
theorem Sps.kpx {w w':World} {A:Option Addr} {L:List SP} {S:Nat→Prop} (h:Sps w A L) (k:Kp S w w') (hA:∀ ad,A=some ad→¬S ad.block) (hM:∀ T∈L,∀ ad,T.A=some ad→T.l=[]∨¬S ad.block):Sps w' A L :=
 ⟨h.rd.kp k (fun q e=>hA _ e),h.ok,fun T hT=>by
  have h0:=h.at_ T hT
  by_cases hl:T.l=[]
  ·intro j hj;rw [hl]at hj;exact absurd hj (by simp [u64L])
  ·exact(Rd.kp h0 k (Nat.le_refl _) (fun ad e _=>by
    rcases hM T hT ad e with h1 | h1
    ·exact absurd h1 hl
    ·exact h1)).more k.size⟩
theorem at1_sp (S:SP) (w:World):Calls Tryz.prog 131 #[.agg S.C] w fun e w'=>e=.returned (.int .i64 S.at_)∧Grew w w':=by
 have zs:=Ag.new w 157 S.C
 have G:=zc (za w) (.cells S.C 157)
 have hc:(w.alloc (.cells S.C 157)).cell? ⟨w.heap.size,2,none⟩=some (.int .i64 S.at_):=by simpa using zs.cell 2 _ rfl
 clear zs
 generalize S.C=g at *
 generalize S.at_=x at *
 go_enter Tryz.func131,Tryz.ntmps131
 go_wp2_with fail
 go_ret
 exact⟨rfl,G⟩
theorem jN (A:Option Addr) (c:Nat) (L:List SP) (hl:L.length≤100000) (w:World) (hL:Sps w A L) :
 Calls Tryz.prog 194 #[.slice A L.length c,.func (.func 131) #[] #[]] w fun e w'=>∃ v,e=.returned v∧w'.ownsRow w.heap.size 2 1 v L.length (i64L (L.map SP.at_))∧Grew w w':=by
 obtain⟨i0,hi,hz0,hz1,hz2⟩:=info_parts (show(Tryz.prog.info? 2).map (fun i=>(i.zero,i.size,i.bytes))=some (some (.int .i64 0),1,8) by kernel_rfl)
 have hut:=Tryz.underlying157
 have hr:=hL.rd
 obtain⟨w1,hmk,hown1,hgrow1⟩:=run_make_own (P:=Tryz.prog) w w.heap.size 234 2 i0 (.int .i64 0) 1 Tryz.underlying234 hi hz0 hz1 .i64 .i64 L.length (by rw [hz2];omega) (by unfold maxLen;omega) (Nat.le_refl _)
 have hg1:Grew w w1:=(Below.refl _ w).grown hgrow1 (Nat.le_refl _) (fun j hj=>by cases hj)
 clear hgrow1 hL
 go_enter Tryz.func194,Tryz.ntmps194
 go_wp2_with fail
 clear hmk
 go_loopw [5,13] (fun rv iv wr=>∃ k:Nat,k≤L.length∧iv=.int .i64 k∧wr.ownsRow w.heap.size 2 1 rv k (i64L ((L.take k).map SP.at_))∧Grew w wr) (fun _ iv _=>L.length-(Go.RowKit.intOf iv).toNat)
 case atStart=>exact⟨0,Nat.zero_le _,rfl,by simpa [i64L]using hown1,hg1⟩
 case round =>
  obtain⟨i,hil,rfl,hown,hg⟩:=hrel
  by_cases hlt:i<L.length
  ·obtain⟨q,hA,hq,hm⟩:=RdC.at24 hr hg i hlt
   subst hA
   have HT:Hid (i64L ((L.take (i+1)).map SP.at_)=i64L ((L.take i).map SP.at_)++[.int .i64 L[i].at_]):=hQ9 (by rw [List.take_succ_eq_append_getElem hlt,List.map_append,xK];rfl)
   have hi0:(0:Int)≤(i:Int):=by omega
   have hi1:(i:Int)<(L.length:Int):=by omega
   have e4:IntKind.i64.wrap ((i:Int)+1)=((i+1:Nat):Int):=by rw [IntWalk.i64_in _ (by omega)];omega
   generalize L[i]=S at *
   have CW:=hQ9 (fun W=>at1_sp S W)
   have SIS:Hid ((Tryz.prog.info? 157).map (·.size)=some S.C.toList.length):=hQ9 zA
   have SIZ:Hid ((Tryz.prog.info? 157).map (·.size)=some S.C.size):=hQ9 zA
   have HON:=hQ9 S.one
   obtain⟨w2,hw2,ht2,g2,z2⟩:=xC wr S.C rfl
   have HW2:=hQ9 hw2
   have HT2:=hQ9 ht2
   have hm2:=z2.cell
   clear hw2 ht2
   go_wp2_with(first
    | (with_reducible refine wpList_load_mid rfl 157 (.tmp 15) rfl q (i*24) rfl S.C.toList _ hm hut rfl SIS.out ?_;simp only [Array.toArray_toList])
    | (with_reducible refine wpList_store_mid rfl 157 (.tmp 7) (.tmp 16) rfl wr.heap.size 0 S.C rfl rfl HT2.out SIZ.out HON.out ?_;rw [HW2.out])
    | (with_reducible refine wpList_load_mid rfl 157 (.tmp 7) rfl wr.heap.size 0 rfl S.C.toList _ hm2 hut rfl SIS.out ?_;simp only [Array.toArray_toList]))
   refine(CW.out w2).mono ?_
   rintro e w3 ⟨rfl,gg⟩
   have G3:=zb hg (zb g2 gg)
   have hown3:=zj (S:=fun _=>False) hown (zi (zb g2 gg)) (fun g _ h=>h)
   have hsz3:=G3.size
   generalize S.at_=x at *
   clear hown hm hm2 z2 g2 gg hg HT2 HW2 CW
   go_wp2_with(at_builtin;refine zd rfl (.tmp 17) (.tmp 21) 234 rfl w.heap.size 2 i0 (.int .i64 0) 8 Tryz.underlying234 hi hz0 hz1 hz2 rfl _ i _ rfl (hown3.alloc _) (w3.heap.size+1) (some ⟨w3.heap.size,0,none⟩) 1 1 [.int .i64 x] rfl rfl (zz w3 2 #[.int .i64 x] (0,0)) (zJ rfl) (by unfold maxLen;omega) (by omega) (by simp;omega) ?_;intro v' w5 hown5 hgrow5 _)
   go_roundw
   case rel=>exact⟨i+1,by omega,by go_num,by rw [HT.out];exact hown5,(zc G3 _).grown hgrow5 (by simp;omega) (zr hown3)⟩
   case measure=>simp [Go.RowKit.intOf];omega
  ·obtain rfl:i=L.length:=by omega
   rw [List.take_length]at hown
   go_wp2_with fail
   go_ret
   exact⟨_,rfl,hown,hg⟩
theorem kV (A:Option Addr) (c:Nat) (L:List SP) (i:Nat) (hL9:L.length≤100000) (hi:i<L.length) (w:World) (hr:Sps w A L) :
 Calls Tryz.prog 130 #[.slice A L.length c,.func (.func 131) #[] #[],.int .i64 (i:Int)] w fun e w'=>e=.returned (.int .i64 (midZ (L.map SP.at_) i))∧Grew w w':=by
 have CM:=hQ9 (jN A c L hL9 w hr)
 have hll:(L.map SP.at_).length=L.length:=by simp
 rw [←hll]at hi
 have HLL:=hQ9 hll
 have hl:(L.map SP.at_).length≤1048576:=by omega
 generalize L.map SP.at_=l at *
 have HI:=hQ9 hi
 clear hr hi hll
 go_enter Tryz.func130,Tryz.ntmps130
 go_wp2_with fail
 refine(CM.out).mono ?_
 rintro e w1 ⟨v,rfl,hrow,g1⟩
 rw [←HLL.out]at hrow
 have hrow:w1.ownsRow w.heap.size 2 1 v l.length (i64L l):=hrow
 obtain⟨D,dc,rfl,hdc,hdl,hD⟩:=zG hrow
 have HD:=hQ9 hD
 clear CM hrow hD
 go_wp2_with fail
 refine(ki D l.length dc w1).mono ?_
 rintro e w2 ⟨rfl,hw2⟩
 have g2:Grew w1 w2:=by rw [hw2];exact zc (za _) _
 have hs2:w1.heap.size<w2.heap.size:=by rw [hw2];simp
 have hc2:w2.cell? ⟨w1.heap.size,0,none⟩=some (.slice D l.length dc):=by rw [hw2];simp [Addr.add]
 have HD2:Hid (Rd w2 w2.heap.size D (i64L l)):=hQ9 ((HD.out.below g2).more g2.size)
 clear hw2 HD
 go_wp2_with fail
 refine(kj w1.heap.size w2.heap.size D dc l hl w2 hs2 (Nat.le_refl _) hc2 HD2.out).mono ?_
 rintro e w3 ⟨v,rfl,hrow,hnil,g3⟩
 obtain⟨E,ec,rfl,hec,hel,hE⟩:=zG hrow
 have hsl:(sortI l).length=l.length:=xw l
 obtain⟨ad,rfl,hbl,hc0⟩:=yM (l:=sortI l) hE i (by rw [hsl];exact HI.out)
 have hm:(sortI l)[i]'(by rw [hsl];exact HI.out)=midZ l i:=by
  unfold midZ
  rw [List.getD_eq_getElem?_getD,List.getElem?_eq_getElem (show i<(sortZ l).length by rw [yj];exact HI.out)]
  rfl
 rw [hm]at hc0
 have hi0:(0:Int)≤(i:Int):=by omega
 have hi1:(i:Int)<(l.length:Int):=by have:=HI.out;omega
 have G:=zb g1 (zb g2 (g3.mono (by omega)))
 clear hm hrow hnil hE hc2 HD2
 go_wp2_with fail
 go_ret
 exact⟨rfl,G⟩
def atV (L:List SP):Int:=if L.length=0 then 0 else midZ (L.map SP.at_) (L.length / 2)
theorem yw (c:Cm) (A:Option Addr) (k:Nat) (L:List SP) (hl:L.length≤100000) (w:World) (hL:Sps w A L) :
 Calls Tryz.prog 59 #[.agg (ctC c A L.length k)] w fun e w'=>e=.returned (.int .i64 (atV L))∧Grew w w':=by
 have z:=Ag.new w 43 (ctC c A L.length k)
 have G:=zc (za w) (.cells (ctC c A L.length k) 43)
 have hc5:(w.alloc (.cells (ctC c A L.length k) 43)).cell? ⟨w.heap.size,5,none⟩=some (.slice A L.length k):=by simpa using z.cell 5 _ rfl
 have HL:=hQ9 (hL.gr G)
 clear z hL
 by_cases h0:L.length=0
 ·have e1:((L.length:Int)==0)=true:=by rw [show(L.length:Int)=0 by omega];rfl
  have HV:Hid (atV L=0):=hQ9 (by unfold atV;rw [if_pos h0])
  clear h0
  generalize ctC c A L.length k=g at *
  go_enter Tryz.func59,Tryz.ntmps59
  go_wp2_with fail
  go_ret
  exact⟨by rw [HV.out];rfl,G⟩
 ·have e1:((L.length:Int)==0)=false:=beq_false_of_ne (by omega)
  have HV:Hid (atV L=midZ (L.map SP.at_) (L.length / 2)):=hQ9 (by unfold atV;rw [if_neg h0])
  have CR:=hQ9 (kV A k L (L.length / 2) hl (by omega) _ HL.out)
  have e2:(L.length:Int).tdiv 2=((L.length / 2:Nat):Int):=by rw [Int.tdiv_eq_ediv_of_nonneg (by omega)];omega
  have e3:IntKind.i64.wrap ((L.length / 2:Nat):Int)=((L.length / 2:Nat):Int):=IntWalk.i64_in _ (by omega)
  clear h0
  generalize ctC c A L.length k=g at *
  obtain⟨hf,hhf⟩:∃ x,L.length / 2=x:=⟨_,rfl⟩
  rw [hhf]at CR e2 e3 HV
  clear hhf
  go_enter Tryz.func59,Tryz.ntmps59
  go_wp2_with fail
  refine(CR.out).mono ?_
  rintro e w1 ⟨rfl,gg⟩
  go_wp2_with fail
  go_ret
  exact⟨by rw [HV.out];rfl,zb G gg⟩
theorem ct_cmd {w:World} {b:Nat} {c:Cm} {A:Option Addr} {n k:Nat} (h:Ag w b (ctC c A n k).toList):w.rangeAt b 0 c.cells.toList:=fun j v hj=>by
 refine h.cell j v ?_
 have hl:=(List.getElem?_eq_some_iff.1 hj).1
 rw [show(ctC c A n k).toList=c.cells.toList++[.slice A n k] from rfl,List.getElem?_append_left hl]
 exact hj
def SP.tx (S:SP):List UInt8:=stT S.cm S.who S.at_ S.sw S.lf S.s S.l
def SP.tb (S:SP):ByteArray:=⟨S.tx.toArray⟩
theorem kW {S:SP} (hS:S.ok) (w:World) (hs:Std w) (ha:S.at w):Calls Tryz.prog 189 #[.agg S.C] w fun e w'=>e=.returned (.string S.tb)∧Grew w w' :=
 kT S.cm S.who S.at_ S.sw S.lf S.s S.A S.c S.l hS.cm hS.who hS.at_ hS.sw hS.lf hS.len hS.s hS.l w hs ha
theorem kn (A:Option Addr) (c:Nat) (L:List SP) (hl:L.length≤100000) (w:World) (hS:Std w) (hL:Sps w A L) :
 Calls Tryz.prog 188 #[.slice A L.length c,.func (.func 189) #[] #[]] w fun e w'=>∃ v,e=.returned v∧w'.ownsRow w.heap.size 9 1 v L.length (strL (L.map SP.tb))∧Grew w w':=by
 obtain⟨i0,hi,hz0,hz1,hz2⟩:=info_parts (show(Tryz.prog.info? 9).map (fun i=>(i.zero,i.size,i.bytes))=some (some (.string ⟨#[]⟩),1,16) by kernel_rfl)
 have hut:=Tryz.underlying157
 have hr:=hL.rd
 have HLL:=hQ9 hL
 have HS:=hQ9 hS
 obtain⟨w1,hmk,hown1,hgrow1⟩:=run_make_own (P:=Tryz.prog) w w.heap.size 161 9 i0 (.string ⟨#[]⟩) 1 Tryz.underlying161 hi hz0 hz1 .i64 .i64 L.length (by rw [hz2];omega) (by unfold maxLen;omega) (Nat.le_refl _)
 have hg1:Grew w w1:=(Below.refl _ w).grown hgrow1 (Nat.le_refl _) (fun j hj=>by cases hj)
 clear hgrow1 hL hS
 go_enter Tryz.func188,Tryz.ntmps188
 go_wp2_with fail
 clear hmk
 go_loopw [5,13] (fun rv iv wr=>∃ k:Nat,k≤L.length∧iv=.int .i64 k∧wr.ownsRow w.heap.size 9 1 rv k (strL ((L.take k).map SP.tb))∧Grew w wr) (fun _ iv _=>L.length-(Go.RowKit.intOf iv).toNat)
 case atStart=>exact⟨0,Nat.zero_le _,rfl,by simpa [strL]using hown1,hg1⟩
 case round =>
  obtain⟨i,hil,rfl,hown,hg⟩:=hrel
  by_cases hlt:i<L.length
  ·obtain⟨q,hA,hq,hm⟩:=RdC.at24 hr hg i hlt
   subst hA
   have HT:Hid (strL ((L.take (i+1)).map SP.tb)=strL ((L.take i).map SP.tb)++[.string L[i].tb]):=hQ9 (by rw [List.take_succ_eq_append_getElem hlt,List.map_append];simp [strL])
   have hi0:(0:Int)≤(i:Int):=by omega
   have hi1:(i:Int)<(L.length:Int):=by omega
   have e4:IntKind.i64.wrap ((i:Int)+1)=((i+1:Nat):Int):=by rw [IntWalk.i64_in _ (by omega)];omega
   have hSok:=HLL.out.ok L[i] (List.getElem_mem hlt)
   have hSat:=(HLL.out.at_ L[i] (List.getElem_mem hlt)).gr hg
   generalize L[i]=S at *
   have CW:=hQ9 (fun W h1 h2=>kW hSok W h1 h2)
   have SIS:Hid ((Tryz.prog.info? 157).map (·.size)=some S.C.toList.length):=hQ9 zA
   have SIZ:Hid ((Tryz.prog.info? 157).map (·.size)=some S.C.size):=hQ9 zA
   have HON:=hQ9 S.one
   obtain⟨w2,hw2,ht2,g2,z2⟩:=xC wr S.C rfl
   have HW2:=hQ9 hw2
   have HT2:=hQ9 ht2
   have hm2:=z2.cell
   clear hw2 ht2
   go_wp2_with(first
    | (with_reducible refine wpList_load_mid rfl 157 (.tmp 15) rfl q (i*24) rfl S.C.toList _ hm hut rfl SIS.out ?_;simp only [Array.toArray_toList])
    | (with_reducible refine wpList_store_mid rfl 157 (.tmp 7) (.tmp 16) rfl wr.heap.size 0 S.C rfl rfl HT2.out SIZ.out HON.out ?_;rw [HW2.out])
    | (with_reducible refine wpList_load_mid rfl 157 (.tmp 7) rfl wr.heap.size 0 rfl S.C.toList _ hm2 hut rfl SIS.out ?_;simp only [Array.toArray_toList]))
   refine(CW.out w2 (HS.out.grew (zb hg g2)) (hSat.gr g2)).mono ?_
   rintro e w3 ⟨rfl,gg⟩
   have G3:=zb hg (zb g2 gg)
   have hown3:=zj (S:=fun _=>False) hown (zi (zb g2 gg)) (fun g _ h=>h)
   have hsz3:=G3.size
   generalize S.tb=x at *
   clear hSok hSat hown hm hm2 z2 g2 gg hg HT2 HW2 CW
   go_wp2_with(at_builtin;refine zd rfl (.tmp 17) (.tmp 21) 161 rfl w.heap.size 9 i0 (.string ⟨#[]⟩) 16 Tryz.underlying161 hi hz0 hz1 hz2 rfl _ i _ rfl (hown3.alloc _) (w3.heap.size+1) (some ⟨w3.heap.size,0,none⟩) 1 1 [.string x] rfl rfl (zz w3 9 #[.string x] (0,0)) (zJ rfl) (by unfold maxLen;omega) (by omega) (by simp;omega) ?_;intro v' w5 hown5 hgrow5 _)
   go_roundw
   case rel=>exact⟨i+1,by omega,by go_num,by rw [HT.out];exact hown5,(zc G3 _).grown hgrow5 (by simp;omega) (zr hown3)⟩
   case measure=>simp [Go.RowKit.intOf];omega
  ·obtain rfl:i=L.length:=by omega
   rw [List.take_length]at hown
   go_wp2_with fail
   go_ret
   exact⟨_,rfl,hown,hg⟩
def ctTx (c:Cm) (L:List SP):List UInt8:=joinF (txC c::L.map SP.tx)
theorem kX (c:Cm) (L:List SP):bys (⟨(txC c).toArray⟩::L.map SP.tb)=txC c::L.map SP.tx:=by
 simp [bys,SP.tb,Function.comp_def]
theorem xE (c:Cm) (hc:c.in) (L:List SP) (hl:L.length≤40) (hok:∀ S∈L,S.ok):(ctTx c L).length≤100000000:=by
 have h1:∀ M:List SP,(∀ S∈M,S.ok)→(joinF (M.map SP.tx)).length≤M.length*2000001:=by
  intro M
  induction M with
  | nil=>intro _;simp [joinF]
  | cons S r ih =>
   intro h
   have h2:=ih (fun T hT=>h T (by simp [hT]))
   have hS:=h S (by simp)
   have h3:=x8 S.cm S.who S.at_ S.sw S.lf S.s S.l hS.who hS.at_ hS.sw hS.lf hS.len
   have h4:=zq S.tx
   have h5:S.tx.length≤1000000:=h3
   simp only [joinF,List.map_cons,List.flatMap_cons,List.length_append,List.length_cons]at h2 ⊢
   omega
 have h2:=h1 L hok
 have h3:=qD hc
 have h4:=zq (txC c)
 unfold ctTx
 simp only [joinF,List.flatMap_cons,List.length_append,List.length_cons]at h2 ⊢
 omega
noncomputable def ctD (c:Cm) (L:List SP):Nat:=sumL [99,101,114,116] (ctTx c L)
theorem kY (c:Cm) (hc:c.in) (A:Option Addr) (k:Nat) (L:List SP) (hl:L.length≤40) (w:World) (hS:Std w) (hL:Sps w A L) :
 Calls Tryz.prog 126 #[.agg (ctC c A L.length k)] w fun e w'=>e=.returned (.string ⟨(ctTx c L).toArray⟩)∧Grew w w':=by
 have huc:=Tryz.underlying40
 have SIC:Hid ((Tryz.prog.info? 40).map (·.size)=some c.cells.toList.length):=hQ9 (show _=some 5 by kernel_rfl)
 have z1:=Ag.new w 43 (ctC c A L.length k)
 have G1:=zc (za w) (.cells (ctC c A L.length k) 43)
 have hlen:=xE c hc L hl hL.ok
 have CTX:=hQ9 (fun W h=>qx c hc W h)
 rw [show txtV (txC c)=.string ⟨(txC c).toArray⟩ from rfl,show c.v=.agg c.cells from rfl]at CTX
 have HL1:Hid (L.length≤100000):=hQ9 (by omega)
 have HS:=hQ9 (hS.grew G1)
 have HLS:=hQ9 (hL.gr G1)
 have CJ:Hid (∀(A4:Option Addr) (c4:Nat) (W:World),Rd W W.heap.size A4 (strL (⟨(txC c).toArray⟩::L.map SP.tb))→Calls Tryz.prog 84 #[.slice A4 (1+L.length) c4] W fun e w'=>e=.returned (.string ⟨(ctTx c L).toArray⟩)∧Grew W w'):=hQ9 (fun A4 c4 W hR=>by
  have:=yZ A4 c4 (⟨(txC c).toArray⟩::L.map SP.tb) (by simp;omega) (by rw [kX];exact hlen) W hR
  rw [kX]at this
  simpa [ctTx,Nat.add_comm]using this)
 obtain⟨i0,hi,hz0,hz1,hz2⟩:=info_parts (show(Tryz.prog.info? 9).map (fun i=>(i.zero,i.size,i.bytes))=some (some (.string ⟨#[]⟩),1,16) by kernel_rfl)
 have hz1':=z1
 clear hS hL hlen hc
 generalize (⟨(txC c).toArray⟩:ByteArray)=t0 at *
 generalize (⟨(ctTx c L).toArray⟩:ByteArray)=tj at *
 go_enter Tryz.func126,Tryz.ntmps126
 go_upto_region 1 with fail
 generalize w.alloc (.cells (ctC c A L.length k) 43)=w1 at *
 have HMC:=hQ9 (fun y (g:Grew w1 y)=>ct_cmd (z1.grew g))
 have HC5:Hid (∀ y,Grew w1 y→y.cell? ⟨w.heap.size,5,none⟩=some (.slice A L.length k)):=hQ9 (fun y g=>by simpa using (z1.grew g).cell 5 _ rfl)
 clear z1 hz1'
 refine ze 7 (fun ix9=>match ix9 with
  | 0=>fun v _=>v=.pointer (some ⟨w.heap.size,0,none⟩)
  | 1=>fun v _=>v=.agg c.cells
  | 2=>fun v _=>v=.string t0
  | 3=>fun v z=>z.ownsRow w1.heap.size 9 1 v 1 [.string t0]
  | 4=>fun v _=>v=.pointer (some ⟨w.heap.size,5,none⟩)
  | 5=>fun v _=>v=.slice A L.length k
  | 6=>fun v z=>z.ownsRow w1.heap.size 9 1 v L.length (strL (L.map SP.tb))
  | _=>fun _ _=>True) (by kernel_rfl) (by kernel_rfl) ?_ ?_ ?_
 ·intro i v x y h hg
  match i,h with
  | 0,h | 1,h | 2,h | 4,h | 5,h=>exact h
  | 3,h=>exact zj (S:=fun _=>False) h (zi hg) (fun g _ h=>h)
  | 6,h=>exact zj (S:=fun _=>False) h (zi hg) (fun g _ h=>h)
  | m+7,_=>trivial
 ·simp only [actOf,tk1,tk0,dr1,dr0,Act.put,si1,st1,st0,Nat.reduceAdd]
  refine⟨?_,?_,?_,?_,?_,?_,?_,trivial⟩
  ·intro vs y hg hd
   dsimp only
   go_wp2_with fail
   exact⟨rfl,_,rfl,za _,rfl⟩
  ·intro vs y hg hd
   obtain⟨h0,_⟩:=hd
   replace h0:=h0 rfl
   dsimp only
   rw [show vs 0=_ from h0]
   have hm:=HMC.out y hg
   go_wp2_with(with_reducible refine wpList_load_mid rfl 40 (.tmp 3) rfl w.heap.size 0 rfl c.cells.toList _ hm huc rfl SIC.out ?_;simp only [Array.toArray_toList])
   exact⟨rfl,_,rfl,za _,rfl⟩
  ·intro vs y hg hd
   obtain⟨h1,_⟩:=hd
   replace h1:=h1 rfl
   dsimp only
   rw [show vs 1=_ from h1]
   go_wp2_with(go_at_call 181;refine(CTX.out y (HS.out.grew hg)).mono ?_;rintro e z ⟨rfl,gz⟩)
   exact⟨rfl,_,rfl,gz,rfl⟩
  ·intro vs y hg hd
   obtain⟨h2,_⟩:=hd
   replace h2:=h2 rfl
   dsimp only
   rw [show vs 2=_ from h2]
   go_wp2_with fail
   exact⟨rfl,_,rfl,zc (za _) _,⟨by simp,.inr ⟨y.heap.size,1,#[.string t0],rfl,hg.size,heap_alloc_new y _,Nat.le_refl _,by unfold maxLen;omega,rfl,by simp⟩⟩⟩
  ·intro vs y hg hd
   dsimp only
   go_wp2_with fail
   exact⟨rfl,_,rfl,za _,rfl⟩
  ·intro vs y hg hd
   obtain⟨h4,_⟩:=hd
   replace h4:=h4 rfl
   dsimp only
   rw [show vs 4=_ from h4]
   have hc:=HC5.out y hg
   go_wp2_with fail
   exact⟨rfl,_,rfl,za _,rfl⟩
  ·intro vs y hg hd
   obtain⟨h5,_⟩:=hd
   replace h5:=h5 rfl
   dsimp only
   rw [show vs 5=_ from h5]
   go_wp2_with(go_at_call 188;refine(kn A k L HL1.out y (HS.out.grew hg) (HLS.out.gr hg)).mono ?_;rintro e z ⟨v9,rfl,hrow9,gz⟩)
   exact⟨rfl,_,rfl,gz,xP hrow9 hg.size⟩
 ·intro vs w2 hg hJ
  have j0:vs 0=.pointer (some ⟨w.heap.size,0,none⟩):=hJ 0 (by decide)
  have j1:vs 1=.agg c.cells:=hJ 1 (by decide)
  have j2:vs 2=.string t0:=hJ 2 (by decide)
  have j4:vs 4=.pointer (some ⟨w.heap.size,5,none⟩):=hJ 4 (by decide)
  have j5:vs 5=.slice A L.length k:=hJ 5 (by decide)
  have s6:=hJ 3 (by decide)
  have s9:=hJ 6 (by decide)
  clear hJ
  simp only [actOf,tk1,tk0,dr1,dr0,Act.put,si1,st1,st0,Nat.reduceAdd]
  have hg2:=hg
  obtain⟨D9,d9,e9,hd9,hd9',hR9⟩:=zG s9
  have h91:=HL1.out
  have hB:=hg2.size
  have G2:=zb G1 hg2
  rw [e9]
  clear e9 s9
  generalize vs 3=v6 at *
  clear j0 j1 j2 j4 j5
  go_wp2_with(at_builtin;refine zd rfl (.tmp 6) (.tmp 9) 161 rfl w1.heap.size 9 i0 (.string ⟨#[]⟩) 16 Tryz.underlying161 hi hz0 hz1 hz2 rfl _ 1 _ rfl s6 w2.heap.size D9 L.length d9 (strL (L.map SP.tb)) rfl (by rw [yB];simp) hR9 (fun u hu=>by obtain⟨n,_,rfl⟩:=List.mem_map.1 hu;rfl) (by unfold maxLen;omega) (by omega) (by omega) ?_;intro v' w5 hown5 hgrow5 hob5)
  have G5:Grew w w5:=G2.grown hgrow5 G2.size (fun g h=>Nat.le_trans G1.size (zr s6 g h))
  obtain⟨D5,d5,rfl,hd5,hd5',hR5⟩:=zG hown5
  refine(CJ.out D5 d5 w5 (by simpa [strL]using hR5)).mono ?_
  rintro e w6 ⟨rfl,g6⟩
  go_wp2_with fail
  go_ret
  exact⟨rfl,zb G5 g6⟩
theorem ya (c:Cm) (hc:c.in) (A:Option Addr) (k:Nat) (L:List SP) (hl:L.length≤40) (w:World) (hS:Std w) (hL:Sps w A L) :
 Calls Tryz.prog 57 #[.agg (ctC c A L.length k)] w fun e w'=>e=.returned (.int .u64 (ctD c L:Nat))∧Grew w w':=by
 have huc:=Tryz.underlying43
 have SIC:Hid ((Tryz.prog.info? 43).map (·.size)=some (ctC c A L.length k).toList.length):=hQ9 zu
 have z1:=Ag.new w 43 (ctC c A L.length k)
 have G1:=zc (za w) (.cells (ctC c A L.length k) 43)
 have hlen:=xE c hc L hl hL.ok
 have CT1:=hQ9 (kY c hc A k L hl _ (hS.grew G1) (hL.gr G1))
 have CH:=hQ9 (fun W=>of_any ⟨#[99,101,114,116]⟩ ⟨(ctTx c L).toArray⟩ (by decide) (by have:=hlen;simp [ByteArray.size];omega) W)
 have e1:sumL (⟨#[99,101,114,116]⟩:ByteArray).data.toList (⟨(ctTx c L).toArray⟩:ByteArray).data.toList=ctD c L:=by simp [ctD]
 rw [e1]at CH
 have hm:=z1.cell
 clear e1 hlen hS hL z1 hc
 generalize ctD c L=d at *
 generalize (⟨(ctTx c L).toArray⟩:ByteArray)=tj at *
 generalize ctC c A L.length k=gc at *
 go_enter Tryz.func57,Tryz.ntmps57
 go_wp2_with(with_reducible refine wpList_load_mid rfl 43 (.tmp 1) rfl w.heap.size 0 rfl gc.toList _ hm huc rfl SIC.out ?_;simp only [Array.toArray_toList])
 refine(CT1.out).mono ?_
 rintro e w1 ⟨rfl,g1⟩
 go_wp2_with fail
 refine(CH.out w1).mono ?_
 rintro e w2 ⟨rfl,rfl⟩
 go_wp2_with fail
 go_ret
 exact⟨rfl,zb G1 g1⟩
theorem SP.mv_T (S:SP) (A:Option Addr) (c:Nat):(S.mv A c).C.toList=[.int .u64 (S.cm:Nat),.int .i64 S.who,.int .i64 S.at_]++(sgC S.sw S.lf S.s (.slice A S.l.length c)).toList:=rfl
theorem SP.C_eq (S:SP):S.C.toList=[.int .u64 (S.cm:Nat),.int .i64 S.who,.int .i64 S.at_]++(sgC S.sw S.lf S.s (.slice S.A S.l.length S.c)).toList:=rfl
theorem kZ (S:SP) (hS:S.ok) (w:World) (ha:S.at w) :
 Calls Tryz.prog 136 #[.agg S.C] w fun e w'=>∃ A c,e=.returned (.agg (S.mv A c).C)∧(S.mv A c).at w'∧(∀ ad,A=some ad→w.heap.size≤ad.block)∧Grew w w':=by
 have z1:=(Ag.new w 157 S.C).grew (zc (za _) (.cells (zS24) 157))
 have z2:Ag ((w.alloc (.cells S.C 157)).alloc (.cells (zS24) 157)) (w.heap.size+1) (zS24:Array Value).toList:=by
  have:=Ag.new (w.alloc (.cells S.C 157)) 157 (zS24)
  simpa using this
 have G0:=zc (zc (za w) (.cells S.C 157)) (.cells (zS24) 157)
 have ha0:=ha.gr G0
 have CC:=hQ9 (qJ S.sw S.lf S.s S.A S.c S.l hS.len _ ha0)
 have hut:=Tryz.underlying157
 have hus:=Tryz.underlying77
 have HZI:=hQ9 z1
 have hm0:((w.alloc (.cells S.C 157)).alloc (.cells (zS24) 157)).rangeAt w.heap.size 3 (sgC S.sw S.lf S.s (.slice S.A S.l.length S.c)).toList:=kS z1.cell
 have HSG:Hid ((Tryz.prog.info? 77).map (·.size)=some (sgC S.sw S.lf S.s (.slice S.A S.l.length S.c)).toList.length):=hQ9 zU
 clear ha ha0 z1
 go_enter Tryz.func136,Tryz.ntmps136
 go_wp2_with(with_reducible refine wpList_load_mid rfl 77 (.tmp 3) rfl w.heap.size 3 rfl (sgC S.sw S.lf S.s (.slice S.A S.l.length S.c)).toList _ hm0 hus rfl HSG.out ?_;simp only [Array.toArray_toList])
 refine(CC.out).mono ?_
 rintro e w1 ⟨A2,c2,rfl,hr2,hb2,g1⟩
 have z1:=HZI.out.grew g1
 have z2':=z2.grew g1
 have G1:=zb G0 g1
 have hb0:w.heap.size+2≤((w.alloc (.cells S.C 157)).alloc (.cells (zS24) 157)).heap.size:=by rw [zg,zg];omega
 have hb2':∀ ad,A2=some ad→w.heap.size+2≤ad.block:=fun ad h=>Nat.le_trans hb0 (hb2 ad h)
 have SIG:Hid ((Tryz.prog.info? 77).map (·.size)=some (sgC S.sw S.lf S.s (.slice A2 S.l.length c2)).size):=hQ9 zU
 have ONG:=hQ9 (x6 S.sw S.lf S.s A2 S.l.length c2)
 have THG:Hid (w1.there w.heap.size 3 (sgC S.sw S.lf S.s (.slice A2 S.l.length c2)).size):=hQ9 (fun i hi=>by
  have hi':i<21:=hi
  have:=z1.there (3+i) (by show 3+i<24;omega)
  simpa using this)
 have y1:Ag (w1.setCells w.heap.size 3 (sgC S.sw S.lf S.s (.slice A2 S.l.length c2)).toList) w.heap.size (S.mv A2 c2).C.toList:=by
  rw [SP.C_eq]at z1
  rw [SP.mv_T]
  exact(Ag.setTail (pre:=[.int .u64 (S.cm:Nat),.int .i64 S.who,.int .i64 S.at_]) (old:=(sgC S.sw S.lf S.s (.slice S.A S.l.length S.c)).toList) (vs:=(sgC S.sw S.lf S.s (.slice A2 S.l.length c2)).toList) z1 (by rw [x9,x9]))
 have K1:=zk (sgC S.sw S.lf S.s (.slice A2 S.l.length c2)).toList w.heap.size 3 w1
 have z3:=z2'.kp K1 (fun e=>by omega)
 have r3:=(hr2.kp K1 (Nat.le_refl _) (fun ad h _ e=>by have:=hb2' ad h;omega)).more K1.size
 have G3:=zn (o:=3) (b:=w.heap.size) (sgC S.sw S.lf S.s (.slice A2 S.l.length c2)).toList G1 (Nat.le_refl _)
 obtain⟨w2,hw2⟩:∃ v,w1.setCells w.heap.size 3 (sgC S.sw S.lf S.s (.slice A2 S.l.length c2)).toList=v:=⟨_,rfl⟩
 rw [hw2]at y1 z3 r3 G3
 have HW2:=hQ9 hw2
 clear CC HZI z2 z1 z2' hb2 hb0 G0 g1 hr2 G1 K1 hw2 hm0 HSG
 have SI1:Hid ((Tryz.prog.info? 157).map (·.size)=some (S.mv A2 c2).C.toList.length):=hQ9 zA
 have SI2:Hid ((Tryz.prog.info? 157).map (·.size)=some (S.mv A2 c2).C.size):=hQ9 zA
 have HON:=hQ9 (S.mv A2 c2).one
 have HTH:Hid (w2.there (w.heap.size+1) 0 (S.mv A2 c2).C.size):=hQ9 (z3.thereN 24 rfl)
 have z4:=Ag.set (vs:=(S.mv A2 c2).C.toList) z3 rfl
 have K4:=zk (S.mv A2 c2).C.toList (w.heap.size+1) 0 w2
 have G4:=zn (o:=0) (b:=w.heap.size+1) (S.mv A2 c2).C.toList G3 (by omega)
 have r4:=(r3.kp K4 (Nat.le_refl _) (fun ad h _ e=>by have:=hb2' ad h;omega)).more K4.size
 have hm:=y1.cell
 clear z3 y1 r3 G3 K4
 go_wp2_with(first
  | (with_reducible refine wpList_store_mid rfl 77 (.tmp 6) (.tmp 5) rfl w.heap.size 3 (sgC S.sw S.lf S.s (.slice A2 S.l.length c2)) rfl rfl THG.out SIG.out ONG.out ?_;rw [HW2.out])
  | (with_reducible refine wpList_load_mid rfl 157 (.tmp 1) rfl w.heap.size 0 rfl (S.mv A2 c2).C.toList _ hm hut rfl SI1.out ?_;simp only [Array.toArray_toList])
  | (with_reducible refine wpList_store_mid rfl 157 (.tmp 2) (.tmp 7) rfl (w.heap.size+1) 0 (S.mv A2 c2).C rfl rfl HTH.out SI2.out HON.out ?_))
 exact bodyPost_ret (zy Tryz.results136 _ _ (w.heap.size+1) _ _ rfl z4 hut rfl zA) rfl ⟨A2,c2,rfl,r4,(fun ad h=>by have:=hb2' ad h;omega),G4⟩
theorem ko (A:Option Addr) (c:Nat) (L:List SP) (hl:L.length≤100000) (w:World) (hL:Sps w A L) :
 Calls Tryz.prog 135 #[.slice A L.length c,.func (.func 136) #[] #[]] w fun e w'=>∃ B c' M,e=.returned (.slice B L.length c')∧MvL L M∧Sps w' B M∧L.length≤c'∧c'≤maxLen∧(∀ ad,B=some ad→w.heap.size≤ad.block)∧(∀ S∈M,∀ ad,S.A=some ad→S.l=[]∨w.heap.size≤ad.block)∧Grew w w':=by
 obtain⟨i0,hi,hz0,hz1,hz2⟩:=info_parts st_inf
 have hut:=Tryz.underlying157
 have HL:=hQ9 hL
 have hr:=hL.rd
 clear hL
 obtain⟨w1,hmk,hown1,hgrow1⟩:=run_make_own (P:=Tryz.prog) w w.heap.size 41 157 i0 (.agg (zS24:Array Value)) 24 Tryz.underlying41 hi hz0 hz1 .i64 .i64 L.length (by rw [hz2];omega) (by unfold maxLen;omega) (Nat.le_refl _)
 have hg1:Grew w w1:=(Below.refl _ w).grown hgrow1 (Nat.le_refl _) (fun j hj=>by cases hj)
 clear hgrow1
 go_enter Tryz.func135,Tryz.ntmps135
 go_wp2_with fail
 clear hmk
 go_loopw [5,13] (fun rv iv wr=>∃(i:Nat) (M:List SP),i≤L.length∧iv=.int .i64 i∧MvL (L.take i) M∧(∀ S∈M,S.ok)∧(∀ S∈M,S.at wr)∧(∀ S∈M,∀ ad,S.A=some ad→∀ g,rv.ownBlock=some g→S.l=[]∨ad.block≠g)∧(∀ S∈M,∀ ad,S.A=some ad→S.l=[]∨w.heap.size≤ad.block)∧wr.ownsRow w.heap.size 157 24 rv i (spL M).flatten∧Grew w wr) (fun _ i _=>L.length-(Go.RowKit.intOf i).toNat)
 case atStart=>exact⟨0,[],Nat.zero_le _,rfl,by simpa using MvL.nil,by simp,by simp,by simp,by simp,by simpa [spL]using hown1,hg1⟩
 case round =>
  obtain⟨i,M,hil,rfl,hmv,hok,hat,hne,hlow,hrow,hg⟩:=hrel
  by_cases hlt:i<L.length
  ·obtain⟨q,hA,hq,hm⟩:=RdC.at24 hr hg i hlt
   subst hA
   have hts:L.take (i+1)=L.take i++[L[i]]:=by rw [List.take_succ_eq_append_getElem hlt]
   have HTS:=hQ9 hts
   have hSok:=HL.out.ok L[i] (List.getElem_mem hlt)
   have hSat:=(HL.out.at_ L[i] (List.getElem_mem hlt)).gr hg
   clear hts
   have hi0:(0:Int)≤(i:Int):=by omega
   have hi1:(i:Int)<(L.length:Int):=by omega
   have e4:IntKind.i64.wrap ((i:Int)+1)=(i:Int)+1:=IntWalk.i64_in _ (by omega)
   generalize L[i]=S at *
   have SIS:Hid ((Tryz.prog.info? 157).map (·.size)=some S.C.toList.length):=hQ9 zA
   have SIZ:Hid ((Tryz.prog.info? 157).map (·.size)=some S.C.size):=hQ9 zA
   have HON:=hQ9 S.one
   obtain⟨w2,hw2,ht2,g2,z2⟩:=xC wr S.C rfl
   have HW2:=hQ9 hw2
   have HT2:=hQ9 ht2
   have hm2:=z2.cell
   have CCP:=hQ9 (kZ S hSok w2 (hSat.gr g2))
   have HOK:=hQ9 hok
   have HNE:=hQ9 hne
   have HLW:=hQ9 hlow
   have hwz:=hg.size
   have HWZ:=hQ9 hwz
   have HMV:=hQ9 hmv
   have HAT:=hQ9 (fun S hS=>(hat S hS).gr g2)
   have HSO:=hQ9 hSok
   clear hw2 ht2 hok hne hlow hmv hat hSok hSat hwz
   go_wp2_with(first
    | (with_reducible refine wpList_load_mid rfl 157 (.tmp 15) rfl q (i*24) rfl S.C.toList _ hm hut rfl SIS.out ?_;simp only [Array.toArray_toList])
    | (with_reducible refine wpList_store_mid rfl 157 (.tmp 7) (.tmp 16) rfl wr.heap.size 0 S.C rfl rfl HT2.out SIZ.out HON.out ?_;rw [HW2.out])
    | (with_reducible refine wpList_load_mid rfl 157 (.tmp 7) rfl wr.heap.size 0 rfl S.C.toList _ hm2 hut rfl SIS.out ?_;simp only [Array.toArray_toList]))
   refine(CCP.out).mono ?_
   rintro e w3 ⟨A2,c2,rfl,hat2,hfr2,gg⟩
   have G3:=zb hg (zb g2 gg)
   have hrow3:=zj (S:=fun _=>False) hrow (zi (zb g2 gg)) (fun g _ h=>h)
   have hsz3:=G3.size
   have hsz:(S.mv A2 c2).C.size=24:=rfl
   have HAT3:=hQ9 (fun T hT=>(HAT.out T hT).gr gg)
   have HOB:=hQ9 (zl hrow)
   have hgz:=(zb g2 gg).size
   have HFR:Hid (∀ ad,A2=some ad→S.l=[]∨wr.heap.size≤ad.block):=hQ9 (fun ad h=>.inr (Nat.le_trans g2.size (hfr2 ad h)))
   clear hrow hm hm2 z2 g2 gg hg HT2 HW2 CCP HAT
   go_wp2_with(first
    | (at_builtin;rw [qG];refine yJ _ rfl (.tmp 17) (.tmp 21) 41 rfl w.heap.size 157 i0 (.agg (#[.int .u64 0,.int .i64 0,.int .i64 0,.int .i64 0,.int .i64 0,.int .u64 0,.int .u64 0,.int .u64 0,.int .u64 0,.int .u64 0,.int .u64 0,.int .u64 0,.int .u64 0,.int .u64 0,.int .u64 0,.int .u64 0,.int .u64 0,.int .u64 0,.int .u64 0,.int .u64 0,.int .u64 0,.int .u64 0,.int .u64 0,.slice none 0 0]:Array Value)) 24 208 Tryz.underlying41 hi hz0 hz1 hz2 rfl (by decide) _ _ _ rfl (hrow3.alloc _) ⟨w3.heap.size,0,none⟩ 1 1 (S.mv A2 c2).C.toList rfl rfl (fun j u hj=>km w3 (S.mv A2 c2).C 157 j u hj) (S.mv A2 c2).one' (by unfold maxLen;omega) (by omega) (by simp;omega) ?_;intro v' w5 hown5 hgrow5 hob5))
   have ga:=zc (za w3) (.cells (S.mv A2 c2).C 157)
   go_roundw
   case rel =>
    refine⟨i+1,M++[S.mv A2 c2],by omega,by go_num,by rw [HTS.out];exact HMV.out.snoc S A2 c2,?_,?_,?_,?_,by rw [jL];exact hown5,(zc G3 _).grown hgrow5 (by simp;omega) (zr hrow3)⟩
    ·intro T hT
     rcases List.mem_append.1 hT with h | h
     ·exact HOK.out T h
     ·obtain rfl:T=S.mv A2 c2:=by simpa using h
      exact SP.mv_ok HSO.out _ _
    ·intro T hT
     rcases List.mem_append.1 hT with h | h
     ·exact xD ((HAT3.out T h).gr ga) hgrow5 (fun ad e g hg=>HNE.out T h ad e g hg)
     ·obtain rfl:T=S.mv A2 c2:=by simpa using h
      exact xD (hat2.gr ga) hgrow5 (fun ad e g hg=>by
       rcases HFR.out ad e with h1 | h1
       ·exact .inl h1
       ·have:=(HOB.out g hg).2
        exact .inr (by omega))
    ·intro T hT ad e g hg
     have hlt9:T.l=[]∨ad.block<(w3.alloc (.cells (S.mv A2 c2).C 157)).heap.size:=by
      rcases List.mem_append.1 hT with h | h
      ·exact at_lt ((HAT3.out T h).gr ga) ad e
      ·obtain rfl:T=S.mv A2 c2:=by simpa using h
       exact at_lt (hat2.gr ga) ad e
     rcases hob5 with h3 | h3
     ·rw [h3]at hg
      rcases List.mem_append.1 hT with h | h
      ·exact HNE.out T h ad e g hg
      ·obtain rfl:T=S.mv A2 c2:=by simpa using h
       rcases HFR.out ad e with h1 | h1
       ·exact .inl h1
       ·have:=(HOB.out g hg).2
        exact .inr (by omega)
     ·rw [h3]at hg;injection hg with hg
      rcases hlt9 with h1 | h1
      ·exact .inl h1
      ·exact .inr (by omega)
    ·intro T hT ad e
     rcases List.mem_append.1 hT with h | h
     ·exact HLW.out T h ad e
     ·obtain rfl:T=S.mv A2 c2:=by simpa using h
      rcases HFR.out ad e with h1 | h1
      ·exact .inl h1
      ·exact .inr (Nat.le_trans HWZ.out h1)
   case measure=>simp [Go.RowKit.intOf];omega
  ·obtain rfl:i=L.length:=by omega
   rw [List.take_length]at hmv
   obtain⟨B,c',rfl,hB,hc1,hc2,hbB⟩:=qH hrow hmv.len
   go_wp2_with fail
   go_ret
   exact⟨B,c',M,rfl,hmv,⟨hB,hok,hat⟩,hc1,hc2,fun ad e=>(hbB ad e).1,hlow,hg⟩
theorem xF (cc:Cm) (A:Option Addr) (k:Nat) (L:List SP) (hl:L.length≤100000) (w:World) (hL:Sps w A L) :
 Calls Tryz.prog 63 #[.agg (ctC cc A L.length k)] w fun e w'=>∃ B k' M,e=.returned (.agg (ctC cc B L.length k'))∧MvL L M∧Sps w' B M∧(∀ ad,B=some ad→w.heap.size≤ad.block)∧(∀ S∈M,∀ ad,S.A=some ad→S.l=[]∨w.heap.size≤ad.block)∧Grew w w':=by
 have z1:=(Ag.new w 43 (ctC cc A L.length k)).grew (zc (za _) (.cells (zS6) 43))
 have z2:Ag ((w.alloc (.cells (ctC cc A L.length k) 43)).alloc (.cells (zS6) 43)) (w.heap.size+1) (zS6:Array Value).toList:=by
  have:=Ag.new (w.alloc (.cells (ctC cc A L.length k) 43)) 43 (zS6)
  simpa using this
 have G0:=zc (zc (za w) (.cells (ctC cc A L.length k) 43)) (.cells (zS6) 43)
 have hL0:=hL.gr G0
 have hc5:((w.alloc (.cells (ctC cc A L.length k) 43)).alloc (.cells (#[.int .i64 0,.int .i64 0,.int .i64 0,.int .i64 0,.int .i64 0,.slice none 0 0]) 43)).cell? ⟨w.heap.size,5,none⟩=some (.slice A L.length k):=by simpa using z1.cell 5 _ rfl
 have CM:=hQ9 (ko A k L hl _ hL0)
 have hut:=Tryz.underlying43
 have HZI:=hQ9 z1
 clear hL hL0 z1
 go_enter Tryz.func63,Tryz.ntmps63
 go_wp2_with fail
 refine(CM.out).mono ?_
 rintro e w1 ⟨B,k',M,rfl,hmv,hSM,hk1,hk2,hB,hMA,g1⟩
 have hb0:w.heap.size+2≤((w.alloc (.cells (ctC cc A L.length k) 43)).alloc (.cells (zS6) 43)).heap.size:=by rw [zg,zg];omega
 have hB':∀ ad,B=some ad→w.heap.size+2≤ad.block:=fun ad h=>Nat.le_trans hb0 (hB ad h)
 have hMA':∀ S∈M,∀ ad,S.A=some ad→S.l=[]∨w.heap.size+2≤ad.block:=fun S hS ad h=>(hMA S hS ad h).imp id (fun h=>Nat.le_trans hb0 h)
 have z1:=HZI.out.grew g1
 have z2':=z2.grew g1
 have G1:=zb G0 g1
 have hc1:w1.cell? ⟨w.heap.size,5,none⟩=some (.slice A L.length k):=by simpa using z1.cell 5 _ rfl
 have fc1:w1.frozen? ⟨w.heap.size,5,none⟩=false:=by simpa using (z1.there 5 (by show 5<6;omega)).2
 have y1:Ag (w1.setCell ⟨w.heap.size,5,none⟩ (.slice B L.length k')) w.heap.size (ctC cc B L.length k').toList:=z1.set1 5 (.slice B L.length k') (by show 5<6;omega)
 have K1:=zW (S:=fun j=>j=w.heap.size) (zt _ w1) (p:=⟨w.heap.size,5,none⟩) (.inl rfl) (.slice B L.length k')
 have z3:=z2'.kp K1 (fun e=>by omega)
 have S3:=hSM.kpx K1 (fun ad h e=>by have:=hB' ad h;omega) (fun T hT ad h=>(hMA' T hT ad h).imp id (fun h e=>by omega))
 have G3:Grew w (w1.setCell ⟨w.heap.size,5,none⟩ (.slice B L.length k')):=zw G1 K1 G1.size (fun i e=>by have e':i=w.heap.size:=e;omega)
 clear CM HZI z2 z1 z2' hc5 hB hMA hb0 G0 g1 hSM G1 K1
 have SI1:Hid ((Tryz.prog.info? 43).map (·.size)=some (ctC cc B L.length k').toList.length):=hQ9 zu
 have SI2:Hid ((Tryz.prog.info? 43).map (·.size)=some (ctC cc B L.length k').size):=hQ9 zu
 have HON:=hQ9 (yv cc B L.length k')
 have HTH:Hid ((w1.setCell ⟨w.heap.size,5,none⟩ (.slice B L.length k')).there (w.heap.size+1) 0 (ctC cc B L.length k').size):=hQ9 (z3.thereN 6 rfl)
 have z4:=Ag.set (vs:=(ctC cc B L.length k').toList) z3 rfl
 have K4:=zk (ctC cc B L.length k').toList (w.heap.size+1) 0 (w1.setCell ⟨w.heap.size,5,none⟩ (.slice B L.length k'))
 have G4:=zn (o:=0) (b:=w.heap.size+1) (ctC cc B L.length k').toList G3 (by omega)
 have S4:=S3.kpx K4 (fun ad h e=>by have:=hB' ad h;omega) (fun T hT ad h=>(hMA' T hT ad h).imp id (fun h e=>by omega))
 have hm:=y1.cell
 clear z3 y1 S3 G3 K4
 go_wp2_with(first
  | (with_reducible refine wpList_load_mid rfl 43 (.tmp 1) rfl w.heap.size 0 rfl (ctC cc B L.length k').toList _ hm hut rfl SI1.out ?_;simp only [Array.toArray_toList])
  | (with_reducible refine wpList_store_mid rfl 43 (.tmp 2) (.tmp 7) rfl (w.heap.size+1) 0 (ctC cc B L.length k') rfl rfl HTH.out SI2.out HON.out ?_))
 exact bodyPost_ret (zy Tryz.results63 _ _ (w.heap.size+1) _ _ rfl z4 hut rfl zu) rfl ⟨B,k',M,rfl,hmv,S4,(fun ad h=>by have:=hB' ad h;omega),(fun S hS ad h=>(hMA' S hS ad h).imp id (fun h=>by omega)),G4⟩
def StR.sp (r:StR) (A:Option Addr) (c:Nat):SP:=⟨r.cm,r.who,r.at_,r.g.1.1,r.g.1.2,r.g.2.1,A,c,r.g.2.2⟩
structure StL (l:List StR) (M:List SP):Prop where
 len:M.length=l.length
 each:∀ k (h:k<l.length) (h':k<M.length),∃ A c,M[k]=l[k].sp A c
theorem StL.nil:StL [] []:=⟨rfl,fun k h=>absurd h (by simp)⟩
theorem StL.snoc {L:List StR} {M:List SP} (h:StL L M) (S:StR) (A:Option Addr) (c:Nat):StL (L++[S]) (M++[S.sp A c]):=by
 refine⟨by simp [h.len],fun k h1 h2=>?_⟩
 by_cases hk:k<L.length
 ·rw [List.getElem_append_left hk,List.getElem_append_left (by rw [h.len];exact hk)]
  exact h.each k hk _
 ·have hk':k=L.length:=by have h3:(L++[S]).length=L.length+1:=by simp
                          omega
  subst hk'
  refine⟨A,c,?_⟩
  have e1:(L++[S])[L.length]'h1=S:=by simp
  have e2:(M++[S.sp A c])[L.length]'h2=S.sp A c:=by
   have:∀ n (hn:n<(M++[S.sp A c]).length),n=M.length→(M++[S.sp A c])[n]=S.sp A c:=fun n hn e=>by subst e;simp
   exact this _ _ h.len.symm
  rw [e1,e2]
def cm12 (n:Int):Cm:=⟨1,n,2,3,4⟩
section
variable (RA : Option Addr) (Rc : Nat) (A0 A1 A2 A3 : Option Addr) (c0 c1 c2 c3 : Nat)
end
theorem qK:(Tryz.prog.info? 40).map (·.size)=some 5:=by kernel_rfl
theorem c12_ok (n:Int) (w:World):Calls Tryz.prog 55 #[.int .i64 n] w fun e w'=>e=.returned (.agg (cm12 n).cells)∧Grew w w':=by
 show Calls _ _ _ _ fun e w'=>e=.returned (.agg #[.int .i64 1,.int .i64 n,.int .i64 2,.int .i64 3,.int .i64 4])∧Grew w w'
 have z0:=Ag.new w 40 #[.int .i64 0,.int .i64 0,.int .i64 0,.int .i64 0,.int .i64 0]
 have g0:=zc (za w) (.cells #[.int .i64 0,.int .i64 0,.int .i64 0,.int .i64 0,.int .i64 0] 40)
 have hut:=Tryz.underlying40
 have hi5:=qK
 have zf:=Ag.set (vs:=(#[.int .i64 1,.int .i64 n,.int .i64 2,.int .i64 3,.int .i64 4]:Array Value).toList) z0 rfl
 have Gf:=zn (o:=0) (b:=w.heap.size) (#[.int .i64 1,.int .i64 n,.int .i64 2,.int .i64 3,.int .i64 4]:Array Value).toList g0 (Nat.le_refl _)
 go_enter Tryz.func55,Tryz.ntmps55
 go_wp2_with(refine wpList_store_mid rfl 40 (.tmp 2) (.tmp 4) rfl w.heap.size 0 #[.int .i64 1,.int .i64 n,.int .i64 2,.int .i64 3,.int .i64 4] rfl rfl (z0.thereN 5 rfl) hi5 (by simp [Value.oneCell']) ?_)
 exact bodyPost_ret (zy Tryz.results55 _ _ w.heap.size _ _ rfl zf hut rfl hi5) rfl ⟨rfl,Gf⟩
end Go.Proofs.YtkpnheenacchhaaGreatDoor
