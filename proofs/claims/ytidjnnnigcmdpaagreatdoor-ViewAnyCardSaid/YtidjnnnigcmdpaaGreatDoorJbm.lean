/- signed.Check of one new view (mknwa.py). -/
import Derived.Test.YtidjnnnigcmdpaaGreatDoorJzz
import Derived.Test.YtidjnnnigcmdpaaGreatDoorJbl
import Derived.Test.YtidjnnnigcmdpaaGreatDoorJbh
import Derived.Test.YtidjnnnigcmdpaaGreatDoorJbk
import Derived.Test.YtidjnnnigcmdpaaGreatDoorJbj
import Derived.Laws.MakeOwn
import Derived.Test.YtidjnnnigcmdpaaGreatDoorJbg
import Derived.Test.YtidjnnnigcmdpaaGreatDoorJao
set_option maxHeartbeats 4000000
set_option maxRecDepth 100000
set_option linter.unusedSimpArgs false
set_option linter.unusedVariables false
set_option linter.unnecessarySimpa false
namespace Go.Proofs.YtidjnnnigcmdpaaGreatDoor
open Go.RowKit
theorem zfb (R:List Nat) (RA:Option Addr) (Rc:Nat) (h:Int) (vw qv:Int) (qd:Nat) (QA:Option Addr) (Qn Qk:Nat) (n:Nat) (sw lf:Int) (s:Nat→Nat) (A:Option Addr) (c:Nat) (l:List Nat) (hc:qd<18446744073709551616) (hqv:in64 qv) (hw:in64 (n:Int)) (hv:in64 vw) (hsw:in64 sw) (hlf:in64 lf) (hl:l.length≤1000) (hs:∀ k,k<18→s k<18446744073709551616) (hb:∀ x∈l,x<18446744073709551616)
 (hRl:R.length≤1000) (hRb:∀ x∈R,x<18446744073709551616) (q:Nat) (w:World) (hS:Std w) (hrR:Rd w w.heap.size RA (u64L R)) (hrl:Rd w w.heap.size A (u64L l)) (hq:w.rangeAt q 0 (nwC vw qv qd QA Qn Qk (n:Int) sw lf s (.slice A l.length c)).toList) (hql:q<w.heap.size) :
 Calls Tryz.prog 117 #[.slice RA R.length Rc,.int .i64 h,.func (.func 118) #[] #[],.slice (some ⟨q,0,none⟩) 1 1] w fun e w'=>e=.returned (.int .i64 (ckE R h n (nwD vw qv qd (n:Int)) sw lf s l))∧Grew w w':=by
 have hus:=Tryz.underlying67
 have hut:=Tryz.underlying111
 have hum:=Tryz.underlying247
 have HST:Hid ((Tryz.prog.info? 111).map (·.size)=some (nwC vw qv qd QA Qn Qk (n:Int) sw lf s (.slice A l.length c)).toList.length):=hQ9 zD
 have HSI:Hid ((Tryz.prog.info? 111).map (·.size)=some (nwC vw qv qd QA Qn Qk (n:Int) sw lf s (.slice A l.length c)).size):=hQ9 zD
 have HSM:Hid ((Tryz.prog.info? 247).map (·.size)=some (mkC (n:Int) (nwD vw qv qd (n:Int)) sw lf s (.slice A l.length c)).size):=hQ9 xJ
 have HSG:Hid ((Tryz.prog.info? 67).map (·.size)=some (sgC sw lf s (.slice A l.length c)).toList.length):=hQ9 zL
 have HOS:=hQ9 (jt vw qv qd QA Qn Qk (n:Int) sw lf s A l.length c)
 have HOM:=hQ9 (jm (n:Int) (nwD vw qv qd (n:Int)) sw lf s A l.length c)
 have CM:=hQ9 (fun W hW=>zgy vw qv qd QA Qn Qk (n:Int) sw lf s A c l hc hqv hw hv W hW)
 have hdl:=qT vw qv qd (n:Int)
 have CVV:=hQ9 (fun W h1=>qO (R.getD n 0) sw lf s A c l (nwD vw qv qd (n:Int):Nat) h (by omega) hlf hs hb ⟨by omega,by omega⟩ W h1)
 obtain⟨d,hd⟩:∃ d,nwD vw qv qd (n:Int)=d:=⟨_,rfl⟩
 rw [hd]at CM HSM HOM CVV ⊢
 have HS:=hQ9 hS
 have HRR:=hQ9 hrR
 have HRL:=hQ9 hrl
 have hn0:(0:Int)≤(n:Int):=by omega
 clear hd hdl hS hrR hrl hc hqv hw hv hl hs hb hRb
 go_enter Tryz.func117,Tryz.ntmps117
 go_wp2_with fail
 go_loopw [14] (fun iv wr=>(iv=.int .i64 0∧wr.rangeAt q 0 (nwC vw qv qd QA Qn Qk (n:Int) sw lf s (.slice A l.length c)).toList∧Grew w wr)∨(iv=.int .i64 1∧ckE R h n d sw lf s l=0∧Grew w wr)) (fun iv _=>1-(intOf iv).toNat)
 case atStart=>exact .inl ⟨rfl,hq,zc _⟩
 case round =>
  clear hq
  rcases hrel with ⟨rfl,hq,G⟩ | ⟨rfl,hE,G⟩
  ·have zt:=Ag.new wr 111 (#[.int .i64 0,.int .i64 0,.int .i64 0,.int .u64 0,.slice none 0 0,.int .i64 0,.int .i64 0,.int .u64 0,.int .u64 0,.int .u64 0,.int .u64 0,.int .u64 0,.int .u64 0,.int .u64 0,.int .u64 0,.int .u64 0,.int .u64 0,.int .u64 0,.int .u64 0,.int .u64 0,.int .u64 0,.int .u64 0,.int .u64 0,.int .u64 0,.int .u64 0,.slice none 0 0])
   have HTH:Hid ((wr.alloc (.cells (#[.int .i64 0,.int .i64 0,.int .i64 0,.int .u64 0,.slice none 0 0,.int .i64 0,.int .i64 0,.int .u64 0,.int .u64 0,.int .u64 0,.int .u64 0,.int .u64 0,.int .u64 0,.int .u64 0,.int .u64 0,.int .u64 0,.int .u64 0,.int .u64 0,.int .u64 0,.int .u64 0,.int .u64 0,.int .u64 0,.int .u64 0,.int .u64 0,.int .u64 0,.slice none 0 0]) 111)).there wr.heap.size 0 (nwC vw qv qd QA Qn Qk (n:Int) sw lf s (.slice A l.length c)).size):=hQ9 (zt.thereN 26 rfl)
   have z1:=Ag.set (vs:=(nwC vw qv qd QA Qn Qk (n:Int) sw lf s (.slice A l.length c)).toList) zt rfl
   have g1:Grew wr ((wr.alloc (.cells (#[.int .i64 0,.int .i64 0,.int .i64 0,.int .u64 0,.slice none 0 0,.int .i64 0,.int .i64 0,.int .u64 0,.int .u64 0,.int .u64 0,.int .u64 0,.int .u64 0,.int .u64 0,.int .u64 0,.int .u64 0,.int .u64 0,.int .u64 0,.int .u64 0,.int .u64 0,.int .u64 0,.int .u64 0,.int .u64 0,.int .u64 0,.int .u64 0,.int .u64 0,.slice none 0 0]) 111)).setCells wr.heap.size 0 (nwC vw qv qd QA Qn Qk (n:Int) sw lf s (.slice A l.length c)).toList):=zi (o:=0) (b:=wr.heap.size) (nwC vw qv qd QA Qn Qk (n:Int) sw lf s (.slice A l.length c)).toList (zg (zc wr) _) (Nat.le_refl _)
   obtain⟨w2,hw2⟩:∃ v,(wr.alloc (.cells (#[.int .i64 0,.int .i64 0,.int .i64 0,.int .u64 0,.slice none 0 0,.int .i64 0,.int .i64 0,.int .u64 0,.int .u64 0,.int .u64 0,.int .u64 0,.int .u64 0,.int .u64 0,.int .u64 0,.int .u64 0,.int .u64 0,.int .u64 0,.int .u64 0,.int .u64 0,.int .u64 0,.int .u64 0,.int .u64 0,.int .u64 0,.int .u64 0,.int .u64 0,.slice none 0 0]) 111)).setCells wr.heap.size 0 (nwC vw qv qd QA Qn Qk (n:Int) sw lf s (.slice A l.length c)).toList=v:=⟨_,rfl⟩
   rw [hw2]at z1 g1
   have HW2:=hQ9 hw2
   have G2:=ze G g1
   have hm1:=z1.cell
   clear hw2 zt g1
   go_wp2_with(first
    | (with_reducible refine wpList_load_mid rfl 111 (.tmp 16) rfl q 0 rfl (nwC vw qv qd QA Qn Qk (n:Int) sw lf s (.slice A l.length c)).toList _ hq hut rfl HST.out ?_)
    | (with_reducible refine wpList_store_mid rfl 111 (.tmp 10) (.tmp 17) rfl wr.heap.size 0 (nwC vw qv qd QA Qn Qk (n:Int) sw lf s (.slice A l.length c)) rfl rfl HTH.out HSI.out HOS.out ?_;rw [HW2.out];clear HW2 HTH;generalize wr.heap.size=q1 at *)
    | (with_reducible refine wpList_load_mid rfl 111 (.tmp 10) rfl q1 0 rfl (nwC vw qv qd QA Qn Qk (n:Int) sw lf s (.slice A l.length c)).toList _ hm1 hut rfl HST.out ?_))
   refine(CM.out w2 (HS.out.grew G2)).mono ?_
   rintro e w3 ⟨rfl,gg⟩
   have G3:=ze G2 gg
   clear hq G G2 gg z1 hm1
   have zt:=Ag.new w3 247 (#[.int .i64 0,.int .u64 0,.int .i64 0,.int .i64 0,.int .u64 0,.int .u64 0,.int .u64 0,.int .u64 0,.int .u64 0,.int .u64 0,.int .u64 0,.int .u64 0,.int .u64 0,.int .u64 0,.int .u64 0,.int .u64 0,.int .u64 0,.int .u64 0,.int .u64 0,.int .u64 0,.int .u64 0,.int .u64 0,.slice none 0 0])
   have HTH:Hid ((w3.alloc (.cells (#[.int .i64 0,.int .u64 0,.int .i64 0,.int .i64 0,.int .u64 0,.int .u64 0,.int .u64 0,.int .u64 0,.int .u64 0,.int .u64 0,.int .u64 0,.int .u64 0,.int .u64 0,.int .u64 0,.int .u64 0,.int .u64 0,.int .u64 0,.int .u64 0,.int .u64 0,.int .u64 0,.int .u64 0,.int .u64 0,.slice none 0 0]) 247)).there w3.heap.size 0 (mkC (n:Int) d sw lf s (.slice A l.length c)).size):=hQ9 (zt.thereN 23 rfl)
   have z4:=Ag.set (vs:=(mkC (n:Int) d sw lf s (.slice A l.length c)).toList) zt rfl
   have g4:Grew w3 ((w3.alloc (.cells (#[.int .i64 0,.int .u64 0,.int .i64 0,.int .i64 0,.int .u64 0,.int .u64 0,.int .u64 0,.int .u64 0,.int .u64 0,.int .u64 0,.int .u64 0,.int .u64 0,.int .u64 0,.int .u64 0,.int .u64 0,.int .u64 0,.int .u64 0,.int .u64 0,.int .u64 0,.int .u64 0,.int .u64 0,.int .u64 0,.slice none 0 0]) 247)).setCells w3.heap.size 0 (mkC (n:Int) d sw lf s (.slice A l.length c)).toList):=zi (o:=0) (b:=w3.heap.size) (mkC (n:Int) d sw lf s (.slice A l.length c)).toList (zg (zc w3) _) (Nat.le_refl _)
   obtain⟨w5,hw5⟩:∃ v,(w3.alloc (.cells (#[.int .i64 0,.int .u64 0,.int .i64 0,.int .i64 0,.int .u64 0,.int .u64 0,.int .u64 0,.int .u64 0,.int .u64 0,.int .u64 0,.int .u64 0,.int .u64 0,.int .u64 0,.int .u64 0,.int .u64 0,.int .u64 0,.int .u64 0,.int .u64 0,.int .u64 0,.int .u64 0,.int .u64 0,.int .u64 0,.slice none 0 0]) 247)).setCells w3.heap.size 0 (mkC (n:Int) d sw lf s (.slice A l.length c)).toList=v:=⟨_,rfl⟩
   rw [hw5]at z4 g4
   have HW5:=hQ9 hw5
   have G5:=ze G3 g4
   clear hw5 zt g4 G3
   go_wp2_with(with_reducible refine wpList_store_mid rfl 247 (.tmp 11) (.tmp 20) rfl w3.heap.size 0 (mkC (n:Int) d sw lf s (.slice A l.length c)) rfl rfl HTH.out HSM.out HOM.out ?_;rw [HW5.out];clear HW5 HTH;generalize w3.heap.size=q2 at *)
   simp only [Act.put]
   have m0:∀ y:Gr w5,y.val.cell? ⟨q2,0,none⟩=some (.int .i64 (n:Int)):=fun y=>by simpa using (z4.gr y).cell 0 _ rfl
   have m1:∀ y:Gr w5,y.val.cell? ⟨q2,1,none⟩=some (.int .u64 (d:Nat)):=fun y=>by simpa using (z4.gr y).cell 1 _ rfl
   have m2:∀ y:Gr w5,y.val.cell? ⟨q2,2,none⟩=some (.int .i64 sw):=fun y=>by simpa using (z4.gr y).cell 2 _ rfl
   have qm:Hid (∀ y:Gr w5,y.val.rangeAt q2 2 (sgC sw lf s (.slice A l.length c)).toList):=hQ9 (fun y=>zgg (z4.gr y).cell)
   have CV:=hQ9 (fun(y:Gr w5)=>CVV.out y.val ((HRL.out.gr G5).gr y.ok))
   have h00:¬(n:Int)<0:=by omega
   clear z4
   by_cases hA:R.length≤n
   ·have HE:Hid (ckE R h n d sw lf s l=7):=hQ9 (by unfold ckE;rw [if_pos hA])
    have e1:(R.length:Int)≤(n:Int):=by omega
    refine zh (zc w5) (by kernel_rfl) (by kernel_rfl) ?_
    repeat (first
     | (go_big_quiet_want;refine zo 67 (.tmp 45) rfl q2 2 rfl (sgC sw lf s (.slice A l.length c)).toList _ qm.out hus rfl HSG.out ?_;simp only [Act.put,List.setIfInBounds_toArray,List.set_cons_succ,List.set_cons_zero,Array.toArray_toList];go_big_quiet_on)
     | (go_big_quiet_step ((go_at_call 151;exact callG (CV.out _)))))
    refine wpQuiet_nil ?_
    rintro w8 ⟨⟨w8',g8⟩,rfl⟩
    have G8:=ze G5 g8
    go_wp2_with fail
    go_ret
    exact⟨by rw [HE.out];rfl,G8⟩
   ·have hA1:¬(R.length:Int)≤(n:Int):=by omega
    have hnR:n<R.length:=by omega
    have hgd:R.getD n 0=R[n]:=by simp [List.getD,hnR]
    obtain⟨ad,hRA,-,hc0⟩:=yx (HRR.out.gr G5) n hnR
    subst hRA
    have mr:∀ y:Gr w5,y.val.cell? (ad.add n)=some (.int .u64 ((R.getD n 0:Nat):Int)):=fun y=>by
     obtain⟨ad',e,-,hc1⟩:=yx ((HRR.out.gr G5).gr y.ok) n hnR
     cases e
     rw [hgd];exact hc1
    clear hgd hc0
    have hnRi:(n:Int)<(R.length:Int):=by omega
    by_cases hB:sw=(n:Int)
    ·have HE0:Hid (ckE R h n d sw lf s l=if vrS (R.getD n 0) lf s l (d:Int) h=true then 0 else 7):=hQ9 (by unfold ckE;rw [if_neg hA,if_pos hB])
     generalize R.getD n 0=r at *
     have e2:(sw != (n:Int))=false:=by simp [hB]
     obtain⟨vb,hvb⟩:∃ v,vrS r lf s l (d:Int) h=v:=⟨_,rfl⟩
     rw [hvb]at CV CVV HE0
     clear hvb CVV hB
     cases vb
     ·have HE:Hid (ckE R h n d sw lf s l=7):=hQ9 (by rw [HE0.out,if_neg (by simp)])
      clear HE0
      refine zh (zc w5) (by kernel_rfl) (by kernel_rfl) ?_
      repeat (first
       | (go_big_quiet_want;refine zo 67 (.tmp 45) rfl q2 2 rfl (sgC sw lf s (.slice A l.length c)).toList _ qm.out hus rfl HSG.out ?_;simp only [Act.put,List.setIfInBounds_toArray,List.set_cons_succ,List.set_cons_zero,Array.toArray_toList];go_big_quiet_on)
       | (go_big_quiet_step ((go_at_call 151;exact callG (CV.out _)))))
      refine wpQuiet_nil ?_
      rintro w8 ⟨⟨w8',g8⟩,rfl⟩
      have G8:=ze G5 g8
      go_wp2_with fail
      go_ret
      exact⟨by rw [HE.out];rfl,G8⟩
     ·have HE:Hid (ckE R h n d sw lf s l=0):=hQ9 (by rw [HE0.out,if_pos rfl])
      clear HE0
      refine zh (zc w5) (by kernel_rfl) (by kernel_rfl) ?_
      repeat (first
       | (go_big_quiet_want;refine zo 67 (.tmp 45) rfl q2 2 rfl (sgC sw lf s (.slice A l.length c)).toList _ qm.out hus rfl HSG.out ?_;simp only [Act.put,List.setIfInBounds_toArray,List.set_cons_succ,List.set_cons_zero,Array.toArray_toList];go_big_quiet_on)
       | (go_big_quiet_step ((go_at_call 151;exact callG (CV.out _)))))
      refine wpQuiet_nil ?_
      rintro w8 ⟨⟨w8',g8⟩,rfl⟩
      have G8:=ze G5 g8
      go_wp2_with fail
      go_roundw
      case rel=>exact .inr ⟨by go_num,HE.out,G8⟩
      case measure=>simp [intOf]
    ·have HE:Hid (ckE R h n d sw lf s l=7):=hQ9 (by unfold ckE;rw [if_neg hA,if_neg hB])
     generalize R.getD n 0=r at *
     have e2:(sw != (n:Int))=true:=by simp [hB]
     clear hB
     refine zh (zc w5) (by kernel_rfl) (by kernel_rfl) ?_
     repeat (first
      | (go_big_quiet_want;refine zo 67 (.tmp 45) rfl q2 2 rfl (sgC sw lf s (.slice A l.length c)).toList _ qm.out hus rfl HSG.out ?_;simp only [Act.put,List.setIfInBounds_toArray,List.set_cons_succ,List.set_cons_zero,Array.toArray_toList];go_big_quiet_on)
      | (go_big_quiet_step ((go_at_call 151;exact callG (CV.out _)))))
     refine wpQuiet_nil ?_
     rintro w8 ⟨⟨w8',g8⟩,rfl⟩
     have G8:=ze G5 g8
     go_wp2_with fail
     go_ret
     exact⟨by rw [HE.out];rfl,G8⟩
  ·go_wp2_with fail
   go_ret
   exact⟨by rw [hE];rfl,G⟩
structure NW where
 vw:Int
 qv:Int
 qd:Nat
 QA:Option Addr
 H:List VP
 Qk:Nat
 who:Int
 sw:Int
 lf:Int
 s:Nat→Nat
 A:Option Addr
 c:Nat
 l:List Nat
def NW.C (S:NW):Array Value:=nwC S.vw S.qv S.qd S.QA S.H.length S.Qk S.who S.sw S.lf S.s (.slice S.A S.l.length S.c)
noncomputable def NW.d (S:NW):Nat:=nwD S.vw S.qv S.qd S.who
structure NW.ok (S:NW):Prop where
 vw:in64 S.vw
 qv:in64 S.qv
 qd:S.qd<18446744073709551616
 h:S.H.length≤100000
 who:in64 S.who
 sw:in64 S.sw
 lf:in64 S.lf
 s:∀ k,k<18→S.s k<18446744073709551616
 len:S.l.length≤1000
 l:∀ x∈S.l,x<18446744073709551616
structure NW.at (S:NW) (w:World):Prop where
 p:Rd w w.heap.size S.A (u64L S.l)
 q:Vps w S.QA S.H
theorem NW.at.gr {S:NW} {w w':World} (h:S.at w) (g:Grew w w'):S.at w':=⟨Rd.gr h.p g,h.q.gr g⟩
def nwL (L:List NW):List (List Value):=L.map fun S=>S.C.toList
theorem nwL_z (L:List NW):∀ l∈nwL L,l.length=26:=fun l hl=>by
 obtain⟨S,_,rfl⟩:=List.mem_map.1 hl
 rfl
theorem zah (L:List NW):(nwL L).length=L.length:=by simp [nwL]
theorem zfc (L M:List NW):nwL (L++M)=nwL L++nwL M:=by simp [nwL]
theorem zis (L:List NW) (n:Nat):nwL (L.take n)=(nwL L).take n:=by simp [nwL]
theorem NW.one (S:NW):S.C.all (·.oneCell')=true:=jt _ _ _ _ _ _ _ _ _ _ _ _ _
theorem NW.one' (S:NW):∀ u∈S.C.toList,u.oneCell'=true:=fun u hu=>by
 have:=S.one
 rw [Array.all_eq_true]at this
 obtain⟨i,hi,rfl⟩:=List.getElem_of_mem hu
 simpa using this i (by simpa using hi)
structure Nws (w:World) (A:Option Addr) (L:List NW):Prop where
 rd:RdC w A 26 (nwL L)
 ok:∀ S∈L,S.ok
 at_:∀ S∈L,S.at w
theorem Nws.gr {w w':World} {A:Option Addr} {L:List NW} (h:Nws w A L) (g:Grew w w'):Nws w' A L:=⟨h.rd.gr g,h.ok,fun S hS=>(h.at_ S hS).gr g⟩
theorem Nws.take {w:World} {A:Option Addr} {L:List NW} (h:Nws w A L) (n:Nat):Nws w A (L.take n) :=
 ⟨by rw [zis];exact h.rd.take n,fun S hS=>h.ok S (List.mem_of_mem_take hS),fun S hS=>h.at_ S (List.mem_of_mem_take hS)⟩
theorem Nws.get {w:World} {A:Option Addr} {L:List NW} (h:Nws w A L) (k:Nat) (hk:k<L.length):∃ q,A=some ⟨q,0,none⟩∧q<w.heap.size∧w.rangeAt q (k*26) L[k].C.toList:=by
 obtain⟨q,e,hq,hr⟩:=h.rd k (by rw [zah];exact hk)
 exact⟨q,e,hq,by simpa [nwL]using hr⟩
theorem xL (S:NW):Array.foldl (fun(cs:Array Value) (x:Value × Nat)=>cs.setIfInBounds x.snd x.fst) (#[.int .i64 0,.int .i64 0,.int .i64 0,.int .u64 0,.slice none 0 0,.int .i64 0,.int .i64 0,.int .u64 0,.int .u64 0,.int .u64 0,.int .u64 0,.int .u64 0,.int .u64 0,.int .u64 0,.int .u64 0,.int .u64 0,.int .u64 0,.int .u64 0,.int .u64 0,.int .u64 0,.int .u64 0,.int .u64 0,.int .u64 0,.int .u64 0,.int .u64 0,.slice none 0 0]) S.C.zipIdx 0 26=S.C:=by
 obtain⟨vw,qv,qd,QA,H,Qk,who,sw,lf,s,A,c,l⟩:=S
 show Array.foldl (fun(cs:Array Value) (x:Value × Nat)=>cs.setIfInBounds x.snd x.fst) (#[.int .i64 0,.int .i64 0,.int .i64 0,.int .u64 0,.slice none 0 0,.int .i64 0,.int .i64 0,.int .u64 0,.int .u64 0,.int .u64 0,.int .u64 0,.int .u64 0,.int .u64 0,.int .u64 0,.int .u64 0,.int .u64 0,.int .u64 0,.int .u64 0,.int .u64 0,.int .u64 0,.int .u64 0,.int .u64 0,.int .u64 0,.int .u64 0,.int .u64 0,.slice none 0 0]) (nwC vw qv qd QA H.length Qk who sw lf s (.slice A l.length c)).zipIdx 0 26=nwC vw qv qd QA H.length Qk who sw lf s (.slice A l.length c)
 generalize H.length=hn
 generalize l.length=ln
 kernel_rfl
noncomputable def nvS (K:KP) (S:NW):Int :=
 if S.who<0 then 1 else if 3*K.f+1≤S.who then 1 else if S.vw<1 then 1 else if 1048576<S.vw then 1 else
 if ckE K.R K.h S.who.toNat S.d S.sw S.lf S.s S.l=0 then (if vqE K S.qv S.qd S.H=0 then (if S.vw≤S.qv then 12 else 0) else vqE K S.qv S.qd S.H) else ckE K.R K.h S.who.toNat S.d S.sw S.lf S.s S.l
theorem NW.qc {w:World} {b:Nat} {S:NW} (h:w.rangeAt b 0 S.C.toList):w.rangeAt b 2 (vqC S.qv S.qd S.QA S.H.length S.Qk).toList:=fun j v hj=>by
 have hj3:j<3:=(List.getElem?_eq_some_iff.1 hj).1
 have h2:S.C.toList[2+j]?=some v:=by
  rcases(show j=0∨j=1∨j=2 by omega)with rfl | rfl | rfl<;>exact hj
 simpa using h (2+j) v h2
theorem xE {K:KP} {S:NW} (hK:K.ok) (hs:S.ok) (w:World) (hS:Std w) (hk:K.at w) (ha:S.at w) :
 Calls Tryz.prog 50 #[.agg K.C,.agg S.C] w fun e w'=>e=.returned (.int .i64 (nvS K S))∧Grew w w':=by
 have hut:=Tryz.underlying111
 have huf:=Tryz.underlying46
 have huk:=Tryz.underlying49
 have huq:=Tryz.underlying38
 have HST:Hid ((Tryz.prog.info? 111).map (·.size)=some S.C.toList.length):=hQ9 zD
 have SIK:Hid ((Tryz.prog.info? 49).map (·.size)=some K.C.toList.length):=hQ9 (show _=some 3 by kernel_rfl)
 have SIQ:Hid ((Tryz.prog.info? 38).map (·.size)=some (vqC S.qv S.qd S.QA S.H.length S.Qk).toList.length):=hQ9 zP
 have HCF:Hid ((Tryz.prog.info? 46).map (·.size)=some [Value.int .i64 K.f].length):=hQ9 (by kernel_rfl)
 have hf:=hK.f
 have CN:=hQ9 (fun W=>qn_ok K.f hf W)
 have zk:=(Ag.new w 49 K.C).grew (zg (zc _) (.cells S.C 111))
 have zs:=Ag.new (w.alloc (.cells K.C 49)) 111 S.C
 rw [zl]at zs
 have G1:=zg (zg (zc w) (.cells K.C 49)) (.cells S.C 111)
 have HS:=hQ9 hS
 have HKA:=hQ9 hk
 have HSA:=hQ9 ha
 have HK:=hQ9 hK
 have HSO:=hQ9 hs
 have h3f:(4:Int)≤3*K.f+1∧3*K.f+1≤10:=by omega
 clear hS hk ha hf hK hs
 go_enter Tryz.func50,Tryz.ntmps50
 go_upto_region 1 with fail
 generalize (w.alloc (.cells K.C 49)).alloc (.cells S.C 111)=w1 at *
 have m1:∀ y:Gr w1,y.val.cell? ⟨w.heap.size+1,1,none⟩=some (.int .i64 S.who):=fun y=>ag_at (zs.gr y) 1 rfl
 have m2:∀ y:Gr w1,y.val.cell? ⟨w.heap.size+1,0,none⟩=some (.int .i64 S.vw):=fun y=>ag_at (zs.gr y) 0 rfl
 have qf:Hid (∀ y:Gr w1,y.val.rangeAt w.heap.size 0 [.int .i64 K.f]):=hQ9 (fun y=>xB (zk.gr y))
 obtain⟨nn,hnn⟩:∃ nn,3*K.f+1=nn:=⟨_,rfl⟩
 rw [hnn]at CN h3f
 have HNN:=hQ9 hnn
 clear hnn
 by_cases hA:S.who<0
 ·have HE:Hid (nvS K S=1):=hQ9 (by unfold nvS;rw [if_pos hA])
  clear HSO HSA
  refine zh (zc w1) (by kernel_rfl) (by kernel_rfl) ?_
  repeat (first
   | (go_big_quiet_want;refine zo 46 (.tmp 13) rfl w.heap.size 0 rfl [.int .i64 K.f] _ qf.out huf rfl HCF.out ?_;simp only [Act.put,List.setIfInBounds_toArray,List.set_cons_succ,List.set_cons_zero,Array.toArray_toList];go_big_quiet_on)
   | (go_big_quiet_step ((go_at_call 61;exact callG (CN.out _)))))
  refine wpQuiet_nil ?_
  rintro w8 ⟨⟨w8',g8⟩,rfl⟩
  have G8:=ze G1 g8
  go_wp2_with fail
  go_ret
  exact⟨by rw [HE.out];rfl,G8⟩
 by_cases hB:nn≤S.who
 ·have HE:Hid (nvS K S=1):=hQ9 (by unfold nvS;rw [if_neg hA,HNN.out,if_pos hB])
  refine zh (zc w1) (by kernel_rfl) (by kernel_rfl) ?_
  repeat (first
   | (go_big_quiet_want;refine zo 46 (.tmp 13) rfl w.heap.size 0 rfl [.int .i64 K.f] _ qf.out huf rfl HCF.out ?_;simp only [Act.put,List.setIfInBounds_toArray,List.set_cons_succ,List.set_cons_zero,Array.toArray_toList];go_big_quiet_on)
   | (go_big_quiet_step ((go_at_call 61;exact callG (CN.out _)))))
  refine wpQuiet_nil ?_
  rintro w8 ⟨⟨w8',g8⟩,rfl⟩
  have G8:=ze G1 g8
  go_wp2_with fail
  go_ret
  exact⟨by rw [HE.out];rfl,G8⟩
 by_cases hC:S.vw<1
 ·have HE:Hid (nvS K S=1):=hQ9 (by unfold nvS;rw [if_neg hA,HNN.out,if_neg hB,if_pos hC])
  refine zh (zc w1) (by kernel_rfl) (by kernel_rfl) ?_
  repeat (first
   | (go_big_quiet_want;refine zo 46 (.tmp 13) rfl w.heap.size 0 rfl [.int .i64 K.f] _ qf.out huf rfl HCF.out ?_;simp only [Act.put,List.setIfInBounds_toArray,List.set_cons_succ,List.set_cons_zero,Array.toArray_toList];go_big_quiet_on)
   | (go_big_quiet_step ((go_at_call 61;exact callG (CN.out _)))))
  refine wpQuiet_nil ?_
  rintro w8 ⟨⟨w8',g8⟩,rfl⟩
  have G8:=ze G1 g8
  go_wp2_with fail
  go_ret
  exact⟨by rw [HE.out];rfl,G8⟩
 by_cases hD:1048576<S.vw
 ·have HE:Hid (nvS K S=1):=hQ9 (by unfold nvS;rw [if_neg hA,HNN.out,if_neg hB,if_neg hC,if_pos hD])
  refine zh (zc w1) (by kernel_rfl) (by kernel_rfl) ?_
  repeat (first
   | (go_big_quiet_want;refine zo 46 (.tmp 13) rfl w.heap.size 0 rfl [.int .i64 K.f] _ qf.out huf rfl HCF.out ?_;simp only [Act.put,List.setIfInBounds_toArray,List.set_cons_succ,List.set_cons_zero,Array.toArray_toList];go_big_quiet_on)
   | (go_big_quiet_step ((go_at_call 61;exact callG (CN.out _)))))
  refine wpQuiet_nil ?_
  rintro w8 ⟨⟨w8',g8⟩,rfl⟩
  have G8:=ze G1 g8
  go_wp2_with fail
  go_ret
  exact⟨by rw [HE.out];rfl,G8⟩
 have HE:Hid (nvS K S=if ckE K.R K.h S.who.toNat S.d S.sw S.lf S.s S.l=0 then (if vqE K S.qv S.qd S.H=0 then (if S.vw≤S.qv then 12 else 0) else vqE K S.qv S.qd S.H) else ckE K.R K.h S.who.toNat S.d S.sw S.lf S.s S.l):=hQ9 (by unfold nvS;rw [if_neg hA,HNN.out,if_neg hB,if_neg hC,if_neg hD])
 refine zh (zc w1) (by kernel_rfl) (by kernel_rfl) ?_
 repeat (first
  | (go_big_quiet_want;refine zo 46 (.tmp 13) rfl w.heap.size 0 rfl [.int .i64 K.f] _ qf.out huf rfl HCF.out ?_;simp only [Act.put,List.setIfInBounds_toArray,List.set_cons_succ,List.set_cons_zero,Array.toArray_toList];go_big_quiet_on)
  | (go_big_quiet_step ((go_at_call 61;exact callG (CN.out _)))))
 refine wpQuiet_nil ?_
 rintro w8 ⟨⟨w8',g8⟩,rfl⟩
 have G8:=ze G1 g8
 have zk8:=zk.grew g8
 have zs8:=zs.grew g8
 have hk1:w8.cell? ⟨w.heap.size,1,none⟩=some (.slice K.RA K.R.length K.Rc):=ag_at zk8 1 rfl
 have hk2:w8.cell? ⟨w.heap.size,2,none⟩=some (.int .i64 K.h):=ag_at zk8 2 rfl
 have hm:=zs8.cell
 have hsz:S.C.size=26:=rfl
 have HA:Hid (0≤S.who):=hQ9 (by omega)
 clear m1 m2 qf hA hB hC hD
 go_wp2_with(with_reducible refine wpList_load_mid rfl 111 (.tmp 3) rfl (w.heap.size+1) 0 rfl S.C.toList _ hm hut rfl HST.out ?_;simp only [Array.toArray_toList])
 rw [xL]
 have GA:=zg (zc w8) (.cells S.C 111)
 have zq:=Ag.new w8 111 S.C
 have G9:=ze G8 GA
 have CC:=hQ9 (zfb K.R K.RA K.Rc K.h S.vw S.qv S.qd S.QA S.H.length S.Qk S.who.toNat S.sw S.lf S.s S.A S.c S.l HSO.out.qd HSO.out.qv (by have h1:=HSO.out.who;have h2:=HA.out;rw [Int.toNat_of_nonneg h2];exact h1) HSO.out.vw HSO.out.sw HSO.out.lf HSO.out.len HSO.out.s HSO.out.l HK.out.len HK.out.b w8.heap.size _ (HS.out.grew G9) (HKA.out.gr G9) (HSA.out.gr G9).p (by have h2:=HA.out;rw [Int.toNat_of_nonneg h2];exact zq.cell) zq.lt)
 obtain⟨w9,hw9⟩:∃ v,w8.alloc (.cells S.C 111)=v:=⟨_,rfl⟩
 have zk9:=zk8.grew GA
 have zs9:=zs8.grew GA
 rw [hw9]at CC G9 zk9 zs9 ⊢
 have HD:Hid (nwD S.vw S.qv S.qd ((S.who.toNat:Nat):Int)=S.d):=hQ9 (by rw [Int.toNat_of_nonneg HA.out];rfl)
 rw [HD.out]at CC
 obtain⟨ce,hce⟩:∃ v,ckE K.R K.h S.who.toNat S.d S.sw S.lf S.s S.l=v:=⟨_,rfl⟩
 rw [hce]at CC HE
 have CQ:Hid (∀ W,Grew w9 W→Calls Tryz.prog 39 #[.agg K.C,.agg (vqC S.qv S.qd S.QA S.H.length S.Qk)] W fun e w'=>e=.returned (.int .i64 (vqE K S.qv S.qd S.H))∧Grew W w'):=hQ9 (fun W g=>zk0 HK.out S.qv S.qd S.QA S.Qk S.H HSO.out.h W (HS.out.grew (ze G9 g)) (HKA.out.gr (ze G9 g)) (HSA.out.gr (ze G9 g)).q)
 obtain⟨qe,hqe⟩:∃ v,vqE K S.qv S.qd S.H=v:=⟨_,rfl⟩
 rw [hqe]at CQ HE
 obtain⟨gq,hgq⟩:∃ g,vqC S.qv S.qd S.QA S.H.length S.Qk=g:=⟨_,rfl⟩
 have HMQ:Hid (∀ y,Grew w9 y→y.rangeAt (w.heap.size+1) 2 gq.toList):=hQ9 (fun y g=>by rw [←hgq];exact NW.qc (zs9.grew g).cell)
 have HMK:Hid (∀ y,Grew w9 y→y.rangeAt w.heap.size 0 K.C.toList):=hQ9 (fun y g=>(zk9.grew g).cell)
 have HMV:Hid (∀ y,Grew w9 y→y.cell? ⟨w.heap.size+1,0,none⟩=some (.int .i64 S.vw)):=hQ9 (fun y g=>ag_at (zs9.grew g) 0 rfl)
 have HMU:Hid (∀ y,Grew w9 y→y.cell? ⟨w.heap.size+1,2,none⟩=some (.int .i64 S.qv)):=hQ9 (fun y g=>ag_at (zs9.grew g) 2 rfl)
 rw [hgq]at CQ SIQ
 clear hw9 hce hqe hgq zk8 zs8 zq GA zk9 zs9 hk1 hk2 hm zk zs
 refine(CC.out).mono ?_
 rintro e wa ⟨rfl,ga⟩
 have GAA:=hQ9 (ze G9 ga)
 by_cases hc0:ce=0
 rotate_left
 ·have e1:(ce != 0)=true:=by simpa using hc0
  rw [if_neg hc0]at HE
  clear hc0
  go_wp2_with fail
  go_ret
  exact⟨by rw [HE.out];rfl,GAA.out⟩
 rw [if_pos hc0]at HE
 subst hc0
 have hmk:=HMK.out wa ga
 have hmq:=HMQ.out wa ga
 go_wp2_with(first
  | (with_reducible refine wpList_load_mid rfl 49 (.tmp 2) rfl w.heap.size 0 rfl K.C.toList _ hmk huk rfl SIK.out ?_;simp only [Array.toArray_toList])
  | (with_reducible refine wpList_load_mid rfl 38 (.tmp 39) rfl (w.heap.size+1) 2 rfl gq.toList _ hmq huq rfl SIQ.out ?_;simp only [Array.toArray_toList]))
 refine(CQ.out wa ga).mono ?_
 rintro e wb ⟨rfl,gb⟩
 have GB:=hQ9 (ze GAA.out gb)
 have hmv:=HMV.out wb (ze ga gb)
 have hmu:=HMU.out wb (ze ga gb)
 clear hmk hmq
 by_cases hq0:qe=0
 rotate_left
 ·have e1:(qe != 0)=true:=by simpa using hq0
  rw [if_neg hq0]at HE
  clear hq0 hmv hmu
  go_wp2_with fail
  go_ret
  exact⟨by rw [HE.out];rfl,GB.out⟩
 rw [if_pos hq0]at HE
 subst hq0
 generalize S.vw=vw at *
 generalize S.qv=qv at *
 by_cases hv0:vw≤qv
 ·have e1:decide (vw≤qv)=true:=decide_eq_true hv0
  rw [if_pos hv0]at HE
  clear hv0
  go_wp2_with fail
  go_ret
  exact⟨by rw [HE.out];rfl,GB.out⟩
 ·have e1:decide (vw≤qv)=false:=decide_eq_false hv0
  rw [if_neg hv0]at HE
  clear hv0
  go_wp2_with fail
  go_ret
  exact⟨by rw [HE.out];rfl,GB.out⟩
theorem who_nw (S:NW) (w:World):Calls Tryz.prog 120 #[.agg S.C] w fun e w'=>e=.returned (.int .i64 S.who)∧Grew w w':=by
 have zs:=Ag.new w 111 S.C
 have G:=zg (zc w) (.cells S.C 111)
 have hc:(w.alloc (.cells S.C 111)).cell? ⟨w.heap.size,1,none⟩=some (.int .i64 S.who):=by simpa using zs.cell 1 _ rfl
 clear zs
 generalize S.C=g at *
 generalize S.who=x at *
 go_enter Tryz.func120,Tryz.ntmps120
 go_wp2_with fail
 go_ret
 exact⟨rfl,G⟩
theorem zd0 (S:NW) (w:World):Calls Tryz.prog 125 #[.agg S.C] w fun e w'=>e=.returned (.int .i64 S.qv)∧Grew w w':=by
 have zs:=Ag.new w 111 S.C
 have G:=zg (zc w) (.cells S.C 111)
 have hc:(w.alloc (.cells S.C 111)).cell? ⟨w.heap.size,2,none⟩=some (.int .i64 S.qv):=by simpa using zs.cell 2 _ rfl
 clear zs
 generalize S.C=g at *
 generalize S.qv=x at *
 go_enter Tryz.func125,Tryz.ntmps125
 go_wp2_with fail
 go_ret
 exact⟨rfl,G⟩
noncomputable def nfB (K:KP) (u:Int) (S:NW):Bool:=decide (S.vw=u)&&decide (nvS K S=0)
theorem mk1_nw {K:KP} {S:NW} (hK:K.ok) (hS:S.ok) (u:Int) (bu bk:Nat) (w:World) (hs:Std w) (hk:K.at w) (ha:S.at w) (hu:w.cell? ⟨bu,0,none⟩=some (.int .i64 u)) (hkc:Ag w bk K.C.toList) :
 Calls Tryz.prog 121 #[.agg S.C,.pointer (some ⟨bu,0,none⟩),.pointer (some ⟨bk,0,none⟩)] w fun e w'=>e=.returned (.bool (nfB K u S))∧Grew w w':=by
 have zs:=Ag.new w 111 S.C
 have G:=zg (zc w) (.cells S.C 111)
 have hc0:(w.alloc (.cells S.C 111)).cell? ⟨w.heap.size,0,none⟩=some (.int .i64 S.vw):=by simpa using zs.cell 0 _ rfl
 have hu':=yb hu G
 have hut:=Tryz.underlying111
 have huk:=Tryz.underlying49
 have SIS:Hid ((Tryz.prog.info? 111).map (·.size)=some S.C.toList.length):=hQ9 zD
 have SIK:Hid ((Tryz.prog.info? 49).map (·.size)=some K.C.toList.length):=hQ9 (show _=some 3 by kernel_rfl)
 have hms:=zs.cell
 have hmk:=(hkc.grew G).cell
 have CV:=hQ9 (fun W h1 h2 h3=>xE hK hS W h1 h2 h3)
 have HS:=hQ9 hs
 have HKA:=hQ9 hk
 have HSA:=hQ9 ha
 have HF:Hid (nfB K u S=(decide (S.vw=u)&&decide (nvS K S=0))):=hQ9 rfl
 clear zs hu hkc hs hk ha hK hS
 generalize S.C=g at *
 generalize K.C=gk at *
 generalize nvS K S=va at *
 by_cases hcu:S.vw=u
 case neg =>
  have e1:(S.vw==u)=false:=by simpa using hcu
  have HE:Hid (nfB K u S=false):=hQ9 (by rw [HF.out];simp [hcu])
  clear hcu
  generalize S.vw=vw at *
  go_enter Tryz.func121,Tryz.ntmps121
  go_wp2_with fail
  go_ret
  exact⟨by rw [HE.out];rfl,G⟩
 have e0:(S.vw==u)=true:=by simpa using hcu
 have HCU:=hQ9 hcu
 clear hcu
 generalize S.vw=vw at *
 go_enter Tryz.func121,Tryz.ntmps121
 go_wp2_with(first
  | (refine zw (by rfl) 49 (.tmp 2) rfl bk 0 rfl gk.toList _ hmk huk rfl SIK.out ?_;simp only [Array.toArray_toList])
  | (refine zw (by rfl) 111 (.tmp 3) rfl w.heap.size 0 rfl g.toList _ hms hut rfl SIS.out ?_;simp only [Array.toArray_toList]))
 refine(CV.out _ (HS.out.grew G) (HKA.out.gr G) (HSA.out.gr G)).mono ?_
 rintro e w1 ⟨rfl,gg⟩
 have G2:=ze G gg
 obtain⟨b,hb⟩:∃ b,(va==0)=b:=⟨_,rfl⟩
 have HE:Hid (nfB K u S=b):=hQ9 (by rw [HF.out,HCU.out];rw [←hb];by_cases h0:va=0<;>simp [h0])
 clear hms hmk hc0 hu' gg HF
 go_wp2_with fail
 go_ret
 exact⟨by rw [HE.out];rfl,G2⟩
open Go.Maps
theorem qi (w:World):(zeroValue 111).run Tryz.prog w=.ok (.agg (#[.int .i64 0,.int .i64 0,.int .i64 0,.int .u64 0,.slice none 0 0,.int .i64 0,.int .i64 0,.int .u64 0,.int .u64 0,.int .u64 0,.int .u64 0,.int .u64 0,.int .u64 0,.int .u64 0,.int .u64 0,.int .u64 0,.int .u64 0,.int .u64 0,.int .u64 0,.int .u64 0,.int .u64 0,.int .u64 0,.int .u64 0,.int .u64 0,.int .u64 0,.slice none 0 0])) w:=by kernel_rfl
theorem zc8 (n:Nat) (w:World):(Instr.makeMap 277 (some (.int .i64 (n:Int)))).run Tryz.prog w=.ok (.map (some w.heap.size)) (w.alloc (.map #[] 0)):=by
 simp [Instr.makeMap,run_underlying Tryz.underlying277,asInt,asIntOf,Result.andThen]
noncomputable def firstN (L:List NW):DataW Value:=firstD NW.who (fun S=>.agg S.C) L
theorem ko (W:World) (cs:Array Value) (h:cs.size=26):∃ W',(W.alloc (.cells (#[.int .i64 0,.int .i64 0,.int .i64 0,.int .u64 0,.slice none 0 0,.int .i64 0,.int .i64 0,.int .u64 0,.int .u64 0,.int .u64 0,.int .u64 0,.int .u64 0,.int .u64 0,.int .u64 0,.int .u64 0,.int .u64 0,.int .u64 0,.int .u64 0,.int .u64 0,.int .u64 0,.int .u64 0,.int .u64 0,.int .u64 0,.int .u64 0,.int .u64 0,.slice none 0 0]) 111)).setCells W.heap.size 0 cs.toList=W'∧(W.alloc (.cells (#[.int .i64 0,.int .i64 0,.int .i64 0,.int .u64 0,.slice none 0 0,.int .i64 0,.int .i64 0,.int .u64 0,.int .u64 0,.int .u64 0,.int .u64 0,.int .u64 0,.int .u64 0,.int .u64 0,.int .u64 0,.int .u64 0,.int .u64 0,.int .u64 0,.int .u64 0,.int .u64 0,.int .u64 0,.int .u64 0,.int .u64 0,.int .u64 0,.int .u64 0,.slice none 0 0]) 111)).there W.heap.size 0 cs.size∧Grew W W'∧Ag W' W.heap.size cs.toList :=
 zW W 111 (#[.int .i64 0,.int .i64 0,.int .i64 0,.int .u64 0,.slice none 0 0,.int .i64 0,.int .i64 0,.int .u64 0,.int .u64 0,.int .u64 0,.int .u64 0,.int .u64 0,.int .u64 0,.int .u64 0,.int .u64 0,.int .u64 0,.int .u64 0,.int .u64 0,.int .u64 0,.int .u64 0,.int .u64 0,.int .u64 0,.int .u64 0,.int .u64 0,.int .u64 0,.slice none 0 0]) cs h
theorem RdC.at26n {w w':World} {A:Option Addr} {L:List NW} (h:RdC w A 26 (nwL L)) (g:Grew w w') (k:Nat) (hk:k<L.length):∃ q,A=some ⟨q,0,none⟩∧q<w'.heap.size∧w'.rangeAt q (k*26) L[k].C.toList:=by
 obtain⟨q,e,hq,hr⟩:=(h.gr g) k (by rw [zah];exact hk)
 exact⟨q,e,hq,by simpa [nwL]using hr⟩
theorem by_nw (A:Option Addr) (c:Nat) (L:List NW) (hl:L.length≤1048576) (hw:∀ S∈L,in64 S.who) (w:World) (hr:RdC w A 26 (nwL L)) :
 Calls Tryz.prog 170 #[.slice A L.length c,.func (.func 120) #[] #[]] w fun e w'=>e=.returned (.map (some w.heap.size))∧w'.ownsMap Tryz.prog 3 heldR w.heap.size L.length (firstN L)∧Grew w w':=by
 have hmm:=fun w=>zc8 L.length w
 have hlc:(0:Int)≤(L.length:Int):=by omega
 have hut:=Tryz.underlying111
 go_enter Tryz.func170,Tryz.ntmps170
 go_wp2_with fail
 go_loopw [16] (fun iv wr=>∃ i:Nat,i≤L.length∧iv=.int .i64 i∧wr.ownsMap Tryz.prog 3 heldR w.heap.size i (firstN (L.take i))∧Grew w wr) (fun i _=>L.length-(Go.RowKit.intOf i).toNat)
 case atStart=>exact⟨0,Nat.zero_le _,rfl,World.ownsMap_made _ _ _ _,(Below.refl _ _).alloc (Nat.le_refl _) _⟩
 case round =>
  obtain⟨i,hil,rfl,hown,hg⟩:=hrel
  by_cases hlt:i<L.length
  ·obtain⟨q,hA,hq,hm⟩:=RdC.at26n hr hg i hlt
   subst hA
   have hts:L.take (i+1)=L.take i++[L[i]]:=by rw [List.take_succ_eq_append_getElem hlt]
   have HTS:=hQ9 hts
   have HW:=hw L[i] (List.getElem_mem hlt)
   clear hts
   have hi0:(0:Int)≤(i:Int):=by omega
   have hi1:(i:Int)<(L.length:Int):=by omega
   have e4:IntKind.i64.wrap ((i:Int)+1)=(i:Int)+1:=IntWalk.i64_in _ (by omega)
   generalize L[i]=S at *
   have CW:=hQ9 (fun W=>who_nw S W)
   have SIS:Hid ((Tryz.prog.info? 111).map (·.size)=some S.C.toList.length):=hQ9 zD
   have SIZ:Hid ((Tryz.prog.info? 111).map (·.size)=some S.C.size):=hQ9 zD
   have HON:=hQ9 S.one
   obtain⟨w2,hw2,ht2,g2,z2⟩:=ko wr S.C rfl
   have HW2:=hQ9 hw2
   have HT2:=hQ9 ht2
   have hm2:=z2.cell
   clear hw2 ht2
   obtain⟨k,hk⟩:∃ k,S.who=k:=⟨_,rfl⟩
   have hkr:-9223372036854775808≤k∧k≤9223372036854775807:=by rw [←hk];exact HW
   have hkey:keyOf Tryz.prog 3 (.int .i64 k)=some (.int .i64 k):=keyOf_int_mk Tryz.underlying3 (WalkArith.wf_i64 hkr)
   have HK:=hQ9 hk
   rw [hk]at CW
   clear hk
   go_wp2_with(first
    | (with_reducible refine wpList_load_mid rfl 111 (.tmp 18) rfl q (i*26) rfl S.C.toList _ hm hut rfl SIS.out ?_;simp only [Array.toArray_toList])
    | (with_reducible refine wpList_store_mid rfl 111 (.tmp 7) (.tmp 19) rfl wr.heap.size 0 S.C rfl rfl HT2.out SIZ.out HON.out ?_;rw [HW2.out])
    | (with_reducible refine wpList_load_mid rfl 111 (.tmp 7) rfl wr.heap.size 0 rfl S.C.toList _ hm2 hut rfl SIS.out ?_;simp only [Array.toArray_toList]))
   refine(CW.out w2).mono ?_
   rintro e w3 ⟨rfl,gg⟩
   have hown3:=yk hown (ze g2 gg)
   have G3:=ze hg (ze g2 gg)
   have z3:=z2.grew gg
   obtain⟨bb,hbb⟩:∃ bb,Maps.has (firstN (L.take i)) (.int .i64 k)=bb:=⟨_,rfl⟩
   clear hown hm hm2 z2 g2 gg hg HT2 HW2 CW
   cases bb
   ·have hu:(firstN (L.take i)).atKey (.int .i64 k) (.held (.agg (#[.int .i64 0,.int .i64 0,.int .i64 0,.int .u64 0,.slice none 0 0,.int .i64 0,.int .i64 0,.int .u64 0,.int .u64 0,.int .u64 0,.int .u64 0,.int .u64 0,.int .u64 0,.int .u64 0,.int .u64 0,.int .u64 0,.int .u64 0,.int .u64 0,.int .u64 0,.int .u64 0,.int .u64 0,.int .u64 0,.int .u64 0,.int .u64 0,.int .u64 0,.slice none 0 0]:Array Value)))=.held (.agg (#[.int .i64 0,.int .i64 0,.int .i64 0,.int .u64 0,.slice none 0 0,.int .i64 0,.int .i64 0,.int .u64 0,.int .u64 0,.int .u64 0,.int .u64 0,.int .u64 0,.int .u64 0,.int .u64 0,.int .u64 0,.int .u64 0,.int .u64 0,.int .u64 0,.int .u64 0,.int .u64 0,.int .u64 0,.int .u64 0,.int .u64 0,.int .u64 0,.int .u64 0,.slice none 0 0]:Array Value)):=Maps.atKey_of_not_has hbb _
    have HO4:Hid ((#[.int .i64 0,.int .i64 0,.int .i64 0,.int .u64 0,.slice none 0 0,.int .i64 0,.int .i64 0,.int .u64 0,.int .u64 0,.int .u64 0,.int .u64 0,.int .u64 0,.int .u64 0,.int .u64 0,.int .u64 0,.int .u64 0,.int .u64 0,.int .u64 0,.int .u64 0,.int .u64 0,.int .u64 0,.int .u64 0,.int .u64 0,.int .u64 0,.int .u64 0,.slice none 0 0]:Array Value).all (·.oneCell')=true):=hQ9 (by simp [Value.oneCell'])
    obtain⟨w4,hw4,ht4,g4,z4⟩:=ko w3 (#[.int .i64 0,.int .i64 0,.int .i64 0,.int .u64 0,.slice none 0 0,.int .i64 0,.int .i64 0,.int .u64 0,.int .u64 0,.int .u64 0,.int .u64 0,.int .u64 0,.int .u64 0,.int .u64 0,.int .u64 0,.int .u64 0,.int .u64 0,.int .u64 0,.int .u64 0,.int .u64 0,.int .u64 0,.int .u64 0,.int .u64 0,.int .u64 0,.int .u64 0,.slice none 0 0]:Array Value) rfl
    have HW4:=hQ9 hw4
    have HT4:=hQ9 ht4
    have SI4:Hid ((Tryz.prog.info? 111).map (·.size)=some ((#[.int .i64 0,.int .i64 0,.int .i64 0,.int .u64 0,.slice none 0 0,.int .i64 0,.int .i64 0,.int .u64 0,.int .u64 0,.int .u64 0,.int .u64 0,.int .u64 0,.int .u64 0,.int .u64 0,.int .u64 0,.int .u64 0,.int .u64 0,.int .u64 0,.int .u64 0,.int .u64 0,.int .u64 0,.int .u64 0,.int .u64 0,.int .u64 0,.int .u64 0,.slice none 0 0]:Array Value)).size):=hQ9 zD
    have hown4:=yk hown3 g4
    have hm4:=(z3.grew g4).cell
    have G4:=ze G3 g4
    clear hw4 ht4 g4 z4 z3 G3
    go_wp2_with(first
     | (at_lookup;refine yn _ rfl _ _ 277 rfl 3 111 yJ Tryz.underlying277 (qi _) w.heap.size i _ rfl hown3 _ _ rfl hkey (.agg (#[.int .i64 0,.int .i64 0,.int .i64 0,.int .u64 0,.slice none 0 0,.int .i64 0,.int .i64 0,.int .u64 0,.int .u64 0,.int .u64 0,.int .u64 0,.int .u64 0,.int .u64 0,.int .u64 0,.int .u64 0,.int .u64 0,.int .u64 0,.int .u64 0,.int .u64 0,.int .u64 0,.int .u64 0,.int .u64 0,.int .u64 0,.int .u64 0,.int .u64 0,.slice none 0 0]:Array Value)) hu _ hbb ?_)
     | (with_reducible refine wpList_store_mid rfl 111 (.tmp 9) (.tmp 27) rfl w3.heap.size 0 (#[.int .i64 0,.int .i64 0,.int .i64 0,.int .u64 0,.slice none 0 0,.int .i64 0,.int .i64 0,.int .u64 0,.int .u64 0,.int .u64 0,.int .u64 0,.int .u64 0,.int .u64 0,.int .u64 0,.int .u64 0,.int .u64 0,.int .u64 0,.int .u64 0,.int .u64 0,.int .u64 0,.int .u64 0,.int .u64 0,.int .u64 0,.int .u64 0,.int .u64 0,.slice none 0 0]:Array Value) rfl rfl HT4.out SI4.out HO4.out ?_;rw [HW4.out])
     | (with_reducible refine wpList_load_mid rfl 111 (.tmp 7) rfl wr.heap.size 0 rfl S.C.toList _ hm4 hut rfl SIS.out ?_;simp only [Array.toArray_toList])
     | (at_mapUpdate;refine wpList_mapUpdate_own _ rfl _ _ _ 277 rfl 3 111 yJ Tryz.underlying277 heldR w.heap.size i _ rfl hown4 (by unfold maxLen;omega) _ _ _ rfl rfl hkey (.held (.agg S.C)) [] rfl ?_;intro w5 hown5 hgrow5))
    go_roundw
    case rel=>exact⟨i+1,by omega,by go_num,by
     rw [HTS.out]
     have hf:firstN (L.take i++[S])=(firstN (L.take i)).put (.int .i64 k) (.held (.agg S.C)):=by
      have:=xc NW.who (fun S=>Value.agg S.C) (L:=L.take i) (x:=S) (by rw [HK.out];exact hbb)
      rw [HK.out]at this
      exact this
     rw [hf]
     exact hown5,G4.grown hgrow5 G4.size (fun j hj=>by cases hj;exact Nat.le_refl _)⟩
    case measure=>simp [Go.RowKit.intOf];omega
   ·obtain⟨x,hfx,hx,-⟩:=jK NW.who (L.take i) (((yc NW.who (fun S=>Value.agg S.C) (L.take i)).2.1 k).1 hbb)
    have hu:(firstN (L.take i)).atKey (.int .i64 k) (.held (.agg (#[.int .i64 0,.int .i64 0,.int .i64 0,.int .u64 0,.slice none 0 0,.int .i64 0,.int .i64 0,.int .u64 0,.int .u64 0,.int .u64 0,.int .u64 0,.int .u64 0,.int .u64 0,.int .u64 0,.int .u64 0,.int .u64 0,.int .u64 0,.int .u64 0,.int .u64 0,.int .u64 0,.int .u64 0,.int .u64 0,.int .u64 0,.int .u64 0,.int .u64 0,.slice none 0 0]:Array Value)))=.held (.agg x.C):=(yc NW.who (fun S=>Value.agg S.C) (L.take i)).2.2 k x _ hfx
    have HO4:=hQ9 x.one
    clear hfx hx
    obtain⟨w4,hw4,ht4,g4,z4⟩:=ko w3 x.C rfl
    have HW4:=hQ9 hw4
    have HT4:=hQ9 ht4
    have SI4:Hid ((Tryz.prog.info? 111).map (·.size)=some (x.C).size):=hQ9 zD
    have hown4:=yk hown3 g4
    have hm4:=(z3.grew g4).cell
    have G4:=ze G3 g4
    clear hw4 ht4 g4 z4 z3 G3
    go_wp2_with(first
     | (at_lookup;refine yn _ rfl _ _ 277 rfl 3 111 yJ Tryz.underlying277 (qi _) w.heap.size i _ rfl hown3 _ _ rfl hkey (.agg x.C) hu _ hbb ?_)
     | (with_reducible refine wpList_store_mid rfl 111 (.tmp 9) (.tmp 27) rfl w3.heap.size 0 x.C rfl rfl HT4.out SI4.out HO4.out ?_;rw [HW4.out]))
    go_roundw
    case rel=>exact⟨i+1,by omega,by go_num,by
     rw [HTS.out]
     have hf:firstN (L.take i++[S])=firstN (L.take i):=yT NW.who (fun S=>Value.agg S.C) (L:=L.take i) (x:=S) (by rw [HK.out];exact hbb)
     rw [hf]
     exact hown4.mono (by omega),G4⟩
    case measure=>simp [Go.RowKit.intOf];omega
  ·obtain rfl:i=L.length:=by omega
   rw [List.take_length]at hown
   go_wp2_with fail
   go_ret
   exact⟨rfl,hown,hg⟩
theorem zch:(Tryz.prog.info? 111).map (fun i=>(i.zero,i.size,i.bytes))=some (some (.agg (#[.int .i64 0,.int .i64 0,.int .i64 0,.int .u64 0,.slice none 0 0,.int .i64 0,.int .i64 0,.int .u64 0,.int .u64 0,.int .u64 0,.int .u64 0,.int .u64 0,.int .u64 0,.int .u64 0,.int .u64 0,.int .u64 0,.int .u64 0,.int .u64 0,.int .u64 0,.int .u64 0,.int .u64 0,.int .u64 0,.int .u64 0,.int .u64 0,.int .u64 0,.slice none 0 0]:Array Value)),26,240):=by kernel_rfl
theorem qj (L:List NW) (S:NW):(nwL (L++[S])).flatten=(nwL L).flatten++S.C.toList:=by rw [zfc,List.flatten_append];simp [nwL]
theorem zai {w:World} {base n:Nat} {e:TypeId} {v:Value} {L:List NW} (h:w.ownsRow base e 26 v n (nwL L).flatten) (hn:L.length=n) :
 ∃ A c,v=.slice A n c∧RdC w A 26 (nwL L)∧n≤c∧c≤maxLen∧∀ ad,A=some ad→base≤ad.block∧ad.block<w.heap.size:=zab h (nwL_z L) (by decide) (by rw [zah];exact hn)
theorem zd1 {K:KP} (hK:K.ok) (A:Option Addr) (c:Nat) (L:List NW) (hl:L.length≤100000) (u:Int) (bu bk:Nat) (w:World) (hs:Std w) (hk:K.at w) (hL:Nws w A L) (hu:w.cell? ⟨bu,0,none⟩=some (.int .i64 u)) (hkc:Ag w bk K.C.toList) :
 Calls Tryz.prog 119 #[.slice A L.length c,.func (.func 120) #[] #[],.func (.func 121) #[] #[.pointer (some ⟨bu,0,none⟩),.pointer (some ⟨bk,0,none⟩)]] w fun e w' =>
  ∃ B c',e=.returned (.slice B (eachL NW.who (L.filter (nfB K u))).length c')∧Nws w' B (eachL NW.who (L.filter (nfB K u)))∧(eachL NW.who (L.filter (nfB K u))).length≤c'∧c'≤maxLen∧Grew w w':=by
 obtain⟨i0,hi,hz0,hz1,hz2⟩:=info_parts zch
 have hut:=Tryz.underlying111
 obtain⟨p,hp⟩:∃ p,nfB K u=p:=⟨_,rfl⟩
 have CM:=hQ9 (fun S (hS:S∈L) W (g:Grew w W)=>mk1_nw hK (hL.ok S hS) u bu bk W (hs.grew g) (hk.gr g) ((hL.at_ S hS).gr g) (yb hu g) (hkc.grew g))
 rw [hp]at CM ⊢
 have HL:=hQ9 hL
 obtain⟨F,hF⟩:∃ F,L.filter p=F:=⟨_,rfl⟩
 rw [hF]
 have HFF:=hQ9 hF
 have hFL:∀ S∈F,S∈L:=fun S hS=>by rw [←hF]at hS;exact(List.mem_filter.1 hS).1
 have hFl:F.length≤100000:=by rw [←hF];exact Nat.le_trans (List.length_filter_le _ _) hl
 clear hF
 have HFL:=hQ9 hFL
 have HFW:Hid (∀ S∈F,in64 S.who):=hQ9 (fun S hS=>(HL.out.ok S (hFL S hS)).who)
 clear hFL
 obtain⟨ks,hks⟩:∃ ks,eachK NW.who F=ks:=⟨_,rfl⟩
 obtain⟨E,hE⟩:∃ E,eachL NW.who F=E:=⟨_,rfl⟩
 have hEl:E.length=ks.length:=by rw [←hE,←hks];exact yG _ _
 have HKF:Hid (ks.length≤F.length):=hQ9 (by rw [←hks];exact xN _ _)
 have HSZ:Hid (Maps.size (firstN F)=ks.length):=hQ9 (by rw [←hks];exact xX _ _ _)
 have HGET:Hid (∀ j (hj:j<ks.length) (hj':j<E.length),F.find? (fun x=>decide (NW.who x=ks[j]))=some E[j]):=hQ9 (by subst hE;subst hks;exact fun j hj hj'=>kL NW.who F j hj hj')
 have HK64:Hid (∀ k∈ks,in64 k):=hQ9 (fun k hk=>by
  rw [←hks,xR]at hk
  obtain⟨x,hx,rfl⟩:=hk
  exact HFW.out x hx)
 have HEM:Hid (∀ S∈E,S∈F):=hQ9 (by rw [←hE];exact kK _ _)
 have HOF:Hid (∀ {ss:List Int},ss.Perm (intKeys (firstN F))→ss.mergeSort leI=ks):=hQ9 (by rw [←hks];exact fun h=>zbi _ _ _ h)
 rw [hE]
 have HEL:=hQ9 hEl
 clear hE hks hEl
 have hr:=hL.rd
 clear hk hu hkc hs hL hp
 go_enter Tryz.func119,Tryz.ntmps119
 go_wp2_with fail
 go_loopw [7,16] (fun fv iv wr=>∃ i:Nat,i≤L.length∧iv=.int .i64 i∧wr.ownsRow w.heap.size 111 26 fv ((L.take i).filter p).length (nwL ((L.take i).filter p)).flatten∧Grew w wr) (fun _ i _=>L.length-(Go.RowKit.intOf i).toNat)
 case atStart=>exact⟨0,Nat.zero_le _,rfl,World.ownsRow_nil _ _ _ _,Below.refl _ _⟩
 case round =>
  obtain⟨i,hil,rfl,hrow,hg⟩:=hrel
  by_cases hlt:i<L.length
  ·obtain⟨q,hA,hq,hm⟩:=RdC.at26n hr hg i hlt
   subst hA
   have hts:L.take (i+1)=L.take i++[L[i]]:=by rw [List.take_succ_eq_append_getElem hlt]
   have HTS:=hQ9 hts
   have CMi:=fun W g=>CM.out L[i] (List.getElem_mem hlt) W g
   clear hts
   have hi0:(0:Int)≤(i:Int):=by omega
   have hi1:(i:Int)<(L.length:Int):=by omega
   have e4:IntKind.i64.wrap ((i:Int)+1)=(i:Int)+1:=IntWalk.i64_in _ (by omega)
   generalize L[i]=S at *
   have CMI:=hQ9 CMi
   have SIS:Hid ((Tryz.prog.info? 111).map (·.size)=some S.C.toList.length):=hQ9 zD
   have SIZ:Hid ((Tryz.prog.info? 111).map (·.size)=some S.C.size):=hQ9 zD
   have HON:=hQ9 S.one
   obtain⟨w2,hw2,ht2,g2,z2⟩:=ko wr S.C rfl
   have HW2:=hQ9 hw2
   have HT2:=hQ9 ht2
   have hm2:=z2.cell
   have hfl:((L.take i).filter p).length≤i:=by have:=List.length_filter_le p (L.take i);rw [List.length_take]at this;omega
   clear hw2 ht2 CMi
   obtain⟨F,hF⟩:∃ F,(L.take i).filter p=F:=⟨_,rfl⟩
   rw [hF]at hrow hfl
   have HF:=hQ9 hF
   clear hF
   go_wp2_with(first
    | (with_reducible refine wpList_load_mid rfl 111 (.tmp 18) rfl q (i*26) rfl S.C.toList _ hm hut rfl SIS.out ?_;simp only [Array.toArray_toList])
    | (with_reducible refine wpList_store_mid rfl 111 (.tmp 9) (.tmp 19) rfl wr.heap.size 0 S.C rfl rfl HT2.out SIZ.out HON.out ?_;rw [HW2.out])
    | (with_reducible refine wpList_load_mid rfl 111 (.tmp 9) rfl wr.heap.size 0 rfl S.C.toList _ hm2 hut rfl SIS.out ?_;simp only [Array.toArray_toList]))
   refine(CMI.out w2 (ze hg g2)).mono ?_
   rintro e w3 ⟨rfl,gg⟩
   have G3:=ze hg (ze g2 gg)
   have hrow3:=zx (S:=fun _=>False) hrow (zj (ze g2 gg)) (fun g _ h=>h)
   have hm3:=(z2.grew gg).cell
   have hsz3:=G3.size
   have hsz:S.C.size=26:=rfl
   obtain⟨bb,hbb⟩:∃ bb,p S=bb:=⟨_,rfl⟩
   rw [hbb]
   have HBB:=hQ9 hbb
   clear hrow hm hm2 z2 g2 gg hg HT2 HW2 CMI hbb
   cases bb
   ·go_wp2_with fail
    go_roundw
    case rel=>exact⟨i+1,by omega,by go_num,by rw [HTS.out,List.filter_append,HF.out,List.filter_cons,HBB.out];simpa using hrow3,G3⟩
    case measure=>simp [Go.RowKit.intOf];omega
   ·go_wp2_with(first
     | (with_reducible refine wpList_load_mid rfl 111 (.tmp 9) rfl wr.heap.size 0 rfl S.C.toList _ hm3 hut rfl SIS.out ?_;simp only [Array.toArray_toList])
     | (at_builtin;rw [xL];refine wpList_append_own _ rfl (.tmp 23) (.tmp 25) 120 rfl w.heap.size 111 i0 (.agg (#[.int .i64 0,.int .i64 0,.int .i64 0,.int .u64 0,.slice none 0 0,.int .i64 0,.int .i64 0,.int .u64 0,.int .u64 0,.int .u64 0,.int .u64 0,.int .u64 0,.int .u64 0,.int .u64 0,.int .u64 0,.int .u64 0,.int .u64 0,.int .u64 0,.int .u64 0,.int .u64 0,.int .u64 0,.int .u64 0,.int .u64 0,.int .u64 0,.int .u64 0,.slice none 0 0]:Array Value)) 26 240 Tryz.underlying120 hi hz0 hz1 hz2 rfl (by decide) _ _ _ rfl (hrow3.alloc _) ⟨w3.heap.size,0,none⟩ 1 1 S.C.toList rfl rfl (fun j u hj=>yd w3 S.C 111 j u hj) S.one' (by unfold maxLen;omega) (by omega) (by simp;omega) ?_;intro v' w5 hown5 hgrow5 _))
    go_roundw
    case rel=>exact⟨i+1,by omega,by go_num,by
     rw [HTS.out,List.filter_append,HF.out,List.filter_cons,HBB.out]
     simp only [if_true,List.filter_nil]
     rw [qj,List.length_append]
     exact hown5,(zg G3 _).grown hgrow5 (by simp;omega) (zA hrow3)⟩
    case measure=>simp [Go.RowKit.intOf];omega
  ·obtain rfl:i=L.length:=by omega
   rw [List.take_length]at hrow
   rw [HFF.out]at hrow
   clear hil
   obtain⟨FA,fc,rfl,hFr,hfc,hfm,hfb⟩:=zai hrow rfl
   have CB:=hQ9 (by_nw FA fc F (by omega) HFW.out wr hFr)
   clear hrow hFr hfb
   go_wp2_with fail
   refine(CB.out).mono ?_
   rintro e w1 ⟨rfl,hown1,g1⟩
   have G1:=ze hg g1
   have hwr:wr.heap.size<w1.heap.size:=hown1.lt
   have hszG:=G1.size
   have hkF:=HKF.out
   have hsize:=HSZ.out
   clear hg g1 CB
   obtain⟨w2,hmk,hown2,hgrow2⟩:=run_make_own (P:=Tryz.prog) w1 w1.heap.size 120 111 i0 (.agg (#[.int .i64 0,.int .i64 0,.int .i64 0,.int .u64 0,.slice none 0 0,.int .i64 0,.int .i64 0,.int .u64 0,.int .u64 0,.int .u64 0,.int .u64 0,.int .u64 0,.int .u64 0,.int .u64 0,.int .u64 0,.int .u64 0,.int .u64 0,.int .u64 0,.int .u64 0,.int .u64 0,.int .u64 0,.int .u64 0,.int .u64 0,.int .u64 0,.int .u64 0,.slice none 0 0]:Array Value)) 26 Tryz.underlying120 hi hz0 hz1 .i64 .i64 ks.length (by rw [hz2];omega) (by unfold maxLen;omega) (Nat.le_refl _)
   have g2:Grew w1 w2:=(Below.refl _ w1).grown hgrow2 (Nat.le_refl _) (fun j hj=>by cases hj)
   clear hgrow2
   have hownM2:=yk hown1 g2
   go_wp2_with(with_reducible refine wpList_len_own _ rfl (.tmp 31) 277 rfl 3 111 Tryz.underlying277 heldR wr.heap.size F.length _ rfl hown1 ?_;rw [hsize])
   clear hmk
   refine(jV (some wr.heap.size) w2).mono ?_
   rintro e w3 ⟨rfl,hw3⟩
   have CSK:=kQ wr.heap.size F.length (firstN F) heldR w2 hownM2 (by rw [hsize];unfold maxLen;omega) (by rw [hsize];omega)
   rw [←hw3]at CSK
   have g3:Grew w2 w3:=by rw [hw3];exact zg (zc _) _
   have G13:=ze g2 g3
   have hw13:w1.heap.size<w3.heap.size:=by have:=g2.size;rw [hw3,zl];omega
   have hown3:=zx (S:=fun _=>False) hown2 (zj g3) (fun g _ h=>h)
   have HSK:=hQ9 CSK
   clear CSK hw3 hownM2 hown2 g2 g3
   go_wp2_with fail
   refine(HSK.out).mono ?_
   rintro e w4 ⟨v,ss,rfl,hperm,hrow4,hnil,g4⟩
   have hms:ss.mergeSort leI=ks:=HOF.out hperm
   have hssl:ss.length=ks.length:=by rw [←hms,List.length_mergeSort]
   have hrow4':w4.ownsRow w3.heap.size 3 1 v ks.length (i64L ks):=by
    rw [←hssl,←hms];exact hrow4
   obtain⟨KA,kc,rfl,hKr,hkc,hKb⟩:=xK hrow4'
   have g34:Grew w3 w4:=g4
   have HKB:Hid (∀ ad,KA=some ad→w3.heap.size≤ad.block∧ad.block<w4.heap.size):=hQ9 hKb
   have G14:=ze G13 g34
   have hown4:=zx (S:=fun _=>False) hown3 (zj g34) (fun g _ h=>h)
   have hw34:=g34.size
   clear HSK hrow4 hrow4' hnil hperm hms hssl hown3 g4 g34 G13 HOF hsize hKb
   have hEl0:E.length=ks.length:=HEL.out
   go_wp2_with fail
   generalize wr.heap.size=bM at *
   go_loopw [11,38] (fun rv iv wq=>∃ i:Nat,i≤ks.length∧iv=.int .i64 i∧wq.ownsRow w1.heap.size 111 26 rv i (nwL (E.take i)).flatten∧Grew w1 wq∧w4.heap.size≤wq.heap.size∧Rd wq wq.heap.size KA (i64L ks)∧(∀ g,rv.ownBlock=some g→g<w3.heap.size∨w4.heap.size≤g)) (fun _ i _=>ks.length-(Go.RowKit.intOf i).toNat)
   case atStart=>exact⟨0,Nat.zero_le _,rfl,by simpa [nwL]using hown4,G14,Nat.le_refl _,hKr,fun g h=>by simp [Value.ownBlock]at h;omega⟩
   case round =>
    obtain⟨i,hil,rfl,hrow,hg,hsz4,hKR,hob⟩:=hrel
    by_cases hlt:i<ks.length
    ·obtain⟨ad,hKA,hbl,hc0⟩:=zfz (l:=ks) hKR i hlt
     subst hKA
     have hiE:i<E.length:=by omega
     have hts:E.take (i+1)=E.take i++[E[i]]:=by rw [List.take_succ_eq_append_getElem hiE]
     have HTS:=hQ9 hts
     have hfx:=HGET.out i hlt hiE
     have hk64:=HK64.out _ (List.getElem_mem hlt)
     have HI0:Hid ((0:Int)≤(i:Int)∧(i:Int)<(ks.length:Int)):=hQ9 ⟨by omega,by omega⟩
     have hi0:=HI0.out.1
     have hi1:=HI0.out.2
     have e4:IntKind.i64.wrap ((i:Int)+1)=(i:Int)+1:=IntWalk.i64_in _ (by omega)
     generalize E[i]=S at *
     generalize ks[i]=k at *
     have hkey:keyOf Tryz.prog 3 (.int .i64 k)=some (.int .i64 k):=keyOf_int_mk Tryz.underlying3 (WalkArith.wf_i64 hk64)
     have hu:(firstN F).atKey (.int .i64 k) (.held (.agg (#[.int .i64 0,.int .i64 0,.int .i64 0,.int .u64 0,.slice none 0 0,.int .i64 0,.int .i64 0,.int .u64 0,.int .u64 0,.int .u64 0,.int .u64 0,.int .u64 0,.int .u64 0,.int .u64 0,.int .u64 0,.int .u64 0,.int .u64 0,.int .u64 0,.int .u64 0,.int .u64 0,.int .u64 0,.int .u64 0,.int .u64 0,.int .u64 0,.int .u64 0,.slice none 0 0]:Array Value)))=.held (.agg S.C):=(yc NW.who (fun S=>Value.agg S.C) F).2.2 k S _ hfx
     have hownM:=yk hown1 hg
     have hsz:S.C.size=26:=rfl
     have hszq:=hg.size
     clear hts hfx hk64
     go_wp2_with(first
      | (at_lookup;refine xz _ rfl _ _ 277 rfl 3 111 yJ Tryz.underlying277 (qi _) bM F.length _ rfl hownM _ _ rfl hkey (.agg S.C) hu ?_)
      | (at_builtin;rw [xL];refine zK _ rfl (.tmp 42) (.tmp 46) 120 rfl w1.heap.size 111 i0 (.agg (#[.int .i64 0,.int .i64 0,.int .i64 0,.int .u64 0,.slice none 0 0,.int .i64 0,.int .i64 0,.int .u64 0,.int .u64 0,.int .u64 0,.int .u64 0,.int .u64 0,.int .u64 0,.int .u64 0,.int .u64 0,.int .u64 0,.int .u64 0,.int .u64 0,.int .u64 0,.int .u64 0,.int .u64 0,.int .u64 0,.int .u64 0,.int .u64 0,.int .u64 0,.slice none 0 0]:Array Value)) 26 240 Tryz.underlying120 hi hz0 hz1 hz2 rfl (by decide) _ _ _ rfl (hrow.alloc _) ⟨wr.heap.size,0,none⟩ 1 1 S.C.toList rfl rfl (fun j u hj=>yd wr S.C 111 j u hj) S.one' (by unfold maxLen;omega) (by omega) (by simp;omega) ?_;intro v' w5 hown5 hgrow5 hob5))
     go_roundw
     case rel=>exact⟨i+1,by omega,by go_num,by
      rw [HTS.out,qj]
      exact hown5,(zg hg _).grown hgrow5 (by simp;omega) (zA hrow),(by have:=hgrow5.size;simp at this;omega),
      kD (hKR.gr (zg (zc wr) _)) hgrow5 (fun ad e h=>by
       have h1:=hob _ h
       have h2:=HKB.out ad e
       omega),(fun g h=>by
       rcases hob5 with h3 | h3
       ·exact hob g (h3▸h)
       ·rw [h3]at h;injection h with h;simp at h;omega)⟩
     case measure=>simp [Go.RowKit.intOf];omega
    ·obtain rfl:i=ks.length:=by omega
     rw [←hEl0,List.take_length]at hrow
     obtain⟨B,c',rfl,hB,hc1,hc2,hbB⟩:=zai hrow rfl
     have GG:=ze G1 hg
     go_wp2_with fail
     go_ret
     exact⟨B,c',by rw [hEl0];rfl,⟨hB,fun S hS=>HL.out.ok S (HFL.out S (HEM.out S hS)),fun S hS=>(HL.out.at_ S (HFL.out S (HEM.out S hS))).gr GG⟩,hc1,hc2,GG⟩
end Go.Proofs.YtidjnnnigcmdpaaGreatDoor
namespace Go.Proofs.YtidjnnnigcmdpaaGreatDoor
open Go.RowKit
theorem jI (vw qv:Int) (qd:Nat) (QA:Option Addr) (Qn Qk:Nat) (who sw lf:Int) (s:Nat→Nat) (A:Option Addr) (c:Nat) (l:List Nat) (hc:qd<18446744073709551616) (hqv:in64 qv) (hw:in64 who) (hv:in64 vw) (w:World) :
 Calls Tryz.prog 55 #[.agg (nwC vw qv qd QA Qn Qk who sw lf s (.slice A l.length c))] w fun e w'=>e=.returned (.string ⟨(nwW vw qv qd who).toArray⟩)∧Grew w w':=by
 obtain⟨i0,hi,hz0,hz1,hz2⟩:=info_parts (show(Tryz.prog.info? 9).map (fun i=>(i.zero,i.size,i.bytes))=some (some (.string ⟨#[]⟩),1,16) by kernel_rfl)
 have z0:=Ag.new w 109 (nwC vw qv qd QA Qn Qk who sw lf s (.slice A l.length c))
 have g0:=zg (zc w) (.cells (nwC vw qv qd QA Qn Qk who sw lf s (.slice A l.length c)) 109)
 have hlen:=js vw qv qd who hv hqv hw
 have C1:=hQ9 (fun W=>jk vw hv.1 hv.2 W)
 have C2:=hQ9 (fun W=>jk who hw.1 hw.2 W)
 have C3:=hQ9 (fun W=>jk qv hqv.1 hqv.2 W)
 have c4:=fun W=>zbp (qd:Nat) ⟨by omega,by omega⟩ W
 simp only [Int.toNat_natCast]at c4
 have C4:=hQ9 c4
 clear c4
 have CJ:Hid (∀(A4:Option Addr) (c:Nat) (W:World),Rd W W.heap.size A4 (strL [⟨#[118,105,101,119]⟩,⟨(Lib.itoa vw).toArray⟩,⟨(Lib.itoa who).toArray⟩,⟨(Lib.itoa qv).toArray⟩,⟨(hexL qd).toArray⟩])→Calls Tryz.prog 90 #[.slice A4 5 c] W fun e w'=>e=.returned (.string ⟨(nwW vw qv qd who).toArray⟩)∧Grew W w'):=hQ9 (fun A4 c W hR=>by
  have hbys:bys [⟨#[118,105,101,119]⟩,⟨(Lib.itoa vw).toArray⟩,⟨(Lib.itoa who).toArray⟩,⟨(Lib.itoa qv).toArray⟩,⟨(hexL qd).toArray⟩]=[tagView,Lib.itoa vw,Lib.itoa who,Lib.itoa qv,hexL qd]:=by
   simp [bys,hexB,tagView]
  have:=zbw A4 c [⟨#[118,105,101,119]⟩,⟨(Lib.itoa vw).toArray⟩,⟨(Lib.itoa who).toArray⟩,⟨(Lib.itoa qv).toArray⟩,⟨(hexL qd).toArray⟩] (by simp) (by rw [hbys];exact Nat.le_trans hlen (by decide)) W hR
  rw [hbys]at this
  exact this)
 clear hlen hc hqv hw hv
 generalize (⟨(nwW vw qv qd who).toArray⟩:ByteArray)=tj at *
 generalize (⟨(Lib.itoa vw).toArray⟩:ByteArray)=t1 at *
 generalize (⟨(Lib.itoa who).toArray⟩:ByteArray)=t2 at *
 generalize (⟨(Lib.itoa qv).toArray⟩:ByteArray)=t3 at *
 generalize (⟨(hexL qd).toArray⟩:ByteArray)=t4 at *
 go_enter Tryz.func55,Tryz.ntmps55
 go_upto_region 1 with fail
 generalize w.alloc (.cells (nwC vw qv qd QA Qn Qk who sw lf s (.slice A l.length c)) 109)=w1 at *
 have G0:=hQ9 g0
 have HCvw:Hid (∀ y,Grew w1 y→y.cell? ⟨w.heap.size,0,none⟩=some (.int .i64 vw)):=hQ9 (fun y g=>by simpa [nwC]using (z0.grew g).cell 0 _ rfl)
 have HCwh:Hid (∀ y,Grew w1 y→y.cell? ⟨w.heap.size,1,none⟩=some (.int .i64 who)):=hQ9 (fun y g=>by simpa [nwC]using (z0.grew g).cell 1 _ rfl)
 have HCqv:Hid (∀ y,Grew w1 y→y.cell? ⟨w.heap.size,2,none⟩=some (.int .i64 qv)):=hQ9 (fun y g=>by simpa [nwC]using (z0.grew g).cell 2 _ rfl)
 have HCqd:Hid (∀ y,Grew w1 y→y.cell? ⟨w.heap.size,3,none⟩=some (.int .u64 (qd:Nat))):=hQ9 (fun y g=>by simpa [nwC]using (z0.grew g).cell 3 _ rfl)
 clear z0 g0
 refine zy 16 (fun ix9=>match ix9 with
  | 0=>fun v _=>v=.pointer (some ⟨w.heap.size,0,none⟩)
  | 1=>fun v _=>v=.int .i64 vw
  | 2=>fun v _=>v=.string t1
  | 3=>fun v _=>v=.pointer (some ⟨w.heap.size,1,none⟩)
  | 4=>fun v _=>v=.int .i64 who
  | 5=>fun v _=>v=.string t2
  | 6=>fun v _=>v=.pointer (some ⟨w.heap.size,2,none⟩)
  | 7=>fun v _=>v=.pointer (some ⟨w.heap.size,2,none⟩)
  | 8=>fun v _=>v=.int .i64 qv
  | 9=>fun v _=>v=.string t3
  | 10=>fun v _=>v=.pointer (some ⟨w.heap.size,2,none⟩)
  | 11=>fun v _=>v=.pointer (some ⟨w.heap.size,3,none⟩)
  | 12=>fun v _=>v=.int .u64 (qd:Nat)
  | 13=>fun v _=>v=.string t4
  | 14=>fun v z=>FiveO w1.heap.size z [⟨#[118,105,101,119]⟩,t1,t2,t3,t4] v
  | 15=>fun v _=>v=.string tj
  | _=>fun _ _=>True) (by kernel_rfl) (by kernel_rfl) ?_ ?_ ?_
 ·intro i v x y h hg
  match i,h with
  | 0,h | 1,h | 2,h | 3,h | 4,h | 5,h | 6,h | 7,h | 8,h | 9,h | 10,h | 11,h | 12,h | 13,h | 15,h=>exact h
  | 14,h=>exact FiveO.gr h hg
  | m+16,_=>trivial
 ·simp only [actOf,tk1,tk0,dr1,dr0,Act.put,si1,st1,st0,Nat.reduceAdd]
  refine⟨?_,?_,?_,?_,?_,?_,?_,?_,?_,?_,?_,?_,?_,?_,?_,?_,trivial⟩
  ·intro vs y hg hd
   dsimp only
   go_wp2_with fail
   exact⟨rfl,_,rfl,zc _,rfl⟩
  ·intro vs y hg hd
   obtain⟨h0,_⟩:=hd
   replace h0:=h0 rfl
   dsimp only
   rw [show vs 0=_ from h0]
   have hc:=HCvw.out y hg
   go_wp2_with fail
   exact⟨rfl,_,rfl,zc _,rfl⟩
  ·intro vs y hg hd
   obtain⟨h1,_⟩:=hd
   replace h1:=h1 rfl
   dsimp only
   rw [show vs 1=_ from h1]
   go_wp2_with(go_at_call 87;refine(C1.out y).mono ?_;rintro e z ⟨rfl,gz⟩)
   exact⟨rfl,_,rfl,gz,rfl⟩
  ·intro vs y hg hd
   dsimp only
   go_wp2_with fail
   exact⟨rfl,_,rfl,zc _,rfl⟩
  ·intro vs y hg hd
   obtain⟨h3,_⟩:=hd
   replace h3:=h3 rfl
   dsimp only
   rw [show vs 3=_ from h3]
   have hc:=HCwh.out y hg
   go_wp2_with fail
   exact⟨rfl,_,rfl,zc _,rfl⟩
  ·intro vs y hg hd
   obtain⟨h4,_⟩:=hd
   replace h4:=h4 rfl
   dsimp only
   rw [show vs 4=_ from h4]
   go_wp2_with(go_at_call 87;refine(C2.out y).mono ?_;rintro e z ⟨rfl,gz⟩)
   exact⟨rfl,_,rfl,gz,rfl⟩
  ·intro vs y hg hd
   dsimp only
   go_wp2_with fail
   exact⟨rfl,_,rfl,zc _,rfl⟩
  ·intro vs y hg hd
   obtain⟨h6,_⟩:=hd
   replace h6:=h6 rfl
   dsimp only
   rw [show vs 6=_ from h6]
   go_wp2_with fail
   exact⟨rfl,_,rfl,zc _,rfl⟩
  ·intro vs y hg hd
   obtain⟨h7,_⟩:=hd
   replace h7:=h7 rfl
   dsimp only
   rw [show vs 7=_ from h7]
   have hc:=HCqv.out y hg
   go_wp2_with fail
   exact⟨rfl,_,rfl,zc _,rfl⟩
  ·intro vs y hg hd
   obtain⟨h8,_⟩:=hd
   replace h8:=h8 rfl
   dsimp only
   rw [show vs 8=_ from h8]
   go_wp2_with(go_at_call 87;refine(C3.out y).mono ?_;rintro e z ⟨rfl,gz⟩)
   exact⟨rfl,_,rfl,gz,rfl⟩
  ·intro vs y hg hd
   dsimp only
   go_wp2_with fail
   exact⟨rfl,_,rfl,zc _,rfl⟩
  ·intro vs y hg hd
   obtain⟨h10,_⟩:=hd
   replace h10:=h10 rfl
   dsimp only
   rw [show vs 10=_ from h10]
   go_wp2_with fail
   exact⟨rfl,_,rfl,zc _,rfl⟩
  ·intro vs y hg hd
   obtain⟨h11,_⟩:=hd
   replace h11:=h11 rfl
   dsimp only
   rw [show vs 11=_ from h11]
   have hc:=HCqd.out y hg
   go_wp2_with fail
   exact⟨rfl,_,rfl,zc _,rfl⟩
  ·intro vs y hg hd
   obtain⟨h12,_⟩:=hd
   replace h12:=h12 rfl
   dsimp only
   rw [show vs 12=_ from h12]
   go_wp2_with(go_at_call 88;refine(C4.out y).mono ?_;rintro e z ⟨rfl,gz⟩)
   exact⟨rfl,_,rfl,gz,rfl⟩
  ·intro vs y hg hd
   obtain⟨h2,h5,h9,h13,_⟩:=hd
   replace h2:=h2 rfl
   replace h5:=h5 rfl
   replace h9:=h9 rfl
   replace h13:=h13 rfl
   dsimp only
   rw [show vs 2=_ from h2,show vs 5=_ from h5,show vs 9=_ from h9,show vs 13=_ from h13]
   go_wp2_with fail
   exact⟨rfl,_,rfl,zg (zc _) _,⟨World.ownsRow_lit y #[.string ⟨#[118,105,101,119]⟩,.string t1,.string t2,.string t3,.string t4] 5 hg.size (by decide) rfl⟩⟩
  ·intro vs y hg hd
   obtain⟨h14,_⟩:=hd
   replace h14:=h14 rfl
   dsimp only
   obtain⟨A9,c9,e9,hr9,-,-⟩:=xK (FiveO.out h14)
   rw [e9]
   go_wp2_with(go_at_call 90;refine(CJ.out A9 c9 y hr9).mono ?_;rintro e z ⟨rfl,gz⟩)
   exact⟨rfl,_,rfl,gz,rfl⟩
 ·intro vs y hg hJ
  have j0:vs 0=.pointer (some ⟨w.heap.size,0,none⟩):=hJ 0 (by decide)
  have j1:vs 1=.int .i64 vw:=hJ 1 (by decide)
  have j2:vs 2=.string t1:=hJ 2 (by decide)
  have j3:vs 3=.pointer (some ⟨w.heap.size,1,none⟩):=hJ 3 (by decide)
  have j4:vs 4=.int .i64 who:=hJ 4 (by decide)
  have j5:vs 5=.string t2:=hJ 5 (by decide)
  have j6:vs 6=.pointer (some ⟨w.heap.size,2,none⟩):=hJ 6 (by decide)
  have j7:vs 7=.pointer (some ⟨w.heap.size,2,none⟩):=hJ 7 (by decide)
  have j8:vs 8=.int .i64 qv:=hJ 8 (by decide)
  have j9:vs 9=.string t3:=hJ 9 (by decide)
  have j10:vs 10=.pointer (some ⟨w.heap.size,2,none⟩):=hJ 10 (by decide)
  have j11:vs 11=.pointer (some ⟨w.heap.size,3,none⟩):=hJ 11 (by decide)
  have j12:vs 12=.int .u64 (qd:Nat):=hJ 12 (by decide)
  have j13:vs 13=.string t4:=hJ 13 (by decide)
  have j15:vs 15=.string tj:=hJ 15 (by decide)
  have s17:=hJ 14 (by decide)
  clear hJ
  simp only [actOf,tk1,tk0,dr1,dr0,Act.put,si1,st1,st0,Nat.reduceAdd]
  rw [show vs 15=_ from j15]
  go_wp2_with fail
  go_ret
  exact⟨rfl,ze G0.out hg⟩
theorem kX (vw qv:Int) (qd:Nat) (QA:Option Addr) (Qn Qk:Nat) (who sw lf:Int) (s:Nat→Nat) (A:Option Addr) (c:Nat) (l:List Nat) (hc:qd<18446744073709551616) (hqv:in64 qv) (hw:in64 who) (hv:in64 vw) (w:World) :
 Calls Tryz.prog 53 #[.agg (nwC vw qv qd QA Qn Qk who sw lf s (.slice A l.length c))] w fun e w'=>e=.returned (.int .u64 (nwD vw qv qd who:Nat))∧Grew w w':=by
 have z0:=Ag.new w 109 (nwC vw qv qd QA Qn Qk who sw lf s (.slice A l.length c))
 have g0:=zg (zc w) (.cells (nwC vw qv qd QA Qn Qk who sw lf s (.slice A l.length c)) 109)
 have hut:=Tryz.underlying109
 have CW:=hQ9 (jI vw qv qd QA Qn Qk who sw lf s A c l hc hqv hw hv (w.alloc (.cells (nwC vw qv qd QA Qn Qk who sw lf s (.slice A l.length c)) 109)))
 have CH:=hQ9 (fun W=>zat ⟨#[118,105,101,119]⟩ ⟨(nwW vw qv qd who).toArray⟩ (by decide) (by have:=js vw qv qd who hv hqv hw;simp [ByteArray.size];omega) W)
 have HSG:Hid ((Tryz.prog.info? 109).map (·.size)=some (nwC vw qv qd QA Qn Qk who sw lf s (.slice A l.length c)).toList.length):=hQ9 (by kernel_rfl)
 have hm0:=z0.cell
 clear z0
 go_enter Tryz.func53,Tryz.ntmps53
 go_wp2_with(with_reducible refine wpList_load_mid rfl 109 (.tmp 1) rfl w.heap.size 0 rfl (nwC vw qv qd QA Qn Qk who sw lf s (.slice A l.length c)).toList _ hm0 hut rfl HSG.out ?_;simp only [Array.toArray_toList])
 refine(CW.out).mono ?_
 rintro e w1 ⟨rfl,g1⟩
 go_wp2_with fail
 refine(CH.out _).mono ?_
 rintro e w2 ⟨rfl,g2⟩
 go_wp2_with fail
 go_ret
 exact⟨rfl,ze g0 (ze g1 g2)⟩
def ldV (f v:Int):Int:=if v<0 then 0 else v%(3*f+1)
theorem zfd (f:Int) (hf:1≤f∧f≤3) (v:Int) (w:World) :
 Calls Tryz.prog 59 #[.agg #[.int .i64 f],.int .i64 v] w fun e w'=>e=.returned (.int .i64 (ldV f v))∧Grew w w':=by
 by_cases hv:v<0
 ·unfold ldV
  rw [if_pos hv]
  have huf:=Tryz.underlying46
  have HCF:Hid ((Tryz.prog.info? 46).map (·.size)=some (#[Value.int .i64 f]).toList.length):=hQ9 (by kernel_rfl)
  have z:=Ag.new w 46 #[.int .i64 f]
  have G:=zg (zc w) (.cells #[.int .i64 f] 46)
  have hm:=z.cell
  have CN:=hQ9 (fun W=>qn_ok f hf W)
  have e1:decide (v<0)=true:=decide_eq_true hv
  clear z hf hv
  go_enter Tryz.func59,Tryz.ntmps59
  go_wp2_with(with_reducible refine wpList_load_mid rfl 46 (.tmp 2) rfl w.heap.size 0 rfl (#[Value.int .i64 f]).toList _ hm huf rfl HCF.out ?_;simp only [Array.toArray_toList])
  refine(CN.out _).mono ?_
  rintro e w2 ⟨rfl,g2⟩
  go_wp2_with fail
  go_ret
  exact⟨rfl,by first | exact ze G g2 | (subst g2;exact G)⟩
 ·unfold ldV
  rw [if_neg hv]
  exact za2 f hf v (by omega) w
theorem zfe (f:Int) (hf:1≤f∧f≤3) (v:Int) (w:World) :
 Calls Tryz.prog 60 #[.int .i64 f,.int .i64 v] w fun e w'=>e=.returned (.int .i64 (ldV f v))∧Grew w w':=by
 by_cases hv:v<0
 ·unfold ldV
  rw [if_pos hv]
  have e1:decide (v<0)=true:=decide_eq_true hv
  clear hv hf
  go_enter Tryz.func60,Tryz.ntmps60
  go_wp2_with fail
  go_ret
  exact⟨rfl,zc _⟩
 ·unfold ldV
  rw [if_neg hv]
  have e1:decide (v<0)=false:=decide_eq_false hv
  have CN:=hQ9 (fun W=>rn_ok f hf W)
  obtain⟨n,hn⟩:∃ n,3*f+1=n:=⟨_,rfl⟩
  rw [hn]at CN ⊢
  have e3:(n==0)=false:=by simp;omega
  have e5:¬n=0:=by omega
  have e4:v.tmod n=v%n:=Int.tmod_eq_emod_of_nonneg (by omega)
  clear hn hf hv
  go_enter Tryz.func60,Tryz.ntmps60
  go_wp2_with fail
  refine(CN.out _).mono ?_
  rintro e w2 ⟨rfl,g2⟩
  go_wp2_with fail
  go_ret
  exact⟨by simp_all,by subst g2;exact zc _⟩
end Go.Proofs.YtidjnnnigcmdpaaGreatDoor
