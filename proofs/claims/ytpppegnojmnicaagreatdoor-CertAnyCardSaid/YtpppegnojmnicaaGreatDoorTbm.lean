/- stamp.Parse of whatever text. -/
import Derived.Test.YtpppegnojmnicaaGreatDoorTzz
import Derived.Test.YtpppegnojmnicaaGreatDoorTbl
import Derived.Test.YtpppegnojmnicaaGreatDoorTat
import Derived.Test.YtpppegnojmnicaaGreatDoorTbc
import Derived.Test.YtpppegnojmnicaaGreatDoorTaz
import Derived.Test.YtpppegnojmnicaaGreatDoorTbk
set_option maxHeartbeats 4000000
set_option maxRecDepth 100000
set_option linter.unusedSimpArgs false
set_option linter.unusedVariables false
namespace Go.Proofs.YtpppegnojmnicaaGreatDoor
open Go.RowKit
theorem ze1 (tj:ByteArray) (hz:tj.size≤1000000) (hno:∀ x0 x1 x2 x3,splitF tj.data.toList≠some [x0,x1,x2,x3]) (w:World) :
 Calls Tryz.prog 81 #[.string tj] w fun e w'=>(∃ A c,e=.returned (.tuple #[.agg ((stO tj.data.toList).v (.slice A (stO tj.data.toList).g.2.2.length c)),.int .i64 (stE tj.data.toList)])∧Rd w' w'.heap.size A (u64L (stO tj.data.toList).g.2.2)∧(∀ ad,A=some ad→w.heap.size<ad.block))∧Grew w w':=by
 have hut:=Tryz.underlying91
 have hus:=Tryz.underlying89
 have bz:∀ W,(Instr.build 91 #[]).run Tryz.prog W=.ok (.agg (#[.int .u64 0,.int .i64 0,.int .i64 0,.int .i64 0,.int .i64 0,.int .u64 0,.int .u64 0,.int .u64 0,.int .u64 0,.int .u64 0,.int .u64 0,.int .u64 0,.int .u64 0,.int .u64 0,.int .u64 0,.int .u64 0,.int .u64 0,.int .u64 0,.int .u64 0,.int .u64 0,.int .u64 0,.int .u64 0,.int .u64 0,.slice none 0 0])) W:=fun W=>run_build W 91 #[] _ zdd
 have HSI:Hid ((Tryz.prog.info? 91).map (·.size)=some (zS24:Array Value).size):=hQ9 zy
 have HSIL:Hid ((Tryz.prog.info? 91).map (·.size)=some (zS24:Array Value).toList.length):=hQ9 zy
 have HON:Hid ((#[.int .u64 0,.int .i64 0,.int .i64 0,.int .i64 0,.int .i64 0,.int .u64 0,.int .u64 0,.int .u64 0,.int .u64 0,.int .u64 0,.int .u64 0,.int .u64 0,.int .u64 0,.int .u64 0,.int .u64 0,.int .u64 0,.int .u64 0,.int .u64 0,.int .u64 0,.int .u64 0,.int .u64 0,.int .u64 0,.int .u64 0,.slice none 0 0]:Array Value).all (·.oneCell')=true):=hQ9 (by simp [Value.oneCell'])
 have z0:=Ag.new w 91 (zS24)
 have g0:=ze (za w) (.cells (zS24) 91)
 have CS:=hQ9 (fun W=>kP tj (by omega) W)
 go_enter Tryz.func81,Tryz.ntmps81
 go_wp2_with fail
 refine(CS.out _).mono ?_
 rintro e w1 ⟨hs,gg⟩
 have z1:=z0.grew gg
 have g1:=zc g0 gg
 have HTH:Hid (w1.there w.heap.size 0 (zS24:Array Value).size):=hQ9 (z1.thereN 24 rfl)
 have zZ:=Ag.set (vs:=(zS24:Array Value).toList) z1 rfl
 have gZ:=zg (o:=0) (b:=w.heap.size) (zS24:Array Value).toList g1 (Nat.le_refl _)
 clear CS z0 g0 gg z1 g1
 rcases hs with ⟨h1,rfl⟩ | ⟨l,h1,⟨h2,rfl⟩ | ⟨h2,v,rfl,o1⟩⟩
 ·have HE:=hQ9 (zbj h1)
  clear h1
  go_wp2_with(first
   | (with_reducible refine wpList_store_mid rfl 91 (.tmp 2) (.tmp 19) rfl w.heap.size 0 (zS24) rfl rfl HTH.out HSI.out HON.out ?_))
  exact bodyPost_ret (zh Tryz.results81 _ _ w.heap.size _ _ _ rfl rfl zZ hut rfl HSIL.out) rfl ⟨⟨none,0,by rw [HE.out.1,HE.out.2];rfl,by rw [HE.out.2];exact fun k hk=>absurd hk (by simp [StR.zero,u64L]),fun ad h=>by cases h⟩,gZ⟩
 ·have HE:=hQ9 (zbk h1 h2)
  clear h1 h2
  go_wp2_with(first
   | (with_reducible refine wpList_store_mid rfl 91 (.tmp 2) (.tmp 19) rfl w.heap.size 0 (zS24) rfl rfl HTH.out HSI.out HON.out ?_))
  exact bodyPost_ret (zh Tryz.results81 _ _ w.heap.size _ _ _ rfl rfl zZ hut rfl HSIL.out) rfl ⟨⟨none,0,by rw [HE.out.1,HE.out.2];rfl,by rw [HE.out.2];exact fun k hk=>absurd hk (by simp [StR.zero,u64L]),fun ad h=>by cases h⟩,gZ⟩
 ·have hl4:l.length≠4:=fun h4=>by
   match l,h4 with
   | [a,b,c,d],_=>exact hno a b c d h1
  have HE:=hQ9 (zde h1 h2 hl4)
  obtain⟨A4,c4,rfl,-,-,-⟩:=zv o1
  have e4:((l.length:Int) != 4)=true:=by simp;omega
  clear o1 h1 h2 hl4
  go_wp2_with(first
   | (with_reducible refine wpList_store_mid rfl 91 (.tmp 2) (.tmp 24) rfl w.heap.size 0 (zS24) rfl rfl HTH.out HSI.out HON.out ?_))
  exact bodyPost_ret (zh Tryz.results81 _ _ w.heap.size _ _ _ rfl rfl zZ hut rfl HSIL.out) rfl ⟨⟨none,0,by rw [HE.out.1,HE.out.2];rfl,by rw [HE.out.2];exact fun k hk=>absurd hk (by simp [StR.zero,u64L]),fun ad h=>by cases h⟩,gZ⟩
theorem zgu (tj:ByteArray) (x0 x1 x2 x3:List UInt8) (hsp:splitF tj.data.toList=some [x0,x1,x2,x3]) (hz:tj.size≤1000000) (l0:x0.length≤1000000) (l1:x1.length≤1000000) (l2:x2.length≤1000000) (l3:x3.length≤1000000) (w:World) (hS:Std w) :
 Calls Tryz.prog 81 #[.string tj] w fun e w'=>(∃ A c,e=.returned (.tuple #[.agg ((stO tj.data.toList).v (.slice A (stO tj.data.toList).g.2.2.length c)),.int .i64 (stE tj.data.toList)])∧Rd w' w'.heap.size A (u64L (stO tj.data.toList).g.2.2)∧(∀ ad,A=some ad→w.heap.size<ad.block))∧Grew w w':=by
 have HS:=hQ9 hS
 have HE0:=jS hsp
 have CS:=hQ9 (fun W=>xx (s:=tj) (l:=[x0,x1,x2,x3]) hsp (by simp) (by omega) W)
 rw [show txt [x0,x1,x2,x3]=[⟨x0.toArray⟩,⟨x1.toArray⟩,⟨x2.toArray⟩,⟨x3.toArray⟩] from rfl]at CS
 have N1:=(fun W hW=>ke ⟨x1.toArray⟩ (by show x1.toArray.size≤_;simp;omega) W hW)
 have N2:=(fun W hW=>ke ⟨x2.toArray⟩ (by show x2.toArray.size≤_;simp;omega) W hW)
 have HP:=(fun W=>zd6 ⟨x0.toArray⟩ W)
 have KP:=(fun W hW=>zkk ⟨x3.toArray⟩ (by show x3.toArray.size≤_;simp;omega) W hW)
 unfold st4 stF at HE0
 simp only [show(⟨x0.toArray⟩:ByteArray).data.toList=x0 from rfl,show(⟨x1.toArray⟩:ByteArray).data.toList=x1 from rfl,show(⟨x2.toArray⟩:ByteArray).data.toList=x2 from rfl,show(⟨x3.toArray⟩:ByteArray).data.toList=x3 from rfl,pnumRes]at N1 N2 HP KP
 clear hsp
 generalize (⟨x0.toArray⟩:ByteArray)=t0 at *
 generalize (⟨x1.toArray⟩:ByteArray)=t1 at *
 generalize (⟨x2.toArray⟩:ByteArray)=t2 at *
 generalize (⟨x3.toArray⟩:ByteArray)=t3 at *
 generalize (pnum x1).1=n1 at *
 generalize (pnum x1).2=a1 at *
 generalize (pnum x2).1=n2 at *
 generalize (pnum x2).2=a2 at *
 generalize parseO x0=o0 at *
 have HO3:Hid (sgE (sigP x3)=if (sigP x3).isSome=true then 0 else 2):=hQ9 rfl
 generalize sgE (sigP x3)=e3 at *
 generalize (sigP x3).isSome=b3 at *
 generalize sgO (sigP x3)=X at *
 obtain⟨⟨sw,lf⟩,s,l⟩:=X
 dsimp only at KP HE0
 replace N1:=hQ9 N1
 replace N2:=hQ9 N2
 replace HP:=hQ9 HP
 replace KP:=hQ9 KP
 replace HE0:=hQ9 HE0
 have HEZ:∀ b:Bool,b=false→stE tj.data.toList=(if b=true then 0 else 2)∧stO tj.data.toList=(if b=true then (⟨o0.getD 0,n1,n2,((sw,lf),s,l)⟩:StR) else .zero)→Hid (stE tj.data.toList=2∧stO tj.data.toList=.zero):=fun b hb h=>hQ9 (by rw [hb]at h;exact h)
 generalize stE tj.data.toList=eS at *
 generalize stO tj.data.toList=oS at *
 clear hS l0 l1 l2 l3 hz
 have hut:=Tryz.underlying91
 have hus:=Tryz.underlying89
 have bz:∀ W,(Instr.build 91 #[]).run Tryz.prog W=.ok (.agg (#[.int .u64 0,.int .i64 0,.int .i64 0,.int .i64 0,.int .i64 0,.int .u64 0,.int .u64 0,.int .u64 0,.int .u64 0,.int .u64 0,.int .u64 0,.int .u64 0,.int .u64 0,.int .u64 0,.int .u64 0,.int .u64 0,.int .u64 0,.int .u64 0,.int .u64 0,.int .u64 0,.int .u64 0,.int .u64 0,.int .u64 0,.slice none 0 0])) W:=fun W=>run_build W 91 #[] _ zdd
 have HSI:Hid ((Tryz.prog.info? 91).map (·.size)=some (zS24:Array Value).size):=hQ9 zy
 have HSIL:Hid ((Tryz.prog.info? 91).map (·.size)=some (zS24:Array Value).toList.length):=hQ9 zy
 have HON:Hid ((#[.int .u64 0,.int .i64 0,.int .i64 0,.int .i64 0,.int .i64 0,.int .u64 0,.int .u64 0,.int .u64 0,.int .u64 0,.int .u64 0,.int .u64 0,.int .u64 0,.int .u64 0,.int .u64 0,.int .u64 0,.int .u64 0,.int .u64 0,.int .u64 0,.int .u64 0,.int .u64 0,.int .u64 0,.int .u64 0,.int .u64 0,.slice none 0 0]:Array Value).all (·.oneCell')=true):=hQ9 (by simp [Value.oneCell'])
 have z0:=Ag.new w 91 (zS24)
 have g0:=ze (za w) (.cells (zS24) 91)
 go_enter Tryz.func81,Tryz.ntmps81
 go_wp2_with fail
 refine(CS.out _).mono ?_
 rintro e w1 ⟨⟨v1,rfl,o1⟩,gg⟩
 have z1:=z0.grew gg
 have g1:=zc g0 gg
 obtain⟨g,k1,rfl,hk1,hgl,hcs⟩:=yN o1 (by simp)
 have x0:w1.cell? ⟨g,0,none⟩=some (.string t0):=by simpa using hcs 0 (.string t0) rfl
 have x1:w1.cell? ⟨g,1,none⟩=some (.string t1):=by simpa using hcs 1 (.string t1) rfl
 have x2:w1.cell? ⟨g,2,none⟩=some (.string t2):=by simpa using hcs 2 (.string t2) rfl
 have x3:w1.cell? ⟨g,3,none⟩=some (.string t3):=by simpa using hcs 3 (.string t3) rfl
 clear CS z0 g0 gg o1 hcs
 have hk1':(4:Int)≤(k1:Int):=by
  have:4≤k1:=hk1
  omega
 go_wp2_with fail
 refine(N1.out _ (HS.out.grew g1)).mono ?_
 rintro e w2 ⟨rfl,gg⟩
 have y0:=(gg.cell (p:=⟨g,0,none⟩) hgl).trans x0
 have y2:=(gg.cell (p:=⟨g,2,none⟩) hgl).trans x2
 have y3:=(gg.cell (p:=⟨g,3,none⟩) hgl).trans x3
 have hgl2:=Nat.lt_of_lt_of_le hgl gg.size
 have z2:=z1.grew gg
 have g2:=zc g1 gg
 clear N1 x0 x1 x2 x3 z1 g1 gg hgl
 go_wp2_with fail
 refine(N2.out _ (HS.out.grew g2)).mono ?_
 rintro e w3 ⟨rfl,gg⟩
 have x0:=(gg.cell (p:=⟨g,0,none⟩) hgl2).trans y0
 have x3:=(gg.cell (p:=⟨g,3,none⟩) hgl2).trans y3
 have hgl3:=Nat.lt_of_lt_of_le hgl2 gg.size
 have z3:=z2.grew gg
 have g3:=zc g2 gg
 clear N2 y0 y2 y3 z2 g2 gg hgl2
 by_cases h1:a1=0
 case neg =>
  have HE:=HEZ _ (by simp [h1]) HE0.out
  have e1:(a1 != 0)=true:=by simpa using h1
  clear h1 HE0
  have HTH:Hid (w3.there w.heap.size 0 (zS24:Array Value).size):=hQ9 (z3.thereN 24 rfl)
  have zZ:=Ag.set (vs:=(zS24:Array Value).toList) z3 rfl
  have gZ:=zg (o:=0) (b:=w.heap.size) (zS24:Array Value).toList g3 (Nat.le_refl _)
  go_wp2_with(first
   | (with_reducible refine wpList_store_mid rfl 91 (.tmp 2) (.tmp 53) rfl w.heap.size 0 (zS24) rfl rfl HTH.out HSI.out HON.out ?_))
  exact bodyPost_ret (zh Tryz.results81 _ _ w.heap.size _ _ _ rfl rfl zZ hut rfl HSIL.out) rfl ⟨⟨none,0,by rw [HE.out.1,HE.out.2];rfl,by rw [HE.out.2];exact fun k hk=>absurd hk (by simp [StR.zero,u64L]),fun ad h=>by cases h⟩,gZ⟩
 subst h1
 by_cases h2:a2=0
 case neg =>
  have HE:=HEZ _ (by simp [h2]) HE0.out
  have e1:(a2 != 0)=true:=by simpa using h2
  clear h2 HE0
  have HTH:Hid (w3.there w.heap.size 0 (zS24:Array Value).size):=hQ9 (z3.thereN 24 rfl)
  have zZ:=Ag.set (vs:=(zS24:Array Value).toList) z3 rfl
  have gZ:=zg (o:=0) (b:=w.heap.size) (zS24:Array Value).toList g3 (Nat.le_refl _)
  go_wp2_with(first
   | (with_reducible refine wpList_store_mid rfl 91 (.tmp 2) (.tmp 53) rfl w.heap.size 0 (zS24) rfl rfl HTH.out HSI.out HON.out ?_))
  exact bodyPost_ret (zh Tryz.results81 _ _ w.heap.size _ _ _ rfl rfl zZ hut rfl HSIL.out) rfl ⟨⟨none,0,by rw [HE.out.1,HE.out.2];rfl,by rw [HE.out.2];exact fun k hk=>absurd hk (by simp [StR.zero,u64L]),fun ad h=>by cases h⟩,gZ⟩
 subst h2
 by_cases h3:-2147483648≤n1∧n1≤2147483647
 case neg =>
  have HE:=HEZ _ (by simp [smallB,h3]) HE0.out
  clear HE0
  have HTH:Hid (w3.there w.heap.size 0 (zS24:Array Value).size):=hQ9 (z3.thereN 24 rfl)
  have zZ:=Ag.set (vs:=(zS24:Array Value).toList) z3 rfl
  have gZ:=zg (o:=0) (b:=w.heap.size) (zS24:Array Value).toList g3 (Nat.le_refl _)
  rcases(show n1 < -2147483648∨(¬n1 < -2147483648∧2147483647<n1) by omega)with h | ⟨h,h'⟩
  ·have e1:decide (n1 < -2147483648)=true:=decide_eq_true h
   clear h3 h
   go_wp2_with(first
    | (with_reducible refine wpList_store_mid rfl 91 (.tmp 2) (.tmp 53) rfl w.heap.size 0 (zS24) rfl rfl HTH.out HSI.out HON.out ?_))
   exact bodyPost_ret (zh Tryz.results81 _ _ w.heap.size _ _ _ rfl rfl zZ hut rfl HSIL.out) rfl ⟨⟨none,0,by rw [HE.out.1,HE.out.2];rfl,by rw [HE.out.2];exact fun k hk=>absurd hk (by simp [StR.zero,u64L]),fun ad h=>by cases h⟩,gZ⟩
  ·have e1:decide (n1 < -2147483648)=false:=decide_eq_false h
   have e2:decide (2147483647<n1)=true:=decide_eq_true h'
   clear h3 h h'
   go_wp2_with(first
    | (with_reducible refine wpList_store_mid rfl 91 (.tmp 2) (.tmp 53) rfl w.heap.size 0 (zS24) rfl rfl HTH.out HSI.out HON.out ?_))
   exact bodyPost_ret (zh Tryz.results81 _ _ w.heap.size _ _ _ rfl rfl zZ hut rfl HSIL.out) rfl ⟨⟨none,0,by rw [HE.out.1,HE.out.2];rfl,by rw [HE.out.2];exact fun k hk=>absurd hk (by simp [StR.zero,u64L]),fun ad h=>by cases h⟩,gZ⟩
 have hw1:¬n1 < -2147483648:=by omega
 have hw2:¬2147483647<n1:=by omega
 have HB3:Hid (smallB n1=true):=hQ9 (decide_eq_true h3)
 clear h3
 go_wp2_with(fail)
 refine(HP.out _).mono ?_
 rintro e v3 ⟨rfl,rfl⟩
 cases o0 with
 | none =>
  have HE:=HEZ _ (by simp) HE0.out
  clear HE0
  have HTH:Hid (w3.there w.heap.size 0 (zS24:Array Value).size):=hQ9 (z3.thereN 24 rfl)
  have zZ:=Ag.set (vs:=(zS24:Array Value).toList) z3 rfl
  have gZ:=zg (o:=0) (b:=w.heap.size) (zS24:Array Value).toList g3 (Nat.le_refl _)
  rw [qa]
  go_wp2_with(first
   | (with_reducible refine wpList_store_mid rfl 91 (.tmp 2) (.tmp 63) rfl w.heap.size 0 (zS24) rfl rfl HTH.out HSI.out HON.out ?_))
  exact bodyPost_ret (zh Tryz.results81 _ _ w.heap.size _ _ _ rfl rfl zZ hut rfl HSIL.out) rfl ⟨⟨none,0,by rw [HE.out.1,HE.out.2];rfl,by rw [HE.out.2];exact fun k hk=>absurd hk (by simp [StR.zero,u64L]),fun ad h=>by cases h⟩,gZ⟩
 | some cm =>
  rw [jZ]
  go_wp2_with fail
  refine(KP.out _ (HS.out.grew g3)).mono ?_
  rintro e w4 ⟨⟨A,c,rfl,r4,hA4⟩,gg⟩
  have z4:=z3.grew gg
  have g4:=zc g3 gg
  have HSI1:Hid ((Tryz.prog.info? 89).map (·.size)=some (sgC sw lf s (.slice A l.length c)).size):=hQ9 zR
  have HSL1:Hid ((Tryz.prog.info? 89).map (·.size)=some (sgC sw lf s (.slice A l.length c)).toList.length):=hQ9 zR
  have HON1:=hQ9 (y7 sw lf s A l.length c)
  have HBU:=hQ9 (zbf cm n1 n2 sw lf s A l.length c)
  have zt:=Ag.new w4 89 (zS21)
  have HTH1:Hid ((w4.alloc (.cells (zS21) 89)).there w4.heap.size 0 (sgC sw lf s (.slice A l.length c)).size):=hQ9 (zt.thereN 21 rfl)
  have z5:=Ag.set (vs:=(sgC sw lf s (.slice A l.length c)).toList) zt rfl
  have g5:Grew w4 ((w4.alloc (.cells (zS21) 89)).setCells w4.heap.size 0 (sgC sw lf s (.slice A l.length c)).toList):=zg (o:=0) (b:=w4.heap.size) (sgC sw lf s (.slice A l.length c)).toList (ze (za w4) _) (Nat.le_refl _)
  have z6:=z4.grew g5
  have r6:=r4.gr g5
  have g6:=zc g4 g5
  obtain⟨g1,hg1⟩:∃ g,sgC sw lf s (.slice A l.length c)=g:=⟨_,rfl⟩
  rw [hg1]at HSI1 HSL1 HON1 HTH1 HBU z5 z6 r6 g6 ⊢
  obtain⟨w6,hw6⟩:∃ v,(w4.alloc (.cells (zS21) 89)).setCells w4.heap.size 0 g1.toList=v:=⟨_,rfl⟩
  rw [hw6]at z5 z6 r6 g6
  have HW6:=hQ9 hw6
  have hm5:=z5.cell
  have hz3:=z3.lt
  have HFR:Hid (∀ ad,A=some ad→w.heap.size<ad.block):=hQ9 (fun ad e=>by have:=hA4 ad e;omega)
  clear hz3 hA4 hw6 hg1 zt g5 x0 x3 z3 g3 z4 g4 gg r4 hgl3 KP HP
  cases b3 with
  | false =>
   have HE:=HEZ _ (by simp) HE0.out
   have he3:e3=2:=HO3.out
   subst he3
   clear HE0 HO3
   have HTH:Hid (w6.there w.heap.size 0 (zS24:Array Value).size):=hQ9 (z6.thereN 24 rfl)
   have zZ:=Ag.set (vs:=(zS24:Array Value).toList) z6 rfl
   have gZ:=zg (o:=0) (b:=w.heap.size) (zS24:Array Value).toList g6 (Nat.le_refl _)
   go_wp2_with(first
    | (with_reducible refine wpList_store_mid rfl 89 (.tmp 11) (.tmp 70) rfl w4.heap.size 0 g1 rfl rfl HTH1.out HSI1.out HON1.out ?_;rw [HW6.out];clear HW6 HTH1)
    | (with_reducible refine wpList_store_mid rfl 91 (.tmp 2) (.tmp 74) rfl w.heap.size 0 (zS24) rfl rfl HTH.out HSI.out HON.out ?_))
   exact bodyPost_ret (zh Tryz.results81 _ _ w.heap.size _ _ _ rfl rfl zZ hut rfl HSIL.out) rfl ⟨⟨none,0,by rw [HE.out.1,HE.out.2];rfl,by rw [HE.out.2];exact fun k hk=>absurd hk (by simp [StR.zero,u64L]),fun ad h=>by cases h⟩,gZ⟩
  | true =>
   have he3:e3=0:=HO3.out
   subst he3
   have HE:Hid (eS=0∧oS=⟨cm,n1,n2,((sw,lf),s,l)⟩):=hQ9 (by have:=HE0.out;simpa [HB3.out]using this)
   clear HE0 HO3
   have HTZ:Hid (w6.there w.heap.size 0 (stC cm n1 n2 sw lf s (.slice A l.length c)).size):=hQ9 (z6.thereN 24 rfl)
   have HOZ:=hQ9 (ka cm n1 n2 sw lf s A l.length c)
   have HSZ:Hid ((Tryz.prog.info? 91).map (·.size)=some (stC cm n1 n2 sw lf s (.slice A l.length c)).size):=hQ9 zy
   have HSZL:Hid ((Tryz.prog.info? 91).map (·.size)=some (stC cm n1 n2 sw lf s (.slice A l.length c)).toList.length):=hQ9 zy
   have z7:=Ag.set (vs:=(stC cm n1 n2 sw lf s (.slice A l.length c)).toList) z6 rfl
   have K7:=zG (stC cm n1 n2 sw lf s (.slice A l.length c)).toList w.heap.size 0 w6
   have G7:=zg (o:=0) (b:=w.heap.size) (stC cm n1 n2 sw lf s (.slice A l.length c)).toList g6 (Nat.le_refl _)
   have R7:Rd (w6.setCells w.heap.size 0 (stC cm n1 n2 sw lf s (.slice A l.length c)).toList) (w6.setCells w.heap.size 0 (stC cm n1 n2 sw lf s (.slice A l.length c)).toList).heap.size A (u64L l) :=
    (r6.kp K7 (Nat.le_refl _) (fun ad e1 _ (e3:ad.block=w.heap.size)=>by have:=HFR.out ad e1;omega)).more K7.size
   obtain⟨g2,hg2⟩:∃ g,stC cm n1 n2 sw lf s (.slice A l.length c)=g:=⟨_,rfl⟩
   have HG2':=hQ9 hg2
   rw [hg2]at HTZ HOZ HSZ HSZL HBU z7 G7 R7
   clear z6 K7 r6 g6 hg2
   go_wp2_with(first
    | (with_reducible refine wpList_store_mid rfl 89 (.tmp 11) (.tmp 70) rfl w4.heap.size 0 g1 rfl rfl HTH1.out HSI1.out HON1.out ?_;rw [HW6.out];clear HW6 HTH1)
    | (with_reducible refine wpList_load_mid rfl 89 (.tmp 11) rfl w4.heap.size 0 rfl g1.toList _ hm5 hus rfl HSL1.out ?_;simp only [Array.toArray_toList])
    | (with_reducible refine zI rfl 91 #[(0,.tmp 76),(1,.tmp 77),(2,.tmp 78),(3,.tmp 79)] rfl g2 ?_ ?_;· simpa [Act.eval,Act.put]using HBU.out)
    | (with_reducible refine wpList_store_mid rfl 91 (.tmp 2) (.tmp 80) rfl w.heap.size 0 g2 rfl rfl HTZ.out HSZ.out HOZ.out ?_))
   exact bodyPost_ret (zh Tryz.results81 _ _ w.heap.size _ _ _ rfl rfl z7 hut rfl HSZL.out) rfl ⟨⟨A,c,by rw [HE.out.1,HE.out.2];show Ending.returned (.tuple #[.agg g2.toList.toArray,.int .i64 0])=_;rw [Array.toArray_toList,←HG2'.out];rfl,by rw [HE.out.2];exact R7,HFR.out⟩,G7⟩
theorem zh2 (tj:ByteArray) (hz:tj.size≤1000000) (w:World) (hS:Std w) :
 Calls Tryz.prog 81 #[.string tj] w fun e w'=>(∃ A c,e=.returned (.tuple #[.agg ((stO tj.data.toList).v (.slice A (stO tj.data.toList).g.2.2.length c)),.int .i64 (stE tj.data.toList)])∧Rd w' w'.heap.size A (u64L (stO tj.data.toList).g.2.2)∧(∀ ad,A=some ad→w.heap.size<ad.block))∧Grew w w':=by
 have hlen:tj.data.toList.length≤1000000:=by rw [yc];exact hz
 by_cases h4:∃ x0 x1 x2 x3,splitF tj.data.toList=some [x0,x1,x2,x3]
 ·obtain⟨x0,x1,x2,x3,hsp⟩:=h4
  have g:=fun x hx=>Nat.le_trans (kb hsp x hx) hlen
  exact zgu tj x0 x1 x2 x3 hsp hz (g x0 (by simp)) (g x1 (by simp)) (g x2 (by simp)) (g x3 (by simp)) w hS
 ·exact ze1 tj hz (fun a b c d h=>h4 ⟨a,b,c,d,h⟩) w
theorem zem (cm:Nat) (who at_ sw lf:Int) (s:Nat→Nat) (A:Option Addr) (n c:Nat):Tryz.prog.built 169 [(0,.int .u64 (cm:Nat)),(1,.int .i64 who),(2,.int .i64 at_),(3,.agg (sgC sw lf s (.slice A n c)))]=some (stC cm who at_ sw lf s (.slice A n c)):=by kernel_rfl
theorem zgv:Tryz.prog.built 169 []=some (#[.int .u64 0,.int .i64 0,.int .i64 0,.int .i64 0,.int .i64 0,.int .u64 0,.int .u64 0,.int .u64 0,.int .u64 0,.int .u64 0,.int .u64 0,.int .u64 0,.int .u64 0,.int .u64 0,.int .u64 0,.int .u64 0,.int .u64 0,.int .u64 0,.int .u64 0,.int .u64 0,.int .u64 0,.int .u64 0,.int .u64 0,.slice none 0 0]):=by kernel_rfl
theorem xn:(Tryz.prog.info? 169).map (·.size)=some 24:=by kernel_rfl
theorem zdf (tj:ByteArray) (hz:tj.size≤1000000) (hno:∀ x0 x1 x2 x3,splitF tj.data.toList≠some [x0,x1,x2,x3]) (w:World) :
 Calls Tryz.prog 88 #[.string tj] w fun e w'=>(∃ A c,e=.returned (.tuple #[.agg ((stO tj.data.toList).v (.slice A (stO tj.data.toList).g.2.2.length c)),.int .i64 (stE tj.data.toList)])∧Rd w' w'.heap.size A (u64L (stO tj.data.toList).g.2.2)∧(∀ ad,A=some ad→w.heap.size<ad.block))∧Grew w w':=by
 have hut:=Tryz.underlying169
 have hus:=Tryz.underlying132
 have bz:∀ W,(Instr.build 169 #[]).run Tryz.prog W=.ok (.agg (#[.int .u64 0,.int .i64 0,.int .i64 0,.int .i64 0,.int .i64 0,.int .u64 0,.int .u64 0,.int .u64 0,.int .u64 0,.int .u64 0,.int .u64 0,.int .u64 0,.int .u64 0,.int .u64 0,.int .u64 0,.int .u64 0,.int .u64 0,.int .u64 0,.int .u64 0,.int .u64 0,.int .u64 0,.int .u64 0,.int .u64 0,.slice none 0 0])) W:=fun W=>run_build W 169 #[] _ zgv
 have HSI:Hid ((Tryz.prog.info? 169).map (·.size)=some (zS24:Array Value).size):=hQ9 xn
 have HSIL:Hid ((Tryz.prog.info? 169).map (·.size)=some (zS24:Array Value).toList.length):=hQ9 xn
 have HON:Hid ((#[.int .u64 0,.int .i64 0,.int .i64 0,.int .i64 0,.int .i64 0,.int .u64 0,.int .u64 0,.int .u64 0,.int .u64 0,.int .u64 0,.int .u64 0,.int .u64 0,.int .u64 0,.int .u64 0,.int .u64 0,.int .u64 0,.int .u64 0,.int .u64 0,.int .u64 0,.int .u64 0,.int .u64 0,.int .u64 0,.int .u64 0,.slice none 0 0]:Array Value).all (·.oneCell')=true):=hQ9 (by simp [Value.oneCell'])
 have z0:=Ag.new w 169 (zS24)
 have g0:=ze (za w) (.cells (zS24) 169)
 have CS:=hQ9 (fun W=>ku tj (by omega) W)
 go_enter Tryz.func88,Tryz.ntmps88
 go_wp2_with fail
 refine(CS.out _).mono ?_
 rintro e w1 ⟨hs,gg⟩
 have z1:=z0.grew gg
 have g1:=zc g0 gg
 have HTH:Hid (w1.there w.heap.size 0 (zS24:Array Value).size):=hQ9 (z1.thereN 24 rfl)
 have zZ:=Ag.set (vs:=(zS24:Array Value).toList) z1 rfl
 have gZ:=zg (o:=0) (b:=w.heap.size) (zS24:Array Value).toList g1 (Nat.le_refl _)
 clear CS z0 g0 gg z1 g1
 rcases hs with ⟨h1,rfl⟩ | ⟨l,h1,⟨h2,rfl⟩ | ⟨h2,v,rfl,o1⟩⟩
 ·have HE:=hQ9 (zbj h1)
  clear h1
  go_wp2_with(first
   | (with_reducible refine wpList_store_mid rfl 169 (.tmp 2) (.tmp 19) rfl w.heap.size 0 (zS24) rfl rfl HTH.out HSI.out HON.out ?_)
   | (go_at_call 150;refine(yS n1 _ SM.out _).mono ?_;rintro e z ⟨rfl,hz⟩;rw [hz];clear hz))
  exact bodyPost_ret (zh Tryz.results88 _ _ w.heap.size _ _ _ rfl rfl zZ hut rfl HSIL.out) rfl ⟨⟨none,0,by rw [HE.out.1,HE.out.2];rfl,by rw [HE.out.2];exact fun k hk=>absurd hk (by simp [StR.zero,u64L]),fun ad h=>by cases h⟩,gZ⟩
 ·have HE:=hQ9 (zbk h1 h2)
  clear h1 h2
  go_wp2_with(first
   | (with_reducible refine wpList_store_mid rfl 169 (.tmp 2) (.tmp 19) rfl w.heap.size 0 (zS24) rfl rfl HTH.out HSI.out HON.out ?_)
   | (go_at_call 150;refine(yS n1 _ SM.out _).mono ?_;rintro e z ⟨rfl,hz⟩;rw [hz];clear hz))
  exact bodyPost_ret (zh Tryz.results88 _ _ w.heap.size _ _ _ rfl rfl zZ hut rfl HSIL.out) rfl ⟨⟨none,0,by rw [HE.out.1,HE.out.2];rfl,by rw [HE.out.2];exact fun k hk=>absurd hk (by simp [StR.zero,u64L]),fun ad h=>by cases h⟩,gZ⟩
 ·have hl4:l.length≠4:=fun h4=>by
   match l,h4 with
   | [a,b,c,d],_=>exact hno a b c d h1
  have HE:=hQ9 (zde h1 h2 hl4)
  obtain⟨A4,c4,rfl,-,-,-⟩:=zv o1
  have e4:((l.length:Int) != 4)=true:=by simp;omega
  clear o1 h1 h2 hl4
  go_wp2_with(first
   | (with_reducible refine wpList_store_mid rfl 169 (.tmp 2) (.tmp 24) rfl w.heap.size 0 (zS24) rfl rfl HTH.out HSI.out HON.out ?_)
   | (go_at_call 150;refine(yS n1 _ SM.out _).mono ?_;rintro e z ⟨rfl,hz⟩;rw [hz];clear hz))
  exact bodyPost_ret (zh Tryz.results88 _ _ w.heap.size _ _ _ rfl rfl zZ hut rfl HSIL.out) rfl ⟨⟨none,0,by rw [HE.out.1,HE.out.2];rfl,by rw [HE.out.2];exact fun k hk=>absurd hk (by simp [StR.zero,u64L]),fun ad h=>by cases h⟩,gZ⟩
theorem ze2 (tj:ByteArray) (x0 x1 x2 x3:List UInt8) (hsp:splitF tj.data.toList=some [x0,x1,x2,x3]) (hz:tj.size≤1000000) (l0:x0.length≤1000000) (l1:x1.length≤1000000) (l2:x2.length≤1000000) (l3:x3.length≤1000000) (w:World)  :
 Calls Tryz.prog 88 #[.string tj] w fun e w'=>(∃ A c,e=.returned (.tuple #[.agg ((stO tj.data.toList).v (.slice A (stO tj.data.toList).g.2.2.length c)),.int .i64 (stE tj.data.toList)])∧Rd w' w'.heap.size A (u64L (stO tj.data.toList).g.2.2)∧(∀ ad,A=some ad→w.heap.size<ad.block))∧Grew w w':=by
 have HE0:=jS hsp
 have CS:=hQ9 (fun W=>y9 (s:=tj) (l:=[x0,x1,x2,x3]) hsp (by simp) (by omega) W)
 rw [show txt [x0,x1,x2,x3]=[⟨x0.toArray⟩,⟨x1.toArray⟩,⟨x2.toArray⟩,⟨x3.toArray⟩] from rfl]at CS
 have N1:=(fun W=>xj ⟨x1.toArray⟩ (by show x1.toArray.size≤_;simp;omega) W)
 have N2:=(fun W=>xj ⟨x2.toArray⟩ (by show x2.toArray.size≤_;simp;omega) W)
 have HP:=(fun W=>zb0 ⟨x0.toArray⟩ W)
 have KP:=(fun W=>zrz ⟨x3.toArray⟩ (by show x3.toArray.size≤_;simp;omega) W)
 unfold st4 stF at HE0
 simp only [show(⟨x0.toArray⟩:ByteArray).data.toList=x0 from rfl,show(⟨x1.toArray⟩:ByteArray).data.toList=x1 from rfl,show(⟨x2.toArray⟩:ByteArray).data.toList=x2 from rfl,show(⟨x3.toArray⟩:ByteArray).data.toList=x3 from rfl,pnumRes]at N1 N2 HP KP
 clear hsp
 generalize (⟨x0.toArray⟩:ByteArray)=t0 at *
 generalize (⟨x1.toArray⟩:ByteArray)=t1 at *
 generalize (⟨x2.toArray⟩:ByteArray)=t2 at *
 generalize (⟨x3.toArray⟩:ByteArray)=t3 at *
 generalize (pnum x1).1=n1 at *
 generalize (pnum x1).2=a1 at *
 generalize (pnum x2).1=n2 at *
 generalize (pnum x2).2=a2 at *
 generalize parseO x0=o0 at *
 have HO3:Hid (sgE (sigP x3)=if (sigP x3).isSome=true then 0 else 2):=hQ9 rfl
 generalize sgE (sigP x3)=e3 at *
 generalize (sigP x3).isSome=b3 at *
 generalize sgO (sigP x3)=X at *
 obtain⟨⟨sw,lf⟩,s,l⟩:=X
 dsimp only at KP HE0
 replace N1:=hQ9 N1
 replace N2:=hQ9 N2
 replace HP:=hQ9 HP
 replace KP:=hQ9 KP
 replace HE0:=hQ9 HE0
 have HEZ:∀ b:Bool,b=false→stE tj.data.toList=(if b=true then 0 else 2)∧stO tj.data.toList=(if b=true then (⟨o0.getD 0,n1,n2,((sw,lf),s,l)⟩:StR) else .zero)→Hid (stE tj.data.toList=2∧stO tj.data.toList=.zero):=fun b hb h=>hQ9 (by rw [hb]at h;exact h)
 generalize stE tj.data.toList=eS at *
 generalize stO tj.data.toList=oS at *
 clear l0 l1 l2 l3 hz
 have hut:=Tryz.underlying169
 have hus:=Tryz.underlying132
 have bz:∀ W,(Instr.build 169 #[]).run Tryz.prog W=.ok (.agg (#[.int .u64 0,.int .i64 0,.int .i64 0,.int .i64 0,.int .i64 0,.int .u64 0,.int .u64 0,.int .u64 0,.int .u64 0,.int .u64 0,.int .u64 0,.int .u64 0,.int .u64 0,.int .u64 0,.int .u64 0,.int .u64 0,.int .u64 0,.int .u64 0,.int .u64 0,.int .u64 0,.int .u64 0,.int .u64 0,.int .u64 0,.slice none 0 0])) W:=fun W=>run_build W 169 #[] _ zgv
 have HSI:Hid ((Tryz.prog.info? 169).map (·.size)=some (zS24:Array Value).size):=hQ9 xn
 have HSIL:Hid ((Tryz.prog.info? 169).map (·.size)=some (zS24:Array Value).toList.length):=hQ9 xn
 have HON:Hid ((#[.int .u64 0,.int .i64 0,.int .i64 0,.int .i64 0,.int .i64 0,.int .u64 0,.int .u64 0,.int .u64 0,.int .u64 0,.int .u64 0,.int .u64 0,.int .u64 0,.int .u64 0,.int .u64 0,.int .u64 0,.int .u64 0,.int .u64 0,.int .u64 0,.int .u64 0,.int .u64 0,.int .u64 0,.int .u64 0,.int .u64 0,.slice none 0 0]:Array Value).all (·.oneCell')=true):=hQ9 (by simp [Value.oneCell'])
 have z0:=Ag.new w 169 (zS24)
 have g0:=ze (za w) (.cells (zS24) 169)
 go_enter Tryz.func88,Tryz.ntmps88
 go_wp2_with fail
 refine(CS.out _).mono ?_
 rintro e w1 ⟨⟨v1,rfl,o1⟩,gg⟩
 have z1:=z0.grew gg
 have g1:=zc g0 gg
 obtain⟨g,k1,rfl,hk1,hgl,hcs⟩:=yN o1 (by simp)
 have x0:w1.cell? ⟨g,0,none⟩=some (.string t0):=by simpa using hcs 0 (.string t0) rfl
 have x1:w1.cell? ⟨g,1,none⟩=some (.string t1):=by simpa using hcs 1 (.string t1) rfl
 have x2:w1.cell? ⟨g,2,none⟩=some (.string t2):=by simpa using hcs 2 (.string t2) rfl
 have x3:w1.cell? ⟨g,3,none⟩=some (.string t3):=by simpa using hcs 3 (.string t3) rfl
 clear CS z0 g0 gg o1 hcs
 have hk1':(4:Int)≤(k1:Int):=by
  have:4≤k1:=hk1
  omega
 go_wp2_with fail
 refine(N1.out _).mono ?_
 rintro e w2 ⟨rfl,hw2⟩
 have gg:Grew w1 w2:=by rw [hw2];exact za _
 clear hw2
 have y0:=(gg.cell (p:=⟨g,0,none⟩) hgl).trans x0
 have y2:=(gg.cell (p:=⟨g,2,none⟩) hgl).trans x2
 have y3:=(gg.cell (p:=⟨g,3,none⟩) hgl).trans x3
 have hgl2:=Nat.lt_of_lt_of_le hgl gg.size
 have z2:=z1.grew gg
 have g2:=zc g1 gg
 clear N1 x0 x1 x2 x3 z1 g1 gg hgl
 go_wp2_with fail
 refine(N2.out _).mono ?_
 rintro e w3 ⟨rfl,hw3⟩
 have gg:Grew w2 w3:=by rw [hw3];exact za _
 clear hw3
 have x0:=(gg.cell (p:=⟨g,0,none⟩) hgl2).trans y0
 have x3:=(gg.cell (p:=⟨g,3,none⟩) hgl2).trans y3
 have hgl3:=Nat.lt_of_lt_of_le hgl2 gg.size
 have z3:=z2.grew gg
 have g3:=zc g2 gg
 clear N2 y0 y2 y3 z2 g2 gg hgl2
 by_cases h1:a1=0
 case neg =>
  have HE:=HEZ _ (by simp [h1]) HE0.out
  have e1:(a1 != 0)=true:=by simpa using h1
  clear h1 HE0
  have HTH:Hid (w3.there w.heap.size 0 (zS24:Array Value).size):=hQ9 (z3.thereN 24 rfl)
  have zZ:=Ag.set (vs:=(zS24:Array Value).toList) z3 rfl
  have gZ:=zg (o:=0) (b:=w.heap.size) (zS24:Array Value).toList g3 (Nat.le_refl _)
  go_wp2_with(first
   | (with_reducible refine wpList_store_mid rfl 169 (.tmp 2) (.tmp 50) rfl w.heap.size 0 (zS24) rfl rfl HTH.out HSI.out HON.out ?_)
   | (go_at_call 150;refine(yS n1 _ SM.out _).mono ?_;rintro e z ⟨rfl,hz⟩;rw [hz];clear hz))
  exact bodyPost_ret (zh Tryz.results88 _ _ w.heap.size _ _ _ rfl rfl zZ hut rfl HSIL.out) rfl ⟨⟨none,0,by rw [HE.out.1,HE.out.2];rfl,by rw [HE.out.2];exact fun k hk=>absurd hk (by simp [StR.zero,u64L]),fun ad h=>by cases h⟩,gZ⟩
 subst h1
 by_cases h2:a2=0
 case neg =>
  have HE:=HEZ _ (by simp [h2]) HE0.out
  have e1:(a2 != 0)=true:=by simpa using h2
  clear h2 HE0
  have HTH:Hid (w3.there w.heap.size 0 (zS24:Array Value).size):=hQ9 (z3.thereN 24 rfl)
  have zZ:=Ag.set (vs:=(zS24:Array Value).toList) z3 rfl
  have gZ:=zg (o:=0) (b:=w.heap.size) (zS24:Array Value).toList g3 (Nat.le_refl _)
  go_wp2_with(first
   | (with_reducible refine wpList_store_mid rfl 169 (.tmp 2) (.tmp 50) rfl w.heap.size 0 (zS24) rfl rfl HTH.out HSI.out HON.out ?_)
   | (go_at_call 150;refine(yS n1 _ SM.out _).mono ?_;rintro e z ⟨rfl,hz⟩;rw [hz];clear hz))
  exact bodyPost_ret (zh Tryz.results88 _ _ w.heap.size _ _ _ rfl rfl zZ hut rfl HSIL.out) rfl ⟨⟨none,0,by rw [HE.out.1,HE.out.2];rfl,by rw [HE.out.2];exact fun k hk=>absurd hk (by simp [StR.zero,u64L]),fun ad h=>by cases h⟩,gZ⟩
 subst h2
 by_cases h3:-2147483648≤n1∧n1≤2147483647
 case neg =>
  have HE:=HEZ _ (by simp [smallB,h3]) HE0.out
  have SM:Hid (decide (smallC n1)=false):=hQ9 (decide_eq_false (by unfold smallC;omega))
  clear HE0
  have HTH:Hid (w3.there w.heap.size 0 (zS24:Array Value).size):=hQ9 (z3.thereN 24 rfl)
  have zZ:=Ag.set (vs:=(zS24:Array Value).toList) z3 rfl
  have gZ:=zg (o:=0) (b:=w.heap.size) (zS24:Array Value).toList g3 (Nat.le_refl _)
  clear h3
  go_wp2_with(first
   | (with_reducible refine wpList_store_mid rfl 169 (.tmp 2) (.tmp 50) rfl w.heap.size 0 (zS24) rfl rfl HTH.out HSI.out HON.out ?_)
   | (go_at_call 150;refine(yS n1 _ SM.out _).mono ?_;rintro e z ⟨rfl,hz⟩;rw [hz];clear hz))
  exact bodyPost_ret (zh Tryz.results88 _ _ w.heap.size _ _ _ rfl rfl zZ hut rfl HSIL.out) rfl ⟨⟨none,0,by rw [HE.out.1,HE.out.2];rfl,by rw [HE.out.2];exact fun k hk=>absurd hk (by simp [StR.zero,u64L]),fun ad h=>by cases h⟩,gZ⟩
 have hw1:¬n1 < -2147483648:=by omega
 have hw2:¬2147483647<n1:=by omega
 have SM:Hid (decide (smallC n1)=true):=hQ9 (decide_eq_true (by unfold smallC;omega))
 have HB3:Hid (smallB n1=true):=hQ9 (decide_eq_true h3)
 clear h3
 go_wp2_with(go_at_call 150;refine(yS n1 _ SM.out _).mono ?_;rintro e z ⟨rfl,hz⟩;rw [hz];clear hz)
 refine(HP.out _).mono ?_
 rintro e v3 ⟨rfl,rfl⟩
 cases o0 with
 | none =>
  have HE:=HEZ _ (by simp) HE0.out
  clear HE0
  have HTH:Hid (w3.there w.heap.size 0 (zS24:Array Value).size):=hQ9 (z3.thereN 24 rfl)
  have zZ:=Ag.set (vs:=(zS24:Array Value).toList) z3 rfl
  have gZ:=zg (o:=0) (b:=w.heap.size) (zS24:Array Value).toList g3 (Nat.le_refl _)
  rw [qa]
  go_wp2_with(first
   | (with_reducible refine wpList_store_mid rfl 169 (.tmp 2) (.tmp 60) rfl w.heap.size 0 (zS24) rfl rfl HTH.out HSI.out HON.out ?_)
   | (go_at_call 150;refine(yS n1 _ SM.out _).mono ?_;rintro e z ⟨rfl,hz⟩;rw [hz];clear hz))
  exact bodyPost_ret (zh Tryz.results88 _ _ w.heap.size _ _ _ rfl rfl zZ hut rfl HSIL.out) rfl ⟨⟨none,0,by rw [HE.out.1,HE.out.2];rfl,by rw [HE.out.2];exact fun k hk=>absurd hk (by simp [StR.zero,u64L]),fun ad h=>by cases h⟩,gZ⟩
 | some cm =>
  rw [jZ]
  go_wp2_with fail
  refine(KP.out _).mono ?_
  rintro e w4 ⟨⟨A,c,rfl,r4,hA4⟩,gg⟩
  have z4:=z3.grew gg
  have g4:=zc g3 gg
  have HSI1:Hid ((Tryz.prog.info? 132).map (·.size)=some (sgC sw lf s (.slice A l.length c)).size):=hQ9 zW
  have HSL1:Hid ((Tryz.prog.info? 132).map (·.size)=some (sgC sw lf s (.slice A l.length c)).toList.length):=hQ9 zW
  have HON1:=hQ9 (y7 sw lf s A l.length c)
  have HBU:=hQ9 (zem cm n1 n2 sw lf s A l.length c)
  have zt:=Ag.new w4 132 (zS21)
  have HTH1:Hid ((w4.alloc (.cells (zS21) 132)).there w4.heap.size 0 (sgC sw lf s (.slice A l.length c)).size):=hQ9 (zt.thereN 21 rfl)
  have z5:=Ag.set (vs:=(sgC sw lf s (.slice A l.length c)).toList) zt rfl
  have g5:Grew w4 ((w4.alloc (.cells (zS21) 132)).setCells w4.heap.size 0 (sgC sw lf s (.slice A l.length c)).toList):=zg (o:=0) (b:=w4.heap.size) (sgC sw lf s (.slice A l.length c)).toList (ze (za w4) _) (Nat.le_refl _)
  have z6:=z4.grew g5
  have r6:=r4.gr g5
  have g6:=zc g4 g5
  obtain⟨g1,hg1⟩:∃ g,sgC sw lf s (.slice A l.length c)=g:=⟨_,rfl⟩
  rw [hg1]at HSI1 HSL1 HON1 HTH1 HBU z5 z6 r6 g6 ⊢
  obtain⟨w6,hw6⟩:∃ v,(w4.alloc (.cells (zS21) 132)).setCells w4.heap.size 0 g1.toList=v:=⟨_,rfl⟩
  rw [hw6]at z5 z6 r6 g6
  have HW6:=hQ9 hw6
  have hm5:=z5.cell
  have hz3:=z3.lt
  have HFR:Hid (∀ ad,A=some ad→w.heap.size<ad.block):=hQ9 (fun ad e=>by have:=hA4 ad e;omega)
  clear hz3 hA4 hw6 hg1 zt g5 x0 x3 z3 g3 z4 g4 gg r4 hgl3 KP HP
  cases b3 with
  | false =>
   have HE:=HEZ _ (by simp) HE0.out
   have he3:e3=2:=HO3.out
   subst he3
   clear HE0 HO3
   have HTH:Hid (w6.there w.heap.size 0 (zS24:Array Value).size):=hQ9 (z6.thereN 24 rfl)
   have zZ:=Ag.set (vs:=(zS24:Array Value).toList) z6 rfl
   have gZ:=zg (o:=0) (b:=w.heap.size) (zS24:Array Value).toList g6 (Nat.le_refl _)
   go_wp2_with(first
    | (with_reducible refine wpList_store_mid rfl 132 (.tmp 11) (.tmp 67) rfl w4.heap.size 0 g1 rfl rfl HTH1.out HSI1.out HON1.out ?_;rw [HW6.out];clear HW6 HTH1)
    | (with_reducible refine wpList_store_mid rfl 169 (.tmp 2) (.tmp 71) rfl w.heap.size 0 (zS24) rfl rfl HTH.out HSI.out HON.out ?_)
    | (go_at_call 150;refine(yS n1 _ SM.out _).mono ?_;rintro e z ⟨rfl,hz⟩;rw [hz];clear hz))
   exact bodyPost_ret (zh Tryz.results88 _ _ w.heap.size _ _ _ rfl rfl zZ hut rfl HSIL.out) rfl ⟨⟨none,0,by rw [HE.out.1,HE.out.2];rfl,by rw [HE.out.2];exact fun k hk=>absurd hk (by simp [StR.zero,u64L]),fun ad h=>by cases h⟩,gZ⟩
  | true =>
   have he3:e3=0:=HO3.out
   subst he3
   have HE:Hid (eS=0∧oS=⟨cm,n1,n2,((sw,lf),s,l)⟩):=hQ9 (by have:=HE0.out;simpa [HB3.out]using this)
   clear HE0 HO3
   have HTZ:Hid (w6.there w.heap.size 0 (stC cm n1 n2 sw lf s (.slice A l.length c)).size):=hQ9 (z6.thereN 24 rfl)
   have HOZ:=hQ9 (ka cm n1 n2 sw lf s A l.length c)
   have HSZ:Hid ((Tryz.prog.info? 169).map (·.size)=some (stC cm n1 n2 sw lf s (.slice A l.length c)).size):=hQ9 xn
   have HSZL:Hid ((Tryz.prog.info? 169).map (·.size)=some (stC cm n1 n2 sw lf s (.slice A l.length c)).toList.length):=hQ9 xn
   have z7:=Ag.set (vs:=(stC cm n1 n2 sw lf s (.slice A l.length c)).toList) z6 rfl
   have K7:=zG (stC cm n1 n2 sw lf s (.slice A l.length c)).toList w.heap.size 0 w6
   have G7:=zg (o:=0) (b:=w.heap.size) (stC cm n1 n2 sw lf s (.slice A l.length c)).toList g6 (Nat.le_refl _)
   have R7:Rd (w6.setCells w.heap.size 0 (stC cm n1 n2 sw lf s (.slice A l.length c)).toList) (w6.setCells w.heap.size 0 (stC cm n1 n2 sw lf s (.slice A l.length c)).toList).heap.size A (u64L l) :=
    (r6.kp K7 (Nat.le_refl _) (fun ad e1 _ (e3:ad.block=w.heap.size)=>by have:=HFR.out ad e1;omega)).more K7.size
   obtain⟨g2,hg2⟩:∃ g,stC cm n1 n2 sw lf s (.slice A l.length c)=g:=⟨_,rfl⟩
   have HG2':=hQ9 hg2
   rw [hg2]at HTZ HOZ HSZ HSZL HBU z7 G7 R7
   clear z6 K7 r6 g6 hg2
   go_wp2_with(first
    | (with_reducible refine wpList_store_mid rfl 132 (.tmp 11) (.tmp 67) rfl w4.heap.size 0 g1 rfl rfl HTH1.out HSI1.out HON1.out ?_;rw [HW6.out];clear HW6 HTH1)
    | (with_reducible refine wpList_load_mid rfl 132 (.tmp 11) rfl w4.heap.size 0 rfl g1.toList _ hm5 hus rfl HSL1.out ?_;simp only [Array.toArray_toList])
    | (with_reducible refine zI rfl 169 #[(0,.tmp 73),(1,.tmp 74),(2,.tmp 75),(3,.tmp 76)] rfl g2 ?_ ?_;· simpa [Act.eval,Act.put]using HBU.out)
    | (with_reducible refine wpList_store_mid rfl 169 (.tmp 2) (.tmp 77) rfl w.heap.size 0 g2 rfl rfl HTZ.out HSZ.out HOZ.out ?_))
   exact bodyPost_ret (zh Tryz.results88 _ _ w.heap.size _ _ _ rfl rfl z7 hut rfl HSZL.out) rfl ⟨⟨A,c,by rw [HE.out.1,HE.out.2];show Ending.returned (.tuple #[.agg g2.toList.toArray,.int .i64 0])=_;rw [Array.toArray_toList,←HG2'.out];rfl,by rw [HE.out.2];exact R7,HFR.out⟩,G7⟩
theorem zgw (tj:ByteArray) (hz:tj.size≤1000000) (w:World)  :
 Calls Tryz.prog 88 #[.string tj] w fun e w'=>(∃ A c,e=.returned (.tuple #[.agg ((stO tj.data.toList).v (.slice A (stO tj.data.toList).g.2.2.length c)),.int .i64 (stE tj.data.toList)])∧Rd w' w'.heap.size A (u64L (stO tj.data.toList).g.2.2)∧(∀ ad,A=some ad→w.heap.size<ad.block))∧Grew w w':=by
 have hlen:tj.data.toList.length≤1000000:=by rw [yc];exact hz
 by_cases h4:∃ x0 x1 x2 x3,splitF tj.data.toList=some [x0,x1,x2,x3]
 ·obtain⟨x0,x1,x2,x3,hsp⟩:=h4
  have g:=fun x hx=>Nat.le_trans (kb hsp x hx) hlen
  exact ze2 tj x0 x1 x2 x3 hsp hz (g x0 (by simp)) (g x1 (by simp)) (g x2 (by simp)) (g x3 (by simp)) w 
 ·exact zdf tj hz (fun a b c d h=>h4 ⟨a,b,c,d,h⟩) w
structure AgT (w:World) (B:Nat) (cm:Nat) (who at_ sw lf:Int) (s:Nat→Nat) (l:List Nat) (v:Value):Prop where
 out:∃ A c,v=.agg (stC cm who at_ sw lf s (.slice A l.length c))∧Rd w w.heap.size A (u64L l)∧(∀ ad,A=some ad→B≤ad.block)
theorem AgT.gr {w w':World} {B cm:Nat} {who at_ sw lf:Int} {s:Nat→Nat} {l:List Nat} {v:Value} (h:AgT w B cm who at_ sw lf s l v) (g:Grew w w'):AgT w' B cm who at_ sw lf s l v:=by
 obtain⟨A,c,h1,h2,h3⟩:=h.out
 exact⟨A,c,h1,h2.gr g,h3⟩
theorem kof_fr (who leaf:Int) (s:Nat→Nat) (A:Option Addr) (c:Nat) (l:List Nat) (hl:l.length≤1048576) (w:World) (hr:Rd w w.heap.size A (u64L l)) :
 Calls Tryz.prog 162 #[.agg (sgC who leaf s (.slice A l.length c))] w fun e w'=>∃ A' c',e=.returned (.agg (sgC who leaf s (.slice A' l.length c')))∧Rd w' w'.heap.size A' (u64L l)∧Grew w w'∧(∀ ad,A'=some ad→w.heap.size≤ad.block):=by
 have z0:=Ag.new w 89 (sgC who leaf s (.slice A l.length c))
 have G0:=ze (za w) (.cells (sgC who leaf s (.slice A l.length c)) 89)
 have hwz:w.heap.size<(w.alloc (.cells (sgC who leaf s (.slice A l.length c)) 89)).heap.size:=z0.lt
 have HIA:Hid ((Tryz.prog.info? 87).map (·.size)=some (arrU s).toList.length):=hQ9 (by rw [show(arrU s).toList.length=18 by simp [arrU]];kernel_rfl)
 have hua:=Tryz.underlying87
 have hur:=Tryz.underlying132
 go_enter Tryz.func162,Tryz.ntmps162
 go_wp2_with fail
 have z2:Ag ((w.alloc (.cells (sgC who leaf s (.slice A l.length c)) 89)).alloc (.cells (zS21) 132)) (w.heap.size+1) (zS21:Array Value).toList:=by
  have:=Ag.new (w.alloc (.cells (sgC who leaf s (.slice A l.length c)) 89)) 132 (zS21)
  simpa using this
 have z1:=z0.grew (ze (za _) (.cells (zS21) 132))
 have G2:=ze G0 (.cells (zS21) 132)
 clear z0 G0 hwz
 generalize (w.alloc (.cells (sgC who leaf s (.slice A l.length c)) 89)).alloc (.cells (zS21) 132)=w2 at *
 have HC0:Hid (∀ y,Grew w2 y→y.cell? ⟨w.heap.size,0,none⟩=some (.int .i64 who)):=hQ9 (fun y g=>by simpa using (z1.grew g).cell 0 _ rfl)
 have HC1:Hid (∀ y,Grew w2 y→y.cell? ⟨w.heap.size,1,none⟩=some (.int .i64 leaf)):=hQ9 (fun y g=>by simpa using (z1.grew g).cell 1 _ rfl)
 have HC20:Hid (∀ y,Grew w2 y→y.cell? ⟨w.heap.size,20,none⟩=some (.slice A l.length c)):=hQ9 (fun y g=>by simpa using (z1.grew g).cell 20 _ rfl)
 have HCM:Hid (∀ y,Grew w2 y→y.rangeAt w.heap.size 2 (arrU s).toList):=hQ9 (fun y g=>xz (z1.grew g))
 have r2:=hr.gr G2
 have HRY:=hQ9 (fun y (g:Grew w2 y)=>r2.gr g)
 clear z1 hr r2
 refine zH 11 (fun i=>match i with
  | 0=>fun v _=>v=.pointer (some ⟨w.heap.size,0,none⟩)
  | 1=>fun v _=>v=.int .i64 who
  | 2=>fun v _=>v=.pointer (some ⟨w.heap.size,1,none⟩)
  | 3=>fun v _=>v=.int .i64 leaf
  | 4=>fun v _=>v=.pointer (some ⟨w.heap.size,2,none⟩)
  | 5=>fun v _=>v=.agg (arrU s)
  | 6=>fun v _=>v=.agg (arrU s)
  | 7=>fun v _=>v=.pointer (some ⟨w.heap.size,20,none⟩)
  | 8=>fun v _=>v=.slice A l.length c
  | 9=>fun v w=>PV w w2.heap.size l v
  | 10=>fun v w=>AgS w w2.heap.size who leaf s l v
  | _=>fun _ _=>True) (by kernel_rfl) (by kernel_rfl) ?_ ?_ ?_
 ·intro i v x y h hg
  match i,h with
  | 0,h | 1,h | 2,h | 3,h | 4,h | 5,h | 6,h | 7,h | 8,h=>exact h
  | 9,h=>exact PV.gr h hg
  | 10,h=>exact AgS.gr h hg
  | m+11,_=>trivial
 ·simp only [actOf,tk1,tk0,dr1,dr0,Act.put,si1,st1,st0,Nat.reduceAdd]
  refine⟨?_,?_,?_,?_,?_,?_,?_,?_,?_,?_,?_,trivial⟩
  ·intro vs y hg hd
   dsimp only
   go_wp2_with fail
   exact⟨rfl,_,rfl,za _,rfl⟩
  ·intro vs y hg hd
   obtain⟨h0,_⟩:=hd
   replace h0:=h0 rfl
   dsimp only
   rw [show vs 0=_ from h0]
   have hc:=HC0.out y hg
   go_wp2_with fail
   exact⟨rfl,_,rfl,za _,rfl⟩
  ·intro vs y hg hd
   dsimp only
   go_wp2_with fail
   exact⟨rfl,_,rfl,za _,rfl⟩
  ·intro vs y hg hd
   obtain⟨h2,_⟩:=hd
   replace h2:=h2 rfl
   dsimp only
   rw [show vs 2=_ from h2]
   have hc:=HC1.out y hg
   go_wp2_with fail
   exact⟨rfl,_,rfl,za _,rfl⟩
  ·intro vs y hg hd
   dsimp only
   go_wp2_with fail
   exact⟨rfl,_,rfl,za _,rfl⟩
  ·intro vs y hg hd
   obtain⟨h4,_⟩:=hd
   replace h4:=h4 rfl
   dsimp only
   rw [show vs 4=_ from h4]
   have hm:=HCM.out y hg
   go_wp2_with(with_reducible refine wpList_load_mid rfl 87 (.tmp 7) rfl w.heap.size 2 rfl (arrU s).toList _ hm hua rfl HIA.out ?_)
   exact⟨rfl,_,rfl,za _,rfl⟩
  ·intro vs y hg hd
   obtain⟨h5,_⟩:=hd
   replace h5:=h5 rfl
   dsimp only
   rw [show vs 5=_ from h5]
   go_wp2_with(go_at_call 221;refine(of_row s y).mono ?_;rintro e z ⟨rfl,gz⟩)
   exact⟨rfl,_,rfl,gz,rfl⟩
  ·intro vs y hg hd
   dsimp only
   go_wp2_with fail
   exact⟨rfl,_,rfl,za _,rfl⟩
  ·intro vs y hg hd
   obtain⟨h7,_⟩:=hd
   replace h7:=h7 rfl
   dsimp only
   rw [show vs 7=_ from h7]
   have hc:=HC20.out y hg
   go_wp2_with fail
   exact⟨rfl,_,rfl,za _,rfl⟩
  ·intro vs y hg hd
   obtain⟨h8,_⟩:=hd
   replace h8:=h8 rfl
   dsimp only
   rw [show vs 8=_ from h8]
   go_wp2_with(go_at_call 222;refine(zpb A c y.heap.size l hl y (HRY.out y hg) (Nat.le_refl _)).mono ?_;rintro e z ⟨A2,c2,rfl,hr9,hb9,gz⟩)
   exact⟨rfl,_,rfl,gz,⟨A2,c2,rfl,hr9,fun ad h=>Nat.le_trans hg.size (hb9 ad h)⟩⟩
  ·intro vs y hg hd
   obtain⟨h1,h3,h6,h9,_⟩:=hd
   replace h1:=h1 rfl
   replace h3:=h3 rfl
   replace h6:=h6 rfl
   replace h9:=h9 rfl
   dsimp only
   rw [show vs 1=_ from h1,show vs 3=_ from h3,show vs 6=_ from h6]
   obtain⟨A2,c2,hv,hr9,hb9⟩:=PV.out h9
   rw [hv]
   have hbu:=zpe who leaf s A2 l.length c2
   generalize arrU s=aa at *
   refine zI rfl 132 #[(0,.tmp 4),(1,.tmp 6),(2,.tmp 9),(3,.tmp 12)] rfl _ (by simpa [Act.eval]using hbu) ?_
   go_wp2_with fail
   exact⟨rfl,_,rfl,za _,⟨A2,c2,rfl,hr9,hb9⟩⟩
 ·intro vs y hg hJ
  have j0:vs 0=.pointer (some ⟨w.heap.size,0,none⟩):=hJ 0 (by decide)
  have j1:vs 1=.int .i64 who:=hJ 1 (by decide)
  have j2:vs 2=.pointer (some ⟨w.heap.size,1,none⟩):=hJ 2 (by decide)
  have j3:vs 3=.int .i64 leaf:=hJ 3 (by decide)
  have j4:vs 4=.pointer (some ⟨w.heap.size,2,none⟩):=hJ 4 (by decide)
  have j5:vs 5=.agg (arrU s):=hJ 5 (by decide)
  have j6:vs 6=.agg (arrU s):=hJ 6 (by decide)
  have j7:vs 7=.pointer (some ⟨w.heap.size,20,none⟩):=hJ 7 (by decide)
  have j8:vs 8=.slice A l.length c:=hJ 8 (by decide)
  simp only [actOf,tk1,tk0,dr1,dr0,Act.put,si1,st1,st0,Nat.reduceAdd]
  obtain⟨A2,c2,j10,r3,hb3⟩:=AgS.out (show AgS y w2.heap.size who leaf s l (vs 10) from hJ 10 (by decide))
  rw [j10]
  clear hJ j0 j1 j2 j3 j4 j5 j6 j7 j8 j10
  have h2:=z2.lt
  have HLO:Hid (∀ ad,A2=some ad→w.heap.size≤ad.block):=hQ9 (fun ad h=>by have:=hb3 ad h;have:=G2.size;omega)
  have HNE:Hid (∀ ad,A2=some ad→ad.block≠w.heap.size+1):=hQ9 (fun ad h=>by have:=hb3 ad h;omega)
  have z3:=z2.grew hg
  have G3:=zc G2 hg
  clear z2 G2 hg hb3 h2
  have HTH:Hid (y.there (w.heap.size+1) 0 (sgC who leaf s (.slice A2 l.length c2)).size):=hQ9 (z3.thereN 21 rfl)
  have HSI:Hid ((Tryz.prog.info? 132).map (·.size)=some (sgC who leaf s (.slice A2 l.length c2)).size):=hQ9 zW
  have HON:=hQ9 (y7 who leaf s A2 l.length c2)
  have K3:=zG (sgC who leaf s (.slice A2 l.length c2)).toList (w.heap.size+1) 0 y
  have r4:=(r3.kp K3 (Nat.le_refl _) (fun ad h1 h2 h3=>HNE.out ad h1 h3)).more K3.size
  have z4:=Ag.set (vs:=(sgC who leaf s (.slice A2 l.length c2)).toList) z3 rfl
  have G4:=zg (o:=0) (b:=w.heap.size+1) (sgC who leaf s (.slice A2 l.length c2)).toList G3 (by omega)
  go_wp2_with(with_reducible refine wpList_store_mid rfl 132 (.tmp 2) (.tmp 13) rfl (w.heap.size+1) 0 (sgC who leaf s (.slice A2 l.length c2)) rfl rfl HTH.out HSI.out HON.out ?_)
  exact bodyPost_ret (yp Tryz.results162 _ _ (w.heap.size+1) _ _ rfl z4 hur rfl zW) rfl ⟨A2,⟨c2,rfl⟩,r4,G4,HLO.out⟩
theorem zr0 (cm:Nat) (who at_ sw lf:Int) (s:Nat→Nat) (A:Option Addr) (c:Nat) (l:List Nat) (hl:l.length≤1048576) (w:World) (hr:Rd w w.heap.size A (u64L l)) :
 Calls Tryz.prog 182 #[.agg (stC cm who at_ sw lf s (.slice A l.length c))] w fun e w'=>∃ A' c',e=.returned (.agg (stC cm who at_ sw lf s (.slice A' l.length c')))∧Rd w' w'.heap.size A' (u64L l)∧Grew w w'∧(∀ ad,A'=some ad→w.heap.size≤ad.block):=by
 have z0:=Ag.new w 91 (stC cm who at_ sw lf s (.slice A l.length c))
 have G0:=ze (za w) (.cells (stC cm who at_ sw lf s (.slice A l.length c)) 91)
 have hus:=Tryz.underlying89
 have hur:=Tryz.underlying169
 have CO:=hQ9 (fun W hR=>kof_fr sw lf s A c l hl W hR)
 have HSL:Hid ((Tryz.prog.info? 89).map (·.size)=some (sgC sw lf s (.slice A l.length c)).toList.length):=hQ9 zR
 go_enter Tryz.func182,Tryz.ntmps182
 go_wp2_with fail
 have z2:Ag ((w.alloc (.cells (stC cm who at_ sw lf s (.slice A l.length c)) 91)).alloc (.cells (zS24) 169)) (w.heap.size+1) (zS24:Array Value).toList:=by
  have:=Ag.new (w.alloc (.cells (stC cm who at_ sw lf s (.slice A l.length c)) 91)) 169 (zS24)
  simpa using this
 have z1:=z0.grew (ze (za _) (.cells (zS24) 169))
 have G2:=ze G0 (.cells (zS24) 169)
 clear z0 G0
 generalize (w.alloc (.cells (stC cm who at_ sw lf s (.slice A l.length c)) 91)).alloc (.cells (zS24) 169)=w2 at *
 have HC0:Hid (∀ y,Grew w2 y→y.cell? ⟨w.heap.size,0,none⟩=some (.int .u64 (cm:Nat))):=hQ9 (fun y g=>by simpa using (z1.grew g).cell 0 _ rfl)
 have HC1:Hid (∀ y,Grew w2 y→y.cell? ⟨w.heap.size,1,none⟩=some (.int .i64 who)):=hQ9 (fun y g=>by simpa using (z1.grew g).cell 1 _ rfl)
 have HC2:Hid (∀ y,Grew w2 y→y.cell? ⟨w.heap.size,2,none⟩=some (.int .i64 at_)):=hQ9 (fun y g=>by simpa using (z1.grew g).cell 2 _ rfl)
 have HCM:Hid (∀ y,Grew w2 y→y.rangeAt w.heap.size 3 (sgC sw lf s (.slice A l.length c)).toList):=hQ9 (fun y g=>xA (z1.grew g).cell)
 have r2:=hr.gr G2
 have HRY:=hQ9 (fun y (g:Grew w2 y)=>r2.gr g)
 clear z1 hr r2
 generalize sgC sw lf s (.slice A l.length c)=gs at *
 refine zH 10 (fun i=>match i with
  | 0=>fun v _=>v=.pointer (some ⟨w.heap.size,0,none⟩)
  | 1=>fun v _=>v=.int .u64 (cm:Nat)
  | 2=>fun v _=>v=.pointer (some ⟨w.heap.size,1,none⟩)
  | 3=>fun v _=>v=.int .i64 who
  | 4=>fun v _=>v=.pointer (some ⟨w.heap.size,2,none⟩)
  | 5=>fun v _=>v=.int .i64 at_
  | 6=>fun v _=>v=.pointer (some ⟨w.heap.size,3,none⟩)
  | 7=>fun v _=>v=.agg gs
  | 8=>fun v w=>AgS w w2.heap.size sw lf s l v
  | 9=>fun v w=>AgT w w2.heap.size cm who at_ sw lf s l v
  | _=>fun _ _=>True) (by kernel_rfl) (by kernel_rfl) ?_ ?_ ?_
 ·intro i v x y h hg
  match i,h with
  | 0,h | 1,h | 2,h | 3,h | 4,h | 5,h | 6,h | 7,h=>exact h
  | 8,h=>exact AgS.gr h hg
  | 9,h=>exact AgT.gr h hg
  | m+10,_=>trivial
 ·simp only [actOf,tk1,tk0,dr1,dr0,Act.put,si1,st1,st0,Nat.reduceAdd]
  refine⟨?_,?_,?_,?_,?_,?_,?_,?_,?_,?_,trivial⟩
  ·intro vs y hg hd
   dsimp only
   go_wp2_with fail
   exact⟨rfl,_,rfl,za _,rfl⟩
  ·intro vs y hg hd
   obtain⟨h0,_⟩:=hd
   replace h0:=h0 rfl
   dsimp only
   rw [show vs 0=_ from h0]
   have hc:=HC0.out y hg
   go_wp2_with fail
   exact⟨rfl,_,rfl,za _,rfl⟩
  ·intro vs y hg hd
   dsimp only
   go_wp2_with fail
   exact⟨rfl,_,rfl,za _,rfl⟩
  ·intro vs y hg hd
   obtain⟨h2,_⟩:=hd
   replace h2:=h2 rfl
   dsimp only
   rw [show vs 2=_ from h2]
   have hc:=HC1.out y hg
   go_wp2_with fail
   exact⟨rfl,_,rfl,za _,rfl⟩
  ·intro vs y hg hd
   dsimp only
   go_wp2_with fail
   exact⟨rfl,_,rfl,za _,rfl⟩
  ·intro vs y hg hd
   obtain⟨h4,_⟩:=hd
   replace h4:=h4 rfl
   dsimp only
   rw [show vs 4=_ from h4]
   have hc:=HC2.out y hg
   go_wp2_with fail
   exact⟨rfl,_,rfl,za _,rfl⟩
  ·intro vs y hg hd
   dsimp only
   go_wp2_with fail
   exact⟨rfl,_,rfl,za _,rfl⟩
  ·intro vs y hg hd
   obtain⟨h6,_⟩:=hd
   replace h6:=h6 rfl
   dsimp only
   rw [show vs 6=_ from h6]
   have hm:=HCM.out y hg
   go_wp2_with(with_reducible refine wpList_load_mid rfl 89 (.tmp 9) rfl w.heap.size 3 rfl gs.toList _ hm hus rfl HSL.out ?_;simp only [Array.toArray_toList])
   exact⟨rfl,_,rfl,za _,rfl⟩
  ·intro vs y hg hd
   obtain⟨h7,_⟩:=hd
   replace h7:=h7 rfl
   dsimp only
   rw [show vs 7=_ from h7]
   go_wp2_with(go_at_call 162;refine(CO.out y (HRY.out y hg)).mono ?_;rintro e z ⟨A2,c2,rfl,hr2,gz,hb2⟩)
   exact⟨rfl,_,rfl,gz,⟨A2,c2,rfl,hr2,fun ad h=>by have:=hb2 ad h;have:=hg.size;omega⟩⟩
  ·intro vs y hg hd
   obtain⟨h1,h3,h5,h8,_⟩:=hd
   replace h1:=h1 rfl
   replace h3:=h3 rfl
   replace h5:=h5 rfl
   replace h8:=h8 rfl
   dsimp only
   rw [show vs 1=_ from h1,show vs 3=_ from h3,show vs 5=_ from h5]
   obtain⟨A2,c2,hv,hr2,hb2⟩:=AgS.out h8
   rw [hv]
   have HBU:=hQ9 (zem cm who at_ sw lf s A2 l.length c2)
   go_wp2_with(with_reducible refine zI rfl 169 #[(0,.tmp 4),(1,.tmp 6),(2,.tmp 8),(3,.tmp 11)] rfl (stC cm who at_ sw lf s (.slice A2 l.length c2)) ?_ ?_;· simpa [Act.eval,Act.put]using HBU.out)
   exact⟨rfl,_,rfl,za _,⟨A2,c2,rfl,hr2,hb2⟩⟩
 ·intro vs y hg hJ
  have j0:vs 0=.pointer (some ⟨w.heap.size,0,none⟩):=hJ 0 (by decide)
  have j1:vs 1=.int .u64 (cm:Nat):=hJ 1 (by decide)
  have j2:vs 2=.pointer (some ⟨w.heap.size,1,none⟩):=hJ 2 (by decide)
  have j3:vs 3=.int .i64 who:=hJ 3 (by decide)
  have j4:vs 4=.pointer (some ⟨w.heap.size,2,none⟩):=hJ 4 (by decide)
  have j5:vs 5=.int .i64 at_:=hJ 5 (by decide)
  have j6:vs 6=.pointer (some ⟨w.heap.size,3,none⟩):=hJ 6 (by decide)
  have j7:vs 7=.agg gs:=hJ 7 (by decide)
  have s11:=hJ 8 (by decide)
  have s12:=hJ 9 (by decide)
  clear hJ
  simp only [actOf,tk1,tk0,dr1,dr0,Act.put,si1,st1,st0,Nat.reduceAdd]
  obtain⟨A2,c2,j9,r3,hb3⟩:=AgT.out s12
  rw [j9]
  clear s11 s12 j9
  have hz1:=z2.lt
  have hz2:=G2.size
  have HNE:Hid (∀ ad,A2=some ad→ad.block≠w.heap.size+1):=hQ9 (fun ad h=>by have:=hb3 ad h;omega)
  have HLO:Hid (∀ ad,A2=some ad→w.heap.size≤ad.block):=hQ9 (fun ad h=>by have:=hb3 ad h;omega)
  have z3:=z2.grew hg
  have G3:=zc G2 hg
  clear z2 G2 hg hb3 hz1 hz2
  have HTH:Hid (y.there (w.heap.size+1) 0 (stC cm who at_ sw lf s (.slice A2 l.length c2)).size):=hQ9 (z3.thereN 24 rfl)
  have HSI:Hid ((Tryz.prog.info? 169).map (·.size)=some (stC cm who at_ sw lf s (.slice A2 l.length c2)).size):=hQ9 xn
  have HON:=hQ9 (ka cm who at_ sw lf s A2 l.length c2)
  have K3:=zG (stC cm who at_ sw lf s (.slice A2 l.length c2)).toList (w.heap.size+1) 0 y
  have r4:=(r3.kp K3 (Nat.le_refl _) (fun ad h1 h2 h3=>HNE.out ad h1 h3)).more K3.size
  have z4:=Ag.set (vs:=(stC cm who at_ sw lf s (.slice A2 l.length c2)).toList) z3 rfl
  have G4:=zg (o:=0) (b:=w.heap.size+1) (stC cm who at_ sw lf s (.slice A2 l.length c2)).toList G3 (by omega)
  go_wp2_with(with_reducible refine wpList_store_mid rfl 169 (.tmp 2) (.tmp 12) rfl (w.heap.size+1) 0 (stC cm who at_ sw lf s (.slice A2 l.length c2)) rfl rfl HTH.out HSI.out HON.out ?_)
  exact bodyPost_ret (yp Tryz.results182 _ _ (w.heap.size+1) _ _ rfl z4 hur rfl xn) rfl ⟨A2,⟨c2,rfl⟩,r4,G4,HLO.out⟩
theorem zkl (cm:Nat) (who at_ sw lf:Int) (s:Nat→Nat) (A A':Option Addr) (c c':Nat) (l:List Nat) (hl:l.length≤1048576) (w:World) (hr:Rd w w.heap.size A (u64L l)) (hr':Rd w w.heap.size A' (u64L l)) :
 Calls Tryz.prog 107 #[.agg (stC cm who at_ sw lf s (.slice A l.length c)),.agg (stC cm who at_ sw lf s (.slice A' l.length c'))] w fun e w'=>e=.returned (.bool true)∧Grew w w':=by
 have z1:=(Ag.new w 169 (stC cm who at_ sw lf s (.slice A l.length c))).grew (ze (za _) (.cells (stC cm who at_ sw lf s (.slice A' l.length c')) 169))
 have z2:=Ag.new (w.alloc (.cells (stC cm who at_ sw lf s (.slice A l.length c)) 169)) 169 (stC cm who at_ sw lf s (.slice A' l.length c'))
 rw [zD]at z2
 have G0:=ze (ze (za w) (.cells (stC cm who at_ sw lf s (.slice A l.length c)) 169)) (.cells (stC cm who at_ sw lf s (.slice A' l.length c')) 169)
 have r1:=hr.gr G0
 have r2:=hr'.gr G0
 have hus:=Tryz.underlying132
 have HL1:Hid ((Tryz.prog.info? 132).map (·.size)=some (sgC sw lf s (.slice A l.length c)).toList.length):=hQ9 zW
 have HL2:Hid ((Tryz.prog.info? 132).map (·.size)=some (sgC sw lf s (.slice A' l.length c')).toList.length):=hQ9 zW
 have m1:=hQ9 (xA z1.cell)
 have m2:=hQ9 (xA z2.cell)
 have x0:((w.alloc (.cells (stC cm who at_ sw lf s (.slice A l.length c)) 169)).alloc (.cells (stC cm who at_ sw lf s (.slice A' l.length c')) 169)).cell? ⟨w.heap.size,0,none⟩=some (.int .u64 (cm:Nat)):=by simpa using z1.cell 0 _ rfl
 have x1:((w.alloc (.cells (stC cm who at_ sw lf s (.slice A l.length c)) 169)).alloc (.cells (stC cm who at_ sw lf s (.slice A' l.length c')) 169)).cell? ⟨w.heap.size,1,none⟩=some (.int .i64 who):=by simpa using z1.cell 1 _ rfl
 have x2:((w.alloc (.cells (stC cm who at_ sw lf s (.slice A l.length c)) 169)).alloc (.cells (stC cm who at_ sw lf s (.slice A' l.length c')) 169)).cell? ⟨w.heap.size,2,none⟩=some (.int .i64 at_):=by simpa using z1.cell 2 _ rfl
 have y0:((w.alloc (.cells (stC cm who at_ sw lf s (.slice A l.length c)) 169)).alloc (.cells (stC cm who at_ sw lf s (.slice A' l.length c')) 169)).cell? ⟨w.heap.size+1,0,none⟩=some (.int .u64 (cm:Nat)):=by simpa using z2.cell 0 _ rfl
 have y1:((w.alloc (.cells (stC cm who at_ sw lf s (.slice A l.length c)) 169)).alloc (.cells (stC cm who at_ sw lf s (.slice A' l.length c')) 169)).cell? ⟨w.heap.size+1,1,none⟩=some (.int .i64 who):=by simpa using z2.cell 1 _ rfl
 have y2:((w.alloc (.cells (stC cm who at_ sw lf s (.slice A l.length c)) 169)).alloc (.cells (stC cm who at_ sw lf s (.slice A' l.length c')) 169)).cell? ⟨w.heap.size+1,2,none⟩=some (.int .i64 at_):=by simpa using z2.cell 2 _ rfl
 have CS:=hQ9 (zpf sw lf s A A' c c' l hl _ r1 r2)
 have e0:((cm:Int)==(cm:Int))=true:=by simp
 have e1:(who==who)=true:=by simp
 have e2:(at_==at_)=true:=by simp
 have GG:=hQ9 G0
 clear z1 z2 r1 r2 G0 hr hr'
 go_enter Tryz.func107,Tryz.ntmps107
 obtain⟨v,hv⟩:∃ v,(w.alloc (.cells (stC cm who at_ sw lf s (.slice A l.length c)) 169)).alloc (.cells (stC cm who at_ sw lf s (.slice A' l.length c')) 169)=v:=⟨_,rfl⟩
 rw [hv]at CS GG x0 x1 x2 y0 y1 y2 m1 m2
 go_wp2_with(first
  | (refine zl (by rfl) 132 (.tmp 25) rfl w.heap.size 3 rfl (sgC sw lf s (.slice A l.length c)).toList _ m1.out hus rfl HL1.out ?_;simp only [Array.toArray_toList])
  | (refine zl (by rfl) 132 (.tmp 27) rfl (w.heap.size+1) 3 rfl (sgC sw lf s (.slice A' l.length c')).toList _ m2.out hus rfl HL2.out ?_;simp only [Array.toArray_toList]))
 refine(CS.out).mono ?_
 rintro e w1 ⟨rfl,gg⟩
 go_wp2_with fail
 go_ret
 exact⟨rfl,zc GG.out gg⟩
theorem zen {x0 x1 x2 x3:List UInt8} (h:st4 x0 x1 x2 x3=true):(pnum x1).2=0∧(pnum x2).2=0∧(-2147483648≤(pnum x1).1∧(pnum x1).1≤2147483647)∧(parseO x0).isSome=true∧(sigP x3).isSome=true:=by
 unfold st4 smallB at h
 simp only [Bool.and_eq_true,decide_eq_true_eq]at h
 exact⟨h.1.1.1.1,h.1.1.1.2,h.1.1.2,h.1.2,h.2⟩
structure StIn (r:StR):Prop where
 cm:r.cm<18446744073709551616
 who:in64 r.who
 at_:in64 r.at_
 sw:in64 r.g.1.1
 lf:in64 r.g.1.2
 s:∀ k,k<18→r.g.2.1 k<18446744073709551616
 l:∀ n∈r.g.2.2,n<18446744073709551616
 len:r.g.2.2.length≤8
theorem stF_in {x0 x1 x2 x3:List UInt8} (h:st4 x0 x1 x2 x3=true):StIn (stF x0 x1 x2 x3):=by
 obtain⟨h1,h2,h3,h4,h5⟩:=zen h
 obtain⟨d,hd⟩:=Option.isSome_iff_exists.1 h4
 have hb:=(jo hd).2
 have a1:=xc h1
 have a2:=xc h2
 have g:=sgO_in x3
 exact⟨by show(parseO x0).getD 0<_;rw [hd];exact hb,⟨a1.2.2.1,a1.2.2.2⟩,⟨a2.2.2.1,a2.2.2.2⟩,g.1,g.2.1,g.2.2.1,g.2.2.2.1,g.2.2.2.2⟩
theorem zi2:StIn .zero:=⟨by decide,⟨by decide,by decide⟩,⟨by decide,by decide⟩,⟨by decide,by decide⟩,⟨by decide,by decide⟩,(fun k _=>by show 0<_;decide),(fun n h=>by cases h),by decide⟩
theorem zm2 (S:List UInt8):StIn (stO S):=by
 unfold stO
 split
 ·split
  ·rename_i h;exact stF_in h
  ·exact zi2
 ·exact zi2
def StR.t (r:StR):List UInt8:=stT r.cm r.who r.at_ r.g.1.1 r.g.1.2 r.g.2.1 r.g.2.2
theorem zgx {S:List UInt8} (h:stE S=0):(stO S).t=S:=by
 cases hs:splitF S with
 | none=>rw [(zbj hs).1]at h;exact absurd h (by decide)
 | some l =>
  by_cases hl:4096<l.length
  ·rw [(zbk hs hl).1]at h;exact absurd h (by decide)
  by_cases h4:l.length=4
  ·match l,h4,hs with
   | [x0,x1,x2,x3],_,hs =>
    obtain⟨e1,e2⟩:=jS hs
    by_cases hb:st4 x0 x1 x2 x3=true
    ·rw [if_pos hb]at e2
     rw [e2]
     obtain⟨h1,h2,h3,h4,h5⟩:=zen hb
     obtain⟨d,hd⟩:=Option.isSome_iff_exists.1 h4
     have b0:=(jo hd).1
     have b1:=(xc h1).1
     have b2:=(xc h2).1
     have b3:=zpw h5
     unfold StR.t stT stF
     dsimp only
     rw [hd,Option.getD_some,b0,b1,b2,b3]
     exact xp S _ hs
    ·rw [if_neg hb]at e1
     rw [e1]at h;exact absurd h (by decide)
  ·rw [(zde hs (by omega) h4).1]at h;exact absurd h (by decide)
structure KV (w:World) (B:Nat) (f:Int) (R:List Nat) (h:Int) (v:Value):Prop where
 out:∃ A c,v=.agg (kyS f A R.length c h)∧Rd w w.heap.size A (u64L R)∧(∀ ad,A=some ad→B≤ad.block)
theorem KV.gr {w w':World} {B:Nat} {f:Int} {R:List Nat} {h:Int} {v:Value} (k:KV w B f R h v) (g:Grew w w'):KV w' B f R h v:=by
 obtain⟨A,c,h1,h2,h3⟩:=k.out
 exact⟨A,c,h1,h2.gr g,h3⟩
theorem zdg:(Tryz.prog.info? 24).map (·.size)=some 3:=by kernel_rfl
theorem zr5 (f h:Int) (A:Option Addr) (n c:Nat):(kyS f A n c h).all (·.oneCell')=true:=by simp [kyS,Value.oneCell']
def whB (f who:Int):Bool:=decide (0≤who∧who<3*f+1)
theorem zr7 (f:Int) (hf:1≤f∧f≤3) (RA:Option Addr) (n Rc:Nat) (h who:Int) (w:World) :
 Calls Tryz.prog 159 #[.agg (kyS f RA n Rc h),.int .i64 who] w fun e w'=>e=.returned (.bool (whB f who))∧Grew w w':=by
 have z0:=Ag.new w 24 (kyS f RA n Rc h)
 have G0:=ze (za w) (.cells (kyS f RA n Rc h) 24)
 have c0:(w.alloc (.cells (kyS f RA n Rc h) 24)).cell? ⟨w.heap.size,0,none⟩=some (.int .i64 f):=by simpa using z0.cell 0 _ rfl
 have CN:=hQ9 (fun W=>rn_ok f hf W)
 obtain⟨nn,hnn⟩:∃ nn,3*f+1=nn:=⟨_,rfl⟩
 have HB:Hid (whB f who=decide (0≤who∧who<nn)):=hQ9 (by unfold whB;rw [hnn])
 rw [hnn]at CN
 clear z0 hnn hf
 by_cases h0:0≤who
 ·by_cases h1:who<nn
  ·have e0:decide (0≤who)=true:=decide_eq_true h0
   have e1:decide (who<nn)=true:=decide_eq_true h1
   rw [HB.out,decide_eq_true ⟨h0,h1⟩]
   clear HB
   go_enter Tryz.func159,Tryz.ntmps159
   go_wp2_with(go_at_call 78;refine(CN.out _).mono ?_;rintro e z ⟨rfl,hz⟩;rw [hz];clear hz)
   go_ret
   exact⟨rfl,G0⟩
  ·have e0:decide (0≤who)=true:=decide_eq_true h0
   have e1:decide (who<nn)=false:=decide_eq_false h1
   rw [HB.out,decide_eq_false (by omega)]
   clear HB
   go_enter Tryz.func159,Tryz.ntmps159
   go_wp2_with(go_at_call 78;refine(CN.out _).mono ?_;rintro e z ⟨rfl,hz⟩;rw [hz];clear hz)
   go_ret
   exact⟨rfl,G0⟩
 ·have e0:decide (0≤who)=false:=decide_eq_false h0
  rw [HB.out,decide_eq_false (by omega)]
  clear HB
  go_enter Tryz.func159,Tryz.ntmps159
  go_wp2_with fail
  go_ret
  exact⟨rfl,G0⟩
theorem zkm (f:Int) (R:List Nat) (RA:Option Addr) (Rc:Nat) (h:Int) (n d:Nat) (sw lf:Int) (s:Nat→Nat) (A:Option Addr) (c:Nat) (l:List Nat) (hn:n≤1000) (hlf:in64 lf) (hl:l.length≤1000) (hs:∀ k,k<18→s k<18446744073709551616) (hb:∀ x∈l,x<18446744073709551616) (hd:d<18446744073709551616)
 (hRl:R.length≤1000) (w:World) (hrR:Rd w w.heap.size RA (u64L R)) (hrl:Rd w w.heap.size A (u64L l)) :
 Calls Tryz.prog 160 #[.agg (kyS f RA R.length Rc h),.int .i64 (n:Int),.agg (sgC sw lf s (.slice A l.length c)),.int .u64 (d:Nat)] w fun e w'=>e=.returned (.bool (decide (ckE R h n d sw lf s l=0)))∧Grew w w':=by
 have z1:=(Ag.new w 24 (kyS f RA R.length Rc h)).grew (ze (za _) (.cells (sgC sw lf s (.slice A l.length c)) 132))
 have z2:=Ag.new (w.alloc (.cells (kyS f RA R.length Rc h) 24)) 132 (sgC sw lf s (.slice A l.length c))
 rw [zD]at z2
 have G0:=ze (ze (za w) (.cells (kyS f RA R.length Rc h) 24)) (.cells (sgC sw lf s (.slice A l.length c)) 132)
 have hug:=Tryz.underlying132
 have HSL:Hid ((Tryz.prog.info? 132).map (·.size)=some (sgC sw lf s (.slice A l.length c)).toList.length):=hQ9 zW
 have CV:=hQ9 (fun W hR=>zj3 (R.getD n 0) sw lf s A c l (d:Int) h (by omega) hlf hs hb ⟨by omega,by omega⟩ W hR)
 have HLL:=hQ9 hrl
 have HRR:=hQ9 hrR
 have HCK:Hid (∀ b,(decide (sw=(n:Int))&&decide (n<R.length)&&vrS (R.getD n 0) lf s l (d:Int) h)=b→decide (ckE R h n d sw lf s l=0)=b):=hQ9 (fun b hb=>by
  rw [←hb]
  unfold ckE
  by_cases a1:R.length≤n
  ·rw [if_pos a1]
   have:¬n<R.length:=by omega
   simp [this]
  ·rw [if_neg a1]
   have a1':n<R.length:=by omega
   by_cases a2:sw=(n:Int)
   ·rw [if_pos a2]
    cases hv:vrS (R.getD n 0) lf s l (d:Int) h<;>simp [a2,a1']
   ·rw [if_neg a2];simp [a2])
 clear hrR hrl hs hb hlf hl hd
 go_enter Tryz.func160,Tryz.ntmps160
 go_wp2_with fail
 generalize (w.alloc (.cells (kyS f RA R.length Rc h) 24)).alloc (.cells (sgC sw lf s (.slice A l.length c)) 132)=w1 at *
 have k1:∀ y:Gr w1,y.val.cell? ⟨w.heap.size,1,none⟩=some (.slice RA R.length Rc):=fun y=>by simpa using (z1.gr y).cell 1 _ rfl
 have k2:∀ y:Gr w1,y.val.cell? ⟨w.heap.size,2,none⟩=some (.int .i64 h):=fun y=>by simpa using (z1.gr y).cell 2 _ rfl
 have k0:∀ y:Gr w1,y.val.cell? ⟨w.heap.size+1,0,none⟩=some (.int .i64 sw):=fun y=>by simpa using (z2.gr y).cell 0 _ rfl
 have M2:Hid (∀ y:Gr w1,y.val.rangeAt (w.heap.size+1) 0 (sgC sw lf s (.slice A l.length c)).toList):=hQ9 (fun y=>(z2.gr y).cell)
 have RL:Hid (∀ y:Gr w1,Rd y.val y.val.heap.size A (u64L l)):=hQ9 (fun y=>(HLL.out.gr G0).gr y.ok)
 have hn0:(0:Int)≤(n:Int):=by omega
 have g0:decide ((0:Int)≤(n:Int))=true:=decide_eq_true hn0
 clear z1 z2 HLL
 by_cases a2:sw=(n:Int)
 case neg =>
  have e2:(sw==(n:Int))=false:=by simpa using a2
  have HE:=HCK.out false (by simp [a2])
  clear HCK a2 HRR
  refine zo (za w1) (by kernel_rfl) (by kernel_rfl) ?_
  repeat (first
   | (go_big_quiet_want;refine zw 132 (.tmp 6) rfl (w.heap.size+1) 0 rfl (sgC sw lf s (.slice A l.length c)).toList _ M2.out hug rfl HSL.out ?_;simp only [Act.put,List.setIfInBounds_toArray,List.set_cons_succ,List.set_cons_zero,Array.toArray_toList];go_big_quiet_on)
   | (go_big_quiet_step (first
    | (go_at_call 220;exact callG (CV.out _ (RL.out _))))))
  refine wpQuiet_nil ?_
  rintro w8 ⟨⟨w8',g8⟩,rfl⟩
  go_wp2_with fail
  go_ret
  exact⟨by rw [HE];rfl,zc G0 g8⟩
 have e2:(sw==(n:Int))=true:=by simpa using a2
 by_cases a1:n<R.length
 case neg =>
  have e1:decide (n<R.length)=false:=decide_eq_false a1
  have HE:=HCK.out false (by simp [a1])
  clear HCK a2 HRR a1
  refine zo (za w1) (by kernel_rfl) (by kernel_rfl) ?_
  repeat (first
   | (go_big_quiet_want;refine zw 132 (.tmp 6) rfl (w.heap.size+1) 0 rfl (sgC sw lf s (.slice A l.length c)).toList _ M2.out hug rfl HSL.out ?_;simp only [Act.put,List.setIfInBounds_toArray,List.set_cons_succ,List.set_cons_zero,Array.toArray_toList];go_big_quiet_on)
   | (go_big_quiet_step (first
    | (go_at_call 220;exact callG (CV.out _ (RL.out _))))))
  refine wpQuiet_nil ?_
  rintro w8 ⟨⟨w8',g8⟩,rfl⟩
  go_wp2_with fail
  go_ret
  exact⟨by rw [HE];rfl,zc G0 g8⟩
 have e1:decide (n<R.length)=true:=decide_eq_true a1
 have hn1:(n:Int)<(R.length:Int):=by omega
 have HE:=HCK.out (vrS (R.getD n 0) lf s l (d:Int) h) (by simp [a2,a1])
 obtain⟨ad,hA,-,-⟩:=HRR.out n (by simpa [u64L]using a1)
 have kR:∀ y:Gr w1,y.val.cell? (ad.add n)=some (.int .u64 (R.getD n 0:Nat)):=fun y=>by
  obtain⟨ad',hA',_,hc⟩:=(HRR.out.gr (zc G0 y.ok)) n (by simpa [u64L]using a1)
  rw [hA]at hA'
  injection hA' with hA'
  subst hA'
  rw [hc]
  simp [u64L,List.getD_eq_getElem?_getD,a1]
 subst hA
 have HE2:=hQ9 HE
 clear HCK a2 HRR HE
 generalize R.getD n 0=root at *
 refine zo (za w1) (by kernel_rfl) (by kernel_rfl) ?_
 repeat (first
  | (go_big_quiet_want;refine zw 132 (.tmp 6) rfl (w.heap.size+1) 0 rfl (sgC sw lf s (.slice A l.length c)).toList _ M2.out hug rfl HSL.out ?_;simp only [Act.put,List.setIfInBounds_toArray,List.set_cons_succ,List.set_cons_zero,Array.toArray_toList];go_big_quiet_on)
  | (go_big_quiet_step (first
   | (go_at_call 220;exact callG (CV.out _ (RL.out _))))))
 refine wpQuiet_nil ?_
 rintro w8 ⟨⟨w8',g8⟩,rfl⟩
 go_wp2_with fail
 go_ret
 exact⟨by rw [HE2.out];rfl,zc G0 g8⟩
theorem ckE_07 (R:List Nat) (h:Int) (n d:Nat) (sw lf:Int) (s:Nat→Nat) (l:List Nat):ckE R h n d sw lf s l=0∨ckE R h n d sw lf s l=7:=by
 unfold ckE
 split
 ·exact .inr rfl
 ·split
  ·split
   ·exact .inl rfl
   ·exact .inr rfl
  ·exact .inr rfl
theorem zh3 (f:Int) (hf:1≤f∧f≤3) (R:List Nat) (RA:Option Addr) (Rc:Nat) (h:Int) (cm:Nat) (who at_ sw lf:Int) (s:Nat→Nat) (A:Option Addr) (c:Nat) (l:List Nat) (hc:cm<18446744073709551616) (hw:in64 who) (ha:in64 at_) (hsw:in64 sw) (hlf:in64 lf) (hl:l.length≤1000) (hs:∀ k,k<18→s k<18446744073709551616) (hb:∀ x∈l,x<18446744073709551616)
 (hRl:R.length≤1000) (w:World) (hrR:Rd w w.heap.size RA (u64L R)) (hrl:Rd w w.heap.size A (u64L l)) :
 Calls Tryz.prog 101 #[.agg (kyS f RA R.length Rc h),.agg (stC cm who at_ sw lf s (.slice A l.length c))] w fun e w'=>e=.returned (.int .i64 (vaE f R h cm who at_ sw lf s l))∧Grew w w':=by
 have huk:=Tryz.underlying24
 have hug:=Tryz.underlying132
 have HSK:Hid ((Tryz.prog.info? 24).map (·.size)=some (kyS f RA R.length Rc h).toList.length):=hQ9 zdg
 have HSG:Hid ((Tryz.prog.info? 132).map (·.size)=some (sgC sw lf s (.slice A l.length c)).toList.length):=hQ9 zW
 have z1:=(Ag.new w 24 (kyS f RA R.length Rc h)).grew (ze (za _) (.cells (stC cm who at_ sw lf s (.slice A l.length c)) 169))
 have z2:=Ag.new (w.alloc (.cells (kyS f RA R.length Rc h) 24)) 169 (stC cm who at_ sw lf s (.slice A l.length c))
 rw [zD]at z2
 have G0:=ze (ze (za w) (.cells (kyS f RA R.length Rc h) 24)) (.cells (stC cm who at_ sw lf s (.slice A l.length c)) 169)
 have b1:((w.alloc (.cells (kyS f RA R.length Rc h) 24)).alloc (.cells (stC cm who at_ sw lf s (.slice A l.length c)) 169)).cell? ⟨w.heap.size+1,1,none⟩=some (.int .i64 who):=by simpa using z2.cell 1 _ rfl
 have hm:=z1.cell
 have CW:=hQ9 (fun W=>zr7 f hf RA R.length Rc h who W)
 have HRR:=hQ9 hrR
 have HLL:=hQ9 hrl
 clear hrR hrl
 by_cases hA:0≤who∧who<3*f+1
 case neg =>
  have HE:Hid (vaE f R h cm who at_ sw lf s l=1):=hQ9 (by
   unfold vaE
   by_cases h0:who<0
   ·rw [if_pos h0]
   ·rw [if_neg h0,if_pos (by omega)])
  rw [show whB f who=false from decide_eq_false hA]at CW
  clear hs hb hA
  go_enter Tryz.func101,Tryz.ntmps101
  go_wp2_with(first
   | (with_reducible refine wpList_load_mid rfl 24 (.tmp 2) rfl w.heap.size 0 rfl (kyS f RA R.length Rc h).toList _ hm huk rfl HSK.out ?_;simp only [Array.toArray_toList]))
  refine(CW.out _).mono ?_
  rintro e w2 ⟨rfl,gg⟩
  have G2:=zc G0 gg
  have y1:=z1.grew gg
  have y2:=z2.grew gg
  have c2:w2.cell? ⟨w.heap.size+1,2,none⟩=some (.int .i64 at_):=by simpa using y2.cell 2 _ rfl
  clear hm z1 z2 gg CW G0
  go_wp2_with fail
  go_ret
  exact⟨by rw [HE.out];rfl,G2⟩
 rw [show whB f who=true from decide_eq_true hA]at CW
 have HV:Hid (vaE f R h cm who at_ sw lf s l=if tmB at_=true then ckE R h who.toNat (stD cm who at_) sw lf s l else 1):=hQ9 (by unfold vaE;rw [if_neg (by omega),if_neg (by omega)])
 by_cases hT:1≤at_∧at_≤1099511627776
 case neg =>
  have HE:Hid (vaE f R h cm who at_ sw lf s l=1):=hQ9 (by rw [HV.out,show tmB at_=false from decide_eq_false hT];rfl)
  clear HV hs hb hA
  rcases(show at_<1∨(¬at_<1∧1099511627776<at_) by omega)with t | ⟨t,t'⟩
  ·have t0:decide (at_<1)=true:=decide_eq_true t
   clear hT t
   go_enter Tryz.func101,Tryz.ntmps101
   go_wp2_with(first
    | (with_reducible refine wpList_load_mid rfl 24 (.tmp 2) rfl w.heap.size 0 rfl (kyS f RA R.length Rc h).toList _ hm huk rfl HSK.out ?_;simp only [Array.toArray_toList]))
   refine(CW.out _).mono ?_
   rintro e w2 ⟨rfl,gg⟩
   have G2:=zc G0 gg
   have y1:=z1.grew gg
   have y2:=z2.grew gg
   have c2:w2.cell? ⟨w.heap.size+1,2,none⟩=some (.int .i64 at_):=by simpa using y2.cell 2 _ rfl
   clear hm z1 z2 gg CW G0
   go_wp2_with fail
   go_ret
   exact⟨by rw [HE.out];rfl,G2⟩
  ·have t0:decide (at_<1)=false:=decide_eq_false t
   have t1:decide (1099511627776<at_)=true:=decide_eq_true t'
   clear hT t t'
   go_enter Tryz.func101,Tryz.ntmps101
   go_wp2_with(first
    | (with_reducible refine wpList_load_mid rfl 24 (.tmp 2) rfl w.heap.size 0 rfl (kyS f RA R.length Rc h).toList _ hm huk rfl HSK.out ?_;simp only [Array.toArray_toList]))
   refine(CW.out _).mono ?_
   rintro e w2 ⟨rfl,gg⟩
   have G2:=zc G0 gg
   have y1:=z1.grew gg
   have y2:=z2.grew gg
   have c2:w2.cell? ⟨w.heap.size+1,2,none⟩=some (.int .i64 at_):=by simpa using y2.cell 2 _ rfl
   clear hm z1 z2 gg CW G0
   go_wp2_with fail
   go_ret
   exact⟨by rw [HE.out];rfl,G2⟩
 obtain⟨n,rfl⟩:=Int.eq_ofNat_of_zero_le hA.1
 have HE:Hid (vaE f R h cm (n:Int) at_ sw lf s l=ckE R h n (stD cm (n:Int) at_) sw lf s l):=hQ9 (by rw [HV.out,show tmB at_=true from decide_eq_true hT];simp)
 have CS:=hQ9 (fun W h1 h2=>zkm f R RA Rc h n (stD cm (n:Int) at_) sw lf s A c l (by omega) hlf hl hs hb (zgh _ _ _) hRl W h1 h2)
 have CD:=hQ9 (fun W=>zgq cm (n:Int) at_ hc hw ha W)
 have t0:decide (at_<1)=false:=decide_eq_false (by omega)
 have t1:decide (1099511627776<at_)=false:=decide_eq_false (by omega)
 have H07:=hQ9 (ckE_07 R h n (stD cm (n:Int) at_) sw lf s l)
 clear HV hs hb hA hT
 generalize stD cm (n:Int) at_=d at *
 generalize ckE R h n d sw lf s l=ck at *
 obtain⟨bk,hbk⟩:∃ b,decide (ck=0)=b:=⟨_,rfl⟩
 rw [hbk]at CS
 have HBK:=hQ9 hbk
 clear hbk
 go_enter Tryz.func101,Tryz.ntmps101
 go_wp2_with(first
  | (with_reducible refine wpList_load_mid rfl 24 (.tmp 2) rfl w.heap.size 0 rfl (kyS f RA R.length Rc h).toList _ hm huk rfl HSK.out ?_;simp only [Array.toArray_toList]))
 refine(CW.out _).mono ?_
 rintro e w2 ⟨rfl,gg⟩
 have G2:=zc G0 gg
 have y1:=z1.grew gg
 have y2:=z2.grew gg
 have c2:w2.cell? ⟨w.heap.size+1,2,none⟩=some (.int .i64 at_):=by simpa using y2.cell 2 _ rfl
 clear hm z1 z2 gg CW G0
 have M1:Hid (∀ y:Gr w2,y.val.rangeAt w.heap.size 0 (kyS f RA R.length Rc h).toList):=hQ9 (fun y=>(y1.gr y).cell)
 have M2:Hid (∀ y:Gr w2,y.val.rangeAt (w.heap.size+1) 3 (sgC sw lf s (.slice A l.length c)).toList):=hQ9 (fun y=>xA (y2.gr y).cell)
 have RR:Hid (∀ y:Gr w2,Rd y.val y.val.heap.size RA (u64L R)):=hQ9 (fun y=>(HRR.out.gr G2).gr y.ok)
 have RL:Hid (∀ y:Gr w2,Rd y.val y.val.heap.size A (u64L l)):=hQ9 (fun y=>(HLL.out.gr G2).gr y.ok)
 have q0:∀ y:Gr w2,y.val.cell? ⟨w.heap.size+1,0,none⟩=some (.int .u64 (cm:Nat)):=fun y=>by simpa using (y2.gr y).cell 0 _ rfl
 have q1:∀ y:Gr w2,y.val.cell? ⟨w.heap.size+1,1,none⟩=some (.int .i64 (n:Int)):=fun y=>by simpa using (y2.gr y).cell 1 _ rfl
 have q2:∀ y:Gr w2,y.val.cell? ⟨w.heap.size+1,2,none⟩=some (.int .i64 at_):=fun y=>by simpa using (y2.gr y).cell 2 _ rfl
 clear y1 y2 HRR HLL
 go_wp2_with fail
 clear c2
 refine zo (za w2) (by kernel_rfl) (by kernel_rfl) ?_
 repeat (first
  | (go_big_quiet_want;refine zw 24 (.tmp 2) rfl w.heap.size 0 rfl (kyS f RA R.length Rc h).toList _ M1.out huk rfl HSK.out ?_;simp only [Act.put,List.setIfInBounds_toArray,List.set_cons_succ,List.set_cons_zero,Array.toArray_toList];go_big_quiet_on)
  | (go_big_quiet_want;refine zw 132 (.tmp 23) rfl (w.heap.size+1) 3 rfl (sgC sw lf s (.slice A l.length c)).toList _ M2.out hug rfl HSG.out ?_;simp only [Act.put,List.setIfInBounds_toArray,List.set_cons_succ,List.set_cons_zero,Array.toArray_toList];go_big_quiet_on)
  | (go_big_quiet_step (first
   | (go_at_call 176;exact callG (CD.out _))
   | (go_at_call 160;exact callG (CS.out _ (RR.out _) (RL.out _))))))
 refine wpQuiet_nil ?_
 rintro w8 ⟨⟨w8',g8⟩,rfl⟩
 cases bk
 ·have HK:Hid (ck=7):=hQ9 (by
   rcases H07.out with hk | hk
   ·have:=HBK.out;simp [hk]at this
   ·exact hk)
  clear HBK
  go_wp2_with fail
  go_ret
  exact⟨by rw [HE.out,HK.out];rfl,zc G2 g8⟩
 ·have HK:Hid (ck=0):=hQ9 (of_decide_eq_true HBK.out)
  clear HBK
  go_wp2_with fail
  go_ret
  exact⟨by rw [HE.out,HK.out];rfl,zc G2 g8⟩
theorem kto_fr (who leaf:Int) (s:Nat→Nat) (A:Option Addr) (c:Nat) (l:List Nat) (hl:l.length≤1048576) (w:World) (hr:Rd w w.heap.size A (u64L l)) :
 Calls Tryz.prog 142 #[.agg (sgC who leaf s (.slice A l.length c))] w fun e w'=>∃ A' c',e=.returned (.agg (sgC who leaf s (.slice A' l.length c')))∧Rd w' w'.heap.size A' (u64L l)∧Grew w w'∧(∀ ad,A'=some ad→w.heap.size≤ad.block):=by
 have z0:=Ag.new w 132 (sgC who leaf s (.slice A l.length c))
 have G0:=ze (za w) (.cells (sgC who leaf s (.slice A l.length c)) 132)
 have hwz:w.heap.size<(w.alloc (.cells (sgC who leaf s (.slice A l.length c)) 132)).heap.size:=z0.lt
 have HIA:Hid ((Tryz.prog.info? 130).map (·.size)=some (arrU s).toList.length):=hQ9 (by rw [show(arrU s).toList.length=18 by simp [arrU]];kernel_rfl)
 have hua:=Tryz.underlying130
 have hur:=Tryz.underlying89
 go_enter Tryz.func142,Tryz.ntmps142
 go_wp2_with fail
 have z2:Ag ((w.alloc (.cells (sgC who leaf s (.slice A l.length c)) 132)).alloc (.cells (zS21) 89)) (w.heap.size+1) (zS21:Array Value).toList:=by
  have:=Ag.new (w.alloc (.cells (sgC who leaf s (.slice A l.length c)) 132)) 89 (zS21)
  simpa using this
 have z1:=z0.grew (ze (za _) (.cells (zS21) 89))
 have G2:=ze G0 (.cells (zS21) 89)
 clear z0 G0 hwz
 generalize (w.alloc (.cells (sgC who leaf s (.slice A l.length c)) 132)).alloc (.cells (zS21) 89)=w2 at *
 have HC0:Hid (∀ y,Grew w2 y→y.cell? ⟨w.heap.size,0,none⟩=some (.int .i64 who)):=hQ9 (fun y g=>by simpa using (z1.grew g).cell 0 _ rfl)
 have HC1:Hid (∀ y,Grew w2 y→y.cell? ⟨w.heap.size,1,none⟩=some (.int .i64 leaf)):=hQ9 (fun y g=>by simpa using (z1.grew g).cell 1 _ rfl)
 have HC20:Hid (∀ y,Grew w2 y→y.cell? ⟨w.heap.size,20,none⟩=some (.slice A l.length c)):=hQ9 (fun y g=>by simpa using (z1.grew g).cell 20 _ rfl)
 have HCM:Hid (∀ y,Grew w2 y→y.rangeAt w.heap.size 2 (arrU s).toList):=hQ9 (fun y g=>xz (z1.grew g))
 have r2:=hr.gr G2
 have HRY:=hQ9 (fun y (g:Grew w2 y)=>r2.gr g)
 clear z1 hr r2
 refine zH 11 (fun i=>match i with
  | 0=>fun v _=>v=.pointer (some ⟨w.heap.size,0,none⟩)
  | 1=>fun v _=>v=.int .i64 who
  | 2=>fun v _=>v=.pointer (some ⟨w.heap.size,1,none⟩)
  | 3=>fun v _=>v=.int .i64 leaf
  | 4=>fun v _=>v=.pointer (some ⟨w.heap.size,2,none⟩)
  | 5=>fun v _=>v=.agg (arrU s)
  | 6=>fun v _=>v=.agg (arrU s)
  | 7=>fun v _=>v=.pointer (some ⟨w.heap.size,20,none⟩)
  | 8=>fun v _=>v=.slice A l.length c
  | 9=>fun v w=>PV w w2.heap.size l v
  | 10=>fun v w=>AgS w w2.heap.size who leaf s l v
  | _=>fun _ _=>True) (by kernel_rfl) (by kernel_rfl) ?_ ?_ ?_
 ·intro i v x y h hg
  match i,h with
  | 0,h | 1,h | 2,h | 3,h | 4,h | 5,h | 6,h | 7,h | 8,h=>exact h
  | 9,h=>exact PV.gr h hg
  | 10,h=>exact AgS.gr h hg
  | m+11,_=>trivial
 ·simp only [actOf,tk1,tk0,dr1,dr0,Act.put,si1,st1,st0,Nat.reduceAdd]
  refine⟨?_,?_,?_,?_,?_,?_,?_,?_,?_,?_,?_,trivial⟩
  ·intro vs y hg hd
   dsimp only
   go_wp2_with fail
   exact⟨rfl,_,rfl,za _,rfl⟩
  ·intro vs y hg hd
   obtain⟨h0,_⟩:=hd
   replace h0:=h0 rfl
   dsimp only
   rw [show vs 0=_ from h0]
   have hc:=HC0.out y hg
   go_wp2_with fail
   exact⟨rfl,_,rfl,za _,rfl⟩
  ·intro vs y hg hd
   dsimp only
   go_wp2_with fail
   exact⟨rfl,_,rfl,za _,rfl⟩
  ·intro vs y hg hd
   obtain⟨h2,_⟩:=hd
   replace h2:=h2 rfl
   dsimp only
   rw [show vs 2=_ from h2]
   have hc:=HC1.out y hg
   go_wp2_with fail
   exact⟨rfl,_,rfl,za _,rfl⟩
  ·intro vs y hg hd
   dsimp only
   go_wp2_with fail
   exact⟨rfl,_,rfl,za _,rfl⟩
  ·intro vs y hg hd
   obtain⟨h4,_⟩:=hd
   replace h4:=h4 rfl
   dsimp only
   rw [show vs 4=_ from h4]
   have hm:=HCM.out y hg
   go_wp2_with(with_reducible refine wpList_load_mid rfl 130 (.tmp 7) rfl w.heap.size 2 rfl (arrU s).toList _ hm hua rfl HIA.out ?_)
   exact⟨rfl,_,rfl,za _,rfl⟩
  ·intro vs y hg hd
   obtain⟨h5,_⟩:=hd
   replace h5:=h5 rfl
   dsimp only
   rw [show vs 5=_ from h5]
   go_wp2_with(go_at_call 209;refine(to_row s y).mono ?_;rintro e z ⟨rfl,gz⟩)
   exact⟨rfl,_,rfl,gz,rfl⟩
  ·intro vs y hg hd
   dsimp only
   go_wp2_with fail
   exact⟨rfl,_,rfl,za _,rfl⟩
  ·intro vs y hg hd
   obtain⟨h7,_⟩:=hd
   replace h7:=h7 rfl
   dsimp only
   rw [show vs 7=_ from h7]
   have hc:=HC20.out y hg
   go_wp2_with fail
   exact⟨rfl,_,rfl,za _,rfl⟩
  ·intro vs y hg hd
   obtain⟨h8,_⟩:=hd
   replace h8:=h8 rfl
   dsimp only
   rw [show vs 8=_ from h8]
   go_wp2_with(go_at_call 97;refine(zgb A c y.heap.size l hl y (HRY.out y hg) (Nat.le_refl _)).mono ?_;rintro e z ⟨A2,c2,rfl,hr9,hb9,gz⟩)
   exact⟨rfl,_,rfl,gz,⟨A2,c2,rfl,hr9,fun ad h=>Nat.le_trans hg.size (hb9 ad h)⟩⟩
  ·intro vs y hg hd
   obtain⟨h1,h3,h6,h9,_⟩:=hd
   replace h1:=h1 rfl
   replace h3:=h3 rfl
   replace h6:=h6 rfl
   replace h9:=h9 rfl
   dsimp only
   rw [show vs 1=_ from h1,show vs 3=_ from h3,show vs 6=_ from h6]
   obtain⟨A2,c2,hv,hr9,hb9⟩:=PV.out h9
   rw [hv]
   have hbu:=zpg who leaf s A2 l.length c2
   generalize arrU s=aa at *
   refine zI rfl 89 #[(0,.tmp 4),(1,.tmp 6),(2,.tmp 9),(3,.tmp 12)] rfl _ (by simpa [Act.eval]using hbu) ?_
   go_wp2_with fail
   exact⟨rfl,_,rfl,za _,⟨A2,c2,rfl,hr9,hb9⟩⟩
 ·intro vs y hg hJ
  have j0:vs 0=.pointer (some ⟨w.heap.size,0,none⟩):=hJ 0 (by decide)
  have j1:vs 1=.int .i64 who:=hJ 1 (by decide)
  have j2:vs 2=.pointer (some ⟨w.heap.size,1,none⟩):=hJ 2 (by decide)
  have j3:vs 3=.int .i64 leaf:=hJ 3 (by decide)
  have j4:vs 4=.pointer (some ⟨w.heap.size,2,none⟩):=hJ 4 (by decide)
  have j5:vs 5=.agg (arrU s):=hJ 5 (by decide)
  have j6:vs 6=.agg (arrU s):=hJ 6 (by decide)
  have j7:vs 7=.pointer (some ⟨w.heap.size,20,none⟩):=hJ 7 (by decide)
  have j8:vs 8=.slice A l.length c:=hJ 8 (by decide)
  simp only [actOf,tk1,tk0,dr1,dr0,Act.put,si1,st1,st0,Nat.reduceAdd]
  obtain⟨A2,c2,j10,r3,hb3⟩:=AgS.out (show AgS y w2.heap.size who leaf s l (vs 10) from hJ 10 (by decide))
  rw [j10]
  clear hJ j0 j1 j2 j3 j4 j5 j6 j7 j8 j10
  have h2:=z2.lt
  have HLO:Hid (∀ ad,A2=some ad→w.heap.size≤ad.block):=hQ9 (fun ad h=>by have:=hb3 ad h;have:=G2.size;omega)
  have HNE:Hid (∀ ad,A2=some ad→ad.block≠w.heap.size+1):=hQ9 (fun ad h=>by have:=hb3 ad h;omega)
  have z3:=z2.grew hg
  have G3:=zc G2 hg
  clear z2 G2 hg hb3 h2
  have HTH:Hid (y.there (w.heap.size+1) 0 (sgC who leaf s (.slice A2 l.length c2)).size):=hQ9 (z3.thereN 21 rfl)
  have HSI:Hid ((Tryz.prog.info? 89).map (·.size)=some (sgC who leaf s (.slice A2 l.length c2)).size):=hQ9 zis
  have HON:=hQ9 (y7 who leaf s A2 l.length c2)
  have K3:=zG (sgC who leaf s (.slice A2 l.length c2)).toList (w.heap.size+1) 0 y
  have r4:=(r3.kp K3 (Nat.le_refl _) (fun ad h1 h2 h3=>HNE.out ad h1 h3)).more K3.size
  have z4:=Ag.set (vs:=(sgC who leaf s (.slice A2 l.length c2)).toList) z3 rfl
  have G4:=zg (o:=0) (b:=w.heap.size+1) (sgC who leaf s (.slice A2 l.length c2)).toList G3 (by omega)
  go_wp2_with(with_reducible refine wpList_store_mid rfl 89 (.tmp 2) (.tmp 13) rfl (w.heap.size+1) 0 (sgC who leaf s (.slice A2 l.length c2)) rfl rfl HTH.out HSI.out HON.out ?_)
  exact bodyPost_ret (yp Tryz.results142 _ _ (w.heap.size+1) _ _ rfl z4 hur rfl zis) rfl ⟨A2,⟨c2,rfl⟩,r4,G4,HLO.out⟩
theorem zr9 (cm:Nat) (who at_ sw lf:Int) (s:Nat→Nat) (A:Option Addr) (c:Nat) (l:List Nat) (hl:l.length≤1048576) (w:World) (hr:Rd w w.heap.size A (u64L l)) :
 Calls Tryz.prog 116 #[.agg (stC cm who at_ sw lf s (.slice A l.length c))] w fun e w'=>∃ A' c',e=.returned (.agg (stC cm who at_ sw lf s (.slice A' l.length c')))∧Rd w' w'.heap.size A' (u64L l)∧Grew w w'∧(∀ ad,A'=some ad→w.heap.size≤ad.block):=by
 have z0:=Ag.new w 169 (stC cm who at_ sw lf s (.slice A l.length c))
 have G0:=ze (za w) (.cells (stC cm who at_ sw lf s (.slice A l.length c)) 169)
 have hus:=Tryz.underlying132
 have hur:=Tryz.underlying91
 have CO:=hQ9 (fun W hR=>kto_fr sw lf s A c l hl W hR)
 have HSL:Hid ((Tryz.prog.info? 132).map (·.size)=some (sgC sw lf s (.slice A l.length c)).toList.length):=hQ9 zW
 go_enter Tryz.func116,Tryz.ntmps116
 go_wp2_with fail
 have z2:Ag ((w.alloc (.cells (stC cm who at_ sw lf s (.slice A l.length c)) 169)).alloc (.cells (zS24) 91)) (w.heap.size+1) (zS24:Array Value).toList:=by
  have:=Ag.new (w.alloc (.cells (stC cm who at_ sw lf s (.slice A l.length c)) 169)) 91 (zS24)
  simpa using this
 have z1:=z0.grew (ze (za _) (.cells (zS24) 91))
 have G2:=ze G0 (.cells (zS24) 91)
 clear z0 G0
 generalize (w.alloc (.cells (stC cm who at_ sw lf s (.slice A l.length c)) 169)).alloc (.cells (zS24) 91)=w2 at *
 have HC0:Hid (∀ y,Grew w2 y→y.cell? ⟨w.heap.size,0,none⟩=some (.int .u64 (cm:Nat))):=hQ9 (fun y g=>by simpa using (z1.grew g).cell 0 _ rfl)
 have HC1:Hid (∀ y,Grew w2 y→y.cell? ⟨w.heap.size,1,none⟩=some (.int .i64 who)):=hQ9 (fun y g=>by simpa using (z1.grew g).cell 1 _ rfl)
 have HC2:Hid (∀ y,Grew w2 y→y.cell? ⟨w.heap.size,2,none⟩=some (.int .i64 at_)):=hQ9 (fun y g=>by simpa using (z1.grew g).cell 2 _ rfl)
 have HCM:Hid (∀ y,Grew w2 y→y.rangeAt w.heap.size 3 (sgC sw lf s (.slice A l.length c)).toList):=hQ9 (fun y g=>xA (z1.grew g).cell)
 have r2:=hr.gr G2
 have HRY:=hQ9 (fun y (g:Grew w2 y)=>r2.gr g)
 clear z1 hr r2
 generalize sgC sw lf s (.slice A l.length c)=gs at *
 refine zH 10 (fun i=>match i with
  | 0=>fun v _=>v=.pointer (some ⟨w.heap.size,0,none⟩)
  | 1=>fun v _=>v=.int .u64 (cm:Nat)
  | 2=>fun v _=>v=.pointer (some ⟨w.heap.size,1,none⟩)
  | 3=>fun v _=>v=.int .i64 who
  | 4=>fun v _=>v=.pointer (some ⟨w.heap.size,2,none⟩)
  | 5=>fun v _=>v=.int .i64 at_
  | 6=>fun v _=>v=.pointer (some ⟨w.heap.size,3,none⟩)
  | 7=>fun v _=>v=.agg gs
  | 8=>fun v w=>AgS w w2.heap.size sw lf s l v
  | 9=>fun v w=>AgT w w2.heap.size cm who at_ sw lf s l v
  | _=>fun _ _=>True) (by kernel_rfl) (by kernel_rfl) ?_ ?_ ?_
 ·intro i v x y h hg
  match i,h with
  | 0,h | 1,h | 2,h | 3,h | 4,h | 5,h | 6,h | 7,h=>exact h
  | 8,h=>exact AgS.gr h hg
  | 9,h=>exact AgT.gr h hg
  | m+10,_=>trivial
 ·simp only [actOf,tk1,tk0,dr1,dr0,Act.put,si1,st1,st0,Nat.reduceAdd]
  refine⟨?_,?_,?_,?_,?_,?_,?_,?_,?_,?_,trivial⟩
  ·intro vs y hg hd
   dsimp only
   go_wp2_with fail
   exact⟨rfl,_,rfl,za _,rfl⟩
  ·intro vs y hg hd
   obtain⟨h0,_⟩:=hd
   replace h0:=h0 rfl
   dsimp only
   rw [show vs 0=_ from h0]
   have hc:=HC0.out y hg
   go_wp2_with fail
   exact⟨rfl,_,rfl,za _,rfl⟩
  ·intro vs y hg hd
   dsimp only
   go_wp2_with fail
   exact⟨rfl,_,rfl,za _,rfl⟩
  ·intro vs y hg hd
   obtain⟨h2,_⟩:=hd
   replace h2:=h2 rfl
   dsimp only
   rw [show vs 2=_ from h2]
   have hc:=HC1.out y hg
   go_wp2_with fail
   exact⟨rfl,_,rfl,za _,rfl⟩
  ·intro vs y hg hd
   dsimp only
   go_wp2_with fail
   exact⟨rfl,_,rfl,za _,rfl⟩
  ·intro vs y hg hd
   obtain⟨h4,_⟩:=hd
   replace h4:=h4 rfl
   dsimp only
   rw [show vs 4=_ from h4]
   have hc:=HC2.out y hg
   go_wp2_with fail
   exact⟨rfl,_,rfl,za _,rfl⟩
  ·intro vs y hg hd
   dsimp only
   go_wp2_with fail
   exact⟨rfl,_,rfl,za _,rfl⟩
  ·intro vs y hg hd
   obtain⟨h6,_⟩:=hd
   replace h6:=h6 rfl
   dsimp only
   rw [show vs 6=_ from h6]
   have hm:=HCM.out y hg
   go_wp2_with(with_reducible refine wpList_load_mid rfl 132 (.tmp 9) rfl w.heap.size 3 rfl gs.toList _ hm hus rfl HSL.out ?_;simp only [Array.toArray_toList])
   exact⟨rfl,_,rfl,za _,rfl⟩
  ·intro vs y hg hd
   obtain⟨h7,_⟩:=hd
   replace h7:=h7 rfl
   dsimp only
   rw [show vs 7=_ from h7]
   go_wp2_with(go_at_call 142;refine(CO.out y (HRY.out y hg)).mono ?_;rintro e z ⟨A2,c2,rfl,hr2,gz,hb2⟩)
   exact⟨rfl,_,rfl,gz,⟨A2,c2,rfl,hr2,fun ad h=>by have:=hb2 ad h;have:=hg.size;omega⟩⟩
  ·intro vs y hg hd
   obtain⟨h1,h3,h5,h8,_⟩:=hd
   replace h1:=h1 rfl
   replace h3:=h3 rfl
   replace h5:=h5 rfl
   replace h8:=h8 rfl
   dsimp only
   rw [show vs 1=_ from h1,show vs 3=_ from h3,show vs 5=_ from h5]
   obtain⟨A2,c2,hv,hr2,hb2⟩:=AgS.out h8
   rw [hv]
   have HBU:=hQ9 (zbf cm who at_ sw lf s A2 l.length c2)
   go_wp2_with(with_reducible refine zI rfl 91 #[(0,.tmp 4),(1,.tmp 6),(2,.tmp 8),(3,.tmp 11)] rfl (stC cm who at_ sw lf s (.slice A2 l.length c2)) ?_ ?_;· simpa [Act.eval,Act.put]using HBU.out)
   exact⟨rfl,_,rfl,za _,⟨A2,c2,rfl,hr2,hb2⟩⟩
 ·intro vs y hg hJ
  have j0:vs 0=.pointer (some ⟨w.heap.size,0,none⟩):=hJ 0 (by decide)
  have j1:vs 1=.int .u64 (cm:Nat):=hJ 1 (by decide)
  have j2:vs 2=.pointer (some ⟨w.heap.size,1,none⟩):=hJ 2 (by decide)
  have j3:vs 3=.int .i64 who:=hJ 3 (by decide)
  have j4:vs 4=.pointer (some ⟨w.heap.size,2,none⟩):=hJ 4 (by decide)
  have j5:vs 5=.int .i64 at_:=hJ 5 (by decide)
  have j6:vs 6=.pointer (some ⟨w.heap.size,3,none⟩):=hJ 6 (by decide)
  have j7:vs 7=.agg gs:=hJ 7 (by decide)
  have s11:=hJ 8 (by decide)
  have s12:=hJ 9 (by decide)
  clear hJ
  simp only [actOf,tk1,tk0,dr1,dr0,Act.put,si1,st1,st0,Nat.reduceAdd]
  obtain⟨A2,c2,j9,r3,hb3⟩:=AgT.out s12
  rw [j9]
  clear s11 s12 j9
  have hz1:=z2.lt
  have hz2:=G2.size
  have HNE:Hid (∀ ad,A2=some ad→ad.block≠w.heap.size+1):=hQ9 (fun ad h=>by have:=hb3 ad h;omega)
  have HLO:Hid (∀ ad,A2=some ad→w.heap.size≤ad.block):=hQ9 (fun ad h=>by have:=hb3 ad h;omega)
  have z3:=z2.grew hg
  have G3:=zc G2 hg
  clear z2 G2 hg hb3 hz1 hz2
  have HTH:Hid (y.there (w.heap.size+1) 0 (stC cm who at_ sw lf s (.slice A2 l.length c2)).size):=hQ9 (z3.thereN 24 rfl)
  have HSI:Hid ((Tryz.prog.info? 91).map (·.size)=some (stC cm who at_ sw lf s (.slice A2 l.length c2)).size):=hQ9 zy
  have HON:=hQ9 (ka cm who at_ sw lf s A2 l.length c2)
  have K3:=zG (stC cm who at_ sw lf s (.slice A2 l.length c2)).toList (w.heap.size+1) 0 y
  have r4:=(r3.kp K3 (Nat.le_refl _) (fun ad h1 h2 h3=>HNE.out ad h1 h3)).more K3.size
  have z4:=Ag.set (vs:=(stC cm who at_ sw lf s (.slice A2 l.length c2)).toList) z3 rfl
  have G4:=zg (o:=0) (b:=w.heap.size+1) (stC cm who at_ sw lf s (.slice A2 l.length c2)).toList G3 (by omega)
  go_wp2_with(with_reducible refine wpList_store_mid rfl 91 (.tmp 2) (.tmp 12) rfl (w.heap.size+1) 0 (stC cm who at_ sw lf s (.slice A2 l.length c2)) rfl rfl HTH.out HSI.out HON.out ?_)
  exact bodyPost_ret (yp Tryz.results116 _ _ (w.heap.size+1) _ _ rfl z4 hur rfl zy) rfl ⟨A2,⟨c2,rfl⟩,r4,G4,HLO.out⟩
theorem zpy (f:Int):Tryz.prog.built 47 [(0,.int .i64 f)]=some #[.int .i64 f]:=by kernel_rfl
theorem zpz (f h:Int) (A:Option Addr) (n c:Nat):Tryz.prog.built 50 [(0,.agg #[.int .i64 f]),(1,.slice A n c),(2,.int .i64 h)]=some (kyS f A n c h):=by kernel_rfl
theorem zi3:(Tryz.prog.info? 50).map (·.size)=some 3:=by kernel_rfl
theorem zm3 (f:Int) (R:List Nat) (RA:Option Addr) (Rc:Nat) (h:Int) (hl:R.length≤1048576) (w:World) (hr:Rd w w.heap.size RA (u64L R)) :
 Calls Tryz.prog 24 #[.agg (kyS f RA R.length Rc h)] w fun e w'=>∃ A' c',e=.returned (.agg (kyS f A' R.length c' h))∧Rd w' w'.heap.size A' (u64L R)∧Grew w w'∧(∀ ad,A'=some ad→w.heap.size≤ad.block):=by
 have z0:=Ag.new w 24 (kyS f RA R.length Rc h)
 have G0:=ze (za w) (.cells (kyS f RA R.length Rc h) 24)
 have hur:=Tryz.underlying50
 have CO:=hQ9 (fun W hR=>zgb RA Rc _ R hl W hR (Nat.le_refl _))
 go_enter Tryz.func24,Tryz.ntmps24
 go_wp2_with fail
 have z2:Ag ((w.alloc (.cells (kyS f RA R.length Rc h) 24)).alloc (.cells (#[.int .i64 0,.slice none 0 0,.int .i64 0]) 50)) (w.heap.size+1) (#[.int .i64 0,.slice none 0 0,.int .i64 0]:Array Value).toList:=by
  have:=Ag.new (w.alloc (.cells (kyS f RA R.length Rc h) 24)) 50 (#[.int .i64 0,.slice none 0 0,.int .i64 0])
  simpa using this
 have z1:=z0.grew (ze (za _) (.cells (#[.int .i64 0,.slice none 0 0,.int .i64 0]) 50))
 have G2:=ze G0 (.cells (#[.int .i64 0,.slice none 0 0,.int .i64 0]) 50)
 clear z0 G0
 generalize (w.alloc (.cells (kyS f RA R.length Rc h) 24)).alloc (.cells (#[.int .i64 0,.slice none 0 0,.int .i64 0]) 50)=w2 at *
 have HC0:Hid (∀ y,Grew w2 y→y.cell? ⟨w.heap.size,0,none⟩=some (.int .i64 f)):=hQ9 (fun y g=>by simpa using (z1.grew g).cell 0 _ rfl)
 have HC1:Hid (∀ y,Grew w2 y→y.cell? ⟨w.heap.size,1,none⟩=some (.slice RA R.length Rc)):=hQ9 (fun y g=>by simpa using (z1.grew g).cell 1 _ rfl)
 have HC2:Hid (∀ y,Grew w2 y→y.cell? ⟨w.heap.size,2,none⟩=some (.int .i64 h)):=hQ9 (fun y g=>by simpa using (z1.grew g).cell 2 _ rfl)
 have r2:=hr.gr G2
 have HRY:=hQ9 (fun y (g:Grew w2 y)=>r2.gr g)
 clear z1 hr r2
 refine zH 9 (fun i=>match i with
  | 0=>fun v _=>v=.pointer (some ⟨w.heap.size,0,none⟩)
  | 1=>fun v _=>v=.int .i64 f
  | 2=>fun v _=>v=.agg #[.int .i64 f]
  | 3=>fun v _=>v=.pointer (some ⟨w.heap.size,1,none⟩)
  | 4=>fun v _=>v=.slice RA R.length Rc
  | 5=>fun v w=>PV w w2.heap.size R v
  | 6=>fun v _=>v=.pointer (some ⟨w.heap.size,2,none⟩)
  | 7=>fun v _=>v=.int .i64 h
  | 8=>fun v w=>KV w w2.heap.size f R h v
  | _=>fun _ _=>True) (by kernel_rfl) (by kernel_rfl) ?_ ?_ ?_
 ·intro i v x y h hg
  match i,h with
  | 0,h | 1,h | 2,h | 3,h | 4,h | 6,h | 7,h=>exact h
  | 5,h=>exact PV.gr h hg
  | 8,h=>exact KV.gr h hg
  | m+9,_=>trivial
 ·simp only [actOf,tk1,tk0,dr1,dr0,Act.put,si1,st1,st0,Nat.reduceAdd]
  refine⟨?_,?_,?_,?_,?_,?_,?_,?_,?_,trivial⟩
  ·intro vs y hg hd
   dsimp only
   go_wp2_with fail
   exact⟨rfl,_,rfl,za _,rfl⟩
  ·intro vs y hg hd
   obtain⟨h0,_⟩:=hd
   replace h0:=h0 rfl
   dsimp only
   rw [show vs 0=_ from h0]
   have hc:=HC0.out y hg
   go_wp2_with fail
   exact⟨rfl,_,rfl,za _,rfl⟩
  ·intro vs y hg hd
   obtain⟨h1,_⟩:=hd
   replace h1:=h1 rfl
   dsimp only
   rw [show vs 1=_ from h1]
   have HBF:=hQ9 (zpy f)
   go_wp2_with(with_reducible refine zI rfl 47 #[(0,.tmp 4)] rfl #[.int .i64 f] ?_ ?_;· simpa [Act.eval,Act.put]using HBF.out)
   exact⟨rfl,_,rfl,za _,rfl⟩
  ·intro vs y hg hd
   dsimp only
   go_wp2_with fail
   exact⟨rfl,_,rfl,za _,rfl⟩
  ·intro vs y hg hd
   obtain⟨h3,_⟩:=hd
   replace h3:=h3 rfl
   dsimp only
   rw [show vs 3=_ from h3]
   have hc:=HC1.out y hg
   go_wp2_with fail
   exact⟨rfl,_,rfl,za _,rfl⟩
  ·intro vs y hg hd
   obtain⟨h4,_⟩:=hd
   replace h4:=h4 rfl
   dsimp only
   rw [show vs 4=_ from h4]
   go_wp2_with(go_at_call 97;refine(CO.out y (HRY.out y hg)).mono ?_;rintro e z ⟨A2,c2,rfl,hr2,hb2,gz⟩)
   exact⟨rfl,_,rfl,gz,⟨A2,c2,rfl,hr2,fun ad h=>by have:=hb2 ad h;have:=hg.size;omega⟩⟩
  ·intro vs y hg hd
   dsimp only
   go_wp2_with fail
   exact⟨rfl,_,rfl,za _,rfl⟩
  ·intro vs y hg hd
   obtain⟨h6,_⟩:=hd
   replace h6:=h6 rfl
   dsimp only
   rw [show vs 6=_ from h6]
   have hc:=HC2.out y hg
   go_wp2_with fail
   exact⟨rfl,_,rfl,za _,rfl⟩
  ·intro vs y hg hd
   obtain⟨h2,h5,h7,_⟩:=hd
   replace h2:=h2 rfl
   replace h5:=h5 rfl
   replace h7:=h7 rfl
   dsimp only
   rw [show vs 2=_ from h2,show vs 7=_ from h7]
   obtain⟨A2,c2,hv,hr2,hb2⟩:=PV.out h5
   rw [hv]
   have HBU:=hQ9 (zpz f h A2 R.length c2)
   go_wp2_with(with_reducible refine zI rfl 50 #[(0,.tmp 5),(1,.tmp 8),(2,.tmp 10)] rfl (kyS f A2 R.length c2 h) ?_ ?_;· simpa [Act.eval,Act.put]using HBU.out)
   exact⟨rfl,_,rfl,za _,⟨A2,c2,rfl,hr2,hb2⟩⟩
 ·intro vs y hg hJ
  have j0:vs 0=.pointer (some ⟨w.heap.size,0,none⟩):=hJ 0 (by decide)
  have j1:vs 1=.int .i64 f:=hJ 1 (by decide)
  have j2:vs 2=.agg #[.int .i64 f]:=hJ 2 (by decide)
  have j3:vs 3=.pointer (some ⟨w.heap.size,1,none⟩):=hJ 3 (by decide)
  have j4:vs 4=.slice RA R.length Rc:=hJ 4 (by decide)
  have j6:vs 6=.pointer (some ⟨w.heap.size,2,none⟩):=hJ 6 (by decide)
  have j7:vs 7=.int .i64 h:=hJ 7 (by decide)
  have s8:=hJ 5 (by decide)
  have s11:=hJ 8 (by decide)
  clear hJ
  simp only [actOf,tk1,tk0,dr1,dr0,Act.put,si1,st1,st0,Nat.reduceAdd]
  obtain⟨A2,c2,j9,r3,hb3⟩:=KV.out s11
  rw [j9]
  clear s8 s11 j9
  have hz1:=z2.lt
  have hz2:=G2.size
  have HNE:Hid (∀ ad,A2=some ad→ad.block≠w.heap.size+1):=hQ9 (fun ad h=>by have:=hb3 ad h;omega)
  have HLO:Hid (∀ ad,A2=some ad→w.heap.size≤ad.block):=hQ9 (fun ad h=>by have:=hb3 ad h;omega)
  have z3:=z2.grew hg
  have G3:=zc G2 hg
  clear z2 G2 hg hb3 hz1 hz2
  have HTH:Hid (y.there (w.heap.size+1) 0 (kyS f A2 R.length c2 h).size):=hQ9 (z3.thereN 3 rfl)
  have HSI:Hid ((Tryz.prog.info? 50).map (·.size)=some (kyS f A2 R.length c2 h).size):=hQ9 zi3
  have HON:=hQ9 (zr5 f h A2 R.length c2)
  have K3:=zG (kyS f A2 R.length c2 h).toList (w.heap.size+1) 0 y
  have r4:=(r3.kp K3 (Nat.le_refl _) (fun ad h1 h2 h3=>HNE.out ad h1 h3)).more K3.size
  have z4:=Ag.set (vs:=(kyS f A2 R.length c2 h).toList) z3 rfl
  have G4:=zg (o:=0) (b:=w.heap.size+1) (kyS f A2 R.length c2 h).toList G3 (by omega)
  go_wp2_with(with_reducible refine wpList_store_mid rfl 50 (.tmp 2) (.tmp 11) rfl (w.heap.size+1) 0 (kyS f A2 R.length c2 h) rfl rfl HTH.out HSI.out HON.out ?_)
  exact bodyPost_ret (yp Tryz.results24 _ _ (w.heap.size+1) _ _ rfl z4 hur rfl zi3) rfl ⟨A2,⟨c2,rfl⟩,r4,G4,HLO.out⟩
theorem zh4 (f:Int) (R:List Nat) (RA:Option Addr) (Rc:Nat) (h:Int) (w:World) :
 Calls Tryz.prog 16 #[.agg (kyS f RA R.length Rc h)] w fun e w'=>e=.returned (.int .i64 (cyE f R.length h))∧Grew w w':=by
 have CC:=hQ9 (fun W=>zmf f W)
 have zk:=Ag.new w 24 (kyS f RA R.length Rc h)
 have G1:=ze (za w) (.cells (kyS f RA R.length Rc h) 24)
 have hm0:(w.alloc (.cells (kyS f RA R.length Rc h) 24)).cell? ⟨w.heap.size,0,none⟩=some (.int .i64 f):=by simpa using zk.cell 0 _ rfl
 by_cases hbad:f<1∨3<f
 ·have HE:Hid (cyE f R.length h=1):=hQ9 (by unfold cyE;rw [if_pos hbad])
  rw [if_pos hbad]at CC
  clear hbad zk
  go_enter Tryz.func16,Tryz.ntmps16
  go_wp2_with fail
  refine(CC.out _).mono ?_
  rintro e w2 ⟨rfl,rfl⟩
  go_wp2_with fail
  go_ret
  exact⟨by rw [HE.out];rfl,G1⟩
 rw [if_neg hbad]at CC
 have CN:Hid (∀ W,Calls Tryz.prog 78 #[.int .i64 f] W fun e w'=>e=.returned (.int .i64 (3*f+1))∧Grew W w'):=hQ9 (fun W=>(rn_ok f (by omega) W).mono (by rintro e z ⟨rfl,rfl⟩;exact⟨rfl,za _⟩))
 have hf:1≤f∧f≤3:=by omega
 go_enter Tryz.func16,Tryz.ntmps16
 go_wp2_with fail
 refine(CC.out _).mono ?_
 rintro e w1 ⟨rfl,hw1⟩
 rw [←hw1]at zk G1
 clear hm0 CC hw1
 go_wp2_with fail
 have HD:Hid (cyE f R.length h=if (R.length:Int)=3*f+1∧0≤h∧h≤8 then 0 else 1):=hQ9 (by unfold cyE;rw [if_neg hbad])
 have m0:∀ y:Gr w1,y.val.cell? ⟨w.heap.size,0,none⟩=some (.int .i64 f):=fun y=>by simpa using (zk.gr y).cell 0 _ rfl
 have m1:∀ y:Gr w1,y.val.cell? ⟨w.heap.size,1,none⟩=some (.slice RA R.length Rc):=fun y=>by simpa using (zk.gr y).cell 1 _ rfl
 have m2:∀ y:Gr w1,y.val.cell? ⟨w.heap.size,2,none⟩=some (.int .i64 h):=fun y=>by simpa using (zk.gr y).cell 2 _ rfl
 obtain⟨nn,hnn⟩:∃ nn,3*f+1=nn:=⟨_,rfl⟩
 rw [hnn]at CN HD
 clear hnn hbad hf zk
 by_cases hA:(R.length:Int)=nn
 ·have e1:((R.length:Int) != nn)=false:=by simp [hA]
  by_cases hB:h<0
  ·have HE:Hid (cyE f R.length h=1):=hQ9 (by rw [HD.out,if_neg (by omega)])
   clear hA HD
   refine zo (za w1) (by kernel_rfl) (by kernel_rfl) ?_
   repeat (go_big_quiet_step (first | (go_at_call 78;exact callG (CN.out _))))
   refine wpQuiet_nil ?_
   rintro w8 ⟨⟨w8',g8⟩,rfl⟩
   have G8:=zc G1 g8
   go_wp2_with fail
   go_ret
   exact⟨by rw [HE.out];rfl,G8⟩
  by_cases hC:8<h
  ·have HE:Hid (cyE f R.length h=1):=hQ9 (by rw [HD.out,if_neg (by omega)])
   clear hA HD
   refine zo (za w1) (by kernel_rfl) (by kernel_rfl) ?_
   repeat (go_big_quiet_step (first | (go_at_call 78;exact callG (CN.out _))))
   refine wpQuiet_nil ?_
   rintro w8 ⟨⟨w8',g8⟩,rfl⟩
   have G8:=zc G1 g8
   go_wp2_with fail
   go_ret
   exact⟨by rw [HE.out];rfl,G8⟩
  have HE:Hid (cyE f R.length h=0):=hQ9 (by rw [HD.out,if_pos ⟨hA,by omega,by omega⟩])
  clear hA HD
  refine zo (za w1) (by kernel_rfl) (by kernel_rfl) ?_
  repeat (go_big_quiet_step (first | (go_at_call 78;exact callG (CN.out _))))
  refine wpQuiet_nil ?_
  rintro w8 ⟨⟨w8',g8⟩,rfl⟩
  have G8:=zc G1 g8
  go_wp2_with fail
  go_ret
  exact⟨by rw [HE.out];rfl,G8⟩
 ·have e1:((R.length:Int) != nn)=true:=by simp [hA]
  have HE:Hid (cyE f R.length h=1):=hQ9 (by rw [HD.out,if_neg (fun h=>hA h.1)])
  clear hA HD
  refine zo (za w1) (by kernel_rfl) (by kernel_rfl) ?_
  repeat (go_big_quiet_step (first | (go_at_call 78;exact callG (CN.out _))))
  refine wpQuiet_nil ?_
  rintro w8 ⟨⟨w8',g8⟩,rfl⟩
  have G8:=zc G1 g8
  go_wp2_with fail
  go_ret
  exact⟨by rw [HE.out];rfl,G8⟩
theorem zkn (cm:Nat) (who at_ sw lf:Int) (s:Nat→Nat) (A:Option Addr) (c:Nat) (l:List Nat) (hc:cm<18446744073709551616) (hw:in64 who) (ha:in64 at_) (hsw:in64 sw) (hlf:in64 lf) (hl:l.length≤1000) (hs:∀ k,k<18→s k<18446744073709551616) (hb:∀ n∈l,n<18446744073709551616) (w:World) (hr:Rd w w.heap.size A (u64L l)) :
 Calls Tryz.prog 90 #[.agg (stC cm who at_ sw lf s (.slice A l.length c))] w fun e w'=>e=.returned (.string ⟨(stT cm who at_ sw lf s l).toArray⟩)∧Grew w w':=by
 have z0:=Ag.new w 169 (stC cm who at_ sw lf s (.slice A l.length c))
 have g0:=ze (za w) (.cells (stC cm who at_ sw lf s (.slice A l.length c)) 169)
 have hus:=Tryz.underlying132
 have HSI:Hid ((Tryz.prog.info? 132).map (·.size)=some (sgC sw lf s (.slice A l.length c)).toList.length):=hQ9 zW
 have hlen:=zc9 cm who at_ sw lf s l hw ha hsw hlf hl
 have c0:=fun W=>za2 (cm:Nat) ⟨by omega,by omega⟩ W
 simp only [Int.toNat_natCast]at c0
 have C0:=hQ9 c0
 clear c0
 have C1:=hQ9 (fun W=>xZ who hw.1 hw.2 W)
 have C2:=hQ9 (fun W=>xZ at_ ha.1 ha.2 W)
 have C3:=hQ9 (fun W h1=>zhy sw lf s A c l hsw hlf hl hs hb W h1)
 have CJ:Hid (∀(A4:Option Addr) (W:World),Rd W W.heap.size A4 (strL [⟨(hexL cm).toArray⟩,⟨(Lib.itoa who).toArray⟩,⟨(Lib.itoa at_).toArray⟩,⟨(sgT sw lf s l).toArray⟩])→Calls Tryz.prog 91 #[.slice A4 4 4] W fun e w'=>e=.returned (.string ⟨(stT cm who at_ sw lf s l).toArray⟩)∧Grew W w'):=hQ9 (fun A4 W hR=>by
  have:=jK A4 4 [⟨(hexL cm).toArray⟩,⟨(Lib.itoa who).toArray⟩,⟨(Lib.itoa at_).toArray⟩,⟨(sgT sw lf s l).toArray⟩] (by simp) (by simp only [stT]at hlen;simp [bys]at hlen ⊢;omega) W hR
  simpa [bys,stT]using this)
 have HR:=hQ9 hr
 clear hc hw ha hlen hsw hlf hl hs hb hr
 generalize (⟨(stT cm who at_ sw lf s l).toArray⟩:ByteArray)=tj at *
 generalize (⟨(hexL cm).toArray⟩:ByteArray)=t0 at *
 generalize (⟨(Lib.itoa who).toArray⟩:ByteArray)=t1 at *
 generalize (⟨(Lib.itoa at_).toArray⟩:ByteArray)=t2 at *
 generalize (⟨(sgT sw lf s l).toArray⟩:ByteArray)=t3 at *
 go_enter Tryz.func90,Tryz.ntmps90
 go_wp2_with fail
 generalize w.alloc (.cells (stC cm who at_ sw lf s (.slice A l.length c)) 169)=w1 at *
 have z1:=z0
 have G0:=hQ9 g0
 have HRR:=hQ9 (fun y (g:Grew w1 y)=>(HR.out.gr G0.out).gr g)
 have HC0:Hid (∀ y,Grew w1 y→y.cell? ⟨w.heap.size,0,none⟩=some (.int .u64 (cm:Nat))):=hQ9 (fun y g=>by simpa using (z1.grew g).cell 0 _ rfl)
 have HC1:Hid (∀ y,Grew w1 y→y.cell? ⟨w.heap.size,1,none⟩=some (.int .i64 who)):=hQ9 (fun y g=>by simpa using (z1.grew g).cell 1 _ rfl)
 have HC2:Hid (∀ y,Grew w1 y→y.cell? ⟨w.heap.size,2,none⟩=some (.int .i64 at_)):=hQ9 (fun y g=>by simpa using (z1.grew g).cell 2 _ rfl)
 have HCM:Hid (∀ y,Grew w1 y→y.rangeAt w.heap.size 3 (sgC sw lf s (.slice A l.length c)).toList):=hQ9 (fun y g=>xA (z1.grew g).cell)
 clear z0 z1 g0
 refine zH 14 (fun i=>match i with
  | 0=>fun v _=>v=.pointer (some ⟨w.heap.size,0,none⟩)
  | 1=>fun v _=>v=.int .u64 (cm:Nat)
  | 2=>fun v _=>v=.string t0
  | 3=>fun v _=>v=.pointer (some ⟨w.heap.size,1,none⟩)
  | 4=>fun v _=>v=.int .i64 who
  | 5=>fun v _=>v=.string t1
  | 6=>fun v _=>v=.pointer (some ⟨w.heap.size,2,none⟩)
  | 7=>fun v _=>v=.int .i64 at_
  | 8=>fun v _=>v=.string t2
  | 9=>fun v _=>v=.pointer (some ⟨w.heap.size,3,none⟩)
  | 10=>fun v _=>v=.agg (sgC sw lf s (.slice A l.length c))
  | 11=>fun v _=>v=.string t3
  | 12=>fun v w=>FourS w [t0,t1,t2,t3] v
  | 13=>fun v _=>v=.string tj
  | _=>fun _ _=>True) (by kernel_rfl) (by kernel_rfl) ?_ ?_ ?_
 ·intro i v x y h hg
  match i,h with
  | 0,h | 1,h | 2,h | 3,h | 4,h | 5,h | 6,h | 7,h | 8,h | 9,h | 10,h | 11,h | 13,h=>exact h
  | 12,h=>exact FourS.gr h hg
  | m+14,_=>trivial
 ·simp only [actOf,tk1,tk0,dr1,dr0,Act.put,si1,st1,st0,Nat.reduceAdd]
  refine⟨?_,?_,?_,?_,?_,?_,?_,?_,?_,?_,?_,?_,?_,?_,trivial⟩
  ·intro vs y hg hd
   dsimp only
   go_wp2_with fail
   exact⟨rfl,_,rfl,za _,rfl⟩
  ·intro vs y hg hd
   obtain⟨h0,_⟩:=hd
   replace h0:=h0 rfl
   dsimp only
   rw [show vs 0=_ from h0]
   have hc:=HC0.out y hg
   go_wp2_with fail
   exact⟨rfl,_,rfl,za _,rfl⟩
  ·intro vs y hg hd
   obtain⟨h1,_⟩:=hd
   replace h1:=h1 rfl
   dsimp only
   rw [show vs 1=_ from h1]
   go_wp2_with(go_at_call 153;refine(C0.out y).mono ?_;rintro e z ⟨rfl,gz⟩)
   exact⟨rfl,_,rfl,gz,rfl⟩
  ·intro vs y hg hd
   dsimp only
   go_wp2_with fail
   exact⟨rfl,_,rfl,za _,rfl⟩
  ·intro vs y hg hd
   obtain⟨h3,_⟩:=hd
   replace h3:=h3 rfl
   dsimp only
   rw [show vs 3=_ from h3]
   have hc:=HC1.out y hg
   go_wp2_with fail
   exact⟨rfl,_,rfl,za _,rfl⟩
  ·intro vs y hg hd
   obtain⟨h4,_⟩:=hd
   replace h4:=h4 rfl
   dsimp only
   rw [show vs 4=_ from h4]
   go_wp2_with(go_at_call 154;refine(C1.out y).mono ?_;rintro e z ⟨rfl,gz⟩)
   exact⟨rfl,_,rfl,gz,rfl⟩
  ·intro vs y hg hd
   dsimp only
   go_wp2_with fail
   exact⟨rfl,_,rfl,za _,rfl⟩
  ·intro vs y hg hd
   obtain⟨h6,_⟩:=hd
   replace h6:=h6 rfl
   dsimp only
   rw [show vs 6=_ from h6]
   have hc:=HC2.out y hg
   go_wp2_with fail
   exact⟨rfl,_,rfl,za _,rfl⟩
  ·intro vs y hg hd
   obtain⟨h7,_⟩:=hd
   replace h7:=h7 rfl
   dsimp only
   rw [show vs 7=_ from h7]
   go_wp2_with(go_at_call 154;refine(C2.out y).mono ?_;rintro e z ⟨rfl,gz⟩)
   exact⟨rfl,_,rfl,gz,rfl⟩
  ·intro vs y hg hd
   dsimp only
   go_wp2_with fail
   exact⟨rfl,_,rfl,za _,rfl⟩
  ·intro vs y hg hd
   obtain⟨h9,_⟩:=hd
   replace h9:=h9 rfl
   dsimp only
   rw [show vs 9=_ from h9]
   have hm:=HCM.out y hg
   go_wp2_with(with_reducible refine wpList_load_mid rfl 132 (.tmp 12) rfl w.heap.size 3 rfl (sgC sw lf s (.slice A l.length c)).toList _ hm hus rfl HSI.out ?_)
   exact⟨rfl,_,rfl,za _,rfl⟩
  ·intro vs y hg hd
   obtain⟨h10,_⟩:=hd
   replace h10:=h10 rfl
   dsimp only
   rw [show vs 10=_ from h10]
   go_wp2_with(go_at_call 155;refine(C3.out y (HRR.out y hg)).mono ?_;rintro e z ⟨rfl,gz⟩)
   exact⟨rfl,_,rfl,gz,rfl⟩
  ·intro vs y hg hd
   obtain⟨h2,h5,h8,h11,_⟩:=hd
   replace h2:=h2 rfl
   replace h5:=h5 rfl
   replace h8:=h8 rfl
   replace h11:=h11 rfl
   dsimp only
   rw [show vs 2=_ from h2,show vs 5=_ from h5,show vs 8=_ from h8,show vs 11=_ from h11]
   go_wp2_with fail
   exact⟨rfl,_,rfl,ze (za _) _,⟨_,rfl,y6 y _ _⟩⟩
  ·intro vs y hg hd
   obtain⟨h12,_⟩:=hd
   replace h12:=h12 rfl
   dsimp only
   obtain⟨A4,hv,r4⟩:=FourS.out h12
   rw [hv]
   go_wp2_with(go_at_call 91;refine(CJ.out A4 y r4).mono ?_;rintro e z ⟨rfl,gz⟩)
   exact⟨rfl,_,rfl,gz,rfl⟩
 ·intro vs y hg hJ
  have j0:vs 0=.pointer (some ⟨w.heap.size,0,none⟩):=hJ 0 (by decide)
  have j1:vs 1=.int .u64 (cm:Nat):=hJ 1 (by decide)
  have j2:vs 2=.string t0:=hJ 2 (by decide)
  have j3:vs 3=.pointer (some ⟨w.heap.size,1,none⟩):=hJ 3 (by decide)
  have j4:vs 4=.int .i64 who:=hJ 4 (by decide)
  have j5:vs 5=.string t1:=hJ 5 (by decide)
  have j6:vs 6=.pointer (some ⟨w.heap.size,2,none⟩):=hJ 6 (by decide)
  have j7:vs 7=.int .i64 at_:=hJ 7 (by decide)
  have j8:vs 8=.string t2:=hJ 8 (by decide)
  have j9:vs 9=.pointer (some ⟨w.heap.size,3,none⟩):=hJ 9 (by decide)
  have j10:vs 10=.agg (sgC sw lf s (.slice A l.length c)):=hJ 10 (by decide)
  have j11:vs 11=.string t3:=hJ 11 (by decide)
  have j13:vs 13=.string tj:=hJ 13 (by decide)
  have s15:=hJ 12 (by decide)
  clear hJ
  simp only [actOf,tk1,tk0,dr1,dr0,Act.put,si1,st1,st0,Nat.reduceAdd]
  rw [j13]
  clear j0 j1 j2 j3 j4 j5 j6 j7 j8 j9 j10 j11 s15 j13
  go_wp2_with fail
  go_ret
  exact⟨rfl,zc G0.out hg⟩
end Go.Proofs.YtpppegnojmnicaaGreatDoor
