/- A pool: Accept (mkplg.py). -/
import Derived.Test.YtkpnheenacchhaaGreatDoorJzz
import Derived.Test.YtkpnheenacchhaaGreatDoorJar
import Derived.Test.YtkpnheenacchhaaGreatDoorJbt
set_option maxHeartbeats 4000000
set_option maxRecDepth 100000
set_option linter.unusedSimpArgs false
set_option linter.unusedVariables false
namespace Go.Proofs.YtkpnheenacchhaaGreatDoor
open Go.RowKit
set_option linter.unnecessarySimpa false
def enOf (at_:Int) (d:Nat) (c:Cm) (A:Option Addr) (n k:Nat):En:=⟨at_,d,c.cl,c.no,c.fr,c.tt,c.am,A,n,k⟩
def En.cm (e:En):Cm:=⟨e.cl,e.no,e.fr,e.tt,e.am⟩
def En.hvN (N:Nat→Prop) (w:World) (e:En):Prop:=∃ L:List SP,e.n=L.length∧L.length≤40∧Sps w e.A L∧(L=[]∨∀ ad,e.A=some ad→¬N ad.block)∧∀ S∈L,∀ ad,S.A=some ad→S.l=[]∨¬N ad.block
structure CtV (w0:World) (cc:Cm) (L:List SP) (v:Value) (W:World):Prop where
 out:∃ B k M,v=.agg (ctC cc B L.length k)∧MvL L M∧Sps W B M∧(∀ ad,B=some ad→w0.heap.size≤ad.block)∧(∀ S∈M,∀ ad,S.A=some ad→S.l=[]∨w0.heap.size≤ad.block)
theorem CtV.gr {w0:World} {cc:Cm} {L:List SP} {v:Value} {a b:World} (h:CtV w0 cc L v a) (g:Grew a b):CtV w0 cc L v b:=by
 obtain⟨B,k,M,h1,h2,h3,h4⟩:=h.out
 exact⟨B,k,M,h1,h2,h3.gr g,h4⟩
structure EnV (w0:World) (at_:Int) (d:Nat) (cc:Cm) (L:List SP) (v:Value) (W:World):Prop where
 out:∃ B k M,v=.agg (enOf at_ d cc B L.length k).C∧MvL L M∧Sps W B M∧(∀ ad,B=some ad→w0.heap.size≤ad.block)∧(∀ S∈M,∀ ad,S.A=some ad→S.l=[]∨w0.heap.size≤ad.block)
theorem EnV.gr {w0:World} {at_:Int} {d:Nat} {cc:Cm} {L:List SP} {v:Value} {a b:World} (h:EnV w0 at_ d cc L v a) (g:Grew a b):EnV w0 at_ d cc L v b:=by
 obtain⟨B,k,M,h1,h2,h3,h4⟩:=h.out
 exact⟨B,k,M,h1,h2,h3.gr g,h4⟩
theorem k5 {p base:Nat} {room fl:Int} {v:Value} {E:List En} (cc:Cm) (hc:cc.in) (A:Option Addr) (k:Nat) (L:List SP) (hl:L.length≤40)  (w:World) (hS:Std w) (hL:Sps w A L) (h:PlS w p base room fl v E) (hla:atV L≤fl) :
 Calls Tryz.prog 13 #[.pointer (some ⟨p,0,none⟩),.agg (ctC cc A L.length k)] w fun e w'=>e=.returned (.int .i64 9)∧Grew w w':=by
 have hut:=Tryz.underlying43
 have z0:=Ag.new w 43 (ctC cc A L.length k)
 have G0:=zc (za w) (.cells (ctC cc A L.length k) 43)
 have h1:=h.gr G0
 have hL1:=hL.gr G0
 have hS1:=hS.grew G0
 have HLW:=hQ9 hL
 obtain⟨Av,cv,rfl,hR⟩:=h.rd
 obtain⟨w1,hw1⟩:∃ W,w.alloc (.cells (ctC cc A L.length k) 43)=W:=⟨_,rfl⟩
 obtain⟨bx,hbx⟩:∃ q,w.heap.size=q:=⟨_,rfl⟩
 rw [hw1]at z0 G0 h1 hL1 hS1
 rw [hbx]at z0
 have SC:Hid ((Tryz.prog.info? 43).map (·.size)=some (ctC cc A L.length k).toList.length):=hQ9 zu
 have HM1:Hid (w1.rangeAt bx 0 (ctC cc A L.length k).toList):=hQ9 z0.cell
 have C1:=hQ9 (yw cc A k L (by omega) w1 hL1)
 have HP1:=hQ9 h1
 have HL1:=hQ9 hL1
 have HS1:=hQ9 hS1
 have HG0:=hQ9 G0
 have HZ:=hQ9 z0
 have HSL:=hQ9 hl
 have HCI:=hQ9 hc
 have HW:=hQ9 (And.intro hw1 hbx)
 have HOLD:=hQ9 h
 clear h1 hL1 hS1 G0 z0 hR h hS hL hc
 have e1:decide (atV L≤fl)=true:=decide_eq_true hla
 clear hla
 go_enter Tryz.func13,Tryz.ntmps13
 go_wp2_with(with_reducible refine wpList_load_mid rfl 43 (.tmp 3) rfl bx 0 rfl (ctC cc A L.length k).toList _ HM1.out hut rfl SC.out ?_;simp only [Array.toArray_toList])
 refine(C1.out).mono ?_
 rintro e w2 ⟨rfl,g2⟩
 have hp2:=HP1.out.gr g2
 have hf2:=hp2.c1
 have HP2:=hQ9 hp2
 have HL2:=hQ9 (HL1.out.gr g2)
 have HS2:=hQ9 (HS1.out.grew g2)
 have HG2:=hQ9 (zb HG0.out g2)
 have z2:=HZ.out.grew g2
 have HM2:Hid (w2.rangeAt bx 0 (ctC cc A L.length k).toList):=hQ9 z2.cell
 have HZ2:=hQ9 z2
 clear hp2 g2 z2 C1 HM1 HP1 HL1 HS1 HG0 HZ
 go_wp2_with fail
 go_ret
 exact⟨rfl,HG2.out⟩
theorem kq {p base:Nat} {room fl:Int} {v:Value} {E:List En} (cc:Cm) (hc:cc.in) (A:Option Addr) (k:Nat) (L:List SP) (hl:L.length≤40)  (w:World) (hS:Std w) (hL:Sps w A L) (h:PlS w p base room fl v E) (hla:¬atV L≤fl) (htw:E.any (fun e=>e.d==ctD cc L)=true) :
 Calls Tryz.prog 13 #[.pointer (some ⟨p,0,none⟩),.agg (ctC cc A L.length k)] w fun e w'=>e=.returned (.int .i64 5)∧Grew w w':=by
 have hut:=Tryz.underlying43
 have z0:=Ag.new w 43 (ctC cc A L.length k)
 have G0:=zc (za w) (.cells (ctC cc A L.length k) 43)
 have h1:=h.gr G0
 have hL1:=hL.gr G0
 have hS1:=hS.grew G0
 have HLW:=hQ9 hL
 obtain⟨Av,cv,rfl,hR⟩:=h.rd
 obtain⟨w1,hw1⟩:∃ W,w.alloc (.cells (ctC cc A L.length k) 43)=W:=⟨_,rfl⟩
 obtain⟨bx,hbx⟩:∃ q,w.heap.size=q:=⟨_,rfl⟩
 rw [hw1]at z0 G0 h1 hL1 hS1
 rw [hbx]at z0
 have SC:Hid ((Tryz.prog.info? 43).map (·.size)=some (ctC cc A L.length k).toList.length):=hQ9 zu
 have HM1:Hid (w1.rangeAt bx 0 (ctC cc A L.length k).toList):=hQ9 z0.cell
 have C1:=hQ9 (yw cc A k L (by omega) w1 hL1)
 have HP1:=hQ9 h1
 have HL1:=hQ9 hL1
 have HS1:=hQ9 hS1
 have HG0:=hQ9 G0
 have HZ:=hQ9 z0
 have HSL:=hQ9 hl
 have HCI:=hQ9 hc
 have HW:=hQ9 (And.intro hw1 hbx)
 have HOLD:=hQ9 h
 clear h1 hL1 hS1 G0 z0 hR h hS hL hc
 have HNL:=hQ9 hla
 have HTW:=hQ9 htw
 clear hla htw
 go_enter Tryz.func13,Tryz.ntmps13
 go_wp2_with(with_reducible refine wpList_load_mid rfl 43 (.tmp 3) rfl bx 0 rfl (ctC cc A L.length k).toList _ HM1.out hut rfl SC.out ?_;simp only [Array.toArray_toList])
 refine(C1.out).mono ?_
 rintro e w2 ⟨rfl,g2⟩
 have hp2:=HP1.out.gr g2
 have hf2:=hp2.c1
 have HP2:=hQ9 hp2
 have HL2:=hQ9 (HL1.out.gr g2)
 have HS2:=hQ9 (HS1.out.grew g2)
 have HG2:=hQ9 (zb HG0.out g2)
 have z2:=HZ.out.grew g2
 have HM2:Hid (w2.rangeAt bx 0 (ctC cc A L.length k).toList):=hQ9 z2.cell
 have HZ2:=hQ9 z2
 clear hp2 g2 z2 C1 HM1 HP1 HL1 HS1 HG0 HZ
 have e1:decide (atV L≤fl)=false:=decide_eq_false (by have:=HNL.out;omega)
 have C2:=hQ9 (ya cc HCI.out A k L HSL.out w2 HS2.out HL2.out)
 go_wp2_with(with_reducible refine wpList_load_mid rfl 43 (.tmp 3) rfl bx 0 rfl (ctC cc A L.length k).toList _ HM2.out hut rfl SC.out ?_;simp only [Array.toArray_toList])
 clear hf2 e1
 refine(C2.out).mono ?_
 rintro e w3 ⟨rfl,g3⟩
 have hdlt:Hid (ctD cc L<18446744073709551616):=hQ9 (yU _ _)
 have g34:=zb g3 (zc (za w3) (.cells #[.int .u64 (ctD cc L:Nat)] 72))
 have cbd:(w3.alloc (.cells #[.int .u64 (ctD cc L:Nat)] 72)).cell? ⟨w3.heap.size,0,none⟩=some (.int .u64 (ctD cc L:Nat)):=by simp
 have hp4:=HP2.out.gr g34
 have HP4:=hQ9 hp4
 have HL4:=hQ9 (HL2.out.gr g34)
 have HS4:=hQ9 (HS2.out.grew g34)
 have HG4:=hQ9 (zb HG2.out g34)
 have HZ4:=hQ9 (HZ2.out.grew g34)
 obtain⟨A4,c4,hv4,hR4⟩:=hp4.rd
 injection hv4 with hv5 hv6 hv7
 subst hv5
 have hc4:=hp4.c3
 have CF:=hQ9 (y3 Av cv E HP4.out.len (ctD cc L) w3.heap.size _ hR4 cbd)
 have HCB:=hQ9 cbd
 clear C2 g3 hp4 hR4 HM2 HP2 HL2 HS2 HG2 HZ2 hv6 hv7 g34 cbd
 obtain⟨bd,hbd⟩:∃ q,w3.heap.size=q:=⟨_,rfl⟩
 obtain⟨w4,hw4⟩:∃ W,w3.alloc (.cells #[.int .u64 (ctD cc L:Nat)] 72)=W:=⟨_,rfl⟩
 rw [hw4]at HP4 HL4 HS4 HG4 HZ4 hc4 CF HCB
 rw [hbd]at CF HCB
 go_wp2_with fail
 refine(CF.out).mono ?_
 rintro e w5 ⟨rfl,g5⟩
 have HP5:=hQ9 (HP4.out.gr g5)
 have HL5:=hQ9 (HL4.out.gr g5)
 have HS5:=hQ9 (HS4.out.grew g5)
 have HG5:=hQ9 (zb HG4.out g5)
 have HZ5:=hQ9 (HZ4.out.grew g5)
 have HCB5:=hQ9 (zh HCB.out g5)
 clear g5 CF HP4 HL4 HS4 HG4 HZ4 HCB hc4 hw4 hbd
 rw [HTW.out]
 go_wp2_with fail
 go_ret
 exact⟨rfl,HG5.out⟩
theorem k6 {p base:Nat} {room fl:Int} {v:Value} {E:List En} (cc:Cm) (hc:cc.in) (A:Option Addr) (k:Nat) (L:List SP) (hl:L.length≤40)  (w:World) (hS:Std w) (hL:Sps w A L) (h:PlS w p base room fl v E) (hla:¬atV L≤fl) (htw:E.any (fun e=>e.d==ctD cc L)=false) (hfu:room≤(E.length:Int)) :
 Calls Tryz.prog 13 #[.pointer (some ⟨p,0,none⟩),.agg (ctC cc A L.length k)] w fun e w'=>e=.returned (.int .i64 6)∧Grew w w':=by
 have hut:=Tryz.underlying43
 have z0:=Ag.new w 43 (ctC cc A L.length k)
 have G0:=zc (za w) (.cells (ctC cc A L.length k) 43)
 have h1:=h.gr G0
 have hL1:=hL.gr G0
 have hS1:=hS.grew G0
 have HLW:=hQ9 hL
 obtain⟨Av,cv,rfl,hR⟩:=h.rd
 obtain⟨w1,hw1⟩:∃ W,w.alloc (.cells (ctC cc A L.length k) 43)=W:=⟨_,rfl⟩
 obtain⟨bx,hbx⟩:∃ q,w.heap.size=q:=⟨_,rfl⟩
 rw [hw1]at z0 G0 h1 hL1 hS1
 rw [hbx]at z0
 have SC:Hid ((Tryz.prog.info? 43).map (·.size)=some (ctC cc A L.length k).toList.length):=hQ9 zu
 have HM1:Hid (w1.rangeAt bx 0 (ctC cc A L.length k).toList):=hQ9 z0.cell
 have C1:=hQ9 (yw cc A k L (by omega) w1 hL1)
 have HP1:=hQ9 h1
 have HL1:=hQ9 hL1
 have HS1:=hQ9 hS1
 have HG0:=hQ9 G0
 have HZ:=hQ9 z0
 have HSL:=hQ9 hl
 have HCI:=hQ9 hc
 have HW:=hQ9 (And.intro hw1 hbx)
 have HOLD:=hQ9 h
 clear h1 hL1 hS1 G0 z0 hR h hS hL hc
 have HNL:=hQ9 hla
 have HTW:=hQ9 htw
 have HFU:=hQ9 hfu
 clear hla htw hfu
 go_enter Tryz.func13,Tryz.ntmps13
 go_wp2_with(with_reducible refine wpList_load_mid rfl 43 (.tmp 3) rfl bx 0 rfl (ctC cc A L.length k).toList _ HM1.out hut rfl SC.out ?_;simp only [Array.toArray_toList])
 refine(C1.out).mono ?_
 rintro e w2 ⟨rfl,g2⟩
 have hp2:=HP1.out.gr g2
 have hf2:=hp2.c1
 have HP2:=hQ9 hp2
 have HL2:=hQ9 (HL1.out.gr g2)
 have HS2:=hQ9 (HS1.out.grew g2)
 have HG2:=hQ9 (zb HG0.out g2)
 have z2:=HZ.out.grew g2
 have HM2:Hid (w2.rangeAt bx 0 (ctC cc A L.length k).toList):=hQ9 z2.cell
 have HZ2:=hQ9 z2
 clear hp2 g2 z2 C1 HM1 HP1 HL1 HS1 HG0 HZ
 have e1:decide (atV L≤fl)=false:=decide_eq_false (by have:=HNL.out;omega)
 have C2:=hQ9 (ya cc HCI.out A k L HSL.out w2 HS2.out HL2.out)
 go_wp2_with(with_reducible refine wpList_load_mid rfl 43 (.tmp 3) rfl bx 0 rfl (ctC cc A L.length k).toList _ HM2.out hut rfl SC.out ?_;simp only [Array.toArray_toList])
 clear hf2 e1
 refine(C2.out).mono ?_
 rintro e w3 ⟨rfl,g3⟩
 have hdlt:Hid (ctD cc L<18446744073709551616):=hQ9 (yU _ _)
 have g34:=zb g3 (zc (za w3) (.cells #[.int .u64 (ctD cc L:Nat)] 72))
 have cbd:(w3.alloc (.cells #[.int .u64 (ctD cc L:Nat)] 72)).cell? ⟨w3.heap.size,0,none⟩=some (.int .u64 (ctD cc L:Nat)):=by simp
 have hp4:=HP2.out.gr g34
 have HP4:=hQ9 hp4
 have HL4:=hQ9 (HL2.out.gr g34)
 have HS4:=hQ9 (HS2.out.grew g34)
 have HG4:=hQ9 (zb HG2.out g34)
 have HZ4:=hQ9 (HZ2.out.grew g34)
 obtain⟨A4,c4,hv4,hR4⟩:=hp4.rd
 injection hv4 with hv5 hv6 hv7
 subst hv5
 have hc4:=hp4.c3
 have CF:=hQ9 (y3 Av cv E HP4.out.len (ctD cc L) w3.heap.size _ hR4 cbd)
 have HCB:=hQ9 cbd
 clear C2 g3 hp4 hR4 HM2 HP2 HL2 HS2 HG2 HZ2 hv6 hv7 g34 cbd
 obtain⟨bd,hbd⟩:∃ q,w3.heap.size=q:=⟨_,rfl⟩
 obtain⟨w4,hw4⟩:∃ W,w3.alloc (.cells #[.int .u64 (ctD cc L:Nat)] 72)=W:=⟨_,rfl⟩
 rw [hw4]at HP4 HL4 HS4 HG4 HZ4 hc4 CF HCB
 rw [hbd]at CF HCB
 go_wp2_with fail
 refine(CF.out).mono ?_
 rintro e w5 ⟨rfl,g5⟩
 have HP5:=hQ9 (HP4.out.gr g5)
 have HL5:=hQ9 (HL4.out.gr g5)
 have HS5:=hQ9 (HS4.out.grew g5)
 have HG5:=hQ9 (zb HG4.out g5)
 have HZ5:=hQ9 (HZ4.out.grew g5)
 have HCB5:=hQ9 (zh HCB.out g5)
 clear g5 CF HP4 HL4 HS4 HG4 HZ4 HCB hc4 hw4 hbd
 rw [HTW.out]
 go_upto_region 7 with fail
 have HC0:Hid (∀ y,Grew w5 y→y.cell? ⟨p,0,none⟩=some (.int .i64 room)):=hQ9 (fun y g=>(HP5.out.gr g).c0)
 have CL:=hQ9 (fun y (g:Grew w5 y)=>zT y (HP5.out.gr g))
 refine ze 6 (fun ix9=>match ix9 with
  | 0=>fun v _=>v=.pointer (some ⟨p,0,none⟩)
  | 1=>fun v _=>v=.int .i64 (E.length:Int)
  | 2=>fun v _=>v=.pointer (some ⟨p,0,none⟩)
  | 3=>fun v _=>v=.pointer (some ⟨p,0,none⟩)
  | 4=>fun v _=>v=.pointer (some ⟨p,0,none⟩)
  | 5=>fun v _=>v=.int .i64 room
  | _=>fun _ _=>True) (by kernel_rfl) (by kernel_rfl) ?_ ?_ ?_
 ·intro i v x y h hg
  match i,h with
  | 0,h | 1,h | 2,h | 3,h | 4,h | 5,h=>exact h
  | m+6,_=>trivial
 ·simp only [actOf,tk1,tk0,dr1,dr0,Act.put,si1,st1,st0,Nat.reduceAdd]
  refine⟨?_,?_,?_,?_,?_,?_,trivial⟩
  ·intro vs y hg hd
   dsimp only
   go_wp2_with fail
   exact⟨rfl,_,rfl,za _,rfl⟩
  ·intro vs y hg hd
   obtain⟨h0,_⟩:=hd
   replace h0:=h0 rfl
   dsimp only
   rw [show vs 0=_ from h0]
   go_wp2_with(go_at_call 25;refine(CL.out y hg).mono ?_;rintro e z ⟨rfl,rfl⟩)
   exact⟨rfl,_,rfl,za _,rfl⟩
  ·intro vs y hg hd
   dsimp only
   go_wp2_with fail
   exact⟨rfl,_,rfl,za _,rfl⟩
  ·intro vs y hg hd
   obtain⟨h2,_⟩:=hd
   replace h2:=h2 rfl
   dsimp only
   rw [show vs 2=_ from h2]
   go_wp2_with fail
   exact⟨rfl,_,rfl,za _,rfl⟩
  ·intro vs y hg hd
   obtain⟨h3,_⟩:=hd
   replace h3:=h3 rfl
   dsimp only
   rw [show vs 3=_ from h3]
   go_wp2_with fail
   exact⟨rfl,_,rfl,za _,rfl⟩
  ·intro vs y hg hd
   obtain⟨h4,_⟩:=hd
   replace h4:=h4 rfl
   dsimp only
   rw [show vs 4=_ from h4]
   have hc:=HC0.out y hg
   go_wp2_with fail
   exact⟨rfl,_,rfl,za _,rfl⟩
 ·intro vs w6 hg hJ
  have j0:vs 0=.pointer (some ⟨p,0,none⟩):=hJ 0 (by decide)
  have j1:vs 1=.int .i64 (E.length:Int):=hJ 1 (by decide)
  have j2:vs 2=.pointer (some ⟨p,0,none⟩):=hJ 2 (by decide)
  have j3:vs 3=.pointer (some ⟨p,0,none⟩):=hJ 3 (by decide)
  have j4:vs 4=.pointer (some ⟨p,0,none⟩):=hJ 4 (by decide)
  have j5:vs 5=.int .i64 room:=hJ 5 (by decide)
  clear hJ
  simp only [actOf,tk1,tk0,dr1,dr0,Act.put,si1,st1,st0,Nat.reduceAdd]
  rw [j1,j5]
  have HP7:=hQ9 (HP5.out.gr hg)
  have HL7:=hQ9 (HL5.out.gr hg)
  have HS7:=hQ9 (HS5.out.grew hg)
  have HG7:=hQ9 (zb HG5.out hg)
  have HZ7:=hQ9 (HZ5.out.grew hg)
  have HCB7:=hQ9 (zh HCB5.out hg)
  clear j0 j1 j2 j3 j4 j5 hg HC0 CL HP5 HL5 HS5 HG5 HZ5 HCB5
  have e7:decide (room≤(E.length:Int))=true:=decide_eq_true HFU.out
  go_wp2_with fail
  go_ret
  exact⟨rfl,HG7.out⟩
theorem qL {p base:Nat} {room fl:Int} {v:Value} {E:List En} (cc:Cm) (hc:cc.in) (A:Option Addr) (k:Nat) (L:List SP) (hl:L.length≤40)  (w:World) (hS:Std w) (hL:Sps w A L) (h:PlS w p base room fl v E) (hb:base≤w.heap.size) (hla:¬atV L≤fl) (htw:E.any (fun e=>e.d==ctD cc L)=false) (hfu:(E.length:Int)<room) (hr:room≤64) :
 Calls Tryz.prog 13 #[.pointer (some ⟨p,0,none⟩),.agg (ctC cc A L.length k)] w fun e w'=>∃ v' x i,e=.returned (.int .i64 0)∧(x.at_=atV L∧x.d=ctD cc L∧x.cm=cc)∧BsPos E x i∧PlS w' p base room fl v' (E.take i++x::E.drop i)∧En.hvN (fun b=>b=p∨v'.ownBlock=some b) w' x∧Kp (fun b=>b=p∨v.ownBlock=some b) w w'∧(v'.ownBlock=v.ownBlock∨∃ g,v'.ownBlock=some g∧w.heap.size≤g):=by
 have hut:=Tryz.underlying43
 have z0:=Ag.new w 43 (ctC cc A L.length k)
 have G0:=zc (za w) (.cells (ctC cc A L.length k) 43)
 have h1:=h.gr G0
 have hL1:=hL.gr G0
 have hS1:=hS.grew G0
 have HLW:=hQ9 hL
 obtain⟨Av,cv,rfl,hR⟩:=h.rd
 obtain⟨w1,hw1⟩:∃ W,w.alloc (.cells (ctC cc A L.length k) 43)=W:=⟨_,rfl⟩
 obtain⟨bx,hbx⟩:∃ q,w.heap.size=q:=⟨_,rfl⟩
 rw [hw1]at z0 G0 h1 hL1 hS1
 rw [hbx]at z0
 have SC:Hid ((Tryz.prog.info? 43).map (·.size)=some (ctC cc A L.length k).toList.length):=hQ9 zu
 have HM1:Hid (w1.rangeAt bx 0 (ctC cc A L.length k).toList):=hQ9 z0.cell
 have C1:=hQ9 (yw cc A k L (by omega) w1 hL1)
 have HP1:=hQ9 h1
 have HL1:=hQ9 hL1
 have HS1:=hQ9 hS1
 have HG0:=hQ9 G0
 have HZ:=hQ9 z0
 have HSL:=hQ9 hl
 have HCI:=hQ9 hc
 have HW:=hQ9 (And.intro hw1 hbx)
 have HOLD:=hQ9 h
 clear h1 hL1 hS1 G0 z0 hR h hS hL hc
 have HNL:=hQ9 hla
 have HTW:=hQ9 htw
 have HFU:=hQ9 (And.intro hfu (And.intro hr hb))
 clear hla htw hfu hr hb
 go_enter Tryz.func13,Tryz.ntmps13
 go_wp2_with(with_reducible refine wpList_load_mid rfl 43 (.tmp 3) rfl bx 0 rfl (ctC cc A L.length k).toList _ HM1.out hut rfl SC.out ?_;simp only [Array.toArray_toList])
 refine(C1.out).mono ?_
 rintro e w2 ⟨rfl,g2⟩
 have hp2:=HP1.out.gr g2
 have hf2:=hp2.c1
 have HP2:=hQ9 hp2
 have HL2:=hQ9 (HL1.out.gr g2)
 have HS2:=hQ9 (HS1.out.grew g2)
 have HG2:=hQ9 (zb HG0.out g2)
 have z2:=HZ.out.grew g2
 have HM2:Hid (w2.rangeAt bx 0 (ctC cc A L.length k).toList):=hQ9 z2.cell
 have HZ2:=hQ9 z2
 clear hp2 g2 z2 C1 HM1 HP1 HL1 HS1 HG0 HZ
 have e1:decide (atV L≤fl)=false:=decide_eq_false (by have:=HNL.out;omega)
 have C2:=hQ9 (ya cc HCI.out A k L HSL.out w2 HS2.out HL2.out)
 go_wp2_with(with_reducible refine wpList_load_mid rfl 43 (.tmp 3) rfl bx 0 rfl (ctC cc A L.length k).toList _ HM2.out hut rfl SC.out ?_;simp only [Array.toArray_toList])
 clear hf2 e1
 refine(C2.out).mono ?_
 rintro e w3 ⟨rfl,g3⟩
 have hdlt:Hid (ctD cc L<18446744073709551616):=hQ9 (yU _ _)
 have g34:=zb g3 (zc (za w3) (.cells #[.int .u64 (ctD cc L:Nat)] 72))
 have cbd:(w3.alloc (.cells #[.int .u64 (ctD cc L:Nat)] 72)).cell? ⟨w3.heap.size,0,none⟩=some (.int .u64 (ctD cc L:Nat)):=by simp
 have hp4:=HP2.out.gr g34
 have HP4:=hQ9 hp4
 have HL4:=hQ9 (HL2.out.gr g34)
 have HS4:=hQ9 (HS2.out.grew g34)
 have HG4:=hQ9 (zb HG2.out g34)
 have HZ4:=hQ9 (HZ2.out.grew g34)
 obtain⟨A4,c4,hv4,hR4⟩:=hp4.rd
 injection hv4 with hv5 hv6 hv7
 subst hv5
 have hc4:=hp4.c3
 have CF:=hQ9 (y3 Av cv E HP4.out.len (ctD cc L) w3.heap.size _ hR4 cbd)
 have HCB:=hQ9 cbd
 clear C2 g3 hp4 hR4 HM2 HP2 HL2 HS2 HG2 HZ2 hv6 hv7 g34 cbd
 obtain⟨bd,hbd⟩:∃ q,w3.heap.size=q:=⟨_,rfl⟩
 obtain⟨w4,hw4⟩:∃ W,w3.alloc (.cells #[.int .u64 (ctD cc L:Nat)] 72)=W:=⟨_,rfl⟩
 rw [hw4]at HP4 HL4 HS4 HG4 HZ4 hc4 CF HCB
 rw [hbd]at CF HCB
 go_wp2_with fail
 refine(CF.out).mono ?_
 rintro e w5 ⟨rfl,g5⟩
 have HP5:=hQ9 (HP4.out.gr g5)
 have HL5:=hQ9 (HL4.out.gr g5)
 have HS5:=hQ9 (HS4.out.grew g5)
 have HG5:=hQ9 (zb HG4.out g5)
 have HZ5:=hQ9 (HZ4.out.grew g5)
 have HCB5:=hQ9 (zh HCB.out g5)
 clear g5 CF HP4 HL4 HS4 HG4 HZ4 HCB hc4 hw4 hbd
 rw [HTW.out]
 go_upto_region 7 with fail
 have HC0:Hid (∀ y,Grew w5 y→y.cell? ⟨p,0,none⟩=some (.int .i64 room)):=hQ9 (fun y g=>(HP5.out.gr g).c0)
 have CL:=hQ9 (fun y (g:Grew w5 y)=>zT y (HP5.out.gr g))
 refine ze 6 (fun ix9=>match ix9 with
  | 0=>fun v _=>v=.pointer (some ⟨p,0,none⟩)
  | 1=>fun v _=>v=.int .i64 (E.length:Int)
  | 2=>fun v _=>v=.pointer (some ⟨p,0,none⟩)
  | 3=>fun v _=>v=.pointer (some ⟨p,0,none⟩)
  | 4=>fun v _=>v=.pointer (some ⟨p,0,none⟩)
  | 5=>fun v _=>v=.int .i64 room
  | _=>fun _ _=>True) (by kernel_rfl) (by kernel_rfl) ?_ ?_ ?_
 ·intro i v x y h hg
  match i,h with
  | 0,h | 1,h | 2,h | 3,h | 4,h | 5,h=>exact h
  | m+6,_=>trivial
 ·simp only [actOf,tk1,tk0,dr1,dr0,Act.put,si1,st1,st0,Nat.reduceAdd]
  refine⟨?_,?_,?_,?_,?_,?_,trivial⟩
  ·intro vs y hg hd
   dsimp only
   go_wp2_with fail
   exact⟨rfl,_,rfl,za _,rfl⟩
  ·intro vs y hg hd
   obtain⟨h0,_⟩:=hd
   replace h0:=h0 rfl
   dsimp only
   rw [show vs 0=_ from h0]
   go_wp2_with(go_at_call 25;refine(CL.out y hg).mono ?_;rintro e z ⟨rfl,rfl⟩)
   exact⟨rfl,_,rfl,za _,rfl⟩
  ·intro vs y hg hd
   dsimp only
   go_wp2_with fail
   exact⟨rfl,_,rfl,za _,rfl⟩
  ·intro vs y hg hd
   obtain⟨h2,_⟩:=hd
   replace h2:=h2 rfl
   dsimp only
   rw [show vs 2=_ from h2]
   go_wp2_with fail
   exact⟨rfl,_,rfl,za _,rfl⟩
  ·intro vs y hg hd
   obtain⟨h3,_⟩:=hd
   replace h3:=h3 rfl
   dsimp only
   rw [show vs 3=_ from h3]
   go_wp2_with fail
   exact⟨rfl,_,rfl,za _,rfl⟩
  ·intro vs y hg hd
   obtain⟨h4,_⟩:=hd
   replace h4:=h4 rfl
   dsimp only
   rw [show vs 4=_ from h4]
   have hc:=HC0.out y hg
   go_wp2_with fail
   exact⟨rfl,_,rfl,za _,rfl⟩
 ·intro vs w6 hg hJ
  have j0:vs 0=.pointer (some ⟨p,0,none⟩):=hJ 0 (by decide)
  have j1:vs 1=.int .i64 (E.length:Int):=hJ 1 (by decide)
  have j2:vs 2=.pointer (some ⟨p,0,none⟩):=hJ 2 (by decide)
  have j3:vs 3=.pointer (some ⟨p,0,none⟩):=hJ 3 (by decide)
  have j4:vs 4=.pointer (some ⟨p,0,none⟩):=hJ 4 (by decide)
  have j5:vs 5=.int .i64 room:=hJ 5 (by decide)
  clear hJ
  simp only [actOf,tk1,tk0,dr1,dr0,Act.put,si1,st1,st0,Nat.reduceAdd]
  rw [j1,j5]
  have HP7:=hQ9 (HP5.out.gr hg)
  have HL7:=hQ9 (HL5.out.gr hg)
  have HS7:=hQ9 (HS5.out.grew hg)
  have HG7:=hQ9 (zb HG5.out hg)
  have HZ7:=hQ9 (HZ5.out.grew hg)
  have HCB7:=hQ9 (zh HCB5.out hg)
  clear j0 j1 j2 j3 j4 j5 hg HC0 CL HP5 HL5 HS5 HG5 HZ5 HCB5
  have e7:decide (room≤(E.length:Int))=false:=decide_eq_false (by have:=HFU.out;omega)
  go_upto_region 9 with fail
  generalize w6=w7 at *
  have HX:Hid (∀ y,Grew w7 y→y.rangeAt bx 0 (ctC cc A L.length k).toList):=hQ9 (fun y g=>(HZ7.out.grew g).cell)
  have HD:Hid (∀ y,Grew w7 y→y.cell? ⟨bd,0,none⟩=some (.int .u64 (ctD cc L:Nat))):=hQ9 (fun y g=>zh HCB7.out g)
  have CC:=hQ9 (fun y (g:Grew w7 y)=>xF cc A k L (by have:=HSL.out;omega) y (HL7.out.gr g))
  have HTB:Hid (∀ B k2,Tryz.prog.built 141 [(0,.int .i64 (atV L)),(1,.int .u64 (ctD cc L:Nat)),(2,.agg (ctC cc B L.length k2))]=some (enOf (atV L) (ctD cc L) cc B L.length k2).C):=hQ9 (fun B k2=>by kernel_rfl)
  refine ze 8 (fun ix9=>match ix9 with
   | 0=>fun v _=>v=.pointer (some ⟨p,0,none⟩)
   | 1=>fun v _=>v=.pointer (some ⟨p,0,none⟩)
   | 2=>fun v _=>v=.pointer (some ⟨p,2,none⟩)
   | 3=>fun v _=>v=.int .i64 (atV L)
   | 4=>fun v _=>v=.int .u64 (ctD cc L:Nat)
   | 5=>fun v _=>v=.agg (ctC cc A L.length k)
   | 6=>fun v W=>CtV w7 cc L v W
   | 7=>fun v W=>EnV w7 (atV L) (ctD cc L) cc L v W
   | _=>fun _ _=>True) (by kernel_rfl) (by kernel_rfl) ?_ ?_ ?_
  ·intro i v x y h hg
   match i,h with
   | 0,h | 1,h | 2,h | 3,h | 4,h | 5,h=>exact h
   | 6,h=>exact CtV.gr h hg
   | 7,h=>exact EnV.gr h hg
   | m+8,_=>trivial
  ·simp only [actOf,tk1,tk0,dr1,dr0,Act.put,si1,st1,st0,Nat.reduceAdd]
   refine⟨?_,?_,?_,?_,?_,?_,?_,?_,trivial⟩
   ·intro vs y hg hd
    dsimp only
    go_wp2_with fail
    exact⟨rfl,_,rfl,za _,rfl⟩
   ·intro vs y hg hd
    obtain⟨h0,_⟩:=hd
    replace h0:=h0 rfl
    dsimp only
    rw [show vs 0=_ from h0]
    go_wp2_with fail
    exact⟨rfl,_,rfl,za _,rfl⟩
   ·intro vs y hg hd
    obtain⟨h1,_⟩:=hd
    replace h1:=h1 rfl
    dsimp only
    rw [show vs 1=_ from h1]
    go_wp2_with fail
    exact⟨rfl,_,rfl,za _,rfl⟩
   ·intro vs y hg hd
    dsimp only
    go_wp2_with fail
    exact⟨rfl,_,rfl,za _,rfl⟩
   ·intro vs y hg hd
    dsimp only
    have hc:=HD.out y hg
    go_wp2_with fail
    exact⟨rfl,_,rfl,za _,rfl⟩
   ·intro vs y hg hd
    dsimp only
    have hm:=HX.out y hg
    go_wp2_with(with_reducible refine wpList_load_mid rfl 43 (.tmp 3) rfl bx 0 rfl (ctC cc A L.length k).toList _ hm hut rfl SC.out ?_;simp only [Array.toArray_toList])
    exact⟨rfl,_,rfl,za _,rfl⟩
   ·intro vs y hg hd
    obtain⟨h5,_⟩:=hd
    replace h5:=h5 rfl
    dsimp only
    rw [show vs 5=_ from h5]
    go_wp2_with(go_at_call 63;refine(CC.out y hg).mono ?_;rintro e z ⟨B,k2,M,rfl,h1,h2,h3,h4,gz⟩)
    exact⟨rfl,_,rfl,gz,⟨B,k2,M,rfl,h1,h2,fun ad h=>Nat.le_trans hg.size (h3 ad h),fun S hS ad h=>(h4 S hS ad h).imp id (fun h=>Nat.le_trans hg.size h)⟩⟩
   ·intro vs y hg hd
    obtain⟨h3,h4,h6,_⟩:=hd
    replace h3:=h3 rfl
    replace h4:=h4 rfl
    replace h6:=h6 rfl
    dsimp only
    rw [show vs 3=_ from h3,show vs 4=_ from h4]
    obtain⟨B,k2,M,hv,h1,h2,h8,h9⟩:=h6.out
    rw [hv]
    go_wp2_with(with_reducible refine yf rfl 141 #[(0,.tmp 34),(1,.tmp 35),(2,.tmp 37)] rfl (enOf (atV L) (ctD cc L) cc B L.length k2).C ?_ ?_;simpa [Act.eval,Act.put]using (HTB.out B k2))
    exact⟨rfl,_,rfl,za _,⟨B,k2,M,rfl,h1,h2,h8,h9⟩⟩
  ·intro vs w8 hg hJ
   have j0:vs 0=.pointer (some ⟨p,0,none⟩):=hJ 0 (by decide)
   have j1:vs 1=.pointer (some ⟨p,0,none⟩):=hJ 1 (by decide)
   have j2:vs 2=.pointer (some ⟨p,2,none⟩):=hJ 2 (by decide)
   have j3:vs 3=.int .i64 (atV L):=hJ 3 (by decide)
   have j4:vs 4=.int .u64 (ctD cc L:Nat):=hJ 4 (by decide)
   have j5:vs 5=.agg (ctC cc A L.length k):=hJ 5 (by decide)
   have s37:=hJ 6 (by decide)
   have s38:=hJ 7 (by decide)
   clear hJ
   simp only [actOf,tk1,tk0,dr1,dr0,Act.put,si1,st1,st0,Nat.reduceAdd]
   obtain⟨B,k2,M,hv,hmv,hS8,hB8,hM8⟩:=(show EnV w7 (atV L) (ctD cc L) cc L (vs 7) w8 from s38).out
   obtain⟨x,hx⟩:∃ x,enOf (atV L) (ctD cc L) cc B L.length k2=x:=⟨_,rfl⟩
   have hP8:=HP7.out.gr hg
   have hG8:=zb HG7.out hg
   have hnd:∀ e∈E,e.d≠x.d:=fun e he h9=>by
    have h8:=HTW.out
    rw [List.any_eq_false]at h8
    exact h8 e he (by rw [h9,←hx];simp [enOf])
   have CA:=hQ9 (qs x hnd (by have:=HFU.out;omega) w8 hP8 (Nat.le_trans HFU.out.2.2 hG8.size))
   rw [j2,hv,hx]
   have hxA:x.A=B:=by rw [←hx];rfl
   have hxn:x.n=L.length:=by rw [←hx];rfl
   have HXX:Hid (x.at_=atV L∧x.d=ctD cc L∧x.cm=cc):=hQ9 (by rw [←hx];exact⟨rfl,rfl,rfl⟩)
   have HS8:=hQ9 (And.intro hmv (And.intro hS8 (And.intro hB8 (And.intro hM8 (And.intro hxA hxn)))))
   have HG8:=hQ9 hG8
   have HG7b:=hQ9 (And.intro HG7.out.size hg.size)
   clear hmv hS8 hB8 hM8 hP8 hG8 hnd hx hv hxA hxn s37 s38 j0 j1 j2 j3 j4 j5 hg HX HD CC HTB
   go_wp2_with fail
   refine(CA.out).mono ?_
   rintro e w9 ⟨i,v',rfl,hpos,hP9,hK9,hO9⟩
   obtain⟨hmv,hS8,hB8,hM8,hxA,hxn⟩:=HS8.out
   have hpl:=HOLD.out.ptr.lt
   have hvl:∀ g,(Value.slice Av E.length cv).ownBlock=some g→g<w.heap.size:=fun g hg=>(zl HOLD.out.own g hg).2
   have hs7:=HG7b.out.1
   have hs8:=HG7b.out.2
   have hS9:Sps w9 B M:=hS8.kpx hK9 (fun ad h h9=>by
    have:=hB8 ad h
    rcases h9 with h9 | h9
    ·omega
    ·have:=hvl _ h9;omega) (fun S hS ad h=>(hM8 S hS ad h).imp id (fun h8 h9=>by
    rcases h9 with h9 | h9
    ·omega
    ·have:=hvl _ h9;omega))
   have hv9:∀ b,w.heap.size≤b→b<w8.heap.size→¬(b=p∨v'.ownBlock=some b):=fun b h1 h2 h9=>by
    rcases h9 with h9 | h9
    ·omega
    ·rcases hO9 with h8 | ⟨g,h8,h7⟩
     ·rw [h8]at h9;have:=hvl _ h9;omega
     ·rw [h8]at h9;injection h9 with h9;omega
   have hN:En.hvN (fun b=>b=p∨v'.ownBlock=some b) w9 x:=by
    refine⟨M,by rw [hxn,hmv.len],by rw [hmv.len];exact HSL.out,by rw [hxA];exact hS9,?_,fun S hS ad h=>?_⟩
    ·by_cases hM0:M=[]
     ·exact .inl hM0
     ·refine .inr (fun ad h=>?_)
      rw [hxA]at h
      obtain⟨q,hq,hql,_⟩:=hS8.get 0 (List.length_pos_iff.2 hM0)
      rw [h]at hq
      injection hq with hq
      exact hv9 _ (by have:=hB8 ad h;omega) (by rw [hq];exact hql)
    ·by_cases hl0:S.l=[]
     ·exact .inl hl0
     ·refine .inr ?_
      rcases hM8 S hS ad h with h8 | h8
      ·exact absurd h8 hl0
      ·obtain⟨ad2,h7,h6,_⟩:=hS8.at_ S hS 0 (by rw [zM];exact List.length_pos_iff.2 hl0)
       rw [h]at h7
       injection h7 with h7
       exact hv9 _ (by omega) (by rw [h7];exact h6)
   have HF:=hQ9 (And.intro hN (And.intro (show Kp (fun b=>b=p∨(Value.slice Av E.length cv).ownBlock=some b) w w9 from zx (zi HG8.out) hK9) (And.intro hpos (And.intro hP9 (hO9.imp id (fun(h:∃ g,v'.ownBlock=some g∧w8.heap.size≤g)=>(⟨h.choose,h.choose_spec.1,by have:=h.choose_spec.2;have:=HG8.out.size;omega⟩:∃ g,v'.ownBlock=some g∧w.heap.size≤g)))))))
   clear hN hK9 hpos hP9 hO9 hS9 hv9 hmv hS8 hB8 hM8 hxA hxn hpl hvl hs7 hs8 CA
   go_wp2_with fail
   go_ret
   exact⟨v',x,i,rfl,HXX.out,HF.out.2.2.1,HF.out.2.2.2.1,HF.out.1,HF.out.2.1,HF.out.2.2.2.2⟩
end Go.Proofs.YtkpnheenacchhaaGreatDoor
namespace Go.Proofs.YtkpnheenacchhaaGreatDoor
open Go.RowKit
set_option linter.unnecessarySimpa false
def En.hv (w:World) (e:En):Prop:=∃ L:List SP,e.n=L.length∧L.length≤40∧Sps w e.A L
theorem En.hv.gr {w w':World} {e:En} (h:e.hv w) (g:Grew w w'):e.hv w':=by
 obtain⟨L,h1,h2,h3⟩:=h
 exact⟨L,h1,h2,h3.gr g⟩
theorem jO (e:En) (w:World) (h:e.hv w):Calls Tryz.prog 73 #[.agg e.C] w fun ev w'=>∃ B k,ev=.returned (.agg (ctC e.cm B e.n k))∧Grew w w':=by
 obtain⟨L,hn,hl,hL⟩:=h
 have hut:=Tryz.underlying43
 have z1:=(Ag.new w 141 e.C).grew (zc (za _) (.cells (zS6:Array Value) 43))
 have z2:Ag ((w.alloc (.cells e.C 141)).alloc (.cells (zS6:Array Value) 43)) (w.heap.size+1) (zS6:Array Value).toList:=by
  have:=Ag.new (w.alloc (.cells e.C 141)) 43 (zS6:Array Value)
  rwa [zg]at this
 have G0:=zc (zc (za w) (.cells e.C 141)) (.cells (zS6:Array Value) 43)
 have hL0:=hL.gr G0
 obtain⟨w1,hw1⟩:∃ W,(w.alloc (.cells e.C 141)).alloc (.cells (zS6:Array Value) 43)=W:=⟨_,rfl⟩
 rw [hw1]at z1 z2 G0 hL0
 have hm:w1.rangeAt w.heap.size 2 (ctC e.cm e.A L.length e.k).toList:=fun j u hj=>by
  refine z1.cell (2+j) u ?_ |> fun h=>by simpa using h
  rw [←hn]at hj
  match j,hj with
  | 0,hj | 1,hj | 2,hj | 3,hj | 4,hj | 5,hj=>exact hj
  | j+6,hj=>simp [ctC]at hj
 have CC:=hQ9 (xF e.cm e.A e.k L (by omega) w1 hL0)
 have SC:Hid ((Tryz.prog.info? 43).map (·.size)=some (ctC e.cm e.A L.length e.k).toList.length):=hQ9 zu
 have HM:=hQ9 hm
 have HN:=hQ9 hn
 have HZ2:=hQ9 z2
 have HG0:=hQ9 G0
 clear z1 z2 hm hL hL0 G0 hl hn
 go_enter Tryz.func73,Tryz.ntmps73
 go_wp2_with(with_reducible refine wpList_load_mid rfl 43 (.tmp 3) rfl w.heap.size 2 rfl (ctC e.cm e.A L.length e.k).toList _ HM.out hut rfl SC.out ?_;simp only [Array.toArray_toList])
 refine(CC.out).mono ?_
 rintro ev w2 ⟨B,k2,M,rfl,hmv,hS2,_,_,g2⟩
 have z3:=HZ2.out.grew g2
 have SI2:Hid ((Tryz.prog.info? 43).map (·.size)=some (ctC e.cm B L.length k2).size):=hQ9 zu
 have HON:=hQ9 (yv e.cm B L.length k2)
 have HTH:Hid (w2.there (w.heap.size+1) 0 (ctC e.cm B L.length k2).size):=hQ9 (z3.thereN 6 rfl)
 have z4:=Ag.set (vs:=(ctC e.cm B L.length k2).toList) z3 rfl
 have G4:=zn (o:=0) (b:=w.heap.size+1) (ctC e.cm B L.length k2).toList (zb HG0.out g2) (by omega)
 clear hmv hS2 g2 CC HM
 go_wp2_with(with_reducible refine wpList_store_mid rfl 43 (.tmp 2) (.tmp 5) rfl (w.heap.size+1) 0 (ctC e.cm B L.length k2) rfl rfl HTH.out SI2.out HON.out ?_)
 exact bodyPost_ret (zy Tryz.results73 _ _ (w.heap.size+1) _ _ rfl z4 hut rfl zu) rfl ⟨B,k2,by rw [HN.out],G4⟩
structure CtRows (w:World) (base:Nat) (v:Value) (E:List En) (R:List (List Value)):Prop where
 own:w.ownsRow base 43 6 v R.length R.flatten
 len:R.length=E.length
 z:∀ l∈R,l.length=6
 no:∀ i (h:i<R.length) (h':i<E.length),R[i][1]?=some (.int .i64 E[i].no)
theorem qM:(Tryz.prog.info? 43).map (fun i=>(i.zero,i.size,i.bytes))=some (some (.agg (#[.int .i64 0,.int .i64 0,.int .i64 0,.int .i64 0,.int .i64 0,.slice none 0 0]:Array Value)),6,64):=by kernel_rfl
theorem ka (A:Option Addr) (c:Nat) (E:List En) (hl:E.length≤1000) (w:World) (hR:ltRdC w A 8 (enL E)) (hH:∀ e∈E,e.hv w) :
 Calls Tryz.prog 70 #[.slice A E.length c,.func (.func 73) #[] #[]] w fun ev w'=>∃ v' R,ev=.returned v'∧CtRows w' w.heap.size v' E R∧Grew w w':=by
 obtain⟨i0,hi0,hz0,hz1,hz2⟩:=info_parts qM
 have hub:=Tryz.underlying141
 have HR:=hQ9 hR
 have HL:=hQ9 hl
 have HHV:=hQ9 hH
 clear hR hH
 obtain⟨w1,hmk,hown1,hgrow1⟩:=run_make_own (P:=Tryz.prog) w w.heap.size 48 43 i0 (.agg (zS6:Array Value)) 6 Tryz.underlying48 hi0 hz0 hz1 .i64 .i64 E.length (by rw [hz2];omega) (by unfold maxLen;omega) (Nat.le_refl _)
 have hg1:Grew w w1:=(Below.refl _ w).grown hgrow1 (Nat.le_refl _) (fun j hj=>by cases hj)
 clear hgrow1
 go_enter Tryz.func70,Tryz.ntmps70
 go_wp2_with fail
 clear hmk
 go_loopw [5,13] (fun rv iv wr=>∃(k:Nat) (pl:Value) (R:List (List Value)),pl=rv∧iv=.int .i64 (k:Int)∧k≤E.length∧CtRows wr w.heap.size pl (E.take k) R∧Grew w wr) (fun _ iv _=>E.length-(Go.RowKit.intOf iv).toNat)
 case atStart=>exact⟨0,_,[],rfl,rfl,Nat.zero_le _,⟨by simpa using hown1,by simp,by simp,fun i h=>absurd h (by simp)⟩,hg1⟩
 case round =>
  clear hown1 hg1
  obtain⟨k,pl,R,hpl,rfl,hk,hrow,hg⟩:=hrel
  subst hpl
  by_cases hlt:k<E.length
  ·obtain⟨gA,rfl,hgl,hm⟩:=HR.out k (by rw [zv];exact hlt)
   rw [zS]at hm
   have hk0:(0:Int)≤(k:Int):=by omega
   have hk1:(k:Int)<(E.length:Int):=by omega
   have e1:decide (k<E.length)=true:=decide_eq_true hlt
   have e4:IntKind.i64.wrap ((k:Int)+1)=(k:Int)+1:=IntWalk.i64_in _ (by omega)
   have HTS:Hid (E.take (k+1)=E.take k++[E[k]]):=hQ9 (by rw [List.take_succ_eq_append_getElem hlt])
   have HLT:=hQ9 hlt
   have hhv:=HHV.out _ (List.getElem_mem hlt)
   generalize E[k]=ek at *
   have HM2:Hid (wr.rangeAt gA (k*8) ek.C.toList):=hQ9 (fun j u hj=>by
    have:=hm j u hj
    rw [←this]
    exact World.cell?_of_block (hg.block gA hgl))
   have SE:Hid ((Tryz.prog.info? 141).map (·.size)=some ek.C.toList.length):=hQ9 zp
   have SZ:Hid ((Tryz.prog.info? 141).map (·.size)=some ek.C.size):=hQ9 zp
   have HO:=hQ9 ek.one
   obtain⟨w2,hw2,ht2,g2,z2⟩:=z6 wr 141 (#[.int .i64 0,.int .u64 0,.int .i64 0,.int .i64 0,.int .i64 0,.int .i64 0,.int .i64 0,.slice none 0 0]:Array Value) ek.C rfl
   have G2:=zb hg g2
   have HW2:=hQ9 hw2
   have HT2:=hQ9 ht2
   have CA:=hQ9 (jO ek w2 (hhv.gr G2))
   have HROW:Hid (CtRows w2 w.heap.size pl (E.take k) R):=hQ9 ⟨zm hrow.own g2,hrow.len,hrow.z,hrow.no⟩
   have HG2:=hQ9 G2
   have HMQ:Hid (w2.rangeAt wr.heap.size 0 ek.C.toList):=hQ9 z2.cell
   have hrl:R.length≤1000:=by rw [hrow.len,List.length_take];omega
   clear hm hlt hk hg hw2 ht2 g2 z2 G2 hrow hhv
   go_wp2_with(first
    | (with_reducible refine wpList_load_mid rfl 141 (.tmp 15) rfl gA (k*8) rfl ek.C.toList _ HM2.out hub rfl SE.out ?_;simp only [Array.toArray_toList])
    | (with_reducible refine wpList_store_mid rfl 141 (.tmp 7) (.tmp 16) rfl wr.heap.size 0 ek.C rfl rfl HT2.out SZ.out HO.out ?_;rw [HW2.out])
    | (with_reducible refine wpList_load_mid rfl 141 (.tmp 7) rfl wr.heap.size 0 rfl ek.C.toList _ HMQ.out hub rfl SE.out ?_;simp only [Array.toArray_toList]))
   refine(CA.out).mono ?_
   rintro e w3 ⟨B,k2,rfl,g3⟩
   have row3:=zm HROW.out.own g3
   have HG3:=hQ9 (zb HG2.out g3)
   have hbl:=zl HROW.out.own
   have HBL:Hid (∀ g,pl.ownBlock=some g→w.heap.size≤g):=hQ9 (fun g h=>(hbl g h).1)
   obtain⟨cb,hcb⟩:∃ x,ctC ek.cm B ek.n k2=x:=⟨_,rfl⟩
   have h88:cb.size=6:=by rw [←hcb];rfl
   have HXS:Hid (Array.foldl (fun(cs:Array Value) (q:Value × Nat)=>cs.setIfInBounds q.snd q.fst) ((#[.int .i64 0,.int .i64 0,.int .i64 0,.int .i64 0,.int .i64 0,.slice none 0 0]:Array Value)) cb.zipIdx 0 6=cb):=hQ9 (by rw [←hcb];kernel_rfl)
   have hca:cb.all (·.oneCell')=true:=by rw [←hcb];exact yv _ _ _ _
   have HO':Hid (∀ u∈cb.toList,u.oneCell'=true):=hQ9 (fun u hu=>Array.all_eq_true_iff_forall_mem.1 hca u (by simpa using hu))
   clear hca
   have HNO:Hid (cb.toList[1]?=some (.int .i64 ek.no)):=hQ9 (by rw [←hcb];rfl)
   have H88:=hQ9 h88
   rw [hcb]
   have hbs:w.heap.size≤w3.heap.size:=HG3.out.size
   clear g3 CA HMQ HM2 HW2 HT2 hcb hbl
   go_wp2_with(at_builtin;rw [HXS.out];refine zo _ rfl (.tmp 17) (.tmp 21) 48 rfl w.heap.size 43 i0 (.agg (#[.int .i64 0,.int .i64 0,.int .i64 0,.int .i64 0,.int .i64 0,.slice none 0 0]:Array Value)) 6 64 Tryz.underlying48 hi0 hz0 hz1 hz2 rfl (by decide) _ R.length _ rfl (row3.alloc _) ⟨w3.heap.size,0,none⟩ 1 1 cb.toList rfl (by rw [Array.length_toList,H88.out]) (fun j u hj=>zX w3 cb 43 j u hj) HO'.out (by unfold maxLen;omega) (by omega) (by rw [zg];omega) ?_;intro v' w8 hown8 hgr8 hob8)
   have G8:Grew w w8:=(zc HG3.out _).grown hgr8 (by rw [zg];omega) (fun g h=>HBL.out g h)
   have HR8:Hid (CtRows w8 w.heap.size v' (E.take (k+1)) (R++[cb.toList])):=hQ9 (by
    have hRl:=HROW.out.len
    refine⟨by simpa using hown8,by rw [HTS.out];simp [hRl],fun l hl=>?_,fun i h h'=>?_⟩
    ·rcases List.mem_append.1 hl with h | h
     ·exact HROW.out.z l h
     ·obtain rfl:l=cb.toList:=by simpa using h
      rw [Array.length_toList,H88.out]
    ·by_cases hi:i<R.length
     ·rw [List.getElem_append_left hi]
      have h9:i<(E.take k).length:=by rw [←hRl];exact hi
      have:=HROW.out.no i hi h9
      rw [this]
      congr 2
      simp only [HTS.out]
      rw [List.getElem_append_left h9]
     ·have hie:i=R.length:=by simp at h;omega
      subst hie
      rw [List.getElem_append_right (Nat.le_refl _)]
      simp only [Nat.sub_self,List.getElem_cons_zero]
      rw [HNO.out]
      congr 2
      simp only [HTS.out,hRl]
      rw [List.getElem_append_right (Nat.le_refl _)]
      simp)
   have HG8:=hQ9 G8
   clear hown8 hgr8 hob8 G8 row3
   go_roundw
   case rel=>exact⟨k+1,_,_,rfl,by go_num,HLT.out,HR8.out,HG8.out⟩
   case measure=>have:=HLT.out;simp [Go.RowKit.intOf];omega
  ·obtain rfl:k=E.length:=by omega
   have e1:decide (E.length<E.length)=false:=by simp
   rw [List.take_length]at hrow
   have HROW:=hQ9 hrow
   have HG:=hQ9 hg
   clear hlt hk hrow hg
   go_wp2_with fail
   go_ret
   exact⟨pl,R,rfl,HROW.out,HG.out⟩
theorem qN {w:World} {b:Nat} {v:Value} {E:List En} (h:w.ownsRow b 141 8 v E.length (enL E).flatten):∃ A c,v=.slice A E.length c∧ltRdC w A 8 (enL E):=by
 obtain⟨A,c,h1,h2,_⟩:=z7 h (enL_z E) (by decide) (zv E)
 exact⟨A,c,h1,h2⟩
theorem qO {p base:Nat} {room fl:Int} {v:Value} {E:List En} (w:World) (h:PlS w p base room fl v E) (hH:∀ e∈E,e.hv w) :
 Calls Tryz.prog 26 #[.pointer (some ⟨p,0,none⟩)] w fun ev w'=>∃ v' R,ev=.returned v'∧CtRows w' w.heap.size v' E R∧Grew w w':=by
 obtain⟨A,c,rfl,hR⟩:=h.rd
 have hc:=h.c3
 have CM:=hQ9 (ka A c E h.len w hR hH)
 clear h hR hH
 go_enter Tryz.func26,Tryz.ntmps26
 go_wp2_with fail
 refine(CM.out).mono ?_
 rintro e w1 ⟨v',R,rfl,hr,g1⟩
 have HF:=hQ9 (And.intro hr g1)
 clear hr g1
 go_wp2_with fail
 go_ret
 exact⟨_,R,rfl,HF.out.1,HF.out.2⟩
theorem qP {p base:Nat} {room fl:Int} {v:Value} {E:List En} (lo hi:Int) (w:World) (h:PlS w p base room fl v E) (hH:∀ e∈E,e.hv w) :
 Calls Tryz.prog 19 #[.pointer (some ⟨p,0,none⟩),.int .i64 lo,.int .i64 hi] w fun ev w'=>∃ v' R,ev=.returned v'∧CtRows w' w.heap.size v' (E.filter (keepRP lo hi)) R∧Grew w w':=by
 have G0:=zc (zc (za w) (.cells #[.int .i64 lo] 2)) (.cells #[.int .i64 hi] 2)
 have c1:((w.alloc (.cells #[.int .i64 lo] 2)).alloc (.cells #[.int .i64 hi] 2)).cell? ⟨w.heap.size,0,none⟩=some (.int .i64 lo):=by
  have:=zh (w:=w.alloc (.cells #[.int .i64 lo] 2)) (b:=w.heap.size) (o:=0) (v:=.int .i64 lo) (by simp) (zc (za _) (.cells #[.int .i64 hi] 2))
  exact this
 have c2:((w.alloc (.cells #[.int .i64 lo] 2)).alloc (.cells #[.int .i64 hi] 2)).cell? ⟨w.heap.size+1,0,none⟩=some (.int .i64 hi):=by
  have:=(Ag.new (w.alloc (.cells #[.int .i64 lo] 2)) 2 #[.int .i64 hi]).cell 0 _ rfl
  rw [zg]at this
  simpa using this
 have h1:=h.gr G0
 have CK:=hQ9 (jw lo hi w.heap.size (w.heap.size+1) _ h1 c1 c2)
 have HG:=hQ9 G0
 have HH:=hQ9 hH
 have HL:=hQ9 h.len
 clear h h1 hH c1 c2 G0
 go_enter Tryz.func19,Tryz.ntmps19
 go_wp2_with fail
 refine(CK.out).mono ?_
 rintro e w2 ⟨v2,rfl,ho2,g2⟩
 obtain⟨A2,c2,rfl,hR2⟩:=qN ho2
 have G2:=zb HG.out g2
 have CM:=hQ9 (ka A2 c2 _ (Nat.le_trans (List.length_filter_le _ _) HL.out) w2 hR2 (fun e he=>(HH.out e (List.mem_filter.1 he).1).gr G2))
 have HG2:=hQ9 G2
 clear ho2 g2 hR2 G2 CK
 go_wp2_with fail
 refine(CM.out).mono ?_
 rintro e w3 ⟨v',R,rfl,hr,g3⟩
 have HF:Hid (CtRows w3 w.heap.size v' (E.filter (keepRP lo hi)) R∧Grew w w3):=hQ9 ⟨⟨yo hr.own HG2.out.size,hr.len,hr.z,hr.no⟩,zb HG2.out g3⟩
 clear hr g3
 go_wp2_with fail
 go_ret
 exact⟨_,R,rfl,HF.out.1,HF.out.2⟩
end Go.Proofs.YtkpnheenacchhaaGreatDoor
namespace Go.Proofs.YtkpnheenacchhaaGreatDoor
open Go.RowKit
set_option linter.unnecessarySimpa false
def spT (t:Int):SP:=⟨0,0,t,0,0,fun _=>0,none,0,[]⟩
theorem spT_ok (t:Int) (h:in64 t):(spT t).ok:=⟨by simp [spT],by simp [in64,spT],h,by simp [in64,spT],by simp [in64,spT],fun k _=>by simp [spT],by simp [spT],by simp [spT]⟩
theorem atV_T (t:Int):atV [spT t]=t:=by
 unfold atV
 rw [if_neg (by simp)]
 have:=k9 (l:=[t]) (n:=0) (by simp)
 rw [show List.map SP.at_ [spT t]=[t] from rfl,show [spT t].length / 2=0 by simp]
 simpa using this
theorem zF (n t:Int) (ht:in64 t) (w:World):Calls Tryz.prog 27 #[.int .i64 n,.int .i64 t] w fun e w'=>∃ b,e=.returned (.agg (ctC (cm12 n) (some ⟨b,0,none⟩) 1 1))∧Sps w' (some ⟨b,0,none⟩) [spT t]∧w.heap.size≤b∧Grew w w':=by
 have hut:=Tryz.underlying43
 have z0:=Ag.new w 43 (zS6:Array Value)
 have G0:=zc (za w) (.cells (zS6:Array Value) 43)
 obtain⟨w1,hw1⟩:∃ W,w.alloc (.cells (zS6:Array Value) 43)=W:=⟨_,rfl⟩
 rw [hw1]at z0 G0
 have CC:=hQ9 (fun W=>c12_ok n W)
 obtain⟨cc,hcc⟩:∃ x,(cm12 n).cells=x:=⟨_,rfl⟩
 rw [hcc]at CC
 obtain⟨sb,hsb⟩:∃ x,(spT t).C=x:=⟨_,rfl⟩
 have h88:sb.size=24:=by rw [←hsb];rfl
 have HTB:Hid (Tryz.prog.built 157 [(2,.int .i64 t)]=some sb):=hQ9 (by rw [←hsb];kernel_rfl)
 have HTC:Hid (∀ b,Tryz.prog.built 43 [(0,.agg cc),(1,.slice (some ⟨b,0,none⟩) 1 1)]=some (ctC (cm12 n) (some ⟨b,0,none⟩) 1 1)):=hQ9 (fun b=>by rw [←hcc];kernel_rfl)
 have HXS:Hid (Array.foldl (fun(cs:Array Value) (q:Value × Nat)=>cs.setIfInBounds q.snd q.fst) ((#[.int .u64 0,.int .i64 0,.int .i64 0,.int .i64 0,.int .i64 0,.int .u64 0,.int .u64 0,.int .u64 0,.int .u64 0,.int .u64 0,.int .u64 0,.int .u64 0,.int .u64 0,.int .u64 0,.int .u64 0,.int .u64 0,.int .u64 0,.int .u64 0,.int .u64 0,.int .u64 0,.int .u64 0,.int .u64 0,.int .u64 0,.slice none 0 0]:Array Value)) sb.zipIdx 0 24=sb):=hQ9 (by rw [←hsb];kernel_rfl)
 have HZ:=hQ9 z0
 have HG0:=hQ9 G0
 have HSB:=hQ9 hsb
 have HT:=hQ9 ht
 clear z0 G0 hcc hsb ht
 go_enter Tryz.func27,Tryz.ntmps27
 go_wp2_with fail
 refine(CC.out _).mono ?_
 rintro e w2 ⟨rfl,g2⟩
 have z2:=HZ.out.grew g2
 have G2:=zb HG0.out g2
 have HZ2:=hQ9 z2
 have HG2:=hQ9 G2
 clear z2 G2 g2 CC HZ HG0
 have ga:=zc (za w2) (.cells sb 157)
 have z3:=HZ2.out.grew ga
 have zs:=Ag.new w2 157 sb
 have hs2:=HG2.out.size
 obtain⟨bb,hbb⟩:∃ q,w2.heap.size=q:=⟨_,rfl⟩
 have hz2:=HZ2.out.lt
 have SI2:Hid ((Tryz.prog.info? 43).map (·.size)=some (ctC (cm12 n) (some ⟨bb,0,none⟩) 1 1).size):=hQ9 zu
 have HON:=hQ9 (yv (cm12 n) (some ⟨bb,0,none⟩) 1 1)
 have HTH:Hid ((w2.alloc (.cells sb 157)).there w.heap.size 0 (ctC (cm12 n) (some ⟨bb,0,none⟩) 1 1).size):=hQ9 (z3.thereN 6 rfl)
 have z4:=Ag.set (vs:=(ctC (cm12 n) (some ⟨bb,0,none⟩) 1 1).toList) z3 rfl
 have k4:=zk (ctC (cm12 n) (some ⟨bb,0,none⟩) 1 1).toList w.heap.size 0 (w2.alloc (.cells sb 157))
 have G4:=zn (o:=0) (b:=w.heap.size) (ctC (cm12 n) (some ⟨bb,0,none⟩) 1 1).toList (zb HG2.out ga) (Nat.le_refl _)
 have zs4:=zs.kp k4 (fun e=>by omega)
 rw [hbb]at zs4
 have HSP:Hid (Sps ((w2.alloc (.cells sb 157)).setCells w.heap.size 0 (ctC (cm12 n) (some ⟨bb,0,none⟩) 1 1).toList) (some ⟨bb,0,none⟩) [spT t]):=hQ9 ⟨fun k hk=>by
  have hk0:k=0:=by simp [spL]at hk;omega
  subst hk0
  refine⟨bb,rfl,zs4.lt,?_⟩
  rw [Nat.zero_mul]
  simp only [spL,List.map_cons,List.map_nil,List.getElem_cons_zero,HSB.out]
  exact zs4.cell,fun S hS=>by obtain rfl:S=spT t:=by simpa using hS
                              exact spT_ok t HT.out,fun S hS=>by
  obtain rfl:S=spT t:=by simpa using hS
  intro j hj
  simp [spT,u64L]at hj⟩
 have HFI:=hQ9 (And.intro z4 G4)
 have HBB:=hQ9 hbb
 have hwb:w.heap.size≤bb:=by omega
 clear ga z3 zs hs2 hz2 z4 k4 G4 zs4 hbb
 go_wp2_with(first
  | (with_reducible refine yf rfl 157 #[(2,.tmp 7)] rfl sb ?_ ?_;simpa [Act.eval,Act.put]using HTB.out)
  | (rw [HXS.out,HBB.out];with_reducible refine yf rfl 43 #[(0,.tmp 6),(1,.tmp 9)] rfl (ctC (cm12 n) (some ⟨bb,0,none⟩) 1 1) ?_ ?_;simpa [Act.eval,Act.put]using HTC.out bb)
  | (with_reducible refine wpList_store_mid rfl 43 (.tmp 4) (.tmp 10) rfl w.heap.size 0 (ctC (cm12 n) (some ⟨bb,0,none⟩) 1 1) rfl rfl HTH.out SI2.out HON.out ?_))
 exact bodyPost_ret (zy Tryz.results27 _ _ w.heap.size _ _ rfl HFI.out.1 hut rfl zu) rfl ⟨bb,rfl,HSP.out,hwb,HFI.out.2⟩
end Go.Proofs.YtkpnheenacchhaaGreatDoor
namespace Go.Proofs.YtkpnheenacchhaaGreatDoor
open Go.RowKit
set_option linter.unnecessarySimpa false
noncomputable def D13 (n t:Int):Nat:=ctD (cm12 n) [spT t]
def K13 (n t:Int):Nat:=sumC [99,101,114,116] (ctTx (cm12 n) [spT t])
theorem D13_K (n t:Int):D13 n t=K13 n t:=by unfold D13 K13 ctD;rw [sumL_C]
def dT13:List Nat:=[7781288750456741002,15966883120623062602,10138740094447142209,16353430409032553387,12411316257789274422,13783664720116677201,8323590593203614916,17172635553716445310,17422481355311424644,7076788830265201395,12915463056158003959,11964128817948350155,12403920852072608545,3193263040926196514,7318794442323594505,11435016296269603254,3152255116535685154,3794843709402775049,9108125811780604284,15068414563222328910,11503376359479258376,8073073407137542304,8607009139967184531,3365899819284737553,17767858614203570921,10518874567507612771,13281943776066506629,12619426136019513539,1504999310436509488,14627784314538225842,17472263260015070656,12524819864677699294,16765713909541645098,9507650904412595138,18249651504855581547,9103624220443671078,15204216323367946127,8121768129643739098,10930881417822956693,13918732720443668142,5109064000869657171,4188533449061155135,8029664740353777648,980896865286305615,2001514555971677325,8501655531166123784,15729365382008348779,2266243035166819060,4355347921218995062,6075506825992827609,12056627373817512775,16885715664202420967,1802224076773968953,20819088104453310,13831230573659290599,5189697301729509738,2657112073325414136,14517054991670034206,6324166054099654154,10968878620969418939,15069728105735121250,15724102475564198179,890618652550597941,16931835195074567466,16058754375748085513,13014470182364620736,16483051163351251294,11830771740605804915,15795228515913613514,13078980350956416648,14520494186666365412,3617969835276898709,7133841732833935740,4150813832912093078,4574651352806101136,4983615243919729573,12561015036206027000,10724421409853498878,4362571656581999199,6422490506620156941,13327592447373108046]
theorem y7:∀ i:Nat,i<80→K13 (i:Int) (10+(i:Int))=dT13.getD i 0:=by decide +kernel
theorem k7:K13 99 1000=dT13.getD 80 0:=by decide +kernel
theorem qQ:dT13.Nodup:=by decide +kernel
theorem jP:dT13.length=81:=rfl
theorem xG (i j:Nat) (hi:i<81) (hj:j<81) (h:dT13.getD i 0=dT13.getD j 0):i=j:=by
 have hl:=jP
 rw [List.getD_eq_getElem?_getD,List.getD_eq_getElem?_getD,List.getElem?_eq_getElem (by omega),List.getElem?_eq_getElem (by omega)]at h
 exact(List.getElem_inj qQ).1 (by simpa using h)
theorem k13_a:K13 0 20=6202625792878196895:=by decide +kernel
theorem k13_b:K13 1 10=3148148192690153130:=by decide +kernel
theorem k13_c:K13 2 30=13921432874498888905:=by decide +kernel
theorem yx (n:Int) (h:in64 n):(cm12 n).in:=by
 intro x hx
 simp only [Cm.l,cm12,List.mem_cons,List.not_mem_nil,or_false]at hx
 rcases hx with rfl | rfl | rfl | rfl | rfl
 ·simp [in64]
 ·exact h
 ·simp [in64]
 ·simp [in64]
 ·simp [in64]
theorem En.hvN.kp {N S:Nat→Prop} {w w':World} {e:En} (h:e.hvN N w) (k:Kp S w w') (hs:∀ b,S b→N b):e.hvN N w':=by
 obtain⟨L,h1,h2,h3,h4,h5⟩:=h
 refine⟨L,h1,h2,?_,h4,h5⟩
 rcases h4 with h4 | h4
 ·subst h4
  exact⟨fun k hk=>absurd hk (by simp [spL]),fun S hS=>absurd hS (by simp),fun S hS=>absurd hS (by simp)⟩
 ·exact h3.kpx k (fun ad h h9=>h4 ad h (hs _ h9)) (fun S hS ad h=>(h5 S hS ad h).imp id (fun h8 h9=>h8 (hs _ h9)))
theorem En.hvN.sub {N N':Nat→Prop} {w:World} {e:En} (h:e.hvN N w) (hs:∀ b,b<w.heap.size→N' b→N b):e.hvN N' w:=by
 obtain⟨L,h1,h2,h3,h4,h5⟩:=h
 refine⟨L,h1,h2,h3,?_,fun S hS ad h=>?_⟩
 ·by_cases hL:L=[]
  ·exact .inl hL
  ·refine .inr (fun ad h h9=>?_)
   rcases h4 with h4 | h4
   ·exact hL h4
   ·obtain⟨q,hq,hql,_⟩:=h3.get 0 (List.length_pos_iff.2 hL)
    rw [h]at hq
    injection hq with hq
    exact h4 ad h (hs _ (by rw [hq];exact hql) h9)
 ·by_cases hl0:S.l=[]
  ·exact .inl hl0
  ·refine .inr (fun h9=>?_)
   rcases h5 S hS ad h with h8 | h8
   ·exact hl0 h8
   ·obtain⟨ad2,h7,h6,_⟩:=h3.at_ S hS 0 (by rw [zM];exact List.length_pos_iff.2 hl0)
    rw [h]at h7
    injection h7 with h7
    exact h8 (hs _ (by rw [h7];exact h6) h9)
theorem En.hvN.hv {N:Nat→Prop} {w:World} {e:En} (h:e.hvN N w):e.hv w:=by
 obtain⟨L,h1,h2,h3,_⟩:=h
 exact⟨L,h1,h2,h3⟩
structure Pst (w0 w:World) (p:Nat) (room fl:Int) (E:List En):Prop where
 out:∃ v base,PlS w p base room fl v E∧base≤w.heap.size∧(∀ e∈E,e.hvN (fun b=>b=p∨v.ownBlock=some b) w)∧∀ g,v.ownBlock=some g→w0.heap.size≤g
 hp:w0.heap.size≤p
 G:Grew w0 w
theorem Pst.gr {w0 w w':World} {p:Nat} {room fl:Int} {E:List En} (h:Pst w0 w p room fl E) (g:Grew w w'):Pst w0 w' p room fl E:=by
 obtain⟨v,base,h1,h2,h3,h4⟩:=h.out
 exact⟨⟨v,base,h1.gr g,Nat.le_trans h2 g.size,fun e he=>(h3 e he).kp (S:=fun _=>False) (zi g) (fun _ h=>h.elim),h4⟩,h.hp,zb h.G g⟩
theorem Pst.srt {w0 w:World} {p:Nat} {room fl:Int} {E:List En} (h:Pst w0 w p room fl E):srtE E:=by
 obtain⟨v,base,h1,_⟩:=h.out
 exact h1.srt
theorem Pst.other {w0 w w':World} {p q:Nat} {room fl:Int} {E:List En} (h:Pst w0 w p room fl E) (k:Kp (fun b=>b=q) w w') (hq:∀ v base,PlS w p base room fl v E→p≠q∧v.ownBlock≠some q∧∀ e∈E,e.hvN (fun b=>b=p∨v.ownBlock=some b) w→e.hvN (fun b=>(b=p∨v.ownBlock=some b)∨b=q) w) (hq0:w0.heap.size≤q):Pst w0 w' p room fl E:=by
 obtain⟨v,base,h1,h2,h3,h4⟩:=h.out
 obtain⟨n1,n2,n3⟩:=hq v base h1
 refine⟨⟨v,base,h1.kp k n1 (fun g hg e=>n2 (by rw [hg,e])),Nat.le_trans h2 k.size,fun e he=>?_,h4⟩,h.hp,zw h.G k h.G.size (fun i e=>by have e':i=q:=e;omega)⟩
 exact((n3 e he (h3 e he)).kp k (fun b hb=>.inr hb)).sub (fun b _ hb=>.inl hb)
theorem newP (w0:World) (r:Int) (hr:1≤r∧r≤64) (w:World) (g:Grew w0 w):Calls Tryz.prog 11 #[.int .i64 r] w fun e w'=>∃ p,e=.returned (.tuple #[.pointer (some ⟨p,0,none⟩),.int .i64 0])∧Pst w0 w' p r 0 [] :=
 (qo r hr w).mono fun e w' ⟨p,h1,h2,h3,h4⟩=>⟨p,h1,⟨⟨_,_,h2,Nat.le_refl _,by simp,fun g hg=>by cases hg⟩,Nat.le_trans g.size h3,zb g h4⟩⟩
section
variable {w0 : World} {p : Nat} {room fl : Int} {E : List En}
theorem lenP (w:World) (h:Pst w0 w p room fl E):Calls Tryz.prog 25 #[.pointer (some ⟨p,0,none⟩)] w fun e w'=>e=.returned (.int .i64 (E.length:Int))∧w'=w:=by
 obtain⟨v,base,h1,_⟩:=h.out
 exact zT w h1
theorem floP (w:World) (h:Pst w0 w p room fl E):Calls Tryz.prog 24 #[.pointer (some ⟨p,0,none⟩)] w fun e w'=>e=.returned (.int .i64 fl)∧w'=w:=by
 obtain⟨v,base,h1,_⟩:=h.out
 exact qp w h1
theorem cloP (hi:Int) (w:World) (h:Pst w0 w p room fl E):Calls Tryz.prog 16 #[.pointer (some ⟨p,0,none⟩),.int .i64 hi] w fun e w'=>e=.returned (.bool (decide (fl<hi)))∧Pst w0 w' p room (if fl<hi then hi else fl) E:=by
 obtain⟨v,base,h1,h2,h3,h4⟩:=h.out
 by_cases hh:fl<hi
 ·rw [decide_eq_true hh,if_pos hh]
  refine(js hi hh w h1).mono ?_
  rintro e w' ⟨rfl,k1,k2⟩
  exact⟨rfl,⟨⟨v,base,k1,Nat.le_trans h2 k2.size,fun e he=>(h3 e he).kp k2 (fun b hb=>.inl hb),h4⟩,h.hp,zw h.G k2 h.G.size (fun i e=>by have e':i=p:=e;have:=h.hp;omega)⟩⟩
 ·rw [decide_eq_false hh,if_neg hh]
  refine(qq hi (by omega) w h1).mono ?_
  rintro e w' ⟨rfl,rfl⟩
  exact⟨rfl,h⟩
theorem dropP (tz:Int) (w:World) (h:Pst w0 w p room fl E):Calls Tryz.prog 21 #[.pointer (some ⟨p,0,none⟩),.int .i64 tz] w fun e w'=>e=.returned (.int .i64 ((E.length:Int)-((E.filter (keepDP tz)).length:Int)))∧Pst w0 w' p room fl (E.filter (keepDP tz))∧Kp (fun b=>b=p) w w':=by
 obtain⟨v,base,h1,h2,h3,h4⟩:=h.out
 refine(jx tz w h1 h2).mono ?_
 rintro e w' ⟨v',rfl,k1,k2,k3⟩
 refine⟨rfl,⟨⟨v',base,k1,Nat.le_trans h2 k2.size,fun e he=>?_,fun g hg=>Nat.le_trans h.G.size (k3 g hg)⟩,h.hp,zw h.G k2 h.G.size (fun i e=>by have e':i=p:=e;have:=h.hp;omega)⟩,k2⟩
 have h9:=h3 e (List.mem_filter.1 he).1
 have h8:e.hvN (fun b=>b=p∨v'.ownBlock=some b) w:=h9.sub (fun b hb hv=>by
  rcases hv with hv | hv
  ·exact .inl hv
  ·have:=k3 b hv;omega)
 exact h8.kp k2 (fun b hb=>.inl hb)
theorem twinP (w:World) (h:Pst w0 w p room fl E):Calls Tryz.prog 23 #[.pointer (some ⟨p,0,none⟩)] w fun e w'=>∃ q,e=.returned (.pointer (some ⟨q,0,none⟩))∧Pst w0 w' p room fl E∧(∃ v base,PlS w' q base room fl v E∧w.heap.size≤q∧∀ g,v.ownBlock=some g→w.heap.size≤g)∧Grew w w':=by
 obtain⟨v,base,h1,h2,h3,h4⟩:=h.out
 refine(jz w h1).mono ?_
 rintro e w' ⟨q,v',rfl,k1,k2,k3⟩
 exact⟨q,rfl,h.gr k3,⟨v',_,k1,k2,fun g hg=>(zl k1.own g hg).1⟩,k3⟩
theorem allP (w:World) (h:Pst w0 w p room fl E):Calls Tryz.prog 26 #[.pointer (some ⟨p,0,none⟩)] w fun e w'=>∃ v' R,e=.returned v'∧CtRows w' w.heap.size v' E R∧Grew w w':=by
 obtain⟨v,base,h1,h2,h3,h4⟩:=h.out
 exact qO w h1 (fun e he=>(h3 e he).hv)
theorem rngP (lo hi:Int) (w:World) (h:Pst w0 w p room fl E):Calls Tryz.prog 19 #[.pointer (some ⟨p,0,none⟩),.int .i64 lo,.int .i64 hi] w fun e w'=>∃ v' R,e=.returned v'∧CtRows w' w.heap.size v' (E.filter (keepRP lo hi)) R∧Grew w w':=by
 obtain⟨v,base,h1,h2,h3,h4⟩:=h.out
 exact qP lo hi w h1 (fun e he=>(h3 e he).hv)
theorem xf (n t:Int) (hn:in64 n) (b:Nat) (hla:t≤fl) (w:World) (hS:Std w0) (hL:Sps w (some ⟨b,0,none⟩) [spT t]) (h:Pst w0 w p room fl E) :
 Calls Tryz.prog 13 #[.pointer (some ⟨p,0,none⟩),(.agg (ctC (cm12 n) (some ⟨b,0,none⟩) 1 1))] w fun e w'=>e=.returned (.int .i64 9)∧Grew w w':=by
 obtain⟨v,base,h1,h2,h3,h4⟩:=h.out
 exact k5 (cm12 n) (yx n hn) (some ⟨b,0,none⟩) 1 [spT t] (by simp) w (hS.grew h.G) hL h1 (by rw [atV_T];exact hla)
theorem kr (n t:Int) (hn:in64 n) (b:Nat) (hla:¬t≤fl) (htw:E.any (fun e=>e.d==D13 n t)=true) (w:World) (hS:Std w0) (hL:Sps w (some ⟨b,0,none⟩) [spT t]) (h:Pst w0 w p room fl E) :
 Calls Tryz.prog 13 #[.pointer (some ⟨p,0,none⟩),(.agg (ctC (cm12 n) (some ⟨b,0,none⟩) 1 1))] w fun e w'=>e=.returned (.int .i64 5)∧Grew w w':=by
 obtain⟨v,base,h1,h2,h3,h4⟩:=h.out
 exact kq (cm12 n) (yx n hn) (some ⟨b,0,none⟩) 1 [spT t] (by simp) w (hS.grew h.G) hL h1 (by rw [atV_T];exact hla) htw
theorem yq (n t:Int) (hn:in64 n) (b:Nat) (hla:¬t≤fl) (htw:E.any (fun e=>e.d==D13 n t)=false) (hfu:room≤(E.length:Int)) (w:World) (hS:Std w0) (hL:Sps w (some ⟨b,0,none⟩) [spT t]) (h:Pst w0 w p room fl E) :
 Calls Tryz.prog 13 #[.pointer (some ⟨p,0,none⟩),(.agg (ctC (cm12 n) (some ⟨b,0,none⟩) 1 1))] w fun e w'=>e=.returned (.int .i64 6)∧Grew w w':=by
 obtain⟨v,base,h1,h2,h3,h4⟩:=h.out
 exact k6 (cm12 n) (yx n hn) (some ⟨b,0,none⟩) 1 [spT t] (by simp) w (hS.grew h.G) hL h1 (by rw [atV_T];exact hla) htw hfu
theorem yy (n t:Int) (hn:in64 n) (b:Nat) (hla:¬t≤fl) (htw:E.any (fun e=>e.d==D13 n t)=false) (hfu:(E.length:Int)<room) (hr:room≤64) (w:World) (hS:Std w0) (hL:Sps w (some ⟨b,0,none⟩) [spT t]) (h:Pst w0 w p room fl E) :
 Calls Tryz.prog 13 #[.pointer (some ⟨p,0,none⟩),(.agg (ctC (cm12 n) (some ⟨b,0,none⟩) 1 1))] w fun e w'=>∃ x i,e=.returned (.int .i64 0)∧(x.at_=t∧x.d=D13 n t∧x.no=n)∧BsPos E x i∧Pst w0 w' p room fl (E.take i++x::E.drop i):=by
 obtain⟨v,base,h1,h2,h3,h4⟩:=h.out
 refine(qL (cm12 n) (yx n hn) (some ⟨b,0,none⟩) 1 [spT t] (by simp) w (hS.grew h.G) hL h1 h2 (by rw [atV_T];exact hla) htw hfu hr).mono ?_
 rintro e w' ⟨v',x,i,rfl,⟨x1,x2,x3⟩,hp,hP,hN,hK,hO⟩
 rw [atV_T]at x1
 refine⟨x,i,rfl,⟨x1,x2,by have:=congrArg Cm.no x3;exact this⟩,hp,⟨⟨v',base,hP,Nat.le_trans h2 hK.size,fun e he=>?_,fun g hg=>?_⟩,h.hp,zw h.G hK h.G.size (fun i e=>?_)⟩⟩
 ·rcases List.mem_append.1 he with he | he
  ·exact((show e.hvN (fun b=>b=p∨v'.ownBlock=some b∨v.ownBlock=some b) w from(h3 e (List.mem_of_mem_take he)).sub (fun b hb hv=>by
    rcases hv with hv | hv | hv
    ·exact .inl hv
    ·rcases hO with h9 | ⟨g',h8,h9⟩
     ·exact .inr (by rw [←h9];exact hv)
     ·rw [h8]at hv;injection hv with hv;omega
    ·exact .inr hv)).kp hK (fun b hb=>hb.imp id .inr)).sub (fun b _ hv=>hv.imp id .inl)
  ·rcases List.mem_cons.1 he with rfl | he
   ·exact hN
   ·exact((show e.hvN (fun b=>b=p∨v'.ownBlock=some b∨v.ownBlock=some b) w from(h3 e (List.mem_of_mem_drop he)).sub (fun b hb hv=>by
    rcases hv with hv | hv | hv
    ·exact .inl hv
    ·rcases hO with h9 | ⟨g',h8,h9⟩
     ·exact .inr (by rw [←h9];exact hv)
     ·rw [h8]at hv;injection hv with hv;omega
    ·exact .inr hv)).kp hK (fun b hb=>hb.imp id .inr)).sub (fun b _ hv=>hv.imp id .inl)
 ·rcases hO with h9 | ⟨g',h8,h9⟩
  ·exact h4 g (by rw [←h9];exact hg)
  ·rw [h8]at hg;injection hg with hg;have:=h.G.size;omega
 ·rcases e with e | e
  ·have:=h.hp;omega
  ·exact h4 i e
end
end Go.Proofs.YtkpnheenacchhaaGreatDoor
namespace Go.Proofs.YtkpnheenacchhaaGreatDoor
open Go.RowKit
set_option linter.unnecessarySimpa false
theorem k8 {w:World} {b:Nat} {v:Value} {E:List En} {R:List (List Value)} (h:CtRows w b v E R):∃ A c,v=.slice A E.length c:=by
 obtain⟨A,c,hv⟩:=y4 h.own
 exact⟨A,c,by rw [hv,h.len]⟩
theorem ct_no0 {w:World} {b:Nat} {v:Value} {x:En} {E:List En} {R:List (List Value)} (h:CtRows w b v (x::E) R):∃ g c,v=.slice (some ⟨g,0,none⟩) (E.length+1) c∧b≤g∧g<w.heap.size∧w.cell? ⟨g,1,none⟩=some (.int .i64 x.no):=by
 have hl:=h.len
 rw [List.length_cons]at hl
 obtain⟨g,c,hv,hb,hg,_⟩:=jo h.own (by omega)
 subst hv
 obtain⟨A,c2,hv2,hr,_⟩:=z7 h.own h.z (by decide) rfl
 injection hv2 with h1 h2 h3
 subst h1
 obtain⟨q,hq,_,hm⟩:=hr 0 (by omega)
 injection hq with hq
 injection hq with hq
 subst hq
 refine⟨g,c,by rw [hl],hb,hg,?_⟩
 have:=hm 1 _ (h.no 0 (by omega) (by simp))
 simpa using this
theorem ks (w:World) (hS:Std w):Calls Tryz.prog 9 #[] w fun e w'=>e=.returned (.bool true)∧Grew w w':=by
 have HS:=hQ9 hS
 clear hS
 go_enter Tryz.func9,Tryz.ntmps9
 go_wp2_with fail
 refine(newP w 2 (by decide) w (za w)).mono ?_
 rintro e w1 ⟨p,rfl,s1⟩
 have S1:=hQ9 s1
 clear s1
 go_wp2_with fail
 refine(qn 65 (.inr (by decide)) w1).mono ?_
 rintro e w2 ⟨rfl,g⟩
 have S2:=hQ9 (S1.out.gr g)
 clear g S1
 go_wp2_with fail
 refine(zF 0 20 (by simp [in64]) w2).mono ?_
 rintro e w3 ⟨b,rfl,hsp,_,g⟩
 have S3:=hQ9 (S2.out.gr g)
 have HSP:=hQ9 hsp
 clear g S2 hsp
 go_wp2_with fail
 refine(yy 0 20 (by simp [in64]) b (by decide) (by simp) (by decide) (by decide) w3 HS.out HSP.out S3.out).mono ?_
 rintro e w4 ⟨x0,i,rfl,hx0,hp,s4⟩
 have S4:Hid (Pst w w4 p 2 0 [x0]):=hQ9 (by
  have hi:i=0:=by have:=hp.le;simpa using this
  subst hi;exact s4)
 have HX0:=hQ9 hx0
 clear hp s4 hx0 S3 HSP
 have HN1:Hid (D13 0 20≠D13 1 10):=hQ9 (by rw [D13_K,D13_K,k13_a,k13_b];decide)
 have HN2:Hid (D13 0 20≠D13 2 30):=hQ9 (by rw [D13_K,D13_K,k13_a,k13_c];decide)
 have HN3:Hid (D13 1 10≠D13 2 30):=hQ9 (by rw [D13_K,D13_K,k13_b,k13_c];decide)
 go_wp2_with fail
 refine(zF 1 10 (by simp [in64]) w4).mono ?_
 rintro e w5 ⟨b1,rfl,hsp,_,g⟩
 have S5:=hQ9 (S4.out.gr g)
 have HSP:=hQ9 hsp
 clear g S4 hsp
 go_wp2_with fail
 refine(yy 1 10 (by simp [in64]) b1 (by decide) (by simp [HX0.out.2.1,HN1.out]) (by simp) (by decide) w5 HS.out HSP.out S5.out).mono ?_
 rintro e w6 ⟨x1,i,rfl,hx1,hp,s6⟩
 have S6:Hid (Pst w w6 p 2 0 [x1,x0]):=hQ9 (by
  have hi:i=0:=by
   rcases Nat.eq_zero_or_pos i with h | h
   ·exact h
   ·have h9:=hp.lo 0 (by simp) h
    rw [List.getElem_cons_zero,bf_lt,HX0.out.1,hx1.1]at h9
    omega
  subst hi;exact s6)
 have HX1:=hQ9 hx1
 clear hp s6 hx1 S5 HSP
 go_wp2_with fail
 refine(zF 1 10 (by simp [in64]) w6).mono ?_
 rintro e w7 ⟨b2,rfl,hsp,_,g⟩
 have S7:=hQ9 (S6.out.gr g)
 have HSP:=hQ9 hsp
 clear g S6 hsp
 go_wp2_with fail
 refine(kr 1 10 (by simp [in64]) b2 (by decide) (by simp [HX1.out.2.1]) w7 HS.out HSP.out S7.out).mono ?_
 rintro e w8 ⟨rfl,g⟩
 have S8:=hQ9 (S7.out.gr g)
 clear g S7 HSP
 go_wp2_with fail
 refine(zF 2 30 (by simp [in64]) w8).mono ?_
 rintro e w9 ⟨b3,rfl,hsp,_,g⟩
 have S9:=hQ9 (S8.out.gr g)
 have HSP:=hQ9 hsp
 clear g S8 hsp
 go_wp2_with fail
 refine(yq 2 30 (by simp [in64]) b3 (by decide) (by simp [HX1.out.2.1,HX0.out.2.1,HN2.out,HN3.out]) (by simp) w9 HS.out HSP.out S9.out).mono ?_
 rintro e w10 ⟨rfl,g⟩
 have S10:=hQ9 (S9.out.gr g)
 clear g S9 HSP
 go_wp2_with fail
 refine(cloP 15 w10 S10.out).mono ?_
 rintro e w11 ⟨rfl,s11⟩
 have S11:Hid (Pst w w11 p 2 15 [x1,x0]):=hQ9 (by simpa using s11)
 rw [show decide ((0:Int)<15)=true from rfl]
 clear s11 S10
 go_wp2_with fail
 refine(cloP 15 w11 S11.out).mono ?_
 rintro e w12 ⟨rfl,s12⟩
 have S12:Hid (Pst w w12 p 2 15 [x1,x0]):=hQ9 (by simpa using s12)
 rw [show decide ((15:Int)<15)=false from rfl]
 clear s12 S11
 go_wp2_with fail
 refine(zF 3 15 (by simp [in64]) w12).mono ?_
 rintro e w13 ⟨b4,rfl,hsp,_,g⟩
 have S13:=hQ9 (S12.out.gr g)
 have HSP:=hQ9 hsp
 clear g S12 hsp
 go_wp2_with fail
 refine(xf 3 15 (by simp [in64]) b4 (by decide) w13 HS.out HSP.out S13.out).mono ?_
 rintro e w14 ⟨rfl,g⟩
 have S14:=hQ9 (S13.out.gr g)
 clear g S13 HSP
 have HF1:Hid ([x1,x0].filter (keepRP 10 20)=[x0]):=hQ9 (by simp [List.filter,keepRP,HX0.out.1,HX1.out.1])
 have HF2:Hid ([x1,x0].filter (keepRP 5 20)=[x1,x0]):=hQ9 (by simp [List.filter,keepRP,HX0.out.1,HX1.out.1])
 have HF3:Hid ([x1,x0].filter (keepDP 10)=[x0]):=hQ9 (by simp [List.filter,keepDP,HX0.out.1,HX1.out.1])
 go_wp2_with fail
 refine(rngP 10 20 w14 S14.out).mono ?_
 rintro e w15 ⟨v1,R1,rfl,hr1,g⟩
 rw [HF1.out]at hr1
 obtain⟨A1,c1,rfl⟩:=k8 hr1
 rw [show [x0].length=1 from rfl]
 have S15:=hQ9 (S14.out.gr g)
 clear g S14 hr1
 go_wp2_with fail
 refine(rngP 5 20 w15 S15.out).mono ?_
 rintro e w16 ⟨v2,R2,rfl,hr2,g⟩
 rw [HF2.out]at hr2
 obtain⟨gR,c2,rfl,hgR,hgR2,hcR⟩:=ct_no0 hr2
 rw [show [x0].length+1=2 from rfl,HX1.out.2.2]at *
 have S16:=hQ9 (S15.out.gr g)
 have HR:Hid (p<gR∧gR<w16.heap.size∧w16.cell? ⟨gR,1,none⟩=some (.int .i64 1)):=hQ9 (by
  obtain⟨v,base,hP,_⟩:=S15.out.out
  have:=hP.ptr.lt
  exact⟨by omega,hgR2,hcR⟩)
 clear g S15 hr2 hgR hgR2 hcR
 go_wp2_with fail
 refine(twinP w16 S16.out).mono ?_
 rintro e w17 ⟨q,rfl,s17,⟨vq,bq,hq1,hq2,hq3⟩,g⟩
 have S17:=hQ9 s17
 have HQ:Hid (PlS w17 q bq 2 15 vq [x1,x0]∧p<q∧∀ g,vq.ownBlock=some g→p<g):=hQ9 (by
  obtain⟨v,base,hP,_⟩:=S16.out.out
  have:=hP.ptr.lt
  exact⟨hq1,by omega,fun g hg=>by have:=hq3 g hg;omega⟩)
 have HR17:Hid (w17.cell? ⟨gR,1,none⟩=some (.int .i64 1)):=hQ9 (zh HR.out.2.2 g)
 have HGR:Hid (gR<w17.heap.size):=hQ9 (Nat.lt_of_lt_of_le HR.out.2.1 g.size)
 clear g S16 s17 hq1 hq2 hq3
 go_wp2_with fail
 refine(dropP 10 w17 S17.out).mono ?_
 rintro e w18 ⟨rfl,s18,k18⟩
 rw [HF3.out]at s18 ⊢
 rw [show(([x1,x0].length:Nat):Int)-(([x0].length:Nat):Int)=1 from rfl]
 have S18:=hQ9 s18
 have hQ18:=HQ.out.1.kp k18 (fun e=>by have e9:q=p:=e;have:=HQ.out.2.1;omega) (fun g hg e=>by have e9:g=p:=e;have:=HQ.out.2.2 g hg;omega)
 have HQ18:=hQ9 hQ18
 have HC18:Hid (w18.cell? ⟨gR,1,none⟩=some (.int .i64 1)):=hQ9 (by
  rw [←HR17.out]
  exact World.cell?_of_block (k18.block gR HGR.out (fun e=>by have e9:gR=p:=e;have:=HR.out.1;omega)))
 clear s18 k18 hQ18 S17 HR17 HQ HGR
 have hc18:=HC18.out
 go_wp2_with fail
 refine(lenP w18 S18.out).mono ?_
 rintro e w19 ⟨rfl,rfl⟩
 rw [show(([x0].length:Nat):Int)=1 from rfl]
 go_wp2_with fail
 refine(floP _ S18.out).mono ?_
 rintro e w20 ⟨rfl,rfl⟩
 go_wp2_with fail
 refine(zT _ HQ18.out).mono ?_
 rintro e w21 ⟨rfl,rfl⟩
 rw [show(([x1,x0].length:Nat):Int)=2 from rfl]
 go_wp2_with fail
 refine(allP _ S18.out).mono ?_
 rintro e w22 ⟨v3,R3,rfl,hr3,g⟩
 obtain⟨A3,c3,rfl⟩:=k8 hr3
 rw [show [x0].length=1 from rfl]
 have GG:=zb S18.out.G g
 clear g hr3 hc18
 go_wp2_with fail
 go_ret
 exact⟨rfl,GG⟩
end Go.Proofs.YtkpnheenacchhaaGreatDoor
namespace Go.Proofs.YtkpnheenacchhaaGreatDoor
open Go.RowKit
set_option linter.unnecessarySimpa false
structure FullE (E:List En) (c:Nat):Prop where
 len:E.length=c
 e:∀ j (h:j<E.length),E[j].at_=10+(j:Int)∧E[j].d=D13 (j:Int) (10+(j:Int))
theorem qR (i j:Nat) (hi:i<80) (hj:j<80) (h:D13 (i:Int) (10+(i:Int))=D13 (j:Int) (10+(j:Int))):i=j:=by
 rw [D13_K,D13_K,y7 i hi,y7 j hj]at h
 exact xG i j (by omega) (by omega) h
theorem jQ (i:Nat) (hi:i<80):D13 (i:Int) (10+(i:Int))≠D13 99 1000:=by
 rw [D13_K,D13_K,y7 i hi,k7]
 intro h
 have:=xG i 80 (by omega) (by omega) h
 omega
theorem FullE.any {E:List En} {c:Nat} (h:FullE E c) (i:Nat) (hi:i<80) (hc:c≤i):E.any (fun e=>e.d==D13 (i:Int) (10+(i:Int)))=false:=by
 rw [List.any_eq_false]
 intro e he hx
 obtain⟨j,hj,rfl⟩:=List.getElem_of_mem he
 rw [(h.e j hj).2]at hx
 have hl:=h.len
 have:=qR j i (by omega) hi (by simpa using hx)
 omega
theorem FullE.anyL {E E':List En} {c:Nat} (h:FullE E c) (hc:c<80) (hs:∀ e∈E',e∈E):E'.any (fun e=>e.d==D13 99 1000)=false:=by
 rw [List.any_eq_false]
 intro e he hx
 obtain⟨j,hj,rfl⟩:=List.getElem_of_mem (hs e he)
 rw [(h.e j hj).2]at hx
 have hl:=h.len
 exact jQ j (by omega) (by simpa using hx)
theorem FullE.snoc {E:List En} {c:Nat} (h:FullE E c) (x:En) (hx:x.at_=10+(c:Int)∧x.d=D13 (c:Int) (10+(c:Int))) (i:Nat) (hp:BsPos E x i):FullE (E.take i++x::E.drop i) (c+1):=by
 have hl:=h.len
 have hi:i=E.length:=by
  refine hp.uniq ⟨Nat.le_refl _,fun t ht _=>?_,fun t ht h9=>absurd ht (by omega)⟩
  rw [bf_lt,(h.e t ht).1,hx.1]
  left;omega
 subst hi
 rw [List.take_length,List.drop_length]
 refine⟨by simp [hl],fun j hj=>?_⟩
 by_cases hjl:j<E.length
 ·rw [List.getElem_append_left hjl]
  exact h.e j hjl
 ·have hje:j=E.length:=by simp at hj;omega
  subst hje
  rw [List.getElem_append_right (Nat.le_refl _)]
  simp only [Nat.sub_self,List.getElem_cons_zero]
  rw [hl]
  exact hx
theorem kt {L:List En} (P:En→Bool) (k:Nat) (hk:k≤L.length) (h0:∀ j (h:j<L.length),j<k→P L[j]=false) (h1:∀ j (h:j<L.length),k≤j→P L[j]=true):(L.filter P).length=L.length-k:=by
 have hsp:(L.filter P)=(L.take k).filter P++(L.drop k).filter P:=by rw [←List.filter_append,List.take_append_drop]
 rw [hsp,List.length_append]
 have e0:(L.take k).filter P=[]:=by
  rw [List.filter_eq_nil_iff]
  intro e he
  obtain⟨j,hj,rfl⟩:=List.getElem_of_mem he
  rw [List.length_take]at hj
  rw [List.getElem_take,h0 j (by omega) (by omega)]
  simp
 have e1:(L.drop k).filter P=L.drop k:=by
  rw [List.filter_eq_self]
  intro e he
  obtain⟨j,hj,rfl⟩:=List.getElem_of_mem he
  rw [List.length_drop]at hj
  rw [List.getElem_drop]
  exact h1 _ (by omega) (by omega)
 rw [e0,e1,List.length_drop]
 simp only [List.length_nil]
 omega
theorem FullE.cut {E:List En} {c:Nat} (h:FullE E c) (hi:Int):(E.filter (keepDP hi)).length=c-min c (hi-9).toNat:=by
 have hl:=h.len
 rw [kt (keepDP hi) (min c (hi-9).toNat) (by omega) (fun j hj hjk=>?_) (fun j hj hjk=>?_),hl]
 ·unfold keepDP
  rw [(h.e j hj).1]
  exact decide_eq_false (by omega)
 ·unfold keepDP
  rw [(h.e j hj).1]
  exact decide_eq_true (by omega)
theorem xH (rn nn hi:Int) (h10:0≤rn) (h11:rn≤255) (h20:0≤nn) (h21:nn≤255) (h30:0≤hi) (h31:hi≤255) (w:World) (hS:Std w) :
 Calls Tryz.prog 4 #[.int .u8 rn,.int .u8 nn,.int .u8 hi] w fun e w'=>e=.returned (.bool true)∧Grew w w':=by
 have HS:=hQ9 hS
 have CK:=hQ9 (ks w hS)
 clear hS
 obtain⟨K,hK⟩:∃ N:Nat,1+rn%64=(N:Int):=⟨(1+rn%64).toNat,by omega⟩
 obtain⟨M,hM⟩:∃ N:Nat,nn%80=(N:Int):=⟨(nn%80).toNat,by omega⟩
 have HB:=hQ9 (show 1≤K∧K≤64∧M<80∧0≤hi∧hi≤255 by omega)
 clear h30 h31
 go_enter Tryz.func4,Tryz.ntmps4
 go_wp2_with fail
 refine(CK.out).mono ?_
 rintro e w1 ⟨rfl,g1⟩
 go_wp2_with fail
 refine(newP w (K:Int) (by have:=HB.out;omega) w1 g1).mono ?_
 rintro e w2 ⟨p,rfl,s2⟩
 have S2:=hQ9 s2
 clear s2 CK g1
 go_wp2_with fail
 rw [hM]
 have HM:=hQ9 hM
 have HK:=hQ9 hK
 clear hM hK
 go_loopw [11] (fun iv wr=>∃(i:Nat) (E:List En),iv=.int .i64 (i:Int)∧i≤M∧FullE E (min i K)∧Pst w wr p (K:Int) 0 E) (fun iv _=>M-(Go.RowKit.intOf iv).toNat)
 case atStart=>exact⟨0,[],rfl,Nat.zero_le _,⟨by simp,fun j h=>absurd h (by simp)⟩,S2.out⟩
 case round =>
  clear S2
  obtain⟨i,E,rfl,him,hF,hP⟩:=hrel
  by_cases hlt:i<M
  ·have e1:decide (i<M)=true:=decide_eq_true hlt
   have e2:IntKind.i64.wrap (10+(i:Int))=10+(i:Int):=IntWalk.i64_in _ (by have:=HB.out;omega)
   have e3:IntKind.i64.wrap ((i:Int)+1)=(i:Int)+1:=IntWalk.i64_in _ (by have:=HB.out;omega)
   have HLT:=hQ9 hlt
   have HF:=hQ9 hF
   have HP:=hQ9 hP
   clear hlt him hF hP
   go_wp2_with fail
   refine(zF (i:Int) (10+(i:Int)) (by have:=HB.out;have:=HLT.out;exact⟨by omega,by omega⟩) wr).mono ?_
   rintro e w3 ⟨b,rfl,hsp,_,g⟩
   have HP3:=hQ9 (HP.out.gr g)
   have HSP:=hQ9 hsp
   clear g hsp HP
   have hi80:i<80:=by have:=HB.out;have:=HLT.out;omega
   have HI80:=hQ9 hi80
   clear hi80
   go_wp2_with fail
   by_cases hik:i<K
   ·have e4:decide (i<K)=true:=decide_eq_true hik
    have e5:decide (K≤i)=false:=decide_eq_false (by omega)
    have hc:min i K=i:=Nat.min_eq_left (by omega)
    have HF':Hid (FullE E i):=hQ9 (by have:=HF.out;rwa [hc]at this)
    have HIK:=hQ9 hik
    clear hik hc HF
    refine(yy (i:Int) (10+(i:Int)) (by have:=HI80.out;exact⟨by omega,by omega⟩) b (by omega) (HF'.out.any i HI80.out (Nat.le_refl _)) (by rw [HF'.out.len];have:=HIK.out;omega) (by have:=HB.out;omega) w3 HS.out HSP.out HP3.out).mono ?_
    rintro e w4 ⟨x,q,rfl,hx,hq,s4⟩
    have HN:Hid (FullE (E.take q++x::E.drop q) (i+1)):=hQ9 (HF'.out.snoc x ⟨hx.1,hx.2.1⟩ q hq)
    have S4:=hQ9 s4
    clear hx hq s4 HF' HP3 HSP
    go_wp2_with fail
    refine⟨⟨i+1,_,by push_cast;rfl,HLT.out,by rw [Nat.min_eq_left (by have:=HIK.out;omega)];exact HN.out,S4.out⟩,?_⟩
    have:=HLT.out;simp [Go.RowKit.intOf];omega
   ·have e4:decide (i<K)=false:=decide_eq_false hik
    have e5:decide (K≤i)=true:=decide_eq_true (by omega)
    have hc:min i K=K:=Nat.min_eq_right (by omega)
    have hc2:min (i+1) K=K:=Nat.min_eq_right (by omega)
    have HF':Hid (FullE E K):=hQ9 (by have:=HF.out;rwa [hc]at this)
    have HIK:Hid (K≤i):=hQ9 (by omega)
    have HC2:=hQ9 hc2
    clear hik hc HF hc2
    refine(yq (i:Int) (10+(i:Int)) (by have:=HI80.out;exact⟨by omega,by omega⟩) b (by omega) (HF'.out.any i HI80.out HIK.out) (by rw [HF'.out.len];omega) w3 HS.out HSP.out HP3.out).mono ?_
    rintro e w4 ⟨rfl,g4⟩
    have S4:=hQ9 (HP3.out.gr g4)
    clear g4 HP3 HSP
    go_wp2_with fail
    refine⟨⟨i+1,E,by push_cast;rfl,HLT.out,by rw [HC2.out];exact HF'.out,S4.out⟩,?_⟩
    have:=HLT.out;simp [Go.RowKit.intOf];omega
  ·obtain rfl:i=M:=by omega
   have e1:decide (i<i)=false:=by simp
   have HF:=hQ9 hF
   have HP:=hQ9 hP
   clear hlt him hF hP
   have hh0:=HB.out.2.2.2.1
   have hh1:=HB.out.2.2.2.2
   go_wp2_with fail
   refine(cloP hi wr HP.out).mono ?_
   rintro e w3 ⟨rfl,s3⟩
   have S3:Hid (Pst w w3 p (K:Int) hi E):=hQ9 (by
    by_cases h:(0:Int)<hi
    ·rwa [if_pos h]at s3
    ·rw [if_neg h]at s3
     rwa [show hi=0 by omega])
   clear s3 HP
   go_wp2_with fail
   refine(zF 99 hi ⟨by omega,by omega⟩ w3).mono ?_
   rintro e w4 ⟨b,rfl,hsp,_,g⟩
   have S4:=hQ9 (S3.out.gr g)
   have HSP:=hQ9 hsp
   clear g hsp S3
   go_wp2_with fail
   refine(xf 99 hi ⟨by omega,by omega⟩ b (by omega) w4 HS.out HSP.out S4.out).mono ?_
   rintro e w5 ⟨rfl,g5⟩
   have S5:=hQ9 (S4.out.gr g5)
   clear g5 S4 HSP
   go_wp2_with fail
   rw [show min (i:Int) (K:Int)=((min i K:Nat):Int) by omega]
   have HC:Hid (min i K≤K∧min i K≤i):=hQ9 (by omega)
   generalize min i K=C at HC HF ⊢
   refine(dropP hi w5 S5.out).mono ?_
   rintro e w6 ⟨rfl,s6,_⟩
   obtain⟨D,hD⟩:∃ D:Nat,D=min C (hi-9).toNat:=⟨_,rfl⟩
   obtain⟨R,hR⟩:∃ R:Nat,R=(E.filter (keepDP hi)).length:=⟨_,rfl⟩
   have hlE:=HF.out.len
   have hcut:=HF.out.cut hi
   have HDR:Hid (D=min C (hi-9).toNat∧R=C-D):=hQ9 ⟨hD,by rw [hR,hcut,hD]⟩
   have HR:=hQ9 hR
   rw [show(E.length:Int)-((E.filter (keepDP hi)).length:Int)=(D:Int) by rw [hcut,hlE,hD];omega]
   have S6:=hQ9 s6
   clear s6 S5 hD hR hlE hcut
   have e2:IntKind.i64.wrap (hi-9)=hi-9:=IntWalk.i64_in _ (by omega)
   have e3:IntKind.i64.wrap ((C:Int)-(D:Int))=(R:Int):=by
    have:=HDR.out
    have:=HC.out
    have:=HB.out
    rw [IntWalk.i64_in _ (by omega)]
    omega
   go_wp2_with fail
   rw [show min (C:Int) (max 0 (hi-9))=(D:Int) by have:=HDR.out;omega]
   refine(lenP w6 S6.out).mono ?_
   rintro e w7 ⟨rfl,rfl⟩
   rw [←HR.out]
   go_wp2_with fail
   refine(zF 99 1000 ⟨by omega,by omega⟩ w7).mono ?_
   rintro e w8 ⟨b8,rfl,hsp,_,g⟩
   have S8:=hQ9 (S6.out.gr g)
   have HSP:=hQ9 hsp
   clear g hsp S6
   have HNY:=hQ9 (HF.out.anyL (E':=E.filter (keepDP hi)) (by have:=HC.out;have:=HB.out;omega) (fun e he=>(List.mem_filter.1 he).1))
   go_wp2_with fail
   by_cases hRK:R<K
   ·have e4:decide (R<K)=true:=decide_eq_true hRK
    refine(yy 99 1000 ⟨by omega,by omega⟩ b8 (by have:=HB.out;omega) HNY.out (by rw [←HR.out];omega) (by have:=HB.out;omega) w8 HS.out HSP.out S8.out).mono ?_
    rintro e w9 ⟨x,q,rfl,_,_,s9⟩
    have HG:=hQ9 s9.G
    clear s9
    go_wp2_with fail
    go_ret
    exact⟨rfl,HG.out⟩
   ·have e4:decide (R<K)=false:=decide_eq_false hRK
    refine(yq 99 1000 ⟨by omega,by omega⟩ b8 (by have:=HB.out;omega) HNY.out (by rw [←HR.out];omega) w8 HS.out HSP.out S8.out).mono ?_
    rintro e w9 ⟨rfl,g9⟩
    have HG:=hQ9 (zb S8.out.G g9)
    clear g9
    go_wp2_with fail
    go_ret
    exact⟨rfl,HG.out⟩
end Go.Proofs.YtkpnheenacchhaaGreatDoor
