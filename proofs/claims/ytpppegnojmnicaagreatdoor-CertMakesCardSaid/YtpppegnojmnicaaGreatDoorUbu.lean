/- CertMakes: the law (mkckl.py). -/
import Derived.Test.YtpppegnojmnicaaGreatDoorUbt
import Derived.Test.YtpppegnojmnicaaGreatDoorUbq
import Derived.Test.YtpppegnojmnicaaGreatDoorUbp
import Derived.Test.YtpppegnojmnicaaGreatDoorUbr
import Derived.Test.YtpppegnojmnicaaGreatDoorUak
set_option linter.unusedSimpArgs false
set_option linter.unusedVariables false
namespace Go.Proofs.YtpppegnojmnicaaGreatDoor
open Go.RowKit
/-- the keys, for the program -/
structure KyR (w:World) (f:Int) (R:List Nat) (h:Int) (v:Value):Prop where
 out:∃ A c,v=.agg (kyS f A R.length c h)∧Rd w w.heap.size A (u64L R)
theorem KyR.gr {w w':World} {f:Int} {R:List Nat} {h:Int} {v:Value} (k:KyR w f R h v) (g:Grew w w'):KyR w' f R h v:=by
 obtain ⟨A,c,h1,h2⟩:=k.out
 exact ⟨A,c,h1,h2.gr g⟩
structure MvS (w:World) (L:List SP) (v:Value):Prop where
 out:∃ B k M,v=.slice B L.length k∧MvL L M∧Sps w B M
theorem MvS.gr {w w':World} {L:List SP} {v:Value} (h:MvS w L v) (g:Grew w w'):MvS w' L v:=by
 obtain ⟨B,k,M,h1,h2,h3⟩:=h.out
 exact ⟨B,k,M,h1,h2,h3.gr g⟩
structure CrR (w:World) (mcm:Cm) (LE:List SP) (v:Value):Prop where
 out:∃ B k M,v=.agg (ctC mcm B LE.length k)∧MvL LE M∧Sps w B M
theorem CrR.gr {w w':World} {mcm:Cm} {LE:List SP} {v:Value} (h:CrR w mcm LE v) (g:Grew w w'):CrR w' mcm LE v:=by
 obtain ⟨B,k,M,h1,h2,h3⟩:=h.out
 exact ⟨B,k,M,h1,h2,h3.gr g⟩
theorem jQ {L M N:List SP} (h1:MvL L M) (h2:MvL M N):MvL L N:=⟨by rw [h2.len,h1.len],fun k a b=>by
 obtain ⟨A,c,e⟩:=h1.each k a (by rw [h1.len];exact a)
 obtain ⟨A',c',e'⟩:=h2.each k (by rw [h1.len];exact a) b
 exact ⟨A',c',by rw [e',e];rfl⟩⟩
theorem zp8 {L M:List SP} (h:MvL L M):MvL M L:=⟨h.len.symm,fun k h1 h2=>by
 obtain ⟨A,c,e⟩:=h.each k h2 h1
 exact ⟨L[k].A,L[k].c,by rw [e];rfl⟩⟩
/-- row facts alone: is any of them too long? -/
theorem zp9 {w:World} {A:Option Addr} {L:List SP} (hf:fewB L=true) (hr:RdG w A L) (hok:∀ S∈L,S.l.length≤1000→S.ok) (hat:∀ S∈L,S.at w):SpsG w A L∧L.length≤12:=by
 unfold fewB at hf
 simp only [Bool.and_eq_true,decide_eq_true_eq,List.all_eq_true] at hf
 exact ⟨⟨hr,fun S hS=>hok S hS (by have:=hf.2 S hS;omega),hat⟩,hf.1⟩
set_option maxRecDepth 100000 in
set_option maxHeartbeats 8000000 in
theorem zc1 (K:KP) (hRb:∀ z∈K.R,z<18446744073709551616) (c:Cm) (A:Option Addr) (cap:Nat) (L:List SP) (w:World) (hS:Std w)
 (hrR:K.at w) (hrd:RdG w A L) (hok:∀ S∈L,S.l.length≤1000→S.ok) (hat:∀ S∈L,S.at w) :
 Calls Tryz.prog 4 #[.agg K.C,.agg c.cells,.slice A L.length cap] w fun e w'=>e=.returned (.bool true)∧Grew w w':=by
 have z0:=(Ag.new w 24 K.C).grew (zc (za _) (.cells c.cells 26))
 have z1:=Ag.new (w.alloc (.cells K.C 24)) 26 c.cells
 rw [zo] at z1
 have G0:=zc (zc (za w) (.cells K.C 24)) (.cells c.cells 26)
 have huk:=Tryz.underlying24
 have huc:=Tryz.underlying26
 have hut:=Tryz.underlying36
 have hur:=Tryz.underlying29
 have SIC:Hid ((Tryz.prog.info? 26).map (·.size)=some c.cells.toList.length):=Lib.hid (show _=some 5 by kernel_rfl)
 have SIK:Hid ((Tryz.prog.info? 24).map (·.size)=some K.C.toList.length):=Lib.hid zbm
 have CK:=Lib.hid (fun W hW=>kn12 W hW)
 have CCK:Hid (∀ W,Calls Tryz.prog 16 #[.agg K.C] W fun e w'=>e=.returned (.int .i64 (cyE K.f K.R.length K.h))∧Grew W w'):=Lib.hid (fun W=>zfl K.f K.R K.RA K.Rc K.h W)
 have HS:=Lib.hid hS
 have HRd:=Lib.hid hrd
 have HOK:=Lib.hid hok
 have HAT:=Lib.hid hat
 have HKR:=Lib.hid hrR
 have HRb:=Lib.hid hRb
 obtain ⟨bw,hbw⟩:∃ b,w.heap.size=b:=⟨_,rfl⟩
 have HBW:=Lib.hid hbw
 clear hS hrd hok hat hrR hRb hbw
 go_enter Tryz.func4,Tryz.ntmps4
 go_wp2_with fail
 refine (CK.out _ (HS.out.grew G0)).mono ?_
 rintro e w1 ⟨rfl,gg⟩
 have z0:=z0.grew gg
 have z1:=z1.grew gg
 have G1:=zb G0 gg
 clear CK gg G0
 have hmk:=z0.cell
 go_wp2_with (with_reducible refine wpList_load_mid rfl 24 (.tmp 3) rfl w.heap.size 0 rfl K.C.toList _ hmk huk rfl SIK.out ?_;simp only [Array.toArray_toList])
 refine (CCK.out _).mono ?_
 rintro e w2 ⟨rfl,gg⟩
 have z0:=z0.grew gg
 have z1:=z1.grew gg
 have G2:=zb G1 gg
 clear CCK gg G1 hmk
 by_cases hcy:cyE K.f K.R.length K.h=0
 rotate_left
 ·have e15:(cyE K.f K.R.length K.h != 0)=true:=by simpa using hcy
  clear hcy z0 z1
  generalize cyE K.f K.R.length K.h=ey at *
  go_wp2_with fail
  go_ret
  exact ⟨rfl,G2⟩
 have HCY:=Lib.hid hcy
 rw [hcy]
 clear hcy
 have HRd2:=HRd.out.gr G2
 have CF:=zp6 A cap L w2 HRd2
 cases hfw:fewB L with
 | false =>
  rw [hfw] at CF
  have HCF:=Lib.hid CF
  clear CF HRd2 z0 z1 hfw
  go_wp2_with fail
  refine HCF.out.mono ?_
  rintro e w3 ⟨rfl,gg⟩
  go_wp2_with fail
  go_ret
  exact ⟨rfl,zb G2 gg⟩
 | true =>
 rw [hfw] at CF
 have HCF:=Lib.hid CF
 have hsp:=zp9 hfw HRd.out HOK.out HAT.out
 have HSP0:=Lib.hid hsp.1
 have HL12:=Lib.hid hsp.2
 clear CF HRd2 hsp HRd HOK HAT hfw
 go_wp2_with fail
 refine HCF.out.mono ?_
 rintro e w3 ⟨rfl,gg⟩
 have z0:=z0.grew gg
 have z1:=z1.grew gg
 have G3:=zb G2 gg
 clear HCF gg G2
 have hK:K.ok:=by
  have h1:=HCY.out
  unfold cyE at h1
  split at h1
  ·cases h1
  ·split at h1
   ·rename_i h2 h3
    exact ⟨by omega,by have:=h3.1;omega,HRb.out⟩
   ·cases h1
 have HK:=Lib.hid hK
 obtain ⟨mk0,hmk0⟩:∃ m,makeR K c L=m:=⟨_,rfl⟩
 obtain ⟨mcm,LE,er⟩:=mk0
 have HMK:=Lib.hid hmk0
 have HGW:=Lib.hid G3
 have HM1:=Lib.hid (fun y (g:Grew w3 y)=>(z0.grew g).cell)
 have HM2:=Lib.hid (fun y (g:Grew w3 y)=>(z1.grew g).cell)
 have HKY:Hid (∀ y,Grew w3 y→K.at y):=Lib.hid (fun y g=>HKR.out.gr (zb G3 g))
 have HSP:Hid (∀ y,Grew w3 y→SpsG y A L):=Lib.hid (fun y g=>HSP0.out.gr (zb G3 g))
 have HSY:Hid (∀ y,Grew w3 y→Std y):=Lib.hid (fun y g=>HS.out.grew (zb G3 g))
 have CTK:Hid (∀ W,K.at W→Calls Tryz.prog 24 #[.agg K.C] W fun e w'=>(∃ A' c',e=.returned (.agg (kyS K.f A' K.R.length c' K.h))∧Rd w' w'.heap.size A' (u64L K.R))∧Grew W w'):=Lib.hid (fun W h=>(zj5 K.f K.R K.RA K.Rc K.h (by have:=HK.out.len;omega) W h).mono (by rintro e z ⟨A',c',h1,h2,h3,-⟩;exact ⟨⟨A',c',h1,h2⟩,h3⟩))
 have CTC:Hid (∀ W,Calls Tryz.prog 35 #[.agg c.cells] W fun e w'=>e=.returned (.agg c.cells)∧Grew W w'):=Lib.hid (fun W=>cto_ok c W)
 have CTA:Hid (∀ W,SpsG W A L→Calls Tryz.prog 36 #[.slice A L.length cap] W fun e w'=>(∃ B k M,e=.returned (.slice B L.length k)∧MvL L M∧Sps w' B M)∧Grew W w'):=Lib.hid (fun W h=>(zn0 A cap L (by have:=HL12.out;omega) W h).mono (by rintro e z ⟨B,k,M,h1,h2,h3,-,-,-,-,h4⟩;exact ⟨⟨B,k,M,h1,h2,h3⟩,h4⟩))
 have CM:Hid (∀ A' c' B k M,MvL L M→∀ W,Std W→Rd W W.heap.size A' (u64L K.R)→Sps W B M→Calls Tryz.prog 34 #[.agg (kyS K.f A' K.R.length c' K.h),.agg c.cells,.slice B L.length k] W fun e w'=>∃ B k M',e=.returned (.tuple #[.agg (ctC mcm B LE.length k),.int .i64 er])∧MvL LE M'∧Sps w' B M'∧(∀ ad,B=some ad→W.heap.size≤ad.block∧ad.block<w'.heap.size)∧(∀ S∈M',∀ ad,S.A=some ad→S.l=[]∨W.heap.size≤ad.block)∧Grew W w'):=Lib.hid (fun A' c' B k M hm W h1 h2 h3=>by
  have hK':(⟨K.f,K.R,A',c',K.h⟩:KP).ok:=⟨HK.out.f,HK.out.len,HK.out.b⟩
  have:=zin c hK' B k M (by rw [hm.len];have:=HL12.out;omega) W h1 h2 h3
  rw [hm.len] at this
  obtain ⟨m1,m2,m3⟩:=znn hK' (c:=c) hm
  have me:makeR (⟨K.f,K.R,A',c',K.h⟩:KP) c L=(mcm,LE,er):=HMK.out
  rw [me] at m1 m2 m3
  rw [m1,m3,m2.len] at this
  refine this.mono ?_
  rintro e w' ⟨B',k',M',h1,h2,h3,h4,h5,h6⟩
  exact ⟨B',k',M',h1,jQ m2 h2,h3,h4,h5,h6⟩)
 have CMR:Hid (∀ W,K.at W→SpsG W A L→Calls Tryz.prog 37 #[.agg K.C,.agg c.cells,.slice A L.length cap] W fun e w'=>∃ B k M',e=.returned (.tuple #[.agg (ctC mcm B LE.length k),.int .i64 er])∧MvL LE M'∧Sps w' B M'∧Grew W w'):=Lib.hid (fun W h1 h2=>by
  have:=zn1 c HK.out A cap L (by have:=HL12.out;omega) W h1 h2
  rw [HMK.out] at this
  exact this)
 have HER:Hid (er=0→mcm=c∧LE=chosen K (dgC c) L∧okC c∧enoughB K (dgC c) L=true):=Lib.hid (fun h=>by
  have h9:=HMK.out
  by_cases hc:okC c
  ·cases hen:enoughB K (dgC c) L with
   | true =>
    rw [xF hc hen] at h9
    injection h9 with h1 h9
    injection h9 with h2 h3
    exact ⟨h1.symm,h2.symm,hc,rfl⟩
   | false =>
    rw [xi hc hen] at h9
    injection h9 with h1 h9
    injection h9 with h2 h3
    omega
  ·rw [xE hc] at h9
   injection h9 with h1 h9
   injection h9 with h2 h3
   omega)
 have HLE:Hid (LE.length≤100):=Lib.hid (by
  have h9:=HMK.out
  have h7:=HK.out.f
  by_cases hc:okC c
  ·cases hen:enoughB K (dgC c) L with
   | true =>
    rw [xF hc hen] at h9
    injection h9 with h1 h9
    injection h9 with h2 h3
    rw [←h2,jh hen]
    omega
   | false =>
    rw [xi hc hen] at h9
    injection h9 with h1 h9
    injection h9 with h2 h3
    rw [←h2];simp
  ·rw [xE hc] at h9
   injection h9 with h1 h9
   injection h9 with h2 h3
   rw [←h2];simp)
 clear hK hmk0 z0 z1 G3 HCY
 go_upto_region 5 with fail
 refine qQ 11 12 (fun ix9=>match ix9 with
  | 0=>fun v=>v=.agg K.C
  | 1=>fun v=>∃ A c,v=.agg (kyS K.f A K.R.length c K.h)
  | 2=>fun v=>v=.agg c.cells
  | 3=>fun v=>v=.agg c.cells
  | 4=>fun v=>v=.slice A L.length cap
  | 5=>fun v=>∃ B k,v=.slice B L.length k
  | 6=>fun _=>True
  | 7=>fun v=>∃ A k,v=.tuple #[.agg (ctC mcm A LE.length k),.int .i64 er]
  | 8=>fun _=>True
  | 9=>fun v=>v=.int .i64 er
  | 10=>fun _=>True
  | 11=>fun _=>True
  | _=>fun _=>True) (fun ix9=>match ix9 with
  | 0=>fun v _=>v=.agg K.C
  | 1=>fun v W=>KyR W K.f K.R K.h v
  | 2=>fun v _=>v=.agg c.cells
  | 3=>fun v _=>v=.agg c.cells
  | 4=>fun v _=>v=.slice A L.length cap
  | 5=>fun v W=>MvS W L v
  | 6=>fun _ _=>True
  | 7=>fun v _=>∃ A k,v=.tuple #[.agg (ctC mcm A LE.length k),.int .i64 er]
  | 8=>fun _ _=>True
  | 9=>fun v _=>v=.int .i64 er
  | 10=>fun _ _=>True
  | 11=>fun _ _=>True
  | _=>fun _ _=>True) (fun ix9=>match ix9 with
  | 6=>fun lo hi v w=>CtS w w3.heap.size LE lo hi v (fun A k=>.tuple #[.agg (ctC mcm A LE.length k),.int .i64 er])
  | 7=>fun lo hi v w=>CtS w w3.heap.size LE lo hi v (fun A k=>.tuple #[.agg (ctC mcm A LE.length k),.int .i64 er])
  | 8=>fun lo hi v w=>CtS w w3.heap.size LE lo hi v (fun A k=>.agg (ctC mcm A LE.length k))
  | 10=>fun lo hi v w=>AgZ w w3.heap.size lo hi (#[.int .i64 0,.int .i64 0,.int .i64 0,.int .i64 0,.int .i64 0,.slice none 0 0]:Array Value).toList v
  | _=>fun _ _ _ _=>True) (fun ix9=>match ix9 with
  | 7=>6
  | 8=>7
  | ix8=>ix8) (fun ix9=>match ix9 with
  | 7=>6
  | 8=>6
  | ix8=>ix8) (fun ix9=>match ix9 with
  | 9=>true
  | _=>false) 10 (fun v W=>CtF w3 mcm LE v W) rfl (by kernel_rfl) (by kernel_rfl) (by kernel_rfl) (by kernel_rfl) rfl rfl (by decide) (fun _=>trivial) ?_ ?_ ?_ ?_ ?_ ?_ (fun o ho=>by cases ho;rfl) (fun v x y h hg=>CtF.gr h hg) ?_
 ·intro i v y h
  match i,h with
  | 0,h | 2,h | 3,h | 4,h | 9,h=>exact h
  | 1,h=>exact (KyR.out h).imp fun A hA=>hA.imp fun c hc=>hc.1
  | 5,h=>exact (MvS.out h).imp fun B hB=>hB.imp fun k hk=>hk.elim fun M hM=>hM.1
  | 6,_=>trivial
  | 7,h=>exact h
  | 8,_=>trivial
  | 10,_=>trivial
  | 11,h=>exact h
  | m+12,_=>trivial
 ·intro i v x y h hg
  match i,h with
  | 0,h | 2,h | 3,h | 4,h | 9,h=>exact h
  | 1,h=>exact KyR.gr h hg
  | 5,h=>exact MvS.gr h hg
  | 6,_=>trivial
  | 7,h=>exact h
  | 8,_=>trivial
  | 10,_=>trivial
  | 11,h=>exact h
  | m+12,_=>trivial
 ·refine ⟨?_,?_,?_,?_,?_,?_,?_,?_,?_,?_,?_,trivial⟩
  ·intro vs lo hi y hg hd hvia
   replace hg:Grew w3 y:=hg
   clear hvia
   simp only [actOf,tk1,tk0,dr1,dr0,Act.put,si1,st1,st0,Nat.reduceAdd]
   have hm:=HM1.out y hg
   go_wp2_with (with_reducible refine wpList_load_mid rfl 24 (.tmp 3) rfl w.heap.size 0 rfl K.C.toList _ hm huk rfl SIK.out ?_;simp only [Array.toArray_toList])
   first | exact ⟨rfl,_,rfl,za _,rfl⟩ | exact ⟨rfl,_,rfl,za _,rfl,trivial⟩
  ·intro vs lo hi y hg hd hvia
   replace hg:Grew w3 y:=hg
   obtain ⟨h0,_⟩:=hd
   replace h0:=h0 rfl
   clear hvia
   simp only [actOf,tk1,tk0,dr1,dr0,Act.put,si1,st1,st0,Nat.reduceAdd]
   rw [show vs 0=_ from h0]
   have hks:=HKY.out y hg
   go_wp2_with (go_at_call 24;refine (CTK.out y hks).mono ?_;rintro e z ⟨⟨A9,c9,rfl,hrd9⟩,gz⟩)
   exact ⟨rfl,_,rfl,gz,⟨A9,c9,rfl,hrd9⟩,trivial⟩
  ·intro vs lo hi y hg hd hvia
   replace hg:Grew w3 y:=hg
   clear hvia
   simp only [actOf,tk1,tk0,dr1,dr0,Act.put,si1,st1,st0,Nat.reduceAdd]
   have hm:=HM2.out y hg
   go_wp2_with (with_reducible refine wpList_load_mid rfl 26 (.tmp 4) rfl (w.heap.size+1) 0 rfl c.cells.toList _ hm huc rfl SIC.out ?_;simp only [Array.toArray_toList])
   first | exact ⟨rfl,_,rfl,za _,rfl⟩ | exact ⟨rfl,_,rfl,za _,rfl,trivial⟩
  ·intro vs lo hi y hg hd hvia
   replace hg:Grew w3 y:=hg
   obtain ⟨h2,_⟩:=hd
   replace h2:=h2 rfl
   clear hvia
   simp only [actOf,tk1,tk0,dr1,dr0,Act.put,si1,st1,st0,Nat.reduceAdd]
   rw [show vs 2=_ from h2]
   go_wp2_with (go_at_call 35;refine (CTC.out y).mono ?_;rintro e z ⟨rfl,gz⟩)
   exact ⟨rfl,_,rfl,gz,rfl,trivial⟩
  ·intro vs lo hi y hg hd hvia
   replace hg:Grew w3 y:=hg
   clear hvia
   simp only [actOf,tk1,tk0,dr1,dr0,Act.put,si1,st1,st0,Nat.reduceAdd]
   go_wp2_with fail
   first | exact ⟨rfl,_,rfl,za _,rfl⟩ | exact ⟨rfl,_,rfl,za _,rfl,trivial⟩
  ·intro vs lo hi y hg hd hvia
   replace hg:Grew w3 y:=hg
   obtain ⟨h4,_⟩:=hd
   replace h4:=h4 rfl
   clear hvia
   simp only [actOf,tk1,tk0,dr1,dr0,Act.put,si1,st1,st0,Nat.reduceAdd]
   rw [show vs 4=_ from h4]
   have hsp:=HSP.out y hg
   go_wp2_with (go_at_call 36;refine (CTA.out y hsp).mono ?_;rintro e z ⟨⟨B9,k9,M9,rfl,hmv9,hsp9⟩,gz⟩)
   exact ⟨rfl,_,rfl,gz,⟨B9,k9,M9,rfl,hmv9,hsp9⟩,trivial⟩
  ·intro vs lo hi y hg hd hvia
   replace hg:Grew w3 y:=hg
   obtain ⟨h1,h3,h5,_⟩:=hd
   replace h1:=h1 rfl
   replace h3:=h3 rfl
   replace h5:=h5 rfl
   clear hvia
   simp only [actOf,tk1,tk0,dr1,dr0,Act.put,si1,st1,st0,Nat.reduceAdd]
   rw [show vs 3=_ from h3]
   have hgS:=HSY.out y hg
   obtain ⟨A6,c6,e6,hrd6⟩:=KyR.out h1
   obtain ⟨B6,k6,M6,e8,hmv6,hsp6⟩:=MvS.out h5
   rw [e6,e8]
   go_wp2_with (go_at_call 34;refine (CM.out A6 c6 B6 k6 M6 hmv6 y hgS hrd6 hsp6).mono ?_;rintro e z ⟨B9,k9,M9,rfl,hmv9,hsp9,hf1,hf2,gz⟩)
   exact ⟨rfl,_,rfl,gz,trivial,⟨B9,k9,M9,rfl,hmv9,hsp9,hg.size,hf1,fun S hS ad h=>by
    rcases hf2 S hS ad h with h1 | h1
    ·exact .inl h1
    ·exact (at_lt (hsp9.at_ S hS) ad h).imp id (fun h2=>⟨h1,h2⟩)⟩⟩
  ·intro vs lo hi y hg hd hvia
   replace hg:Grew w3 y:=hg
   obtain ⟨h6,_⟩:=hd
   replace h6:=h6 rfl
   have hv9:(fun lo hi v w=>CtS w w3.heap.size LE lo hi v (fun A k=>.tuple #[.agg (ctC mcm A LE.length k),.int .i64 er])) (lo 6) (hi 6) (vs 6) y:=hvia rfl
   clear hvia
   simp only [actOf,tk1,tk0,dr1,dr0,Act.put,si1,st1,st0,Nat.reduceAdd]
   obtain ⟨A9,c9,M9,e9,hr9⟩:=CtS.out hv9
   rw [e9]
   go_wp2_with fail
   exact ⟨rfl,_,rfl,za _,⟨A9,⟨c9,rfl⟩⟩,⟨A9,c9,M9,rfl,hr9⟩⟩
  ·intro vs lo hi y hg hd hvia
   replace hg:Grew w3 y:=hg
   obtain ⟨h7,_⟩:=hd
   replace h7:=h7 rfl
   have hv9:(fun lo hi v w=>CtS w w3.heap.size LE lo hi v (fun A k=>.tuple #[.agg (ctC mcm A LE.length k),.int .i64 er])) (lo 7) (hi 7) (vs 7) y:=hvia rfl
   clear hvia
   simp only [actOf,tk1,tk0,dr1,dr0,Act.put,si1,st1,st0,Nat.reduceAdd]
   obtain ⟨A9,c9,M9,e9,hr9⟩:=CtS.out hv9
   rw [e9]
   go_wp2_with fail
   exact ⟨rfl,_,rfl,za _,⟨A9,c9,M9,rfl,hr9⟩⟩
  ·intro vs lo hi y hg hd hvia
   replace hg:Grew w3 y:=hg
   obtain ⟨h7,_⟩:=hd
   replace h7:=h7 rfl
   clear hvia
   simp only [actOf,tk1,tk0,dr1,dr0,Act.put,si1,st1,st0,Nat.reduceAdd]
   obtain ⟨A9,c9,e9⟩:=h7
   rw [e9]
   go_wp2_with fail
   first | exact ⟨rfl,_,rfl,za _,rfl⟩ | exact ⟨rfl,_,rfl,za _,rfl,trivial⟩
  ·intro vs lo hi y hg hd hvia
   replace hg:Grew w3 y:=hg
   clear hvia
   simp only [actOf,tk1,tk0,dr1,dr0,Act.put,si1,st1,st0,Nat.reduceAdd]
   go_wp2_with fail
   exact ⟨rfl,_,rfl,zc (za _) _,⟨y.heap.size,rfl,Ag.new y 36 (#[.int .i64 0,.int .i64 0,.int .i64 0,.int .i64 0,.int .i64 0,.slice none 0 0]:Array Value),hg.size,Nat.le_refl _,by show y.heap.size<(y.alloc _).heap.size;simp⟩⟩
 ·refine ⟨(fun h=>absurd h (by decide)),(fun h=>absurd h (by decide)),(fun h=>absurd h (by decide)),(fun h=>absurd h (by decide)),(fun h=>absurd h (by decide)),(fun h=>absurd h (by decide)),(fun h=>absurd h (by decide)),(fun h=>absurd h (by decide)),(fun h=>absurd h (by decide)),?_,(fun h=>absurd h (by decide)),(fun h=>absurd h (by decide)),trivial⟩
  ·intro _ vs y hd
   obtain ⟨h7,_⟩:=hd
   replace h7:=h7 rfl
   simp only [actOf,tk1,tk0,dr1,dr0,Act.put,si1,st1,st0,Nat.reduceAdd]
   obtain ⟨A9,c9,e9⟩:=h7
   rw [e9]
   go_wp2_with fail
   first | exact ⟨rfl,_,rfl,za _,rfl⟩ | exact ⟨rfl,_,rfl,za _,rfl,trivial⟩
 ·intro i lo hi v x y h hg
  match i,h with
  | 6,h=>exact CtS.gr h hg
  | 7,h=>exact CtS.gr h hg
  | 8,h=>exact CtS.gr h hg
  | 10,h=>exact AgZ.gr h hg
  | 0,_=>trivial
  | 1,_=>trivial
  | 2,_=>trivial
  | 3,_=>trivial
  | 4,_=>trivial
  | 5,_=>trivial
  | 9,_=>trivial
  | m+11,_=>trivial
 ·intro vs lo hi y hg hJ hK hB hD
  replace hg:Grew w3 y:=hg
  have k28:=hK 6 (by decide) rfl
  have b28:=hB 6 (by decide) rfl
  have k21:=hK 7 (by decide) rfl
  have b21:=hB 7 (by decide) rfl
  have k29:=hK 8 (by decide) rfl
  have b29:=hB 8 (by decide) rfl
  have k7:=hK 10 (by decide) rfl
  have b7:=hB 10 (by decide) rfl
  have d28_7:=hD 6 (by decide) rfl 10 (by decide) rfl (by decide)
  have d21_7:=hD 7 (by decide) rfl 10 (by decide) rfl (by decide)
  have d29_7:=hD 8 (by decide) rfl 10 (by decide) rfl (by decide)
  clear hK hB hD
  have j0:vs 0=.agg K.C:=hJ 0 (by decide) rfl
  have j2:vs 2=.agg c.cells:=hJ 2 (by decide) rfl
  have j3:vs 3=.agg c.cells:=hJ 3 (by decide) rfl
  have j4:vs 4=.slice A L.length cap:=hJ 4 (by decide) rfl
  clear hJ
  simp only [actOf,tk1,tk0,dr1,dr0,Act.put,si1,st1,st0,Nat.reduceAdd]
  obtain ⟨A7,k7c,M7,e56,hmv7,hsp7,hb7,hr7,hs7⟩:=CtS.out k29
  obtain ⟨q,e7,zq,hBq,hql,hqh⟩:=AgZ.out k7
  rw [e56,e7]
  have HTH:Hid (y.there q 0 (ctC mcm A7 LE.length k7c).size):=Lib.hid (zq.thereN 6 rfl)
  have HSI:Hid ((Tryz.prog.info? 36).map (·.size)=some (ctC mcm A7 LE.length k7c).size):=Lib.hid zH
  have HON:=Lib.hid (yj mcm A7 LE.length k7c)
  have z4:=Ag.set (vs:=(ctC mcm A7 LE.length k7c).toList) zq rfl
  have k4:=zx (ctC mcm A7 LE.length k7c).toList q 0 y
  have hsp8:=hsp7.kpx k4 (fun ad h e=>by have:=hr7 ad h;rcases d29_7 with h2 | h2<;>omega) (fun S hS ad h=>(hs7 S hS ad h).imp id (fun h1 e=>by rcases d29_7 with h2 | h2<;>omega))
  have HF:Hid (CtF w3 mcm LE (.pointer (some ⟨q,0,none⟩)) (y.setCells q 0 (ctC mcm A7 LE.length k7c).toList)):=Lib.hid ⟨A7,k7c,M7,q,rfl,z4,hmv7,hsp8,by omega,fun ad h=>by have:=hr7 ad h;omega,fun S hS ad h=>(hs7 S hS ad h).imp id (fun h1=>by omega),ze (o:=0) (b:=q) _ hg (by omega)⟩
  clear hg z4 k4 zq hsp7 hsp8 hmv7
  generalize ctC mcm A7 LE.length k7c=gs' at *
  go_wp2_with (with_reducible refine wpList_store_mid rfl 36 (.tmp 7) (.tmp 29) rfl q 0 gs' rfl rfl HTH.out HSI.out HON.out ?_)
  exact HF.out
 ·intro vs w5 hF hJ
  have j0:vs 0=.agg K.C:=hJ 0 (by decide)
  have j2:vs 2=.agg c.cells:=hJ 2 (by decide)
  have j3:vs 3=.agg c.cells:=hJ 3 (by decide)
  have j4:vs 4=.slice A L.length cap:=hJ 4 (by decide)
  have j9:vs 9=.int .i64 er:=hJ 9 (by decide)
  clear hJ
  simp only [actOf,tk1,tk0,dr1,dr0,Act.put,si1,st1,st0,Nat.reduceAdd]
  obtain ⟨A7,k7,M7,q7,e7,z7,hmv7,hsp7,hq7,hlo7,hls7,g5⟩:=CtF.out hF
  rw [e7,show vs 9=_ from j9]
  have HG5:=Lib.hid g5
  have Z7:=Lib.hid z7
  have HMV7:=Lib.hid hmv7
  have S7:=Lib.hid hsp7
  have hmA:=HM1.out w5 g5
  have hmB:=HM2.out w5 g5
  have hkA:=HKY.out w5 g5
  have hsA:=HSP.out w5 g5
  clear hF e7 z7 hmv7 hsp7 hq7 hlo7 hls7 g5
  try clear j0
  try clear j2
  try clear j3
  try clear j4
  try clear j9
  go_wp2_with (first
   | (with_reducible refine wpList_load_mid rfl 24 (.tmp 3) rfl w.heap.size 0 rfl K.C.toList _ hmA huk rfl SIK.out ?_;simp only [Array.toArray_toList])
   | (with_reducible refine wpList_load_mid rfl 26 (.tmp 4) rfl (w.heap.size+1) 0 rfl c.cells.toList _ hmB huc rfl SIC.out ?_;simp only [Array.toArray_toList]))
  clear hmA hmB
  refine (CMR.out w5 hkA hsA).mono ?_
  rintro e w6 ⟨A8,k8,M8,rfl,hmv8,hsp8,g6⟩
  obtain ⟨w7,hw7,ht7,g7,z8⟩:=y5 w6 29 (#[.int .i64 0,.int .i64 0,.int .i64 0,.int .i64 0,.int .i64 0,.slice none 0 0]:Array Value) (ctC mcm A8 LE.length k8) rfl
  have HW7:=Lib.hid hw7
  have HT7:=Lib.hid ht7
  have SI8:Hid ((Tryz.prog.info? 29).map (·.size)=some (ctC mcm A8 LE.length k8).size):=Lib.hid yb
  have HO8:=Lib.hid (yj mcm A8 LE.length k8)
  have G67:=zb g6 g7
  have HG7:=Lib.hid (zb HG5.out G67)
  have HSP8:Hid (∀ y,Grew w7 y→Sps y A8 M8):=Lib.hid (fun y g=>hsp8.gr (zb g7 g))
  have HSP7:Hid (∀ y,Grew w7 y→Sps y A7 M7):=Lib.hid (fun y g=>S7.out.gr (zb G67 g))
  obtain ⟨g1,hg1⟩:∃ g,ctC mcm A7 LE.length k7=g:=⟨_,rfl⟩
  obtain ⟨g2,hg2⟩:∃ g,ctC mcm A8 LE.length k8=g:=⟨_,rfl⟩
  have HG1:=Lib.hid hg1
  have HG2:=Lib.hid hg2
  have HC1:Hid (∀ y,Grew w7 y→y.rangeAt q7 0 g1.toList):=Lib.hid (fun y g=>by have:=((Z7.out.grew G67).grew g).cell;rwa [hg1] at this)
  have HC2:Hid (∀ y,Grew w7 y→y.rangeAt w6.heap.size 0 g2.toList):=Lib.hid (fun y g=>by have:=(z8.grew g).cell;rwa [hg2] at this)
  have HMV8:=Lib.hid hmv8
  have COF:Hid (∀ W,Sps W A7 M7→Calls Tryz.prog 31 #[.agg g1] W fun e w'=>(∃ B k' M,e=.returned (.agg (ctC mcm B LE.length k'))∧MvL LE M∧Sps w' B M)∧Grew W w'):=Lib.hid (fun W h=>by
   have:=zkm mcm A7 k7 M7 (by rw [HMV7.out.len];have:=HLE.out;omega) W h
   rw [HMV7.out.len,HG1.out] at this
   refine this.mono ?_
   rintro e z ⟨⟨B,k,M,h1,h2,h3⟩,h4⟩
   exact ⟨⟨B,k,M,h1,jQ HMV7.out h2,h3⟩,h4⟩)
  have CSC:Hid (∀ B k M,MvL LE M→∀ W,Sps W B M→Sps W A8 M8→Calls Tryz.prog 30 #[.agg (ctC mcm B LE.length k),.agg g2] W fun e w'=>e=.returned (.bool true)∧Grew W w'):=Lib.hid (fun B k M hm W h1 h2=>by
   have:=zc0 mcm B A8 k k8 M M8 (by rw [hm.len];have:=HLE.out;omega) (jQ (zp8 hm) HMV8.out) W h1 h2
   rw [hm.len,HG2.out] at this
   exact this)
  have SL1:Hid ((Tryz.prog.info? 36).map (·.size)=some g1.toList.length):=Lib.hid (by rw [←hg1];exact zH)
  have SL2:Hid ((Tryz.prog.info? 29).map (·.size)=some g2.toList.length):=Lib.hid (by rw [←hg2];exact yb)
  rw [hg2] at HW7 HT7 SI8 HO8
  rw [hg2]
  clear hw7 ht7 g6 g7 z8 hmv8 hsp8 G67 hkA hsA hg1 hg2
  go_wp2_with (with_reducible refine wpList_store_mid rfl 29 (.tmp 9) (.tmp 36) rfl w6.heap.size 0 g2 rfl rfl HT7.out SI8.out HO8.out ?_;rw [HW7.out])
  clear HW7 HT7 SI8 HO8
  go_upto_region 7 with fail
  refine kx 9 (fun ix9=>match ix9 with
   | 0=>fun v _=>v=.int .i64 er
   | 1=>fun v _=>v=.int .i64 er
   | 2=>fun v _=>v=.bool false
   | 3=>fun v _=>v=.bool false
   | 4=>fun v _=>v=.agg g1
   | 5=>fun v W=>CrR W mcm LE v
   | 6=>fun v _=>v=.agg g2
   | 7=>fun v _=>v=.bool true
   | 8=>fun v _=>v=.bool false
   | _=>fun _ _=>True) (fun ix9=>match ix9 with
   | 5=>fun _ _ _ _=>True
   | _=>fun _ _ _ _=>True) (fun ix9=>match ix9 with
   | ix8=>ix8) (fun ix9=>match ix9 with
   | ix8=>ix8) (by kernel_rfl) (by kernel_rfl) (by kernel_rfl) ?_ ?_ ?_ ?_
  ·intro i v x y h hg
   match i,h with
   | 0,h | 1,h | 2,h | 3,h | 4,h | 6,h | 7,h | 8,h=>exact h
   | 5,h=>exact CrR.gr h hg
   | m+9,_=>trivial
  ·refine ⟨?_,?_,?_,?_,?_,?_,?_,?_,?_,trivial⟩
   ·intro vs lo hi y hg hd hvia
    replace hg:Grew w7 y:=hg
    clear hvia
    simp only [actOf,tk1,tk0,dr1,dr0,Act.put,si1,st1,st0,Nat.reduceAdd]
    go_wp2_with fail
    first | exact ⟨rfl,_,rfl,za _,rfl⟩ | exact ⟨rfl,_,rfl,za _,rfl,trivial⟩
   ·intro vs lo hi y hg hd hvia
    replace hg:Grew w7 y:=hg
    clear hvia
    simp only [actOf,tk1,tk0,dr1,dr0,Act.put,si1,st1,st0,Nat.reduceAdd]
    go_wp2_with fail
    first | exact ⟨rfl,_,rfl,za _,rfl⟩ | exact ⟨rfl,_,rfl,za _,rfl,trivial⟩
   ·intro vs lo hi y hg hd hvia
    replace hg:Grew w7 y:=hg
    obtain ⟨h0,h1,_⟩:=hd
    replace h0:=h0 rfl
    replace h1:=h1 rfl
    clear hvia
    simp only [actOf,tk1,tk0,dr1,dr0,Act.put,si1,st1,st0,Nat.reduceAdd]
    rw [show vs 0=_ from h0,show vs 1=_ from h1]
    go_wp2_with fail
    first | exact ⟨rfl,_,rfl,za _,rfl⟩ | exact ⟨rfl,_,rfl,za _,rfl,trivial⟩
   ·intro vs lo hi y hg hd hvia
    replace hg:Grew w7 y:=hg
    obtain ⟨h2,_⟩:=hd
    replace h2:=h2 rfl
    clear hvia
    simp only [actOf,tk1,tk0,dr1,dr0,Act.put,si1,st1,st0,Nat.reduceAdd]
    rw [show vs 2=_ from h2]
    go_wp2_with fail
    first | exact ⟨rfl,_,rfl,za _,rfl⟩ | exact ⟨rfl,_,rfl,za _,rfl,trivial⟩
   ·intro vs lo hi y hg hd hvia
    replace hg:Grew w7 y:=hg
    have hx9:(Region.binds .any { on:=3,ground:=.guard }=true→vs 3=.bool false)∧True:=hd
    have h3:vs 3=.bool false:=hx9.1 rfl
    clear hx9 hd
    clear hvia
    simp only [actOf,tk1,tk0,dr1,dr0,Act.put,si1,st1,st0,Nat.reduceAdd]
    rw [show vs 3=_ from h3]
    have hm:=HC1.out y hg
    go_wp2_with (refine zn (by rfl) 36 (.tmp 7) rfl q7 0 rfl g1.toList _ hm hut rfl SL1.out ?_;simp only [Array.toArray_toList])
    first | exact ⟨rfl,_,rfl,za _,rfl⟩ | exact ⟨rfl,_,rfl,za _,rfl,trivial⟩
   ·intro vs lo hi y hg hd hvia
    replace hg:Grew w7 y:=hg
    have hx9:(Region.binds .any { on:=4,ground:=.data }=true→vs 4=.agg g1)∧(Region.binds .any { on:=3,ground:=.chain }=true→vs 3=.bool false)∧(Region.binds .any { on:=3,ground:=.guard }=true→vs 3=.bool false)∧True:=hd
    have h4:vs 4=.agg g1:=hx9.1 rfl
    have h3:vs 3=.bool false:=hx9.2.2.1 rfl
    clear hx9 hd
    clear hvia
    simp only [actOf,tk1,tk0,dr1,dr0,Act.put,si1,st1,st0,Nat.reduceAdd]
    rw [show vs 4=_ from h4,show vs 3=_ from h3]
    have hs7:=HSP7.out y hg
    go_wp2_with (go_at_call 31;refine (COF.out y hs7).mono ?_;rintro e z ⟨⟨B9,k9,M9,rfl,hmv9,hsp9⟩,gz⟩)
    exact ⟨rfl,_,rfl,gz,⟨B9,k9,M9,rfl,hmv9,hsp9⟩,trivial⟩
   ·intro vs lo hi y hg hd hvia
    replace hg:Grew w7 y:=hg
    have hx9:(Region.binds .any { on:=3,ground:=.guard }=true→vs 3=.bool false)∧True:=hd
    have h3:vs 3=.bool false:=hx9.1 rfl
    clear hx9 hd
    clear hvia
    simp only [actOf,tk1,tk0,dr1,dr0,Act.put,si1,st1,st0,Nat.reduceAdd]
    rw [show vs 3=_ from h3]
    have hm:=HC2.out y hg
    go_wp2_with (refine zn (by rfl) 29 (.tmp 9) rfl w6.heap.size 0 rfl g2.toList _ hm hur rfl SL2.out ?_;simp only [Array.toArray_toList])
    first | exact ⟨rfl,_,rfl,za _,rfl⟩ | exact ⟨rfl,_,rfl,za _,rfl,trivial⟩
   ·intro vs lo hi y hg hd hvia
    replace hg:Grew w7 y:=hg
    have hx9:(Region.binds .any { on:=5,ground:=.data }=true→(fun v W=>CrR W mcm LE v) (vs 5) y)∧(Region.binds .any { on:=6,ground:=.data }=true→vs 6=.agg g2)∧(Region.binds .any { on:=5,ground:=.chain }=true→(fun v W=>CrR W mcm LE v) (vs 5) y)∧(Region.binds .any { on:=3,ground:=.guard }=true→vs 3=.bool false)∧True:=hd
    have h5:(fun v W=>CrR W mcm LE v) (vs 5) y:=hx9.1 rfl
    have h6:vs 6=.agg g2:=hx9.2.1 rfl
    have h3:vs 3=.bool false:=hx9.2.2.2.1 rfl
    clear hx9 hd
    clear hvia
    simp only [actOf,tk1,tk0,dr1,dr0,Act.put,si1,st1,st0,Nat.reduceAdd]
    rw [show vs 6=_ from h6,show vs 3=_ from h3]
    obtain ⟨B9,k9,M9,e9,hmv9,hsp9⟩:=CrR.out h5
    rw [e9]
    have hs8:=HSP8.out y hg
    go_wp2_with (go_at_call 30;refine (CSC.out B9 k9 M9 hmv9 y hsp9 hs8).mono ?_;rintro e z ⟨rfl,gz⟩)
    first | exact ⟨rfl,_,rfl,gz,rfl⟩ | exact ⟨rfl,_,rfl,gz,rfl,trivial⟩
   ·intro vs lo hi y hg hd hvia
    replace hg:Grew w7 y:=hg
    have hx9:(Region.binds .any { on:=7,ground:=.data }=true→vs 7=.bool true)∧(Region.binds .any { on:=3,ground:=.guard }=true→vs 3=.bool false)∧True:=hd
    have h7:vs 7=.bool true:=hx9.1 rfl
    have h3:vs 3=.bool false:=hx9.2.1 rfl
    clear hx9 hd
    clear hvia
    simp only [actOf,tk1,tk0,dr1,dr0,Act.put,si1,st1,st0,Nat.reduceAdd]
    rw [show vs 7=_ from h7,show vs 3=_ from h3]
    go_wp2_with fail
    first | exact ⟨rfl,_,rfl,za _,rfl⟩ | exact ⟨rfl,_,rfl,za _,rfl,trivial⟩
  ·intro i lo hi v x y h hg
   match i,h with
   | 5,_=>trivial
   | 0,_=>trivial
   | 1,_=>trivial
   | 2,_=>trivial
   | 3,_=>trivial
   | 4,_=>trivial
   | m+6,_=>trivial
  ·intro vs lo hi w8 hg hJ hK hB hD
   replace hg:Grew w7 w8:=hg
   have k43:=hK 5 (by decide)
   have b43:=hB 5 (by decide)
   clear hK hB hD
   have j0:vs 0=.int .i64 er:=hJ 0 (by decide)
   have j1:vs 1=.int .i64 er:=hJ 1 (by decide)
   have j2:vs 2=.bool false:=hJ 2 (by decide)
   have j3:vs 3=.bool false:=hJ 3 (by decide)
   have j4:vs 4=.agg g1:=hJ 4 (by decide)
   have j6:vs 6=.agg g2:=hJ 6 (by decide)
   have j7:vs 7=.bool true:=hJ 7 (by decide)
   have j8:vs 8=.bool false:=hJ 8 (by decide)
   have s43:=hJ 5 (by decide)
   clear hJ
   simp only [actOf,tk1,tk0,dr1,dr0,Act.put,si1,st1,st0,Nat.reduceAdd]
   rw [show vs 3=_ from j3,show vs 8=_ from j8]
   have HG78:=Lib.hid hg
   have HG8:=Lib.hid (zb HG7.out hg)
   clear hg
   try clear j0
   try clear j1
   try clear j2
   try clear j3
   try clear j4
   try clear j6
   try clear j7
   try clear j8
   try clear s43
   try clear b43
   try clear k43
   by_cases her:er=0
   rotate_left
   ·have e49:(er != 0)=true:=by simpa using her
    clear her
    go_wp2_with fail
    refine zg (za w8) (by kernel_rfl) (by kernel_rfl) ?_
    repeat (go_big_quiet_step (first | fail))
    refine wpQuiet_nil ?_
    rintro wG ⟨⟨wG',gG⟩,rfl⟩
    go_wp2_with fail
    go_ret
    exact ⟨rfl,zb HGW.out (zb HG8.out gG)⟩
   obtain ⟨hmc,hle,hoc,hen⟩:=HER.out her
   have CV:Hid (∀ A' c' W,Std W→Rd W W.heap.size A' (u64L K.R)→Sps W A7 M7→Calls Tryz.prog 23 #[.agg (kyS K.f A' K.R.length c' K.h),.agg g1] W fun e w'=>e=.returned (.int .i64 0)∧Grew W w'):=Lib.hid (fun A' c' W h1 h2 h3=>by
    have hK':(⟨K.f,K.R,A',c',K.h⟩:KP).ok:=⟨HK.out.f,HK.out.len,HK.out.b⟩
    have:=jg mcm hK' A7 k7 M7 (by rw [HMV7.out.len];have:=HLE.out;omega) W h1 h2 h3
    have he:mvE (⟨K.f,K.R,A',c',K.h⟩:KP) mcm M7=0:=by
     rw [mvE_mv HMV7.out,hmc,hle]
     exact zkb (K:=(⟨K.f,K.R,A',c',K.h⟩:KP)) hoc hen
    rw [HMV7.out.len,HG1.out,he] at this
    exact this)
   subst her
   clear hmc hle hoc hen HER HMK
   go_upto_region 9 with fail
   refine kx 9 (fun ix9=>match ix9 with
    | 0=>fun v _=>v=.int .i64 0
    | 1=>fun v _=>v=.bool false
    | 2=>fun v _=>v=.bool false
    | 3=>fun v _=>v=.agg K.C
    | 4=>fun v W=>KyR W K.f K.R K.h v
    | 5=>fun v _=>v=.agg g1
    | 6=>fun v _=>v=.int .i64 0
    | 7=>fun v _=>v=.bool true
    | 8=>fun v _=>v=.bool true
    | _=>fun _ _=>True) (fun ix9=>match ix9 with
    | 4=>fun _ _ _ _=>True
    | _=>fun _ _ _ _=>True) (fun ix9=>match ix9 with
    | ix8=>ix8) (fun ix9=>match ix9 with
    | ix8=>ix8) (by kernel_rfl) (by kernel_rfl) (by kernel_rfl) ?_ ?_ ?_ ?_
   ·intro i v x y h hg
    match i,h with
    | 0,h | 1,h | 2,h | 3,h | 5,h | 6,h | 7,h | 8,h=>exact h
    | 4,h=>exact KyR.gr h hg
    | m+9,_=>trivial
   ·refine ⟨?_,?_,?_,?_,?_,?_,?_,?_,?_,trivial⟩
    ·intro vs lo hi y hg hd hvia
     replace hg:Grew w8 y:=hg
     clear hvia
     simp only [actOf,tk1,tk0,dr1,dr0,Act.put,si1,st1,st0,Nat.reduceAdd]
     go_wp2_with fail
     first | exact ⟨rfl,_,rfl,za _,rfl⟩ | exact ⟨rfl,_,rfl,za _,rfl,trivial⟩
    ·intro vs lo hi y hg hd hvia
     replace hg:Grew w8 y:=hg
     obtain ⟨h0,_⟩:=hd
     replace h0:=h0 rfl
     clear hvia
     simp only [actOf,tk1,tk0,dr1,dr0,Act.put,si1,st1,st0,Nat.reduceAdd]
     rw [show vs 0=_ from h0]
     go_wp2_with fail
     first | exact ⟨rfl,_,rfl,za _,rfl⟩ | exact ⟨rfl,_,rfl,za _,rfl,trivial⟩
    ·intro vs lo hi y hg hd hvia
     replace hg:Grew w8 y:=hg
     obtain ⟨h1,_⟩:=hd
     replace h1:=h1 rfl
     clear hvia
     simp only [actOf,tk1,tk0,dr1,dr0,Act.put,si1,st1,st0,Nat.reduceAdd]
     rw [show vs 1=_ from h1]
     go_wp2_with fail
     first | exact ⟨rfl,_,rfl,za _,rfl⟩ | exact ⟨rfl,_,rfl,za _,rfl,trivial⟩
    ·intro vs lo hi y hg hd hvia
     replace hg:Grew w8 y:=hg
     have hx9:(Region.binds .any { on:=2,ground:=.guard }=true→vs 2=.bool false)∧True:=hd
     have h2:vs 2=.bool false:=hx9.1 rfl
     clear hx9 hd
     clear hvia
     simp only [actOf,tk1,tk0,dr1,dr0,Act.put,si1,st1,st0,Nat.reduceAdd]
     rw [show vs 2=_ from h2]
     have hm:=HM1.out y (zb HG8.out hg)
     go_wp2_with (refine zn (by rfl) 24 (.tmp 3) rfl w.heap.size 0 rfl K.C.toList _ hm huk rfl SIK.out ?_;simp only [Array.toArray_toList])
     first | exact ⟨rfl,_,rfl,za _,rfl⟩ | exact ⟨rfl,_,rfl,za _,rfl,trivial⟩
    ·intro vs lo hi y hg hd hvia
     replace hg:Grew w8 y:=hg
     have hx9:(Region.binds .any { on:=3,ground:=.data }=true→vs 3=.agg K.C)∧(Region.binds .any { on:=2,ground:=.chain }=true→vs 2=.bool false)∧(Region.binds .any { on:=2,ground:=.guard }=true→vs 2=.bool false)∧True:=hd
     have h3:vs 3=.agg K.C:=hx9.1 rfl
     have h2:vs 2=.bool false:=hx9.2.2.1 rfl
     clear hx9 hd
     clear hvia
     simp only [actOf,tk1,tk0,dr1,dr0,Act.put,si1,st1,st0,Nat.reduceAdd]
     rw [show vs 3=_ from h3,show vs 2=_ from h2]
     have hks:=HKY.out y (zb HG8.out hg)
     go_wp2_with (go_at_call 24;refine (CTK.out y hks).mono ?_;rintro e z ⟨⟨A9,c9,rfl,hrd9⟩,gz⟩)
     exact ⟨rfl,_,rfl,gz,⟨A9,c9,rfl,hrd9⟩,trivial⟩
    ·intro vs lo hi y hg hd hvia
     replace hg:Grew w8 y:=hg
     have hx9:(Region.binds .any { on:=2,ground:=.guard }=true→vs 2=.bool false)∧True:=hd
     have h2:vs 2=.bool false:=hx9.1 rfl
     clear hx9 hd
     clear hvia
     simp only [actOf,tk1,tk0,dr1,dr0,Act.put,si1,st1,st0,Nat.reduceAdd]
     rw [show vs 2=_ from h2]
     have hm:=HC1.out y (zb HG78.out hg)
     go_wp2_with (refine zn (by rfl) 36 (.tmp 7) rfl q7 0 rfl g1.toList _ hm hut rfl SL1.out ?_;simp only [Array.toArray_toList])
     first | exact ⟨rfl,_,rfl,za _,rfl⟩ | exact ⟨rfl,_,rfl,za _,rfl,trivial⟩
    ·intro vs lo hi y hg hd hvia
     replace hg:Grew w8 y:=hg
     have hx9:(Region.binds .any { on:=4,ground:=.data }=true→(fun v W=>KyR W K.f K.R K.h v) (vs 4) y)∧(Region.binds .any { on:=5,ground:=.data }=true→vs 5=.agg g1)∧(Region.binds .any { on:=4,ground:=.chain }=true→(fun v W=>KyR W K.f K.R K.h v) (vs 4) y)∧(Region.binds .any { on:=2,ground:=.guard }=true→vs 2=.bool false)∧True:=hd
     have h4:(fun v W=>KyR W K.f K.R K.h v) (vs 4) y:=hx9.1 rfl
     have h5:vs 5=.agg g1:=hx9.2.1 rfl
     have h2:vs 2=.bool false:=hx9.2.2.2.1 rfl
     clear hx9 hd
     clear hvia
     simp only [actOf,tk1,tk0,dr1,dr0,Act.put,si1,st1,st0,Nat.reduceAdd]
     rw [show vs 5=_ from h5,show vs 2=_ from h2]
     obtain ⟨A6,c6,e6,hrd6⟩:=KyR.out h4
     rw [e6]
     have hgS:=HSY.out y (zb HG8.out hg)
     have hs8:=HSP7.out y (zb HG78.out hg)
     go_wp2_with (go_at_call 23;refine (CV.out A6 c6 y hgS hrd6 hs8).mono ?_;rintro e z ⟨rfl,gz⟩)
     first | exact ⟨rfl,_,rfl,gz,rfl⟩ | exact ⟨rfl,_,rfl,gz,rfl,trivial⟩
    ·intro vs lo hi y hg hd hvia
     replace hg:Grew w8 y:=hg
     have hx9:(Region.binds .any { on:=6,ground:=.data }=true→vs 6=.int .i64 0)∧(Region.binds .any { on:=2,ground:=.guard }=true→vs 2=.bool false)∧True:=hd
     have h6:vs 6=.int .i64 0:=hx9.1 rfl
     have h2:vs 2=.bool false:=hx9.2.1 rfl
     clear hx9 hd
     clear hvia
     simp only [actOf,tk1,tk0,dr1,dr0,Act.put,si1,st1,st0,Nat.reduceAdd]
     rw [show vs 6=_ from h6,show vs 2=_ from h2]
     go_wp2_with fail
     first | exact ⟨rfl,_,rfl,za _,rfl⟩ | exact ⟨rfl,_,rfl,za _,rfl,trivial⟩
    ·intro vs lo hi y hg hd hvia
     replace hg:Grew w8 y:=hg
     obtain ⟨h2,h7,_⟩:=hd
     replace h2:=h2 rfl
     replace h7:=h7 rfl
     clear hvia
     simp only [actOf,tk1,tk0,dr1,dr0,Act.put,si1,st1,st0,Nat.reduceAdd]
     rw [show vs 2=_ from h2,show vs 7=_ from h7]
     go_wp2_with fail
     first | exact ⟨rfl,_,rfl,za _,rfl⟩ | exact ⟨rfl,_,rfl,za _,rfl,trivial⟩
   ·intro i lo hi v x y h hg
    match i,h with
    | 4,_=>trivial
    | 0,_=>trivial
    | 1,_=>trivial
    | 2,_=>trivial
    | 3,_=>trivial
    | m+5,_=>trivial
   ·intro vs lo hi w9 hg hJ hK hB hD
    replace hg:Grew w8 w9:=hg
    have k52:=hK 4 (by decide)
    have b52:=hB 4 (by decide)
    clear hK hB hD
    have j0:vs 0=.int .i64 0:=hJ 0 (by decide)
    have j1:vs 1=.bool false:=hJ 1 (by decide)
    have j2:vs 2=.bool false:=hJ 2 (by decide)
    have j3:vs 3=.agg K.C:=hJ 3 (by decide)
    have j5:vs 5=.agg g1:=hJ 5 (by decide)
    have j6:vs 6=.int .i64 0:=hJ 6 (by decide)
    have j7:vs 7=.bool true:=hJ 7 (by decide)
    have j8:vs 8=.bool true:=hJ 8 (by decide)
    have s52:=hJ 4 (by decide)
    clear hJ
    simp only [actOf,tk1,tk0,dr1,dr0,Act.put,si1,st1,st0,Nat.reduceAdd]
    rw [show vs 8=_ from j8]
    go_wp2_with fail
    go_ret
    exact ⟨rfl,zb HGW.out (zb HG8.out hg)⟩
end Go.Proofs.YtpppegnojmnicaaGreatDoor
