/- ViewAny: the law (mkvnl.py). -/
import Derived.Test.YtidjnnnigcmdpaaGreatDoorJzz
import Derived.Test.YtidjnnnigcmdpaaGreatDoorJbt
import Derived.Test.YtidjnnnigcmdpaaGreatDoorJbs
import Derived.Test.YtidjnnnigcmdpaaGreatDoorJbn
import Derived.Test.YtidjnnnigcmdpaaGreatDoorJak
import Derived.Test.YtidjnnnigcmdpaaGreatDoorJbh
import Derived.Test.YtidjnnnigcmdpaaGreatDoorJaz
import Derived.Test.YtidjnnnigcmdpaaGreatDoorJbb
set_option maxHeartbeats 8000000
set_option maxRecDepth 100000
set_option linter.unusedSimpArgs false
set_option linter.unusedVariables false
set_option linter.unnecessarySimpa false
namespace Go.Proofs.YtidjnnnigcmdpaaGreatDoor
open Go.RowKit
structure OfN (L:List NW) (W:World) (v:Value) (f:Option Addr→Nat→Value):Prop where
 out:∃ B k M,v=f B k∧MvN L M∧Nws W B M
theorem OfN.gr {L:List NW} {w w':World} {v:Value} {f:Option Addr→Nat→Value} (h:OfN L w v f) (g:Grew w w'):OfN L w' v f:=by
 obtain⟨B,k,M,h1,h2,h3⟩:=h.out
 exact⟨B,k,M,h1,h2,h3.gr g⟩
structure VgM (w:World) (B:Nat) (L:List VP) (lo hi:Nat) (v:Value) (f:Option Addr→Nat→Value):Prop where
 out:∃ A c M,v=f A c∧MvV L M∧Vps w A M∧B≤lo∧(∀ ad,A=some ad→M=[]∨(lo≤ad.block∧ad.block<hi))∧(∀ S∈M,∀ ad,S.A=some ad→S.l=[]∨(lo≤ad.block∧ad.block<hi))
theorem VgM.gr {w w':World} {B:Nat} {L:List VP} {lo hi:Nat} {v:Value} {f:Option Addr→Nat→Value} (h:VgM w B L lo hi v f) (k:Grew w w'):VgM w' B L lo hi v f:=by
 obtain⟨A,c,M,h1,h2,h3,h4⟩:=h.out
 exact⟨A,c,M,h1,h2,h3.gr k,h4⟩
theorem xl {P:Program} {ops:Array Oper} {rest:List Oper} {op:Oper} {a:Act} {w:World} {Q:Exit→Act→World→Prop} (hw:Region.wanted op (yielded ops a.tmps)=true) (ty:TypeId) (x:Operand) (ho:op.op=.load ty x)
 (ad:Addr) (hx:a.eval x=.pointer (some ad)) (cs:List Value) (d:TypeDesc) (hc:∀ j v,cs[j]?=some v→w.cell? (ad.add j)=some v)
 (hu:P.underlying ty=some d) (hd:(match d with | .struct _ | .array _ _=>true | _=>false)=true) (hi:(P.info? ty).map (·.size)=some cs.length)
 (h:wpList P ops Q rest (a.put op.dst (.agg cs.toArray)) w):wpList P ops Q (op::rest) a w :=
 BigFrame.wpList_want hw fun _ hK=>qK ty x ho ad hx cs d hc hu hd hi (hK _ _ h)
theorem zdb (K:KP) (hRb:∀ z∈K.R,z<18446744073709551616) (A:Option Addr) (cap:Nat) (L:List NW) (u:Int) (w:World) (hS:Std w)
 (hrR:K.at w) (hrd:RaN w A L) (hraw:∀ S∈L,S.raw w) (hLm:L.length≤maxLen) :
 Calls Tryz.prog 8 #[.agg K.C,.slice A L.length cap,.int .i64 u] w fun e w'=>e=.returned (.bool true)∧Grew w w':=by
 have z0:=Ag.new w 24 K.C
 have G0:=zg (zc w) (.cells K.C 24)
 have huk:=Tryz.underlying24
 have hukt:=Tryz.underlying49
 have hut:=Tryz.underlying38
 have hur:=Tryz.underlying28
 have hus:=Tryz.underlying109
 have hun:=Tryz.underlying111
 have huf:=Tryz.underlying46
 have SIK:Hid ((Tryz.prog.info? 24).map (·.size)=some K.C.toList.length):=hQ9 jp
 have CK:=hQ9 (fun W hW=>zfi W hW)
 have CCK:Hid (∀ W,Calls Tryz.prog 13 #[.agg K.C] W fun e w'=>e=.returned (.int .i64 (cyE K.f K.R.length K.h))∧Grew W w'):=hQ9 (fun W=>zc3 K.f K.R K.RA K.Rc K.h W)
 have HS:=hQ9 hS
 have HRd:=hQ9 hrd
 have HRW:=hQ9 hraw
 have HKR:=hQ9 hrR
 have HRb:=hQ9 hRb
 have HLM:=hQ9 hLm
 clear hS hrd hraw hrR hRb hLm
 go_enter Tryz.func8,Tryz.ntmps8
 go_wp2_with fail
 refine(CK.out _ (HS.out.grew G0)).mono ?_
 rintro e w1 ⟨rfl,gg⟩
 have z0:=z0.grew gg
 have G1:=ze G0 gg
 have hmk:=z0.cell
 clear CK gg G0
 go_wp2_with(with_reducible refine wpList_load_mid rfl 24 (.tmp 3) rfl w.heap.size 0 rfl K.C.toList _ hmk huk rfl SIK.out ?_;simp only [Array.toArray_toList])
 refine(CCK.out _).mono ?_
 rintro e w3 ⟨rfl,gg⟩
 have z0:=z0.grew gg
 have G3:=ze G1 gg
 clear CCK gg G1 hmk
 by_cases hcy:cyE K.f K.R.length K.h=0
 rotate_left
 ·have e15:(cyE K.f K.R.length K.h != 0)=true:=by simpa using hcy
  clear hcy z0
  generalize cyE K.f K.R.length K.h=ey at *
  go_wp2_with fail
  go_ret
  exact⟨rfl,G3⟩
 have HCY:=hQ9 hcy
 rw [hcy]
 clear hcy
 by_cases h10:10<L.length
 ·have e22:decide (10<L.length)=true:=decide_eq_true h10
  have e23:decide ((10:Int)<(L.length:Int))=true:=decide_eq_true (by omega)
  clear h10 z0
  go_wp2_with fail
  go_ret
  exact⟨rfl,G3⟩
 have HL10:Hid (L.length≤10):=hQ9 (by omega)
 have e22:decide (10<L.length)=false:=decide_eq_false h10
 have e23:decide ((10:Int)<(L.length:Int))=false:=decide_eq_false (by omega)
 clear h10
 have hK:K.ok:=by
  have h1:=HCY.out
  unfold cyE at h1
  split at h1
  ·cases h1
  ·split at h1
   ·rename_i h2 h3
    exact⟨by omega,by have:=h3.1;omega,HRb.out⟩
   ·cases h1
 have HK:=hQ9 hK
 clear HCY hK
 have CTK:Hid (∀ W,K.at W→Calls Tryz.prog 17 #[.agg K.C] W fun e w'=>(∃ A' c',e=.returned (.agg (kyS K.f A' K.R.length c' K.h))∧Rd w' w'.heap.size A' (u64L K.R))∧Grew W w'):=hQ9 (fun W h=>(zgp K.f K.R K.RA K.Rc K.h (by have:=HK.out.len;omega) W h).mono (by rintro e z ⟨A',c',h1,h2,h3,-⟩;exact⟨⟨A',c',h1,h2⟩,h3⟩))
 have hmk:=z0.cell
 go_wp2_with(with_reducible refine wpList_load_mid rfl 24 (.tmp 3) rfl w.heap.size 0 rfl K.C.toList _ hmk huk rfl SIK.out ?_;simp only [Array.toArray_toList])
 refine(CTK.out w3 (HKR.out.gr G3)).mono ?_
 rintro e w5 ⟨⟨RA,Rc,rfl,hRd⟩,g5⟩
 obtain⟨kc,hkc⟩:∃ v,kyS K.f RA K.R.length Rc K.h=v:=⟨_,rfl⟩
 have HKC:=hQ9 hkc
 have HSK:Hid ((Tryz.prog.info? 49).map (·.size)=some kc.size):=hQ9 (by rw [←hkc];kernel_rfl)
 have HSKL:Hid ((Tryz.prog.info? 49).map (·.size)=some kc.toList.length):=hQ9 (by rw [←hkc];kernel_rfl)
 have HOKK:Hid (kc.all (·.oneCell')=true):=hQ9 (by rw [←hkc];simp [kyS,Value.oneCell'])
 obtain⟨w6,hw6,ht6,g6,z6⟩:=zW w5 49 (#[.int .i64 0,.slice none 0 0,.int .i64 0]) kc (by rw [←hkc];rfl)
 have HW6:=hQ9 hw6
 have HT6:=hQ9 ht6
 rw [hkc]
 have G46:=ze g5 g6
 have HGW:=hQ9 (ze G3 G46)
 have HRK:Hid (∀ y,Grew w6 y→(⟨K.f,K.R,RA,Rc,K.h⟩:KP).at y):=hQ9 (fun y g=>hRd.gr (ze g6 g))
 have HZK:Hid (∀ y,Grew w6 y→y.rangeAt w5.heap.size 0 kc.toList):=hQ9 (fun y g=>(z6.grew g).cell)
 have HM1:=hQ9 (fun y (g:Grew w6 y)=>(z0.grew (ze G46 g)).cell)
 have hK':Hid (⟨K.f,K.R,RA,Rc,K.h⟩:KP).ok:=hQ9 ⟨HK.out.f,HK.out.len,HK.out.b⟩
 have HSY:Hid (∀ y,Grew w6 y→Std y):=hQ9 (fun y g=>HS.out.grew (ze HGW.out g))
 have HVG:Hid (∀ y,Grew w6 y→RaN y A L):=hQ9 (fun y g=>HRd.out.gr (ze HGW.out g))
 have HVW:Hid (∀ y,Grew w6 y→∀ S∈L,S.raw y):=hQ9 (fun y g S hS=>(HRW.out S hS).gr (ze HGW.out g))
 have HKG:Hid (∀ y,Grew w6 y→K.at y):=hQ9 (fun y g=>HKR.out.gr (ze HGW.out g))
 clear hw6 ht6 hkc hmk hRd g5 g6 z6 G46 CTK z0 G3 e22 e23
 go_wp2_with(with_reducible refine wpList_store_mid rfl 49 (.tmp 7) (.tmp 25) rfl w5.heap.size 0 kc rfl rfl HT6.out HSK.out HOKK.out ?_;rw [HW6.out];clear HW6 HT6)
 obtain⟨qk,hqk⟩:∃ q,w5.heap.size=q:=⟨_,rfl⟩
 rw [hqk]at HZK ⊢
 clear hqk
 go_loopw [8] (fun iv wr=>∃ i:Nat,i≤L.length∧iv=.int .i64 (i:Int)∧Hid (∀ S∈L.take i,fewN S=true)∧Grew w6 wr) (fun iv _=>L.length-(Go.RowKit.intOf iv).toNat)
 case atStart=>exact⟨0,by omega,rfl,hQ9 (by simp),zc _⟩
 case round =>
  obtain⟨i,hi,rfl,HFW,gj⟩:=hrel
  have HGJ:=hQ9 gj
  by_cases hlt:i<L.length
  ·obtain⟨ad,hA,hql,hr⟩:=(HVG.out wr gj) i hlt
   have HRWY:Hid (∀ y,Grew wr y→L[i].raw y):=hQ9 (fun y g=>HVW.out y (ze gj g) _ (List.getElem_mem hlt))
   have HRY:Hid (∀ y,Grew wr y→∀ j v,L[i].C.toList[j]?=some v→y.cell? ((ad.add (i*26)).add j)=some v):=hQ9 (fun y g j v hj=>(g.cell (p:=(ad.add (i*26)).add j) (by rw [zv,zv];exact hql)).trans (hr j v hj))
   have HFN:Hid (fewN L[i]=true→∀ S∈L.take (i+1),fewN S=true):=hQ9 (fun h S hS=>by
    rw [List.take_succ_eq_append_getElem hlt]at hS
    rcases List.mem_append.1 hS with h1 | h1
    ·exact HFW.out S h1
    ·obtain rfl:S=L[i]:=by simpa using h1
     exact h)
   have h1:(i:Int)<(L.length:Int):=by omega
   have h0:(0:Int)≤(i:Int):=by omega
   have HI:=hQ9 hlt
   have e49:IntKind.i64.wrap ((i:Int)+1)=((i+1:Nat):Int):=by have:=HL10.out;rw [IntWalk.i64_in _ (by omega)];omega
   subst hA
   generalize L[i]=S at *
   clear hr hql hlt hi gj HFW
   have SIS:Hid ((Tryz.prog.info? 109).map (·.size)=some S.C.toList.length):=hQ9 ja
   have CFW:=hQ9 (ziv S wr (HRWY.out wr (zc _)).rd)
   have hm:=HRY.out wr (zc _)
   go_wp2_with(with_reducible refine zN rfl 109 (.tmp 34) rfl (ad.add (i*26)) rfl S.C.toList _ hm hus rfl SIS.out ?_;simp only [Array.toArray_toList])
   refine CFW.out.mono ?_
   rintro e w7 ⟨rfl,g7⟩
   clear hm CFW
   cases hfw:fewN S with
   | false =>
    clear hfw
    go_wp2_with fail
    go_ret
    exact⟨rfl,ze HGW.out (ze HGJ.out g7)⟩
   | true =>
   have HFN2:=hQ9 (HFN.out hfw)
   have hok2:=(HRWY.out w7 g7).few hfw
   have HSOK:=hQ9 hok2.1
   have CTN:=hQ9 (zd6 S hok2.1 w7 hok2.2)
   have HG7:=hQ9 g7
   have HRAW7:=hQ9 (fun y (g:Grew w7 y)=>((HRWY.out w7 g7).gr g).few hfw)
   have hm:=HRY.out w7 g7
   clear HFN hfw hok2 g7
   go_wp2_with(with_reducible refine zN rfl 109 (.tmp 40) rfl (ad.add (i*26)) rfl S.C.toList _ hm hus rfl SIS.out ?_;simp only [Array.toArray_toList])
   refine CTN.out.mono ?_
   rintro e w8 ⟨⟨T,rfl,hmT,hokT,hatT,-⟩,g8⟩
   clear hm CTN
   obtain⟨tc,htc⟩:∃ v,T.C=v:=⟨_,rfl⟩
   have HTC:=hQ9 htc
   have STN:Hid ((Tryz.prog.info? 111).map (·.size)=some tc.size):=hQ9 (by rw [←htc];exact zD)
   have STL:Hid ((Tryz.prog.info? 111).map (·.size)=some tc.toList.length):=hQ9 (by rw [←htc];exact zD)
   have HOT:Hid (tc.all (·.oneCell')=true):=hQ9 (by rw [←htc];exact T.one)
   obtain⟨w9,hw9,ht9,g9,z9⟩:=zW w8 111 (#[.int .i64 0,.int .i64 0,.int .i64 0,.int .u64 0,.slice none 0 0,.int .i64 0,.int .i64 0,.int .u64 0,.int .u64 0,.int .u64 0,.int .u64 0,.int .u64 0,.int .u64 0,.int .u64 0,.int .u64 0,.int .u64 0,.int .u64 0,.int .u64 0,.int .u64 0,.int .u64 0,.int .u64 0,.int .u64 0,.int .u64 0,.int .u64 0,.int .u64 0,.slice none 0 0]:Array Value) tc (by rw [←htc];rfl)
   have HW9:=hQ9 hw9
   have HT9:=hQ9 ht9
   rw [htc]
   have HG9:=hQ9 (ze HG7.out (ze g8 g9))
   have HG89:=hQ9 (ze g8 g9)
   have HZT:Hid (∀ y,Grew w9 y→y.rangeAt w8.heap.size 0 tc.toList):=hQ9 (fun y g=>(z9.grew g).cell)
   have HTAT:Hid (∀ y,Grew w9 y→T.at y):=hQ9 (fun y g=>(hatT.gr g9).gr g)
   have HTOK:=hQ9 hokT
   have HTMV:=hQ9 hmT
   clear hw9 ht9 htc hmT hokT hatT g8 g9 z9
   go_upto_region 12 with (with_reducible refine wpList_store_mid rfl 111 (.tmp 9) (.tmp 42) rfl w8.heap.size 0 tc rfl rfl HT9.out STN.out HOT.out ?_;rw [HW9.out];clear HW9 HT9)
   obtain⟨qt,hqt⟩:∃ q,w8.heap.size=q:=⟨_,rfl⟩
   rw [hqt]at HZT ⊢
   clear hqt
   obtain⟨sv,hsv⟩:∃ v,nvS K S=v:=⟨_,rfl⟩
   obtain⟨dg,hdg⟩:∃ v,nwD S.vw S.qv S.qd S.who=v:=⟨_,rfl⟩
   obtain⟨tw,htw⟩:∃ v,(⟨(nwW S.vw S.qv S.qd S.who).toArray⟩:ByteArray)=v:=⟨_,rfl⟩
   have GZ:Hid (∀ y,Grew w9 y→Grew w6 y):=hQ9 (fun y g=>ze HGJ.out (ze HG9.out g))
   have CV1:Hid (∀ y,Grew w9 y→Calls Tryz.prog 50 #[.agg kc,.agg tc] y fun e w'=>e=.returned (.int .i64 sv)∧Grew y w'):=hQ9 (fun y g=>by
    have:=xE hK'.out HTOK.out y (HSY.out y (GZ.out y g)) (HRK.out y (GZ.out y g)) (HTAT.out y g)
    rw [nvS_K (K:=K) (K':=⟨K.f,K.R,RA,Rc,K.h⟩) rfl rfl rfl,HTMV.out.nv,hsv,show(⟨K.f,K.R,RA,Rc,K.h⟩:KP).C=kc from HKC.out,HTC.out]at this
    exact this)
   have CV2:Hid (∀ y,Grew w9 y→Calls Tryz.prog 51 #[.agg K.C,.agg S.C] y fun e w'=>e=.returned (.int .i64 sv)∧Grew y w'):=hQ9 (fun y g=>by
    have ha:=(HRAW7.out y (ze HG89.out g)).2
    have:=jJ HK.out HSOK.out y (HSY.out y (GZ.out y g)) (HKG.out y (GZ.out y g)) ha.p ha.q
    rw [hsv]at this
    exact this)
   have CD1:Hid (∀ y,Grew w9 y→Calls Tryz.prog 52 #[.agg tc] y fun e w'=>e=.returned (.int .u64 (dg:Nat))∧Grew y w'):=hQ9 (fun y g=>by
    have:=xZ T.vw T.qv T.qd T.QA T.H.length T.Qk T.who T.sw T.lf T.s T.A T.c T.l HTOK.out.qd HTOK.out.qv HTOK.out.who HTOK.out.vw y (HSY.out y (GZ.out y g))
    rw [show nwC T.vw T.qv T.qd T.QA T.H.length T.Qk T.who T.sw T.lf T.s (.slice T.A T.l.length T.c)=tc from HTC.out,HTMV.out.who.1,HTMV.out.who.2.1,HTMV.out.who.2.2.1,HTMV.out.who.2.2.2.1,hdg]at this
    exact this)
   have CD2:Hid (∀ y,Calls Tryz.prog 53 #[.agg S.C] y fun e w'=>e=.returned (.int .u64 (dg:Nat))∧Grew y w'):=hQ9 (fun y=>by
    have:=kX S.vw S.qv S.qd S.QA S.H.length S.Qk S.who S.sw S.lf S.s S.A S.c S.l HSOK.out.qd HSOK.out.qv HSOK.out.who HSOK.out.vw y
    rw [hdg]at this
    exact this)
   have CW1:Hid (∀ y,Grew w9 y→Calls Tryz.prog 54 #[.agg tc] y fun e w'=>e=.returned (.string tw)∧Grew y w'):=hQ9 (fun y g=>by
    have:=qU T.vw T.qv T.qd T.QA T.H.length T.Qk T.who T.sw T.lf T.s T.A T.c T.l HTOK.out.qd HTOK.out.qv HTOK.out.who HTOK.out.vw y (HSY.out y (GZ.out y g))
    rw [show nwC T.vw T.qv T.qd T.QA T.H.length T.Qk T.who T.sw T.lf T.s (.slice T.A T.l.length T.c)=tc from HTC.out,HTMV.out.who.1,HTMV.out.who.2.1,HTMV.out.who.2.2.1,HTMV.out.who.2.2.2.1,htw]at this
    exact this)
   have CW2:Hid (∀ y,Calls Tryz.prog 55 #[.agg S.C] y fun e w'=>e=.returned (.string tw)∧Grew y w'):=hQ9 (fun y=>by
    have:=jI S.vw S.qv S.qd S.QA S.H.length S.Qk S.who S.sw S.lf S.s S.A S.c S.l HSOK.out.qd HSOK.out.qv HSOK.out.who HSOK.out.vw y
    rw [htw]at this
    exact this)
   have HZKr:Hid (∀ y,Grew w9 y→y.rangeAt qk 0 kc.toList):=hQ9 (fun y g=>HZK.out y (GZ.out y g))
   have HM1r:Hid (∀ y,Grew w9 y→y.rangeAt w.heap.size 0 K.C.toList):=hQ9 (fun y g=>HM1.out y (GZ.out y g))
   have HRYr:Hid (∀ y,Grew w9 y→∀ j v,S.C.toList[j]?=some v→y.cell? ((ad.add (i*26)).add j)=some v):=hQ9 (fun y g=>HRY.out y (ze HG9.out g))
   clear hsv hdg htw HRY HRAW7 HTAT HG89
   refine zy 29 (fun ix9=>match ix9 with
    | 0=>fun v _=>v=.agg kc
    | 1=>fun v _=>v=.agg tc
    | 2=>fun v _=>v=.int .i64 sv
    | 3=>fun v _=>v=.agg K.C
    | 4=>fun v _=>v=.slice (some ad) L.length cap
    | 5=>fun v _=>v=.int .i64 (i:Int)
    | 6=>fun v _=>v=.pointer (some (ad.add (i*26)))
    | 7=>fun v _=>v=.agg S.C
    | 8=>fun v _=>v=.int .i64 sv
    | 9=>fun v _=>v=.bool false
    | 10=>fun v _=>v=.bool false
    | 11=>fun v _=>v=.agg tc
    | 12=>fun v _=>v=.int .u64 (dg:Nat)
    | 13=>fun v _=>v=.slice (some ad) L.length cap
    | 14=>fun v _=>v=.int .i64 (i:Int)
    | 15=>fun v _=>v=.pointer (some (ad.add (i*26)))
    | 16=>fun v _=>v=.agg S.C
    | 17=>fun v _=>v=.int .u64 (dg:Nat)
    | 18=>fun v _=>v=.bool false
    | 19=>fun v _=>v=.bool false
    | 20=>fun v _=>v=.bool false
    | 21=>fun v _=>v=.agg tc
    | 22=>fun v _=>v=.string tw
    | 23=>fun v _=>v=.slice (some ad) L.length cap
    | 24=>fun v _=>v=.int .i64 (i:Int)
    | 25=>fun v _=>v=.pointer (some (ad.add (i*26)))
    | 26=>fun v _=>v=.agg S.C
    | 27=>fun v _=>v=.string tw
    | 28=>fun v _=>v=.bool false
    | _=>fun _ _=>True) (by kernel_rfl) (by kernel_rfl) ?_ ?_ ?_
   ·intro i v x y h hg
    match i,h with
    | 0,h | 1,h | 2,h | 3,h | 4,h | 5,h | 6,h | 7,h | 8,h | 9,h | 10,h | 11,h | 12,h | 13,h | 14,h | 15,h | 16,h | 17,h | 18,h | 19,h | 20,h | 21,h | 22,h | 23,h | 24,h | 25,h | 26,h | 27,h | 28,h=>exact h
    | m+29,_=>trivial
   ·simp only [actOf,tk1,tk0,dr1,dr0,Act.put,si1,st1,st0,Nat.reduceAdd]
    refine⟨?_,?_,?_,?_,?_,?_,?_,?_,?_,?_,?_,?_,?_,?_,?_,?_,?_,?_,?_,?_,?_,?_,?_,?_,?_,?_,?_,?_,?_,trivial⟩
    ·intro vs y hg hd
     try clear hd
     dsimp only
     have hm:=HZKr.out y hg
     go_wp2_with(with_reducible refine wpList_load_mid rfl 49 (.tmp 7) rfl qk 0 rfl kc.toList _ hm hukt rfl HSKL.out ?_;simp only [Array.toArray_toList])
     exact⟨rfl,_,rfl,zc _,rfl⟩
    ·intro vs y hg hd
     try clear hd
     dsimp only
     have hm:=HZT.out y hg
     go_wp2_with(with_reducible refine wpList_load_mid rfl 111 (.tmp 9) rfl qt 0 rfl tc.toList _ hm hun rfl STL.out ?_;simp only [Array.toArray_toList])
     exact⟨rfl,_,rfl,zc _,rfl⟩
    ·intro vs y hg hd
     obtain⟨h0,h1,_⟩:=hd
     replace h0:=h0 rfl
     replace h1:=h1 rfl
     try clear hd
     dsimp only
     rw [show vs 0=_ from h0,show vs 1=_ from h1]
     go_wp2_with(go_at_call 50;refine(CV1.out y hg).mono ?_;rintro e z ⟨rfl,gz⟩)
     exact⟨rfl,_,rfl,gz,rfl⟩
    ·intro vs y hg hd
     try clear hd
     dsimp only
     have hm:=HM1r.out y hg
     go_wp2_with(with_reducible refine wpList_load_mid rfl 24 (.tmp 3) rfl w.heap.size 0 rfl K.C.toList _ hm huk rfl SIK.out ?_;simp only [Array.toArray_toList])
     exact⟨rfl,_,rfl,zc _,rfl⟩
    ·intro vs y hg hd
     try clear hd
     dsimp only
     go_wp2_with fail
     exact⟨rfl,_,rfl,zc _,rfl⟩
    ·intro vs y hg hd
     try clear hd
     dsimp only
     go_wp2_with fail
     exact⟨rfl,_,rfl,zc _,rfl⟩
    ·intro vs y hg hd
     obtain⟨h4,h5,_⟩:=hd
     replace h4:=h4 rfl
     replace h5:=h5 rfl
     try clear hd
     dsimp only
     rw [show vs 4=_ from h4,show vs 5=_ from h5]
     go_wp2_with fail
     exact⟨rfl,_,rfl,zc _,rfl⟩
    ·intro vs y hg hd
     obtain⟨h6,_⟩:=hd
     replace h6:=h6 rfl
     try clear hd
     dsimp only
     rw [show vs 6=_ from h6]
     have hm:=HRYr.out y hg
     go_wp2_with(with_reducible refine zN rfl 109 (.tmp 49) rfl (ad.add (i*26)) rfl S.C.toList _ hm hus rfl SIS.out ?_;simp only [Array.toArray_toList])
     exact⟨rfl,_,rfl,zc _,rfl⟩
    ·intro vs y hg hd
     obtain⟨h3,h7,_⟩:=hd
     replace h3:=h3 rfl
     replace h7:=h7 rfl
     try clear hd
     dsimp only
     rw [show vs 3=_ from h3,show vs 7=_ from h7]
     go_wp2_with(go_at_call 51;refine(CV2.out y hg).mono ?_;rintro e z ⟨rfl,gz⟩)
     exact⟨rfl,_,rfl,gz,rfl⟩
    ·intro vs y hg hd
     obtain⟨h2,h8,_⟩:=hd
     replace h2:=h2 rfl
     replace h8:=h8 rfl
     try clear hd
     dsimp only
     rw [show vs 2=_ from h2,show vs 8=_ from h8]
     go_wp2_with fail
     exact⟨rfl,_,rfl,zc _,by simp⟩
    ·intro vs y hg hd
     obtain⟨h9,_⟩:=hd
     replace h9:=h9 rfl
     try clear hd
     dsimp only
     rw [show vs 9=_ from h9]
     go_wp2_with fail
     exact⟨rfl,_,rfl,zc _,rfl⟩
    ·intro vs y hg hd
     have hx:(Region.binds .any { on:=10,ground:=.guard }=true→vs 10=.bool false)∧True:=hd
     have h10:vs 10=.bool false:=hx.1 rfl
     clear hx
     try clear hd
     dsimp only
     rw [show vs 10=_ from h10]
     have hm:=HZT.out y hg
     go_wp2_with(refine zw (by rfl) 111 (.tmp 9) rfl qt 0 rfl tc.toList _ hm hun rfl STL.out ?_;simp only [Array.toArray_toList])
     exact⟨rfl,_,rfl,zc _,rfl⟩
    ·intro vs y hg hd
     have hx:(Region.binds .any { on:=11,ground:=.data }=true→vs 11=.agg tc)∧(Region.binds .any { on:=10,ground:=.chain }=true→vs 10=.bool false)∧(Region.binds .any { on:=10,ground:=.guard }=true→vs 10=.bool false)∧True:=hd
     have h11:vs 11=.agg tc:=hx.1 rfl
     have h10:vs 10=.bool false:=hx.2.2.1 rfl
     clear hx
     try clear hd
     dsimp only
     rw [show vs 11=_ from h11,show vs 10=_ from h10]
     go_wp2_with(go_at_call 52;refine(CD1.out y hg).mono ?_;rintro e z ⟨rfl,gz⟩)
     exact⟨rfl,_,rfl,gz,rfl⟩
    ·intro vs y hg hd
     have hx:(Region.binds .any { on:=10,ground:=.guard }=true→vs 10=.bool false)∧True:=hd
     have h10:vs 10=.bool false:=hx.1 rfl
     clear hx
     try clear hd
     dsimp only
     rw [show vs 10=_ from h10]
     go_wp2_with fail
     exact⟨rfl,_,rfl,zc _,rfl⟩
    ·intro vs y hg hd
     have hx:(Region.binds .any { on:=10,ground:=.guard }=true→vs 10=.bool false)∧True:=hd
     have h10:vs 10=.bool false:=hx.1 rfl
     clear hx
     try clear hd
     dsimp only
     rw [show vs 10=_ from h10]
     go_wp2_with fail
     exact⟨rfl,_,rfl,zc _,rfl⟩
    ·intro vs y hg hd
     have hx:(Region.binds .any { on:=13,ground:=.data }=true→vs 13=.slice (some ad) L.length cap)∧(Region.binds .any { on:=14,ground:=.data }=true→vs 14=.int .i64 (i:Int))∧(Region.binds .any { on:=10,ground:=.guard }=true→vs 10=.bool false)∧True:=hd
     have h13:vs 13=.slice (some ad) L.length cap:=hx.1 rfl
     have h14:vs 14=.int .i64 (i:Int):=hx.2.1 rfl
     have h10:vs 10=.bool false:=hx.2.2.1 rfl
     clear hx
     try clear hd
     dsimp only
     rw [show vs 13=_ from h13,show vs 14=_ from h14,show vs 10=_ from h10]
     go_wp2_with fail
     exact⟨rfl,_,rfl,zc _,rfl⟩
    ·intro vs y hg hd
     have hx:(Region.binds .any { on:=15,ground:=.data }=true→vs 15=.pointer (some (ad.add (i*26))))∧(Region.binds .any { on:=10,ground:=.guard }=true→vs 10=.bool false)∧True:=hd
     have h15:vs 15=.pointer (some (ad.add (i*26))):=hx.1 rfl
     have h10:vs 10=.bool false:=hx.2.1 rfl
     clear hx
     try clear hd
     dsimp only
     rw [show vs 15=_ from h15,show vs 10=_ from h10]
     have hm:=HRYr.out y hg
     go_wp2_with(refine xl (by rfl) 109 (.tmp 58) rfl (ad.add (i*26)) rfl S.C.toList _ hm hus rfl SIS.out ?_;simp only [Array.toArray_toList])
     exact⟨rfl,_,rfl,zc _,rfl⟩
    ·intro vs y hg hd
     have hx:(Region.binds .any { on:=16,ground:=.data }=true→vs 16=.agg S.C)∧(Region.binds .any { on:=12,ground:=.chain }=true→vs 12=.int .u64 (dg:Nat))∧(Region.binds .any { on:=10,ground:=.guard }=true→vs 10=.bool false)∧True:=hd
     have h16:vs 16=.agg S.C:=hx.1 rfl
     have h10:vs 10=.bool false:=hx.2.2.1 rfl
     clear hx
     try clear hd
     dsimp only
     rw [show vs 16=_ from h16,show vs 10=_ from h10]
     go_wp2_with(go_at_call 53;refine(CD2.out y).mono ?_;rintro e z ⟨rfl,gz⟩)
     exact⟨rfl,_,rfl,gz,rfl⟩
    ·intro vs y hg hd
     have hx:(Region.binds .any { on:=12,ground:=.data }=true→vs 12=.int .u64 (dg:Nat))∧(Region.binds .any { on:=17,ground:=.data }=true→vs 17=.int .u64 (dg:Nat))∧(Region.binds .any { on:=10,ground:=.guard }=true→vs 10=.bool false)∧True:=hd
     have h12:vs 12=.int .u64 (dg:Nat):=hx.1 rfl
     have h17:vs 17=.int .u64 (dg:Nat):=hx.2.1 rfl
     have h10:vs 10=.bool false:=hx.2.2.1 rfl
     clear hx
     try clear hd
     dsimp only
     rw [show vs 12=_ from h12,show vs 17=_ from h17,show vs 10=_ from h10]
     go_wp2_with fail
     exact⟨rfl,_,rfl,zc _,by simp⟩
    ·intro vs y hg hd
     obtain⟨h10,h18,_⟩:=hd
     replace h10:=h10 rfl
     replace h18:=h18 rfl
     try clear hd
     dsimp only
     rw [show vs 10=_ from h10,show vs 18=_ from h18]
     go_wp2_with fail
     exact⟨rfl,_,rfl,zc _,rfl⟩
    ·intro vs y hg hd
     obtain⟨h19,_⟩:=hd
     replace h19:=h19 rfl
     try clear hd
     dsimp only
     rw [show vs 19=_ from h19]
     go_wp2_with fail
     exact⟨rfl,_,rfl,zc _,rfl⟩
    ·intro vs y hg hd
     have hx:(Region.binds .any { on:=20,ground:=.guard }=true→vs 20=.bool false)∧True:=hd
     have h20:vs 20=.bool false:=hx.1 rfl
     clear hx
     try clear hd
     dsimp only
     rw [show vs 20=_ from h20]
     have hm:=HZT.out y hg
     go_wp2_with(refine zw (by rfl) 111 (.tmp 9) rfl qt 0 rfl tc.toList _ hm hun rfl STL.out ?_;simp only [Array.toArray_toList])
     exact⟨rfl,_,rfl,zc _,rfl⟩
    ·intro vs y hg hd
     have hx:(Region.binds .any { on:=21,ground:=.data }=true→vs 21=.agg tc)∧(Region.binds .any { on:=20,ground:=.chain }=true→vs 20=.bool false)∧(Region.binds .any { on:=20,ground:=.guard }=true→vs 20=.bool false)∧True:=hd
     have h21:vs 21=.agg tc:=hx.1 rfl
     have h20:vs 20=.bool false:=hx.2.2.1 rfl
     clear hx
     try clear hd
     dsimp only
     rw [show vs 21=_ from h21,show vs 20=_ from h20]
     go_wp2_with(go_at_call 54;refine(CW1.out y hg).mono ?_;rintro e z ⟨rfl,gz⟩)
     exact⟨rfl,_,rfl,gz,rfl⟩
    ·intro vs y hg hd
     have hx:(Region.binds .any { on:=20,ground:=.guard }=true→vs 20=.bool false)∧True:=hd
     have h20:vs 20=.bool false:=hx.1 rfl
     clear hx
     try clear hd
     dsimp only
     rw [show vs 20=_ from h20]
     go_wp2_with fail
     exact⟨rfl,_,rfl,zc _,rfl⟩
    ·intro vs y hg hd
     have hx:(Region.binds .any { on:=20,ground:=.guard }=true→vs 20=.bool false)∧True:=hd
     have h20:vs 20=.bool false:=hx.1 rfl
     clear hx
     try clear hd
     dsimp only
     rw [show vs 20=_ from h20]
     go_wp2_with fail
     exact⟨rfl,_,rfl,zc _,rfl⟩
    ·intro vs y hg hd
     have hx:(Region.binds .any { on:=23,ground:=.data }=true→vs 23=.slice (some ad) L.length cap)∧(Region.binds .any { on:=24,ground:=.data }=true→vs 24=.int .i64 (i:Int))∧(Region.binds .any { on:=20,ground:=.guard }=true→vs 20=.bool false)∧True:=hd
     have h23:vs 23=.slice (some ad) L.length cap:=hx.1 rfl
     have h24:vs 24=.int .i64 (i:Int):=hx.2.1 rfl
     have h20:vs 20=.bool false:=hx.2.2.1 rfl
     clear hx
     try clear hd
     dsimp only
     rw [show vs 23=_ from h23,show vs 24=_ from h24,show vs 20=_ from h20]
     go_wp2_with fail
     exact⟨rfl,_,rfl,zc _,rfl⟩
    ·intro vs y hg hd
     have hx:(Region.binds .any { on:=25,ground:=.data }=true→vs 25=.pointer (some (ad.add (i*26))))∧(Region.binds .any { on:=20,ground:=.guard }=true→vs 20=.bool false)∧True:=hd
     have h25:vs 25=.pointer (some (ad.add (i*26))):=hx.1 rfl
     have h20:vs 20=.bool false:=hx.2.1 rfl
     clear hx
     try clear hd
     dsimp only
     rw [show vs 25=_ from h25,show vs 20=_ from h20]
     have hm:=HRYr.out y hg
     go_wp2_with(refine xl (by rfl) 109 (.tmp 68) rfl (ad.add (i*26)) rfl S.C.toList _ hm hus rfl SIS.out ?_;simp only [Array.toArray_toList])
     exact⟨rfl,_,rfl,zc _,rfl⟩
    ·intro vs y hg hd
     have hx:(Region.binds .any { on:=26,ground:=.data }=true→vs 26=.agg S.C)∧(Region.binds .any { on:=22,ground:=.chain }=true→vs 22=.string tw)∧(Region.binds .any { on:=20,ground:=.guard }=true→vs 20=.bool false)∧True:=hd
     have h26:vs 26=.agg S.C:=hx.1 rfl
     have h20:vs 20=.bool false:=hx.2.2.1 rfl
     clear hx
     try clear hd
     dsimp only
     rw [show vs 26=_ from h26,show vs 20=_ from h20]
     go_wp2_with(go_at_call 55;refine(CW2.out y).mono ?_;rintro e z ⟨rfl,gz⟩)
     exact⟨rfl,_,rfl,gz,rfl⟩
    ·intro vs y hg hd
     have hx:(Region.binds .any { on:=22,ground:=.data }=true→vs 22=.string tw)∧(Region.binds .any { on:=27,ground:=.data }=true→vs 27=.string tw)∧(Region.binds .any { on:=20,ground:=.guard }=true→vs 20=.bool false)∧True:=hd
     have h22:vs 22=.string tw:=hx.1 rfl
     have h27:vs 27=.string tw:=hx.2.1 rfl
     have h20:vs 20=.bool false:=hx.2.2.1 rfl
     clear hx
     try clear hd
     dsimp only
     rw [show vs 22=_ from h22,show vs 27=_ from h27,show vs 20=_ from h20]
     go_wp2_with fail
     exact⟨rfl,_,rfl,zc _,rfl⟩
   ·intro vs wA hg hJ
    have j0:vs 0=.agg kc:=hJ 0 (by decide)
    have j1:vs 1=.agg tc:=hJ 1 (by decide)
    have j2:vs 2=.int .i64 sv:=hJ 2 (by decide)
    have j3:vs 3=.agg K.C:=hJ 3 (by decide)
    have j4:vs 4=.slice (some ad) L.length cap:=hJ 4 (by decide)
    have j5:vs 5=.int .i64 (i:Int):=hJ 5 (by decide)
    have j6:vs 6=.pointer (some (ad.add (i*26))):=hJ 6 (by decide)
    have j7:vs 7=.agg S.C:=hJ 7 (by decide)
    have j8:vs 8=.int .i64 sv:=hJ 8 (by decide)
    have j9:vs 9=.bool false:=hJ 9 (by decide)
    have j10:vs 10=.bool false:=hJ 10 (by decide)
    have j11:vs 11=.agg tc:=hJ 11 (by decide)
    have j12:vs 12=.int .u64 (dg:Nat):=hJ 12 (by decide)
    have j13:vs 13=.slice (some ad) L.length cap:=hJ 13 (by decide)
    have j14:vs 14=.int .i64 (i:Int):=hJ 14 (by decide)
    have j15:vs 15=.pointer (some (ad.add (i*26))):=hJ 15 (by decide)
    have j16:vs 16=.agg S.C:=hJ 16 (by decide)
    have j17:vs 17=.int .u64 (dg:Nat):=hJ 17 (by decide)
    have j18:vs 18=.bool false:=hJ 18 (by decide)
    have j19:vs 19=.bool false:=hJ 19 (by decide)
    have j20:vs 20=.bool false:=hJ 20 (by decide)
    have j21:vs 21=.agg tc:=hJ 21 (by decide)
    have j22:vs 22=.string tw:=hJ 22 (by decide)
    have j23:vs 23=.slice (some ad) L.length cap:=hJ 23 (by decide)
    have j24:vs 24=.int .i64 (i:Int):=hJ 24 (by decide)
    have j25:vs 25=.pointer (some (ad.add (i*26))):=hJ 25 (by decide)
    have j26:vs 26=.agg S.C:=hJ 26 (by decide)
    have j27:vs 27=.string tw:=hJ 27 (by decide)
    have j28:vs 28=.bool false:=hJ 28 (by decide)
    clear hJ
    simp only [actOf,tk1,tk0,dr1,dr0,Act.put,si1,st1,st0,Nat.reduceAdd]
    rw [show vs 20=_ from j20,show vs 28=_ from j28]
    have HGA:=hQ9 hg
    clear hg
    try clear j0
    try clear j1
    try clear j2
    try clear j3
    try clear j4
    try clear j5
    try clear j6
    try clear j7
    try clear j8
    try clear j9
    try clear j10
    try clear j11
    try clear j12
    try clear j13
    try clear j14
    try clear j15
    try clear j16
    try clear j17
    try clear j18
    try clear j19
    try clear j20
    try clear j21
    try clear j22
    try clear j23
    try clear j24
    try clear j25
    try clear j26
    try clear j27
    try clear j28
    go_wp2_with fail
    go_roundw
    case rel=>exact⟨i+1,by have:=HI.out;omega,by go_num,HFN2,GZ.out _ HGA.out⟩
    case measure=>have:=HI.out;simp [Go.RowKit.intOf]<;>omega
  obtain rfl:i=L.length:=by omega
  rw [List.take_length]at HFW
  clear hlt hi
  have HZKr:Hid (∀ y,Grew wr y→y.rangeAt qk 0 kc.toList):=hQ9 (fun y g=>HZK.out y (ze HGJ.out g))
  have HM1r:Hid (∀ y,Grew wr y→y.rangeAt w.heap.size 0 K.C.toList):=hQ9 (fun y g=>HM1.out y (ze HGJ.out g))
  have HRKr:Hid (∀ y,Grew wr y→(⟨K.f,K.R,RA,Rc,K.h⟩:KP).at y):=hQ9 (fun y g=>HRK.out y (ze HGJ.out g))
  have HSYr:Hid (∀ y,Grew wr y→Std y):=hQ9 (fun y g=>HSY.out y (ze HGJ.out g))
  have HNG:Hid (∀ y,Grew wr y→NwsG y A L):=hQ9 (fun y g=>⟨HVG.out y (ze HGJ.out g),fun S hS=>((HVW.out y (ze HGJ.out g) S hS).few (HFW.out S hS)).1,fun S hS=>((HVW.out y (ze HGJ.out g) S hS).few (HFW.out S hS)).2⟩)
  have HH10:Hid (∀ S∈L,S.H.length≤100):=hQ9 (fun S hS=>by
   have h:=HFW.out S hS
   have hw:=HRW.out S hS
   unfold fewN at h
   simp only [Bool.and_eq_true,decide_eq_true_eq]at h
   have:=(zd8 h.1 hw.rd hw.vok hw.vat).2
   omega)
  have HKGr:Hid (∀ y,Grew wr y→K.at y):=hQ9 (fun y g=>HKG.out y (ze HGJ.out g))
  have HGWr:=hQ9 (ze HGW.out gj)
  clear HZK HM1 HRK HSY HVG HVW HKG HGW HGJ gj HFW HRW HRd HLM
  obtain⟨ga0,hga0⟩:∃ m,brR K u L=m:=⟨_,rfl⟩
  obtain⟨mu,md,LE,er⟩:=ga0
  have HGA:=hQ9 hga0
  have HLE:Hid (LE.length≤100):=hQ9 (by
   have h:=zlj (K:=K) (u:=u) HH10.out
   rw [hga0]at h
   exact h)
  have CTA:Hid (∀ W,Grew wr W→Calls Tryz.prog 57 #[.slice A L.length cap] W fun e w'=>(∃ B k M,e=.returned (.slice B L.length k)∧MvN L M∧Nws w' B M)∧Grew W w'):=hQ9 (fun W g=>zfj A cap L (by have:=HL10.out;omega) W (HNG.out W g))
  have CM:Hid (∀ B k ML,MvN L ML→∀ W,Grew wr W→Nws W B ML→Calls Tryz.prog 56 #[.agg kc,.int .i64 u,.slice B L.length k] W fun e w'=>(∃ B j N,e=.returned (.tuple #[.agg (vqC mu md B LE.length j),.int .i64 er])∧MvV LE N∧Vps w' B N∧(∀ ad,B=some ad→N=[]∨(W.heap.size≤ad.block∧ad.block<w'.heap.size))∧(∀ S∈N,∀ ad,S.A=some ad→S.l=[]∨W.heap.size≤ad.block))∧Grew W w'):=hQ9 (fun B k ML hm W g h3=>by
   have:=zjs hK'.out u B k ML (by rw [hm.len];have:=HL10.out;omega) W (HSYr.out W g) (HRKr.out W g) h3
   rw [hm.len]at this
   obtain⟨m1,m2,m3,m4⟩:=brR_mv hK'.out (u:=u) hm
   have me:brR (⟨K.f,K.R,RA,Rc,K.h⟩:KP) u L=(mu,md,LE,er):=by
    rw [←HGA.out]
    exact brR_K (K:=K) (K':=⟨K.f,K.R,RA,Rc,K.h⟩) rfl rfl rfl u L
   rw [me]at m1 m2 m3 m4
   rw [m1,m2,m4,m3.len,show(⟨K.f,K.R,RA,Rc,K.h⟩:KP).C=kc from HKC.out]at this
   refine this.mono ?_
   rintro e w' ⟨⟨B',j',N',h1,h2,h3,h4,h5⟩,gg⟩
   exact⟨⟨B',j',N',h1,za8 m3 h2,h3,h4,h5⟩,gg⟩)
  clear hga0
  go_upto_region 14 with fail
  refine xP 9 10 (fun ix9=>match ix9 with
   | 0=>fun v=>v=.agg kc
   | 1=>fun v=>v=.int .i64 u
   | 2=>fun v=>v=.slice A L.length cap
   | 3=>fun v=>∃ B n,v=.slice B L.length n
   | 4=>fun _=>True
   | 5=>fun v=>∃ B j,v=.tuple #[.agg (vqC mu md B LE.length j),.int .i64 er]
   | 6=>fun _=>True
   | 7=>fun v=>v=.int .i64 er
   | 8=>fun _=>True
   | 9=>fun _=>True
   | _=>fun _=>True) (fun ix9=>match ix9 with
   | 0=>fun v _=>v=.agg kc
   | 1=>fun v _=>v=.int .i64 u
   | 2=>fun v _=>v=.slice A L.length cap
   | 3=>fun v W=>OfN L W v (fun B n=>.slice B L.length n)
   | 4=>fun _ _=>True
   | 5=>fun v _=>∃ B j,v=.tuple #[.agg (vqC mu md B LE.length j),.int .i64 er]
   | 6=>fun _ _=>True
   | 7=>fun v _=>v=.int .i64 er
   | 8=>fun _ _=>True
   | 9=>fun _ _=>True
   | _=>fun _ _=>True) (fun ix9=>match ix9 with
   | 4=>fun lo hi v w=>VgM w wr.heap.size LE lo hi v (fun B j=>.tuple #[.agg (vqC mu md B LE.length j),.int .i64 er])
   | 5=>fun lo hi v w=>VgM w wr.heap.size LE lo hi v (fun B j=>.tuple #[.agg (vqC mu md B LE.length j),.int .i64 er])
   | 6=>fun lo hi v w=>VgM w wr.heap.size LE lo hi v (fun B j=>.agg (vqC mu md B LE.length j))
   | 8=>fun lo hi v w=>AgZ w wr.heap.size lo hi (#[.int .i64 0,.int .u64 0,.slice none 0 0]:Array Value).toList v
   | _=>fun _ _ _ _=>True) (fun ix9=>match ix9 with
   | 5=>4
   | 6=>5
   | ix8=>ix8) (fun ix9=>match ix9 with
   | 5=>4
   | 6=>4
   | ix8=>ix8) (fun ix9=>match ix9 with
   | 7=>true
   | _=>false) 8 (fun v W=>VgF wr mu md LE v W) rfl (by kernel_rfl) (by kernel_rfl) (by kernel_rfl) (by kernel_rfl) rfl rfl (by decide) (fun _=>trivial) ?_ ?_ ?_ ?_ ?_ ?_ (fun o ho=>by cases ho;rfl) (fun v x y h hg=>VgF.gr h hg) ?_
  ·intro i v y h
   match i,h with
   | 0,h | 1,h | 2,h | 7,h=>exact h
   | 3,h=>exact(OfN.out h).imp fun A hA=>hA.imp fun k hk=>hk.elim fun M hM=>hM.1
   | 4,_=>trivial
   | 5,h=>exact h
   | 6,_=>trivial
   | 8,_=>trivial
   | 9,h=>exact h
   | m+10,_=>trivial
  ·intro i v x y h hg
   match i,h with
   | 0,h | 1,h | 2,h | 7,h=>exact h
   | 3,h=>exact OfN.gr h hg
   | 4,_=>trivial
   | 5,h=>exact h
   | 6,_=>trivial
   | 8,_=>trivial
   | 9,h=>exact h
   | m+10,_=>trivial
  ·simp only [actOf,tk1,tk0,dr1,dr0,Act.put,si1,st1,st0,Nat.reduceAdd]
   refine⟨?_,?_,?_,?_,?_,?_,?_,?_,?_,trivial⟩
   ·intro vs lo hi y hg hd hvia
    replace hg:Grew wr y:=hg
    clear hvia
    dsimp only
    have hm:=HZKr.out y hg
    go_wp2_with(with_reducible refine wpList_load_mid rfl 49 (.tmp 7) rfl qk 0 rfl kc.toList _ hm hukt rfl HSKL.out ?_;simp only [Array.toArray_toList])
    first | exact⟨rfl,_,rfl,zc _,rfl⟩ | exact⟨rfl,_,rfl,zc _,rfl,trivial⟩
   ·intro vs lo hi y hg hd hvia
    replace hg:Grew wr y:=hg
    clear hvia
    dsimp only
    go_wp2_with fail
    first | exact⟨rfl,_,rfl,zc _,rfl⟩ | exact⟨rfl,_,rfl,zc _,rfl,trivial⟩
   ·intro vs lo hi y hg hd hvia
    replace hg:Grew wr y:=hg
    clear hvia
    dsimp only
    go_wp2_with fail
    first | exact⟨rfl,_,rfl,zc _,rfl⟩ | exact⟨rfl,_,rfl,zc _,rfl,trivial⟩
   ·intro vs lo hi y hg hd hvia
    replace hg:Grew wr y:=hg
    obtain⟨h2,_⟩:=hd
    replace h2:=h2 rfl
    clear hvia
    dsimp only
    rw [show vs 2=_ from h2]
    go_wp2_with(go_at_call 57;refine(CTA.out y hg).mono ?_;rintro e z ⟨⟨B9,k9,M9,rfl,hmv9,hsp9⟩,gz⟩)
    exact⟨rfl,_,rfl,gz,⟨B9,k9,M9,rfl,hmv9,hsp9⟩,trivial⟩
   ·intro vs lo hi y hg hd hvia
    replace hg:Grew wr y:=hg
    obtain⟨h0,h1,h3,_⟩:=hd
    replace h0:=h0 rfl
    replace h1:=h1 rfl
    replace h3:=h3 rfl
    clear hvia
    dsimp only
    rw [show vs 0=_ from h0,show vs 1=_ from h1]
    obtain⟨B6,k6,M6,e6,hmv6,hsp6⟩:=OfN.out h3
    rw [e6]
    go_wp2_with(go_at_call 56;refine(CM.out B6 k6 M6 hmv6 y hg hsp6).mono ?_;rintro e z ⟨⟨B9,j9,N9,rfl,hmn9,han9,hf3,hf4⟩,gz⟩)
    exact⟨rfl,_,rfl,gz,trivial,⟨B9,j9,N9,rfl,hmn9,han9,hg.size,hf3,fun S hS ad h=>by
     rcases hf4 S hS ad h with h1 | h1
     ·exact .inl h1
     ·exact(zR (han9.at_ S hS) ad h).imp id (fun h2=>⟨h1,h2⟩)⟩⟩
   ·intro vs lo hi y hg hd hvia
    replace hg:Grew wr y:=hg
    obtain⟨h4,_⟩:=hd
    replace h4:=h4 rfl
    have hv9:(fun lo hi v w=>VgM w wr.heap.size LE lo hi v (fun B j=>.tuple #[.agg (vqC mu md B LE.length j),.int .i64 er])) (lo 4) (hi 4) (vs 4) y:=hvia rfl
    clear hvia
    dsimp only
    obtain⟨B9,j9,N9,e9,hr9⟩:=VgM.out hv9
    rw [e9]
    go_wp2_with fail
    exact⟨rfl,_,rfl,zc _,⟨B9,j9,rfl⟩,⟨B9,j9,N9,rfl,hr9⟩⟩
   ·intro vs lo hi y hg hd hvia
    replace hg:Grew wr y:=hg
    obtain⟨h5,_⟩:=hd
    replace h5:=h5 rfl
    have hv9:(fun lo hi v w=>VgM w wr.heap.size LE lo hi v (fun B j=>.tuple #[.agg (vqC mu md B LE.length j),.int .i64 er])) (lo 5) (hi 5) (vs 5) y:=hvia rfl
    clear hvia
    dsimp only
    obtain⟨B9,j9,N9,e9,hr9⟩:=VgM.out hv9
    rw [e9]
    go_wp2_with fail
    exact⟨rfl,_,rfl,zc _,⟨B9,j9,N9,rfl,hr9⟩⟩
   ·intro vs lo hi y hg hd hvia
    replace hg:Grew wr y:=hg
    obtain⟨h5,_⟩:=hd
    replace h5:=h5 rfl
    clear hvia
    dsimp only
    obtain⟨B9,j9,e9⟩:=h5
    rw [e9]
    go_wp2_with fail
    first | exact⟨rfl,_,rfl,zc _,rfl⟩ | exact⟨rfl,_,rfl,zc _,rfl,trivial⟩
   ·intro vs lo hi y hg hd hvia
    replace hg:Grew wr y:=hg
    clear hvia
    dsimp only
    go_wp2_with fail
    exact⟨rfl,_,rfl,zg (zc _) _,⟨y.heap.size,rfl,Ag.new y 38 (#[.int .i64 0,.int .u64 0,.slice none 0 0]:Array Value),hg.size,Nat.le_refl _,by show y.heap.size<(y.alloc _).heap.size;simp⟩⟩
  ·refine⟨(fun h=>absurd h (by decide)),(fun h=>absurd h (by decide)),(fun h=>absurd h (by decide)),(fun h=>absurd h (by decide)),(fun h=>absurd h (by decide)),(fun h=>absurd h (by decide)),(fun h=>absurd h (by decide)),?_,(fun h=>absurd h (by decide)),(fun h=>absurd h (by decide)),trivial⟩
   ·intro _ vs y hd
    obtain⟨h5,_⟩:=hd
    replace h5:=h5 rfl
    simp only [actOf,tk1,tk0,dr1,dr0,Act.put,si1,st1,st0,Nat.reduceAdd]
    obtain⟨B9,j9,e9⟩:=h5
    rw [e9]
    go_wp2_with fail
    first | exact⟨rfl,_,rfl,zc _,rfl⟩ | exact⟨rfl,_,rfl,zc _,rfl,trivial⟩
  ·intro i lo hi v x y h hg
   match i,h with
   | 4,h=>exact VgM.gr h hg
   | 5,h=>exact VgM.gr h hg
   | 6,h=>exact VgM.gr h hg
   | 8,h=>exact AgZ.gr h hg
   | 0,_=>trivial
   | 1,_=>trivial
   | 2,_=>trivial
   | 3,_=>trivial
   | 7,_=>trivial
   | m+9,_=>trivial
  ·intro vs lo hi y hg hJ hK hB hD
   replace hg:Grew wr y:=hg
   have k78:=hK 4 (by decide) rfl
   have b78:=hB 4 (by decide) rfl
   have k73:=hK 5 (by decide) rfl
   have b73:=hB 5 (by decide) rfl
   have k79:=hK 6 (by decide) rfl
   have b79:=hB 6 (by decide) rfl
   have k10:=hK 8 (by decide) rfl
   have b10:=hB 8 (by decide) rfl
   have d78_10:=hD 4 (by decide) rfl 8 (by decide) rfl (by decide)
   have d73_10:=hD 5 (by decide) rfl 8 (by decide) rfl (by decide)
   have d79_10:=hD 6 (by decide) rfl 8 (by decide) rfl (by decide)
   clear hK hB hD
   have j0:vs 0=.agg kc:=hJ 0 (by decide) rfl
   have j1:vs 1=.int .i64 u:=hJ 1 (by decide) rfl
   have j2:vs 2=.slice A L.length cap:=hJ 2 (by decide) rfl
   clear hJ
   simp only [actOf,tk1,tk0,dr1,dr0,Act.put,si1,st1,st0,Nat.reduceAdd]
   obtain⟨B7,j7c,N7,e56,hmn7,han7,hb7,hrD,hrN⟩:=VgM.out k79
   obtain⟨q,e7,zq,hBq,hql,hqh⟩:=AgZ.out k10
   rw [e56,e7]
   have HTH:Hid (y.there q 0 (vqC mu md B7 LE.length j7c).size):=hQ9 (zq.thereN 3 rfl)
   have HSI:Hid ((Tryz.prog.info? 38).map (·.size)=some (vqC mu md B7 LE.length j7c).size):=hQ9 zP
   have HON:=hQ9 (yo mu md B7 LE.length j7c)
   have z4:=Ag.set (vs:=(vqC mu md B7 LE.length j7c).toList) zq rfl
   have k4:=zn (vqC mu md B7 LE.length j7c).toList q 0 y
   have han8:=han7.kpy k4 (fun ad h=>(hrD ad h).imp id (fun h1 e=>by have e:ad.block=q:=e;rcases d79_10 with h2 | h2<;>omega)) (fun S hS ad h=>(hrN S hS ad h).imp id (fun h1 e=>by have e:ad.block=q:=e;rcases d79_10 with h2 | h2<;>omega))
   have HF:Hid (VgF wr mu md LE (.pointer (some ⟨q,0,none⟩)) (y.setCells q 0 (vqC mu md B7 LE.length j7c).toList)):=hQ9 ⟨B7,j7c,N7,q,rfl,z4,hmn7,han8,by omega,zi (o:=0) (b:=q) _ hg (by omega)⟩
   clear hg z4 k4 zq han7 han8 hmn7
   generalize vqC mu md B7 LE.length j7c=gs' at *
   go_wp2_with(with_reducible refine wpList_store_mid rfl 38 (.tmp 10) (.tmp 79) rfl q 0 gs' rfl rfl HTH.out HSI.out HON.out ?_)
   exact HF.out
  ·intro vs w7 hF hJ
   have j0:vs 0=.agg kc:=hJ 0 (by decide)
   have j1:vs 1=.int .i64 u:=hJ 1 (by decide)
   have j2:vs 2=.slice A L.length cap:=hJ 2 (by decide)
   have j7:vs 7=.int .i64 er:=hJ 7 (by decide)
   clear hJ
   simp only [actOf,tk1,tk0,dr1,dr0,Act.put,si1,st1,st0,Nat.reduceAdd]
   obtain⟨B7,j7c,N7,q10,e7,z7,hmn7,han7,hq7,g6⟩:=VgF.out hF
   rw [e7,show vs 7=_ from j7]
   have HG6:=hQ9 g6
   have HMN7:=hQ9 hmn7
   have CMR:Hid (∀ W,Grew wr W→Calls Tryz.prog 58 #[.agg K.C,.int .i64 u,.slice A L.length cap] W fun e w'=>(∃ D j,e=.returned (.tuple #[.agg (vqC mu md D LE.length j),.int .i64 er])∧VpsG w' D LE)∧Grew W w'):=hQ9 (fun W g=>by
    have:=zlk HK.out u A cap L (by have:=HL10.out;omega) W (HSYr.out W g) (HKGr.out W g) (HNG.out W g)
    rw [HGA.out]at this
    exact this)
   have hmA:=HM1r.out w7 g6
   clear hF e7 hmn7 hq7
   try clear j0
   try clear j1
   try clear j2
   try clear j3
   try clear j7
   go_wp2_with(with_reducible refine wpList_load_mid rfl 24 (.tmp 3) rfl w.heap.size 0 rfl K.C.toList _ hmA huk rfl SIK.out ?_;simp only [Array.toArray_toList])
   clear hmA
   refine(CMR.out w7 g6).mono ?_
   rintro e w8 ⟨⟨D8,j8c,rfl,han8⟩,g7⟩
   clear CMR
   obtain⟨w9,hw9,ht9,g8,z8⟩:=zW w8 28 (#[.int .i64 0,.int .u64 0,.slice none 0 0]:Array Value) (vqC mu md D8 LE.length j8c) rfl
   have HW8:=hQ9 hw9
   have HT8:=hQ9 ht9
   have SI8:Hid ((Tryz.prog.info? 28).map (·.size)=some (vqC mu md D8 LE.length j8c).size):=hQ9 yp
   have HO8:=hQ9 (yo mu md D8 LE.length j8c)
   have G68:=ze g7 g8
   have G58:=ze g6 G68
   have HG58:=hQ9 G58
   obtain⟨g1,hg1⟩:∃ g,vqC mu md B7 LE.length j7c=g:=⟨_,rfl⟩
   obtain⟨g2,hg2⟩:∃ g,vqC mu md D8 LE.length j8c=g:=⟨_,rfl⟩
   have HG1:=hQ9 hg1
   have HG2:=hQ9 hg2
   have HSP7:Hid (∀ y,Grew w9 y→Vps y B7 N7):=hQ9 (fun y g=>han7.gr (ze G68 g))
   have HSP8:Hid (∀ y,Grew w9 y→VpsG y D8 LE):=hQ9 (fun y g=>han8.gr (ze g8 g))
   have HC1:Hid (∀ y,Grew w9 y→y.rangeAt q10 0 g1.toList):=hQ9 (fun y g=>by have:=((z7.grew G68).grew g).cell;rwa [hg1]at this)
   have HC2:Hid (∀ y,Grew w9 y→y.rangeAt w8.heap.size 0 g2.toList):=hQ9 (fun y g=>by have:=(z8.grew g).cell;rwa [hg2]at this)
   have COF:Hid (∀ W,Grew w9 W→Calls Tryz.prog 34 #[.agg g1] W fun e w'=>(∃ B j N,e=.returned (.agg (vqC mu md B LE.length j))∧MvV N7 N∧VpsG w' B N)∧Grew W w'):=hQ9 (fun W g=>by
    have:=zli mu md B7 j7c N7 (by rw [HMN7.out.len];have:=HLE.out;omega) W (HSP7.out W g).G
    rw [HMN7.out.len,HG1.out]at this
    exact this)
   have CSC:Hid (∀ B k N,MvV N7 N→∀ W,Grew w9 W→VpsG W B N→Calls Tryz.prog 33 #[.agg (vqC mu md B LE.length k),.agg g2] W fun e w'=>e=.returned (.bool true)∧Grew W w'):=hQ9 (fun B k N hm W g h1=>by
    have m1:=(za8 HMN7.out hm).symm
    have:=zda mu md B D8 k j8c N LE (by rw [←m1.len];have:=HLE.out;omega) m1 W h1 (HSP8.out W g)
    rw [←m1.len,HG2.out]at this
    exact this)
   have CL1:Hid (∀ W,Calls Tryz.prog 59 #[.agg #[.int .i64 K.f],.int .i64 u] W fun e w'=>e=.returned (.int .i64 (ldV K.f u))∧Grew W w'):=hQ9 (fun W=>zfd K.f HK.out.f u W)
   have CL2:Hid (∀ W,Calls Tryz.prog 60 #[.int .i64 K.f,.int .i64 u] W fun e w'=>e=.returned (.int .i64 (ldV K.f u))∧Grew W w'):=hQ9 (fun W=>zfe K.f HK.out.f u W)
   obtain⟨ld,hld⟩:∃ l,ldV K.f u=l:=⟨_,rfl⟩
   rw [hld]at CL1 CL2
   have SL1:Hid ((Tryz.prog.info? 38).map (·.size)=some g1.toList.length):=hQ9 (by rw [←hg1];exact zP)
   have SL2:Hid ((Tryz.prog.info? 28).map (·.size)=some g2.toList.length):=hQ9 (by rw [←hg2];exact yp)
   have SCF:Hid ((Tryz.prog.info? 46).map (·.size)=some ([Value.int .i64 K.f]:List Value).length):=hQ9 (by kernel_rfl)
   have HKF:Hid (∀ y,Grew w9 y→y.cell? ⟨qk,0,none⟩=some (.int .i64 K.f)):=hQ9 (fun y g=>by
    have h:=HZKr.out y (ze HG58.out g)
    rw [←HKC.out]at h
    simpa using h 0 (.int .i64 K.f) rfl)
   have HRF:Hid (∀ y,Grew w9 y→y.cell? ⟨w.heap.size,0,none⟩=some (.int .i64 K.f)):=hQ9 (fun y g=>by simpa using HM1r.out y (ze HG58.out g) 0 (.int .i64 K.f) rfl)
   rw [hg2]at HW8 HT8 SI8 HO8
   rw [hg2]
   clear hw9 ht9 g6 g7 g8 z7 z8 han7 han8 G68 G58 hg1 hg2 hld
   go_upto_region 16 with (with_reducible refine wpList_store_mid rfl 28 (.tmp 12) (.tmp 86) rfl w8.heap.size 0 g2 rfl rfl HT8.out SI8.out HO8.out ?_;rw [HW8.out];clear HW8 HT8 SI8 HO8;generalize w8.heap.size=q12 at *)
   refine qD 20 (fun ix9=>match ix9 with
    | 0=>fun v _=>v=.int .i64 er
    | 1=>fun v _=>v=.int .i64 er
    | 2=>fun v _=>v=.bool true
    | 3=>fun v _=>v=.bool true
    | 4=>fun v _=>v=.agg g1
    | 5=>fun v W=>OfQG N7 W v (fun B j=>.agg (vqC mu md B LE.length j))
    | 6=>fun v _=>v=.agg g2
    | 7=>fun v _=>v=.bool true
    | 8=>fun v _=>v=.bool true
    | 9=>fun v _=>v=.bool true
    | 10=>fun v _=>v=.pointer (some ⟨qk,0,none⟩)
    | 11=>fun v _=>v=.agg #[.int .i64 K.f]
    | 12=>fun v _=>v=.int .i64 u
    | 13=>fun v _=>v=.int .i64 ld
    | 14=>fun v _=>v=.pointer (some ⟨w.heap.size,0,none⟩)
    | 15=>fun v _=>v=.int .i64 K.f
    | 16=>fun v _=>v=.int .i64 u
    | 17=>fun v _=>v=.int .i64 ld
    | 18=>fun v _=>v=.bool true
    | 19=>fun v _=>v=.bool true
    | _=>fun _ _=>True) (fun ix9=>match ix9 with
    | 5=>fun _ _ _ _=>True
    | _=>fun _ _ _ _=>True) (fun ix9=>match ix9 with
    | ix8=>ix8) (fun ix9=>match ix9 with
    | ix8=>ix8) (by kernel_rfl) (by kernel_rfl) (by kernel_rfl) ?_ ?_ ?_ ?_
   ·intro i v x y h hg
    match i,h with
    | 0,h | 1,h | 2,h | 3,h | 4,h | 6,h | 7,h | 8,h | 9,h | 10,h | 11,h | 12,h | 13,h | 14,h | 15,h | 16,h | 17,h | 18,h | 19,h=>exact h
    | 5,h=>exact OfQG.gr h hg
    | m+20,_=>trivial
   ·simp only [actOf,tk1,tk0,dr1,dr0,Act.put,si1,st1,st0,Nat.reduceAdd]
    refine⟨?_,?_,?_,?_,?_,?_,?_,?_,?_,?_,?_,?_,?_,?_,?_,?_,?_,?_,?_,?_,trivial⟩
    ·intro vs lo hi y hg hd hvia
     replace hg:Grew w9 y:=hg
     clear hvia
     dsimp only
     go_wp2_with fail
     first | exact⟨rfl,_,rfl,zc _,rfl⟩ | exact⟨rfl,_,rfl,zc _,rfl,trivial⟩
    ·intro vs lo hi y hg hd hvia
     replace hg:Grew w9 y:=hg
     clear hvia
     dsimp only
     go_wp2_with fail
     first | exact⟨rfl,_,rfl,zc _,rfl⟩ | exact⟨rfl,_,rfl,zc _,rfl,trivial⟩
    ·intro vs lo hi y hg hd hvia
     replace hg:Grew w9 y:=hg
     obtain⟨h0,h1,_⟩:=hd
     replace h0:=h0 rfl
     replace h1:=h1 rfl
     clear hvia
     dsimp only
     rw [show vs 0=_ from h0,show vs 1=_ from h1]
     go_wp2_with fail
     first | exact⟨rfl,_,rfl,zc _,by simp⟩ | exact⟨rfl,_,rfl,zc _,by simp,trivial⟩
    ·intro vs lo hi y hg hd hvia
     replace hg:Grew w9 y:=hg
     obtain⟨h2,_⟩:=hd
     replace h2:=h2 rfl
     clear hvia
     dsimp only
     rw [show vs 2=_ from h2]
     go_wp2_with fail
     first | exact⟨rfl,_,rfl,zc _,rfl⟩ | exact⟨rfl,_,rfl,zc _,rfl,trivial⟩
    ·intro vs lo hi y hg hd hvia
     replace hg:Grew w9 y:=hg
     have hx9:(Region.binds .any { on:=3,ground:=.guard }=true→vs 3=.bool true)∧True:=hd
     have h3:vs 3=.bool true:=hx9.1 rfl
     clear hx9 hd
     clear hvia
     dsimp only
     rw [show vs 3=_ from h3]
     have hm:=HC1.out y hg
     go_wp2_with(refine zw (by rfl) 38 (.tmp 10) rfl q10 0 rfl g1.toList _ hm hut rfl SL1.out ?_;simp only [Array.toArray_toList])
     first | exact⟨rfl,_,rfl,zc _,rfl⟩ | exact⟨rfl,_,rfl,zc _,rfl,trivial⟩
    ·intro vs lo hi y hg hd hvia
     replace hg:Grew w9 y:=hg
     have hx9:(Region.binds .any { on:=4,ground:=.data }=true→vs 4=.agg g1)∧(Region.binds .any { on:=3,ground:=.chain }=true→vs 3=.bool true)∧(Region.binds .any { on:=3,ground:=.guard }=true→vs 3=.bool true)∧True:=hd
     have h4:vs 4=.agg g1:=hx9.1 rfl
     have h3:vs 3=.bool true:=hx9.2.2.1 rfl
     clear hx9 hd
     clear hvia
     dsimp only
     rw [show vs 4=_ from h4,show vs 3=_ from h3]
     go_wp2_with(go_at_call 34;refine(COF.out y hg).mono ?_;rintro e z ⟨⟨B9,j9,N9,rfl,hmv9,hsp9⟩,gz⟩)
     exact⟨rfl,_,rfl,gz,⟨B9,j9,N9,rfl,hmv9,hsp9⟩,trivial⟩
    ·intro vs lo hi y hg hd hvia
     replace hg:Grew w9 y:=hg
     have hx9:(Region.binds .any { on:=3,ground:=.guard }=true→vs 3=.bool true)∧True:=hd
     have h3:vs 3=.bool true:=hx9.1 rfl
     clear hx9 hd
     clear hvia
     dsimp only
     rw [show vs 3=_ from h3]
     have hm:=HC2.out y hg
     go_wp2_with(refine zw (by rfl) 28 (.tmp 12) rfl q12 0 rfl g2.toList _ hm hur rfl SL2.out ?_;simp only [Array.toArray_toList])
     first | exact⟨rfl,_,rfl,zc _,rfl⟩ | exact⟨rfl,_,rfl,zc _,rfl,trivial⟩
    ·intro vs lo hi y hg hd hvia
     replace hg:Grew w9 y:=hg
     have hx9:(Region.binds .any { on:=5,ground:=.data }=true→(fun v W=>OfQG N7 W v (fun B j=>.agg (vqC mu md B LE.length j))) (vs 5) y)∧(Region.binds .any { on:=6,ground:=.data }=true→vs 6=.agg g2)∧(Region.binds .any { on:=5,ground:=.chain }=true→(fun v W=>OfQG N7 W v (fun B j=>.agg (vqC mu md B LE.length j))) (vs 5) y)∧(Region.binds .any { on:=3,ground:=.guard }=true→vs 3=.bool true)∧True:=hd
     have h5:(fun v W=>OfQG N7 W v (fun B j=>.agg (vqC mu md B LE.length j))) (vs 5) y:=hx9.1 rfl
     have h6:vs 6=.agg g2:=hx9.2.1 rfl
     have h3:vs 3=.bool true:=hx9.2.2.2.1 rfl
     clear hx9 hd
     clear hvia
     dsimp only
     rw [show vs 6=_ from h6,show vs 3=_ from h3]
     obtain⟨B9,j9,N9,e9,hmv9,hsp9⟩:=OfQG.out h5
     rw [e9]
     go_wp2_with(go_at_call 33;refine(CSC.out B9 j9 N9 hmv9 y hg hsp9).mono ?_;rintro e z ⟨rfl,gz⟩)
     first | exact⟨rfl,_,rfl,gz,rfl⟩ | exact⟨rfl,_,rfl,gz,rfl,trivial⟩
    ·intro vs lo hi y hg hd hvia
     replace hg:Grew w9 y:=hg
     obtain⟨h3,h7,_⟩:=hd
     replace h3:=h3 rfl
     replace h7:=h7 rfl
     clear hvia
     dsimp only
     rw [show vs 3=_ from h3,show vs 7=_ from h7]
     go_wp2_with fail
     first | exact⟨rfl,_,rfl,zc _,rfl⟩ | exact⟨rfl,_,rfl,zc _,rfl,trivial⟩
    ·intro vs lo hi y hg hd hvia
     replace hg:Grew w9 y:=hg
     obtain⟨h8,_⟩:=hd
     replace h8:=h8 rfl
     clear hvia
     dsimp only
     rw [show vs 8=_ from h8]
     go_wp2_with fail
     first | exact⟨rfl,_,rfl,zc _,rfl⟩ | exact⟨rfl,_,rfl,zc _,rfl,trivial⟩
    ·intro vs lo hi y hg hd hvia
     replace hg:Grew w9 y:=hg
     have hx9:(Region.binds .any { on:=9,ground:=.guard }=true→vs 9=.bool true)∧True:=hd
     have h9:vs 9=.bool true:=hx9.1 rfl
     clear hx9 hd
     clear hvia
     dsimp only
     rw [show vs 9=_ from h9]
     go_wp2_with fail
     first | exact⟨rfl,_,rfl,zc _,rfl⟩ | exact⟨rfl,_,rfl,zc _,rfl,trivial⟩
    ·intro vs lo hi y hg hd hvia
     replace hg:Grew w9 y:=hg
     have hx9:(Region.binds .any { on:=10,ground:=.data }=true→vs 10=.pointer (some ⟨qk,0,none⟩))∧(Region.binds .any { on:=9,ground:=.guard }=true→vs 9=.bool true)∧True:=hd
     have h10:vs 10=.pointer (some ⟨qk,0,none⟩):=hx9.1 rfl
     have h9:vs 9=.bool true:=hx9.2.1 rfl
     clear hx9 hd
     clear hvia
     dsimp only
     rw [show vs 10=_ from h10,show vs 9=_ from h9]
     have hc:=HKF.out y hg
     go_wp2_with fail
     first | exact⟨rfl,_,rfl,zc _,rfl⟩ | exact⟨rfl,_,rfl,zc _,rfl,trivial⟩
    ·intro vs lo hi y hg hd hvia
     replace hg:Grew w9 y:=hg
     have hx9:(Region.binds .any { on:=9,ground:=.guard }=true→vs 9=.bool true)∧True:=hd
     have h9:vs 9=.bool true:=hx9.1 rfl
     clear hx9 hd
     clear hvia
     dsimp only
     rw [show vs 9=_ from h9]
     go_wp2_with fail
     first | exact⟨rfl,_,rfl,zc _,rfl⟩ | exact⟨rfl,_,rfl,zc _,rfl,trivial⟩
    ·intro vs lo hi y hg hd hvia
     replace hg:Grew w9 y:=hg
     have hx9:(Region.binds .any { on:=11,ground:=.data }=true→vs 11=.agg #[.int .i64 K.f])∧(Region.binds .any { on:=12,ground:=.data }=true→vs 12=.int .i64 u)∧(Region.binds .any { on:=9,ground:=.chain }=true→vs 9=.bool true)∧(Region.binds .any { on:=9,ground:=.guard }=true→vs 9=.bool true)∧True:=hd
     have h11:vs 11=.agg #[.int .i64 K.f]:=hx9.1 rfl
     have h12:vs 12=.int .i64 u:=hx9.2.1 rfl
     have h9:vs 9=.bool true:=hx9.2.2.2.1 rfl
     clear hx9 hd
     clear hvia
     dsimp only
     rw [show vs 11=_ from h11,show vs 12=_ from h12,show vs 9=_ from h9]
     go_wp2_with(go_at_call 59;refine(CL1.out y).mono ?_;rintro e z ⟨rfl,gz⟩)
     first | exact⟨rfl,_,rfl,gz,rfl⟩ | exact⟨rfl,_,rfl,gz,rfl,trivial⟩
    ·intro vs lo hi y hg hd hvia
     replace hg:Grew w9 y:=hg
     have hx9:(Region.binds .any { on:=9,ground:=.guard }=true→vs 9=.bool true)∧True:=hd
     have h9:vs 9=.bool true:=hx9.1 rfl
     clear hx9 hd
     clear hvia
     dsimp only
     rw [show vs 9=_ from h9]
     go_wp2_with fail
     first | exact⟨rfl,_,rfl,zc _,rfl⟩ | exact⟨rfl,_,rfl,zc _,rfl,trivial⟩
    ·intro vs lo hi y hg hd hvia
     replace hg:Grew w9 y:=hg
     have hx9:(Region.binds .any { on:=14,ground:=.data }=true→vs 14=.pointer (some ⟨w.heap.size,0,none⟩))∧(Region.binds .any { on:=9,ground:=.guard }=true→vs 9=.bool true)∧True:=hd
     have h14:vs 14=.pointer (some ⟨w.heap.size,0,none⟩):=hx9.1 rfl
     have h9:vs 9=.bool true:=hx9.2.1 rfl
     clear hx9 hd
     clear hvia
     dsimp only
     rw [show vs 14=_ from h14,show vs 9=_ from h9]
     have hc:=HRF.out y hg
     go_wp2_with fail
     first | exact⟨rfl,_,rfl,zc _,rfl⟩ | exact⟨rfl,_,rfl,zc _,rfl,trivial⟩
    ·intro vs lo hi y hg hd hvia
     replace hg:Grew w9 y:=hg
     have hx9:(Region.binds .any { on:=9,ground:=.guard }=true→vs 9=.bool true)∧True:=hd
     have h9:vs 9=.bool true:=hx9.1 rfl
     clear hx9 hd
     clear hvia
     dsimp only
     rw [show vs 9=_ from h9]
     go_wp2_with fail
     first | exact⟨rfl,_,rfl,zc _,rfl⟩ | exact⟨rfl,_,rfl,zc _,rfl,trivial⟩
    ·intro vs lo hi y hg hd hvia
     replace hg:Grew w9 y:=hg
     have hx9:(Region.binds .any { on:=15,ground:=.data }=true→vs 15=.int .i64 K.f)∧(Region.binds .any { on:=16,ground:=.data }=true→vs 16=.int .i64 u)∧(Region.binds .any { on:=13,ground:=.chain }=true→vs 13=.int .i64 ld)∧(Region.binds .any { on:=9,ground:=.guard }=true→vs 9=.bool true)∧True:=hd
     have h15:vs 15=.int .i64 K.f:=hx9.1 rfl
     have h16:vs 16=.int .i64 u:=hx9.2.1 rfl
     have h9:vs 9=.bool true:=hx9.2.2.2.1 rfl
     clear hx9 hd
     clear hvia
     dsimp only
     rw [show vs 15=_ from h15,show vs 16=_ from h16,show vs 9=_ from h9]
     go_wp2_with(go_at_call 60;refine(CL2.out y).mono ?_;rintro e z ⟨rfl,gz⟩)
     first | exact⟨rfl,_,rfl,gz,rfl⟩ | exact⟨rfl,_,rfl,gz,rfl,trivial⟩
    ·intro vs lo hi y hg hd hvia
     replace hg:Grew w9 y:=hg
     have hx9:(Region.binds .any { on:=13,ground:=.data }=true→vs 13=.int .i64 ld)∧(Region.binds .any { on:=17,ground:=.data }=true→vs 17=.int .i64 ld)∧(Region.binds .any { on:=9,ground:=.guard }=true→vs 9=.bool true)∧True:=hd
     have h13:vs 13=.int .i64 ld:=hx9.1 rfl
     have h17:vs 17=.int .i64 ld:=hx9.2.1 rfl
     have h9:vs 9=.bool true:=hx9.2.2.1 rfl
     clear hx9 hd
     clear hvia
     dsimp only
     rw [show vs 13=_ from h13,show vs 17=_ from h17,show vs 9=_ from h9]
     go_wp2_with fail
     first | exact⟨rfl,_,rfl,zc _,by simp⟩ | exact⟨rfl,_,rfl,zc _,by simp,trivial⟩
    ·intro vs lo hi y hg hd hvia
     replace hg:Grew w9 y:=hg
     obtain⟨h9,h18,_⟩:=hd
     replace h9:=h9 rfl
     replace h18:=h18 rfl
     clear hvia
     dsimp only
     rw [show vs 9=_ from h9,show vs 18=_ from h18]
     go_wp2_with fail
     first | exact⟨rfl,_,rfl,zc _,rfl⟩ | exact⟨rfl,_,rfl,zc _,rfl,trivial⟩
   ·intro i lo hi v x y h hg
    match i,h with
    | 5,_=>trivial
    | 0,_=>trivial
    | 1,_=>trivial
    | 2,_=>trivial
    | 3,_=>trivial
    | 4,_=>trivial
    | m+6,_=>trivial
   ·intro vs lo hi wA hg hJ hK hB hD
    replace hg:Grew w9 wA:=hg
    have k93:=hK 5 (by decide)
    have b93:=hB 5 (by decide)
    clear hK hB hD
    have j0:vs 0=.int .i64 er:=hJ 0 (by decide)
    have j1:vs 1=.int .i64 er:=hJ 1 (by decide)
    have j2:vs 2=.bool true:=hJ 2 (by decide)
    have j3:vs 3=.bool true:=hJ 3 (by decide)
    have j4:vs 4=.agg g1:=hJ 4 (by decide)
    have j6:vs 6=.agg g2:=hJ 6 (by decide)
    have j7:vs 7=.bool true:=hJ 7 (by decide)
    have j8:vs 8=.bool true:=hJ 8 (by decide)
    have j9:vs 9=.bool true:=hJ 9 (by decide)
    have j10:vs 10=.pointer (some ⟨qk,0,none⟩):=hJ 10 (by decide)
    have j11:vs 11=.agg #[.int .i64 K.f]:=hJ 11 (by decide)
    have j12:vs 12=.int .i64 u:=hJ 12 (by decide)
    have j13:vs 13=.int .i64 ld:=hJ 13 (by decide)
    have j14:vs 14=.pointer (some ⟨w.heap.size,0,none⟩):=hJ 14 (by decide)
    have j15:vs 15=.int .i64 K.f:=hJ 15 (by decide)
    have j16:vs 16=.int .i64 u:=hJ 16 (by decide)
    have j17:vs 17=.int .i64 ld:=hJ 17 (by decide)
    have j18:vs 18=.bool true:=hJ 18 (by decide)
    have j19:vs 19=.bool true:=hJ 19 (by decide)
    have s93:=hJ 5 (by decide)
    clear hJ
    simp only [actOf,tk1,tk0,dr1,dr0,Act.put,si1,st1,st0,Nat.reduceAdd]
    rw [show vs 19=_ from j19]
    go_wp2_with fail
    go_ret
    exact⟨rfl,ze HGWr.out (ze HG58.out hg)⟩
end Go.Proofs.YtidjnnnigcmdpaaGreatDoor
