/- key.Parse of a signature's words. -/
import Derived.Test.YtkpnheenacchhaaGreatDoorPzz
import Derived.Laws.Cover3
import Derived.Deep.Cut
import Derived.Test.YtkpnheenacchhaaGreatDoorPbi
import Derived.Test.YtkpnheenacchhaaGreatDoorPbd
import Derived.Laws.MakeOwn
import Derived.Test.YtkpnheenacchhaaGreatDoorPbc
import Derived.Test.YtkpnheenacchhaaGreatDoorPak
import Derived.Test.YtkpnheenacchhaaGreatDoorPal
import Derived.Test.YtkpnheenacchhaaGreatDoorPbk
import Derived.Test.YtkpnheenacchhaaGreatDoorPaj
import Derived.Test.YtkpnheenacchhaaGreatDoorPba
import Derived.Test.YtkpnheenacchhaaGreatDoorPbh
import Derived.Test.YtkpnheenacchhaaGreatDoorPbb
import Derived.Test.YtkpnheenacchhaaGreatDoorPau
set_option maxHeartbeats 4000000
set_option maxRecDepth 100000
set_option linter.unusedSimpArgs false
set_option linter.unusedVariables false
namespace Go.Proofs.YtkpnheenacchhaaGreatDoor
open Go.RowKit
theorem zni {w:World} {B g:Nat} {xs:List Value} (h:Rd w B (some ⟨g,0,none⟩) xs):w.rangeAt g 0 xs:=by
 intro j v hj
 have hj':=(List.getElem?_eq_some_iff.1 hj).1
 obtain⟨ad,e,_,hc⟩:=h j hj'
 injection e with e
 subst e
 rw [Addr.add_mid]at hc
 rw [hc,←hj,List.getElem?_eq_getElem hj']
theorem zo6 (s:Nat→Nat):(u64L (oneL s)).toArray=arrU s:=by
 simp [u64L,oneL,arrU]
 intro a _
 rfl
theorem kp_tn {g:Nat} {w w':World} (h:Tn g w w'):Kp (fun j=>j=g) w w':=⟨h.os,h.tape,h.output,h.size,fun i hi hn=>h.block i hi (fun e=>hn (by injection e))⟩
theorem zbu {g:Nat} {a w w':World} (h:Grew a w) (k:Tn g w w') (hg:a.heap.size≤g):Grew a w':=zl3 h k h.size hg
theorem xM (sd:Int) (n:Nat):∀ x∈pubsL sd n,x<18446744073709551616:=fun x hx=>by
 obtain⟨i,_,rfl⟩:=List.mem_map.1 hx
 exact zop _
theorem zin:∀ h:Fin 9,leavesOk (2^h.val)=true:=by decide
theorem Ag.set1 {w:World} {b:Nat} {cs:List Value} (h:Ag w b cs) (j:Nat) (v:Value) (hj:j<cs.length):Ag (w.setCell ⟨b,j,none⟩ v) b (cs.set j v):=by
 have ht:w.there b j [v].length:=fun i hi=>by
  have:i=0:=by simpa using hi
  subst this
  simpa using h.there j hj
 have hs:=World.rangeAt_setCells_same w b j [v] ht
 have e:w.setCells b j [v]=w.setCell ⟨b,j,none⟩ v:=rfl
 refine⟨fun i x hx=>?_,fun i hi=>⟨?_,?_⟩,Nat.lt_of_lt_of_le h.lt (by rw [←e];exact(zn [v] b j w).size)⟩
 ·by_cases hij:i=j
  ·subst hij
   rw [List.getElem?_set_self hj]at hx
   cases hx
   rw [←e]
   simpa using hs 0 v rfl
  ·rw [List.getElem?_set_ne (Ne.symm hij)]at hx
   rw [show(w.setCell ⟨b,j,none⟩ v).cell? ⟨b,0+i,none⟩=w.cell? ⟨b,0+i,none⟩ from World.cell?_setCell_other w _ _ v (fun e=>by injection e;omega)]
   exact h.cell i x hx
 ·rw [←e]
  exact World.isSome_setCells b [v] j w _ (h.there i (by simpa using hi)).1
 ·rw [←e,World.frozen?_setCells]
  exact(h.there i (by simpa using hi)).2
theorem zg3 (sd:Int) (h:Nat) (hh:h≤8) (m:Nat) (d:Int) (hd:0≤d) (hm:m<2^h):vrS (rootN (pubsL sd (2^h))) (m:Int) (signF (secN sd (m:Int)) d.toNat) (pathN (pubsL sd (2^h)) m) d (h:Int)=true:=by
 have hl:(pubsL sd (2^h)).length=2^h:=yR sd _
 obtain⟨h1,h2⟩:=zef h hh (pubsL sd (2^h)) m hl (by rw [hl];omega)
 have h3:(pubsL sd (2^h)).getD m 0=pubN (secN sd (m:Int)):=by simp [pubsL,List.getD,hm]
 rw [h3]at h2
 have hp:((2^h:Nat):Int)=(2:Int)^h:=by simp
 unfold vrS
 rw [zmu,zag (by rw [h1];exact⟨hh,by omega,by rw [←hp];omega⟩),Int.toNat_natCast,h2,h1]
 simp
theorem kE (sd:Int) (h:Nat) (hh:h≤8) (m:Nat) (hm:m<2^h):(pathN (pubsL sd (2^h)) m).length=h:=by
 have hl:(pubsL sd (2^h)).length=2^h:=yR sd _
 exact(zef h hh (pubsL sd (2^h)) m hl (by rw [hl];omega)).1
structure OwnU (w:World) (B:Nat) (l:List Nat) (v:Value):Prop where
 out:w.ownsRow B 65 1 v l.length (u64L l)
theorem OwnU.gr {w w':World} {B:Nat} {l:List Nat} {v:Value} (h:OwnU w B l v) (g:Grew w w'):OwnU w' B l v:=⟨xg h.out g⟩
theorem PV.kp {S:Nat→Prop} {w w':World} {B:Nat} {l:List Nat} {v:Value} (h:PV w B l v) (k:Kp S w w') (hs:∀ i,S i→i<B):PV w' B l v:=by
 obtain⟨A,c,h1,h2,h3⟩:=h.out
 exact⟨A,c,h1,(h2.kp k (zN9 _) (fun ad e _ hS=>by have h4:=h3 ad e;have h5:=hs _ hS;omega)).more k.size,h3⟩
theorem pv_one (y:World) (t:TypeId) (q:Nat) {B:Nat} (h:B≤y.heap.size):PV (y.alloc (.cells #[.int .u64 (q:Nat)] t)) B [q] (.slice (some ⟨y.heap.size,0,none⟩) 1 1) :=
 ⟨some ⟨y.heap.size,0,none⟩,1,rfl,yD y t #[.int .u64 (q:Nat)],fun ad e=>by cases e;exact h⟩
def rkC (who sd h:Int) (v:Value) (nx rs:Nat):List Value:=[.int .i64 who,.int .u64 sd,.int .i64 h,v,.int .i64 (nx:Int),.int .i64 (rs:Int)]
structure RkAt (w:World) (b:Nat) (N:Nat→Prop) (who sd h:Int) (l:List Nat) (nx rs:Nat):Prop where
 out:∃ A c,Ag w b (rkC who sd h (.slice A l.length c) nx rs)∧RdN w N A (u64L l)
theorem RkAt.lt {w:World} {b:Nat} {N:Nat→Prop} {who sd h:Int} {l:List Nat} {nx rs:Nat} (k:RkAt w b N who sd h l nx rs):b<w.heap.size:=by
 obtain⟨A,c,z,_⟩:=k.out
 exact z.lt
theorem RkAt.kp {S:Nat→Prop} {w w':World} {b:Nat} {N:Nat→Prop} {who sd h:Int} {l:List Nat} {nx rs:Nat} (k:RkAt w b N who sd h l nx rs) (t:Kp S w w') (hb:¬S b) (hs:∀ i,S i→N i):RkAt w' b N who sd h l nx rs:=by
 obtain⟨A,c,z,r⟩:=k.out
 exact⟨A,c,z.kp t hb,r.kp t hs⟩
theorem RkAt.grew {w w':World} {b:Nat} {N:Nat→Prop} {who sd h:Int} {l:List Nat} {nx rs:Nat} (k:RkAt w b N who sd h l nx rs) (t:Grew w w'):RkAt w' b N who sd h l nx rs:=k.kp (S:=fun _=>False) (zF t) (fun h=>h) (fun _ h=>h.elim)
theorem RkAt.set4 {w:World} {b:Nat} {N:Nat→Prop} {who sd h:Int} {l:List Nat} {nx rs:Nat} (k:RkAt w b N who sd h l nx rs) (hN:N b) (m:Nat):RkAt (w.setCell ⟨b,4,none⟩ (.int .i64 (m:Int))) b N who sd h l m rs:=by
 obtain⟨A,c,z,r⟩:=k.out
 exact⟨A,c,Ag.set1 z 4 (.int .i64 (m:Int)) (by simp [rkC]),r.kp (kp_tn (jS (g:=b) (qp _ w) (p:=⟨b,4,none⟩) (.inl rfl) _)) (fun i e=>e▸hN)⟩
theorem RkAt.drewN {w:World} {b:Nat} {N:Nat→Prop} {who sd h:Int} {l:List Nat} {nx rs:Nat} (k:RkAt w b N who sd h l nx rs) (n:Nat):RkAt (w.drewN n) b N who sd h l nx rs:=k.grew (yA (za w) n)
section
variable (l : List Nat) (nx rs : Nat) (who sd d n : Int)
def soW:Int:=if l.length≤nx then 0 else if rs≤nx then 0 else who
def soL:Int:=if l.length≤nx then 0 else if rs≤nx then 0 else (nx:Int)
noncomputable def soS:Nat→Nat:=if l.length≤nx then fun _=>0 else if rs≤nx then fun _=>0 else signF (secN sd nx) d.toNat
noncomputable def soP:List Nat:=if l.length≤nx then [] else if rs≤nx then [] else pathN l nx
def soE:Int:=if l.length≤nx then 14 else if rs≤nx then 16 else 0
def soN:Nat:=if l.length≤nx then nx else if rs≤nx then nx else nx+1
end
theorem zg4 (l:List Nat) (nx rs:Nat) (h:∀ m,m<l.length→(pathN l m).length≤8):(soP l nx rs).length≤8:=by
 unfold soP;split
 ·simp
 ·split
  ·simp
  ·exact h nx (by omega)
theorem zg5 (w:World):Rd w w.heap.size none (u64L []):=fun k hk=>absurd hk (by simp [u64L])
theorem zcq (b p:Nat) (who sd:Int) (l:List Nat) (nx rs:Nat) (hl:l.length≤256) (hn:nx≤l.length) (hr:rs≤l.length) (d:Int) (hkk:leavesOk l.length=true) (hbb:∀ n∈l,n<18446744073709551616) (hsd:U64 sd) (hd:U64 d) (w:World) (h:KyAt w b p who sd l nx rs) :
 Calls Tryz.prog 125 #[.pointer (some ⟨b,0,none⟩),.int .u64 d] w fun e w'=>(∃ A c,e=.returned (.tuple #[.agg (sgC (soW l nx rs who) (soL l nx rs) (soS l nx rs sd d) (.slice A (soP l nx rs).length c)),.int .i64 (soE l nx rs)])∧Rd w' w'.heap.size A (u64L (soP l nx rs))∧(∀ ad,A=some ad→w.heap.size≤ad.block))∧Tn b w w'∧KyAt w' b p who sd l (soN l nx rs) rs:=by
 unfold soW soL soS soP soE soN
 by_cases h1:l.length≤nx
 ·simp only [if_pos h1]
  refine(zif b p who sd l nx rs hl hn hr d (by omega) w h).mono ?_
  rintro e w' ⟨rfl,g⟩
  exact⟨⟨none,0,rfl,zg5 _,fun ad h=>by cases h⟩,kX g,h.grew g⟩
 ·simp only [if_neg h1]
  by_cases h2:rs≤nx
  ·simp only [if_pos h2]
   refine(zig b p who sd l nx rs hl hn hr d (by omega) h2 w h).mono ?_
   rintro e w' ⟨rfl,g⟩
   exact⟨⟨none,0,rfl,zg5 _,fun ad h=>by cases h⟩,kX g,h.grew g⟩
  ·simp only [if_neg h2]
   exact zo2 b p who sd l nx rs hl hn hr d (by omega) (by omega) hkk hbb hsd hd w h
theorem zf3 (tj:ByteArray) (x0 x1 x2 x3:List UInt8) (who leaf:Int) (s:Nat→Nat) (l:List Nat) (hsp:splitF tj.data.toList=some [x0,x1,x2,x3]) (hz:tj.size≤1000000) (l0:x0.length≤1000000) (l1:x1.length≤1000000) (l2:x2.length≤1000000) (l3:x3.length≤1000000)
 (p0:(pnum x0).1=who) (b0:uptoB x0 15=true) (p1:(pnum x1).1=leaf) (b1:uptoB x1 9223372036854775807=true) (d2:pdigs x2=some (oneL s)) (d3:pdigs x3=some l) (hl:l.length≤8) (w:World) (hS:Std w) :
 Calls Tryz.prog 83 #[.string tj] w fun e w'=>(∃ A c,e=.returned (.tuple #[.agg (sgC who leaf s (.slice A l.length c)),.int .i64 0])∧Rd w' w'.heap.size A (u64L l)∧(∀ ad,A=some ad→w.heap.size<ad.block))∧Grew w w':=by
 have HS:=hQ9 hS
 have CS:=hQ9 (fun W=>jr (s:=tj) (l:=[x0,x1,x2,x3]) hsp (by simp) (by omega) W)
 rw [show txt [x0,x1,x2,x3]=[⟨x0.toArray⟩,⟨x1.toArray⟩,⟨x2.toArray⟩,⟨x3.toArray⟩] from rfl]at CS
 have U0:=hQ9 (fun W hW=>qy ⟨x0.toArray⟩ (by show x0.toArray.size≤_;simp;omega) 15 W hW)
 have U1:=hQ9 (fun W hW=>qy ⟨x1.toArray⟩ (by show x1.toArray.size≤_;simp;omega) 9223372036854775807 W hW)
 have D2:=hQ9 (fun W hW=>js ⟨x2.toArray⟩ (by show x2.toArray.size≤_;simp;omega) W hW)
 have D3:=hQ9 (fun W hW=>js ⟨x3.toArray⟩ (by show x3.toArray.size≤_;simp;omega) W hW)
 simp only [p0,b0]at U0
 simp only [p1,b1]at U1
 simp only [d2,Option.isSome_some,Option.getD_some,zW]at D2
 simp only [d3,Option.isSome_some,Option.getD_some]at D3
 clear p0 p1 b0 b1 d2 d3 l0 l1 l2 l3 hz hsp hS
 generalize (⟨x0.toArray⟩:ByteArray)=t0 at *
 generalize (⟨x1.toArray⟩:ByteArray)=t1 at *
 generalize (⟨x2.toArray⟩:ByteArray)=t2 at *
 generalize (⟨x3.toArray⟩:ByteArray)=t3 at *
 have z0:=xb w
 have g0:=ze (za w) (.cells (zS21) 77)
 have hus:=Tryz.underlying77
 have hl8:¬(8:Int)<(l.length:Int):=by omega
 go_enter Tryz.func83,Tryz.ntmps83
 go_wp2_with fail
 refine(CS.out _).mono ?_
 rintro e w1 ⟨⟨v1,rfl,o1⟩,gg⟩
 have z1:=z0.grew gg
 have g1:=zb g0 gg
 obtain⟨g,k1,rfl,hk1,hgl,hcs⟩:=xy o1 (by simp)
 have x0:w1.cell? ⟨g,0,none⟩=some (.string t0):=by simpa using hcs 0 (.string t0) rfl
 have x1:w1.cell? ⟨g,1,none⟩=some (.string t1):=by simpa using hcs 1 (.string t1) rfl
 have x2:w1.cell? ⟨g,2,none⟩=some (.string t2):=by simpa using hcs 2 (.string t2) rfl
 have x3:w1.cell? ⟨g,3,none⟩=some (.string t3):=by simpa using hcs 3 (.string t3) rfl
 clear CS z0 g0 gg o1 hcs
 have hk1':(4:Int)≤(k1:Int):=by
  have:4≤k1:=hk1
  omega
 go_wp2_with fail
 refine(U0.out _ (HS.out.grew g1)).mono ?_
 rintro e w2 ⟨rfl,gg⟩
 have y1:=(gg.cell (p:=⟨g,1,none⟩) hgl).trans x1
 have y2:=(gg.cell (p:=⟨g,2,none⟩) hgl).trans x2
 have y3:=(gg.cell (p:=⟨g,3,none⟩) hgl).trans x3
 have hgl2:=Nat.lt_of_lt_of_le hgl gg.size
 have z2:=z1.grew gg
 have g2:=zb g1 gg
 clear U0 x0 x1 x2 x3 z1 g1 gg hgl
 go_wp2_with fail
 refine(U1.out _ (HS.out.grew g2)).mono ?_
 rintro e w3 ⟨rfl,gg⟩
 have x2:=(gg.cell (p:=⟨g,2,none⟩) hgl2).trans y2
 have x3:=(gg.cell (p:=⟨g,3,none⟩) hgl2).trans y3
 have hgl3:=Nat.lt_of_lt_of_le hgl2 gg.size
 have z3:=z2.grew gg
 have g3:=zb g2 gg
 clear U1 y1 y2 y3 z2 g2 gg hgl2
 go_wp2_with fail
 refine(D2.out _ (HS.out.grew g3)).mono ?_
 rintro e w4 ⟨⟨v4,rfl,o4⟩,gg⟩
 obtain⟨A4,c4,rfl,hk4,-,r4⟩:=zU o4
 obtain⟨h4,k4,e4,-,-,-⟩:=xy o4 (by decide)
 injection e4 with e4 e5 e6
 subst e4
 clear e5 e6
 have y3:=(gg.cell (p:=⟨g,3,none⟩) hgl3).trans x3
 have z4:=z3.grew gg
 have g4:=zb g3 gg
 clear D2 x2 x3 z3 g3 gg hgl3 o4
 go_wp2_with fail
 refine(D3.out _ (HS.out.grew g4)).mono ?_
 rintro e w5 ⟨⟨v5,rfl,o5⟩,gg⟩
 obtain⟨A5,c5,rfl,-,-,r5⟩:=zU o5
 have HNE:Hid (∀ ad,A5=some ad→w.heap.size<ad.block):=hQ9 (fun ad h=>by
  have h1:=zu o5 ad.block (by rw [h];rfl)
  have h2:=z4.lt
  omega)
 have r45:=r4.gr gg
 have z5:=z4.grew gg
 have g5:=zb g4 gg
 have m5:=hQ9 (zni r45)
 clear D3 y3 z4 g4 gg o5 r4 r45
 go_upto_region 10 with fail
 have hua:=Tryz.underlying74
 have hia:(Tryz.prog.info? 74).map (·.size)=some (u64L (oneL s)).length:=by rw [show(u64L (oneL s)).length=18 by rw [kU,zW]];kernel_rfl
 have hbu:=zeg who leaf s A5 l.length c5
 have hra:=fun W=>run_arrayAt (P:=Tryz.prog) (w:=W) 74 72 18 (some ⟨h4,0,none⟩) 18 c4 hua (zN9 _)
 have HBU:=hQ9 (show Tryz.prog.built 77 [(0,.int .i64 who),(1,.int .i64 leaf),(2,.agg (u64L (oneL s)).toArray),(3,.slice A5 l.length c5)]=some (sgC who leaf s (.slice A5 l.length c5)) from by rw [zo6];exact hbu)
 clear hbu
 clear hk4
 generalize u64L (oneL s)=xs at *
 have hxa:=hQ9 hia
 clear hia
 have hth:w5.there w.heap.size 0 (sgC who leaf s (.slice A5 l.length c5)).size:=z5.thereN 21 rfl
 have hsi:(Tryz.prog.info? 77).map (·.size)=some (sgC who leaf s (.slice A5 l.length c5)).size:=zG
 have hone:=yS who leaf s A5 l.length c5
 have HTH:=hQ9 hth
 have HSI:=hQ9 hsi
 have HON:=hQ9 hone
 clear hth hsi hone
 go_wp2_with(first
  | (with_reducible refine wpList_load_mid rfl 74 (.tmp 83) rfl h4 0 rfl xs _ m5.out hua rfl hxa.out ?_)
  | (with_reducible refine zC rfl 77 #[(0,.tmp 80),(1,.tmp 81),(2,.tmp 84),(3,.tmp 85)] rfl (sgC who leaf s (.slice A5 l.length c5)) ?_ ?_;· simpa [Act.eval,Act.put]using HBU.out)
  | (with_reducible refine wpList_store_mid rfl 77 (.tmp 2) (.tmp 86) rfl w.heap.size 0 (sgC who leaf s (.slice A5 l.length c5)) rfl rfl HTH.out HSI.out HON.out ?_;have z6:=Ag.set (vs:=(sgC who leaf s (.slice A5 l.length c5)).toList) z5 rfl;have g6:=zh (o:=0) (b:=w.heap.size) (sgC who leaf s (.slice A5 l.length c5)).toList g5 (zN9 _)))
 exact bodyPost_ret (zw Tryz.results83 _ _ w.heap.size _ _ _ rfl rfl z6 hus rfl zG) rfl ⟨⟨A5,c5,rfl,(r5.kp (zn (sgC who leaf s (.slice A5 l.length c5)).toList w.heap.size 0 w5) (zN9 _) (fun ad h1 h2 (h3:ad.block=w.heap.size)=>by have:=HNE.out ad h1;omega)).more (jE w5 w.heap.size 0 _),HNE.out⟩,g6⟩
def sig4 (x0 x1 x2 x3:List UInt8):Bool:=uptoB x0 15&&uptoB x1 9223372036854775807&&(pdigs x2).isSome&&(pdigs x3).isSome&&decide (((pdigs x2).getD []).length=18)&&decide (((pdigs x3).getD []).length≤8)
def sigP (S:List UInt8):Option ((Int × Int) × List Nat × List Nat) :=
 match splitF S with
 | some [x0,x1,x2,x3]=>if sig4 x0 x1 x2 x3=true then some (((pnum x0).1,(pnum x1).1),(pdigs x2).getD [],(pdigs x3).getD []) else none
 | _=>none
theorem zev (tj:ByteArray) (hz:tj.size≤1000000) (hno:∀ x0 x1 x2 x3,splitF tj.data.toList≠some [x0,x1,x2,x3]) (w:World) :
 Calls Tryz.prog 83 #[.string tj] w fun e w'=>e=.returned (.tuple #[.agg (zS21),.int .i64 2])∧Grew w w':=by
 have z0:=xb w
 have g0:=ze (za w) (.cells (zS21) 77)
 have hus:=Tryz.underlying77
 have bz:∀ W,(Instr.build 77 #[]).run Tryz.prog W=.ok (.agg (#[.int .i64 0,.int .i64 0,.int .u64 0,.int .u64 0,.int .u64 0,.int .u64 0,.int .u64 0,.int .u64 0,.int .u64 0,.int .u64 0,.int .u64 0,.int .u64 0,.int .u64 0,.int .u64 0,.int .u64 0,.int .u64 0,.int .u64 0,.int .u64 0,.int .u64 0,.int .u64 0,.slice none 0 0])) W:=fun W=>run_build W 77 #[] _ jc
 have HSI:Hid (zI9 77=some (zS21:Array Value).size):=hQ9 zG
 have HON:Hid ((#[.int .i64 0,.int .i64 0,.int .u64 0,.int .u64 0,.int .u64 0,.int .u64 0,.int .u64 0,.int .u64 0,.int .u64 0,.int .u64 0,.int .u64 0,.int .u64 0,.int .u64 0,.int .u64 0,.int .u64 0,.int .u64 0,.int .u64 0,.int .u64 0,.int .u64 0,.int .u64 0,.slice none 0 0]:Array Value).all (·.oneCell')=true):=hQ9 (by simp [Value.oneCell'])
 have CS:=hQ9 (fun W=>zac tj (by omega) W)
 go_enter Tryz.func83,Tryz.ntmps83
 go_wp2_with fail
 refine(CS.out _).mono ?_
 rintro e w1 ⟨hs,gg⟩
 have z1:=z0.grew gg
 have g1:=zb g0 gg
 have HTH:Hid (w1.there w.heap.size 0 (zS21:Array Value).size):=hQ9 (z1.thereN 21 rfl)
 have z2:=Ag.set (vs:=(zS21:Array Value).toList) z1 rfl
 have g2:=zh (o:=0) (b:=w.heap.size) (zS21:Array Value).toList g1 (zN9 _)
 clear CS z0 g0 gg
 rcases hs with ⟨h1,rfl⟩ | ⟨l,h1,⟨h2,rfl⟩ | ⟨h2,v,rfl,o1⟩⟩
 ·clear h1
  go_wp2_with(with_reducible refine wpList_store_mid rfl 77 (.tmp 2) (.tmp 26) rfl w.heap.size 0 (zS21) rfl rfl HTH.out HSI.out HON.out ?_)
  exact bodyPost_ret (zw Tryz.results83 _ _ w.heap.size _ _ _ rfl rfl z2 hus rfl zG) rfl ⟨rfl,g2⟩
 ·clear h1
  go_wp2_with(with_reducible refine wpList_store_mid rfl 77 (.tmp 2) (.tmp 26) rfl w.heap.size 0 (zS21) rfl rfl HTH.out HSI.out HON.out ?_)
  exact bodyPost_ret (zw Tryz.results83 _ _ w.heap.size _ _ _ rfl rfl z2 hus rfl zG) rfl ⟨rfl,g2⟩
 ·have hl4:l.length≠4:=fun h4=>by
   match l,h4 with
   | [a,b,c,d],_=>exact hno a b c d h1
  obtain⟨A4,c4,rfl,-,-,-⟩:=zU o1
  have e4:((l.length:Int) != 4)=true:=by simp;omega
  clear o1 h1 h2 hl4
  go_wp2_with(with_reducible refine wpList_store_mid rfl 77 (.tmp 2) (.tmp 26) rfl w.heap.size 0 (zS21) rfl rfl HTH.out HSI.out HON.out ?_)
  exact bodyPost_ret (zw Tryz.results83 _ _ w.heap.size _ _ _ rfl rfl z2 hus rfl zG) rfl ⟨rfl,g2⟩
theorem zf4 (tj:ByteArray) (x0 x1 x2 x3:List UInt8) (hsp:splitF tj.data.toList=some [x0,x1,x2,x3]) (hz:tj.size≤1000000) (l0:x0.length≤1000000) (l1:x1.length≤1000000) (l2:x2.length≤1000000) (l3:x3.length≤1000000) (hno:sig4 x0 x1 x2 x3=false) (w:World) (hS:Std w) :
 Calls Tryz.prog 83 #[.string tj] w fun e w'=>e=.returned (.tuple #[.agg (zS21),.int .i64 2])∧Grew w w':=by
 have HS:=hQ9 hS
 have CS:=hQ9 (fun W=>jr (s:=tj) (l:=[x0,x1,x2,x3]) hsp (by simp) (by omega) W)
 rw [show txt [x0,x1,x2,x3]=[⟨x0.toArray⟩,⟨x1.toArray⟩,⟨x2.toArray⟩,⟨x3.toArray⟩] from rfl]at CS
 have u0:=(fun W hW=>qy ⟨x0.toArray⟩ (by show x0.toArray.size≤_;simp;omega) 15 W hW)
 have u1:=(fun W hW=>qy ⟨x1.toArray⟩ (by show x1.toArray.size≤_;simp;omega) 9223372036854775807 W hW)
 have dd2:=(fun W hW=>js ⟨x2.toArray⟩ (by show x2.toArray.size≤_;simp;omega) W hW)
 have dd3:=(fun W hW=>js ⟨x3.toArray⟩ (by show x3.toArray.size≤_;simp;omega) W hW)
 unfold sig4 at hno
 dsimp only at u0 u1 dd2 dd3
 generalize uptoB x0 15=b0 at *
 generalize uptoB x1 9223372036854775807=b1 at *
 generalize (pnum x0).1=who at *
 generalize (pnum x1).1=leaf at *
 generalize (pdigs x2).isSome=b2 at *
 generalize (pdigs x3).isSome=b3 at *
 generalize (pdigs x2).getD []=q2 at *
 generalize (pdigs x3).getD []=q3 at *
 have U0:=hQ9 u0
 have U1:=hQ9 u1
 have D2:=hQ9 dd2
 have D3:=hQ9 dd3
 clear u0 u1 dd2 dd3 hsp hz l0 l1 l2 l3 hS
 generalize (⟨x0.toArray⟩:ByteArray)=t0 at *
 generalize (⟨x1.toArray⟩:ByteArray)=t1 at *
 generalize (⟨x2.toArray⟩:ByteArray)=t2 at *
 generalize (⟨x3.toArray⟩:ByteArray)=t3 at *
 have HNO:=hQ9 hno
 clear hno
 have z0:=xb w
 have g0:=ze (za w) (.cells (zS21) 77)
 have hus:=Tryz.underlying77
 have bz:∀ W,(Instr.build 77 #[]).run Tryz.prog W=.ok (.agg (#[.int .i64 0,.int .i64 0,.int .u64 0,.int .u64 0,.int .u64 0,.int .u64 0,.int .u64 0,.int .u64 0,.int .u64 0,.int .u64 0,.int .u64 0,.int .u64 0,.int .u64 0,.int .u64 0,.int .u64 0,.int .u64 0,.int .u64 0,.int .u64 0,.int .u64 0,.int .u64 0,.slice none 0 0])) W:=fun W=>run_build W 77 #[] _ jc
 have HSI:Hid (zI9 77=some (zS21:Array Value).size):=hQ9 zG
 have HON:Hid ((#[.int .i64 0,.int .i64 0,.int .u64 0,.int .u64 0,.int .u64 0,.int .u64 0,.int .u64 0,.int .u64 0,.int .u64 0,.int .u64 0,.int .u64 0,.int .u64 0,.int .u64 0,.int .u64 0,.int .u64 0,.int .u64 0,.int .u64 0,.int .u64 0,.int .u64 0,.int .u64 0,.slice none 0 0]:Array Value).all (·.oneCell')=true):=hQ9 (by simp [Value.oneCell'])
 go_enter Tryz.func83,Tryz.ntmps83
 go_wp2_with fail
 refine(CS.out _).mono ?_
 rintro e w1 ⟨⟨v1,rfl,o1⟩,gg⟩
 have z1:=z0.grew gg
 have g1:=zb g0 gg
 obtain⟨g,k1,rfl,hk1,hgl,hcs⟩:=xy o1 (by simp)
 have x0:w1.cell? ⟨g,0,none⟩=some (.string t0):=by simpa using hcs 0 (.string t0) rfl
 have x1:w1.cell? ⟨g,1,none⟩=some (.string t1):=by simpa using hcs 1 (.string t1) rfl
 have x2:w1.cell? ⟨g,2,none⟩=some (.string t2):=by simpa using hcs 2 (.string t2) rfl
 have x3:w1.cell? ⟨g,3,none⟩=some (.string t3):=by simpa using hcs 3 (.string t3) rfl
 clear CS z0 g0 gg o1 hcs
 have hk1':(4:Int)≤(k1:Int):=by
  have:4≤k1:=hk1
  omega
 go_wp2_with fail
 refine(U0.out _ (HS.out.grew g1)).mono ?_
 rintro e w2 ⟨rfl,gg⟩
 have y1:=(gg.cell (p:=⟨g,1,none⟩) hgl).trans x1
 have y2:=(gg.cell (p:=⟨g,2,none⟩) hgl).trans x2
 have y3:=(gg.cell (p:=⟨g,3,none⟩) hgl).trans x3
 have hgl2:=Nat.lt_of_lt_of_le hgl gg.size
 have z2:=z1.grew gg
 have g2:=zb g1 gg
 clear U0 x0 x1 x2 x3 z1 g1 gg hgl
 go_wp2_with fail
 refine(U1.out _ (HS.out.grew g2)).mono ?_
 rintro e w3 ⟨rfl,gg⟩
 have x2:=(gg.cell (p:=⟨g,2,none⟩) hgl2).trans y2
 have x3:=(gg.cell (p:=⟨g,3,none⟩) hgl2).trans y3
 have hgl3:=Nat.lt_of_lt_of_le hgl2 gg.size
 have z3:=z2.grew gg
 have g3:=zb g2 gg
 clear U1 y1 y2 y3 z2 g2 gg hgl2
 go_wp2_with fail
 refine(D2.out _ (HS.out.grew g3)).mono ?_
 rintro e w4 ⟨⟨v4,rfl,o4⟩,gg⟩
 obtain⟨A4,c4,rfl,-,-,-⟩:=zU o4
 have y3:=(gg.cell (p:=⟨g,3,none⟩) hgl3).trans x3
 have z4:=z3.grew gg
 have g4:=zb g3 gg
 clear D2 x2 x3 z3 g3 gg hgl3 o4
 go_wp2_with fail
 refine(D3.out _ (HS.out.grew g4)).mono ?_
 rintro e w5 ⟨⟨v5,rfl,o5⟩,gg⟩
 obtain⟨A5,c5,rfl,-,-,-⟩:=zU o5
 have z5:=z4.grew gg
 have g5:=zb g4 gg
 clear D3 y3 z4 g4 gg o5
 have HTH:Hid (w5.there w.heap.size 0 (zS21:Array Value).size):=hQ9 (z5.thereN 21 rfl)
 have z2:=Ag.set (vs:=(zS21:Array Value).toList) z5 rfl
 have g2:=zh (o:=0) (b:=w.heap.size) (zS21:Array Value).toList g5 (zN9 _)
 clear z5 g5
 generalize q2.length=n2 at *
 generalize q3.length=n3 at *
 cases b0
 ·clear HNO
  go_wp2_with(with_reducible refine wpList_store_mid rfl 77 (.tmp 2) (.tmp 79) rfl w.heap.size 0 (zS21) rfl rfl HTH.out HSI.out HON.out ?_)
  exact bodyPost_ret (zw Tryz.results83 _ _ w.heap.size _ _ _ rfl rfl z2 hus rfl zG) rfl ⟨rfl,g2⟩
 cases b1
 ·clear HNO
  go_wp2_with(with_reducible refine wpList_store_mid rfl 77 (.tmp 2) (.tmp 79) rfl w.heap.size 0 (zS21) rfl rfl HTH.out HSI.out HON.out ?_)
  exact bodyPost_ret (zw Tryz.results83 _ _ w.heap.size _ _ _ rfl rfl z2 hus rfl zG) rfl ⟨rfl,g2⟩
 cases b2
 ·clear HNO
  go_wp2_with(with_reducible refine wpList_store_mid rfl 77 (.tmp 2) (.tmp 79) rfl w.heap.size 0 (zS21) rfl rfl HTH.out HSI.out HON.out ?_)
  exact bodyPost_ret (zw Tryz.results83 _ _ w.heap.size _ _ _ rfl rfl z2 hus rfl zG) rfl ⟨rfl,g2⟩
 cases b3
 ·clear HNO
  go_wp2_with(with_reducible refine wpList_store_mid rfl 77 (.tmp 2) (.tmp 79) rfl w.heap.size 0 (zS21) rfl rfl HTH.out HSI.out HON.out ?_)
  exact bodyPost_ret (zw Tryz.results83 _ _ w.heap.size _ _ _ rfl rfl z2 hus rfl zG) rfl ⟨rfl,g2⟩
 by_cases h18:n2=18
 ·have h8:(8:Int)<(n3:Int):=by
   have:=HNO.out
   simp [h18]at this
   omega
  have e18:((n2:Int) != 18)=false:=by rw [h18];rfl
  clear HNO h18
  go_wp2_with(with_reducible refine wpList_store_mid rfl 77 (.tmp 2) (.tmp 79) rfl w.heap.size 0 (zS21) rfl rfl HTH.out HSI.out HON.out ?_)
  exact bodyPost_ret (zw Tryz.results83 _ _ w.heap.size _ _ _ rfl rfl z2 hus rfl zG) rfl ⟨rfl,g2⟩
 ·have e18:((n2:Int) != 18)=true:=by simp;omega
  clear HNO h18
  go_wp2_with(with_reducible refine wpList_store_mid rfl 77 (.tmp 2) (.tmp 79) rfl w.heap.size 0 (zS21) rfl rfl HTH.out HSI.out HON.out ?_)
  exact bodyPost_ret (zw Tryz.results83 _ _ w.heap.size _ _ _ rfl rfl z2 hus rfl zG) rfl ⟨rfl,g2⟩
theorem zo7 (f:List UInt8):f.length≤(fld f).length:=by
 induction f with
 | nil=>simp [xr]
 | cons c f ih =>
  rw [xm,List.length_append,List.length_cons]
  have:1≤(esc c).length:=by unfold esc;split<;>simp
  omega
theorem zew:∀(l:List (List UInt8)) (x:List UInt8),x∈l→x.length≤(joinF l).length
 | [],x,h=>by cases h
 | f::l,x,h=>by
  rw [yt,List.length_cons,List.length_append]
  rcases List.mem_cons.1 h with rfl | h
  ·have:=zo7 x;omega
  ·have:=zew l x h;omega
theorem zak {S:List UInt8} {l:List (List UInt8)} (h:splitF S=some l) (x:List UInt8) (hx:x∈l):x.length≤S.length:=by
 rw [←zar S l h]
 exact zew l x hx
def sigB (who leaf:Int) (n:Nat):Bool:=decide (0≤who∧who≤15)&&decide (0≤leaf)&&decide (n≤8)
theorem znj (who leaf:Int) (s:Nat→Nat) (l:List Nat) (hw:in64 who) (hlf:in64 leaf) (hs:∀ k,k<18→s k<18446744073709551616) (hb:∀ n∈l,n<18446744073709551616) :
 sigP (sgT who leaf s l)=if sigB who leaf l.length=true then some ((who,leaf),oneL s,l) else none:=by
 unfold sigP sgT
 rw [zaq]
 have p0:=jI hw.1 hw.2
 have p1:=jI hlf.1 hlf.2
 have d2:=za9 (oneL s) (fun x hx=>by
  obtain⟨k,hk,rfl⟩:=List.mem_map.1 hx
  exact hs k (List.mem_range.1 hk))
 have d3:=za9 l hb
 have e:sig4 (Lib.itoa who) (Lib.itoa leaf) (digs (oneL s)) (digs l)=sigB who leaf l.length:=by
  unfold sig4 uptoB sigB
  rw [p0,p1,d2,d3]
  have h2:=hlf.2
  simp only [Option.isSome_some,Option.getD_some,zW,true_and,Bool.and_true,decide_true]
  rw [show decide (0≤leaf∧leaf≤9223372036854775807)=decide (0≤leaf) from decide_eq_decide.2 ⟨fun h=>h.1,fun h=>⟨h,h2⟩⟩]
 simp only [e,p0,p1,d2,d3,Option.getD_some]
theorem zf5 {x:List UInt8} {d:Nat} (hp:parseO x=some d):hexL d=x∧d<18446744073709551616:=by
 have hl:x.length=16:=by
  unfold parseO at hp
  split at hp
  ·assumption
  ·cases hp
 have hx:hexN x=some d:=by
  unfold parseO at hp
  rwa [if_pos hl]at hp
 refine⟨zjt _ _ hl hx,?_⟩
 have h1:=zgo _ _ hx
 rw [hl]at h1
 have h2:(16:Nat)^16=18446744073709551616:=by decide
 omega
theorem zba {x:List UInt8} {q:List Nat} (h:pdigs x=some q):digs q=x∧∀ n∈q,n<18446744073709551616:=by
 unfold pdigs at h
 by_cases hz:x=[]
 ·rw [if_pos hz]at h
  injection h with h
  subst h;subst hz
  exact⟨rfl,fun n hn=>by cases hn⟩
 ·rw [if_neg hz]at h
  by_cases ha:allD (splitC x)
  ·rw [if_pos ha]at h
   injection h with h
   subst h
   have key:∀ l:List (List UInt8),allD l→(valsD l).map hexL=l∧∀ n∈valsD l,n<18446744073709551616:=by
    intro l hl
    induction l with
    | nil=>exact⟨rfl,fun n hn=>by cases hn⟩
    | cons y l ih =>
     obtain⟨i1,i2⟩:=ih (fun z hz=>hl z (List.mem_cons_of_mem _ hz))
     obtain⟨d,hd⟩:=Option.ne_none_iff_exists'.1 (hl y List.mem_cons_self)
     obtain⟨b1,b2⟩:=zf5 hd
     have hv:valsD (y::l)=d::valsD l:=by simp [valsD,hd]
     rw [hv]
     refine⟨by rw [List.map_cons,i1,b1],fun n hn=>?_⟩
     rcases List.mem_cons.1 hn with rfl | hn
     ·exact b2
     ·exact i2 n hn
   obtain⟨k1,k2⟩:=key _ ha
   refine⟨?_,k2⟩
   unfold digs
   rw [k1,zdl]
  ·rw [if_neg ha]at h;cases h
theorem zko {S:List UInt8} {who leaf:Int} {q l:List Nat} (h:sigP S=some ((who,leaf),q,l)) :
 ∃ x0 x1 x2 x3,splitF S=some [x0,x1,x2,x3]∧(pnum x0).1=who∧uptoB x0 15=true∧(pnum x1).1=leaf∧uptoB x1 9223372036854775807=true∧pdigs x2=some q∧pdigs x3=some l∧q.length=18∧l.length≤8∧joinF [Lib.itoa who,Lib.itoa leaf,digs q,digs l]=S:=by
 unfold sigP at h
 split at h
 ·rename_i x0 x1 x2 x3 hsp
  by_cases hg:sig4 x0 x1 x2 x3=true
  ·rw [if_pos hg]at h
   injection h with h
   injection h with h1 h2
   injection h1 with h3 h4
   injection h2 with h5 h6
   unfold sig4 at hg
   simp only [Bool.and_eq_true,decide_eq_true_eq]at hg
   obtain⟨⟨⟨⟨⟨g0,g1⟩,g2⟩,g3⟩,g4⟩,g5⟩:=hg
   obtain⟨q2,e2⟩:=Option.isSome_iff_exists.1 g2
   obtain⟨q3,e3⟩:=Option.isSome_iff_exists.1 g3
   rw [e2,Option.getD_some]at h5 g4
   rw [e3,Option.getD_some]at h6 g5
   subst h5;subst h6
   refine⟨x0,x1,x2,x3,hsp,h3,g0,h4,g1,e2,e3,g4,g5,?_⟩
   have z0:=(zb6 (of_decide_eq_true g0).1).1
   have z1:=(zb6 (of_decide_eq_true g1).1).1
   rw [h3]at z0
   rw [h4]at z1
   rw [z0,z1,(zba e2).1,(zba e3).1]
   exact zar S _ hsp
  ·rw [if_neg hg]at h;cases h
 ·cases h
theorem zo8 {q:List Nat} (h:q.length=18):oneL (fun k=>q.getD k 0)=q:=by
 apply List.ext_getElem (by rw [zW,h])
 intro i h1 h2
 simp [oneL,List.getD_eq_getElem?_getD,h2]
def sgO:Option ((Int × Int) × List Nat × List Nat)→(Int × Int) × (Nat→Nat) × List Nat
 | some (p,q,l)=>(p,fun k=>q.getD k 0,l)
 | none=>((0,0),fun _=>0,[])
def sgE (o:Option ((Int × Int) × List Nat × List Nat)):Int:=if o.isSome=true then 0 else 2
noncomputable def ckE (R:List Nat) (h:Int) (n:Nat) (d:Nat) (sw lf:Int) (s:Nat→Nat) (l:List Nat):Int :=
 if R.length≤n then 7 else if sw=(n:Int) then (if vrS (R.getD n 0) lf s l (d:Int) h=true then 0 else 7) else 7
theorem zkp (R:List Nat) (RA:Option Addr) (Rc:Nat) (h:Int) (cm n:Nat) (at_ sw lf:Int) (s:Nat→Nat) (A:Option Addr) (c:Nat) (l:List Nat) (hc:cm<18446744073709551616) (hw:in64 (n:Int)) (ha:in64 at_) (hsw:in64 sw) (hlf:in64 lf) (hl:l.length≤1000) (hs:∀ k,k<18→s k<18446744073709551616) (hb:∀ x∈l,x<18446744073709551616)
 (hRl:R.length≤1000) (hRb:∀ x∈R,x<18446744073709551616) (q:Nat) (w:World) (hS:Std w) (hrR:Rd w w.heap.size RA (u64L R)) (hrl:Rd w w.heap.size A (u64L l)) (hq:w.rangeAt q 0 (stC cm (n:Int) at_ sw lf s (.slice A l.length c)).toList) (hql:q<w.heap.size) :
 Calls Tryz.prog 215 #[.slice RA R.length Rc,.int .i64 h,.func (.func 216) #[] #[],.slice (some ⟨q,0,none⟩) 1 1] w fun e w'=>e=.returned (.int .i64 (ckE R h n (stD cm (n:Int) at_) sw lf s l))∧Grew w w':=by
 have hus:=Tryz.underlying77
 have hut:=Tryz.underlying157
 have hum:=Tryz.underlying263
 have HST:Hid (zI9 157=some (stC cm (n:Int) at_ sw lf s (.slice A l.length c)).toList.length):=hQ9 zK
 have HSI:Hid (zI9 157=some (stC cm (n:Int) at_ sw lf s (.slice A l.length c)).size):=hQ9 zK
 have HSM:Hid (zI9 263=some (mkC (n:Int) (stD cm (n:Int) at_) sw lf s (.slice A l.length c)).size):=hQ9 kr
 have HSG:Hid (zI9 77=some (sgC sw lf s (.slice A l.length c)).toList.length):=hQ9 zG
 have HOS:=hQ9 (jf cm (n:Int) at_ sw lf s A l.length c)
 have HOM:=hQ9 (qx (n:Int) (stD cm (n:Int) at_) sw lf s A l.length c)
 have CM:=hQ9 (fun W hW=>zo5 cm (n:Int) at_ sw lf s A c l hc hw ha W hW)
 have hdl:=zen cm (n:Int) at_
 have CVV:=hQ9 (fun W h1=>za6 (R.getD n 0) sw lf s A c l (stD cm (n:Int) at_:Nat) h (by omega) hlf hs hb ⟨by omega,by omega⟩ W h1)
 obtain⟨d,hd⟩:∃ d,stD cm (n:Int) at_=d:=⟨_,rfl⟩
 rw [hd]at CM HSM HOM CVV ⊢
 have HS:=hQ9 hS
 have HRR:=hQ9 hrR
 have HRL:=hQ9 hrl
 have hn0:(0:Int)≤(n:Int):=by omega
 clear hd hdl hS hrR hrl hc hw ha hl hs hb hRb
 go_enter Tryz.func215,Tryz.ntmps215
 go_wp2_with fail
 go_loopw [14] (fun iv wr=>(iv=.int .i64 0∧wr.rangeAt q 0 (stC cm (n:Int) at_ sw lf s (.slice A l.length c)).toList∧Grew w wr)∨(iv=.int .i64 1∧ckE R h n d sw lf s l=0∧Grew w wr)) (fun iv _=>1-(intOf iv).toNat)
 case atStart=>exact .inl ⟨rfl,hq,za _⟩
 case round =>
  clear hq
  rcases hrel with ⟨rfl,hq,G⟩ | ⟨rfl,hE,G⟩
  ·have zt:=Ag.new wr 157 (zS24)
   have HTH:Hid ((wr.alloc (.cells (zS24) 157)).there wr.heap.size 0 (stC cm (n:Int) at_ sw lf s (.slice A l.length c)).size):=hQ9 (zt.thereN 24 rfl)
   have z1:=Ag.set (vs:=(stC cm (n:Int) at_ sw lf s (.slice A l.length c)).toList) zt rfl
   have g1:Grew wr ((wr.alloc (.cells (zS24) 157)).setCells wr.heap.size 0 (stC cm (n:Int) at_ sw lf s (.slice A l.length c)).toList):=zh (o:=0) (b:=wr.heap.size) (stC cm (n:Int) at_ sw lf s (.slice A l.length c)).toList (ze (za wr) _) (zN9 _)
   obtain⟨w2,hw2⟩:∃ v,(wr.alloc (.cells (zS24) 157)).setCells wr.heap.size 0 (stC cm (n:Int) at_ sw lf s (.slice A l.length c)).toList=v:=⟨_,rfl⟩
   rw [hw2]at z1 g1
   have HW2:=hQ9 hw2
   have G2:=zb G g1
   have hm1:=z1.cell
   clear hw2 zt g1
   go_wp2_with(first
    | (with_reducible refine wpList_load_mid rfl 157 (.tmp 16) rfl q 0 rfl (stC cm (n:Int) at_ sw lf s (.slice A l.length c)).toList _ hq hut rfl HST.out ?_)
    | (with_reducible refine wpList_store_mid rfl 157 (.tmp 10) (.tmp 17) rfl wr.heap.size 0 (stC cm (n:Int) at_ sw lf s (.slice A l.length c)) rfl rfl HTH.out HSI.out HOS.out ?_;rw [HW2.out];clear HW2 HTH;generalize wr.heap.size=q1 at *)
    | (with_reducible refine wpList_load_mid rfl 157 (.tmp 10) rfl q1 0 rfl (stC cm (n:Int) at_ sw lf s (.slice A l.length c)).toList _ hm1 hut rfl HST.out ?_))
   refine(CM.out w2 (HS.out.grew G2)).mono ?_
   rintro e w3 ⟨rfl,gg⟩
   have G3:=zb G2 gg
   clear hq G G2 gg z1 hm1
   have zt:=Ag.new w3 263 (zM23)
   have HTH:Hid ((w3.alloc (.cells (zM23) 263)).there w3.heap.size 0 (mkC (n:Int) d sw lf s (.slice A l.length c)).size):=hQ9 (zt.thereN 23 rfl)
   have z4:=Ag.set (vs:=(mkC (n:Int) d sw lf s (.slice A l.length c)).toList) zt rfl
   have g4:Grew w3 ((w3.alloc (.cells (zM23) 263)).setCells w3.heap.size 0 (mkC (n:Int) d sw lf s (.slice A l.length c)).toList):=zh (o:=0) (b:=w3.heap.size) (mkC (n:Int) d sw lf s (.slice A l.length c)).toList (ze (za w3) _) (zN9 _)
   obtain⟨w5,hw5⟩:∃ v,(w3.alloc (.cells (zM23) 263)).setCells w3.heap.size 0 (mkC (n:Int) d sw lf s (.slice A l.length c)).toList=v:=⟨_,rfl⟩
   rw [hw5]at z4 g4
   have HW5:=hQ9 hw5
   have G5:=zb G3 g4
   clear hw5 zt g4 G3
   go_wp2_with(with_reducible refine wpList_store_mid rfl 263 (.tmp 11) (.tmp 20) rfl w3.heap.size 0 (mkC (n:Int) d sw lf s (.slice A l.length c)) rfl rfl HTH.out HSM.out HOM.out ?_;rw [HW5.out];clear HW5 HTH;generalize w3.heap.size=q2 at *)
   simp only [Act.put]
   have m0:∀ y:Gr w5,y.val.cell? ⟨q2,0,none⟩=some (.int .i64 (n:Int)):=fun y=>by simpa using (z4.gr y).cell 0 _ rfl
   have m1:∀ y:Gr w5,y.val.cell? ⟨q2,1,none⟩=some (.int .u64 (d:Nat)):=fun y=>by simpa using (z4.gr y).cell 1 _ rfl
   have m2:∀ y:Gr w5,y.val.cell? ⟨q2,2,none⟩=some (.int .i64 sw):=fun y=>by simpa using (z4.gr y).cell 2 _ rfl
   have qm:Hid (∀ y:Gr w5,y.val.rangeAt q2 2 (sgC sw lf s (.slice A l.length c)).toList):=hQ9 (fun y=>zkh (z4.gr y).cell)
   have CV:=hQ9 (fun(y:Gr w5)=>CVV.out y.val ((HRL.out.gr G5).gr y.ok))
   have h00:¬(n:Int)<0:=by omega
   clear z4
   by_cases hA:R.length≤n
   ·have HE:Hid (ckE R h n d sw lf s l=7):=hQ9 (by unfold ckE;rw [if_pos hA])
    have e1:(R.length:Int)≤(n:Int):=by omega
    refine zg (za w5) (by kernel_rfl) (by kernel_rfl) ?_
    repeat (first
     | (go_big_quiet_want;refine zi 77 (.tmp 45) rfl q2 2 rfl (sgC sw lf s (.slice A l.length c)).toList _ qm.out hus rfl HSG.out ?_;simp only [Act.put,List.setIfInBounds_toArray,List.set_cons_succ,List.set_cons_zero,zT9];go_big_quiet_on)
     | (go_big_quiet_step ((go_at_call 159;exact callG (CV.out _)))))
    refine wpQuiet_nil ?_
    rintro w8 ⟨⟨w8',g8⟩,rfl⟩
    have G8:=zb G5 g8
    go_wp2_with fail
    go_ret
    exact⟨by rw [HE.out];rfl,G8⟩
   ·have hA1:¬(R.length:Int)≤(n:Int):=by omega
    have hnR:n<R.length:=by omega
    have hgd:R.getD n 0=R[n]:=by simp [List.getD,hnR]
    obtain⟨ad,hRA,-,hc0⟩:=yv (HRR.out.gr G5) n hnR
    subst hRA
    have mr:∀ y:Gr w5,y.val.cell? (ad.add n)=some (.int .u64 ((R.getD n 0:Nat):Int)):=fun y=>by
     obtain⟨ad',e,-,hc1⟩:=yv ((HRR.out.gr G5).gr y.ok) n hnR
     cases e
     rw [hgd];exact hc1
    clear hgd hc0
    have hnRi:(n:Int)<(R.length:Int):=by omega
    by_cases hB:sw=(n:Int)
    ·have HE0:Hid (ckE R h n d sw lf s l=if vrS (R.getD n 0) lf s l (d:Int) h=true then 0 else 7):=hQ9 (by unfold ckE;rw [if_neg hA,if_pos hB])
     generalize R.getD n 0=r at *
     have e2:(sw != (n:Int))=false:=by simp [hB]
     obtain⟨vb,hvb⟩:∃ v,vrS r lf s l (d:Int) h=v:=⟨_,rfl⟩
     rw [hvb]at CV CVV HE0
     clear hvb CVV hB
     cases vb
     ·have HE:Hid (ckE R h n d sw lf s l=7):=hQ9 (by rw [HE0.out,if_neg (by simp)])
      clear HE0
      refine zg (za w5) (by kernel_rfl) (by kernel_rfl) ?_
      repeat (first
       | (go_big_quiet_want;refine zi 77 (.tmp 45) rfl q2 2 rfl (sgC sw lf s (.slice A l.length c)).toList _ qm.out hus rfl HSG.out ?_;simp only [Act.put,List.setIfInBounds_toArray,List.set_cons_succ,List.set_cons_zero,zT9];go_big_quiet_on)
       | (go_big_quiet_step ((go_at_call 159;exact callG (CV.out _)))))
      refine wpQuiet_nil ?_
      rintro w8 ⟨⟨w8',g8⟩,rfl⟩
      have G8:=zb G5 g8
      go_wp2_with fail
      go_ret
      exact⟨by rw [HE.out];rfl,G8⟩
     ·have HE:Hid (ckE R h n d sw lf s l=0):=hQ9 (by rw [HE0.out,if_pos rfl])
      clear HE0
      refine zg (za w5) (by kernel_rfl) (by kernel_rfl) ?_
      repeat (first
       | (go_big_quiet_want;refine zi 77 (.tmp 45) rfl q2 2 rfl (sgC sw lf s (.slice A l.length c)).toList _ qm.out hus rfl HSG.out ?_;simp only [Act.put,List.setIfInBounds_toArray,List.set_cons_succ,List.set_cons_zero,zT9];go_big_quiet_on)
       | (go_big_quiet_step ((go_at_call 159;exact callG (CV.out _)))))
      refine wpQuiet_nil ?_
      rintro w8 ⟨⟨w8',g8⟩,rfl⟩
      have G8:=zb G5 g8
      go_wp2_with fail
      go_roundw
      case rel=>exact .inr ⟨by go_num,HE.out,G8⟩
      case measure=>simp [intOf]
    ·have HE:Hid (ckE R h n d sw lf s l=7):=hQ9 (by unfold ckE;rw [if_neg hA,if_neg hB])
     generalize R.getD n 0=r at *
     have e2:(sw != (n:Int))=true:=by simp [hB]
     clear hB
     refine zg (za w5) (by kernel_rfl) (by kernel_rfl) ?_
     repeat (first
      | (go_big_quiet_want;refine zi 77 (.tmp 45) rfl q2 2 rfl (sgC sw lf s (.slice A l.length c)).toList _ qm.out hus rfl HSG.out ?_;simp only [Act.put,List.setIfInBounds_toArray,List.set_cons_succ,List.set_cons_zero,zT9];go_big_quiet_on)
      | (go_big_quiet_step ((go_at_call 159;exact callG (CV.out _)))))
     refine wpQuiet_nil ?_
     rintro w8 ⟨⟨w8',g8⟩,rfl⟩
     have G8:=zb G5 g8
     go_wp2_with fail
     go_ret
     exact⟨by rw [HE.out];rfl,G8⟩
  ·go_wp2_with fail
   go_ret
   exact⟨by rw [hE];rfl,G⟩
theorem zio (R:List Nat) (RA:Option Addr) (Rc:Nat) (h:Int) (cm n:Nat) (sw lf:Int) (s:Nat→Nat) (A:Option Addr) (c:Nat) (l:List Nat) (hc:cm<18446744073709551616) (hw:in64 (n:Int)) (hsw:in64 sw) (hlf:in64 lf) (hl:l.length≤1000) (hs:∀ k,k<18→s k<18446744073709551616) (hb:∀ x∈l,x<18446744073709551616)
 (hRl:R.length≤1000) (hRb:∀ x∈R,x<18446744073709551616) (q:Nat) (w:World) (hS:Std w) (hrR:Rd w w.heap.size RA (u64L R)) (hrl:Rd w w.heap.size A (u64L l)) (hq:w.rangeAt q 0 (akC cm (n:Int) sw lf s (.slice A l.length c)).toList) (hql:q<w.heap.size) :
 Calls Tryz.prog 98 #[.slice RA R.length Rc,.int .i64 h,.func (.func 99) #[] #[],.slice (some ⟨q,0,none⟩) 1 1] w fun e w'=>e=.returned (.int .i64 (ckE R h n (akD cm (n:Int)) sw lf s l))∧Grew w w':=by
 have hus:=Tryz.underlying77
 have hut:=Tryz.underlying79
 have hum:=Tryz.underlying263
 have HST:Hid (zI9 79=some (akC cm (n:Int) sw lf s (.slice A l.length c)).toList.length):=hQ9 zJ
 have HSI:Hid (zI9 79=some (akC cm (n:Int) sw lf s (.slice A l.length c)).size):=hQ9 zJ
 have HSM:Hid (zI9 263=some (mkC (n:Int) (akD cm (n:Int)) sw lf s (.slice A l.length c)).size):=hQ9 kr
 have HSG:Hid (zI9 77=some (sgC sw lf s (.slice A l.length c)).toList.length):=hQ9 zG
 have HOS:=hQ9 (kt cm (n:Int) sw lf s A l.length c)
 have HOM:=hQ9 (qx (n:Int) (akD cm (n:Int)) sw lf s A l.length c)
 have CM:=hQ9 (fun W hW=>zkj cm (n:Int) sw lf s A c l hc hw W hW)
 have hdl:=zeo cm (n:Int)
 have CVV:=hQ9 (fun W h1=>za6 (R.getD n 0) sw lf s A c l (akD cm (n:Int):Nat) h (by omega) hlf hs hb ⟨by omega,by omega⟩ W h1)
 obtain⟨d,hd⟩:∃ d,akD cm (n:Int)=d:=⟨_,rfl⟩
 rw [hd]at CM HSM HOM CVV ⊢
 have HS:=hQ9 hS
 have HRR:=hQ9 hrR
 have HRL:=hQ9 hrl
 have hn0:(0:Int)≤(n:Int):=by omega
 clear hd hdl hS hrR hrl hc hw hl hs hb hRb
 go_enter Tryz.func98,Tryz.ntmps98
 go_wp2_with fail
 go_loopw [14] (fun iv wr=>(iv=.int .i64 0∧wr.rangeAt q 0 (akC cm (n:Int) sw lf s (.slice A l.length c)).toList∧Grew w wr)∨(iv=.int .i64 1∧ckE R h n d sw lf s l=0∧Grew w wr)) (fun iv _=>1-(intOf iv).toNat)
 case atStart=>exact .inl ⟨rfl,hq,za _⟩
 case round =>
  clear hq
  rcases hrel with ⟨rfl,hq,G⟩ | ⟨rfl,hE,G⟩
  ·have zt:=Ag.new wr 79 (zA23)
   have HTH:Hid ((wr.alloc (.cells (zA23) 79)).there wr.heap.size 0 (akC cm (n:Int) sw lf s (.slice A l.length c)).size):=hQ9 (zt.thereN 23 rfl)
   have z1:=Ag.set (vs:=(akC cm (n:Int) sw lf s (.slice A l.length c)).toList) zt rfl
   have g1:Grew wr ((wr.alloc (.cells (zA23) 79)).setCells wr.heap.size 0 (akC cm (n:Int) sw lf s (.slice A l.length c)).toList):=zh (o:=0) (b:=wr.heap.size) (akC cm (n:Int) sw lf s (.slice A l.length c)).toList (ze (za wr) _) (zN9 _)
   obtain⟨w2,hw2⟩:∃ v,(wr.alloc (.cells (zA23) 79)).setCells wr.heap.size 0 (akC cm (n:Int) sw lf s (.slice A l.length c)).toList=v:=⟨_,rfl⟩
   rw [hw2]at z1 g1
   have HW2:=hQ9 hw2
   have G2:=zb G g1
   have hm1:=z1.cell
   clear hw2 zt g1
   go_wp2_with(first
    | (with_reducible refine wpList_load_mid rfl 79 (.tmp 16) rfl q 0 rfl (akC cm (n:Int) sw lf s (.slice A l.length c)).toList _ hq hut rfl HST.out ?_)
    | (with_reducible refine wpList_store_mid rfl 79 (.tmp 10) (.tmp 17) rfl wr.heap.size 0 (akC cm (n:Int) sw lf s (.slice A l.length c)) rfl rfl HTH.out HSI.out HOS.out ?_;rw [HW2.out];clear HW2 HTH;generalize wr.heap.size=q1 at *)
    | (with_reducible refine wpList_load_mid rfl 79 (.tmp 10) rfl q1 0 rfl (akC cm (n:Int) sw lf s (.slice A l.length c)).toList _ hm1 hut rfl HST.out ?_))
   refine(CM.out w2 (HS.out.grew G2)).mono ?_
   rintro e w3 ⟨rfl,gg⟩
   have G3:=zb G2 gg
   clear hq G G2 gg z1 hm1
   have zt:=Ag.new w3 263 (zM23)
   have HTH:Hid ((w3.alloc (.cells (zM23) 263)).there w3.heap.size 0 (mkC (n:Int) d sw lf s (.slice A l.length c)).size):=hQ9 (zt.thereN 23 rfl)
   have z4:=Ag.set (vs:=(mkC (n:Int) d sw lf s (.slice A l.length c)).toList) zt rfl
   have g4:Grew w3 ((w3.alloc (.cells (zM23) 263)).setCells w3.heap.size 0 (mkC (n:Int) d sw lf s (.slice A l.length c)).toList):=zh (o:=0) (b:=w3.heap.size) (mkC (n:Int) d sw lf s (.slice A l.length c)).toList (ze (za w3) _) (zN9 _)
   obtain⟨w5,hw5⟩:∃ v,(w3.alloc (.cells (zM23) 263)).setCells w3.heap.size 0 (mkC (n:Int) d sw lf s (.slice A l.length c)).toList=v:=⟨_,rfl⟩
   rw [hw5]at z4 g4
   have HW5:=hQ9 hw5
   have G5:=zb G3 g4
   clear hw5 zt g4 G3
   go_wp2_with(with_reducible refine wpList_store_mid rfl 263 (.tmp 11) (.tmp 20) rfl w3.heap.size 0 (mkC (n:Int) d sw lf s (.slice A l.length c)) rfl rfl HTH.out HSM.out HOM.out ?_;rw [HW5.out];clear HW5 HTH;generalize w3.heap.size=q2 at *)
   simp only [Act.put]
   have m0:∀ y:Gr w5,y.val.cell? ⟨q2,0,none⟩=some (.int .i64 (n:Int)):=fun y=>by simpa using (z4.gr y).cell 0 _ rfl
   have m1:∀ y:Gr w5,y.val.cell? ⟨q2,1,none⟩=some (.int .u64 (d:Nat)):=fun y=>by simpa using (z4.gr y).cell 1 _ rfl
   have m2:∀ y:Gr w5,y.val.cell? ⟨q2,2,none⟩=some (.int .i64 sw):=fun y=>by simpa using (z4.gr y).cell 2 _ rfl
   have qm:Hid (∀ y:Gr w5,y.val.rangeAt q2 2 (sgC sw lf s (.slice A l.length c)).toList):=hQ9 (fun y=>zkh (z4.gr y).cell)
   have CV:=hQ9 (fun(y:Gr w5)=>CVV.out y.val ((HRL.out.gr G5).gr y.ok))
   have h00:¬(n:Int)<0:=by omega
   clear z4
   by_cases hA:R.length≤n
   ·have HE:Hid (ckE R h n d sw lf s l=7):=hQ9 (by unfold ckE;rw [if_pos hA])
    have e1:(R.length:Int)≤(n:Int):=by omega
    refine zg (za w5) (by kernel_rfl) (by kernel_rfl) ?_
    repeat (first
     | (go_big_quiet_want;refine zi 77 (.tmp 45) rfl q2 2 rfl (sgC sw lf s (.slice A l.length c)).toList _ qm.out hus rfl HSG.out ?_;simp only [Act.put,List.setIfInBounds_toArray,List.set_cons_succ,List.set_cons_zero,zT9];go_big_quiet_on)
     | (go_big_quiet_step ((go_at_call 159;exact callG (CV.out _)))))
    refine wpQuiet_nil ?_
    rintro w8 ⟨⟨w8',g8⟩,rfl⟩
    have G8:=zb G5 g8
    go_wp2_with fail
    go_ret
    exact⟨by rw [HE.out];rfl,G8⟩
   ·have hA1:¬(R.length:Int)≤(n:Int):=by omega
    have hnR:n<R.length:=by omega
    have hgd:R.getD n 0=R[n]:=by simp [List.getD,hnR]
    obtain⟨ad,hRA,-,hc0⟩:=yv (HRR.out.gr G5) n hnR
    subst hRA
    have mr:∀ y:Gr w5,y.val.cell? (ad.add n)=some (.int .u64 ((R.getD n 0:Nat):Int)):=fun y=>by
     obtain⟨ad',e,-,hc1⟩:=yv ((HRR.out.gr G5).gr y.ok) n hnR
     cases e
     rw [hgd];exact hc1
    clear hgd hc0
    have hnRi:(n:Int)<(R.length:Int):=by omega
    by_cases hB:sw=(n:Int)
    ·have HE0:Hid (ckE R h n d sw lf s l=if vrS (R.getD n 0) lf s l (d:Int) h=true then 0 else 7):=hQ9 (by unfold ckE;rw [if_neg hA,if_pos hB])
     generalize R.getD n 0=r at *
     have e2:(sw != (n:Int))=false:=by simp [hB]
     obtain⟨vb,hvb⟩:∃ v,vrS r lf s l (d:Int) h=v:=⟨_,rfl⟩
     rw [hvb]at CV CVV HE0
     clear hvb CVV hB
     cases vb
     ·have HE:Hid (ckE R h n d sw lf s l=7):=hQ9 (by rw [HE0.out,if_neg (by simp)])
      clear HE0
      refine zg (za w5) (by kernel_rfl) (by kernel_rfl) ?_
      repeat (first
       | (go_big_quiet_want;refine zi 77 (.tmp 45) rfl q2 2 rfl (sgC sw lf s (.slice A l.length c)).toList _ qm.out hus rfl HSG.out ?_;simp only [Act.put,List.setIfInBounds_toArray,List.set_cons_succ,List.set_cons_zero,zT9];go_big_quiet_on)
       | (go_big_quiet_step ((go_at_call 159;exact callG (CV.out _)))))
      refine wpQuiet_nil ?_
      rintro w8 ⟨⟨w8',g8⟩,rfl⟩
      have G8:=zb G5 g8
      go_wp2_with fail
      go_ret
      exact⟨by rw [HE.out];rfl,G8⟩
     ·have HE:Hid (ckE R h n d sw lf s l=0):=hQ9 (by rw [HE0.out,if_pos rfl])
      clear HE0
      refine zg (za w5) (by kernel_rfl) (by kernel_rfl) ?_
      repeat (first
       | (go_big_quiet_want;refine zi 77 (.tmp 45) rfl q2 2 rfl (sgC sw lf s (.slice A l.length c)).toList _ qm.out hus rfl HSG.out ?_;simp only [Act.put,List.setIfInBounds_toArray,List.set_cons_succ,List.set_cons_zero,zT9];go_big_quiet_on)
       | (go_big_quiet_step ((go_at_call 159;exact callG (CV.out _)))))
      refine wpQuiet_nil ?_
      rintro w8 ⟨⟨w8',g8⟩,rfl⟩
      have G8:=zb G5 g8
      go_wp2_with fail
      go_roundw
      case rel=>exact .inr ⟨by go_num,HE.out,G8⟩
      case measure=>simp [intOf]
    ·have HE:Hid (ckE R h n d sw lf s l=7):=hQ9 (by unfold ckE;rw [if_neg hA,if_neg hB])
     generalize R.getD n 0=r at *
     have e2:(sw != (n:Int))=true:=by simp [hB]
     clear hB
     refine zg (za w5) (by kernel_rfl) (by kernel_rfl) ?_
     repeat (first
      | (go_big_quiet_want;refine zi 77 (.tmp 45) rfl q2 2 rfl (sgC sw lf s (.slice A l.length c)).toList _ qm.out hus rfl HSG.out ?_;simp only [Act.put,List.setIfInBounds_toArray,List.set_cons_succ,List.set_cons_zero,zT9];go_big_quiet_on)
      | (go_big_quiet_step ((go_at_call 159;exact callG (CV.out _)))))
     refine wpQuiet_nil ?_
     rintro w8 ⟨⟨w8',g8⟩,rfl⟩
     have G8:=zb G5 g8
     go_wp2_with fail
     go_ret
     exact⟨by rw [HE.out];rfl,G8⟩
  ·go_wp2_with fail
   go_ret
   exact⟨by rw [hE];rfl,G⟩
theorem zg6 (cm:Nat) (who at_ sw lf:Int) (s:Nat→Nat) (A:Option Addr) (n c:Nat):Array.foldl (fun(cs:Array Value) (x:Value × Nat)=>cs.setIfInBounds x.snd x.fst) (#[.int .u64 0,.int .i64 0,.int .i64 0,.int .i64 0,.int .i64 0,.int .u64 0,.int .u64 0,.int .u64 0,.int .u64 0,.int .u64 0,.int .u64 0,.int .u64 0,.int .u64 0,.int .u64 0,.int .u64 0,.int .u64 0,.int .u64 0,.int .u64 0,.int .u64 0,.int .u64 0,.int .u64 0,.int .u64 0,.int .u64 0,.slice none 0 0]) (stC cm who at_ sw lf s (.slice A n c)).zipIdx 0 24=stC cm who at_ sw lf s (.slice A n c):=by kernel_rfl
def kyS (f:Int) (RA:Option Addr) (n c:Nat) (h:Int):Array Value:=#[.int .i64 f,.slice RA n c,.int .i64 h]
noncomputable def vaE (f:Int) (R:List Nat) (h:Int) (cm:Nat) (who at_ sw lf:Int) (s:Nat→Nat) (l:List Nat):Int :=
 if who<0 then 1 else if 3*f+1≤who then 1 else if tmB at_=true then ckE R h who.toNat (stD cm who at_) sw lf s l else 1
def cyE (f:Int) (n:Nat) (h:Int):Int:=if f<1∨3<f then 1 else if (n:Int)=3*f+1∧0≤h∧h≤8 then 0 else 1
theorem ziq (f:Int) (hf:1≤f∧f≤3) (R:List Nat) (RA:Option Addr) (Rc:Nat) (h:Int) (cm:Nat) (who at_ sw lf:Int) (s:Nat→Nat) (A:Option Addr) (c:Nat) (l:List Nat) (hc:cm<18446744073709551616) (hw:in64 who) (ha:in64 at_) (hsw:in64 sw) (hlf:in64 lf) (hl:l.length≤1000) (hs:∀ k,k<18→s k<18446744073709551616) (hb:∀ x∈l,x<18446744073709551616)
 (hRl:R.length≤1000) (hRb:∀ x∈R,x<18446744073709551616) (w:World) (hS:Std w) (hrR:Rd w w.heap.size RA (u64L R)) (hrl:Rd w w.heap.size A (u64L l)) :
 Calls Tryz.prog 168 #[.agg (kyS f RA R.length Rc h),.agg (stC cm who at_ sw lf s (.slice A l.length c))] w fun e w'=>e=.returned (.int .i64 (vaE f R h cm who at_ sw lf s l))∧Grew w w':=by
 have hut:=Tryz.underlying157
 have huf:=Tryz.underlying89
 have HST:Hid (zI9 157=some (stC cm who at_ sw lf s (.slice A l.length c)).toList.length):=hQ9 zK
 have HCF:Hid (zI9 89=some [Value.int .i64 f].length):=hQ9 (by kernel_rfl)
 have CN:=hQ9 (fun W=>qn_ok f hf W)
 have CT:=hQ9 (fun W=>zco at_ W)
 have zk:=(Ag.new w 91 (kyS f RA R.length Rc h)).grew (ze (za _) (.cells (stC cm who at_ sw lf s (.slice A l.length c)) 157))
 have zs:Ag ((w.alloc (.cells (kyS f RA R.length Rc h) 91)).alloc (.cells (stC cm who at_ sw lf s (.slice A l.length c)) 157)) (w.heap.size+1) (stC cm who at_ sw lf s (.slice A l.length c)).toList:=by
  have:=Ag.new (w.alloc (.cells (kyS f RA R.length Rc h) 91)) 157 (stC cm who at_ sw lf s (.slice A l.length c))
  simpa using this
 have G1:=ze (ze (za w) (.cells (kyS f RA R.length Rc h) 91)) (.cells (stC cm who at_ sw lf s (.slice A l.length c)) 157)
 have HS:=hQ9 hS
 have HR:=hQ9 hrR
 have HL:=hQ9 hrl
 have HRb:=hQ9 hRb
 have HB:=hQ9 hb
 have HSS:=hQ9 hs
 have h3f:(4:Int)≤3*f+1∧3*f+1≤10:=by omega
 have HF:=hQ9 hf
 clear hS hrR hrl hRb hb hs hf
 go_enter Tryz.func168,Tryz.ntmps168
 go_wp2_with fail
 generalize (w.alloc (.cells (kyS f RA R.length Rc h) 91)).alloc (.cells (stC cm who at_ sw lf s (.slice A l.length c)) 157)=w1 at *
 have m1:∀ y:Gr w1,y.val.cell? ⟨w.heap.size+1,1,none⟩=some (.int .i64 who):=fun y=>by simpa using (zs.gr y).cell 1 _ rfl
 have m2:∀ y:Gr w1,y.val.cell? ⟨w.heap.size+1,2,none⟩=some (.int .i64 at_):=fun y=>by simpa using (zs.gr y).cell 2 _ rfl
 have qf:Hid (∀ y:Gr w1,y.val.rangeAt w.heap.size 0 [.int .i64 f]):=hQ9 (fun y j v hj=>by
  have hj0:j=0:=by have:=(List.getElem?_eq_some_iff.1 hj).1;simpa using this
  subst hj0
  have h0:v=.int .i64 f:=by simpa using hj.symm
  rw [h0]
  exact(zk.gr y).cell 0 _ rfl)
 obtain⟨nn,hnn⟩:∃ nn,3*f+1=nn:=⟨_,rfl⟩
 rw [hnn]at CN h3f
 have HNN:=hQ9 hnn
 clear hnn
 by_cases hA:who<0
 ·have HE:Hid (vaE f R h cm who at_ sw lf s l=1):=hQ9 (by unfold vaE;rw [if_pos hA])
  refine zg (za w1) (by kernel_rfl) (by kernel_rfl) ?_
  repeat (first
   | (go_big_quiet_want;refine zi 89 (.tmp 11) rfl w.heap.size 0 rfl [.int .i64 f] _ qf.out huf rfl HCF.out ?_;simp only [Act.put,List.setIfInBounds_toArray,List.set_cons_succ,List.set_cons_zero,zT9];go_big_quiet_on)
   | (go_big_quiet_step (first
    | (go_at_call 97;exact callG (CN.out _))
    | (go_at_call 179;exact callS (CT.out _)))))
  refine wpQuiet_nil ?_
  rintro w8 ⟨⟨w8',g8⟩,rfl⟩
  have G8:=zb G1 g8
  go_wp2_with fail
  go_ret
  exact⟨by rw [HE.out];rfl,G8⟩
 by_cases hB:nn≤who
 ·have HE:Hid (vaE f R h cm who at_ sw lf s l=1):=hQ9 (by unfold vaE;rw [if_neg hA,HNN.out,if_pos hB])
  refine zg (za w1) (by kernel_rfl) (by kernel_rfl) ?_
  repeat (first
   | (go_big_quiet_want;refine zi 89 (.tmp 11) rfl w.heap.size 0 rfl [.int .i64 f] _ qf.out huf rfl HCF.out ?_;simp only [Act.put,List.setIfInBounds_toArray,List.set_cons_succ,List.set_cons_zero,zT9];go_big_quiet_on)
   | (go_big_quiet_step (first
    | (go_at_call 97;exact callG (CN.out _))
    | (go_at_call 179;exact callS (CT.out _)))))
  refine wpQuiet_nil ?_
  rintro w8 ⟨⟨w8',g8⟩,rfl⟩
  have G8:=zb G1 g8
  go_wp2_with fail
  go_ret
  exact⟨by rw [HE.out];rfl,G8⟩
 have HE0:Hid (vaE f R h cm who at_ sw lf s l=if tmB at_=true then ckE R h who.toNat (stD cm who at_) sw lf s l else 1):=hQ9 (by unfold vaE;rw [if_neg hA,HNN.out,if_neg hB])
 generalize tmB at_=tb at *
 cases tb
 ·have HE:Hid (vaE f R h cm who at_ sw lf s l=1):=hQ9 (by rw [HE0.out,if_neg (by simp)])
  clear HE0
  refine zg (za w1) (by kernel_rfl) (by kernel_rfl) ?_
  repeat (first
   | (go_big_quiet_want;refine zi 89 (.tmp 11) rfl w.heap.size 0 rfl [.int .i64 f] _ qf.out huf rfl HCF.out ?_;simp only [Act.put,List.setIfInBounds_toArray,List.set_cons_succ,List.set_cons_zero,zT9];go_big_quiet_on)
   | (go_big_quiet_step (first
    | (go_at_call 97;exact callG (CN.out _))
    | (go_at_call 179;exact callS (CT.out _)))))
  refine wpQuiet_nil ?_
  rintro w8 ⟨⟨w8',g8⟩,rfl⟩
  have G8:=zb G1 g8
  go_wp2_with fail
  go_ret
  exact⟨by rw [HE.out];rfl,G8⟩
 have HE:Hid (vaE f R h cm who at_ sw lf s l=ckE R h who.toNat (stD cm who at_) sw lf s l):=hQ9 (by rw [HE0.out,if_pos rfl])
 clear HE0
 obtain⟨n,rfl⟩:=Int.eq_ofNat_of_zero_le (show 0≤who by omega)
 rw [Int.toNat_natCast]at HE
 refine zg (za w1) (by kernel_rfl) (by kernel_rfl) ?_
 repeat (first
  | (go_big_quiet_want;refine zi 89 (.tmp 11) rfl w.heap.size 0 rfl [.int .i64 f] _ qf.out huf rfl HCF.out ?_;simp only [Act.put,List.setIfInBounds_toArray,List.set_cons_succ,List.set_cons_zero,zT9];go_big_quiet_on)
  | (go_big_quiet_step (first
   | (go_at_call 97;exact callG (CN.out _))
   | (go_at_call 179;exact callS (CT.out _)))))
 refine wpQuiet_nil ?_
 rintro w8 ⟨⟨w8',g8⟩,rfl⟩
 have G8:=zb G1 g8
 have zk8:=zk.grew g8
 have zs8:=zs.grew g8
 have hk1:w8.cell? ⟨w.heap.size,1,none⟩=some (.slice RA R.length Rc):=by simpa using zk8.cell 1 _ rfl
 have hk2:w8.cell? ⟨w.heap.size,2,none⟩=some (.int .i64 h):=by simpa using zk8.cell 2 _ rfl
 have hm:=zs8.cell
 have hsz:(stC cm (n:Int) at_ sw lf s (.slice A l.length c)).size=24:=rfl
 clear m1 m2 qf
 go_wp2_with(with_reducible refine wpList_load_mid rfl 157 (.tmp 3) rfl (w.heap.size+1) 0 rfl (stC cm (n:Int) at_ sw lf s (.slice A l.length c)).toList _ hm hut rfl HST.out ?_;simp only [zT9])
 rw [zg6]
 have GA:=ze (za w8) (.cells (stC cm (n:Int) at_ sw lf s (.slice A l.length c)) 157)
 have zq:=Ag.new w8 157 (stC cm (n:Int) at_ sw lf s (.slice A l.length c))
 have G9:=zb G8 GA
 refine(zkp R RA Rc h cm n at_ sw lf s A c l hc hw ha hsw hlf hl HSS.out HB.out hRl HRb.out w8.heap.size _ (HS.out.grew G9) (HR.out.gr G9) (HL.out.gr G9) zq.cell zq.lt).mono ?_
 rintro e w9 ⟨rfl,gg⟩
 go_wp2_with fail
 go_ret
 exact⟨by rw [HE.out];rfl,zb G9 gg⟩
theorem zo9:Tryz.prog.built 157 []=some (#[.int .u64 0,.int .i64 0,.int .i64 0,.int .i64 0,.int .i64 0,.int .u64 0,.int .u64 0,.int .u64 0,.int .u64 0,.int .u64 0,.int .u64 0,.int .u64 0,.int .u64 0,.int .u64 0,.int .u64 0,.int .u64 0,.int .u64 0,.int .u64 0,.int .u64 0,.int .u64 0,.int .u64 0,.int .u64 0,.int .u64 0,.slice none 0 0]):=by kernel_rfl
theorem zkq (b p:Nat) (kw sd:Int) (l:List Nat) (nx rs:Nat) (hl:l.length≤256) (hn:nx≤l.length) (hr:rs≤l.length) (hkk:leavesOk l.length=true) (hbb:∀ n∈l,n<18446744073709551616) (hsd:U64 sd) (hpp:∀ m,m<l.length→(pathN l m).length≤8) (cm:Nat) (hc:cm<18446744073709551616) (who at_:Int) (hw:in64 who) (ha:in64 at_) (ht:tmB at_=true) (he1:nx<l.length) (he2:nx<rs) (w:World) (hS:Std w) (h:KyAt w b p kw sd l nx rs) :
 Calls Tryz.prog 122 #[.pointer (some ⟨b,0,none⟩),.int .i64 who,.int .u64 (cm:Nat),.int .i64 at_] w fun e w'=>(∃ A c,e=.returned (.tuple #[.agg (stC cm who at_ kw (nx:Int) (signF (secN sd (nx:Int)) (stD cm who at_)) (.slice A (pathN l nx).length c)),.int .i64 0])∧Rd w' w'.heap.size A (u64L (pathN l nx))∧(∀ ad,A=some ad→w.heap.size≤ad.block))∧Tn b w w'∧KyAt w' b p kw sd l (nx+1) rs:=by
 have z0:=Ag.new w 157 (zS24)
 have g0:=ze (za w) (.cells (zS24) 157)
 have hut:=Tryz.underlying157
 have hus:=Tryz.underlying77
 have bz:∀ W,(Instr.build 157 #[]).run Tryz.prog W=.ok (.agg (#[.int .u64 0,.int .i64 0,.int .i64 0,.int .i64 0,.int .i64 0,.int .u64 0,.int .u64 0,.int .u64 0,.int .u64 0,.int .u64 0,.int .u64 0,.int .u64 0,.int .u64 0,.int .u64 0,.int .u64 0,.int .u64 0,.int .u64 0,.int .u64 0,.int .u64 0,.int .u64 0,.int .u64 0,.int .u64 0,.int .u64 0,.slice none 0 0])) W:=fun W=>run_build W 157 #[] _ zo9
 have CT:=hQ9 (fun W=>zco at_ W)
 rw [ht]at CT
 have CD:=hQ9 (fun W hW=>qO cm who at_ hc hw ha W hW)
 have hdl:=zen cm who at_
 have CS:=hQ9 (fun W hW=>zcq b p kw sd l nx rs hl hn hr (stD cm who at_:Nat) hkk hbb hsd ⟨by omega,by omega⟩ W hW)
 have hpl8:=zg4 l nx rs hpp
 obtain⟨d,hd⟩:∃ d,stD cm who at_=d:=⟨_,rfl⟩
 rw [hd]at CD
 simp only [hd]at CS
 obtain⟨a1,ha1⟩:∃ v,soW l nx rs kw=v:=⟨_,rfl⟩
 obtain⟨a2,ha2⟩:∃ v,soL l nx rs=v:=⟨_,rfl⟩
 obtain⟨s,hs⟩:∃ v,soS l nx rs sd (d:Int)=v:=⟨_,rfl⟩
 obtain⟨pl,hp1⟩:∃ v,soP l nx rs=v:=⟨_,rfl⟩
 obtain⟨er,he1⟩:∃ v,soE l nx rs=v:=⟨_,rfl⟩
 obtain⟨n2,hn2⟩:∃ v,soN l nx rs=v:=⟨_,rfl⟩
 simp only [ha1,ha2,hs,hp1,he1,hn2]at CS
 rw [hp1]at hpl8
 have hkey:soW l nx rs kw=kw∧soL l nx rs=(nx:Int)∧soS l nx rs sd (d:Int)=signF (secN sd (nx:Int)) d∧soP l nx rs=pathN l nx∧soE l nx rs=0∧soN l nx rs=nx+1:=by
  have q1:¬l.length≤nx:=by omega
  have q2:¬rs≤nx:=by omega
  unfold soW soL soS soP soE soN
  simp only [if_neg q1,if_neg q2,Int.toNat_natCast,and_self]
 have HA1:Hid (kw=a1):=hQ9 (hkey.1.symm.trans ha1)
 have HA2:Hid ((nx:Int)=a2):=hQ9 (hkey.2.1.symm.trans ha2)
 have HSS:Hid (signF (secN sd (nx:Int)) d=s):=hQ9 (hkey.2.2.1.symm.trans hs)
 have HP1:Hid (pathN l nx=pl):=hQ9 (hkey.2.2.2.1.symm.trans hp1)
 have hne:(er != 0)=false:=by rw [←he1,hkey.2.2.2.2.1];rfl
 have HER:Hid (er=0):=hQ9 (he1.symm.trans hkey.2.2.2.2.1)
 have HN2:Hid (nx+1=n2):=hQ9 (hkey.2.2.2.2.2.symm.trans hn2)
 have HDD:=hQ9 hd
 have HPW:Hid (p<w.heap.size):=hQ9 h.pub.lt
 clear ha1 ha2 hs hp1 he1 hn2 hkey
 have hbw:b<w.heap.size:=h.key.lt
 have HS:=hQ9 hS
 have K1:=h.grew g0
 clear hS h ht hkk hbb hsd hpp hd hdl hc hw ha
 obtain⟨w1,hw1⟩:∃ v,w.alloc (.cells (zS24) 157)=v:=⟨_,rfl⟩
 rw [hw1]at z0 g0 K1
 have HW1:=hQ9 hw1
 clear hw1
 go_enter Tryz.func122,Tryz.ntmps122
 go_wp2_with(go_at_call 179;rw [HW1.out];refine(CT.out _).mono ?_;rintro e v1 ⟨rfl,rfl⟩)
 refine(CD.out w1 (HS.out.grew g0)).mono ?_
 rintro e w2 ⟨rfl,gg⟩
 have z2:=z0.grew gg
 have K2:=K1.grew gg
 have G2:=zb g0 gg
 clear z0 K1 g0 gg
 go_wp2_with fail
 refine(CS.out w2 K2).mono ?_
 rintro e w3 ⟨⟨A,c,rfl,r3,hA⟩,t3,K3⟩
 have z3:=z2.kp (kp_tn t3) (show ¬w.heap.size=b by omega)
 have T3:Tn b w w3:=tn_kp (kX G2) (kp_tn t3) (fun i e=>.inl e)
 have hz3:=z2.lt
 have hfr:∀ ad,A=some ad→w.heap.size<ad.block:=fun ad e=>by have:=hA ad e;omega
 have HFR:=hQ9 hfr
 have HG2:=hQ9 G2.size
 clear K2 G2 t3 hA z2 hfr
 have HSI1:Hid (zI9 77=some (sgC a1 a2 s (.slice A pl.length c)).size):=hQ9 zG
 have HSL1:Hid (zI9 77=some (sgC a1 a2 s (.slice A pl.length c)).toList.length):=hQ9 zG
 have HON1:=hQ9 (yS a1 a2 s A pl.length c)
 have HBU:=hQ9 (zeq cm who at_ a1 a2 s A pl.length c)
 have zt:=Ag.new w3 77 (zS21)
 have HTH:Hid ((w3.alloc (.cells (zS21) 77)).there w3.heap.size 0 (sgC a1 a2 s (.slice A pl.length c)).size):=hQ9 (zt.thereN 21 rfl)
 have z4:=Ag.set (vs:=(sgC a1 a2 s (.slice A pl.length c)).toList) zt rfl
 have g5:Grew w3 ((w3.alloc (.cells (zS21) 77)).setCells w3.heap.size 0 (sgC a1 a2 s (.slice A pl.length c)).toList):=zh (o:=0) (b:=w3.heap.size) (sgC a1 a2 s (.slice A pl.length c)).toList (ze (za w3) _) (zN9 _)
 have K5:=K3.grew g5
 have r5:=r3.gr g5
 have z5:=z3.grew g5
 have T5:Tn b w ((w3.alloc (.cells (zS21) 77)).setCells w3.heap.size 0 (sgC a1 a2 s (.slice A pl.length c)).toList):=tn_kp T3 (zF (S:=fun _=>False) g5) (fun i e=>e.elim)
 have hz5:=z5.lt
 have hz3':=z3.lt
 obtain⟨g1,hg1⟩:∃ g,sgC a1 a2 s (.slice A pl.length c)=g:=⟨_,rfl⟩
 rw [hg1]at HSI1 HSL1 HON1 HTH HBU z4 K5 r5 z5 T5 hz5 ⊢
 obtain⟨w5,hw5⟩:∃ v,(w3.alloc (.cells (zS21) 77)).setCells w3.heap.size 0 g1.toList=v:=⟨_,rfl⟩
 rw [hw5]at z4 K5 r5 z5 T5 hz5
 have HW5:=hQ9 hw5
 clear hw5 hg1 zt g5 K3 r3 z3 T3
 have HTZ:Hid (w5.there w.heap.size 0 (stC cm who at_ a1 a2 s (.slice A pl.length c)).size):=hQ9 (z5.thereN 24 rfl)
 have HOZ:=hQ9 (jf cm who at_ a1 a2 s A pl.length c)
 have HSZ:Hid (zI9 157=some (stC cm who at_ a1 a2 s (.slice A pl.length c)).size):=hQ9 zK
 have HSZL:Hid (zI9 157=some (stC cm who at_ a1 a2 s (.slice A pl.length c)).toList.length):=hQ9 zK
 have z6:=Ag.set (vs:=(stC cm who at_ a1 a2 s (.slice A pl.length c)).toList) z5 rfl
 have K6:=zn (stC cm who at_ a1 a2 s (.slice A pl.length c)).toList w.heap.size 0 w5
 have KK:=K5.kp K6 (by show ¬b=w.heap.size;omega) (by show ¬p=w.heap.size;have:=HPW.out;omega)
 have TT:Tn b w (w5.setCells w.heap.size 0 (stC cm who at_ a1 a2 s (.slice A pl.length c)).toList):=tn_kp T5 K6 (fun i (e:i=w.heap.size)=>.inr (by omega))
 have RR:=(r5.kp K6 (zN9 _) (fun ad e1 _ (e3:ad.block=w.heap.size)=>by have:=HFR.out ad e1;omega)).more K6.size
 have hm4:=z4.cell
 obtain⟨g2,hg2⟩:∃ g,stC cm who at_ a1 a2 s (.slice A pl.length c)=g:=⟨_,rfl⟩
 have HG2':=hQ9 hg2
 rw [hg2]at HTZ HOZ HSZ HSZL HBU z6 KK TT RR
 have bz2:∀ W,(Instr.build 157 #[(0,.int .u64 (cm:Nat)),(1,.int .i64 who),(2,.int .i64 at_),(3,.agg g1)]).run Tryz.prog W=.ok (.agg g2) W:=fun W=>run_build W 157 _ _ HBU.out
 clear z5 K5 r5 T5 K6 hg2
 go_wp2_with(first
  | (with_reducible refine wpList_store_mid rfl 77 (.tmp 10) (.tmp 23) rfl w3.heap.size 0 g1 rfl rfl HTH.out HSI1.out HON1.out ?_;rw [HW5.out];clear HW5 HTH)
  | (with_reducible refine wpList_load_mid rfl 77 (.tmp 10) rfl w3.heap.size 0 rfl g1.toList _ hm4 hus rfl HSL1.out ?_;simp only [zT9])
  | (with_reducible refine zC rfl 157 #[(0,.tmp 29),(1,.tmp 30),(2,.tmp 31),(3,.tmp 32)] rfl g2 ?_ ?_;· simpa [Act.eval,Act.put]using HBU.out)
  | (with_reducible refine wpList_store_mid rfl 157 (.tmp 8) (.tmp 33) rfl w.heap.size 0 g2 rfl rfl HTZ.out HSZ.out HOZ.out ?_))
 exact bodyPost_ret (zw Tryz.results122 _ _ w.heap.size _ _ _ rfl rfl z6 hut rfl HSZL.out) rfl ⟨⟨A,c,by show Ending.returned (.tuple #[.agg g2.toList.toArray,.int .i64 0])=_;rw [zT9,←HG2'.out,HDD.out,HSS.out,HP1.out,HA2.out,HA1.out],by rw [HP1.out];exact RR,fun ad e=>by have:=HFR.out ad e;omega⟩,TT,by rw [HN2.out];exact KK⟩
def sdI (seed:Int) (i:Nat):Int:=(seed+(i:Int))%18446744073709551616
theorem zbv (seed:Int) (i:Nat):U64 (sdI seed i):=by unfold sdI;exact⟨by omega,by omega⟩
noncomputable def ksL (seed:Int) (h i:Nat):List Nat:=pubsL (sdI seed i) (2^h)
noncomputable def rtL (seed:Int) (h n:Nat):List Nat:=(List.range n).map fun i=>rootN (ksL seed h i)
def ptrL (p:Nat→Nat) (n:Nat):List Value:=(List.range n).map fun i=>.pointer (some ⟨p i+1,0,none⟩)
theorem znk (seed:Int) (h n:Nat):rtL seed h (n+1)=rtL seed h n++[rootN (ksL seed h n)]:=by simp [rtL,List.range_succ]
theorem zkr (p:Nat→Nat) (n:Nat):ptrL p (n+1)=ptrL p n++[.pointer (some ⟨p n+1,0,none⟩)]:=by simp [ptrL,List.range_succ]
theorem zir {p q:Nat→Nat} {n:Nat} (h:∀ i,i<n→p i=q i):ptrL p n=ptrL q n:=by
 unfold ptrL
 apply List.map_congr_left
 intro i hi
 rw [h i (List.mem_range.1 hi)]
structure KsAt (w:World) (B n:Nat) (p:Nat→Nat) (seed:Int) (h:Nat):Prop where
 key:∀ i,i<n→KyAt w (p i+1) (p i) (i:Int) (sdI seed i) (ksL seed h i) 0 (2^h)
 low:∀ i,i<n→B≤p i
 apart:∀ i j,i<n→j<n→i≠j→p i≠p j∧p i+1≠p j∧p i≠p j+1
theorem KsAt.kp {S:Nat→Prop} {w w':World} {B n:Nat} {p:Nat→Nat} {seed:Int} {h:Nat} (k:KsAt w B n p seed h) (t:Kp S w w') (hs:∀ i,i<n→¬S (p i)∧¬S (p i+1)):KsAt w' B n p seed h :=
 ⟨fun i hi=>(k.key i hi).kp t (hs i hi).2 (hs i hi).1,k.low,k.apart⟩
theorem KsAt.grew {w w':World} {B n:Nat} {p:Nat→Nat} {seed:Int} {h:Nat} (k:KsAt w B n p seed h) (t:Grew w w'):KsAt w' B n p seed h:=k.kp (S:=fun _=>False) (zF t) (fun i _=>⟨fun h=>h,fun h=>h⟩)
theorem KsAt.snoc {w:World} {B n:Nat} {p:Nat→Nat} {seed:Int} {h q:Nat} (k:KsAt w B n p seed h) (hq:KyAt w (q+1) q (n:Int) (sdI seed n) (ksL seed h n) 0 (2^h)) (hB:B≤q) (hlt:∀ i,i<n→p i+1<q) :
 KsAt w B (n+1) (fun i=>if i=n then q else p i) seed h:=by
 refine⟨fun i hi=>?_,fun i hi=>?_,fun i j hi hj hij=>?_⟩
 ·by_cases e:i=n
  ·subst e;simpa using hq
  ·simpa [e]using k.key i (by omega)
 ·by_cases e:i=n
  ·simpa [e]using hB
  ·simpa [e]using k.low i (by omega)
 ·by_cases e:i=n
  ·have e2:j≠n:=fun h=>hij (e.trans h.symm)
   have:=hlt j (by omega)
   simp only [if_pos e,if_neg e2]
   omega
  ·by_cases e2:j=n
   ·have:=hlt i (by omega)
    simp only [if_pos e2,if_neg e]
    omega
   ·simpa [e,e2]using k.apart i j (by omega) (by omega) hij
def Sep (v u:Value) (n:Nat) (p:Nat→Nat):Prop:=∀ g,v.ownBlock=some g→u.ownBlock≠some g∧∀ i,i<n→g≠p i∧g≠p i+1
theorem zis {P:Program} {fn:Func} {p u:Tmp} {ty:TypeId} (h:fn.results=#[.tmp u,.cell p ty]) (tmps:Array Value) (w:World) (b:Nat) (cs:List Value) (d:TypeDesc) (v:Value)
 (hp:tmps.getD p undef=.pointer (some ⟨b,0,none⟩)) (hv:tmps.getD u undef=v) (hz:Ag w b cs) (hu:P.underlying ty=some d) (hd:d.isRow=true) (hi:(P.info? ty).map (·.size)=some cs.length) :
 (results fn tmps).run P w=.ok (.tuple #[v,.agg cs.toArray]) w:=by
 have hp':tmps[p]?.getD undef=.pointer (some ⟨b,0,none⟩):=by simpa using hp
 have hv':tmps[u]?.getD undef=v:=by simpa using hv
 simp [results,h,hp',hv',asAddr,run_loadVar_mid w b 0 ty cs d hz.cell hu hd hi]
structure OwnS (w:World) (B:Nat) (t:TypeId) (xs:List Value) (u:Value) (lo:Nat) (v:Value):Prop where
 own:w.ownsRow B t 1 v xs.length xs
 blk:v.ownBlock=u.ownBlock∨∃ s,v.ownBlock=some s∧lo≤s
theorem OwnS.gr {w w':World} {B lo:Nat} {t:TypeId} {xs:List Value} {u v:Value} (h:OwnS w B t xs u lo v) (g:Grew w w'):OwnS w' B t xs u lo v:=⟨xg h.own g,h.blk⟩
theorem zpa (seed:Int) (k:Nat):IntKind.u64.wrap (seed+(k:Int))=sdI seed k:=by simp [IntKind.wrap,IntKind.bits,IntKind.signed,sdI]
theorem zpb (seed:Int) (hsd:U64 seed) (h:Nat) (hh:h≤4) (w:World) :
 Calls Tryz.prog 53 #[.int .i64 1,.int .u64 seed,.int .i64 (h:Int)] w fun e w'=>∃ LA Lc RA Rc p,e=.returned (.tuple #[.slice LA 4 Lc,.agg (kyS 1 RA 4 Rc (h:Int))])∧KsAt w' w.heap.size 4 p seed h∧Rd w' w'.heap.size LA (ptrL p 4)∧Rd w' w'.heap.size RA (u64L (rtL seed h 4)) ∧
  (∀ ad,LA=some ad→∀ i,i<4→ad.block≠p i∧ad.block≠p i+1)∧(∀ ad,RA=some ad→∀ i,i<4→ad.block≠p i∧ad.block≠p i+1)∧Grew w w':=by
 have hkt:=Tryz.underlying91
 have HSK:∀ pv:Value,Hid (zI9 91=some (#[Value.int .i64 1,pv,Value.int .i64 (h:Int)]:Array Value).size):=fun pv=>hQ9 (by kernel_rfl)
 have zr:=(Ag.new w 91 #[.int .i64 0,.slice none 0 0,.int .i64 0]).grew (ze (za _) (.cells #[.int .i64 0,.slice none 0 0,.int .i64 0] 91))
 have zk:Ag ((w.alloc (.cells #[.int .i64 0,.slice none 0 0,.int .i64 0] 91)).alloc (.cells #[.int .i64 0,.slice none 0 0,.int .i64 0] 91)) (w.heap.size+1) (#[.int .i64 0,.slice none 0 0,.int .i64 0]:Array Value).toList:=by
  have:=Ag.new (w.alloc (.cells #[.int .i64 0,.slice none 0 0,.int .i64 0] 91)) 91 #[.int .i64 0,.slice none 0 0,.int .i64 0]
  simpa using this
 have G0:=ze (ze (za w) (.cells #[.int .i64 0,.slice none 0 0,.int .i64 0] 91)) (.cells #[.int .i64 0,.slice none 0 0,.int .i64 0] 91)
 have hn:2^h≤16:=by
  have:2^h≤2^4:=Nat.pow_le_pow_right (by decide) hh
  simpa using this
 have hn1:1≤2^h:=Nat.one_le_two_pow
 have hlv0:leavesOk (2^h)=true:=zin ⟨h,by omega⟩
 have e2:wrap64 ((2:Int)^h)=((2^h:Nat):Int):=by
  have:((2:Int)^h)=((2^h:Nat):Int):=by simp
  rw [this]
  generalize 2^h=n at *
  unfold wrap64;omega
 have h0:(0:Int)≤(h:Int):=by omega
 have h5:(h:Int)≤8:=by omega
 have HKL:Hid (∀ i,(ksL seed h i).length=2^h):=hQ9 (fun i=>yR _ _)
 have HKB:Hid (∀ i,∀ x∈ksL seed h i,x<18446744073709551616):=hQ9 (fun i=>xM _ _)
 have HLV:=hQ9 hlv0
 have CN:=hQ9 (fun(k:Nat) (hk:k<4) W=>zo1 (k:Int) (sdI seed k) h (by omega) (by omega) (zbv seed k) W)
 clear hlv0
 have z1:=Ag.set (vs:=(#[.int .i64 1,.slice none 0 0,.int .i64 (h:Int)]:Array Value).toList) zk rfl
 have HTH:Hid (((w.alloc (.cells #[.int .i64 0,.slice none 0 0,.int .i64 0] 91)).alloc (.cells #[.int .i64 0,.slice none 0 0,.int .i64 0] 91)).there (w.heap.size+1) 0 (#[.int .i64 1,.slice none 0 0,.int .i64 (h:Int)]:Array Value).size):=hQ9 (zk.thereN 3 rfl)
 have HON:Hid ((#[.int .i64 1,.slice none 0 0,.int .i64 (h:Int)]:Array Value).all (·.oneCell')=true):=hQ9 (by simp [Value.oneCell'])
 have zr1:=zr.other (b':=w.heap.size+1) (o:=0) (vs:=(#[.int .i64 1,.slice none 0 0,.int .i64 (h:Int)]:Array Value).toList) (by omega)
 have G1:=zh (o:=0) (b:=w.heap.size+1) (#[.int .i64 1,.slice none 0 0,.int .i64 (h:Int)]:Array Value).toList G0 (by omega)
 have hs1:w.heap.size+2≤(((w.alloc (.cells #[.int .i64 0,.slice none 0 0,.int .i64 0] 91)).alloc (.cells #[.int .i64 0,.slice none 0 0,.int .i64 0] 91)).setCells (w.heap.size+1) 0 (#[.int .i64 1,.slice none 0 0,.int .i64 (h:Int)]:Array Value).toList).heap.size:=by
  have:=jE ((w.alloc (.cells #[.int .i64 0,.slice none 0 0,.int .i64 0] 91)).alloc (.cells #[.int .i64 0,.slice none 0 0,.int .i64 0] 91)) (w.heap.size+1) 0 (#[.int .i64 1,.slice none 0 0,.int .i64 (h:Int)]:Array Value).toList
  simp at this ⊢
  omega
 clear zr zk G0
 obtain⟨w1,hw1⟩:∃ v,((w.alloc (.cells #[.int .i64 0,.slice none 0 0,.int .i64 0] 91)).alloc (.cells #[.int .i64 0,.slice none 0 0,.int .i64 0] 91)).setCells (w.heap.size+1) 0 (#[.int .i64 1,.slice none 0 0,.int .i64 (h:Int)]:Array Value).toList=v:=⟨_,rfl⟩
 rw [hw1]at z1 zr1 G1 hs1
 have HW1:=hQ9 hw1
 clear hw1
 go_enter Tryz.func53,Tryz.ntmps53
 go_wp2_with(with_reducible refine wpList_store_mid rfl 91 (.tmp 8) (.tmp 16) rfl (w.heap.size+1) 0 (#[.int .i64 1,.slice none 0 0,.int .i64 (h:Int)]) rfl rfl HTH.out (HSK _).out HON.out ?_;rw [HW1.out];clear HW1 HTH)
 clear hsd
 obtain⟨w0,hw0⟩:∃ n,w.heap.size=n:=⟨_,rfl⟩
 rw [hw0]at z1 zr1 hs1 ⊢
 have HW0:=hQ9 hw0
 clear hw0
 go_loopw [9,10] (fun lv iv wr=>∃(k:Nat) (p:Nat→Nat) (pv lw:Value),lw=lv∧k≤4∧iv=.int .i64 k∧Ag wr (w0+1) [.int .i64 1,pv,.int .i64 (h:Int)]∧Ag wr w0 (#[.int .i64 0,.slice none 0 0,.int .i64 0]:Array Value).toList∧KsAt wr (w0+2) k p seed h∧wr.ownsRow (w0+2) 129 1 lv k (ptrL p k)∧wr.ownsRow (w0+2) 72 1 pv k (u64L (rtL seed h k))∧Sep lv pv k p∧Sep pv lv k p∧Grew w wr∧w0+2≤wr.heap.size) (fun _ iv _=>4-(intOf iv).toNat)
 case atStart=>exact⟨0,fun _=>0,.slice none 0 0,_,rfl,Nat.zero_le _,rfl,z1,zr1,⟨fun i hi=>absurd hi (by omega),fun i hi=>absurd hi (by omega),fun i j hi=>absurd hi (by omega)⟩,World.ownsRow_nil _ _ _ _,World.ownsRow_nil _ _ _ _,fun g e=>(by cases e),fun g e=>(by cases e),G1,hs1⟩
 case round =>
  clear z1 zr1 G1 hs1
  obtain⟨k,p,pv,lv,hlv,hk,rfl,zk,zr,KS,OL,OP,SL,SP,G,hs⟩:=hrel
  subst hlv
  by_cases hlt:k<4
  ·have hk0:(0:Int)≤(k:Int):=by omega
   have hk1:(k:Int)<4:=by omega
   have cn:=CN.out k hlt wr
   have HK:=hQ9 hlt
   clear hlt
   obtain⟨i0,hi,hz0,hz1,hz2⟩:=info_parts (show(Tryz.prog.info? 129).map (fun i=>(i.zero,i.size,i.bytes))=some (some (.pointer none),1,8) by kernel_rfl)
   obtain⟨i1,hj,hy0,hy1,hy2⟩:=info_parts infoD
   obtain⟨q,hq⟩:∃ q,wr.heap.size=q:=⟨_,rfl⟩
   rw [hq]at cn hs
   have OLT:=hQ9 (fun g e=>hq▸(zN OL g e).2)
   have OPT:=hQ9 (fun g e=>hq▸(zN OP g e).2)
   have OLB:=hQ9 (zu OL)
   have OPB:=hQ9 (zu OP)
   have KLT:Hid (∀ i,i<k→p i+1<q):=hQ9 (fun i hi=>hq▸(KS.key i hi).key.lt)
   clear hq
   go_wp2_with fail
   rw [zpa]
   refine cn.mono ?_
   rintro e v2 ⟨rfl,gg,K2⟩
   clear cn
   have zk2:=zk.grew gg
   have zr2:=zr.grew gg
   have KS2:=KS.grew gg
   have OL2:=xg OL gg
   have OP2:=xg OP gg
   have G2:=zb G gg
   have hs2:q+2≤v2.heap.size:=by have:=K2.key.lt;omega
   clear zk zr KS OL OP G gg
   go_wp2_with fail
   rw [e2]
   refine(zic (q+1) q (k:Int) (sdI seed k) (ksL seed h k) 0 0 (by rw [HKL.out];omega) (by omega) (by omega) (2^h) hn1 (by rw [HKL.out];omega) v2 K2).mono ?_
   rw [Nat.zero_add]
   rintro e v3 ⟨rfl,tt,K3⟩
   have T3:=kp_tn tt
   have zk3:=zk2.kp T3 (show ¬w0+1=q+1 by omega)
   have zr3:=zr2.kp T3 (show ¬w0=q+1 by omega)
   have KS3:=KS2.kp T3 (fun i hi=>⟨by have:=KLT.out i hi;show ¬p i=q+1;omega,by have:=KLT.out i hi;show ¬p i+1=q+1;omega⟩)
   have OL3:=zo OL2 T3 (fun g e h=>by have:=OLT.out g e;have h:g=q+1:=h;omega)
   have OP3:=zo OP2 T3 (fun g e h=>by have:=OPT.out g e;have h:g=q+1:=h;omega)
   have G3:=zbu G2 tt (by have:=HW0.out;omega)
   have hs3:q+2≤v3.heap.size:=Nat.le_trans hs2 T3.size
   have KS4:=KS3.snoc K3 (by omega) (fun i hi=>KLT.out i hi)
   clear zk2 zr2 KS2 OL2 OP2 G2 hs2 K2 tt T3 KS3 K3
   have HPL:Hid (ptrL (fun i=>if i=k then q else p i) (k+1)=ptrL p k++[Value.pointer (some ⟨q+1,0,none⟩)]):=hQ9 (by
    rw [zkr,zir (q:=p) (fun i hi=>by simp [Nat.ne_of_lt hi])]
    simp)
   go_wp2_with(at_builtin;refine zx rfl (.tmp 46) (.tmp 48) 121 rfl (w0+2) 129 i0 (.pointer none) 8 Tryz.underlying121 hi hz0 hz1 hz2 rfl lv k _ rfl (OL3.alloc _) (v3.heap.size+1) (some ⟨v3.heap.size,0,none⟩) 1 1 [Value.pointer (some ⟨q+1,0,none⟩)] rfl rfl (yb v3 129 #[Value.pointer (some ⟨q+1,0,none⟩)] (0,0)) (yG rfl) (by unfold maxLen;omega) (by omega) (by simp;omega) ?_;intro lv6 w6 hown6 hgrow6 hor6)
   have T6:Kp (fun i=>some i=lv.ownBlock) v3 w6:=yX (q7 (zQ _ v3) _) hgrow6 (fun g h=>.inl h.symm)
   obtain⟨n6,hn6⟩:∃ n,v3.heap.size+1=n:=⟨_,rfl⟩
   rw [zl,hn6]at hor6
   have hp6:∀ i,i<k+1→(if i=k then q else p i)+1<v3.heap.size:=fun i hi=>by
    by_cases e:i=k
    ·rw [if_pos e];omega
    ·rw [if_neg e];have:=KLT.out i (by omega);omega
   have hL6:∀ g,some g=lv.ownBlock→w0+2≤g∧g<q∧pv.ownBlock≠some g∧∀ i,i<k→g≠p i∧g≠p i+1:=fun g e=>⟨OLB.out g e.symm,OLT.out g e.symm,(SL g e.symm).1,(SL g e.symm).2⟩
   have hP6:∀ g,some g=pv.ownBlock→w0+2≤g∧g<q∧lv.ownBlock≠some g∧∀ i,i<k→g≠p i∧g≠p i+1:=fun g e=>⟨OPB.out g e.symm,OPT.out g e.symm,(SP g e.symm).1,(SP g e.symm).2⟩
   have zk6:=zk3.kp T6 (fun e=>by have:=hL6 _ e;omega)
   have zr6:=zr3.kp T6 (fun e=>by have:=hL6 _ e;omega)
   have KS6:=KS4.kp T6 (fun i hi=>by
    refine⟨fun e=>?_,fun e=>?_⟩<;>(have h1:=hL6 _ e;by_cases hik:i=k)
    ·simp only [if_pos hik]at h1;omega
    ·simp only [if_neg hik]at h1;exact(h1.2.2.2 i (by omega)).1 rfl
    ·simp only [if_pos hik]at h1;omega
    ·simp only [if_neg hik]at h1;exact(h1.2.2.2 i (by omega)).2 rfl)
   have OP6:=zo OP3 T6 (fun g e h=>(hL6 g h).2.2.1 e)
   have G6:Grew w w6:=zV G3 T6 G3.size (fun i e=>by have:=(hL6 i e).1;have:=HW0.out;omega)
   have hs6:v3.heap.size+1≤w6.heap.size:=by have:=hgrow6.size;rw [zl]at this;exact this
   have hlv6:∀ g,lv6.ownBlock=some g→g<w6.heap.size:=fun g e=>(zN hown6 g e).2
   obtain⟨rt,hrt⟩:∃ r,rootN (ksL seed h k)=r:=⟨_,rfl⟩
   have HT:Hid ((u64L (rtL seed h (k+1))).length=k+1∧u64L (rtL seed h (k+1))=u64L (rtL seed h k)++[Value.int .u64 (rt:Nat)]):=hQ9 ⟨by simp [u64L,rtL],by rw [znk,hrt];simp [u64L]⟩
   have HRT:=hQ9 hrt
   have HSW:Hid (∀ i,some i=pv.ownBlock→i<w6.heap.size):=hQ9 (fun i e=>by have:=(hP6 i e).2.1;omega)
   have HW6:Hid (w0+2≤w6.heap.size):=hQ9 (by omega)
   have HZK:Hid (∀ y,Kp (fun i=>some i=pv.ownBlock) w6 y→Ag y (w0+1) [.int .i64 1,pv,.int .i64 (h:Int)]):=hQ9 (fun y g=>zk6.kp g (fun e=>by have:=hP6 _ e;omega))
   have HC:Hid (∀ y,Kp (fun i=>some i=pv.ownBlock) w6 y→y.cell? ⟨w0+1,1,none⟩=some pv):=hQ9 (fun y g=>by simpa using (HZK.out y g).cell 1 _ rfl)
   have HKA:Hid (∀ y,Kp (fun i=>some i=pv.ownBlock) w6 y→KsAt y (w0+2) (k+1) (fun i=>if i=k then q else p i) seed h):=hQ9 (fun y g=>KS6.kp g (fun i hi=>by
    refine⟨fun e=>?_,fun e=>?_⟩<;>(have h1:=hP6 _ e;by_cases hik:i=k)
    ·simp only [if_pos hik]at h1;omega
    ·simp only [if_neg hik]at h1;exact(h1.2.2.2 i (by omega)).1 rfl
    ·simp only [if_pos hik]at h1;omega
    ·simp only [if_neg hik]at h1;exact(h1.2.2.2 i (by omega)).2 rfl))
   have HKK:Hid (∀ y,Kp (fun i=>some i=pv.ownBlock) w6 y→KyAt y (q+1) q (k:Int) (sdI seed k) (ksL seed h k) 0 (2^h)):=hQ9 (fun y g=>by
    have:=(HKA.out y g).key k (by omega)
    simpa using this)
   have HZR:Hid (∀ y,Kp (fun i=>some i=pv.ownBlock) w6 y→Ag y w0 (#[.int .i64 0,.slice none 0 0,.int .i64 0]:Array Value).toList):=hQ9 (fun y g=>zr6.kp g (fun e=>by have:=hP6 _ e;omega))
   have HOL:Hid (∀ y,Kp (fun i=>some i=pv.ownBlock) w6 y→y.ownsRow (w0+2) 129 1 lv6 (k+1) (ptrL (fun i=>if i=k then q else p i) (k+1))):=hQ9 (fun y g=>by
    rw [HPL.out]
    refine zo hown6 g (fun j e e2=>?_)
    have h1:=hP6 j e2
    rcases hor6 with h2 | h2
    ·exact h1.2.2.1 (h2.symm.trans e)
    ·rw [h2]at e;cases e;omega)
   have HGG:Hid (∀ y,Kp (fun i=>some i=pv.ownBlock) w6 y→Grew w y):=hQ9 (fun y g=>zV G6 g G6.size (fun i e=>by have:=(hP6 i e).1;have:=HW0.out;omega))
   have HOP:=hQ9 OP6
   have HSEP:Hid (∀(pv7:Value),(pv7.ownBlock=pv.ownBlock∨∃ s,pv7.ownBlock=some s∧w6.heap.size≤s)→Sep lv6 pv7 (k+1) (fun i=>if i=k then q else p i)∧Sep pv7 lv6 (k+1) (fun i=>if i=k then q else p i)):=hQ9 (fun pv7 hb=>by
    have hlo:∀ g,g<q→∀ i,(i<k→g≠p i∧g≠p i+1)→i<k+1→g≠(if i=k then q else p i)∧g≠(if i=k then q else p i)+1:=fun g hg i hh hi=>by
     by_cases e:i=k
     ·simp only [if_pos e];omega
     ·simp only [if_neg e];exact hh (by omega)
    have hhi:∀ g,v3.heap.size≤g→∀ i,i<k+1→g≠(if i=k then q else p i)∧g≠(if i=k then q else p i)+1:=fun g hg i hi=>by have:=hp6 i hi;omega
    refine⟨fun g e=>?_,fun g e=>?_⟩
    ·rcases hor6 with h2 | h2
     ·have h1:=hL6 g (by rw [←h2,e])
      refine⟨fun e2=>?_,fun i hi=>hlo g h1.2.1 i (h1.2.2.2 i) hi⟩
      rcases hb with hb | ⟨s,hb,hs7⟩
      ·exact h1.2.2.1 (hb.symm.trans e2)
      ·rw [hb]at e2;cases e2;omega
     ·have hg6:g=n6:=by rw [h2]at e;cases e;rfl
      refine⟨fun e2=>?_,fun i hi=>hhi g (by omega) i hi⟩
      rcases hb with hb | ⟨s,hb,hs7⟩
      ·have:=hP6 g (by rw [←hb,e2]);omega
      ·have:=hlv6 g e;rw [hb]at e2;cases e2;omega
    ·rcases hb with hb | ⟨s,hb,hs7⟩
     ·have h1:=hP6 g (by rw [←hb,e])
      refine⟨fun e2=>?_,fun i hi=>hlo g h1.2.1 i (h1.2.2.2 i) hi⟩
      rcases hor6 with h2 | h2
      ·exact h1.2.2.1 (h2.symm.trans e2)
      ·rw [h2]at e2;cases e2;omega
     ·have hgs:g=s:=by rw [hb]at e;cases e;rfl
      refine⟨fun e2=>?_,fun i hi=>hhi g (by omega) i hi⟩
      have:=hlv6 g e2;omega)
   clear zk3 zr3 KS4 OL3 OP3 G3 T6 hor6 hp6 hL6 hP6 zk6 zr6 KS6 OP6 G6 hs6 hlv6 hown6 hgrow6 SL SP hrt hs3 hs hn6
   refine zc9 6 5 (fun i=>some i=pv.ownBlock) (fun i=>match i with
    | 0=>fun v _=>v=.pointer (some ⟨w0+1,1,none⟩)
    | 1=>fun v _=>v=pv
    | 2=>fun v _=>v=.pointer (some ⟨q+1,0,none⟩)
    | 3=>fun v _=>v=.int .u64 (rt:Nat)
    | 4=>fun v w=>PV w w6.heap.size [rt] v
    | 5=>fun v2 w=>OwnS w (w0+2) 72 (u64L (rtL seed h (k+1))) pv w6.heap.size v2
    | _=>fun _ _=>True) (by kernel_rfl) (by kernel_rfl) ?_ ?_ ?_ ?_
   ·intro i v x y h hg
    match i,h with
    | 0,h | 1,h | 2,h | 3,h=>exact h
    | 4,h=>exact PV.gr h hg
    | 5,h=>exact OwnS.gr h hg
    | m+6,_=>trivial
   ·intro i v x y hne hx h hg
    match i,h with
    | 0,h | 1,h | 2,h | 3,h=>exact h
    | 4,h=>exact PV.kp h hg HSW.out
    | 5,h=>exact absurd rfl hne
    | m+6,_=>trivial
   ·simp only [actOf,tk1,tk0,dr1,dr0,Act.put,si1,st1,st0,Nat.reduceAdd]
    refine⟨?_,?_,?_,?_,?_,?_,trivial⟩
    ·intro vs y hg hd
     replace hg:Kp (fun i=>some i=pv.ownBlock) w6 y:=hg
     dsimp only
     go_wp2_with fail
     exact⟨rfl,_,rfl,za _,rfl⟩
    ·intro vs y hg hd
     replace hg:Kp (fun i=>some i=pv.ownBlock) w6 y:=hg
     obtain⟨h0,_⟩:=hd
     replace h0:=h0 rfl
     dsimp only
     rw [show vs 0=_ from h0]
     have hc:=HC.out y hg
     go_wp2_with fail
     exact⟨rfl,_,rfl,za _,rfl⟩
    ·intro vs y hg hd
     replace hg:Kp (fun i=>some i=pv.ownBlock) w6 y:=hg
     dsimp only
     go_wp2_with fail
     exact⟨rfl,_,rfl,za _,rfl⟩
    ·intro vs y hg hd
     replace hg:Kp (fun i=>some i=pv.ownBlock) w6 y:=hg
     obtain⟨h2,_⟩:=hd
     replace h2:=h2 rfl
     dsimp only
     rw [show vs 2=_ from h2]
     have kk:=HKK.out y hg
     go_wp2_with(go_at_call 121;refine(zid (q+1) q (k:Int) (sdI seed k) (ksL seed h k) 0 (2^h) (by rw [HKL.out];omega) (by rw [HKL.out];exact HLV.out) (HKB.out k) y kk).mono ?_;rintro e z ⟨rfl,gz⟩;rw [HRT.out])
     exact⟨rfl,_,rfl,gz,rfl⟩
    ·intro vs y hg hd
     replace hg:Kp (fun i=>some i=pv.ownBlock) w6 y:=hg
     obtain⟨h3,_⟩:=hd
     replace h3:=h3 rfl
     dsimp only
     rw [show vs 3=_ from h3]
     go_wp2_with fail
     exact⟨rfl,_,rfl,ze (za _) _,pv_one y _ rt hg.size⟩
    ·intro vs y hg hd
     replace hg:Grew w6 y:=hg
     obtain⟨h1,h4,_⟩:=hd
     replace h1:=h1 rfl
     replace h4:=h4 rfl
     dsimp only
     rw [show vs 1=_ from h1]
     obtain⟨A2,c2,hv2,hr2,_⟩:=PV.out h4
     rw [hv2]
     have hb2:=hg.size
     have hw6:=HW6.out
     go_wp2_with(refine zx rfl (.tmp 51) (.tmp 54) 75 rfl (w0+2) 72 i1 (.int .u64 0) 8 Tryz.underlying75 hj hy0 hy1 hy2 rfl pv k _ rfl (xg HOP.out hg) y.heap.size A2 1 c2 [Value.int .u64 (rt:Nat)] rfl rfl hr2 (yG rfl) (by unfold maxLen;omega) (by omega) (by omega) ?_;intro v7 w7 hown7 hgrow7 hor7)
     exact⟨rfl,_,rfl,yX (zQ _ _) hgrow7 (fun g h=>.inl h.symm),⟨by rw [HT.out.1,HT.out.2];exact hown7,by rcases hor7 with h | h;exact .inl h;exact .inr ⟨_,h,hb2⟩⟩⟩
   ·intro vs y hg hJ
    have j0:vs 0=.pointer (some ⟨w0+1,1,none⟩):=hJ 0 (by decide)
    have j1:vs 1=pv:=hJ 1 (by decide)
    have j2:vs 2=.pointer (some ⟨q+1,0,none⟩):=hJ 2 (by decide)
    have j3:vs 3=.int .u64 (rt:Nat):=hJ 3 (by decide)
    have s54:=hJ 4 (by decide)
    have s55:=hJ 5 (by decide)
    clear hJ
    simp only [actOf,tk1,tk0,dr1,dr0,Act.put,si1,st1,st0,Nat.reduceAdd]
    obtain⟨hown7,hblk7⟩:=(show OwnS y (w0+2) 72 (u64L (rtL seed h (k+1))) pv w6.heap.size (vs 5) from s55)
    rw [HT.out.1]at hown7
    obtain⟨A7,c7,e7,-,-,-⟩:=zU hown7
    rw [e7]at hown7 hblk7 ⊢
    have z7:=HZK.out y hg
    have f1:y.frozen? ⟨w0+1,1,none⟩=false:=by simpa using (z7.there 1 (by simp)).2
    have c1:y.cell? ⟨w0+1,1,none⟩=some pv:=by simpa using z7.cell 1 _ rfl
    have tt:=jS (g:=w0+1) (qp _ y) (p:=⟨w0+1,1,none⟩) (.inl rfl) (.slice A7 (k+1) c7)
    have T8:=kp_tn tt
    have z8:=Ag.set1 z7 1 (.slice A7 (k+1) c7) (by simp)
    have zr8:=(HZR.out y hg).kp T8 (show ¬w0=w0+1 by omega)
    have KS7:=HKA.out y hg
    have KS8:=KS7.kp T8 (fun i hi=>⟨by have:=KS7.low i hi;show ¬(if i=k then q else p i)=w0+1;omega,by have:=KS7.low i hi;show ¬(if i=k then q else p i)+1=w0+1;omega⟩)
    have OL7:=HOL.out y hg
    have OL8:=zo OL7 T8 (fun g e (h:g=w0+1)=>by have:=zu OL7 g e;omega)
    have OP8:=zo hown7 T8 (fun g e (h:g=w0+1)=>by have:=zu hown7 g e;omega)
    have G8:=zbu (HGG.out y hg) tt (by have:=HW0.out;omega)
    have hs8:w0+2≤(y.setCell ⟨w0+1,1,none⟩ (.slice A7 (k+1) c7)).heap.size:=by have:=HW6.out;have:=hg.size;have:=T8.size;omega
    have SS:=hQ9 (HSEP.out _ hblk7)
    clear s54 s55 e7 hown7 hblk7 z7 tt T8 KS7 OL7 hg j0 j1 j2 j3
    go_wp2_with fail
    go_roundw
    case rel=>exact⟨k+1,fun i=>if i=k then q else p i,.slice A7 (k+1) c7,_,rfl,by have:=HK.out;omega,by go_num,z8,zr8,KS8,OL8,OP8,SS.out.1,SS.out.2,G8,hs8⟩
    case measure=>have:=HK.out;simp [intOf];omega
  ·obtain rfl:k=4:=by omega
   obtain⟨LA,Lc,rfl,-,-,hrL⟩:=zU OL
   obtain⟨RA,Rc,rfl,-,-,hrR⟩:=zU OP
   have HTR:Hid (wr.there w0 0 (#[Value.int .i64 1,.slice RA 4 Rc,.int .i64 (h:Int)]:Array Value).size):=hQ9 (zr.thereN 3 rfl)
   have HOR:Hid ((#[Value.int .i64 1,.slice RA 4 Rc,.int .i64 (h:Int)]:Array Value).all (·.oneCell')=true):=hQ9 (by simp [Value.oneCell'])
   have HSL:Hid (zI9 91=some [Value.int .i64 1,.slice RA 4 Rc,.int .i64 (h:Int)].length):=hQ9 (by kernel_rfl)
   have HSR:Hid (zI9 91=some (#[Value.int .i64 1,.slice RA 4 Rc,.int .i64 (h:Int)]:Array Value).size):=HSK _
   have HMK:Hid (∀ y,Grew wr y→y.rangeAt (w0+1) 0 [.int .i64 1,.slice RA 4 Rc,.int .i64 (h:Int)]):=hQ9 (fun y g=>(zk.grew g).cell)
   have farL:∀ ad,LA=some ad→∀ i,i<4→ad.block≠p i∧ad.block≠p i+1:=fun ad e i hi=>by subst e;exact(SL ad.block (by rcases OL.2 with ⟨h1,_⟩ | ⟨g,cap,cur,h1,_⟩;cases h1;cases h1;rfl)).2 i hi
   have farR:∀ ad,RA=some ad→∀ i,i<4→ad.block≠p i∧ad.block≠p i+1:=fun ad e i hi=>by subst e;exact(SP ad.block (by rcases OP.2 with ⟨h1,_⟩ | ⟨g,cap,cur,h1,_⟩;cases h1;cases h1;rfl)).2 i hi
   have bL:∀ ad,LA=some ad→w0+2≤ad.block:=fun ad e=>by subst e;exact zu OL ad.block (by rcases OL.2 with ⟨h1,_⟩ | ⟨g,cap,cur,h1,_⟩;cases h1;cases h1;rfl)
   have bR:∀ ad,RA=some ad→w0+2≤ad.block:=fun ad e=>by subst e;exact zu OP ad.block (by rcases OP.2 with ⟨h1,_⟩ | ⟨g,cap,cur,h1,_⟩;cases h1;cases h1;rfl)
   have FL:=hQ9 farL
   have FR:=hQ9 farR
   have BL:=hQ9 bL
   have BR:=hQ9 bR
   clear farL farR bL bR SL SP OL OP
   go_wp2_with fail
   refine zv 3 (fun i=>match i with
    | 0=>fun v _=>v=.slice LA 4 Lc
    | 1=>fun v _=>v=.agg #[.int .i64 1,.slice RA 4 Rc,.int .i64 (h:Int)]
    | 2=>fun v _=>v=.slice LA 4 Lc
    | _=>fun _ _=>True) (by kernel_rfl) (by kernel_rfl) ?_ ?_ ?_
   ·intro i v x y h hg
    match i,h with
    | 0,h | 1,h | 2,h=>exact h
    | m+3,_=>trivial
   ·simp only [actOf,tk1,tk0,dr1,dr0,Act.put,si1,st1,st0,Nat.reduceAdd]
    refine⟨?_,?_,?_,trivial⟩
    ·intro vs y hg hd
     dsimp only
     go_wp2_with fail
     exact⟨rfl,_,rfl,za _,rfl⟩
    ·intro vs y hg hd
     dsimp only
     have hm:=HMK.out y hg
     go_wp2_with(with_reducible refine wpList_load_mid rfl 91 (.tmp 8) rfl (w0+1) 0 rfl [.int .i64 1,.slice RA 4 Rc,.int .i64 (h:Int)] _ hm hkt rfl HSL.out ?_)
     exact⟨rfl,_,rfl,za _,rfl⟩
    ·intro vs y hg hd
     obtain⟨h0,_⟩:=hd
     replace h0:=h0 rfl
     dsimp only
     rw [show vs 0=_ from h0]
     go_wp2_with fail
     exact⟨rfl,_,rfl,za _,rfl⟩
   ·intro vs y hg hJ
    have j0:vs 0=.slice LA 4 Lc:=hJ 0 (by decide)
    have j1:vs 1=.agg #[.int .i64 1,.slice RA 4 Rc,.int .i64 (h:Int)]:=hJ 1 (by decide)
    have j2:vs 2=.slice LA 4 Lc:=hJ 2 (by decide)
    clear hJ
    simp only [actOf,tk1,tk0,dr1,dr0,Act.put,si1,st1,st0,Nat.reduceAdd]
    have T8:=zn [Value.int .i64 1,.slice RA 4 Rc,.int .i64 (h:Int)] w0 0 y
    have zr8:=Ag.set (vs:=[Value.int .i64 1,.slice RA 4 Rc,.int .i64 (h:Int)]) (zr.grew hg) rfl
    have KS8:=(KS.grew hg).kp T8 (fun i hi=>⟨by have:=KS.low i hi;show ¬p i=w0;omega,by show ¬p i+1=w0;have:=KS.low i hi;omega⟩)
    have rL:=((hrL.gr hg).kp T8 (zN9 _) (fun ad e _ (h:ad.block=w0)=>by have:=BL.out ad e;omega)).more T8.size
    have rR:=((hrR.gr hg).kp T8 (zN9 _) (fun ad e _ (h:ad.block=w0)=>by have:=BR.out ad e;omega)).more T8.size
    have G8:=zh (o:=0) (b:=w0) [Value.int .i64 1,.slice RA 4 Rc,.int .i64 (h:Int)] (zb G hg) (by have:=HW0.out;omega)
    have HTY:Hid (y.there w0 0 (#[Value.int .i64 1,.slice RA 4 Rc,.int .i64 (h:Int)]:Array Value).size):=hQ9 ((zr.grew hg).thereN 3 rfl)
    rw [j1,j2]
    clear j0 j1 j2 hrL hrR KS zk zr hg
    go_wp2_with(with_reducible refine wpList_store_mid rfl 91 (.tmp 7) (.tmp 58) rfl w0 0 (#[Value.int .i64 1,.slice RA 4 Rc,.int .i64 (h:Int)]) rfl rfl HTY.out HSR.out HOR.out ?_)
    refine bodyPost_ret (zis Tryz.results53 _ _ w0 _ _ (.slice LA 4 Lc) rfl rfl zr8 hkt rfl HSL.out) rfl ⟨LA,Lc,RA,Rc,p,rfl,?_,rL,rR,FL.out,FR.out,G8⟩
    exact⟨KS8.key,fun i hi=>by have:=KS8.low i hi;have:=HW0.out;omega,KS8.apart⟩
theorem xG (seed:Int) (h n:Nat):(rtL seed h n).length=n:=by simp [rtL]
theorem zks (seed:Int) (h n i:Nat) (hi:i<n):(rtL seed h n).getD i 0=rootN (ksL seed h i):=by simp [rtL,List.getD,hi]
theorem rt_lt (seed:Int) (h n:Nat) (hh:h≤8):∀ x∈rtL seed h n,x<18446744073709551616:=by
 intro x hx
 obtain⟨i,_,rfl⟩:=List.mem_map.1 hx
 exact zm8 _ (xM _ _)
theorem zkt (seed:Int) (h:Nat) (hh:h≤8) (i m:Nat) (hi:i<4) (hm:m<2^h) (cm:Nat) (at_:Int) (ht:tmB at_=true) :
 vaE 1 (rtL seed h 4) (h:Int) cm (i:Int) at_ (i:Int) (m:Int) (signF (secN (sdI seed i) (m:Int)) (stD cm (i:Int) at_)) (pathN (ksL seed h i) m)=0:=by
 unfold vaE
 rw [if_neg (by omega),if_neg (by omega),if_pos ht,Int.toNat_natCast]
 unfold ckE
 rw [if_neg (by rw [xG];omega),if_pos rfl,zks _ _ _ _ hi]
 have:=zg3 (sdI seed i) h hh m (stD cm (i:Int) at_:Nat) (by omega) hm
 rw [Int.toNat_natCast]at this
 rw [if_pos]
 exact this
theorem zit (tj:ByteArray) (hz:tj.size≤1000000) (w:World) (hS:Std w) :
 Calls Tryz.prog 83 #[.string tj] w fun e w'=>(∃ A c,e=.returned (.tuple #[.agg (sgC (sgO (sigP tj.data.toList)).1.1 (sgO (sigP tj.data.toList)).1.2 (sgO (sigP tj.data.toList)).2.1 (.slice A (sgO (sigP tj.data.toList)).2.2.length c)),.int .i64 (sgE (sigP tj.data.toList))])∧Rd w' w'.heap.size A (u64L (sgO (sigP tj.data.toList)).2.2)∧(∀ ad,A=some ad→w.heap.size<ad.block))∧Grew w w':=by
 have hlen:tj.data.toList.length≤1000000:=by rw [xY];exact hz
 cases hp:sigP tj.data.toList with
 | none =>
  by_cases h4:∃ x0 x1 x2 x3,splitF tj.data.toList=some [x0,x1,x2,x3]
  ·obtain⟨x0,x1,x2,x3,hsp⟩:=h4
   have g:=fun x hx=>Nat.le_trans (zak hsp x hx) hlen
   have hno:sig4 x0 x1 x2 x3=false:=by
    unfold sigP at hp
    rw [hsp]at hp
    by_cases h:sig4 x0 x1 x2 x3=true
    ·simp only [h,if_true]at hp;cases hp
    ·simpa using h
   exact(zf4 tj x0 x1 x2 x3 hsp hz (g x0 (by simp)) (g x1 (by simp)) (g x2 (by simp)) (g x3 (by simp)) hno w hS).mono fun e w' ⟨h1,h2⟩=>⟨⟨none,0,h1,fun k hk=>absurd hk (by simp [sgO,u64L]),fun ad h=>by cases h⟩,h2⟩
  ·exact(zev tj hz (fun a b c d h=>h4 ⟨a,b,c,d,h⟩) w).mono fun e w' ⟨h1,h2⟩=>⟨⟨none,0,h1,fun k hk=>absurd hk (by simp [sgO,u64L]),fun ad h=>by cases h⟩,h2⟩
 | some v =>
  obtain⟨⟨who,leaf⟩,q,l⟩:=v
  obtain⟨x0,x1,x2,x3,hsp,p0,b0,p1,b1,d2,d3,hq,hl,-⟩:=zko hp
  have g:=fun x hx=>Nat.le_trans (zak hsp x hx) hlen
  rw [←zo8 hq]at d2
  exact(zf3 tj x0 x1 x2 x3 who leaf (fun k=>q.getD k 0) l hsp hz (g x0 (by simp)) (g x1 (by simp)) (g x2 (by simp)) (g x3 (by simp)) p0 b0 p1 b1 d2 d3 hl w hS).mono fun e w' ⟨⟨A,c,h1,h2,h4⟩,h3⟩=>⟨⟨A,c,h1,h2,h4⟩,h3⟩
structure StR where
 cm:Nat
 who:Int
 at_:Int
 g:(Int × Int) × (Nat→Nat) × List Nat
def StR.zero:StR:=⟨0,0,0,((0,0),fun _=>0,[])⟩
def StR.v (r:StR) (pv:Value):Array Value:=stC r.cm r.who r.at_ r.g.1.1 r.g.1.2 r.g.2.1 pv
def smallB (n:Int):Bool:=decide (-2147483648≤n∧n≤2147483647)
theorem zku (cm:Nat) (who at_ sw lf:Int) (s:Nat→Nat) (A:Option Addr) (n c:Nat):Tryz.prog.built 233 [(0,.int .u64 (cm:Nat)),(1,.int .i64 who),(2,.int .i64 at_),(3,.agg (sgC sw lf s (.slice A n c)))]=some (stC cm who at_ sw lf s (.slice A n c)):=by kernel_rfl
theorem zex:(Tryz.prog.info? 233).map (·.size)=some 24:=by kernel_rfl
structure AgT (w:World) (B:Nat) (cm:Nat) (who at_ sw lf:Int) (s:Nat→Nat) (l:List Nat) (v:Value):Prop where
 out:∃ A c,v=.agg (stC cm who at_ sw lf s (.slice A l.length c))∧Rd w w.heap.size A (u64L l)∧(∀ ad,A=some ad→B≤ad.block)
theorem AgT.gr {w w':World} {B cm:Nat} {who at_ sw lf:Int} {s:Nat→Nat} {l:List Nat} {v:Value} (h:AgT w B cm who at_ sw lf s l v) (g:Grew w w'):AgT w' B cm who at_ sw lf s l v:=by
 obtain⟨A,c,h1,h2,h3⟩:=h.out
 exact⟨A,c,h1,h2.gr g,h3⟩
theorem zkv (who leaf:Int) (s:Nat→Nat) (A:Option Addr) (c:Nat) (l:List Nat) (hl:l.length≤1048576) (w:World) (hr:Rd w w.heap.size A (u64L l)) :
 Calls Tryz.prog 105 #[.agg (sgC who leaf s (.slice A l.length c))] w fun e w'=>∃ A' c',e=.returned (.agg (sgC who leaf s (.slice A' l.length c')))∧Rd w' w'.heap.size A' (u64L l)∧Grew w w'∧(∀ ad,A'=some ad→w.heap.size≤ad.block):=by
 have z0:=Ag.new w 77 (sgC who leaf s (.slice A l.length c))
 have G0:=ze (za w) (.cells (sgC who leaf s (.slice A l.length c)) 77)
 have hwz:w.heap.size<(w.alloc (.cells (sgC who leaf s (.slice A l.length c)) 77)).heap.size:=z0.lt
 have HIA:Hid (zI9 74=some (arrU s).toList.length):=hQ9 (by rw [show(arrU s).toList.length=18 by simp [arrU]];kernel_rfl)
 have hua:=Tryz.underlying74
 have hur:=Tryz.underlying68
 go_enter Tryz.func105,Tryz.ntmps105
 go_wp2_with fail
 have z2:Ag ((w.alloc (.cells (sgC who leaf s (.slice A l.length c)) 77)).alloc (.cells (zS21) 68)) (w.heap.size+1) (zS21:Array Value).toList:=by
  have:=Ag.new (w.alloc (.cells (sgC who leaf s (.slice A l.length c)) 77)) 68 (zS21)
  simpa using this
 have z1:=z0.grew (ze (za _) (.cells (zS21) 68))
 have G2:=ze G0 (.cells (zS21) 68)
 clear z0 G0 hwz
 generalize (w.alloc (.cells (sgC who leaf s (.slice A l.length c)) 77)).alloc (.cells (zS21) 68)=w2 at *
 have HC0:Hid (∀ y,Grew w2 y→y.cell? ⟨w.heap.size,0,none⟩=some (.int .i64 who)):=hQ9 (fun y g=>by simpa using (z1.grew g).cell 0 _ rfl)
 have HC1:Hid (∀ y,Grew w2 y→y.cell? ⟨w.heap.size,1,none⟩=some (.int .i64 leaf)):=hQ9 (fun y g=>by simpa using (z1.grew g).cell 1 _ rfl)
 have HC20:Hid (∀ y,Grew w2 y→y.cell? ⟨w.heap.size,20,none⟩=some (.slice A l.length c)):=hQ9 (fun y g=>by simpa using (z1.grew g).cell 20 _ rfl)
 have HCM:Hid (∀ y,Grew w2 y→y.rangeAt w.heap.size 2 (arrU s).toList):=hQ9 (fun y g=>xZ (z1.grew g))
 have r2:=hr.gr G2
 have HRY:=hQ9 (fun y (g:Grew w2 y)=>r2.gr g)
 clear z1 hr r2
 refine zv 11 (fun i=>match i with
  | 0=>fun v _=>v=.pointer (some ⟨w.heap.size,0,none⟩)
  | 1=>fun v _=>v=.int .i64 who
  | 2=>fun v _=>v=.pointer (some ⟨w.heap.size,1,none⟩)
  | 3=>fun v _=>v=.int .i64 leaf
  | 4=>fun v _=>v=.pointer (some ⟨w.heap.size,2,none⟩)
  | 5=>fun v _=>v=.agg (arrU s)
  | 6=>fun v _=>v=.agg (arrU s)
  | 7=>fun v _=>v=.pointer (some ⟨w.heap.size,20,none⟩)
  | 8=>fun v _=>v=.slice A l.length c
  | 9=>fun v w=>PV w w2.heap.size l v
  | 10=>fun v w=>AgS w w2.heap.size who leaf s l v
  | _=>fun _ _=>True) (by kernel_rfl) (by kernel_rfl) ?_ ?_ ?_
 ·intro i v x y h hg
  match i,h with
  | 0,h | 1,h | 2,h | 3,h | 4,h | 5,h | 6,h | 7,h | 8,h=>exact h
  | 9,h=>exact PV.gr h hg
  | 10,h=>exact AgS.gr h hg
  | m+11,_=>trivial
 ·simp only [actOf,tk1,tk0,dr1,dr0,Act.put,si1,st1,st0,Nat.reduceAdd]
  refine⟨?_,?_,?_,?_,?_,?_,?_,?_,?_,?_,?_,trivial⟩
  ·intro vs y hg hd
   dsimp only
   go_wp2_with fail
   exact⟨rfl,_,rfl,za _,rfl⟩
  ·intro vs y hg hd
   obtain⟨h0,_⟩:=hd
   replace h0:=h0 rfl
   dsimp only
   rw [show vs 0=_ from h0]
   have hc:=HC0.out y hg
   go_wp2_with fail
   exact⟨rfl,_,rfl,za _,rfl⟩
  ·intro vs y hg hd
   dsimp only
   go_wp2_with fail
   exact⟨rfl,_,rfl,za _,rfl⟩
  ·intro vs y hg hd
   obtain⟨h2,_⟩:=hd
   replace h2:=h2 rfl
   dsimp only
   rw [show vs 2=_ from h2]
   have hc:=HC1.out y hg
   go_wp2_with fail
   exact⟨rfl,_,rfl,za _,rfl⟩
  ·intro vs y hg hd
   dsimp only
   go_wp2_with fail
   exact⟨rfl,_,rfl,za _,rfl⟩
  ·intro vs y hg hd
   obtain⟨h4,_⟩:=hd
   replace h4:=h4 rfl
   dsimp only
   rw [show vs 4=_ from h4]
   have hm:=HCM.out y hg
   go_wp2_with(with_reducible refine wpList_load_mid rfl 74 (.tmp 7) rfl w.heap.size 2 rfl (arrU s).toList _ hm hua rfl HIA.out ?_)
   exact⟨rfl,_,rfl,za _,rfl⟩
  ·intro vs y hg hd
   obtain⟨h5,_⟩:=hd
   replace h5:=h5 rfl
   dsimp only
   rw [show vs 5=_ from h5]
   go_wp2_with(go_at_call 162;refine(of_row s y).mono ?_;rintro e z ⟨rfl,gz⟩)
   exact⟨rfl,_,rfl,gz,rfl⟩
  ·intro vs y hg hd
   dsimp only
   go_wp2_with fail
   exact⟨rfl,_,rfl,za _,rfl⟩
  ·intro vs y hg hd
   obtain⟨h7,_⟩:=hd
   replace h7:=h7 rfl
   dsimp only
   rw [show vs 7=_ from h7]
   have hc:=HC20.out y hg
   go_wp2_with fail
   exact⟨rfl,_,rfl,za _,rfl⟩
  ·intro vs y hg hd
   obtain⟨h8,_⟩:=hd
   replace h8:=h8 rfl
   dsimp only
   rw [show vs 8=_ from h8]
   go_wp2_with(go_at_call 163;refine(zna A c y.heap.size l hl y (HRY.out y hg) (zN9 _)).mono ?_;rintro e z ⟨A2,c2,rfl,hr9,hb9,gz⟩)
   exact⟨rfl,_,rfl,gz,⟨A2,c2,rfl,hr9,fun ad h=>Nat.le_trans hg.size (hb9 ad h)⟩⟩
  ·intro vs y hg hd
   obtain⟨h1,h3,h6,h9,_⟩:=hd
   replace h1:=h1 rfl
   replace h3:=h3 rfl
   replace h6:=h6 rfl
   replace h9:=h9 rfl
   dsimp only
   rw [show vs 1=_ from h1,show vs 3=_ from h3,show vs 6=_ from h6]
   obtain⟨A2,c2,hv,hr9,hb9⟩:=PV.out h9
   rw [hv]
   have hbu:=znd who leaf s A2 l.length c2
   generalize arrU s=aa at *
   refine zC rfl 68 #[(0,.tmp 4),(1,.tmp 6),(2,.tmp 9),(3,.tmp 12)] rfl _ (by simpa [Act.eval]using hbu) ?_
   go_wp2_with fail
   exact⟨rfl,_,rfl,za _,⟨A2,c2,rfl,hr9,hb9⟩⟩
 ·intro vs y hg hJ
  have j0:vs 0=.pointer (some ⟨w.heap.size,0,none⟩):=hJ 0 (by decide)
  have j1:vs 1=.int .i64 who:=hJ 1 (by decide)
  have j2:vs 2=.pointer (some ⟨w.heap.size,1,none⟩):=hJ 2 (by decide)
  have j3:vs 3=.int .i64 leaf:=hJ 3 (by decide)
  have j4:vs 4=.pointer (some ⟨w.heap.size,2,none⟩):=hJ 4 (by decide)
  have j5:vs 5=.agg (arrU s):=hJ 5 (by decide)
  have j6:vs 6=.agg (arrU s):=hJ 6 (by decide)
  have j7:vs 7=.pointer (some ⟨w.heap.size,20,none⟩):=hJ 7 (by decide)
  have j8:vs 8=.slice A l.length c:=hJ 8 (by decide)
  simp only [actOf,tk1,tk0,dr1,dr0,Act.put,si1,st1,st0,Nat.reduceAdd]
  obtain⟨A2,c2,j10,r3,hb3⟩:=AgS.out (show AgS y w2.heap.size who leaf s l (vs 10) from hJ 10 (by decide))
  rw [j10]
  clear hJ j0 j1 j2 j3 j4 j5 j6 j7 j8 j10
  have h2:=z2.lt
  have HLO:Hid (∀ ad,A2=some ad→w.heap.size≤ad.block):=hQ9 (fun ad h=>by have:=hb3 ad h;have:=G2.size;omega)
  have HNE:Hid (∀ ad,A2=some ad→ad.block≠w.heap.size+1):=hQ9 (fun ad h=>by have:=hb3 ad h;omega)
  have z3:=z2.grew hg
  have G3:=zb G2 hg
  clear z2 G2 hg hb3 h2
  have HTH:Hid (y.there (w.heap.size+1) 0 (sgC who leaf s (.slice A2 l.length c2)).size):=hQ9 (z3.thereN 21 rfl)
  have HSI:Hid (zI9 68=some (sgC who leaf s (.slice A2 l.length c2)).size):=hQ9 yI
  have HON:=hQ9 (yS who leaf s A2 l.length c2)
  have K3:=zn (sgC who leaf s (.slice A2 l.length c2)).toList (w.heap.size+1) 0 y
  have r4:=(r3.kp K3 (zN9 _) (fun ad h1 h2 h3=>HNE.out ad h1 h3)).more K3.size
  have z4:=Ag.set (vs:=(sgC who leaf s (.slice A2 l.length c2)).toList) z3 rfl
  have G4:=zh (o:=0) (b:=w.heap.size+1) (sgC who leaf s (.slice A2 l.length c2)).toList G3 (by omega)
  go_wp2_with(with_reducible refine wpList_store_mid rfl 68 (.tmp 2) (.tmp 13) rfl (w.heap.size+1) 0 (sgC who leaf s (.slice A2 l.length c2)) rfl rfl HTH.out HSI.out HON.out ?_)
  exact bodyPost_ret (zL Tryz.results105 _ _ (w.heap.size+1) _ _ rfl z4 hur rfl yI) rfl ⟨A2,⟨c2,rfl⟩,r4,G4,HLO.out⟩
theorem zpc (cm:Nat) (who at_ sw lf:Int) (s:Nat→Nat) (A:Option Addr) (c:Nat) (l:List Nat) (hl:l.length≤1048576) (w:World) (hr:Rd w w.heap.size A (u64L l)) :
 Calls Tryz.prog 197 #[.agg (stC cm who at_ sw lf s (.slice A l.length c))] w fun e w'=>∃ A' c',e=.returned (.agg (stC cm who at_ sw lf s (.slice A' l.length c')))∧Rd w' w'.heap.size A' (u64L l)∧Grew w w'∧(∀ ad,A'=some ad→w.heap.size≤ad.block):=by
 have z0:=Ag.new w 157 (stC cm who at_ sw lf s (.slice A l.length c))
 have G0:=ze (za w) (.cells (stC cm who at_ sw lf s (.slice A l.length c)) 157)
 have hus:=Tryz.underlying77
 have hur:=Tryz.underlying233
 have CO:=hQ9 (fun W hR=>zkv sw lf s A c l hl W hR)
 have HSL:Hid (zI9 77=some (sgC sw lf s (.slice A l.length c)).toList.length):=hQ9 zG
 go_enter Tryz.func197,Tryz.ntmps197
 go_wp2_with fail
 have z2:Ag ((w.alloc (.cells (stC cm who at_ sw lf s (.slice A l.length c)) 157)).alloc (.cells (zS24) 233)) (w.heap.size+1) (zS24:Array Value).toList:=by
  have:=Ag.new (w.alloc (.cells (stC cm who at_ sw lf s (.slice A l.length c)) 157)) 233 (zS24)
  simpa using this
 have z1:=z0.grew (ze (za _) (.cells (zS24) 233))
 have G2:=ze G0 (.cells (zS24) 233)
 clear z0 G0
 generalize (w.alloc (.cells (stC cm who at_ sw lf s (.slice A l.length c)) 157)).alloc (.cells (zS24) 233)=w2 at *
 have HC0:Hid (∀ y,Grew w2 y→y.cell? ⟨w.heap.size,0,none⟩=some (.int .u64 (cm:Nat))):=hQ9 (fun y g=>by simpa using (z1.grew g).cell 0 _ rfl)
 have HC1:Hid (∀ y,Grew w2 y→y.cell? ⟨w.heap.size,1,none⟩=some (.int .i64 who)):=hQ9 (fun y g=>by simpa using (z1.grew g).cell 1 _ rfl)
 have HC2:Hid (∀ y,Grew w2 y→y.cell? ⟨w.heap.size,2,none⟩=some (.int .i64 at_)):=hQ9 (fun y g=>by simpa using (z1.grew g).cell 2 _ rfl)
 have HCM:Hid (∀ y,Grew w2 y→y.rangeAt w.heap.size 3 (sgC sw lf s (.slice A l.length c)).toList):=hQ9 (fun y g=>xF (z1.grew g).cell)
 have r2:=hr.gr G2
 have HRY:=hQ9 (fun y (g:Grew w2 y)=>r2.gr g)
 clear z1 hr r2
 generalize sgC sw lf s (.slice A l.length c)=gs at *
 refine zv 10 (fun i=>match i with
  | 0=>fun v _=>v=.pointer (some ⟨w.heap.size,0,none⟩)
  | 1=>fun v _=>v=.int .u64 (cm:Nat)
  | 2=>fun v _=>v=.pointer (some ⟨w.heap.size,1,none⟩)
  | 3=>fun v _=>v=.int .i64 who
  | 4=>fun v _=>v=.pointer (some ⟨w.heap.size,2,none⟩)
  | 5=>fun v _=>v=.int .i64 at_
  | 6=>fun v _=>v=.pointer (some ⟨w.heap.size,3,none⟩)
  | 7=>fun v _=>v=.agg gs
  | 8=>fun v w=>AgS w w2.heap.size sw lf s l v
  | 9=>fun v w=>AgT w w2.heap.size cm who at_ sw lf s l v
  | _=>fun _ _=>True) (by kernel_rfl) (by kernel_rfl) ?_ ?_ ?_
 ·intro i v x y h hg
  match i,h with
  | 0,h | 1,h | 2,h | 3,h | 4,h | 5,h | 6,h | 7,h=>exact h
  | 8,h=>exact AgS.gr h hg
  | 9,h=>exact AgT.gr h hg
  | m+10,_=>trivial
 ·simp only [actOf,tk1,tk0,dr1,dr0,Act.put,si1,st1,st0,Nat.reduceAdd]
  refine⟨?_,?_,?_,?_,?_,?_,?_,?_,?_,?_,trivial⟩
  ·intro vs y hg hd
   dsimp only
   go_wp2_with fail
   exact⟨rfl,_,rfl,za _,rfl⟩
  ·intro vs y hg hd
   obtain⟨h0,_⟩:=hd
   replace h0:=h0 rfl
   dsimp only
   rw [show vs 0=_ from h0]
   have hc:=HC0.out y hg
   go_wp2_with fail
   exact⟨rfl,_,rfl,za _,rfl⟩
  ·intro vs y hg hd
   dsimp only
   go_wp2_with fail
   exact⟨rfl,_,rfl,za _,rfl⟩
  ·intro vs y hg hd
   obtain⟨h2,_⟩:=hd
   replace h2:=h2 rfl
   dsimp only
   rw [show vs 2=_ from h2]
   have hc:=HC1.out y hg
   go_wp2_with fail
   exact⟨rfl,_,rfl,za _,rfl⟩
  ·intro vs y hg hd
   dsimp only
   go_wp2_with fail
   exact⟨rfl,_,rfl,za _,rfl⟩
  ·intro vs y hg hd
   obtain⟨h4,_⟩:=hd
   replace h4:=h4 rfl
   dsimp only
   rw [show vs 4=_ from h4]
   have hc:=HC2.out y hg
   go_wp2_with fail
   exact⟨rfl,_,rfl,za _,rfl⟩
  ·intro vs y hg hd
   dsimp only
   go_wp2_with fail
   exact⟨rfl,_,rfl,za _,rfl⟩
  ·intro vs y hg hd
   obtain⟨h6,_⟩:=hd
   replace h6:=h6 rfl
   dsimp only
   rw [show vs 6=_ from h6]
   have hm:=HCM.out y hg
   go_wp2_with(with_reducible refine wpList_load_mid rfl 77 (.tmp 9) rfl w.heap.size 3 rfl gs.toList _ hm hus rfl HSL.out ?_;simp only [zT9])
   exact⟨rfl,_,rfl,za _,rfl⟩
  ·intro vs y hg hd
   obtain⟨h7,_⟩:=hd
   replace h7:=h7 rfl
   dsimp only
   rw [show vs 7=_ from h7]
   go_wp2_with(go_at_call 105;refine(CO.out y (HRY.out y hg)).mono ?_;rintro e z ⟨A2,c2,rfl,hr2,gz,hb2⟩)
   exact⟨rfl,_,rfl,gz,⟨A2,c2,rfl,hr2,fun ad h=>by have:=hb2 ad h;have:=hg.size;omega⟩⟩
  ·intro vs y hg hd
   obtain⟨h1,h3,h5,h8,_⟩:=hd
   replace h1:=h1 rfl
   replace h3:=h3 rfl
   replace h5:=h5 rfl
   replace h8:=h8 rfl
   dsimp only
   rw [show vs 1=_ from h1,show vs 3=_ from h3,show vs 5=_ from h5]
   obtain⟨A2,c2,hv,hr2,hb2⟩:=AgS.out h8
   rw [hv]
   have HBU:=hQ9 (zku cm who at_ sw lf s A2 l.length c2)
   go_wp2_with(with_reducible refine zC rfl 233 #[(0,.tmp 4),(1,.tmp 6),(2,.tmp 8),(3,.tmp 11)] rfl (stC cm who at_ sw lf s (.slice A2 l.length c2)) ?_ ?_;· simpa [Act.eval,Act.put]using HBU.out)
   exact⟨rfl,_,rfl,za _,⟨A2,c2,rfl,hr2,hb2⟩⟩
 ·intro vs y hg hJ
  have j0:vs 0=.pointer (some ⟨w.heap.size,0,none⟩):=hJ 0 (by decide)
  have j1:vs 1=.int .u64 (cm:Nat):=hJ 1 (by decide)
  have j2:vs 2=.pointer (some ⟨w.heap.size,1,none⟩):=hJ 2 (by decide)
  have j3:vs 3=.int .i64 who:=hJ 3 (by decide)
  have j4:vs 4=.pointer (some ⟨w.heap.size,2,none⟩):=hJ 4 (by decide)
  have j5:vs 5=.int .i64 at_:=hJ 5 (by decide)
  have j6:vs 6=.pointer (some ⟨w.heap.size,3,none⟩):=hJ 6 (by decide)
  have j7:vs 7=.agg gs:=hJ 7 (by decide)
  have s11:=hJ 8 (by decide)
  have s12:=hJ 9 (by decide)
  clear hJ
  simp only [actOf,tk1,tk0,dr1,dr0,Act.put,si1,st1,st0,Nat.reduceAdd]
  obtain⟨A2,c2,j9,r3,hb3⟩:=AgT.out s12
  rw [j9]
  clear s11 s12 j9
  have hz1:=z2.lt
  have hz2:=G2.size
  have HNE:Hid (∀ ad,A2=some ad→ad.block≠w.heap.size+1):=hQ9 (fun ad h=>by have:=hb3 ad h;omega)
  have HLO:Hid (∀ ad,A2=some ad→w.heap.size≤ad.block):=hQ9 (fun ad h=>by have:=hb3 ad h;omega)
  have z3:=z2.grew hg
  have G3:=zb G2 hg
  clear z2 G2 hg hb3 hz1 hz2
  have HTH:Hid (y.there (w.heap.size+1) 0 (stC cm who at_ sw lf s (.slice A2 l.length c2)).size):=hQ9 (z3.thereN 24 rfl)
  have HSI:Hid (zI9 233=some (stC cm who at_ sw lf s (.slice A2 l.length c2)).size):=hQ9 zex
  have HON:=hQ9 (jf cm who at_ sw lf s A2 l.length c2)
  have K3:=zn (stC cm who at_ sw lf s (.slice A2 l.length c2)).toList (w.heap.size+1) 0 y
  have r4:=(r3.kp K3 (zN9 _) (fun ad h1 h2 h3=>HNE.out ad h1 h3)).more K3.size
  have z4:=Ag.set (vs:=(stC cm who at_ sw lf s (.slice A2 l.length c2)).toList) z3 rfl
  have G4:=zh (o:=0) (b:=w.heap.size+1) (stC cm who at_ sw lf s (.slice A2 l.length c2)).toList G3 (by omega)
  go_wp2_with(with_reducible refine wpList_store_mid rfl 233 (.tmp 2) (.tmp 12) rfl (w.heap.size+1) 0 (stC cm who at_ sw lf s (.slice A2 l.length c2)) rfl rfl HTH.out HSI.out HON.out ?_)
  exact bodyPost_ret (zL Tryz.results197 _ _ (w.heap.size+1) _ _ rfl z4 hur rfl zex) rfl ⟨A2,⟨c2,rfl⟩,r4,G4,HLO.out⟩
theorem ziu (cm:Nat) (who at_ sw lf:Int) (s:Nat→Nat) (A A':Option Addr) (c c':Nat) (l:List Nat) (hl:l.length≤1048576) (w:World) (hr:Rd w w.heap.size A (u64L l)) (hr':Rd w w.heap.size A' (u64L l)) :
 Calls Tryz.prog 140 #[.agg (stC cm who at_ sw lf s (.slice A l.length c)),.agg (stC cm who at_ sw lf s (.slice A' l.length c'))] w fun e w'=>e=.returned (.bool true)∧Grew w w':=by
 have z1:=(Ag.new w 233 (stC cm who at_ sw lf s (.slice A l.length c))).grew (ze (za _) (.cells (stC cm who at_ sw lf s (.slice A' l.length c')) 233))
 have z2:=Ag.new (w.alloc (.cells (stC cm who at_ sw lf s (.slice A l.length c)) 233)) 233 (stC cm who at_ sw lf s (.slice A' l.length c'))
 rw [zl]at z2
 have G0:=ze (ze (za w) (.cells (stC cm who at_ sw lf s (.slice A l.length c)) 233)) (.cells (stC cm who at_ sw lf s (.slice A' l.length c')) 233)
 have r1:=hr.gr G0
 have r2:=hr'.gr G0
 have hus:=Tryz.underlying68
 have HL1:Hid (zI9 68=some (sgC sw lf s (.slice A l.length c)).toList.length):=hQ9 yI
 have HL2:Hid (zI9 68=some (sgC sw lf s (.slice A' l.length c')).toList.length):=hQ9 yI
 have m1:=hQ9 (xF z1.cell)
 have m2:=hQ9 (xF z2.cell)
 have x0:((w.alloc (.cells (stC cm who at_ sw lf s (.slice A l.length c)) 233)).alloc (.cells (stC cm who at_ sw lf s (.slice A' l.length c')) 233)).cell? ⟨w.heap.size,0,none⟩=some (.int .u64 (cm:Nat)):=by simpa using z1.cell 0 _ rfl
 have x1:((w.alloc (.cells (stC cm who at_ sw lf s (.slice A l.length c)) 233)).alloc (.cells (stC cm who at_ sw lf s (.slice A' l.length c')) 233)).cell? ⟨w.heap.size,1,none⟩=some (.int .i64 who):=by simpa using z1.cell 1 _ rfl
 have x2:((w.alloc (.cells (stC cm who at_ sw lf s (.slice A l.length c)) 233)).alloc (.cells (stC cm who at_ sw lf s (.slice A' l.length c')) 233)).cell? ⟨w.heap.size,2,none⟩=some (.int .i64 at_):=by simpa using z1.cell 2 _ rfl
 have y0:((w.alloc (.cells (stC cm who at_ sw lf s (.slice A l.length c)) 233)).alloc (.cells (stC cm who at_ sw lf s (.slice A' l.length c')) 233)).cell? ⟨w.heap.size+1,0,none⟩=some (.int .u64 (cm:Nat)):=by simpa using z2.cell 0 _ rfl
 have y1:((w.alloc (.cells (stC cm who at_ sw lf s (.slice A l.length c)) 233)).alloc (.cells (stC cm who at_ sw lf s (.slice A' l.length c')) 233)).cell? ⟨w.heap.size+1,1,none⟩=some (.int .i64 who):=by simpa using z2.cell 1 _ rfl
 have y2:((w.alloc (.cells (stC cm who at_ sw lf s (.slice A l.length c)) 233)).alloc (.cells (stC cm who at_ sw lf s (.slice A' l.length c')) 233)).cell? ⟨w.heap.size+1,2,none⟩=some (.int .i64 at_):=by simpa using z2.cell 2 _ rfl
 have CS:=hQ9 (zeh sw lf s A A' c c' l hl _ r1 r2)
 have e0:((cm:Int)==(cm:Int))=true:=by simp
 have e1:(who==who)=true:=by simp
 have e2:(at_==at_)=true:=by simp
 have GG:=hQ9 G0
 clear z1 z2 r1 r2 G0 hr hr'
 go_enter Tryz.func140,Tryz.ntmps140
 obtain⟨v,hv⟩:∃ v,(w.alloc (.cells (stC cm who at_ sw lf s (.slice A l.length c)) 233)).alloc (.cells (stC cm who at_ sw lf s (.slice A' l.length c')) 233)=v:=⟨_,rfl⟩
 rw [hv]at CS GG x0 x1 x2 y0 y1 y2 m1 m2
 go_wp2_with(first
  | (refine zj (by rfl) 68 (.tmp 25) rfl w.heap.size 3 rfl (sgC sw lf s (.slice A l.length c)).toList _ m1.out hus rfl HL1.out ?_;simp only [zT9])
  | (refine zj (by rfl) 68 (.tmp 27) rfl (w.heap.size+1) 3 rfl (sgC sw lf s (.slice A' l.length c')).toList _ m2.out hus rfl HL2.out ?_;simp only [zT9]))
 refine(CS.out).mono ?_
 rintro e w1 ⟨rfl,gg⟩
 go_wp2_with fail
 go_ret
 exact⟨rfl,zb GG.out gg⟩
def StR.t (r:StR):List UInt8:=stT r.cm r.who r.at_ r.g.1.1 r.g.1.2 r.g.2.1 r.g.2.2
structure KV (w:World) (B:Nat) (f:Int) (R:List Nat) (h:Int) (v:Value):Prop where
 out:∃ A c,v=.agg (kyS f A R.length c h)∧Rd w w.heap.size A (u64L R)∧(∀ ad,A=some ad→B≤ad.block)
theorem KV.gr {w w':World} {B:Nat} {f:Int} {R:List Nat} {h:Int} {v:Value} (k:KV w B f R h v) (g:Grew w w'):KV w' B f R h v:=by
 obtain⟨A,c,h1,h2,h3⟩:=k.out
 exact⟨A,c,h1,h2.gr g,h3⟩
theorem ku:(Tryz.prog.info? 64).map (·.size)=some 3:=by kernel_rfl
theorem zpd (f h:Int) (A:Option Addr) (n c:Nat):(kyS f A n c h).all (·.oneCell')=true:=by simp [kyS,Value.oneCell']
def whB (f who:Int):Bool:=decide (0≤who∧who<3*f+1)
theorem zg7 (f:Int) (hf:1≤f∧f≤3) (RA:Option Addr) (n Rc:Nat) (h who:Int) (w:World) :
 Calls Tryz.prog 101 #[.agg (kyS f RA n Rc h),.int .i64 who] w fun e w'=>e=.returned (.bool (whB f who))∧Grew w w':=by
 have z0:=Ag.new w 64 (kyS f RA n Rc h)
 have G0:=ze (za w) (.cells (kyS f RA n Rc h) 64)
 have c0:(w.alloc (.cells (kyS f RA n Rc h) 64)).cell? ⟨w.heap.size,0,none⟩=some (.int .i64 f):=by simpa using z0.cell 0 _ rfl
 have CN:=hQ9 (fun W=>rn_ok f hf W)
 obtain⟨nn,hnn⟩:∃ nn,3*f+1=nn:=⟨_,rfl⟩
 have HB:Hid (whB f who=decide (0≤who∧who<nn)):=hQ9 (by unfold whB;rw [hnn])
 rw [hnn]at CN
 clear z0 hnn hf
 by_cases h0:0≤who
 ·by_cases h1:who<nn
  ·have e0:decide (0≤who)=true:=decide_eq_true h0
   have e1:decide (who<nn)=true:=decide_eq_true h1
   rw [HB.out,decide_eq_true ⟨h0,h1⟩]
   clear HB
   go_enter Tryz.func101,Tryz.ntmps101
   go_wp2_with(go_at_call 78;refine(CN.out _).mono ?_;rintro e z ⟨rfl,hz⟩;rw [hz];clear hz)
   go_ret
   exact⟨rfl,G0⟩
  ·have e0:decide (0≤who)=true:=decide_eq_true h0
   have e1:decide (who<nn)=false:=zF9 h1
   rw [HB.out,zF9 (by omega)]
   clear HB
   go_enter Tryz.func101,Tryz.ntmps101
   go_wp2_with(go_at_call 78;refine(CN.out _).mono ?_;rintro e z ⟨rfl,hz⟩;rw [hz];clear hz)
   go_ret
   exact⟨rfl,G0⟩
 ·have e0:decide (0≤who)=false:=zF9 h0
  rw [HB.out,zF9 (by omega)]
  clear HB
  go_enter Tryz.func101,Tryz.ntmps101
  go_wp2_with fail
  go_ret
  exact⟨rfl,G0⟩
theorem zbb (f:Int) (R:List Nat) (RA:Option Addr) (Rc:Nat) (h:Int) (n d:Nat) (sw lf:Int) (s:Nat→Nat) (A:Option Addr) (c:Nat) (l:List Nat) (hn:n≤1000) (hlf:in64 lf) (hl:l.length≤1000) (hs:∀ k,k<18→s k<18446744073709551616) (hb:∀ x∈l,x<18446744073709551616) (hd:d<18446744073709551616)
 (hRl:R.length≤1000) (w:World) (hrR:Rd w w.heap.size RA (u64L R)) (hrl:Rd w w.heap.size A (u64L l)) :
 Calls Tryz.prog 102 #[.agg (kyS f RA R.length Rc h),.int .i64 (n:Int),.agg (sgC sw lf s (.slice A l.length c)),.int .u64 (d:Nat)] w fun e w'=>e=.returned (.bool (decide (ckE R h n d sw lf s l=0)))∧Grew w w':=by
 have z1:=(Ag.new w 64 (kyS f RA R.length Rc h)).grew (ze (za _) (.cells (sgC sw lf s (.slice A l.length c)) 68))
 have z2:=Ag.new (w.alloc (.cells (kyS f RA R.length Rc h) 64)) 68 (sgC sw lf s (.slice A l.length c))
 rw [zl]at z2
 have G0:=ze (ze (za w) (.cells (kyS f RA R.length Rc h) 64)) (.cells (sgC sw lf s (.slice A l.length c)) 68)
 have hug:=Tryz.underlying68
 have HSL:Hid (zI9 68=some (sgC sw lf s (.slice A l.length c)).toList.length):=hQ9 yI
 have CV:=hQ9 (fun W hR=>zih (R.getD n 0) sw lf s A c l (d:Int) h (by omega) hlf hs hb ⟨by omega,by omega⟩ W hR)
 have HLL:=hQ9 hrl
 have HRR:=hQ9 hrR
 have HCK:Hid (∀ b,(decide (sw=(n:Int))&&decide (n<R.length)&&vrS (R.getD n 0) lf s l (d:Int) h)=b→decide (ckE R h n d sw lf s l=0)=b):=hQ9 (fun b hb=>by
  rw [←hb]
  unfold ckE
  by_cases a1:R.length≤n
  ·rw [if_pos a1]
   have:¬n<R.length:=by omega
   simp [this]
  ·rw [if_neg a1]
   have a1':n<R.length:=by omega
   by_cases a2:sw=(n:Int)
   ·rw [if_pos a2]
    cases hv:vrS (R.getD n 0) lf s l (d:Int) h<;>simp [a2,a1']
   ·rw [if_neg a2];simp [a2])
 clear hrR hrl hs hb hlf hl hd
 go_enter Tryz.func102,Tryz.ntmps102
 go_wp2_with fail
 generalize (w.alloc (.cells (kyS f RA R.length Rc h) 64)).alloc (.cells (sgC sw lf s (.slice A l.length c)) 68)=w1 at *
 have k1:∀ y:Gr w1,y.val.cell? ⟨w.heap.size,1,none⟩=some (.slice RA R.length Rc):=fun y=>by simpa using (z1.gr y).cell 1 _ rfl
 have k2:∀ y:Gr w1,y.val.cell? ⟨w.heap.size,2,none⟩=some (.int .i64 h):=fun y=>by simpa using (z1.gr y).cell 2 _ rfl
 have k0:∀ y:Gr w1,y.val.cell? ⟨w.heap.size+1,0,none⟩=some (.int .i64 sw):=fun y=>by simpa using (z2.gr y).cell 0 _ rfl
 have M2:Hid (∀ y:Gr w1,y.val.rangeAt (w.heap.size+1) 0 (sgC sw lf s (.slice A l.length c)).toList):=hQ9 (fun y=>(z2.gr y).cell)
 have RL:Hid (∀ y:Gr w1,Rd y.val y.val.heap.size A (u64L l)):=hQ9 (fun y=>(HLL.out.gr G0).gr y.ok)
 have hn0:(0:Int)≤(n:Int):=by omega
 have g0:decide ((0:Int)≤(n:Int))=true:=decide_eq_true hn0
 clear z1 z2 HLL
 by_cases a2:sw=(n:Int)
 case neg =>
  have e2:(sw==(n:Int))=false:=by simpa using a2
  have HE:=HCK.out false (by simp [a2])
  clear HCK a2 HRR
  refine zg (za w1) (by kernel_rfl) (by kernel_rfl) ?_
  repeat (first
   | (go_big_quiet_want;refine zi 68 (.tmp 6) rfl (w.heap.size+1) 0 rfl (sgC sw lf s (.slice A l.length c)).toList _ M2.out hug rfl HSL.out ?_;simp only [Act.put,List.setIfInBounds_toArray,List.set_cons_succ,List.set_cons_zero,zT9];go_big_quiet_on)
   | (go_big_quiet_step (first
    | (go_at_call 160;exact callG (CV.out _ (RL.out _))))))
  refine wpQuiet_nil ?_
  rintro w8 ⟨⟨w8',g8⟩,rfl⟩
  go_wp2_with fail
  go_ret
  exact⟨by rw [HE];rfl,zb G0 g8⟩
 have e2:(sw==(n:Int))=true:=by simpa using a2
 by_cases a1:n<R.length
 case neg =>
  have e1:decide (n<R.length)=false:=zF9 a1
  have HE:=HCK.out false (by simp [a1])
  clear HCK a2 HRR a1
  refine zg (za w1) (by kernel_rfl) (by kernel_rfl) ?_
  repeat (first
   | (go_big_quiet_want;refine zi 68 (.tmp 6) rfl (w.heap.size+1) 0 rfl (sgC sw lf s (.slice A l.length c)).toList _ M2.out hug rfl HSL.out ?_;simp only [Act.put,List.setIfInBounds_toArray,List.set_cons_succ,List.set_cons_zero,zT9];go_big_quiet_on)
   | (go_big_quiet_step (first
    | (go_at_call 160;exact callG (CV.out _ (RL.out _))))))
  refine wpQuiet_nil ?_
  rintro w8 ⟨⟨w8',g8⟩,rfl⟩
  go_wp2_with fail
  go_ret
  exact⟨by rw [HE];rfl,zb G0 g8⟩
 have e1:decide (n<R.length)=true:=decide_eq_true a1
 have hn1:(n:Int)<(R.length:Int):=by omega
 have HE:=HCK.out (vrS (R.getD n 0) lf s l (d:Int) h) (by simp [a2,a1])
 obtain⟨ad,hA,-,-⟩:=HRR.out n (by simpa [u64L]using a1)
 have kR:∀ y:Gr w1,y.val.cell? (ad.add n)=some (.int .u64 (R.getD n 0:Nat)):=fun y=>by
  obtain⟨ad',hA',_,hc⟩:=(HRR.out.gr (zb G0 y.ok)) n (by simpa [u64L]using a1)
  rw [hA]at hA'
  injection hA' with hA'
  subst hA'
  rw [hc]
  simp [u64L,List.getD_eq_getElem?_getD,a1]
 subst hA
 have HE2:=hQ9 HE
 clear HCK a2 HRR HE
 generalize R.getD n 0=root at *
 refine zg (za w1) (by kernel_rfl) (by kernel_rfl) ?_
 repeat (first
  | (go_big_quiet_want;refine zi 68 (.tmp 6) rfl (w.heap.size+1) 0 rfl (sgC sw lf s (.slice A l.length c)).toList _ M2.out hug rfl HSL.out ?_;simp only [Act.put,List.setIfInBounds_toArray,List.set_cons_succ,List.set_cons_zero,zT9];go_big_quiet_on)
  | (go_big_quiet_step (first
   | (go_at_call 160;exact callG (CV.out _ (RL.out _))))))
 refine wpQuiet_nil ?_
 rintro w8 ⟨⟨w8',g8⟩,rfl⟩
 go_wp2_with fail
 go_ret
 exact⟨by rw [HE2.out];rfl,zb G0 g8⟩
theorem zkw (R:List Nat) (h:Int) (n d:Nat) (sw lf:Int) (s:Nat→Nat) (l:List Nat):ckE R h n d sw lf s l=0∨ckE R h n d sw lf s l=7:=by
 unfold ckE
 split
 ·exact .inr rfl
 ·split
  ·split
   ·exact .inl rfl
   ·exact .inr rfl
  ·exact .inr rfl
theorem zf6 (f:Int) (hf:1≤f∧f≤3) (R:List Nat) (RA:Option Addr) (Rc:Nat) (h:Int) (cm:Nat) (who at_ sw lf:Int) (s:Nat→Nat) (A:Option Addr) (c:Nat) (l:List Nat) (hc:cm<18446744073709551616) (hw:in64 who) (ha:in64 at_) (hsw:in64 sw) (hlf:in64 lf) (hl:l.length≤1000) (hs:∀ k,k<18→s k<18446744073709551616) (hb:∀ x∈l,x<18446744073709551616)
 (hRl:R.length≤1000) (w:World) (hrR:Rd w w.heap.size RA (u64L R)) (hrl:Rd w w.heap.size A (u64L l)) :
 Calls Tryz.prog 174 #[.agg (kyS f RA R.length Rc h),.agg (stC cm who at_ sw lf s (.slice A l.length c))] w fun e w'=>e=.returned (.int .i64 (vaE f R h cm who at_ sw lf s l))∧Grew w w':=by
 have huk:=Tryz.underlying64
 have hug:=Tryz.underlying68
 have HSK:Hid (zI9 64=some (kyS f RA R.length Rc h).toList.length):=hQ9 ku
 have HSG:Hid (zI9 68=some (sgC sw lf s (.slice A l.length c)).toList.length):=hQ9 yI
 have z1:=(Ag.new w 64 (kyS f RA R.length Rc h)).grew (ze (za _) (.cells (stC cm who at_ sw lf s (.slice A l.length c)) 233))
 have z2:=Ag.new (w.alloc (.cells (kyS f RA R.length Rc h) 64)) 233 (stC cm who at_ sw lf s (.slice A l.length c))
 rw [zl]at z2
 have G0:=ze (ze (za w) (.cells (kyS f RA R.length Rc h) 64)) (.cells (stC cm who at_ sw lf s (.slice A l.length c)) 233)
 have b1:((w.alloc (.cells (kyS f RA R.length Rc h) 64)).alloc (.cells (stC cm who at_ sw lf s (.slice A l.length c)) 233)).cell? ⟨w.heap.size+1,1,none⟩=some (.int .i64 who):=by simpa using z2.cell 1 _ rfl
 have hm:=z1.cell
 have CW:=hQ9 (fun W=>zg7 f hf RA R.length Rc h who W)
 have HRR:=hQ9 hrR
 have HLL:=hQ9 hrl
 clear hrR hrl
 by_cases hA:0≤who∧who<3*f+1
 case neg =>
  have HE:Hid (vaE f R h cm who at_ sw lf s l=1):=hQ9 (by
   unfold vaE
   by_cases h0:who<0
   ·rw [if_pos h0]
   ·rw [if_neg h0,if_pos (by omega)])
  rw [show whB f who=false from zF9 hA]at CW
  clear hs hb hA
  go_enter Tryz.func174,Tryz.ntmps174
  go_wp2_with(first
   | (with_reducible refine wpList_load_mid rfl 64 (.tmp 2) rfl w.heap.size 0 rfl (kyS f RA R.length Rc h).toList _ hm huk rfl HSK.out ?_;simp only [zT9]))
  refine(CW.out _).mono ?_
  rintro e w2 ⟨rfl,gg⟩
  have G2:=zb G0 gg
  have y1:=z1.grew gg
  have y2:=z2.grew gg
  have c2:w2.cell? ⟨w.heap.size+1,2,none⟩=some (.int .i64 at_):=by simpa using y2.cell 2 _ rfl
  clear hm z1 z2 gg CW G0
  go_wp2_with fail
  go_ret
  exact⟨by rw [HE.out];rfl,G2⟩
 rw [show whB f who=true from decide_eq_true hA]at CW
 have HV:Hid (vaE f R h cm who at_ sw lf s l=if tmB at_=true then ckE R h who.toNat (stD cm who at_) sw lf s l else 1):=hQ9 (by unfold vaE;rw [if_neg (by omega),if_neg (by omega)])
 by_cases hT:1≤at_∧at_≤1099511627776
 case neg =>
  have HE:Hid (vaE f R h cm who at_ sw lf s l=1):=hQ9 (by rw [HV.out,show tmB at_=false from zF9 hT];rfl)
  clear HV hs hb hA
  rcases(show at_<1∨(¬at_<1∧1099511627776<at_) by omega)with t | ⟨t,t'⟩
  ·have t0:decide (at_<1)=true:=decide_eq_true t
   clear hT t
   go_enter Tryz.func174,Tryz.ntmps174
   go_wp2_with(first
    | (with_reducible refine wpList_load_mid rfl 64 (.tmp 2) rfl w.heap.size 0 rfl (kyS f RA R.length Rc h).toList _ hm huk rfl HSK.out ?_;simp only [zT9]))
   refine(CW.out _).mono ?_
   rintro e w2 ⟨rfl,gg⟩
   have G2:=zb G0 gg
   have y1:=z1.grew gg
   have y2:=z2.grew gg
   have c2:w2.cell? ⟨w.heap.size+1,2,none⟩=some (.int .i64 at_):=by simpa using y2.cell 2 _ rfl
   clear hm z1 z2 gg CW G0
   go_wp2_with fail
   go_ret
   exact⟨by rw [HE.out];rfl,G2⟩
  ·have t0:decide (at_<1)=false:=zF9 t
   have t1:decide (1099511627776<at_)=true:=decide_eq_true t'
   clear hT t t'
   go_enter Tryz.func174,Tryz.ntmps174
   go_wp2_with(first
    | (with_reducible refine wpList_load_mid rfl 64 (.tmp 2) rfl w.heap.size 0 rfl (kyS f RA R.length Rc h).toList _ hm huk rfl HSK.out ?_;simp only [zT9]))
   refine(CW.out _).mono ?_
   rintro e w2 ⟨rfl,gg⟩
   have G2:=zb G0 gg
   have y1:=z1.grew gg
   have y2:=z2.grew gg
   have c2:w2.cell? ⟨w.heap.size+1,2,none⟩=some (.int .i64 at_):=by simpa using y2.cell 2 _ rfl
   clear hm z1 z2 gg CW G0
   go_wp2_with fail
   go_ret
   exact⟨by rw [HE.out];rfl,G2⟩
 obtain⟨n,rfl⟩:=Int.eq_ofNat_of_zero_le hA.1
 have HE:Hid (vaE f R h cm (n:Int) at_ sw lf s l=ckE R h n (stD cm (n:Int) at_) sw lf s l):=hQ9 (by rw [HV.out,show tmB at_=true from decide_eq_true hT];simp)
 have CS:=hQ9 (fun W h1 h2=>zbb f R RA Rc h n (stD cm (n:Int) at_) sw lf s A c l (by omega) hlf hl hs hb (zen _ _ _) hRl W h1 h2)
 have CD:=hQ9 (fun W=>zet cm (n:Int) at_ hc hw ha W)
 have t0:decide (at_<1)=false:=zF9 (by omega)
 have t1:decide (1099511627776<at_)=false:=zF9 (by omega)
 have H07:=hQ9 (zkw R h n (stD cm (n:Int) at_) sw lf s l)
 clear HV hs hb hA hT
 generalize stD cm (n:Int) at_=d at *
 generalize ckE R h n d sw lf s l=ck at *
 obtain⟨bk,hbk⟩:∃ b,decide (ck=0)=b:=⟨_,rfl⟩
 rw [hbk]at CS
 have HBK:=hQ9 hbk
 clear hbk
 go_enter Tryz.func174,Tryz.ntmps174
 go_wp2_with(first
  | (with_reducible refine wpList_load_mid rfl 64 (.tmp 2) rfl w.heap.size 0 rfl (kyS f RA R.length Rc h).toList _ hm huk rfl HSK.out ?_;simp only [zT9]))
 refine(CW.out _).mono ?_
 rintro e w2 ⟨rfl,gg⟩
 have G2:=zb G0 gg
 have y1:=z1.grew gg
 have y2:=z2.grew gg
 have c2:w2.cell? ⟨w.heap.size+1,2,none⟩=some (.int .i64 at_):=by simpa using y2.cell 2 _ rfl
 clear hm z1 z2 gg CW G0
 have M1:Hid (∀ y:Gr w2,y.val.rangeAt w.heap.size 0 (kyS f RA R.length Rc h).toList):=hQ9 (fun y=>(y1.gr y).cell)
 have M2:Hid (∀ y:Gr w2,y.val.rangeAt (w.heap.size+1) 3 (sgC sw lf s (.slice A l.length c)).toList):=hQ9 (fun y=>xF (y2.gr y).cell)
 have RR:Hid (∀ y:Gr w2,Rd y.val y.val.heap.size RA (u64L R)):=hQ9 (fun y=>(HRR.out.gr G2).gr y.ok)
 have RL:Hid (∀ y:Gr w2,Rd y.val y.val.heap.size A (u64L l)):=hQ9 (fun y=>(HLL.out.gr G2).gr y.ok)
 have q0:∀ y:Gr w2,y.val.cell? ⟨w.heap.size+1,0,none⟩=some (.int .u64 (cm:Nat)):=fun y=>by simpa using (y2.gr y).cell 0 _ rfl
 have q1:∀ y:Gr w2,y.val.cell? ⟨w.heap.size+1,1,none⟩=some (.int .i64 (n:Int)):=fun y=>by simpa using (y2.gr y).cell 1 _ rfl
 have q2:∀ y:Gr w2,y.val.cell? ⟨w.heap.size+1,2,none⟩=some (.int .i64 at_):=fun y=>by simpa using (y2.gr y).cell 2 _ rfl
 clear y1 y2 HRR HLL
 go_wp2_with fail
 clear c2
 refine zg (za w2) (by kernel_rfl) (by kernel_rfl) ?_
 repeat (first
  | (go_big_quiet_want;refine zi 64 (.tmp 2) rfl w.heap.size 0 rfl (kyS f RA R.length Rc h).toList _ M1.out huk rfl HSK.out ?_;simp only [Act.put,List.setIfInBounds_toArray,List.set_cons_succ,List.set_cons_zero,zT9];go_big_quiet_on)
  | (go_big_quiet_want;refine zi 68 (.tmp 23) rfl (w.heap.size+1) 3 rfl (sgC sw lf s (.slice A l.length c)).toList _ M2.out hug rfl HSG.out ?_;simp only [Act.put,List.setIfInBounds_toArray,List.set_cons_succ,List.set_cons_zero,zT9];go_big_quiet_on)
  | (go_big_quiet_step (first
   | (go_at_call 222;exact callG (CD.out _))
   | (go_at_call 102;exact callG (CS.out _ (RR.out _) (RL.out _))))))
 refine wpQuiet_nil ?_
 rintro w8 ⟨⟨w8',g8⟩,rfl⟩
 cases bk
 ·have HK:Hid (ck=7):=hQ9 (by
   rcases H07.out with hk | hk
   ·have:=HBK.out;simp [hk]at this
   ·exact hk)
  clear HBK
  go_wp2_with fail
  go_ret
  exact⟨by rw [HE.out,HK.out];rfl,zb G2 g8⟩
 ·have HK:Hid (ck=0):=hQ9 (of_decide_eq_true HBK.out)
  clear HBK
  go_wp2_with fail
  go_ret
  exact⟨by rw [HE.out,HK.out];rfl,zb G2 g8⟩
end Go.Proofs.YtkpnheenacchhaaGreatDoor
