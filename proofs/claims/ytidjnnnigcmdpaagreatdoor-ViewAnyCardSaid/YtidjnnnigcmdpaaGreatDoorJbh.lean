/- key.Parse of a signature's words. -/
import Derived.Test.YtidjnnnigcmdpaaGreatDoorJzz
import Derived.Laws.Cover3
import Derived.Deep.Cut
import Derived.Test.YtidjnnnigcmdpaaGreatDoorJbg
import Derived.Test.YtidjnnnigcmdpaaGreatDoorJbb
import Derived.Laws.MakeOwn
import Derived.Test.YtidjnnnigcmdpaaGreatDoorJba
import Derived.Test.YtidjnnnigcmdpaaGreatDoorJal
import Derived.Test.YtidjnnnigcmdpaaGreatDoorJak
import Derived.Test.YtidjnnnigcmdpaaGreatDoorJaj
import Derived.Test.YtidjnnnigcmdpaaGreatDoorJbe
import Derived.Test.YtidjnnnigcmdpaaGreatDoorJao
import Derived.Test.YtidjnnnigcmdpaaGreatDoorJax
import Derived.Test.YtidjnnnigcmdpaaGreatDoorJbf
set_option maxHeartbeats 4000000
set_option maxRecDepth 100000
set_option linter.unusedSimpArgs false
set_option linter.unusedVariables false
set_option linter.unnecessarySimpa false
namespace Go.Proofs.YtidjnnnigcmdpaaGreatDoor
open Go.RowKit
theorem kp_tn {g:Nat} {w w':World} (h:Tn g w w'):Kp (fun j=>j=g) w w':=⟨h.os,h.tape,h.output,h.size,fun i hi hn=>h.block i hi (fun e=>hn (by injection e))⟩
theorem zad {g:Nat} {a w w':World} (h:Grew a w) (k:Tn g w w') (hg:a.heap.size≤g):Grew a w':=zho h k h.size hg
theorem yR (sd:Int) (n:Nat):∀ x∈pubsL sd n,x<18446744073709551616:=fun x hx=>by
 obtain⟨i,_,rfl⟩:=List.mem_map.1 hx
 exact zj9 _
theorem zey:∀ h:Fin 9,leavesOk (2^h.val)=true:=by decide
theorem Ag.set1 {w:World} {b:Nat} {cs:List Value} (h:Ag w b cs) (j:Nat) (v:Value) (hj:j<cs.length):Ag (w.setCell ⟨b,j,none⟩ v) b (cs.set j v):=by
 have ht:w.there b j [v].length:=fun i hi=>by
  have:i=0:=by simpa using hi
  subst this
  simpa using h.there j hj
 have hs:=World.rangeAt_setCells_same w b j [v] ht
 have e:w.setCells b j [v]=w.setCell ⟨b,j,none⟩ v:=rfl
 refine⟨fun i x hx=>?_,fun i hi=>⟨?_,?_⟩,Nat.lt_of_lt_of_le h.lt (by rw [←e];exact(zn [v] b j w).size)⟩
 ·by_cases hij:i=j
  ·subst hij
   rw [List.getElem?_set_self hj]at hx
   cases hx
   rw [←e]
   simpa using hs 0 v rfl
  ·rw [List.getElem?_set_ne (Ne.symm hij)]at hx
   rw [show(w.setCell ⟨b,j,none⟩ v).cell? ⟨b,0+i,none⟩=w.cell? ⟨b,0+i,none⟩ from World.cell?_setCell_other w _ _ v (fun e=>by injection e;omega)]
   exact h.cell i x hx
 ·rw [←e]
  exact World.isSome_setCells b [v] j w _ (h.there i (by simpa using hi)).1
 ·rw [←e,World.frozen?_setCells]
  exact(h.there i (by simpa using hi)).2
theorem zko (sd:Int) (h:Nat) (hh:h≤8) (m:Nat) (d:Int) (hd:0≤d) (hm:m<2^h):vrS (rootN (pubsL sd (2^h))) (m:Int) (signF (secN sd (m:Int)) d.toNat) (pathN (pubsL sd (2^h)) m) d (h:Int)=true:=by
 have hl:(pubsL sd (2^h)).length=2^h:=yl sd _
 obtain⟨h1,h2⟩:=jZ h hh (pubsL sd (2^h)) m hl (by rw [hl];omega)
 have h3:(pubsL sd (2^h)).getD m 0=pubN (secN sd (m:Int)):=by simp [pubsL,List.getD,hm]
 rw [h3]at h2
 have hp:((2^h:Nat):Int)=(2:Int)^h:=by simp
 unfold vrS
 rw [zhz,kz (by rw [h1];exact⟨hh,by omega,by rw [←hp];omega⟩),Int.toNat_natCast,h2,h1]
 simp
theorem xo (sd:Int) (h:Nat) (hh:h≤8) (m:Nat) (hm:m<2^h):(pathN (pubsL sd (2^h)) m).length=h:=by
 have hl:(pubsL sd (2^h)).length=2^h:=yl sd _
 exact(jZ h hh (pubsL sd (2^h)) m hl (by rw [hl];omega)).1
structure OwnU (w:World) (B:Nat) (l:List Nat) (v:Value):Prop where
 out:w.ownsRow B 25 1 v l.length (u64L l)
theorem OwnU.gr {w w':World} {B:Nat} {l:List Nat} {v:Value} (h:OwnU w B l v) (g:Grew w w'):OwnU w' B l v:=⟨yZ h.out g⟩
theorem PV.kp {S:Nat→Prop} {w w':World} {B:Nat} {l:List Nat} {v:Value} (h:PV w B l v) (k:Kp S w w') (hs:∀ i,S i→i<B):PV w' B l v:=by
 obtain⟨A,c,h1,h2,h3⟩:=h.out
 exact⟨A,c,h1,(h2.kp k (Nat.le_refl _) (fun ad e _ hS=>by have h4:=h3 ad e;have h5:=hs _ hS;omega)).more k.size,h3⟩
theorem pv_one (y:World) (t:TypeId) (q:Nat) {B:Nat} (h:B≤y.heap.size):PV (y.alloc (.cells #[.int .u64 (q:Nat)] t)) B [q] (.slice (some ⟨y.heap.size,0,none⟩) 1 1) :=
 ⟨some ⟨y.heap.size,0,none⟩,1,rfl,ji y t #[.int .u64 (q:Nat)],fun ad e=>by cases e;exact h⟩
def rkC (who sd h:Int) (v:Value) (nx rs:Nat):List Value:=[.int .i64 who,.int .u64 sd,.int .i64 h,v,.int .i64 (nx:Int),.int .i64 (rs:Int)]
structure RkAt (w:World) (b:Nat) (N:Nat→Prop) (who sd h:Int) (l:List Nat) (nx rs:Nat):Prop where
 out:∃ A c,Ag w b (rkC who sd h (.slice A l.length c) nx rs)∧RdN w N A (u64L l)
theorem RkAt.lt {w:World} {b:Nat} {N:Nat→Prop} {who sd h:Int} {l:List Nat} {nx rs:Nat} (k:RkAt w b N who sd h l nx rs):b<w.heap.size:=by
 obtain⟨A,c,z,_⟩:=k.out
 exact z.lt
theorem RkAt.kp {S:Nat→Prop} {w w':World} {b:Nat} {N:Nat→Prop} {who sd h:Int} {l:List Nat} {nx rs:Nat} (k:RkAt w b N who sd h l nx rs) (t:Kp S w w') (hb:¬S b) (hs:∀ i,S i→N i):RkAt w' b N who sd h l nx rs:=by
 obtain⟨A,c,z,r⟩:=k.out
 exact⟨A,c,z.kp t hb,r.kp t hs⟩
theorem RkAt.grew {w w':World} {b:Nat} {N:Nat→Prop} {who sd h:Int} {l:List Nat} {nx rs:Nat} (k:RkAt w b N who sd h l nx rs) (t:Grew w w'):RkAt w' b N who sd h l nx rs:=k.kp (S:=fun _=>False) (zj t) (fun h=>h) (fun _ h=>h.elim)
theorem RkAt.set4 {w:World} {b:Nat} {N:Nat→Prop} {who sd h:Int} {l:List Nat} {nx rs:Nat} (k:RkAt w b N who sd h l nx rs) (hN:N b) (m:Nat):RkAt (w.setCell ⟨b,4,none⟩ (.int .i64 (m:Int))) b N who sd h l m rs:=by
 obtain⟨A,c,z,r⟩:=k.out
 exact⟨A,c,Ag.set1 z 4 (.int .i64 (m:Int)) (by simp [rkC]),r.kp (kp_tn (kN (g:=b) (jf _ w) (p:=⟨b,4,none⟩) (.inl rfl) _)) (fun i e=>e▸hN)⟩
theorem RkAt.drewN {w:World} {b:Nat} {N:Nat→Prop} {who sd h:Int} {l:List Nat} {nx rs:Nat} (k:RkAt w b N who sd h l nx rs) (n:Nat):RkAt (w.drewN n) b N who sd h l nx rs:=k.grew (yr (zc w) n)
section
variable (l : List Nat) (nx rs : Nat) (who sd d n : Int)
def soW:Int:=if l.length≤nx then 0 else if rs≤nx then 0 else who
def soL:Int:=if l.length≤nx then 0 else if rs≤nx then 0 else (nx:Int)
noncomputable def soS:Nat→Nat:=if l.length≤nx then fun _=>0 else if rs≤nx then fun _=>0 else signF (secN sd nx) d.toNat
noncomputable def soP:List Nat:=if l.length≤nx then [] else if rs≤nx then [] else pathN l nx
def soE:Int:=if l.length≤nx then 14 else if rs≤nx then 16 else 0
def soN:Nat:=if l.length≤nx then nx else if rs≤nx then nx else nx+1
end
theorem zae (l:List Nat) (nx rs:Nat) (h:∀ m,m<l.length→(pathN l m).length≤8):(soP l nx rs).length≤8:=by
 unfold soP;split
 ·simp
 ·split
  ·simp
  ·exact h nx (by omega)
theorem zds (w:World):Rd w w.heap.size none (u64L []):=fun k hk=>absurd hk (by simp [u64L])
theorem kU (b p:Nat) (who sd:Int) (l:List Nat) (nx rs:Nat) (hl:l.length≤256) (hn:nx≤l.length) (hr:rs≤l.length) (d:Int) (hkk:leavesOk l.length=true) (hbb:∀ n∈l,n<18446744073709551616) (hsd:U64 sd) (hd:U64 d) (w:World) (h:KyAt w b p who sd l nx rs) :
 Calls Tryz.prog 112 #[.pointer (some ⟨b,0,none⟩),.int .u64 d] w fun e w'=>(∃ A c,e=.returned (.tuple #[.agg (sgC (soW l nx rs who) (soL l nx rs) (soS l nx rs sd d) (.slice A (soP l nx rs).length c)),.int .i64 (soE l nx rs)])∧Rd w' w'.heap.size A (u64L (soP l nx rs))∧(∀ ad,A=some ad→w.heap.size≤ad.block))∧Tn b w w'∧KyAt w' b p who sd l (soN l nx rs) rs:=by
 unfold soW soL soS soP soE soN
 by_cases h1:l.length≤nx
 ·simp only [if_pos h1]
  refine(zet b p who sd l nx rs hl hn hr d (by omega) w h).mono ?_
  rintro e w' ⟨rfl,g⟩
  exact⟨⟨none,0,rfl,zds _,fun ad h=>by cases h⟩,x9 g,h.grew g⟩
 ·simp only [if_neg h1]
  by_cases h2:rs≤nx
  ·simp only [if_pos h2]
   refine(zeu b p who sd l nx rs hl hn hr d (by omega) h2 w h).mono ?_
   rintro e w' ⟨rfl,g⟩
   exact⟨⟨none,0,rfl,zds _,fun ad h=>by cases h⟩,x9 g,h.grew g⟩
  ·simp only [if_neg h2]
   exact zkk b p who sd l nx rs hl hn hr d (by omega) (by omega) hkk hbb hsd hd w h
noncomputable def ckE (R:List Nat) (h:Int) (n:Nat) (d:Nat) (sw lf:Int) (s:Nat→Nat) (l:List Nat):Int :=
 if R.length≤n then 7 else if sw=(n:Int) then (if vrS (R.getD n 0) lf s l (d:Int) h=true then 0 else 7) else 7
def kyS (f:Int) (RA:Option Addr) (n c:Nat) (h:Int):Array Value:=#[.int .i64 f,.slice RA n c,.int .i64 h]
noncomputable def vaE (f:Int) (R:List Nat) (h:Int) (cm:Nat) (who at_ sw lf:Int) (s:Nat→Nat) (l:List Nat):Int :=
 if who<0 then 1 else if 3*f+1≤who then 1 else if tmB at_=true then ckE R h who.toNat (stD cm who at_) sw lf s l else 1
def cyE (f:Int) (n:Nat) (h:Int):Int:=if f<1∨3<f then 1 else if (n:Int)=3*f+1∧0≤h∧h≤8 then 0 else 1
def sdI (seed:Int) (i:Nat):Int:=(seed+(i:Int))%18446744073709551616
theorem jo (seed:Int) (i:Nat):U64 (sdI seed i):=by unfold sdI;exact⟨by omega,by omega⟩
noncomputable def ksL (seed:Int) (h i:Nat):List Nat:=pubsL (sdI seed i) (2^h)
noncomputable def rtL (seed:Int) (h n:Nat):List Nat:=(List.range n).map fun i=>rootN (ksL seed h i)
def ptrL (p:Nat→Nat) (n:Nat):List Value:=(List.range n).map fun i=>.pointer (some ⟨p i+1,0,none⟩)
theorem zij (seed:Int) (h n:Nat):rtL seed h (n+1)=rtL seed h n++[rootN (ksL seed h n)]:=by simp [rtL,List.range_succ]
theorem zgk (p:Nat→Nat) (n:Nat):ptrL p (n+1)=ptrL p n++[.pointer (some ⟨p n+1,0,none⟩)]:=by simp [ptrL,List.range_succ]
theorem zez {p q:Nat→Nat} {n:Nat} (h:∀ i,i<n→p i=q i):ptrL p n=ptrL q n:=by
 unfold ptrL
 apply List.map_congr_left
 intro i hi
 rw [h i (List.mem_range.1 hi)]
structure KsAt (w:World) (B n:Nat) (p:Nat→Nat) (seed:Int) (h:Nat):Prop where
 key:∀ i,i<n→KyAt w (p i+1) (p i) (i:Int) (sdI seed i) (ksL seed h i) 0 (2^h)
 low:∀ i,i<n→B≤p i
 apart:∀ i j,i<n→j<n→i≠j→p i≠p j∧p i+1≠p j∧p i≠p j+1
theorem KsAt.kp {S:Nat→Prop} {w w':World} {B n:Nat} {p:Nat→Nat} {seed:Int} {h:Nat} (k:KsAt w B n p seed h) (t:Kp S w w') (hs:∀ i,i<n→¬S (p i)∧¬S (p i+1)):KsAt w' B n p seed h :=
 ⟨fun i hi=>(k.key i hi).kp t (hs i hi).2 (hs i hi).1,k.low,k.apart⟩
theorem KsAt.grew {w w':World} {B n:Nat} {p:Nat→Nat} {seed:Int} {h:Nat} (k:KsAt w B n p seed h) (t:Grew w w'):KsAt w' B n p seed h:=k.kp (S:=fun _=>False) (zj t) (fun i _=>⟨fun h=>h,fun h=>h⟩)
theorem KsAt.snoc {w:World} {B n:Nat} {p:Nat→Nat} {seed:Int} {h q:Nat} (k:KsAt w B n p seed h) (hq:KyAt w (q+1) q (n:Int) (sdI seed n) (ksL seed h n) 0 (2^h)) (hB:B≤q) (hlt:∀ i,i<n→p i+1<q) :
 KsAt w B (n+1) (fun i=>if i=n then q else p i) seed h:=by
 refine⟨fun i hi=>?_,fun i hi=>?_,fun i j hi hj hij=>?_⟩
 ·by_cases e:i=n
  ·subst e;simpa using hq
  ·simpa [e]using k.key i (by omega)
 ·by_cases e:i=n
  ·simpa [e]using hB
  ·simpa [e]using k.low i (by omega)
 ·by_cases e:i=n
  ·have e2:j≠n:=fun h=>hij (e.trans h.symm)
   have:=hlt j (by omega)
   simp only [if_pos e,if_neg e2]
   omega
  ·by_cases e2:j=n
   ·have:=hlt i (by omega)
    simp only [if_pos e2,if_neg e]
    omega
   ·simpa [e,e2]using k.apart i j (by omega) (by omega) hij
def Sep (v u:Value) (n:Nat) (p:Nat→Nat):Prop:=∀ g,v.ownBlock=some g→u.ownBlock≠some g∧∀ i,i<n→g≠p i∧g≠p i+1
theorem ze0 {P:Program} {fn:Func} {p u:Tmp} {ty:TypeId} (h:fn.results=#[.tmp u,.cell p ty]) (tmps:Array Value) (w:World) (b:Nat) (cs:List Value) (d:TypeDesc) (v:Value)
 (hp:tmps.getD p undef=.pointer (some ⟨b,0,none⟩)) (hv:tmps.getD u undef=v) (hz:Ag w b cs) (hu:P.underlying ty=some d) (hd:d.isRow=true) (hi:(P.info? ty).map (·.size)=some cs.length) :
 (results fn tmps).run P w=.ok (.tuple #[v,.agg cs.toArray]) w:=by
 have hp':tmps[p]?.getD undef=.pointer (some ⟨b,0,none⟩):=by simpa using hp
 have hv':tmps[u]?.getD undef=v:=by simpa using hv
 simp [results,h,hp',hv',asAddr,run_loadVar_mid w b 0 ty cs d hz.cell hu hd hi]
structure OwnS (w:World) (B:Nat) (t:TypeId) (xs:List Value) (u:Value) (lo:Nat) (v:Value):Prop where
 own:w.ownsRow B t 1 v xs.length xs
 blk:v.ownBlock=u.ownBlock∨∃ s,v.ownBlock=some s∧lo≤s
theorem OwnS.gr {w w':World} {B lo:Nat} {t:TypeId} {xs:List Value} {u v:Value} (h:OwnS w B t xs u lo v) (g:Grew w w'):OwnS w' B t xs u lo v:=⟨yZ h.own g,h.blk⟩
theorem zkp (seed:Int) (k:Nat):IntKind.u64.wrap (seed+(k:Int))=sdI seed k:=by simp [IntKind.wrap,IntKind.bits,IntKind.signed,sdI]
theorem zkq (seed:Int) (hsd:U64 seed) (h:Nat) (hh:h≤5) (w:World) :
 Calls Tryz.prog 42 #[.int .i64 1,.int .u64 seed,.int .i64 (h:Int)] w fun e w'=>∃ LA Lc RA Rc p,e=.returned (.tuple #[.slice LA 4 Lc,.agg (kyS 1 RA 4 Rc (h:Int))])∧KsAt w' w.heap.size 4 p seed h∧Rd w' w'.heap.size LA (ptrL p 4)∧Rd w' w'.heap.size RA (u64L (rtL seed h 4)) ∧
  (∀ ad,LA=some ad→∀ i,i<4→ad.block≠p i∧ad.block≠p i+1)∧(∀ ad,RA=some ad→∀ i,i<4→ad.block≠p i∧ad.block≠p i+1)∧(∀ ad,LA=some ad→w.heap.size≤ad.block)∧(∀ ad,RA=some ad→w.heap.size≤ad.block)∧Grew w w':=by
 have hkt:=Tryz.underlying49
 have HSK:∀ pv:Value,Hid ((Tryz.prog.info? 49).map (·.size)=some (#[Value.int .i64 1,pv,Value.int .i64 (h:Int)]:Array Value).size):=fun pv=>hQ9 (by kernel_rfl)
 have zr:=(Ag.new w 49 #[.int .i64 0,.slice none 0 0,.int .i64 0]).grew (zg (zc _) (.cells #[.int .i64 0,.slice none 0 0,.int .i64 0] 49))
 have zk:Ag ((w.alloc (.cells #[.int .i64 0,.slice none 0 0,.int .i64 0] 49)).alloc (.cells #[.int .i64 0,.slice none 0 0,.int .i64 0] 49)) (w.heap.size+1) (#[.int .i64 0,.slice none 0 0,.int .i64 0]:Array Value).toList:=by
  have:=Ag.new (w.alloc (.cells #[.int .i64 0,.slice none 0 0,.int .i64 0] 49)) 49 #[.int .i64 0,.slice none 0 0,.int .i64 0]
  simpa using this
 have G0:=zg (zg (zc w) (.cells #[.int .i64 0,.slice none 0 0,.int .i64 0] 49)) (.cells #[.int .i64 0,.slice none 0 0,.int .i64 0] 49)
 have hn:2^h≤32:=by
  have:2^h≤2^5:=Nat.pow_le_pow_right (by decide) hh
  simpa using this
 have hn1:1≤2^h:=Nat.one_le_two_pow
 have hlv0:leavesOk (2^h)=true:=zey ⟨h,by omega⟩
 have e2:wrap64 ((2:Int)^h)=((2^h:Nat):Int):=by
  have:((2:Int)^h)=((2^h:Nat):Int):=by simp
  rw [this]
  generalize 2^h=n at *
  unfold wrap64;omega
 have h0:(0:Int)≤(h:Int):=by omega
 have h5:(h:Int)≤8:=by omega
 have HKL:Hid (∀ i,(ksL seed h i).length=2^h):=hQ9 (fun i=>yl _ _)
 have HKB:Hid (∀ i,∀ x∈ksL seed h i,x<18446744073709551616):=hQ9 (fun i=>yR _ _)
 have HLV:=hQ9 hlv0
 have CN:=hQ9 (fun(k:Nat) (hk:k<4) W=>zkj (k:Int) (sdI seed k) h (by omega) (by omega) (jo seed k) W)
 clear hlv0
 have z1:=Ag.set (vs:=(#[.int .i64 1,.slice none 0 0,.int .i64 (h:Int)]:Array Value).toList) zk rfl
 have HTH:Hid (((w.alloc (.cells #[.int .i64 0,.slice none 0 0,.int .i64 0] 49)).alloc (.cells #[.int .i64 0,.slice none 0 0,.int .i64 0] 49)).there (w.heap.size+1) 0 (#[.int .i64 1,.slice none 0 0,.int .i64 (h:Int)]:Array Value).size):=hQ9 (zk.thereN 3 rfl)
 have HON:Hid ((#[.int .i64 1,.slice none 0 0,.int .i64 (h:Int)]:Array Value).all (·.oneCell')=true):=hQ9 (by simp [Value.oneCell'])
 have zr1:=zr.other (b':=w.heap.size+1) (o:=0) (vs:=(#[.int .i64 1,.slice none 0 0,.int .i64 (h:Int)]:Array Value).toList) (by omega)
 have G1:=zi (o:=0) (b:=w.heap.size+1) (#[.int .i64 1,.slice none 0 0,.int .i64 (h:Int)]:Array Value).toList G0 (by omega)
 have hs1:w.heap.size+2≤(((w.alloc (.cells #[.int .i64 0,.slice none 0 0,.int .i64 0] 49)).alloc (.cells #[.int .i64 0,.slice none 0 0,.int .i64 0] 49)).setCells (w.heap.size+1) 0 (#[.int .i64 1,.slice none 0 0,.int .i64 (h:Int)]:Array Value).toList).heap.size:=by
  have:=zbe ((w.alloc (.cells #[.int .i64 0,.slice none 0 0,.int .i64 0] 49)).alloc (.cells #[.int .i64 0,.slice none 0 0,.int .i64 0] 49)) (w.heap.size+1) 0 (#[.int .i64 1,.slice none 0 0,.int .i64 (h:Int)]:Array Value).toList
  simp at this ⊢
  omega
 clear zr zk G0
 obtain⟨w1,hw1⟩:∃ v,((w.alloc (.cells #[.int .i64 0,.slice none 0 0,.int .i64 0] 49)).alloc (.cells #[.int .i64 0,.slice none 0 0,.int .i64 0] 49)).setCells (w.heap.size+1) 0 (#[.int .i64 1,.slice none 0 0,.int .i64 (h:Int)]:Array Value).toList=v:=⟨_,rfl⟩
 rw [hw1]at z1 zr1 G1 hs1
 have HW1:=hQ9 hw1
 clear hw1
 go_enter Tryz.func42,Tryz.ntmps42
 go_wp2_with(with_reducible refine wpList_store_mid rfl 49 (.tmp 8) (.tmp 16) rfl (w.heap.size+1) 0 (#[.int .i64 1,.slice none 0 0,.int .i64 (h:Int)]) rfl rfl HTH.out (HSK _).out HON.out ?_;rw [HW1.out];clear HW1 HTH)
 clear hsd
 obtain⟨w0,hw0⟩:∃ n,w.heap.size=n:=⟨_,rfl⟩
 rw [hw0]at z1 zr1 hs1 ⊢
 have HW0:=hQ9 hw0
 clear hw0
 go_loopw [9,10] (fun lv iv wr=>∃(k:Nat) (p:Nat→Nat) (pv lw:Value),lw=lv∧k≤4∧iv=.int .i64 k∧Ag wr (w0+1) [.int .i64 1,pv,.int .i64 (h:Int)]∧Ag wr w0 (#[.int .i64 0,.slice none 0 0,.int .i64 0]:Array Value).toList∧KsAt wr (w0+2) k p seed h∧wr.ownsRow (w0+2) 98 1 lv k (ptrL p k)∧wr.ownsRow (w0+2) 35 1 pv k (u64L (rtL seed h k))∧Sep lv pv k p∧Sep pv lv k p∧Grew w wr∧w0+2≤wr.heap.size) (fun _ iv _=>4-(intOf iv).toNat)
 case atStart=>exact⟨0,fun _=>0,.slice none 0 0,_,rfl,Nat.zero_le _,rfl,z1,zr1,⟨fun i hi=>absurd hi (by omega),fun i hi=>absurd hi (by omega),fun i j hi=>absurd hi (by omega)⟩,World.ownsRow_nil _ _ _ _,World.ownsRow_nil _ _ _ _,fun g e=>(by cases e),fun g e=>(by cases e),G1,hs1⟩
 case round =>
  clear z1 zr1 G1 hs1
  obtain⟨k,p,pv,lv,hlv,hk,rfl,zk,zr,KS,OL,OP,SL,SP,G,hs⟩:=hrel
  subst hlv
  by_cases hlt:k<4
  ·have hk0:(0:Int)≤(k:Int):=by omega
   have hk1:(k:Int)<4:=by omega
   have cn:=CN.out k hlt wr
   have HK:=hQ9 hlt
   clear hlt
   obtain⟨i0,hi,hz0,hz1,hz2⟩:=info_parts (show(Tryz.prog.info? 98).map (fun i=>(i.zero,i.size,i.bytes))=some (some (.pointer none),1,8) by kernel_rfl)
   obtain⟨i1,hj,hy0,hy1,hy2⟩:=info_parts infoD
   obtain⟨q,hq⟩:∃ q,wr.heap.size=q:=⟨_,rfl⟩
   rw [hq]at cn hs
   have OLT:=hQ9 (fun g e=>hq▸(zG OL g e).2)
   have OPT:=hQ9 (fun g e=>hq▸(zG OP g e).2)
   have OLB:=hQ9 (zA OL)
   have OPB:=hQ9 (zA OP)
   have KLT:Hid (∀ i,i<k→p i+1<q):=hQ9 (fun i hi=>hq▸(KS.key i hi).key.lt)
   clear hq
   go_wp2_with fail
   rw [zkp]
   refine cn.mono ?_
   rintro e v2 ⟨rfl,gg,K2⟩
   clear cn
   have zk2:=zk.grew gg
   have zr2:=zr.grew gg
   have KS2:=KS.grew gg
   have OL2:=yZ OL gg
   have OP2:=yZ OP gg
   have G2:=ze G gg
   have hs2:q+2≤v2.heap.size:=by have:=K2.key.lt;omega
   clear zk zr KS OL OP G gg
   go_wp2_with fail
   rw [e2]
   refine(zeq (q+1) q (k:Int) (sdI seed k) (ksL seed h k) 0 0 (by rw [HKL.out];omega) (by omega) (by omega) (2^h) hn1 (by rw [HKL.out];omega) v2 K2).mono ?_
   rw [Nat.zero_add]
   rintro e v3 ⟨rfl,tt,K3⟩
   have T3:=kp_tn tt
   have zk3:=zk2.kp T3 (show ¬w0+1=q+1 by omega)
   have zr3:=zr2.kp T3 (show ¬w0=q+1 by omega)
   have KS3:=KS2.kp T3 (fun i hi=>⟨by have:=KLT.out i hi;show ¬p i=q+1;omega,by have:=KLT.out i hi;show ¬p i+1=q+1;omega⟩)
   have OL3:=zx OL2 T3 (fun g e h=>by have:=OLT.out g e;have h:g=q+1:=h;omega)
   have OP3:=zx OP2 T3 (fun g e h=>by have:=OPT.out g e;have h:g=q+1:=h;omega)
   have G3:=zad G2 tt (by have:=HW0.out;omega)
   have hs3:q+2≤v3.heap.size:=Nat.le_trans hs2 T3.size
   have KS4:=KS3.snoc K3 (by omega) (fun i hi=>KLT.out i hi)
   clear zk2 zr2 KS2 OL2 OP2 G2 hs2 K2 tt T3 KS3 K3
   have HPL:Hid (ptrL (fun i=>if i=k then q else p i) (k+1)=ptrL p k++[Value.pointer (some ⟨q+1,0,none⟩)]):=hQ9 (by
    rw [zgk,zez (q:=p) (fun i hi=>by simp [Nat.ne_of_lt hi])]
    simp)
   go_wp2_with(at_builtin;refine zF rfl (.tmp 46) (.tmp 48) 92 rfl (w0+2) 98 i0 (.pointer none) 8 Tryz.underlying92 hi hz0 hz1 hz2 rfl lv k _ rfl (OL3.alloc _) (v3.heap.size+1) (some ⟨v3.heap.size,0,none⟩) 1 1 [Value.pointer (some ⟨q+1,0,none⟩)] rfl rfl (yq v3 98 #[Value.pointer (some ⟨q+1,0,none⟩)] (0,0)) (kt rfl) (by unfold maxLen;omega) (by omega) (by simp;omega) ?_;intro lv6 w6 hown6 hgrow6 hor6)
   have T6:Kp (fun i=>some i=lv.ownBlock) v3 w6:=yD (zht (zJ _ v3) _) hgrow6 (fun g h=>.inl h.symm)
   obtain⟨n6,hn6⟩:∃ n,v3.heap.size+1=n:=⟨_,rfl⟩
   rw [zl,hn6]at hor6
   have hp6:∀ i,i<k+1→(if i=k then q else p i)+1<v3.heap.size:=fun i hi=>by
    by_cases e:i=k
    ·rw [if_pos e];omega
    ·rw [if_neg e];have:=KLT.out i (by omega);omega
   have hL6:∀ g,some g=lv.ownBlock→w0+2≤g∧g<q∧pv.ownBlock≠some g∧∀ i,i<k→g≠p i∧g≠p i+1:=fun g e=>⟨OLB.out g e.symm,OLT.out g e.symm,(SL g e.symm).1,(SL g e.symm).2⟩
   have hP6:∀ g,some g=pv.ownBlock→w0+2≤g∧g<q∧lv.ownBlock≠some g∧∀ i,i<k→g≠p i∧g≠p i+1:=fun g e=>⟨OPB.out g e.symm,OPT.out g e.symm,(SP g e.symm).1,(SP g e.symm).2⟩
   have zk6:=zk3.kp T6 (fun e=>by have:=hL6 _ e;omega)
   have zr6:=zr3.kp T6 (fun e=>by have:=hL6 _ e;omega)
   have KS6:=KS4.kp T6 (fun i hi=>by
    refine⟨fun e=>?_,fun e=>?_⟩<;>(have h1:=hL6 _ e;by_cases hik:i=k)
    ·simp only [if_pos hik]at h1;omega
    ·simp only [if_neg hik]at h1;exact(h1.2.2.2 i (by omega)).1 rfl
    ·simp only [if_pos hik]at h1;omega
    ·simp only [if_neg hik]at h1;exact(h1.2.2.2 i (by omega)).2 rfl)
   have OP6:=zx OP3 T6 (fun g e h=>(hL6 g h).2.2.1 e)
   have G6:Grew w w6:=zO G3 T6 G3.size (fun i e=>by have:=(hL6 i e).1;have:=HW0.out;omega)
   have hs6:v3.heap.size+1≤w6.heap.size:=by have:=hgrow6.size;rw [zl]at this;exact this
   have hlv6:∀ g,lv6.ownBlock=some g→g<w6.heap.size:=fun g e=>(zG hown6 g e).2
   obtain⟨rt,hrt⟩:∃ r,rootN (ksL seed h k)=r:=⟨_,rfl⟩
   have HT:Hid ((u64L (rtL seed h (k+1))).length=k+1∧u64L (rtL seed h (k+1))=u64L (rtL seed h k)++[Value.int .u64 (rt:Nat)]):=hQ9 ⟨by simp [u64L,rtL],by rw [zij,hrt];simp [u64L]⟩
   have HRT:=hQ9 hrt
   have HSW:Hid (∀ i,some i=pv.ownBlock→i<w6.heap.size):=hQ9 (fun i e=>by have:=(hP6 i e).2.1;omega)
   have HW6:Hid (w0+2≤w6.heap.size):=hQ9 (by omega)
   have HZK:Hid (∀ y,Kp (fun i=>some i=pv.ownBlock) w6 y→Ag y (w0+1) [.int .i64 1,pv,.int .i64 (h:Int)]):=hQ9 (fun y g=>zk6.kp g (fun e=>by have:=hP6 _ e;omega))
   have HC:Hid (∀ y,Kp (fun i=>some i=pv.ownBlock) w6 y→y.cell? ⟨w0+1,1,none⟩=some pv):=hQ9 (fun y g=>by simpa using (HZK.out y g).cell 1 _ rfl)
   have HKA:Hid (∀ y,Kp (fun i=>some i=pv.ownBlock) w6 y→KsAt y (w0+2) (k+1) (fun i=>if i=k then q else p i) seed h):=hQ9 (fun y g=>KS6.kp g (fun i hi=>by
    refine⟨fun e=>?_,fun e=>?_⟩<;>(have h1:=hP6 _ e;by_cases hik:i=k)
    ·simp only [if_pos hik]at h1;omega
    ·simp only [if_neg hik]at h1;exact(h1.2.2.2 i (by omega)).1 rfl
    ·simp only [if_pos hik]at h1;omega
    ·simp only [if_neg hik]at h1;exact(h1.2.2.2 i (by omega)).2 rfl))
   have HKK:Hid (∀ y,Kp (fun i=>some i=pv.ownBlock) w6 y→KyAt y (q+1) q (k:Int) (sdI seed k) (ksL seed h k) 0 (2^h)):=hQ9 (fun y g=>by
    have:=(HKA.out y g).key k (by omega)
    simpa using this)
   have HZR:Hid (∀ y,Kp (fun i=>some i=pv.ownBlock) w6 y→Ag y w0 (#[.int .i64 0,.slice none 0 0,.int .i64 0]:Array Value).toList):=hQ9 (fun y g=>zr6.kp g (fun e=>by have:=hP6 _ e;omega))
   have HOL:Hid (∀ y,Kp (fun i=>some i=pv.ownBlock) w6 y→y.ownsRow (w0+2) 98 1 lv6 (k+1) (ptrL (fun i=>if i=k then q else p i) (k+1))):=hQ9 (fun y g=>by
    rw [HPL.out]
    refine zx hown6 g (fun j e e2=>?_)
    have h1:=hP6 j e2
    rcases hor6 with h2 | h2
    ·exact h1.2.2.1 (h2.symm.trans e)
    ·rw [h2]at e;cases e;omega)
   have HGG:Hid (∀ y,Kp (fun i=>some i=pv.ownBlock) w6 y→Grew w y):=hQ9 (fun y g=>zO G6 g G6.size (fun i e=>by have:=(hP6 i e).1;have:=HW0.out;omega))
   have HOP:=hQ9 OP6
   have HSEP:Hid (∀(pv7:Value),(pv7.ownBlock=pv.ownBlock∨∃ s,pv7.ownBlock=some s∧w6.heap.size≤s)→Sep lv6 pv7 (k+1) (fun i=>if i=k then q else p i)∧Sep pv7 lv6 (k+1) (fun i=>if i=k then q else p i)):=hQ9 (fun pv7 hb=>by
    have hlo:∀ g,g<q→∀ i,(i<k→g≠p i∧g≠p i+1)→i<k+1→g≠(if i=k then q else p i)∧g≠(if i=k then q else p i)+1:=fun g hg i hh hi=>by
     by_cases e:i=k
     ·simp only [if_pos e];omega
     ·simp only [if_neg e];exact hh (by omega)
    have hhi:∀ g,v3.heap.size≤g→∀ i,i<k+1→g≠(if i=k then q else p i)∧g≠(if i=k then q else p i)+1:=fun g hg i hi=>by have:=hp6 i hi;omega
    refine⟨fun g e=>?_,fun g e=>?_⟩
    ·rcases hor6 with h2 | h2
     ·have h1:=hL6 g (by rw [←h2,e])
      refine⟨fun e2=>?_,fun i hi=>hlo g h1.2.1 i (h1.2.2.2 i) hi⟩
      rcases hb with hb | ⟨s,hb,hs7⟩
      ·exact h1.2.2.1 (hb.symm.trans e2)
      ·rw [hb]at e2;cases e2;omega
     ·have hg6:g=n6:=by rw [h2]at e;cases e;rfl
      refine⟨fun e2=>?_,fun i hi=>hhi g (by omega) i hi⟩
      rcases hb with hb | ⟨s,hb,hs7⟩
      ·have:=hP6 g (by rw [←hb,e2]);omega
      ·have:=hlv6 g e;rw [hb]at e2;cases e2;omega
    ·rcases hb with hb | ⟨s,hb,hs7⟩
     ·have h1:=hP6 g (by rw [←hb,e])
      refine⟨fun e2=>?_,fun i hi=>hlo g h1.2.1 i (h1.2.2.2 i) hi⟩
      rcases hor6 with h2 | h2
      ·exact h1.2.2.1 (h2.symm.trans e2)
      ·rw [h2]at e2;cases e2;omega
     ·have hgs:g=s:=by rw [hb]at e;cases e;rfl
      refine⟨fun e2=>?_,fun i hi=>hhi g (by omega) i hi⟩
      have:=hlv6 g e2;omega)
   clear zk3 zr3 KS4 OL3 OP3 G3 T6 hor6 hp6 hL6 hP6 zk6 zr6 KS6 OP6 G6 hs6 hlv6 hown6 hgrow6 SL SP hrt hs3 hs hn6
   refine zbd 6 5 (fun i=>some i=pv.ownBlock) (fun i=>match i with
    | 0=>fun v _=>v=.pointer (some ⟨w0+1,1,none⟩)
    | 1=>fun v _=>v=pv
    | 2=>fun v _=>v=.pointer (some ⟨q+1,0,none⟩)
    | 3=>fun v _=>v=.int .u64 (rt:Nat)
    | 4=>fun v w=>PV w w6.heap.size [rt] v
    | 5=>fun v2 w=>OwnS w (w0+2) 35 (u64L (rtL seed h (k+1))) pv w6.heap.size v2
    | _=>fun _ _=>True) (by kernel_rfl) (by kernel_rfl) ?_ ?_ ?_ ?_
   ·intro i v x y h hg
    match i,h with
    | 0,h | 1,h | 2,h | 3,h=>exact h
    | 4,h=>exact PV.gr h hg
    | 5,h=>exact OwnS.gr h hg
    | m+6,_=>trivial
   ·intro i v x y hne hx h hg
    match i,h with
    | 0,h | 1,h | 2,h | 3,h=>exact h
    | 4,h=>exact PV.kp h hg HSW.out
    | 5,h=>exact absurd rfl hne
    | m+6,_=>trivial
   ·simp only [actOf,tk1,tk0,dr1,dr0,Act.put,si1,st1,st0,Nat.reduceAdd]
    refine⟨?_,?_,?_,?_,?_,?_,trivial⟩
    ·intro vs y hg hd
     replace hg:Kp (fun i=>some i=pv.ownBlock) w6 y:=hg
     dsimp only
     go_wp2_with fail
     exact⟨rfl,_,rfl,zc _,rfl⟩
    ·intro vs y hg hd
     replace hg:Kp (fun i=>some i=pv.ownBlock) w6 y:=hg
     obtain⟨h0,_⟩:=hd
     replace h0:=h0 rfl
     dsimp only
     rw [show vs 0=_ from h0]
     have hc:=HC.out y hg
     go_wp2_with fail
     exact⟨rfl,_,rfl,zc _,rfl⟩
    ·intro vs y hg hd
     replace hg:Kp (fun i=>some i=pv.ownBlock) w6 y:=hg
     dsimp only
     go_wp2_with fail
     exact⟨rfl,_,rfl,zc _,rfl⟩
    ·intro vs y hg hd
     replace hg:Kp (fun i=>some i=pv.ownBlock) w6 y:=hg
     obtain⟨h2,_⟩:=hd
     replace h2:=h2 rfl
     dsimp only
     rw [show vs 2=_ from h2]
     have kk:=HKK.out y hg
     go_wp2_with(go_at_call 111;refine(zer (q+1) q (k:Int) (sdI seed k) (ksL seed h k) 0 (2^h) (by rw [HKL.out];omega) (by rw [HKL.out];exact HLV.out) (HKB.out k) y kk).mono ?_;rintro e z ⟨rfl,gz⟩;rw [HRT.out])
     exact⟨rfl,_,rfl,gz,rfl⟩
    ·intro vs y hg hd
     replace hg:Kp (fun i=>some i=pv.ownBlock) w6 y:=hg
     obtain⟨h3,_⟩:=hd
     replace h3:=h3 rfl
     dsimp only
     rw [show vs 3=_ from h3]
     go_wp2_with fail
     exact⟨rfl,_,rfl,zg (zc _) _,pv_one y _ rt hg.size⟩
    ·intro vs y hg hd
     replace hg:Grew w6 y:=hg
     obtain⟨h1,h4,_⟩:=hd
     replace h1:=h1 rfl
     replace h4:=h4 rfl
     dsimp only
     rw [show vs 1=_ from h1]
     obtain⟨A2,c2,hv2,hr2,_⟩:=PV.out h4
     rw [hv2]
     have hb2:=hg.size
     have hw6:=HW6.out
     go_wp2_with(refine zF rfl (.tmp 51) (.tmp 54) 47 rfl (w0+2) 35 i1 (.int .u64 0) 8 Tryz.underlying47 hj hy0 hy1 hy2 rfl pv k _ rfl (yZ HOP.out hg) y.heap.size A2 1 c2 [Value.int .u64 (rt:Nat)] rfl rfl hr2 (kt rfl) (by unfold maxLen;omega) (by omega) (by omega) ?_;intro v7 w7 hown7 hgrow7 hor7)
     exact⟨rfl,_,rfl,yD (zJ _ _) hgrow7 (fun g h=>.inl h.symm),⟨by rw [HT.out.1,HT.out.2];exact hown7,by rcases hor7 with h | h;exact .inl h;exact .inr ⟨_,h,hb2⟩⟩⟩
   ·intro vs y hg hJ
    have j0:vs 0=.pointer (some ⟨w0+1,1,none⟩):=hJ 0 (by decide)
    have j1:vs 1=pv:=hJ 1 (by decide)
    have j2:vs 2=.pointer (some ⟨q+1,0,none⟩):=hJ 2 (by decide)
    have j3:vs 3=.int .u64 (rt:Nat):=hJ 3 (by decide)
    have s54:=hJ 4 (by decide)
    have s55:=hJ 5 (by decide)
    clear hJ
    simp only [actOf,tk1,tk0,dr1,dr0,Act.put,si1,st1,st0,Nat.reduceAdd]
    obtain⟨hown7,hblk7⟩:=(show OwnS y (w0+2) 35 (u64L (rtL seed h (k+1))) pv w6.heap.size (vs 5) from s55)
    rw [HT.out.1]at hown7
    obtain⟨A7,c7,e7,-,-,-⟩:=yN hown7
    rw [e7]at hown7 hblk7 ⊢
    have z7:=HZK.out y hg
    have f1:y.frozen? ⟨w0+1,1,none⟩=false:=by simpa using (z7.there 1 (by simp)).2
    have c1:y.cell? ⟨w0+1,1,none⟩=some pv:=by simpa using z7.cell 1 _ rfl
    have tt:=kN (g:=w0+1) (jf _ y) (p:=⟨w0+1,1,none⟩) (.inl rfl) (.slice A7 (k+1) c7)
    have T8:=kp_tn tt
    have z8:=Ag.set1 z7 1 (.slice A7 (k+1) c7) (by simp)
    have zr8:=(HZR.out y hg).kp T8 (show ¬w0=w0+1 by omega)
    have KS7:=HKA.out y hg
    have KS8:=KS7.kp T8 (fun i hi=>⟨by have:=KS7.low i hi;show ¬(if i=k then q else p i)=w0+1;omega,by have:=KS7.low i hi;show ¬(if i=k then q else p i)+1=w0+1;omega⟩)
    have OL7:=HOL.out y hg
    have OL8:=zx OL7 T8 (fun g e (h:g=w0+1)=>by have:=zA OL7 g e;omega)
    have OP8:=zx hown7 T8 (fun g e (h:g=w0+1)=>by have:=zA hown7 g e;omega)
    have G8:=zad (HGG.out y hg) tt (by have:=HW0.out;omega)
    have hs8:w0+2≤(y.setCell ⟨w0+1,1,none⟩ (.slice A7 (k+1) c7)).heap.size:=by have:=HW6.out;have:=hg.size;have:=T8.size;omega
    have SS:=hQ9 (HSEP.out _ hblk7)
    clear s54 s55 e7 hown7 hblk7 z7 tt T8 KS7 OL7 hg j0 j1 j2 j3
    go_wp2_with fail
    go_roundw
    case rel=>exact⟨k+1,fun i=>if i=k then q else p i,.slice A7 (k+1) c7,_,rfl,by have:=HK.out;omega,by go_num,z8,zr8,KS8,OL8,OP8,SS.out.1,SS.out.2,G8,hs8⟩
    case measure=>have:=HK.out;simp [intOf];omega
  ·obtain rfl:k=4:=by omega
   obtain⟨LA,Lc,rfl,-,-,hrL⟩:=yN OL
   obtain⟨RA,Rc,rfl,-,-,hrR⟩:=yN OP
   have HTR:Hid (wr.there w0 0 (#[Value.int .i64 1,.slice RA 4 Rc,.int .i64 (h:Int)]:Array Value).size):=hQ9 (zr.thereN 3 rfl)
   have HOR:Hid ((#[Value.int .i64 1,.slice RA 4 Rc,.int .i64 (h:Int)]:Array Value).all (·.oneCell')=true):=hQ9 (by simp [Value.oneCell'])
   have HSL:Hid ((Tryz.prog.info? 49).map (·.size)=some [Value.int .i64 1,.slice RA 4 Rc,.int .i64 (h:Int)].length):=hQ9 (by kernel_rfl)
   have HSR:Hid ((Tryz.prog.info? 49).map (·.size)=some (#[Value.int .i64 1,.slice RA 4 Rc,.int .i64 (h:Int)]:Array Value).size):=HSK _
   have HMK:Hid (∀ y,Grew wr y→y.rangeAt (w0+1) 0 [.int .i64 1,.slice RA 4 Rc,.int .i64 (h:Int)]):=hQ9 (fun y g=>(zk.grew g).cell)
   have farL:∀ ad,LA=some ad→∀ i,i<4→ad.block≠p i∧ad.block≠p i+1:=fun ad e i hi=>by subst e;exact(SL ad.block (by rcases OL.2 with ⟨h1,_⟩ | ⟨g,cap,cur,h1,_⟩;cases h1;cases h1;rfl)).2 i hi
   have farR:∀ ad,RA=some ad→∀ i,i<4→ad.block≠p i∧ad.block≠p i+1:=fun ad e i hi=>by subst e;exact(SP ad.block (by rcases OP.2 with ⟨h1,_⟩ | ⟨g,cap,cur,h1,_⟩;cases h1;cases h1;rfl)).2 i hi
   have bL:∀ ad,LA=some ad→w0+2≤ad.block:=fun ad e=>by subst e;exact zA OL ad.block (by rcases OL.2 with ⟨h1,_⟩ | ⟨g,cap,cur,h1,_⟩;cases h1;cases h1;rfl)
   have bR:∀ ad,RA=some ad→w0+2≤ad.block:=fun ad e=>by subst e;exact zA OP ad.block (by rcases OP.2 with ⟨h1,_⟩ | ⟨g,cap,cur,h1,_⟩;cases h1;cases h1;rfl)
   have FL:=hQ9 farL
   have FR:=hQ9 farR
   have BL:=hQ9 bL
   have BR:=hQ9 bR
   clear farL farR bL bR SL SP OL OP
   go_wp2_with fail
   refine zy 3 (fun i=>match i with
    | 0=>fun v _=>v=.slice LA 4 Lc
    | 1=>fun v _=>v=.agg #[.int .i64 1,.slice RA 4 Rc,.int .i64 (h:Int)]
    | 2=>fun v _=>v=.slice LA 4 Lc
    | _=>fun _ _=>True) (by kernel_rfl) (by kernel_rfl) ?_ ?_ ?_
   ·intro i v x y h hg
    match i,h with
    | 0,h | 1,h | 2,h=>exact h
    | m+3,_=>trivial
   ·simp only [actOf,tk1,tk0,dr1,dr0,Act.put,si1,st1,st0,Nat.reduceAdd]
    refine⟨?_,?_,?_,trivial⟩
    ·intro vs y hg hd
     dsimp only
     go_wp2_with fail
     exact⟨rfl,_,rfl,zc _,rfl⟩
    ·intro vs y hg hd
     dsimp only
     have hm:=HMK.out y hg
     go_wp2_with(with_reducible refine wpList_load_mid rfl 49 (.tmp 8) rfl (w0+1) 0 rfl [.int .i64 1,.slice RA 4 Rc,.int .i64 (h:Int)] _ hm hkt rfl HSL.out ?_)
     exact⟨rfl,_,rfl,zc _,rfl⟩
    ·intro vs y hg hd
     obtain⟨h0,_⟩:=hd
     replace h0:=h0 rfl
     dsimp only
     rw [show vs 0=_ from h0]
     go_wp2_with fail
     exact⟨rfl,_,rfl,zc _,rfl⟩
   ·intro vs y hg hJ
    have j0:vs 0=.slice LA 4 Lc:=hJ 0 (by decide)
    have j1:vs 1=.agg #[.int .i64 1,.slice RA 4 Rc,.int .i64 (h:Int)]:=hJ 1 (by decide)
    have j2:vs 2=.slice LA 4 Lc:=hJ 2 (by decide)
    clear hJ
    simp only [actOf,tk1,tk0,dr1,dr0,Act.put,si1,st1,st0,Nat.reduceAdd]
    have T8:=zn [Value.int .i64 1,.slice RA 4 Rc,.int .i64 (h:Int)] w0 0 y
    have zr8:=Ag.set (vs:=[Value.int .i64 1,.slice RA 4 Rc,.int .i64 (h:Int)]) (zr.grew hg) rfl
    have KS8:=(KS.grew hg).kp T8 (fun i hi=>⟨by have:=KS.low i hi;show ¬p i=w0;omega,by show ¬p i+1=w0;have:=KS.low i hi;omega⟩)
    have rL:=((hrL.gr hg).kp T8 (Nat.le_refl _) (fun ad e _ (h:ad.block=w0)=>by have:=BL.out ad e;omega)).more T8.size
    have rR:=((hrR.gr hg).kp T8 (Nat.le_refl _) (fun ad e _ (h:ad.block=w0)=>by have:=BR.out ad e;omega)).more T8.size
    have G8:=zi (o:=0) (b:=w0) [Value.int .i64 1,.slice RA 4 Rc,.int .i64 (h:Int)] (ze G hg) (by have:=HW0.out;omega)
    have HTY:Hid (y.there w0 0 (#[Value.int .i64 1,.slice RA 4 Rc,.int .i64 (h:Int)]:Array Value).size):=hQ9 ((zr.grew hg).thereN 3 rfl)
    rw [j1,j2]
    clear j0 j1 j2 hrL hrR KS zk zr hg
    go_wp2_with(with_reducible refine wpList_store_mid rfl 49 (.tmp 7) (.tmp 58) rfl w0 0 (#[Value.int .i64 1,.slice RA 4 Rc,.int .i64 (h:Int)]) rfl rfl HTY.out HSR.out HOR.out ?_)
    refine bodyPost_ret (ze0 Tryz.results42 _ _ w0 _ _ (.slice LA 4 Lc) rfl rfl zr8 hkt rfl HSL.out) rfl ⟨LA,Lc,RA,Rc,p,rfl,?_,rL,rR,FL.out,FR.out,(fun ad e=>by have:=BL.out ad e;have:=HW0.out;omega),(fun ad e=>by have:=BR.out ad e;have:=HW0.out;omega),G8⟩
    exact⟨KS8.key,fun i hi=>by have:=KS8.low i hi;have:=HW0.out;omega,KS8.apart⟩
theorem kn (seed:Int) (h n:Nat):(rtL seed h n).length=n:=by simp [rtL]
theorem zgl (seed:Int) (h n i:Nat) (hi:i<n):(rtL seed h n).getD i 0=rootN (ksL seed h i):=by simp [rtL,List.getD,hi]
theorem rt_lt (seed:Int) (h n:Nat) (hh:h≤8):∀ x∈rtL seed h n,x<18446744073709551616:=by
 intro x hx
 obtain⟨i,_,rfl⟩:=List.mem_map.1 hx
 exact zh6 _ (yR _ _)
structure StR where
 cm:Nat
 who:Int
 at_:Int
 g:(Int × Int) × (Nat→Nat) × List Nat
def StR.zero:StR:=⟨0,0,0,((0,0),fun _=>0,[])⟩
def StR.v (r:StR) (pv:Value):Array Value:=stC r.cm r.who r.at_ r.g.1.1 r.g.1.2 r.g.2.1 pv
structure AgT (w:World) (B:Nat) (cm:Nat) (who at_ sw lf:Int) (s:Nat→Nat) (l:List Nat) (v:Value):Prop where
 out:∃ A c,v=.agg (stC cm who at_ sw lf s (.slice A l.length c))∧Rd w w.heap.size A (u64L l)∧(∀ ad,A=some ad→B≤ad.block)
theorem AgT.gr {w w':World} {B cm:Nat} {who at_ sw lf:Int} {s:Nat→Nat} {l:List Nat} {v:Value} (h:AgT w B cm who at_ sw lf s l v) (g:Grew w w'):AgT w' B cm who at_ sw lf s l v:=by
 obtain⟨A,c,h1,h2,h3⟩:=h.out
 exact⟨A,c,h1,h2.gr g,h3⟩
theorem kof_fr (who leaf:Int) (s:Nat→Nat) (A:Option Addr) (c:Nat) (l:List Nat) (hl:l.length≤1048576) (w:World) (hr:Rd w w.heap.size A (u64L l)) :
 Calls Tryz.prog 157 #[.agg (sgC who leaf s (.slice A l.length c))] w fun e w'=>∃ A' c',e=.returned (.agg (sgC who leaf s (.slice A' l.length c')))∧Rd w' w'.heap.size A' (u64L l)∧Grew w w'∧(∀ ad,A'=some ad→w.heap.size≤ad.block):=by
 have z0:=Ag.new w 67 (sgC who leaf s (.slice A l.length c))
 have G0:=zg (zc w) (.cells (sgC who leaf s (.slice A l.length c)) 67)
 have hwz:w.heap.size<(w.alloc (.cells (sgC who leaf s (.slice A l.length c)) 67)).heap.size:=z0.lt
 have HIA:Hid ((Tryz.prog.info? 65).map (·.size)=some (arrU s).toList.length):=hQ9 (by rw [show(arrU s).toList.length=18 by simp [arrU]];kernel_rfl)
 have hua:=Tryz.underlying65
 have hur:=Tryz.underlying73
 go_enter Tryz.func157,Tryz.ntmps157
 go_wp2_with fail
 have z2:Ag ((w.alloc (.cells (sgC who leaf s (.slice A l.length c)) 67)).alloc (.cells (zS21) 73)) (w.heap.size+1) (zS21:Array Value).toList:=by
  have:=Ag.new (w.alloc (.cells (sgC who leaf s (.slice A l.length c)) 67)) 73 (zS21)
  simpa using this
 have z1:=z0.grew (zg (zc _) (.cells (zS21) 73))
 have G2:=zg G0 (.cells (zS21) 73)
 clear z0 G0 hwz
 generalize (w.alloc (.cells (sgC who leaf s (.slice A l.length c)) 67)).alloc (.cells (zS21) 73)=w2 at *
 have HC0:Hid (∀ y,Grew w2 y→y.cell? ⟨w.heap.size,0,none⟩=some (.int .i64 who)):=hQ9 (fun y g=>by simpa using (z1.grew g).cell 0 _ rfl)
 have HC1:Hid (∀ y,Grew w2 y→y.cell? ⟨w.heap.size,1,none⟩=some (.int .i64 leaf)):=hQ9 (fun y g=>by simpa using (z1.grew g).cell 1 _ rfl)
 have HC20:Hid (∀ y,Grew w2 y→y.cell? ⟨w.heap.size,20,none⟩=some (.slice A l.length c)):=hQ9 (fun y g=>by simpa using (z1.grew g).cell 20 _ rfl)
 have HCM:Hid (∀ y,Grew w2 y→y.rangeAt w.heap.size 2 (arrU s).toList):=hQ9 (fun y g=>ki (z1.grew g))
 have r2:=hr.gr G2
 have HRY:=hQ9 (fun y (g:Grew w2 y)=>r2.gr g)
 clear z1 hr r2
 refine zy 11 (fun i=>match i with
  | 0=>fun v _=>v=.pointer (some ⟨w.heap.size,0,none⟩)
  | 1=>fun v _=>v=.int .i64 who
  | 2=>fun v _=>v=.pointer (some ⟨w.heap.size,1,none⟩)
  | 3=>fun v _=>v=.int .i64 leaf
  | 4=>fun v _=>v=.pointer (some ⟨w.heap.size,2,none⟩)
  | 5=>fun v _=>v=.agg (arrU s)
  | 6=>fun v _=>v=.agg (arrU s)
  | 7=>fun v _=>v=.pointer (some ⟨w.heap.size,20,none⟩)
  | 8=>fun v _=>v=.slice A l.length c
  | 9=>fun v w=>PV w w2.heap.size l v
  | 10=>fun v w=>AgS w w2.heap.size who leaf s l v
  | _=>fun _ _=>True) (by kernel_rfl) (by kernel_rfl) ?_ ?_ ?_
 ·intro i v x y h hg
  match i,h with
  | 0,h | 1,h | 2,h | 3,h | 4,h | 5,h | 6,h | 7,h | 8,h=>exact h
  | 9,h=>exact PV.gr h hg
  | 10,h=>exact AgS.gr h hg
  | m+11,_=>trivial
 ·simp only [actOf,tk1,tk0,dr1,dr0,Act.put,si1,st1,st0,Nat.reduceAdd]
  refine⟨?_,?_,?_,?_,?_,?_,?_,?_,?_,?_,?_,trivial⟩
  ·intro vs y hg hd
   dsimp only
   go_wp2_with fail
   exact⟨rfl,_,rfl,zc _,rfl⟩
  ·intro vs y hg hd
   obtain⟨h0,_⟩:=hd
   replace h0:=h0 rfl
   dsimp only
   rw [show vs 0=_ from h0]
   have hc:=HC0.out y hg
   go_wp2_with fail
   exact⟨rfl,_,rfl,zc _,rfl⟩
  ·intro vs y hg hd
   dsimp only
   go_wp2_with fail
   exact⟨rfl,_,rfl,zc _,rfl⟩
  ·intro vs y hg hd
   obtain⟨h2,_⟩:=hd
   replace h2:=h2 rfl
   dsimp only
   rw [show vs 2=_ from h2]
   have hc:=HC1.out y hg
   go_wp2_with fail
   exact⟨rfl,_,rfl,zc _,rfl⟩
  ·intro vs y hg hd
   dsimp only
   go_wp2_with fail
   exact⟨rfl,_,rfl,zc _,rfl⟩
  ·intro vs y hg hd
   obtain⟨h4,_⟩:=hd
   replace h4:=h4 rfl
   dsimp only
   rw [show vs 4=_ from h4]
   have hm:=HCM.out y hg
   go_wp2_with(with_reducible refine wpList_load_mid rfl 65 (.tmp 7) rfl w.heap.size 2 rfl (arrU s).toList _ hm hua rfl HIA.out ?_)
   exact⟨rfl,_,rfl,zc _,rfl⟩
  ·intro vs y hg hd
   obtain⟨h5,_⟩:=hd
   replace h5:=h5 rfl
   dsimp only
   rw [show vs 5=_ from h5]
   go_wp2_with(go_at_call 205;refine(of_row s y).mono ?_;rintro e z ⟨rfl,gz⟩)
   exact⟨rfl,_,rfl,gz,rfl⟩
  ·intro vs y hg hd
   dsimp only
   go_wp2_with fail
   exact⟨rfl,_,rfl,zc _,rfl⟩
  ·intro vs y hg hd
   obtain⟨h7,_⟩:=hd
   replace h7:=h7 rfl
   dsimp only
   rw [show vs 7=_ from h7]
   have hc:=HC20.out y hg
   go_wp2_with fail
   exact⟨rfl,_,rfl,zc _,rfl⟩
  ·intro vs y hg hd
   obtain⟨h8,_⟩:=hd
   replace h8:=h8 rfl
   dsimp only
   rw [show vs 8=_ from h8]
   go_wp2_with(go_at_call 206;refine(zh8 A c y.heap.size l hl y (HRY.out y hg) (Nat.le_refl _)).mono ?_;rintro e z ⟨A2,c2,rfl,hr9,hb9,gz⟩)
   exact⟨rfl,_,rfl,gz,⟨A2,c2,rfl,hr9,fun ad h=>Nat.le_trans hg.size (hb9 ad h)⟩⟩
  ·intro vs y hg hd
   obtain⟨h1,h3,h6,h9,_⟩:=hd
   replace h1:=h1 rfl
   replace h3:=h3 rfl
   replace h6:=h6 rfl
   replace h9:=h9 rfl
   dsimp only
   rw [show vs 1=_ from h1,show vs 3=_ from h3,show vs 6=_ from h6]
   obtain⟨A2,c2,hv,hr9,hb9⟩:=PV.out h9
   rw [hv]
   have hbu:=zic who leaf s A2 l.length c2
   generalize arrU s=aa at *
   refine zC rfl 73 #[(0,.tmp 4),(1,.tmp 6),(2,.tmp 9),(3,.tmp 12)] rfl _ (by simpa [Act.eval]using hbu) ?_
   go_wp2_with fail
   exact⟨rfl,_,rfl,zc _,⟨A2,c2,rfl,hr9,hb9⟩⟩
 ·intro vs y hg hJ
  have j0:vs 0=.pointer (some ⟨w.heap.size,0,none⟩):=hJ 0 (by decide)
  have j1:vs 1=.int .i64 who:=hJ 1 (by decide)
  have j2:vs 2=.pointer (some ⟨w.heap.size,1,none⟩):=hJ 2 (by decide)
  have j3:vs 3=.int .i64 leaf:=hJ 3 (by decide)
  have j4:vs 4=.pointer (some ⟨w.heap.size,2,none⟩):=hJ 4 (by decide)
  have j5:vs 5=.agg (arrU s):=hJ 5 (by decide)
  have j6:vs 6=.agg (arrU s):=hJ 6 (by decide)
  have j7:vs 7=.pointer (some ⟨w.heap.size,20,none⟩):=hJ 7 (by decide)
  have j8:vs 8=.slice A l.length c:=hJ 8 (by decide)
  simp only [actOf,tk1,tk0,dr1,dr0,Act.put,si1,st1,st0,Nat.reduceAdd]
  obtain⟨A2,c2,j10,r3,hb3⟩:=AgS.out (show AgS y w2.heap.size who leaf s l (vs 10) from hJ 10 (by decide))
  rw [j10]
  clear hJ j0 j1 j2 j3 j4 j5 j6 j7 j8 j10
  have h2:=z2.lt
  have HLO:Hid (∀ ad,A2=some ad→w.heap.size≤ad.block):=hQ9 (fun ad h=>by have:=hb3 ad h;have:=G2.size;omega)
  have HNE:Hid (∀ ad,A2=some ad→ad.block≠w.heap.size+1):=hQ9 (fun ad h=>by have:=hb3 ad h;omega)
  have z3:=z2.grew hg
  have G3:=ze G2 hg
  clear z2 G2 hg hb3 h2
  have HTH:Hid (y.there (w.heap.size+1) 0 (sgC who leaf s (.slice A2 l.length c2)).size):=hQ9 (z3.thereN 21 rfl)
  have HSI:Hid ((Tryz.prog.info? 73).map (·.size)=some (sgC who leaf s (.slice A2 l.length c2)).size):=hQ9 y4
  have HON:=hQ9 (yL who leaf s A2 l.length c2)
  have K3:=zn (sgC who leaf s (.slice A2 l.length c2)).toList (w.heap.size+1) 0 y
  have r4:=(r3.kp K3 (Nat.le_refl _) (fun ad h1 h2 h3=>HNE.out ad h1 h3)).more K3.size
  have z4:=Ag.set (vs:=(sgC who leaf s (.slice A2 l.length c2)).toList) z3 rfl
  have G4:=zi (o:=0) (b:=w.heap.size+1) (sgC who leaf s (.slice A2 l.length c2)).toList G3 (by omega)
  go_wp2_with(with_reducible refine wpList_store_mid rfl 73 (.tmp 2) (.tmp 13) rfl (w.heap.size+1) 0 (sgC who leaf s (.slice A2 l.length c2)) rfl rfl HTH.out HSI.out HON.out ?_)
  exact bodyPost_ret (zM Tryz.results157 _ _ (w.heap.size+1) _ _ rfl z4 hur rfl y4) rfl ⟨A2,⟨c2,rfl⟩,r4,G4,HLO.out⟩
def StR.t (r:StR):List UInt8:=stT r.cm r.who r.at_ r.g.1.1 r.g.1.2 r.g.2.1 r.g.2.2
structure KV (w:World) (B:Nat) (f:Int) (R:List Nat) (h:Int) (v:Value):Prop where
 out:∃ A c,v=.agg (kyS f A R.length c h)∧Rd w w.heap.size A (u64L R)∧(∀ ad,A=some ad→B≤ad.block)
theorem KV.gr {w w':World} {B:Nat} {f:Int} {R:List Nat} {h:Int} {v:Value} (k:KV w B f R h v) (g:Grew w w'):KV w' B f R h v:=by
 obtain⟨A,c,h1,h2,h3⟩:=k.out
 exact⟨A,c,h1,h2.gr g,h3⟩
theorem jp:(Tryz.prog.info? 24).map (·.size)=some 3:=by kernel_rfl
theorem zkr (f h:Int) (A:Option Addr) (n c:Nat):(kyS f A n c h).all (·.oneCell')=true:=by simp [kyS,Value.oneCell']
def whB (f who:Int):Bool:=decide (0≤who∧who<3*f+1)
theorem zdt (f:Int) (hf:1≤f∧f≤3) (RA:Option Addr) (n Rc:Nat) (h who:Int) (w:World) :
 Calls Tryz.prog 98 #[.agg (kyS f RA n Rc h),.int .i64 who] w fun e w'=>e=.returned (.bool (whB f who))∧Grew w w':=by
 have z0:=Ag.new w 24 (kyS f RA n Rc h)
 have G0:=zg (zc w) (.cells (kyS f RA n Rc h) 24)
 have c0:(w.alloc (.cells (kyS f RA n Rc h) 24)).cell? ⟨w.heap.size,0,none⟩=some (.int .i64 f):=by simpa using z0.cell 0 _ rfl
 have CN:=hQ9 (fun W=>rn_ok f hf W)
 obtain⟨nn,hnn⟩:∃ nn,3*f+1=nn:=⟨_,rfl⟩
 have HB:Hid (whB f who=decide (0≤who∧who<nn)):=hQ9 (by unfold whB;rw [hnn])
 rw [hnn]at CN
 clear z0 hnn hf
 by_cases h0:0≤who
 ·by_cases h1:who<nn
  ·have e0:decide (0≤who)=true:=decide_eq_true h0
   have e1:decide (who<nn)=true:=decide_eq_true h1
   rw [HB.out,decide_eq_true ⟨h0,h1⟩]
   clear HB
   go_enter Tryz.func98,Tryz.ntmps98
   go_wp2_with(go_at_call 69;refine(CN.out _).mono ?_;rintro e z ⟨rfl,hz⟩;rw [hz];clear hz)
   go_ret
   exact⟨rfl,G0⟩
  ·have e0:decide (0≤who)=true:=decide_eq_true h0
   have e1:decide (who<nn)=false:=decide_eq_false h1
   rw [HB.out,decide_eq_false (by omega)]
   clear HB
   go_enter Tryz.func98,Tryz.ntmps98
   go_wp2_with(go_at_call 69;refine(CN.out _).mono ?_;rintro e z ⟨rfl,hz⟩;rw [hz];clear hz)
   go_ret
   exact⟨rfl,G0⟩
 ·have e0:decide (0≤who)=false:=decide_eq_false h0
  rw [HB.out,decide_eq_false (by omega)]
  clear HB
  go_enter Tryz.func98,Tryz.ntmps98
  go_wp2_with fail
  go_ret
  exact⟨rfl,G0⟩
theorem qQ (f:Int) (R:List Nat) (RA:Option Addr) (Rc:Nat) (h:Int) (n d:Nat) (sw lf:Int) (s:Nat→Nat) (A:Option Addr) (c:Nat) (l:List Nat) (hn:n≤1000) (hlf:in64 lf) (hl:l.length≤1000) (hs:∀ k,k<18→s k<18446744073709551616) (hb:∀ x∈l,x<18446744073709551616) (hd:d<18446744073709551616)
 (hRl:R.length≤1000) (w:World) (hrR:Rd w w.heap.size RA (u64L R)) (hrl:Rd w w.heap.size A (u64L l)) :
 Calls Tryz.prog 99 #[.agg (kyS f RA R.length Rc h),.int .i64 (n:Int),.agg (sgC sw lf s (.slice A l.length c)),.int .u64 (d:Nat)] w fun e w'=>e=.returned (.bool (decide (ckE R h n d sw lf s l=0)))∧Grew w w':=by
 have z1:=(Ag.new w 24 (kyS f RA R.length Rc h)).grew (zg (zc _) (.cells (sgC sw lf s (.slice A l.length c)) 73))
 have z2:=Ag.new (w.alloc (.cells (kyS f RA R.length Rc h) 24)) 73 (sgC sw lf s (.slice A l.length c))
 rw [zl]at z2
 have G0:=zg (zg (zc w) (.cells (kyS f RA R.length Rc h) 24)) (.cells (sgC sw lf s (.slice A l.length c)) 73)
 have hug:=Tryz.underlying73
 have HSL:Hid ((Tryz.prog.info? 73).map (·.size)=some (sgC sw lf s (.slice A l.length c)).toList.length):=hQ9 y4
 have CV:=hQ9 (fun W hR=>zev (R.getD n 0) sw lf s A c l (d:Int) h (by omega) hlf hs hb ⟨by omega,by omega⟩ W hR)
 have HLL:=hQ9 hrl
 have HRR:=hQ9 hrR
 have HCK:Hid (∀ b,(decide (sw=(n:Int))&&decide (n<R.length)&&vrS (R.getD n 0) lf s l (d:Int) h)=b→decide (ckE R h n d sw lf s l=0)=b):=hQ9 (fun b hb=>by
  rw [←hb]
  unfold ckE
  by_cases a1:R.length≤n
  ·rw [if_pos a1]
   have:¬n<R.length:=by omega
   simp [this]
  ·rw [if_neg a1]
   have a1':n<R.length:=by omega
   by_cases a2:sw=(n:Int)
   ·rw [if_pos a2]
    cases hv:vrS (R.getD n 0) lf s l (d:Int) h<;>simp [a2,a1']
   ·rw [if_neg a2];simp [a2])
 clear hrR hrl hs hb hlf hl hd
 go_enter Tryz.func99,Tryz.ntmps99
 go_wp2_with fail
 generalize (w.alloc (.cells (kyS f RA R.length Rc h) 24)).alloc (.cells (sgC sw lf s (.slice A l.length c)) 73)=w1 at *
 have k1:∀ y:Gr w1,y.val.cell? ⟨w.heap.size,1,none⟩=some (.slice RA R.length Rc):=fun y=>by simpa using (z1.gr y).cell 1 _ rfl
 have k2:∀ y:Gr w1,y.val.cell? ⟨w.heap.size,2,none⟩=some (.int .i64 h):=fun y=>by simpa using (z1.gr y).cell 2 _ rfl
 have k0:∀ y:Gr w1,y.val.cell? ⟨w.heap.size+1,0,none⟩=some (.int .i64 sw):=fun y=>by simpa using (z2.gr y).cell 0 _ rfl
 have M2:Hid (∀ y:Gr w1,y.val.rangeAt (w.heap.size+1) 0 (sgC sw lf s (.slice A l.length c)).toList):=hQ9 (fun y=>(z2.gr y).cell)
 have RL:Hid (∀ y:Gr w1,Rd y.val y.val.heap.size A (u64L l)):=hQ9 (fun y=>(HLL.out.gr G0).gr y.ok)
 have hn0:(0:Int)≤(n:Int):=by omega
 have g0:decide ((0:Int)≤(n:Int))=true:=decide_eq_true hn0
 clear z1 z2 HLL
 by_cases a2:sw=(n:Int)
 case neg =>
  have e2:(sw==(n:Int))=false:=by simpa using a2
  have HE:=HCK.out false (by simp [a2])
  clear HCK a2 HRR
  refine zh (zc w1) (by kernel_rfl) (by kernel_rfl) ?_
  repeat (first
   | (go_big_quiet_want;refine zo 73 (.tmp 6) rfl (w.heap.size+1) 0 rfl (sgC sw lf s (.slice A l.length c)).toList _ M2.out hug rfl HSL.out ?_;simp only [Act.put,List.setIfInBounds_toArray,List.set_cons_succ,List.set_cons_zero,Array.toArray_toList];go_big_quiet_on)
   | (go_big_quiet_step (first
    | (go_at_call 153;exact callG (CV.out _ (RL.out _))))))
  refine wpQuiet_nil ?_
  rintro w8 ⟨⟨w8',g8⟩,rfl⟩
  go_wp2_with fail
  go_ret
  exact⟨by rw [HE];rfl,ze G0 g8⟩
 have e2:(sw==(n:Int))=true:=by simpa using a2
 by_cases a1:n<R.length
 case neg =>
  have e1:decide (n<R.length)=false:=decide_eq_false a1
  have HE:=HCK.out false (by simp [a1])
  clear HCK a2 HRR a1
  refine zh (zc w1) (by kernel_rfl) (by kernel_rfl) ?_
  repeat (first
   | (go_big_quiet_want;refine zo 73 (.tmp 6) rfl (w.heap.size+1) 0 rfl (sgC sw lf s (.slice A l.length c)).toList _ M2.out hug rfl HSL.out ?_;simp only [Act.put,List.setIfInBounds_toArray,List.set_cons_succ,List.set_cons_zero,Array.toArray_toList];go_big_quiet_on)
   | (go_big_quiet_step (first
    | (go_at_call 153;exact callG (CV.out _ (RL.out _))))))
  refine wpQuiet_nil ?_
  rintro w8 ⟨⟨w8',g8⟩,rfl⟩
  go_wp2_with fail
  go_ret
  exact⟨by rw [HE];rfl,ze G0 g8⟩
 have e1:decide (n<R.length)=true:=decide_eq_true a1
 have hn1:(n:Int)<(R.length:Int):=by omega
 have HE:=HCK.out (vrS (R.getD n 0) lf s l (d:Int) h) (by simp [a2,a1])
 obtain⟨ad,hA,-,-⟩:=HRR.out n (by simpa [u64L]using a1)
 have kR:∀ y:Gr w1,y.val.cell? (ad.add n)=some (.int .u64 (R.getD n 0:Nat)):=fun y=>by
  obtain⟨ad',hA',_,hc⟩:=(HRR.out.gr (ze G0 y.ok)) n (by simpa [u64L]using a1)
  rw [hA]at hA'
  injection hA' with hA'
  subst hA'
  rw [hc]
  simp [u64L,List.getD_eq_getElem?_getD,a1]
 subst hA
 have HE2:=hQ9 HE
 clear HCK a2 HRR HE
 generalize R.getD n 0=root at *
 refine zh (zc w1) (by kernel_rfl) (by kernel_rfl) ?_
 repeat (first
  | (go_big_quiet_want;refine zo 73 (.tmp 6) rfl (w.heap.size+1) 0 rfl (sgC sw lf s (.slice A l.length c)).toList _ M2.out hug rfl HSL.out ?_;simp only [Act.put,List.setIfInBounds_toArray,List.set_cons_succ,List.set_cons_zero,Array.toArray_toList];go_big_quiet_on)
  | (go_big_quiet_step (first
   | (go_at_call 153;exact callG (CV.out _ (RL.out _))))))
 refine wpQuiet_nil ?_
 rintro w8 ⟨⟨w8',g8⟩,rfl⟩
 go_wp2_with fail
 go_ret
 exact⟨by rw [HE2.out];rfl,ze G0 g8⟩
theorem zgm (R:List Nat) (h:Int) (n d:Nat) (sw lf:Int) (s:Nat→Nat) (l:List Nat):ckE R h n d sw lf s l=0∨ckE R h n d sw lf s l=7:=by
 unfold ckE
 split
 ·exact .inr rfl
 ·split
  ·split
   ·exact .inl rfl
   ·exact .inr rfl
  ·exact .inr rfl
structure AkR where
 cm:Nat
 who:Int
 g:(Int × Int) × (Nat→Nat) × List Nat
def AkR.zero:AkR:=⟨0,0,((0,0),fun _=>0,[])⟩
def AkR.v (r:AkR) (pv:Value):Array Value:=akC r.cm r.who r.g.1.1 r.g.1.2 r.g.2.1 pv
def AkR.t (r:AkR):List UInt8:=akT r.cm r.who r.g.1.1 r.g.1.2 r.g.2.1 r.g.2.2
structure AP where
 cm:Nat
 who:Int
 sw:Int
 lf:Int
 s:Nat→Nat
 A:Option Addr
 c:Nat
 l:List Nat
def AP.C (S:AP):Array Value:=akC S.cm S.who S.sw S.lf S.s (.slice S.A S.l.length S.c)
structure AP.ok (S:AP):Prop where
 cm:S.cm<18446744073709551616
 who:in64 S.who
 sw:in64 S.sw
 lf:in64 S.lf
 s:∀ k,k<18→S.s k<18446744073709551616
 len:S.l.length≤1000
 l:∀ x∈S.l,x<18446744073709551616
def AP.at (S:AP) (w:World):Prop:=Rd w w.heap.size S.A (u64L S.l)
theorem AP.at.gr {S:AP} {w w':World} (h:S.at w) (g:Grew w w'):S.at w':=Rd.gr h g
def apL (L:List AP):List (List Value):=L.map fun S=>S.C.toList
theorem zks (L:List AP):(apL L).length=L.length:=by simp [apL]
theorem zik (L:List AP) (n:Nat):apL (L.take n)=(apL L).take n:=by simp [apL]
theorem AP.one (S:AP):S.C.all (·.oneCell')=true:=zkm _ _ _ _ _ _ _ _
theorem AP.one' (S:AP):∀ u∈S.C.toList,u.oneCell'=true:=fun u hu=>by
 have:=S.one
 rw [Array.all_eq_true]at this
 obtain⟨i,hi,rfl⟩:=List.getElem_of_mem hu
 simpa using this i (by simpa using hi)
structure Aps (w:World) (A:Option Addr) (L:List AP):Prop where
 rd:RdC w A 23 (apL L)
 ok:∀ S∈L,S.ok
 at_:∀ S∈L,S.at w
theorem Aps.gr {w w':World} {A:Option Addr} {L:List AP} (h:Aps w A L) (g:Grew w w'):Aps w' A L:=⟨h.rd.gr g,h.ok,fun S hS=>(h.at_ S hS).gr g⟩
theorem Aps.take {w:World} {A:Option Addr} {L:List AP} (h:Aps w A L) (n:Nat):Aps w A (L.take n) :=
 ⟨by rw [zik];exact h.rd.take n,fun S hS=>h.ok S (List.mem_of_mem_take hS),fun S hS=>h.at_ S (List.mem_of_mem_take hS)⟩
theorem Aps.get {w:World} {A:Option Addr} {L:List AP} (h:Aps w A L) (k:Nat) (hk:k<L.length):∃ q,A=some ⟨q,0,none⟩∧q<w.heap.size∧w.rangeAt q (k*23) L[k].C.toList:=by
 obtain⟨q,e,hq,hr⟩:=h.rd k (by rw [zks];exact hk)
 exact⟨q,e,hq,by simpa [apL]using hr⟩
theorem zgn (who leaf:Int) (s:Nat→Nat) (A:Option Addr) (c:Nat) (l:List Nat) (hl:l.length≤1048576) (w:World) (hr:Rd w w.heap.size A (u64L l)) :
 Calls Tryz.prog 97 #[.agg (sgC who leaf s (.slice A l.length c))] w fun e w'=>∃ A' c',e=.returned (.agg (sgC who leaf s (.slice A' l.length c')))∧Rd w' w'.heap.size A' (u64L l)∧Grew w w'∧(∀ ad,A'=some ad→w.heap.size≤ad.block):=by
 have z0:=Ag.new w 73 (sgC who leaf s (.slice A l.length c))
 have G0:=zg (zc w) (.cells (sgC who leaf s (.slice A l.length c)) 73)
 have hwz:w.heap.size<(w.alloc (.cells (sgC who leaf s (.slice A l.length c)) 73)).heap.size:=z0.lt
 have HIA:Hid ((Tryz.prog.info? 71).map (·.size)=some (arrU s).toList.length):=hQ9 (by rw [show(arrU s).toList.length=18 by simp [arrU]];kernel_rfl)
 have hua:=Tryz.underlying71
 have hur:=Tryz.underlying67
 go_enter Tryz.func97,Tryz.ntmps97
 go_wp2_with fail
 have z2:Ag ((w.alloc (.cells (sgC who leaf s (.slice A l.length c)) 73)).alloc (.cells (zS21) 67)) (w.heap.size+1) (zS21:Array Value).toList:=by
  have:=Ag.new (w.alloc (.cells (sgC who leaf s (.slice A l.length c)) 73)) 67 (zS21)
  simpa using this
 have z1:=z0.grew (zg (zc _) (.cells (zS21) 67))
 have G2:=zg G0 (.cells (zS21) 67)
 clear z0 G0 hwz
 generalize (w.alloc (.cells (sgC who leaf s (.slice A l.length c)) 73)).alloc (.cells (zS21) 67)=w2 at *
 have HC0:Hid (∀ y,Grew w2 y→y.cell? ⟨w.heap.size,0,none⟩=some (.int .i64 who)):=hQ9 (fun y g=>by simpa using (z1.grew g).cell 0 _ rfl)
 have HC1:Hid (∀ y,Grew w2 y→y.cell? ⟨w.heap.size,1,none⟩=some (.int .i64 leaf)):=hQ9 (fun y g=>by simpa using (z1.grew g).cell 1 _ rfl)
 have HC20:Hid (∀ y,Grew w2 y→y.cell? ⟨w.heap.size,20,none⟩=some (.slice A l.length c)):=hQ9 (fun y g=>by simpa using (z1.grew g).cell 20 _ rfl)
 have HCM:Hid (∀ y,Grew w2 y→y.rangeAt w.heap.size 2 (arrU s).toList):=hQ9 (fun y g=>ki (z1.grew g))
 have r2:=hr.gr G2
 have HRY:=hQ9 (fun y (g:Grew w2 y)=>r2.gr g)
 clear z1 hr r2
 refine zy 11 (fun i=>match i with
  | 0=>fun v _=>v=.pointer (some ⟨w.heap.size,0,none⟩)
  | 1=>fun v _=>v=.int .i64 who
  | 2=>fun v _=>v=.pointer (some ⟨w.heap.size,1,none⟩)
  | 3=>fun v _=>v=.int .i64 leaf
  | 4=>fun v _=>v=.pointer (some ⟨w.heap.size,2,none⟩)
  | 5=>fun v _=>v=.agg (arrU s)
  | 6=>fun v _=>v=.agg (arrU s)
  | 7=>fun v _=>v=.pointer (some ⟨w.heap.size,20,none⟩)
  | 8=>fun v _=>v=.slice A l.length c
  | 9=>fun v w=>PV w w2.heap.size l v
  | 10=>fun v w=>AgS w w2.heap.size who leaf s l v
  | _=>fun _ _=>True) (by kernel_rfl) (by kernel_rfl) ?_ ?_ ?_
 ·intro i v x y h hg
  match i,h with
  | 0,h | 1,h | 2,h | 3,h | 4,h | 5,h | 6,h | 7,h | 8,h=>exact h
  | 9,h=>exact PV.gr h hg
  | 10,h=>exact AgS.gr h hg
  | m+11,_=>trivial
 ·simp only [actOf,tk1,tk0,dr1,dr0,Act.put,si1,st1,st0,Nat.reduceAdd]
  refine⟨?_,?_,?_,?_,?_,?_,?_,?_,?_,?_,?_,trivial⟩
  ·intro vs y hg hd
   dsimp only
   go_wp2_with fail
   exact⟨rfl,_,rfl,zc _,rfl⟩
  ·intro vs y hg hd
   obtain⟨h0,_⟩:=hd
   replace h0:=h0 rfl
   dsimp only
   rw [show vs 0=_ from h0]
   have hc:=HC0.out y hg
   go_wp2_with fail
   exact⟨rfl,_,rfl,zc _,rfl⟩
  ·intro vs y hg hd
   dsimp only
   go_wp2_with fail
   exact⟨rfl,_,rfl,zc _,rfl⟩
  ·intro vs y hg hd
   obtain⟨h2,_⟩:=hd
   replace h2:=h2 rfl
   dsimp only
   rw [show vs 2=_ from h2]
   have hc:=HC1.out y hg
   go_wp2_with fail
   exact⟨rfl,_,rfl,zc _,rfl⟩
  ·intro vs y hg hd
   dsimp only
   go_wp2_with fail
   exact⟨rfl,_,rfl,zc _,rfl⟩
  ·intro vs y hg hd
   obtain⟨h4,_⟩:=hd
   replace h4:=h4 rfl
   dsimp only
   rw [show vs 4=_ from h4]
   have hm:=HCM.out y hg
   go_wp2_with(with_reducible refine wpList_load_mid rfl 71 (.tmp 7) rfl w.heap.size 2 rfl (arrU s).toList _ hm hua rfl HIA.out ?_)
   exact⟨rfl,_,rfl,zc _,rfl⟩
  ·intro vs y hg hd
   obtain⟨h5,_⟩:=hd
   replace h5:=h5 rfl
   dsimp only
   rw [show vs 5=_ from h5]
   go_wp2_with(go_at_call 152;refine(to_row s y).mono ?_;rintro e z ⟨rfl,gz⟩)
   exact⟨rfl,_,rfl,gz,rfl⟩
  ·intro vs y hg hd
   dsimp only
   go_wp2_with fail
   exact⟨rfl,_,rfl,zc _,rfl⟩
  ·intro vs y hg hd
   obtain⟨h7,_⟩:=hd
   replace h7:=h7 rfl
   dsimp only
   rw [show vs 7=_ from h7]
   have hc:=HC20.out y hg
   go_wp2_with fail
   exact⟨rfl,_,rfl,zc _,rfl⟩
  ·intro vs y hg hd
   obtain⟨h8,_⟩:=hd
   replace h8:=h8 rfl
   dsimp only
   rw [show vs 8=_ from h8]
   go_wp2_with(go_at_call 77;refine(zb0 A c y.heap.size l hl y (HRY.out y hg) (Nat.le_refl _)).mono ?_;rintro e z ⟨A2,c2,rfl,hr9,hb9,gz⟩)
   exact⟨rfl,_,rfl,gz,⟨A2,c2,rfl,hr9,fun ad h=>Nat.le_trans hg.size (hb9 ad h)⟩⟩
  ·intro vs y hg hd
   obtain⟨h1,h3,h6,h9,_⟩:=hd
   replace h1:=h1 rfl
   replace h3:=h3 rfl
   replace h6:=h6 rfl
   replace h9:=h9 rfl
   dsimp only
   rw [show vs 1=_ from h1,show vs 3=_ from h3,show vs 6=_ from h6]
   obtain⟨A2,c2,hv,hr9,hb9⟩:=PV.out h9
   rw [hv]
   have hbu:=zie who leaf s A2 l.length c2
   generalize arrU s=aa at *
   refine zC rfl 67 #[(0,.tmp 4),(1,.tmp 6),(2,.tmp 9),(3,.tmp 12)] rfl _ (by simpa [Act.eval]using hbu) ?_
   go_wp2_with fail
   exact⟨rfl,_,rfl,zc _,⟨A2,c2,rfl,hr9,hb9⟩⟩
 ·intro vs y hg hJ
  have j0:vs 0=.pointer (some ⟨w.heap.size,0,none⟩):=hJ 0 (by decide)
  have j1:vs 1=.int .i64 who:=hJ 1 (by decide)
  have j2:vs 2=.pointer (some ⟨w.heap.size,1,none⟩):=hJ 2 (by decide)
  have j3:vs 3=.int .i64 leaf:=hJ 3 (by decide)
  have j4:vs 4=.pointer (some ⟨w.heap.size,2,none⟩):=hJ 4 (by decide)
  have j5:vs 5=.agg (arrU s):=hJ 5 (by decide)
  have j6:vs 6=.agg (arrU s):=hJ 6 (by decide)
  have j7:vs 7=.pointer (some ⟨w.heap.size,20,none⟩):=hJ 7 (by decide)
  have j8:vs 8=.slice A l.length c:=hJ 8 (by decide)
  simp only [actOf,tk1,tk0,dr1,dr0,Act.put,si1,st1,st0,Nat.reduceAdd]
  obtain⟨A2,c2,j10,r3,hb3⟩:=AgS.out (show AgS y w2.heap.size who leaf s l (vs 10) from hJ 10 (by decide))
  rw [j10]
  clear hJ j0 j1 j2 j3 j4 j5 j6 j7 j8 j10
  have h2:=z2.lt
  have HLO:Hid (∀ ad,A2=some ad→w.heap.size≤ad.block):=hQ9 (fun ad h=>by have:=hb3 ad h;have:=G2.size;omega)
  have HNE:Hid (∀ ad,A2=some ad→ad.block≠w.heap.size+1):=hQ9 (fun ad h=>by have:=hb3 ad h;omega)
  have z3:=z2.grew hg
  have G3:=ze G2 hg
  clear z2 G2 hg hb3 h2
  have HTH:Hid (y.there (w.heap.size+1) 0 (sgC who leaf s (.slice A2 l.length c2)).size):=hQ9 (z3.thereN 21 rfl)
  have HSI:Hid ((Tryz.prog.info? 67).map (·.size)=some (sgC who leaf s (.slice A2 l.length c2)).size):=hQ9 zdp
  have HON:=hQ9 (yL who leaf s A2 l.length c2)
  have K3:=zn (sgC who leaf s (.slice A2 l.length c2)).toList (w.heap.size+1) 0 y
  have r4:=(r3.kp K3 (Nat.le_refl _) (fun ad h1 h2 h3=>HNE.out ad h1 h3)).more K3.size
  have z4:=Ag.set (vs:=(sgC who leaf s (.slice A2 l.length c2)).toList) z3 rfl
  have G4:=zi (o:=0) (b:=w.heap.size+1) (sgC who leaf s (.slice A2 l.length c2)).toList G3 (by omega)
  go_wp2_with(with_reducible refine wpList_store_mid rfl 67 (.tmp 2) (.tmp 13) rfl (w.heap.size+1) 0 (sgC who leaf s (.slice A2 l.length c2)) rfl rfl HTH.out HSI.out HON.out ?_)
  exact bodyPost_ret (zM Tryz.results97 _ _ (w.heap.size+1) _ _ rfl z4 hur rfl zdp) rfl ⟨A2,⟨c2,rfl⟩,r4,G4,HLO.out⟩
theorem zgo (f:Int):Tryz.prog.built 46 [(0,.int .i64 f)]=some #[.int .i64 f]:=by kernel_rfl
theorem zil (f h:Int) (A:Option Addr) (n c:Nat):Tryz.prog.built 49 [(0,.agg #[.int .i64 f]),(1,.slice A n c),(2,.int .i64 h)]=some (kyS f A n c h):=by kernel_rfl
theorem zdu:(Tryz.prog.info? 49).map (·.size)=some 3:=by kernel_rfl
theorem zgp (f:Int) (R:List Nat) (RA:Option Addr) (Rc:Nat) (h:Int) (hl:R.length≤1048576) (w:World) (hr:Rd w w.heap.size RA (u64L R)) :
 Calls Tryz.prog 17 #[.agg (kyS f RA R.length Rc h)] w fun e w'=>∃ A' c',e=.returned (.agg (kyS f A' R.length c' h))∧Rd w' w'.heap.size A' (u64L R)∧Grew w w'∧(∀ ad,A'=some ad→w.heap.size≤ad.block):=by
 have z0:=Ag.new w 24 (kyS f RA R.length Rc h)
 have G0:=zg (zc w) (.cells (kyS f RA R.length Rc h) 24)
 have hur:=Tryz.underlying49
 have CO:=hQ9 (fun W hR=>zb0 RA Rc _ R hl W hR (Nat.le_refl _))
 go_enter Tryz.func17,Tryz.ntmps17
 go_wp2_with fail
 have z2:Ag ((w.alloc (.cells (kyS f RA R.length Rc h) 24)).alloc (.cells (#[.int .i64 0,.slice none 0 0,.int .i64 0]) 49)) (w.heap.size+1) (#[.int .i64 0,.slice none 0 0,.int .i64 0]:Array Value).toList:=by
  have:=Ag.new (w.alloc (.cells (kyS f RA R.length Rc h) 24)) 49 (#[.int .i64 0,.slice none 0 0,.int .i64 0])
  simpa using this
 have z1:=z0.grew (zg (zc _) (.cells (#[.int .i64 0,.slice none 0 0,.int .i64 0]) 49))
 have G2:=zg G0 (.cells (#[.int .i64 0,.slice none 0 0,.int .i64 0]) 49)
 clear z0 G0
 generalize (w.alloc (.cells (kyS f RA R.length Rc h) 24)).alloc (.cells (#[.int .i64 0,.slice none 0 0,.int .i64 0]) 49)=w2 at *
 have HC0:Hid (∀ y,Grew w2 y→y.cell? ⟨w.heap.size,0,none⟩=some (.int .i64 f)):=hQ9 (fun y g=>by simpa using (z1.grew g).cell 0 _ rfl)
 have HC1:Hid (∀ y,Grew w2 y→y.cell? ⟨w.heap.size,1,none⟩=some (.slice RA R.length Rc)):=hQ9 (fun y g=>by simpa using (z1.grew g).cell 1 _ rfl)
 have HC2:Hid (∀ y,Grew w2 y→y.cell? ⟨w.heap.size,2,none⟩=some (.int .i64 h)):=hQ9 (fun y g=>by simpa using (z1.grew g).cell 2 _ rfl)
 have r2:=hr.gr G2
 have HRY:=hQ9 (fun y (g:Grew w2 y)=>r2.gr g)
 clear z1 hr r2
 refine zy 9 (fun i=>match i with
  | 0=>fun v _=>v=.pointer (some ⟨w.heap.size,0,none⟩)
  | 1=>fun v _=>v=.int .i64 f
  | 2=>fun v _=>v=.agg #[.int .i64 f]
  | 3=>fun v _=>v=.pointer (some ⟨w.heap.size,1,none⟩)
  | 4=>fun v _=>v=.slice RA R.length Rc
  | 5=>fun v w=>PV w w2.heap.size R v
  | 6=>fun v _=>v=.pointer (some ⟨w.heap.size,2,none⟩)
  | 7=>fun v _=>v=.int .i64 h
  | 8=>fun v w=>KV w w2.heap.size f R h v
  | _=>fun _ _=>True) (by kernel_rfl) (by kernel_rfl) ?_ ?_ ?_
 ·intro i v x y h hg
  match i,h with
  | 0,h | 1,h | 2,h | 3,h | 4,h | 6,h | 7,h=>exact h
  | 5,h=>exact PV.gr h hg
  | 8,h=>exact KV.gr h hg
  | m+9,_=>trivial
 ·simp only [actOf,tk1,tk0,dr1,dr0,Act.put,si1,st1,st0,Nat.reduceAdd]
  refine⟨?_,?_,?_,?_,?_,?_,?_,?_,?_,trivial⟩
  ·intro vs y hg hd
   dsimp only
   go_wp2_with fail
   exact⟨rfl,_,rfl,zc _,rfl⟩
  ·intro vs y hg hd
   obtain⟨h0,_⟩:=hd
   replace h0:=h0 rfl
   dsimp only
   rw [show vs 0=_ from h0]
   have hc:=HC0.out y hg
   go_wp2_with fail
   exact⟨rfl,_,rfl,zc _,rfl⟩
  ·intro vs y hg hd
   obtain⟨h1,_⟩:=hd
   replace h1:=h1 rfl
   dsimp only
   rw [show vs 1=_ from h1]
   have HBF:=hQ9 (zgo f)
   go_wp2_with(with_reducible refine zC rfl 46 #[(0,.tmp 4)] rfl #[.int .i64 f] ?_ ?_;· simpa [Act.eval,Act.put]using HBF.out)
   exact⟨rfl,_,rfl,zc _,rfl⟩
  ·intro vs y hg hd
   dsimp only
   go_wp2_with fail
   exact⟨rfl,_,rfl,zc _,rfl⟩
  ·intro vs y hg hd
   obtain⟨h3,_⟩:=hd
   replace h3:=h3 rfl
   dsimp only
   rw [show vs 3=_ from h3]
   have hc:=HC1.out y hg
   go_wp2_with fail
   exact⟨rfl,_,rfl,zc _,rfl⟩
  ·intro vs y hg hd
   obtain⟨h4,_⟩:=hd
   replace h4:=h4 rfl
   dsimp only
   rw [show vs 4=_ from h4]
   go_wp2_with(go_at_call 77;refine(CO.out y (HRY.out y hg)).mono ?_;rintro e z ⟨A2,c2,rfl,hr2,hb2,gz⟩)
   exact⟨rfl,_,rfl,gz,⟨A2,c2,rfl,hr2,fun ad h=>by have:=hb2 ad h;have:=hg.size;omega⟩⟩
  ·intro vs y hg hd
   dsimp only
   go_wp2_with fail
   exact⟨rfl,_,rfl,zc _,rfl⟩
  ·intro vs y hg hd
   obtain⟨h6,_⟩:=hd
   replace h6:=h6 rfl
   dsimp only
   rw [show vs 6=_ from h6]
   have hc:=HC2.out y hg
   go_wp2_with fail
   exact⟨rfl,_,rfl,zc _,rfl⟩
  ·intro vs y hg hd
   obtain⟨h2,h5,h7,_⟩:=hd
   replace h2:=h2 rfl
   replace h5:=h5 rfl
   replace h7:=h7 rfl
   dsimp only
   rw [show vs 2=_ from h2,show vs 7=_ from h7]
   obtain⟨A2,c2,hv,hr2,hb2⟩:=PV.out h5
   rw [hv]
   have HBU:=hQ9 (zil f h A2 R.length c2)
   go_wp2_with(with_reducible refine zC rfl 49 #[(0,.tmp 5),(1,.tmp 8),(2,.tmp 10)] rfl (kyS f A2 R.length c2 h) ?_ ?_;· simpa [Act.eval,Act.put]using HBU.out)
   exact⟨rfl,_,rfl,zc _,⟨A2,c2,rfl,hr2,hb2⟩⟩
 ·intro vs y hg hJ
  have j0:vs 0=.pointer (some ⟨w.heap.size,0,none⟩):=hJ 0 (by decide)
  have j1:vs 1=.int .i64 f:=hJ 1 (by decide)
  have j2:vs 2=.agg #[.int .i64 f]:=hJ 2 (by decide)
  have j3:vs 3=.pointer (some ⟨w.heap.size,1,none⟩):=hJ 3 (by decide)
  have j4:vs 4=.slice RA R.length Rc:=hJ 4 (by decide)
  have j6:vs 6=.pointer (some ⟨w.heap.size,2,none⟩):=hJ 6 (by decide)
  have j7:vs 7=.int .i64 h:=hJ 7 (by decide)
  have s8:=hJ 5 (by decide)
  have s11:=hJ 8 (by decide)
  clear hJ
  simp only [actOf,tk1,tk0,dr1,dr0,Act.put,si1,st1,st0,Nat.reduceAdd]
  obtain⟨A2,c2,j9,r3,hb3⟩:=KV.out s11
  rw [j9]
  clear s8 s11 j9
  have hz1:=z2.lt
  have hz2:=G2.size
  have HNE:Hid (∀ ad,A2=some ad→ad.block≠w.heap.size+1):=hQ9 (fun ad h=>by have:=hb3 ad h;omega)
  have HLO:Hid (∀ ad,A2=some ad→w.heap.size≤ad.block):=hQ9 (fun ad h=>by have:=hb3 ad h;omega)
  have z3:=z2.grew hg
  have G3:=ze G2 hg
  clear z2 G2 hg hb3 hz1 hz2
  have HTH:Hid (y.there (w.heap.size+1) 0 (kyS f A2 R.length c2 h).size):=hQ9 (z3.thereN 3 rfl)
  have HSI:Hid ((Tryz.prog.info? 49).map (·.size)=some (kyS f A2 R.length c2 h).size):=hQ9 zdu
  have HON:=hQ9 (zkr f h A2 R.length c2)
  have K3:=zn (kyS f A2 R.length c2 h).toList (w.heap.size+1) 0 y
  have r4:=(r3.kp K3 (Nat.le_refl _) (fun ad h1 h2 h3=>HNE.out ad h1 h3)).more K3.size
  have z4:=Ag.set (vs:=(kyS f A2 R.length c2 h).toList) z3 rfl
  have G4:=zi (o:=0) (b:=w.heap.size+1) (kyS f A2 R.length c2 h).toList G3 (by omega)
  go_wp2_with(with_reducible refine wpList_store_mid rfl 49 (.tmp 2) (.tmp 11) rfl (w.heap.size+1) 0 (kyS f A2 R.length c2 h) rfl rfl HTH.out HSI.out HON.out ?_)
  exact bodyPost_ret (zM Tryz.results17 _ _ (w.heap.size+1) _ _ rfl z4 hur rfl zdu) rfl ⟨A2,⟨c2,rfl⟩,r4,G4,HLO.out⟩
theorem zc3 (f:Int) (R:List Nat) (RA:Option Addr) (Rc:Nat) (h:Int) (w:World) :
 Calls Tryz.prog 13 #[.agg (kyS f RA R.length Rc h)] w fun e w'=>e=.returned (.int .i64 (cyE f R.length h))∧Grew w w':=by
 have CC:=hQ9 (fun W=>zf3 f W)
 have zk:=Ag.new w 24 (kyS f RA R.length Rc h)
 have G1:=zg (zc w) (.cells (kyS f RA R.length Rc h) 24)
 have hm0:(w.alloc (.cells (kyS f RA R.length Rc h) 24)).cell? ⟨w.heap.size,0,none⟩=some (.int .i64 f):=by simpa using zk.cell 0 _ rfl
 by_cases hbad:f<1∨3<f
 ·have HE:Hid (cyE f R.length h=1):=hQ9 (by unfold cyE;rw [if_pos hbad])
  rw [if_pos hbad]at CC
  clear hbad zk
  go_enter Tryz.func13,Tryz.ntmps13
  go_wp2_with fail
  refine(CC.out _).mono ?_
  rintro e w2 ⟨rfl,rfl⟩
  go_wp2_with fail
  go_ret
  exact⟨by rw [HE.out];rfl,G1⟩
 rw [if_neg hbad]at CC
 have CN:Hid (∀ W,Calls Tryz.prog 69 #[.int .i64 f] W fun e w'=>e=.returned (.int .i64 (3*f+1))∧Grew W w'):=hQ9 (fun W=>(rn_ok f (by omega) W).mono (by rintro e z ⟨rfl,rfl⟩;exact⟨rfl,zc _⟩))
 have hf:1≤f∧f≤3:=by omega
 go_enter Tryz.func13,Tryz.ntmps13
 go_wp2_with fail
 refine(CC.out _).mono ?_
 rintro e w1 ⟨rfl,hw1⟩
 rw [←hw1]at zk G1
 clear hm0 CC hw1
 go_wp2_with fail
 have HD:Hid (cyE f R.length h=if (R.length:Int)=3*f+1∧0≤h∧h≤8 then 0 else 1):=hQ9 (by unfold cyE;rw [if_neg hbad])
 have m0:∀ y:Gr w1,y.val.cell? ⟨w.heap.size,0,none⟩=some (.int .i64 f):=fun y=>by simpa using (zk.gr y).cell 0 _ rfl
 have m1:∀ y:Gr w1,y.val.cell? ⟨w.heap.size,1,none⟩=some (.slice RA R.length Rc):=fun y=>by simpa using (zk.gr y).cell 1 _ rfl
 have m2:∀ y:Gr w1,y.val.cell? ⟨w.heap.size,2,none⟩=some (.int .i64 h):=fun y=>by simpa using (zk.gr y).cell 2 _ rfl
 obtain⟨nn,hnn⟩:∃ nn,3*f+1=nn:=⟨_,rfl⟩
 rw [hnn]at CN HD
 clear hnn hbad hf zk
 by_cases hA:(R.length:Int)=nn
 ·have e1:((R.length:Int) != nn)=false:=by simp [hA]
  by_cases hB:h<0
  ·have HE:Hid (cyE f R.length h=1):=hQ9 (by rw [HD.out,if_neg (by omega)])
   clear hA HD
   refine zh (zc w1) (by kernel_rfl) (by kernel_rfl) ?_
   repeat (go_big_quiet_step (first | (go_at_call 69;exact callG (CN.out _))))
   refine wpQuiet_nil ?_
   rintro w8 ⟨⟨w8',g8⟩,rfl⟩
   have G8:=ze G1 g8
   go_wp2_with fail
   go_ret
   exact⟨by rw [HE.out];rfl,G8⟩
  by_cases hC:8<h
  ·have HE:Hid (cyE f R.length h=1):=hQ9 (by rw [HD.out,if_neg (by omega)])
   clear hA HD
   refine zh (zc w1) (by kernel_rfl) (by kernel_rfl) ?_
   repeat (go_big_quiet_step (first | (go_at_call 69;exact callG (CN.out _))))
   refine wpQuiet_nil ?_
   rintro w8 ⟨⟨w8',g8⟩,rfl⟩
   have G8:=ze G1 g8
   go_wp2_with fail
   go_ret
   exact⟨by rw [HE.out];rfl,G8⟩
  have HE:Hid (cyE f R.length h=0):=hQ9 (by rw [HD.out,if_pos ⟨hA,by omega,by omega⟩])
  clear hA HD
  refine zh (zc w1) (by kernel_rfl) (by kernel_rfl) ?_
  repeat (go_big_quiet_step (first | (go_at_call 69;exact callG (CN.out _))))
  refine wpQuiet_nil ?_
  rintro w8 ⟨⟨w8',g8⟩,rfl⟩
  have G8:=ze G1 g8
  go_wp2_with fail
  go_ret
  exact⟨by rw [HE.out];rfl,G8⟩
 ·have e1:((R.length:Int) != nn)=true:=by simp [hA]
  have HE:Hid (cyE f R.length h=1):=hQ9 (by rw [HD.out,if_neg (fun h=>hA h.1)])
  clear hA HD
  refine zh (zc w1) (by kernel_rfl) (by kernel_rfl) ?_
  repeat (go_big_quiet_step (first | (go_at_call 69;exact callG (CN.out _))))
  refine wpQuiet_nil ?_
  rintro w8 ⟨⟨w8',g8⟩,rfl⟩
  have G8:=ze G1 g8
  go_wp2_with fail
  go_ret
  exact⟨by rw [HE.out];rfl,G8⟩
theorem ze1 (R:List Nat) (RA:Option Addr) (Rc:Nat) (h:Int) (vw:Int) (cm n:Nat) (sw lf:Int) (s:Nat→Nat) (A:Option Addr) (c:Nat) (l:List Nat) (hc:cm<18446744073709551616) (hw:in64 (n:Int)) (hv:in64 vw) (hsw:in64 sw) (hlf:in64 lf) (hl:l.length≤1000) (hs:∀ k,k<18→s k<18446744073709551616) (hb:∀ x∈l,x<18446744073709551616)
 (hRl:R.length≤1000) (hRb:∀ x∈R,x<18446744073709551616) (q:Nat) (w:World) (hS:Std w) (hrR:Rd w w.heap.size RA (u64L R)) (hrl:Rd w w.heap.size A (u64L l)) (hq:w.rangeAt q 0 (voC vw cm (n:Int) sw lf s (.slice A l.length c)).toList) (hql:q<w.heap.size) :
 Calls Tryz.prog 95 #[.slice RA R.length Rc,.int .i64 h,.func (.func 96) #[] #[],.slice (some ⟨q,0,none⟩) 1 1] w fun e w'=>e=.returned (.int .i64 (ckE R h n (voD vw cm) sw lf s l))∧Grew w w':=by
 have hus:=Tryz.underlying67
 have hut:=Tryz.underlying69
 have hum:=Tryz.underlying247
 have HST:Hid ((Tryz.prog.info? 69).map (·.size)=some (voC vw cm (n:Int) sw lf s (.slice A l.length c)).toList.length):=hQ9 zH
 have HSI:Hid ((Tryz.prog.info? 69).map (·.size)=some (voC vw cm (n:Int) sw lf s (.slice A l.length c)).size):=hQ9 zH
 have HSM:Hid ((Tryz.prog.info? 247).map (·.size)=some (mkC (n:Int) (voD vw cm) sw lf s (.slice A l.length c)).size):=hQ9 xJ
 have HSG:Hid ((Tryz.prog.info? 67).map (·.size)=some (sgC sw lf s (.slice A l.length c)).toList.length):=hQ9 zL
 have HOS:=hQ9 (km vw cm (n:Int) sw lf s A l.length c)
 have HOM:=hQ9 (jm (n:Int) (voD vw cm) sw lf s A l.length c)
 have CM:=hQ9 (fun W hW=>zgi vw cm (n:Int) sw lf s A c l hc hv W hW)
 have hdl:=qP vw cm
 have CVV:=hQ9 (fun W h1=>qO (R.getD n 0) sw lf s A c l (voD vw cm:Nat) h (by omega) hlf hs hb ⟨by omega,by omega⟩ W h1)
 obtain⟨d,hd⟩:∃ d,voD vw cm=d:=⟨_,rfl⟩
 rw [hd]at CM HSM HOM CVV ⊢
 have HS:=hQ9 hS
 have HRR:=hQ9 hrR
 have HRL:=hQ9 hrl
 have hn0:(0:Int)≤(n:Int):=by omega
 clear hd hdl hS hrR hrl hc hw hv hl hs hb hRb
 go_enter Tryz.func95,Tryz.ntmps95
 go_wp2_with fail
 go_loopw [14] (fun iv wr=>(iv=.int .i64 0∧wr.rangeAt q 0 (voC vw cm (n:Int) sw lf s (.slice A l.length c)).toList∧Grew w wr)∨(iv=.int .i64 1∧ckE R h n d sw lf s l=0∧Grew w wr)) (fun iv _=>1-(intOf iv).toNat)
 case atStart=>exact .inl ⟨rfl,hq,zc _⟩
 case round =>
  clear hq
  rcases hrel with ⟨rfl,hq,G⟩ | ⟨rfl,hE,G⟩
  ·have zt:=Ag.new wr 69 (#[.int .i64 0,.int .u64 0,.int .i64 0,.int .i64 0,.int .i64 0,.int .u64 0,.int .u64 0,.int .u64 0,.int .u64 0,.int .u64 0,.int .u64 0,.int .u64 0,.int .u64 0,.int .u64 0,.int .u64 0,.int .u64 0,.int .u64 0,.int .u64 0,.int .u64 0,.int .u64 0,.int .u64 0,.int .u64 0,.int .u64 0,.slice none 0 0])
   have HTH:Hid ((wr.alloc (.cells (#[.int .i64 0,.int .u64 0,.int .i64 0,.int .i64 0,.int .i64 0,.int .u64 0,.int .u64 0,.int .u64 0,.int .u64 0,.int .u64 0,.int .u64 0,.int .u64 0,.int .u64 0,.int .u64 0,.int .u64 0,.int .u64 0,.int .u64 0,.int .u64 0,.int .u64 0,.int .u64 0,.int .u64 0,.int .u64 0,.int .u64 0,.slice none 0 0]) 69)).there wr.heap.size 0 (voC vw cm (n:Int) sw lf s (.slice A l.length c)).size):=hQ9 (zt.thereN 24 rfl)
   have z1:=Ag.set (vs:=(voC vw cm (n:Int) sw lf s (.slice A l.length c)).toList) zt rfl
   have g1:Grew wr ((wr.alloc (.cells (#[.int .i64 0,.int .u64 0,.int .i64 0,.int .i64 0,.int .i64 0,.int .u64 0,.int .u64 0,.int .u64 0,.int .u64 0,.int .u64 0,.int .u64 0,.int .u64 0,.int .u64 0,.int .u64 0,.int .u64 0,.int .u64 0,.int .u64 0,.int .u64 0,.int .u64 0,.int .u64 0,.int .u64 0,.int .u64 0,.int .u64 0,.slice none 0 0]) 69)).setCells wr.heap.size 0 (voC vw cm (n:Int) sw lf s (.slice A l.length c)).toList):=zi (o:=0) (b:=wr.heap.size) (voC vw cm (n:Int) sw lf s (.slice A l.length c)).toList (zg (zc wr) _) (Nat.le_refl _)
   obtain⟨w2,hw2⟩:∃ v,(wr.alloc (.cells (#[.int .i64 0,.int .u64 0,.int .i64 0,.int .i64 0,.int .i64 0,.int .u64 0,.int .u64 0,.int .u64 0,.int .u64 0,.int .u64 0,.int .u64 0,.int .u64 0,.int .u64 0,.int .u64 0,.int .u64 0,.int .u64 0,.int .u64 0,.int .u64 0,.int .u64 0,.int .u64 0,.int .u64 0,.int .u64 0,.int .u64 0,.slice none 0 0]) 69)).setCells wr.heap.size 0 (voC vw cm (n:Int) sw lf s (.slice A l.length c)).toList=v:=⟨_,rfl⟩
   rw [hw2]at z1 g1
   have HW2:=hQ9 hw2
   have G2:=ze G g1
   have hm1:=z1.cell
   clear hw2 zt g1
   go_wp2_with(first
    | (with_reducible refine wpList_load_mid rfl 69 (.tmp 16) rfl q 0 rfl (voC vw cm (n:Int) sw lf s (.slice A l.length c)).toList _ hq hut rfl HST.out ?_)
    | (with_reducible refine wpList_store_mid rfl 69 (.tmp 10) (.tmp 17) rfl wr.heap.size 0 (voC vw cm (n:Int) sw lf s (.slice A l.length c)) rfl rfl HTH.out HSI.out HOS.out ?_;rw [HW2.out];clear HW2 HTH;generalize wr.heap.size=q1 at *)
    | (with_reducible refine wpList_load_mid rfl 69 (.tmp 10) rfl q1 0 rfl (voC vw cm (n:Int) sw lf s (.slice A l.length c)).toList _ hm1 hut rfl HST.out ?_))
   refine(CM.out w2 (HS.out.grew G2)).mono ?_
   rintro e w3 ⟨rfl,gg⟩
   have G3:=ze G2 gg
   clear hq G G2 gg z1 hm1
   have zt:=Ag.new w3 247 (#[.int .i64 0,.int .u64 0,.int .i64 0,.int .i64 0,.int .u64 0,.int .u64 0,.int .u64 0,.int .u64 0,.int .u64 0,.int .u64 0,.int .u64 0,.int .u64 0,.int .u64 0,.int .u64 0,.int .u64 0,.int .u64 0,.int .u64 0,.int .u64 0,.int .u64 0,.int .u64 0,.int .u64 0,.int .u64 0,.slice none 0 0])
   have HTH:Hid ((w3.alloc (.cells (#[.int .i64 0,.int .u64 0,.int .i64 0,.int .i64 0,.int .u64 0,.int .u64 0,.int .u64 0,.int .u64 0,.int .u64 0,.int .u64 0,.int .u64 0,.int .u64 0,.int .u64 0,.int .u64 0,.int .u64 0,.int .u64 0,.int .u64 0,.int .u64 0,.int .u64 0,.int .u64 0,.int .u64 0,.int .u64 0,.slice none 0 0]) 247)).there w3.heap.size 0 (mkC (n:Int) d sw lf s (.slice A l.length c)).size):=hQ9 (zt.thereN 23 rfl)
   have z4:=Ag.set (vs:=(mkC (n:Int) d sw lf s (.slice A l.length c)).toList) zt rfl
   have g4:Grew w3 ((w3.alloc (.cells (#[.int .i64 0,.int .u64 0,.int .i64 0,.int .i64 0,.int .u64 0,.int .u64 0,.int .u64 0,.int .u64 0,.int .u64 0,.int .u64 0,.int .u64 0,.int .u64 0,.int .u64 0,.int .u64 0,.int .u64 0,.int .u64 0,.int .u64 0,.int .u64 0,.int .u64 0,.int .u64 0,.int .u64 0,.int .u64 0,.slice none 0 0]) 247)).setCells w3.heap.size 0 (mkC (n:Int) d sw lf s (.slice A l.length c)).toList):=zi (o:=0) (b:=w3.heap.size) (mkC (n:Int) d sw lf s (.slice A l.length c)).toList (zg (zc w3) _) (Nat.le_refl _)
   obtain⟨w5,hw5⟩:∃ v,(w3.alloc (.cells (#[.int .i64 0,.int .u64 0,.int .i64 0,.int .i64 0,.int .u64 0,.int .u64 0,.int .u64 0,.int .u64 0,.int .u64 0,.int .u64 0,.int .u64 0,.int .u64 0,.int .u64 0,.int .u64 0,.int .u64 0,.int .u64 0,.int .u64 0,.int .u64 0,.int .u64 0,.int .u64 0,.int .u64 0,.int .u64 0,.slice none 0 0]) 247)).setCells w3.heap.size 0 (mkC (n:Int) d sw lf s (.slice A l.length c)).toList=v:=⟨_,rfl⟩
   rw [hw5]at z4 g4
   have HW5:=hQ9 hw5
   have G5:=ze G3 g4
   clear hw5 zt g4 G3
   go_wp2_with(with_reducible refine wpList_store_mid rfl 247 (.tmp 11) (.tmp 20) rfl w3.heap.size 0 (mkC (n:Int) d sw lf s (.slice A l.length c)) rfl rfl HTH.out HSM.out HOM.out ?_;rw [HW5.out];clear HW5 HTH;generalize w3.heap.size=q2 at *)
   simp only [Act.put]
   have m0:∀ y:Gr w5,y.val.cell? ⟨q2,0,none⟩=some (.int .i64 (n:Int)):=fun y=>by simpa using (z4.gr y).cell 0 _ rfl
   have m1:∀ y:Gr w5,y.val.cell? ⟨q2,1,none⟩=some (.int .u64 (d:Nat)):=fun y=>by simpa using (z4.gr y).cell 1 _ rfl
   have m2:∀ y:Gr w5,y.val.cell? ⟨q2,2,none⟩=some (.int .i64 sw):=fun y=>by simpa using (z4.gr y).cell 2 _ rfl
   have qm:Hid (∀ y:Gr w5,y.val.rangeAt q2 2 (sgC sw lf s (.slice A l.length c)).toList):=hQ9 (fun y=>zgg (z4.gr y).cell)
   have CV:=hQ9 (fun(y:Gr w5)=>CVV.out y.val ((HRL.out.gr G5).gr y.ok))
   have h00:¬(n:Int)<0:=by omega
   clear z4
   by_cases hA:R.length≤n
   ·have HE:Hid (ckE R h n d sw lf s l=7):=hQ9 (by unfold ckE;rw [if_pos hA])
    have e1:(R.length:Int)≤(n:Int):=by omega
    refine zh (zc w5) (by kernel_rfl) (by kernel_rfl) ?_
    repeat (first
     | (go_big_quiet_want;refine zo 67 (.tmp 45) rfl q2 2 rfl (sgC sw lf s (.slice A l.length c)).toList _ qm.out hus rfl HSG.out ?_;simp only [Act.put,List.setIfInBounds_toArray,List.set_cons_succ,List.set_cons_zero,Array.toArray_toList];go_big_quiet_on)
     | (go_big_quiet_step ((go_at_call 151;exact callG (CV.out _)))))
    refine wpQuiet_nil ?_
    rintro w8 ⟨⟨w8',g8⟩,rfl⟩
    have G8:=ze G5 g8
    go_wp2_with fail
    go_ret
    exact⟨by rw [HE.out];rfl,G8⟩
   ·have hA1:¬(R.length:Int)≤(n:Int):=by omega
    have hnR:n<R.length:=by omega
    have hgd:R.getD n 0=R[n]:=by simp [List.getD,hnR]
    obtain⟨ad,hRA,-,hc0⟩:=yx (HRR.out.gr G5) n hnR
    subst hRA
    have mr:∀ y:Gr w5,y.val.cell? (ad.add n)=some (.int .u64 ((R.getD n 0:Nat):Int)):=fun y=>by
     obtain⟨ad',e,-,hc1⟩:=yx ((HRR.out.gr G5).gr y.ok) n hnR
     cases e
     rw [hgd];exact hc1
    clear hgd hc0
    have hnRi:(n:Int)<(R.length:Int):=by omega
    by_cases hB:sw=(n:Int)
    ·have HE0:Hid (ckE R h n d sw lf s l=if vrS (R.getD n 0) lf s l (d:Int) h=true then 0 else 7):=hQ9 (by unfold ckE;rw [if_neg hA,if_pos hB])
     generalize R.getD n 0=r at *
     have e2:(sw != (n:Int))=false:=by simp [hB]
     obtain⟨vb,hvb⟩:∃ v,vrS r lf s l (d:Int) h=v:=⟨_,rfl⟩
     rw [hvb]at CV CVV HE0
     clear hvb CVV hB
     cases vb
     ·have HE:Hid (ckE R h n d sw lf s l=7):=hQ9 (by rw [HE0.out,if_neg (by simp)])
      clear HE0
      refine zh (zc w5) (by kernel_rfl) (by kernel_rfl) ?_
      repeat (first
       | (go_big_quiet_want;refine zo 67 (.tmp 45) rfl q2 2 rfl (sgC sw lf s (.slice A l.length c)).toList _ qm.out hus rfl HSG.out ?_;simp only [Act.put,List.setIfInBounds_toArray,List.set_cons_succ,List.set_cons_zero,Array.toArray_toList];go_big_quiet_on)
       | (go_big_quiet_step ((go_at_call 151;exact callG (CV.out _)))))
      refine wpQuiet_nil ?_
      rintro w8 ⟨⟨w8',g8⟩,rfl⟩
      have G8:=ze G5 g8
      go_wp2_with fail
      go_ret
      exact⟨by rw [HE.out];rfl,G8⟩
     ·have HE:Hid (ckE R h n d sw lf s l=0):=hQ9 (by rw [HE0.out,if_pos rfl])
      clear HE0
      refine zh (zc w5) (by kernel_rfl) (by kernel_rfl) ?_
      repeat (first
       | (go_big_quiet_want;refine zo 67 (.tmp 45) rfl q2 2 rfl (sgC sw lf s (.slice A l.length c)).toList _ qm.out hus rfl HSG.out ?_;simp only [Act.put,List.setIfInBounds_toArray,List.set_cons_succ,List.set_cons_zero,Array.toArray_toList];go_big_quiet_on)
       | (go_big_quiet_step ((go_at_call 151;exact callG (CV.out _)))))
      refine wpQuiet_nil ?_
      rintro w8 ⟨⟨w8',g8⟩,rfl⟩
      have G8:=ze G5 g8
      go_wp2_with fail
      go_roundw
      case rel=>exact .inr ⟨by go_num,HE.out,G8⟩
      case measure=>simp [intOf]
    ·have HE:Hid (ckE R h n d sw lf s l=7):=hQ9 (by unfold ckE;rw [if_neg hA,if_neg hB])
     generalize R.getD n 0=r at *
     have e2:(sw != (n:Int))=true:=by simp [hB]
     clear hB
     refine zh (zc w5) (by kernel_rfl) (by kernel_rfl) ?_
     repeat (first
      | (go_big_quiet_want;refine zo 67 (.tmp 45) rfl q2 2 rfl (sgC sw lf s (.slice A l.length c)).toList _ qm.out hus rfl HSG.out ?_;simp only [Act.put,List.setIfInBounds_toArray,List.set_cons_succ,List.set_cons_zero,Array.toArray_toList];go_big_quiet_on)
      | (go_big_quiet_step ((go_at_call 151;exact callG (CV.out _)))))
     refine wpQuiet_nil ?_
     rintro w8 ⟨⟨w8',g8⟩,rfl⟩
     have G8:=ze G5 g8
     go_wp2_with fail
     go_ret
     exact⟨by rw [HE.out];rfl,G8⟩
  ·go_wp2_with fail
   go_ret
   exact⟨by rw [hE];rfl,G⟩
theorem zdv (vw:Int) (cm:Nat) (who sw lf:Int) (s:Nat→Nat) (A:Option Addr) (n c:Nat):Array.foldl (fun(cs:Array Value) (x:Value × Nat)=>cs.setIfInBounds x.snd x.fst) (#[.int .i64 0,.int .u64 0,.int .i64 0,.int .i64 0,.int .i64 0,.int .u64 0,.int .u64 0,.int .u64 0,.int .u64 0,.int .u64 0,.int .u64 0,.int .u64 0,.int .u64 0,.int .u64 0,.int .u64 0,.int .u64 0,.int .u64 0,.int .u64 0,.int .u64 0,.int .u64 0,.int .u64 0,.int .u64 0,.int .u64 0,.slice none 0 0]) (voC vw cm who sw lf s (.slice A n c)).zipIdx 0 24=voC vw cm who sw lf s (.slice A n c):=by kernel_rfl
noncomputable def vvE (f:Int) (R:List Nat) (h:Int) (vw:Int) (cm:Nat) (who sw lf:Int) (s:Nat→Nat) (l:List Nat):Int :=
 if who<0 then 1 else if 3*f+1≤who then 1 else if vwB vw=true then ckE R h who.toNat (voD vw cm) sw lf s l else 1
theorem ze2 (f:Int) (hf:1≤f∧f≤3) (R:List Nat) (RA:Option Addr) (Rc:Nat) (h:Int) (vw:Int) (cm:Nat) (who sw lf:Int) (s:Nat→Nat) (A:Option Addr) (c:Nat) (l:List Nat) (hc:cm<18446744073709551616) (hw:in64 who) (hv:in64 vw) (hsw:in64 sw) (hlf:in64 lf) (hl:l.length≤1000) (hs:∀ k,k<18→s k<18446744073709551616) (hb:∀ x∈l,x<18446744073709551616)
 (hRl:R.length≤1000) (hRb:∀ x∈R,x<18446744073709551616) (w:World) (hS:Std w) (hrR:Rd w w.heap.size RA (u64L R)) (hrl:Rd w w.heap.size A (u64L l)) :
 Calls Tryz.prog 27 #[.agg (kyS f RA R.length Rc h),.agg (voC vw cm who sw lf s (.slice A l.length c))] w fun e w'=>e=.returned (.int .i64 (vvE f R h vw cm who sw lf s l))∧Grew w w':=by
 have hut:=Tryz.underlying69
 have huf:=Tryz.underlying46
 have HST:Hid ((Tryz.prog.info? 69).map (·.size)=some (voC vw cm who sw lf s (.slice A l.length c)).toList.length):=hQ9 zH
 have HCF:Hid ((Tryz.prog.info? 46).map (·.size)=some [Value.int .i64 f].length):=hQ9 (by kernel_rfl)
 have CN:=hQ9 (fun W=>qn_ok f hf W)
 have CT:=hQ9 (fun W=>zgh vw W)
 have zk:=(Ag.new w 49 (kyS f RA R.length Rc h)).grew (zg (zc _) (.cells (voC vw cm who sw lf s (.slice A l.length c)) 69))
 have zs:Ag ((w.alloc (.cells (kyS f RA R.length Rc h) 49)).alloc (.cells (voC vw cm who sw lf s (.slice A l.length c)) 69)) (w.heap.size+1) (voC vw cm who sw lf s (.slice A l.length c)).toList:=by
  have:=Ag.new (w.alloc (.cells (kyS f RA R.length Rc h) 49)) 69 (voC vw cm who sw lf s (.slice A l.length c))
  simpa using this
 have G1:=zg (zg (zc w) (.cells (kyS f RA R.length Rc h) 49)) (.cells (voC vw cm who sw lf s (.slice A l.length c)) 69)
 have HS:=hQ9 hS
 have HR:=hQ9 hrR
 have HL:=hQ9 hrl
 have HRb:=hQ9 hRb
 have HB:=hQ9 hb
 have HSS:=hQ9 hs
 have h3f:(4:Int)≤3*f+1∧3*f+1≤10:=by omega
 have HF:=hQ9 hf
 clear hS hrR hrl hRb hb hs hf
 go_enter Tryz.func27,Tryz.ntmps27
 go_wp2_with fail
 generalize (w.alloc (.cells (kyS f RA R.length Rc h) 49)).alloc (.cells (voC vw cm who sw lf s (.slice A l.length c)) 69)=w1 at *
 have m1:∀ y:Gr w1,y.val.cell? ⟨w.heap.size+1,2,none⟩=some (.int .i64 who):=fun y=>by simpa using (zs.gr y).cell 2 _ rfl
 have m2:∀ y:Gr w1,y.val.cell? ⟨w.heap.size+1,0,none⟩=some (.int .i64 vw):=fun y=>by simpa using (zs.gr y).cell 0 _ rfl
 have qf:Hid (∀ y:Gr w1,y.val.rangeAt w.heap.size 0 [.int .i64 f]):=hQ9 (fun y j v hj=>by
  have hj0:j=0:=by have:=(List.getElem?_eq_some_iff.1 hj).1;simpa using this
  subst hj0
  have h0:v=.int .i64 f:=by simpa using hj.symm
  rw [h0]
  exact(zk.gr y).cell 0 _ rfl)
 obtain⟨nn,hnn⟩:∃ nn,3*f+1=nn:=⟨_,rfl⟩
 rw [hnn]at CN h3f
 have HNN:=hQ9 hnn
 clear hnn
 by_cases hA:who<0
 ·have HE:Hid (vvE f R h vw cm who sw lf s l=1):=hQ9 (by unfold vvE;rw [if_pos hA])
  refine zh (zc w1) (by kernel_rfl) (by kernel_rfl) ?_
  repeat (first
   | (go_big_quiet_want;refine zo 46 (.tmp 11) rfl w.heap.size 0 rfl [.int .i64 f] _ qf.out huf rfl HCF.out ?_;simp only [Act.put,List.setIfInBounds_toArray,List.set_cons_succ,List.set_cons_zero,Array.toArray_toList];go_big_quiet_on)
   | (go_big_quiet_step (first
    | (go_at_call 61;exact callG (CN.out _))
    | (go_at_call 72;exact callS (CT.out _)))))
  refine wpQuiet_nil ?_
  rintro w8 ⟨⟨w8',g8⟩,rfl⟩
  have G8:=ze G1 g8
  go_wp2_with fail
  go_ret
  exact⟨by rw [HE.out];rfl,G8⟩
 by_cases hB:nn≤who
 ·have HE:Hid (vvE f R h vw cm who sw lf s l=1):=hQ9 (by unfold vvE;rw [if_neg hA,HNN.out,if_pos hB])
  refine zh (zc w1) (by kernel_rfl) (by kernel_rfl) ?_
  repeat (first
   | (go_big_quiet_want;refine zo 46 (.tmp 11) rfl w.heap.size 0 rfl [.int .i64 f] _ qf.out huf rfl HCF.out ?_;simp only [Act.put,List.setIfInBounds_toArray,List.set_cons_succ,List.set_cons_zero,Array.toArray_toList];go_big_quiet_on)
   | (go_big_quiet_step (first
    | (go_at_call 61;exact callG (CN.out _))
    | (go_at_call 72;exact callS (CT.out _)))))
  refine wpQuiet_nil ?_
  rintro w8 ⟨⟨w8',g8⟩,rfl⟩
  have G8:=ze G1 g8
  go_wp2_with fail
  go_ret
  exact⟨by rw [HE.out];rfl,G8⟩
 have HE0:Hid (vvE f R h vw cm who sw lf s l=if vwB vw=true then ckE R h who.toNat (voD vw cm) sw lf s l else 1):=hQ9 (by unfold vvE;rw [if_neg hA,HNN.out,if_neg hB])
 generalize vwB vw=tb at *
 cases tb
 ·have HE:Hid (vvE f R h vw cm who sw lf s l=1):=hQ9 (by rw [HE0.out,if_neg (by simp)])
  clear HE0
  refine zh (zc w1) (by kernel_rfl) (by kernel_rfl) ?_
  repeat (first
   | (go_big_quiet_want;refine zo 46 (.tmp 11) rfl w.heap.size 0 rfl [.int .i64 f] _ qf.out huf rfl HCF.out ?_;simp only [Act.put,List.setIfInBounds_toArray,List.set_cons_succ,List.set_cons_zero,Array.toArray_toList];go_big_quiet_on)
   | (go_big_quiet_step (first
    | (go_at_call 61;exact callG (CN.out _))
    | (go_at_call 72;exact callS (CT.out _)))))
  refine wpQuiet_nil ?_
  rintro w8 ⟨⟨w8',g8⟩,rfl⟩
  have G8:=ze G1 g8
  go_wp2_with fail
  go_ret
  exact⟨by rw [HE.out];rfl,G8⟩
 have HE:Hid (vvE f R h vw cm who sw lf s l=ckE R h who.toNat (voD vw cm) sw lf s l):=hQ9 (by rw [HE0.out,if_pos rfl])
 clear HE0
 obtain⟨n,rfl⟩:=Int.eq_ofNat_of_zero_le (show 0≤who by omega)
 rw [Int.toNat_natCast]at HE
 refine zh (zc w1) (by kernel_rfl) (by kernel_rfl) ?_
 repeat (first
  | (go_big_quiet_want;refine zo 46 (.tmp 11) rfl w.heap.size 0 rfl [.int .i64 f] _ qf.out huf rfl HCF.out ?_;simp only [Act.put,List.setIfInBounds_toArray,List.set_cons_succ,List.set_cons_zero,Array.toArray_toList];go_big_quiet_on)
  | (go_big_quiet_step (first
   | (go_at_call 61;exact callG (CN.out _))
   | (go_at_call 72;exact callS (CT.out _)))))
 refine wpQuiet_nil ?_
 rintro w8 ⟨⟨w8',g8⟩,rfl⟩
 have G8:=ze G1 g8
 have zk8:=zk.grew g8
 have zs8:=zs.grew g8
 have hk1:w8.cell? ⟨w.heap.size,1,none⟩=some (.slice RA R.length Rc):=by simpa using zk8.cell 1 _ rfl
 have hk2:w8.cell? ⟨w.heap.size,2,none⟩=some (.int .i64 h):=by simpa using zk8.cell 2 _ rfl
 have hm:=zs8.cell
 have hsz:(voC vw cm (n:Int) sw lf s (.slice A l.length c)).size=24:=rfl
 clear m1 m2 qf
 go_wp2_with(with_reducible refine wpList_load_mid rfl 69 (.tmp 3) rfl (w.heap.size+1) 0 rfl (voC vw cm (n:Int) sw lf s (.slice A l.length c)).toList _ hm hut rfl HST.out ?_;simp only [Array.toArray_toList])
 rw [zdv]
 have GA:=zg (zc w8) (.cells (voC vw cm (n:Int) sw lf s (.slice A l.length c)) 69)
 have zq:=Ag.new w8 69 (voC vw cm (n:Int) sw lf s (.slice A l.length c))
 have G9:=ze G8 GA
 refine(ze1 R RA Rc h vw cm n sw lf s A c l hc hw hv hsw hlf hl HSS.out HB.out hRl HRb.out w8.heap.size _ (HS.out.grew G9) (HR.out.gr G9) (HL.out.gr G9) zq.cell zq.lt).mono ?_
 rintro e w9 ⟨rfl,gg⟩
 go_wp2_with fail
 go_ret
 exact⟨by rw [HE.out];rfl,ze G9 gg⟩
theorem zkt (who lo hi:Int) (CA:Option Addr) (ck:Nat) (sw lf:Int) (s:Nat→Nat) (A:Option Addr) (n c:Nat):Array.foldl (fun(cs:Array Value) (x:Value × Nat)=>cs.setIfInBounds x.snd x.fst) (#[.int .i64 0,.int .i64 0,.int .i64 0,.slice none 0 0,.int .i64 0,.int .i64 0,.int .u64 0,.int .u64 0,.int .u64 0,.int .u64 0,.int .u64 0,.int .u64 0,.int .u64 0,.int .u64 0,.int .u64 0,.int .u64 0,.int .u64 0,.int .u64 0,.int .u64 0,.int .u64 0,.int .u64 0,.int .u64 0,.int .u64 0,.int .u64 0,.slice none 0 0]) (rpC who lo hi (.slice CA 0 ck) sw lf s (.slice A n c)).zipIdx 0 25=rpC who lo hi (.slice CA 0 ck) sw lf s (.slice A n c):=by kernel_rfl
theorem zc4 (f:Int) (hf:1≤f∧f≤3) (R:List Nat) (RA:Option Addr) (Rc:Nat) (h:Int) (vw:Int) (cm:Nat) (who sw lf:Int) (s:Nat→Nat) (A:Option Addr) (c:Nat) (l:List Nat) (hc:cm<18446744073709551616) (hw:in64 who) (hv:in64 vw) (hsw:in64 sw) (hlf:in64 lf) (hl:l.length≤1000) (hs:∀ k,k<18→s k<18446744073709551616) (hb:∀ x∈l,x<18446744073709551616)
 (hRl:R.length≤1000) (w:World) (hrR:Rd w w.heap.size RA (u64L R)) (hrl:Rd w w.heap.size A (u64L l)) :
 Calls Tryz.prog 29 #[.agg (kyS f RA R.length Rc h),.agg (voC vw cm who sw lf s (.slice A l.length c))] w fun e w'=>e=.returned (.int .i64 (vvE f R h vw cm who sw lf s l))∧Grew w w':=by
 have huk:=Tryz.underlying24
 have hug:=Tryz.underlying73
 have HSK:Hid ((Tryz.prog.info? 24).map (·.size)=some (kyS f RA R.length Rc h).toList.length):=hQ9 jp
 have HSG:Hid ((Tryz.prog.info? 73).map (·.size)=some (sgC sw lf s (.slice A l.length c)).toList.length):=hQ9 y4
 have z1:=(Ag.new w 24 (kyS f RA R.length Rc h)).grew (zg (zc _) (.cells (voC vw cm who sw lf s (.slice A l.length c)) 75))
 have z2:=Ag.new (w.alloc (.cells (kyS f RA R.length Rc h) 24)) 75 (voC vw cm who sw lf s (.slice A l.length c))
 rw [zl]at z2
 have G0:=zg (zg (zc w) (.cells (kyS f RA R.length Rc h) 24)) (.cells (voC vw cm who sw lf s (.slice A l.length c)) 75)
 have b1:((w.alloc (.cells (kyS f RA R.length Rc h) 24)).alloc (.cells (voC vw cm who sw lf s (.slice A l.length c)) 75)).cell? ⟨w.heap.size+1,2,none⟩=some (.int .i64 who):=by simpa using z2.cell 2 _ rfl
 have hm:=z1.cell
 have CW:=hQ9 (fun W=>zdt f hf RA R.length Rc h who W)
 have HRR:=hQ9 hrR
 have HLL:=hQ9 hrl
 clear hrR hrl
 by_cases hA:0≤who∧who<3*f+1
 case neg =>
  have HE:Hid (vvE f R h vw cm who sw lf s l=1):=hQ9 (by
   unfold vvE
   by_cases h0:who<0
   ·rw [if_pos h0]
   ·rw [if_neg h0,if_pos (by omega)])
  rw [show whB f who=false from decide_eq_false hA]at CW
  clear hs hb hA
  go_enter Tryz.func29,Tryz.ntmps29
  go_wp2_with(first
   | (with_reducible refine wpList_load_mid rfl 24 (.tmp 2) rfl w.heap.size 0 rfl (kyS f RA R.length Rc h).toList _ hm huk rfl HSK.out ?_;simp only [Array.toArray_toList]))
  refine(CW.out _).mono ?_
  rintro e w2 ⟨rfl,gg⟩
  have G2:=ze G0 gg
  have y1:=z1.grew gg
  have y2:=z2.grew gg
  have c2:w2.cell? ⟨w.heap.size+1,0,none⟩=some (.int .i64 vw):=by simpa using y2.cell 0 _ rfl
  clear hm z1 z2 gg CW G0
  go_wp2_with fail
  go_ret
  exact⟨by rw [HE.out];rfl,G2⟩
 rw [show whB f who=true from decide_eq_true hA]at CW
 have HV:Hid (vvE f R h vw cm who sw lf s l=if vwB vw=true then ckE R h who.toNat (voD vw cm) sw lf s l else 1):=hQ9 (by unfold vvE;rw [if_neg (by omega),if_neg (by omega)])
 by_cases hT:1≤vw∧vw≤1048576
 case neg =>
  have HE:Hid (vvE f R h vw cm who sw lf s l=1):=hQ9 (by rw [HV.out,show vwB vw=false from decide_eq_false hT];rfl)
  clear HV hs hb hA
  rcases(show vw<1∨(¬vw<1∧1048576<vw) by omega)with t | ⟨t,t'⟩
  ·have t0:decide (vw<1)=true:=decide_eq_true t
   clear hT t
   go_enter Tryz.func29,Tryz.ntmps29
   go_wp2_with(first
    | (with_reducible refine wpList_load_mid rfl 24 (.tmp 2) rfl w.heap.size 0 rfl (kyS f RA R.length Rc h).toList _ hm huk rfl HSK.out ?_;simp only [Array.toArray_toList]))
   refine(CW.out _).mono ?_
   rintro e w2 ⟨rfl,gg⟩
   have G2:=ze G0 gg
   have y1:=z1.grew gg
   have y2:=z2.grew gg
   have c2:w2.cell? ⟨w.heap.size+1,0,none⟩=some (.int .i64 vw):=by simpa using y2.cell 0 _ rfl
   clear hm z1 z2 gg CW G0
   go_wp2_with fail
   go_ret
   exact⟨by rw [HE.out];rfl,G2⟩
  ·have t0:decide (vw<1)=false:=decide_eq_false t
   have t1:decide (1048576<vw)=true:=decide_eq_true t'
   clear hT t t'
   go_enter Tryz.func29,Tryz.ntmps29
   go_wp2_with(first
    | (with_reducible refine wpList_load_mid rfl 24 (.tmp 2) rfl w.heap.size 0 rfl (kyS f RA R.length Rc h).toList _ hm huk rfl HSK.out ?_;simp only [Array.toArray_toList]))
   refine(CW.out _).mono ?_
   rintro e w2 ⟨rfl,gg⟩
   have G2:=ze G0 gg
   have y1:=z1.grew gg
   have y2:=z2.grew gg
   have c2:w2.cell? ⟨w.heap.size+1,0,none⟩=some (.int .i64 vw):=by simpa using y2.cell 0 _ rfl
   clear hm z1 z2 gg CW G0
   go_wp2_with fail
   go_ret
   exact⟨by rw [HE.out];rfl,G2⟩
 obtain⟨n,rfl⟩:=Int.eq_ofNat_of_zero_le hA.1
 have HE:Hid (vvE f R h vw cm (n:Int) sw lf s l=ckE R h n (voD vw cm) sw lf s l):=hQ9 (by rw [HV.out,show vwB vw=true from decide_eq_true hT];simp)
 have CS:=hQ9 (fun W h1 h2=>qQ f R RA Rc h n (voD vw cm) sw lf s A c l (by omega) hlf hl hs hb (qP _ _) hRl W h1 h2)
 have CD:=hQ9 (fun W=>zb8 vw cm hc hv W)
 have t0:decide (vw<1)=false:=decide_eq_false (by omega)
 have t1:decide (1048576<vw)=false:=decide_eq_false (by omega)
 have H07:=hQ9 (zgm R h n (voD vw cm) sw lf s l)
 clear HV hs hb hA hT
 generalize voD vw cm=d at *
 generalize ckE R h n d sw lf s l=ck at *
 obtain⟨bk,hbk⟩:∃ b,decide (ck=0)=b:=⟨_,rfl⟩
 rw [hbk]at CS
 have HBK:=hQ9 hbk
 clear hbk
 go_enter Tryz.func29,Tryz.ntmps29
 go_wp2_with(first
  | (with_reducible refine wpList_load_mid rfl 24 (.tmp 2) rfl w.heap.size 0 rfl (kyS f RA R.length Rc h).toList _ hm huk rfl HSK.out ?_;simp only [Array.toArray_toList]))
 refine(CW.out _).mono ?_
 rintro e w2 ⟨rfl,gg⟩
 have G2:=ze G0 gg
 have y1:=z1.grew gg
 have y2:=z2.grew gg
 have c2:w2.cell? ⟨w.heap.size+1,0,none⟩=some (.int .i64 vw):=by simpa using y2.cell 0 _ rfl
 clear hm z1 z2 gg CW G0
 have M1:Hid (∀ y:Gr w2,y.val.rangeAt w.heap.size 0 (kyS f RA R.length Rc h).toList):=hQ9 (fun y=>(y1.gr y).cell)
 have M2:Hid (∀ y:Gr w2,y.val.rangeAt (w.heap.size+1) 3 (sgC sw lf s (.slice A l.length c)).toList):=hQ9 (fun y=>xA (y2.gr y).cell)
 have RR:Hid (∀ y:Gr w2,Rd y.val y.val.heap.size RA (u64L R)):=hQ9 (fun y=>(HRR.out.gr G2).gr y.ok)
 have RL:Hid (∀ y:Gr w2,Rd y.val y.val.heap.size A (u64L l)):=hQ9 (fun y=>(HLL.out.gr G2).gr y.ok)
 have q0:∀ y:Gr w2,y.val.cell? ⟨w.heap.size+1,1,none⟩=some (.int .u64 (cm:Nat)):=fun y=>by simpa using (y2.gr y).cell 1 _ rfl
 have q1:∀ y:Gr w2,y.val.cell? ⟨w.heap.size+1,2,none⟩=some (.int .i64 (n:Int)):=fun y=>by simpa using (y2.gr y).cell 2 _ rfl
 have q2:∀ y:Gr w2,y.val.cell? ⟨w.heap.size+1,0,none⟩=some (.int .i64 vw):=fun y=>by simpa using (y2.gr y).cell 0 _ rfl
 clear y1 y2 HRR HLL
 go_wp2_with fail
 clear c2
 refine zh (zc w2) (by kernel_rfl) (by kernel_rfl) ?_
 repeat (first
  | (go_big_quiet_want;refine zo 24 (.tmp 2) rfl w.heap.size 0 rfl (kyS f RA R.length Rc h).toList _ M1.out huk rfl HSK.out ?_;simp only [Act.put,List.setIfInBounds_toArray,List.set_cons_succ,List.set_cons_zero,Array.toArray_toList];go_big_quiet_on)
  | (go_big_quiet_want;refine zo 73 (.tmp 23) rfl (w.heap.size+1) 3 rfl (sgC sw lf s (.slice A l.length c)).toList _ M2.out hug rfl HSG.out ?_;simp only [Act.put,List.setIfInBounds_toArray,List.set_cons_succ,List.set_cons_zero,Array.toArray_toList];go_big_quiet_on)
  | (go_big_quiet_step (first
   | (go_at_call 36;exact callG (CD.out _))
   | (go_at_call 99;exact callG (CS.out _ (RR.out _) (RL.out _))))))
 refine wpQuiet_nil ?_
 rintro w8 ⟨⟨w8',g8⟩,rfl⟩
 cases bk
 ·have HK:Hid (ck=7):=hQ9 (by
   rcases H07.out with hk | hk
   ·have:=HBK.out;simp [hk]at this
   ·exact hk)
  clear HBK
  go_wp2_with fail
  go_ret
  exact⟨by rw [HE.out,HK.out];rfl,ze G2 g8⟩
 ·have HK:Hid (ck=0):=hQ9 (of_decide_eq_true HBK.out)
  clear HBK
  go_wp2_with fail
  go_ret
  exact⟨by rw [HE.out,HK.out];rfl,ze G2 g8⟩
structure VP where
 vw:Int
 cm:Nat
 who:Int
 sw:Int
 lf:Int
 s:Nat→Nat
 A:Option Addr
 c:Nat
 l:List Nat
def VP.C (S:VP):Array Value:=voC S.vw S.cm S.who S.sw S.lf S.s (.slice S.A S.l.length S.c)
structure VP.ok (S:VP):Prop where
 vw:in64 S.vw
 cm:S.cm<18446744073709551616
 who:in64 S.who
 sw:in64 S.sw
 lf:in64 S.lf
 s:∀ k,k<18→S.s k<18446744073709551616
 len:S.l.length≤1000
 l:∀ x∈S.l,x<18446744073709551616
def VP.at (S:VP) (w:World):Prop:=Rd w w.heap.size S.A (u64L S.l)
theorem VP.at.gr {S:VP} {w w':World} (h:S.at w) (g:Grew w w'):S.at w':=Rd.gr h g
def vpL (L:List VP):List (List Value):=L.map fun S=>S.C.toList
theorem vpL_z (L:List VP):∀ l∈vpL L,l.length=24:=fun l hl=>by
 obtain⟨S,_,rfl⟩:=List.mem_map.1 hl
 rfl
theorem zaf (L:List VP):(vpL L).length=L.length:=by simp [vpL]
theorem ze3 (L M:List VP):vpL (L++M)=vpL L++vpL M:=by simp [vpL]
theorem zim (L:List VP) (n:Nat):vpL (L.take n)=(vpL L).take n:=by simp [vpL]
theorem VP.one (S:VP):S.C.all (·.oneCell')=true:=km _ _ _ _ _ _ _ _ _
theorem VP.one' (S:VP):∀ u∈S.C.toList,u.oneCell'=true:=fun u hu=>by
 have:=S.one
 rw [Array.all_eq_true]at this
 obtain⟨i,hi,rfl⟩:=List.getElem_of_mem hu
 simpa using this i (by simpa using hi)
structure Vps (w:World) (A:Option Addr) (L:List VP):Prop where
 rd:RdC w A 24 (vpL L)
 ok:∀ S∈L,S.ok
 at_:∀ S∈L,S.at w
theorem Vps.gr {w w':World} {A:Option Addr} {L:List VP} (h:Vps w A L) (g:Grew w w'):Vps w' A L:=⟨h.rd.gr g,h.ok,fun S hS=>(h.at_ S hS).gr g⟩
theorem Vps.take {w:World} {A:Option Addr} {L:List VP} (h:Vps w A L) (n:Nat):Vps w A (L.take n) :=
 ⟨by rw [zim];exact h.rd.take n,fun S hS=>h.ok S (List.mem_of_mem_take hS),fun S hS=>h.at_ S (List.mem_of_mem_take hS)⟩
theorem Vps.get {w:World} {A:Option Addr} {L:List VP} (h:Vps w A L) (k:Nat) (hk:k<L.length):∃ q,A=some ⟨q,0,none⟩∧q<w.heap.size∧w.rangeAt q (k*24) L[k].C.toList:=by
 obtain⟨q,e,hq,hr⟩:=h.rd k (by rw [zaf];exact hk)
 exact⟨q,e,hq,by simpa [vpL]using hr⟩
structure AgV (w:World) (B:Nat) (vw:Int) (cm:Nat) (who sw lf:Int) (s:Nat→Nat) (l:List Nat) (v:Value):Prop where
 out:∃ A c,v=.agg (voC vw cm who sw lf s (.slice A l.length c))∧Rd w w.heap.size A (u64L l)∧(∀ ad,A=some ad→B≤ad.block)
theorem AgV.gr {w w':World} {B:Nat} {vw:Int} {cm:Nat} {who sw lf:Int} {s:Nat→Nat} {l:List Nat} {v:Value} (h:AgV w B vw cm who sw lf s l v) (g:Grew w w'):AgV w' B vw cm who sw lf s l v:=by
 obtain⟨A,c,h1,h2,h3⟩:=h.out
 exact⟨A,c,h1,h2.gr g,h3⟩
theorem yS:(Tryz.prog.info? 75).map (·.size)=some 24:=by kernel_rfl
theorem zgq (vw:Int) (cm:Nat) (who sw lf:Int) (s:Nat→Nat) (A:Option Addr) (n c:Nat):Tryz.prog.built 69 [(0,.int .i64 vw),(1,.int .u64 (cm:Nat)),(2,.int .i64 who),(3,.agg (sgC sw lf s (.slice A n c)))]=some (voC vw cm who sw lf s (.slice A n c)):=by kernel_rfl
theorem ze4 (vw:Int) (cm:Nat) (who sw lf:Int) (s:Nat→Nat) (A:Option Addr) (n c:Nat):Tryz.prog.built 75 [(0,.int .i64 vw),(1,.int .u64 (cm:Nat)),(2,.int .i64 who),(3,.agg (sgC sw lf s (.slice A n c)))]=some (voC vw cm who sw lf s (.slice A n c)):=by kernel_rfl
theorem zku (vw:Int) (cm:Nat) (who sw lf:Int) (s:Nat→Nat) (A:Option Addr) (c:Nat) (l:List Nat) (hl:l.length≤1048576) (w:World) (hr:Rd w w.heap.size A (u64L l)) :
 Calls Tryz.prog 106 #[.agg (voC vw cm who sw lf s (.slice A l.length c))] w fun e w'=>∃ A' c',e=.returned (.agg (voC vw cm who sw lf s (.slice A' l.length c')))∧Rd w' w'.heap.size A' (u64L l)∧Grew w w'∧(∀ ad,A'=some ad→w.heap.size≤ad.block):=by
 have z0:=Ag.new w 69 (voC vw cm who sw lf s (.slice A l.length c))
 have G0:=zg (zc w) (.cells (voC vw cm who sw lf s (.slice A l.length c)) 69)
 have hus:=Tryz.underlying67
 have hur:=Tryz.underlying75
 have CO:=hQ9 (fun W hR=>kof_fr sw lf s A c l hl W hR)
 have HSL:Hid ((Tryz.prog.info? 67).map (·.size)=some (sgC sw lf s (.slice A l.length c)).toList.length):=hQ9 zL
 go_enter Tryz.func106,Tryz.ntmps106
 go_wp2_with fail
 have z2:Ag ((w.alloc (.cells (voC vw cm who sw lf s (.slice A l.length c)) 69)).alloc (.cells (#[.int .i64 0,.int .u64 0,.int .i64 0,.int .i64 0,.int .i64 0,.int .u64 0,.int .u64 0,.int .u64 0,.int .u64 0,.int .u64 0,.int .u64 0,.int .u64 0,.int .u64 0,.int .u64 0,.int .u64 0,.int .u64 0,.int .u64 0,.int .u64 0,.int .u64 0,.int .u64 0,.int .u64 0,.int .u64 0,.int .u64 0,.slice none 0 0]) 75)) (w.heap.size+1) (#[.int .i64 0,.int .u64 0,.int .i64 0,.int .i64 0,.int .i64 0,.int .u64 0,.int .u64 0,.int .u64 0,.int .u64 0,.int .u64 0,.int .u64 0,.int .u64 0,.int .u64 0,.int .u64 0,.int .u64 0,.int .u64 0,.int .u64 0,.int .u64 0,.int .u64 0,.int .u64 0,.int .u64 0,.int .u64 0,.int .u64 0,.slice none 0 0]:Array Value).toList:=by
  have:=Ag.new (w.alloc (.cells (voC vw cm who sw lf s (.slice A l.length c)) 69)) 75 (#[.int .i64 0,.int .u64 0,.int .i64 0,.int .i64 0,.int .i64 0,.int .u64 0,.int .u64 0,.int .u64 0,.int .u64 0,.int .u64 0,.int .u64 0,.int .u64 0,.int .u64 0,.int .u64 0,.int .u64 0,.int .u64 0,.int .u64 0,.int .u64 0,.int .u64 0,.int .u64 0,.int .u64 0,.int .u64 0,.int .u64 0,.slice none 0 0])
  simpa using this
 have z1:=z0.grew (zg (zc _) (.cells (#[.int .i64 0,.int .u64 0,.int .i64 0,.int .i64 0,.int .i64 0,.int .u64 0,.int .u64 0,.int .u64 0,.int .u64 0,.int .u64 0,.int .u64 0,.int .u64 0,.int .u64 0,.int .u64 0,.int .u64 0,.int .u64 0,.int .u64 0,.int .u64 0,.int .u64 0,.int .u64 0,.int .u64 0,.int .u64 0,.int .u64 0,.slice none 0 0]) 75))
 have G2:=zg G0 (.cells (#[.int .i64 0,.int .u64 0,.int .i64 0,.int .i64 0,.int .i64 0,.int .u64 0,.int .u64 0,.int .u64 0,.int .u64 0,.int .u64 0,.int .u64 0,.int .u64 0,.int .u64 0,.int .u64 0,.int .u64 0,.int .u64 0,.int .u64 0,.int .u64 0,.int .u64 0,.int .u64 0,.int .u64 0,.int .u64 0,.int .u64 0,.slice none 0 0]) 75)
 clear z0 G0
 generalize (w.alloc (.cells (voC vw cm who sw lf s (.slice A l.length c)) 69)).alloc (.cells (#[.int .i64 0,.int .u64 0,.int .i64 0,.int .i64 0,.int .i64 0,.int .u64 0,.int .u64 0,.int .u64 0,.int .u64 0,.int .u64 0,.int .u64 0,.int .u64 0,.int .u64 0,.int .u64 0,.int .u64 0,.int .u64 0,.int .u64 0,.int .u64 0,.int .u64 0,.int .u64 0,.int .u64 0,.int .u64 0,.int .u64 0,.slice none 0 0]) 75)=w2 at *
 have HC0:Hid (∀ y,Grew w2 y→y.cell? ⟨w.heap.size,0,none⟩=some (.int .i64 vw)):=hQ9 (fun y g=>by simpa using (z1.grew g).cell 0 _ rfl)
 have HC1:Hid (∀ y,Grew w2 y→y.cell? ⟨w.heap.size,1,none⟩=some (.int .u64 (cm:Nat))):=hQ9 (fun y g=>by simpa using (z1.grew g).cell 1 _ rfl)
 have HC2:Hid (∀ y,Grew w2 y→y.cell? ⟨w.heap.size,2,none⟩=some (.int .i64 who)):=hQ9 (fun y g=>by simpa using (z1.grew g).cell 2 _ rfl)
 have HCM:Hid (∀ y,Grew w2 y→y.rangeAt w.heap.size 3 (sgC sw lf s (.slice A l.length c)).toList):=hQ9 (fun y g=>xA (z1.grew g).cell)
 have r2:=hr.gr G2
 have HRY:=hQ9 (fun y (g:Grew w2 y)=>r2.gr g)
 clear z1 hr r2
 generalize sgC sw lf s (.slice A l.length c)=gs at *
 refine zy 10 (fun ix9=>match ix9 with
  | 0=>fun v _=>v=.pointer (some ⟨w.heap.size,0,none⟩)
  | 1=>fun v _=>v=.int .i64 vw
  | 2=>fun v _=>v=.pointer (some ⟨w.heap.size,1,none⟩)
  | 3=>fun v _=>v=.int .u64 (cm:Nat)
  | 4=>fun v _=>v=.pointer (some ⟨w.heap.size,2,none⟩)
  | 5=>fun v _=>v=.int .i64 who
  | 6=>fun v _=>v=.pointer (some ⟨w.heap.size,3,none⟩)
  | 7=>fun v _=>v=.agg gs
  | 8=>fun v w=>AgS w w2.heap.size sw lf s l v
  | 9=>fun v w=>AgV w w2.heap.size vw cm who sw lf s l v
  | _=>fun _ _=>True) (by kernel_rfl) (by kernel_rfl) ?_ ?_ ?_
 ·intro i v x y h hg
  match i,h with
  | 0,h | 1,h | 2,h | 3,h | 4,h | 5,h | 6,h | 7,h=>exact h
  | 8,h=>exact AgS.gr h hg
  | 9,h=>exact AgV.gr h hg
  | m+10,_=>trivial
 ·simp only [actOf,tk1,tk0,dr1,dr0,Act.put,si1,st1,st0,Nat.reduceAdd]
  refine⟨?_,?_,?_,?_,?_,?_,?_,?_,?_,?_,trivial⟩
  ·intro vs y hg hd
   dsimp only
   go_wp2_with fail
   exact⟨rfl,_,rfl,zc _,rfl⟩
  ·intro vs y hg hd
   obtain⟨h0,_⟩:=hd
   replace h0:=h0 rfl
   dsimp only
   rw [show vs 0=_ from h0]
   have hc:=HC0.out y hg
   go_wp2_with fail
   exact⟨rfl,_,rfl,zc _,rfl⟩
  ·intro vs y hg hd
   dsimp only
   go_wp2_with fail
   exact⟨rfl,_,rfl,zc _,rfl⟩
  ·intro vs y hg hd
   obtain⟨h2,_⟩:=hd
   replace h2:=h2 rfl
   dsimp only
   rw [show vs 2=_ from h2]
   have hc:=HC1.out y hg
   go_wp2_with fail
   exact⟨rfl,_,rfl,zc _,rfl⟩
  ·intro vs y hg hd
   dsimp only
   go_wp2_with fail
   exact⟨rfl,_,rfl,zc _,rfl⟩
  ·intro vs y hg hd
   obtain⟨h4,_⟩:=hd
   replace h4:=h4 rfl
   dsimp only
   rw [show vs 4=_ from h4]
   have hc:=HC2.out y hg
   go_wp2_with fail
   exact⟨rfl,_,rfl,zc _,rfl⟩
  ·intro vs y hg hd
   dsimp only
   go_wp2_with fail
   exact⟨rfl,_,rfl,zc _,rfl⟩
  ·intro vs y hg hd
   obtain⟨h6,_⟩:=hd
   replace h6:=h6 rfl
   dsimp only
   rw [show vs 6=_ from h6]
   have hm:=HCM.out y hg
   go_wp2_with(with_reducible refine wpList_load_mid rfl 67 (.tmp 9) rfl w.heap.size 3 rfl gs.toList _ hm hus rfl HSL.out ?_;simp only [Array.toArray_toList])
   exact⟨rfl,_,rfl,zc _,rfl⟩
  ·intro vs y hg hd
   obtain⟨h7,_⟩:=hd
   replace h7:=h7 rfl
   dsimp only
   rw [show vs 7=_ from h7]
   go_wp2_with(go_at_call 157;refine(CO.out y (HRY.out y hg)).mono ?_;rintro e z ⟨A2,c2,rfl,hr2,gz,hb2⟩)
   exact⟨rfl,_,rfl,gz,⟨A2,c2,rfl,hr2,fun ad h=>by have:=hb2 ad h;have:=hg.size;omega⟩⟩
  ·intro vs y hg hd
   obtain⟨h1,h3,h5,h8,_⟩:=hd
   replace h1:=h1 rfl
   replace h3:=h3 rfl
   replace h5:=h5 rfl
   replace h8:=h8 rfl
   dsimp only
   rw [show vs 1=_ from h1,show vs 3=_ from h3,show vs 5=_ from h5]
   obtain⟨A2,c2,hv,hr2,hb2⟩:=AgS.out h8
   rw [hv]
   have HBU:=hQ9 (ze4 vw cm who sw lf s A2 l.length c2)
   go_wp2_with(with_reducible refine zC rfl 75 #[(0,.tmp 4),(1,.tmp 6),(2,.tmp 8),(3,.tmp 11)] rfl (voC vw cm who sw lf s (.slice A2 l.length c2)) ?_ ?_;· simpa [Act.eval,Act.put]using HBU.out)
   exact⟨rfl,_,rfl,zc _,⟨A2,c2,rfl,hr2,hb2⟩⟩
 ·intro vs y hg hJ
  have j0:vs 0=.pointer (some ⟨w.heap.size,0,none⟩):=hJ 0 (by decide)
  have j1:vs 1=.int .i64 vw:=hJ 1 (by decide)
  have j2:vs 2=.pointer (some ⟨w.heap.size,1,none⟩):=hJ 2 (by decide)
  have j3:vs 3=.int .u64 (cm:Nat):=hJ 3 (by decide)
  have j4:vs 4=.pointer (some ⟨w.heap.size,2,none⟩):=hJ 4 (by decide)
  have j5:vs 5=.int .i64 who:=hJ 5 (by decide)
  have j6:vs 6=.pointer (some ⟨w.heap.size,3,none⟩):=hJ 6 (by decide)
  have j7:vs 7=.agg gs:=hJ 7 (by decide)
  have s11:=hJ 8 (by decide)
  have s12:=hJ 9 (by decide)
  clear hJ
  simp only [actOf,tk1,tk0,dr1,dr0,Act.put,si1,st1,st0,Nat.reduceAdd]
  obtain⟨A2,c2,j7,r3,hb3⟩:=AgV.out s12
  rw [j7]
  clear s11 s12 j7
  have hz1:=z2.lt
  have hz2:=G2.size
  have HNE:Hid (∀ ad,A2=some ad→ad.block≠w.heap.size+1):=hQ9 (fun ad h=>by have:=hb3 ad h;omega)
  have HLO:Hid (∀ ad,A2=some ad→w.heap.size≤ad.block):=hQ9 (fun ad h=>by have:=hb3 ad h;omega)
  have z3:=z2.grew hg
  have G3:=ze G2 hg
  clear z2 G2 hg hb3 hz1 hz2
  have HTH:Hid (y.there (w.heap.size+1) 0 (voC vw cm who sw lf s (.slice A2 l.length c2)).size):=hQ9 (z3.thereN 24 rfl)
  have HSI:Hid ((Tryz.prog.info? 75).map (·.size)=some (voC vw cm who sw lf s (.slice A2 l.length c2)).size):=hQ9 yS
  have HON:=hQ9 (km vw cm who sw lf s A2 l.length c2)
  have K3:=zn (voC vw cm who sw lf s (.slice A2 l.length c2)).toList (w.heap.size+1) 0 y
  have r4:=(r3.kp K3 (Nat.le_refl _) (fun ad h1 h2 h3=>HNE.out ad h1 h3)).more K3.size
  have z4:=Ag.set (vs:=(voC vw cm who sw lf s (.slice A2 l.length c2)).toList) z3 rfl
  have G4:=zi (o:=0) (b:=w.heap.size+1) (voC vw cm who sw lf s (.slice A2 l.length c2)).toList G3 (by omega)
  go_wp2_with(with_reducible refine wpList_store_mid rfl 75 (.tmp 2) (.tmp 12) rfl (w.heap.size+1) 0 (voC vw cm who sw lf s (.slice A2 l.length c2)) rfl rfl HTH.out HSI.out HON.out ?_)
  exact bodyPost_ret (zM Tryz.results106 _ _ (w.heap.size+1) _ _ rfl z4 hur rfl yS) rfl ⟨A2,⟨c2,rfl⟩,r4,G4,HLO.out⟩
theorem zkv (vw:Int) (cm:Nat) (who sw lf:Int) (s:Nat→Nat) (A:Option Addr) (c:Nat) (l:List Nat) (hl:l.length≤1048576) (w:World) (hr:Rd w w.heap.size A (u64L l)) :
 Calls Tryz.prog 28 #[.agg (voC vw cm who sw lf s (.slice A l.length c))] w fun e w'=>∃ A' c',e=.returned (.agg (voC vw cm who sw lf s (.slice A' l.length c')))∧Rd w' w'.heap.size A' (u64L l)∧Grew w w'∧(∀ ad,A'=some ad→w.heap.size≤ad.block):=by
 have z0:=Ag.new w 75 (voC vw cm who sw lf s (.slice A l.length c))
 have G0:=zg (zc w) (.cells (voC vw cm who sw lf s (.slice A l.length c)) 75)
 have hus:=Tryz.underlying73
 have hur:=Tryz.underlying69
 have CO:=hQ9 (fun W hR=>zgn sw lf s A c l hl W hR)
 have HSL:Hid ((Tryz.prog.info? 73).map (·.size)=some (sgC sw lf s (.slice A l.length c)).toList.length):=hQ9 y4
 go_enter Tryz.func28,Tryz.ntmps28
 go_wp2_with fail
 have z2:Ag ((w.alloc (.cells (voC vw cm who sw lf s (.slice A l.length c)) 75)).alloc (.cells (#[.int .i64 0,.int .u64 0,.int .i64 0,.int .i64 0,.int .i64 0,.int .u64 0,.int .u64 0,.int .u64 0,.int .u64 0,.int .u64 0,.int .u64 0,.int .u64 0,.int .u64 0,.int .u64 0,.int .u64 0,.int .u64 0,.int .u64 0,.int .u64 0,.int .u64 0,.int .u64 0,.int .u64 0,.int .u64 0,.int .u64 0,.slice none 0 0]) 69)) (w.heap.size+1) (#[.int .i64 0,.int .u64 0,.int .i64 0,.int .i64 0,.int .i64 0,.int .u64 0,.int .u64 0,.int .u64 0,.int .u64 0,.int .u64 0,.int .u64 0,.int .u64 0,.int .u64 0,.int .u64 0,.int .u64 0,.int .u64 0,.int .u64 0,.int .u64 0,.int .u64 0,.int .u64 0,.int .u64 0,.int .u64 0,.int .u64 0,.slice none 0 0]:Array Value).toList:=by
  have:=Ag.new (w.alloc (.cells (voC vw cm who sw lf s (.slice A l.length c)) 75)) 69 (#[.int .i64 0,.int .u64 0,.int .i64 0,.int .i64 0,.int .i64 0,.int .u64 0,.int .u64 0,.int .u64 0,.int .u64 0,.int .u64 0,.int .u64 0,.int .u64 0,.int .u64 0,.int .u64 0,.int .u64 0,.int .u64 0,.int .u64 0,.int .u64 0,.int .u64 0,.int .u64 0,.int .u64 0,.int .u64 0,.int .u64 0,.slice none 0 0])
  simpa using this
 have z1:=z0.grew (zg (zc _) (.cells (#[.int .i64 0,.int .u64 0,.int .i64 0,.int .i64 0,.int .i64 0,.int .u64 0,.int .u64 0,.int .u64 0,.int .u64 0,.int .u64 0,.int .u64 0,.int .u64 0,.int .u64 0,.int .u64 0,.int .u64 0,.int .u64 0,.int .u64 0,.int .u64 0,.int .u64 0,.int .u64 0,.int .u64 0,.int .u64 0,.int .u64 0,.slice none 0 0]) 69))
 have G2:=zg G0 (.cells (#[.int .i64 0,.int .u64 0,.int .i64 0,.int .i64 0,.int .i64 0,.int .u64 0,.int .u64 0,.int .u64 0,.int .u64 0,.int .u64 0,.int .u64 0,.int .u64 0,.int .u64 0,.int .u64 0,.int .u64 0,.int .u64 0,.int .u64 0,.int .u64 0,.int .u64 0,.int .u64 0,.int .u64 0,.int .u64 0,.int .u64 0,.slice none 0 0]) 69)
 clear z0 G0
 generalize (w.alloc (.cells (voC vw cm who sw lf s (.slice A l.length c)) 75)).alloc (.cells (#[.int .i64 0,.int .u64 0,.int .i64 0,.int .i64 0,.int .i64 0,.int .u64 0,.int .u64 0,.int .u64 0,.int .u64 0,.int .u64 0,.int .u64 0,.int .u64 0,.int .u64 0,.int .u64 0,.int .u64 0,.int .u64 0,.int .u64 0,.int .u64 0,.int .u64 0,.int .u64 0,.int .u64 0,.int .u64 0,.int .u64 0,.slice none 0 0]) 69)=w2 at *
 have HC0:Hid (∀ y,Grew w2 y→y.cell? ⟨w.heap.size,0,none⟩=some (.int .i64 vw)):=hQ9 (fun y g=>by simpa using (z1.grew g).cell 0 _ rfl)
 have HC1:Hid (∀ y,Grew w2 y→y.cell? ⟨w.heap.size,1,none⟩=some (.int .u64 (cm:Nat))):=hQ9 (fun y g=>by simpa using (z1.grew g).cell 1 _ rfl)
 have HC2:Hid (∀ y,Grew w2 y→y.cell? ⟨w.heap.size,2,none⟩=some (.int .i64 who)):=hQ9 (fun y g=>by simpa using (z1.grew g).cell 2 _ rfl)
 have HCM:Hid (∀ y,Grew w2 y→y.rangeAt w.heap.size 3 (sgC sw lf s (.slice A l.length c)).toList):=hQ9 (fun y g=>xA (z1.grew g).cell)
 have r2:=hr.gr G2
 have HRY:=hQ9 (fun y (g:Grew w2 y)=>r2.gr g)
 clear z1 hr r2
 generalize sgC sw lf s (.slice A l.length c)=gs at *
 refine zy 10 (fun ix9=>match ix9 with
  | 0=>fun v _=>v=.pointer (some ⟨w.heap.size,0,none⟩)
  | 1=>fun v _=>v=.int .i64 vw
  | 2=>fun v _=>v=.pointer (some ⟨w.heap.size,1,none⟩)
  | 3=>fun v _=>v=.int .u64 (cm:Nat)
  | 4=>fun v _=>v=.pointer (some ⟨w.heap.size,2,none⟩)
  | 5=>fun v _=>v=.int .i64 who
  | 6=>fun v _=>v=.pointer (some ⟨w.heap.size,3,none⟩)
  | 7=>fun v _=>v=.agg gs
  | 8=>fun v w=>AgS w w2.heap.size sw lf s l v
  | 9=>fun v w=>AgV w w2.heap.size vw cm who sw lf s l v
  | _=>fun _ _=>True) (by kernel_rfl) (by kernel_rfl) ?_ ?_ ?_
 ·intro i v x y h hg
  match i,h with
  | 0,h | 1,h | 2,h | 3,h | 4,h | 5,h | 6,h | 7,h=>exact h
  | 8,h=>exact AgS.gr h hg
  | 9,h=>exact AgV.gr h hg
  | m+10,_=>trivial
 ·simp only [actOf,tk1,tk0,dr1,dr0,Act.put,si1,st1,st0,Nat.reduceAdd]
  refine⟨?_,?_,?_,?_,?_,?_,?_,?_,?_,?_,trivial⟩
  ·intro vs y hg hd
   dsimp only
   go_wp2_with fail
   exact⟨rfl,_,rfl,zc _,rfl⟩
  ·intro vs y hg hd
   obtain⟨h0,_⟩:=hd
   replace h0:=h0 rfl
   dsimp only
   rw [show vs 0=_ from h0]
   have hc:=HC0.out y hg
   go_wp2_with fail
   exact⟨rfl,_,rfl,zc _,rfl⟩
  ·intro vs y hg hd
   dsimp only
   go_wp2_with fail
   exact⟨rfl,_,rfl,zc _,rfl⟩
  ·intro vs y hg hd
   obtain⟨h2,_⟩:=hd
   replace h2:=h2 rfl
   dsimp only
   rw [show vs 2=_ from h2]
   have hc:=HC1.out y hg
   go_wp2_with fail
   exact⟨rfl,_,rfl,zc _,rfl⟩
  ·intro vs y hg hd
   dsimp only
   go_wp2_with fail
   exact⟨rfl,_,rfl,zc _,rfl⟩
  ·intro vs y hg hd
   obtain⟨h4,_⟩:=hd
   replace h4:=h4 rfl
   dsimp only
   rw [show vs 4=_ from h4]
   have hc:=HC2.out y hg
   go_wp2_with fail
   exact⟨rfl,_,rfl,zc _,rfl⟩
  ·intro vs y hg hd
   dsimp only
   go_wp2_with fail
   exact⟨rfl,_,rfl,zc _,rfl⟩
  ·intro vs y hg hd
   obtain⟨h6,_⟩:=hd
   replace h6:=h6 rfl
   dsimp only
   rw [show vs 6=_ from h6]
   have hm:=HCM.out y hg
   go_wp2_with(with_reducible refine wpList_load_mid rfl 73 (.tmp 9) rfl w.heap.size 3 rfl gs.toList _ hm hus rfl HSL.out ?_;simp only [Array.toArray_toList])
   exact⟨rfl,_,rfl,zc _,rfl⟩
  ·intro vs y hg hd
   obtain⟨h7,_⟩:=hd
   replace h7:=h7 rfl
   dsimp only
   rw [show vs 7=_ from h7]
   go_wp2_with(go_at_call 97;refine(CO.out y (HRY.out y hg)).mono ?_;rintro e z ⟨A2,c2,rfl,hr2,gz,hb2⟩)
   exact⟨rfl,_,rfl,gz,⟨A2,c2,rfl,hr2,fun ad h=>by have:=hb2 ad h;have:=hg.size;omega⟩⟩
  ·intro vs y hg hd
   obtain⟨h1,h3,h5,h8,_⟩:=hd
   replace h1:=h1 rfl
   replace h3:=h3 rfl
   replace h5:=h5 rfl
   replace h8:=h8 rfl
   dsimp only
   rw [show vs 1=_ from h1,show vs 3=_ from h3,show vs 5=_ from h5]
   obtain⟨A2,c2,hv,hr2,hb2⟩:=AgS.out h8
   rw [hv]
   have HBU:=hQ9 (zgq vw cm who sw lf s A2 l.length c2)
   go_wp2_with(with_reducible refine zC rfl 69 #[(0,.tmp 4),(1,.tmp 6),(2,.tmp 8),(3,.tmp 11)] rfl (voC vw cm who sw lf s (.slice A2 l.length c2)) ?_ ?_;· simpa [Act.eval,Act.put]using HBU.out)
   exact⟨rfl,_,rfl,zc _,⟨A2,c2,rfl,hr2,hb2⟩⟩
 ·intro vs y hg hJ
  have j0:vs 0=.pointer (some ⟨w.heap.size,0,none⟩):=hJ 0 (by decide)
  have j1:vs 1=.int .i64 vw:=hJ 1 (by decide)
  have j2:vs 2=.pointer (some ⟨w.heap.size,1,none⟩):=hJ 2 (by decide)
  have j3:vs 3=.int .u64 (cm:Nat):=hJ 3 (by decide)
  have j4:vs 4=.pointer (some ⟨w.heap.size,2,none⟩):=hJ 4 (by decide)
  have j5:vs 5=.int .i64 who:=hJ 5 (by decide)
  have j6:vs 6=.pointer (some ⟨w.heap.size,3,none⟩):=hJ 6 (by decide)
  have j7:vs 7=.agg gs:=hJ 7 (by decide)
  have s11:=hJ 8 (by decide)
  have s12:=hJ 9 (by decide)
  clear hJ
  simp only [actOf,tk1,tk0,dr1,dr0,Act.put,si1,st1,st0,Nat.reduceAdd]
  obtain⟨A2,c2,j7,r3,hb3⟩:=AgV.out s12
  rw [j7]
  clear s11 s12 j7
  have hz1:=z2.lt
  have hz2:=G2.size
  have HNE:Hid (∀ ad,A2=some ad→ad.block≠w.heap.size+1):=hQ9 (fun ad h=>by have:=hb3 ad h;omega)
  have HLO:Hid (∀ ad,A2=some ad→w.heap.size≤ad.block):=hQ9 (fun ad h=>by have:=hb3 ad h;omega)
  have z3:=z2.grew hg
  have G3:=ze G2 hg
  clear z2 G2 hg hb3 hz1 hz2
  have HTH:Hid (y.there (w.heap.size+1) 0 (voC vw cm who sw lf s (.slice A2 l.length c2)).size):=hQ9 (z3.thereN 24 rfl)
  have HSI:Hid ((Tryz.prog.info? 69).map (·.size)=some (voC vw cm who sw lf s (.slice A2 l.length c2)).size):=hQ9 zH
  have HON:=hQ9 (km vw cm who sw lf s A2 l.length c2)
  have K3:=zn (voC vw cm who sw lf s (.slice A2 l.length c2)).toList (w.heap.size+1) 0 y
  have r4:=(r3.kp K3 (Nat.le_refl _) (fun ad h1 h2 h3=>HNE.out ad h1 h3)).more K3.size
  have z4:=Ag.set (vs:=(voC vw cm who sw lf s (.slice A2 l.length c2)).toList) z3 rfl
  have G4:=zi (o:=0) (b:=w.heap.size+1) (voC vw cm who sw lf s (.slice A2 l.length c2)).toList G3 (by omega)
  go_wp2_with(with_reducible refine wpList_store_mid rfl 69 (.tmp 2) (.tmp 12) rfl (w.heap.size+1) 0 (voC vw cm who sw lf s (.slice A2 l.length c2)) rfl rfl HTH.out HSI.out HON.out ?_)
  exact bodyPost_ret (zM Tryz.results28 _ _ (w.heap.size+1) _ _ rfl z4 hur rfl zH) rfl ⟨A2,⟨c2,rfl⟩,r4,G4,HLO.out⟩
theorem ze5 (vw:Int) (cm:Nat) (who sw lf:Int) (s:Nat→Nat) (A A':Option Addr) (c c':Nat) (l:List Nat) (hl:l.length≤1048576) (w:World) (hr:Rd w w.heap.size A (u64L l)) (hr':Rd w w.heap.size A' (u64L l)) :
 Calls Tryz.prog 105 #[.agg (voC vw cm who sw lf s (.slice A l.length c)),.agg (voC vw cm who sw lf s (.slice A' l.length c'))] w fun e w'=>e=.returned (.bool true)∧Grew w w':=by
 have z1:=(Ag.new w 75 (voC vw cm who sw lf s (.slice A l.length c))).grew (zg (zc _) (.cells (voC vw cm who sw lf s (.slice A' l.length c')) 75))
 have z2:=Ag.new (w.alloc (.cells (voC vw cm who sw lf s (.slice A l.length c)) 75)) 75 (voC vw cm who sw lf s (.slice A' l.length c'))
 rw [zl]at z2
 have G0:=zg (zg (zc w) (.cells (voC vw cm who sw lf s (.slice A l.length c)) 75)) (.cells (voC vw cm who sw lf s (.slice A' l.length c')) 75)
 have r1:=hr.gr G0
 have r2:=hr'.gr G0
 have hus:=Tryz.underlying73
 have HL1:Hid ((Tryz.prog.info? 73).map (·.size)=some (sgC sw lf s (.slice A l.length c)).toList.length):=hQ9 y4
 have HL2:Hid ((Tryz.prog.info? 73).map (·.size)=some (sgC sw lf s (.slice A' l.length c')).toList.length):=hQ9 y4
 have m1:=hQ9 (xA z1.cell)
 have m2:=hQ9 (xA z2.cell)
 have x0:((w.alloc (.cells (voC vw cm who sw lf s (.slice A l.length c)) 75)).alloc (.cells (voC vw cm who sw lf s (.slice A' l.length c')) 75)).cell? ⟨w.heap.size,0,none⟩=some (.int .i64 vw):=by simpa using z1.cell 0 _ rfl
 have x1:((w.alloc (.cells (voC vw cm who sw lf s (.slice A l.length c)) 75)).alloc (.cells (voC vw cm who sw lf s (.slice A' l.length c')) 75)).cell? ⟨w.heap.size,1,none⟩=some (.int .u64 (cm:Nat)):=by simpa using z1.cell 1 _ rfl
 have x2:((w.alloc (.cells (voC vw cm who sw lf s (.slice A l.length c)) 75)).alloc (.cells (voC vw cm who sw lf s (.slice A' l.length c')) 75)).cell? ⟨w.heap.size,2,none⟩=some (.int .i64 who):=by simpa using z1.cell 2 _ rfl
 have y0:((w.alloc (.cells (voC vw cm who sw lf s (.slice A l.length c)) 75)).alloc (.cells (voC vw cm who sw lf s (.slice A' l.length c')) 75)).cell? ⟨w.heap.size+1,0,none⟩=some (.int .i64 vw):=by simpa using z2.cell 0 _ rfl
 have y1:((w.alloc (.cells (voC vw cm who sw lf s (.slice A l.length c)) 75)).alloc (.cells (voC vw cm who sw lf s (.slice A' l.length c')) 75)).cell? ⟨w.heap.size+1,1,none⟩=some (.int .u64 (cm:Nat)):=by simpa using z2.cell 1 _ rfl
 have y2:((w.alloc (.cells (voC vw cm who sw lf s (.slice A l.length c)) 75)).alloc (.cells (voC vw cm who sw lf s (.slice A' l.length c')) 75)).cell? ⟨w.heap.size+1,2,none⟩=some (.int .i64 who):=by simpa using z2.cell 2 _ rfl
 have CS:=hQ9 (zid sw lf s A A' c c' l hl _ r1 r2)
 have e0:((cm:Int)==(cm:Int))=true:=by simp
 have e1:(who==who)=true:=by simp
 have e2:(vw==vw)=true:=by simp
 have GG:=hQ9 G0
 clear z1 z2 r1 r2 G0 hr hr'
 go_enter Tryz.func105,Tryz.ntmps105
 obtain⟨v,hv⟩:∃ v,(w.alloc (.cells (voC vw cm who sw lf s (.slice A l.length c)) 75)).alloc (.cells (voC vw cm who sw lf s (.slice A' l.length c')) 75)=v:=⟨_,rfl⟩
 rw [hv]at CS GG x0 x1 x2 y0 y1 y2 m1 m2
 go_wp2_with(first
  | (refine zw (by rfl) 73 (.tmp 25) rfl w.heap.size 3 rfl (sgC sw lf s (.slice A l.length c)).toList _ m1.out hus rfl HL1.out ?_;simp only [Array.toArray_toList])
  | (refine zw (by rfl) 73 (.tmp 27) rfl (w.heap.size+1) 3 rfl (sgC sw lf s (.slice A' l.length c')).toList _ m2.out hus rfl HL2.out ?_;simp only [Array.toArray_toList]))
 refine(CS.out).mono ?_
 rintro e w1 ⟨rfl,gg⟩
 go_wp2_with fail
 go_ret
 exact⟨rfl,ze GG.out gg⟩
end Go.Proofs.YtidjnnnigcmdpaaGreatDoor
