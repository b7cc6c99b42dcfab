/- key.Parse of a signature's words. -/
import Derived.Laws.Cover3
import Derived.Deep.Cut
import Derived.Test.YtkpnheenacchhaaGreatDoorJbo
import Derived.Test.YtkpnheenacchhaaGreatDoorJbd
import Derived.Laws.MakeOwn
import Derived.Test.YtkpnheenacchhaaGreatDoorJbc
import Derived.Test.YtkpnheenacchhaaGreatDoorJak
import Derived.Test.YtkpnheenacchhaaGreatDoorJal
import Derived.Test.YtkpnheenacchhaaGreatDoorJbp
import Derived.Test.YtkpnheenacchhaaGreatDoorJaj
import Derived.Test.YtkpnheenacchhaaGreatDoorJbl
import Derived.Test.YtkpnheenacchhaaGreatDoorJbk
import Derived.Test.YtkpnheenacchhaaGreatDoorJbb
import Derived.Test.YtkpnheenacchhaaGreatDoorJbg
set_option maxRecDepth 100000
set_option linter.unusedSimpArgs false
set_option linter.unusedVariables false
namespace Go.Proofs.YtkpnheenacchhaaGreatDoor
open Go.RowKit
theorem Ag.set1 {w:World} {b:Nat} {cs:List Value} (h:Ag w b cs) (j:Nat) (v:Value) (hj:j<cs.length):Ag (w.setCell ⟨b,j,none⟩ v) b (cs.set j v):=by
 have ht:w.there b j [v].length:=fun i hi=>by
  have:i=0:=by simpa using hi
  subst this
  simpa using h.there j hj
 have hs:=World.rangeAt_setCells_same w b j [v] ht
 have e:w.setCells b j [v]=w.setCell ⟨b,j,none⟩ v:=rfl
 refine⟨fun i x hx=>?_,fun i hi=>⟨?_,?_⟩,Nat.lt_of_lt_of_le h.lt (by rw [←e];exact(zk [v] b j w).size)⟩
 ·by_cases hij:i=j
  ·subst hij
   rw [List.getElem?_set_self hj]at hx
   cases hx
   rw [←e]
   simpa using hs 0 v rfl
  ·rw [List.getElem?_set_ne (Ne.symm hij)]at hx
   rw [show(w.setCell ⟨b,j,none⟩ v).cell? ⟨b,0+i,none⟩=w.cell? ⟨b,0+i,none⟩ from World.cell?_setCell_other w _ _ v (fun e=>by injection e;omega)]
   exact h.cell i x hx
 ·rw [←e]
  exact World.isSome_setCells b [v] j w _ (h.there i (by simpa using hi)).1
 ·rw [←e,World.frozen?_setCells]
  exact(h.there i (by simpa using hi)).2
structure OwnU (w:World) (B:Nat) (l:List Nat) (v:Value):Prop where
 out:w.ownsRow B 65 1 v l.length (u64L l)
theorem OwnU.gr {w w':World} {B:Nat} {l:List Nat} {v:Value} (h:OwnU w B l v) (g:Grew w w'):OwnU w' B l v:=⟨zm h.out g⟩
theorem PV.kp {S:Nat→Prop} {w w':World} {B:Nat} {l:List Nat} {v:Value} (h:PV w B l v) (k:Kp S w w') (hs:∀ i,S i→i<B):PV w' B l v:=by
 obtain⟨A,c,h1,h2,h3⟩:=h.out
 exact⟨A,c,h1,(h2.kp k (Nat.le_refl _) (fun ad e _ hS=>by have h4:=h3 ad e;have h5:=hs _ hS;omega)).more k.size,h3⟩
def rkC (who sd h:Int) (v:Value) (nx rs:Nat):List Value:=[.int .i64 who,.int .u64 sd,.int .i64 h,v,.int .i64 (nx:Int),.int .i64 (rs:Int)]
structure RkAt (w:World) (b:Nat) (N:Nat→Prop) (who sd h:Int) (l:List Nat) (nx rs:Nat):Prop where
 out:∃ A c,Ag w b (rkC who sd h (.slice A l.length c) nx rs)∧RdN w N A (u64L l)
theorem RkAt.lt {w:World} {b:Nat} {N:Nat→Prop} {who sd h:Int} {l:List Nat} {nx rs:Nat} (k:RkAt w b N who sd h l nx rs):b<w.heap.size:=by
 obtain⟨A,c,z,_⟩:=k.out
 exact z.lt
theorem RkAt.kp {S:Nat→Prop} {w w':World} {b:Nat} {N:Nat→Prop} {who sd h:Int} {l:List Nat} {nx rs:Nat} (k:RkAt w b N who sd h l nx rs) (t:Kp S w w') (hb:¬S b) (hs:∀ i,S i→N i):RkAt w' b N who sd h l nx rs:=by
 obtain⟨A,c,z,r⟩:=k.out
 exact⟨A,c,z.kp t hb,r.kp t hs⟩
theorem RkAt.grew {w w':World} {b:Nat} {N:Nat→Prop} {who sd h:Int} {l:List Nat} {nx rs:Nat} (k:RkAt w b N who sd h l nx rs) (t:Grew w w'):RkAt w' b N who sd h l nx rs:=k.kp (S:=fun _=>False) (zi t) (fun h=>h) (fun _ h=>h.elim)
theorem RkAt.drewN {w:World} {b:Nat} {N:Nat→Prop} {who sd h:Int} {l:List Nat} {nx rs:Nat} (k:RkAt w b N who sd h l nx rs) (n:Nat):RkAt (w.drewN n) b N who sd h l nx rs:=k.grew (zH (za w) n)
section
variable (l : List Nat) (nx rs : Nat) (who sd d n : Int)
end
theorem qE (cm:Nat) (who at_ sw lf:Int) (s:Nat→Nat) (A:Option Addr) (n c:Nat):Array.foldl (fun(cs:Array Value) (x:Value × Nat)=>cs.setIfInBounds x.snd x.fst) (#[.int .u64 0,.int .i64 0,.int .i64 0,.int .i64 0,.int .i64 0,.int .u64 0,.int .u64 0,.int .u64 0,.int .u64 0,.int .u64 0,.int .u64 0,.int .u64 0,.int .u64 0,.int .u64 0,.int .u64 0,.int .u64 0,.int .u64 0,.int .u64 0,.int .u64 0,.int .u64 0,.int .u64 0,.int .u64 0,.int .u64 0,.slice none 0 0]) (stC cm who at_ sw lf s (.slice A n c)).zipIdx 0 24=stC cm who at_ sw lf s (.slice A n c):=by kernel_rfl
def kyS (f:Int) (RA:Option Addr) (n c:Nat) (h:Int):Array Value:=#[.int .i64 f,.slice RA n c,.int .i64 h]
def sdI (seed:Int) (i:Nat):Int:=(seed+(i:Int))%18446744073709551616
noncomputable def ksL (seed:Int) (h i:Nat):List Nat:=pubsL (sdI seed i) (2^h)
structure KsAt (w:World) (B n:Nat) (p:Nat→Nat) (seed:Int) (h:Nat):Prop where
 key:∀ i,i<n→KyAt w (p i+1) (p i) (i:Int) (sdI seed i) (ksL seed h i) 0 (2^h)
 low:∀ i,i<n→B≤p i
 apart:∀ i j,i<n→j<n→i≠j→p i≠p j∧p i+1≠p j∧p i≠p j+1
theorem KsAt.kp {S:Nat→Prop} {w w':World} {B n:Nat} {p:Nat→Nat} {seed:Int} {h:Nat} (k:KsAt w B n p seed h) (t:Kp S w w') (hs:∀ i,i<n→¬S (p i)∧¬S (p i+1)):KsAt w' B n p seed h :=
 ⟨fun i hi=>(k.key i hi).kp t (hs i hi).2 (hs i hi).1,k.low,k.apart⟩
theorem KsAt.grew {w w':World} {B n:Nat} {p:Nat→Nat} {seed:Int} {h:Nat} (k:KsAt w B n p seed h) (t:Grew w w'):KsAt w' B n p seed h:=k.kp (S:=fun _=>False) (zi t) (fun i _=>⟨fun h=>h,fun h=>h⟩)
theorem KsAt.snoc {w:World} {B n:Nat} {p:Nat→Nat} {seed:Int} {h q:Nat} (k:KsAt w B n p seed h) (hq:KyAt w (q+1) q (n:Int) (sdI seed n) (ksL seed h n) 0 (2^h)) (hB:B≤q) (hlt:∀ i,i<n→p i+1<q) :
 KsAt w B (n+1) (fun i=>if i=n then q else p i) seed h:=by
 refine⟨fun i hi=>?_,fun i hi=>?_,fun i j hi hj hij=>?_⟩
 ·by_cases e:i=n
  ·subst e;simpa using hq
  ·simpa [e]using k.key i (by omega)
 ·by_cases e:i=n
  ·simpa [e]using hB
  ·simpa [e]using k.low i (by omega)
 ·by_cases e:i=n
  ·have e2:j≠n:=fun h=>hij (e.trans h.symm)
   have:=hlt j (by omega)
   simp only [if_pos e,if_neg e2]
   omega
  ·by_cases e2:j=n
   ·have:=hlt i (by omega)
    simp only [if_pos e2,if_neg e]
    omega
   ·simpa [e,e2]using k.apart i j (by omega) (by omega) hij
structure OwnS (w:World) (B:Nat) (t:TypeId) (xs:List Value) (u:Value) (lo:Nat) (v:Value):Prop where
 own:w.ownsRow B t 1 v xs.length xs
 blk:v.ownBlock=u.ownBlock∨∃ s,v.ownBlock=some s∧lo≤s
theorem OwnS.gr {w w':World} {B lo:Nat} {t:TypeId} {xs:List Value} {u v:Value} (h:OwnS w B t xs u lo v) (g:Grew w w'):OwnS w' B t xs u lo v:=⟨zm h.own g,h.blk⟩
structure StR where
 cm:Nat
 who:Int
 at_:Int
 g:(Int × Int) × (Nat→Nat) × List Nat
def StR.zero:StR:=⟨0,0,0,((0,0),fun _=>0,[])⟩
def StR.v (r:StR) (pv:Value):Array Value:=stC r.cm r.who r.at_ r.g.1.1 r.g.1.2 r.g.2.1 pv
structure AgT (w:World) (B:Nat) (cm:Nat) (who at_ sw lf:Int) (s:Nat→Nat) (l:List Nat) (v:Value):Prop where
 out:∃ A c,v=.agg (stC cm who at_ sw lf s (.slice A l.length c))∧Rd w w.heap.size A (u64L l)∧(∀ ad,A=some ad→B≤ad.block)
theorem AgT.gr {w w':World} {B cm:Nat} {who at_ sw lf:Int} {s:Nat→Nat} {l:List Nat} {v:Value} (h:AgT w B cm who at_ sw lf s l v) (g:Grew w w'):AgT w' B cm who at_ sw lf s l v:=by
 obtain⟨A,c,h1,h2,h3⟩:=h.out
 exact⟨A,c,h1,h2.gr g,h3⟩
def StR.t (r:StR):List UInt8:=stT r.cm r.who r.at_ r.g.1.1 r.g.1.2 r.g.2.1 r.g.2.2
structure KV (w:World) (B:Nat) (f:Int) (R:List Nat) (h:Int) (v:Value):Prop where
 out:∃ A c,v=.agg (kyS f A R.length c h)∧Rd w w.heap.size A (u64L R)∧(∀ ad,A=some ad→B≤ad.block)
theorem KV.gr {w w':World} {B:Nat} {f:Int} {R:List Nat} {h:Int} {v:Value} (k:KV w B f R h v) (g:Grew w w'):KV w' B f R h v:=by
 obtain⟨A,c,h1,h2,h3⟩:=k.out
 exact⟨A,c,h1,h2.gr g,h3⟩
structure AP where
 cm:Nat
 who:Int
 sw:Int
 lf:Int
 s:Nat→Nat
 A:Option Addr
 c:Nat
 l:List Nat
def AP.C (S:AP):Array Value:=akC S.cm S.who S.sw S.lf S.s (.slice S.A S.l.length S.c)
structure AP.ok (S:AP):Prop where
 cm:S.cm<18446744073709551616
 who:in64 S.who
 sw:in64 S.sw
 lf:in64 S.lf
 s:∀ k,k<18→S.s k<18446744073709551616
 len:S.l.length≤1000
 l:∀ x∈S.l,x<18446744073709551616
def AP.at (S:AP) (w:World):Prop:=Rd w w.heap.size S.A (u64L S.l)
theorem AP.at.gr {S:AP} {w w':World} (h:S.at w) (g:Grew w w'):S.at w':=Rd.gr h g
def apL (L:List AP):List (List Value):=L.map fun S=>S.C.toList
theorem qF (L:List AP):(apL L).length=L.length:=by simp [apL]
theorem jK (L:List AP) (n:Nat):apL (L.take n)=(apL L).take n:=by simp [apL]
theorem AP.one (S:AP):S.C.all (·.oneCell')=true:=qA _ _ _ _ _ _ _ _
theorem AP.one' (S:AP):∀ u∈S.C.toList,u.oneCell'=true:=fun u hu=>by
 have:=S.one
 rw [Array.all_eq_true]at this
 obtain⟨i,hi,rfl⟩:=List.getElem_of_mem hu
 simpa using this i (by simpa using hi)
structure Aps (w:World) (A:Option Addr) (L:List AP):Prop where
 rd:RdC w A 23 (apL L)
 ok:∀ S∈L,S.ok
 at_:∀ S∈L,S.at w
theorem Aps.gr {w w':World} {A:Option Addr} {L:List AP} (h:Aps w A L) (g:Grew w w'):Aps w' A L:=⟨h.rd.gr g,h.ok,fun S hS=>(h.at_ S hS).gr g⟩
theorem Aps.take {w:World} {A:Option Addr} {L:List AP} (h:Aps w A L) (n:Nat):Aps w A (L.take n) :=
 ⟨by rw [jK];exact h.rd.take n,fun S hS=>h.ok S (List.mem_of_mem_take hS),fun S hS=>h.at_ S (List.mem_of_mem_take hS)⟩
theorem Aps.get {w:World} {A:Option Addr} {L:List AP} (h:Aps w A L) (k:Nat) (hk:k<L.length):∃ q,A=some ⟨q,0,none⟩∧q<w.heap.size∧w.rangeAt q (k*23) L[k].C.toList:=by
 obtain⟨q,e,hq,hr⟩:=h.rd k (by rw [qF];exact hk)
 exact⟨q,e,hq,by simpa [apL]using hr⟩
end Go.Proofs.YtkpnheenacchhaaGreatDoor
