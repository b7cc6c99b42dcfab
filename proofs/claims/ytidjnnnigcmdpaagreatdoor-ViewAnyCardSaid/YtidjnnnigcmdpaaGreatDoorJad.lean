/- Words for memory: a slice that reads as a list of cells; bytes; small closers. -/
import Derived.WalkKit
import Derived.Lib.Hide
import Derived.Deep.Draws
import Derived.Deep.QuietTactic
import Derived.BigQuiet
set_option linter.unusedSimpArgs false
set_option linter.unusedVariables false
set_option linter.unnecessarySimpa false
namespace Go.Proofs.YtidjnnnigcmdpaaGreatDoor
open Go.RowKit
theorem ye {k:IntKind} {a b:Int} (h:a=b):Ending.returned (.int k a)=.returned (.int k b):=by rw [h]
theorem zbn {a b:Bool} (h:a=b):Ending.returned (.bool a)=.returned (.bool b):=by rw [h]
theorem zv (a:Addr) (n:Nat):(a.add n).block=a.block:=by unfold Addr.add;split<;>rfl
def Rd (w:World) (B:Nat) (A:Option Addr) (xs:List Value):Prop :=
 ∀ k (h:k<xs.length),∃ ad,A=some ad∧ad.block<B∧w.cell? (ad.add k)=some xs[k]
theorem Rd.nil_ (w:World) (B:Nat) (A:Option Addr):Rd w B A []:=fun k h=>absurd h (by simp)
theorem Rd.keep {w w':World} {B:Nat} {A:Option Addr} {xs:List Value} (h:Rd w B A xs) (hk:∀ p:Addr,p.block<B→w'.cell? p=w.cell? p):Rd w' B A xs:=by
 intro k hk'
 obtain⟨ad,e,hb,hc⟩:=h k hk'
 exact⟨ad,e,hb,by rw [hk _ (by rw [zv];exact hb)];exact hc⟩
theorem Rd.more {w:World} {B B':Nat} {A:Option Addr} {xs:List Value} (h:Rd w B A xs) (hB:B≤B'):Rd w B' A xs:=by
 intro k hk'
 obtain⟨ad,e,hb,hc⟩:=h k hk'
 exact⟨ad,e,by omega,hc⟩
theorem Rd.below {w w':World} {B:Nat} {A:Option Addr} {xs:List Value} (h:Rd w B A xs) (hb:Below B w w'):Rd w' B A xs:=h.keep fun _ hp=>hb.cell hp
theorem Rd.drew {w:World} {B:Nat} {A:Option Addr} {xs:List Value} (h:Rd w B A xs):Rd w.drew B A xs:=h
theorem Rd.drewN {w:World} {B:Nat} {A:Option Addr} {xs:List Value} (h:Rd w B A xs) (n:Nat):Rd (w.drewN n) B A xs:=h
theorem Rd.alloc {w:World} {B:Nat} {A:Option Addr} {xs:List Value} (h:Rd w B A xs) (hB:B≤w.heap.size) (o:Obj):Rd (w.alloc o) B A xs :=
 h.keep fun p hp=>World.cell?_alloc_lt w o p (by omega)
theorem Rd.setCell {w:World} {B:Nat} {A:Option Addr} {xs:List Value} (h:Rd w B A xs) {p:Addr} (hB:B≤p.block) (u:Value):Rd (w.setCell p u) B A xs :=
 h.keep fun q hq=>World.cell?_setCell_other w p q u (fun e=>by subst e;omega)
theorem Rd.grown {w w':World} {B:Nat} {A:Option Addr} {xs:List Value} (h:Rd w B A xs) {row:Option Nat} (hg:w.grownBy w' row) (hB:B≤w.heap.size) (hr:∀ g,row=some g→B≤g):Rd w' B A xs :=
 h.keep fun p hp=>World.cell?_of_block (hg.block p.block (by omega) (fun e=>by have:=hr _ e.symm;omega))
def byteV (c:UInt8):Value:=.int .u8 (c.toNat:Int)
def u64V (n:Nat):Value:=.int .u64 (n:Int)
abbrev Grew (w w':World):Prop:=Below w.heap.size w w'
theorem zaq (l:List UInt8) (k:Nat) (h:k<(l.map byteV).length):(l.map byteV)[k]=.int .u8 ((l[k]'(by simpa using h)).toNat:Int):=by
 simp [byteV]
theorem zef {P:Program} (w:World) (src dst e:TypeId) (s:ByteArray) (hs:P.underlying src=some .string) (hd:P.underlying dst=some (.slice e)) (he:P.underlying e=some (.int .u8)) :
 ∃ A c w1,(convert src dst (.string s)).run P w=.ok (.slice (some A) s.size c) w1∧Below w.heap.size w w1∧Rd w1 w1.heap.size (some A) (s.data.toList.map byteV):=by
 refine⟨_,_,_,run_bytes_of_string w src dst e s hs hd he,(Below.drew (Below.refl _ _)).alloc (Nat.le_refl _) _,?_⟩
 intro k hk
 have hk':k<s.data.size:=by simpa using hk
 refine⟨_,rfl,by show w.heap.size<_;simp,?_⟩
 have ha:(⟨w.heap.size,0,none⟩:Addr).add k=⟨w.drew.heap.size,k,none⟩:=by
  unfold Addr.add
  split
  ·rename_i h
   subst h
   rfl
  ·simp
 rw [ha,World.cell?_alloc_mark,bytesRow_at s _ k hk']
 simp [byteV]
theorem xy {P:Program} (w:World) (B:Nat) (src dst e:TypeId) (A:Option Addr) (n cap:Nat) (l:List UInt8) (hn:l.length=n) (hs:P.underlying src=some (.slice e)) (he:P.underlying e=some (.int .u8)) (hd:P.underlying dst=some .string)
 (hr:Rd w B A (l.map byteV)):(convert src dst (.slice A n cap)).run P w=.ok (.string ⟨l.toArray⟩) w:=by
 subst hn
 cases A with
 | none =>
  have hl:l=[]:=by
   cases l with
   | nil=>rfl
   | cons a l =>
    obtain⟨ad,h,_⟩:=hr 0 (by simp)
    cases h
  subst hl
  rw [run_convert_bytes_nil w src e hs he _ _ dst hd]
  rfl
 | some ad =>
  exact run_convert_bytes_back w src dst e ad cap l hs he hd (fun j hj=>by
   obtain⟨ad',h,_,hc⟩:=hr j (by simpa using hj)
   injection h with h
   subst h
   rw [hc,zaq])
theorem yq (w:World) (t:TypeId) (cs:Array Value) (fr:Nat × Nat):Rd (w.alloc (.cells cs t fr)) (w.heap.size+1) (some ⟨w.heap.size,0,none⟩) cs.toList:=by
 intro k hk
 refine⟨_,rfl,by simp,?_⟩
 have ha:(⟨w.heap.size,0,none⟩:Addr).add k=⟨w.heap.size,k,none⟩:=by
  unfold Addr.add
  split
  ·rename_i h
   subst h
   rfl
  ·simp
 rw [ha,World.cell?_alloc_mark,Array.getElem?_eq_getElem (by simpa using hk)]
 simp
theorem zA {w:World} {base:Nat} {e:TypeId} {size n:Nat} {v:Value} {xs:List Value} (h:w.ownsRow base e size v n xs):∀ g,v.ownBlock=some g→base≤g:=by
 intro g hg
 rcases h.2 with ⟨rfl,_⟩ | ⟨g',cap,cur,rfl,hb,_⟩
 ·cases hg
 ·injection hg with hg
  subst hg
  exact hb
theorem yN {w:World} {base:Nat} {e:TypeId} {n:Nat} {v:Value} {xs:List Value} (h:w.ownsRow base e 1 v n xs) :
 ∃ A c,v=.slice A n c∧n≤c∧xs.length=n∧Rd w w.heap.size A xs:=by
 obtain⟨hl,h2⟩:=h
 rcases h2 with ⟨rfl,rfl⟩ | ⟨g,cap,cur,rfl,hb,hh,hc,hm,hs,ht⟩
 ·refine⟨none,0,rfl,by omega,by omega,?_⟩
  intro k hk
  omega
 ·have hg:g<w.heap.size:=by
   rcases Nat.lt_or_ge g w.heap.size with h | h
   ·exact h
   ·rw [Array.getElem?_eq_none h]at hh;cases hh
  refine⟨some ⟨g,0,none⟩,cap,rfl,hc,by omega,?_⟩
  intro k hk
  refine⟨_,rfl,hg,?_⟩
  have ha:(⟨g,0,none⟩:Addr).add k=⟨g,k,none⟩:=by
   unfold Addr.add
   split
   ·rename_i h
    subst h
    rfl
   ·simp
  rw [ha]
  have hkc:k<cur.size:=by omega
  have:cur[k]?=some xs[k]:=by
   rw [Array.getElem?_eq_getElem hkc]
   simp only [←ht,List.getElem_take,Array.getElem_toList]
  simp [World.cell?,hh,this]
theorem zjz (w:World) (t:TypeId) (u:Value):∀ j x,[u][j]?=some x→(w.alloc (.cells #[u] t)).cell? ((⟨w.heap.size,0,none⟩:Addr).add j)=some x:=by
 intro j x h
 have hj:j<[u].length:=(List.getElem?_eq_some_iff.1 h).1
 obtain⟨ad,e,_,hc⟩:=yq w t #[u] (0,0) j hj
 injection e with e
 subst e
 rw [hc,←h]
 simp [List.getElem?_eq_getElem hj]
theorem kt {u:Value} (h:u.oneCell'=true):∀ x∈[u],x.oneCell'=true:=by
 intro x hx
 have:x=u:=by simpa using hx
 rw [this];exact h
theorem yX (k:IntKind) (n:Int):∀ x∈[Value.int k n],x.oneCell'=true:=kt rfl
theorem yr {w w':World} (h:Grew w w') (n:Nat):Grew w (w'.drewN n):=⟨h.os,h.tape,h.output,h.size,h.block⟩
/-! A region that draws its order, whose calls make new memory: one walk, in the class of the worlds that have grown out of w. -/
structure Gr (w:World) where
 val:World
 ok:Grew w val
instance (w:World):Nonempty (Gr w):=⟨⟨w,Below.refl _ _⟩⟩
theorem zh {P:Program} {id:Nat} {Q:Exit→Act→World→Prop} {a:Act} {w0 w:World} {l:List Oper} (hg:Grew w0 w) (hm:P.follows .mixedOrders=true) (hB:Region.lexB .any l.toArray=true)
 (h:wpQuiet P l.toArray (fun w'=>∃ x:Gr w0,w'=x.val) (fun a'=>∀ w',(∃ x:Gr w0,w'=x.val)→Q .normal a' w') l a):(Code.region id l.toArray true).wp P Q a w :=
 wp_region_quiet (C:=fun w'=>∃ x:Gr w0,w'=x.val) hm hB ⟨⟨{ w with drawn:=w.drawn+1 },⟨hg.os,hg.tape,hg.output,hg.size,hg.block⟩⟩,rfl⟩ (by simpa using h)
theorem callG {P:Program} {f:FuncId} {args:Array Value} {w:World} {x:Gr w} {v:Value}
 (h:Calls P f args x.val fun e w'=>e=.returned v∧Grew x.val w'):Calls P f args x.val fun e w''=>e=.returned v∧∃ y:Gr w,w''=y.val :=
 h.mono fun _ w' hh=>⟨hh.1,⟨w',x.ok.trans (hh.2.mono x.ok.size)⟩,rfl⟩
theorem callS {P:Program} {f:FuncId} {args:Array Value} {w:World} {x:Gr w} {v:Value}
 (h:Calls P f args x.val fun e w'=>e=.returned v∧x.val=w'):Calls P f args x.val fun e w''=>e=.returned v∧∃ y:Gr w,w''=y.val :=
 h.mono fun _ _ hh=>⟨hh.1,x,hh.2.symm⟩
theorem zc (w:World):Grew w w:=Below.refl _ _
theorem ze {a b c:World} (h:Grew a b) (k:Grew b c):Grew a c:=h.trans (k.mono h.size)
theorem zg {a b:World} (h:Grew a b) (o:Obj):Grew a (b.alloc o):=h.alloc h.size o
end Go.Proofs.YtidjnnnigcmdpaaGreatDoor
