/- slices.Insert at a pool's entries (mkinb.py). -/
import Derived.Test.YtidjnnnigcmdpaaGreatDoorJzz
import Derived.Test.YtidjnnnigcmdpaaGreatDoorProg
import Derived.Test.YtidjnnnigcmdpaaGreatDoorJar
import Derived.Test.YtidjnnnigcmdpaaGreatDoorJak
set_option maxRecDepth 100000
set_option linter.unusedSimpArgs false
set_option linter.unusedVariables false
set_option linter.unnecessarySimpa false
namespace Go.Proofs.YtidjnnnigcmdpaaGreatDoor
open Go.RowKit
structure OneB (w:World) (vb:Nat) (x:Array Value):Prop where
 h:w.heap[vb]?=some (.cells x 328 (0,0))
 sz:x.size=8
 one:∀ u∈x.toList,u.oneCell'=true
theorem OneB.cell {w:World} {vb:Nat} {x:Array Value} (h:OneB w vb x) (j:Nat) (u:Value) (hj:x.toList[j]?=some u):w.cell? ((⟨vb,0,none⟩:Addr).add j)=some u:=by
 rw [ltadd0]
 simp only [World.cell?,h.h]
 simpa using hj
theorem OneB.lt {w:World} {vb:Nat} {x:Array Value} (h:OneB w vb x):vb<w.heap.size:=(Array.getElem?_eq_some_iff.1 h.h).1
structure En where
 at_:Int
 d:Nat
 cl:Int
 no:Int
 fr:Int
 tt:Int
 am:Int
 A:Option Addr
 n:Nat
 k:Nat
def En.C (e:En):Array Value:=#[.int .i64 e.at_,.int .u64 (e.d:Nat),.int .i64 e.cl,.int .i64 e.no,.int .i64 e.fr,.int .i64 e.tt,.int .i64 e.am,.slice e.A e.n e.k]
theorem En.one (e:En):e.C.all (·.oneCell')=true:=by simp [En.C,Value.oneCell']
theorem En.one' (e:En):∀ u∈e.C.toList,u.oneCell'=true:=fun u hu=>Array.all_eq_true_iff_forall_mem.1 e.one u (by simpa using hu)
theorem En.size (e:En):e.C.size=8:=rfl
def enL (E:List En):List (List Value):=E.map fun e=>e.C.toList
theorem zka (E:List En):(enL E).length=E.length:=by simp [enL]
theorem enL_z (E:List En):∀ l∈enL E,l.length=8:=fun l hl=>by
 obtain⟨e,_,rfl⟩:=List.mem_map.1 hl
 rfl
def cmpZ (x y:Int):Int:=if x<y then -1 else if y<x then 1 else 0
def bfZ (a b:En):Int:=if cmpZ a.at_ b.at_≠0 then cmpZ a.at_ b.at_ else cmpZ (a.d:Int) (b.d:Int)
structure I2 (x y:Int) (v:Value) (W:World):Prop where
 out:∃ b,v=.slice (some ⟨b,0,none⟩) 2 2∧Ag W b [.int .i64 x,.int .i64 y]
theorem I2.gr {x y:Int} {v:Value} {a b:World} (h:I2 x y v a) (g:Grew a b):I2 x y v b:=by
 obtain⟨q,h1,h2⟩:=h.out
 exact⟨q,h1,h2.grew g⟩
theorem Ag.set1L {w:World} {b:Nat} {cs:List Value} (h:Ag w b cs) (j:Nat) (v:Value) (hj:j<cs.length):Ag (w.setCell ⟨b,j,none⟩ v) b (cs.set j v):=by
 have ht:w.there b j [v].length:=fun i hi=>by
  have:i=0:=by simpa using hi
  subst this
  simpa using h.there j hj
 have hs:=World.rangeAt_setCells_same w b j [v] ht
 have e:w.setCells b j [v]=w.setCell ⟨b,j,none⟩ v:=rfl
 refine⟨fun i x hx=>?_,fun i hi=>⟨?_,?_⟩,Nat.lt_of_lt_of_le h.lt (by rw [←e];exact(zn [v] b j w).size)⟩
 ·by_cases hij:i=j
  ·subst hij
   rw [List.getElem?_set_self hj]at hx
   cases hx
   rw [←e]
   simpa using hs 0 v rfl
  ·rw [List.getElem?_set_ne (Ne.symm hij)]at hx
   rw [show(w.setCell ⟨b,j,none⟩ v).cell? ⟨b,0+i,none⟩=w.cell? ⟨b,0+i,none⟩ from World.cell?_setCell_other w _ _ v (fun e=>by injection e;omega)]
   exact h.cell i x hx
 ·rw [←e]
  exact World.isSome_setCells b [v] j w _ (h.there i (by simpa using hi)).1
 ·rw [←e,World.frozen?_setCells]
  exact(h.there i (by simpa using hi)).2
def srtE (E:List En):Prop:=E.Pairwise (fun a b=>bfZ a b<0)
structure PlS (w:World) (p base:Nat) (room fl:Int) (v:Value) (E:List En):Prop where
 ptr:Ag w p [.int .i64 room,.int .i64 fl,.func (.func 164) #[] #[],v]
 own:w.ownsRow base 328 8 v E.length (enL E).flatten
 ne:v.ownBlock≠some p
 srt:srtE E
 len:E.length≤1000
theorem PlS.gr {w w':World} {p base:Nat} {room fl:Int} {v:Value} {E:List En} (h:PlS w p base room fl v E) (g:Grew w w'):PlS w' p base room fl v E :=
 ⟨h.ptr.grew g,yZ h.own g,h.ne,h.srt,h.len⟩
theorem PlS.kp {w w':World} {p base:Nat} {room fl:Int} {v:Value} {E:List En} {S:Nat→Prop} (h:PlS w p base room fl v E) (k:Kp S w w') (h1:¬S p) (h2:∀ g,v.ownBlock=some g→¬S g):PlS w' p base room fl v E :=
 ⟨h.ptr.kp k h1,zx h.own k (fun g hg=>h2 g hg),h.ne,h.srt,h.len⟩
theorem PlS.c0 {w:World} {p base:Nat} {room fl:Int} {v:Value} {E:List En} (h:PlS w p base room fl v E):w.cell? ⟨p,0,none⟩=some (.int .i64 room):=by simpa using h.ptr.cell 0 _ rfl
theorem PlS.c1 {w:World} {p base:Nat} {room fl:Int} {v:Value} {E:List En} (h:PlS w p base room fl v E):w.cell? ⟨p,1,none⟩=some (.int .i64 fl):=by simpa using h.ptr.cell 1 _ rfl
theorem PlS.c2 {w:World} {p base:Nat} {room fl:Int} {v:Value} {E:List En} (h:PlS w p base room fl v E):w.cell? ⟨p,2,none⟩=some (.func (.func 164) #[] #[]):=by simpa using h.ptr.cell 2 _ rfl
theorem PlS.c3 {w:World} {p base:Nat} {room fl:Int} {v:Value} {E:List En} (h:PlS w p base room fl v E):w.cell? ⟨p,3,none⟩=some v:=by simpa using h.ptr.cell 3 _ rfl
theorem PlS.f3 {w:World} {p base:Nat} {room fl:Int} {v:Value} {E:List En} (h:PlS w p base room fl v E) (j:Nat) (hj:j<4):w.frozen? ⟨p,j,none⟩=false:=by simpa using (h.ptr.there j (by simpa using hj)).2
theorem PlS.rd {w:World} {p base:Nat} {room fl:Int} {v:Value} {E:List En} (h:PlS w p base room fl v E):∃ A c,v=.slice A E.length c∧ltRdC w A 8 (enL E):=by
 obtain⟨A,c,h1,h2,_⟩:=zf4 h.own (enL_z E) (by decide) (zka E)
 exact⟨A,c,h1,h2⟩
theorem zkb (r:Int) (hr:1≤r∧r≤64) (w:World):Calls Tryz.prog 113 #[.int .i64 r] w fun e w'=>∃ p,e=.returned (.tuple #[.pointer (some ⟨p,0,none⟩),.int .i64 0])∧PlS w' p w'.heap.size r 0 (.slice none 0 0) []∧w.heap.size≤p∧Grew w w':=by
 have e1:decide (r<1)=false:=decide_eq_false (by omega)
 have e2:decide (64<r)=false:=decide_eq_false (by omega)
 have z0:=Ag.new w 271 #[.int .i64 r,.int .i64 0,.func (.func 164) #[] #[],.slice none 0 0]
 go_enter Tryz.func113,Tryz.ntmps113
 go_wp2_with fail
 go_ret2
 exact⟨w.heap.size,rfl,⟨z0,World.ownsRow_nil _ _ _ _,by simp [Value.ownBlock],List.Pairwise.nil,by simp⟩,Nat.le_refl _,zg (zc _) _⟩
theorem zkc {p base:Nat} {room fl:Int} {v:Value} {E:List En} (w:World) (h:PlS w p base room fl v E):Calls Tryz.prog 165 #[.pointer (some ⟨p,0,none⟩)] w fun e w'=>e=.returned (.int .i64 fl)∧w'=w:=by
 have hc:=h.c1
 clear h
 go_enter Tryz.func165,Tryz.ntmps165
 go_wp2_with fail
 go_ret
 exact⟨rfl,by trivial⟩
theorem zh1 {p base:Nat} {room fl:Int} {v:Value} {E:List En} (hi:Int) (hh:fl<hi) (w:World) (h:PlS w p base room fl v E):Calls Tryz.prog 166 #[.pointer (some ⟨p,0,none⟩),.int .i64 hi] w fun e w'=>e=.returned (.bool true)∧PlS w' p base room hi v E∧Kp (fun b=>b=p) w w':=by
 have hc:=h.c1
 have hf:=h.f3 1 (by decide)
 have e1:decide (hi≤fl)=false:=decide_eq_false (by omega)
 have z1:=h.ptr.set1L 1 (.int .i64 hi) (by simp)
 have k1:=yP (S:=fun b=>b=p) (zJ _ w) (p:=⟨p,1,none⟩) (.inl rfl) (.int .i64 hi)
 have HP:Hid (PlS (w.setCell ⟨p,1,none⟩ (.int .i64 hi)) p base room hi v E):=hQ9 ⟨z1,zx h.own k1 (fun g hg e=>h.ne (by rw [hg];have e9:g=p:=e;rw [e9])),h.ne,h.srt,h.len⟩
 have HK:=hQ9 k1
 clear h hh z1 k1
 go_enter Tryz.func166,Tryz.ntmps166
 go_wp2_with fail
 go_ret
 exact⟨rfl,HP.out,HK.out⟩
end Go.Proofs.YtidjnnnigcmdpaaGreatDoor
