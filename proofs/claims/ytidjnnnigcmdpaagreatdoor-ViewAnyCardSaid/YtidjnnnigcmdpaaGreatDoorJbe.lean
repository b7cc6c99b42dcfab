/- key.Text. -/
import Derived.Test.YtidjnnnigcmdpaaGreatDoorJzz
import Derived.Test.YtidjnnnigcmdpaaGreatDoorJbd
import Derived.Test.YtidjnnnigcmdpaaGreatDoorJbb
import Derived.Test.YtidjnnnigcmdpaaGreatDoorJan
import Derived.Test.YtidjnnnigcmdpaaGreatDoorJaj
import Derived.Test.YtidjnnnigcmdpaaGreatDoorJag
set_option maxHeartbeats 2000000
set_option maxRecDepth 100000
set_option linter.unusedSimpArgs false
set_option linter.unusedVariables false
set_option linter.unnecessarySimpa false
namespace Go.Proofs.YtidjnnnigcmdpaaGreatDoor
open Go.RowKit
def oneL (s:Nat→Nat):List Nat:=(List.range 18).map s
def sgT (who leaf:Int) (s:Nat→Nat) (l:List Nat):List UInt8:=joinF [Lib.itoa who,Lib.itoa leaf,digs (oneL s),digs l]
structure FourS (w:World) (l:List ByteArray) (v:Value):Prop where
 out:∃ A,v=.slice A 4 4∧Rd w w.heap.size A (strL l)
theorem FourS.gr {w w':World} {l:List ByteArray} {v:Value} (h:FourS w l v) (g:Grew w w'):FourS w' l v:=by
 obtain⟨A,h1,h2⟩:=h.out
 exact⟨A,h1,h2.gr g⟩
def tmB (at_:Int):Bool:=decide (1≤at_∧at_≤1099511627776)
def tagStamp:List UInt8:=[115,116,97,109,112]
def stW (cm:Nat) (who at_:Int):List UInt8:=joinF [tagStamp,hexL cm,Lib.itoa who,Lib.itoa at_]
noncomputable def stD (cm:Nat) (who at_:Int):Nat:=sumL tagStamp (stW cm who at_)
def stC (cm:Nat) (who at_ sw lf:Int) (s:Nat→Nat) (pv:Value):Array Value:=#[.int .u64 (cm:Nat),.int .i64 who,.int .i64 at_,.int .i64 sw,.int .i64 lf,u64V (s 0),u64V (s 1),u64V (s 2),u64V (s 3),u64V (s 4),u64V (s 5),u64V (s 6),u64V (s 7),u64V (s 8),u64V (s 9),u64V (s 10),u64V (s 11),u64V (s 12),u64V (s 13),u64V (s 14),u64V (s 15),u64V (s 16),u64V (s 17),pv]
def mkC (who:Int) (d:Nat) (sw lf:Int) (s:Nat→Nat) (pv:Value):Array Value:=#[.int .i64 who,.int .u64 (d:Nat),.int .i64 sw,.int .i64 lf,u64V (s 0),u64V (s 1),u64V (s 2),u64V (s 3),u64V (s 4),u64V (s 5),u64V (s 6),u64V (s 7),u64V (s 8),u64V (s 9),u64V (s 10),u64V (s 11),u64V (s 12),u64V (s 13),u64V (s 14),u64V (s 15),u64V (s 16),u64V (s 17),pv]
theorem zkl (cm:Nat) (who at_ sw lf:Int) (s:Nat→Nat) (A:Option Addr) (n c:Nat):(stC cm who at_ sw lf s (.slice A n c)).all (·.oneCell')=true:=by simp [stC,u64V,Value.oneCell']
theorem jm (who:Int) (d:Nat) (sw lf:Int) (s:Nat→Nat) (A:Option Addr) (n c:Nat):(mkC who d sw lf s (.slice A n c)).all (·.oneCell')=true:=by simp [mkC,u64V,Value.oneCell']
theorem xJ:(Tryz.prog.info? 247).map (·.size)=some 23:=by kernel_rfl
theorem zb6 (who:Int) (d:Nat) (sw lf:Int) (s:Nat→Nat) (A:Option Addr) (n c:Nat):Tryz.prog.built 247 [(0,.int .i64 who),(1,.int .u64 (d:Nat)),(2,.agg (sgC sw lf s (.slice A n c)))]=some (mkC who d sw lf s (.slice A n c)):=by kernel_rfl
theorem kS {w:World} {b o m:Nat} {cs sub:List Value} (h:w.rangeAt b o cs) (hs:∀ j v,sub[j]?=some v→cs[m+j]?=some v):w.rangeAt b (o+m) sub:=fun j v hv=>by
 rw [Nat.add_assoc];exact h (m+j) v (hs j v hv)
theorem qg {cs sub:List Value} (m:Nat) (h:cs.drop m=sub):∀ j v,sub[j]?=some v→cs[m+j]?=some v:=fun j v hv=>by
 rw [←h,List.getElem?_drop]at hv
 exact hv
theorem zgg {w:World} {b:Nat} {d:Nat} {who sw lf:Int} {s:Nat→Nat} {pv:Value} (h:w.rangeAt b 0 (mkC who d sw lf s pv).toList):w.rangeAt b 2 (sgC sw lf s pv).toList:=by
 have:w.rangeAt b (0+2) (sgC sw lf s pv).toList:=kS (m:=2) h (qg 2 rfl)
 rwa [Nat.zero_add]at this
def stT (cm:Nat) (who at_ sw lf:Int) (s:Nat→Nat) (l:List Nat):List UInt8:=joinF [hexL cm,Lib.itoa who,Lib.itoa at_,sgT sw lf s l]
def akC (cm:Nat) (who sw lf:Int) (s:Nat→Nat) (pv:Value):Array Value:=#[.int .u64 (cm:Nat),.int .i64 who,.int .i64 sw,.int .i64 lf,u64V (s 0),u64V (s 1),u64V (s 2),u64V (s 3),u64V (s 4),u64V (s 5),u64V (s 6),u64V (s 7),u64V (s 8),u64V (s 9),u64V (s 10),u64V (s 11),u64V (s 12),u64V (s 13),u64V (s 14),u64V (s 15),u64V (s 16),u64V (s 17),pv]
theorem zkm (cm:Nat) (who sw lf:Int) (s:Nat→Nat) (A:Option Addr) (n c:Nat):(akC cm who sw lf s (.slice A n c)).all (·.oneCell')=true:=by simp [akC,u64V,Value.oneCell']
def akT (cm:Nat) (who sw lf:Int) (s:Nat→Nat) (l:List Nat):List UInt8:=joinF [hexL cm,Lib.itoa who,sgT sw lf s l]
structure ThreeS (w:World) (l:List ByteArray) (v:Value):Prop where
 out:∃ A,v=.slice A 3 3∧Rd w w.heap.size A (strL l)
theorem ThreeS.gr {w w':World} {l:List ByteArray} {v:Value} (h:ThreeS w l v) (g:Grew w w'):ThreeS w' l v:=by
 obtain⟨A,h1,h2⟩:=h.out
 exact⟨A,h1,h2.gr g⟩
theorem zb7 {z:Nat}:∀(L:List (List Value)),(∀ l∈L,l.length=z)→∀ k j (hk:k<L.length),j<z→L.flatten[k*z+j]?=L[k][j]?
 | [],_,k,_,hk,_=>absurd hk (by simp)
 | l::r,h,0,j,_,hj=>by
  have hl:=h l (by simp)
  simp only [List.flatten_cons,Nat.zero_mul,Nat.zero_add,List.getElem_cons_zero]
  exact List.getElem?_append_left (by omega)
 | l::r,h,k+1,j,hk,hj=>by
  have hl:=h l (by simp)
  have e:(k+1)*z+j=l.length+(k*z+j):=by rw [hl,Nat.add_mul];omega
  rw [List.flatten_cons,e,List.getElem?_append_right (by omega),Nat.add_sub_cancel_left]
  simpa using zb7 r (fun x hx=>h x (by simp [hx])) k j (by simpa using hk) hj
def RdC (w:World) (A:Option Addr) (z:Nat) (L:List (List Value)):Prop:=∀ k (h:k<L.length),∃ q,A=some ⟨q,0,none⟩∧q<w.heap.size∧w.rangeAt q (k*z) L[k]
theorem RdC.nil (w:World) (A:Option Addr) (z:Nat):RdC w A z []:=fun k h=>absurd h (by simp)
theorem RdC.kp {S:Nat→Prop} {w w':World} {A:Option Addr} {z:Nat} {L:List (List Value)} (h:RdC w A z L) (k:Kp S w w') (hs:∀ q,A=some ⟨q,0,none⟩→¬S q):RdC w' A z L:=fun i hi=>by
 obtain⟨q,e,hq,hr⟩:=h i hi
 exact⟨q,e,Nat.lt_of_lt_of_le hq k.size,fun j v hj=>by
  rw [←hr j v hj]
  exact World.cell?_of_block (k.block q hq (hs q e))⟩
theorem RdC.gr {w w':World} {A:Option Addr} {z:Nat} {L:List (List Value)} (h:RdC w A z L) (k:Grew w w'):RdC w' A z L:=h.kp (S:=fun _=>False) (zj k) (fun _ _ h=>h)
theorem RdC.take {w:World} {A:Option Addr} {z:Nat} {L:List (List Value)} (h:RdC w A z L) (n:Nat):RdC w A z (L.take n):=fun i hi=>by
 have hi':i<L.length:=by rw [List.length_take]at hi;omega
 obtain⟨q,e,hq,hr⟩:=h i hi'
 exact⟨q,e,hq,by rw [List.getElem_take];exact hr⟩
theorem zab {w:World} {base n z:Nat} {e:TypeId} {v:Value} {L:List (List Value)} (h:w.ownsRow base e z v n L.flatten) (hz:∀ l∈L,l.length=z) (hz0:0<z) (hn:L.length=n) :
 ∃ A c,v=.slice A n c∧RdC w A z L∧n≤c∧c≤maxLen∧∀ ad,A=some ad→base≤ad.block∧ad.block<w.heap.size:=by
 rcases h.2 with ⟨rfl,h0⟩ | ⟨g,cap,cur,rfl,hb,hh,h1,h2,h3,h4⟩
 ·subst h0
  obtain rfl:=List.eq_nil_of_length_eq_zero hn
  exact⟨none,0,rfl,RdC.nil _ _ _,Nat.le_refl _,Nat.zero_le _,fun ad h=>by cases h⟩
 ·have hlt:g<w.heap.size:=(Array.getElem?_eq_some_iff.1 hh).1
  refine⟨some ⟨g,0,none⟩,cap,rfl,fun k hk=>⟨g,rfl,hlt,fun j u hj=>?_⟩,h1,h2,fun ad h=>by cases h;exact⟨hb,hlt⟩⟩
  have hjz:j<z:=by have:=(List.getElem?_eq_some_iff.1 hj).1;rw [hz L[k] (List.getElem_mem hk)]at this;exact this
  have hf:=zb7 L hz k j hk hjz
  rw [hj]at hf
  have:=h.cells (g:=g) rfl (k*z+j) u hf
  rwa [show(⟨g,0,none⟩:Addr).add (k*z+j)=⟨g,k*z+j,none⟩ from by unfold Addr.add;split<;>simp_all]at this
structure SP where
 cm:Nat
 who:Int
 at_:Int
 sw:Int
 lf:Int
 s:Nat→Nat
 A:Option Addr
 c:Nat
 l:List Nat
def SP.C (S:SP):Array Value:=stC S.cm S.who S.at_ S.sw S.lf S.s (.slice S.A S.l.length S.c)
structure SP.ok (S:SP):Prop where
 cm:S.cm<18446744073709551616
 who:in64 S.who
 at_:in64 S.at_
 sw:in64 S.sw
 lf:in64 S.lf
 s:∀ k,k<18→S.s k<18446744073709551616
 len:S.l.length≤1000
 l:∀ x∈S.l,x<18446744073709551616
def SP.at (S:SP) (w:World):Prop:=Rd w w.heap.size S.A (u64L S.l)
theorem SP.at.gr {S:SP} {w w':World} (h:S.at w) (g:Grew w w'):S.at w':=Rd.gr h g
def spL (L:List SP):List (List Value):=L.map fun S=>S.C.toList
theorem zkn (L:List SP):(spL L).length=L.length:=by simp [spL]
theorem zih (L:List SP) (n:Nat):spL (L.take n)=(spL L).take n:=by simp [spL]
theorem SP.one (S:SP):S.C.all (·.oneCell')=true:=zkl _ _ _ _ _ _ _ _ _
theorem SP.one' (S:SP):∀ u∈S.C.toList,u.oneCell'=true:=fun u hu=>by
 have:=S.one
 rw [Array.all_eq_true]at this
 obtain⟨i,hi,rfl⟩:=List.getElem_of_mem hu
 simpa using this i (by simpa using hi)
structure Sps (w:World) (A:Option Addr) (L:List SP):Prop where
 rd:RdC w A 24 (spL L)
 ok:∀ S∈L,S.ok
 at_:∀ S∈L,S.at w
theorem Sps.gr {w w':World} {A:Option Addr} {L:List SP} (h:Sps w A L) (g:Grew w w'):Sps w' A L:=⟨h.rd.gr g,h.ok,fun S hS=>(h.at_ S hS).gr g⟩
theorem Sps.take {w:World} {A:Option Addr} {L:List SP} (h:Sps w A L) (n:Nat):Sps w A (L.take n) :=
 ⟨by rw [zih];exact h.rd.take n,fun S hS=>h.ok S (List.mem_of_mem_take hS),fun S hS=>h.at_ S (List.mem_of_mem_take hS)⟩
theorem Sps.get {w:World} {A:Option Addr} {L:List SP} (h:Sps w A L) (k:Nat) (hk:k<L.length):∃ q,A=some ⟨q,0,none⟩∧q<w.heap.size∧w.rangeAt q (k*24) L[k].C.toList:=by
 obtain⟨q,e,hq,hr⟩:=h.rd k (by rw [zkn];exact hk)
 exact⟨q,e,hq,by simpa [spL]using hr⟩
theorem zW (W:World) (t:TypeId) (z cs:Array Value) (h:cs.size=z.size):∃ W',(W.alloc (.cells z t)).setCells W.heap.size 0 cs.toList=W'∧(W.alloc (.cells z t)).there W.heap.size 0 cs.size∧Grew W W'∧Ag W' W.heap.size cs.toList :=
 ⟨_,rfl,by rw [h];exact(Ag.new W t z).thereN z.size (by simp),zi (o:=0) (b:=W.heap.size) cs.toList (zg (zc W) _) (Nat.le_refl _),Ag.set (vs:=cs.toList) (Ag.new W t z) (by simp [h])⟩
theorem kT (n:Int) (h:in64 n) (w:World) (hs:Std w):Calls Tryz.prog 82 #[.int .i64 n] w fun e w'=>e=.returned (.string ⟨(Lib.itoa n).toArray⟩)∧Grew w w':=by
 have C:=hQ9 (xk n h.1 h.2 w hs)
 clear hs h
 go_enter Tryz.func82,Tryz.ntmps82
 go_wp2_with fail
 refine(C.out).mono ?_
 rintro e w1 ⟨rfl,g1⟩
 go_wp2_with fail
 go_ret
 exact⟨rfl,g1⟩
def vwB (v:Int):Bool:=decide (1≤v∧v≤1048576)
theorem zgh (v:Int) (w:World):Calls Tryz.prog 72 #[.int .i64 v] w fun e w'=>e=.returned (.bool (vwB v))∧w=w':=by
 by_cases h1:1≤v
 ·by_cases h2:v≤1048576
  ·rw [show vwB v=true from decide_eq_true ⟨h1,h2⟩]
   go_enter Tryz.func72,Tryz.ntmps72
   go_wp2_with fail
   go_ret
   exact⟨rfl,rfl⟩
  ·rw [show vwB v=false from decide_eq_false (fun h=>h2 h.2)]
   go_enter Tryz.func72,Tryz.ntmps72
   go_wp2_with fail
   go_ret
   exact⟨rfl,rfl⟩
 ·rw [show vwB v=false from decide_eq_false (fun h=>h1 h.1)]
  go_enter Tryz.func72,Tryz.ntmps72
  go_wp2_with fail
  go_ret
  exact⟨rfl,rfl⟩
def tagVote:List UInt8:=[118,111,116,101]
def voW (vw:Int) (cm:Nat):List UInt8:=joinF [tagVote,Lib.itoa vw,hexL cm]
noncomputable def voD (vw:Int) (cm:Nat):Nat:=sumL tagVote (voW vw cm)
theorem qP (vw:Int) (cm:Nat):voD vw cm<18446744073709551616:=yV _ _
theorem jn (vw:Int) (cm:Nat) (hw:in64 vw):(voW vw cm).length≤1000:=by
 unfold voW
 have h1:=yw hw.1 hw.2
 have h3:=yt cm
 have f1:=zV (Lib.itoa vw)
 have f3:=zV (hexL cm)
 have f4:=zV tagVote
 have h5:tagVote.length=4:=rfl
 simp only [joinF,List.flatMap_cons,List.flatMap_nil,List.length_append,List.length_cons,List.length_nil]
 omega
theorem zew (vw:Int) (cm:Nat) (hc:cm<18446744073709551616) (hw:in64 vw) (w:World) (hS:Std w) :
 Calls Tryz.prog 37 #[.int .i64 vw,.int .u64 (cm:Nat)] w fun e w'=>e=.returned (.string ⟨(voW vw cm).toArray⟩)∧Grew w w':=by
 have HS:=hQ9 hS
 have hlen:=jn vw cm hw
 have C0:=hQ9 (fun W hW=>kj cm (show U64n cm from hc) W hW)
 have C1:=hQ9 (fun W hW=>kT vw hw W hW)
 have CJ:Hid (∀(A4:Option Addr) (W:World),Rd W W.heap.size A4 (strL [⟨#[118,111,116,101]⟩,⟨(Lib.itoa vw).toArray⟩,hexB cm])→Calls Tryz.prog 86 #[.slice A4 3 3] W fun e w'=>e=.returned (.string ⟨(voW vw cm).toArray⟩)∧Grew W w'):=hQ9 (fun A4 W hR=>by
  have:=jh A4 3 [⟨#[118,111,116,101]⟩,⟨(Lib.itoa vw).toArray⟩,hexB cm] (by simp) (by simp only [voW]at hlen;simp [bys,hexB,tagVote]at hlen ⊢;omega) W hR
  simpa [bys,voW,hexB,tagVote]using this)
 clear hS hc hw hlen
 generalize (⟨(voW vw cm).toArray⟩:ByteArray)=tj at *
 generalize hexB cm=t0 at *
 generalize (⟨(Lib.itoa vw).toArray⟩:ByteArray)=t1 at *
 go_enter Tryz.func37,Tryz.ntmps37
 go_wp2_with fail
 refine(C1.out w HS.out).mono ?_
 rintro e w1 ⟨rfl,g1⟩
 go_wp2_with fail
 refine(C0.out w1 (HS.out.grew g1)).mono ?_
 rintro e w2 ⟨rfl,gg⟩
 have g2:=ze g1 gg
 clear g1 gg
 go_wp2_with fail
 refine(CJ.out _ _ (ji w2 _ #[.string ⟨#[118,111,116,101]⟩,.string t1,.string t0])).mono ?_
 rintro e w4 ⟨rfl,gg⟩
 have g4:=ze (zg g2 _) gg
 clear g2 gg
 go_wp2_with fail
 go_ret
 exact⟨rfl,g4⟩
theorem jG (vw:Int) (cm:Nat) (hc:cm<18446744073709551616) (hw:in64 vw) (w:World) (hS:Std w) :
 Calls Tryz.prog 35 #[.int .i64 vw,.int .u64 (cm:Nat)] w fun e w'=>e=.returned (.int .u64 (voD vw cm:Nat))∧Grew w w':=by
 have CW:=hQ9 (zew vw cm hc hw w hS)
 have CH:=hQ9 (fun W=>qA ⟨#[118,111,116,101]⟩ ⟨(voW vw cm).toArray⟩ (by decide) (by have:=jn vw cm hw;simp [ByteArray.size];omega) W)
 have e1:sumL (⟨#[118,111,116,101]⟩:ByteArray).data.toList (⟨(voW vw cm).toArray⟩:ByteArray).data.toList=voD vw cm:=by simp [voD,tagVote]
 rw [e1]at CH
 clear e1 hc hw hS
 generalize voD vw cm=d at *
 generalize (⟨(voW vw cm).toArray⟩:ByteArray)=tj at *
 go_enter Tryz.func35,Tryz.ntmps35
 go_wp2_with fail
 refine(CW.out).mono ?_
 rintro e w1 ⟨rfl,g1⟩
 go_wp2_with fail
 refine(CH.out w1).mono ?_
 rintro e w2 ⟨rfl,rfl⟩
 go_wp2_with fail
 go_ret
 exact⟨rfl,g1⟩
def voC (vw:Int) (cm:Nat) (who sw lf:Int) (s:Nat→Nat) (pv:Value):Array Value:=#[.int .i64 vw,.int .u64 (cm:Nat),.int .i64 who,.int .i64 sw,.int .i64 lf,u64V (s 0),u64V (s 1),u64V (s 2),u64V (s 3),u64V (s 4),u64V (s 5),u64V (s 6),u64V (s 7),u64V (s 8),u64V (s 9),u64V (s 10),u64V (s 11),u64V (s 12),u64V (s 13),u64V (s 14),u64V (s 15),u64V (s 16),u64V (s 17),pv]
theorem km (vw:Int) (cm:Nat) (who sw lf:Int) (s:Nat→Nat) (A:Option Addr) (n c:Nat):(voC vw cm who sw lf s (.slice A n c)).all (·.oneCell')=true:=by simp [voC,u64V,Value.oneCell']
theorem zH:(Tryz.prog.info? 69).map (·.size)=some 24:=by kernel_rfl
theorem zii (vw:Int) (cm:Nat) (who sw lf:Int) (s:Nat→Nat) (A:Option Addr) (n c:Nat):Tryz.prog.built 69 [(0,.int .i64 vw),(1,.int .u64 (cm:Nat)),(2,.int .i64 who),(3,.agg (sgC sw lf s (.slice A n c)))]=some (voC vw cm who sw lf s (.slice A n c)):=by kernel_rfl
theorem xA {w:World} {b:Nat} {vw:Int} {cm:Nat} {who sw lf:Int} {s:Nat→Nat} {pv:Value} (h:w.rangeAt b 0 (voC vw cm who sw lf s pv).toList):w.rangeAt b 3 (sgC sw lf s pv).toList:=by
 have:w.rangeAt b (0+3) (sgC sw lf s pv).toList:=kS (m:=3) h (qg 3 rfl)
 rwa [Nat.zero_add]at this
theorem zgi (vw:Int) (cm:Nat) (who sw lf:Int) (s:Nat→Nat) (A:Option Addr) (c:Nat) (l:List Nat) (hc:cm<18446744073709551616) (hv:in64 vw) (w:World) (hS:Std w) :
 Calls Tryz.prog 96 #[.agg (voC vw cm who sw lf s (.slice A l.length c))] w fun e w'=>e=.returned (.agg (mkC who (voD vw cm) sw lf s (.slice A l.length c)))∧Grew w w':=by
 have z0:=Ag.new w 69 (voC vw cm who sw lf s (.slice A l.length c))
 have g0:=zg (zc w) (.cells (voC vw cm who sw lf s (.slice A l.length c)) 69)
 have hus:=Tryz.underlying67
 have HSI:Hid ((Tryz.prog.info? 67).map (·.size)=some (sgC sw lf s (.slice A l.length c)).toList.length):=hQ9 zL
 have HS:=hQ9 hS
 have hum:=Tryz.underlying247
 have CD:=hQ9 (fun W hW=>jG vw cm hc hv W hW)
 obtain⟨d,hd⟩:∃ d,voD vw cm=d:=⟨_,rfl⟩
 rw [hd]at CD ⊢
 have HBU:=hQ9 (zb6 who d sw lf s A l.length c)
 have zm:Ag ((w.alloc (.cells (voC vw cm who sw lf s (.slice A l.length c)) 69)).alloc (.cells (#[.int .i64 0,.int .u64 0,.int .i64 0,.int .i64 0,.int .u64 0,.int .u64 0,.int .u64 0,.int .u64 0,.int .u64 0,.int .u64 0,.int .u64 0,.int .u64 0,.int .u64 0,.int .u64 0,.int .u64 0,.int .u64 0,.int .u64 0,.int .u64 0,.int .u64 0,.int .u64 0,.int .u64 0,.int .u64 0,.slice none 0 0]) 247)) (w.heap.size+1) (#[.int .i64 0,.int .u64 0,.int .i64 0,.int .i64 0,.int .u64 0,.int .u64 0,.int .u64 0,.int .u64 0,.int .u64 0,.int .u64 0,.int .u64 0,.int .u64 0,.int .u64 0,.int .u64 0,.int .u64 0,.int .u64 0,.int .u64 0,.int .u64 0,.int .u64 0,.int .u64 0,.int .u64 0,.int .u64 0,.slice none 0 0]:Array Value).toList:=by
  have:=Ag.new (w.alloc (.cells (voC vw cm who sw lf s (.slice A l.length c)) 69)) 247 (#[.int .i64 0,.int .u64 0,.int .i64 0,.int .i64 0,.int .u64 0,.int .u64 0,.int .u64 0,.int .u64 0,.int .u64 0,.int .u64 0,.int .u64 0,.int .u64 0,.int .u64 0,.int .u64 0,.int .u64 0,.int .u64 0,.int .u64 0,.int .u64 0,.int .u64 0,.int .u64 0,.int .u64 0,.int .u64 0,.slice none 0 0])
  simpa using this
 have z1:=z0.grew (zg (zc _) (.cells (#[.int .i64 0,.int .u64 0,.int .i64 0,.int .i64 0,.int .u64 0,.int .u64 0,.int .u64 0,.int .u64 0,.int .u64 0,.int .u64 0,.int .u64 0,.int .u64 0,.int .u64 0,.int .u64 0,.int .u64 0,.int .u64 0,.int .u64 0,.int .u64 0,.int .u64 0,.int .u64 0,.int .u64 0,.int .u64 0,.slice none 0 0]) 247))
 have g1:=zg g0 (.cells (#[.int .i64 0,.int .u64 0,.int .i64 0,.int .i64 0,.int .u64 0,.int .u64 0,.int .u64 0,.int .u64 0,.int .u64 0,.int .u64 0,.int .u64 0,.int .u64 0,.int .u64 0,.int .u64 0,.int .u64 0,.int .u64 0,.int .u64 0,.int .u64 0,.int .u64 0,.int .u64 0,.int .u64 0,.int .u64 0,.slice none 0 0]) 247)
 clear hd hS hc hv z0 g0
 go_enter Tryz.func96,Tryz.ntmps96
 go_wp2_with fail
 generalize (w.alloc (.cells (voC vw cm who sw lf s (.slice A l.length c)) 69)).alloc (.cells (#[.int .i64 0,.int .u64 0,.int .i64 0,.int .i64 0,.int .u64 0,.int .u64 0,.int .u64 0,.int .u64 0,.int .u64 0,.int .u64 0,.int .u64 0,.int .u64 0,.int .u64 0,.int .u64 0,.int .u64 0,.int .u64 0,.int .u64 0,.int .u64 0,.int .u64 0,.int .u64 0,.int .u64 0,.int .u64 0,.slice none 0 0]) 247)=w1 at *
 have G0:=hQ9 g1
 have HC0:Hid (∀ y,Grew w1 y→y.cell? ⟨w.heap.size,0,none⟩=some (.int .i64 vw)):=hQ9 (fun y g=>by simpa using (z1.grew g).cell 0 _ rfl)
 have HC1:Hid (∀ y,Grew w1 y→y.cell? ⟨w.heap.size,1,none⟩=some (.int .u64 (cm:Nat))):=hQ9 (fun y g=>by simpa using (z1.grew g).cell 1 _ rfl)
 have HC2:Hid (∀ y,Grew w1 y→y.cell? ⟨w.heap.size,2,none⟩=some (.int .i64 who)):=hQ9 (fun y g=>by simpa using (z1.grew g).cell 2 _ rfl)
 have HCM:Hid (∀ y,Grew w1 y→y.rangeAt w.heap.size 3 (sgC sw lf s (.slice A l.length c)).toList):=hQ9 (fun y g=>xA (z1.grew g).cell)
 clear z1 g1
 refine zy 10 (fun ix9=>match ix9 with
  | 0=>fun v _=>v=.pointer (some ⟨w.heap.size,2,none⟩)
  | 1=>fun v _=>v=.int .i64 who
  | 2=>fun v _=>v=.pointer (some ⟨w.heap.size,0,none⟩)
  | 3=>fun v _=>v=.int .i64 vw
  | 4=>fun v _=>v=.pointer (some ⟨w.heap.size,1,none⟩)
  | 5=>fun v _=>v=.int .u64 (cm:Nat)
  | 6=>fun v _=>v=.int .u64 (d:Nat)
  | 7=>fun v _=>v=.pointer (some ⟨w.heap.size,3,none⟩)
  | 8=>fun v _=>v=.agg (sgC sw lf s (.slice A l.length c))
  | 9=>fun v _=>v=.agg (mkC who d sw lf s (.slice A l.length c))
  | _=>fun _ _=>True) (by kernel_rfl) (by kernel_rfl) ?_ ?_ ?_
 ·intro i v x y h hg
  match i,h with
  | 0,h | 1,h | 2,h | 3,h | 4,h | 5,h | 6,h | 7,h | 8,h | 9,h=>exact h
  | m+10,_=>trivial
 ·simp only [actOf,tk1,tk0,dr1,dr0,Act.put,si1,st1,st0,Nat.reduceAdd]
  refine⟨?_,?_,?_,?_,?_,?_,?_,?_,?_,?_,trivial⟩
  ·intro vs y hg hd
   dsimp only
   go_wp2_with fail
   exact⟨rfl,_,rfl,zc _,rfl⟩
  ·intro vs y hg hd
   obtain⟨h0,_⟩:=hd
   replace h0:=h0 rfl
   dsimp only
   rw [show vs 0=_ from h0]
   have hc:=HC2.out y hg
   go_wp2_with fail
   exact⟨rfl,_,rfl,zc _,rfl⟩
  ·intro vs y hg hd
   dsimp only
   go_wp2_with fail
   exact⟨rfl,_,rfl,zc _,rfl⟩
  ·intro vs y hg hd
   obtain⟨h2,_⟩:=hd
   replace h2:=h2 rfl
   dsimp only
   rw [show vs 2=_ from h2]
   have hc:=HC0.out y hg
   go_wp2_with fail
   exact⟨rfl,_,rfl,zc _,rfl⟩
  ·intro vs y hg hd
   dsimp only
   go_wp2_with fail
   exact⟨rfl,_,rfl,zc _,rfl⟩
  ·intro vs y hg hd
   obtain⟨h4,_⟩:=hd
   replace h4:=h4 rfl
   dsimp only
   rw [show vs 4=_ from h4]
   have hc:=HC1.out y hg
   go_wp2_with fail
   exact⟨rfl,_,rfl,zc _,rfl⟩
  ·intro vs y hg hd
   obtain⟨h3,h5,_⟩:=hd
   replace h3:=h3 rfl
   replace h5:=h5 rfl
   dsimp only
   rw [show vs 3=_ from h3,show vs 5=_ from h5]
   go_wp2_with(go_at_call 35;refine(CD.out y (HS.out.grew (ze G0.out hg))).mono ?_;rintro e z ⟨rfl,gz⟩)
   exact⟨rfl,_,rfl,gz,rfl⟩
  ·intro vs y hg hd
   dsimp only
   go_wp2_with fail
   exact⟨rfl,_,rfl,zc _,rfl⟩
  ·intro vs y hg hd
   obtain⟨h7,_⟩:=hd
   replace h7:=h7 rfl
   dsimp only
   rw [show vs 7=_ from h7]
   have hm:=HCM.out y hg
   go_wp2_with(with_reducible refine wpList_load_mid rfl 67 (.tmp 10) rfl w.heap.size 3 rfl (sgC sw lf s (.slice A l.length c)).toList _ hm hus rfl HSI.out ?_)
   exact⟨rfl,_,rfl,zc _,rfl⟩
  ·intro vs y hg hd
   obtain⟨h1,h6,h8,_⟩:=hd
   replace h1:=h1 rfl
   replace h6:=h6 rfl
   replace h8:=h8 rfl
   dsimp only
   rw [show vs 1=_ from h1,show vs 6=_ from h6,show vs 8=_ from h8]
   refine zC rfl 247 #[(0,.tmp 4),(1,.tmp 9),(2,.tmp 11)] rfl _ (by simpa [Act.eval]using HBU.out) ?_
   go_wp2_with fail
   exact⟨rfl,_,rfl,zc _,rfl⟩
 ·intro vs y hg hJ
  have j0:vs 0=.pointer (some ⟨w.heap.size,2,none⟩):=hJ 0 (by decide)
  have j1:vs 1=.int .i64 who:=hJ 1 (by decide)
  have j2:vs 2=.pointer (some ⟨w.heap.size,0,none⟩):=hJ 2 (by decide)
  have j3:vs 3=.int .i64 vw:=hJ 3 (by decide)
  have j4:vs 4=.pointer (some ⟨w.heap.size,1,none⟩):=hJ 4 (by decide)
  have j5:vs 5=.int .u64 (cm:Nat):=hJ 5 (by decide)
  have j6:vs 6=.int .u64 (d:Nat):=hJ 6 (by decide)
  have j7:vs 7=.pointer (some ⟨w.heap.size,3,none⟩):=hJ 7 (by decide)
  have j8:vs 8=.agg (sgC sw lf s (.slice A l.length c)):=hJ 8 (by decide)
  have j9:vs 9=.agg (mkC who d sw lf s (.slice A l.length c)):=hJ 9 (by decide)
  clear hJ
  simp only [actOf,tk1,tk0,dr1,dr0,Act.put,si1,st1,st0,Nat.reduceAdd]
  rw [j9]
  clear j0 j1 j2 j3 j4 j5 j6 j7 j8 j9
  have z2:=zm.grew hg
  have HTH:Hid (y.there (w.heap.size+1) 0 (mkC who d sw lf s (.slice A l.length c)).size):=hQ9 (z2.thereN 23 rfl)
  have HSM:Hid ((Tryz.prog.info? 247).map (·.size)=some (mkC who d sw lf s (.slice A l.length c)).size):=hQ9 xJ
  have HON:=hQ9 (jm who d sw lf s A l.length c)
  have z3:=Ag.set (vs:=(mkC who d sw lf s (.slice A l.length c)).toList) z2 rfl
  have G3:=zi (o:=0) (b:=w.heap.size+1) (mkC who d sw lf s (.slice A l.length c)).toList (ze G0.out hg) (by omega)
  go_wp2_with(with_reducible refine wpList_store_mid rfl 247 (.tmp 2) (.tmp 12) rfl (w.heap.size+1) 0 (mkC who d sw lf s (.slice A l.length c)) rfl rfl HTH.out HSM.out HON.out ?_)
  exact bodyPost_ret (zM Tryz.results96 _ _ (w.heap.size+1) _ _ rfl z3 hum rfl xJ) rfl ⟨rfl,G3⟩
end Go.Proofs.YtidjnnnigcmdpaaGreatDoor
