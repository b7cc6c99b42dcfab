/- A report without certs: its cells, Words, Digest, mark; isInterval (mkrpa.py). -/
import Derived.Test.YtidjnnnigcmdpaaGreatDoorJzz
import Derived.Deep.Cut
import Derived.StillTailTactics
import Derived.Test.YtidjnnnigcmdpaaGreatDoorJbe
import Derived.Test.YtidjnnnigcmdpaaGreatDoorJaf
set_option maxHeartbeats 2000000
set_option maxRecDepth 100000
set_option linter.unusedSimpArgs false
set_option linter.unusedVariables false
set_option linter.unnecessarySimpa false
namespace Go.Proofs.YtidjnnnigcmdpaaGreatDoor
open Go.RowKit
def ivB (lo hi:Int):Bool:=decide (0≤lo)&&(decide (lo<hi)&&decide (hi≤1099511627776))
theorem zbg (lo hi:Int) (w:World):Calls Tryz.prog 129 #[.int .i64 lo,.int .i64 hi] w fun e w'=>e=.returned (.bool (ivB lo hi))∧w=w':=by
 unfold ivB
 by_cases h1:0≤lo
 ·have e1:decide (0≤lo)=true:=decide_eq_true h1
  rw [e1,Bool.true_and]
  by_cases h2:lo<hi
  ·have e2:decide (lo<hi)=true:=decide_eq_true h2
   rw [e2,Bool.true_and]
   obtain⟨b,hb⟩:∃ b,decide (hi≤1099511627776)=b:=⟨_,rfl⟩
   rw [hb]
   clear h1 h2
   go_enter Tryz.func129,Tryz.ntmps129
   go_wp2_with fail
   go_ret
   exact⟨rfl,rfl⟩
  ·have e2:decide (lo<hi)=false:=decide_eq_false h2
   rw [e2,Bool.false_and]
   clear h1 h2
   go_enter Tryz.func129,Tryz.ntmps129
   go_wp2_with fail
   go_ret
   exact⟨rfl,rfl⟩
 ·have e1:decide (0≤lo)=false:=decide_eq_false h1
  rw [e1,Bool.false_and]
  clear h1
  go_enter Tryz.func129,Tryz.ntmps129
  go_wp2_with fail
  go_ret
  exact⟨rfl,rfl⟩
def tagCut:List UInt8:=[99,117,116]
def rpW (who lo hi:Int):List UInt8:=joinF [tagCut,Lib.itoa who,Lib.itoa lo,Lib.itoa hi]
noncomputable def rpD (who lo hi:Int):Nat:=sumL tagCut (rpW who lo hi)
theorem zgj (who lo hi:Int):rpD who lo hi<18446744073709551616:=yV _ _
theorem zdr (who lo hi:Int) (hw:in64 who) (hl:in64 lo) (hh:in64 hi):(rpW who lo hi).length≤1000:=by
 unfold rpW
 have h1:=yw hw.1 hw.2
 have h2:=yw hl.1 hl.2
 have h3:=yw hh.1 hh.2
 have f1:=zV (Lib.itoa who)
 have f2:=zV (Lib.itoa lo)
 have f3:=zV (Lib.itoa hi)
 have f4:=zV tagCut
 have h5:tagCut.length=3:=rfl
 simp only [joinF,List.flatMap_cons,List.flatMap_nil,List.length_append,List.length_cons,List.length_nil]
 omega
def rpC (who lo hi:Int) (cv:Value) (sw lf:Int) (s:Nat→Nat) (pv:Value):Array Value:=#[.int .i64 who,.int .i64 lo,.int .i64 hi,cv,.int .i64 sw,.int .i64 lf,u64V (s 0),u64V (s 1),u64V (s 2),u64V (s 3),u64V (s 4),u64V (s 5),u64V (s 6),u64V (s 7),u64V (s 8),u64V (s 9),u64V (s 10),u64V (s 11),u64V (s 12),u64V (s 13),u64V (s 14),u64V (s 15),u64V (s 16),u64V (s 17),pv]
theorem zac (who lo hi:Int) (CA:Option Addr) (ck:Nat) (sw lf:Int) (s:Nat→Nat) (A:Option Addr) (n c:Nat):(rpC who lo hi (.slice CA 0 ck) sw lf s (.slice A n c)).all (·.oneCell')=true:=by simp [rpC,u64V,Value.oneCell']
theorem y5:(Tryz.prog.info? 149).map (·.size)=some 25:=by kernel_rfl
structure FourW (w:World) (l:List ByteArray) (v:Value):Prop where
 out:∃ A,v=.slice A 4 4∧Rd w w.heap.size A (strL l)
theorem FourW.gr {w w':World} {l:List ByteArray} {v:Value} (h:FourW w l v) (g:Grew w w'):FourW w' l v:=by
 obtain⟨A,h1,h2⟩:=h.out
 exact⟨A,h1,h2.gr g⟩
theorem zex (who lo hi:Int) (CA:Option Addr) (ck:Nat) (sw lf:Int) (s:Nat→Nat) (A:Option Addr) (c:Nat) (l:List Nat) (hw:in64 who) (hlo:in64 lo) (hhi:in64 hi) (w:World) (hS:Std w) :
 Calls Tryz.prog 140 #[.agg (rpC who lo hi (.slice CA 0 ck) sw lf s (.slice A l.length c))] w fun e w'=>e=.returned (.string ⟨(rpW who lo hi).toArray⟩)∧Grew w w':=by
 have z0:=Ag.new w 149 (rpC who lo hi (.slice CA 0 ck) sw lf s (.slice A l.length c))
 have g0:=zg (zc w) (.cells (rpC who lo hi (.slice CA 0 ck) sw lf s (.slice A l.length c)) 149)
 have HS:=hQ9 hS
 have hlen:=zdr who lo hi hw hlo hhi
 have C1:=hQ9 (fun W hW=>xk who hw.1 hw.2 W hW)
 have C2:=hQ9 (fun W hW=>xk lo hlo.1 hlo.2 W hW)
 have C3:=hQ9 (fun W hW=>xk hi hhi.1 hhi.2 W hW)
 have CJ:Hid (∀(A4:Option Addr) (W:World),Rd W W.heap.size A4 (strL [⟨#[99,117,116]⟩,⟨(Lib.itoa who).toArray⟩,⟨(Lib.itoa lo).toArray⟩,⟨(Lib.itoa hi).toArray⟩])→Calls Tryz.prog 86 #[.slice A4 4 4] W fun e w'=>e=.returned (.string ⟨(rpW who lo hi).toArray⟩)∧Grew W w'):=hQ9 (fun A4 W hR=>by
  have:=jh A4 4 [⟨#[99,117,116]⟩,⟨(Lib.itoa who).toArray⟩,⟨(Lib.itoa lo).toArray⟩,⟨(Lib.itoa hi).toArray⟩] (by simp) (by simp only [rpW]at hlen;simp [bys,tagCut]at hlen ⊢;omega) W hR
  simpa [bys,rpW,tagCut]using this)
 clear hS hlen hw hlo hhi
 generalize (⟨(rpW who lo hi).toArray⟩:ByteArray)=tj at *
 generalize (⟨(Lib.itoa who).toArray⟩:ByteArray)=t1 at *
 generalize (⟨(Lib.itoa lo).toArray⟩:ByteArray)=t2 at *
 generalize (⟨(Lib.itoa hi).toArray⟩:ByteArray)=t3 at *
 go_enter Tryz.func140,Tryz.ntmps140
 go_upto_region 1 with fail
 generalize w.alloc (.cells (rpC who lo hi (.slice CA 0 ck) sw lf s (.slice A l.length c)) 149)=w1 at *
 have G0:=hQ9 g0
 have HC0:Hid (∀ y,Grew w1 y→y.cell? ⟨w.heap.size,0,none⟩=some (.int .i64 who)):=hQ9 (fun y g=>by simpa using (z0.grew g).cell 0 _ rfl)
 have HC1:Hid (∀ y,Grew w1 y→y.cell? ⟨w.heap.size,1,none⟩=some (.int .i64 lo)):=hQ9 (fun y g=>by simpa using (z0.grew g).cell 1 _ rfl)
 have HC2:Hid (∀ y,Grew w1 y→y.cell? ⟨w.heap.size,2,none⟩=some (.int .i64 hi)):=hQ9 (fun y g=>by simpa using (z0.grew g).cell 2 _ rfl)
 have HC3:Hid (∀ y,Grew w1 y→y.cell? ⟨w.heap.size,3,none⟩=some (.slice CA 0 ck)):=hQ9 (fun y g=>by simpa using (z0.grew g).cell 3 _ rfl)
 clear z0 g0
 refine zy 10 (fun ix9=>match ix9 with
  | 0=>fun v _=>v=.pointer (some ⟨w.heap.size,0,none⟩)
  | 1=>fun v _=>v=.int .i64 who
  | 2=>fun v _=>v=.string t1
  | 3=>fun v _=>v=.pointer (some ⟨w.heap.size,1,none⟩)
  | 4=>fun v _=>v=.int .i64 lo
  | 5=>fun v _=>v=.string t2
  | 6=>fun v _=>v=.pointer (some ⟨w.heap.size,2,none⟩)
  | 7=>fun v _=>v=.int .i64 hi
  | 8=>fun v _=>v=.string t3
  | 9=>fun v z=>FourW z [⟨#[99,117,116]⟩,t1,t2,t3] v
  | _=>fun _ _=>True) (by kernel_rfl) (by kernel_rfl) ?_ ?_ ?_
 ·intro i v x y h hg
  match i,h with
  | 0,h | 1,h | 2,h | 3,h | 4,h | 5,h | 6,h | 7,h | 8,h=>exact h
  | 9,h=>exact FourW.gr h hg
  | m+10,_=>trivial
 ·simp only [actOf,tk1,tk0,dr1,dr0,Act.put,si1,st1,st0,Nat.reduceAdd]
  refine⟨?_,?_,?_,?_,?_,?_,?_,?_,?_,?_,trivial⟩
  ·intro vs y hg hd
   dsimp only
   go_wp2_with fail
   exact⟨rfl,_,rfl,zc _,rfl⟩
  ·intro vs y hg hd
   obtain⟨h0,_⟩:=hd
   replace h0:=h0 rfl
   dsimp only
   rw [show vs 0=_ from h0]
   have hc:=HC0.out y hg
   go_wp2_with fail
   exact⟨rfl,_,rfl,zc _,rfl⟩
  ·intro vs y hg hd
   obtain⟨h1,_⟩:=hd
   replace h1:=h1 rfl
   dsimp only
   rw [show vs 1=_ from h1]
   go_wp2_with(go_at_call 84;refine(C1.out y (HS.out.grew (ze G0.out hg))).mono ?_;rintro e z ⟨rfl,gz⟩)
   exact⟨rfl,_,rfl,gz,rfl⟩
  ·intro vs y hg hd
   dsimp only
   go_wp2_with fail
   exact⟨rfl,_,rfl,zc _,rfl⟩
  ·intro vs y hg hd
   obtain⟨h3,_⟩:=hd
   replace h3:=h3 rfl
   dsimp only
   rw [show vs 3=_ from h3]
   have hc:=HC1.out y hg
   go_wp2_with fail
   exact⟨rfl,_,rfl,zc _,rfl⟩
  ·intro vs y hg hd
   obtain⟨h4,_⟩:=hd
   replace h4:=h4 rfl
   dsimp only
   rw [show vs 4=_ from h4]
   go_wp2_with(go_at_call 84;refine(C2.out y (HS.out.grew (ze G0.out hg))).mono ?_;rintro e z ⟨rfl,gz⟩)
   exact⟨rfl,_,rfl,gz,rfl⟩
  ·intro vs y hg hd
   dsimp only
   go_wp2_with fail
   exact⟨rfl,_,rfl,zc _,rfl⟩
  ·intro vs y hg hd
   obtain⟨h6,_⟩:=hd
   replace h6:=h6 rfl
   dsimp only
   rw [show vs 6=_ from h6]
   have hc:=HC2.out y hg
   go_wp2_with fail
   exact⟨rfl,_,rfl,zc _,rfl⟩
  ·intro vs y hg hd
   obtain⟨h7,_⟩:=hd
   replace h7:=h7 rfl
   dsimp only
   rw [show vs 7=_ from h7]
   go_wp2_with(go_at_call 84;refine(C3.out y (HS.out.grew (ze G0.out hg))).mono ?_;rintro e z ⟨rfl,gz⟩)
   exact⟨rfl,_,rfl,gz,rfl⟩
  ·intro vs y hg hd
   obtain⟨h2,h5,h8,_⟩:=hd
   replace h2:=h2 rfl
   replace h5:=h5 rfl
   replace h8:=h8 rfl
   dsimp only
   rw [show vs 2=_ from h2,show vs 5=_ from h5,show vs 8=_ from h8]
   go_wp2_with fail
   exact⟨rfl,_,rfl,zg (zc _) _,⟨_,rfl,ji y _ _⟩⟩
 ·intro vs y hg hJ
  have j0:vs 0=.pointer (some ⟨w.heap.size,0,none⟩):=hJ 0 (by decide)
  have j1:vs 1=.int .i64 who:=hJ 1 (by decide)
  have j2:vs 2=.string t1:=hJ 2 (by decide)
  have j3:vs 3=.pointer (some ⟨w.heap.size,1,none⟩):=hJ 3 (by decide)
  have j4:vs 4=.int .i64 lo:=hJ 4 (by decide)
  have j5:vs 5=.string t2:=hJ 5 (by decide)
  have j6:vs 6=.pointer (some ⟨w.heap.size,2,none⟩):=hJ 6 (by decide)
  have j7:vs 7=.int .i64 hi:=hJ 7 (by decide)
  have j8:vs 8=.string t3:=hJ 8 (by decide)
  have s15:=hJ 9 (by decide)
  clear hJ
  simp only [actOf,tk1,tk0,dr1,dr0,Act.put,si1,st1,st0,Nat.reduceAdd]
  obtain⟨A7,hv7,r7⟩:=s15.out
  rw [hv7]
  clear j0 j1 j2 j3 j4 j5 j6 j7 j8 s15 hv7
  have hc:=HC3.out y hg
  go_wp2_with fail
  go_loopw [3,19] (fun rv iv wr=>iv=.int .i64 0∧rv=.slice A7 4 4∧wr=y) (fun _ _ _=>0)
  case atStart=>exact⟨rfl,rfl,rfl⟩
  case round =>
   obtain⟨rfl,rfl,rfl⟩:=hrel
   go_wp2_with fail
   refine(CJ.out A7 _ r7).mono ?_
   rintro e z ⟨rfl,gz⟩
   go_wp2_with fail
   go_ret
   exact⟨rfl,ze (ze G0.out hg) gz⟩
theorem jH (who lo hi:Int) (CA:Option Addr) (ck:Nat) (sw lf:Int) (s:Nat→Nat) (A:Option Addr) (c:Nat) (l:List Nat) (hw:in64 who) (hlo:in64 lo) (hhi:in64 hi) (w:World) (hS:Std w) :
 Calls Tryz.prog 85 #[.agg (rpC who lo hi (.slice CA 0 ck) sw lf s (.slice A l.length c))] w fun e w'=>e=.returned (.int .u64 (rpD who lo hi:Nat))∧Grew w w':=by
 have hub:=Tryz.underlying149
 have SIC:Hid ((Tryz.prog.info? 149).map (·.size)=some (rpC who lo hi (.slice CA 0 ck) sw lf s (.slice A l.length c)).toList.length):=hQ9 y5
 have z1:=Ag.new w 149 (rpC who lo hi (.slice CA 0 ck) sw lf s (.slice A l.length c))
 have G1:=zg (zc w) (.cells (rpC who lo hi (.slice CA 0 ck) sw lf s (.slice A l.length c)) 149)
 have CW:=hQ9 (zex who lo hi CA ck sw lf s A c l hw hlo hhi _ (hS.grew G1))
 have CH:=hQ9 (fun W=>qA ⟨#[99,117,116]⟩ ⟨(rpW who lo hi).toArray⟩ (by decide) (by have:=zdr who lo hi hw hlo hhi;simp [ByteArray.size];omega) W)
 have e1:sumL (⟨#[99,117,116]⟩:ByteArray).data.toList (⟨(rpW who lo hi).toArray⟩:ByteArray).data.toList=rpD who lo hi:=by simp [rpD,tagCut]
 rw [e1]at CH
 have hm:=z1.cell
 clear e1 hS z1 hw hlo hhi
 generalize rpD who lo hi=d at *
 generalize (⟨(rpW who lo hi).toArray⟩:ByteArray)=tj at *
 generalize rpC who lo hi (.slice CA 0 ck) sw lf s (.slice A l.length c)=gc at *
 go_enter Tryz.func85,Tryz.ntmps85
 go_wp2_with(with_reducible refine wpList_load_mid rfl 149 (.tmp 1) rfl w.heap.size 0 rfl gc.toList _ hm hub rfl SIC.out ?_;simp only [Array.toArray_toList])
 refine(CW.out).mono ?_
 rintro e w1 ⟨rfl,g1⟩
 go_wp2_with fail
 refine(CH.out w1).mono ?_
 rintro e w2 ⟨rfl,rfl⟩
 go_wp2_with fail
 go_ret
 exact⟨rfl,ze G1 g1⟩
end Go.Proofs.YtidjnnnigcmdpaaGreatDoor
