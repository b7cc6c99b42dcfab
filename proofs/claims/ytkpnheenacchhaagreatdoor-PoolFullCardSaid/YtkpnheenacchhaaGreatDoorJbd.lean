/- key.New. -/
import Derived.Laws.MakeOwn
import Derived.Deep.OwnRows
import Derived.Test.YtkpnheenacchhaaGreatDoorJbc
import Derived.Test.YtkpnheenacchhaaGreatDoorJak
import Derived.Laws.Tables
import Derived.Laws.ResultCell
import Derived.Deep.MidRow
import Derived.ChangeKeysEq
import Derived.Test.YtkpnheenacchhaaGreatDoorJam
set_option linter.unusedSimpArgs false
set_option linter.unusedVariables false
namespace Go.Proofs.YtkpnheenacchhaaGreatDoor
open Go.RowKit
noncomputable def pubsL (sd:Int) (n:Nat):List Nat:=(List.range n).map fun i:Nat=>pubN (secN sd (i:Int))
def sgC (who leaf:Int) (s:Nat→Nat) (pv:Value):Array Value:=#[.int .i64 who,.int .i64 leaf,u64V (s 0),u64V (s 1),u64V (s 2),u64V (s 3),u64V (s 4),u64V (s 5),u64V (s 6),u64V (s 7),u64V (s 8),u64V (s 9),u64V (s 10),u64V (s 11),u64V (s 12),u64V (s 13),u64V (s 14),u64V (s 15),u64V (s 16),u64V (s 17),pv]
theorem x6 (who leaf:Int) (s:Nat→Nat) (A:Option Addr) (n c:Nat):(sgC who leaf s (.slice A n c)).all (·.oneCell')=true:=by simp [sgC,u64V,Value.oneCell']
theorem zU:(Tryz.prog.info? 77).map (·.size)=some 21:=by kernel_rfl
structure PV (w:World) (B:Nat) (l:List Nat) (v:Value):Prop where
 out:∃ A c,v=.slice A l.length c∧Rd w w.heap.size A (u64L l)∧(∀ ad,A=some ad→B≤ad.block)
structure PT (w:World) (B:Nat) (l:List Nat) (n:Int) (v:Value):Prop where
 out:∃ A c,v=.tuple #[.slice A l.length c,.int .i64 n]∧Rd w w.heap.size A (u64L l)∧(∀ ad,A=some ad→B≤ad.block)
theorem PV.gr {w w':World} {B:Nat} {l:List Nat} {v:Value} (h:PV w B l v) (g:Grew w w'):PV w' B l v:=by
 obtain⟨A,c,h1,h2,h3⟩:=h.out
 exact⟨A,c,h1,h2.gr g,h3⟩
theorem PT.gr {w w':World} {B:Nat} {l:List Nat} {n:Int} {v:Value} (h:PT w B l n v) (g:Grew w w'):PT w' B l n v:=by
 obtain⟨A,c,h1,h2,h3⟩:=h.out
 exact⟨A,c,h1,h2.gr g,h3⟩
structure NewAg (w:World) (B:Nat) (cs:List Value) (v:Value):Prop where
 out:∃ q,v=.pointer (some ⟨q,0,none⟩)∧Ag w q cs∧B≤q
theorem NewAg.gr {w w':World} {B:Nat} {cs:List Value} {v:Value} (h:NewAg w B cs v) (g:Grew w w'):NewAg w' B cs v:=by
 obtain⟨q,h1,h2,h3⟩:=h.out
 exact⟨q,h1,h2.grew g,h3⟩
theorem Rd.kp {S:Nat→Prop} {w w':World} {B:Nat} {A:Option Addr} {xs:List Value} (h:Rd w B A xs) (k:Kp S w w') (hB:B≤w.heap.size) (hS:∀ ad,A=some ad→ad.block<B→¬S ad.block):Rd w' B A xs:=by
 intro i hi
 obtain⟨ad,e,hb,hc⟩:=h i hi
 refine⟨ad,e,hb,?_⟩
 rw [←hc]
 exact World.cell?_of_block (by rw [zR];exact k.block ad.block (by omega) (hS ad e hb))
theorem KyAt.kp {S:Nat→Prop} {w w':World} {b p:Nat} {who sd:Int} {l:List Nat} {nx rs:Nat} (h:KyAt w b p who sd l nx rs) (k:Kp S w w') (h1:¬S b) (h2:¬S p):KyAt w' b p who sd l nx rs :=
 ⟨(k.block b h.key.lt h1).trans h.key,(k.block p h.pub.lt h2).trans h.pub,h.ne⟩
theorem Ag.gr {w:World} {b:Nat} {cs:List Value} (h:Ag w b cs) (y:Gr w):Ag y.val b cs:=h.grew y.ok
theorem sg_mid {w:World} {b:Nat} {who leaf:Int} {s:Nat→Nat} {pv:Value} (h:Ag w b (sgC who leaf s pv).toList):w.rangeAt b 2 (arrU s).toList:=by
 intro j v hj
 have hj':j<18:=by
  have:=(List.getElem?_eq_some_iff.1 hj).1
  simpa [arrU]using this
 have h2:=h.cell (2+j)
 rw [Nat.zero_add]at h2
 refine h2 v ?_
 rw [←hj]
 match j,hj' with
 | 0,_ | 1,_ | 2,_ | 3,_ | 4,_ | 5,_ | 6,_ | 7,_ | 8,_ | 9,_ | 10,_ | 11,_ | 12,_ | 13,_ | 14,_ | 15,_ | 16,_ | 17,_=>rfl
structure AgS (w:World) (B:Nat) (who leaf:Int) (s:Nat→Nat) (l:List Nat) (v:Value):Prop where
 out:∃ A c,v=.agg (sgC who leaf s (.slice A l.length c))∧Rd w w.heap.size A (u64L l)∧(∀ ad,A=some ad→B≤ad.block)
theorem AgS.gr {w w':World} {B:Nat} {who leaf:Int} {s:Nat→Nat} {l:List Nat} {v:Value} (h:AgS w B who leaf s l v) (g:Grew w w'):AgS w' B who leaf s l v:=by
 obtain⟨A,c,h1,h2,h3⟩:=h.out
 exact⟨A,c,h1,h2.gr g,h3⟩
theorem zy {P:Program} {fn:Func} {p:Tmp} {ty:TypeId} (h:fn.results=#[.cell p ty]) (tmps:Array Value) (w:World) (b:Nat) (cs:List Value) (d:TypeDesc)
 (hp:tmps.getD p undef=.pointer (some ⟨b,0,none⟩)) (hz:Ag w b cs) (hu:P.underlying ty=some d) (hd:d.isRow=true) (hi:(P.info? ty).map (·.size)=some cs.length) :
 (results fn tmps).run P w=.ok (.agg cs.toArray) w:=by
 have hp':tmps[p]?.getD undef=.pointer (some ⟨b,0,none⟩):=by simpa using hp
 simp [results,h,hp',asAddr,run_loadVar_mid w b 0 ty cs d hz.cell hu hd hi]
end Go.Proofs.YtkpnheenacchhaaGreatDoor
