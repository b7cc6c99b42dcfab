/- Contracts of package merkle: pairs. -/
import Derived.StillTailTactics
import Derived.Deep.RegionHeld3
import Derived.Deep.AppendLies
import Derived.IntWalk
import Derived.OwnWalk
import Derived.Test.YtkpnheenacchhaaGreatDoorJah
import Derived.Test.YtkpnheenacchhaaGreatDoorJbb
import Derived.Outline
import Derived.Test.YtkpnheenacchhaaGreatDoorJan
import Derived.Test.YtkpnheenacchhaaGreatDoorJae
import Derived.Laws.BitsAllLaws
import Derived.Laws.BitsLemmas
import Derived.Deep.QuietTactic
import Derived.BigQuiet
set_option linter.unusedSimpArgs false
set_option linter.unusedVariables false
namespace Go.Proofs.YtkpnheenacchhaaGreatDoor
open Go.RowKit
def u64L (l:List Nat):List Value:=l.map fun n=>.int .u64 (n:Nat)
theorem zM (l:List Nat):(u64L l).length=l.length:=by simp [u64L]
theorem jD (l:List Nat) (k:Nat) (h:k<(u64L l).length):(u64L l)[k]=.int .u64 ((l[k]'(by simpa [u64L]using h):Nat):Int):=by simp [u64L]
theorem rd_u64 {w:World} {B:Nat} {A:Option Addr} {l:List Nat} (h:Rd w B A (u64L l)) (k:Nat) (hk:k<l.length):∃ ad,A=some ad∧ad.block<B∧w.cell? (ad.add k)=some (.int .u64 ((l[k]:Nat):Int)):=by
 obtain⟨ad,h1,h2,h3⟩:=h k (by rw [zM];exact hk)
 exact⟨ad,h1,h2,by rw [h3,jD]⟩
def lenOf:Value→Nat
 | .slice _ n _=>n
 | _=>0
def kyC (who sd:Int) (p n:Nat) (nx rs:Int):Array Value:=#[.int .i64 who,.int .u64 sd,.slice (some ⟨p,0,none⟩) n n,.int .i64 nx,.int .i64 rs]
structure KyAt (w:World) (b p:Nat) (who sd:Int) (l:List Nat) (nx rs:Nat):Prop where
 key:Bk w b 281 (kyC who sd p l.length nx rs)
 pub:Bk w p 72 (u64L l).toArray
 ne:p≠b
theorem x5 {w w':World} {b:Nat} {t:TypeId} {cs:Array Value} (h:Bk w b t cs) (hg:Grew w w'):Bk w' b t cs:=(hg.block b h.lt).trans h
theorem KyAt.grew {w w':World} {b p:Nat} {who sd:Int} {l:List Nat} {nx rs:Nat} (h:KyAt w b p who sd l nx rs) (hg:Grew w w'):KyAt w' b p who sd l nx rs:=⟨x5 h.key hg,x5 h.pub hg,h.ne⟩
theorem KyAt.drewN {w:World} {b p:Nat} {who sd:Int} {l:List Nat} {nx rs:Nat} (h:KyAt w b p who sd l nx rs) (n:Nat):KyAt (w.drewN n) b p who sd l nx rs:=⟨h.key.drewN n,h.pub.drewN n,h.ne⟩
section
variable {w : World} {b p : Nat} {who sd : Int} {l : List Nat} {nx rs : Nat}
theorem KyAt.c0 (h:KyAt w b p who sd l nx rs):w.cell? ⟨b,0,none⟩=some (.int .i64 who):=h.key.cell 0
theorem KyAt.c1 (h:KyAt w b p who sd l nx rs):w.cell? ⟨b,1,none⟩=some (.int .u64 sd):=h.key.cell 1
theorem KyAt.c2 (h:KyAt w b p who sd l nx rs):w.cell? ⟨b,2,none⟩=some (.slice (some ⟨p,0,none⟩) l.length l.length):=h.key.cell 2
theorem KyAt.c3 (h:KyAt w b p who sd l nx rs):w.cell? ⟨b,3,none⟩=some (.int .i64 nx):=h.key.cell 3
theorem KyAt.c4 (h:KyAt w b p who sd l nx rs):w.cell? ⟨b,4,none⟩=some (.int .i64 rs):=h.key.cell 4
end
theorem bk_rd {w:World} {b:Nat} {t:TypeId} {cs:Array Value} (h:Bk w b t cs):Rd w w.heap.size (some ⟨b,0,none⟩) cs.toList:=by
 intro k hk
 refine⟨_,rfl,h.lt,?_⟩
 have ha:(⟨b,0,none⟩:Addr).add k=⟨b,k,none⟩:=by
  unfold Addr.add
  split
  ·rename_i h
   subst h
   rfl
  ·simp
 rw [ha,h.cell k,Array.getElem?_eq_getElem (by simpa using hk)]
 simp
theorem KyAt.rd {w:World} {b p:Nat} {who sd:Int} {l:List Nat} {nx rs:Nat} (h:KyAt w b p who sd l nx rs):Rd w w.heap.size (some ⟨p,0,none⟩) (u64L l):=by
 have:=bk_rd h.pub
 simpa using this
noncomputable def kA:Nat:=twoN tagMt 1 2
end Go.Proofs.YtkpnheenacchhaaGreatDoor
