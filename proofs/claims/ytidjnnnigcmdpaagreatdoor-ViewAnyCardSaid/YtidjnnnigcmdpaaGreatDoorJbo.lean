/- What a region made, between two sizes of the heap. -/
import Derived.Great.BuildSlice
import Derived.Test.YtidjnnnigcmdpaaGreatDoorJbl
set_option linter.unusedSimpArgs false
set_option linter.unusedVariables false
set_option linter.unnecessarySimpa false
namespace Go.Proofs.YtidjnnnigcmdpaaGreatDoor
open Go.RowKit
theorem at_kp {S:SP} {P:Nat→Prop} {w w':World} (h:S.at w) (k:Kp P w w') (hn:∀ ad,S.A=some ad→S.l=[]∨¬P ad.block):S.at w':=by
 by_cases hl:S.l=[]
 ·intro j hj;rw [hl]at hj;exact absurd hj (by simp [u64L])
 ·exact(Rd.kp h k (Nat.le_refl _) (fun ad e _=>by
   rcases hn ad e with h1 | h1
   ·exact absurd h1 hl
   ·exact h1)).more k.size
structure MkS (w:World) (B:Nat) (S0:SP) (lo hi:Nat) (v:Value) (f:Option Addr→Nat→Value):Prop where
 out:∃ A c,v=f A c∧(S0.mv A c).at w∧B≤lo∧(∀ ad,A=some ad→S0.l=[]∨(lo≤ad.block∧ad.block<hi))
theorem MkS.mk' {w:World} {B:Nat} {S0:SP} {lo hi:Nat} {v:Value} {f:Option Addr→Nat→Value} (A:Option Addr) (c:Nat) (h1:v=f A c) (h2:(S0.mv A c).at w) (h3:B≤lo) (h4:∀ ad,A=some ad→S0.l=[]∨(lo≤ad.block∧ad.block<hi)):MkS w B S0 lo hi v f:=⟨A,c,h1,h2,h3,h4⟩
theorem MkS.kp {P:Nat→Prop} {w w':World} {B:Nat} {S0:SP} {lo hi:Nat} {v:Value} {f:Option Addr→Nat→Value} (h:MkS w B S0 lo hi v f) (k:Kp P w w') (hp:∀ g,P g→g<B):MkS w' B S0 lo hi v f:=by
 obtain⟨A,c,h1,h2,h3,h4⟩:=h.out
 refine⟨A,c,h1,at_kp h2 k (fun ad e=>?_),h3,h4⟩
 rcases h4 ad e with h5 | h5
 ·exact .inl h5
 ·exact .inr (fun h6=>by have:=hp _ h6;omega)
theorem MkS.gr {w w':World} {B:Nat} {S0:SP} {lo hi:Nat} {v:Value} {f:Option Addr→Nat→Value} (h:MkS w B S0 lo hi v f) (k:Grew w w'):MkS w' B S0 lo hi v f:=h.kp (P:=fun _=>False) (zj k) (fun _ h=>h.elim)
structure AgZ (w:World) (B lo hi:Nat) (cs:List Value) (v:Value):Prop where
 out:∃ q,v=.pointer (some ⟨q,0,none⟩)∧Ag w q cs∧B≤lo∧lo≤q∧q<hi
theorem AgZ.kp {P:Nat→Prop} {w w':World} {B lo hi:Nat} {cs:List Value} {v:Value} (h:AgZ w B lo hi cs v) (k:Kp P w w') (hp:∀ g,P g→g<B):AgZ w' B lo hi cs v:=by
 obtain⟨q,h1,h2,h3,h4,h5⟩:=h.out
 exact⟨q,h1,h2.kp k (fun h6=>by have:=hp _ h6;omega),h3,h4,h5⟩
theorem AgZ.gr {w w':World} {B lo hi:Nat} {cs:List Value} {v:Value} (h:AgZ w B lo hi cs v) (k:Grew w w'):AgZ w' B lo hi cs v:=h.kp (P:=fun _=>False) (zj k) (fun _ h=>h.elim)
structure CtS (w:World) (B:Nat) (L:List SP) (lo hi:Nat) (v:Value) (f:Option Addr→Nat→Value):Prop where
 out:∃ A c M,v=f A c∧MvL L M∧Sps w A M∧B≤lo∧(∀ ad,A=some ad→lo≤ad.block∧ad.block<hi)∧(∀ S∈M,∀ ad,S.A=some ad→S.l=[]∨(lo≤ad.block∧ad.block<hi))
theorem CtS.gr {w w':World} {B:Nat} {L:List SP} {lo hi:Nat} {v:Value} {f:Option Addr→Nat→Value} (h:CtS w B L lo hi v f) (k:Grew w w'):CtS w' B L lo hi v f:=by
 obtain⟨A,c,M,h1,h2,h3,h4⟩:=h.out
 exact⟨A,c,M,h1,h2,h3.gr k,h4⟩
theorem kY {P:Nat→Prop} {a b c:World} {q:Nat} (h:Kp P a b) (k:Kp (fun j=>j=q) b c) (hq:a.heap.size≤q):Kp P a c :=
 ⟨k.os.trans h.os,k.tape.trans h.tape,k.output.trans h.output,Nat.le_trans h.size k.size,fun i hi hn=>(k.block i (Nat.lt_of_lt_of_le hi h.size) (fun e=>by have e2:i=q:=e;omega)).trans (h.block i hi hn)⟩
structure StF (P:Nat→Prop) (w0:World) (S0:SP) (v:Value) (W:World):Prop where
 out:∃ A c q,v=.pointer (some ⟨q,0,none⟩)∧Ag W q (S0.mv A c).C.toList∧(S0.mv A c).at W∧w0.heap.size≤q∧(∀ ad,A=some ad→S0.l=[]∨w0.heap.size≤ad.block)∧Kp P w0 W
theorem StF.gr {P:Nat→Prop} {w0:World} {S0:SP} {v:Value} {x y:World} (h:StF P w0 S0 v x) (g:Grew x y):StF P w0 S0 v y:=by
 obtain⟨A,c,q,h1,h2,h3,h4,h5,h6⟩:=h.out
 exact⟨A,c,q,h1,h2.grew g,h3.gr g,h4,h5,zB h6 (zj g)⟩
structure CtF (w0:World) (cm:Cm) (L:List SP) (v:Value) (W:World):Prop where
 out:∃ A c M q,v=.pointer (some ⟨q,0,none⟩)∧Ag W q (ctC cm A L.length c).toList∧MvL L M∧Sps W A M∧w0.heap.size≤q∧(∀ ad,A=some ad→w0.heap.size≤ad.block)∧(∀ S∈M,∀ ad,S.A=some ad→S.l=[]∨w0.heap.size≤ad.block)∧Grew w0 W
theorem CtF.gr {w0:World} {cm:Cm} {L:List SP} {v:Value} {x y:World} (h:CtF w0 cm L v x) (g:Grew x y):CtF w0 cm L v y:=by
 obtain⟨A,c,M,q,h1,h2,h3,h4,h5,h6,h7,h8⟩:=h.out
 exact⟨A,c,M,q,h1,h2.grew g,h3,h4.gr g,h5,h6,h7,ze h8 g⟩
structure BsR (w:World) (B:Nat) (L:List SP) (v:Value):Prop where
 out:∃ b,v=.slice (some ⟨b,0,none⟩) L.length L.length∧RdC w (some ⟨b,0,none⟩) 24 (spL L)∧B≤b
theorem BsR.gr {w w':World} {B:Nat} {L:List SP} {v:Value} (h:BsR w B L v) (g:Grew w w'):BsR w' B L v:=by
 obtain⟨b,h1,h2,h3⟩:=h.out
 exact⟨b,h1,h2.gr g,h3⟩
end Go.Proofs.YtidjnnnigcmdpaaGreatDoor
