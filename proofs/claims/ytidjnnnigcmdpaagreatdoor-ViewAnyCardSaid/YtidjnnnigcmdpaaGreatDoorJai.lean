/- Frames over sets of blocks; appending whatever is read to what is owned. -/
import Derived.Deep.AppendLies
import Derived.Maps.AppendAt
import Derived.OwnWalk
import Derived.Test.YtidjnnnigcmdpaaGreatDoorJae
set_option linter.unusedSimpArgs false
set_option linter.unusedVariables false
set_option linter.unnecessarySimpa false
namespace Go.Proofs.YtidjnnnigcmdpaaGreatDoor
open Go.RowKit
structure Kp (S:Nat→Prop) (w w':World):Prop where
 os:w'.os=w.os
 tape:w'.tape=w.tape
 output:w'.output=w.output
 size:w.heap.size≤w'.heap.size
 block:∀ i,i<w.heap.size→¬S i→w'.heap[i]?=w.heap[i]?
theorem zJ (S:Nat→Prop) (w:World):Kp S w w:=⟨rfl,rfl,rfl,Nat.le_refl _,fun _ _ _=>rfl⟩
theorem zB {S:Nat→Prop} {a b c:World} (h:Kp S a b) (k:Kp S b c):Kp S a c :=
 ⟨k.os.trans h.os,k.tape.trans h.tape,k.output.trans h.output,Nat.le_trans h.size k.size,fun i hi hn=>(k.block i (Nat.lt_of_lt_of_le hi h.size) hn).trans (h.block i hi hn)⟩
theorem xh {S S':Nat→Prop} {a b c:World} (h:Kp S a b) (k:Kp S' b c) (hs:∀ i,S' i→S i∨a.heap.size≤i):Kp S a c :=
 ⟨k.os.trans h.os,k.tape.trans h.tape,k.output.trans h.output,Nat.le_trans h.size k.size,fun i hi hn=>(k.block i (Nat.lt_of_lt_of_le hi h.size) (fun hh=>by rcases hs i hh with h' | h';exact hn h';omega)).trans (h.block i hi hn)⟩
theorem xn {S S':Nat→Prop} {a b:World} (h:Kp S a b) (hs:∀ i,S i→S' i):Kp S' a b:=⟨h.os,h.tape,h.output,h.size,fun i hi hn=>h.block i hi (fun hh=>hn (hs i hh))⟩
theorem xG {S:Nat→Prop} {a b:World} (h:Kp S a b):Kp S a b.drew:=⟨h.os,h.tape,h.output,h.size,h.block⟩
theorem zj {S:Nat→Prop} {a b:World} (h:Grew a b):Kp S a b:=⟨h.os,h.tape,h.output,h.size,fun i hi _=>h.block i hi⟩
theorem zht {S:Nat→Prop} {a b:World} (h:Kp S a b) (o:Obj):Kp S a (b.alloc o) :=
 ⟨h.os,h.tape,h.output,Nat.le_trans h.size (by simp),fun i hi hne=>(Below.heap_alloc b o i (Nat.lt_of_lt_of_le hi h.size)).trans (h.block i hi hne)⟩
theorem yP {S:Nat→Prop} {a b:World} (h:Kp S a b) {p:Addr} (hp:S p.block∨a.heap.size≤p.block) (u:Value):Kp S a (b.setCell p u) :=
 ⟨h.os,h.tape,h.output,by simpa [World.setCell]using h.size,fun i hi hne=>(Below.heap_setCell b p u i (by
  rintro rfl
  rcases hp with hp | hp
  ·exact hne hp
  ·omega)).trans (h.block i hi hne)⟩
theorem yD {S:Nat→Prop} {a b c:World} {row:Option Nat} (h:Kp S a b) (k:b.grownBy c row) (hr:∀ g,row=some g→S g∨a.heap.size≤g):Kp S a c :=
 ⟨k.os.trans h.os,k.tape.trans h.tape,k.output.trans h.output,Nat.le_trans h.size k.size,fun i hi hn=>(k.block i (Nat.lt_of_lt_of_le hi h.size) (fun e=>by rcases hr i e.symm with h' | h';exact hn h';omega)).trans (h.block i hi hn)⟩
theorem zO {B:Nat} {S:Nat→Prop} {a w w':World} (h:Below B a w) (k:Kp S w w') (hB:B≤w.heap.size) (hs:∀ i,S i→B≤i):Below B a w' :=
 ⟨k.os.trans h.os,k.tape.trans h.tape,k.output.trans h.output,Nat.le_trans h.size k.size,fun i hi=>(k.block i (by omega) (fun hh=>by have:=hs i hh;omega)).trans (h.block i hi)⟩
theorem Bk.kp {S:Nat→Prop} {w w':World} {g:Nat} {t:TypeId} {cs:Array Value} (h:Bk w g t cs) (k:Kp S w w') (hg:¬S g):Bk w' g t cs:=(k.block g h.lt hg).trans h
theorem zG {w:World} {base:Nat} {e:TypeId} {size n:Nat} {v:Value} {xs:List Value} (h:w.ownsRow base e size v n xs):∀ g,v.ownBlock=some g→base≤g∧g<w.heap.size:=by
 intro g hg
 rcases h.2 with ⟨rfl,_⟩ | ⟨g',cap,cur,rfl,hb,hh,_⟩
 ·cases hg
 ·injection hg with hg
  subst hg
  refine⟨hb,?_⟩
  rcases Nat.lt_or_ge g' w.heap.size with h' | h'
  ·exact h'
  ·rw [Array.getElem?_eq_none h']at hh;cases hh
theorem zx {S:Nat→Prop} {w w':World} {base:Nat} {e:TypeId} {size n:Nat} {v:Value} {xs:List Value} (h:w.ownsRow base e size v n xs) (k:Kp S w w') (hv:∀ g,v.ownBlock=some g→¬S g):w'.ownsRow base e size v n xs:=by
 obtain⟨h1,h2⟩:=h
 refine⟨h1,?_⟩
 rcases h2 with h2 | ⟨g',cap,cur,rfl,hb,hh,hc⟩
 ·exact .inl h2
 ·have hlt:g'<w.heap.size:=by
   rcases Nat.lt_or_ge g' w.heap.size with h' | h'
   ·exact h'
   ·rw [Array.getElem?_eq_none h']at hh;cases hh
  exact .inr ⟨g',cap,cur,rfl,hb,(k.block g' hlt (hv g' rfl)).trans hh,hc⟩
def RdN (w:World) (N:Nat→Prop) (A:Option Addr) (xs:List Value):Prop :=
 ∀ k (h:k<xs.length),∃ ad,A=some ad∧(ad.block<w.heap.size∧¬N ad.block)∧w.cell? (ad.add k)=some xs[k]
theorem RdN.rd {w:World} {N:Nat→Prop} {A:Option Addr} {xs:List Value} (h:RdN w N A xs):Rd w w.heap.size A xs:=fun k hk=>by
 obtain⟨ad,h1,h2,h3⟩:=h k hk
 exact⟨ad,h1,h2.1,h3⟩
theorem RdN.nil_ (w:World) (N:Nat→Prop) (A:Option Addr):RdN w N A []:=fun k h=>absurd h (by simp)
theorem RdN.kp {w w':World} {N S:Nat→Prop} {A:Option Addr} {xs:List Value} (h:RdN w N A xs) (k:Kp S w w') (hs:∀ i,S i→N i):RdN w' N A xs:=fun j hj=>by
 obtain⟨ad,h1,h2,h3⟩:=h j hj
 refine⟨ad,h1,⟨Nat.lt_of_lt_of_le h2.1 k.size,h2.2⟩,?_⟩
 rw [←h3]
 exact World.cell?_of_block (k.block _ (by rw [zv];exact h2.1) (by rw [zv];exact fun hh=>h2.2 (hs _ hh)))
theorem RdN.of {w:World} {B:Nat} {N:Nat→Prop} {A:Option Addr} {xs:List Value} (h:Rd w B A xs) (hB:B≤w.heap.size) (hn:∀ ad,A=some ad→¬N ad.block):RdN w N A xs:=fun k hk=>by
 obtain⟨ad,h1,h2,h3⟩:=h k hk
 exact⟨ad,h1,⟨by omega,hn ad h1⟩,h3⟩
section
variable {P : Program}
theorem jR (w:World) (base:Nat) (t ty e:TypeId) (i:TypeInfo) (size:Nat) (ht:P.underlying t=some (.slice e)) (hi:P.info? e=some i)
 (v:Value) (n:Nat) (xs:List Value) (hown:w.ownsRow base e size v n xs) (c:Nat):(Builtin.append_ #[t,t] ty #[v,.slice none 0 c]).run P w=.ok v w:=by
 rcases hown.2 with ⟨rfl,rfl⟩ | ⟨g,cap,cur,rfl,_,_,hnc,_⟩
 ·simp [Builtin.append_,run_underlying ht,sizeOf,typeInfo,hi,Builtin.lenOf,Builtin.firstCells]
 ·simp [Builtin.append_,run_underlying ht,sizeOf,typeInfo,hi,Builtin.lenOf,Builtin.firstCells,hnc,storeCells]
theorem zbc (w:World) (base:Nat) (t ty e:TypeId) (i:TypeInfo) (z:Value) (bytes:Nat) (ht:P.underlying t=some (.slice e)) (hi:P.info? e=some i) (hz:i.zero=some z)
 (hsize:i.size=1) (hby:i.bytes=bytes) (hzs:z.cells.size=1) (v:Value) (n:Nat) (xs:List Value) (hown:w.ownsRow base e 1 v n xs)
 (B:Nat) (A:Option Addr) (m c:Nat) (news:List Value) (hm:news.length=m) (hr:Rd w B A news) (h1:∀ u∈news,u.oneCell'=true)
 (h63:n+m≤maxLen) (hbytes:(n+m)*bytes≤140737488355328) (hbase:base≤w.heap.size) :
 ∃ v' w',(Builtin.append_ #[t,t] ty #[v,.slice A m c]).run P w=.ok v' w'∧w'.ownsRow base e 1 v' (n+m) (xs++news)∧w.grownBy w' v.ownBlock∧(v'.ownBlock=v.ownBlock∨v'.ownBlock=some w.heap.size):=by
 cases A with
 | none =>
  have hn:news=[]:=by
   cases news with
   | nil=>rfl
   | cons a l =>
    obtain⟨ad,h,_⟩:=hr 0 (by simp)
    cases h
  subst hn
  obtain rfl:m=0:=by simpa using hm.symm
  exact⟨v,w,jR w base t ty e i 1 ht hi v n xs hown c,by simpa using hown,⟨rfl,rfl,rfl,Nat.le_refl _,fun _ _ _=>rfl⟩,.inl rfl⟩
 | some ad =>
  have hcells:∀(j:Nat) (u:Value),news[j]?=some u→w.cell? (ad.add j)=some u:=by
   intro j u hu
   obtain⟨hj,rfl⟩:=List.getElem?_eq_some_iff.1 hu
   obtain⟨ad',h,_,hc⟩:=hr j hj
   injection h with h
   subst h
   exact hc
  obtain⟨v',w',hrun,h2,h3,_,h5⟩:=run_append_own_at (P:=P) w base t ty e i z 1 bytes ht hi hz hsize hby hzs (by omega) v n xs hown ad m c news (by omega) hcells h1 h63 hbytes hbase
  exact⟨v',w',hrun,h2,h3,h5⟩
theorem zbq (w:World) {o:Oper} {a:Act} {K:Act→World→Prop} {Q:Exit→Act→World→Prop} (s x:Operand) (t:TypeId)
 (ho:o.op=.call { callee:=.builtin .append,args:=#[s,x],argTypes:=#[t,t] })
 (base:Nat) (e:TypeId) (i:TypeInfo) (z:Value) (bytes:Nat) (ht:P.underlying t=some (.slice e)) (hi:P.info? e=some i) (hz:i.zero=some z)
 (hsize:i.size=1) (hby:i.bytes=bytes) (hzs:z.cells.size=1) (v:Value) (n:Nat) (xs:List Value) (hs:a.eval s=v) (hown:w.ownsRow base e 1 v n xs)
 (B:Nat) (A:Option Addr) (m c:Nat) (news:List Value) (hx:a.eval x=.slice A m c) (hm:news.length=m) (hr:Rd w B A news) (h1:∀ u∈news,u.oneCell'=true)
 (h63:n+m≤maxLen) (hbytes:(n+m)*bytes≤140737488355328) (hbase:base≤w.heap.size)
 (h:∀ v' w',w'.ownsRow base e 1 v' (n+m) (xs++news)→w.grownBy w' v.ownBlock→(v'.ownBlock=v.ownBlock∨v'.ownBlock=some w.heap.size)→K (a.put o.dst v') w'):o.wp P a w K Q:=by
 obtain⟨v',w',hrun,h2,h3,h4⟩:=zbc (P:=P) w base t o.type e i z bytes ht hi hz hsize hby hzs v n xs hown B A m c news hm hr h1 h63 hbytes hbase
 unfold Oper.wp execOp
 simp only [ho,resolve,invoke,builtin,Sem.run_bind,Sem.run_pure,Result.andThen_ok,List.map_toArray,List.map_cons,List.map_nil,hs,hx,hrun]
 exact h v' w' h2 h3 h4
theorem zF {w:World} {ops:Array Oper} {rest:List Oper} {o:Oper} {a:Act} {Q:Exit→Act→World→Prop} (hgd:o.guard=none) (s x:Operand) (t:TypeId)
 (ho:o.op=.call { callee:=.builtin .append,args:=#[s,x],argTypes:=#[t,t] })
 (base:Nat) (e:TypeId) (i:TypeInfo) (z:Value) (bytes:Nat) (ht:P.underlying t=some (.slice e)) (hi:P.info? e=some i) (hz:i.zero=some z)
 (hsize:i.size=1) (hby:i.bytes=bytes) (hzs:z.cells.size=1) (v:Value) (n:Nat) (xs:List Value) (hs:a.eval s=v) (hown:w.ownsRow base e 1 v n xs)
 (B:Nat) (A:Option Addr) (m c:Nat) (news:List Value) (hx:a.eval x=.slice A m c) (hm:news.length=m) (hr:Rd w B A news) (h1:∀ u∈news,u.oneCell'=true)
 (h63:n+m≤maxLen) (hbytes:(n+m)*bytes≤140737488355328) (hbase:base≤w.heap.size)
 (h:∀ v' w',w'.ownsRow base e 1 v' (n+m) (xs++news)→w.grownBy w' v.ownBlock→(v'.ownBlock=v.ownBlock∨v'.ownBlock=some w.heap.size)→wpList P ops Q rest (a.put o.dst v') w'):wpList P ops Q (o::rest) a w :=
 wpList_plain hgd fun _ hK=>zbq w s x t ho base e i z bytes ht hi hz hsize hby hzs v n xs hs hown B A m c news hx hm hr h1 h63 hbytes hbase fun v' w' h2 h3 h4=>hK _ _ (h v' w' h2 h3 h4)
end
def i64L (l:List Int):List Value:=l.map fun n=>.int .i64 n
theorem zcv (l:List Int):(i64L l).length=l.length:=by simp [i64L]
theorem zfz {w:World} {B:Nat} {A:Option Addr} {l:List Int} (h:Rd w B A (i64L l)) (k:Nat) (hk:k<l.length):∃ ad,A=some ad∧ad.block<B∧w.cell? (ad.add k)=some (.int .i64 l[k]):=by
 obtain⟨ad,h1,h2,h3⟩:=h k (by rw [zcv];exact hk)
 exact⟨ad,h1,h2,by rw [h3];simp [i64L]⟩
end Go.Proofs.YtidjnnnigcmdpaaGreatDoor
