/- What is known of new views: seed 3, height 4. -/
import Derived.Test.YtidjnnnigcmdpaaGreatDoorJzz
import Derived.Test.YtidjnnnigcmdpaaGreatDoorJbr
import Derived.Test.YtidjnnnigcmdpaaGreatDoorJbl
import Derived.Test.YtidjnnnigcmdpaaGreatDoorJbo
import Derived.Test.YtidjnnnigcmdpaaGreatDoorJak
set_option maxHeartbeats 8000000
set_option maxRecDepth 100000
set_option linter.unusedSimpArgs false
set_option linter.unusedVariables false
set_option linter.unnecessarySimpa false
namespace Go.Proofs.YtidjnnnigcmdpaaGreatDoor
open Go.RowKit
noncomputable def nwK (seed:Int) (h m:Nat) (vw qv:Int) (qd:Nat) (i:Nat) (B:Option Addr) (j:Nat) (N:List VP) (A:Option Addr) (c:Nat):NW:=⟨vw,qv,qd,B,N,j,i,i,m,signF (secN (sdI seed i) (m:Int)) (nwD vw qv qd i),A,c,pathN (ksL seed h i) m⟩
theorem nwK_ok (seed:Int) (h m:Nat) (hh:h≤5) (hm:m<2^h) (vw:Int) (hv:in64 vw) (qv:Int) (hqv:in64 qv) (qd:Nat) (hD:qd<18446744073709551616) (i:Nat) (hi4:i<4) (B:Option Addr) (j:Nat) (N:List VP) (hN:N.length≤100000) (A:Option Addr) (c:Nat):(nwK seed h m vw qv qd i B j N A c).ok:=by
 have hp:=pow5 h hh
 refine⟨hv,hqv,hD,hN,⟨by show _≤(i:Int);omega,by show(i:Int)≤_;omega⟩,⟨by show _≤(i:Int);omega,by show(i:Int)≤_;omega⟩,⟨by show _≤(m:Int);omega,by show(m:Int)≤_;omega⟩,fun k _=>jU _ _ _ (kd _ _ _),?_,(show ∀ x∈pathN (ksL seed h i) m,x<18446744073709551616 from jW _ _ (yR _ _))⟩
 show(pathN (ksL seed h i) m).length≤1000
 unfold ksL
 rw [xo _ h (by omega) m hm];omega
section
variable (seed : Int) (h : Nat) (RA : Option Addr) (Rc : Nat) (vw qv : Int) (qd : Nat)
theorem zhe (hh:h≤5) (h1:1≤vw) (h2:vw≤1048576) (h3:qv<vw) (m i:Nat) (hi:i<4) (hm:m<2^h) (B:Option Addr) (j:Nat) (N:List VP) (hq:vqE (kpV seed h RA Rc) qv qd N=0) (A:Option Addr) (c:Nat):nvS (kpV seed h RA Rc) (nwK seed h m vw qv qd i B j N A c)=0:=by
 unfold nvS
 show(if (i:Int)<0 then (1:Int) else if 3*1+1≤(i:Int) then 1 else if vw<1 then 1 else if 1048576<vw then 1 else
  if ckE (rtL seed h 4) (h:Int) (i:Int).toNat (nwD vw qv qd i) (i:Int) (m:Int) (signF (secN (sdI seed i) (m:Int)) (nwD vw qv qd i)) (pathN (ksL seed h i) m)=0 then (if vqE (kpV seed h RA Rc) qv qd N=0 then (if vw≤qv then 12 else 0) else vqE (kpV seed h RA Rc) qv qd N) else ckE (rtL seed h 4) (h:Int) (i:Int).toNat (nwD vw qv qd i) (i:Int) (m:Int) (signF (secN (sdI seed i) (m:Int)) (nwD vw qv qd i)) (pathN (ksL seed h i) m))=0
 have hck:ckE (rtL seed h 4) (h:Int) (i:Int).toNat (nwD vw qv qd i) (i:Int) (m:Int) (signF (secN (sdI seed i) (m:Int)) (nwD vw qv qd i)) (pathN (ksL seed h i) m)=0:=by
  rw [Int.toNat_natCast,zg7 seed h (by omega) i m hi hm,if_pos (qT _ _ _ _)]
 rw [if_neg (by omega),if_neg (by omega),if_neg (by omega),if_neg (by omega),if_pos hck,if_pos hq,if_neg (by omega)]
end
theorem nwD_6:nwD 6 0 0 0=11644479080325954903:=by unfold nwD;rw [qx];decide +kernel
theorem nwD_7:nwD 7 0 0 0=15513149882188408885:=by unfold nwD;rw [qx];decide +kernel
theorem sd_3:sdI 3 0=3:=by decide
theorem zhf (k:Nat) (h:k<18):secN 3 1 k=twoC tagSk 3 (32+k):=by
 unfold secN
 rw [zf2]
 congr 1
 show(((32*1+(k:Int))%18446744073709551616)).toNat=32+k
 omega
def pubWC:Nat:=foldC (fun k=>chainC (sumC tagOt []) (twoC tagSk 3 (32+k)) 15) 18
def recWC:Nat:=foldC (fun k=>chainC (sumC tagOt []) (chainC (sumC tagOt []) (twoC tagSk 3 (32+k)) (digK 11644479080325954903 k)) (15-digK 15513149882188408885 k)) 18
theorem pubW_C:pubN (secN 3 1)=pubWC:=by
 unfold pubN
 rw [zdn]
 refine jB _ _ _ fun k hk=>?_
 show chainI tagOt (secN 3 1 k) ((15:Nat):Int)=_
 rw [jT _ _ _ (by omega),zhf k hk]
theorem recW_C:recN (signF (secN 3 1) 11644479080325954903) 15513149882188408885=recWC:=by
 unfold recN
 rw [zdn]
 refine jB _ _ _ fun k hk=>?_
 show chainI tagOt (chainI tagOt (secN 3 1 k) (digK 11644479080325954903 k:Nat)) ((15-digK 15513149882188408885 k:Nat):Int)=_
 have:=kb 11644479080325954903 k
 rw [jT _ _ _ (by omega),jT _ _ _ (by omega),zhf k hk]
theorem zld:recWC≠pubWC:=by decide +kernel
theorem zi7 (RA:Option Addr) (Rc:Nat) (B:Option Addr) (j:Nat) (A:Option Addr) (c:Nat):nvS (kpV 3 4 RA Rc) ⟨7,0,0,B,[],j,((0:Nat):Int),((0:Nat):Int),((1:Nat):Int),signF (secN (sdI 3 0) ((1:Nat):Int)) (nwD 6 0 0 ((0:Nat):Int)),A,c,pathN (ksL 3 4 0) 1⟩=7:=by
 have hks:ksL 3 4 0=pubsL 3 (2^4):=by unfold ksL;rw [sd_3]
 have hck:ckE (rtL 3 4 4) ((4:Nat):Int) (((0:Nat):Int)).toNat (nwD 7 0 0 ((0:Nat):Int)) ((0:Nat):Int) ((1:Nat):Int) (signF (secN (sdI 3 0) ((1:Nat):Int)) (nwD 6 0 0 ((0:Nat):Int))) (pathN (ksL 3 4 0) 1)=7:=by
  rw [Int.toNat_natCast,show nwD 6 0 0 ((0:Nat):Int)=11644479080325954903 from nwD_6,show nwD 7 0 0 ((0:Nat):Int)=15513149882188408885 from nwD_7,sd_3]
  unfold ckE
  rw [if_neg (by rw [kn];omega),if_pos rfl,zgl _ _ _ _ (by decide)]
  rw [hks]
  have hne:recN (signF (secN 3 ((1:Nat):Int)) 11644479080325954903) ((15513149882188408885:Nat):Int).toNat≠pubN (secN 3 ((1:Nat):Int)):=by
   rw [Int.toNat_natCast,show((1:Nat):Int)=1 from rfl,recW_C,pubW_C]
   exact zld
  have:=vr_no 3 4 (by decide) 1 (by decide) (signF (secN 3 ((1:Nat):Int)) 11644479080325954903) ((15513149882188408885:Nat):Int) hne ((4:Nat):Int)
  rw [this]
  rfl
 unfold nvS
 show(if ((0:Nat):Int)<0 then (1:Int) else if 3*1+1≤((0:Nat):Int) then 1 else if (7:Int)<1 then 1 else if (1048576:Int)<7 then 1 else
  if ckE (rtL 3 4 4) ((4:Nat):Int) (((0:Nat):Int)).toNat (nwD 7 0 0 ((0:Nat):Int)) ((0:Nat):Int) ((1:Nat):Int) (signF (secN (sdI 3 0) ((1:Nat):Int)) (nwD 6 0 0 ((0:Nat):Int))) (pathN (ksL 3 4 0) 1)=0 then _ else ckE (rtL 3 4 4) ((4:Nat):Int) (((0:Nat):Int)).toNat (nwD 7 0 0 ((0:Nat):Int)) ((0:Nat):Int) ((1:Nat):Int) (signF (secN (sdI 3 0) ((1:Nat):Int)) (nwD 6 0 0 ((0:Nat):Int))) (pathN (ksL 3 4 0) 1))=7
 rw [if_neg (by decide),if_neg (by decide),if_neg (by decide),if_neg (by decide),hck]
 rfl
theorem zi8 {K:KP} {u:Int} {d:Nat} {L M:List VP} (h:MvV L M):cqV K u d M=cqV K u d L:=cqV_mv h
theorem zle {K:KP} {u:Int} {d:Nat} {L M:List VP} (h:MvV L M):vqE K u d M=vqE K u d L:=by
 unfold vqE
 rw [zi8 h,h.len]
def NW.in (S:NW) (j:Nat):Prop:=(∃ ad,S.A=some ad∧S.l≠[]∧ad.block=j)∨(∃ ad,S.QA=some ad∧S.H≠[]∧ad.block=j)∨(∃ T∈S.H,∃ ad,T.A=some ad∧T.l≠[]∧ad.block=j)
theorem xM {P:Nat→Prop} {S:NW} {w w':World} (h:S.at w) (k:Kp P w w') (hf:∀ j,S.in j→¬P j):S.at w' where
 p:=by
  by_cases hl:S.l=[]
  ·intro j hj;rw [hl]at hj;exact absurd hj (by simp [u64L])
  ·exact(Rd.kp h.p k (Nat.le_refl _) (fun ad e _ hp=>hf _ (.inl ⟨ad,e,hl,rfl⟩) hp)).more k.size
 q:=h.q.kpy k (fun ad e=>by
  by_cases hl:S.H=[]
  ·exact .inl hl
  ·exact .inr (hf _ (.inr (.inl ⟨ad,e,hl,rfl⟩)))) (fun T hT ad e=>by
  by_cases hl:T.l=[]
  ·exact .inl hl
  ·exact .inr (hf _ (.inr (.inr ⟨T,hT,ad,e,hl,rfl⟩))))
theorem zak {S:NW} {w:World} (h:S.at w) (j:Nat) (hj:S.in j):j<w.heap.size:=by
 rcases hj with ⟨ad,e,hl,rfl⟩ | ⟨ad,e,hl,rfl⟩ | ⟨T,hT,ad,e,hl,rfl⟩
 ·cases hs:S.l with
  | nil=>exact absurd hs hl
  | cons a r =>
   obtain⟨ad',e',hb,_⟩:=h.p 0 (by simp [u64L,hs])
   rw [e]at e';cases e'
   exact hb
 ·exact(h.q.lt ad e).resolve_left hl
 ·exact(zR (h.q.at_ T hT) ad e).resolve_left hl
structure NwMv (S0 S:NW):Prop where
 out:∃ B j N A c,S={ S0 with QA:=B,Qk:=j,H:=N,A:=A,c:=c }∧MvV S0.H N
theorem NwMv.who {S0 S:NW} (h:NwMv S0 S):S.who=S0.who∧S.vw=S0.vw∧S.qv=S0.qv∧S.qd=S0.qd∧MvV S0.H S.H:=by
 obtain⟨B,j,N,A,c,rfl,hm⟩:=h.out
 exact⟨rfl,rfl,rfl,rfl,hm⟩
theorem NwMv.nv {K:KP} {S0 S:NW} (h:NwMv S0 S):nvS K S=nvS K S0:=by
 obtain⟨B,j,N,A,c,rfl,hm⟩:=h.out
 unfold nvS
 show(if S0.who<0 then (1:Int) else if 3*K.f+1≤S0.who then 1 else if S0.vw<1 then 1 else if 1048576<S0.vw then 1 else
  if ckE K.R K.h S0.who.toNat S0.d S0.sw S0.lf S0.s S0.l=0 then (if vqE K S0.qv S0.qd N=0 then (if S0.vw≤S0.qv then 12 else 0) else vqE K S0.qv S0.qd N) else ckE K.R K.h S0.who.toNat S0.d S0.sw S0.lf S0.s S0.l)=_
 rw [zle hm]
structure MvN (L M:List NW):Prop where
 len:M.length=L.length
 each:∀ k (h:k<L.length) (h':k<M.length),NwMv L[k] M[k]
theorem MvN.nil:MvN [] []:=⟨rfl,fun k h=>absurd h (by simp)⟩
theorem MvN.snoc {L M:List NW} (h:MvN L M) {S T:NW} (hs:NwMv S T):MvN (L++[S]) (M++[T]):=by
 refine⟨by simp [h.len],fun k h1 h2=>?_⟩
 by_cases hk:k<L.length
 ·have hk':k<M.length:=by rw [h.len];exact hk
  rw [List.getElem_append_left hk,List.getElem_append_left hk']
  exact h.each k hk hk'
 ·have e1:k=L.length:=by
   rw [List.length_append]at h1
   simp at h1
   omega
  subst e1
  have e2:M.length=L.length:=h.len
  rw [List.getElem_append_right (Nat.le_refl _),List.getElem_append_right (by omega)]
  simpa [e2]using hs
structure NRow (B0:Nat) (rv:Value) (M:List NW) (w:World):Prop where
 ok:∀ S∈M,S.ok
 at_:∀ S∈M,S.at w
 ne:∀ S∈M,∀ j,S.in j→rv.ownBlock≠some j
 lo:∀ S∈M,∀ j,S.in j→B0≤j
 row:w.ownsRow B0 111 26 rv M.length (nwL M).flatten
theorem NRow.nil (B0:Nat) (w:World):NRow B0 (.slice none 0 0) [] w:=⟨by simp,by simp,fun S hS=>by simp at hS,fun S hS=>by simp at hS,World.ownsRow_nil _ _ _ _⟩
theorem NRow.kp {B0:Nat} {rv:Value} {M:List NW} {w w':World} (h:NRow B0 rv M w) {P:Nat→Prop} (k:Kp P w w') (hP:∀ g,P g→g<B0):NRow B0 rv M w' :=
 ⟨h.ok,fun S hS=>xM (h.at_ S hS) k (fun j hj hp=>by have:=h.lo S hS j hj;have:=hP _ hp;omega),h.ne,h.lo,zx h.row k (fun g e hp=>by have:=(zG h.row g e).1;have:=hP _ hp;omega)⟩
theorem NRow.grew {B0:Nat} {rv:Value} {M:List NW} {w w':World} (h:NRow B0 rv M w) (g:Grew w w'):NRow B0 rv M w':=h.kp (P:=fun _=>False) (zj g) (fun _ h=>h.elim)
theorem NRow.app {B0:Nat} {rv rv':Value} {M:List NW} {w wa w':World} (h:NRow B0 rv M w) {S:NW} (hS:S.ok) (ha:S.at w) (hl:∀ j,S.in j→B0≤j) (hn:∀ j,S.in j→rv.ownBlock≠some j) (ga:Grew w wa) (hown:w'.ownsRow B0 111 26 rv' (M.length+1) ((nwL M).flatten++S.C.toList)) (hg:wa.grownBy w' rv.ownBlock) (hob:rv'.ownBlock=rv.ownBlock∨rv'.ownBlock=some wa.heap.size):NRow B0 rv' (M++[S]) w':=by
 have hin:∀ T∈M++[S],T.at wa∧T.ok∧(∀ j,T.in j→B0≤j)∧∀ j,T.in j→rv.ownBlock≠some j:=fun T hT=>by
  rcases List.mem_append.1 hT with h1 | h1
  ·exact⟨(h.at_ T h1).gr ga,h.ok T h1,h.lo T h1,h.ne T h1⟩
  ·obtain rfl:T=S:=by simpa using h1
   exact⟨ha.gr ga,hS,hl,hn⟩
 have kk:Kp (fun j=>rv.ownBlock=some j) wa w':=yD (zJ _ wa) hg (fun g e=>.inl e)
 exact⟨fun T hT=>(hin T hT).2.1,fun T hT=>xM (hin T hT).1 kk (fun j hj hp=>(hin T hT).2.2.2 j hj hp),fun T hT j hj e=>by
  rcases hob with h1 | h1
  ·rw [h1]at e;exact(hin T hT).2.2.2 j hj e
  ·rw [h1]at e
   injection e with e
   have:=zak (hin T hT).1 j hj
   omega,fun T hT=>(hin T hT).2.2.1,by rw [List.length_append,qj];exact hown⟩
theorem NRow.nws {B0:Nat} {rv:Value} {M:List NW} {w:World} (h:NRow B0 rv M w):∃ A c,rv=.slice A M.length c∧Nws w A M∧M.length≤c∧(∀ ad,A=some ad→B0≤ad.block):=by
 obtain⟨A,c,e,hB,h1,h2,h3⟩:=zai h.row rfl
 exact⟨A,c,e,⟨hB,h.ok,h.at_⟩,h1,fun ad e=>(h3 ad e).1⟩
theorem zd4 (seed:Int) (h i m:Nat) (hh:h≤5) (hi4:i<4) (hm:m<2^h) (p:Nat) (vw:Int) (hv:in64 vw) (qv:Int) (hqv:in64 qv) (qd:Nat) (hqd:qd<18446744073709551616) (QA:Option Addr) (Qk:Nat) (H:List VP) (hH:H.length≤100000) (w:World) (hS:Std w) (hVp:Vps w QA H) (hk:KyAt w (p+1) p (i:Int) (sdI seed i) (ksL seed h i) m (2^h)) :
 Calls Tryz.prog 66 #[.pointer (some ⟨p+1,0,none⟩),.int .i64 (i:Int),.int .i64 vw,.agg (vqC qv qd QA H.length Qk)] w fun e w' =>
  (∃ S,e=.returned (.tuple #[.agg (NW.C S),.int .i64 0])∧NwMv (nwK seed h m vw qv qd i none 0 H none 0) S∧S.ok∧S.at w'∧∀ j,S.in j→w.heap.size≤j)∧Tn (p+1) w w'∧KyAt w' (p+1) p (i:Int) (sdI seed i) (ksL seed h i) (m+1) (2^h):=by
 have hp:=pow5 h hh
 have hl:(ksL seed h i).length=2^h:=yl _ _
 refine(zhd (p+1) p (i:Int) (sdI seed i) (ksL seed h i) m (2^h) (by rw [hl];omega) (by rw [hl];omega) (by rw [hl];omega) (by rw [hl];exact hp.2) (yR _ _) (jo _ _) (fun j hj=>by
  rw [hl]at hj
  unfold ksL
  rw [xo _ h (by omega) j hj];omega) (i:Int) ⟨by omega,by omega⟩ vw hv qv hqv qd hqd QA Qk H hH (by rw [hl];exact hm) hm w hS hVp hk).mono ?_
 rintro e w' ⟨⟨A,c,B,j,N,rfl,h2,h3,h4,h5,h6,h7⟩,h8,h9⟩
 refine⟨⟨nwK seed h m vw qv qd i B j N A c,?_,⟨B,j,N,A,c,rfl,h4⟩,nwK_ok seed h m hh hm vw hv qv hqv qd hqd i hi4 B j N (by rw [h4.len];exact hH) A c,⟨h2,h5⟩,?_⟩,h8,h9⟩
 ·show _=Ending.returned (.tuple #[.agg (nwC vw qv qd B N.length j i i m (signF (secN (sdI seed i) (m:Int)) (nwD vw qv qd i)) (.slice A (pathN (ksL seed h i) m).length c)),.int .i64 0])
  rw [h4.len]
 ·rintro jj (⟨ad,e,hl,rfl⟩ | ⟨ad,e,hl,rfl⟩ | ⟨T,hT,ad,e,hl,rfl⟩)
  ·exact h3 ad e
  ·exact h6 ad e
  ·exact(h7 T hT ad e).resolve_left hl
structure MkNw (w:World) (B:Nat) (S0:NW) (lo hi:Nat) (v:Value) (f:NW→Value):Prop where
 out:∃ S,v=f S∧NwMv S0 S∧S.ok∧S.at w∧B≤lo∧∀ j,S.in j→lo≤j∧j<hi
theorem MkNw.kp {P:Nat→Prop} {w w':World} {B:Nat} {S0:NW} {lo hi:Nat} {v:Value} {f:NW→Value} (h:MkNw w B S0 lo hi v f) (k:Kp P w w') (hp:∀ g,P g→g<B):MkNw w' B S0 lo hi v f:=by
 obtain⟨S,h1,h2,h3,h4,h5,h6⟩:=h.out
 exact⟨S,h1,h2,h3,xM h4 k (fun j hj h7=>by have:=h6 j hj;have:=hp _ h7;omega),h5,h6⟩
theorem MkNw.gr {w w':World} {B:Nat} {S0:NW} {lo hi:Nat} {v:Value} {f:NW→Value} (h:MkNw w B S0 lo hi v f) (g:Grew w w'):MkNw w' B S0 lo hi v f:=h.kp (P:=fun _=>False) (zj g) (fun _ h=>h.elim)
structure MkNk (w:World) (B b p:Nat) (who sd:Int) (l:List Nat) (nx rs:Nat) (S0:NW) (lo hi:Nat) (v:Value) (f:NW→Value):Prop where
 sk:MkNw w B S0 lo hi v f
 ky:KyAt w b p who sd l nx rs
theorem MkNk.gr {w w':World} {B b p:Nat} {who sd:Int} {l:List Nat} {nx rs:Nat} {S0:NW} {lo hi:Nat} {v:Value} {f:NW→Value} (h:MkNk w B b p who sd l nx rs S0 lo hi v f) (g:Grew w w'):MkNk w' B b p who sd l nx rs S0 lo hi v f:=⟨h.sk.gr g,h.ky.grew g⟩
structure StNw (P:Nat→Prop) (w0:World) (S0:NW) (v:Value) (W:World):Prop where
 out:∃ S q,v=.pointer (some ⟨q,0,none⟩)∧Ag W q (NW.C S).toList∧NwMv S0 S∧S.ok∧S.at W∧w0.heap.size≤q∧(∀ j,S.in j→w0.heap.size≤j)∧Kp P w0 W
theorem StNw.gr {P:Nat→Prop} {w0:World} {S0:NW} {v:Value} {x y:World} (h:StNw P w0 S0 v x) (g:Grew x y):StNw P w0 S0 v y:=by
 obtain⟨S,q,h1,h2,h3,h4,h5,h6,h7,h8⟩:=h.out
 exact⟨S,q,h1,h2.grew g,h3,h4,h5.gr g,h6,h7,zB h8 (zj g)⟩
structure StNk (P:Nat→Prop) (w0:World) (S0:NW) (b p:Nat) (who sd:Int) (l:List Nat) (nx rs:Nat) (v:Value) (W:World):Prop where
 st:StNw P w0 S0 v W
 ky:KyAt W b p who sd l nx rs
theorem StNk.gr {P:Nat→Prop} {w0:World} {S0:NW} {b p:Nat} {who sd:Int} {l:List Nat} {nx rs:Nat} {v:Value} {x y:World} (h:StNk P w0 S0 b p who sd l nx rs v x) (g:Grew x y):StNk P w0 S0 b p who sd l nx rs v y:=⟨h.st.gr g,h.ky.grew g⟩
theorem zck {K:KP} {u:Int} {M:List NW} (hf:∀ S∈M,S.vw=u∧nvS K S=0) (hp:(M.map NW.who).Pairwise (·<·)):eachL NW.who (M.filter (nfB K u))=M:=by
 have h1:M.filter (nfB K u)=M:=List.filter_eq_self.2 fun S hS=>by
  obtain⟨a,b⟩:=hf S hS
  unfold nfB
  rw [decide_eq_true a,decide_eq_true b];rfl
 rw [h1]
 have hk:eachK NW.who M=M.map NW.who:=zbk NW.who _ (M.map NW.who) hp (fun k=>by rw [List.mem_map])
 have hl:(eachL NW.who M).length=M.length:=by rw [yG,hk,List.length_map]
 refine List.ext_getElem hl fun i a b=>?_
 have hi:i<(eachK NW.who M).length:=by rw [hk,List.length_map];exact b
 have hg:=kL NW.who M i hi a
 have hki:(eachK NW.who M)[i]=M[i].who:=by
  simp only [hk,List.getElem_map]
 rw [hki]at hg
 have h2:=List.find?_some hg
 have h3:=List.mem_of_find?_eq_some hg
 obtain⟨j,hj,e⟩:=List.getElem_of_mem h3
 have h4:M[j].who=M[i].who:=by rw [e];exact of_decide_eq_true h2
 rw [List.pairwise_map,List.pairwise_iff_getElem]at hp
 rw [←e]
 rcases Nat.lt_trichotomy i j with h5 | h5 | h5
 ·have:=hp i j b hj h5;omega
 ·subst h5;rfl
 ·have:=hp j i hj b h5;omega
def nx9:Nat→Nat→Nat
 | 0=>(nxd (nxt (fun _=>0) 3) 3)
 | n+1=>updK (nx9 n) n
theorem zhg:∀ n i,n≤i→nx9 n i=(nxd (nxt (fun _=>0) 3) 3) i
 | 0,_,_=>rfl
 | n+1,i,h=>by
  show updK (nx9 n) n i=_
  unfold updK
  rw [if_neg (by omega)]
  exact zhg n i (by omega)
theorem zcl (n:Nat) (h:n<3):nx9 n n<2^4:=by rw [zhg n n (Nat.le_refl _)];exact n2_lt n h
noncomputable def sg9 (DA:Nat) (N:List VP) (i:Nat):NW:=nwK 3 4 (nx9 i i) 6 (if i=1 then 1 else 0) (if i=1 then DA else 0) i none 0 (if i=1 then N else []) none 0
noncomputable def l9 (DA:Nat) (N:List VP) (n:Nat):List NW:=(List.range n).map (sg9 DA N)
theorem zd5 (DA:Nat) (N:List VP) (n:Nat):l9 DA N (n+1)=l9 DA N n++[sg9 DA N n]:=by
 unfold l9
 rw [List.range_succ,List.map_append]
 rfl
theorem qX (DA:Nat) (N:List VP) (n:Nat):(l9 DA N n).length=n:=by simp [l9]
theorem zi9 (K:KP):vqE K 0 0 []=0:=by unfold vqE;exact(if_pos rfl).trans ((if_pos rfl).trans (if_pos rfl))
theorem zcm (RA:Option Addr) (Rc:Nat) (DA:Nat) (N:List VP) (hq:vqE (kpV 3 4 RA Rc) 1 DA N=0) (i:Nat) (hi:i<3):nvS (kpV 3 4 RA Rc) (sg9 DA N i)=0:=by
 unfold sg9
 by_cases h:i=1
 ·subst h
  exact zhe 3 4 RA Rc 6 1 DA (by omega) (by omega) (by omega) (by omega) _ 1 (by omega) (zcl 1 (by omega)) none 0 N hq none 0
 ·rw [if_neg h,if_neg h,if_neg h]
  exact zhe 3 4 RA Rc 6 0 0 (by omega) (by omega) (by omega) (by omega) _ i (by omega) (zcl i hi) none 0 [] (zi9 _) none 0
theorem zja:Tryz.prog.built 46 [(0,.int .i64 1)]=some #[.int .i64 1]:=by kernel_rfl
structure ZqF (w0:World) (v:Value) (W:World):Prop where
 out:∃ q,v=.pointer (some ⟨q,0,none⟩)∧Grew w0 W
theorem ZqF.gr {w0:World} {v:Value} {x y:World} (h:ZqF w0 v x) (g:Grew x y):ZqF w0 v y:=by
 obtain⟨q,h1,h2⟩:=h.out
 exact⟨q,h1,ze h2 g⟩
theorem zfi (w:World) (hS:Std w):Calls Tryz.prog 47 #[] w fun e w'=>e=.returned (.bool true)∧Grew w w':=by
 have HS:=hQ9 hS
 have hkt:=Tryz.underlying49
 have hbt:=Tryz.underlying41
 have hqt:=Tryz.underlying38
 have hnt:=Tryz.underlying111
 obtain⟨i0,hi,hz0,hz1,hz2⟩:=info_parts zch
 have HBZ:Hid (∀ W,(Instr.build 38 #[]).run Tryz.prog W=.ok (.agg (#[.int .i64 0,.int .u64 0,.slice none 0 0]:Array Value)) W):=hQ9 (fun W=>run_build W 38 _ _ zdy)
 clear hS
 go_enter Tryz.func47,Tryz.ntmps47
 go_wp2_with fail
 refine(zio 2 (by omega) (by omega) w).mono ?_
 rintro e w1 ⟨rfl,zp,g1⟩
 obtain⟨pq,hpq⟩:∃ b,w.heap.size=b:=⟨_,rfl⟩
 rw [hpq]at zp ⊢
 have HPQ:=hQ9 hpq
 have HPL:Hid (pq<w1.heap.size):=hQ9 zp.lt
 clear hpq
 go_wp2_with fail
 refine(ze7 w1).mono ?_
 rintro e wx ⟨rfl,hz⟩
 rw [hz]
 clear hz
 have CE:=zkq 3 ⟨by omega,by omega⟩ 4 (by omega) w1
 rw [show((4:Nat):Int)=4 from rfl]at CE
 have CEH:=hQ9 CE
 clear CE
 go_wp2_with fail
 refine(CEH.out).mono ?_
 clear CEH
 rintro e w2 ⟨LA,Lc,RA,Rc,p,rfl,KS,rL,rR,FL0,FR0,HL0,HR0,G1⟩
 obtain⟨lad,hLA,-,-⟩:=rL 0 (by simp [ptrL])
 subst hLA
 obtain⟨kc,hkc⟩:∃ v,kyS 1 RA 4 Rc 4=v:=⟨_,rfl⟩
 have HSK:Hid ((Tryz.prog.info? 49).map (·.size)=some (kyS 1 RA 4 Rc 4).size):=hQ9 (by kernel_rfl)
 have HSKL:Hid ((Tryz.prog.info? 49).map (·.size)=some (kyS 1 RA 4 Rc 4).toList.length):=hQ9 (by kernel_rfl)
 have HOK:Hid ((kyS 1 RA 4 Rc 4).all (·.oneCell')=true):=hQ9 (by simp [kyS,Value.oneCell'])
 have HKC:Hid ((kpV 3 4 RA Rc).C=kyS 1 RA 4 Rc 4):=hQ9 (kpV_C 3 4 RA Rc)
 have HK0:Hid (kpV 3 4 RA Rc).ok:=hQ9 (zg6 3 4 (by omega) RA Rc)
 obtain⟨w3,hw3,ht3,g3,z3⟩:=zW w2 49 (#[.int .i64 0,.slice none 0 0,.int .i64 0]) (kyS 1 RA 4 Rc 4) rfl
 have HW3:=hQ9 hw3
 have HT3:=hQ9 ht3
 have hrb:∀ ad,RA=some ad→ad.block<w2.heap.size:=fun ad e=>by
  obtain⟨ad2,e2,hb,_⟩:=rR 0 (by simp [u64L,kn])
  rw [e]at e2;cases e2;exact hb
 have hlb:lad.block<w2.heap.size:=by
  obtain⟨ad,e,hb,_⟩:=rL 0 (by simp [ptrL])
  cases e;exact hb
 have hw12:=G1.size
 have hw23:=g3.size
 have hw01:=g1.size
 have hpl:=HPL.out
 have KMK:Hid (∀ y,Kp (fun j=>j=pq) w3 y→KBase 3 4 p (fun _=>0) w2.heap.size lad RA Rc w w3.heap.size y):=hQ9 (fun y k=>{
  ks:=fun i hi=>((KS.key i hi).grew g3).kp k (by show ¬p i+1=pq;have:=KS.low i hi;omega) (by show ¬p i=pq;have:=KS.low i hi;omega)
  kc:=z3.kp k (by show ¬w2.heap.size=pq;omega)
  ld:=fun i hi=>by
   obtain⟨ad,e,hb,hc⟩:=(rL.gr g3) i (by simp [ptrL];exact hi)
   cases e
   have h1:y.cell? (lad.add i)=w3.cell? (lad.add i):=World.cell?_of_block (by rw [zv];exact k.block lad.block hb (by show ¬lad.block=pq;have:=HL0 lad rfl;omega))
   rw [h1,hc];simp [ptrL]
  rR:=((rR.gr g3).kp k (Nat.le_refl _) (fun ad e _ (h:ad.block=pq)=>by have:=HR0 ad e;omega)).more k.size
  gr:=zO (ze g1 (ze G1 g3)) k (by have:=(ze g1 (ze G1 g3)).size;omega) (fun j (h:j=pq)=>by have:=HPQ.out;omega)
  sz:=k.size
  b0:=by omega
  lo:=fun i hi=>by
   have h1:=KS.low i hi
   have h2:=(KS.key i hi).key.lt
   have h3:=(KS.key i hi).pub.lt
   exact⟨by omega,by omega,by omega⟩
  qb:=z3.lt
  qn:=fun i hi e=>by have h2:=(KS.key i hi).key.lt;omega
  lb:=by omega
  ln:=fun i hi=>(FL0 lad rfl i hi).2
  rb:=fun ad e=>by have:=hrb ad e;omega
  rn:=fun i hi ad e=>(FR0 ad e i hi).2
  ap:=KS.apart })
 have HFP:Hid (¬KyP p pq):=hQ9 (fun⟨i,hi,e⟩=>by have:=KS.low i hi;omega)
 have HPB:Hid (pq<w3.heap.size):=hQ9 (by omega)
 have zp3:=zp.grew (ze G1 g3)
 clear hw3 ht3 g3 z3 KS rL rR FL0 FR0 HL0 HR0 G1 hrb hlb zp g1 hw12 hw23 hw01 hpl
 rw [hkc]at HSK HSKL HOK HT3 HW3 HKC ⊢
 have HKCE:Hid (kyS 1 RA 4 Rc ((4:Nat):Int)=kc):=hQ9 hkc
 clear hkc
 have HZP3:=hQ9 zp3
 have CT1:=hQ9 (zgt w3 zp3 (by omega) (by omega))
 clear zp3
 go_wp2_with(with_reducible refine wpList_store_mid rfl 49 (.tmp 6) (.tmp 37) rfl w2.heap.size 0 kc rfl rfl HT3.out HSK.out HOK.out ?_;rw [HW3.out];clear HW3 HT3)
 refine(CT1.out).mono ?_
 clear CT1
 rintro e w4 ⟨rfl,zp4,kk4⟩
 have CT2:=hQ9 (ze8 w4 zp4 (by omega) (by omega) (by omega))
 clear zp4
 go_wp2_with fail
 refine(CT2.out).mono ?_
 clear CT2
 rintro e w5 ⟨rfl,zp5,kk5⟩
 have CT3:=hQ9 (zip 5 w5 zp5 (by omega) (by omega))
 clear zp5
 go_wp2_with fail
 refine(CT3.out).mono ?_
 clear CT3
 rintro e w6 ⟨rfl,zp6,kk6⟩
 have CT4:=hQ9 (zkz 5 w6 zp6 (by omega))
 go_wp2_with fail
 refine(CT4.out).mono ?_
 clear CT4
 rintro e wy ⟨rfl,hz⟩
 rw [hz]
 clear hz
 have KB:=hQ9 (KMK.out w6 (zB (zB kk4 kk5) kk6))
 clear KMK kk4 kk5 kk6
 have CE1:=hQ9 (zi6 KB.out HS.out Lc (by omega) n0_lt 1 0 0 none [] 0 0 10 (by omega) (by omega) (by omega))
 have bz:=HBZ.out
 have HZP6:=hQ9 zp6
 clear zp6
 go_wp2_with fail
 refine(CE1.out).mono ?_
 clear CE1 bz
 rintro e w7 ⟨⟨BA,bc,L,rfl,heL,HRL,-⟩,k7,KB7⟩
 obtain⟨ba,hba⟩:∃ b,(⟨1,0,0,0,none,[],0,0,10,BA,L,bc⟩:BK)=b:=⟨_,rfl⟩
 have hbaok:ba.ok:=by rw [←hba];exact em_ok 3 4 _ 1 0 0 none [] 0 0 10 BA L bc ⟨by decide,by decide⟩ ⟨by decide,by decide⟩ (by decide) ⟨by decide,by decide⟩ ⟨by decide,by decide⟩ (by decide) heL
 rw [hba]
 obtain⟨w8,hw8,ht8,g8,z8⟩:=zW w7 41 (#[.int .i64 0,.int .u64 0,.int .i64 0,.int .u64 0,.slice none 0 0,.int .i64 0,.int .i64 0,.slice none 0 0]:Array Value) ba.C (by rw [←hba];rfl)
 have HW8:=hQ9 hw8
 have HT8:=hQ9 ht8
 have SIA:Hid ((Tryz.prog.info? 41).map (·.size)=some ba.C.size):=hQ9 xq
 have SIAL:Hid ((Tryz.prog.info? 41).map (·.size)=some ba.C.toList.length):=hQ9 xq
 have HOA:=hQ9 ba.one
 have KB8:=KB7.grew g8
 have hba8:∀ y,Kp (KyP p) w8 y→ba.at y:=fun y k=>by
  rw [←hba]
  exact⟨⟨RdC.nil _ _ _,by simp,by simp⟩,HRL y (zB (zj g8) k)⟩
 obtain⟨DA,hDA⟩:∃ d,bkD ba=d:=⟨_,rfl⟩
 have HDL:Hid (DA<18446744073709551616):=hQ9 (by rw [←hDA];exact zgw ba)
 have CCE:=hQ9 (zfh KB8 HS.out Lc (by omega) n1_lt ba hbaok (by rw [←hba];show vwB 1=true;decide) DA hDA hba8)
 rw [HKCE.out,show ba.vw=1 from by rw [←hba]]at CCE
 have hm8:=z8.cell
 have hmk8:w8.rangeAt w2.heap.size 0 kc.toList:=by rw [←HKCE.out];exact KB8.kc.cell
 have HZP8:=hQ9 ((HZP6.out.kp k7 HFP.out).grew g8)
 clear hba hbaok hw8 ht8 g8 z8 KB7 KB8 hba8 hDA heL HRL k7
 generalize ba.C=ga at *
 go_wp2_with(first
  | (with_reducible refine wpList_store_mid rfl 41 (.tmp 11) (.tmp 61) rfl w7.heap.size 0 ga rfl rfl HT8.out SIA.out HOA.out ?_;rw [HW8.out];clear HW8 HT8)
  | (with_reducible refine wpList_load_mid rfl 49 (.tmp 6) rfl w2.heap.size 0 rfl kc.toList _ hmk8 hkt rfl HSKL.out ?_;simp only [Array.toArray_toList])
  | (with_reducible refine wpList_load_mid rfl 41 (.tmp 11) rfl w7.heap.size 0 rfl ga.toList _ hm8 hbt rfl SIAL.out ?_;simp only [Array.toArray_toList]))
 refine(CCE.out).mono ?_
 clear CCE hm8 hmk8
 rintro e w9 ⟨⟨QA,qc,N,rfl,hmvN,HVN,hqc⟩,k9,KB9⟩
 obtain⟨A1,A2,A3,c1,c2,c3,hN⟩:=v3_mv hmvN
 have hN3:N.length=3:=by rw [hN];rfl
 obtain⟨qa,hQA,-,-⟩:=(HVN w9 (zJ _ _)).get 0 (by rw [hN3];decide)
 subst hQA
 have HN3:=hQ9 hN3
 have HCQ:Hid (cqV (kpV 3 4 RA Rc) 1 DA N=0):=hQ9 (by rw [hN];exact vcq3 3 4 RA Rc 1 DA (by omega) (by decide) _ _ _ (n1_lt 1 (by decide) (by decide)) (n1_lt 2 (by decide) (by decide)) (n1_lt 3 (by decide) (by decide)) A1 A2 A3 c1 c2 c3)
 obtain⟨gq,hgq⟩:∃ g,vqC 1 DA (some ⟨qa,0,none⟩) 3 qc=g:=⟨_,rfl⟩
 have HGQ:=hQ9 hgq
 rw [hgq]
 obtain⟨wa,hwa,hta,gaa,za⟩:=zW w9 38 (#[.int .i64 0,.int .u64 0,.slice none 0 0]:Array Value) gq (by rw [←hgq];rfl)
 have HWA:=hQ9 hwa
 have HTA:=hQ9 hta
 have SIQ:Hid ((Tryz.prog.info? 38).map (·.size)=some gq.size):=hQ9 (by rw [←hgq];exact zP)
 have SIQL:Hid ((Tryz.prog.info? 38).map (·.size)=some gq.toList.length):=hQ9 (by rw [←hgq];exact zP)
 have HOQ:Hid (gq.all (·.oneCell')=true):=hQ9 (by rw [←hgq];exact yo _ _ _ _ _)
 have KBA:=hQ9 (KB9.grew gaa)
 have HVNA:Hid (∀ y,Kp (KyP p) wa y→Vps y (some ⟨qa,0,none⟩) N):=hQ9 (fun y k=>HVN y (zB (zj gaa) k))
 have HF9:Hid (¬KyP p w9.heap.size):=hQ9 (KB9.far KB9.sz)
 have HZPA:=hQ9 ((HZP8.out.kp k9 HFP.out).grew gaa)
 have HZA:=hQ9 za
 have hq9:w9.heap.size<wa.heap.size:=za.lt
 have HQ9:=hQ9 hq9
 clear hmvN hN hN3 HVN hqc k9 KB9 hgq hwa hta gaa za hq9
 go_wp2_with(with_reducible refine wpList_store_mid rfl 38 (.tmp 13) (.tmp 68) rfl w9.heap.size 0 gq rfl rfl HTA.out SIQ.out HOQ.out ?_;rw [HWA.out];clear HWA HTA)
 obtain⟨q13,hq13⟩:∃ b,w9.heap.size=b:=⟨_,rfl⟩
 rw [hq13]at HF9 HZA HQ9 ⊢
 clear hq13
 obtain⟨qk,hqk⟩:∃ b,w2.heap.size=b:=⟨_,rfl⟩
 rw [hqk]at KBA ⊢
 clear hqk
 obtain⟨B0,hB0⟩:∃ b,w3.heap.size=b:=⟨_,rfl⟩
 rw [hB0]at KBA HPB
 clear hB0
 go_loopw [15,16] (fun rv iv wr=>∃(n:Nat) (M:List NW),n≤3∧iv=.int .i64 (n:Int)∧MvN (l9 DA N n) M∧NRow wa.heap.size rv M wr∧KBase 3 4 p (nx9 n) qk lad RA Rc w B0 wr∧Kp (KyP p) wa wr) (fun _ iv _=>3-(Go.RowKit.intOf iv).toNat)
 case atStart=>exact⟨0,[],by omega,rfl,MvN.nil,NRow.nil _ _,KBA.out,zJ _ _⟩
 case round =>
  obtain⟨n,M,hn,rfl,hmv,hvr,hkb,hkp⟩:=hrel
  by_cases hlt:n<3
  ·have e33:decide ((n:Int)<3)=true:=decide_eq_true (by omega)
   have e44:decide (n<3)=true:=decide_eq_true hlt
   have HLT:=hQ9 hlt
   have HKB:=hQ9 hkb
   have HKP:=hQ9 hkp
   have HVR:=hQ9 hvr
   have HMV:=hQ9 hmv
   have hlm:M.length=n:=by rw [hmv.len,qX]
   have HLM:=hQ9 hlm
   have HN9:Hid (nx9 n n<2^4):=hQ9 (zcl n hlt)
   have HPN:Hid (w.heap.size≤p n+1∧p n+1<B0∧p n<B0):=hQ9 (hkb.lo n (by omega))
   have HBA:Hid (B0≤wa.heap.size):=hQ9 KBA.out.sz
   have HBW:Hid (wa.heap.size≤wr.heap.size):=hQ9 hkp.size
   have HOB:Hid (∀ g,u15.ownBlock=some g→g<wr.heap.size):=hQ9 (fun g e=>(zG hvr.row g e).2)
   obtain⟨wb,hwb,htb,gb,zb⟩:=zW wr 38 (#[.int .i64 0,.int .u64 0,.slice none 0 0]:Array Value) (#[.int .i64 0,.int .u64 0,.slice none 0 0]:Array Value) rfl
   have HWB:=hQ9 hwb
   have HTB:=hQ9 htb
   have SIZ:Hid ((Tryz.prog.info? 38).map (·.size)=some ((#[.int .i64 0,.int .u64 0,.slice none 0 0]:Array Value)).size):=hQ9 zP
   have HOZ:Hid (((#[.int .i64 0,.int .u64 0,.slice none 0 0]:Array Value)).all (·.oneCell')=true):=hQ9 (by simp [Value.oneCell'])
   have bz:=HBZ.out
   have HQA:Hid (∀ y,Kp (KyP p) wa y→Ag y q13 gq.toList):=hQ9 (fun y k=>HZA.out.kp k HF9.out)
   clear hwb htb hmv hvr hkb hkp hlt hlm
   by_cases hn1:n=1
   ·have e82:((n:Int)==1)=true:=by simp;omega
    have HN1:=hQ9 hn1
    clear hn1
    obtain⟨q17,hq17⟩:∃ b,wr.heap.size=b:=⟨_,rfl⟩
    have hmq:=(HQA.out wb (zB HKP.out (zj gb))).cell
    have hqt17:gq.size=3:=by rw [←HGQ.out];rfl
    have HTQ:Hid (wb.there q17 0 gq.size):=hQ9 (by rw [←hq17,hqt17];exact zb.thereN 3 rfl)
    have z17:=Ag.set (vs:=gq.toList) zb (by rw [Array.length_toList,hqt17];rfl)
    have g17:=zi (o:=0) (b:=wr.heap.size) gq.toList gb (Nat.le_refl _)
    rw [hq17]at z17 g17
    have HQE:=hQ9 hq17
    obtain⟨wc,hwc⟩:∃ v,wb.setCells q17 0 gq.toList=v:=⟨_,rfl⟩
    rw [hwc]at z17 g17
    have HWC:=hQ9 hwc
    have HQ17:Hid (wr.heap.size≤q17):=hQ9 (by omega)
    clear hwc zb hq17 hqt17
    go_upto_region 20 with (first
     | (with_reducible refine wpList_store_mid rfl 38 (.tmp 17) (.tmp 80) rfl wr.heap.size 0 (#[.int .i64 0,.int .u64 0,.slice none 0 0]:Array Value) rfl rfl HTB.out SIZ.out HOZ.out ?_;rw [HWB.out];clear HWB HTB))
    rw [HQE.out]
    go_upto_region 21 with (first
     | (with_reducible refine wpList_load_mid rfl 38 (.tmp 13) rfl q13 0 rfl gq.toList _ hmq hqt rfl SIQL.out ?_;simp only [Array.toArray_toList])
     | (with_reducible refine wpList_store_mid rfl 38 (.tmp 17) (.tmp 83) rfl q17 0 gq rfl rfl HTQ.out SIQ.out HOQ.out ?_;rw [HWC.out];clear HWC HTQ))
    clear hmq gb
    clear wb
    obtain⟨wb,hwb⟩:∃ v,wc=v:=⟨_,rfl⟩
    subst hwb
    have HGRW:Hid (Grew wr wc):=hQ9 g17
    obtain⟨gh,hgh⟩:∃ g,gq=g:=⟨_,rfl⟩
    have HZ17:Hid (Ag wc q17 gh.toList):=hQ9 (by rw [←hgh];exact z17)
    have SIHL:Hid ((Tryz.prog.info? 38).map (·.size)=some gh.toList.length):=hQ9 (by rw [←hgh];exact SIQL.out)
    obtain⟨qvh,hqvh⟩:∃ v:Int,1=v:=⟨_,rfl⟩
    obtain⟨qdh,hqdh⟩:∃ v:Nat,DA=v:=⟨_,rfl⟩
    obtain⟨QAh,hQAh⟩:∃ v:Option Addr,some ⟨qa,0,none⟩=v:=⟨_,rfl⟩
    obtain⟨qkh,hqkh⟩:∃ v:Nat,qc=v:=⟨_,rfl⟩
    obtain⟨Hh,hHh⟩:∃ v:List VP,N=v:=⟨_,rfl⟩
    have HGH:Hid (vqC qvh qdh QAh Hh.length qkh=gh):=hQ9 (by rw [←hqvh,←hqdh,←hQAh,←hqkh,←hHh,HN3.out,←hgh];exact HGQ.out)
    have HQV:Hid (in64 qvh):=hQ9 (by rw [←hqvh];exact⟨by decide,by decide⟩)
    have HQD:Hid (qdh<18446744073709551616):=hQ9 (by rw [←hqdh];exact HDL.out)
    have HHL:Hid (Hh.length≤100000):=hQ9 (by rw [←hHh,HN3.out];decide)
    have HVH0:Hid (∀ y,Kp (KyP p) wc y→Vps y QAh Hh):=hQ9 (fun y k=>by rw [←hQAh,←hHh];exact HVNA.out y (zB (zB HKP.out (zj HGRW.out)) k))
    have HSGN:Hid (sg9 DA N n=nwK 3 4 (nx9 n n) 6 qvh qdh n none 0 Hh none 0):=hQ9 (by unfold sg9;rw [if_pos HN1.out,if_pos HN1.out,if_pos HN1.out,←hqvh,←hqdh,←hHh])
    clear hgh hqvh hqdh hQAh hqkh hHh z17 g17
    have HKBB:=hQ9 (HKB.out.grew HGRW.out)
    have HSB:Hid (∀ g,(fun j=>j=p n+1) g→g<wc.heap.size):=hQ9 (fun g h=>by
     have h1:g=p n+1:=h
     have:=HPN.out;have:=HBA.out;have:=HBW.out;have:=HGRW.out.size;omega)
    have HSY:Hid (∀ y,Kp (fun j=>j=p n+1) wc y→Std y):=hQ9 (fun y k=>HS.out.grew (zO HKBB.out.gr k HKBB.out.gr.size (fun i (hi:i=p n+1)=>by have:=HPN.out;omega)))
    have HLC:Hid (∀ y,Kp (fun j=>j=p n+1) wc y→y.cell? (lad.add n)=some (.pointer (some ⟨p n+1,0,none⟩))):=hQ9 (fun y k=>(World.cell?_of_block (by rw [zv];exact k.block lad.block (by have:=HKBB.out.lb;have:=HKBB.out.sz;omega) (HKBB.out.ln n (by have:=HLT.out;omega)))).trans (HKBB.out.ld n (by have:=HLT.out;omega)))
    have HCB:Hid (∀ y,Kp (fun j=>j=p n+1) wc y→y.rangeAt q17 0 gh.toList):=hQ9 (fun y k=>(HZ17.out.kp k (fun h=>by have h:q17=p n+1:=h;have:=HPN.out;have:=HBA.out;have:=HBW.out;have:=HQ17.out;omega)).cell)
    have HVH:Hid (∀ y,Kp (fun j=>j=p n+1) wc y→Vps y QAh Hh):=hQ9 (fun y k=>HVH0.out y (xn k (fun i (h:i=p n+1)=>⟨n,by have:=HLT.out;omega,h⟩)))
    have HKY:Hid (∀ y,Grew wc y→KyAt y (p n+1) (p n) (n:Int) (sdI 3 n) (ksL 3 4 n) (nx9 n n) (2^4)):=hQ9 (fun y k=>(HKBB.out.ks n (by have:=HLT.out;omega)).grew k)
    obtain⟨S0,hS0⟩:∃ S,nwK 3 4 (nx9 n n) 6 qvh qdh n none 0 Hh none 0=S:=⟨_,rfl⟩
    have CM:Hid (∀ W,Std W→Vps W QAh Hh→KyAt W (p n+1) (p n) (n:Int) (sdI 3 n) (ksL 3 4 n) (nx9 n n) (2^4)→Calls Tryz.prog 66 #[.pointer (some ⟨p n+1,0,none⟩),.int .i64 (n:Int),.int .i64 6,.agg gh] W fun e w' =>
     (∃ S,e=.returned (.tuple #[.agg (NW.C S),.int .i64 0])∧NwMv S0 S∧S.ok∧S.at w'∧∀ j,S.in j→W.heap.size≤j)∧Tn (p n+1) W w'∧KyAt w' (p n+1) (p n) (n:Int) (sdI 3 n) (ksL 3 4 n) (nx9 n n+1) (2^4)):=hQ9 (fun W h1 h2 h3=>by
     have:=zd4 3 4 n (nx9 n n) (by omega) (by have:=HLT.out;omega) HN9.out (p n) 6 ⟨by decide,by decide⟩ qvh HQV.out qdh HQD.out QAh qkh Hh HHL.out W h1 h2 h3
     rw [hS0,HGH.out]at this
     exact this)
    have HSG:Hid (sg9 DA N n=S0):=hQ9 (by rw [←hS0];exact HSGN.out)
    clear hS0
    refine yQ 11 12 6 (fun j=>j=p n+1) (fun ix9=>match ix9 with
     | 0=>fun v=>v=.slice (some lad) 4 Lc
     | 1=>fun v=>v=.int .i64 (n:Int)
     | 2=>fun v=>v=.pointer (some (lad.add n))
     | 3=>fun v=>v=.pointer (some ⟨p n+1,0,none⟩)
     | 4=>fun v=>v=.int .i64 (n:Int)
     | 5=>fun v=>v=.agg gh
     | 6=>fun _=>True
     | 7=>fun v=>∃ S,v=.tuple #[.agg (NW.C S),.int .i64 0]
     | 8=>fun _=>True
     | 9=>fun v=>v=.int .i64 0
     | 10=>fun _=>True
     | 11=>fun _=>True
     | _=>fun _=>True) (fun ix9=>match ix9 with
     | 6=>fun lo hi v w=>MkNk w wc.heap.size (p n+1) (p n) (n:Int) (sdI 3 n) (ksL 3 4 n) (nx9 n n+1) (2^4) S0 lo hi v (fun S=>.tuple #[.agg (NW.C S),.int .i64 0])
     | 7=>fun lo hi v w=>MkNw w wc.heap.size S0 lo hi v (fun S=>.tuple #[.agg (NW.C S),.int .i64 0])
     | 8=>fun lo hi v w=>MkNw w wc.heap.size S0 lo hi v (fun S=>.agg (NW.C S))
     | 10=>fun lo hi v w=>AgZ w wc.heap.size lo hi (#[.int .i64 0,.int .i64 0,.int .i64 0,.int .u64 0,.slice none 0 0,.int .i64 0,.int .i64 0,.int .u64 0,.int .u64 0,.int .u64 0,.int .u64 0,.int .u64 0,.int .u64 0,.int .u64 0,.int .u64 0,.int .u64 0,.int .u64 0,.int .u64 0,.int .u64 0,.int .u64 0,.int .u64 0,.int .u64 0,.int .u64 0,.int .u64 0,.int .u64 0,.slice none 0 0]:Array Value).toList v
     | _=>fun _ _ _ _=>True) (fun ix9=>match ix9 with
     | 7=>6
     | 8=>7
     | ix8=>ix8) (fun ix9=>match ix9 with
     | 7=>6
     | 8=>6
     | ix8=>ix8) (fun ix9=>match ix9 with
     | 9=>true
     | _=>false) 10 (fun v W=>StNk (fun j=>j=p n+1) wc S0 (p n+1) (p n) (n:Int) (sdI 3 n) (ksL 3 4 n) (nx9 n n+1) (2^4) v W) rfl (by kernel_rfl) (by kernel_rfl) (by kernel_rfl) (by kernel_rfl) rfl rfl (by decide) (fun _=>trivial) ?_ ?_ ?_ ?_ ?_ (fun o ho=>by cases ho;rfl) (fun v x y h hg=>StNk.gr h hg) ?_
    ·simp only [actOf,tk1,tk0,dr1,dr0,Act.put,si1,st1,st0,Nat.reduceAdd]
     refine⟨?_,?_,?_,?_,?_,?_,?_,?_,?_,?_,?_,trivial⟩
     ·intro vs lo hi y hg hd hvia
      replace hg:Kp (fun j=>j=p n+1) wc y:=hg
      clear hvia
      dsimp only
      go_wp2_with fail
      first | exact⟨rfl,_,rfl,zc _,rfl⟩ | exact⟨rfl,_,rfl,zc _,rfl,trivial⟩
     ·intro vs lo hi y hg hd hvia
      replace hg:Kp (fun j=>j=p n+1) wc y:=hg
      clear hvia
      dsimp only
      go_wp2_with fail
      first | exact⟨rfl,_,rfl,zc _,rfl⟩ | exact⟨rfl,_,rfl,zc _,rfl,trivial⟩
     ·intro vs lo hi y hg hd hvia
      replace hg:Kp (fun j=>j=p n+1) wc y:=hg
      obtain⟨h0,h1,_⟩:=hd
      replace h0:=h0 rfl
      replace h1:=h1 rfl
      clear hvia
      dsimp only
      rw [show vs 0=_ from h0,show vs 1=_ from h1]
      go_wp2_with fail
      first | exact⟨rfl,_,rfl,zc _,rfl⟩ | exact⟨rfl,_,rfl,zc _,rfl,trivial⟩
     ·intro vs lo hi y hg hd hvia
      replace hg:Kp (fun j=>j=p n+1) wc y:=hg
      obtain⟨h2,_⟩:=hd
      replace h2:=h2 rfl
      clear hvia
      dsimp only
      rw [show vs 2=_ from h2]
      have hc:=HLC.out y hg
      go_wp2_with fail
      first | exact⟨rfl,_,rfl,zc _,rfl⟩ | exact⟨rfl,_,rfl,zc _,rfl,trivial⟩
     ·intro vs lo hi y hg hd hvia
      replace hg:Kp (fun j=>j=p n+1) wc y:=hg
      clear hvia
      dsimp only
      go_wp2_with fail
      first | exact⟨rfl,_,rfl,zc _,rfl⟩ | exact⟨rfl,_,rfl,zc _,rfl,trivial⟩
     ·intro vs lo hi y hg hd hvia
      replace hg:Kp (fun j=>j=p n+1) wc y:=hg
      clear hvia
      dsimp only
      have hm:=HCB.out y hg
      go_wp2_with(with_reducible refine wpList_load_mid rfl 38 (.tmp 17) rfl q17 0 rfl gh.toList _ hm hqt rfl SIHL.out ?_;simp only [Array.toArray_toList])
      first | exact⟨rfl,_,rfl,zc _,rfl⟩ | exact⟨rfl,_,rfl,zc _,rfl,trivial⟩
     ·intro vs lo hi y hg hd hvia
      replace hg:Grew wc y:=hg
      obtain⟨h3,h4,h5,_⟩:=hd
      replace h3:=h3 rfl
      replace h4:=h4 rfl
      replace h5:=h5 rfl
      clear hvia
      dsimp only
      rw [show vs 3=_ from h3,show vs 4=_ from h4,show vs 5=_ from h5]
      have hgS:=HSY.out y (zj hg)
      have hKY:=HKY.out y hg
      have hVP:=HVH.out y (zj hg)
      go_wp2_with(go_at_call 66;refine(CM.out y hgS hVP hKY).mono ?_;rintro e z ⟨⟨S9,rfl,hmv9,hok9,hat9,hfr9⟩,ht9,hk9⟩)
      exact⟨rfl,_,rfl,kp_tn ht9,trivial,⟨⟨S9,rfl,hmv9,hok9,hat9,hg.size,fun j hj=>⟨hfr9 j hj,zak hat9 j hj⟩⟩,hk9⟩⟩
     ·intro vs lo hi y hg hd hvia
      replace hg:Kp (fun j=>j=p n+1) wc y:=hg
      obtain⟨h6,_⟩:=hd
      replace h6:=h6 rfl
      have hv9:(fun lo hi v w=>MkNk w wc.heap.size (p n+1) (p n) (n:Int) (sdI 3 n) (ksL 3 4 n) (nx9 n n+1) (2^4) S0 lo hi v (fun S=>.tuple #[.agg (NW.C S),.int .i64 0])) (lo 6) (hi 6) (vs 6) y:=hvia rfl
      clear hvia
      dsimp only
      obtain⟨S9,e9,hr9⟩:=MkNw.out (MkNk.sk hv9)
      rw [e9]
      go_wp2_with fail
      exact⟨rfl,_,rfl,zc _,⟨S9,rfl⟩,⟨S9,rfl,hr9⟩⟩
     ·intro vs lo hi y hg hd hvia
      replace hg:Kp (fun j=>j=p n+1) wc y:=hg
      obtain⟨h7,_⟩:=hd
      replace h7:=h7 rfl
      have hv9:(fun lo hi v w=>MkNw w wc.heap.size S0 lo hi v (fun S=>.tuple #[.agg (NW.C S),.int .i64 0])) (lo 7) (hi 7) (vs 7) y:=hvia rfl
      clear hvia
      dsimp only
      obtain⟨S9,e9,hr9⟩:=MkNw.out hv9
      rw [e9]
      go_wp2_with fail
      exact⟨rfl,_,rfl,zc _,⟨S9,rfl,hr9⟩⟩
     ·intro vs lo hi y hg hd hvia
      replace hg:Kp (fun j=>j=p n+1) wc y:=hg
      obtain⟨h7,_⟩:=hd
      replace h7:=h7 rfl
      clear hvia
      dsimp only
      obtain⟨S9,e9⟩:=h7
      rw [e9]
      go_wp2_with fail
      first | exact⟨rfl,_,rfl,zc _,rfl⟩ | exact⟨rfl,_,rfl,zc _,rfl,trivial⟩
     ·intro vs lo hi y hg hd hvia
      replace hg:Kp (fun j=>j=p n+1) wc y:=hg
      clear hvia
      dsimp only
      go_wp2_with fail
      exact⟨rfl,_,rfl,zg (zc _) _,⟨y.heap.size,rfl,Ag.new y 111 (#[.int .i64 0,.int .i64 0,.int .i64 0,.int .u64 0,.slice none 0 0,.int .i64 0,.int .i64 0,.int .u64 0,.int .u64 0,.int .u64 0,.int .u64 0,.int .u64 0,.int .u64 0,.int .u64 0,.int .u64 0,.int .u64 0,.int .u64 0,.int .u64 0,.int .u64 0,.int .u64 0,.int .u64 0,.int .u64 0,.int .u64 0,.int .u64 0,.int .u64 0,.slice none 0 0]:Array Value),hg.size,Nat.le_refl _,by show y.heap.size<(y.alloc _).heap.size;simp⟩⟩
    ·refine⟨(fun h=>absurd h (by decide)),(fun h=>absurd h (by decide)),(fun h=>absurd h (by decide)),(fun h=>absurd h (by decide)),(fun h=>absurd h (by decide)),(fun h=>absurd h (by decide)),(fun h=>absurd h (by decide)),(fun h=>absurd h (by decide)),(fun h=>absurd h (by decide)),?_,(fun h=>absurd h (by decide)),(fun h=>absurd h (by decide)),trivial⟩
     ·intro _ vs y hd
      obtain⟨h7,_⟩:=hd
      replace h7:=h7 rfl
      simp only [actOf,tk1,tk0,dr1,dr0,Act.put,si1,st1,st0,Nat.reduceAdd]
      obtain⟨S9,e9⟩:=h7
      rw [e9]
      go_wp2_with fail
      first | exact⟨rfl,_,rfl,zc _,rfl⟩ | exact⟨rfl,_,rfl,zc _,rfl,trivial⟩
    ·intro lo hi v x y h hg
     exact MkNk.gr h hg
    ·intro i lo hi v x y hne hx h hg
     match i,h with
     | 6,h=>exact absurd rfl hne
     | 7,h=>exact MkNw.kp h hg HSB.out
     | 8,h=>exact MkNw.kp h hg HSB.out
     | 10,h=>exact AgZ.kp h hg HSB.out
     | 0,_=>trivial
     | 1,_=>trivial
     | 2,_=>trivial
     | 3,_=>trivial
     | 4,_=>trivial
     | 5,_=>trivial
     | 9,_=>trivial
     | m+11,_=>trivial
    ·intro vs lo hi y hg hJ hK hB hD
     replace hg:Kp (fun j=>j=p n+1) wc y:=hg
     have k91:=hK 6 (by decide) rfl
     have b91:=hB 6 (by decide) rfl
     have k84:=hK 7 (by decide) rfl
     have b84:=hB 7 (by decide) rfl
     have k92:=hK 8 (by decide) rfl
     have b92:=hB 8 (by decide) rfl
     have k18:=hK 10 (by decide) rfl
     have b18:=hB 10 (by decide) rfl
     have d91_18:=hD 6 (by decide) rfl 10 (by decide) rfl (by decide)
     have d84_18:=hD 7 (by decide) rfl 10 (by decide) rfl (by decide)
     have d92_18:=hD 8 (by decide) rfl 10 (by decide) rfl (by decide)
     clear hK hB hD
     have j0:vs 0=.slice (some lad) 4 Lc:=hJ 0 (by decide) rfl
     have j1:vs 1=.int .i64 (n:Int):=hJ 1 (by decide) rfl
     have j2:vs 2=.pointer (some (lad.add n)):=hJ 2 (by decide) rfl
     have j3:vs 3=.pointer (some ⟨p n+1,0,none⟩):=hJ 3 (by decide) rfl
     have j4:vs 4=.int .i64 (n:Int):=hJ 4 (by decide) rfl
     have j5:vs 5=.agg gh:=hJ 5 (by decide) rfl
     clear hJ
     simp only [actOf,tk1,tk0,dr1,dr0,Act.put,si1,st1,st0,Nat.reduceAdd]
     obtain⟨S1,e92,hm1,ho1,hat1,hb1,hr1⟩:=MkNw.out k92
     obtain⟨q,e18,zq,hBq,hql,hqh⟩:=AgZ.out k18
     rw [e92,e18]
     have hky:=MkNk.ky k91
     have hPI:=HPN.out
     have hbz:=HBW.out
     have hbb:=HBA.out
     have hgr:=HGRW.out.size
     have HNQ:Hid (∀ j,S1.in j→¬j=q):=hQ9 (fun j hj e=>by have:=hr1 j hj;rcases d92_18 with h2 | h2<;>omega)
     have HLO1:Hid (∀ j,S1.in j→wc.heap.size≤j):=hQ9 (fun j hj=>by have:=hr1 j hj;omega)
     obtain⟨gs,hgs⟩:∃ g,NW.C S1=g:=⟨_,rfl⟩
     have hz26:gs.size=26:=by rw [←hgs];rfl
     have HTH:Hid (y.there q 0 gs.size):=hQ9 (zq.thereN gs.size (by rw [hz26];rfl))
     have HSI:Hid ((Tryz.prog.info? 111).map (·.size)=some gs.size):=hQ9 (by rw [hz26];exact zD)
     have HON:Hid (gs.all (·.oneCell')=true):=hQ9 (by rw [←hgs];exact S1.one)
     have z4:=Ag.set (vs:=gs.toList) zq (by rw [Array.length_toList,hz26];rfl)
     have k4:=zn gs.toList q 0 y
     have HF:Hid (StNk (fun j=>j=p n+1) wc S0 (p n+1) (p n) (n:Int) (sdI 3 n) (ksL 3 4 n) (nx9 n n+1) (2^4) (.pointer (some ⟨q,0,none⟩)) (y.setCells q 0 gs.toList)):=hQ9 ⟨⟨S1,q,rfl,by rw [hgs];exact z4,hm1,ho1,xM hat1 k4 (fun j hj h=>HNQ.out j hj h),by omega,HLO1.out,kY hg k4 (by omega)⟩,hky.kp k4 (fun h=>by have h:p n+1=q:=h;omega) (fun h=>by have h:p n=q:=h;omega)⟩
     rw [hgs]
     clear hgs hg z4 k4 zq hat1 hky hm1 ho1
     generalize gs=gs' at *
     go_wp2_with(with_reducible refine wpList_store_mid rfl 111 (.tmp 18) (.tmp 92) rfl q 0 gs' rfl rfl HTH.out HSI.out HON.out ?_)
     exact HF.out
    ·intro vs w4 hF hJ
     have j0:vs 0=.slice (some lad) 4 Lc:=hJ 0 (by decide)
     have j1:vs 1=.int .i64 (n:Int):=hJ 1 (by decide)
     have j2:vs 2=.pointer (some (lad.add n)):=hJ 2 (by decide)
     have j3:vs 3=.pointer (some ⟨p n+1,0,none⟩):=hJ 3 (by decide)
     have j4:vs 4=.int .i64 (n:Int):=hJ 4 (by decide)
     have j5:vs 5=.agg gh:=hJ 5 (by decide)
     have j9:vs 9=.int .i64 0:=hJ 9 (by decide)
     clear hJ
     simp only [actOf,tk1,tk0,dr1,dr0,Act.put,si1,st1,st0,Nat.reduceAdd]
     obtain⟨⟨S1,q,e5,z4,hm4,ho4,hat4,hq4,hlo4,kk⟩,hky4⟩:=hF
     rw [e5,show vs 9=_ from j9]
     have KB4:=HKBB.out.tn (by have:=HLT.out;omega) kk hky4
     rw [show updK (nx9 n) n=nx9 (n+1) from rfl]at KB4
     have HKB4:=hQ9 KB4
     have hvr4:=(HVR.out.grew HGRW.out).kp kk (fun g (h:g=p n+1)=>by have:=HPN.out;have:=HBA.out;omega)
     have HVR4:=hQ9 hvr4
     have HKP4:Hid (Kp (KyP p) wa w4):=hQ9 (zB (zB HKP.out (zj HGRW.out)) (xn kk (fun i (h:i=p n+1)=>⟨n,by have:=HLT.out;omega,h⟩)))
     have HML:Hid (MvN (l9 DA N (n+1)) (M++[S1])):=hQ9 (by rw [zd5];exact HMV.out.snoc (by rw [HSG.out];exact hm4))
     have HSO:=hQ9 ho4
     have HSA4:=hQ9 hat4
     have HIN:Hid (∀ j,S1.in j→wc.heap.size≤j):=hQ9 hlo4
     obtain⟨gs,hgs⟩:∃ g,NW.C S1=g:=⟨_,rfl⟩
     rw [hgs]at z4
     have HGS:=hQ9 hgs
     have HONE:Hid (∀ u∈gs.toList,u.oneCell'=true):=hQ9 (by rw [←hgs];exact S1.one')
     have HFOLD:Hid (Array.foldl (fun(cs:Array Value) (x:Value × Nat)=>cs.setIfInBounds x.snd x.fst) (#[.int .i64 0,.int .i64 0,.int .i64 0,.int .u64 0,.slice none 0 0,.int .i64 0,.int .i64 0,.int .u64 0,.int .u64 0,.int .u64 0,.int .u64 0,.int .u64 0,.int .u64 0,.int .u64 0,.int .u64 0,.int .u64 0,.int .u64 0,.int .u64 0,.int .u64 0,.int .u64 0,.int .u64 0,.int .u64 0,.int .u64 0,.int .u64 0,.int .u64 0,.slice none 0 0]:Array Value) gs.zipIdx 0 26=gs):=hQ9 (by rw [←hgs];exact xL S1)
     have hgs26:gs.size=26:=by rw [←hgs];rfl
     have HLEN:Hid (gs.toList.length=26):=hQ9 (by rw [Array.length_toList,hgs26])
     have HSL:Hid ((Tryz.prog.info? 111).map (·.size)=some gs.toList.length):=hQ9 (by rw [←hgs];exact zD)
     have hm5:=z4.cell
     have hrow5:=HVR4.out.row
     rw [HLM.out]at hrow5
     have hb9:wa.heap.size≤w4.heap.size:=HKP4.out.size
     have hgw:=HGRW.out.size
     have hln:=HLT.out
     have ga:=zg (zc w4) (.cells gs 111)
     have HWB4:Hid (wr.heap.size≤w4.heap.size):=hQ9 (by have:=kk.size;omega)
     clear e5 z4 hm4 ho4 hat4 hq4 hlo4 kk hky4 KB4 hvr4 hgs
     try clear j0
     try clear j1
     try clear j2
     try clear j3
     try clear j4
     try clear j5
     try clear j9
     clear HKBB HSB HSY HLC HCB HVH HKY CM
     go_wp2_with(first
      | (with_reducible refine wpList_load_mid rfl 111 (.tmp 18) rfl q 0 rfl gs.toList _ hm5 hnt rfl HSL.out ?_;simp only [Array.toArray_toList])
      | (at_builtin;rw [HFOLD.out];refine zK _ rfl (.tmp 96) (.tmp 98) 120 rfl wa.heap.size 111 i0 (.agg (#[.int .i64 0,.int .i64 0,.int .i64 0,.int .u64 0,.slice none 0 0,.int .i64 0,.int .i64 0,.int .u64 0,.int .u64 0,.int .u64 0,.int .u64 0,.int .u64 0,.int .u64 0,.int .u64 0,.int .u64 0,.int .u64 0,.int .u64 0,.int .u64 0,.int .u64 0,.int .u64 0,.int .u64 0,.int .u64 0,.int .u64 0,.int .u64 0,.int .u64 0,.slice none 0 0]:Array Value)) 26 240 Tryz.underlying120 hi hz0 hz1 hz2 rfl (by decide) _ _ _ rfl (hrow5.alloc _) ⟨w4.heap.size,0,none⟩ 1 1 gs.toList rfl (by rw [HLEN.out]) (fun j u hj=>yd w4 gs 111 j u hj) HONE.out (by have:=HLT.out;unfold maxLen;omega) (by have:=HLT.out;omega) (by simp;omega) ?_;intro v' w6 hown6 hgrow6 hob6))
     have K6:Kp (fun g=>wa.heap.size≤g) w4 w6:=yD (zj ga) hgrow6 (fun g e=>.inl (zA hrow5 g e))
     refine⟨⟨n+1,M++[S1],(by have:=HLT.out;omega),(by go_num),HML.out,?_,HKB4.out.kp K6 (fun g h=>Nat.le_trans HBA.out h),xh HKP4.out K6 (fun i h=>.inr h)⟩,?_⟩
     ·exact HVR4.out.app HSO.out HSA4.out (fun j hj=>by have:=HIN.out j hj;have:=HBW.out;omega) (fun j hj e=>by have:=HIN.out j hj;have:=HOB.out j e;omega) ga (by rw [HLM.out,HGS.out];exact hown6) hgrow6 hob6
     ·have:=HLT.out;simp [Go.RowKit.intOf];omega
   ·have e82:((n:Int)==1)=false:=by simp;omega
    obtain⟨q17,hq17⟩:∃ b,wr.heap.size=b:=⟨_,rfl⟩
    obtain⟨gh,hgh⟩:∃ g,vqC 0 0 none ([]:List VP).length 0=g:=⟨_,rfl⟩
    have HGH:=hQ9 hgh
    have HGRW:=hQ9 gb
    have HZ17:Hid (Ag wb q17 gh.toList):=hQ9 (by rw [←hq17,←hgh];exact zb)
    have HQ17:Hid (wr.heap.size≤q17):=hQ9 (by omega)
    have HQE:=hQ9 hq17
    have SIHL:Hid ((Tryz.prog.info? 38).map (·.size)=some gh.toList.length):=hQ9 (by rw [←hgh];exact zP)
    obtain⟨qvh,hqvh⟩:∃ v:Int,0=v:=⟨_,rfl⟩
    obtain⟨qdh,hqdh⟩:∃ v:Nat,0=v:=⟨_,rfl⟩
    obtain⟨QAh,hQAh⟩:∃ v:Option Addr,none=v:=⟨_,rfl⟩
    obtain⟨qkh,hqkh⟩:∃ v:Nat,0=v:=⟨_,rfl⟩
    obtain⟨Hh,hHh⟩:∃ v:List VP,[]=v:=⟨_,rfl⟩
    have HGH:Hid (vqC qvh qdh QAh Hh.length qkh=gh):=hQ9 (by rw [←hqvh,←hqdh,←hQAh,←hqkh,←hHh];exact hgh)
    have HQV:Hid (in64 qvh):=hQ9 (by rw [←hqvh];exact⟨by decide,by decide⟩)
    have HQD:Hid (qdh<18446744073709551616):=hQ9 (by rw [←hqdh];decide)
    have HHL:Hid (Hh.length≤100000):=hQ9 (by rw [←hHh];decide)
    have HVH0:Hid (∀ y,Kp (KyP p) wb y→Vps y QAh Hh):=hQ9 (fun y k=>by rw [←hQAh,←hHh];exact⟨RdC.nil _ _ _,by simp,by simp⟩)
    have HSGN:Hid (sg9 DA N n=nwK 3 4 (nx9 n n) 6 qvh qdh n none 0 Hh none 0):=hQ9 (by unfold sg9;rw [if_neg hn1,if_neg hn1,if_neg hn1,←hqvh,←hqdh,←hHh])
    clear hgh hq17 hqvh hqdh hQAh hqkh hHh gb zb hn1
    have HKBB:=hQ9 (HKB.out.grew HGRW.out)
    have HSB:Hid (∀ g,(fun j=>j=p n+1) g→g<wb.heap.size):=hQ9 (fun g h=>by
     have h1:g=p n+1:=h
     have:=HPN.out;have:=HBA.out;have:=HBW.out;have:=HGRW.out.size;omega)
    have HSY:Hid (∀ y,Kp (fun j=>j=p n+1) wb y→Std y):=hQ9 (fun y k=>HS.out.grew (zO HKBB.out.gr k HKBB.out.gr.size (fun i (hi:i=p n+1)=>by have:=HPN.out;omega)))
    have HLC:Hid (∀ y,Kp (fun j=>j=p n+1) wb y→y.cell? (lad.add n)=some (.pointer (some ⟨p n+1,0,none⟩))):=hQ9 (fun y k=>(World.cell?_of_block (by rw [zv];exact k.block lad.block (by have:=HKBB.out.lb;have:=HKBB.out.sz;omega) (HKBB.out.ln n (by have:=HLT.out;omega)))).trans (HKBB.out.ld n (by have:=HLT.out;omega)))
    have HCB:Hid (∀ y,Kp (fun j=>j=p n+1) wb y→y.rangeAt q17 0 gh.toList):=hQ9 (fun y k=>(HZ17.out.kp k (fun h=>by have h:q17=p n+1:=h;have:=HPN.out;have:=HBA.out;have:=HBW.out;have:=HQ17.out;omega)).cell)
    have HVH:Hid (∀ y,Kp (fun j=>j=p n+1) wb y→Vps y QAh Hh):=hQ9 (fun y k=>HVH0.out y (xn k (fun i (h:i=p n+1)=>⟨n,by have:=HLT.out;omega,h⟩)))
    have HKY:Hid (∀ y,Grew wb y→KyAt y (p n+1) (p n) (n:Int) (sdI 3 n) (ksL 3 4 n) (nx9 n n) (2^4)):=hQ9 (fun y k=>(HKBB.out.ks n (by have:=HLT.out;omega)).grew k)
    obtain⟨S0,hS0⟩:∃ S,nwK 3 4 (nx9 n n) 6 qvh qdh n none 0 Hh none 0=S:=⟨_,rfl⟩
    have CM:Hid (∀ W,Std W→Vps W QAh Hh→KyAt W (p n+1) (p n) (n:Int) (sdI 3 n) (ksL 3 4 n) (nx9 n n) (2^4)→Calls Tryz.prog 66 #[.pointer (some ⟨p n+1,0,none⟩),.int .i64 (n:Int),.int .i64 6,.agg gh] W fun e w' =>
     (∃ S,e=.returned (.tuple #[.agg (NW.C S),.int .i64 0])∧NwMv S0 S∧S.ok∧S.at w'∧∀ j,S.in j→W.heap.size≤j)∧Tn (p n+1) W w'∧KyAt w' (p n+1) (p n) (n:Int) (sdI 3 n) (ksL 3 4 n) (nx9 n n+1) (2^4)):=hQ9 (fun W h1 h2 h3=>by
     have:=zd4 3 4 n (nx9 n n) (by omega) (by have:=HLT.out;omega) HN9.out (p n) 6 ⟨by decide,by decide⟩ qvh HQV.out qdh HQD.out QAh qkh Hh HHL.out W h1 h2 h3
     rw [hS0,HGH.out]at this
     exact this)
    have HSG:Hid (sg9 DA N n=S0):=hQ9 (by rw [←hS0];exact HSGN.out)
    clear hS0
    go_upto_region 21 with (first
     | (with_reducible refine wpList_store_mid rfl 38 (.tmp 17) (.tmp 80) rfl wr.heap.size 0 (#[.int .i64 0,.int .u64 0,.slice none 0 0]:Array Value) rfl rfl HTB.out SIZ.out HOZ.out ?_;rw [HWB.out];clear HWB HTB))
    rw [HQE.out]
    refine yQ 11 12 6 (fun j=>j=p n+1) (fun ix9=>match ix9 with
     | 0=>fun v=>v=.slice (some lad) 4 Lc
     | 1=>fun v=>v=.int .i64 (n:Int)
     | 2=>fun v=>v=.pointer (some (lad.add n))
     | 3=>fun v=>v=.pointer (some ⟨p n+1,0,none⟩)
     | 4=>fun v=>v=.int .i64 (n:Int)
     | 5=>fun v=>v=.agg gh
     | 6=>fun _=>True
     | 7=>fun v=>∃ S,v=.tuple #[.agg (NW.C S),.int .i64 0]
     | 8=>fun _=>True
     | 9=>fun v=>v=.int .i64 0
     | 10=>fun _=>True
     | 11=>fun _=>True
     | _=>fun _=>True) (fun ix9=>match ix9 with
     | 6=>fun lo hi v w=>MkNk w wb.heap.size (p n+1) (p n) (n:Int) (sdI 3 n) (ksL 3 4 n) (nx9 n n+1) (2^4) S0 lo hi v (fun S=>.tuple #[.agg (NW.C S),.int .i64 0])
     | 7=>fun lo hi v w=>MkNw w wb.heap.size S0 lo hi v (fun S=>.tuple #[.agg (NW.C S),.int .i64 0])
     | 8=>fun lo hi v w=>MkNw w wb.heap.size S0 lo hi v (fun S=>.agg (NW.C S))
     | 10=>fun lo hi v w=>AgZ w wb.heap.size lo hi (#[.int .i64 0,.int .i64 0,.int .i64 0,.int .u64 0,.slice none 0 0,.int .i64 0,.int .i64 0,.int .u64 0,.int .u64 0,.int .u64 0,.int .u64 0,.int .u64 0,.int .u64 0,.int .u64 0,.int .u64 0,.int .u64 0,.int .u64 0,.int .u64 0,.int .u64 0,.int .u64 0,.int .u64 0,.int .u64 0,.int .u64 0,.int .u64 0,.int .u64 0,.slice none 0 0]:Array Value).toList v
     | _=>fun _ _ _ _=>True) (fun ix9=>match ix9 with
     | 7=>6
     | 8=>7
     | ix8=>ix8) (fun ix9=>match ix9 with
     | 7=>6
     | 8=>6
     | ix8=>ix8) (fun ix9=>match ix9 with
     | 9=>true
     | _=>false) 10 (fun v W=>StNk (fun j=>j=p n+1) wb S0 (p n+1) (p n) (n:Int) (sdI 3 n) (ksL 3 4 n) (nx9 n n+1) (2^4) v W) rfl (by kernel_rfl) (by kernel_rfl) (by kernel_rfl) (by kernel_rfl) rfl rfl (by decide) (fun _=>trivial) ?_ ?_ ?_ ?_ ?_ (fun o ho=>by cases ho;rfl) (fun v x y h hg=>StNk.gr h hg) ?_
    ·simp only [actOf,tk1,tk0,dr1,dr0,Act.put,si1,st1,st0,Nat.reduceAdd]
     refine⟨?_,?_,?_,?_,?_,?_,?_,?_,?_,?_,?_,trivial⟩
     ·intro vs lo hi y hg hd hvia
      replace hg:Kp (fun j=>j=p n+1) wb y:=hg
      clear hvia
      dsimp only
      go_wp2_with fail
      first | exact⟨rfl,_,rfl,zc _,rfl⟩ | exact⟨rfl,_,rfl,zc _,rfl,trivial⟩
     ·intro vs lo hi y hg hd hvia
      replace hg:Kp (fun j=>j=p n+1) wb y:=hg
      clear hvia
      dsimp only
      go_wp2_with fail
      first | exact⟨rfl,_,rfl,zc _,rfl⟩ | exact⟨rfl,_,rfl,zc _,rfl,trivial⟩
     ·intro vs lo hi y hg hd hvia
      replace hg:Kp (fun j=>j=p n+1) wb y:=hg
      obtain⟨h0,h1,_⟩:=hd
      replace h0:=h0 rfl
      replace h1:=h1 rfl
      clear hvia
      dsimp only
      rw [show vs 0=_ from h0,show vs 1=_ from h1]
      go_wp2_with fail
      first | exact⟨rfl,_,rfl,zc _,rfl⟩ | exact⟨rfl,_,rfl,zc _,rfl,trivial⟩
     ·intro vs lo hi y hg hd hvia
      replace hg:Kp (fun j=>j=p n+1) wb y:=hg
      obtain⟨h2,_⟩:=hd
      replace h2:=h2 rfl
      clear hvia
      dsimp only
      rw [show vs 2=_ from h2]
      have hc:=HLC.out y hg
      go_wp2_with fail
      first | exact⟨rfl,_,rfl,zc _,rfl⟩ | exact⟨rfl,_,rfl,zc _,rfl,trivial⟩
     ·intro vs lo hi y hg hd hvia
      replace hg:Kp (fun j=>j=p n+1) wb y:=hg
      clear hvia
      dsimp only
      go_wp2_with fail
      first | exact⟨rfl,_,rfl,zc _,rfl⟩ | exact⟨rfl,_,rfl,zc _,rfl,trivial⟩
     ·intro vs lo hi y hg hd hvia
      replace hg:Kp (fun j=>j=p n+1) wb y:=hg
      clear hvia
      dsimp only
      have hm:=HCB.out y hg
      go_wp2_with(with_reducible refine wpList_load_mid rfl 38 (.tmp 17) rfl q17 0 rfl gh.toList _ hm hqt rfl SIHL.out ?_;simp only [Array.toArray_toList])
      first | exact⟨rfl,_,rfl,zc _,rfl⟩ | exact⟨rfl,_,rfl,zc _,rfl,trivial⟩
     ·intro vs lo hi y hg hd hvia
      replace hg:Grew wb y:=hg
      obtain⟨h3,h4,h5,_⟩:=hd
      replace h3:=h3 rfl
      replace h4:=h4 rfl
      replace h5:=h5 rfl
      clear hvia
      dsimp only
      rw [show vs 3=_ from h3,show vs 4=_ from h4,show vs 5=_ from h5]
      have hgS:=HSY.out y (zj hg)
      have hKY:=HKY.out y hg
      have hVP:=HVH.out y (zj hg)
      go_wp2_with(go_at_call 66;refine(CM.out y hgS hVP hKY).mono ?_;rintro e z ⟨⟨S9,rfl,hmv9,hok9,hat9,hfr9⟩,ht9,hk9⟩)
      exact⟨rfl,_,rfl,kp_tn ht9,trivial,⟨⟨S9,rfl,hmv9,hok9,hat9,hg.size,fun j hj=>⟨hfr9 j hj,zak hat9 j hj⟩⟩,hk9⟩⟩
     ·intro vs lo hi y hg hd hvia
      replace hg:Kp (fun j=>j=p n+1) wb y:=hg
      obtain⟨h6,_⟩:=hd
      replace h6:=h6 rfl
      have hv9:(fun lo hi v w=>MkNk w wb.heap.size (p n+1) (p n) (n:Int) (sdI 3 n) (ksL 3 4 n) (nx9 n n+1) (2^4) S0 lo hi v (fun S=>.tuple #[.agg (NW.C S),.int .i64 0])) (lo 6) (hi 6) (vs 6) y:=hvia rfl
      clear hvia
      dsimp only
      obtain⟨S9,e9,hr9⟩:=MkNw.out (MkNk.sk hv9)
      rw [e9]
      go_wp2_with fail
      exact⟨rfl,_,rfl,zc _,⟨S9,rfl⟩,⟨S9,rfl,hr9⟩⟩
     ·intro vs lo hi y hg hd hvia
      replace hg:Kp (fun j=>j=p n+1) wb y:=hg
      obtain⟨h7,_⟩:=hd
      replace h7:=h7 rfl
      have hv9:(fun lo hi v w=>MkNw w wb.heap.size S0 lo hi v (fun S=>.tuple #[.agg (NW.C S),.int .i64 0])) (lo 7) (hi 7) (vs 7) y:=hvia rfl
      clear hvia
      dsimp only
      obtain⟨S9,e9,hr9⟩:=MkNw.out hv9
      rw [e9]
      go_wp2_with fail
      exact⟨rfl,_,rfl,zc _,⟨S9,rfl,hr9⟩⟩
     ·intro vs lo hi y hg hd hvia
      replace hg:Kp (fun j=>j=p n+1) wb y:=hg
      obtain⟨h7,_⟩:=hd
      replace h7:=h7 rfl
      clear hvia
      dsimp only
      obtain⟨S9,e9⟩:=h7
      rw [e9]
      go_wp2_with fail
      first | exact⟨rfl,_,rfl,zc _,rfl⟩ | exact⟨rfl,_,rfl,zc _,rfl,trivial⟩
     ·intro vs lo hi y hg hd hvia
      replace hg:Kp (fun j=>j=p n+1) wb y:=hg
      clear hvia
      dsimp only
      go_wp2_with fail
      exact⟨rfl,_,rfl,zg (zc _) _,⟨y.heap.size,rfl,Ag.new y 111 (#[.int .i64 0,.int .i64 0,.int .i64 0,.int .u64 0,.slice none 0 0,.int .i64 0,.int .i64 0,.int .u64 0,.int .u64 0,.int .u64 0,.int .u64 0,.int .u64 0,.int .u64 0,.int .u64 0,.int .u64 0,.int .u64 0,.int .u64 0,.int .u64 0,.int .u64 0,.int .u64 0,.int .u64 0,.int .u64 0,.int .u64 0,.int .u64 0,.int .u64 0,.slice none 0 0]:Array Value),hg.size,Nat.le_refl _,by show y.heap.size<(y.alloc _).heap.size;simp⟩⟩
    ·refine⟨(fun h=>absurd h (by decide)),(fun h=>absurd h (by decide)),(fun h=>absurd h (by decide)),(fun h=>absurd h (by decide)),(fun h=>absurd h (by decide)),(fun h=>absurd h (by decide)),(fun h=>absurd h (by decide)),(fun h=>absurd h (by decide)),(fun h=>absurd h (by decide)),?_,(fun h=>absurd h (by decide)),(fun h=>absurd h (by decide)),trivial⟩
     ·intro _ vs y hd
      obtain⟨h7,_⟩:=hd
      replace h7:=h7 rfl
      simp only [actOf,tk1,tk0,dr1,dr0,Act.put,si1,st1,st0,Nat.reduceAdd]
      obtain⟨S9,e9⟩:=h7
      rw [e9]
      go_wp2_with fail
      first | exact⟨rfl,_,rfl,zc _,rfl⟩ | exact⟨rfl,_,rfl,zc _,rfl,trivial⟩
    ·intro lo hi v x y h hg
     exact MkNk.gr h hg
    ·intro i lo hi v x y hne hx h hg
     match i,h with
     | 6,h=>exact absurd rfl hne
     | 7,h=>exact MkNw.kp h hg HSB.out
     | 8,h=>exact MkNw.kp h hg HSB.out
     | 10,h=>exact AgZ.kp h hg HSB.out
     | 0,_=>trivial
     | 1,_=>trivial
     | 2,_=>trivial
     | 3,_=>trivial
     | 4,_=>trivial
     | 5,_=>trivial
     | 9,_=>trivial
     | m+11,_=>trivial
    ·intro vs lo hi y hg hJ hK hB hD
     replace hg:Kp (fun j=>j=p n+1) wb y:=hg
     have k91:=hK 6 (by decide) rfl
     have b91:=hB 6 (by decide) rfl
     have k84:=hK 7 (by decide) rfl
     have b84:=hB 7 (by decide) rfl
     have k92:=hK 8 (by decide) rfl
     have b92:=hB 8 (by decide) rfl
     have k18:=hK 10 (by decide) rfl
     have b18:=hB 10 (by decide) rfl
     have d91_18:=hD 6 (by decide) rfl 10 (by decide) rfl (by decide)
     have d84_18:=hD 7 (by decide) rfl 10 (by decide) rfl (by decide)
     have d92_18:=hD 8 (by decide) rfl 10 (by decide) rfl (by decide)
     clear hK hB hD
     have j0:vs 0=.slice (some lad) 4 Lc:=hJ 0 (by decide) rfl
     have j1:vs 1=.int .i64 (n:Int):=hJ 1 (by decide) rfl
     have j2:vs 2=.pointer (some (lad.add n)):=hJ 2 (by decide) rfl
     have j3:vs 3=.pointer (some ⟨p n+1,0,none⟩):=hJ 3 (by decide) rfl
     have j4:vs 4=.int .i64 (n:Int):=hJ 4 (by decide) rfl
     have j5:vs 5=.agg gh:=hJ 5 (by decide) rfl
     clear hJ
     simp only [actOf,tk1,tk0,dr1,dr0,Act.put,si1,st1,st0,Nat.reduceAdd]
     obtain⟨S1,e92,hm1,ho1,hat1,hb1,hr1⟩:=MkNw.out k92
     obtain⟨q,e18,zq,hBq,hql,hqh⟩:=AgZ.out k18
     rw [e92,e18]
     have hky:=MkNk.ky k91
     have hPI:=HPN.out
     have hbz:=HBW.out
     have hbb:=HBA.out
     have hgr:=HGRW.out.size
     have HNQ:Hid (∀ j,S1.in j→¬j=q):=hQ9 (fun j hj e=>by have:=hr1 j hj;rcases d92_18 with h2 | h2<;>omega)
     have HLO1:Hid (∀ j,S1.in j→wb.heap.size≤j):=hQ9 (fun j hj=>by have:=hr1 j hj;omega)
     obtain⟨gs,hgs⟩:∃ g,NW.C S1=g:=⟨_,rfl⟩
     have hz26:gs.size=26:=by rw [←hgs];rfl
     have HTH:Hid (y.there q 0 gs.size):=hQ9 (zq.thereN gs.size (by rw [hz26];rfl))
     have HSI:Hid ((Tryz.prog.info? 111).map (·.size)=some gs.size):=hQ9 (by rw [hz26];exact zD)
     have HON:Hid (gs.all (·.oneCell')=true):=hQ9 (by rw [←hgs];exact S1.one)
     have z4:=Ag.set (vs:=gs.toList) zq (by rw [Array.length_toList,hz26];rfl)
     have k4:=zn gs.toList q 0 y
     have HF:Hid (StNk (fun j=>j=p n+1) wb S0 (p n+1) (p n) (n:Int) (sdI 3 n) (ksL 3 4 n) (nx9 n n+1) (2^4) (.pointer (some ⟨q,0,none⟩)) (y.setCells q 0 gs.toList)):=hQ9 ⟨⟨S1,q,rfl,by rw [hgs];exact z4,hm1,ho1,xM hat1 k4 (fun j hj h=>HNQ.out j hj h),by omega,HLO1.out,kY hg k4 (by omega)⟩,hky.kp k4 (fun h=>by have h:p n+1=q:=h;omega) (fun h=>by have h:p n=q:=h;omega)⟩
     rw [hgs]
     clear hgs hg z4 k4 zq hat1 hky hm1 ho1
     generalize gs=gs' at *
     go_wp2_with(with_reducible refine wpList_store_mid rfl 111 (.tmp 18) (.tmp 92) rfl q 0 gs' rfl rfl HTH.out HSI.out HON.out ?_)
     exact HF.out
    ·intro vs w4 hF hJ
     have j0:vs 0=.slice (some lad) 4 Lc:=hJ 0 (by decide)
     have j1:vs 1=.int .i64 (n:Int):=hJ 1 (by decide)
     have j2:vs 2=.pointer (some (lad.add n)):=hJ 2 (by decide)
     have j3:vs 3=.pointer (some ⟨p n+1,0,none⟩):=hJ 3 (by decide)
     have j4:vs 4=.int .i64 (n:Int):=hJ 4 (by decide)
     have j5:vs 5=.agg gh:=hJ 5 (by decide)
     have j9:vs 9=.int .i64 0:=hJ 9 (by decide)
     clear hJ
     simp only [actOf,tk1,tk0,dr1,dr0,Act.put,si1,st1,st0,Nat.reduceAdd]
     obtain⟨⟨S1,q,e5,z4,hm4,ho4,hat4,hq4,hlo4,kk⟩,hky4⟩:=hF
     rw [e5,show vs 9=_ from j9]
     have KB4:=HKBB.out.tn (by have:=HLT.out;omega) kk hky4
     rw [show updK (nx9 n) n=nx9 (n+1) from rfl]at KB4
     have HKB4:=hQ9 KB4
     have hvr4:=(HVR.out.grew HGRW.out).kp kk (fun g (h:g=p n+1)=>by have:=HPN.out;have:=HBA.out;omega)
     have HVR4:=hQ9 hvr4
     have HKP4:Hid (Kp (KyP p) wa w4):=hQ9 (zB (zB HKP.out (zj HGRW.out)) (xn kk (fun i (h:i=p n+1)=>⟨n,by have:=HLT.out;omega,h⟩)))
     have HML:Hid (MvN (l9 DA N (n+1)) (M++[S1])):=hQ9 (by rw [zd5];exact HMV.out.snoc (by rw [HSG.out];exact hm4))
     have HSO:=hQ9 ho4
     have HSA4:=hQ9 hat4
     have HIN:Hid (∀ j,S1.in j→wb.heap.size≤j):=hQ9 hlo4
     obtain⟨gs,hgs⟩:∃ g,NW.C S1=g:=⟨_,rfl⟩
     rw [hgs]at z4
     have HGS:=hQ9 hgs
     have HONE:Hid (∀ u∈gs.toList,u.oneCell'=true):=hQ9 (by rw [←hgs];exact S1.one')
     have HFOLD:Hid (Array.foldl (fun(cs:Array Value) (x:Value × Nat)=>cs.setIfInBounds x.snd x.fst) (#[.int .i64 0,.int .i64 0,.int .i64 0,.int .u64 0,.slice none 0 0,.int .i64 0,.int .i64 0,.int .u64 0,.int .u64 0,.int .u64 0,.int .u64 0,.int .u64 0,.int .u64 0,.int .u64 0,.int .u64 0,.int .u64 0,.int .u64 0,.int .u64 0,.int .u64 0,.int .u64 0,.int .u64 0,.int .u64 0,.int .u64 0,.int .u64 0,.int .u64 0,.slice none 0 0]:Array Value) gs.zipIdx 0 26=gs):=hQ9 (by rw [←hgs];exact xL S1)
     have hgs26:gs.size=26:=by rw [←hgs];rfl
     have HLEN:Hid (gs.toList.length=26):=hQ9 (by rw [Array.length_toList,hgs26])
     have HSL:Hid ((Tryz.prog.info? 111).map (·.size)=some gs.toList.length):=hQ9 (by rw [←hgs];exact zD)
     have hm5:=z4.cell
     have hrow5:=HVR4.out.row
     rw [HLM.out]at hrow5
     have hb9:wa.heap.size≤w4.heap.size:=HKP4.out.size
     have hgw:=HGRW.out.size
     have hln:=HLT.out
     have ga:=zg (zc w4) (.cells gs 111)
     have HWB4:Hid (wr.heap.size≤w4.heap.size):=hQ9 (by have:=kk.size;omega)
     clear e5 z4 hm4 ho4 hat4 hq4 hlo4 kk hky4 KB4 hvr4 hgs
     try clear j0
     try clear j1
     try clear j2
     try clear j3
     try clear j4
     try clear j5
     try clear j9
     clear HKBB HSB HSY HLC HCB HVH HKY CM
     go_wp2_with(first
      | (with_reducible refine wpList_load_mid rfl 111 (.tmp 18) rfl q 0 rfl gs.toList _ hm5 hnt rfl HSL.out ?_;simp only [Array.toArray_toList])
      | (at_builtin;rw [HFOLD.out];refine zK _ rfl (.tmp 96) (.tmp 98) 120 rfl wa.heap.size 111 i0 (.agg (#[.int .i64 0,.int .i64 0,.int .i64 0,.int .u64 0,.slice none 0 0,.int .i64 0,.int .i64 0,.int .u64 0,.int .u64 0,.int .u64 0,.int .u64 0,.int .u64 0,.int .u64 0,.int .u64 0,.int .u64 0,.int .u64 0,.int .u64 0,.int .u64 0,.int .u64 0,.int .u64 0,.int .u64 0,.int .u64 0,.int .u64 0,.int .u64 0,.int .u64 0,.slice none 0 0]:Array Value)) 26 240 Tryz.underlying120 hi hz0 hz1 hz2 rfl (by decide) _ _ _ rfl (hrow5.alloc _) ⟨w4.heap.size,0,none⟩ 1 1 gs.toList rfl (by rw [HLEN.out]) (fun j u hj=>yd w4 gs 111 j u hj) HONE.out (by have:=HLT.out;unfold maxLen;omega) (by have:=HLT.out;omega) (by simp;omega) ?_;intro v' w6 hown6 hgrow6 hob6))
     have K6:Kp (fun g=>wa.heap.size≤g) w4 w6:=yD (zj ga) hgrow6 (fun g e=>.inl (zA hrow5 g e))
     refine⟨⟨n+1,M++[S1],(by have:=HLT.out;omega),(by go_num),HML.out,?_,HKB4.out.kp K6 (fun g h=>Nat.le_trans HBA.out h),xh HKP4.out K6 (fun i h=>.inr h)⟩,?_⟩
     ·exact HVR4.out.app HSO.out HSA4.out (fun j hj=>by have:=HIN.out j hj;have:=HBW.out;omega) (fun j hj e=>by have:=HIN.out j hj;have:=HOB.out j e;omega) ga (by rw [HLM.out,HGS.out];exact hown6) hgrow6 hob6
     ·have:=HLT.out;simp [Go.RowKit.intOf];omega
  ·obtain rfl:n=3:=by omega
   obtain⟨A,c,rfl,hNs,hcM,-⟩:=hvr.nws
   have hml:M.length=3:=by rw [hmv.len,qX]
   obtain⟨S0,S1,S2,hM⟩:∃ a b d,M=[a,b,d]:=by
    match M,hml with
    | [a,b,d],_=>exact⟨a,b,d,rfl⟩
   subst hM
   have hq:=vqE_n RA Rc DA N HCQ.out
   have hmk:∀ k (hk:k<3),NwMv (sg9 DA N k) ([S0,S1,S2][k]'(by rw [hml];exact hk)):=fun k hk=>by
    have h1:=hmv.each k (by rw [qX];exact hk) (by rw [hml];exact hk)
    have h2:(l9 DA N 3)[k]'(by rw [qX];exact hk)=sg9 DA N k:=by simp [l9]
    rw [h2]at h1
    exact h1
   have h0:NwMv (sg9 DA N 0) S0:=hmk 0 (by decide)
   have h1:NwMv (sg9 DA N 1) S1:=hmk 1 (by decide)
   have h2:NwMv (sg9 DA N 2) S2:=hmk 2 (by decide)
   have hw0:S0.who=0:=h0.who.1
   have hw1:S1.who=1:=h1.who.1
   have hw2:S2.who=2:=h2.who.1
   have hq0:S0.qv=0:=h0.who.2.2.1
   have hq1:S1.qv=1:=h1.who.2.2.1
   have hq2:S2.qv=0:=h2.who.2.2.1
   have hv0:S0.vw=6∧nvS (kpV 3 4 RA Rc) S0=0:=⟨h0.who.2.1,h0.nv.trans (zcm RA Rc DA N hq 0 (by decide))⟩
   have hv1:S1.vw=6∧nvS (kpV 3 4 RA Rc) S1=0:=⟨h1.who.2.1,h1.nv.trans (zcm RA Rc DA N hq 1 (by decide))⟩
   have hv2:S2.vw=6∧nvS (kpV 3 4 RA Rc) S2=0:=⟨h2.who.2.1,h2.nv.trans (zcm RA Rc DA N hq 2 (by decide))⟩
   have hE3:eachL NW.who ([S0,S1,S2].filter (nfB (kpV 3 4 RA Rc) 6))=S0::[S1,S2]:=zck (fun S hS=>by
    simp only [List.mem_cons,List.not_mem_nil,or_false]at hS
    rcases hS with rfl | rfl | rfl
    ·exact hv0
    ·exact hv1
    ·exact hv2) (by simp [hw0,hw1,hw2])
   have hE2:eachL NW.who ([S0,S1].filter (nfB (kpV 3 4 RA Rc) 6))=[S0,S1]:=zck (fun S hS=>by
    simp only [List.mem_cons,List.not_mem_nil,or_false]at hS
    rcases hS with rfl | rfl
    ·exact hv0
    ·exact hv1) (by simp [hw0,hw1])
   have hT:topF S0 [S1,S2]=S1:=by
    show topF (if S0.qv<S1.qv then S1 else S0) [S2]=S1
    rw [if_pos (by omega)]
    show(if S1.qv<S2.qv then S2 else S1)=S1
    rw [if_neg (by omega)]
   have HV7:Hid (nvS (kpV 3 4 RA Rc) { S0 with vw:=7 }=7):=hQ9 (by
    obtain⟨B,j,N',A',c',hS,hm⟩:=h0.out
    have hN':N'=[]:=List.eq_nil_of_length_eq_zero (by rw [hm.len];rfl)
    subst hN'
    rw [hS]
    exact zi7 RA Rc B j A' c')
   obtain⟨q0,hA0,hq0l,hr0⟩:=hNs.get 0 (by simp)
   subst hA0
   have HNS:Hid (∀ y,Grew wr y→Nws y (some ⟨q0,0,none⟩) [S0,S1,S2]):=hQ9 (fun y g=>hNs.gr g)
   have HSY:Hid (∀ y,Grew wr y→Std y):=hQ9 (fun y g=>HS.out.grew (ze hkb.gr g))
   have HKA:Hid (∀ y,Grew wr y→(kpV 3 4 RA Rc).at y):=hQ9 (fun y g=>Rd.gr (show Rd wr wr.heap.size RA (u64L (rtL 3 4 4)) from hkb.rR) g)
   have HMK:Hid (∀ y,Grew wr y→y.rangeAt qk 0 kc.toList):=hQ9 (fun y g=>by rw [←HKCE.out];exact(hkb.kc.grew g).cell)
   have HZP:Hid (∀ y,Grew wr y→Ag y pq (pcL 2 5 0)):=hQ9 (fun y g=>(HZPA.out.kp hkp HFP.out).grew g)
   have HM0:Hid (∀ y,Grew wr y→y.rangeAt q0 0 S0.C.toList):=hQ9 (fun y g=>by
    obtain⟨q',e,-,h3⟩:=(hNs.gr g).get 0 (by simp)
    cases e
    exact h3)
   have HM1:Hid (∀ y,Grew wr y→y.rangeAt q0 26 S1.C.toList):=hQ9 (fun y g=>by
    obtain⟨q',e,-,h3⟩:=(hNs.gr g).get 1 (by simp)
    cases e
    exact h3)
   have HGW:Hid (Grew w wr):=hQ9 hkb.gr
   have CB1:=hQ9 (za6 HK0.out 6 (some ⟨q0,0,none⟩) c [S0,S1,S2] (by simp) wr (HSY.out wr (zc _)) (HKA.out wr (zc _)) hNs S0 [S1,S2] hE3 (by show(2*1+1:Int).toNat≤2+1;decide))
   rw [hT,HKC.out,hq1]at CB1
   have CB2:Hid (∀ y,Grew wr y→Calls Tryz.prog 56 #[.agg kc,.int .i64 6,.slice (some ⟨q0,0,none⟩) 2 c] y fun e w'=>e=.returned (.tuple #[.agg (#[.int .i64 0,.int .u64 0,.slice none 0 0]:Array Value),.int .i64 8])∧Grew y w'):=hQ9 (fun y g=>by
    have:=qW HK0.out 6 (some ⟨q0,0,none⟩) c [S0,S1] (by simp) y (HSY.out y g) (HKA.out y g) ((hNs.gr g).take 2) (by rw [hE2];show 2<(2*1+1:Int).toNat;decide)
    rw [HKC.out]at this
    exact this)
   have CV1:Hid (∀ y,Grew wr y→Calls Tryz.prog 50 #[.agg kc,.agg S1.C] y fun e w'=>e=.returned (.int .i64 0)∧Grew y w'):=hQ9 (fun y g=>by
    have hm1:S1∈[S0,S1,S2]:=by simp
    have:=xE HK0.out (hNs.ok S1 hm1) y (HSY.out y g) (HKA.out y g) ((hNs.at_ S1 hm1).gr g)
    rw [hv1.2,HKC.out]at this
    exact this)
   obtain⟨gw,hgw⟩:∃ g,NW.C { S0 with vw:=7 }=g:=⟨_,rfl⟩
   have CV7:Hid (∀ y,Grew wr y→Calls Tryz.prog 50 #[.agg kc,.agg gw] y fun e w'=>e=.returned (.int .i64 7)∧Grew y w'):=hQ9 (fun y g=>by
    have hm0:S0∈[S0,S1,S2]:=by simp
    have ho:=hNs.ok S0 hm0
    have ha:=(hNs.at_ S0 hm0).gr g
    have:=xE (S:={ S0 with vw:=7 }) HK0.out ⟨⟨by show(-9223372036854775808:Int)≤7;decide,by show(7:Int)≤9223372036854775807;decide⟩,ho.qv,ho.qd,ho.h,ho.who,ho.sw,ho.lf,ho.s,ho.len,ho.l⟩ y (HSY.out y g) (HKA.out y g) ⟨ha.p,ha.q⟩
    rw [HV7.out,HKC.out,hgw]at this
    exact this)
   have hc3:(2:Int)≤(c:Int):=by have h3:3≤c:=hcM;omega
   have HC3:=hQ9 hc3
   have HGWV:=hQ9 hgw
   have SIW:Hid ((Tryz.prog.info? 111).map (·.size)=some gw.toList.length):=hQ9 (by rw [←hgw];exact zD)
   have SI0:Hid ((Tryz.prog.info? 111).map (·.size)=some S0.C.size):=hQ9 zD
   have SI0L:Hid ((Tryz.prog.info? 111).map (·.size)=some S0.C.toList.length):=hQ9 zD
   have SI1L:Hid ((Tryz.prog.info? 111).map (·.size)=some S1.C.toList.length):=hQ9 zD
   have HO0:=hQ9 S0.one
   have hmk0:=HMK.out wr (zc _)
   clear hmv hvr hkb hkp hNs hcM hml hmk h0 h1 h2 hw0 hw1 hw2 hq0 hq1 hq2 hv0 hv1 hv2 hE3 hE2 hT hq0l hr0 hq hc3 hgw hlt hn
   go_wp2_with(with_reducible refine wpList_load_mid rfl 49 (.tmp 6) rfl qk 0 rfl kc.toList _ hmk0 hkt rfl HSKL.out ?_;simp only [Array.toArray_toList])
   refine(CB1.out).mono ?_
   clear CB1 hmk0
   rintro e w4 ⟨⟨B5,j5,N5,rfl,-,-,-,-⟩,g4⟩
   obtain⟨go,hgo⟩:∃ g,vqC 1 S1.qd B5 S1.H.length j5=g:=⟨_,rfl⟩
   obtain⟨w5,hw5,ht5,g5,z5⟩:=zW w4 38 (#[.int .i64 0,.int .u64 0,.slice none 0 0]:Array Value) go (by rw [←hgo];rfl)
   have HW5:=hQ9 hw5
   have HT5:=hQ9 ht5
   have SIO:Hid ((Tryz.prog.info? 38).map (·.size)=some go.size):=hQ9 (by rw [←hgo];exact zP)
   have HOO:Hid (go.all (·.oneCell')=true):=hQ9 (by rw [←hgo];exact yo _ _ _ _ _)
   obtain⟨q20,hq20⟩:∃ b,w4.heap.size=b:=⟨_,rfl⟩
   have HQ20:=hQ9 hq20
   have HO20:Hid (∀ y,Grew w5 y→y.cell? ⟨q20,0,none⟩=some (.int .i64 1)):=hQ9 (fun y g=>by rw [←hq20];exact ag_at (z5.grew g) 0 (by rw [←hgo];rfl))
   have HG5:=hQ9 (ze g4 g5)
   rw [hgo]
   clear hgo hw5 ht5 z5 g4 g5 hq20
   have HC2:=HC3.out
   go_upto_region 26 with (with_reducible refine wpList_store_mid rfl 38 (.tmp 20) (.tmp 104) rfl w4.heap.size 0 go rfl rfl HT5.out SIO.out HOO.out ?_;rw [HW5.out];clear HW5 HT5)
   rw [HQ20.out]
   refine xP 8 9 (fun ix9=>match ix9 with
    | 0=>fun v=>v=.agg kc
    | 1=>fun v=>v=.slice (some ⟨q0,0,none⟩) 3 c
    | 2=>fun v=>v=.slice (some ⟨q0,0,none⟩) 2 c
    | 3=>fun v=>v=.tuple #[.agg (#[.int .i64 0,.int .u64 0,.slice none 0 0]:Array Value),.int .i64 8]
    | 4=>fun v=>v=.tuple #[.agg (#[.int .i64 0,.int .u64 0,.slice none 0 0]:Array Value),.int .i64 8]
    | 5=>fun v=>v=.agg (#[.int .i64 0,.int .u64 0,.slice none 0 0]:Array Value)
    | 6=>fun v=>v=.int .i64 8
    | 7=>fun _=>True
    | 8=>fun _=>True
    | _=>fun _=>True) (fun ix9=>match ix9 with
    | 0=>fun v _=>v=.agg kc
    | 1=>fun v _=>v=.slice (some ⟨q0,0,none⟩) 3 c
    | 2=>fun v _=>v=.slice (some ⟨q0,0,none⟩) 2 c
    | 3=>fun v _=>v=.tuple #[.agg (#[.int .i64 0,.int .u64 0,.slice none 0 0]:Array Value),.int .i64 8]
    | 4=>fun v _=>v=.tuple #[.agg (#[.int .i64 0,.int .u64 0,.slice none 0 0]:Array Value),.int .i64 8]
    | 5=>fun v _=>v=.agg (#[.int .i64 0,.int .u64 0,.slice none 0 0]:Array Value)
    | 6=>fun v _=>v=.int .i64 8
    | 7=>fun _ _=>True
    | 8=>fun _ _=>True
    | _=>fun _ _=>True) (fun ix9=>match ix9 with
    | 7=>fun lo hi v w=>AgZ w w5.heap.size lo hi (#[.int .i64 0,.int .u64 0,.slice none 0 0]:Array Value).toList v
    | _=>fun _ _ _ _=>True) (fun ix9=>match ix9 with
    | ix8=>ix8) (fun ix9=>match ix9 with
    | ix8=>ix8) (fun ix9=>match ix9 with
    | 6=>true
    | _=>false) 7 (fun v W=>ZqF w5 v W) rfl (by kernel_rfl) (by kernel_rfl) (by kernel_rfl) (by kernel_rfl) rfl rfl (by decide) (fun _=>trivial) ?_ ?_ ?_ ?_ ?_ ?_ (fun o ho=>by cases ho;rfl) (fun v x y h hg=>ZqF.gr h hg) ?_
   ·intro i v y h
    match i,h with
    | 0,h | 1,h | 2,h | 3,h | 4,h | 5,h | 6,h=>exact h
    | 7,_=>trivial
    | 8,h=>exact h
    | m+9,_=>trivial
   ·intro i v x y h hg
    match i,h with
    | 0,h | 1,h | 2,h | 3,h | 4,h | 5,h | 6,h=>exact h
    | 7,_=>trivial
    | 8,h=>exact h
    | m+9,_=>trivial
   ·simp only [actOf,tk1,tk0,dr1,dr0,Act.put,si1,st1,st0,Nat.reduceAdd]
    refine⟨?_,?_,?_,?_,?_,?_,?_,?_,trivial⟩
    ·intro vs lo hi y hg hd hvia
     replace hg:Grew w5 y:=hg
     clear hvia
     dsimp only
     have hm:=HMK.out y (ze HG5.out hg)
     go_wp2_with(with_reducible refine wpList_load_mid rfl 49 (.tmp 6) rfl qk 0 rfl kc.toList _ hm hkt rfl HSKL.out ?_;simp only [Array.toArray_toList])
     first | exact⟨rfl,_,rfl,zc _,rfl⟩ | exact⟨rfl,_,rfl,zc _,rfl,trivial⟩
    ·intro vs lo hi y hg hd hvia
     replace hg:Grew w5 y:=hg
     clear hvia
     dsimp only
     go_wp2_with fail
     first | exact⟨rfl,_,rfl,zc _,rfl⟩ | exact⟨rfl,_,rfl,zc _,rfl,trivial⟩
    ·intro vs lo hi y hg hd hvia
     replace hg:Grew w5 y:=hg
     obtain⟨h1,_⟩:=hd
     replace h1:=h1 rfl
     clear hvia
     dsimp only
     rw [show vs 1=_ from h1]
     go_wp2_with fail
     first | exact⟨rfl,_,rfl,zc _,rfl⟩ | exact⟨rfl,_,rfl,zc _,rfl,trivial⟩
    ·intro vs lo hi y hg hd hvia
     replace hg:Grew w5 y:=hg
     obtain⟨h0,h2,_⟩:=hd
     replace h0:=h0 rfl
     replace h2:=h2 rfl
     clear hvia
     dsimp only
     rw [show vs 0=_ from h0,show vs 2=_ from h2]
     go_wp2_with(go_at_call 56;refine(CB2.out y (ze HG5.out hg)).mono ?_;rintro e z ⟨rfl,gz⟩)
     first | exact⟨rfl,_,rfl,gz,rfl⟩ | exact⟨rfl,_,rfl,gz,rfl,trivial⟩
    ·intro vs lo hi y hg hd hvia
     replace hg:Grew w5 y:=hg
     obtain⟨h3,_⟩:=hd
     replace h3:=h3 rfl
     clear hvia
     dsimp only
     rw [show vs 3=_ from h3]
     go_wp2_with fail
     first | exact⟨rfl,_,rfl,zc _,rfl⟩ | exact⟨rfl,_,rfl,zc _,rfl,trivial⟩
    ·intro vs lo hi y hg hd hvia
     replace hg:Grew w5 y:=hg
     obtain⟨h4,_⟩:=hd
     replace h4:=h4 rfl
     clear hvia
     dsimp only
     rw [show vs 4=_ from h4]
     go_wp2_with fail
     first | exact⟨rfl,_,rfl,zc _,rfl⟩ | exact⟨rfl,_,rfl,zc _,rfl,trivial⟩
    ·intro vs lo hi y hg hd hvia
     replace hg:Grew w5 y:=hg
     obtain⟨h4,_⟩:=hd
     replace h4:=h4 rfl
     clear hvia
     dsimp only
     rw [show vs 4=_ from h4]
     go_wp2_with fail
     first | exact⟨rfl,_,rfl,zc _,rfl⟩ | exact⟨rfl,_,rfl,zc _,rfl,trivial⟩
    ·intro vs lo hi y hg hd hvia
     replace hg:Grew w5 y:=hg
     clear hvia
     dsimp only
     go_wp2_with fail
     exact⟨rfl,_,rfl,zg (zc _) _,⟨y.heap.size,rfl,Ag.new y 38 (#[.int .i64 0,.int .u64 0,.slice none 0 0]:Array Value),hg.size,Nat.le_refl _,by show y.heap.size<(y.alloc _).heap.size;simp⟩⟩
   ·refine⟨(fun h=>absurd h (by decide)),(fun h=>absurd h (by decide)),(fun h=>absurd h (by decide)),(fun h=>absurd h (by decide)),(fun h=>absurd h (by decide)),(fun h=>absurd h (by decide)),?_,(fun h=>absurd h (by decide)),(fun h=>absurd h (by decide)),trivial⟩
    ·intro _ vs y hd
     obtain⟨h4,_⟩:=hd
     replace h4:=h4 rfl
     simp only [actOf,tk1,tk0,dr1,dr0,Act.put,si1,st1,st0,Nat.reduceAdd]
     rw [show vs 4=_ from h4]
     go_wp2_with fail
     first | exact⟨rfl,_,rfl,zc _,rfl⟩ | exact⟨rfl,_,rfl,zc _,rfl,trivial⟩
   ·intro i lo hi v x y h hg
    match i,h with
    | 7,h=>exact AgZ.gr h hg
    | 0,_=>trivial
    | 1,_=>trivial
    | 2,_=>trivial
    | 3,_=>trivial
    | 4,_=>trivial
    | 5,_=>trivial
    | 6,_=>trivial
    | m+8,_=>trivial
   ·intro vs lo hi y hg hJ hK hB hD
    replace hg:Grew w5 y:=hg
    have k22:=hK 7 (by decide) rfl
    have b22:=hB 7 (by decide) rfl
    clear hK hB hD
    have j0:vs 0=.agg kc:=hJ 0 (by decide) rfl
    have j1:vs 1=.slice (some ⟨q0,0,none⟩) 3 c:=hJ 1 (by decide) rfl
    have j2:vs 2=.slice (some ⟨q0,0,none⟩) 2 c:=hJ 2 (by decide) rfl
    have j3:vs 3=.tuple #[.agg (#[.int .i64 0,.int .u64 0,.slice none 0 0]:Array Value),.int .i64 8]:=hJ 3 (by decide) rfl
    have j4:vs 4=.tuple #[.agg (#[.int .i64 0,.int .u64 0,.slice none 0 0]:Array Value),.int .i64 8]:=hJ 4 (by decide) rfl
    have j5:vs 5=.agg (#[.int .i64 0,.int .u64 0,.slice none 0 0]:Array Value):=hJ 5 (by decide) rfl
    clear hJ
    simp only [actOf,tk1,tk0,dr1,dr0,Act.put,si1,st1,st0,Nat.reduceAdd]
    obtain⟨q,e22,zq,hBq,hql,hqh⟩:=AgZ.out k22
    rw [show vs 5=_ from j5,e22]
    have HTH:Hid (y.there q 0 ((#[.int .i64 0,.int .u64 0,.slice none 0 0]:Array Value)).size):=hQ9 (zq.thereN 3 rfl)
    have HSI:Hid ((Tryz.prog.info? 38).map (·.size)=some ((#[.int .i64 0,.int .u64 0,.slice none 0 0]:Array Value)).size):=hQ9 zP
    have HON:Hid (((#[.int .i64 0,.int .u64 0,.slice none 0 0]:Array Value)).all (·.oneCell')=true):=hQ9 (by simp [Value.oneCell'])
    have HF:Hid (ZqF w5 (.pointer (some ⟨q,0,none⟩)) (y.setCells q 0 ((#[.int .i64 0,.int .u64 0,.slice none 0 0]:Array Value)).toList)):=hQ9 ⟨⟨q,rfl,zi (o:=0) (b:=q) _ hg (by omega)⟩⟩
    clear hg zq
    go_wp2_with(with_reducible refine wpList_store_mid rfl 38 (.tmp 22) (.tmp 111) rfl q 0 (#[.int .i64 0,.int .u64 0,.slice none 0 0]:Array Value) rfl rfl HTH.out HSI.out HON.out ?_)
    exact HF.out
   ·intro vs w6 hF hJ
    have j0:vs 0=.agg kc:=hJ 0 (by decide)
    have j1:vs 1=.slice (some ⟨q0,0,none⟩) 3 c:=hJ 1 (by decide)
    have j2:vs 2=.slice (some ⟨q0,0,none⟩) 2 c:=hJ 2 (by decide)
    have j3:vs 3=.tuple #[.agg (#[.int .i64 0,.int .u64 0,.slice none 0 0]:Array Value),.int .i64 8]:=hJ 3 (by decide)
    have j4:vs 4=.tuple #[.agg (#[.int .i64 0,.int .u64 0,.slice none 0 0]:Array Value),.int .i64 8]:=hJ 4 (by decide)
    have j5:vs 5=.agg (#[.int .i64 0,.int .u64 0,.slice none 0 0]:Array Value):=hJ 5 (by decide)
    have j6:vs 6=.int .i64 8:=hJ 6 (by decide)
    clear hJ
    simp only [actOf,tk1,tk0,dr1,dr0,Act.put,si1,st1,st0,Nat.reduceAdd]
    obtain⟨q22,e22,g6⟩:=ZqF.out hF
    rw [e22,show vs 6=_ from j6]
    have HG6:=hQ9 (ze HG5.out g6)
    have HG56:=hQ9 g6
    clear hF e22 g6
    try clear j0
    try clear j1
    try clear j2
    try clear j3
    try clear j4
    try clear j5
    try clear j6
    obtain⟨w7,hw7,ht7,g7,z7⟩:=zW w6 111 (#[.int .i64 0,.int .i64 0,.int .i64 0,.int .u64 0,.slice none 0 0,.int .i64 0,.int .i64 0,.int .u64 0,.int .u64 0,.int .u64 0,.int .u64 0,.int .u64 0,.int .u64 0,.int .u64 0,.int .u64 0,.int .u64 0,.int .u64 0,.int .u64 0,.int .u64 0,.int .u64 0,.int .u64 0,.int .u64 0,.int .u64 0,.int .u64 0,.int .u64 0,.slice none 0 0]:Array Value) S0.C rfl
    have HW7:=hQ9 hw7
    have HT7:=hQ9 ht7
    have hm0:=HM0.out w6 HG6.out
    obtain⟨q24,hq24⟩:∃ b,w6.heap.size=b:=⟨_,rfl⟩
    have HQ24:=hQ9 hq24
    rw [hq24]at z7
    have x7:w7.cell? ⟨q24,0,none⟩=some (.int .i64 S0.vw):=ag_at z7 0 rfl
    have f7:w7.frozen? ⟨q24,0,none⟩=false:=ag_fr z7 0 (by show 0<26;decide)
    have t7:=kN (g:=q24) (jf _ w7) (p:=⟨q24,0,none⟩) (.inl rfl) (.int .i64 7)
    have y7:=Ag.set1 z7 0 (.int .i64 7) (by show 0<26;decide)
    rw [show S0.C.toList.set 0 (.int .i64 7)=gw.toList from by rw [←HGWV.out];rfl]at y7
    have k7:=zad g7 t7 (by rw [←hq24];exact Nat.le_refl _)
    obtain⟨wZ,hwZ⟩:∃ v,w7.setCell ⟨q24,0,none⟩ (.int .i64 7)=v:=⟨_,rfl⟩
    rw [hwZ]at y7 k7
    have HWZ:=hQ9 hwZ
    have HGZ:=hQ9 (ze HG6.out k7)
    have HGZ5:=hQ9 (ze HG56.out k7)
    have HYZ:=hQ9 y7
    clear t7 hwZ z7 g7 hw7 ht7 k7 y7 hq24
    go_upto_region 28 with (first
     | (with_reducible refine wpList_load_mid rfl 111 (.tmp 114) rfl q0 0 rfl S0.C.toList _ hm0 hnt rfl SI0L.out ?_;simp only [Array.toArray_toList])
     | (with_reducible refine wpList_store_mid rfl 111 (.tmp 24) (.tmp 115) rfl w6.heap.size 0 S0.C rfl rfl HT7.out SI0.out HO0.out ?_;rw [HW7.out];clear HW7 HT7))
    rw [HQ24.out]
    clear hm0
    go_upto_region 29 with fail
    rw [HWZ.out]
    clear x7 f7 HWZ
    have CTW:=hQ9 (zgs wZ (HZP.out wZ HGZ.out))
    go_wp2_with fail
    refine(CTW.out).mono ?_
    clear CTW
    rintro e wT ⟨rfl,zt,gT⟩
    obtain⟨qu,hqu⟩:∃ b,wZ.heap.size=b:=⟨_,rfl⟩
    rw [hqu]at zt ⊢
    clear hqu
    have HGT:=hQ9 (ze HGZ.out gT)
    have HZT:=hQ9 zt
    have HO20T:Hid (∀ y,Grew wT y→y.cell? ⟨q20,0,none⟩=some (.int .i64 1)):=hQ9 (fun y g=>HO20.out y (ze HGZ5.out (ze gT g)))
    have HZPT:Hid (∀ y,Grew wT y→Ag y pq (pcL 2 5 0)):=hQ9 (fun y g=>HZP.out y (ze HGT.out g))
    have HZUT:Hid (∀ y,Grew wT y→Ag y qu (pcL 2 5 0)):=hQ9 (fun y g=>HZT.out.grew g)
    have HMKT:Hid (∀ y,Grew wT y→y.rangeAt qk 0 kc.toList):=hQ9 (fun y g=>HMK.out y (ze HGT.out g))
    have HM1T:Hid (∀ y,Grew wT y→y.rangeAt q0 26 S1.C.toList):=hQ9 (fun y g=>HM1.out y (ze HGT.out g))
    have HWT:Hid (∀ y,Grew wT y→y.rangeAt q24 0 gw.toList):=hQ9 (fun y g=>(HYZ.out.grew (ze gT g)).cell)
    clear zt gT
    have HBC:Hid (∀ W,(Instr.build 46 #[(0,.int .i64 1)]).run Tryz.prog W=.ok (.agg #[.int .i64 1]) W):=hQ9 (fun W=>run_build W 46 _ _ zja)
    go_upto_region 30 with fail
    refine zy 62 (fun ix9=>match ix9 with
     | 0=>fun v _=>v=.bool false
     | 1=>fun v _=>v=.bool true
     | 2=>fun v _=>v=.bool true
     | 3=>fun v _=>v=.bool true
     | 4=>fun v _=>v=.bool true
     | 5=>fun v _=>v=.bool true
     | 6=>fun v _=>v=.bool true
     | 7=>fun v _=>v=.bool true
     | 8=>fun v _=>v=.bool true
     | 9=>fun v _=>v=.bool false
     | 10=>fun v _=>v=.bool true
     | 11=>fun v _=>v=.bool true
     | 12=>fun v _=>v=.bool true
     | 13=>fun v _=>v=.pointer (some ⟨pq,0,none⟩)
     | 14=>fun v _=>v=.int .i64 5
     | 15=>fun v _=>v=.bool true
     | 16=>fun v _=>v=.bool true
     | 17=>fun v _=>v=.bool true
     | 18=>fun v _=>v=.int .i64 1
     | 19=>fun v _=>v=.bool true
     | 20=>fun v _=>v=.bool true
     | 21=>fun v _=>v=.bool true
     | 22=>fun v _=>v=.int .i64 0
     | 23=>fun v _=>v=.bool true
     | 24=>fun v _=>v=.bool true
     | 25=>fun v _=>v=.bool true
     | 26=>fun v _=>v=.pointer (some ⟨q20,0,none⟩)
     | 27=>fun v _=>v=.int .i64 1
     | 28=>fun v _=>v=.bool true
     | 29=>fun v _=>v=.bool true
     | 30=>fun v _=>v=.bool true
     | 31=>fun v _=>v=.int .i64 8
     | 32=>fun v _=>v=.bool true
     | 33=>fun v _=>v=.bool true
     | 34=>fun v _=>v=.bool true
     | 35=>fun v _=>v=.agg kc
     | 36=>fun v _=>v=.slice (some ⟨q0,0,none⟩) 3 c
     | 37=>fun v _=>v=.pointer (some ⟨q0,26,none⟩)
     | 38=>fun v _=>v=.agg S1.C
     | 39=>fun v _=>v=.int .i64 0
     | 40=>fun v _=>v=.bool true
     | 41=>fun v _=>v=.bool true
     | 42=>fun v _=>v=.bool true
     | 43=>fun v _=>v=.agg kc
     | 44=>fun v _=>v=.agg gw
     | 45=>fun v _=>v=.int .i64 7
     | 46=>fun v _=>v=.bool true
     | 47=>fun v _=>v=.bool true
     | 48=>fun v _=>v=.bool true
     | 49=>fun v _=>v=.agg #[.int .i64 1]
     | 50=>fun v _=>v=.int .i64 2
     | 51=>fun v _=>v=.bool true
     | 52=>fun v _=>v=.bool true
     | 53=>fun v _=>v=.bool true
     | 54=>fun v _=>v=.pointer (some ⟨qu,0,none⟩)
     | 55=>fun v _=>v=.bool true
     | 56=>fun v _=>v=.bool true
     | 57=>fun v _=>v=.bool true
     | 58=>fun v _=>v=.pointer (some ⟨qu,0,none⟩)
     | 59=>fun v _=>v=.int .i64 5
     | 60=>fun v _=>v=.bool true
     | 61=>fun v _=>v=.bool true
     | _=>fun _ _=>True) (by kernel_rfl) (by kernel_rfl) ?_ ?_ ?_
    ·intro i v x y h hg
     match i,h with
     | 0,h | 1,h | 2,h | 3,h | 4,h | 5,h | 6,h | 7,h | 8,h | 9,h | 10,h | 11,h | 12,h | 13,h | 14,h | 15,h | 16,h | 17,h | 18,h | 19,h | 20,h | 21,h | 22,h | 23,h | 24,h | 25,h | 26,h | 27,h | 28,h | 29,h | 30,h | 31,h | 32,h | 33,h | 34,h | 35,h | 36,h | 37,h | 38,h | 39,h | 40,h | 41,h | 42,h | 43,h | 44,h | 45,h | 46,h | 47,h | 48,h | 49,h | 50,h | 51,h | 52,h | 53,h | 54,h | 55,h | 56,h | 57,h | 58,h | 59,h | 60,h | 61,h=>exact h
     | m+62,_=>trivial
    ·simp only [actOf,tk1,tk0,dr1,dr0,Act.put,si1,st1,st0,Nat.reduceAdd]
     refine⟨?_,?_,?_,?_,?_,?_,?_,?_,?_,?_,?_,?_,?_,?_,?_,?_,?_,?_,?_,?_,?_,?_,?_,?_,?_,?_,?_,?_,?_,?_,?_,?_,?_,?_,?_,?_,?_,?_,?_,?_,?_,?_,?_,?_,?_,?_,?_,?_,?_,?_,?_,?_,?_,?_,?_,?_,?_,?_,?_,?_,?_,?_,trivial⟩
     ·intro vs y hg hd
      try clear hd
      dsimp only
      go_wp2_with fail
      exact⟨rfl,_,rfl,zc _,rfl⟩
     ·intro vs y hg hd
      obtain⟨h0,_⟩:=hd
      replace h0:=h0 rfl
      try clear hd
      dsimp only
      rw [show vs 0=_ from h0]
      go_wp2_with fail
      exact⟨rfl,_,rfl,zc _,rfl⟩
     ·intro vs y hg hd
      obtain⟨h1,_⟩:=hd
      replace h1:=h1 rfl
      try clear hd
      dsimp only
      rw [show vs 1=_ from h1]
      go_wp2_with fail
      exact⟨rfl,_,rfl,zc _,rfl⟩
     ·intro vs y hg hd
      have hx:(Region.binds .any { on:=2,ground:=.guard }=true→vs 2=.bool true)∧True:=hd
      have h2:vs 2=.bool true:=hx.1 rfl
      clear hx
      try clear hd
      dsimp only
      rw [show vs 2=_ from h2]
      go_wp2_with fail
      exact⟨rfl,_,rfl,zc _,rfl⟩
     ·intro vs y hg hd
      obtain⟨h2,h3,_⟩:=hd
      replace h2:=h2 rfl
      replace h3:=h3 rfl
      try clear hd
      dsimp only
      rw [show vs 2=_ from h2,show vs 3=_ from h3]
      go_wp2_with fail
      exact⟨rfl,_,rfl,zc _,rfl⟩
     ·intro vs y hg hd
      obtain⟨h4,_⟩:=hd
      replace h4:=h4 rfl
      try clear hd
      dsimp only
      rw [show vs 4=_ from h4]
      go_wp2_with fail
      exact⟨rfl,_,rfl,zc _,rfl⟩
     ·intro vs y hg hd
      have hx:(Region.binds .any { on:=5,ground:=.guard }=true→vs 5=.bool true)∧True:=hd
      have h5:vs 5=.bool true:=hx.1 rfl
      clear hx
      try clear hd
      dsimp only
      rw [show vs 5=_ from h5]
      go_wp2_with fail
      exact⟨rfl,_,rfl,zc _,rfl⟩
     ·intro vs y hg hd
      obtain⟨h5,h6,_⟩:=hd
      replace h5:=h5 rfl
      replace h6:=h6 rfl
      try clear hd
      dsimp only
      rw [show vs 5=_ from h5,show vs 6=_ from h6]
      go_wp2_with fail
      exact⟨rfl,_,rfl,zc _,rfl⟩
     ·intro vs y hg hd
      obtain⟨h7,_⟩:=hd
      replace h7:=h7 rfl
      try clear hd
      dsimp only
      rw [show vs 7=_ from h7]
      go_wp2_with fail
      exact⟨rfl,_,rfl,zc _,rfl⟩
     ·intro vs y hg hd
      have hx:(Region.binds .any { on:=8,ground:=.guard }=true→vs 8=.bool true)∧True:=hd
      have h8:vs 8=.bool true:=hx.1 rfl
      clear hx
      try clear hd
      dsimp only
      rw [show vs 8=_ from h8]
      go_wp2_with fail
      exact⟨rfl,_,rfl,zc _,rfl⟩
     ·intro vs y hg hd
      have hx:(Region.binds .any { on:=9,ground:=.data }=true→vs 9=.bool false)∧(Region.binds .any { on:=8,ground:=.guard }=true→vs 8=.bool true)∧True:=hd
      have h9:vs 9=.bool false:=hx.1 rfl
      have h8:vs 8=.bool true:=hx.2.1 rfl
      clear hx
      try clear hd
      dsimp only
      rw [show vs 9=_ from h9,show vs 8=_ from h8]
      go_wp2_with fail
      exact⟨rfl,_,rfl,zc _,rfl⟩
     ·intro vs y hg hd
      obtain⟨h8,h10,_⟩:=hd
      replace h8:=h8 rfl
      replace h10:=h10 rfl
      try clear hd
      dsimp only
      rw [show vs 8=_ from h8,show vs 10=_ from h10]
      go_wp2_with fail
      exact⟨rfl,_,rfl,zc _,rfl⟩
     ·intro vs y hg hd
      obtain⟨h11,_⟩:=hd
      replace h11:=h11 rfl
      try clear hd
      dsimp only
      rw [show vs 11=_ from h11]
      go_wp2_with fail
      exact⟨rfl,_,rfl,zc _,rfl⟩
     ·intro vs y hg hd
      have hx:(Region.binds .any { on:=12,ground:=.guard }=true→vs 12=.bool true)∧True:=hd
      have h12:vs 12=.bool true:=hx.1 rfl
      clear hx
      try clear hd
      dsimp only
      rw [show vs 12=_ from h12]
      go_wp2_with fail
      exact⟨rfl,_,rfl,zc _,rfl⟩
     ·intro vs y hg hd
      have hx:(Region.binds .any { on:=13,ground:=.data }=true→vs 13=.pointer (some ⟨pq,0,none⟩))∧(Region.binds .any { on:=12,ground:=.chain }=true→vs 12=.bool true)∧(Region.binds .any { on:=12,ground:=.guard }=true→vs 12=.bool true)∧True:=hd
      have h13:vs 13=.pointer (some ⟨pq,0,none⟩):=hx.1 rfl
      have h12:vs 12=.bool true:=hx.2.2.1 rfl
      clear hx
      try clear hd
      dsimp only
      rw [show vs 13=_ from h13,show vs 12=_ from h12]
      go_wp2_with(go_at_call 65;refine(za1 y (HZPT.out y hg)).mono ?_;rintro e z ⟨rfl,hz⟩;rw [hz];clear hz)
      exact⟨rfl,_,rfl,zc _,rfl⟩
     ·intro vs y hg hd
      have hx:(Region.binds .any { on:=14,ground:=.data }=true→vs 14=.int .i64 5)∧(Region.binds .any { on:=12,ground:=.guard }=true→vs 12=.bool true)∧True:=hd
      have h14:vs 14=.int .i64 5:=hx.1 rfl
      have h12:vs 12=.bool true:=hx.2.1 rfl
      clear hx
      try clear hd
      dsimp only
      rw [show vs 14=_ from h14,show vs 12=_ from h12]
      go_wp2_with fail
      exact⟨rfl,_,rfl,zc _,rfl⟩
     ·intro vs y hg hd
      obtain⟨h12,h15,_⟩:=hd
      replace h12:=h12 rfl
      replace h15:=h15 rfl
      try clear hd
      dsimp only
      rw [show vs 12=_ from h12,show vs 15=_ from h15]
      go_wp2_with fail
      exact⟨rfl,_,rfl,zc _,rfl⟩
     ·intro vs y hg hd
      obtain⟨h16,_⟩:=hd
      replace h16:=h16 rfl
      try clear hd
      dsimp only
      rw [show vs 16=_ from h16]
      go_wp2_with fail
      exact⟨rfl,_,rfl,zc _,rfl⟩
     ·intro vs y hg hd
      have hx:(Region.binds .any { on:=17,ground:=.guard }=true→vs 17=.bool true)∧True:=hd
      have h17:vs 17=.bool true:=hx.1 rfl
      clear hx
      try clear hd
      dsimp only
      rw [show vs 17=_ from h17]
      go_wp2_with fail
      exact⟨rfl,_,rfl,zc _,rfl⟩
     ·intro vs y hg hd
      have hx:(Region.binds .any { on:=18,ground:=.data }=true→vs 18=.int .i64 1)∧(Region.binds .any { on:=17,ground:=.guard }=true→vs 17=.bool true)∧True:=hd
      have h18:vs 18=.int .i64 1:=hx.1 rfl
      have h17:vs 17=.bool true:=hx.2.1 rfl
      clear hx
      try clear hd
      dsimp only
      rw [show vs 18=_ from h18,show vs 17=_ from h17]
      go_wp2_with fail
      exact⟨rfl,_,rfl,zc _,rfl⟩
     ·intro vs y hg hd
      obtain⟨h17,h19,_⟩:=hd
      replace h17:=h17 rfl
      replace h19:=h19 rfl
      try clear hd
      dsimp only
      rw [show vs 17=_ from h17,show vs 19=_ from h19]
      go_wp2_with fail
      exact⟨rfl,_,rfl,zc _,rfl⟩
     ·intro vs y hg hd
      obtain⟨h20,_⟩:=hd
      replace h20:=h20 rfl
      try clear hd
      dsimp only
      rw [show vs 20=_ from h20]
      go_wp2_with fail
      exact⟨rfl,_,rfl,zc _,rfl⟩
     ·intro vs y hg hd
      have hx:(Region.binds .any { on:=21,ground:=.guard }=true→vs 21=.bool true)∧True:=hd
      have h21:vs 21=.bool true:=hx.1 rfl
      clear hx
      try clear hd
      dsimp only
      rw [show vs 21=_ from h21]
      go_wp2_with fail
      exact⟨rfl,_,rfl,zc _,rfl⟩
     ·intro vs y hg hd
      have hx:(Region.binds .any { on:=22,ground:=.data }=true→vs 22=.int .i64 0)∧(Region.binds .any { on:=21,ground:=.guard }=true→vs 21=.bool true)∧True:=hd
      have h22:vs 22=.int .i64 0:=hx.1 rfl
      have h21:vs 21=.bool true:=hx.2.1 rfl
      clear hx
      try clear hd
      dsimp only
      rw [show vs 22=_ from h22,show vs 21=_ from h21]
      go_wp2_with fail
      exact⟨rfl,_,rfl,zc _,rfl⟩
     ·intro vs y hg hd
      obtain⟨h21,h23,_⟩:=hd
      replace h21:=h21 rfl
      replace h23:=h23 rfl
      try clear hd
      dsimp only
      rw [show vs 21=_ from h21,show vs 23=_ from h23]
      go_wp2_with fail
      exact⟨rfl,_,rfl,zc _,rfl⟩
     ·intro vs y hg hd
      obtain⟨h24,_⟩:=hd
      replace h24:=h24 rfl
      try clear hd
      dsimp only
      rw [show vs 24=_ from h24]
      go_wp2_with fail
      exact⟨rfl,_,rfl,zc _,rfl⟩
     ·intro vs y hg hd
      have hx:(Region.binds .any { on:=25,ground:=.guard }=true→vs 25=.bool true)∧True:=hd
      have h25:vs 25=.bool true:=hx.1 rfl
      clear hx
      try clear hd
      dsimp only
      rw [show vs 25=_ from h25]
      go_wp2_with fail
      exact⟨rfl,_,rfl,zc _,rfl⟩
     ·intro vs y hg hd
      have hx:(Region.binds .any { on:=26,ground:=.data }=true→vs 26=.pointer (some ⟨q20,0,none⟩))∧(Region.binds .any { on:=25,ground:=.guard }=true→vs 25=.bool true)∧True:=hd
      have h26:vs 26=.pointer (some ⟨q20,0,none⟩):=hx.1 rfl
      have h25:vs 25=.bool true:=hx.2.1 rfl
      clear hx
      try clear hd
      dsimp only
      rw [show vs 26=_ from h26,show vs 25=_ from h25]
      have hc:=HO20T.out y hg
      go_wp2_with fail
      exact⟨rfl,_,rfl,zc _,rfl⟩
     ·intro vs y hg hd
      have hx:(Region.binds .any { on:=27,ground:=.data }=true→vs 27=.int .i64 1)∧(Region.binds .any { on:=25,ground:=.guard }=true→vs 25=.bool true)∧True:=hd
      have h27:vs 27=.int .i64 1:=hx.1 rfl
      have h25:vs 25=.bool true:=hx.2.1 rfl
      clear hx
      try clear hd
      dsimp only
      rw [show vs 27=_ from h27,show vs 25=_ from h25]
      go_wp2_with fail
      exact⟨rfl,_,rfl,zc _,rfl⟩
     ·intro vs y hg hd
      obtain⟨h25,h28,_⟩:=hd
      replace h25:=h25 rfl
      replace h28:=h28 rfl
      try clear hd
      dsimp only
      rw [show vs 25=_ from h25,show vs 28=_ from h28]
      go_wp2_with fail
      exact⟨rfl,_,rfl,zc _,rfl⟩
     ·intro vs y hg hd
      obtain⟨h29,_⟩:=hd
      replace h29:=h29 rfl
      try clear hd
      dsimp only
      rw [show vs 29=_ from h29]
      go_wp2_with fail
      exact⟨rfl,_,rfl,zc _,rfl⟩
     ·intro vs y hg hd
      have hx:(Region.binds .any { on:=30,ground:=.guard }=true→vs 30=.bool true)∧True:=hd
      have h30:vs 30=.bool true:=hx.1 rfl
      clear hx
      try clear hd
      dsimp only
      rw [show vs 30=_ from h30]
      go_wp2_with fail
      exact⟨rfl,_,rfl,zc _,rfl⟩
     ·intro vs y hg hd
      have hx:(Region.binds .any { on:=31,ground:=.data }=true→vs 31=.int .i64 8)∧(Region.binds .any { on:=30,ground:=.guard }=true→vs 30=.bool true)∧True:=hd
      have h31:vs 31=.int .i64 8:=hx.1 rfl
      have h30:vs 30=.bool true:=hx.2.1 rfl
      clear hx
      try clear hd
      dsimp only
      rw [show vs 31=_ from h31,show vs 30=_ from h30]
      go_wp2_with fail
      exact⟨rfl,_,rfl,zc _,rfl⟩
     ·intro vs y hg hd
      obtain⟨h30,h32,_⟩:=hd
      replace h30:=h30 rfl
      replace h32:=h32 rfl
      try clear hd
      dsimp only
      rw [show vs 30=_ from h30,show vs 32=_ from h32]
      go_wp2_with fail
      exact⟨rfl,_,rfl,zc _,rfl⟩
     ·intro vs y hg hd
      obtain⟨h33,_⟩:=hd
      replace h33:=h33 rfl
      try clear hd
      dsimp only
      rw [show vs 33=_ from h33]
      go_wp2_with fail
      exact⟨rfl,_,rfl,zc _,rfl⟩
     ·intro vs y hg hd
      have hx:(Region.binds .any { on:=34,ground:=.guard }=true→vs 34=.bool true)∧True:=hd
      have h34:vs 34=.bool true:=hx.1 rfl
      clear hx
      try clear hd
      dsimp only
      rw [show vs 34=_ from h34]
      have hm:=HMKT.out y hg
      go_wp2_with(refine zw (by rfl) 49 (.tmp 6) rfl qk 0 rfl kc.toList _ hm hkt rfl HSKL.out ?_;simp only [Array.toArray_toList])
      exact⟨rfl,_,rfl,zc _,rfl⟩
     ·intro vs y hg hd
      have hx:(Region.binds .any { on:=34,ground:=.guard }=true→vs 34=.bool true)∧True:=hd
      have h34:vs 34=.bool true:=hx.1 rfl
      clear hx
      try clear hd
      dsimp only
      rw [show vs 34=_ from h34]
      go_wp2_with fail
      exact⟨rfl,_,rfl,zc _,rfl⟩
     ·intro vs y hg hd
      have hx:(Region.binds .any { on:=36,ground:=.data }=true→vs 36=.slice (some ⟨q0,0,none⟩) 3 c)∧(Region.binds .any { on:=34,ground:=.guard }=true→vs 34=.bool true)∧True:=hd
      have h36:vs 36=.slice (some ⟨q0,0,none⟩) 3 c:=hx.1 rfl
      have h34:vs 34=.bool true:=hx.2.1 rfl
      clear hx
      try clear hd
      dsimp only
      rw [show vs 36=_ from h36,show vs 34=_ from h34]
      go_wp2_with fail
      exact⟨rfl,_,rfl,zc _,rfl⟩
     ·intro vs y hg hd
      have hx:(Region.binds .any { on:=37,ground:=.data }=true→vs 37=.pointer (some ⟨q0,26,none⟩))∧(Region.binds .any { on:=34,ground:=.guard }=true→vs 34=.bool true)∧True:=hd
      have h37:vs 37=.pointer (some ⟨q0,26,none⟩):=hx.1 rfl
      have h34:vs 34=.bool true:=hx.2.1 rfl
      clear hx
      try clear hd
      dsimp only
      rw [show vs 37=_ from h37,show vs 34=_ from h34]
      have hm:=HM1T.out y hg
      go_wp2_with(refine zw (by rfl) 111 (.tmp 156) rfl q0 26 rfl S1.C.toList _ hm hnt rfl SI1L.out ?_;simp only [Array.toArray_toList])
      exact⟨rfl,_,rfl,zc _,rfl⟩
     ·intro vs y hg hd
      have hx:(Region.binds .any { on:=35,ground:=.data }=true→vs 35=.agg kc)∧(Region.binds .any { on:=38,ground:=.data }=true→vs 38=.agg S1.C)∧(Region.binds .any { on:=34,ground:=.chain }=true→vs 34=.bool true)∧(Region.binds .any { on:=34,ground:=.guard }=true→vs 34=.bool true)∧True:=hd
      have h35:vs 35=.agg kc:=hx.1 rfl
      have h38:vs 38=.agg S1.C:=hx.2.1 rfl
      have h34:vs 34=.bool true:=hx.2.2.2.1 rfl
      clear hx
      try clear hd
      dsimp only
      rw [show vs 35=_ from h35,show vs 38=_ from h38,show vs 34=_ from h34]
      go_wp2_with(go_at_call 50;refine(CV1.out y (ze HGT.out hg)).mono ?_;rintro e z ⟨rfl,gz⟩)
      exact⟨rfl,_,rfl,gz,rfl⟩
     ·intro vs y hg hd
      have hx:(Region.binds .any { on:=39,ground:=.data }=true→vs 39=.int .i64 0)∧(Region.binds .any { on:=34,ground:=.guard }=true→vs 34=.bool true)∧True:=hd
      have h39:vs 39=.int .i64 0:=hx.1 rfl
      have h34:vs 34=.bool true:=hx.2.1 rfl
      clear hx
      try clear hd
      dsimp only
      rw [show vs 39=_ from h39,show vs 34=_ from h34]
      go_wp2_with fail
      exact⟨rfl,_,rfl,zc _,rfl⟩
     ·intro vs y hg hd
      obtain⟨h34,h40,_⟩:=hd
      replace h34:=h34 rfl
      replace h40:=h40 rfl
      try clear hd
      dsimp only
      rw [show vs 34=_ from h34,show vs 40=_ from h40]
      go_wp2_with fail
      exact⟨rfl,_,rfl,zc _,rfl⟩
     ·intro vs y hg hd
      obtain⟨h41,_⟩:=hd
      replace h41:=h41 rfl
      try clear hd
      dsimp only
      rw [show vs 41=_ from h41]
      go_wp2_with fail
      exact⟨rfl,_,rfl,zc _,rfl⟩
     ·intro vs y hg hd
      have hx:(Region.binds .any { on:=42,ground:=.guard }=true→vs 42=.bool true)∧True:=hd
      have h42:vs 42=.bool true:=hx.1 rfl
      clear hx
      try clear hd
      dsimp only
      rw [show vs 42=_ from h42]
      have hm:=HMKT.out y hg
      go_wp2_with(refine zw (by rfl) 49 (.tmp 6) rfl qk 0 rfl kc.toList _ hm hkt rfl HSKL.out ?_;simp only [Array.toArray_toList])
      exact⟨rfl,_,rfl,zc _,rfl⟩
     ·intro vs y hg hd
      have hx:(Region.binds .any { on:=42,ground:=.guard }=true→vs 42=.bool true)∧True:=hd
      have h42:vs 42=.bool true:=hx.1 rfl
      clear hx
      try clear hd
      dsimp only
      rw [show vs 42=_ from h42]
      have hm:=HWT.out y hg
      go_wp2_with(refine zw (by rfl) 111 (.tmp 24) rfl q24 0 rfl gw.toList _ hm hnt rfl SIW.out ?_;simp only [Array.toArray_toList])
      exact⟨rfl,_,rfl,zc _,rfl⟩
     ·intro vs y hg hd
      have hx:(Region.binds .any { on:=43,ground:=.data }=true→vs 43=.agg kc)∧(Region.binds .any { on:=44,ground:=.data }=true→vs 44=.agg gw)∧(Region.binds .any { on:=42,ground:=.chain }=true→vs 42=.bool true)∧(Region.binds .any { on:=42,ground:=.guard }=true→vs 42=.bool true)∧True:=hd
      have h43:vs 43=.agg kc:=hx.1 rfl
      have h44:vs 44=.agg gw:=hx.2.1 rfl
      have h42:vs 42=.bool true:=hx.2.2.2.1 rfl
      clear hx
      try clear hd
      dsimp only
      rw [show vs 43=_ from h43,show vs 44=_ from h44,show vs 42=_ from h42]
      go_wp2_with(go_at_call 50;refine(CV7.out y (ze HGT.out hg)).mono ?_;rintro e z ⟨rfl,gz⟩)
      exact⟨rfl,_,rfl,gz,rfl⟩
     ·intro vs y hg hd
      have hx:(Region.binds .any { on:=45,ground:=.data }=true→vs 45=.int .i64 7)∧(Region.binds .any { on:=42,ground:=.guard }=true→vs 42=.bool true)∧True:=hd
      have h45:vs 45=.int .i64 7:=hx.1 rfl
      have h42:vs 42=.bool true:=hx.2.1 rfl
      clear hx
      try clear hd
      dsimp only
      rw [show vs 45=_ from h45,show vs 42=_ from h42]
      go_wp2_with fail
      exact⟨rfl,_,rfl,zc _,rfl⟩
     ·intro vs y hg hd
      obtain⟨h42,h46,_⟩:=hd
      replace h42:=h42 rfl
      replace h46:=h46 rfl
      try clear hd
      dsimp only
      rw [show vs 42=_ from h42,show vs 46=_ from h46]
      go_wp2_with fail
      exact⟨rfl,_,rfl,zc _,rfl⟩
     ·intro vs y hg hd
      obtain⟨h47,_⟩:=hd
      replace h47:=h47 rfl
      try clear hd
      dsimp only
      rw [show vs 47=_ from h47]
      go_wp2_with fail
      exact⟨rfl,_,rfl,zc _,rfl⟩
     ·intro vs y hg hd
      have hx:(Region.binds .any { on:=48,ground:=.guard }=true→vs 48=.bool true)∧True:=hd
      have h48:vs 48=.bool true:=hx.1 rfl
      clear hx
      try clear hd
      dsimp only
      rw [show vs 48=_ from h48]
      have hbc:=HBC.out
      go_wp2_with fail
      exact⟨rfl,_,rfl,zc _,rfl⟩
     ·intro vs y hg hd
      have hx:(Region.binds .any { on:=49,ground:=.data }=true→vs 49=.agg #[.int .i64 1])∧(Region.binds .any { on:=48,ground:=.chain }=true→vs 48=.bool true)∧(Region.binds .any { on:=48,ground:=.guard }=true→vs 48=.bool true)∧True:=hd
      have h49:vs 49=.agg #[.int .i64 1]:=hx.1 rfl
      have h48:vs 48=.bool true:=hx.2.2.1 rfl
      clear hx
      try clear hd
      dsimp only
      rw [show vs 49=_ from h49,show vs 48=_ from h48]
      go_wp2_with(go_at_call 59;refine(za2 1 (by omega) 6 (by omega) y).mono ?_;rintro e z ⟨rfl,gz⟩)
      exact⟨rfl,_,rfl,gz,rfl⟩
     ·intro vs y hg hd
      have hx:(Region.binds .any { on:=50,ground:=.data }=true→vs 50=.int .i64 2)∧(Region.binds .any { on:=48,ground:=.guard }=true→vs 48=.bool true)∧True:=hd
      have h50:vs 50=.int .i64 2:=hx.1 rfl
      have h48:vs 48=.bool true:=hx.2.1 rfl
      clear hx
      try clear hd
      dsimp only
      rw [show vs 50=_ from h50,show vs 48=_ from h48]
      go_wp2_with fail
      exact⟨rfl,_,rfl,zc _,rfl⟩
     ·intro vs y hg hd
      obtain⟨h48,h51,_⟩:=hd
      replace h48:=h48 rfl
      replace h51:=h51 rfl
      try clear hd
      dsimp only
      rw [show vs 48=_ from h48,show vs 51=_ from h51]
      go_wp2_with fail
      exact⟨rfl,_,rfl,zc _,rfl⟩
     ·intro vs y hg hd
      obtain⟨h52,_⟩:=hd
      replace h52:=h52 rfl
      try clear hd
      dsimp only
      rw [show vs 52=_ from h52]
      go_wp2_with fail
      exact⟨rfl,_,rfl,zc _,rfl⟩
     ·intro vs y hg hd
      have hx:(Region.binds .any { on:=53,ground:=.guard }=true→vs 53=.bool true)∧True:=hd
      have h53:vs 53=.bool true:=hx.1 rfl
      clear hx
      try clear hd
      dsimp only
      rw [show vs 53=_ from h53]
      go_wp2_with fail
      exact⟨rfl,_,rfl,zc _,rfl⟩
     ·intro vs y hg hd
      have hx:(Region.binds .any { on:=54,ground:=.data }=true→vs 54=.pointer (some ⟨qu,0,none⟩))∧(Region.binds .any { on:=53,ground:=.guard }=true→vs 53=.bool true)∧True:=hd
      have h54:vs 54=.pointer (some ⟨qu,0,none⟩):=hx.1 rfl
      have h53:vs 53=.bool true:=hx.2.1 rfl
      clear hx
      try clear hd
      dsimp only
      rw [show vs 54=_ from h54,show vs 53=_ from h53]
      go_wp2_with fail
      exact⟨rfl,_,rfl,zc _,rfl⟩
     ·intro vs y hg hd
      obtain⟨h53,h55,_⟩:=hd
      replace h53:=h53 rfl
      replace h55:=h55 rfl
      try clear hd
      dsimp only
      rw [show vs 53=_ from h53,show vs 55=_ from h55]
      go_wp2_with fail
      exact⟨rfl,_,rfl,zc _,rfl⟩
     ·intro vs y hg hd
      obtain⟨h56,_⟩:=hd
      replace h56:=h56 rfl
      try clear hd
      dsimp only
      rw [show vs 56=_ from h56]
      go_wp2_with fail
      exact⟨rfl,_,rfl,zc _,rfl⟩
     ·intro vs y hg hd
      have hx:(Region.binds .any { on:=57,ground:=.guard }=true→vs 57=.bool true)∧True:=hd
      have h57:vs 57=.bool true:=hx.1 rfl
      clear hx
      try clear hd
      dsimp only
      rw [show vs 57=_ from h57]
      go_wp2_with fail
      exact⟨rfl,_,rfl,zc _,rfl⟩
     ·intro vs y hg hd
      have hx:(Region.binds .any { on:=58,ground:=.data }=true→vs 58=.pointer (some ⟨qu,0,none⟩))∧(Region.binds .any { on:=57,ground:=.chain }=true→vs 57=.bool true)∧(Region.binds .any { on:=57,ground:=.guard }=true→vs 57=.bool true)∧True:=hd
      have h58:vs 58=.pointer (some ⟨qu,0,none⟩):=hx.1 rfl
      have h57:vs 57=.bool true:=hx.2.2.1 rfl
      clear hx
      try clear hd
      dsimp only
      rw [show vs 58=_ from h58,show vs 57=_ from h57]
      go_wp2_with(go_at_call 65;refine(za1 y (HZUT.out y hg)).mono ?_;rintro e z ⟨rfl,hz⟩;rw [hz];clear hz)
      exact⟨rfl,_,rfl,zc _,rfl⟩
     ·intro vs y hg hd
      have hx:(Region.binds .any { on:=59,ground:=.data }=true→vs 59=.int .i64 5)∧(Region.binds .any { on:=57,ground:=.guard }=true→vs 57=.bool true)∧True:=hd
      have h59:vs 59=.int .i64 5:=hx.1 rfl
      have h57:vs 57=.bool true:=hx.2.1 rfl
      clear hx
      try clear hd
      dsimp only
      rw [show vs 59=_ from h59,show vs 57=_ from h57]
      go_wp2_with fail
      exact⟨rfl,_,rfl,zc _,rfl⟩
     ·intro vs y hg hd
      obtain⟨h57,h60,_⟩:=hd
      replace h57:=h57 rfl
      replace h60:=h60 rfl
      try clear hd
      dsimp only
      rw [show vs 57=_ from h57,show vs 60=_ from h60]
      go_wp2_with fail
      exact⟨rfl,_,rfl,zc _,rfl⟩
    ·intro vs wE hg hJ
     have j0:vs 0=.bool false:=hJ 0 (by decide)
     have j1:vs 1=.bool true:=hJ 1 (by decide)
     have j2:vs 2=.bool true:=hJ 2 (by decide)
     have j3:vs 3=.bool true:=hJ 3 (by decide)
     have j4:vs 4=.bool true:=hJ 4 (by decide)
     have j5:vs 5=.bool true:=hJ 5 (by decide)
     have j6:vs 6=.bool true:=hJ 6 (by decide)
     have j7:vs 7=.bool true:=hJ 7 (by decide)
     have j8:vs 8=.bool true:=hJ 8 (by decide)
     have j9:vs 9=.bool false:=hJ 9 (by decide)
     have j10:vs 10=.bool true:=hJ 10 (by decide)
     have j11:vs 11=.bool true:=hJ 11 (by decide)
     have j12:vs 12=.bool true:=hJ 12 (by decide)
     have j13:vs 13=.pointer (some ⟨pq,0,none⟩):=hJ 13 (by decide)
     have j14:vs 14=.int .i64 5:=hJ 14 (by decide)
     have j15:vs 15=.bool true:=hJ 15 (by decide)
     have j16:vs 16=.bool true:=hJ 16 (by decide)
     have j17:vs 17=.bool true:=hJ 17 (by decide)
     have j18:vs 18=.int .i64 1:=hJ 18 (by decide)
     have j19:vs 19=.bool true:=hJ 19 (by decide)
     have j20:vs 20=.bool true:=hJ 20 (by decide)
     have j21:vs 21=.bool true:=hJ 21 (by decide)
     have j22:vs 22=.int .i64 0:=hJ 22 (by decide)
     have j23:vs 23=.bool true:=hJ 23 (by decide)
     have j24:vs 24=.bool true:=hJ 24 (by decide)
     have j25:vs 25=.bool true:=hJ 25 (by decide)
     have j26:vs 26=.pointer (some ⟨q20,0,none⟩):=hJ 26 (by decide)
     have j27:vs 27=.int .i64 1:=hJ 27 (by decide)
     have j28:vs 28=.bool true:=hJ 28 (by decide)
     have j29:vs 29=.bool true:=hJ 29 (by decide)
     have j30:vs 30=.bool true:=hJ 30 (by decide)
     have j31:vs 31=.int .i64 8:=hJ 31 (by decide)
     have j32:vs 32=.bool true:=hJ 32 (by decide)
     have j33:vs 33=.bool true:=hJ 33 (by decide)
     have j34:vs 34=.bool true:=hJ 34 (by decide)
     have j35:vs 35=.agg kc:=hJ 35 (by decide)
     have j36:vs 36=.slice (some ⟨q0,0,none⟩) 3 c:=hJ 36 (by decide)
     have j37:vs 37=.pointer (some ⟨q0,26,none⟩):=hJ 37 (by decide)
     have j38:vs 38=.agg S1.C:=hJ 38 (by decide)
     have j39:vs 39=.int .i64 0:=hJ 39 (by decide)
     have j40:vs 40=.bool true:=hJ 40 (by decide)
     have j41:vs 41=.bool true:=hJ 41 (by decide)
     have j42:vs 42=.bool true:=hJ 42 (by decide)
     have j43:vs 43=.agg kc:=hJ 43 (by decide)
     have j44:vs 44=.agg gw:=hJ 44 (by decide)
     have j45:vs 45=.int .i64 7:=hJ 45 (by decide)
     have j46:vs 46=.bool true:=hJ 46 (by decide)
     have j47:vs 47=.bool true:=hJ 47 (by decide)
     have j48:vs 48=.bool true:=hJ 48 (by decide)
     have j49:vs 49=.agg #[.int .i64 1]:=hJ 49 (by decide)
     have j50:vs 50=.int .i64 2:=hJ 50 (by decide)
     have j51:vs 51=.bool true:=hJ 51 (by decide)
     have j52:vs 52=.bool true:=hJ 52 (by decide)
     have j53:vs 53=.bool true:=hJ 53 (by decide)
     have j54:vs 54=.pointer (some ⟨qu,0,none⟩):=hJ 54 (by decide)
     have j55:vs 55=.bool true:=hJ 55 (by decide)
     have j56:vs 56=.bool true:=hJ 56 (by decide)
     have j57:vs 57=.bool true:=hJ 57 (by decide)
     have j58:vs 58=.pointer (some ⟨qu,0,none⟩):=hJ 58 (by decide)
     have j59:vs 59=.int .i64 5:=hJ 59 (by decide)
     have j60:vs 60=.bool true:=hJ 60 (by decide)
     have j61:vs 61=.bool true:=hJ 61 (by decide)
     clear hJ
     simp only [actOf,tk1,tk0,dr1,dr0,Act.put,si1,st1,st0,Nat.reduceAdd]
     rw [show vs 61=_ from j61]
     go_wp2_with fail
     go_ret
     exact⟨rfl,ze HGW.out (ze HGT.out hg)⟩
end Go.Proofs.YtidjnnnigcmdpaaGreatDoor
