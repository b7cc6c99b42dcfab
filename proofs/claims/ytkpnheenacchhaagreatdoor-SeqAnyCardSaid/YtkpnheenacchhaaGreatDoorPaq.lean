/- A range over an iterator that keeps its state in a cell of its own (a captured variable): the law. -/
import Derived.Test.YtkpnheenacchhaaGreatDoorPzz
import Derived.RangeFuncNested
import Derived.RangeFuncBound
import Derived.RangeFuncCalls
import Derived.RangeFuncLeaves
import Derived.RangeFuncWrites
import Derived.RangeFuncBox
import Derived.Shelf.Abstract
import Derived.Shelf.RegionOpen
import Derived.WalkKit
import Derived.OwnWalkIn
import Derived.TacticsInMore
import Derived.LoopNIn
import Derived.LoopIn
import Derived.Maps.AppendAt
set_option maxRecDepth 100000
set_option linter.unusedSimpArgs false
set_option linter.unusedVariables false
namespace Go.Proofs.YtkpnheenacchhaaGreatDoor
open Go.RowKit Go.Shelf
def Itr {α:Type} (n:Nat) (P:Program) (g:Nat) (lb:Array Value) (enc:α→Value) (T:Nat) (Kp:World→World→Prop) (S Sp:List α→Prop) (N:Nat) (w0:World):Prop :=
 ∀(l:Nat) (J Jx:List α→World→Prop) (W:World),Below w0.heap.size w0 W →
  (∀ pre A v,J pre A→J pre (A.setCell ⟨T,0,none⟩ v))→(∀ pre A v,Jx pre A→Jx pre (A.setCell ⟨T,0,none⟩ v)) →
  (∀ pre x A,J pre A→pre.length<N→YieldAt Fence.wide (n-1) P l #[enc x] A fun e B =>
    (e=.returned (.bool true)∧J (pre++[x]) B∧Kp A B)∨(e=.returned (.bool false)∧Jx (pre++[x]) B)) →
  J [] W →
  CallsIn Fence.wide n P g (#[.func (.yield l) #[] #[]]++lb) W fun e B=>(∃ v,e=.returned v)∧((∃ xs,S xs∧J xs B)∨(∃ pre,Sp pre∧Jx pre B))
def retOnly {α:Type} (Ix:List α→World→Prop):Code→List α→World→Prop:=fun c pre W=>c=.ret∧Ix pre W
theorem zd2 {α:Type} {n:Nat} {P:Program} {g:Operand} {ps:Array Tmp} {assign body:Code} {Q:Exit→Act→World→Prop} {a:Act} {w:World}
 (h1:1≤n) {gf:Nat} {lb:Array Value} (hg:a.eval g=.func (.func gf) #[] lb) (eg:∀ args w,(callFunc gf args).run P w=.ok (.enter gf args) w)
 {enc:α→Value} {T:Nat} {Kp:World→World→Prop} {S Sp:List α→Prop} {N:Nat} (hseq:Itr (n-1) P gf lb enc T Kp S Sp N w) (hT:T<w.heap.size)
 (hKt:∀ {A B C:World},Kp A B→Kp B C→Kp A C) (hKb:∀(W:World) (l:Nat) (o':Obj),w.heap.size≤l→Kp W (W.putObj l o')) (hps:ps.size=1)
 (I Ix:List α→World→Prop) (hI:OwnFrom w.heap.size I) (hIx:OwnFrom w.heap.size Ix)
 (sI:∀ pre A v,I pre A→I pre (A.setCell ⟨T,0,none⟩ v)) (sIx:∀ pre A v,Ix pre A→Ix pre (A.setCell ⟨T,0,none⟩ v)) (h0:I [] w) (a₁:α→Act)
 (hassign:∀(l:Nat) (x:α) (W:World) (K:Act→World→Prop),K (a₁ x) W →
   assign.wpIn (Fence.wide.inRound l) (n-1-1) P (Exit.then K (fun _ _ _=>False)) { tmps:=(ps.zip #[enc x]).foldl (fun t (p,v)=>t.setIfInBounds p v) a.tmps,defers:=[] } W)
 (hbody:∀(l:Nat) (pre:List α) (x:α) (W:World),I pre W→pre.length<N→body.wpIn (Fence.wide.inRound l) (n-1-1) P (ownPostG w.heap.size Kp I (retOnly Ix) (pre++[x]) W) (a₁ x) W)
 (hdone:∀(D:Nat) (xs:List α) (W:World),w.heap.size≤D→S xs→I xs W→W.heap[D]?=some (.deferred (some []))→Q .normal { a with defers:={ target:=.collected D,args:=#[] }::a.defers } W)
 (hstop:∀(D:Nat) (pre:List α) (W:World),w.heap.size≤D→Sp pre→Ix pre W→W.heap[D]?=some (.deferred (some []))→Code.ret.wpIn Fence.wide n P Q { a with defers:={ target:=.collected D,args:=#[] }::a.defers } W) :
 (Code.rangeFunc g ps assign body).wpIn Fence.wide n P Q a w:=by
 refine wpIn_rangeFunc ?_
 intro fn hfn
 let d0:=w.heap.size
 obtain⟨mk,hmk⟩:∃ mk:LoopState→Option Code→Loop,mk=fun st pe=>{ state:=st,pending:=pe,fn,tmps:=a.tmps,params:=ps,assign,body,defers:=w.heap.size }:=⟨_,rfl⟩
 obtain⟨V,hV⟩:∃ V,(w.alloc (.deferred (some []))).alloc (.loop (mk .ready none))=V:=⟨_,rfl⟩
 have vL:V.heap[w.heap.size+1]?=some (.loop (mk .ready none)):=by
  rw [←hV]
  have h:=World.alloc_heap_new (w.alloc (.deferred (some []))) (.loop (mk .ready none))
  rwa [World.size_alloc]at h
 have vD:V.heap[w.heap.size]?=some (.deferred (some [])):=by
  rw [←hV]
  exact(Below.heap_alloc _ _ _ (by simp)).trans (World.alloc_heap_new w _)
 have vI:I [] V:=by rw [←hV];exact hI.alloc _ (hI.alloc _ h0)
 have vB:Below w.heap.size w V:=by rw [←hV];exact((Below.refl _ w).alloc (zN9 _) _).alloc (by simp) _
 refine⟨w.heap.size+1,[{ target:=.collected w.heap.size,args:=#[] }],V,{ target:=.fn (.func gf) lb,args:=#[.func (.yield (w.heap.size+1)) #[] #[]] },V,gf,
  #[.func (.yield (w.heap.size+1)) #[] #[]]++lb,V,by rw [←hV,hmk];exact run_enterLoop_outer _ _ _ _ _,by simp only [resolve,hg];simp [go_sem],fun _ _=>trivial,by simp [invoke,go_sem,eg],fun _=>h1,?_⟩
 have other:∀(A:World) (v:Value) (j:Nat),w.heap.size≤j→(A.setCell ⟨T,0,none⟩ v).heap[j]?=A.heap[j]?:=fun A v j hj=>Below.heap_setCell A ⟨T,0,none⟩ v j (by simp only;omega)
 refine(hseq (w.heap.size+1)
  (fun pre W=>I pre W∧W.heap[w.heap.size+1]?=some (.loop (mk .ready none))∧W.heap[w.heap.size]?=some (.deferred (some [])))
  (fun pre W=>Ix pre W∧W.heap[w.heap.size+1]?=some (.loop (mk .done (some .ret)))∧W.heap[w.heap.size]?=some (.deferred (some [])))
  V vB (fun pre A v h=>⟨sI pre A v h.1,(other A v _ (by omega)).trans h.2.1,(other A v _ (zN9 _)).trans h.2.2⟩)
  (fun pre A v h=>⟨sIx pre A v h.1,(other A v _ (by omega)).trans h.2.1,(other A v _ (zN9 _)).trans h.2.2⟩) ?round ⟨vI,vL,vD⟩).mono ?behind
 case round =>
  rintro pre x A ⟨hi,hl,hk⟩ hlen
  have hsz:w.heap.size+1<A.heap.size:=(Array.getElem?_eq_some_iff.1 hl).1
  have hy:=run_yield (P:=P) (args:=#[enc x]) hl (by rw [hmk];exact hps.symm)
  rw [hmk]at hy
  obtain⟨B,hB⟩:∃ B,A.putObj (w.heap.size+1) (.loop { mk .ready none with state:=.busy })=B:=⟨_,rfl⟩
  have bL:B.heap[w.heap.size+1]?=some (.loop { mk .ready none with state:=.busy }):=by rw [←hB];exact World.putObj_heap_same hsz
  have bD:B.heap[w.heap.size]?=some (.deferred (some [])):=by rw [←hB];exact(World.putObj_heap_other (by omega)).trans hk
  have bI:I pre B:=by rw [←hB];exact hI.putObj _ hi (by omega) hl rfl
  have bK:Kp A B:=by rw [←hB];exact hKb _ _ _ (by omega)
  refine⟨fn,_,assign,body,hy,roundIn_of_wpIn hfn (hassign _ x A _ ⟨_,run_beginRound hl (by rw [hmk]),?_⟩)⟩
  rw [hB]
  refine wpIn_mono (hbody _ pre x B bI hlen) ?_
  have close:∀(jump:Option Code) (C:World),KeepsFrom w.heap.size B C →
   (Instr.endRound (w.heap.size+1) jump).run P C=.ok (.bool jump.isNone) (C.putObj (w.heap.size+1) (.loop (mk (if jump.isNone then .ready else .done) jump))) ∧
   C.heap[w.heap.size+1]?=some (.loop { mk .ready none with state:=.busy }) ∧
   (C.putObj (w.heap.size+1) (.loop (mk (if jump.isNone then .ready else .done) jump))).heap[w.heap.size+1]?=some (.loop (mk (if jump.isNone then .ready else .done) jump)) ∧
   (C.putObj (w.heap.size+1) (.loop (mk (if jump.isNone then .ready else .done) jump))).heap[w.heap.size]?=some (.deferred (some [])):=by
   intro jump C hC
   have cL:=hC.same _ _ (by omega) bL rfl
   have hend:=run_endRound (P:=P) jump cL
   rw [hmk]at hend cL ⊢
   exact⟨hend,cL,World.putObj_heap_same (Array.getElem?_eq_some_iff.1 cL).1,(World.putObj_heap_other (by omega)).trans (hC.same _ _ (zN9 _) bD rfl)⟩
  rintro e a3 C hp
  cases e with
  | normal =>
   obtain⟨hC,hKp,hi3⟩:=hp
   obtain⟨hr,c1,c2,c3⟩:=close none C hC
   exact⟨_,_,hr,.inl ⟨rfl,⟨hI.putObj _ hi3 (by omega) c1 rfl,c2,c3⟩,hKt (hKt bK hKp) (hKb _ _ _ (by omega))⟩⟩
  | ret =>
   obtain⟨hC,_,hi3⟩:=hp
   obtain⟨hr,c1,c2,c3⟩:=close (some .ret) C hC
   exact⟨_,_,hr,.inr ⟨rfl,hIx.putObj _ hi3 (by omega) c1 rfl,c2,c3⟩⟩
  | exit id=>exact absurd hp.2.1 (by simp)
  | goto t=>exact absurd hp.2.1 (by simp)
  | panic ch=>exact hp.elim
  | outgrown=>exact hp.elim
 case behind =>
  rintro e C ⟨⟨v,rfl⟩,(⟨xs,hS,hi,hl,hk⟩ | ⟨pre,hSp,hi,hl,hk⟩)⟩
  ·have h:=run_endLoop (P:=P) hl (by rw [hmk];simp)
   rw [hmk]at h
   exact⟨none,_,h,hdone _ xs _ (zN9 _) hS (hI.putObj _ hi (by omega) hl rfl) ((World.putObj_heap_other (by omega)).trans hk)⟩
  ·have h:=run_endLoop (P:=P) hl (by rw [hmk];simp)
   rw [hmk]at h
   exact⟨some .ret,_,h,hstop _ pre _ (zN9 _) hSp (hIx.putObj _ hi (by omega) hl rfl) ((World.putObj_heap_other (by omega)).trans hk)⟩
end Go.Proofs.YtkpnheenacchhaaGreatDoor
