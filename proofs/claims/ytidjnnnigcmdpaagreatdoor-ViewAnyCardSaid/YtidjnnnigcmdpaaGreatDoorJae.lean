/- Rows of cells that a loop fills; whole rows loaded and stored. -/
import Derived.Deep.WholeRow
import Derived.Test.YtidjnnnigcmdpaaGreatDoorJad
set_option maxRecDepth 100000
set_option linter.unusedSimpArgs false
set_option linter.unusedVariables false
set_option linter.unnecessarySimpa false
namespace Go.Proofs.YtidjnnnigcmdpaaGreatDoor
open Go.RowKit
def rowF (n:Nat) (f:Nat→Value) (z:Value) (k:Nat):Array Value:=((List.range n).map fun j=>if j<k then f j else z).toArray
theorem zX (n:Nat) (f:Nat→Value) (z:Value) (k:Nat):(rowF n f z k).size=n:=by simp [rowF]
theorem ku (n:Nat) (f:Nat→Value) (z:Value) (k i:Nat) (h:i<(rowF n f z k).size):(rowF n f z k)[i]=if i<k then f i else z:=by
 simp [rowF]
theorem yv (n:Nat) (f:Nat→Value) (z:Value) (k:Nat) (h:k<n):(rowF n f z k)[k]?=some z:=by
 rw [Array.getElem?_eq_getElem (by rw [zX];exact h),ku,if_neg (by omega)]
theorem zar (n:Nat) (f:Nat→Value) (z:Value) (k i:Nat) (h:i<n) (hk:i<k):(rowF n f z k)[i]?=some (f i):=by
 rw [Array.getElem?_eq_getElem (by rw [zX];exact h),ku,if_pos hk]
theorem yi (n:Nat) (f:Nat→Value) (z:Value) (k:Nat) (_h:k<n):(rowF n f z k).setIfInBounds k (f k)=rowF n f z (k+1):=by
 apply Array.ext
 ·rw [Array.size_setIfInBounds,zX,zX]
 ·intro i h1 h2
  have hi:i<n:=by rw [zX]at h2;exact h2
  rw [Array.getElem_setIfInBounds,ku,ku]
  by_cases hk:k=i
  ·rw [if_pos hk,if_pos (by omega),hk]
  ·rw [if_neg hk]
   by_cases hik:i<k
   ·rw [if_pos hik,if_pos (by omega)]
   ·rw [if_neg hik,if_neg (by omega)]
  ·rw [zX];exact hi
theorem yy (n:Nat) (f:Nat→Value) (z:Value):rowF n f z n=((List.range n).map f).toArray:=by
 unfold rowF
 congr 1
 apply List.map_congr_left
 intro j hj
 rw [if_pos (List.mem_range.1 hj)]
theorem yg (n:Nat) (f:Nat→Value) (z:Value):rowF n f z 0=(List.replicate n z).toArray:=by
 unfold rowF
 congr 1
 apply List.ext_getElem
 ·simp
 ·intro i h1 h2;simp
theorem xF (l:List Nat) (f:Nat→Value) (hf:∀ j,(f j).oneCell'=true):((l.map f).toArray).all (·.oneCell')=true:=by
 refine Array.all_eq_true_iff_forall_mem.2 fun v hv=>?_
 obtain⟨j,_,rfl⟩:=List.mem_map.1 (show v∈l.map f by simpa using hv)
 exact hf j
section
variable {P : Program}
theorem yf {B:Nat} {a w:World} (h:Below B a w) {g:Nat} (hg:B≤g) (cs:Array Value):Below B a (w.setRow g cs) :=
 h.trans ⟨rfl,rfl,rfl,by simp,fun k hk=>setRow_other w g k cs (by omega)⟩
end
def Bk (w:World) (g:Nat) (t:TypeId) (cs:Array Value):Prop:=w.heap[g]?=some (.cells cs t (0,0))
theorem Bk.lt {w:World} {g:Nat} {t:TypeId} {cs:Array Value} (h:Bk w g t cs):g<w.heap.size:=by
 rcases Nat.lt_or_ge g w.heap.size with hlt | hge
 ·exact hlt
 ·unfold Bk at h;rw [Array.getElem?_eq_none hge]at h;cases h
theorem Bk.cell {w:World} {g:Nat} {t:TypeId} {cs:Array Value} (h:Bk w g t cs) (i:Nat):w.cell? ⟨g,i,none⟩=cs[i]?:=cell_of_row w g i cs t (0,0) h
theorem Bk.frozen {w:World} {g:Nat} {t:TypeId} {cs:Array Value} (h:Bk w g t cs) (i:Nat):w.frozen? ⟨g,i,none⟩=false:=frozen_of_row w g i cs t h
theorem Bk.new (w:World) (t:TypeId) (cs:Array Value):Bk (w.alloc (.cells cs t)) w.heap.size t cs:=heap_alloc_new w _
theorem Bk.alloc {w:World} {g:Nat} {t:TypeId} {cs:Array Value} (h:Bk w g t cs) (o:Obj):Bk (w.alloc o) g t cs:=(Below.heap_alloc w o g h.lt).trans h
theorem Bk.drew {w:World} {g:Nat} {t:TypeId} {cs:Array Value} (h:Bk w g t cs):Bk w.drew g t cs:=h
theorem Bk.set_ {w:World} {g:Nat} {t:TypeId} {cs:Array Value} (h:Bk w g t cs) (i:Nat) (u:Value):Bk (w.setCell ⟨g,i,none⟩ u) g t (cs.setIfInBounds i u):=heap_setCell_same w g i cs t u h
theorem Bk.far {w:World} {g:Nat} {t:TypeId} {cs:Array Value} (h:Bk w g t cs) {p:Addr} (hp:g≠p.block) (u:Value):Bk (w.setCell p u) g t cs:=(heap_setCell_other w p g u hp).trans h
theorem Bk.below {w w':World} {g B:Nat} {t:TypeId} {cs:Array Value} (h:Bk w g t cs) (hb:Below B w w') (hg:g<B):Bk w' g t cs:=(hb.block g hg).trans h
theorem Bk.grew {w w':World} {g:Nat} {t:TypeId} {cs:Array Value} (h:Bk w g t cs) (hb:Grew w w'):Bk w' g t cs:=h.below hb h.lt
theorem Bk.row {w:World} {g:Nat} {t:TypeId} {cs:Array Value} (h:Bk w g t cs) (cs':Array Value):Bk (w.setRow g cs') g t cs':=setRow_heap _ _ _ _ _ _ h
theorem kF {P:Program} (t e:TypeId) (n:Nat) (i:TypeInfo) (cs:Array Value) (k:Nat) (u:Value) (h:P.underlying t=some (.array n e)) (hk:k<n)
 (he:∀ w,(isAgg e).run P w=.ok false w) (hi:P.info? e=some i) (h1:i.size=1) (hu:cs[k]?=some u) (w:World) :
 (Instr.index t (.agg cs) (.int .i64 (k:Nat))).run P w=.ok u w:=by
 have hin:0≤(k:Int)∧(k:Int)<(n:Int):=by omega
 simp [Instr.index,run_underlying h,asIntOf,hin,part,he,sizeOf,typeInfo,hi,h1,hu,go_sem]
 intro hh
 omega
def arrU (s:Nat→Nat):Array Value:=((List.range 18).map fun k=>u64V (s k)).toArray
theorem zY (s:Nat→Nat):(arrU s).size=18:=by simp [arrU]
theorem yC (s:Nat→Nat) (k:Nat) (h:k<18):(arrU s)[k]?=some (.int .u64 (s k:Nat)):=by
 rw [Array.getElem?_eq_getElem (by rw [zY];exact h)]
 simp [arrU,u64V]
theorem jP (s:Nat→Nat):(arrU s).all (·.oneCell')=true:=xF _ _ (fun _=>rfl)
def mixRow (s f:Nat→Nat) (k:Nat):Array Value:=arrU (fun j=>if j<k then f j else s j)
theorem zcs (s f:Nat→Nat):mixRow s f 0=arrU s:=by
 unfold mixRow;congr 1
theorem zeg (f g:Nat→Nat) (h:∀ k,k<18→f k=g k):arrU f=arrU g:=by
 unfold arrU
 congr 1
 apply List.map_congr_left
 intro j hj
 rw [h j (List.mem_range.1 hj)]
theorem zct (s f:Nat→Nat):mixRow s f 18=arrU f:=zeg _ _ (fun k hk=>if_pos hk)
theorem xu (s f:Nat→Nat) (k:Nat):(mixRow s f k).size=18:=zY _
theorem zfy (s f:Nat→Nat) (k:Nat) (h:k<18):(mixRow s f k)[k]?=some (.int .u64 (s k:Nat)):=by
 unfold mixRow
 rw [yC _ k h,if_neg (by omega)]
theorem qy (s f:Nat→Nat) (k i:Nat) (h:i<(mixRow s f k).size):(mixRow s f k)[i]=.int .u64 ((if i<k then f i else s i:Nat):Int):=by
 simp [mixRow,arrU,u64V]
theorem zeh (s f:Nat→Nat) (k:Nat) (_h:k<18):(mixRow s f k).setIfInBounds k (.int .u64 (f k:Nat))=mixRow s f (k+1):=by
 apply Array.ext
 ·rw [Array.size_setIfInBounds,xu,xu]
 ·intro i h1 h2
  have hi:i<18:=by rw [xu]at h2;exact h2
  rw [Array.getElem_setIfInBounds,qy,qy]
  by_cases hk:k=i
  ·rw [if_pos hk,if_pos (by omega),hk]
  ·rw [if_neg hk]
   by_cases hik:i<k
   ·rw [if_pos hik,if_pos (by omega)]
   ·rw [if_neg hik,if_neg (by omega)]
  ·rw [xu];exact hi
abbrev Tn (g:Nat) (w w':World):Prop:=w.grownBy w' (some g)
theorem jf (g:Nat) (w:World):Tn g w w:=⟨rfl,rfl,rfl,Nat.le_refl _,fun _ _ _=>rfl⟩
theorem zhn {g:Nat} {a w:World} (h:Tn g a w) (n:Nat):Tn g a (w.drewN n):=⟨h.os,h.tape,h.output,h.size,h.block⟩
theorem kN {a w:World} {g:Nat} (h:Tn g a w) {p:Addr} (hp:p.block=g∨a.heap.size≤p.block) (u:Value):Tn g a (w.setCell p u) :=
 ⟨h.os,h.tape,h.output,by simpa [World.setCell]using h.size,fun i hi hne=>(Below.heap_setCell w p u i (by
  rintro rfl
  rcases hp with hp | hp
  ·exact hne (by rw [hp])
  ·omega)).trans (h.block i hi hne)⟩
theorem x9 {g:Nat} {a w:World} (h:Grew a w):Tn g a w:=⟨h.os,h.tape,h.output,h.size,fun i hi _=>h.block i hi⟩
theorem Bk.tn {w w':World} {g g':Nat} {t:TypeId} {cs:Array Value} (h:Bk w g t cs) (hb:Tn g' w w') (hg:g≠g'):Bk w' g t cs :=
 (hb.block g h.lt (fun e=>hg (by injection e))).trans h
theorem zho {B g:Nat} {a w w':World} (h:Below B a w) (hb:Tn g w w') (hB:B≤w.heap.size) (hg:B≤g):Below B a w' :=
 h.grown hb hB (fun k hk=>by injection hk with hk;omega)
theorem Bk.drewN {w:World} {g:Nat} {t:TypeId} {cs:Array Value} (h:Bk w g t cs) (n:Nat):Bk (w.drewN n) g t cs:=h
theorem Rd.tn {w w':World} {B g:Nat} {A:Option Addr} {xs:List Value} (h:Rd w B A xs) (hg:Tn g w w') (hB:B≤w.heap.size) (hr:B≤g):Rd w' B A xs :=
 h.grown hg hB (fun k hk=>by injection hk with hk;omega)
end Go.Proofs.YtidjnnnigcmdpaaGreatDoor
