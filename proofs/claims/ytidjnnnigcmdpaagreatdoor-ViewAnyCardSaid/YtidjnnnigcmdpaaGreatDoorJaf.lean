/- A region that draws its order, whose operations only make memory: each operation on its own, by what it says of its value; any order. -/
import Derived.StillTail
import Derived.WalkKit
import Derived.Test.YtidjnnnigcmdpaaGreatDoorJad
set_option linter.unusedSimpArgs false
set_option linter.unusedVariables false
set_option linter.unnecessarySimpa false
namespace Go.Proofs.YtidjnnnigcmdpaaGreatDoor
theorem tk1.{u} {α:Type u} {n:Nat} {a:α} {l:List α}:(a::l).take (n+1)=a::l.take n:=List.take_succ_cons
theorem tk0.{u} {α:Type u} {l:List α}:l.take 0=[]:=List.take_zero
theorem dr1.{u} {α:Type u} {n:Nat} {a:α} {l:List α}:(a::l).drop (n+1)=l.drop n:=List.drop_succ_cons
theorem dr0.{u} {α:Type u} {l:List α}:l.drop 0=l:=List.drop_zero
theorem si1.{u} {α:Type u} (l:List α) (i:Nat) (a:α):l.toArray.setIfInBounds i a=(l.set i a).toArray:=List.setIfInBounds_toArray l i a
theorem st1.{u} {α:Type u} {a b:α} {l:List α} {n:Nat}:(a::l).set (n+1) b=a::l.set n b:=List.set_cons_succ
theorem st0.{u} {α:Type u} {a b:α} {l:List α}:(a::l).set 0 b=b::l:=List.set_cons_zero
open Go.RowKit
def actOf:List Oper→Nat→(Nat→Value)→Act→Act
 | [],_,_,a=>a
 | o::l,k,vs,a=>actOf l (k+1) vs (a.put o.dst (vs k))
def upd (vs:Nat→Value) (i:Nat) (v:Value):Nat→Value:=fun j=>if j=i then v else vs j
def noDst (d:Option Tmp):List Oper→Bool
 | []=>true
 | o::l=>(d.isNone||decide (o.dst≠d))&&noDst d l
def dstB:List Oper→Bool
 | []=>true
 | o::l=>noDst o.dst l&&dstB l
theorem kG:∀(l:List Oper) (k:Nat) (vs:Nat→Value) (i:Nat) (v:Value) (a:Act),i<k→actOf l k (upd vs i v) a=actOf l k vs a
 | [],_,_,_,_,_,_=>rfl
 | o::l,k,vs,i,v,a,h=>by
  rw [actOf,actOf,kG l (k+1) vs i v _ (by omega)]
  have:upd vs i v k=vs k:=by unfold upd;rw [if_neg (by omega)]
  rw [this]
theorem zas:∀(l:List Oper) (k:Nat) (vs:Nat→Value) (d:Option Tmp) (v:Value) (a:Act),noDst d l=true→(actOf l k vs a).put d v=actOf l k vs (a.put d v)
 | [],_,_,_,_,_,_=>rfl
 | o::l,k,vs,d,v,a,h=>by
  rw [noDst,Bool.and_eq_true]at h
  rw [actOf,actOf,zas l (k+1) vs d v _ h.2]
  congr 1
  cases d with
  | none=>rfl
  | some d =>
   have h1:o.dst≠some d:=by simpa using h.1
   exact Act.put_comm a (vs k) v (fun d' e e'=>h1 (by rw [e,e']))
theorem zj0 (a:Act) (d:Option Tmp) (u v:Value):(a.put d u).put d v=a.put d v:=by
 cases d with
 | none=>rfl
 | some d=>simp [Act.put]
theorem yu:∀(l:List Oper) (k i:Nat) (o:Oper) (vs:Nat→Value) (v:Value) (a:Act),dstB l=true→k≤i→l[i-k]?=some o→(actOf l k vs a).put o.dst v=actOf l k (upd vs i v) a
 | [],_,_,_,_,_,_,_,_,h=>by simp at h
 | o'::l,k,i,o,vs,v,a,hd,hk,h=>by
  rw [dstB,Bool.and_eq_true]at hd
  rw [actOf,actOf]
  by_cases hik:i=k
  ·subst hik
   rw [Nat.sub_self]at h
   obtain rfl:o'=o:=by simpa using h
   rw [zas l _ vs _ v _ hd.1,zj0,kG l _ vs i v _ (by omega)]
   have:upd vs i v i=v:=by unfold upd;rw [if_pos rfl]
   rw [this]
  ·have:upd vs i v k=vs k:=by unfold upd;rw [if_neg (by omega)]
   rw [this]
   exact yu l (k+1) i o vs v _ hd.2 (by omega) (by rw [show i-k=(i-(k+1))+1 by omega]at h;simpa using h)
theorem zj1 (a:Act) (d:Option Tmp):a.put d (match d with | some t=>a.tmps.getD t undef | none=>undef)=a:=by
 cases d with
 | none=>rfl
 | some t =>
  obtain⟨tmps,df⟩:=a
  simp only [Act.put]
  congr 1
  apply Array.ext
  ·simp
  ·intro j h1 h2
   by_cases hj:t=j
   ·subst hj;simp [h2]
   ·rw [Array.getElem_setIfInBounds,if_neg hj]
theorem xf:∀(l:List Oper) (k:Nat) (vs:Nat→Value) (a:Act),(∀ j o,l[j]?=some o→vs (k+j)=(match o.dst with | some t=>a.tmps.getD t undef | none=>undef))→actOf l k vs a=a
 | [],_,_,_,_=>rfl
 | o::l,k,vs,a,h=>by
  have h0:=h 0 o (by simp)
  rw [Nat.add_zero]at h0
  rw [actOf,h0,zj1]
  exact xf l (k+1) vs a (fun j o' hj=>by rw [show k+1+j=k+(j+1) by omega];exact h (j+1) o' (by simpa using hj))
theorem wp_to {P:Program} {o:Oper} {a:Act} {w:World} {K K':Act→World→Prop} {Q Q':Exit→Act→World→Prop} (hK:∀ a w,K a w→K' a w) (hQ:∀ c a w,¬Q' (.panic c) a w) (hL:¬LetsOut Q') (hh:o.wp P a w K Q'):o.wp P a w K' Q:=by
 unfold Oper.wp at *
 generalize (execOp a.eval o).run P w=r at *
 cases r with
 | ok n w' =>
  cases n<;>simp only [Oper.upon]at hh ⊢ <;>
   first
    | exact hK _ _ hh
    | exact Calls.mono hh (fun e w'' he=>by cases e<;>first | exact hK _ _ he | exact absurd he (hQ _ _ _) | exact absurd he hL)
    | exact Rows.mono hh (fun _ _ he=>hK _ _ he)
 | halt x w'=>cases x<;>simp only [Oper.upon]at hh ⊢<;>first | exact absurd hh (hQ _ _ _) | exact hh
def relQ (a:Act) (o:Oper) (w1:World) (R:Value→World→Prop):Exit→Act→World→Prop:=fun e a' w2=>e=.normal∧∃ v,a'=a.put o.dst v∧Grew w1 w2∧R v w2
theorem qz {a:Act} {o:Oper} {w1:World} {R:Value→World→Prop}:¬LetsOut (relQ a o w1 R):=fun⟨_,_,h,_⟩=>by cases h
def grounds (J:Nat→Value→World→Prop) (vs:Nat→Value) (w1:World):List Edge→Prop
 | []=>True
 | e::r=>(Region.binds .any e=true→J e.on (vs e.on) w1)∧grounds J vs w1 r
theorem yz {J:Nat→Value→World→Prop} {vs:Nat→Value} {w1:World}:∀ {l:List Edge},(∀ e∈l,Region.binds .any e=true→J e.on (vs e.on) w1)→grounds J vs w1 l
 | [],_=>trivial
 | e::r,h=>⟨h e List.mem_cons_self,yz fun e' he=>h e' (List.mem_cons_of_mem _ he)⟩
def RelOps (P:Program) (ops:Array Oper) (J:Nat→Value→World→Prop) (w:World) (A:(Nat→Value)→Act):Nat→List Oper→Prop
 | _,[]=>True
 | k,o::l=>(∀(vs:Nat→Value) (w1:World),Grew w w1→grounds J vs w1 o.after.toList→wpList P ops (relQ (A vs) o w1 (J k)) [o] (A vs) w1)∧RelOps P ops J w A (k+1) l
theorem RelOps.get {P:Program} {ops:Array Oper} {J:Nat→Value→World→Prop} {w:World} {A:(Nat→Value)→Act}:∀ {l:List Oper} {k i:Nat} {o:Oper},RelOps P ops J w A k l→l[i]?=some o →
 ∀(vs:Nat→Value) (w1:World),Grew w w1→grounds J vs w1 o.after.toList→wpList P ops (relQ (A vs) o w1 (J (k+i))) [o] (A vs) w1
 | [],_,_,_,_,h=>by simp at h
 | o'::l,k,0,o,H,h=>by
  obtain rfl:o'=o:=by simpa using h
  exact H.1
 | o'::l,k,i+1,o,H,h=>by
  have:=RelOps.get (i:=i) (o:=o) H.2 (by simpa using h)
  rwa [show k+1+i=k+(i+1) by omega]at this
def headAll (n m:Nat):Array Bool:=((List.range m).map fun i=>decide (i<n)).toArray
def relB (ops:Array Oper) (n:Nat):Bool :=
 decide (n<ops.size)&&dstB (ops.toList.take n)&&Region.sinkB .any ops n&&Region.chainB .any ops n&&Region.seqB .any ops (ops.size-n) n (headAll n ops.size)&&(List.range n).all (fun i=>(ops[i]?).all fun o=>o.after.all fun e=>!Region.binds .any e||decide (e.on<i))
theorem zy {P:Program} {id:Nat} {Q:Exit→Act→World→Prop} {a:Act} {w:World} {l:List Oper} (n:Nat) (J:Nat→Value→World→Prop) (hm:P.follows .mixedOrders=true) (hB:relB l.toArray n=true)
 (hJ:∀ i v w1 w2,J i v w1→Grew w1 w2→J i v w2)
 (hop:RelOps P l.toArray J w (fun vs=>actOf (l.take n) 0 vs a) 0 (l.take n))
 (hend:∀(vs:Nat→Value) (w1:World),Grew w w1→(∀ i,i<n→J i (vs i) w1)→wpList P l.toArray Q (l.drop n) (actOf (l.take n) 0 vs a) w1) :
 (Code.region id l.toArray true).wp P Q a w:=by
 simp only [relB,Bool.and_eq_true,decide_eq_true_eq]at hB
 obtain⟨⟨⟨⟨⟨hn,hd⟩,hs⟩,hc⟩,hq⟩,hord⟩:=hB
 have hn':n<l.length:=by simpa using hn
 refine wp_region_any hm ?_
 have key:∀(f:Nat) (listed:Array Bool) (vs:Nat→Value) (w1:World),HeadInv .any l.toArray n listed→Grew w w1→(∀ i,i<n→listed.getD i false=true→J i (vs i) w1) →
  ((List.range n).filter fun i=>!listed.getD i true).length=f→wpAny P .any l.toArray Q (f+(l.toArray.size-n)) listed (actOf (l.take n) 0 vs a) w1:=by
  intro f
  induction f with
  | zero =>
   intro listed vs w1 inv hg hJl hf
   have hall:∀ i,i<n→listed.getD i true=true:=by
    intro i hi
    have h0:=List.length_eq_zero_iff.1 hf
    cases hl:listed.getD i true with
    | true=>rfl
    | false =>
     have:i∈(List.range n).filter fun i=>!listed.getD i true:=List.mem_filter.2 ⟨List.mem_range.2 hi,by rw [hl];rfl⟩
     rw [h0]at this;cases this
   have hle:listed=headAll n l.toArray.size:=by
    apply Array.ext
    ·rw [inv.size];simp [headAll]
    ·intro j h1 h2
     have hj:j<l.toArray.size:=by rw [←inv.size];exact h1
     simp only [headAll,List.getElem_toArray,List.getElem_map,List.getElem_range]
     by_cases hjn:j<n
     ·have:=hall j hjn
      simp [h1]at this
      rw [this,decide_eq_true hjn]
     ·have:=inv.tail j (by omega) hj
      simp [h1]at this
      rw [this,decide_eq_false hjn]
   have hlen:(l.drop n).length=l.toArray.size-n:=by simp
   rw [hle,Nat.zero_add,←hlen]
   refine wpAny_of_seq (l.drop n) n _ _ _ (fun j=>by simp [List.getElem?_drop]) (by rw [hlen];exact hq) (hend vs w1 hg (fun i hi=>hJl i hi ?_))
   have h1:=hall i hi
   have h2:i<listed.size:=by rw [inv.size];simp;omega
   simp [h2]at h1 ⊢
   exact h1
  | succ f ih =>
   intro listed vs w1 inv hg hJl hf
   have hex:∃ i,i<n∧listed.getD i true=false:=by
    have hne:((List.range n).filter fun i=>!listed.getD i true)≠[]:=fun e=>by rw [e]at hf;simp at hf
    obtain⟨i,hi⟩:=List.exists_mem_of_ne_nil _ hne
    obtain⟨h1,h2⟩:=List.mem_filter.1 hi
    exact⟨i,List.mem_range.1 h1,by simpa using h2⟩
   have hsome:∃ i,i<n∧i∈Region.ready .any l.toArray listed:=by
    obtain⟨i,hi,hu⟩:=hex
    induction i using Nat.strongRecOn with
    | _ i ihi =>
     by_cases hr:∃ j,j<i∧listed.getD j true=false
     ·obtain⟨j,hj,hju⟩:=hr
      exact ihi j hj (by omega) hju
     ·refine⟨i,hi,mem_ready.2 ⟨hu,l[i]'(by omega),by simp [List.getElem?_eq_getElem (show i<l.length by omega)],fun e he hb=>?_⟩⟩
      have h1:=List.all_eq_true.1 hord i (List.mem_range.2 hi)
      have h2:l.toArray[i]?=some (l[i]'(by omega)):=by simp [List.getElem?_eq_getElem (show i<l.length by omega)]
      rw [h2]at h1
      have h3:e.on<i:=by
       have h4:=Array.all_eq_true_iff_forall_mem.1 (show(l[i]'(by omega)).after.all (fun e=>!Region.binds .any e||decide (e.on<i))=true from h1) e he
       rw [hb]at h4
       simpa using h4
      have h5:e.on<listed.size:=by rw [inv.size];simp;omega
      cases hl:listed.getD e.on false with
      | true=>rfl
      | false=>exact absurd ⟨e.on,h3,getD_in h5 hl⟩ hr
   obtain⟨i0,hi0,hr0⟩:=hsome
   rw [show f+1+(l.toArray.size-n)=(f+(l.toArray.size-n))+1 by omega]
   refine⟨fun h=>(by rw [h]at hr0;cases hr0),fun i hi=>?_⟩
   obtain⟨hun,o,ho,hall⟩:=mem_ready.1 hi
   have hin:i<n:=by
    rcases Nat.lt_or_ge i n with h | h
    ·exact h
    ·exact absurd hi (tail_waits hs hc hn inv _ i0 rfl hi0 ((mem_ready.1 hr0).1) i h)
   have hot:(l.take n)[i]?=some o:=by
    rw [List.getElem?_take_of_lt hin]
    simpa using ho
   have hthis:=RelOps.get hop hot vs w1 hg (yz fun e he hb=>by
    have h1:=hall e (Array.mem_toList_iff.1 he) hb
    have h2:=List.all_eq_true.1 hord i (List.mem_range.2 hin)
    rw [ho]at h2
    have h3:e.on<i:=by
     have h4:=Array.all_eq_true_iff_forall_mem.1 (show o.after.all (fun e=>!Region.binds .any e||decide (e.on<i))=true from h2) e (Array.mem_toList_iff.1 he)
     rw [hb]at h4
     simpa using h4
    exact hJl e.on (by omega) h1)
   rw [Nat.zero_add]at hthis
   have hnext:∀ a' w2,relQ (actOf (l.take n) 0 vs a) o w1 (J i) .normal a' w2→wpAny P .any l.toArray Q (f+(l.toArray.size-n)) (listed.setIfInBounds i true) a' w2:=by
    rintro a' w2 ⟨_,v,rfl,hg2,hj⟩
    rw [yu (l.take n) 0 i o vs v a (by simpa using hd) (by omega) (by simpa using hot)]
    refine ih _ _ w2 (inv.set hi hin) (hg.trans (hg2.mono hg.size)) (fun j hj1 hj2=>?_) ?_
    ·by_cases hji:j=i
     ·subst hji
      have:upd vs j v j=v:=by unfold upd;rw [if_pos rfl]
      rw [this];exact hj
     ·have:upd vs i v j=vs j:=by unfold upd;rw [if_neg hji]
      rw [this]
      rw [getD_set_ne false (Ne.symm hji)]at hj2
      exact hJ j _ _ _ (hJl j hj1 hj2) hg2
    ·have hsz:i<listed.size:=by rw [inv.size];simp;omega
     have hcount:∀(L:List Nat),L.Nodup→i∈L→(L.filter fun j=>!listed.getD j true).length=(L.filter fun j=>!(listed.setIfInBounds i true).getD j true).length+1:=by
      intro L
      induction L with
      | nil=>intro _ h;cases h
      | cons x L ihL =>
       intro hnd hmem
       obtain⟨hx,hnd'⟩:=List.nodup_cons.1 hnd
       by_cases hxi:x=i
       ·subst hxi
        have e1:(!(listed.getD x true))=true:=by rw [hun];rfl
        have e2:(!((listed.setIfInBounds x true).getD x true))=false:=by simp [hsz]
        rw [List.filter_cons,if_pos e1,List.filter_cons,if_neg (by rw [e2];simp),List.length_cons]
        congr 2
        apply List.filter_congr
        intro y hy
        have:y≠x:=fun e=>hx (e▸hy)
        rw [getD_set_ne true (Ne.symm this)]
       ·have hmem':i∈L:=by
         rcases List.mem_cons.1 hmem with h | h
         ·exact absurd h.symm hxi
         ·exact h
        have ihx:=ihL hnd' hmem'
        have e3:(listed.setIfInBounds i true).getD x true=listed.getD x true:=getD_set_ne true (Ne.symm hxi)
        rw [List.filter_cons,List.filter_cons,e3]
        split
        ·rw [List.length_cons,List.length_cons,ihx]
        ·exact ihx
     have:=hcount (List.range n) List.nodup_range (List.mem_range.2 hin)
     omega
   unfold wpOp
   simp only [ho]
   simp only [wpList]at hthis
   split at hthis
   ·rename_i hw
    rw [if_pos hw]
    rcases hthis with h | ⟨_,h⟩
    ·exact .inl (wp_to hnext (fun c a w h=>by cases h.1) qz h)
    ·exact absurd h qz
   ·rename_i hw
    rw [if_neg hw]
    exact hnext _ _ hthis
 have h0:=key n (Array.replicate l.toArray.size false) (fun j=>match (l.take n)[j]? with | some o=>(match o.dst with | some t=>a.tmps.getD t undef | none=>undef) | none=>undef) { w with drawn:=w.drawn+1 }
  ⟨by simp,fun j oj _ hl=>(by rw [getD_replicate_false]at hl;cases hl),fun t _ ht=>getD_in (by simpa using ht) (getD_replicate_false _ _)⟩
  ⟨rfl,rfl,rfl,Nat.le_refl _,fun _ _=>rfl⟩
  (fun i _ hl=>by rw [getD_replicate_false]at hl;cases hl)
  (by
    have:(List.range n).filter (fun i=>!(Array.replicate l.toArray.size false).getD i true)=List.range n:=by
     apply List.filter_eq_self.2
     intro i hi
     have hi':=List.mem_range.1 hi
     have:i<(Array.replicate l.toArray.size false).size:=by simp;omega
     rw [getD_in this (getD_replicate_false _ _)];rfl
    rw [this,List.length_range])
 rw [xf (l.take n) 0 _ a (fun j o hj=>by rw [Nat.zero_add,hj])]at h0
 rwa [show n+(l.toArray.size-n)=l.toArray.size by omega]at h0
end Go.Proofs.YtidjnnnigcmdpaaGreatDoor
namespace Go.Proofs.YtidjnnnigcmdpaaGreatDoor
open Go.RowKit
def updN (vs:Nat→Nat) (i:Nat) (v:Nat):Nat→Nat:=fun j=>if j=i then v else vs j
theorem zQ {vs:Nat→Nat} {i v:Nat}:updN vs i v i=v:=by unfold updN;rw [if_pos rfl]
theorem zI {vs:Nat→Nat} {i v j:Nat} (h:j≠i):updN vs i v j=vs j:=by unfold updN;rw [if_neg h]
def SpanOps (P:Program) (ops:Array Oper) (J:Nat→Value→World→Prop) (K:Nat→Nat→Nat→Value→World→Prop) (w:World) (A:(Nat→Value)→Act):Nat→List Oper→Prop
 | _,[]=>True
 | k,o::l=>(∀(vs:Nat→Value) (w1:World),Grew w w1→grounds J vs w1 o.after.toList→wpList P ops (relQ (A vs) o w1 (fun v w2=>J k v w2∧K k w1.heap.size w2.heap.size v w2)) [o] (A vs) w1)∧SpanOps P ops J K w A (k+1) l
theorem SpanOps.get {P:Program} {ops:Array Oper} {J:Nat→Value→World→Prop} {K:Nat→Nat→Nat→Value→World→Prop} {w:World} {A:(Nat→Value)→Act}:∀ {l:List Oper} {k i:Nat} {o:Oper},SpanOps P ops J K w A k l→l[i]?=some o →
 ∀(vs:Nat→Value) (w1:World),Grew w w1→grounds J vs w1 o.after.toList→wpList P ops (relQ (A vs) o w1 (fun v w2=>J (k+i) v w2∧K (k+i) w1.heap.size w2.heap.size v w2)) [o] (A vs) w1
 | [],_,_,_,_,h=>by simp at h
 | o'::l,k,0,o,H,h=>by
  obtain rfl:o'=o:=by simpa using h
  exact H.1
 | o'::l,k,i+1,o,H,h=>by
  have:=SpanOps.get (i:=i) (o:=o) H.2 (by simpa using h)
  rwa [show k+1+i=k+(i+1) by omega]at this
end Go.Proofs.YtidjnnnigcmdpaaGreatDoor
