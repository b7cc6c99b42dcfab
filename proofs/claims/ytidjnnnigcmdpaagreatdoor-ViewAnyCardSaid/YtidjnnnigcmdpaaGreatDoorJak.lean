/- Regions as in Rel, of which one operation turns what is there. -/
import Derived.Test.YtidjnnnigcmdpaaGreatDoorJaf
import Derived.Test.YtidjnnnigcmdpaaGreatDoorJai
set_option linter.unusedSimpArgs false
set_option linter.unusedVariables false
set_option linter.unnecessarySimpa false
namespace Go.Proofs.YtidjnnnigcmdpaaGreatDoor
open Go.RowKit
def relQ2 (a:Act) (o:Oper) (w1:World) (S:World→World→Prop) (R:Value→World→Prop):Exit→Act→World→Prop:=fun e a' w2=>e=.normal∧∃ v,a'=a.put o.dst v∧S w1 w2∧R v w2
theorem zZ {a:Act} {o:Oper} {w1:World} {S:World→World→Prop} {R:Value→World→Prop}:¬LetsOut (relQ2 a o w1 S R):=fun⟨_,_,h,_⟩=>by cases h
def RelOps2 (P:Program) (ops:Array Oper) (R:Nat→World→World→Prop) (I:Nat→World→Prop) (J:Nat→Value→World→Prop) (A:(Nat→Value)→Act):Nat→List Oper→Prop
 | _,[]=>True
 | k,o::l=>(∀(vs:Nat→Value) (w1:World),I k w1→grounds J vs w1 o.after.toList→wpList P ops (relQ2 (A vs) o w1 (R k) (J k)) [o] (A vs) w1)∧RelOps2 P ops R I J A (k+1) l
theorem RelOps2.get {P:Program} {ops:Array Oper} {R:Nat→World→World→Prop} {I:Nat→World→Prop} {J:Nat→Value→World→Prop} {A:(Nat→Value)→Act}:∀ {l:List Oper} {k i:Nat} {o:Oper},RelOps2 P ops R I J A k l→l[i]?=some o →
 ∀(vs:Nat→Value) (w1:World),I (k+i) w1→grounds J vs w1 o.after.toList→wpList P ops (relQ2 (A vs) o w1 (R (k+i)) (J (k+i))) [o] (A vs) w1
 | [],_,_,_,_,h=>by simp at h
 | o'::l,k,0,o,H,h=>by
  obtain rfl:o'=o:=by simpa using h
  exact H.1
 | o'::l,k,i+1,o,H,h=>by
  have:=RelOps2.get (i:=i) (o:=o) H.2 (by simpa using h)
  rwa [show k+1+i=k+(i+1) by omega]at this
theorem q6 {P:Program} {id:Nat} {Q:Exit→Act→World→Prop} {a:Act} {w:World} {l:List Oper} (n:Nat) (R:Nat→World→World→Prop) (I:Nat→World→Prop) (T:World→Prop) (J:Nat→Value→World→Prop)
 (hm:P.follows .mixedOrders=true) (hB:relB l.toArray n=true)
 (hI0:∀ i,I i w.drew) (hT0:T w.drew)
 (hI:∀ i k w1 w2,i≠k→T w1→I i w1→R k w1 w2→I i w2) (hT:∀ k w1 w2,T w1→R k w1 w2→T w2)
 (hJ:∀ i k v w1 w2,i≠k→T w1→J i v w1→R k w1 w2→J i v w2)
 (hop:RelOps2 P l.toArray R I J (fun vs=>actOf (l.take n) 0 vs a) 0 (l.take n))
 (hend:∀(vs:Nat→Value) (w1:World),T w1→(∀ i,i<n→J i (vs i) w1)→wpList P l.toArray Q (l.drop n) (actOf (l.take n) 0 vs a) w1) :
 (Code.region id l.toArray true).wp P Q a w:=by
 simp only [relB,Bool.and_eq_true,decide_eq_true_eq]at hB
 obtain⟨⟨⟨⟨⟨hn,hd⟩,hs⟩,hc⟩,hq⟩,hord⟩:=hB
 have hn':n<l.length:=by simpa using hn
 refine wp_region_any hm ?_
 have key:∀(f:Nat) (listed:Array Bool) (vs:Nat→Value) (w1:World),HeadInv .any l.toArray n listed→T w1→(∀ i,i<n→listed.getD i true=false→I i w1)→(∀ i,i<n→listed.getD i false=true→J i (vs i) w1) →
  ((List.range n).filter fun i=>!listed.getD i true).length=f→wpAny P .any l.toArray Q (f+(l.toArray.size-n)) listed (actOf (l.take n) 0 vs a) w1:=by
  intro f
  induction f with
  | zero =>
   intro listed vs w1 inv hg hIl hJl hf
   have hall:∀ i,i<n→listed.getD i true=true:=by
    intro i hi
    have h0:=List.length_eq_zero_iff.1 hf
    cases hl:listed.getD i true with
    | true=>rfl
    | false =>
     have:i∈(List.range n).filter fun i=>!listed.getD i true:=List.mem_filter.2 ⟨List.mem_range.2 hi,by rw [hl];rfl⟩
     rw [h0]at this;cases this
   have hle:listed=headAll n l.toArray.size:=by
    apply Array.ext
    ·rw [inv.size];simp [headAll]
    ·intro j h1 h2
     have hj:j<l.toArray.size:=by rw [←inv.size];exact h1
     simp only [headAll,List.getElem_toArray,List.getElem_map,List.getElem_range]
     by_cases hjn:j<n
     ·have:=hall j hjn
      simp [h1]at this
      rw [this,decide_eq_true hjn]
     ·have:=inv.tail j (by omega) hj
      simp [h1]at this
      rw [this,decide_eq_false hjn]
   have hlen:(l.drop n).length=l.toArray.size-n:=by simp
   rw [hle,Nat.zero_add,←hlen]
   refine wpAny_of_seq (l.drop n) n _ _ _ (fun j=>by simp [List.getElem?_drop]) (by rw [hlen];exact hq) (hend vs w1 hg (fun i hi=>hJl i hi ?_))
   have h1:=hall i hi
   have h2:i<listed.size:=by rw [inv.size];simp;omega
   simp [h2]at h1 ⊢
   exact h1
  | succ f ih =>
   intro listed vs w1 inv hg hIl hJl hf
   have hex:∃ i,i<n∧listed.getD i true=false:=by
    have hne:((List.range n).filter fun i=>!listed.getD i true)≠[]:=fun e=>by rw [e]at hf;simp at hf
    obtain⟨i,hi⟩:=List.exists_mem_of_ne_nil _ hne
    obtain⟨h1,h2⟩:=List.mem_filter.1 hi
    exact⟨i,List.mem_range.1 h1,by simpa using h2⟩
   have hsome:∃ i,i<n∧i∈Region.ready .any l.toArray listed:=by
    obtain⟨i,hi,hu⟩:=hex
    induction i using Nat.strongRecOn with
    | _ i ihi =>
     by_cases hr:∃ j,j<i∧listed.getD j true=false
     ·obtain⟨j,hj,hju⟩:=hr
      exact ihi j hj (by omega) hju
     ·refine⟨i,hi,mem_ready.2 ⟨hu,l[i]'(by omega),by simp [List.getElem?_eq_getElem (show i<l.length by omega)],fun e he hb=>?_⟩⟩
      have h1:=List.all_eq_true.1 hord i (List.mem_range.2 hi)
      have h2:l.toArray[i]?=some (l[i]'(by omega)):=by simp [List.getElem?_eq_getElem (show i<l.length by omega)]
      rw [h2]at h1
      have h3:e.on<i:=by
       have h4:=Array.all_eq_true_iff_forall_mem.1 (show(l[i]'(by omega)).after.all (fun e=>!Region.binds .any e||decide (e.on<i))=true from h1) e he
       rw [hb]at h4
       simpa using h4
      have h5:e.on<listed.size:=by rw [inv.size];simp;omega
      cases hl:listed.getD e.on false with
      | true=>rfl
      | false=>exact absurd ⟨e.on,h3,getD_in h5 hl⟩ hr
   obtain⟨i0,hi0,hr0⟩:=hsome
   rw [show f+1+(l.toArray.size-n)=(f+(l.toArray.size-n))+1 by omega]
   refine⟨fun h=>(by rw [h]at hr0;cases hr0),fun i hi=>?_⟩
   obtain⟨hun,o,ho,hall⟩:=mem_ready.1 hi
   have hin:i<n:=by
    rcases Nat.lt_or_ge i n with h | h
    ·exact h
    ·exact absurd hi (tail_waits hs hc hn inv _ i0 rfl hi0 ((mem_ready.1 hr0).1) i h)
   have hot:(l.take n)[i]?=some o:=by
    rw [List.getElem?_take_of_lt hin]
    simpa using ho
   have hthis:=RelOps2.get hop hot vs w1 (by rw [Nat.zero_add];exact hIl i hin hun) (yz fun e he hb=>by
    have h1:=hall e (Array.mem_toList_iff.1 he) hb
    have h2:=List.all_eq_true.1 hord i (List.mem_range.2 hin)
    rw [ho]at h2
    have h3:e.on<i:=by
     have h4:=Array.all_eq_true_iff_forall_mem.1 (show o.after.all (fun e=>!Region.binds .any e||decide (e.on<i))=true from h2) e (Array.mem_toList_iff.1 he)
     rw [hb]at h4
     simpa using h4
    exact hJl e.on (by omega) h1)
   rw [Nat.zero_add]at hthis
   have hnext:∀ a' w2,relQ2 (actOf (l.take n) 0 vs a) o w1 (R i) (J i) .normal a' w2→wpAny P .any l.toArray Q (f+(l.toArray.size-n)) (listed.setIfInBounds i true) a' w2:=by
    rintro a' w2 ⟨_,v,rfl,hg2,hj⟩
    rw [yu (l.take n) 0 i o vs v a (by simpa using hd) (by omega) (by simpa using hot)]
    refine ih _ _ w2 (inv.set hi hin) (hT i w1 w2 hg hg2) (fun j hj1 hj2=>?_) (fun j hj1 hj2=>?_) ?_
    ·by_cases hji:j=i
     ·subst hji
      have hsz:j<listed.size:=by rw [inv.size];simp;omega
      simp [hsz]at hj2
     ·rw [getD_set_ne true (Ne.symm hji)]at hj2
      exact hI j i w1 w2 hji hg (hIl j hj1 hj2) hg2
    ·by_cases hji:j=i
     ·subst hji
      have:upd vs j v j=v:=by unfold upd;rw [if_pos rfl]
      rw [this];exact hj
     ·have:upd vs i v j=vs j:=by unfold upd;rw [if_neg hji]
      rw [this]
      rw [getD_set_ne false (Ne.symm hji)]at hj2
      exact hJ j i _ w1 w2 hji hg (hJl j hj1 hj2) hg2
    ·have hsz:i<listed.size:=by rw [inv.size];simp;omega
     have hcount:∀(L:List Nat),L.Nodup→i∈L→(L.filter fun j=>!listed.getD j true).length=(L.filter fun j=>!(listed.setIfInBounds i true).getD j true).length+1:=by
      intro L
      induction L with
      | nil=>intro _ h;cases h
      | cons x L ihL =>
       intro hnd hmem
       obtain⟨hx,hnd'⟩:=List.nodup_cons.1 hnd
       by_cases hxi:x=i
       ·subst hxi
        have e1:(!(listed.getD x true))=true:=by rw [hun];rfl
        have e2:(!((listed.setIfInBounds x true).getD x true))=false:=by simp [hsz]
        rw [List.filter_cons,if_pos e1,List.filter_cons,if_neg (by rw [e2];simp),List.length_cons]
        congr 2
        apply List.filter_congr
        intro y hy
        have:y≠x:=fun e=>hx (e▸hy)
        rw [getD_set_ne true (Ne.symm this)]
       ·have hmem':i∈L:=by
         rcases List.mem_cons.1 hmem with h | h
         ·exact absurd h.symm hxi
         ·exact h
        have ihx:=ihL hnd' hmem'
        have e3:(listed.setIfInBounds i true).getD x true=listed.getD x true:=getD_set_ne true (Ne.symm hxi)
        rw [List.filter_cons,List.filter_cons,e3]
        split
        ·rw [List.length_cons,List.length_cons,ihx]
        ·exact ihx
     have:=hcount (List.range n) List.nodup_range (List.mem_range.2 hin)
     omega
   unfold wpOp
   simp only [ho]
   simp only [wpList]at hthis
   split at hthis
   ·rename_i hw
    rw [if_pos hw]
    rcases hthis with h | ⟨_,h⟩
    ·exact .inl (wp_to hnext (fun c a w h=>by cases h.1) zZ h)
    ·exact absurd h zZ
   ·rename_i hw
    rw [if_neg hw]
    exact hnext _ _ hthis
 have h0:=key n (Array.replicate l.toArray.size false) (fun j=>match (l.take n)[j]? with | some o=>(match o.dst with | some t=>a.tmps.getD t undef | none=>undef) | none=>undef) { w with drawn:=w.drawn+1 }
  ⟨by simp,fun j oj _ hl=>(by rw [getD_replicate_false]at hl;cases hl),fun t _ ht=>getD_in (by simpa using ht) (getD_replicate_false _ _)⟩
  hT0 (fun i _ _=>hI0 i)
  (fun i _ hl=>by rw [getD_replicate_false]at hl;cases hl)
  (by
    have:(List.range n).filter (fun i=>!(Array.replicate l.toArray.size false).getD i true)=List.range n:=by
     apply List.filter_eq_self.2
     intro i hi
     have hi':=List.mem_range.1 hi
     have:i<(Array.replicate l.toArray.size false).size:=by simp;omega
     rw [getD_in this (getD_replicate_false _ _)];rfl
    rw [this,List.length_range])
 rw [xf (l.take n) 0 _ a (fun j o hj=>by simp only [Nat.zero_add,hj];rfl)]at h0
 rwa [show n+(l.toArray.size-n)=l.toArray.size by omega]at h0
def stepR (S:Nat→Prop) (m k:Nat):World→World→Prop:=bif Nat.beq k m then Kp S else Grew
def preR (S:Nat→Prop) (m:Nat) (w:World) (k:Nat):World→Prop:=bif Nat.beq k m then Grew w else Kp S w
theorem yF {S:Nat→Prop} {m k:Nat} {a b:World} (h:stepR S m k a b):Kp S a b:=by
 unfold stepR at h
 cases hk:Nat.beq k m
 ·rw [hk]at h;exact zj h
 ·rw [hk]at h;exact h
theorem zbd {P:Program} {id:Nat} {Q:Exit→Act→World→Prop} {a:Act} {w:World} {l:List Oper} (n m:Nat) (S:Nat→Prop) (J:Nat→Value→World→Prop)
 (hm:P.follows .mixedOrders=true) (hB:relB l.toArray n=true)
 (hJ1:∀ i v w1 w2,J i v w1→Grew w1 w2→J i v w2)
 (hJ2:∀ i v w1 w2,i≠m→Kp S w w1→J i v w1→Kp S w1 w2→J i v w2)
 (hop:RelOps2 P l.toArray (stepR S m) (preR S m w) J (fun vs=>actOf (l.take n) 0 vs a) 0 (l.take n))
 (hend:∀(vs:Nat→Value) (w1:World),Kp S w w1→(∀ i,i<n→J i (vs i) w1)→wpList P l.toArray Q (l.drop n) (actOf (l.take n) 0 vs a) w1) :
 (Code.region id l.toArray true).wp P Q a w:=by
 refine q6 n (stepR S m) (preR S m w) (Kp S w) J hm hB ?_ (xG (zJ S w)) ?_ (fun k w1 w2 h hr=>zB h (yF hr)) ?_ hop hend
 ·intro i
  unfold preR
  cases Nat.beq i m
  ·exact xG (zJ S w)
  ·exact⟨rfl,rfl,rfl,Nat.le_refl _,fun _ _=>rfl⟩
 ·intro i k w1 w2 hik hT h hr
  unfold preR at h ⊢
  cases hi:Nat.beq i m
  ·rw [hi]at h
   exact zB h (yF hr)
  ·rw [hi]at h
   have hk:Nat.beq k m=false:=by
    cases hk:Nat.beq k m
    ·rfl
    ·exact absurd ((Nat.eq_of_beq_eq_true hi).trans (Nat.eq_of_beq_eq_true hk).symm) hik
   unfold stepR at hr
   rw [hk]at hr
   exact ze h hr
 ·intro i k v w1 w2 hik hT h hr
  unfold stepR at hr
  cases hk:Nat.beq k m
  ·rw [hk]at hr
   exact hJ1 i v w1 w2 h hr
  ·rw [hk]at hr
   have:=Nat.eq_of_beq_eq_true hk
   subst this
   exact hJ2 i v w1 w2 hik hT h hr
def SpanOps2 (P:Program) (ops:Array Oper) (R:Nat→World→World→Prop) (I:Nat→World→Prop) (J:Nat→Value→World→Prop) (K:Nat→Nat→Nat→Value→World→Prop) (via:Nat→Nat) (A:(Nat→Value)→Act):Nat→List Oper→Prop
 | _,[]=>True
 | k,o::l=>(∀(vs:Nat→Value) (lo hi:Nat→Nat) (w1:World),I k w1→grounds J vs w1 o.after.toList→(Nat.beq (via k) k=false→K (via k) (lo (via k)) (hi (via k)) (vs (via k)) w1)→wpList P ops (relQ2 (A vs) o w1 (R k) (fun v w2=>J k v w2∧K k (cond (Nat.beq (via k) k) w1.heap.size (lo (via k))) (cond (Nat.beq (via k) k) w2.heap.size (hi (via k))) v w2)) [o] (A vs) w1)∧SpanOps2 P ops R I J K via A (k+1) l
theorem SpanOps2.get {P:Program} {ops:Array Oper} {R:Nat→World→World→Prop} {I:Nat→World→Prop} {J:Nat→Value→World→Prop} {K:Nat→Nat→Nat→Value→World→Prop} {via:Nat→Nat} {A:(Nat→Value)→Act}:∀ {l:List Oper} {k i:Nat} {o:Oper},SpanOps2 P ops R I J K via A k l→l[i]?=some o →
 ∀(vs:Nat→Value) (lo hi:Nat→Nat) (w1:World),I (k+i) w1→grounds J vs w1 o.after.toList→(Nat.beq (via (k+i)) (k+i)=false→K (via (k+i)) (lo (via (k+i))) (hi (via (k+i))) (vs (via (k+i))) w1)→wpList P ops (relQ2 (A vs) o w1 (R (k+i)) (fun v w2=>J (k+i) v w2∧K (k+i) (cond (Nat.beq (via (k+i)) (k+i)) w1.heap.size (lo (via (k+i)))) (cond (Nat.beq (via (k+i)) (k+i)) w2.heap.size (hi (via (k+i)))) v w2)) [o] (A vs) w1
 | [],_,_,_,_,h=>by simp at h
 | o'::l,k,0,o,H,h=>by
  obtain rfl:o'=o:=by simpa using h
  exact H.1
 | o'::l,k,i+1,o,H,h=>by
  have:=SpanOps2.get (i:=i) (o:=o) H.2 (by simpa using h)
  rwa [show k+1+i=k+(i+1) by omega]at this
def viaB (l:List Oper) (via root:Nat→Nat) (n:Nat):Bool:=(List.range n).all fun k=>(Nat.beq (via k) k&&Nat.beq (root k) k)||(Nat.beq (root k) (root (via k))&&decide (via k<n)&&match l[k]? with | some o=>o.after.toList.any (fun e=>Nat.beq e.on (via k)&&Region.binds .any e) | none=>false)
theorem xU {P:Program} {id:Nat} {Q:Exit→Act→World→Prop} {a:Act} {w:World} {l:List Oper} (n:Nat) (R:Nat→World→World→Prop) (I:Nat→World→Prop) (T:World→Prop) (J:Nat→Value→World→Prop) (K:Nat→Nat→Nat→Value→World→Prop) (via root:Nat→Nat)
 (hm:P.follows .mixedOrders=true) (hB:relB l.toArray n=true) (hV:viaB l via root n=true)
 (hI0:∀ i,I i w.drew) (hT0:T w.drew) (hRs:∀ k w1 w2,R k w1 w2→w1.heap.size≤w2.heap.size)
 (hI:∀ i k w1 w2,i≠k→T w1→I i w1→R k w1 w2→I i w2) (hT:∀ k w1 w2,T w1→R k w1 w2→T w2)
 (hJ:∀ i k v w1 w2,i≠k→T w1→J i v w1→R k w1 w2→J i v w2)
 (hop:SpanOps2 P l.toArray R I J K via (fun vs=>actOf (l.take n) 0 vs a) 0 (l.take n))
 (hK:∀ i k lo hi v w1 w2,i≠k→T w1→K i lo hi v w1→R k w1 w2→K i lo hi v w2)
 (hend:∀(vs:Nat→Value) (lo hi:Nat→Nat) (w1:World),T w1→(∀ i,i<n→J i (vs i) w1)→(∀ i,i<n→K i (lo i) (hi i) (vs i) w1)→(∀ i,i<n→w.heap.size≤lo i∧lo i≤hi i∧hi i≤w1.heap.size)→(∀ i,i<n→∀ j,j<n→root i≠root j→hi i≤lo j∨hi j≤lo i)→wpList P l.toArray Q (l.drop n) (actOf (l.take n) 0 vs a) w1) :
 (Code.region id l.toArray true).wp P Q a w:=by
 simp only [relB,Bool.and_eq_true,decide_eq_true_eq]at hB
 obtain⟨⟨⟨⟨⟨hn,hd⟩,hs⟩,hc⟩,hq⟩,hord⟩:=hB
 have hn':n<l.length:=by simpa using hn
 refine wp_region_any hm ?_
 have key:∀(f:Nat) (listed:Array Bool) (vs:Nat→Value) (lo hi:Nat→Nat) (w1:World),HeadInv .any l.toArray n listed→(T w1∧w.heap.size≤w1.heap.size)→(∀ i,i<n→listed.getD i true=false→I i w1)→(∀ i,i<n→listed.getD i false=true→J i (vs i) w1) →
  (∀ i,i<n→listed.getD i false=true→K i (lo i) (hi i) (vs i) w1∧w.heap.size≤lo i∧lo i≤hi i∧hi i≤w1.heap.size)→(∀ i,i<n→listed.getD i false=true→∀ j,j<n→listed.getD j false=true→root i≠root j→hi i≤lo j∨hi j≤lo i) →
  ((List.range n).filter fun i=>!listed.getD i true).length=f→wpAny P .any l.toArray Q (f+(l.toArray.size-n)) listed (actOf (l.take n) 0 vs a) w1:=by
  intro f
  induction f with
  | zero =>
   intro listed vs lo hiF w1 inv hg hIl hJl hKl hDl hf
   have hall:∀ i,i<n→listed.getD i true=true:=by
    intro i hi
    have h0:=List.length_eq_zero_iff.1 hf
    cases hl:listed.getD i true with
    | true=>rfl
    | false =>
     have:i∈(List.range n).filter fun i=>!listed.getD i true:=List.mem_filter.2 ⟨List.mem_range.2 hi,by rw [hl];rfl⟩
     rw [h0]at this;cases this
   have hall0:=hall
   have hsz0:=inv.size
   obtain⟨listed0,hl0⟩:∃ q,q=listed:=⟨_,rfl⟩
   rw [←hl0]at hall0 hsz0
   have hle:listed=headAll n l.toArray.size:=by
    apply Array.ext
    ·rw [inv.size];simp [headAll]
    ·intro j h1 h2
     have hj:j<l.toArray.size:=by rw [←inv.size];exact h1
     simp only [headAll,List.getElem_toArray,List.getElem_map,List.getElem_range]
     by_cases hjn:j<n
     ·have:=hall j hjn
      simp [h1]at this
      rw [this,decide_eq_true hjn]
     ·have:=inv.tail j (by omega) hj
      simp [h1]at this
      rw [this,decide_eq_false hjn]
   have hls:∀ i,i<n→listed0.getD i false=true:=fun i hi=>by
    have h1:=hall0 i hi
    have h2:i<listed0.size:=by rw [hsz0];simp;omega
    simp [h2]at h1 ⊢
    exact h1
   rw [hl0]at hls
   have hlen:(l.drop n).length=l.toArray.size-n:=by simp
   rw [hle,Nat.zero_add,←hlen]
   refine wpAny_of_seq (l.drop n) n _ _ _ (fun j=>by simp [List.getElem?_drop]) (by rw [hlen];exact hq) (hend vs lo hiF w1 hg.1 (fun i hi=>hJl i hi (hls i hi)) (fun i hi=>(hKl i hi (hls i hi)).1) (fun i hi=>(hKl i hi (hls i hi)).2) (fun i hi j hj hij=>hDl i hi (hls i hi) j hj (hls j hj) hij))
  | succ f ih =>
   intro listed vs lo hiF w1 inv hg hIl hJl hKl hDl hf
   have hex:∃ i,i<n∧listed.getD i true=false:=by
    have hne:((List.range n).filter fun i=>!listed.getD i true)≠[]:=fun e=>by rw [e]at hf;simp at hf
    obtain⟨i,hi⟩:=List.exists_mem_of_ne_nil _ hne
    obtain⟨h1,h2⟩:=List.mem_filter.1 hi
    exact⟨i,List.mem_range.1 h1,by simpa using h2⟩
   have hsome:∃ i,i<n∧i∈Region.ready .any l.toArray listed:=by
    obtain⟨i,hi,hu⟩:=hex
    induction i using Nat.strongRecOn with
    | _ i ihi =>
     by_cases hr:∃ j,j<i∧listed.getD j true=false
     ·obtain⟨j,hj,hju⟩:=hr
      exact ihi j hj (by omega) hju
     ·refine⟨i,hi,mem_ready.2 ⟨hu,l[i]'(by omega),by simp [List.getElem?_eq_getElem (show i<l.length by omega)],fun e he hb=>?_⟩⟩
      have h1:=List.all_eq_true.1 hord i (List.mem_range.2 hi)
      have h2:l.toArray[i]?=some (l[i]'(by omega)):=by simp [List.getElem?_eq_getElem (show i<l.length by omega)]
      rw [h2]at h1
      have h3:e.on<i:=by
       have h4:=Array.all_eq_true_iff_forall_mem.1 (show(l[i]'(by omega)).after.all (fun e=>!Region.binds .any e||decide (e.on<i))=true from h1) e he
       rw [hb]at h4
       simpa using h4
      have h5:e.on<listed.size:=by rw [inv.size];simp;omega
      cases hl:listed.getD e.on false with
      | true=>rfl
      | false=>exact absurd ⟨e.on,h3,getD_in h5 hl⟩ hr
   obtain⟨i0,hi0,hr0⟩:=hsome
   rw [show f+1+(l.toArray.size-n)=(f+(l.toArray.size-n))+1 by omega]
   refine⟨fun h=>(by rw [h]at hr0;cases hr0),fun i hi=>?_⟩
   obtain⟨hun,o,ho,hall⟩:=mem_ready.1 hi
   have hin:i<n:=by
    rcases Nat.lt_or_ge i n with h | h
    ·exact h
    ·exact absurd hi (tail_waits hs hc hn inv _ i0 rfl hi0 ((mem_ready.1 hr0).1) i h)
   have hot:(l.take n)[i]?=some o:=by
    rw [List.getElem?_take_of_lt hin]
    simpa using ho
   have hvi:(Nat.beq (via i) i=true∧root i=i)∨(Nat.beq (via i) i=false∧root i=root (via i)∧via i<n∧listed.getD (via i) false=true):=by
    have h1:=List.all_eq_true.1 hV i (List.mem_range.2 hin)
    have ho':l[i]?=some o:=by simpa using ho
    rw [ho']at h1
    cases hb:Nat.beq (via i) i
    ·rw [hb]at h1
     simp only [Bool.false_and,Bool.false_or,Bool.and_eq_true,decide_eq_true_eq,List.any_eq_true]at h1
     obtain⟨⟨h2,h3⟩,e,he,h4,h5⟩:=h1
     refine .inr ⟨rfl,Nat.eq_of_beq_eq_true h2,h3,?_⟩
     have:=hall e (Array.mem_toList_iff.1 he) h5
     rwa [Nat.eq_of_beq_eq_true h4]at this
    ·rw [hb]at h1
     rcases(Bool.or_eq_true _ _).mp h1 with h2 | h2
     ·simp only [Bool.true_and]at h2
      exact .inl ⟨rfl,Nat.eq_of_beq_eq_true h2⟩
     ·simp only [Bool.and_eq_true]at h2
      have h3:=Nat.eq_of_beq_eq_true hb
      simp only [decide_eq_true_eq]at h2
      exfalso
      obtain⟨⟨h4,h5⟩,h6⟩:=h2
      obtain⟨e,he,h7⟩:=List.any_eq_true.1 h6
      simp only [Bool.and_eq_true]at h7
      have h8:=hall e (Array.mem_toList_iff.1 he) h7.2
      rw [Nat.eq_of_beq_eq_true h7.1,h3]at h8
      have h9:i<listed.size:=by rw [inv.size];simp;omega
      simp [h9]at hun h8
      rw [hun]at h8;cases h8
   have hthis:=SpanOps2.get hop hot vs lo hiF w1 (by rw [Nat.zero_add];exact hIl i hin hun) (yz fun e he hb=>by
    have h1:=hall e (Array.mem_toList_iff.1 he) hb
    have h2:=List.all_eq_true.1 hord i (List.mem_range.2 hin)
    rw [ho]at h2
    have h3:e.on<i:=by
     have h4:=Array.all_eq_true_iff_forall_mem.1 (show o.after.all (fun e=>!Region.binds .any e||decide (e.on<i))=true from h2) e (Array.mem_toList_iff.1 he)
     rw [hb]at h4
     simpa using h4
    exact hJl e.on (by omega) h1) (by
    rw [Nat.zero_add]
    intro hb
    rcases hvi with ⟨h1,_⟩ | ⟨_,_,h2,h3⟩
    ·rw [h1]at hb;cases hb
    ·exact(hKl (via i) h2 h3).1)
   rw [Nat.zero_add]at hthis
   have hnext:∀ a' w2,relQ2 (actOf (l.take n) 0 vs a) o w1 (R i) (fun v w2=>J i v w2∧K i (cond (Nat.beq (via i) i) w1.heap.size (lo (via i))) (cond (Nat.beq (via i) i) w2.heap.size (hiF (via i))) v w2) .normal a' w2→wpAny P .any l.toArray Q (f+(l.toArray.size-n)) (listed.setIfInBounds i true) a' w2:=by
    rintro a' w2 ⟨_,v,rfl,hg2,hj,hk⟩
    rw [yu (l.take n) 0 i o vs v a (by simpa using hd) (by omega) (by simpa using hot)]
    have hnl:∀ j,listed.getD j false=true→j≠i:=fun j h e=>by
     subst e
     have h2:j<listed.size:=by rw [inv.size];simp;omega
     simp [h2]at hun h
     rw [hun]at h;cases h
    have hset:∀ j,j≠i→(listed.setIfInBounds i true).getD j false=true→listed.getD j false=true:=fun j hj h=>by rwa [getD_set_ne false (Ne.symm hj)]at h
    refine ih _ _ (updN lo i (cond (Nat.beq (via i) i) w1.heap.size (lo (via i)))) (updN hiF i (cond (Nat.beq (via i) i) w2.heap.size (hiF (via i)))) w2 (inv.set hi hin) ⟨hT i w1 w2 hg.1 hg2,Nat.le_trans hg.2 (hRs i _ _ hg2)⟩ (fun j hj1 hj2=>?_) (fun j hj1 hj2=>?_) (fun j hj1 hj2=>?_) (fun j hj1 hj2 j' hj1' hj2' hne=>?_) ?_
    ·by_cases hji:j=i
     ·subst hji
      have hsz:j<listed.size:=by rw [inv.size];simp;omega
      simp [hsz]at hj2
     ·rw [getD_set_ne true (Ne.symm hji)]at hj2
      exact hI j i w1 w2 hji hg.1 (hIl j hj1 hj2) hg2
    ·by_cases hji:j=i
     ·subst hji
      have:upd vs j v j=v:=by unfold upd;rw [if_pos rfl]
      rw [this];exact hj
     ·have:upd vs i v j=vs j:=by unfold upd;rw [if_neg hji]
      rw [this]
      rw [getD_set_ne false (Ne.symm hji)]at hj2
      exact hJ j i _ w1 w2 hji hg.1 (hJl j hj1 hj2) hg2
    ·by_cases hji:j=i
     ·subst hji
      have e1:upd vs j v j=v:=by unfold upd;rw [if_pos rfl]
      rw [e1,zQ,zQ]
      rcases hvi with ⟨h1,_⟩ | ⟨h1,_,h2,h3⟩
      ·rw [h1]at hk ⊢
       exact⟨hk,hg.2,hRs j _ _ hg2,Nat.le_refl _⟩
      ·rw [h1]at hk ⊢
       have h4:=(hKl (via j) h2 h3).2
       exact⟨hk,h4.1,h4.2.1,Nat.le_trans h4.2.2 (hRs j _ _ hg2)⟩
     ·have e1:upd vs i v j=vs j:=by unfold upd;rw [if_neg hji]
      rw [e1,zI hji,zI hji]
      have h1:=hKl j hj1 (hset j hji hj2)
      exact⟨hK j i _ _ _ w1 w2 hji hg.1 h1.1 hg2,h1.2.1,h1.2.2.1,Nat.le_trans h1.2.2.2 (hRs i _ _ hg2)⟩
    ·have hvl:∀ m,m<n→listed.getD m false=true→root m≠root i→cond (Nat.beq (via i) i) w2.heap.size (hiF (via i))≤lo m∨hiF m≤cond (Nat.beq (via i) i) w1.heap.size (lo (via i)):=fun m hm hml hne=>by
      rcases hvi with ⟨h1,_⟩ | ⟨h1,hr,h2,h3⟩
      ·rw [h1]
       exact .inr (hKl m hm hml).2.2.2
      ·rw [h1]
       exact hDl (via i) h2 h3 m hm hml (fun e=>hne (e.symm.trans hr.symm))
     by_cases hji:j=i
     ·have hji':j'≠i:=fun e=>hne (by rw [hji,e])
      rw [hji,zQ,zQ,zI hji',zI hji']
      exact hvl j' hj1' (hset j' hji' hj2') (fun e=>hne (by rw [hji,e]))
     ·by_cases hji':j'=i
      ·rw [hji',zQ,zQ,zI hji,zI hji]
       rcases hvl j hj1 (hset j hji hj2) (fun e=>hne (by rw [hji',e]))with h | h
       ·exact .inr h
       ·exact .inl h
      ·rw [zI hji,zI hji,zI hji',zI hji']
       exact hDl j hj1 (hset j hji hj2) j' hj1' (hset j' hji' hj2') hne
    ·have hsz:i<listed.size:=by rw [inv.size];simp;omega
     have hcount:∀(L:List Nat),L.Nodup→i∈L→(L.filter fun j=>!listed.getD j true).length=(L.filter fun j=>!(listed.setIfInBounds i true).getD j true).length+1:=by
      intro L
      induction L with
      | nil=>intro _ h;cases h
      | cons x L ihL =>
       intro hnd hmem
       obtain⟨hx,hnd'⟩:=List.nodup_cons.1 hnd
       by_cases hxi:x=i
       ·subst hxi
        have e1:(!(listed.getD x true))=true:=by rw [hun];rfl
        have e2:(!((listed.setIfInBounds x true).getD x true))=false:=by simp [hsz]
        rw [List.filter_cons,if_pos e1,List.filter_cons,if_neg (by rw [e2];simp),List.length_cons]
        congr 2
        apply List.filter_congr
        intro y hy
        have:y≠x:=fun e=>hx (e▸hy)
        rw [getD_set_ne true (Ne.symm this)]
       ·have hmem':i∈L:=by
         rcases List.mem_cons.1 hmem with h | h
         ·exact absurd h.symm hxi
         ·exact h
        have ihx:=ihL hnd' hmem'
        have e3:(listed.setIfInBounds i true).getD x true=listed.getD x true:=getD_set_ne true (Ne.symm hxi)
        rw [List.filter_cons,List.filter_cons,e3]
        split
        ·rw [List.length_cons,List.length_cons,ihx]
        ·exact ihx
     have:=hcount (List.range n) List.nodup_range (List.mem_range.2 hin)
     omega
   unfold wpOp
   simp only [ho]
   simp only [wpList]at hthis
   split at hthis
   ·rename_i hw
    rw [if_pos hw]
    rcases hthis with h | ⟨_,h⟩
    ·exact .inl (wp_to hnext (fun c a w h=>by cases h.1) zZ h)
    ·exact absurd h zZ
   ·rename_i hw
    rw [if_neg hw]
    exact hnext _ _ hthis
 have h0:=key n (Array.replicate l.toArray.size false) (fun j=>match (l.take n)[j]? with | some o=>(match o.dst with | some t=>a.tmps.getD t undef | none=>undef) | none=>undef) (fun _=>0) (fun _=>0) { w with drawn:=w.drawn+1 }
  ⟨by simp,fun j oj _ hl=>(by rw [getD_replicate_false]at hl;cases hl),fun t _ ht=>getD_in (by simpa using ht) (getD_replicate_false _ _)⟩
  ⟨hT0,Nat.le_refl _⟩ (fun i _ _=>hI0 i)
  (fun i _ hl=>by rw [getD_replicate_false]at hl;cases hl)
  (fun i _ hl=>by rw [getD_replicate_false]at hl;cases hl)
  (fun i _ hl=>by rw [getD_replicate_false]at hl;cases hl)
  (by
    have:(List.range n).filter (fun i=>!(Array.replicate l.toArray.size false).getD i true)=List.range n:=by
     apply List.filter_eq_self.2
     intro i hi
     have hi':=List.mem_range.1 hi
     have:i<(Array.replicate l.toArray.size false).size:=by simp;omega
     rw [getD_in this (getD_replicate_false _ _)];rfl
    rw [this,List.length_range])
 rw [xf (l.take n) 0 _ a (fun j o hj=>by rw [Nat.zero_add,hj];try rfl)]at h0
 rwa [show n+(l.toArray.size-n)=l.toArray.size by omega]at h0
theorem ju {P:Program} {id:Nat} {Q:Exit→Act→World→Prop} {a:Act} {w:World} {l:List Oper} (n m:Nat) (S:Nat→Prop) (J:Nat→Value→World→Prop) (K:Nat→Nat→Nat→Value→World→Prop) (via root:Nat→Nat)
 (hm:P.follows .mixedOrders=true) (hB:relB l.toArray n=true) (hV:viaB l via root n=true)
 (hJ1:∀ i v w1 w2,J i v w1→Grew w1 w2→J i v w2)
 (hJ2:∀ i v w1 w2,i≠m→Kp S w w1→J i v w1→Kp S w1 w2→J i v w2)
 (hop:SpanOps2 P l.toArray (stepR S m) (preR S m w) J K via (fun vs=>actOf (l.take n) 0 vs a) 0 (l.take n))
 (hK:∀ i lo hi v w1 w2,Kp S w w1→K i lo hi v w1→Kp S w1 w2→K i lo hi v w2)
 (hend:∀(vs:Nat→Value) (lo hi:Nat→Nat) (w1:World),Kp S w w1→(∀ i,i<n→J i (vs i) w1)→(∀ i,i<n→K i (lo i) (hi i) (vs i) w1)→(∀ i,i<n→w.heap.size≤lo i∧lo i≤hi i∧hi i≤w1.heap.size)→(∀ i,i<n→∀ j,j<n→root i≠root j→hi i≤lo j∨hi j≤lo i)→wpList P l.toArray Q (l.drop n) (actOf (l.take n) 0 vs a) w1) :
 (Code.region id l.toArray true).wp P Q a w:=by
 refine xU n (stepR S m) (preR S m w) (Kp S w) J K via root hm hB hV ?_ (xG (zJ S w)) (fun k w1 w2 hr=>(yF hr).size) ?_ (fun k w1 w2 h hr=>zB h (yF hr)) ?_ hop (fun i k lo hi v w1 w2 _ hT h hr=>hK i lo hi v w1 w2 hT h (yF hr)) hend
 ·intro i
  unfold preR
  cases Nat.beq i m
  ·exact xG (zJ S w)
  ·exact⟨rfl,rfl,rfl,Nat.le_refl _,fun _ _=>rfl⟩
 ·intro i k w1 w2 hik hT h hr
  unfold preR at h ⊢
  cases hi:Nat.beq i m
  ·rw [hi]at h
   exact zB h (yF hr)
  ·rw [hi]at h
   have hk:Nat.beq k m=false:=by
    cases hk:Nat.beq k m
    ·rfl
    ·exact absurd ((Nat.eq_of_beq_eq_true hi).trans (Nat.eq_of_beq_eq_true hk).symm) hik
   unfold stepR at hr
   rw [hk]at hr
   exact ze h hr
 ·intro i k v w1 w2 hik hT h hr
  unfold stepR at hr
  cases hk:Nat.beq k m
  ·rw [hk]at hr
   exact hJ1 i v w1 w2 h hr
  ·rw [hk]at hr
   have:=Nat.eq_of_beq_eq_true hk
   subst this
   exact hJ2 i v w1 w2 hik hT h hr
theorem qD {P:Program} {id:Nat} {Q:Exit→Act→World→Prop} {a:Act} {w:World} {l:List Oper} (n:Nat) (J:Nat→Value→World→Prop) (K:Nat→Nat→Nat→Value→World→Prop) (via root:Nat→Nat)
 (hm:P.follows .mixedOrders=true) (hB:relB l.toArray n=true) (hV:viaB l via root n=true)
 (hJ:∀ i v w1 w2,J i v w1→Grew w1 w2→J i v w2)
 (hop:SpanOps2 P l.toArray (fun _ w1 w2=>Grew w1 w2) (fun _ w1=>Grew w w1) J K via (fun vs=>actOf (l.take n) 0 vs a) 0 (l.take n))
 (hK:∀ i lo hi v w1 w2,K i lo hi v w1→Grew w1 w2→K i lo hi v w2)
 (hend:∀(vs:Nat→Value) (lo hi:Nat→Nat) (w1:World),Grew w w1→(∀ i,i<n→J i (vs i) w1)→(∀ i,i<n→K i (lo i) (hi i) (vs i) w1)→(∀ i,i<n→w.heap.size≤lo i∧lo i≤hi i∧hi i≤w1.heap.size)→(∀ i,i<n→∀ j,j<n→root i≠root j→hi i≤lo j∨hi j≤lo i)→wpList P l.toArray Q (l.drop n) (actOf (l.take n) 0 vs a) w1) :
 (Code.region id l.toArray true).wp P Q a w :=
 xU n (fun _ w1 w2=>Grew w1 w2) (fun _ w1=>Grew w w1) (fun w1=>Grew w w1) J K via root hm hB hV (fun _=>⟨rfl,rfl,rfl,Nat.le_refl _,fun _ _=>rfl⟩) ⟨rfl,rfl,rfl,Nat.le_refl _,fun _ _=>rfl⟩ (fun _ _ _ h=>h.size) (fun _ _ _ _ _ h _ h2=>ze h h2) (fun _ _ _ h h2=>ze h h2) (fun i _ v w1 w2 _ _ h h2=>hJ i v w1 w2 h h2) hop (fun i _ lo hi v w1 w2 _ _ h h2=>hK i lo hi v w1 w2 h h2) hend
def relF (a:Act) (o:Oper) (F:World→Prop):Exit→Act→World→Prop:=fun e a' w2=>e=.normal∧∃ v,a'=a.put o.dst v∧F w2
theorem xD {a:Act} {o:Oper} {F:World→Prop}:¬LetsOut (relF a o F):=fun⟨_,_,h,_⟩=>by cases h
def lateB (l:List Oper) (late:Nat→Bool) (s:Nat):Bool:=(List.range s).all fun k=>late k||match l[s]? with | some o=>o.after.toList.any (fun e=>Nat.beq e.on k&&Region.binds .any e) | none=>false
def LateOps (P:Program) (ops:Array Oper) (late:Nat→Bool) (J:Nat→Value→Prop) (A:(Nat→Value)→Act):Nat→List Oper→Prop
 | _,[]=>True
 | k,o::l=>(late k=true→∀(vs:Nat→Value) (w1:World),grounds (fun i v _=>J i v) vs w1 o.after.toList→wpList P ops (relQ2 (A vs) o w1 (fun w1 w2=>Grew w1 w2) (fun v _=>J k v)) [o] (A vs) w1)∧LateOps P ops late J A (k+1) l
theorem LateOps.get {P:Program} {ops:Array Oper} {late:Nat→Bool} {J:Nat→Value→Prop} {A:(Nat→Value)→Act}:∀ {l:List Oper} {k i:Nat} {o:Oper},LateOps P ops late J A k l→l[i]?=some o→late (k+i)=true →
 ∀(vs:Nat→Value) (w1:World),grounds (fun i v _=>J i v) vs w1 o.after.toList→wpList P ops (relQ2 (A vs) o w1 (fun w1 w2=>Grew w1 w2) (fun v _=>J (k+i) v)) [o] (A vs) w1
 | [],_,_,_,_,h,_=>by simp at h
 | o'::l,k,0,o,H,h,hl=>by
  obtain rfl:o'=o:=by simpa using h
  exact H.1 hl
 | o'::l,k,i+1,o,H,h,hl=>by
  have:=LateOps.get (i:=i) (o:=o) H.2 (by simpa using h) (by rwa [show k+1+i=k+(i+1) by omega])
  rwa [show k+1+i=k+(i+1) by omega]at this
theorem xV {P:Program} {id:Nat} {Q:Exit→Act→World→Prop} {a:Act} {w:World} {l:List Oper} (s n:Nat) (hsn:n=s+1) (R:Nat→World→World→Prop) (I:Nat→World→Prop) (T:World→Prop) (J:Nat→Value→Prop) (K:Nat→Nat→Nat→Value→World→Prop) (via root:Nat→Nat) (late:Nat→Bool) (dd:Nat) (F:Value→World→Prop)
 (hm:P.follows .mixedOrders=true) (hB:relB l.toArray n=true) (hV:viaB l via root s=true) (hL:lateB l late s=true) (hls0:late s=false) (hdd:late dd=false) (hds:dd<s) (hJs:∀ v,J s v)
 (hI0:∀ i,I i w.drew) (hT0:T w.drew) (hRs:∀ k w1 w2,R k w1 w2→w1.heap.size≤w2.heap.size)
 (hI:∀ i k w1 w2,i≠k→T w1→I i w1→R k w1 w2→I i w2) (hT:∀ k w1 w2,T w1→R k w1 w2→T w2)
 (hop:SpanOps2 P l.toArray R I (fun i v _=>J i v) K via (fun vs=>actOf (l.take n) 0 vs a) 0 (l.take s))
 (hlateops:LateOps P l.toArray late J (fun vs=>actOf (l.take n) 0 vs a) 0 (l.take n))
 (hK:∀ i k lo hi v w1 w2,i≠k→T w1→K i lo hi v w1→R k w1 w2→K i lo hi v w2)
 (hst:∀(vs:Nat→Value) (lo hi:Nat→Nat) (w1:World),T w1→(∀ i,i<s→late i=false→J i (vs i))→(∀ i,i<s→late i=false→K i (lo i) (hi i) (vs i) w1)→(∀ i,i<s→late i=false→w.heap.size≤lo i∧lo i≤hi i∧hi i≤w1.heap.size)→(∀ i,i<s→late i=false→∀ j,j<s→late j=false→root i≠root j→hi i≤lo j∨hi j≤lo i)→wpList P l.toArray (fun e a' w2=>e=.normal∧∃ v,a'=(actOf (l.take n) 0 vs a).put none v∧F (vs dd) w2) ((l.drop s).take 1) (actOf (l.take n) 0 vs a) w1)
 (hsd:∀ o,l[s]?=some o→o.dst=none)
 (hF:∀ v w1 w2,F v w1→Grew w1 w2→F v w2)
 (hend:∀(vs:Nat→Value) (w1:World),F (vs dd) w1→(∀ i,i<n→J i (vs i))→wpList P l.toArray Q (l.drop n) (actOf (l.take n) 0 vs a) w1) :
 (Code.region id l.toArray true).wp P Q a w:=by
 simp only [relB,Bool.and_eq_true,decide_eq_true_eq]at hB
 obtain⟨⟨⟨⟨⟨hn,hd⟩,hs⟩,hc⟩,hq⟩,hord⟩:=hB
 have hn':n<l.length:=by simpa using hn
 have hlate:∀ i o,late i=true→(l.take n)[i]?=some o→∀(vs:Nat→Value) (w1:World),grounds (fun i v _=>J i v) vs w1 o.after.toList→wpList P l.toArray (relQ2 (actOf (l.take n) 0 vs a) o w1 (fun w1 w2=>Grew w1 w2) (fun v _=>J i v)) [o] (actOf (l.take n) 0 vs a) w1:=fun i o h1 h2 vs w1 h3=>by
  have:=LateOps.get hlateops h2 (by rwa [Nat.zero_add]) vs w1 h3
  rwa [Nat.zero_add]at this
 refine wp_region_any hm ?_
 have key2:∀(f:Nat) (listed:Array Bool) (vs:Nat→Value) (w1:World),HeadInv .any l.toArray n listed→F (vs dd) w1→(∀ i,i<n→listed.getD i true=false→late i=true)→(∀ i,i<n→listed.getD i false=true→J i (vs i)) →
  ((List.range n).filter fun i=>!listed.getD i true).length=f→wpAny P .any l.toArray Q (f+(l.toArray.size-n)) listed (actOf (l.take n) 0 vs a) w1:=by
  intro f
  induction f with
  | zero =>
   intro listed vs w1 inv hg hIl hJl hf
   have hall:∀ i,i<n→listed.getD i true=true:=by
    intro i hi
    have h0:=List.length_eq_zero_iff.1 hf
    cases hl:listed.getD i true with
    | true=>rfl
    | false =>
     have:i∈(List.range n).filter fun i=>!listed.getD i true:=List.mem_filter.2 ⟨List.mem_range.2 hi,by rw [hl];rfl⟩
     rw [h0]at this;cases this
   have hle:listed=headAll n l.toArray.size:=by
    apply Array.ext
    ·rw [inv.size];simp [headAll]
    ·intro j h1 h2
     have hj:j<l.toArray.size:=by rw [←inv.size];exact h1
     simp only [headAll,List.getElem_toArray,List.getElem_map,List.getElem_range]
     by_cases hjn:j<n
     ·have:=hall j hjn
      simp [h1]at this
      rw [this,decide_eq_true hjn]
     ·have:=inv.tail j (by omega) hj
      simp [h1]at this
      rw [this,decide_eq_false hjn]
   have hlen:(l.drop n).length=l.toArray.size-n:=by simp
   rw [hle,Nat.zero_add,←hlen]
   refine wpAny_of_seq (l.drop n) n _ _ _ (fun j=>by simp [List.getElem?_drop]) (by rw [hlen];exact hq) (hend vs w1 hg (fun i hi=>hJl i hi ?_))
   have h1:=hall i hi
   have h2:i<listed.size:=by rw [inv.size];simp;omega
   simp [h2]at h1 ⊢
   exact h1
  | succ f ih =>
   intro listed vs w1 inv hg hIl hJl hf
   have hex:∃ i,i<n∧listed.getD i true=false:=by
    have hne:((List.range n).filter fun i=>!listed.getD i true)≠[]:=fun e=>by rw [e]at hf;simp at hf
    obtain⟨i,hi⟩:=List.exists_mem_of_ne_nil _ hne
    obtain⟨h1,h2⟩:=List.mem_filter.1 hi
    exact⟨i,List.mem_range.1 h1,by simpa using h2⟩
   have hsome:∃ i,i<n∧i∈Region.ready .any l.toArray listed:=by
    obtain⟨i,hi,hu⟩:=hex
    induction i using Nat.strongRecOn with
    | _ i ihi =>
     by_cases hr:∃ j,j<i∧listed.getD j true=false
     ·obtain⟨j,hj,hju⟩:=hr
      exact ihi j hj (by omega) hju
     ·refine⟨i,hi,mem_ready.2 ⟨hu,l[i]'(by omega),by simp [List.getElem?_eq_getElem (show i<l.length by omega)],fun e he hb=>?_⟩⟩
      have h1:=List.all_eq_true.1 hord i (List.mem_range.2 hi)
      have h2:l.toArray[i]?=some (l[i]'(by omega)):=by simp [List.getElem?_eq_getElem (show i<l.length by omega)]
      rw [h2]at h1
      have h3:e.on<i:=by
       have h4:=Array.all_eq_true_iff_forall_mem.1 (show(l[i]'(by omega)).after.all (fun e=>!Region.binds .any e||decide (e.on<i))=true from h1) e he
       rw [hb]at h4
       simpa using h4
      have h5:e.on<listed.size:=by rw [inv.size];simp;omega
      cases hl:listed.getD e.on false with
      | true=>rfl
      | false=>exact absurd ⟨e.on,h3,getD_in h5 hl⟩ hr
   obtain⟨i0,hi0,hr0⟩:=hsome
   rw [show f+1+(l.toArray.size-n)=(f+(l.toArray.size-n))+1 by omega]
   refine⟨fun h=>(by rw [h]at hr0;cases hr0),fun i hi=>?_⟩
   obtain⟨hun,o,ho,hall⟩:=mem_ready.1 hi
   have hin:i<n:=by
    rcases Nat.lt_or_ge i n with h | h
    ·exact h
    ·exact absurd hi (tail_waits hs hc hn inv _ i0 rfl hi0 ((mem_ready.1 hr0).1) i h)
   have hot:(l.take n)[i]?=some o:=by
    rw [List.getElem?_take_of_lt hin]
    simpa using ho
   have hthis:=hlate i o (hIl i hin hun) hot vs w1 (yz fun e he hb=>by
    have h1:=hall e (Array.mem_toList_iff.1 he) hb
    have h2:=List.all_eq_true.1 hord i (List.mem_range.2 hin)
    rw [ho]at h2
    have h3:e.on<i:=by
     have h4:=Array.all_eq_true_iff_forall_mem.1 (show o.after.all (fun e=>!Region.binds .any e||decide (e.on<i))=true from h2) e (Array.mem_toList_iff.1 he)
     rw [hb]at h4
     simpa using h4
    exact hJl e.on (by omega) h1)
   have hnext:∀ a' w2,relQ2 (actOf (l.take n) 0 vs a) o w1 (fun w1 w2=>Grew w1 w2) (fun v _=>J i v) .normal a' w2→wpAny P .any l.toArray Q (f+(l.toArray.size-n)) (listed.setIfInBounds i true) a' w2:=by
    rintro a' w2 ⟨_,v,rfl,hg2,hj⟩
    rw [yu (l.take n) 0 i o vs v a (by simpa using hd) (by omega) (by simpa using hot)]
    refine ih _ _ w2 (inv.set hi hin) (by
     have hid:dd≠i:=fun e=>by have:=hIl i hin hun;rw [←e,hdd]at this;cases this
     have e1:upd vs i v dd=vs dd:=by unfold upd;rw [if_neg hid]
     rw [e1];exact hF _ w1 w2 hg hg2) (fun j hj1 hj2=>?_) (fun j hj1 hj2=>?_) ?_
    ·by_cases hji:j=i
     ·subst hji
      have hsz:j<listed.size:=by rw [inv.size];simp;omega
      simp [hsz]at hj2
     ·rw [getD_set_ne true (Ne.symm hji)]at hj2
      exact hIl j hj1 hj2
    ·by_cases hji:j=i
     ·subst hji
      have:upd vs j v j=v:=by unfold upd;rw [if_pos rfl]
      rw [this];exact hj
     ·have:upd vs i v j=vs j:=by unfold upd;rw [if_neg hji]
      rw [this]
      rw [getD_set_ne false (Ne.symm hji)]at hj2
      exact hJl j hj1 hj2
    ·have hsz:i<listed.size:=by rw [inv.size];simp;omega
     have hcount:∀(L:List Nat),L.Nodup→i∈L→(L.filter fun j=>!listed.getD j true).length=(L.filter fun j=>!(listed.setIfInBounds i true).getD j true).length+1:=by
      intro L
      induction L with
      | nil=>intro _ h;cases h
      | cons x L ihL =>
       intro hnd hmem
       obtain⟨hx,hnd'⟩:=List.nodup_cons.1 hnd
       by_cases hxi:x=i
       ·subst hxi
        have e1:(!(listed.getD x true))=true:=by rw [hun];rfl
        have e2:(!((listed.setIfInBounds x true).getD x true))=false:=by simp [hsz]
        rw [List.filter_cons,if_pos e1,List.filter_cons,if_neg (by rw [e2];simp),List.length_cons]
        congr 2
        apply List.filter_congr
        intro y hy
        have:y≠x:=fun e=>hx (e▸hy)
        rw [getD_set_ne true (Ne.symm this)]
       ·have hmem':i∈L:=by
         rcases List.mem_cons.1 hmem with h | h
         ·exact absurd h.symm hxi
         ·exact h
        have ihx:=ihL hnd' hmem'
        have e3:(listed.setIfInBounds i true).getD x true=listed.getD x true:=getD_set_ne true (Ne.symm hxi)
        rw [List.filter_cons,List.filter_cons,e3]
        split
        ·rw [List.length_cons,List.length_cons,ihx]
        ·exact ihx
     have:=hcount (List.range n) List.nodup_range (List.mem_range.2 hin)
     omega
   unfold wpOp
   simp only [ho]
   simp only [wpList]at hthis
   split at hthis
   ·rename_i hw
    rw [if_pos hw]
    rcases hthis with h | ⟨_,h⟩
    ·exact .inl (wp_to hnext (fun c a w h=>by cases h.1) zZ h)
    ·exact absurd h zZ
   ·rename_i hw
    rw [if_neg hw]
    exact hnext _ _ hthis
 have key:∀(f:Nat) (listed:Array Bool) (vs:Nat→Value) (lo hi:Nat→Nat) (w1:World),HeadInv .any l.toArray n listed→listed.getD s true=false→(T w1∧w.heap.size≤w1.heap.size)→(∀ i,i<n→listed.getD i true=false→I i w1)→(∀ i,i<n→listed.getD i false=true→J i (vs i)) →
  (∀ i,i<n→listed.getD i false=true→K i (lo i) (hi i) (vs i) w1∧w.heap.size≤lo i∧lo i≤hi i∧hi i≤w1.heap.size)→(∀ i,i<n→listed.getD i false=true→∀ j,j<n→listed.getD j false=true→root i≠root j→hi i≤lo j∨hi j≤lo i) →
  ((List.range n).filter fun i=>!listed.getD i true).length=f→wpAny P .any l.toArray Q (f+(l.toArray.size-n)) listed (actOf (l.take n) 0 vs a) w1:=by
  intro f
  induction f with
  | zero =>
   intro listed vs lo hiF w1 inv hsu hg hIl hJl hKl hDl hf
   have h0:=List.length_eq_zero_iff.1 hf
   have:s∈(List.range n).filter fun i=>!listed.getD i true:=List.mem_filter.2 ⟨List.mem_range.2 (by omega),by rw [hsu];rfl⟩
   rw [h0]at this;cases this
  | succ f ih =>
   intro listed vs lo hiF w1 inv hsu hg hIl hJl hKl hDl hf
   have hex:∃ i,i<n∧listed.getD i true=false:=by
    have hne:((List.range n).filter fun i=>!listed.getD i true)≠[]:=fun e=>by rw [e]at hf;simp at hf
    obtain⟨i,hi⟩:=List.exists_mem_of_ne_nil _ hne
    obtain⟨h1,h2⟩:=List.mem_filter.1 hi
    exact⟨i,List.mem_range.1 h1,by simpa using h2⟩
   have hsome:∃ i,i<n∧i∈Region.ready .any l.toArray listed:=by
    obtain⟨i,hi,hu⟩:=hex
    induction i using Nat.strongRecOn with
    | _ i ihi =>
     by_cases hr:∃ j,j<i∧listed.getD j true=false
     ·obtain⟨j,hj,hju⟩:=hr
      exact ihi j hj (by omega) hju
     ·refine⟨i,hi,mem_ready.2 ⟨hu,l[i]'(by omega),by simp [List.getElem?_eq_getElem (show i<l.length by omega)],fun e he hb=>?_⟩⟩
      have h1:=List.all_eq_true.1 hord i (List.mem_range.2 hi)
      have h2:l.toArray[i]?=some (l[i]'(by omega)):=by simp [List.getElem?_eq_getElem (show i<l.length by omega)]
      rw [h2]at h1
      have h3:e.on<i:=by
       have h4:=Array.all_eq_true_iff_forall_mem.1 (show(l[i]'(by omega)).after.all (fun e=>!Region.binds .any e||decide (e.on<i))=true from h1) e he
       rw [hb]at h4
       simpa using h4
      have h5:e.on<listed.size:=by rw [inv.size];simp;omega
      cases hl:listed.getD e.on false with
      | true=>rfl
      | false=>exact absurd ⟨e.on,h3,getD_in h5 hl⟩ hr
   obtain⟨i0,hi0,hr0⟩:=hsome
   rw [show f+1+(l.toArray.size-n)=(f+(l.toArray.size-n))+1 by omega]
   refine⟨fun h=>(by rw [h]at hr0;cases hr0),fun i hi=>?_⟩
   obtain⟨hun,o,ho,hall⟩:=mem_ready.1 hi
   have hin:i<n:=by
    rcases Nat.lt_or_ge i n with h | h
    ·exact h
    ·exact absurd hi (tail_waits hs hc hn inv _ i0 rfl hi0 ((mem_ready.1 hr0).1) i h)
   have hot:(l.take n)[i]?=some o:=by
    rw [List.getElem?_take_of_lt hin]
    simpa using ho
   have hcount:((List.range n).filter fun j=>!(listed.setIfInBounds i true).getD j true).length=f:=by
    have hsz:i<listed.size:=by rw [inv.size];simp;omega
    have hcount:∀(L:List Nat),L.Nodup→i∈L→(L.filter fun j=>!listed.getD j true).length=(L.filter fun j=>!(listed.setIfInBounds i true).getD j true).length+1:=by
     intro L
     induction L with
     | nil=>intro _ h;cases h
     | cons x L ihL =>
      intro hnd hmem
      obtain⟨hx,hnd'⟩:=List.nodup_cons.1 hnd
      by_cases hxi:x=i
      ·subst hxi
       have e1:(!(listed.getD x true))=true:=by rw [hun];rfl
       have e2:(!((listed.setIfInBounds x true).getD x true))=false:=by simp [hsz]
       rw [List.filter_cons,if_pos e1,List.filter_cons,if_neg (by rw [e2];simp),List.length_cons]
       congr 2
       apply List.filter_congr
       intro y hy
       have:y≠x:=fun e=>hx (e▸hy)
       rw [getD_set_ne true (Ne.symm this)]
      ·have hmem':i∈L:=by
        rcases List.mem_cons.1 hmem with h | h
        ·exact absurd h.symm hxi
        ·exact h
       have ihx:=ihL hnd' hmem'
       have e3:(listed.setIfInBounds i true).getD x true=listed.getD x true:=getD_set_ne true (Ne.symm hxi)
       rw [List.filter_cons,List.filter_cons,e3]
       split
       ·rw [List.length_cons,List.length_cons,ihx]
       ·exact ihx
    have:=hcount (List.range n) List.nodup_range (List.mem_range.2 hin)
    omega
   by_cases his:i=s
   ·have hwait:∀ k,k<s→late k=false→listed.getD k false=true:=fun k hk hkl=>by
     have h1:=List.all_eq_true.1 hL k (List.mem_range.2 hk)
     have ho':l[s]?=some o:=by rw [←his];simpa using ho
     rw [ho',hkl]at h1
     simp only [Bool.false_or,List.any_eq_true,Bool.and_eq_true]at h1
     obtain⟨e,he,h4,h5⟩:=h1
     have:=hall e (Array.mem_toList_iff.1 he) h5
     rwa [Nat.eq_of_beq_eq_true h4]at this
    have hthis:=hst vs lo hiF w1 hg.1 (fun k hk hkl=>hJl k (by omega) (hwait k hk hkl)) (fun k hk hkl=>(hKl k (by omega) (hwait k hk hkl)).1) (fun k hk hkl=>(hKl k (by omega) (hwait k hk hkl)).2) (fun k hk hkl k' hk' hkl' hne=>hDl k (by omega) (hwait k hk hkl) k' (by omega) (hwait k' hk' hkl') hne)
    have hls:(l.drop s).take 1=[o]:=by
     have ho':l[s]?=some o:=by rw [←his];simpa using ho
     have hsl:s<l.length:=by omega
     rw [List.getElem?_eq_getElem hsl]at ho'
     injection ho' with ho'
     rw [List.drop_eq_getElem_cons hsl,ho']
     rfl
    rw [hls]at hthis
    have hdn:o.dst=none:=hsd o (by rw [←his];simpa using ho)
    have hthis:wpList P l.toArray (relF (actOf (l.take n) 0 vs a) o (F (vs dd))) [o] (actOf (l.take n) 0 vs a) w1:=by
     unfold relF
     rw [hdn]
     exact hthis
    have hnl:∀ j,listed.getD j false=true→j≠i:=fun j h e=>by
     subst e
     have h2:j<listed.size:=by rw [inv.size];simp;omega
     simp [h2]at hun h
     rw [hun]at h;cases h
    have hnext:∀ a' w2,relF (actOf (l.take n) 0 vs a) o (F (vs dd)) .normal a' w2→wpAny P .any l.toArray Q (f+(l.toArray.size-n)) (listed.setIfInBounds i true) a' w2:=by
     rintro a' w2 ⟨_,v,rfl,hf2⟩
     rw [yu (l.take n) 0 i o vs v a (by simpa using hd) (by omega) (by simpa using hot)]
     have e1:upd vs i v dd=vs dd:=by unfold upd;rw [if_neg (by omega)]
     refine key2 f _ _ w2 (inv.set hi hin) (by rw [e1];exact hf2) (fun j hj1 hj2=>?_) (fun j hj1 hj2=>?_) hcount
     ·by_cases hji:j=i
      ·subst hji
       have hsz:j<listed.size:=by rw [inv.size];simp;omega
       simp [hsz]at hj2
      ·rw [getD_set_ne true (Ne.symm hji)]at hj2
       cases hlj:late j with
       | true=>rfl
       | false =>
        have h1:=hwait j (by omega) hlj
        have h2:j<listed.size:=by rw [inv.size];simp;omega
        simp [h2]at hj2 h1
        rw [hj2]at h1;cases h1
     ·by_cases hji:j=i
      ·rw [hji,his];exact hJs _
      ·have:upd vs i v j=vs j:=by unfold upd;rw [if_neg hji]
       rw [this]
       rw [getD_set_ne false (Ne.symm hji)]at hj2
       exact hJl j hj1 hj2
    unfold wpOp
    simp only [ho]
    simp only [wpList]at hthis
    split at hthis
    ·rename_i hw
     rw [if_pos hw]
     rcases hthis with h | ⟨_,h⟩
     ·exact .inl (wp_to hnext (fun c a w h=>by cases h.1) xD h)
     ·exact absurd h xD
    ·rename_i hw
     rw [if_neg hw]
     exact hnext _ _ hthis
   have hins:i<s:=by omega
   have hots:(l.take s)[i]?=some o:=by
    rw [List.getElem?_take_of_lt hins]
    simpa using ho
   have hvi:(Nat.beq (via i) i=true∧root i=i)∨(Nat.beq (via i) i=false∧root i=root (via i)∧via i<s∧listed.getD (via i) false=true):=by
    have h1:=List.all_eq_true.1 hV i (List.mem_range.2 hins)
    have ho':l[i]?=some o:=by simpa using ho
    rw [ho']at h1
    cases hb:Nat.beq (via i) i
    ·rw [hb]at h1
     simp only [Bool.false_and,Bool.false_or,Bool.and_eq_true,decide_eq_true_eq,List.any_eq_true]at h1
     obtain⟨⟨h2,h3⟩,e,he,h4,h5⟩:=h1
     refine .inr ⟨rfl,Nat.eq_of_beq_eq_true h2,h3,?_⟩
     have:=hall e (Array.mem_toList_iff.1 he) h5
     rwa [Nat.eq_of_beq_eq_true h4]at this
    ·rw [hb]at h1
     rcases(Bool.or_eq_true _ _).mp h1 with h2 | h2
     ·simp only [Bool.true_and]at h2
      exact .inl ⟨rfl,Nat.eq_of_beq_eq_true h2⟩
     ·simp only [Bool.and_eq_true]at h2
      have h3:=Nat.eq_of_beq_eq_true hb
      simp only [decide_eq_true_eq]at h2
      exfalso
      obtain⟨⟨h4,h5⟩,h6⟩:=h2
      obtain⟨e,he,h7⟩:=List.any_eq_true.1 h6
      simp only [Bool.and_eq_true]at h7
      have h8:=hall e (Array.mem_toList_iff.1 he) h7.2
      rw [Nat.eq_of_beq_eq_true h7.1,h3]at h8
      have h9:i<listed.size:=by rw [inv.size];simp;omega
      simp [h9]at hun h8
      rw [hun]at h8;cases h8
   have hthis:=SpanOps2.get hop hots vs lo hiF w1 (by rw [Nat.zero_add];exact hIl i hin hun) (yz fun e he hb=>by
    have h1:=hall e (Array.mem_toList_iff.1 he) hb
    have h2:=List.all_eq_true.1 hord i (List.mem_range.2 hin)
    rw [ho]at h2
    have h3:e.on<i:=by
     have h4:=Array.all_eq_true_iff_forall_mem.1 (show o.after.all (fun e=>!Region.binds .any e||decide (e.on<i))=true from h2) e (Array.mem_toList_iff.1 he)
     rw [hb]at h4
     simpa using h4
    exact hJl e.on (by omega) h1) (by
    rw [Nat.zero_add]
    intro hb
    rcases hvi with ⟨h1,_⟩ | ⟨_,_,h2,h3⟩
    ·rw [h1]at hb;cases hb
    ·exact(hKl (via i) (by omega) h3).1)
   rw [Nat.zero_add]at hthis
   have hnext:∀ a' w2,relQ2 (actOf (l.take n) 0 vs a) o w1 (R i) (fun v w2=>J i v∧K i (cond (Nat.beq (via i) i) w1.heap.size (lo (via i))) (cond (Nat.beq (via i) i) w2.heap.size (hiF (via i))) v w2) .normal a' w2→wpAny P .any l.toArray Q (f+(l.toArray.size-n)) (listed.setIfInBounds i true) a' w2:=by
    rintro a' w2 ⟨_,v,rfl,hg2,hj,hk⟩
    rw [yu (l.take n) 0 i o vs v a (by simpa using hd) (by omega) (by simpa using hot)]
    have hnl:∀ j,listed.getD j false=true→j≠i:=fun j h e=>by
     subst e
     have h2:j<listed.size:=by rw [inv.size];simp;omega
     simp [h2]at hun h
     rw [hun]at h;cases h
    have hset:∀ j,j≠i→(listed.setIfInBounds i true).getD j false=true→listed.getD j false=true:=fun j hj h=>by rwa [getD_set_ne false (Ne.symm hj)]at h
    refine ih _ _ (updN lo i (cond (Nat.beq (via i) i) w1.heap.size (lo (via i)))) (updN hiF i (cond (Nat.beq (via i) i) w2.heap.size (hiF (via i)))) w2 (inv.set hi hin) (by rw [getD_set_ne true his];exact hsu) ⟨hT i w1 w2 hg.1 hg2,Nat.le_trans hg.2 (hRs i _ _ hg2)⟩ (fun j hj1 hj2=>?_) (fun j hj1 hj2=>?_) (fun j hj1 hj2=>?_) (fun j hj1 hj2 j' hj1' hj2' hne=>?_) ?_
    ·by_cases hji:j=i
     ·subst hji
      have hsz:j<listed.size:=by rw [inv.size];simp;omega
      simp [hsz]at hj2
     ·rw [getD_set_ne true (Ne.symm hji)]at hj2
      exact hI j i w1 w2 hji hg.1 (hIl j hj1 hj2) hg2
    ·by_cases hji:j=i
     ·subst hji
      have:upd vs j v j=v:=by unfold upd;rw [if_pos rfl]
      rw [this];exact hj
     ·have:upd vs i v j=vs j:=by unfold upd;rw [if_neg hji]
      rw [this]
      rw [getD_set_ne false (Ne.symm hji)]at hj2
      exact hJl j hj1 hj2
    ·by_cases hji:j=i
     ·subst hji
      have e1:upd vs j v j=v:=by unfold upd;rw [if_pos rfl]
      rw [e1,zQ,zQ]
      rcases hvi with ⟨h1,_⟩ | ⟨h1,_,h2,h3⟩
      ·rw [h1]at hk ⊢
       exact⟨hk,hg.2,hRs j _ _ hg2,Nat.le_refl _⟩
      ·rw [h1]at hk ⊢
       have h4:=(hKl (via j) (by omega) h3).2
       exact⟨hk,h4.1,h4.2.1,Nat.le_trans h4.2.2 (hRs j _ _ hg2)⟩
     ·have e1:upd vs i v j=vs j:=by unfold upd;rw [if_neg hji]
      rw [e1,zI hji,zI hji]
      have h1:=hKl j hj1 (hset j hji hj2)
      exact⟨hK j i _ _ _ w1 w2 hji hg.1 h1.1 hg2,h1.2.1,h1.2.2.1,Nat.le_trans h1.2.2.2 (hRs i _ _ hg2)⟩
    ·have hvl:∀ m,m<n→listed.getD m false=true→root m≠root i→cond (Nat.beq (via i) i) w2.heap.size (hiF (via i))≤lo m∨hiF m≤cond (Nat.beq (via i) i) w1.heap.size (lo (via i)):=fun m hm hml hne=>by
      rcases hvi with ⟨h1,_⟩ | ⟨h1,hr,h2,h3⟩
      ·rw [h1]
       exact .inr (hKl m hm hml).2.2.2
      ·rw [h1]
       exact hDl (via i) (by omega) h3 m hm hml (fun e=>hne (e.symm.trans hr.symm))
     by_cases hji:j=i
     ·have hji':j'≠i:=fun e=>hne (by rw [hji,e])
      rw [hji,zQ,zQ,zI hji',zI hji']
      exact hvl j' hj1' (hset j' hji' hj2') (fun e=>hne (by rw [hji,e]))
     ·by_cases hji':j'=i
      ·rw [hji',zQ,zQ,zI hji,zI hji]
       rcases hvl j hj1 (hset j hji hj2) (fun e=>hne (by rw [hji',e]))with h | h
       ·exact .inr h
       ·exact .inl h
      ·rw [zI hji,zI hji,zI hji',zI hji']
       exact hDl j hj1 (hset j hji hj2) j' hj1' (hset j' hji' hj2') hne
    ·exact hcount
   unfold wpOp
   simp only [ho]
   simp only [wpList]at hthis
   split at hthis
   ·rename_i hw
    rw [if_pos hw]
    rcases hthis with h | ⟨_,h⟩
    ·exact .inl (wp_to hnext (fun c a w h=>by cases h.1) zZ h)
    ·exact absurd h zZ
   ·rename_i hw
    rw [if_neg hw]
    exact hnext _ _ hthis
 have h0:=key n (Array.replicate l.toArray.size false) (fun j=>match (l.take n)[j]? with | some o=>(match o.dst with | some t=>a.tmps.getD t undef | none=>undef) | none=>undef) (fun _=>0) (fun _=>0) { w with drawn:=w.drawn+1 }
  ⟨by simp,fun j oj _ hl=>(by rw [getD_replicate_false]at hl;cases hl),fun t _ ht=>getD_in (by simpa using ht) (getD_replicate_false _ _)⟩
  (by
    have hsz:s<(Array.replicate l.toArray.size false).size:=by simp;omega
    exact getD_in hsz (getD_replicate_false _ _)) ⟨hT0,Nat.le_refl _⟩ (fun i _ _=>hI0 i)
  (fun i _ hl=>by rw [getD_replicate_false]at hl;cases hl)
  (fun i _ hl=>by rw [getD_replicate_false]at hl;cases hl)
  (fun i _ hl=>by rw [getD_replicate_false]at hl;cases hl)
  (by
    have:(List.range n).filter (fun i=>!(Array.replicate l.toArray.size false).getD i true)=List.range n:=by
     apply List.filter_eq_self.2
     intro i hi
     have hi':=List.mem_range.1 hi
     have:i<(Array.replicate l.toArray.size false).size:=by simp;omega
     rw [getD_in this (getD_replicate_false _ _)];rfl
    rw [this,List.length_range])
 rw [xf (l.take n) 0 _ a (fun j o hj=>by rw [Nat.zero_add,hj];try rfl)]at h0
 rwa [show n+(l.toArray.size-n)=l.toArray.size by omega]at h0
theorem qE {P:Program} {id:Nat} {Q:Exit→Act→World→Prop} {a:Act} {w:World} {l:List Oper} (s n:Nat) (J:Nat→Value→Prop) (K:Nat→Nat→Nat→Value→World→Prop) (via root:Nat→Nat) (late:Nat→Bool) (dd:Nat) (F:Value→World→Prop)
 (hsn:n=s+1) (hm:P.follows .mixedOrders=true) (hB:relB l.toArray n=true) (hV:viaB l via root s=true) (hL:lateB l late s=true) (hls0:late s=false) (hdd:late dd=false) (hds:dd<s) (hJs:∀ v,J s v)
 (hop:SpanOps2 P l.toArray (fun _ w1 w2=>Grew w1 w2) (fun _ w1=>Grew w w1) (fun i v _=>J i v) K via (fun vs=>actOf (l.take n) 0 vs a) 0 (l.take s))
 (hlateops:LateOps P l.toArray late J (fun vs=>actOf (l.take n) 0 vs a) 0 (l.take n))
 (hK:∀ i lo hi v w1 w2,K i lo hi v w1→Grew w1 w2→K i lo hi v w2)
 (hst:∀(vs:Nat→Value) (lo hi:Nat→Nat) (w1:World),Grew w w1→(∀ i,i<s→late i=false→J i (vs i))→(∀ i,i<s→late i=false→K i (lo i) (hi i) (vs i) w1)→(∀ i,i<s→late i=false→w.heap.size≤lo i∧lo i≤hi i∧hi i≤w1.heap.size)→(∀ i,i<s→late i=false→∀ j,j<s→late j=false→root i≠root j→hi i≤lo j∨hi j≤lo i)→wpList P l.toArray (fun e a' w2=>e=.normal∧∃ v,a'=(actOf (l.take n) 0 vs a).put none v∧F (vs dd) w2) ((l.drop s).take 1) (actOf (l.take n) 0 vs a) w1)
 (hsd:∀ o,l[s]?=some o→o.dst=none)
 (hF:∀ v w1 w2,F v w1→Grew w1 w2→F v w2)
 (hend:∀(vs:Nat→Value) (w1:World),F (vs dd) w1→(∀ i,i<n→J i (vs i))→wpList P l.toArray Q (l.drop n) (actOf (l.take n) 0 vs a) w1) :
 (Code.region id l.toArray true).wp P Q a w :=
 xV s n hsn (fun _ w1 w2=>Grew w1 w2) (fun _ w1=>Grew w w1) (fun w1=>Grew w w1) J K via root late dd F hm hB hV hL hls0 hdd hds hJs (fun _=>⟨rfl,rfl,rfl,Nat.le_refl _,fun _ _=>rfl⟩) ⟨rfl,rfl,rfl,Nat.le_refl _,fun _ _=>rfl⟩ (fun _ _ _ h=>h.size) (fun _ _ _ _ _ h _ h2=>ze h h2) (fun _ _ _ h h2=>ze h h2) hop hlateops (fun i _ lo hi v w1 w2 _ _ h h2=>hK i lo hi v w1 w2 h h2) hst hsd hF hend
theorem yQ {P:Program} {id:Nat} {Q:Exit→Act→World→Prop} {a:Act} {w:World} {l:List Oper} (s n m:Nat) (S:Nat→Prop) (J:Nat→Value→Prop) (K:Nat→Nat→Nat→Value→World→Prop) (via root:Nat→Nat) (late:Nat→Bool) (dd:Nat) (F:Value→World→Prop)
 (hsn:n=s+1) (hm:P.follows .mixedOrders=true) (hB:relB l.toArray n=true) (hV:viaB l via root s=true) (hL:lateB l late s=true) (hls0:late s=false) (hdd:late dd=false) (hds:dd<s) (hJs:∀ v,J s v)
 (hop:SpanOps2 P l.toArray (stepR S m) (preR S m w) (fun i v _=>J i v) K via (fun vs=>actOf (l.take n) 0 vs a) 0 (l.take s))
 (hlateops:LateOps P l.toArray late J (fun vs=>actOf (l.take n) 0 vs a) 0 (l.take n))
 (hK1:∀ lo hi v w1 w2,K m lo hi v w1→Grew w1 w2→K m lo hi v w2)
 (hK2:∀ i lo hi v w1 w2,i≠m→Kp S w w1→K i lo hi v w1→Kp S w1 w2→K i lo hi v w2)
 (hst:∀(vs:Nat→Value) (lo hi:Nat→Nat) (w1:World),Kp S w w1→(∀ i,i<s→late i=false→J i (vs i))→(∀ i,i<s→late i=false→K i (lo i) (hi i) (vs i) w1)→(∀ i,i<s→late i=false→w.heap.size≤lo i∧lo i≤hi i∧hi i≤w1.heap.size)→(∀ i,i<s→late i=false→∀ j,j<s→late j=false→root i≠root j→hi i≤lo j∨hi j≤lo i)→wpList P l.toArray (fun e a' w2=>e=.normal∧∃ v,a'=(actOf (l.take n) 0 vs a).put none v∧F (vs dd) w2) ((l.drop s).take 1) (actOf (l.take n) 0 vs a) w1)
 (hsd:∀ o,l[s]?=some o→o.dst=none)
 (hF:∀ v w1 w2,F v w1→Grew w1 w2→F v w2)
 (hend:∀(vs:Nat→Value) (w1:World),F (vs dd) w1→(∀ i,i<n→J i (vs i))→wpList P l.toArray Q (l.drop n) (actOf (l.take n) 0 vs a) w1) :
 (Code.region id l.toArray true).wp P Q a w:=by
 refine xV s n hsn (stepR S m) (preR S m w) (Kp S w) J K via root late dd F hm hB hV hL hls0 hdd hds hJs ?_ (xG (zJ S w)) (fun k w1 w2 hr=>(yF hr).size) ?_ (fun k w1 w2 h hr=>zB h (yF hr)) hop hlateops (fun i k lo hi v w1 w2 hik hT h hr=>by
  by_cases him:i=m
  ·subst him
   unfold stepR at hr
   have hk:Nat.beq k i=false:=by
    cases hk:Nat.beq k i
    ·rfl
    ·exact absurd (Nat.eq_of_beq_eq_true hk).symm hik
   rw [hk]at hr
   exact hK1 lo hi v w1 w2 h hr
  ·exact hK2 i lo hi v w1 w2 him hT h (yF hr)) hst hsd hF hend
 ·intro i
  unfold preR
  cases Nat.beq i m
  ·exact xG (zJ S w)
  ·exact⟨rfl,rfl,rfl,Nat.le_refl _,fun _ _=>rfl⟩
 ·intro i k w1 w2 hik hT h hr
  unfold preR at h ⊢
  cases hi:Nat.beq i m
  ·rw [hi]at h
   exact zB h (yF hr)
  ·rw [hi]at h
   have hk:Nat.beq k m=false:=by
    cases hk:Nat.beq k m
    ·rfl
    ·exact absurd ((Nat.eq_of_beq_eq_true hi).trans (Nat.eq_of_beq_eq_true hk).symm) hik
   unfold stepR at hr
   rw [hk]at hr
   exact ze h hr
theorem jS {P:Program} {id:Nat} {Q:Exit→Act→World→Prop} {a:Act} {w:World} {l:List Oper} (s n:Nat) (hsn:n=s+1) (R:Nat→World→World→Prop) (I:Nat→World→Prop) (T:World→Prop) (J:Nat→Value→Prop) (Jw:Nat→Value→World→Prop) (K:Nat→Nat→Nat→Value→World→Prop) (via root:Nat→Nat) (late:Nat→Bool) (dd:Nat) (F:Value→World→Prop)
 (hm:P.follows .mixedOrders=true) (hB:relB l.toArray n=true) (hV:viaB l via root s=true) (hL:lateB l late s=true) (hls0:late s=false) (hdd:late dd=false) (hds:dd<s) (hJs:∀ v,J s v)
 (hI0:∀ i,I i w.drew) (hT0:T w.drew) (hRs:∀ k w1 w2,R k w1 w2→w1.heap.size≤w2.heap.size)
 (hI:∀ i k w1 w2,i≠k→T w1→I i w1→R k w1 w2→I i w2) (hT:∀ k w1 w2,T w1→R k w1 w2→T w2)
 (hJf:∀ i v w1,Jw i v w1→J i v) (hJw:∀ i k v w1 w2,i≠k→T w1→Jw i v w1→R k w1 w2→Jw i v w2)
 (hop:SpanOps2 P l.toArray R I Jw K via (fun vs=>actOf (l.take n) 0 vs a) 0 (l.take s))
 (hlateops:LateOps P l.toArray late J (fun vs=>actOf (l.take n) 0 vs a) 0 (l.take n))
 (hK:∀ i k lo hi v w1 w2,i≠k→T w1→K i lo hi v w1→R k w1 w2→K i lo hi v w2)
 (hst:∀(vs:Nat→Value) (lo hi:Nat→Nat) (w1:World),T w1→(∀ i,i<s→late i=false→Jw i (vs i) w1)→(∀ i,i<s→late i=false→K i (lo i) (hi i) (vs i) w1)→(∀ i,i<s→late i=false→w.heap.size≤lo i∧lo i≤hi i∧hi i≤w1.heap.size)→(∀ i,i<s→late i=false→∀ j,j<s→late j=false→root i≠root j→hi i≤lo j∨hi j≤lo i)→wpList P l.toArray (fun e a' w2=>e=.normal∧∃ v,a'=(actOf (l.take n) 0 vs a).put none v∧F (vs dd) w2) ((l.drop s).take 1) (actOf (l.take n) 0 vs a) w1)
 (hsd:∀ o,l[s]?=some o→o.dst=none)
 (hF:∀ v w1 w2,F v w1→Grew w1 w2→F v w2)
 (hend:∀(vs:Nat→Value) (w1:World),F (vs dd) w1→(∀ i,i<n→J i (vs i))→wpList P l.toArray Q (l.drop n) (actOf (l.take n) 0 vs a) w1) :
 (Code.region id l.toArray true).wp P Q a w:=by
 simp only [relB,Bool.and_eq_true,decide_eq_true_eq]at hB
 obtain⟨⟨⟨⟨⟨hn,hd⟩,hs⟩,hc⟩,hq⟩,hord⟩:=hB
 have hn':n<l.length:=by simpa using hn
 have hlate:∀ i o,late i=true→(l.take n)[i]?=some o→∀(vs:Nat→Value) (w1:World),grounds (fun i v _=>J i v) vs w1 o.after.toList→wpList P l.toArray (relQ2 (actOf (l.take n) 0 vs a) o w1 (fun w1 w2=>Grew w1 w2) (fun v _=>J i v)) [o] (actOf (l.take n) 0 vs a) w1:=fun i o h1 h2 vs w1 h3=>by
  have:=LateOps.get hlateops h2 (by rwa [Nat.zero_add]) vs w1 h3
  rwa [Nat.zero_add]at this
 refine wp_region_any hm ?_
 have key2:∀(f:Nat) (listed:Array Bool) (vs:Nat→Value) (w1:World),HeadInv .any l.toArray n listed→F (vs dd) w1→(∀ i,i<n→listed.getD i true=false→late i=true)→(∀ i,i<n→listed.getD i false=true→J i (vs i)) →
  ((List.range n).filter fun i=>!listed.getD i true).length=f→wpAny P .any l.toArray Q (f+(l.toArray.size-n)) listed (actOf (l.take n) 0 vs a) w1:=by
  intro f
  induction f with
  | zero =>
   intro listed vs w1 inv hg hIl hJl hf
   have hall:∀ i,i<n→listed.getD i true=true:=by
    intro i hi
    have h0:=List.length_eq_zero_iff.1 hf
    cases hl:listed.getD i true with
    | true=>rfl
    | false =>
     have:i∈(List.range n).filter fun i=>!listed.getD i true:=List.mem_filter.2 ⟨List.mem_range.2 hi,by rw [hl];rfl⟩
     rw [h0]at this;cases this
   have hle:listed=headAll n l.toArray.size:=by
    apply Array.ext
    ·rw [inv.size];simp [headAll]
    ·intro j h1 h2
     have hj:j<l.toArray.size:=by rw [←inv.size];exact h1
     simp only [headAll,List.getElem_toArray,List.getElem_map,List.getElem_range]
     by_cases hjn:j<n
     ·have:=hall j hjn
      simp [h1]at this
      rw [this,decide_eq_true hjn]
     ·have:=inv.tail j (by omega) hj
      simp [h1]at this
      rw [this,decide_eq_false hjn]
   have hlen:(l.drop n).length=l.toArray.size-n:=by simp
   rw [hle,Nat.zero_add,←hlen]
   refine wpAny_of_seq (l.drop n) n _ _ _ (fun j=>by simp [List.getElem?_drop]) (by rw [hlen];exact hq) (hend vs w1 hg (fun i hi=>hJl i hi ?_))
   have h1:=hall i hi
   have h2:i<listed.size:=by rw [inv.size];simp;omega
   simp [h2]at h1 ⊢
   exact h1
  | succ f ih =>
   intro listed vs w1 inv hg hIl hJl hf
   have hex:∃ i,i<n∧listed.getD i true=false:=by
    have hne:((List.range n).filter fun i=>!listed.getD i true)≠[]:=fun e=>by rw [e]at hf;simp at hf
    obtain⟨i,hi⟩:=List.exists_mem_of_ne_nil _ hne
    obtain⟨h1,h2⟩:=List.mem_filter.1 hi
    exact⟨i,List.mem_range.1 h1,by simpa using h2⟩
   have hsome:∃ i,i<n∧i∈Region.ready .any l.toArray listed:=by
    obtain⟨i,hi,hu⟩:=hex
    induction i using Nat.strongRecOn with
    | _ i ihi =>
     by_cases hr:∃ j,j<i∧listed.getD j true=false
     ·obtain⟨j,hj,hju⟩:=hr
      exact ihi j hj (by omega) hju
     ·refine⟨i,hi,mem_ready.2 ⟨hu,l[i]'(by omega),by simp [List.getElem?_eq_getElem (show i<l.length by omega)],fun e he hb=>?_⟩⟩
      have h1:=List.all_eq_true.1 hord i (List.mem_range.2 hi)
      have h2:l.toArray[i]?=some (l[i]'(by omega)):=by simp [List.getElem?_eq_getElem (show i<l.length by omega)]
      rw [h2]at h1
      have h3:e.on<i:=by
       have h4:=Array.all_eq_true_iff_forall_mem.1 (show(l[i]'(by omega)).after.all (fun e=>!Region.binds .any e||decide (e.on<i))=true from h1) e he
       rw [hb]at h4
       simpa using h4
      have h5:e.on<listed.size:=by rw [inv.size];simp;omega
      cases hl:listed.getD e.on false with
      | true=>rfl
      | false=>exact absurd ⟨e.on,h3,getD_in h5 hl⟩ hr
   obtain⟨i0,hi0,hr0⟩:=hsome
   rw [show f+1+(l.toArray.size-n)=(f+(l.toArray.size-n))+1 by omega]
   refine⟨fun h=>(by rw [h]at hr0;cases hr0),fun i hi=>?_⟩
   obtain⟨hun,o,ho,hall⟩:=mem_ready.1 hi
   have hin:i<n:=by
    rcases Nat.lt_or_ge i n with h | h
    ·exact h
    ·exact absurd hi (tail_waits hs hc hn inv _ i0 rfl hi0 ((mem_ready.1 hr0).1) i h)
   have hot:(l.take n)[i]?=some o:=by
    rw [List.getElem?_take_of_lt hin]
    simpa using ho
   have hthis:=hlate i o (hIl i hin hun) hot vs w1 (yz fun e he hb=>by
    have h1:=hall e (Array.mem_toList_iff.1 he) hb
    have h2:=List.all_eq_true.1 hord i (List.mem_range.2 hin)
    rw [ho]at h2
    have h3:e.on<i:=by
     have h4:=Array.all_eq_true_iff_forall_mem.1 (show o.after.all (fun e=>!Region.binds .any e||decide (e.on<i))=true from h2) e (Array.mem_toList_iff.1 he)
     rw [hb]at h4
     simpa using h4
    exact hJl e.on (by omega) h1)
   have hnext:∀ a' w2,relQ2 (actOf (l.take n) 0 vs a) o w1 (fun w1 w2=>Grew w1 w2) (fun v _=>J i v) .normal a' w2→wpAny P .any l.toArray Q (f+(l.toArray.size-n)) (listed.setIfInBounds i true) a' w2:=by
    rintro a' w2 ⟨_,v,rfl,hg2,hj⟩
    rw [yu (l.take n) 0 i o vs v a (by simpa using hd) (by omega) (by simpa using hot)]
    refine ih _ _ w2 (inv.set hi hin) (by
     have hid:dd≠i:=fun e=>by have:=hIl i hin hun;rw [←e,hdd]at this;cases this
     have e1:upd vs i v dd=vs dd:=by unfold upd;rw [if_neg hid]
     rw [e1];exact hF _ w1 w2 hg hg2) (fun j hj1 hj2=>?_) (fun j hj1 hj2=>?_) ?_
    ·by_cases hji:j=i
     ·subst hji
      have hsz:j<listed.size:=by rw [inv.size];simp;omega
      simp [hsz]at hj2
     ·rw [getD_set_ne true (Ne.symm hji)]at hj2
      exact hIl j hj1 hj2
    ·by_cases hji:j=i
     ·subst hji
      have:upd vs j v j=v:=by unfold upd;rw [if_pos rfl]
      rw [this];exact hj
     ·have:upd vs i v j=vs j:=by unfold upd;rw [if_neg hji]
      rw [this]
      rw [getD_set_ne false (Ne.symm hji)]at hj2
      exact hJl j hj1 hj2
    ·have hsz:i<listed.size:=by rw [inv.size];simp;omega
     have hcount:∀(L:List Nat),L.Nodup→i∈L→(L.filter fun j=>!listed.getD j true).length=(L.filter fun j=>!(listed.setIfInBounds i true).getD j true).length+1:=by
      intro L
      induction L with
      | nil=>intro _ h;cases h
      | cons x L ihL =>
       intro hnd hmem
       obtain⟨hx,hnd'⟩:=List.nodup_cons.1 hnd
       by_cases hxi:x=i
       ·subst hxi
        have e1:(!(listed.getD x true))=true:=by rw [hun];rfl
        have e2:(!((listed.setIfInBounds x true).getD x true))=false:=by simp [hsz]
        rw [List.filter_cons,if_pos e1,List.filter_cons,if_neg (by rw [e2];simp),List.length_cons]
        congr 2
        apply List.filter_congr
        intro y hy
        have:y≠x:=fun e=>hx (e▸hy)
        rw [getD_set_ne true (Ne.symm this)]
       ·have hmem':i∈L:=by
         rcases List.mem_cons.1 hmem with h | h
         ·exact absurd h.symm hxi
         ·exact h
        have ihx:=ihL hnd' hmem'
        have e3:(listed.setIfInBounds i true).getD x true=listed.getD x true:=getD_set_ne true (Ne.symm hxi)
        rw [List.filter_cons,List.filter_cons,e3]
        split
        ·rw [List.length_cons,List.length_cons,ihx]
        ·exact ihx
     have:=hcount (List.range n) List.nodup_range (List.mem_range.2 hin)
     omega
   unfold wpOp
   simp only [ho]
   simp only [wpList]at hthis
   split at hthis
   ·rename_i hw
    rw [if_pos hw]
    rcases hthis with h | ⟨_,h⟩
    ·exact .inl (wp_to hnext (fun c a w h=>by cases h.1) zZ h)
    ·exact absurd h zZ
   ·rename_i hw
    rw [if_neg hw]
    exact hnext _ _ hthis
 have key:∀(f:Nat) (listed:Array Bool) (vs:Nat→Value) (lo hi:Nat→Nat) (w1:World),HeadInv .any l.toArray n listed→listed.getD s true=false→(T w1∧w.heap.size≤w1.heap.size)→(∀ i,i<n→listed.getD i true=false→I i w1)→(∀ i,i<n→listed.getD i false=true→Jw i (vs i) w1) →
  (∀ i,i<n→listed.getD i false=true→K i (lo i) (hi i) (vs i) w1∧w.heap.size≤lo i∧lo i≤hi i∧hi i≤w1.heap.size)→(∀ i,i<n→listed.getD i false=true→∀ j,j<n→listed.getD j false=true→root i≠root j→hi i≤lo j∨hi j≤lo i) →
  ((List.range n).filter fun i=>!listed.getD i true).length=f→wpAny P .any l.toArray Q (f+(l.toArray.size-n)) listed (actOf (l.take n) 0 vs a) w1:=by
  intro f
  induction f with
  | zero =>
   intro listed vs lo hiF w1 inv hsu hg hIl hJl hKl hDl hf
   have h0:=List.length_eq_zero_iff.1 hf
   have:s∈(List.range n).filter fun i=>!listed.getD i true:=List.mem_filter.2 ⟨List.mem_range.2 (by omega),by rw [hsu];rfl⟩
   rw [h0]at this;cases this
  | succ f ih =>
   intro listed vs lo hiF w1 inv hsu hg hIl hJl hKl hDl hf
   have hex:∃ i,i<n∧listed.getD i true=false:=by
    have hne:((List.range n).filter fun i=>!listed.getD i true)≠[]:=fun e=>by rw [e]at hf;simp at hf
    obtain⟨i,hi⟩:=List.exists_mem_of_ne_nil _ hne
    obtain⟨h1,h2⟩:=List.mem_filter.1 hi
    exact⟨i,List.mem_range.1 h1,by simpa using h2⟩
   have hsome:∃ i,i<n∧i∈Region.ready .any l.toArray listed:=by
    obtain⟨i,hi,hu⟩:=hex
    induction i using Nat.strongRecOn with
    | _ i ihi =>
     by_cases hr:∃ j,j<i∧listed.getD j true=false
     ·obtain⟨j,hj,hju⟩:=hr
      exact ihi j hj (by omega) hju
     ·refine⟨i,hi,mem_ready.2 ⟨hu,l[i]'(by omega),by simp [List.getElem?_eq_getElem (show i<l.length by omega)],fun e he hb=>?_⟩⟩
      have h1:=List.all_eq_true.1 hord i (List.mem_range.2 hi)
      have h2:l.toArray[i]?=some (l[i]'(by omega)):=by simp [List.getElem?_eq_getElem (show i<l.length by omega)]
      rw [h2]at h1
      have h3:e.on<i:=by
       have h4:=Array.all_eq_true_iff_forall_mem.1 (show(l[i]'(by omega)).after.all (fun e=>!Region.binds .any e||decide (e.on<i))=true from h1) e he
       rw [hb]at h4
       simpa using h4
      have h5:e.on<listed.size:=by rw [inv.size];simp;omega
      cases hl:listed.getD e.on false with
      | true=>rfl
      | false=>exact absurd ⟨e.on,h3,getD_in h5 hl⟩ hr
   obtain⟨i0,hi0,hr0⟩:=hsome
   rw [show f+1+(l.toArray.size-n)=(f+(l.toArray.size-n))+1 by omega]
   refine⟨fun h=>(by rw [h]at hr0;cases hr0),fun i hi=>?_⟩
   obtain⟨hun,o,ho,hall⟩:=mem_ready.1 hi
   have hin:i<n:=by
    rcases Nat.lt_or_ge i n with h | h
    ·exact h
    ·exact absurd hi (tail_waits hs hc hn inv _ i0 rfl hi0 ((mem_ready.1 hr0).1) i h)
   have hot:(l.take n)[i]?=some o:=by
    rw [List.getElem?_take_of_lt hin]
    simpa using ho
   have hcount:((List.range n).filter fun j=>!(listed.setIfInBounds i true).getD j true).length=f:=by
    have hsz:i<listed.size:=by rw [inv.size];simp;omega
    have hcount:∀(L:List Nat),L.Nodup→i∈L→(L.filter fun j=>!listed.getD j true).length=(L.filter fun j=>!(listed.setIfInBounds i true).getD j true).length+1:=by
     intro L
     induction L with
     | nil=>intro _ h;cases h
     | cons x L ihL =>
      intro hnd hmem
      obtain⟨hx,hnd'⟩:=List.nodup_cons.1 hnd
      by_cases hxi:x=i
      ·subst hxi
       have e1:(!(listed.getD x true))=true:=by rw [hun];rfl
       have e2:(!((listed.setIfInBounds x true).getD x true))=false:=by simp [hsz]
       rw [List.filter_cons,if_pos e1,List.filter_cons,if_neg (by rw [e2];simp),List.length_cons]
       congr 2
       apply List.filter_congr
       intro y hy
       have:y≠x:=fun e=>hx (e▸hy)
       rw [getD_set_ne true (Ne.symm this)]
      ·have hmem':i∈L:=by
        rcases List.mem_cons.1 hmem with h | h
        ·exact absurd h.symm hxi
        ·exact h
       have ihx:=ihL hnd' hmem'
       have e3:(listed.setIfInBounds i true).getD x true=listed.getD x true:=getD_set_ne true (Ne.symm hxi)
       rw [List.filter_cons,List.filter_cons,e3]
       split
       ·rw [List.length_cons,List.length_cons,ihx]
       ·exact ihx
    have:=hcount (List.range n) List.nodup_range (List.mem_range.2 hin)
    omega
   by_cases his:i=s
   ·have hwait:∀ k,k<s→late k=false→listed.getD k false=true:=fun k hk hkl=>by
     have h1:=List.all_eq_true.1 hL k (List.mem_range.2 hk)
     have ho':l[s]?=some o:=by rw [←his];simpa using ho
     rw [ho',hkl]at h1
     simp only [Bool.false_or,List.any_eq_true,Bool.and_eq_true]at h1
     obtain⟨e,he,h4,h5⟩:=h1
     have:=hall e (Array.mem_toList_iff.1 he) h5
     rwa [Nat.eq_of_beq_eq_true h4]at this
    have hthis:=hst vs lo hiF w1 hg.1 (fun k hk hkl=>hJl k (by omega) (hwait k hk hkl)) (fun k hk hkl=>(hKl k (by omega) (hwait k hk hkl)).1) (fun k hk hkl=>(hKl k (by omega) (hwait k hk hkl)).2) (fun k hk hkl k' hk' hkl' hne=>hDl k (by omega) (hwait k hk hkl) k' (by omega) (hwait k' hk' hkl') hne)
    have hls:(l.drop s).take 1=[o]:=by
     have ho':l[s]?=some o:=by rw [←his];simpa using ho
     have hsl:s<l.length:=by omega
     rw [List.getElem?_eq_getElem hsl]at ho'
     injection ho' with ho'
     rw [List.drop_eq_getElem_cons hsl,ho']
     rfl
    rw [hls]at hthis
    have hdn:o.dst=none:=hsd o (by rw [←his];simpa using ho)
    have hthis:wpList P l.toArray (relF (actOf (l.take n) 0 vs a) o (F (vs dd))) [o] (actOf (l.take n) 0 vs a) w1:=by
     unfold relF
     rw [hdn]
     exact hthis
    have hnl:∀ j,listed.getD j false=true→j≠i:=fun j h e=>by
     subst e
     have h2:j<listed.size:=by rw [inv.size];simp;omega
     simp [h2]at hun h
     rw [hun]at h;cases h
    have hnext:∀ a' w2,relF (actOf (l.take n) 0 vs a) o (F (vs dd)) .normal a' w2→wpAny P .any l.toArray Q (f+(l.toArray.size-n)) (listed.setIfInBounds i true) a' w2:=by
     rintro a' w2 ⟨_,v,rfl,hf2⟩
     rw [yu (l.take n) 0 i o vs v a (by simpa using hd) (by omega) (by simpa using hot)]
     have e1:upd vs i v dd=vs dd:=by unfold upd;rw [if_neg (by omega)]
     refine key2 f _ _ w2 (inv.set hi hin) (by rw [e1];exact hf2) (fun j hj1 hj2=>?_) (fun j hj1 hj2=>?_) hcount
     ·by_cases hji:j=i
      ·subst hji
       have hsz:j<listed.size:=by rw [inv.size];simp;omega
       simp [hsz]at hj2
      ·rw [getD_set_ne true (Ne.symm hji)]at hj2
       cases hlj:late j with
       | true=>rfl
       | false =>
        have h1:=hwait j (by omega) hlj
        have h2:j<listed.size:=by rw [inv.size];simp;omega
        simp [h2]at hj2 h1
        rw [hj2]at h1;cases h1
     ·by_cases hji:j=i
      ·rw [hji,his];exact hJs _
      ·have:upd vs i v j=vs j:=by unfold upd;rw [if_neg hji]
       rw [this]
       rw [getD_set_ne false (Ne.symm hji)]at hj2
       exact hJf _ _ _ (hJl j hj1 hj2)
    unfold wpOp
    simp only [ho]
    simp only [wpList]at hthis
    split at hthis
    ·rename_i hw
     rw [if_pos hw]
     rcases hthis with h | ⟨_,h⟩
     ·exact .inl (wp_to hnext (fun c a w h=>by cases h.1) xD h)
     ·exact absurd h xD
    ·rename_i hw
     rw [if_neg hw]
     exact hnext _ _ hthis
   have hins:i<s:=by omega
   have hots:(l.take s)[i]?=some o:=by
    rw [List.getElem?_take_of_lt hins]
    simpa using ho
   have hvi:(Nat.beq (via i) i=true∧root i=i)∨(Nat.beq (via i) i=false∧root i=root (via i)∧via i<s∧listed.getD (via i) false=true):=by
    have h1:=List.all_eq_true.1 hV i (List.mem_range.2 hins)
    have ho':l[i]?=some o:=by simpa using ho
    rw [ho']at h1
    cases hb:Nat.beq (via i) i
    ·rw [hb]at h1
     simp only [Bool.false_and,Bool.false_or,Bool.and_eq_true,decide_eq_true_eq,List.any_eq_true]at h1
     obtain⟨⟨h2,h3⟩,e,he,h4,h5⟩:=h1
     refine .inr ⟨rfl,Nat.eq_of_beq_eq_true h2,h3,?_⟩
     have:=hall e (Array.mem_toList_iff.1 he) h5
     rwa [Nat.eq_of_beq_eq_true h4]at this
    ·rw [hb]at h1
     rcases(Bool.or_eq_true _ _).mp h1 with h2 | h2
     ·simp only [Bool.true_and]at h2
      exact .inl ⟨rfl,Nat.eq_of_beq_eq_true h2⟩
     ·simp only [Bool.and_eq_true]at h2
      have h3:=Nat.eq_of_beq_eq_true hb
      simp only [decide_eq_true_eq]at h2
      exfalso
      obtain⟨⟨h4,h5⟩,h6⟩:=h2
      obtain⟨e,he,h7⟩:=List.any_eq_true.1 h6
      simp only [Bool.and_eq_true]at h7
      have h8:=hall e (Array.mem_toList_iff.1 he) h7.2
      rw [Nat.eq_of_beq_eq_true h7.1,h3]at h8
      have h9:i<listed.size:=by rw [inv.size];simp;omega
      simp [h9]at hun h8
      rw [hun]at h8;cases h8
   have hthis:=SpanOps2.get hop hots vs lo hiF w1 (by rw [Nat.zero_add];exact hIl i hin hun) (yz fun e he hb=>by
    have h1:=hall e (Array.mem_toList_iff.1 he) hb
    have h2:=List.all_eq_true.1 hord i (List.mem_range.2 hin)
    rw [ho]at h2
    have h3:e.on<i:=by
     have h4:=Array.all_eq_true_iff_forall_mem.1 (show o.after.all (fun e=>!Region.binds .any e||decide (e.on<i))=true from h2) e (Array.mem_toList_iff.1 he)
     rw [hb]at h4
     simpa using h4
    exact hJl e.on (by omega) h1) (by
    rw [Nat.zero_add]
    intro hb
    rcases hvi with ⟨h1,_⟩ | ⟨_,_,h2,h3⟩
    ·rw [h1]at hb;cases hb
    ·exact(hKl (via i) (by omega) h3).1)
   rw [Nat.zero_add]at hthis
   have hnext:∀ a' w2,relQ2 (actOf (l.take n) 0 vs a) o w1 (R i) (fun v w2=>Jw i v w2∧K i (cond (Nat.beq (via i) i) w1.heap.size (lo (via i))) (cond (Nat.beq (via i) i) w2.heap.size (hiF (via i))) v w2) .normal a' w2→wpAny P .any l.toArray Q (f+(l.toArray.size-n)) (listed.setIfInBounds i true) a' w2:=by
    rintro a' w2 ⟨_,v,rfl,hg2,hj,hk⟩
    rw [yu (l.take n) 0 i o vs v a (by simpa using hd) (by omega) (by simpa using hot)]
    have hnl:∀ j,listed.getD j false=true→j≠i:=fun j h e=>by
     subst e
     have h2:j<listed.size:=by rw [inv.size];simp;omega
     simp [h2]at hun h
     rw [hun]at h;cases h
    have hset:∀ j,j≠i→(listed.setIfInBounds i true).getD j false=true→listed.getD j false=true:=fun j hj h=>by rwa [getD_set_ne false (Ne.symm hj)]at h
    refine ih _ _ (updN lo i (cond (Nat.beq (via i) i) w1.heap.size (lo (via i)))) (updN hiF i (cond (Nat.beq (via i) i) w2.heap.size (hiF (via i)))) w2 (inv.set hi hin) (by rw [getD_set_ne true his];exact hsu) ⟨hT i w1 w2 hg.1 hg2,Nat.le_trans hg.2 (hRs i _ _ hg2)⟩ (fun j hj1 hj2=>?_) (fun j hj1 hj2=>?_) (fun j hj1 hj2=>?_) (fun j hj1 hj2 j' hj1' hj2' hne=>?_) ?_
    ·by_cases hji:j=i
     ·subst hji
      have hsz:j<listed.size:=by rw [inv.size];simp;omega
      simp [hsz]at hj2
     ·rw [getD_set_ne true (Ne.symm hji)]at hj2
      exact hI j i w1 w2 hji hg.1 (hIl j hj1 hj2) hg2
    ·by_cases hji:j=i
     ·subst hji
      have:upd vs j v j=v:=by unfold upd;rw [if_pos rfl]
      rw [this];exact hj
     ·have:upd vs i v j=vs j:=by unfold upd;rw [if_neg hji]
      rw [this]
      rw [getD_set_ne false (Ne.symm hji)]at hj2
      exact hJw j i _ w1 w2 hji hg.1 (hJl j hj1 hj2) hg2
    ·by_cases hji:j=i
     ·subst hji
      have e1:upd vs j v j=v:=by unfold upd;rw [if_pos rfl]
      rw [e1,zQ,zQ]
      rcases hvi with ⟨h1,_⟩ | ⟨h1,_,h2,h3⟩
      ·rw [h1]at hk ⊢
       exact⟨hk,hg.2,hRs j _ _ hg2,Nat.le_refl _⟩
      ·rw [h1]at hk ⊢
       have h4:=(hKl (via j) (by omega) h3).2
       exact⟨hk,h4.1,h4.2.1,Nat.le_trans h4.2.2 (hRs j _ _ hg2)⟩
     ·have e1:upd vs i v j=vs j:=by unfold upd;rw [if_neg hji]
      rw [e1,zI hji,zI hji]
      have h1:=hKl j hj1 (hset j hji hj2)
      exact⟨hK j i _ _ _ w1 w2 hji hg.1 h1.1 hg2,h1.2.1,h1.2.2.1,Nat.le_trans h1.2.2.2 (hRs i _ _ hg2)⟩
    ·have hvl:∀ m,m<n→listed.getD m false=true→root m≠root i→cond (Nat.beq (via i) i) w2.heap.size (hiF (via i))≤lo m∨hiF m≤cond (Nat.beq (via i) i) w1.heap.size (lo (via i)):=fun m hm hml hne=>by
      rcases hvi with ⟨h1,_⟩ | ⟨h1,hr,h2,h3⟩
      ·rw [h1]
       exact .inr (hKl m hm hml).2.2.2
      ·rw [h1]
       exact hDl (via i) (by omega) h3 m hm hml (fun e=>hne (e.symm.trans hr.symm))
     by_cases hji:j=i
     ·have hji':j'≠i:=fun e=>hne (by rw [hji,e])
      rw [hji,zQ,zQ,zI hji',zI hji']
      exact hvl j' hj1' (hset j' hji' hj2') (fun e=>hne (by rw [hji,e]))
     ·by_cases hji':j'=i
      ·rw [hji',zQ,zQ,zI hji,zI hji]
       rcases hvl j hj1 (hset j hji hj2) (fun e=>hne (by rw [hji',e]))with h | h
       ·exact .inr h
       ·exact .inl h
      ·rw [zI hji,zI hji,zI hji',zI hji']
       exact hDl j hj1 (hset j hji hj2) j' hj1' (hset j' hji' hj2') hne
    ·exact hcount
   unfold wpOp
   simp only [ho]
   simp only [wpList]at hthis
   split at hthis
   ·rename_i hw
    rw [if_pos hw]
    rcases hthis with h | ⟨_,h⟩
    ·exact .inl (wp_to hnext (fun c a w h=>by cases h.1) zZ h)
    ·exact absurd h zZ
   ·rename_i hw
    rw [if_neg hw]
    exact hnext _ _ hthis
 have h0:=key n (Array.replicate l.toArray.size false) (fun j=>match (l.take n)[j]? with | some o=>(match o.dst with | some t=>a.tmps.getD t undef | none=>undef) | none=>undef) (fun _=>0) (fun _=>0) { w with drawn:=w.drawn+1 }
  ⟨by simp,fun j oj _ hl=>(by rw [getD_replicate_false]at hl;cases hl),fun t _ ht=>getD_in (by simpa using ht) (getD_replicate_false _ _)⟩
  (by
    have hsz:s<(Array.replicate l.toArray.size false).size:=by simp;omega
    exact getD_in hsz (getD_replicate_false _ _)) ⟨hT0,Nat.le_refl _⟩ (fun i _ _=>hI0 i)
  (fun i _ hl=>by rw [getD_replicate_false]at hl;cases hl)
  (fun i _ hl=>by rw [getD_replicate_false]at hl;cases hl)
  (fun i _ hl=>by rw [getD_replicate_false]at hl;cases hl)
  (by
    have:(List.range n).filter (fun i=>!(Array.replicate l.toArray.size false).getD i true)=List.range n:=by
     apply List.filter_eq_self.2
     intro i hi
     have hi':=List.mem_range.1 hi
     have:i<(Array.replicate l.toArray.size false).size:=by simp;omega
     rw [getD_in this (getD_replicate_false _ _)];rfl
    rw [this,List.length_range])
 rw [xf (l.take n) 0 _ a (fun j o hj=>by rw [Nat.zero_add,hj];try rfl)]at h0
 rwa [show n+(l.toArray.size-n)=l.toArray.size by omega]at h0
theorem xP {P:Program} {id:Nat} {Q:Exit→Act→World→Prop} {a:Act} {w:World} {l:List Oper} (s n:Nat) (J:Nat→Value→Prop) (Jw:Nat→Value→World→Prop) (K:Nat→Nat→Nat→Value→World→Prop) (via root:Nat→Nat) (late:Nat→Bool) (dd:Nat) (F:Value→World→Prop)
 (hsn:n=s+1) (hm:P.follows .mixedOrders=true) (hB:relB l.toArray n=true) (hV:viaB l via root s=true) (hL:lateB l late s=true) (hls0:late s=false) (hdd:late dd=false) (hds:dd<s) (hJs:∀ v,J s v)
 (hJf:∀ i v w1,Jw i v w1→J i v) (hJw:∀ i v w1 w2,Jw i v w1→Grew w1 w2→Jw i v w2)
 (hop:SpanOps2 P l.toArray (fun _ w1 w2=>Grew w1 w2) (fun _ w1=>Grew w w1) Jw K via (fun vs=>actOf (l.take n) 0 vs a) 0 (l.take s))
 (hlateops:LateOps P l.toArray late J (fun vs=>actOf (l.take n) 0 vs a) 0 (l.take n))
 (hK:∀ i lo hi v w1 w2,K i lo hi v w1→Grew w1 w2→K i lo hi v w2)
 (hst:∀(vs:Nat→Value) (lo hi:Nat→Nat) (w1:World),Grew w w1→(∀ i,i<s→late i=false→Jw i (vs i) w1)→(∀ i,i<s→late i=false→K i (lo i) (hi i) (vs i) w1)→(∀ i,i<s→late i=false→w.heap.size≤lo i∧lo i≤hi i∧hi i≤w1.heap.size)→(∀ i,i<s→late i=false→∀ j,j<s→late j=false→root i≠root j→hi i≤lo j∨hi j≤lo i)→wpList P l.toArray (fun e a' w2=>e=.normal∧∃ v,a'=(actOf (l.take n) 0 vs a).put none v∧F (vs dd) w2) ((l.drop s).take 1) (actOf (l.take n) 0 vs a) w1)
 (hsd:∀ o,l[s]?=some o→o.dst=none)
 (hF:∀ v w1 w2,F v w1→Grew w1 w2→F v w2)
 (hend:∀(vs:Nat→Value) (w1:World),F (vs dd) w1→(∀ i,i<n→J i (vs i))→wpList P l.toArray Q (l.drop n) (actOf (l.take n) 0 vs a) w1) :
 (Code.region id l.toArray true).wp P Q a w :=
 jS s n hsn (fun _ w1 w2=>Grew w1 w2) (fun _ w1=>Grew w w1) (fun w1=>Grew w w1) J Jw K via root late dd F hm hB hV hL hls0 hdd hds hJs (fun _=>⟨rfl,rfl,rfl,Nat.le_refl _,fun _ _=>rfl⟩) ⟨rfl,rfl,rfl,Nat.le_refl _,fun _ _=>rfl⟩ (fun _ _ _ h=>h.size) (fun _ _ _ _ _ h _ h2=>ze h h2) (fun _ _ _ h h2=>ze h h2) hJf (fun i _ v w1 w2 _ _ h h2=>hJw i v w1 w2 h h2) hop hlateops (fun i _ lo hi v w1 w2 _ _ h h2=>hK i lo hi v w1 w2 h h2) hst hsd hF hend
end Go.Proofs.YtidjnnnigcmdpaaGreatDoor
