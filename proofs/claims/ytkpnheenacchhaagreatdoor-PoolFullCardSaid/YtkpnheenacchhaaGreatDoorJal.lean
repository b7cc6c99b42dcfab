/- Regions as in Rel, of which one operation turns what is there. -/
import Derived.Test.YtkpnheenacchhaaGreatDoorJaf
import Derived.Test.YtkpnheenacchhaaGreatDoorJai
set_option linter.unusedSimpArgs false
set_option linter.unusedVariables false
namespace Go.Proofs.YtkpnheenacchhaaGreatDoor
open Go.RowKit
def relQ2 (a:Act) (o:Oper) (w1:World) (S:World→World→Prop) (R:Value→World→Prop):Exit→Act→World→Prop:=fun e a' w2=>e=.normal∧∃ v,a'=a.put o.dst v∧S w1 w2∧R v w2
theorem yD {a:Act} {o:Oper} {w1:World} {S:World→World→Prop} {R:Value→World→Prop}:¬LetsOut (relQ2 a o w1 S R):=fun⟨_,_,h,_⟩=>by cases h
def RelOps2 (P:Program) (ops:Array Oper) (R:Nat→World→World→Prop) (I:Nat→World→Prop) (J:Nat→Value→World→Prop) (A:(Nat→Value)→Act):Nat→List Oper→Prop
 | _,[]=>True
 | k,o::l=>(∀(vs:Nat→Value) (w1:World),I k w1→grounds J vs w1 o.after.toList→wpList P ops (relQ2 (A vs) o w1 (R k) (J k)) [o] (A vs) w1)∧RelOps2 P ops R I J A (k+1) l
theorem RelOps2.get {P:Program} {ops:Array Oper} {R:Nat→World→World→Prop} {I:Nat→World→Prop} {J:Nat→Value→World→Prop} {A:(Nat→Value)→Act}:∀ {l:List Oper} {k i:Nat} {o:Oper},RelOps2 P ops R I J A k l→l[i]?=some o →
 ∀(vs:Nat→Value) (w1:World),I (k+i) w1→grounds J vs w1 o.after.toList→wpList P ops (relQ2 (A vs) o w1 (R (k+i)) (J (k+i))) [o] (A vs) w1
 | [],_,_,_,_,h=>by simp at h
 | o'::l,k,0,o,H,h=>by
  obtain rfl:o'=o:=by simpa using h
  exact H.1
 | o'::l,k,i+1,o,H,h=>by
  have:=RelOps2.get (i:=i) (o:=o) H.2 (by simpa using h)
  rwa [show k+1+i=k+(i+1) by omega]at this
theorem y0 {P:Program} {id:Nat} {Q:Exit→Act→World→Prop} {a:Act} {w:World} {l:List Oper} (n:Nat) (R:Nat→World→World→Prop) (I:Nat→World→Prop) (T:World→Prop) (J:Nat→Value→World→Prop)
 (hm:P.follows .mixedOrders=true) (hB:relB l.toArray n=true)
 (hI0:∀ i,I i w.drew) (hT0:T w.drew)
 (hI:∀ i k w1 w2,i≠k→T w1→I i w1→R k w1 w2→I i w2) (hT:∀ k w1 w2,T w1→R k w1 w2→T w2)
 (hJ:∀ i k v w1 w2,i≠k→T w1→J i v w1→R k w1 w2→J i v w2)
 (hop:RelOps2 P l.toArray R I J (fun vs=>actOf (l.take n) 0 vs a) 0 (l.take n))
 (hend:∀(vs:Nat→Value) (w1:World),T w1→(∀ i,i<n→J i (vs i) w1)→wpList P l.toArray Q (l.drop n) (actOf (l.take n) 0 vs a) w1) :
 (Code.region id l.toArray true).wp P Q a w:=by
 simp only [relB,Bool.and_eq_true,decide_eq_true_eq]at hB
 obtain⟨⟨⟨⟨⟨hn,hd⟩,hs⟩,hc⟩,hq⟩,hord⟩:=hB
 have hn':n<l.length:=by simpa using hn
 refine wp_region_any hm ?_
 have key:∀(f:Nat) (listed:Array Bool) (vs:Nat→Value) (w1:World),HeadInv .any l.toArray n listed→T w1→(∀ i,i<n→listed.getD i true=false→I i w1)→(∀ i,i<n→listed.getD i false=true→J i (vs i) w1) →
  ((List.range n).filter fun i=>!listed.getD i true).length=f→wpAny P .any l.toArray Q (f+(l.toArray.size-n)) listed (actOf (l.take n) 0 vs a) w1:=by
  intro f
  induction f with
  | zero =>
   intro listed vs w1 inv hg hIl hJl hf
   have hall:∀ i,i<n→listed.getD i true=true:=by
    intro i hi
    have h0:=List.length_eq_zero_iff.1 hf
    cases hl:listed.getD i true with
    | true=>rfl
    | false =>
     have:i∈(List.range n).filter fun i=>!listed.getD i true:=List.mem_filter.2 ⟨List.mem_range.2 hi,by rw [hl];rfl⟩
     rw [h0]at this;cases this
   have hle:listed=headAll n l.toArray.size:=by
    apply Array.ext
    ·rw [inv.size];simp [headAll]
    ·intro j h1 h2
     have hj:j<l.toArray.size:=by rw [←inv.size];exact h1
     simp only [headAll,List.getElem_toArray,List.getElem_map,List.getElem_range]
     by_cases hjn:j<n
     ·have:=hall j hjn
      simp [h1]at this
      rw [this,decide_eq_true hjn]
     ·have:=inv.tail j (by omega) hj
      simp [h1]at this
      rw [this,decide_eq_false hjn]
   have hlen:(l.drop n).length=l.toArray.size-n:=by simp
   rw [hle,Nat.zero_add,←hlen]
   refine wpAny_of_seq (l.drop n) n _ _ _ (fun j=>by simp [List.getElem?_drop]) (by rw [hlen];exact hq) (hend vs w1 hg (fun i hi=>hJl i hi ?_))
   have h1:=hall i hi
   have h2:i<listed.size:=by rw [inv.size];simp;omega
   simp [h2]at h1 ⊢
   exact h1
  | succ f ih =>
   intro listed vs w1 inv hg hIl hJl hf
   have hex:∃ i,i<n∧listed.getD i true=false:=by
    have hne:((List.range n).filter fun i=>!listed.getD i true)≠[]:=fun e=>by rw [e]at hf;simp at hf
    obtain⟨i,hi⟩:=List.exists_mem_of_ne_nil _ hne
    obtain⟨h1,h2⟩:=List.mem_filter.1 hi
    exact⟨i,List.mem_range.1 h1,by simpa using h2⟩
   have hsome:∃ i,i<n∧i∈Region.ready .any l.toArray listed:=by
    obtain⟨i,hi,hu⟩:=hex
    induction i using Nat.strongRecOn with
    | _ i ihi =>
     by_cases hr:∃ j,j<i∧listed.getD j true=false
     ·obtain⟨j,hj,hju⟩:=hr
      exact ihi j hj (by omega) hju
     ·refine⟨i,hi,mem_ready.2 ⟨hu,l[i]'(by omega),by simp [List.getElem?_eq_getElem (show i<l.length by omega)],fun e he hb=>?_⟩⟩
      have h1:=List.all_eq_true.1 hord i (List.mem_range.2 hi)
      have h2:l.toArray[i]?=some (l[i]'(by omega)):=by simp [List.getElem?_eq_getElem (show i<l.length by omega)]
      rw [h2]at h1
      have h3:e.on<i:=by
       have h4:=Array.all_eq_true_iff_forall_mem.1 (show(l[i]'(by omega)).after.all (fun e=>!Region.binds .any e||decide (e.on<i))=true from h1) e he
       rw [hb]at h4
       simpa using h4
      have h5:e.on<listed.size:=by rw [inv.size];simp;omega
      cases hl:listed.getD e.on false with
      | true=>rfl
      | false=>exact absurd ⟨e.on,h3,getD_in h5 hl⟩ hr
   obtain⟨i0,hi0,hr0⟩:=hsome
   rw [show f+1+(l.toArray.size-n)=(f+(l.toArray.size-n))+1 by omega]
   refine⟨fun h=>(by rw [h]at hr0;cases hr0),fun i hi=>?_⟩
   obtain⟨hun,o,ho,hall⟩:=mem_ready.1 hi
   have hin:i<n:=by
    rcases Nat.lt_or_ge i n with h | h
    ·exact h
    ·exact absurd hi (tail_waits hs hc hn inv _ i0 rfl hi0 ((mem_ready.1 hr0).1) i h)
   have hot:(l.take n)[i]?=some o:=by
    rw [List.getElem?_take_of_lt hin]
    simpa using ho
   have hthis:=RelOps2.get hop hot vs w1 (by rw [Nat.zero_add];exact hIl i hin hun) (yd fun e he hb=>by
    have h1:=hall e (Array.mem_toList_iff.1 he) hb
    have h2:=List.all_eq_true.1 hord i (List.mem_range.2 hin)
    rw [ho]at h2
    have h3:e.on<i:=by
     have h4:=Array.all_eq_true_iff_forall_mem.1 (show o.after.all (fun e=>!Region.binds .any e||decide (e.on<i))=true from h2) e (Array.mem_toList_iff.1 he)
     rw [hb]at h4
     simpa using h4
    exact hJl e.on (by omega) h1)
   rw [Nat.zero_add]at hthis
   have hnext:∀ a' w2,relQ2 (actOf (l.take n) 0 vs a) o w1 (R i) (J i) .normal a' w2→wpAny P .any l.toArray Q (f+(l.toArray.size-n)) (listed.setIfInBounds i true) a' w2:=by
    rintro a' w2 ⟨_,v,rfl,hg2,hj⟩
    rw [yk (l.take n) 0 i o vs v a (by simpa using hd) (by omega) (by simpa using hot)]
    refine ih _ _ w2 (inv.set hi hin) (hT i w1 w2 hg hg2) (fun j hj1 hj2=>?_) (fun j hj1 hj2=>?_) ?_
    ·by_cases hji:j=i
     ·subst hji
      have hsz:j<listed.size:=by rw [inv.size];simp;omega
      simp [hsz]at hj2
     ·rw [getD_set_ne true (Ne.symm hji)]at hj2
      exact hI j i w1 w2 hji hg (hIl j hj1 hj2) hg2
    ·by_cases hji:j=i
     ·subst hji
      have:upd vs j v j=v:=by unfold upd;rw [if_pos rfl]
      rw [this];exact hj
     ·have:upd vs i v j=vs j:=by unfold upd;rw [if_neg hji]
      rw [this]
      rw [getD_set_ne false (Ne.symm hji)]at hj2
      exact hJ j i _ w1 w2 hji hg (hJl j hj1 hj2) hg2
    ·have hsz:i<listed.size:=by rw [inv.size];simp;omega
     have hcount:∀(L:List Nat),L.Nodup→i∈L→(L.filter fun j=>!listed.getD j true).length=(L.filter fun j=>!(listed.setIfInBounds i true).getD j true).length+1:=by
      intro L
      induction L with
      | nil=>intro _ h;cases h
      | cons x L ihL =>
       intro hnd hmem
       obtain⟨hx,hnd'⟩:=List.nodup_cons.1 hnd
       by_cases hxi:x=i
       ·subst hxi
        have e1:(!(listed.getD x true))=true:=by rw [hun];rfl
        have e2:(!((listed.setIfInBounds x true).getD x true))=false:=by simp [hsz]
        rw [List.filter_cons,if_pos e1,List.filter_cons,if_neg (by rw [e2];simp),List.length_cons]
        congr 2
        apply List.filter_congr
        intro y hy
        have:y≠x:=fun e=>hx (e▸hy)
        rw [getD_set_ne true (Ne.symm this)]
       ·have hmem':i∈L:=by
         rcases List.mem_cons.1 hmem with h | h
         ·exact absurd h.symm hxi
         ·exact h
        have ihx:=ihL hnd' hmem'
        have e3:(listed.setIfInBounds i true).getD x true=listed.getD x true:=getD_set_ne true (Ne.symm hxi)
        rw [List.filter_cons,List.filter_cons,e3]
        split
        ·rw [List.length_cons,List.length_cons,ihx]
        ·exact ihx
     have:=hcount (List.range n) List.nodup_range (List.mem_range.2 hin)
     omega
   unfold wpOp
   simp only [ho]
   simp only [wpList]at hthis
   split at hthis
   ·rename_i hw
    rw [if_pos hw]
    rcases hthis with h | ⟨_,h⟩
    ·exact .inl (wp_to hnext (fun c a w h=>by cases h.1) yD h)
    ·exact absurd h yD
   ·rename_i hw
    rw [if_neg hw]
    exact hnext _ _ hthis
 have h0:=key n (Array.replicate l.toArray.size false) (fun j=>match (l.take n)[j]? with | some o=>(match o.dst with | some t=>a.tmps.getD t undef | none=>undef) | none=>undef) { w with drawn:=w.drawn+1 }
  ⟨by simp,fun j oj _ hl=>(by rw [getD_replicate_false]at hl;cases hl),fun t _ ht=>getD_in (by simpa using ht) (getD_replicate_false _ _)⟩
  hT0 (fun i _ _=>hI0 i)
  (fun i _ hl=>by rw [getD_replicate_false]at hl;cases hl)
  (by
    have:(List.range n).filter (fun i=>!(Array.replicate l.toArray.size false).getD i true)=List.range n:=by
     apply List.filter_eq_self.2
     intro i hi
     have hi':=List.mem_range.1 hi
     have:i<(Array.replicate l.toArray.size false).size:=by simp;omega
     rw [getD_in this (getD_replicate_false _ _)];rfl
    rw [this,List.length_range])
 rw [yl (l.take n) 0 _ a (fun j o hj=>by simp only [Nat.zero_add,hj];rfl)]at h0
 rwa [show n+(l.toArray.size-n)=l.toArray.size by omega]at h0
def stepR (S:Nat→Prop) (m k:Nat):World→World→Prop:=bif Nat.beq k m then Kp S else Grew
def preR (S:Nat→Prop) (m:Nat) (w:World) (k:Nat):World→Prop:=bif Nat.beq k m then Grew w else Kp S w
theorem xq {S:Nat→Prop} {m k:Nat} {a b:World} (h:stepR S m k a b):Kp S a b:=by
 unfold stepR at h
 cases hk:Nat.beq k m
 ·rw [hk]at h;exact zi h
 ·rw [hk]at h;exact h
theorem xh {P:Program} {id:Nat} {Q:Exit→Act→World→Prop} {a:Act} {w:World} {l:List Oper} (n m:Nat) (S:Nat→Prop) (J:Nat→Value→World→Prop)
 (hm:P.follows .mixedOrders=true) (hB:relB l.toArray n=true)
 (hJ1:∀ i v w1 w2,J i v w1→Grew w1 w2→J i v w2)
 (hJ2:∀ i v w1 w2,i≠m→Kp S w w1→J i v w1→Kp S w1 w2→J i v w2)
 (hop:RelOps2 P l.toArray (stepR S m) (preR S m w) J (fun vs=>actOf (l.take n) 0 vs a) 0 (l.take n))
 (hend:∀(vs:Nat→Value) (w1:World),Kp S w w1→(∀ i,i<n→J i (vs i) w1)→wpList P l.toArray Q (l.drop n) (actOf (l.take n) 0 vs a) w1) :
 (Code.region id l.toArray true).wp P Q a w:=by
 refine y0 n (stepR S m) (preR S m w) (Kp S w) J hm hB ?_ (xZ (zt S w)) ?_ (fun k w1 w2 h hr=>zx h (xq hr)) ?_ hop hend
 ·intro i
  unfold preR
  cases Nat.beq i m
  ·exact xZ (zt S w)
  ·exact⟨rfl,rfl,rfl,Nat.le_refl _,fun _ _=>rfl⟩
 ·intro i k w1 w2 hik hT h hr
  unfold preR at h ⊢
  cases hi:Nat.beq i m
  ·rw [hi]at h
   exact zx h (xq hr)
  ·rw [hi]at h
   have hk:Nat.beq k m=false:=by
    cases hk:Nat.beq k m
    ·rfl
    ·exact absurd ((Nat.eq_of_beq_eq_true hi).trans (Nat.eq_of_beq_eq_true hk).symm) hik
   unfold stepR at hr
   rw [hk]at hr
   exact zb h hr
 ·intro i k v w1 w2 hik hT h hr
  unfold stepR at hr
  cases hk:Nat.beq k m
  ·rw [hk]at hr
   exact hJ1 i v w1 w2 h hr
  ·rw [hk]at hr
   have:=Nat.eq_of_beq_eq_true hk
   subst this
   exact hJ2 i v w1 w2 hik hT h hr
end Go.Proofs.YtkpnheenacchhaaGreatDoor
