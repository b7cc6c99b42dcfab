/- Numbers in words, as functions: decimal numerals and back. -/
import Derived.Lib.ItoaNum
import Derived.Lib.ParseIntB
import Derived.Lib.Strings
set_option linter.unusedSimpArgs false
set_option linter.unusedVariables false
set_option linter.unnecessarySimpa false
namespace Go.Proofs.YtidjnnnigcmdpaaGreatDoor
open Go.Lib
def dig (c:UInt8):Bool:=decide (48≤c.toNat)&&decide (c.toNat≤57)
def dval (l:List UInt8):Nat:=l.foldl (fun a c=>a*10+(c.toNat-48)) 0
theorem zfs (l:List UInt8) (c:UInt8):dval (l++[c])=dval l*10+(c.toNat-48):=by simp [dval]
theorem zhk:dval []=0:=rfl
def isDec (t:List UInt8):Bool:=decide (t≠[])&&(decide (t.head?≠some 48)||decide (t=[48]))&&t.all dig
def minus (l:List UInt8):Bool:=decide (l.head?=some 45)
def body (l:List UInt8):List UInt8:=if minus l then l.tail else l
def isNumB (l:List UInt8):Bool:=isDec (body l)&&!(minus l&&decide (body l=[48]))
def nval (l:List UInt8):Int:=if minus l then -(dval (body l):Int) else (dval (body l):Int)
theorem u8_of (n:Nat) (h:n<10):(UInt8.ofNat (48+n)).toNat=48+n:=by simp [UInt8.toNat_ofNat'];omega
theorem zbh:decDigits 0=[48]:=by rw [decDigits];rfl
theorem zft {c:UInt8} (h:dig c=true):48≤c.toNat∧c.toNat≤57:=by
 unfold dig at h;simpa using h
theorem zdc {c:UInt8} (h:dig c=true):UInt8.ofNat (48+(c.toNat-48))=c:=by
 obtain⟨h1,h2⟩:=zft h
 rw [show 48+(c.toNat-48)=c.toNat from by omega]
 simp
theorem dec_of (t:List UInt8) (hd:t.all dig=true) (hn:t≠[]) (hh:t.head?≠some 48∨t=[48]):decDigits (dval t)=t:=by
 rcases hh with hh | rfl
 case inr=>simpa [dval]using zbh
 have key:∀ n (t:List UInt8),t.length=n→t.all dig=true→t≠[]→t.head?≠some 48→decDigits (dval t)=t∧0<dval t:=by
  intro n
  induction n with
  | zero=>intro t h1 _ h3;exact absurd (List.length_eq_zero_iff.1 h1) h3
  | succ n ih =>
   intro t h1 h2 h3 h4
   obtain⟨l,c,rfl⟩:∃ l c,t=l++[c]:=⟨t.dropLast,t.getLast h3,(List.dropLast_concat_getLast h3).symm⟩
   rw [List.all_append]at h2
   simp only [Bool.and_eq_true,List.all_cons,List.all_nil,Bool.and_true]at h2
   obtain⟨h2a,h2b⟩:=h2
   obtain⟨hc1,hc2⟩:=zft h2b
   rw [zfs]
   by_cases hl:l=[]
   ·subst hl
    have hc:c.toNat≠48:=by
     intro e
     apply h4
     simp
     exact UInt8.toNat_inj.1 (by rw [e];rfl)
    rw [zhk,decDigits,dif_pos (by omega)]
    refine⟨?_,by omega⟩
    simp only [Nat.zero_mul,Nat.zero_add,List.nil_append]
    rw [zdc h2b]
   ·have h5:l.head?≠some 48:=by
     cases l with
     | nil=>exact absurd rfl hl
     | cons a l=>simpa using h4
    obtain⟨e,hp⟩:=ih l (by simpa using h1) h2a hl h5
    rw [decDigits,dif_neg (by omega)]
    rw [show(dval l*10+(c.toNat-48)) / 10=dval l from by omega,show(dval l*10+(c.toNat-48))%10=c.toNat-48 from by omega,e,zdc h2b]
    exact⟨rfl,by omega⟩
 exact(key _ t rfl hd hn hh).1
theorem zcp {t:List UInt8} (h:isDec t=true):t≠[]∧(t.head?≠some 48∨t=[48])∧t.all dig=true:=by
 unfold isDec at h
 simp only [Bool.and_eq_true,Bool.or_eq_true,decide_eq_true_eq]at h
 exact⟨h.1.1,h.1.2,h.2⟩
theorem zfu {t:List UInt8} (h:isDec t=true):decDigits (dval t)=t:=by
 obtain⟨h1,h2,h3⟩:=zcp h
 exact dec_of t h3 h1 h2
theorem zfv {l:List UInt8} (h:isNumB l=true):itoa (nval l)=l:=by
 unfold isNumB at h
 simp only [Bool.and_eq_true,Bool.not_eq_true']at h
 obtain⟨h1,h2⟩:=h
 have h3:=zfu h1
 unfold nval
 cases hm:minus l with
 | true =>
  rw [hm]at h2
  simp only [if_pos]
  have hl:l=45::body l:=by
   unfold body;rw [if_pos hm]
   unfold minus at hm
   cases l with
   | nil=>simp at hm
   | cons a t=>simp at hm;simp [hm]
  have hb:body l≠[48]:=by
   intro e;rw [e]at h2;simp at h2
  have hz:dval (body l)≠0:=by
   intro e
   rw [e,zbh]at h3
   exact hb h3.symm
  unfold itoa
  rw [if_pos (by omega),show(-(dval (body l):Int)).natAbs=dval (body l) from by omega,h3]
  exact hl.symm
 | false =>
  simp only [Bool.false_eq_true,if_false]
  have hl:l=body l:=by unfold body;rw [hm];rfl
  unfold itoa
  rw [if_neg (by omega),show((dval (body l):Int)).toNat=dval (body l) from by omega,h3]
  exact hl.symm
/-! strconv.ParseInt at what has the form -/
theorem zea (k u:Nat) (hk:1≤k) (h:u<10^k):nDigits u≤k:=by
 induction k generalizing u with
 | zero=>omega
 | succ k ih =>
  by_cases h10:u<10
  ·rw [nDigits_small h10];omega
  ·rw [nDigits_big h10]
   have hk1:1≤k:=by
    rcases Nat.eq_zero_or_pos k with rfl | h'
    ·simp at h;omega
    ·exact h'
   rw [Nat.pow_succ]at h
   have:=ih (u / 10) hk1 (by omega)
   omega
theorem jc (u:Nat) (h:u≤9223372036854775808):(decDigits u).length≤19:=by
 rw [decDigits_length]
 exact zea 19 u (by omega) (by omega)
theorem yw {n:Int} (h0:-9223372036854775808≤n) (h1:n≤9223372036854775807):(itoa n).length≤20:=by
 unfold itoa
 split
 ·have:=jc n.natAbs (by omega)
  simp only [List.length_cons];omega
 ·have:=jc n.toNat (by omega)
  omega
/-! between commas -/
def joinC:List (List UInt8)→List UInt8
 | []=>[]
 | [x]=>x
 | x::y::l=>x++44::joinC (y::l)
end Go.Proofs.YtidjnnnigcmdpaaGreatDoor
