/- Numbers in words, as functions: decimal numerals and back. -/
import Derived.Test.YtkpnheenacchhaaGreatDoorPzz
import Derived.Lib.ItoaNum
import Derived.Lib.ParseIntB
import Derived.Lib.Strings
set_option linter.unusedSimpArgs false
set_option linter.unusedVariables false
namespace Go.Proofs.YtkpnheenacchhaaGreatDoor
open Go.Lib
def dig (c:UInt8):Bool:=decide (48≤c.toNat)&&decide (c.toNat≤57)
def dval (l:List UInt8):Nat:=l.foldl (fun a c=>a*10+(c.toNat-48)) 0
theorem zb1 (l:List UInt8) (c:UInt8):dval (l++[c])=dval l*10+(c.toNat-48):=by simp [dval]
theorem zlx:dval []=0:=rfl
def isDec (t:List UInt8):Bool:=decide (t≠[])&&(decide (t.head?≠some 48)||decide (t=[48]))&&t.all dig
def minus (l:List UInt8):Bool:=decide (l.head?=some 45)
def body (l:List UInt8):List UInt8:=if minus l then l.tail else l
def isNumB (l:List UInt8):Bool:=isDec (body l)&&!(minus l&&decide (body l=[48]))
def nval (l:List UInt8):Int:=if minus l then -(dval (body l):Int) else (dval (body l):Int)
def inI64 (n:Int):Bool:=decide (-9223372036854775808≤n)&&decide (n≤9223372036854775807)
def pnum (l:List UInt8):Int × Int:=if isNumB l then (if inI64 (nval l) then (nval l,0) else (0,4)) else (0,2)
theorem zjh {l:List UInt8} (h:isNumB l=false):pnum l=(0,2):=by rw [pnum,if_neg (by simp [h])]
theorem zji {l:List UInt8} (h:isNumB l=true) (h2:inI64 (nval l)=false):pnum l=(0,4):=by rw [pnum,if_pos h,if_neg (by simp [h2])]
theorem zgf {l:List UInt8} (h:isNumB l=true) (h2:inI64 (nval l)=true):pnum l=(nval l,0):=by rw [pnum,if_pos h,if_pos h2]
theorem u8_of (n:Nat) (h:n<10):(UInt8.ofNat (48+n)).toNat=48+n:=by simp [UInt8.toNat_ofNat'];omega
theorem zjj (n:Nat) (h:n<10):dig (UInt8.ofNat (48+n))=true:=by unfold dig;rw [u8_of n h];simp;omega
theorem zde (u:Nat):dval (decDigits u)=u:=by
 induction u using Nat.strongRecOn with
 | _ u ih =>
  by_cases h:u<10
  ·rw [decDigits,dif_pos h]
   simp only [dval,List.foldl_cons,List.foldl_nil]
   rw [u8_of u h];omega
  ·rw [decDigits,dif_neg h,zb1,ih (u / 10) (by omega),u8_of _ (by omega)];omega
theorem zgg (u:Nat):(decDigits u).all dig=true:=by
 induction u using Nat.strongRecOn with
 | _ u ih =>
  by_cases h:u<10
  ·rw [decDigits,dif_pos h]
   rw [List.all_cons,List.all_nil,zjj u h];rfl
  ·rw [decDigits,dif_neg h,List.all_append,ih (u / 10) (by omega),List.all_cons,List.all_nil,zjj (u%10) (by omega)];rfl
theorem zdf (u:Nat):decDigits u≠[]:=by
 rw [decDigits];split<;>simp
theorem u8_48 (n:Nat) (h:n<10) (h0:n≠0):UInt8.ofNat (48+n)≠48:=by
 intro e
 have:=congrArg UInt8.toNat e
 rw [u8_of n h]at this
 simp at this;omega
theorem zdg (u:Nat) (h0:u≠0):(decDigits u).head?≠some 48:=by
 induction u using Nat.strongRecOn with
 | _ u ih =>
  by_cases h:u<10
  ·rw [decDigits,dif_pos h]
   rw [List.head?_cons]
   intro e
   injection e with e
   exact u8_48 u h h0 e
  ·rw [decDigits,dif_neg h]
   have:=ih (u / 10) (by omega) (by omega)
   cases hd:decDigits (u / 10)with
   | nil=>exact absurd hd (zdf _)
   | cons a l=>rw [hd]at this;simpa using this
theorem qT:decDigits 0=[48]:=by rw [decDigits];rfl
theorem zb2 (u:Nat):isDec (decDigits u)=true:=by
 unfold isDec
 rw [zgg]
 by_cases h:u=0
 ·subst h;rw [qT];decide
 ·have h1:=zdg u h
  have h2:=zdf u
  simp [h1,h2]
theorem zhj (u:Nat):(decDigits u).head?≠some 45:=by
 intro h
 cases hd:decDigits u with
 | nil=>exact absurd hd (zdf _)
 | cons a l =>
  have:=zgg u
  rw [hd]at this h
  simp at h this
  rw [h]at this
  exact absurd this.1 (by decide)
theorem jH (u:Nat):minus (decDigits u)=false:=by unfold minus;exact zF9 (zhj u)
theorem zdh (u:Nat):body (decDigits u)=decDigits u:=by unfold body;rw [jH];rfl
theorem zan (t:List UInt8):minus (45::t)=true:=rfl
theorem zb3 (t:List UInt8):body (45::t)=t:=rfl
theorem zhk (n:Int):isNumB (itoa n)=true:=by
 unfold isNumB itoa
 split
 ·rename_i h
  rw [zb3,zb2,zan]
  have h1:decDigits n.natAbs≠[48]:=by
   intro e
   have:=zdg n.natAbs (by omega)
   rw [e]at this;exact this rfl
  simp [h1]
 ·rw [zdh,zb2,jH];rfl
theorem zb4 (n:Int):nval (itoa n)=n:=by
 unfold nval itoa
 split
 ·rename_i h
  rw [zan,zb3,zde];simp;omega
 ·rw [jH,zdh,zde];simp;omega
theorem jI {n:Int} (h0:-9223372036854775808≤n) (h1:n≤9223372036854775807):pnum (itoa n)=(n,0):=by
 rw [zgf (zhk n) (by rw [zb4];unfold inI64;simp;omega),zb4]
theorem zao {c:UInt8} (h:dig c=true):48≤c.toNat∧c.toNat≤57:=by
 unfold dig at h;simpa using h
theorem zgh {c:UInt8} (h:dig c=true):UInt8.ofNat (48+(c.toNat-48))=c:=by
 obtain⟨h1,h2⟩:=zao h
 rw [show 48+(c.toNat-48)=c.toNat from by omega]
 simp
theorem dec_of (t:List UInt8) (hd:t.all dig=true) (hn:t≠[]) (hh:t.head?≠some 48∨t=[48]):decDigits (dval t)=t:=by
 rcases hh with hh | rfl
 case inr=>simpa [dval]using qT
 have key:∀ n (t:List UInt8),t.length=n→t.all dig=true→t≠[]→t.head?≠some 48→decDigits (dval t)=t∧0<dval t:=by
  intro n
  induction n with
  | zero=>intro t h1 _ h3;exact absurd (List.length_eq_zero_iff.1 h1) h3
  | succ n ih =>
   intro t h1 h2 h3 h4
   obtain⟨l,c,rfl⟩:∃ l c,t=l++[c]:=⟨t.dropLast,t.getLast h3,(List.dropLast_concat_getLast h3).symm⟩
   rw [List.all_append]at h2
   simp only [Bool.and_eq_true,List.all_cons,List.all_nil,Bool.and_true]at h2
   obtain⟨h2a,h2b⟩:=h2
   obtain⟨hc1,hc2⟩:=zao h2b
   rw [zb1]
   by_cases hl:l=[]
   ·subst hl
    have hc:c.toNat≠48:=by
     intro e
     apply h4
     simp
     exact UInt8.toNat_inj.1 (by rw [e];rfl)
    rw [zlx,decDigits,dif_pos (by omega)]
    refine⟨?_,by omega⟩
    simp only [Nat.zero_mul,Nat.zero_add,List.nil_append]
    rw [zgh h2b]
   ·have h5:l.head?≠some 48:=by
     cases l with
     | nil=>exact absurd rfl hl
     | cons a l=>simpa using h4
    obtain⟨e,hp⟩:=ih l (by simpa using h1) h2a hl h5
    rw [decDigits,dif_neg (by omega)]
    rw [show(dval l*10+(c.toNat-48)) / 10=dval l from by omega,show(dval l*10+(c.toNat-48))%10=c.toNat-48 from by omega,e,zgh h2b]
    exact⟨rfl,by omega⟩
 exact(key _ t rfl hd hn hh).1
theorem qD {t:List UInt8} (h:isDec t=true):t≠[]∧(t.head?≠some 48∨t=[48])∧t.all dig=true:=by
 unfold isDec at h
 simp only [Bool.and_eq_true,Bool.or_eq_true,decide_eq_true_eq]at h
 exact⟨h.1.1,h.1.2,h.2⟩
theorem zjk {t:List UInt8} (h:isDec t=true):decDigits (dval t)=t:=by
 obtain⟨h1,h2,h3⟩:=qD h
 exact dec_of t h3 h1 h2
theorem zb5 {l:List UInt8} (h:isNumB l=true):itoa (nval l)=l:=by
 unfold isNumB at h
 simp only [Bool.and_eq_true,Bool.not_eq_true']at h
 obtain⟨h1,h2⟩:=h
 have h3:=zjk h1
 unfold nval
 cases hm:minus l with
 | true =>
  rw [hm]at h2
  simp only [if_pos]
  have hl:l=45::body l:=by
   unfold body;rw [if_pos hm]
   unfold minus at hm
   cases l with
   | nil=>simp at hm
   | cons a t=>simp at hm;simp [hm]
  have hb:body l≠[48]:=by
   intro e;rw [e]at h2;simp at h2
  have hz:dval (body l)≠0:=by
   intro e
   rw [e,qT]at h3
   exact hb h3.symm
  unfold itoa
  rw [if_pos (by omega),show(-(dval (body l):Int)).natAbs=dval (body l) from by omega,h3]
  exact hl.symm
 | false =>
  simp only [Bool.false_eq_true,if_false]
  have hl:l=body l:=by unfold body;rw [hm];rfl
  unfold itoa
  rw [if_neg (by omega),show((dval (body l):Int)).toNat=dval (body l) from by omega,h3]
  exact hl.symm
theorem zb6 {l:List UInt8} (h:(pnum l).2=0):itoa (pnum l).1=l∧isNumB l=true∧-9223372036854775808≤(pnum l).1∧(pnum l).1≤9223372036854775807:=by
 unfold pnum at h ⊢
 split
 ·rename_i h1
  rw [if_pos h1]at h
  split
  ·rename_i h2
   refine⟨zb5 h1,h1,?_⟩
   unfold inI64 at h2
   simpa using h2
  ·rename_i h2
   rw [if_neg h2]at h
   cases h
 ·rename_i h1
  rw [if_neg h1]at h
  cases h
/-! strconv.ParseInt at what has the form -/
theorem zhl (l:List UInt8) (a:Nat):l.foldl (fun a c=>a*10+(c.toNat-48)) a≥a:=by
 induction l generalizing a with
 | nil=>exact zN9 _
 | cons c l ih =>
  rw [List.foldl_cons]
  exact Nat.le_trans (by omega) (ih _)
theorem parseU (l:List UInt8) (a:Nat) (hd:l.all dig=true) (ha:a<18446744073709551616) :
 parseUintM (2^64-1) a l=if l.foldl (fun a c=>a*10+(c.toNat-48)) a<18446744073709551616 then .ok (l.foldl (fun a c=>a*10+(c.toNat-48)) a) else .range:=by
 induction l generalizing a with
 | nil=>rw [parseUintM,List.foldl_nil,if_pos ha]
 | cons c l ih =>
  simp only [List.all_cons,Bool.and_eq_true]at hd
  obtain⟨h1,h2⟩:=zao hd.1
  rw [parseUintM,if_pos ⟨h1,h2⟩,List.foldl_cons]
  have hge:=zhl l (a*10+(c.toNat-48))
  split
  ·rw [if_neg (by omega)]
  ·split
   ·rw [if_neg (by omega)]
   ·exact ih _ hd.2 (by omega)
theorem zn8 {l:List UInt8} (hn:l≠[]) (hd:l.all dig=true):parseUintB 64 l=if dval l<18446744073709551616 then .ok (dval l) else .range:=by
 rw [parseUintB,if_neg hn,parseU l 0 hd (by omega)];rfl
theorem zfg {c:UInt8} (h:dig c=true):c.toNat≠43∧c.toNat≠45:=by
 obtain⟨h1,h2⟩:=zao h
 omega
theorem zhm {l:List UInt8} (h:isNumB l=true):parseIntB 64 l=if inI64 (nval l) then .ok (nval l) else .range:=by
 have hf:=h
 unfold isNumB at h
 simp only [Bool.and_eq_true,Bool.not_eq_true']at h
 obtain⟨h1,h2⟩:=h
 obtain⟨hn,_,hd⟩:=qD h1
 have hU:=zn8 hn hd
 cases hm:minus l with
 | true =>
  have hl:l=45::body l:=by
   unfold body;rw [if_pos hm]
   unfold minus at hm
   cases l with
   | nil=>simp at hm
   | cons a t=>simp at hm;simp [hm]
  have hv:nval l=-(dval (body l):Int):=by unfold nval;rw [if_pos hm]
  have h45:(45:UInt8).toNat=45:=rfl
  rw [hv,show parseIntB 64 l=parseIntB 64 (45::body l) from by rw [←hl]]
  unfold inI64
  by_cases hb:dval (body l)<18446744073709551616
  ·rw [if_pos hb]at hU
   by_cases hc:2^63<dval (body l)
   ·rw [if_neg (by simp;omega)]
    simp [parseIntB,h45,hU,hc]
   ·rw [if_pos (by simp;omega)]
    simp [parseIntB,h45,hU,hc]
  ·rw [if_neg hb]at hU
   rw [if_neg (by simp;omega)]
   simp [parseIntB,h45,hU]
 | false =>
  have hl:l=body l:=by unfold body;rw [hm];rfl
  have hv:nval l=(dval (body l):Int):=by unfold nval;rw [hm];rfl
  cases hb:body l with
  | nil=>exact absurd hb hn
  | cons c r =>
   have hdc:dig c=true:=by rw [hb]at hd;simp at hd;exact hd.1
   obtain⟨hc1,hc2⟩:=zfg hdc
   rw [hb]at hU hv
   rw [hv,show parseIntB 64 l=parseIntB 64 (c::r) from by rw [←hb,←hl]]
   unfold inI64
   by_cases hbb:dval (c::r)<18446744073709551616
   ·rw [if_pos hbb]at hU
    by_cases hc:2^63≤dval (c::r)
    ·rw [if_neg (by simp;omega)]
     simp [parseIntB,hc1,hc2,hU,hc]
    ·rw [if_pos (by simp;omega)]
     simp [parseIntB,hc1,hc2,hU,hc]
   ·rw [if_neg hbb]at hU
    rw [if_neg (by simp;omega)]
    simp [parseIntB,hc1,hc2,hU]
theorem zhn (k u:Nat) (hk:1≤k) (h:u<10^k):nDigits u≤k:=by
 induction k generalizing u with
 | zero=>omega
 | succ k ih =>
  by_cases h10:u<10
  ·rw [nDigits_small h10];omega
  ·rw [nDigits_big h10]
   have hk1:1≤k:=by
    rcases Nat.eq_zero_or_pos k with rfl | h'
    ·simp at h;omega
    ·exact h'
   rw [Nat.pow_succ]at h
   have:=ih (u / 10) hk1 (by omega)
   omega
theorem qi (u:Nat) (h:u≤9223372036854775808):(decDigits u).length≤19:=by
 rw [decDigits_length]
 exact zhn 19 u (by omega) (by omega)
theorem ym {n:Int} (h0:-9223372036854775808≤n) (h1:n≤9223372036854775807):(itoa n).length≤20:=by
 unfold itoa
 split
 ·have:=qi n.natAbs (by omega)
  simp only [List.length_cons];omega
 ·have:=qi n.toNat (by omega)
  omega
/-! between commas -/
def splitC:List UInt8→List (List UInt8)
 | []=>[[]]
 | c::r=>if c=44 then []::splitC r else (match splitC r with
  | []=>[[c]]
  | x::l=>(c::x)::l)
theorem zb7 (l:List UInt8):splitC l≠[]:=by
 cases l with
 | nil=>simp [splitC]
 | cons c r =>
  rw [splitC]
  split
  ·simp
  ·split<;>simp
def joinC:List (List UInt8)→List UInt8
 | []=>[]
 | [x]=>x
 | x::y::l=>x++44::joinC (y::l)
theorem zdi (x:List UInt8) (h:∀ c∈x,c≠44):splitC x=[x]:=by
 induction x with
 | nil=>rfl
 | cons c r ih =>
  rw [splitC,if_neg (h c List.mem_cons_self),ih (fun d hd=>h d (List.mem_cons_of_mem _ hd))]
theorem zdj (x r:List UInt8) (h:∀ c∈x,c≠44):splitC (x++44::r)=x::splitC r:=by
 induction x with
 | nil=>simp [splitC]
 | cons c t ih =>
  rw [List.cons_append,splitC,if_neg (h c List.mem_cons_self),ih (fun d hd=>h d (List.mem_cons_of_mem _ hd))]
theorem zdk (l:List (List UInt8)) (hn:l≠[]) (h:∀ x∈l,∀ c∈x,c≠44):splitC (joinC l)=l:=by
 induction l with
 | nil=>exact absurd rfl hn
 | cons x l ih =>
  cases l with
  | nil=>rw [joinC];exact zdi x (h x List.mem_cons_self)
  | cons y l =>
   rw [joinC,zdj x _ (h x List.mem_cons_self),ih (by simp) (fun z hz=>h z (List.mem_cons_of_mem _ hz))]
theorem zdl (l:List UInt8):joinC (splitC l)=l:=by
 induction l with
 | nil=>rfl
 | cons c r ih =>
  rw [splitC]
  split
  ·rename_i hc
   subst hc
   cases hs:splitC r with
   | nil=>exact absurd hs (zb7 r)
   | cons x l=>rw [hs]at ih;rw [joinC,ih];rfl
  ·cases hs:splitC r with
   | nil=>exact absurd hs (zb7 r)
   | cons x l =>
    rw [hs]at ih
    simp only
    cases l with
    | nil=>rw [joinC]at ih ⊢;rw [ih]
    | cons y l=>rw [joinC]at ih ⊢;rw [List.cons_append,ih]
def nums (l:List Int):List UInt8:=joinC (l.map itoa)
end Go.Proofs.YtkpnheenacchhaaGreatDoor
