/- Fields: how they are joined and parted, as functions on rows of bytes, and that each undoes the other. -/
import Derived.Test.YtkpnheenacchhaaGreatDoorPzz
import Derived.WalkKit
set_option linter.unusedSimpArgs false
set_option linter.unusedVariables false
namespace Go.Proofs.YtkpnheenacchhaaGreatDoor
def spec (c:UInt8):Bool:=c==124||c==92
def esc (c:UInt8):List UInt8:=if spec c=true then [92,c] else [c]
def fld (f:List UInt8):List UInt8:=f.flatMap esc
def joinF (l:List (List UInt8)):List UInt8:=l.flatMap fun f=>124::fld f
theorem xr:fld []=[]:=rfl
theorem xm (c:UInt8) (f:List UInt8):fld (c::f)=esc c++fld f:=by simp [fld]
theorem kb (f g:List UInt8):fld (f++g)=fld f++fld g:=by simp [fld]
theorem yV:joinF []=[]:=rfl
theorem yt (f:List UInt8) (l:List (List UInt8)):joinF (f::l)=124::(fld f++joinF l):=by simp [joinF]
theorem yF (a b:List (List UInt8)):joinF (a++b)=joinF a++joinF b:=by simp [joinF]
def parse:List UInt8→Bool→List UInt8→List (List UInt8)→Option (List (List UInt8))
 | [],e,cur,done=>if e=true then none else some (done++[cur])
 | c::s,e,cur,done =>
  if e=true then (if spec c=true then parse s false (cur++[c]) done else none)
  else if c=124 then parse s false [] (done++[cur])
  else if c=92 then parse s true cur done
  else parse s false (cur++[c]) done
theorem jM (cur:List UInt8) (done:List (List UInt8)):parse [] false cur done=some (done++[cur]):=rfl
theorem jN (s cur:List UInt8) (done:List (List UInt8)):parse (124::s) false cur done=parse s false [] (done++[cur]):=rfl
theorem jm (d:UInt8) (s cur:List UInt8) (done:List (List UInt8)) (h:spec d=true):parse (92::d::s) false cur done=parse s false (cur++[d]) done:=by
 show parse (d::s) true cur done=_
 rw [parse,if_pos rfl,if_pos h]
theorem jz (d:UInt8) (s cur:List UInt8) (done:List (List UInt8)) (h:spec d=false):parse (92::d::s) false cur done=none:=by
 show parse (d::s) true cur done=_
 rw [parse,if_pos rfl,if_neg (by simp [h])]
theorem jA (cur:List UInt8) (done:List (List UInt8)):parse [92] false cur done=none:=rfl
theorem kQ (c:UInt8) (s cur:List UInt8) (done:List (List UInt8)) (h1:c≠124) (h2:c≠92):parse (c::s) false cur done=parse s false (cur++[c]) done:=by
 rw [parse,if_neg (by simp),if_neg h1,if_neg h2]
def splitF:List UInt8→Option (List (List UInt8))
 | []=>some []
 | c::s=>if c=124 then parse s false [] [] else none
theorem zjl (c:UInt8) (t cur:List UInt8) (done:List (List UInt8)):parse (esc c++t) false cur done=parse t false (cur++[c]) done:=by
 by_cases h:spec c=true
 ·rw [esc,if_pos h]
  exact jm c t cur done h
 ·rw [esc,if_neg h]
  exact kQ c t cur done (fun e=>h (by rw [e];rfl)) (fun e=>h (by rw [e];rfl))
theorem jO:∀(f t cur:List UInt8) (done:List (List UInt8)),parse (fld f++t) false cur done=parse t false (cur++f) done
 | [],t,cur,done=>by rw [xr];simp
 | c::f,t,cur,done=>by rw [xm,List.append_assoc,zjl,jO f];simp
theorem zap:∀(l:List (List UInt8)) (cur:List UInt8) (done:List (List UInt8)),parse (joinF l) false cur done=some (done++cur::l)
 | [],cur,done=>by rw [yV,jM]
 | f::l,cur,done=>by rw [yt,jN,jO,List.nil_append,zap l];simp
theorem zaq:∀ l:List (List UInt8),splitF (joinF l)=some l
 | []=>rfl
 | f::l=>by rw [yt,splitF,if_pos rfl,jO,List.nil_append,zap];rfl
theorem xz:∀(s:List UInt8) (e:Bool) (cur:List UInt8) (done r:List (List UInt8)),parse s e cur done=some r→joinF r=joinF done++124::(fld cur++(if e=true then 92::s else s))
 | [],e,cur,done,r,h=>by
  rw [parse]at h
  cases e with
  | true=>simp at h
  | false =>
   simp at h
   subst h
   rw [yF,yt,yV];simp
 | c::s,true,cur,done,r,h=>by
  rw [parse,if_pos rfl]at h
  by_cases h3:spec c=true
  ·rw [if_pos h3]at h
   rw [xz s false _ _ r h,kb,xm,xr,esc,if_pos h3]
   simp
  ·rw [if_neg h3]at h;cases h
 | c::s,false,cur,done,r,h=>by
  rw [parse,if_neg (by simp)]at h
  by_cases h1:c=124
  ·rw [if_pos h1]at h
   rw [xz s false _ _ r h,yF,yt,yV,xr,h1]
   simp
  ·rw [if_neg h1]at h
   by_cases h2:c=92
   ·rw [if_pos h2]at h
    rw [xz s true _ _ r h,h2]
    simp
   ·rw [if_neg h2]at h
    have h3:spec c=false:=by simp [spec,h1,h2]
    rw [xz s false _ _ r h,kb,xm,xr,esc,h3,if_neg (by simp)]
    simp
theorem zar (s:List UInt8) (l:List (List UInt8)) (h:splitF s=some l):joinF l=s:=by
 cases s with
 | nil=>rw [splitF]at h;cases h;rfl
 | cons c s =>
  rw [splitF]at h
  by_cases h1:c=124
  ·rw [if_pos h1]at h
   rw [xz s false [] [] l h,yV,xr,h1];rfl
  ·rw [if_neg h1]at h;cases h
open Go.RowKit
def rnd (x:Nat):Nat:=(x ^^^ x / 4294967296)*15485907386658061715%18446744073709551616
def mixC (a b:Nat):Nat :=
 let x:=rnd (rnd (a ^^^ (b*11400714819323198485%18446744073709551616)))
 x ^^^ x / 4294967296
theorem zjm:∃ f:Nat→Nat→Nat,f=mixC:=⟨_,rfl⟩
noncomputable def mixN:Nat→Nat→Nat:=Classical.choose zjm
theorem ql:mixN=mixC:=Classical.choose_spec zjm
noncomputable def mixL (h:Nat) (l:List UInt8):Nat:=l.foldl (fun h c=>mixN h c.toNat) h
noncomputable def sumL (tag b:List UInt8):Nat:=mixN (mixL (mixN (mixL 0 tag) 256) b) b.length
noncomputable def twoN (tag:List UInt8) (a b:Nat):Nat:=mixN (mixN (sumL tag []) a) b
noncomputable def chainN (s:Nat) (x:Nat):Nat→Nat
 | 0=>x
 | n+1=>mixN s (chainN s x n)
noncomputable def chainI (tag:List UInt8) (x:Nat) (n:Int):Nat:=chainN (sumL tag []) x (min n 255).toNat
def U64 (a:Int):Prop:=0≤a∧a<18446744073709551616
theorem jP (x:Nat):rnd x<18446744073709551616:=Nat.mod_lt _ (by decide)
theorem qX {a b:Nat} (ha:a<18446744073709551616) (hb:b<18446744073709551616):a ^^^ b<18446744073709551616 :=
 Nat.xor_lt_two_pow (n:=64) ha hb
theorem xI (a b:Nat):mixN a b<18446744073709551616:=by
 rw [ql]
 unfold mixC
 have h:=jP (rnd (a ^^^ (b*11400714819323198485%18446744073709551616)))
 exact qX h (Nat.lt_of_le_of_lt (Nat.div_le_self _ _) h)
theorem qY (a b:Nat):U64 (mixN a b:Int):=⟨by omega,by have:=xI a b;omega⟩
theorem zI {n:Nat} (h:n<18446744073709551616):U64 (n:Int):=⟨by omega,by omega⟩
theorem qZ (c:UInt8):U64 (c.toNat:Int):=⟨by omega,by have:=c.toNat_lt;omega⟩
theorem qo (x:Nat) (hx:x<18446744073709551616) :
 IntKind.u64.wrap (bits .xor .u64 (x:Int) ((x:Int) / 4294967296)*15485907386658061715)=((rnd x:Nat):Int):=by
 have h:=mixStep_u64 x 4294967296 15485907386658061715 hx
 simp only [Int.cast_ofNat_Int]at h
 exact h
theorem zgi (x:Nat) (hx:x<18446744073709551616) :
 bits .xor .u64 (x:Int) ((x:Int) / 4294967296)=((x ^^^ x / 4294967296:Nat):Int):=by
 have h:=xorShift_u64 x 4294967296 hx
 simp only [Int.cast_ofNat_Int]at h
 exact h
theorem zgj (a b:Nat) (ha:a<18446744073709551616) :
 bits .xor .u64 (a:Int) (IntKind.u64.wrap ((b:Int)*11400714819323198485))=((a ^^^ (b*11400714819323198485%18446744073709551616):Nat):Int):=by
 rw [IntKind.wrap_u64]
 have:((b:Int)*11400714819323198485)%18446744073709551616=((b*11400714819323198485%18446744073709551616:Nat):Int):=by
  rw [Int.natCast_emod,Int.natCast_mul];simp only [Int.cast_ofNat_Int]
 rw [this]
 exact bits_xor_u64_nat _ _ ha (Nat.mod_lt _ (by decide))
theorem zas {α β:Type} (f:α→β→α) (h:α) (l:List β) (c:β):(l++[c]).foldl f h=f (l.foldl f h) c:=by simp
theorem zhp {α β:Type} (P:α→Prop) (f:α→β→α) (hf:∀ a b,P (f a b)) (l:List β):∀ h,P h→P (l.foldl f h):=by
 induction l with
 | nil=>intro h hh;exact hh
 | cons c l ih=>intro h _;exact ih _ (hf _ _)
theorem jQ (h:Nat) (l:List UInt8) (c:UInt8):mixL h (l++[c])=mixN (mixL h l) c.toNat :=
 zas (fun h (c:UInt8)=>mixN h c.toNat) h l c
theorem kW (h:Nat) (l:List UInt8) (hh:h<18446744073709551616):mixL h l<18446744073709551616 :=
 zhp (·<18446744073709551616) (fun h (c:UInt8)=>mixN h c.toNat) (fun _ _=>xI _ _) l h hh
theorem zlz (h:Nat) (l:List UInt8) (hh:h<18446744073709551616):U64 (mixL h l:Nat):=zI (kW h l hh)
theorem zdn {n:Nat} (h:n≤4611686018427387904):U64 (n:Int):=⟨by omega,by omega⟩
theorem xe (t b:List UInt8):sumL t b<18446744073709551616:=xI _ _
theorem xt (t:List UInt8) (a b:Nat):twoN t a b<18446744073709551616:=xI _ _
theorem xT (s x n:Nat) (hx:x<18446744073709551616):chainN s x n<18446744073709551616:=by
 cases n with
 | zero=>exact hx
 | succ n=>exact xI _ _
theorem zgk (a b x y z:Nat) (h1:x=rnd (a ^^^ (b*11400714819323198485%18446744073709551616))) (h2:y=rnd x) (h3:z=y ^^^ y / 4294967296):mixN a b=z:=by
 rw [ql,h3,h2,h1]
 rfl
theorem zgl (t b:List UInt8) (n:Nat) (h:b.length=n):sumL t b=mixN (mixL (mixN (mixL 0 t) 256) b) n:=by subst h;rfl
theorem zgm (t:List UInt8) (a b:Nat):twoN t a b=mixN (mixN (sumL t []) a) b:=rfl
theorem y5 (s x n:Nat):chainN s x (n+1)=mixN s (chainN s x n):=rfl
theorem xA (t:List UInt8) (x:Nat) (n:Nat) (h:n≤255):chainI t x n=chainN (sumL t []) x n:=by
 unfold chainI
 rw [show(min (n:Int) 255).toNat=n by omega]
theorem zat (t:List UInt8) (x:Nat) (n:Int) (h:255≤n):chainI t x n=chainN (sumL t []) x 255:=by
 unfold chainI
 rw [show(min n 255).toNat=255 by omega]
theorem zau (t:List UInt8) (x:Nat) (n:Int) (h:n≤0):chainI t x n=x:=by
 unfold chainI
 rw [show(min n 255).toNat=0 by omega]
 rfl
theorem kJ (t:List UInt8) (x:Nat) (n:Int) (hx:x<18446744073709551616):chainI t x n<18446744073709551616:=xT _ _ _ hx
theorem jR (s:ByteArray) (k:Nat) (h:k<s.size):s.data.toList.take (k+1)=s.data.toList.take k++[s[k]]:=by
 rw [List.take_succ_eq_append_getElem (by simpa using h)];rfl
def mixLC (h:Nat) (l:List UInt8):Nat:=l.foldl (fun h c=>mixC h c.toNat) h
def sumC (tag b:List UInt8):Nat:=mixC (mixLC (mixC (mixLC 0 tag) 256) b) b.length
theorem zjn (h:Nat) (l:List UInt8):mixL h l=mixLC h l:=by unfold mixL mixLC;rw [ql]
theorem sumL_C (t b:List UInt8):sumL t b=sumC t b:=by unfold sumL sumC;rw [zjn,zjn,ql]
theorem zhq (s x m n:Nat):chainN s (chainN s x m) n=chainN s x (m+n):=by
 induction n with
 | zero=>rfl
 | succ n ih=>rw [y5,ih,Nat.add_succ,y5]
theorem zhr (t:List UInt8) (x:Nat) (m n:Int) (hm:0≤m) (hm':m≤127) (hn:0≤n) (hn':n≤127):chainI t (chainI t x m) n=chainI t x (m+n):=by
 obtain⟨m,rfl⟩:=Int.eq_ofNat_of_zero_le hm
 obtain⟨n,rfl⟩:=Int.eq_ofNat_of_zero_le hn
 rw [xA t x m (by omega),xA t _ n (by omega),zhq,show((m:Int)+(n:Int))=((m+n:Nat):Int) by omega,xA t x (m+n) (by omega)]
def hexDig (n:Nat):UInt8:=if n<10 then UInt8.ofNat (48+n) else UInt8.ofNat (87+n)
def hexL (d:Nat):List UInt8:=(List.range 16).map fun j=>hexDig (d / 16^(15-j)%16)
def hexS:ByteArray:=⟨#[48,49,50,51,52,53,54,55,56,57,97,98,99,100,101,102]⟩
theorem and15 (x:Nat) (hx:x<18446744073709551616):bits .and .u64 (x:Int) 15=((x%16:Nat):Int):=by
 have h:=u64_and_nat x 15 hx (by decide)
 simp only [Int.cast_ofNat_Int]at h
 rw [h,show x &&& 15=x%16 from Nat.and_two_pow_sub_one_eq_mod x 4]
theorem zn9 (n:Nat) (h:n<16):hexS.data[n]?=some (hexDig n):=by
 have:∀ n:Fin 16,hexS.data[n.val]?=some (hexDig n.val):=by decide
 exact this ⟨n,h⟩
theorem zdo (n:Nat) (hn:n<16):∀ h,(⟨#[48,49,50,51,52,53,54,55,56,57,97,98,99,100,101,102]⟩:ByteArray)[n]'h=hexDig n:=by
 intro h
 have:=zn9 n hn
 unfold hexS at this
 have h2:=(Array.getElem?_eq_some_iff.1 this).2
 exact h2
def rowT (d k:Nat):Array Value:=((List.range 16).map fun j=>if 16≤j+k then Value.int .u8 ((hexDig (d / 16^(15-j)%16)).toNat:Int) else .int .u8 0).toArray
theorem rowT_0 (d:Nat):rowT d 0=#[.int .u8 0,.int .u8 0,.int .u8 0,.int .u8 0,.int .u8 0,.int .u8 0,.int .u8 0,.int .u8 0,.int .u8 0,.int .u8 0,.int .u8 0,.int .u8 0,.int .u8 0,.int .u8 0,.int .u8 0,.int .u8 0]:=by
 rfl
theorem xU (d k:Nat):(rowT d k).size=16:=by simp [rowT]
theorem q4 (d k i:Nat) (h:i<(rowT d k).size):(rowT d k)[i]=if 16≤i+k then Value.int .u8 ((hexDig (d / 16^(15-i)%16)).toNat:Int) else .int .u8 0:=by
 simp [rowT]
theorem zl0 (d k:Nat) (h:k<16):(rowT d k).setIfInBounds (15-k) (.int .u8 ((hexDig (d / 16^k%16)).toNat:Int))=rowT d (k+1):=by
 apply Array.ext
 ·rw [Array.size_setIfInBounds,xU,xU]
 ·intro i h1 h2
  have hi:i<16:=by rw [xU]at h2;exact h2
  rw [Array.getElem_setIfInBounds,q4,q4]
  by_cases hk:15-k=i
  ·rw [if_pos hk,if_pos (by omega),show 15-i=k by omega]
  ·rw [if_neg hk]
   by_cases h16:16≤i+k
   ·rw [if_pos h16,if_pos (by omega)]
   ·rw [if_neg h16,if_neg (by omega)]
  ·rw [xU];exact hi
theorem zoa (d k:Nat) (h:k<16):(rowT d k)[15-k]?=some (.int .u8 0):=by
 rw [Array.getElem?_eq_getElem (by rw [xU];omega),q4,if_neg (by omega)]
theorem zob (d k q:Nat) (h:q=d / 16^k):q / 16=d / 16^(k+1):=by
 subst h
 rw [Nat.div_div_eq_div_mul,Nat.pow_succ]
theorem zoc (d:Nat):rowT d 16=((hexL d).map fun c=>Value.int .u8 (c.toNat:Int)).toArray:=by
 simp [rowT,hexL]
theorem zod (d k:Nat) (h:k<16):∃ q:Nat,q=d / 16^(15-k)∧((d:Int) / 2^(60-4*k))=(q:Int):=by
 refine⟨_,rfl,?_⟩
 have:16^(15-k)=2^(60-4*k):=by
  rw [show(16:Nat)=2^4 from rfl,←Nat.pow_mul]
  congr 1
  omega
 rw [this]
 simp
theorem ye (d:Nat):(hexL d).length=16:=by simp [hexL]
theorem zgn (d k:Nat) (h:k<16):(hexL d).take (k+1)=(hexL d).take k++[hexDig (d / 16^(15-k)%16)]:=by
 rw [List.take_succ_eq_append_getElem (by rw [ye];exact h)]
 simp [hexL]
def hexVal (c:UInt8):Option Nat :=
 if 48≤c.toNat∧c.toNat≤57 then some (c.toNat-48) else if 97≤c.toNat∧c.toNat≤102 then some (c.toNat-87) else none
theorem zhs (c:UInt8) (h:48≤c.toNat∧c.toNat≤57):hexVal c=some (c.toNat-48):=if_pos h
theorem zht (c:UInt8) (h:97≤c.toNat∧c.toNat≤102):hexVal c=some (c.toNat-87):=by
 unfold hexVal
 rw [if_neg (by omega),if_pos h]
theorem zjo (c:UInt8) (h:¬(48≤c.toNat∧c.toNat≤57)) (h':¬(97≤c.toNat∧c.toNat≤102)):hexVal c=none:=by
 unfold hexVal
 rw [if_neg h,if_neg h']
theorem xV (c:UInt8) (n:Nat) (h:hexVal c=some n):n<16:=by
 unfold hexVal at h
 split at h
 ·injection h with h;omega
 ·split at h
  ·injection h with h;omega
  ·cases h
def hexStepO (a:Option Nat) (c:UInt8):Option Nat:=a.bind fun d=>(hexVal c).map fun n=>d*16+n
def hexN (l:List UInt8):Option Nat:=l.foldl hexStepO (some 0)
theorem zl1:hexN []=some 0:=rfl
theorem kK (l:List UInt8) (c:UInt8):hexN (l++[c])=hexStepO (hexN l) c:=zas _ _ _ _
theorem zjp (l r:List UInt8) (h:hexN l=none):hexN (l++r)=none:=by
 unfold hexN at *
 rw [List.foldl_append,h]
 induction r with
 | nil=>rfl
 | cons c r ih=>exact ih
theorem zdp (l:List UInt8):l.foldl hexStepO none=none:=by
 induction l with
 | nil=>rfl
 | cons c l ih=>exact ih
theorem zav:∀(l:List UInt8) (d k n:Nat),d<16^k→l.foldl hexStepO (some d)=some n→n<16^(k+l.length)
 | [],d,k,n,hd,h=>by
  injection h with h
  subst h
  simpa using hd
 | c::l,d,k,n,hd,h=>by
  rw [List.foldl_cons]at h
  cases hc:hexVal c with
  | none =>
   have:hexStepO (some d) c=none:=by simp [hexStepO,hc]
   rw [this,zdp]at h
   cases h
  | some m =>
   have e:hexStepO (some d) c=some (d*16+m):=by simp [hexStepO,hc]
   rw [e]at h
   have hm:=xV c m hc
   have:=zav l (d*16+m) (k+1) n (by rw [Nat.pow_succ];omega) h
   rw [List.length_cons,show k+(l.length+1)=k+1+l.length by omega]
   exact this
theorem zgo (l:List UInt8) (n:Nat) (h:hexN l=some n):n<16^l.length:=by
 have:=zav l 0 0 n (by decide) h
 simpa using this
theorem zjq (l:List UInt8) (n:Nat) (hl:l.length≤15) (h:hexN l=some n):n<1152921504606846976:=by
 have h1:=zgo l n h
 have h2:16^l.length≤16^15:=Nat.pow_le_pow_right (by decide) hl
 have h3:(16:Nat)^15=1152921504606846976:=by decide
 omega
theorem shl_or (d n:Nat) (hd:d<1152921504606846976) (hn:n<16):bits .or .u64 ((d:Int)*16) (n:Int)=((d*16+n:Nat):Int):=by
 have h:=u64_or_nat (d*16) n (by omega) (by omega)
 rw [nat_join 4 (d*16) n (by omega) (by simpa using hn)]at h
 simpa using h
def parseO (l:List UInt8):Option Nat:=if l.length=16 then hexN l else none
def parseRes (o:Option Nat):Value:=match o with
 | some d=>.tuple #[.int .u64 d,.int .i64 0]
 | none=>.tuple #[.int .u64 0,.int .i64 2]
theorem zc6 (d:Nat):parseRes (some d)=.tuple #[.int .u64 d,.int .i64 0]:=rfl
theorem zc7:parseRes none=.tuple #[.int .u64 0,.int .i64 2]:=rfl
theorem zgp {o o':Option Nat} {v:Value} (h:o=o') (hv:v=parseRes o'):Ending.returned v=.returned (parseRes o):=by rw [h,hv]
theorem zhu (n:Nat) (h:n<16):hexVal (hexDig n)=some n:=by
 have:∀ n:Fin 16,hexVal (hexDig n.val)=some n.val:=by decide
 exact this ⟨n,h⟩
theorem zjr (d k:Nat) (h:k≤16) (hd:d<18446744073709551616):hexN ((hexL d).take k)=some (d / 16^(16-k)):=by
 induction k with
 | zero =>
  have:d / 16^16=0:=Nat.div_eq_of_lt (by have:(16:Nat)^16=18446744073709551616:=by decide
                                         omega)
  simp only [List.take_zero,zl1,Nat.sub_zero,this]
 | succ k ih =>
  rw [zgn d k (by omega),kK,ih (by omega)]
  simp only [hexStepO,Option.bind_some,zhu _ (Nat.mod_lt (d / 16^(15-k)) (show 0<16 by decide)),Option.map_some]
  congr 1
  rw [show 16-k=(15-k)+1 by omega,show 16-(k+1)=15-k by omega,Nat.pow_succ,←Nat.div_div_eq_div_mul]
  omega
theorem zjs (d:Nat) (hd:d<18446744073709551616):hexN (hexL d)=some d:=by
 have h:=zjr d 16 (zN9 _) hd
 rw [List.take_of_length_le (by rw [ye];exact zN9 _)]at h
 simpa using h
theorem kS (d:Nat) (hd:d<18446744073709551616):parseO (hexL d)=some d:=by
 unfold parseO
 rw [if_pos (ye d)]
 exact zjs d hd
theorem zhv (c:UInt8) (n:Nat) (h:hexVal c=some n):hexDig n=c:=by
 have:∀ c:Fin 256,∀ n:Fin 16,hexVal (UInt8.ofNat c.val)=some n.val→hexDig n.val=UInt8.ofNat c.val:=by decide +kernel
 have hc:UInt8.ofNat c.toNat=c:=by simp
 have:=this ⟨c.toNat,c.toNat_lt⟩ ⟨n,xV c n h⟩ (by rw [hc];exact h)
 rw [hc]at this
 exact this
theorem zdq (l:List UInt8) (d:Nat) (hl:l.length=16) (h:hexN l=some d):∀ k,k≤16→hexN (l.take k)=some (d / 16^(16-k)):=by
 intro k hk
 induction hj:16-k generalizing k with
 | zero =>
  have:k=16:=by omega
  subst this
  rw [List.take_of_length_le (by omega),h]
  simp
 | succ j ih =>
  have h1:=ih (k+1) (by omega) (by omega)
  have hk':k<l.length:=by omega
  rw [List.take_succ_eq_append_getElem hk',kK]at h1
  unfold hexStepO at h1
  cases hx:hexN (l.take k)with
  | none=>rw [hx]at h1;cases h1
  | some e =>
   rw [hx]at h1
   cases hc:hexVal l[k]with
   | none=>simp [hc]at h1
   | some n =>
    simp [hc]at h1
    have hn:=xV _ _ hc
    rw [Nat.pow_succ,←Nat.div_div_eq_div_mul,←h1]
    congr 1
    omega
theorem zjt (l:List UInt8) (d:Nat) (hl:l.length=16) (h:hexN l=some d):hexL d=l:=by
 have key:=zdq l d hl h
 apply List.ext_getElem
 ·rw [ye,hl]
 ·intro k h1 h2
  have hk:k<16:=by rw [ye]at h1;exact h1
  have e1:=key k (by omega)
  have e2:=key (k+1) (by omega)
  rw [List.take_succ_eq_append_getElem h2,kK,e1]at e2
  unfold hexStepO at e2
  cases hc:hexVal l[k]with
  | none=>simp [hc]at e2
  | some n =>
   simp [hc]at e2
   have hn:=xV _ _ hc
   rw [←zhv _ _ hc]
   simp only [hexL,List.getElem_map,List.getElem_range]
   congr 1
   have e3:d / 16^(16-k)*16+n=d / 16^(15-k):=by simpa using e2
   rw [←e3]
   omega
end Go.Proofs.YtkpnheenacchhaaGreatDoor
