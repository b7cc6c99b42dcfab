/- Fields: how they are joined and parted, as functions on rows of bytes, and that each undoes the other. -/
import Derived.WalkKit
set_option linter.unusedSimpArgs false
set_option linter.unusedVariables false
namespace Go.Proofs.YtkpnheenacchhaaGreatDoor
def spec (c:UInt8):Bool:=c==124||c==92
def esc (c:UInt8):List UInt8:=if spec c=true then [92,c] else [c]
def fld (f:List UInt8):List UInt8:=f.flatMap esc
def joinF (l:List (List UInt8)):List UInt8:=l.flatMap fun f=>124::fld f
theorem yY:fld []=[]:=rfl
theorem yV (c:UInt8) (f:List UInt8):fld (c::f)=esc c++fld f:=by simp [fld]
theorem xp (f g:List UInt8):fld (f++g)=fld f++fld g:=by simp [fld]
theorem yZ:joinF []=[]:=rfl
theorem yp (f:List UInt8) (l:List (List UInt8)):joinF (f::l)=124::(fld f++joinF l):=by simp [joinF]
theorem yH (a b:List (List UInt8)):joinF (a++b)=joinF a++joinF b:=by simp [joinF]
def parse:List UInt8→Bool→List UInt8→List (List UInt8)→Option (List (List UInt8))
 | [],e,cur,done=>if e=true then none else some (done++[cur])
 | c::s,e,cur,done =>
  if e=true then (if spec c=true then parse s false (cur++[c]) done else none)
  else if c=124 then parse s false [] (done++[cur])
  else if c=92 then parse s true cur done
  else parse s false (cur++[c]) done
theorem kO (cur:List UInt8) (done:List (List UInt8)):parse [] false cur done=some (done++[cur]):=rfl
theorem kP (s cur:List UInt8) (done:List (List UInt8)):parse (124::s) false cur done=parse s false [] (done++[cur]):=rfl
theorem km (d:UInt8) (s cur:List UInt8) (done:List (List UInt8)) (h:spec d=true):parse (92::d::s) false cur done=parse s false (cur++[d]) done:=by
 show parse (d::s) true cur done=_
 rw [parse,if_pos rfl,if_pos h]
theorem kC (d:UInt8) (s cur:List UInt8) (done:List (List UInt8)) (h:spec d=false):parse (92::d::s) false cur done=none:=by
 show parse (d::s) true cur done=_
 rw [parse,if_pos rfl,if_neg (by simp [h])]
theorem kD (cur:List UInt8) (done:List (List UInt8)):parse [92] false cur done=none:=rfl
theorem xQ (c:UInt8) (s cur:List UInt8) (done:List (List UInt8)) (h1:c≠124) (h2:c≠92):parse (c::s) false cur done=parse s false (cur++[c]) done:=by
 rw [parse,if_neg (by simp),if_neg h1,if_neg h2]
def splitF:List UInt8→Option (List (List UInt8))
 | []=>some []
 | c::s=>if c=124 then parse s false [] [] else none
theorem zfz (c:UInt8) (t cur:List UInt8) (done:List (List UInt8)):parse (esc c++t) false cur done=parse t false (cur++[c]) done:=by
 by_cases h:spec c=true
 ·rw [esc,if_pos h]
  exact km c t cur done h
 ·rw [esc,if_neg h]
  exact xQ c t cur done (fun e=>h (by rw [e];rfl)) (fun e=>h (by rw [e];rfl))
theorem kQ:∀(f t cur:List UInt8) (done:List (List UInt8)),parse (fld f++t) false cur done=parse t false (cur++f) done
 | [],t,cur,done=>by rw [yY];simp
 | c::f,t,cur,done=>by rw [yV,List.append_assoc,zfz,kQ f];simp
theorem jX:∀(l:List (List UInt8)) (cur:List UInt8) (done:List (List UInt8)),parse (joinF l) false cur done=some (done++cur::l)
 | [],cur,done=>by rw [yZ,kO]
 | f::l,cur,done=>by rw [yp,kP,kQ,List.nil_append,jX l];simp
theorem jY:∀ l:List (List UInt8),splitF (joinF l)=some l
 | []=>rfl
 | f::l=>by rw [yp,splitF,if_pos rfl,kQ,List.nil_append,jX];rfl
theorem xb:∀(s:List UInt8) (e:Bool) (cur:List UInt8) (done r:List (List UInt8)),parse s e cur done=some r→joinF r=joinF done++124::(fld cur++(if e=true then 92::s else s))
 | [],e,cur,done,r,h=>by
  rw [parse]at h
  cases e with
  | true=>simp at h
  | false =>
   simp at h
   subst h
   rw [yH,yp,yZ];simp
 | c::s,true,cur,done,r,h=>by
  rw [parse,if_pos rfl]at h
  by_cases h3:spec c=true
  ·rw [if_pos h3]at h
   rw [xb s false _ _ r h,xp,yV,yY,esc,if_pos h3]
   simp
  ·rw [if_neg h3]at h;cases h
 | c::s,false,cur,done,r,h=>by
  rw [parse,if_neg (by simp)]at h
  by_cases h1:c=124
  ·rw [if_pos h1]at h
   rw [xb s false _ _ r h,yH,yp,yZ,yY,h1]
   simp
  ·rw [if_neg h1]at h
   by_cases h2:c=92
   ·rw [if_pos h2]at h
    rw [xb s true _ _ r h,h2]
    simp
   ·rw [if_neg h2]at h
    have h3:spec c=false:=by simp [spec,h1,h2]
    rw [xb s false _ _ r h,xp,yV,yY,esc,h3,if_neg (by simp)]
    simp
theorem jZ (s:List UInt8) (l:List (List UInt8)) (h:splitF s=some l):joinF l=s:=by
 cases s with
 | nil=>rw [splitF]at h;cases h;rfl
 | cons c s =>
  rw [splitF]at h
  by_cases h1:c=124
  ·rw [if_pos h1]at h
   rw [xb s false [] [] l h,yZ,yY,h1];rfl
  ·rw [if_neg h1]at h;cases h
open Go.RowKit
def rnd (x:Nat):Nat:=(x ^^^ x / 4294967296)*15485907386658061715%18446744073709551616
def mixC (a b:Nat):Nat :=
 let x:=rnd (rnd (a ^^^ (b*11400714819323198485%18446744073709551616)))
 x ^^^ x / 4294967296
theorem zf0:∃ f:Nat→Nat→Nat,f=mixC:=⟨_,rfl⟩
noncomputable def mixN:Nat→Nat→Nat:=Classical.choose zf0
theorem je:mixN=mixC:=Classical.choose_spec zf0
noncomputable def mixL (h:Nat) (l:List UInt8):Nat:=l.foldl (fun h c=>mixN h c.toNat) h
noncomputable def sumL (tag b:List UInt8):Nat:=mixN (mixL (mixN (mixL 0 tag) 256) b) b.length
noncomputable def twoN (tag:List UInt8) (a b:Nat):Nat:=mixN (mixN (sumL tag []) a) b
noncomputable def chainN (s:Nat) (x:Nat):Nat→Nat
 | 0=>x
 | n+1=>mixN s (chainN s x n)
noncomputable def chainI (tag:List UInt8) (x:Nat) (n:Int):Nat:=chainN (sumL tag []) x (min n 255).toNat
def U64 (a:Int):Prop:=0≤a∧a<18446744073709551616
theorem zbe (x:Nat):rnd x<18446744073709551616:=Nat.mod_lt _ (by decide)
theorem zbf {a b:Nat} (ha:a<18446744073709551616) (hb:b<18446744073709551616):a ^^^ b<18446744073709551616 :=
 Nat.xor_lt_two_pow (n:=64) ha hb
theorem xx (a b:Nat):mixN a b<18446744073709551616:=by
 rw [je]
 unfold mixC
 have h:=zbe (rnd (a ^^^ (b*11400714819323198485%18446744073709551616)))
 exact zbf h (Nat.lt_of_le_of_lt (Nat.div_le_self _ _) h)
theorem zbg (a b:Nat):U64 (mixN a b:Int):=⟨by omega,by have:=xx a b;omega⟩
theorem zQ {n:Nat} (h:n<18446744073709551616):U64 (n:Int):=⟨by omega,by omega⟩
theorem zhy (c:UInt8):U64 (c.toNat:Int):=⟨by omega,by have:=c.toNat_lt;omega⟩
theorem zdq (x:Nat) (hx:x<18446744073709551616) :
 IntKind.u64.wrap (bits .xor .u64 (x:Int) ((x:Int) / 4294967296)*15485907386658061715)=((rnd x:Nat):Int):=by
 have h:=mixStep_u64 x 4294967296 15485907386658061715 hx
 simp only [Int.cast_ofNat_Int]at h
 exact h
theorem zj2 (x:Nat) (hx:x<18446744073709551616) :
 bits .xor .u64 (x:Int) ((x:Int) / 4294967296)=((x ^^^ x / 4294967296:Nat):Int):=by
 have h:=xorShift_u64 x 4294967296 hx
 simp only [Int.cast_ofNat_Int]at h
 exact h
theorem zj3 (a b:Nat) (ha:a<18446744073709551616) :
 bits .xor .u64 (a:Int) (IntKind.u64.wrap ((b:Int)*11400714819323198485))=((a ^^^ (b*11400714819323198485%18446744073709551616):Nat):Int):=by
 rw [IntKind.wrap_u64]
 have:((b:Int)*11400714819323198485)%18446744073709551616=((b*11400714819323198485%18446744073709551616:Nat):Int):=by
  rw [Int.natCast_emod,Int.natCast_mul];simp only [Int.cast_ofNat_Int]
 rw [this]
 exact bits_xor_u64_nat _ _ ha (Nat.mod_lt _ (by decide))
theorem qa {α β:Type} (f:α→β→α) (h:α) (l:List β) (c:β):(l++[c]).foldl f h=f (l.foldl f h) c:=by simp
theorem zel {α β:Type} (P:α→Prop) (f:α→β→α) (hf:∀ a b,P (f a b)) (l:List β):∀ h,P h→P (l.foldl f h):=by
 induction l with
 | nil=>intro h hh;exact hh
 | cons c l ih=>intro h _;exact ih _ (hf _ _)
theorem zf1 (h:Nat) (l:List UInt8) (c:UInt8):mixL h (l++[c])=mixN (mixL h l) c.toNat :=
 qa (fun h (c:UInt8)=>mixN h c.toNat) h l c
theorem qF (h:Nat) (l:List UInt8) (hh:h<18446744073709551616):mixL h l<18446744073709551616 :=
 zel (·<18446744073709551616) (fun h (c:UInt8)=>mixN h c.toNat) (fun _ _=>xx _ _) l h hh
theorem zhz (h:Nat) (l:List UInt8) (hh:h<18446744073709551616):U64 (mixL h l:Nat):=zQ (qF h l hh)
theorem zh0 {n:Nat} (h:n≤4611686018427387904):U64 (n:Int):=⟨by omega,by omega⟩
theorem y4 (t b:List UInt8):sumL t b<18446744073709551616:=xx _ _
theorem xy (t:List UInt8) (a b:Nat):twoN t a b<18446744073709551616:=xx _ _
theorem kR (s x n:Nat) (hx:x<18446744073709551616):chainN s x n<18446744073709551616:=by
 cases n with
 | zero=>exact hx
 | succ n=>exact xx _ _
theorem zj4 (a b x y z:Nat) (h1:x=rnd (a ^^^ (b*11400714819323198485%18446744073709551616))) (h2:y=rnd x) (h3:z=y ^^^ y / 4294967296):mixN a b=z:=by
 rw [je,h3,h2,h1]
 rfl
theorem zj5 (t b:List UInt8) (n:Nat) (h:b.length=n):sumL t b=mixN (mixL (mixN (mixL 0 t) 256) b) n:=by subst h;rfl
theorem zj6 (t:List UInt8) (a b:Nat):twoN t a b=mixN (mixN (sumL t []) a) b:=rfl
theorem xi (s x n:Nat):chainN s x (n+1)=mixN s (chainN s x n):=rfl
theorem xq (t:List UInt8) (x:Nat) (n:Nat) (h:n≤255):chainI t x n=chainN (sumL t []) x n:=by
 unfold chainI
 rw [show(min (n:Int) 255).toNat=n by omega]
theorem zem (t:List UInt8) (x:Nat) (n:Int) (h:255≤n):chainI t x n=chainN (sumL t []) x 255:=by
 unfold chainI
 rw [show(min n 255).toNat=255 by omega]
theorem zen (t:List UInt8) (x:Nat) (n:Int) (h:n≤0):chainI t x n=x:=by
 unfold chainI
 rw [show(min n 255).toNat=0 by omega]
 rfl
theorem kS (t:List UInt8) (x:Nat) (n:Int) (hx:x<18446744073709551616):chainI t x n<18446744073709551616:=kR _ _ _ hx
theorem zab (s:ByteArray) (k:Nat) (h:k<s.size):s.data.toList.take (k+1)=s.data.toList.take k++[s[k]]:=by
 rw [List.take_succ_eq_append_getElem (by simpa using h)];rfl
def mixLC (h:Nat) (l:List UInt8):Nat:=l.foldl (fun h c=>mixC h c.toNat) h
def sumC (tag b:List UInt8):Nat:=mixC (mixLC (mixC (mixLC 0 tag) 256) b) b.length
theorem zf2 (h:Nat) (l:List UInt8):mixL h l=mixLC h l:=by unfold mixL mixLC;rw [je]
theorem sumL_C (t b:List UInt8):sumL t b=sumC t b:=by unfold sumL sumC;rw [zf2,zf2,je]
theorem zeo (s x m n:Nat):chainN s (chainN s x m) n=chainN s x (m+n):=by
 induction n with
 | zero=>rfl
 | succ n ih=>rw [xi,ih,Nat.add_succ,xi]
theorem zep (t:List UInt8) (x:Nat) (m n:Int) (hm:0≤m) (hm':m≤127) (hn:0≤n) (hn':n≤127):chainI t (chainI t x m) n=chainI t x (m+n):=by
 obtain⟨m,rfl⟩:=Int.eq_ofNat_of_zero_le hm
 obtain⟨n,rfl⟩:=Int.eq_ofNat_of_zero_le hn
 rw [xq t x m (by omega),xq t _ n (by omega),zeo,show((m:Int)+(n:Int))=((m+n:Nat):Int) by omega,xq t x (m+n) (by omega)]
def hexDig (n:Nat):UInt8:=if n<10 then UInt8.ofNat (48+n) else UInt8.ofNat (87+n)
def hexL (d:Nat):List UInt8:=(List.range 16).map fun j=>hexDig (d / 16^(15-j)%16)
def hexS:ByteArray:=⟨#[48,49,50,51,52,53,54,55,56,57,97,98,99,100,101,102]⟩
theorem and15 (x:Nat) (hx:x<18446744073709551616):bits .and .u64 (x:Int) 15=((x%16:Nat):Int):=by
 have h:=u64_and_nat x 15 hx (by decide)
 simp only [Int.cast_ofNat_Int]at h
 rw [h,show x &&& 15=x%16 from Nat.and_two_pow_sub_one_eq_mod x 4]
theorem zj7 (n:Nat) (h:n<16):hexS.data[n]?=some (hexDig n):=by
 have:∀ n:Fin 16,hexS.data[n.val]?=some (hexDig n.val):=by decide
 exact this ⟨n,h⟩
theorem zh1 (n:Nat) (hn:n<16):∀ h,(⟨#[48,49,50,51,52,53,54,55,56,57,97,98,99,100,101,102]⟩:ByteArray)[n]'h=hexDig n:=by
 intro h
 have:=zj7 n hn
 unfold hexS at this
 have h2:=(Array.getElem?_eq_some_iff.1 this).2
 exact h2
def rowT (d k:Nat):Array Value:=((List.range 16).map fun j=>if 16≤j+k then Value.int .u8 ((hexDig (d / 16^(15-j)%16)).toNat:Int) else .int .u8 0).toArray
theorem rowT_0 (d:Nat):rowT d 0=#[.int .u8 0,.int .u8 0,.int .u8 0,.int .u8 0,.int .u8 0,.int .u8 0,.int .u8 0,.int .u8 0,.int .u8 0,.int .u8 0,.int .u8 0,.int .u8 0,.int .u8 0,.int .u8 0,.int .u8 0,.int .u8 0]:=by
 rfl
theorem xj (d k:Nat):(rowT d k).size=16:=by simp [rowT]
theorem jH (d k i:Nat) (h:i<(rowT d k).size):(rowT d k)[i]=if 16≤i+k then Value.int .u8 ((hexDig (d / 16^(15-i)%16)).toNat:Int) else .int .u8 0:=by
 simp [rowT]
theorem zh2 (d k:Nat) (h:k<16):(rowT d k).setIfInBounds (15-k) (.int .u8 ((hexDig (d / 16^k%16)).toNat:Int))=rowT d (k+1):=by
 apply Array.ext
 ·rw [Array.size_setIfInBounds,xj,xj]
 ·intro i h1 h2
  have hi:i<16:=by rw [xj]at h2;exact h2
  rw [Array.getElem_setIfInBounds,jH,jH]
  by_cases hk:15-k=i
  ·rw [if_pos hk,if_pos (by omega),show 15-i=k by omega]
  ·rw [if_neg hk]
   by_cases h16:16≤i+k
   ·rw [if_pos h16,if_pos (by omega)]
   ·rw [if_neg h16,if_neg (by omega)]
  ·rw [xj];exact hi
theorem zj8 (d k:Nat) (h:k<16):(rowT d k)[15-k]?=some (.int .u8 0):=by
 rw [Array.getElem?_eq_getElem (by rw [xj];omega),jH,if_neg (by omega)]
theorem zj9 (d k q:Nat) (h:q=d / 16^k):q / 16=d / 16^(k+1):=by
 subst h
 rw [Nat.div_div_eq_div_mul,Nat.pow_succ]
theorem zka (d:Nat):rowT d 16=((hexL d).map fun c=>Value.int .u8 (c.toNat:Int)).toArray:=by
 simp [rowT,hexL]
theorem zW (d:Nat):(hexL d).length=16:=by simp [hexL]
theorem zkb (d k:Nat) (h:k<16):(hexL d).take (k+1)=(hexL d).take k++[hexDig (d / 16^(15-k)%16)]:=by
 rw [List.take_succ_eq_append_getElem (by rw [zW];exact h)]
 simp [hexL]
def hexVal (c:UInt8):Option Nat :=
 if 48≤c.toNat∧c.toNat≤57 then some (c.toNat-48) else if 97≤c.toNat∧c.toNat≤102 then some (c.toNat-87) else none
theorem zeq (c:UInt8) (h:48≤c.toNat∧c.toNat≤57):hexVal c=some (c.toNat-48):=if_pos h
theorem zer (c:UInt8) (h:97≤c.toNat∧c.toNat≤102):hexVal c=some (c.toNat-87):=by
 unfold hexVal
 rw [if_neg (by omega),if_pos h]
theorem zf3 (c:UInt8) (h:¬(48≤c.toNat∧c.toNat≤57)) (h':¬(97≤c.toNat∧c.toNat≤102)):hexVal c=none:=by
 unfold hexVal
 rw [if_neg h,if_neg h']
theorem xk (c:UInt8) (n:Nat) (h:hexVal c=some n):n<16:=by
 unfold hexVal at h
 split at h
 ·injection h with h;omega
 ·split at h
  ·injection h with h;omega
  ·cases h
def hexStepO (a:Option Nat) (c:UInt8):Option Nat:=a.bind fun d=>(hexVal c).map fun n=>d*16+n
def hexN (l:List UInt8):Option Nat:=l.foldl hexStepO (some 0)
theorem zh3:hexN []=some 0:=rfl
theorem xL (l:List UInt8) (c:UInt8):hexN (l++[c])=hexStepO (hexN l) c:=qa _ _ _ _
theorem zf4 (l r:List UInt8) (h:hexN l=none):hexN (l++r)=none:=by
 unfold hexN at *
 rw [List.foldl_append,h]
 induction r with
 | nil=>rfl
 | cons c r ih=>exact ih
theorem zbh (l:List UInt8):l.foldl hexStepO none=none:=by
 induction l with
 | nil=>rfl
 | cons c l ih=>exact ih
theorem qc:∀(l:List UInt8) (d k n:Nat),d<16^k→l.foldl hexStepO (some d)=some n→n<16^(k+l.length)
 | [],d,k,n,hd,h=>by
  injection h with h
  subst h
  simpa using hd
 | c::l,d,k,n,hd,h=>by
  rw [List.foldl_cons]at h
  cases hc:hexVal c with
  | none =>
   have:hexStepO (some d) c=none:=by simp [hexStepO,hc]
   rw [this,zbh]at h
   cases h
  | some m =>
   have e:hexStepO (some d) c=some (d*16+m):=by simp [hexStepO,hc]
   rw [e]at h
   have hm:=xk c m hc
   have:=qc l (d*16+m) (k+1) n (by rw [Nat.pow_succ];omega) h
   rw [List.length_cons,show k+(l.length+1)=k+1+l.length by omega]
   exact this
theorem zdr (l:List UInt8) (n:Nat) (h:hexN l=some n):n<16^l.length:=by
 have:=qc l 0 0 n (by decide) h
 simpa using this
theorem zf5 (l:List UInt8) (n:Nat) (hl:l.length≤15) (h:hexN l=some n):n<1152921504606846976:=by
 have h1:=zdr l n h
 have h2:16^l.length≤16^15:=Nat.pow_le_pow_right (by decide) hl
 have h3:(16:Nat)^15=1152921504606846976:=by decide
 omega
theorem shl_or (d n:Nat) (hd:d<1152921504606846976) (hn:n<16):bits .or .u64 ((d:Int)*16) (n:Int)=((d*16+n:Nat):Int):=by
 have h:=u64_or_nat (d*16) n (by omega) (by omega)
 rw [nat_join 4 (d*16) n (by omega) (by simpa using hn)]at h
 simpa using h
def parseO (l:List UInt8):Option Nat:=if l.length=16 then hexN l else none
def parseRes (o:Option Nat):Value:=match o with
 | some d=>.tuple #[.int .u64 d,.int .i64 0]
 | none=>.tuple #[.int .u64 0,.int .i64 2]
theorem zax (d:Nat):parseRes (some d)=.tuple #[.int .u64 d,.int .i64 0]:=rfl
theorem zay:parseRes none=.tuple #[.int .u64 0,.int .i64 2]:=rfl
theorem zds {o o':Option Nat} {v:Value} (h:o=o') (hv:v=parseRes o'):Ending.returned v=.returned (parseRes o):=by rw [h,hv]
theorem zes (n:Nat) (h:n<16):hexVal (hexDig n)=some n:=by
 have:∀ n:Fin 16,hexVal (hexDig n.val)=some n.val:=by decide
 exact this ⟨n,h⟩
theorem zf6 (d k:Nat) (h:k≤16) (hd:d<18446744073709551616):hexN ((hexL d).take k)=some (d / 16^(16-k)):=by
 induction k with
 | zero =>
  have:d / 16^16=0:=Nat.div_eq_of_lt (by have:(16:Nat)^16=18446744073709551616:=by decide
                                         omega)
  simp only [List.take_zero,zh3,Nat.sub_zero,this]
 | succ k ih =>
  rw [zkb d k (by omega),xL,ih (by omega)]
  simp only [hexStepO,Option.bind_some,zes _ (Nat.mod_lt (d / 16^(15-k)) (show 0<16 by decide)),Option.map_some]
  congr 1
  rw [show 16-k=(15-k)+1 by omega,show 16-(k+1)=15-k by omega,Nat.pow_succ,←Nat.div_div_eq_div_mul]
  omega
theorem zf7 (d:Nat) (hd:d<18446744073709551616):hexN (hexL d)=some d:=by
 have h:=zf6 d 16 (Nat.le_refl _) hd
 rw [List.take_of_length_le (by rw [zW];exact Nat.le_refl _)]at h
 simpa using h
theorem xR (d:Nat) (hd:d<18446744073709551616):parseO (hexL d)=some d:=by
 unfold parseO
 rw [if_pos (zW d)]
 exact zf7 d hd
theorem zet (c:UInt8) (n:Nat) (h:hexVal c=some n):hexDig n=c:=by
 have:∀ c:Fin 256,∀ n:Fin 16,hexVal (UInt8.ofNat c.val)=some n.val→hexDig n.val=UInt8.ofNat c.val:=by decide +kernel
 have hc:UInt8.ofNat c.toNat=c:=by simp
 have:=this ⟨c.toNat,c.toNat_lt⟩ ⟨n,xk c n h⟩ (by rw [hc];exact h)
 rw [hc]at this
 exact this
theorem zbi (l:List UInt8) (d:Nat) (hl:l.length=16) (h:hexN l=some d):∀ k,k≤16→hexN (l.take k)=some (d / 16^(16-k)):=by
 intro k hk
 induction hj:16-k generalizing k with
 | zero =>
  have:k=16:=by omega
  subst this
  rw [List.take_of_length_le (by omega),h]
  simp
 | succ j ih =>
  have h1:=ih (k+1) (by omega) (by omega)
  have hk':k<l.length:=by omega
  rw [List.take_succ_eq_append_getElem hk',xL]at h1
  unfold hexStepO at h1
  cases hx:hexN (l.take k)with
  | none=>rw [hx]at h1;cases h1
  | some e =>
   rw [hx]at h1
   cases hc:hexVal l[k]with
   | none=>simp [hc]at h1
   | some n =>
    simp [hc]at h1
    have hn:=xk _ _ hc
    rw [Nat.pow_succ,←Nat.div_div_eq_div_mul,←h1]
    congr 1
    omega
theorem zf8 (l:List UInt8) (d:Nat) (hl:l.length=16) (h:hexN l=some d):hexL d=l:=by
 have key:=zbi l d hl h
 apply List.ext_getElem
 ·rw [zW,hl]
 ·intro k h1 h2
  have hk:k<16:=by rw [zW]at h1;exact h1
  have e1:=key k (by omega)
  have e2:=key (k+1) (by omega)
  rw [List.take_succ_eq_append_getElem h2,xL,e1]at e2
  unfold hexStepO at e2
  cases hc:hexVal l[k]with
  | none=>simp [hc]at e2
  | some n =>
   simp [hc]at e2
   have hn:=xk _ _ hc
   rw [←zet _ _ hc]
   simp only [hexL,List.getElem_map,List.getElem_range]
   congr 1
   have e3:d / 16^(16-k)*16+n=d / 16^(15-k):=by simpa using e2
   rw [←e3]
   omega
end Go.Proofs.YtkpnheenacchhaaGreatDoor
