/- Fields: how they are joined and parted, as functions on rows of bytes, and that each undoes the other. -/
import Derived.WalkKit
set_option linter.unusedSimpArgs false
set_option linter.unusedVariables false
set_option linter.unnecessarySimpa false
namespace Go.Proofs.YtidjnnnigcmdpaaGreatDoor
def spec (c:UInt8):Bool:=c==124||c==92
def esc (c:UInt8):List UInt8:=if spec c=true then [92,c] else [c]
def fld (f:List UInt8):List UInt8:=f.flatMap esc
def joinF (l:List (List UInt8)):List UInt8:=l.flatMap fun f=>124::fld f
theorem zdd:fld []=[]:=rfl
theorem jL (c:UInt8) (f:List UInt8):fld (c::f)=esc c++fld f:=by simp [fld]
theorem qq (f g:List UInt8):fld (f++g)=fld f++fld g:=by simp [fld]
theorem xS:joinF []=[]:=rfl
theorem yU (f:List UInt8) (l:List (List UInt8)):joinF (f::l)=124::(fld f++joinF l):=by simp [joinF]
theorem yH (a b:List (List UInt8)):joinF (a++b)=joinF a++joinF b:=by simp [joinF]
open Go.RowKit
def rnd (x:Nat):Nat:=(x ^^^ x / 4294967296)*15485907386658061715%18446744073709551616
def mixC (a b:Nat):Nat :=
 let x:=rnd (rnd (a ^^^ (b*11400714819323198485%18446744073709551616)))
 x ^^^ x / 4294967296
theorem zfw:∃ f:Nat→Nat→Nat,f=mixC:=⟨_,rfl⟩
noncomputable def mixN:Nat→Nat→Nat:=Classical.choose zfw
theorem xd:mixN=mixC:=Classical.choose_spec zfw
noncomputable def mixL (h:Nat) (l:List UInt8):Nat:=l.foldl (fun h c=>mixN h c.toNat) h
noncomputable def sumL (tag b:List UInt8):Nat:=mixN (mixL (mixN (mixL 0 tag) 256) b) b.length
noncomputable def twoN (tag:List UInt8) (a b:Nat):Nat:=mixN (mixN (sumL tag []) a) b
noncomputable def chainN (s:Nat) (x:Nat):Nat→Nat
 | 0=>x
 | n+1=>mixN s (chainN s x n)
noncomputable def chainI (tag:List UInt8) (x:Nat) (n:Int):Nat:=chainN (sumL tag []) x (min n 255).toNat
def U64 (a:Int):Prop:=0≤a∧a<18446744073709551616
theorem yI (x:Nat):rnd x<18446744073709551616:=Nat.mod_lt _ (by decide)
theorem yM {a b:Nat} (ha:a<18446744073709551616) (hb:b<18446744073709551616):a ^^^ b<18446744073709551616 :=
 Nat.xor_lt_two_pow (n:=64) ha hb
theorem ym (a b:Nat):mixN a b<18446744073709551616:=by
 rw [xd]
 unfold mixC
 have h:=yI (rnd (a ^^^ (b*11400714819323198485%18446744073709551616)))
 exact yM h (Nat.lt_of_le_of_lt (Nat.div_le_self _ _) h)
theorem jM (a b:Nat):U64 (mixN a b:Int):=⟨by omega,by have:=ym a b;omega⟩
theorem zE {n:Nat} (h:n<18446744073709551616):U64 (n:Int):=⟨by omega,by omega⟩
theorem jN (c:UInt8):U64 (c.toNat:Int):=⟨by omega,by have:=c.toNat_lt;omega⟩
theorem je (x:Nat) (hx:x<18446744073709551616) :
 IntKind.u64.wrap (bits .xor .u64 (x:Int) ((x:Int) / 4294967296)*15485907386658061715)=((rnd x:Nat):Int):=by
 have h:=mixStep_u64 x 4294967296 15485907386658061715 hx
 simp only [Int.cast_ofNat_Int]at h
 exact h
theorem zde (x:Nat) (hx:x<18446744073709551616) :
 bits .xor .u64 (x:Int) ((x:Int) / 4294967296)=((x ^^^ x / 4294967296:Nat):Int):=by
 have h:=xorShift_u64 x 4294967296 hx
 simp only [Int.cast_ofNat_Int]at h
 exact h
theorem zdf (a b:Nat) (ha:a<18446744073709551616) :
 bits .xor .u64 (a:Int) (IntKind.u64.wrap ((b:Int)*11400714819323198485))=((a ^^^ (b*11400714819323198485%18446744073709551616):Nat):Int):=by
 rw [IntKind.wrap_u64]
 have:((b:Int)*11400714819323198485)%18446744073709551616=((b*11400714819323198485%18446744073709551616:Nat):Int):=by
  rw [Int.natCast_emod,Int.natCast_mul];simp only [Int.cast_ofNat_Int]
 rw [this]
 exact bits_xor_u64_nat _ _ ha (Nat.mod_lt _ (by decide))
theorem zeb {α β:Type} (f:α→β→α) (h:α) (l:List β) (c:β):(l++[c]).foldl f h=f (l.foldl f h) c:=by simp
theorem zec {α β:Type} (P:α→Prop) (f:α→β→α) (hf:∀ a b,P (f a b)) (l:List β):∀ h,P h→P (l.foldl f h):=by
 induction l with
 | nil=>intro h hh;exact hh
 | cons c l ih=>intro h _;exact ih _ (hf _ _)
theorem kM (h:Nat) (l:List UInt8) (c:UInt8):mixL h (l++[c])=mixN (mixL h l) c.toNat :=
 zeb (fun h (c:UInt8)=>mixN h c.toNat) h l c
theorem x8 (h:Nat) (l:List UInt8) (hh:h<18446744073709551616):mixL h l<18446744073709551616 :=
 zec (·<18446744073709551616) (fun h (c:UInt8)=>mixN h c.toNat) (fun _ _=>ym _ _) l h hh
theorem zhl (h:Nat) (l:List UInt8) (hh:h<18446744073709551616):U64 (mixL h l:Nat):=zE (x8 h l hh)
theorem zbl {n:Nat} (h:n≤4611686018427387904):U64 (n:Int):=⟨by omega,by omega⟩
theorem yV (t b:List UInt8):sumL t b<18446744073709551616:=ym _ _
theorem xe (t:List UInt8) (a b:Nat):twoN t a b<18446744073709551616:=ym _ _
theorem xw (s x n:Nat) (hx:x<18446744073709551616):chainN s x n<18446744073709551616:=by
 cases n with
 | zero=>exact hx
 | succ n=>exact ym _ _
theorem zdg (a b x y z:Nat) (h1:x=rnd (a ^^^ (b*11400714819323198485%18446744073709551616))) (h2:y=rnd x) (h3:z=y ^^^ y / 4294967296):mixN a b=z:=by
 rw [xd,h3,h2,h1]
 rfl
theorem zdh (t b:List UInt8) (n:Nat) (h:b.length=n):sumL t b=mixN (mixL (mixN (mixL 0 t) 256) b) n:=by subst h;rfl
theorem zdi (t:List UInt8) (a b:Nat):twoN t a b=mixN (mixN (sumL t []) a) b:=rfl
theorem yB (s x n:Nat):chainN s x (n+1)=mixN s (chainN s x n):=rfl
theorem yW (t:List UInt8) (x:Nat) (n:Nat) (h:n≤255):chainI t x n=chainN (sumL t []) x n:=by
 unfold chainI
 rw [show(min (n:Int) 255).toNat=n by omega]
theorem qr (t:List UInt8) (x:Nat) (n:Int) (h:255≤n):chainI t x n=chainN (sumL t []) x 255:=by
 unfold chainI
 rw [show(min n 255).toNat=255 by omega]
theorem qw (t:List UInt8) (x:Nat) (n:Int) (h:n≤0):chainI t x n=x:=by
 unfold chainI
 rw [show(min n 255).toNat=0 by omega]
 rfl
theorem xT (t:List UInt8) (x:Nat) (n:Int) (hx:x<18446744073709551616):chainI t x n<18446744073709551616:=xw _ _ _ hx
theorem zap (s:ByteArray) (k:Nat) (h:k<s.size):s.data.toList.take (k+1)=s.data.toList.take k++[s[k]]:=by
 rw [List.take_succ_eq_append_getElem (by simpa using h)];rfl
def mixLC (h:Nat) (l:List UInt8):Nat:=l.foldl (fun h c=>mixC h c.toNat) h
def sumC (tag b:List UInt8):Nat:=mixC (mixLC (mixC (mixLC 0 tag) 256) b) b.length
theorem zfx (h:Nat) (l:List UInt8):mixL h l=mixLC h l:=by unfold mixL mixLC;rw [xd]
theorem qx (t b:List UInt8):sumL t b=sumC t b:=by unfold sumL sumC;rw [zfx,zfx,xd]
theorem zed (s x m n:Nat):chainN s (chainN s x m) n=chainN s x (m+n):=by
 induction n with
 | zero=>rfl
 | succ n ih=>rw [yB,ih,Nat.add_succ,yB]
theorem zee (t:List UInt8) (x:Nat) (m n:Int) (hm:0≤m) (hm':m≤127) (hn:0≤n) (hn':n≤127):chainI t (chainI t x m) n=chainI t x (m+n):=by
 obtain⟨m,rfl⟩:=Int.eq_ofNat_of_zero_le hm
 obtain⟨n,rfl⟩:=Int.eq_ofNat_of_zero_le hn
 rw [yW t x m (by omega),yW t _ n (by omega),zed,show((m:Int)+(n:Int))=((m+n:Nat):Int) by omega,yW t x (m+n) (by omega)]
def hexDig (n:Nat):UInt8:=if n<10 then UInt8.ofNat (48+n) else UInt8.ofNat (87+n)
def hexL (d:Nat):List UInt8:=(List.range 16).map fun j=>hexDig (d / 16^(15-j)%16)
def hexS:ByteArray:=⟨#[48,49,50,51,52,53,54,55,56,57,97,98,99,100,101,102]⟩
theorem and15 (x:Nat) (hx:x<18446744073709551616):bits .and .u64 (x:Int) 15=((x%16:Nat):Int):=by
 have h:=u64_and_nat x 15 hx (by decide)
 simp only [Int.cast_ofNat_Int]at h
 rw [h,show x &&& 15=x%16 from Nat.and_two_pow_sub_one_eq_mod x 4]
theorem zjt (n:Nat) (h:n<16):hexS.data[n]?=some (hexDig n):=by
 have:∀ n:Fin 16,hexS.data[n.val]?=some (hexDig n.val):=by decide
 exact this ⟨n,h⟩
theorem zbm (n:Nat) (hn:n<16):∀ h,(⟨#[48,49,50,51,52,53,54,55,56,57,97,98,99,100,101,102]⟩:ByteArray)[n]'h=hexDig n:=by
 intro h
 have:=zjt n hn
 unfold hexS at this
 have h2:=(Array.getElem?_eq_some_iff.1 this).2
 exact h2
def rowT (d k:Nat):Array Value:=((List.range 16).map fun j=>if 16≤j+k then Value.int .u8 ((hexDig (d / 16^(15-j)%16)).toNat:Int) else .int .u8 0).toArray
theorem rowT_0 (d:Nat):rowT d 0=#[.int .u8 0,.int .u8 0,.int .u8 0,.int .u8 0,.int .u8 0,.int .u8 0,.int .u8 0,.int .u8 0,.int .u8 0,.int .u8 0,.int .u8 0,.int .u8 0,.int .u8 0,.int .u8 0,.int .u8 0,.int .u8 0]:=by
 rfl
theorem xx (d k:Nat):(rowT d k).size=16:=by simp [rowT]
theorem jO (d k i:Nat) (h:i<(rowT d k).size):(rowT d k)[i]=if 16≤i+k then Value.int .u8 ((hexDig (d / 16^(15-i)%16)).toNat:Int) else .int .u8 0:=by
 simp [rowT]
theorem zhm (d k:Nat) (h:k<16):(rowT d k).setIfInBounds (15-k) (.int .u8 ((hexDig (d / 16^k%16)).toNat:Int))=rowT d (k+1):=by
 apply Array.ext
 ·rw [Array.size_setIfInBounds,xx,xx]
 ·intro i h1 h2
  have hi:i<16:=by rw [xx]at h2;exact h2
  rw [Array.getElem_setIfInBounds,jO,jO]
  by_cases hk:15-k=i
  ·rw [if_pos hk,if_pos (by omega),show 15-i=k by omega]
  ·rw [if_neg hk]
   by_cases h16:16≤i+k
   ·rw [if_pos h16,if_pos (by omega)]
   ·rw [if_neg h16,if_neg (by omega)]
  ·rw [xx];exact hi
theorem zju (d k:Nat) (h:k<16):(rowT d k)[15-k]?=some (.int .u8 0):=by
 rw [Array.getElem?_eq_getElem (by rw [xx];omega),jO,if_neg (by omega)]
theorem zjv (d k q:Nat) (h:q=d / 16^k):q / 16=d / 16^(k+1):=by
 subst h
 rw [Nat.div_div_eq_div_mul,Nat.pow_succ]
theorem zjw (d:Nat):rowT d 16=((hexL d).map fun c=>Value.int .u8 (c.toNat:Int)).toArray:=by
 simp [rowT,hexL]
theorem zjx (d k:Nat) (h:k<16):∃ q:Nat,q=d / 16^(15-k)∧((d:Int) / 2^(60-4*k))=(q:Int):=by
 refine⟨_,rfl,?_⟩
 have:16^(15-k)=2^(60-4*k):=by
  rw [show(16:Nat)=2^4 from rfl,←Nat.pow_mul]
  congr 1
  omega
 rw [this]
 simp
theorem yt (d:Nat):(hexL d).length=16:=by simp [hexL]
theorem zjy (d k:Nat) (h:k<16):(hexL d).take (k+1)=(hexL d).take k++[hexDig (d / 16^(15-k)%16)]:=by
 rw [List.take_succ_eq_append_getElem (by rw [yt];exact h)]
 simp [hexL]
def hexVal (c:UInt8):Option Nat :=
 if 48≤c.toNat∧c.toNat≤57 then some (c.toNat-48) else if 97≤c.toNat∧c.toNat≤102 then some (c.toNat-87) else none
def hexStepO (a:Option Nat) (c:UInt8):Option Nat:=a.bind fun d=>(hexVal c).map fun n=>d*16+n
def hexN (l:List UInt8):Option Nat:=l.foldl hexStepO (some 0)
def parseO (l:List UInt8):Option Nat:=if l.length=16 then hexN l else none
end Go.Proofs.YtidjnnnigcmdpaaGreatDoor
