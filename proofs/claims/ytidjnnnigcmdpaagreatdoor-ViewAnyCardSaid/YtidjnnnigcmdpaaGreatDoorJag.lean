/- Contracts of package hash and of the document's digests in the reference. -/
import Derived.Test.YtidjnnnigcmdpaaGreatDoorJzz
import Derived.Test.YtidjnnnigcmdpaaGreatDoorProg
import Derived.WalkKit
import Derived.Lib.Hide
import Derived.Test.YtidjnnnigcmdpaaGreatDoorJac
import Derived.Test.YtidjnnnigcmdpaaGreatDoorJad
set_option maxRecDepth 100000
set_option linter.unusedSimpArgs false
set_option linter.unusedVariables false
set_option linter.unnecessarySimpa false
namespace Go.Proofs.YtidjnnnigcmdpaaGreatDoor
open Go.RowKit
theorem xm (a b:Int) (ha:U64 a) (hb:U64 b) (w:World) :
 Calls Tryz.prog 168 #[.int .u64 a,.int .u64 b] w fun e w'=>e=.returned (.int .u64 (mixN a.toNat b.toNat:Nat))∧w=w':=by
 obtain⟨ha0,ha1⟩:=ha
 obtain⟨hb0,hb1⟩:=hb
 obtain⟨a,rfl⟩:=Int.eq_ofNat_of_zero_le ha0
 obtain⟨b,rfl⟩:=Int.eq_ofNat_of_zero_le hb0
 have h1:=yI (a ^^^ (b*11400714819323198485%18446744073709551616))
 have h2:=yI (rnd (a ^^^ (b*11400714819323198485%18446744073709551616)))
 have h0:a ^^^ (b*11400714819323198485%18446744073709551616)<18446744073709551616:=yM (by omega) (Nat.mod_lt _ (by decide))
 have e0:=zdf a b (by omega)
 have e1:=je _ h0
 have e2:=je _ h1
 have e3:=zde _ h2
 go_enter Tryz.func168,Tryz.ntmps168
 go_wp2
 refine wp_loop_rounds 3 ?_
 rw [rounds_succ]
 go_wp2
 rw [rounds_succ]
 go_wp2
 rw [rounds_succ]
 go_wp2
 go_ret
 refine⟨?_,rfl⟩
 simp only [Int.toNat_natCast]
 exact ye (by rw [zdg a b _ _ _ rfl rfl rfl])
theorem yA (a b:Int) (ha:U64 a) (hb:U64 b) (w:World) :
 Calls Tryz.prog 192 #[.int .u64 a,.int .u64 b] w fun e w'=>e=.returned (.int .u64 (mixN a.toNat b.toNat:Nat))∧w=w':=by
 obtain⟨ha0,ha1⟩:=ha
 obtain⟨hb0,hb1⟩:=hb
 obtain⟨a,rfl⟩:=Int.eq_ofNat_of_zero_le ha0
 obtain⟨b,rfl⟩:=Int.eq_ofNat_of_zero_le hb0
 have h1:=yI (a ^^^ (b*11400714819323198485%18446744073709551616))
 have h2:=yI (rnd (a ^^^ (b*11400714819323198485%18446744073709551616)))
 have h0:a ^^^ (b*11400714819323198485%18446744073709551616)<18446744073709551616:=yM (by omega) (Nat.mod_lt _ (by decide))
 have e0:=zdf a b (by omega)
 have e1:=je _ h0
 have e2:=je _ h1
 have e3:=zde _ h2
 go_enter Tryz.func192,Tryz.ntmps192
 go_wp2
 go_ret
 refine⟨?_,rfl⟩
 simp only [Int.toNat_natCast]
 exact ye (by rw [zdg a b _ _ _ rfl rfl rfl])
theorem jx (h:Int) (s:ByteArray) (hh:U64 h) (hs:s.size≤4611686018427387904) (w:World) :
 Calls Tryz.prog 169 #[.int .u64 h,.string s] w fun e w'=>e=.returned (.int .u64 (mixL h.toNat s.data.toList:Nat))∧w=w':=by
 obtain⟨hh0,hh1⟩:=hh
 obtain⟨h,rfl⟩:=Int.eq_ofNat_of_zero_le hh0
 have hb:h<18446744073709551616:=by omega
 clear hh0 hh1
 rw [Int.toNat_natCast]
 go_enter Tryz.func169,Tryz.ntmps169
 go_wp2
 go_loop [0,8] (fun v i=>∃ k:Nat,k≤s.size∧i=.int .i64 k∧v=.int .u64 (mixL h (s.data.toList.take k):Nat)) (fun _ i=>s.size-(intOf i).toNat)
 case atStart=>exact⟨0,Nat.zero_le _,rfl,rfl⟩
 case round =>
  obtain⟨k,hk,rfl,rfl⟩:=hrel
  have hm:=x8 h (s.data.toList.take k) hb
  by_cases hlt:k<s.size
  ·have hsn:mixL h (s.data.toList.take (k+1))=mixN (mixL h (s.data.toList.take k)) s[k].toNat:=by rw [zap s k hlt,kM]
   have HS:=hQ9 hsn
   have hc:=s[k].toNat_lt
   clear hsn
   go_wp2_with(go_at_call 168;refine(xm _ _ (zE hm) (jN _) _).mono ?_;rintro e w' ⟨rfl,rfl⟩)
   go_round
   case rel=>exact⟨k+1,by omega,by go_num,by rw [HS.out]⟩
   case measure=>simp [intOf];omega
  ·have hkk:s.data.toList.take k=s.data.toList:=List.take_of_length_le (by simp;omega)
   have HK:=hQ9 hkk
   clear hkk
   go_wp2
   go_ret
   exact⟨ye (by rw [HK.out]),rfl⟩
theorem xO (t s:ByteArray) (ht:t.size≤4611686018427387904) (hs:s.size≤4611686018427387904) (w:World) :
 Calls Tryz.prog 115 #[.string t,.string s] w fun e w'=>e=.returned (.int .u64 (sumL t.data.toList s.data.toList:Nat))∧w=w':=by
 have h0:U64 0:=⟨by omega,by omega⟩
 have h256:U64 256:=⟨by omega,by omega⟩
 have hm0:=x8 0 t.data.toList (by omega)
 have hfin:=zdh t.data.toList s.data.toList s.size rfl
 have HF:=hQ9 hfin
 clear hfin
 go_enter Tryz.func115,Tryz.ntmps115
 go_wp2_with fail
 refine(jx _ _ h0 ht _).mono ?_
 rintro e w' ⟨rfl,rfl⟩
 go_wp2_with fail
 refine(xm _ _ (zE hm0) h256 _).mono ?_
 rintro e w' ⟨rfl,rfl⟩
 go_wp2_with fail
 refine(jx _ _ (jM _ _) hs _).mono ?_
 rintro e w' ⟨rfl,rfl⟩
 go_wp2_with fail
 refine(xm _ _ (zhl _ _ (ym _ _)) (zbl hs) _).mono ?_
 rintro e w' ⟨rfl,rfl⟩
 go_wp2_with fail
 go_ret
 exact⟨ye (by rw [HF.out]),rfl⟩
theorem jg (t:ByteArray) (a b:Int) (ht:t.size≤4611686018427387904) (ha:U64 a) (hb:U64 b) (w:World) :
 Calls Tryz.prog 209 #[.string t,.int .u64 a,.int .u64 b] w fun e w'=>e=.returned (.int .u64 (twoN t.data.toList a.toNat b.toNat:Nat))∧w=w':=by
 have HF:=hQ9 (zdi t.data.toList a.toNat b.toNat)
 have hs0:=yV t.data.toList []
 go_enter Tryz.func209,Tryz.ntmps209
 go_wp2_with fail
 refine(xO t ⟨#[]⟩ ht (by decide) _).mono ?_
 rintro e w' ⟨rfl,rfl⟩
 go_wp2_with fail
 refine(xm _ _ (zE hs0) ha _).mono ?_
 rintro e w' ⟨rfl,rfl⟩
 go_wp2_with fail
 refine(xm _ _ (jM _ _) hb _).mono ?_
 rintro e w' ⟨rfl,rfl⟩
 go_wp2_with fail
 go_ret
 exact⟨ye (by rw [HF.out]),rfl⟩
theorem kO (t:ByteArray) (x n:Int) (ht:t.size≤4611686018427387904) (hx:U64 x) (hn:-9223372036854775808≤n) (hn':n≤9223372036854775807) (w:World) :
 Calls Tryz.prog 252 #[.string t,.int .u64 x,.int .i64 n] w fun e w'=>e=.returned (.int .u64 (chainI t.data.toList x.toNat n:Nat))∧w=w':=by
 have hs0:=yV t.data.toList []
 obtain⟨hx0,hx1⟩:=hx
 obtain⟨x,rfl⟩:=Int.eq_ofNat_of_zero_le hx0
 have hxb:x<18446744073709551616:=by omega
 clear hx0 hx1
 rw [Int.toNat_natCast]
 by_cases h0:n≤0
 ·have HF:=hQ9 (qw t.data.toList x n h0)
  go_enter Tryz.func252,Tryz.ntmps252
  go_wp2_with fail
  refine(xO t ⟨#[]⟩ ht (by decide) _).mono ?_
  rintro e w' ⟨rfl,rfl⟩
  go_wp2_with fail
  refine wp_loop_rounds 1 ?_
  rw [rounds_succ]
  go_wp2
  go_ret
  exact⟨ye (by rw [HF.out]),rfl⟩
 ·by_cases h1:n≤255
  ·obtain⟨m,rfl⟩:=Int.eq_ofNat_of_zero_le (show 0≤n by omega)
   have hm:m≤255:=by omega
   have HF:=hQ9 (yW t.data.toList x m hm)
   go_enter Tryz.func252,Tryz.ntmps252
   go_wp2_with fail
   refine(xO t ⟨#[]⟩ ht (by decide) _).mono ?_
   rintro e w' ⟨rfl,rfl⟩
   go_wp2_with fail
   go_loop [1,12] (fun v i=>∃ k:Nat,k≤m∧i=.int .i64 k∧v=.int .u64 (chainN (sumL t.data.toList []) x k:Nat)) (fun _ i=>m-(intOf i).toNat)
   case atStart=>exact⟨0,Nat.zero_le _,rfl,rfl⟩
   case round =>
    obtain⟨k,hk,rfl,rfl⟩:=hrel
    have hc:=xw (sumL t.data.toList []) x k hxb
    by_cases hlt:k<m
    ·have HS:=hQ9 (yB (sumL t.data.toList []) x k)
     go_wp2_with(go_at_call 168;refine(xm _ _ (zE hs0) (zE hc) _).mono ?_;rintro e w' ⟨rfl,rfl⟩)
     go_round
     case rel=>exact⟨k+1,by omega,by go_num,by rw [HS.out]⟩
     case measure=>simp [intOf];omega
    ·obtain rfl:k=m:=by omega
     go_wp2
     go_ret
     exact⟨ye (by rw [HF.out]),rfl⟩
  ·have HF:=hQ9 (qr t.data.toList x n (by omega))
   go_enter Tryz.func252,Tryz.ntmps252
   go_wp2_with fail
   refine(xO t ⟨#[]⟩ ht (by decide) _).mono ?_
   rintro e w' ⟨rfl,rfl⟩
   go_wp2_with fail
   go_loop [1,12] (fun v i=>∃ k:Nat,k≤255∧i=.int .i64 k∧v=.int .u64 (chainN (sumL t.data.toList []) x k:Nat)) (fun _ i=>255-(intOf i).toNat)
   case atStart=>exact⟨0,Nat.zero_le _,rfl,rfl⟩
   case round =>
    obtain⟨k,hk,rfl,rfl⟩:=hrel
    have hc:=xw (sumL t.data.toList []) x k hxb
    by_cases hlt:k<255
    ·have HS:=hQ9 (yB (sumL t.data.toList []) x k)
     go_wp2_with(go_at_call 168;refine(xm _ _ (zE hs0) (zE hc) _).mono ?_;rintro e w' ⟨rfl,rfl⟩)
     go_round
     case rel=>exact⟨k+1,by omega,by go_num,by rw [HS.out]⟩
     case measure=>simp [intOf];omega
    ·have HK:=hQ9 (show k=255 by omega)
     go_wp2
     go_ret
     exact⟨ye (by rw [HF.out,HK.out]),rfl⟩
theorem xj (t:ByteArray) (A:Option Addr) (c B:Nat) (l:List UInt8) (ht:t.size≤4611686018427387904) (hs:l.length≤4611686018427387904) (w:World) (hr:Rd w B A (l.map byteV)) :
 Calls Tryz.prog 138 #[.string t,.slice A l.length c] w fun e w'=>e=.returned (.int .u64 (sumL t.data.toList l:Nat))∧w=w':=by
 have h256:U64 256:=⟨by omega,by omega⟩
 have HF:=hQ9 (zdh t.data.toList l l.length rfl)
 go_enter Tryz.func138,Tryz.ntmps138
 go_wp2
 go_loop [5,7] (fun v i=>∃ k:Nat,k≤t.size∧i=.int .i64 k∧v=.int .u64 (mixL 0 (t.data.toList.take k):Nat)) (fun _ i=>t.size-(intOf i).toNat)
 case atStart=>exact⟨0,Nat.zero_le _,rfl,rfl⟩
 case round =>
  obtain⟨k,hk,rfl,rfl⟩:=hrel
  have hm:=x8 0 (t.data.toList.take k) (by omega)
  by_cases hlt:k<t.size
  ·have hsn:mixL 0 (t.data.toList.take (k+1))=mixN (mixL 0 (t.data.toList.take k)) t[k].toNat:=by rw [zap t k hlt,kM]
   have HS:=hQ9 hsn
   have hc:=t[k].toNat_lt
   clear hsn
   go_wp2_with(go_at_call 192;refine(yA _ _ (zE hm) (jN _) _).mono ?_;rintro e w' ⟨rfl,rfl⟩)
   go_round
   case rel=>exact⟨k+1,by omega,by go_num,by rw [HS.out]⟩
   case measure=>simp [intOf];omega
  ·have hkk:t.data.toList.take k=t.data.toList:=List.take_of_length_le (by simp;omega)
   have HK:=hQ9 hkk
   clear hkk
   go_wp2_with fail
   refine(yA _ _ (zE hm) h256 _).mono ?_
   rintro e w' ⟨rfl,rfl⟩
   go_wp2_with fail
   rw [HK.out]
   go_loop [5,6,8] (fun v n i=>∃ j:Nat,j≤l.length∧i=.int .i64 j∧n=.int .u64 j∧v=.int .u64 (mixL (mixN (mixL 0 t.data.toList) 256) (l.take j):Nat)) (fun _ _ i=>l.length-(intOf i).toNat)
   case atStart=>exact⟨0,Nat.zero_le _,rfl,rfl,rfl⟩
   case round =>
    obtain⟨j,hj,rfl,rfl,rfl⟩:=hrel
    have hm2:=x8 (mixN (mixL 0 t.data.toList) 256) (l.take j) (ym _ _)
    by_cases hjl:j<l.length
    ·have hsn:mixL (mixN (mixL 0 t.data.toList) 256) (l.take (j+1))=mixN (mixL (mixN (mixL 0 t.data.toList) 256) (l.take j)) l[j].toNat:=by rw [List.take_succ_eq_append_getElem hjl,kM]
     have HS:=hQ9 hsn
     have hc:=l[j].toNat_lt
     clear hsn
     obtain⟨ad,rfl,hbl,hcell⟩:=hr j (by simpa using hjl)
     rw [zaq]at hcell
     go_wp2_with(go_at_call 192;refine(yA _ _ (zE hm2) (jN _) _).mono ?_;rintro e w' ⟨rfl,rfl⟩)
     go_round
     case rel=>exact⟨j+1,by omega,by go_num,by go_num,by rw [HS.out]⟩
     case measure=>simp [intOf];omega
    ·have hjj:l.take j=l:=List.take_of_length_le (by omega)
     have HJ:=hQ9 hjj
     have HN:=hQ9 (show j=l.length by omega)
     clear hjj
     go_wp2_with(go_at_call 192;refine(yA _ _ (zE hm2) (zbl (by omega)) _).mono ?_;rintro e w' ⟨rfl,rfl⟩)
     go_ret
     exact⟨ye (by rw [HF.out,HJ.out,HN.out]),rfl⟩
theorem kx (t:ByteArray) (a b:Int) (ht:t.size≤4611686018427387904) (ha:U64 a) (hb:U64 b) (w:World) :
 Calls Tryz.prog 276 #[.string t,.int .u64 a,.int .u64 b] w fun e w'=>e=.returned (.int .u64 (twoN t.data.toList a.toNat b.toNat:Nat))∧w=w':=by
 have HF:=hQ9 (zdi t.data.toList a.toNat b.toNat)
 have hs0:=yV t.data.toList []
 go_enter Tryz.func276,Tryz.ntmps276
 go_wp2_with fail
 refine(xj t none 0 0 [] ht (by simp) _ (Rd.nil_ _ _ _)).mono ?_
 rintro e w' ⟨rfl,rfl⟩
 go_wp2_with fail
 refine(yA _ _ (zE hs0) ha _).mono ?_
 rintro e w' ⟨rfl,rfl⟩
 go_wp2_with fail
 refine(yA _ _ (jM _ _) hb _).mono ?_
 rintro e w' ⟨rfl,rfl⟩
 go_wp2_with fail
 go_ret
 exact⟨ye (by rw [HF.out]),rfl⟩
theorem zbo (t:ByteArray) (x n:Int) (ht:t.size≤4611686018427387904) (hx:U64 x) (hn:-9223372036854775808≤n) (hn':n≤9223372036854775807) (w:World) :
 Calls Tryz.prog 248 #[.string t,.int .u64 x,.int .i64 n] w fun e w'=>e=.returned (.int .u64 (chainI t.data.toList x.toNat n:Nat))∧w=w':=by
 have hs0:=yV t.data.toList []
 obtain⟨hx0,hx1⟩:=hx
 obtain⟨x,rfl⟩:=Int.eq_ofNat_of_zero_le hx0
 have hxb:x<18446744073709551616:=by omega
 clear hx0 hx1
 rw [Int.toNat_natCast]
 by_cases h0:n≤0
 ·have HF:=hQ9 (qw t.data.toList x n h0)
  go_enter Tryz.func248,Tryz.ntmps248
  go_wp2_with fail
  refine(xj t none 0 0 [] ht (by simp) _ (Rd.nil_ _ _ _)).mono ?_
  rintro e w' ⟨rfl,rfl⟩
  go_wp2_with fail
  refine wp_loop_rounds 1 ?_
  rw [rounds_succ]
  go_wp2
  go_ret
  exact⟨ye (by rw [HF.out]),rfl⟩
 ·by_cases h1:n≤255
  ·obtain⟨m,rfl⟩:=Int.eq_ofNat_of_zero_le (show 0≤n by omega)
   have hm:m≤255:=by omega
   have HF:=hQ9 (yW t.data.toList x m hm)
   go_enter Tryz.func248,Tryz.ntmps248
   go_wp2_with fail
   refine(xj t none 0 0 [] ht (by simp) _ (Rd.nil_ _ _ _)).mono ?_
   rintro e w' ⟨rfl,rfl⟩
   go_wp2_with fail
   go_loop [1,8] (fun v i=>∃ k:Nat,k≤m∧i=.int .i64 k∧v=.int .u64 (chainN (sumL t.data.toList []) x k:Nat)) (fun _ i=>m-(intOf i).toNat)
   case atStart=>exact⟨0,Nat.zero_le _,rfl,rfl⟩
   case round =>
    obtain⟨k,hk,rfl,rfl⟩:=hrel
    have hc:=xw (sumL t.data.toList []) x k hxb
    by_cases hlt:k<m
    ·have HS:=hQ9 (yB (sumL t.data.toList []) x k)
     go_wp2_with(go_at_call 192;refine(yA _ _ (zE hs0) (zE hc) _).mono ?_;rintro e w' ⟨rfl,rfl⟩)
     go_round
     case rel=>exact⟨k+1,by omega,by go_num,by rw [HS.out]⟩
     case measure=>simp [intOf];omega
    ·obtain rfl:k=m:=by omega
     go_wp2
     go_ret
     exact⟨ye (by rw [HF.out]),rfl⟩
  ·have HF:=hQ9 (qr t.data.toList x n (by omega))
   go_enter Tryz.func248,Tryz.ntmps248
   go_wp2_with fail
   refine(xj t none 0 0 [] ht (by simp) _ (Rd.nil_ _ _ _)).mono ?_
   rintro e w' ⟨rfl,rfl⟩
   go_wp2_with fail
   go_loop [1,8] (fun v i=>∃ k:Nat,k≤255∧i=.int .i64 k∧v=.int .u64 (chainN (sumL t.data.toList []) x k:Nat)) (fun _ i=>255-(intOf i).toNat)
   case atStart=>exact⟨0,Nat.zero_le _,rfl,rfl⟩
   case round =>
    obtain⟨k,hk,rfl,rfl⟩:=hrel
    have hc:=xw (sumL t.data.toList []) x k hxb
    by_cases hlt:k<255
    ·have HS:=hQ9 (yB (sumL t.data.toList []) x k)
     go_wp2_with(go_at_call 192;refine(yA _ _ (zE hs0) (zE hc) _).mono ?_;rintro e w' ⟨rfl,rfl⟩)
     go_round
     case rel=>exact⟨k+1,by omega,by go_num,by rw [HS.out]⟩
     case measure=>simp [intOf];omega
    ·have HK:=hQ9 (show k=255 by omega)
     go_wp2
     go_ret
     exact⟨ye (by rw [HF.out,HK.out]),rfl⟩
theorem qA (t s:ByteArray) (ht:t.size≤4611686018427387904) (hs:s.size≤4611686018427387904) (w:World) :
 Calls Tryz.prog 46 #[.string t,.string s] w fun e w'=>e=.returned (.int .u64 (sumL t.data.toList s.data.toList:Nat))∧w=w':=by
 go_enter Tryz.func46,Tryz.ntmps46
 go_wp2_with fail
 refine(xO _ _ ht hs _).mono ?_
 rintro e w' ⟨rfl,rfl⟩
 go_wp2_with fail
 go_ret
 exact⟨rfl,rfl⟩
theorem zat (t s:ByteArray) (ht:t.size≤4611686018427387904) (hs:s.size≤4611686018427387904) (w:World) :
 Calls Tryz.prog 81 #[.string t,.string s] w fun e w'=>e=.returned (.int .u64 (sumL t.data.toList s.data.toList:Nat))∧Grew w w':=by
 obtain⟨A,c,w1,hrun,hb,hrd⟩:=zef (P:=Tryz.prog) w 9 136 5 s Tryz.underlying9 Tryz.underlying136 Tryz.underlying5
 go_enter Tryz.func81,Tryz.ntmps81
 go_wp2_with fail
 refine(xj t _ _ _ s.data.toList ht (by simpa using hs) _ hrd).mono ?_
 rintro e w' ⟨rfl,rfl⟩
 go_wp2_with fail
 go_ret
 exact⟨rfl,hb⟩
theorem zj2 (w:World) (t:TypeId) (d k:Nat) (h:k=16):Rd (w.alloc (.cells (rowT d k) t)) (w.heap.size+1) (some ⟨w.heap.size,0,none⟩) ((hexL d).map byteV):=by
 subst h
 have hrd:=yq w t (rowT d 16) (0,0)
 rw [zjw d]at hrd ⊢
 exact hrd
theorem zhp (d:Int) (hd:U64 d) (w:World) :
 Calls Tryz.prog 83 #[.int .u64 d] w fun e w'=>e=.returned (.string ⟨(hexL d.toNat).toArray⟩)∧Grew w w':=by
 obtain⟨hd0,hd1⟩:=hd
 obtain⟨d,rfl⟩:=Int.eq_ofNat_of_zero_le hd0
 have hdb:d<18446744073709551616:=by omega
 clear hd0 hd1
 rw [Int.toNat_natCast]
 go_enter Tryz.func83,Tryz.ntmps83
 go_wp2_with fail
 rw [←rowT_0 d]
 go_loopw [0,5] (fun v i wr=>∃ k q:Nat,k≤16∧i=.int .i64 k∧Hid (q=d / 16^k)∧q<18446744073709551616∧v=.int .u64 q∧wr=w.alloc (.cells (rowT d k) 228)) (fun _ i _=>16-(intOf i).toNat)
 case atStart=>exact⟨0,d,Nat.zero_le _,rfl,hQ9 (by simp),hdb,rfl,rfl⟩
 case round =>
  obtain⟨k,q,hk,rfl,HQ,hq,rfl,rfl⟩:=hrel
  by_cases hlt:k<16
  ·have ha:=and15 _ hq
   have hm:q%16<16:=Nat.mod_lt _ (by decide)
   have hg:=zbm _ hm
   have hcell:=zju d k hlt
   have hset:=zhm d k hlt
   rw [←HQ.out]at hset
   go_wp2_with fail
   go_roundw
   case rel=>exact⟨k+1,q / 16,by omega,by go_num,hQ9 (zjv d k q HQ.out),by omega,by go_num,rfl⟩
   case measure=>simp [intOf];omega
  ·have hrd:=zj2 w 228 d k (by omega)
   have hcv:=xy (P:=Tryz.prog) (w.alloc (.cells (rowT d k) 228)) (w.heap.size+1) 136 9 5 (some ⟨w.heap.size,0,none⟩) 16 16 (hexL d) (by simp [hexL]) Tryz.underlying136 Tryz.underlying5 Tryz.underlying9 hrd
   clear hrd
   go_wp2
   go_ret
   exact⟨rfl,(Below.refl _ _).alloc (Nat.le_refl _) _⟩
theorem infoU8:(Tryz.prog.info? 5).map (fun i=>(i.zero,i.size,i.bytes))=some (some (.int .u8 0),1,1):=by kernel_rfl
theorem zbp (d:Int) (hd:U64 d) (w:World) :
 Calls Tryz.prog 88 #[.int .u64 d] w fun e w'=>e=.returned (.string ⟨(hexL d.toNat).toArray⟩)∧Grew w w':=by
 obtain⟨hd0,hd1⟩:=hd
 obtain⟨d,rfl⟩:=Int.eq_ofNat_of_zero_le hd0
 have hdb:d<18446744073709551616:=by omega
 clear hd0 hd1
 rw [Int.toNat_natCast]
 obtain⟨i0,hi,hz0,hz1,hz2⟩:=info_parts infoU8
 go_enter Tryz.func88,Tryz.ntmps88
 go_wp2_with fail
 go_loopw [3,4] (fun v i wr=>∃ k:Nat,k≤16∧i=.int .i64 (60-4*k)∧wr.ownsRow w.heap.size 5 1 v k (((hexL d).take k).map byteV)∧Below w.heap.size w wr) (fun _ i _=>(intOf i+4).toNat)
 case atStart=>exact⟨0,Nat.zero_le _,rfl,⟨rfl,.inl ⟨rfl,rfl⟩⟩,Below.refl _ _⟩
 case round =>
  obtain⟨k,hk,rfl,hown,hbel⟩:=hrel
  by_cases hlt:k<16
  ·obtain⟨q,hq,hsh⟩:=zjx d k hlt
   have HQ:=hQ9 hq
   have hqb:q<18446744073709551616:=by rw [hq];exact Nat.lt_of_le_of_lt (Nat.div_le_self _ _) hdb
   clear hq
   have ha:=and15 _ hqb
   have hm:q%16<16:=Nat.mod_lt _ (by decide)
   have hg:=zbm _ hm
   have hat:(hexL d).take (k+1)=(hexL d).take k++[hexDig (q%16)]:=by rw [zjy d k hlt,HQ.out]
   have HA:=hQ9 hat
   clear hat
   go_wp2_with(at_builtin
               refine wpList_append_own _ rfl _ _ 136 rfl w.heap.size 5 i0 (.int .u8 0) 1 1 Tryz.underlying136 hi hz0 hz1 hz2 rfl (by decide) _ _ _ rfl (hown.alloc _) ⟨wr.heap.size,0,none⟩ 1 1 [.int .u8 ((hexDig (q%16)).toNat:Int)] rfl rfl ?c1 ?c2 ?c3 ?c4 ?c5 ?_)
   case c1=>exact zjz _ _ _
   case c2=>exact yX _ _
   case c3=>unfold maxLen;omega
   case c4=>omega
   case c5=>exact Nat.le_trans hbel.size (by simp)
   intro v' w1 hown' hgrow _
   have hbel':=(hbel.alloc hbel.size (.cells #[.int .u8 ((hexDig (q%16)).toNat:Int)] 5)).grown hgrow (by simp;have:=hbel.size;omega) (zA hown)
   go_wp2_with fail
   go_roundw
   case rel=>exact⟨k+1,by omega,by go_num,by rw [HA.out,List.map_append,List.map_take];exact hown',hbel'⟩
   case measure=>simp [intOf];omega
  ·obtain⟨A,c,rfl,hnc,hln,hrd⟩:=yN hown
   have htk:(hexL d).take k=hexL d:=List.take_of_length_le (by rw [yt];omega)
   rw [htk]at hrd
   have hcv:=xy (P:=Tryz.prog) wr wr.heap.size 136 9 5 A k c (hexL d) (by rw [yt];omega) Tryz.underlying136 Tryz.underlying5 Tryz.underlying9 hrd
   clear htk
   go_wp2
   go_ret
   exact⟨rfl,hbel⟩
end Go.Proofs.YtidjnnnigcmdpaaGreatDoor
