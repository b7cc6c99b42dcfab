/- Contracts of package hash and of the document's digests in the reference. -/
import Derived.Test.YtkpnheenacchhaaGreatDoorPzz
import Derived.Test.YtkpnheenacchhaaGreatDoorProg
import Derived.WalkKit
import Derived.Lib.Hide
import Derived.Test.YtkpnheenacchhaaGreatDoorPac
import Derived.Test.YtkpnheenacchhaaGreatDoorPad
set_option maxRecDepth 100000
set_option linter.unusedSimpArgs false
set_option linter.unusedVariables false
namespace Go.Proofs.YtkpnheenacchhaaGreatDoor
open Go.RowKit
theorem xK (a b:Int) (ha:U64 a) (hb:U64 b) (w:World) :
 Calls Tryz.prog 198 #[.int .u64 a,.int .u64 b] w fun e w'=>e=.returned (.int .u64 (mixN a.toNat b.toNat:Nat))∧w=w':=by
 obtain⟨ha0,ha1⟩:=ha
 obtain⟨hb0,hb1⟩:=hb
 obtain⟨a,rfl⟩:=Int.eq_ofNat_of_zero_le ha0
 obtain⟨b,rfl⟩:=Int.eq_ofNat_of_zero_le hb0
 have h1:=jP (a ^^^ (b*11400714819323198485%18446744073709551616))
 have h2:=jP (rnd (a ^^^ (b*11400714819323198485%18446744073709551616)))
 have h0:a ^^^ (b*11400714819323198485%18446744073709551616)<18446744073709551616:=qX (by omega) (Nat.mod_lt _ (by decide))
 have e0:=zgj a b (by omega)
 have e1:=qo _ h0
 have e2:=qo _ h1
 have e3:=zgi _ h2
 go_enter Tryz.func198,Tryz.ntmps198
 go_wp2
 refine wp_loop_rounds 3 ?_
 rw [rounds_succ]
 go_wp2
 rw [rounds_succ]
 go_wp2
 rw [rounds_succ]
 go_wp2
 go_ret
 refine⟨?_,rfl⟩
 simp only [Int.toNat_natCast]
 exact yl (by rw [zgk a b _ _ _ rfl rfl rfl])
theorem yM (a b:Int) (ha:U64 a) (hb:U64 b) (w:World) :
 Calls Tryz.prog 213 #[.int .u64 a,.int .u64 b] w fun e w'=>e=.returned (.int .u64 (mixN a.toNat b.toNat:Nat))∧w=w':=by
 obtain⟨ha0,ha1⟩:=ha
 obtain⟨hb0,hb1⟩:=hb
 obtain⟨a,rfl⟩:=Int.eq_ofNat_of_zero_le ha0
 obtain⟨b,rfl⟩:=Int.eq_ofNat_of_zero_le hb0
 have h1:=jP (a ^^^ (b*11400714819323198485%18446744073709551616))
 have h2:=jP (rnd (a ^^^ (b*11400714819323198485%18446744073709551616)))
 have h0:a ^^^ (b*11400714819323198485%18446744073709551616)<18446744073709551616:=qX (by omega) (Nat.mod_lt _ (by decide))
 have e0:=zgj a b (by omega)
 have e1:=qo _ h0
 have e2:=qo _ h1
 have e3:=zgi _ h2
 go_enter Tryz.func213,Tryz.ntmps213
 go_wp2
 go_ret
 refine⟨?_,rfl⟩
 simp only [Int.toNat_natCast]
 exact yl (by rw [zgk a b _ _ _ rfl rfl rfl])
theorem qF (h:Int) (s:ByteArray) (hh:U64 h) (hs:s.size≤4611686018427387904) (w:World) :
 Calls Tryz.prog 199 #[.int .u64 h,.string s] w fun e w'=>e=.returned (.int .u64 (mixL h.toNat s.data.toList:Nat))∧w=w':=by
 obtain⟨hh0,hh1⟩:=hh
 obtain⟨h,rfl⟩:=Int.eq_ofNat_of_zero_le hh0
 have hb:h<18446744073709551616:=by omega
 clear hh0 hh1
 rw [Int.toNat_natCast]
 go_enter Tryz.func199,Tryz.ntmps199
 go_wp2
 go_loop [0,8] (fun v i=>∃ k:Nat,k≤s.size∧i=.int .i64 k∧v=.int .u64 (mixL h (s.data.toList.take k):Nat)) (fun _ i=>s.size-(intOf i).toNat)
 case atStart=>exact⟨0,Nat.zero_le _,rfl,rfl⟩
 case round =>
  obtain⟨k,hk,rfl,rfl⟩:=hrel
  have hm:=kW h (s.data.toList.take k) hb
  by_cases hlt:k<s.size
  ·have hsn:mixL h (s.data.toList.take (k+1))=mixN (mixL h (s.data.toList.take k)) s[k].toNat:=by rw [jR s k hlt,jQ]
   have HS:=hQ9 hsn
   have hc:=s[k].toNat_lt
   clear hsn
   go_wp2_with(go_at_call 198;refine(xK _ _ (zI hm) (qZ _) _).mono ?_;rintro e w' ⟨rfl,rfl⟩)
   go_round
   case rel=>exact⟨k+1,by omega,by go_num,by rw [HS.out]⟩
   case measure=>simp [intOf];omega
  ·have hkk:s.data.toList.take k=s.data.toList:=List.take_of_length_le (by simp;omega)
   have HK:=hQ9 hkk
   clear hkk
   go_wp2
   go_ret
   exact⟨yl (by rw [HK.out]),rfl⟩
theorem kz (t s:ByteArray) (ht:t.size≤4611686018427387904) (hs:s.size≤4611686018427387904) (w:World) :
 Calls Tryz.prog 143 #[.string t,.string s] w fun e w'=>e=.returned (.int .u64 (sumL t.data.toList s.data.toList:Nat))∧w=w':=by
 have h0:U64 0:=⟨by omega,by omega⟩
 have h256:U64 256:=⟨by omega,by omega⟩
 have hm0:=kW 0 t.data.toList (by omega)
 have hfin:=zgl t.data.toList s.data.toList s.size rfl
 have HF:=hQ9 hfin
 clear hfin
 go_enter Tryz.func143,Tryz.ntmps143
 go_wp2_with fail
 refine(qF _ _ h0 ht _).mono ?_
 rintro e w' ⟨rfl,rfl⟩
 go_wp2_with fail
 refine(xK _ _ (zI hm0) h256 _).mono ?_
 rintro e w' ⟨rfl,rfl⟩
 go_wp2_with fail
 refine(qF _ _ (qY _ _) hs _).mono ?_
 rintro e w' ⟨rfl,rfl⟩
 go_wp2_with fail
 refine(xK _ _ (zlz _ _ (xI _ _)) (zdn hs) _).mono ?_
 rintro e w' ⟨rfl,rfl⟩
 go_wp2_with fail
 go_ret
 exact⟨yl (by rw [HF.out]),rfl⟩
theorem qr (t:ByteArray) (a b:Int) (ht:t.size≤4611686018427387904) (ha:U64 a) (hb:U64 b) (w:World) :
 Calls Tryz.prog 226 #[.string t,.int .u64 a,.int .u64 b] w fun e w'=>e=.returned (.int .u64 (twoN t.data.toList a.toNat b.toNat:Nat))∧w=w':=by
 have HF:=hQ9 (zgm t.data.toList a.toNat b.toNat)
 have hs0:=xe t.data.toList []
 go_enter Tryz.func226,Tryz.ntmps226
 go_wp2_with fail
 refine(kz t ⟨#[]⟩ ht (by decide) _).mono ?_
 rintro e w' ⟨rfl,rfl⟩
 go_wp2_with fail
 refine(xK _ _ (zI hs0) ha _).mono ?_
 rintro e w' ⟨rfl,rfl⟩
 go_wp2_with fail
 refine(xK _ _ (qY _ _) hb _).mono ?_
 rintro e w' ⟨rfl,rfl⟩
 go_wp2_with fail
 go_ret
 exact⟨yl (by rw [HF.out]),rfl⟩
theorem jT (t:ByteArray) (x n:Int) (ht:t.size≤4611686018427387904) (hx:U64 x) (hn:-9223372036854775808≤n) (hn':n≤9223372036854775807) (w:World) :
 Calls Tryz.prog 273 #[.string t,.int .u64 x,.int .i64 n] w fun e w'=>e=.returned (.int .u64 (chainI t.data.toList x.toNat n:Nat))∧w=w':=by
 have hs0:=xe t.data.toList []
 obtain⟨hx0,hx1⟩:=hx
 obtain⟨x,rfl⟩:=Int.eq_ofNat_of_zero_le hx0
 have hxb:x<18446744073709551616:=by omega
 clear hx0 hx1
 rw [Int.toNat_natCast]
 by_cases h0:n≤0
 ·have HF:=hQ9 (zau t.data.toList x n h0)
  go_enter Tryz.func273,Tryz.ntmps273
  go_wp2_with fail
  refine(kz t ⟨#[]⟩ ht (by decide) _).mono ?_
  rintro e w' ⟨rfl,rfl⟩
  go_wp2_with fail
  refine wp_loop_rounds 1 ?_
  rw [rounds_succ]
  go_wp2
  go_ret
  exact⟨yl (by rw [HF.out]),rfl⟩
 ·by_cases h1:n≤255
  ·obtain⟨m,rfl⟩:=Int.eq_ofNat_of_zero_le (show 0≤n by omega)
   have hm:m≤255:=by omega
   have HF:=hQ9 (xA t.data.toList x m hm)
   go_enter Tryz.func273,Tryz.ntmps273
   go_wp2_with fail
   refine(kz t ⟨#[]⟩ ht (by decide) _).mono ?_
   rintro e w' ⟨rfl,rfl⟩
   go_wp2_with fail
   go_loop [1,12] (fun v i=>∃ k:Nat,k≤m∧i=.int .i64 k∧v=.int .u64 (chainN (sumL t.data.toList []) x k:Nat)) (fun _ i=>m-(intOf i).toNat)
   case atStart=>exact⟨0,Nat.zero_le _,rfl,rfl⟩
   case round =>
    obtain⟨k,hk,rfl,rfl⟩:=hrel
    have hc:=xT (sumL t.data.toList []) x k hxb
    by_cases hlt:k<m
    ·have HS:=hQ9 (y5 (sumL t.data.toList []) x k)
     go_wp2_with(go_at_call 198;refine(xK _ _ (zI hs0) (zI hc) _).mono ?_;rintro e w' ⟨rfl,rfl⟩)
     go_round
     case rel=>exact⟨k+1,by omega,by go_num,by rw [HS.out]⟩
     case measure=>simp [intOf];omega
    ·obtain rfl:k=m:=by omega
     go_wp2
     go_ret
     exact⟨yl (by rw [HF.out]),rfl⟩
  ·have HF:=hQ9 (zat t.data.toList x n (by omega))
   go_enter Tryz.func273,Tryz.ntmps273
   go_wp2_with fail
   refine(kz t ⟨#[]⟩ ht (by decide) _).mono ?_
   rintro e w' ⟨rfl,rfl⟩
   go_wp2_with fail
   go_loop [1,12] (fun v i=>∃ k:Nat,k≤255∧i=.int .i64 k∧v=.int .u64 (chainN (sumL t.data.toList []) x k:Nat)) (fun _ i=>255-(intOf i).toNat)
   case atStart=>exact⟨0,Nat.zero_le _,rfl,rfl⟩
   case round =>
    obtain⟨k,hk,rfl,rfl⟩:=hrel
    have hc:=xT (sumL t.data.toList []) x k hxb
    by_cases hlt:k<255
    ·have HS:=hQ9 (y5 (sumL t.data.toList []) x k)
     go_wp2_with(go_at_call 198;refine(xK _ _ (zI hs0) (zI hc) _).mono ?_;rintro e w' ⟨rfl,rfl⟩)
     go_round
     case rel=>exact⟨k+1,by omega,by go_num,by rw [HS.out]⟩
     case measure=>simp [intOf];omega
    ·have HK:=hQ9 (show k=255 by omega)
     go_wp2
     go_ret
     exact⟨yl (by rw [HF.out,HK.out]),rfl⟩
theorem xB (t:ByteArray) (A:Option Addr) (c B:Nat) (l:List UInt8) (ht:t.size≤4611686018427387904) (hs:l.length≤4611686018427387904) (w:World) (hr:Rd w B A (l.map byteV)) :
 Calls Tryz.prog 161 #[.string t,.slice A l.length c] w fun e w'=>e=.returned (.int .u64 (sumL t.data.toList l:Nat))∧w=w':=by
 have h256:U64 256:=⟨by omega,by omega⟩
 have HF:=hQ9 (zgl t.data.toList l l.length rfl)
 go_enter Tryz.func161,Tryz.ntmps161
 go_wp2
 go_loop [5,7] (fun v i=>∃ k:Nat,k≤t.size∧i=.int .i64 k∧v=.int .u64 (mixL 0 (t.data.toList.take k):Nat)) (fun _ i=>t.size-(intOf i).toNat)
 case atStart=>exact⟨0,Nat.zero_le _,rfl,rfl⟩
 case round =>
  obtain⟨k,hk,rfl,rfl⟩:=hrel
  have hm:=kW 0 (t.data.toList.take k) (by omega)
  by_cases hlt:k<t.size
  ·have hsn:mixL 0 (t.data.toList.take (k+1))=mixN (mixL 0 (t.data.toList.take k)) t[k].toNat:=by rw [jR t k hlt,jQ]
   have HS:=hQ9 hsn
   have hc:=t[k].toNat_lt
   clear hsn
   go_wp2_with(go_at_call 213;refine(yM _ _ (zI hm) (qZ _) _).mono ?_;rintro e w' ⟨rfl,rfl⟩)
   go_round
   case rel=>exact⟨k+1,by omega,by go_num,by rw [HS.out]⟩
   case measure=>simp [intOf];omega
  ·have hkk:t.data.toList.take k=t.data.toList:=List.take_of_length_le (by simp;omega)
   have HK:=hQ9 hkk
   clear hkk
   go_wp2_with fail
   refine(yM _ _ (zI hm) h256 _).mono ?_
   rintro e w' ⟨rfl,rfl⟩
   go_wp2_with fail
   rw [HK.out]
   go_loop [5,6,8] (fun v n i=>∃ j:Nat,j≤l.length∧i=.int .i64 j∧n=.int .u64 j∧v=.int .u64 (mixL (mixN (mixL 0 t.data.toList) 256) (l.take j):Nat)) (fun _ _ i=>l.length-(intOf i).toNat)
   case atStart=>exact⟨0,Nat.zero_le _,rfl,rfl,rfl⟩
   case round =>
    obtain⟨j,hj,rfl,rfl,rfl⟩:=hrel
    have hm2:=kW (mixN (mixL 0 t.data.toList) 256) (l.take j) (xI _ _)
    by_cases hjl:j<l.length
    ·have hsn:mixL (mixN (mixL 0 t.data.toList) 256) (l.take (j+1))=mixN (mixL (mixN (mixL 0 t.data.toList) 256) (l.take j)) l[j].toNat:=by rw [List.take_succ_eq_append_getElem hjl,jQ]
     have HS:=hQ9 hsn
     have hc:=l[j].toNat_lt
     clear hsn
     obtain⟨ad,rfl,hbl,hcell⟩:=hr j (by simpa using hjl)
     rw [zb9]at hcell
     go_wp2_with(go_at_call 213;refine(yM _ _ (zI hm2) (qZ _) _).mono ?_;rintro e w' ⟨rfl,rfl⟩)
     go_round
     case rel=>exact⟨j+1,by omega,by go_num,by go_num,by rw [HS.out]⟩
     case measure=>simp [intOf];omega
    ·have hjj:l.take j=l:=List.take_of_length_le (by omega)
     have HJ:=hQ9 hjj
     have HN:=hQ9 (show j=l.length by omega)
     clear hjj
     go_wp2_with(go_at_call 213;refine(yM _ _ (zI hm2) (zdn (by omega)) _).mono ?_;rintro e w' ⟨rfl,rfl⟩)
     go_ret
     exact⟨yl (by rw [HF.out,HJ.out,HN.out]),rfl⟩
theorem jo (t:ByteArray) (a b:Int) (ht:t.size≤4611686018427387904) (ha:U64 a) (hb:U64 b) (w:World) :
 Calls Tryz.prog 294 #[.string t,.int .u64 a,.int .u64 b] w fun e w'=>e=.returned (.int .u64 (twoN t.data.toList a.toNat b.toNat:Nat))∧w=w':=by
 have HF:=hQ9 (zgm t.data.toList a.toNat b.toNat)
 have hs0:=xe t.data.toList []
 go_enter Tryz.func294,Tryz.ntmps294
 go_wp2_with fail
 refine(xB t none 0 0 [] ht (by simp) _ (Rd.nil_ _ _ _)).mono ?_
 rintro e w' ⟨rfl,rfl⟩
 go_wp2_with fail
 refine(yM _ _ (zI hs0) ha _).mono ?_
 rintro e w' ⟨rfl,rfl⟩
 go_wp2_with fail
 refine(yM _ _ (qY _ _) hb _).mono ?_
 rintro e w' ⟨rfl,rfl⟩
 go_wp2_with fail
 go_ret
 exact⟨yl (by rw [HF.out]),rfl⟩
theorem zdr (t:ByteArray) (x n:Int) (ht:t.size≤4611686018427387904) (hx:U64 x) (hn:-9223372036854775808≤n) (hn':n≤9223372036854775807) (w:World) :
 Calls Tryz.prog 260 #[.string t,.int .u64 x,.int .i64 n] w fun e w'=>e=.returned (.int .u64 (chainI t.data.toList x.toNat n:Nat))∧w=w':=by
 have hs0:=xe t.data.toList []
 obtain⟨hx0,hx1⟩:=hx
 obtain⟨x,rfl⟩:=Int.eq_ofNat_of_zero_le hx0
 have hxb:x<18446744073709551616:=by omega
 clear hx0 hx1
 rw [Int.toNat_natCast]
 by_cases h0:n≤0
 ·have HF:=hQ9 (zau t.data.toList x n h0)
  go_enter Tryz.func260,Tryz.ntmps260
  go_wp2_with fail
  refine(xB t none 0 0 [] ht (by simp) _ (Rd.nil_ _ _ _)).mono ?_
  rintro e w' ⟨rfl,rfl⟩
  go_wp2_with fail
  refine wp_loop_rounds 1 ?_
  rw [rounds_succ]
  go_wp2
  go_ret
  exact⟨yl (by rw [HF.out]),rfl⟩
 ·by_cases h1:n≤255
  ·obtain⟨m,rfl⟩:=Int.eq_ofNat_of_zero_le (show 0≤n by omega)
   have hm:m≤255:=by omega
   have HF:=hQ9 (xA t.data.toList x m hm)
   go_enter Tryz.func260,Tryz.ntmps260
   go_wp2_with fail
   refine(xB t none 0 0 [] ht (by simp) _ (Rd.nil_ _ _ _)).mono ?_
   rintro e w' ⟨rfl,rfl⟩
   go_wp2_with fail
   go_loop [1,8] (fun v i=>∃ k:Nat,k≤m∧i=.int .i64 k∧v=.int .u64 (chainN (sumL t.data.toList []) x k:Nat)) (fun _ i=>m-(intOf i).toNat)
   case atStart=>exact⟨0,Nat.zero_le _,rfl,rfl⟩
   case round =>
    obtain⟨k,hk,rfl,rfl⟩:=hrel
    have hc:=xT (sumL t.data.toList []) x k hxb
    by_cases hlt:k<m
    ·have HS:=hQ9 (y5 (sumL t.data.toList []) x k)
     go_wp2_with(go_at_call 213;refine(yM _ _ (zI hs0) (zI hc) _).mono ?_;rintro e w' ⟨rfl,rfl⟩)
     go_round
     case rel=>exact⟨k+1,by omega,by go_num,by rw [HS.out]⟩
     case measure=>simp [intOf];omega
    ·obtain rfl:k=m:=by omega
     go_wp2
     go_ret
     exact⟨yl (by rw [HF.out]),rfl⟩
  ·have HF:=hQ9 (zat t.data.toList x n (by omega))
   go_enter Tryz.func260,Tryz.ntmps260
   go_wp2_with fail
   refine(xB t none 0 0 [] ht (by simp) _ (Rd.nil_ _ _ _)).mono ?_
   rintro e w' ⟨rfl,rfl⟩
   go_wp2_with fail
   go_loop [1,8] (fun v i=>∃ k:Nat,k≤255∧i=.int .i64 k∧v=.int .u64 (chainN (sumL t.data.toList []) x k:Nat)) (fun _ i=>255-(intOf i).toNat)
   case atStart=>exact⟨0,Nat.zero_le _,rfl,rfl⟩
   case round =>
    obtain⟨k,hk,rfl,rfl⟩:=hrel
    have hc:=xT (sumL t.data.toList []) x k hxb
    by_cases hlt:k<255
    ·have HS:=hQ9 (y5 (sumL t.data.toList []) x k)
     go_wp2_with(go_at_call 213;refine(yM _ _ (zI hs0) (zI hc) _).mono ?_;rintro e w' ⟨rfl,rfl⟩)
     go_round
     case rel=>exact⟨k+1,by omega,by go_num,by rw [HS.out]⟩
     case measure=>simp [intOf];omega
    ·have HK:=hQ9 (show k=255 by omega)
     go_wp2
     go_ret
     exact⟨yl (by rw [HF.out,HK.out]),rfl⟩
theorem jU (t s:ByteArray) (ht:t.size≤4611686018427387904) (hs:s.size≤4611686018427387904) (w:World) :
 Calls Tryz.prog 76 #[.string t,.string s] w fun e w'=>e=.returned (.int .u64 (sumL t.data.toList s.data.toList:Nat))∧w=w':=by
 go_enter Tryz.func76,Tryz.ntmps76
 go_wp2_with fail
 refine(kz _ _ ht hs _).mono ?_
 rintro e w' ⟨rfl,rfl⟩
 go_wp2_with fail
 go_ret
 exact⟨rfl,rfl⟩
theorem kL (t s:ByteArray) (ht:t.size≤4611686018427387904) (hs:s.size≤4611686018427387904) (w:World) :
 Calls Tryz.prog 103 #[.string t,.string s] w fun e w'=>e=.returned (.int .u64 (sumL t.data.toList s.data.toList:Nat))∧Grew w w':=by
 obtain⟨A,c,w1,hrun,hb,hrd⟩:=zhw (P:=Tryz.prog) w 9 120 5 s Tryz.underlying9 Tryz.underlying120 Tryz.underlying5
 go_enter Tryz.func103,Tryz.ntmps103
 go_wp2_with fail
 refine(xB t _ _ _ s.data.toList ht (by simpa using hs) _ hrd).mono ?_
 rintro e w' ⟨rfl,rfl⟩
 go_wp2_with fail
 go_ret
 exact⟨rfl,hb⟩
theorem zoh (w:World) (t:TypeId) (d k:Nat) (h:k=16):Rd (w.alloc (.cells (rowT d k) t)) (w.heap.size+1) (some ⟨w.heap.size,0,none⟩) ((hexL d).map byteV):=by
 subst h
 have hrd:=yb w t (rowT d 16) (0,0)
 rw [zoc d]at hrd ⊢
 exact hrd
theorem zl4 (d:Int) (hd:U64 d) (w:World) :
 Calls Tryz.prog 85 #[.int .u64 d] w fun e w'=>e=.returned (.string ⟨(hexL d.toNat).toArray⟩)∧Grew w w':=by
 obtain⟨hd0,hd1⟩:=hd
 obtain⟨d,rfl⟩:=Int.eq_ofNat_of_zero_le hd0
 have hdb:d<18446744073709551616:=by omega
 clear hd0 hd1
 rw [Int.toNat_natCast]
 go_enter Tryz.func85,Tryz.ntmps85
 go_wp2_with fail
 rw [←rowT_0 d]
 go_loopw [0,5] (fun v i wr=>∃ k q:Nat,k≤16∧i=.int .i64 k∧Hid (q=d / 16^k)∧q<18446744073709551616∧v=.int .u64 q∧wr=w.alloc (.cells (rowT d k) 256)) (fun _ i _=>16-(intOf i).toNat)
 case atStart=>exact⟨0,d,Nat.zero_le _,rfl,hQ9 (by simp),hdb,rfl,rfl⟩
 case round =>
  obtain⟨k,q,hk,rfl,HQ,hq,rfl,rfl⟩:=hrel
  by_cases hlt:k<16
  ·have ha:=and15 _ hq
   have hm:q%16<16:=Nat.mod_lt _ (by decide)
   have hg:=zdo _ hm
   have hcell:=zoa d k hlt
   have hset:=zl0 d k hlt
   rw [←HQ.out]at hset
   go_wp2_with fail
   go_roundw
   case rel=>exact⟨k+1,q / 16,by omega,by go_num,hQ9 (zob d k q HQ.out),by omega,by go_num,rfl⟩
   case measure=>simp [intOf];omega
  ·have hrd:=zoh w 256 d k (by omega)
   have hcv:=xW (P:=Tryz.prog) (w.alloc (.cells (rowT d k) 256)) (w.heap.size+1) 120 9 5 (some ⟨w.heap.size,0,none⟩) 16 16 (hexL d) (by simp [hexL]) Tryz.underlying120 Tryz.underlying5 Tryz.underlying9 hrd
   clear hrd
   go_wp2
   go_ret
   exact⟨rfl,(Below.refl _ _).alloc (zN9 _) _⟩
theorem infoU8:(Tryz.prog.info? 5).map (fun i=>(i.zero,i.size,i.bytes))=some (some (.int .u8 0),1,1):=by kernel_rfl
theorem jp (d:Int) (hd:U64 d) (w:World) :
 Calls Tryz.prog 94 #[.int .u64 d] w fun e w'=>e=.returned (.string ⟨(hexL d.toNat).toArray⟩)∧Grew w w':=by
 obtain⟨hd0,hd1⟩:=hd
 obtain⟨d,rfl⟩:=Int.eq_ofNat_of_zero_le hd0
 have hdb:d<18446744073709551616:=by omega
 clear hd0 hd1
 rw [Int.toNat_natCast]
 obtain⟨i0,hi,hz0,hz1,hz2⟩:=info_parts infoU8
 go_enter Tryz.func94,Tryz.ntmps94
 go_wp2_with fail
 go_loopw [3,4] (fun v i wr=>∃ k:Nat,k≤16∧i=.int .i64 (60-4*k)∧wr.ownsRow w.heap.size 5 1 v k (((hexL d).take k).map byteV)∧Below w.heap.size w wr) (fun _ i _=>(intOf i+4).toNat)
 case atStart=>exact⟨0,Nat.zero_le _,rfl,⟨rfl,.inl ⟨rfl,rfl⟩⟩,Below.refl _ _⟩
 case round =>
  obtain⟨k,hk,rfl,hown,hbel⟩:=hrel
  by_cases hlt:k<16
  ·obtain⟨q,hq,hsh⟩:=zod d k hlt
   have HQ:=hQ9 hq
   have hqb:q<18446744073709551616:=by rw [hq];exact Nat.lt_of_le_of_lt (Nat.div_le_self _ _) hdb
   clear hq
   have ha:=and15 _ hqb
   have hm:q%16<16:=Nat.mod_lt _ (by decide)
   have hg:=zdo _ hm
   have hat:(hexL d).take (k+1)=(hexL d).take k++[hexDig (q%16)]:=by rw [zgn d k hlt,HQ.out]
   have HA:=hQ9 hat
   clear hat
   go_wp2_with(at_builtin
               refine wpList_append_own _ rfl _ _ 120 rfl w.heap.size 5 i0 (.int .u8 0) 1 1 Tryz.underlying120 hi hz0 hz1 hz2 rfl (by decide) _ _ _ rfl (hown.alloc _) ⟨wr.heap.size,0,none⟩ 1 1 [.int .u8 ((hexDig (q%16)).toNat:Int)] rfl rfl ?c1 ?c2 ?c3 ?c4 ?c5 ?_)
   case c1=>exact zoe _ _ _
   case c2=>exact xf _ _
   case c3=>unfold maxLen;omega
   case c4=>omega
   case c5=>exact Nat.le_trans hbel.size (by simp)
   intro v' w1 hown' hgrow _
   have hbel':=(hbel.alloc hbel.size (.cells #[.int .u8 ((hexDig (q%16)).toNat:Int)] 5)).grown hgrow (by simp;have:=hbel.size;omega) (zu hown)
   go_wp2_with fail
   go_roundw
   case rel=>exact⟨k+1,by omega,by go_num,by rw [HA.out,List.map_append,List.map_take];exact hown',hbel'⟩
   case measure=>simp [intOf];omega
  ·obtain⟨A,c,rfl,hnc,hln,hrd⟩:=zU hown
   have htk:(hexL d).take k=hexL d:=List.take_of_length_le (by rw [ye];omega)
   rw [htk]at hrd
   have hcv:=xW (P:=Tryz.prog) wr wr.heap.size 120 9 5 A k c (hexL d) (by rw [ye];omega) Tryz.underlying120 Tryz.underlying5 Tryz.underlying9 hrd
   clear htk
   go_wp2
   go_ret
   exact⟨rfl,hbel⟩
theorem zjv (c:UInt8) (h:48≤c.toNat∧c.toNat≤57) (w:World) :
 Calls Tryz.prog 151 #[.int .u8 c.toNat] w fun e w'=>e=.returned (.tuple #[.int .u64 ((c.toNat-48:Nat):Int),.bool true])∧w=w':=by
 obtain⟨h1,h2⟩:=h
 go_enter Tryz.func151,Tryz.ntmps151
 go_wp2_with fail
 go_ret2
 exact⟨by simp;omega,rfl⟩
theorem zjw (c:UInt8) (h:97≤c.toNat∧c.toNat≤102) (w:World) :
 Calls Tryz.prog 151 #[.int .u8 c.toNat] w fun e w'=>e=.returned (.tuple #[.int .u64 ((c.toNat-87:Nat):Int),.bool true])∧w=w':=by
 obtain⟨h1,h2⟩:=h
 go_enter Tryz.func151,Tryz.ntmps151
 go_wp2_with fail
 go_ret2
 exact⟨by simp;omega,rfl⟩
theorem zl5 (c:UInt8) (h:¬(48≤c.toNat∧c.toNat≤57)) (h':¬(97≤c.toNat∧c.toNat≤102)) (w:World) :
 Calls Tryz.prog 151 #[.int .u8 c.toNat] w fun e w'=>e=.returned (.tuple #[.int .u64 0,.bool false])∧w=w':=by
 go_enter Tryz.func151,Tryz.ntmps151
 go_wp2_with fail
 all_goals first
  | (exfalso;omega)
  | (go_ret2;exact⟨rfl,rfl⟩)
theorem zcc (c:UInt8) (w:World) :
 Calls Tryz.prog 151 #[.int .u8 c.toNat] w fun e w'=>e=.returned (.tuple #[.int .u64 ((hexVal c).getD 0:Nat),.bool (hexVal c).isSome])∧w=w':=by
 by_cases h:48≤c.toNat∧c.toNat≤57
 ·rw [zhs c h];exact zjv c h w
 ·by_cases h':97≤c.toNat∧c.toNat≤102
  ·rw [zht c h'];exact zjw c h' w
  ·rw [zjo c h h'];exact zl5 c h h' w
theorem zfl (s:ByteArray) (h:s.size≠16) (w:World) :
 Calls Tryz.prog 82 #[.string s] w fun e w'=>e=.returned (parseRes none)∧w=w':=by
 have hb:((s.size:Int) != 16)=true:=by rw [bne_iff_ne];omega
 go_enter Tryz.func82,Tryz.ntmps82
 go_wp2_with fail
 go_ret2
 exact⟨rfl,rfl⟩
theorem zl6 (s:ByteArray) (h:s.size=16) (w:World) :
 Calls Tryz.prog 82 #[.string s] w fun e w'=>e=.returned (parseRes (hexN s.data.toList))∧w=w':=by
 have hb:((s.size:Int) != 16)=false:=by rw [h];rfl
 have hsz:s.size≤16:=by omega
 have H:=hQ9 h
 clear h
 go_enter Tryz.func82,Tryz.ntmps82
 go_wp2_with fail
 go_loop [4,13] (fun v i=>∃ k d:Nat,k≤s.size∧i=.int .i64 k∧Hid (hexN (s.data.toList.take k)=some d)∧v=.int .u64 d) (fun _ i=>s.size-(intOf i).toNat)
 case atStart=>exact⟨0,0,Nat.zero_le _,rfl,hQ9 rfl,rfl⟩
 case round =>
  obtain⟨k,d,hk,rfl,HD,rfl⟩:=hrel
  by_cases hlt:k<s.size
  ·have hdb:=zjq _ d (by rw [List.length_take];have:=H.out;omega) HD.out
   have hsn:hexN (s.data.toList.take (k+1))=hexStepO (some d) s[k]:=by rw [jR s k hlt,kK,HD.out]
   have HS:=hQ9 hsn
   clear hsn
   cases hc:hexVal s[k]with
   | none =>
    have hno:hexN s.data.toList=none:=by
     have:=zjp (s.data.toList.take (k+1)) (s.data.toList.drop (k+1)) (by rw [HS.out];simp [hexStepO,hc])
     rwa [List.take_append_drop]at this
    have HN:=hQ9 hno
    have HC:=hQ9 hc
    clear hno hc
    go_wp2_with(go_at_call 151;refine(zcc _ _).mono ?_;rintro e w' ⟨rfl,rfl⟩;rw [HC.out])
    go_ret2
    exact⟨zgp HN.out rfl,rfl⟩
   | some n =>
    have hn:=xV _ _ hc
    have ho:=shl_or d n hdb hn
    have HV:Hid (hexN (s.data.toList.take (k+1))=some (d*16+n)):=hQ9 (by rw [HS.out];simp [hexStepO,hc])
    have HC:=hQ9 hc
    clear hc
    go_wp2_with(go_at_call 151;refine(zcc _ _).mono ?_;rintro e w' ⟨rfl,rfl⟩;rw [HC.out])
    go_round
    case rel=>exact⟨k+1,d*16+n,by omega,by go_num,HV,by go_num⟩
    case measure=>simp [intOf];omega
  ·have hkk:s.data.toList.take k=s.data.toList:=List.take_of_length_le (by simp;omega)
   rw [hkk]at HD
   clear hkk
   go_wp2
   go_ret2
   exact⟨zgp HD.out rfl,rfl⟩
theorem zcd (s:ByteArray) (w:World) :
 Calls Tryz.prog 82 #[.string s] w fun e w'=>e=.returned (parseRes (parseO s.data.toList))∧w=w':=by
 unfold parseO
 by_cases h:s.data.toList.length=16
 ·rw [if_pos h];exact zl6 s h w
 ·rw [if_neg h];exact zfl s h w
end Go.Proofs.YtkpnheenacchhaaGreatDoor
