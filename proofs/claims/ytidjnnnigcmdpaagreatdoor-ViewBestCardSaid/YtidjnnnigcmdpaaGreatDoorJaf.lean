/- Contracts of package hash and of the document's digests in the reference. -/
import Derived.Test.YtidjnnnigcmdpaaGreatDoorJzz
import Derived.Test.YtidjnnnigcmdpaaGreatDoorProg
import Derived.WalkKit
import Derived.Lib.Hide
import Derived.Test.YtidjnnnigcmdpaaGreatDoorJab
import Derived.Test.YtidjnnnigcmdpaaGreatDoorJac
set_option maxRecDepth 100000
set_option linter.unusedSimpArgs false
set_option linter.unusedVariables false
set_option linter.unnecessarySimpa false
namespace Go.Proofs.YtidjnnnigcmdpaaGreatDoor
open Go.RowKit
theorem yU (a b:Int) (ha:U64 a) (hb:U64 b) (w:World) :
 Calls Tryz.prog 168 #[.int .u64 a,.int .u64 b] w fun e w'=>e=.returned (.int .u64 (mixN a.toNat b.toNat:Nat))∧w=w':=by
 obtain⟨ha0,ha1⟩:=ha
 obtain⟨hb0,hb1⟩:=hb
 obtain⟨a,rfl⟩:=Int.eq_ofNat_of_zero_le ha0
 obtain⟨b,rfl⟩:=Int.eq_ofNat_of_zero_le hb0
 have h1:=yt (a ^^^ (b*11400714819323198485%18446744073709551616))
 have h2:=yt (rnd (a ^^^ (b*11400714819323198485%18446744073709551616)))
 have h0:a ^^^ (b*11400714819323198485%18446744073709551616)<18446744073709551616:=yG (by omega) (Nat.mod_lt _ (by decide))
 have e0:=zga a b (by omega)
 have e1:=za8 _ h0
 have e2:=za8 _ h1
 have e3:=zf9 _ h2
 go_enter Tryz.func168,Tryz.ntmps168
 go_wp2
 refine wp_loop_rounds 3 ?_
 rw [rounds_succ]
 go_wp2
 rw [rounds_succ]
 go_wp2
 rw [rounds_succ]
 go_wp2
 go_ret
 refine⟨?_,rfl⟩
 simp only [Int.toNat_natCast]
 exact yq (by rw [zgb a b _ _ _ rfl rfl rfl])
theorem kB (h:Int) (s:ByteArray) (hh:U64 h) (hs:s.size≤4611686018427387904) (w:World) :
 Calls Tryz.prog 169 #[.int .u64 h,.string s] w fun e w'=>e=.returned (.int .u64 (mixL h.toNat s.data.toList:Nat))∧w=w':=by
 obtain⟨hh0,hh1⟩:=hh
 obtain⟨h,rfl⟩:=Int.eq_ofNat_of_zero_le hh0
 have hb:h<18446744073709551616:=by omega
 clear hh0 hh1
 rw [Int.toNat_natCast]
 go_enter Tryz.func169,Tryz.ntmps169
 go_wp2
 go_loop [0,8] (fun v i=>∃ k:Nat,k≤s.size∧i=.int .i64 k∧v=.int .u64 (mixL h (s.data.toList.take k):Nat)) (fun _ i=>s.size-(intOf i).toNat)
 case atStart=>exact⟨0,Nat.zero_le _,rfl,rfl⟩
 case round =>
  obtain⟨k,hk,rfl,rfl⟩:=hrel
  have hm:=jG h (s.data.toList.take k) hb
  by_cases hlt:k<s.size
  ·have hsn:mixL h (s.data.toList.take (k+1))=mixN (mixL h (s.data.toList.take k)) s[k].toNat:=by rw [zc2 s k hlt,zc1]
   have HS:=hQ9 hsn
   have hc:=s[k].toNat_lt
   clear hsn
   go_wp2_with(go_at_call 168;refine(yU _ _ (zJ hm) (zei _) _).mono ?_;rintro e w' ⟨rfl,rfl⟩)
   go_round
   case rel=>exact⟨k+1,by omega,by go_num,by rw [HS.out]⟩
   case measure=>simp [intOf];omega
  ·have hkk:s.data.toList.take k=s.data.toList:=List.take_of_length_le (by simp;omega)
   have HK:=hQ9 hkk
   clear hkk
   go_wp2
   go_ret
   exact⟨yq (by rw [HK.out]),rfl⟩
theorem xk (t s:ByteArray) (ht:t.size≤4611686018427387904) (hs:s.size≤4611686018427387904) (w:World) :
 Calls Tryz.prog 115 #[.string t,.string s] w fun e w'=>e=.returned (.int .u64 (sumL t.data.toList s.data.toList:Nat))∧w=w':=by
 have h0:U64 0:=⟨by omega,by omega⟩
 have h256:U64 256:=⟨by omega,by omega⟩
 have hm0:=jG 0 t.data.toList (by omega)
 have hfin:=zgc t.data.toList s.data.toList s.size rfl
 have HF:=hQ9 hfin
 clear hfin
 go_enter Tryz.func115,Tryz.ntmps115
 go_wp2_with fail
 refine(kB _ _ h0 ht _).mono ?_
 rintro e w' ⟨rfl,rfl⟩
 go_wp2_with fail
 refine(yU _ _ (zJ hm0) h256 _).mono ?_
 rintro e w' ⟨rfl,rfl⟩
 go_wp2_with fail
 refine(kB _ _ (qL _ _) hs _).mono ?_
 rintro e w' ⟨rfl,rfl⟩
 go_wp2_with fail
 refine(yU _ _ (zej _ _ (yc _ _)) (zek hs) _).mono ?_
 rintro e w' ⟨rfl,rfl⟩
 go_wp2_with fail
 go_ret
 exact⟨yq (by rw [HF.out]),rfl⟩
theorem kb (t:ByteArray) (a b:Int) (ht:t.size≤4611686018427387904) (ha:U64 a) (hb:U64 b) (w:World) :
 Calls Tryz.prog 209 #[.string t,.int .u64 a,.int .u64 b] w fun e w'=>e=.returned (.int .u64 (twoN t.data.toList a.toNat b.toNat:Nat))∧w=w':=by
 have HF:=hQ9 (zgd t.data.toList a.toNat b.toNat)
 have hs0:=yT t.data.toList []
 go_enter Tryz.func209,Tryz.ntmps209
 go_wp2_with fail
 refine(xk t ⟨#[]⟩ ht (by decide) _).mono ?_
 rintro e w' ⟨rfl,rfl⟩
 go_wp2_with fail
 refine(yU _ _ (zJ hs0) ha _).mono ?_
 rintro e w' ⟨rfl,rfl⟩
 go_wp2_with fail
 refine(yU _ _ (qL _ _) hb _).mono ?_
 rintro e w' ⟨rfl,rfl⟩
 go_wp2_with fail
 go_ret
 exact⟨yq (by rw [HF.out]),rfl⟩
theorem xW (t:ByteArray) (x n:Int) (ht:t.size≤4611686018427387904) (hx:U64 x) (hn:-9223372036854775808≤n) (hn':n≤9223372036854775807) (w:World) :
 Calls Tryz.prog 252 #[.string t,.int .u64 x,.int .i64 n] w fun e w'=>e=.returned (.int .u64 (chainI t.data.toList x.toNat n:Nat))∧w=w':=by
 have hs0:=yT t.data.toList []
 obtain⟨hx0,hx1⟩:=hx
 obtain⟨x,rfl⟩:=Int.eq_ofNat_of_zero_le hx0
 have hxb:x<18446744073709551616:=by omega
 clear hx0 hx1
 rw [Int.toNat_natCast]
 by_cases h0:n≤0
 ·have HF:=hQ9 (zbw t.data.toList x n h0)
  go_enter Tryz.func252,Tryz.ntmps252
  go_wp2_with fail
  refine(xk t ⟨#[]⟩ ht (by decide) _).mono ?_
  rintro e w' ⟨rfl,rfl⟩
  go_wp2_with fail
  refine wp_loop_rounds 1 ?_
  rw [rounds_succ]
  go_wp2
  go_ret
  exact⟨yq (by rw [HF.out]),rfl⟩
 ·by_cases h1:n≤255
  ·obtain⟨m,rfl⟩:=Int.eq_ofNat_of_zero_le (show 0≤n by omega)
   have hm:m≤255:=by omega
   have HF:=hQ9 (yP t.data.toList x m hm)
   go_enter Tryz.func252,Tryz.ntmps252
   go_wp2_with fail
   refine(xk t ⟨#[]⟩ ht (by decide) _).mono ?_
   rintro e w' ⟨rfl,rfl⟩
   go_wp2_with fail
   go_loop [1,12] (fun v i=>∃ k:Nat,k≤m∧i=.int .i64 k∧v=.int .u64 (chainN (sumL t.data.toList []) x k:Nat)) (fun _ i=>m-(intOf i).toNat)
   case atStart=>exact⟨0,Nat.zero_le _,rfl,rfl⟩
   case round =>
    obtain⟨k,hk,rfl,rfl⟩:=hrel
    have hc:=xT (sumL t.data.toList []) x k hxb
    by_cases hlt:k<m
    ·have HS:=hQ9 (yC (sumL t.data.toList []) x k)
     go_wp2_with(go_at_call 168;refine(yU _ _ (zJ hs0) (zJ hc) _).mono ?_;rintro e w' ⟨rfl,rfl⟩)
     go_round
     case rel=>exact⟨k+1,by omega,by go_num,by rw [HS.out]⟩
     case measure=>simp [intOf];omega
    ·obtain rfl:k=m:=by omega
     go_wp2
     go_ret
     exact⟨yq (by rw [HF.out]),rfl⟩
  ·have HF:=hQ9 (zbv t.data.toList x n (by omega))
   go_enter Tryz.func252,Tryz.ntmps252
   go_wp2_with fail
   refine(xk t ⟨#[]⟩ ht (by decide) _).mono ?_
   rintro e w' ⟨rfl,rfl⟩
   go_wp2_with fail
   go_loop [1,12] (fun v i=>∃ k:Nat,k≤255∧i=.int .i64 k∧v=.int .u64 (chainN (sumL t.data.toList []) x k:Nat)) (fun _ i=>255-(intOf i).toNat)
   case atStart=>exact⟨0,Nat.zero_le _,rfl,rfl⟩
   case round =>
    obtain⟨k,hk,rfl,rfl⟩:=hrel
    have hc:=xT (sumL t.data.toList []) x k hxb
    by_cases hlt:k<255
    ·have HS:=hQ9 (yC (sumL t.data.toList []) x k)
     go_wp2_with(go_at_call 168;refine(yU _ _ (zJ hs0) (zJ hc) _).mono ?_;rintro e w' ⟨rfl,rfl⟩)
     go_round
     case rel=>exact⟨k+1,by omega,by go_num,by rw [HS.out]⟩
     case measure=>simp [intOf];omega
    ·have HK:=hQ9 (show k=255 by omega)
     go_wp2
     go_ret
     exact⟨yq (by rw [HF.out,HK.out]),rfl⟩
theorem jm (t s:ByteArray) (ht:t.size≤4611686018427387904) (hs:s.size≤4611686018427387904) (w:World) :
 Calls Tryz.prog 46 #[.string t,.string s] w fun e w'=>e=.returned (.int .u64 (sumL t.data.toList s.data.toList:Nat))∧w=w':=by
 go_enter Tryz.func46,Tryz.ntmps46
 go_wp2_with fail
 refine(xk _ _ ht hs _).mono ?_
 rintro e w' ⟨rfl,rfl⟩
 go_wp2_with fail
 go_ret
 exact⟨rfl,rfl⟩
theorem zgk (w:World) (t:TypeId) (d k:Nat) (h:k=16):Rd (w.alloc (.cells (rowT d k) t)) (w.heap.size+1) (some ⟨w.heap.size,0,none⟩) ((hexL d).map byteV):=by
 subst h
 have hrd:=y0 w t (rowT d 16) (0,0)
 rw [zgh d]at hrd ⊢
 exact hrd
theorem zer (d:Int) (hd:U64 d) (w:World) :
 Calls Tryz.prog 83 #[.int .u64 d] w fun e w'=>e=.returned (.string ⟨(hexL d.toNat).toArray⟩)∧Grew w w':=by
 obtain⟨hd0,hd1⟩:=hd
 obtain⟨d,rfl⟩:=Int.eq_ofNat_of_zero_le hd0
 have hdb:d<18446744073709551616:=by omega
 clear hd0 hd1
 rw [Int.toNat_natCast]
 go_enter Tryz.func83,Tryz.ntmps83
 go_wp2_with fail
 rw [←rowT_0 d]
 go_loopw [0,5] (fun v i wr=>∃ k q:Nat,k≤16∧i=.int .i64 k∧Hid (q=d / 16^k)∧q<18446744073709551616∧v=.int .u64 q∧wr=w.alloc (.cells (rowT d k) 228)) (fun _ i _=>16-(intOf i).toNat)
 case atStart=>exact⟨0,d,Nat.zero_le _,rfl,hQ9 (by simp),hdb,rfl,rfl⟩
 case round =>
  obtain⟨k,q,hk,rfl,HQ,hq,rfl,rfl⟩:=hrel
  by_cases hlt:k<16
  ·have ha:=and15 _ hq
   have hm:q%16<16:=Nat.mod_lt _ (by decide)
   have hg:=zel _ hm
   have hcell:=zgf d k hlt
   have hset:=zem d k hlt
   rw [←HQ.out]at hset
   go_wp2_with fail
   go_roundw
   case rel=>exact⟨k+1,q / 16,by omega,by go_num,hQ9 (zgg d k q HQ.out),by omega,by go_num,rfl⟩
   case measure=>simp [intOf];omega
  ·have hrd:=zgk w 228 d k (by omega)
   have hcv:=ql (P:=Tryz.prog) (w.alloc (.cells (rowT d k) 228)) (w.heap.size+1) 136 9 5 (some ⟨w.heap.size,0,none⟩) 16 16 (hexL d) (by simp [hexL]) Tryz.underlying136 Tryz.underlying5 Tryz.underlying9 hrd
   clear hrd
   go_wp2
   go_ret
   exact⟨rfl,(Below.refl _ _).alloc (Nat.le_refl _) _⟩
end Go.Proofs.YtidjnnnigcmdpaaGreatDoor
