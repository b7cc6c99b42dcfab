/- Contracts of package hash and of the document's digests in the reference. -/
import Derived.Test.YtkpnheenacchhaaGreatDoorJzz
import Derived.Test.YtkpnheenacchhaaGreatDoorProg
import Derived.WalkKit
import Derived.Lib.Hide
import Derived.Test.YtkpnheenacchhaaGreatDoorJac
import Derived.Test.YtkpnheenacchhaaGreatDoorJad
set_option maxRecDepth 100000
set_option linter.unusedSimpArgs false
set_option linter.unusedVariables false
namespace Go.Proofs.YtkpnheenacchhaaGreatDoor
open Go.RowKit
theorem yX (a b:Int) (ha:U64 a) (hb:U64 b) (w:World) :
 Calls Tryz.prog 198 #[.int .u64 a,.int .u64 b] w fun e w'=>e=.returned (.int .u64 (mixN a.toNat b.toNat:Nat))∧w=w':=by
 obtain⟨ha0,ha1⟩:=ha
 obtain⟨hb0,hb1⟩:=hb
 obtain⟨a,rfl⟩:=Int.eq_ofNat_of_zero_le ha0
 obtain⟨b,rfl⟩:=Int.eq_ofNat_of_zero_le hb0
 have h1:=xm (a ^^^ (b*11400714819323198485%18446744073709551616))
 have h2:=xm (rnd (a ^^^ (b*11400714819323198485%18446744073709551616)))
 have h0:a ^^^ (b*11400714819323198485%18446744073709551616)<18446744073709551616:=xn (by omega) (Nat.mod_lt _ (by decide))
 have e0:=jS a b (by omega)
 have e1:=xY _ h0
 have e2:=xY _ h1
 have e3:=jR _ h2
 go_enter Tryz.func198,Tryz.ntmps198
 go_wp2
 refine wp_loop_rounds 3 ?_
 rw [rounds_succ]
 go_wp2
 rw [rounds_succ]
 go_wp2
 rw [rounds_succ]
 go_wp2
 go_ret
 refine⟨?_,rfl⟩
 simp only [Int.toNat_natCast]
 exact yV (by rw [jT a b _ _ _ rfl rfl rfl])
theorem yA (h:Int) (s:ByteArray) (hh:U64 h) (hs:s.size≤4611686018427387904) (w:World) :
 Calls Tryz.prog 199 #[.int .u64 h,.string s] w fun e w'=>e=.returned (.int .u64 (mixL h.toNat s.data.toList:Nat))∧w=w':=by
 obtain⟨hh0,hh1⟩:=hh
 obtain⟨h,rfl⟩:=Int.eq_ofNat_of_zero_le hh0
 have hb:h<18446744073709551616:=by omega
 clear hh0 hh1
 rw [Int.toNat_natCast]
 go_enter Tryz.func199,Tryz.ntmps199
 go_wp2
 go_loop [0,8] (fun v i=>∃ k:Nat,k≤s.size∧i=.int .i64 k∧v=.int .u64 (mixL h (s.data.toList.take k):Nat)) (fun _ i=>s.size-(intOf i).toNat)
 case atStart=>exact⟨0,Nat.zero_le _,rfl,rfl⟩
 case round =>
  obtain⟨k,hk,rfl,rfl⟩:=hrel
  have hm:=yT h (s.data.toList.take k) hb
  by_cases hlt:k<s.size
  ·have hsn:mixL h (s.data.toList.take (k+1))=mixN (mixL h (s.data.toList.take k)) s[k].toNat:=by rw [ky s k hlt,kx]
   have HS:=hQ9 hsn
   have hc:=s[k].toNat_lt
   clear hsn
   go_wp2_with(go_at_call 198;refine(yX _ _ (yS hm) (jb _) _).mono ?_;rintro e w' ⟨rfl,rfl⟩)
   go_round
   case rel=>exact⟨k+1,by omega,by go_num,by rw [HS.out]⟩
   case measure=>simp [intOf];omega
  ·have hkk:s.data.toList.take k=s.data.toList:=List.take_of_length_le (by simp;omega)
   have HK:=hQ9 hkk
   clear hkk
   go_wp2
   go_ret
   exact⟨yV (by rw [HK.out]),rfl⟩
theorem jh (t s:ByteArray) (ht:t.size≤4611686018427387904) (hs:s.size≤4611686018427387904) (w:World) :
 Calls Tryz.prog 143 #[.string t,.string s] w fun e w'=>e=.returned (.int .u64 (sumL t.data.toList s.data.toList:Nat))∧w=w':=by
 have h0:U64 0:=⟨by omega,by omega⟩
 have h256:U64 256:=⟨by omega,by omega⟩
 have hm0:=yT 0 t.data.toList (by omega)
 have hfin:=jU t.data.toList s.data.toList s.size rfl
 have HF:=hQ9 hfin
 clear hfin
 go_enter Tryz.func143,Tryz.ntmps143
 go_wp2_with fail
 refine(yA _ _ h0 ht _).mono ?_
 rintro e w' ⟨rfl,rfl⟩
 go_wp2_with fail
 refine(yX _ _ (yS hm0) h256 _).mono ?_
 rintro e w' ⟨rfl,rfl⟩
 go_wp2_with fail
 refine(yA _ _ (ja _ _) hs _).mono ?_
 rintro e w' ⟨rfl,rfl⟩
 go_wp2_with fail
 refine(yX _ _ (jc _ _ (yt _ _)) (jd hs) _).mono ?_
 rintro e w' ⟨rfl,rfl⟩
 go_wp2_with fail
 go_ret
 exact⟨yV (by rw [HF.out]),rfl⟩
theorem of_any (t s:ByteArray) (ht:t.size≤4611686018427387904) (hs:s.size≤4611686018427387904) (w:World) :
 Calls Tryz.prog 76 #[.string t,.string s] w fun e w'=>e=.returned (.int .u64 (sumL t.data.toList s.data.toList:Nat))∧w=w':=by
 go_enter Tryz.func76,Tryz.ntmps76
 go_wp2_with fail
 refine(jh _ _ ht hs _).mono ?_
 rintro e w' ⟨rfl,rfl⟩
 go_wp2_with fail
 go_ret
 exact⟨rfl,rfl⟩
theorem qb (w:World) (t:TypeId) (d k:Nat) (h:k=16):Rd (w.alloc (.cells (rowT d k) t)) (w.heap.size+1) (some ⟨w.heap.size,0,none⟩) ((hexL d).map byteV):=by
 subst h
 have hrd:=zz w t (rowT d 16) (0,0)
 rw [jY d]at hrd ⊢
 exact hrd
theorem ji (d:Int) (hd:U64 d) (w:World) :
 Calls Tryz.prog 85 #[.int .u64 d] w fun e w'=>e=.returned (.string ⟨(hexL d.toNat).toArray⟩)∧Grew w w':=by
 obtain⟨hd0,hd1⟩:=hd
 obtain⟨d,rfl⟩:=Int.eq_ofNat_of_zero_le hd0
 have hdb:d<18446744073709551616:=by omega
 clear hd0 hd1
 rw [Int.toNat_natCast]
 go_enter Tryz.func85,Tryz.ntmps85
 go_wp2_with fail
 rw [←rowT_0 d]
 go_loopw [0,5] (fun v i wr=>∃ k q:Nat,k≤16∧i=.int .i64 k∧Hid (q=d / 16^k)∧q<18446744073709551616∧v=.int .u64 q∧wr=w.alloc (.cells (rowT d k) 256)) (fun _ i _=>16-(intOf i).toNat)
 case atStart=>exact⟨0,d,Nat.zero_le _,rfl,hQ9 (by simp),hdb,rfl,rfl⟩
 case round =>
  obtain⟨k,q,hk,rfl,HQ,hq,rfl,rfl⟩:=hrel
  by_cases hlt:k<16
  ·have ha:=and15 _ hq
   have hm:q%16<16:=Nat.mod_lt _ (by decide)
   have hg:=je _ hm
   have hcell:=jW d k hlt
   have hset:=jf d k hlt
   rw [←HQ.out]at hset
   go_wp2_with fail
   go_roundw
   case rel=>exact⟨k+1,q / 16,by omega,by go_num,hQ9 (jX d k q HQ.out),by omega,by go_num,rfl⟩
   case measure=>simp [intOf];omega
  ·have hrd:=qb w 256 d k (by omega)
   have hcv:=y9 (P:=Tryz.prog) (w.alloc (.cells (rowT d k) 256)) (w.heap.size+1) 120 9 5 (some ⟨w.heap.size,0,none⟩) 16 16 (hexL d) (by simp [hexL]) Tryz.underlying120 Tryz.underlying5 Tryz.underlying9 hrd
   clear hrd
   go_wp2
   go_ret
   exact⟨rfl,(Below.refl _ _).alloc (Nat.le_refl _) _⟩
end Go.Proofs.YtkpnheenacchhaaGreatDoor
