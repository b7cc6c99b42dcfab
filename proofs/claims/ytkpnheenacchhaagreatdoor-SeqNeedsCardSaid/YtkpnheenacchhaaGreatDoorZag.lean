/- Contracts of package hash and of the document's digests in the reference. -/
import Derived.Test.YtkpnheenacchhaaGreatDoorZzz
import Derived.Test.YtkpnheenacchhaaGreatDoorProg
import Derived.WalkKit
import Derived.Lib.Hide
import Derived.Test.YtkpnheenacchhaaGreatDoorZac
import Derived.Test.YtkpnheenacchhaaGreatDoorZad
set_option maxRecDepth 100000
set_option linter.unusedSimpArgs false
set_option linter.unusedVariables false
namespace Go.Proofs.YtkpnheenacchhaaGreatDoor
open Go.RowKit
theorem xe (a b:Int) (ha:U64 a) (hb:U64 b) (w:World) :
 Calls Tryz.prog 198 #[.int .u64 a,.int .u64 b] w fun e w'=>e=.returned (.int .u64 (mixN a.toNat b.toNat:Nat))∧w=w':=by
 obtain⟨ha0,ha1⟩:=ha
 obtain⟨hb0,hb1⟩:=hb
 obtain⟨a,rfl⟩:=Int.eq_ofNat_of_zero_le ha0
 obtain⟨b,rfl⟩:=Int.eq_ofNat_of_zero_le hb0
 have h1:=zbe (a ^^^ (b*11400714819323198485%18446744073709551616))
 have h2:=zbe (rnd (a ^^^ (b*11400714819323198485%18446744073709551616)))
 have h0:a ^^^ (b*11400714819323198485%18446744073709551616)<18446744073709551616:=zbf (by omega) (Nat.mod_lt _ (by decide))
 have e0:=zj3 a b (by omega)
 have e1:=zdq _ h0
 have e2:=zdq _ h1
 have e3:=zj2 _ h2
 go_enter Tryz.func198,Tryz.ntmps198
 go_wp2
 refine wp_loop_rounds 3 ?_
 rw [rounds_succ]
 go_wp2
 rw [rounds_succ]
 go_wp2
 rw [rounds_succ]
 go_wp2
 go_ret
 refine⟨?_,rfl⟩
 simp only [Int.toNat_natCast]
 exact yB (by rw [zj4 a b _ _ _ rfl rfl rfl])
theorem js (h:Int) (s:ByteArray) (hh:U64 h) (hs:s.size≤4611686018427387904) (w:World) :
 Calls Tryz.prog 199 #[.int .u64 h,.string s] w fun e w'=>e=.returned (.int .u64 (mixL h.toNat s.data.toList:Nat))∧w=w':=by
 obtain⟨hh0,hh1⟩:=hh
 obtain⟨h,rfl⟩:=Int.eq_ofNat_of_zero_le hh0
 have hb:h<18446744073709551616:=by omega
 clear hh0 hh1
 rw [Int.toNat_natCast]
 go_enter Tryz.func199,Tryz.ntmps199
 go_wp2
 go_loop [0,8] (fun v i=>∃ k:Nat,k≤s.size∧i=.int .i64 k∧v=.int .u64 (mixL h (s.data.toList.take k):Nat)) (fun _ i=>s.size-(intOf i).toNat)
 case atStart=>exact⟨0,Nat.zero_le _,rfl,rfl⟩
 case round =>
  obtain⟨k,hk,rfl,rfl⟩:=hrel
  have hm:=qF h (s.data.toList.take k) hb
  by_cases hlt:k<s.size
  ·have hsn:mixL h (s.data.toList.take (k+1))=mixN (mixL h (s.data.toList.take k)) s[k].toNat:=by rw [zab s k hlt,zf1]
   have HS:=hQ9 hsn
   have hc:=s[k].toNat_lt
   clear hsn
   go_wp2_with(go_at_call 198;refine(xe _ _ (zQ hm) (zhy _) _).mono ?_;rintro e w' ⟨rfl,rfl⟩)
   go_round
   case rel=>exact⟨k+1,by omega,by go_num,by rw [HS.out]⟩
   case measure=>simp [intOf];omega
  ·have hkk:s.data.toList.take k=s.data.toList:=List.take_of_length_le (by simp;omega)
   have HK:=hQ9 hkk
   clear hkk
   go_wp2
   go_ret
   exact⟨yB (by rw [HK.out]),rfl⟩
theorem xE (t s:ByteArray) (ht:t.size≤4611686018427387904) (hs:s.size≤4611686018427387904) (w:World) :
 Calls Tryz.prog 143 #[.string t,.string s] w fun e w'=>e=.returned (.int .u64 (sumL t.data.toList s.data.toList:Nat))∧w=w':=by
 have h0:U64 0:=⟨by omega,by omega⟩
 have h256:U64 256:=⟨by omega,by omega⟩
 have hm0:=qF 0 t.data.toList (by omega)
 have hfin:=zj5 t.data.toList s.data.toList s.size rfl
 have HF:=hQ9 hfin
 clear hfin
 go_enter Tryz.func143,Tryz.ntmps143
 go_wp2_with fail
 refine(js _ _ h0 ht _).mono ?_
 rintro e w' ⟨rfl,rfl⟩
 go_wp2_with fail
 refine(xe _ _ (zQ hm0) h256 _).mono ?_
 rintro e w' ⟨rfl,rfl⟩
 go_wp2_with fail
 refine(js _ _ (zbg _ _) hs _).mono ?_
 rintro e w' ⟨rfl,rfl⟩
 go_wp2_with fail
 refine(xe _ _ (zhz _ _ (xx _ _)) (zh0 hs) _).mono ?_
 rintro e w' ⟨rfl,rfl⟩
 go_wp2_with fail
 go_ret
 exact⟨yB (by rw [HF.out]),rfl⟩
theorem jg (t:ByteArray) (a b:Int) (ht:t.size≤4611686018427387904) (ha:U64 a) (hb:U64 b) (w:World) :
 Calls Tryz.prog 226 #[.string t,.int .u64 a,.int .u64 b] w fun e w'=>e=.returned (.int .u64 (twoN t.data.toList a.toNat b.toNat:Nat))∧w=w':=by
 have HF:=hQ9 (zj6 t.data.toList a.toNat b.toNat)
 have hs0:=y4 t.data.toList []
 go_enter Tryz.func226,Tryz.ntmps226
 go_wp2_with fail
 refine(xE t ⟨#[]⟩ ht (by decide) _).mono ?_
 rintro e w' ⟨rfl,rfl⟩
 go_wp2_with fail
 refine(xe _ _ (zQ hs0) ha _).mono ?_
 rintro e w' ⟨rfl,rfl⟩
 go_wp2_with fail
 refine(xe _ _ (zbg _ _) hb _).mono ?_
 rintro e w' ⟨rfl,rfl⟩
 go_wp2_with fail
 go_ret
 exact⟨yB (by rw [HF.out]),rfl⟩
theorem kU (t:ByteArray) (x n:Int) (ht:t.size≤4611686018427387904) (hx:U64 x) (hn:-9223372036854775808≤n) (hn':n≤9223372036854775807) (w:World) :
 Calls Tryz.prog 273 #[.string t,.int .u64 x,.int .i64 n] w fun e w'=>e=.returned (.int .u64 (chainI t.data.toList x.toNat n:Nat))∧w=w':=by
 have hs0:=y4 t.data.toList []
 obtain⟨hx0,hx1⟩:=hx
 obtain⟨x,rfl⟩:=Int.eq_ofNat_of_zero_le hx0
 have hxb:x<18446744073709551616:=by omega
 clear hx0 hx1
 rw [Int.toNat_natCast]
 by_cases h0:n≤0
 ·have HF:=hQ9 (zen t.data.toList x n h0)
  go_enter Tryz.func273,Tryz.ntmps273
  go_wp2_with fail
  refine(xE t ⟨#[]⟩ ht (by decide) _).mono ?_
  rintro e w' ⟨rfl,rfl⟩
  go_wp2_with fail
  refine wp_loop_rounds 1 ?_
  rw [rounds_succ]
  go_wp2
  go_ret
  exact⟨yB (by rw [HF.out]),rfl⟩
 ·by_cases h1:n≤255
  ·obtain⟨m,rfl⟩:=Int.eq_ofNat_of_zero_le (show 0≤n by omega)
   have hm:m≤255:=by omega
   have HF:=hQ9 (xq t.data.toList x m hm)
   go_enter Tryz.func273,Tryz.ntmps273
   go_wp2_with fail
   refine(xE t ⟨#[]⟩ ht (by decide) _).mono ?_
   rintro e w' ⟨rfl,rfl⟩
   go_wp2_with fail
   go_loop [1,12] (fun v i=>∃ k:Nat,k≤m∧i=.int .i64 k∧v=.int .u64 (chainN (sumL t.data.toList []) x k:Nat)) (fun _ i=>m-(intOf i).toNat)
   case atStart=>exact⟨0,Nat.zero_le _,rfl,rfl⟩
   case round =>
    obtain⟨k,hk,rfl,rfl⟩:=hrel
    have hc:=kR (sumL t.data.toList []) x k hxb
    by_cases hlt:k<m
    ·have HS:=hQ9 (xi (sumL t.data.toList []) x k)
     go_wp2_with(go_at_call 198;refine(xe _ _ (zQ hs0) (zQ hc) _).mono ?_;rintro e w' ⟨rfl,rfl⟩)
     go_round
     case rel=>exact⟨k+1,by omega,by go_num,by rw [HS.out]⟩
     case measure=>simp [intOf];omega
    ·obtain rfl:k=m:=by omega
     go_wp2
     go_ret
     exact⟨yB (by rw [HF.out]),rfl⟩
  ·have HF:=hQ9 (zem t.data.toList x n (by omega))
   go_enter Tryz.func273,Tryz.ntmps273
   go_wp2_with fail
   refine(xE t ⟨#[]⟩ ht (by decide) _).mono ?_
   rintro e w' ⟨rfl,rfl⟩
   go_wp2_with fail
   go_loop [1,12] (fun v i=>∃ k:Nat,k≤255∧i=.int .i64 k∧v=.int .u64 (chainN (sumL t.data.toList []) x k:Nat)) (fun _ i=>255-(intOf i).toNat)
   case atStart=>exact⟨0,Nat.zero_le _,rfl,rfl⟩
   case round =>
    obtain⟨k,hk,rfl,rfl⟩:=hrel
    have hc:=kR (sumL t.data.toList []) x k hxb
    by_cases hlt:k<255
    ·have HS:=hQ9 (xi (sumL t.data.toList []) x k)
     go_wp2_with(go_at_call 198;refine(xe _ _ (zQ hs0) (zQ hc) _).mono ?_;rintro e w' ⟨rfl,rfl⟩)
     go_round
     case rel=>exact⟨k+1,by omega,by go_num,by rw [HS.out]⟩
     case measure=>simp [intOf];omega
    ·have HK:=hQ9 (show k=255 by omega)
     go_wp2
     go_ret
     exact⟨yB (by rw [HF.out,HK.out]),rfl⟩
theorem kV (t s:ByteArray) (ht:t.size≤4611686018427387904) (hs:s.size≤4611686018427387904) (w:World) :
 Calls Tryz.prog 76 #[.string t,.string s] w fun e w'=>e=.returned (.int .u64 (sumL t.data.toList s.data.toList:Nat))∧w=w':=by
 go_enter Tryz.func76,Tryz.ntmps76
 go_wp2_with fail
 refine(xE _ _ ht hs _).mono ?_
 rintro e w' ⟨rfl,rfl⟩
 go_wp2_with fail
 go_ret
 exact⟨rfl,rfl⟩
theorem zke (w:World) (t:TypeId) (d k:Nat) (h:k=16):Rd (w.alloc (.cells (rowT d k) t)) (w.heap.size+1) (some ⟨w.heap.size,0,none⟩) ((hexL d).map byteV):=by
 subst h
 have hrd:=yu w t (rowT d 16) (0,0)
 rw [zka d]at hrd ⊢
 exact hrd
theorem zh6 (d:Int) (hd:U64 d) (w:World) :
 Calls Tryz.prog 85 #[.int .u64 d] w fun e w'=>e=.returned (.string ⟨(hexL d.toNat).toArray⟩)∧Grew w w':=by
 obtain⟨hd0,hd1⟩:=hd
 obtain⟨d,rfl⟩:=Int.eq_ofNat_of_zero_le hd0
 have hdb:d<18446744073709551616:=by omega
 clear hd0 hd1
 rw [Int.toNat_natCast]
 go_enter Tryz.func85,Tryz.ntmps85
 go_wp2_with fail
 rw [←rowT_0 d]
 go_loopw [0,5] (fun v i wr=>∃ k q:Nat,k≤16∧i=.int .i64 k∧Hid (q=d / 16^k)∧q<18446744073709551616∧v=.int .u64 q∧wr=w.alloc (.cells (rowT d k) 256)) (fun _ i _=>16-(intOf i).toNat)
 case atStart=>exact⟨0,d,Nat.zero_le _,rfl,hQ9 (by simp),hdb,rfl,rfl⟩
 case round =>
  obtain⟨k,q,hk,rfl,HQ,hq,rfl,rfl⟩:=hrel
  by_cases hlt:k<16
  ·have ha:=and15 _ hq
   have hm:q%16<16:=Nat.mod_lt _ (by decide)
   have hg:=zh1 _ hm
   have hcell:=zj8 d k hlt
   have hset:=zh2 d k hlt
   rw [←HQ.out]at hset
   go_wp2_with fail
   go_roundw
   case rel=>exact⟨k+1,q / 16,by omega,by go_num,hQ9 (zj9 d k q HQ.out),by omega,by go_num,rfl⟩
   case measure=>simp [intOf];omega
  ·have hrd:=zke w 256 d k (by omega)
   have hcv:=zac (P:=Tryz.prog) (w.alloc (.cells (rowT d k) 256)) (w.heap.size+1) 120 9 5 (some ⟨w.heap.size,0,none⟩) 16 16 (hexL d) (by simp [hexL]) Tryz.underlying120 Tryz.underlying5 Tryz.underlying9 hrd
   clear hrd
   go_wp2
   go_ret
   exact⟨rfl,(Below.refl _ _).alloc (Nat.le_refl _) _⟩
theorem zgb (c:UInt8) (h:48≤c.toNat∧c.toNat≤57) (w:World) :
 Calls Tryz.prog 151 #[.int .u8 c.toNat] w fun e w'=>e=.returned (.tuple #[.int .u64 ((c.toNat-48:Nat):Int),.bool true])∧w=w':=by
 obtain⟨h1,h2⟩:=h
 go_enter Tryz.func151,Tryz.ntmps151
 go_wp2_with fail
 go_ret2
 exact⟨by simp;omega,rfl⟩
theorem zgc (c:UInt8) (h:97≤c.toNat∧c.toNat≤102) (w:World) :
 Calls Tryz.prog 151 #[.int .u8 c.toNat] w fun e w'=>e=.returned (.tuple #[.int .u64 ((c.toNat-87:Nat):Int),.bool true])∧w=w':=by
 obtain⟨h1,h2⟩:=h
 go_enter Tryz.func151,Tryz.ntmps151
 go_wp2_with fail
 go_ret2
 exact⟨by simp;omega,rfl⟩
theorem zh7 (c:UInt8) (h:¬(48≤c.toNat∧c.toNat≤57)) (h':¬(97≤c.toNat∧c.toNat≤102)) (w:World) :
 Calls Tryz.prog 151 #[.int .u8 c.toNat] w fun e w'=>e=.returned (.tuple #[.int .u64 0,.bool false])∧w=w':=by
 go_enter Tryz.func151,Tryz.ntmps151
 go_wp2_with fail
 all_goals first
  | (exfalso;omega)
  | (go_ret2;exact⟨rfl,rfl⟩)
theorem zae (c:UInt8) (w:World) :
 Calls Tryz.prog 151 #[.int .u8 c.toNat] w fun e w'=>e=.returned (.tuple #[.int .u64 ((hexVal c).getD 0:Nat),.bool (hexVal c).isSome])∧w=w':=by
 by_cases h:48≤c.toNat∧c.toNat≤57
 ·rw [zeq c h];exact zgb c h w
 ·by_cases h':97≤c.toNat∧c.toNat≤102
  ·rw [zer c h'];exact zgc c h' w
  ·rw [zf3 c h h'];exact zh7 c h h' w
theorem zcs (s:ByteArray) (h:s.size≠16) (w:World) :
 Calls Tryz.prog 82 #[.string s] w fun e w'=>e=.returned (parseRes none)∧w=w':=by
 have hb:((s.size:Int) != 16)=true:=by rw [bne_iff_ne];omega
 go_enter Tryz.func82,Tryz.ntmps82
 go_wp2_with fail
 go_ret2
 exact⟨rfl,rfl⟩
theorem zh8 (s:ByteArray) (h:s.size=16) (w:World) :
 Calls Tryz.prog 82 #[.string s] w fun e w'=>e=.returned (parseRes (hexN s.data.toList))∧w=w':=by
 have hb:((s.size:Int) != 16)=false:=by rw [h];rfl
 have hsz:s.size≤16:=by omega
 have H:=hQ9 h
 clear h
 go_enter Tryz.func82,Tryz.ntmps82
 go_wp2_with fail
 go_loop [4,13] (fun v i=>∃ k d:Nat,k≤s.size∧i=.int .i64 k∧Hid (hexN (s.data.toList.take k)=some d)∧v=.int .u64 d) (fun _ i=>s.size-(intOf i).toNat)
 case atStart=>exact⟨0,0,Nat.zero_le _,rfl,hQ9 rfl,rfl⟩
 case round =>
  obtain⟨k,d,hk,rfl,HD,rfl⟩:=hrel
  by_cases hlt:k<s.size
  ·have hdb:=zf5 _ d (by rw [List.length_take];have:=H.out;omega) HD.out
   have hsn:hexN (s.data.toList.take (k+1))=hexStepO (some d) s[k]:=by rw [zab s k hlt,xL,HD.out]
   have HS:=hQ9 hsn
   clear hsn
   cases hc:hexVal s[k]with
   | none =>
    have hno:hexN s.data.toList=none:=by
     have:=zf4 (s.data.toList.take (k+1)) (s.data.toList.drop (k+1)) (by rw [HS.out];simp [hexStepO,hc])
     rwa [List.take_append_drop]at this
    have HN:=hQ9 hno
    have HC:=hQ9 hc
    clear hno hc
    go_wp2_with(go_at_call 151;refine(zae _ _).mono ?_;rintro e w' ⟨rfl,rfl⟩;rw [HC.out])
    go_ret2
    exact⟨zds HN.out rfl,rfl⟩
   | some n =>
    have hn:=xk _ _ hc
    have ho:=shl_or d n hdb hn
    have HV:Hid (hexN (s.data.toList.take (k+1))=some (d*16+n)):=hQ9 (by rw [HS.out];simp [hexStepO,hc])
    have HC:=hQ9 hc
    clear hc
    go_wp2_with(go_at_call 151;refine(zae _ _).mono ?_;rintro e w' ⟨rfl,rfl⟩;rw [HC.out])
    go_round
    case rel=>exact⟨k+1,d*16+n,by omega,by go_num,HV,by go_num⟩
    case measure=>simp [intOf];omega
  ·have hkk:s.data.toList.take k=s.data.toList:=List.take_of_length_le (by simp;omega)
   rw [hkk]at HD
   clear hkk
   go_wp2
   go_ret2
   exact⟨zds HD.out rfl,rfl⟩
theorem zaf (s:ByteArray) (w:World) :
 Calls Tryz.prog 82 #[.string s] w fun e w'=>e=.returned (parseRes (parseO s.data.toList))∧w=w':=by
 unfold parseO
 by_cases h:s.data.toList.length=16
 ·rw [if_pos h];exact zh8 s h w
 ·rw [if_neg h];exact zcs s h w
end Go.Proofs.YtkpnheenacchhaaGreatDoor
