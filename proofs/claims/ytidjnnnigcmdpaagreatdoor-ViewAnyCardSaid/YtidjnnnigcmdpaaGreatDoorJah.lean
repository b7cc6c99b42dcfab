/- Contracts of package merkle: the count of leaves. -/
import Derived.Test.YtidjnnnigcmdpaaGreatDoorJzz
import Derived.Test.YtidjnnnigcmdpaaGreatDoorJag
import Derived.Test.YtidjnnnigcmdpaaGreatDoorJae
set_option maxRecDepth 100000
set_option linter.unusedSimpArgs false
set_option linter.unusedVariables false
set_option linter.unnecessarySimpa false
namespace Go.Proofs.YtidjnnnigcmdpaaGreatDoor
open Go.RowKit
def tagMt:List UInt8:=[109,116]
theorem jQ (a b:Int) (ha:U64 a) (hb:U64 b) (w:World) :
 Calls Tryz.prog 212 #[.int .u64 a,.int .u64 b] w fun e w'=>e=.returned (.int .u64 (twoN tagMt a.toNat b.toNat:Nat))∧w=w':=by
 go_enter Tryz.func212,Tryz.ntmps212
 go_wp2_with fail
 refine(jg ⟨#[109,116]⟩ a b (by decide) ha hb _).mono ?_
 rintro e w' ⟨rfl,rfl⟩
 go_wp2_with fail
 go_ret
 exact⟨rfl,rfl⟩
def on1 (n:Int):Int:=IntKind.u64.wrap (bits .and .u64 (n / 2) 6148914691236517205+bits .and .u64 n 6148914691236517205)
def on2 (n:Int):Int:=IntKind.u64.wrap (bits .and .u64 (n / 4) 3689348814741910323+bits .and .u64 n 3689348814741910323)
def on3 (n:Int):Int:=bits .and .u64 (IntKind.u64.wrap (n / 16+n)) 1085102592571150095
def on4 (n:Int):Int:=IntKind.u64.wrap (n+n / 256)
def on5 (n:Int):Int:=IntKind.u64.wrap (n+n / 65536)
def on6 (n:Int):Int:=IntKind.u64.wrap (n+n / 4294967296)
def onesI (n:Int):Int:=bits .and .i64 (wrap64 (on6 (on5 (on4 (on3 (on2 (on1 n))))))) 127
def pow2B (n:Nat):Bool:=[1,2,4,8,16,32,64,128,256].contains n
theorem zei:∀ n:Fin 257,(onesI ((n.val:Nat):Int)==1)=pow2B n.val:=by decide +kernel
theorem zhq (n:Nat) (h:n≤256):(onesI (n:Int)==1)=pow2B n:=zei ⟨n,by omega⟩
theorem zej (n:Int) (hn:U64 n) (w:World) :
 Calls Tryz.prog 278 #[.int .u64 n] w fun e w'=>e=.returned (.int .i64 (onesI n))∧w=w':=by
 unfold onesI
 have e1:IntKind.u64.wrap (bits .and .u64 (n / 2) 6148914691236517205+bits .and .u64 n 6148914691236517205)=on1 n:=rfl
 generalize on1 n=x1 at e1 ⊢
 have e2:IntKind.u64.wrap (bits .and .u64 (x1 / 4) 3689348814741910323+bits .and .u64 x1 3689348814741910323)=on2 x1:=rfl
 generalize on2 x1=x2 at e2 ⊢
 have e3:bits .and .u64 (IntKind.u64.wrap (x2 / 16+x2)) 1085102592571150095=on3 x2:=rfl
 generalize on3 x2=x3 at e3 ⊢
 have e4:IntKind.u64.wrap (x3+x3 / 256)=on4 x3:=rfl
 generalize on4 x3=x4 at e4 ⊢
 have e5:IntKind.u64.wrap (x4+x4 / 65536)=on5 x4:=rfl
 generalize on5 x4=x5 at e5 ⊢
 have e6:IntKind.u64.wrap (x5+x5 / 4294967296)=on6 x5:=rfl
 generalize on6 x5=x6 at e6 ⊢
 go_enter Tryz.func278,Tryz.ntmps278
 go_wp2_with fail
 go_ret
 exact⟨rfl,rfl⟩
theorem zhr (n:Int) (hn:U64 n) (w:World) :
 Calls Tryz.prog 251 #[.int .u64 n] w fun e w'=>e=.returned (.int .i64 (onesI n))∧w=w':=by
 have C:=hQ9 (zej n hn)
 generalize onesI n=y at *
 go_enter Tryz.func251,Tryz.ntmps251
 go_wp2_with fail
 refine(C.out _).mono ?_
 rintro e w' ⟨rfl,rfl⟩
 go_wp2_with fail
 go_ret
 exact⟨rfl,rfl⟩
def leavesOk (n:Nat):Bool:=pow2B n
theorem xg (n:Nat) (h:leavesOk n=true):1≤n∧n≤256:=by
 unfold leavesOk pow2B at h
 simp at h
 omega
theorem zau (n:Nat) (hn:n<9223372036854775808) (w:World) :
 Calls Tryz.prog 210 #[.int .i64 n] w fun e w'=>e=.returned (.int .i64 (if leavesOk n then 0 else 1))∧w=w':=by
 by_cases h:n≤256
 ·have C:=hQ9 (zhr n ⟨by omega,by omega⟩)
  have hp:=zhq n h
  have h':¬(256<(n:Int)):=by omega
  unfold leavesOk
  generalize onesI (n:Int)=y at *
  cases hb:pow2B n with
  | true =>
   rw [hb]at hp
   go_enter Tryz.func210,Tryz.ntmps210
   go_wp2_with(go_at_call 251;refine(C.out _).mono ?_;rintro e w' ⟨rfl,rfl⟩)
   go_ret
   exact⟨rfl,rfl⟩
  | false =>
   rw [hb]at hp
   go_enter Tryz.func210,Tryz.ntmps210
   go_wp2_with(go_at_call 251;refine(C.out _).mono ?_;rintro e w' ⟨rfl,rfl⟩)
   go_ret
   exact⟨rfl,rfl⟩
 ·have hf:leavesOk n=false:=by
   cases hb:leavesOk n with
   | false=>rfl
   | true=>have:=xg n hb;omega
  have h':256<(n:Int):=by omega
  rw [hf]
  go_enter Tryz.func210,Tryz.ntmps210
  go_wp2_with fail
  go_ret
  exact⟨rfl,rfl⟩
def tagSk:List UInt8:=[115,107]
noncomputable def secN (seed leaf:Int) (k:Nat):Nat:=twoN tagSk seed.toNat ((32*leaf+k)%18446744073709551616).toNat
theorem jy (seed leaf:Int) (hs:U64 seed) (hl:-9223372036854775808≤leaf∧leaf≤9223372036854775807) (w:World) :
 Calls Tryz.prog 159 #[.int .u64 seed,.int .i64 leaf] w fun e w'=>e=.returned (.agg ((List.range 18).map fun k=>u64V (secN seed leaf k)).toArray)∧Grew w w':=by
 go_enter Tryz.func159,Tryz.ntmps159
 go_wp2_with fail
 go_loopw [7] (fun i wr=>∃ k:Nat,k≤18∧i=.int .i64 k∧wr=(w.alloc (.cells (List.replicate 18 (u64V 0)).toArray 259)).alloc (.cells (rowF 18 (fun k=>u64V (secN seed leaf k)) (u64V 0) k) 259)) (fun i _=>18-(intOf i).toNat)
 case atStart=>exact⟨0,Nat.zero_le _,rfl,by rw [yg];rfl⟩
 case round =>
  obtain⟨k,hk,rfl,rfl⟩:=hrel
  by_cases hlt:k<18
  ·have hcell:(rowF 18 (fun k=>u64V (secN seed leaf k)) (u64V 0) k)[k]?=some (.int .u64 0):=yv _ _ _ _ hlt
   have hset:(rowF 18 (fun k=>u64V (secN seed leaf k)) (u64V 0) k).setIfInBounds k (.int .u64 (secN seed leaf k:Nat))=rowF 18 (fun k=>u64V (secN seed leaf k)) (u64V 0) (k+1):=yi _ _ _ _ hlt
   have hsz:=zX 18 (fun k=>u64V (secN seed leaf k)) (u64V 0) k
   go_wp2_with fail
   rw [show IntKind.u64.wrap (IntKind.u64.wrap (32*IntKind.u64.wrap leaf)+(k:Int))=(32*leaf+k)%18446744073709551616 by simp only [IntKind.wrap_u64];omega]
   refine(jg ⟨#[115,107]⟩ _ _ (by decide) hs ⟨by omega,by omega⟩ _).mono ?_
   rintro e w' ⟨rfl,rfl⟩
   rw [show twoN (⟨#[115,107]⟩:ByteArray).data.toList seed.toNat ((32*leaf+(k:Int))%18446744073709551616).toNat=secN seed leaf k from rfl]
   go_wp2_with fail
   go_roundw
   case rel=>exact⟨k+1,by omega,by go_num,rfl⟩
   case measure=>simp [intOf];omega
  ·have hk18:k=18:=by omega
   subst hk18
   rw [yy]
   have hsz:((List.range 18).map fun k=>u64V (secN seed leaf k)).toArray.size=18:=by simp
   have hone:=xF (List.range 18) (fun k=>u64V (secN seed leaf k)) (fun _=>rfl)
   generalize hcs:((List.range 18).map fun k=>u64V (secN seed leaf k)).toArray=cs at *
   have HCS:=hQ9 hcs
   clear hcs
   have h0:((w.alloc (.cells (List.replicate 18 (u64V 0)).toArray 259)).alloc (.cells cs 259)).heap[w.heap.size]?=some (.cells (List.replicate 18 (u64V 0)).toArray 259 (0,0)):=heap_alloc2_old _ _ _
   have h1:((w.alloc (.cells (List.replicate 18 (u64V 0)).toArray 259)).alloc (.cells cs 259)).heap[w.heap.size+1]?=some (.cells cs 259 (0,0)):=heap_alloc2_new _ _ _
   have hb:Grew w ((w.alloc (.cells (List.replicate 18 (u64V 0)).toArray 259)).alloc (.cells cs 259)):=((Below.refl _ _).alloc (Nat.le_refl _) _).alloc (by simp) _
   generalize (w.alloc (.cells (List.replicate 18 (u64V 0)).toArray 259)).alloc (.cells cs 259)=W at *
   have hinfo:(Tryz.prog.info? 259).map (·.size)=some cs.size:=by rw [hsz];kernel_rfl
   have hsz0:((List.replicate 18 (u64V 0)).toArray).size=cs.size:=by simp;omega
   have h2:(W.setRow w.heap.size cs).heap[w.heap.size]?=some (.cells cs 259 (0,0)):=setRow_heap _ _ _ _ _ _ h0
   go_wp2_with(first
    | (with_reducible refine wpList_load_row rfl 259 _ rfl (w.heap.size+1) rfl 259 cs (0,0) _ h1 Tryz.underlying259 rfl hinfo ?_)
    | (with_reducible refine wpList_store_row rfl 259 _ _ rfl w.heap.size cs rfl rfl 259 _ h0 hinfo hsz0 hone ?_))
   exact bodyPost_ret (results_cell_row Tryz.results159 _ _ w.heap.size _ cs (0,0) _ rfl h2 Tryz.underlying259 rfl hinfo) rfl ⟨by rw [HCS.out],yf hb (Nat.le_refl _) cs⟩
def digA (d i:Nat):Nat:=d / 16^(15-i)%16
def csum (d:Nat):Nat→Nat
 | 0=>0
 | k+1=>csum d k+(15-digA d k)
def digK (d k:Nat):Nat:=if k<16 then digA d k else if k=16 then csum d 16 / 16 else csum d 16%16
theorem zj3 (d i:Nat):digA d i<16:=Nat.mod_lt _ (by decide)
theorem ka (d k:Nat):csum d k≤15*k:=by
 induction k with
 | zero=>simp [csum]
 | succ k ih=>simp only [csum];omega
theorem kb (d k:Nat):digK d k≤15:=by
 unfold digK
 have h1:=zj3 d k
 have h2:=ka d 16
 split
 ·omega
 ·split<;>omega
def digF (d:Nat) (k:Nat):Value:=.int .i64 (digK d k:Nat)
theorem zdj (d k:Nat) (h:k<16):∃ q:Nat,q=d / 16^(15-k)∧((d:Int) / 2^(4*(15-k)))=(q:Int):=by
 refine⟨_,rfl,?_⟩
 have:16^(15-k)=2^(4*(15-k)):=by rw [show(16:Nat)=2^4 from rfl,←Nat.pow_mul]
 rw [this]
 simp
theorem zav (x:Nat) (hx:x<18446744073709551616):bits .and .u64 (x:Int) 15=((x%16:Nat):Int):=by
 have h:=u64_and_nat x 15 hx (by decide)
 simp only [Int.cast_ofNat_Int]at h
 rw [h,show x &&& 15=x%16 from Nat.and_two_pow_sub_one_eq_mod x 4]
theorem zaw (S:Nat) (h:S≤240):bits .and .i64 (S:Int) 15=(S:Int)%16:=by
 have:∀ S:Fin 241,bits .and .i64 (S.val:Int) 15=(S.val:Int)%16:=by decide +kernel
 exact this ⟨S,by omega⟩
theorem yO (d:Nat):(((List.range 18).map (digF d)).toArray).all (·.oneCell')=true:=xF _ _ (fun _=>rfl)
theorem qB (d:Int) (hd:U64 d) (w:World) :
 Calls Tryz.prog 213 #[.int .u64 d] w fun e w'=>e=.returned (.agg ((List.range 18).map (digF d.toNat)).toArray)∧Grew w w':=by
 obtain⟨hd0,hd1⟩:=hd
 obtain⟨d,rfl⟩:=Int.eq_ofNat_of_zero_le hd0
 have hdb:d<18446744073709551616:=by omega
 clear hd0 hd1
 rw [Int.toNat_natCast]
 go_enter Tryz.func213,Tryz.ntmps213
 go_wp2_with fail
 go_loopw [4,6] (fun v i wr=>∃ k:Nat,k≤16∧i=.int .i64 k∧v=.int .i64 (csum d k:Nat)∧wr=(w.alloc (.cells (List.replicate 18 (.int .i64 0)).toArray 324)).alloc (.cells (rowF 18 (digF d) (.int .i64 0) k) 324)) (fun _ i _=>16-(intOf i).toNat)
 case atStart=>exact⟨0,Nat.zero_le _,rfl,rfl,by rw [yg];rfl⟩
 case round =>
  obtain⟨k,hk,rfl,rfl,rfl⟩:=hrel
  by_cases hlt:k<16
  ·obtain⟨q,hq,hsh⟩:=zdj d k hlt
   have hqb:q<18446744073709551616:=by rw [hq];exact Nat.lt_of_le_of_lt (Nat.div_le_self _ _) hdb
   have hfk:digF d k=.int .i64 ((q%16:Nat):Int):=by
    simp only [digF,digK];rw [if_pos hlt,digA,hq]
   have ha:=zav q hqb
   have hm:q%16<16:=Nat.mod_lt _ (by decide)
   have hcs:csum d (k+1)=csum d k+(15-q%16):=by simp only [csum,digA,hq]
   have hcl:=ka d k
   have hcell:(rowF 18 (digF d) (.int .i64 0) k)[k]?=some (.int .i64 0):=yv _ _ _ _ (by omega)
   have hset:=yi 18 (digF d) (.int .i64 0) k (by omega)
   have hcell2:=zar 18 (digF d) (.int .i64 0) (k+1) k (by omega) (by omega)
   rw [hfk]at hset hcell2
   have hsz:=zX 18 (digF d) (.int .i64 0) k
   have hsz2:=zX 18 (digF d) (.int .i64 0) (k+1)
   have HC:=hQ9 hcs
   clear hq hfk hcs
   generalize q%16=m at *
   go_wp2_with fail
   go_roundw
   case rel=>exact⟨k+1,by omega,by go_num,by rw [HC.out];congr 1;omega,rfl⟩
   case measure=>simp [intOf];omega
  ·have HK:=hQ9 (show k=16 by omega)
   have hcl:=ka d 16
   have hzz:((List.replicate 18 (Value.int .i64 0)).toArray).size=18:=by simp
   generalize (List.replicate 18 (Value.int .i64 0)).toArray=z0 at *
   have hs16:(rowF 18 (digF d) (.int .i64 0) k).setIfInBounds 16 (.int .i64 ((csum d 16:Nat) / 16))=rowF 18 (digF d) (.int .i64 0) 17:=by
    rw [HK.out]
    have:=yi 18 (digF d) (.int .i64 0) 16 (by omega)
    have hv:digF d 16=.int .i64 ((csum d 16:Nat) / 16):=by simp [digF,digK]
    rw [hv]at this
    exact this
   have hs17:(rowF 18 (digF d) (.int .i64 0) 17).setIfInBounds 17 (.int .i64 ((csum d 16:Nat)%16))=((List.range 18).map (digF d)).toArray:=by
    have:=yi 18 (digF d) (.int .i64 0) 17 (by omega)
    have hv:digF d 17=.int .i64 ((csum d 16:Nat)%16):=by simp [digF,digK]
    rw [hv,yy]at this
    exact this
   have hc16:(rowF 18 (digF d) (.int .i64 0) k)[16]?=some (.int .i64 0):=by rw [HK.out];exact yv _ _ _ _ (by omega)
   have hc17:(rowF 18 (digF d) (.int .i64 0) 17)[17]?=some (.int .i64 0):=yv _ _ _ _ (by omega)
   have hand:=zaw (csum d 16) (by omega)
   have hcsk:csum d k=csum d 16:=by rw [HK.out]
   rw [hcsk]
   clear hcsk
   have hone:=yO d
   have hsz0:=zX 18 (digF d) (.int .i64 0) k
   have hsz1:=zX 18 (digF d) (.int .i64 0) 17
   have hszf:(((List.range 18).map (digF d)).toArray).size=18:=by simp
   generalize hcs:((List.range 18).map (digF d)).toArray=cs at *
   have HCS:=hQ9 hcs
   clear hcs
   generalize rowF 18 (digF d) (.int .i64 0) k=r0 at *
   generalize rowF 18 (digF d) (.int .i64 0) 17=r1 at *
   generalize csum d 16=S at *
   have hinfo:(Tryz.prog.info? 324).map (·.size)=some cs.size:=by rw [hszf];kernel_rfl
   have g1:((w.alloc (.cells z0 324)).alloc (.cells cs 324)).heap[w.heap.size+1]?=some (.cells cs 324 (0,0)):=heap_alloc2_new _ _ _
   have g0:((w.alloc (.cells z0 324)).alloc (.cells cs 324)).heap[w.heap.size]?=some (.cells z0 324 (0,0)):=heap_alloc2_old _ _ _
   have hbz:Grew w ((w.alloc (.cells z0 324)).alloc (.cells cs 324)):=((Below.refl _ _).alloc (Nat.le_refl _) _).alloc (by simp) _
   have hz0:z0.size=cs.size:=by omega
   have g2:=Bk.row (show Bk _ _ _ _ from g0) cs
   unfold Bk at g2
   go_wp2_with(first
    | (with_reducible refine wpList_load_row rfl 324 _ rfl (w.heap.size+1) rfl 324 cs (0,0) _ g1 Tryz.underlying324 rfl hinfo ?_)
    | (with_reducible refine wpList_store_row rfl 324 _ _ rfl w.heap.size cs rfl rfl 324 _ g0 hinfo hz0 hone ?_))
   exact bodyPost_ret (results_cell_row Tryz.results213 _ _ w.heap.size _ cs (0,0) _ rfl g2 Tryz.underlying324 rfl hinfo) rfl ⟨by rw [HCS.out],yf hbz (Nat.le_refl _) cs⟩
theorem zhs (d k:Nat) (h:k<16):∃ q:Nat,q=d / 16^(15-k)∧((d:Int) / 2^(60-4*k))=(q:Int):=by
 obtain⟨q,h1,h2⟩:=zdj d k h
 exact⟨q,h1,by rw [show 60-4*k=4*(15-k) by omega];exact h2⟩
theorem zcu (d:Int) (hd:U64 d) (w:World) :
 Calls Tryz.prog 247 #[.int .u64 d] w fun e w'=>e=.returned (.agg ((List.range 18).map (digF d.toNat)).toArray)∧Grew w w':=by
 obtain⟨hd0,hd1⟩:=hd
 obtain⟨d,rfl⟩:=Int.eq_ofNat_of_zero_le hd0
 have hdb:d<18446744073709551616:=by omega
 clear hd0 hd1
 rw [Int.toNat_natCast]
 go_enter Tryz.func247,Tryz.ntmps247
 go_wp2_with fail
 go_loopw [4,5] (fun v i wr=>∃ k:Nat,k≤16∧i=.int .i64 k∧v=.int .i64 (csum d k:Nat)∧wr=(w.alloc (.cells (List.replicate 18 (.int .i64 0)).toArray 324)).alloc (.cells (rowF 18 (digF d) (.int .i64 0) k) 324)) (fun _ i _=>16-(intOf i).toNat)
 case atStart=>exact⟨0,Nat.zero_le _,rfl,rfl,by rw [yg];rfl⟩
 case round =>
  obtain⟨k,hk,rfl,rfl,rfl⟩:=hrel
  by_cases hlt:k<16
  ·obtain⟨q,hq,hsh⟩:=zhs d k hlt
   have hqb:q<18446744073709551616:=by rw [hq];exact Nat.lt_of_le_of_lt (Nat.div_le_self _ _) hdb
   have hfk:digF d k=.int .i64 ((q%16:Nat):Int):=by
    simp only [digF,digK];rw [if_pos hlt,digA,hq]
   have ha:=zav q hqb
   have hm:q%16<16:=Nat.mod_lt _ (by decide)
   have hcs:csum d (k+1)=csum d k+(15-q%16):=by simp only [csum,digA,hq]
   have hcl:=ka d k
   have hcell:(rowF 18 (digF d) (.int .i64 0) k)[k]?=some (.int .i64 0):=yv _ _ _ _ (by omega)
   have hset:=yi 18 (digF d) (.int .i64 0) k (by omega)
   have hcell2:=zar 18 (digF d) (.int .i64 0) (k+1) k (by omega) (by omega)
   rw [hfk]at hset hcell2
   have hsz:=zX 18 (digF d) (.int .i64 0) k
   have hsz2:=zX 18 (digF d) (.int .i64 0) (k+1)
   have HC:=hQ9 hcs
   clear hq hfk hcs
   generalize q%16=m at *
   go_wp2_with fail
   go_roundw
   case rel=>exact⟨k+1,by omega,by go_num,by rw [HC.out];congr 1;omega,rfl⟩
   case measure=>simp [intOf];omega
  ·have HK:=hQ9 (show k=16 by omega)
   have hcl:=ka d 16
   have hzz:((List.replicate 18 (Value.int .i64 0)).toArray).size=18:=by simp
   generalize (List.replicate 18 (Value.int .i64 0)).toArray=z0 at *
   have hs16:(rowF 18 (digF d) (.int .i64 0) k).setIfInBounds 16 (.int .i64 ((csum d 16:Nat) / 16))=rowF 18 (digF d) (.int .i64 0) 17:=by
    rw [HK.out]
    have:=yi 18 (digF d) (.int .i64 0) 16 (by omega)
    have hv:digF d 16=.int .i64 ((csum d 16:Nat) / 16):=by simp [digF,digK]
    rw [hv]at this
    exact this
   have hs17:(rowF 18 (digF d) (.int .i64 0) 17).setIfInBounds 17 (.int .i64 ((csum d 16:Nat)%16))=((List.range 18).map (digF d)).toArray:=by
    have:=yi 18 (digF d) (.int .i64 0) 17 (by omega)
    have hv:digF d 17=.int .i64 ((csum d 16:Nat)%16):=by simp [digF,digK]
    rw [hv,yy]at this
    exact this
   have hc16:(rowF 18 (digF d) (.int .i64 0) k)[16]?=some (.int .i64 0):=by rw [HK.out];exact yv _ _ _ _ (by omega)
   have hc17:(rowF 18 (digF d) (.int .i64 0) 17)[17]?=some (.int .i64 0):=yv _ _ _ _ (by omega)
   have hand:=zaw (csum d 16) (by omega)
   have hcsk:csum d k=csum d 16:=by rw [HK.out]
   rw [hcsk]
   clear hcsk
   have hone:=yO d
   have hsz0:=zX 18 (digF d) (.int .i64 0) k
   have hsz1:=zX 18 (digF d) (.int .i64 0) 17
   have hszf:(((List.range 18).map (digF d)).toArray).size=18:=by simp
   generalize hcs:((List.range 18).map (digF d)).toArray=cs at *
   have HCS:=hQ9 hcs
   clear hcs
   generalize rowF 18 (digF d) (.int .i64 0) k=r0 at *
   generalize rowF 18 (digF d) (.int .i64 0) 17=r1 at *
   generalize csum d 16=S at *
   have hinfo:(Tryz.prog.info? 324).map (·.size)=some cs.size:=by rw [hszf];kernel_rfl
   have g1:((w.alloc (.cells z0 324)).alloc (.cells cs 324)).heap[w.heap.size+1]?=some (.cells cs 324 (0,0)):=heap_alloc2_new _ _ _
   have g0:((w.alloc (.cells z0 324)).alloc (.cells cs 324)).heap[w.heap.size]?=some (.cells z0 324 (0,0)):=heap_alloc2_old _ _ _
   have hbz:Grew w ((w.alloc (.cells z0 324)).alloc (.cells cs 324)):=((Below.refl _ _).alloc (Nat.le_refl _) _).alloc (by simp) _
   have hz0:z0.size=cs.size:=by omega
   have g2:=Bk.row (show Bk _ _ _ _ from g0) cs
   unfold Bk at g2
   go_wp2_with(first
    | (with_reducible refine wpList_load_row rfl 324 _ rfl (w.heap.size+1) rfl 324 cs (0,0) _ g1 Tryz.underlying324 rfl hinfo ?_)
    | (with_reducible refine wpList_store_row rfl 324 _ _ rfl w.heap.size cs rfl rfl 324 _ g0 hinfo hz0 hone ?_))
   exact bodyPost_ret (results_cell_row Tryz.results247 _ _ w.heap.size _ cs (0,0) _ rfl g2 Tryz.underlying324 rfl hinfo) rfl ⟨by rw [HCS.out],yf hbz (Nat.le_refl _) cs⟩
end Go.Proofs.YtidjnnnigcmdpaaGreatDoor
