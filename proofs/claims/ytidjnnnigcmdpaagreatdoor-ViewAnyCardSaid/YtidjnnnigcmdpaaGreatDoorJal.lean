/- Contracts of ots.advanced, at its three uses. -/
import Derived.Test.YtidjnnnigcmdpaaGreatDoorJzz
import Derived.StillTailTactics
import Derived.Test.YtidjnnnigcmdpaaGreatDoorJah
set_option maxHeartbeats 400000
set_option maxRecDepth 100000
set_option linter.unusedSimpArgs false
set_option linter.unusedVariables false
set_option linter.unnecessarySimpa false
namespace Go.Proofs.YtidjnnnigcmdpaaGreatDoor
open Go.RowKit
def tagOt:List UInt8:=[111,116]
noncomputable def advF (s d:Nat→Nat) (k:Nat):Nat:=chainI tagOt (s k) (d k:Nat)
theorem zj5 (cs:Array Value) (s d:Nat→Nat) (w:World) (hcs:cs.size=18) (hs:∀ k,k<18→cs[k]?=some (.int .u64 (s k:Nat))∧s k<18446744073709551616) (hd:∀ k,k<18→d k≤15)
 (hf:∀ k:Nat,k<18→∀ W:World,Grew w W→Calls Tryz.prog 208 #[.int .i64 k] W fun e w'=>e=.returned (.int .i64 (d k:Nat))∧W=w') :
 Calls Tryz.prog 214 #[.agg cs,.func (.func 208) #[] #[]] w fun e w'=>e=.returned (.agg (arrU (advF s d)))∧Grew w w':=by
 have hinfo26:(Tryz.prog.info? 259).map (·.size)=some 18:=by kernel_rfl
 have hinfo:(Tryz.prog.info? 64).map (·.size)=some 18:=by kernel_rfl
 have HF:=hQ9 hf
 have HS:=hQ9 hs
 have HD:=hQ9 hd
 have HCS:=hQ9 hcs
 clear hf hs hd hcs
 go_enter Tryz.func214,Tryz.ntmps214
 go_wp2_with fail
 have hW0:Bk (((w.alloc (.cells cs 259)).alloc (.cells (List.replicate 18 (u64V 0)).toArray 64)).alloc (.cells (rowF 18 (fun k=>u64V (chainI tagOt (s k) (d k))) (u64V 0) 0) 64)) w.heap.size 259 cs:=((Bk.new _ _ _).alloc _).alloc _
 have hW1:Bk (((w.alloc (.cells cs 259)).alloc (.cells (List.replicate 18 (u64V 0)).toArray 64)).alloc (.cells (rowF 18 (fun k=>u64V (chainI tagOt (s k) (d k))) (u64V 0) 0) 64)) (w.heap.size+1) 64 (List.replicate 18 (u64V 0)).toArray:=by
  have:=(Bk.new (w.alloc (.cells cs 259)) 64 (List.replicate 18 (u64V 0)).toArray).alloc (.cells (rowF 18 (fun k=>u64V (chainI tagOt (s k) (d k))) (u64V 0) 0) 64)
  simpa using this
 have hW2:Bk (((w.alloc (.cells cs 259)).alloc (.cells (List.replicate 18 (u64V 0)).toArray 64)).alloc (.cells (rowF 18 (fun k=>u64V (chainI tagOt (s k) (d k))) (u64V 0) 0) 64)) (w.heap.size+1+1) 64 (rowF 18 (fun k=>u64V (chainI tagOt (s k) (d k))) (u64V 0) 0):=by
  have:=Bk.new ((w.alloc (.cells cs 259)).alloc (.cells (List.replicate 18 (u64V 0)).toArray 64)) 64 (rowF 18 (fun k=>u64V (chainI tagOt (s k) (d k))) (u64V 0) 0)
  simpa using this
 have hWb:Grew w (((w.alloc (.cells cs 259)).alloc (.cells (List.replicate 18 (u64V 0)).toArray 64)).alloc (.cells (rowF 18 (fun k=>u64V (chainI tagOt (s k) (d k))) (u64V 0) 0) 64)):=(((Below.refl _ _).alloc (Nat.le_refl _) _).alloc (by simp) _).alloc (by simp;omega) _
 go_loopw [7] (fun i wr=>∃ k:Nat,k≤18∧i=.int .i64 k∧Bk wr w.heap.size 259 cs∧Bk wr (w.heap.size+1) 64 (List.replicate 18 (u64V 0)).toArray∧Bk wr (w.heap.size+1+1) 64 (rowF 18 (fun k=>u64V (chainI tagOt (s k) (d k))) (u64V 0) k)∧Grew w wr) (fun i _=>18-(intOf i).toNat)
 case atStart =>
  rw [yg]at hW0 hW1 hW2 hWb
  exact⟨0,Nat.zero_le _,rfl,hW0,hW1,by rw [yg];exact hW2,hWb⟩
 case round =>
  clear hW0 hW1 hW2 hWb
  obtain⟨k,hk,rfl,h0,h1,h2,hb⟩:=hrel
  by_cases hlt:k<18
  ·have hsk:=HS.out k hlt
   have hcell:wr.cell? ⟨w.heap.size,k,none⟩=some (.int .u64 (s k:Nat)):=by rw [h0.cell];exact hsk.1
   have hcell2:wr.drew.cell? ⟨w.heap.size+1+1,k,none⟩=some (.int .u64 (0:Nat)):=by rw [h2.drew.cell];exact yv _ _ _ _ hlt
   have hfr2:wr.drew.frozen? ⟨w.heap.size+1+1,k,none⟩=false:=h2.drew.frozen k
   have hk0:(0:Int)≤(k:Int):=by omega
   have hk1:(k:Int)<18:=by omega
   have hdk:=HD.out k hlt
   have C1:=hQ9 ((HF.out k hlt wr.drew hb.drew).mono fun _ _ h=>And.intro h.1 h.2.symm)
   have C2:=hQ9 ((kO ⟨#[111,116]⟩ (s k:Nat) (d k:Nat) (by decide) (zE hsk.2) (by omega) (by omega) wr.drew).mono fun _ _ h=>And.intro h.1 h.2.symm)
   rw [show(⟨#[111,116]⟩:ByteArray).data.toList=tagOt from rfl,Int.toNat_natCast]at C2
   have hset:(rowF 18 (fun k=>u64V (chainI tagOt (s k) (d k))) (u64V 0) k).setIfInBounds k (.int .u64 (chainI tagOt (s k) (d k):Nat))=rowF 18 (fun k=>u64V (chainI tagOt (s k) (d k))) (u64V 0) (k+1):=yi _ _ _ _ hlt
   have h2':=h2.drew.set_ k (.int .u64 (chainI tagOt (s k) (d k):Nat))
   rw [hset]at h2'
   have h0':=h0.drew.far (p:=⟨w.heap.size+1+1,k,none⟩) (by show _≠_;simp only [];omega) (.int .u64 (chainI tagOt (s k) (d k):Nat))
   have h1':=h1.drew.far (p:=⟨w.heap.size+1+1,k,none⟩) (by show _≠_;simp only [];omega) (.int .u64 (chainI tagOt (s k) (d k):Nat))
   have hb':=hb.drew.setCell (p:=⟨w.heap.size+1+1,k,none⟩) (by show _≤_;simp only [];omega) (.int .u64 (chainI tagOt (s k) (d k):Nat))
   generalize chainI tagOt (s k) (d k)=y at *
   clear hset hsk
   go_wp2_with fail
   refine wp_region_still_tail 9 (by kernel_rfl) (by kernel_rfl) ?_
   simp only [List.take_succ_cons,List.take_zero,List.drop_succ_cons,List.drop_zero]
   change wpStill _ _ wr.drew _ _ _
   repeat (first | still_step | still_call (C1.out) | still_call (C2.out))
   refine wpStill_nil ?_
   change wpList _ _ _ _ _ wr.drew
   go_wp2_with fail
   go_roundw
   case rel=>exact⟨k+1,by omega,by go_num,h0',h1',h2',hb'⟩
   case measure=>simp [intOf];omega
  ·obtain rfl:k=18:=by omega
   rw [yy]at h2
   generalize hcs2:((List.range 18).map fun k=>u64V (chainI tagOt (s k) (d k))).toArray=cs2 at *
   have hone:cs2.all (·.oneCell')=true:=by rw [←hcs2];exact xF (List.range 18) (fun k=>u64V (chainI tagOt (s k) (d k))) (fun _=>rfl)
   have hsz2:cs2.size=18:=by rw [←hcs2];simp
   have HC2:=hQ9 hcs2
   clear hcs2
   have hi2:(Tryz.prog.info? 64).map (·.size)=some cs2.size:=by rw [hsz2];exact hinfo
   have hsz0:((List.replicate 18 (u64V 0)).toArray).size=cs2.size:=by simp;omega
   have h3:=h1.row cs2
   unfold Bk at h1 h2 h3
   go_wp2_with(first
    | (with_reducible refine wpList_load_row rfl 64 _ rfl (w.heap.size+1+1) rfl 64 cs2 (0,0) _ h2 Tryz.underlying64 rfl hi2 ?_)
    | (with_reducible refine wpList_store_row rfl 64 _ _ rfl (w.heap.size+1) cs2 rfl rfl 64 _ h1 hi2 hsz0 hone ?_))
   exact bodyPost_ret (results_cell_row Tryz.results214 _ _ (w.heap.size+1) _ cs2 (0,0) _ rfl h3 Tryz.underlying64 rfl hi2) rfl ⟨by rw [show arrU (advF s d)=cs2 from HC2.out],yf hb (by omega) cs2⟩
theorem zhv (cs:Array Value) (s d:Nat→Nat) (g:Nat) (w:World) (hcs:cs.size=18) (hs:∀ k,k<18→cs[k]?=some (.int .u64 (s k:Nat))∧s k<18446744073709551616) (hd:∀ k,k<18→d k≤15)
 (hf:∀ k:Nat,k<18→∀ W:World,Grew w W→Calls Tryz.prog 215 #[.int .i64 k,.pointer (some ⟨g,0,none⟩)] W fun e w'=>e=.returned (.int .i64 (d k:Nat))∧W=w') :
 Calls Tryz.prog 214 #[.agg cs,.func (.func 215) #[] #[.pointer (some ⟨g,0,none⟩)]] w fun e w'=>e=.returned (.agg (arrU (advF s d)))∧Grew w w':=by
 have hinfo26:(Tryz.prog.info? 259).map (·.size)=some 18:=by kernel_rfl
 have hinfo:(Tryz.prog.info? 64).map (·.size)=some 18:=by kernel_rfl
 have HF:=hQ9 hf
 have HS:=hQ9 hs
 have HD:=hQ9 hd
 have HCS:=hQ9 hcs
 clear hf hs hd hcs
 go_enter Tryz.func214,Tryz.ntmps214
 go_wp2_with fail
 have hW0:Bk (((w.alloc (.cells cs 259)).alloc (.cells (List.replicate 18 (u64V 0)).toArray 64)).alloc (.cells (rowF 18 (fun k=>u64V (chainI tagOt (s k) (d k))) (u64V 0) 0) 64)) w.heap.size 259 cs:=((Bk.new _ _ _).alloc _).alloc _
 have hW1:Bk (((w.alloc (.cells cs 259)).alloc (.cells (List.replicate 18 (u64V 0)).toArray 64)).alloc (.cells (rowF 18 (fun k=>u64V (chainI tagOt (s k) (d k))) (u64V 0) 0) 64)) (w.heap.size+1) 64 (List.replicate 18 (u64V 0)).toArray:=by
  have:=(Bk.new (w.alloc (.cells cs 259)) 64 (List.replicate 18 (u64V 0)).toArray).alloc (.cells (rowF 18 (fun k=>u64V (chainI tagOt (s k) (d k))) (u64V 0) 0) 64)
  simpa using this
 have hW2:Bk (((w.alloc (.cells cs 259)).alloc (.cells (List.replicate 18 (u64V 0)).toArray 64)).alloc (.cells (rowF 18 (fun k=>u64V (chainI tagOt (s k) (d k))) (u64V 0) 0) 64)) (w.heap.size+1+1) 64 (rowF 18 (fun k=>u64V (chainI tagOt (s k) (d k))) (u64V 0) 0):=by
  have:=Bk.new ((w.alloc (.cells cs 259)).alloc (.cells (List.replicate 18 (u64V 0)).toArray 64)) 64 (rowF 18 (fun k=>u64V (chainI tagOt (s k) (d k))) (u64V 0) 0)
  simpa using this
 have hWb:Grew w (((w.alloc (.cells cs 259)).alloc (.cells (List.replicate 18 (u64V 0)).toArray 64)).alloc (.cells (rowF 18 (fun k=>u64V (chainI tagOt (s k) (d k))) (u64V 0) 0) 64)):=(((Below.refl _ _).alloc (Nat.le_refl _) _).alloc (by simp) _).alloc (by simp;omega) _
 go_loopw [7] (fun i wr=>∃ k:Nat,k≤18∧i=.int .i64 k∧Bk wr w.heap.size 259 cs∧Bk wr (w.heap.size+1) 64 (List.replicate 18 (u64V 0)).toArray∧Bk wr (w.heap.size+1+1) 64 (rowF 18 (fun k=>u64V (chainI tagOt (s k) (d k))) (u64V 0) k)∧Grew w wr) (fun i _=>18-(intOf i).toNat)
 case atStart =>
  rw [yg]at hW0 hW1 hW2 hWb
  exact⟨0,Nat.zero_le _,rfl,hW0,hW1,by rw [yg];exact hW2,hWb⟩
 case round =>
  clear hW0 hW1 hW2 hWb
  obtain⟨k,hk,rfl,h0,h1,h2,hb⟩:=hrel
  by_cases hlt:k<18
  ·have hsk:=HS.out k hlt
   have hcell:wr.cell? ⟨w.heap.size,k,none⟩=some (.int .u64 (s k:Nat)):=by rw [h0.cell];exact hsk.1
   have hcell2:wr.drew.cell? ⟨w.heap.size+1+1,k,none⟩=some (.int .u64 (0:Nat)):=by rw [h2.drew.cell];exact yv _ _ _ _ hlt
   have hfr2:wr.drew.frozen? ⟨w.heap.size+1+1,k,none⟩=false:=h2.drew.frozen k
   have hk0:(0:Int)≤(k:Int):=by omega
   have hk1:(k:Int)<18:=by omega
   have hdk:=HD.out k hlt
   have C1:=hQ9 ((HF.out k hlt wr.drew hb.drew).mono fun _ _ h=>And.intro h.1 h.2.symm)
   have C2:=hQ9 ((kO ⟨#[111,116]⟩ (s k:Nat) (d k:Nat) (by decide) (zE hsk.2) (by omega) (by omega) wr.drew).mono fun _ _ h=>And.intro h.1 h.2.symm)
   rw [show(⟨#[111,116]⟩:ByteArray).data.toList=tagOt from rfl,Int.toNat_natCast]at C2
   have hset:(rowF 18 (fun k=>u64V (chainI tagOt (s k) (d k))) (u64V 0) k).setIfInBounds k (.int .u64 (chainI tagOt (s k) (d k):Nat))=rowF 18 (fun k=>u64V (chainI tagOt (s k) (d k))) (u64V 0) (k+1):=yi _ _ _ _ hlt
   have h2':=h2.drew.set_ k (.int .u64 (chainI tagOt (s k) (d k):Nat))
   rw [hset]at h2'
   have h0':=h0.drew.far (p:=⟨w.heap.size+1+1,k,none⟩) (by show _≠_;simp only [];omega) (.int .u64 (chainI tagOt (s k) (d k):Nat))
   have h1':=h1.drew.far (p:=⟨w.heap.size+1+1,k,none⟩) (by show _≠_;simp only [];omega) (.int .u64 (chainI tagOt (s k) (d k):Nat))
   have hb':=hb.drew.setCell (p:=⟨w.heap.size+1+1,k,none⟩) (by show _≤_;simp only [];omega) (.int .u64 (chainI tagOt (s k) (d k):Nat))
   generalize chainI tagOt (s k) (d k)=y at *
   clear hset hsk
   go_wp2_with fail
   refine wp_region_still_tail 9 (by kernel_rfl) (by kernel_rfl) ?_
   simp only [List.take_succ_cons,List.take_zero,List.drop_succ_cons,List.drop_zero]
   change wpStill _ _ wr.drew _ _ _
   repeat (first | still_step | still_call (C1.out) | still_call (C2.out))
   refine wpStill_nil ?_
   change wpList _ _ _ _ _ wr.drew
   go_wp2_with fail
   go_roundw
   case rel=>exact⟨k+1,by omega,by go_num,h0',h1',h2',hb'⟩
   case measure=>simp [intOf];omega
  ·obtain rfl:k=18:=by omega
   rw [yy]at h2
   generalize hcs2:((List.range 18).map fun k=>u64V (chainI tagOt (s k) (d k))).toArray=cs2 at *
   have hone:cs2.all (·.oneCell')=true:=by rw [←hcs2];exact xF (List.range 18) (fun k=>u64V (chainI tagOt (s k) (d k))) (fun _=>rfl)
   have hsz2:cs2.size=18:=by rw [←hcs2];simp
   have HC2:=hQ9 hcs2
   clear hcs2
   have hi2:(Tryz.prog.info? 64).map (·.size)=some cs2.size:=by rw [hsz2];exact hinfo
   have hsz0:((List.replicate 18 (u64V 0)).toArray).size=cs2.size:=by simp;omega
   have h3:=h1.row cs2
   unfold Bk at h1 h2 h3
   go_wp2_with(first
    | (with_reducible refine wpList_load_row rfl 64 _ rfl (w.heap.size+1+1) rfl 64 cs2 (0,0) _ h2 Tryz.underlying64 rfl hi2 ?_)
    | (with_reducible refine wpList_store_row rfl 64 _ _ rfl (w.heap.size+1) cs2 rfl rfl 64 _ h1 hi2 hsz0 hone ?_))
   exact bodyPost_ret (results_cell_row Tryz.results214 _ _ (w.heap.size+1) _ cs2 (0,0) _ rfl h3 Tryz.underlying64 rfl hi2) rfl ⟨by rw [show arrU (advF s d)=cs2 from HC2.out],yf hb (by omega) cs2⟩
theorem zj6 (cs:Array Value) (s d:Nat→Nat) (g:Nat) (w:World) (hcs:cs.size=18) (hs:∀ k,k<18→cs[k]?=some (.int .u64 (s k:Nat))∧s k<18446744073709551616) (hd:∀ k,k<18→d k≤15)
 (hf:∀ k:Nat,k<18→∀ W:World,Grew w W→Calls Tryz.prog 245 #[.int .i64 k,.pointer (some ⟨g,0,none⟩)] W fun e w'=>e=.returned (.int .i64 (d k:Nat))∧W=w') :
 Calls Tryz.prog 275 #[.agg cs,.func (.func 245) #[] #[.pointer (some ⟨g,0,none⟩)]] w fun e w'=>e=.returned (.agg (arrU (advF s d)))∧Grew w w':=by
 have hinfo26:(Tryz.prog.info? 65).map (·.size)=some 18:=by kernel_rfl
 have hinfo:(Tryz.prog.info? 64).map (·.size)=some 18:=by kernel_rfl
 have HF:=hQ9 hf
 have HS:=hQ9 hs
 have HD:=hQ9 hd
 have HCS:=hQ9 hcs
 clear hf hs hd hcs
 go_enter Tryz.func275,Tryz.ntmps275
 go_wp2_with fail
 have hW0:Bk (((w.alloc (.cells cs 65)).alloc (.cells (List.replicate 18 (u64V 0)).toArray 64)).alloc (.cells (rowF 18 (fun k=>u64V (chainI tagOt (s k) (d k))) (u64V 0) 0) 64)) w.heap.size 65 cs:=((Bk.new _ _ _).alloc _).alloc _
 have hW1:Bk (((w.alloc (.cells cs 65)).alloc (.cells (List.replicate 18 (u64V 0)).toArray 64)).alloc (.cells (rowF 18 (fun k=>u64V (chainI tagOt (s k) (d k))) (u64V 0) 0) 64)) (w.heap.size+1) 64 (List.replicate 18 (u64V 0)).toArray:=by
  have:=(Bk.new (w.alloc (.cells cs 65)) 64 (List.replicate 18 (u64V 0)).toArray).alloc (.cells (rowF 18 (fun k=>u64V (chainI tagOt (s k) (d k))) (u64V 0) 0) 64)
  simpa using this
 have hW2:Bk (((w.alloc (.cells cs 65)).alloc (.cells (List.replicate 18 (u64V 0)).toArray 64)).alloc (.cells (rowF 18 (fun k=>u64V (chainI tagOt (s k) (d k))) (u64V 0) 0) 64)) (w.heap.size+1+1) 64 (rowF 18 (fun k=>u64V (chainI tagOt (s k) (d k))) (u64V 0) 0):=by
  have:=Bk.new ((w.alloc (.cells cs 65)).alloc (.cells (List.replicate 18 (u64V 0)).toArray 64)) 64 (rowF 18 (fun k=>u64V (chainI tagOt (s k) (d k))) (u64V 0) 0)
  simpa using this
 have hWb:Grew w (((w.alloc (.cells cs 65)).alloc (.cells (List.replicate 18 (u64V 0)).toArray 64)).alloc (.cells (rowF 18 (fun k=>u64V (chainI tagOt (s k) (d k))) (u64V 0) 0) 64)):=(((Below.refl _ _).alloc (Nat.le_refl _) _).alloc (by simp) _).alloc (by simp;omega) _
 go_loopw [7] (fun i wr=>∃ k:Nat,k≤18∧i=.int .i64 k∧Bk wr w.heap.size 65 cs∧Bk wr (w.heap.size+1) 64 (List.replicate 18 (u64V 0)).toArray∧Bk wr (w.heap.size+1+1) 64 (rowF 18 (fun k=>u64V (chainI tagOt (s k) (d k))) (u64V 0) k)∧Grew w wr) (fun i _=>18-(intOf i).toNat)
 case atStart =>
  rw [yg]at hW0 hW1 hW2 hWb
  exact⟨0,Nat.zero_le _,rfl,hW0,hW1,by rw [yg];exact hW2,hWb⟩
 case round =>
  clear hW0 hW1 hW2 hWb
  obtain⟨k,hk,rfl,h0,h1,h2,hb⟩:=hrel
  by_cases hlt:k<18
  ·have hsk:=HS.out k hlt
   have hcell:wr.cell? ⟨w.heap.size,k,none⟩=some (.int .u64 (s k:Nat)):=by rw [h0.cell];exact hsk.1
   have hcell2:wr.drew.cell? ⟨w.heap.size+1+1,k,none⟩=some (.int .u64 (0:Nat)):=by rw [h2.drew.cell];exact yv _ _ _ _ hlt
   have hfr2:wr.drew.frozen? ⟨w.heap.size+1+1,k,none⟩=false:=h2.drew.frozen k
   have hk0:(0:Int)≤(k:Int):=by omega
   have hk1:(k:Int)<18:=by omega
   have hdk:=HD.out k hlt
   have C1:=hQ9 ((HF.out k hlt wr.drew hb.drew).mono fun _ _ h=>And.intro h.1 h.2.symm)
   have C2:=hQ9 ((kO ⟨#[111,116]⟩ (s k:Nat) (d k:Nat) (by decide) (zE hsk.2) (by omega) (by omega) wr.drew).mono fun _ _ h=>And.intro h.1 h.2.symm)
   rw [show(⟨#[111,116]⟩:ByteArray).data.toList=tagOt from rfl,Int.toNat_natCast]at C2
   have hset:(rowF 18 (fun k=>u64V (chainI tagOt (s k) (d k))) (u64V 0) k).setIfInBounds k (.int .u64 (chainI tagOt (s k) (d k):Nat))=rowF 18 (fun k=>u64V (chainI tagOt (s k) (d k))) (u64V 0) (k+1):=yi _ _ _ _ hlt
   have h2':=h2.drew.set_ k (.int .u64 (chainI tagOt (s k) (d k):Nat))
   rw [hset]at h2'
   have h0':=h0.drew.far (p:=⟨w.heap.size+1+1,k,none⟩) (by show _≠_;simp only [];omega) (.int .u64 (chainI tagOt (s k) (d k):Nat))
   have h1':=h1.drew.far (p:=⟨w.heap.size+1+1,k,none⟩) (by show _≠_;simp only [];omega) (.int .u64 (chainI tagOt (s k) (d k):Nat))
   have hb':=hb.drew.setCell (p:=⟨w.heap.size+1+1,k,none⟩) (by show _≤_;simp only [];omega) (.int .u64 (chainI tagOt (s k) (d k):Nat))
   generalize chainI tagOt (s k) (d k)=y at *
   clear hset hsk
   go_wp2_with fail
   refine wp_region_still_tail 9 (by kernel_rfl) (by kernel_rfl) ?_
   simp only [List.take_succ_cons,List.take_zero,List.drop_succ_cons,List.drop_zero]
   change wpStill _ _ wr.drew _ _ _
   repeat (first | still_step | still_call (C1.out) | still_call (C2.out))
   refine wpStill_nil ?_
   change wpList _ _ _ _ _ wr.drew
   go_wp2_with fail
   go_roundw
   case rel=>exact⟨k+1,by omega,by go_num,h0',h1',h2',hb'⟩
   case measure=>simp [intOf];omega
  ·obtain rfl:k=18:=by omega
   rw [yy]at h2
   generalize hcs2:((List.range 18).map fun k=>u64V (chainI tagOt (s k) (d k))).toArray=cs2 at *
   have hone:cs2.all (·.oneCell')=true:=by rw [←hcs2];exact xF (List.range 18) (fun k=>u64V (chainI tagOt (s k) (d k))) (fun _=>rfl)
   have hsz2:cs2.size=18:=by rw [←hcs2];simp
   have HC2:=hQ9 hcs2
   clear hcs2
   have hi2:(Tryz.prog.info? 64).map (·.size)=some cs2.size:=by rw [hsz2];exact hinfo
   have hsz0:((List.replicate 18 (u64V 0)).toArray).size=cs2.size:=by simp;omega
   have h3:=h1.row cs2
   unfold Bk at h1 h2 h3
   go_wp2_with(first
    | (with_reducible refine wpList_load_row rfl 64 _ rfl (w.heap.size+1+1) rfl 64 cs2 (0,0) _ h2 Tryz.underlying64 rfl hi2 ?_)
    | (with_reducible refine wpList_store_row rfl 64 _ _ rfl (w.heap.size+1) cs2 rfl rfl 64 _ h1 hi2 hsz0 hone ?_))
   exact bodyPost_ret (results_cell_row Tryz.results275 _ _ (w.heap.size+1) _ cs2 (0,0) _ rfl h3 Tryz.underlying64 rfl hi2) rfl ⟨by rw [show arrU (advF s d)=cs2 from HC2.out],yf hb (by omega) cs2⟩
theorem qF:(Tryz.prog.info? 35).map (fun i=>(i.zero,i.size,i.bytes))=some (some (.int .u64 0),1,8):=by kernel_rfl
def tagPk:List UInt8:=[112,107]
noncomputable def foldN (f:Nat→Nat):Nat→Nat
 | 0=>0
 | k+1=>twoN tagPk (foldN f k) (f k)
theorem yY (f:Nat→Nat) (k:Nat):foldN f (k+1)=twoN tagPk (foldN f k) (f k):=rfl
theorem xb (f:Nat→Nat) (k:Nat):foldN f k<18446744073709551616:=by
 cases k with
 | zero=>simp [foldN]
 | succ k=>exact xe _ _ _
theorem zcx (f g:Nat→Nat) (n:Nat) (h:∀ k,k<n→f k=g k):foldN f n=foldN g n:=by
 induction n with
 | zero=>rfl
 | succ n ih=>rw [yY,yY,ih (fun k hk=>h k (by omega)),h n (by omega)]
noncomputable def pubN (s:Nat→Nat):Nat:=foldN (advF s fun _=>15) 18
noncomputable def signF (s:Nat→Nat) (d:Nat):Nat→Nat:=advF s (digK d)
noncomputable def recN (s:Nat→Nat) (d:Nat):Nat:=foldN (advF s fun k=>15-digK d k) 18
theorem zhw (s d:Nat→Nat) (w:World) (hs:∀ k,k<18→s k<18446744073709551616) (hd:∀ k,k<18→d k≤15)
 (hf:∀ k:Nat,k<18→∀ W:World,Grew w W→Calls Tryz.prog 208 #[.int .i64 k] W fun e w'=>e=.returned (.int .i64 (d k:Nat))∧W=w') :
 Calls Tryz.prog 207 #[.agg (arrU s),.func (.func 208) #[] #[]] w fun e w'=>e=.returned (.int .u64 (foldN (advF s d) 18:Nat))∧Grew w w':=by
 have hsz:=zY s
 obtain⟨i0,hi0,hz0,hz1,hz2⟩:=info_parts qF
 have C1:=hQ9 (fun(W:World) (h:Grew w W)=>zj5 (arrU s) s d  W hsz (fun k hk=>⟨yC s k hk,hs k hk⟩) hd (fun k hk W' hW'=>hf k hk W' (ze h hW')))
 have hy:∀ k,k<18→advF s d k<18446744073709551616:=fun k hk=>xT _ _ _ (hs k hk)
 have HY:=hQ9 hy
 clear hf hs hd hy
 have hg:Bk (w.alloc (.cells (arrU s) 259)) w.heap.size 259 (arrU s):=Bk.new _ _ _
 have hb0:Grew w (w.alloc (.cells (arrU s) 259)):=(Below.refl _ _).alloc (Nat.le_refl _) _
 have hi:(Tryz.prog.info? 259).map (·.size)=some (arrU s).size:=by rw [hsz];kernel_rfl
 unfold Bk at hg
 generalize arrU s=cs at *
 go_enter Tryz.func207,Tryz.ntmps207
 go_wp2_with(first
  | (with_reducible refine wpList_load_row rfl 259 _ rfl w.heap.size rfl 259 cs (0,0) _ hg Tryz.underlying259 rfl hi ?_))
 refine(C1.out _ hb0).mono ?_
 rintro e w1 ⟨rfl,hb1⟩
 generalize hyy:advF s d=y at *
 have HYY:=hQ9 hyy
 clear hyy
 have hget:=yC y
 have hysz:=zY y
 have HG:=hQ9 hget
 clear hget
 generalize arrU y=ys at *
 go_wp2_with fail
 go_loop [5,11] (fun p i=>∃ k:Nat,k≤18∧i=.int .i64 k∧p=.int .u64 (foldN y k:Nat)) (fun _ i=>18-(intOf i).toNat)
 case atStart=>exact⟨0,Nat.zero_le _,rfl,rfl⟩
 case round =>
  obtain⟨k,hk,rfl,rfl⟩:=hrel
  have hfl:=xb y k
  by_cases hlt:k<18
  ·have hcell:=HG.out k hlt
   have hyk:=HY.out k hlt
   have HN:=hQ9 (yY y k)
   have hix:=kF (P:=Tryz.prog) 64 35 18 i0 ys k _ Tryz.underlying64 hlt (fun w=>by kernel_rfl) hi0 hz1 hcell
   go_wp2_with(go_at_call 209;refine(jg ⟨#[112,107]⟩ _ _ (by decide) (zE hfl) (zE hyk) _).mono ?_;rintro e w' ⟨rfl,rfl⟩)
   go_round
   case rel=>exact⟨k+1,by omega,by go_num,by rw [HN.out];rfl⟩
   case measure=>simp [intOf];omega
  ·have HK:=hQ9 (show k=18 by omega)
   go_wp2
   go_ret
   exact⟨ye (by rw [HK.out,HYY.out]),ze hb0 hb1⟩
theorem zhx (s d:Nat→Nat) (g:Nat) (w:World) (hs:∀ k,k<18→s k<18446744073709551616) (hd:∀ k,k<18→d k≤15)
 (hf:∀ k:Nat,k<18→∀ W:World,Grew w W→Calls Tryz.prog 245 #[.int .i64 k,.pointer (some ⟨g,0,none⟩)] W fun e w'=>e=.returned (.int .i64 (d k:Nat))∧W=w') :
 Calls Tryz.prog 244 #[.agg (arrU s),.func (.func 245) #[] #[.pointer (some ⟨g,0,none⟩)]] w fun e w'=>e=.returned (.int .u64 (foldN (advF s d) 18:Nat))∧Grew w w':=by
 have hsz:=zY s
 obtain⟨i0,hi0,hz0,hz1,hz2⟩:=info_parts qF
 have C1:=hQ9 (fun(W:World) (h:Grew w W)=>zj6 (arrU s) s d g W hsz (fun k hk=>⟨yC s k hk,hs k hk⟩) hd (fun k hk W' hW'=>hf k hk W' (ze h hW')))
 have hy:∀ k,k<18→advF s d k<18446744073709551616:=fun k hk=>xT _ _ _ (hs k hk)
 have HY:=hQ9 hy
 clear hf hs hd hy
 have hg:Bk (w.alloc (.cells (arrU s) 65)) w.heap.size 65 (arrU s):=Bk.new _ _ _
 have hb0:Grew w (w.alloc (.cells (arrU s) 65)):=(Below.refl _ _).alloc (Nat.le_refl _) _
 have hi:(Tryz.prog.info? 65).map (·.size)=some (arrU s).size:=by rw [hsz];kernel_rfl
 unfold Bk at hg
 generalize arrU s=cs at *
 go_enter Tryz.func244,Tryz.ntmps244
 go_wp2_with(first
  | (with_reducible refine wpList_load_row rfl 65 _ rfl w.heap.size rfl 65 cs (0,0) _ hg Tryz.underlying65 rfl hi ?_))
 refine(C1.out _ hb0).mono ?_
 rintro e w1 ⟨rfl,hb1⟩
 generalize hyy:advF s d=y at *
 have HYY:=hQ9 hyy
 clear hyy
 have hget:=yC y
 have hysz:=zY y
 have HG:=hQ9 hget
 clear hget
 generalize arrU y=ys at *
 go_wp2_with fail
 go_loop [5,11] (fun p i=>∃ k:Nat,k≤18∧i=.int .i64 k∧p=.int .u64 (foldN y k:Nat)) (fun _ i=>18-(intOf i).toNat)
 case atStart=>exact⟨0,Nat.zero_le _,rfl,rfl⟩
 case round =>
  obtain⟨k,hk,rfl,rfl⟩:=hrel
  have hfl:=xb y k
  by_cases hlt:k<18
  ·have hcell:=HG.out k hlt
   have hyk:=HY.out k hlt
   have HN:=hQ9 (yY y k)
   have hix:=kF (P:=Tryz.prog) 64 35 18 i0 ys k _ Tryz.underlying64 hlt (fun w=>by kernel_rfl) hi0 hz1 hcell
   go_wp2_with(go_at_call 209;refine(jg ⟨#[112,107]⟩ _ _ (by decide) (zE hfl) (zE hyk) _).mono ?_;rintro e w' ⟨rfl,rfl⟩)
   go_round
   case rel=>exact⟨k+1,by omega,by go_num,by rw [HN.out];rfl⟩
   case measure=>simp [intOf];omega
  ·have HK:=hQ9 (show k=18 by omega)
   go_wp2
   go_ret
   exact⟨ye (by rw [HK.out,HYY.out]),ze hb0 hb1⟩
theorem cloPub (k:Nat) (W:World):Calls Tryz.prog 208 #[.int .i64 k] W fun e w'=>e=.returned (.int .i64 (15:Nat))∧W=w':=by
 go_enter Tryz.func208,Tryz.ntmps208
 go_wp2
 go_ret
 exact⟨rfl,rfl⟩
theorem zj7 (s:Nat→Nat) (w:World) (hs:∀ k,k<18→s k<18446744073709551616) :
 Calls Tryz.prog 158 #[.agg (arrU s)] w fun e w'=>e=.returned (.int .u64 (pubN s:Nat))∧Grew w w':=by
 have hsz:=zY s
 have C1:=hQ9 (fun W=>zhw s (fun _=>15) W hs (fun _ _=>Nat.le_refl _) (fun k _ W _=>cloPub k W))
 have hg:Bk (w.alloc (.cells (arrU s) 259)) w.heap.size 259 (arrU s):=Bk.new _ _ _
 have hb0:Grew w (w.alloc (.cells (arrU s) 259)):=(Below.refl _ _).alloc (Nat.le_refl _) _
 have hi:(Tryz.prog.info? 259).map (·.size)=some (arrU s).size:=by rw [hsz];kernel_rfl
 unfold Bk at hg
 generalize arrU s=cs at *
 go_enter Tryz.func158,Tryz.ntmps158
 go_wp2_with(first
  | (with_reducible refine wpList_load_row rfl 259 _ rfl w.heap.size rfl 259 cs (0,0) _ hg Tryz.underlying259 rfl hi ?_))
 refine(C1.out _).mono ?_
 rintro e w1 ⟨rfl,hb1⟩
 go_wp2_with fail
 go_ret
 exact⟨rfl,ze hb0 hb1⟩
theorem zj8 (g:Nat) (d:Nat) (k:Nat) (hk:k<18) (W:World) (h:Bk W g 324 ((List.range 18).map (digF d)).toArray) :
 Calls Tryz.prog 215 #[.int .i64 k,.pointer (some ⟨g,0,none⟩)] W fun e w'=>e=.returned (.int .i64 (digK d k:Nat))∧W=w':=by
 have hcell:W.cell? ⟨g,k,none⟩=some (.int .i64 (digK d k:Nat)):=by
  rw [h.cell,Array.getElem?_eq_getElem (by simpa using hk)]
  simp [digF]
 have hk0:(0:Int)≤(k:Int):=by omega
 have hk1:(k:Int)<18:=by omega
 go_enter Tryz.func215,Tryz.ntmps215
 go_wp2
 go_ret
 exact⟨rfl,rfl⟩
theorem cloRec (g:Nat) (d:Nat) (k:Nat) (hk:k<18) (W:World) (h:Bk W g 324 ((List.range 18).map (digF d)).toArray) :
 Calls Tryz.prog 245 #[.int .i64 k,.pointer (some ⟨g,0,none⟩)] W fun e w'=>e=.returned (.int .i64 (15-digK d k:Nat))∧W=w':=by
 have hcell:W.cell? ⟨g,k,none⟩=some (.int .i64 (digK d k:Nat)):=by
  rw [h.cell,Array.getElem?_eq_getElem (by simpa using hk)]
  simp [digF]
 have hk0:(0:Int)≤(k:Int):=by omega
 have hk1:(k:Int)<18:=by omega
 have hd:=kb d k
 go_enter Tryz.func245,Tryz.ntmps245
 go_wp2
 go_ret
 exact⟨ye (by omega),rfl⟩
theorem xY (d:Nat):(((List.range 18).map (digF d)).toArray).size=18:=by simp
theorem zhy (s:Nat→Nat) (d:Int) (w:World) (hs:∀ k,k<18→s k<18446744073709551616) (hd:U64 d) :
 Calls Tryz.prog 163 #[.agg (arrU s),.int .u64 d] w fun e w'=>e=.returned (.agg (arrU (signF s d.toNat)))∧Grew w w':=by
 have hsz:=zY s
 have hi:(Tryz.prog.info? 259).map (·.size)=some (arrU s).size:=by rw [hsz];kernel_rfl
 have C1:=hQ9 (fun(g:Nat) W (h:Bk W g 324 ((List.range 18).map (digF d.toNat)).toArray) =>
  zhv (arrU s) s (digK d.toNat) g W hsz (fun k hk=>⟨yC s k hk,hs k hk⟩) (fun k _=>kb _ _) (fun k hk W' hW'=>zj8 g d.toNat k hk W' (h.grew hW')))
 have C0:=hQ9 (fun W=>qB d hd W)
 have hsz2:=zY (advF s (digK d.toNat))
 have hone2:=jP (advF s (digK d.toNat))
 have hds:=xY d.toNat
 have hdo:=yO d.toNat
 have hb0:Grew w ((w.alloc (.cells (arrU s) 259)).alloc (.cells (List.replicate 18 (u64V 0)).toArray 65)):=((Below.refl _ _).alloc (Nat.le_refl _) _).alloc (by simp) _
 have hg0:Bk ((w.alloc (.cells (arrU s) 259)).alloc (.cells (List.replicate 18 (u64V 0)).toArray 65)) w.heap.size 259 (arrU s):=(Bk.new _ _ _).alloc _
 have hg1:Bk ((w.alloc (.cells (arrU s) 259)).alloc (.cells (List.replicate 18 (u64V 0)).toArray 65)) (w.heap.size+1) 65 (List.replicate 18 (u64V 0)).toArray:=by
  have:=Bk.new (w.alloc (.cells (arrU s) 259)) 65 (List.replicate 18 (u64V 0)).toArray
  simpa using this
 rw [show signF s d.toNat=advF s (digK d.toNat) from rfl]
 generalize arrU s=cs at *
 generalize hys:arrU (advF s (digK d.toNat))=ys at *
 generalize ((List.range 18).map (digF d.toNat)).toArray=ds at *
 clear hys
 go_enter Tryz.func163,Tryz.ntmps163
 go_wp2_with fail
 refine(C0.out _).mono ?_
 rintro e w1 ⟨rfl,hb1⟩
 have k0:Bk w1 w.heap.size 259 cs:=hg0.grew hb1
 have k1:Bk w1 (w.heap.size+1) 65 (List.replicate 18 (u64V 0)).toArray:=hg1.grew hb1
 have hb2:Grew w w1:=ze hb0 hb1
 clear hg0 hg1 hb0 hb1
 have j0:=k0.alloc (.cells ds 324)
 have j1:=k1.alloc (.cells ds 324)
 have j2:=Bk.new w1 324 ds
 have hb3:Grew w (w1.alloc (.cells ds 324)):=zg hb2 _
 have hid:(Tryz.prog.info? 324).map (·.size)=some ds.size:=by rw [hds];kernel_rfl
 have hzd:((List.replicate 18 (Value.int .i64 0)).toArray).size=ds.size:=by rw [hds];rfl
 have hiy:(Tryz.prog.info? 65).map (·.size)=some ys.size:=by rw [hsz2];kernel_rfl
 have hzy:((List.replicate 18 (u64V 0)).toArray).size=ys.size:=by rw [hsz2];rfl
 have hst:=run_storeCells_new (P:=Tryz.prog) w1 324 (List.replicate 18 (Value.int .i64 0)).toArray ds hid hzd hdo
 simp only [List.replicate_succ,List.replicate_zero]at hst
 unfold Bk at j0
 go_wp2_with(first
  | (with_reducible refine wpList_load_row rfl 259 _ rfl w.heap.size rfl 259 cs (0,0) _ j0 Tryz.underlying259 rfl hi ?_))
 refine(C1.out _ _ j2).mono ?_
 rintro e w2 ⟨rfl,hb4⟩
 have m1:=j1.grew hb4
 have hb5:=ze hb3 hb4
 have m2:=m1.row ys
 unfold Bk at m1 m2
 go_wp2_with(first
  | (with_reducible refine wpList_store_row rfl 65 _ _ rfl (w.heap.size+1) ys rfl rfl 65 _ m1 hiy hzy hone2 ?_))
 exact bodyPost_ret (results_cell_row Tryz.results163 _ _ (w.heap.size+1) _ ys (0,0) _ rfl m2 Tryz.underlying65 rfl hiy) rfl ⟨rfl,yf hb5 (by omega) ys⟩
theorem zcy (s:Nat→Nat) (d:Int) (w:World) (hs:∀ k,k<18→s k<18446744073709551616) (hd:U64 d) :
 Calls Tryz.prog 199 #[.agg (arrU s),.int .u64 d] w fun e w'=>e=.returned (.int .u64 (recN s d.toNat:Nat))∧Grew w w':=by
 have hsz:=zY s
 have hi:(Tryz.prog.info? 65).map (·.size)=some (arrU s).size:=by rw [hsz];kernel_rfl
 have C1:=hQ9 (fun(g:Nat) W (h:Bk W g 324 ((List.range 18).map (digF d.toNat)).toArray) =>
  zhx s (fun k=>15-digK d.toNat k) g W hs (fun k _=>Nat.sub_le _ _) (fun k hk W' hW'=>cloRec g d.toNat k hk W' (h.grew hW')))
 have C0:=hQ9 (fun W=>qB d hd W)
 have hds:=xY d.toNat
 have hdo:=yO d.toNat
 have hb0:Grew w (w.alloc (.cells (arrU s) 65)):=(Below.refl _ _).alloc (Nat.le_refl _) _
 have hg0:Bk (w.alloc (.cells (arrU s) 65)) w.heap.size 65 (arrU s):=Bk.new _ _ _
 rw [show recN s d.toNat=foldN (advF s fun k=>15-digK d.toNat k) 18 from rfl]
 generalize arrU s=cs at *
 generalize foldN (advF s fun k=>15-digK d.toNat k) 18=y at *
 generalize ((List.range 18).map (digF d.toNat)).toArray=ds at *
 go_enter Tryz.func199,Tryz.ntmps199
 go_wp2_with fail
 refine(C0.out _).mono ?_
 rintro e w1 ⟨rfl,hb1⟩
 have k0:Bk w1 w.heap.size 65 cs:=hg0.grew hb1
 have hb2:Grew w w1:=ze hb0 hb1
 clear hg0 hb0 hb1
 have j0:=k0.alloc (.cells ds 324)
 have j2:=Bk.new w1 324 ds
 have hb3:Grew w (w1.alloc (.cells ds 324)):=zg hb2 _
 have hid:(Tryz.prog.info? 324).map (·.size)=some ds.size:=by rw [hds];kernel_rfl
 have hzd:((List.replicate 18 (Value.int .i64 0)).toArray).size=ds.size:=by rw [hds];rfl
 have hst:=run_storeCells_new (P:=Tryz.prog) w1 324 (List.replicate 18 (Value.int .i64 0)).toArray ds hid hzd hdo
 simp only [List.replicate_succ,List.replicate_zero]at hst
 unfold Bk at j0
 go_wp2_with(first
  | (with_reducible refine wpList_load_row rfl 65 _ rfl w.heap.size rfl 65 cs (0,0) _ j0 Tryz.underlying65 rfl hi ?_))
 refine(C1.out _ _ j2).mono ?_
 rintro e w2 ⟨rfl,hb4⟩
 go_wp2_with fail
 go_ret
 exact⟨rfl,ze hb3 hb4⟩
theorem zdm (s:Nat→Nat) (d:Nat):recN s d<18446744073709551616:=xb _ _
theorem zj9 (s:Nat→Nat):pubN s<18446744073709551616:=xb _ _
theorem zf1 (s:Nat→Nat) (w:World) (hs:∀ k,k<18→s k<18446744073709551616) :
 Calls Tryz.prog 249 #[.agg (arrU s)] w fun e w'=>e=.returned (.int .u64 (foldN s 18:Nat))∧Grew w w':=by
 have hsz:=zY s
 have hget:=yC s
 have HG:=hQ9 hget
 have HS:=hQ9 hs
 clear hget hs
 have hg:Bk (w.alloc (.cells (arrU s) 71)) w.heap.size 71 (arrU s):=Bk.new _ _ _
 have hb0:Grew w (w.alloc (.cells (arrU s) 71)):=(Below.refl _ _).alloc (Nat.le_refl _) _
 generalize arrU s=cs at *
 go_enter Tryz.func249,Tryz.ntmps249
 go_wp2_with fail
 go_loop [3,4] (fun p i=>∃ k:Nat,k≤18∧i=.int .i64 k∧p=.int .u64 (foldN s k:Nat)) (fun _ i=>18-(intOf i).toNat)
 case atStart=>exact⟨0,Nat.zero_le _,rfl,rfl⟩
 case round =>
  obtain⟨k,hk,rfl,rfl⟩:=hrel
  have hfl:=xb s k
  by_cases hlt:k<18
  ·have hcell:=(hg.cell k).trans (HG.out k hlt)
   have hsk:=HS.out k hlt
   have HN:=hQ9 (yY s k)
   go_wp2_with(go_at_call 276;refine(kx ⟨#[112,107]⟩ _ _ (by decide) (zE hfl) (zE hsk) _).mono ?_;rintro e w' ⟨rfl,rfl⟩)
   go_round
   case rel=>exact⟨k+1,by omega,by go_num,by rw [HN.out];rfl⟩
   case measure=>simp [intOf];omega
  ·have HK:=hQ9 (show k=18 by omega)
   go_wp2
   go_ret
   exact⟨ye (by rw [HK.out]),hb0⟩
theorem zbx (s:Nat→Nat) (d:Int) (w:World) (hs:∀ k,k<18→s k<18446744073709551616) (hd:U64 d) :
 Calls Tryz.prog 201 #[.agg (arrU s),.int .u64 d] w fun e w'=>e=.returned (.int .u64 (recN s d.toNat:Nat))∧Grew w w':=by
 have hds:=xY d.toNat
 have hdo:=yO d.toNat
 have hsz:=zY s
 have C0:=hQ9 (fun W=>zcu d hd W)
 have hb0:Grew w (w.alloc (.cells (arrU s) 71)):=(Below.refl _ _).alloc (Nat.le_refl _) _
 have hg0:Bk (w.alloc (.cells (arrU s) 71)) w.heap.size 71 (arrU s):=Bk.new _ _ _
 have HS:=hQ9 hs
 have HD:∀ k:Nat,k<18→(((List.range 18).map (digF d.toNat)).toArray)[k]?=some (.int .i64 (digK d.toNat k:Nat)):=fun k hk=>by
  rw [Array.getElem?_eq_getElem (by simpa using hk)];simp [digF]
 have HD:=hQ9 HD
 clear hs
 have C1:=hQ9 (fun W=>zf1 (advF s fun k=>15-digK d.toNat k) W (fun k hk=>xT _ _ _ (HS.out k hk)))
 rw [show foldN (advF s fun k=>15-digK d.toNat k) 18=recN s d.toNat from rfl]at C1
 have HF:=hQ9 (fun k=>show(advF s fun k=>15-digK d.toNat k) k=chainI tagOt (s k) ((15-digK d.toNat k:Nat):Int) from rfl)
 generalize (advF s fun k=>15-digK d.toNat k)=F at *
 generalize recN s d.toNat=pp at *
 generalize hcs:arrU s=cs at *
 have HC:=hQ9 hcs
 clear hcs
 generalize ((List.range 18).map (digF d.toNat)).toArray=ds at *
 go_enter Tryz.func201,Tryz.ntmps201
 go_wp2_with fail
 refine(C0.out _).mono ?_
 rintro e w1 ⟨rfl,hb1⟩
 have k0:Bk w1 w.heap.size 71 cs:=hg0.grew hb1
 have hb2:Grew w w1:=ze hb0 hb1
 clear hg0 hb0 hb1
 have j0:=k0.alloc (.cells ds 324)
 have j2:=Bk.new w1 324 ds
 have hb3:Grew w (w1.alloc (.cells ds 324)):=zg hb2 _
 have hid:(Tryz.prog.info? 324).map (·.size)=some ds.size:=by rw [hds];kernel_rfl
 have hzd:((List.replicate 18 (Value.int .i64 0)).toArray).size=ds.size:=by rw [hds];rfl
 have hst:=run_storeCells_new (P:=Tryz.prog) w1 324 (List.replicate 18 (Value.int .i64 0)).toArray ds hid hzd hdo
 simp only [List.replicate_succ,List.replicate_zero]at hst
 have hle:w.heap.size<w1.heap.size:=k0.lt
 go_wp2_with fail
 go_loopw [6] (fun i wr=>∃ k:Nat,k≤18∧i=.int .i64 k∧Bk wr w.heap.size 71 (mixRow s F k)∧Bk wr w1.heap.size 324 ds∧Grew w wr) (fun i _=>18-(intOf i).toNat)
 case atStart=>exact⟨0,Nat.zero_le _,rfl,by rw [zcs,HC.out];exact j0,j2,hb3⟩
 case round =>
  clear j0 j2 hb3 hst hid hzd hb2 k0
  obtain⟨k,hk,rfl,h0,h2,hb⟩:=hrel
  by_cases hlt:k<18
  ·have hsk:=HS.out k hlt
   have hdk:=kb d.toNat k
   have hcell:wr.cell? ⟨w.heap.size,k,none⟩=some (.int .u64 (s k:Nat)):=by rw [h0.cell];exact zfy _ _ _ hlt
   have hcelld:wr.drew.cell? ⟨w.heap.size,k,none⟩=some (.int .u64 (s k:Nat)):=hcell
   have hcell3:wr.cell? ⟨w1.heap.size,k,none⟩=some (.int .i64 (digK d.toNat k:Nat)):=by rw [h2.cell];exact HD.out k hlt
   have hfr:wr.drew.frozen? ⟨w.heap.size,k,none⟩=false:=h0.drew.frozen k
   have hk0:(0:Int)≤(k:Int):=by omega
   have hk1:(k:Int)<18:=by omega
   have hwr:IntKind.i64.wrap (15-(digK d.toNat k:Int))=((15-digK d.toNat k:Nat):Int):=by
    rw [IntKind.wrap_i64];omega
   have C2:=hQ9 ((zbo ⟨#[111,116]⟩ (s k:Nat) (IntKind.i64.wrap (15-(digK d.toNat k:Int))) (by decide) (zE hsk) (by rw [hwr];omega) (by rw [hwr];omega) wr.drew).mono fun _ _ h=>And.intro h.1 h.2.symm)
   rw [show(⟨#[111,116]⟩:ByteArray).data.toList=tagOt from rfl,Int.toNat_natCast,show chainI tagOt (s k) (IntKind.i64.wrap (15-(digK d.toNat k:Int)))=chainI tagOt (s k) ((15-digK d.toNat k:Nat):Int) by rw [hwr]]at C2
   have hset:=zeh s F k hlt
   rw [HF.out]at hset
   have h0':=h0.drew.set_ k (.int .u64 (chainI tagOt (s k) ((15-digK d.toNat k:Nat):Int):Nat))
   rw [hset]at h0'
   have hne:w1.heap.size≠w.heap.size:=by omega
   have h2':=h2.drew.far (p:=⟨w.heap.size,k,none⟩) hne (.int .u64 (chainI tagOt (s k) ((15-digK d.toNat k:Nat):Int):Nat))
   have hb':=hb.drew.setCell (p:=⟨w.heap.size,k,none⟩) (Nat.le_refl _) (.int .u64 (chainI tagOt (s k) ((15-digK d.toNat k:Nat):Int):Nat))
   generalize chainI tagOt (s k) _=y at *
   clear hset hwr
   go_wp2_with fail
   refine wp_region_still_tail 9 (by kernel_rfl) (by kernel_rfl) ?_
   simp only [List.take_succ_cons,List.take_zero,List.drop_succ_cons,List.drop_zero]
   change wpStill _ _ wr.drew _ _ _
   repeat (first | still_step | still_call (C2.out))
   refine wpStill_nil ?_
   change wpList _ _ _ _ _ wr.drew
   go_wp2_with fail
   go_roundw
   case rel=>exact⟨k+1,by omega,by go_num,h0',h2',hb'⟩
   case measure=>simp [intOf];omega
  ·obtain rfl:k=18:=by omega
   rw [zct]at h0
   have hszf:=zY F
   generalize arrU F=ys at *
   have hiy:(Tryz.prog.info? 71).map (·.size)=some ys.size:=by rw [hszf];kernel_rfl
   unfold Bk at h0
   go_wp2_with(first
    | (with_reducible refine wpList_load_row rfl 71 _ rfl w.heap.size rfl 71 ys (0,0) _ h0 Tryz.underlying71 rfl hiy ?_))
   refine(C1.out _).mono ?_
   rintro e w2 ⟨rfl,hb4⟩
   go_wp2_with fail
   go_ret
   exact⟨rfl,ze hb hb4⟩
theorem zhz (s:Nat→Nat) (d:Nat):recN (signF s d) d=pubN s:=by
 refine zcx _ _ _ fun k _=>?_
 show chainI tagOt (chainI tagOt (s k) (digK d k:Nat)) ((15-digK d k:Nat):Int)=chainI tagOt (s k) ((15:Nat):Int)
 have h:=kb d k
 rw [zee _ _ _ _ (by omega) (by omega) (by omega) (by omega)]
 congr 1
 omega
def twoC (t:List UInt8) (a b:Nat):Nat:=mixC (mixC (sumC t []) a) b
def chainC (s x:Nat):Nat→Nat
 | 0=>x
 | n+1=>mixC s (chainC s x n)
def foldC (f:Nat→Nat):Nat→Nat
 | 0=>0
 | k+1=>twoC tagPk (foldC f k) (f k)
theorem zf2 (t:List UInt8) (a b:Nat):twoN t a b=twoC t a b:=by unfold twoN twoC;rw [xd,qx]
theorem zh0 (s x n:Nat):chainN s x n=chainC s x n:=by
 induction n with
 | zero=>rfl
 | succ n ih=>rw [yB,ih,xd];rfl
theorem jT (t:List UInt8) (x n:Nat) (h:n≤255):chainI t x n=chainC (sumC t []) x n:=by rw [yW t x n h,zh0,qx]
theorem zdn (f:Nat→Nat) (n:Nat):foldN f n=foldC f n:=by
 induction n with
 | zero=>rfl
 | succ n ih=>rw [yY,ih,zf2];rfl
theorem jB (f g:Nat→Nat) (n:Nat) (h:∀ k,k<n→f k=g k):foldC f n=foldC g n:=by
 induction n with
 | zero=>rfl
 | succ n ih=>simp only [foldC];rw [ih fun k hk=>h k (by omega),h n (by omega)]
theorem kd (a b:Int) (k:Nat):secN a b k<18446744073709551616:=xe _ _ _
theorem jU (s:Nat→Nat) (d k:Nat) (h:s k<18446744073709551616):signF s d k<18446744073709551616:=xT _ _ _ h
end Go.Proofs.YtidjnnnigcmdpaaGreatDoor
