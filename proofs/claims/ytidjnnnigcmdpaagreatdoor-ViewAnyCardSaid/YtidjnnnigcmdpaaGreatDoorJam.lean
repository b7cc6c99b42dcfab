/- What is known of the one-time signatures: the walk. -/
import Derived.Test.YtidjnnnigcmdpaaGreatDoorJzz
import Derived.Deep.RegionWith
import Derived.Test.YtidjnnnigcmdpaaGreatDoorJal
import Derived.Deep.QuietTactic
import Derived.BigQuiet
set_option maxRecDepth 100000
set_option linter.unusedSimpArgs false
set_option linter.unusedVariables false
set_option linter.unnecessarySimpa false
namespace Go.Proofs.YtidjnnnigcmdpaaGreatDoor
open Go.RowKit
theorem qG {P:Program} (w:World) (d:Nat) (t e:TypeId) (i:TypeInfo) (cs:Array Value) (s:Nat→Nat) (ht:P.underlying t=some (.array 18 e)) (he:P.underlying e=some (.int .u64)) (hi:P.info? e=some i) (h1:i.size=1)
 (hag:∀ w,(isAgg e).run P w=.ok false w) (hc:∀ k:Nat,k<18→cs[k]?=some (.int .u64 (s k:Nat))):(Op.equalIn (d+2) t (.agg cs) (.agg cs)).run P w=.ok true w:=by
 have hs:(sizeOf e).run P w=.ok 1 w:=by simp [sizeOf,typeInfo,hi,h1,go_sem]
 have key:∀ k:Nat,k<18→(part e cs k).run P w=.ok (.int .u64 (s k:Nat)) w:=by
  intro k hk
  have hck:=hc k hk
  simp [part,hag,sizeOf,typeInfo,hi,h1,hck,go_sem]
 have keq:∀ a b:Int,(Op.equalIn (d+1) e (.int .u64 a) (.int .u64 b)).run P w=.ok (a==b) w:=fun a b=>run_equalIn_int (w:=w) d e .u64 .u64 a b he
 unfold Op.equalIn
 simp only [Sem.run_bind,run_underlying ht,Result.andThen_ok,hs]
 have loop:∀(l:List Nat),(∀ k∈l,k<18)→(forIn l ((none,()):Option Bool × Unit) fun i __s=>do
          let __do_lift ←part e cs (i*1)
          let __do_lift_1 ←part e cs (i*1)
          let __do_lift ←Op.equalIn (d+1) e __do_lift __do_lift_1
          if (!__do_lift)=true then pure (ForInStep.done (some false,())) else pure (ForInStep.yield (none,())):Sem (Option Bool × Unit)).run P w=.ok (none,()) w:=by
  intro l
  induction l with
  | nil=>intro _;simp
  | cons k l ih =>
   intro hk
   have h1:=key k (hk k List.mem_cons_self)
   have h2:=ih fun j hj=>hk j (List.mem_cons_of_mem _ hj)
   rw [List.forIn_cons]
   simp only [Nat.mul_one]at h2 ⊢
   simp only [Sem.run_bind,h1,Result.andThen_ok,keq,beq_self_eq_true,Bool.not_true,Bool.false_eq_true,if_false,Sem.run_pure]
   exact h2
 simp only [Std.Legacy.Range.forIn_eq_forIn_range',Std.Legacy.Range.size]
 rw [loop _ (by intro k hk;simp [List.mem_range']at hk;omega)]
 simp
theorem of_row (s:Nat→Nat) (w:World) :
 Calls Tryz.prog 205 #[.agg (arrU s)] w fun e w'=>e=.returned (.agg (arrU s))∧Grew w w':=by
 have hsz:=zY s
 have hon:=jP s
 have HG:=hQ9 (fun k hk=>yC s k hk)
 have HF:=hQ9 (show rowF 18 (fun k=>u64V (s k)) (.int .u64 0) 18=arrU s from yy _ _ _)
 generalize arrU s=cs at *
 have i0:(Tryz.prog.info? 71).map (·.size)=some cs.size:=by rw [hsz];kernel_rfl
 have z0:((List.replicate 18 (Value.int .u64 0)).toArray).size=cs.size:=by rw [hsz];rfl
 go_enter Tryz.func205,Tryz.ntmps205
 go_wp2_with fail
 have q0:Bk (((w.alloc (.cells cs 64)).alloc (.cells (List.replicate 18 (Value.int .u64 0)).toArray 71)).alloc (.cells (List.replicate 18 (Value.int .u64 0)).toArray 71)) w.heap.size 64 cs:=((Bk.new _ _ _).alloc _).alloc _
 have q1:Bk (((w.alloc (.cells cs 64)).alloc (.cells (List.replicate 18 (Value.int .u64 0)).toArray 71)).alloc (.cells (List.replicate 18 (Value.int .u64 0)).toArray 71)) (w.heap.size+1) 71 (List.replicate 18 (Value.int .u64 0)).toArray:=by
  have:=(Bk.new (w.alloc (.cells cs 64)) 71 (List.replicate 18 (Value.int .u64 0)).toArray).alloc (.cells (List.replicate 18 (Value.int .u64 0)).toArray 71)
  simpa using this
 have q2:Bk (((w.alloc (.cells cs 64)).alloc (.cells (List.replicate 18 (Value.int .u64 0)).toArray 71)).alloc (.cells (List.replicate 18 (Value.int .u64 0)).toArray 71)) (w.heap.size+1+1) 71 (List.replicate 18 (Value.int .u64 0)).toArray:=by
  have:=Bk.new ((w.alloc (.cells cs 64)).alloc (.cells (List.replicate 18 (Value.int .u64 0)).toArray 71)) 71 (List.replicate 18 (Value.int .u64 0)).toArray
  simpa using this
 have qb:Grew w (((w.alloc (.cells cs 64)).alloc (.cells (List.replicate 18 (Value.int .u64 0)).toArray 71)).alloc (.cells (List.replicate 18 (Value.int .u64 0)).toArray 71)):=zg (zg (zg (zc w) _) _) _
 go_loopw [4] (fun i wr=>∃ k:Nat,k≤18∧i=.int .i64 k∧Bk wr w.heap.size 64 cs∧Bk wr (w.heap.size+1) 71 (List.replicate 18 (Value.int .u64 0)).toArray∧Bk wr (w.heap.size+1+1) 71 (rowF 18 (fun k=>u64V (s k)) (.int .u64 0) k)∧Grew w wr) (fun i _=>18-(intOf i).toNat)
 case atStart=>exact⟨0,Nat.zero_le _,rfl,q0,q1,by rw [yg];exact q2,qb⟩
 case round =>
  clear q0 q1 q2 qb
  obtain⟨k,hk,rfl,h0,h1,h2,hb⟩:=hrel
  by_cases hlt:k<18
  ·have hset:(rowF 18 (fun k=>u64V (s k)) (.int .u64 0) k).setIfInBounds k (.int .u64 (s k:Nat))=rowF 18 (fun k=>u64V (s k)) (.int .u64 0) (k+1):=yi _ _ _ _ hlt
   have hc0:wr.cell? ⟨w.heap.size,k,none⟩=some (.int .u64 (s k:Nat)):=(h0.cell k).trans (HG.out k hlt)
   have hc2:wr.cell? ⟨w.heap.size+1+1,k,none⟩=some (.int .u64 0):=(h2.cell k).trans (yv _ _ _ _ hlt)
   have hf2:=h2.frozen k
   have m2:=h2.set_ k (.int .u64 (s k:Nat))
   rw [hset]at m2
   have m0:=h0.far (p:=⟨w.heap.size+1+1,k,none⟩) (by show _≠_;simp only [];omega) (.int .u64 (s k:Nat))
   have m1:=h1.far (p:=⟨w.heap.size+1+1,k,none⟩) (by show _≠_;simp only [];omega) (.int .u64 (s k:Nat))
   have mb:=hb.setCell (p:=⟨w.heap.size+1+1,k,none⟩) (by show _≤_;simp only [];omega) (.int .u64 (s k:Nat))
   have hk0:(0:Int)≤(k:Int):=by omega
   have hk1:(k:Int)<18:=by omega
   go_wp2_with fail
   go_roundw
   case rel=>exact⟨k+1,by omega,by go_num,m0,m1,m2,mb⟩
   case measure=>simp [intOf];omega
  ·obtain rfl:k=18:=by omega
   rw [HF.out]at h2
   have h3:=h1.row cs
   unfold Bk at h1 h2 h3
   go_wp2_with(first
    | (with_reducible refine wpList_load_row rfl 71 _ rfl (w.heap.size+1+1) rfl 71 cs (0,0) _ h2 Tryz.underlying71 rfl i0 ?_)
    | (with_reducible refine wpList_store_row rfl 71 _ _ rfl (w.heap.size+1) cs rfl rfl 71 _ h1 i0 z0 hon ?_))
   exact bodyPost_ret (results_cell_row Tryz.results205 _ _ (w.heap.size+1) _ cs (0,0) _ rfl h3 Tryz.underlying71 rfl i0) rfl ⟨rfl,yf hb (by omega) cs⟩
end Go.Proofs.YtidjnnnigcmdpaaGreatDoor
