/- What is known of the one-time signatures: the walk. -/
import Derived.Test.YtlhjkgohojcbpaaOtsK
import Derived.Deep.RegionWith
namespace Go.Proofs.Ytlhjkgohojcbpaa
open Go.RowKit
set_option linter.unusedVariables false
/-- a whole row is loaded, in a quiet walk -/
theorem quiet_load_row {P : Program} {C : World → Prop} {a : Act} {o : Oper} {K : Act → Prop} (ty : TypeId) (x : Operand) (h : o.op = .load ty x) (g : Nat) (hx : a.eval x = .pointer (some ⟨g, 0, none⟩)) (t : TypeId) (cs : Array Value) (fr : Nat × Nat) (d : TypeDesc)
    (hg : ∀ w, C w → w.heap[g]? = some (.cells cs t fr)) (hu : P.underlying ty = some d) (hd : (match d with | .struct _ | .array _ _ => true | _ => false) = true) (hi : (P.info? ty).map (·.size) = some cs.size)
    (hk : K (a.put o.dst (.agg cs))) : o.quiet P a C K := by
  refine ⟨_, fun w hw => ?_, hk⟩
  unfold Oper.quietAt execOp
  simp only [h, hx, Instr.loadAt, Instr.sureAddr, Sem.run_bind, Sem.run_pure, Result.andThen_ok, run_loadVar_row w g t ty cs fr d (hg w hw) hu hd hi]
  exact ⟨rfl, rfl⟩
set_option maxHeartbeats 1000000 in
theorem known_true (w : World) : Calls Try.prog 13 #[] w fun e w' => e = .returned (.bool true) ∧ Grew w w' := by
  have C0 := Lib.hid (fun W => secrets_any 7 3 ⟨by omega, by omega⟩ ⟨by omega, by omega⟩ W)
  rw [show ((List.range 18).map fun k => u64V (secN 7 3 k)).toArray = arrU (secN 7 3) from rfl] at C0
  have hsl := fun k (_ : k < 18) => secN_lt 7 3 k
  have C1 := Lib.hid (fun W => sign_any (secN 7 3) 5 W hsl ⟨by omega, by omega⟩)
  have C2 := Lib.hid (fun W => digits_any 16 ⟨by omega, by omega⟩ W)
  have C3 := Lib.hid (fun W => pub_any (secN 7 3) W hsl)
  have hpl := pubN_lt (secN 7 3)
  have C4 := Lib.hid (fun W => verify_any (pubN (secN 7 3) : Nat) (signF (secN 7 3) 5) 5 W (u64_nat hpl) (fun k hk => signF_lt _ _ _ (hsl k hk)) ⟨by omega, by omega⟩)
  have C5 := Lib.hid (fun W => verify_any (pubN (secN 7 3) : Nat) (signF (secN 7 3) 5) 6 W (u64_nat hpl) (fun k hk => signF_lt _ _ _ (hsl k hk)) ⟨by omega, by omega⟩)
  have C6 := Lib.hid (fun W => recover_any (signF (secN 7 3) 5) 5 W (fun k hk => signF_lt _ _ _ (hsl k hk)) ⟨by omega, by omega⟩)
  rw [show (5 : Int).toNat = 5 from rfl, Int.toNat_natCast, rec_sign, decide_eq_true rfl] at C4
  rw [show (6 : Int).toNat = 6 from rfl, Int.toNat_natCast, decide_eq_false rec_ne] at C5
  rw [show (5 : Int).toNat = 5 from rfl] at C1
  rw [show (5 : Int).toNat = 5 from rfl, rec_sign] at C6
  rw [show (16 : Int).toNat = 16 from rfl] at C2
  have hsz0 := arrU_size (secN 7 3)
  have hon0 := arrU_one (secN 7 3)
  have g0 := arrU_get (secN 7 3) 0 (by decide)
  have g1 := arrU_get (secN 7 3) 1 (by decide)
  have hne : ((secN 7 3 0 : Int) != (secN 7 3 1 : Int)) = true := by rw [bne_iff_ne]; have := sec_differ; omega
  have hsz1 := arrU_size (signF (secN 7 3) 5)
  have hon1 := arrU_one (signF (secN 7 3) 5)
  have hszd := digArr_size 16
  have hond := map_digF_one 16
  have d14 : (((List.range 18).map (digF 16)).toArray)[14]? = some (.int .i64 1) := by rfl
  have d15 : (((List.range 18).map (digF 16)).toArray)[15]? = some (.int .i64 0) := by rfl
  have d16 : (((List.range 18).map (digF 16)).toArray)[16]? = some (.int .i64 14) := by rfl
  have d17 : (((List.range 18).map (digF 16)).toArray)[17]? = some (.int .i64 15) := by rfl
  have hs0 := secN_lt 7 3 0
  have hs1 := secN_lt 7 3 1
  clear hsl
  generalize pubN (secN 7 3) = pp at *
  generalize arrU (signF (secN 7 3) 5) = gs at *
  generalize arrU (secN 7 3) = ss at *
  generalize secN 7 3 0 = x0 at *
  generalize secN 7 3 1 = x1 at *
  generalize ((List.range 18).map (digF 16)).toArray = ds at *
  have i0 : (Try.prog.info? 26).map (·.size) = some ss.size := by rw [hsz0]; kernel_rfl
  have i1 : (Try.prog.info? 33).map (·.size) = some gs.size := by rw [hsz1]; kernel_rfl
  have id : (Try.prog.info? 30).map (·.size) = some ds.size := by rw [hszd]; kernel_rfl
  have z0 : ((List.replicate 18 (Value.int .u64 0)).toArray).size = ss.size := by rw [hsz0]; rfl
  have z1 : ((List.replicate 18 (Value.int .u64 0)).toArray).size = gs.size := by rw [hsz1]; rfl
  have zd : ((List.replicate 18 (Value.int .i64 0)).toArray).size = ds.size := by rw [hszd]; rfl
  have st0 := Lib.hid (fun W : World => run_storeCells_new (P := Try.prog) W 26 (List.replicate 18 (Value.int .u64 0)).toArray ss i0 z0 hon0)
  have st1 := Lib.hid (fun W : World => run_storeCells_new (P := Try.prog) W 33 (List.replicate 18 (Value.int .u64 0)).toArray gs i1 z1 hon1)
  have std := Lib.hid (fun W : World => run_storeCells_new (P := Try.prog) W 30 (List.replicate 18 (Value.int .i64 0)).toArray ds id zd hond)
  simp only [List.replicate_succ, List.replicate_zero] at st0 st1 std
  go_enter Try.func13, Try.ntmps13
  go_wp2_with fail
  refine (C0.out _).mono ?_
  rintro e w1 ⟨rfl, hb1⟩
  have h0 := Bk.new w1 26 ss
  have hb2 : Grew w (w1.alloc (.cells ss 26)) := grew_alloc hb1 _
  have hst := st0.out w1
  unfold Bk at h0
  go_wp2_with (first
    | (with_reducible refine wpList_load_row rfl 26 _ rfl w1.heap.size rfl 26 ss (0, 0) _ h0 Try.underlying26 rfl i0 ?_))
  clear hst
  refine (C1.out _).mono ?_
  rintro e w2 ⟨rfl, hb3⟩
  have h0' := (Bk.grew (show Bk _ _ _ _ from h0) hb3).alloc (.cells gs 33)
  have h1 := Bk.new w2 33 gs
  have hb4 : Grew w (w2.alloc (.cells gs 33)) := grew_alloc (grew_trans hb2 hb3) _
  have hst := st1.out w2
  clear h0 hb1 hb2 hb3
  go_wp2_with fail
  clear hst
  refine (C2.out _).mono ?_
  rintro e w3 ⟨rfl, hb5⟩
  have k0 := (h0'.grew hb5).alloc (.cells ds 30)
  have k1 := (h1.grew hb5).alloc (.cells ds 30)
  have kd := Bk.new w3 30 ds
  have hb6 : Grew w (w3.alloc (.cells ds 30)) := grew_alloc (grew_trans hb4 hb5) _
  have hst := std.out w3
  clear h0' h1 hb4 hb5
  go_wp2_with fail
  clear hst st0 st1 std
  generalize hg0 : w1.heap.size = n0 at *
  generalize hg1 : w2.heap.size = n1 at *
  generalize hgd : w3.heap.size = nd at *
  generalize w3.alloc (.cells ds 30) = w4 at *
  have L0 : ∀ W : World, (∃ x : Gr w4, W = x.val) → W.heap[n0]? = some (.cells ss 26 (0, 0)) := by rintro _ ⟨x, rfl⟩; exact k0.grew x.ok
  have L1 : ∀ W : World, (∃ x : Gr w4, W = x.val) → W.heap[n1]? = some (.cells gs 33 (0, 0)) := by rintro _ ⟨x, rfl⟩; exact k1.grew x.ok
  have L0 := Lib.hid L0
  have L1 := Lib.hid L1
  have M0 : ∀ x : Gr w4, x.val.cell? ⟨n0, 0, none⟩ = some (.int .u64 x0) := fun x => ((k0.grew x.ok).cell 0).trans g0
  have M1 : ∀ x : Gr w4, x.val.cell? ⟨n0, 1, none⟩ = some (.int .u64 x1) := fun x => ((k0.grew x.ok).cell 1).trans g1
  have D14 : ∀ x : Gr w4, x.val.cell? ⟨nd, 14, none⟩ = some (.int .i64 1) := fun x => ((kd.grew x.ok).cell 14).trans d14
  have D15 : ∀ x : Gr w4, x.val.cell? ⟨nd, 15, none⟩ = some (.int .i64 0) := fun x => ((kd.grew x.ok).cell 15).trans d15
  have D16 : ∀ x : Gr w4, x.val.cell? ⟨nd, 16, none⟩ = some (.int .i64 14) := fun x => ((kd.grew x.ok).cell 16).trans d16
  have D17 : ∀ x : Gr w4, x.val.cell? ⟨nd, 17, none⟩ = some (.int .i64 15) := fun x => ((kd.grew x.ok).cell 17).trans d17
  refine wp_region_grew (grew_refl _) (by kernel_rfl) (by kernel_rfl) ?_
  clear k0 k1 kd
  repeat (first
    | (go_big_quiet_want; refine quiet_load_row 26 (.tmp 1) rfl n0 rfl 26 ss (0, 0) _ L0.out Try.underlying26 rfl i0 ?_; simp only [Act.put, List.setIfInBounds_toArray, List.set_cons_succ, List.set_cons_zero]; go_big_quiet_on)
    | (go_big_quiet_want; refine quiet_load_row 33 (.tmp 2) rfl n1 rfl 33 gs (0, 0) _ L1.out Try.underlying33 rfl i1 ?_; simp only [Act.put, List.setIfInBounds_toArray, List.set_cons_succ, List.set_cons_zero]; go_big_quiet_on)
    | (go_big_quiet_step (first
    | (go_at_call 20; exact callG (C3.out _))
    | (go_at_call_of 25 (Value.int IntKind.u64 5); exact callG (C4.out _))
    | (go_at_call_of 25 (Value.int IntKind.u64 6); exact callG (C5.out _))
    | (go_at_call 23; exact callG (C6.out _)))))
  refine wpQuiet_nil ?_
  rintro _ ⟨⟨w5, hb7⟩, rfl⟩
  go_wp2
  go_ret
  exact ⟨rfl, grew_trans hb6 hb7⟩
end Go.Proofs.Ytlhjkgohojcbpaa
