/- The statements of layer 3: OtsAny. -/
import Derived.Test.YtlhjkgohojcbpaaOtsF
namespace Go.Proofs.Ytlhjkgohojcbpaa
open Go.RowKit
set_option linter.unusedVariables false
/-- '==' of an array of eighteen digests and itself -/
theorem run_equalIn_arr {P : Program} (w : World) (d : Nat) (t e : TypeId) (i : TypeInfo) (cs : Array Value) (s : Nat → Nat) (ht : P.underlying t = some (.array 18 e)) (he : P.underlying e = some (.int .u64)) (hi : P.info? e = some i) (h1 : i.size = 1)
    (hag : ∀ w, (isAgg e).run P w = .ok false w) (hc : ∀ k : Nat, k < 18 → cs[k]? = some (.int .u64 (s k : Nat))) : (Op.equalIn (d + 2) t (.agg cs) (.agg cs)).run P w = .ok true w := by
  have hs : (sizeOf e).run P w = .ok 1 w := by simp [sizeOf, typeInfo, hi, h1, go_sem]
  have key : ∀ k : Nat, k < 18 → (part e cs k).run P w = .ok (.int .u64 (s k : Nat)) w := by
    intro k hk
    have hck := hc k hk
    simp [part, hag, sizeOf, typeInfo, hi, h1, hck, go_sem]
  have keq : ∀ a b : Int, (Op.equalIn (d + 1) e (.int .u64 a) (.int .u64 b)).run P w = .ok (a == b) w := fun a b => run_equalIn_int (w := w) d e .u64 .u64 a b he
  unfold Op.equalIn
  simp only [Sem.run_bind, run_underlying ht, Result.andThen_ok, hs]
  have loop : ∀ (l : List Nat), (∀ k ∈ l, k < 18) → (forIn l ((none, ()) : Option Bool × Unit) fun i __s => do
            let __do_lift ← part e cs (i * 1)
            let __do_lift_1 ← part e cs (i * 1)
            let __do_lift ← Op.equalIn (d + 1) e __do_lift __do_lift_1
            if (!__do_lift) = true then pure (ForInStep.done (some false, ())) else pure (ForInStep.yield (none, ())) : Sem (Option Bool × Unit)).run P w = .ok (none, ()) w := by
    intro l
    induction l with
    | nil => intro _; simp
    | cons k l ih =>
      intro hk
      have h1 := key k (hk k List.mem_cons_self)
      have h2 := ih fun j hj => hk j (List.mem_cons_of_mem _ hj)
      rw [List.forIn_cons]
      simp only [Nat.mul_one] at h2 ⊢
      simp only [Sem.run_bind, h1, Result.andThen_ok, keq, beq_self_eq_true, Bool.not_true, Bool.false_eq_true, if_false, Sem.run_pure]
      exact h2
  simp only [Std.Legacy.Range.forIn_eq_forIn_range', Std.Legacy.Range.size]
  rw [loop _ (by intro k hk; simp [List.mem_range'] at hk; omega)]
  simp
theorem of_row (s : Nat → Nat) (w : World) :
    Calls Try.prog 19 #[.agg (arrU s)] w fun e w' => e = .returned (.agg (arrU s)) ∧ Grew w w' := by
  have hsz := arrU_size s
  have hon := arrU_one s
  have HG := Lib.hid (fun k hk => arrU_get s k hk)
  have HF := Lib.hid (show rowF 18 (fun k => u64V (s k)) (.int .u64 0) 18 = arrU s from rowF_full _ _ _)
  generalize arrU s = cs at *
  have i0 : (Try.prog.info? 28).map (·.size) = some cs.size := by rw [hsz]; kernel_rfl
  have z0 : ((List.replicate 18 (Value.int .u64 0)).toArray).size = cs.size := by rw [hsz]; rfl
  go_enter Try.func19, Try.ntmps19
  go_wp2_with fail
  have q0 : Bk (((w.alloc (.cells cs 25)).alloc (.cells (List.replicate 18 (Value.int .u64 0)).toArray 28)).alloc (.cells (List.replicate 18 (Value.int .u64 0)).toArray 28)) w.heap.size 25 cs := ((Bk.new _ _ _).alloc _).alloc _
  have q1 : Bk (((w.alloc (.cells cs 25)).alloc (.cells (List.replicate 18 (Value.int .u64 0)).toArray 28)).alloc (.cells (List.replicate 18 (Value.int .u64 0)).toArray 28)) (w.heap.size + 1) 28 (List.replicate 18 (Value.int .u64 0)).toArray := by
    have := (Bk.new (w.alloc (.cells cs 25)) 28 (List.replicate 18 (Value.int .u64 0)).toArray).alloc (.cells (List.replicate 18 (Value.int .u64 0)).toArray 28)
    simpa using this
  have q2 : Bk (((w.alloc (.cells cs 25)).alloc (.cells (List.replicate 18 (Value.int .u64 0)).toArray 28)).alloc (.cells (List.replicate 18 (Value.int .u64 0)).toArray 28)) (w.heap.size + 1 + 1) 28 (List.replicate 18 (Value.int .u64 0)).toArray := by
    have := Bk.new ((w.alloc (.cells cs 25)).alloc (.cells (List.replicate 18 (Value.int .u64 0)).toArray 28)) 28 (List.replicate 18 (Value.int .u64 0)).toArray
    simpa using this
  have qb : Grew w (((w.alloc (.cells cs 25)).alloc (.cells (List.replicate 18 (Value.int .u64 0)).toArray 28)).alloc (.cells (List.replicate 18 (Value.int .u64 0)).toArray 28)) := grew_alloc (grew_alloc (grew_alloc (grew_refl w) _) _) _
  go_loopw [4] (fun i wr => ∃ k : Nat, k ≤ 18 ∧ i = .int .i64 k ∧ Bk wr w.heap.size 25 cs ∧ Bk wr (w.heap.size + 1) 28 (List.replicate 18 (Value.int .u64 0)).toArray ∧ Bk wr (w.heap.size + 1 + 1) 28 (rowF 18 (fun k => u64V (s k)) (.int .u64 0) k) ∧ Grew w wr) (fun i _ => 18 - (intOf i).toNat)
  case atStart => exact ⟨0, Nat.zero_le _, rfl, q0, q1, by rw [rowF_zero]; exact q2, qb⟩
  case round =>
    clear q0 q1 q2 qb
    obtain ⟨k, hk, rfl, h0, h1, h2, hb⟩ := hrel
    by_cases hlt : k < 18
    · have hset : (rowF 18 (fun k => u64V (s k)) (.int .u64 0) k).setIfInBounds k (.int .u64 (s k : Nat)) = rowF 18 (fun k => u64V (s k)) (.int .u64 0) (k + 1) := rowF_set _ _ _ _ hlt
      have hc0 : wr.cell? ⟨w.heap.size, k, none⟩ = some (.int .u64 (s k : Nat)) := (h0.cell k).trans (HG.out k hlt)
      have hc2 : wr.cell? ⟨w.heap.size + 1 + 1, k, none⟩ = some (.int .u64 0) := (h2.cell k).trans (rowF_at _ _ _ _ hlt)
      have hf2 := h2.frozen k
      have m2 := h2.set_ k (.int .u64 (s k : Nat))
      rw [hset] at m2
      have m0 := h0.far (p := ⟨w.heap.size + 1 + 1, k, none⟩) (by show _ ≠ _; simp only []; omega) (.int .u64 (s k : Nat))
      have m1 := h1.far (p := ⟨w.heap.size + 1 + 1, k, none⟩) (by show _ ≠ _; simp only []; omega) (.int .u64 (s k : Nat))
      have mb := hb.setCell (p := ⟨w.heap.size + 1 + 1, k, none⟩) (by show _ ≤ _; simp only []; omega) (.int .u64 (s k : Nat))
      have hk0 : (0 : Int) ≤ (k : Int) := by omega
      have hk1 : (k : Int) < 18 := by omega
      go_wp2_with fail
      go_roundw
      case rel => exact ⟨k + 1, by omega, by go_num, m0, m1, m2, mb⟩
      case measure => simp [intOf]; omega
    · obtain rfl : k = 18 := by omega
      rw [HF.out] at h2
      have h3 := h1.row cs
      unfold Bk at h1 h2 h3
      go_wp2_with (first
        | (with_reducible refine wpList_load_row rfl 28 _ rfl (w.heap.size + 1 + 1) rfl 28 cs (0, 0) _ h2 Try.underlying28 rfl i0 ?_)
        | (with_reducible refine wpList_store_row rfl 28 _ _ rfl (w.heap.size + 1) cs rfl rfl 28 _ h1 i0 z0 hon ?_))
      exact bodyPost_ret (results_cell_row Try.results19 _ _ (w.heap.size + 1) _ cs (0, 0) _ rfl h3 Try.underlying28 rfl i0) rfl ⟨rfl, below_setRow hb (by omega) cs⟩
theorem infoU64 : (Try.prog.info? 22).map (fun i => (i.zero, i.size, i.bytes)) = some (some (.int .u64 0), 1, 8) := by kernel_rfl
set_option maxHeartbeats 1000000 in
theorem otsAny_law (seed leaf d : Int) (w : World) (hs : U64 seed) (hl : -9223372036854775808 ≤ leaf ∧ leaf ≤ 9223372036854775807) (hd : U64 d) :
    Calls Try.prog 3 #[.int .u64 seed, .int .i64 leaf, .int .u64 d] w fun e w' => e = .returned (.bool true) ∧ Grew w w' := by
  have C1 := Lib.hid (fun W => secrets_any seed leaf hs hl W)
  rw [show ((List.range 18).map fun k => u64V (secN seed leaf k)).toArray = arrU (secN seed leaf) from rfl] at C1
  have C2 := Lib.hid (fun W => rsecrets_any seed leaf hs hl W)
  have C3 := Lib.hid (fun W => digits_any d hd W)
  have C4 := Lib.hid (fun W => rdigits_any d hd W)
  have hsl : ∀ k, k < 18 → secN seed leaf k < 18446744073709551616 := fun k _ => secN_lt _ _ _
  generalize secN seed leaf = s at *
  have hgl : ∀ k, k < 18 → signF s d.toNat k < 18446744073709551616 := fun k hk => signF_lt _ _ _ (hsl k hk)
  have C5 := Lib.hid (fun W => sign_any s d W hsl hd)
  have D1 := Lib.hid (fun W => of_row s W)
  have D2 := Lib.hid (fun W => pub_any s W hsl)
  have D3 := Lib.hid (fun W => rpub_any s W hsl)
  have D4 := Lib.hid (fun W => of_row (signF s d.toNat) W)
  have D5 := Lib.hid (fun W => rsign_any s d W hsl hd)
  have D6 := Lib.hid (fun W => recover_any (signF s d.toNat) d W hgl hd)
  have D7 := Lib.hid (fun W => rrecover_any (signF s d.toNat) d W hgl hd)
  obtain ⟨i0, hi0, hiz0, hiz1, hiz2⟩ := info_parts infoU64
  have hag : ∀ w, (isAgg 22).run Try.prog w = .ok false w := fun w => by kernel_rfl
  have Q1 : ∀ W, (Op.equalIn 10000 28 (.agg (arrU s)) (.agg (arrU s))).run Try.prog W = .ok true W := fun W => run_equalIn_arr W 9998 28 22 i0 _ s Try.underlying28 Try.underlying22 hi0 hiz1 hag (arrU_get s)
  have Q2 : ∀ W, (Op.equalIn 10000 28 (.agg (arrU (signF s d.toNat))) (.agg (arrU (signF s d.toNat)))).run Try.prog W = .ok true W := fun W => run_equalIn_arr W 9998 28 22 i0 _ (signF s d.toNat) Try.underlying28 Try.underlying22 hi0 hiz1 hag (arrU_get _)
  clear hag hi0 hiz0 hiz1 hiz2
  have G3 : ∀ k : Nat, k < 18 → (((List.range 18).map (digF d.toNat)).toArray)[k]? = some (.int .i64 (digK d.toNat k : Nat)) := fun k hk => by
    rw [Array.getElem?_eq_getElem (by simpa using hk)]; simp [digF]
  have G3 := Lib.hid G3
  have hsz1 := arrU_size s
  have hon1 := arrU_one s
  have hszg := arrU_size (signF s d.toNat)
  have hong := arrU_one (signF s d.toNat)
  have hszd := digArr_size d.toNat
  have hond := map_digF_one d.toNat
  have B3 := Lib.hid (digK_le d.toNat)
  generalize digK d.toNat = f at *
  generalize pubN s = pp at *
  generalize recN (signF s d.toNat) d.toNat = rr at *
  generalize arrU (signF s d.toNat) = gs at *
  generalize arrU s = ss at *
  generalize ((List.range 18).map (digF d.toNat)).toArray = ds at *
  have i1 : (Try.prog.info? 26).map (·.size) = some ss.size := by rw [hsz1]; kernel_rfl
  have i2 : (Try.prog.info? 28).map (·.size) = some ss.size := by rw [hsz1]; kernel_rfl
  have i3 : (Try.prog.info? 30).map (·.size) = some ds.size := by rw [hszd]; kernel_rfl
  have i5 : (Try.prog.info? 33).map (·.size) = some gs.size := by rw [hszg]; kernel_rfl
  have z1 : ((List.replicate 18 (Value.int .u64 0)).toArray).size = ss.size := by rw [hsz1]; rfl
  have z3 : ((List.replicate 18 (Value.int .i64 0)).toArray).size = ds.size := by rw [hszd]; rfl
  have z5 : ((List.replicate 18 (Value.int .u64 0)).toArray).size = gs.size := by rw [hszg]; rfl
  have st1 := Lib.hid (fun W : World => run_storeCells_new (P := Try.prog) W 26 (List.replicate 18 (Value.int .u64 0)).toArray ss i1 z1 hon1)
  have st2 := Lib.hid (fun W : World => run_storeCells_new (P := Try.prog) W 28 (List.replicate 18 (Value.int .u64 0)).toArray ss i2 z1 hon1)
  have st3 := Lib.hid (fun W : World => run_storeCells_new (P := Try.prog) W 30 (List.replicate 18 (Value.int .i64 0)).toArray ds i3 z3 hond)
  have st5 := Lib.hid (fun W : World => run_storeCells_new (P := Try.prog) W 33 (List.replicate 18 (Value.int .u64 0)).toArray gs i5 z5 hong)
  simp only [List.replicate_succ, List.replicate_zero] at st1 st2 st3 st5
  go_enter Try.func3, Try.ntmps3
  go_wp2_with (refine (known_true _).mono ?_; rintro e w1 ⟨rfl, hb1⟩)
  go_wp2_with fail
  refine (C1.out _).mono ?_
  rintro e w2 ⟨rfl, hb2⟩
  have h0 := Bk.new w2 26 ss
  have e1 := grew_alloc (grew_trans hb1 hb2) (.cells ss 26)
  have hst := st1.out w2
  go_wp2_with fail
  clear hst
  refine (C2.out _).mono ?_
  rintro e w3 ⟨rfl, hb3⟩
  have h0 := (h0.grew hb3).alloc (.cells ss 28)
  have h1 := Bk.new w3 28 ss
  have e2 := grew_alloc (grew_trans e1 hb3) (.cells ss 28)
  have hst := st2.out w3
  go_wp2_with fail
  clear hst
  refine (C3.out _).mono ?_
  rintro e w4 ⟨rfl, hb4⟩
  have h0 := (h0.grew hb4).alloc (.cells ds 30)
  have h1 := (h1.grew hb4).alloc (.cells ds 30)
  have h2 := Bk.new w4 30 ds
  have e3 := grew_alloc (grew_trans e2 hb4) (.cells ds 30)
  have hst := st3.out w4
  go_wp2_with fail
  clear hst
  refine (C4.out _).mono ?_
  rintro e w5 ⟨rfl, hb5⟩
  have h0 := (h0.grew hb5).alloc (.cells ds 30)
  have h1 := (h1.grew hb5).alloc (.cells ds 30)
  have h2 := (h2.grew hb5).alloc (.cells ds 30)
  have h3 := Bk.new w5 30 ds
  have e4 := grew_alloc (grew_trans e3 hb5) (.cells ds 30)
  have hst := st3.out w5
  go_wp2_with fail
  clear hst st1 st2 st3 e1 e2 e3
  generalize w5.alloc (.cells ds 30) = w6 at *
  generalize w2.heap.size = n0 at *
  generalize w3.heap.size = n1 at *
  generalize w4.heap.size = n2 at *
  generalize w5.heap.size = n3 at *
  go_loopw [11] (fun i wr => ∃ k : Nat, k ≤ 18 ∧ i = .int .i64 k ∧ Bk wr n0 26 ss ∧ Bk wr n1 28 ss ∧ Bk wr n2 30 ds ∧ Bk wr n3 30 ds ∧ Grew w wr) (fun i _ => 18 - (intOf i).toNat)
  case atStart => exact ⟨0, Nat.zero_le _, rfl, h0, h1, h2, h3, e4⟩
  case round =>
    clear h0 h1 h2 h3 e4
    obtain ⟨k, hk, rfl, h0, h1, h2, h3, e4⟩ := hrel
    by_cases hlt : k < 18
    · have hc2 : ∀ n, (wr.drewN n).cell? ⟨n2, k, none⟩ = some (.int .i64 (f k : Nat)) := fun n => (h2.cell k).trans (G3.out k hlt)
      have hc3 : ∀ n, (wr.drewN n).cell? ⟨n3, k, none⟩ = some (.int .i64 (f k : Nat)) := fun n => (h3.cell k).trans (G3.out k hlt)
      have hb3 := B3.out k
      have hk0 : (0 : Int) ≤ (k : Int) := by omega
      have hk1 : (k : Int) < 18 := by omega
      generalize f k = x at *
      go_wp2_with fail
      refine wp_region_quiet_lit (by kernel_rfl) (by kernel_rfl) ?_
      repeat (go_big_quiet_step (fail))
      refine wpQuiet_nil ?_
      rintro _ ⟨nq, rfl⟩
      go_wp2_with fail
      go_roundw
      case rel => exact ⟨k + 1, by omega, by go_num, h0, h1, h2, h3, grew_drewN e4 _⟩
      case measure => simp [intOf]; omega
    · obtain rfl : k = 18 := by omega
      have g0 := h0
      unfold Bk at g0
      clear h2 h3 G3 B3 hb1 hb2 hb3 hb4 hb5
      go_wp2_with (first
        | (with_reducible refine wpList_load_row rfl 26 _ rfl n0 rfl 26 ss (0, 0) _ g0 Try.underlying26 rfl i1 ?_))
      refine (C5.out _).mono ?_
      rintro e w7 ⟨rfl, hb6⟩
      have m0 := (h0.grew hb6).alloc (.cells gs 33)
      have m1 := (h1.grew hb6).alloc (.cells gs 33)
      have m4 := Bk.new w7 33 gs
      have e5 := grew_alloc (grew_trans e4 hb6) (.cells gs 33)
      have hst := st5.out w7
      go_wp2_with fail
      clear hst g0 h0 h1 e4 hb6 st5
      generalize w7.heap.size = n4 at *
      generalize w7.alloc (.cells gs 33) = w8 at *
      have L0 : ∀ W : World, (∃ x : Gr w8, W = x.val) → W.heap[n0]? = some (.cells ss 26 (0, 0)) := by rintro _ ⟨x, rfl⟩; exact m0.grew x.ok
      have L1 : ∀ W : World, (∃ x : Gr w8, W = x.val) → W.heap[n1]? = some (.cells ss 28 (0, 0)) := by rintro _ ⟨x, rfl⟩; exact m1.grew x.ok
      have L4 : ∀ W : World, (∃ x : Gr w8, W = x.val) → W.heap[n4]? = some (.cells gs 33 (0, 0)) := by rintro _ ⟨x, rfl⟩; exact m4.grew x.ok
      have L0 := Lib.hid L0
      have L1 := Lib.hid L1
      have L4 := Lib.hid L4
      clear m0 m1 m4
      refine wp_region_grew (grew_refl _) (by kernel_rfl) (by kernel_rfl) ?_
      repeat (first
        | (go_big_quiet_want; refine quiet_load_row 26 (.tmp 7) rfl n0 rfl 26 ss (0, 0) _ L0.out Try.underlying26 rfl i1 ?_; simp only [Act.put, List.setIfInBounds_toArray, List.set_cons_succ, List.set_cons_zero]; go_big_quiet_on)
        | (go_big_quiet_want; refine quiet_load_row 28 (.tmp 8) rfl n1 rfl 28 ss (0, 0) _ L1.out Try.underlying28 rfl i2 ?_; simp only [Act.put, List.setIfInBounds_toArray, List.set_cons_succ, List.set_cons_zero]; go_big_quiet_on)
        | (go_big_quiet_want; refine quiet_load_row 33 (.tmp 12) rfl n4 rfl 33 gs (0, 0) _ L4.out Try.underlying33 rfl i5 ?_; simp only [Act.put, List.setIfInBounds_toArray, List.set_cons_succ, List.set_cons_zero]; go_big_quiet_on)
        | (go_big_quiet_step (first
          | (go_at_call_of 19 ss; exact callG (D1.out _))
          | (go_at_call_of 19 gs; exact callG (D4.out _))
          | (go_at_call 20; exact callG (D2.out _))
          | (go_at_call 21; exact callG (D3.out _))
          | (go_at_call 22; exact callG (D5.out _))
          | (go_at_call 23; exact callG (D6.out _))
          | (go_at_call 24; exact callG (D7.out _)))))
      refine wpQuiet_nil ?_
      rintro _ ⟨⟨w9, hb9⟩, rfl⟩
      go_wp2
      go_ret
      exact ⟨rfl, grew_trans e5 hb9⟩
end Go.Proofs.Ytlhjkgohojcbpaa
