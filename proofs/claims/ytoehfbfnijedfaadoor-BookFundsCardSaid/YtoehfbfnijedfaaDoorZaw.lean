/- known of layer 20. -/
import Derived.Deep.OwnRows
import Derived.Deep.QuietTactic
import Derived.BigQuiet
import Derived.Test.YtoehfbfnijedfaaDoorZas
import Derived.Test.YtoehfbfnijedfaaDoorZav
namespace Go.Proofs.YtoehfbfnijedfaaDoor
set_option linter.unusedSimpArgs false
set_option linter.unusedVariables false
open Go.RowKit
set_option linter.unusedVariables false
set_option linter.unusedSimpArgs false
theorem wpList_load_mid_want {P : Program} {ops : Array Oper} {rest : List Oper} {o : Oper} {a : Act} {w : World} {Q : Exit → Act → World → Prop} (hw : Region.wanted o (yielded ops a.tmps) = true) (ty : TypeId) (x : Operand) (ho : o.op = .load ty x)
    (b m : Nat) (hx : a.eval x = .pointer (some ⟨b, m, none⟩)) (cs : List Value) (d : TypeDesc) (hc : w.rangeAt b m cs)
    (hu : P.underlying ty = some d) (hd : d.isRow = true) (hi : (P.info? ty).map (·.size) = some cs.length)
    (h : wpList P ops Q rest (a.put o.dst (.agg cs.toArray)) w) : wpList P ops Q (o :: rest) a w :=
  BigFrame.wpList_want hw fun _ hK => wp_load_mid ty x ho b m hx cs d hc hu hd hi (hK _ _ h)
/-- cells in the middle of a block are loaded, in a quiet walk of worlds that grow -/
theorem quiet_load_mid {P : Program} {w0 : World} {a : Act} {o : Oper} {K : Act → Prop} (ty : TypeId) (x : Operand) (h : o.op = .load ty x) (b m : Nat) (hx : a.eval x = .pointer (some ⟨b, m, none⟩)) (cs : List Value) (d : TypeDesc)
    (hg : ∀ y : Gr w0, y.val.rangeAt b m cs) (hu : P.underlying ty = some d) (hd : d.isRow = true) (hi : (P.info? ty).map (·.size) = some cs.length)
    (hk : K (a.put o.dst (.agg cs.toArray))) : o.quiet P a (fun w' => ∃ x : Gr w0, w' = x.val) K := by
  refine ⟨_, fun w hw => ?_, hk⟩
  obtain ⟨y, rfl⟩ := hw
  unfold Oper.quietAt execOp
  simp only [h, hx, Instr.loadAt, Instr.sureAddr, Sem.run_bind, Sem.run_pure, Result.andThen_ok, run_loadVar_mid y.val b m ty cs d (hg y) hu hd hi]
  exact ⟨rfl, rfl⟩
theorem ap_1 (W : World) : Calls Tryd.prog 6 #[.agg (bkA kb1), .agg #[.int .i64 1, .int .i64 0, .int .i64 0, .int .i64 1, .int .i64 4]] W fun e w' => e = .returned (.tuple #[.agg (bkA kb2), .int .i64 0]) ∧ Grew W w' :=
  apply_ok kb1 1 0 1 0 4 (by unfold okC; decide) (by decide) (by decide) (fun k hk => by have := kb1_in k hk; omega) W
theorem ap_2 (W : World) : Calls Tryd.prog 6 #[.agg (bkA kb2), .agg #[.int .i64 1, .int .i64 1, .int .i64 0, .int .i64 1, .int .i64 7]] W fun e w' => e = .returned (.tuple #[.agg (bkA kb3), .int .i64 17]) ∧ Grew W w' :=
  apply_funds kb2 1 0 1 1 7 (by unfold okC; decide) (by decide) (by decide) (fun k hk => by have := kb2_in k hk; omega) W
theorem ap_3 (W : World) : Calls Tryd.prog 6 #[.agg (bkA kb3), .agg #[.int .i64 1, .int .i64 1, .int .i64 0, .int .i64 1, .int .i64 1]] W fun e w' => e = .returned (.tuple #[.agg (bkA kb3), .int .i64 10]) ∧ Grew W w' :=
  apply_turn kb3 1 0 1 1 1 (by unfold okC; decide) (by decide) (fun k hk => by have := kb3_in k hk; omega) W
theorem ap_4 (W : World) : Calls Tryd.prog 6 #[.agg (bkA kb3), .agg #[.int .i64 1, .int .i64 2, .int .i64 1, .int .i64 1, .int .i64 1]] W fun e w' => e = .returned (.tuple #[.agg (bkA kb3), .int .i64 1]) ∧ Grew W w' :=
  apply_arg kb3 1 2 1 1 1 (by unfold okC; decide) W
def zf : Nat → Int := fun _ => 0
theorem nw_1 (A : Option Addr) (c : Nat) (W : World) (h : Rd W W.heap.size A [.int .i64 10, .int .i64 20]) : Calls Tryd.prog 5 #[.slice A 2 c] W fun e w' => e = .returned (.tuple #[.agg (bkA kb1), .int .i64 0]) ∧ Grew W w' := new_ok A c [10, 20] (by simp) W h
theorem nw_2 (A : Option Addr) (c : Nat) (W : World) (h : Rd W W.heap.size A [.int .i64 (-1)]) : Calls Tryd.prog 5 #[.slice A 1 c] W fun e w' => e = .returned (.tuple #[.agg (bkA zf), .int .i64 1]) ∧ Grew W w' := new_ok A c [-1] (by simp) W h
theorem nw_3 (A : Option Addr) (c : Nat) (W : World) : Calls Tryd.prog 5 #[.slice A 17 c] W fun e w' => e = .returned (.tuple #[.agg (bkA zf), .int .i64 4]) ∧ Grew W w' := new_long A c (List.replicate 17 0) (by simp) W
set_option maxRecDepth 100000 in
set_option maxHeartbeats 1000000 in
theorem bknown_ok (w : World) (hS : Std w) : Calls Tryd.prog 4 #[] w fun e w' => e = .returned (.bool true) ∧ Grew w w' := by
  have HS := Lib.hid hS
  clear hS
  have hub := Tryd.underlying27
  have HSZ : ∀ f, Hid ((Tryd.prog.info? 27).map (·.size) = some (bkA f).size) := fun f => Lib.hid bk_info
  have HON : ∀ f, Hid ((bkA f).all (·.oneCell') = true) := fun f => Lib.hid (bkL_one f)
  have HLN : ∀ f, Hid ((Tryd.prog.info? 27).map (·.size) = some (bkA f).toList.length) := fun f => Lib.hid bk_info
  go_enter Tryd.func4, Tryd.ntmps4
  go_wp2_with fail
  refine (nw_1 _ _ _ (rd_made w _ #[.int .i64 10, .int .i64 20])).mono ?_
  rintro e w1 ⟨rfl, gg⟩
  have G1 := grew_trans (grew_alloc (grew_refl w) _) gg
  clear gg
  obtain ⟨v1, hv1, th1, gs1, z1⟩ := put_bk w1 kb1
  have HV1 := Lib.hid hv1
  have TH1 := Lib.hid th1
  clear hv1 th1
  go_wp2_with (with_reducible refine wpList_store_mid rfl 27 (.tmp 1) (.tmp 18) rfl w1.heap.size 0 (bkA kb1) rfl rfl TH1.out (HSZ kb1).out (HON kb1).out ?_; rw [HV1.out])
  refine (nw_2 _ _ _ (rd_made v1 _ #[.int .i64 (-1)])).mono ?_
  rintro e w2 ⟨rfl, gg⟩
  have gg := grew_trans (grew_alloc (grew_refl v1) _) gg
  have y1 := z1.grew gg
  have G2 := grew_trans (grew_trans G1 gs1) gg
  clear gg gs1 z1 G1
  obtain ⟨v2, hv2, th2, gs2, z2⟩ := put_bk w2 zf
  have HV2 := Lib.hid hv2
  have TH2 := Lib.hid th2
  clear hv2 th2
  have hmk := run_make_row' (P := Tryd.prog) 31 2 (.int .i64 0) 8 Tryd.underlying31 (by kernel_rfl) rfl .i64 .i64 17 (by omega) (by omega) v2
  rw [show ((17 : Nat) : Int) = 17 from rfl] at hmk
  go_wp2_with (with_reducible refine wpList_store_mid rfl 27 (.tmp 3) (.tmp 23) rfl w2.heap.size 0 (bkA zf) rfl rfl TH2.out (HSZ zf).out (HON zf).out ?_; rw [HV2.out])
  clear hmk
  refine (nw_3 _ _ _).mono ?_
  rintro e w3 ⟨rfl, gg⟩
  have gg := grew_trans (grew_alloc (grew_refl v2) _) gg
  have y1 := (y1.grew gs2).grew gg
  have G3 := grew_trans (grew_trans G2 gs2) gg
  clear gg gs2 z2 G2
  obtain ⟨v3, hv3, th3, gs3, z3⟩ := put_bk w3 zf
  have HV3 := Lib.hid hv3
  have TH3 := Lib.hid th3
  clear hv3 th3
  have hml : v3.rangeAt w1.heap.size 0 (bkA kb1).toList := (y1.grew gs3).cell
  go_wp2_with (first
    | (with_reducible refine wpList_store_mid rfl 27 (.tmp 5) (.tmp 28) rfl w3.heap.size 0 (bkA zf) rfl rfl TH3.out (HSZ zf).out (HON zf).out ?_; rw [HV3.out])
    | (with_reducible refine wpList_load_mid rfl 27 (.tmp 1) rfl w1.heap.size 0 rfl (bkA kb1).toList _ hml hub rfl (HLN kb1).out ?_; simp only [Array.toArray_toList]))
  clear HV3 TH3 hml
  have x1 := y1.grew gs3
  refine (ap_1 v3).mono ?_
  rintro e w4 ⟨rfl, gg⟩
  have G4 := grew_trans (grew_trans G3 gs3) gg
  clear gg gs3 z3 G3 y1 x1
  obtain ⟨v4, hv4, th4, gs4, z4⟩ := put_bk w4 kb2
  have HV4 := Lib.hid hv4
  have TH4 := Lib.hid th4
  clear hv4 th4
  have hml : v4.rangeAt w4.heap.size 0 (bkA kb2).toList := z4.cell
  go_wp2_with (first
    | (with_reducible refine wpList_store_mid rfl 27 (.tmp 7) (.tmp 34) rfl w4.heap.size 0 (bkA kb2) rfl rfl TH4.out (HSZ kb2).out (HON kb2).out ?_; rw [HV4.out])
    | (with_reducible refine wpList_load_mid rfl 27 (.tmp 7) rfl w4.heap.size 0 rfl (bkA kb2).toList _ hml hub rfl (HLN kb2).out ?_; simp only [Array.toArray_toList]))
  clear HV4 TH4 hml
  refine (ap_2 v4).mono ?_
  rintro e w5 ⟨rfl, gg⟩
  have y7 := z4.grew gg
  have G5 := grew_trans (grew_trans G4 gs4) gg
  clear gg gs4 z4 G4
  obtain ⟨v5, hv5, th5, gs5, z5⟩ := put_bk w5 kb3
  have HV5 := Lib.hid hv5
  have TH5 := Lib.hid th5
  clear hv5 th5
  have hml : v5.rangeAt w5.heap.size 0 (bkA kb3).toList := z5.cell
  go_wp2_with (first
    | (with_reducible refine wpList_store_mid rfl 27 (.tmp 9) (.tmp 40) rfl w5.heap.size 0 (bkA kb3) rfl rfl TH5.out (HSZ kb3).out (HON kb3).out ?_; rw [HV5.out])
    | (with_reducible refine wpList_load_mid rfl 27 (.tmp 9) rfl w5.heap.size 0 rfl (bkA kb3).toList _ hml hub rfl (HLN kb3).out ?_; simp only [Array.toArray_toList]))
  clear HV5 TH5 hml
  refine (ap_3 v5).mono ?_
  rintro e w6 ⟨rfl, gg⟩
  have y7 := (y7.grew gs5).grew gg
  have y9 := z5.grew gg
  have G6 := grew_trans (grew_trans G5 gs5) gg
  clear gg gs5 z5 G5
  obtain ⟨v6, hv6, th6, gs6, z6⟩ := put_bk w6 kb3
  have HV6 := Lib.hid hv6
  have TH6 := Lib.hid th6
  clear hv6 th6
  have hml : v6.rangeAt w5.heap.size 0 (bkA kb3).toList := (y9.grew gs6).cell
  go_wp2_with (first
    | (with_reducible refine wpList_store_mid rfl 27 (.tmp 11) (.tmp 46) rfl w6.heap.size 0 (bkA kb3) rfl rfl TH6.out (HSZ kb3).out (HON kb3).out ?_; rw [HV6.out])
    | (with_reducible refine wpList_load_mid rfl 27 (.tmp 9) rfl w5.heap.size 0 rfl (bkA kb3).toList _ hml hub rfl (HLN kb3).out ?_; simp only [Array.toArray_toList]))
  clear HV6 TH6 hml
  refine (ap_4 v6).mono ?_
  rintro e w7 ⟨rfl, gg⟩
  have y7 := (y7.grew gs6).grew gg
  have y9 := (y9.grew gs6).grew gg
  have y11 := z6.grew gg
  have G7 := grew_trans (grew_trans G6 gs6) gg
  clear gg gs6 z6 G6
  obtain ⟨v7, hv7, th7, gs7, z7⟩ := put_bk w7 kb3
  have HV7 := Lib.hid hv7
  have TH7 := Lib.hid th7
  have x7 := y7.grew gs7
  have x9 := y9.grew gs7
  have x11 := y11.grew gs7
  have G8 := grew_trans G7 gs7
  clear hv7 th7 y7 y9 y11 gs7 z7 G7
  go_wp2_with (with_reducible refine wpList_store_mid rfl 27 (.tmp 13) (.tmp 52) rfl w7.heap.size 0 (bkA kb3) rfl rfl TH7.out (HSZ kb3).out (HON kb3).out ?_; rw [HV7.out])
  have c70 : ∀ y : Gr v7, y.val.cell? ⟨w4.heap.size, 0, none⟩ = some (.int .i64 6) := fun y => bk_at (x7.grew y.ok) 0 (by omega)
  have c71 : ∀ y : Gr v7, y.val.cell? ⟨w4.heap.size, 1, none⟩ = some (.int .i64 24) := fun y => bk_at (x7.grew y.ok) 1 (by omega)
  have c77 : ∀ y : Gr v7, y.val.cell? ⟨w4.heap.size, 17, none⟩ = some (.int .i64 1) := fun y => bk_at (x7.grew y.ok) 17 (by omega)
  have c90 : ∀ y : Gr v7, y.val.cell? ⟨w5.heap.size, 0, none⟩ = some (.int .i64 6) := fun y => bk_at (x9.grew y.ok) 0 (by omega)
  have c97 : ∀ y : Gr v7, y.val.cell? ⟨w5.heap.size, 17, none⟩ = some (.int .i64 2) := fun y => bk_at (x9.grew y.ok) 17 (by omega)
  have Q := fun W => bk_eq kb3 W
  have M7 : Hid (∀ y : Gr v7, y.val.rangeAt w4.heap.size 0 (bkA kb2).toList) := Lib.hid (fun y => (x7.grew y.ok).cell)
  have M9 : Hid (∀ y : Gr v7, y.val.rangeAt w5.heap.size 0 (bkA kb3).toList) := Lib.hid (fun y => (x9.grew y.ok).cell)
  have M11 : Hid (∀ y : Gr v7, y.val.rangeAt w6.heap.size 0 (bkA kb3).toList) := Lib.hid (fun y => (x11.grew y.ok).cell)
  have CT : Hid (∀ W, Calls Tryd.prog 7 #[.agg (bkA kb3)] W fun e w' => e = .returned (.int .i64 30) ∧ Grew W w') := Lib.hid (fun W => by
    have := total_ok kb3 (fun k hk => by have := kb3_in k hk; omega) W
    rw [kb_sum] at this
    exact this)
  have D2 := Lib.hid (fun W hW => digest_ok kb2 (fun k hk => by have := kb2_in k hk; exact ⟨by omega, by omega⟩) W hW)
  have D3 := Lib.hid (fun W hW => digest_ok kb3 (fun k hk => by have := kb3_in k hk; exact ⟨by omega, by omega⟩) W hW)
  have hne : ((bkD kb2 : Int) != (bkD kb3 : Int)) = true := by
    have := kb_ne
    simp only [bne_iff_ne, ne_eq, Int.natCast_inj]
    exact this
  have SS : Hid (∀ y : Gr v7, Std y.val) := Lib.hid (fun y => HS.out.grew (grew_trans G8 y.ok))
  clear x7 x9 x11 HV7 TH7
  have hs2 := (HLN kb2).out
  have hs3 := (HLN kb3).out
  clear HSZ HON HLN
  generalize bkD kb2 = d2 at *
  generalize bkD kb3 = d3 at *
  generalize bkA kb2 = a2 at *
  generalize bkA kb3 = a3 at *
  generalize w4.heap.size = p7 at *
  generalize w5.heap.size = p9 at *
  generalize w6.heap.size = p11 at *
  have HS2 := Lib.hid hs2
  have HS3 := Lib.hid hs3
  clear hs2 hs3
  simp only [List.append_eq, List.cons_append, List.nil_append]
  refine wp_region_grew (grew_refl v7) (by kernel_rfl) (by kernel_rfl) ?_
  repeat (first
    | (go_big_quiet_want; refine quiet_load_mid 27 (.tmp 11) rfl p11 0 rfl a3.toList _ M11.out hub rfl HS3.out ?_; simp only [Act.put, List.setIfInBounds_toArray, List.set_cons_succ, List.set_cons_zero, Array.toArray_toList]; go_big_quiet_on)
    | (go_big_quiet_want; refine quiet_load_mid 27 (.tmp 9) rfl p9 0 rfl a3.toList _ M9.out hub rfl HS3.out ?_; simp only [Act.put, List.setIfInBounds_toArray, List.set_cons_succ, List.set_cons_zero, Array.toArray_toList]; go_big_quiet_on)
    | (go_big_quiet_want; refine quiet_load_mid 27 (.tmp 7) rfl p7 0 rfl a2.toList _ M7.out hub rfl HS2.out ?_; simp only [Act.put, List.setIfInBounds_toArray, List.set_cons_succ, List.set_cons_zero, Array.toArray_toList]; go_big_quiet_on)
    | (go_big_quiet_step (first
      | (go_at_call 7; exact callG (CT.out _))
      | (go_at_call_of 8 (Value.agg a2); exact callG (D2.out _ (SS.out _)))
      | (go_at_call_of 8 (Value.agg a3); exact callG (D3.out _ (SS.out _))))))
  refine wpQuiet_nil ?_
  rintro w8 ⟨⟨w8', g8⟩, rfl⟩
  go_wp2_with fail
  go_ret
  exact ⟨rfl, grew_trans G8 g8⟩
end Go.Proofs.YtoehfbfnijedfaaDoor

namespace Go.Proofs.YtoehfbfnijedfaaDoor
set_option linter.unusedSimpArgs false
set_option linter.unusedVariables false
open Go.RowKit
set_option linter.unusedVariables false
set_option linter.unusedSimpArgs false
theorem has_sub {w : World} {b : Nat} {f : Nat → Int} (h : Ag w b (bkL f)) : w.rangeAt b 0 (hasA f).toList := fun j v hj => by
  have hj' : j < 16 := by
    have := (List.getElem?_eq_some_iff.1 hj).1
    simpa [hasA] using this
  refine h.cell j v ?_
  rw [bkL_get f j (by omega)]
  have : (hasA f).toList[j]? = ((List.range 16).map fun k => Value.int .i64 (f k))[j]? := rfl
  rw [this] at hj
  simpa [hj'] using hj
theorem hasA_upd (f : Nat → Int) (v : Int) : hasA (updF f 16 v) = hasA f := by simp [hasA, updF]
def fbF (has : Int) : Nat → Int := nwF [has, 5]
theorem fb_E (has : Int) (h : 0 ≤ has ∧ has ≤ 65535) : nwE [has, 5] = 0 := by
  have h1 : goodN has = true := by unfold goodN; exact decide_eq_true (by omega)
  have h2 : goodN 5 = true := by decide
  unfold nwE
  simp [h1, h2]
theorem fb_F (has : Int) (h : 0 ≤ has ∧ has ≤ 65535) : fbF has = fun k => [has, 5].getD k 0 := by unfold fbF nwF; rw [if_pos (fb_E has h)]
theorem fb_in (has : Int) (h : 0 ≤ has ∧ has ≤ 65535) (k : Nat) : 0 ≤ fbF has k ∧ fbF has k ≤ 65535 := by
  rw [fb_F has h]
  match k with
  | 0 => exact h
  | 1 => exact ⟨by show (0:Int) ≤ 5; decide, by show (5:Int) ≤ 65535; decide⟩
  | k + 2 => exact ⟨by simp, by simp⟩
set_option maxRecDepth 100000 in
set_option maxHeartbeats 1000000 in
theorem bookFunds_law (has ask : Int) (hh : 0 ≤ has ∧ has ≤ 65535) (ha : 0 ≤ ask ∧ ask ≤ 65535) (w : World) (hS : Std w) :
    Calls Tryd.prog 3 #[.int .u16 has, .int .u16 ask] w fun e w' => e = .returned (.bool true) ∧ Grew w w' := by
  have CK := Lib.hid (bknown_ok w hS)
  have hub := Tryd.underlying27
  have huh := Tryd.underlying24
  have HSZ : ∀ f, Hid ((Tryd.prog.info? 27).map (·.size) = some (bkA f).size) := fun f => Lib.hid bk_info
  have HON : ∀ f, Hid ((bkA f).all (·.oneCell') = true) := fun f => Lib.hid (bkL_one f)
  have HLN : ∀ f, Hid ((Tryd.prog.info? 27).map (·.size) = some (bkA f).toList.length) := fun f => Lib.hid bk_info
  have HLH : ∀ f, Hid ((Tryd.prog.info? 24).map (·.size) = some (hasA f).toList.length) := fun f => Lib.hid (by kernel_rfl)
  have HF0 : Hid (fbF has 0 = has) := Lib.hid (by rw [fb_F has hh]; rfl)
  have HF1 : Hid (fbF has 1 = 5) := Lib.hid (by rw [fb_F has hh]; rfl)
  have HFN : Hid (fbF has 16 = 0) := Lib.hid (by rw [fb_F has hh]; rfl)
  have HFB := Lib.hid (fb_in has hh)
  have N1 : Hid (∀ (A : Option Addr) (c : Nat) (W : World), Rd W W.heap.size A [.int .i64 has, .int .i64 5] → Calls Tryd.prog 5 #[.slice A 2 c] W fun e w' => e = .returned (.tuple #[.agg (bkA (fbF has)), .int .i64 0]) ∧ Grew W w') := Lib.hid (fun A c W h => by
    have := new_ok A c [has, 5] (by simp) W h
    rw [fb_E has hh] at this
    exact this)
  have u1 : IntKind.i64.wrap has = has := IntWalk.i64_in _ (by omega)
  have u2 : IntKind.i64.wrap ask = ask := IntWalk.i64_in _ (by omega)
  have u3 : IntKind.i64.wrap (1 + ask) = 1 + ask := IntWalk.i64_in _ (by omega)
  clear hS
  go_enter Tryd.func3, Tryd.ntmps3
  go_wp2_with fail
  refine CK.out.mono ?_
  rintro e w0 ⟨rfl, G0⟩
  clear CK
  go_wp2_with fail
  refine (N1.out _ _ _ (rd_made w0 _ #[.int .i64 has, .int .i64 5])).mono ?_
  rintro e w1 ⟨rfl, gg⟩
  have G1 := grew_trans (grew_trans G0 (grew_alloc (grew_refl w0) _)) gg
  clear gg G0 N1
  generalize fbF has = F at *
  obtain ⟨v1, hv1, th1, gs1, z1⟩ := put_bk w1 F
  have HV1 := Lib.hid hv1
  have TH1 := Lib.hid th1
  clear hv1 th1
  have hml : v1.rangeAt w1.heap.size 0 (bkA F).toList := z1.cell
  have G2 := grew_trans G1 gs1
  go_wp2_with (first
    | (with_reducible refine wpList_store_mid rfl 27 (.tmp 5) (.tmp 16) rfl w1.heap.size 0 (bkA F) rfl rfl TH1.out (HSZ F).out (HON F).out ?_; rw [HV1.out])
    | (with_reducible refine wpList_load_mid rfl 27 (.tmp 5) rfl w1.heap.size 0 rfl (bkA F).toList _ hml hub rfl (HLN F).out ?_; simp only [Array.toArray_toList]))
  have g1v := z1
  clear HV1 TH1 hml gs1 G1 z1
  by_cases hf : has < 1 + ask
  · have CA : Hid (∀ W, Calls Tryd.prog 6 #[.agg (bkA F), .agg #[.int .i64 0, .int .i64 0, .int .i64 0, .int .i64 1, .int .i64 (1 + ask)]] W fun e w' => e = .returned (.tuple #[.agg (bkA (updF F 16 (F 16 + 1))), .int .i64 17]) ∧ Grew W w') := Lib.hid (fun W =>
      apply_funds F 0 0 1 0 (1 + ask) (by unfold okC; dsimp only; omega) HFN.out.symm (by rw [HF0.out]; exact hf) (fun k hk => by have := HFB.out k; omega) W)
    have t1 : decide (has < 1 + ask) = true := decide_eq_true hf
    refine (CA.out v1).mono ?_
    rintro e w2 ⟨rfl, gg⟩
    have y1 := g1v.grew gg
    have G3 := grew_trans G2 gg
    have HH : Hid (hasA (updF F 16 (F 16 + 1)) = hasA F) := Lib.hid (hasA_upd F _)
    have HN : Hid (updF F 16 (F 16 + 1) 16 = 1) := Lib.hid (by simp [updF, HFN.out])
    clear CA gg G2 g1v
    generalize updF F 16 (F 16 + 1) = F2 at *
    obtain ⟨v2, hv2, th2, gs2, z2⟩ := put_bk w2 F2
    have HV2 := Lib.hid hv2
    have TH2 := Lib.hid th2
    clear hv2 th2
    have G4 := grew_trans G3 gs2
    have x1 := y1.grew gs2
    clear gs2 y1
    have hm1 : v2.rangeAt w1.heap.size 0 (hasA F).toList := has_sub x1
    have hm2 : v2.rangeAt w2.heap.size 0 (hasA F).toList := by rw [← HH.out]; exact has_sub z2
    have cn : v2.cell? ⟨w2.heap.size, 16, none⟩ = some (.int .i64 1) := by rw [← HN.out]; exact bk_at z2 16 (by omega)
    have Q : ∀ W, (Op.equalIn 10000 24 (.agg (hasA F)) (.agg (hasA F))).run Tryd.prog W = .ok true W := fun W => has_eq F W 9998
    have HL := (HLH F)
    clear HH HN HF0 HF1 HFN HFB x1 z2 G3 HLN HLH huh
    generalize hasA F = h1 at *
    have huh := Tryd.underlying24
    go_wp2_with (first
      | (with_reducible refine wpList_store_mid rfl 27 (.tmp 7) (.tmp 25) rfl w2.heap.size 0 (bkA F2) rfl rfl TH2.out (HSZ F2).out (HON F2).out ?_; rw [HV2.out])
      | (refine wpList_load_mid_want (by rfl) 24 (.tmp 44) rfl w2.heap.size 0 rfl h1.toList _ hm2 huh rfl HL.out ?_; simp only [Array.toArray_toList])
      | (refine wpList_load_mid_want (by rfl) 24 (.tmp 46) rfl w1.heap.size 0 rfl h1.toList _ hm1 huh rfl HL.out ?_; simp only [Array.toArray_toList]))
    go_ret
    exact ⟨rfl, G4⟩
  · have CA : Hid (∀ W, Calls Tryd.prog 6 #[.agg (bkA F), .agg #[.int .i64 0, .int .i64 0, .int .i64 0, .int .i64 1, .int .i64 (1 + ask)]] W fun e w' => e = .returned (.tuple #[.agg (bkA (updF (updF (updF F 16 (F 16 + 1)) 0 (F 0 - (1 + ask))) 1 (F 1 + (1 + ask)))), .int .i64 0]) ∧ Grew W w') := Lib.hid (fun W =>
      apply_ok F 0 0 1 0 (1 + ask) (by unfold okC; dsimp only; omega) HFN.out.symm (by rw [HF0.out]; exact hf) (fun k hk => by have := HFB.out k; omega) W)
    have t1 : decide (has < 1 + ask) = false := decide_eq_false hf
    refine (CA.out v1).mono ?_
    rintro e w2 ⟨rfl, gg⟩
    have G3 := grew_trans G2 gg
    have H0 : Hid (updF (updF (updF F 16 (F 16 + 1)) 0 (F 0 - (1 + ask))) 1 (F 1 + (1 + ask)) 0 = has - (1 + ask)) := Lib.hid (by simp [updF, HF0.out])
    have H1 : Hid (updF (updF (updF F 16 (F 16 + 1)) 0 (F 0 - (1 + ask))) 1 (F 1 + (1 + ask)) 1 = 6 + ask) := Lib.hid (by simp [updF, HF1.out]; omega)
    have HN : Hid (updF (updF (updF F 16 (F 16 + 1)) 0 (F 0 - (1 + ask))) 1 (F 1 + (1 + ask)) 16 = 1) := Lib.hid (by simp [updF, HFN.out])
    clear CA gg G2 g1v
    generalize updF (updF (updF F 16 (F 16 + 1)) 0 (F 0 - (1 + ask))) 1 (F 1 + (1 + ask)) = F2 at *
    obtain ⟨v2, hv2, th2, gs2, z2⟩ := put_bk w2 F2
    have HV2 := Lib.hid hv2
    have TH2 := Lib.hid th2
    clear hv2 th2
    have G4 := grew_trans G3 gs2
    clear gs2
    have c0 : v2.cell? ⟨w2.heap.size, 0, none⟩ = some (.int .i64 (has - (1 + ask))) := by rw [← H0.out]; exact bk_at z2 0 (by omega)
    have c1 : v2.cell? ⟨w2.heap.size, 1, none⟩ = some (.int .i64 (6 + ask)) := by rw [← H1.out]; exact bk_at z2 1 (by omega)
    have cn : v2.cell? ⟨w2.heap.size, 16, none⟩ = some (.int .i64 1) := by rw [← HN.out]; exact bk_at z2 16 (by omega)
    have u4 : IntKind.i64.wrap (has - 1) = has - 1 := IntWalk.i64_in _ (by omega)
    have u5 : IntKind.i64.wrap (has - 1 - ask) = has - 1 - ask := IntWalk.i64_in _ (by omega)
    have u6 : IntKind.i64.wrap (6 + ask) = 6 + ask := IntWalk.i64_in _ (by omega)
    have q1 : (has - (1 + ask) == has - 1 - ask) = true := by rw [beq_iff_eq]; omega
    have q2 : (6 + ask == 6 + ask) = true := by simp
    clear H0 H1 HN HF0 HF1 HFN HFB z2 G3 HLN HLH huh
    go_wp2_with (with_reducible refine wpList_store_mid rfl 27 (.tmp 7) (.tmp 25) rfl w2.heap.size 0 (bkA F2) rfl rfl TH2.out (HSZ F2).out (HON F2).out ?_; rw [HV2.out])
    go_ret
    exact ⟨rfl, G4⟩
end Go.Proofs.YtoehfbfnijedfaaDoor
