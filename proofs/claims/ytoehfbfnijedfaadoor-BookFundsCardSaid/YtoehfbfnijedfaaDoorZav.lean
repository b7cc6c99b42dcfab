/- book.fold, Total, Digest. -/
import Derived.Laws.MakeOwn
import Derived.Test.YtoehfbfnijedfaaDoorZas
import Derived.Test.YtoehfbfnijedfaaDoorZau
import Derived.Test.YtoehfbfnijedfaaDoorZae
import Derived.Test.YtoehfbfnijedfaaDoorZah
import Derived.Test.YtoehfbfnijedfaaDoorZai
namespace Go.Proofs.YtoehfbfnijedfaaDoor
set_option linter.unusedSimpArgs false
set_option linter.unusedVariables false
open Go.RowKit
set_option linter.unusedVariables false
set_option linter.unusedSimpArgs false
def hasL (f : Nat → Int) : List Int := (List.range 16).map f
def nxtL (f : Nat → Int) : List Int := (List.range 16).map fun k => f (16 + k)
theorem hasL_len (f : Nat → Int) : (hasL f).length = 16 := by simp [hasL]
theorem nxtL_len (f : Nat → Int) : (nxtL f).length = 16 := by simp [nxtL]
theorem has_rd {w : World} {b : Nat} {f : Nat → Int} (h : Ag w b (bkL f)) : Rd w w.heap.size (some ⟨b, 0, none⟩) (i64L (hasL f)) := fun k hk => by
  have hk' : k < 16 := by simpa [i64L, hasL_len] using hk
  refine ⟨_, rfl, h.lt, ?_⟩
  have e : (⟨b, 0, none⟩ : Addr).add k = ⟨b, k, none⟩ := by unfold Addr.add; split <;> simp_all
  rw [e, bk_at h k (by omega)]
  simp [i64L, hasL]
theorem nxt_rd {w : World} {b : Nat} {f : Nat → Int} (h : Ag w b (bkL f)) : Rd w w.heap.size (some ⟨b, 16, none⟩) (i64L (nxtL f)) := fun k hk => by
  have hk' : k < 16 := by simpa [i64L, nxtL_len] using hk
  refine ⟨_, rfl, h.lt, ?_⟩
  have e : (⟨b, 16, none⟩ : Addr).add k = ⟨b, 16 + k, none⟩ := by unfold Addr.add; split <;> simp_all
  rw [e, bk_at h (16 + k) (by omega)]
  simp [i64L, nxtL]
set_option maxRecDepth 100000 in
theorem addFn_at (a b : Int) (h : in64 (a + b)) (w : World) : Calls Tryd.prog 11 #[.int .i64 a, .int .i64 b] w fun e w' => e = .returned (.int .i64 (a + b)) ∧ Grew w w' := by
  have e1 : IntKind.i64.wrap (a + b) = a + b := IntWalk.i64_in _ h
  go_enter Tryd.func11, Tryd.ntmps11
  go_wp2_with fail
  go_ret
  exact ⟨rfl, grew_refl w⟩
set_option maxRecDepth 100000 in
theorem nextFn_at (n : Int) (h : in64 n) (w : World) (hs : Std w) : Calls Tryd.prog 13 #[.int .i64 n] w fun e w' => e = .returned (.int .i64 (id n)) ∧ Grew w w' := by
  clear hs
  go_enter Tryd.func13, Tryd.ntmps13
  go_wp2_with fail
  go_ret
  exact ⟨rfl, grew_refl w⟩
def sumI (l : List Int) : Int := l.foldl (· + ·) 0
theorem sumI_snoc (l : List Int) (x : Int) : sumI (l ++ [x]) = sumI l + x := by simp [sumI]
theorem sumI_le (l : List Int) (h : ∀ x ∈ l, 0 ≤ x ∧ x ≤ 4611686018427387) : ∀ k, k ≤ l.length → 0 ≤ sumI (l.take k) ∧ sumI (l.take k) ≤ k * 4611686018427387
  | 0, _ => by simp [sumI]
  | k + 1, hk => by
    have h1 := sumI_le l h k (by omega)
    rw [List.take_succ_eq_append_getElem (by omega : k < l.length), sumI_snoc]
    have h2 := h l[k] (List.getElem_mem (by omega))
    omega
set_option maxRecDepth 100000 in
set_option maxHeartbeats 1000000 in
theorem fold_ok (A : Option Addr) (c : Nat) (l : List Int) (hl : l.length ≤ 1000) (hp : ∀ x ∈ l, 0 ≤ x ∧ x ≤ 4611686018427387) (w : World) (hr : Rd w w.heap.size A (i64L l)) :
    Calls Tryd.prog 10 #[.slice A l.length c, .int .i64 0, .func (.func 11) #[] #[]] w fun e w' => e = .returned (.int .i64 (sumI l)) ∧ Grew w w' := by
  have HR := Lib.hid (fun (wr : World) (g : Grew w wr) => hr.gr g)
  have HP := Lib.hid hp
  clear hr hp
  go_enter Tryd.func10, Tryd.ntmps10
  go_wp2_with fail
  go_loopw [1, 8, 11] (fun sv _ iv wr => ∃ k : Nat, k ≤ l.length ∧ iv = .int .i64 k ∧ sv = .int .i64 (sumI (l.take k)) ∧ Grew w wr) (fun _ _ iv _ => l.length - (intOf iv).toNat)
  case atStart => exact ⟨0, Nat.zero_le _, rfl, by simp [sumI], grew_refl w⟩
  case round =>
    obtain ⟨k, hk, rfl, rfl, g⟩ := hrel
    by_cases hlt : k < l.length
    · obtain ⟨ad, hA, hbl, hc0⟩ := rd_i64 (HR.out wr g) k hlt
      subst hA
      have hk0 : (0 : Int) ≤ (k : Int) := by omega
      have hk1 : (k : Int) < (l.length : Int) := by omega
      have hs0 := sumI_le l HP.out k (by omega)
      have hs1 := sumI_le l HP.out (k + 1) (by omega)
      have ht : sumI (l.take (k + 1)) = sumI (l.take k) + l[k] := by rw [List.take_succ_eq_append_getElem hlt, sumI_snoc]
      rw [ht] at hs1
      have HT := Lib.hid ht
      have CC := Lib.hid (addFn_at (sumI (l.take k)) l[k] ⟨by omega, by omega⟩ wr)
      have HK := Lib.hid hlt
      generalize sumI (l.take k) = s at *
      generalize l[k] = x at *
      clear ht hs0 hs1 hlt hk
      go_wp2_with (go_at_call 11; refine (CC.out).mono ?_; rintro e w3 ⟨rfl, hg3⟩)
      go_roundw
      case rel => exact ⟨k + 1, by have := HK.out; omega, by go_num, by rw [HT.out], grew_trans g hg3⟩
      case measure => have := HK.out; simp [intOf]; omega
    · obtain rfl : k = l.length := by omega
      rw [List.take_length]
      go_wp2_with fail
      go_ret
      exact ⟨rfl, g⟩
set_option maxRecDepth 100000 in
theorem total_ok (f : Nat → Int) (hp : ∀ k, k < 32 → 0 ≤ f k ∧ f k ≤ 4611686018427387) (w : World) :
    Calls Tryd.prog 7 #[.agg (bkA f)] w fun e w' => e = .returned (.int .i64 (sumI (hasL f))) ∧ Grew w w' := by
  have z0 : Ag (w.alloc (.cells (bkA f) 27)) w.heap.size (bkL f) := Ag.new w 27 (bkA f)
  have g0 := grew_alloc (grew_refl w) (.cells (bkA f) 27)
  have CF := Lib.hid (fold_ok (some ⟨w.heap.size, 0, none⟩) 16 (hasL f) (by rw [hasL_len]; omega) (fun x hx => by
    simp only [hasL, List.mem_map, List.mem_range] at hx
    obtain ⟨k, hk, rfl⟩ := hx
    exact hp k (by omega)) _ (has_rd z0))
  rw [hasL_len] at CF
  clear z0 hp
  go_enter Tryd.func7, Tryd.ntmps7
  go_wp2_with fail
  refine (CF.out).mono ?_
  rintro e w1 ⟨rfl, gg⟩
  go_wp2_with fail
  go_ret
  exact ⟨rfl, grew_trans g0 gg⟩
set_option maxRecDepth 100000 in
set_option maxHeartbeats 1000000 in
theorem mapNext_ok (A : Option Addr) (c : Nat) (l : List Int) (hl : l.length ≤ 1048576) (hp : ∀ x ∈ l, in64 x) (w : World) (hs : Std w) (hr : Rd w w.heap.size A (i64L l)) :
    Calls Tryd.prog 12 #[.slice A l.length c, .func (.func 13) #[] #[]] w fun e w' => ∃ v, e = .returned v ∧ w'.ownsRow w.heap.size 2 1 v l.length ((l.map id).map (Value.int .i64)) ∧ Grew w w' := by
  obtain ⟨i0, hi, hz0, hz1, hz2⟩ := info_parts (show (Tryd.prog.info? 2).map (fun i => (i.zero, i.size, i.bytes)) = some (some (.int .i64 0), 1, 8) by kernel_rfl)
  have HPP := Lib.hid hp
  clear hp
  obtain ⟨w1, hmk, hown1, hgrow1⟩ := run_make_own (P := Tryd.prog) w w.heap.size 31 2 i0 (.int .i64 0) 1 Tryd.underlying31 hi hz0 hz1 .i64 .i64 l.length (by rw [hz2]; omega) (by unfold maxLen; omega) (Nat.le_refl _)
  have hg1 : Grew w w1 := (Below.refl _ w).grown hgrow1 (Nat.le_refl _) (fun j hj => by cases hj)
  clear hgrow1
  go_enter Tryd.func12, Tryd.ntmps12
  go_wp2_with fail
  clear hmk
  go_loopw [5, 7, 13] (fun rv xv iv wr => ∃ k : Nat, k ≤ l.length ∧ iv = .int .i64 k ∧ wr.ownsRow w.heap.size 2 1 rv k (((l.take k).map id).map (Value.int .i64)) ∧ Grew w wr) (fun _ _ iv _ => l.length - (intOf iv).toNat)
  case atStart => exact ⟨0, Nat.zero_le _, rfl, by simpa using hown1, hg1⟩
  case round =>
    obtain ⟨k, hk, rfl, hown, hg⟩ := hrel
    by_cases hlt : k < l.length
    · obtain ⟨ad, rfl, hbl, hc0⟩ := rd_i64 (hr.below hg) k hlt
      have hk0 : (0 : Int) ≤ (k : Int) := by omega
      have hk1 : (k : Int) < (l.length : Int) := by omega
      have e1 : IntKind.i64.wrap ((k : Int) + 1) = ((k + 1 : Nat) : Int) := by rw [IntWalk.i64_in _ (by omega)]; omega
      have HK := Lib.hid hlt
      have HT : Hid (((l.take (k + 1)).map id).map (Value.int .i64) = ((l.take k).map id).map (Value.int .i64) ++ [(Value.int .i64) (id l[k])]) := Lib.hid (by rw [List.take_succ_eq_append_getElem hlt, List.map_append, List.map_append]; rfl)
      have hpx := HPP.out l[k] (List.getElem_mem hlt)
      have cC := nextFn_at l[k] hpx wr (hs.grew hg)
      generalize l[k] = x at *
      have CC := Lib.hid cC
      have HPX := Lib.hid hpx
      clear cC hpx
      go_wp2_with (first
        | (go_at_call 13; refine (CC.out).mono ?_; rintro e w3 ⟨rfl, hg3⟩; have hown3 := ownsRow_kp (S := fun _ => False) hown (kp_grew hg3) (fun g _ h => h); have hgg := grew_trans hg hg3; have hz3 := hgg.size)
        | (at_builtin; refine wpList_append_rd rfl (.tmp 17) (.tmp 21) 31 rfl w.heap.size 2 i0 (.int .i64 0) 8 Tryd.underlying31 hi hz0 hz1 hz2 rfl _ k _ rfl (hown3.alloc _) (w3.heap.size + 1) (some ⟨w3.heap.size, 0, none⟩) 1 1 [(Value.int .i64) (id x)] rfl rfl (rd_new w3 2 #[(Value.int .i64) (id x)] (0, 0)) (one_cell rfl) (by unfold maxLen; omega) (by omega) (by simp; omega) ?_; intro v6 w6 hown6 hgrow6 _; have hg6 := grew_put hgg hgrow6 (own_base hown3)))
      go_roundw
      case rel => exact ⟨k + 1, by have := HK.out; omega, by go_num, by rw [HT.out]; exact hown6, hg6⟩
      case measure => have h9 := HK.out; simp [intOf]; omega
    · obtain rfl : k = l.length := by omega
      rw [List.take_length] at hown
      go_wp2_with fail
      go_ret
      exact ⟨_, rfl, hown, hg⟩
def tagBook : List UInt8 := [98, 111, 111, 107]
def bkT (f : Nat → Int) : List UInt8 := joinF [nums (hasL f), nums (nxtL f)]
noncomputable def bkD (f : Nat → Int) : Nat := sumL tagBook (bkT f)
theorem bkT_len (f : Nat → Int) (hp : ∀ k, k < 32 → in64 (f k)) : (bkT f).length ≤ 10000 := by
  have h1 := nums_len (hasL f) (fun x hx => by
    simp only [hasL, List.mem_map, List.mem_range] at hx
    obtain ⟨k, hk, rfl⟩ := hx
    exact hp k (by omega))
  have h2 := nums_len (nxtL f) (fun x hx => by
    simp only [nxtL, List.mem_map, List.mem_range] at hx
    obtain ⟨k, hk, rfl⟩ := hx
    exact hp (16 + k) (by omega))
  rw [hasL_len] at h1
  rw [nxtL_len] at h2
  have f1 := fld_len (nums (hasL f))
  have f2 := fld_len (nums (nxtL f))
  unfold bkT
  simp only [joinF, List.flatMap_cons, List.flatMap_nil, List.length_append, List.length_cons, List.length_nil]
  omega
set_option maxRecDepth 100000 in
set_option maxHeartbeats 1000000 in
theorem digest_ok (f : Nat → Int) (hp : ∀ k, k < 32 → in64 (f k)) (w : World) (hS : Std w) :
    Calls Tryd.prog 8 #[.agg (bkA f)] w fun e w' => e = .returned (.int .u64 (bkD f : Nat)) ∧ Grew w w' := by
  have z0 : Ag (w.alloc (.cells (bkA f) 27)) w.heap.size (bkL f) := Ag.new w 27 (bkA f)
  have g0 := grew_alloc (grew_refl w) (.cells (bkA f) 27)
  have HS := Lib.hid hS
  have hph : ∀ x ∈ hasL f, in64 x := fun x hx => by
    simp only [hasL, List.mem_map, List.mem_range] at hx
    obtain ⟨k, hk, rfl⟩ := hx
    exact hp k (by omega)
  have hpn : ∀ x ∈ nxtL f, in64 x := fun x hx => by
    simp only [nxtL, List.mem_map, List.mem_range] at hx
    obtain ⟨k, hk, rfl⟩ := hx
    exact hp (16 + k) (by omega)
  have hlen := bkT_len f hp
  have CM := Lib.hid (fun W hW hR => mapNext_ok (some ⟨w.heap.size, 16, none⟩) 16 (nxtL f) (by rw [nxtL_len]; omega) hpn W hW hR)
  have CH := Lib.hid (fun W hW hR => nums_ok (some ⟨w.heap.size, 0, none⟩) 16 (hasL f) (by rw [hasL_len]; omega) hph W hW hR)
  have CN := Lib.hid (fun A c W hW hR => nums_ok A c (nxtL f) (by rw [nxtL_len]; omega) hpn W hW hR)
  have CJ : Hid (∀ (A4 : Option Addr) (W : World), Rd W W.heap.size A4 (strL [⟨(nums (hasL f)).toArray⟩, ⟨(nums (nxtL f)).toArray⟩]) → Calls Tryd.prog 15 #[.slice A4 2 2] W fun e w' => e = .returned (.string ⟨(bkT f).toArray⟩) ∧ Grew W w') := Lib.hid (fun A4 W hR => by
    have := join_ok A4 2 [⟨(nums (hasL f)).toArray⟩, ⟨(nums (nxtL f)).toArray⟩] (by simp) (by simp only [bkT] at hlen; simp [bys] at hlen ⊢; omega) W hR
    simpa [bys, bkT] using this)
  have CO := Lib.hid (fun W => of_any ⟨#[98, 111, 111, 107]⟩ ⟨(bkT f).toArray⟩ (by decide) (by simp [ByteArray.size]; omega) W)
  have e1 : sumL (⟨#[98, 111, 111, 107]⟩ : ByteArray).data.toList (⟨(bkT f).toArray⟩ : ByteArray).data.toList = bkD f := by simp [bkD, tagBook]
  rw [e1] at CO
  rw [nxtL_len] at CM CN
  rw [hasL_len] at CH
  clear e1 hp hph hpn hlen hS
  generalize bkD f = d at *
  generalize (⟨(bkT f).toArray⟩ : ByteArray) = tj at *
  generalize (⟨(nums (hasL f)).toArray⟩ : ByteArray) = t0 at *
  generalize (⟨(nums (nxtL f)).toArray⟩ : ByteArray) = t1 at *
  go_enter Tryd.func8, Tryd.ntmps8
  go_wp2_with fail
  refine (CM.out _ (HS.out.grew g0) (nxt_rd z0)).mono ?_
  rintro e w1 ⟨v1, rfl, o1, gg⟩
  have z1 := z0.grew gg
  have g1 := grew_trans g0 gg
  rw [List.map_id] at o1
  obtain ⟨A1, c1, rfl, -, -, r1⟩ := own_rd o1
  clear CM z0 g0 gg o1
  go_wp2_with fail
  refine (CH.out _ (HS.out.grew g1) (has_rd z1)).mono ?_
  rintro e w2 ⟨rfl, gg⟩
  have g2 := grew_trans g1 gg
  have r2 := r1.gr gg
  clear CH z1 g1 gg r1
  go_wp2_with fail
  refine (CN.out _ _ _ (HS.out.grew g2) r2).mono ?_
  rintro e w3 ⟨rfl, gg⟩
  have g3 := grew_trans g2 gg
  clear CN g2 gg r2
  go_wp2_with fail
  refine (CJ.out _ _ (rd_made w3 _ #[.string t0, .string t1])).mono ?_
  rintro e w4 ⟨rfl, gg⟩
  have g4 := grew_trans (grew_alloc g3 _) gg
  clear g3 gg CJ
  go_wp2_with fail
  refine (CO.out w4).mono ?_
  rintro e w5 ⟨rfl, rfl⟩
  go_wp2_with fail
  go_ret
  exact ⟨rfl, g4⟩
end Go.Proofs.YtoehfbfnijedfaaDoor

namespace Go.Proofs.YtoehfbfnijedfaaDoor
set_option linter.unusedSimpArgs false
set_option linter.unusedVariables false
open Go.RowKit
set_option linter.unusedVariables false
set_option linter.unusedSimpArgs false
set_option maxRecDepth 100000 in
/-- '==' of an array of sixteen numbers and itself -/
theorem run_equalIn_arr16 {P : Program} (w : World) (d : Nat) (t e : TypeId) (i : TypeInfo) (cs : Array Value) (s : Nat → Int) (ht : P.underlying t = some (.array 16 e)) (he : P.underlying e = some (.int .i64)) (hi : P.info? e = some i) (h1 : i.size = 1)
    (hag : ∀ w, (isAgg e).run P w = .ok false w) (hc : ∀ k : Nat, k < 16 → cs[k]? = some (.int .i64 (s k))) : (Op.equalIn (d + 2) t (.agg cs) (.agg cs)).run P w = .ok true w := by
  have hs : (sizeOf e).run P w = .ok 1 w := by simp [sizeOf, typeInfo, hi, h1, go_sem]
  have key : ∀ k : Nat, k < 16 → (part e cs k).run P w = .ok (.int .i64 (s k)) w := by
    intro k hk
    have hck := hc k hk
    simp [part, hag, sizeOf, typeInfo, hi, h1, hck, go_sem]
  have keq : ∀ a b : Int, (Op.equalIn (d + 1) e (.int .i64 a) (.int .i64 b)).run P w = .ok (a == b) w := fun a b => run_equalIn_int (w := w) d e .i64 .i64 a b he
  unfold Op.equalIn
  simp only [Sem.run_bind, run_underlying ht, Result.andThen_ok, hs]
  have loop : ∀ (l : List Nat), (∀ k ∈ l, k < 16) → (forIn l ((none, ()) : Option Bool × Unit) fun i __s => do
            let __do_lift ← part e cs (i * 1)
            let __do_lift_1 ← part e cs (i * 1)
            let __do_lift ← Op.equalIn (d + 1) e __do_lift __do_lift_1
            if (!__do_lift) = true then pure (ForInStep.done (some false, ())) else pure (ForInStep.yield (none, ())) : Sem (Option Bool × Unit)).run P w = .ok (none, ()) w := by
    intro l
    induction l with
    | nil => intro _; simp
    | cons k l ih =>
      intro hk
      have h1 := key k (hk k List.mem_cons_self)
      have h2 := ih fun j hj => hk j (List.mem_cons_of_mem _ hj)
      rw [List.forIn_cons]
      simp only [Nat.mul_one] at h2 ⊢
      simp only [Sem.run_bind, h1, Result.andThen_ok, keq, beq_self_eq_true, Bool.not_true, Bool.false_eq_true, if_false, Sem.run_pure]
      exact h2
  simp only [Std.Legacy.Range.forIn_eq_forIn_range', Std.Legacy.Range.size]
  rw [loop _ (by intro k hk; simp [List.mem_range'] at hk; omega)]
  simp
theorem eq_stepA {P : Program} {W : World} {d : Nat} {xs ys : Array Value} {f : Field} {fs : List Field} {va vb : Value} (hn : (f.name ≠ "_") = True) (ha : (part f.type xs f.offset).run P W = .ok va W) (hb : (part f.type ys f.offset).run P W = .ok vb W) (he : (Op.equalIn (d + 1) f.type va vb).run P W = .ok true W) :
    (Op.eqFields (d + 1) xs ys (f :: fs)).run P W = (Op.eqFields (d + 1) xs ys fs).run P W := by
  rw [Op.eqFields, if_pos (of_eq_true hn)]
  simp only [Sem.run_bind, ha, hb, Result.andThen_ok, he]
  simp
def hasA (f : Nat → Int) : Array Value := #[.int .i64 (f 0), .int .i64 (f 1), .int .i64 (f 2), .int .i64 (f 3), .int .i64 (f 4), .int .i64 (f 5), .int .i64 (f 6), .int .i64 (f 7), .int .i64 (f 8), .int .i64 (f 9), .int .i64 (f 10), .int .i64 (f 11), .int .i64 (f 12), .int .i64 (f 13), .int .i64 (f 14), .int .i64 (f 15)]
def nxtA (f : Nat → Int) : Array Value := #[.int .i64 (f 16), .int .i64 (f 17), .int .i64 (f 18), .int .i64 (f 19), .int .i64 (f 20), .int .i64 (f 21), .int .i64 (f 22), .int .i64 (f 23), .int .i64 (f 24), .int .i64 (f 25), .int .i64 (f 26), .int .i64 (f 27), .int .i64 (f 28), .int .i64 (f 29), .int .i64 (f 30), .int .i64 (f 31)]
theorem has_eq (f : Nat → Int) (W : World) (d : Nat) : (Op.equalIn (d + 2) 24 (.agg (hasA f)) (.agg (hasA f))).run Tryd.prog W = .ok true W := by
  obtain ⟨i0, hi0, hiz0, hiz1, hiz2⟩ := info_parts (show (Tryd.prog.info? 2).map (fun i => (i.zero, i.size, i.bytes)) = some (some (.int .i64 0), 1, 8) by kernel_rfl)
  exact run_equalIn_arr16 W d 24 2 i0 _ f Tryd.underlying24 Tryd.underlying2 hi0 hiz1 (fun w => by kernel_rfl) (fun k hk => by
    have : (hasA f)[k]? = ((List.range 16).map fun k => Value.int .i64 (f k)).toArray[k]? := rfl
    rw [this]; simp [hk])
theorem nxt_eq (f : Nat → Int) (W : World) (d : Nat) : (Op.equalIn (d + 2) 25 (.agg (nxtA f)) (.agg (nxtA f))).run Tryd.prog W = .ok true W := by
  obtain ⟨i0, hi0, hiz0, hiz1, hiz2⟩ := info_parts (show (Tryd.prog.info? 3).map (fun i => (i.zero, i.size, i.bytes)) = some (some (.int .i64 0), 1, 8) by kernel_rfl)
  exact run_equalIn_arr16 W d 25 3 i0 _ (fun k => f (16 + k)) Tryd.underlying25 Tryd.underlying3 hi0 hiz1 (fun w => by kernel_rfl) (fun k hk => by
    have : (nxtA f)[k]? = ((List.range 16).map fun k => Value.int .i64 (f (16 + k))).toArray[k]? := rfl
    rw [this]; simp [hk])
set_option maxRecDepth 100000 in
theorem bk_eq (f : Nat → Int) (W : World) : (Op.equalIn 10000 27 (.agg (bkA f)) (.agg (bkA f))).run Tryd.prog W = .ok true W := by
  rw [run_equalIn_struct W 9999 27 _ _ (by kernel_rfl) (by kernel_rfl)]
  simp only [Program.fieldsOf, Tryd.underlying27]
  rw [eq_stepA (d := 9998) (va := .agg (hasA f)) (vb := .agg (hasA f)) (by simp) (by kernel_rfl) (by kernel_rfl) (has_eq f W 9997), eq_stepA (d := 9998) (va := .agg (nxtA f)) (vb := .agg (nxtA f)) (by simp) (by kernel_rfl) (by kernel_rfl) (nxt_eq f W 9997)]
  simp only [Op.eqFields, Sem.run_pure]
theorem put_bk (W : World) (f : Nat → Int) : ∃ W', (W.alloc (.cells (#[.int .i64 0, .int .i64 0, .int .i64 0, .int .i64 0, .int .i64 0, .int .i64 0, .int .i64 0, .int .i64 0, .int .i64 0, .int .i64 0, .int .i64 0, .int .i64 0, .int .i64 0, .int .i64 0, .int .i64 0, .int .i64 0, .int .i64 0, .int .i64 0, .int .i64 0, .int .i64 0, .int .i64 0, .int .i64 0, .int .i64 0, .int .i64 0, .int .i64 0, .int .i64 0, .int .i64 0, .int .i64 0, .int .i64 0, .int .i64 0, .int .i64 0, .int .i64 0]) 27)).setCells W.heap.size 0 (bkA f).toList = W' ∧ (W.alloc (.cells (#[.int .i64 0, .int .i64 0, .int .i64 0, .int .i64 0, .int .i64 0, .int .i64 0, .int .i64 0, .int .i64 0, .int .i64 0, .int .i64 0, .int .i64 0, .int .i64 0, .int .i64 0, .int .i64 0, .int .i64 0, .int .i64 0, .int .i64 0, .int .i64 0, .int .i64 0, .int .i64 0, .int .i64 0, .int .i64 0, .int .i64 0, .int .i64 0, .int .i64 0, .int .i64 0, .int .i64 0, .int .i64 0, .int .i64 0, .int .i64 0, .int .i64 0, .int .i64 0]) 27)).there W.heap.size 0 (bkA f).size ∧ Grew W W' ∧ Ag W' W.heap.size (bkL f) :=
  ⟨_, rfl, (Ag.new W 27 (#[.int .i64 0, .int .i64 0, .int .i64 0, .int .i64 0, .int .i64 0, .int .i64 0, .int .i64 0, .int .i64 0, .int .i64 0, .int .i64 0, .int .i64 0, .int .i64 0, .int .i64 0, .int .i64 0, .int .i64 0, .int .i64 0, .int .i64 0, .int .i64 0, .int .i64 0, .int .i64 0, .int .i64 0, .int .i64 0, .int .i64 0, .int .i64 0, .int .i64 0, .int .i64 0, .int .i64 0, .int .i64 0, .int .i64 0, .int .i64 0, .int .i64 0, .int .i64 0])).thereN 32 rfl, setCells_grew (o := 0) (b := W.heap.size) (bkA f).toList (grew_alloc (grew_refl W) _) (Nat.le_refl _), Ag.set (vs := (bkA f).toList) (Ag.new W 27 (#[.int .i64 0, .int .i64 0, .int .i64 0, .int .i64 0, .int .i64 0, .int .i64 0, .int .i64 0, .int .i64 0, .int .i64 0, .int .i64 0, .int .i64 0, .int .i64 0, .int .i64 0, .int .i64 0, .int .i64 0, .int .i64 0, .int .i64 0, .int .i64 0, .int .i64 0, .int .i64 0, .int .i64 0, .int .i64 0, .int .i64 0, .int .i64 0, .int .i64 0, .int .i64 0, .int .i64 0, .int .i64 0, .int .i64 0, .int .i64 0, .int .i64 0, .int .i64 0])) rfl⟩
def kb1 : Nat → Int := nwF [10, 20]
def kb2 : Nat → Int := updF (updF (updF kb1 (16 + 1) (kb1 (16 + 1) + 1)) 0 (kb1 0 - 4)) 1 (kb1 1 + 4)
def kb3 : Nat → Int := updF kb2 (16 + 1) (kb2 (16 + 1) + 1)
theorem kb1_in : ∀ k, k < 32 → 0 ≤ kb1 k ∧ kb1 k ≤ 100 := by decide
theorem kb2_in : ∀ k, k < 32 → 0 ≤ kb2 k ∧ kb2 k ≤ 100 := by decide
theorem kb3_in : ∀ k, k < 32 → 0 ≤ kb3 k ∧ kb3 k ≤ 100 := by decide
theorem kb_ne : bkD kb2 ≠ bkD kb3 := by unfold bkD; rw [sumL_C, sumL_C]; decide +kernel
theorem kb_sum : sumI (hasL kb3) = 30 := by decide
end Go.Proofs.YtoehfbfnijedfaaDoor
