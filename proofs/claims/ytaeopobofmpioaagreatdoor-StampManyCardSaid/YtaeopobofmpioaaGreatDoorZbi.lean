/- folkmootlaw11.Keys of four replicas. -/
import Derived.Test.YtaeopobofmpioaaGreatDoorZbh
import Derived.Test.YtaeopobofmpioaaGreatDoorZat
import Derived.Test.YtaeopobofmpioaaGreatDoorZbg
namespace Go.Proofs.YtaeopobofmpioaaGreatDoor
set_option linter.unusedSimpArgs false
set_option linter.unusedVariables false
open Go.RowKit
set_option linter.unusedVariables false
set_option linter.unusedSimpArgs false
/-- the seed of the i-th -/
def sdI (seed : Int) (i : Nat) : Int := (seed + (i : Int)) % 18446744073709551616
theorem sdI_u64 (seed : Int) (i : Nat) : U64 (sdI seed i) := by unfold sdI; exact ⟨by omega, by omega⟩
noncomputable def ksL (seed : Int) (h i : Nat) : List Nat := pubsL (sdI seed i) (2 ^ h)
noncomputable def rtL (seed : Int) (h n : Nat) : List Nat := (List.range n).map fun i => rootN (ksL seed h i)
def ptrL (p : Nat → Nat) (n : Nat) : List Value := (List.range n).map fun i => .pointer (some ⟨p i + 1, 0, none⟩)
theorem rtL_snoc (seed : Int) (h n : Nat) : rtL seed h (n + 1) = rtL seed h n ++ [rootN (ksL seed h n)] := by simp [rtL, List.range_succ]
theorem ptrL_snoc (p : Nat → Nat) (n : Nat) : ptrL p (n + 1) = ptrL p n ++ [.pointer (some ⟨p n + 1, 0, none⟩)] := by simp [ptrL, List.range_succ]
theorem ptrL_congr {p q : Nat → Nat} {n : Nat} (h : ∀ i, i < n → p i = q i) : ptrL p n = ptrL q n := by
  unfold ptrL
  apply List.map_congr_left
  intro i hi
  rw [h i (List.mem_range.1 hi)]
/-- the keys of n replicas, all leaves promised, the i-th behind block p i -/
structure KsAt (w : World) (B n : Nat) (p : Nat → Nat) (seed : Int) (h : Nat) : Prop where
  key : ∀ i, i < n → KyAt w (p i + 1) (p i) (i : Int) (sdI seed i) (ksL seed h i) 0 (2 ^ h)
  low : ∀ i, i < n → B ≤ p i
  apart : ∀ i j, i < n → j < n → i ≠ j → p i ≠ p j ∧ p i + 1 ≠ p j ∧ p i ≠ p j + 1
theorem KsAt.kp {S : Nat → Prop} {w w' : World} {B n : Nat} {p : Nat → Nat} {seed : Int} {h : Nat} (k : KsAt w B n p seed h) (t : Kp S w w') (hs : ∀ i, i < n → ¬ S (p i) ∧ ¬ S (p i + 1)) : KsAt w' B n p seed h :=
  ⟨fun i hi => (k.key i hi).kp t (hs i hi).2 (hs i hi).1, k.low, k.apart⟩
theorem KsAt.grew {w w' : World} {B n : Nat} {p : Nat → Nat} {seed : Int} {h : Nat} (k : KsAt w B n p seed h) (t : Grew w w') : KsAt w' B n p seed h := k.kp (S := fun _ => False) (kp_grew t) (fun i _ => ⟨fun h => h, fun h => h⟩)
/-- one more, made behind all -/
theorem KsAt.snoc {w : World} {B n : Nat} {p : Nat → Nat} {seed : Int} {h q : Nat} (k : KsAt w B n p seed h) (hq : KyAt w (q + 1) q (n : Int) (sdI seed n) (ksL seed h n) 0 (2 ^ h)) (hB : B ≤ q) (hlt : ∀ i, i < n → p i + 1 < q) :
    KsAt w B (n + 1) (fun i => if i = n then q else p i) seed h := by
  refine ⟨fun i hi => ?_, fun i hi => ?_, fun i j hi hj hij => ?_⟩
  · by_cases e : i = n
    · subst e; simpa using hq
    · simpa [e] using k.key i (by omega)
  · by_cases e : i = n
    · simpa [e] using hB
    · simpa [e] using k.low i (by omega)
  · by_cases e : i = n
    · have e2 : j ≠ n := fun h => hij (e.trans h.symm)
      have := hlt j (by omega)
      simp only [if_pos e, if_neg e2]
      omega
    · by_cases e2 : j = n
      · have := hlt i (by omega)
        simp only [if_pos e2, if_neg e]
        omega
      · simpa [e, e2] using k.apart i j (by omega) (by omega) hij
/-- an owned row lies apart from the keys and from another row -/
def Sep (v u : Value) (n : Nat) (p : Nat → Nat) : Prop := ∀ g, v.ownBlock = some g → u.ownBlock ≠ some g ∧ ∀ i, i < n → g ≠ p i ∧ g ≠ p i + 1
theorem results_ta {P : Program} {fn : Func} {p u : Tmp} {ty : TypeId} (h : fn.results = #[.tmp u, .cell p ty]) (tmps : Array Value) (w : World) (b : Nat) (cs : List Value) (d : TypeDesc) (v : Value)
    (hp : tmps.getD p undef = .pointer (some ⟨b, 0, none⟩)) (hv : tmps.getD u undef = v) (hz : Ag w b cs) (hu : P.underlying ty = some d) (hd : d.isRow = true) (hi : (P.info? ty).map (·.size) = some cs.length) :
    (results fn tmps).run P w = .ok (.tuple #[v, .agg cs.toArray]) w := by
  have hp' : tmps[p]?.getD undef = .pointer (some ⟨b, 0, none⟩) := by simpa using hp
  have hv' : tmps[u]?.getD undef = v := by simpa using hv
  simp [results, h, hp', hv', asAddr, run_loadVar_mid w b 0 ty cs d hz.cell hu hd hi]
structure OwnS (w : World) (B : Nat) (t : TypeId) (xs : List Value) (u : Value) (lo : Nat) (v : Value) : Prop where
  own : w.ownsRow B t 1 v xs.length xs
  blk : v.ownBlock = u.ownBlock ∨ ∃ s, v.ownBlock = some s ∧ lo ≤ s
theorem OwnS.gr {w w' : World} {B lo : Nat} {t : TypeId} {xs : List Value} {u v : Value} (h : OwnS w B t xs u lo v) (g : Grew w w') : OwnS w' B t xs u lo v := ⟨ownsRow_gr h.own g, h.blk⟩
theorem wrap_sd (seed : Int) (k : Nat) : IntKind.u64.wrap (seed + (k : Int)) = sdI seed k := by simp [IntKind.wrap, IntKind.bits, IntKind.signed, sdI]
set_option maxRecDepth 100000 in
set_option maxHeartbeats 600000 in
theorem keys_ok (seed : Int) (hsd : U64 seed) (h : Nat) (hh : h ≤ 4) (w : World) :
    Calls Tryz.prog 33 #[.int .i64 1, .int .u64 seed, .int .i64 (h : Int)] w fun e w' => ∃ LA Lc RA Rc p, e = .returned (.tuple #[.slice LA 4 Lc, .agg (kyS 1 RA 4 Rc (h : Int))]) ∧ KsAt w' w.heap.size 4 p seed h ∧ Rd w' w'.heap.size LA (ptrL p 4) ∧ Rd w' w'.heap.size RA (u64L (rtL seed h 4)) ∧
      (∀ ad, LA = some ad → ∀ i, i < 4 → ad.block ≠ p i ∧ ad.block ≠ p i + 1) ∧ (∀ ad, RA = some ad → ∀ i, i < 4 → ad.block ≠ p i ∧ ad.block ≠ p i + 1) ∧ Grew w w' := by
  have hkt := Tryz.underlying36
  have HSK : ∀ pv : Value, Hid ((Tryz.prog.info? 36).map (·.size) = some (#[Value.int .i64 1, pv, Value.int .i64 (h : Int)] : Array Value).size) := fun pv => Lib.hid (by kernel_rfl)
  have zr := (Ag.new w 36 #[.int .i64 0, .slice none 0 0, .int .i64 0]).grew (grew_alloc (grew_refl _) (.cells #[.int .i64 0, .slice none 0 0, .int .i64 0] 36))
  have zk : Ag ((w.alloc (.cells #[.int .i64 0, .slice none 0 0, .int .i64 0] 36)).alloc (.cells #[.int .i64 0, .slice none 0 0, .int .i64 0] 36)) (w.heap.size + 1) (#[.int .i64 0, .slice none 0 0, .int .i64 0] : Array Value).toList := by
    have := Ag.new (w.alloc (.cells #[.int .i64 0, .slice none 0 0, .int .i64 0] 36)) 36 #[.int .i64 0, .slice none 0 0, .int .i64 0]
    simpa using this
  have G0 := grew_alloc (grew_alloc (grew_refl w) (.cells #[.int .i64 0, .slice none 0 0, .int .i64 0] 36)) (.cells #[.int .i64 0, .slice none 0 0, .int .i64 0] 36)
  have hn : 2 ^ h ≤ 16 := by
    have : 2 ^ h ≤ 2 ^ 4 := Nat.pow_le_pow_right (by decide) hh
    simpa using this
  have hn1 : 1 ≤ 2 ^ h := Nat.one_le_two_pow
  have hlv0 : leavesOk (2 ^ h) = true := leaves_pow ⟨h, by omega⟩
  have e2 : wrap64 ((2 : Int) ^ h) = ((2 ^ h : Nat) : Int) := by
    have : ((2 : Int) ^ h) = ((2 ^ h : Nat) : Int) := by simp
    rw [this]
    generalize 2 ^ h = n at *
    unfold wrap64; omega
  have h0 : (0 : Int) ≤ (h : Int) := by omega
  have h5 : (h : Int) ≤ 8 := by omega
  have HKL : Hid (∀ i, (ksL seed h i).length = 2 ^ h) := Lib.hid (fun i => pubsL_length _ _)
  have HKB : Hid (∀ i, ∀ x ∈ ksL seed h i, x < 18446744073709551616) := Lib.hid (fun i => pubsL_lt _ _)
  have HLV := Lib.hid hlv0
  have CN := Lib.hid (fun (k : Nat) (hk : k < 4) W => knew_ok (k : Int) (sdI seed k) h (by omega) (by omega) (sdI_u64 seed k) W)
  clear hlv0
  have z1 := Ag.set (vs := (#[.int .i64 1, .slice none 0 0, .int .i64 (h : Int)] : Array Value).toList) zk rfl
  have HTH : Hid (((w.alloc (.cells #[.int .i64 0, .slice none 0 0, .int .i64 0] 36)).alloc (.cells #[.int .i64 0, .slice none 0 0, .int .i64 0] 36)).there (w.heap.size + 1) 0 (#[.int .i64 1, .slice none 0 0, .int .i64 (h : Int)] : Array Value).size) := Lib.hid (zk.thereN 3 rfl)
  have HON : Hid ((#[.int .i64 1, .slice none 0 0, .int .i64 (h : Int)] : Array Value).all (·.oneCell') = true) := Lib.hid (by simp [Value.oneCell'])
  have zr1 := zr.other (b' := w.heap.size + 1) (o := 0) (vs := (#[.int .i64 1, .slice none 0 0, .int .i64 (h : Int)] : Array Value).toList) (by omega)
  have G1 := setCells_grew (o := 0) (b := w.heap.size + 1) (#[.int .i64 1, .slice none 0 0, .int .i64 (h : Int)] : Array Value).toList G0 (by omega)
  have hs1 : w.heap.size + 2 ≤ (((w.alloc (.cells #[.int .i64 0, .slice none 0 0, .int .i64 0] 36)).alloc (.cells #[.int .i64 0, .slice none 0 0, .int .i64 0] 36)).setCells (w.heap.size + 1) 0 (#[.int .i64 1, .slice none 0 0, .int .i64 (h : Int)] : Array Value).toList).heap.size := by
    have := setCells_size ((w.alloc (.cells #[.int .i64 0, .slice none 0 0, .int .i64 0] 36)).alloc (.cells #[.int .i64 0, .slice none 0 0, .int .i64 0] 36)) (w.heap.size + 1) 0 (#[.int .i64 1, .slice none 0 0, .int .i64 (h : Int)] : Array Value).toList
    simp at this ⊢
    omega
  clear zr zk G0
  obtain ⟨w1, hw1⟩ : ∃ v, ((w.alloc (.cells #[.int .i64 0, .slice none 0 0, .int .i64 0] 36)).alloc (.cells #[.int .i64 0, .slice none 0 0, .int .i64 0] 36)).setCells (w.heap.size + 1) 0 (#[.int .i64 1, .slice none 0 0, .int .i64 (h : Int)] : Array Value).toList = v := ⟨_, rfl⟩
  rw [hw1] at z1 zr1 G1 hs1
  have HW1 := Lib.hid hw1
  clear hw1
  go_enter Tryz.func33, Tryz.ntmps33
  go_wp2_with (with_reducible refine wpList_store_mid rfl 36 (.tmp 8) (.tmp 16) rfl (w.heap.size + 1) 0 (#[.int .i64 1, .slice none 0 0, .int .i64 (h : Int)]) rfl rfl HTH.out (HSK _).out HON.out ?_; rw [HW1.out]; clear HW1 HTH)
  clear hsd
  obtain ⟨w0, hw0⟩ : ∃ n, w.heap.size = n := ⟨_, rfl⟩
  rw [hw0] at z1 zr1 hs1 ⊢
  have HW0 := Lib.hid hw0
  clear hw0
  go_loopw [9, 10] (fun lv iv wr => ∃ (k : Nat) (p : Nat → Nat) (pv lw : Value), lw = lv ∧ k ≤ 4 ∧ iv = .int .i64 k ∧ Ag wr (w0 + 1) [.int .i64 1, pv, .int .i64 (h : Int)] ∧ Ag wr w0 (#[.int .i64 0, .slice none 0 0, .int .i64 0] : Array Value).toList ∧ KsAt wr (w0 + 2) k p seed h ∧ wr.ownsRow (w0 + 2) 70 1 lv k (ptrL p k) ∧ wr.ownsRow (w0 + 2) 38 1 pv k (u64L (rtL seed h k)) ∧ Sep lv pv k p ∧ Sep pv lv k p ∧ Grew w wr ∧ w0 + 2 ≤ wr.heap.size) (fun _ iv _ => 4 - (intOf iv).toNat)
  case atStart => exact ⟨0, fun _ => 0, .slice none 0 0, _, rfl, Nat.zero_le _, rfl, z1, zr1, ⟨fun i hi => absurd hi (by omega), fun i hi => absurd hi (by omega), fun i j hi => absurd hi (by omega)⟩, World.ownsRow_nil _ _ _ _, World.ownsRow_nil _ _ _ _, fun g e => (by cases e), fun g e => (by cases e), G1, hs1⟩
  case round =>
    clear z1 zr1 G1 hs1
    obtain ⟨k, p, pv, lv, hlv, hk, rfl, zk, zr, KS, OL, OP, SL, SP, G, hs⟩ := hrel
    subst hlv
    by_cases hlt : k < 4
    · have hk0 : (0 : Int) ≤ (k : Int) := by omega
      have hk1 : (k : Int) < 4 := by omega
      have cn := CN.out k hlt wr
      have HK := Lib.hid hlt
      clear hlt
      obtain ⟨i0, hi, hz0, hz1, hz2⟩ := info_parts (show (Tryz.prog.info? 70).map (fun i => (i.zero, i.size, i.bytes)) = some (some (.pointer none), 1, 8) by kernel_rfl)
      obtain ⟨i1, hj, hy0, hy1, hy2⟩ := info_parts infoD
      obtain ⟨q, hq⟩ : ∃ q, wr.heap.size = q := ⟨_, rfl⟩
      rw [hq] at cn hs
      have OLT := Lib.hid (fun g e => hq ▸ (ownsRow_lt OL g e).2)
      have OPT := Lib.hid (fun g e => hq ▸ (ownsRow_lt OP g e).2)
      have OLB := Lib.hid (own_base OL)
      have OPB := Lib.hid (own_base OP)
      have KLT : Hid (∀ i, i < k → p i + 1 < q) := Lib.hid (fun i hi => hq ▸ (KS.key i hi).key.lt)
      clear hq
      go_wp2_with fail
      rw [wrap_sd]
      refine cn.mono ?_
      rintro e v2 ⟨rfl, gg, K2⟩
      clear cn
      have zk2 := zk.grew gg
      have zr2 := zr.grew gg
      have KS2 := KS.grew gg
      have OL2 := ownsRow_gr OL gg
      have OP2 := ownsRow_gr OP gg
      have G2 := grew_trans G gg
      have hs2 : q + 2 ≤ v2.heap.size := by have := K2.key.lt; omega
      clear zk zr KS OL OP G gg
      go_wp2_with fail
      rw [e2]
      refine (reserve_ok (q + 1) q (k : Int) (sdI seed k) (ksL seed h k) 0 0 (by rw [HKL.out]; omega) (by omega) (by omega) (2 ^ h) hn1 (by rw [HKL.out]; omega) v2 K2).mono ?_
      rw [Nat.zero_add]
      rintro e v3 ⟨rfl, tt, K3⟩
      have T3 := kp_tn tt
      have zk3 := zk2.kp T3 (show ¬ w0 + 1 = q + 1 by omega)
      have zr3 := zr2.kp T3 (show ¬ w0 = q + 1 by omega)
      have KS3 := KS2.kp T3 (fun i hi => ⟨by have := KLT.out i hi; show ¬ p i = q + 1; omega, by have := KLT.out i hi; show ¬ p i + 1 = q + 1; omega⟩)
      have OL3 := ownsRow_kp OL2 T3 (fun g e h => by have := OLT.out g e; have h : g = q + 1 := h; omega)
      have OP3 := ownsRow_kp OP2 T3 (fun g e h => by have := OPT.out g e; have h : g = q + 1 := h; omega)
      have G3 := grew_tn G2 tt (by have := HW0.out; omega)
      have hs3 : q + 2 ≤ v3.heap.size := Nat.le_trans hs2 T3.size
      have KS4 := KS3.snoc K3 (by omega) (fun i hi => KLT.out i hi)
      clear zk2 zr2 KS2 OL2 OP2 G2 hs2 K2 tt T3 KS3 K3
      have HPL : Hid (ptrL (fun i => if i = k then q else p i) (k + 1) = ptrL p k ++ [Value.pointer (some ⟨q + 1, 0, none⟩)]) := Lib.hid (by
        rw [ptrL_snoc, ptrL_congr (q := p) (fun i hi => by simp [Nat.ne_of_lt hi])]
        simp)
      go_wp2_with (at_builtin; refine wpList_append_rd rfl (.tmp 46) (.tmp 48) 66 rfl (w0 + 2) 70 i0 (.pointer none) 8 Tryz.underlying66 hi hz0 hz1 hz2 rfl lv k _ rfl (OL3.alloc _) (v3.heap.size + 1) (some ⟨v3.heap.size, 0, none⟩) 1 1 [Value.pointer (some ⟨q + 1, 0, none⟩)] rfl rfl (rd_new v3 70 #[Value.pointer (some ⟨q + 1, 0, none⟩)] (0, 0)) (one_cell rfl) (by unfold maxLen; omega) (by omega) (by simp; omega) ?_; intro lv6 w6 hown6 hgrow6 hor6)
      have T6 : Kp (fun i => some i = lv.ownBlock) v3 w6 := kp_grown (kp_alloc (kp_refl _ v3) _) hgrow6 (fun g h => .inl h.symm)
      obtain ⟨n6, hn6⟩ : ∃ n, v3.heap.size + 1 = n := ⟨_, rfl⟩
      rw [alloc_size, hn6] at hor6
      have hp6 : ∀ i, i < k + 1 → (if i = k then q else p i) + 1 < v3.heap.size := fun i hi => by
        by_cases e : i = k
        · rw [if_pos e]; omega
        · rw [if_neg e]; have := KLT.out i (by omega); omega
      have hL6 : ∀ g, some g = lv.ownBlock → w0 + 2 ≤ g ∧ g < q ∧ pv.ownBlock ≠ some g ∧ ∀ i, i < k → g ≠ p i ∧ g ≠ p i + 1 := fun g e => ⟨OLB.out g e.symm, OLT.out g e.symm, (SL g e.symm).1, (SL g e.symm).2⟩
      have hP6 : ∀ g, some g = pv.ownBlock → w0 + 2 ≤ g ∧ g < q ∧ lv.ownBlock ≠ some g ∧ ∀ i, i < k → g ≠ p i ∧ g ≠ p i + 1 := fun g e => ⟨OPB.out g e.symm, OPT.out g e.symm, (SP g e.symm).1, (SP g e.symm).2⟩
      have zk6 := zk3.kp T6 (fun e => by have := hL6 _ e; omega)
      have zr6 := zr3.kp T6 (fun e => by have := hL6 _ e; omega)
      have KS6 := KS4.kp T6 (fun i hi => by
        refine ⟨fun e => ?_, fun e => ?_⟩ <;> (have h1 := hL6 _ e; by_cases hik : i = k)
        · simp only [if_pos hik] at h1; omega
        · simp only [if_neg hik] at h1; exact (h1.2.2.2 i (by omega)).1 rfl
        · simp only [if_pos hik] at h1; omega
        · simp only [if_neg hik] at h1; exact (h1.2.2.2 i (by omega)).2 rfl)
      have OP6 := ownsRow_kp OP3 T6 (fun g e h => (hL6 g h).2.2.1 e)
      have G6 : Grew w w6 := below_kp G3 T6 G3.size (fun i e => by have := (hL6 i e).1; have := HW0.out; omega)
      have hs6 : v3.heap.size + 1 ≤ w6.heap.size := by have := hgrow6.size; rw [alloc_size] at this; exact this
      have hlv6 : ∀ g, lv6.ownBlock = some g → g < w6.heap.size := fun g e => (ownsRow_lt hown6 g e).2
      obtain ⟨rt, hrt⟩ : ∃ r, rootN (ksL seed h k) = r := ⟨_, rfl⟩
      have HT : Hid ((u64L (rtL seed h (k + 1))).length = k + 1 ∧ u64L (rtL seed h (k + 1)) = u64L (rtL seed h k) ++ [Value.int .u64 (rt : Nat)]) := Lib.hid ⟨by simp [u64L, rtL], by rw [rtL_snoc, hrt]; simp [u64L]⟩
      have HRT := Lib.hid hrt
      have HSW : Hid (∀ i, some i = pv.ownBlock → i < w6.heap.size) := Lib.hid (fun i e => by have := (hP6 i e).2.1; omega)
      have HW6 : Hid (w0 + 2 ≤ w6.heap.size) := Lib.hid (by omega)
      have HZK : Hid (∀ y, Kp (fun i => some i = pv.ownBlock) w6 y → Ag y (w0 + 1) [.int .i64 1, pv, .int .i64 (h : Int)]) := Lib.hid (fun y g => zk6.kp g (fun e => by have := hP6 _ e; omega))
      have HC : Hid (∀ y, Kp (fun i => some i = pv.ownBlock) w6 y → y.cell? ⟨w0 + 1, 1, none⟩ = some pv) := Lib.hid (fun y g => by simpa using (HZK.out y g).cell 1 _ rfl)
      have HKA : Hid (∀ y, Kp (fun i => some i = pv.ownBlock) w6 y → KsAt y (w0 + 2) (k + 1) (fun i => if i = k then q else p i) seed h) := Lib.hid (fun y g => KS6.kp g (fun i hi => by
        refine ⟨fun e => ?_, fun e => ?_⟩ <;> (have h1 := hP6 _ e; by_cases hik : i = k)
        · simp only [if_pos hik] at h1; omega
        · simp only [if_neg hik] at h1; exact (h1.2.2.2 i (by omega)).1 rfl
        · simp only [if_pos hik] at h1; omega
        · simp only [if_neg hik] at h1; exact (h1.2.2.2 i (by omega)).2 rfl))
      have HKK : Hid (∀ y, Kp (fun i => some i = pv.ownBlock) w6 y → KyAt y (q + 1) q (k : Int) (sdI seed k) (ksL seed h k) 0 (2 ^ h)) := Lib.hid (fun y g => by
        have := (HKA.out y g).key k (by omega)
        simpa using this)
      have HZR : Hid (∀ y, Kp (fun i => some i = pv.ownBlock) w6 y → Ag y w0 (#[.int .i64 0, .slice none 0 0, .int .i64 0] : Array Value).toList) := Lib.hid (fun y g => zr6.kp g (fun e => by have := hP6 _ e; omega))
      have HOL : Hid (∀ y, Kp (fun i => some i = pv.ownBlock) w6 y → y.ownsRow (w0 + 2) 70 1 lv6 (k + 1) (ptrL (fun i => if i = k then q else p i) (k + 1))) := Lib.hid (fun y g => by
        rw [HPL.out]
        refine ownsRow_kp hown6 g (fun j e e2 => ?_)
        have h1 := hP6 j e2
        rcases hor6 with h2 | h2
        · exact h1.2.2.1 (h2.symm.trans e)
        · rw [h2] at e; cases e; omega)
      have HGG : Hid (∀ y, Kp (fun i => some i = pv.ownBlock) w6 y → Grew w y) := Lib.hid (fun y g => below_kp G6 g G6.size (fun i e => by have := (hP6 i e).1; have := HW0.out; omega))
      have HOP := Lib.hid OP6
      have HSEP : Hid (∀ (pv7 : Value), (pv7.ownBlock = pv.ownBlock ∨ ∃ s, pv7.ownBlock = some s ∧ w6.heap.size ≤ s) → Sep lv6 pv7 (k + 1) (fun i => if i = k then q else p i) ∧ Sep pv7 lv6 (k + 1) (fun i => if i = k then q else p i)) := Lib.hid (fun pv7 hb => by
        have hlo : ∀ g, g < q → ∀ i, (i < k → g ≠ p i ∧ g ≠ p i + 1) → i < k + 1 → g ≠ (if i = k then q else p i) ∧ g ≠ (if i = k then q else p i) + 1 := fun g hg i hh hi => by
          by_cases e : i = k
          · simp only [if_pos e]; omega
          · simp only [if_neg e]; exact hh (by omega)
        have hhi : ∀ g, v3.heap.size ≤ g → ∀ i, i < k + 1 → g ≠ (if i = k then q else p i) ∧ g ≠ (if i = k then q else p i) + 1 := fun g hg i hi => by have := hp6 i hi; omega
        refine ⟨fun g e => ?_, fun g e => ?_⟩
        · rcases hor6 with h2 | h2
          · have h1 := hL6 g (by rw [← h2, e])
            refine ⟨fun e2 => ?_, fun i hi => hlo g h1.2.1 i (h1.2.2.2 i) hi⟩
            rcases hb with hb | ⟨s, hb, hs7⟩
            · exact h1.2.2.1 (hb.symm.trans e2)
            · rw [hb] at e2; cases e2; omega
          · have hg6 : g = n6 := by rw [h2] at e; cases e; rfl
            refine ⟨fun e2 => ?_, fun i hi => hhi g (by omega) i hi⟩
            rcases hb with hb | ⟨s, hb, hs7⟩
            · have := hP6 g (by rw [← hb, e2]); omega
            · have := hlv6 g e; rw [hb] at e2; cases e2; omega
        · rcases hb with hb | ⟨s, hb, hs7⟩
          · have h1 := hP6 g (by rw [← hb, e])
            refine ⟨fun e2 => ?_, fun i hi => hlo g h1.2.1 i (h1.2.2.2 i) hi⟩
            rcases hor6 with h2 | h2
            · exact h1.2.2.1 (h2.symm.trans e2)
            · rw [h2] at e2; cases e2; omega
          · have hgs : g = s := by rw [hb] at e; cases e; rfl
            refine ⟨fun e2 => ?_, fun i hi => hhi g (by omega) i hi⟩
            have := hlv6 g e2; omega)
      clear zk3 zr3 KS4 OL3 OP3 G3 T6 hor6 hp6 hL6 hP6 zk6 zr6 KS6 OP6 G6 hs6 hlv6 hown6 hgrow6 SL SP hrt hs3 hs hn6
      refine wp_region_app 6 5 (fun i => some i = pv.ownBlock) (fun i => match i with
          | 0 => fun v _ => v = .pointer (some ⟨w0 + 1, 1, none⟩)
          | 1 => fun v _ => v = pv
          | 2 => fun v _ => v = .pointer (some ⟨q + 1, 0, none⟩)
          | 3 => fun v _ => v = .int .u64 (rt : Nat)
          | 4 => fun v w => PV w w6.heap.size [rt] v
          | 5 => fun v2 w => OwnS w (w0 + 2) 38 (u64L (rtL seed h (k + 1))) pv w6.heap.size v2
          | _ => fun _ _ => True) (by kernel_rfl) (by kernel_rfl) ?_ ?_ ?_ ?_
      · intro i v x y h hg
        match i, h with
        | 0, h | 1, h | 2, h | 3, h => exact h
        | 4, h => exact PV.gr h hg
        | 5, h => exact OwnS.gr h hg
        | m + 6, _ => trivial
      · intro i v x y hne hx h hg
        match i, h with
        | 0, h | 1, h | 2, h | 3, h => exact h
        | 4, h => exact PV.kp h hg HSW.out
        | 5, h => exact absurd rfl hne
        | m + 6, _ => trivial
      · refine ⟨?_, ?_, ?_, ?_, ?_, ?_, trivial⟩
        · intro vs y hg hd
          replace hg : Kp (fun i => some i = pv.ownBlock) w6 y := hg
          simp only [actOf, List.take_succ_cons, List.take_zero, List.drop_succ_cons, List.drop_zero, Act.put, List.setIfInBounds_toArray, List.set_cons_succ, List.set_cons_zero, Nat.reduceAdd]
          go_wp2_with fail
          exact ⟨rfl, _, rfl, grew_refl _, rfl⟩
        · intro vs y hg hd
          replace hg : Kp (fun i => some i = pv.ownBlock) w6 y := hg
          obtain ⟨h0, _⟩ := hd
          replace h0 := h0 rfl
          simp only [actOf, List.take_succ_cons, List.take_zero, List.drop_succ_cons, List.drop_zero, Act.put, List.setIfInBounds_toArray, List.set_cons_succ, List.set_cons_zero, Nat.reduceAdd]
          rw [show vs 0 = _ from h0]
          have hc := HC.out y hg
          go_wp2_with fail
          exact ⟨rfl, _, rfl, grew_refl _, rfl⟩
        · intro vs y hg hd
          replace hg : Kp (fun i => some i = pv.ownBlock) w6 y := hg
          simp only [actOf, List.take_succ_cons, List.take_zero, List.drop_succ_cons, List.drop_zero, Act.put, List.setIfInBounds_toArray, List.set_cons_succ, List.set_cons_zero, Nat.reduceAdd]
          go_wp2_with fail
          exact ⟨rfl, _, rfl, grew_refl _, rfl⟩
        · intro vs y hg hd
          replace hg : Kp (fun i => some i = pv.ownBlock) w6 y := hg
          obtain ⟨h2, _⟩ := hd
          replace h2 := h2 rfl
          simp only [actOf, List.take_succ_cons, List.take_zero, List.drop_succ_cons, List.drop_zero, Act.put, List.setIfInBounds_toArray, List.set_cons_succ, List.set_cons_zero, Nat.reduceAdd]
          rw [show vs 2 = _ from h2]
          have kk := HKK.out y hg
          go_wp2_with (go_at_call 98; refine (keyroot_ok (q + 1) q (k : Int) (sdI seed k) (ksL seed h k) 0 (2 ^ h) (by rw [HKL.out]; omega) (by rw [HKL.out]; exact HLV.out) (HKB.out k) y kk).mono ?_; rintro e z ⟨rfl, gz⟩; rw [HRT.out])
          exact ⟨rfl, _, rfl, gz, rfl⟩
        · intro vs y hg hd
          replace hg : Kp (fun i => some i = pv.ownBlock) w6 y := hg
          obtain ⟨h3, _⟩ := hd
          replace h3 := h3 rfl
          simp only [actOf, List.take_succ_cons, List.take_zero, List.drop_succ_cons, List.drop_zero, Act.put, List.setIfInBounds_toArray, List.set_cons_succ, List.set_cons_zero, Nat.reduceAdd]
          rw [show vs 3 = _ from h3]
          go_wp2_with fail
          exact ⟨rfl, _, rfl, grew_alloc (grew_refl _) _, pv_one y _ rt hg.size⟩
        · intro vs y hg hd
          replace hg : Grew w6 y := hg
          obtain ⟨h1, h4, _⟩ := hd
          replace h1 := h1 rfl
          replace h4 := h4 rfl
          simp only [actOf, List.take_succ_cons, List.take_zero, List.drop_succ_cons, List.drop_zero, Act.put, List.setIfInBounds_toArray, List.set_cons_succ, List.set_cons_zero, Nat.reduceAdd]
          rw [show vs 1 = _ from h1]
          obtain ⟨A2, c2, hv2, hr2, _⟩ := PV.out h4
          rw [hv2]
          have hb2 := hg.size
          have hw6 := HW6.out
          go_wp2_with (refine wpList_append_rd rfl (.tmp 51) (.tmp 54) 34 rfl (w0 + 2) 38 i1 (.int .u64 0) 8 Tryz.underlying34 hj hy0 hy1 hy2 rfl pv k _ rfl (ownsRow_gr HOP.out hg) y.heap.size A2 1 c2 [Value.int .u64 (rt : Nat)] rfl rfl hr2 (one_cell rfl) (by unfold maxLen; omega) (by omega) (by omega) ?_; intro v7 w7 hown7 hgrow7 hor7)
          exact ⟨rfl, _, rfl, kp_grown (kp_refl _ _) hgrow7 (fun g h => .inl h.symm), ⟨by rw [HT.out.1, HT.out.2]; exact hown7, by rcases hor7 with h | h; exact .inl h; exact .inr ⟨_, h, hb2⟩⟩⟩
      · intro vs y hg hJ
        have j0 : vs 0 = .pointer (some ⟨w0 + 1, 1, none⟩) := hJ 0 (by decide)
        have j1 : vs 1 = pv := hJ 1 (by decide)
        have j2 : vs 2 = .pointer (some ⟨q + 1, 0, none⟩) := hJ 2 (by decide)
        have j3 : vs 3 = .int .u64 (rt : Nat) := hJ 3 (by decide)
        have s54 := hJ 4 (by decide)
        have s55 := hJ 5 (by decide)
        clear hJ
        simp only [actOf, List.take_succ_cons, List.take_zero, List.drop_succ_cons, List.drop_zero, Act.put, List.setIfInBounds_toArray, List.set_cons_succ, List.set_cons_zero, Nat.reduceAdd]
        obtain ⟨hown7, hblk7⟩ := (show OwnS y (w0 + 2) 38 (u64L (rtL seed h (k + 1))) pv w6.heap.size (vs 5) from s55)
        rw [HT.out.1] at hown7
        obtain ⟨A7, c7, e7, -, -, -⟩ := own_rd hown7
        rw [e7] at hown7 hblk7 ⊢
        have z7 := HZK.out y hg
        have f1 : y.frozen? ⟨w0 + 1, 1, none⟩ = false := by simpa using (z7.there 1 (by simp)).2
        have c1 : y.cell? ⟨w0 + 1, 1, none⟩ = some pv := by simpa using z7.cell 1 _ rfl
        have tt := tn_set (g := w0 + 1) (tn_refl _ y) (p := ⟨w0 + 1, 1, none⟩) (.inl rfl) (.slice A7 (k + 1) c7)
        have T8 := kp_tn tt
        have z8 := Ag.set1 z7 1 (.slice A7 (k + 1) c7) (by simp)
        have zr8 := (HZR.out y hg).kp T8 (show ¬ w0 = w0 + 1 by omega)
        have KS7 := HKA.out y hg
        have KS8 := KS7.kp T8 (fun i hi => ⟨by have := KS7.low i hi; show ¬ (if i = k then q else p i) = w0 + 1; omega, by have := KS7.low i hi; show ¬ (if i = k then q else p i) + 1 = w0 + 1; omega⟩)
        have OL7 := HOL.out y hg
        have OL8 := ownsRow_kp OL7 T8 (fun g e (h : g = w0 + 1) => by have := own_base OL7 g e; omega)
        have OP8 := ownsRow_kp hown7 T8 (fun g e (h : g = w0 + 1) => by have := own_base hown7 g e; omega)
        have G8 := grew_tn (HGG.out y hg) tt (by have := HW0.out; omega)
        have hs8 : w0 + 2 ≤ (y.setCell ⟨w0 + 1, 1, none⟩ (.slice A7 (k + 1) c7)).heap.size := by have := HW6.out; have := hg.size; have := T8.size; omega
        have SS := Lib.hid (HSEP.out _ hblk7)
        clear s54 s55 e7 hown7 hblk7 z7 tt T8 KS7 OL7 hg j0 j1 j2 j3
        go_wp2_with fail
        go_roundw
        case rel => exact ⟨k + 1, fun i => if i = k then q else p i, .slice A7 (k + 1) c7, _, rfl, by have := HK.out; omega, by go_num, z8, zr8, KS8, OL8, OP8, SS.out.1, SS.out.2, G8, hs8⟩
        case measure => have := HK.out; simp [intOf]; omega
    · obtain rfl : k = 4 := by omega
      obtain ⟨LA, Lc, rfl, -, -, hrL⟩ := own_rd OL
      obtain ⟨RA, Rc, rfl, -, -, hrR⟩ := own_rd OP
      have HTR : Hid (wr.there w0 0 (#[Value.int .i64 1, .slice RA 4 Rc, .int .i64 (h : Int)] : Array Value).size) := Lib.hid (zr.thereN 3 rfl)
      have HOR : Hid ((#[Value.int .i64 1, .slice RA 4 Rc, .int .i64 (h : Int)] : Array Value).all (·.oneCell') = true) := Lib.hid (by simp [Value.oneCell'])
      have HSL : Hid ((Tryz.prog.info? 36).map (·.size) = some [Value.int .i64 1, .slice RA 4 Rc, .int .i64 (h : Int)].length) := Lib.hid (by kernel_rfl)
      have HSR : Hid ((Tryz.prog.info? 36).map (·.size) = some (#[Value.int .i64 1, .slice RA 4 Rc, .int .i64 (h : Int)] : Array Value).size) := HSK _
      have HMK : Hid (∀ y, Grew wr y → y.rangeAt (w0 + 1) 0 [.int .i64 1, .slice RA 4 Rc, .int .i64 (h : Int)]) := Lib.hid (fun y g => (zk.grew g).cell)
      have farL : ∀ ad, LA = some ad → ∀ i, i < 4 → ad.block ≠ p i ∧ ad.block ≠ p i + 1 := fun ad e i hi => by subst e; exact (SL ad.block (by rcases OL.2 with ⟨h1, _⟩ | ⟨g, cap, cur, h1, _⟩; cases h1; cases h1; rfl)).2 i hi
      have farR : ∀ ad, RA = some ad → ∀ i, i < 4 → ad.block ≠ p i ∧ ad.block ≠ p i + 1 := fun ad e i hi => by subst e; exact (SP ad.block (by rcases OP.2 with ⟨h1, _⟩ | ⟨g, cap, cur, h1, _⟩; cases h1; cases h1; rfl)).2 i hi
      have bL : ∀ ad, LA = some ad → w0 + 2 ≤ ad.block := fun ad e => by subst e; exact own_base OL ad.block (by rcases OL.2 with ⟨h1, _⟩ | ⟨g, cap, cur, h1, _⟩; cases h1; cases h1; rfl)
      have bR : ∀ ad, RA = some ad → w0 + 2 ≤ ad.block := fun ad e => by subst e; exact own_base OP ad.block (by rcases OP.2 with ⟨h1, _⟩ | ⟨g, cap, cur, h1, _⟩; cases h1; cases h1; rfl)
      have FL := Lib.hid farL
      have FR := Lib.hid farR
      have BL := Lib.hid bL
      have BR := Lib.hid bR
      clear farL farR bL bR SL SP OL OP
      go_wp2_with fail
      refine wp_region_rel 3 (fun i => match i with
          | 0 => fun v _ => v = .slice LA 4 Lc
          | 1 => fun v _ => v = .agg #[.int .i64 1, .slice RA 4 Rc, .int .i64 (h : Int)]
          | 2 => fun v _ => v = .slice LA 4 Lc
          | _ => fun _ _ => True) (by kernel_rfl) (by kernel_rfl) ?_ ?_ ?_
      · intro i v x y h hg
        match i, h with
        | 0, h | 1, h | 2, h => exact h
        | m + 3, _ => trivial
      · refine ⟨?_, ?_, ?_, trivial⟩
        · intro vs y hg hd
          simp only [actOf, List.take_succ_cons, List.take_zero, List.drop_succ_cons, List.drop_zero, Act.put, List.setIfInBounds_toArray, List.set_cons_succ, List.set_cons_zero, Nat.reduceAdd]
          go_wp2_with fail
          exact ⟨rfl, _, rfl, grew_refl _, rfl⟩
        · intro vs y hg hd
          simp only [actOf, List.take_succ_cons, List.take_zero, List.drop_succ_cons, List.drop_zero, Act.put, List.setIfInBounds_toArray, List.set_cons_succ, List.set_cons_zero, Nat.reduceAdd]
          have hm := HMK.out y hg
          go_wp2_with (with_reducible refine wpList_load_mid rfl 36 (.tmp 8) rfl (w0 + 1) 0 rfl [.int .i64 1, .slice RA 4 Rc, .int .i64 (h : Int)] _ hm hkt rfl HSL.out ?_)
          exact ⟨rfl, _, rfl, grew_refl _, rfl⟩
        · intro vs y hg hd
          obtain ⟨h0, _⟩ := hd
          replace h0 := h0 rfl
          simp only [actOf, List.take_succ_cons, List.take_zero, List.drop_succ_cons, List.drop_zero, Act.put, List.setIfInBounds_toArray, List.set_cons_succ, List.set_cons_zero, Nat.reduceAdd]
          rw [show vs 0 = _ from h0]
          go_wp2_with fail
          exact ⟨rfl, _, rfl, grew_refl _, rfl⟩
      · intro vs y hg hJ
        have j0 : vs 0 = .slice LA 4 Lc := hJ 0 (by decide)
        have j1 : vs 1 = .agg #[.int .i64 1, .slice RA 4 Rc, .int .i64 (h : Int)] := hJ 1 (by decide)
        have j2 : vs 2 = .slice LA 4 Lc := hJ 2 (by decide)
        clear hJ
        simp only [actOf, List.take_succ_cons, List.take_zero, List.drop_succ_cons, List.drop_zero, Act.put, List.setIfInBounds_toArray, List.set_cons_succ, List.set_cons_zero, Nat.reduceAdd]
        have T8 := setCells_kp [Value.int .i64 1, .slice RA 4 Rc, .int .i64 (h : Int)] w0 0 y
        have zr8 := Ag.set (vs := [Value.int .i64 1, .slice RA 4 Rc, .int .i64 (h : Int)]) (zr.grew hg) rfl
        have KS8 := (KS.grew hg).kp T8 (fun i hi => ⟨by have := KS.low i hi; show ¬ p i = w0; omega, by show ¬ p i + 1 = w0; have := KS.low i hi; omega⟩)
        have rL := ((hrL.gr hg).kp T8 (Nat.le_refl _) (fun ad e _ (h : ad.block = w0) => by have := BL.out ad e; omega)).more T8.size
        have rR := ((hrR.gr hg).kp T8 (Nat.le_refl _) (fun ad e _ (h : ad.block = w0) => by have := BR.out ad e; omega)).more T8.size
        have G8 := setCells_grew (o := 0) (b := w0) [Value.int .i64 1, .slice RA 4 Rc, .int .i64 (h : Int)] (grew_trans G hg) (by have := HW0.out; omega)
        have HTY : Hid (y.there w0 0 (#[Value.int .i64 1, .slice RA 4 Rc, .int .i64 (h : Int)] : Array Value).size) := Lib.hid ((zr.grew hg).thereN 3 rfl)
        rw [j1, j2]
        clear j0 j1 j2 hrL hrR KS zk zr hg
        go_wp2_with (with_reducible refine wpList_store_mid rfl 36 (.tmp 7) (.tmp 58) rfl w0 0 (#[Value.int .i64 1, .slice RA 4 Rc, .int .i64 (h : Int)]) rfl rfl HTY.out HSR.out HOR.out ?_)
        refine bodyPost_ret (results_ta Tryz.results33 _ _ w0 _ _ (.slice LA 4 Lc) rfl rfl zr8 hkt rfl HSL.out) rfl ⟨LA, Lc, RA, Rc, p, rfl, ?_, rL, rR, FL.out, FR.out, G8⟩
        exact ⟨KS8.key, fun i hi => by have := KS8.low i hi; have := HW0.out; omega, KS8.apart⟩
end Go.Proofs.YtaeopobofmpioaaGreatDoor

namespace Go.Proofs.YtaeopobofmpioaaGreatDoor
set_option linter.unusedSimpArgs false
set_option linter.unusedVariables false
open Go.RowKit
set_option linter.unusedVariables false
theorem stW_9 : stW 77 2 9 = [124, 115, 116, 97, 109, 112, 124, 48, 48, 48, 48, 48, 48, 48, 48, 48, 48, 48, 48, 48, 48, 52, 100, 124, 50, 124, 57] := by decide +kernel
theorem stW_10 : stW 77 2 10 = [124, 115, 116, 97, 109, 112, 124, 48, 48, 48, 48, 48, 48, 48, 48, 48, 48, 48, 48, 48, 48, 52, 100, 124, 50, 124, 49, 48] := by decide +kernel
theorem stD_9 : stD 77 2 9 = 10245224531534997766 := by unfold stD; rw [sumL_C]; decide +kernel
theorem stD_10 : stD 77 2 10 = 16565649433065096176 := by unfold stD; rw [sumL_C]; decide +kernel
theorem sd_7 : sdI 5 2 = 7 := by decide
theorem ky7_root : rootN (pubsL 7 2) = twoN tagMt (pubN (secN 7 0)) (pubN (secN 7 1)) := by
  have h := (halves 0 (by decide) (pubsL 7 2) (by rw [pubsL_length])).1
  rw [h]
  have e1 : (pubsL 7 2).take (2 ^ 0) = [pubN (secN 7 0)] := by simp [pubsL, List.range_succ]
  have e2 : (pubsL 7 2).drop (2 ^ 0) = [pubN (secN 7 1)] := by simp [pubsL, List.range_succ]
  rw [e1, e2]
  simp [rootN, rootF]
theorem ky7_path : pathN (pubsL 7 2) 0 = [pubN (secN 7 1)] := by
  obtain ⟨_, h1, _, h3⟩ := halves 0 (by decide) (pubsL 7 2) (by rw [pubsL_length])
  match hp : pathN (pubsL 7 2) 0, h1 with
  | [x], _ =>
    rw [hp] at h3
    have e : (pubsL 7 2).getD 1 0 = pubN (secN 7 1) := by simp [pubsL, List.range_succ]
    rw [e] at h3
    simpa using h3
theorem sec7_C (i k : Nat) (hi : i < 2) (h : k < 18) : secN 7 i k = twoC tagSk 7 (32 * i + k) := by
  unfold secN
  rw [twoN_C]
  congr 1
  show (((32 * (i : Int) + (k : Int)) % 18446744073709551616)).toNat = 32 * i + k
  omega
def pub7C (i : Nat) : Nat := foldC (fun k => chainC (sumC tagOt []) (twoC tagSk 7 (32 * i + k)) 15) 18
def rec7C : Nat := foldC (fun k => chainC (sumC tagOt []) (chainC (sumC tagOt []) (twoC tagSk 7 (32 * 0 + k)) (digK 10245224531534997766 k)) (15 - digK 16565649433065096176 k)) 18
theorem pub7_C (i : Nat) (hi : i < 2) : pubN (secN 7 i) = pub7C i := by
  unfold pubN
  rw [foldN_C]
  refine foldC_congr _ _ _ fun k hk => ?_
  show chainI tagOt (secN 7 i k) ((15 : Nat) : Int) = _
  rw [chainI_C _ _ _ (by omega), sec7_C i k hi hk]
theorem rec7_C : recN (signF (secN 7 (0 : Nat)) 10245224531534997766) 16565649433065096176 = rec7C := by
  unfold recN
  rw [foldN_C]
  refine foldC_congr _ _ _ fun k hk => ?_
  show chainI tagOt (chainI tagOt (secN 7 (0 : Nat) k) (digK 10245224531534997766 k : Nat)) ((15 - digK 16565649433065096176 k : Nat) : Int) = _
  have := digK_le 10245224531534997766 k
  rw [chainI_C _ _ _ (by omega), chainI_C _ _ _ (by omega), sec7_C 0 k (by omega) hk]
set_option maxRecDepth 20000 in
theorem ky7_ne : twoC tagMt rec7C (pub7C 1) ≠ twoC tagMt (pub7C 0) (pub7C 1) := by decide +kernel
theorem ver7_10 : vrS (rootN (pubsL 7 2)) 0 (signF (secN 7 (0 : Nat)) 10245224531534997766) (pathN (pubsL 7 2) 0) (16565649433065096176 : Int) 1 = false := by
  unfold vrS
  rw [ky7_path, ky7_root, show (16565649433065096176 : Int).toNat = 16565649433065096176 from rfl, verN_yes (by simp)]
  have h1 := pub7_C 0 (by decide)
  have h2 := pub7_C 1 (by decide)
  have h3 := rec7_C
  have h4 := ky7_ne
  simp only [climbN, List.length_cons, List.length_nil, Bool.and_eq_false_iff, beq_eq_false_iff_ne]
  right
  intro he
  apply h4
  rw [← twoN_C, ← twoN_C, ← h1, ← h2, ← h3]
  simpa using he
theorem rt_len (seed : Int) (h n : Nat) : (rtL seed h n).length = n := by simp [rtL]
theorem rt_get (seed : Int) (h n i : Nat) (hi : i < n) : (rtL seed h n).getD i 0 = rootN (ksL seed h i) := by simp [rtL, List.getD, hi]
theorem rt_lt (seed : Int) (h n : Nat) (hh : h ≤ 8) : ∀ x ∈ rtL seed h n, x < 18446744073709551616 := by
  intro x hx
  obtain ⟨i, _, rfl⟩ := List.mem_map.1 hx
  exact rootN_lt _ (pubsL_lt _ _)
/-- a stamp that its own key made holds -/
theorem va_yes (seed : Int) (h : Nat) (hh : h ≤ 8) (i m : Nat) (hi : i < 4) (hm : m < 2 ^ h) (cm : Nat) (at_ : Int) (ht : tmB at_ = true) :
    vaE 1 (rtL seed h 4) (h : Int) cm (i : Int) at_ (i : Int) (m : Int) (signF (secN (sdI seed i) (m : Int)) (stD cm (i : Int) at_)) (pathN (ksL seed h i) m) = 0 := by
  unfold vaE
  rw [if_neg (by omega), if_neg (by omega), if_pos ht, Int.toNat_natCast]
  unfold ckE
  rw [if_neg (by rw [rt_len]; omega), if_pos rfl, rt_get _ _ _ _ hi]
  have := ver_pow (sdI seed i) h hh m (stD cm (i : Int) at_ : Nat) (by omega) hm
  rw [Int.toNat_natCast] at this
  rw [if_pos]
  exact this
theorem va_1 : vaE 1 (rtL 5 1 4) (1 : Nat) 77 2 9 2 0 (signF (secN 7 (0 : Nat)) 10245224531534997766) (pathN (pubsL 7 2) 0) = 0 := by
  have := va_yes 5 1 (by omega) 2 0 (by omega) (by decide) 77 9 (by decide)
  rw [sd_7, show ksL 5 1 2 = pubsL 7 2 from by unfold ksL; rw [sd_7]] at this
  rw [show ((2 : Nat) : Int) = 2 from rfl, stD_9] at this
  exact this
theorem va_2 : vaE 1 (rtL 5 1 4) (1 : Nat) 77 2 10 2 0 (signF (secN 7 (0 : Nat)) 10245224531534997766) (pathN (pubsL 7 2) 0) = 7 := by
  unfold vaE
  rw [if_neg (by omega), if_neg (by omega), if_pos (by decide), show (2 : Int).toNat = 2 from rfl]
  unfold ckE
  rw [if_neg (by rw [rt_len]; omega), if_pos (by decide), rt_get _ _ _ _ (by omega), stD_10, show ksL 5 1 2 = pubsL 7 2 from by unfold ksL; rw [sd_7]]
  have := ver7_10
  rw [if_neg]
  rw [show ((16565649433065096176 : Nat) : Int) = 16565649433065096176 from rfl, show ((1 : Nat) : Int) = 1 from rfl, this]
  simp
theorem va_3 : vaE 1 (rtL 5 1 4) (1 : Nat) 77 1 9 2 0 (signF (secN 7 (0 : Nat)) 10245224531534997766) (pathN (pubsL 7 2) 0) = 7 := by
  unfold vaE
  rw [if_neg (by omega), if_neg (by omega), if_pos (by decide), show (1 : Int).toNat = 1 from rfl]
  unfold ckE
  rw [if_neg (by rw [rt_len]; omega), if_neg (by decide)]
theorem cy_1 : cyE 1 4 (1 : Nat) = 0 := by decide
end Go.Proofs.YtaeopobofmpioaaGreatDoor

namespace Go.Proofs.YtaeopobofmpioaaGreatDoor
set_option linter.unusedSimpArgs false
set_option linter.unusedVariables false
open Go.RowKit
set_option linter.unusedVariables false
set_option linter.unusedSimpArgs false
theorem stC_at (cm : Nat) (who a b sw lf : Int) (s : Nat → Nat) (pv : Value) : (stC cm who a sw lf s pv).toList.set 2 (.int .i64 b) = (stC cm who b sw lf s pv).toList := rfl
theorem stC_who (cm : Nat) (a b at_ sw lf : Int) (s : Nat → Nat) (pv : Value) : (stC cm a at_ sw lf s pv).toList.set 1 (.int .i64 b) = (stC cm b at_ sw lf s pv).toList := rfl
set_option maxRecDepth 100000 in
set_option maxHeartbeats 900000 in
theorem sknown_ok (w : World) (hS : Std w) : Calls Tryz.prog 15 #[] w fun e w' => e = .returned (.bool true) ∧ Grew w w' := by
  have HS := Lib.hid hS
  have CK := keys_ok 5 ⟨by omega, by omega⟩ 1 (by omega) w
  rw [show ((1 : Nat) : Int) = 1 from rfl] at CK
  have hkt := Tryz.underlying36
  have hut := Tryz.underlying44
  have hsl := Tryz.underlying66
  clear hS
  go_enter Tryz.func15, Tryz.ntmps15
  go_wp2_with fail
  refine CK.mono ?_
  clear CK
  rintro e w1 ⟨LA, Lc, RA, Rc, p, rfl, KS, rL, rR, FL, FR, G1⟩
  have hlad := rL 0 (by simp [ptrL])
  obtain ⟨lad, hLA, -, -⟩ := hlad
  subst hLA
  obtain ⟨kc, hkc⟩ : ∃ v, kyS 1 RA 4 Rc 1 = v := ⟨_, rfl⟩
  have HSK : Hid ((Tryz.prog.info? 36).map (·.size) = some (kyS 1 RA 4 Rc 1).size) := Lib.hid (by kernel_rfl)
  have HSKL : Hid ((Tryz.prog.info? 36).map (·.size) = some (kyS 1 RA 4 Rc 1).toList.length) := Lib.hid (by kernel_rfl)
  have HOK : Hid ((kyS 1 RA 4 Rc 1).all (·.oneCell') = true) := Lib.hid (by simp [kyS, Value.oneCell'])
  have zt := Ag.new w1 36 (#[.int .i64 0, .slice none 0 0, .int .i64 0])
  have HTK : Hid ((w1.alloc (.cells (#[.int .i64 0, .slice none 0 0, .int .i64 0]) 36)).there w1.heap.size 0 (kyS 1 RA 4 Rc 1).size) := Lib.hid (zt.thereN 3 rfl)
  have z2 := Ag.set (vs := (kyS 1 RA 4 Rc 1).toList) zt rfl
  have g2 : Grew w1 ((w1.alloc (.cells (#[.int .i64 0, .slice none 0 0, .int .i64 0]) 36)).setCells w1.heap.size 0 (kyS 1 RA 4 Rc 1).toList) := setCells_grew (o := 0) (b := w1.heap.size) (kyS 1 RA 4 Rc 1).toList (grew_alloc (grew_refl w1) _) (Nat.le_refl _)
  obtain ⟨w2, hw2⟩ : ∃ v, (w1.alloc (.cells (#[.int .i64 0, .slice none 0 0, .int .i64 0]) 36)).setCells w1.heap.size 0 (kyS 1 RA 4 Rc 1).toList = v := ⟨_, rfl⟩
  rw [hw2] at z2 g2
  have HW2 := Lib.hid hw2
  have KS2 := KS.grew g2
  have rL2 := rL.gr g2
  have rR2 := rR.gr g2
  have G2 := grew_trans G1 g2
  clear hw2 zt g2 rL rR G1
  obtain ⟨c2, hc2⟩ : ∃ u, w2.cell? (lad.add 2) = some u ∧ u = .pointer (some ⟨p 2 + 1, 0, none⟩) := by
    obtain ⟨ad, e, _, hc⟩ := rL2 2 (by simp [ptrL])
    cases e
    exact ⟨_, hc, by simp [ptrL]⟩
  obtain ⟨hc2, rfl⟩ := hc2
  rw [show lad.add 2 = ⟨lad.block, lad.off + 2, none⟩ from by unfold Addr.add; simp] at hc2
  have hnil : ∀ W, (binOp .eql 66 (.slice (some lad) 4 Lc) (.slice none 0 0)).run Tryz.prog W = .ok (.bool false) W := fun W => by
    simp only [binOp]
    simp [run_equal_slice_nil W _ _ (some lad) 4 Lc hsl]
  rw [hkc] at z2 HSK HSKL HOK HTK HW2 ⊢
  have HKC := Lib.hid hkc
  clear hkc
  have K2 := KS2.key 2 (by omega)
  have hks : ksL 5 1 2 = pubsL 7 2 := by unfold ksL; rw [sd_7]
  rw [sd_7, hks, show (2 : Nat) ^ 1 = 2 from rfl] at K2
  have hp2 : p 2 + 1 < w1.heap.size := by exact (KS.key 2 (by omega)).key.lt
  have hlen2 : (pubsL 7 2).length = 2 := pubsL_length _ _
  have CM := stmake_ok (p 2 + 1) (p 2) 2 7 (pubsL 7 2) 0 2 (by omega) (by omega) (by omega) (by rw [hlen2]; decide) (pubsL_lt _ _) ⟨by omega, by omega⟩ (fun m hm => by have := path_len 7 1 (by omega) m (by rw [hlen2] at hm; exact hm); rw [show (2 : Nat) ^ 1 = 2 from rfl] at this; omega) 77 (by omega) 2 9 ⟨by omega, by omega⟩ ⟨by omega, by omega⟩ (by decide) (by omega) (by omega) w2 (HS.out.grew G2) K2
  have V1 := va_1
  have V2 := va_2
  have V3 := va_3
  have hpl := path_len 7 1 (by omega) 0 (by decide)
  have hpb := pathN_lt (pubsL 7 2) 0 (pubsL_lt _ _)
  have hss : ∀ j, j < 18 → signF (secN 7 ((0 : Nat) : Int)) 10245224531534997766 j < 18446744073709551616 := fun j hj => signF_lt _ _ _ (secN_lt _ _ _)
  rw [show (2 : Nat) ^ 1 = 2 from rfl] at hpl
  rw [stD_9] at CM
  obtain ⟨s, hs⟩ : ∃ s, signF (secN 7 ((0 : Nat) : Int)) 10245224531534997766 = s := ⟨_, rfl⟩
  obtain ⟨pl, hp⟩ : ∃ pl, pathN (pubsL 7 2) 0 = pl := ⟨_, rfl⟩
  rw [hs, hp] at V1 V2 V3 CM
  rw [hs] at hss
  rw [hp] at hpl hpb
  rw [show ((77 : Nat) : Int) = 77 from rfl, show ((0 : Nat) : Int) = 0 from rfl] at CM
  clear hs hp hks
  have HV1 := Lib.hid V1
  have HV2 := Lib.hid V2
  have HV3 := Lib.hid V3
  have HPB := Lib.hid hpb
  have HSS := Lib.hid hss
  clear V1 V2 V3 hpb hss
  have HPL := Lib.hid hpl
  clear hpl
  go_wp2_with (with_reducible refine wpList_store_mid rfl 36 (.tmp 2) (.tmp 14) rfl w1.heap.size 0 kc rfl rfl HTK.out HSK.out HOK.out ?_; rw [HW2.out]; clear HW2 HTK; generalize hqk : w1.heap.size = qk at *)
  refine CM.mono ?_
  clear CM
  rintro e w3 ⟨⟨A1, c1, rfl, r3, hA1⟩, T3, K3⟩
  have hz2k : qk < w2.heap.size := z2.lt
  have z3 := z2.kp (kp_tn T3) (show ¬ qk = p 2 + 1 by omega)
  have rL3 := (rL2.kp (kp_tn T3) (Nat.le_refl _) (fun ad e _ (h : ad.block = p 2 + 1) => (FL ad e 2 (by omega)).2 h)).more T3.size
  have rR3 := (rR2.kp (kp_tn T3) (Nat.le_refl _) (fun ad e _ (h : ad.block = p 2 + 1) => (FR ad e 2 (by omega)).2 h)).more T3.size
  have G3 := grew_tn G2 T3 (by have := KS2.low 2 (by omega); omega)
  obtain ⟨gs, hgs⟩ : ∃ g, stC 77 2 9 2 0 s (.slice A1 pl.length c1) = g := ⟨_, rfl⟩
  have HZS : Hid (gs.size = 24) := Lib.hid (by rw [← hgs]; rfl)
  have HSS1 : Hid ((Tryz.prog.info? 44).map (·.size) = some gs.size) := Lib.hid (by rw [← hgs]; exact st_info)
  have HSL1 : Hid ((Tryz.prog.info? 44).map (·.size) = some gs.toList.length) := Lib.hid (by rw [← hgs]; exact st_info)
  have HOS1 : Hid (gs.all (·.oneCell') = true) := Lib.hid (by rw [← hgs]; exact stC_one 77 2 9 2 0 s A1 pl.length c1)
  have HGS := Lib.hid hgs
  rw [hgs]
  clear hgs T3 K3 z2 rL2 rR2 G2 KS2 KS K2 hA1 hc2
  have zt := Ag.new w3 44 (#[.int .u64 0, .int .i64 0, .int .i64 0, .int .i64 0, .int .i64 0, .int .u64 0, .int .u64 0, .int .u64 0, .int .u64 0, .int .u64 0, .int .u64 0, .int .u64 0, .int .u64 0, .int .u64 0, .int .u64 0, .int .u64 0, .int .u64 0, .int .u64 0, .int .u64 0, .int .u64 0, .int .u64 0, .int .u64 0, .int .u64 0, .slice none 0 0])
  have HT4 : Hid ((w3.alloc (.cells (#[.int .u64 0, .int .i64 0, .int .i64 0, .int .i64 0, .int .i64 0, .int .u64 0, .int .u64 0, .int .u64 0, .int .u64 0, .int .u64 0, .int .u64 0, .int .u64 0, .int .u64 0, .int .u64 0, .int .u64 0, .int .u64 0, .int .u64 0, .int .u64 0, .int .u64 0, .int .u64 0, .int .u64 0, .int .u64 0, .int .u64 0, .slice none 0 0]) 44)).there w3.heap.size 0 gs.size) := Lib.hid (by rw [HZS.out]; exact zt.thereN 24 rfl)
  have z4 := Ag.set (vs := gs.toList) zt (by rw [Array.length_toList, HZS.out]; rfl)
  have g4 : Grew w3 ((w3.alloc (.cells (#[.int .u64 0, .int .i64 0, .int .i64 0, .int .i64 0, .int .i64 0, .int .u64 0, .int .u64 0, .int .u64 0, .int .u64 0, .int .u64 0, .int .u64 0, .int .u64 0, .int .u64 0, .int .u64 0, .int .u64 0, .int .u64 0, .int .u64 0, .int .u64 0, .int .u64 0, .int .u64 0, .int .u64 0, .int .u64 0, .int .u64 0, .slice none 0 0]) 44)).setCells w3.heap.size 0 gs.toList) := setCells_grew (o := 0) (b := w3.heap.size) gs.toList (grew_alloc (grew_refl w3) _) (Nat.le_refl _)
  obtain ⟨w4, hw⟩ : ∃ v, (w3.alloc (.cells (#[.int .u64 0, .int .i64 0, .int .i64 0, .int .i64 0, .int .i64 0, .int .u64 0, .int .u64 0, .int .u64 0, .int .u64 0, .int .u64 0, .int .u64 0, .int .u64 0, .int .u64 0, .int .u64 0, .int .u64 0, .int .u64 0, .int .u64 0, .int .u64 0, .int .u64 0, .int .u64 0, .int .u64 0, .int .u64 0, .int .u64 0, .slice none 0 0]) 44)).setCells w3.heap.size 0 gs.toList = v := ⟨_, rfl⟩
  rw [hw] at z4 g4
  have HW4 := Lib.hid hw
  clear hw zt
  obtain ⟨q3, hb⟩ : ∃ q, w3.heap.size = q := ⟨_, rfl⟩
  rw [hb] at z4 HT4 HW4
  have HB4 := Lib.hid hb
  clear hb
  have z4k := z3.grew g4
  have G4 := grew_trans G3 g4
  have hm4 := z4.cell
  have zt := Ag.new w4 44 (#[.int .u64 0, .int .i64 0, .int .i64 0, .int .i64 0, .int .i64 0, .int .u64 0, .int .u64 0, .int .u64 0, .int .u64 0, .int .u64 0, .int .u64 0, .int .u64 0, .int .u64 0, .int .u64 0, .int .u64 0, .int .u64 0, .int .u64 0, .int .u64 0, .int .u64 0, .int .u64 0, .int .u64 0, .int .u64 0, .int .u64 0, .slice none 0 0])
  have HT5 : Hid ((w4.alloc (.cells (#[.int .u64 0, .int .i64 0, .int .i64 0, .int .i64 0, .int .i64 0, .int .u64 0, .int .u64 0, .int .u64 0, .int .u64 0, .int .u64 0, .int .u64 0, .int .u64 0, .int .u64 0, .int .u64 0, .int .u64 0, .int .u64 0, .int .u64 0, .int .u64 0, .int .u64 0, .int .u64 0, .int .u64 0, .int .u64 0, .int .u64 0, .slice none 0 0]) 44)).there w4.heap.size 0 gs.size) := Lib.hid (by rw [HZS.out]; exact zt.thereN 24 rfl)
  have z5 := Ag.set (vs := gs.toList) zt (by rw [Array.length_toList, HZS.out]; rfl)
  have g5 : Grew w4 ((w4.alloc (.cells (#[.int .u64 0, .int .i64 0, .int .i64 0, .int .i64 0, .int .i64 0, .int .u64 0, .int .u64 0, .int .u64 0, .int .u64 0, .int .u64 0, .int .u64 0, .int .u64 0, .int .u64 0, .int .u64 0, .int .u64 0, .int .u64 0, .int .u64 0, .int .u64 0, .int .u64 0, .int .u64 0, .int .u64 0, .int .u64 0, .int .u64 0, .slice none 0 0]) 44)).setCells w4.heap.size 0 gs.toList) := setCells_grew (o := 0) (b := w4.heap.size) gs.toList (grew_alloc (grew_refl w4) _) (Nat.le_refl _)
  obtain ⟨w5, hw⟩ : ∃ v, (w4.alloc (.cells (#[.int .u64 0, .int .i64 0, .int .i64 0, .int .i64 0, .int .i64 0, .int .u64 0, .int .u64 0, .int .u64 0, .int .u64 0, .int .u64 0, .int .u64 0, .int .u64 0, .int .u64 0, .int .u64 0, .int .u64 0, .int .u64 0, .int .u64 0, .int .u64 0, .int .u64 0, .int .u64 0, .int .u64 0, .int .u64 0, .int .u64 0, .slice none 0 0]) 44)).setCells w4.heap.size 0 gs.toList = v := ⟨_, rfl⟩
  rw [hw] at z5 g5
  have HW5 := Lib.hid hw
  clear hw zt
  obtain ⟨q5, hb⟩ : ∃ q, w4.heap.size = q := ⟨_, rfl⟩
  rw [hb] at z5 HT5 HW5
  have HB5 := Lib.hid hb
  clear hb
  have z5s := z4.grew g5
  have z5k := z4k.grew g5
  have G5 := grew_trans G4 g5
  have hq35 : q3 ≠ q5 := by have := z4.lt; have := HB5.out; omega
  have hq5k : qk ≠ q5 := by have := z4k.lt; have := HB5.out; omega
  have f52 : w5.frozen? ⟨q5, 2, none⟩ = false := by simpa using (z5.there 2 (by rw [Array.length_toList, HZS.out]; omega)).2
  have c52 : w5.cell? ⟨q5, 2, none⟩ = some (.int .i64 9) := by
    have := z5.cell 2 (.int .i64 9) (by rw [← HGS.out]; rfl)
    simpa using this
  have t6 := tn_set (g := q5) (tn_refl _ w5) (p := ⟨q5, 2, none⟩) (.inl rfl) (.int .i64 10)
  have z6 := Ag.set1 z5 2 (.int .i64 10) (by rw [Array.length_toList, HZS.out]; omega)
  rw [← HGS.out, stC_at] at z6
  have z6s := z5s.kp (kp_tn t6) hq35
  have z6k := z5k.kp (kp_tn t6) hq5k
  have hw5q : w.heap.size ≤ q5 := by have := G4.size; have := HB5.out; omega
  have G6 := grew_tn G5 t6 hw5q
  obtain ⟨w6, hw6⟩ : ∃ v, w5.setCell ⟨q5, 2, none⟩ (.int .i64 10) = v := ⟨_, rfl⟩
  rw [hw6] at z6 z6s z6k G6 t6
  have HW6 := Lib.hid hw6
  clear hw6
  have hm6 := z6s.cell
  have zt := Ag.new w6 44 (#[.int .u64 0, .int .i64 0, .int .i64 0, .int .i64 0, .int .i64 0, .int .u64 0, .int .u64 0, .int .u64 0, .int .u64 0, .int .u64 0, .int .u64 0, .int .u64 0, .int .u64 0, .int .u64 0, .int .u64 0, .int .u64 0, .int .u64 0, .int .u64 0, .int .u64 0, .int .u64 0, .int .u64 0, .int .u64 0, .int .u64 0, .slice none 0 0])
  have HT7 : Hid ((w6.alloc (.cells (#[.int .u64 0, .int .i64 0, .int .i64 0, .int .i64 0, .int .i64 0, .int .u64 0, .int .u64 0, .int .u64 0, .int .u64 0, .int .u64 0, .int .u64 0, .int .u64 0, .int .u64 0, .int .u64 0, .int .u64 0, .int .u64 0, .int .u64 0, .int .u64 0, .int .u64 0, .int .u64 0, .int .u64 0, .int .u64 0, .int .u64 0, .slice none 0 0]) 44)).there w6.heap.size 0 gs.size) := Lib.hid (by rw [HZS.out]; exact zt.thereN 24 rfl)
  have z7 := Ag.set (vs := gs.toList) zt (by rw [Array.length_toList, HZS.out]; rfl)
  have g7 : Grew w6 ((w6.alloc (.cells (#[.int .u64 0, .int .i64 0, .int .i64 0, .int .i64 0, .int .i64 0, .int .u64 0, .int .u64 0, .int .u64 0, .int .u64 0, .int .u64 0, .int .u64 0, .int .u64 0, .int .u64 0, .int .u64 0, .int .u64 0, .int .u64 0, .int .u64 0, .int .u64 0, .int .u64 0, .int .u64 0, .int .u64 0, .int .u64 0, .int .u64 0, .slice none 0 0]) 44)).setCells w6.heap.size 0 gs.toList) := setCells_grew (o := 0) (b := w6.heap.size) gs.toList (grew_alloc (grew_refl w6) _) (Nat.le_refl _)
  obtain ⟨w7, hw⟩ : ∃ v, (w6.alloc (.cells (#[.int .u64 0, .int .i64 0, .int .i64 0, .int .i64 0, .int .i64 0, .int .u64 0, .int .u64 0, .int .u64 0, .int .u64 0, .int .u64 0, .int .u64 0, .int .u64 0, .int .u64 0, .int .u64 0, .int .u64 0, .int .u64 0, .int .u64 0, .int .u64 0, .int .u64 0, .int .u64 0, .int .u64 0, .int .u64 0, .int .u64 0, .slice none 0 0]) 44)).setCells w6.heap.size 0 gs.toList = v := ⟨_, rfl⟩
  rw [hw] at z7 g7
  have HW7 := Lib.hid hw
  clear hw zt
  obtain ⟨q6, hb⟩ : ∃ q, w6.heap.size = q := ⟨_, rfl⟩
  rw [hb] at z7 HT7 HW7
  have HB7 := Lib.hid hb
  clear hb
  have z7s := z6s.grew g7
  have z7k := z6k.grew g7
  have z7t := z6.grew g7
  have G7 := grew_trans G6 g7
  have hq36 : q3 ≠ q6 := by have := z6s.lt; have := HB7.out; omega
  have hq6k : qk ≠ q6 := by have := z6k.lt; have := HB7.out; omega
  have hq56 : q5 ≠ q6 := by have := z6.lt; have := HB7.out; omega
  have f71 : w7.frozen? ⟨q6, 1, none⟩ = false := by simpa using (z7.there 1 (by rw [Array.length_toList, HZS.out]; omega)).2
  have c71 : w7.cell? ⟨q6, 1, none⟩ = some (.int .i64 2) := by
    have := z7.cell 1 (.int .i64 2) (by rw [← HGS.out]; rfl)
    simpa using this
  have t8 := tn_set (g := q6) (tn_refl _ w7) (p := ⟨q6, 1, none⟩) (.inl rfl) (.int .i64 1)
  have z8 := Ag.set1 z7 1 (.int .i64 1) (by rw [Array.length_toList, HZS.out]; omega)
  rw [← HGS.out, stC_who] at z8
  have z8s := z7s.kp (kp_tn t8) hq36
  have z8k := z7k.kp (kp_tn t8) hq6k
  have z8t := z7t.kp (kp_tn t8) hq56
  have hw7q : w.heap.size ≤ q6 := by have := G6.size; have := HB7.out; omega
  have G8 := grew_tn G7 t8 hw7q
  have K38 : Kp (fun i => i = q5 ∨ i = q6) w3 (w7.setCell ⟨q6, 1, none⟩ (.int .i64 1)) := by
    refine kp_trans (kp_trans (kp_grew (grew_trans g4 g5)) (kp_mono (kp_tn (HW6.out ▸ tn_set (g := q5) (tn_refl _ w5) (p := ⟨q5, 2, none⟩) (.inl rfl) (.int .i64 10))) (fun i e => .inl e))) (kp_trans (kp_grew g7) (kp_mono (kp_tn t8) (fun i e => .inr e)))
  obtain ⟨w8, hw8⟩ : ∃ v, w7.setCell ⟨q6, 1, none⟩ (.int .i64 1) = v := ⟨_, rfl⟩
  rw [hw8] at z8 z8s z8k z8t G8 K38
  have HW8 := Lib.hid hw8
  clear hw8
  have hq3w : w3.heap.size ≤ q5 ∧ w3.heap.size ≤ q6 := ⟨by have := HB5.out; have := g4.size; omega, by have := HB7.out; have := g4.size; have := g5.size; have := t6.size; omega⟩
  have KQ : ∀ i, (i = q5 ∨ i = q6) → w3.heap.size ≤ i := fun i e => by rcases e with e | e <;> omega
  have r8 := (r3.kp K38 (Nat.le_refl _) (fun ad _ hlt hS => by have := KQ _ hS; omega)).more K38.size
  have rL8 := (rL3.kp K38 (Nat.le_refl _) (fun ad _ hlt hS => by have := KQ _ hS; omega)).more K38.size
  have rR8 := (rR3.kp K38 (Nat.le_refl _) (fun ad _ hlt hS => by have := KQ _ hS; omega)).more K38.size
  obtain ⟨u0, hc0, -⟩ : ∃ u, w8.cell? (lad.add 0) = some u ∧ True := by
    obtain ⟨ad, e, _, hc⟩ := rL8 0 (by simp [ptrL])
    cases e
    exact ⟨_, hc, trivial⟩
  rw [show lad.add 0 = lad from by unfold Addr.add; simp] at hc0
  have CN := Lib.hid (fun W => stmake_no u0 77 0 0 (by decide) W)
  have hc0' : (w7.setCell ⟨q6, 1, none⟩ (.int .i64 1)).cell? lad = some u0 := by rw [HW8.out]; exact hc0
  clear z4 z4k z5 z5s z5k z6 z6s z6k z7 z7s z7k z7t t6 t8 r3 rL3 rR3 z3 G3 G4 G5 G6 G7 g4 g5 g7 K38 KQ hq3w rL8 hq35 hq5k hq36 hq6k hq56
  go_wp2_with (first
    | (rw [HB4.out]; (with_reducible refine wpList_store_mid rfl 44 (.tmp 3) (.tmp 22) rfl q3 0 gs rfl rfl HT4.out HSS1.out HOS1.out ?_); rw [HW4.out])
    | (with_reducible refine wpList_load_mid rfl 44 (.tmp 3) rfl q3 0 rfl gs.toList _ hm4 hut rfl HSL1.out ?_; simp only [Array.toArray_toList])
    | (rw [HB5.out]; (with_reducible refine wpList_store_mid rfl 44 (.tmp 5) (.tmp 24) rfl q5 0 gs rfl rfl HT5.out HSS1.out HOS1.out ?_); rw [HW5.out])
    | (rw [HW6.out]; (with_reducible refine wpList_load_mid rfl 44 (.tmp 3) rfl q3 0 rfl gs.toList _ hm6 hut rfl HSL1.out ?_); simp only [Array.toArray_toList])
    | (rw [HB7.out]; (with_reducible refine wpList_store_mid rfl 44 (.tmp 6) (.tmp 26) rfl q6 0 gs rfl rfl HT7.out HSS1.out HOS1.out ?_); rw [HW7.out]))
  rw [HW8.out]
  refine (CN.out w8).mono ?_
  rintro e v8 ⟨rfl, gg⟩
  have y3 := z8s.grew gg
  have yk := z8k.grew gg
  have yt := z8t.grew gg
  have yu := z8.grew gg
  have G9 := grew_trans G8 gg
  have r9 := r8.gr gg
  have rR9 := rR8.gr gg
  clear z8s z8k z8t z8 G8 r8 rR8 gg hc0 hc0' CN HW4 HW5 HW6 HW7 HW8 HT4 HT5 HT7 HB4 HB5 HB7 f52 c52 f71 c71
  have HZZ : Hid ((#[.int .u64 0, .int .i64 0, .int .i64 0, .int .i64 0, .int .i64 0, .int .u64 0, .int .u64 0, .int .u64 0, .int .u64 0, .int .u64 0, .int .u64 0, .int .u64 0, .int .u64 0, .int .u64 0, .int .u64 0, .int .u64 0, .int .u64 0, .int .u64 0, .int .u64 0, .int .u64 0, .int .u64 0, .int .u64 0, .int .u64 0, .slice none 0 0] : Array Value).size = 24) := Lib.hid rfl
  have HSSZ : Hid ((Tryz.prog.info? 44).map (·.size) = some (#[.int .u64 0, .int .i64 0, .int .i64 0, .int .i64 0, .int .i64 0, .int .u64 0, .int .u64 0, .int .u64 0, .int .u64 0, .int .u64 0, .int .u64 0, .int .u64 0, .int .u64 0, .int .u64 0, .int .u64 0, .int .u64 0, .int .u64 0, .int .u64 0, .int .u64 0, .int .u64 0, .int .u64 0, .int .u64 0, .int .u64 0, .slice none 0 0] : Array Value).size) := Lib.hid st_info
  have HOSZ : Hid ((#[.int .u64 0, .int .i64 0, .int .i64 0, .int .i64 0, .int .i64 0, .int .u64 0, .int .u64 0, .int .u64 0, .int .u64 0, .int .u64 0, .int .u64 0, .int .u64 0, .int .u64 0, .int .u64 0, .int .u64 0, .int .u64 0, .int .u64 0, .int .u64 0, .int .u64 0, .int .u64 0, .int .u64 0, .int .u64 0, .int .u64 0, .slice none 0 0] : Array Value).all (·.oneCell') = true) := Lib.hid (by simp [Value.oneCell'])
  have zt := Ag.new v8 44 (#[.int .u64 0, .int .i64 0, .int .i64 0, .int .i64 0, .int .i64 0, .int .u64 0, .int .u64 0, .int .u64 0, .int .u64 0, .int .u64 0, .int .u64 0, .int .u64 0, .int .u64 0, .int .u64 0, .int .u64 0, .int .u64 0, .int .u64 0, .int .u64 0, .int .u64 0, .int .u64 0, .int .u64 0, .int .u64 0, .int .u64 0, .slice none 0 0])
  have HT9 : Hid ((v8.alloc (.cells (#[.int .u64 0, .int .i64 0, .int .i64 0, .int .i64 0, .int .i64 0, .int .u64 0, .int .u64 0, .int .u64 0, .int .u64 0, .int .u64 0, .int .u64 0, .int .u64 0, .int .u64 0, .int .u64 0, .int .u64 0, .int .u64 0, .int .u64 0, .int .u64 0, .int .u64 0, .int .u64 0, .int .u64 0, .int .u64 0, .int .u64 0, .slice none 0 0]) 44)).there v8.heap.size 0 (#[.int .u64 0, .int .i64 0, .int .i64 0, .int .i64 0, .int .i64 0, .int .u64 0, .int .u64 0, .int .u64 0, .int .u64 0, .int .u64 0, .int .u64 0, .int .u64 0, .int .u64 0, .int .u64 0, .int .u64 0, .int .u64 0, .int .u64 0, .int .u64 0, .int .u64 0, .int .u64 0, .int .u64 0, .int .u64 0, .int .u64 0, .slice none 0 0] : Array Value).size) := Lib.hid (zt.thereN 24 rfl)
  have g9 : Grew v8 ((v8.alloc (.cells (#[.int .u64 0, .int .i64 0, .int .i64 0, .int .i64 0, .int .i64 0, .int .u64 0, .int .u64 0, .int .u64 0, .int .u64 0, .int .u64 0, .int .u64 0, .int .u64 0, .int .u64 0, .int .u64 0, .int .u64 0, .int .u64 0, .int .u64 0, .int .u64 0, .int .u64 0, .int .u64 0, .int .u64 0, .int .u64 0, .int .u64 0, .slice none 0 0]) 44)).setCells v8.heap.size 0 (#[.int .u64 0, .int .i64 0, .int .i64 0, .int .i64 0, .int .i64 0, .int .u64 0, .int .u64 0, .int .u64 0, .int .u64 0, .int .u64 0, .int .u64 0, .int .u64 0, .int .u64 0, .int .u64 0, .int .u64 0, .int .u64 0, .int .u64 0, .int .u64 0, .int .u64 0, .int .u64 0, .int .u64 0, .int .u64 0, .int .u64 0, .slice none 0 0] : Array Value).toList) := setCells_grew (o := 0) (b := v8.heap.size) (#[.int .u64 0, .int .i64 0, .int .i64 0, .int .i64 0, .int .i64 0, .int .u64 0, .int .u64 0, .int .u64 0, .int .u64 0, .int .u64 0, .int .u64 0, .int .u64 0, .int .u64 0, .int .u64 0, .int .u64 0, .int .u64 0, .int .u64 0, .int .u64 0, .int .u64 0, .int .u64 0, .int .u64 0, .int .u64 0, .int .u64 0, .slice none 0 0] : Array Value).toList (grew_alloc (grew_refl v8) _) (Nat.le_refl _)
  have y3' := y3.grew g9
  have yk' := yk.grew g9
  have yt' := yt.grew g9
  have yu' := yu.grew g9
  have GA := grew_trans G9 g9
  have rA := r9.gr g9
  have rRA := rR9.gr g9
  clear y3 yk yt yu G9 r9 rR9 zt g9
  obtain ⟨w9, hw9⟩ : ∃ v, (v8.alloc (.cells (#[.int .u64 0, .int .i64 0, .int .i64 0, .int .i64 0, .int .i64 0, .int .u64 0, .int .u64 0, .int .u64 0, .int .u64 0, .int .u64 0, .int .u64 0, .int .u64 0, .int .u64 0, .int .u64 0, .int .u64 0, .int .u64 0, .int .u64 0, .int .u64 0, .int .u64 0, .int .u64 0, .int .u64 0, .int .u64 0, .int .u64 0, .slice none 0 0]) 44)).setCells v8.heap.size 0 (#[.int .u64 0, .int .i64 0, .int .i64 0, .int .i64 0, .int .i64 0, .int .u64 0, .int .u64 0, .int .u64 0, .int .u64 0, .int .u64 0, .int .u64 0, .int .u64 0, .int .u64 0, .int .u64 0, .int .u64 0, .int .u64 0, .int .u64 0, .int .u64 0, .int .u64 0, .int .u64 0, .int .u64 0, .int .u64 0, .int .u64 0, .slice none 0 0] : Array Value).toList = v := ⟨_, rfl⟩
  rw [hw9] at y3' yk' yt' yu' GA rA rRA
  have HW9 := Lib.hid hw9
  clear hw9
  have hmA := y3'.cell
  have CT := sttext_ok 77 2 9 2 0 s A1 c1 pl (by omega) ⟨by omega, by omega⟩ ⟨by omega, by omega⟩ ⟨by omega, by omega⟩ ⟨by omega, by omega⟩ (by rw [HPL.out]; omega) HSS.out HPB.out w9 (HS.out.grew GA) rA
  have CP := Lib.hid (fun W hW => stparse_ok 77 2 9 2 0 s pl (by omega) (by omega) ⟨by omega, by omega⟩ (by omega) (by omega) (by rw [HPL.out]; omega) HSS.out HPB.out W hW)
  rw [HGS.out] at CT
  go_wp2_with (first
    | (with_reducible refine wpList_store_mid rfl 44 (.tmp 7) (.tmp 33) rfl v8.heap.size 0 (#[.int .u64 0, .int .i64 0, .int .i64 0, .int .i64 0, .int .i64 0, .int .u64 0, .int .u64 0, .int .u64 0, .int .u64 0, .int .u64 0, .int .u64 0, .int .u64 0, .int .u64 0, .int .u64 0, .int .u64 0, .int .u64 0, .int .u64 0, .int .u64 0, .int .u64 0, .int .u64 0, .int .u64 0, .int .u64 0, .int .u64 0, .slice none 0 0]) rfl rfl HT9.out HSSZ.out HOSZ.out ?_; rw [HW9.out]; generalize v8.heap.size = q7 at *)
    | (with_reducible refine wpList_load_mid rfl 44 (.tmp 3) rfl q3 0 rfl gs.toList _ hmA hut rfl HSL1.out ?_; simp only [Array.toArray_toList]))
  refine CT.mono ?_
  rintro e wA ⟨rfl, gg⟩
  have y3 := y3'.grew gg
  have yk := yk'.grew gg
  have yt := yt'.grew gg
  have yu := yu'.grew gg
  have GB := grew_trans GA gg
  have rB := rA.gr gg
  have rRB := rRA.gr gg
  clear CT y3' yk' yt' yu' GA rA rRA gg hmA HW9 HT9
  go_wp2_with fail
  refine (CP.out wA (HS.out.grew GB)).mono ?_
  rintro e wB ⟨⟨A2, c2, rfl, r2⟩, gg⟩
  have y3' := y3.grew gg
  have yk' := yk.grew gg
  have yt' := yt.grew gg
  have yu' := yu.grew gg
  have GC := grew_trans GB gg
  have rC := rB.gr gg
  have rRC := rRB.gr gg
  clear CP y3 yk yt yu GB rB rRB gg
  obtain ⟨gx, hgx⟩ : ∃ g, stC 77 2 9 2 0 s (.slice A2 pl.length c2) = g := ⟨_, rfl⟩
  have HZX : Hid (gx.size = 24) := Lib.hid (by rw [← hgx]; rfl)
  have HSSX : Hid ((Tryz.prog.info? 44).map (·.size) = some gx.size) := Lib.hid (by rw [← hgx]; exact st_info)
  have HSLX : Hid ((Tryz.prog.info? 44).map (·.size) = some gx.toList.length) := Lib.hid (by rw [← hgx]; exact st_info)
  have HOSX : Hid (gx.all (·.oneCell') = true) := Lib.hid (by rw [← hgx]; exact stC_one 77 2 9 2 0 s A2 pl.length c2)
  have HGX := Lib.hid hgx
  rw [hgx]
  clear hgx
  have zt := Ag.new wB 44 (#[.int .u64 0, .int .i64 0, .int .i64 0, .int .i64 0, .int .i64 0, .int .u64 0, .int .u64 0, .int .u64 0, .int .u64 0, .int .u64 0, .int .u64 0, .int .u64 0, .int .u64 0, .int .u64 0, .int .u64 0, .int .u64 0, .int .u64 0, .int .u64 0, .int .u64 0, .int .u64 0, .int .u64 0, .int .u64 0, .int .u64 0, .slice none 0 0])
  have HTX : Hid ((wB.alloc (.cells (#[.int .u64 0, .int .i64 0, .int .i64 0, .int .i64 0, .int .i64 0, .int .u64 0, .int .u64 0, .int .u64 0, .int .u64 0, .int .u64 0, .int .u64 0, .int .u64 0, .int .u64 0, .int .u64 0, .int .u64 0, .int .u64 0, .int .u64 0, .int .u64 0, .int .u64 0, .int .u64 0, .int .u64 0, .int .u64 0, .int .u64 0, .slice none 0 0]) 44)).there wB.heap.size 0 gx.size) := Lib.hid (by rw [HZX.out]; exact zt.thereN 24 rfl)
  have zx := Ag.set (vs := gx.toList) zt (by rw [Array.length_toList, HZX.out]; rfl)
  have gX : Grew wB ((wB.alloc (.cells (#[.int .u64 0, .int .i64 0, .int .i64 0, .int .i64 0, .int .i64 0, .int .u64 0, .int .u64 0, .int .u64 0, .int .u64 0, .int .u64 0, .int .u64 0, .int .u64 0, .int .u64 0, .int .u64 0, .int .u64 0, .int .u64 0, .int .u64 0, .int .u64 0, .int .u64 0, .int .u64 0, .int .u64 0, .int .u64 0, .int .u64 0, .slice none 0 0]) 44)).setCells wB.heap.size 0 gx.toList) := setCells_grew (o := 0) (b := wB.heap.size) gx.toList (grew_alloc (grew_refl wB) _) (Nat.le_refl _)
  have y3 := y3'.grew gX
  have yk := yk'.grew gX
  have yt := yt'.grew gX
  have yu := yu'.grew gX
  have GD := grew_trans GC gX
  have rD := rC.gr gX
  have rRD := rRC.gr gX
  have r2D := r2.gr gX
  clear y3' yk' yt' yu' GC rC rRC r2 zt gX
  obtain ⟨wC, hwC⟩ : ∃ v, (wB.alloc (.cells (#[.int .u64 0, .int .i64 0, .int .i64 0, .int .i64 0, .int .i64 0, .int .u64 0, .int .u64 0, .int .u64 0, .int .u64 0, .int .u64 0, .int .u64 0, .int .u64 0, .int .u64 0, .int .u64 0, .int .u64 0, .int .u64 0, .int .u64 0, .int .u64 0, .int .u64 0, .int .u64 0, .int .u64 0, .int .u64 0, .int .u64 0, .slice none 0 0]) 44)).setCells wB.heap.size 0 gx.toList = v := ⟨_, rfl⟩
  rw [hwC] at zx y3 yk yt yu GD rD rRD r2D
  have HWC := Lib.hid hwC
  clear hwC
  obtain ⟨gt, hgt⟩ : ∃ g, stC 77 2 10 2 0 s (.slice A1 pl.length c1) = g := ⟨_, rfl⟩
  obtain ⟨gu, hgu⟩ : ∃ g, stC 77 1 9 2 0 s (.slice A1 pl.length c1) = g := ⟨_, rfl⟩
  rw [show (stC 77 2 10 2 0 s (.slice A1 pl.length c1)).toList = gt.toList from by rw [hgt]] at yt
  rw [show (stC 77 1 9 2 0 s (.slice A1 pl.length c1)).toList = gu.toList from by rw [hgu]] at yu
  have HSLT : Hid ((Tryz.prog.info? 44).map (·.size) = some gt.toList.length) := Lib.hid (by rw [← hgt]; exact st_info)
  have HSLU : Hid ((Tryz.prog.info? 44).map (·.size) = some gu.toList.length) := Lib.hid (by rw [← hgu]; exact st_info)
  have hR4 : (rtL 5 1 4).length = 4 := rt_len _ _ _
  have va := fun (who at_ : Int) (hw : in64 who) (ha : in64 at_) W hW h1 h2 => stvalid_ok 1 (by omega) (rtL 5 1 4) RA Rc ((1 : Nat) : Int) 77 who at_ 2 0 s A1 c1 pl (by omega) hw ha ⟨by omega, by omega⟩ ⟨by omega, by omega⟩ (by rw [HPL.out]; omega) HSS.out HPB.out (by rw [hR4]; omega) (rt_lt _ _ _ (by omega)) W hW h1 h2
  have va1 := va 2 9 ⟨by omega, by omega⟩ ⟨by omega, by omega⟩
  have va2 := va 2 10 ⟨by omega, by omega⟩ ⟨by omega, by omega⟩
  have va3 := va 1 9 ⟨by omega, by omega⟩ ⟨by omega, by omega⟩
  have cyk := fun W => stkeys_ok 1 (rtL 5 1 4) RA Rc ((1 : Nat) : Int) (by rw [hR4]; omega) W
  simp only [HV1.out, HV2.out, HV3.out, hR4, cy_1] at va1 va2 va3 cyk
  simp only [show ((1 : Nat) : Int) = 1 from rfl, HKC.out, HGS.out, hgt, hgu] at va1 va2 va3 cyk
  have VA1 := Lib.hid va1
  have VA2 := Lib.hid va2
  have VA3 := Lib.hid va3
  have CYK := Lib.hid cyk
  have sq := fun W h1 h2 => stsame_eq 77 2 9 2 0 s A2 A1 c2 c1 pl (by rw [HPL.out]; omega) W h1 h2
  have sa := fun W h1 h2 => stsame_at 77 2 10 9 2 0 s A1 A1 c1 c1 pl (by rw [HPL.out]; omega) (by decide) W h1 h2
  simp only [HGX.out, HGS.out, hgt] at sq sa
  have SQ := Lib.hid sq
  have SA := Lib.hid sa
  have cw := fun W hW => stwords_ok 77 2 9 (by omega) ⟨by omega, by omega⟩ ⟨by omega, by omega⟩ W hW
  have cd := fun W hW => stdigest_ok 77 2 9 (by omega) ⟨by omega, by omega⟩ ⟨by omega, by omega⟩ W hW
  simp only [stW_9, stD_9, show ((77 : Nat) : Int) = 77 from rfl] at cw cd
  have CW := Lib.hid cw
  have CD := Lib.hid cd
  have ch := fun W => of_any ⟨#[115, 116, 97, 109, 112]⟩ ⟨#[124, 115, 116, 97, 109, 112, 124, 48, 48, 48, 48, 48, 48, 48, 48, 48, 48, 48, 48, 48, 48, 52, 100, 124, 50, 124, 57]⟩ (by decide) (by decide) W
  have e9 : sumL (⟨#[115, 116, 97, 109, 112]⟩ : ByteArray).data.toList (⟨#[124, 115, 116, 97, 109, 112, 124, 48, 48, 48, 48, 48, 48, 48, 48, 48, 48, 48, 48, 48, 48, 52, 100, 124, 50, 124, 57]⟩ : ByteArray).data.toList = 10245224531534997766 := by
    rw [← stD_9]; unfold stD; rw [stW_9]; rfl
  simp only [e9] at ch
  have CH := Lib.hid ch
  clear va va1 va2 va3 cyk sq sa cw cd ch e9 hgt hgu hR4
  have hmx := zx.cell
  have hm3 := y3.cell
  have hmk := yk.cell
  have hmt := yt.cell
  have hmu := yu.cell
  go_wp2_with (first
    | (with_reducible refine wpList_store_mid rfl 44 (.tmp 9) (.tmp 39) rfl wB.heap.size 0 gx rfl rfl HTX.out HSSX.out HOSX.out ?_; rw [HWC.out]; generalize wB.heap.size = q9 at *)
    | (refine wpList_load_mid_want (by rfl) 36 (.tmp 2) rfl qk 0 rfl kc.toList _ hmk hkt rfl HSKL.out ?_; simp only [Array.toArray_toList])
    | (refine wpList_load_mid_want (by rfl) 44 (.tmp 3) rfl q3 0 rfl gs.toList _ hm3 hut rfl HSL1.out ?_; simp only [Array.toArray_toList])
    | (refine wpList_load_mid_want (by rfl) 44 (.tmp 5) rfl q5 0 rfl gt.toList _ hmt hut rfl HSLT.out ?_; simp only [Array.toArray_toList])
    | (refine wpList_load_mid_want (by rfl) 44 (.tmp 6) rfl q6 0 rfl gu.toList _ hmu hut rfl HSLU.out ?_; simp only [Array.toArray_toList])
    | (refine wpList_load_mid_want (by rfl) 44 (.tmp 9) rfl q9 0 rfl gx.toList _ hmx hut rfl HSLX.out ?_; simp only [Array.toArray_toList]))
  refine (VA1.out _ (HS.out.grew GD) rRD rD).mono ?_
  rintro e wN ⟨rfl, gg⟩
  have zx' := zx.grew gg
  have y3' := y3.grew gg
  have yk' := yk.grew gg
  have yt' := yt.grew gg
  have yu' := yu.grew gg
  have GD' := grew_trans GD gg
  have rD' := rD.gr gg
  have rRD' := rRD.gr gg
  have r2D' := r2D.gr gg
  clear zx y3 yk yt yu GD rD rRD r2D hmx hm3 hmk hmt hmu gg
  have zx := zx'
  have y3 := y3'
  have yk := yk'
  have yt := yt'
  have yu := yu'
  have GD := GD'
  have rD := rD'
  have rRD := rRD'
  have r2D := r2D'
  clear zx' y3' yk' yt' yu' GD' rD' rRD' r2D'
  have hmx := zx.cell
  have hm3 := y3.cell
  have hmk := yk.cell
  have hmt := yt.cell
  have hmu := yu.cell
  go_wp2_with (first
    | (refine wpList_load_mid_want (by rfl) 36 (.tmp 2) rfl qk 0 rfl kc.toList _ hmk hkt rfl HSKL.out ?_; simp only [Array.toArray_toList])
    | (refine wpList_load_mid_want (by rfl) 44 (.tmp 3) rfl q3 0 rfl gs.toList _ hm3 hut rfl HSL1.out ?_; simp only [Array.toArray_toList])
    | (refine wpList_load_mid_want (by rfl) 44 (.tmp 5) rfl q5 0 rfl gt.toList _ hmt hut rfl HSLT.out ?_; simp only [Array.toArray_toList])
    | (refine wpList_load_mid_want (by rfl) 44 (.tmp 6) rfl q6 0 rfl gu.toList _ hmu hut rfl HSLU.out ?_; simp only [Array.toArray_toList])
    | (refine wpList_load_mid_want (by rfl) 44 (.tmp 9) rfl q9 0 rfl gx.toList _ hmx hut rfl HSLX.out ?_; simp only [Array.toArray_toList]))
  refine (VA2.out _ (HS.out.grew GD) rRD rD).mono ?_
  rintro e wN ⟨rfl, gg⟩
  have zx' := zx.grew gg
  have y3' := y3.grew gg
  have yk' := yk.grew gg
  have yt' := yt.grew gg
  have yu' := yu.grew gg
  have GD' := grew_trans GD gg
  have rD' := rD.gr gg
  have rRD' := rRD.gr gg
  have r2D' := r2D.gr gg
  clear zx y3 yk yt yu GD rD rRD r2D hmx hm3 hmk hmt hmu gg
  have zx := zx'
  have y3 := y3'
  have yk := yk'
  have yt := yt'
  have yu := yu'
  have GD := GD'
  have rD := rD'
  have rRD := rRD'
  have r2D := r2D'
  clear zx' y3' yk' yt' yu' GD' rD' rRD' r2D'
  have hmx := zx.cell
  have hm3 := y3.cell
  have hmk := yk.cell
  have hmt := yt.cell
  have hmu := yu.cell
  go_wp2_with (first
    | (refine wpList_load_mid_want (by rfl) 36 (.tmp 2) rfl qk 0 rfl kc.toList _ hmk hkt rfl HSKL.out ?_; simp only [Array.toArray_toList])
    | (refine wpList_load_mid_want (by rfl) 44 (.tmp 3) rfl q3 0 rfl gs.toList _ hm3 hut rfl HSL1.out ?_; simp only [Array.toArray_toList])
    | (refine wpList_load_mid_want (by rfl) 44 (.tmp 5) rfl q5 0 rfl gt.toList _ hmt hut rfl HSLT.out ?_; simp only [Array.toArray_toList])
    | (refine wpList_load_mid_want (by rfl) 44 (.tmp 6) rfl q6 0 rfl gu.toList _ hmu hut rfl HSLU.out ?_; simp only [Array.toArray_toList])
    | (refine wpList_load_mid_want (by rfl) 44 (.tmp 9) rfl q9 0 rfl gx.toList _ hmx hut rfl HSLX.out ?_; simp only [Array.toArray_toList]))
  refine (VA3.out _ (HS.out.grew GD) rRD rD).mono ?_
  rintro e wN ⟨rfl, gg⟩
  have zx' := zx.grew gg
  have y3' := y3.grew gg
  have yk' := yk.grew gg
  have yt' := yt.grew gg
  have yu' := yu.grew gg
  have GD' := grew_trans GD gg
  have rD' := rD.gr gg
  have rRD' := rRD.gr gg
  have r2D' := r2D.gr gg
  clear zx y3 yk yt yu GD rD rRD r2D hmx hm3 hmk hmt hmu gg
  have zx := zx'
  have y3 := y3'
  have yk := yk'
  have yt := yt'
  have yu := yu'
  have GD := GD'
  have rD := rD'
  have rRD := rRD'
  have r2D := r2D'
  clear zx' y3' yk' yt' yu' GD' rD' rRD' r2D'
  have hmx := zx.cell
  have hm3 := y3.cell
  have hmk := yk.cell
  have hmt := yt.cell
  have hmu := yu.cell
  go_wp2_with (first
    | (refine wpList_load_mid_want (by rfl) 36 (.tmp 2) rfl qk 0 rfl kc.toList _ hmk hkt rfl HSKL.out ?_; simp only [Array.toArray_toList])
    | (refine wpList_load_mid_want (by rfl) 44 (.tmp 3) rfl q3 0 rfl gs.toList _ hm3 hut rfl HSL1.out ?_; simp only [Array.toArray_toList])
    | (refine wpList_load_mid_want (by rfl) 44 (.tmp 5) rfl q5 0 rfl gt.toList _ hmt hut rfl HSLT.out ?_; simp only [Array.toArray_toList])
    | (refine wpList_load_mid_want (by rfl) 44 (.tmp 6) rfl q6 0 rfl gu.toList _ hmu hut rfl HSLU.out ?_; simp only [Array.toArray_toList])
    | (refine wpList_load_mid_want (by rfl) 44 (.tmp 9) rfl q9 0 rfl gx.toList _ hmx hut rfl HSLX.out ?_; simp only [Array.toArray_toList]))
  refine (SQ.out _ r2D rD).mono ?_
  rintro e wN ⟨rfl, gg⟩
  have zx' := zx.grew gg
  have y3' := y3.grew gg
  have yk' := yk.grew gg
  have yt' := yt.grew gg
  have yu' := yu.grew gg
  have GD' := grew_trans GD gg
  have rD' := rD.gr gg
  have rRD' := rRD.gr gg
  have r2D' := r2D.gr gg
  clear zx y3 yk yt yu GD rD rRD r2D hmx hm3 hmk hmt hmu gg
  have zx := zx'
  have y3 := y3'
  have yk := yk'
  have yt := yt'
  have yu := yu'
  have GD := GD'
  have rD := rD'
  have rRD := rRD'
  have r2D := r2D'
  clear zx' y3' yk' yt' yu' GD' rD' rRD' r2D'
  have hmx := zx.cell
  have hm3 := y3.cell
  have hmk := yk.cell
  have hmt := yt.cell
  have hmu := yu.cell
  go_wp2_with (first
    | (refine wpList_load_mid_want (by rfl) 36 (.tmp 2) rfl qk 0 rfl kc.toList _ hmk hkt rfl HSKL.out ?_; simp only [Array.toArray_toList])
    | (refine wpList_load_mid_want (by rfl) 44 (.tmp 3) rfl q3 0 rfl gs.toList _ hm3 hut rfl HSL1.out ?_; simp only [Array.toArray_toList])
    | (refine wpList_load_mid_want (by rfl) 44 (.tmp 5) rfl q5 0 rfl gt.toList _ hmt hut rfl HSLT.out ?_; simp only [Array.toArray_toList])
    | (refine wpList_load_mid_want (by rfl) 44 (.tmp 6) rfl q6 0 rfl gu.toList _ hmu hut rfl HSLU.out ?_; simp only [Array.toArray_toList])
    | (refine wpList_load_mid_want (by rfl) 44 (.tmp 9) rfl q9 0 rfl gx.toList _ hmx hut rfl HSLX.out ?_; simp only [Array.toArray_toList]))
  refine (SA.out _ rD rD).mono ?_
  rintro e wN ⟨rfl, gg⟩
  have zx' := zx.grew gg
  have y3' := y3.grew gg
  have yk' := yk.grew gg
  have yt' := yt.grew gg
  have yu' := yu.grew gg
  have GD' := grew_trans GD gg
  have rD' := rD.gr gg
  have rRD' := rRD.gr gg
  have r2D' := r2D.gr gg
  clear zx y3 yk yt yu GD rD rRD r2D hmx hm3 hmk hmt hmu gg
  have zx := zx'
  have y3 := y3'
  have yk := yk'
  have yt := yt'
  have yu := yu'
  have GD := GD'
  have rD := rD'
  have rRD := rRD'
  have r2D := r2D'
  clear zx' y3' yk' yt' yu' GD' rD' rRD' r2D'
  have hmx := zx.cell
  have hm3 := y3.cell
  have hmk := yk.cell
  have hmt := yt.cell
  have hmu := yu.cell
  go_wp2_with (first
    | (refine wpList_load_mid_want (by rfl) 36 (.tmp 2) rfl qk 0 rfl kc.toList _ hmk hkt rfl HSKL.out ?_; simp only [Array.toArray_toList])
    | (refine wpList_load_mid_want (by rfl) 44 (.tmp 3) rfl q3 0 rfl gs.toList _ hm3 hut rfl HSL1.out ?_; simp only [Array.toArray_toList])
    | (refine wpList_load_mid_want (by rfl) 44 (.tmp 5) rfl q5 0 rfl gt.toList _ hmt hut rfl HSLT.out ?_; simp only [Array.toArray_toList])
    | (refine wpList_load_mid_want (by rfl) 44 (.tmp 6) rfl q6 0 rfl gu.toList _ hmu hut rfl HSLU.out ?_; simp only [Array.toArray_toList])
    | (refine wpList_load_mid_want (by rfl) 44 (.tmp 9) rfl q9 0 rfl gx.toList _ hmx hut rfl HSLX.out ?_; simp only [Array.toArray_toList]))
  refine (CYK.out _).mono ?_
  rintro e wN ⟨rfl, gg⟩
  have zx' := zx.grew gg
  have y3' := y3.grew gg
  have yk' := yk.grew gg
  have yt' := yt.grew gg
  have yu' := yu.grew gg
  have GD' := grew_trans GD gg
  have rD' := rD.gr gg
  have rRD' := rRD.gr gg
  have r2D' := r2D.gr gg
  clear zx y3 yk yt yu GD rD rRD r2D hmx hm3 hmk hmt hmu gg
  have zx := zx'
  have y3 := y3'
  have yk := yk'
  have yt := yt'
  have yu := yu'
  have GD := GD'
  have rD := rD'
  have rRD := rRD'
  have r2D := r2D'
  clear zx' y3' yk' yt' yu' GD' rD' rRD' r2D'
  have hmx := zx.cell
  have hm3 := y3.cell
  have hmk := yk.cell
  have hmt := yt.cell
  have hmu := yu.cell
  go_wp2_with (first
    | (refine wpList_load_mid_want (by rfl) 36 (.tmp 2) rfl qk 0 rfl kc.toList _ hmk hkt rfl HSKL.out ?_; simp only [Array.toArray_toList])
    | (refine wpList_load_mid_want (by rfl) 44 (.tmp 3) rfl q3 0 rfl gs.toList _ hm3 hut rfl HSL1.out ?_; simp only [Array.toArray_toList])
    | (refine wpList_load_mid_want (by rfl) 44 (.tmp 5) rfl q5 0 rfl gt.toList _ hmt hut rfl HSLT.out ?_; simp only [Array.toArray_toList])
    | (refine wpList_load_mid_want (by rfl) 44 (.tmp 6) rfl q6 0 rfl gu.toList _ hmu hut rfl HSLU.out ?_; simp only [Array.toArray_toList])
    | (refine wpList_load_mid_want (by rfl) 44 (.tmp 9) rfl q9 0 rfl gx.toList _ hmx hut rfl HSLX.out ?_; simp only [Array.toArray_toList]))
  refine (CW.out _ (HS.out.grew GD)).mono ?_
  rintro e wN ⟨rfl, gg⟩
  have zx' := zx.grew gg
  have y3' := y3.grew gg
  have yk' := yk.grew gg
  have yt' := yt.grew gg
  have yu' := yu.grew gg
  have GD' := grew_trans GD gg
  have rD' := rD.gr gg
  have rRD' := rRD.gr gg
  have r2D' := r2D.gr gg
  clear zx y3 yk yt yu GD rD rRD r2D hmx hm3 hmk hmt hmu gg
  have zx := zx'
  have y3 := y3'
  have yk := yk'
  have yt := yt'
  have yu := yu'
  have GD := GD'
  have rD := rD'
  have rRD := rRD'
  have r2D := r2D'
  clear zx' y3' yk' yt' yu' GD' rD' rRD' r2D'
  have hmx := zx.cell
  have hm3 := y3.cell
  have hmk := yk.cell
  have hmt := yt.cell
  have hmu := yu.cell
  go_wp2_with (first
    | (refine wpList_load_mid_want (by rfl) 36 (.tmp 2) rfl qk 0 rfl kc.toList _ hmk hkt rfl HSKL.out ?_; simp only [Array.toArray_toList])
    | (refine wpList_load_mid_want (by rfl) 44 (.tmp 3) rfl q3 0 rfl gs.toList _ hm3 hut rfl HSL1.out ?_; simp only [Array.toArray_toList])
    | (refine wpList_load_mid_want (by rfl) 44 (.tmp 5) rfl q5 0 rfl gt.toList _ hmt hut rfl HSLT.out ?_; simp only [Array.toArray_toList])
    | (refine wpList_load_mid_want (by rfl) 44 (.tmp 6) rfl q6 0 rfl gu.toList _ hmu hut rfl HSLU.out ?_; simp only [Array.toArray_toList])
    | (refine wpList_load_mid_want (by rfl) 44 (.tmp 9) rfl q9 0 rfl gx.toList _ hmx hut rfl HSLX.out ?_; simp only [Array.toArray_toList]))
  refine (CD.out _ (HS.out.grew GD)).mono ?_
  rintro e wN ⟨rfl, gg⟩
  have zx' := zx.grew gg
  have y3' := y3.grew gg
  have yk' := yk.grew gg
  have yt' := yt.grew gg
  have yu' := yu.grew gg
  have GD' := grew_trans GD gg
  have rD' := rD.gr gg
  have rRD' := rRD.gr gg
  have r2D' := r2D.gr gg
  clear zx y3 yk yt yu GD rD rRD r2D hmx hm3 hmk hmt hmu gg
  have zx := zx'
  have y3 := y3'
  have yk := yk'
  have yt := yt'
  have yu := yu'
  have GD := GD'
  have rD := rD'
  have rRD := rRD'
  have r2D := r2D'
  clear zx' y3' yk' yt' yu' GD' rD' rRD' r2D'
  have hmx := zx.cell
  have hm3 := y3.cell
  have hmk := yk.cell
  have hmt := yt.cell
  have hmu := yu.cell
  go_wp2_with (first
    | (refine wpList_load_mid_want (by rfl) 36 (.tmp 2) rfl qk 0 rfl kc.toList _ hmk hkt rfl HSKL.out ?_; simp only [Array.toArray_toList])
    | (refine wpList_load_mid_want (by rfl) 44 (.tmp 3) rfl q3 0 rfl gs.toList _ hm3 hut rfl HSL1.out ?_; simp only [Array.toArray_toList])
    | (refine wpList_load_mid_want (by rfl) 44 (.tmp 5) rfl q5 0 rfl gt.toList _ hmt hut rfl HSLT.out ?_; simp only [Array.toArray_toList])
    | (refine wpList_load_mid_want (by rfl) 44 (.tmp 6) rfl q6 0 rfl gu.toList _ hmu hut rfl HSLU.out ?_; simp only [Array.toArray_toList])
    | (refine wpList_load_mid_want (by rfl) 44 (.tmp 9) rfl q9 0 rfl gx.toList _ hmx hut rfl HSLX.out ?_; simp only [Array.toArray_toList]))
  refine (CW.out _ (HS.out.grew GD)).mono ?_
  rintro e wN ⟨rfl, gg⟩
  have zx' := zx.grew gg
  have y3' := y3.grew gg
  have yk' := yk.grew gg
  have yt' := yt.grew gg
  have yu' := yu.grew gg
  have GD' := grew_trans GD gg
  have rD' := rD.gr gg
  have rRD' := rRD.gr gg
  have r2D' := r2D.gr gg
  clear zx y3 yk yt yu GD rD rRD r2D hmx hm3 hmk hmt hmu gg
  have zx := zx'
  have y3 := y3'
  have yk := yk'
  have yt := yt'
  have yu := yu'
  have GD := GD'
  have rD := rD'
  have rRD := rRD'
  have r2D := r2D'
  clear zx' y3' yk' yt' yu' GD' rD' rRD' r2D'
  have hmx := zx.cell
  have hm3 := y3.cell
  have hmk := yk.cell
  have hmt := yt.cell
  have hmu := yu.cell
  go_wp2_with (first
    | (refine wpList_load_mid_want (by rfl) 36 (.tmp 2) rfl qk 0 rfl kc.toList _ hmk hkt rfl HSKL.out ?_; simp only [Array.toArray_toList])
    | (refine wpList_load_mid_want (by rfl) 44 (.tmp 3) rfl q3 0 rfl gs.toList _ hm3 hut rfl HSL1.out ?_; simp only [Array.toArray_toList])
    | (refine wpList_load_mid_want (by rfl) 44 (.tmp 5) rfl q5 0 rfl gt.toList _ hmt hut rfl HSLT.out ?_; simp only [Array.toArray_toList])
    | (refine wpList_load_mid_want (by rfl) 44 (.tmp 6) rfl q6 0 rfl gu.toList _ hmu hut rfl HSLU.out ?_; simp only [Array.toArray_toList])
    | (refine wpList_load_mid_want (by rfl) 44 (.tmp 9) rfl q9 0 rfl gx.toList _ hmx hut rfl HSLX.out ?_; simp only [Array.toArray_toList]))
  refine (CH.out _).mono ?_
  rintro e w' ⟨rfl, rfl⟩
  go_wp2_with fail
  go_ret
  exact ⟨by simp, GD⟩
end Go.Proofs.YtaeopobofmpioaaGreatDoor

namespace Go.Proofs.YtaeopobofmpioaaGreatDoor
set_option linter.unusedSimpArgs false
set_option linter.unusedVariables false
open Go.RowKit
set_option linter.unusedVariables false
set_option linter.unusedSimpArgs false
set_option maxRecDepth 100000 in
set_option maxHeartbeats 900000 in
theorem stampMany_law (seed : Int) (hsd : U64 seed) (n at_ : Int) (hn : 0 ≤ n ∧ n ≤ 255) (hat : 0 ≤ at_ ∧ at_ ≤ 65535) (w : World) (hS : Std w) :
    Calls Tryz.prog 7 #[.int .u64 seed, .int .u8 n, .int .u16 at_] w fun e w' => e = .returned (.bool true) ∧ Grew w w' := by
  have HS := Lib.hid hS
  have CK := Lib.hid (sknown_ok w hS)
  have CE := Lib.hid (fun W => keys_ok seed hsd 3 (by omega) W)
  have hkt := Tryz.underlying36
  have hut := Tryz.underlying44
  obtain ⟨m, hm, hm12⟩ : ∃ m : Nat, n % 12 = (m : Int) ∧ m < 12 := ⟨(n % 12).toNat, by omega, by omega⟩
  clear hS hsd
  go_enter Tryz.func7, Tryz.ntmps7
  go_wp2_with fail
  refine CK.out.mono ?_
  rintro e w0 ⟨rfl, G0⟩
  clear CK
  have CE2 := CE.out w0
  rw [show ((3 : Nat) : Int) = 3 from rfl] at CE2
  go_wp2_with fail
  refine CE2.mono ?_
  clear CE CE2
  rintro e w1 ⟨LA, Lc, RA, Rc, p, rfl, KS, rL, rR, FL0, FR0, gg⟩
  have G1 := grew_trans G0 gg
  obtain ⟨lad, hLA, -, -⟩ := rL 0 (by simp [ptrL])
  subst hLA
  have hB := G0.size
  obtain ⟨kc, hkc⟩ : ∃ v, kyS 1 RA 4 Rc 3 = v := ⟨_, rfl⟩
  have HSK : Hid ((Tryz.prog.info? 36).map (·.size) = some (kyS 1 RA 4 Rc 3).size) := Lib.hid (by kernel_rfl)
  have HSKL : Hid ((Tryz.prog.info? 36).map (·.size) = some (kyS 1 RA 4 Rc 3).toList.length) := Lib.hid (by kernel_rfl)
  have HOK : Hid ((kyS 1 RA 4 Rc 3).all (·.oneCell') = true) := Lib.hid (by simp [kyS, Value.oneCell'])
  have zt := Ag.new w1 36 (#[.int .i64 0, .slice none 0 0, .int .i64 0])
  have HTK : Hid ((w1.alloc (.cells (#[.int .i64 0, .slice none 0 0, .int .i64 0]) 36)).there w1.heap.size 0 (kyS 1 RA 4 Rc 3).size) := Lib.hid (zt.thereN 3 rfl)
  have z2 := Ag.set (vs := (kyS 1 RA 4 Rc 3).toList) zt rfl
  have g2 : Grew w1 ((w1.alloc (.cells (#[.int .i64 0, .slice none 0 0, .int .i64 0]) 36)).setCells w1.heap.size 0 (kyS 1 RA 4 Rc 3).toList) := setCells_grew (o := 0) (b := w1.heap.size) (kyS 1 RA 4 Rc 3).toList (grew_alloc (grew_refl w1) _) (Nat.le_refl _)
  obtain ⟨w2, hw2⟩ : ∃ v, (w1.alloc (.cells (#[.int .i64 0, .slice none 0 0, .int .i64 0]) 36)).setCells w1.heap.size 0 (kyS 1 RA 4 Rc 3).toList = v := ⟨_, rfl⟩
  rw [hw2] at z2 g2
  have HW2 := Lib.hid hw2
  have KS2 := KS.grew g2
  have rL2 := rL.gr g2
  have rR2 := rR.gr g2
  have G2 := grew_trans G1 g2
  have hpq : p 3 + 1 < w1.heap.size := (KS.key 3 (by omega)).key.lt
  have hwp0 : w.heap.size ≤ p 3 + 1 := by have := KS.low 3 (by omega); omega
  clear hw2 zt g2 KS rL rR G1 gg G0 hB
  obtain ⟨c2, hc2⟩ : ∃ u, w2.cell? (lad.add 3) = some u ∧ u = .pointer (some ⟨p 3 + 1, 0, none⟩) := by
    obtain ⟨ad, e, _, hc⟩ := rL2 3 (by simp [ptrL])
    cases e
    exact ⟨_, hc, by simp [ptrL]⟩
  obtain ⟨hc2, rfl⟩ := hc2
  rw [show lad.add 3 = ⟨lad.block, lad.off + 3, none⟩ from by unfold Addr.add; simp] at hc2
  rw [hkc] at z2 HSK HSKL HOK HTK HW2 ⊢
  have HKC := Lib.hid hkc
  have K2 := KS2.key 3 (by omega)
  rw [show (2 : Nat) ^ 3 = 8 from rfl, show ((3 : Nat) : Int) = 3 from rfl] at K2
  have FL : Hid (lad.block ≠ p 3 + 1) := Lib.hid (FL0 lad rfl 3 (by omega)).2
  have FR : Hid (∀ ad, RA = some ad → ad.block ≠ p 3 + 1) := Lib.hid (fun ad e => (FR0 ad e 3 (by omega)).2)
  clear hkc FL0 FR0 KS2 rL2
  obtain ⟨p3, hp3⟩ : ∃ q, p 3 = q := ⟨_, rfl⟩
  rw [hp3] at K2 FL FR hc2 hpq hwp0
  clear hp3
  obtain ⟨L, hL⟩ : ∃ l, ksL seed 3 3 = l := ⟨_, rfl⟩
  obtain ⟨sd, hsd⟩ : ∃ z, sdI seed 3 = z := ⟨_, rfl⟩
  have hL8 : L.length = 8 := by rw [← hL]; exact pubsL_length _ _
  have HLB : Hid (∀ x ∈ L, x < 18446744073709551616) := Lib.hid (by rw [← hL]; exact pubsL_lt _ _)
  have HPT : Hid (∀ j, j < 8 → (pathN L j).length = 3) := Lib.hid (fun j hj => by rw [← hL]; unfold ksL; exact path_len _ 3 (by omega) j hj)
  have HSD : Hid (U64 sd) := Lib.hid (by rw [← hsd]; exact sdI_u64 _ _)
  have HVA : Hid (∀ (j cm : Nat) (a : Int), j < 8 → tmB a = true → vaE 1 (rtL seed 3 4) 3 cm 3 a 3 (j : Int) (signF (secN sd (j : Int)) (stD cm 3 a)) (pathN L j) = 0) := Lib.hid (fun j cm a hj ha => by
    have := va_yes seed 3 (by omega) 3 j (by omega) hj cm a ha
    rw [hsd, hL] at this
    exact this)
  have hRl : (rtL seed 3 4).length = 4 := rt_len _ _ _
  have HRB : Hid (∀ x ∈ rtL seed 3 4, x < 18446744073709551616) := Lib.hid (rt_lt _ _ _ (by omega))
  rw [hL, hsd] at K2
  clear hL hsd
  have HKL := Lib.hid hL8
  have CMK := Lib.hid (fun (j : Nat) (hj : j < 8) W hW hK => stmake_ok (p3 + 1) p3 3 sd L j 8 (by rw [HKL.out]; omega) (by rw [HKL.out]; omega) (by rw [HKL.out]; omega) (by rw [HKL.out]; decide) HLB.out HSD.out (fun i hi => by rw [HPT.out i (by rw [HKL.out] at hi; exact hi)]; omega) j (by omega) 3 (1 + at_) ⟨by omega, by omega⟩ ⟨by omega, by omega⟩ (decide_eq_true ⟨by omega, by omega⟩) (by rw [HKL.out]; exact hj) hj W hW hK)
  have CME := Lib.hid (fun (cm : Nat) (hc : cm < 100) W hW hK => stmake_err (p3 + 1) p3 3 sd L 8 8 (by rw [HKL.out]; omega) (by rw [HKL.out]; omega) (by rw [HKL.out]; omega) (by rw [HKL.out]; decide) HLB.out HSD.out (fun i hi => by rw [HPT.out i (by rw [HKL.out] at hi; exact hi)]; omega) cm (by omega) 3 (1 + at_) ⟨by omega, by omega⟩ ⟨by omega, by omega⟩ (decide_eq_true ⟨by omega, by omega⟩) (.inl HKL.out.symm) W hW hK)
  have HER : Hid (soE L 8 8 = 14) := Lib.hid (by unfold soE; rw [if_pos (by rw [HKL.out]; omega)])
  have CVV := Lib.hid (fun (j : Nat) (hj : j < 8) (A : Option Addr) (c : Nat) W hW h1 h2 => stvalid_ok 1 (by omega) (rtL seed 3 4) RA Rc 3 j 3 (1 + at_) 3 (j : Int) (signF (secN sd (j : Int)) (stD j 3 (1 + at_))) A c (pathN L j) (by omega) ⟨by omega, by omega⟩ ⟨by omega, by omega⟩ ⟨by omega, by omega⟩ ⟨by omega, by omega⟩ (by rw [HPT.out j hj]; omega) (fun i hi => signF_lt _ _ _ (secN_lt _ _ _)) (pathN_lt L j HLB.out) (by rw [hRl]; omega) HRB.out W hW h1 h2)
  have hwp : w.heap.size ≤ p3 + 1 := hwp0
  have hqp : p3 + 1 < w1.heap.size := hpq
  clear hL8 hwp0 hpq p
  go_wp2_with (with_reducible refine wpList_store_mid rfl 36 (.tmp 8) (.tmp 19) rfl w1.heap.size 0 kc rfl rfl HTK.out HSK.out HOK.out ?_; rw [HW2.out]; clear HW2 HTK; generalize w1.heap.size = qk at *)
  rw [hm]
  clear hm
  go_loopw [10] (fun iv wr => ∃ k nx : Nat, k ≤ m ∧ nx = min k 8 ∧ iv = .int .i64 k ∧ KyAt wr (p3 + 1) p3 3 sd L nx 8 ∧ Ag wr qk kc.toList ∧ wr.cell? ⟨lad.block, lad.off + 3, none⟩ = some (.pointer (some ⟨p3 + 1, 0, none⟩)) ∧ Rd wr wr.heap.size RA (u64L (rtL seed 3 4)) ∧ Grew w wr) (fun iv _ => m - (intOf iv).toNat)
  case atStart => exact ⟨0, 0, Nat.zero_le _, by omega, rfl, K2, z2, hc2, rR2, G2⟩
  case round =>
    clear K2 z2 hc2 rR2 G2
    obtain ⟨k, nx, hk, hnx, rfl, K, zk, hc, rR, G⟩ := hrel
    by_cases hlt : k < m
    · have hk0 : (0 : Int) ≤ (k : Int) := by omega
      have hk1 : (k : Int) < (m : Int) := by omega
      have e1 : IntKind.i64.wrap ((k : Int) + 1) = ((k + 1 : Nat) : Int) := by rw [IntWalk.i64_in _ (by omega)]; omega
      have hk12 : k < 12 := by omega
      have HK := Lib.hid hlt
      clear hlt hk
      by_cases h8 : k < 8
      · obtain rfl : k = nx := by omega
        clear hnx
        have d8 : ¬ (8 : Int) ≤ (k : Int) := by omega
        go_wp2_with fail
        refine (CMK.out k h8 wr (HS.out.grew G) K).mono ?_
        rintro e w3 ⟨⟨A1, c1, rfl, r3, hA1⟩, T3, K3⟩
        have zk3 := zk.kp (kp_tn T3) (show ¬ qk = p3 + 1 by omega)
        have rR3 := (rR.kp (kp_tn T3) (Nat.le_refl _) (fun ad e _ (h : ad.block = p3 + 1) => FR.out ad e h)).more T3.size
        have c3 : w3.cell? ⟨lad.block, lad.off + 3, none⟩ = some (.pointer (some ⟨p3 + 1, 0, none⟩)) := (World.cell?_of_block (T3.block _ (cell_blk hc) (fun e => FL.out (by injection e)))).trans hc
        have G3 := grew_tn G T3 hwp
        clear zk rR hc G T3
        obtain ⟨gs, hgs⟩ : ∃ g, stC k 3 (1 + at_) 3 (k : Int) (signF (secN sd (k : Int)) (stD k 3 (1 + at_))) (.slice A1 (pathN L k).length c1) = g := ⟨_, rfl⟩
        have HZS : Hid (gs.size = 24) := Lib.hid (by rw [← hgs]; rfl)
        have HSS1 : Hid ((Tryz.prog.info? 44).map (·.size) = some gs.size) := Lib.hid (by rw [← hgs]; exact st_info)
        have HSL1 : Hid ((Tryz.prog.info? 44).map (·.size) = some gs.toList.length) := Lib.hid (by rw [← hgs]; exact st_info)
        have HOS1 : Hid (gs.all (·.oneCell') = true) := Lib.hid (by rw [← hgs]; exact stC_one _ _ _ _ _ _ A1 _ c1)
        have HG4 : Hid (gs.toList[4]? = some (.int .i64 (k : Int))) := Lib.hid (by rw [← hgs]; rfl)
        have CV := CVV.out k h8 A1 c1
        simp only [hgs, HVA.out k k (1 + at_) h8 (decide_eq_true ⟨by omega, by omega⟩)] at CV
        rw [show kyS 1 RA (rtL seed 3 4).length Rc 3 = kc from by rw [hRl]; exact HKC.out] at CV
        rw [hgs]
        clear hgs hA1
        have zt := Ag.new w3 44 (#[.int .u64 0, .int .i64 0, .int .i64 0, .int .i64 0, .int .i64 0, .int .u64 0, .int .u64 0, .int .u64 0, .int .u64 0, .int .u64 0, .int .u64 0, .int .u64 0, .int .u64 0, .int .u64 0, .int .u64 0, .int .u64 0, .int .u64 0, .int .u64 0, .int .u64 0, .int .u64 0, .int .u64 0, .int .u64 0, .int .u64 0, .slice none 0 0])
        have HT4 : Hid ((w3.alloc (.cells (#[.int .u64 0, .int .i64 0, .int .i64 0, .int .i64 0, .int .i64 0, .int .u64 0, .int .u64 0, .int .u64 0, .int .u64 0, .int .u64 0, .int .u64 0, .int .u64 0, .int .u64 0, .int .u64 0, .int .u64 0, .int .u64 0, .int .u64 0, .int .u64 0, .int .u64 0, .int .u64 0, .int .u64 0, .int .u64 0, .int .u64 0, .slice none 0 0]) 44)).there w3.heap.size 0 gs.size) := Lib.hid (by rw [HZS.out]; exact zt.thereN 24 rfl)
        have z4 := Ag.set (vs := gs.toList) zt (by rw [Array.length_toList, HZS.out]; rfl)
        have g4 : Grew w3 ((w3.alloc (.cells (#[.int .u64 0, .int .i64 0, .int .i64 0, .int .i64 0, .int .i64 0, .int .u64 0, .int .u64 0, .int .u64 0, .int .u64 0, .int .u64 0, .int .u64 0, .int .u64 0, .int .u64 0, .int .u64 0, .int .u64 0, .int .u64 0, .int .u64 0, .int .u64 0, .int .u64 0, .int .u64 0, .int .u64 0, .int .u64 0, .int .u64 0, .slice none 0 0]) 44)).setCells w3.heap.size 0 gs.toList) := setCells_grew (o := 0) (b := w3.heap.size) gs.toList (grew_alloc (grew_refl w3) _) (Nat.le_refl _)
        obtain ⟨w4, hw⟩ : ∃ v, (w3.alloc (.cells (#[.int .u64 0, .int .i64 0, .int .i64 0, .int .i64 0, .int .i64 0, .int .u64 0, .int .u64 0, .int .u64 0, .int .u64 0, .int .u64 0, .int .u64 0, .int .u64 0, .int .u64 0, .int .u64 0, .int .u64 0, .int .u64 0, .int .u64 0, .int .u64 0, .int .u64 0, .int .u64 0, .int .u64 0, .int .u64 0, .int .u64 0, .slice none 0 0]) 44)).setCells w3.heap.size 0 gs.toList = v := ⟨_, rfl⟩
        rw [hw] at z4 g4
        have HW4 := Lib.hid hw
        have zk4 := zk3.grew g4
        have K4 := K3.grew g4
        have rR4 := rR3.gr g4
        have c4 := (g4.cell (p := ⟨lad.block, lad.off + 3, none⟩) (cell_blk c3)).trans c3
        have G4 := grew_trans G3 g4
        clear hw zt g4 zk3 K3 rR3 c3 G3
        have r4 := (r3.gr (HW4.out ▸ (setCells_grew (o := 0) (b := w3.heap.size) gs.toList (grew_alloc (grew_refl w3) (.cells (#[.int .u64 0, .int .i64 0, .int .i64 0, .int .i64 0, .int .i64 0, .int .u64 0, .int .u64 0, .int .u64 0, .int .u64 0, .int .u64 0, .int .u64 0, .int .u64 0, .int .u64 0, .int .u64 0, .int .u64 0, .int .u64 0, .int .u64 0, .int .u64 0, .int .u64 0, .int .u64 0, .int .u64 0, .int .u64 0, .int .u64 0, .slice none 0 0]) 44)) (Nat.le_refl _))))
        have hm4 := z4.cell
        have hmk := zk4.cell
        have c44 : w4.cell? ⟨w3.heap.size, 4, none⟩ = some (.int .i64 (k : Int)) := by simpa using z4.cell 4 _ HG4.out
        have CV4 := CV w4 (HS.out.grew G4) rR4 r4
        clear CV r3
        go_wp2_with (first
          | (with_reducible refine wpList_store_mid rfl 44 (.tmp 11) (.tmp 41) rfl w3.heap.size 0 gs rfl rfl HT4.out HSS1.out HOS1.out ?_; rw [HW4.out]; clear HT4)
          | (refine wpList_load_mid_want (by rfl) 36 (.tmp 8) rfl qk 0 rfl kc.toList _ hmk hkt rfl HSKL.out ?_; simp only [Array.toArray_toList])
          | (refine wpList_load_mid_want (by rfl) 44 (.tmp 11) rfl w3.heap.size 0 rfl gs.toList _ hm4 hut rfl HSL1.out ?_; simp only [Array.toArray_toList]))
        refine CV4.mono ?_
        rintro e w5 ⟨rfl, gg⟩
        have K5 := K4.grew gg
        have zk5 := zk4.grew gg
        have c5 := (gg.cell (p := ⟨lad.block, lad.off + 3, none⟩) (cell_blk c4)).trans c4
        have rR5 := rR4.gr gg
        have G5 := grew_trans G4 gg
        clear K4 zk4 c4 rR4 G4 gg z4 hm4 hmk c44 CV4 r4 HW4
        go_wp2_with fail
        go_roundw
        case rel => exact ⟨k + 1, k + 1, by have := HK.out; omega, by omega, by go_num, K5, zk5, c5, rR5, G5⟩
        case measure => have := HK.out; simp [intOf]; omega
      · obtain rfl : nx = 8 := by omega
        clear hnx
        have d8 : (8 : Int) ≤ (k : Int) := by omega
        go_wp2_with fail
        refine (CME.out k (by omega) wr (HS.out.grew G) K).mono ?_
        rw [HER.out]
        rintro e w3 ⟨rfl, T3, K3⟩
        have zk3 := zk.kp (kp_tn T3) (show ¬ qk = p3 + 1 by omega)
        have rR3 := (rR.kp (kp_tn T3) (Nat.le_refl _) (fun ad e _ (h : ad.block = p3 + 1) => FR.out ad e h)).more T3.size
        have c3 : w3.cell? ⟨lad.block, lad.off + 3, none⟩ = some (.pointer (some ⟨p3 + 1, 0, none⟩)) := (World.cell?_of_block (T3.block _ (cell_blk hc) (fun e => FL.out (by injection e)))).trans hc
        have G3 := grew_tn G T3 hwp
        clear zk rR hc G T3
        obtain ⟨gs, hgs⟩ : ∃ g, (#[.int .u64 0, .int .i64 0, .int .i64 0, .int .i64 0, .int .i64 0, .int .u64 0, .int .u64 0, .int .u64 0, .int .u64 0, .int .u64 0, .int .u64 0, .int .u64 0, .int .u64 0, .int .u64 0, .int .u64 0, .int .u64 0, .int .u64 0, .int .u64 0, .int .u64 0, .int .u64 0, .int .u64 0, .int .u64 0, .int .u64 0, .slice none 0 0] : Array Value) = g := ⟨_, rfl⟩
        have HZS : Hid (gs.size = 24) := Lib.hid (by rw [← hgs]; rfl)
        have HSS1 : Hid ((Tryz.prog.info? 44).map (·.size) = some gs.size) := Lib.hid (by rw [← hgs]; exact st_info)
        have HOS1 : Hid (gs.all (·.oneCell') = true) := Lib.hid (by rw [← hgs]; simp [Value.oneCell'])
        rw [hgs]
        clear hgs
        have zt := Ag.new w3 44 (#[.int .u64 0, .int .i64 0, .int .i64 0, .int .i64 0, .int .i64 0, .int .u64 0, .int .u64 0, .int .u64 0, .int .u64 0, .int .u64 0, .int .u64 0, .int .u64 0, .int .u64 0, .int .u64 0, .int .u64 0, .int .u64 0, .int .u64 0, .int .u64 0, .int .u64 0, .int .u64 0, .int .u64 0, .int .u64 0, .int .u64 0, .slice none 0 0])
        have HT4 : Hid ((w3.alloc (.cells (#[.int .u64 0, .int .i64 0, .int .i64 0, .int .i64 0, .int .i64 0, .int .u64 0, .int .u64 0, .int .u64 0, .int .u64 0, .int .u64 0, .int .u64 0, .int .u64 0, .int .u64 0, .int .u64 0, .int .u64 0, .int .u64 0, .int .u64 0, .int .u64 0, .int .u64 0, .int .u64 0, .int .u64 0, .int .u64 0, .int .u64 0, .slice none 0 0]) 44)).there w3.heap.size 0 gs.size) := Lib.hid (by rw [HZS.out]; exact zt.thereN 24 rfl)
        have z4 := Ag.set (vs := gs.toList) zt (by rw [Array.length_toList, HZS.out]; rfl)
        have g4 : Grew w3 ((w3.alloc (.cells (#[.int .u64 0, .int .i64 0, .int .i64 0, .int .i64 0, .int .i64 0, .int .u64 0, .int .u64 0, .int .u64 0, .int .u64 0, .int .u64 0, .int .u64 0, .int .u64 0, .int .u64 0, .int .u64 0, .int .u64 0, .int .u64 0, .int .u64 0, .int .u64 0, .int .u64 0, .int .u64 0, .int .u64 0, .int .u64 0, .int .u64 0, .slice none 0 0]) 44)).setCells w3.heap.size 0 gs.toList) := setCells_grew (o := 0) (b := w3.heap.size) gs.toList (grew_alloc (grew_refl w3) _) (Nat.le_refl _)
        obtain ⟨w4, hw⟩ : ∃ v, (w3.alloc (.cells (#[.int .u64 0, .int .i64 0, .int .i64 0, .int .i64 0, .int .i64 0, .int .u64 0, .int .u64 0, .int .u64 0, .int .u64 0, .int .u64 0, .int .u64 0, .int .u64 0, .int .u64 0, .int .u64 0, .int .u64 0, .int .u64 0, .int .u64 0, .int .u64 0, .int .u64 0, .int .u64 0, .int .u64 0, .int .u64 0, .int .u64 0, .slice none 0 0]) 44)).setCells w3.heap.size 0 gs.toList = v := ⟨_, rfl⟩
        rw [hw] at z4 g4
        have HW4 := Lib.hid hw
        have zk4 := zk3.grew g4
        have K4 := K3.grew g4
        have rR4 := rR3.gr g4
        have c4 := (g4.cell (p := ⟨lad.block, lad.off + 3, none⟩) (cell_blk c3)).trans c3
        have G4 := grew_trans G3 g4
        clear hw zt g4 zk3 K3 rR3 c3 G3
        go_wp2_with (with_reducible refine wpList_store_mid rfl 44 (.tmp 11) (.tmp 41) rfl w3.heap.size 0 gs rfl rfl HT4.out HSS1.out HOS1.out ?_; rw [HW4.out]; clear HT4)
        go_roundw
        case rel => exact ⟨k + 1, 8, by have := HK.out; omega, by omega, by go_num, K4, zk4, c4, rR4, G4⟩
        case measure => have := HK.out; simp [intOf]; omega
    · obtain rfl : k = m := by omega
      have CL := left_ok (p3 + 1) p3 3 sd L nx 8 (by rw [HKL.out]; omega) (by rw [HKL.out]; omega) wr K
      rw [HKL.out, show ((8 : Nat) : Int) = 8 from rfl] at CL
      have hnn : ((8 : Int) - (nx : Int) == max 0 ((8 : Int) - (k : Int))) = true := by rw [beq_iff_eq]; omega
      have e9 : IntKind.i64.wrap ((8 : Int) - (k : Int)) = (8 : Int) - (k : Int) := IntWalk.i64_in _ (by omega)
      clear hnx
      go_wp2_with fail
      refine CL.mono ?_
      rintro e w5 ⟨rfl, gg⟩
      go_wp2_with fail
      go_ret
      exact ⟨by simp, grew_trans G gg⟩
end Go.Proofs.YtaeopobofmpioaaGreatDoor

namespace Go.Proofs.YtaeopobofmpioaaGreatDoor
set_option linter.unusedSimpArgs false
set_option linter.unusedVariables false
open Go.RowKit
set_option linter.unusedVariables false
set_option linter.unusedSimpArgs false
set_option maxRecDepth 100000 in
set_option maxHeartbeats 1500000 in
theorem stampTells_law (a : Nat) (who at_ : Int) (b : Nat) (other then_ : Int) (ha : a < 18446744073709551616) (hb : b < 18446744073709551616) (hw : in64 who) (hat : in64 at_) (ho : in64 other) (hth : in64 then_) (w : World) (hS : Std w) :
    Calls Tryz.prog 6 #[.int .u64 (a : Nat), .int .i64 who, .int .i64 at_, .int .u64 (b : Nat), .int .i64 other, .int .i64 then_] w fun e w' => e = .returned (.bool true) ∧ Grew w w' := by
  have HS := Lib.hid hS
  have CK := Lib.hid (sknown_ok w hS)
  have C1 := Lib.hid (fun W hW => stwords_ok a who at_ ha hw hat W hW)
  have C2 := Lib.hid (fun W hW => stwords_ok b other then_ hb ho hth W hW)
  have CD := Lib.hid (fun W hW => stdigest_ok a who at_ ha hw hat W hW)
  have CR := Lib.hid (fun W => rstdigest_ok a who at_ ha hw hat W)
  have CT := Lib.hid (fun W hW => text_at a (show U64n a from ha) W hW)
  have CN1 := Lib.hid (fun W hW => num_ok who hw.1 hw.2 W hW)
  have CN2 := Lib.hid (fun W hW => num_ok at_ hat.1 hat.2 W hW)
  have CS := Lib.hid (fun W => split_some (s := ⟨(stW a who at_).toArray⟩) (l := [tagStamp, hexL a, Lib.itoa who, Lib.itoa at_]) (split_join _) (by simp) (by have := stW_len a who at_ hw hat; show (stW a who at_).toArray.size ≤ _; simp; omega) W)
  rw [show txt [tagStamp, hexL a, Lib.itoa who, Lib.itoa at_] = [⟨#[115, 116, 97, 109, 112]⟩, hexB a, ⟨(Lib.itoa who).toArray⟩, ⟨(Lib.itoa at_).toArray⟩] from rfl] at CS
  have HI : Hid (((⟨(stW a who at_).toArray⟩ : ByteArray).toList == (⟨(stW b other then_).toArray⟩ : ByteArray).toList) = (((a : Int) == (b : Int)) && (who == other) && (at_ == then_))) := Lib.hid (by
    rw [str_beq]
    rw [Bool.eq_iff_iff]
    simp only [decide_eq_true_eq, Bool.and_eq_true, beq_iff_eq]
    rw [stW_inj a b who other at_ then_ ha hb hw ho hat hth]
    omega)
  clear hS ha hb hw hat ho hth
  generalize stD a who at_ = d at *
  generalize (⟨(stW a who at_).toArray⟩ : ByteArray) = tx at *
  generalize (⟨(stW b other then_).toArray⟩ : ByteArray) = ty at *
  generalize hexB a = t1 at *
  generalize (⟨(Lib.itoa who).toArray⟩ : ByteArray) = t2 at *
  generalize (⟨(Lib.itoa at_).toArray⟩ : ByteArray) = t3 at *
  go_enter Tryz.func6, Tryz.ntmps6
  go_wp2_with fail
  refine CK.out.mono ?_
  rintro e w0 ⟨rfl, G0⟩
  clear CK
  go_wp2_with fail
  refine (C1.out w0 (HS.out.grew G0)).mono ?_
  rintro e w1 ⟨rfl, gg⟩
  have G1 := grew_trans G0 gg
  go_wp2_with fail
  refine (C2.out w1 (HS.out.grew G1)).mono ?_
  rintro e w2 ⟨rfl, gg⟩
  have G2 := grew_trans G1 gg
  go_wp2_with fail
  refine (CS.out w2).mono ?_
  rintro e w3 ⟨⟨v1, rfl, o1⟩, gg⟩
  have G3 := grew_trans G2 gg
  obtain ⟨g, k1, rfl, hk1, hgl, hcs⟩ := own_cells o1 (by simp)
  have x0 : w3.cell? ⟨g, 0, none⟩ = some (.string ⟨#[115, 116, 97, 109, 112]⟩) := by simpa using hcs 0 (.string ⟨#[115, 116, 97, 109, 112]⟩) rfl
  have x1 : w3.cell? ⟨g, 1, none⟩ = some (.string t1) := by simpa using hcs 1 (.string t1) rfl
  have x2 : w3.cell? ⟨g, 2, none⟩ = some (.string t2) := by simpa using hcs 2 (.string t2) rfl
  have x3 : w3.cell? ⟨g, 3, none⟩ = some (.string t3) := by simpa using hcs 3 (.string t3) rfl
  clear CS G0 G1 G2 gg o1 hcs C1 C2
  have hk1' : (4 : Int) ≤ (k1 : Int) := by
    have : 4 ≤ k1 := hk1
    omega
  have m0 : ∀ y : Gr w3, y.val.cell? ⟨g, 0, none⟩ = some (.string ⟨#[115, 116, 97, 109, 112]⟩) := fun y => (y.ok.cell (p := ⟨g, 0, none⟩) hgl).trans x0
  have m1 : ∀ y : Gr w3, y.val.cell? ⟨g, 1, none⟩ = some (.string t1) := fun y => (y.ok.cell (p := ⟨g, 1, none⟩) hgl).trans x1
  have m2 : ∀ y : Gr w3, y.val.cell? ⟨g, 2, none⟩ = some (.string t2) := fun y => (y.ok.cell (p := ⟨g, 2, none⟩) hgl).trans x2
  have m3 : ∀ y : Gr w3, y.val.cell? ⟨g, 3, none⟩ = some (.string t3) := fun y => (y.ok.cell (p := ⟨g, 3, none⟩) hgl).trans x3
  have D1 := Lib.hid (fun (y : Gr w3) => CT.out y.val (HS.out.grew (grew_trans G3 y.ok)))
  have D2 := Lib.hid (fun (y : Gr w3) => CN1.out y.val (HS.out.grew (grew_trans G3 y.ok)))
  have D3 := Lib.hid (fun (y : Gr w3) => CN2.out y.val (HS.out.grew (grew_trans G3 y.ok)))
  have D4 := Lib.hid (fun (y : Gr w3) => CD.out y.val (HS.out.grew (grew_trans G3 y.ok)))
  have D5 := Lib.hid (fun (y : Gr w3) => CR.out y.val)
  clear x0 x1 x2 x3 CT CN1 CN2 CD CR hgl
  go_wp2_with fail
  by_cases h1 : a = b
  · subst h1
    by_cases h2 : who = other
    · subst h2
      by_cases h3 : at_ = then_
      · subst h3
        have hxy : (tx.toList == ty.toList) = true := by rw [HI.out]; simp
        clear HI
        refine wp_region_grew (grew_refl w3) (by kernel_rfl) (by kernel_rfl) ?_
        repeat (go_big_quiet_step (first
          | (go_at_call 37; exact callG (D1.out _))
          | (go_at_call 38; exact callG (D2.out _))
          | (go_at_call 38; exact callG (D3.out _))
          | (go_at_call 20; exact callG (D4.out _))
          | (go_at_call 21; exact callG (D5.out _))))
        refine wpQuiet_nil ?_
        rintro w8 ⟨⟨w8', g8⟩, rfl⟩
        go_wp2_with fail
        go_ret
        exact ⟨by simp, grew_trans G3 g8⟩
      · have e3 : (at_ == then_) = false := by simpa using h3
        have hxy : (tx.toList == ty.toList) = false := by rw [HI.out, e3]; simp
        clear HI h3
        refine wp_region_grew (grew_refl w3) (by kernel_rfl) (by kernel_rfl) ?_
        repeat (go_big_quiet_step (first
          | (go_at_call 37; exact callG (D1.out _))
          | (go_at_call 38; exact callG (D2.out _))
          | (go_at_call 38; exact callG (D3.out _))
          | (go_at_call 20; exact callG (D4.out _))
          | (go_at_call 21; exact callG (D5.out _))))
        refine wpQuiet_nil ?_
        rintro w8 ⟨⟨w8', g8⟩, rfl⟩
        go_wp2_with fail
        go_ret
        exact ⟨by simp, grew_trans G3 g8⟩
    · have e2 : (who == other) = false := by simpa using h2
      have hxy : (tx.toList == ty.toList) = false := by rw [HI.out, e2]; simp
      clear HI h2
      refine wp_region_grew (grew_refl w3) (by kernel_rfl) (by kernel_rfl) ?_
      repeat (go_big_quiet_step (first
        | (go_at_call 37; exact callG (D1.out _))
        | (go_at_call 38; exact callG (D2.out _))
        | (go_at_call 38; exact callG (D3.out _))
        | (go_at_call 20; exact callG (D4.out _))
        | (go_at_call 21; exact callG (D5.out _))))
      refine wpQuiet_nil ?_
      rintro w8 ⟨⟨w8', g8⟩, rfl⟩
      go_wp2_with fail
      go_ret
      exact ⟨by simp, grew_trans G3 g8⟩
  · have e1 : ((a : Int) == (b : Int)) = false := beq_eq_false_iff_ne.2 (by omega)
    have hxy : (tx.toList == ty.toList) = false := by rw [HI.out, e1]; simp
    clear HI h1
    refine wp_region_grew (grew_refl w3) (by kernel_rfl) (by kernel_rfl) ?_
    repeat (go_big_quiet_step (first
      | (go_at_call 37; exact callG (D1.out _))
      | (go_at_call 38; exact callG (D2.out _))
      | (go_at_call 38; exact callG (D3.out _))
      | (go_at_call 20; exact callG (D4.out _))
      | (go_at_call 21; exact callG (D5.out _))))
    refine wpQuiet_nil ?_
    rintro w8 ⟨⟨w8', g8⟩, rfl⟩
    go_wp2_with fail
    go_ret
    exact ⟨by simp, grew_trans G3 g8⟩
end Go.Proofs.YtaeopobofmpioaaGreatDoor
