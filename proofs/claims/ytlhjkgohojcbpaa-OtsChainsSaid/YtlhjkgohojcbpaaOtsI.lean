/- The statements of layer 3: OtsChains. -/
import Derived.Test.YtlhjkgohojcbpaaOtsG
namespace Go.Proofs.Ytlhjkgohojcbpaa
open Go.RowKit
set_option linter.unusedVariables false
theorem otsChains_law (seed leaf d : Int) (w : World) (hs : U64 seed) (hl : 0 ≤ leaf ∧ leaf ≤ 255) (hd : U64 d) :
    Calls Try.prog 7 #[.int .u64 seed, .int .u8 leaf, .int .u64 d] w fun e w' => e = .returned (.bool true) ∧ Grew w w' := by
  have C1 := Lib.hid (fun W => secrets_any seed leaf hs ⟨by omega, by omega⟩ W)
  rw [show ((List.range 18).map fun k => u64V (secN seed leaf k)).toArray = arrU (secN seed leaf) from rfl] at C1
  have C3 := Lib.hid (fun W => digits_any d hd W)
  have hsl : ∀ k, k < 18 → secN seed leaf k < 18446744073709551616 := fun k _ => secN_lt _ _ _
  generalize secN seed leaf = s at *
  have hgl : ∀ k, k < 18 → signF s d.toNat k < 18446744073709551616 := fun k hk => signF_lt _ _ _ (hsl k hk)
  have C2 := Lib.hid (fun W => sign_any s d W hsl hd)
  have D2 := Lib.hid (fun W => pub_any s W hsl)
  have G1 := Lib.hid (fun k hk => arrU_get s k hk)
  have G2 := Lib.hid (fun k hk => arrU_get (signF s d.toNat) k hk)
  have G3 : ∀ k : Nat, k < 18 → (((List.range 18).map (digF d.toNat)).toArray)[k]? = some (.int .i64 (digK d.toNat k : Nat)) := fun k hk => by
    rw [Array.getElem?_eq_getElem (by simpa using hk)]; simp [digF]
  have G3 := Lib.hid G3
  have hsz1 := arrU_size s
  have hon1 := arrU_one s
  have hsz2 := arrU_size (signF s d.toNat)
  have hon2 := arrU_one (signF s d.toNat)
  have hsz3 := digArr_size d.toNat
  have hon3 := map_digF_one d.toNat
  have B3 := Lib.hid (digK_le d.toNat)
  have HDS := Lib.hid (digK_sum d.toNat)
  generalize arrU (signF s d.toNat) = gs at *
  generalize arrU s = ss at *
  generalize ((List.range 18).map (digF d.toNat)).toArray = ds at *
  have i1 : (Try.prog.info? 26).map (·.size) = some ss.size := by rw [hsz1]; kernel_rfl
  have i2 : (Try.prog.info? 33).map (·.size) = some gs.size := by rw [hsz2]; kernel_rfl
  have i3 : (Try.prog.info? 30).map (·.size) = some ds.size := by rw [hsz3]; kernel_rfl
  have z1 : ((List.replicate 18 (Value.int .u64 0)).toArray).size = ss.size := by rw [hsz1]; rfl
  have z2 : ((List.replicate 18 (Value.int .u64 0)).toArray).size = gs.size := by rw [hsz2]; rfl
  have z3 : ((List.replicate 18 (Value.int .i64 0)).toArray).size = ds.size := by rw [hsz3]; rfl
  have st1 := Lib.hid (fun W : World => run_storeCells_new (P := Try.prog) W 26 (List.replicate 18 (Value.int .u64 0)).toArray ss i1 z1 hon1)
  have st2 := Lib.hid (fun W : World => run_storeCells_new (P := Try.prog) W 33 (List.replicate 18 (Value.int .u64 0)).toArray gs i2 z2 hon2)
  have st3 := Lib.hid (fun W : World => run_storeCells_new (P := Try.prog) W 30 (List.replicate 18 (Value.int .i64 0)).toArray ds i3 z3 hon3)
  simp only [List.replicate_succ, List.replicate_zero] at st1 st2 st3
  go_enter Try.func7, Try.ntmps7
  go_wp2_with (refine (known_true _).mono ?_; rintro e w1 ⟨rfl, hb1⟩)
  go_wp2_with fail
  refine (C1.out _).mono ?_
  rintro e w2 ⟨rfl, hb2⟩
  have h0 := Bk.new w2 26 ss
  have e1 := grew_alloc (grew_trans hb1 hb2) (.cells ss 26)
  have hst := st1.out w2
  have g0 := h0
  unfold Bk at g0
  go_wp2_with (first
    | (with_reducible refine wpList_load_row rfl 26 _ rfl w2.heap.size rfl 26 ss (0, 0) _ g0 Try.underlying26 rfl i1 ?_))
  clear hst
  refine (C2.out _).mono ?_
  rintro e w3 ⟨rfl, hb3⟩
  have h0 := (h0.grew hb3).alloc (.cells gs 33)
  have h1 := Bk.new w3 33 gs
  have e2 := grew_alloc (grew_trans e1 hb3) (.cells gs 33)
  have hst := st2.out w3
  clear g0
  go_wp2_with fail
  clear hst
  refine (C3.out _).mono ?_
  rintro e w4 ⟨rfl, hb4⟩
  have h0 := (h0.grew hb4).alloc (.cells ds 30)
  have h1 := (h1.grew hb4).alloc (.cells ds 30)
  have h2 := Bk.new w4 30 ds
  have e3 := grew_alloc (grew_trans e2 hb4) (.cells ds 30)
  have hst := st3.out w4
  go_wp2_with fail
  clear hst st1 st2 st3 e1 e2
  generalize w4.alloc (.cells ds 30) = w5 at *
  generalize w2.heap.size = n0 at *
  generalize w3.heap.size = n1 at *
  generalize w4.heap.size = n2 at *
  go_loopw [10, 11, 12] (fun p q i wr => ∃ k : Nat, k ≤ 18 ∧ i = .int .i64 k ∧ p = .int .u64 (foldN (advF s fun _ => 15) k : Nat) ∧ q = .int .i64 (csum d.toNat (min k 16) : Nat) ∧ Bk wr n0 26 ss ∧ Bk wr n1 33 gs ∧ Bk wr n2 30 ds ∧ Grew w wr) (fun _ _ i _ => 18 - (intOf i).toNat)
  case atStart => exact ⟨0, Nat.zero_le _, rfl, rfl, rfl, h0, h1, h2, e3⟩
  case round =>
    clear h0 h1 h2 e3
    obtain ⟨k, hk, rfl, rfl, rfl, h0, h1, h2, e3⟩ := hrel
    by_cases hlt : k < 18
    · have hx := hsl k hlt
      have hy := hgl k hlt
      have hfl := foldN_lt (advF s fun _ => 15) k
      have HN := foldN_succ (advF s fun _ => 15) k
      have hb3 := B3.out k
      have hyd : signF s d.toNat k = chainI tagOt (s k) (digK d.toNat k : Nat) := rfl
      have hzd : (advF s fun _ => 15) k = chainI tagOt (s k) (15 : Int) := rfl
      have hyz : chainI tagOt (signF s d.toNat k) (15 - (digK d.toNat k : Int)) = (advF s fun _ => 15) k := by
        rw [hyd, hzd, chainI_add _ _ _ _ (by omega) (by omega) (by omega) (by omega)]
        congr 1; omega
      have CA := fun W => chain_any ⟨#[111, 116]⟩ (s k : Nat) (digK d.toNat k : Nat) (by decide) (u64_nat hx) (by omega) (by omega) W
      have CB := fun W => chain_any ⟨#[111, 116]⟩ (signF s d.toNat k : Nat) (15 - (digK d.toNat k : Int)) (by decide) (u64_nat hy) (by omega) (by omega) W
      have CC := fun W => chain_any ⟨#[111, 116]⟩ (s k : Nat) (15 : Int) (by decide) (u64_nat hx) (by omega) (by omega) W
      rw [show (⟨#[111, 116]⟩ : ByteArray).data.toList = tagOt from rfl, Int.toNat_natCast, ← hyd] at CA
      rw [show (⟨#[111, 116]⟩ : ByteArray).data.toList = tagOt from rfl, Int.toNat_natCast, hyz] at CB
      rw [show (⟨#[111, 116]⟩ : ByteArray).data.toList = tagOt from rfl, Int.toNat_natCast, ← hzd] at CC
      have hz : (advF s fun _ => 15) k < 18446744073709551616 := chainI_lt _ _ _ hx
      have CT := fun W => two_any ⟨#[112, 107]⟩ (foldN (advF s fun _ => 15) k : Nat) ((advF s fun _ => 15) k : Nat) (by decide) (u64_nat hfl) (u64_nat hz) W
      rw [show (⟨#[112, 107]⟩ : ByteArray).data.toList = tagPk from rfl, Int.toNat_natCast, Int.toNat_natCast, ← HN] at CT
      have hc0 : ∀ n, (wr.drewN n).cell? ⟨n0, k, none⟩ = some (.int .u64 (s k : Nat)) := fun n => (h0.cell k).trans (G1.out k hlt)
      have hc1 : ∀ n, (wr.drewN n).cell? ⟨n1, k, none⟩ = some (.int .u64 (signF s d.toNat k : Nat)) := fun n => (h1.cell k).trans (G2.out k hlt)
      have hc2 : ∀ n, (wr.drewN n).cell? ⟨n2, k, none⟩ = some (.int .i64 (digK d.toNat k : Nat)) := fun n => (h2.cell k).trans (G3.out k hlt)
      have hcs : csum d.toNat (min (k + 1) 16) = if k < 16 then csum d.toNat (min k 16) + (15 - digK d.toNat k) else csum d.toNat (min k 16) := by
        by_cases h16 : k < 16
        · rw [if_pos h16, show min (k + 1) 16 = k + 1 by omega, show min k 16 = k by omega, digK_low _ _ h16]; rfl
        · rw [if_neg h16, show min (k + 1) 16 = 16 by omega, show min k 16 = 16 by omega]
      have hcl := csum_le d.toNat (min k 16)
      have hk0 : (0 : Int) ≤ (k : Int) := by omega
      have hk1 : (k : Int) < 18 := by omega
      have HCS := Lib.hid hcs
      have CA := Lib.hid CA
      have CB := Lib.hid CB
      have CC := Lib.hid CC
      have CT := Lib.hid CT
      clear hyd hzd hyz HN hcs G1 G2 G3 HDS
      generalize signF s d.toNat k = y at *
      generalize (advF s fun _ => 15) k = z at *
      generalize s k = x at *
      generalize digK d.toNat k = f at *
      generalize csum d.toNat (min k 16) = S at *
      generalize foldN (advF s fun _ => 15) k = P0 at *
      have hf0 : decide ((f : Int) < 0) = false := decide_eq_false (by omega)
      have hf1 : decide ((15 : Int) < (f : Int)) = false := decide_eq_false (by omega)
      have hc3 : ∀ m n, ((wr.drewN m).drewN n).cell? ⟨n0, k, none⟩ = some (.int .u64 (x : Nat)) := fun m n => hc0 0
      have hc4 : ∀ m, (wr.drewN m).cell? ⟨n2, k, none⟩ = some (.int .i64 (f : Nat)) := fun m => hc2 0
      go_wp2_with fail
      refine wp_region_quiet_lit (by kernel_rfl) (by kernel_rfl) ?_
      repeat (go_big_quiet_step (first
        | (go_at_call_of 26 y; exact quietL (CB.out _))
        | (go_at_call_of 26 f; exact quietL (CA.out _))
        | (go_at_call 26; exact quietL (CC.out _))))
      refine wpQuiet_nil ?_
      rintro _ ⟨nq, rfl⟩
      go_wp2_with fail
      refine (CC.out _).mono ?_
      rintro e w' ⟨rfl, rfl⟩
      go_wp2_with fail
      refine (CT.out _).mono ?_
      rintro e w' ⟨rfl, rfl⟩
      by_cases h16 : k < 16
      · have h16' : (k : Int) < 16 := by omega
        rw [if_pos h16] at HCS
        go_wp2_with fail
        go_roundw
        case rel => exact ⟨k + 1, by omega, by go_num, rfl, (by rw [HCS.out]; congr 1; omega), h0, h1, h2, grew_drewN e3 _⟩
        case measure => simp [intOf]; omega
      · have h16' : ¬ (k : Int) < 16 := by omega
        rw [if_neg h16] at HCS
        go_wp2_with fail
        go_roundw
        case rel => exact ⟨k + 1, by omega, by go_num, rfl, by rw [HCS.out], h0, h1, h2, grew_drewN e3 _⟩
        case measure => simp [intOf]; omega
    · obtain rfl : k = 18 := by omega
      rw [show foldN (advF s fun _ => 15) 18 = pubN s from rfl, show min 18 16 = 16 from rfl]
      have hpl := pubN_lt s
      have hds := HDS.out
      have hd16 := B3.out 16
      have hd17 := B3.out 17
      have hcl := csum_le d.toNat 16
      have x16 := G3.out 16 (by decide)
      have x17 := G3.out 17 (by decide)
      clear G1 G2 G3 HDS B3 hb1 hb2 hb3 hb4 h1
      generalize pubN s = pp at *
      generalize digK d.toNat 16 = f16 at *
      generalize digK d.toNat 17 = f17 at *
      generalize csum d.toNat 16 = S at *
      have heq : ((16 * (f16 : Int) + (f17 : Int)) == (S : Int)) = true := by rw [beq_iff_eq]; omega
      have g0 := h0
      unfold Bk at g0
      go_wp2_with (first
        | (with_reducible refine wpList_load_row rfl 26 _ rfl n0 rfl 26 ss (0, 0) _ g0 Try.underlying26 rfl i1 ?_))
      refine (D2.out _).mono ?_
      rintro e w7 ⟨rfl, hb6⟩
      have m2 := h2.grew hb6
      have k16 : w7.cell? ⟨n2, 16, none⟩ = some (.int .i64 (f16 : Nat)) := (m2.cell 16).trans x16
      have k17 : w7.cell? ⟨n2, 17, none⟩ = some (.int .i64 (f17 : Nat)) := (m2.cell 17).trans x17
      go_wp2_with fail
      go_ret
      exact ⟨rfl, grew_trans e3 hb6⟩
end Go.Proofs.Ytlhjkgohojcbpaa
