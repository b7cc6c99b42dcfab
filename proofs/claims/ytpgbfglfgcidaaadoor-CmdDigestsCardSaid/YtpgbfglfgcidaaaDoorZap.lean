/- A builder beside a row of texts; (*strings.Builder).Reset. -/
import Derived.Test.YtpgbfglfgcidaaaDoorZao
import Derived.Test.YtpgbfglfgcidaaaDoorZah
import Derived.Test.YtpgbfglfgcidaaaDoorZaj
namespace Go.Proofs.YtpgbfglfgcidaaaDoor
set_option linter.unusedSimpArgs false
set_option linter.unusedVariables false
open Go.RowKit
set_option linter.unusedVariables false
theorem row_others {w w' : World} {base n : Nat} {e e' : TypeId} {v : Value} {xs : List Value} {b : Nat} (h : w.ownsRow base e 1 v n xs) (k : Lib.OthersKept e' (some b) w w') (hne : e ≠ e') (hb : v.ownBlock ≠ some b) : w'.ownsRow base e 1 v n xs := by
  obtain ⟨h1, h2⟩ := h
  refine ⟨h1, ?_⟩
  rcases h2 with h2 | ⟨g', cap, cur, rfl, hb', hh, hc⟩
  · exact .inl h2
  · exact .inr ⟨g', cap, cur, rfl, hb', k g' _ hh (fun hg => hb hg) (fun c fz hcc => by injection hcc with _ h3 _; exact hne h3), hc⟩
theorem row_notb {w : World} {base n : Nat} {e T e' : TypeId} {v : Value} {xs bs : List Value} {B b : Nat} (h : w.ownsRow base e 1 v n xs) (hb : Lib.IsBuilderF T e' B b bs w) (hne : e ≠ T) : v.ownBlock ≠ some b := by
  intro hv
  rcases h.2 with ⟨rfl, _⟩ | ⟨g', cap, cur, rfl, _, hh, _⟩
  · cases hv
  · injection hv with hv
    subst hv
    rcases hb with ⟨_, u, h3, _⟩ | ⟨_, u, h3, _⟩ <;>
      · rw [hh] at h3
        injection h3 with h3
        injection h3 with _ h4 _
        exact hne h4
theorem ownsRowF_kp {S : Nat → Prop} {w w' : World} {base : Nat} {e : TypeId} {size n : Nat} {v : Value} {xs : List Value} (h : w.ownsRowF base e size v n xs) (k : Kp S w w') (hv : ∀ g, v.ownBlock = some g → ¬ S g) : w'.ownsRowF base e size v n xs := by
  obtain ⟨h1, h2⟩ := h
  refine ⟨h1, ?_⟩
  rcases h2 with h2 | ⟨g', cap, cur, fz, rfl, hb, hh, hc⟩
  · exact .inl h2
  · have hlt : g' < w.heap.size := (Array.getElem?_eq_some_iff.1 hh).1
    exact .inr ⟨g', cap, cur, fz, rfl, hb, (k.block g' hlt (hv g' rfl)).trans hh, hc⟩
theorem bat_kp {w w' : World} {base n : Nat} {e T e' : TypeId} {v p : Value} {xs bs : List Value} {B b : Nat} (h : w.ownsRow base e 1 v n xs) (hb : Lib.BuilderAtF T e' B b p bs w) (hne : e ≠ T) (hne' : e ≠ e') (k : Kp (fun j => v.ownBlock = some j) w w') : Lib.BuilderAtF T e' B b p bs w' := by
  have hlt := hb.lt
  obtain ⟨h1, u, h2, h3, h4⟩ := hb
  have hvt : ∀ g c t fz, w.heap[g]? = some (.cells c t fz) → e ≠ t → v.ownBlock ≠ some g := by
    intro g c t fz hg ht hv
    rcases h.2 with ⟨rfl, _⟩ | ⟨g', cap, cur, rfl, _, hh, _⟩
    · cases hv
    · injection hv with hv
      subst hv
      rw [hh] at hg
      injection hg with hg
      injection hg with _ h5 _
      exact ht h5
  refine ⟨h1, u, (k.block b hlt (hvt b _ _ _ h2 hne)).trans h2, ownsRowF_kp h3 k (fun g hg => ?_), h4⟩
  rcases h3.2 with ⟨rfl, _⟩ | ⟨g2, cap, cur, fz, rfl, _, hgg, _⟩
  · cases hg
  · injection hg with hg
    subst hg
    exact hvt _ _ _ _ hgg hne'
theorem isb_kp {w w' : World} {base n : Nat} {e T e' : TypeId} {v : Value} {xs bs : List Value} {B b : Nat} (h : w.ownsRow base e 1 v n xs) (hb : Lib.IsBuilderF T e' B b bs w) (hne : e ≠ T) (hne' : e ≠ e') (k : Kp (fun j => v.ownBlock = some j) w w') : Lib.IsBuilderF T e' B b bs w' :=
  hb.elim (fun x => .inl (bat_kp h x hne hne' k)) (fun x => .inr (bat_kp h x hne hne' k))
theorem isb_cells {T e' : TypeId} {bs : List Value} {B b : Nat} {w : World} (hb : Lib.IsBuilderF T e' B b bs w) : ∃ p v, w.heap[b]? = some (.cells #[p, v] T (0, 0)) ∧ B ≤ b ∧ b < w.heap.size := by
  rcases hb with h | h <;>
    · have hl := h.lt
      obtain ⟨h1, v, h2, _⟩ := h
      exact ⟨_, v, h2, h1, hl⟩
end Go.Proofs.YtpgbfglfgcidaaaDoor

namespace Go.Proofs.YtpgbfglfgcidaaaDoor
set_option linter.unusedSimpArgs false
set_option linter.unusedVariables false
open Go.RowKit
set_option linter.unusedVariables false
theorem bc_snoc (l : List UInt8) (c : UInt8) : Lib.byteCells l ++ [.int .u8 (c.toNat : Int)] = Lib.byteCells (l ++ [c]) := by simp [Lib.byteCells]
theorem bc_length (l : List UInt8) : (Lib.byteCells l).length = l.length := by simp [Lib.byteCells]
theorem splP_on {S : List UInt8} {k : Nat} {on : Bool} {cur : List UInt8} {done : List (List UInt8)} (h : SplP S k on cur done) (hk : 1 ≤ k) : on = true := by
  rcases h with ⟨h, _⟩ | ⟨_, h, _⟩
  · omega
  · exact h
theorem splP_off {S : List UInt8} {on : Bool} {cur : List UInt8} {done : List (List UInt8)} (h : SplP S 0 on cur done) : on = false ∧ cur = [] ∧ done = [] := by
  rcases h with ⟨_, h1, h2, h3⟩ | ⟨h, _⟩
  · exact ⟨h1, h2, h3⟩
  · omega
end Go.Proofs.YtpgbfglfgcidaaaDoor

namespace Go.Proofs.YtpgbfglfgcidaaaDoor
set_option linter.unusedSimpArgs false
set_option linter.unusedVariables false
open Go.RowKit
set_option linter.unusedVariables false
theorem trim_body (l : List UInt8) : Lib.trimPrefix l [45] = body l := by
  unfold Lib.trimPrefix body minus
  cases l with
  | nil => rfl
  | cons a t =>
    by_cases h : a = 45
    · subst h; simp [Lib.hasPrefix]
    · simp [Lib.hasPrefix, h, Ne.symm h]
theorem isNumB_alt {l : List UInt8} (h : l ≠ [48]) : isNumB l = (decide (body l ≠ []) && decide ((body l).head? ≠ some 48) && (body l).all dig) := by
  unfold isNumB isDec
  by_cases hb : body l = [48]
  · have hm : minus l = true := by
      cases hm : minus l with
      | true => rfl
      | false => exact absurd (by unfold body at hb; rw [hm] at hb; exact hb) h
    rw [hb, hm]; rfl
  · simp [hb]
theorem ba_eq_iff (s : ByteArray) (l : List UInt8) : (s = ⟨l.toArray⟩) ↔ s.data.toList = l := by
  constructor
  · rintro rfl; simp
  · intro h; apply ByteArray.ext; rw [← h]
theorem ba_empty {s : ByteArray} (h : s.size = 0) : s = ⟨#[]⟩ := by
  cases s with
  | mk d => congr 1; exact Array.eq_empty_of_size_eq_zero h
theorem ba_some {s : ByteArray} (h : 0 < s.size) : s.toList.isEmpty = false := by
  rw [ByteArray.toList_eq]
  cases hl : s.data.toList with
  | nil => exact absurd (by have h3 := congrArg List.length hl; simpa using h3) (show s.size ≠ 0 by omega)
  | cons _ _ => rfl
theorem ba_some' {s : ByteArray} (h : 0 < s.size) : ¬ s.toList = [] := fun e => by
  have := ba_some h
  rw [e] at this; simp at this
theorem ba_len (s : ByteArray) : s.data.toList.length = s.size := by simp
theorem ba_head {s : ByteArray} (h : 0 < s.size) : s.data.toList.head? = some s[0] := by
  rw [List.head?_eq_getElem?, List.getElem?_eq_getElem (by rw [ba_len]; exact h)]; rfl
theorem all_take {p : UInt8 → Bool} (s : ByteArray) (k : Nat) (h : k < s.size) (h1 : (s.data.toList.take k).all p = true) (h2 : p s[k] = true) : (s.data.toList.take (k + 1)).all p = true := by
  rw [take_byte s k h, List.all_append, h1]; simp [h2]
theorem all_not {p : UInt8 → Bool} (s : ByteArray) (k : Nat) (h : k < s.size) (h2 : p s[k] = false) : s.data.toList.all p = false := by
  rw [List.all_eq_false]
  exact ⟨s[k], by
    have hk : k < s.data.toList.length := by rw [ba_len]; exact h
    have := List.getElem_mem hk
    exact this, by simp [h2]⟩
theorem dig_int {c : UInt8} : dig c = true ↔ (48 ≤ (c.toNat : Int) ∧ (c.toNat : Int) ≤ 57) := by
  unfold dig; simp; omega
set_option maxRecDepth 100000 in
set_option maxHeartbeats 1000000 in
theorem isnum_ok (s : ByteArray) (hs : s.size ≤ 9223372036854775807) (w : World) : Calls Tryd.prog 42 #[.string s] w fun e w' => e = .returned (.bool (isNumB s.data.toList)) ∧ w' = w := by
  by_cases h0 : s.data.toList = [48]
  · obtain rfl := (ba_eq_iff s [48]).2 h0
    rw [show isNumB ((⟨[48].toArray⟩ : ByteArray).data.toList) = true from rfl]
    go_enter Tryd.func42, Tryd.ntmps42
    go_wp2_with fail
    go_ret
    exact ⟨rfl, rfl⟩
  · rw [isNumB_alt h0]
    have h1 : (s.toList == [48]) = false := by rw [ByteArray.toList_eq]; simpa using h0
    have h2 : (!s.toList == [48]) = true := by rw [h1]; rfl
    have cT := Tryd.strings_TrimPrefix s ⟨#[45]⟩ w
    rw [show (⟨#[45]⟩ : ByteArray).data.toList = [45] from rfl, trim_body] at cT
    have htl : (body s.data.toList).length ≤ s.size := by
      unfold body
      have : s.data.toList.length = s.size := by simp
      split
      · rw [List.length_tail]; omega
      · omega
    obtain ⟨t, ht⟩ : ∃ t : ByteArray, t = ⟨(body s.data.toList).toArray⟩ := ⟨_, rfl⟩
    have ht2 : t.data.toList = body s.data.toList := by rw [ht]
    rw [← ht2] at htl ⊢
    rw [← ht] at cT
    rw [ba_len] at htl
    have CT := Lib.hid cT
    clear cT h0 ht ht2
    by_cases hz : t.size = 0
    · obtain rfl := ba_empty hz
      go_enter Tryd.func42, Tryd.ntmps42
      go_wp2_with (first | (go_at_call 54; refine (CT.out).mono ?_; rintro e w' ⟨rfl, rfl⟩))
      go_ret
      exact ⟨rfl, rfl⟩
    · have hp : 0 < t.size := by omega
      have hp1 : (0 : Int) < (t.size : Int) := by omega
      have hie := ba_some hp
      have hie2 := ba_some' hp
      have hH := Lib.hid (ba_head hp)
      have hN : Hid (t.data.toList ≠ []) := Lib.hid (fun e => by have := ba_len t; rw [e] at this; simp at this; omega)
      by_cases hc : (t[0].toNat : Int) = 48
      · go_enter Tryd.func42, Tryd.ntmps42
        go_wp2_with (first | (go_at_call 54; refine (CT.out).mono ?_; rintro e w' ⟨rfl, rfl⟩))
        go_ret
        refine ⟨ret_bool ?_, rfl⟩
        rw [hH.out, u8_eq _ 48 (by omega) hc]
        simp
      · have hcb : ((t[0].toNat : Int) == 48) = false := by simpa using hc
        have hcd : decide ((t[0].toNat : Int) = 48) = false := by simpa using hc
        have hR : Hid ((decide (t.data.toList ≠ []) && decide (t.data.toList.head? ≠ some 48) && t.data.toList.all dig) = t.data.toList.all dig) := Lib.hid (by
          rw [decide_eq_true hN.out, decide_eq_true (by
            rw [hH.out]; intro e; injection e with e; rw [e] at hc; exact hc rfl)]; rfl)
        rw [hR.out]
        obtain ⟨r, hr⟩ : ∃ r, t.data.toList.all dig = r := ⟨_, rfl⟩
        rw [hr]
        have HR := Lib.hid hr
        clear hr
        go_enter Tryd.func42, Tryd.ntmps42
        go_wp2_with (first | (go_at_call 54; refine (CT.out).mono ?_; rintro e w' ⟨rfl, rfl⟩))
        go_loop [3, 17] (fun v iv => ∃ k : Nat, k ≤ t.size ∧ iv = .int .i64 k ∧ Hid ((t.data.toList.take k).all dig = true)) (fun _ iv => t.size - (intOf iv).toNat)
        case atStart => exact ⟨0, Nat.zero_le _, rfl, Lib.hid rfl⟩
        case round =>
          obtain ⟨k, hk, rfl, HA⟩ := hrel
          by_cases hlt : k < t.size
          · have hk0 : (0 : Int) ≤ (k : Int) := by omega
            have hk1 : (k : Int) < (t.size : Int) := by omega
            have e1 : IntKind.i64.wrap ((k : Int) + 1) = ((k + 1 : Nat) : Int) := by rw [IntWalk.i64_in _ (by omega)]; omega
            have HK := Lib.hid hlt
            by_cases hd : dig (t[k]'hlt) = true
            · obtain ⟨hd1, hd2⟩ := dig_int.1 hd
              have HN := Lib.hid (all_take t k hlt HA.out hd)
              clear hd
              go_wp2_with fail
              go_round
              case rel => exact ⟨k + 1, by have := HK.out; omega, by go_num, HN⟩
              case measure => have h9 := HK.out; simp [intOf]; omega
            · have hdf : dig (t[k]'hlt) = false := by simpa using hd
              have HN := Lib.hid (all_not t k hlt hdf)
              by_cases hd1 : ((t[k]'hlt).toNat : Int) < 48
              · clear hd hdf
                go_wp2_with fail
                go_ret
                exact ⟨ret_bool (HN.out.symm.trans HR.out), rfl⟩
              · have hd2 : (57 : Int) < ((t[k]'hlt).toNat : Int) := by
                  rcases Int.lt_or_le 57 ((t[k]'hlt).toNat : Int) with h | h
                  · exact h
                  · exact absurd (dig_int.2 ⟨by omega, h⟩) hd
                clear hd hdf
                go_wp2_with fail
                go_ret
                exact ⟨ret_bool (HN.out.symm.trans HR.out), rfl⟩
          · obtain rfl : k = t.size := by omega
            go_wp2_with fail
            go_ret
            refine ⟨ret_bool ?_, rfl⟩
            have := HA.out
            rw [List.take_of_length_le (by rw [ba_len]; exact Nat.le_refl _)] at this
            exact this.symm.trans HR.out
end Go.Proofs.YtpgbfglfgcidaaaDoor
