/- What is known of the one-time signatures: the walk. -/
import Derived.Deep.RegionWith
import Derived.Test.YtpppegnojmnicaaGreatDoorVal
import Derived.Deep.QuietTactic
import Derived.BigQuiet
namespace Go.Proofs.YtpppegnojmnicaaGreatDoor
set_option linter.unusedSimpArgs false
set_option linter.unusedVariables false
open Go.RowKit
set_option linter.unusedVariables false
end Go.Proofs.YtpppegnojmnicaaGreatDoor

namespace Go.Proofs.YtpppegnojmnicaaGreatDoor
set_option linter.unusedSimpArgs false
set_option linter.unusedVariables false
open Go.RowKit
set_option linter.unusedVariables false
end Go.Proofs.YtpppegnojmnicaaGreatDoor

namespace Go.Proofs.YtpppegnojmnicaaGreatDoor
set_option linter.unusedSimpArgs false
set_option linter.unusedVariables false
open Go.RowKit
set_option linter.unusedVariables false
end Go.Proofs.YtpppegnojmnicaaGreatDoor

namespace Go.Proofs.YtpppegnojmnicaaGreatDoor
set_option linter.unusedSimpArgs false
set_option linter.unusedVariables false
open Go.RowKit
set_option linter.unusedVariables false
set_option maxRecDepth 100000 in
/-- '==' of an array of eighteen digests and itself -/
theorem run_equalIn_arr {P : Program} (w : World) (d : Nat) (t e : TypeId) (i : TypeInfo) (cs : Array Value) (s : Nat → Nat) (ht : P.underlying t = some (.array 18 e)) (he : P.underlying e = some (.int .u64)) (hi : P.info? e = some i) (h1 : i.size = 1)
 (hag : ∀ w, (isAgg e).run P w = .ok false w) (hc : ∀ k : Nat, k < 18 → cs[k]? = some (.int .u64 (s k : Nat))) : (Op.equalIn (d + 2) t (.agg cs) (.agg cs)).run P w = .ok true w := by
 have hs : (sizeOf e).run P w = .ok 1 w := by simp [sizeOf, typeInfo, hi, h1, go_sem]
 have key : ∀ k : Nat, k < 18 → (part e cs k).run P w = .ok (.int .u64 (s k : Nat)) w := by
  intro k hk
  have hck := hc k hk
  simp [part, hag, sizeOf, typeInfo, hi, h1, hck, go_sem]
 have keq : ∀ a b : Int, (Op.equalIn (d + 1) e (.int .u64 a) (.int .u64 b)).run P w = .ok (a == b) w := fun a b => run_equalIn_int (w := w) d e .u64 .u64 a b he
 unfold Op.equalIn
 simp only [Sem.run_bind, run_underlying ht, Result.andThen_ok, hs]
 have loop : ∀ (l : List Nat), (∀ k ∈ l, k < 18) → (forIn l ((none, ()) : Option Bool × Unit) fun i __s => do
           let __do_lift ← part e cs (i * 1)
           let __do_lift_1 ← part e cs (i * 1)
           let __do_lift ← Op.equalIn (d + 1) e __do_lift __do_lift_1
           if (!__do_lift) = true then pure (ForInStep.done (some false, ())) else pure (ForInStep.yield (none, ())) : Sem (Option Bool × Unit)).run P w = .ok (none, ()) w := by
  intro l
  induction l with
  | nil => intro _; simp
  | cons k l ih =>
   intro hk
   have h1 := key k (hk k List.mem_cons_self)
   have h2 := ih fun j hj => hk j (List.mem_cons_of_mem _ hj)
   rw [List.forIn_cons]
   simp only [Nat.mul_one] at h2 ⊢
   simp only [Sem.run_bind, h1, Result.andThen_ok, keq, beq_self_eq_true, Bool.not_true, Bool.false_eq_true, if_false, Sem.run_pure]
   exact h2
 simp only [Std.Legacy.Range.forIn_eq_forIn_range', Std.Legacy.Range.size]
 rw [loop _ (by intro k hk; simp [List.mem_range'] at hk; omega)]
 simp
end Go.Proofs.YtpppegnojmnicaaGreatDoor
