/- Empty cells, by a name. -/
import Derived.Test.YtkpnheenacchhaaGreatDoorProg
import Derived.Lib.Hide
namespace Go.Proofs.YtkpnheenacchhaaGreatDoor
open Go.RowKit
abbrev zS24 : Array Value := #[.int .u64 0, .int .i64 0, .int .i64 0, .int .i64 0, .int .i64 0, .int .u64 0, .int .u64 0, .int .u64 0, .int .u64 0, .int .u64 0, .int .u64 0, .int .u64 0, .int .u64 0, .int .u64 0, .int .u64 0, .int .u64 0, .int .u64 0, .int .u64 0, .int .u64 0, .int .u64 0, .int .u64 0, .int .u64 0, .int .u64 0, .slice none 0 0]
abbrev zS21 : Array Value := #[.int .i64 0, .int .i64 0, .int .u64 0, .int .u64 0, .int .u64 0, .int .u64 0, .int .u64 0, .int .u64 0, .int .u64 0, .int .u64 0, .int .u64 0, .int .u64 0, .int .u64 0, .int .u64 0, .int .u64 0, .int .u64 0, .int .u64 0, .int .u64 0, .int .u64 0, .int .u64 0, .slice none 0 0]
abbrev zS6 : Array Value := #[.int .i64 0, .int .i64 0, .int .i64 0, .int .i64 0, .int .i64 0, .slice none 0 0]
abbrev zA23 : Array Value := #[.int .u64 0, .int .i64 0, .int .i64 0, .int .i64 0, .int .u64 0, .int .u64 0, .int .u64 0, .int .u64 0, .int .u64 0, .int .u64 0, .int .u64 0, .int .u64 0, .int .u64 0, .int .u64 0, .int .u64 0, .int .u64 0, .int .u64 0, .int .u64 0, .int .u64 0, .int .u64 0, .int .u64 0, .int .u64 0, .slice none 0 0]
abbrev zM23 : Array Value := #[.int .i64 0, .int .u64 0, .int .i64 0, .int .i64 0, .int .u64 0, .int .u64 0, .int .u64 0, .int .u64 0, .int .u64 0, .int .u64 0, .int .u64 0, .int .u64 0, .int .u64 0, .int .u64 0, .int .u64 0, .int .u64 0, .int .u64 0, .int .u64 0, .int .u64 0, .int .u64 0, .int .u64 0, .int .u64 0, .slice none 0 0]
abbrev zQ7 : Array Value := #[.int .i64 0, .int .i64 0, .int .i64 0, .int .i64 0, .int .i64 0, .slice none 0 0, .slice none 0 0]
theorem hQ9 {p : Prop} (h : p) : RowKit.Hid p := Lib.hid h
noncomputable abbrev zI9 (t : TypeId) : Option Nat := (Tryz.prog.info? t).map (·.size)
theorem zT9 {α : Type} {xs : Array α} : xs.toList.toArray = xs := Array.toArray_toList
theorem zF9 {p : Prop} [Decidable p] (h : ¬ p) : decide p = false := decide_eq_false h
theorem zN9 (n : Nat) : n ≤ n := Nat.le_refl n
abbrev zB9 (e : Nat) (g : Ground) : Prop := Region.binds .any { on := e, ground := g } = true
end Go.Proofs.YtkpnheenacchhaaGreatDoor
