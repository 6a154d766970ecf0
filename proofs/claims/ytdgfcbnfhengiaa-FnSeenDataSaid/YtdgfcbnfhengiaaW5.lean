/- Writers by the laws' own helpers: compared; answers of numbers that are named. -/
import Derived.Test.YtdgfcbnfhengiaaG1
import Derived.Test.YtdgfcbnfhengiaaS1d
namespace Go.Proofs.Ytdgfcbnfhengiaa
open Go.ChangeShapes Go.WideShapes Go.ChangeAt Go.RowKit
set_option linter.unusedSimpArgs false
set_option linter.unusedVariables false
set_option maxRecDepth 10000

theorem Ints.cutIf {w : World} {lo hi n a c : Nat} {A : Option Addr} {xs : List Int} (h : Ints w lo hi A n xs) (ha : a ≤ n) (hc : n ≤ c) : Ints w lo hi (if c = a then A else A.map fun x => x.add a) (n - a) (xs.drop a) := by
  split
  · have h0 : n - a = 0 := by omega
    have hl := h.len
    rw [h0, List.drop_of_length_le (by omega)]
    exact (Ints.nil w lo hi 0 A).1
  · exact h.drop ha
theorem to_boolN {f : Nat} {args : Array Value} {w : World} {a b : Bool} (h : Calls Try.prog f args w (BoolB a w)) (e : a = b) : Calls Try.prog f args w (BoolB b w) := e ▸ h
theorem to_intN {f : Nat} {args : Array Value} {w : World} {a b : Int} (h : Calls Try.prog f args w (IntB a w)) (e : a = b) : Calls Try.prog f args w (IntB b w) := e ▸ h
theorem to_listN {f : Nat} {args : Array Value} {w : World} {a b : List Int} (h : Calls Try.prog f args w (ListPost a w)) (e : a = b) : Calls Try.prog f args w (ListPost b w) := e ▸ h
end Go.Proofs.Ytdgfcbnfhengiaa
