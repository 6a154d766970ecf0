/- Contracts of the readers: slices.Equal; a list that stands ahead; what is valid. -/
import Derived.Test.YtbphijnhcpcclaaL2
import Derived.Test.YtbphijnhcpcclaaS1e
import Derived.IntWalk
namespace Go.Proofs.Ytbphijnhcpcclaa
open Go.ChangeShapes Go.WideShapes Go.ChangeAt Go.RowKit
set_option linter.unusedSimpArgs false
set_option linter.unusedVariables false

/-- R stands in D right ahead of the place a. -/
def aheadB (R D : List Int) (a : Nat) : Bool := decide (R.length = 0) || (decide (R.length ≤ a) && (decide (a ≤ D.length) && sameB ((D.drop (a - R.length)).take R.length) R))
/-- A reader's numbers are valid. -/
def validR (D : List Int) (p : Int) (S : List Int) (q : Int) (R : List Int) (z : Int) : Bool := validD D p S q && (inB z 1 16 && (decide ((R.length : Int) ≤ z) && aheadB R D p.toNat))
theorem validR_iff {D S R : List Int} {p q z : Int} : validR D p S q R z = true ↔ validD D p S q = true ∧ (1 ≤ z ∧ z ≤ 16) ∧ (R.length : Int) ≤ z ∧ aheadB R D p.toNat = true := by simp [validR, inB, and_assoc]
end Go.Proofs.Ytbphijnhcpcclaa
