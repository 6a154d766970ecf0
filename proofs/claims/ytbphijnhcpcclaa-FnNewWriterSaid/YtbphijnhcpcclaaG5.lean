/- Writers in the laws of promises: new ones. -/
import Derived.Test.YtbphijnhcpcclaaG4
import Derived.Test.YtbphijnhcpcclaaC3b
namespace Go.Proofs.Ytbphijnhcpcclaa
open Go.ChangeShapes Go.WideShapes Go.ChangeAt Go.RowKit
set_option linter.unusedSimpArgs false
set_option linter.unusedVariables false

theorem neww_no {D S : List Int} {p q z : Int} (h : validW D p S q [] z = false) : newWOut D p S q z = (⟨[], 0, [], 0, [], 0⟩, false) := by
  unfold newWOut; rw [h]; rfl
theorem neww_yes {D S : List Int} {p q z : Int} (h : validW D p S q [] z = true) : newWOut D p S q z = (⟨D, p, S, q, [], z⟩, true) := by
  unfold newWOut; rw [h]; rfl
theorem seen_new {D S : List Int} {p q z : Int} (h : validW D p S q [] z = true) : seenOut D p S q [] z = D := by
  unfold seenOut; rw [if_pos h]; simp [wrL]
theorem tellw_new {D S : List Int} {p q z : Int} (h : validW D p S q [] z = true) : tellWOut D p S q [] z = p := by
  unfold tellWOut; rw [if_pos h]; simp
end Go.Proofs.Ytbphijnhcpcclaa
