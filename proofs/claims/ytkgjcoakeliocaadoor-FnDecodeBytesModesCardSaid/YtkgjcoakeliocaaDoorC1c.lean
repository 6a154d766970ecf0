/- Contracts of IsSmooth, impl's and the model's. -/
import Derived.Test.YtkgjcoakeliocaaDoorC1b
namespace Go.Proofs.YtkgjcoakeliocaaDoor
open Go.ChangeShapes Go.WideShapes Go.ChangeAt Go.RowKit
set_option linter.unusedSimpArgs false
set_option linter.unusedVariables false

/-- No number from index a on is less than 1. -/
def smoothB (S : List Int) (a : Nat) : Bool := (S.drop a).all fun x => decide (1 ≤ x)
theorem smoothB_iff {S : List Int} {a : Nat} : smoothB S a = true ↔ ∀ j x, a ≤ j → S[j]? = some x → 1 ≤ x := by
  unfold smoothB
  rw [List.all_eq_true]
  constructor
  · intro h j x hj hx
    have : x ∈ S.drop a := by
      refine List.mem_of_getElem? (i := j - a) ?_
      rw [List.getElem?_drop, show a + (j - a) = j from by omega]
      exact hx
    simpa using h x this
  · intro h x hx
    obtain ⟨i, hi⟩ := List.mem_iff_getElem?.1 hx
    rw [List.getElem?_drop] at hi
    simpa using h (a + i) x (by omega) hi
theorem smoothB_no {S : List Int} {a j : Nat} {x : Int} (hj : a ≤ j) (hx : S[j]? = some x) (h : x < 1) : smoothB S a = false := by
  cases e : smoothB S a with
  | false => rfl
  | true => have := smoothB_iff.1 e j x hj hx; omega
/-- What a valid device's numbers are. -/
theorem validD_iff {D S : List Int} {p q : Int} : validD D p S q = true ↔ bytesB D = true ∧ S.length ≤ 12 ∧ allB S (-1) 60 = true ∧ (0 ≤ p ∧ p ≤ 60) ∧ (0 ≤ q ∧ q ≤ 1000) := by
  simp [validD, inB, and_assoc]
def SmoothTo (S : List Int) (a k : Nat) : Prop := ∀ j x, a ≤ j → j < k → S[j]? = some x → 1 ≤ x
theorem SmoothTo.succ {S : List Int} {a k : Nat} {x : Int} (h : SmoothTo S a k) (hx : S[k]? = some x) (h1 : 1 ≤ x) : SmoothTo S a (k + 1) := by
  intro j y ha hj hy
  by_cases e : j = k
  · subst e; rw [hx] at hy; injection hy with hy; omega
  · exact h j y ha (by omega) hy

end Go.Proofs.YtkgjcoakeliocaaDoor
