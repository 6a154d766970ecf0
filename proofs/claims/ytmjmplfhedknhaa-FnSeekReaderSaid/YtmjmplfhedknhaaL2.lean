/- Contracts of the exact laws' comparisons, and of a device's copy. -/
import Derived.Test.YtmjmplfhedknhaaL1
namespace Go.Proofs.Ytmjmplfhedknhaa
open Go.ChangeShapes Go.WideShapes Go.ChangeAt Go.RowKit
set_option linter.unusedSimpArgs false
set_option linter.unusedVariables false

theorem eq_of_take_all {xs ys : List Int} (hl : xs.length = ys.length) (h : ∀ (j : Nat) (x y : Int), xs[j]? = some x → ys[j]? = some y → x = y) : xs = ys := by
  apply List.ext_getElem hl
  intro j h1 h2
  exact h j _ _ (List.getElem?_eq_getElem h1) (List.getElem?_eq_getElem h2)
def SameTo (xs ys : List Int) (k : Nat) : Prop := ∀ j x y, j < k → xs[j]? = some x → ys[j]? = some y → x = y
theorem SameTo.succ {xs ys : List Int} {k : Nat} {x : Int} (h : SameTo xs ys k) (hx : xs[k]? = some x) (hy : ys[k]? = some x) : SameTo xs ys (k + 1) := by
  intro j a b hj ha hb
  by_cases e : j = k
  · subst e; rw [hx] at ha; rw [hy] at hb; injection ha with ha; injection hb with hb; omega
  · exact h j a b (by omega) ha hb
def sameB (xs ys : List Int) : Bool := decide (xs = ys)
theorem sameB_iff {xs ys : List Int} : sameB xs ys = true ↔ xs = ys := by simp [sameB]
def BoolQ (b : Bool) (w : World) (e : Ending) (w' : World) : Prop := e = .returned (.bool b) ∧ ∃ m, w' = w.drewN m


def BoolB (b : Bool) (w : World) (e : Ending) (w' : World) : Prop := e = .returned (.bool b) ∧ Below w.heap.size w w'
def eqD (D : List Int) (p : Int) (S : List Int) (q : Int) (D' : List Int) (p' : Int) (S' : List Int) (q' : Int) : Bool := sameB D D' && (decide (p = p') && (sameB S S' && decide (q = q')))
theorem eqD_refl (D : List Int) (p : Int) (S : List Int) (q : Int) : eqD D p S q D p S q = true := by simp [eqD, sameB]
theorem eqD_iff {D D' S S' : List Int} {p p' q q' : Int} : eqD D p S q D' p' S' q' = true ↔ D = D' ∧ p = p' ∧ S = S' ∧ q = q' := by simp [eqD, sameB]


end Go.Proofs.Ytmjmplfhedknhaa
