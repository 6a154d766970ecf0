/- Contracts of the exact laws' own helpers for ints and devices: sizes, copies, comparisons. -/
import Derived.Test.YtmjmplfhedknhaaS1a
namespace Go.Proofs.Ytmjmplfhedknhaa
open Go.ChangeShapes Go.WideShapes Go.ChangeAt Go.RowKit
set_option linter.unusedSimpArgs false
set_option linter.unusedVariables false

/-- What a size leaves: -1, or so much less. -/
def SzQ (left total : Int) (w : World) (e : Ending) (w' : World) : Prop := ∃ r : Int, e = .returned (.int .i64 r) ∧ (-1 ≤ r ∧ r ≤ left ∧ (r < 0 ∨ total + r = left)) ∧ w = w'
def SzPost (left total : Int) (w : World) (e : Ending) (w' : World) : Prop := ∃ r : Int, e = .returned (.int .i64 r) ∧ (-1 ≤ r ∧ r ≤ left ∧ (r < 0 ∨ total + r = left)) ∧ Below w.heap.size w w'



theorem infoInt : (Try.prog.info? 3).map (fun i => (i.zero, i.size, i.bytes)) = some (some (.int .i64 0), 1, 8) := by kernel_rfl
theorem ofRowIs {w : World} {b t n : Nat} {f g : Nat → Value} (h : w.rowIs b t n f) (e : ∀ i, i < n → f i = g i) : w.rowIs b t n g := h.congr e
/-- A copy of ints in a new block of its own. -/
def CopyPost (w : World) (n : Nat) (xs : List Int) (e : Ending) (w' : World) : Prop :=
  e = .returned (.slice (some ⟨w.heap.size, 0, none⟩) n n) ∧ Below w.heap.size w w' ∧ w'.heap.size = w.heap.size + 1 ∧ Ints w' w.heap.size (w.heap.size + 1) (some ⟨w.heap.size, 0, none⟩) n xs
/-- The k first cells are copied, the others are 0. -/
def halfRow (xs : List Int) (k j : Nat) : Value := .int .i64 (if j < k then xs.getD j 0 else 0)
theorem halfRow_lt {xs : List Int} {k j : Nat} {x : Int} (hj : j < k) (hx : xs[j]? = some x) : halfRow xs k j = .int .i64 x := by
  simp [halfRow, hj, List.getD, hx]
theorem halfRow_succ {xs : List Int} {k : Nat} {x : Int} (hx : xs[k]? = some x) (j : Nat) : (if j = k then Value.int .i64 x else halfRow xs k j) = halfRow xs (k + 1) j := by
  by_cases e : j = k
  · subst e; simp [halfRow, List.getD, hx]
  · rw [if_neg e]
    unfold halfRow
    by_cases h : j < k
    · rw [if_pos h, if_pos (by omega)]
    · rw [if_neg h, if_neg (by omega)]

end Go.Proofs.Ytmjmplfhedknhaa
