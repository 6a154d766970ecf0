/- Contracts of the drawing functions: some bytes, a script. -/
import Derived.Test.YtkgjcoakeliocaaDoorD3
import Derived.Test.YtkgjcoakeliocaaDoorApp2
namespace Go.Proofs.YtkgjcoakeliocaaDoor
open Go.ChangeShapes Go.WideShapes Go.ChangeAt Go.RowKit
set_option linter.unusedSimpArgs false
set_option linter.unusedVariables false

theorem turn_grown {w w1 w' : World} {base n g : Nat} {v : Value} {xs : List Int} (h : OwnI w1 base v n xs) (hg : w1.grownBy w' v.ownBlock) (hb : base ≤ w1.heap.size) (ht : Turn base g w w1) : Turn base g w w' :=
  ht.step (below_grown h hg hb) (Nat.le_refl _)
theorem one_int (w : World) (x : Int) (h1 : -1000000 ≤ x) (h2 : x ≤ 1000000) : Ints (w.alloc (.cells #[.int .i64 x] 3)) w.heap.size (w.heap.size + 1) (some ⟨w.heap.size, 0, none⟩) 1 [x] :=
  Ints.of_box (xs := [x]) (Box.new w _ [.int .i64 x]) rfl (by decide) (by intro y hy; simp at hy; subst hy; unfold okInt; omega)

/-- A row of the call's own, drawn by the chooser in block g. -/
def RowPost (g P : Nat) (Q : List Int → Prop) (w : World) (e : Ending) (w' : World) : Prop :=
  ∃ v xs, e = .returned v ∧ Q xs ∧ OwnI w' w.heap.size v xs.length xs ∧ Ch w' g P ∧ Turn w.heap.size g w w'

end Go.Proofs.YtkgjcoakeliocaaDoor
