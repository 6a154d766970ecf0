/- Contract of the model's copyReader. -/
import Derived.Test.YtdiebkaedjlckaaDoorC2c
import Derived.Test.YtdiebkaedjlckaaDoorS1b
namespace Go.Proofs.YtdiebkaedjlckaaDoor
open Go.ChangeShapes Go.WideShapes Go.ChangeAt Go.RowKit
set_option linter.unusedSimpArgs false
set_option linter.unusedVariables false

theorem keepS {w : World} {b c o : Nat} {v u0 u1 u2 u3 u4 u5 : Value} (h : w.cell? ⟨b, o, none⟩ = some v) (hne : b ≠ c) :
    ((((((w.setCell ⟨c, 0, none⟩ u0).setCell ⟨c, 1, none⟩ u1).setCell ⟨c, 2, none⟩ u2).setCell ⟨c, 3, none⟩ u3).setCell ⟨c, 4, none⟩ u4).setCell ⟨c, 5, none⟩ u5).cell? ⟨b, o, none⟩ = some v := by
  refine (World.cell?_of_block (w := w) (a := ⟨b, o, none⟩) ?_).trans h
  rw [Below.heap_setCell _ ⟨c, 5, none⟩ u5 b hne, Below.heap_setCell _ ⟨c, 4, none⟩ u4 b hne, Below.heap_setCell _ ⟨c, 3, none⟩ u3 b hne, Below.heap_setCell _ ⟨c, 2, none⟩ u2 b hne, Below.heap_setCell _ ⟨c, 1, none⟩ u1 b hne, Below.heap_setCell _ ⟨c, 0, none⟩ u0 b hne]
end Go.Proofs.YtdiebkaedjlckaaDoor
