/- Contracts of NewDevice, impl's and the model's. -/
import Derived.Test.YtdiebkaedjlckaaDoorS1b
namespace Go.Proofs.YtdiebkaedjlckaaDoor
open Go.ChangeShapes Go.WideShapes Go.ChangeAt Go.RowKit
set_option linter.unusedSimpArgs false
set_option linter.unusedVariables false

/-- A device and a bool, in new memory. -/
def Post2 (o : Dv × Bool) (w : World) (e : Ending) (w' : World) : Prop :=
  ∃ A n c A' n' c', e = .returned (.tuple #[.agg #[.slice (A) n c, .int .i64 (o.1.p), .slice (A') n' c', .int .i64 (o.1.q)], .bool o.2]) ∧ (n ≤ c ∧ n' ≤ c') ∧ Below w.heap.size w w' ∧ DevIn w' w.heap.size w'.heap.size A n A' n' o.1.d o.1.p o.1.s o.1.q
theorem Post2.zero {w w' : World} (hb : Below w.heap.size w w') : Post2 (Dv.zero, false) w (.returned (.tuple #[.agg #[.slice none 0 0, .int .i64 0, .slice none 0 0, .int .i64 0], .bool false])) w' :=
  ⟨none, 0, 0, none, 0, 0, rfl, ⟨Nat.le_refl _, Nat.le_refl _⟩, hb, DevIn.zero _ _ _⟩

def newOut (D S : List Int) : Dv × Bool := if validD D 0 S 0 then (⟨D, 0, S, 0⟩, true) else (.zero, false)


theorem newOut_le (D S : List Int) : (newOut D S).1.d.length ≤ 60 ∧ (newOut D S).1.s.length ≤ 60 := by
  unfold newOut
  split
  · obtain ⟨hb, hs, _⟩ := validD_iff.1 ‹_›
    exact ⟨bytesB_le hb, by show S.length ≤ 60; omega⟩
  · exact ⟨by decide, by decide⟩
end Go.Proofs.YtdiebkaedjlckaaDoor
