/- Contract of WriteDevice, the program's. -/
import Derived.Test.YtdiebkaedjlckaaDoorC1k
namespace Go.Proofs.YtdiebkaedjlckaaDoor
open Go.ChangeShapes Go.WideShapes Go.ChangeAt Go.RowKit
set_option linter.unusedSimpArgs false
set_option linter.unusedVariables false

def wrGood (D : List Int) (p : Int) (S : List Int) (q : Int) (L : List Int) : Bool := goodCall D p S q && (decide (1 ≤ L.length) && bytesB L)
/-- What WriteDevice gives. -/
def wrOut (D : List Int) (p : Int) (S : List Int) (q : Int) (L : List Int) : Dv × Int × Int :=
  if wrGood D p S q L then (⟨wrL D p.toNat (L.take (wrM p (mayAt S q.toNat) L.length)), p + (wrM p (mayAt S q.toNat) L.length : Nat), S, q + 1⟩, (wrM p (mayAt S q.toNat) L.length : Nat), wrSt p (mayAt S q.toNat)) else (.zero, 0, 5)
theorem wrGood_iff {D S L : List Int} {p q : Int} : wrGood D p S q L = true ↔ validD D p S q = true ∧ q < 1000 ∧ 1 ≤ L.length ∧ bytesB L = true := by simp [wrGood, goodCall, and_assoc]
theorem wrM_le (p k : Int) (m : Nat) : wrM p k m ≤ m ∧ (0 < wrM p k m → wrM p k m ≤ 60 - p.toNat) := by
  unfold wrM
  split <;> omega

/-- A device and two ints, in new memory. -/
def Post4 (o : Dv × Int × Int) (w : World) (e : Ending) (w' : World) : Prop :=
  ∃ A n c A' n' c', e = .returned (.tuple #[.agg #[.slice (A) n c, .int .i64 (o.1.p), .slice (A') n' c', .int .i64 (o.1.q)], .int .i64 o.2.1, .int .i64 o.2.2]) ∧ (n ≤ c ∧ n' ≤ c') ∧ Below w.heap.size w w' ∧
    DevIn w' w.heap.size w'.heap.size A n A' n' o.1.d o.1.p o.1.s o.1.q ∧ okInt o.2.1 ∧ okInt o.2.2
theorem Post4.zero {w w' : World} (hb : Below w.heap.size w w') : Post4 (Dv.zero, 0, 5) w (.returned (.tuple #[.agg #[.slice none 0 0, .int .i64 0, .slice none 0 0, .int .i64 0], .int .i64 0, .int .i64 5])) w' :=
  ⟨none, 0, 0, none, 0, 0, rfl, ⟨Nat.le_refl _, Nat.le_refl _⟩, hb, DevIn.zero _ _ _, by unfold okInt; show _ ≤ (0 : Int) ∧ (0 : Int) ≤ _; omega, by unfold okInt; show _ ≤ (5 : Int) ∧ (5 : Int) ≤ _; omega⟩

end Go.Proofs.YtdiebkaedjlckaaDoor
