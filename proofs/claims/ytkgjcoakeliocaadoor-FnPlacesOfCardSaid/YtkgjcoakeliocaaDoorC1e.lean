/- Contracts of a device's 'read', of canCall and of ReadDevice. -/
import Derived.Test.YtkgjcoakeliocaaDoorC1d
import Derived.WalkLawsBesides
namespace Go.Proofs.YtkgjcoakeliocaaDoor
open Go.ChangeShapes Go.WideShapes Go.ChangeAt Go.RowKit
set_option linter.unusedSimpArgs false
set_option linter.unusedVariables false

/-- What a call that reads gives, may being k. -/
def rdL (D : List Int) (p k N : Int) : List Int := if k < 1 then [] else (D.drop p.toNat).take (min N k).toNat
def rdSt (D : List Int) (p k : Int) : Int := if k < 0 then 3 else if k = 0 then 2 else if (D.length : Int) ≤ p then 1 else 0
def ReadPost (b : Nat) (A : Option Addr) (n c : Nat) (p : Int) (A' : Option Addr) (n' c' a : Nat) (D : List Int) (k N : Int) (w : World) (e : Ending) (w' : World) : Prop :=
  ∃ A1 n1 c1, e = .returned (.tuple #[.slice A1 n1 c1, .int .i64 (rdSt D p k)]) ∧ n1 ≤ c1 ∧ Turn w.heap.size b w w' ∧ Ints w' w.heap.size w'.heap.size A1 n1 (rdL D p k N) ∧
    Box w' b [.slice A n c, .int .i64 (p + ((rdL D p k N).length : Int)), .slice A' n' c', .int .i64 ((a : Int) + 1)]

end Go.Proofs.YtkgjcoakeliocaaDoor
