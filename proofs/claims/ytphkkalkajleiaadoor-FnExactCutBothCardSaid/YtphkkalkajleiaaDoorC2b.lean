/- Contracts of a reader at work: how it is made, its place; TellReader. -/
import Derived.Test.YtphkkalkajleiaaDoorC2a
import Derived.Test.YtphkkalkajleiaaDoorC1b
import Derived.Test.YtphkkalkajleiaaDoorS1d
import Derived.Deep.RegionHeld3
namespace Go.Proofs.YtphkkalkajleiaaDoor
open Go.ChangeShapes Go.WideShapes Go.ChangeAt Go.RowKit
set_option linter.unusedSimpArgs false
set_option linter.unusedVariables false

/-- A reader at work in block b, its slices in new memory below that. -/
def LookPost (D : List Int) (p : Int) (S : List Int) (q : Int) (R : List Int) (z : Int) (w : World) (e : Ending) (w' : World) : Prop :=
  ∃ b A n c A' n' c' A2 n2 c2, e = .returned (.pointer (some ⟨b, 0, none⟩)) ∧ (n ≤ c ∧ n' ≤ c' ∧ n2 ≤ c2) ∧ Below w.heap.size w w' ∧ w.heap.size ≤ b ∧ Box w' b [.slice (A) n c, .int .i64 (p), .slice (A') n' c', .int .i64 (q), .slice (A2) n2 c2, .int .i64 (z)] ∧
    Ints w' w.heap.size b A n D ∧ Ints w' w.heap.size b A' n' S ∧ Ints w' w.heap.size b A2 n2 R ∧ Apart A n A' n' ∧ Apart A2 n2 A n ∧ Apart A2 n2 A' n'

set_option maxHeartbeats 1000000 in
theorem tell_any {A A' A2 : Option Addr} {n c n' c' n2 c2 b : Nat} {p q z : Int} {w : World} (hX : Box w b [.slice (A) n c, .int .i64 (p), .slice (A') n' c', .int .i64 (q), .slice (A2) n2 c2, .int .i64 (z)]) (hp : -1000 ≤ p ∧ p ≤ 1000) (hn2 : n2 ≤ 1000) :
    Calls Tryd.prog 130 #[.pointer (some ⟨b, 0, none⟩)] w (IntB (p - (n2 : Int)) w) := by
  have HX := Lib.hid hX
  have hw : IntKind.i64.wrap (p - (n2 : Int)) = p - (n2 : Int) := IntWalk.i64_in _ (by omega)
  have x0 := (HX.out.2 0 _ rfl).1; have x1 := (HX.out.2 1 _ rfl).1; have x2 := (HX.out.2 2 _ rfl).1; have x3 := (HX.out.2 3 _ rfl).1; have x4 := (HX.out.2 4 _ rfl).1; have x5 := (HX.out.2 5 _ rfl).1
  go_enter Tryd.func130, Tryd.ntmps130
  go_wp2
  go_quiet (fail)
  go_wp2
  go_ret
  exact ⟨rfl, below_drewN (Below.refl _ _) _⟩
def tellOut (D : List Int) (p : Int) (S : List Int) (q : Int) (R : List Int) (z : Int) : Int := if validR D p S q R z then p - (R.length : Int) else -1
end Go.Proofs.YtphkkalkajleiaaDoor
