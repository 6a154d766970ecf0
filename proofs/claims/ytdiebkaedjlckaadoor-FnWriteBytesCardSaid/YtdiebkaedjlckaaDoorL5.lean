/- A reader by the exact laws' own helpers: its size, its copy, its comparison; a reader among a law's arguments. -/
import Derived.Test.YtdiebkaedjlckaaDoorL4
import Derived.Test.YtdiebkaedjlckaaDoorLawBase
import Derived.Deep.Strs
namespace Go.Proofs.YtdiebkaedjlckaaDoor
open Go.ChangeShapes Go.WideShapes Go.ChangeAt Go.RowKit
set_option maxRecDepth 10000
set_option linter.unusedSimpArgs false
set_option linter.unusedVariables false


theorem array6 {cs : Array Value} (h : cs.size = 6) : ∃ c0 c1 c2 c3 c4 c5, cs = #[c0, c1, c2, c3, c4, c5] := by
  obtain ⟨l⟩ := cs
  have hl : l.length = 6 := h
  match l, hl with
  | [c0, c1, c2, c3, c4, c5], _ => exact ⟨c0, c1, c2, c3, c4, c5, rfl⟩
/-- A reader in new memory, its three slices apart. -/
def RdrIn (w : World) (lo hi : Nat) (A : Option Addr) (n : Nat) (A' : Option Addr) (n' : Nat) (A2 : Option Addr) (n2 : Nat) (D : List Int) (p : Int) (S : List Int) (q : Int) (R : List Int) (z : Int) : Prop :=
  DevIn w lo hi A n A' n' D p S q ∧ Ints w lo hi A2 n2 R ∧ Apart A2 n2 A n ∧ Apart A2 n2 A' n' ∧ okInt z
def RdrPost (D : List Int) (p : Int) (S : List Int) (q : Int) (R : List Int) (z : Int) (w : World) (e : Ending) (w' : World) : Prop :=
  ∃ A n c A' n' c' A2 n2 c2, e = .returned (.agg #[.slice (A) n c, .int .i64 (p), .slice (A') n' c', .int .i64 (q), .slice (A2) n2 c2, .int .i64 (z)]) ∧ (n ≤ c ∧ n' ≤ c' ∧ n2 ≤ c2) ∧ Below w.heap.size w w' ∧ RdrIn w' w.heap.size w'.heap.size A n A' n' A2 n2 D p S q R z
end Go.Proofs.YtdiebkaedjlckaaDoor
