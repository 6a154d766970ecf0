/- Contracts of canCall and of ReadDevice. -/
import Derived.Test.YtmjmplfhedknhaaC1e
namespace Go.Proofs.Ytmjmplfhedknhaa
open Go.ChangeShapes Go.WideShapes Go.ChangeAt Go.RowKit
set_option linter.unusedSimpArgs false
set_option linter.unusedVariables false

/-- A device's numbers, as one. -/
structure Dv where
  d : List Int
  p : Int
  s : List Int
  q : Int
def Dv.zero : Dv := ⟨[], 0, [], 0⟩
def goodCall (D : List Int) (p : Int) (S : List Int) (q : Int) : Bool := validD D p S q && decide (q < 1000)
def rdGood (D : List Int) (p : Int) (S : List Int) (q N : Int) : Bool := goodCall D p S q && inB N 1 60
/-- What ReadDevice gives. -/
def rdOut (D : List Int) (p : Int) (S : List Int) (q N : Int) : Dv × List Int × Int :=
  if rdGood D p S q N then (⟨D, p + ((rdL D p (mayAt S q.toNat) N).length : Int), S, q + 1⟩, rdL D p (mayAt S q.toNat) N, rdSt D p (mayAt S q.toNat)) else (.zero, [], 5)
theorem rdL_len (D : List Int) (p k N : Int) : (rdL D p k N).length ≤ D.length := by
  unfold rdL
  split
  · simp
  · rw [List.length_take, List.length_drop]; omega
theorem rdGood_iff {D S : List Int} {p q N : Int} : rdGood D p S q N = true ↔ validD D p S q = true ∧ q < 1000 ∧ 1 ≤ N ∧ N ≤ 60 := by simp [rdGood, goodCall, inB, and_assoc]

/-- A device, ints and an int, in new memory, all apart. -/
def Post3 (o : Dv × List Int × Int) (w : World) (e : Ending) (w' : World) : Prop :=
  ∃ A n c A' n' c' A1 n1 c1, e = .returned (.tuple #[.agg #[.slice (A) n c, .int .i64 (o.1.p), .slice (A') n' c', .int .i64 (o.1.q)], .slice A1 n1 c1, .int .i64 o.2.2]) ∧ (n ≤ c ∧ n' ≤ c' ∧ n1 ≤ c1) ∧ Below w.heap.size w w' ∧
    DevIn w' w.heap.size w'.heap.size A n A' n' o.1.d o.1.p o.1.s o.1.q ∧ Ints w' w.heap.size w'.heap.size A1 n1 o.2.1 ∧ Apart A1 n1 A n ∧ Apart A1 n1 A' n' ∧ okInt o.2.2

theorem DevIn.zero (w : World) (lo hi : Nat) : DevIn w lo hi none 0 none 0 [] 0 [] 0 :=
  ⟨(Ints.nil _ _ _ 0 _).1, (Ints.nil _ _ _ 0 _).1, fun h => absurd h (by omega), by unfold okInt; omega, by unfold okInt; omega⟩
theorem Post3.zero {w w' : World} (hb : Below w.heap.size w w') : Post3 (Dv.zero, [], 5) w (.returned (.tuple #[.agg #[.slice none 0 0, .int .i64 0, .slice none 0 0, .int .i64 0], .slice none 0 0, .int .i64 5])) w' :=
  ⟨none, 0, 0, none, 0, 0, none, 0, 0, rfl, ⟨Nat.le_refl _, Nat.le_refl _, Nat.le_refl _⟩, hb, DevIn.zero _ _ _, (Ints.nil _ _ _ 0 _).1, fun h => absurd h (by omega), fun h => absurd h (by omega), by unfold okInt; show _ ≤ (5 : Int) ∧ (5 : Int) ≤ _; omega⟩


end Go.Proofs.Ytmjmplfhedknhaa
