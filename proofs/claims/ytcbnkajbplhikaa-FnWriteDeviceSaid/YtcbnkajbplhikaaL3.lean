/- A device's copy by the exact laws' own helper. -/
import Derived.Test.YtcbnkajbplhikaaL2
namespace Go.Proofs.Ytcbnkajbplhikaa
open Go.ChangeShapes Go.WideShapes Go.ChangeAt Go.RowKit
set_option linter.unusedSimpArgs false
set_option linter.unusedVariables false

/-- Two slices of some length lie in blocks that differ. -/
def Apart (A : Option Addr) (n : Nat) (A' : Option Addr) (n' : Nat) : Prop := 0 < n → 0 < n' → ∀ a a' : Addr, A = some a → A' = some a' → a.block ≠ a'.block
theorem Apart.of_le {w w' : World} {lo hi lo' hi' n n' : Nat} {A A' : Option Addr} {xs xs' : List Int} (h : Ints w lo hi A n xs) (h' : Ints w' lo' hi' A' n' xs') (hle : hi ≤ lo') : Apart A n A' n' := by
  intro hn hn' a a' e e'
  obtain ⟨b, o, e1, h1, h2, _⟩ := h.2.2.2 hn
  obtain ⟨b', o', e1', h1', h2', _⟩ := h'.2.2.2 hn'
  rw [e] at e1; rw [e'] at e1'
  injection e1 with e1; injection e1' with e1'
  subst e1; subst e1'
  show b ≠ b'
  omega
theorem Apart.symm {n n' : Nat} {A A' : Option Addr} (h : Apart A n A' n') : Apart A' n' A n := fun h1 h2 a a' e e' => (h h2 h1 a' a e' e).symm
/-- A device in blocks from lo on and below hi, its two slices apart. -/
def DevIn (w : World) (lo hi : Nat) (A : Option Addr) (n : Nat) (A' : Option Addr) (n' : Nat) (D : List Int) (p : Int) (S : List Int) (q : Int) : Prop :=
  Ints w lo hi A n D ∧ Ints w lo hi A' n' S ∧ Apart A n A' n' ∧ okInt p ∧ okInt q
/-- A device in new memory. -/
def DevPost (D : List Int) (p : Int) (S : List Int) (q : Int) (w : World) (e : Ending) (w' : World) : Prop :=
  ∃ A n c A' n' c', e = .returned (.agg #[.slice A n c, .int .i64 p, .slice A' n' c', .int .i64 q]) ∧ (n ≤ c ∧ n' ≤ c') ∧ Below w.heap.size w w' ∧ DevIn w' w.heap.size w'.heap.size A n A' n' D p S q

end Go.Proofs.Ytcbnkajbplhikaa
