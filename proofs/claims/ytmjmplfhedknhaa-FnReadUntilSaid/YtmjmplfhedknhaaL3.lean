/- A device's copy by the exact laws' own helper. -/
import Derived.Test.YtmjmplfhedknhaaL2
namespace Go.Proofs.Ytmjmplfhedknhaa
open Go.ChangeShapes Go.WideShapes Go.ChangeAt Go.RowKit
set_option linter.unusedSimpArgs false
set_option linter.unusedVariables false

/-- Two slices of some length have no cell in common. -/
def Apart (A : Option Addr) (n : Nat) (A' : Option Addr) (n' : Nat) : Prop := 0 < n → 0 < n' → ∀ a a' : Addr, A = some a → A' = some a' → a.block ≠ a'.block ∨ a.off + n ≤ a'.off ∨ a'.off + n' ≤ a.off
theorem Apart.of_le {w w' : World} {lo hi lo' hi' n n' : Nat} {A A' : Option Addr} {xs xs' : List Int} (h : Ints w lo hi A n xs) (h' : Ints w' lo' hi' A' n' xs') (hle : hi ≤ lo') : Apart A n A' n' := by
  intro hn hn' a a' e e'
  obtain ⟨b, o, e1, h1, h2, _⟩ := h.2.2.2 hn
  obtain ⟨b', o', e1', h1', h2', _⟩ := h'.2.2.2 hn'
  rw [e] at e1; rw [e'] at e1'
  injection e1 with e1; injection e1' with e1'
  subst e1; subst e1'
  left
  show b ≠ b'
  omega
theorem Apart.symm {n n' : Nat} {A A' : Option Addr} (h : Apart A n A' n') : Apart A' n' A n := fun h1 h2 a a' e e' => by
  rcases h h2 h1 a' a e' e with h | h | h
  · exact .inl h.symm
  · exact .inr (.inr h)
  · exact .inr (.inl h)
/-- The two parts of a slice. -/
theorem Apart.parts {w : World} {lo hi n m k : Nat} {A : Option Addr} {xs : List Int} (h : Ints w lo hi A n xs) (hk : m + k ≤ n) : Apart A m (A.map fun x => x.add m) k := fun h1 h2 a a' e e' => by
  obtain ⟨b, o, e1, _⟩ := h.2.2.2 (by omega)
  subst e1
  simp only [Option.map_some, Option.some.injEq, add_plain] at e e'
  subst e; subst e'
  exact .inr (.inl (Nat.le_refl _))
theorem Apart.zero {A A' : Option Addr} {n : Nat} : Apart A n A' 0 := fun _ h => absurd h (by omega)
theorem Apart.part1 {A A' : Option Addr} {n m k : Nat} (h : Apart A n A' m) (hk : k ≤ n) : Apart A k A' m := fun h1 h2 a a' e e' => by
  rcases h (by omega) h2 a a' e e' with h | h | h
  · exact .inl h
  · exact .inr (.inl (by omega))
  · exact .inr (.inr h)
theorem Apart.part2 {w : World} {lo hi n m k j : Nat} {A A' : Option Addr} {xs : List Int} (h : Apart A n A' m) (g : Ints w lo hi A n xs) (hk : k + j ≤ n) : Apart (A.map fun x => x.add k) j A' m := fun h1 h2 a a' e e' => by
  obtain ⟨b, o, e1, _⟩ := g.2.2.2 (by omega)
  subst e1
  simp only [Option.map_some, Option.some.injEq, add_plain] at e
  subst e
  rcases h (by omega) h2 _ a' rfl e' with h | h | h
  · exact .inl h
  · have h' : o + n ≤ a'.off := h
    exact .inr (.inl (by show o + k + j ≤ _; omega))
  · have h' : a'.off + m ≤ o := h
    exact .inr (.inr (by show _ ≤ o + k; omega))
/-- A device in blocks from lo on and below hi, its two slices apart. -/
def DevIn (w : World) (lo hi : Nat) (A : Option Addr) (n : Nat) (A' : Option Addr) (n' : Nat) (D : List Int) (p : Int) (S : List Int) (q : Int) : Prop :=
  Ints w lo hi A n D ∧ Ints w lo hi A' n' S ∧ Apart A n A' n' ∧ okInt p ∧ okInt q
/-- A device in new memory. -/
def DevPost (D : List Int) (p : Int) (S : List Int) (q : Int) (w : World) (e : Ending) (w' : World) : Prop :=
  ∃ A n c A' n' c', e = .returned (.agg #[.slice A n c, .int .i64 p, .slice A' n' c', .int .i64 q]) ∧ (n ≤ c ∧ n' ≤ c') ∧ Below w.heap.size w w' ∧ DevIn w' w.heap.size w'.heap.size A n A' n' D p S q

end Go.Proofs.Ytmjmplfhedknhaa
