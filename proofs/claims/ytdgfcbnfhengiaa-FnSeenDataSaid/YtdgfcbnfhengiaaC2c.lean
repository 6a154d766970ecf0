/- Contracts of the readers: slices.Equal; a list that stands ahead; what is valid. -/
import Derived.Test.YtdgfcbnfhengiaaL3
import Derived.Test.YtdgfcbnfhengiaaS1e
import Derived.IntWalk
import Derived.Test.YtdgfcbnfhengiaaC1b
import Derived.Test.YtdgfcbnfhengiaaS1d
import Derived.Deep.RegionHeld3
import Derived.Test.YtdgfcbnfhengiaaL5
namespace Go.Proofs.Ytdgfcbnfhengiaa
section
open Go.ChangeShapes Go.WideShapes Go.ChangeAt Go.RowKit
set_option linter.unusedSimpArgs false
set_option linter.unusedVariables false

/-- R stands in D right ahead of the place a. -/
def aheadB (R D : List Int) (a : Nat) : Bool := decide (R.length = 0) || (decide (R.length ≤ a) && (decide (a ≤ D.length) && sameB ((D.drop (a - R.length)).take R.length) R))
/-- A reader's numbers are valid. -/
def validR (D : List Int) (p : Int) (S : List Int) (q : Int) (R : List Int) (z : Int) : Bool := validD D p S q && (inB z 1 16 && (decide ((R.length : Int) ≤ z) && aheadB R D p.toNat))
theorem validR_iff {D S R : List Int} {p q z : Int} : validR D p S q R z = true ↔ validD D p S q = true ∧ (1 ≤ z ∧ z ≤ 16) ∧ (R.length : Int) ≤ z ∧ aheadB R D p.toNat = true := by simp [validR, inB, and_assoc]
end
section
open Go.ChangeShapes Go.WideShapes Go.ChangeAt Go.RowKit
set_option linter.unusedSimpArgs false
set_option linter.unusedVariables false

/-- A reader at work in block b, its slices in new memory below that. -/
def LookPost (D : List Int) (p : Int) (S : List Int) (q : Int) (R : List Int) (z : Int) (w : World) (e : Ending) (w' : World) : Prop :=
  ∃ b A n c A' n' c' A2 n2 c2, e = .returned (.pointer (some ⟨b, 0, none⟩)) ∧ (n ≤ c ∧ n' ≤ c' ∧ n2 ≤ c2) ∧ Below w.heap.size w w' ∧ w.heap.size ≤ b ∧ Box w' b [.slice (A) n c, .int .i64 (p), .slice (A') n' c', .int .i64 (q), .slice (A2) n2 c2, .int .i64 (z)] ∧
    Ints w' w.heap.size b A n D ∧ Ints w' w.heap.size b A' n' S ∧ Ints w' w.heap.size b A2 n2 R ∧ Apart A n A' n' ∧ Apart A2 n2 A n ∧ Apart A2 n2 A' n'
def tellOut (D : List Int) (p : Int) (S : List Int) (q : Int) (R : List Int) (z : Int) : Int := if validR D p S q R z then p - (R.length : Int) else -1
end
section
open Go.ChangeShapes Go.WideShapes Go.ChangeAt Go.RowKit
set_option linter.unusedSimpArgs false
set_option linter.unusedVariables false

/-- A reader's numbers, as one. -/
structure Rv where
  d : List Int
  p : Int
  s : List Int
  q : Int
  r : List Int
  z : Int
def Rv.zero : Rv := ⟨[], 0, [], 0, [], 0⟩
/-- A reader and a bool, in new memory. -/
def Post2R (o : Rv × Bool) (w : World) (e : Ending) (w' : World) : Prop :=
  ∃ A n c A' n' c' A2 n2 c2, e = .returned (.tuple #[.agg #[.slice (A) n c, .int .i64 (o.1.p), .slice (A') n' c', .int .i64 (o.1.q), .slice (A2) n2 c2, .int .i64 (o.1.z)], .bool o.2]) ∧ (n ≤ c ∧ n' ≤ c' ∧ n2 ≤ c2) ∧ Below w.heap.size w w' ∧ RdrIn w' w.heap.size w'.heap.size A n A' n' A2 n2 o.1.d o.1.p o.1.s o.1.q o.1.r o.1.z
theorem Post2R.zero {w w' : World} (hb : Below w.heap.size w w') : Post2R (Rv.zero, false) w (.returned (.tuple #[.agg #[.slice none 0 0, .int .i64 0, .slice none 0 0, .int .i64 0, .slice none 0 0, .int .i64 0], .bool false])) w' :=
  ⟨none, 0, 0, none, 0, 0, none, 0, 0, rfl, ⟨Nat.le_refl _, Nat.le_refl _, Nat.le_refl _⟩, hb, DevIn.zero _ _ _, (Ints.nil _ _ _ 0 _).1, fun h => absurd h (by omega), fun h => absurd h (by omega), by unfold okInt; show _ ≤ (0 : Int) ∧ (0 : Int) ≤ _; omega⟩
theorem keep0 {w : World} {b o : Nat} {v : Value} (h : w.cell? ⟨b, o, none⟩ = some v) : w.drew.cell? ⟨b, o, none⟩ = some v := h
theorem keep6 {w : World} {b c o : Nat} {v u0 u1 u2 u3 u4 u5 : Value} (h : w.cell? ⟨b, o, none⟩ = some v) (hne : b ≠ c) :
    ((((((w.setCell ⟨c, 0, none⟩ u0).setCell ⟨c, 1, none⟩ u1).setCell ⟨c, 2, none⟩ u2).setCell ⟨c, 3, none⟩ u3).setCell ⟨c, 4, none⟩ u4).setCell ⟨c, 5, none⟩ u5).drew.cell? ⟨b, o, none⟩ = some v := by
  refine (World.cell?_of_block (w := w) (a := ⟨b, o, none⟩) ?_).trans h
  rw [show ∀ W : World, W.drew.heap = W.heap from fun _ => rfl, Below.heap_setCell _ ⟨c, 5, none⟩ u5 b hne, Below.heap_setCell _ ⟨c, 4, none⟩ u4 b hne, Below.heap_setCell _ ⟨c, 3, none⟩ u3 b hne, Below.heap_setCell _ ⟨c, 2, none⟩ u2 b hne, Below.heap_setCell _ ⟨c, 1, none⟩ u1 b hne, Below.heap_setCell _ ⟨c, 0, none⟩ u0 b hne]

def newROut (D : List Int) (p : Int) (S : List Int) (q z : Int) : Rv × Bool := if validR D p S q [] z then (⟨D, p, S, q, [], z⟩, true) else (.zero, false)
theorem newROut_le (D : List Int) (p : Int) (S : List Int) (q z : Int) : (newROut D p S q z).1.d.length ≤ 60 ∧ (newROut D p S q z).1.s.length ≤ 60 ∧ (newROut D p S q z).1.r.length ≤ 60 := by
  unfold newROut
  split
  · obtain ⟨hv, _⟩ := validR_iff.1 ‹_›
    obtain ⟨hb, hs, _⟩ := validD_iff.1 hv
    exact ⟨bytesB_le hb, by show S.length ≤ 60; omega, by show ([] : List Int).length ≤ 60; simp⟩
  · exact ⟨by decide, by decide, by decide⟩
end
end Go.Proofs.Ytdgfcbnfhengiaa
