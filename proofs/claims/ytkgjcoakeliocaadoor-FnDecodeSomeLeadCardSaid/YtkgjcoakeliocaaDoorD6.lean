/- Contracts of the drawing functions: a device. -/
import Derived.Test.YtkgjcoakeliocaaDoorD5
import Derived.IntWalk
import Derived.Deep.RegionHeld3
namespace Go.Proofs.YtkgjcoakeliocaaDoor
open Go.ChangeShapes Go.WideShapes Go.ChangeAt Go.RowKit
set_option linter.unusedSimpArgs false
set_option linter.unusedVariables false

/-- A device of the call's own, drawn by the chooser in block g. -/
def DevDraw (L g P : Nat) (w : World) (e : Ending) (w' : World) : Prop :=
  ∃ (A : Option Addr) (n c : Nat) (A' : Option Addr) (n' c' : Nat) (D S : List Int) (p q : Int), e = .returned (.agg #[.slice (A) n c, .int .i64 (p), .slice (A') n' c', .int .i64 (q)]) ∧ n = D.length ∧ n' = S.length ∧ n ≤ 61 ∧ n' ≤ L ∧ (∀ x ∈ D, -1 ≤ x ∧ x ≤ 256) ∧ (∀ x ∈ S, -2 ≤ x ∧ x ≤ 61) ∧ (-1 ≤ p ∧ p ≤ 61) ∧ (-1 ≤ q ∧ q ≤ 1001) ∧
    OwnI w' w.heap.size (.slice A n c) n D ∧ OwnI w' w.heap.size (.slice A' n' c') n' S ∧ ((Value.slice A n c).ownBlock = none ∨ (Value.slice A n c).ownBlock ≠ (Value.slice A' n' c').ownBlock) ∧ Ch w' g P ∧ Turn w.heap.size g w w'

theorem OwnI.put_ {w : World} {base n b o : Nat} {v : Value} {xs : List Int} (h : OwnI w base v n xs) (hk : ∀ k, v.ownBlock = some k → k ≠ b) (u : Value) : OwnI (w.setCell ⟨b, o, none⟩ u) base v n xs :=
  World.ownsRow.kept (row := some b) h ⟨rfl, rfl, rfl, by simp, fun k _ hne => Below.heap_setCell w ⟨b, o, none⟩ u k (by rintro rfl; exact hne rfl)⟩ (by
    cases e : v.ownBlock with
    | none => exact .inl rfl
    | some k => exact .inr (by intro hk'; injection hk' with hk'; exact hk k e hk'))

theorem OwnI.mono_ {w : World} {base base' n : Nat} {v : Value} {xs : List Int} (h : OwnI w base v n xs) (hb : base' ≤ base) : OwnI w base' v n xs := by
  refine ⟨h.1, ?_⟩
  rcases h.2 with h2 | ⟨g, cap, cur, rfl, hg, rest⟩
  · exact .inl h2
  · exact .inr ⟨g, cap, cur, rfl, by omega, rest⟩

theorem at_list {r l : Int} (h1 : 0 ≤ r) (h2 : r ≤ 41) (h3 : 0 ≤ l ∧ l ≤ 40) : ∀ x ∈ [0, 0, r, l, if l + 2 < 60 then l + 2 else 60], -1000000 ≤ x ∧ x ≤ 1000000 ∧ 0 ≤ x ∧ x ≤ 60 := fun x hx => by
  rw [if_pos (by omega)] at hx
  simp at hx
  omega

theorem at_list2 {r l : Int} (h1 : 0 ≤ r) (h2 : r ≤ 41) (h3 : 0 ≤ l ∧ l ≤ 40) : ∀ x ∈ [0, 0, r, l, l + 2], -1000000 ≤ x ∧ x ≤ 1000000 ∧ 0 ≤ x ∧ x ≤ 60 := fun x hx => by
  simp at hx
  omega

end Go.Proofs.YtkgjcoakeliocaaDoor
