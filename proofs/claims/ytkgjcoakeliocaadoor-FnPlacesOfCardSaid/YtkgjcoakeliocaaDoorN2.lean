/- impl's endBytes: the bytes of a line end. -/
import Derived.Test.YtkgjcoakeliocaaDoorN0
namespace Go.Proofs.YtkgjcoakeliocaaDoor
open Go.ChangeShapes Go.WideShapes Go.ChangeAt Go.RowKit
set_option linter.unusedSimpArgs false
set_option linter.unusedVariables false
set_option maxRecDepth 10000

theorem lit1 (w : World) (x : Int) (h : okInt x) : Ints (w.alloc (.cells #[.int .i64 x] 3)) w.heap.size (w.heap.size + 1) (some ⟨w.heap.size, 0, none⟩) 1 [x] :=
  ⟨rfl, by omega, (fun y hy => by simp at hy; subst hy; exact h), fun _ => ⟨w.heap.size, 0, rfl, Nat.le_refl _, Nat.lt_succ_self _, fun j y hy => by
    rw [Nat.zero_add]
    exact (Box.new w _ [.int .i64 x]).2 j (.int .i64 y) (by
      cases j with
      | zero => simp at hy ⊢; exact hy
      | succ j => simp at hy)⟩⟩
theorem ok10 : okInt 10 := by unfold okInt; omega
theorem ok13 : okInt 13 := by unfold okInt; omega
theorem endL_ok (k : Int) : ∀ x ∈ endL k, okInt x := by
  intro x hx
  unfold endL at hx
  have h : x = 13 ∨ x = 10 := by
    split at hx
    · simpa using hx
    · split at hx
      · simp at hx; exact .inr hx
      · split at hx
        · simp at hx; exact .inl hx
        · cases hx
  unfold okInt; omega
/-- Behind an append: in new memory. -/
theorem listPost_own {w w' : World} {v : Value} {n : Nat} {xs : List Int} (hb : Below w.heap.size w w') (h : OwnI w' w.heap.size v n xs) (hok : ∀ x ∈ xs, okInt x) : ListPost xs w (.returned v) w' := by
  obtain ⟨A, c, rfl, hc, hI⟩ := h.ints hok
  exact ⟨A, n, c, rfl, hc, hb, hI⟩

end Go.Proofs.YtkgjcoakeliocaaDoor
