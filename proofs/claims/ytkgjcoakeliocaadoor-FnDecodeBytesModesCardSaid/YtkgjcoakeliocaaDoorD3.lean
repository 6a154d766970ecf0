/- Contracts of the drawing functions: a byte, a count. -/
import Derived.Test.YtkgjcoakeliocaaDoorD2
namespace Go.Proofs.YtkgjcoakeliocaaDoor
open Go.ChangeShapes Go.WideShapes Go.ChangeAt Go.RowKit
set_option linter.unusedSimpArgs false
set_option linter.unusedVariables false

theorem Ints.of_box {w : World} {b : Nat} {xs : List Int} {n : Nat} (h : Box w b (xs.map (Value.int .i64))) (hn : n = xs.length) (hm : n ≤ 1000000) (hok : ∀ x ∈ xs, okInt x) :
    Ints w b (b + 1) (some ⟨b, 0, none⟩) n xs :=
  ⟨hn, by omega, hok, fun _ => ⟨b, 0, rfl, Nat.le_refl _, Nat.lt_succ_self _, fun j x hx => by
    rw [Nat.zero_add]
    exact h.2 j (.int .i64 x) (by simp [hx])⟩⟩

theorem Ch.alloc {w : World} {g P : Nat} (h : Ch w g P) (o : Obj) : Ch (w.alloc o) g P := h.below (Below.alloc (Below.refl _ _) (Nat.le_refl _) o) h.lt

theorem Ch.more {w : World} {g P P' : Nat} (h : Ch w g P) (hP : P ≤ P') : Ch w g P' := by
  obtain ⟨A, n, c, k, hx, hy, hn, hk⟩ := h
  exact ⟨A, n, c, k, hx, hy, hn, by omega⟩
/-- One of a list that was just made. -/
theorem one_lit {g P n b : Nat} {t : TypeId} {w : World} {cs : Array Value} (xs : List Int) (h : Ch w g P) (hP : P ≤ 1000000) (hb : b = w.heap.size) (hcs : cs = (xs.map (Value.int .i64)).toArray) (hn : n = xs.length) (hn1 : 1 ≤ n) (hn2 : n ≤ 1000000) (hok : ∀ x ∈ xs, -1000000 ≤ x ∧ x ≤ 1000000) :
    Calls Tryd.prog 55 #[.pointer (some ⟨g, 0, none⟩), .slice (some ⟨b, 0, none⟩) n n] (w.alloc (.cells cs t)) (OnePost g P xs w) := by
  subst hcs
  subst hb
  have hI := Ints.of_box (Box.new w t (xs.map (Value.int .i64))) hn hn2 fun x hx => by have := hok x hx; unfold okInt; omega
  refine (one_any (h.alloc _) hP hI hn1 hn2 (Nat.le_refl _) (by simp) (.inl h.lt)).mono ?_
  rintro e w1 ⟨x, hx, rfl, hch, ht⟩
  exact ⟨x, hx, rfl, hch, (Turn.of_below (Below.alloc (Below.refl _ _) (Nat.le_refl _) _) (Nat.le_refl _)).trans (ht.mono (by simp))⟩

end Go.Proofs.YtkgjcoakeliocaaDoor
