/- impl's endBytes: the bytes of a line end. -/
import Derived.Test.YtlekbmlacinkdaaN0
namespace Go.Proofs.Ytlekbmlacinkdaa
open Go.ChangeShapes Go.WideShapes Go.ChangeAt Go.RowKit
set_option linter.unusedSimpArgs false
set_option linter.unusedVariables false
set_option maxRecDepth 10000

theorem lit1 (w : World) (x : Int) (h : okInt x) : Ints (w.alloc (.cells #[.int .i64 x] 3)) w.heap.size (w.heap.size + 1) (some ⟨w.heap.size, 0, none⟩) 1 [x] :=
  ⟨rfl, by omega, (fun y hy => by simp at hy; subst hy; exact h), fun _ => ⟨w.heap.size, 0, rfl, Nat.le_refl _, Nat.lt_succ_self _, fun j y hy => by
    rw [Nat.zero_add]
    exact (Box.new w _ [.int .i64 x]).2 j (.int .i64 y) (by
      cases j with
      | zero => simp at hy ⊢; exact hy
      | succ j => simp at hy)⟩⟩
theorem ok10 : okInt 10 := by unfold okInt; omega
theorem ok13 : okInt 13 := by unfold okInt; omega
theorem endL_ok (k : Int) : ∀ x ∈ endL k, okInt x := by
  intro x hx
  unfold endL at hx
  have h : x = 13 ∨ x = 10 := by
    split at hx
    · simpa using hx
    · split at hx
      · simp at hx; exact .inr hx
      · split at hx
        · simp at hx; exact .inl hx
        · cases hx
  unfold okInt; omega
/-- Behind an append: in new memory. -/
theorem listPost_own {w w' : World} {v : Value} {n : Nat} {xs : List Int} (hb : Below w.heap.size w w') (h : OwnI w' w.heap.size v n xs) (hok : ∀ x ∈ xs, okInt x) : ListPost xs w (.returned v) w' := by
  obtain ⟨A, c, rfl, hc, hI⟩ := h.ints hok
  exact ⟨A, n, c, rfl, hc, hb, hI⟩

set_option maxHeartbeats 2000000 in
theorem endBytes_any {k : Int} {w : World} : Calls Try.prog 49 #[.int .i64 k] w (ListPost (endL k) w) := by
  by_cases h4 : k = 4
  · subst h4
    go_enter Try.func49, Try.ntmps49
    go_wp2_with (at_builtin; refine wpList_append_ints rfl (.tmp 11) (.tmp 12) rfl w.heap.size (.slice none 0 0) 0 [] rfl (OwnI.nil_ _ _) (some ⟨w.heap.size, 0, none⟩) 1 1 [13] rfl (lit1 w 13 ok13) (by omega) (by simp) ?_)
    intro v1 w1 ho1 hg1
    have e1 := below_grown (OwnI.nil_ (w.alloc (.cells #[.int .i64 13] 3)) w.heap.size) hg1 (by simp)
    have E1 : Hid (Below w.heap.size w w1) := (by go_grown : Below w.heap.size w (w.alloc _)).trans e1
    have s1 := e1.size
    rw [World.size_alloc] at s1
    have HO1 : Hid (OwnI w1 w.heap.size v1 1 [13]) := ho1
    clear ho1 hg1 e1
    go_wp2_with (at_builtin; refine wpList_append_ints rfl (.tmp 14) (.tmp 15) rfl w.heap.size v1 1 [13] rfl (HO1.out.alloc _) (some ⟨w1.heap.size, 0, none⟩) 1 1 [10] rfl (lit1 w1 10 ok10) (by omega) (by simp; omega) ?_)
    intro v2 w2 ho2 hg2
    have e2 := below_grown (HO1.out.alloc (.cells #[.int .i64 10] 3)) hg2 (by simp; omega)
    have E2 : Hid (Below w.heap.size w w2) := (E1.out.alloc (by omega) _).trans e2
    have HO2 : Hid (OwnI w2 w.heap.size v2 2 [13, 10]) := ho2
    clear ho2 hg2 e2
    go_wp2
    go_ret
    exact listPost_own E2.out HO2.out (endL_ok 4)
  · by_cases h2 : k = 2
    · subst h2
      go_enter Try.func49, Try.ntmps49
      go_wp2_with (at_builtin; refine wpList_append_ints rfl (.tmp 14) (.tmp 15) rfl w.heap.size (.slice none 0 0) 0 [] rfl (OwnI.nil_ _ _) (some ⟨w.heap.size, 0, none⟩) 1 1 [10] rfl (lit1 w 10 ok10) (by omega) (by simp) ?_)
      intro v1 w1 ho1 hg1
      have e1 := below_grown (OwnI.nil_ (w.alloc (.cells #[.int .i64 10] 3)) w.heap.size) hg1 (by simp)
      have E1 : Hid (Below w.heap.size w w1) := (by go_grown : Below w.heap.size w (w.alloc _)).trans e1
      have HO1 : Hid (OwnI w1 w.heap.size v1 1 [10]) := ho1
      clear ho1 hg1 e1
      go_wp2
      go_ret
      exact listPost_own E1.out HO1.out (endL_ok 2)
    · by_cases h1 : k = 1
      · subst h1
        go_enter Try.func49, Try.ntmps49
        go_wp2_with (at_builtin; refine wpList_append_ints rfl (.tmp 17) (.tmp 18) rfl w.heap.size (.slice none 0 0) 0 [] rfl (OwnI.nil_ _ _) (some ⟨w.heap.size, 0, none⟩) 1 1 [13] rfl (lit1 w 13 ok13) (by omega) (by simp) ?_)
        intro v1 w1 ho1 hg1
        have e1 := below_grown (OwnI.nil_ (w.alloc (.cells #[.int .i64 13] 3)) w.heap.size) hg1 (by simp)
        have E1 : Hid (Below w.heap.size w w1) := (by go_grown : Below w.heap.size w (w.alloc _)).trans e1
        have HO1 : Hid (OwnI w1 w.heap.size v1 1 [13]) := ho1
        clear ho1 hg1 e1
        go_wp2
        go_ret
        exact listPost_own E1.out HO1.out (endL_ok 1)
      · have e4 : (k == 4) = false := by simp [h4]
        have e2 : (k == 2) = false := by simp [h2]
        have e1 : (k == 1) = false := by simp [h1]
        have HE : Hid (endL k = []) := by show _ = _; simp [endL, h4, h2, h1]
        rw [HE.out]
        go_enter Try.func49, Try.ntmps49
        go_wp2
        go_ret
        exact ⟨none, 0, 0, rfl, Nat.le_refl _, Below.refl _ _, (Ints.nil _ _ _ 0 _).1⟩
end Go.Proofs.Ytlekbmlacinkdaa
