/- A scope with more than one label; the first line end of a list, by goto: impl's firstEnd and endBytes. -/
import Derived.Test.YtkgjcoakeliocaaDoorApp
import Derived.Test.YtkgjcoakeliocaaDoorC1c
import Derived.WalkMore
import Derived.ScopeJumps
namespace Go.Proofs.YtkgjcoakeliocaaDoor
open Go.ChangeShapes Go.WideShapes Go.ChangeAt Go.RowKit
set_option linter.unusedSimpArgs false
set_option linter.unusedVariables false

/-- As Q; by a goto to label l: J l. -/
def Exit.leaps (J : Nat → Act → World → Prop) (Q : Exit → Act → World → Prop) : Exit → Act → World → Prop
  | .goto l, a, w => J l a w
  | e, a, w => Q e a w
theorem Exit.leaps_goto (J : Nat → Act → World → Prop) (Q : Exit → Act → World → Prop) (l : Nat) (a : Act) (w : World) : Exit.leaps J Q (.goto l) a w = J l a w := rfl
theorem Exit.leaps_ret (J : Nat → Act → World → Prop) (Q : Exit → Act → World → Prop) (a : Act) (w : World) : Exit.leaps J Q .ret a w = Q .ret a w := rfl
theorem wp_scope_leaps {P : Program} {a : Act} {w : World} {Q : Exit → Act → World → Prop} {c : Code} (J : Nat → Act → World → Prop) (μ : Nat → Act → World → Nat)
    (first : c.wp P (Exit.leaps J Q) a w)
    (pass : ∀ l a w, J l a w → ∃ rest, findLabel c l = some rest ∧ rest.wp P (Exit.leaps (fun l' a' w' => J l' a' w' ∧ μ l' a' w' < μ l a w) Q) a w) : (Code.scope c).wp P Q a w := by
  intro b k cs
  have key : ∀ n l a w, μ l a w = n → J l a w → ∃ rest, findLabel c l = some rest ∧ ∃ e a' w', Q e a' w' ∧ Arrives P (lone (b.at a (.code rest :: .inScope c :: k)) cs w) b k cs e a' w' := by
    intro n
    induction n using Nat.strongRecOn with
    | _ n ih =>
      intro l a w hn hJ
      obtain ⟨rest, hf, hp⟩ := pass l a w hJ
      refine ⟨rest, hf, ?_⟩
      obtain ⟨e, a₁, w₁, hq, harr⟩ := hp b (.inScope c :: k) cs
      cases e with
      | normal => exact ⟨.normal, a₁, w₁, hq, Steps.trans harr (.one step_inScope)⟩
      | exit id => exact ⟨.exit id, a₁, w₁, hq, fun k' hk => harr k' (by simp [exitTo, hk])⟩
      | goto l' =>
        obtain ⟨hJ', hlt⟩ := hq
        obtain ⟨rest', hf', e₂, a₂, w₂, hq₂, harr₂⟩ := ih _ (by omega) l' a₁ w₁ rfl hJ'
        exact ⟨e₂, a₂, w₂, hq₂, .of_steps (harr _ (by simp [gotoIn, hf'])) harr₂⟩
      | ret => exact ⟨_, a₁, w₁, hq, harr⟩
      | panic ch => exact ⟨_, a₁, w₁, hq, harr⟩
      | outgrown => exact ⟨_, a₁, w₁, hq, harr⟩
  obtain ⟨e, a₁, w₁, hq, harr⟩ := first b (.inScope c :: k) cs
  cases e with
  | normal => exact ⟨.normal, a₁, w₁, hq, .head step_scope (Steps.trans harr (.one step_inScope))⟩
  | exit id => exact ⟨.exit id, a₁, w₁, hq, fun k' hk => .head step_scope (harr k' (by simp [exitTo, hk]))⟩
  | goto l' =>
    obtain ⟨rest', hf', e₂, a₂, w₂, hq₂, harr₂⟩ := key _ l' a₁ w₁ rfl hq
    exact ⟨e₂, a₂, w₂, hq₂, .of_steps (.head step_scope (harr _ (by simp [gotoIn, hf']))) harr₂⟩
  | ret => exact ⟨_, a₁, w₁, hq, .of_steps (.one step_scope) harr⟩
  | panic ch => exact ⟨_, a₁, w₁, hq, .of_steps (.one step_scope) harr⟩
  | outgrown => exact ⟨_, a₁, w₁, hq, .of_steps (.one step_scope) harr⟩

/-! The first line end -/
/-- How many bytes are ahead of the first line end. -/
def feN : List Int → Nat
  | [] => 0
  | x :: xs => if x = 10 then 0 else if x = 13 then 0 else feN xs + 1
/-- Which one that is. -/
def feK : List Int → Int
  | [] => 0
  | x :: xs => if x = 10 then 2 else if x = 13 then (if xs.head? = some 10 then 4 else 1) else feK xs
/-- The bytes of a line end. -/
def endL (k : Int) : List Int := if k = 4 then [13, 10] else if k = 2 then [10] else if k = 1 then [13] else []

theorem fe_step {xs : List Int} {k : Nat} {x : Int} (hx : xs[k]? = some x) (h1 : x ≠ 10) (h2 : x ≠ 13) : feN (xs.drop k) = feN (xs.drop (k + 1)) + 1 ∧ feK (xs.drop k) = feK (xs.drop (k + 1)) := by
  obtain ⟨hl, rfl⟩ := List.getElem?_eq_some_iff.1 hx
  rw [List.drop_eq_getElem_cons hl]
  simp [feN, feK, h1, h2]
theorem fe_ten {xs : List Int} {k : Nat} (hx : xs[k]? = some 10) : feN (xs.drop k) = 0 ∧ feK (xs.drop k) = 2 := by
  obtain ⟨hl, he⟩ := List.getElem?_eq_some_iff.1 hx
  rw [List.drop_eq_getElem_cons hl, he]
  simp [feN, feK]
theorem fe_cr {xs : List Int} {k : Nat} (hx : xs[k]? = some 13) : feN (xs.drop k) = 0 ∧ feK (xs.drop k) = if xs[k + 1]? = some 10 then 4 else 1 := by
  obtain ⟨hl, he⟩ := List.getElem?_eq_some_iff.1 hx
  rw [List.drop_eq_getElem_cons hl, he]
  simp [feN, feK, List.head?_drop]
theorem fe_none {xs : List Int} {k : Nat} (h : xs.length ≤ k) : feN (xs.drop k) = 0 ∧ feK (xs.drop k) = 0 := by
  rw [List.drop_of_length_le h]
  simp [feN, feK]
/-- From index k on there are so many bytes more, and the line end is that. -/
def FeAt (xs : List Int) (k : Nat) : Prop := feN xs = k + feN (xs.drop k) ∧ feK xs = feK (xs.drop k)
theorem FeAt.zero (xs : List Int) : FeAt xs 0 := by simp [FeAt]
theorem FeAt.succ {xs : List Int} {k : Nat} {x : Int} (h : FeAt xs k) (hx : xs[k]? = some x) (h1 : x ≠ 10) (h2 : x ≠ 13) : FeAt xs (k + 1) := by
  obtain ⟨a, b⟩ := fe_step hx h1 h2
  exact ⟨by have := h.1; omega, by rw [h.2, b]⟩

end Go.Proofs.YtkgjcoakeliocaaDoor
