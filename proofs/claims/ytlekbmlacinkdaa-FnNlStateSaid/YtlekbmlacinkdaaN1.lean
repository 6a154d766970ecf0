/- A scope with more than one label; the first line end of a list, by goto: impl's firstEnd and endBytes. -/
import Derived.Test.YtlekbmlacinkdaaApp
import Derived.Test.YtlekbmlacinkdaaC1c
import Derived.WalkMore
import Derived.ScopeJumps
namespace Go.Proofs.Ytlekbmlacinkdaa
open Go.ChangeShapes Go.WideShapes Go.ChangeAt Go.RowKit
set_option linter.unusedSimpArgs false
set_option linter.unusedVariables false

/-- As Q; by a goto to label l: J l. -/
def Exit.leaps (J : Nat → Act → World → Prop) (Q : Exit → Act → World → Prop) : Exit → Act → World → Prop
  | .goto l, a, w => J l a w
  | e, a, w => Q e a w
theorem Exit.leaps_goto (J : Nat → Act → World → Prop) (Q : Exit → Act → World → Prop) (l : Nat) (a : Act) (w : World) : Exit.leaps J Q (.goto l) a w = J l a w := rfl
theorem Exit.leaps_ret (J : Nat → Act → World → Prop) (Q : Exit → Act → World → Prop) (a : Act) (w : World) : Exit.leaps J Q .ret a w = Q .ret a w := rfl
theorem wp_scope_leaps {P : Program} {a : Act} {w : World} {Q : Exit → Act → World → Prop} {c : Code} (J : Nat → Act → World → Prop) (μ : Nat → Act → World → Nat)
    (first : c.wp P (Exit.leaps J Q) a w)
    (pass : ∀ l a w, J l a w → ∃ rest, findLabel c l = some rest ∧ rest.wp P (Exit.leaps (fun l' a' w' => J l' a' w' ∧ μ l' a' w' < μ l a w) Q) a w) : (Code.scope c).wp P Q a w := by
  intro b k cs
  have key : ∀ n l a w, μ l a w = n → J l a w → ∃ rest, findLabel c l = some rest ∧ ∃ e a' w', Q e a' w' ∧ Arrives P (lone (b.at a (.code rest :: .inScope c :: k)) cs w) b k cs e a' w' := by
    intro n
    induction n using Nat.strongRecOn with
    | _ n ih =>
      intro l a w hn hJ
      obtain ⟨rest, hf, hp⟩ := pass l a w hJ
      refine ⟨rest, hf, ?_⟩
      obtain ⟨e, a₁, w₁, hq, harr⟩ := hp b (.inScope c :: k) cs
      cases e with
      | normal => exact ⟨.normal, a₁, w₁, hq, Steps.trans harr (.one step_inScope)⟩
      | exit id => exact ⟨.exit id, a₁, w₁, hq, fun k' hk => harr k' (by simp [exitTo, hk])⟩
      | goto l' =>
        obtain ⟨hJ', hlt⟩ := hq
        obtain ⟨rest', hf', e₂, a₂, w₂, hq₂, harr₂⟩ := ih _ (by omega) l' a₁ w₁ rfl hJ'
        exact ⟨e₂, a₂, w₂, hq₂, .of_steps (harr _ (by simp [gotoIn, hf'])) harr₂⟩
      | ret => exact ⟨_, a₁, w₁, hq, harr⟩
      | panic ch => exact ⟨_, a₁, w₁, hq, harr⟩
      | outgrown => exact ⟨_, a₁, w₁, hq, harr⟩
  obtain ⟨e, a₁, w₁, hq, harr⟩ := first b (.inScope c :: k) cs
  cases e with
  | normal => exact ⟨.normal, a₁, w₁, hq, .head step_scope (Steps.trans harr (.one step_inScope))⟩
  | exit id => exact ⟨.exit id, a₁, w₁, hq, fun k' hk => .head step_scope (harr k' (by simp [exitTo, hk]))⟩
  | goto l' =>
    obtain ⟨rest', hf', e₂, a₂, w₂, hq₂, harr₂⟩ := key _ l' a₁ w₁ rfl hq
    exact ⟨e₂, a₂, w₂, hq₂, .of_steps (.head step_scope (harr _ (by simp [gotoIn, hf']))) harr₂⟩
  | ret => exact ⟨_, a₁, w₁, hq, .of_steps (.one step_scope) harr⟩
  | panic ch => exact ⟨_, a₁, w₁, hq, .of_steps (.one step_scope) harr⟩
  | outgrown => exact ⟨_, a₁, w₁, hq, .of_steps (.one step_scope) harr⟩

/-! The first line end -/
/-- How many bytes are ahead of the first line end. -/
def feN : List Int → Nat
  | [] => 0
  | x :: xs => if x = 10 then 0 else if x = 13 then 0 else feN xs + 1
/-- Which one that is. -/
def feK : List Int → Int
  | [] => 0
  | x :: xs => if x = 10 then 2 else if x = 13 then (if xs.head? = some 10 then 4 else 1) else feK xs
/-- The bytes of a line end. -/
def endL (k : Int) : List Int := if k = 4 then [13, 10] else if k = 2 then [10] else if k = 1 then [13] else []

theorem fe_step {xs : List Int} {k : Nat} {x : Int} (hx : xs[k]? = some x) (h1 : x ≠ 10) (h2 : x ≠ 13) : feN (xs.drop k) = feN (xs.drop (k + 1)) + 1 ∧ feK (xs.drop k) = feK (xs.drop (k + 1)) := by
  obtain ⟨hl, rfl⟩ := List.getElem?_eq_some_iff.1 hx
  rw [List.drop_eq_getElem_cons hl]
  simp [feN, feK, h1, h2]
theorem fe_ten {xs : List Int} {k : Nat} (hx : xs[k]? = some 10) : feN (xs.drop k) = 0 ∧ feK (xs.drop k) = 2 := by
  obtain ⟨hl, he⟩ := List.getElem?_eq_some_iff.1 hx
  rw [List.drop_eq_getElem_cons hl, he]
  simp [feN, feK]
theorem fe_cr {xs : List Int} {k : Nat} (hx : xs[k]? = some 13) : feN (xs.drop k) = 0 ∧ feK (xs.drop k) = if xs[k + 1]? = some 10 then 4 else 1 := by
  obtain ⟨hl, he⟩ := List.getElem?_eq_some_iff.1 hx
  rw [List.drop_eq_getElem_cons hl, he]
  simp [feN, feK, List.head?_drop]
theorem fe_none {xs : List Int} {k : Nat} (h : xs.length ≤ k) : feN (xs.drop k) = 0 ∧ feK (xs.drop k) = 0 := by
  rw [List.drop_of_length_le h]
  simp [feN, feK]
/-- From index k on there are so many bytes more, and the line end is that. -/
def FeAt (xs : List Int) (k : Nat) : Prop := feN xs = k + feN (xs.drop k) ∧ feK xs = feK (xs.drop k)
theorem FeAt.zero (xs : List Int) : FeAt xs 0 := by simp [FeAt]
theorem FeAt.succ {xs : List Int} {k : Nat} {x : Int} (h : FeAt xs k) (hx : xs[k]? = some x) (h1 : x ≠ 10) (h2 : x ≠ 13) : FeAt xs (k + 1) := by
  obtain ⟨a, b⟩ := fe_step hx h1 h2
  exact ⟨by have := h.1; omega, by rw [h.2, b]⟩

def JP (A : Option Addr) (n c : Nat) (xs : List Int) (w : World) (l : Nat) (a : Act) (w' : World) : Prop :=
  w' = w ∧ ∃ (k : Nat) (u1 u2 u3 u5 u6 u7 u8 u9 u10 u11 u12 u13 u14 u15 u16 u17 u18 u19 u20 u21 u22 u23 u24 u25 u26 u27 u28 u29 u30 u31 u32 u33 u34 u35 u36 u37 u38 u39 u40 : Value),
    a = { tmps := #[.slice A n c, u1, u2, u3, .int .i64 k, u5, u6, u7, u8, u9, u10, u11, u12, u13, u14, u15, u16, u17, u18, u19, u20, u21, u22, u23, u24, u25, u26, u27, u28, u29, u30, u31, u32, u33, u34, u35, u36, u37, u38, u39, u40], defers := [] } ∧
    k ≤ n ∧ FeAt xs k ∧ (l = 1 ∨ (l = 0 ∧ xs[k]? = some 13))

set_option maxRecDepth 10000 in
set_option maxHeartbeats 2000000 in
theorem firstEnd_any {A : Option Addr} {n c : Nat} {xs : List Int} {w : World} {L B : Nat} (h : Ints w L B A n xs) :
    Calls Try.prog 52 #[.slice A n c] w fun e w' => e = .returned (.tuple #[.int .i64 (feN xs), .int .i64 (feK xs)]) ∧ w = w' := by
  have hl := h.len
  have hm := h.max
  have HL := Lib.hid hl
  clear hl
  go_enter Try.func52, Try.ntmps52
  go_wp2
  refine wp_scope_leaps (JP A n c xs w) (fun l a' _ => if l = 1 then n + 1 - (intOf (a'.tmps.getD 4 undef)).toNat else 0) ?_ ?_
  · go_wp2
    go_step3
    by_cases hkn : n = 0
    · subst hkn
      go_wp2
      refine Eq.mpr (Exit.leaps_ret _ _ _ _) ?_
      go_ret2
      obtain rfl : xs = [] := List.eq_nil_of_length_eq_zero HL.out.symm
      exact ⟨rfl, rfl⟩
    · have hz : ((0 : Int) == (n : Int)) = false := by simp; omega
      obtain ⟨b, o, x, rfl, _, hc, hx⟩ := h.at_ (k := 0) (by omega)
      rw [Nat.add_zero] at hc
      by_cases h10 : x = 10
      · subst h10
        go_wp2
        refine Eq.mpr (Exit.leaps_ret _ _ _ _) ?_
        go_ret2
        obtain ⟨e1, e2⟩ := fe_ten hx.out
        rw [List.drop_zero] at e1 e2
        rw [e1, e2]
        exact ⟨rfl, rfl⟩
      · by_cases h13 : x = 13
        · subst h13
          go_wp2
          go_step3
          exact ⟨rfl, 0, _, _, _, _, _, _, _, _, _, _, _, _, _, _, _, _, _, _, _, _, _, _, _, _, _, _, _, _, _, _, _, _, _, _, _, _, _, _, _, rfl, by omega, FeAt.zero _, .inr ⟨rfl, hx.out⟩⟩
        · have e1 : (x == 10) = false := by simp [h10]
          have e2 : (x == 13) = false := by simp [h13]
          go_wp2
          go_step3
          exact ⟨rfl, 1, _, _, _, _, _, _, _, _, _, _, _, _, _, _, _, _, _, _, _, _, _, _, _, _, _, _, _, _, _, _, _, _, _, _, _, _, _, _, _, rfl, by omega, (FeAt.zero _).succ hx.out h10 h13, .inl rfl⟩
  · rintro l a' w' ⟨rfl, k, u1, u2, u3, u5, u6, u7, u8, u9, u10, u11, u12, u13, u14, u15, u16, u17, u18, u19, u20, u21, u22, u23, u24, u25, u26, u27, u28, u29, u30, u31, u32, u33, u34, u35, u36, u37, u38, u39, u40, rfl, hk, hfe, hl⟩
    have HF := Lib.hid hfe
    clear hfe
    rcases hl with rfl | ⟨rfl, hx⟩
    · refine ⟨_, rfl, ?_⟩
      by_cases hkn : n ≤ k
      · obtain rfl : k = n := by omega
        go_wp2
        simp only [Exit.leaps_ret]
        go_ret2
        obtain ⟨e1, e2⟩ := fe_none (xs := xs) (k := k) (by have := HL.out; omega)
        have e3 := HF.out
        rw [FeAt, e1, e2] at e3
        rw [e3.1, e3.2]
        exact ⟨rfl, rfl⟩
      · have hz : ((k : Int) == (n : Int)) = false := by simp; omega
        obtain ⟨b, o, x, rfl, _, hc, hx⟩ := h.at_ (k := k) (by omega)
        by_cases h10 : x = 10
        · subst h10
          go_wp2
          simp only [Exit.leaps_ret]
          go_ret2
          obtain ⟨e1, e2⟩ := fe_ten hx.out
          have e3 := HF.out
          rw [FeAt, e1, e2] at e3
          rw [e3.1, e3.2]
          exact ⟨rfl, rfl⟩
        · by_cases h13 : x = 13
          · subst h13
            go_wp2
            go_step3
            exact ⟨⟨rfl, k, _, _, _, _, _, _, _, _, _, _, _, _, _, _, _, _, _, _, _, _, _, _, _, _, _, _, _, _, _, _, _, _, _, _, _, _, _, _, _, rfl, by omega, HF.out, .inr ⟨rfl, hx.out⟩⟩, by simp [intOf]; omega⟩
          · have e1 : (x == 10) = false := by simp [h10]
            have e2 : (x == 13) = false := by simp [h13]
            go_wp2
            go_step3
            exact ⟨⟨rfl, k + 1, _, _, _, _, _, _, _, _, _, _, _, _, _, _, _, _, _, _, _, _, _, _, _, _, _, _, _, _, _, _, _, _, _, _, _, _, _, _, _, rfl, by omega, HF.out.succ hx.out h10 h13, .inl rfl⟩, by simp [intOf]; omega⟩
    · refine ⟨_, rfl, ?_⟩
      have hkl : k < n := by have := HL.out; have := (List.getElem?_eq_some_iff.1 hx).1; omega
      have HX := Lib.hid hx
      clear hx
      have fin : ∀ K : Int, (if xs[k + 1]? = some 10 then (4 : Int) else 1) = K → feN xs = k ∧ feK xs = K := fun K hK => by
        obtain ⟨e1, e2⟩ := fe_cr HX.out
        have e3 := HF.out
        rw [FeAt, e1, e2, hK] at e3
        exact ⟨by omega, e3.2⟩
      by_cases hkn : k + 1 < n
      · obtain ⟨b, o, x, rfl, _, hc, hx⟩ := h.at_ (k := k + 1) hkn
        have hlt : (k : Int) + 1 < (n : Int) := by omega
        by_cases h10 : x = 10
        · subst h10
          go_wp2
          simp only [Exit.leaps_ret]
          go_ret2
          obtain ⟨e1, e2⟩ := fin 4 (by rw [hx.out]; simp)
          rw [e1, e2]
          exact ⟨rfl, rfl⟩
        · have e1 : (x == 10) = false := by simp [h10]
          go_wp2
          simp only [Exit.leaps_ret]
          go_ret2
          obtain ⟨e1, e2⟩ := fin 1 (by rw [hx.out]; simp [h10])
          rw [e1, e2]
          exact ⟨rfl, rfl⟩
      · have hlt : ¬ (k : Int) + 1 < (n : Int) := by omega
        go_wp2
        simp only [Exit.leaps_ret]
        go_ret2
        obtain ⟨e1, e2⟩ := fin 1 (by rw [List.getElem?_eq_none (by have := HL.out; omega)]; simp)
        rw [e1, e2]
        exact ⟨rfl, rfl⟩
end Go.Proofs.Ytlekbmlacinkdaa
