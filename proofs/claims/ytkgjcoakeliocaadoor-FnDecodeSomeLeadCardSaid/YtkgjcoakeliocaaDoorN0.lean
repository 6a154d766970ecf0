/- Line ends as plain functions of lists, and lemmas on them. -/
import Derived.Test.YtkgjcoakeliocaaDoorN1
namespace Go.Proofs.YtkgjcoakeliocaaDoor
set_option linter.unusedSimpArgs false
set_option linter.unusedVariables false

/-- Line ends made 10, byte by byte; held: a 13 waits ahead. -/
def nlM (f : Bool) : Bool → List Int → List Int
  | held, [] => if held && f then [10] else []
  | held, x :: xs => (if held && x != 10 then [10] else []) ++ ((if x == 13 then [] else [x]) ++ nlM f (x == 13) xs)
/-- Whether a 13 waits at the end. -/
def nlH : Bool → List Int → Bool
  | held, [] => held
  | _, x :: xs => nlH (x == 13) xs
/-- Marks with one more. -/
def orM (s m : Int) : Int := if s / m % 2 = 1 then s else s + m
/-- The marks of one byte. -/
def seen1 (held : Bool) (x s : Int) : Int := if x == 10 && held then orM s 4 else if x == 10 then orM s 2 else if held then orM s 1 else s
/-- The line ends that are met. -/
def nlS (f : Bool) : Bool → Int → List Int → Int
  | held, s, [] => if held && f then orM s 1 else s
  | held, s, x :: xs => nlS f (x == 13) (seen1 held x s) xs

theorem feK_cases (ys : List Int) : feK ys = 0 ∨ feK ys = 1 ∨ feK ys = 2 ∨ feK ys = 4 := by
  induction ys with
  | nil => exact .inl rfl
  | cons x xs ih =>
    simp only [feK]
    split
    · exact .inr (.inr (.inl rfl))
    · split
      · split
        · exact .inr (.inr (.inr rfl))
        · exact .inr (.inl rfl)
      · exact ih
/-- Whether the 13 at the end waits. -/
def waits (K : Int) (rest : List Int) (f : Bool) : Bool := decide (K = 1) && (rest.isEmpty && !f)
theorem nl_round (f : Bool) (ys : List Int) (s : Int) : feN ys + (endL (feK ys)).length ≤ ys.length ∧ (ys ≠ [] → 0 < feN ys + (endL (feK ys)).length) ∧ (feK ys = 0 → feN ys = ys.length) ∧
    nlM f false ys = ys.take (feN ys) ++ (if feK ys = 0 ∨ waits (feK ys) (ys.drop (feN ys + (endL (feK ys)).length)) f = true then [] else 10 :: nlM f false (ys.drop (feN ys + (endL (feK ys)).length))) ∧
    nlS f false s ys = (if feK ys = 0 ∨ waits (feK ys) (ys.drop (feN ys + (endL (feK ys)).length)) f = true then s else nlS f false (orM s (feK ys)) (ys.drop (feN ys + (endL (feK ys)).length))) ∧
    (nlH false ys && !f) = (if waits (feK ys) (ys.drop (feN ys + (endL (feK ys)).length)) f = true then true else nlH false (ys.drop (feN ys + (endL (feK ys)).length)) && !f) := by
  induction ys with
  | nil => simp [feN, feK, endL, nlM, nlS, nlH, waits]
  | cons x xs ih =>
    by_cases h10 : x = 10
    · subst h10
      simp [feN, feK, endL, nlM, nlS, nlH, waits, seen1]
    · by_cases h13 : x = 13
      · subst h13
        cases xs with
        | nil => cases f <;> simp [feN, feK, endL, nlM, nlS, nlH, waits, seen1]
        | cons y zs =>
          by_cases hy : y = 10
          · subst hy
            simp [feN, feK, endL, nlM, nlS, nlH, waits, seen1]
          · have hy' : (y == 10) = false := by simp [hy]
            simp [feN, feK, endL, nlM, nlS, nlH, waits, seen1, hy, hy']
      · have e1 : (x == 10) = false := by simp [h10]
        have e2 : (x == 13) = false := by simp [h13]
        obtain ⟨i1, i2, i3, i4, i5, i6⟩ := ih
        have hN : feN (x :: xs) = feN xs + 1 := by simp [feN, h10, h13]
        have hK : feK (x :: xs) = feK xs := by simp [feK, h10, h13]
        have hd : (x :: xs).drop (feN xs + 1 + (endL (feK xs)).length) = xs.drop (feN xs + (endL (feK xs)).length) := by
          rw [show feN xs + 1 + (endL (feK xs)).length = (feN xs + (endL (feK xs)).length) + 1 from by omega, List.drop_succ_cons]
        rw [hN, hK, hd]
        refine ⟨by simp only [List.length_cons]; omega, fun _ => by omega, fun h => by simp only [List.length_cons]; have := i3 h; omega, ?_, ?_, ?_⟩
        · simp only [nlM, e2, Bool.false_and, if_false, List.nil_append, Bool.false_eq_true, if_neg, not_false_eq_true, List.take_succ_cons, List.cons_append, i4]
        · simp only [nlS, seen1, e1, e2, Bool.false_and, Bool.false_eq_true, if_false, i5]
        · simp only [nlH, e2, i6]
/-- What was made, and what the rest will make. -/
def NlSt (f : Bool) (zs ys : List Int) (s : Int) (R : List Int) (S : Int) (T : Bool) : Prop := zs ++ nlM f false ys = R ∧ nlS f false s ys = S ∧ (nlH false ys && !f) = T
theorem nl_more {f : Bool} {zs ys R : List Int} {s S : Int} {T : Bool} (h : NlSt f zs ys s R S T) (hk : ¬ feK ys = 0) (hw : waits (feK ys) (ys.drop (feN ys + (endL (feK ys)).length)) f = false) :
    NlSt f (zs ++ ys.take (feN ys) ++ [10]) (ys.drop (feN ys + (endL (feK ys)).length)) (orM s (feK ys)) R S T := by
  obtain ⟨_, _, _, q4, q5, q6⟩ := nl_round f ys s
  obtain ⟨h1, h2, h3⟩ := h
  rw [hw] at q4 q5 q6
  simp only [hk, Bool.false_eq_true, or_self, if_false] at q4 q5 q6
  refine ⟨?_, ?_, ?_⟩
  · rw [← h1, q4]; simp
  · rw [← h2, q5]
  · rw [← h3, q6]
theorem nl_stop {f : Bool} {zs ys R : List Int} {s S : Int} {T : Bool} (h : NlSt f zs ys s R S T) (hk : feK ys = 0) : NlSt f (zs ++ ys.take (feN ys)) [] s R S T := by
  obtain ⟨_, _, q3, q4, q5, q6⟩ := nl_round f ys s
  obtain ⟨h1, h2, h3⟩ := h
  have hw : ∀ l, waits 0 l f = false := fun l => rfl
  rw [hk, hw] at q6
  rw [hk] at q4 q5
  simp only [true_or, if_true, List.append_nil] at q4 q5
  simp only [Bool.false_eq_true, if_false] at q6
  rw [q3 hk] at q6
  rw [List.drop_of_length_le (by omega)] at q6
  refine ⟨?_, ?_, ?_⟩
  · rw [← h1, q4]; simp [nlM]
  · rw [← h2, q5]; simp [nlS]
  · rw [← h3, q6]
theorem nl_wait {f : Bool} {zs ys R : List Int} {s S : Int} {T : Bool} (h : NlSt f zs ys s R S T) (hw : waits (feK ys) (ys.drop (feN ys + (endL (feK ys)).length)) f = true) : R = zs ++ ys.take (feN ys) ∧ S = s ∧ T = true := by
  obtain ⟨_, _, q3, q4, q5, q6⟩ := nl_round f ys s
  obtain ⟨h1, h2, h3⟩ := h
  rw [hw] at q4 q5 q6
  simp only [or_true, if_true, List.append_nil] at q4 q5 q6
  exact ⟨by rw [← h1, q4], by rw [← h2, q5], by rw [← h3, q6]⟩
theorem nl_end0 {f : Bool} {zs R : List Int} {s S : Int} {T : Bool} (h : NlSt f zs [] s R S T) : R = zs ∧ S = s ∧ T = false := by
  obtain ⟨h1, h2, h3⟩ := h
  simp only [nlM, nlS, nlH, Bool.false_and, Bool.false_eq_true, if_false, List.append_nil] at h1 h2 h3
  exact ⟨h1.symm, h2.symm, h3.symm⟩
theorem waits_rest {K : Int} {ys : List Int} {t : Nat} {f : Bool} (h : t < ys.length) : waits K (ys.drop t) f = false := by
  have : (ys.drop t).isEmpty = false := by
    cases e : ys.drop t with
    | nil => have := congrArg List.length e; rw [List.length_drop] at this; simp at this; omega
    | cons => rfl
  simp [waits, this]
theorem waits_ne {K : Int} {l : List Int} {f : Bool} (h : ¬ K = 1) : waits K l f = false := by simp [waits, h]
theorem waits_fin {K : Int} {l : List Int} : waits K l true = false := by simp [waits]
theorem waits_yes {ys : List Int} {t : Nat} (h : ys.length ≤ t) : waits 1 (ys.drop t) false = true := by rw [List.drop_of_length_le h]; rfl
theorem or_i64 {s k : Int} (h1 : 0 ≤ s) (h2 : s ≤ 7) (hk : k = 1 ∨ k = 2 ∨ k = 4) : bits .or .i64 s k = orM s k ∧ 0 ≤ orM s k ∧ orM s k ≤ 7 := by
  have hs : s = 0 ∨ s = 1 ∨ s = 2 ∨ s = 3 ∨ s = 4 ∨ s = 5 ∨ s = 6 ∨ s = 7 := by omega
  rcases hs with rfl | rfl | rfl | rfl | rfl | rfl | rfl | rfl <;> rcases hk with rfl | rfl | rfl <;> decide
theorem seen1_in {held : Bool} {x s : Int} (h1 : 0 ≤ s) (h2 : s ≤ 7) : 0 ≤ seen1 held x s ∧ seen1 held x s ≤ 7 := by
  have ho : ∀ k : Int, (k = 1 ∨ k = 2 ∨ k = 4) → 0 ≤ orM s k ∧ orM s k ≤ 7 := fun k hk => (or_i64 h1 h2 hk).2
  unfold seen1
  split
  · exact ho 4 (.inr (.inr rfl))
  · split
    · exact ho 2 (.inr (.inl rfl))
    · split
      · exact ho 1 (.inl rfl)
      · exact ⟨h1, h2⟩
theorem nlS_in (f : Bool) (xs : List Int) : ∀ (held : Bool) (s : Int), 0 ≤ s → s ≤ 7 → 0 ≤ nlS f held s xs ∧ nlS f held s xs ≤ 7 := by
  induction xs with
  | nil =>
    intro held s h1 h2
    simp only [nlS]
    split
    · exact (or_i64 h1 h2 (.inl rfl)).2
    · exact ⟨h1, h2⟩
  | cons x xs ih =>
    intro held s h1 h2
    obtain ⟨a, b⟩ := seen1_in (held := held) (x := x) h1 h2
    exact ih _ _ a b
theorem nlM_len (f : Bool) (xs : List Int) : ∀ held, (nlM f held xs).length ≤ xs.length + (if held then 1 else 0) := by
  induction xs with
  | nil => intro held; cases held <;> cases f <;> simp [nlM]
  | cons x xs ih =>
    intro held
    simp only [nlM, List.length_append, List.length_cons]
    have := ih (x == 13)
    by_cases h13 : x = 13
    · subst h13
      cases held <;> simp at this ⊢ <;> omega
    · have e : (x == 13) = false := by simp [h13]
      simp only [e] at this ⊢
      cases held
      · simp at this ⊢; omega
      · by_cases h10 : x = 10
        · subst h10; simp at this ⊢; omega
        · have e2 : (x != 10) = true := by simp [h10]
          simp [e2] at this ⊢; omega
theorem nlM_mem (f : Bool) (xs : List Int) : ∀ held, ∀ y ∈ nlM f held xs, y = 10 ∨ (y ∈ xs ∧ y ≠ 13) := by
  induction xs with
  | nil => intro held y hy; cases held <;> cases f <;> simp [nlM] at hy; exact .inl hy
  | cons x xs ih =>
    intro held y hy
    simp only [nlM, List.mem_append] at hy
    rcases hy with hy | hy | hy
    · split at hy
      · simp at hy; exact .inl hy
      · cases hy
    · by_cases h13 : x = 13
      · subst h13; simp at hy
      · have e : (x == 13) = false := by simp [h13]
        simp [e] at hy
        subst hy
        exact .inr ⟨List.mem_cons_self, h13⟩
    · rcases ih _ y hy with h | ⟨h, h2⟩
      · exact .inl h
      · exact .inr ⟨List.mem_cons_of_mem _ h, h2⟩
end Go.Proofs.YtkgjcoakeliocaaDoor
