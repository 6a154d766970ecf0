/- Taking bytes with a flush behind each one that is e: what a writer is then. -/
import Derived.Test.YtdiebkaedjlckaaDoorW0
namespace Go.Proofs.YtdiebkaedjlckaaDoor
set_option linter.unusedSimpArgs false
set_option linter.unusedVariables false

/-- What a writer is after these bytes were taken, with a flush behind each that is e, and how many were. -/
def tkAll (S : List Int) (z : Nat) (e : Int) : List Int → List Int → Int → Nat → List Int → Fv × Nat
  | [], D, p, q, R => (⟨D, p, q, R, 0⟩, 0)
  | x :: xs, D, p, q, R => if (tkStep S z D p q R).r.length = z then (tkStep S z D p q R, 0) else
      if x = e then
        (if (fuGo S ((tkStep S z D p q R).r ++ [x]).length (tkStep S z D p q R).d (tkStep S z D p q R).p (tkStep S z D p q R).q ((tkStep S z D p q R).r ++ [x])).st = 0 then
          ((tkAll S z e xs (fuGo S ((tkStep S z D p q R).r ++ [x]).length (tkStep S z D p q R).d (tkStep S z D p q R).p (tkStep S z D p q R).q ((tkStep S z D p q R).r ++ [x])).d (fuGo S ((tkStep S z D p q R).r ++ [x]).length (tkStep S z D p q R).d (tkStep S z D p q R).p (tkStep S z D p q R).q ((tkStep S z D p q R).r ++ [x])).p (fuGo S ((tkStep S z D p q R).r ++ [x]).length (tkStep S z D p q R).d (tkStep S z D p q R).p (tkStep S z D p q R).q ((tkStep S z D p q R).r ++ [x])).q (fuGo S ((tkStep S z D p q R).r ++ [x]).length (tkStep S z D p q R).d (tkStep S z D p q R).p (tkStep S z D p q R).q ((tkStep S z D p q R).r ++ [x])).r).1,
           (tkAll S z e xs (fuGo S ((tkStep S z D p q R).r ++ [x]).length (tkStep S z D p q R).d (tkStep S z D p q R).p (tkStep S z D p q R).q ((tkStep S z D p q R).r ++ [x])).d (fuGo S ((tkStep S z D p q R).r ++ [x]).length (tkStep S z D p q R).d (tkStep S z D p q R).p (tkStep S z D p q R).q ((tkStep S z D p q R).r ++ [x])).p (fuGo S ((tkStep S z D p q R).r ++ [x]).length (tkStep S z D p q R).d (tkStep S z D p q R).p (tkStep S z D p q R).q ((tkStep S z D p q R).r ++ [x])).q (fuGo S ((tkStep S z D p q R).r ++ [x]).length (tkStep S z D p q R).d (tkStep S z D p q R).p (tkStep S z D p q R).q ((tkStep S z D p q R).r ++ [x])).r).2 + 1)
        else (fuGo S ((tkStep S z D p q R).r ++ [x]).length (tkStep S z D p q R).d (tkStep S z D p q R).p (tkStep S z D p q R).q ((tkStep S z D p q R).r ++ [x]), 1))
      else ((tkAll S z e xs (tkStep S z D p q R).d (tkStep S z D p q R).p (tkStep S z D p q R).q ((tkStep S z D p q R).r ++ [x])).1,
       (tkAll S z e xs (tkStep S z D p q R).d (tkStep S z D p q R).p (tkStep S z D p q R).q ((tkStep S z D p q R).r ++ [x])).2 + 1)
theorem tkAll_no {S : List Int} {z : Nat} {e : Int} : ∀ (L D : List Int) (p : Int) (q : Nat) (R : List Int), ¬ e ∈ L → tkAll S z e L D p q R = tkGo S z L D p q R := by
  intro L
  induction L with
  | nil => intros; rfl
  | cons x xs ih =>
    intro D p q R h
    have h1 : ¬ x = e := fun he => h (by simp [he])
    have h2 : ¬ e ∈ xs := fun he => h (by simp [he])
    simp only [tkAll, tkGo, if_neg h1, ih _ _ _ _ h2]
/-- The flush behind a byte: what a writer may take then. -/
theorem TkOk.flush {S : List Int} {z b rem : Nat} {D : List Int} {p : Int} {q : Nat} {R : List Int} (h : TkOk S z b rem D p q R) (hz : 1 ≤ z ∧ z ≤ 16) (hb : 12 + z + rem + 1 ≤ b) (hb9 : b ≤ 980) :
    validD (fuGo S R.length D p q R).d (fuGo S R.length D p q R).p S ((fuGo S R.length D p q R).q : Int) = true ∧ allB (fuGo S R.length D p q R).r 0 255 = true ∧ (fuGo S R.length D p q R).r.length ≤ z ∧ (fuGo S R.length D p q R).q ≤ b + 2 ∧ (0 ≤ (fuGo S R.length D p q R).st ∧ (fuGo S R.length D p q R).st ≤ 4) ∧
    ((fuGo S R.length D p q R).st = 0 → TkOk S z b rem (fuGo S R.length D p q R).d (fuGo S R.length D p q R).p (fuGo S R.length D p q R).q (fuGo S R.length D p q R).r) := by
  obtain ⟨hv, hR, hl, h1, h2⟩ := h
  by_cases hq : q + R.length + rem ≤ b
  · obtain ⟨g1, g2, g3, g4, g5, g6, g7, g8⟩ := fuGo_pot (S := S) R.length D p q R (b - rem) hv hR (Nat.le_refl _) (by omega) (by omega) (by omega)
    exact ⟨g1, g2, by omega, by omega, g7, fun h0 => ⟨g1, g2, by omega, by omega, by rcases g5 with g | g; (exact .inl (by omega)); (exact .inr g)⟩⟩
  · have hp : p = 60 := by rcases h2 with h | h; (exact absurd h hq); exact h
    obtain ⟨g1, g2, g3, g4, g5, g6, g7, g8⟩ := fuGo_pot (S := S) R.length D p q R (b + 1 - rem) hv hR (Nat.le_refl _) (by omega) (by omega) (by omega)
    have hr := g6 hp
    refine ⟨g1, g2, by omega, by omega, g7, fun h0 => ?_⟩
    have hr0 := g8 h0
    rw [hr0] at hr
    subst hr
    rw [List.length_nil, fuGo_nil] at *
    exact ⟨hv, hR, by simp, by simpa using h1, .inr hp⟩
/-- One byte more. -/
theorem tkAll_at {S L D R : List Int} {z j q N : Nat} {x p e : Int} {F T : Fv} (hx : L[j]? = some x) (hT : tkStep S z D p q R = T) (h : (tkAll S z e (L.drop j) D p q R).1 = F ∧ (tkAll S z e (L.drop j) D p q R).2 + j = N) :
    (T.r.length = z → F = T ∧ N = j) ∧
    (¬ T.r.length = z → ¬ x = e → (tkAll S z e (L.drop (j + 1)) T.d T.p T.q (T.r ++ [x])).1 = F ∧ (tkAll S z e (L.drop (j + 1)) T.d T.p T.q (T.r ++ [x])).2 + (j + 1) = N) ∧
    (¬ T.r.length = z → x = e → ∀ U, fuGo S (T.r ++ [x]).length T.d T.p T.q (T.r ++ [x]) = U → (U.st = 0 → (tkAll S z e (L.drop (j + 1)) U.d U.p U.q U.r).1 = F ∧ (tkAll S z e (L.drop (j + 1)) U.d U.p U.q U.r).2 + (j + 1) = N) ∧ (¬ U.st = 0 → F = U ∧ N = j + 1)) := by
  subst hT
  obtain ⟨hj, hx2⟩ := List.getElem?_eq_some_iff.1 hx
  have e1 : L.drop j = x :: L.drop (j + 1) := by rw [List.drop_eq_getElem_cons hj, hx2]
  rw [e1] at h
  simp only [tkAll] at h
  refine ⟨fun hz => ?_, fun hz hxe => ?_, fun hz hxe U hU => ?_⟩
  · rw [if_pos hz] at h
    exact ⟨h.1.symm, by have := h.2; simp at this; omega⟩
  · rw [if_neg hz, if_neg hxe] at h
    exact ⟨h.1, by have := h.2; simp at this; omega⟩
  · rw [if_neg hz, if_pos hxe, hU] at h
    refine ⟨fun h0 => ?_, fun h0 => ?_⟩
    · rw [if_pos h0] at h
      exact ⟨h.1, by have := h.2; simp at this; omega⟩
    · rw [if_neg h0] at h
      exact ⟨h.1.symm, by have := h.2; simp at this; omega⟩
theorem tkAll_ok {S : List Int} {z b : Nat} {e : Int} (hz : 1 ≤ z ∧ z ≤ 16) (hb9 : b ≤ 980) : ∀ (L : List Int) (D : List Int) (p : Int) (q : Nat) (R : List Int), TkOk S z b L.length D p q R → 12 + z + L.length ≤ b → allB L 0 255 = true →
    validD (tkAll S z e L D p q R).1.d (tkAll S z e L D p q R).1.p S ((tkAll S z e L D p q R).1.q : Int) = true ∧ allB (tkAll S z e L D p q R).1.r 0 255 = true ∧ (tkAll S z e L D p q R).1.r.length ≤ z ∧ (tkAll S z e L D p q R).1.q ≤ b + 2 ∧ (0 ≤ (tkAll S z e L D p q R).1.st ∧ (tkAll S z e L D p q R).1.st ≤ 4) ∧ (tkAll S z e L D p q R).2 ≤ L.length := by
  intro L
  induction L with
  | nil =>
    intro D p q R h _ _
    obtain ⟨hv, hR, hl, h1, _⟩ := h
    exact ⟨hv, hR, hl, by simp [tkAll] at h1 ⊢; omega, by simp [tkAll], by simp [tkAll]⟩
  | cons x xs ih =>
    intro D p q R h hb hL
    rw [List.length_cons] at h hb
    obtain ⟨g1, g2, g3, g4, g5, g6, g7⟩ := h.step hz hb hb9
    have hx := allB_iff.1 hL x (List.mem_cons_self ..)
    have hxs : allB xs 0 255 = true := allB_iff.2 fun y hy => allB_iff.1 hL y (List.mem_cons_of_mem _ hy)
    simp only [tkAll]
    by_cases hf : (tkStep S z D p q R).r.length = z
    · rw [if_pos hf]
      exact ⟨g1, g2, g3, g4, g5, by simp⟩
    · rw [if_neg hf]
      have hk := g6 hf x hx.1 hx.2
      by_cases hxe : x = e
      · rw [if_pos hxe]
        obtain ⟨f1, f2, f3, f4, f5, f6⟩ := hk.flush hz (by omega) hb9
        by_cases hst : (fuGo S ((tkStep S z D p q R).r ++ [x]).length (tkStep S z D p q R).d (tkStep S z D p q R).p (tkStep S z D p q R).q ((tkStep S z D p q R).r ++ [x])).st = 0
        · rw [if_pos hst]
          obtain ⟨k1, k2, k3, k4, k5, k6⟩ := ih _ _ _ _ (f6 hst) (by omega) hxs
          exact ⟨k1, k2, k3, k4, k5, by rw [List.length_cons]; show _ + 1 ≤ _; omega⟩
        · rw [if_neg hst]
          exact ⟨f1, f2, f3, f4, f5, by simp⟩
      · rw [if_neg hxe]
        obtain ⟨k1, k2, k3, k4, k5, k6⟩ := ih _ _ _ _ hk (by omega) hxs
        exact ⟨k1, k2, k3, k4, k5, by rw [List.length_cons]; show _ + 1 ≤ _; omega⟩
end Go.Proofs.YtdiebkaedjlckaaDoor
