/- Taking bytes, one after the other, with a flush where there is no room: what a writer is then. -/
import Derived.Test.YtdiebkaedjlckaaDoorFU
import Derived.Test.YtdiebkaedjlckaaDoorC3a
namespace Go.Proofs.YtdiebkaedjlckaaDoor
set_option linter.unusedSimpArgs false
set_option linter.unusedVariables false

/-- A flush where the buffer is full. -/
def tkStep (S : List Int) (z : Nat) (D : List Int) (p : Int) (q : Nat) (R : List Int) : Fv := if R.length = z then fuGo S R.length D p q R else ⟨D, p, q, R, 0⟩
/-- What a writer is after these bytes were taken, and how many were. -/
def tkGo (S : List Int) (z : Nat) : List Int → List Int → Int → Nat → List Int → Fv × Nat
  | [], D, p, q, R => (⟨D, p, q, R, 0⟩, 0)
  | x :: xs, D, p, q, R => if (tkStep S z D p q R).r.length = z then (tkStep S z D p q R, 0) else
      ((tkGo S z xs (tkStep S z D p q R).d (tkStep S z D p q R).p (tkStep S z D p q R).q ((tkStep S z D p q R).r ++ [x])).1,
       (tkGo S z xs (tkStep S z D p q R).d (tkStep S z D p q R).p (tkStep S z D p q R).q ((tkStep S z D p q R).r ++ [x])).2 + 1)
theorem wrSt_in (p k : Int) : 0 ≤ wrSt p k ∧ wrSt p k ≤ 4 := by
  unfold wrSt
  split
  · omega
  split
  · omega
  split <;> omega
theorem fuGo_pot {S : List Int} : ∀ (f : Nat) (D : List Int) (p : Int) (q : Nat) (R : List Int) (b : Nat), validD D p S (q : Int) = true → allB R 0 255 = true → R.length ≤ f → q + R.length ≤ b → 12 + R.length ≤ b → b ≤ 990 →
    validD (fuGo S f D p q R).d (fuGo S f D p q R).p S ((fuGo S f D p q R).q : Int) = true ∧ allB (fuGo S f D p q R).r 0 255 = true ∧ (fuGo S f D p q R).r.length ≤ R.length ∧ (fuGo S f D p q R).q + (fuGo S f D p q R).r.length ≤ b + 1 ∧
    ((fuGo S f D p q R).q + (fuGo S f D p q R).r.length ≤ b ∨ (fuGo S f D p q R).p = 60) ∧ (p = 60 → (fuGo S f D p q R).r = R) ∧ (0 ≤ (fuGo S f D p q R).st ∧ (fuGo S f D p q R).st ≤ 4) ∧ ((fuGo S f D p q R).st = 0 → (fuGo S f D p q R).r = []) := by
  intro f
  induction f with
  | zero =>
    intro D p q R b hv hR hf hb h12 hb9
    obtain rfl : R = [] := List.eq_nil_of_length_eq_zero (by omega)
    exact ⟨hv, hR, Nat.le_refl _, by simp [fuGo]; omega, .inl (by simpa [fuGo] using hb), fun _ => rfl, by simp [fuGo], fun _ => rfl⟩
  | succ f ih =>
    intro D p q R b hv hR hf hb h12 hb9
    by_cases h0 : R = []
    · subst h0
      rw [fuGo_nil]
      exact ⟨hv, hR, Nat.le_refl _, by simp; omega, .inl (by simpa using hb), fun _ => rfl, by simp, fun _ => rfl⟩
    · have hl : 1 ≤ R.length := List.length_pos_iff.2 h0
      obtain ⟨_, hS, _, ⟨hp0, hp1⟩, _⟩ := validD_iff.1 hv
      simp only [fuGo, if_neg h0]
      by_cases hst : wrSt p (mayAt S q) = 0
      · rw [if_pos hst]
        obtain ⟨h1, h2, h3⟩ := wrM_ok hst hp0 hl
        have hv2 := fu_valid (D := D) (S := S) (q := q) hv hR hst hl (by omega)
        have hlt : (R.drop (wrM p (mayAt S q) R.length)).length = R.length - wrM p (mayAt S q) R.length := List.length_drop ..
        obtain ⟨g1, g2, g3, g4, g5, g6, g7, g8⟩ := ih (wrL D p.toNat (R.take (wrM p (mayAt S q) R.length))) (p + ((wrM p (mayAt S q) R.length : Nat) : Int)) (q + 1) (R.drop (wrM p (mayAt S q) R.length)) b hv2 (allB_drop hR _) (by omega) (by omega) (by omega) hb9
        exact ⟨g1, g2, by omega, g4, g5, fun e => by omega, g7, g8⟩
      · rw [if_neg hst]
        have hv2 : validD D p S ((q + 1 : Nat) : Int) = true := by
          have h1 := validD_iff.1 hv
          exact validD_iff.2 ⟨h1.1, h1.2.1, h1.2.2.1, h1.2.2.2.1, by omega⟩
        refine ⟨hv2, hR, Nat.le_refl _, by show q + 1 + R.length ≤ b + 1; omega, ?_, fun _ => rfl, wrSt_in _ _, fun e => absurd e hst⟩
        show q + 1 + R.length ≤ b ∨ p = 60
        by_cases hq : S.length ≤ q
        · right
          rw [mayAt_none hq] at hst
          unfold wrSt at hst
          rw [if_neg (by omega), if_neg (by omega)] at hst
          by_cases h60 : 60 ≤ p
          · omega
          · rw [if_neg h60] at hst; exact absurd rfl hst
        · left; omega
/-- A writer that may take 'rem' bytes more. -/
def TkOk (S : List Int) (z b rem : Nat) (D : List Int) (p : Int) (q : Nat) (R : List Int) : Prop :=
  validD D p S (q : Int) = true ∧ allB R 0 255 = true ∧ R.length ≤ z ∧ q + R.length + rem ≤ b + 1 ∧ (q + R.length + rem ≤ b ∨ p = 60)
theorem TkOk.step {S : List Int} {z b rem : Nat} {D : List Int} {p : Int} {q : Nat} {R : List Int} (h : TkOk S z b (rem + 1) D p q R) (hz : 1 ≤ z ∧ z ≤ 16) (hb : 12 + z + (rem + 1) ≤ b) (hb9 : b ≤ 980) :
    validD (tkStep S z D p q R).d (tkStep S z D p q R).p S ((tkStep S z D p q R).q : Int) = true ∧ allB (tkStep S z D p q R).r 0 255 = true ∧ (tkStep S z D p q R).r.length ≤ z ∧ (tkStep S z D p q R).q ≤ b + 2 ∧ (0 ≤ (tkStep S z D p q R).st ∧ (tkStep S z D p q R).st ≤ 4) ∧
    (¬ (tkStep S z D p q R).r.length = z → ∀ x, 0 ≤ x → x ≤ 255 → TkOk S z b rem (tkStep S z D p q R).d (tkStep S z D p q R).p (tkStep S z D p q R).q ((tkStep S z D p q R).r ++ [x])) ∧ ((tkStep S z D p q R).r.length = z → ¬ (tkStep S z D p q R).st = 0) := by
  obtain ⟨hv, hR, hl, h1, h2⟩ := h
  have happ : ∀ (L : List Int) (x : Int), allB L 0 255 = true → 0 ≤ x → x ≤ 255 → allB (L ++ [x]) 0 255 = true := fun L x hL h0 h1 => allB_iff.2 fun y hy => by
    rcases List.mem_append.1 hy with h | h
    · exact allB_iff.1 hL y h
    · simp at h; subst h; exact ⟨h0, h1⟩
  unfold tkStep
  by_cases hz2 : R.length = z
  · rw [if_pos hz2]
    by_cases hq : q + R.length + (rem + 1) ≤ b
    · obtain ⟨g1, g2, g3, g4, g5, g6, g7, g8⟩ := fuGo_pot (S := S) R.length D p q R (b - (rem + 1)) hv hR (Nat.le_refl _) (by omega) (by omega) (by omega)
      refine ⟨g1, g2, by omega, by omega, g7, fun hn x hx0 hx1 => ⟨g1, happ _ _ g2 hx0 hx1, ?_, ?_, ?_⟩, fun e e0 => ?_⟩
      · rw [List.length_append]; simp; omega
      · rw [List.length_append]; simp; omega
      · rw [List.length_append]
        rcases g5 with g | g
        · left; simp; omega
        · exact .inr g
      · have := g8 e0; rw [this] at e; simp at e; omega
    · have hp : p = 60 := by rcases h2 with h | h; (exact absurd h hq); exact h
      obtain ⟨g1, g2, g3, g4, g5, g6, g7, g8⟩ := fuGo_pot (S := S) R.length D p q R (b + 1 - (rem + 1)) hv hR (Nat.le_refl _) (by omega) (by omega) (by omega)
      have hr := g6 hp
      refine ⟨g1, g2, by omega, by omega, g7, fun hn => absurd (by rw [hr]; exact hz2) hn, fun e e0 => ?_⟩
      have := g8 e0; rw [this] at e; simp at e; omega
  · rw [if_neg hz2]
    refine ⟨hv, hR, hl, by show q ≤ b + 2; omega, by simp, fun hn x hx0 hx1 => ⟨hv, happ _ _ hR hx0 hx1, ?_, ?_, ?_⟩, fun e => absurd e hz2⟩
    · rw [List.length_append]; simp; omega
    · show q + (R ++ [x]).length + rem ≤ b + 1
      rw [List.length_append]; simp; omega
    · show q + (R ++ [x]).length + rem ≤ b ∨ p = 60
      rw [List.length_append]
      rcases h2 with g | g
      · left; simp; omega
      · exact .inr g
theorem tkGo_ok {S : List Int} {z b : Nat} (hz : 1 ≤ z ∧ z ≤ 16) (hb9 : b ≤ 980) : ∀ (L : List Int) (D : List Int) (p : Int) (q : Nat) (R : List Int), TkOk S z b L.length D p q R → 12 + z + L.length ≤ b → allB L 0 255 = true →
    validD (tkGo S z L D p q R).1.d (tkGo S z L D p q R).1.p S ((tkGo S z L D p q R).1.q : Int) = true ∧ allB (tkGo S z L D p q R).1.r 0 255 = true ∧ (tkGo S z L D p q R).1.r.length ≤ z ∧ (tkGo S z L D p q R).1.q ≤ b + 2 ∧ (0 ≤ (tkGo S z L D p q R).1.st ∧ (tkGo S z L D p q R).1.st ≤ 4) ∧ (tkGo S z L D p q R).2 ≤ L.length ∧
    ((tkGo S z L D p q R).1.st = 0 ↔ (tkGo S z L D p q R).2 = L.length) := by
  intro L
  induction L with
  | nil =>
    intro D p q R h _ _
    obtain ⟨hv, hR, hl, h1, _⟩ := h
    exact ⟨hv, hR, hl, by simp [tkGo] at h1 ⊢; omega, by simp [tkGo], by simp [tkGo], by simp [tkGo]⟩
  | cons x xs ih =>
    intro D p q R h hb hL
    rw [List.length_cons] at h hb
    obtain ⟨g1, g2, g3, g4, g5, g6, g7⟩ := h.step hz hb hb9
    have hx := allB_iff.1 hL x (List.mem_cons_self ..)
    have hxs : allB xs 0 255 = true := allB_iff.2 fun y hy => allB_iff.1 hL y (List.mem_cons_of_mem _ hy)
    simp only [tkGo]
    by_cases hf : (tkStep S z D p q R).r.length = z
    · rw [if_pos hf]
      exact ⟨g1, g2, g3, g4, g5, by simp, ⟨fun e => absurd e (g7 hf), fun e => by simp at e⟩⟩
    · rw [if_neg hf]
      obtain ⟨k1, k2, k3, k4, k5, k6, k7⟩ := ih _ _ _ _ (g6 hf x hx.1 hx.2) (by omega) hxs
      exact ⟨k1, k2, k3, k4, k5, by simp; omega, by rw [k7, List.length_cons]; omega⟩
end Go.Proofs.YtdiebkaedjlckaaDoor
