/- What a flush leaves of what is seen: facts for the promises of writers. -/
import Derived.Test.YtdiebkaedjlckaaDoorW0
import Derived.Test.YtdiebkaedjlckaaDoorC3b
namespace Go.Proofs.YtdiebkaedjlckaaDoor
set_option linter.unusedSimpArgs false
set_option linter.unusedVariables false

theorem wrL_nil (D : List Int) (a : Nat) : wrL D a [] = D := by simp [wrL]
theorem wrL_ne (D : List Int) (a : Nat) {L : List Int} (h : ¬ L = []) : wrL D a L = D.take a ++ (List.replicate (a - D.length) 0 ++ (L ++ D.drop (a + L.length))) := by unfold wrL; rw [if_neg h]
theorem wrL_two (D X Y : List Int) (a : Nat) (hX : ¬ X = []) : wrL (wrL D a X) (a + X.length) Y = wrL D a (X ++ Y) := by
  by_cases hY : Y = []
  · subst hY; rw [wrL_nil, List.append_nil]
  · have hXY : ¬ X ++ Y = [] := by simp [hX]
    have e1 : wrL D a X = (D.take a ++ List.replicate (a - D.length) 0 ++ X) ++ D.drop (a + X.length) := by unfold wrL; rw [if_neg hX]; simp
    have hl : (D.take a ++ List.replicate (a - D.length) 0 ++ X).length = a + X.length := by simp; omega
    have e2 : (wrL D a X).take (a + X.length) = D.take a ++ List.replicate (a - D.length) 0 ++ X := by rw [e1]; exact List.take_left' hl
    have e3 : (wrL D a X).drop (a + X.length + Y.length) = D.drop (a + X.length + Y.length) := by
      rw [← List.drop_drop, e1, List.drop_left' hl, List.drop_drop]
    have hwl := wrL_len (D := D) (L := X) (a := a) (List.length_pos_iff.2 hX)
    rw [wrL_ne _ _ hY, e2, e3, show a + X.length - (wrL D a X).length = 0 by omega, wrL_ne _ _ hXY]
    simp [Nat.add_assoc]
/-- A flush changes nothing that is seen. -/
theorem fuGo_seen {S : List Int} : ∀ (f : Nat) (D : List Int) (p : Int) (q : Nat) (R : List Int), validD D p S (q : Int) = true → allB R 0 255 = true → R.length ≤ f → q + f ≤ 999 →
    wrL (fuGo S f D p q R).d (fuGo S f D p q R).p.toNat ((fuGo S f D p q R).r.take (60 - (fuGo S f D p q R).p.toNat)) = wrL D p.toNat (R.take (60 - p.toNat)) ∧ (fuGo S f D p q R).p + ((fuGo S f D p q R).r.length : Int) = p + (R.length : Int) ∧
    ((fuGo S f D p q R).st = 0 ↔ (fuGo S f D p q R).r = []) := by
  intro f
  induction f with
  | zero =>
    intro D p q R hv hR hf _
    obtain rfl : R = [] := List.eq_nil_of_length_eq_zero (by omega)
    simp [fuGo]
  | succ f ih =>
    intro D p q R hv hR hf hq
    by_cases h0 : R = []
    · subst h0; rw [fuGo_nil]; simp
    · have hl : 1 ≤ R.length := List.length_pos_iff.2 h0
      obtain ⟨_, _, _, ⟨hp0, hp1⟩, _⟩ := validD_iff.1 hv
      simp only [fuGo, if_neg h0]
      by_cases hst : wrSt p (mayAt S q) = 0
      · rw [if_pos hst]
        obtain ⟨h1, h2, h3⟩ := wrM_ok hst hp0 hl
        have hv2 := fu_valid (D := D) (S := S) (q := q) hv hR hst hl (by omega)
        generalize wrM p (mayAt S q) R.length = m at *
        have hlt : (R.drop m).length = R.length - m := List.length_drop ..
        have hlk : (R.take m).length = m := by rw [List.length_take]; omega
        obtain ⟨g1, g2, g3⟩ := ih (wrL D p.toNat (R.take m)) (p + (m : Int)) (q + 1) (R.drop m) hv2 (allB_drop hR _) (by omega) (by omega)
        refine ⟨?_, by rw [g2, hlt]; omega, g3⟩
        rw [g1]
        have e1 : (p + (m : Int)).toNat = p.toNat + (R.take m).length := by rw [hlk]; omega
        rw [e1, wrL_two _ _ _ _ (fun e => by rw [e] at hlk; simp at hlk; omega)]
        congr 1
        rw [hlk, show 60 - p.toNat = m + (60 - (p.toNat + m)) by omega, List.take_add]
      · rw [if_neg hst]
        exact ⟨rfl, rfl, ⟨fun e => absurd e hst, fun e => absurd e h0⟩⟩
theorem seen_yes {D S R : List Int} {p q z : Int} (h : validW D p S q R z = true) : seenOut D p S q R z = wrL D p.toNat (R.take (60 - p.toNat)) := by unfold seenOut; rw [h]; rfl
theorem tellw_yes {D S R : List Int} {p q z : Int} (h : validW D p S q R z = true) : tellWOut D p S q R z = p + (R.length : Int) := by unfold tellWOut; rw [h]; rfl
/-- What is seen, by places. -/
theorem seen_what {D S R : List Int} {p q z : Int} (h : validW D p S q R z = true) : (∀ k, k ≤ p.toNat → (D.take k).isPrefixOf (seenOut D p S q R z) = true) ∧ D.length ≤ (seenOut D p S q R z).length ∧ (seenOut D p S q R z).length ≤ 60 ∧
    (R.length = 0 ∨ p = 60 ∨ min (p + (R.length : Int)) 60 ≤ ((seenOut D p S q R z).length : Int)) ∧ (0 ≤ p ∧ p ≤ 60) ∧ D.length ≤ 60 ∧ S.length ≤ 12 ∧ R.length ≤ 16 ∧ tellWOut D p S q R z = p + (R.length : Int) := by
  obtain ⟨hvd, hz, hRz, _⟩ := validW_iff.1 h
  obtain ⟨hb, hS, _, hp, _⟩ := validD_iff.1 hvd
  have h60 := bytesB_le hb
  have hle := seenOut_le D p S q R z
  have hpre : ∀ k, k ≤ p.toNat → (D.take k).isPrefixOf (wrL D p.toNat (R.take (60 - p.toNat))) = true := by
    intro k hk
    rw [List.isPrefixOf_iff_prefix]
    unfold wrL
    split
    · exact List.take_prefix _ _
    · exact List.IsPrefix.trans (List.take_prefix_take_left hk) (List.prefix_append _ _)
  rw [seen_yes h] at hle ⊢
  refine ⟨hpre, ?_, hle, ?_, hp, h60, hS, by omega, tellw_yes h⟩
  · by_cases e : R.take (60 - p.toNat) = []
    · rw [e, wrL_nil]; omega
    · rw [wrL_len (List.length_pos_iff.2 e)]; omega
  · by_cases e : R.take (60 - p.toNat) = []
    · have h1 : min (60 - p.toNat) R.length = 0 := by rw [← List.length_take, e]; rfl
      have h2 : R.length = 0 ∨ p = 60 := by omega
      rcases h2 with h2 | h2
      · exact .inl h2
      · exact .inr (.inl h2)
    · right; right
      rw [wrL_len (List.length_pos_iff.2 e), List.length_take]
      have h1 : p + (R.length : Int) ≤ 60 ∨ 60 < p + (R.length : Int) := by omega
      rcases h1 with h1 | h1
      · rw [Int.min_eq_left (by omega)]; omega
      · rw [Int.min_eq_right (by omega)]; omega
end Go.Proofs.YtdiebkaedjlckaaDoor
