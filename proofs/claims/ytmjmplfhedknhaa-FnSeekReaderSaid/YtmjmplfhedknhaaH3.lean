/- Reading, as places: what a valid reader has ahead, and what it gives. -/
import Derived.Test.YtmjmplfhedknhaaC2j
import Derived.Test.YtmjmplfhedknhaaC2b
namespace Go.Proofs.Ytmjmplfhedknhaa
set_option linter.unusedSimpArgs false
set_option linter.unusedVariables false

/-- A reader stands at place t: what is ahead is Data from t on. -/
def RAt (D : List Int) (p : Int) (R : List Int) (t : Nat) : Prop := p = (t : Int) + (R.length : Int) ∧ R ++ D.drop p.toNat = D.drop t ∧ (R = [] ∨ p ≤ (D.length : Int))
theorem RAt.of_valid {D S R : List Int} {p q z : Int} (h : validR D p S q R z = true) : ∃ t : Nat, RAt D p R t := by
  obtain ⟨hvd, _, _, hah⟩ := validR_iff.1 h
  obtain ⟨_, _, _, ⟨hp0, _⟩, _⟩ := validD_iff.1 hvd
  obtain ⟨a, rfl⟩ := Int.eq_ofNat_of_zero_le hp0
  rw [Int.toNat_natCast] at hah
  unfold aheadB at hah
  by_cases h0 : R.length = 0
  · obtain rfl : R = [] := List.eq_nil_of_length_eq_zero h0
    exact ⟨a, by simp, by simp, .inl rfl⟩
  · simp only [h0, decide_false, Bool.false_or, Bool.and_eq_true, decide_eq_true_eq, sameB_iff] at hah
    obtain ⟨h1, h2, h3⟩ := hah
    refine ⟨a - R.length, by omega, ?_, .inr (by omega)⟩
    rw [Int.toNat_natCast]
    have e : D.drop a = (D.drop (a - R.length)).drop R.length := by rw [List.drop_drop]; congr 1; omega
    rw [e]
    conv => lhs; arg 1; rw [← h3]
    rw [List.take_append_drop]
theorem RAt.valid {D S R : List Int} {p q z : Int} {t : Nat} (h : RAt D p R t) (hv : validD D p S q = true) (hz : 1 ≤ z ∧ z ≤ 16) (hr : (R.length : Int) ≤ z) : validR D p S q R z = true := by
  refine validR_iff.2 ⟨hv, hz, hr, ?_⟩
  obtain ⟨h1, h2, h3⟩ := h
  unfold aheadB
  rcases h3 with rfl | h3
  · simp
  · have e : p.toNat - R.length = t := by omega
    rw [e, ← h2]
    have h4 : R.length ≤ p.toNat := by omega
    have h5 : p.toNat ≤ D.length := by omega
    simp [h4, h5, sameB]
theorem RAt.take {D R : List Int} {p : Int} {t m : Nat} (h : RAt D p R t) (hm : m ≤ R.length) : R.take m = (D.drop t).take m := by
  rw [← h.2.1, List.take_append_of_le_length hm]
theorem RAt.len {D R : List Int} {p : Int} {t : Nat} (h : RAt D p R t) : R.length ≤ (D.drop t).length := by
  rw [← h.2.1, List.length_append]; omega
theorem RAt.drop {D R : List Int} {p : Int} {t m : Nat} (h : RAt D p R t) (hm : m ≤ R.length) : RAt D p (R.drop m) (t + m) := by
  obtain ⟨h1, h2, h3⟩ := h
  refine ⟨by rw [List.length_drop]; omega, ?_, ?_⟩
  · rw [← List.drop_drop, ← h2, List.drop_append_of_le_length hm]
  · rcases h3 with rfl | h3
    · exact .inl (by simp)
    · exact .inr h3
theorem rdL_pref {D : List Int} {p k N : Int} : rdL D p k N = (D.drop p.toNat).take (rdL D p k N).length := by
  unfold rdL
  split
  · simp
  · rw [List.length_take, List.take_eq_take_iff]; omega
theorem RAt.fill {D S R : List Int} {p z : Int} {t a : Nat} (h : RAt D p R t) (hz : 1 ≤ z) : RAt D (flP D S z p a R) (flR D S z p a R) t ∧ ((R.length : Int) ≤ z → ((flR D S z p a R).length : Int) ≤ z) := by
  unfold flP flR
  by_cases h0 : R = []
  · subst h0
    rw [if_pos rfl, if_pos rfl]
    obtain ⟨h1, h2, _⟩ := h
    have hp : p = (t : Int) := by simpa using h1
    subst hp
    have hs := rdL_size D (t : Int) (mayAt S a) z
    have hp2 := rdL_pref (D := D) (p := (t : Int)) (k := mayAt S a) (N := z)
    rw [Int.toNat_natCast] at hs hp2
    refine ⟨⟨rfl, ?_, ?_⟩, fun _ => ?_⟩
    · have e : ((t : Int) + ((rdL D (t : Int) (mayAt S a) z).length : Int)).toNat = t + (rdL D (t : Int) (mayAt S a) z).length := by omega
      rw [e, ← List.drop_drop]
      conv => lhs; arg 1; rw [hp2]
      rw [List.take_append_drop]
    · by_cases hl : (rdL D (t : Int) (mayAt S a) z) = []
      · exact .inl hl
      · have := List.length_pos_iff.2 hl
        exact .inr (by omega)
    · unfold rdL
      split
      · simp; omega
      · rw [List.length_take]; omega
  · rw [if_neg h0, if_neg h0]
    exact ⟨h, id⟩
theorem fl_stop {D S R : List Int} {z p : Int} {a : Nat} (hst : ¬ flS D S p a R = 0) : R = [] ∧ flR D S z p a R = [] ∧ flP D S z p a R = p ∧ (flS D S p a R = 1 → (D.length : Int) ≤ p) ∧ (1 ≤ mayAt S a → flS D S p a R = 1) := by
  unfold flS at hst ⊢
  unfold flR flP
  by_cases h0 : R = []
  · rw [if_pos h0] at hst
    rw [if_pos h0, if_pos h0, if_pos h0]
    have hl : rdL D p (mayAt S a) z = [] := by
      unfold rdL
      split
      · rfl
      · unfold rdSt at hst
        rw [if_neg (by omega), if_neg (by omega)] at hst
        have : (D.length : Int) ≤ p := by
          by_cases h : (D.length : Int) ≤ p
          · exact h
          · rw [if_neg h] at hst; exact absurd rfl hst
        rw [List.drop_of_length_le (by omega)]; simp
    refine ⟨h0, hl, by rw [hl]; simp, ?_, ?_⟩
    · unfold rdSt
      split
      · intro h; omega
      · split
        · intro h; omega
        · split
          · intro _; assumption
          · intro h; omega
    · intro hm
      unfold rdSt at hst ⊢
      rw [if_neg (by omega), if_neg (by omega)] at hst ⊢
      by_cases h : (D.length : Int) ≤ p
      · rw [if_pos h]
      · rw [if_neg h] at hst; exact absurd rfl hst
  · rw [if_neg h0] at hst; exact absurd rfl hst
theorem smooth_may {S : List Int} {a : Nat} (h : smoothB S a = true) : 1 ≤ mayAt S a := by
  rcases Nat.lt_or_ge a S.length with hl | hl
  · rw [mayAt_some (List.getElem?_eq_getElem hl)]
    exact smoothB_iff.1 h a _ (Nat.le_refl _) (List.getElem?_eq_getElem hl)
  · rw [mayAt_none hl]; omega
theorem smooth_fl {S R : List Int} {a : Nat} (h : smoothB S a = true) : smoothB S (flA a R) = true := by
  refine smoothB_iff.2 fun j x hj hx => smoothB_iff.1 h j x ?_ hx
  unfold flA at hj
  split at hj <;> omega
/-- What was read from place t on: m bytes behind those of before. -/
def RsAt (D S : List Int) (z : Int) (N t : Nat) (sm : Bool) (out0 : List Int) (o : Rs) (m : Nat) : Prop :=
  RAt D o.p o.r (t + m) ∧ o.out = out0 ++ (D.drop t).take m ∧ m ≤ (D.drop t).length ∧ (o.r.length : Int) ≤ z ∧ out0.length + m ≤ N ∧ (o.st = 0 → out0.length + m = N) ∧ (¬ o.st = 0 → out0.length + m < N ∧ o.r = []) ∧ (o.st = 1 → D.length ≤ t + m) ∧ (sm = true → o.st = 0 ∨ o.st = 1)
theorem fullGo_at {D S : List Int} {z : Int} {N : Nat} (hz : 1 ≤ z) : ∀ (f : Nat) (p : Int) (a : Nat) (R out : List Int) (t : Nat), validD D p S (a : Int) = true → a + f ≤ 1000 → RAt D p R t → (R.length : Int) ≤ z → out.length ≤ N → N - out.length < f →
    ∃ m, RsAt D S z N t (smoothB S a) out (fullGo D S z N f p a R out) m := by
  intro f
  induction f with
  | zero => intro p a R out t _ _ _ _ _ h; omega
  | succ f ih =>
    intro p a R out t hv ha hat hr ho hf
    obtain ⟨hv1, hk1, hpos, ha1⟩ := fl_step (R := R) hv (by omega) hz
    obtain ⟨hat1, hr1⟩ := hat.fill (S := S) (a := a) hz
    have hr1 := hr1 hr
    simp only [fullGo]
    by_cases hN : N ≤ out.length
    · rw [if_pos hN]
      exact ⟨0, hat, by simp, Nat.zero_le _, hr, by omega, fun _ => by omega, fun h => absurd rfl h, fun h => by simp at h, fun _ => .inl rfl⟩
    · rw [if_neg hN]
      by_cases hst : flS D S p a R = 0
      · rw [if_pos hst]
        have hp1 := hpos hst
        have hj1 : 1 ≤ min (N - out.length) (flR D S z p a R).length := by omega
        have hj2 : min (N - out.length) (flR D S z p a R).length ≤ (flR D S z p a R).length := Nat.min_le_right _ _
        have hj3 : min (N - out.length) (flR D S z p a R).length ≤ N - out.length := Nat.min_le_left _ _
        generalize min (N - out.length) (flR D S z p a R).length = j at *
        have hlt := (List.length_take (l := flR D S z p a R) (i := j))
        obtain ⟨m, h1, h2, h3, h4, h5, h6, h7, h8, h9⟩ := ih (flP D S z p a R) (flA a R) ((flR D S z p a R).drop j) (out ++ (flR D S z p a R).take j) (t + j) hv1 (by omega) (hat1.drop hj2) (by rw [List.length_drop]; omega) (by rw [List.length_append, hlt]; omega) (by rw [List.length_append, hlt]; omega)
        rw [List.length_append, hlt] at h5 h6 h7
        have hl1 := hat1.len
        refine ⟨j + m, ?_, ?_, ?_, h4, by omega, fun h => by have := h6 h; omega, fun h => by have := h7 h; exact ⟨by omega, this.2⟩, fun h => by have := h8 h; omega, fun h => h9 (smooth_fl h)⟩
        · rw [← Nat.add_assoc]; exact h1
        · rw [h2, hat1.take hj2, List.append_assoc, List.take_add, List.drop_drop]
        · rw [List.length_drop] at h3 ⊢; rw [List.length_drop] at hl1; omega
      · rw [if_neg hst]
        obtain ⟨_, s2, s3, s4, s5⟩ := fl_stop (z := z) hst
        refine ⟨0, hat1, by simp, Nat.zero_le _, hr1, by omega, fun h => absurd h hst, fun _ => ⟨by omega, s2⟩, fun h => ?_, fun h => .inr (s5 (smooth_may h))⟩
        have h1 := s4 h
        have h2 := hat1.1
        have s2' : (flR D S z p a R).length = 0 := by rw [s2]; rfl
        rw [s3] at h2
        omega
theorem RAt.tell {D S R : List Int} {p q z : Int} {t : Nat} (h : RAt D p R t) (hv : validR D p S q R z = true) : tellOut D p S q R z = (t : Int) := by
  unfold tellOut; rw [hv]; have := h.1; simp; omega
theorem RAt.ahead {D S R : List Int} {p q : Int} {t : Nat} (h : RAt D p R t) (hv : validD D p S q = true) : R ++ restL D p S q = D.drop t := by
  unfold restL; rw [hv]; exact h.2.1
theorem flS_not5 (D S R : List Int) (p : Int) (a : Nat) : ¬ flS D S p a R = 5 := by
  have := flS_in D S p a R; omega
theorem good_at {D S R : List Int} {p q z : Int} (hg : goodR D p S q R z = true) : ∃ t : Nat, RAt D p R t ∧ validD D p S (q.toNat : Int) = true ∧ (q.toNat : Int) = q ∧ q.toNat ≤ 900 ∧ (1 ≤ z ∧ z ≤ 16) ∧ (R.length : Int) ≤ z ∧ tellOut D p S q R z = (t : Int) ∧ R ++ restL D p S q = D.drop t := by
  obtain ⟨hvr, hq⟩ := goodR_iff.1 hg
  obtain ⟨hz1, hv, _, hq9⟩ := good_start hg
  obtain ⟨hvd, hz, hRz, _⟩ := validR_iff.1 hvr
  obtain ⟨_, _, _, _, hq0, _⟩ := validD_iff.1 hvd
  obtain ⟨t, ht⟩ := RAt.of_valid hvr
  exact ⟨t, ht, hv, Int.toNat_of_nonneg hq0, hq9, hz, hRz, ht.tell hvr, ht.ahead hvd⟩
/-- What a call that reads gives: what is ahead from place t on, m bytes of it, and where it stands then. -/
def Gave (D : List Int) (S : List Int) (z : Int) (t u : Nat) (P Q : Int) (R1 : List Int) : Prop :=
  validR D P S Q R1 z = true ∧ tellOut D P S Q R1 z = (u : Int) ∧ R1 ++ restL D P S Q = D.drop u ∧ R1.length ≤ 16
theorem RAt.gave {D S R : List Int} {p z : Int} {t u a : Nat} (h : RAt D p R u) (hv : validD D p S (a : Int) = true) (hz : 1 ≤ z ∧ z ≤ 16) (hr : (R.length : Int) ≤ z) : Gave D S z t u p (a : Int) R := by
  have hvr := h.valid hv hz hr
  exact ⟨hvr, h.tell hvr, h.ahead hv, by omega⟩
theorem rpeek_no {D S R : List Int} {p q z N : Int} (h : (goodR D p S q R z && inB N 1 60) = false) : peekOut D p S q R z N = (⟨[], 0, [], 0, [], 0⟩, [], 5) := by
  unfold peekOut; rw [h]; rfl
theorem rsome_no {D S R : List Int} {p q z N : Int} (h : (goodR D p S q R z && inB N 1 60) = false) : someOut D p S q R z N = (⟨[], 0, [], 0, [], 0⟩, [], 5) := by
  unfold someOut; rw [h]; rfl
theorem take_pre (L : List Int) (m : Nat) : (L.take m).isPrefixOf L = true := List.isPrefixOf_iff_prefix.2 (List.take_prefix m L)
theorem rpeek_yes {D S R : List Int} {p q z N : Int} (h : (goodR D p S q R z && inB N 1 60) = true) : ∃ (t : Nat) (P Q : Int) (R1 L : List Int) (st : Int),
    peekOut D p S q R z N = (⟨D, P, S, Q, R1, z⟩, L, st) ∧ ¬ st = 5 ∧ tellOut D p S q R z = (t : Int) ∧ R ++ restL D p S q = D.drop t ∧ Gave D S z t t P Q R1 ∧ L.isPrefixOf (D.drop t) = true ∧ (L.length : Int) ≤ N ∧
    (st = 0 → Q ≤ 900 → ∃ P2 R2, someOut D P S Q R1 z N = (⟨D, P2, S, Q, R2, z⟩, L, 0)) := by
  have h0 := h
  rw [Bool.and_eq_true] at h
  obtain ⟨hg, hN⟩ := h
  obtain ⟨t, hat, hv, hqq, hq9, hz, hRz, htl, hah⟩ := good_at hg
  have hN2 : 1 ≤ N ∧ N ≤ 60 := by simpa [inB] using hN
  obtain ⟨hv1, hk1, hpos, ha1⟩ := fl_step (R := R) hv (by omega) hz.1
  obtain ⟨hat1, hr1⟩ := hat.fill (S := S) (a := q.toNat) hz.1
  have hr1 := hr1 hRz
  have hgv : Gave D S z t t (flP D S z p q.toNat R) (flA q.toNat R : Int) (flR D S z p q.toNat R) := hat1.gave hv1 hz hr1
  refine ⟨t, _, _, _, _, _, by unfold peekOut; rw [h0]; rfl, flS_not5 D S R p q.toNat, htl, hah, hgv, ?_, ?_, ?_⟩
  · show ((flR D S z p q.toNat R).take (min N.toNat (flR D S z p q.toNat R).length)).isPrefixOf (D.drop t) = true
    rw [hat1.take (Nat.min_le_right _ _)]
    exact take_pre _ _
  · show ((((flR D S z p q.toNat R).take (min N.toNat (flR D S z p q.toNat R).length)).length : Nat) : Int) ≤ N
    rw [List.length_take]; omega
  · intro hst hQ
    have hp1 := hpos hst
    have hQ' : (flA q.toNat R : Int) ≤ 900 := hQ
    have hgd : goodR D (flP D S z p q.toNat R) S (flA q.toNat R : Int) (flR D S z p q.toNat R) z = true := goodR_iff.2 ⟨hgv.1, hQ'⟩
    have hne : ¬ flR D S z p q.toNat R = [] := fun e => by rw [e] at hp1; simp at hp1
    refine ⟨flP D S z p q.toNat R, (flR D S z p q.toNat R).drop (min N.toNat (flR D S z p q.toNat R).length), ?_⟩
    show someOut D (flP D S z p q.toNat R) S (flA q.toNat R : Int) (flR D S z p q.toNat R) z N = (⟨D, flP D S z p q.toNat R, S, (flA q.toNat R : Int), (flR D S z p q.toNat R).drop (min N.toNat (flR D S z p q.toNat R).length), z⟩, (flR D S z p q.toNat R).take (min N.toNat (flR D S z p q.toNat R).length), 0)
    generalize flR D S z p q.toNat R = X at *
    generalize flP D S z p q.toNat R = Y at *
    generalize flA q.toNat R = W at *
    have e1 : flS D S Y W X = 0 := by unfold flS; rw [if_neg hne]
    have e2 : flR D S z Y W X = X := by unfold flR; rw [if_neg hne]
    have e3 : flP D S z Y W X = Y := by unfold flP; rw [if_neg hne]
    have e4 : flA W X = W := by unfold flA; rw [if_neg hne]
    unfold someOut
    rw [hgd, hN]
    simp only [Bool.and_self, if_true, Int.toNat_natCast, rsOut, someRs, e1, e2, e3, e4]
theorem rsome_yes {D S R : List Int} {p q z N : Int} (h : (goodR D p S q R z && inB N 1 60) = true) : ∃ (t : Nat) (P Q : Int) (R1 L : List Int) (st : Int),
    someOut D p S q R z N = (⟨D, P, S, Q, R1, z⟩, L, st) ∧ ¬ st = 5 ∧ R ++ restL D p S q = D.drop t ∧ validR D P S Q R1 z = true ∧ R1 ++ restL D P S Q = (D.drop t).drop L.length ∧ R1.length ≤ 16 ∧ L.isPrefixOf (D.drop t) = true ∧ (L.length : Int) ≤ N ∧
    (Q = q ∨ (R = [] ∧ Q = q + 1)) ∧ ((st = 0 ∧ 0 < L.length) ∨ (¬ st = 0 ∧ L = [])) := by
  have h0 := h
  rw [Bool.and_eq_true] at h
  obtain ⟨hg, hN⟩ := h
  obtain ⟨t, hat, hv, hqq, hq9, hz, hRz, htl, hah⟩ := good_at hg
  have hN2 : 1 ≤ N ∧ N ≤ 60 := by simpa [inB] using hN
  obtain ⟨hv1, hk1, hpos, ha1⟩ := fl_step (R := R) hv (by omega) hz.1
  obtain ⟨hat1, hr1⟩ := hat.fill (S := S) (a := q.toNat) hz.1
  have hr1 := hr1 hRz
  have hqd : (flA q.toNat R : Int) = q ∨ (R = [] ∧ (flA q.toNat R : Int) = q + 1) := by
    unfold flA
    by_cases hR : R = []
    · rw [if_pos hR]; right; exact ⟨hR, by omega⟩
    · rw [if_neg hR]; left; exact hqq
  by_cases hst : flS D S p q.toNat R = 0
  · have hp1 := hpos hst
    obtain ⟨j, hj⟩ : ∃ j, min N.toNat (flR D S z p q.toNat R).length = j := ⟨_, rfl⟩
    have hjl : j ≤ (flR D S z p q.toNat R).length := by omega
    have hat2 := hat1.drop hjl
    have hlt : ((flR D S z p q.toNat R).take j).length = j := by rw [List.length_take]; omega
    have hgv : Gave D S z t (t + j) (flP D S z p q.toNat R) (flA q.toNat R : Int) ((flR D S z p q.toNat R).drop j) := hat2.gave hv1 hz (by rw [List.length_drop]; omega)
    refine ⟨t, flP D S z p q.toNat R, (flA q.toNat R : Int), (flR D S z p q.toNat R).drop j, (flR D S z p q.toNat R).take j, 0, ?_, by omega, hah, hgv.1, ?_, hgv.2.2.2, ?_, by rw [hlt]; omega, hqd, .inl ⟨rfl, by rw [hlt]; omega⟩⟩
    · unfold someOut; rw [h0]; simp only [if_true, rsOut, someRs, hst, hj]
    · rw [hgv.2.2.1, hlt, List.drop_drop]
    · rw [hat1.take hjl]; exact take_pre _ _
  · obtain ⟨_, s2, s3, _, _⟩ := fl_stop (z := z) hst
    have hgv : Gave D S z t t (flP D S z p q.toNat R) (flA q.toNat R : Int) (flR D S z p q.toNat R) := hat1.gave hv1 hz hr1
    refine ⟨t, flP D S z p q.toNat R, (flA q.toNat R : Int), flR D S z p q.toNat R, [], flS D S p q.toNat R, ?_, flS_not5 D S R p q.toNat, hah, hgv.1, ?_, hgv.2.2.2, rfl, by simp; omega, hqd, .inr ⟨hst, rfl⟩⟩
    · unfold someOut; rw [h0]; simp only [if_true, rsOut, someRs, if_neg hst]
    · rw [hgv.2.2.1]; rfl
end Go.Proofs.Ytmjmplfhedknhaa
