/- A reader at work, as a whole: what fill and some leave. -/
import Derived.Test.YtmjmplfhedknhaaC2f
import Derived.Test.YtmjmplfhedknhaaC1j
namespace Go.Proofs.Ytmjmplfhedknhaa
open Go.ChangeShapes Go.WideShapes Go.ChangeAt Go.RowKit
set_option linter.unusedSimpArgs false
set_option linter.unusedVariables false

/-! What a fill leaves: the place, the calls, what is read ahead, and how it ended. -/
def flP (D S : List Int) (z p : Int) (a : Nat) (R : List Int) : Int := if R = [] then p + ((rdL D p (mayAt S a) z).length : Int) else p
def flA (a : Nat) (R : List Int) : Nat := if R = [] then a + 1 else a
def flR (D S : List Int) (z p : Int) (a : Nat) (R : List Int) : List Int := if R = [] then rdL D p (mayAt S a) z else R
def flS (D S : List Int) (p : Int) (a : Nat) (R : List Int) : Int := if R = [] then rdSt D p (mayAt S a) else 0
theorem rdL_size (D : List Int) (p k N : Int) : (rdL D p k N).length ≤ D.length - p.toNat := by
  unfold rdL
  split
  · simp
  · rw [List.length_take, List.length_drop]; omega
theorem rdL_some {D : List Int} {p k N : Int} (h : rdSt D p k = 0) (hp : 0 ≤ p) (hN : 1 ≤ N) : 1 ≤ (rdL D p k N).length := by
  unfold rdSt at h
  split at h
  · omega
  · split at h
    · omega
    · split at h
      · omega
      · unfold rdL
        rw [if_neg (by omega), List.length_take, List.length_drop]
        omega
theorem rdSt_in (D : List Int) (p k : Int) : 0 ≤ rdSt D p k ∧ rdSt D p k ≤ 3 := by
  unfold rdSt
  repeat' split
  all_goals omega
theorem flS_in (D S : List Int) (p : Int) (a : Nat) (R : List Int) : 0 ≤ flS D S p a R ∧ flS D S p a R ≤ 3 := by
  unfold flS
  split
  · exact rdSt_in _ _ _
  · omega
/-- The reader's numbers are valid, and there is not too much of it. -/
def RdOk (D S : List Int) (p : Int) (a : Nat) (R : List Int) : Prop := validD D p S (a : Int) = true ∧ R.length + (D.length - p.toNat) ≤ 60
theorem fl_step {D S : List Int} {z p : Int} {a : Nat} {R : List Int} (hv : validD D p S (a : Int) = true) (ha : a < 1000) (hz : 1 ≤ z) :
    validD D (flP D S z p a R) S (flA a R : Int) = true ∧ (flR D S z p a R).length + (D.length - (flP D S z p a R).toNat) ≤ R.length + (D.length - p.toNat) ∧ (flS D S p a R = 0 → 1 ≤ (flR D S z p a R).length) ∧ flA a R ≤ a + 1 := by
  obtain ⟨_, _, _, ⟨hp0, _⟩, _⟩ := validD_iff.1 hv
  unfold flP flR flS flA
  by_cases h : R = []
  · subst h
    rw [if_pos rfl, if_pos rfl, if_pos rfl, if_pos rfl]
    refine ⟨validD_next hv ha hz, ?_, fun h => rdL_some h hp0 hz, by omega⟩
    have := rdL_size D p (mayAt S a) z
    simp
    omega
  · rw [if_neg h, if_neg h, if_neg h, if_neg h]
    exact ⟨hv, by omega, fun _ => List.length_pos_iff.2 h, by omega⟩

/-- A reader at work in block b, all its slices from block lo on; what is read ahead lies in the blocks M..C. -/
def LookAt (lo b : Nat) (A : Option Addr) (n c : Nat) (A' : Option Addr) (n' c' : Nat) (D S : List Int) (z p : Int) (a : Nat) (A2 : Option Addr) (n2 c2 M C : Nat) (R : List Int) (w : World) : Prop :=
  Box w b [.slice (A) n c, .int .i64 (p), .slice (A') n' c', .int .i64 ((a : Int)), .slice (A2) n2 c2, .int .i64 (z)] ∧ (Ints w lo b A n D ∧ Ints w lo b A' n' S ∧ Ints w M C A2 n2 R) ∧ (b < M ∨ C ≤ b) ∧ (lo ≤ b ∧ lo ≤ M ∧ C ≤ w.heap.size) ∧ (n ≤ c ∧ n2 ≤ c2) ∧ Apart A2 n2 A n ∧ Apart A2 n2 A' n'
theorem LookAt.below {lo b n c n' c' a n2 c2 M C B : Nat} {A A' A2 : Option Addr} {D S R : List Int} {z p : Int} {w w' : World} (h : LookAt lo b A n c A' n' c' D S z p a A2 n2 c2 M C R w) (hb : Below B w w') (hB : w.heap.size ≤ B) : LookAt lo b A n c A' n' c' D S z p a A2 n2 c2 M C R w' := by
  obtain ⟨h1, ⟨h2, h3, h4⟩, h5, ⟨h6, h7, h8⟩, h9⟩ := h
  have hl := h1.lt
  have hs := hb.size
  exact ⟨h1.below hb (by omega), ⟨h2.below hb (by omega), h3.below hb (by omega), h4.below hb (by omega)⟩, h5, ⟨h6, h7, by omega⟩, h9⟩

theorem LookAt.grown {lo b n c n' c' a n2 c2 M C : Nat} {A A' A2 : Option Addr} {D S R : List Int} {z p : Int} {w w' : World} {v : Value} (h : LookAt lo b A n c A' n' c' D S z p a A2 n2 c2 M C R w) (hg : w.grownBy w' v.ownBlock) (hc : ∀ k, v.ownBlock = some k → (k < M ∨ C ≤ k) ∧ b < k) : LookAt lo b A n c A' n' c' D S z p a A2 n2 c2 M C R w' := by
  obtain ⟨h1, ⟨h2, h3, h4⟩, h5, ⟨h6, h7, h8⟩, h9⟩ := h
  have hl := h1.lt
  have hs := hg.size
  have hk : ∀ k, k ≤ b → w'.heap[k]? = w.heap[k]? := fun k hk => hg.block k (by omega) (fun e => by have := (hc k e.symm).2; omega)
  exact ⟨h1.block (hk b (Nat.le_refl _)) hs, ⟨h2.blocks fun k _ h => hk k (by omega), h3.blocks fun k _ h => hk k (by omega), h4.blocks fun k g1 g2 => hg.block k (by omega) (fun e => by rcases (hc k e.symm).1 with h | h <;> omega)⟩, h5, ⟨h6, h7, by omega⟩, h9⟩

set_option maxHeartbeats 1000000 in
theorem fill_look {lo b n c n' c' a n2 c2 M C : Nat} {A A' A2 : Option Addr} {D S R : List Int} {z p : Int} {w : World} (h : LookAt lo b A n c A' n' c' D S z p a A2 n2 c2 M C R w) (hv : validD D p S (a : Int) = true) (ha : a < 1000) (hz : 1 ≤ z) (hz' : z ≤ 60) :
    Calls Try.prog 72 #[.pointer (some ⟨b, 0, none⟩)] w (fun e w' => ∃ A5 n5 c5 M' C', e = .returned (.int .i64 (flS D S p a R)) ∧ Turn w.heap.size b w w' ∧ LookAt lo b A n c A' n' c' D S z (flP D S z p a R) (flA a R) A5 n5 c5 M' C' (flR D S z p a R) w') := by
  obtain ⟨hX, ⟨hD, hS, hR⟩, hbM, ⟨hlo, hloM, hC⟩, ⟨hnc, hn2⟩, ha1, ha2⟩ := h
  have hbw := hX.lt
  by_cases h0 : n2 = 0
  · subst h0
    obtain rfl : R = [] := List.eq_nil_of_length_eq_zero hR.len.symm
    refine (fill_any hX hD hS (.inr (Nat.le_refl _)) (.inr (Nat.le_refl _)) (by omega) (by omega) hnc hv ha hz hz').mono ?_
    rintro e w' ⟨A1, n1, c1, rfl, hc1, ht, hi, hx⟩
    have hs := ht.size
    have hD' := hD.turn ht (by omega) (.inr (Nat.le_refl _))
    have hS' := hS.turn ht (by omega) (.inr (Nat.le_refl _))
    refine ⟨A1, n1, c1, w.heap.size, w'.heap.size, rfl, ht, ?_, ⟨hD', hS', hi⟩, .inl hbw, ⟨hlo, by omega, Nat.le_refl _⟩, ⟨hnc, hc1⟩, (Apart.of_le hD' hi (by omega)).symm, (Apart.of_le hS' hi (by omega)).symm⟩
    exact hx
  · have hne : ¬ R = [] := by rintro rfl; exact h0 hR.len
    have e1 : flS D S p a R = 0 := by unfold flS; rw [if_neg hne]
    have e2 : flP D S z p a R = p := by unfold flP; rw [if_neg hne]
    have e3 : flA a R = a := by unfold flA; rw [if_neg hne]
    have e4 : flR D S z p a R = R := by unfold flR; rw [if_neg hne]
    rw [e1, e2, e3, e4]
    refine (fill_full hX (by omega)).mono ?_
    rintro e w' ⟨rfl, rfl⟩
    exact ⟨A2, n2, c2, M, C, rfl, Turn.refl _ _ _, hX, ⟨hD, hS, hR⟩, hbM, ⟨hlo, hloM, hC⟩, ⟨hnc, hn2⟩, ha1, ha2⟩

/-- 'some' that gives bytes. -/
theorem some_ok {lo b n c n' c' a n2 c2 M C k : Nat} {A A' A2 : Option Addr} {D S R : List Int} {z p : Int} {w : World} (h : LookAt lo b A n c A' n' c' D S z p a A2 n2 c2 M C R w) (hv : validD D p S (a : Int) = true) (ha : a < 1000) (hz : 1 ≤ z) (hz' : z ≤ 60) (hk : k ≤ 1000000) (hst : flS D S p a R = 0) :
    Calls Try.prog 40 #[.pointer (some ⟨b, 0, none⟩), .int .i64 (k : Int)] w (fun e w' => ∃ A1 m A5 n5 c5 M' C', e = .returned (.tuple #[.slice A1 m m, .int .i64 0]) ∧ m = min k (flR D S z p a R).length ∧ Turn w.heap.size b w w' ∧
      LookAt lo b A n c A' n' c' D S z (flP D S z p a R) (flA a R) A5 n5 c5 M' C' ((flR D S z p a R).drop m) w' ∧ Ints w' M' C' A1 m ((flR D S z p a R).take m) ∧ Apart A1 m A5 n5 ∧ (Apart A1 m A n ∧ Apart A1 m A' n') ∧ ((M' = M ∧ C' = C) ∨ w.heap.size ≤ M')) := by
  obtain ⟨hX, ⟨hD, hS, hR⟩, hbM, ⟨hlo, hloM, hC⟩, ⟨hnc, hn2⟩, ha1, ha2⟩ := h
  have hbw := hX.lt
  by_cases h0 : n2 = 0
  · subst h0
    obtain rfl : R = [] := List.eq_nil_of_length_eq_zero hR.len.symm
    refine (some_read hX hD hS (.inr (Nat.le_refl _)) (.inr (Nat.le_refl _)) (by omega) (by omega) hnc hv ha hz hz' hst hk).mono ?_
    rintro e w' ⟨A1, A5, c5, n1, m, hm, rfl, hc5, ht, hn1, hi1, hi5, hx, hor, hfull⟩
    have hs := ht.size
    have hD' := hD.turn ht (by omega) (.inr (Nat.le_refl _))
    have hS' := hS.turn ht (by omega) (.inr (Nat.le_refl _))
    refine ⟨A1, m, A5, n1 - m, c5, w.heap.size, w'.heap.size, rfl, ?_, ht, ⟨hx, ⟨hD', hS', hi5⟩, .inl hbw, ⟨hlo, by omega, Nat.le_refl _⟩, ⟨hnc, hc5⟩, (Apart.of_le hD' hi5 (by omega)).symm, (Apart.of_le hS' hi5 (by omega)).symm⟩, hi1, ?_, ⟨(Apart.of_le hD' hi1 (by omega)).symm, (Apart.of_le hS' hi1 (by omega)).symm⟩, .inr (Nat.le_refl _)⟩
    · rw [hm, hn1]; rfl
    · rcases hor with h | h
      · rw [h]; exact Apart.zero
      · rw [h]; exact Apart.parts hfull (by omega)
  · have hne : ¬ R = [] := by rintro rfl; exact h0 hR.len
    have e2 : flP D S z p a R = p := by unfold flP; rw [if_neg hne]
    have e3 : flA a R = a := by unfold flA; rw [if_neg hne]
    have e4 : flR D S z p a R = R := by unfold flR; rw [if_neg hne]
    rw [e2, e3, e4]
    obtain ⟨m, hm⟩ : ∃ m, m = min k n2 := ⟨_, rfl⟩
    refine (some_full hX hR hbM (by omega) hn2 hm hk).mono ?_
    rintro e w' ⟨A5, c5, rfl, hc5, ht, hi1, hi5, hx, hor⟩
    have hs := ht.size
    have hD' := hD.turn ht (by omega) (.inr (Nat.le_refl _))
    have hS' := hS.turn ht (by omega) (.inr (Nat.le_refl _))
    have hp : Apart A5 (n2 - m) A n ∧ Apart A5 (n2 - m) A' n' ∧ Apart A2 m A5 (n2 - m) := by
      rcases hor with h | h
      · rw [h]; exact ⟨Apart.zero.symm, Apart.zero.symm, Apart.zero⟩
      · rw [h]; exact ⟨ha1.part2 hR (by omega), ha2.part2 hR (by omega), Apart.parts hR (by omega)⟩
    exact ⟨A2, m, A5, n2 - m, c5, M, C, rfl, by rw [hm, hR.len], ht, ⟨hx, ⟨hD', hS', hi5⟩, hbM, ⟨hlo, hloM, by omega⟩, ⟨hnc, hc5⟩, hp.1, hp.2.1⟩, hi1, hp.2.2, ⟨ha1.part1 (by omega), ha2.part1 (by omega)⟩, .inl ⟨rfl, rfl⟩⟩

/-- 'some' that gives none. -/
theorem some_no {lo b n c n' c' a n2 c2 M C k : Nat} {A A' A2 : Option Addr} {D S R : List Int} {z p : Int} {w : World} (h : LookAt lo b A n c A' n' c' D S z p a A2 n2 c2 M C R w) (hv : validD D p S (a : Int) = true) (ha : a < 1000) (hz : 1 ≤ z) (hz' : z ≤ 60) (hst : ¬ flS D S p a R = 0) :
    Calls Try.prog 40 #[.pointer (some ⟨b, 0, none⟩), .int .i64 (k : Int)] w (fun e w' => ∃ A5 n5 c5 M' C', e = .returned (.tuple #[.slice none 0 0, .int .i64 (flS D S p a R)]) ∧ Turn w.heap.size b w w' ∧
      LookAt lo b A n c A' n' c' D S z (flP D S z p a R) (flA a R) A5 n5 c5 M' C' (flR D S z p a R) w' ∧ w.heap.size ≤ M') := by
  obtain ⟨hX, ⟨hD, hS, hR⟩, hbM, ⟨hlo, hloM, hC⟩, ⟨hnc, hn2⟩, ha1, ha2⟩ := h
  have hbw := hX.lt
  have he : R = [] := by
    by_cases h : R = []
    · exact h
    · exact absurd (by unfold flS; rw [if_neg h]) hst
  subst he
  obtain rfl : n2 = 0 := hR.len
  refine (some_end hX hD hS (.inr (Nat.le_refl _)) (.inr (Nat.le_refl _)) (by omega) (by omega) hnc hv ha hz hz' hst).mono ?_
  rintro e w' ⟨A1, n1, c1, rfl, hc1, ht, hi, hx⟩
  have hs := ht.size
  have hD' := hD.turn ht (by omega) (.inr (Nat.le_refl _))
  have hS' := hS.turn ht (by omega) (.inr (Nat.le_refl _))
  exact ⟨A1, n1, c1, w.heap.size, w'.heap.size, rfl, ht, ⟨hx, ⟨hD', hS', hi⟩, .inl hbw, ⟨hlo, by omega, Nat.le_refl _⟩, ⟨hnc, hc1⟩, (Apart.of_le hD' hi (by omega)).symm, (Apart.of_le hS' hi (by omega)).symm⟩, Nat.le_refl _⟩
end Go.Proofs.Ytmjmplfhedknhaa
