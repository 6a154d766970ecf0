/- What a flush leaves: plain facts. -/
import Derived.Test.YtdiebkaedjlckaaDoorC3a
import Derived.Test.YtdiebkaedjlckaaDoorC1k
namespace Go.Proofs.YtdiebkaedjlckaaDoor
open Go.ChangeShapes Go.WideShapes Go.ChangeAt Go.RowKit
set_option linter.unusedSimpArgs false
set_option linter.unusedVariables false
set_option maxRecDepth 10000

def endSt (st : Int) : Prop := st = 0 ∨ st = 2 ∨ st = 3 ∨ st = 4
/-- What a flush leaves. -/
structure Fv where
  d : List Int
  p : Int
  q : Nat
  r : List Int
  st : Int
/-- A flush with at most f calls. -/
def fuGo (S : List Int) : Nat → List Int → Int → Nat → List Int → Fv
  | 0, D, p, q, R => ⟨D, p, q, R, 0⟩
  | f + 1, D, p, q, R => if R = [] then ⟨D, p, q, R, 0⟩ else if wrSt p (mayAt S q) = 0 then fuGo S f (wrL D p.toNat (R.take (wrM p (mayAt S q) R.length))) (p + ((wrM p (mayAt S q) R.length : Nat) : Int)) (q + 1) (R.drop (wrM p (mayAt S q) R.length)) else ⟨D, p, q + 1, R, wrSt p (mayAt S q)⟩
theorem fuGo_nil (S : List Int) (f : Nat) (D : List Int) (p : Int) (q : Nat) : fuGo S f D p q [] = ⟨D, p, q, [], 0⟩ := by cases f <;> simp [fuGo]
theorem wrM_ok {p k : Int} {n : Nat} (h : wrSt p k = 0) (hp : 0 ≤ p) (hn : 1 ≤ n) : 1 ≤ wrM p k n ∧ wrM p k n ≤ n ∧ p + ((wrM p k n : Nat) : Int) ≤ 60 := by
  unfold wrSt at h
  by_cases h1 : k < 0
  · rw [if_pos h1] at h; omega
  rw [if_neg h1] at h
  by_cases h2 : k = 0
  · rw [if_pos h2] at h; omega
  rw [if_neg h2] at h
  by_cases h3 : 60 ≤ p
  · rw [if_pos h3] at h; omega
  unfold wrM
  rw [if_neg (by omega)]
  omega
theorem wrM_no {p k : Int} {n : Nat} (h : ¬ wrSt p k = 0) : wrM p k n = 0 := by
  unfold wrSt at h
  unfold wrM
  by_cases h1 : k < 1
  · rw [if_pos h1]
  rw [if_neg h1]
  rw [if_neg (by omega), if_neg (by omega)] at h
  by_cases h3 : 60 ≤ p
  · omega
  · rw [if_neg h3] at h; omega
theorem wrSt_end (p k : Int) : endSt (wrSt p k) := by
  unfold endSt wrSt
  split
  · omega
  split
  · omega
  split <;> omega
theorem allB_iff {xs : List Int} {lo hi : Int} : allB xs lo hi = true ↔ ∀ x ∈ xs, lo ≤ x ∧ x ≤ hi := by
  unfold allB
  rw [List.all_eq_true]
  exact ⟨fun h x hx => inB_iff.1 (h x hx), fun h x hx => inB_iff.2 (h x hx)⟩
theorem wrL_bytes {D L : List Int} {a : Nat} (h : bytesB D = true) (h' : allB L 0 255 = true) (ha : a + L.length ≤ 60) : bytesB (wrL D a L) = true := by
  by_cases h0 : L = []
  · rw [h0]; simpa [wrL] using h
  have h1 := List.length_pos_iff.2 h0
  have h2 := bytesB_le h
  have h3 := allB_iff.1 (bytesB_all h)
  have h4 := allB_iff.1 h'
  unfold bytesB
  rw [Bool.and_eq_true]
  refine ⟨decide_eq_true (by rw [wrL_len h1]; omega), allB_iff.2 fun x hx => ?_⟩
  unfold wrL at hx
  rw [if_neg h0] at hx
  rcases List.mem_append.1 hx with h | h
  · exact h3 x (List.mem_of_mem_take h)
  · rcases List.mem_append.1 h with h | h
    · rw [List.eq_of_mem_replicate h]; omega
    · rcases List.mem_append.1 h with h | h
      · exact h4 x h
      · exact h3 x (List.mem_of_mem_drop h)
theorem allB_take {R : List Int} (h : allB R 0 255 = true) (m : Nat) : allB (R.take m) 0 255 = true := allB_iff.2 fun x hx => allB_iff.1 h x (List.mem_of_mem_take hx)
theorem allB_drop {R : List Int} (h : allB R 0 255 = true) (m : Nat) : allB (R.drop m) 0 255 = true := allB_iff.2 fun x hx => allB_iff.1 h x (List.mem_of_mem_drop hx)
/-- A call of a flush that ends well leaves a valid device. -/
theorem fu_valid {D S R : List Int} {p k : Int} {q : Nat} (hv : validD D p S (q : Int) = true) (hR : allB R 0 255 = true) (hst : wrSt p k = 0) (h1 : 1 ≤ R.length) (hq : q + 1 ≤ 1000) :
    validD (wrL D p.toNat (R.take (wrM p k R.length))) (p + ((wrM p k R.length : Nat) : Int)) S ((q + 1 : Nat) : Int) = true := by
  obtain ⟨hb, hs, hsa, ⟨hp0, hp1⟩, _⟩ := validD_iff.1 hv
  obtain ⟨m1, m2, m3⟩ := wrM_ok hst hp0 h1
  refine validD_iff.2 ⟨wrL_bytes hb (allB_take hR _) ?_, hs, hsa, ⟨by omega, m3⟩, by omega, by omega⟩
  rw [List.length_take]
  omega
theorem valid_step {D S : List Int} {p q q' : Int} (hv : validD D p S q = true) (h0 : 0 ≤ q') (h1 : q' ≤ 1000) : validD D p S q' = true := by
  obtain ⟨hb, hs, hsa, hp, _⟩ := validD_iff.1 hv
  exact validD_iff.2 ⟨hb, hs, hsa, hp, h0, h1⟩
/-- What a flush leaves of a valid writer. -/
theorem fuGo_valid {S : List Int} : ∀ (f : Nat) (D : List Int) (p : Int) (q : Nat) (R : List Int), validD D p S (q : Int) = true → allB R 0 255 = true → q + f ≤ 1000 →
    validD (fuGo S f D p q R).d (fuGo S f D p q R).p S ((fuGo S f D p q R).q : Int) = true ∧ allB (fuGo S f D p q R).r 0 255 = true ∧ (fuGo S f D p q R).r.length ≤ R.length ∧ (fuGo S f D p q R).q ≤ q + f ∧ endSt (fuGo S f D p q R).st
  | 0, D, p, q, R, hv, hR, _ => ⟨hv, hR, Nat.le_refl _, Nat.le_refl _, .inl rfl⟩
  | f + 1, D, p, q, R, hv, hR, hq => by
    unfold fuGo
    by_cases h0 : R = []
    · rw [if_pos h0]
      exact ⟨hv, hR, Nat.le_refl _, by show q ≤ _; omega, .inl rfl⟩
    · rw [if_neg h0]
      by_cases hst : wrSt p (mayAt S q) = 0
      · rw [if_pos hst]
        have h1 := List.length_pos_iff.2 h0
        obtain ⟨i1, i2, i3, i4, i5⟩ := fuGo_valid f _ _ (q + 1) _ (fu_valid hv hR hst h1 (by omega)) (allB_drop hR (wrM p (mayAt S q) R.length)) (by omega)
        refine ⟨i1, i2, Nat.le_trans i3 (by rw [List.length_drop]; omega), by omega, i5⟩
      · rw [if_neg hst]
        exact ⟨valid_step hv (by show (0 : Int) ≤ ((q + 1 : Nat) : Int); omega) (by show ((q + 1 : Nat) : Int) ≤ 1000; omega), hR, Nat.le_refl _, by show q + 1 ≤ _; omega, wrSt_end _ _⟩

theorem Ints.droppedW {w : World} {lo hi n a : Nat} {A : Option Addr} {xs : List Int} (h : Ints w lo hi A n xs) (hz : n ≤ a) (A' : Option Addr) : Ints w lo hi A' (n - a) (xs.drop a) := by
  have hl := h.len
  rw [show n - a = 0 by omega, List.drop_of_length_le (by omega)]
  exact (Ints.nil _ _ _ 0 _).1
/-- A writer at work in box b: its device's bytes in M..C, what it has in M2..C2. -/
def BackAt (lo b : Nat) (A : Option Addr) (n c : Nat) (A' : Option Addr) (n' c' : Nat) (D S : List Int) (z p : Int) (q : Nat) (A2 : Option Addr) (n2 c2 : Nat) (R : List Int) (M C M2 C2 : Nat) (w : World) : Prop :=
  Box w b [.slice (A) n c, .int .i64 (p), .slice (A') n' c', .int .i64 ((q : Int)), .slice (A2) n2 c2, .int .i64 (z)] ∧ (Ints w M C A n D ∧ Ints w lo b A' n' S ∧ Ints w M2 C2 A2 n2 R) ∧ ((b < M ∨ C ≤ b) ∧ (b < M2 ∨ C2 ≤ b)) ∧ (lo ≤ b ∧ lo ≤ M ∧ lo ≤ M2 ∧ C ≤ w.heap.size ∧ C2 ≤ w.heap.size ∧ M ≤ w.heap.size) ∧ (n ≤ c ∧ n2 ≤ c2) ∧ (Apart A n A' n' ∧ Apart A2 n2 A n ∧ Apart A2 n2 A' n')
theorem BackAt.below {lo b n c n' c' q n2 c2 M C M2 C2 B : Nat} {A A' A2 : Option Addr} {D S R : List Int} {z p : Int} {w w' : World} (h : BackAt lo b A n c A' n' c' D S z p q A2 n2 c2 R M C M2 C2 w) (hb : Below B w w') (hB : w.heap.size ≤ B) : BackAt lo b A n c A' n' c' D S z p q A2 n2 c2 R M C M2 C2 w' := by
  obtain ⟨h1, ⟨h2, h3, h4⟩, h5, ⟨h6, h7, h8, h9, h10, hms⟩, h11⟩ := h
  have hl := h1.lt
  have hs := hb.size
  exact ⟨h1.below hb (by omega), ⟨h2.below hb (by omega), h3.below hb (by omega), h4.below hb (by omega)⟩, h5, ⟨h6, h7, h8, by omega, by omega, by omega⟩, h11⟩
/-- A store into another box. -/
theorem BackAt.set_ {lo b n c n' c' q n2 c2 M C M2 C2 k o : Nat} {A A' A2 : Option Addr} {D S R : List Int} {z p : Int} {w : World} (h : BackAt lo b A n c A' n' c' D S z p q A2 n2 c2 R M C M2 C2 w) (hk : b < k) (hkM : k < M ∨ C ≤ k) (hkM2 : k < M2 ∨ C2 ≤ k) (u : Value) : BackAt lo b A n c A' n' c' D S z p q A2 n2 c2 R M C M2 C2 (w.setCell ⟨k, o, none⟩ u) := by
  obtain ⟨h1, ⟨h2, h3, h4⟩, h5, ⟨h6, h7, h8, h9, h10, hms⟩, h11⟩ := h
  exact ⟨h1.set_ (by omega) _, ⟨h2.set_ hkM _, h3.set_ (by omega) _, h4.set_ hkM2 _⟩, h5, ⟨h6, h7, h8, by simpa using h9, by simpa using h10, by simpa using hms⟩, h11⟩
end Go.Proofs.YtdiebkaedjlckaaDoor
