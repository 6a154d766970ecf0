/- Plain facts about what the device functions give, and contracts that say it in another way. -/
import Derived.Test.YtdiebkaedjlckaaG1
import Derived.Test.YtdiebkaedjlckaaC1g
import Derived.Test.YtdiebkaedjlckaaC1h
import Derived.Test.YtdiebkaedjlckaaC1i
import Derived.Test.YtdiebkaedjlckaaC1j
import Derived.Test.YtdiebkaedjlckaaS1e
import Derived.Test.YtdiebkaedjlckaaS1f
import Derived.Test.YtdiebkaedjlckaaS1h
import Derived.Test.YtdiebkaedjlckaaS1i
import Derived.Test.YtdiebkaedjlckaaS1j
import Derived.Test.YtdiebkaedjlckaaS1c
import Derived.IntWalk
namespace Go.Proofs.Ytdiebkaedjlckaa
open Go.ChangeShapes Go.WideShapes Go.ChangeAt Go.RowKit
set_option linter.unusedSimpArgs false
set_option linter.unusedVariables false

theorem Ints.gone {w : World} {lo hi n a : Nat} {A : Option Addr} {xs : List Int} (h : Ints w lo hi A n xs) (hz : n ≤ a) (A' : Option Addr) : Ints w lo hi A' (n - a) (xs.drop a) := by
  have hl := h.len
  have e : xs.drop a = [] := List.drop_eq_nil_of_le (by omega)
  rw [e, Nat.sub_eq_zero_of_le hz]
  exact (Ints.nil w lo hi 0 A').1
theorem Ints.gone0 {w : World} {lo hi n a : Nat} {A : Option Addr} {xs : List Int} (h : Ints w lo hi A n xs) (hz : n ≤ a) (A' : Option Addr) : Ints w lo hi A' 0 (xs.drop a) := by
  have g := h.gone hz A'
  rw [Nat.sub_eq_zero_of_le hz] at g
  exact g
theorem to_post2 {f : Nat} {args : Array Value} {w : World} {a b : Dv × Bool} (h : Calls Try.prog f args w (Post2 a w)) (e : a = b) : Calls Try.prog f args w (Post2 b w) := e ▸ h
/-- A device of these numbers and a bool, in new memory. -/
def PostDB (D : List Int) (p : Int) (S : List Int) (q : Int) (b : Bool) (w : World) (e : Ending) (w' : World) : Prop :=
  ∃ A n c A' n' c', e = .returned (.tuple #[.agg #[.slice (A) n c, .int .i64 (p), .slice (A') n' c', .int .i64 (q)], .bool b]) ∧ (n ≤ c ∧ n' ≤ c') ∧ Below w.heap.size w w' ∧ DevIn w' w.heap.size w'.heap.size A n A' n' D p S q
/-- A device of these numbers, these ints and an int, in new memory. -/
def PostDLI (D : List Int) (p : Int) (S : List Int) (q : Int) (L : List Int) (z : Int) (w : World) (e : Ending) (w' : World) : Prop :=
  ∃ A n c A' n' c' A1 n1 c1, e = .returned (.tuple #[.agg #[.slice (A) n c, .int .i64 (p), .slice (A') n' c', .int .i64 (q)], .slice A1 n1 c1, .int .i64 z]) ∧ (n ≤ c ∧ n' ≤ c' ∧ n1 ≤ c1) ∧ Below w.heap.size w w' ∧
    DevIn w' w.heap.size w'.heap.size A n A' n' D p S q ∧ Ints w' w.heap.size w'.heap.size A1 n1 L
theorem to_db {f : Nat} {args : Array Value} {w : World} {a : Dv × Bool} {D S : List Int} {p q : Int} {b : Bool} (h : Calls Try.prog f args w (Post2 a w)) (e : a = (⟨D, p, S, q⟩, b)) : Calls Try.prog f args w (PostDB D p S q b w) := by
  subst e
  exact h
theorem to_dli {f : Nat} {args : Array Value} {w : World} {a : Dv × List Int × Int} {D S L : List Int} {p q z : Int} (h : Calls Try.prog f args w (Post3 a w)) (e : a = (⟨D, p, S, q⟩, L, z)) : Calls Try.prog f args w (PostDLI D p S q L z w) := by
  subst e
  refine h.mono fun e w' hh => ?_
  obtain ⟨A, n, c, A', n', c', A1, n1, c1, h1, h2, h3, h4, h5, _⟩ := hh
  exact ⟨A, n, c, A', n', c', A1, n1, c1, h1, h2, h3, h4, h5⟩
theorem to_post3 {f : Nat} {args : Array Value} {w : World} {a b : Dv × List Int × Int} (h : Calls Try.prog f args w (Post3 a w)) (e : a = b) : Calls Try.prog f args w (Post3 b w) := e ▸ h
theorem to_list {f : Nat} {args : Array Value} {w : World} {a b : List Int} (h : Calls Try.prog f args w (ListPost a w)) (e : a = b) : Calls Try.prog f args w (ListPost b w) := e ▸ h
theorem to_bool {f : Nat} {args : Array Value} {w : World} {a b : Bool} (h : Calls Try.prog f args w (BoolB a w)) (e : a = b) : Calls Try.prog f args w (BoolB b w) := e ▸ h
theorem to_int {f : Nat} {args : Array Value} {w : World} {a b : Int} (h : Calls Try.prog f args w (IntB a w)) (e : a = b) : Calls Try.prog f args w (IntB b w) := e ▸ h

theorem valid_new {D S : List Int} {p q : Int} (h : validD D p S q = true) : validD D 0 S 0 = true := by
  rw [validD_iff] at h ⊢
  exact ⟨h.1, h.2.1, h.2.2.1, by omega, by omega⟩
theorem new_of {D S : List Int} {p q : Int} (h : validD D p S q = true) : newOut D S = (⟨D, 0, S, 0⟩, true) := by
  unfold newOut
  rw [if_pos (valid_new h)]
theorem new_no {D S : List Int} (h : validD D 0 S 0 = false) : newOut D S = (⟨[], 0, [], 0⟩, false) := by
  unfold newOut
  rw [if_neg (by simp [h])]
  rfl
theorem new_yes {D S : List Int} (h : validD D 0 S 0 = true) : newOut D S = (⟨D, 0, S, 0⟩, true) := new_of h
theorem new_ok {D S : List Int} (h : (newOut D S).2 = true) : validD D 0 S 0 = true ∧ newOut D S = (⟨D, 0, S, 0⟩, true) := by
  unfold newOut at h ⊢
  by_cases hv : validD D 0 S 0 = true
  · rw [if_pos hv]; exact ⟨hv, rfl⟩
  · rw [if_neg hv] at h; cases h
theorem rest_new {D S : List Int} (h : validD D 0 S 0 = true) : restL D 0 S 0 = D := by simp [restL, h]

/-! ReadDevice -/
theorem rd_ok {D S : List Int} {p q N : Int} (h : ¬ (rdOut D p S q N).2.2 = 5) : rdGood D p S q N = true := by
  unfold rdOut at h
  split at h
  · assumption
  · exact absurd rfl h
theorem rd_of {D S : List Int} {p q N : Int} (h : rdGood D p S q N = true) : rdOut D p S q N = (⟨D, p + ((rdL D p (mayAt S q.toNat) N).length : Int), S, q + 1⟩, rdL D p (mayAt S q.toNat) N, rdSt D p (mayAt S q.toNat)) := by
  unfold rdOut
  rw [if_pos h]
theorem rd_no {D S : List Int} {p q N : Int} (h : rdGood D p S q N = false) : rdOut D p S q N = (⟨[], 0, [], 0⟩, [], 5) := by
  unfold rdOut
  rw [if_neg (by simp [h])]
  rfl
/-- How a good call ended, and with what. -/
theorem rd_how {D S : List Int} {p q N : Int} (h : rdGood D p S q N = true) : ∃ st, rdSt D p (mayAt S q.toNat) = st ∧
    ((st = 0 ∧ 0 < (rdL D p (mayAt S q.toNat) N).length) ∨ (st = 1 ∧ (rdL D p (mayAt S q.toNat) N).length = 0 ∧ (D.length : Int) ≤ p) ∨ ((st = 2 ∨ st = 3) ∧ (rdL D p (mayAt S q.toNat) N).length = 0)) := by
  obtain ⟨hv, hq, h1, h2⟩ := rdGood_iff.1 h
  have hp := (validD_iff.1 hv).2.2.2.1
  refine ⟨_, rfl, ?_⟩
  unfold rdSt rdL
  by_cases hk : mayAt S q.toNat < 0
  · rw [if_pos hk, if_pos (show mayAt S q.toNat < 1 by omega)]
    exact Or.inr (Or.inr ⟨Or.inr rfl, rfl⟩)
  · rw [if_neg hk]
    by_cases hk0 : mayAt S q.toNat = 0
    · rw [if_pos hk0, if_pos (show mayAt S q.toNat < 1 by omega)]
      exact Or.inr (Or.inr ⟨Or.inl rfl, rfl⟩)
    · rw [if_neg hk0, if_neg (show ¬ mayAt S q.toNat < 1 by omega)]
      by_cases hd : (D.length : Int) ≤ p
      · rw [if_pos hd]
        exact Or.inr (Or.inl ⟨rfl, by rw [List.length_take, List.length_drop]; omega, hd⟩)
      · rw [if_neg hd]
        exact Or.inl ⟨rfl, by rw [List.length_take, List.length_drop]; omega⟩
theorem rdL_pre (D : List Int) (p k N : Int) : (rdL D p k N).isPrefixOf (D.drop p.toNat) = true := by
  unfold rdL
  split
  · rfl
  · exact List.isPrefixOf_iff_prefix.2 (List.take_prefix _ _)
theorem rdL_le (D : List Int) (p k N : Int) (hN : 0 ≤ N) : ((rdL D p k N).length : Int) ≤ N := by
  unfold rdL
  split
  · simpa using hN
  · rw [List.length_take]; omega
theorem valid_read {D S : List Int} {p q k N : Int} (h : validD D p S q = true) (hq : q < 1000) : validD D (p + ((rdL D p k N).length : Int)) S (q + 1) = true := by
  rw [validD_iff] at h ⊢
  obtain ⟨hb, h1, h2, h3, h4⟩ := h
  have hl := bytesB_le hb
  refine ⟨hb, h1, h2, ?_, by omega⟩
  have : (rdL D p k N).length ≤ D.length - p.toNat := by
    unfold rdL
    split
    · simp
    · rw [List.length_take, List.length_drop]; omega
  omega
theorem rest_read {D S : List Int} {p q k N : Int} (h : validD D p S q = true) (hq : q < 1000) : restL D (p + ((rdL D p k N).length : Int)) S (q + 1) = (D.drop p.toNat).drop (rdL D p k N).length := by
  have hp := (validD_iff.1 h).2.2.2.1
  unfold restL
  rw [if_pos (valid_read h hq), List.drop_drop]
  congr 1
  omega
theorem rest_none {D S : List Int} {p q : Int} (h : validD D p S q = false) : restL D p S q = [] := by simp [restL, h]
theorem join_rest {D : List Int} {n a r : Nat} (h : n = D.length) (hr : r = n - a) : D.take (n - r) ++ D.drop a = D := by
  have e : D.take (n - r) = D.take a := take_same (by omega)
  rw [e]
  simp
theorem rest_of {D S : List Int} {p q : Int} (h : validD D p S q = true) : restL D p S q = D.drop p.toNat := by simp [restL, h]

/-! SeekDevice -/
theorem seek_no {D S : List Int} {p q off wh : Int} (h : (seekOut D p S q off wh).2 = false) : seekOut D p S q off wh = (⟨[], 0, [], 0⟩, false) := by
  unfold seekOut at h ⊢
  split
  · rw [if_pos ‹_›] at h; cases h
  · rfl
theorem seekAt_of {size now off wh t : Int} (h : seekAt size now off wh = some t) : (-60 ≤ off ∧ off ≤ 60) ∧ (0 ≤ wh ∧ wh ≤ 2) ∧ (0 ≤ t ∧ t ≤ 60) ∧ t = (if wh = 1 then now + off else if wh = 2 then size + off else off) := by
  unfold seekAt at h
  generalize (if wh = 1 then now + off else if wh = 2 then size + off else off) = u at h ⊢
  split at h
  · rename_i h1
    split at h
    · rename_i h2
      injection h with h
      subst h
      obtain ⟨h3, h4⟩ := Bool.and_eq_true_iff.1 h1
      exact ⟨inB_iff.1 h3, inB_iff.1 h4, inB_iff.1 h2, rfl⟩
    · cases h
  · cases h
theorem seek_yes {D S : List Int} {p q off wh : Int} (h : (seekOut D p S q off wh).2 = true) : ∃ t, seekOut D p S q off wh = (⟨D, t, S, q⟩, true) ∧ validD D p S q = true ∧ (0 ≤ t ∧ t ≤ 60) ∧ t = (if wh = 1 then p + off else if wh = 2 then (D.length : Int) + off else off) := by
  unfold seekOut at h ⊢
  split at h
  · rename_i h1
    obtain ⟨h2, h3⟩ := Bool.and_eq_true_iff.1 h1
    obtain ⟨t, ht⟩ := Option.isSome_iff_exists.1 h3
    rw [if_pos h1, ht]
    obtain ⟨_, _, h4, h5⟩ := seekAt_of ht
    exact ⟨t, rfl, h2, h4, h5⟩
  · cases h
theorem seek_start {D S : List Int} {p q t : Int} (hv : validD D p S q = true) (h0 : 0 ≤ t) (h1 : t ≤ 60) : seekOut D p S q t 0 = (⟨D, t, S, q⟩, true) := by
  have e : seekAt D.length p t 0 = some t := by
    have i1 : inB t (-60) 60 = true := inB_true (by omega) h1
    have i2 : inB t 0 60 = true := inB_true h0 h1
    simp [seekAt, inB]
    omega
  unfold seekOut
  rw [e, if_pos (by simp [hv, seekOk])]
  rfl

/-! CutDevice -/
theorem cut_no {D S : List Int} {p q z : Int} (h : (cutOut D p S q z).2 = false) : cutOut D p S q z = (⟨[], 0, [], 0⟩, false) := by
  unfold cutOut at h ⊢
  split
  · rw [if_pos ‹_›] at h; cases h
  · rfl
theorem cut_yes {D S : List Int} {p q z : Int} (h : (cutOut D p S q z).2 = true) : ∃ m : Nat, z = (m : Int) ∧ m ≤ 60 ∧ cutOut D p S q z = (⟨cutL D m, p, S, q⟩, true) ∧ validD D p S q = true := by
  unfold cutOut at h ⊢
  split at h
  · rename_i h1
    obtain ⟨h2, h3⟩ := Bool.and_eq_true_iff.1 h1
    obtain ⟨h4, h5⟩ := inB_iff.1 h3
    obtain ⟨m, rfl⟩ := Int.eq_ofNat_of_zero_le h4
    rw [if_pos h1]
    exact ⟨m, rfl, by omega, rfl, h2⟩
  · cases h

theorem cutL_tail {D : List Int} {m j : Nat} {v : Int} (h : D.length ≤ j) (hv : (cutL D m)[j]? = some v) : v = 0 := by
  unfold cutL at hv
  rw [List.getElem?_append_right (by rw [List.length_take]; omega)] at hv
  exact List.eq_of_mem_replicate (List.mem_of_getElem? hv)
theorem cutL_pre (D : List Int) {k m : Nat} (h : k ≤ m) : (D.take k).isPrefixOf (cutL D m) = true := by
  rw [List.isPrefixOf_iff_prefix]
  exact (List.take_prefix_take_left h).trans (List.prefix_append _ _)

/-! IsSmooth -/
theorem smooth_at {S : List Int} {a : Nat} (h : smoothB S a = true) : 1 ≤ mayAt S a := by
  rw [smoothB_iff] at h
  unfold mayAt
  rw [List.getD_eq_getElem?_getD]
  cases e : S[a]? with
  | none => simp
  | some x => exact h a x (Nat.le_refl _) e
theorem smooth_next {S : List Int} {a : Nat} (h : smoothB S a = true) : smoothB S (a + 1) = true := by
  rw [smoothB_iff] at h ⊢
  exact fun j x hj hx => h j x (by omega) hx

/-! CallsToEnd -/
theorem ctGo_shift (D S : List Int) (N : Int) : ∀ (f : Nat) (p : Int) (a : Nat) (k : Int), 0 ≤ k → (ctGo D S N f p a k = -1 ∧ ctGo D S N f p a (k + 1) = -1) ∨ (ctGo D S N f p a (k + 1) = ctGo D S N f p a k + 1 ∧ k ≤ ctGo D S N f p a k ∧ ctGo D S N f p a k ≤ k + f) := by
  intro f
  induction f with
  | zero => intro p a k hk; exact Or.inl ⟨rfl, rfl⟩
  | succ f ih =>
    intro p a k hk
    unfold ctGo
    split
    · exact Or.inr ⟨rfl, by omega, by omega⟩
    · rcases ih (p + ((rdL D p (mayAt S a) N).length : Int)) (a + 1) (k + 1) (by omega) with h | h
      · exact Or.inl h
      · exact Or.inr ⟨h.1, by omega, by omega⟩
theorem ctGo_smooth (D S : List Int) (N : Int) (hN : 1 ≤ N) : ∀ (f : Nat) (p : Int) (a : Nat) (k : Int), 0 ≤ p → 0 ≤ k → smoothB S a = true → ctGo D S N f p a k ≤ k + ((D.length - p.toNat : Nat) : Int) := by
  intro f
  induction f with
  | zero => intro p a k hp hk hs; show (-1 : Int) ≤ _; omega
  | succ f ih =>
    intro p a k hp hk hs
    unfold ctGo
    split
    · omega
    · rename_i hst
      have h1 := smooth_at hs
      have hpl : ¬ (D.length : Int) ≤ p := by
        intro h
        apply hst
        unfold rdSt
        rw [if_neg (show ¬ mayAt S a < 0 by omega), if_neg (show ¬ mayAt S a = 0 by omega), if_pos h]
      have hlen : 1 ≤ (rdL D p (mayAt S a) N).length := by
        unfold rdL
        rw [if_neg (show ¬ mayAt S a < 1 by omega), List.length_take, List.length_drop]
        omega
      have h2 := ih (p + ((rdL D p (mayAt S a) N).length : Int)) (a + 1) (k + 1) (by omega) (by omega) (smooth_next hs)
      have hle : (rdL D p (mayAt S a) N).length ≤ D.length - p.toNat := by
        unfold rdL
        rw [if_neg (show ¬ mayAt S a < 1 by omega), List.length_take, List.length_drop]
        omega
      omega
theorem ct_ok {D S : List Int} {p q N : Int} (h : ¬ ctOut D p S q N < 0) : rdGood D p S q N = true ∧ ∃ f, 1000 - q.toNat = f + 1 ∧ ctOut D p S q N = (if rdSt D p (mayAt S q.toNat) = 1 then 1 else ctGo D S N f (p + ((rdL D p (mayAt S q.toNat) N).length : Int)) (q.toNat + 1) 2) := by
  unfold ctOut at h ⊢
  split at h
  · rename_i h1
    rw [if_pos h1]
    obtain ⟨hv, hN⟩ := Bool.and_eq_true_iff.1 h1
    have hq := (validD_iff.1 hv).2.2.2.2
    cases hf : 1000 - q.toNat with
    | zero => rw [hf] at h; exact absurd (show ctGo D S N 0 p q.toNat 1 < 0 by show (-1 : Int) < 0; omega) h
    | succ f => exact ⟨rdGood_iff.2 ⟨hv, by omega, (inB_iff.1 hN).1, (inB_iff.1 hN).2⟩, f, rfl, rfl⟩
  · exact absurd (by omega) h
/-- One call less. -/
theorem ct_next {D S : List Int} {p q N : Int} (h : ¬ ctOut D p S q N < 0) (hs : ¬ rdSt D p (mayAt S q.toNat) = 1) :
    ctOut D (p + ((rdL D p (mayAt S q.toNat) N).length : Int)) S (q + 1) N = ctOut D p S q N - 1 ∧ ctOut D p S q N ≤ 2000 := by
  obtain ⟨hg, f, hf, e⟩ := ct_ok h
  obtain ⟨hv, hq, h1, h2⟩ := rdGood_iff.1 hg
  have hq0 := (validD_iff.1 hv).2.2.2.2
  rw [if_neg hs] at e
  have hn : ctOut D (p + ((rdL D p (mayAt S q.toNat) N).length : Int)) S (q + 1) N = ctGo D S N f (p + ((rdL D p (mayAt S q.toNat) N).length : Int)) (q.toNat + 1) 1 := by
    unfold ctOut
    rw [if_pos (by rw [valid_read hv hq, inB_true h1 h2]; rfl), show (q + 1).toNat = q.toNat + 1 by omega, show 1000 - (q.toNat + 1) = f by omega]
  rw [hn, e]
  rw [e] at h
  rcases ctGo_shift D S N f (p + ((rdL D p (mayAt S q.toNat) N).length : Int)) (q.toNat + 1) 1 (by omega) with h3 | h3
  · exact absurd (by have := h3.2; simp only [Int.reduceAdd] at this; omega) h
  · have h4 := h3.1
    simp only [Int.reduceAdd] at h4
    omega
theorem ct_end {D S : List Int} {p q N : Int} (h : ¬ ctOut D p S q N < 0) (hs : rdSt D p (mayAt S q.toNat) = 1) : ctOut D p S q N = 1 := by
  obtain ⟨_, _, _, e⟩ := ct_ok h
  rw [e, if_pos hs]
theorem ct_smooth {D S : List Int} {p q N : Int} (h : ¬ ctOut D p S q N < 0) (hs : smoothB S q.toNat = true) : ctOut D p S q N ≤ ((D.drop p.toNat).length : Int) + 1 := by
  obtain ⟨hg, _⟩ := ct_ok h
  obtain ⟨hv, hq, h1, h2⟩ := rdGood_iff.1 hg
  have hp := (validD_iff.1 hv).2.2.2.1
  unfold ctOut
  rw [if_pos (by rw [hv, inB_true h1 h2]; rfl), List.length_drop]
  have := ctGo_smooth D S N h1 (1000 - q.toNat) p q.toNat 1 (by omega) (by omega) hs
  omega
end Go.Proofs.Ytdiebkaedjlckaa
