/- Plain facts about what WriteDevice gives, and its contract said in another way. -/
import Derived.Test.YtdiebkaedjlckaaG2
import Derived.Test.YtdiebkaedjlckaaS1l
namespace Go.Proofs.Ytdiebkaedjlckaa
open Go.ChangeShapes Go.WideShapes Go.ChangeAt Go.RowKit
set_option linter.unusedSimpArgs false
set_option linter.unusedVariables false

/-- A device of these numbers and two ints, in new memory. -/
def PostDII (D : List Int) (p : Int) (S : List Int) (q z1 z2 : Int) (w : World) (e : Ending) (w' : World) : Prop :=
  ∃ A n c A' n' c', e = .returned (.tuple #[.agg #[.slice (A) n c, .int .i64 (p), .slice (A') n' c', .int .i64 (q)], .int .i64 z1, .int .i64 z2]) ∧ (n ≤ c ∧ n' ≤ c') ∧ Below w.heap.size w w' ∧ DevIn w' w.heap.size w'.heap.size A n A' n' D p S q
theorem to_dii {f : Nat} {args : Array Value} {w : World} {a : Dv × Int × Int} {D S : List Int} {p q z1 z2 : Int} (h : Calls Try.prog f args w (Post4 a w)) (e : a = (⟨D, p, S, q⟩, z1, z2)) : Calls Try.prog f args w (PostDII D p S q z1 z2 w) := by
  subst e
  refine h.mono fun e w' hh => ?_
  obtain ⟨A, n, c, A', n', c', h1, h2, h3, h4, _⟩ := hh
  exact ⟨A, n, c, A', n', c', h1, h2, h3, h4⟩
theorem wr_no {D S L : List Int} {p q : Int} (h : wrGood D p S q L = false) : wrOut D p S q L = (⟨[], 0, [], 0⟩, 0, 5) := by
  unfold wrOut
  rw [if_neg (by simp [h])]
  rfl
/-- How a good call that writes ended, and with how many bytes. -/
theorem wr_how {D S L : List Int} {p q : Int} (h : wrGood D p S q L = true) : ∃ (m : Nat) (st : Int), wrOut D p S q L = (⟨wrL D p.toNat (L.take m), p + (m : Int), S, q + 1⟩, (m : Int), st) ∧
    ((st = 0 ∧ 1 ≤ m ∧ m ≤ L.length ∧ p + (m : Int) ≤ 60) ∨ (m = 0 ∧ st = 2) ∨ (m = 0 ∧ st = 3) ∨ (m = 0 ∧ st = 4 ∧ p = 60)) := by
  obtain ⟨hv, hq, hL, hbL⟩ := wrGood_iff.1 h
  have hp := (validD_iff.1 hv).2.2.2.1
  refine ⟨wrM p (mayAt S q.toNat) L.length, wrSt p (mayAt S q.toNat), by unfold wrOut; rw [if_pos h], ?_⟩
  unfold wrM wrSt
  by_cases hk : mayAt S q.toNat < 0
  · rw [if_pos hk, if_pos (show mayAt S q.toNat < 1 by omega)]
    omega
  · rw [if_neg hk]
    by_cases hk0 : mayAt S q.toNat = 0
    · rw [if_pos hk0, if_pos (show mayAt S q.toNat < 1 by omega)]
      omega
    · rw [if_neg hk0, if_neg (show ¬ mayAt S q.toNat < 1 by omega)]
      by_cases hd : 60 ≤ p
      · rw [if_pos hd]
        omega
      · rw [if_neg hd]
        omega
theorem wrL_pre {D L : List Int} {a : Nat} : L.isPrefixOf ((wrL D a L).drop a) = true := by
  rw [List.isPrefixOf_iff_prefix]
  unfold wrL
  split
  · rename_i h; rw [h]; exact List.nil_prefix
  · rename_i h
    have e : (D.take a ++ (List.replicate (a - D.length) 0 ++ (L ++ D.drop (a + L.length)))).drop a = L ++ D.drop (a + L.length) := by
      rw [← List.append_assoc]
      exact List.drop_left' (by simp; omega)
    rw [e]
    exact List.prefix_append _ _
theorem wrL_pre0 {D L : List Int} {a k : Nat} (hk : k ≤ a) : (D.take k).isPrefixOf (wrL D a L) = true := by
  rw [List.isPrefixOf_iff_prefix]
  unfold wrL
  split
  · exact List.take_prefix _ _
  · exact (List.take_prefix_take_left hk).trans (List.prefix_append _ _)
theorem allB_app {xs ys : List Int} {lo hi : Int} : allB (xs ++ ys) lo hi = (allB xs lo hi && allB ys lo hi) := by simp [allB]
theorem allB_sub {xs ys : List Int} {lo hi : Int} (h : allB ys lo hi = true) (hs : ∀ x ∈ xs, x ∈ ys) : allB xs lo hi = true := by
  unfold allB at h ⊢
  rw [List.all_eq_true] at h ⊢
  exact fun x hx => h x (hs x hx)
theorem valid_write {D S L : List Int} {p q : Int} {m : Nat} (h : wrGood D p S q L = true) (hm : m = 0 ∨ (1 ≤ m ∧ m ≤ L.length ∧ p + (m : Int) ≤ 60)) : validD (wrL D p.toNat (L.take m)) (p + (m : Int)) S (q + 1) = true := by
  obtain ⟨hv, hq, hL, hbL⟩ := wrGood_iff.1 h
  rw [validD_iff] at hv ⊢
  obtain ⟨hb, h1, h2, h3, h4⟩ := hv
  refine ⟨?_, h1, h2, by omega, by omega⟩
  rcases hm with rfl | ⟨hm1, hm2, hm3⟩
  · rw [wrL_none]; exact hb
  · have hl : (L.take m).length = m := by rw [List.length_take]; omega
    have hlen := wrL_len (D := D) (L := L.take m) (a := p.toNat) (by omega)
    have hb1 := bytesB_le hb
    unfold bytesB
    rw [Bool.and_eq_true]
    refine ⟨decide_eq_true (by rw [hlen, hl]; omega), ?_⟩
    have hD := bytesB_all hb
    have hLL := bytesB_all hbL
    unfold wrL
    rw [if_neg (by intro h0; rw [h0] at hl; simp at hl; omega), allB_app, allB_app, allB_app, allB_sub hD (fun x hx => List.mem_of_mem_take hx), allB_sub hD (fun x hx => List.mem_of_mem_drop hx), allB_sub hLL (fun x hx => List.mem_of_mem_take hx)]
    simp only [Bool.true_and, Bool.and_true]
    unfold allB
    rw [List.all_eq_true]
    intro x hx
    rw [List.eq_of_mem_replicate hx]
    decide
theorem seek_back {D S : List Int} {p q : Int} {m : Nat} (hv : validD D (p + (m : Int)) S q = true) (hp : 0 ≤ p) : seekOut D (p + (m : Int)) S q (-(m : Int)) 1 = (⟨D, p, S, q⟩, true) := by
  have hq := (validD_iff.1 hv).2.2.2.1
  have e : seekAt D.length (p + (m : Int)) (-(m : Int)) 1 = some p := by
    have e1 : p + (m : Int) + -(m : Int) = p := by omega
    simp [seekAt, inB, e1]
    omega
  unfold seekOut
  rw [e, if_pos (by simp [hv, seekOk])]
  rfl
end Go.Proofs.Ytdiebkaedjlckaa
