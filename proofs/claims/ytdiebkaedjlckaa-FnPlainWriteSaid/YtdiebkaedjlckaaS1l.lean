/- Contracts of the model's writeDevice and WriteDevice. -/
import Derived.Test.YtdiebkaedjlckaaS1k
import Derived.Test.YtdiebkaedjlckaaC1l
namespace Go.Proofs.Ytdiebkaedjlckaa
open Go.ChangeShapes Go.WideShapes Go.ChangeAt Go.RowKit
set_option linter.unusedSimpArgs false
set_option linter.unusedVariables false

def SWritePost (A : Option Addr) (n : Nat) (A' : Option Addr) (n' c' : Nat) (p : Int) (a : Nat) (D : List Int) (k : Int) (L1 : List Int) (w : World) (e : Ending) (w' : World) : Prop :=
  ∃ A2 n2 c2, e = .returned (.tuple #[.agg #[.slice (A2) n2 c2, .int .i64 (p + ((wrM p k L1.length : Nat) : Int)), .slice (A') n' c', .int .i64 ((a : Int) + 1)], .int .i64 ((wrM p k L1.length : Nat) : Int), .int .i64 (wrSt p k)]) ∧ n2 ≤ c2 ∧ Below w.heap.size w w' ∧
    ((A2 = A ∧ n2 = n ∧ wrM p k L1.length = 0) ∨ Ints w' w.heap.size w'.heap.size A2 n2 (wrL D p.toNat (L1.take (wrM p k L1.length))))


/-! The two, in the form that the laws' texts take. -/
theorem wrOut_le (D : List Int) (p : Int) (S : List Int) (q : Int) (L : List Int) : (wrOut D p S q L).1.d.length ≤ 120 ∧ (wrOut D p S q L).1.s.length ≤ 60 := by
  unfold wrOut
  split
  · rename_i hg
    obtain ⟨hv, _, hL, hbL⟩ := wrGood_iff.1 hg
    obtain ⟨hb, hs, _, hp, _⟩ := validD_iff.1 hv
    have h1 := bytesB_le hb
    have h2 := bytesB_le hbL
    refine ⟨?_, by show S.length ≤ 60; omega⟩
    show (wrL D p.toNat (L.take (wrM p (mayAt S q.toNat) L.length))).length ≤ 120
    by_cases h0 : (L.take (wrM p (mayAt S q.toNat) L.length)).length = 0
    · rw [List.eq_nil_of_length_eq_zero h0]
      simp [wrL]
      omega
    · rw [wrL_len (by omega), List.length_take]
      omega
  · exact ⟨by decide, by decide⟩
end Go.Proofs.Ytdiebkaedjlckaa
