/- Contract of the model's ReadDevice, whole. -/
import Derived.Test.YtdiebkaedjlckaaDoorS1d
namespace Go.Proofs.YtdiebkaedjlckaaDoor
open Go.ChangeShapes Go.WideShapes Go.ChangeAt Go.RowKit
set_option linter.unusedSimpArgs false
set_option linter.unusedVariables false


theorem rdOut_le (D : List Int) (p : Int) (S : List Int) (q N : Int) : (rdOut D p S q N).1.d.length ≤ 60 ∧ (rdOut D p S q N).1.s.length ≤ 60 ∧ (rdOut D p S q N).2.1.length ≤ 60 := by
  unfold rdOut
  split
  · obtain ⟨hv, _⟩ := rdGood_iff.1 ‹_›
    obtain ⟨hb, hs, _⟩ := validD_iff.1 hv
    have h1 := bytesB_le hb
    have h2 := rdL_len D p (mayAt S q.toNat) N
    exact ⟨h1, by show S.length ≤ 60; omega, by show (rdL D p (mayAt S q.toNat) N).length ≤ 60; omega⟩
  · exact ⟨by decide, by decide, by decide⟩
end Go.Proofs.YtdiebkaedjlckaaDoor
