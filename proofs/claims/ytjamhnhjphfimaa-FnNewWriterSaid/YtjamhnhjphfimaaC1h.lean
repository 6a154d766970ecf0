/- Contracts of SeekDevice, impl's and the model's. -/
import Derived.Test.YtjamhnhjphfimaaC1g
namespace Go.Proofs.Ytjamhnhjphfimaa
open Go.ChangeShapes Go.WideShapes Go.ChangeAt Go.RowKit
set_option linter.unusedSimpArgs false
set_option linter.unusedVariables false

/-- Where a seek goes to: nothing if there is no such place. -/
def seekAt (size now off wh : Int) : Option Int :=
  if inB off (-60) 60 && inB wh 0 2 then
    (if inB (if wh = 1 then now + off else if wh = 2 then size + off else off) 0 60 then some (if wh = 1 then now + off else if wh = 2 then size + off else off) else none)
  else none
def seekOk (r : Option Int) : Bool := r.isSome
def seekTo (r : Option Int) : Int := r.getD 0


def seekOut (D : List Int) (p : Int) (S : List Int) (q off wh : Int) : Dv × Bool :=
  if validD D p S q && seekOk (seekAt D.length p off wh) then (⟨D, seekTo (seekAt D.length p off wh), S, q⟩, true) else (.zero, false)
theorem seekTo_in {size now off wh : Int} : 0 ≤ seekTo (seekAt size now off wh) ∧ seekTo (seekAt size now off wh) ≤ 60 := by
  unfold seekAt
  generalize (if wh = 1 then now + off else if wh = 2 then size + off else off) = t
  by_cases h1 : (inB off (-60) 60 && inB wh 0 2) = true
  · rw [if_pos h1]
    by_cases h2 : inB t 0 60 = true
    · rw [if_pos h2]; exact inB_iff.1 h2
    · rw [if_neg h2]; decide
  · rw [if_neg h1]; decide
theorem seekOut_le (D : List Int) (p : Int) (S : List Int) (q off wh : Int) : (seekOut D p S q off wh).1.d.length ≤ 60 ∧ (seekOut D p S q off wh).1.s.length ≤ 60 := by
  unfold seekOut
  split
  · have h : validD D p S q = true := by
      have h := ‹(validD D p S q && seekOk (seekAt D.length p off wh)) = true›
      simp at h
      exact h.1
    obtain ⟨hb, hs, _⟩ := validD_iff.1 h
    exact ⟨bytesB_le hb, by show S.length ≤ 60; omega⟩
  · exact ⟨by decide, by decide⟩

end Go.Proofs.Ytjamhnhjphfimaa
