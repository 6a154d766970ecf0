/- Contracts of CallsToEnd, impl's and the model's. -/
import Derived.Test.YtdiebkaedjlckaaS1d
namespace Go.Proofs.Ytdiebkaedjlckaa
open Go.ChangeShapes Go.WideShapes Go.ChangeAt Go.RowKit
set_option linter.unusedSimpArgs false
set_option linter.unusedVariables false

/-- How many calls to the end, of at most f; k is the number of the next one. -/
def ctGo (D S : List Int) (N : Int) : Nat → Int → Nat → Int → Int
  | 0, _, _, _ => -1
  | f + 1, p, a, k => if rdSt D p (mayAt S a) = 1 then k else ctGo D S N f (p + ((rdL D p (mayAt S a) N).length : Int)) (a + 1) (k + 1)
def ctOut (D : List Int) (p : Int) (S : List Int) (q N : Int) : Int := if validD D p S q && inB N 1 60 then ctGo D S N (1000 - q.toNat) p q.toNat 1 else -1
/-- A call leaves a valid device. -/
theorem validD_next {D S : List Int} {p : Int} {a : Nat} {k N : Int} (h : validD D p S a = true) (ha : a < 1000) (hN : 1 ≤ N) : validD D (p + ((rdL D p k N).length : Int)) S ((a + 1 : Nat) : Int) = true := by
  obtain ⟨hb, hs, hall, ⟨hp0, hp1⟩, _⟩ := validD_iff.1 h
  have hl := bytesB_le hb
  refine validD_iff.2 ⟨hb, hs, hall, ⟨by omega, ?_⟩, by omega, by omega⟩
  unfold rdL
  split
  · simp; exact hp1
  · rw [List.length_take, List.length_drop]; omega


end Go.Proofs.Ytdiebkaedjlckaa
