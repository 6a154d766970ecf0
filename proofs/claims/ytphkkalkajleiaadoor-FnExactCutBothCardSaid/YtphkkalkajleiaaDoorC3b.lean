/- Contract of SeenData, the program's. -/
import Derived.Test.YtphkkalkajleiaaDoorC3a
import Derived.Test.YtphkkalkajleiaaDoorC1k
import Derived.Deep.RegionHeld3
namespace Go.Proofs.YtphkkalkajleiaaDoor
open Go.ChangeShapes Go.WideShapes Go.ChangeAt Go.RowKit
set_option linter.unusedSimpArgs false
set_option linter.unusedVariables false

/-- A writer's bytes as if all were written. -/
def seenOut (D : List Int) (p : Int) (S : List Int) (q : Int) (R : List Int) (z : Int) : List Int := if validW D p S q R z then wrL D p.toNat (R.take (60 - p.toNat)) else []
theorem seenOut_le (D : List Int) (p : Int) (S : List Int) (q : Int) (R : List Int) (z : Int) : (seenOut D p S q R z).length ≤ 60 := by
  unfold seenOut
  split
  · obtain ⟨hvd, _⟩ := validW_iff.1 ‹_›
    obtain ⟨hb, _, _, hp, _⟩ := validD_iff.1 hvd
    have h60 := bytesB_le hb
    by_cases h : R.take (60 - p.toNat) = []
    · rw [h]; simpa [wrL] using h60
    · rw [wrL_len (List.length_pos_iff.2 h), List.length_take]; omega
  · simp
end Go.Proofs.YtphkkalkajleiaaDoor
