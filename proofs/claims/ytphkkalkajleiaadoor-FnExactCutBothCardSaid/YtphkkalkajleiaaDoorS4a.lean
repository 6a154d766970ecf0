/- Contracts of plain files, the model's. -/
import Derived.Test.YtphkkalkajleiaaDoorC4a
import Derived.Test.YtphkkalkajleiaaDoorS3b
import Derived.Test.YtphkkalkajleiaaDoorS1h
namespace Go.Proofs.YtphkkalkajleiaaDoor
open Go.ChangeShapes Go.WideShapes Go.ChangeAt Go.RowKit
set_option linter.unusedSimpArgs false
set_option linter.unusedVariables false
set_option maxRecDepth 10000

/-- A list laid over bytes, also one that has nothing. -/
theorem overlaid_all {A A1 : Option Addr} {n c n1 c1 a : Nat} {D L1 : List Int} {w : World} {L L' B B' : Nat} (h : Ints w L B A n D) (h' : Ints w L' B' A1 n1 L1) (hB : B ≤ w.heap.size) (hB' : B' ≤ w.heap.size) (hn : n ≤ 1000) (hn1 : n1 ≤ 1000) (ha : a ≤ 1000) :
    Calls Tryd.prog 116 #[.slice A n c, .int .i64 (a : Int), .slice A1 n1 c1] w (ListPost (wrL D a L1) w) := by
  by_cases h0 : n1 = 0
  · subst h0
    have e : L1 = [] := List.eq_nil_of_length_eq_zero h'.len.symm
    have e2 : wrL D a L1 = D := by rw [e]; simp [wrL]
    rw [e2]
    exact overlaid_none h hB hn
  · exact overlaid_any h h' hB hB' hn hn1 (by omega) ha
end Go.Proofs.YtphkkalkajleiaaDoor
