/- Contract of the model's RestOf; both in the laws' form. -/
import Derived.Test.YtdiebkaedjlckaaS1b
namespace Go.Proofs.Ytdiebkaedjlckaa
open Go.ChangeShapes Go.WideShapes Go.ChangeAt Go.RowKit
set_option linter.unusedSimpArgs false
set_option linter.unusedVariables false


theorem restL_le (D : List Int) (p : Int) (S : List Int) (q : Int) : (restL D p S q).length ≤ 60 := by
  unfold restL
  split
  · obtain ⟨hb, _⟩ := validD_iff.1 ‹_›
    have := bytesB_le hb
    rw [List.length_drop]; omega
  · decide

theorem RestOf_x {A A' : Option Addr} {n c n' c' : Nat} {D S : List Int} {p q : Int} {w : World} {L L' B B' : Nat} (h : Ints w L B A n D) (h' : Ints w L' B' A' n' S) (hB : B ≤ w.heap.size) (hB' : B' ≤ w.heap.size) (hc : n ≤ c) (_hc' : n' ≤ c') (_hn : n ≤ 1048576) (_hn' : n' ≤ 1048576) :
    Calls Try.prog 47 #[.agg #[.slice (A) n c, .int .i64 (p), .slice (A') n' c', .int .i64 (q)]] w (ListPost (restL D p S q) w) := RestOf_any h h' hB hB' hc
end Go.Proofs.Ytdiebkaedjlckaa
