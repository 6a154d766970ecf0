/- Contract of SeenData, the model's. -/
import Derived.Test.YtdiebkaedjlckaaC3b
import Derived.Test.YtdiebkaedjlckaaS3a
import Derived.Test.YtdiebkaedjlckaaS1k
namespace Go.Proofs.Ytdiebkaedjlckaa
open Go.ChangeShapes Go.WideShapes Go.ChangeAt Go.RowKit
set_option linter.unusedSimpArgs false
set_option linter.unusedVariables false

set_option maxHeartbeats 2000000 in
theorem overlaid_none {A A1 : Option Addr} {n c c1 a : Nat} {D : List Int} {w : World} {L B : Nat} (h : Ints w L B A n D) (hB : B ≤ w.heap.size) (hn : n ≤ 1000) :
    Calls Try.prog 60 #[.slice A n c, .int .i64 (a : Int), .slice A1 0 c1] w (ListPost D w) := by
  go_enter Try.func60, Try.ntmps60
  go_wp2_with fail
  refine (copyInts_any h hB (by omega)).mono ?_
  rintro e w1 ⟨A0, n0, c0, rfl, hc0, hb, hi⟩
  have HB := Lib.hid hb
  have HI := Lib.hid hi
  clear hb hi h
  go_wp2
  go_loopw [7] (fun o wr => o = .slice A0 n0 c0 ∧ wr = w1) (fun _ _ => 0)
  case atStart => exact ⟨rfl, rfl⟩
  case round =>
    obtain ⟨rfl, rfl⟩ := hrel
    by_cases hlt : (n0 : Int) < (a : Int)
    all_goals
      go_wp2
      go_loopw [7, 8] (fun o i wt => o = .slice A0 n0 c0 ∧ i = .int .i64 0 ∧ wt = wr) (fun _ _ _ => 0)
      case atStart => exact ⟨rfl, rfl, rfl⟩
      case round =>
        obtain ⟨rfl, rfl, rfl⟩ := hrel
        go_wp2
        go_ret
        exact ⟨_, _, _, rfl, hc0, HB.out, HI.out⟩
end Go.Proofs.Ytdiebkaedjlckaa
