/- Contracts of the tests of impl (isIn, allIn, areBytes): they only read. -/
import Derived.Test.YtlhbodamdjbahaaBase
namespace Go.Proofs.Ytlhbodamdjbahaa
open Go.ChangeShapes Go.WideShapes Go.ChangeAt Go.RowKit
set_option linter.unusedSimpArgs false
set_option linter.unusedVariables false

set_option maxHeartbeats 400000 in
theorem isIn_any {n lo hi : Int} {w : World} :
    Calls Try.prog 18 #[.int .i64 n, .int .i64 lo, .int .i64 hi] w fun e w' => e = .returned (.bool (inB n lo hi)) ∧ w = w' := by
  by_cases h1 : lo ≤ n
  · go_enter Try.func18, Try.ntmps18
    go_wp2
    go_ret
    exact ⟨by simp [inB, h1], rfl⟩
  · have h1' : decide (lo ≤ n) = false := by simpa using h1
    go_enter Try.func18, Try.ntmps18
    go_wp2
    go_ret
    exact ⟨ret_bool (inB_false_iff.2 (fun h => by omega)).symm, rfl⟩

/-- At most 60 numbers, each a byte. -/
def bytesB (xs : List Int) : Bool := decide (xs.length ≤ 60) && allB xs 0 255
theorem bytesB_le {xs : List Int} (h : bytesB xs = true) : xs.length ≤ 60 := by simp [bytesB] at h; exact h.1
theorem bytesB_all {xs : List Int} (h : bytesB xs = true) : allB xs 0 255 = true := by simp [bytesB] at h; exact h.2

/-- A device's numbers are valid. -/
def validD (D : List Int) (p : Int) (S : List Int) (q : Int) : Bool :=
  bytesB D && (decide (S.length ≤ 12) && (allB S (-1) 60 && (inB p 0 60 && inB q 0 1000)))

end Go.Proofs.Ytlhbodamdjbahaa
