/- Contracts of the model's tests (inRange, allIn, validBytes, validScript, validDevice): they only read. -/
import Derived.Test.YtlhbodamdjbahaaC1a
namespace Go.Proofs.Ytlhbodamdjbahaa
open Go.ChangeShapes Go.WideShapes Go.ChangeAt Go.RowKit
set_option linter.unusedSimpArgs false
set_option linter.unusedVariables false

set_option maxHeartbeats 400000 in
theorem inRange_any {n lo hi : Int} {w : World} :
    Calls Try.prog 19 #[.int .i64 n, .int .i64 lo, .int .i64 hi] w fun e w' => e = .returned (.bool (inB n lo hi)) ∧ w = w' := by
  go_enter Try.func19, Try.ntmps19
  go_wp2
  all_goals
    go_ret
    refine ⟨ret_bool ?_, rfl⟩
    first | (simp [inB, *]; done) | (simp [inB]; omega)

def scriptB (S : List Int) : Bool := decide (S.length ≤ 12) && allB S (-1) 60
theorem validD_script (D S : List Int) (p q : Int) : validD D p S q = (bytesB D && (scriptB S && (inB p 0 60 && inB q 0 1000))) := by
  simp [validD, scriptB, Bool.and_assoc]

end Go.Proofs.Ytlhbodamdjbahaa
