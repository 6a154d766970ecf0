/- Contracts of the model's tellReader and TellReader. -/
import Derived.Test.YtmjmplfhedknhaaC2b
import Derived.Test.YtmjmplfhedknhaaS2a
namespace Go.Proofs.Ytmjmplfhedknhaa
open Go.ChangeShapes Go.WideShapes Go.ChangeAt Go.RowKit
set_option linter.unusedSimpArgs false
set_option linter.unusedVariables false

set_option maxHeartbeats 1000000 in
theorem sTellReader0_any {A A' A2 : Option Addr} {n c n' c' n2 c2 : Nat} {p q z : Int} {w : World} (hp : -1000 ≤ p ∧ p ≤ 1000) (hn2 : n2 ≤ 1000) :
    Calls Try.prog 61 #[.agg #[.slice (A) n c, .int .i64 (p), .slice (A') n' c', .int .i64 (q), .slice (A2) n2 c2, .int .i64 (z)]] w (IntB (p - (n2 : Int)) w) := by
  have hw : IntKind.i64.wrap (p - (n2 : Int)) = p - (n2 : Int) := IntWalk.i64_in _ (by omega)
  go_enter Try.func61, Try.ntmps61
  go_wp2
  go_ret
  exact ⟨rfl, by go_grown⟩
end Go.Proofs.Ytmjmplfhedknhaa
