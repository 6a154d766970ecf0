/- Contracts of the model's ReadDevice. -/
import Derived.Test.YtdgfcbnfhengiaaS1b
import Derived.Deep.DeepCutAuto
namespace Go.Proofs.Ytdgfcbnfhengiaa
open Go.ChangeShapes Go.WideShapes Go.ChangeAt Go.RowKit
set_option linter.unusedSimpArgs false
set_option linter.unusedVariables false

def IntB (k : Int) (w : World) (e : Ending) (w' : World) : Prop := e = .returned (.int .i64 k) ∧ Below w.heap.size w w'

set_option maxHeartbeats 1000000 in
theorem allowed_any {A A' : Option Addr} {n c n' c' a : Nat} {S : List Int} {p : Int} {w : World} {L' B' : Nat} (h' : Ints w L' B' A' n' S) (hB' : B' ≤ w.heap.size) :
    Calls Try.prog 42 #[.agg #[.slice (A) n c, .int .i64 (p), .slice (A') n' c', .int .i64 ((a : Int))]] w (IntB (mayAt S a) w) := by
  have hm := h'.max
  have HL := Lib.hid h'.len
  have H2 := Lib.hid (h'.alloc hB' (.cells #[.slice (A) n c, .int .i64 (p), .slice (A') n' c', .int .i64 ((a : Int))] 25))
  by_cases hlt : a < n'
  · obtain ⟨b', o', k, rfl, _, hc, hk⟩ := H2.out.at_ hlt
    have HK : Hid (mayAt S a = k) := mayAt_some hk.out
    rw [HK.out]
    have hlti : (a : Int) < (n' : Int) := by omega
    have h0 : (0 : Int) ≤ (a : Int) := by omega
    go_enter Try.func42, Try.ntmps42
    go_wp2
    go_ret
    exact ⟨rfl, by go_grown⟩
  · have hlti : (n' : Int) ≤ (a : Int) := by omega
    have HK : Hid (mayAt S a = 60) := mayAt_none (by have := HL.out; omega)
    rw [HK.out]
    go_enter Try.func42, Try.ntmps42
    go_wp2
    go_ret
    exact ⟨rfl, by go_grown⟩

/-- A device with the same memory, and ints in new memory. -/
def SReadPost (A : Option Addr) (n c : Nat) (p : Int) (A' : Option Addr) (n' c' a : Nat) (D : List Int) (k N : Int) (w : World) (e : Ending) (w' : World) : Prop :=
  ∃ A1 n1 c1, e = .returned (.tuple #[.agg #[.slice (A) n c, .int .i64 (p + ((rdL D p k N).length : Int)), .slice (A') n' c', .int .i64 ((a : Int) + 1)], .slice A1 n1 c1, .int .i64 (rdSt D p k)]) ∧ n1 ≤ c1 ∧ Below w.heap.size w w' ∧ Ints w' w.heap.size w'.heap.size A1 n1 (rdL D p k N)

end Go.Proofs.Ytdgfcbnfhengiaa
