/- Contracts of the model's ReadDevice. -/
import Derived.Test.YtgdhdgalnoabfaaS1b
import Derived.Deep.DeepCutAuto
namespace Go.Proofs.Ytgdhdgalnoabfaa
open Go.ChangeShapes Go.WideShapes Go.ChangeAt Go.RowKit
set_option linter.unusedSimpArgs false
set_option linter.unusedVariables false

def IntB (k : Int) (w : World) (e : Ending) (w' : World) : Prop := e = .returned (.int .i64 k) ∧ Below w.heap.size w w'

set_option maxHeartbeats 1000000 in
theorem allowed_any {A A' : Option Addr} {n c n' c' a : Nat} {S : List Int} {p : Int} {w : World} {L' B' : Nat} (h' : Ints w L' B' A' n' S) (hB' : B' ≤ w.heap.size) :
    Calls Try.prog 35 #[.agg #[.slice (A) n c, .int .i64 (p), .slice (A') n' c', .int .i64 ((a : Int))]] w (IntB (mayAt S a) w) := by
  have hm := h'.max
  have HL := Lib.hid h'.len
  have H2 := Lib.hid (h'.alloc hB' (.cells #[.slice (A) n c, .int .i64 (p), .slice (A') n' c', .int .i64 ((a : Int))] 25))
  by_cases hlt : a < n'
  · obtain ⟨b', o', k, rfl, _, hc, hk⟩ := H2.out.at_ hlt
    have HK : Hid (mayAt S a = k) := mayAt_some hk.out
    rw [HK.out]
    have hlti : (a : Int) < (n' : Int) := by omega
    have h0 : (0 : Int) ≤ (a : Int) := by omega
    go_enter Try.func35, Try.ntmps35
    go_wp2
    go_ret
    exact ⟨rfl, by go_grown⟩
  · have hlti : (n' : Int) ≤ (a : Int) := by omega
    have HK : Hid (mayAt S a = 60) := mayAt_none (by have := HL.out; omega)
    rw [HK.out]
    go_enter Try.func35, Try.ntmps35
    go_wp2
    go_ret
    exact ⟨rfl, by go_grown⟩

/-- A device with the same memory, and ints in new memory. -/
def SReadPost (A : Option Addr) (n c : Nat) (p : Int) (A' : Option Addr) (n' c' a : Nat) (D : List Int) (k N : Int) (w : World) (e : Ending) (w' : World) : Prop :=
  ∃ A1 n1 c1, e = .returned (.tuple #[.agg #[.slice (A) n c, .int .i64 (p + ((rdL D p k N).length : Int)), .slice (A') n' c', .int .i64 ((a : Int) + 1)], .slice A1 n1 c1, .int .i64 (rdSt D p k)]) ∧ n1 ≤ c1 ∧ Below w.heap.size w w' ∧ Ints w' w.heap.size w'.heap.size A1 n1 (rdL D p k N)

set_option maxHeartbeats 1000000 in
theorem sGoodCall_any {A A' : Option Addr} {n c n' c' : Nat} {D S : List Int} {p q : Int} {w : World} {L L' B B' : Nat} (h : Ints w L B A n D) (h' : Ints w L' B' A' n' S) (hB : B ≤ w.heap.size) (hB' : B' ≤ w.heap.size) :
    Calls Try.prog 19 #[.agg #[.slice (A) n c, .int .i64 (p), .slice (A') n' c', .int .i64 (q)]] w (BoolB (goodCall D p S q) w) := by
  have H1 := Lib.hid (h.alloc hB (.cells #[.slice (A) n c, .int .i64 (p), .slice (A') n' c', .int .i64 (q)] 25))
  have H2 := Lib.hid (h'.alloc hB' (.cells #[.slice (A) n c, .int .i64 (p), .slice (A') n' c', .int .i64 (q)] 25))
  have X0 := Lib.hid (Box.new w 25 [.slice (A) n c, .int .i64 (p), .slice (A') n' c', .int .i64 (q)])
  go_enter Try.func19, Try.ntmps19
  go_wp2_with fail
  refine (validDevice_any H1.out H2.out (by first | omega | (simp; omega) | (simp; done)) (by first | omega | (simp; omega) | (simp; done))).mono ?_
  rintro e w1 ⟨rfl, hb1⟩
  (try simp only [World.size_alloc, World.size_setCell, World.size_drew] at hb1)
  have HB1 := Lib.hid hb1
  clear hb1
  have X1 := Lib.hid (X0.out.below HB1.out (by omega))
  have x0 := (X1.out.2 0 _ rfl).1; have x1 := (X1.out.2 1 _ rfl).1; have x2 := (X1.out.2 2 _ rfl).1; have x3 := (X1.out.2 3 _ rfl).1
  go_wp2
  all_goals
    go_ret
    refine ⟨ret_bool ?_, below_step HB1.out (by go_grown) (by first | omega | (simp; omega) | (simp; done))⟩
    first | (simp [goodCall, *]; done) | (simp [goodCall]; omega)
end Go.Proofs.Ytgdhdgalnoabfaa
