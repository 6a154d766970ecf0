/- Contracts of the model's tests (inRange, allIn, validBytes, validScript, validDevice): they only read. -/
import Derived.Test.YtkgjcoakeliocaaDoorC1a
namespace Go.Proofs.YtkgjcoakeliocaaDoor
open Go.ChangeShapes Go.WideShapes Go.ChangeAt Go.RowKit
set_option linter.unusedSimpArgs false
set_option linter.unusedVariables false

set_option maxHeartbeats 400000 in
theorem inRange_any {n lo hi : Int} {w : World} :
    Calls Tryd.prog 68 #[.int .i64 n, .int .i64 lo, .int .i64 hi] w fun e w' => e = .returned (.bool (inB n lo hi)) ∧ w = w' := by
  go_enter Tryd.func68, Tryd.ntmps68
  go_wp2
  all_goals
    go_ret
    refine ⟨ret_bool ?_, rfl⟩
    first | (simp [inB, *]; done) | (simp [inB]; omega)

set_option maxHeartbeats 400000 in
theorem sAllIn_any {A : Option Addr} {n c : Nat} {xs : List Int} {lo hi : Int} {w : World} {L B : Nat} (h : Ints w L B A n xs) :
    Calls Tryd.prog 74 #[.slice A n c, .int .i64 lo, .int .i64 hi] w fun e w' => e = .returned (.bool (allB xs lo hi)) ∧ w = w' := by
  have hm := h.max
  have HL := Lib.hid h.len
  go_enter Tryd.func74, Tryd.ntmps74
  go_wp2
  go_loop [7] (fun i => ∃ k : Nat, k ≤ n ∧ i = .int .i64 k ∧ allB (xs.take k) lo hi = true) (fun i => n - (intOf i).toNat)
  case atStart => exact ⟨0, Nat.zero_le _, rfl, rfl⟩
  case round =>
    obtain ⟨k, hk, rfl, hall⟩ := hrel
    have HA := Lib.hid hall
    clear hall
    by_cases hlt : k < n
    · obtain ⟨b, o, x, rfl, _, hc, hx⟩ := h.at_ hlt
      cases hb : inB x lo hi
      · go_wp2_with (go_at_call 68; refine (inRange_any).mono ?_; rintro e w' ⟨rfl, rfl⟩)
        go_ret
        exact ⟨ret_bool (allB_no hx.out hb).symm, rfl⟩
      · go_wp2_with (go_at_call 68; refine (inRange_any).mono ?_; rintro e w' ⟨rfl, rfl⟩)
        go_round
        case rel => exact ⟨k + 1, by omega, by go_num, by rw [allB_snoc hx.out, HA.out, hb]; rfl⟩
        case measure => simp [intOf]; omega
    · go_wp2
      go_ret
      have hkl : xs.take k = xs := List.take_of_length_le (by have := HL.out; omega)
      exact ⟨ret_bool (by rw [← hkl]; exact HA.out.symm), rfl⟩

set_option maxHeartbeats 400000 in
theorem validBytes_any {A : Option Addr} {n c : Nat} {xs : List Int} {w : World} {L B : Nat} (h : Ints w L B A n xs) :
    Calls Tryd.prog 61 #[.slice A n c] w fun e w' => e = .returned (.bool (bytesB xs)) ∧ w = w' := by
  have hm := h.max
  have HL := Lib.hid h.len
  go_enter Tryd.func61, Tryd.ntmps61
  go_wp2_with (go_at_call 74; refine (sAllIn_any h).mono ?_; rintro e w' ⟨rfl, rfl⟩)
  all_goals
    go_ret
    refine ⟨ret_bool ?_, rfl⟩
    have hn := HL.out
    first | (simp [bytesB, *]; done) | (simp [bytesB, *]; omega)

def scriptB (S : List Int) : Bool := decide (S.length ≤ 12) && allB S (-1) 60
theorem validD_script (D S : List Int) (p q : Int) : validD D p S q = (bytesB D && (scriptB S && (inB p 0 60 && inB q 0 1000))) := by
  simp [validD, scriptB, Bool.and_assoc]

end Go.Proofs.YtkgjcoakeliocaaDoor
