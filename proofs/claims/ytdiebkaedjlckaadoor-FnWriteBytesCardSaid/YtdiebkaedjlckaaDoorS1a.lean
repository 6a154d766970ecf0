/- Contracts of the model's tests (inRange, allIn, validBytes, validScript, validDevice): they only read. -/
import Derived.Test.YtdiebkaedjlckaaDoorC1a
namespace Go.Proofs.YtdiebkaedjlckaaDoor
open Go.ChangeShapes Go.WideShapes Go.ChangeAt Go.RowKit
set_option linter.unusedSimpArgs false
set_option linter.unusedVariables false

set_option maxHeartbeats 400000 in
theorem inRange_any {n lo hi : Int} {w : World} :
    Calls Tryd.prog 60 #[.int .i64 n, .int .i64 lo, .int .i64 hi] w fun e w' => e = .returned (.bool (inB n lo hi)) ∧ w = w' := by
  go_enter Tryd.func60, Tryd.ntmps60
  go_wp2
  all_goals
    go_ret
    refine ⟨ret_bool ?_, rfl⟩
    first | (simp [inB, *]; done) | (simp [inB]; omega)

set_option maxHeartbeats 400000 in
theorem sAllIn_any {A : Option Addr} {n c : Nat} {xs : List Int} {lo hi : Int} {w : World} {L B : Nat} (h : Ints w L B A n xs) :
    Calls Tryd.prog 86 #[.slice A n c, .int .i64 lo, .int .i64 hi] w fun e w' => e = .returned (.bool (allB xs lo hi)) ∧ w = w' := by
  have hm := h.max
  have HL := Lib.hid h.len
  go_enter Tryd.func86, Tryd.ntmps86
  go_wp2
  go_loop [7] (fun i => ∃ k : Nat, k ≤ n ∧ i = .int .i64 k ∧ allB (xs.take k) lo hi = true) (fun i => n - (intOf i).toNat)
  case atStart => exact ⟨0, Nat.zero_le _, rfl, rfl⟩
  case round =>
    obtain ⟨k, hk, rfl, hall⟩ := hrel
    have HA := Lib.hid hall
    clear hall
    by_cases hlt : k < n
    · obtain ⟨b, o, x, rfl, _, hc, hx⟩ := h.at_ hlt
      cases hb : inB x lo hi
      · go_wp2_with (go_at_call 60; refine (inRange_any).mono ?_; rintro e w' ⟨rfl, rfl⟩)
        go_ret
        exact ⟨ret_bool (allB_no hx.out hb).symm, rfl⟩
      · go_wp2_with (go_at_call 60; refine (inRange_any).mono ?_; rintro e w' ⟨rfl, rfl⟩)
        go_round
        case rel => exact ⟨k + 1, by omega, by go_num, by rw [allB_snoc hx.out, HA.out, hb]; rfl⟩
        case measure => simp [intOf]; omega
    · go_wp2
      go_ret
      have hkl : xs.take k = xs := List.take_of_length_le (by have := HL.out; omega)
      exact ⟨ret_bool (by rw [← hkl]; exact HA.out.symm), rfl⟩

set_option maxHeartbeats 400000 in
theorem validBytes_any {A : Option Addr} {n c : Nat} {xs : List Int} {w : World} {L B : Nat} (h : Ints w L B A n xs) :
    Calls Tryd.prog 50 #[.slice A n c] w fun e w' => e = .returned (.bool (bytesB xs)) ∧ w = w' := by
  have hm := h.max
  have HL := Lib.hid h.len
  go_enter Tryd.func50, Tryd.ntmps50
  go_wp2_with (go_at_call 86; refine (sAllIn_any h).mono ?_; rintro e w' ⟨rfl, rfl⟩)
  all_goals
    go_ret
    refine ⟨ret_bool ?_, rfl⟩
    have hn := HL.out
    first | (simp [bytesB, *]; done) | (simp [bytesB, *]; omega)

def scriptB (S : List Int) : Bool := decide (S.length ≤ 12) && allB S (-1) 60
set_option maxHeartbeats 400000 in
theorem validScript_any {A : Option Addr} {n c : Nat} {xs : List Int} {w : World} {L B : Nat} (h : Ints w L B A n xs) :
    Calls Tryd.prog 136 #[.slice A n c] w fun e w' => e = .returned (.bool (scriptB xs)) ∧ w = w' := by
  have hm := h.max
  have HL := Lib.hid h.len
  go_enter Tryd.func136, Tryd.ntmps136
  go_wp2_with (go_at_call 86; refine (sAllIn_any h).mono ?_; rintro e w' ⟨rfl, rfl⟩)
  all_goals
    go_ret
    refine ⟨ret_bool ?_, rfl⟩
    have hn := HL.out
    first | (simp [scriptB, *]; done) | (simp [scriptB, *]; omega)
theorem validD_script (D S : List Int) (p q : Int) : validD D p S q = (bytesB D && (scriptB S && (inB p 0 60 && inB q 0 1000))) := by
  simp [validD, scriptB, Bool.and_assoc]

set_option maxHeartbeats 400000 in
theorem validDevice_any {A A' : Option Addr} {n c n' c' : Nat} {D S : List Int} {p q : Int} {w : World} {L L' B B' : Nat} (h : Ints w L B A n D) (h' : Ints w L' B' A' n' S) (hB : B ≤ w.heap.size) (hB' : B' ≤ w.heap.size) :
    Calls Tryd.prog 116 #[.agg #[.slice A n c, .int .i64 p, .slice A' n' c', .int .i64 q]] w fun e w' => e = .returned (.bool (validD D p S q)) ∧ Below w.heap.size w w' := by
  have hm := h'.max
  go_enter Tryd.func116, Tryd.ntmps116
  go_wp2_with (first | (go_at_call 50; refine (validBytes_any (h.alloc hB _)).mono ?_; rintro e w' ⟨rfl, rfl⟩) | (go_at_call 136; refine (validScript_any (h'.alloc hB' _)).mono ?_; rintro e w' ⟨rfl, rfl⟩) | (go_at_call 60; refine (inRange_any).mono ?_; rintro e w' ⟨rfl, rfl⟩))
  all_goals
    go_ret
    refine ⟨ret_bool ?_, by go_grown⟩
    simp [validD_script, *]

end Go.Proofs.YtdiebkaedjlckaaDoor
