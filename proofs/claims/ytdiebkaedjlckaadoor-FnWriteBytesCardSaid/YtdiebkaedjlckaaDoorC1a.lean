/- Contracts of the tests of impl (isIn, allIn, areBytes): they only read. -/
import Derived.Test.YtdiebkaedjlckaaDoorBase
namespace Go.Proofs.YtdiebkaedjlckaaDoor
open Go.ChangeShapes Go.WideShapes Go.ChangeAt Go.RowKit
set_option linter.unusedSimpArgs false
set_option linter.unusedVariables false

set_option maxHeartbeats 400000 in
theorem isIn_any {n lo hi : Int} {w : World} :
    Calls Tryd.prog 64 #[.int .i64 n, .int .i64 lo, .int .i64 hi] w fun e w' => e = .returned (.bool (inB n lo hi)) ∧ w = w' := by
  by_cases h1 : lo ≤ n
  · go_enter Tryd.func64, Tryd.ntmps64
    go_wp2
    go_ret
    exact ⟨by simp [inB, h1], rfl⟩
  · have h1' : decide (lo ≤ n) = false := by simpa using h1
    go_enter Tryd.func64, Tryd.ntmps64
    go_wp2
    go_ret
    exact ⟨ret_bool (inB_false_iff.2 (fun h => by omega)).symm, rfl⟩

set_option maxHeartbeats 400000 in
theorem allIn_any {A : Option Addr} {n c : Nat} {xs : List Int} {lo hi : Int} {w : World} {L B : Nat} (h : Ints w L B A n xs) :
    Calls Tryd.prog 106 #[.slice A n c, .int .i64 lo, .int .i64 hi] w fun e w' => e = .returned (.bool (allB xs lo hi)) ∧ w = w' := by
  have hm := h.max
  have hl := h.len
  have HL := Lib.hid hl
  clear hl
  go_enter Tryd.func106, Tryd.ntmps106
  go_wp2
  go_loop [11] (fun i => ∃ k : Nat, k ≤ n ∧ i = .int .i64 k ∧ allB (xs.take k) lo hi = true) (fun i => n - (intOf i).toNat)
  case atStart => exact ⟨0, Nat.zero_le _, rfl, rfl⟩
  case round =>
    obtain ⟨k, hk, rfl, hall⟩ := hrel
    have HA := Lib.hid hall
    clear hall
    by_cases hlt : k < n
    · obtain ⟨b, o, x, rfl, _, hc, hx⟩ := h.at_ hlt
      cases hb : inB x lo hi
      · go_wp2_with (go_at_call 64; refine (isIn_any).mono ?_; rintro e w' ⟨rfl, rfl⟩)
        go_ret
        exact ⟨ret_bool (allB_no hx.out hb).symm, rfl⟩
      · go_wp2_with (go_at_call 64; refine (isIn_any).mono ?_; rintro e w' ⟨rfl, rfl⟩)
        go_round
        case rel => exact ⟨k + 1, by omega, by go_num, by rw [allB_snoc hx.out, HA.out, hb]; rfl⟩
        case measure => simp [intOf]; omega
    · go_wp2
      go_ret
      have hkl : xs.take k = xs := List.take_of_length_le (by have := HL.out; omega)
      exact ⟨ret_bool (by rw [← hkl]; exact HA.out.symm), rfl⟩

/-- At most 60 numbers, each a byte. -/
def bytesB (xs : List Int) : Bool := decide (xs.length ≤ 60) && allB xs 0 255
theorem bytesB_le {xs : List Int} (h : bytesB xs = true) : xs.length ≤ 60 := by simp [bytesB] at h; exact h.1
theorem bytesB_all {xs : List Int} (h : bytesB xs = true) : allB xs 0 255 = true := by simp [bytesB] at h; exact h.2

set_option maxHeartbeats 400000 in
theorem areBytes_any {A : Option Addr} {n c : Nat} {xs : List Int} {w : World} {L B : Nat} (h : Ints w L B A n xs) :
    Calls Tryd.prog 71 #[.slice A n c] w fun e w' => e = .returned (.bool (bytesB xs)) ∧ w = w' := by
  have hl := h.len
  have hm := h.max
  have HL := Lib.hid hl
  clear hl
  by_cases h60 : n ≤ 60
  · have h1 : ((n : Int) ≤ 60) := by omega
    go_enter Tryd.func71, Tryd.ntmps71
    go_wp2_with (go_at_call 106; refine (allIn_any h).mono ?_; rintro e w' ⟨rfl, rfl⟩)
    go_ret
    have hx : xs.length ≤ 60 := by have := HL.out; omega
    exact ⟨ret_bool (by simp [bytesB, hx]), rfl⟩
  · have h1 : decide ((n : Int) ≤ 60) = false := by simp; omega
    go_enter Tryd.func71, Tryd.ntmps71
    go_wp2
    go_ret
    have hx : ¬ xs.length ≤ 60 := by have := HL.out; omega
    exact ⟨ret_bool (by simp [bytesB, hx]), rfl⟩

/-- A device's numbers are valid. -/
def validD (D : List Int) (p : Int) (S : List Int) (q : Int) : Bool :=
  bytesB D && (decide (S.length ≤ 12) && (allB S (-1) 60 && (inB p 0 60 && inB q 0 1000)))

set_option maxHeartbeats 400000 in
theorem ValidDevice_any {A A' : Option Addr} {n c n' c' : Nat} {D S : List Int} {p q : Int} {w : World} {L L' B B' : Nat} (h : Ints w L B A n D) (h' : Ints w L' B' A' n' S) (hB : B ≤ w.heap.size) (hB' : B' ≤ w.heap.size) :
    Calls Tryd.prog 84 #[.agg #[.slice A n c, .int .i64 p, .slice A' n' c', .int .i64 q]] w fun e w' => e = .returned (.bool (validD D p S q)) ∧ Below w.heap.size w w' := by
  have hl' := h'.len
  have hm := h'.max
  have HL := Lib.hid hl'
  clear hl'
  go_enter Tryd.func84, Tryd.ntmps84
  go_wp2_with (first | (go_at_call 71; refine (areBytes_any (h.alloc hB _)).mono ?_; rintro e w' ⟨rfl, rfl⟩) | (go_at_call 106; refine (allIn_any (h'.alloc hB' _)).mono ?_; rintro e w' ⟨rfl, rfl⟩) | (go_at_call 64; refine (isIn_any).mono ?_; rintro e w' ⟨rfl, rfl⟩))
  all_goals
    go_ret
    refine ⟨ret_bool ?_, by go_grown⟩
    have hn := HL.out
    first | (simp [validD, *]; done) | (simp [validD, *]; omega)
end Go.Proofs.YtdiebkaedjlckaaDoor
