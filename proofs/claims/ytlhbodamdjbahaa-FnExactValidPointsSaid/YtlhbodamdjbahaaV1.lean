/- impl's small functions of codes. -/
import Derived.Test.YtlhbodamdjbahaaV0
import Derived.Test.YtlhbodamdjbahaaS1d
namespace Go.Proofs.Ytlhbodamdjbahaa
open Go.ChangeShapes Go.WideShapes Go.ChangeAt Go.RowKit
set_option linter.unusedSimpArgs false
set_option linter.unusedVariables false
set_option maxRecDepth 100000

/-- The table of borders is there. -/
def tabL : List Value := [.int .i64 0, .int .i64 1, .int .i64 128, .int .i64 3, .int .i64 192, .int .i64 0, .int .i64 194, .int .i64 2, .int .i64 224, .int .i64 0]
/-- What a number is by the first k borders. -/
def prt (n : Int) (k : Nat) : Int := ([((0 : Int), (1 : Int)), (128, 3), (192, 0), (194, 2), (224, 0)].take k).foldl (fun a b => if b.1 ≤ n then b.2 else a) 0
theorem prt_all (n : Int) : prt n 5 = partN n := by
  simp only [prt, List.take_succ_cons, List.take_zero, List.foldl_cons, List.foldl_nil, partN]
  by_cases h1 : n < 0
  · rw [if_neg (by omega), if_neg (by omega), if_neg (by omega), if_neg (by omega), if_neg (by omega), if_pos h1]
  · by_cases h2 : n < 128
    · rw [if_neg (by omega), if_neg (by omega), if_neg (by omega), if_neg (by omega), if_pos (by omega), if_neg h1, if_pos h2]
    · by_cases h3 : n < 192
      · rw [if_neg (by omega), if_neg (by omega), if_neg (by omega), if_pos (by omega), if_neg h1, if_neg h2, if_pos h3]
      · by_cases h4 : n < 194
        · rw [if_neg (by omega), if_neg (by omega), if_pos (by omega), if_neg h1, if_neg h2, if_neg h3, if_pos h4]
        · by_cases h5 : n < 224
          · rw [if_neg (by omega), if_pos (by omega), if_neg h1, if_neg h2, if_neg h3, if_neg h4, if_pos h5]
          · rw [if_pos (by omega), if_neg h1, if_neg h2, if_neg h3, if_neg h4, if_neg h5]
theorem prt_0 (n : Int) : prt n 0 = 0 := rfl
theorem prt_1 (n : Int) : prt n 1 = if 0 ≤ n then 1 else prt n 0 := rfl
theorem prt_2 (n : Int) : prt n 2 = if 128 ≤ n then 3 else prt n 1 := rfl
theorem prt_3 (n : Int) : prt n 3 = if 192 ≤ n then 0 else prt n 2 := rfl
theorem prt_4 (n : Int) : prt n 4 = if 194 ≤ n then 2 else prt n 3 := rfl
theorem prt_5 (n : Int) : prt n 5 = if 224 ≤ n then 0 else prt n 4 := rfl

theorem isKept_any {p : Int} {w : World} : Calls Try.prog 16 #[.int .i32 p] w fun e w' => e = .returned (.bool (decide (2047 < p))) ∧ w = w' := by
  by_cases h : 2047 < p
  all_goals
    go_enter Try.func16, Try.ntmps16
    go_wp2
    go_ret
    exact ⟨ret_bool (by simp [h]), rfl⟩
/-- A number is a point. -/
def ptB (p : Int) : Bool := inB p 0 2047 || inB p 3128 3255
def ptsB (xs : List Int) : Bool := decide (xs.length ≤ 60) && xs.all ptB
theorem isPoint_any {p : Int} {w : World} : Calls Try.prog 14 #[.int .i64 p] w fun e w' => e = .returned (.bool (ptB p)) ∧ w = w' := by
  cases h : inB p 0 2047
  all_goals
    go_enter Try.func14, Try.ntmps14
    go_wp2_with (go_at_call 18; refine (isIn_any).mono ?_; rintro e w' ⟨rfl, rfl⟩)
    go_ret
    exact ⟨ret_bool (by simp [ptB, h]), rfl⟩
theorem all_snoc {f : Int → Bool} {xs : List Int} {k : Nat} {x : Int} (h : xs[k]? = some x) : (xs.take (k + 1)).all f = ((xs.take k).all f && f x) := by
  rw [take_snoc h]; simp [List.all_append]
theorem all_no {f : Int → Bool} {xs : List Int} {k : Nat} {x : Int} (h : xs[k]? = some x) (hx : f x = false) : xs.all f = false := by
  have hm : x ∈ xs := List.mem_of_getElem? h
  cases hb : xs.all f with
  | false => rfl
  | true => rw [List.all_eq_true] at hb; rw [hb x hm] at hx; cases hx
set_option maxHeartbeats 1000000 in
theorem ValidPoints_any {A : Option Addr} {n c : Nat} {xs : List Int} {w : World} {L B : Nat} (h : Ints w L B A n xs) :
    Calls Try.prog 7 #[.slice A n c] w fun e w' => e = .returned (.bool (ptsB xs)) ∧ w = w' := by
  have hm := h.max
  have hl := h.len
  have HL := Lib.hid hl
  clear hl
  by_cases h60 : n ≤ 60
  · have h1 : ¬ ((n : Int) > 60) := by omega
    go_enter Try.func7, Try.ntmps7
    go_wp2
    go_loop [10] (fun i => ∃ k : Nat, k ≤ n ∧ i = .int .i64 k ∧ (xs.take k).all ptB = true) (fun i => n - (intOf i).toNat)
    case atStart => exact ⟨0, Nat.zero_le _, rfl, rfl⟩
    case round =>
      obtain ⟨k, hk, rfl, hall⟩ := hrel
      have HA := Lib.hid hall
      clear hall
      by_cases hlt : k < n
      · obtain ⟨b, o, x, rfl, _, hc, hx⟩ := h.at_ hlt
        cases hb : ptB x
        · go_wp2_with (go_at_call 14; refine (isPoint_any).mono ?_; rintro e w' ⟨rfl, rfl⟩)
          go_ret
          exact ⟨ret_bool (by simp [ptsB, all_no hx.out hb]), rfl⟩
        · go_wp2_with (go_at_call 14; refine (isPoint_any).mono ?_; rintro e w' ⟨rfl, rfl⟩)
          go_round
          case rel => exact ⟨k + 1, by omega, by go_num, by rw [all_snoc hx.out, HA.out, hb]; rfl⟩
          case measure => simp [intOf]; omega
      · go_wp2
        go_ret
        have hkl : xs.take k = xs := List.take_of_length_le (by have := HL.out; omega)
        have h60' : xs.length ≤ 60 := by have := HL.out; omega
        exact ⟨ret_bool (by have := HA.out; rw [hkl] at this; simp only [ptsB, this]; simp [h60']), rfl⟩
  · have h1 : (n : Int) > 60 := by omega
    go_enter Try.func7, Try.ntmps7
    go_wp2
    go_ret
    have hx : ¬ xs.length ≤ 60 := by have := HL.out; omega
    exact ⟨ret_bool (by simp [ptsB, hx]), rfl⟩
end Go.Proofs.Ytlhbodamdjbahaa
