/- ValidAct, the program's and the model's. -/
import Derived.Test.YtdiebkaedjlckaaC1h
import Derived.Test.YtdiebkaedjlckaaS1h
namespace Go.Proofs.Ytdiebkaedjlckaa
open Go.ChangeShapes Go.WideShapes Go.ChangeAt Go.RowKit
set_option maxRecDepth 10000
set_option linter.unusedSimpArgs false
set_option linter.unusedVariables false

def validA (K N H : Int) (D : List Int) : Bool :=
  if K = 0 ∨ K = 3 then inB N 0 60 && (decide (H = 0) && decide (D.length = 0))
  else if K = 1 then decide (N = 0) && (decide (H = 0) && (decide (D.length ≤ 12) && allB D 0 255))
  else if K = 2 then (inB N (-60) 60 && inB H 0 2) && decide (D.length = 0)
  else if K = 4 ∨ K = 5 then decide (N = 0) && (decide (H = 0) && decide (D.length = 0))
  else false
theorem bytes12 {D : List Int} (h : D.length ≤ 12) : bytesB D = allB D 0 255 := by
  unfold bytesB
  rw [decide_eq_true (by omega)]
  rfl
set_option maxHeartbeats 2000000 in
theorem ValidAct_any {A : Option Addr} {n c : Nat} {D : List Int} {K N H : Int} {w : World} {L B : Nat} (h : Ints w L B A n D) (hB : B ≤ w.heap.size) :
    Calls Try.prog 29 #[.agg #[.int .i64 (K), .int .i64 (N), .int .i64 (H), .slice (A) n c]] w (BoolB (validA K N H D) w) := by
  have HL := Lib.hid h.len
  have H1 := Lib.hid (h.alloc hB (.cells #[.int .i64 (K), .int .i64 (N), .int .i64 (H), .slice (A) n c] 56))
  have X0 := Lib.hid (Box.new w 56 [.int .i64 (K), .int .i64 (N), .int .i64 (H), .slice (A) n c])
  have E0 : Hid (Below w.heap.size w (w.alloc (.cells #[.int .i64 (K), .int .i64 (N), .int .i64 (H), .slice (A) n c] 56))) := (by go_grown : Below w.heap.size w (w.alloc _))
  clear h
  have x0 := (X0.out.2 0 _ rfl).1; have x1 := (X0.out.2 1 _ rfl).1; have x2 := (X0.out.2 2 _ rfl).1; have x3 := (X0.out.2 3 _ rfl).1
  by_cases hk0 : K = 0
  · subst hk0
    cases hN : inB N 0 60
    · go_enter Try.func29, Try.ntmps29
      go_wp2_with (first | (go_at_call 46; refine (isIn_any).mono ?_; rintro e w' ⟨rfl, rfl⟩) | (go_at_call 67; refine isSeek_any.mono ?_; rintro e w9 ⟨rfl, rfl⟩) | (go_at_call 57; refine (areBytes_any H1.out).mono ?_; rintro e w9 ⟨rfl, rfl⟩; rw [bytes12 hl12]) | fail)
      go_ret
      exact ⟨ret_bool (by have hl := HL.out; (try subst hl); simp [validA, *]), E0.out⟩
    · by_cases hH : H = 0
      · subst hH
        by_cases hn : n = 0
        · subst hn
          go_enter Try.func29, Try.ntmps29
          go_wp2_with (first | (go_at_call 46; refine (isIn_any).mono ?_; rintro e w' ⟨rfl, rfl⟩) | (go_at_call 67; refine isSeek_any.mono ?_; rintro e w9 ⟨rfl, rfl⟩) | (go_at_call 57; refine (areBytes_any H1.out).mono ?_; rintro e w9 ⟨rfl, rfl⟩; rw [bytes12 hl12]) | fail)
          go_ret
          exact ⟨ret_bool (by have hl := HL.out; (try subst hl); simp [validA, *]), E0.out⟩
        · have h0 : ((n : Int) == 0) = false := by simp; omega
          have hl0 : ¬ D = [] := by rintro rfl; have := HL.out; simp at this; omega
          go_enter Try.func29, Try.ntmps29
          go_wp2_with (first | (go_at_call 46; refine (isIn_any).mono ?_; rintro e w' ⟨rfl, rfl⟩) | (go_at_call 67; refine isSeek_any.mono ?_; rintro e w9 ⟨rfl, rfl⟩) | (go_at_call 57; refine (areBytes_any H1.out).mono ?_; rintro e w9 ⟨rfl, rfl⟩; rw [bytes12 hl12]) | fail)
          go_ret
          exact ⟨ret_bool (by have hl := HL.out; (try subst hl); simp [validA, *]), E0.out⟩
      · have h0 : (H == 0) = false := by simp [hH]
        go_enter Try.func29, Try.ntmps29
        go_wp2_with (first | (go_at_call 46; refine (isIn_any).mono ?_; rintro e w' ⟨rfl, rfl⟩) | (go_at_call 67; refine isSeek_any.mono ?_; rintro e w9 ⟨rfl, rfl⟩) | (go_at_call 57; refine (areBytes_any H1.out).mono ?_; rintro e w9 ⟨rfl, rfl⟩; rw [bytes12 hl12]) | fail)
        go_ret
        exact ⟨ret_bool (by have hl := HL.out; (try subst hl); simp [validA, *]), E0.out⟩
  have k0 : (K == 0) = false := by simp [hk0]
  by_cases hk3 : K = 3
  · subst hk3
    cases hN : inB N 0 60
    · go_enter Try.func29, Try.ntmps29
      go_wp2_with (first | (go_at_call 46; refine (isIn_any).mono ?_; rintro e w' ⟨rfl, rfl⟩) | (go_at_call 67; refine isSeek_any.mono ?_; rintro e w9 ⟨rfl, rfl⟩) | (go_at_call 57; refine (areBytes_any H1.out).mono ?_; rintro e w9 ⟨rfl, rfl⟩; rw [bytes12 hl12]) | fail)
      go_ret
      exact ⟨ret_bool (by have hl := HL.out; (try subst hl); simp [validA, *]), E0.out⟩
    · by_cases hH : H = 0
      · subst hH
        by_cases hn : n = 0
        · subst hn
          go_enter Try.func29, Try.ntmps29
          go_wp2_with (first | (go_at_call 46; refine (isIn_any).mono ?_; rintro e w' ⟨rfl, rfl⟩) | (go_at_call 67; refine isSeek_any.mono ?_; rintro e w9 ⟨rfl, rfl⟩) | (go_at_call 57; refine (areBytes_any H1.out).mono ?_; rintro e w9 ⟨rfl, rfl⟩; rw [bytes12 hl12]) | fail)
          go_ret
          exact ⟨ret_bool (by have hl := HL.out; (try subst hl); simp [validA, *]), E0.out⟩
        · have h0 : ((n : Int) == 0) = false := by simp; omega
          have hl0 : ¬ D = [] := by rintro rfl; have := HL.out; simp at this; omega
          go_enter Try.func29, Try.ntmps29
          go_wp2_with (first | (go_at_call 46; refine (isIn_any).mono ?_; rintro e w' ⟨rfl, rfl⟩) | (go_at_call 67; refine isSeek_any.mono ?_; rintro e w9 ⟨rfl, rfl⟩) | (go_at_call 57; refine (areBytes_any H1.out).mono ?_; rintro e w9 ⟨rfl, rfl⟩; rw [bytes12 hl12]) | fail)
          go_ret
          exact ⟨ret_bool (by have hl := HL.out; (try subst hl); simp [validA, *]), E0.out⟩
      · have h0 : (H == 0) = false := by simp [hH]
        go_enter Try.func29, Try.ntmps29
        go_wp2_with (first | (go_at_call 46; refine (isIn_any).mono ?_; rintro e w' ⟨rfl, rfl⟩) | (go_at_call 67; refine isSeek_any.mono ?_; rintro e w9 ⟨rfl, rfl⟩) | (go_at_call 57; refine (areBytes_any H1.out).mono ?_; rintro e w9 ⟨rfl, rfl⟩; rw [bytes12 hl12]) | fail)
        go_ret
        exact ⟨ret_bool (by have hl := HL.out; (try subst hl); simp [validA, *]), E0.out⟩
  have k3 : (K == 3) = false := by simp [hk3]
  by_cases hk1 : K = 1
  · subst hk1
    by_cases hN : N = 0
    · subst hN
      by_cases hH : H = 0
      · subst hH
        by_cases hn : n ≤ 12
        · have hni : (n : Int) ≤ 12 := by omega
          have hl12 : D.length ≤ 12 := by have := HL.out; omega
          go_enter Try.func29, Try.ntmps29
          go_wp2_with (first | (go_at_call 46; refine (isIn_any).mono ?_; rintro e w' ⟨rfl, rfl⟩) | (go_at_call 67; refine isSeek_any.mono ?_; rintro e w9 ⟨rfl, rfl⟩) | (go_at_call 57; refine (areBytes_any H1.out).mono ?_; rintro e w9 ⟨rfl, rfl⟩; rw [bytes12 hl12]) | fail)
          go_ret
          exact ⟨ret_bool (by have hl := HL.out; (try subst hl); simp [validA, *]), E0.out⟩
        · have hni : ¬ (n : Int) ≤ 12 := by omega
          have hl12 : ¬ D.length ≤ 12 := by have := HL.out; omega
          go_enter Try.func29, Try.ntmps29
          go_wp2_with (first | (go_at_call 46; refine (isIn_any).mono ?_; rintro e w' ⟨rfl, rfl⟩) | (go_at_call 67; refine isSeek_any.mono ?_; rintro e w9 ⟨rfl, rfl⟩) | (go_at_call 57; refine (areBytes_any H1.out).mono ?_; rintro e w9 ⟨rfl, rfl⟩; rw [bytes12 hl12]) | fail)
          go_ret
          exact ⟨ret_bool (by have hl := HL.out; (try subst hl); simp [validA, *]), E0.out⟩
      · have h0 : (H == 0) = false := by simp [hH]
        go_enter Try.func29, Try.ntmps29
        go_wp2_with (first | (go_at_call 46; refine (isIn_any).mono ?_; rintro e w' ⟨rfl, rfl⟩) | (go_at_call 67; refine isSeek_any.mono ?_; rintro e w9 ⟨rfl, rfl⟩) | (go_at_call 57; refine (areBytes_any H1.out).mono ?_; rintro e w9 ⟨rfl, rfl⟩; rw [bytes12 hl12]) | fail)
        go_ret
        exact ⟨ret_bool (by have hl := HL.out; (try subst hl); simp [validA, *]), E0.out⟩
    · have h0 : (N == 0) = false := by simp [hN]
      go_enter Try.func29, Try.ntmps29
      go_wp2_with (first | (go_at_call 46; refine (isIn_any).mono ?_; rintro e w' ⟨rfl, rfl⟩) | (go_at_call 67; refine isSeek_any.mono ?_; rintro e w9 ⟨rfl, rfl⟩) | (go_at_call 57; refine (areBytes_any H1.out).mono ?_; rintro e w9 ⟨rfl, rfl⟩; rw [bytes12 hl12]) | fail)
      go_ret
      exact ⟨ret_bool (by have hl := HL.out; (try subst hl); simp [validA, *]), E0.out⟩
  have k1 : (K == 1) = false := by simp [hk1]
  by_cases hk2 : K = 2
  · subst hk2
    cases hN : (inB N (-60) 60 && inB H 0 2)
    · go_enter Try.func29, Try.ntmps29
      go_wp2_with (first | (go_at_call 46; refine (isIn_any).mono ?_; rintro e w' ⟨rfl, rfl⟩) | (go_at_call 67; refine isSeek_any.mono ?_; rintro e w9 ⟨rfl, rfl⟩) | (go_at_call 57; refine (areBytes_any H1.out).mono ?_; rintro e w9 ⟨rfl, rfl⟩; rw [bytes12 hl12]) | fail)
      go_ret
      exact ⟨ret_bool (by have hl := HL.out; (try subst hl); simp [validA, *]), E0.out⟩
    · by_cases hn : n = 0
      · subst hn
        go_enter Try.func29, Try.ntmps29
        go_wp2_with (first | (go_at_call 46; refine (isIn_any).mono ?_; rintro e w' ⟨rfl, rfl⟩) | (go_at_call 67; refine isSeek_any.mono ?_; rintro e w9 ⟨rfl, rfl⟩) | (go_at_call 57; refine (areBytes_any H1.out).mono ?_; rintro e w9 ⟨rfl, rfl⟩; rw [bytes12 hl12]) | fail)
        go_ret
        exact ⟨ret_bool (by have hl := HL.out; (try subst hl); simp [validA, *]), E0.out⟩
      · have h0 : ((n : Int) == 0) = false := by simp; omega
        have hl0 : ¬ D = [] := by rintro rfl; have := HL.out; simp at this; omega
        go_enter Try.func29, Try.ntmps29
        go_wp2_with (first | (go_at_call 46; refine (isIn_any).mono ?_; rintro e w' ⟨rfl, rfl⟩) | (go_at_call 67; refine isSeek_any.mono ?_; rintro e w9 ⟨rfl, rfl⟩) | (go_at_call 57; refine (areBytes_any H1.out).mono ?_; rintro e w9 ⟨rfl, rfl⟩; rw [bytes12 hl12]) | fail)
        go_ret
        exact ⟨ret_bool (by have hl := HL.out; (try subst hl); simp [validA, *]), E0.out⟩
  have k2 : (K == 2) = false := by simp [hk2]
  by_cases hk4 : K = 4
  · subst hk4
    by_cases hN : N = 0
    · subst hN
      by_cases hH : H = 0
      · subst hH
        by_cases hn : n = 0
        · subst hn
          go_enter Try.func29, Try.ntmps29
          go_wp2_with (first | (go_at_call 46; refine (isIn_any).mono ?_; rintro e w' ⟨rfl, rfl⟩) | (go_at_call 67; refine isSeek_any.mono ?_; rintro e w9 ⟨rfl, rfl⟩) | (go_at_call 57; refine (areBytes_any H1.out).mono ?_; rintro e w9 ⟨rfl, rfl⟩; rw [bytes12 hl12]) | fail)
          go_ret
          exact ⟨ret_bool (by have hl := HL.out; (try subst hl); simp [validA, *]), E0.out⟩
        · have h0 : ((n : Int) == 0) = false := by simp; omega
          have hl0 : ¬ D = [] := by rintro rfl; have := HL.out; simp at this; omega
          go_enter Try.func29, Try.ntmps29
          go_wp2_with (first | (go_at_call 46; refine (isIn_any).mono ?_; rintro e w' ⟨rfl, rfl⟩) | (go_at_call 67; refine isSeek_any.mono ?_; rintro e w9 ⟨rfl, rfl⟩) | (go_at_call 57; refine (areBytes_any H1.out).mono ?_; rintro e w9 ⟨rfl, rfl⟩; rw [bytes12 hl12]) | fail)
          go_ret
          exact ⟨ret_bool (by have hl := HL.out; (try subst hl); simp [validA, *]), E0.out⟩
      · have h0 : (H == 0) = false := by simp [hH]
        go_enter Try.func29, Try.ntmps29
        go_wp2_with (first | (go_at_call 46; refine (isIn_any).mono ?_; rintro e w' ⟨rfl, rfl⟩) | (go_at_call 67; refine isSeek_any.mono ?_; rintro e w9 ⟨rfl, rfl⟩) | (go_at_call 57; refine (areBytes_any H1.out).mono ?_; rintro e w9 ⟨rfl, rfl⟩; rw [bytes12 hl12]) | fail)
        go_ret
        exact ⟨ret_bool (by have hl := HL.out; (try subst hl); simp [validA, *]), E0.out⟩
    · have h0 : (N == 0) = false := by simp [hN]
      go_enter Try.func29, Try.ntmps29
      go_wp2_with (first | (go_at_call 46; refine (isIn_any).mono ?_; rintro e w' ⟨rfl, rfl⟩) | (go_at_call 67; refine isSeek_any.mono ?_; rintro e w9 ⟨rfl, rfl⟩) | (go_at_call 57; refine (areBytes_any H1.out).mono ?_; rintro e w9 ⟨rfl, rfl⟩; rw [bytes12 hl12]) | fail)
      go_ret
      exact ⟨ret_bool (by have hl := HL.out; (try subst hl); simp [validA, *]), E0.out⟩
  have k4 : (K == 4) = false := by simp [hk4]
  by_cases hk5 : K = 5
  · subst hk5
    by_cases hN : N = 0
    · subst hN
      by_cases hH : H = 0
      · subst hH
        by_cases hn : n = 0
        · subst hn
          go_enter Try.func29, Try.ntmps29
          go_wp2_with (first | (go_at_call 46; refine (isIn_any).mono ?_; rintro e w' ⟨rfl, rfl⟩) | (go_at_call 67; refine isSeek_any.mono ?_; rintro e w9 ⟨rfl, rfl⟩) | (go_at_call 57; refine (areBytes_any H1.out).mono ?_; rintro e w9 ⟨rfl, rfl⟩; rw [bytes12 hl12]) | fail)
          go_ret
          exact ⟨ret_bool (by have hl := HL.out; (try subst hl); simp [validA, *]), E0.out⟩
        · have h0 : ((n : Int) == 0) = false := by simp; omega
          have hl0 : ¬ D = [] := by rintro rfl; have := HL.out; simp at this; omega
          go_enter Try.func29, Try.ntmps29
          go_wp2_with (first | (go_at_call 46; refine (isIn_any).mono ?_; rintro e w' ⟨rfl, rfl⟩) | (go_at_call 67; refine isSeek_any.mono ?_; rintro e w9 ⟨rfl, rfl⟩) | (go_at_call 57; refine (areBytes_any H1.out).mono ?_; rintro e w9 ⟨rfl, rfl⟩; rw [bytes12 hl12]) | fail)
          go_ret
          exact ⟨ret_bool (by have hl := HL.out; (try subst hl); simp [validA, *]), E0.out⟩
      · have h0 : (H == 0) = false := by simp [hH]
        go_enter Try.func29, Try.ntmps29
        go_wp2_with (first | (go_at_call 46; refine (isIn_any).mono ?_; rintro e w' ⟨rfl, rfl⟩) | (go_at_call 67; refine isSeek_any.mono ?_; rintro e w9 ⟨rfl, rfl⟩) | (go_at_call 57; refine (areBytes_any H1.out).mono ?_; rintro e w9 ⟨rfl, rfl⟩; rw [bytes12 hl12]) | fail)
        go_ret
        exact ⟨ret_bool (by have hl := HL.out; (try subst hl); simp [validA, *]), E0.out⟩
    · have h0 : (N == 0) = false := by simp [hN]
      go_enter Try.func29, Try.ntmps29
      go_wp2_with (first | (go_at_call 46; refine (isIn_any).mono ?_; rintro e w' ⟨rfl, rfl⟩) | (go_at_call 67; refine isSeek_any.mono ?_; rintro e w9 ⟨rfl, rfl⟩) | (go_at_call 57; refine (areBytes_any H1.out).mono ?_; rintro e w9 ⟨rfl, rfl⟩; rw [bytes12 hl12]) | fail)
      go_ret
      exact ⟨ret_bool (by have hl := HL.out; (try subst hl); simp [validA, *]), E0.out⟩
  have k5 : (K == 5) = false := by simp [hk5]
  go_enter Try.func29, Try.ntmps29
  go_wp2_with (first | (go_at_call 46; refine (isIn_any).mono ?_; rintro e w' ⟨rfl, rfl⟩) | (go_at_call 67; refine isSeek_any.mono ?_; rintro e w9 ⟨rfl, rfl⟩) | (go_at_call 57; refine (areBytes_any H1.out).mono ?_; rintro e w9 ⟨rfl, rfl⟩; rw [bytes12 hl12]) | fail)
  go_ret
  exact ⟨ret_bool (by have hl := HL.out; (try subst hl); simp [validA, *]), E0.out⟩

theorem ValidAct_x {A : Option Addr} {n c : Nat} {D : List Int} {K N H : Int} {w : World} {L B : Nat} (h : Ints w L B A n D) (hB : B ≤ w.heap.size) (_hc : n ≤ c) (_hn : n ≤ 1048576) :
    Calls Try.prog 29 #[.agg #[.int .i64 (K), .int .i64 (N), .int .i64 (H), .slice (A) n c]] w (BoolB (validA K N H D) w) := ValidAct_any h hB
set_option maxHeartbeats 2000000 in
theorem sValidAct_any {A : Option Addr} {n c : Nat} {D : List Int} {K N H : Int} {w : World} {L B : Nat} (h : Ints w L B A n D) (hB : B ≤ w.heap.size) :
    Calls Try.prog 65 #[.agg #[.int .i64 (K), .int .i64 (N), .int .i64 (H), .slice (A) n c]] w (BoolB (validA K N H D) w) := by
  have HL := Lib.hid h.len
  have H1 := Lib.hid (h.alloc hB (.cells #[.int .i64 (K), .int .i64 (N), .int .i64 (H), .slice (A) n c] 56))
  have X0 := Lib.hid (Box.new w 56 [.int .i64 (K), .int .i64 (N), .int .i64 (H), .slice (A) n c])
  have E0 : Hid (Below w.heap.size w (w.alloc (.cells #[.int .i64 (K), .int .i64 (N), .int .i64 (H), .slice (A) n c] 56))) := (by go_grown : Below w.heap.size w (w.alloc _))
  clear h
  have x0 := (X0.out.2 0 _ rfl).1; have x1 := (X0.out.2 1 _ rfl).1; have x2 := (X0.out.2 2 _ rfl).1; have x3 := (X0.out.2 3 _ rfl).1
  by_cases hk0 : K = 0
  · subst hk0
    cases hN : inB N 0 60
    · go_enter Try.func65, Try.ntmps65
      go_wp2_with (first | (go_at_call 51; refine (inRange_any).mono ?_; rintro e w' ⟨rfl, rfl⟩) | (go_at_call 62; refine goodSeek_any.mono ?_; rintro e w9 ⟨rfl, rfl⟩) | (go_at_call 78; refine (sAllIn_any H1.out).mono ?_; rintro e w9 ⟨rfl, rfl⟩) | fail)
      go_ret
      exact ⟨ret_bool (by have hl := HL.out; (try subst hl); simp [validA, *]), E0.out⟩
    · by_cases hH : H = 0
      · subst hH
        by_cases hn : n = 0
        · subst hn
          go_enter Try.func65, Try.ntmps65
          go_wp2_with (first | (go_at_call 51; refine (inRange_any).mono ?_; rintro e w' ⟨rfl, rfl⟩) | (go_at_call 62; refine goodSeek_any.mono ?_; rintro e w9 ⟨rfl, rfl⟩) | (go_at_call 78; refine (sAllIn_any H1.out).mono ?_; rintro e w9 ⟨rfl, rfl⟩) | fail)
          go_ret
          exact ⟨ret_bool (by have hl := HL.out; (try subst hl); simp [validA, *]), E0.out⟩
        · have h0 : ((n : Int) == 0) = false := by simp; omega
          have hl0 : ¬ D = [] := by rintro rfl; have := HL.out; simp at this; omega
          go_enter Try.func65, Try.ntmps65
          go_wp2_with (first | (go_at_call 51; refine (inRange_any).mono ?_; rintro e w' ⟨rfl, rfl⟩) | (go_at_call 62; refine goodSeek_any.mono ?_; rintro e w9 ⟨rfl, rfl⟩) | (go_at_call 78; refine (sAllIn_any H1.out).mono ?_; rintro e w9 ⟨rfl, rfl⟩) | fail)
          go_ret
          exact ⟨ret_bool (by have hl := HL.out; (try subst hl); simp [validA, *]), E0.out⟩
      · have h0 : (H == 0) = false := by simp [hH]
        go_enter Try.func65, Try.ntmps65
        go_wp2_with (first | (go_at_call 51; refine (inRange_any).mono ?_; rintro e w' ⟨rfl, rfl⟩) | (go_at_call 62; refine goodSeek_any.mono ?_; rintro e w9 ⟨rfl, rfl⟩) | (go_at_call 78; refine (sAllIn_any H1.out).mono ?_; rintro e w9 ⟨rfl, rfl⟩) | fail)
        go_ret
        exact ⟨ret_bool (by have hl := HL.out; (try subst hl); simp [validA, *]), E0.out⟩
  have k0 : (K == 0) = false := by simp [hk0]
  by_cases hk3 : K = 3
  · subst hk3
    cases hN : inB N 0 60
    · go_enter Try.func65, Try.ntmps65
      go_wp2_with (first | (go_at_call 51; refine (inRange_any).mono ?_; rintro e w' ⟨rfl, rfl⟩) | (go_at_call 62; refine goodSeek_any.mono ?_; rintro e w9 ⟨rfl, rfl⟩) | (go_at_call 78; refine (sAllIn_any H1.out).mono ?_; rintro e w9 ⟨rfl, rfl⟩) | fail)
      go_ret
      exact ⟨ret_bool (by have hl := HL.out; (try subst hl); simp [validA, *]), E0.out⟩
    · by_cases hH : H = 0
      · subst hH
        by_cases hn : n = 0
        · subst hn
          go_enter Try.func65, Try.ntmps65
          go_wp2_with (first | (go_at_call 51; refine (inRange_any).mono ?_; rintro e w' ⟨rfl, rfl⟩) | (go_at_call 62; refine goodSeek_any.mono ?_; rintro e w9 ⟨rfl, rfl⟩) | (go_at_call 78; refine (sAllIn_any H1.out).mono ?_; rintro e w9 ⟨rfl, rfl⟩) | fail)
          go_ret
          exact ⟨ret_bool (by have hl := HL.out; (try subst hl); simp [validA, *]), E0.out⟩
        · have h0 : ((n : Int) == 0) = false := by simp; omega
          have hl0 : ¬ D = [] := by rintro rfl; have := HL.out; simp at this; omega
          go_enter Try.func65, Try.ntmps65
          go_wp2_with (first | (go_at_call 51; refine (inRange_any).mono ?_; rintro e w' ⟨rfl, rfl⟩) | (go_at_call 62; refine goodSeek_any.mono ?_; rintro e w9 ⟨rfl, rfl⟩) | (go_at_call 78; refine (sAllIn_any H1.out).mono ?_; rintro e w9 ⟨rfl, rfl⟩) | fail)
          go_ret
          exact ⟨ret_bool (by have hl := HL.out; (try subst hl); simp [validA, *]), E0.out⟩
      · have h0 : (H == 0) = false := by simp [hH]
        go_enter Try.func65, Try.ntmps65
        go_wp2_with (first | (go_at_call 51; refine (inRange_any).mono ?_; rintro e w' ⟨rfl, rfl⟩) | (go_at_call 62; refine goodSeek_any.mono ?_; rintro e w9 ⟨rfl, rfl⟩) | (go_at_call 78; refine (sAllIn_any H1.out).mono ?_; rintro e w9 ⟨rfl, rfl⟩) | fail)
        go_ret
        exact ⟨ret_bool (by have hl := HL.out; (try subst hl); simp [validA, *]), E0.out⟩
  have k3 : (K == 3) = false := by simp [hk3]
  by_cases hk1 : K = 1
  · subst hk1
    by_cases hN : N = 0
    · subst hN
      by_cases hH : H = 0
      · subst hH
        by_cases hn : n ≤ 12
        · have hni : (n : Int) ≤ 12 := by omega
          have hl12 : D.length ≤ 12 := by have := HL.out; omega
          go_enter Try.func65, Try.ntmps65
          go_wp2_with (first | (go_at_call 51; refine (inRange_any).mono ?_; rintro e w' ⟨rfl, rfl⟩) | (go_at_call 62; refine goodSeek_any.mono ?_; rintro e w9 ⟨rfl, rfl⟩) | (go_at_call 78; refine (sAllIn_any H1.out).mono ?_; rintro e w9 ⟨rfl, rfl⟩) | fail)
          go_ret
          exact ⟨ret_bool (by have hl := HL.out; (try subst hl); simp [validA, *]), E0.out⟩
        · have hni : ¬ (n : Int) ≤ 12 := by omega
          have hl12 : ¬ D.length ≤ 12 := by have := HL.out; omega
          go_enter Try.func65, Try.ntmps65
          go_wp2_with (first | (go_at_call 51; refine (inRange_any).mono ?_; rintro e w' ⟨rfl, rfl⟩) | (go_at_call 62; refine goodSeek_any.mono ?_; rintro e w9 ⟨rfl, rfl⟩) | (go_at_call 78; refine (sAllIn_any H1.out).mono ?_; rintro e w9 ⟨rfl, rfl⟩) | fail)
          go_ret
          exact ⟨ret_bool (by have hl := HL.out; (try subst hl); simp [validA, *]), E0.out⟩
      · have h0 : (H == 0) = false := by simp [hH]
        go_enter Try.func65, Try.ntmps65
        go_wp2_with (first | (go_at_call 51; refine (inRange_any).mono ?_; rintro e w' ⟨rfl, rfl⟩) | (go_at_call 62; refine goodSeek_any.mono ?_; rintro e w9 ⟨rfl, rfl⟩) | (go_at_call 78; refine (sAllIn_any H1.out).mono ?_; rintro e w9 ⟨rfl, rfl⟩) | fail)
        go_ret
        exact ⟨ret_bool (by have hl := HL.out; (try subst hl); simp [validA, *]), E0.out⟩
    · have h0 : (N == 0) = false := by simp [hN]
      go_enter Try.func65, Try.ntmps65
      go_wp2_with (first | (go_at_call 51; refine (inRange_any).mono ?_; rintro e w' ⟨rfl, rfl⟩) | (go_at_call 62; refine goodSeek_any.mono ?_; rintro e w9 ⟨rfl, rfl⟩) | (go_at_call 78; refine (sAllIn_any H1.out).mono ?_; rintro e w9 ⟨rfl, rfl⟩) | fail)
      go_ret
      exact ⟨ret_bool (by have hl := HL.out; (try subst hl); simp [validA, *]), E0.out⟩
  have k1 : (K == 1) = false := by simp [hk1]
  by_cases hk2 : K = 2
  · subst hk2
    cases hN : (inB N (-60) 60 && inB H 0 2)
    · go_enter Try.func65, Try.ntmps65
      go_wp2_with (first | (go_at_call 51; refine (inRange_any).mono ?_; rintro e w' ⟨rfl, rfl⟩) | (go_at_call 62; refine goodSeek_any.mono ?_; rintro e w9 ⟨rfl, rfl⟩) | (go_at_call 78; refine (sAllIn_any H1.out).mono ?_; rintro e w9 ⟨rfl, rfl⟩) | fail)
      go_ret
      exact ⟨ret_bool (by have hl := HL.out; (try subst hl); simp [validA, *]), E0.out⟩
    · by_cases hn : n = 0
      · subst hn
        go_enter Try.func65, Try.ntmps65
        go_wp2_with (first | (go_at_call 51; refine (inRange_any).mono ?_; rintro e w' ⟨rfl, rfl⟩) | (go_at_call 62; refine goodSeek_any.mono ?_; rintro e w9 ⟨rfl, rfl⟩) | (go_at_call 78; refine (sAllIn_any H1.out).mono ?_; rintro e w9 ⟨rfl, rfl⟩) | fail)
        go_ret
        exact ⟨ret_bool (by have hl := HL.out; (try subst hl); simp [validA, *]), E0.out⟩
      · have h0 : ((n : Int) == 0) = false := by simp; omega
        have hl0 : ¬ D = [] := by rintro rfl; have := HL.out; simp at this; omega
        go_enter Try.func65, Try.ntmps65
        go_wp2_with (first | (go_at_call 51; refine (inRange_any).mono ?_; rintro e w' ⟨rfl, rfl⟩) | (go_at_call 62; refine goodSeek_any.mono ?_; rintro e w9 ⟨rfl, rfl⟩) | (go_at_call 78; refine (sAllIn_any H1.out).mono ?_; rintro e w9 ⟨rfl, rfl⟩) | fail)
        go_ret
        exact ⟨ret_bool (by have hl := HL.out; (try subst hl); simp [validA, *]), E0.out⟩
  have k2 : (K == 2) = false := by simp [hk2]
  by_cases hk4 : K = 4
  · subst hk4
    by_cases hN : N = 0
    · subst hN
      by_cases hH : H = 0
      · subst hH
        by_cases hn : n = 0
        · subst hn
          go_enter Try.func65, Try.ntmps65
          go_wp2_with (first | (go_at_call 51; refine (inRange_any).mono ?_; rintro e w' ⟨rfl, rfl⟩) | (go_at_call 62; refine goodSeek_any.mono ?_; rintro e w9 ⟨rfl, rfl⟩) | (go_at_call 78; refine (sAllIn_any H1.out).mono ?_; rintro e w9 ⟨rfl, rfl⟩) | fail)
          go_ret
          exact ⟨ret_bool (by have hl := HL.out; (try subst hl); simp [validA, *]), E0.out⟩
        · have h0 : ((n : Int) == 0) = false := by simp; omega
          have hl0 : ¬ D = [] := by rintro rfl; have := HL.out; simp at this; omega
          go_enter Try.func65, Try.ntmps65
          go_wp2_with (first | (go_at_call 51; refine (inRange_any).mono ?_; rintro e w' ⟨rfl, rfl⟩) | (go_at_call 62; refine goodSeek_any.mono ?_; rintro e w9 ⟨rfl, rfl⟩) | (go_at_call 78; refine (sAllIn_any H1.out).mono ?_; rintro e w9 ⟨rfl, rfl⟩) | fail)
          go_ret
          exact ⟨ret_bool (by have hl := HL.out; (try subst hl); simp [validA, *]), E0.out⟩
      · have h0 : (H == 0) = false := by simp [hH]
        go_enter Try.func65, Try.ntmps65
        go_wp2_with (first | (go_at_call 51; refine (inRange_any).mono ?_; rintro e w' ⟨rfl, rfl⟩) | (go_at_call 62; refine goodSeek_any.mono ?_; rintro e w9 ⟨rfl, rfl⟩) | (go_at_call 78; refine (sAllIn_any H1.out).mono ?_; rintro e w9 ⟨rfl, rfl⟩) | fail)
        go_ret
        exact ⟨ret_bool (by have hl := HL.out; (try subst hl); simp [validA, *]), E0.out⟩
    · have h0 : (N == 0) = false := by simp [hN]
      go_enter Try.func65, Try.ntmps65
      go_wp2_with (first | (go_at_call 51; refine (inRange_any).mono ?_; rintro e w' ⟨rfl, rfl⟩) | (go_at_call 62; refine goodSeek_any.mono ?_; rintro e w9 ⟨rfl, rfl⟩) | (go_at_call 78; refine (sAllIn_any H1.out).mono ?_; rintro e w9 ⟨rfl, rfl⟩) | fail)
      go_ret
      exact ⟨ret_bool (by have hl := HL.out; (try subst hl); simp [validA, *]), E0.out⟩
  have k4 : (K == 4) = false := by simp [hk4]
  by_cases hk5 : K = 5
  · subst hk5
    by_cases hN : N = 0
    · subst hN
      by_cases hH : H = 0
      · subst hH
        by_cases hn : n = 0
        · subst hn
          go_enter Try.func65, Try.ntmps65
          go_wp2_with (first | (go_at_call 51; refine (inRange_any).mono ?_; rintro e w' ⟨rfl, rfl⟩) | (go_at_call 62; refine goodSeek_any.mono ?_; rintro e w9 ⟨rfl, rfl⟩) | (go_at_call 78; refine (sAllIn_any H1.out).mono ?_; rintro e w9 ⟨rfl, rfl⟩) | fail)
          go_ret
          exact ⟨ret_bool (by have hl := HL.out; (try subst hl); simp [validA, *]), E0.out⟩
        · have h0 : ((n : Int) == 0) = false := by simp; omega
          have hl0 : ¬ D = [] := by rintro rfl; have := HL.out; simp at this; omega
          go_enter Try.func65, Try.ntmps65
          go_wp2_with (first | (go_at_call 51; refine (inRange_any).mono ?_; rintro e w' ⟨rfl, rfl⟩) | (go_at_call 62; refine goodSeek_any.mono ?_; rintro e w9 ⟨rfl, rfl⟩) | (go_at_call 78; refine (sAllIn_any H1.out).mono ?_; rintro e w9 ⟨rfl, rfl⟩) | fail)
          go_ret
          exact ⟨ret_bool (by have hl := HL.out; (try subst hl); simp [validA, *]), E0.out⟩
      · have h0 : (H == 0) = false := by simp [hH]
        go_enter Try.func65, Try.ntmps65
        go_wp2_with (first | (go_at_call 51; refine (inRange_any).mono ?_; rintro e w' ⟨rfl, rfl⟩) | (go_at_call 62; refine goodSeek_any.mono ?_; rintro e w9 ⟨rfl, rfl⟩) | (go_at_call 78; refine (sAllIn_any H1.out).mono ?_; rintro e w9 ⟨rfl, rfl⟩) | fail)
        go_ret
        exact ⟨ret_bool (by have hl := HL.out; (try subst hl); simp [validA, *]), E0.out⟩
    · have h0 : (N == 0) = false := by simp [hN]
      go_enter Try.func65, Try.ntmps65
      go_wp2_with (first | (go_at_call 51; refine (inRange_any).mono ?_; rintro e w' ⟨rfl, rfl⟩) | (go_at_call 62; refine goodSeek_any.mono ?_; rintro e w9 ⟨rfl, rfl⟩) | (go_at_call 78; refine (sAllIn_any H1.out).mono ?_; rintro e w9 ⟨rfl, rfl⟩) | fail)
      go_ret
      exact ⟨ret_bool (by have hl := HL.out; (try subst hl); simp [validA, *]), E0.out⟩
  have k5 : (K == 5) = false := by simp [hk5]
  go_enter Try.func65, Try.ntmps65
  go_wp2_with (first | (go_at_call 51; refine (inRange_any).mono ?_; rintro e w' ⟨rfl, rfl⟩) | (go_at_call 62; refine goodSeek_any.mono ?_; rintro e w9 ⟨rfl, rfl⟩) | (go_at_call 78; refine (sAllIn_any H1.out).mono ?_; rintro e w9 ⟨rfl, rfl⟩) | fail)
  go_ret
  exact ⟨ret_bool (by have hl := HL.out; (try subst hl); simp [validA, *]), E0.out⟩

set_option maxHeartbeats 1000000 in
theorem SValidAct_x {A : Option Addr} {n c : Nat} {D : List Int} {K N H : Int} {w : World} {L B : Nat} (h : Ints w L B A n D) (hB : B ≤ w.heap.size) (_hc : n ≤ c) (_hn : n ≤ 1048576) :
    Calls Try.prog 27 #[.agg #[.int .i64 (K), .int .i64 (N), .int .i64 (H), .slice (A) n c]] w (BoolB (validA K N H D) w) := by
  have H1 := Lib.hid (h.alloc hB (.cells #[.int .i64 (K), .int .i64 (N), .int .i64 (H), .slice (A) n c] 56))
  have X0 := Lib.hid (Box.new w 56 [.int .i64 (K), .int .i64 (N), .int .i64 (H), .slice (A) n c])
  have s0 : (w.alloc (.cells #[.int .i64 (K), .int .i64 (N), .int .i64 (H), .slice (A) n c] 56)).heap.size = w.heap.size + 1 := by simp
  have E0 : Hid (Below w.heap.size w (w.alloc (.cells #[.int .i64 (K), .int .i64 (N), .int .i64 (H), .slice (A) n c] 56))) := (by go_grown : Below w.heap.size w (w.alloc _))
  clear h
  have x0 := (X0.out.2 0 _ rfl).1; have x1 := (X0.out.2 1 _ rfl).1; have x2 := (X0.out.2 2 _ rfl).1; have x3 := (X0.out.2 3 _ rfl).1
  go_enter Try.func27, Try.ntmps27
  go_wp2_with fail
  refine (sValidAct_any H1.out (by omega)).mono ?_
  rintro e w1 ⟨rfl, hb⟩
  (try simp only [World.size_alloc, World.size_setCell, World.size_drew] at hb)
  have E1 : Hid (Below w.heap.size w w1) := below_step hb E0.out (by omega)
  clear hb
  go_wp2
  go_ret
  exact ⟨rfl, E1.out⟩
end Go.Proofs.Ytdiebkaedjlckaa
