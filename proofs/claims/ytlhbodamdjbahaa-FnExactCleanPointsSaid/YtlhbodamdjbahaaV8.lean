/- The model's small functions of codes, and decode. -/
import Derived.Test.YtlhbodamdjbahaaV7
import Derived.Test.YtlhbodamdjbahaaS1a
namespace Go.Proofs.Ytlhbodamdjbahaa
open Go.ChangeShapes Go.WideShapes Go.ChangeAt Go.RowKit
set_option linter.unusedSimpArgs false
set_option linter.unusedVariables false
set_option maxRecDepth 100000

theorem SvalidPoint_any {p : Int} {w : World} : Calls Try.prog 17 #[.int .i64 p] w fun e w' => e = .returned (.bool (ptB p)) ∧ w = w' := by
  cases h : inB p 0 2047
  all_goals
    go_enter Try.func17, Try.ntmps17
    go_wp2_with (go_at_call 19; refine (inRange_any).mono ?_; rintro e w' ⟨rfl, rfl⟩)
    go_ret
    exact ⟨ret_bool (by simp [ptB, h]), rfl⟩
set_option maxHeartbeats 1000000 in
theorem SvalidPoints_any {A : Option Addr} {n c : Nat} {xs : List Int} {w : World} {L B : Nat} (h : Ints w L B A n xs) :
    Calls Try.prog 13 #[.slice A n c] w fun e w' => e = .returned (.bool (ptsB xs)) ∧ w = w' := by
  have hm := h.max
  have HL := Lib.hid h.len
  go_enter Try.func13, Try.ntmps13
  go_wp2
  go_loop [3] (fun i => ∃ k : Nat, k ≤ n ∧ i = .int .i64 k ∧ (xs.take k).all ptB = true) (fun i => n - (intOf i).toNat)
  case atStart => exact ⟨0, Nat.zero_le _, rfl, rfl⟩
  case round =>
    obtain ⟨k, hk, rfl, hall⟩ := hrel
    have HA := Lib.hid hall
    clear hall
    by_cases hlt : k < n
    · obtain ⟨b, o, x, rfl, _, hc, hx⟩ := h.at_ hlt
      cases hb : ptB x
      · go_wp2_with (go_at_call 17; refine (SvalidPoint_any).mono ?_; rintro e w' ⟨rfl, rfl⟩)
        go_ret
        exact ⟨ret_bool (by simp [ptsB, all_no hx.out hb]), rfl⟩
      · go_wp2_with (go_at_call 17; refine (SvalidPoint_any).mono ?_; rintro e w' ⟨rfl, rfl⟩)
        go_round
        case rel => exact ⟨k + 1, by omega, by go_num, by rw [all_snoc hx.out, HA.out, hb]; rfl⟩
        case measure => simp [intOf]; omega
    · obtain rfl : n = k := by omega
      have HK : Hid (xs.take n = xs) := List.take_of_length_le (by have := HL.out; omega)
      have fin : ptsB xs = decide ((n : Int) ≤ 60) := by
        have h1 := HA.out
        rw [HK.out] at h1
        have h2 := HL.out
        unfold ptsB
        rw [h1, Bool.and_true]
        by_cases h3 : n ≤ 60
        · have h4 : (n : Int) ≤ 60 := by omega
          have h5 : xs.length ≤ 60 := by omega
          simp [h4, h5]
        · have h4 : ¬ (n : Int) ≤ 60 := by omega
          have h5 : ¬ xs.length ≤ 60 := by omega
          simp [h4, h5]
      have HF := Lib.hid fin
      clear fin
      go_wp2
      go_ret
      exact ⟨ret_bool HF.out.symm, rfl⟩
theorem none_new {w0 w : World} (hb : Below w0.heap.size w0 w) : ListPost [] w0 (.returned (.slice (some ⟨w.heap.size, 0, none⟩) 0 0)) (w.alloc (.cells #[] 3)) :=
  ⟨_, _, _, rfl, Nat.le_refl _, hb.alloc hb.size _, (Ints.nil _ _ _ 0 _).1⟩
theorem OwnI.shape {w : World} {base n : Nat} {v : Value} {xs : List Int} (h : OwnI w base v n xs) : ∃ A c, v = .slice A n c ∧ n ≤ c := by
  rcases h.2 with ⟨rfl, h0⟩ | ⟨g, cap, cur, rfl, _, _, hnc, _⟩
  · subst h0
    exact ⟨none, 0, rfl, Nat.le_refl _⟩
  · exact ⟨_, _, rfl, hnc⟩
theorem OwnI.zero {w0 : World} (w : World) (hb : w0.heap.size ≤ w.heap.size) : OwnI (w.alloc (.cells #[] 3)) w0.heap.size (.slice (some ⟨w.heap.size, 0, none⟩) 0 0) 0 [] := OwnI.made w hb
theorem wr_len (m b : Int) : (wrg m b).length ≤ 1 := by
  unfold wrg
  split
  · simp
  · split <;> simp
theorem put_put (a b : List Int) (d : Dec) : put a (put b d) = put (a ++ b) d := by simp [put]
theorem put_nil (d : Dec) : put [] d = d := rfl
theorem put_stop (a : List Int) : put a stop0 = (a, 0, false) := by simp [put, stop0]
end Go.Proofs.Ytlhbodamdjbahaa
