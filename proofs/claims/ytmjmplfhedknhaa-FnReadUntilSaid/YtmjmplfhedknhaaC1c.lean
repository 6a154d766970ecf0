/- Contracts of IsSmooth, impl's and the model's. -/
import Derived.Test.YtmjmplfhedknhaaC1b
namespace Go.Proofs.Ytmjmplfhedknhaa
open Go.ChangeShapes Go.WideShapes Go.ChangeAt Go.RowKit
set_option linter.unusedSimpArgs false
set_option linter.unusedVariables false

/-- No number from index a on is less than 1. -/
def smoothB (S : List Int) (a : Nat) : Bool := (S.drop a).all fun x => decide (1 ≤ x)
theorem smoothB_iff {S : List Int} {a : Nat} : smoothB S a = true ↔ ∀ j x, a ≤ j → S[j]? = some x → 1 ≤ x := by
  unfold smoothB
  rw [List.all_eq_true]
  constructor
  · intro h j x hj hx
    have : x ∈ S.drop a := by
      refine List.mem_of_getElem? (i := j - a) ?_
      rw [List.getElem?_drop, show a + (j - a) = j from by omega]
      exact hx
    simpa using h x this
  · intro h x hx
    obtain ⟨i, hi⟩ := List.mem_iff_getElem?.1 hx
    rw [List.getElem?_drop] at hi
    simpa using h (a + i) x (by omega) hi
theorem smoothB_no {S : List Int} {a j : Nat} {x : Int} (hj : a ≤ j) (hx : S[j]? = some x) (h : x < 1) : smoothB S a = false := by
  cases e : smoothB S a with
  | false => rfl
  | true => have := smoothB_iff.1 e j x hj hx; omega
/-- What a valid device's numbers are. -/
theorem validD_iff {D S : List Int} {p q : Int} : validD D p S q = true ↔ bytesB D = true ∧ S.length ≤ 12 ∧ allB S (-1) 60 = true ∧ (0 ≤ p ∧ p ≤ 60) ∧ (0 ≤ q ∧ q ≤ 1000) := by
  simp [validD, inB, and_assoc]
def SmoothTo (S : List Int) (a k : Nat) : Prop := ∀ j x, a ≤ j → j < k → S[j]? = some x → 1 ≤ x
theorem SmoothTo.succ {S : List Int} {a k : Nat} {x : Int} (h : SmoothTo S a k) (hx : S[k]? = some x) (h1 : 1 ≤ x) : SmoothTo S a (k + 1) := by
  intro j y ha hj hy
  by_cases e : j = k
  · subst e; rw [hx] at hy; injection hy with hy; omega
  · exact h j y ha (by omega) hy

set_option maxHeartbeats 1000000 in
theorem IsSmooth_any {A A' : Option Addr} {n c n' c' : Nat} {D S : List Int} {p q : Int} {w : World} {L L' B B' : Nat} (h : Ints w L B A n D) (h' : Ints w L' B' A' n' S) (hB : B ≤ w.heap.size) (hB' : B' ≤ w.heap.size) :
    Calls Try.prog 20 #[.agg #[.slice (A) n c, .int .i64 (p), .slice (A') n' c', .int .i64 (q)]] w (BoolB (validD D p S q && smoothB S q.toNat) w) := by
  have HL := Lib.hid h'.len
  have hm := h'.max
  have H1 := Lib.hid (h.alloc hB (.cells #[.slice (A) n c, .int .i64 (p), .slice (A') n' c', .int .i64 (q)] 25))
  have H2 := Lib.hid (h'.alloc hB' (.cells #[.slice (A) n c, .int .i64 (p), .slice (A') n' c', .int .i64 (q)] 25))
  have X0 := Lib.hid (Box.new w 25 [.slice (A) n c, .int .i64 (p), .slice (A') n' c', .int .i64 (q)])
  cases hv : validD D p S q
  · have HV := Lib.hid hv
    clear hv
    go_enter Try.func20, Try.ntmps20
    go_wp2_with fail
    refine (ValidDevice_any H1.out H2.out (by first | omega | (simp; omega) | (simp; done)) (by first | omega | (simp; omega) | (simp; done))).mono ?_
    rintro e w1 ⟨rfl, hb1⟩
    rw [HV.out]
    have HB1 := Lib.hid hb1
    clear hb1
    go_wp2
    go_ret
    exact ⟨rfl, below_step HB1.out (by go_grown) (by first | omega | (simp; omega) | (simp; done))⟩
  · have HV := Lib.hid hv
    obtain ⟨_, _, _, _, hq0, hq1⟩ := validD_iff.1 hv
    clear hv
    obtain ⟨a, rfl⟩ := Int.eq_ofNat_of_zero_le hq0
    rw [Int.toNat_natCast]
    go_enter Try.func20, Try.ntmps20
    go_wp2_with fail
    refine (ValidDevice_any H1.out H2.out (by first | omega | (simp; omega) | (simp; done)) (by first | omega | (simp; omega) | (simp; done))).mono ?_
    rintro e w1 ⟨rfl, hb1⟩
    rw [HV.out]
    (try simp only [World.size_alloc, World.size_setCell, World.size_drew] at hb1)
    have HB1 := Lib.hid hb1
    clear hb1
    have X1 := Lib.hid (X0.out.below HB1.out (by omega))
    have I2 := Lib.hid (H2.out.below HB1.out (by omega))
    have x0 := (X1.out.2 0 _ rfl).1; have x1 := (X1.out.2 1 _ rfl).1; have x2 := (X1.out.2 2 _ rfl).1; have x3 := (X1.out.2 3 _ rfl).1
    go_wp2
    go_loop [3] (fun i => ∃ k : Nat, a ≤ k ∧ (k ≤ n' ∨ k = a) ∧ i = .int .i64 k ∧ SmoothTo S a k) (fun i => n' - (intOf i).toNat)
    case atStart => exact ⟨a, Nat.le_refl _, .inr rfl, rfl, fun j x h1 h2 => absurd h2 (by omega)⟩
    case round =>
      obtain ⟨k, hak, hk, rfl, hsm⟩ := hrel
      have HS := Lib.hid hsm
      clear hsm
      by_cases hlt : k < n'
      · obtain ⟨b, o, x, rfl, _, hc, hx⟩ := I2.out.at_ hlt
        by_cases h1 : x < 1
        · go_wp2
          go_ret
          exact ⟨ret_bool (by rw [smoothB_no hak hx.out h1]), below_step HB1.out (by go_grown) (by first | omega | (simp; omega) | (simp; done))⟩
        · go_wp2
          go_round
          case rel => exact ⟨k + 1, by omega, .inl (by omega), by go_num, HS.out.succ hx.out (by omega)⟩
          case measure => simp [intOf]; omega
      · go_wp2
        go_ret
        have ht : smoothB S a = true := smoothB_iff.2 fun j x h1 hx => HS.out j x h1 (by have := HL.out; have := (List.getElem?_eq_some_iff.1 hx).1; omega) hx
        exact ⟨ret_bool (by rw [ht]), below_step HB1.out (by go_grown) (by first | omega | (simp; omega) | (simp; done))⟩
end Go.Proofs.Ytmjmplfhedknhaa
