/- Contracts of the exact laws' comparisons, and of a device's copy. -/
import Derived.Test.YtlhbodamdjbahaaL1
namespace Go.Proofs.Ytlhbodamdjbahaa
open Go.ChangeShapes Go.WideShapes Go.ChangeAt Go.RowKit
set_option linter.unusedSimpArgs false
set_option linter.unusedVariables false

theorem eq_of_take_all {xs ys : List Int} (hl : xs.length = ys.length) (h : ∀ (j : Nat) (x y : Int), xs[j]? = some x → ys[j]? = some y → x = y) : xs = ys := by
  apply List.ext_getElem hl
  intro j h1 h2
  exact h j _ _ (List.getElem?_eq_getElem h1) (List.getElem?_eq_getElem h2)
def SameTo (xs ys : List Int) (k : Nat) : Prop := ∀ j x y, j < k → xs[j]? = some x → ys[j]? = some y → x = y
theorem SameTo.succ {xs ys : List Int} {k : Nat} {x : Int} (h : SameTo xs ys k) (hx : xs[k]? = some x) (hy : ys[k]? = some x) : SameTo xs ys (k + 1) := by
  intro j a b hj ha hb
  by_cases e : j = k
  · subst e; rw [hx] at ha; rw [hy] at hb; injection ha with ha; injection hb with hb; omega
  · exact h j a b (by omega) ha hb
def sameB (xs ys : List Int) : Bool := decide (xs = ys)
theorem sameB_iff {xs ys : List Int} : sameB xs ys = true ↔ xs = ys := by simp [sameB]
def BoolQ (b : Bool) (w : World) (e : Ending) (w' : World) : Prop := e = .returned (.bool b) ∧ ∃ m, w' = w.drewN m

set_option maxHeartbeats 400000 in
theorem eqIntS_any {A A' : Option Addr} {n c n' c' : Nat} {xs ys : List Int} {w : World} {L B L' B' : Nat} (h : Ints w L B A n xs) (h' : Ints w L' B' A' n' ys) :
    Calls Try.prog 8 #[.slice A n c, .slice A' n' c'] w (BoolQ (sameB xs ys) w) := by
  have HL := Lib.hid h.len
  have HL' := Lib.hid h'.len
  have hm := h.max
  have hm' := h'.max
  by_cases hne : n = n'
  · subst hne
    go_enter Try.func8, Try.ntmps8
    go_wp2
    go_loopw [5] (fun i wr => ∃ k : Nat, k ≤ n ∧ i = .int .i64 k ∧ (∃ m, wr = w.drewN m) ∧ SameTo xs ys k) (fun i _ => n - (intOf i).toNat)
    case atStart => exact ⟨0, Nat.zero_le _, rfl, ⟨0, rfl⟩, fun j x y hj => absurd hj (by omega)⟩
    case round =>
      obtain ⟨k, hk, rfl, ⟨m, rfl⟩, hst⟩ := hrel
      have HS := Lib.hid hst
      clear hst
      by_cases hlt : k < n
      · obtain ⟨b, o, x, rfl, _, hc, hx⟩ := h.at_ hlt
        obtain ⟨b', o', y, rfl, _, hc', hy⟩ := h'.at_ hlt
        have hi0 : (0 : Int) ≤ (k : Int) := by omega
        have hi1 : (k : Int) < (n : Int) := by omega
        by_cases hxy : x = y
        · subst hxy
          go_wp2
          go_quiet (fail)
          go_wp2
          go_roundw
          case rel => exact ⟨k + 1, by omega, by go_num, ⟨_, rfl⟩, HS.out.succ hx.out hy.out⟩
          case measure => simp [intOf]; omega
        · have hb : (x != y) = true := by rw [bne_iff_ne]; exact hxy
          go_wp2
          go_quiet (fail)
          go_wp2
          go_ret
          have hn : ¬ xs = ys := fun e => by subst e; have h1 := hx.out; have h2 := hy.out; rw [h1] at h2; injection h2 with h2; exact hxy h2
          exact ⟨ret_bool (by simp [sameB, hn]), _, World.drewN_drewN _ _ _⟩
      · go_wp2
        go_ret
        have he : xs = ys := eq_of_take_all (by have := HL.out; have := HL'.out; omega) (fun j x y h1 h2 => HS.out j x y (by have := HL.out; have := (List.getElem?_eq_some_iff.1 h1).1; omega) h1 h2)
        exact ⟨ret_bool (by simp [sameB, he]), _, rfl⟩
  · have h1 : ((n : Int) != (n' : Int)) = true := by rw [bne_iff_ne]; omega
    go_enter Try.func8, Try.ntmps8
    go_wp2
    go_ret
    have hx : ¬ xs = ys := fun e => hne (by rw [HL.out, HL'.out, e])
    exact ⟨ret_bool (by simp [sameB, hx]), 0, rfl⟩

def BoolB (b : Bool) (w : World) (e : Ending) (w' : World) : Prop := e = .returned (.bool b) ∧ Below w.heap.size w w'
def eqD (D : List Int) (p : Int) (S : List Int) (q : Int) (D' : List Int) (p' : Int) (S' : List Int) (q' : Int) : Bool := sameB D D' && (decide (p = p') && (sameB S S' && decide (q = q')))
theorem eqD_refl (D : List Int) (p : Int) (S : List Int) (q : Int) : eqD D p S q D p S q = true := by simp [eqD, sameB]
theorem eqD_iff {D D' S S' : List Int} {p p' q q' : Int} : eqD D p S q D' p' S' q' = true ↔ D = D' ∧ p = p' ∧ S = S' ∧ q = q' := by simp [eqD, sameB]


end Go.Proofs.Ytlhbodamdjbahaa
