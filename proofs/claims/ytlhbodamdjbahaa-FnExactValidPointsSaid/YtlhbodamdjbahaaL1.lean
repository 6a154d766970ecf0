/- Contracts of the exact laws' own helpers for ints and devices: sizes, copies, comparisons. -/
import Derived.Test.YtlhbodamdjbahaaS1a
namespace Go.Proofs.Ytlhbodamdjbahaa
open Go.ChangeShapes Go.WideShapes Go.ChangeAt Go.RowKit
set_option linter.unusedSimpArgs false
set_option linter.unusedVariables false

/-- What a size leaves: -1, or so much less. -/
def SzQ (left total : Int) (w : World) (e : Ending) (w' : World) : Prop := ∃ r : Int, e = .returned (.int .i64 r) ∧ (-1 ≤ r ∧ r ≤ left ∧ (r < 0 ∨ total + r = left)) ∧ w = w'
def SzPost (left total : Int) (w : World) (e : Ending) (w' : World) : Prop := ∃ r : Int, e = .returned (.int .i64 r) ∧ (-1 ≤ r ∧ r ≤ left ∧ (r < 0 ∨ total + r = left)) ∧ Below w.heap.size w w'



theorem infoInt : (Try.prog.info? 3).map (fun i => (i.zero, i.size, i.bytes)) = some (some (.int .i64 0), 1, 8) := by kernel_rfl
theorem ofRowIs {w : World} {b t n : Nat} {f g : Nat → Value} (h : w.rowIs b t n f) (e : ∀ i, i < n → f i = g i) : w.rowIs b t n g := h.congr e
/-- A copy of ints in a new block of its own. -/
def CopyPost (w : World) (n : Nat) (xs : List Int) (e : Ending) (w' : World) : Prop :=
  e = .returned (.slice (some ⟨w.heap.size, 0, none⟩) n n) ∧ Below w.heap.size w w' ∧ w'.heap.size = w.heap.size + 1 ∧ Ints w' w.heap.size (w.heap.size + 1) (some ⟨w.heap.size, 0, none⟩) n xs
/-- The k first cells are copied, the others are 0. -/
def halfRow (xs : List Int) (k j : Nat) : Value := .int .i64 (if j < k then xs.getD j 0 else 0)
theorem halfRow_lt {xs : List Int} {k j : Nat} {x : Int} (hj : j < k) (hx : xs[j]? = some x) : halfRow xs k j = .int .i64 x := by
  simp [halfRow, hj, List.getD, hx]
theorem halfRow_succ {xs : List Int} {k : Nat} {x : Int} (hx : xs[k]? = some x) (j : Nat) : (if j = k then Value.int .i64 x else halfRow xs k j) = halfRow xs (k + 1) j := by
  by_cases e : j = k
  · subst e; simp [halfRow, List.getD, hx]
  · rw [if_neg e]
    unfold halfRow
    by_cases h : j < k
    · rw [if_pos h, if_pos (by omega)]
    · rw [if_neg h, if_neg (by omega)]

set_option maxHeartbeats 400000 in
theorem toIntS_any {A : Option Addr} {n c : Nat} {xs : List Int} {w : World} {L B : Nat} (h : Ints w L B A n xs) (hB : B ≤ w.heap.size) (hn : n ≤ 1048576) :
    Calls Try.prog 6 #[.slice A n c] w (CopyPost w n xs) := by
  have HL := Lib.hid h.len
  have hmk := run_make_row' (P := Try.prog) 22 3 (.int .i64 0) 8 Try.underlying22 infoInt rfl .i64 .i64 n (by omega) (by omega)
  go_enter Try.func6, Try.ntmps6
  go_wp2
  go_loopw [4] (fun i wr => ∃ k : Nat, k ≤ n ∧ i = .int .i64 k ∧ Below w.heap.size w wr ∧ wr.heap.size = w.heap.size + 1 ∧ wr.rowIs w.heap.size 3 n (halfRow xs k)) (fun i _ => n - (intOf i).toNat)
  case atStart => exact ⟨0, Nat.zero_le _, rfl, by go_grown, by simp, (World.rowIs_made w _ n _).congr (fun i _ => by simp [halfRow])⟩
  case round =>
    obtain ⟨k, hk, rfl, hbe, hsz, hrow⟩ := hrel
    have HR := Lib.hid hrow
    have HS := Lib.hid hsz
    have HB := Lib.hid hbe
    clear hrow hsz hbe hmk
    by_cases hlt : k < n
    · obtain ⟨b, o, x, rfl, hbB, hc, hx⟩ := h.at_ hlt
      have hc' : wr.cell? ⟨b, o + k, none⟩ = some (.int .i64 x) := by rw [HB.out.cell (p := ⟨b, o + k, none⟩) (by show b < _; omega)]; exact hc
      have hco : wr.cell? ⟨w.heap.size, k, none⟩ = some (halfRow xs k k) := HR.out.cell hlt
      have hfo : wr.frozen? ⟨w.heap.size, k, none⟩ = false := HR.out.frozen k
      clear hc
      go_wp2
      go_roundw
      case rel => exact ⟨k + 1, by omega, by go_num, HB.out.setCell (Nat.le_refl _) _, by simp; exact HS.out, (HR.out.set k _).congr fun j _ => halfRow_succ hx.out j⟩
      case measure => simp [intOf]; omega
    · go_wp2
      go_ret
      obtain rfl : k = n := by omega
      exact ⟨rfl, HB.out, HS.out, Ints.of_row HR.out HL.out (by omega) h.ok (fun j x hx => halfRow_lt (by have := HL.out; have := (List.getElem?_eq_some_iff.1 hx).1; omega) hx) (Nat.le_refl _) (by omega)⟩
end Go.Proofs.Ytlhbodamdjbahaa
