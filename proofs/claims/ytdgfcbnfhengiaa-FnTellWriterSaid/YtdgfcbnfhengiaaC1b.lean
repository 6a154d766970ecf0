/- Contracts of impl's copies. -/
import Derived.Test.YtdgfcbnfhengiaaL3
import Derived.Laws.CopyOwn
namespace Go.Proofs.Ytdgfcbnfhengiaa
open Go.ChangeShapes Go.WideShapes Go.ChangeAt Go.RowKit
set_option linter.unusedSimpArgs false
set_option linter.unusedVariables false

/-- A list in new memory, nil let in. -/
def ListPost (xs : List Int) (w : World) (e : Ending) (w' : World) : Prop :=
  ∃ A n c, e = .returned (.slice A n c) ∧ n ≤ c ∧ Below w.heap.size w w' ∧ Ints w' w.heap.size w'.heap.size A n xs

theorem Ints.of_cells {w : World} {b t lo hi : Nat} {xs : List Int} (hb : w.heap[b]? = some (.cells (xs.map (Value.int .i64)).toArray t (0, 0))) (hm : xs.length ≤ 9223372036854775807) (hok : ∀ x ∈ xs, okInt x) (h1 : lo ≤ b) (h2 : b < hi) :
    Ints w lo hi (some ⟨b, 0, none⟩) xs.length xs :=
  ⟨rfl, hm, hok, fun _ => ⟨b, 0, rfl, h1, h2, fun j x hx => by
    rw [Nat.zero_add]
    exact ⟨by simp [World.cell?, hb, hx], by simp [World.frozen?, hb]⟩⟩⟩
theorem Ints.cellsOf {w : World} {lo hi n : Nat} {A : Option Addr} {xs : List Int} (h : Ints w lo hi A n xs) (hp : 0 < n) :
    ∃ ad : Addr, A = some ad ∧ ∀ (j : Nat) (x : Int), xs[j]? = some x → w.cell? (ad.add j) = some (.int .i64 x) := by
  obtain ⟨b, o, e, _, _, hc⟩ := h.2.2.2 hp
  refine ⟨_, e, fun j x hx => ?_⟩
  rw [add_plain]
  exact (hc j x hx).1
theorem splice_all (n : Nat) (cs : List Value) (h : cs.length = n) : splice (madeCells #[.int .i64 0] n).toList 0 cs = cs := by
  simp [splice, size_madeCells, h]

theorem sizeInt : (Try.prog.info? 3).map (·.size) = some 1 := by kernel_rfl

set_option maxHeartbeats 1000000 in
theorem copyList_any {A : Option Addr} {n c : Nat} {xs : List Int} {w : World} {L B : Nat} (h : Ints w L B A n xs) (hB : B ≤ w.heap.size) (hn : n ≤ 1048576) :
    Calls Try.prog 28 #[.slice A n c] w (ListPost xs w) := by
  have HL := Lib.hid h.len
  have hok := Lib.hid h.ok
  by_cases h0 : n = 0
  · subst h0
    go_enter Try.func28, Try.ntmps28
    go_wp2
    go_ret
    have : xs = [] := List.eq_nil_of_length_eq_zero HL.out.symm
    subst this
    exact ⟨none, 0, 0, rfl, Nat.le_refl _, Below.refl _ _, (Ints.nil _ _ _ 0 _).1⟩
  · have hmk := run_make_row' (P := Try.prog) 23 3 (.int .i64 0) 8 Try.underlying23 infoInt rfl .i64 .i64 n (by omega) (by omega)
    have hz : ((n : Int) == 0) = false := by simp; omega
    have H := Lib.hid (h.alloc hB (.cells (madeCells #[.int .i64 0] n) 3))
    clear h
    go_enter Try.func28, Try.ntmps28
    go_wp2_with (with_reducible refine wpList_copy_splice (o := ⟨some 12, _, _, _, _, _⟩) rfl (.tmp 10) (.tmp 11) 23 23 rfl 3 Try.underlying23 sizeInt _ _ _ _ _ _ rfl rfl w.heap.size 0 (madeCells #[.int .i64 0] n).toList 3 ?c1 (xs.map (Value.int .i64)) ?c2 ?c3 ?c4 ?c5 w.heap.size w ?c6 (Nat.le_refl _) ?_)
    case c1 => exact Go.Deep.blk_alloc_new _ _
    case c2 => simp [← HL.out]
    case c3 => exact fun hp => H.out.cellsOf (by omega)
    case c4 => simp [size_madeCells, HL.out]
    case c5 => simp [Value.oneCell']
    case c6 => go_grown
    intro w1 hw1 hb1
    have HB1 := Lib.hid hb1
    have HW1 := Lib.hid hw1
    clear hb1 hw1
    go_wp2
    go_ret
    have hw1 := HW1.out.out
    rw [splice_all _ _ (by simp [HL.out])] at hw1
    have h2 : w.heap.size < w1.heap.size := (Array.getElem?_eq_some_iff.1 hw1).1
    refine ⟨_, _, _, rfl, Nat.le_refl _, HB1.out, ?_⟩
    have hl := HL.out
    subst hl
    exact Ints.of_cells hw1 (by omega) hok.out (Nat.le_refl _) h2

end Go.Proofs.Ytdgfcbnfhengiaa
