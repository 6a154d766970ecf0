/- Contracts of impl's copies. -/
import Derived.Test.YtlhbodamdjbahaaDoorL3
import Derived.Laws.CopyOwn
namespace Go.Proofs.YtlhbodamdjbahaaDoor
open Go.ChangeShapes Go.WideShapes Go.ChangeAt Go.RowKit
set_option linter.unusedSimpArgs false
set_option linter.unusedVariables false

/-- A list in new memory, nil let in. -/
def ListPost (xs : List Int) (w : World) (e : Ending) (w' : World) : Prop :=
  ∃ A n c, e = .returned (.slice A n c) ∧ n ≤ c ∧ Below w.heap.size w w' ∧ Ints w' w.heap.size w'.heap.size A n xs

theorem Ints.of_cells {w : World} {b t lo hi : Nat} {xs : List Int} (hb : w.heap[b]? = some (.cells (xs.map (Value.int .i64)).toArray t (0, 0))) (hm : xs.length ≤ 9223372036854775807) (hok : ∀ x ∈ xs, okInt x) (h1 : lo ≤ b) (h2 : b < hi) :
    Ints w lo hi (some ⟨b, 0, none⟩) xs.length xs :=
  ⟨rfl, hm, hok, fun _ => ⟨b, 0, rfl, h1, h2, fun j x hx => by
    rw [Nat.zero_add]
    exact ⟨by simp [World.cell?, hb, hx], by simp [World.frozen?, hb]⟩⟩⟩
theorem Ints.cellsOf {w : World} {lo hi n : Nat} {A : Option Addr} {xs : List Int} (h : Ints w lo hi A n xs) (hp : 0 < n) :
    ∃ ad : Addr, A = some ad ∧ ∀ (j : Nat) (x : Int), xs[j]? = some x → w.cell? (ad.add j) = some (.int .i64 x) := by
  obtain ⟨b, o, e, _, _, hc⟩ := h.2.2.2 hp
  refine ⟨_, e, fun j x hx => ?_⟩
  rw [add_plain]
  exact (hc j x hx).1
theorem splice_all (n : Nat) (cs : List Value) (h : cs.length = n) : splice (madeCells #[.int .i64 0] n).toList 0 cs = cs := by
  simp [splice, size_madeCells, h]

theorem sizeInt : (Tryd.prog.info? 3).map (·.size) = some 1 := by kernel_rfl

end Go.Proofs.YtlhbodamdjbahaaDoor
