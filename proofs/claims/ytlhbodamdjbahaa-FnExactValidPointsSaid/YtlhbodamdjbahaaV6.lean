/- impl's DecodeSome, DecodeBytes, CountPoints. -/
import Derived.Test.YtlhbodamdjbahaaV5
namespace Go.Proofs.Ytlhbodamdjbahaa
open Go.ChangeShapes Go.WideShapes Go.ChangeAt Go.RowKit
set_option linter.unusedSimpArgs false
set_option linter.unusedVariables false
set_option maxRecDepth 100000

/-- Points, the byte that waits, and whether that is possible. -/
def DsPost (d : Dec) (w : World) (e : Ending) (w' : World) : Prop :=
  ∃ A n c, e = .returned (.tuple #[.slice A n c, .int .i64 d.2.1, .bool d.2.2]) ∧ n ≤ c ∧ Below w.heap.size w w' ∧ Ints w' w.heap.size w'.heap.size A n d.1
theorem lastLead_get : ∀ {ys : List Int} {k : Nat} {z : Int}, k + 1 = ys.length → ys[k]? = some z → lastLead ys = if leadB z then z else 0
  | [], k, z, h, _ => by simp at h
  | [b], k, z, h, hz => by
    obtain rfl : k = 0 := by simpa using h
    simp at hz
    subst hz
    rfl
  | b :: c :: r, k, z, h, hz => by
    obtain ⟨j, rfl⟩ : ∃ j, k = j + 1 := ⟨k - 1, by simp at h; omega⟩
    rw [lastLead_cons (by simp)]
    exact lastLead_get (k := j) (by simpa using h) (by simpa using hz)
theorem bytes1_cons {lead : Int} {xs : List Int} (h : leadB lead = true) (hd : bytesB xs = true) : bytes1 (lead :: xs) := by
  have h1 := leadB_iff.1 h
  refine ⟨by have := bytesB_le hd; simp; omega, ?_⟩
  rw [allB_cons, bytesB_all hd, inB_true (by omega) (by omega)]
  rfl
theorem bytes1_take {xs : List Int} {k : Nat} (h : bytes1 xs) : bytes1 (xs.take k) := ⟨by have := h.1; rw [List.length_take]; omega, allB_take h.2 k⟩

theorem OwnI.lit1 (w : World) (x : Int) {base : Nat} (hb : base ≤ w.heap.size) : OwnI (w.alloc (.cells #[.int .i64 x] 3)) base (.slice (some ⟨w.heap.size, 0, none⟩) 1 1) 1 [x] :=
  ⟨by simp, .inr ⟨w.heap.size, 1, #[.int .i64 x], rfl, hb, World.alloc_heap_new w _, by omega, by unfold maxLen; omega, rfl, by simp⟩⟩
end Go.Proofs.Ytlhbodamdjbahaa
