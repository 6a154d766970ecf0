/- Contracts of the drawing functions: any bytes. -/
import Derived.Test.YtdgfcbnfhengiaaD6
import Derived.Laws.OwnMore
namespace Go.Proofs.Ytdgfcbnfhengiaa
section
open Go.ChangeShapes Go.WideShapes Go.ChangeAt Go.RowKit
set_option linter.unusedSimpArgs false
set_option linter.unusedVariables false

theorem OwnI.new (w : World) {base n : Nat} {cur : Array Value} {xs : List Int} (hb : base ≤ w.heap.size) (hn : n = xs.length) (hc : cur.toList = xs.map (Value.int .i64)) (hm : n ≤ 1000000) :
    OwnI (w.alloc (.cells cur 3)) base (.slice (some ⟨w.heap.size, 0, none⟩) n n) n xs := by
  have hs : cur.size = n := by rw [← Array.length_toList, hc]; simp [hn]
  exact ⟨by simp [hn], .inr ⟨w.heap.size, n, cur, rfl, hb, Go.Deep.blk_alloc_new _ _, Nat.le_refl _, by unfold maxLen; omega, by omega, by rw [hc, List.take_of_length_le (by simp [hn])]⟩⟩

end
section
open Go.ChangeShapes Go.WideShapes Go.ChangeAt Go.RowKit
set_option linter.unusedSimpArgs false
set_option linter.unusedVariables false

theorem BytesIn.take {w : World} {hi n m : Nat} {A : Option Addr} (h : BytesIn w hi A n) (hm : m ≤ n) : BytesIn w hi A m := fun hm0 => by
  obtain ⟨b, o, e, hb, hc⟩ := h (by omega)
  exact ⟨b, o, e, hb, fun k hk => hc k (by omega)⟩

set_option maxHeartbeats 1000000 in
theorem newChooser_any {A : Option Addr} {n c : Nat} {w : World} (h : BytesIn w w.heap.size A n) (hn : n ≤ 1048576) (hnc : n ≤ c) :
    Calls Try.prog 15 #[.slice A n c] w (fun e w' => e = .returned (.pointer (some ⟨w.heap.size, 0, none⟩)) ∧ Ch w' w.heap.size 0 ∧ Below w.heap.size w w') := by
  have HB := Lib.hid h
  clear h
  by_cases h2 : 2000 < n
  · have h2' : (2000 : Int) < (n : Int) := by omega
    obtain ⟨b, o, rfl, _, _⟩ := HB.out (by omega)
    go_enter Try.func15, Try.ntmps15
    go_wp2
    go_ret
    have hk : ∀ j, j < w.heap.size → (w.alloc (.cells #[.slice (some ⟨b, o, none⟩) 2000 c, .int .i64 0] 46)).heap[j]? = w.heap[j]? := fun j hj => Below.heap_alloc w _ j hj
    exact ⟨rfl, ⟨_, _, _, 0, Box.new w _ [.slice (some ⟨b, o, none⟩) 2000 c, .int .i64 0], (HB.out.take (by omega)).keep hk, by omega, Nat.le_refl _⟩, Below.alloc (Below.refl _ _) (Nat.le_refl _) _⟩
  · have h2' : ¬ (2000 : Int) < (n : Int) := by omega
    go_enter Try.func15, Try.ntmps15
    go_wp2
    go_ret
    have hk : ∀ j, j < w.heap.size → (w.alloc (.cells #[.slice A n c, .int .i64 0] 46)).heap[j]? = w.heap[j]? := fun j hj => Below.heap_alloc w _ j hj
    exact ⟨rfl, ⟨_, _, _, 0, Box.new w _ [.slice A n c, .int .i64 0], HB.out.keep hk, by omega, Nat.le_refl _⟩, Below.alloc (Below.refl _ _) (Nat.le_refl _) _⟩

end
end Go.Proofs.Ytdgfcbnfhengiaa
