/- Contracts of the drawing functions: any bytes. -/
import Derived.Test.YtmjmplfhedknhaaD6
import Derived.Laws.OwnMore
namespace Go.Proofs.Ytmjmplfhedknhaa
open Go.ChangeShapes Go.WideShapes Go.ChangeAt Go.RowKit
set_option linter.unusedSimpArgs false
set_option linter.unusedVariables false

theorem OwnI.new (w : World) {base n : Nat} {cur : Array Value} {xs : List Int} (hb : base ≤ w.heap.size) (hn : n = xs.length) (hc : cur.toList = xs.map (Value.int .i64)) (hm : n ≤ 1000000) :
    OwnI (w.alloc (.cells cur 3)) base (.slice (some ⟨w.heap.size, 0, none⟩) n n) n xs := by
  have hs : cur.size = n := by rw [← Array.length_toList, hc]; simp [hn]
  exact ⟨by simp [hn], .inr ⟨w.heap.size, n, cur, rfl, hb, Go.Deep.blk_alloc_new _ _, Nat.le_refl _, by unfold maxLen; omega, by omega, by rw [hc, List.take_of_length_le (by simp [hn])]⟩⟩

end Go.Proofs.Ytmjmplfhedknhaa
