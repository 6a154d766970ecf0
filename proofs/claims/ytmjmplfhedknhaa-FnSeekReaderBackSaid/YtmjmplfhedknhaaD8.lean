/- Contracts of the drawing functions: any bytes. -/
import Derived.Test.YtmjmplfhedknhaaD6
import Derived.Laws.OwnMore
namespace Go.Proofs.Ytmjmplfhedknhaa
section
open Go.ChangeShapes Go.WideShapes Go.ChangeAt Go.RowKit
set_option linter.unusedSimpArgs false
set_option linter.unusedVariables false

theorem OwnI.new (w : World) {base n : Nat} {cur : Array Value} {xs : List Int} (hb : base ≤ w.heap.size) (hn : n = xs.length) (hc : cur.toList = xs.map (Value.int .i64)) (hm : n ≤ 1000000) :
    OwnI (w.alloc (.cells cur 3)) base (.slice (some ⟨w.heap.size, 0, none⟩) n n) n xs := by
  have hs : cur.size = n := by rw [← Array.length_toList, hc]; simp [hn]
  exact ⟨by simp [hn], .inr ⟨w.heap.size, n, cur, rfl, hb, Go.Deep.blk_alloc_new _ _, Nat.le_refl _, by unfold maxLen; omega, by omega, by rw [hc, List.take_of_length_le (by simp [hn])]⟩⟩

end
section
open Go.ChangeShapes Go.WideShapes Go.ChangeAt Go.RowKit
set_option linter.unusedSimpArgs false
set_option linter.unusedVariables false

theorem BytesIn.take {w : World} {hi n m : Nat} {A : Option Addr} (h : BytesIn w hi A n) (hm : m ≤ n) : BytesIn w hi A m := fun hm0 => by
  obtain ⟨b, o, e, hb, hc⟩ := h (by omega)
  exact ⟨b, o, e, hb, fun k hk => hc k (by omega)⟩

set_option maxHeartbeats 1000000 in
theorem newChooser_any {A : Option Addr} {n c : Nat} {w : World} (h : BytesIn w w.heap.size A n) (hn : n ≤ 1048576) (hnc : n ≤ c) :
    Calls Try.prog 34 #[.slice A n c] w (fun e w' => e = .returned (.pointer (some ⟨w.heap.size, 0, none⟩)) ∧ Ch w' w.heap.size 0 ∧ Below w.heap.size w w') := by
  have HB := Lib.hid h
  clear h
  by_cases h2 : 2000 < n
  · have h2' : (2000 : Int) < (n : Int) := by omega
    obtain ⟨b, o, rfl, _, _⟩ := HB.out (by omega)
    go_enter Try.func34, Try.ntmps34
    go_wp2
    go_ret
    have hk : ∀ j, j < w.heap.size → (w.alloc (.cells #[.slice (some ⟨b, o, none⟩) 2000 c, .int .i64 0] 79)).heap[j]? = w.heap[j]? := fun j hj => Below.heap_alloc w _ j hj
    exact ⟨rfl, ⟨_, _, _, 0, Box.new w _ [.slice (some ⟨b, o, none⟩) 2000 c, .int .i64 0], (HB.out.take (by omega)).keep hk, by omega, Nat.le_refl _⟩, Below.alloc (Below.refl _ _) (Nat.le_refl _) _⟩
  · have h2' : ¬ (2000 : Int) < (n : Int) := by omega
    go_enter Try.func34, Try.ntmps34
    go_wp2
    go_ret
    have hk : ∀ j, j < w.heap.size → (w.alloc (.cells #[.slice A n c, .int .i64 0] 79)).heap[j]? = w.heap[j]? := fun j hj => Below.heap_alloc w _ j hj
    exact ⟨rfl, ⟨_, _, _, 0, Box.new w _ [.slice A n c, .int .i64 0], HB.out.keep hk, by omega, Nat.le_refl _⟩, Below.alloc (Below.refl _ _) (Nat.le_refl _) _⟩

set_option maxHeartbeats 1000000 in
theorem aSeek_any {g P : Nat} {w : World} (h : Ch w g P) (hP : P ≤ 900000) :
    Calls Try.prog 56 #[.pointer (some ⟨g, 0, none⟩)] w (fun e w' => ∃ off wh : Int, e = .returned (.tuple #[.int .i64 off, .int .i64 wh]) ∧ (-61 ≤ off ∧ off ≤ 61) ∧ (-1 ≤ wh ∧ wh ≤ 3) ∧ Ch w' g (P + 2) ∧ Turn w.heap.size g w w') := by
  have hg := h.lt
  have HCH := Lib.hid h
  clear h
  go_enter Try.func56, Try.ntmps56
  go_wp2_with fail
  refine (one_lit [0, 1, 2, -1, -2, 5, 60, -61, 61, 10] HCH.out (by omega) rfl rfl rfl (by decide) (by decide) (by decide)).mono ?_
  rintro e w1 ⟨x, hx, rfl, hch, ht⟩
  have hx1 : -61 ≤ x ∧ x ≤ 61 := by simp at hx; omega
  have HC1 := Lib.hid hch
  have HT1 := Lib.hid ht
  have hs1 := ht.size
  clear hch ht hx HCH
  go_wp2_with fail
  refine (one_lit [0, 1, 2, 0, 1, 2, 3, -1] HC1.out (by omega) rfl rfl rfl (by decide) (by decide) (by decide)).mono ?_
  rintro e w2 ⟨y, hy, rfl, hch, ht⟩
  have hy1 : -1 ≤ y ∧ y ≤ 3 := by simp at hy; omega
  have HC2 := Lib.hid hch
  have HT2 := Lib.hid (HT1.out.trans (ht.mono hs1))
  clear hch ht hy HC1 HT1
  go_wp2
  go_ret2
  exact ⟨x, y, rfl, hx1, hy1, HC2.out, HT2.out⟩
end
end Go.Proofs.Ytmjmplfhedknhaa
