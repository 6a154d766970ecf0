/- Contracts of the drawing functions: a byte, a count. -/
import Derived.Test.YtmjmplfhedknhaaD2
namespace Go.Proofs.Ytmjmplfhedknhaa
open Go.ChangeShapes Go.WideShapes Go.ChangeAt Go.RowKit
set_option linter.unusedSimpArgs false
set_option linter.unusedVariables false

theorem Ints.of_box {w : World} {b : Nat} {xs : List Int} {n : Nat} (h : Box w b (xs.map (Value.int .i64))) (hn : n = xs.length) (hm : n ≤ 1000000) (hok : ∀ x ∈ xs, okInt x) :
    Ints w b (b + 1) (some ⟨b, 0, none⟩) n xs :=
  ⟨hn, by omega, hok, fun _ => ⟨b, 0, rfl, Nat.le_refl _, Nat.lt_succ_self _, fun j x hx => by
    rw [Nat.zero_add]
    exact h.2 j (.int .i64 x) (by simp [hx])⟩⟩

theorem Ch.alloc {w : World} {g P : Nat} (h : Ch w g P) (o : Obj) : Ch (w.alloc o) g P := h.below (Below.alloc (Below.refl _ _) (Nat.le_refl _) o) h.lt

theorem Ch.more {w : World} {g P P' : Nat} (h : Ch w g P) (hP : P ≤ P') : Ch w g P' := by
  obtain ⟨A, n, c, k, hx, hy, hn, hk⟩ := h
  exact ⟨A, n, c, k, hx, hy, hn, by omega⟩
/-- One of a list that was just made. -/
theorem one_lit {g P n b : Nat} {t : TypeId} {w : World} {cs : Array Value} (xs : List Int) (h : Ch w g P) (hP : P ≤ 1000000) (hb : b = w.heap.size) (hcs : cs = (xs.map (Value.int .i64)).toArray) (hn : n = xs.length) (hn1 : 1 ≤ n) (hn2 : n ≤ 1000000) (hok : ∀ x ∈ xs, -1000000 ≤ x ∧ x ≤ 1000000) :
    Calls Try.prog 53 #[.pointer (some ⟨g, 0, none⟩), .slice (some ⟨b, 0, none⟩) n n] (w.alloc (.cells cs t)) (OnePost g P xs w) := by
  subst hcs
  subst hb
  have hI := Ints.of_box (Box.new w t (xs.map (Value.int .i64))) hn hn2 fun x hx => by have := hok x hx; unfold okInt; omega
  refine (one_any (h.alloc _) hP hI hn1 hn2 (Nat.le_refl _) (by simp) (.inl h.lt)).mono ?_
  rintro e w1 ⟨x, hx, rfl, hch, ht⟩
  exact ⟨x, hx, rfl, hch, (Turn.of_below (Below.alloc (Below.refl _ _) (Nat.le_refl _) _) (Nat.le_refl _)).trans (ht.mono (by simp))⟩

set_option maxHeartbeats 1000000 in
theorem aCount_any {g P : Nat} {w : World} (h : Ch w g P) (hP : P ≤ 1000000) :
    Calls Try.prog 36 #[.pointer (some ⟨g, 0, none⟩)] w (OnePost g P [3, 1, 2, 5, 8, 60, 0, 61, -1, 4] w) := by
  have HCH := Lib.hid h
  clear h
  go_enter Try.func36, Try.ntmps36
  go_wp2_with fail
  refine (one_lit [3, 1, 2, 5, 8, 60, 0, 61, -1, 4] HCH.out hP rfl rfl rfl (by decide) (by decide) (by decide)).mono ?_
  rintro e w1 ⟨x, hx, rfl, hch, ht⟩
  go_wp2
  go_ret
  exact ⟨x, hx, rfl, hch, ht⟩

set_option maxHeartbeats 1000000 in
theorem aByte_any {g P : Nat} {w : World} (h : Ch w g P) (hP : P ≤ 990000) :
    Calls Try.prog 94 #[.pointer (some ⟨g, 0, none⟩)] w (fun e w' => ∃ x : Int, (0 ≤ x ∧ x ≤ 255) ∧ e = .returned (.int .i64 x) ∧ Ch w' g (P + 2) ∧ Turn w.heap.size g w w') := by
  have HCH := Lib.hid h
  clear h
  go_enter Try.func94, Try.ntmps94
  go_wp2_with fail
  refine (pick_any HCH.out (by omega) (by decide)).mono ?_
  rintro e w1 ⟨r, rfl, ⟨hr0, hr1, _⟩, hch, ht⟩
  have hr2 := hr1 (by decide)
  clear hr1
  have HC := Lib.hid hch
  have HT := Lib.hid ht
  clear hch ht
  go_wp2_with fail
  refine (one_lit [97, 98, 10, 13, 0, 195, 164, 200, 255, r, 32, 13, 10] HC.out (by omega) rfl rfl rfl (by simp) (by simp) (fun x hx => by simp at hx; omega)).mono ?_
  rintro e w2 ⟨x, hx, rfl, hch, ht⟩
  have HC2 := Lib.hid hch
  have HT2 := Lib.hid ht
  clear hch ht
  have hx2 : 0 ≤ x ∧ x ≤ 255 := by simp at hx; omega
  clear hx
  go_wp2
  go_ret
  exact ⟨x, hx2, rfl, HC2.out, HT.out.trans (HT2.out.mono HT.out.size)⟩
end Go.Proofs.Ytmjmplfhedknhaa
