/- Contracts of the drawing functions: one of a list, a byte, a count. -/
import Derived.Test.YtmjmplfhedknhaaD1
namespace Go.Proofs.Ytmjmplfhedknhaa
open Go.ChangeShapes Go.WideShapes Go.ChangeAt Go.RowKit
set_option linter.unusedSimpArgs false
set_option linter.unusedVariables false

def OnePost (g P : Nat) (xs : List Int) (w : World) (e : Ending) (w' : World) : Prop :=
  ∃ x ∈ xs, e = .returned (.int .i64 x) ∧ Ch w' g (P + 1) ∧ Turn w.heap.size g w w'

set_option maxHeartbeats 1000000 in
theorem one_any {g P lo hi n c : Nat} {A : Option Addr} {xs : List Int} {w : World} (h : Ch w g P) (hP : P ≤ 1000000) (hI : Ints w lo hi A n xs) (hn : 1 ≤ n) (hn2 : n ≤ 1000000) (hc : n ≤ c) (hh : hi ≤ w.heap.size) (hg : g < lo ∨ hi ≤ g) :
    Calls Try.prog 53 #[.pointer (some ⟨g, 0, none⟩), .slice A n c] w (OnePost g P xs w) := by
  have HCH := Lib.hid h
  have HI := Lib.hid hI
  clear h hI
  go_enter Try.func53, Try.ntmps53
  go_wp2_with fail
  refine (pick_any HCH.out hP (by omega)).mono ?_
  rintro e w1 ⟨r, rfl, ⟨hr0, hr1, _⟩, hch, ht⟩
  have hr2 := hr1 (by omega)
  clear hr1
  obtain ⟨r, rfl⟩ := Int.eq_ofNat_of_zero_le hr0
  have HI1 := Lib.hid (HI.out.turn ht hh hg)
  have HC := Lib.hid hch
  have HT := Lib.hid ht
  clear hch ht
  have hl := HI1.out.1
  have hx : xs[r]? = some (xs[r]'(by omega)) := List.getElem?_eq_getElem (by omega)
  obtain ⟨b, o, rfl, hb1, hb2, hcs⟩ := HI1.out.2.2.2 (by omega)
  have hcell := (hcs r _ hx).1
  have HM := Lib.hid (List.getElem_mem (l := xs) (n := r) (by omega))
  clear hcs hx
  generalize hX : xs[r]'(by omega) = X at *
  go_wp2
  go_ret
  exact ⟨X, HM.out, rfl, HC.out, HT.out⟩
end Go.Proofs.Ytmjmplfhedknhaa
