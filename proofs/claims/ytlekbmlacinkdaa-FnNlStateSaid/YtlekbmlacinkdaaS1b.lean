/- Contracts of the model's copies. -/
import Derived.Test.YtlekbmlacinkdaaApp
import Derived.Test.YtlekbmlacinkdaaC1f
namespace Go.Proofs.Ytlekbmlacinkdaa
open Go.ChangeShapes Go.WideShapes Go.ChangeAt Go.RowKit
set_option linter.unusedSimpArgs false
set_option linter.unusedVariables false

/-- A row of the call's own that reads as xs. -/
def OwnPost (xs : List Int) (w : World) (e : Ending) (w' : World) : Prop := ∃ v, e = .returned v ∧ Below w.heap.size w w' ∧ OwnI w' w.heap.size v xs.length xs
set_option maxHeartbeats 1000000 in
theorem copyInts_own {A : Option Addr} {n c : Nat} {xs : List Int} {w : World} {L B : Nat} (h : Ints w L B A n xs) (hB : B ≤ w.heap.size) (hn : n ≤ 1048576) :
    Calls Try.prog 55 #[.slice A n c] w (OwnPost xs w) := by
  have HL := Lib.hid h.len
  have H1 := Lib.hid (h.alloc hB (.cells #[] 3))
  clear h
  go_enter Try.func55, Try.ntmps55
  go_wp2_with (at_builtin; refine wpList_append_ints rfl (.tmp 3) (.tmp 4) rfl w.heap.size (.slice (some ⟨w.heap.size, 0, none⟩) 0 0) 0 [] rfl (OwnI.made w (Nat.le_refl _)) A n c xs rfl H1.out (by omega) (by simp) ?_)
  intro v' w' hown hg
  have HO := Lib.hid hown
  have HG := Lib.hid hg
  clear hown hg
  go_wp2
  go_ret
  have hl := HL.out
  subst hl
  exact ⟨v', rfl, (by go_grown : Below w.heap.size w (w.alloc _)).trans (below_grown (OwnI.made w (Nat.le_refl _)) HG.out (by simp)), HO.out⟩
theorem copyInts_any {A : Option Addr} {n c : Nat} {xs : List Int} {w : World} {L B : Nat} (h : Ints w L B A n xs) (hB : B ≤ w.heap.size) (hn : n ≤ 1048576) :
    Calls Try.prog 55 #[.slice A n c] w (ListPost xs w) :=
  (copyInts_own h hB hn).mono fun e w' hh => by
    obtain ⟨v, he, hb, ho⟩ := hh
    obtain ⟨A1, c1, rfl, hc, hi⟩ := ho.ints h.ok
    exact ⟨A1, _, c1, he, hc, hb, hi⟩

end Go.Proofs.Ytlekbmlacinkdaa
