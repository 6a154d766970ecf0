/- ValidPoints and CleanPoints as the exact laws' texts take them. -/
import Derived.Test.YtlhbodamdjbahaaVC
import Derived.Test.YtlhbodamdjbahaaL4
import Derived.Test.YtlhbodamdjbahaaLawBase
namespace Go.Proofs.Ytlhbodamdjbahaa
open Go.ChangeShapes Go.WideShapes Go.ChangeAt Go.RowKit
set_option linter.unusedSimpArgs false
set_option linter.unusedVariables false
set_option maxRecDepth 100000
theorem clOut_le (xs : List Int) : (clOut xs).length ≤ 122 := by
  unfold clOut
  split
  · rename_i h
    unfold ptsB at h
    rw [Bool.and_eq_true] at h
    have h1 : xs.length ≤ 60 := by simpa using h.1
    rw [clL_len]; omega
  · simp
theorem ValidPoints_x {A : Option Addr} {n c : Nat} {xs : List Int} {w : World} {L B : Nat} (h : Ints w L B A n xs) (hB : B ≤ w.heap.size) (hnc : n ≤ c) (hn : n ≤ 1048576) : Calls Try.prog 7 #[.slice A n c] w (BoolB (ptsB xs) w) := (ValidPoints_any h).mono fun e w' hh => ⟨hh.1, hh.2 ▸ Below.refl _ _⟩
theorem SValidPoints_x {A : Option Addr} {n c : Nat} {xs : List Int} {w : World} {L B : Nat} (h : Ints w L B A n xs) (hB : B ≤ w.heap.size) (hnc : n ≤ c) (hn : n ≤ 1048576) : Calls Try.prog 5 #[.slice A n c] w (BoolB (ptsB xs) w) := (SValidPoints_any h).mono fun e w' hh => ⟨hh.1, hh.2 ▸ Below.refl _ _⟩
theorem CleanPoints_x {A : Option Addr} {n c : Nat} {xs : List Int} {w : World} {L B : Nat} (h : Ints w L B A n xs) (hB : B ≤ w.heap.size) (hnc : n ≤ c) (hn : n ≤ 1048576) : Calls Try.prog 10 #[.slice A n c] w (ListPost (clOut xs) w) := CleanPoints_any h hB
theorem SCleanPoints_x {A : Option Addr} {n c : Nat} {xs : List Int} {w : World} {L B : Nat} (h : Ints w L B A n xs) (hB : B ≤ w.heap.size) (hnc : n ≤ c) (hn : n ≤ 1048576) : Calls Try.prog 9 #[.slice A n c] w (ListPost (clOut xs) w) := SCleanPoints_any h hB
end Go.Proofs.Ytlhbodamdjbahaa
