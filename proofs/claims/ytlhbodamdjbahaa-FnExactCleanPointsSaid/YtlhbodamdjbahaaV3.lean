/- impl's iterator over the points of bytes: what it gives. -/
import Derived.RangeFuncNested
import Derived.RangeFuncBound
import Derived.RangeFuncCalls
import Derived.RangeFuncLeaves
import Derived.RangeFuncBox
import Derived.Shelf.Abstract
import Derived.Shelf.RegionOpen
import Derived.OwnWalkIn
import Derived.TacticsInMore
import Derived.LoopNIn
import Derived.LoopIn
import Derived.Maps.AppendAt
import Derived.Test.YtlhbodamdjbahaaV2
namespace Go.Proofs.Ytlhbodamdjbahaa
open Go.ChangeShapes Go.WideShapes Go.ChangeAt Go.RowKit Go.Shelf
set_option linter.unusedSimpArgs false
set_option linter.unusedVariables false
set_option maxRecDepth 100000
attribute [local go_sem] Oper.semAt_some

/-- A point with the index where it begins. -/
abbrev Pt : Type := { x : Nat × Int // x.1 ≤ 60 ∧ ptOk x.2 }
def encPt (x : Pt) : Array Value := #[.int .i64 (x.1.1 : Int), .int .i32 x.1.2]
def KpP (n₀ Bs : Nat) (W W' : World) : Prop := Below n₀ W W' ∧ W'.heap[Bs]? = W.heap[Bs]?
theorem KpP.t {n₀ Bs : Nat} {A B C : World} (h : KpP n₀ Bs A B) (k : KpP n₀ Bs B C) : KpP n₀ Bs A C := ⟨h.1.trans k.1, k.2.trans h.2⟩
theorem KpP.b {n₀ Bs : Nat} {w : World} (hn : n₀ ≤ w.heap.size) (hb : Bs < w.heap.size) (W : World) (l : Nat) (o o' : Obj) (hl : w.heap.size ≤ l) (h : W.heap[l]? = some o) (h1 : o.isCells = false) (h2 : o.isWalk = false) : KpP n₀ Bs W (W.putObj l o') :=
  ⟨belowK_b hn W l o o' hl h h1 h2, World.putObj_heap_other (by omega)⟩
theorem grown_of_below {W W' : World} (h : Below W.heap.size W W') : W.grownBy W' none := ⟨h.os, h.tape, h.output, h.size, fun k hk _ => h.block k hk⟩
theorem cell_of_block {W W' : World} {b o : Nat} (h : W'.heap[b]? = W.heap[b]?) : W'.cell? ⟨b, o, none⟩ = W.cell? ⟨b, o, none⟩ := World.cell?_of_block (w := W) (a := ⟨b, o, none⟩) h

/-- At most 61 bytes. -/
def bytes1 (xs : List Int) : Prop := xs.length ≤ 61 ∧ allB xs 0 255 = true
theorem bytes1_of {xs : List Int} (h : bytesB xs = true) : bytes1 xs := ⟨by have := bytesB_le h; omega, bytesB_all h⟩
theorem seq_step {xs : List Int} {k : Nat} (h : k < xs.length) : seqP k (xs.drop k) = (k, fpt (xs.drop k)) :: seqP (k + fsz (xs.drop k)) (xs.drop (k + fsz (xs.drop k))) := by
  have hne : xs.drop k ≠ [] := by
    intro e
    have := congrArg List.length e
    rw [List.length_drop] at this
    simp at this; omega
  rw [seqP_step hne, List.drop_drop]
theorem fsz_in {xs : List Int} {k : Nat} (h : k < xs.length) : k + fsz (xs.drop k) ≤ xs.length := by
  have hne : xs.drop k ≠ [] := by
    intro e
    have := congrArg List.length e
    rw [List.length_drop] at this
    simp at this; omega
  have := fsz_le hne
  rw [List.length_drop] at this
  omega

end Go.Proofs.Ytlhbodamdjbahaa
