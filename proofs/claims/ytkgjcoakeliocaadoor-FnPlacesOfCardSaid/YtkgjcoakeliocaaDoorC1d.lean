/- Contracts of impl's RestOf, and of what a call may have: mayHave, hasCalls. -/
import Derived.Test.YtkgjcoakeliocaaDoorC1c
import Derived.Deep.RegionHeld3
import Derived.IntWalk
namespace Go.Proofs.YtkgjcoakeliocaaDoor
open Go.ChangeShapes Go.WideShapes Go.ChangeAt Go.RowKit
set_option linter.unusedSimpArgs false
set_option linter.unusedVariables false

/-- What is ahead of a device. -/
def restL (D : List Int) (p : Int) (S : List Int) (q : Int) : List Int := if validD D p S q then D.drop p.toNat else []

theorem Box.first4 {w : World} {b : Nat} {u0 u1 u2 u3 : Value} {more : List Value} (h : Box w b (u0 :: u1 :: u2 :: u3 :: more)) : Box w b [u0, u1, u2, u3] :=
  ⟨h.1, fun o v hv => h.2 o v (by
    have e : u0 :: u1 :: u2 :: u3 :: more = [u0, u1, u2, u3] ++ more := rfl
    rw [e, List.getElem?_append_left (List.getElem?_eq_some_iff.1 hv).1]
    exact hv)⟩
/-- What the script tells the call with number a. -/
def mayAt (S : List Int) (a : Nat) : Int := S.getD a 60
theorem mayAt_some {S : List Int} {a : Nat} {x : Int} (h : S[a]? = some x) : mayAt S a = x := by simp [mayAt, List.getD, h]
theorem mayAt_none {S : List Int} {a : Nat} (h : S.length ≤ a) : mayAt S a = 60 := by simp [mayAt, List.getD, List.getElem?_eq_none h]
theorem mayAt_in {S : List Int} (h : allB S (-1) 60 = true) (a : Nat) : -1 ≤ mayAt S a ∧ mayAt S a ≤ 60 := by
  rcases Nat.lt_or_ge a S.length with hl | hl
  · rw [mayAt_some (List.getElem?_eq_getElem hl)]
    rw [allB, List.all_eq_true] at h
    exact inB_iff.1 (h _ (List.getElem_mem hl))
  · rw [mayAt_none hl]; omega
def callSt (k : Int) : Int := if k = -1 then 3 else if k = 0 then 2 else 0
def callMay (k : Int) : Int := if k = -1 then 0 else k
def CallPost (k : Int) (w : World) (e : Ending) (w' : World) : Prop :=
  e = .returned (.tuple #[.int .i64 (callMay k), .int .i64 (callSt k)]) ∧ ∃ m, w' = w.drewN m
theorem drew_drewN (w : World) (m : Nat) : (w.drewN m).drew = w.drewN (m + 1) := rfl
theorem drewN_zero (w : World) : w.drewN 0 = w := rfl
theorem setCell_drewN (w : World) (a : Addr) (u : Value) (m : Nat) : (w.drewN m).setCell a u = (w.setCell a u).drewN m := rfl

end Go.Proofs.YtkgjcoakeliocaaDoor
