/- Contracts of IsSmooth, impl's and the model's. -/
import Derived.Test.YtdgfcbnfhengiaaC1b
import Derived.Deep.RegionHeld3
import Derived.IntWalk
import Derived.WalkLawsBesides
namespace Go.Proofs.Ytdgfcbnfhengiaa
section
open Go.ChangeShapes Go.WideShapes Go.ChangeAt Go.RowKit
set_option linter.unusedSimpArgs false
set_option linter.unusedVariables false

/-- No number from index a on is less than 1. -/
def smoothB (S : List Int) (a : Nat) : Bool := (S.drop a).all fun x => decide (1 ≤ x)
theorem smoothB_iff {S : List Int} {a : Nat} : smoothB S a = true ↔ ∀ j x, a ≤ j → S[j]? = some x → 1 ≤ x := by
  unfold smoothB
  rw [List.all_eq_true]
  constructor
  · intro h j x hj hx
    have : x ∈ S.drop a := by
      refine List.mem_of_getElem? (i := j - a) ?_
      rw [List.getElem?_drop, show a + (j - a) = j from by omega]
      exact hx
    simpa using h x this
  · intro h x hx
    obtain ⟨i, hi⟩ := List.mem_iff_getElem?.1 hx
    rw [List.getElem?_drop] at hi
    simpa using h (a + i) x (by omega) hi
theorem smoothB_no {S : List Int} {a j : Nat} {x : Int} (hj : a ≤ j) (hx : S[j]? = some x) (h : x < 1) : smoothB S a = false := by
  cases e : smoothB S a with
  | false => rfl
  | true => have := smoothB_iff.1 e j x hj hx; omega
/-- What a valid device's numbers are. -/
theorem validD_iff {D S : List Int} {p q : Int} : validD D p S q = true ↔ bytesB D = true ∧ S.length ≤ 12 ∧ allB S (-1) 60 = true ∧ (0 ≤ p ∧ p ≤ 60) ∧ (0 ≤ q ∧ q ≤ 1000) := by
  simp [validD, inB, and_assoc]
def SmoothTo (S : List Int) (a k : Nat) : Prop := ∀ j x, a ≤ j → j < k → S[j]? = some x → 1 ≤ x
theorem SmoothTo.succ {S : List Int} {a k : Nat} {x : Int} (h : SmoothTo S a k) (hx : S[k]? = some x) (h1 : 1 ≤ x) : SmoothTo S a (k + 1) := by
  intro j y ha hj hy
  by_cases e : j = k
  · subst e; rw [hx] at hy; injection hy with hy; omega
  · exact h j y ha (by omega) hy

end
section
open Go.ChangeShapes Go.WideShapes Go.ChangeAt Go.RowKit
set_option linter.unusedSimpArgs false
set_option linter.unusedVariables false

/-- What is ahead of a device. -/
def restL (D : List Int) (p : Int) (S : List Int) (q : Int) : List Int := if validD D p S q then D.drop p.toNat else []

theorem Box.first4 {w : World} {b : Nat} {u0 u1 u2 u3 : Value} {more : List Value} (h : Box w b (u0 :: u1 :: u2 :: u3 :: more)) : Box w b [u0, u1, u2, u3] :=
  ⟨h.1, fun o v hv => h.2 o v (by
    have e : u0 :: u1 :: u2 :: u3 :: more = [u0, u1, u2, u3] ++ more := rfl
    rw [e, List.getElem?_append_left (List.getElem?_eq_some_iff.1 hv).1]
    exact hv)⟩
/-- What the script tells the call with number a. -/
def mayAt (S : List Int) (a : Nat) : Int := S.getD a 60
theorem mayAt_some {S : List Int} {a : Nat} {x : Int} (h : S[a]? = some x) : mayAt S a = x := by simp [mayAt, List.getD, h]
theorem mayAt_none {S : List Int} {a : Nat} (h : S.length ≤ a) : mayAt S a = 60 := by simp [mayAt, List.getD, List.getElem?_eq_none h]
theorem mayAt_in {S : List Int} (h : allB S (-1) 60 = true) (a : Nat) : -1 ≤ mayAt S a ∧ mayAt S a ≤ 60 := by
  rcases Nat.lt_or_ge a S.length with hl | hl
  · rw [mayAt_some (List.getElem?_eq_getElem hl)]
    rw [allB, List.all_eq_true] at h
    exact inB_iff.1 (h _ (List.getElem_mem hl))
  · rw [mayAt_none hl]; omega
def callSt (k : Int) : Int := if k = -1 then 3 else if k = 0 then 2 else 0
def callMay (k : Int) : Int := if k = -1 then 0 else k
def CallPost (k : Int) (w : World) (e : Ending) (w' : World) : Prop :=
  e = .returned (.tuple #[.int .i64 (callMay k), .int .i64 (callSt k)]) ∧ ∃ m, w' = w.drewN m
theorem drew_drewN (w : World) (m : Nat) : (w.drewN m).drew = w.drewN (m + 1) := rfl
theorem drewN_zero (w : World) : w.drewN 0 = w := rfl
theorem setCell_drewN (w : World) (a : Addr) (u : Value) (m : Nat) : (w.drewN m).setCell a u = (w.setCell a u).drewN m := rfl

end
section
open Go.ChangeShapes Go.WideShapes Go.ChangeAt Go.RowKit
set_option linter.unusedSimpArgs false
set_option linter.unusedVariables false

/-- What a call that reads gives, may being k. -/
def rdL (D : List Int) (p k N : Int) : List Int := if k < 1 then [] else (D.drop p.toNat).take (min N k).toNat
def rdSt (D : List Int) (p k : Int) : Int := if k < 0 then 3 else if k = 0 then 2 else if (D.length : Int) ≤ p then 1 else 0
def ReadPost (b : Nat) (A : Option Addr) (n c : Nat) (p : Int) (A' : Option Addr) (n' c' a : Nat) (D : List Int) (k N : Int) (w : World) (e : Ending) (w' : World) : Prop :=
  ∃ A1 n1 c1, e = .returned (.tuple #[.slice A1 n1 c1, .int .i64 (rdSt D p k)]) ∧ n1 ≤ c1 ∧ Turn w.heap.size b w w' ∧ Ints w' w.heap.size w'.heap.size A1 n1 (rdL D p k N) ∧
    Box w' b [.slice A n c, .int .i64 (p + ((rdL D p k N).length : Int)), .slice A' n' c', .int .i64 ((a : Int) + 1)]

end
section
open Go.ChangeShapes Go.WideShapes Go.ChangeAt Go.RowKit
set_option linter.unusedSimpArgs false
set_option linter.unusedVariables false

/-- A device's numbers, as one. -/
structure Dv where
  d : List Int
  p : Int
  s : List Int
  q : Int
def Dv.zero : Dv := ⟨[], 0, [], 0⟩
def goodCall (D : List Int) (p : Int) (S : List Int) (q : Int) : Bool := validD D p S q && decide (q < 1000)
def rdGood (D : List Int) (p : Int) (S : List Int) (q N : Int) : Bool := goodCall D p S q && inB N 1 60
/-- What ReadDevice gives. -/
def rdOut (D : List Int) (p : Int) (S : List Int) (q N : Int) : Dv × List Int × Int :=
  if rdGood D p S q N then (⟨D, p + ((rdL D p (mayAt S q.toNat) N).length : Int), S, q + 1⟩, rdL D p (mayAt S q.toNat) N, rdSt D p (mayAt S q.toNat)) else (.zero, [], 5)
theorem rdL_len (D : List Int) (p k N : Int) : (rdL D p k N).length ≤ D.length := by
  unfold rdL
  split
  · simp
  · rw [List.length_take, List.length_drop]; omega
theorem rdGood_iff {D S : List Int} {p q N : Int} : rdGood D p S q N = true ↔ validD D p S q = true ∧ q < 1000 ∧ 1 ≤ N ∧ N ≤ 60 := by simp [rdGood, goodCall, inB, and_assoc]

/-- A device, ints and an int, in new memory, all apart. -/
def Post3 (o : Dv × List Int × Int) (w : World) (e : Ending) (w' : World) : Prop :=
  ∃ A n c A' n' c' A1 n1 c1, e = .returned (.tuple #[.agg #[.slice (A) n c, .int .i64 (o.1.p), .slice (A') n' c', .int .i64 (o.1.q)], .slice A1 n1 c1, .int .i64 o.2.2]) ∧ (n ≤ c ∧ n' ≤ c' ∧ n1 ≤ c1) ∧ Below w.heap.size w w' ∧
    DevIn w' w.heap.size w'.heap.size A n A' n' o.1.d o.1.p o.1.s o.1.q ∧ Ints w' w.heap.size w'.heap.size A1 n1 o.2.1 ∧ Apart A1 n1 A n ∧ Apart A1 n1 A' n' ∧ okInt o.2.2

theorem DevIn.zero (w : World) (lo hi : Nat) : DevIn w lo hi none 0 none 0 [] 0 [] 0 :=
  ⟨(Ints.nil _ _ _ 0 _).1, (Ints.nil _ _ _ 0 _).1, fun h => absurd h (by omega), by unfold okInt; omega, by unfold okInt; omega⟩
theorem Post3.zero {w w' : World} (hb : Below w.heap.size w w') : Post3 (Dv.zero, [], 5) w (.returned (.tuple #[.agg #[.slice none 0 0, .int .i64 0, .slice none 0 0, .int .i64 0], .slice none 0 0, .int .i64 5])) w' :=
  ⟨none, 0, 0, none, 0, 0, none, 0, 0, rfl, ⟨Nat.le_refl _, Nat.le_refl _, Nat.le_refl _⟩, hb, DevIn.zero _ _ _, (Ints.nil _ _ _ 0 _).1, fun h => absurd h (by omega), fun h => absurd h (by omega), by unfold okInt; show _ ≤ (5 : Int) ∧ (5 : Int) ≤ _; omega⟩


end
end Go.Proofs.Ytdgfcbnfhengiaa
