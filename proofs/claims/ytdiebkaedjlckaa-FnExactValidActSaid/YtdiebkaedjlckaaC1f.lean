/- Contracts of IsSmooth, impl's and the model's. -/
import Derived.Test.YtdiebkaedjlckaaC1b
import Derived.Deep.RegionHeld3
import Derived.IntWalk
import Derived.WalkLawsBesides
namespace Go.Proofs.Ytdiebkaedjlckaa
section
open Go.ChangeShapes Go.WideShapes Go.ChangeAt Go.RowKit
set_option linter.unusedSimpArgs false
set_option linter.unusedVariables false

/-- No number from index a on is less than 1. -/
def smoothB (S : List Int) (a : Nat) : Bool := (S.drop a).all fun x => decide (1 ≤ x)
theorem smoothB_iff {S : List Int} {a : Nat} : smoothB S a = true ↔ ∀ j x, a ≤ j → S[j]? = some x → 1 ≤ x := by
  unfold smoothB
  rw [List.all_eq_true]
  constructor
  · intro h j x hj hx
    have : x ∈ S.drop a := by
      refine List.mem_of_getElem? (i := j - a) ?_
      rw [List.getElem?_drop, show a + (j - a) = j from by omega]
      exact hx
    simpa using h x this
  · intro h x hx
    obtain ⟨i, hi⟩ := List.mem_iff_getElem?.1 hx
    rw [List.getElem?_drop] at hi
    simpa using h (a + i) x (by omega) hi
theorem smoothB_no {S : List Int} {a j : Nat} {x : Int} (hj : a ≤ j) (hx : S[j]? = some x) (h : x < 1) : smoothB S a = false := by
  cases e : smoothB S a with
  | false => rfl
  | true => have := smoothB_iff.1 e j x hj hx; omega
/-- What a valid device's numbers are. -/
theorem validD_iff {D S : List Int} {p q : Int} : validD D p S q = true ↔ bytesB D = true ∧ S.length ≤ 12 ∧ allB S (-1) 60 = true ∧ (0 ≤ p ∧ p ≤ 60) ∧ (0 ≤ q ∧ q ≤ 1000) := by
  simp [validD, inB, and_assoc]
def SmoothTo (S : List Int) (a k : Nat) : Prop := ∀ j x, a ≤ j → j < k → S[j]? = some x → 1 ≤ x
theorem SmoothTo.succ {S : List Int} {a k : Nat} {x : Int} (h : SmoothTo S a k) (hx : S[k]? = some x) (h1 : 1 ≤ x) : SmoothTo S a (k + 1) := by
  intro j y ha hj hy
  by_cases e : j = k
  · subst e; rw [hx] at hy; injection hy with hy; omega
  · exact h j y ha (by omega) hy

end
section
open Go.ChangeShapes Go.WideShapes Go.ChangeAt Go.RowKit
set_option linter.unusedSimpArgs false
set_option linter.unusedVariables false

/-- What is ahead of a device. -/
def restL (D : List Int) (p : Int) (S : List Int) (q : Int) : List Int := if validD D p S q then D.drop p.toNat else []

set_option maxHeartbeats 1000000 in
theorem RestOf_any {A A' : Option Addr} {n c n' c' : Nat} {D S : List Int} {p q : Int} {w : World} {L L' B B' : Nat} (h : Ints w L B A n D) (h' : Ints w L' B' A' n' S) (hB : B ≤ w.heap.size) (hB' : B' ≤ w.heap.size) (hnc : n ≤ c) :
    Calls Try.prog 47 #[.agg #[.slice (A) n c, .int .i64 (p), .slice (A') n' c', .int .i64 (q)]] w (ListPost (restL D p S q) w) := by
  have HL := Lib.hid h.len
  have H1 := Lib.hid (h.alloc hB (.cells #[.slice (A) n c, .int .i64 (p), .slice (A') n' c', .int .i64 (q)] 25))
  have H2 := Lib.hid (h'.alloc hB' (.cells #[.slice (A) n c, .int .i64 (p), .slice (A') n' c', .int .i64 (q)] 25))
  have X0 := Lib.hid (Box.new w 25 [.slice (A) n c, .int .i64 (p), .slice (A') n' c', .int .i64 (q)])
  cases hv : validD D p S q
  · have HV := Lib.hid hv
    clear hv
    go_enter Try.func47, Try.ntmps47
    go_wp2_with fail
    refine (ValidDevice_any H1.out H2.out (by first | omega | (simp; omega) | (simp; done)) (by first | omega | (simp; omega) | (simp; done))).mono ?_
    rintro e w1 ⟨rfl, hb1⟩
    rw [HV.out]
    have HB1 := Lib.hid hb1
    clear hb1
    go_wp2
    go_ret
    have e0 : restL D p S q = [] := by simp [restL, HV.out]
    rw [e0]
    exact ⟨none, 0, 0, rfl, Nat.le_refl _, below_step HB1.out (by go_grown) (by first | omega | (simp; omega) | (simp; done)), (Ints.nil _ _ _ 0 _).1⟩
  · have HV := Lib.hid hv
    obtain ⟨hbD, _, _, ⟨hp0, hp1⟩, _⟩ := validD_iff.1 hv
    have hD60 := bytesB_le hbD
    have hn60 : n ≤ 60 := by rw [HL.out]; exact hD60
    clear hv hbD hD60
    obtain ⟨a, rfl⟩ := Int.eq_ofNat_of_zero_le hp0
    have HE : Hid (restL D a S q = D.drop a) := by show _ = _; simp [restL, HV.out]
    by_cases hlt : a < n
    · have hlti : (a : Int) < (n : Int) := by omega
      go_enter Try.func47, Try.ntmps47
      go_wp2_with fail
      refine (ValidDevice_any H1.out H2.out (by first | omega | (simp; omega) | (simp; done)) (by first | omega | (simp; omega) | (simp; done))).mono ?_
      rintro e w1 ⟨rfl, hb1⟩
      rw [HV.out]
      (try simp only [World.size_alloc, World.size_setCell, World.size_drew] at hb1)
      have HB1 := Lib.hid hb1
      clear hb1
      have X1 := Lib.hid (X0.out.below HB1.out (by omega))
      have I1 := Lib.hid (H1.out.below HB1.out (by omega))
      have s1 := HB1.out.size
      (try simp only [World.size_alloc, World.size_setCell, World.size_drew] at s1)
      have x0 := (X1.out.2 0 _ rfl).1; have x1 := (X1.out.2 1 _ rfl).1; have x2 := (X1.out.2 2 _ rfl).1; have x3 := (X1.out.2 3 _ rfl).1
      go_wp2_with fail
      refine (copyList_any (I1.out.drop (by omega)) (by omega) (by omega)).mono ?_
      rintro e w2 ⟨A1, n1, c1, rfl, hcc1, hb2, hi2⟩
      have HB2 := Lib.hid hb2
      have HI2 := Lib.hid hi2
      clear hb2 hi2
      have s2 := HB2.out.size
      go_wp2
      go_ret
      rw [HE.out]
      exact ⟨_, _, _, rfl, hcc1, below_step HB2.out (below_step HB1.out (by go_grown) (by omega)) (by omega), HI2.out.more (by omega) (Nat.le_refl _)⟩
    · have hlti : (n : Int) ≤ (a : Int) := by omega
      go_enter Try.func47, Try.ntmps47
      go_wp2_with fail
      refine (ValidDevice_any H1.out H2.out (by first | omega | (simp; omega) | (simp; done)) (by first | omega | (simp; omega) | (simp; done))).mono ?_
      rintro e w1 ⟨rfl, hb1⟩
      rw [HV.out]
      (try simp only [World.size_alloc, World.size_setCell, World.size_drew] at hb1)
      have HB1 := Lib.hid hb1
      clear hb1
      have X1 := Lib.hid (X0.out.below HB1.out (by omega))
      have s1 := HB1.out.size
      (try simp only [World.size_alloc, World.size_setCell, World.size_drew] at s1)
      have x0 := (X1.out.2 0 _ rfl).1; have x1 := (X1.out.2 1 _ rfl).1; have x2 := (X1.out.2 2 _ rfl).1; have x3 := (X1.out.2 3 _ rfl).1
      go_wp2
      go_ret
      rw [HE.out, List.drop_of_length_le (by have := HL.out; omega)]
      exact ⟨none, 0, 0, rfl, Nat.le_refl _, below_step HB1.out (by go_grown) (by omega), (Ints.nil _ _ _ 0 _).1⟩

theorem Box.first4 {w : World} {b : Nat} {u0 u1 u2 u3 : Value} {more : List Value} (h : Box w b (u0 :: u1 :: u2 :: u3 :: more)) : Box w b [u0, u1, u2, u3] :=
  ⟨h.1, fun o v hv => h.2 o v (by
    have e : u0 :: u1 :: u2 :: u3 :: more = [u0, u1, u2, u3] ++ more := rfl
    rw [e, List.getElem?_append_left (List.getElem?_eq_some_iff.1 hv).1]
    exact hv)⟩
/-- What the script tells the call with number a. -/
def mayAt (S : List Int) (a : Nat) : Int := S.getD a 60
theorem mayAt_some {S : List Int} {a : Nat} {x : Int} (h : S[a]? = some x) : mayAt S a = x := by simp [mayAt, List.getD, h]
theorem mayAt_none {S : List Int} {a : Nat} (h : S.length ≤ a) : mayAt S a = 60 := by simp [mayAt, List.getD, List.getElem?_eq_none h]
theorem mayAt_in {S : List Int} (h : allB S (-1) 60 = true) (a : Nat) : -1 ≤ mayAt S a ∧ mayAt S a ≤ 60 := by
  rcases Nat.lt_or_ge a S.length with hl | hl
  · rw [mayAt_some (List.getElem?_eq_getElem hl)]
    rw [allB, List.all_eq_true] at h
    exact inB_iff.1 (h _ (List.getElem_mem hl))
  · rw [mayAt_none hl]; omega
def callSt (k : Int) : Int := if k = -1 then 3 else if k = 0 then 2 else 0
def callMay (k : Int) : Int := if k = -1 then 0 else k
def CallPost (k : Int) (w : World) (e : Ending) (w' : World) : Prop :=
  e = .returned (.tuple #[.int .i64 (callMay k), .int .i64 (callSt k)]) ∧ ∃ m, w' = w.drewN m
theorem drew_drewN (w : World) (m : Nat) : (w.drewN m).drew = w.drewN (m + 1) := rfl
theorem drewN_zero (w : World) : w.drewN 0 = w := rfl
theorem setCell_drewN (w : World) (a : Addr) (u : Value) (m : Nat) : (w.drewN m).setCell a u = (w.setCell a u).drewN m := rfl

end
section
open Go.ChangeShapes Go.WideShapes Go.ChangeAt Go.RowKit
set_option linter.unusedSimpArgs false
set_option linter.unusedVariables false

/-- What a call that reads gives, may being k. -/
def rdL (D : List Int) (p k N : Int) : List Int := if k < 1 then [] else (D.drop p.toNat).take (min N k).toNat
def rdSt (D : List Int) (p k : Int) : Int := if k < 0 then 3 else if k = 0 then 2 else if (D.length : Int) ≤ p then 1 else 0
def ReadPost (b : Nat) (A : Option Addr) (n c : Nat) (p : Int) (A' : Option Addr) (n' c' a : Nat) (D : List Int) (k N : Int) (w : World) (e : Ending) (w' : World) : Prop :=
  ∃ A1 n1 c1, e = .returned (.tuple #[.slice A1 n1 c1, .int .i64 (rdSt D p k)]) ∧ n1 ≤ c1 ∧ Turn w.heap.size b w w' ∧ Ints w' w.heap.size w'.heap.size A1 n1 (rdL D p k N) ∧
    Box w' b [.slice A n c, .int .i64 (p + ((rdL D p k N).length : Int)), .slice A' n' c', .int .i64 ((a : Int) + 1)]

end
section
open Go.ChangeShapes Go.WideShapes Go.ChangeAt Go.RowKit
set_option linter.unusedSimpArgs false
set_option linter.unusedVariables false

/-- A device's numbers, as one. -/
structure Dv where
  d : List Int
  p : Int
  s : List Int
  q : Int
def Dv.zero : Dv := ⟨[], 0, [], 0⟩
def goodCall (D : List Int) (p : Int) (S : List Int) (q : Int) : Bool := validD D p S q && decide (q < 1000)
def rdGood (D : List Int) (p : Int) (S : List Int) (q N : Int) : Bool := goodCall D p S q && inB N 1 60
/-- What ReadDevice gives. -/
def rdOut (D : List Int) (p : Int) (S : List Int) (q N : Int) : Dv × List Int × Int :=
  if rdGood D p S q N then (⟨D, p + ((rdL D p (mayAt S q.toNat) N).length : Int), S, q + 1⟩, rdL D p (mayAt S q.toNat) N, rdSt D p (mayAt S q.toNat)) else (.zero, [], 5)
theorem rdL_len (D : List Int) (p k N : Int) : (rdL D p k N).length ≤ D.length := by
  unfold rdL
  split
  · simp
  · rw [List.length_take, List.length_drop]; omega
theorem rdGood_iff {D S : List Int} {p q N : Int} : rdGood D p S q N = true ↔ validD D p S q = true ∧ q < 1000 ∧ 1 ≤ N ∧ N ≤ 60 := by simp [rdGood, goodCall, inB, and_assoc]

/-- A device, ints and an int, in new memory, all apart. -/
def Post3 (o : Dv × List Int × Int) (w : World) (e : Ending) (w' : World) : Prop :=
  ∃ A n c A' n' c' A1 n1 c1, e = .returned (.tuple #[.agg #[.slice (A) n c, .int .i64 (o.1.p), .slice (A') n' c', .int .i64 (o.1.q)], .slice A1 n1 c1, .int .i64 o.2.2]) ∧ (n ≤ c ∧ n' ≤ c' ∧ n1 ≤ c1) ∧ Below w.heap.size w w' ∧
    DevIn w' w.heap.size w'.heap.size A n A' n' o.1.d o.1.p o.1.s o.1.q ∧ Ints w' w.heap.size w'.heap.size A1 n1 o.2.1 ∧ Apart A1 n1 A n ∧ Apart A1 n1 A' n' ∧ okInt o.2.2

theorem DevIn.zero (w : World) (lo hi : Nat) : DevIn w lo hi none 0 none 0 [] 0 [] 0 :=
  ⟨(Ints.nil _ _ _ 0 _).1, (Ints.nil _ _ _ 0 _).1, fun h => absurd h (by omega), by unfold okInt; omega, by unfold okInt; omega⟩
theorem Post3.zero {w w' : World} (hb : Below w.heap.size w w') : Post3 (Dv.zero, [], 5) w (.returned (.tuple #[.agg #[.slice none 0 0, .int .i64 0, .slice none 0 0, .int .i64 0], .slice none 0 0, .int .i64 5])) w' :=
  ⟨none, 0, 0, none, 0, 0, none, 0, 0, rfl, ⟨Nat.le_refl _, Nat.le_refl _, Nat.le_refl _⟩, hb, DevIn.zero _ _ _, (Ints.nil _ _ _ 0 _).1, fun h => absurd h (by omega), fun h => absurd h (by omega), by unfold okInt; show _ ≤ (5 : Int) ∧ (5 : Int) ≤ _; omega⟩


end
end Go.Proofs.Ytdiebkaedjlckaa
