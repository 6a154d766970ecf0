/- Contracts of canCall and of ReadDevice. -/
import Derived.Test.YtgdhdgalnoabfaaC1e
namespace Go.Proofs.Ytgdhdgalnoabfaa
open Go.ChangeShapes Go.WideShapes Go.ChangeAt Go.RowKit
set_option linter.unusedSimpArgs false
set_option linter.unusedVariables false

/-- A device's numbers, as one. -/
structure Dv where
  d : List Int
  p : Int
  s : List Int
  q : Int
def Dv.zero : Dv := ⟨[], 0, [], 0⟩
def goodCall (D : List Int) (p : Int) (S : List Int) (q : Int) : Bool := validD D p S q && decide (q < 1000)
def rdGood (D : List Int) (p : Int) (S : List Int) (q N : Int) : Bool := goodCall D p S q && inB N 1 60
/-- What ReadDevice gives. -/
def rdOut (D : List Int) (p : Int) (S : List Int) (q N : Int) : Dv × List Int × Int :=
  if rdGood D p S q N then (⟨D, p + ((rdL D p (mayAt S q.toNat) N).length : Int), S, q + 1⟩, rdL D p (mayAt S q.toNat) N, rdSt D p (mayAt S q.toNat)) else (.zero, [], 5)
theorem rdL_len (D : List Int) (p k N : Int) : (rdL D p k N).length ≤ D.length := by
  unfold rdL
  split
  · simp
  · rw [List.length_take, List.length_drop]; omega
theorem rdGood_iff {D S : List Int} {p q N : Int} : rdGood D p S q N = true ↔ validD D p S q = true ∧ q < 1000 ∧ 1 ≤ N ∧ N ≤ 60 := by simp [rdGood, goodCall, inB, and_assoc]

/-- A device, ints and an int, in new memory, all apart. -/
def Post3 (o : Dv × List Int × Int) (w : World) (e : Ending) (w' : World) : Prop :=
  ∃ A n c A' n' c' A1 n1 c1, e = .returned (.tuple #[.agg #[.slice (A) n c, .int .i64 (o.1.p), .slice (A') n' c', .int .i64 (o.1.q)], .slice A1 n1 c1, .int .i64 o.2.2]) ∧ (n ≤ c ∧ n' ≤ c' ∧ n1 ≤ c1) ∧ Below w.heap.size w w' ∧
    DevIn w' w.heap.size w'.heap.size A n A' n' o.1.d o.1.p o.1.s o.1.q ∧ Ints w' w.heap.size w'.heap.size A1 n1 o.2.1 ∧ Apart A1 n1 A n ∧ Apart A1 n1 A' n' ∧ okInt o.2.2

theorem DevIn.zero (w : World) (lo hi : Nat) : DevIn w lo hi none 0 none 0 [] 0 [] 0 :=
  ⟨(Ints.nil _ _ _ 0 _).1, (Ints.nil _ _ _ 0 _).1, fun h => absurd h (by omega), by unfold okInt; omega, by unfold okInt; omega⟩
theorem Post3.zero {w w' : World} (hb : Below w.heap.size w w') : Post3 (Dv.zero, [], 5) w (.returned (.tuple #[.agg #[.slice none 0 0, .int .i64 0, .slice none 0 0, .int .i64 0], .slice none 0 0, .int .i64 5])) w' :=
  ⟨none, 0, 0, none, 0, 0, none, 0, 0, rfl, ⟨Nat.le_refl _, Nat.le_refl _, Nat.le_refl _⟩, hb, DevIn.zero _ _ _, (Ints.nil _ _ _ 0 _).1, fun h => absurd h (by omega), fun h => absurd h (by omega), by unfold okInt; show _ ≤ (5 : Int) ∧ (5 : Int) ≤ _; omega⟩

set_option maxHeartbeats 1000000 in
theorem canCall_any {A A' : Option Addr} {n c n' c' : Nat} {D S : List Int} {p q : Int} {w : World} {L L' B B' : Nat} (h : Ints w L B A n D) (h' : Ints w L' B' A' n' S) (hB : B ≤ w.heap.size) (hB' : B' ≤ w.heap.size) :
    Calls Try.prog 16 #[.agg #[.slice (A) n c, .int .i64 (p), .slice (A') n' c', .int .i64 (q)]] w (BoolB (goodCall D p S q) w) := by
  have H1 := Lib.hid (h.alloc hB (.cells #[.slice (A) n c, .int .i64 (p), .slice (A') n' c', .int .i64 (q)] 25))
  have H2 := Lib.hid (h'.alloc hB' (.cells #[.slice (A) n c, .int .i64 (p), .slice (A') n' c', .int .i64 (q)] 25))
  have X0 := Lib.hid (Box.new w 25 [.slice (A) n c, .int .i64 (p), .slice (A') n' c', .int .i64 (q)])
  go_enter Try.func16, Try.ntmps16
  go_wp2_with fail
  refine (ValidDevice_any H1.out H2.out (by first | omega | (simp; omega) | (simp; done)) (by first | omega | (simp; omega) | (simp; done))).mono ?_
  rintro e w1 ⟨rfl, hb1⟩
  (try simp only [World.size_alloc, World.size_setCell, World.size_drew] at hb1)
  have HB1 := Lib.hid hb1
  clear hb1
  have X1 := Lib.hid (X0.out.below HB1.out (by omega))
  have x0 := (X1.out.2 0 _ rfl).1; have x1 := (X1.out.2 1 _ rfl).1; have x2 := (X1.out.2 2 _ rfl).1; have x3 := (X1.out.2 3 _ rfl).1
  cases hv : validD D p S q
  · have HV := Lib.hid hv
    clear hv
    go_wp2
    go_ret
    exact ⟨ret_bool (by simp [goodCall, HV.out]), below_step HB1.out (by go_grown) (by first | omega | (simp; omega) | (simp; done))⟩
  · have HV := Lib.hid hv
    clear hv
    go_wp2_with fail
    refine (hasCalls_any (by omega) (by omega)).mono ?_
    rintro e w2 ⟨rfl, hb2⟩
    have HB2 := Lib.hid hb2
    have s1 := HB1.out.size
    (try simp only [World.size_alloc, World.size_setCell, World.size_drew] at s1)
    clear hb2
    go_wp2
    go_ret
    exact ⟨ret_bool (by rw [goodCall, HV.out, Bool.true_and]; exact decide_eq_decide.2 (by omega)), below_step HB2.out (below_step HB1.out (by go_grown) (by first | omega | (simp; omega) | (simp; done))) (by omega)⟩

end Go.Proofs.Ytgdhdgalnoabfaa
